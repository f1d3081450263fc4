import PyProof.Rows.All
import KE.IntBitsLaws
import KE.KDictOf
import KE.KDictSum
import KE.KIntText
import KE.KSortTup
import KE.LcSums
import KE.RegKIsAll
import KE.KNestM
import KE.KPairComp
import Lean
import PySem.Challenge.RW_stonelay_k53_thoughts_walked
open List renaming length_map->ZB,mem_cons_of_mem->Y1,mem_filter->X8,length_append->X6,mem_cons_self->X5,mem_of_getElem?->X4,getElem?_eq_getElem->XX,getElem?_eq_some_iff->XV,mem_append->XU,mem_cons->XQ,mem_map->XN,length_take->XM,take_length->XE,getElem?_map->XC,map_append->XB,size_toArray->Xy,append_nil->Xx,length_filter_le->Xw,map_cons->Xu,getD_eq_getElem?_getD->Xq,length_cons->Xn,filter_sublist->Xm,take_add_one->Xe,map_congr_left->Xb,append_assoc->W9,filter_append->W6,mem_append_left->W4,mem_append_right->WZ,nodup_append->WX,perm_ext_iff_of_nodup->WW,take_append_drop->WU,take_of_length_le->WT,nodup_cons->WS,any_eq_true->WL,range->WG,length_range->WE,all_eq_true->WC,filter_cons->WB,mem_singleton->Wz,length_eq_zero_iff->Wy,drop_eq_getElem_cons->Ww,mem_range->Wv,map_map->Ws,replicate->Wp,filter_eq_nil_iff->Wn,length_drop->Wl,countP_cons->Wi,mem_flatten->Wh,flatMap_append->Wd,pairwise_map->V9,mem_of_mem_take->V8,flatten_append->V0,flatten_cons->VZ,filter_congr->VY,flatMap_cons->VX,foldl_cons->VR,eq_nil_iff_forall_not_mem->VQ,getElem?_append_left->VP,find?_cons->VH,getElem?_append_right->Vv,pairwise_iff_getElem->Vs,isEmpty_eq_false_iff->Vq,filter_filter->Vk,nodup_nil->Vf,countP_congr->Vb,length_nil->U7,filterMap_cons->U4,replicate_succ->U3,sublist_flatten_of_mem->UZ,getElem_mem->UV,nil_sublist->UT,length_mapIdx->UO,range_succ->UI,foldl_append->UF,sublist_append_left->UA,take_succ_cons->Ux,getElem?_drop->Uk,ne_nil_of_mem->Ui,map->Ug,countP_eq_length_filter->Uc,pairwise_append->TZ,getElem?_of_mem->TX,any_map->TR,map_set->TQ,mem_flatMap->TL,exists_mem_of_ne_nil->TK,mem_or_eq_of_mem_set->TJ,getElem?_range->TF,getElem_of_mem->TD,reverse_append->TC,countP_eq_zero->TB,filter_eq_self->Tx,getElem?_take_of_lt->Ts,length_erase_of_mem->Tq,filter_map->To,mem_filterMap->Th,find?_eq_none->Te,set_eq_take_append_cons_drop->S7,take_sublist->SX,ext_getElem?->SQ,drop_eq_nil_of_le->SN,length_pos_of_mem->SL,perm_append_comm->SG,getElem?_eq_none->SF,lookup_cons->SA,any_cons->Sw,map_id->Sm,reverse_reverse->Sj,length_set->Sh,map_nil->Sa,take_zero->RW,set_cons_succ->RQ,pairwise_cons->RP,set_cons_zero->RO,getElem?_zip_eq_some->RK,extract_eq_take_drop->RJ,mem_of_find?_eq_some->RF,lookup->RE,any_eq_false->RC,find?_append->RB,drop_sublist->RA,reverse_perm->Rz,all_cons->Rx,cons_append->Rl,not_mem_nil->Rj,flatMap_nil->Re,mapIdx_cons->Rc,getElem?_cons_succ->Q1,getElem?_set_self->P1,of_mem_zip->PK,nil_append->PJ,find?_some->PF,mem_mapIdx->PB,length_singleton->Pz,mem_iff_getElem?->Px,pairwise_reverse->Ps,mem_of_mem_erase->Pr,filter->Pi,drop_zero->Pe,find?_map->Pc,drop_drop->Pa,getElem?_set_ne->O8,mem_of_mem_drop->O3,map_eq_nil_iff->OQ,countP_pos_iff->OP,toList_toArray->OM,map_take->OG,sum_cons->OD,Nodup->Ox
open PySem renaming wpAny_bind->X9,Value->X7,Shared->X0,wpAny_pure->XO,Paired->XG,FuncData->XF,mainGlobals->XD,sizeLine->Xv,Program->Xl,model->Xi,wpAny->Xg,boot_len->Xa,World->WY,starEach->WV,Around->WK,mem_of_lookup->Wt,SetTable->Wq,wpAny_loadPart'->Wg,PyData->Wc,compareOp->Wb,wpAny_holding->V7,tupleKind->VW,wpAny_truthy_bool->VN,foldedSetIterable->VM,codeAny_builtin->VG,cLine->VD,wpAny_newObj_type->Vz,wpAny_mono->Vo,Spec->Va,sysModules->U9,wpAny_call_entry->UW,wpAny_rule->US,Builtin->UM,builtinLookup_eq_fast->UL,wpAny_passesOwn->UJ,bootBuiltins->UG,plainId_quiet->UB,relabel->Uz,storedH->Uy,Scope->Uw,wpAny_execs_nil->Uf,rawInt->T9,wpAny_dictEntries->T6,binaryOp->T4,sizeLine_eq->T2,wpAny_forIn_list->TM,behindInMarks->Tu,typeLookup_type->Tp,backTo->Tl,entryOfKey->Tk,assignEach->Tj,wpAny_Call_Name_kw->Tf,sliceBounds->S9,codeAny->S6,codeAny_mono->S4,wpAny_pyIter_list->SY,wpAny_pyIter_enum->SW,wpAny_setState_of->SU,ofAClassStatement->SS,wpAny_isTrue_Compare1->SK,wpAny_execs_cons->SC,GenState->Sq,NameKind->So,letOwnedTupleGo->Si,wpAny_specialOf->Sg,wpAny_setEntries_of->Sc,wpAny_typeOf->R9,swapsWith->R5,cellsFrom->R4,pyNext->R3,call_meets->R1,firstArgMember->RY,wpAny_standAt->Ry,wpAny_attempt->Rw,setSearchFrom->Rv,wpAny_comprehension_free->Ru,DictEntry->Rn,pickOrder->Rm,wpAny_isInstance->Ri,wpAny_askSetting->Rf,wpAny_callSpecial?_slot->QR,seqIndex_neg->P8,wpAny_getItem_list_neg->PY,wpAny_updateSeq->PD,wpAny_notOrdered_dict->Py,seqIndex_of->Pm,storedH_new->Pl,unsupported->Pk,hashByValue->Pj,intText?->Pf,isSubtype_type->Pd,wpAny_setField->Pb,codeAny_call_builtin->O5,holding->OX,callerA->OV,comprehension->OJ,dictSetHashed->OI,wpAny_newList->OF,builtinsNs->OB,typeLookup->OA,closureFor->Oz,atKey->Ov,BindsTo->Ou,valueAt->Ot,ReadsAll->Os,Result->On,pushCells->Ol,again->Oj,wpAny_of_eq->Oi,Keyword->Oh,bindL->Of,bindC->Oe,assign->Od,IntMulOk->Oc,entryFor->Ob,CmpOp->Oa
open Array renaming length_toList->XZ,getElem?_toList->XA,toList_append->WM,getElem?_eq_none->WH,getElem?_eq_some_iff->Vu,getElem?_eq_getElem->Vr,size_map->Ve,toList_reverse->Vd,toList_map->UU,size_reverse->UP,perm_iff_toList_perm->UN,getElem_toList->UD,size_extract->Uj,getElem?_setIfInBounds->Ud,size_setIfInBounds->Tr,toList_push->SR,size_append->SO,getElem?_extract->SM,forIn_toList->RS,toList_setIfInBounds->RL,getElem?_replicate->Rq,getElem?_reverse->PP,mem_toList_iff->O7,toList_extract->O2,toList_filter->OR,toList_modify->ON
open Nat renaming le_trans->XY,le_refl->XR,lt_of_le_of_lt->XJ,lt_of_lt_of_le->Xj,ne_of_lt->Xf,zero_le->W3,lt_succ_of_lt->Wf,le_succ->VO,lt_irrefl->VL,zero_add->VI,le_add_right->Vl,not_lt_zero->U6,succ_ne_self->UX,lt_or_ge->Uo,succ_pos->Um,pow_succ->Ul,le_succ_of_le->T7,pow_le_pow_right->TY,le_of_lt->TW,ne_of_gt->TV,lt_trans->TU,lt_of_lt_of_eq->Tb,sub_self->S2,lt_trichotomy->SV,lt_succ_self->Sz,add_le_add_right->Sk,mod_lt->R0,add_sub_cancel->RR,add_sub_cancel_left->QP,succ_mul->P7,add_zero->P6,one_le_iff_ne_zero->PN,mul_le_mul->O9,pow_lt_pow_right->O0,sub_zero->Op
open PySem.W renaming Frag->XW,nsIn->Xs,mg_none_of->WF,kia_one->VS,mg_of->VC,hashAt->VB,fnOf->UH,excIn->Ua,keepIn->T1,hideAll_get->TH,mroIn->Tv,codeIn->S1,methodObj->RD,cellsFrom_some->P0,instObj->PL,OpenLaw->PH,lookIn->Pg,WalkO->OL
open Bool renaming false_ne_true->XT,eq_false_iff->Xk,eq_iff_iff->WN,not_eq_true'->WA,false_eq_true->Wu,and_eq_true->Wj,and_eq_true_iff->VT,and_true->Sr,and_false->RZ,false_and->Ph,or_false->OK,and_comm->OE
open PySem.Heap renaming get?_push_of_some->XS,lt_size->Xz,get?_push_size->W1,get?_update_self->We,SameBut->V5,size_push->UR,get?_none_of_le->UE,get?_update_other->Uh,get?_update_ne->Sb,FlyingW->Oq
open PySem.SetTable renaming bits->XI,below->Xr,insertAt->Xh,turns->W5,runEnd->VF,leap->Vj,grown->Uu,sizeAbove->Tc,Probe->RX,advance->Rh,fill->OH
open PyProof.Rows renaming wpS_bind->XH,wpS_pure->Xp,arrOf->Xo,Keyed->Xc,SortSt->WP,pendingOf->WO,boot_sorted->Wm,wpS_forRange->V4,callWith_type1->VE,boot_list->Vx,boot_min->Vp,boot_max->UK,wpS_mono->Uv,pairsOf_toList->Ut,seqObj->Ur,boot_isinstance->Ub,boot_any->T8,SortKind->T3,wpS_modify->Ti,failedOf->S5,boot_int->SE,AllBare->Sy,wpS_get->Sx,reverseSlice'->Ss,mem_zip_self->R8,listItems_at->RG,wpS_lift->Ro,boot_tuple->Qr,envOfC->Qb,subscriptTail_builtinR->PZ,boot_dict->PM,boot_sum->Pq,boot_abs->Pp,boot_str->Po,IntsAre->OW,pairsOf->OU,getElem?_mirror_all->OO,IsTup->Og
open PySem.PassesOwn renaming never->Xd
open PySem.F renaming plainAttrs_list->W7,slot_list_append->WJ,type_list_append->WI,slot_list_extend->Vh,type_list_extend->Vg,slot_dict_get->SJ,excBase_ValueError->RM,slot_dict_update->Rr,args_dict_get_3->Rb,plainAttrs_dict->Ra,plain_list_iadd->QQ,entry_dict_get->PV,slot_set_iter->Pw,plain_set_new->Pu,args_list_extend_2->O6,entry_list_extend->OT
open PySem.PyData renaming depthAll->W2,canLayAll0->WR,eqv->WQ,canLay0->Wr,str->U8,bool->S8,int->SD
open PySem.Value renaming ref->WD,int->Vt,none->UC,type->P9,bool->OC,str->Om
open Classical renaming byContradiction->Wx
open PySem.Heap.SameBut renaming update->Wo
open Int renaming toNat_natCast->Wa,le_of_lt->V3,zero_add->V2,le_trans->VA,emod_nonneg->U5,le_refl->UY,emod_lt_of_pos->UQ,natCast_add->Tn,natAbs_natCast->Ta,neg_le_neg->SZ,toNat_of_nonneg->Se,add_zero->R7,not_lt->Ow,mul_comm->Oo
open PySem.Around renaming under_plainId->V6
open ForInStep renaming yield->V1
open Or renaming inl->VU,inr->Pn
open PySem.Builtin.List renaming listTooLong->VJ,listExtendWith->R6,listSameRef->Rp
open PySem.SetTable.below renaming go->Vy
open Option renaming map_eq_some_iff->Vw,isSome_iff_exists->Vi,map_some->Ue,getD_some->TN
open False renaming elim->Vn
open PySem.Obj renaming mapSeq->Vm,data_mapDictKeys->T0,mapFields->Su,isFreed_of_dict->Sd
open Ne renaming symm->Vc
open PyProof.Rows.F renaming plain_set_update_loop->U2,entry_set_update_loop->Tw
open List.Sublist renaming length_le->U1
open PySem.Builtin.Str renaming strSliceIndices->U0
open PySem.Builtin.Dict renaming updateFrom->Us,entriesForEmpty->Sf,addKeywords->Rt,selfAndRest->Rs,pairItems->PU,mergeDict->PQ,quietEq->O4
open True renaming intro->Uq
open PySem.SetTable.probe renaming go->T5
open List.Perm renaming length_eq->Tz,append_left->SH
open PySem.NameKind renaming cell->Tt
open PySem.Shared renaming TypeIs->Sv
open PySem.Calls renaming evalArgs_plain->Sl,spliced_cons->RT,Name_function_global->RN,call_function_entry->RI,callWith_builtin->PX
open PySem.SeqAt renaming eqv_refl->RU
open Sum renaming inl->OZ,inr->OY
open PUnit renaming unit->Oy
set_option Elab.async false
set_option linter.all false
set_option maxRecDepth 100000
theorem bq {c:Prop}{h:Decidable c}(n:¬c){α:Sort _}{t e:α}:ite c t e=e:=if_neg n
theorem bw {c:Prop}{h:Decidable c}(n:c){α:Sort _}{t e:α}:ite c t e=t:=if_pos n
theorem br {p:Prop}[Decidable p](h:p):decide p=true:=decide_eq_true h
theorem bu {p:Prop}[Decidable p]:(decide p=true)=p:=decide_eq_true_eq
theorem bf {p:Prop}[Decidable p](h:¬p):decide p=false:=decide_eq_false h
theorem bg {p:Prop}[Decidable p](h:decide p=true):p:=of_decide_eq_true h
namespace zcu
open PySem PySem.W
noncomputable def sel:List Nat->Nat->List Stmt->List Stmt
 | _,_,[]=>[]
 | ns,i,x::xs=>match ns.contains i with
  | true=>sel ns (i+1) xs
  | false=>x::sel ns (i+1) xs
theorem zkd {r:OpenRow}{q:Xl}{H:Hook}{d:DefRec}{kwd:List (PySem.Str×Expr)}{N:Nat}(left:LeftO r.prog q [] (λs=>xlAt q [] s&&recOk (RowW.records r.toRowW) s) (Hook.obs H) (Hook.val H) N)
  (hdef:defOf q r.name=some (d,kwd)) (hp:r.prog.theDef r.name=some (d.params,d.body,d.scope)) (hk:kwWritten? d.params.kwonlyargs d.params.kw_defaults=some kwd) (hwr:(!r.writes || r.records.isEmpty)=true)
  (k1:r.wellSaid=true) (ok:(chainsOk q&&opensWell r.prog&&(frees r.toRowW&&r.within.isEmpty))=true) (hb:r.prog.bare) (hw:r.toRowW.promised)
  (call:WalkO q [] (XL q []) (Hook.says H) r.toRowW d kwd λf vs=>PySem.call f vs):r.Holds :=
 holds_open (q:=q) (loose:=[]) (Xt:=λs=>xlAt q [] s&&recOk (RowW.records r.toRowW) s) (XP:=XL q []) (Yf:=Hook.obs H) (Ya:=Hook.val H) (YP:=Hook.says H) (N:=N) left (Hook.of H) (Hook.keeps H) (λs e=>xl_of s (VT.mp e).1) XL.keeps hdef hp hk
  (λs e=>recFacts_of (VT.mp e).2) hwr k1 ok hb hw call
noncomputable def top (i:Nat):Stmt:=PySem.Challenge.pw_stonelay_k53_thoughts_walked.main.body.getD i (.Pass ⟨0,0,0,0⟩)
noncomputable def JV (s:Stmt):Arguments:=match s with
 | .FunctionDef _ a _ _ _ _ _ _ _ _=>a
 | _=>{ posonlyargs:=[],args:=[],vararg:=none,kwonlyargs:=[],kw_defaults:=[],kwarg:=none,defaults:=[] }
noncomputable def xo (s:Stmt):List Stmt:=match s with
 | .FunctionDef _ _ b _ _ _ _ _ _ _=>b
 | _=>[]
noncomputable def zp (s:Stmt):Uw:=match s with
 | .FunctionDef _ _ _ _ _ _ sc _ _ _=>sc
 | _=>{ kind:=.function,names:=[],isGenerator:=false,isCoroutine:=false }
def HD (K:XW)(x:Str)(i:Nat):Prop:=∃(f:Addr) (oc:X7) (od an:Option Addr) (sl:Array (Option X7)) (kV dc pm cd ct:X7),Xs K XD x=some (some (.ref f))/\K.lookup f=some ⟨oc,od,.func (UH x x (JV (top i)) (xo (top i)) (zp (top i)) .none kV dc pm an cd ct),sl⟩/\S1 K cd x=true/\T1 K (.ref f)=true
def zfQ:List X7:=[.type "ValueError",.type "Exception",.type "BaseException",.type "object"]
structure Facts (K:XW):Prop where
 zag:HD K "closed" 7
 xZ:HD K "open_cells" 8
 zah:HD K "around" 9
 JW:HD K "number_at" 10
 ZQ:HD K "cells_of" 11
 Ql:HD K "sign_at" 12
 zca:HD K "parts" 14
 zai:HD K "joined" 15
 ziK:HD K "far" 16
 x8:HD K "numbers_of" 17
 x9:HD K "bare_wrong" 18
 yj:HD K "closed_around" 19
 yx:HD K "part_layings" 22
 ZR:HD K "needs_at" 23
 Qm:HD K "may_fit" 24
 xq:HD K "part_counts" 25
 Qn:HD K "counted" 26
 Qo:HD K "choices" 28
 zaj:HD K "poured" 29
 xr:HD K "near_counts" 31
 zcb:HD K "count" 32
 Ja:HD K "all_poured" 33
 zcc:HD K "dealt" 34
 Qp:HD K "follows" 37
 ZS:HD K "asked_by" 38
 ZT:HD K "known_of" 39
 xu:HD K "still_asked" 40
 zak:HD K "gained" 41
 Qq:HD K "settled" 42
 ZU:HD K "thoughts" 45
 JX:HD K "all_steps" 46
 xw:HD K "place_lists" 47
 Jb:HD K "first_step" 48
 xx:HD K "_law_cell_at" 50
 JY:HD K "_law_mixed" 51
 ZV:HD K "_law_mark" 52
 JZ:HD K "_law_drawn" 53
 J0:HD K "_law_cells" 54
 ZW:HD K "_law_near" 55
 J1:HD K "_law_board" 56
 ZX:HD K "_law_bent" 57
 Jc:HD K "_law_things" 58
 J2:HD K "_law_lists" 59
 ZY:HD K "_law_next" 60
 Jd:HD K "_law_walked" 61
 J3:HD K "_law_alone" 62
 ziL:HD K "law" 63
 ziM:Xs K XD "abs"=some none
 ziN:Xs K XD "any"=some none
 zeY:Xs K XD "dict"=some none
 J4:Xs K XD "enumerate"=some none
 ziO:Xs K XD "int"=some none
 Je:Xs K XD "isinstance"=some none
 ziP:Xs K XD "len"=some none
 zeZ:Xs K XD "list"=some none
 ziQ:Xs K XD "max"=some none
 ziR:Xs K XD "min"=some none
 zcd:Xs K XD "range"=some none
 ziS:Xs K XD "set"=some none
 zal:Xs K XD "sorted"=some none
 ziT:Xs K XD "str"=some none
 ziU:Xs K XD "sum"=some none
 zce:Xs K XD "tuple"=some none
 ziV:∃t,Xs K XD "ALL"=some (some (.str "all" t))
 xy:∃t,Xs K XD "CLOSED_SIGN"=some (some (.str "?" t))
 yy:∃t,Xs K XD "MOST_OF_PART"=some (some (.int 14 t))
 xA:∃t,Xs K XD "MOST_THINGS"=some (some (.int 30 t))
 yC:∃t,Xs K XD "NO_CELL_SIGN"=some (some (.str "#" t))
 c_NoLaying:∃jaa:Addr,Xs K XD "NoLaying"=some (some (.ref jaa))/\Ua K jaa zfQ "ValueError.__new__"=true/\Tv K jaa (.ref jaa)=some true
 c_TooGreat:∃jab:Addr,Xs K XD "TooGreat"=some (some (.ref jab))/\Ua K jab zfQ "ValueError.__new__"=true
end zcu
noncomputable def zcu.view:PySem.Program:={ PySem.Challenge.rw_stonelay_k53_thoughts_walked.prog with main:={ PySem.Challenge.rw_stonelay_k53_thoughts_walked.prog.main with body:=zcu.sel [0,4,13,20,27,30,35,43,49] 0 PySem.Challenge.rw_stonelay_k53_thoughts_walked.prog.main.body } }
namespace zcu
open PySem PySem.W
theorem left4 {E:Option Shared}{β γ δ ε α:Type}{O:Shared->β×γ×δ×ε}{g:β×γ×δ×ε}{Y:Shared->α}{y:α}(a:E.map (λs=>(O s).1)=some g.1)(b:E.map (λs=>((O s).2.1,(O s).2.2.1))=some (g.2.1,g.2.2.1))(c:E.map (λs=>(O s).2.2.2)=some g.2.2.2)(d:E.map Y=some y):E.map (λs=>(O s,Y s))=some (g,y):=by
 cases E with
 | none=>cases a
 | some s=>exact congrArg some (Prod.ext (Prod.ext (Option.some.inj a) (Prod.ext (congrArg (·.1) (Option.some.inj b)) (Prod.ext (congrArg (·.2) (Option.some.inj b)) (Option.some.inj c)))) (Option.some.inj d))
noncomputable abbrev OS:=openSeen view [] (importedModules PySem.Challenge.rw_stonelay_k53_thoughts_walked.row.prog.main.body) (λs=>xlAt view [] s&&recOk (RowW.records PySem.Challenge.rw_stonelay_k53_thoughts_walked.row.toRowW) s) true
noncomputable abbrev GG:=openGood view []
set_option maxRecDepth 100000
set_option maxHeartbeats 0
theorem sa (w:World):(openEnds treeTable PySem.Challenge.rw_stonelay_k53_thoughts_walked.row.prog w 4344).map (λs=>(OS s).1)=some GG.1:=by kernel_rfl
theorem sb (w:World):(openEnds treeTable PySem.Challenge.rw_stonelay_k53_thoughts_walked.row.prog w 4344).map (λs=>((OS s).2.1,(OS s).2.2.1))=some (GG.2.1,GG.2.2.1):=by kernel_rfl
theorem sc (w:World):(openEnds treeTable PySem.Challenge.rw_stonelay_k53_thoughts_walked.row.prog w 4344).map (λs=>(OS s).2.2.2)=some GG.2.2.2:=by kernel_rfl
end zcu
local macro_rules | `(tactic| o_head $H)=>`(tactic| (refine' zcu.zkd (q:=zcu.view) (H:=$H) (N:=4344) (λw=>zcu.left4 (O:=zcu.OS) (zcu.sa w) (zcu.sb w) (zcu.sc w) (by kernel_rfl)) (by rfl) (by rfl) (by rfl) (by rfl) (by first | assumption | decide+kernel) (by decide+kernel) ⟨rfl,rfl,rfl,rfl,rfl,by decide+kernel⟩ ?_ ?_))
open PySem PySem.W PyProof.Rows in
set_option maxRecDepth 100000 in
set_option maxHeartbeats 0 in
theorem zcu.look:PySem.Challenge.rw_stonelay_k53_thoughts_walked.wellSaid=true:=by kernel_rfl
open PySem PySem.W PyProof.Rows in
set_option maxRecDepth 100000 in
set_option maxHeartbeats 0 in
theorem zcu.early (h:∀{q:Xl} {XP:(Str->Option X7)->Heap->Prop} {YP:WY->Heap->Prop} {d:DefRec} {K:Params->XW},d.params.defaults=[]->(∀(w:WY) (h:Heap),YP w h->(K w.params).In h)->d.name="law"->(∀w:WY,zcu.Facts (K w.params))->OL q [] XP YP PySem.Challenge.rw_stonelay_k53_thoughts_walked.row.toRowW d [] (λf vs=>PySem.call f vs)):PySem.Challenge.rw_stonelay_k53_thoughts_walked.Holds:=by
 w_on;refine holds_law zcu.look λsaid=>?_;k_head;w_witness2;k_fill;refine h rfl (λw h Y=>PySem.W.kIn_of Y) rfl λw=>?_;constructor;all_goals first | k_is | exact⟨_,_,_,_,_,_,_,_,_,_,by k_is,by k_is,by k_is,by k_is⟩ | exact⟨_,by k_is⟩ | exact⟨_,by k_is,by k_exc,by first | k_is | kit_is⟩ | exact⟨_,by k_is,by k_exc⟩
noncomputable section
section
variable{α β γ δ ε ζ η θ ι κ μ ν ξ:Sort _}
theorem cD {p q:α->Prop}{a}(h:p a)(A:q a):∃a,p a/\q a:=⟨_,h,A⟩
theorem cE {p:α->β->Prop}(a:α)(b:β)(h:p a b):∃a,∃b,p a b:=⟨a,b,h⟩
theorem cF {p:α->β->γ->δ->Prop}(a:α)(b:β)(c:γ)(d:δ)(h:p a b c d):∃a,∃b,∃c,∃d,p a b c d:=⟨a,b,c,d,h⟩
theorem cG {p:α->β->Prop}{a b}(h:p a b):∃a,∃b,p a b:=⟨_,_,h⟩
theorem cH {p q r:α->Prop}{a}(h:p a)(A:q a)(B:r a):∃a,p a/\q a/\r a:=⟨_,h,A,B⟩
theorem cI {p q r:α->β->Prop}{a b}(h:p a b)(A:q a b)(B:r a b):∃a,∃b,p a b/\q a b/\r a b:=⟨_,_,h,A,B⟩
theorem cJ {p:α->Prop}{q r s:α->β->γ->Prop}{a b c}(h:p a)(A:q a b c)(B:r a b c)(C:s a b c):∃a,p a/\∃b,∃c,q a b c/\r a b c/\s a b c:=⟨_,h,_,_,A,B,C⟩
theorem cK {p q r s t:α->Prop}(a:α)(h:p a)(A:q a)(B:r a)(C:s a)(D:t a):∃a,p a/\q a/\r a/\s a/\t a:=⟨a,h,A,B,C,D⟩
theorem cL {p q r s:Prop}(h:p)(A:q)(B:r)(C:s):p/\q/\r/\s:=⟨h,A,B,C⟩
theorem cM {p q r s t u:Prop}(h:p)(A:q)(B:r)(C:s)(D:t)(E:u):p/\q/\r/\s/\t/\u:=⟨h,A,B,C,D,E⟩
theorem cN {p:α->Prop}{q r s t u:α->β->γ->δ->ε->Prop}{a c e}(h:p a)(b:β)(d:δ)(A:q a b c d e)(B:r a b c d e)(C:s a b c d e)(D:t a b c d e)(E:u a b c d e):∃a,p a/\∃b,∃c,∃d,∃e,q a b c d e/\r a b c d e/\s a b c d e/\t a b c d e/\u a b c d e:=⟨_,h,b,_,d,_,A,B,C,D,E⟩
theorem cO {p q r s t:α->β->Prop}{a b}(h:p a b)(A:q a b)(B:r a b)(C:s a b)(D:t a b):∃a,∃b,p a b/\q a b/\r a b/\s a b/\t a b:=⟨_,_,h,A,B,C,D⟩
theorem cQ {p q r:Prop}(h:p)(A:q)(B:r):p/\q/\r:=⟨h,A,B⟩
theorem cS {p:α->Prop}{q:α->β->Prop}{a}(h:p a)(b:β)(A:q a b):∃a,p a/\∃b,q a b:=⟨_,h,b,A⟩
theorem cT {p q r:α->β->Prop}{b}(a:α)(h:p a b)(A:q a b)(B:r a b):∃a,∃b,p a b/\q a b/\r a b:=⟨a,_,h,A,B⟩
theorem cU {p q r s t:Prop}(h:p)(A:q)(B:r)(C:s)(D:t):p/\q/\r/\s/\t:=⟨h,A,B,C,D⟩
theorem cV {p q r s:α->β->Prop}{a b}(h:p a b)(A:q a b)(B:r a b)(C:s a b):∃a,∃b,p a b/\q a b/\r a b/\s a b:=⟨_,_,h,A,B,C⟩
theorem cW {p:α->Prop}{q r s:α->β->γ->Prop}{a c}(h:p a)(b:β)(A:q a b c)(B:r a b c)(C:s a b c):∃a,p a/\∃b,∃c,q a b c/\r a b c/\s a b c:=⟨_,h,b,_,A,B,C⟩
theorem cX {p:α->Prop}{q r s t:α->β->γ->Prop}{a b c}(h:p a)(A:q a b c)(B:r a b c)(C:s a b c)(D:t a b c):∃a,p a/\∃b,∃c,q a b c/\r a b c/\s a b c/\t a b c:=⟨_,h,_,_,A,B,C,D⟩
theorem cZ {p:α->Prop}{q r:α->β->Prop}{a b}(h:p a)(A:q a b)(B:r a b):∃a,p a/\∃b,q a b/\r a b:=⟨_,h,_,A,B⟩
theorem c5 {p q r:α->Prop}(a:α)(h:p a)(A:q a)(B:r a):∃a,p a/\q a/\r a:=⟨a,h,A,B⟩
theorem c6 {p q r s t u v w x:α->Prop}(a:α)(h:p a)(A:q a)(B:r a)(C:s a)(D:t a)(E:u a)(F:v a)(G:w a)(H:x a):∃a,p a/\q a/\r a/\s a/\t a/\u a/\v a/\w a/\x a:=⟨a,h,A,B,C,D,E,F,G,H⟩
theorem c7 {p:α->Prop}{q:α->β->γ->Prop}{a c}(h:p a)(b:β)(A:q a b c):∃a,p a/\∃b,∃c,q a b c:=⟨_,h,b,_,A⟩
theorem c8 {p q:Prop}{Z:Prop}(k:p->q->Z):(p/\q)->Z:=λ⟨h,A⟩=>k h A
theorem c9 {p q r:Prop}{Z:Prop}(k:p->q->r->Z):(p/\q/\r)->Z:=λ⟨h,A,B⟩=>k h A B
theorem dg {p:α->β->γ->δ->Prop}{Z:Prop}(k:∀a,∀b,∀c,∀d,p a b c d->Z):(∃a,∃b,∃c,∃d,p a b c d)->Z:=λ⟨a,b,c,d,h⟩=>k a b c d h
theorem dh {p q r s t u:Prop}{Z:Prop}(k:p->q->r->s->t->u->Z):(p/\q/\r/\s/\t/\u)->Z:=λ⟨h,A,B,C,D,E⟩=>k h A B C D E
theorem di {p:α->β->γ->δ->ε->ζ->η->θ->Prop}{Z:Prop}(k:∀a,∀b,∀c,∀d,∀e,∀f,∀g,∀i,p a b c d e f g i->Z):(∃a,∃b,∃c,∃d,∃e,∃f,∃g,∃i,p a b c d e f g i)->Z:=λ⟨a,b,c,d,e,f,g,i,h⟩=>k a b c d e f g i h
theorem dj {p q r s:α->β->Prop}{Z:Prop}(k:∀a,∀b,p a b->q a b->r a b->s a b->Z):(∃a,∃b,p a b/\q a b/\r a b/\s a b)->Z:=λ⟨a,b,h,A,B,C⟩=>k a b h A B C
theorem dm {p q:α->Prop}{Z:Prop}(k:∀a,p a->q a->Z):(∃a,p a/\q a)->Z:=λ⟨a,h,A⟩=>k a h A
theorem dw {p q r s t:α->β->Prop}{Z:Prop}(k:∀a,∀b,p a b->q a b->r a b->s a b->t a b->Z):(∃a,∃b,p a b/\q a b/\r a b/\s a b/\t a b)->Z:=λ⟨a,b,h,A,B,C,D⟩=>k a b h A B C D
theorem dz {p q r s:Prop}{Z:Prop}(k:p->q->r->s->Z):(p/\q/\r/\s)->Z:=λ⟨h,A,B,C⟩=>k h A B C
theorem dB {p q r s t:α->β->γ->Prop}{Z:Prop}(k:∀a,∀b,∀c,p a b c->q a b c->r a b c->s a b c->t a b c->Z):(∃a,∃b,∃c,p a b c/\q a b c/\r a b c/\s a b c/\t a b c)->Z:=λ⟨a,b,c,h,A,B,C,D⟩=>k a b c h A B C D
theorem dD {p q r s t:Prop}{Z:Prop}(k:p->q->r->s->t->Z):(p/\q/\r/\s/\t)->Z:=λ⟨h,A,B,C,D⟩=>k h A B C D
theorem dF {p:α->β->Prop}{Z:Prop}(k:∀a,∀b,p a b->Z):(∃a,∃b,p a b)->Z:=λ⟨a,b,h⟩=>k a b h
theorem dG {p:α->Prop}{Z:Prop}(k:∀a,p a->Z):(∃a,p a)->Z:=λ⟨a,h⟩=>k a h
theorem dH {p q r s:α->β->γ->δ->Prop}{Z:Prop}(k:∀a,∀b,∀c,∀d,p a b c d->q a b c d->r a b c d->s a b c d->Z):(∃a,∃b,∃c,∃d,p a b c d/\q a b c d/\r a b c d/\s a b c d)->Z:=λ⟨a,b,c,d,h,A,B,C⟩=>k a b c d h A B C
theorem dI {p q:Prop}{r:α->Prop}{s:α->β->γ->δ->Prop}{Z:Prop}(k:p->q->∀a,r a->∀b,∀c,∀d,s a b c d->Z):(p/\q/\∃a,r a/\∃b,∃c,∃d,s a b c d)->Z:=λ⟨h,A,a,B,b,c,d,C⟩=>k h A a B b c d C
theorem dJ {p q r s:α->β->γ->Prop}{Z:Prop}(k:∀a,∀b,∀c,p a b c->q a b c->r a b c->s a b c->Z):(∃a,∃b,∃c,p a b c/\q a b c/\r a b c/\s a b c)->Z:=λ⟨a,b,c,h,A,B,C⟩=>k a b c h A B C
theorem dM {p q r s t:α->β->γ->δ->Prop}{Z:Prop}(k:∀a,∀b,∀c,∀d,p a b c d->q a b c d->r a b c d->s a b c d->t a b c d->Z):(∃a,∃b,∃c,∃d,p a b c d/\q a b c d/\r a b c d/\s a b c d/\t a b c d)->Z:=λ⟨a,b,c,d,h,A,B,C,D⟩=>k a b c d h A B C D
theorem dN {p:α->β->γ->δ->ε->ζ->η->Prop}{Z:Prop}(k:∀a,∀b,∀c,∀d,∀e,∀f,∀g,p a b c d e f g->Z):(∃a,∃b,∃c,∃d,∃e,∃f,∃g,p a b c d e f g)->Z:=λ⟨a,b,c,d,e,f,g,h⟩=>k a b c d e f g h
theorem dO {p:α->β->γ->Prop}{Z:Prop}(k:∀a,∀b,∀c,p a b c->Z):(∃a,∃b,∃c,p a b c)->Z:=λ⟨a,b,c,h⟩=>k a b c h
theorem dP {p q r s t:α->β->γ->δ->ε->Prop}{Z:Prop}(k:∀a,∀b,∀c,∀d,∀e,p a b c d e->q a b c d e->r a b c d e->s a b c d e->t a b c d e->Z):(∃a,∃b,∃c,∃d,∃e,p a b c d e/\q a b c d e/\r a b c d e/\s a b c d e/\t a b c d e)->Z:=λ⟨a,b,c,d,e,h,A,B,C,D⟩=>k a b c d e h A B C D
theorem dQ {p:α->β->γ->δ->ε->Prop}{Z:Prop}(k:∀a,∀b,∀c,∀d,∀e,p a b c d e->Z):(∃a,∃b,∃c,∃d,∃e,p a b c d e)->Z:=λ⟨a,b,c,d,e,h⟩=>k a b c d e h
theorem dR {p:α->Prop}{q:α->β->γ->δ->Prop}{Z:Prop}(k:∀a,p a->∀b,∀c,∀d,q a b c d->Z):(∃a,p a/\∃b,∃c,∃d,q a b c d)->Z:=λ⟨a,h,b,c,d,A⟩=>k a h b c d A
end
abbrev AD:=List PySem.Str
abbrev  AA:=Nat×Nat
abbrev AB:=List AA
namespace L2
open PySem PySem.Spec PyProof.Rows
abbrev Key:=Sum Int Str
def zd6:Key->X7->Bool
 | .inl k,v=>Value.isInt k v
 | .inr x,v=>Value.isStrOf x v
def zp4 (w:WY):Key->Int
 | .inl k=>hashInt k
 | .inr x=>hashStr w x
theorem qY:∀{k:Key} {v:X7},zd6 k v=true->(∃i t,k=OZ i/\v=Vt i t)\/(∃x t,k=OY x/\v=Om x t)
 | .inl i,v,h=>by
  obtain⟨t,e⟩:=Value.isInt_shape (k:=i) (v:=v) h;exact .inl ⟨i,t,rfl,e⟩
 | .inr x,v,h=>by
  obtain⟨t,e⟩:=Value.isStrOf_shape (x:=x) (v:=v) h;exact .inr ⟨x,t,rfl,e⟩
def zba (i:Int)(t:Tok):zd6 (.inl i) (.int i t)=true:=by simp[zd6,Value.isInt]
def zke (x:Str)(t:Tok):zd6 (.inr x) (.str x t)=true:=by simp[zd6,Value.isStrOf]
def zp5 (a b:Int):decide ((OZ a:Key)=OZ b)=(a==b):=by
 by_cases e:a=b
 .subst e;simp
 .have h:¬ (OZ a:Key)=OZ b:=λq=>e (Sum.inl.inj q);rw[bf h];exact(beq_eq_false_iff_ne.mpr e).symm
def zp6 (a b:Str):decide ((OY a:Key)=OY b)=decide (a=b):=by
 by_cases e:a=b
 .subst e;simp
 .have h:¬ (OY a:Key)=OY b:=λq=>e (Sum.inr.inj q);rw[bf h,bf e]
def zp7 (a:Int)(b:Str):decide ((OZ a:Key)=OY b)=false:=bf (λq=>nomatch q)
def zp8 (a:Str)(b:Int):decide ((OY a:Key)=OZ b)=false:=bf (λq=>nomatch q)
def zT (prog:Xl)(w:WY):PySem.KeyKind prog w Key where
 is:=zd6
 hash:=zp4 w
 inj:=λv a b ha hb=>by
  rcases qY ha with ⟨i,t,rfl,rfl⟩ | ⟨x,t,rfl,rfl⟩
  .rcases qY hb with ⟨j,u,rfl,e⟩ | ⟨y,u,rfl,e⟩
   .injection e with e1 _;rw[e1]
   .exact nomatch e
  .rcases qY hb with ⟨j,u,rfl,e⟩ | ⟨y,u,rfl,e⟩
   .exact nomatch e
   .injection e with e1 _;rw[e1]
 byValue:=λk v h=>by
  rcases qY h with ⟨i,t,rfl,rfl⟩ | ⟨x,t,rfl,rfl⟩<;>rfl
 pyHash:=λhv h=>by
  rcases qY hv with ⟨i,t,rfl,rfl⟩ | ⟨x,t,rfl,rfl⟩
  .exact wpAny_pyHash_int h
  .exact wpAny_pyHash_str h
 eqBool:=λhu hv h=>by
  rcases qY hu with ⟨i,t,rfl,rfl⟩ | ⟨x,t,rfl,rfl⟩
  .rcases qY hv with ⟨j,u,rfl,rfl⟩ | ⟨y,u,rfl,rfl⟩
   .rw[zp5]at h;exact wpAny_eqBool_int h
   .rw[zp7]at h;exact SeqAt.EqAt.int_str i t y u _ _ _ _ h
  .rcases qY hv with ⟨j,u,rfl,rfl⟩ | ⟨y,u,rfl,rfl⟩
   .rw[zp8]at h;exact SeqAt.EqAt.str_int x t j u _ _ _ _ h
   .rw[zp6]at h;exact wpAny_eqBool_str h
 «strs»:=λk x t v h=>by
  rcases qY h with ⟨i,u,rfl,e⟩ | ⟨y,u,rfl,e⟩
  .exact nomatch e
  .injection e with e1 _
   subst e1;cases v<;>rfl
def zfR (prog:Xl)(w:WY)(i:Int)(t:Tok):(zT prog w).is (.inl i) (.int i t)=true:=zba i t
def zfS (prog:Xl)(w:WY)(x:Str)(t:Tok):(zT prog w).is (.inr x) (.str x t)=true:=zke x t
inductive V where
 | non | bl (b:Bool) | int (i:Int) | str (x:Str) | byt (b:Array UInt8) | flt (b:UInt64) | ref (a:Addr) | ty (n:String)
 deriving DecidableEq
abbrev AE:=List V
def RelV:V->X7->Prop
 | .non,u=>u=UC
 | .bl b,u=>u=OC b
 | .int i,u=>∃t,u=Vt i t
 | .str x,u=>∃t,u=Om x t
 | .byt b,u=>∃t,u=Value.bytes b t
 | .flt b,u=>∃t,u=Value.float b t
 | .ref a,u=>u=WD a
 | .ty n,u=>u=P9 n
abbrev Vals:AE->List X7->Prop:=XG RelV
theorem Vals.length {xs:AE}{m:List X7}(r:Vals xs m):xs.length=m.length:=Paired.length r
theorem Vals.get:∀{xs:AE} {m:List X7} {i:Nat} {x:V},Vals xs m->xs[i]?=some x->∃u,m[i]?=some u/\RelV x u
 | _,_,_,_,.nil,e=>by simp at e
 | _,_,0,_,.cons r _,e=>by simp at e;subst e;exact⟨_,rfl,r⟩
 | _,_,i+1,x,.cons _ t,e=>by
  obtain⟨u,s,w⟩:=Vals.get (i:=i) (x:=x) t (by simpa using e);exact⟨u,by simpa using s,w⟩
theorem Vals.set {x:V}{u:X7}(r:RelV x u):∀{xs:AE} {m:List X7} (i:Nat),Vals xs m->Vals (xs.set i x) (m.set i u)
 | _,_,_,.nil=>.nil
 | _,_,0,.cons _ t=>.cons r t
 | _,_,i+1,.cons q t=>.cons q (Vals.set r i t)
theorem Vals.append:∀{xs ys:AE} {m w:List X7},Vals xs m->Vals ys w->Vals (xs++ys) (m++w)
 | _,_,_,_,.nil,s=>s
 | _,_,_,_,.cons r t,s=>.cons r (Vals.append t s)
theorem Vals.take:∀{xs:AE} {m:List X7} (n:Nat),Vals xs m->Vals (xs.take n) (m.take n)
 | _,_,0,_=>.nil
 | _,_,_+1,.nil=>.nil
 | _,_,n+1,.cons r t=>.cons r (Vals.take n t)
theorem Vals.drop:∀{xs:AE} {m:List X7} (n:Nat),Vals xs m->Vals (xs.drop n) (m.drop n)
 | _,_,0,r=>r
 | _,_,_+1,.nil=>.nil
 | _,_,n+1,.cons _ t=>Vals.drop n t
def ze0:Option V->Option X7->Prop
 | some v,some u=>RelV v u
 | none,none=>True
 | _,_=>False
def KV {m:Type}:List (m × V)->List (m × X7)->Prop:=XG λ(p:m × V) (q:m × X7)=>p.1=q.1/\RelV p.2 q.2
def kV:Key->V
 | .inl i=>.int i
 | .inr x=>.str x
inductive HO where
  | lst (xs:AE)
  | tup (xs:AE)
  | dK (kvs:List (Key×V)) | dT (kvs:List (List Key×V))
  | set (S:Int->Bool) (n:Nat)
  | ins (C dx:Addr) (fs:List (Str×V))
  | own (x:Addr)
  | xd (fs:List (Str×V))
  | met (f x:Addr)
  | rng (lo hi:Int)
  | frz (o:Obj) (u:HO)
  | tbl (ps:Array X7)
  | ext (φ:Heap->Prop)
abbrev Hp:=Addr->Option HO
def upd (H:Hp)(a:Addr)(o:HO):Hp:=λb=>if b=a then some o else H b
def zb {H:Hp}{a:Addr}{o:HO}:upd H a o a=some o:=by unfold upd;rw[bw rfl]
def zg {H:Hp}{a b:Addr}{o:HO}(h:b≠a):upd H a o b=H b:=by unfold upd;rw[bq h]
def zfT {H:Hp}{a b:Addr}{o u:HO}(h:H a=some o)(h':H b=some u)(d:o≠u):a≠b:=by
 intro e;subst e;rw[h]at h';exact d (Option.some.inj h')
def zj {H:Hp}{a b:Addr}{o:HO}(h:H a=some o)(h':H b=none):a≠b:=by
 intro e;subst e;rw[h]at h';cases h'
section
variable (P:Xl)(w:WY)
def qN (H:Hp)(h:Heap)(a:Addr):HO->Prop
 | .lst xs=>xs.length<=Xv/\∃(m:List X7) (n:Nat),Vals xs m/\h.get? a=some { cls:=.type "list",data:=.seq m.toArray n }
 | .tup xs=>xs.length<=Xv/\∃m:List X7,Vals xs m/\Og h a m.toArray
 | .dK kvs=>kvs.length<=Xv/\(a==U9)=false/\∃vs,KV kvs vs/\h.DictOf (zT P w) a vs
 | .dT kvs=>kvs.length<=Xv/\(a==U9)=false/\∃xs:List (List Key×Addr×X7),
   XG (λ(p:List Key×V) (q:List Key×Addr×X7)=>p.1=q.1/\H q.2.1=some (.tup (p.1.map kV))/\RelV p.2 q.2.2) kvs xs /\
   ∃o s D,h.get? a=some o/\o.ExactDict/\o.data=.dict s D/\s.toList=xs.map (Tk (VW (zT P w)))/\(xs.map (·.1)).Nodup
 | .set S n=>h.SetOf (intKind P w) a S n
 | .ins C dx fs=>H dx=some (.own a)/\fs.length<=1000/\dx≠a/\h.get? a=some (PL C dx) /\
   ∃r,h.Ns1 dx r/\(∀f,ze0 (fs.lookup f) (r f))/\PySem.Within r (fs.map (·.1))
 | .own _=>∃o,h.get? a=some o
 | .xd fs=>∃r,h.Ns1 a r/\∀f,ze0 (fs.lookup f) (r f)
 | .rng lo hi=>∃t u v,h.get? a=some { cls:=.type "range",data:=.fields #[.int lo t,.int hi u,.int 1 v] }
 | .frz o u=>h.get? a=some o/\qN H h a u
 | .tbl ps=>h.get? a=some { cls:=.none,data:=.fields ps }
 | .met f x=>h.get? a=some (RD (.ref f) (.ref x))
 | .ext φ=>φ h/\(∃o,h.get? a=some o)/\∀A B:Heap,φ A->(∀o,A.get? a=some o->B.get? a=some o)->φ B
def HOk (H:Hp)(h:Heap):Prop:=∀a o,H a=some o->qN P w H h a o
end
section
variable {P:Xl}{w:WY}{H H':Hp}{h h':Heap}{a:Addr}{o:HO}
theorem qN.lt (x:qN P w H h a o):a<h.objs.size:=by
 cases o with
 | lst xs=>obtain⟨_,_,_,_,e⟩:=x;exact Xz e
 | tup xs=>obtain⟨_,_,_,p⟩:=x;exact p.lt
 | dK kvs=>revert x;refine dI λ_ _ _ _ o _ _=>c8 λe _=>?_;exact Xz e
 | dT kvs=>revert x;refine dI λ_ _ _ _ o _ _=>c8 λe _=>?_;exact Xz e
 | set S n=>revert x;refine dg λo _ _ _=>c8 λe _=>?_;exact Xz e
 | ins C dx fs=>obtain⟨_,_,_,e,_⟩:=x;exact Xz e
 | own y=>obtain⟨_,e⟩:=x;exact Xz e
 | xd fs=>obtain⟨_,⟨_,_,_,e,_⟩,_⟩:=x;exact Xz e
 | rng lo hi=>obtain⟨_,_,_,e⟩:=x;exact Xz e
 | frz m u=>obtain⟨e,_⟩:=x;exact Xz e
 | tbl ps=>exact Xz (show h.get? a=some _ from x)
 | met f y=>exact Xz (show h.get? a=some _ from x)
 | ext φ=>obtain⟨_,⟨_,e⟩,_⟩:=x;exact Xz e
theorem Paired.mapP {α w:Type}{F G:α->w->Prop}:∀{m:List α} {s:List w},XG F m s->(∀a b,F a b->G a b)->XG G m s
 | _,_,.nil,_=>.nil
 | _,_,.cons r t,f=>.cons (f _ _ r) (Paired.mapP t f)
def Paired.imp' {α w:Type}{F G:α->w->Prop}(f:∀a b,F a b->G a b){m:List α}{s:List w}(r:XG F m s):XG G m s:=Paired.mapP r f
def qN.stay (x:qN P w H h a o)(k:∀b u,(b=a\/H b=some (.own a))->h.get? b=some u->h'.get? b=some u)
  (I:∀b,H b=some (.own a)->H' b=some (.own a)) (J:∀b xs,H b=some (.tup xs)->H' b=some (.tup xs)):qN P w H' h' a o:=by
 induction o with
 | lst xs=>obtain⟨z,B,n,r,e⟩:=x;exact⟨z,B,n,r,k _ _ (.inl rfl) e⟩
 | tup xs=>obtain⟨z,B,r,m,e,c⟩:=x;exact⟨z,B,r,m,k _ _ (.inl rfl) e,c⟩
 | dK kvs=>revert x;refine dI λz y vs r m A s=>c8 λe c=>?_;exact⟨z,y,vs,r,m,A,s,k _ _ (.inl rfl) e,c⟩
 | dT kvs =>
  revert x;refine dI λz y xs r m A s=>c8 λe c=>?_;exact⟨z,y,xs,Paired.mapP r λp q z=>⟨z.1,J _ _ z.2.1,z.2.2⟩,m,A,s,k _ _ (.inl rfl) e,c⟩
 | set S n=>revert x;refine dg λm A s t=>c8 λe c=>?_;exact⟨m,A,s,t,k _ _ (.inl rfl) e,c⟩
 | ins C dx fs =>
  obtain⟨d,z,M,e,D,⟨E,A,s,G,c⟩,r⟩:=x;exact⟨I _ d,z,M,k _ _ (.inl rfl) e,D,⟨E,A,s,k _ _ (.inr d) G,c⟩,r⟩
 | own y=>obtain⟨m,e⟩:=x;exact⟨m,k _ _ (.inl rfl) e⟩
 | xd fs=>obtain⟨D,⟨E,A,s,e,c⟩,r⟩:=x;exact⟨D,⟨E,A,s,k _ _ (.inl rfl) e,c⟩,r⟩
 | rng lo hi=>obtain⟨t,u,v,e⟩:=x;exact⟨t,u,v,k _ _ (.inl rfl) e⟩
 | frz m u L=>obtain⟨e,q⟩:=x;exact⟨k _ _ (.inl rfl) e,L q⟩
 | tbl ps =>
  have e:h.get? a=some { cls:=.none,data:=.fields ps }:=x;show h'.get? a=some { cls:=.none,data:=.fields ps };exact k a _ (.inl rfl) e
 | met f y =>
  have e:h.get? a=some (RD (.ref f) (.ref y)):=x;show h'.get? a=some (RD (.ref f) (.ref y));exact k a _ (.inl rfl) e
 | ext φ=>obtain⟨p,⟨o,e⟩,st⟩:=x;exact⟨st _ _ p λo q=>k _ _ (.inl rfl) q,⟨o,k _ _ (.inl rfl) e⟩,st⟩
theorem HOk.lt (x:HOk P w H h)(e:H a=some o):a<h.objs.size:=(x a o e).lt
def HOk.fresh (x:HOk P w H h)(e:h.objs.size<=a):H a=none:=by
 cases q:H a with
 | none=>rfl
 | some u=>exact absurd (Xj (x.lt q) e) (VL _)
def HOk.kept (x:HOk P w H h)(k:∀b u,h.get? b=some u->h'.get? b=some u):HOk P w H h':=λa o e =>
 (x a o e).stay (λb u _ q=>k b u q) (λ_ q=>q) λ_ _ q=>q
def HOk.laid (x:HOk P w H h)(k:∀b u,h.get? b=some u->h'.get? b=some u)(s:h.objs.size<=a)(m:qN P w (upd H a o) h' a o):HOk P w (upd H a o) h':=λb u e=>by
 have hn:=x.fresh s;by_cases r:b=a
 .subst r;rw[zb]at e;cases e;exact m
 .rw[zg r]at e;exact(x b u e).stay (λc v _ q=>k c v q) (λc q=>by rw[zg (zj q hn)];exact q) λc xs q=>by rw[zg (zj q hn)];exact q
end
def Rd (H:Hp)(a:Addr)(u:HO):Prop:=H a=some u\/∃o,H a=some (.frz o u)
def Rd.ok {P:Xl}{w:WY}{H:Hp}{h:Heap}{a:Addr}{u:HO}(r:Rd H a u)(x:HOk P w H h):qN P w H h a u:=by
 rcases r with r | ⟨o,r⟩
 .exact x a u r
 .obtain⟨_,q⟩:=x a _ r;exact q
def Mut:Option HO->Prop
 | some (.lst _)=>True
 | some (.dK _)=>True
 | some (.dT _)=>True
 | some (.set _ _)=>True
 | some (.ins _ _ _)=>True
 | some (.ext _)=>True
 | _=>False
section
variable {P:Xl}{w:WY}{H:Hp}{h h':Heap}{x e:Addr}{o':HO}
def HOk.write (ok:HOk P w H h)(D:Mut (H x))(he:e=x\/H e=some (.own x))(k:∀b u,b≠e->h.get? b=some u->h'.get? b=some u)(E:∃u,h'.get? e=some u)
  (G:qN P w (upd H x o') h' x o'):HOk P w (upd H x o') h':=λb u q=>by
 have s:∀c y,H c=some (.own y)->c≠x:=λc y r z=>by subst z;rw[r]at D;exact D
 have A:∀c xs,H c=some (.tup xs)->c≠x:=λc xs r z=>by subst z;rw[r]at D;exact D
 by_cases B:b=x
 .subst B;rw[zb]at q;cases q;exact G
 .rw[zg B]at q;by_cases m:b=e
  .have I:H b=some (.own x):=by
    rcases he with z | z
    .exact absurd (m.trans z) B
    .rw[m];exact z
   rw[q]at I;cases I;obtain⟨v,hv⟩:=E;exact⟨v,by rw[m];exact hv⟩
  .refine(ok b u q).stay (λc v hc r=>k c v ?_ r) (λc r=>by rw[zg (s c b r)];exact r) λc xs r=>by rw[zg (A c xs r)];exact r
   rcases hc with rfl | hc
   .exact m
   .rintro rfl;rcases he with z | z
    .exact s c b hc z
    .rw[hc]at z;cases z;exact B rfl
end
structure Un (fs ex:List Addr)(H H':Hp)(h h':Heap):Prop where
 keep:∀b o,h.get? b=some o->H b=none->b ∉ fs->b ∉ ex->h'.get? b=some o
 slot:∀b o,h.get? b=some o->H b=none->b∈fs->b ∉ ex->∃sl,h'.get? b=some { o with slots:=sl }
 free:∀b o,h.get? b=some o->H b=none->b ∉ ex->H' b=none
 there:∀b o,h.get? b=some o->b ∉ ex->∃o',h'.get? b=some o'
 tups:∀b xs,H b=some (.tup xs)->H' b=some (.tup xs)
 frzs:∀b o u,H b=some (.frz o u)->H' b=some (.frz o u)
 tbls:∀b ps,H b=some (.tbl ps)->∃more,H' b=some (.tbl (ps++more))
section
variable {fs fs' ex ex':List Addr}{H H1 H2:Hp}{h h1 h2 h':Heap}{a x e:Addr}{o:HO}
def Un.any (u:Un fs ex H H1 h h1){b:Addr}{ob:Obj}(q:h.get? b=some ob)(n:H b=none)(hx:b ∉ ex):∃r,h1.get? b=some { ob with slots:=r }:=by
 by_cases m:b∈fs
 .exact u.slot b ob q n m hx
 .exact⟨ob.slots,u.keep b ob q n m hx⟩
def Un.kept (k:∀b u,h.get? b=some u->h'.get? b=some u):Un fs ex H H h h' :=
 ⟨λb m q _ _ _=>k b m q,λb m q _ _ _=>⟨m.slots,k b m q⟩,λ_ _ _ n _=>n,λb m q _=>⟨m,k b m q⟩,λ_ _ q=>q,λ_ _ _ q=>q,λ_ ps q=>⟨#[],by rw[q];simp⟩⟩
def Un.refl:Un fs ex H H h h:=Un.kept λ_ _ q=>q
def Un.laid (k:∀b u,h.get? b=some u->h'.get? b=some u)(hp:h.objs.size<=a)(hn:H a=none):Un fs ex H (upd H a o) h h' where
 keep:=λb u q _ _ _=>k b u q
 slot:=λb u q _ _ _=>⟨u.slots,k b u q⟩
 free:=λb u q n _=>by rw[zg (Xf (Xj (Xz q) hp))];exact n
 there:=λb u q _=>⟨u,k b u q⟩
 tups:=λb xs q=>by rw[zg (zj q hn)];exact q
 frzs:=λb u xs q=>by rw[zg (zj q hn)];exact q
 tbls:=λb ps q=>⟨#[],by rw[zg (zj q hn),q];simp⟩
def Un.write (s:Mut (H x))(he:e=x\/H e=some (.own x))(k:∀b u,b≠e->h.get? b=some u->h'.get? b=some u)(w:∃u,h'.get? e=some u):Un fs ex H (upd H x o) h h':=by
 have hx:∀b,H b=none->b≠x:=λb n z=>by subst z;rw[n]at s;exact s
 have A:∀b,H b=none->b≠e:=λb n z=>by
  subst z;rcases he with r | r
  .exact hx b n r
  .rw[n]at r;cases r
 have hm:∀b u,H b=some u->¬ Mut (some u)->b≠x:=λb u q B z=>by subst z;rw[q]at s;exact B s
 refine⟨λb u q n _ _=>k b u (A b n) q,λb u q n _ _=>⟨u.slots,k b u (A b n) q⟩,λb u q n _=>by rw[zg (hx b n)];exact n,λb u q _=>?_,λb xs q=>by rw[zg (hm b _ q λz=>z)];exact q,λb u xs q=>by rw[zg (hm b _ q λz=>z)];exact q,λb ps q=>⟨#[],by rw[zg (hm b _ q λz=>z),q];simp⟩⟩
 by_cases m:b=e
 .subst m;exact w
 .exact⟨u,k b u m q⟩
end
def trk (h:Heap)(H:Hp):List Addr:=(WG h.objs.size).filter λa=>(H a).isSome
def ze1 (h:Heap)(H:Hp):Heap:=PySem.W.hideAll h (trk h H)
def zkf (h:Heap)(H:Hp):(ze1 h H).objs.size=h.objs.size:=PySem.W.hideAll_size _ _
def zlA {h:Heap}{H:Hp}{b:Addr}{o:Obj}(e:h.get? b=some o)(n:H b=none):(ze1 h H).get? b=some o :=
 TH _ e λhm=>by
  have q:(H b).isSome=true:=(X8.mp hm).2;rw[n]at q;simp at q
def znV {h:Heap}{H:Hp}{b:Addr}{o:Obj}(e:(ze1 h H).get? b=some o):h.get? b=some o/\H b=none:=by
 have m:h.get? b=some o:=PySem.W.of_hideAll (trk h H) e;refine⟨m,?_⟩;cases q:H b with
 | none=>rfl
 | some x =>
  have hm:b∈trk h H:=X8.mpr ⟨Wv.mpr (Xz m),by simp[q]⟩;have z:(ze1 h H).get? b=none:=PySem.W.hideAll_none (trk h H) hm;rw[z]at e;cases e
structure Mod (K:XW)(mg:Str->Option X7)(base:Heap):Prop where
 kin:K.In base
 glob:base.Ns XD mg
 blt:∃mb,base.Ns OB mb/\∀x:Str,x ≠ "__name__"->mb x=UG x
 nolimit:base.NoLimit
structure Cx where
 prog:Xl
 w:WY
 K:XW
 mg:Str->Option X7
 base:Heap
 A:WK
 N:AD
 s₀:X0
 H₀:Hp
 env:Env
 outer:List Env
 stack:List Env
 ex:List Addr
 fn:Str->Bool
 calm:Bool
 pn:List (Addr×Obj)
 xe:X7->X0->Prop
def frs (l:List Env):List Addr:=l.filterMap (·.frame)
abbrev Cx.fs (X:Cx):List Addr:=frs X.outer
def Vis (sc:Uw)(x:Str):Prop:=sc.names.lookup x=some .local\/sc.names.lookup x=some .cell\/sc.names.lookup x=some .free
def Loc (sc:Uw)(x:Str):Prop:=sc.names.lookup x=some .local\/sc.names.lookup x=some .cell
def Look (r:Env)(h:Heap)(m:Str->Option X7)(x:Str)(u:X7):Prop :=
 (r.kindOf x=some .local/\m x=some u)\/((r.kindOf x=some .cell\/r.kindOf x=some .free)/\∃c,r.cells.lookup x=some c/\h.IsCell c (some u))
structure Cx.Ok (X:Cx):Prop where
 mod:Mod X.K X.mg X.base
 kind:X.env.scope.kind=.function
 glob:X.env.globals=XD
 blt:X.env.builtins=OB
 above:X.s₀.heap.objs.size<=X.env.locals
 inj:∀x y c,X.env.cells.lookup x=some c->X.env.cells.lookup y=some c->x=y
 has:∀x,(X.env.kindOf x=some .cell\/X.env.kindOf x=some .free)->∃c,X.env.cells.lookup x=some c
 cab:∀x c,X.fn x=true->X.env.cells.lookup x=some c->X.s₀.heap.objs.size<=c
 hd:X.calm=true->X.A.handled=none
 frames:X.A.frames=some X.stack
 stk:X.stack=X.outer\/(X.stack=X.env::X.outer/\X.env.frame=some X.env.locals)
 exf:∀b∈X.ex,b≠X.env.locals/\∀x c,X.env.cells.lookup x=some c->c≠b
 bs:∀b o,X.base.get? b=some o->X.s₀.heap.get? b=some o/\X.H₀ b=none
 bsz:X.base.objs.size<=X.s₀.heap.objs.size
 noex:∀b o,X.base.get? b=some o->b ∉ X.ex
 exfs:∀b∈X.ex,b ∉ X.fs
 funs:X.s₀.heap.FunFrames X.base X.outer
 frf:∀b∈X.fs,X.H₀ b=none
structure Inv (X:Cx)(bz:List (Addr×Obj))(σ:List (Option V))(H:Hp)(s:X0):Prop where
 ok:X.Ok
 os:s.os=X.s₀.os
 bare:Sy s.gens
 base:Un X.fs X.ex X.H₀ H X.s₀.heap s.heap
 loc:∃m,s.heap.Ns X.env.locals m/\∀(i:Nat) (x:Str) (v:V),X.N[i]?=some x->σ[i]?=some (some v)->Vis X.env.scope x->∃u,RelV v u/\Look X.env s.heap m x u
 cell:∀x c,X.env.cells.lookup x=some c->∃v,s.heap.IsCell c v
 free:H X.env.locals=none
 zV:∀x c,X.env.cells.lookup x=some c->H c=none
 pin:∀p∈X.pn++bz,s.heap.get? p.1=some p.2/\H p.1=none/\p.1≠X.env.locals/\p.1 ∉ X.fs/\∀v,p.2.data ≠ .cell v
 hok:HOk X.prog X.w H s.heap
 len:σ.length=X.N.length
section
variable {X:Cx}{bz:List (Addr×Obj)}{σ:List (Option V)}{H H':Hp}{s:X0}{h':Heap}
def Cx.Ok.nofr (ok:X.Ok){b:Addr}{o:Obj}(e:X.base.get? b=some o):b ∉ X.fs:=λm=>by
 have:=(ok.funs.mem m).1;rw[e]at this;cases this
theorem Inv.bs (I:Inv X bz σ H s):∀b o,X.base.get? b=some o->s.heap.get? b=some o/\H b=none:=λb o e =>
 ⟨I.base.keep b o (I.ok.bs b o e).1 (I.ok.bs b o e).2 (I.ok.nofr e) (I.ok.noex b o e),I.base.free b o (I.ok.bs b o e).1 (I.ok.bs b o e).2 (I.ok.noex b o e)⟩
def Inv.bk (I:Inv X bz σ H s):∀b o,X.base.get? b=some o->s.heap.get? b=some o:=λb o e=>(I.bs b o e).1
theorem Inv.mod (I:Inv X bz σ H s):Mod X.K X.mg X.base:=I.ok.mod
def Inv.kIn (I:Inv X bz σ H s):X.K.In s.heap:=I.ok.mod.kin.keeps I.bk
theorem Inv.lt (I:Inv X bz σ H s):X.env.locals<s.heap.objs.size:=let ⟨_,hn,_⟩:=I.loc;hn.lt
def Inv.sz (I:Inv X bz σ H s):X.s₀.heap.objs.size<=s.heap.objs.size:=XY I.ok.above (TW I.lt)
def Inv.nofs (I:Inv X bz σ H s){a:Addr}(h:s.heap.objs.size<=a):a ∉ X.fs:=λm=>by
 obtain⟨_,o,r,_⟩:=I.ok.funs.mem m;exact absurd (Xj (Xz r) (XY I.sz h)) (VL _)
def Inv.cne (I:Inv X bz σ H s):∀x c,X.env.cells.lookup x=some c->c≠X.env.locals:=λx c e z=>by
 obtain⟨v,o,B,A⟩:=I.cell x c e;obtain⟨m,⟨G,E,D,w,r,_⟩,_⟩:=I.loc;rw[z,w]at B;cases B;rw[r]at A;cases A
theorem Inv.funs (I:Inv X bz σ H s):s.heap.FunFrames X.base X.outer:=by
 have all:∀(l:List Env),(∀b∈frs l,b∈X.fs)->X.s₀.heap.FunFrames X.base l->s.heap.FunFrames X.base l:=by
  intro l;induction l with
  | nil=>intro _ _;trivial
  | cons D r M =>
   intro B hl;obtain⟨hk,⟨L,o,A,hn,G,E⟩,J⟩:=hl;have m:L∈X.fs:=B L (by unfold frs;rw[U4,A];exact X5);obtain⟨O,e⟩:=I.base.slot L o G (I.ok.frf L m) m λz=>I.ok.exfs L z m;exact⟨hk,⟨L,_,A,hn,e,E⟩,M (λb w=>B b (by unfold frs;rw[U4,A];exact Y1 _ w)) J⟩
 exact all X.outer (λ_ w=>w) I.ok.funs
theorem Inv.stack (I:Inv X bz σ H s):s.heap.FunFrames X.base X.stack:=by
 rcases I.ok.stk with e | ⟨e,r⟩
 .rw[e];exact I.funs
 .rw[e];obtain⟨m,hn,_⟩:=I.loc;refine .cons (by rw[I.ok.kind];decide) r hn ?_ I.funs;exact UE (XY I.ok.bsz I.ok.above)
def Inv.stkSub (I:Inv X bz σ H s):∀b∈frs X.stack,b∈X.env.locals::X.fs:=λb m=>by
 rcases I.ok.stk with e | ⟨e,r⟩
 .rw[e]at m;exact Y1 _ m
 .rw[e]at m;unfold frs at m;rw[U4,r]at m;exact m
def Inv.stkFree (I:Inv X bz σ H s):∀b∈frs X.stack,H b=none:=λb hb=>by
 rcases XQ.mp (I.stkSub b hb) with e | hb
 .rw[e];exact I.free
 .obtain⟨_,o,m,_⟩:=I.ok.funs.mem hb;exact I.base.free b o m (I.ok.frf b hb) λz=>I.ok.exfs b z hb
def Inv.step {g':Array Sq}{t':Nat}{d':Drawn}{ch:List Addr}(I:Inv X bz σ H s)
  (B:∀b∈ch,(b∈X.ex\/X.s₀.heap.objs.size<=b)/\b≠X.env.locals/\(∀x c,X.env.cells.lookup x=some c->c≠b)/\∀p∈X.pn++bz,p.1≠b)
  (keep:∀b o,b≠X.env.locals->b ∉ X.fs->b ∉ ch->s.heap.get? b=some o->H b=none->h'.get? b=some o)
  (J:∀b o,b≠X.env.locals->b∈X.fs->b ∉ ch->s.heap.get? b=some o->H b=none->∃sl,h'.get? b=some { o with slots:=sl }) (free:∀b o,b ∉ ch->s.heap.get? b=some o->H b=none->H' b=none)
  (there:∀b o,b ∉ ch->s.heap.get? b=some o->∃o',h'.get? b=some o')
  (ab:∀b xs,H b=some (.tup xs)->H' b=some (.tup xs)) (U:∀b o u,H b=some (.frz o u)->H' b=some (.frz o u)) (aa:∀b ps,H b=some (.tbl ps)->∃more,H' b=some (.tbl (ps++more)))
  (ns:∀m,s.heap.Ns X.env.locals m->h'.Ns X.env.locals m) (ac:HOk X.prog X.w H' h') (hg:Sy g') :
  Inv X bz σ H' { s with heap:=h',gens:=g',drawn:=d',toks:=t' }:=by
 have Y:∀b o,X.s₀.heap.get? b=some o->b≠X.env.locals:=λb o e=>Xf (Xj (Xz e) I.ok.above);have G:∀b o,X.s₀.heap.get? b=some o->b ∉ X.ex->b ∉ ch:=λb o e hx L=>by
  rcases(B b L).1 with z | z
  .exact hx z
  .exact absurd (Xj (Xz e) z) (VL _)
 have A:∀x c,X.env.cells.lookup x=some c->∀v,s.heap.IsCell c v->h'.IsCell c v:=λx c e v ⟨o,M,hd⟩=>by
  have D:c ∉ ch:=λz=>(B c z).2.2.1 x c e rfl;by_cases hc:c∈X.fs
  .obtain⟨sl,q⟩:=J c o (I.cne x c e) hc D M (I.zV x c e);exact⟨_,q,hd⟩
  .exact⟨o,keep c o (I.cne x c e) hc D M (I.zV x c e),hd⟩
 refine⟨I.ok,I.os,hg,⟨λb o e n L hx=>?_,λb o e n L hx=>?_,λb o e n hx=>?_,λb o e hx=>?_,λb xs e=>ab b xs (I.base.tups b xs e),λb o xs e=>U b o xs (I.base.frzs b o xs e),λb ps e=>?_⟩,?_,λx c e=>?_,?_,λx c e=>?_,λp hp=>?_,ac,I.len⟩
 .exact keep b o (Y b o e) L (G b o e hx) (I.base.keep b o e n L hx) (I.base.free b o e n hx)
 .obtain⟨sl,E⟩:=I.base.slot b o e n L hx;obtain⟨ae,O⟩:=J b _ (Y b o e) L (G b o e hx) E (I.base.free b o e n hx);exact⟨ae,O⟩
 .obtain⟨o',E⟩:=I.base.there b o e hx;exact free b o' (G b o e hx) E (I.base.free b o e n hx)
 .obtain⟨o',E⟩:=I.base.there b o e hx;exact there b o' (G b o e hx) E
 .obtain⟨m1,E⟩:=I.base.tbls b ps e;obtain⟨m2,O⟩:=aa b _ E;exact⟨m1++m2,by rw[O,Array.append_assoc]⟩
 .obtain⟨m,hn,hl⟩:=I.loc;refine⟨m,ns m hn,λi x v E O e3=>?_⟩;obtain⟨u,r,l⟩:=hl i x v E O e3;refine⟨u,r,?_⟩;rcases l with l | ⟨k,c,e,z⟩
  .exact .inl l
  .exact .inr ⟨k,c,e,A x c e _ z⟩
 .obtain⟨v,z⟩:=I.cell x c e;exact⟨v,A x c e v z⟩
 .obtain⟨m,⟨o,_,_,M,_⟩,_⟩:=I.loc;exact free _ o (λz=>(B _ z).2.1 rfl) M I.free
 .obtain⟨v,o,M,hd⟩:=I.cell x c e;exact free c o (λz=>(B c z).2.2.1 x c e rfl) M (I.zV x c e)
 .obtain⟨e,n,ne,nf,d⟩:=I.pin p hp;have D:p.1 ∉ ch:=λz=>(B p.1 z).2.2.2 p hp rfl;exact⟨keep p.1 p.2 ne nf D e n,free p.1 p.2 D e n,ne,nf,d⟩
def Inv.un {t':Nat}(I:Inv X bz σ H s)(u:Un X.fs [] H H' s.heap h')(G:HOk X.prog X.w H' h'):Inv X bz σ H' { s with heap:=h',toks:=t' }:=by
 obtain⟨m,⟨o,U,O,J,r⟩,_⟩:=id I.loc;obtain⟨sl,L⟩:=u.any J I.free (by simp);exact I.step (g':=s.gens) (d':=s.drawn) (ch:=[]) (λ_ z=>nomatch z) (λb o _ E _ e n=>u.keep b o e n E (by simp)) (λb o _ E _ e n=>u.slot b o e n E (by simp)) (λb o _ e n=>u.free b o e n (by simp)) (λb o _ e=>u.there b o e (by simp)) u.tups u.frzs u.tbls (λY hm=>by
  obtain⟨o',D,B,A,M⟩:=hm;rw[J]at A;cases A;exact⟨_,D,B,L,M⟩) G I.bare
def Inv.call {g':Array Sq}{t':Nat}{d':Drawn}{ch:List Addr}(I:Inv X bz σ H s)(u:Un (frs X.stack) ch H H' s.heap h')(J:HOk X.prog X.w H' h')(O:Sy g')
  (A:∀b∈ch,(b∈X.ex\/X.s₀.heap.objs.size<=b)/\b≠X.env.locals/\(∀x c,X.env.cells.lookup x=some c->c≠b)/\∀p∈X.pn++bz,p.1≠b) :
  Inv X bz σ H' { s with heap:=h',gens:=g',drawn:=d',toks:=t' }:=by
 obtain⟨m,⟨o,es,Y,L,r⟩,_⟩:=id I.loc;obtain⟨sl,G⟩:=u.any L I.free λz=>(A _ z).2.1 rfl;exact I.step (ch:=ch) A (λb o G M hc e n=>u.keep b o e n (λz=>(XQ.mp (I.stkSub b z)).elim G M) hc) (λb o _ _ hc e n=>u.any e n hc) (λb o hc e n=>u.free b o e n hc) (λb o hc e=>u.there b o e hc) u.tups u.frzs u.tbls (λm' hm=>by
  obtain⟨o',E,D,B,U⟩:=hm;rw[L]at B;cases B;exact⟨_,E,D,G,U⟩) J O
def Inv.turned {t':Nat}{it:Addr}(I:Inv X bz σ H s)(k:∀b o,b≠it->s.heap.get? b=some o->h'.get? b=some o)(hn:H it=none)(A:it≠X.env.locals)
  (E:it∈X.ex\/X.s₀.heap.objs.size<=it) (G:∀x c,X.env.cells.lookup x=some c->c≠it) (J:∀p∈X.pn++bz,p.1≠it):Inv X bz σ H { s with heap:=h',toks:=t' }:=by
 have w:∀b u,H b=some u->b≠it:=λb u e z=>by rw[z,hn]at e;cases e
 refine I.step (g':=s.gens) (d':=s.drawn) (ch:=[it]) (λb L=>?_) (λb o _ _ hc e _=>k b o (λz=>hc (by simp[z])) e) (λb o _ _ hc e _=>⟨o.slots,k b o (λz=>hc (by simp[z])) e⟩) (λ_ _ _ _ n=>n)
  (λb o hc e=>⟨o,k b o (λz=>hc (by simp[z])) e⟩) (λ_ _ e=>e) (λ_ _ _ e=>e) (λb ps e=>⟨#[],by rw[e];simp⟩) (λm hm=>?_) (λb u e=>?_) I.bare
 .have e:b=it:=by simpa using L
  subst e;exact⟨E,A,G,J⟩
 .obtain⟨o,D,B,M,r⟩:=hm;exact⟨o,D,B,k _ o (Vc A) M,r⟩
 .refine(I.hok b u e).stay (λc v hc q=>k c v ?_ q) (λ_ q=>q) λ_ _ q=>q;rcases hc with z | z
  .rw[z];exact w b u e
  .exact w c _ z
def Inv.tok (I:Inv X bz σ H s)(t:Nat):Inv X bz σ H { s with toks:=t }:=I.un (h':=s.heap) (t':=t) Un.refl I.hok
theorem Inv.kept {t':Nat}(I:Inv X bz σ H s)(k:∀b u,s.heap.get? b=some u->h'.get? b=some u):Inv X bz σ H { s with heap:=h',toks:=t' }:=I.un (Un.kept k) (I.hok.kept k)
theorem Inv.laid {a:Addr}{o:HO}{t':Nat}(I:Inv X bz σ H s)(k:∀b u,s.heap.get? b=some u->h'.get? b=some u)(m:s.heap.objs.size<=a)(r:qN X.prog X.w (upd H a o) h' a o) :
  Inv X bz σ (upd H a o) { s with heap:=h',toks:=t' }:=I.un (Un.laid k m (I.hok.fresh m)) (I.hok.laid k m r)
theorem Inv.write {x e:Addr}{o:HO}{t':Nat}(I:Inv X bz σ H s)(A:Mut (H x))(he:e=x\/H e=some (.own x))(k:∀b u,b≠e->s.heap.get? b=some u->h'.get? b=some u)(m:∃u,h'.get? e=some u)
  (r:qN X.prog X.w (upd H x o) h' x o):Inv X bz σ (upd H x o) { s with heap:=h',toks:=t' }:=I.un (Un.write A he k m) (I.hok.write A he k m r)
def Inv.pins_of {m:List (Addr×Obj)}(I:Inv X bz σ H s)(h:∀p∈m,s.heap.get? p.1=some p.2/\H p.1=none/\p.1≠X.env.locals/\p.1 ∉ X.fs/\∀v,p.2.data ≠ .cell v):Inv X m σ H s :=
 ⟨I.ok,I.os,I.bare,I.base,I.loc,I.cell,I.free,I.zV,λp r=>(XU.mp r).elim (λz=>I.pin p (W4 _ z)) (h p),I.hok,I.len⟩
def zfU {N:AD}(s:N.Nodup){i j:Nat}{x:Str}(a:N[i]?=some x)(b:N[j]?=some x):i=j:=by
 obtain⟨w,m⟩:=XV.mp a;obtain⟨A,r⟩:=XV.mp b;exact(List.getElem_inj s).mp (m.trans r.symm)
def zd7 {M:Model}{A:WK}{E:X7->X0->Prop}{i:Nat}{x:Str}{v:V}{u:X7}{Q:Unit->X0->Prop}(I:Inv X bz σ H s)(hN:X.N.Nodup)(hi:X.N[i]?=some x)(hx:Loc X.env.scope x)(r:RelV v u)
  (h:∀s',Inv X bz (σ.set i (some v)) H s'->(∃a,V5 a s.heap s'.heap/\(a=X.env.locals\/X.env.cells.lookup x=some a))->Q () s') (hf:X.fn x=true\/X.env.scope.names.lookup x=some .local:=by first | exact .inl rfl | exact .inr rfl | assumption):Xg M A (storeName X.env x u) Q E s:=by
 obtain⟨m,hn,hl⟩:=id I.loc;have ac:(X.env.scope.kind == .class || (X.env.scope.kind == .module&&X.env.locals != X.env.globals))=false:=by rw[I.ok.kind];rfl
 have O:i < σ.length:=by rw[I.len];exact(XV.mp hi).1
 have cne:=I.cne;have G:∀{a:Addr} {h':Heap},(∃o,s.heap.get? a=some o/\H a=none)->V5 a s.heap h'->HOk X.prog X.w H h':=λ{a h'} ha B b ob e=>by
  obtain⟨_,_,J⟩:=ha;refine(I.hok b ob e).stay (λc w' hc q=>(B.2 c ?_).trans q) (λ_ q=>q) λ_ _ q=>q;rintro rfl;rcases hc with rfl | hc
  .rw[J]at e;cases e
  .rw[J]at hc;cases hc
 rcases hx with hk | hk
 .refine wpAny_storeName_local hk hn (λh' ag B=>?_) ac;obtain⟨oL,_,_,ah,_⟩:=id hn;refine h _ ⟨I.ok,I.os,I.bare,⟨λb o e n U hx=>?_,λb o e n U hx=>?_,I.base.free,λb o e hx=>?_,I.base.tups,I.base.frzs,I.base.tbls⟩,⟨_,ag,λj y v' D L e3=>?_⟩,λy c e=>?_,I.free,I.zV,λp hp=>?_,G ⟨oL,ah,I.free⟩ B,by simpa using I.len⟩ ⟨_,B,.inl rfl⟩
  .exact(B.2 b (Xf (Xj (Xz e) I.ok.above))).trans (I.base.keep b o e n U hx)
  .obtain⟨sl,D⟩:=I.base.slot b o e n U hx;exact⟨sl,(B.2 b (Xf (Xj (Xz e) I.ok.above))).trans D⟩
  .obtain⟨o',D⟩:=I.base.there b o e hx;exact⟨o',(B.2 b (Xf (Xj (Xz e) I.ok.above))).trans D⟩
  .by_cases hj:j=i
   .subst hj;rw[hi]at D;cases D;rw[P1 O]at L;cases L;exact⟨u,r,.inl ⟨hk,by simp⟩⟩
   .rw[O8 (Vc hj)]at L;obtain⟨u',r',q⟩:=hl j y v' D L e3;refine⟨u',r',?_⟩;rcases q with ⟨k,e⟩ | ⟨k,c,e,z⟩
    .refine .inl ⟨k,?_⟩;have:y≠x:=λe=>hj (zfU hN D (e ▸ hi));simp[this,e]
    .exact .inr ⟨k,c,e,z.sameBut B (cne y c e)⟩
  .obtain⟨w',z⟩:=I.cell y c e;exact⟨w',z.sameBut B (cne y c e)⟩
  .obtain⟨e,n,ne,nf,d⟩:=I.pin p hp;exact⟨(B.2 p.1 ne).trans e,n,ne,nf,d⟩
 .have Y:X.fn x=true:=by
   rcases hf with z | z
   .exact z
   .rw[z]at hk;cases hk
  obtain⟨c,hc⟩:=I.ok.has x (.inl hk);obtain⟨w',z⟩:=I.cell x c hc;refine wpAny_storeName_cell I.ok.kind hk hc z (λh' aa B=>?_);obtain⟨oc,ae,af⟩:=id z;refine h { s with heap:=h' } ⟨I.ok,I.os,I.bare,⟨λb o e n U hx=>?_,λb o e n U hx=>?_,I.base.free,λb o e hx=>?_,I.base.tups,I.base.frzs,I.base.tbls⟩,⟨m,hn.sameBut B (Vc (cne x c hc)),λj y v' D L e3=>?_⟩,λy c' e=>?_,I.free,I.zV,λp hp=>?_,G ⟨oc,ae,I.zV x c hc⟩ B,by simpa using I.len⟩ ⟨c,B,.inr hc⟩
  .exact(B.2 b (Xf (Xj (Xz e) (I.ok.cab x c Y hc)))).trans (I.base.keep b o e n U hx)
  .obtain⟨sl,D⟩:=I.base.slot b o e n U hx;exact⟨sl,(B.2 b (Xf (Xj (Xz e) (I.ok.cab x c Y hc)))).trans D⟩
  .obtain⟨o',D⟩:=I.base.there b o e hx;exact⟨o',(B.2 b (Xf (Xj (Xz e) (I.ok.cab x c Y hc)))).trans D⟩
  .by_cases hj:j=i
   .subst hj;rw[hi]at D;cases D;rw[P1 O]at L;cases L;exact⟨u,r,.inr ⟨.inl hk,c,hc,aa⟩⟩
   .rw[O8 (Vc hj)]at L;obtain⟨u',r',q⟩:=hl j y v' D L e3;refine⟨u',r',?_⟩;rcases q with q | ⟨k,c',e,z'⟩
    .exact .inl q
    .refine .inr ⟨k,c',e,z'.sameBut B ?_⟩;rintro rfl;exact hj (zfU hN D (I.ok.inj _ _ _ e hc ▸ hi))
  .by_cases ab:c'=c
   .subst ab;exact⟨_,aa⟩
   .obtain⟨w2,z2⟩:=I.cell y c' e;exact⟨w2,z2.sameBut B ab⟩
  .obtain⟨e,n,ne,nf,d⟩:=I.pin p hp;refine⟨(B.2 p.1 ?_).trans e,n,ne,nf,d⟩;intro q;rw[q,ae]at e;have q':oc=p.2:=Option.some.inj e;exact d w' (by rw[<- q'];exact af)
def zfV {M:Model}{A:WK}{E:X7->X0->Prop}{i:Nat}{x:Str}{v:V}{u:X7}{Q:Unit->X0->Prop}(I:Inv X bz σ H s)(w:X.N.Nodup)(hi:X.N[i]?=some x)(hx:Loc X.env.scope x)(r:RelV v u)
  (h:∀s',Inv X bz (σ.set i (some v)) H s'->Q () s') (B:X.fn x=true\/X.env.scope.names.lookup x=some .local:=by first | exact .inl rfl | exact .inr rfl | assumption):Xg M A (storeName X.env x u) Q E s :=
 zd7 I w hi hx r (λs' m _=>h s' m) B
def Inv.call' {s':X0}{ch:List Addr}(I:Inv X bz σ H s)(B:s'.os=s.os)(u:Un (frs X.stack) ch H H' s.heap s'.heap)(r:HOk X.prog X.w H' s'.heap)(A:Sy s'.gens)
  (m:∀b∈ch,(b∈X.ex\/X.s₀.heap.objs.size<=b)/\b≠X.env.locals/\(∀x c,X.env.cells.lookup x=some c->c≠b)/\∀p∈X.pn++bz,p.1≠b):Inv X bz σ H' s':=by
 obtain⟨h',g',d',t',D⟩:=s';have e:D=s.os:=B;subst e;exact I.call (g':=g') (t':=t') (d':=d') u r A m
end
abbrev XK:=X7->Option Addr->Hp->Prop
abbrev St:=List (Option V)
abbrev VK:=V->Hp->Prop
abbrev TE:=St->Hp->VK->Prop
abbrev TT:=St->Hp->(Bool->Hp->Prop)->Prop
abbrev TA:=St->Hp->(AE->Hp->Prop)->Prop
structure Ends where
 nx:St->Hp->Prop
 rt:VK
 bk:St->Hp->Prop:=λ_ _=>False
 ct:St->Hp->Prop:=λ_ _=>False
abbrev TS:=Ends->St->Hp->Prop
def EP (X:Cx)(r:List (Addr×Obj))(σ:St)(Q:VK)(u:X7)(s':X0):Prop:=∃v m,Inv X r σ m s'/\RelV v u/\Q v m
def TP (X:Cx)(r:List (Addr×Obj))(σ:St)(Q:Bool->Hp->Prop)(b:Bool)(s':X0):Prop:=∃m,Inv X r σ m s'/\Q b m
def AP (X:Cx)(r:List (Addr×Obj))(σ:St)(Q:AE->Hp->Prop)(s:List X7)(s':X0):Prop:=∃vs m,Inv X r σ m s'/\Vals vs s/\Q vs m
def SP (X:Cx)(s:List (Addr×Obj))(D:Ends)(f:Flow)(s':X0):Prop :=
 match f with
 | .next=>∃ m r,Inv X s m r s'/\D.nx m r
 | .brk=>∃ m r,Inv X s m r s'/\D.bk m r
 | .cont=>∃ m r,Inv X s m r s'/\D.ct m r
 | .ret u=>∃v m r,Inv X s m r s'/\RelV v u/\D.rt v r
def PE (X:Cx)(e:Expr)(t:TE):Prop :=
 ∀(m:List (Addr×Obj)) (s:X0) (σ:St) (H:Hp) (Q:VK),Inv X m σ H s->t σ H Q->Xg (Xi X.prog X.w) X.A (eval e X.env) (EP X m σ Q) X.xe s
def PT (X:Cx)(e:Expr)(t:TT):Prop :=
 ∀(m:List (Addr×Obj)) (s:X0) (σ:St) (H:Hp) (Q:Bool->Hp->Prop),Inv X m σ H s->t σ H Q->Xg (Xi X.prog X.w) X.A (isTrue e X.env (eval e X.env)) (TP X m σ Q) X.xe s
def PW (X:Cx)(e:Expr)(t:TT):Prop :=
 ∀(whole:Sem X7) (m:List (Addr×Obj)) (s:X0) (σ:St) (H:Hp) (Q:Bool->Hp->Prop),Inv X m σ H s->t σ H Q->Xg (Xi X.prog X.w) X.A (isTrue e X.env whole) (TP X m σ Q) X.xe s
def PW.pt {X:Cx}{e:Expr}{t:TT}(h:PW X e t):PT X e t:=h _
def PA (X:Cx)(r:List Expr)(t:TA):Prop :=
 ∀(pos:Pos) (m:List (Addr×Obj)) (s:X0) (σ:St) (H:Hp) (Q:AE->Hp->Prop),Inv X m σ H s->t σ H Q->Xg (Xi X.prog X.w) X.A (spliced (Tl pos (WV r X.env))) (AP X m σ Q) X.xe s
def PS (X:Cx)(st:Stmt)(t:TS):Prop :=
 ∀(m:List (Addr×Obj)) (s:X0) (σ:St) (H:Hp) (D:Ends),Inv X m σ H s->t D σ H->Xg (Xi X.prog X.w) X.A (exec st X.env) (SP X m D) X.xe s
def PSs (X:Cx)(st:List Stmt)(t:TS):Prop :=
 ∀(m:List (Addr×Obj)) (s:X0) (σ:St) (H:Hp) (D:Ends),Inv X m σ H s->t D σ H->Xg (Xi X.prog X.w) X.A (execs st X.env) (SP X m D) X.xe s
def thn {α:Type}{t:Sem α}{Q m:α->X0->Prop}{M:Model}{A:WK}{E:X7->X0->Prop}{s:X0}(h:Xg M A t Q E s)(r:∀a s,Q a s->m a s):Xg M A t m E s:=Vo h r λ_ _ x=>x
section
variable {X:Cx}
def zrC (i:Nat):TE:=fun σ H Q=>∃v,σ[i]?=some (some v)/\Q v H
def tC (v:V):TE:=λ_ H Q=>Q v H
def zp9 {i:Nat}{x:Str}{pos:Pos}(G:X.N[i]?=some x)(hv:Vis X.env.scope x)(D:(x==("__debug__":Str))=false:=by decide)(B:(x==("__classdict__":Str))=false:=by decide):PE X (.Name x pos) (zrC i):=by
 intro E s σ H Q I h;obtain⟨v,e,h⟩:=h;obtain⟨m,hn,hl⟩:=I.loc;obtain⟨u,r,l⟩:=hl i x v G e hv;have A:EP X E σ Q u s:=⟨v,H,I,r,h⟩;rcases l with ⟨hk,hm⟩ | ⟨hk,c,hc,w⟩
 .exact wpAny_Name (wpAny_loadName_local I.ok.kind hk hn hm A) D
 .rcases hk with hk | hk
  .exact wpAny_Name (wpAny_loadName_cell I.ok.kind hk hc w A) D
  .exact wpAny_Name (wpAny_loadName_free I.ok.kind hk hc w A B) D
def zf {i j pos}:PE X (.Constant (.int i) j pos) (tC (.int i)):=λ_ _ _ H _ I h=>wpAny_Constant_int ⟨.int i,H,I.tok _,⟨_,rfl⟩,h⟩
def zam {b j pos}:PE X (.Constant (.bool b) j pos) (tC (.bl b)):=λ_ _ _ H _ I h=>Constant_bool ⟨.bl b,H,I,rfl,h⟩
def ze2 {j pos}:PE X (.Constant .none j pos) (tC .non):=λ_ _ _ H _ I h=>Constant_none ⟨.non,H,I,rfl,h⟩
def jx {x j pos}:PE X (.Constant (.str x) j pos) (tC (.str x)):=λ_ _ _ H _ I h=>Calls.Constant_str ⟨.str x,H,I.tok _,⟨_,rfl⟩,h⟩
def Gl (X:Cx)(x:Str):Prop:=X.env.kindOf x=some .globalImplicit
def zan {E:X7->X0->Prop}{m:List (Addr×Obj)}{s:X0}{σ:St}{H:Hp}{x:Str}{u:X7}{pos:Pos}{Q:X7->X0->Prop}(I:Inv X m σ H s)(B:Gl X x)(hm:X.mg x=some u)(h:Q u s)
  (r:(x==("__debug__":Str))=false:=by decide):Xg (Xi X.prog X.w) X.A (eval (.Name x pos) X.env) Q E s :=
 RN I.ok.kind B (Calls.loadGlobal_global (by rw[I.ok.glob];exact I.mod.glob.keeps I.bk) hm h) r
def Q0 {E:X7->X0->Prop}{m:List (Addr×Obj)}{s:X0}{σ:St}{H:Hp}{x:Str}{u:X7}{pos:Pos}{Q:X7->X0->Prop}(I:Inv X m σ H s)(G:Gl X x)(hm:X.mg x=none)(hv:UG x=some u)(h:Q u s)
  (hn:x ≠ "__name__":=by decide) (D:(x==("__debug__":Str))=false:=by decide):Xg (Xi X.prog X.w) X.A (eval (.Name x pos) X.env) Q E s:=by
 obtain⟨J,r,B⟩:=I.mod.blt;exact RN I.ok.kind G (Calls.loadGlobal_builtin (by rw[I.ok.glob];exact I.mod.glob.keeps I.bk) hm (by rw[I.ok.blt];exact r.keeps I.bk) ((B x hn).trans hv) h) D
def Jf {x:Str}{v:V}{u:X7}{pos:Pos}(s:Gl X x)(hm:X.mg x=some u)(r:RelV v u)(m:(x==("__debug__":Str))=false:=by decide):PE X (.Name x pos) (tC v) :=
 λ_ _ _ H _ I h=>zan I s hm ⟨v,H,I,r,h⟩ m
def ze3 {x:Str}{v:V}{u:X7}{pos:Pos}(s:Gl X x)(hm:X.mg x=none)(hv:UG x=some u)(r:RelV v u)(hn:x ≠ "__name__":=by decide)(m:(x==("__debug__":Str))=false:=by decide):PE X (.Name x pos) (tC v) :=
 λ_ _ _ H _ I h=>Q0 I s hm hv ⟨v,H,I,r,h⟩ hn m
variable {a b:Expr}{ta tb:TE}{pos:Pos}
def PC (X:Cx)(op:Oa)(a b:Expr)(t:TE):Prop :=
 ∀(B:List (Addr×Obj)) (s:X0) (σ:St) (H:Hp) (Q:VK),Inv X B σ H s->t σ H Q ->
  Xg (Xi X.prog X.w) X.A (eval a X.env) (λv m=>Xg (Xi X.prog X.w) X.A (eval b X.env) (λu r=>Xg (Xi X.prog X.w) X.A (Wb op v u) (EP X B σ Q) X.xe r) X.xe m) X.xe s
def tB (t:TE):TT:=fun σ H Q=>t σ H λx m=>∃c,x=.bl c/\Q c m
def zqa {op:Oa}{t:TE}(h:PC X op a b t)(r:Tu op b=false:=by first | exact m _ (by decide) (by decide) | rfl):PT X (.Compare a [op] [b] pos) (tB t):=by
 intro B s σ H Q I E;refine SK (thn (h B s σ H _ I E) λv s1 r=>thn r λu L D=>thn D λc M ⟨x,w,A,J,G⟩=>?_) r;obtain⟨d,rfl,q⟩:=G;cases J;exact VN ⟨w,A,q⟩
variable {tA tB':TT}{rest:List Expr}
def zsw (t u:TT):TT:=fun σ H Q=>t σ H λc m=>if c=true then u σ m Q else Q false m
def tOr (t u:TT):TT:=fun σ H Q=>t σ H λc m=>if c=true then Q true m else u σ m Q
def zsx (t:TT):TT:=fun σ H Q=>t σ H λc m=>Q (!c) m
def zcf (ha:PT X a tA):PW X (.BoolOp .And [a] pos) tA:=by
 intro r m s σ H Q I h;refine isTrue_and (thn (ha m s σ H Q I h) λc s1 e=>?_);cases c with
 | true=>exact isTrue_and_nil e
 | false=>exact e
def zqb (ha:PT X a tA):PW X (.BoolOp .Or [a] pos) tA:=by
 intro r m s σ H Q I h;refine isTrue_or (thn (ha m s σ H Q I h) λc s1 e=>?_);cases c with
 | false=>exact isTrue_or_nil e
 | true=>exact e
def ze4 (ha:PT X a tA)(B:PW X (.BoolOp .And (b::rest) pos) tB'):PW X (.BoolOp .And (a::b::rest) pos) (zsw tA tB'):=by
 intro D w s σ H Q I h;refine isTrue_and (thn (ha w s σ H _ I h) λc s1 ⟨m,r,A⟩=>?_);cases c with
 | true=>exact B D w s1 σ m Q r A
 | false=>exact⟨m,r,A⟩
def zpn (ha:PT X a tA)(B:PW X (.BoolOp .Or (b::rest) pos) tB'):PW X (.BoolOp .Or (a::b::rest) pos) (tOr tA tB'):=by
 intro D w s σ H Q I h;refine isTrue_or (thn (ha w s σ H _ I h) λc s1 ⟨m,r,A⟩=>?_);cases c with
 | true=>exact⟨m,r,A⟩
 | false=>exact B D w s1 σ m Q r A
def Q2 (ha:PT X a tA):PT X (.UnaryOp .Not a pos) (zsx tA):=by
 intro r s σ H Q I h;exact isTrue_not (ha r s σ H (λc m=>Q (!c) m) I h)
def zrD (ta tb:TE):TE:=fun σ H Q=>ta σ H λx m=>∃c,x=.bl c/\if c=true then tb σ m Q else Q (.bl false) m
def zlB {op}{t:TE}(h:PE X a t):PE X (.BoolOp op [a] pos) t:=λm s σ H Q I r=>BoolOp_one (h m s σ H Q I r)
def zhG (ha:PE X a ta)(B:PE X (.BoolOp .And (b::rest) pos) tb):PE X (.BoolOp .And (a::b::rest) pos) (zrD ta tb):=by
 intro A s σ H Q I h;refine BoolOp_and (thn (ha A s σ H _ I h) λv s1 ⟨x,r,w,D,m⟩=>?_);obtain⟨c,rfl,m⟩:=m;cases D;refine VN ?_;cases c with
 | true=>exact B A s1 σ r Q w m
 | false=>exact⟨.bl false,r,w,rfl,m⟩
def tIf (t:TT)(ta tb:TE):TE:=fun σ H Q=>t σ H λc m=>if c=true then ta σ m Q else tb σ m Q
def zlC {c:Expr}(hc:PT X c tA)(ha:PE X a ta)(B:PE X b tb):PE X (.IfExp c a b pos) (tIf tA ta tb):=by
 intro m s σ H Q I h;refine wpAny_IfExp (thn (hc m s σ H _ I h) λd s1 ⟨r,w,A⟩=>?_);cases d with
 | true=>exact ha m s1 σ r Q w A
 | false=>exact B m s1 σ r Q w A
end
def SqL (K:XW)(H:Hp)(a:Addr)(xs:AE):Prop :=
 Rd H a (.lst xs) \/
  ∃(o:Obj) (m:Array X7) (n:Nat),K.lookup a=some o/\o.cls=.type "list"/\o.dict=none/\o.data=.seq m n/\m.size<=Xv/\Vals xs m.toList
def SqT (K:XW)(H:Hp)(a:Addr)(xs:AE):Prop :=
 Rd H a (.tup xs) \/
  ∃(o:Obj) (m:Array X7) (n:Nat),K.lookup a=some o/\o.cls=.type "tuple"/\o.data=.seq m n/\m.size<=Xv/\Vals xs m.toList
def zsy:X7->Option V
 | .none=>some .non
 | .bool b=>some (.bl b)
 | .int i _=>some (.int i)
 | .str x _=>some (.str x)
 | .bytes b _=>some (.byt b)
 | .float b _=>some (.flt b)
 | .ref a=>some (.ref a)
 | .type n=>some (.ty n)
 | _=>none
def RelV.abs {x:V}{u:X7}(r:RelV x u):zsy u=some x:=by
 cases x with
 | non=>cases r;rfl
 | bl _=>cases r;rfl
 | int _=>obtain⟨t,rfl⟩:=r;rfl
 | str _=>obtain⟨t,rfl⟩:=r;rfl
 | byt _=>obtain⟨t,rfl⟩:=r;rfl
 | flt _=>obtain⟨t,rfl⟩:=r;rfl
 | ref _=>cases r;rfl
 | ty _=>cases r;rfl
theorem RelV.inj {x y:V}{u:X7}(r:RelV x u)(q:RelV y u):x=y:=Option.some.inj (r.abs.symm.trans q.abs)
theorem Vals.inj:∀{xs ys:AE} {m:List X7},Vals xs m->Vals ys m->xs=ys
 | _,_,_,.nil,.nil=>rfl
 | _,_,_,.cons r t,.cons s t'=>by rw[r.inj s,Vals.inj t t']
section
variable {X:Cx}{bz:List (Addr×Obj)}{σ:St}{H:Hp}{s:X0}{a:Addr}{xs ys:AE}
def SqL.of {K:XW}(h:H a=some (.lst xs)):SqL K H a xs:=.inl (.inl h)
def SqT.of {K:XW}(h:H a=some (.tup xs)):SqT K H a xs:=.inl (.inl h)
def Inv.list (I:Inv X bz σ H s)(h:SqL X.K H a xs):∃m:List X7,Vals xs m/\PlainL s.heap a m.toArray/\xs.length<=Xv:=by
 rcases h with h | ⟨o,m,n,hk,hc,w,A,hz,r⟩
 .obtain⟨z,m,n,r,e⟩:=h.ok I.hok;exact⟨m,r,⟨_,n,e,rfl,rfl,rfl⟩,z⟩
 .refine⟨m.toList,r,⟨o,n,I.kIn a o hk,hc,w,by simpa using A⟩,?_⟩;have e:=r.length;simp only[XZ]at e;lia
def Inv.tuple (I:Inv X bz σ H s)(h:SqT X.K H a xs):∃m:List X7,Vals xs m/\Og s.heap a m.toArray/\xs.length<=Xv:=by
 rcases h with h | ⟨o,m,n,hk,hc,w,hz,r⟩
 .obtain⟨z,m,r,p⟩:=h.ok I.hok;exact⟨m,r,p,z⟩
 .refine⟨m.toList,r,⟨o,I.kIn a o hk,hc,n,by simpa using w⟩,?_⟩;have e:=r.length;simp only[XZ]at e;lia
def Inv.list_inj (I:Inv X bz σ H s)(h:SqL X.K H a xs)(h':SqL X.K H a ys):xs=ys:=by
 obtain⟨w,r,⟨o,n,e,_,_,d⟩,_⟩:=I.list h;obtain⟨m,E,⟨J,G,B,_,_,A⟩,_⟩:=I.list h';rw[e]at B;cases B;rw[d]at A;injection A with D _
 have:w=m:=by simpa using congrArg Array.toList D
 subst this;exact r.inj E
end
abbrev Cx.wish (X:Cx)(E:X7->X0->Prop):Cx:={ X with xe:=E }
abbrev Cx.nox (X:Cx):Cx:=X.wish λ_ _=>False
theorem Cx.Ok.wish {X:Cx}(ok:X.Ok)(E:X7->X0->Prop):(X.wish E).Ok :=
 ⟨ok.mod,ok.kind,ok.glob,ok.blt,ok.above,ok.inj,ok.has,ok.cab,ok.hd,ok.frames,ok.stk,ok.exf,ok.bs,ok.bsz,ok.noex,ok.exfs,ok.funs,ok.frf⟩
def Cx.Ok.unwish {X:Cx}{E:X7->X0->Prop}(ok:(X.wish E).Ok):X.Ok :=
 ⟨ok.mod,ok.kind,ok.glob,ok.blt,ok.above,ok.inj,ok.has,ok.cab,ok.hd,ok.frames,ok.stk,ok.exf,ok.bs,ok.bsz,ok.noex,ok.exfs,ok.funs,ok.frf⟩
section
variable {X:Cx}{bz:List (Addr×Obj)}{σ:St}{H:Hp}{s:X0}{E:X7->X0->Prop}
theorem Inv.wish (I:Inv X bz σ H s)(E:X7->X0->Prop):Inv (X.wish E) bz σ H s:=⟨I.ok.wish E,I.os,I.bare,I.base,I.loc,I.cell,I.free,I.zV,I.pin,I.hok,I.len⟩
theorem Inv.unwish (I:Inv (X.wish E) bz σ H s):Inv X bz σ H s:=⟨I.ok.unwish,I.os,I.bare,I.base,I.loc,I.cell,I.free,I.zV,I.pin,I.hok,I.len⟩
theorem SP.unwish {D:Ends}{f:Flow}{s':X0}(h:SP (X.wish E) bz D f s'):SP X bz D f s':=by
 cases f with
 | next=>obtain⟨m,s,I,q⟩:=h;exact⟨m,s,I.unwish,q⟩
 | brk=>obtain⟨m,s,I,q⟩:=h;exact⟨m,s,I.unwish,q⟩
 | cont=>obtain⟨m,s,I,q⟩:=h;exact⟨m,s,I.unwish,q⟩
 | ret u=>obtain⟨v,m,s,I,r,q⟩:=h;exact⟨v,m,s,I.unwish,r,q⟩
theorem PSs.nox {st:List Stmt}{t:TS}(h:PSs X.nox st t):PSs X st t:=λbz s σ H D I m =>
 Vo (h bz s σ H D (I.wish _) m) (λ_ _ q=>q.unwish) λ_ _ z=>Vn z
end
section
variable {X:Cx}{st:Stmt}{rest:List Stmt}{t u:TS}{e:Expr}{te:TE}{pos:Pos}
def zrE:TS:=λD σ H=>D.nx σ H
def zsz (t u:TS):TS:=λD σ H=>t { D with nx:=u D } σ H
def qd:PSs X [] zrE:=λ_ _ σ H _ I h=>Uf ⟨σ,H,I,h⟩
def ze (B:PS X st t)(E:PSs X rest u):PSs X (st::rest) (zsz t u):=by
 intro r s σ H D I h;refine SC (thn (B r s σ H { D with nx:=u D } I h) λf s1 q=>?_);cases f with
 | next =>
  obtain⟨m,w,A,q⟩:=q;exact E r s1 m w D A q
 | ret v=>exact q
 | brk=>exact q
 | cont=>exact q
def zh (r:PS X st t):PSs X [st] t:=by
 intro m s σ H D I h;refine SC (thn (r m s σ H D I h) λf s1 q=>?_);cases f with
 | next=>exact Uf q
 | ret v=>exact q
 | brk=>exact q
 | cont=>exact q
def Inv.quiet {m:List (Addr×Obj)}{σ:St}{H:Hp}{s:X0}(I:Inv X m σ H s):interactive X.env=false:=by simp[interactive,I.ok.kind]
def zrF (te:TE):TS:=λD σ H=>te σ H λ_ m=>D.nx σ m
def qV (he:PE X e te)(A:R5 e none pos.line X.env=pure false:=by rfl):PS X (.Expr e pos) (zrF te):=by
 intro w s σ H D I h;exact wpAny_Expr_any (thn (he w s σ H _ I h) λv s1 ⟨x,m,r,E,B⟩=>⟨σ,m,r,B⟩) I.quiet A
def zsA (te:TE):TS:=λD σ H=>te σ H D.rt
def zB (he:PE X e te):PS X (.Return (some e) pos) (zsA te):=by
 intro w s σ H D I h;exact wpAny_Return_some (thn (he w s σ H _ I h) λv s1 ⟨x,m,r,B,A⟩=>⟨x,σ,m,r,B,A⟩)
def zsB (c:TT)(t u:TS):TS:=λD σ H=>c σ H λb m=>if b=true then t D σ m else u D σ m
def qW {c:Expr}{a b:List Stmt}{B:TT}(hc:PT X c B)(ha:PSs X a t)(E:PSs X b u):PS X (.If c a b pos) (zsB B t u):=by
 intro m s σ H D I h;refine wpAny_If (thn (hc m s σ H _ I h) λd s1 ⟨r,w,A⟩=>?_);cases d with
 | true=>exact ha m s1 σ r D w A
 | false=>exact E m s1 σ r D w A
def zqc:TS:=λ_ _ _=>False
def zlD:PS X st zqc:=λ_ _ _ _ _ _ h=>h.elim
end
abbrev TG:=V->St->Hp->(St->Hp->Prop)->Prop
abbrev TGs:=AE->St->Hp->(St->Hp->Prop)->Prop
def PG (X:Cx)(m:Expr)(t:TG):Prop :=
 ∀(D:List (Addr×Obj)) (s:X0) (σ:St) (H:Hp) (v:V) (u:X7) (Q:St->Hp->Prop),Inv X D σ H s->RelV v u->t v σ H Q ->
  Xg (Xi X.prog X.w) X.A (Od m X.env u) (λ_ E=>∃ r B,Inv X D r B E/\Q r B) X.xe s
def PGs (X:Cx)(G:List Expr)(t:TGs):Prop :=
 ∀(B:List (Addr×Obj)) (s:X0) (σ:St) (H:Hp) (vs:AE) (D:List X7) (Q:St->Hp->Prop),Inv X B σ H s->Vals vs D->t vs σ H Q ->
  Xg (Xi X.prog X.w) X.A (assignInOrder ((Tj G X.env).map (·.2)) D) (λ_ E=>∃ m r,Inv X B m r E/\Q m r) X.xe s
abbrev zlE:=V->V->V->Hp->(Hp->Prop)->Prop
def zqd (X:Cx)(t:zlE):Prop :=
 ∀(r:List (Addr×Obj)) (s:X0) (σ:St) (H:Hp) (o i v:V) (D B u:X7) (Q:Hp->Prop),Inv X r σ H s->RelV o D->RelV i B->RelV v u->t o i v H Q ->
  Xg (Xi X.prog X.w) X.A (setItem D B u) (λ_ E=>∃m,Inv X r σ m E/\Q m) X.xe s
abbrev TIp:=V->V->Hp->VK->Prop
def PIp (X:Cx)(op:Operator)(t:TIp):Prop :=
 ∀(m:List (Addr×Obj)) (s:X0) (σ:St) (H:Hp) (x y:V) (v u:X7) (Q:VK),Inv X m σ H s->RelV x v->RelV y u->t x y H Q ->
  Xg (Xi X.prog X.w) X.A (inplaceOp op v u) (EP X m σ Q) X.xe s
section
variable {X:Cx}{pos:Pos}
def yD (i:Nat):TG:=λv σ H Q=>Q (σ.set i (some v)) H
def ziW {i:Nat}{x:Str}(w:X.N.Nodup)(hi:X.N[i]?=some x)(hx:Loc X.env.scope x)(A:X.fn x=true\/X.env.scope.names.lookup x=some .local:=by first | exact .inl rfl | exact .inr rfl | assumption):PG X (.Name x pos) (yD i):=by
 intro B s σ H v u Q I r h;exact wpAny_assign_Name (zfV I w hi hx r (λD m=>⟨_,H,m,h⟩) A)
def zsC:TGs:=λvs σ H Q=>vs=[]/\Q σ H
def zrG (t:TG)(u:TGs):TGs:=λvs σ H Q=>∃v r,vs=v::r/\t v σ H fun m s=>u r m s Q
def jV:PGs X [] zsC:=by
 intro m s σ H vs w Q I r h;obtain⟨e,h⟩:=h;subst e;cases r;exact assignInOrder_nil ⟨σ,H,I,h⟩
def zW {e:Expr}{m:List Expr}{t:TG}{u:TGs}(G:PG X e t)(J:PGs X m u)
  (L:(Tj (e::m) X.env).map (·.2)=Od e X.env::(Tj m X.env).map (·.2):=by rfl):PGs X (e::m) (zrG t u):=by
 intro A s σ H vs U Q I r h;obtain⟨v,Y,E,h⟩:=h;subst E;cases r with
 | cons r O =>
  rw[L];refine assignInOrder_cons (thn (G A s σ H _ _ _ I r h) λ_ s1 ⟨w,B,D,M⟩=>?_);exact J A s1 w B _ _ Q D O M
def zrH (K:XW)(n:Nat)(t:TGs):TG:=λv σ H Q=>∃a xs,v=.ref a/\SqT K H a xs/\xs.length=n/\t xs σ H Q
def xW {m:List Expr}{k:Nat}{t:TGs}{n:Nat}(hc:X.calm=true)(h:PGs X m t)
  (hn:(Tj m X.env).length=n:=by rfl) (w:(Tj m X.env).findIdx? (·.1)=none:=by rfl):PG X (.Tuple m k pos) (zrH X.K n t):=by
 intro B s σ H v u Q I r A;obtain⟨a,xs,G,hq,hl,A⟩:=A;subst G;cases r;obtain⟨M,D,L,hz⟩:=I.tuple hq;refine assign_Tuple_tuple (I.ok.hd hc) L (by simp[hn,<- hl,D.length]) w λJ hx=>?_;have E:Inv X B σ H { s with heap:=J }:=I.kept (t':=s.toks) λb o e=>hx b o (Xf (Xz e)) e;exact h B _ σ H xs _ Q E (by simpa using D) A
def zsD (to w:TE)(t:zlE):TG:=λv σ H Q=>to σ H λo m=>w σ m λi r=>t o i v r λs=>Q σ s
def zqe {o i:Expr}{to B:TE}{t:zlE}(O:PE X o to)(hi:PE X i B)(U:zqd X t)
  (ha:∀v,Od (.Subscript o i pos) X.env v=(do
   let m <- OX [v] (eval o X.env)
   let w <- OX [v,m] (eval i X.env)
   standAt pos
   OX [v,m,w] (setItem m w v)
   release [v,m,w] []):=by intro _;rfl):PG X (.Subscript o i pos) (zsD to B t):=by
 intro A s σ H v u Q I r h;rw[ha];refine X9 (V7 (thn (O A s σ H _ I h) λm s1 ⟨x,D,J,r1,Y⟩=>?_));refine X9 (V7 (thn (hi A s1 σ D _ J Y) λw s2 ⟨y,E,L,r2,q2⟩=>?_));refine X9 (Ry (X9 (V7 (thn (U A s2 σ E x y v m w u _ L r1 r2 r q2) λ_ s3 ⟨G,M,q3⟩=>?_))));exact wpAny_release ⟨σ,G,M,q3⟩
def zlF (r:TE)(g:TG):TS:=λD σ H=>r σ H λx m=>g x σ m D.nx
def ze5 {tg e:Expr}{r:TE}{g:TG}(he:PE X e r)(E:PG X tg g)(G:swapsWithSole [tg] e pos.line X.env=pure false:=by rfl)(J:swappedStores [tg] e X.env=pure none:=by rfl)
  (B:(Tj [tg] X.env).map (·.2)=[Od tg X.env]:=by rfl):PS X (.Assign [tg] e pos) (zlF r g):=by
 intro m s σ H D I h;refine wpAny_Assign_stores (thn (he m s σ H _ I h) λv s1 ⟨x,w,A,M,L⟩=>?_) G J;rw[B];exact thn (E m s1 σ w x v _ A M L) λ_ O q=>q
def qx {i:Nat}{x:Str}{e:Expr}{r:TE}{m:Pos}(G:X.N.Nodup)(hi:X.N[i]?=some x)(hx:Loc X.env.scope x)(he:PE X e r)(L:R5 e (some (.Name x m)) pos.line X.env=pure false:=by rfl)(J:X.fn x=true\/X.env.scope.names.lookup x=some .local:=by first | exact .inl rfl | exact .inr rfl | assumption) :
  PS X (.Assign [.Name x m] e pos) (zlF r (yD i)):=by
 intro E s σ H D I h;refine wpAny_Assign_Name (thn (he E s σ H _ I h) λv s1 ⟨y,w,A,O,M⟩=>?_) L;exact zfV A G hi hx O (λU B=>⟨_,w,B,M⟩) J
def zrI (to L J:TE)(m:V->V->Hp->VK->Prop)(s:TIp)(r:zlE):TS:=λD σ H=>to σ H λo w=>L σ w λi A=>m o i A λx B=>J σ B λy E=>s x y E λz G=>r o i z G λI=>D.nx σ I
def zrJ (X:Cx)(t:V->V->Hp->VK->Prop):Prop :=
 ∀(m:List (Addr×Obj)) (s:X0) (σ:St) (H:Hp) (o i:V) (B r:X7) (Q:VK),Inv X m σ H s->RelV o B->RelV i r->t o i H Q ->
  Xg (Xi X.prog X.w) X.A (getItem B r) (EP X m σ Q) X.xe s
def ziX {o i e:Expr}{to Y U:TE}{r:V->V->Hp->VK->Prop}{G:TIp}{w:zlE}{op:Operator}{J:Pos}(ho:PE X o to)(hi:PE X i Y)(hg:zrJ X r)(he:PE X e U)(hp:PIp X op G)(hs:zqd X w)
  (ha:∀B A m,augStore i B A m=(do OX [m,B,A] (setItem B A m);release [m,B,A] [];pure .next):=by intros;rfl):PS X (.AugAssign (.Subscript o i J) op e pos) (zrI to Y U r G w):=by
 intro E s σ H D I h;refine wpAny_AugAssign_SubscriptAny (thn (ho E s σ H _ I h) λB s1 ⟨x1,H1,I1,M,q1⟩=>?_) ha;refine thn (hi E s1 σ H1 _ I1 q1) λA s2 ⟨x2,H2,I2,O,q2⟩=>?_;refine thn (hg E s2 σ H2 x1 x2 B A _ I2 M O q2) λL s3 ⟨x3,H3,I3,r3,q3⟩=>?_;refine thn (he E s3 σ H3 _ I3 q3) λv s4 ⟨x4,H4,I4,r4,q4⟩=>?_;refine thn (hp E s4 σ H4 x3 x4 L v _ I4 r3 r4 q4) λm s5 ⟨x5,H5,I5,r5,q5⟩=>?_;exact thn (hs E s5 σ H5 x1 x2 x5 B A m _ I5 M O r5 q5) λ_ s6 ⟨H6,I6,q6⟩=>⟨σ,H6,I6,q6⟩
def ipI (f:Int->Int->Int):TIp:=λx y H Q=>∃i j,x=.int i/\y=.int j/\Q (.int (f i j)) H
def zlG:PIp X .Add (ipI λi j=>i+j):=by
 intro B s σ H x y v u Q I w A h;obtain⟨i,j,m,r,q⟩:=h;subst m;subst r;obtain⟨t,rfl⟩:=w;obtain⟨D,rfl⟩:=A;exact iadd_int ⟨.int _,H,I.tok _,⟨_,rfl⟩,q⟩
def zqf (c:TT)(B:TS):TS:=λD σ H=>∃W:Nat->St->Hp->Prop,(∃m,W m σ H)/\∀m σ H,W m σ H ->
 c σ H λb w=>if b=true then ∃N:St->Hp->Prop,(∀ r s,N r s->∃A,A<m/\W A r s)/\B { D with nx:=N,ct:=N,bk:=D.nx } σ w else D.nx σ w
def zfW {c:Expr}{B:List Stmt}{tc:TT}{tb:TS}(hp:PassesOwn (Xi X.prog X.w) X.A X.env X.xe)(hc:PT X c tc)(hb:PSs X B tb):PS X (.While c B [] pos) (zqf tc tb):=by
 intro U s σ H D I h;obtain⟨W,⟨m0,w0⟩,G⟩:=h;refine wpAny_While (codeAny_whileLoop (λn s'=>∃ J H',Inv X U J H' s'/\W n J H') ?_ m0 ⟨σ,H,I,w0⟩);rintro n s1 ⟨r,H1,I1,w1⟩;refine UJ hp (thn (hc U s1 r H1 _ I1 (G n r H1 w1)) λb s2 ⟨H2,I2,L⟩=>?_);cases b with
 | true =>
  obtain⟨N,hN,L⟩:=L;rw[bw rfl];refine UJ hp (thn (hb U s2 r H2 _ I2 L) λf s3 M=>?_);cases f with
  | next =>
   obtain⟨m,E,O,n3⟩:=M;obtain⟨Y,hm,w3⟩:=hN m E n3;exact⟨Y,hm,m,E,O,w3⟩
  | cont =>
   obtain⟨m,E,O,n3⟩:=M;obtain⟨Y,hm,w3⟩:=hN m E n3;exact⟨Y,hm,m,E,O,w3⟩
  | brk=>exact M
  | ret v=>exact M
 | false =>
  rw[bq XT];exact Uf ⟨r,H2,I2,L⟩
end
structure It where
 go:Nat->Hp->Prop
 yld:Nat->Hp->V->Hp->Prop
 stop:Nat->Hp->Prop
def zao (X:Cx)(m:List (Addr×Obj))(H:Hp)(b:Addr):Prop :=
 H b=none/\b≠X.env.locals/\b ∉ X.fs/\(b∈X.ex\/X.s₀.heap.objs.size<=b)/\(∀x c,X.env.cells.lookup x=some c->c≠b)/\∀p∈X.pn++m,p.1≠b
def Inv.fpOk {X:Cx}{w:List (Addr×Obj)}{σ:St}{H r:Hp}{s:X0}{b:Addr}(I:Inv X w σ H s)(m:s.heap.objs.size<=b)(hn:r b=none):zao X w r b:=by
 refine⟨hn,TV (Xj I.lt m),I.nofs m,.inr (XY I.sz m),λx c e z=>?_,λp A z=>?_⟩
 .obtain⟨v,q⟩:=I.cell x c e;exact absurd (Xj q.lt (by rw[z];exact m)) (VL _)
 .exact absurd (Xj (Xz (I.pin p A).1) (by rw[z];exact m)) (VL _)
structure Turn (P:Xl)(w:WY)(K:XW)(tg:Expr)(J:It)(fp:List Addr)(it:Addr)(tn:Nat->Heap->Prop):Prop where
 mem:it∈fp
 obj:∀i h,tn i h->∀b∈fp,∃o,h.get? b=some o/\∀v,o.data ≠ .cell v
 keep:∀i h h',tn i h->(∀b∈fp,∀o,h.get? b=some o->h'.get? b=some o)->tn i h'
 item:∀(X:Cx),X.prog=P->X.w=w->X.K=K->X.calm=true->∀(i:Nat) (bz:List (Addr×Obj)) (s:X0) (σ:St) (H:Hp) (E:X7->X0->Prop),Inv X bz σ H s->(∀b∈fp,zao X bz H b)->tn i s.heap->J.go i H ->
  Xg (Xi P w) X.A (R3 (.ref it)) (λr s1=>∃u,r=some u /\
   Xg (Xi P w) X.A (Si tg (.ref it) u) (λ_ s2=>∃x H',Inv X bz σ H' s2/\RelV x u/\J.yld i H x H'/\tn (i+1) s2.heap/\∀b∈fp,H' b=none) E s1) E s
 done:∀(X:Cx),X.prog=P->X.w=w->X.K=K->X.calm=true->∀(i:Nat) (bz:List (Addr×Obj)) (s:X0) (σ:St) (H:Hp) (E:X7->X0->Prop),Inv X bz σ H s->(∀b∈fp,zao X bz H b)->tn i s.heap->J.stop i H ->
  Xg (Xi P w) X.A (R3 (.ref it)) (λr s1=>r=none/\Inv X bz σ H s1) E s
 self:∀(A:WK) (i:Nat) (s:X0) (Q:X7->X0->Prop) (E:X7->X0->Prop),tn i s.heap->Q (.ref it) s->Xg (Xi P w) A (pyIter (.ref it)) Q E s
abbrev TI:=St->Hp->(It->Hp->Prop)->Prop
def PIE (X:Cx)(s:List (Addr×Obj))(σ:St)(tg:Expr)(R:It->Hp->Prop)(r:X7)(D:X0):Prop :=
 ∃(B:Addr) (A:List Addr) (E:Nat->Heap->Prop) (J:It) (m:Hp),r=.ref B/\Inv X s σ m D/\Turn X.prog X.w X.K tg J A B E/\E 0 D.heap/\(∀b∈A,zao X s m b)/\R J m
def PI (X:Cx)(tg m:Expr)(B:TI):Prop :=
 ∀(r:List (Addr×Obj)) (s:X0) (σ:St) (H:Hp) (R:It->Hp->Prop),Inv X r σ H s->B σ H R ->
  Xg (Xi X.prog X.w) X.A (eval m X.env) (λv s1=>Xg (Xi X.prog X.w) X.A (pyIter v) (PIE X r σ tg R) X.xe s1) X.xe s
def zpo {M:Model}{A:WK}{E:X7->X0->Prop}{s:X0}{tg:Expr}{it:Addr}{u:X7}{o:Obj}{n:String}{vs:Array X7}{Q:Unit->X0->Prop}(w:s.heap.get? it=some o)(hc:o.cls=.type n)(r:o.data=.fields vs)
    (hn:["enumerate","zip","dict_itemiterator","dict_reverseitemiterator","odict_iterator","itertools.zip_longest","itertools.pairwise"].contains n=false) (m:Q () s):Xg M A (Si tg (.ref it) u) Q E s:=by
  unfold Si;cases tg<;>first
    | exact XO m
    | (cases u<;>first
        | exact XO m
        | (refine X9 (wpAny_load w ?_)
           rw[hc,r]
           show Xg M A (if (["enumerate","zip","dict_itemiterator","dict_reverseitemiterator","odict_iterator","itertools.zip_longest","itertools.pairwise"].contains n&&vs[0]?==some (T9 _))=true then _ else _) Q E s
           rw[bq (by intro h;rw[hn,Ph]at h;cases h)]
           exact XO m))
def Itl (K:XW)(a:Addr):It :=
 ⟨λi H=>∃xs x,SqL K H a xs/\xs[i]?=some x,λi H x m=>m=H/\∀xs,SqL K H a xs->xs[i]?=some x,λi H=>∃xs,SqL K H a xs/\xs.length<=i⟩
def Itr (lo:Int)(n:Nat):It:=⟨λi _=>i<n,λi H x m=>m=H/\x=.int (lo+i),λi _=>n<=i⟩
def zkg {P:Xl}{w:WY}{K:XW}{tg:Expr}(a it:Addr):Turn P w K tg (Itl K a) [it] it (λi h=>h.IsListIter it a i) where
 mem:=by simp
 obj:=λi h st b hb=>by
  have e:b=it:=by simpa using hb
  subst e;obtain⟨o,e,c,d⟩:=st;exact⟨o,e,λv z=>by rw[d]at z;cases z⟩
 keep:=λi h h' st k=>st.at λo e=>k it (by simp) o e
 item:=by
  intro X hP hw hK hc i bz s σ H E I hf st hg;subst hP hw hK;obtain⟨xs,x,hq,hx⟩:=hg;obtain⟨its,rv,p,hz⟩:=I.list hq;obtain⟨u,hu,ru⟩:=rv.get hx;obtain⟨f0,f1,f2,f3,f4,f5⟩:=hf it (by simp);refine wpAny_pyNext_list_item st p.isList (x:=u) (by simpa using hu) λh' st' sb=>?_;have I1:Inv X bz σ H { s with heap:=h' }:=I.turned (t':=s.toks) (λb o hb e=>(sb.2 b hb).trans e) f0 f1 f3 f4 f5;obtain⟨o,e,c,d⟩:=id st';exact⟨u,rfl,zpo (s:={ s with heap:=h' }) e c d (by decide) ⟨x,H,I1,ru,⟨rfl,λys hy=>by rw[I.list_inj hy hq];exact hx⟩,st',λb hb=>(hf b hb).1⟩⟩
 done:=by
  intro X hP hw hK hc i bz s σ H E I hf st hg;subst hP hw hK;obtain⟨xs,hq,hx⟩:=hg;obtain⟨its,rv,p,hz⟩:=I.list hq;obtain⟨f0,f1,f2,f3,f4,f5⟩:=hf it (by simp);have hl:=rv.length;exact wpAny_pyNext_list_end (I.ok.hd hc) st p.isList (by simp;lia) λh' eb=>⟨rfl,I.turned (t':=s.toks) (λb o hb e=>eb b o hb e) f0 f1 f3 f4 f5⟩
 self:=λ_ _ _ _ _ st h=>wpAny_pyIter_listiter st h
def zhH {P:Xl}{w:WY}{K:XW}{tg:Expr}(it:Addr)(lo:Int)(n:Nat):Turn P w K tg (Itr lo n) [it] it (λi h=>IsRangeIter h it (lo+(i:Nat)*1) ((n:Int)-(i:Nat)) 1) where
 mem:=by simp
 obj:=λi h st b hb=>by
  have e:b=it:=by simpa using hb
  subst e;exact⟨_,st,λv z=>by
   have z':Data.fields _=Data.cell v:=z;cases z'⟩
 keep:=λi h h' st k=>k it (by simp) _ st
 item:=by
  intro X hP hw hK hc i bz s σ H E I hf st hg;subst hP hw hK;obtain⟨f0,f1,f2,f3,f4,f5⟩:=hf it (by simp);have W:=Walks.range (prog:=X.prog) (w:=X.w) (I.ok.hd hc) it lo 1 n;refine W.item i s _ _ hg st λv h' tk hv st' kk=>?_;obtain⟨t,rfl⟩:=hv;have I1:Inv X bz σ H { s with heap:=h',toks:=tk }:=I.turned (λb o hb e=>kk b o (by simpa using hb) e) f0 f1 f3 f4 f5;refine⟨_,rfl,zpo (s:={ s with heap:=h',toks:=tk }) (n:="range_iterator") st' rfl rfl (by decide) ⟨.int (lo+i),H,I1,⟨t,?_⟩,⟨rfl,rfl⟩,st',λb hb=>(hf b hb).1⟩⟩;rw[Int.mul_one]
 done:=by
  intro X hP hw hK hc i bz s σ H E I hf st hg;subst hP hw hK;obtain⟨f0,f1,f2,f3,f4,f5⟩:=hf it (by simp);exact wpAny_pyNext_range_end (I.ok.hd hc) st (by have:n<=i:=hg;lia) λh' eb=>⟨rfl,I.turned (t':=s.toks) (λb o hb e=>eb b o hb e) f0 f1 f3 f4 f5⟩
 self:=λ_ _ _ _ _ st h=>wpAny_pyIter_rangeiter st h
section
variable {X:Cx}{tg:Expr}
def zpp (K:XW)(tl:TE):TI:=fun σ H R=>tl σ H λx m=>∃a,x=.ref a/\(∃xs,SqL K m a xs)/\R (Itl K a) m
def zJ {l:Expr}{tl:TE}(hl:PE X l tl):PI X tg l (zpp X.K tl):=by
 intro w s σ H R I h;refine thn (hl w s σ H _ I h) λv s1 ⟨x,r,m,E,D⟩=>?_;obtain⟨a,e,⟨xs,hq⟩,q⟩:=D;subst e;cases E;obtain⟨B,G,p,hz⟩:=m.list hq;refine SY p.isList ?_;refine⟨s1.heap.objs.size,[s1.heap.objs.size],_,_,r,rfl,m.kept (t':=s1.toks) λb o e=>XS _ e,zkg a _,⟨_,W1 _ rfl,rfl,rfl⟩,λb A=>?_,q⟩;have e:b=s1.heap.objs.size:=by simpa using A
 subst e;exact m.fpOk (XR _) (m.hok.fresh (XR _))
def zfX {r:List (Addr×Obj)}{σ:St}{H:Hp}{s:X0}{R:It->Hp->Prop}{E:X7->X0->Prop}{lo hi:Int}{t u v:Tok}{tk:Nat}(I:Inv X r σ H s)(G:-(2^62)<=lo)(J:lo<2^62)(L:-(2^62)<=hi)(M:hi<2^62)
  (q:R (Itr lo (hi-lo).toNat) H):Xg (Xi X.prog X.w) X.A (pyIter (.ref s.heap.objs.size)) (PIE X r σ tg R) E { s with heap:=s.heap.push { cls:=.type "range",data:=.fields #[.int lo t,.int hi u,.int 1 v] },toks:=tk }:=by
 refine wpAny_pyIter_range (IsRange.new ..) (small_one G J L M) ?_;have m:Inv X r σ H { s with heap:=s.heap.push { cls:=.type "range",data:=.fields #[.int lo t,.int hi u,.int 1 v] },toks:=tk }:=I.kept λb o e=>XS _ e;refine cE (s.heap.push { cls:=.type "range",data:=.fields #[.int lo t,.int hi u,.int 1 v] }).objs.size [(s.heap.push { cls:=.type "range",data:=.fields #[.int lo t,.int hi u,.int 1 v] }).objs.size] (cG (cK H rfl (m.kept (t':=tk) λb o e=>XS _ e) (zhH _ lo (hi-lo).toNat) ?_ ⟨λb O=>?_,q⟩))
 .have B:lo+((0:Nat):Int)*1=lo:=by simp
  have D:(((hi-lo).toNat:Nat):Int)-((0:Nat):Int)=Builtin.Range.rangeSize lo hi 1:=by rw[rangeSize_one];split<;>lia
  show IsRangeIter _ _ (lo+((0:Nat):Int)*1) ((((hi-lo).toNat:Nat):Int)-((0:Nat):Int)) 1;rw[B,D];exact W1 _ rfl
 .have e:b=(s.heap.push { cls:=.type "range",data:=.fields #[.int lo t,.int hi u,.int 1 v] }).objs.size:=by simpa using O
  subst e;exact m.fpOk (XR _) (m.hok.fresh (XR _))
def zpq (r:TA):TI:=fun σ H R=>r σ H λvs m=>∃j:Int,vs=[.int j]/\-(2^62)<=j/\j<2^62/\R (Itr 0 j.toNat) m
def zrK (r:TA):TI:=fun σ H R=>r σ H λvs m=>∃i j:Int,vs=[.int i,.int j]/\(-(2^62)<=i/\i<2^62/\-(2^62)<=j/\j<2^62)/\R (Itr i (j-i).toNat) m
def zkh {a:Expr}{w:TA}{p pos:Pos}(D:Gl X "range")(hm:X.mg "range"=none)(ha:PA X [a] w)(E:WV [a] X.env=[(false,eval a X.env)]:=by rfl):PI X tg (.Call (.Name "range" p) [a] [] pos) (zpq w):=by
 intro B s σ H R I h;refine Call_ (Q0 I D hm boot_range (VE (thn (ha pos B s σ H _ I h) λO s1 ⟨vs,M,A,J,m⟩=>?_) E rfl));obtain⟨j,e,m,G,q⟩:=m;subst e;cases J with
 | cons r L =>
  cases L;obtain⟨t,rfl⟩:=r;exact call_range_1 (zfX A (by lia) (by lia) m G (by simpa using q))
def Qs {a b:Expr}{B:TA}{p pos:Pos}(G:Gl X "range")(hm:X.mg "range"=none)(ha:PA X [a,b] B)(J:WV [a,b] X.env=[(false,eval a X.env),(false,eval b X.env)]:=by rfl)(m:WV [b] X.env=[(false,eval b X.env)]:=by rfl) :
  PI X tg (.Call (.Name "range" p) [a,b] [] pos) (zrK B):=by
 intro E s σ H R I h;refine Call_ (Q0 I G hm boot_range (VE (thn (ha pos E s σ H _ I h) λus s1 ⟨vs,H1,D,Y,w⟩=>?_) (by rw[J,m]) (by rw[m];rfl)));obtain⟨i,j,e,⟨w,L,M,O⟩,q⟩:=w;subst e;cases Y with
 | cons r A =>
  cases A with
  | cons U A =>
   cases A;obtain⟨t,rfl⟩:=r;obtain⟨t',rfl⟩:=U;exact call_range_2 (zfX D w L M O q)
def zsE (I:TI)(g:TG)(G:TS):TS:=λD σ H=>I σ H λJ B=>∃W:Nat->Nat->St->Hp->Prop,(∃m,W 0 m σ B)/\∀i m σ H,W i m σ H ->
 (J.stop i H/\D.nx σ H)\/(J.go i H/\∃N:St->Hp->Prop,(∀ s r,N s r->∃A,A<m/\W (i+1) A s r)/\∀x r,J.yld i H x r->g x σ r fun w E=>G { D with nx:=N,ct:=N,bk:=D.nx } w E)
def zcv (fp:List Addr)(h:Heap):List (Addr×Obj):=fp.filterMap λb=>(h.get? b).map λo=>(b,o)
def ZZ {fp:List Addr}{h:Heap}{b:Addr}{o:Obj}(m:b∈fp)(e:h.get? b=some o):(b,o)∈zcv fp h:=Th.mpr ⟨b,m,by rw[e];rfl⟩
def zki {fp:List Addr}{h:Heap}{p:Addr×Obj}(s:p∈zcv fp h):p.1∈fp/\h.get? p.1=some p.2:=by
 obtain⟨b,r,e⟩:=Th.mp s;cases q:h.get? b with
 | none=>rw[q]at e;cases e
 | some o =>
  rw[q]at e;have m:(b,o)=p:=Option.some.inj e;subst m;exact⟨r,q⟩
def Inv.pinned {m:List (Addr×Obj)}{σ:St}{H:Hp}{s:X0}{fp:List Addr}(I:Inv X m σ H s)(E:∀b∈fp,zao X m H b)(G:∀b∈fp,∃o,s.heap.get? b=some o/\∀v,o.data ≠ .cell v):Inv X (m++zcv fp s.heap) σ H s :=
 I.pins_of λp J=>(XU.mp J).elim (λz=>I.pin p (WZ _ z)) λz=>by
  obtain⟨w,e⟩:=zki z;obtain⟨A,B,D,_⟩:=E p.1 w;obtain⟨o,r,d⟩:=G p.1 w;rw[e]at r;cases r;exact⟨e,A,B,D,d⟩
def Inv.unpinned {m w:List (Addr×Obj)}{σ:St}{H:Hp}{s:X0}(I:Inv X (m++w) σ H s):Inv X m σ H s:=I.pins_of λp r=>I.pin p (WZ _ (W4 _ r))
def qz {M:Expr}{aa:List Stmt}{wi:TI}{g:TG}{tb:TS}{pos:Pos}(hp:PassesOwn (Xi X.prog X.w) X.A X.env X.xe)(hc:X.calm=true)(hi:PI X tg M wi)(hg:PG X tg g)(L:PSs X aa tb)
  (hs:∀x,VM M X.env x=pure x:=by intro _;rfl):PS X (.For tg M aa [] pos) (zsE wi g tb):=by
 intro bz s σ H D I h;refine wpAny_For (thn (hi bz s σ H _ I h) λv s1 h1=>thn h1 λal s2 h2=>?_) hs;obtain⟨it,fp,tn,J,H2,e,I2,T,aj,f2,W,⟨m0,w0⟩,ag⟩:=h2;subst e;have O:∀{H':Hp},(∀b∈fp,H' b=none)->∀b∈fp,zao X bz H' b:=λhn b L=>⟨hn b L,(f2 b L).2⟩;refine codeAny_forLoop_any (λn s'=>∃i U H',Inv X bz U H' s'/\tn i s'.heap/\(∀b∈fp,H' b=none)/\W i n U H') ?_ m0 ⟨0,σ,H2,I2,aj,λb L=>(f2 b L).1,w0⟩;refine λn s3=>dJ λi Y H3 I3 ae ac w3=>?_;rcases ag i n Y H3 w3 with ⟨af,qn⟩ | ⟨go,N,hN,step⟩
 .refine UJ hp (thn (T.done X rfl rfl rfl hc i bz s3 Y H3 X.xe I3 (O ac) ae af) λr s4 ⟨hr,I4⟩=>?_);subst hr;exact Uf ⟨Y,H3,I4,qn⟩
 .refine UJ hp (thn (T.item X rfl rfl rfl hc i bz s3 Y H3 X.xe I3 (O ac) ae go) λr s4 ⟨u,hr,h4⟩=>?_);subst hr;refine UJ hp (thn h4 λ_ s5 ⟨x,H5,I5,r5,y5,ab,ai⟩=>?_);have ah:=I5.pinned (O ai) (T.obj _ _ ab);refine UJ hp (thn (hg _ s5 Y H5 x u _ ah r5 (step x H5 y5)) λ_ s6 ⟨ak,H6,I6,q6⟩=>?_);refine UJ hp (thn (L _ s6 ak H6 _ I6 q6) λf s7 q7=>?_);have Oj:∀{B:St} {E:Hp},Inv X (bz++zcv fp s5.heap) B E s7->N B E->∃m,m<n/\∃i U H',Inv X bz U H' s7/\tn i s7.heap/\(∀b∈fp,H' b=none)/\W i m U H':=λ{B E} G n7=>by
   obtain⟨m',hm,w7⟩:=hN B E n7;refine⟨m',hm,i+1,B,E,G.unpinned,T.keep _ _ _ ab λb L o e=>(G.pin (b,o) (WZ _ (WZ _ (ZZ L e)))).1,λb L=>?_,w7⟩;obtain⟨o,e,d⟩:=T.obj _ _ ab b L;exact(G.pin (b,o) (WZ _ (WZ _ (ZZ L e)))).2.1
  cases f with
  | next=>obtain⟨B,E,G,n7⟩:=q7;exact Oj G n7
  | cont=>obtain⟨B,E,G,n7⟩:=q7;exact Oj G n7
  | brk=>obtain⟨B,E,G,q7⟩:=q7;exact⟨B,E,G.unpinned,q7⟩
  | ret v=>obtain⟨x7,B,E,G,r7,q7⟩:=q7;exact⟨x7,B,E,G.unpinned,r7,q7⟩
end
def j7 {K:XW}{a:Addr}{xs:AE}{g:TG}{G:TS}{D:Ends}{σ:St}{H:Hp}(Pv:Nat->St->Hp->Prop)(h0:Pv 0 σ H)(hl:∀i σ H,i<=xs.length->Pv i σ H->SqL K H a xs)
  (J:∀i x σ H,xs[i]?=some x->Pv i σ H->g x σ H fun w B=>G { D with nx:=Pv (i+1),ct:=Pv (i+1),bk:=D.nx } w B) (I:∀ σ H,Pv xs.length σ H->D.nx σ H) :
  ∃W:Nat->Nat->St->Hp->Prop,(∃m,W 0 m σ H)/\∀i m σ H,W i m σ H ->
   ((Itl K a).stop i H/\D.nx σ H)\/((Itl K a).go i H/\∃N:St->Hp->Prop,(∀ s r,N s r->∃E,E<m/\W (i+1) E s r)/\∀x r,(Itl K a).yld i H x r->g x σ r fun w B=>G { D with nx:=N,ct:=N,bk:=D.nx } w B):=by
 refine⟨λi m σ H=>m=xs.length-i/\i<=xs.length/\Pv i σ H,⟨xs.length,by simp,W3 _,h0⟩,?_⟩;rintro i m σ H ⟨rfl,hi,p⟩;have q:=hl i σ H hi p;by_cases A:i<xs.length
 .refine .inr ⟨⟨xs,xs[i],q,by simp[A]⟩,Pv (i+1),fun s r L=>⟨xs.length-(i+1),by lia,rfl,A,L⟩,λx r y=>?_⟩;obtain⟨e,y⟩:=y;subst e;exact J i x σ _ (y xs q) p
 .have e:i=xs.length:=by lia
  subst e;exact .inl ⟨⟨xs,q,XR _⟩,I σ H p⟩
def qE {lo:Int}{n:Nat}{g:TG}{G:TS}{D:Ends}{σ:St}{H:Hp}(Pv:Nat->St->Hp->Prop)(h0:Pv 0 σ H)
  (J:∀i σ H,i<n->Pv i σ H->g (.int (lo+i)) σ H fun A B=>G { D with nx:=Pv (i+1),ct:=Pv (i+1),bk:=D.nx } A B) (I:∀ σ H,Pv n σ H->D.nx σ H) :
  ∃W:Nat->Nat->St->Hp->Prop,(∃m,W 0 m σ H)/\∀i m σ H,W i m σ H ->
   ((Itr lo n).stop i H/\D.nx σ H)\/((Itr lo n).go i H/\∃N:St->Hp->Prop,(∀ w r,N w r->∃E,E<m/\W (i+1) E w r)/\∀x r,(Itr lo n).yld i H x r->g x σ r fun A B=>G { D with nx:=N,ct:=N,bk:=D.nx } A B):=by
 refine⟨λi m σ H=>m=n-i/\i<=n/\Pv i σ H,⟨n,by simp,W3 _,h0⟩,?_⟩;rintro i m σ H ⟨rfl,hi,p⟩;by_cases s:i<n
 .refine .inr ⟨s,Pv (i+1),fun w r L=>⟨n-(i+1),by lia,rfl,s,L⟩,λx r y=>?_⟩;obtain⟨e,y⟩:=y;subst e y;exact J i σ _ s p
 .have e:i=n:=by lia
  subst e;exact .inl ⟨XR _,I σ H p⟩
abbrev R2:=V->V->Hp->VK->Prop
def OpR (X:Cx)(f:X7->X7->Sem X7)(r:R2):Prop :=
 ∀(m:List (Addr×Obj)) (s:X0) (σ:St) (H:Hp) (x y:V) (v u:X7) (Q:VK),Inv X m σ H s->RelV x v->RelV y u->r x y H Q ->
  Xg (Xi X.prog X.w) X.A (f v u) (EP X m σ Q) X.xe s
def UnR (X:Cx)(f:X7->Sem X7)(r:V->Hp->VK->Prop):Prop :=
 ∀(m:List (Addr×Obj)) (s:X0) (σ:St) (H:Hp) (x:V) (v:X7) (Q:VK),Inv X m σ H s->RelV x v->r x H Q ->
  Xg (Xi X.prog X.w) X.A (f v) (EP X m σ Q) X.xe s
def qZ (X:Cx)(f:X7)(r:AE->Hp->VK->Prop):Prop :=
 ∀(m:List (Addr×Obj)) (s:X0) (σ:St) (H:Hp) (xs:AE) (B:List X7) (Q:VK),Inv X m σ H s->Vals xs B->r xs H Q ->
  Xg (Xi X.prog X.w) X.A (call f B) (EP X m σ Q) X.xe s
def zsF (X:Cx)(r:V->Hp->(Bool->Hp->Prop)->Prop):Prop :=
 ∀(m:List (Addr×Obj)) (s:X0) (σ:St) (H:Hp) (x:V) (v:X7) (Q:Bool->Hp->Prop),Inv X m σ H s->RelV x v->r x H Q ->
  Xg (Xi X.prog X.w) X.A (truthy v) (TP X m σ Q) X.xe s
def tOp (r:R2)(w A:TE):TE:=fun σ H Q=>w σ H λx m=>A σ m λy s=>r x y s Q
def tUn (r:V->Hp->VK->Prop)(s:TE):TE:=fun σ H Q=>s σ H λx m=>r x m Q
def rI (C:Int->Int->Prop)(g:Int->Int->V):R2:=λx y H Q=>∃i j,x=.int i/\y=.int j/\C i j/\Q (g i j) H
def rI0 (g:Int->Int->V):R2:=λx y H Q=>∃i j,x=.int i/\y=.int j/\Q (g i j) H
def rU (g:Int->V):V->Hp->VK->Prop:=λx H Q=>∃i,x=.int i/\Q (g i) H
section
variable {X:Cx}{a b c:Expr}{ta tb tc:TE}{pos:Pos}
def zqg (ha:PE X a ta)(M:PE X b tb){D:List (Addr×Obj)}{s:X0}{σ:St}{H:Hp}{R:V->V->Hp->Prop}(I:Inv X D σ H s)
  (h:ta σ H λx G=>tb σ G λy m=>R x y m) {Q:X7->X0->Prop} {f:X7->X7->Sem X7}
  (O:∀v u E x y m,Inv X D σ m E->RelV x v->RelV y u->R x y m->Xg (Xi X.prog X.w) X.A (f v u) Q X.xe E) :
  Xg (Xi X.prog X.w) X.A (eval a X.env) (λv r=>Xg (Xi X.prog X.w) X.A (eval b X.env) (λu B=>Xg (Xi X.prog X.w) X.A (f v u) Q X.xe B) X.xe r) X.xe s:=by
 refine thn (ha D s σ H _ I h) λv s1 ⟨x,G,J,r1,U⟩=>?_;refine thn (M D s1 σ G _ J U) λu E ⟨y,m,L,r2,Y⟩=>?_;exact O v u E x y m L r1 r2 Y
def zx {op:Operator}{r:R2}(D:OpR X (T4 op) r)(ha:PE X a ta)(B:PE X b tb):PE X (.BinOp a op b pos) (tOp r ta tb):=by
 intro A s σ H Q I h;exact wpAny_BinOp (zqg ha B I h λv u J x y m w E G q=>D A J σ m x y v u Q w E G q)
def zlH {op:UnaryOp}{r:V->Hp->VK->Prop}(B:UnR X (unaryOp op) r)(ha:PE X a ta):PE X (.UnaryOp op a pos) (tUn r ta):=by
 intro m s σ H Q I h;exact UnaryOp_ (thn (ha m s σ H _ I h) λv s1 ⟨x,w,A,E,D⟩=>B m s1 σ w x v Q A E D)
def opI {f:X7->X7->Sem X7}{C:Int->Int->Prop}{g:Int->Int->Int}
  (rule:∀(i j:Int) (t u:Tok) (s:X0) (Q:X7->X0->Prop) (E:X7->X0->Prop),C i j->Q (.int (g i j) s.toks) { s with toks:=s.toks+1 }->Xg (Xi X.prog X.w) X.A (f (.int i t) (.int j u)) Q E s) :
  OpR X f (rI C λi j=>.int (g i j)):=by
 intro D s σ H x y v u Q I m r h;obtain⟨i,j,rfl,rfl,hc,q⟩:=h;obtain⟨t,rfl⟩:=m;obtain⟨B,rfl⟩:=r;exact rule i j t B s _ _ hc ⟨.int (g i j),H,I.tok _,⟨_,rfl⟩,q⟩
def zrL {f:X7->X7->Sem X7}{g:Int->Int->Int}
  (rule:∀(i j:Int) (t u:Tok) (s:X0) (Q:X7->X0->Prop) (E:X7->X0->Prop),Q (.int (g i j) s.toks) { s with toks:=s.toks+1 }->Xg (Xi X.prog X.w) X.A (f (.int i t) (.int j u)) Q E s) :
  OpR X f (rI0 λi j=>.int (g i j)):=by
 intro D s σ H x y v u Q I m r h;obtain⟨i,j,rfl,rfl,q⟩:=h;obtain⟨t,rfl⟩:=m;obtain⟨B,rfl⟩:=r;exact rule i j t B s _ _ ⟨.int (g i j),H,I.tok _,⟨_,rfl⟩,q⟩
def zqh {f:X7->X7->Sem X7}{g:Int->Int->Bool}
  (rule:∀(i j:Int) (t u:Tok) (s:X0) (Q:X7->X0->Prop) (E:X7->X0->Prop),Q (.bool (g i j)) s->Xg (Xi X.prog X.w) X.A (f (.int i t) (.int j u)) Q E s) :
  OpR X f (rI0 λi j=>.bl (g i j)):=by
 intro D s σ H x y v u Q I m r h;obtain⟨i,j,rfl,rfl,q⟩:=h;obtain⟨t,rfl⟩:=m;obtain⟨B,rfl⟩:=r;exact rule i j t B s _ _ ⟨.bl (g i j),H,I,rfl,q⟩
def yW:OpR X (T4 .Add) (rI0 λi j=>.int (i+j)):=zrL λ_ _ _ _ _ _ _ q=>add_int q
def Zn:OpR X (T4 .Sub) (rI0 λi j=>.int (i-j)):=zrL λ_ _ _ _ _ _ _ q=>sub_int q
def jK:OpR X (T4 .Mod) (rI (λ_ j=>0<j) λi j=>.int (i%j)):=opI λi j _ _ _ _ _ hc q=>by
 have m:(0:Int)<j:=hc;exact mod_int' (by lia) (by rw[Int.fmod_eq_emod_of_nonneg i (by lia)];exact q)
def unI {f:X7->Sem X7}{g:Int->Int}
  (rule:∀(i:Int) (t:Tok) (s:X0) (Q:X7->X0->Prop) (E:X7->X0->Prop),Q (.int (g i) s.toks) { s with toks:=s.toks+1 }->Xg (Xi X.prog X.w) X.A (f (.int i t)) Q E s) :
  UnR X f (rU λi=>.int (g i)):=by
 intro r s σ H x v Q I m h;obtain⟨i,rfl,q⟩:=h;obtain⟨t,rfl⟩:=m;exact rule i t s _ _ ⟨.int (g i),H,I.tok _,⟨_,rfl⟩,q⟩
def zhI:UnR X (unaryOp .USub) (rU λi=>.int (-i)):=unI λ_ _ _ _ _ q=>neg_int q
def zrM:V->V->Bool
 | .non,.non=>true | .non,.int _=>true | .int _,.non=>true | .non,.bl _=>true | .bl _,.non=>true | .non,.str _=>true | .str _,.non=>true
 | .int _,.int _=>true | .bl _,.bl _=>true | .str _,.str _=>true | .byt _,.byt _=>true
 | .int _,.str _=>true | .str _,.int _=>true | .bl _,.str _=>true | .str _,.bl _=>true
 | _,_=>false
def rEq:R2:=λx y H Q=>zrM x y=true/\Q (.bl (decide (x=y))) H
def rNe:R2:=λx y H Q=>zrM x y=true/\Q (.bl (!decide (x=y))) H
def ze6 {i j:Int}:decide (V.int i=V.int j)=(i==j):=by
 rw[WN];simp
def zlI {i j:Bool}:decide (V.bl i=V.bl j)=(i==j):=by
 rw[WN];simp
def ziY {i j:Str}:decide (V.str i=V.str j)=(i==j):=by
 rw[WN];simp
def ziZ {i j:Array UInt8}:decide (V.byt i=V.byt j)=(i.toList==j.toList):=by
 rw[WN];cases i;cases j;simp
def qt {m:List (Addr×Obj)}{σ:St}{H:Hp}{s:X0}{Q:VK}{k r:Bool}(I:Inv X m σ H s)(q:Q (.bl k) H)(e:k=r):EP X m σ Q (.bool r) s:=by
 subst e;exact⟨.bl k,H,I,rfl,q⟩
def YH:OpR X (Wb .Eq) rEq:=by
 intro B s σ H x y v u Q I A m h;obtain⟨w,q⟩:=h;cases x with
 | non =>
  cases A;cases y with
  | non=>cases m;exact PySem.EqNone.eq_none_none (qt I q (by simp))
  | bl j=>cases m;exact PySem.EqNone.eq_none_bool (qt I q (by simp))
  | int j=>obtain⟨r,rfl⟩:=m;exact PySem.EqNone.eq_none_int (qt I q (by simp))
  | str j=>obtain⟨r,rfl⟩:=m;exact PySem.EqNone.eq_none_str (qt I q (by simp))
  | _=>exact absurd (show false=true from w) XT
 | bl i =>
  cases A;cases y with
  | non=>cases m;exact PySem.EqNone.eq_bool_none (qt I q (by simp))
  | bl j=>cases m;exact eq_bool (qt I q zlI)
  | str j=>obtain⟨r,rfl⟩:=m;exact PySem.EqMixed.eq_bool_str (qt I q (by simp))
  | _=>exact absurd (show false=true from w) XT
 | int i =>
  obtain⟨t,rfl⟩:=A;cases y with
  | non=>cases m;exact PySem.EqNone.eq_int_none (qt I q (by simp))
  | int j=>obtain⟨r,rfl⟩:=m;exact eq_int (qt I q ze6)
  | str j=>obtain⟨r,rfl⟩:=m;exact PySem.EqMixed.eq_int_str (qt I q (by simp))
  | _=>exact absurd (show false=true from w) XT
 | str i =>
  obtain⟨t,rfl⟩:=A;cases y with
  | non=>cases m;exact PySem.EqNone.eq_str_none (qt I q (by simp))
  | bl j=>cases m;exact PySem.EqMixed.eq_str_bool (qt I q (by simp))
  | int j=>obtain⟨r,rfl⟩:=m;exact PySem.EqMixed.eq_str_int (qt I q (by simp))
  | str j=>obtain⟨r,rfl⟩:=m;exact eq_str (qt I q ziY)
  | _=>exact absurd (show false=true from w) XT
 | byt i =>
  obtain⟨t,rfl⟩:=A;cases y with
  | byt j=>obtain⟨r,rfl⟩:=m;exact PySem.W.eq_bytes (qt I q ziZ)
  | _=>exact absurd (show false=true from w) XT
 | _=>cases y<;>exact absurd (show false=true from w) XT
def zi0:OpR X (Wb .NotEq) rNe:=by
 intro B s σ H x y v u Q I A m h;obtain⟨w,q⟩:=h;cases x with
 | non =>
  cases A;cases y with
  | non=>cases m;exact PySem.EqNone.ne_none_none (qt I q (by simp))
  | bl j=>cases m;exact PySem.EqNone.ne_none_bool (qt I q (by simp))
  | int j=>obtain⟨r,rfl⟩:=m;exact PySem.EqNone.ne_none_int (qt I q (by simp))
  | str j=>obtain⟨r,rfl⟩:=m;exact PySem.EqNone.ne_none_str (qt I q (by simp))
  | _=>exact absurd (show false=true from w) XT
 | bl i =>
  cases A;cases y with
  | non=>cases m;exact PySem.EqNone.ne_bool_none (qt I q (by simp))
  | bl j=>cases m;exact ne_bool (qt I q (congrArg not zlI))
  | str j=>obtain⟨r,rfl⟩:=m;exact PySem.EqMixed.ne_bool_str (qt I q (by simp))
  | _=>exact absurd (show false=true from w) XT
 | int i =>
  obtain⟨t,rfl⟩:=A;cases y with
  | non=>cases m;exact PySem.EqNone.ne_int_none (qt I q (by simp))
  | int j=>obtain⟨r,rfl⟩:=m;exact ne_int (qt I q (congrArg not ze6))
  | str j=>obtain⟨r,rfl⟩:=m;exact PySem.EqMixed.ne_int_str (qt I q (by simp))
  | _=>exact absurd (show false=true from w) XT
 | str i =>
  obtain⟨t,rfl⟩:=A;cases y with
  | non=>cases m;exact PySem.EqNone.ne_str_none (qt I q (by simp))
  | bl j=>cases m;exact PySem.EqMixed.ne_str_bool (qt I q (by simp))
  | int j=>obtain⟨r,rfl⟩:=m;exact PySem.EqMixed.ne_str_int (qt I q (by simp))
  | str j=>obtain⟨r,rfl⟩:=m;exact ne_str (qt I q (congrArg not ziY))
  | _=>exact absurd (show false=true from w) XT
 | byt i =>
  obtain⟨t,rfl⟩:=A;cases y with
  | byt j=>obtain⟨r,rfl⟩:=m;exact PySem.W.ne_bytes (qt I q (congrArg not ziZ))
  | _=>exact absurd (show false=true from w) XT
 | _=>cases y<;>exact absurd (show false=true from w) XT
def zfY:OpR X (Wb .Lt) (rI0 λi j=>.bl (decide (i<j))):=zqh λ_ _ _ _ _ _ _ q=>lt_int q
def zrN:OpR X (Wb .LtE) (rI0 λi j=>.bl (decide (i<=j))):=zqh λ_ _ _ _ _ _ _ q=>le_int q
def zpr:OpR X (Wb .Gt) (rI0 λi j=>.bl (decide (j<i))):=zqh λ_ _ _ _ _ _ _ q=>gt_int q
def zi1:OpR X (Wb .IsNot) (λx y H Q=>y=.non/\Q (.bl (!decide (x=.non))) H):=by
 intro w s σ H x y v u Q I m r h;obtain⟨rfl,q⟩:=h;cases r;refine isnot_none_gen (qt I q ?_);cases x<;>first
  | (cases m;rfl)
  | (obtain⟨t,rfl⟩:=m;rfl)
def qb (b:Expr){op:Oa}(h:op ≠ .In:=by decide)(s:op ≠ .NotIn:=by decide):Tu op b=false:=by
 have m:(op==CmpOp.In)=false:=by cases op<;>first | rfl | exact absurd rfl h
 have r:(op==CmpOp.NotIn)=false:=by cases op<;>first | rfl | exact absurd rfl s
 cases b<;>simp[Tu,m,r]
def yE {op:Oa}{r:R2}(D:OpR X (Wb op) r)(ha:PE X a ta)(B:PE X b tb)(hm:Tu op b=false):PE X (.Compare a [op] [b] pos) (tOp r ta tb):=by
 intro A s σ H Q I h;exact wpAny_Compare1 (zqg ha B I h λv u J x y m w E G q=>D A J σ m x y v u Q w E G q) hm
def zps (t:TE):TT:=fun σ H Q=>t σ H λx m=>∃k,x=.bl k/\Q k m
def jh {op:Oa}{r:R2}(L:OpR X (Wb op) r)(ha:PE X a ta)(J:PE X b tb)(hm:Tu op b=false):PT X (.Compare a [op] [b] pos) (zps (tOp r ta tb)):=by
 intro m s σ H Q I h;refine SK (thn (ha m s σ H _ I h) λv s1 ⟨x,w,D,Y,M⟩=>thn (J m s1 σ w _ D M) λu s2 ⟨y,A,E,r2,O⟩ =>
  thn (L m s2 σ A x y v u _ E Y r2 O) λc s3 ⟨z,B,G,r3,k,e,U⟩=>?_) hm
 subst e;cases r3;exact VN ⟨B,G,U⟩
def zqi (r B:R2)(ta tb tc:TE):TE:=fun σ H Q=>ta σ H λx s=>tb σ s λy w=>r x y w λz m=>∃k,z=.bl k /\
 (if k=true then tc σ m λD A=>B y D A Q else Q (.bl false) m)
def zfZ {op m:Oa}{r G:R2}(ho:OpR X (Wb op) r)(A:OpR X (Wb m) G)(ha:PE X a ta)(hb:PE X b tb)(hc:PE X c tc)
  (hm:lastMarks [op,m] [b,c]=false:=by with_unfolding_all rfl):PT X (.Compare a [op,m] [b,c] pos) (zps (zqi r G ta tb tc)):=by
 intro w s σ H Q I h;refine isTrue_chain (thn (ha w s σ H _ I h) λv s1 ⟨x,L,Y,r1,q1⟩=>test_link (thn (hb w s1 σ L _ Y q1) λu s2 ⟨y,M,I2,J,q2⟩ =>
  thn (ho w s2 σ M x y v u _ I2 r1 J q2) λd s3 ⟨z,B,D,r3,k,e,E⟩=>?_)) hm
 subst e;cases r3;refine VN ?_;cases k with
 | false =>
  obtain⟨k',e',q'⟩:=E;cases e';exact ite_ff ⟨B,D,q'⟩
 | true =>
  refine ite_tt (test_last (thn (hc w s3 σ B _ D E) λw' s4 ⟨z',O,I4,r4,q4⟩=>thn (A w s4 σ O y z' u w' _ I4 J r4 q4) λd' s5 ⟨z2,U,I5,r5,k2,e2,q5⟩=>?_));subst e2;cases r5;exact VN ⟨U,I5,q5⟩
def zqj (K:XW)(x:V)(H:Hp)(k:Bool):Prop :=
 match x with
 | .non=>k=false
 | .bl b=>k=b
 | .int i=>k=(i != 0)
 | .str y=>y.length<=Xv/\k=((y.length:Int) != 0)
 | .byt y=>y.size<=Xv/\k=((y.size:Int) != 0)
 | .ref p=>(∃xs,SqL K H p xs/\k=!xs.isEmpty)\/(∃xs,SqT K H p xs/\k=!xs.isEmpty)\/∃kvs,H p=some (.dK kvs)/\k=!kvs.isEmpty
 | _=>False
def zhJ {m:Type}{kvs:List (m × V)}{vs:List (m × X7)}(r:KV kvs vs):(!vs.isEmpty)=!kvs.isEmpty:=by
 cases r<;>rfl
def zcw {xs:AE}{m:List X7}(r:Vals xs m):(!m.toArray.isEmpty)=!xs.isEmpty:=by
 cases r<;>simp
def YN:(Xv:Nat)<2^63:=by rw[T2];decide
def zqk:zsF X (λx H Q=>∃k,zqj X.K x H k/\Q k H):=by
 intro L s σ H x v Q I D h;obtain⟨k,e,q⟩:=h;have hl:=YN;have M:Xv=16777216:=T2;cases x with
 | non =>
  cases D;have A:k=false:=e;subst A;exact truthy_none ⟨H,I,q⟩
 | bl b =>
  cases D;have A:k=b:=e;subst A;exact VN ⟨H,I,q⟩
 | int i =>
  obtain⟨t,rfl⟩:=D;have A:k=(i != 0):=e;subst A;exact PySem.P.truthy_int ⟨H,I,q⟩
 | str y =>
  obtain⟨t,rfl⟩:=D;obtain⟨hy,A⟩:y.length<=Xv/\k=((y.length:Int) != 0):=e;subst A;exact PySem.P.truthy_str (by lia) ⟨H,I.tok _,q⟩
 | byt y =>
  obtain⟨t,rfl⟩:=D;obtain⟨hy,A⟩:y.size<=Xv/\k=((y.size:Int) != 0):=e;subst A;exact PySem.W.truthy_bytes (by lia) ⟨H,I.tok _,q⟩
 | ref p =>
  cases D;have A:(∃xs,SqL X.K H p xs/\k=!xs.isEmpty)\/(∃xs,SqT X.K H p xs/\k=!xs.isEmpty)\/∃kvs,H p=some (.dK kvs)/\k=!kvs.isEmpty:=e;rcases A with ⟨xs,hx,A⟩ | ⟨xs,hx,A⟩ | ⟨kvs,hx,A⟩
  .subst A;obtain⟨E,r,G,hz⟩:=I.list hx;have B:=r.length;exact wpAny_truthy_list G.isList (by simp only[Xy];lia) ⟨H,I.tok _,by rw[zcw r];exact q⟩
  .subst A;obtain⟨E,r,G,hz⟩:=I.tuple hx;have B:=r.length;exact truthy_tuple G (by simp only[Xy];lia) ⟨H,I.tok _,by rw[zcw r];exact q⟩
  .subst A;obtain⟨hz,J,vs,r,m⟩:kvs.length<=Xv/\(p==U9)=false/\∃vs,KV kvs vs/\s.heap.DictOf (zT X.prog X.w) p vs:=I.hok p _ hx;have B:kvs.length=vs.length:=Paired.length r;exact wpAny_truthy_dict J m (by lia) ⟨H,I.tok _,by rw[zhJ r];exact q⟩
 | _=>exact(show False from e).elim
def yF (ha:PE X a ta)(he:∀whole,isTrue a X.env whole=(do let v <- whole;standAt a.pos;OX [v] (truthy v))) :
  PT X a (fun σ H Q=>ta σ H λx m=>∃k,zqj X.K x m k/\Q k m):=by
 intro r s σ H Q I h;exact isTrue_plain (thn (ha r s σ H _ I h) λv s1 ⟨x,w,A,D,B⟩=>zqk r s1 σ w x v Q A D B) (he _)
def Q3:OpR X (T4 .Add) (λx y H Q=>∃i j,x=.str i/\y=.str j/\i.length+j.length<=Xv/\Q (.str (i++j)) H):=by
 intro A s σ H x y v u Q I m r h;obtain⟨i,j,rfl,rfl,hz,q⟩:=h;obtain⟨t,rfl⟩:=m;obtain⟨w,rfl⟩:=r;exact add_str (λw B=>⟨.str (i++j),H,I.tok _,⟨_,rfl⟩,q⟩) hz
def vals1 {x:V}{m:List X7}(r:Vals [x] m):∃u,m=[u]/\RelV x u:=by
 cases r with
 | cons s w=>cases w;exact⟨_,rfl,s⟩
def vals2 {x y:V}{m:List X7}(r:Vals [x,y] m):∃u s,m=[u,s]/\RelV x u/\RelV y s:=by
 cases r with
 | cons w A =>
  cases A with
  | cons B D=>cases D;exact⟨_,_,rfl,w,B⟩
def zf0:qZ X (.builtin "abs") (λxs H Q=>∃i,xs=[.int i]/\Q (.int (if i<0 then -i else i)) H):=by
 intro m s σ H xs A Q I r h;obtain⟨i,rfl,q⟩:=h;obtain⟨u,rfl,t,rfl⟩:=vals1 r;exact call_abs_int λu w=>⟨.int (if i<0 then -i else i),H,I.tok _,⟨_,rfl⟩,q⟩
def Qt (hc:X.calm=true):qZ X (.builtin "max") (λxs H Q=>∃i j,xs=[.int i,.int j]/\Q (.int (if j>i then j else i)) H):=by
 intro w s σ H xs E Q I r h;obtain⟨i,j,rfl,q⟩:=h;obtain⟨u,G,rfl,⟨t,rfl⟩,⟨B,rfl⟩⟩:=vals2 r;refine max_two_ints (I.ok.hd hc) λA D k=>⟨_,H,I.kept k,?_,q⟩;by_cases m:j>i
 .rw[bw m,bw m];exact⟨_,rfl⟩
 .rw[bq m,bq m];exact⟨_,rfl⟩
def Zt (hc:X.calm=true):qZ X (.builtin "min") (λxs H Q=>∃i j,xs=[.int i,.int j]/\Q (.int (if j<i then j else i)) H):=by
 intro w s σ H xs E Q I r h;obtain⟨i,j,rfl,q⟩:=h;obtain⟨u,G,rfl,⟨t,rfl⟩,⟨B,rfl⟩⟩:=vals2 r;refine min_two_ints (I.ok.hd hc) λA D k=>⟨_,H,I.kept k,?_,q⟩;by_cases m:j<i
 .rw[bw m,bw m];exact⟨_,rfl⟩
 .rw[bq m,bq m];exact⟨_,rfl⟩
def zkj:qZ X (.type "int") (λxs H Q=>(∃i,xs=[.int i]/\Q (.int i) H)\/∃k,xs=[.bl k]/\Q (.int (if k then 1 else 0)) H):=by
 intro w s σ H xs A Q I r h;rcases h with ⟨i,rfl,q⟩ | ⟨k,rfl,q⟩
 .obtain⟨u,rfl,t,rfl⟩:=vals1 r;exact call_int_int ⟨.int i,H,I,⟨_,rfl⟩,q⟩
 .obtain⟨u,rfl,m⟩:=vals1 r;cases m;exact call_int_bool ⟨.int (if k then 1 else 0),H,I.tok _,⟨_,rfl⟩,q⟩
def zap:qZ X (.type "str") (λxs H Q=>∃i,xs=[.int i]/\i.natAbs.log2<1920/\Q (.str (toString i)) H):=by
 intro m s σ H xs w Q I r h;obtain⟨i,rfl,hz,q⟩:=h;obtain⟨u,rfl,t,rfl⟩:=vals1 r;exact PySem.P.str_of_int hz ⟨.str _,H,I.tok _,⟨_,rfl⟩,q⟩
end
structure zql (h:Heap)(x dx C:Addr)(mA:Str->Option X7):Prop where
 obj:h.get? x=some (PL C dx)
 ns:h.Ns1 dx mA
 ne:dx≠x
def zkk {h:Heap}{dx:Addr}{s:Str->Option X7}(n:h.Ns1 dx s):∃w,h.get? dx=some w/\∀name,Pg name w=some (s name):=by
 obtain⟨o,r,E,D,B,hk,_,hm⟩:=n;refine⟨o,D,λname=>?_⟩;have e:=hm name;unfold nsFind findBy at e;rw[<- Array.find?_toList]at e;unfold Pg;rw[B];dsimp only;split
 .rename_i y q;rw[q]at e;exact congrArg some e
 .rename_i q;rw[q]at e;have a:r.toList.any (·.refKey)=false:=by
   rw[RC];intro y hy;obtain⟨z,t,m⟩:=hk y (O7.mp hy);simp[DictEntry.refKey,m]
  have A:¬ r.toList.any (·.refKey)=true:=by rw[a];exact XT
  rw[bq A];exact congrArg some e
def zql.look {h:Heap}{x dx C:Addr}{r:Str->Option X7}(I:zql h x dx C r):∃m,PySem.W.InstAt h x (PL C dx) C (some m)/\∀name,Pg name m=some (r name) :=
 let ⟨m,ho,hl⟩:=zkk I.ns
 ⟨m,⟨I.obj,rfl,rfl,ho⟩,hl⟩
section
variable {P:Xl}{w:WY}{H H':Hp}{h h':Heap}{a C dx:Addr}{fs fs':List (Str×V)}
def znW (s:HOk P w H h)(e:H a=some (.ins C dx fs)):∃m,zql h a dx C m/\(∀f,ze0 (fs.lookup f) (m f))/\PySem.Within m (fs.map (·.1))/\fs.length<=1000/\H dx=some (.own a):=by
 obtain⟨d,z,A,B,m,n,r,q⟩:=(show qN P w H h a (.ins C dx fs) from s a _ e);exact⟨m,⟨B,n,A⟩,r,q,z,d⟩
end
structure Cls (K:XW)(C:Addr):Prop where
 pg:PySem.W.plainGet K C Str.empty=true
 hd:PySem.W.hasDictIn K C=true
 po:PySem.W.plainOver K C=true
 sa:PySem.W.findIn K (.ref C) "__setattr__"=some (some (.builtin "object.__setattr__"))
def Cls.get {K:XW}{C:Addr}(c:Cls K C)(f:Str):PySem.W.plainGet K C f=true:=c.pg
section
variable {X:Cx}{bz:List (Addr×Obj)}{σ:St}{H:Hp}{s:X0}{A:WK}{E:X7->X0->Prop}{Q:X7->X0->Prop}{c:X7}{b:Bool}
inductive zbb (K:XW)(H:Hp):V->X7->Prop where
 | non:zbb K H .non (.type "NoneType")
 | bl (x:Bool):zbb K H (.bl x) (.type "bool")
 | int (i:Int):zbb K H (.int i) (.type "int")
 | str (x:Str):zbb K H (.str x) (.type "str")
 | flt (x:UInt64):zbb K H (.flt x) (.type "float")
 | lst {a:Addr} {xs:AE} (e:H a=some (.lst xs)):zbb K H (.ref a) (.type "list")
 | frz {a:Addr} {o:Obj} {xs:AE} (e:H a=some (.frz o (.lst xs))):zbb K H (.ref a) (.type "list")
 | tup {a:Addr} {xs:AE} (e:H a=some (.tup xs)):zbb K H (.ref a) (.type "tuple")
 | dK {a:Addr} {kvs:List (Key×V)} (e:H a=some (.dK kvs)):zbb K H (.ref a) (.type "dict")
 | dT {a:Addr} {kvs:List (List Key×V)} (e:H a=some (.dT kvs)):zbb K H (.ref a) (.type "dict")
 | ins {a C dx:Addr} {fs:List (Str×V)} (e:H a=some (.ins C dx fs)) (cl:Cls K C) (ha:PySem.W.findIn K (.ref C) "__class__"=some (some (.builtin "object.__class__")))
   (hn:PySem.W.specialIn K (.builtin "object.__class__") "__get__"=some (some (.builtin "getset_descriptor.__get__"))) (htk:PySem.W.takesIn K (.builtin "object.__class__")=some true)
   (hm:Tv K C (.type "object")=some true):zbb K H (.ref a) (.ref C)
def zkl {x:V}{u t:X7}(I:Inv X bz σ H s)(r:RelV x u)(ty:zbb X.K H x t)(e:PySem.W.kitOne X.K t c=some b)(h:∀tk,Q (.bool b) { s with toks:=tk }) :
  Xg (Xi X.prog X.w) A (call (.builtin "isinstance") [u,c]) Q E s:=by
 cases ty with
 | non=>cases (show u=UC from r);exact VS PySem.W.kitx_none I.kIn Uq e (λz=>nomatch z) h
 | bl y=>cases (show u=OC y from r);exact VS PySem.W.kitx_bool I.kIn Uq e (λz=>nomatch z) h
 | int i=>obtain⟨t,q⟩:=(show ∃t,u=Vt i t from r);cases q;exact VS PySem.W.kitx_int I.kIn Uq e (λz=>nomatch z) h
 | str y=>obtain⟨t,q⟩:=(show ∃t,u=Om y t from r);cases q;exact VS PySem.W.kitx_str I.kIn Uq e (λz=>nomatch z) h
 | flt y=>obtain⟨t,q⟩:=(show ∃t,u=Value.float y t from r);cases q;exact VS PySem.W.kitx_float I.kIn Uq e (λz=>nomatch z) h
 | @lst a xs m =>
  cases (show u=WD a from r);obtain⟨_,_,n,_,B⟩:=(show qN X.prog X.w H s.heap a (.lst xs) from I.hok a _ m);exact VS PySem.W.kitx_list I.kIn ⟨_,B,rfl⟩ e (λz=>nomatch z) h
 | @frz a M xs m =>
  cases (show u=WD a from r);obtain⟨_,_,_,n,_,B⟩:=(show qN X.prog X.w H s.heap a (.frz M (.lst xs)) from I.hok a _ m);exact VS PySem.W.kitx_list I.kIn ⟨_,B,rfl⟩ e (λz=>nomatch z) h
 | @tup a xs m =>
  cases (show u=WD a from r);obtain⟨_,_,_,p⟩:=(show qN X.prog X.w H s.heap a (.tup xs) from I.hok a _ m);obtain⟨o,B,D,_⟩:=p;exact VS PySem.W.kitx_tuple I.kIn ⟨o,B,D⟩ e (λz=>nomatch z) h
 | @dK a kvs m =>
  cases (show u=WD a from r);obtain⟨_,_,vs,_,p⟩:=(show qN X.prog X.w H s.heap a (.dK kvs) from I.hok a _ m);obtain⟨o,L,G,B,D,_⟩:=p;exact VS PySem.W.kitx_dict I.kIn ⟨o,B,D.1⟩ e (λz=>nomatch z) h
 | @dT a kvs m =>
  cases (show u=WD a from r);refine dI (λ_ _ xs _ o L G=>c9 λB D _=>?_) (show qN X.prog X.w H s.heap a (.dT kvs) from I.hok a _ m);exact VS PySem.W.kitx_dict I.kIn ⟨o,B,D.1⟩ e (λz=>nomatch z) h
 | @ins a C dx fs m cl ha hn htk hm =>
  cases (show u=WD a from r);obtain⟨U,O,_⟩:=znW I.hok m;obtain⟨Y,J,_⟩:=O.look;exact VS (PySem.W.kitx_own (cl.get _) cl.hd ha hn htk hm) I.kIn J e (λz=>nomatch z) h
end
structure JU (k:Nat)(A:WK):Prop where
 hd:A.handled=none
 dp:A.depth+3*k+5<recursionLimit
 un:A.units+16*k+200<VD
def JU.mono {j k:Nat}{A:WK}(r:JU k A)(h:j<=k):JU j A:=⟨r.hd,by have:=r.dp;lia,by have:=r.un;lia⟩
theorem JU.deeper {k:Nat}{A:WK}(r:JU (k+1) A)(m:Env):JU k (A.deeper m) :=
 ⟨r.hd,by have:=r.dp;show A.depth+1+3*k+5<_;lia,by have:=r.un;show A.units+3+16*k+200<_;lia⟩
theorem JU.depth {k:Nat}{A:WK}(r:JU k A):A.depth<recursionLimit:=by have:=r.dp;lia
theorem JU.units {k:Nat}{A:WK}(r:JU k A):A.units+64<VD:=by have:=r.un;lia
def zkm:TA:=λ_ H Q=>Q [] H
def zcx (s:TE)(tr:TA):TA:=fun σ H Q=>s σ H λx m=>tr σ m λxs r=>Q (x::xs) r
section
variable {X:Cx}{e:Expr}{es:List Expr}{te:TE}{t:TA}{pos:Pos}
def zd:PA X [] zkm:=λ_ _ _ _ H Q I h=>Calls.spliced_nil ⟨[],H,I,.nil,h⟩
def za (ha:PE X e te)(D:PA X es t)(E:WV (e::es) X.env=(false,eval e X.env)::WV es X.env:=by rfl):PA X (e::es) (zcx te t):=by
 intro pos m s σ H Q I h;rw[E];show Xg _ _ (spliced ((false,eval e X.env)::Tl pos (WV es X.env))) _ _ s;refine RT (thn (ha m s σ H _ I h) λu s1 ⟨x,r,A,L,G⟩=>?_);exact thn (D pos m s1 σ r _ A G) λU O ⟨xs,w,B,M,J⟩=>⟨x::xs,w,B,.cons L M,J⟩
def zsG (t:TA):TE:=fun σ H Q=>t σ H λxs m=>xs.length<=Xv/\∀p,m p=none->Q (.ref p) (upd m p (.tup xs))
def zsH (t:TA):TE:=fun σ H Q=>t σ H λxs m=>xs.length<=Xv/\∀p,m p=none->Q (.ref p) (upd m p (.lst xs))
def qu {x1}(h:PA X es t):PE X (.Tuple es x1 pos) (zsG t):=by
 intro A s σ H Q I hq;refine wpAny_Tuple_spliced (thn (h pos A s σ H _ I hq) λD s1 ⟨xs,m,w,r,z,q⟩=>⟨by rw[<- r.length];exact z,?_⟩);have B:m s1.heap.objs.size=none:=w.hok.fresh (XR _);refine⟨.ref s1.heap.objs.size,upd m s1.heap.objs.size (.tup xs),w.laid (t':=s1.toks) (λb u e=>XS _ e) (XR _) ?_,rfl,q _ B⟩;exact⟨z,D,r,⟨_,W1 _ rfl,rfl,_,rfl⟩⟩
def zR (h:PA X es t):PE X (.List es pos) (zsH t):=by
 intro A s σ H Q I hq;refine wpAny_List_spliced (thn (h pos A s σ H _ I hq) λD s1 ⟨xs,m,w,r,z,q⟩=>⟨by rw[<- r.length];exact z,?_⟩);have B:m s1.heap.objs.size=none:=w.hok.fresh (XR _);refine⟨.ref s1.heap.objs.size,upd m s1.heap.objs.size (.lst xs),w.laid (t':=s1.toks) (λb u e=>XS _ e) (XR _) ?_,rfl,q _ B⟩;exact⟨z,D,0,r,W1 _ rfl⟩
end
abbrev Sp:=AE->Hp->VK->XK->Prop
abbrev CXT:=List Env->Hp->X0->XK->X7->X0->Prop
structure znX (P:Xl)(w:WY)(K:XW)(mg:Str->Option X7)(base:Heap)(A:WK)(outer:List Env)(s:X0)(H:Hp):Prop where
 frames:A.frames=some outer
 mod:Mod K mg base
 bs:∀b o,base.get? b=some o->s.heap.get? b=some o/\H b=none
 bsz:base.objs.size<=s.heap.objs.size
 funs:s.heap.FunFrames base outer
 frf:∀b∈frs outer,H b=none
 hok:HOk P w H s.heap
 bare:Sy s.gens
def CE (m:List Env)(P:Xl)(w:WY)(H:Hp)(s:X0)(Q:VK)(u:X7)(s':X0):Prop :=
 ∃v r,s'.os=s.os/\Sy s'.gens/\Un (frs m) [] H r s.heap s'.heap/\HOk P w r s'.heap/\RelV v u/\Q v r
def CR (CX:CXT)(m:List Env)(P:Xl)(w:WY)(H:Hp)(s:X0)(Q:VK)(E:XK)(r:On)(s':X0):Prop :=
 match r with
 | .ok (.ret u)=>CE m P w H s Q u s'
 | .ok _=>False
 | .error e=>CX m H s E e s'
structure zY (P:Xl)(w:WY)(K:XW)(mg:Str->Option X7)(base:Heap)(CX:CXT)(k:Nat)(f:Addr)(fd:XF)(ps:AD)(sp:Sp):Prop where
 len:∀vs H Q E,sp vs H Q E->vs.length=ps.length
 run:∀(A:WK) (outer:List Env) (s:X0) (H:Hp) (args:Args) (us:List X7) (vs:AE) (Q:VK) (E:XK),JU k A->znX P w K mg base A outer s H->Ou s fd args (ps.zip us)->Vals vs us->sp vs H Q E ->
  S6 (Xi P w) A (.call (.ref f) args) (CR CX outer P w H s Q E) s
section
variable {X:Cx}{bz:List (Addr×Obj)}{σ:St}{H:Hp}{s s':X0}
def Inv.env0 (I:Inv X bz σ H s):znX X.prog X.w X.K X.mg X.base X.A X.stack s H :=
 ⟨I.ok.frames,I.ok.mod,I.bs,XY I.ok.bsz I.sz,I.stack,I.stkFree,I.hok,I.bare⟩
def Inv.after {Q:VK}{u:X7}(I:Inv X bz σ H s)(h:CE X.stack X.prog X.w H s Q u s'):EP X bz σ Q u s':=by
 obtain⟨v,D,os,m,un,A,r,q⟩:=h;obtain⟨E,g,d,t,B⟩:=s';obtain rfl:B=s.os:=os;exact⟨v,D,I.call (h':=E) (g':=g) (d':=d) (t':=t) (ch:=[]) un A m (λb z=>absurd z (by simp)),r,q⟩
end
def zi2 (sp:Sp)(m:AE)(E:XK)(t:TA):TE:=fun σ H Q=>t σ H λvs r=>sp (vs++m) r Q E
def Binds (K:XW)(r:XF)(ps:AD)(ds:List X7):Prop :=
 ∀(s:X0) (m:List X7),K.In s.heap->(m++ds).length=ps.length->Ou s r ⟨m,[]⟩ (ps.zip (m++ds))
def Binds.all {K:XW}{r:XF}{ps:AD}(h:∀m:List X7,m.length=ps.length->bindArgs r ⟨m,[]⟩=pure (ps.zip m)):Binds K r ps []:=λs m _ hl=>by
 rw[Xx]at hl ⊢;exact .of_eq (h m hl)
def Passes (CX:CXT)(X:Cx)(E:XK):Prop:=∀(r:List (Addr×Obj)) (σ:St) (H:Hp) (s:X0) (e:X7) (m:X0),Inv X r σ H s->CX X.stack H s E e m->X.xe e m
section
variable {X:Cx}{CX:CXT}{k:Nat}{f C:Addr}{fd:XF}{ps:AD}{sp:Sp}{dvs:AE}{ds:List X7}{E:XK}{x m:Str}{p pos apos:Pos}{e o:Expr}{es:List Expr}{ta:TE}{t:TA}
def zqm {B:List (Addr×Obj)}{σ:St}{H:Hp}{s:X0}{Q:VK}{m:List X7}{vs:AE}(F:zY X.prog X.w X.K X.mg X.base CX k f fd ps sp)(M:JU k X.A)(J:Binds X.K fd ps ds)(L:Vals dvs ds)(hx:Passes CX X E)
  (I:Inv X B σ H s) (r:Vals vs m) (h:sp (vs++dvs) H Q E):Xg (Xi X.prog X.w) X.A (call (.ref f) m) (EP X B σ Q) X.xe s:=by
 have D:Vals (vs++dvs) (m++ds):=r.append L;have hl:(m++ds).length=ps.length:=by rw[<- D.length];exact F.len _ _ _ _ h
 refine wpAny_call (S4 (F.run X.A X.stack s H ⟨m,[]⟩ (m++ds) (vs++dvs) Q E M I.env0 (J s m I.kIn hl) D h) λr O hq=>?_);cases r with
 | error e=>exact hx B σ H s e O I hq
 | ok G =>
  cases G with
  | ret u=>exact I.after hq
  | next=>exact Vn hq
  | brk=>exact Vn hq
  | cont=>exact Vn hq
def ze7 (F:zY X.prog X.w X.K X.mg X.base CX k f fd ps sp)(O:JU k X.A)(M:Gl X x)(hm:X.mg x=some (.ref f))(hk:T1 X.K (.ref f)=true)(J:Binds X.K fd ps ds)(L:Vals dvs ds)(hx:Passes CX X E)
  (ha:PA X (e::es) t) (m:(x==("__debug__":Str))=false:=by decide) (he:WV (e::es) X.env=(false,eval e X.env)::WV es X.env:=by rfl) (B:(Tl pos (WV es X.env)).any (·.1)=false:=by rfl) :
  PE X (.Call (.Name x p) (e::es) [] pos) (zi2 sp dvs E t):=by
 intro G s σ H Q I h;refine Tf (zan I M hm ?_ m);refine PySem.W.callWith_K (h₀:=X.base) I.ok.mod.kin hk (thn (ha pos G s σ H _ I h) λY s1 ⟨vs,U,D,r,q⟩=>⟨D.kIn,?_⟩) he B;exact zqm F O J L hx D r q
end
structure zE (N P:AD)(sc:Uw):Prop where
 kind:sc.kind=.function
 co:sc.isCoroutine=false
 gen:sc.isGenerator=false
 nd:N.Nodup
 pre:N.take P.length=P
 par:∀x∈P,sc.names.lookup x=some .local\/sc.names.lookup x=some .cell
 nofree:∀y∈sc.names,y.2 ≠ .free
def bh {N P:AD}{sc:Uw}(k:sc.kind=.function:=by rfl)(a:sc.isCoroutine=false:=by rfl)(b:sc.isGenerator=false:=by rfl)(p:N.take P.length=P:=by rfl)(h:(N.Nodup)/\(∀x∈P,sc.names.lookup x=some .local\/sc.names.lookup x=some .cell)/\∀y∈sc.names,y.2 ≠ .free:=by decide+kernel):zE N P sc:=⟨k,a,b,h.1,p,h.2.1,h.2.2⟩
theorem zd8 {kindOf:Str->Option So}{x:Str}:∀{binds:List (Str×X7)} {m:Str->Option X7},(∀v,(x,v) ∉ binds)->Of kindOf binds m x=m x
 | [],_,_=>rfl
 | (n,v)::r,m,h=>by
  unfold Of;rw[zd8 λw s=>h w (Y1 _ s)];split
  .have:x≠n:=by rintro rfl;exact h v X5
   simp[this]
  .rfl
theorem zd9 {kindOf:Str->Option So}{x:Str}:∀{binds:List (Str×X7)} {m:Str->Option X7},(∀v,(x,v) ∉ binds)->Oe kindOf binds m x=m x
 | [],_,_=>rfl
 | (n,v)::r,m,h=>by
  unfold Oe;rw[zd9 λw s=>h w (Y1 _ s)];split
  .rfl
  .have:x≠n:=by rintro rfl;exact h v X5
   simp[this]
theorem zea {kindOf:Str->Option So}{x:Str}{v:X7}:∀{P:AD} {vs:List X7} {i:Nat} {m:Str->Option X7},P.Nodup->P[i]?=some x->vs[i]?=some v->kindOf x=some .local ->
  Of kindOf (P.zip vs) m x=some v
 | [],_,_,_,_,h,_,_=>by simp at h
 | _::_,[],_,_,_,_,h,_=>by simp at h
 | p::P,w::vs,0,m,A,r,s,hk=>by
  simp at r s;subst r;subst s;show Of kindOf ((p,w)::P.zip vs) m p=_;unfold Of;rw[zd8 λv hv=>(WS.mp A).1 (PK hv).1,bw hk];simp
 | p::P,w::vs,i+1,m,A,r,s,hk=>by
  show Of kindOf ((p,w)::P.zip vs) m x=_;unfold Of;exact zea (i:=i) (WS.mp A).2 (by simpa using r) (by simpa using s) hk
theorem zeb {kindOf:Str->Option So}{x:Str}{v:X7}:∀{P:AD} {vs:List X7} {i:Nat} {m:Str->Option X7},P.Nodup->P[i]?=some x->vs[i]?=some v->kindOf x≠some .local ->
  Oe kindOf (P.zip vs) m x=some v
 | [],_,_,_,_,h,_,_=>by simp at h
 | _::_,[],_,_,_,_,h,_=>by simp at h
 | p::P,w::vs,0,m,A,r,s,hk=>by
  simp at r s;subst r;subst s;show Oe kindOf ((p,w)::P.zip vs) m p=_;unfold Oe;rw[zd9 λv hv=>(WS.mp A).1 (PK hv).1,bq hk];simp
 | p::P,w::vs,i+1,m,A,r,s,hk=>by
  show Oe kindOf ((p,w)::P.zip vs) m x=_;unfold Oe;exact zeb (i:=i) (WS.mp A).2 (by simpa using r) (by simpa using s) hk
def start (N:AD)(vs:AE):St:=vs.map some++Wp (N.length-vs.length) none
def zf1 (CX:CXT)(P:Xl)(w:WY)(K:XW)(mg:Str->Option X7)(base:Heap)(N:AD)(qual:Str)(scope:Uw)(f:Addr)(cd:X7)(A:WK)(outer:List Env)(s:X0)(H:Hp)(E:XK):Cx where
 prog:=P
 w:=w
 K:=K
 mg:=mg
 base:=base
 A:=A.deeper (Qb qual scope s.heap.objs.size f cd)
 N:=N
 s₀:=s
 H₀:=H
 env:=Qb qual scope s.heap.objs.size f cd
 outer:=outer
 stack:=Qb qual scope s.heap.objs.size f cd::outer
 ex:=[]
 calm:=true
 fn:=λ_=>true
 pn:=[]
 xe:=λe s'=>Xg (Xi P w) (A.deeper (Qb qual scope s.heap.objs.size f cd)) (leaving (Qb qual scope s.heap.objs.size f cd) e) (λ_ s''=>CX outer H s E e s'') (λe' s''=>CX outer H s E e' s'') s'
def zf2 {sc:Uw}{n:Nat}{x:Str}(h:sc.names.lookup x=some .cell):∃c,(R4 n sc.names []).lookup x=some c:=by
 have q:=P0 sc.names n [] (.inl h);exact Vi.mp q
def zkn {CX:CXT}{P:Xl}{w:WY}{K:XW}{Y:Str->Option X7}{base:Heap}{N ps:AD}{D:Str}{m:Uw}{f:Addr}{O:X7}{A:WK}{B:List Env}{s s1:X0}{H:Hp}{E:XK}{us:List X7}{vs:AE}
  (S:zE N ps m) (hd:A.handled=none) (I:znX P w K Y base A B s H) (hl:vs.length=ps.length) (r:Vals vs us)
  (x:InCallC s s.heap.objs.size (Of (Qb D m s.heap.objs.size f O).kindOf (ps.zip us) λ_=>none) (R4 (s.heap.objs.size+1) m.names []) (Oe (Qb D m s.heap.objs.size f O).kindOf (ps.zip us) λ_=>none) s1) :
  Inv (zf1 CX P w K Y base N D m f O A B s H E) [] (start N vs) H s1:=by
 have aa:ps.length<=N.length:=by have:=congrArg List.length S.pre;rw[XM]at this;lia
 obtain⟨U,tk,rfl,hk⟩:=x.done;have J:∀b:Addr,b ∉ (zf1 CX P w K Y base N D m f O A B s H E).ex:=λb z=>absurd (show b∈([]:List Addr) from z) (by simp);refine⟨⟨I.mod,S.kind,rfl,rfl,XR _,λy z c U G=>?_,λy hy=>?_,λy c _ h=>?_,λ_=>hd,Around.frames_deeper I.frames,.inr ⟨rfl,rfl⟩,λb z=>absurd z (J b),I.bs,I.bsz,λb _ _=>J b,λb z=>absurd z (J b),I.funs,I.frf⟩,rfl,I.bare,Un.kept hk,⟨_,x.toInCall.ns,λi y v U G h3=>?_⟩,λy c h=>⟨_,x.cell y c h⟩,I.hok.fresh (XR _),λy c h=>?_,λp L=>absurd (show p∈([]:List (Addr×Obj)) from L) (by simp),I.hok.kept hk,?_⟩
 .exact name_of_addr x.apart (Wt U) (Wt G)
 .have hy:m.names.lookup y=some .cell\/m.names.lookup y=some .free:=hy;rcases hy with hy | hy
  .exact zf2 hy
  .exact absurd rfl (S.nofree _ (Wt hy))
 .exact TW (x.above y c (Wt h))
 .have hi:i<vs.length:=by
   unfold start at G;by_cases hi:i<vs.length
   .exact hi
   .rw[Vv (by simpa using hi)]at G;rw[List.getElem?_replicate]at G;split at G<;>cases G
  have ha:vs[i]?=some v:=by
   unfold start at G;rw[VP (by simpa using hi),XC]at G;cases e:vs[i]? with
   | none=>rw[e]at G;cases G
   | some a=>rw[e]at G;cases G;rfl
  obtain⟨u,hu,rv⟩:=r.get ha;have L:ps[i]?=some y:=by
   rw[<- S.pre,Ts (by lia)];exact U
  have M:ps.Nodup:=by rw[<- S.pre];exact S.nd.sublist (SX _ _)
  refine⟨u,rv,?_⟩;rcases S.par y (X4 L) with k | k
  .exact .inl ⟨k,zea M L hu k⟩
  .obtain⟨c,e⟩:=zf2 (n:=s.heap.objs.size+1) k;refine .inr ⟨.inl k,c,e,?_⟩;have q:=x.cell y c e;rw[zeb M L hu (by show m.names.lookup y≠_;rw[k];decide)]at q;exact q
 .exact I.hok.fresh (TW (x.above y c (Wt h)))
 .unfold start;show _=N.length;rw[X6,ZB,List.length_replicate];lia
def zpt {CX:CXT}{P:Xl}{w:WY}{K:XW}{mg:Str->Option X7}{base:Heap}{k:Nat}{f:Addr}{name D:Str}{L:Arguments}{M:List Stmt}{m:Uw}{dV kV doc pm G ct oc:X7}{an od:Option Addr}
  {ag:Array (Option X7)} {N ps:AD} {sp:Sp} (lk:K.lookup f=some ⟨oc,od,.func (UH name D L M m dV kV doc pm an G ct),ag⟩) (ae:S1 K G D=true) (S:zE N ps m)
  (len:∀vs H Q E,sp vs H Q E->vs.length=ps.length)
  (Y:∀(A:WK) (B:List Env) (s:X0) (H:Hp) (vs:AE) (Q:VK) (E:XK),JU k (A.deeper (Qb D m s.heap.objs.size f G))->sp vs H Q E ->
   ∃t,PSs (zf1 CX P w K mg base N D m f G A B s H E) M t/\t { nx:=λ_ U=>Q .non U,rt:=Q } (start N vs) H) :
  zY P w K mg base CX (k+1) f (UH name D L M m dV kV doc pm an G ct) ps sp:=by
 refine⟨len,λA B s H ah us vs Q E hr e0 hb r ac=>?_⟩;have hl:=len _ _ _ _ ac;have KX:K.In s.heap:=e0.mod.kin.keeps λb o e=>(e0.bs b o e).1;have af:s.heap.NoLimit:=e0.mod.nolimit.keeps λb o e=>(e0.bs b o e).1;have aa:∀y∈ps.zip us,m.names.lookup y.1=some .local\/(m.names.lookup y.1=some .cell/\((R4 (s.heap.objs.size+1) m.names []).lookup y.1).isSome=true):=λ⟨n,v⟩ hy=>by
  rcases S.par n (PK hy).1 with q | q
  .exact .inl q
  .exact .inr ⟨q,P0 _ _ _ (.inl q)⟩
 refine codeAny_call_function hr.depth (KX _ _ lk) rfl S.co S.gen rfl (PySem.W.codeRec_of KX ae) (hb _ _ _ _ ?_);refine wpAny_newFunctionEnv_cells S.kind aa λai he s1 x=>?_;subst he;refine⟨af.keeps x.toInCall.keep,codeAny_func ?_⟩;obtain⟨t,ht,hq⟩:=Y A B s H vs Q E (hr.deeper _) ac;have I:Inv (zf1 CX P w K mg base N D m f G A B s H E) [] (start N vs) H s1:=zkn S hr.hd e0 hl r x;refine Vo (ht [] s1 (start N vs) H _ I hq) (λfl s' hs=>?_) λe s' hs=>hs;have ab:∀{O:St} {U:Hp} {v:V} {u:X7},Inv (zf1 CX P w K mg base N D m f G A B s H E) [] O U s'->RelV v u->Q v U->CE B P w H s Q u s' :=
  λ{O U v u} J rv q=>⟨v,U,J.os,J.bare,J.base,J.hok,rv,q⟩
 cases fl with
 | ret u =>
  obtain⟨v,O,U,J,rv,q⟩:=hs;exact ab J rv q
 | next =>
  obtain⟨O,U,J,q⟩:=hs;exact ab (v:=V.non) (u:=UC) J rfl q
 | brk =>
  obtain⟨_,_,_,q⟩:=hs;exact Vn q
 | cont =>
  obtain⟨_,_,_,q⟩:=hs;exact Vn q
section
variable {X:Cx}{x:Str}{p pos:Pos}{e:Expr}{es:List Expr}{t:TA}{id T:String}{r:AE->Hp->VK->Prop}
def tCB (r:AE->Hp->VK->Prop)(t:TA):TE:=fun σ H Q=>t σ H λvs m=>r vs m Q
def yG (hc:qZ X (.builtin id) r)(E:Gl X x)(hm:X.mg x=none)(hv:UG x=some (.builtin id))(ha:PA X (e::es) t)(hn:x ≠ "__name__":=by decide)(m:(x==("__debug__":Str))=false:=by decide)
  (he:WV (e::es) X.env=(false,eval e X.env)::WV es X.env:=by rfl) (w:(Tl pos (WV es X.env)).any (·.1)=false:=by rfl):PE X (.Call (.Name x p) (e::es) [] pos) (tCB r t):=by
 intro A s σ H Q I h;refine Tf (Q0 I E hm hv ?_ hn m);exact PyProof.Rows.callWith_builtin1 (thn (ha pos A s σ H _ I h) λL s1 ⟨vs,B,D,J,G⟩=>hc A s1 σ B vs L Q D J G) he w
def zko (hc:qZ X (.type T) r)(E:Gl X x)(hm:X.mg x=none)(hv:UG x=some (.type T))(ha:PA X (e::es) t)(hn:x ≠ "__name__":=by decide)(m:(x==("__debug__":Str))=false:=by decide)
  (he:WV (e::es) X.env=(false,eval e X.env)::WV es X.env:=by rfl) (w:(Tl pos (WV es X.env)).any (·.1)=false:=by rfl):PE X (.Call (.Name x p) (e::es) [] pos) (tCB r t):=by
 intro A s σ H Q I h;refine Tf (Q0 I E hm hv ?_ hn m);exact VE (thn (ha pos A s σ H _ I h) λL s1 ⟨vs,B,D,J,G⟩=>hc A s1 σ B vs L Q D J G) he w
end
end L2
namespace HT
open PySem PyProof.Rows
section
variable {prog:Xl}{w:WY}{A:WK}{E:X7->X0->Prop}{s:X0}
def sIx (n d:Nat):Option Int->Nat
 | none=>d
 | some v=>if v<0 then (v+(n:Int)).toNat else min v.toNat n
def zaq (n d k:Nat):sIx n d (some (k:Int))=min k n:=by
 show (if (k:Int)<0 then ((k:Int)+(n:Int)).toNat else min (k:Int).toNat n)=min k n;rw[bq (by lia),Wa]
def zqn (n d:Nat)(m:d<=n)(o:Option Int):sIx n d o<=n:=by
 cases o with
 | none=>exact m
 | some v =>
  show (if v<0 then (v+(n:Int)).toNat else min v.toNat n)<=n;by_cases hv:v<0
  .rw[bw hv];lia
  .rw[bq hv];exact Nat.min_le_right _ _
end
end HT
namespace L2
open PySem PySem.Spec PyProof.Rows
abbrev TO:=St->Hp->(Option Int->Hp->Prop)->Prop
def PO (X:Cx)(e:Option Expr)(t:TO):Prop :=
 ∀(r:List (Addr×Obj)) (s:X0) (σ:St) (H:Hp) (Q:Option Int->Hp->Prop),Inv X r σ H s->t σ H Q ->
  Xg (Xi X.prog X.w) X.A (evalPart e X.env) (λu B=>∃o m,Inv X r σ m B/\IsPart u o/\Q o m) X.xe s
def znY:TO:=λ_ H Q=>Q none H
def zrO (t:TE):TO:=fun σ H Q=>t σ H λx m=>∃i,x=.int i/\Q (some i) m
section
variable {X:Cx}{e:Expr}{te:TE}{lo hi:Option Expr}{tl th:TO}{pos p2:Pos}
def zar:PO X none znY:=by
 intro m s σ H Q I h;rw[evalPart_none];exact XO ⟨none,H,I,.none,h⟩
def zas (h:PE X e te):PO X (some e) (zrO te):=by
 intro w s σ H Q I A;rw[evalPart_some];refine thn (h w s σ H _ I A) λu s1 ⟨x,m,r,D,B⟩=>?_;obtain⟨i,rfl,q⟩:=B;obtain⟨t,rfl⟩:=D;exact⟨some i,m,r,.int i t,q⟩
def SlR (X:Cx)(r:V->Option Int->Option Int->Hp->VK->Prop):Prop :=
 ∀(m:List (Addr×Obj)) (s:X0) (σ:St) (H:Hp) (x:V) (v D E:X7) (lo hi:Option Int) (B:Addr) (Q:VK),Inv X m σ H s->RelV x v->s.heap.IsSliceOf B D E .none->IsPart D lo->IsPart E hi->r x lo hi H Q ->
  ∃T id,OA (.type T) "__getitem__"=pure (some (.builtin id))/\s.TypeIs v T/\Xg (Xi X.prog X.w) X.A (getItem v (.ref B)) (EP X m σ Q) X.xe s
def tSl (r:V->Option Int->Option Int->Hp->VK->Prop)(te:TE)(tl th:TO):TE:=fun σ H Q=>te σ H λx m=>tl σ m λl s=>th σ s λu w=>r x l u w Q
def YO {r:V->Option Int->Option Int->Hp->VK->Prop}(hr:SlR X r)(he:PE X e te)(hl:PO X lo tl)(hu:PO X hi th):PE X (.Subscript e (.Slice lo hi none p2) pos) (tSl r te tl th):=by
 intro B s σ H Q I h;refine Subscript_ (thn (he B s σ H _ I h) λv s1 ⟨x,J,M,r1,q1⟩=>?_);refine wpAny_Slice (thn (hl B s1 σ J _ M q1) λD s2 ⟨l,L,O,pl,q2⟩=>thn (hu B s2 σ L _ O q2) λE m ⟨u,G,U,pu,q3⟩=>?_);rw[evalPart_none];refine XO ?_;have Y:Inv X B σ G { m with heap:=m.heap.push { cls:=.type "slice",data:=.fields #[D,E,.none] } }:=U.kept (t':=m.toks) λb ob q=>XS _ q;refine dF (λT id=>c9 λhT ht hg=>?_) (hr B { m with heap:=m.heap.push { cls:=.type "slice",data:=.fields #[D,E,.none] } } σ G x v D E l u m.heap.objs.size Q Y r1 (Heap.IsSliceOf.new ..) pl pu q3);show Xg (Xi X.prog X.w) X.A (subscriptTail e (.Slice lo hi none p2) v (.ref m.heap.objs.size)) (EP X B σ Q) X.xe { m with heap:=m.heap.push { cls:=.type "slice",data:=.fields #[D,E,.none] } };exact tail_any (ops:=[.ref m.heap.objs.size,v]) ht hT hg (by with_unfolding_all rfl)
def Zu (xs:AE)(lo hi:Option Int):AE:=(xs.drop (HT.sIx xs.length 0 lo)).take (HT.sIx xs.length xs.length hi-HT.sIx xs.length 0 lo)
def YQ (xs:AE)(lo hi:Option Int):(Zu xs lo hi).length<=xs.length:=by
 unfold Zu;rw[XM,Wl];lia
end
def ixN (n:Nat)(i:Int):Option Nat:=if 0<=i then (if i<n then some i.toNat else none) else if -(n:Int)<=i then some (i+n).toNat else none
def atI {α:Type}(xs:List α)(i:Int):Option α:=(ixN xs.length i).bind λj=>xs[j]?
def zi3 {n:Nat}{i:Int}{j:Nat}(h:ixN n i=some j):seqIndex? i n=some j/\j<n/\-(n:Int)<=i/\i<n:=by
 unfold ixN at h;by_cases r:0<=i
 .rw[bw r]at h;by_cases m:i<n
  .rw[bw m]at h;have e:i.toNat=j:=Option.some.inj h;exact⟨by rw[Pm r m,e],by lia,by lia,m⟩
  .rw[bq m]at h;cases h
 .rw[bq r]at h;by_cases m:-(n:Int)<=i
  .rw[bw m]at h;have e:(i+n).toNat=j:=Option.some.inj h;exact⟨by rw[P8 (by lia) m,e],by lia,m,by lia⟩
  .rw[bq m]at h;cases h
def zcg {α:Type}{xs:List α}{i:Int}{v:α}(h:atI xs i=some v):∃j,seqIndex? i xs.length=some j/\xs[j]?=some v/\j<xs.length/\-(xs.length:Int)<=i/\i<xs.length:=by
 unfold atI at h;cases e:ixN xs.length i with
 | none=>rw[e]at h;cases h
 | some j =>
  rw[e]at h;obtain⟨m,r,s,w⟩:=zi3 e;exact⟨j,m,h,r,s,w⟩
def ja {α:Type}{xs:List α}{j:Nat}{v:α}(h:xs[j]?=some v):atI xs (j:Int)=some v:=by
 have m:j<xs.length:=(XV.mp h).1;have e:ixN xs.length (j:Int)=some j:=by
  unfold ixN;rw[bw (by lia),bw (by lia)];simp
 unfold atI;rw[e];exact h
def znZ (b:Expr):Prop:=∀o i,subscripted b false o i=operate [o,i] (getItem o i)
def IxR (X:Cx)(r:R2):Prop :=
 ∀(B m:Expr) (D:List (Addr×Obj)) (s:X0) (σ:St) (H:Hp) (x y:V) (v u:X7) (Q:VK),Inv X D σ H s->RelV x v->RelV y u->r x y H Q ->
  subscripted m false v u=operate [v,u] (getItem v u)->Xg (Xi X.prog X.w) X.A (subscriptTail B m v u) (EP X D σ Q) X.xe s
def MtR (X:Cx)(id:String)(r:V->AE->Hp->VK->Prop):Prop :=
 ∀(m:List (Addr×Obj)) (s:X0) (σ:St) (H:Hp) (x:V) (xs:AE) (v:X7) (B:List X7) (Q:VK),Inv X m σ H s->RelV x v->Vals xs B->r x xs H Q ->
  Xg (Xi X.prog X.w) X.A (call (.builtin id) (v::B)) (EP X m σ Q) X.xe s
section
variable {X:Cx}{a b:Expr}{ta tb:TE}{pos:Pos}
def zG {r:R2}(D:IxR X r)(ha:PE X a ta)(B:PE X b tb)(E:znZ b):PE X (.Subscript a b pos) (tOp r ta tb):=by
 intro A s σ H Q I h;exact Subscript_ (zqg ha B I h λv u L x y m w G J q=>D a b A L σ m x y v u Q w G J q (E _ _))
def zqo (K:XW):R2:=λx y H Q=>∃p xs i v,x=.ref p/\y=.int i/\SqL K H p xs/\atI xs i=some v/\Q v H
def zrP (K:XW):R2:=λx y H Q=>∃p xs i v,x=.ref p/\y=.int i/\SqT K H p xs/\atI xs i=some v/\Q v H
def zrQ:R2:=λx y H Q=>∃z i c,x=.str z/\y=.int i/\z.length<=Xv/\atI z.cps.toList i=some c/\Q (.str ⟨#[c]⟩) H
def jj:IxR X (zqo X.K):=by
 intro L J M s σ H x y v u Q I rx ry h Y;obtain⟨p,xs,i,z,rfl,rfl,hq,he,q⟩:=h;cases rx;obtain⟨t,rfl⟩:=ry;obtain⟨D,r,E,hz⟩:=I.list hq;obtain⟨j,A,h2,h3,h4,h5⟩:=zcg he;obtain⟨w,O,G⟩:=r.get h2;have hl:=r.length;have hn:=YN;have m:EP X M σ Q w s:=⟨z,H,I,G,q⟩;by_cases U:0<=i
 .have B:i.toNat=j:=by
   rw[Pm U h5]at A;exact Option.some.inj A
  exact item_listR E.isList U (by lia) (by rw[B];simpa using O) m Y
 .have B:(i+(D.toArray.size:Int)).toNat=j:=by
   rw[P8 (by lia) h4]at A;rw[Xy,<- hl];exact Option.some.inj A
  exact PZ (x:=w) E.isList.typeIs slot_list_getitem.lookup
   (PY (Q:=λr s'=>r=w/\EP X M σ Q r s') E.isList (by lia) (by rw[Xy]<;>lia) (by lia) (by rw[B];simpa using O) ⟨rfl,m⟩) Y
def qP:IxR X (zrP X.K):=by
 intro D B E s σ H x y v u Q I Y ry h O;obtain⟨p,xs,i,z,rfl,rfl,hq,he,q⟩:=h;cases Y;obtain⟨t,rfl⟩:=ry;obtain⟨U,r,G,hz⟩:=I.tuple hq;obtain⟨j,L,M,h3,h4,h5⟩:=zcg he;obtain⟨w,J,A⟩:=r.get M;have hl:=r.length;have hn:=YN;have m:EP X E σ Q w s:=⟨z,H,I,A,q⟩;exact PZ (x:=w) G.typeIs slot_tuple_getitem.lookup
  (getItem_tuple (j:=j) (Q:=λr s'=>r=w/\EP X E σ Q r s') G (by lia) (by lia) (by rw[Xy,<- hl];exact L) (by simpa using J) ⟨rfl,m⟩) O
def zhK:IxR X zrQ:=by
 intro r m O s σ H x y v u Q I L M h J;obtain⟨z,i,c,rfl,rfl,hz,he,q⟩:=h;obtain⟨t,rfl⟩:=L;obtain⟨Y,rfl⟩:=M;obtain⟨j,w,D,U,E,G⟩:=zcg he;have hl:z.cps.toList.length=z.length:=by simp[Str.length]
 rw[hl]at w E G;have hn:=YN;exact tail_any (typeIs_str s z t) slot_str_getitem.lookup (getItem_str (c:=c) (by
  have A:decide (i < -(2^63:Int))=false:=bf (by lia);have B:decide (i >= 2^63)=false:=bf (by lia);rw[A,B,OK]) (by rw[w];simpa using D) ⟨.str ⟨#[c]⟩,H,I.tok _,⟨_,rfl⟩,q⟩) J
def zhL (m:List X7)(n j:Nat)(u:X7):Vm (·.setIfInBounds j u) { cls:=.type "list",data:=.seq m.toArray n }={ cls:=.type "list",data:=.seq (m.set j u).toArray n }:=by
 simp[Vm]
theorem Inv.lst {w:List (Addr×Obj)}{σ:St}{H:Hp}{s:X0}{p:Addr}{xs:AE}(I:Inv X w σ H s)(h:H p=some (.lst xs)) :
  ∃(m:List X7) (n:Nat),Vals xs m/\s.heap.get? p=some { cls:=.type "list",data:=.seq m.toArray n }/\xs.length<=Xv:=by
 obtain⟨z,m,n,r,e⟩:=I.hok p _ h;exact⟨m,n,r,e,z⟩
def Inv.lstUpd {A:List (Addr×Obj)}{σ:St}{H:Hp}{s:X0}{p:Addr}{xs ys:AE}{m its':List X7}{n w:Nat}{f:Obj->Obj}(I:Inv X A σ H s)(h:H p=some (.lst xs))
  (E:s.heap.get? p=some { cls:=.type "list",data:=.seq m.toArray n }) (B:f { cls:=.type "list",data:=.seq m.toArray n }={ cls:=.type "list",data:=.seq its'.toArray w }) (r:Vals ys its') (hz:ys.length<=Xv) (t:Nat) :
  Inv X A σ (upd H p (.lst ys)) { s with heap:=s.heap.update p f,toks:=t }:=by
 have e:(s.heap.update p f).get? p=some { cls:=.type "list",data:=.seq its'.toArray w }:=by
  rw[We f E (by rw[B]<;>rfl),B]
 refine I.write (x:=p) (e:=p) (by rw[h];trivial) (.inl rfl) (λb u D q=>(Uh _ _ (Vc D)).trans q) ⟨_,e⟩ ?_;exact⟨hz,its',w,r,e⟩
def zrR:V->V->V->Hp->(Hp->Prop)->Prop:=λo i v H Q=>∃p xs k j,o=.ref p/\i=.int k/\H p=some (.lst xs)/\ixN xs.length k=some j/\Q (upd H p (.lst (xs.set j v)))
def set_list:zqd X zrR:=by
 intro L s σ H o i v ov iv u Q I U O Y h;obtain⟨p,xs,k,j,rfl,rfl,J,M,q⟩:=h;cases U;obtain⟨t,rfl⟩:=O;obtain⟨m,n,r,A,hz⟩:=I.lst J;obtain⟨w,h2,E,G⟩:=zi3 M;have hl:=r.length;have hn:=YN;have B:Inv X L σ (upd H p (.lst (xs.set j v))) { s with heap:=s.heap.update p (Vm (·.setIfInBounds j u)) } :=
  I.lstUpd J A (zhL m n j u) (r.set Y j) (by rw[Sh];exact hz) s.toks
 by_cases D:0<=k
 .have hk:k.toNat=j:=by
   rw[Pm D G]at w;exact Option.some.inj w
  exact PySem.W.ki_setAt A D (by lia) (by rw[Xy,<- hl];exact G) (by rw[hk];exact⟨_,B,q⟩)
 .have hk:(k+(m.toArray.size:Int)).toNat=j:=by
   rw[P8 (by lia) E]at w;rw[Xy,<- hl];exact Option.some.inj w
  exact PySem.W.ki_setBack A (by lia) (by rw[Xy,<- hl];exact E) (by lia) (by rw[hk];exact⟨_,B,q⟩)
def ze8 (lo hi:Option Int)(n:Nat):(S9 lo hi none n).1=((HT.sIx n 0 lo:Nat):Int)/\(S9 lo hi none n).2.1=((HT.sIx n n hi:Nat):Int)/\(S9 lo hi none n).2.2=1:=by
 refine⟨?_,?_,rfl⟩
 .cases lo with
  | none=>simp[S9,HT.sIx]
  | some i =>
   simp only[S9,HT.sIx,Option.getD_none,show (1:Int)>0 by decide,if_true];by_cases h:i<0
   .simp only[h,if_true]<;>lia
   .simp only[h,if_false]<;>lia
 .cases hi with
  | none=>simp[S9,HT.sIx]
  | some i =>
   simp only[S9,HT.sIx,Option.getD_none,show (1:Int)>0 by decide,if_true];by_cases h:i<0
   .simp only[h,if_true]<;>lia
   .simp only[h,if_false]<;>lia
def zdN (m:List X7)(lo hi:Option Int):slicePick m.toArray lo hi none=((m.drop (HT.sIx m.length 0 lo)).take (HT.sIx m.length m.length hi-HT.sIx m.length 0 lo)).toArray:=by
 obtain⟨r,s,w⟩:=ze8 lo hi m.toArray.size;unfold slicePick;rw[r,s,w];simp only[sliceRange_one,pick_run,Xy]<;>rfl
def zsI (K:XW):V->Option Int->Option Int->Hp->VK->Prop:=λx lo hi H Q=>∃a xs,x=.ref a/\SqL K H a xs/\∀p,H p=none->Q (.ref p) (upd H p (.lst (Zu xs lo hi)))
def ze9:SlR X (zsI X.K):=by
 intro J s σ H x v O U lo hi M Q I G A D E h;obtain⟨a,xs,rfl,hx,q⟩:=h;cases G;obtain⟨B,r,w,hz⟩:=I.list hx;have m:=r.length;refine⟨"list",_,slot_list_getitem.lookup,w.isList.typeIs,?_⟩;refine wpAny_getItem_list_slice w.isList A D E .none (by simp) ?_ (by rw[Xy]<;>lia);rw[zdN,<- m];refine⟨.ref s.heap.objs.size,_,I.laid (t':=s.toks) (o:=.lst (Zu xs lo hi)) (λb L q=>XS _ q) (XR _) ?_,rfl,q _ (I.hok.fresh (XR _))⟩;exact⟨XY (YQ xs lo hi) hz,_,0,(r.drop (HT.sIx xs.length 0 lo)).take (HT.sIx xs.length xs.length hi-HT.sIx xs.length 0 lo),W1 _ rfl⟩
def zat:V->Bool
 | .non=>true
 | .bl _=>true
 | .int _=>true
 | .str _=>true
 | _=>false
def eqV:V->V->Bool
 | .non,.non=>true
 | .bl a,.bl b=>a==b
 | .bl a,.int b=>(if a then 1 else 0)==b
 | .int a,.bl b=>a==(if b then 1 else 0)
 | .int a,.int b=>a==b
 | .str a,.str b=>a==b
 | _,_=>false
def zqp {A:WK}{s:X0}{y x:V}{u v:X7}(B:RelV y u)(m:RelV x v)(D:zat y=true)(w:zat x=true):SeqAt.EqAt A s u v (eqV y x):=by
 cases y with
 | non =>
  cases B;cases x with
  | non=>cases m;exact SeqAt.EqAt.same _
  | bl b=>cases m;exact SeqAt.EqAt.none_bool b
  | int b=>obtain⟨t,rfl⟩:=m;exact SeqAt.EqAt.none_int b t
  | str b=>obtain⟨t,rfl⟩:=m;exact SeqAt.EqAt.none_str b t
  | _=>exact absurd (show false=true from w) XT
 | bl a =>
  cases B;cases x with
  | non=>cases m;exact SeqAt.EqAt.bool_none a
  | bl b=>cases m;exact SeqAt.EqAt.bool_bool a b
  | int b=>obtain⟨t,rfl⟩:=m;exact SeqAt.EqAt.bool_int a b t
  | str b=>obtain⟨t,rfl⟩:=m;exact SeqAt.EqAt.bool_str a b t
  | _=>exact absurd (show false=true from w) XT
 | int a =>
  obtain⟨r,rfl⟩:=B;cases x with
  | non=>cases m;exact SeqAt.EqAt.int_none a r
  | bl b=>cases m;exact SeqAt.EqAt.int_bool a r b
  | int b=>obtain⟨t,rfl⟩:=m;exact SeqAt.EqAt.int_int a r b t
  | str b=>obtain⟨t,rfl⟩:=m;exact SeqAt.EqAt.int_str a r b t
  | _=>exact absurd (show false=true from w) XT
 | str a =>
  obtain⟨r,rfl⟩:=B;cases x with
  | non=>cases m;exact SeqAt.EqAt.str_none a r
  | bl b=>cases m;exact SeqAt.EqAt.str_bool a r b
  | int b=>obtain⟨t,rfl⟩:=m;exact SeqAt.EqAt.str_int a r b t
  | str b=>obtain⟨t,rfl⟩:=m;exact SeqAt.EqAt.str_str a r b t
  | _=>exact absurd (show false=true from w) XT
 | _=>exact absurd (show false=true from D) XT
def eqU (x:V)(u:X7):Bool:=match u with
 | .none=>eqV .non x
 | .bool b=>eqV (.bl b) x
 | .int i _=>eqV (.int i) x
 | .str z _=>eqV (.str z) x
 | _=>false
def zlJ {x y:V}{u:X7}(r:RelV y u)(f:zat y=true):eqU x u=eqV y x:=by
 cases y with
 | non=>cases r;rfl
 | bl b=>cases r;rfl
 | int i=>obtain⟨t,rfl⟩:=r;rfl
 | str z=>obtain⟨t,rfl⟩:=r;rfl
 | _=>exact absurd (show false=true from f) XT
theorem zfa {x:V}:∀{xs:AE} {m:List X7},Vals xs m->xs.all zat=true->m.any (eqU x)=xs.any λy=>eqV y x
 | _,_,.nil,_=>rfl
 | y::xs,u::m,.cons r t,f=>by
  rw[Rx,Wj]at f;rw[Sw,Sw,zlJ r f.1,zfa t f.2]
theorem zcy {A:WK}{s:X0}{x:V}{v:X7}(B:RelV x v)(w:zat x=true):∀{xs:AE} {m:List X7},Vals xs m->xs.all zat=true->∀u∈m,SeqAt.EqAt A s u v (eqU x u)
 | _,_,.nil,_=>λu hu=>by cases hu
 | y::xs,u::m,.cons r t,f=>λD hu=>by
  rw[Rx,Wj]at f;rcases XQ.mp hu with rfl | hu
  .rw[zlJ r f.1];exact zqp r B f.1 w
  .exact zcy B w t f.2 D hu
def inV (x:V)(xs:AE):Bool:=xs.any λy=>eqV y x
def rIn (K:XW)(neg:Bool):R2:=λx y H Q=>∃p xs,y=.ref p/\(SqL K H p xs\/SqT K H p xs)/\zat x=true/\xs.all zat=true/\Q (.bl (if neg then !inV x xs else inV x xs)) H
def zkp:OpR X (Wb .In) (rIn X.K false):=by
 intro J s σ H x y v u Q I E G h;obtain⟨p,xs,rfl,hq,D,fs,q⟩:=h;cases G;rcases hq with hq | hq
 .obtain⟨m,r,B,hz⟩:=I.list hq;refine SeqAt.in_listAt (eqU x) B.isList (λw A=>zcy E D r fs w (by simpa using A)) ⟨.bl _,H,I,rfl,?_⟩;rw[show m.toArray.any (eqU x)=m.any (eqU x) by simp,zfa r fs];exact q
 .obtain⟨m,r,B,hz⟩:=I.tuple hq;refine SeqAt.in_tupleAt (eqU x) B (λw A=>zcy E D r fs w (by simpa using A)) ⟨.bl _,H,I,rfl,?_⟩;rw[show m.toArray.any (eqU x)=m.any (eqU x) by simp,zfa r fs];exact q
def qi:qZ X (.builtin "len") (λxs H Q=>∃p ys,xs=[.ref p]/\(SqL X.K H p ys\/SqT X.K H p ys)/\Q (.int ys.length) H):=by
 intro E s σ H xs G Q I r h;obtain⟨p,ys,rfl,hq,q⟩:=h;obtain⟨u,rfl,D⟩:=vals1 r;cases D;have hn:=YN;rcases hq with hq | hq
 .obtain⟨w,B,A,hz⟩:=I.list hq;have m:=B.length;exact Calls.call_len_list A.isList (by simp only[Xy]<;>lia) ⟨.int ys.length,H,I.tok _,⟨s.toks+1,by rw[Xy,m]⟩,q⟩
 .obtain⟨w,B,A,hz⟩:=I.tuple hq;have m:=B.length;exact len_tuple A (by simp only[Xy]<;>lia) ⟨.int ys.length,H,I.tok _,⟨s.toks+1,by rw[Xy,m]⟩,q⟩
def zau:qZ X (.builtin "len") (λxs H Q=>∃z,xs=[.str z]/\z.length<=Xv/\Q (.int z.length) H):=by
 intro m s σ H xs w Q I r h;obtain⟨z,rfl,hz,q⟩:=h;obtain⟨u,rfl,t,rfl⟩:=vals1 r;have hn:=YN;exact len_str (by lia) ⟨.int z.length,H,I.tok _,⟨_,rfl⟩,q⟩
def Z0:qZ X (.type "list") (λxs H Q=>∃p ys,xs=[.ref p]/\(SqL X.K H p ys\/SqT X.K H p ys)/\∀l,H l=none->Q (.ref l) (upd H l (.lst ys))):=by
 intro Y s σ H xs us Q I r h;obtain⟨p,ys,rfl,hq,q⟩:=h;obtain⟨u,rfl,rx⟩:=vals1 r;cases rx;have E:∀(m:List X7),Vals ys m->ys.length<=Xv->∀(A:Heap) (B:Nat),(∀b U,s.heap.get? b=some U->A.get? b=some U) ->
   A.get? s.heap.objs.size=some { cls:=.type "list",dict:=none,data:=.seq m.toArray B,slots:=#[] }->EP X Y σ Q (.ref s.heap.objs.size) { s with heap:=A }:=λm D hz A B J e =>
  ⟨.ref s.heap.objs.size,_,I.laid (t':=s.toks) J (XR _) (show qN X.prog X.w _ A _ (.lst ys) from ⟨hz,m,B,D,e⟩),rfl,q _ (I.hok.fresh (XR _))⟩
 rcases hq with hq | hq
 .obtain⟨m,D,O,hz⟩:=I.list hq;have G:=D.length;obtain⟨o,M,hc,n,L⟩:=O.isList;exact call_list_seq p (.inl rfl) M hc L (λA B J e=>E m D hz A B J e) (by simp only[Xy]<;>lia)
 .obtain⟨m,D,O,hz⟩:=I.tuple hq;have G:=D.length;obtain⟨o,M,hc,n,L⟩:=O;exact call_list_seq p (.inr rfl) M hc L (λA B J e=>E m D hz A B J e) (by simp only[Xy]<;>lia)
def tyV (K:XW)(T:String)(x:V)(H:Hp):Prop:=match x with
 | .str _=>T="str"
 | .int _=>T="int"
 | .ref p=>(T="list"/\∃xs,SqL K H p xs)\/(T="tuple"/\∃o,K.lookup p=some o/\o.cls=.type "tuple"/\o.dict=none) \/
   (T="dict"/\((∃kvs,H p=some (.dK kvs))\/∃kvs,H p=some (.dT kvs)))\/(T="set"/\∃S n,H p=some (.set S n))
 | _=>False
def zqq {D:List (Addr×Obj)}{σ:St}{H:Hp}{s:X0}{T:String}{x:V}{v:X7}(I:Inv X D σ H s)(r:RelV x v)(ty:tyV X.K T x H) :
  s.TypeIs v T/\∀a,v=.ref a->∃ob,s.heap.get? a=some ob/\ob.dict=none:=by
 cases x with
 | str z =>
  obtain⟨t,rfl⟩:=r;cases (show T="str" from ty);exact⟨typeIs_str s z t,λ_ e=>nomatch e⟩
 | int i =>
  obtain⟨t,rfl⟩:=r;cases (show T="int" from ty);exact⟨typeIs_int s i t,λ_ e=>nomatch e⟩
 | ref p =>
  cases r;rcases ty with ⟨rfl,xs,hq⟩ | ⟨rfl,o,hk,hc,A⟩ | ⟨rfl,hk⟩ | ⟨rfl,S,n,hk⟩
  .obtain⟨E,_,B,_⟩:=I.list hq;refine⟨B.isList.typeIs,λa e=>?_⟩;cases e;obtain⟨o,n,e,c,A,_⟩:=B;exact⟨o,e,A⟩
  .refine⟨⟨o,I.kIn p o hk,hc⟩,λa e=>?_⟩;cases e;exact⟨o,I.kIn _ o hk,A⟩
  .have z:∃o,s.heap.get? p=some o/\o.ExactDict:=by
    rcases hk with ⟨kvs,hk⟩ | ⟨kvs,hk⟩
    .refine dI (λ_ _ _ _ o _ _=>c9 λe m _=>?_) (I.hok p _ hk);exact⟨o,e,m⟩
    .refine dI (λ_ _ _ _ o _ _=>c9 λe m _=>?_) (I.hok p _ hk);exact⟨o,e,m⟩
   obtain⟨o,e,m⟩:=z;refine⟨⟨o,e,m.1⟩,λa w=>?_⟩;cases w;exact⟨o,e,m.2.1⟩
  .refine dg (λo _ _ _=>c9 λe m _=>?_) (I.hok p _ hk);refine⟨⟨o,e,m.1⟩,λa w=>?_⟩;cases w;exact⟨o,e,m.2.1⟩
 | _=>exact Vn ty
def tBM (K:XW)(T:String)(r:V->AE->Hp->VK->Prop)(to:TE)(t:TA):TE:=fun σ H Q=>to σ H λx m=>tyV K T x m/\t σ m λxs s=>r x xs s Q
variable {o e:Expr}{es:List Expr}{to:TE}{t:TA}{name:Str}{apos cpos:Pos}{T id:String}{r:V->AE->Hp->VK->Prop}
def yV (pa:PlainAttrs T)(D:Slot T name id)(G:typeOf (.builtin id)=pure (.type "method_descriptor"))(hm:MtR X id r)(ho:PE X o to)(ha:PA X (e::es) t)
  (w:attributeBase o name X.env (eval o X.env)=eval o X.env:=by rfl)
  (B:((Tl cpos (WV (e::es) X.env)).all (λx=>!x.1)&&(backToKw cpos (keywordEach [] X.env)).all (λx=>x.1.isSome)
   && decide ((e::es).length+([]:List Oh).length+(if ([]:List Oh).isEmpty then 0 else 1)<30))=true:=by rfl)
  (A:(apos.endLine==cpos.line)=true:=by rfl) (hs:WV (e::es) X.env=(false,eval e X.env)::WV es X.env:=by rfl) (m:(Tl cpos (WV es X.env)).any (·.1)=false:=by rfl) :
  PE X (.Call (.Attribute o name apos) (e::es) [] cpos) (tBM X.K T r to t):=by
 intro E s σ H Q I h;refine wpAny_Call_method_late w B A rfl (thn (ho E s σ H _ I h) λv s1 ⟨x,O,J,M,ty,q1⟩=>?_);obtain⟨h1,h2⟩:=zqq J M ty;refine⟨T,id,pa,D,G,h1,h2,?_⟩;have L:=ha cpos E s1 σ O _ J q1;rw[hs]at L ⊢;refine PX (by show (false || (Tl cpos (WV es X.env)).any (·.1))=false;rw[m]<;>rfl) (Sl ?_);exact thn L λus s2 ⟨vs,U,Y,r2,q2⟩=>hm E s2 σ U x vs v us Q Y M r2 q2
/- xs.append(e),list.index on a module's tuple .. are MtR facts of 06m -/
end
def MtM (X:Cx)(id:String)(r:V->AE->Hp->VK->Prop):Prop :=
 ∀(m:List (Addr×Obj)) (s:X0) (σ:St) (H:Hp) (x:V) (xs:AE) (v:X7) (B:List X7) (Q:VK),Inv X m σ H s->RelV x v->Vals xs B->r x xs H Q ->
  Xg (Xi X.prog X.w) X.A (call (.builtin id) (v::B)) (EP X m σ Q) X.xe s
theorem Vals.one:∀{x:V} {m:List X7},Vals [x] m->∃u,m=[u]/\RelV x u
 | _,_,.cons r .nil=>⟨_,rfl,r⟩
theorem Vals.rep {xs:AE}{m:List X7}(h:Vals xs m):∀k:Nat,Vals (Wp k xs).flatten (Wp k m).flatten
 | 0=>.nil
 | k+1=>by
  rw[U3,U3,VZ,VZ];exact Vals.append h (Vals.rep h k)
theorem foldl_rep (r:List X7):∀(k:Nat) (m:List X7),
  List.foldl (λw A=>w++A) m.toArray (Wp k r.toArray)=(m++(Wp k r).flatten).toArray
 | 0,m=>by simp
 | k+1,m=>by
  have e:m.toArray++r.toArray=(m++r).toArray:=by simp
  have s:(m++r)++(Wp k r).flatten=m++(Wp (k+1) r).flatten:=by
   rw[U3,VZ,W9]
  rw[<- s,<- foldl_rep r k (m++r),<- e,U3,VR]
section
variable {X:Cx}{bz:List (Addr×Obj)}{σ:St}{H:Hp}{s:X0}{l b:Addr}{xs ys zs:AE}
def Inv.lset {m its':List X7}{n:Nat}{f:Array X7->Array X7}{t':Nat}(I:Inv X bz σ H s)(r:H l=some (.lst xs))
  (e:s.heap.get? l=some { cls:=.type "list",data:=.seq m.toArray n }) (A:f m.toArray=its'.toArray) (hv:Vals ys its') (hz:ys.length<=Xv) :
  Inv X bz σ (upd H l (.lst ys)) { s with heap:=s.heap.update l (Vm f),toks:=t' }:=by
 have q:=PySem.IsL.update e f;rw[A]at q;refine I.write (x:=l) (e:=l) (by rw[r];exact trivial) (.inl rfl) (λD u w B=>(Uh s.heap (Vm f) (Vc w)).trans B) ⟨_,q⟩ ?_;exact⟨hz,its',_,hv,q⟩
def Inv.lnew {m:List X7}{t':Nat}(I:Inv X bz σ H s)(hv:Vals ys m)(hz:ys.length<=Xv) :
  Inv X bz σ (upd H s.heap.objs.size (.lst ys)) { s with heap:=s.heap.push { cls:=.type "list",data:=.seq m.toArray },toks:=t' } :=
 I.laid (λ_ _ q=>XS _ q) (XR _) ⟨hz,m,0,hv,W1 _ rfl⟩
theorem Inv.fresh (I:Inv X bz σ H s):H s.heap.objs.size=none:=I.hok.fresh (XR _)
def Inv.lstM (I:Inv X bz σ H s)(w:H l=some (.lst xs)):xs.length<=Xv/\∃(m:List X7) (n:Nat),Vals xs m/\xs.length=m.length/\s.heap.get? l=some { cls:=.type "list",data:=.seq m.toArray n }:=by
 obtain⟨z,m,n,r,e⟩:=I.hok l _ w;exact⟨z,m,n,r,r.length,e⟩
def zcz {n:Nat}(h:n<=Xv):VJ n=false:=by
 unfold VJ;exact bf (by lia)
end
section
variable {X:Cx}
def zn0:V->AE->Hp->VK->Prop:=λx vs H Q=>∃l xs y,x=.ref l/\vs=[y]/\H l=some (.lst xs)/\xs.length<Xv/\Q .non (upd H l (.lst (xs++[y])))
def Jq:MtM X "list.append" zn0:=by
 intro E s σ H x vs v G Q I D B h;obtain⟨l,xs,y,rfl,rfl,w,hz,q⟩:=h;cases D;obtain⟨u,rfl,A⟩:=B.one;obtain⟨z,m,n,r,hl,e⟩:=I.lstM w;refine R1 F.slot_list_append ⟨_,e,rfl⟩ F.entry_list_append (F.args_list_append_2 _ _) (PySem.list_append l m.toArray n u (by rw[Xy];lia)) ⟨e,?_⟩;refine⟨.non,_,I.lset (its':=m++[u]) w e (by simp) (r.append (.cons A .nil)) ?_,rfl,q⟩;rw[X6,Pz];lia
def zn1:V->AE->Hp->VK->Prop:=λx vs H Q=>∃l b xs m,x=.ref l/\vs=[.ref b]/\H l=some (.lst xs)/\H b=some (.lst m)/\xs.length+m.length<=Xv/\Q .non (upd H l (.lst (xs++m)))
def Qu:MtM X "list.extend" zn1:=by
 intro bz s σ H x vs v us Q I Y U h;obtain⟨l,b,xs,zs,rfl,rfl,D,G,hz,q⟩:=h;cases Y;obtain⟨u,rfl,O⟩:=U.one;cases O;obtain⟨z,w,n,r,hl,e⟩:=I.lstM D;obtain⟨z2,m,L,M,J,E⟩:=I.lstM G;have B:w.toArray.size+m.toArray.size<=Xv:=by rw[Xy,Xy];lia
 have A:¬ (!w.toArray.isEmpty&&VJ (w.toArray.size+m.toArray.size))=true:=by
  rw[zcz B,RZ];exact XT
 refine R1 F.slot_list_extend ⟨_,e,rfl⟩ OT (O6 _ _)
  (AutoSeq1.list_extend_list_list_0 l w.toArray n b m.toArray L A (by rw[Xy];lia) (by lia)) ⟨e,E,?_⟩
 refine⟨.non,_,I.lset (its':=w++m) D e (by simp) (r.append M) ?_,rfl,q⟩;rw[X6];lia
def zsJ:R2:=λx y H Q=>∃l b xs m,x=.ref l/\y=.ref b/\H l=some (.lst xs)/\H b=some (.lst m)/\xs.length+m.length<=Xv/\∀p,H p=none->Q (.ref p) (upd H p (.lst (xs++m)))
def yX:OpR X (T4 .Add) zsJ:=by
 intro O s σ H x y v u Q I L M h;revert h;refine dg λl b xs zs=>dh λz0 z1 E D hz q=>?_;subst z0 z1;cases L;cases M;obtain⟨z,w,n,r,hl,e⟩:=I.lstM E;obtain⟨Y,m,U,J,G,A⟩:=I.lstM D;refine PySem.P.add_list e A ?_ (by rw[Xy,Xy];lia);have B:w.toArray++m.toArray=(w++m).toArray:=by simp
 rw[B];exact⟨.ref _,_,I.lnew (t':=s.toks) (r.append J) (by rw[X6];lia),rfl,q _ I.fresh⟩
def zsK:R2:=λx y H Q=>∃l k xs,x=.ref l/\y=.int k/\H l=some (.lst xs)/\-(2^63)<=k/\k<2^63/\xs.length*k.toNat<=Xv /\
 ∀p,H p=none->Q (.ref p) (upd H p (.lst (Wp k.toNat xs).flatten))
def len_rep {α:Type}(xs:List α)(k:Nat):(Wp k xs).flatten.length=k*xs.length:=by
 induction k with
 | zero=>simp
 | succ k m=>rw[U3,VZ,X6,m,P7,Nat.add_comm]
def zlK:OpR X (T4 .Mult) zsK:=by
 intro bz s σ H x y v u Q I rx ry h;revert h;refine dB λl k xs z0 z1 hH O=>c9 λY hz q=>?_;subst z0 z1;cases rx;obtain⟨t,rfl⟩:=ry;obtain⟨z,w,n,r,hl,e⟩:=I.lstM hH;have E:w.toArray.size*k.toNat<=Xv:=by rw[Xy,<- hl];exact hz
 have B:¬ w.toArray.size*k.toNat>(2^63-1)/8:=by
  have:(Xv:Nat)<=(2^63-1)/8:=by decide
  lia
 have D:¬ (!Builtin.List.listFitsIndex k)=true:=by
  rw[fitsIndex_both O Y];exact XT
 have A:¬ VJ (w.toArray.size*k.toNat)=true:=by
  rw[zcz E];exact XT
 have G:List.foldl (λJ L=>J++L) #[] (Wp (if w.toArray.isEmpty=true then 0 else k.toNat) w.toArray)=(Wp k.toNat w).flatten.toArray:=by
  have M:∀m:Nat,List.foldl (λJ L=>J++L) #[] (Wp m w.toArray)=(Wp m w).flatten.toArray:=λm=>by
   have:=foldl_rep w m [];rw[PJ]at this;exact this
  rw[M];cases w with
  | nil=>simp
  | cons a r'=>rw[bq (by simp)]
 refine wpAny_binaryOp_repeat_ref (T:="list") (U:="int") (by decide) ⟨_,e,rfl⟩ (λs'=>typeIs_int s' k t) noFill_list_mul F.fills_int_mul F.slot_int_rmul repeat_list F.slot_int_index.lookup
  (R1 F.slot_int_rmul (typeIs_int s k t) F.entry_int_rmul (F.args_int_rmul_2 _ _) (int___rmul___int_list k t l w.toArray n)
   ⟨e,rfl,⟨_,e,rfl⟩,R1 F.slot_list_mul ⟨_,e,rfl⟩ F.entry_list_mul (F.args_list_mul_2 _ _) (AutoListH.list___mul___list_int_3 l w.toArray n k t D B A) ⟨e,?_⟩⟩)
 rw[G];exact⟨.ref _,_,I.lnew (t':=s.toks) (r.rep k.toNat) (by rw[len_rep,Nat.mul_comm];exact hz),rfl,q _ I.fresh⟩
end
end L2
namespace Att
open PySem PySem.W PySem.Calls PyProof.Rows
def zb2 {P:Params}{h:Heap}:∀(m:List Int) (vs:List X7),WellAll P h vs (m.map WData.int)->OW vs m:=by
 intro m;induction m with
 | nil =>
  intro vs w;rw[Sa]at w;cases w;exact .nil
 | cons n m r =>
  intro vs w;rw[Xu]at w;cases w with
  | cons a b =>
   cases a;exact .cons _ _ (r _ b)
def zkq {l:OpenLaw}{n:Nat}(hn:l.most=some n){P:Params}{h:Heap}{args:List WData}{w:List X7}
  (s:l.row.toRowW.claim.pre args=true) (I:WellAll P h w args) :
  ∃a vs m,w=[WD a]/\args=[WData.list (m.map WData.int)]/\h.get? a=some { cls:=.type "list",data:=.seq vs.toArray }/\OW vs m/\m.length<=n:=by
 have G:WShape.hasAll [] args [.list .int]=true:=(pre_splitW s).1;have hc:l.pre.holds [] { args:=args }=true:=(pre_splitW s).2;obtain⟨d,r,rfl,J,L⟩:=hasAllW_cons G;obtain rfl:=hasAllW_nil L;obtain⟨xs,rfl,M⟩:=hasW_list J;obtain⟨m,rfl⟩:=items_int M;have B:m.length<=n:=by
  unfold OpenLaw.pre at hc;have D:(WTm.not (.lt (.lit (.int (n:Int))) (.len (.arg 0)))).holds [] { args:=[.list (m.map .int)] }=true:=by
   have D:=(holds_andW hc).1;rw[hn]at D;exact D
  have E:=condW_of D (w_not (w_lt w_lit (w_len_list (w_arg rfl))));rw[ZB]at E;refine Nat.le_of_not_lt λq=>?_;have U:(n:Int)<((m.length:Nat):Int):=by lia
  first
   | (rw[br U]at E;exact absurd E (by decide))
   | (simp at E;lia)
 cases I with
 | cons Y w2 =>
  cases w2;cases Y with
  | list O A=>exact⟨_,_,m,rfl,rfl,O,zb2 m _ A,B⟩
def zkr (l:OpenLaw)(args:List WData):l.row.toRowW.claim.post args (.bool true) args=true :=
 postW_of (r:=l.row.toRowW) (X:=(true==true))
  (show WShape.has [] (.bool true) .bool=true by first | rfl | decide | simp[WShape.has,WShape.arms,WShape.armsAll])
  (show (WTm.eq .res (.lit (.bool true))).value [] { args:=args,res:=some (.bool true),after:=args }=some (.bool (true==true)) from w_eq_bool (w_res rfl) w_lit) rfl
def zf3 {l:OpenLaw}{n:Nat}{q:Xl}{loose:AD}{XP:(Str->Option X7)->Heap->Prop}{YP:WY->Heap->Prop}{d:DefRec}
  (hn:l.most=some n) (aa:d.params.defaults=[])
  (call:∀(w:WY) (s m:X0) (L mb:Str->Option X7) (B:Addr) (o:Obj) (pm J doc:X7) (a:Addr) (vs:List X7) (M:List Int),
   Ground q loose [] XP w s L mb m.heap->YP w m.heap ->
   m.heap.get? B=some o->o.data=.func (docDef d.name d.params d.body d.scope pm J doc)->m.heap.CodeRec J d.name->L d.name=some (.ref B) ->
   m.heap.get? a=some { cls:=.type "list",data:=.seq vs.toArray }->OW vs M->M.length<=n->m.gens=#[] ->
   S6 (Xi l.prog w) OV (.call (.ref B) ⟨[.ref a],[]⟩) (λr O=>r=.ok (.ret (.bool true))/\OldK m.heap O.heap/\O.os=m.os/\Sy O.gens) m) :
  WalkO q loose XP YP l.row.toRowW d [] (λf vs=>PySem.call f vs):=by
 intro w s m L mb G Y B o pm J doc dV kV ho hd U hD ab hg ae ag as I af ai ac ah;obtain rfl:dV=.none:=Dflts.none hD aa;obtain rfl:kV=.none:=Dflts.noKw hD;obtain⟨a,vs,M,rfl,rfl,E,A,D⟩:=zkq hn I ac;refine enter_call (S4 (call w s m L mb B o pm J doc a vs M G Y ho (fd_plain hd) U ab E A D hg) λr O hq=>?_);obtain⟨rfl,h2,h3,h4⟩:=hq;exact⟨.inl ⟨.bool true,.bool true,[],rfl,λ_=>rfl,.bool true,zkr l _,λ_=>⟨List.Pairwise.nil,λ_ hm=>(nomatch hm)⟩⟩,h2,h3,h4⟩
end Att
namespace L2
open PySem PySem.Spec PyProof.Rows
theorem zec:∀{vs:List X7} {m:List Int},OW vs m->Vals (m.map V.int) vs
 | _,_,.nil=>.nil
 | _,_,.cons n t h=>.cons ⟨t,rfl⟩ (zec h)
def zqr (H:Hp):Prop:=∀b,H b=none\/∃o xs,H b=some (.frz o (.lst xs))
def zlL {P:Xl}{w:WY}{K:XW}{mg mb:Str->Option X7}{CX:CXT}{k:Nat}{fa a:Addr}{fd:XF}{x:Str}{sp:Sp}{A:X0}{vs:List X7}{ns:List Int}
  (KX:K.In A.heap) (ab:A.heap.Ns XD mg) (D:A.heap.Ns OB mb) (ah:∀x:Str,x ≠ "__name__"->mb x=UG x) (aa:A.heap.NoLimit) (hg:A.gens=#[])
  (ha:A.heap.get? a=some { cls:=.type "list",data:=.seq vs.toArray }) (hi:OW vs ns) (hl:ns.length<=Xv) (hr:JU k OV)
  (F:∀E:Heap,K.In E->E.Ns XD mg->zY P w K mg E CX k fa fd [x] sp) (L:∀(s:X0) (u:X7),Ou s fd ⟨[u],[]⟩ [(x,u)])
  (ai:∀H:Hp,zqr H->SqL K H a (ns.map V.int)->sp [.ref a] H (λv _=>v=.bl true) λ_ _ _=>False)
  (ag:∀H e G,CX [] H A (λ_ _ _=>False) e G->False) :
  S6 (Xi P w) OV (.call (.ref fa) ⟨[.ref a],[]⟩) (λr G=>r=.ok (.ret (.bool true))/\OldK A.heap G.heap/\G.os=A.os/\Sy G.gens) A:=by
 have rv:=zec hi;have af:=hi.length;have J:∀H:Hp,zqr H->SqL K H a (ns.map V.int)->HOk P w H A.heap->(∀b,H b≠none->b=a)->(H a≠none->K.lookup a=none) ->
   S6 (Xi P w) OV (.call (.ref fa) ⟨[.ref a],[]⟩) (λr G=>r=.ok (.ret (.bool true))/\OldK A.heap G.heap/\G.os=A.os/\Sy G.gens) A:=by
  intro H hO hS ac hA hK;have B:∀{b:Addr} {o:Obj},A.heap.get? b=some o->H b=none->(ze1 A.heap H).get? b=some o:=λe n=>zlA e n;have aj:∀{b:Addr} {o:Obj} {U:Array Rn} {O:Nat},A.heap.get? b=some o->o.data=.dict U O->H b=none:=λ{b o U O} e d=>by
   cases q:H b with
   | none=>rfl
   | some u =>
    have e':b=a:=hA b (by rw[q];simp);subst e';rw[ha]at e;cases e;have d':Data.seq vs.toArray _=Data.dict U O:=d;cases d'
  have I:∀{b:Addr} {m:Str->Option X7},A.heap.Ns b m->(ze1 A.heap H).Ns b m:=λ{b m} ⟨o,U,O,e,d,r⟩=>⟨o,U,O,B e (aj e d),d,r⟩;have Y:K.In (ze1 A.heap H):=λb o e=>B (KX b o e) (by
   cases q:H b with
   | none=>rfl
   | some u =>
    have e':b=a:=hA b (by rw[q];simp);subst e';rw[hK (by rw[q];simp)]at e;cases e)
  have hM:Mod K mg (ze1 A.heap H):=⟨Y,I ab,⟨mb,I D,ah⟩,let ⟨mc,h1,h2⟩:=aa;⟨mc,I h1,h2⟩⟩;have e0:znX P w K mg (ze1 A.heap H) OV [] A H:=⟨rfl,hM,λb o e=>znV e,Nat.le_of_eq (zkf _ _),trivial,λb D=>absurd (show b∈([]:List Addr) from D) (by simp),ac,.of_eq hg⟩;refine S4 ((F _ Y (I ab)).run OV [] A H ⟨[.ref a],[]⟩ [.ref a] [.ref a] _ _ hr e0 (L A (.ref a)) (.cons rfl .nil) (ai H hO hS)) λr G h=>?_;cases r with
  | error e=>exact(ag H e G h).elim
  | ok fl =>
   cases fl with
   | next=>exact Vn h
   | brk=>exact Vn h
   | cont=>exact Vn h
   | ret u =>
    obtain⟨v,H',os,M,un,ae,r',q⟩:=h;have q':v=.bl true:=q;subst q';obtain rfl:u=OC true:=r';refine⟨rfl,OldK.of_keep λb o e=>?_,os,M⟩;cases q:H b with
    | none=>exact un.keep b o e q (by intro z;exact absurd (show b∈([]:List Addr) from z) (by simp)) (by simp)
    | some u =>
     rcases hO b with z | ⟨ob,xs,z⟩
     .rw[q]at z;cases z
     .have z2:=un.frzs b ob _ z;obtain⟨e1,_⟩:=ac b _ z;obtain⟨e2,_⟩:=ae b _ z2;rw[e]at e1;cases e1;exact e2
 cases hk:K.lookup a with
 | some o =>
  have e:=KX a o hk;rw[ha]at e;cases e;refine J (λ_=>none) (λ_=>.inl rfl) (.inr ⟨_,vs.toArray,_,hk,rfl,rfl,rfl,by rw[Xy,af];exact hl,by simpa using rv⟩) (λb u z=>by have z':(none:Option HO)=some u:=z;cases z') (λb z=>absurd rfl z) λz=>absurd rfl z
 | none =>
  refine J (λb=>if b=a then some (.frz { cls:=.type "list",data:=.seq vs.toArray } (.lst (ns.map V.int))) else none) (λb=>?_) (.inl (.inr ⟨{ cls:=.type "list",data:=.seq vs.toArray },bw rfl⟩)) (λb u z=>?_) (λb z=>?_) λ_=>hk
  .by_cases D:b=a
   .exact .inr ⟨_,_,bw D⟩
   .exact .inl (bq D)
  .by_cases D:b=a
   .have z':=(bw D).symm.trans z;cases z';subst D;exact⟨ha,by rw[ZB];exact hl,vs,_,rv,ha⟩
   .have z':=(bq D).symm.trans z;cases z'
  .by_cases D:b=a
   .exact D
   .exact absurd (bq D) z
def zi4 {l:PH}{n k:Nat}{q:Xl}{loose:AD}{XP:(Str->Option X7)->Heap->Prop}{YP:WY->Heap->Prop}{d:DefRec}{K:Params->XW}{CX:WY->CXT}{sp:WY->Sp}{x:Str}
  (hn:l.most=some n) (U:n<=Xv) (M:d.params.defaults=[]) (hr:JU k OV)
  (hY:∀(w:WY) (h:Heap),YP w h->(K w.params).In h)
  (F:∀(w:WY) (A:Str->Option X7) (E:Addr) (h:Heap),(K w.params).In h->h.Ns XD A->A d.name=some (.ref E) ->
   ∃J:XF,(∀(s:X0) (u:X7),Ou s J ⟨[u],[]⟩ [(x,u)]) /\
    ∀base:Heap,(K w.params).In base->base.Ns XD A->zY l.prog w (K w.params) A base (CX w) k E J [x] (sp w))
  (aa:∀(w:WY) (H:Hp) (a:Addr) (I:List Int),I.length<=n->zqr H->SqL (K w.params) H a (I.map V.int)->sp w [.ref a] H (λv _=>v=.bl true) λ_ _ _=>False)
  (L:∀(w:WY) (H:Hp) (s:X0) (e:X7) (s':X0),CX w [] H s (λ_ _ _=>False) e s'->False) :
  OL q loose XP YP l.row.toRowW d [] (λf vs=>PySem.call f vs):=by
 refine Att.zf3 hn M λw ab D A mb E o pm cd doc a vs I G Y ho hd ac O B r m hg=>?_;have KX:=hY w _ Y;obtain⟨J,hb,hF⟩:=F w A E _ KX G.T.g O;exact zlL KX G.T.g G.T.b G.T.builtins G.T.nolimit hg B r (XY m U) hr hF hb (λH hO hS=>aa w H a I m hO hS) λH e s'=>L w H D e s'
end L2
/- THE LAST THEOREM (shape;LID,My.* are yours):
   My.Adr: a structure of the addresses that your layer names (classes,functions);My.Txt K t: a structure (Prop) of the equations over K;
   My.txt_mk:{K} {implicit addresses ..} (e1:nsIn K XD "law"=some (some (.ref f))) (e2:K.lookup f=some ⟨oc,od,.func (fnOf "law" "law" params body scope dV kV doc pm an cdv ct),sl⟩) (e3:codeIn K cdv "law"=true) ..:∃t,My.Txt K t
set_option maxRecDepth 100000 in
set_option maxHeartbeats 0 in
theorem PySem.Challenge.cw_LID_holds : PySem.Challenge.rw_LID.Holds := by
 w_on;o_law;k_head;(case hw=>w_witness2);k_fill;refine L2.zi4 (l:=PySem.Challenge.rw_LID) (n:=63) (k:=40) (x:="script") (CX:=λw=>..) (sp:=λ_=>My.zsL) rfl (by decide) rfl ⟨rfl,by decide,by decide⟩ (λw h Y=>PySem.W.kIn_of Y) ?F ?S ?C
 case F =>
  intro w mg fa h KX G hmg
  have T:∃t,My.Txt (L2.KOf KX) t:=by
   dsimp only[L2.KOf]                          -- K must stand as «<heap const> w.params» for k_is;refine' My.txt_mk ?e1 ?e2 ?e3 ..;(case e1=>PySem.W.k_is)                    -- in the order: a name->its address->its object->its parts;(case e2=>PySem.W.k_is);..
  obtain⟨t,T⟩:=T
  have e0:=hmg.symm.trans (VC KX G T.law)
  cases e0                                       -- fa is the law's own address
  exact⟨_,λs u=>.of_eq rfl,λbase kb nb=>My.law_fn T kb nb⟩     -- if «.of_eq rfl» comes too early: refine' ⟨_,?b,λbase kb nb=>My.law_fn T kb nb⟩;exact λs u=>.of_eq rfl
 case S=>exact λw H a ns hl hO hS=>..
 case C=>exact ..
(the tactic k_is has no namespace: write k_is) -/
namespace L2
open PySem PySem.Spec PyProof.Rows
def JV (s:Stmt):Arguments:=match s with
 | .FunctionDef _ a _ _ _ _ _ _ _ _=>a
 | _=>{ posonlyargs:=[],args:=[],vararg:=none,kwonlyargs:=[],kw_defaults:=[],kwarg:=none,defaults:=[] }
def xo (s:Stmt):List Stmt:=match s with
 | .FunctionDef _ _ b _ _ _ _ _ _ _=>b
 | _=>[]
def zp (s:Stmt):Uw:=match s with
 | .FunctionDef _ _ _ _ _ _ sc _ _ _=>sc
 | _=>{ kind:=.function,names:=[],isGenerator:=false,isCoroutine:=false }
abbrev CX0:CXT:=λ_ _ _ _ _ _=>False
abbrev E0:XK:=λ_ _ _=>False
def zrS {X:Cx}:Passes CX0 X E0:=λ_ _ _ _ _ _ _ h=>h.elim
structure Fun (K:XW)(x qual:Str)(st:Stmt)(f:Addr)(fd:XF):Prop where
 ex:∃(oc:X7) (od:Option Addr) (kV doc pm:X7) (an:Option Addr) (cdv ct:X7) (osl:Array (Option X7)),
  fd=UH x qual (JV st) (xo st) (zp st) .none kV doc pm an cdv ct/\K.lookup f=some ⟨oc,od,.func fd,osl⟩/\S1 K cdv qual=true
 kp:T1 K (.ref f)=true
section
variable {P:Xl}{w:WY}{K:XW}{mg:Str->Option X7}{base:Heap}
theorem cxK {CX P w K mg base N q sc f cd A o s H E}:(zf1 CX P w K mg base N q sc f cd A o s H E).K=K:=rfl
theorem cxP {CX P w K mg base N q sc f cd A o s H E}:(zf1 CX P w K mg base N q sc f cd A o s H E).prog=P:=rfl
theorem cxW {CX P w K mg base N q sc f cd A o s H E}:(zf1 CX P w K mg base N q sc f cd A o s H E).w=w:=rfl
def Fun.ok {x r:Str}{st:Stmt}{f:Addr}{J:XF}{N ps:AD}{k:Nat}{sp:Sp}(F:Fun K x r st f J)(S:zE N ps (zp st))(len:∀vs H Q E,sp vs H Q E->vs.length=ps.length)
  (D:∀(B:X7) (A:WK) (m:List Env) (s:X0) (H:Hp) (vs:AE) (Q:VK) (E:XK),JU k (A.deeper (Qb r (zp st) s.heap.objs.size f B))->sp vs H Q E ->
   ∃t,PSs (zf1 CX0 P w K mg base N r (zp st) f B A m s H E).nox (xo st) t/\t { nx:=λ_ L=>Q .non L,rt:=Q } (start N vs) H):zY P w K mg base CX0 (k+1) f J ps sp:=by
 obtain⟨oc,od,kV,doc,pm,Y,B,ct,U,rfl,O,G⟩:=F.ex;refine zpt O G S len λA m s H vs Q E M I=>?_;obtain⟨t,h,q⟩:=D B A m s H vs Q E M I;exact⟨t,h.nox,q⟩
def Fun.binds {x m:Str}{st:Stmt}{f:Addr}{D:XF}{ps:AD}(F:Fun K x m st f D)
  (h:∀(kV doc A:X7) (s:Option Addr) (r w:X7) (B:List X7),B.length=ps.length->bindArgs (UH x m (JV st) (xo st) (zp st) .none kV doc A s r w) ⟨B,[]⟩=pure (ps.zip B)):Binds K D ps []:=by
 obtain⟨J,L,kV,doc,A,s,r,w,G,rfl,I,E⟩:=F.ex;exact .all (h kV doc A s r w)
def zlM {x m:Str}{st:Stmt}{f:Addr}{D:X7}{E w:Option Addr}{s:Array (Option X7)}{kV doc B r A:X7}(l:K.lookup f=some ⟨D,E,.func (UH x m (JV st) (xo st) (zp st) .none kV doc B w r A),s⟩)
  (c:S1 K r m=true) (k:T1 K (.ref f)=true):Fun K x m st f (UH x m (JV st) (xo st) (zp st) .none kV doc B w r A):=⟨⟨D,E,kV,doc,B,w,r,A,s,rfl,l,c⟩,k⟩
end
section
variable {X:Cx}
def pv (i:Nat){x:Str}{pos:Pos}(r:X.N[i]?=some x:=by rfl)(hv:Vis X.env.scope x:=by first | exact VU rfl | exact Pn (VU rfl) | exact Pn (Pn rfl))(s:(x==("__debug__":Str))=false:=by decide)
  (m:(x==("__classdict__":Str))=false:=by decide):PE X (.Name x pos) (zrC i):=zp9 r hv s m
end
def Q4 {A B:Prop}(h:B):if false=true then A else B:=by
 rw[bq XT];exact h
def Q5 {A B:Prop}(h:A):if true=true then A else B:=by
 rw[bw rfl];exact h
def zcA {c A B:Prop} [Decidable c](m:c->A)(r:¬ c->B):if c then A else B:=by
 by_cases h:c
 .rw[bw h];exact m h
 .rw[bq h];exact r h
def zo (H m:Hp):Prop:=∀b o,H b=some o->m b=some o
def zo.refl (H:Hp):zo H H:=λ_ _ h=>h
def zo.trans {H m r:Hp}(a:zo H m)(b:zo m r):zo H r:=λc o h=>b c o (a c o h)
def zo.free {H m:Hp}(e:zo H m){l:Addr}(h:m l=Option.none):H l=Option.none:=by
 cases q:H l with
 | none=>rfl
 | some o =>
  rw[e l o q]at h;cases h
def zo.seq {K:XW}{H m:Hp}{a:Addr}{xs:AE}(e:zo H m)(h:SqL K H a xs):SqL K m a xs:=by
 rcases h with (h | ⟨o,h⟩) | h
 .exact .inl (.inl (e _ _ h))
 .exact .inl (.inr ⟨o,e _ _ h⟩)
 .exact .inr h
end L2
set_option maxHeartbeats 4000000
namespace L2
open PySem PySem.Spec PyProof.Rows
section
variable {X:Cx}
def Z1:OpR X (T4 .Mult) (rI Oc λi j=>.int (i*j)):=opI λ_ _ _ _ _ _ _ hc q=>mul_int q hc
def Jx (_ j:Int):Prop:=0<j/\j.natAbs.log2<9000
def j8:OpR X (T4 .FloorDiv) (rI Jx λi j=>.int (i/j)):=opI λi j _ _ _ _ _ hc q=>by
 have m:(0:Int)<j:=hc.1;exact floordiv_int (by lia) (by rw[Int.fdiv_eq_ediv_of_nonneg i (by lia)];exact q) (.inl (PyProof.noPylong_of_log2 hc.2))
def Jx.small {i j:Int}(h:0<j)(h':j<1073741824):Jx i j:=by
 refine⟨h,?_⟩;have m:j.natAbs≠0:=by lia
 have:j.natAbs.log2<30:=(Nat.log2_lt m).mpr (by lia);lia
def zrT {i j:Int}(m:-(2^64)<j)(r:j<2^64):Oc i j:=IntMulOk.of_right (intBits_le_64 m r)
def mulL {i j:Int}(m:-(2^64)<i)(r:i<2^64):Oc i j:=IntMulOk.of_left (intBits_le_64 m r)
def zrU {i j:Int}(r:i.natAbs<2^8000)(s:j.natAbs<2^8000):Oc i j:=IntMulOk.of_le (m:=8000) (n:=8000) (intBits_le_iff.mpr r) (intBits_le_iff.mpr s) (by decide)
def zrV (T U:String):Option Bool:=if (P9 T==P9 U)=true then some true else if PySem.W.kitMeta U=true then (fastBuiltinMro T).map (·.contains (.type U)) else none
def zqs (K:XW){T U:String}{b:Bool}(e:zrV T U=some b):PySem.W.kitOne K (.type T) (.type U)=some b:=e
def YR:qZ X (.builtin "isinstance") (λxs H Q=>∃x T U b,xs=[x,.ty U]/\zbb X.K H x (.type T)/\zrV T U=some b/\Q (.bl b) H):=by
 intro B s σ H xs D Q I r h;obtain⟨x,T,U,b,rfl,ty,e,q⟩:=h;obtain⟨u,E,rfl,w,m⟩:=vals2 r;cases m;exact zkl I w ty (zqs X.K e) λA=>⟨.bl b,H,I.tok A,rfl,q⟩
end
def j6 {b:Bool}{A B:Prop}(e:b=true)(h:A):if b=true then A else B:=by
 rw[bw e];exact h
def jk {b:Bool}{A B:Prop}(e:b=false)(h:B):if b=true then A else B:=by
 subst e;exact Q4 h
structure zk (K:XW)(mg:Str->Option X7)(x:Str)(st:Stmt)(ps:AD)(f:Addr)(fd:XF):Prop where
 F:Fun K x x st f fd
 g:mg x=some (.ref f)
 b:Binds K fd ps []
def YS {α:Type}{xs:List α}{i:Int}{v:α}(h:0<=i)(e:xs[i.toNat]?=some v):atI xs i=some v:=by
 have:=ja e;rwa [Se h]at this
def zsM (t u:TS):TS:=λD σ H=>∃M:St->Hp->Prop,t { D with nx:=M } σ H/\∀ m r,M m r->u D m r
def zfb {X:Cx}{st:Stmt}{m:List Stmt}{t u:TS}(E:PS X st t)(G:PSs X m u):PSs X (st::m) (zsM t u):=by
 intro A s σ H D I h;obtain⟨M,J,L⟩:=h;refine SC (thn (E A s σ H _ I J) λf s1 q=>?_);cases f with
 | next =>
  obtain⟨r,w,B,O⟩:=q;exact G A s1 r w D B (L r w O)
 | brk=>exact q
 | cont=>exact q
 | ret v=>exact q
def zc {H:Hp}{l:Addr}{o:HO}(h:H l=none):zo H (upd H l o):=λb u e=>by rw[zg (zj e h)];exact e
mutual
inductive Rdv (K:XW)(H:Hp):V->Wc->Prop
 | non:Rdv K H .non .none
 | bl (b:Bool):Rdv K H (.bl b) (.bool b)
 | int (i:Int):Rdv K H (.int i) (.int i)
 | str (x:Str):Rdv K H (.str x) (.str x)
 | lst {a:Addr} {xs:AE} {ds:List Wc}:SqL K H a xs->yH K H xs ds->Rdv K H (.ref a) (.list ds)
 | tup {a:Addr} {xs:AE} {ds:List Wc}:SqT K H a xs->yH K H xs ds->Rdv K H (.ref a) (.tuple ds)
inductive yH (K:XW)(H:Hp):AE->List Wc->Prop
 | nil:yH K H [] []
 | cons {x:V} {d:Wc} {xs:AE} {ds:List Wc}:Rdv K H x d->yH K H xs ds->yH K H (x::xs) (d::ds)
end
section
variable {X:Cx}{bz:List (Addr×Obj)}{σ:St}{H:Hp}{s:X0}
def zks {a:Addr}{xs:AE}{ds:List Wc}(I:Inv X bz σ H s)(hq:SqL X.K H a xs)(h:∀m,Vals xs m->∃as,Os s.heap m ds as):∀u,RelV (.ref a) u->∃as,Reads s.heap u (.list ds) as:=by
 intro u r;cases r;obtain⟨B,E,p,hz⟩:=I.list hq;obtain⟨as,D⟩:=h _ E;obtain⟨o,A,hc,n,w⟩:=p.isList;exact⟨_,.list A hc w (by simpa using D)⟩
def zkt {a:Addr}{xs:AE}{ds:List Wc}(I:Inv X bz σ H s)(hq:SqT X.K H a xs)(h:∀m,Vals xs m->∃as,Os s.heap m ds as):∀u,RelV (.ref a) u->∃as,Reads s.heap u (.tuple ds) as:=by
 intro u r;cases r;obtain⟨B,E,p,hz⟩:=I.tuple hq;obtain⟨as,D⟩:=h _ E;obtain⟨o,A,hc,n,w⟩:=p;exact⟨_,.tuple A hc w (by simpa using D)⟩
def zhM {v:V}{vs:AE}{d:Wc}{ds:List Wc}(h:∀u,RelV v u->∃as,Reads s.heap u d as)(t:∀m,Vals vs m->∃as,Os s.heap m ds as):∀m,Vals (v::vs) m->∃as,Os s.heap m (d::ds) as:=by
 intro m r;cases r with
 | cons w A =>
  obtain⟨as,B⟩:=h _ w;obtain⟨bs,D⟩:=t _ A;exact⟨_,.cons B D⟩
def Rdv.reads (I:Inv X bz σ H s){v:V}{d:Wc}{u:X7}(h:Rdv X.K H v d):RelV v u->∃as,Reads s.heap u d as :=
 Rdv.rec (motive_1:=λv d _=>∀u,RelV v u->∃as,Reads s.heap u d as) (motive_2:=λvs ds _=>∀m,Vals vs m->∃as,Os s.heap m ds as)
  (λu r=>by cases r;exact⟨_,.none⟩) (λb u r=>by cases r;exact⟨_,.bool b⟩) (λi u r=>by obtain⟨t,rfl⟩:=r;exact⟨_,.int i t⟩) (λx u r=>by obtain⟨t,rfl⟩:=r;exact⟨_,.str x t⟩)
  (λhq _ h=>zks I hq h) (λhq _ h=>zkt I hq h) (λm r=>by cases r;exact⟨_,.nil⟩) (λ_ _ h t=>zhM h t) h u
structure zf4 (x y:Wc):Prop where
 l1:x.canLay0=true
 l2:y.canLay0=true
 dp:x.depth<=64
def zn2 (K:XW)(neg:Bool):R2:=λx y H Q=>∃dx m,Rdv K H x dx/\Rdv K H y m/\zf4 dx m/\Q (.bl (if neg then !PyData.eqv dx m else WQ dx m)) H
def Jy (G:X.A.units+64<VD):OpR X (Wb .Eq) (zn2 X.K false):=by
 intro bz s σ H x y v u Q I w B h;obtain⟨dx,E,hx,hy,c,q⟩:=h;obtain⟨D,m⟩:=hx.reads I w;obtain⟨bs,r⟩:=hy.reads I B;have:=c.dp;exact SeqAt.compareEq_reads m r c.l1 c.l2 (by lia) ⟨.bl _,H,I,rfl,q⟩
def jy (G:X.A.units+64<VD):OpR X (Wb .NotEq) (zn2 X.K true):=by
 intro bz s σ H x y v u Q I w B h;obtain⟨dx,E,hx,hy,c,q⟩:=h;obtain⟨D,m⟩:=hx.reads I w;obtain⟨bs,r⟩:=hy.reads I B;have:=c.dp;exact SeqAt.compareNe_reads m r c.l1 c.l2 (by lia) ⟨.bl _,H,I,rfl,q⟩
def zn3 (K:XW)(neg:Bool):R2:=λx y H Q=>∃d ds,Rdv K H x d/\Rdv K H y (.list ds)/\d.canLay0=true/\WR ds=true/\d.depth<=60/\Q (.bl (if neg then !ds.any (λz=>WQ z d) else ds.any λz=>WQ z d)) H
def zcB (J:X.A.units+64<VD):OpR X (Wb .In) (zn3 X.K false):=by
 intro bz s σ H x y v u Q I B D h;obtain⟨d,ds,hx,hy,c1,m,G,q⟩:=h;obtain⟨E,r⟩:=hx.reads I B;obtain⟨bs,w⟩:=hy.reads I D;exact SeqAt.in_list_reads w r m c1 (by lia) ⟨.bl _,H,I,rfl,q⟩
def zdO (J:X.A.units+64<VD):OpR X (Wb .NotIn) (zn3 X.K true):=by
 intro bz s σ H x y v u Q I B D h;obtain⟨d,ds,hx,hy,c1,m,G,q⟩:=h;obtain⟨E,r⟩:=hx.reads I B;obtain⟨bs,w⟩:=hy.reads I D;exact SeqAt.notIn_list_reads w r m c1 (by lia) ⟨.bl _,H,I,rfl,q⟩
end
def jz (X:Cx)(N:AD)(scope:Uw)(cl:List (Str×Addr))(C:Addr)(fp:List Addr)(bz:List (Addr×Obj))(s:X0)(H:Hp):Cx where
 prog:=X.prog
 w:=X.w
 K:=X.K
 mg:=X.mg
 base:=X.base
 A:=X.A
 N:=N
 s₀:=s
 H₀:=H
 env:=compEnvC scope cl C X.env
 outer:=X.stack
 stack:=X.stack
 ex:=fp
 fn:=λ_=>false
 calm:=X.calm
 pn:=X.pn++bz
 xe:=λ_ _=>False
def pull (m:List (Option Nat))(σ:St):St:=m.map λo=>match o with
 | some j=>(σ[j]?).getD none
 | none=>none
structure yI (X:Cx)(N:AD)(src:List (Option Nat))(scope:Uw)(cl:List (Str×Addr)):Prop where
 kind:scope.kind=.function
 nocell:∀y∈scope.names,y.2 ≠ .cell
 names:∀y∈scope.names,y.2=.local->scope.names.lookup y.1=some .local
 clos:Oz scope X.env=pure cl
 sub:∀x c,cl.lookup x=some c->X.env.cells.lookup x=some c
 has:∀x,((Uz scope X.env).names.lookup x=some .cell\/(Uz scope X.env).names.lookup x=some .free)->∃c,cl.lookup x=some c
 len:src.length=N.length
 pulls:∀(i j:Nat) (x:Str),N[i]?=some x->src[i]?=some (some j)->X.N[j]?=some x/\(X.env.kindOf x=some .cell\/X.env.kindOf x=some .free)/\((Uz scope X.env).names.lookup x=some .cell\/(Uz scope X.env).names.lookup x=some .free)
def zdP {m:Uw}{r:Env}(s:∀y∈m.names,y.2 ≠ .free):(Uz m r).names=m.names:=by
 show m.names.map _=m.names;refine map_eq_self λx hx=>?_;obtain⟨n,k⟩:=x;have:(k==NameKind.free)=false:=by simpa using s _ hx
 simp[this]
def yI.plain {X:Cx}{N:AD}{src:List (Option Nat)}{scope:Uw}(kind:scope.kind=.function)(nocell:∀y∈scope.names,y.2 ≠ .cell)(nofree:∀y∈scope.names,y.2 ≠ .free)
  (names:∀y∈scope.names,y.2=.local->scope.names.lookup y.1=some .local) (len:src.length=N.length) (none:∀o∈src,o=none):yI X N src scope [] where
 kind:=kind
 nocell:=nocell
 names:=names
 clos:=closureFor_none nofree
 sub:=λx c h=>nomatch h
 has:=λx h=>by
  rw[zdP nofree]at h;rcases h with h | h
  .exact absurd rfl (nocell _ (Wt h))
  .exact absurd rfl (nofree _ (Wt h))
 len:=len
 pulls:=λi j x _ h=>by
  have:=none _ (X4 h);cases this
def zb3 (X:Cx)(m:List Expr)(t:TT):Prop :=
 ∀(B:List (Addr×Obj)) (s:X0) (σ:St) (H:Hp) (Q:Bool->Hp->Prop),Inv X B σ H s->t σ H Q ->
  Xg (Xi X.prog X.w) X.A (forIn m true λc r=>if r=true then do let ok <- isTrue c X.env (eval c X.env);pure (V1 ok) else pure (V1 r)) (TP X B σ Q) X.xe s
def zlN:TT:=λ_ H Q=>Q true H
def qo {X:Cx}:zb3 X [] zlN:=λ_ _ _ H _ I h=>wpAny_tests_nil ⟨H,I,h⟩
def qI {X:Cx}{c:Expr}{t:TT}(h:PT X c t):zb3 X [c] t:=λm s σ H Q I hq=>wpAny_tests_one (h m s σ H Q I hq)
def yJ (J:It)(g:TG)(Y:TT)(te:TE)(Q:VK)(D:Addr)(E:St)(O:Hp):Prop :=
 ∃W:Nat->Nat->St->Hp->Prop,(∃m,W 0 m E O)/\∀i m B w,W i m B w ->
  (J.stop i w/\Q (.ref D) w)\/(J.go i w/\∃N:St->Hp->Prop,(∀ s A,N s A->∃M,M<m/\W (i+1) M s A) /\
   ∀x G,J.yld i w x G->g x B G fun r U=>Y r U λb I=>if b=true then te r I λy L=>∃ys,L D=some (.lst ys)/\ys.length<Xv/\N r (upd L D (.lst (ys++[y]))) else N r I)
def zbI (A:TI)(m:List (Option Nat))(g:TG)(s:TT)(w:TE):TE:=fun σ H Q=>A σ H λJ r=>∀D,r D=none->yJ J g s w Q D (pull m σ) (upd r D (.lst []))
def Un.but {fs w:List Addr}{H s:Hp}{h A B:Heap}{C:Addr}(u:Un fs w H s h A)(D:h.objs.size<=C)(sb:V5 C A B):Un fs w H s h B:=by
 have r:∀b o,h.get? b=some o->b≠C:=λb o e=>Xf (Xj (Xz e) D);refine⟨λb o e n m hx=>(sb.2 b (r b o e)).trans (u.keep b o e n m hx),λb o e n m hx=>?_,u.free,λb o e hx=>?_,u.tups,u.frzs,u.tbls⟩
 .obtain⟨G,q⟩:=u.slot b o e n m hx;exact⟨G,(sb.2 b (r b o e)).trans q⟩
 .obtain⟨E,q⟩:=u.there b o e hx;exact⟨E,(sb.2 b (r b o e)).trans q⟩
def HOk.but {P:Xl}{w:WY}{H:Hp}{h h':Heap}{C:Addr}(ok:HOk P w H h)(hn:H C=none)(sb:V5 C h h'):HOk P w H h':=λb m e=>by
 refine(ok b m e).stay (λc r hc q=>(sb.2 c ?_).trans q) (λ_ q=>q) λ_ _ q=>q;rintro rfl;rcases hc with rfl | hc
 .rw[hn]at e;cases e
 .rw[hn]at hc;cases hc
section
variable {X:Cx}{tg iter elt:Expr}{ifs:List Expr}{scope:Uw}{pos:Pos}{N:AD}{src:List (Option Nat)}{cl:List (Str×Addr)}{wi:TI}{g:TG}{tc:TT}{te:TE}
def zhN {E:List (Addr×Obj)}{σ:St}{H:Hp}{s:X0}{fp:List Addr}{G:Heap}{C:Addr}{tk:Nat}(ok:yI X N src scope cl)(I:Inv X E σ H s)(M:∀b∈fp,zao X E H b)(ho:∀b∈fp,∃o,s.heap.get? b=some o)
  (U:C=s.heap.objs.size+1) (k:∀b u,s.heap.get? b=some u->G.get? b=some u) (hD:G.get? s.heap.objs.size=some { cls:=.type "list",data:=.seq #[] }) {m:Str->Option X7} (hn:G.Ns C m) :
  Inv (jz X N scope cl C fp E s H) [] (pull src σ) (upd H s.heap.objs.size (.lst [])) { s with heap:=G,toks:=tk }:=by
 have lt:∀b o,s.heap.get? b=some o->b<s.heap.objs.size:=λb o e=>Xz e;have nC:∀b o,s.heap.get? b=some o->b≠C:=λb o e=>by rw[U];exact Xf (Wf (lt b o e))
 have nD:∀b o,s.heap.get? b=some o->b≠s.heap.objs.size:=λb o e=>Xf (lt b o e);have fr:∀b,s.heap.objs.size<=b->H b=none:=λb D=>I.hok.fresh D;have L:∀b,b≠X.env.locals->b ∉ X.fs->b ∉ frs X.stack:=λb G h2 z=>(XQ.mp (I.stkSub b z)).elim G h2;have sub:=ok.sub;refine⟨⟨I.ok.mod,ok.kind,I.ok.glob,I.ok.blt,by rw[show (jz X N scope cl C fp E s H).env.locals=C from rfl,U];exact VO _,λx y c A w=>I.ok.inj x y c (sub x c A) (sub y c w),ok.has,(λx c z _=>nomatch z),I.ok.hd,I.ok.frames,.inl rfl,λb D=>?_,I.bs,XY I.ok.bsz I.sz,λb o e D=>?_,λb D hz=>?_,I.stack,I.stkFree⟩,rfl,I.bare,Un.laid k (XR _) (fr _ (XR _)),⟨m,hn,λi x v A w e3=>?_⟩,λx c e=>?_,?_,λx c e=>?_,λp hp=>?_,I.hok.laid k (XR _) ⟨W3 _,[],0,.nil,hD⟩,?_⟩
 .obtain⟨o,e⟩:=ho b D;exact⟨nC b o e,λx c z=>(M b D).2.2.2.2.1 x c (sub x c z)⟩
 .rcases(M b D).2.2.2.1 with z | z
  .exact I.ok.noex b o e z
  .exact absurd (Xj (Xz (I.ok.bs b o e).1) z) (VL _)
 .exact L b (M b D).2.1 (M b D).2.2.1 hz
 .have hi:i<src.length:=by
   have:=(XV.mp w).1;unfold pull at this;rw[ZB]at this;exact this
  unfold pull at w;rw[XC,XX hi]at w;cases q:src[i] with
  | none=>rw[q]at w;cases w
  | some j =>
   rw[q]at w;have B:(σ[j]?).getD none=some v:=Option.some.inj w;have O:σ[j]?=some (some v):=by
    cases z:σ[j]? with
    | none=>rw[z]at B;cases B
    | some o=>rw[z]at B;exact congrArg some B
   obtain⟨p1,p2,p3⟩:=ok.pulls i j x A (by rw[XX hi,q]);obtain⟨m',ac,hl⟩:=I.loc;obtain⟨u,r,l⟩:=hl j x v p1 O (by
    rcases p2 with z | z
    .exact .inr (.inl z)
    .exact .inr (.inr z))
   refine⟨u,r,.inr ⟨p3,?_⟩⟩;obtain⟨c,hc⟩:=ok.has x p3;refine⟨c,hc,?_⟩;rcases l with ⟨z,_⟩ | ⟨_,c',J,o,aa,Y⟩
   .rcases p2 with y | y<;>rw[z]at y<;>cases y
   .rw[sub x c hc]at J;cases J;exact⟨o,k _ o aa,Y⟩
 .obtain⟨v,o,A,w⟩:=I.cell x c (sub x c e);exact⟨v,o,k c o A,w⟩
 .show upd H s.heap.objs.size (.lst []) C=none;rw[U,zg (UX _)];exact fr _ (VO _)
 .show upd H s.heap.objs.size (.lst []) c=none;obtain⟨v,o,A,w⟩:=I.cell x c (sub x c e);rw[zg (nD c o A)];exact I.zV x c (sub x c e)
 .have ab:p∈X.pn++E:=by
   have:p∈(X.pn++E)++[]:=hp;simpa using this
  obtain⟨A,w,e3,O,e5⟩:=I.pin p ab;refine⟨k _ _ A,?_,nC _ _ A,L _ e3 O,e5⟩;show upd H s.heap.objs.size (.lst []) p.1=none;rw[zg (nD _ _ A)];exact w
 .unfold pull;rw[ZB];exact ok.len
def zku {Y:Cx}{D it:Addr}{fp:List Addr}{tn:Nat->Heap->Prop}{J:It}{ai:St}{H0:Hp}{s:X0}{Q:VK}{R:On->X0->Prop}(B:Y.calm=true)(hx:∀{x s},Y.xe x s->notedBy (Xi Y.prog Y.w) Y.A Y.env (λx s=>R (.error x) s) x s)(T:Turn Y.prog Y.w Y.K tg J fp it tn)(hg:PG Y tg g)(hc:zb3 Y ifs tc)(he:PE Y elt te)
  (q:yJ J g tc te Q D ai H0) (E:∀{L:Hp},(∀b∈fp,L b=none)->∀b∈fp,zao Y [] L b) (I0:Inv Y [] ai H0 s) (ae:tn 0 s.heap) (al:∀b∈fp,H0 b=none)
  (ak:∀f σ H s',Inv Y [] σ H s'->Q (.ref D) H->R (.ok f) s'):S6 (Xi Y.prog Y.w) Y.A (.compStart (.ListComp elt [⟨tg,iter,ifs,0⟩] scope pos) 0 (.ref it) (.ref D) Y.env) R s:=by
 obtain⟨W,⟨m0,w0⟩,ah⟩:=q;have U:S6 (Xi Y.prog Y.w) Y.A (.compLoop (.ListComp elt [⟨tg,iter,ifs,0⟩] scope pos) 0 (.ref it) (.ref D) Y.env) R s:=by
  refine codeAny_loop rfl (λn s'=>∃i G L,Inv Y [] G L s'/\tn i s'.heap/\(∀b∈fp,L b=none)/\W i n G L) ?_ m0 ⟨0,_,_,I0,ae,al,w0⟩;refine λn s3=>dJ λi M H3 I3 af ab w3=>?_;show Xg _ Y.A ((compTurn (.ListComp elt [⟨tg,iter,ifs,0⟩] scope pos) 0 (.ref it) (.ref D) Y.env).onRaise (λx=>do noteFrame x Y.env;theTreesLotGoes x)) _ _ s3;refine wpAny_noted ?_;rw[compTurn_list];rcases ah i n M H3 w3 with ⟨ag,qn⟩ | ⟨go,N',hN,step⟩
  .refine X9 (Ry (X9 (thn (T.done Y rfl rfl rfl B i [] s3 M H3 _ I3 (E ab) af ag) λr s4 ⟨hr,I4⟩=>?_)));subst hr;exact XO (ak _ _ _ _ I4 qn)
  .refine X9 (Ry (X9 (thn (T.item Y rfl rfl rfl B i [] s3 M H3 _ I3 (E ab) af go) λr s4 ⟨u,hr,h4⟩=>?_)));subst hr;dsimp only;refine X9 (thn h4 λ_ s5 ⟨x,H5,I5,r5,y5,aa,am⟩=>?_);have aj:=I5.pinned (E am) (T.obj _ _ aa);refine X9 (Vo (hg _ s5 M H5 x u _ aj r5 (step x H5 y5)) (λ_ s6 ⟨O,H6,I6,q6⟩=>?_) λ_ _ z=>hx z);have Oj:∀{s7:X0} {I:St} {H7:Hp},Inv Y ([]++zcv fp s5.heap) I H7 s7->N' I H7->∃m,m<n/\∃i G L,Inv Y [] G L s7/\tn i s7.heap/\(∀b∈fp,L b=none)/\W i m G L:=λ{s7 I H7} I7 n7=>by
    obtain⟨m',hm,w7⟩:=hN I H7 n7;refine⟨m',hm,i+1,I,H7,I7.unpinned,T.keep _ _ _ aa λb hb o e=>(I7.pin (b,o) (WZ _ (WZ _ (ZZ hb e)))).1,λb hb=>?_,w7⟩;obtain⟨o,e,d⟩:=T.obj _ _ aa b hb;exact(I7.pin (b,o) (WZ _ (WZ _ (ZZ hb e)))).2.1
   refine X9 (Vo (hc _ s6 O H6 _ I6 q6) (λb s7 ⟨H7,I7,q7⟩=>?_) λ_ _ z=>hx z);cases b with
   | false =>
    rw[bq XT]at q7;exact XO ⟨rfl,Oj I7 q7⟩
   | true =>
    rw[bw rfl]at q7;refine X9 (X9 (Vo (he _ s7 O H7 _ I7 q7) (λy s8 ⟨v8,H8,I8,r8,ys,an,ac,q8⟩=>?_) λ_ _ z=>hx z));refine X9 (Vo (Jq (X:=Y) _ s8 O H8 (.ref D) [v8] (.ref D) [y] (λ_ H9=>N' O H9) I8 rfl (.cons r8 .nil) ⟨_,ys,v8,rfl,rfl,an,ac,q8⟩) (λ_ s9 ⟨v9,H9,I9,_,q9⟩=>?_) λ_ _ z=>hx z);exact XO (XO ⟨rfl,Oj I9 q9⟩)
 exact codeAny_compStart_list U (T.self _ 0 _ _ _ ae U)
abbrev cY (X:Cx)(N:AD)(scope:Uw)(cl:List (Str×Addr))(C:Addr)(fp:List Addr)(bz:List (Addr×Obj))(s:X0)(H:Hp)(fn:Str->Bool)(xe:X7->X0->Prop):Cx:={ jz X N scope cl C fp bz s H with fn:=fn,xe:=xe }
def zn4 (X:Cx)(N:AD)(scope:Uw)(s:List (Addr×Obj))(σ:St)(use:Option (X7->Sem Unit))(R:X7->X0->Prop)(Q:VK):Prop:=∀{cl E m r C D G f I J B},C=m.heap.objs.size+1->Inv X s σ r m->(∀b∈E,zao X s r b)->Inv (cY X N scope cl C E s m r I J) [] B D G->Q (.ref m.heap.objs.size) D->compPost (Xi X.prog X.w) X.A X.xe use R (.ref m.heap.objs.size) C (.ok f) G
def zpu {A:List (Addr×Obj)}{σ:St}{Q:VK}:zn4 X N scope A σ none (EP X A σ Q) Q:=by
 intro cl E L U C B M f Y xe O I D s r J;obtain⟨m,hm,_⟩:=r.loc;refine⟨m,hm,λG sb=>⟨.ref L.heap.objs.size,B,?_,rfl,J⟩⟩;exact D.call' (s':={ M with heap:=G }) (ch:=E) r.os (Un.but r.base (by rw[I];exact VO _) sb) (HOk.but r.hok r.free sb) r.bare λb w=>⟨(s b w).2.2.2.1,(s b w).2.1,(s b w).2.2.2.2.1,(s b w).2.2.2.2.2⟩
def zf5 {E:List (Addr×Obj)}{σ:St}{D:Hp}{m:X0}{R:On->X0->Prop}{Q:VK}{it C:Addr}{fp:List Addr}{tn:Nat->Heap->Prop}{J:It}{B:Heap}{tk:Nat}{L:Str->Bool}{I:X7->X0->Prop}{U:St}(hC:C=m.heap.objs.size+1)(G:X.calm=true)
  (hx:∀{x s},I x s->notedBy (Xi X.prog X.w) X.A (compEnvC scope cl C X.env) (λx s=>R (.error x) s) x s) (hg:PG (cY X N scope cl C fp E m D L I) tg g) (hc:zb3 (cY X N scope cl C fp E m D L I) ifs tc) (he:PE (cY X N scope cl C fp E m D L I) elt te) (I2:Inv X E σ D m) (T:Turn X.prog X.w X.K tg J fp it tn) (O:tn 0 m.heap) (M:∀b∈fp,zao X E D b)
  (q2:yJ J g tc te Q m.heap.objs.size U (upd D m.heap.objs.size (.lst []))) (k:∀b u,m.heap.get? b=some u->B.get? b=some u) (own:∀x c,cl.lookup x=some c->X.env.cells.lookup x=some c\/C<=c)
  (I0:(∀b∈fp,∃o,m.heap.get? b=some o)->Inv (cY X N scope cl C fp E m D L I) [] U (upd D m.heap.objs.size (.lst [])) { m with heap:=B,toks:=tk }) (aa:∀f σ H s4,Inv (cY X N scope cl C fp E m D L I) [] σ H s4->Q (.ref m.heap.objs.size) H->R (.ok f) s4) :
  S6 (Xi X.prog X.w) X.A (.compStart (.ListComp elt [⟨tg,iter,ifs,0⟩] scope pos) 0 (.ref it) (.ref m.heap.objs.size) (compEnvC scope cl C X.env)) R { m with heap:=B,toks:=tk }:=by
 have ho:∀b∈fp,∃o,m.heap.get? b=some o:=λb r=>let ⟨o,e,_⟩:=T.obj 0 _ O b r;⟨o,e⟩
 have lt:∀b∈fp,b<m.heap.objs.size:=λb r=>let ⟨_,e⟩:=ho b r;Xz e
 refine zku (Y:=cY X N scope cl C fp E m D L I) G hx T hg hc he q2 (λ{H'} hn b r=>⟨hn b r,?_,λz=>(XQ.mp (I2.stkSub b z)).elim (M b r).2.1 (M b r).2.2.1,.inl r,λx c z=>?_,λp hp=>?_⟩) (I0 ho) (T.keep 0 _ _ O λb _ o e=>k b o e) (λb r=>?_) aa
 .show b≠C;rw[hC];exact Xf (Wf (lt b r))
 .rcases own x c z with z | z
  .exact(M b r).2.2.2.2.1 x c z
  .rw[hC]at z;exact TV (Xj (Wf (lt b r)) z)
 .have ab:p∈X.pn++E:=by
   have:p∈(X.pn++E)++[]:=hp;simpa using this
  exact(M b r).2.2.2.2.2 p ab
 .rw[zg (Xf (lt b r))];exact(M b r).1
def zqt {h m:Heap}(sb:V5 (h.push { cls:=.type "list",dict:=none,data:=.seq ([]:List X7).toArray }).objs.size ((h.push { cls:=.type "list",dict:=none,data:=.seq ([]:List X7).toArray }).push { cls:=.type "dict",data:=.dict #[] }) m):(h.push { cls:=.type "list",dict:=none,data:=.seq ([]:List X7).toArray }).objs.size=h.objs.size+1/\(∀b u,h.get? b=some u->m.get? b=some u)/\m.get? h.objs.size=some { cls:=.type "list",data:=.seq #[] }:=by
 generalize hP:h.push { cls:=.type "list",dict:=none,data:=.seq ([]:List X7).toArray }=P2 at sb ⊢;have r:P2.objs.size=h.objs.size+1:=by rw[<- hP,UR]
 exact⟨r,λb u e=>(sb.2 b (by rw[r];exact Xf (Wf (Xz e)))).trans (XS _ (hP ▸ XS _ e)),(sb.2 _ (by rw[r];exact(UX _).symm)).trans (XS _ (hP ▸ W1 _ rfl))⟩
section
variable {bz:List (Addr×Obj)}{σ:St}{H:Hp}{s:X0}{use:Option (X7->Sem Unit)}{R:X7->X0->Prop}{Q:VK}{p2:Pos}
def zf6 (ok:yI X N src scope cl)(B:X.calm=true)(hi:PI X tg iter wi)
  (hg:∀C fp bz s H,PG (jz X N scope cl C fp bz s H) tg g) (hc:∀C fp bz s H,zb3 (jz X N scope cl C fp bz s H) ifs tc) (he:∀C fp bz s H,PE (jz X N scope cl C fp bz s H) elt te)
  (hs:∀x,VM iter X.env x=pure x) (I:Inv X bz σ H s) (h:zbI wi src g tc te σ H Q) (G:zn4 X N scope bz σ use R Q):Xg (Xi X.prog X.w) X.A (OJ (.ListComp elt [⟨tg,iter,ifs,0⟩] scope pos) scope X.env p2 (newList []) false (eval iter X.env) use) R X.xe s:=by
 refine Ru (use:=use) rfl hs ok.clos ok.kind ok.names (thn (hi bz s σ H _ I h) λxv s1 Y=>thn Y λaa s2 h2=>?_);revert h2;refine dQ λit fp tn J H2=>dh λe D T M E q2=>?_;subst e;refine Vz (wpAny_newFunctionEnv ok.nocell (by intro y hy;simp at hy) (λO m r=>?_) ok.kind);dsimp only at m r ⊢;obtain⟨L,k,hD⟩:=zqt r;exact zf5 L B (λz=>z.elim) (hg _ _ _ _ _) (hc _ _ _ _ _) (he _ _ _ _ _) D T M E (q2 _ (D.hok.fresh (XR _))) k (λx c z=>.inl (ok.sub x c z)) (λho=>zhN ok D E ho L k hD m) λ_ _ _ _ U qn=>G L D E U qn
end
def zn5 (ok:yI X N src scope cl)(m:X.calm=true)(hi:PI X tg iter wi)
  (w:∀C fp r s H,PG (jz X N scope cl C fp r s H) tg g) (hc:∀C fp r s H,zb3 (jz X N scope cl C fp r s H) ifs tc) (he:∀C fp r s H,PE (jz X N scope cl C fp r s H) elt te)
  (A:∀x,VM iter X.env x=pure x:=by intro _;rfl):PE X (.ListComp elt [⟨tg,iter,ifs,0⟩] scope pos) (zbI wi src g tc te):=λ_ _ _ _ _ I h=>zf6 ok m hi w hc he A I h zpu
end
section
variable {K:XW}{src:List (Option Nat)}{g:TG}{tc:TT}{te:TE}{Q:VK}{σ:St}{H:Hp}{D:Addr}
def qv {a:Addr}{xs:AE}(Pv:Nat->St->Hp->Prop)(h0:Pv 0 σ H)(hl:∀i σ H,i<=xs.length->Pv i σ H->SqL K H a xs)
  (I:∀i x σ H,xs[i]?=some x->Pv i σ H->g x σ H fun r E=>tc r E λb w=>if b=true then te r w λy A=>∃ys,A D=some (.lst ys)/\ys.length<Xv/\Pv (i+1) r (upd A D (.lst (ys++[y]))) else Pv (i+1) r w)
  (G:∀ σ H,Pv xs.length σ H->Q (.ref D) H):yJ (Itl K a) g tc te Q D σ H:=by
 refine⟨λi m σ H=>m=xs.length-i/\i<=xs.length/\Pv i σ H,⟨xs.length,by simp,W3 _,h0⟩,?_⟩;rintro i m σ H ⟨rfl,hi,p⟩;have q:=hl i σ H hi p;by_cases s:i<xs.length
 .refine .inr ⟨⟨xs,xs[i],q,by simp[s]⟩,Pv (i+1),fun L B J=>⟨xs.length-(i+1),by lia,rfl,s,J⟩,λx B y=>?_⟩;obtain⟨e,y⟩:=y;subst e;exact I i x σ _ (y xs q) p
 .have e:i=xs.length:=by lia
  subst e;exact .inl ⟨⟨xs,q,XR _⟩,G σ H p⟩
def zhO {lo:Int}{n:Nat}(Pv:Nat->St->Hp->Prop)(h0:Pv 0 σ H)
  (I:∀i σ H,i<n->Pv i σ H->g (.int (lo+i)) σ H fun r E=>tc r E λb w=>if b=true then te r w λy A=>∃ys,A D=some (.lst ys)/\ys.length<Xv/\Pv (i+1) r (upd A D (.lst (ys++[y]))) else Pv (i+1) r w)
  (G:∀ σ H,Pv n σ H->Q (.ref D) H):yJ (Itr lo n) g tc te Q D σ H:=by
 refine⟨λi m σ H=>m=n-i/\i<=n/\Pv i σ H,⟨n,by simp,W3 _,h0⟩,?_⟩;rintro i m σ H ⟨rfl,hi,p⟩;by_cases s:i<n
 .refine .inr ⟨s,Pv (i+1),fun L B J=>⟨n-(i+1),by lia,rfl,s,J⟩,λx B y=>?_⟩;obtain⟨e,y⟩:=y;subst e y;exact I i σ _ s p
 .have e:i=n:=by lia
  subst e;exact .inl ⟨XR _,G σ H p⟩
end
theorem zf7 {K:XW}{H:Hp}:∀rs:AD,yH K H (rs.map V.str) (rs.map U8)
 | []=>.nil
 | t::r=>.cons (.str t) (zf7 r)
section
variable {X:Cx}{K:XW}
def Qv {a:Expr}{r:TE}(s:X.K=K)(ha:PE X a r)(he:∀whole,isTrue a X.env whole=(do let v <- whole;standAt a.pos;OX [v] (truthy v))) :
  PT X a (fun σ H Q=>r σ H λx m=>∃k,zqj K x m k/\Q k m):=by
 subst s;exact yF ha he
def zn6 (m:X.K=K):IxR X (zrP K):=by
 subst m;exact qP
def zf8 (m:X.K=K)(r:X.A.units+64<VD):OpR X (Wb .Eq) (zn2 K false):=by
 subst m;exact Jy r
def zf9 (m:X.K=K)(r:X.A.units+64<VD):OpR X (Wb .NotEq) (zn2 K true):=by
 subst m;exact jy r
def jN (m:X.K=K)(r:X.A.units+64<VD):OpR X (Wb .In) (zn3 K false):=by
 subst m;exact zcB r
def YT (m:X.K=K)(r:X.A.units+64<VD):OpR X (Wb .NotIn) (zn3 K true):=by
 subst m;exact zdO r
def zi5 {m:List Expr}{k:Nat}{t:TGs}{n:Nat}{pos:Pos}(s:X.K=K)(hc:X.calm=true)(h:PGs X m t)
  (hn:(Tj m X.env).length=n:=by rfl) (r:(Tj m X.env).findIdx? (·.1)=none:=by rfl):PG X (.Tuple m k pos) (zrH K n t):=by
 subst s;exact xW hc h hn r
end
section
variable {fs ch:List Addr}{H:Hp}{h h':Heap}{a:Addr}{o:HO}
def Un.laidX (k:∀b u,b ∉ ch->h.get? b=some u->h'.get? b=some u)(hp:h.objs.size<=a)(hn:H a=none):Un fs ch H (upd H a o) h h' where
 keep:=λb u q _ _ hx=>k b u hx q
 slot:=λb u q _ _ hx=>⟨u.slots,k b u hx q⟩
 free:=λb u q n _=>by rw[zg (Xf (Xj (Xz q) hp))];exact n
 there:=λb u q hx=>⟨u,k b u hx q⟩
 tups:=λb xs q=>by rw[zg (zj q hn)];exact q
 frzs:=λb u xs q=>by rw[zg (zj q hn)];exact q
 tbls:=λb ps q=>⟨#[],by rw[zg (zj q hn),q];simp⟩
def Un.keptX (k:∀b u,b ∉ ch->h.get? b=some u->h'.get? b=some u):Un fs ch H H h h' :=
 ⟨λb m q _ _ hx=>k b m hx q,λb m q _ _ hx=>⟨m.slots,k b m hx q⟩,λ_ _ _ n _=>n,λb m q hx=>⟨m,k b m hx q⟩,λ_ _ q=>q,λ_ _ _ q=>q,λ_ ps q=>⟨#[],by rw[q];simp⟩⟩
def HOk.keptX {P:Xl}{w:WY}(x:HOk P w H h)(k:∀b u,b ∉ ch->h.get? b=some u->h'.get? b=some u)(m:∀b∈ch,H b=none):HOk P w H h':=λb u e=>by
 refine(x b u e).stay (λc v hc q=>k c v (λz=>?_) q) (λ_ q=>q) λ_ _ q=>q;have n:=m c z;rcases hc with rfl | hc
 .rw[n]at e;cases e
 .rw[n]at hc;cases hc
def HOk.laidX {P:Xl}{w:WY}(x:HOk P w H h)(k:∀b u,b ∉ ch->h.get? b=some u->h'.get? b=some u)(m:∀b∈ch,H b=none)(A:h.objs.size<=a)(r:qN P w (upd H a o) h' a o):HOk P w (upd H a o) h':=λb u e=>by
 have hn:=x.fresh A;by_cases s:b=a
 .subst s;rw[zb]at e;cases e;exact r
 .rw[zg s]at e;refine(x b u e).stay (λc v hc q=>k c v (λz=>?_) q) (λc q=>by rw[zg (zj q hn)];exact q) λc xs q=>by rw[zg (zj q hn)];exact q
  have n:=m c z;rcases hc with rfl | hc
  .rw[n]at e;cases e
  .rw[n]at hc;cases hc
end
section
variable {X:Cx}{bz:List (Addr×Obj)}{s:X0}{σ:St}{H:Hp}{E:X7->X0->Prop}{fp wr FP:List Addr}{elts:List Expr}{k:Nat}{pos:Pos}{e:Addr}{n i:Nat}{Pt:Nat->Array X7->Prop}{Sn:Nat->Heap->Prop}{Mid:Nat->Addr->Heap->Prop}{J:It}{tn:Nat->Heap->Prop}
def zlO (I:Inv X bz σ H s)(hf:∀b∈fp,zao X bz H b)(ho:∀b∈fp,∃o,s.heap.get? b=some o)(O:∀b∈wr,b∈fp)(W:WalksT X.prog X.w X.A e FP wr n Pt Sn Mid)(hi:i<n)(st:Sn i s.heap)
  (y:∀T B,H T=none->Pt i B->∃vs,Vals vs B.toList/\vs.length<=Xv/\J.yld i H (.ref T) (upd H T (.tup vs))) (nx:∀D,Sn (i+1) D->tn (i+1) D) :
  Xg (Xi X.prog X.w) X.A (R3 (.ref e)) (λr s1=>∃u,r=some u /\
   Xg (Xi X.prog X.w) X.A (Si (.Tuple elts k pos) (.ref e) u) (λ_ s2=>∃x H',Inv X bz σ H' s2/\RelV x u/\J.yld i H x H'/\tn (i+1) s2.heap/\∀b∈fp,H' b=none) E s1) E s:=by
 refine W.item i s _ E hi st λT B h' tk hP G hT hm kk=>⟨.ref T,rfl,?_⟩;have hn:H T=none:=I.hok.fresh G;obtain⟨vs,hv,hl,hy⟩:=y T B hn hP;refine W.go elts k pos i T { s with heap:=h',toks:=tk } _ E hm λD Y U=>?_;have k2:∀b o,b ∉ wr->s.heap.get? b=some o->D.get? b=some o:=λb o L e=>U b o L (kk b o L e);have M:Og D T B:=by
  obtain⟨o,e1,c,m,d⟩:=hT;exact⟨o,U T o (W.apart i T _ hm) e1,c,m,d⟩
 have aa:∀b∈wr,H b=none:=λb L=>(hf b (O b L)).1;refine⟨.ref T,upd H T (.tup vs),?_,rfl,hy,nx _ Y,λb L=>?_⟩
 .exact I.call' (s':={ s with heap:=D,toks:=tk }) (ch:=wr) rfl (Un.laidX k2 G hn) (HOk.laidX I.hok k2 aa G ⟨hl,B.toList,hv,by simpa using M⟩) I.bare λb L=>let f:=hf b (O b L);⟨f.2.2.2.1,f.2.1,f.2.2.2.2.1,f.2.2.2.2.2⟩
 .obtain⟨o,e1⟩:=ho b L;rw[zg (Xf (Xj (Xz e1) G))];exact(hf b L).1
def zlP (I:Inv X bz σ H s)(D:∀b∈fp,zao X bz H b)(m:∀b∈wr,b∈fp)(W:WalksT X.prog X.w X.A e FP wr n Pt Sn Mid)(st:Sn n s.heap) :
  Xg (Xi X.prog X.w) X.A (R3 (.ref e)) (λr s1=>r=none/\Inv X bz σ H s1) E s :=
 W.done s _ E st λJ L G=>⟨rfl,I.call' (s':={ s with heap:=J,toks:=L }) (ch:=wr) rfl (Un.keptX G) (HOk.keptX I.hok G λb B=>(D b (m b B)).1) I.bare λb B=>let f:=D b (m b B);⟨f.2.2.2.1,f.2.1,f.2.2.2.2.1,f.2.2.2.2.2⟩⟩
end
def zav {h:Heap}{b:Addr}{o:Obj}{vs:Array X7}(e:h.get? b=some o)(d:o.data=.fields vs):∃o,h.get? b=some o/\∀v,o.data ≠ .cell v:=⟨o,e,λv z=>by rw[d]at z;cases z⟩
def Ite (K:XW)(l:Addr):It:=⟨λi H=>∃xs,SqL K H l xs/\i<xs.length,λi H x m=>∃T,x=.ref T/\H T=none/\∀xs,SqL K H l xs->∃v,xs[i]?=some v/\m=upd H T (.tup [.int i,v]),λi H=>∃xs,SqL K H l xs/\i=xs.length⟩
def zkv {P:Xl}{w:WY}{K:XW}{elts:List Expr}{k:Nat}{pos:Pos}(e it l:Addr)(hei:e≠it)(hle:l≠e)(hli:l≠it) :
  Turn P w K (.Tuple elts k pos) (Ite K l) [e,it] e (λi h=>(∃old,IsEnum h e it i old)/\h.IsListIter it l i) where
 mem:=by simp
 obj:=λi h st b hb=>by
  obtain⟨⟨old,he⟩,o,e2,c,d⟩:=st;rcases XQ.mp hb with rfl | hb
  .exact zav he rfl
  .have z:b=it:=by simpa using hb
   subst z;exact zav e2 d
 keep:=λi h h' st kk=>by
  obtain⟨⟨old,he⟩,o,e2,r⟩:=st;exact⟨⟨old,kk e (by simp) _ he⟩,o,kk it (by simp) o e2,r⟩
 item:=by
  intro X hP hw hK hc i bz s σ H E I hf st hg;subst hP hw hK;obtain⟨xs,hq,hlt⟩:=hg;obtain⟨its,rv,p,hz⟩:=I.list hq;have hl:=rv.length;obtain⟨⟨old,he⟩,o2,e2,c2,d2⟩:=id st;refine zlO (wr:=[e,it]) (J:=Ite X.K l) (tn:=λi h=>(∃old,IsEnum h e it i old)/\h.IsListIter it l i) I hf (λb hb=>?_) (λb hb=>hb) (WalksT.enumerate (I.ok.hd hc) e it l hei hle hli its.toArray) (by simp;lia) ⟨st.1,st.2,p.isList⟩ (λT vals hn hp=>?_) λh'' q=>⟨q.1,q.2.1⟩
  .rcases XQ.mp hb with rfl | hb
   .exact⟨_,he⟩
   .have z:b=it:=by simpa using hb
    subst z;exact⟨_,e2⟩
  .obtain⟨t,x,hx,rfl⟩:=hp;have hx':its[i]?=some x:=by simpa using hx
   obtain⟨u,hu,ru⟩:=rv.get (i:=i) (x:=xs[i]) (by rw[XX hlt]);rw[hu]at hx';cases hx';exact⟨[.int i,xs[i]],.cons ⟨t,rfl⟩ (.cons ru .nil),(by show 2<=Xv;decide),T,rfl,hn,λys hy=>⟨xs[i],by rw[I.list_inj hy hq,XX hlt],rfl⟩⟩
 done:=by
  intro X hP hw hK hc i bz s σ H E I hf st hg;subst hP hw hK;obtain⟨xs,hq,rfl⟩:=hg;obtain⟨its,rv,p,hz⟩:=I.list hq;have hl:its.toArray.size=xs.length:=by simp[rv.length]
  refine zlP (fp:=[e,it]) (wr:=[e,it]) I hf (λb hb=>hb) (WalksT.enumerate (I.ok.hd hc) e it l hei hle hli its.toArray) ?_;rw[hl];exact⟨st.1,st.2,p.isList⟩
 self:=λA i s Q E st h=>by
  obtain⟨⟨old,he⟩,_⟩:=st;exact SW he h
def zn7 (x:Str):It:=⟨λi _=>i<x.cps.size,λi H v m=>∃T c,v=.ref T/\H T=none/\x.cps[i]?=some c/\m=upd H T (.tup [.int i,.str ⟨#[c]⟩]),λi _=>i=x.cps.size⟩
def zcC {P:Xl}{w:WY}{K:XW}{elts:List Expr}{k:Nat}{pos:Pos}(e it:Addr)(x:Str)(t:Tok)(n:String)(hei:e≠it)
  (D:∀A:WK,A.handled=none->Draws P w A it [it] x.cps.size (λi v=>∃c u,x.cps[i]?=some c/\v=.str ⟨#[c]⟩ u) (λi h=>h.IsStrIter it n x t i)) :
  Turn P w K (.Tuple elts k pos) (zn7 x) [e,it] e (λi h=>(∃old,IsEnum h e it i old)/\h.IsStrIter it n x t i) where
 mem:=by simp
 obj:=λi h st b hb=>by
  obtain⟨⟨old,he⟩,o,e2,c,d⟩:=st;rcases XQ.mp hb with rfl | hb
  .exact zav he rfl
  .have z:b=it:=by simpa using hb
   subst z;exact zav e2 d
 keep:=λi h h' st kk=>by
  obtain⟨⟨old,he⟩,o,e2,r⟩:=st;exact⟨⟨old,kk e (by simp) _ he⟩,o,kk it (by simp) o e2,r⟩
 item:=by
  intro X hP hw hK hc i bz s σ H E I hf st hg;subst hP hw hK;obtain⟨⟨old,he⟩,o2,e2,c2,d2⟩:=id st;refine zlO (wr:=[e,it]) (J:=zn7 x) (tn:=λi h=>(∃old,IsEnum h e it i old)/\h.IsStrIter it n x t i) I hf (λb hb=>?_) (λb hb=>hb) (WalksT.enumerateD (D X.A.in1 (I.ok.hd hc)) e hei (by simpa using hei) (by simp)) hg st (λT vals hn hp=>?_) λh'' q=>q
  .rcases XQ.mp hb with rfl | hb
   .exact⟨_,he⟩
   .have z:b=it:=by simpa using hb
    subst z;exact⟨_,e2⟩
  .obtain⟨t',v,⟨c,u,hx,rfl⟩,rfl⟩:=hp;exact⟨[.int i,.str ⟨#[c]⟩],.cons ⟨t',rfl⟩ (.cons ⟨u,rfl⟩ .nil),(by show 2<=Xv;decide),T,c,rfl,hn,hx,rfl⟩
 done:=by
  intro X hP hw hK hc i bz s σ H E I hf st hg;subst hP hw hK;have z:i=x.cps.size:=hg;subst z;exact zlP (fp:=[e,it]) (wr:=[e,it]) I hf (λb hb=>hb) (WalksT.enumerateD (D X.A.in1 (I.ok.hd hc)) e hei (by simpa using hei) (by simp)) st
 self:=λA i s Q E st h=>by
  obtain⟨⟨old,he⟩,_⟩:=st;exact SW he h
section
variable {X:Cx}{elts:List Expr}{k:Nat}{tpos:Pos}
def zqu (K:XW)(r:TA):TI:=fun σ H R=>r σ H λvs m=>∃l,vs=[.ref l]/\(∃xs,SqL K m l xs)/\R (Ite K l) m
def Zv {a:Expr}{J:TA}{p pos:Pos}(O:Gl X "enumerate")(hm:X.mg "enumerate"=none)(ha:PA X [a] J)(U:WV [a] X.env=[(false,eval a X.env)]:=by rfl):PI X (.Tuple elts k tpos) (.Call (.Name "enumerate" p) [a] [] pos) (zqu X.K J):=by
 intro E s σ H R I h;refine Call_ (Q0 I O hm boot_enumerate (VE (thn (ha pos E s σ H _ I h) λus s1 ⟨vs,D,w,r1,q1⟩=>?_) U rfl));obtain⟨l,rfl,⟨xs,hq⟩,q⟩:=q1;obtain⟨u,rfl,ru⟩:=vals1 r1;cases ru;obtain⟨aa,rv,G,hz⟩:=w.list hq;obtain⟨ol,B,_⟩:=G.isList;have r:=Xz B;refine call_enumerate_list G.isList λM he A Y kk=>?_;have L:Inv X E σ D { s1 with heap:=M }:=w.kept (t':=s1.toks) kk;refine SW he ?_;refine⟨s1.heap.objs.size+1,[s1.heap.objs.size+1,s1.heap.objs.size],_,_,D,rfl,L,zkv (s1.heap.objs.size+1) s1.heap.objs.size l (UX _) (Xf (Wf r)) (Xf r),⟨⟨_,he⟩,A⟩,λb hb=>?_,q⟩;have m:s1.heap.objs.size<=b:=by
  rcases XQ.mp hb with e | hb
  .rw[e];exact VO _
  .have e:b=s1.heap.objs.size:=by simpa using hb
   rw[e];exact XR _
 exact w.fpOk m (w.hok.fresh m)
def zqv (r:TA):TI:=fun σ H R=>r σ H λvs m=>∃z,vs=[.str z]/\R (zn7 z) m
def zlQ {a:Expr}{L:TA}{p pos:Pos}(O:Gl X "enumerate")(hm:X.mg "enumerate"=none)(ha:PA X [a] L)(U:WV [a] X.env=[(false,eval a X.env)]:=by rfl):PI X (.Tuple elts k tpos) (.Call (.Name "enumerate" p) [a] [] pos) (zqv L):=by
 intro E s σ H R I h;refine Call_ (Q0 I O hm boot_enumerate (VE (thn (ha pos E s σ H _ I h) λus s1 ⟨vs,B,D,r1,q1⟩=>?_) U rfl));obtain⟨z,rfl,q⟩:=q1;obtain⟨u,rfl,t,rfl⟩:=vals1 r1;refine call_enumerate_str λM he m Y kk=>?_;have J:Inv X E σ B { s1 with heap:=M }:=D.kept (t':=s1.toks) kk;refine SW he ?_;have r:∀b ∈ [s1.heap.objs.size+1,s1.heap.objs.size],zao X E B b:=λb hb=>by
  have w:s1.heap.objs.size<=b:=by
   rcases XQ.mp hb with e | hb
   .rw[e];exact VO _
   .have e:b=s1.heap.objs.size:=by simpa using hb
    rw[e];exact XR _
  exact D.fpOk w (D.hok.fresh w)
 unfold strIterType at m;by_cases ha:z.cps.all (· < 128)=true
 .rw[bw ha]at m;exact⟨s1.heap.objs.size+1,[s1.heap.objs.size+1,s1.heap.objs.size],_,_,B,rfl,J,zcC (s1.heap.objs.size+1) s1.heap.objs.size z t "str_ascii_iterator" (UX _) (λA G=>Draws.strAscii G _ z t),⟨⟨_,he⟩,m⟩,r,q⟩
 .rw[bq ha]at m;exact⟨s1.heap.objs.size+1,[s1.heap.objs.size+1,s1.heap.objs.size],_,_,B,rfl,J,zcC (s1.heap.objs.size+1) s1.heap.objs.size z t "str_iterator" (UX _) (λA G=>Draws.strWide G _ z t),⟨⟨_,he⟩,m⟩,r,q⟩
def zaw:qZ X (.type "int") (λxs H Q=>∃x n,xs=[.str x]/\Pf x=some n/\x.length<=640/\Q (.int n) H):=by
 intro m s σ H xs w Q I r h;obtain⟨x,n,rfl,hn,hl,q⟩:=h;obtain⟨u,rfl,t,rfl⟩:=vals1 r;exact PySem.W.KIN.call_text hn hl ⟨.int n,H,I.tok _,⟨_,rfl⟩,q⟩
end
def Zw {K:XW}{l:Addr}{xs:AE}{g:TG}{G:TS}{D:Ends}{σ:St}{H:Hp}(Pv:Nat->St->Hp->Prop)(h0:Pv 0 σ H)(hl:∀i σ H,i<=xs.length->Pv i σ H->SqL K H l xs)
  (L:∀i x T σ H,xs[i]?=some x->H T=none->Pv i σ H->g (.ref T) σ (upd H T (.tup [.int i,x])) fun w B=>G { D with nx:=Pv (i+1),ct:=Pv (i+1),bk:=D.nx } w B) (J:∀ σ H,Pv xs.length σ H->D.nx σ H) :
  ∃W:Nat->Nat->St->Hp->Prop,(∃m,W 0 m σ H)/\∀i m σ H,W i m σ H ->
   ((Ite K l).stop i H/\D.nx σ H)\/((Ite K l).go i H/\∃N:St->Hp->Prop,(∀ s r,N s r->∃E,E<m/\W (i+1) E s r)/\∀x r,(Ite K l).yld i H x r->g x σ r fun w B=>G { D with nx:=N,ct:=N,bk:=D.nx } w B):=by
 refine⟨λi m σ H=>m=xs.length-i/\i<=xs.length/\Pv i σ H,⟨xs.length,by simp,W3 _,h0⟩,?_⟩;rintro i m σ H ⟨rfl,hi,p⟩;have q:=hl i σ H hi p;by_cases A:i<xs.length
 .refine .inr ⟨⟨xs,q,A⟩,Pv (i+1),fun s r M=>⟨xs.length-(i+1),by lia,rfl,A,M⟩,λx r y=>?_⟩;obtain⟨T,rfl,I,y⟩:=y;obtain⟨v,hv,rfl⟩:=y xs q;exact L i v T σ H hv I p
 .have e:i=xs.length:=by lia
  subst e;exact .inl ⟨⟨xs,q,rfl⟩,J σ H p⟩
def zhP {g:TG}{B:TT}{E:TE}{Q:VK}{σ:St}{H:Hp}{D:Addr}{x:Str}(Pv:Nat->St->Hp->Prop)(h0:Pv 0 σ H)
  (M:∀i c T σ H,x.cps[i]?=some c->H T=none->Pv i σ H->g (.ref T) σ (upd H T (.tup [.int i,.str ⟨#[c]⟩])) fun r I=>B r I λb w=>if b=true then E r w λy A=>∃ys,A D=some (.lst ys)/\ys.length<Xv/\Pv (i+1) r (upd A D (.lst (ys++[y]))) else Pv (i+1) r w)
  (L:∀ σ H,Pv x.cps.size σ H->Q (.ref D) H):yJ (zn7 x) g B E Q D σ H:=by
 refine⟨λi m σ H=>m=x.cps.size-i/\i<=x.cps.size/\Pv i σ H,⟨x.cps.size,by simp,W3 _,h0⟩,?_⟩;rintro i m σ H ⟨rfl,hi,p⟩;by_cases s:i<x.cps.size
 .refine .inr ⟨s,Pv (i+1),fun U G O=>⟨x.cps.size-(i+1),by lia,rfl,s,O⟩,λv G y=>?_⟩;obtain⟨T,c,rfl,J,hc,rfl⟩:=y;exact M i c T σ H hc J p
 .have e:i=x.cps.size:=by lia
  subst e;exact .inl ⟨rfl,L σ H p⟩
def zax (look:Str->Option Addr):List (Str×So)->List (Str×Addr)->List (Str×Addr)
 | [],m=>m
 | (n,k)::r,m=>if k == .free then (match look n with
  | some c=>zax look r ((n,c)::m)
  | none=>zax look r m) else zax look r m
theorem YU {look:Str->Option Addr}:∀(s:List (Str×So)) (m:List (Str×Addr)) (p:Str×Addr),p∈zax look s m->p∈m\/look p.1=some p.2
 | [],m,p,h=>.inl h
 | (n,k)::r,m,p,h=>by
  unfold zax at h;split at h
  .cases e:look n with
   | none =>
    rw[e]at h;exact YU r m p h
   | some c =>
    rw[e]at h;rcases YU r _ p h with h | h
    .rcases XQ.mp h with h | h
     .subst h;exact .inr e
     .exact .inl h
    .exact .inr h
  .exact YU r m p h
def Zx {x n:Str}{c:Addr}{m:List (Str×Addr)}(h:(m.lookup x).isSome=true\/x=n):(RE x ((n,c)::m)).isSome=true:=by
 rw[SA];cases e:x==n with
 | true=>rfl
 | false =>
  rcases h with h | h
  .exact h
  .subst h;simp at e
def zga {look:Str->Option Addr}{x:Str}(m:List (Str×So))(s:List (Str×Addr))(h:(s.lookup x).isSome=true\/((x,NameKind.free)∈m/\(look x).isSome=true)):((zax look m s).lookup x).isSome=true:=by
 induction m generalizing s with
 | nil =>
  rcases h with h | h
  .exact h
  .cases h.1
 | cons y r A =>
  obtain⟨n,k⟩:=y;unfold zax;split
  .rename_i hk;cases e:look n with
   | none =>
    refine A s ?_;rcases h with h | ⟨h,w⟩
    .exact .inl h
    .rcases XQ.mp h with h | h
     .cases h;rw[e]at w;cases w
     .exact .inr ⟨h,w⟩
   | some c =>
    refine A _ ?_;rcases h with h | ⟨h,w⟩
    .exact .inl (Zx (.inl h))
    .rcases XQ.mp h with h | h
     .cases h;exact .inl (Zx (.inr rfl))
     .exact .inr ⟨h,w⟩
  .rename_i hk;refine A s ?_;rcases h with h | ⟨h,w⟩
   .exact .inl h
   .rcases XQ.mp h with h | h
    .cases h;exact absurd rfl hk
    .exact .inr ⟨h,w⟩
def YI {A:Uw}{w:Env}(h:∀y∈A.names,y.2=.free->(w.cells.lookup y.1).isSome=true):Oz A w=pure (zax (λx=>w.cells.lookup x) A.names []):=by
 have U:∀(s:List (Str×So)) (B:List (Str×Addr)),(∀y∈s,y.2=.free->(w.cells.lookup y.1).isSome=true) ->
   (forIn s B λx I=>(match x with
    | (D,G)=>if (G == .free)=true then do let a <- cellOf w D;pure (V1 ((D,a)::I)) else pure (V1 I):Sem (ForInStep (List (Str×Addr)))))=(pure (zax (λx=>w.cells.lookup x) s B):Sem _):=by
  intro s;induction s with
  | nil=>intro B _;rfl
  | cons y r M =>
   intro B hy;obtain⟨n,k⟩:=y;have L:∀y∈r,y.2=.free->(w.cells.lookup y.1).isSome=true:=λy hm=>hy y (Y1 _ hm);rw[List.forIn_cons];unfold zax;by_cases hk:(k==NameKind.free)=true
   .have J:k=.free:=by simpa using hk
    have Y:=hy (n,k) X5 J;obtain⟨c,hc⟩:=Vi.mp Y;have E:RE n w.cells=some c:=hc;have O:cellOf w n=pure c:=by
     unfold cellOf;rw[E]
    simp only[hk,if_true,O,E,pure_bind];exact M _ L
   .simp only[hk,Wu,if_false,pure_bind];exact M _ L
 simp only[Oz];exact Eq.trans (congrArg (λm:Sem (List (Str×Addr))=>m >>= λI=>pure I) (U A.names [] h)) rfl
def J5 {r:Uw}{m:Env}{x:Str}{k:So}(h:(x,k)∈(Uz r m).names)(hk:k=.cell\/k=.free):(x,Tt)∈r.names\/(x,NameKind.free)∈r.names:=by
 obtain⟨y,hy,e⟩:=XN.mp h;obtain⟨n,s⟩:=y;by_cases c:(s==NameKind.free&&m.scope.kind == .function&&m.kindOf n==some .cell)=true
 .have w:(if (s==NameKind.free&&m.scope.kind == .function&&m.kindOf n==some .cell)=true then (n,Tt) else (n,s))=(x,k):=e;rw[bw c]at w;cases w;have c1:s=.free:=by
   have:=(VT.mp (VT.mp c).1).1;simpa using this
  subst c1;exact .inr hy
 .have w:(if (s==NameKind.free&&m.scope.kind == .function&&m.kindOf n==some .cell)=true then (n,Tt) else (n,s))=(x,k):=e;rw[bq c]at w;cases w;rcases hk with rfl | rfl
  .exact .inl hy
  .exact .inr hy
open PySem PySem.Spec PyProof.Rows PySem.W
section
variable {α β:Type}{R:α->β->Prop}{us us':List α}{cs cs':List β}{i:Nat}{v:α}{c:β}
def zcD (h:XG R us cs)(k:XG R us' cs'):XG R (us++us') (cs++cs'):=by
 induction h with
 | nil=>exact k
 | cons q _ m=>exact .cons q m
def yK (h:XG R us cs)(e:us[i]?=some v):∃c,cs[i]?=some c/\R v c:=by
 induction h generalizing i with
 | nil=>cases e
 | cons q _ m =>
  cases i with
  | zero =>
   cases e;exact⟨_,rfl,q⟩
  | succ i=>exact m (i:=i) e
def zlR (h:XG R us cs)(e:v∈us):∃c∈cs,R v c:=by
 induction h with
 | nil=>cases e
 | cons q _ m =>
  rcases XQ.mp e with rfl | e
  .exact⟨_,X5,q⟩
  .obtain⟨c,h,r⟩:=m e;exact⟨c,Y1 _ h,r⟩
end
def yT (H:Hp):AE->List (Int×Int)->Prop:=XG λv p=>∃a,v=V.ref a/\H a=some (.tup [.int p.1,.int p.2])
def lt2 (p q:Int×Int):Bool:=if p.1=q.1 then decide (p.2<q.2) else decide (p.1<q.1)
structure zw (h:Heap)(v:X7)(p:Int×Int):Prop where
 ex:∃a o n t u,v=.ref a/\h.get? a=some o/\o.cls=.type "tuple"/\o.data=.seq #[.int p.1 t,.int p.2 u] n
section
variable {X:Cx}{bz:List (Addr×Obj)}{σ:St}{H:Hp}{s:X0}
def yT.pairs (I:Inv X bz σ H s){A:AE}{ps:List (Int×Int)}{m:List X7}(E:yT H A ps)(r:Vals A m):XG (zw s.heap) m ps:=by
 induction E generalizing m with
 | nil =>
  cases r;exact .nil
 | cons q _ G =>
  obtain⟨a,e,h⟩:=q;subst e;cases r with
  | cons L M =>
   cases L;refine .cons ?_ (G M);obtain⟨w,O,tp,_⟩:=I.tuple (SqT.of h);obtain⟨u1,u2,rfl,⟨U,rfl⟩,⟨Y,rfl⟩⟩:=vals2 O;obtain⟨J,D,c1,n,B⟩:=tp;exact⟨a,J,n,U,Y,rfl,D,c1,B⟩
end
theorem Z3 {h h':Heap}(k:∀b o,h.get? b=some o->h'.get? b=some o):∀{m:List X7} {ps:List (Int×Int)},XG (zw h) m ps->XG (zw h') m ps
 | _,_,.nil=>.nil
 | _,_,.cons ⟨a,o,n,t,u,e,s,r⟩ tl=>.cons ⟨a,o,n,t,u,e,k _ _ s,r⟩ (Z3 k tl)
theorem Z4 {h:Heap}:∀{m:List X7} {ps:List (Int×Int)},XG (zw h) m ps->∃fs:List X7,KatTups h m fs/\fs.length=m.length/\∀v∈fs,∃x t,v=Vt x t
 | _,_,.nil=>⟨[],.nil,rfl,λ_ z=>nomatch z⟩
 | _,_,.cons ⟨a,o,n,t,u,e,r,c,d⟩ tl=>by
  obtain⟨fs,k,l,q⟩:=Z4 tl;subst e;refine⟨.int _ t::fs,KatTups.cons r c d rfl k,by simp[l],λv hv=>?_⟩;rcases XQ.mp hv with rfl | hv
  .exact⟨_,t,rfl⟩
  .exact q v hv
section
variable {prog:Xl}{w:WY}{A:WK}{E:X7->X0->Prop}{s:X0}
def zi6 {v I:X7}{p q:Int×Int}{C:Bool->X0->Prop}(hv:zw s.heap v p)(D:zw s.heap I q)(h:C (lt2 p q) s):Xg (Xi prog w) A (keyLt' (tuples' true) v I) C E s:=by
 obtain⟨a,o,n,t,u,rfl,M,c1,L⟩:=hv;obtain⟨a',o',n',U,Y,rfl,r,J,m⟩:=D;refine kat_lt M L r m ?_;show KatLex prog w A true _ C [(Vt p.1 t,Vt q.1 U),(Vt p.2 u,Vt q.2 Y)] 0 s;unfold lt2 at h;refine kat_cons (SeqAt.EqAt.int_int _ _ _ _ prog w _ _ (kat_go (λB=>kat_yes ?_) λB=>kat_no ?_))
 .have e:p.1=q.1:=by simpa using B
  rw[bw e]at h;refine kat_cons (SeqAt.EqAt.int_int _ _ _ _ prog w _ _ (kat_go (λG=>kat_yes (kat_nil ?_)) λG=>kat_no ?_))
  .have e3:p.2=q.2:=by simpa using G
   have O:decide (p.2<q.2)=false:=bf (by lia);rw[O]at h;exact h
  .exact kat_one _ _ (lt_int h)
 .have e:¬ p.1=q.1:=by simpa using B
  rw[bq e]at h;exact oneLt_int h
end
section
variable {X:Cx}
def zgb:zrJ X (zqo X.K):=by
 intro M s σ H x y v u Q I rx ry h;obtain⟨p,xs,i,z,rfl,rfl,hq,he,q⟩:=h;cases rx;obtain⟨t,rfl⟩:=ry;obtain⟨D,r,L,hz⟩:=I.list hq;obtain⟨j,A,O,h3,U,Y⟩:=zcg he;obtain⟨w,G,E⟩:=r.get O;have hl:=r.length;have hn:=YN;have m:EP X M σ Q w s:=⟨z,H,I,E,q⟩;by_cases J:0<=i
 .have B:i.toNat=j:=by
   rw[Pm J Y]at A;exact Option.some.inj A
  exact wpAny_getItem_list L.isList J (by lia) (by rw[B];simpa using G) m
 .have B:(i+(D.toArray.size:Int)).toNat=j:=by
   rw[P8 (by lia) U]at A;rw[Xy,<- hl];exact Option.some.inj A
  exact PY L.isList (by lia) (by rw[Xy]<;>lia) (by lia) (by rw[B];simpa using G) m
theorem zgc:∀{s:List Int} {m:List X7},Vals (s.map V.int) m->OW m s
 | [],_,r=>by cases r;exact .nil
 | n::s,_,r=>by
  cases r with
  | cons w A =>
   obtain⟨t,rfl⟩:=w;exact .cons n t (zgc A)
def zgd (hc:X.calm=true):qZ X (.builtin "sum") (λxs H Q=>∃(l:Addr) (m:List Int),xs=[.ref l]/\SqL X.K H l (m.map V.int)/\Q (.int m.sum) H):=by
 intro L s σ H xs Y Q I r h;obtain⟨l,m,rfl,hq,q⟩:=h;obtain⟨u,rfl,G⟩:=vals1 r;cases G;obtain⟨w,J,E,hz⟩:=I.list hq;have hi:OW w m:=zgc J;obtain⟨ys,A⟩:=hi.allInts.items;refine sum_intListG (I.ok.hd hc) (xs:=ys) (A ▸ E.isList) λM U O hk=>?_;have B:m=ys.toList.map (·.1):=by
  rw[<- nums_intItems,<- A];exact(show numsOf w.toArray.toList=m from hi.numsOf).symm
 have D:preSum (numAt ys) ys.size=m.sum:=by
  rw[B,preSum_eq,WT (by simp)]
 rw[D];exact⟨.int _,H,I.kept hk,⟨_,rfl⟩,q⟩
def zkw {bs:List Bool}{m:List X7}(r:Vals (bs.map V.bl) m){i:Nat}{v:X7}(e:m[i]?=some v):∃b,bs[i]?=some b/\v=.bool b:=by
 have hl:=r.length;rw[ZB]at hl;have hi:i<bs.length:=by
  have:=(XV.mp e).1;lia
 obtain⟨u,s,w⟩:=r.get (i:=i) (x:=.bl bs[i]) (by rw[XC,XX hi];rfl);rw[s]at e;cases e;exact⟨bs[i],XX hi,w⟩
def zcE (hc:X.calm=true):qZ X (.builtin "any") (λxs H Q=>∃(l:Addr) (bs:List Bool),xs=[.ref l]/\SqL X.K H l (bs.map V.bl)/\Q (.bl (bs.any id)) H):=by
 intro U s σ H xs us Q I r h;obtain⟨l,bs,rfl,hq,q⟩:=h;obtain⟨u,rfl,L⟩:=vals1 r;cases L;obtain⟨m,E,J,hz⟩:=I.list hq;have hl:=J.isList;have B:l<s.heap.objs.size:=let ⟨_,he,_⟩:=hl;Xz he
 have w:=E.length;rw[ZB]at w;refine call_any_walk (SY hl ?_);refine cF s.heap.objs.size [s.heap.objs.size,l] [s.heap.objs.size] m.toArray.size (cG (cK (λi=>(bs[i]?).getD false) rfl (Walks.list (A:=X.A.in1) (I.ok.hd hc) _ l (Xf B) m.toArray) ⟨⟨_,W1 _ rfl,rfl,rfl⟩,hl.push _⟩ (λi v s' O M hP D=>?_) (λY tk hk=>?_)))
 .obtain⟨b,G,rfl⟩:=zkw E (i:=i) (v:=v) (by simpa using hP);simp only[G,TN]at D;exact VN D
 .have e:((WG m.toArray.size).any λi=>(bs[i]?).getD false)=bs.any id:=by
   rw[Xy,<- w];exact LSm.range_any bs
  rw[e];exact⟨.bl _,H,I.kept (LSm.kept_iter hk),rfl,q⟩
end
mutual
inductive Rdn (N:Addr->Prop)(H:Hp):V->Wc->Prop
 | non:Rdn N H .non .none
 | bl (b:Bool):Rdn N H (.bl b) (.bool b)
 | int (i:Int):Rdn N H (.int i) (.int i)
 | str (x:Str):Rdn N H (.str x) (.str x)
 | lst {a:Addr} {xs:AE} {ds:List Wc}:N a->H a=some (.lst xs)->zu N H xs ds->Rdn N H (.ref a) (.list ds)
 | tup {a:Addr} {xs:AE} {ds:List Wc}:H a=some (.tup xs)->zu N H xs ds->Rdn N H (.ref a) (.tuple ds)
inductive zu (N:Addr->Prop)(H:Hp):AE->List Wc->Prop
 | nil:zu N H [] []
 | cons {x:V} {d:Wc} {xs:AE} {ds:List Wc}:Rdn N H x d->zu N H xs ds->zu N H (x::xs) (d::ds)
end
section
variable {K:XW}{N N':Addr->Prop}{H H':Hp}
def Rdn.rdv {v:V}{d:Wc}(h:Rdn N H v d):Rdv K H v d :=
 Rdn.rec (motive_1:=λv d _=>Rdv K H v d) (motive_2:=λvs ds _=>yH K H vs ds) .non .bl .int .str (λ_ h _ t=>.lst (SqL.of h) t) (λh _ t=>.tup (SqT.of h) t) .nil (λ_ _ a t=>.cons a t) h
def zu.rdv {vs:AE}{ds:List Wc}(h:zu N H vs ds):yH K H vs ds :=
 zu.rec (motive_1:=λv d _=>Rdv K H v d) (motive_2:=λvs ds _=>yH K H vs ds) .non .bl .int .str (λ_ h _ t=>.lst (SqL.of h) t) (λh _ t=>.tup (SqT.of h) t) .nil (λ_ _ a t=>.cons a t) h
def Rdn.mono (s:zo H H')(i:∀a,N a->N' a){v:V}{d:Wc}(h:Rdn N H v d):Rdn N' H' v d :=
 Rdn.rec (motive_1:=λv d _=>Rdn N' H' v d) (motive_2:=λvs ds _=>zu N' H' vs ds) .non .bl .int .str (λn h _ t=>.lst (i _ n) (s _ _ h) t) (λh _ t=>.tup (s _ _ h) t) .nil (λ_ _ a t=>.cons a t) h
def zu.mono (s:zo H H')(i:∀a,N a->N' a){vs:AE}{ds:List Wc}(h:zu N H vs ds):zu N' H' vs ds :=
 zu.rec (motive_1:=λv d _=>Rdn N' H' v d) (motive_2:=λvs ds _=>zu N' H' vs ds) .non .bl .int .str (λn h _ t=>.lst (i _ n) (s _ _ h) t) (λh _ t=>.tup (s _ _ h) t) .nil (λ_ _ a t=>.cons a t) h
def zu.into {D:Addr}{o:HO}{m:AE}(r:H D=some (.lst m))(i:∀a,N a->a≠D){vs:AE}{ds:List Wc}(h:zu N H vs ds):zu N (upd H D o) vs ds :=
 zu.rec (motive_1:=λv d _=>Rdn N (upd H D o) v d) (motive_2:=λvs ds _=>zu N (upd H D o) vs ds) .non .bl .int .str (λn h _ t=>.lst n (by rw[zg (i _ n)];exact h) t) (λh _ t=>.tup (by rw[zg (zfT h r (by intro z;cases z))];exact h) t) .nil (λ_ _ a t=>.cons a t) h
def Rdn.keep (s:zo H H'){v:V}{d:Wc}(h:Rdn N H v d):Rdn N H' v d:=h.mono s λ_ n=>n
def zu.keep (s:zo H H'){vs:AE}{ds:List Wc}(h:zu N H vs ds):zu N H' vs ds:=h.mono s λ_ n=>n
def zu.append {vs r:AE}{ds m:List Wc}(h:zu N H vs ds)(k:zu N H r m):zu N H (vs++r) (ds++m) :=
 zu.rec (motive_1:=λ_ _ _=>True) (motive_2:=λvs ds _=>zu N H (vs++r) (ds++m))
  trivial (λ_=>trivial) (λ_=>trivial) (λ_=>trivial) (λ_ _ _ _=>trivial) (λ_ _ _=>trivial) k (λa _ _ t=>.cons a t) h
def zu.snoc {vs:AE}{ds:List Wc}{v:V}{d:Wc}(h:zu N H vs ds)(k:Rdn N H v d):zu N H (vs++[v]) (ds++[d]):=h.append (.cons k .nil)
def zu.paired {vs:AE}{ds:List Wc}(h:zu N H vs ds):XG (Rdn N H) vs ds :=
 zu.rec (motive_1:=λ_ _ _=>True) (motive_2:=λvs ds _=>XG (Rdn N H) vs ds)
  trivial (λ_=>trivial) (λ_=>trivial) (λ_=>trivial) (λ_ _ _ _=>trivial) (λ_ _ _=>trivial) .nil (λa _ _ t=>.cons a t) h
theorem zu.length {vs:AE}{ds:List Wc}(h:zu N H vs ds):vs.length=ds.length:=Paired.length h.paired
def zu.get {vs:AE}{ds:List Wc}{i:Nat}{v:V}(h:zu N H vs ds)(e:vs[i]?=some v):∃d,ds[i]?=some d/\Rdn N H v d:=yK h.paired e
end
section
variable {K:XW}{g:TG}{tc:TT}{te:TE}{Q:VK}{σ0:St}{H1:Hp}{D:Addr}
def zn8 (N:Addr->Prop)(s:St->Prop)(H:Hp)(o:Option Wc)(Y:St->V->Hp->Prop):Prop:=∀d y m r,o=some d->s m->zo H r->Rdn N r y d->Y m y r
def zqw (r:St->Prop)(H:Hp)(o:Option Wc)(Z:St->Hp->Prop):Prop:=∀ m s,o=none->r m->zo H s->Z m s
def ql {a:Addr}{xs:AE}(N:Addr->Prop)(m:List (Option Wc))(w:St->Prop)(hD:H1 D=none)(hN:∀a,N a->a≠D)(h0:w σ0)(E:m.length=xs.length)(hz:xs.length<=100000)
  (hl:SqL K H1 a xs)
  (hs:∀(i:Nat) (x:V) (o:Option Wc) (σ:St) (H:Hp),xs[i]?=some x->m[i]?=some o->zo H1 H->H D≠none->w σ->∀Y Z,zn8 N w H o Y->zqw w H o Z ->
   g x σ H fun r H3=>tc r H3 λb J=>if b=true then te r J λy H5=>Y r y H5 else Z r J)
  (hd:∀ys A,zo H1 A->A D=some (.lst ys)->zu N A ys (m.filterMap id)->Q (.ref D) A):yJ (Itl K a) g tc te Q D σ0 (upd H1 D (.lst [])):=by
 refine qv (K:=K) (a:=a) (xs:=xs) (λi σ A=>w σ/\zo H1 A/\∃ys,A D=some (.lst ys)/\ys.length<=i/\zu N A ys ((m.take i).filterMap id)) ⟨h0,zc hD,[],zb,XR _,.nil⟩ (λi σ A _ ⟨_,s,_⟩=>s.seq hl) ?_ ?_
 .rintro i x σ H hx ⟨hi,s,ys,hy,U,G⟩;have L:i<xs.length:=(XV.mp hx).1;obtain⟨o,ho⟩:∃o,m[i]?=some o:=⟨m[i]'(by lia),XX (by lia)⟩;have step:(m.take (i+1)).filterMap id=(m.take i).filterMap id++o.toList:=by
   rw[Xe,ho,List.filterMap_append];cases o<;>rfl
  refine hs i x o σ H hx ho s (by rw[hy];exact λz=>nomatch z) hi _ _ (λd y r H5 e B I M=>?_) (fun r J e B O=>?_)
  .subst e;refine⟨ys,I _ _ hy,XJ U (Xj L (XY hz (by decide))),B,λb ob e=>?_,ys++[y],zb,?_,?_⟩
   .rw[zg (zj e hD)];exact I _ _ (s _ _ e)
   .rw[X6];exact Sk U 1
   .rw[step];exact zu.into (I _ _ hy) hN (zu.snoc (G.keep I) M)
  .subst e;refine⟨B,s.trans O,ys,O _ _ hy,T7 U,?_⟩;rw[step];simpa using G.keep O
 .rintro σ H ⟨_,s,ys,hy,_,G⟩;rw[<- E,XE]at G;exact hd ys H s hy G
def zhQ {a:Addr}{xs:AE}(Pv:Nat->St->Hp->Prop){H:Hp}(h0:Pv 0 σ0 H)(hl:∀i σ H,i<=xs.length->Pv i σ H->SqL K H a xs)
  (J:∀i x T σ H,xs[i]?=some x->H T=none->Pv i σ H->g (.ref T) σ (upd H T (.tup [.int i,x])) fun r E=>tc r E λb w=>if b=true then te r w λy A=>∃ys,A D=some (.lst ys)/\ys.length<Xv/\Pv (i+1) r (upd A D (.lst (ys++[y]))) else Pv (i+1) r w)
  (I:∀ σ H,Pv xs.length σ H->Q (.ref D) H):yJ (Ite K a) g tc te Q D σ0 H:=by
 refine⟨λi m σ H=>m=xs.length-i/\i<=xs.length/\Pv i σ H,⟨xs.length,by simp,W3 _,h0⟩,?_⟩;rintro i m σ H ⟨rfl,hi,p⟩;have q:=hl i σ H hi p;by_cases s:i<xs.length
 .refine .inr ⟨⟨xs,q,s⟩,Pv (i+1),fun M B L=>⟨xs.length-(i+1),by lia,rfl,s,L⟩,λx B y=>?_⟩;obtain⟨T,rfl,G,y⟩:=y;obtain⟨v,hv,rfl⟩:=y xs q;exact J i v T σ H hv G p
 .have e:i=xs.length:=by lia
  subst e;exact .inl ⟨⟨xs,q,rfl⟩,I σ H p⟩
def xB {i:Nat}{v:V}{σ:St}{H:Hp}{A B:St->Hp->Prop}(h:A (σ.set i (some v)) H):yD i v σ H fun m s=>zlN m s λb r=>if b=true then A m r else B m r:=by
 show if true=true then A (σ.set i (some v)) H else B (σ.set i (some v)) H
 exact Q5 h
end
def Zy (z:Str)(lo hi:Option Int):Str:=⟨((z.cps.toList.drop (HT.sIx z.length 0 lo)).take (HT.sIx z.length z.length hi-HT.sIx z.length 0 lo)).toArray⟩
def zlS (lo hi:Option Int)(n:Nat):U0 lo hi 1 n=(WG (HT.sIx n n hi-HT.sIx n 0 lo)).map (HT.sIx n 0 lo + ·):=by
 rw[<- sliceRange_one];unfold U0;simp only[show (1:Int)>0 by decide,if_true];have m:∀(v:Option Int) (d:Nat),(match v with | none=>(d:Int) | some i=>max 0 (min (if i<0 then i+(n:Int) else i) (n:Int)))=((HT.sIx n d v:Nat):Int):=λv d=>by
  cases v with
  | none=>rfl
  | some i =>
   simp only[HT.sIx];by_cases h:i<0
   .simp only[h,if_true];lia
   .simp only[h,if_false];lia
 have r:=m lo 0;have s:=m hi n;rw[<- r,<- s];rfl
def zn9 (n:Nat)(hi:Option Int):HT.sIx n n hi<=n:=HT.zqn n n (XR _) hi
def zlT (z:Str)(lo hi:Option Int):Txt.slice z lo hi=Zy z lo hi:=by
 unfold Txt.slice Zy;rw[zlS,pick_run];by_cases c:((1:Int)==1&&((WG (HT.sIx z.length z.length hi-HT.sIx z.length 0 lo)).map (HT.sIx z.length 0 lo + ·)).length==z.length)=true
 .rw[bw c];have r:HT.sIx z.length z.length hi-HT.sIx z.length 0 lo=z.length:=by
   simp only[ZB,WE]at c;simpa using c
  have B:=zn9 z.length hi;have w:HT.sIx z.length z.length hi=z.length:=by lia
  have e0:HT.sIx z.length 0 lo=0\/z.length=0:=by lia
  have A:z.cps.toList.length=z.length:=XZ;rw[r];rcases e0 with e0 | e0
  .rw[e0,Pe,WT (by lia)]
  .have m:z.cps.toList=[]:=Wy.mp (by lia);rw[m];simp only[List.drop_nil,List.take_nil];cases z with
   | mk cps =>
    have s:cps=#[]:=by simpa using m
    rw[s]
 .rw[bq c]
section
variable {X:Cx}
def zsN:V->Option Int->Option Int->Hp->VK->Prop:=λx lo hi H Q=>∃z,x=.str z/\z.length<=Xv/\Q (.str (Zy z lo hi)) H
def zge {v:X7}{o:Option Int}(h:IsPart v o):∃p:Option (Int×Tok),v=partValue p/\p.map (·.1)=o:=by
 cases h with
 | none=>exact⟨none,rfl,rfl⟩
 | int i t=>exact⟨some (i,t),rfl,rfl⟩
def zlU:SlR X zsN:=by
 intro J s σ H x v O U lo hi L Q I G B D E h;obtain⟨z,rfl,hz,q⟩:=h;obtain⟨t,rfl⟩:=G;obtain⟨m,rfl,w⟩:=zge D;obtain⟨r,rfl,A⟩:=zge E;refine⟨"str",_,F.slot_str_getitem.lookup,typeIs_str _ _ _,wpAny_getItem_str_slice (l:=m) (u:=r) (st:=none) B rfl ?_⟩;have e:sliceMade z t m r none=if ((1:Int)==1&&(U0 lo hi 1 z.length).length==z.length)=true then Made.val (.str z t) else Made.str ⟨((U0 lo hi 1 z.length).filterMap (z.cps[·]?)).toArray⟩:=by
  rw[<- w,<- A];rfl
 rw[e];refine post_val_or_str ⟨XY (Txt.slice_le z lo hi) hz,λM k=>?_⟩;rw[<- zlT]at q;exact⟨.str (Txt.slice z lo hi),H,I.tok k,⟨_,rfl⟩,q⟩
end
def zfQ:List X7:=[.type "ValueError",.type "Exception",.type "BaseException",.type "object"]
structure Fly (P:Xl)(w:WY)(outer:List Env)(H:Hp)(s:X0)(e C:Addr)(a0:X7)(B:Heap)(H':Hp)(s':X0):Prop where
 fly:Oq B outer e (.ref C) a0 s'.heap
 os:s'.os=s.os
 bare:Sy s'.gens
 un:Un (frs outer) [] H H' s.heap s'.heap
 ok:HOk P w H' B
 kB:∀b o,s.heap.get? b=some o->H b=none->b ∉ frs outer->B.get? b=some o
 tB:∀b o,s.heap.get? b=some o->b ∉ frs outer->∃o',B.get? b=some o'
 new:s.heap.get? e=none
 free:H' e=none
def CXE (P:Xl)(w:WY):CXT:=λm H s E x D=>∃(e C:Addr) (A:X7) (B:Heap) (r:Hp),x=.ref e/\Fly P w m H s e C A B r D/\E (.ref C) none r
theorem zlV {P:Xl}{w:WY}{H:Hp}{h:Heap}{a:Addr}:∀{o:HO},qN P w H h a o->∃ob,h.get? a=some ob
 | .lst _,x=>by obtain⟨_,_,_,_,q⟩:=x;exact⟨_,q⟩
 | .tup _,x=>by obtain⟨_,_,_,ob,q,_⟩:=x;exact⟨ob,q⟩
 | .dK _,x=>by revert x;refine dI λ_ _ _ _ ob _ _=>c8 λq _=>?_;exact⟨ob,q⟩
 | .dT _,x=>by revert x;refine dI λ_ _ _ _ ob _ _=>c8 λq _=>?_;exact⟨ob,q⟩
 | .set _ _,x=>by revert x;refine dg λob _ _ _=>c8 λq _=>?_;exact⟨ob,q⟩
 | .ins _ _ _,x=>by obtain⟨_,_,_,q,_⟩:=x;exact⟨_,q⟩
 | .own _,x=>x
 | .xd _,x=>by obtain⟨_,⟨ob,_,_,q,_⟩,_⟩:=x;exact⟨ob,q⟩
 | .met _ _,x=>⟨_,x⟩
 | .rng _ _,x=>by obtain⟨_,_,_,q⟩:=x;exact⟨_,q⟩
 | .frz _ _,x=>⟨_,x.1⟩
 | .tbl _,x=>⟨_,x⟩
 | .ext _,x=>x.2.1
section
variable {X:Cx}{bz:List (Addr×Obj)}{σ:St}{H H':Hp}{s s':X0}{e C:Addr}{a0:X7}{B h2:Heap}
def Inv.notLoc (I:Inv X bz σ H s){b:Addr}{o:Obj}(q:X.s₀.heap.get? b=some o):b≠X.env.locals:=λz=>VL _ (Xj (z ▸ Xz q) I.ok.above)
def Inv.notStk (I:Inv X bz σ H s){b:Addr}{o:Obj}(q:X.s₀.heap.get? b=some o)(m:b ∉ X.fs):b ∉ frs X.stack:=λz=>by
 rcases XQ.mp (I.stkSub b z) with r | r
 .exact I.notLoc q r
 .exact m r
def Inv.flies (I:Inv X bz σ H s)(L:X.ex=[])(F:Oq B X.outer e (.ref C) a0 h2)(up:s'.heap.UpToSlots h2)(os:s'.os=s.os)(J:Sy s'.gens)(un:Un (frs X.stack) [] H H' s.heap s'.heap)(ok:HOk X.prog X.w H' B)
  (kB:∀b o,s.heap.get? b=some o->H b=none->b ∉ frs X.stack->B.get? b=some o) (tB:∀b o,s.heap.get? b=some o->b ∉ frs X.stack->∃A,B.get? b=some A) (M:s.heap.get? e=none) (free:H' e=none) :
  Fly X.prog X.w X.outer X.H₀ X.s₀ e C a0 B H' { s' with heap:=h2 }:=by
 have D:∀b,b ∉ X.ex:=λb z=>by rw[L]at z;cases z
 have keep:∀b o,X.s₀.heap.get? b=some o->X.H₀ b=none->b ∉ X.fs->B.get? b=some o:=λb o q n m =>
  kB b o (I.base.keep b o q n m (D b)) (I.base.free b o q n (D b)) (I.notStk q m)
 have there:∀b o,X.s₀.heap.get? b=some o->b ∉ X.fs->∃A,B.get? b=some A:=λb o q m=>by
  obtain⟨A,G⟩:=I.base.there b o q (D b);exact tB b A G (I.notStk q m)
 have E:∀b o,X.s₀.heap.get? b=some o->b∈X.fs->∃O,h2.get? b=some { o with slots:=O }:=λb o q m=>by
  obtain⟨_,o1,Y,nf⟩:=I.ok.funs.mem m;rw[q]at Y;cases Y;obtain⟨O,q2⟩:=I.base.slot b o q (I.ok.frf b m) m (D b);obtain⟨aa,q3⟩:=un.any q2 (I.base.free b o q (I.ok.frf b m) (D b)) (λz=>nomatch z);obtain⟨U,q4⟩:=up b _ q3 nf;exact⟨U,q4⟩
 refine⟨F,os.trans I.os,J,⟨λb o q n m _=>F.1 b o (keep b o q n m),λb o q _ m _=>E b o q m,λb o q n _=>?_,λb o q _=>?_,λb xs q=>un.tups b xs (I.base.tups b xs q),λb o u q=>un.frzs b o u (I.base.frzs b o u q),λb ps q=>?_⟩,ok,keep,there,?_,free⟩
 .obtain⟨A,G⟩:=I.base.there b o q (D b);exact un.free b A G (I.base.free b o q n (D b)) λz=>nomatch z
 .by_cases m:b∈X.fs
  .obtain⟨O,r⟩:=E b o q m;exact⟨_,r⟩
  .obtain⟨A,r⟩:=there b o q m;exact⟨A,F.1 b A r⟩
 .obtain⟨m1,r1⟩:=I.base.tbls b ps q;obtain⟨m2,r2⟩:=un.tbls b _ r1;exact⟨m1++m2,by rw[r2,Array.append_assoc]⟩
 .cases q:X.s₀.heap.get? e with
  | none=>rfl
  | some o =>
   obtain⟨A,G⟩:=I.base.there e o q (D e);rw[M]at G;cases G
structure xX (X:Cx)(E:XK):Prop where
 stk:X.stack=X.env::X.outer
 fr:X.env.frame=some X.env.locals
 ex:X.ex=[]
 xe:X.xe=λx s'=>Xg (Xi X.prog X.w) X.A (leaving X.env x) (λ_ s''=>CXE X.prog X.w X.outer X.H₀ X.s₀ E x s'') (λx' s''=>CXE X.prog X.w X.outer X.H₀ X.s₀ E x' s'') s'
def jI {P:Xl}{w:WY}{K:XW}{G:Str->Option X7}{base:Heap}{N:AD}{B:Str}{r:Uw}{f:Addr}{D:X7}{A:WK}{m:List Env}{s:X0}{H:Hp}{E:XK} :
  xX (zf1 (CXE P w) P w K G base N B r f D A m s H E) E:=⟨rfl,rfl,rfl,rfl⟩
def zqx {l:List Env}:∀m∈l,∀a,m.frame=some a->a∈frs l:=λm he a r=>Th.mpr ⟨m,he,r⟩
def xX.made {E:XK}(L:xX X E)(I:Inv X bz σ H s){m:Heap}{vs:List X7}(hx:Heap.MadeExcOf s.heap m e (.ref C) vs)(D:E (.ref C) none H):X.xe (.ref e) { s with heap:=m }:=by
 rw[L.xe];have G:=I.stack;have w:∀a o,H a=some o->a ∉ frs X.stack:=λa o q z=>by
  rw[I.stkFree a z]at q;cases q
 have own:∀a b,H b=some (.own a)->b ∉ frs X.stack:=λa b q=>w b _ q;have fresh:H e=none:=by
  cases q:H e with
  | none=>rfl
  | some o =>
   obtain⟨A,B⟩:∃A,s.heap.get? e=some A:=by
    exact zlV (I.hok e o q)
   rw[hx.new]at B;cases B
 refine wpAny_leaves_madeW (base:=PySem.W.hideAll s.heap (frs X.stack)) (L:=X.env.locals) (by rw[I.ok.frames,L.stk]) L.fr (λb o q=>PySem.W.of_hideAll _ q) (PySem.W.funFrames_hide (by rw[<- L.stk];exact G) (by rw[<- L.stk];exact zqx)) hx λO t J U Y M=>?_;refine⟨e,C,_,_,H,rfl,I.flies (s':={ s with heap:=m }) L.ex J M rfl I.bare (Un.kept hx.keeps) ?_ (λb o q _ hb=>TH _ q hb) (λb o q hb=>⟨o,TH _ q hb⟩) hx.new fresh,D⟩;exact λa o q=>(I.hok a o q).stay (λb u hb r=>TH _ r (by
  rcases hb with hb | hb
  .rw[hb];exact w a o q
  .exact own a b hb)) (λ_ r=>r) λ_ _ r=>r
def xX.passes {E:XK}(L:xX X E):Passes (CXE X.prog X.w) X E:=by
 intro bz σ H s x s' I h;obtain⟨e,C,a0,B,H',rfl,F,r⟩:=h;rw[L.xe];have m:=F.fly;rw[L.stk]at m;refine wpAny_leaves_onW (by rw[I.ok.frames,L.stk]) L.fr m λh2 A D=>?_;exact⟨e,C,a0,B,H',rfl,I.flies L.ex A D F.os F.bare F.un F.ok F.kB F.tB F.new F.free,r⟩
def xX.own {E:XK}(L:xX X E):PassesOwn (Xi X.prog X.w) X.A X.env X.xe:=by
 rw[L.xe];exact PassesOwn.leaving
end
structure J6 (K:XW)(mg:Str->Option X7)(x:Str)(C:Addr):Prop where
 g:mg x=some (.ref C)
 q:Ua K C zfQ "ValueError.__new__"=true
structure zpv (h:Heap)(C:Addr)(bm:List X7):Prop where
 ex:∃N nm qn bs hdct sn sub ab col dd k0 k1 k2 k3 k5 mN,h.get? C=some (excClassObj nm qn C N bs bm hdct sn sub ab col dd k0 k1 k2 k3 k5 "ValueError.__new__")/\h.Ns N mN/\mN "__init__"=none
 tl:OwnTail h zfQ bm
def zpw {K:XW}{h:Heap}{C:Addr}(w:K.In h)(hq:Ua K C zfQ "ValueError.__new__"=true):∃bm,zpv h C bm:=by
 unfold Ua at hq;split at hq
 .rename_i dd cd sl look;split at hq
  .rename_i C' bm k0 k1 k2 k3 n k5 em es;simp only[Wj,beq_iff_eq,WA]at hq;obtain⟨⟨⟨⟨⟨rfl,rfl⟩,r⟩,A⟩,s⟩,m⟩:=hq;obtain⟨L,bs,J,M,O,I,U,sub,E,B,G⟩:=cd;dsimp only at em r s m;subst em r;have D:sl=#[k0,k1,k2,k3,some (.builtin "ValueError.__new__"),k5]:=by
    obtain⟨l⟩:=sl;simp only at es;rw[es]
   subst D;exact⟨bm,(cF M L O bs (cF I U sub E (cF B dd k0 k1 (cE k2 k3 (cT k5 (w _ _ look) (.of_isNs (PySem.W.isNs_of_in w s)) (PySem.W.nsMap_none_of_in w s m)))))),PySem.W.tail_of_in w A⟩
  .cases hq
 .cases hq
section
variable {X:Cx}
def zqy (E:XK)(C:Addr)(t:TA):TS:=λ_ σ H=>t σ H λvs m=>vs.length<=Xv/\E (.ref C) none m
def zcF {x:Str}{C:Addr}{np w pos:Pos}{B:Expr}{m:List Expr}{t:TA}{E:XK}(L:xX X E)(O:J6 X.K X.mg x C)(hg:Gl X x)(hc:X.calm=true)(ha:PA X (B::m) t)
  (he:WV (B::m) X.env=(false,eval B X.env)::WV m X.env:=by rfl) (hp:(Tl w (WV m X.env)).any (·.1)=false:=by rfl) (G:(x==("__debug__":Str))=false:=by decide) :
  PS X (.Raise (some (.Call (.Name x np) (B::m) [] w)) none pos) (zqy E C t):=by
 intro M s σ H D I h;obtain⟨bm,⟨N,nm,qn,bs,hdct,sn,sub,ab,col,dd,k0,k1,k2,k3,k5,mN,U,Y,J⟩,T⟩:=zpw I.ok.mod.kin O.q;refine wpAny_Raise_call_subU (C:=C) (nm:=nm) (q:=qn) (N:=N) (bs:=bs) (bm:=bm) (hdct:=hdct) (sn:=sn) (sub:=sub) (ab:=ab) (col:=col) (dd:=dd) (k0:=k0) (k1:=k1) (k2:=k2) (k3:=k3) (k5:=k5)
  RM (by decide) RM (mN:=mN) (T.hasType PySem.F.excBase_ValueError.hasBase) (I.ok.hd hc) (by rw[he];show (false || (Tl w (WV m X.env)).any (·.1))=false;rw[hp];rfl) J (zan I hg O.g ⟨rfl,?_⟩ G)
 have a:=ha w M s σ H _ I h;rw[he]at a ⊢;refine Sl (thn a λus s2 ⟨vs,H1,A,r,hz,q⟩=>?_);exact⟨rfl,by rw[<- r.length];exact hz,A.bk _ _ U,Y.keeps A.bk,T.keeps A.bk,λh' e hx=>L.made A hx q⟩
def markX (X:Cx)(e:Addr):Cx:={ X with A:=X.A.mark (some (.ref e)),calm:=false,xe:=λ_ _=>False }
variable {bz:List (Addr×Obj)}{σ:St}{H:Hp}{s:X0}
def Cx.Ok.mark (ok:X.Ok)(e:Addr):(markX X e).Ok :=
 ⟨ok.mod,ok.kind,ok.glob,ok.blt,ok.above,ok.inj,ok.has,ok.cab,(λz=>nomatch z),ok.frames,ok.stk,ok.exf,ok.bs,ok.bsz,ok.noex,ok.exfs,ok.funs,ok.frf⟩
theorem Inv.mark (I:Inv X bz σ H s)(e:Addr):Inv (markX X e) bz σ H s:=⟨I.ok.mark e,I.os,I.bare,I.base,I.loc,I.cell,I.free,I.zV,I.pin,I.hok,I.len⟩
def Inv.unmark {e:Addr}(I:Inv (markX X e) bz σ H s)(ok:X.Ok):Inv X bz σ H s:=⟨ok,I.os,I.bare,I.base,I.loc,I.cell,I.free,I.zV,I.pin,I.hok,I.len⟩
def zsO (e C:Addr)(h:Heap):Prop:=∃m vs,h.get? e=some m/\m.cls=.ref C/\m.data=.fields vs
def exO (e C:Addr):HO:=.ext (zsO e C)
def Fly.caught {L J:Hp}{s1 s':X0}{e C:Addr}{a0:X7}{B h:Heap}(I:Inv X bz σ L s1)(F:Fly X.prog X.w X.stack L s1 e C a0 B J s')(G:Oq B X.stack e (.ref C) a0 h)(up:s'.heap.UpToSlots h) :
  Inv X bz σ (upd J e (exO e C)) { s' with heap:=h }:=by
 have ne:∀b o,s1.heap.get? b=some o->b≠e:=λb o q z=>by
  rw[z,F.new]at q;cases q
 have D:∀b u,J b=some u->b≠e:=λb u q=>zj q F.free;have A:∀b o,s1.heap.get? b=some o->L b=none->b∈frs X.stack->∃U,h.get? b=some { o with slots:=U }:=λb o q n s=>by
  obtain⟨_,o1,E,nf⟩:=I.stack.mem s;rw[q]at E;cases E;obtain⟨U,M⟩:=F.un.slot b o q n s (λz=>nomatch z);obtain⟨Y,O⟩:=up b _ M nf;exact⟨Y,O⟩
 refine I.call' (ch:=[]) F.os ⟨λb o q n s _=>G.1 b o (F.kB b o q n s),λb o q n s _=>A b o q n s,λb o q n _=>?_,λb o q _=>?_,λb xs q=>?_,λb o u q=>?_,λb ps q=>?_⟩ (λb ob q=>?_) F.bare λb z=>nomatch z
 .rw[zg (ne b o q)];exact F.un.free b o q n λz=>nomatch z
 .by_cases s:b∈frs X.stack
  .obtain⟨U,r⟩:=A b o q (I.stkFree b s) s;exact⟨_,r⟩
  .obtain⟨o',r⟩:=F.tB b o q s;exact⟨o',G.1 b o' r⟩
 .have r:=F.un.tups b xs q;rw[zg (D b _ r)];exact r
 .have r:=F.un.frzs b o u q;rw[zg (D b _ r)];exact r
 .obtain⟨m,r⟩:=F.un.tbls b ps q;exact⟨m,by rw[zg (D b _ r)];exact r⟩
 .by_cases s:b=e
  .subst s;rw[zb]at q;cases q;obtain⟨oe,vs,E,M,O,_⟩:=G.first;exact⟨⟨oe,vs,E,M,O⟩,⟨oe,E⟩,λg1 g2 ⟨o1,v1,r1,r2,r3⟩ k=>⟨o1,v1,k _ r1,r2,r3⟩⟩
  .rw[zg s]at q;refine(F.ok b ob q).stay (λc u _ r=>G.1 c u r) (λc r=>?_) λc xs r=>?_
   .rw[zg (D c _ r)];exact r
   .rw[zg (D c _ r)];exact r
def zoa {M:Model}{A:WK}{E:X7->X0->Prop}{s:X0}{S e C:Addr}{bm:List X7}{D:Obj}{Q:Bool->X0->Prop}(O:zpv s.heap S bm)(he:s.heap.get? e=some D)(m:D.cls=.ref C)
  (I:PySem.W.Looks M s.heap (isSubtype (.ref C) (.ref S)) true) (hq:Q true s):Xg M A (excMatches (.ref e) (.ref S)) Q E s:=by
 obtain⟨⟨N,nm,qn,bs,B,sn,sub,U,G,Y,k0,k1,k2,k3,k5,mN,w,hN,L⟩,T⟩:=O;have J:=T.hasType PySem.F.excBase_ValueError.hasBase;obtain⟨h,g,d,t,os⟩:=s;have r:(WD S::bm).contains (.type "BaseException")=true:=by rw[List.contains_cons,J,Bool.or_true]
 have f:=tc_notTuple;unfold excMatches;repeat (first | (with_reducible refine wpAny_loadPart_at he ?_;rw[m]) | with_reducible refine wpAny_loadPart_at w ?_ | (with_reducible refine wpAny_isSubtype_exc w ?_;rw[r]) | wp_step)
 refine I A _ E _ (λ_ _ q=>q) ?_;rw[bw rfl];exact XO (XO (XO hq))
end
def Fun.okX {P:Xl}{w:WY}{K:XW}{L:Str->Option X7}{base:Heap}{x r:Str}{st:Stmt}{f:Addr}{J:XF}{N ps:AD}{k:Nat}{sp:Sp}(F:Fun K x r st f J)(S:zE N ps (zp st))(len:∀vs H Q E,sp vs H Q E->vs.length=ps.length)
  (D:∀(B:X7) (A:WK) (m:List Env) (s:X0) (H:Hp) (vs:AE) (Q:VK) (E:XK),JU k (A.deeper (Qb r (zp st) s.heap.objs.size f B))->sp vs H Q E ->
   ∃t,PSs (zf1 (CXE P w) P w K L base N r (zp st) f B A m s H E) (xo st) t/\t { nx:=λ_ M=>Q .non M,rt:=Q } (start N vs) H):zY P w K L base (CXE P w) (k+1) f J ps sp:=by
 obtain⟨oc,od,kV,doc,pm,an,B,ct,Y,rfl,U,G⟩:=F.ex;exact zpt U G S len λA m s H vs Q E O I=>D B A m s H vs Q E O I
section
variable {X:Cx}{tg iter elt:Expr}{ifs:List Expr}{scope:Uw}{pos:Pos}{N:AD}{src:List (Option Nat)}{cl:List (Str×Addr)}{wi:TI}{g:TG}{tc:TT}{te:TE}
def zrW {O:List (Addr×Obj)}{σ:St}{D:Ends}{i:Nat}{x:Str}{I:Pos}(hN:X.N.Nodup)(Y:X.N[i]?=some x)(G:X.env.scope.names.lookup x=some .local):zn4 X N scope O σ (some (Od (.Name x I) X.env)) (λ_ aa=>∃ J L,Inv X O J L aa/\D.nx J L) λv L=>yD i v σ L D.nx:=by
 intro cl fp s2 H2 C H3 s4 f fn xe ac hC E M A qn;obtain⟨m,hm,_⟩:=A.loc;have w:s2.heap.objs.size<C:=by rw[hC];exact Sz _
 have IX:Inv X O σ H3 s4:=E.call' (s':=s4) (ch:=fp) A.os A.base A.hok A.bare λb B=>⟨(M b B).2.2.2.1,(M b B).2.1,(M b B).2.2.2.2.1,(M b B).2.2.2.2.2⟩;have ne:∀b o,s2.heap.get? b=some o->b≠C:=λb o e=>Xf (TU (Xz e) w);have r:∀y c,X.env.cells.lookup y=some c->c≠C:=λy c e=>by
  obtain⟨_,o,e1,_⟩:=E.cell y c e;exact ne c o e1
 have s:X.env.locals≠C:=Xf (TU E.lt w);refine wpAny_assign_Name (zd7 IX hN Y (.inl G) (v:=.ref s2.heap.objs.size) rfl (λs5 I5 ⟨a5,ab,U⟩=>?_) (.inr G));have na:a5≠C:=U.elim (λz=>by rw[z];exact s) (r _ _);exact⟨m,hm.sameBut ab (Vc na),λh' sb=>⟨_,H3,I5.turned (t':=s5.toks) (it:=C) (λb o B e=>(sb.2 b B).trans e) A.free (Vc s) (.inr (XY E.sz (TW w))) r λp hp=>ne _ _ (E.pin p hp).1,qn⟩⟩
def zlW {J:List (Addr×Obj)}{s:X0}{x:Str}{m B:Pos}{D:Ends}(I:R5 (.ListComp elt [⟨tg,iter,ifs,0⟩] scope pos) (some (.Name x m)) B.line X.env=pure true)
  (h:Xg (Xi X.prog X.w) X.A (OJ (.ListComp elt [⟨tg,iter,ifs,0⟩] scope pos) scope X.env (firstIterPos [⟨tg,iter,ifs,0⟩] pos) (newList []) false (eval iter X.env) (some (Od (.Name x m) X.env))) (λ_ E=>∃ r G,Inv X J r G E/\D.nx r G) X.xe s):Xg (Xi X.prog X.w) X.A (exec (.Assign [.Name x m] (.ListComp elt [⟨tg,iter,ifs,0⟩] scope pos) B) X.env) (SP X J D) X.xe s:=by
 rw[exec_Assign_Name_used _ _ _ _ I];refine X9 (Ry (X9 ?_));unfold evalThenUse;exact X9 (Vo h (λ_ E ⟨r,G,L,M⟩=>XO (XO ⟨r,G,L,M⟩)) λ_ _ z=>z)
def zob {i:Nat}{x:Str}{r m:Pos}(G:X.N.Nodup)(B:X.N[i]?=some x)(D:X.env.scope.names.lookup x=some .local)(ok:yI X N src scope cl)(w:X.calm=true)(hi:PI X tg iter wi)
  (J:∀C fp A s H,PG (jz X N scope cl C fp A s H) tg g) (hc:∀C fp A s H,zb3 (jz X N scope cl C fp A s H) ifs tc) (he:∀C fp A s H,PE (jz X N scope cl C fp A s H) elt te)
  (L:∀x,VM iter X.env x=pure x:=by intro _;rfl) (E:R5 (.ListComp elt [⟨tg,iter,ifs,0⟩] scope pos) (some (.Name x r)) m.line X.env=pure true:=by rfl) :
  PS X (.Assign [.Name x r] (.ListComp elt [⟨tg,iter,ifs,0⟩] scope pos) m) (zlF (zbI wi src g tc te) (yD i)):=λ_ _ _ _ _ I h=>zlW E (zf6 ok w hi J hc he L I h (zrW G B D))
end
def yI.byRfl {X:Cx}{N:AD}{s:List (Option Nat)}{m:Uw}(B:m.kind=.function)(r:∀y∈m.names,y.2 ≠ .cell)(w:∀y∈m.names,y.2=.local->m.names.lookup y.1=some .local)
  (G:(m.names.all λy=>y.2 != .free || (X.env.cells.lookup y.1).isSome)=true) (len:s.length=N.length)
  (I:((N.zip s).all λq=>match q.2 with | none=>true | some j=>X.N[j]?==some q.1&&X.env.kindOf q.1==some .cell&&(Uz m X.env).names.lookup q.1==some .cell)=true):yI X N s m (zax (λx=>X.env.cells.lookup x) m.names []):=by
 have A:∀y∈m.names,y.2=.free->(X.env.cells.lookup y.1).isSome=true:=λy hy e=>by
  have z:=WC.mp G y hy;rw[e]at z;simpa using z
 refine⟨B,r,w,YI A,λx c h=>?_,λx h=>?_,len,λi j x D E=>?_⟩
 .rcases YU _ _ _ (Wt h) with z | z
  .cases z
  .exact z
 .refine Vi.mp (zga _ _ (.inr ?_));have hm:(x,Tt)∈m.names\/(x,NameKind.free)∈m.names:=by
   rcases h with h | h
   .exact J5 (Wt h) (.inl rfl)
   .exact J5 (Wt h) (.inr rfl)
  rcases hm with hm | hm
  .exact absurd rfl (r _ hm)
  .exact⟨hm,A _ hm rfl⟩
 .have hm:(x,some j)∈N.zip s:=X4 (i:=i) (by rw[RK];exact⟨D,E⟩);have z:=WC.mp I _ hm;simp only[Wj,beq_iff_eq]at z;exact⟨z.1.1,.inl z.1.2,.inl z.2⟩
structure xC (X:Cx)(N:AD)(src:List (Option Nat))(scope:Uw)(cl:List (Str×Addr))(y:Str):Prop where
 kind:scope.kind=.function
 one:∀n acc,R4 n scope.names acc=(y,n)::acc
 push:∀h,Ol h scope.names=h.push { cls:=.type "cell",data:=.cell none }
 names:∀y∈scope.names,y.2=.local->scope.names.lookup y.1=some .local
 clos:Oz scope X.env=pure cl
 sub:∀x c,cl.lookup x=some c->X.env.cells.lookup x=some c
 has:∀x,((Uz scope X.env).names.lookup x=some .cell\/(Uz scope X.env).names.lookup x=some .free)->x=y\/∃c,cl.lookup x=some c
 len:src.length=N.length
 pulls:∀(i j:Nat) (x:Str),N[i]?=some x->src[i]?=some (some j)->X.N[j]?=some x/\(X.env.kindOf x=some .cell\/X.env.kindOf x=some .free)/\((Uz scope X.env).names.lookup x=some .cell\/(Uz scope X.env).names.lookup x=some .free)
 pny:∀(i j:Nat) (x:Str),N[i]?=some x->src[i]?=some (some j)->x≠y
def xC.has1 {X:Cx}{N:AD}{r:List (Option Nat)}{m:Uw}{cl:List (Str×Addr)}{y:Str}{C:Addr}(ok:xC X N r m cl y)(x:Str)(h:(Uz m X.env).names.lookup x=some .cell\/(Uz m X.env).names.lookup x=some .free):∃c,RE x ((y,C)::cl)=some c:=by
 rw[SA];cases q:x==y with
 | true=>exact⟨_,rfl⟩
 | false =>
  rcases ok.has x h with z | z
  .rw[z]at q;simp at q
  .exact z
def xC.byRfl {X:Cx}{N:AD}{r:List (Option Nat)}{m:Uw}{y:Str}(E:m.kind=.function)(one:∀n B,R4 n m.names B=(y,n)::B)(G:∀h,Ol h m.names=h.push { cls:=.type "cell",data:=.cell none })
  (only:∀z∈m.names,z.2=.cell->z.1=y) (A:∀y∈m.names,y.2=.local->m.names.lookup y.1=some .local)
  (J:(m.names.all λy=>y.2 != .free || (X.env.cells.lookup y.1).isSome)=true) (len:r.length=N.length)
  (L:((N.zip r).all λq=>match q.2 with | none=>true | some j=>X.N[j]?==some q.1&&X.env.kindOf q.1==some .cell&&(Uz m X.env).names.lookup q.1==some .cell&&q.1 != y)=true):xC X N r m (zax (λx=>X.env.cells.lookup x) m.names []) y:=by
 have D:∀y∈m.names,y.2=.free->(X.env.cells.lookup y.1).isSome=true:=λy hy e=>by
  have z:=WC.mp J y hy;rw[e]at z;simpa using z
 have I:∀(i j:Nat) (x:Str),N[i]?=some x->r[i]?=some (some j)->(X.N[j]?=some x/\X.env.kindOf x=some .cell/\(Uz m X.env).names.lookup x=some .cell)/\x≠y:=λi j x s w=>by
  have hm:(x,some j)∈N.zip r:=X4 (i:=i) (by rw[RK];exact⟨s,w⟩);have z:=WC.mp L _ hm;simp only[Wj,beq_iff_eq,bne_iff_ne]at z;exact⟨⟨z.1.1.1,z.1.1.2,z.1.2⟩,z.2⟩
 refine⟨E,one,G,A,YI D,λx c h=>?_,λx h=>?_,len,λi j x s w=>⟨(I i j x s w).1.1,.inl (I i j x s w).1.2.1,.inl (I i j x s w).1.2.2⟩,λi j x s w=>(I i j x s w).2⟩
 .rcases YU _ _ _ (Wt h) with z | z
  .cases z
  .exact z
 .have hm:(x,Tt)∈m.names\/(x,NameKind.free)∈m.names:=by
   rcases h with h | h
   .exact J5 (Wt h) (.inl rfl)
   .exact J5 (Wt h) (.inr rfl)
  rcases hm with hm | hm
  .exact .inl (only _ hm rfl)
  .exact .inr (Vi.mp (zga _ _ (.inr ⟨hm,D _ hm rfl⟩)))
def yL (X:Cx)(N:AD)(m:Uw)(cl:List (Str×Addr))(y:Str)(C:Addr)(fp:List Addr)(r:List (Addr×Obj))(s:X0)(H:Hp):Cx :=
 { jz X N m ((y,C+1)::cl) C fp r s H with fn:=λx=>decide (x=y) }
def zoc {M:Model}{A:WK}{E:X7->X0->Prop}{s:X0}{m:Uw}{r:Addr}{cl:List (Str×Addr)}{w:Str}{D:Env}{y:Str}{Q:Env->X0->Prop}(one:∀n B,R4 n m.names B=(y,n)::B)(I:∀h,Ol h m.names=h.push { cls:=.type "cell",data:=.cell none })
  (O:Q (newEnv m s.heap.objs.size r ((y,s.heap.objs.size+1)::cl) w none .none (some D) OB) { s with heap:=(s.heap.push { cls:=.type "dict",data:=.dict #[] }).push { cls:=.type "cell",data:=.cell none } }) :
  Xg M A (newFunctionEnv m r cl [] w none .none (some D)) Q E s:=by
 simp only[newFunctionEnv,Option.isSome_some,if_true];refine X9 (wpAny_alloc ?_);refine X9 (wpAny_layCells _ (λL G J=>by cases hkc:G==Tt<;>simp[hkc]) _ _ _ _ ?_);rw[I,one,show ({ s with heap:=s.heap.push { cls:=.type "dict",data:=.dict #[] } }:X0).heap.objs.size=s.heap.objs.size+1 from UR ..];exact X9 (XO (XO O))
section
variable {X:Cx}{tg iter elt:Expr}{ifs:List Expr}{scope:Uw}{pos:Pos}{N:AD}{src:List (Option Nat)}{cl:List (Str×Addr)}{wi:TI}{g:TG}{tc:TT}{te:TE}{y:Str}
def zgf {O:List (Addr×Obj)}{σ:St}{H:Hp}{s:X0}{fp:List Addr}{J:Heap}{C:Addr}{tk:Nat}(ok:xC X N src scope cl y)(I:Inv X O σ H s)(hf:∀b∈fp,zao X O H b)(ho:∀b∈fp,∃o,s.heap.get? b=some o)
  (U:C=s.heap.objs.size+1) (k:∀b u,s.heap.get? b=some u->J.get? b=some u) (hD:J.get? s.heap.objs.size=some { cls:=.type "list",data:=.seq #[] }) {m:Str->Option X7} (hn:J.Ns C m) (ac:J.IsCell (C+1) none) :
  Inv (yL X N scope cl y C fp O s H) [] (pull src σ) (upd H s.heap.objs.size (.lst [])) { s with heap:=J,toks:=tk }:=by
 have lt:∀b o,s.heap.get? b=some o->b<s.heap.objs.size:=λb o e=>Xz e;have nC:∀b o,s.heap.get? b=some o->b≠C:=λb o e=>by rw[U];exact Xf (Wf (lt b o e))
 have nD:∀b o,s.heap.get? b=some o->b≠s.heap.objs.size:=λb o e=>Xf (lt b o e);have fr:∀b,s.heap.objs.size<=b->H b=none:=λb E=>I.hok.fresh E;have ab:∀b,b≠X.env.locals->b ∉ X.fs->b ∉ frs X.stack:=λb J h2 z=>(XQ.mp (I.stkSub b z)).elim J h2;have aa:∀b o,s.heap.get? b=some o->b≠C+1:=λb o e=>by rw[U];exact Xf (Wf (Wf (lt b o e)))
 have own:∀x c,RE x ((y,C+1)::cl)=some c->(x=y/\c=C+1)\/(x≠y/\X.env.cells.lookup x=some c):=λx c e=>by
  rw[SA]at e;cases q:x==y with
  | true =>
   rw[q]at e;exact .inl ⟨by simpa using q,(Option.some.inj e).symm⟩
  | false =>
   rw[q]at e;exact .inr ⟨by simpa using q,ok.sub x c e⟩
 have G:∀x c,X.env.cells.lookup x=some c->c≠C+1:=λx c e=>by
  obtain⟨_,o,B,_⟩:=I.cell x c e;exact aa c o B
 refine⟨⟨I.ok.mod,ok.kind,I.ok.glob,I.ok.blt,by rw[show (yL X N scope cl y C fp O s H).env.locals=C from rfl,U];exact VO _,?inj,ok.has1,?cab,I.ok.hd,I.ok.frames,.inl rfl,λb E=>?_,I.bs,XY I.ok.bsz I.sz,λb o e E=>?_,λb E hz=>?_,I.stack,I.stkFree⟩,rfl,I.bare,Un.laid k (XR _) (fr _ (XR _)),⟨m,hn,λi x v B A e3=>?_⟩,λx c e=>?_,?_,λx c e=>?_,λp hp=>?_,I.hok.laid k (XR _) ⟨W3 _,[],0,.nil,hD⟩,?_⟩
 case inj =>
  intro x x' c B A
  rcases own x c B with ⟨L,w⟩ | ⟨L,w⟩
  .rcases own x' c A with ⟨b1,M⟩ | ⟨b1,M⟩
   .rw[L,b1]
   .exact absurd w (G x' c M)
  .rcases own x' c A with ⟨b1,M⟩ | ⟨b1,M⟩
   .exact absurd M (G x c w)
   .exact I.ok.inj x x' c w M
 case cab =>
  intro x c z e
  have zy:x=y:=bg z
  rcases own x c e with ⟨_,w⟩ | ⟨L,_⟩
  .rw[w,U];exact T7 (VO _)
  .exact absurd zy L
 .obtain⟨o,e⟩:=ho b E;refine⟨nC b o e,λx c z=>?_⟩;rcases own x c z with ⟨_,w⟩ | ⟨_,w⟩
  .rw[w];exact Vc (aa b o e)
  .exact(hf b E).2.2.2.2.1 x c w
 .rcases(hf b E).2.2.2.1 with z | z
  .exact I.ok.noex b o e z
  .exact absurd (Xj (Xz (I.ok.bs b o e).1) z) (VL _)
 .exact ab b (hf b E).2.1 (hf b E).2.2.1 hz
 .have hi:i<src.length:=by
   have:=(XV.mp A).1;unfold pull at this;rw[ZB]at this;exact this
  unfold pull at A;rw[XC,XX hi]at A;cases q:src[i] with
  | none=>rw[q]at A;cases A
  | some j =>
   rw[q]at A;have D:(σ[j]?).getD none=some v:=Option.some.inj A;have e4:σ[j]?=some (some v):=by
    cases z:σ[j]? with
    | none=>rw[z]at D;cases D
    | some o=>rw[z]at D;exact congrArg some D
   obtain⟨p1,p2,p3⟩:=ok.pulls i j x B (by rw[XX hi,q]);obtain⟨m',ah,hl⟩:=I.loc;obtain⟨u,r,l⟩:=hl j x v p1 e4 (by
    rcases p2 with z | z
    .exact .inr (.inl z)
    .exact .inr (.inr z))
   refine⟨u,r,.inr ⟨p3,?_⟩⟩;obtain⟨c,hc⟩:=ok.has1 x p3;refine⟨c,hc,?_⟩;rcases l with ⟨z,_⟩ | ⟨_,c',Y,o,af,ae⟩
   .rcases p2 with y | y<;>rw[z]at y<;>cases y
   .rcases own x c hc with ⟨L,_⟩ | ⟨_,w⟩
    .exact absurd L (ok.pny i j x B (by rw[XX hi,q]))
    .rw[w]at Y;cases Y;exact⟨o,k _ o af,ae⟩
 .rcases own x c e with ⟨_,w⟩ | ⟨_,w⟩
  .rw[w];exact⟨_,ac⟩
  .obtain⟨v,o,B,A⟩:=I.cell x c w;exact⟨v,o,k c o B,A⟩
 .show upd H s.heap.objs.size (.lst []) C=none;rw[U,zg (UX _)];exact fr _ (VO _)
 .show upd H s.heap.objs.size (.lst []) c=none;rcases own x c e with ⟨_,w⟩ | ⟨_,w⟩
  .rw[w,U,zg (TV (Wf (Sz _)))];exact fr _ (T7 (VO _))
  .obtain⟨v,o,B,A⟩:=I.cell x c w;rw[zg (nD c o B)];exact I.zV x c w
 .have ag:p∈X.pn++O:=by
   have:p∈(X.pn++O)++[]:=hp;simpa using this
  obtain⟨B,A,e3,e4,e5⟩:=I.pin p ag;refine⟨k _ _ B,?_,nC _ _ B,ab _ e3 e4,e5⟩;show upd H s.heap.objs.size (.lst []) p.1=none;rw[zg (nD _ _ B)];exact A
 .unfold pull;rw[ZB];exact ok.len
section
variable {bz:List (Addr×Obj)}{σ:St}{H:Hp}{s:X0}{use:Option (X7->Sem Unit)}{R:X7->X0->Prop}{Q:VK}{p2:Pos}
def zkx (ok:xC X N src scope cl y)(m:X.calm=true)(hi:PI X tg iter wi)
  (hg:∀C fp bz s H,PG (yL X N scope cl y C fp bz s H) tg g) (hc:∀C fp bz s H,zb3 (yL X N scope cl y C fp bz s H) ifs tc) (he:∀C fp bz s H,PE (yL X N scope cl y C fp bz s H) elt te)
  (hs:∀x,VM iter X.env x=pure x) (I:Inv X bz σ H s) (h:zbI wi src g tc te σ H Q) (D:zn4 X N scope bz σ use R Q):Xg (Xi X.prog X.w) X.A (OJ (.ListComp elt [⟨tg,iter,ifs,0⟩] scope pos) scope X.env p2 (newList []) false (eval iter X.env) use) R X.xe s:=by
 refine Ru (use:=use) rfl hs ok.clos ok.kind ok.names (thn (hi bz s σ H _ I h) λxv s1 U=>thn U λaa G Y=>?_);revert Y;refine dQ λit fp tn J H2=>dh λe r T L B q2=>?_;subst e;refine Vz (zoc ok.one ok.push ?_);generalize hP:G.heap.push { cls:=.type "list",dict:=none,data:=.seq ([]:List X7).toArray }=P2;have E:P2.objs.size=G.heap.objs.size+1:=by rw[<- hP,UR]
 have M:(P2.push { cls:=.type "dict",data:=.dict #[] }).objs.size=P2.objs.size+1:=UR ..;refine zf5 E m (λz=>z.elim) (hg _ _ _ _ _) (hc _ _ _ _ _) (he _ _ _ _ _) r T L B (q2 _ (r.hok.fresh (XR _))) (λb u e=>?_) (λx c z=>?_) (λho=>zgf (tk:=G.toks) ok r B ho E (λb u e=>?_) ?_ ((Heap.Ns.new P2 _).push _) ?_) λ_ _ _ _ O qn=>D E r B O qn
 .exact XS _ (XS _ (hP ▸ XS _ e))
 .show _\/P2.objs.size<=c;have z:RE x ((y,P2.objs.size+1)::cl)=some c:=z;rw[SA]at z;cases q:x==y with
  | true =>
   rw[q]at z;rw[<- Option.some.inj z];exact .inr (VO _)
  | false =>
   rw[q]at z;exact .inl (ok.sub x c z)
 .exact XS _ (XS _ (hP ▸ XS _ e))
 .exact XS _ (XS _ (hP ▸ W1 _ rfl))
 .rw[<- M];exact⟨_,W1 _ rfl,rfl⟩
end
def zlX (ok:xC X N src scope cl y)(m:X.calm=true)(hi:PI X tg iter wi)
  (w:∀C fp r s H,PG (yL X N scope cl y C fp r s H) tg g) (hc:∀C fp r s H,zb3 (yL X N scope cl y C fp r s H) ifs tc) (he:∀C fp r s H,PE (yL X N scope cl y C fp r s H) elt te)
  (A:∀x,VM iter X.env x=pure x:=by intro _;rfl):PE X (.ListComp elt [⟨tg,iter,ifs,0⟩] scope pos) (zbI wi src g tc te):=λ_ _ _ _ _ I h=>zkx ok m hi w hc he A I h zpu
end
section
variable {X:Cx}{K:XW}
def zed (m:X.K=K)(hc:X.calm=true):qZ X (.builtin "any") (λxs H Q=>∃(l:Addr) (bs:List Bool),xs=[.ref l]/\SqL K H l (bs.map V.bl)/\Q (.bl (bs.any id)) H):=by
 subst m;exact zcE hc
def zgg {tg l:Expr}{tl:TE}(m:X.K=K)(hl:PE X l tl):PI X tg l (zpp K tl):=by
 subst m;exact zJ hl
end
def EF:XK:=λ_ _ _=>False
def zrX {X:Cx}:Passes (CXE X.prog X.w) X EF:=by
 intro D σ H s x E I h;obtain⟨e,C,A,B,r,rfl,F,m⟩:=h;exact m.elim
def zhR {α:Type}(d:α)(xs:List α):((WG xs.length).map λi=>xs.getD i d)=xs:=by
 refine List.ext_getElem (by simp) λi r m=>?_;simp[m]
def zi7 (p:Int×Int):lt2 p p=false:=by
 unfold lt2;rw[bw rfl,bf (by lia)]
def zch {p q:Int×Int}(h:p≠q):lt2 q p=!lt2 p q:=by
 unfold lt2;obtain⟨a,b⟩:=p;obtain⟨c,d⟩:=q;simp only;by_cases e:a=c
 .subst e;rw[bw rfl,bw rfl];have m:b≠d:=λz=>h (by rw[z]);by_cases l:b<d
  .rw[br l,bf (by lia)];rfl
  .rw[bf l,br (by lia)];rfl
 .rw[bq e,bq (λz=>e z.symm)];by_cases l:a<c
  .rw[br l,bf (by lia)];rfl
  .rw[bf l,br (by lia)];rfl
def zhS {p q r:Int×Int}(A:lt2 p q=true)(s:lt2 q r=true):lt2 p r=true:=by
 unfold lt2 at *
 obtain⟨a,b⟩:=p;obtain⟨c,d⟩:=q;obtain⟨e,f⟩:=r;simp only at *
 by_cases w:a=c
 .subst w;rw[bw rfl,bu]at A;by_cases m:a=e
  .subst m;rw[bw rfl,bu]at s ⊢;lia
  .rw[bq m]at s ⊢;exact s
 .rw[bq w,bu]at A;by_cases m:c=e
  .subst m;rw[bq w,bu];exact A
  .rw[bq m,bu]at s;rw[bq (by lia),bu];lia
def Up2 (ps:List (Int×Int)):Prop:=ps.Pairwise λp q=>lt2 p q=true
end L2
namespace PySem.SeqAt
open L2 AutoSeq1 MeetsSeq MeetsSeq2 MeetsSeq3
def Q6 (A:WK)(s:X0)(y x:X7)(b:Bool):Prop:=∀(m:Xl) (w:WY) (E:X7->X0->Prop) (Q:X7->X0->Prop),Q (.bool b) s->Xg (Xi m w) A (richCompare .Lt y x) Q E s
def Q6.int_int {A:WK}{s:X0}(a:Int)(t:Tok)(b:Int)(u:Tok):Q6 A s (.int a t) (.int b u) (decide (a<b)):=λm w E Q h=>wpAny_lt_int h
def zhT (l b:Addr)(x y D r:Int)(t u J L:Tok)(n n2:Nat)(dd E:Option Addr)(sl I:Array (Option X7)) :
  Meets (UM.«tuple.__lt__» ⟨[.ref l,.ref b],[]⟩)
   (λ_ R s=>s.heap.get? l=some { cls:=.type "tuple",dict:=dd,data:=.seq #[.int x t,.int y u] n,slots:=sl }/\s.heap.get? b=some { cls:=.type "tuple",dict:=E,data:=.seq #[.int D J,.int r L] n2,slots:=I } /\
    R (.ok (.ret (.bool (lt2 (x,y) (D,r))))) s) :=
 .of_wp λm w A R s h=>by
  obtain⟨Y,g1,d1,ab,aa⟩:=s;obtain⟨U,O,h⟩:=h;have fT:=sub_tuple_tuple;wp_walk using Wg U,Wg O;refine EqAt.int_int x t D J m w _ _ ?_;unfold lt2 at h;by_cases e:x=D
  .have G:(x==D)=true:=by simpa using e
   rw[G];rw[bw e]at h;wp_walk;refine EqAt.int_int y u r L m w _ _ ?_;by_cases M:y=r
   .have B:(y==r)=true:=by simpa using M
    rw[B];rw[bf (by show ¬ y<r;lia)]at h;wp_walk;exact⟨_,rfl,h⟩
   .have B:(y==r)=false:=by simpa using M
    rw[B];simp only[Bool.not_false,if_true];refine X9 (US (X9 (Q6.int_int y u r L m w _ _ ?_)));wp_walk;exact⟨_,rfl,h⟩
  .have G:(x==D)=false:=by simpa using e
   rw[G];rw[bq e]at h;simp only[Bool.not_false,if_true];refine X9 (US (X9 (Q6.int_int x t D J m w _ _ ?_)));wp_walk;exact⟨_,rfl,h⟩
def Q6.pairs {A:WK}{s:X0}{v Y:X7}{p q:Int×Int}(hv:zw s.heap v p)(G:zw s.heap Y q)(hu:A.units<VD):Q6 A s v Y (lt2 p q):=λU w E Q h=>by
 obtain⟨a,⟨aa,dd,M,sl⟩,n,t,u,rfl,O,c1,L⟩:=hv;obtain⟨a',⟨J,D,data2,I⟩,n',t',u',rfl,B,m,r⟩:=G;simp only at c1 L m r;subst c1 L m r;exact richCompare_meets_room (op:=.Lt) ⟨_,O,rfl⟩ ⟨_,B,rfl⟩ F.slot_tuple_lt F.entry_tuple_lt (F.args_tuple_lt_2 _ _) (zhT a a' p.1 p.2 q.1 q.2 t u t' u' n n' dd D sl I)
  ⟨O,B,show OC (lt2 p q)≠Value.notImplemented/\Q (.bool (lt2 p q)) s from ⟨(λx=>nomatch x),h⟩⟩ hu
def QN {h:Heap}{v:X7}{p:Int×Int}(hv:zw h v p):∃as,Reads h v (.tuple [.int p.1,.int p.2]) as:=by
 obtain⟨a,o,n,t,u,rfl,r,c1,m⟩:=hv;exact⟨_,.tuple r c1 m (.cons (.int _ _) (.cons (.int _ _) .nil))⟩
def zky (p q:Int×Int):WQ (.tuple [.int p.1,.int p.2]) (.tuple [.int q.1,.int q.2])=decide (p=q):=by
 obtain⟨a,b⟩:=p;obtain⟨c,d⟩:=q;show ((a==c)&&((b==d)&&true))=_;by_cases m:a=c
 .by_cases r:b=d
  .subst m r;simp
  .simp[r]
 .simp[m]
end PySem.SeqAt
namespace L2
open PySem PySem.Spec PyProof.Rows PySem.W PySem.SeqAt
open PySem PySem.Spec PyProof.Rows
section
variable {κ:Type} [DecidableEq κ]
def jn (kvs:List (κ × V))(k:κ):Option V:=(kvs.find? λm=>decide (m.1=k)).map (·.2)
def putK (kvs:List (κ × V))(k:κ)(v:V):List (κ × V) :=
 if (kvs.any λm=>decide (m.1=k))=true then kvs.map (λm=>if m.1=k then (m.1,v) else m) else kvs++[(k,v)]
def jD {p:κ × V}{r:List (κ × V)}{k:κ}(e:p.1=k):jn (p::r) k=some p.2:=by simp[jn,VH,e]
def jE {p:κ × V}{r:List (κ × V)}{k:κ}(e:¬ p.1=k):jn (p::r) k=jn r k:=by simp[jn,VH,e]
theorem zay (k:κ):∀kvs:List (κ × V),(kvs.any λm=>decide (m.1=k))=(jn kvs k).isSome
 | []=>rfl
 | p::r=>by
  rw[Sw];by_cases e:p.1=k
  .simp only[jD e,br e,Bool.true_or,Option.isSome_some]
  .rw[jE e,bf e,Bool.false_or];exact zay k r
theorem zgh (k j:κ)(y:V):∀kvs:List (κ × V),jn (kvs.map λm=>if m.1=k then (m.1,y) else m) j=(jn kvs j).map λx=>if j=k then y else x
 | []=>rfl
 | p::r=>by
  have s:=zgh k j y r;rw[Xu];by_cases h:p.1=k
  .rw[bw h];by_cases e:p.1=j
   .rw[jD (p:=(p.1,y)) e,jD e,Ue,bw (e.symm.trans h)]
   .rw[jE (p:=(p.1,y)) e,jE e,s]
  .rw[bq h];by_cases e:p.1=j
   .rw[jD (p:=p) e,jD e,Ue,bq (λz=>h (e.trans z))]
   .rw[jE (p:=p) e,jE e,s]
theorem zee (k j:κ)(y:V):∀kvs:List (κ × V),jn kvs k=none->jn (kvs++[(k,y)]) j=if j=k then some y else jn kvs j
 | [],_=>by
  by_cases e:k=j
  .rw[bw e.symm];exact jD (p:=(k,y)) e
  .rw[bq (λz=>e z.symm)];exact jE (p:=(k,y)) e
 | p::r,hn=>by
  rw[Rl];have hk:¬ p.1=k:=λz=>by rw[jD z]at hn;cases hn
  rw[jE hk]at hn;have m:=zee k j y r hn;by_cases e:p.1=j
  .rw[jD e,jD e,bq (λz=>hk (e.trans z))]
  .rw[jE e,jE e,m]
def zgi (kvs:List (κ × V))(k j:κ)(y:V):jn (putK kvs k y) j=if j=k then some y else jn kvs j:=by
 unfold putK;by_cases a:(kvs.any λm=>decide (m.1=k))=true
 .rw[bw a,zgh];rw[zay]at a;by_cases e:j=k
  .obtain⟨x,hx⟩:=Vi.mp a;rw[bw e,e,hx,Ue,bw rfl]
  .rw[bq e];cases jn kvs j with
   | none=>rfl
   | some x=>rw[Ue,bq e]
 .rw[bq a];refine zee k j y kvs ?_;rw[zay]at a;cases q:jn kvs k with
  | none=>rfl
  | some x=>rw[q]at a;exact(a rfl).elim
def YV (kvs:List (κ × V))(k:κ)(v:V):(putK kvs k v).length<=kvs.length+1:=by
 unfold putK;split
 .rw[ZB];lia
 .rw[X6,Xn,U7];lia
def ze0.isSome_eq {o:Option V}{u:Option X7}(r:ze0 o u):o.isSome=u.isSome:=by
 cases o with
 | none=>cases u with
  | none=>rfl
  | some _=>exact(show False from r).elim
 | some _=>cases u with
  | none=>exact(show False from r).elim
  | some _=>rfl
theorem ze0.getD {o:Option V}{u:Option X7}{d:V}{d':X7}(r:ze0 o u)(m:RelV d d'):RelV (o.getD d) (u.getD d'):=by
 cases o with
 | none=>cases u with
  | none=>exact m
  | some _=>exact(show False from r).elim
 | some _=>cases u with
  | none=>exact(show False from r).elim
  | some _=>exact r
def KV.val {kvs:List (κ × V)}{vs:List (κ × X7)}(r:KV kvs vs)(k:κ):ze0 (jn kvs k) (Ot vs k):=by
 unfold KV at r;induction r with
 | nil=>exact Uq
 | @cons p q ps s h t B =>
  obtain⟨w,A⟩:=h;by_cases e:p.1=k
  .have m:q.1=k:=w.symm.trans e;have b:Ot (q::s) k=some q.2:=by simp[Ot,VH,m]
   rw[jD e,b];exact A
  .have m:¬ q.1=k:=λz=>e (w.trans z);have b:Ot (q::s) k=Ot s k:=by simp[Ot,VH,m]
   rw[jE e,b];exact B
theorem KV.any {kvs:List (κ × V)}{vs:List (κ × X7)}(r:KV kvs vs)(k:κ):(kvs.any λm=>decide (m.1=k))=vs.any λm=>decide (m.1=k):=by
 unfold KV at r;induction r with
 | nil=>rfl
 | cons h t s=>rw[Sw,Sw,s,h.1]
def KV.repl {kvs:List (κ × V)}{vs:List (κ × X7)}(r:KV kvs vs)(k:κ){y:V}{u:X7}(B:RelV y u) :
  KV (kvs.map λm=>if m.1=k then (m.1,y) else m) (vs.map λm=>if m.1=k then (m.1,u) else m):=by
 unfold KV at r ⊢;induction r with
 | nil=>exact .nil
 | @cons p q ps D h t A =>
  rw[Xu,Xu];refine .cons ?_ A;obtain⟨s,w⟩:=h;by_cases e:p.1=k
  .rw[bw e,bw (s.symm.trans e)];exact⟨s,B⟩
  .rw[bq e,bq (λz=>e (s.trans z))];exact⟨s,w⟩
def KV.put {kvs:List (κ × V)}{vs:List (κ × X7)}(r:KV kvs vs)(k:κ){y:V}{u:X7}(m:RelV y u):KV (putK kvs k y) (stored vs k u):=by
 unfold putK stored;rw[r.any k];by_cases e:(vs.any λs=>decide (s.1=k))=true
 .rw[bw e,bw e];exact r.repl k m
 .rw[bq e,bq e];exact Paired.snoc r ⟨rfl,m⟩
end
def zi8 {P:Xl}{w:WY}{k:Key}{u:X7}(r:RelV (kV k) u):(zT P w).is k u=true:=by
 cases k with
 | inl i=>obtain⟨t,e⟩:=(show ∃t,u=Vt i t from r);subst e;exact zfR P w i t
 | inr x=>obtain⟨t,e⟩:=(show ∃t,u=Om x t from r);subst e;exact zfS P w x t
theorem zef {P:Xl}{w:WY}:∀{ks:List Key} {m:List X7},Vals (ks.map kV) m->ItemsAre (zT P w) ks m
 | [],_,r=>by rw[Sa]at r;cases r;exact .nil
 | k::ks,_,r=>by
  rw[Xu]at r;cases r with
  | cons h t=>exact .cons (zi8 h) (zef t)
abbrev KT (H:Hp):List (List Key×V)->List (List Key×Addr×X7)->Prop:=XG λp q=>p.1=q.1/\H q.2.1=some (.tup (p.1.map kV))/\RelV p.2 q.2.2
def KT.val {H:Hp}{kvs:List (List Key×V)}{xs:List (List Key×Addr×X7)}(r:KT H kvs xs)(k:List Key):ze0 (jn kvs k) ((Ov xs k).map (·.2)):=by
 induction r with
 | nil=>exact Uq
 | @cons p q ps s h t B =>
  obtain⟨w,_,A⟩:=h;by_cases e:p.1=k
  .have m:q.1=k:=w.symm.trans e;have b:Ov (q::s) k=some q.2:=by simp[Ov,VH,m]
   rw[jD e,b];exact A
  .have m:¬ q.1=k:=λz=>e (w.trans z);have b:Ov (q::s) k=Ov s k:=by simp[Ov,VH,m]
   rw[jE e,b];exact B
def KT.repl {H:Hp}{kvs:List (List Key×V)}{xs:List (List Key×Addr×X7)}(r:KT H kvs xs)(k:List Key){y:V}{u:X7}(D:RelV y u) :
  KT H (kvs.map λs=>if s.1=k then (s.1,y) else s) (xs.map (putAt k u)):=by
 induction r with
 | nil=>exact .nil
 | @cons p q ps E h t B =>
  rw[Xu,Xu];refine .cons ?_ B;obtain⟨m,w,A⟩:=h;unfold putAt;by_cases e:p.1=k
  .rw[bw e,bw (m.symm.trans e)];exact⟨m,w,D⟩
  .rw[bq e,bq (λz=>e (m.trans z))];exact⟨m,w,A⟩
def KT.put {H:Hp}{kvs:List (List Key×V)}{xs:List (List Key×Addr×X7)}(r:KT H kvs xs)(k:List Key){b:Addr}{y:V}{u:X7}(s:H b=some (.tup (k.map kV)))(m:RelV y u) :
  KT H (putK kvs k y) (Uy xs k b u):=by
 have e:(kvs.any λw=>decide (w.1=k))=(Ov xs k).isSome:=by
  rw[zay,(r.val k).isSome_eq,Option.isSome_map]
 unfold putK Uy;rw[e];by_cases q:(Ov xs k).isSome=true
 .rw[bw q,bw q];exact r.repl k m
 .rw[bq q,bq q];exact Paired.snoc r ⟨rfl,s,m⟩
def KT.keeps {H m:Hp}{kvs:List (List Key×V)}{xs:List (List Key×Addr×X7)}(r:KT H kvs xs)(s:∀b ys,H b=some (.tup ys)->m b=some (.tup ys)):KT m kvs xs :=
 Paired.mapP r λ_ _ z=>⟨z.1,s _ _ z.2.1,z.2.2⟩
section
variable {P:Xl}{w:WY}{H:Hp}{h:Heap}{a:Addr}
def zpx {u:HO}(ok:HOk P w H h)(e:Rd H a u):qN P w H h a u:=e.ok ok
def zi9 {kvs:List (Key×V)}(ok:HOk P w H h)(e:Rd H a (.dK kvs)):kvs.length<=Xv/\(a==U9)=false/\∃vs,KV kvs vs/\h.DictOf (zT P w) a vs :=
 show qN P w H h a (.dK kvs) from zpx ok e
def zrY {kvs:List (Key×V)}(ok:HOk P w H h)(e:H a=some (.dK kvs)):kvs.length<=Xv/\(a==U9)=false/\∃vs,KV kvs vs/\h.DictOf (zT P w) a vs:=zi9 ok (.inl e)
def zfc {ks:List Key}(ok:HOk P w H h)(e:H a=some (.tup (ks.map kV))):(VW (zT P w)).is h ks a:=by
 obtain⟨_,m,r,o,s,A,n,B⟩:=(show qN P w H h a (.tup (ks.map kV)) from ok a _ e);exact⟨o,m.toArray,n,s,A,B,by simpa using zef r⟩
def zja {kvs:List (List Key×V)}(ok:HOk P w H h)(e:Rd H a (.dT kvs)):kvs.length<=Xv/\(a==U9)=false /\
  ∃xs,KT H kvs xs/\h.DictOfH (VW (zT P w)) a xs:=by
 refine c9 (λz y=>dm λxs r=>dB λo A s B D E G I=>?_) (show qN P w H h a (.dT kvs) from zpx ok e);refine⟨z,y,xs,r,o,A,s,B,D,E,G,λx hx=>?_,I⟩;have all:∀{l:List (List Key×V)} {m:List (List Key×Addr×X7)},KT H l m->∀x∈m,(VW (zT P w)).is h x.1 x.2.1:=by
  intro l m q;induction q with
  | nil=>intro x hx;exact nomatch hx
  | @cons p q ps L hq t J =>
   intro x hx;rcases XQ.mp hx with e | hx
   .subst e;exact zfc ok (by rw[<- hq.1];exact hq.2.1)
   .exact J x hx
 exact all r x hx
def zpy {kvs:List (List Key×V)}(ok:HOk P w H h)(e:H a=some (.dT kvs)):kvs.length<=Xv/\(a==U9)=false /\
  ∃xs,KT H kvs xs/\h.DictOfH (VW (zT P w)) a xs:=zja ok (.inl e)
end
def zcG (H:Hp)(a:Addr)(y:V)(r:Option V):Prop :=
 (∃kvs k,Rd H a (.dK kvs)/\y=kV k/\r=jn kvs k)\/∃kvs k b,Rd H a (.dT kvs)/\y=.ref b/\H b=some (.tup (k.map kV))/\r=jn kvs k
theorem zcG.k {H:Hp}{a:Addr}{kvs:List (Key×V)}{k:Key}(e:H a=some (.dK kvs)):zcG H a (kV k) (jn kvs k):=.inl ⟨kvs,k,.inl e,rfl,rfl⟩
def zcG.t {H:Hp}{a b:Addr}{kvs:List (List Key×V)}{k:List Key}(e:H a=some (.dT kvs))(m:H b=some (.tup (k.map kV))):zcG H a (.ref b) (jn kvs k):=.inr ⟨kvs,k,b,.inl e,rfl,m,rfl⟩
section
variable {X:Cx}{bz:List (Addr×Obj)}{σ:St}{H:Hp}{s:X0}{a:Addr}{y v:V}{u r:X7}{o:Option V}{A:WK}{E:X7->X0->Prop}
def Inv.big (I:Inv X bz σ H s):U9<s.heap.objs.size:=by
 have h:XD<s.heap.objs.size:=(I.mod.glob.keeps I.bk).lt;exact TU (by decide) h
def zod {Q:X7->X0->Prop}(L:A.units+1<VD)(I:Inv X bz σ H s)(g:zcG H a y o)(G:RelV y u)(h:∀s',Inv X bz σ H s'->Q (.bool (!o.isSome)) s') :
  Xg (Xi X.prog X.w) A (Wb .NotIn u (.ref a)) Q E s:=by
 rcases g with ⟨kvs,k,e,B,l⟩ | ⟨kvs,k,b,e,B,J,l⟩
 .subst B;obtain⟨z,D,vs,m,r⟩:=zi9 I.hok e;refine wpAny_notIn_of (zi8 G) D r.mapOf ?_;rw[<- (m.val k).isSome_eq,<- l];exact h _ (I.tok _)
 .subst B;cases (show u=WD b from G);obtain⟨z,D,xs,m,r⟩:=zja I.hok e;refine wpAny_notIn_heap (tupleKind_room_in1 L) (zfc I.hok J) D r ?_;have q:=(m.val k).isSome_eq;rw[Option.isSome_map]at q;rw[<- q,<- l];exact h _ (I.tok _)
def zjb {h':Heap}{t':Nat}{ob:HO}(I:Inv X bz σ H s)(B:Mut (H a))(A:V5 a s.heap h')(he:∃q,h'.get? a=some q)(m:qN X.prog X.w (upd H a ob) h' a ob) :
  Inv X bz σ (upd H a ob) { s with heap:=h',toks:=t' } :=
 I.write (x:=a) (e:=a) B (.inl rfl) (λb q r z=>(A.2 b r).trans z) he m
def zqz {P:Xl}{w:WY}{r:Hp}{h':Heap}{kvs:List (Key×V)}{vs:List (Key×X7)}(z:kvs.length<=Xv)(s:(a==U9)=false)(m:KV kvs vs)(dd:h'.DictOf (zT P w) a vs) :
  qN P w r h' a (.dK kvs):=⟨z,s,vs,m,dd⟩
end
def zoe (ty s:TE):TE:=fun σ H Q=>ty σ H λy r=>s σ r λx m=>∃a o,x=.ref a/\zcG m a y o/\Q (.bl (!o.isSome)) m
section
variable {X:Cx}{o i e value:Expr}{pos pos' tpos:Pos}{td ty tv:TE}
def zkz (L:X.A.units+1<VD)(hi:PE X i ty)(J:PE X o td):PC X .NotIn i o (zoe ty td):=by
 intro m s σ H Q I h;refine thn (hi m s σ H _ I h) λiv s1 ⟨y,r,B,ry,O⟩=>thn (J m s1 σ r _ B O) λu s2 ⟨x,w,D,Y,a,M,G,g,U⟩=>?_;subst G;obtain rfl:u=WD a:=Y;exact zod L D g ry λs3 E=>⟨.bl (!M.isSome),w,E,rfl,U⟩
end
def zlY {P:Xl}{w:WY}{H:Hp}(h:Heap)(m:U9<h.objs.size):qN P w H (h.push { cls:=.type "dict",data:=.dict #[] }) h.objs.size (.dK []) :=
 ⟨W3 _,beq_eq_false_iff_ne.mpr (Vc (Xf m)),[],.nil,Heap.DictOf.new h⟩
def zhU:List (TE×TE)->St->Hp->(List (V×V)->Hp->Prop)->Prop
 | [],_,H,Q=>Q [] H
 | (tk,tv)::r,σ,H,Q=>tk σ H λx m=>tv σ m λy s=>zhU r σ s λps w=>Q ((x,y)::ps) w
abbrev VV:List (V×V)->List (X7×X7)->Prop:=XG λp q=>RelV p.1 q.1/\RelV p.2 q.2
def PPs (X:Cx)(pos:Pos)(keys:List (Option Expr))(m:List Expr)(r:List (TE×TE)):Prop :=
 ∀(D:List (Addr×Obj)) (s:X0) (σ:St) (H:Hp) (Q:List (V×V)->Hp->Prop),Inv X D σ H s->zhU r σ H Q ->
  Xg (Xi X.prog X.w) X.A (evalPairs (pairTrees keys m X.env pos)) (λvs E=>∃ps B,Inv X D σ B E/\VV ps vs/\Q ps B) X.xe s
def zof {X:Cx}{pos:Pos}:PPs X pos [] [] []:=λm s σ H Q I h=>pairTrees_nil_walk ⟨[],H,I,.nil,h⟩
def zgj {X:Cx}{pos:Pos}{k v:Expr}{ks:List (Option Expr)}{vs:List Expr}{tk tv:TE}{m:List (TE×TE)}(hk:PE X k tk)(hv:PE X v tv)(L:PPs X pos ks vs m) :
  PPs X pos (some k::ks) (v::vs) ((tk,tv)::m):=λr s σ H Q I h =>
 pairTrees_cons_walk (thn (hk r s σ H _ I h) λu s1 ⟨x,A,E,Y,M⟩=>thn (hv r s1 σ A _ E M) λw2 s2 ⟨y,B,G,ry,O⟩ =>
  thn (L r s2 σ B _ G O) λws s3 ⟨ps,D,J,w,U⟩=>⟨(x,y)::ps,D,J,.cons ⟨Y,ry⟩ w,U⟩)
def Z5 (kvs more:List (Key×V)):List (Key×V):=more.foldl (λm r=>putK m r.1 r.2) kvs
def KV.merge:∀{more:List (Key×V)} {rs:List (Key×X7)} {kvs:List (Key×V)} {vs:List (Key×X7)},KV more rs->KV kvs vs->KV (Z5 kvs more) (merged vs rs):=by
 intro more rs kvs vs r;unfold KV at r;induction r generalizing kvs vs with
 | nil=>intro q;exact q
 | @cons p q ps w h t m =>
  intro s;have e:KV (putK kvs p.1 p.2) (stored vs q.1 q.2):=by
   have:=s.put p.1 h.2;rw[<- h.1];exact this
  exact m e
theorem QO:∀(more kvs:List (Key×V)),(Z5 kvs more).length<=kvs.length+more.length
 | [],kvs=>by show kvs.length<=kvs.length+0;lia
 | p::r,kvs=>by
  have m:=QO r (putK kvs p.1 p.2);have s:=YV kvs p.1 p.2;show (Z5 (putK kvs p.1 p.2) r).length<=_;rw[Xn];lia
theorem zcH {P:Xl}{w:WY}:∀{kvs:List (Key×V)} {s:List (X7×X7)},VV (kvs.map λm=>(kV m.1,m.2)) s->∃rs,Carries (zT P w) s rs/\KV kvs rs
 | [],_,r=>by rw[Sa]at r;cases r;exact⟨[],Uq,.nil⟩
 | p::kvs,_,r=>by
  rw[Xu]at r;cases r with
  | @cons a b as bs h t =>
   obtain⟨rs,c,q⟩:=zcH (P:=P) (w:=w) t;obtain⟨B,A⟩:=b;exact⟨(p.1,A)::rs,⟨zi8 h.1,rfl,c⟩,.cons ⟨rfl,h.2⟩ q⟩
def zrZ (m:List (TE×TE)):TE:=fun σ H Q=>∀p,H p=none->zhU m σ (upd H p (.dK [])) λps r=>r p=some (.dK [])/\∃kvs:List (Key×V),ps=kvs.map (λs=>(kV s.1,s.2))/\kvs.length<=15/\Q (.ref p) (upd r p (.dK (Z5 [] kvs)))
def zog {X:Cx}{pos:Pos}{keys:List (Option Expr)}{m:List Expr}{B:List (TE×TE)}(h:PPs X pos keys m B)(A:keys.all (·.isSome)=true)(hl:keys.length=m.length)(h0:keys ≠ [])
  (D:keys.length<=15):PE X (.Dict keys m pos) (zrZ B):=by
 intro L s σ H Q I q;have hn:=I.hok.fresh (XR s.heap.objs.size);have J:=I.laid (a:=s.heap.objs.size) (o:=.dK []) (h':=s.heap.push { cls:=.type "dict",data:=.dict #[] }) (t':=s.toks) (λ_ _ q=>XS _ q) (XR _) (zlY s.heap I.big);refine wpAny_Dict_walk (knd:=zT X.prog X.w) A hl h0 D (thn (h L _ σ _ _ J (q _ hn)) λws s2 ⟨ps,H2,G,E,e,kvs,O,lk,q2⟩=>?_);subst O;obtain⟨rs,c,rk⟩:=zcH (P:=X.prog) (w:=X.w) E;obtain⟨z,Y,aa,r0,M⟩:=zrY G.hok e;cases r0;refine⟨rs,c,M,λh' r hs=>⟨.ref s.heap.objs.size,_,?_,rfl,q2⟩⟩;have hz:(Z5 [] kvs).length<=Xv:=by
  have U:=QO kvs [];rw[U7]at U;rw[T2];lia
 have he:∃q,h'.get? s.heap.objs.size=some q:=let ⟨q,_,_,hq,_⟩:=r;⟨q,hq⟩
 exact zjb G (by rw[e];exact Uq) hs he (zqz hz Y (rk.merge .nil) r)
structure M2 (X:Cx)(o:Expr)(m:Str)(apos:Pos)(e f:Expr)(cpos:Pos):Prop where
 base:attributeBase o m X.env (eval o X.env)=eval o X.env
 few:((Tl cpos (WV [e,f] X.env)).all (λx=>!x.1)&&(backToKw cpos (keywordEach [] X.env)).all (λx=>x.1.isSome)
  && decide (([e,f]:List Expr).length+([]:List Oh).length+(if ([]:List Oh).isEmpty then 0 else 1)<30))=true
 line:(apos.endLine==cpos.line)=true
 trees:Tl cpos (WV [e,f] X.env)=[(false,eval e X.env),(false,eval f X.env)]
def IsD (H:Hp)(a:Addr):Prop:=(∃kvs,Rd H a (.dK kvs))\/∃kvs,Rd H a (.dT kvs)
def zqA {X:Cx}{B:List (Addr×Obj)}{σ:St}{H:Hp}{s:X0}{a:Addr}(I:Inv X B σ H s)(d:IsD H a) :
  s.TypeIs (.ref a) "dict"/\(∀b,WD a=.ref b->∃ob,s.heap.get? b=some ob/\ob.dict=none)/\(a==U9)=false:=by
 rcases d with ⟨kvs,e⟩ | ⟨kvs,e⟩
 .obtain⟨_,A,vs,_,m⟩:=zi9 I.hok e;refine⟨m.typeIs,λb q=>?_,A⟩;cases q;obtain⟨ob,_,_,r,w,_⟩:=m;exact⟨ob,r,w.2.1⟩
 .obtain⟨_,A,xs,_,m⟩:=zja I.hok e;refine⟨m.typeIs,λb q=>?_,A⟩;cases q;obtain⟨ob,_,_,r,w,_⟩:=m;exact⟨ob,r,w.2.1⟩
section
variable {X:Cx}{bz:List (Addr×Obj)}{σ:St}{H:Hp}{s:X0}{a:Addr}{y d:V}{u r:X7}{o:Option V}{A:WK}{E:X7->X0->Prop}
def zqB {Q:X7->X0->Prop}(U:A.units+1<VD)(I:Inv X bz σ H s)(g:zcG H a y o)(L:RelV y u)(J:RelV d r)(h:∀M s',Inv X bz σ H s'->RelV (o.getD d) M->Q M s') :
  Xg (Xi X.prog X.w) A (call (.builtin "dict.get") [.ref a,u,r]) Q E s:=by
 rcases g with ⟨kvs,k,e,D,l⟩ | ⟨kvs,k,b,e,D,O,l⟩
 .subst D;obtain⟨z,G,vs,m,B⟩:=zi9 I.hok e;refine call_meetsIn SJ B.typeIs PV (Rb _ _ _) (meets_dict_get_default (zT X.prog X.w) a (zi8 L) G r) ⟨_,B.mapOf,h _ _ (I.tok _) ?_⟩;rw[l];exact(m.val k).getD J
 .subst D;cases (show u=WD b from L);obtain⟨z,G,xs,m,B⟩:=zja I.hok e;refine call_meetsIn SJ B.typeIs PV (Rb _ _ _) (meetsH_dict_get_default (VW (zT X.prog X.w)) a b G r) ⟨tupleKind_room_in1 U,k,xs,zfc I.hok O,B,h _ _ (I.tok _) ?_⟩;rw[l];exact(m.val k).getD J
end
def zqC (w ty A:TE):TE:=fun σ H Q=>w σ H λx m=>∃a,x=.ref a/\IsD m a/\ty σ m λy s=>A σ s λz r=>∃o,zcG r a y o/\Q (o.getD z) r
section
variable {X:Cx}{o e f:Expr}{apos cpos:Pos}{td ty tx:TE}
def zgk (hu:X.A.units+1<VD)(Y:PE X o td)(he:PE X e ty)(U:PE X f tx)(m:M2 X o "get" apos e f cpos):PE X (.Call (.Attribute o "get" apos) [e,f] [] cpos) (zqC td ty tx):=by
 intro r s σ H Q I h;refine wpAny_Call_method m.base m.few m.line Ra SJ PySem.F.type_dict_get (thn (Y r s σ H _ I h) λu s1 ⟨x,D,B,rx,a,O,d,q1⟩=>?_);subst O;obtain rfl:u=WD a:=rx;obtain⟨t1,t2,_⟩:=zqA B d;refine⟨t1,t2,?_⟩;rw[m.trees];refine PX rfl (Sl (RT (thn (he r s1 σ D _ B q1) λiv s2 ⟨y,E,J,ry,q2⟩ =>
  RT (thn (U r s2 σ E _ J q2) λfv s3 ⟨z,G,L,rz,ov,g,q3⟩=>Calls.spliced_nil ?_))))
 exact zqB hu L g ry rz λw' s4 M w=>⟨_,G,M,w,q3⟩
end
def zkA:OA (.type "list") "keys"=pure none:=by rw[Tp,UL];kernel_rfl
def zkB:OA (.type "list") "__getattr__"=pure none:=by rw[Tp,UL];kernel_rfl
def zcI:isSubtype (.type "AttributeError") (.type "AttributeError")=pure true:=by rw[Pd];kernel_rfl
def zlZ (m:List X7):ownMembersOf (.type "AttributeError") m=#[unsetMember,unsetMember]:=rfl
def zhV:((Manifest.find? "AttributeError").elim false λt=>t.mro.contains "StopIteration" || t.mro.contains "SystemExit")=false:=by decide+kernel
section
variable {prog:Xl}{w:WY}{A:WK}{E:X7->X0->Prop}{h:Heap}{g:Array Sq}{d:Drawn}{t:Nat}{os:OsState}{a:Addr}{its:Array X7}{n:Nat}
def zl0 {tk:Tok}{Q:Fin->X0->Prop}(hx:h.get? a=some { cls:=.type "list",dict:=none,data:=.seq its n,slots:=#[] })(G:A.handled=none)
  (he:∀r D e,(∀b s,h.get? b=some s->r.get? b=some s)->(⟨r,g,d,D,os⟩:X0).TypeIs (.ref e) "AttributeError"->E (.ref e) ⟨r,g,d,D,os⟩) :
  Xg (Xi prog w) A (UM.«object.__getattribute__» ⟨[.ref a,.str "keys" tk],[]⟩) Q E ⟨h,g,d,t,os⟩:=by
 have L:(⟨h,g,d,t,os⟩:X0).TypeIs (.ref a) "list":=⟨_,hx,rfl⟩;have I:=zkA;have J:=zcI;repeat (any_goals (first | assumption | wp_step))
 unfold raiseAttrError;refine X9 (wpAny_mkStr (X9 ?_) (by decide+kernel));unfold newExc newTuple;refine X9 (Vz ?_);refine X9 (m:=RY _ _) (Oi (a:=UC) (by simp only[RY,zhV];rfl) ?_);rw[zlZ];refine Vz ?_;refine X9 (wpAny_mkText ?_);refine X9 ?_;unfold noteAttr lacksNameAndObj;repeat (any_goals (first | assumption | wp_step))
 unfold raiseNew;refine X9 (wpAny_handled ?_);rw[G];refine X9 (XO (wpAny_throw ?_));dsimp only;refine he _ _ _ (λb s B=>?_) ?_
 .rw[(Wo ..).2 b (Xf ?_)]
  .exact XS _ (XS _ B)
  .rw[UR];exact Wf (Xz B)
 .refine⟨_,We _ (W1 _ rfl) rfl,rfl⟩
def zoh {tk:Tok}{R:On->X0->Prop}(hx:h.get? a=some { cls:=.type "list",dict:=none,data:=.seq its n,slots:=#[] })(B:A.handled=none)
  (he:∀m s e,(∀b r,h.get? b=some r->m.get? b=some r)->(⟨m,g,d,s,os⟩:X0).TypeIs (.ref e) "AttributeError"->R (.error (.ref e)) ⟨m,g,d,s,os⟩) :
  S6 (Xi prog w) A (.call (.builtin "list.__getattribute__") ⟨[.ref a,.str "keys" tk],[]⟩) R ⟨h,g,d,t,os⟩ :=
 O5 PySem.F.slot_list_getattribute.plain PySem.F.entry_list_ga (PySem.F.slot_list_getattribute.check _ _ _ _ _ _ _ _ (show (⟨h,g,d,t,os⟩:X0).TypeIs (.ref a) "list" from ⟨_,hx,rfl⟩) (PySem.F.args_list_getattribute_2 _ _) (zl0 hx (by simp[B]) he))
def zr0 {tk:Tok}{Q:X7->X0->Prop}(hx:h.get? a=some { cls:=.type "list",dict:=none,data:=.seq its n,slots:=#[] })(D:A.handled=none)
  (he:∀m r e,(∀b s,h.get? b=some s->m.get? b=some s)->(⟨m,g,d,r,os⟩:X0).TypeIs (.ref e) "AttributeError"->E (.ref e) ⟨m,g,d,r,os⟩) :
  Xg (Xi prog w) A (getAttrBy (.ref a) (.str "keys" tk) false) Q E ⟨h,g,d,t,os⟩:=by
 have O:(⟨h,g,d,t,os⟩:X0).TypeIs (.ref a) "list":=⟨_,hx,rfl⟩;have I:=PySem.F.slot_list_getattribute.lookup;have J:=PySem.F.slot_list_getattribute.bind (.ref a);have L:=zkB;have M:=zcI;repeat (any_goals (first | assumption | wp_step))
 refine zoh hx (by simp[D]) λm r e G B=>?_;repeat (any_goals (first | assumption | wp_step))
 exact he _ _ _ G B
def zoi {Q:Option X7->X0->Prop}(hx:h.get? a=some { cls:=.type "list",dict:=none,data:=.seq its n,slots:=#[] })(B:A.handled=none)
  (hq:∀m s,(∀b r,h.get? b=some r->m.get? b=some r)->Q none ⟨m,g,d,s,os⟩) :
  Xg (Xi prog w) A (getAttr? (.ref a) "keys") Q E ⟨h,g,d,t,os⟩:=by
 have G:=zcI;unfold getAttr? getAttrBy?;refine X9 (wpAny_mkText (X9 (Rw ?_)));refine zr0 (t:=t+1) hx B λm s e D I=>?_;repeat (any_goals (first | assumption | wp_step))
 exact hq _ _ D
def zaz:Ob table "dict.update.loop"=some UM.«dict.update.loop»:=entryFor_of_tree (by kernel_rfl)
def Jg:plainId "dict.update.loop"=true:=by decide+kernel
end
section
variable {prog:Xl}{w:WY}{A:WK}{R:On->X0->Prop}{I:Addr}{fp wr:List Addr}{G:Array Sq->Array Sq->Prop}{n:Nat}{P:Nat->X7->Prop}{St:Nat->X0->Prop}
abbrev KQ:=List Key×Addr×X7
def putAll (ks:List KQ):List KQ:=ks.foldl (λm q=>Uy m q.1 q.2.1 q.2.2) []
def putAll_snoc (ks:List KQ)(q:KQ):putAll (ks++[q])=Uy (putAll ks) q.1 q.2.1 q.2.2:=by
 unfold putAll;rw[UF];rfl
def zbJ (xs:List KQ)(k:List Key)(a:Addr)(v:X7):(Uy xs k a v).length<=xs.length+1:=by
 unfold Uy;split
 .rw[ZB];lia
 .rw[X6];exact XR _
def zcJ (ks:List KQ):(putAll ks).length<=ks.length:=by
 suffices h:∀(ks m:List KQ),(ks.foldl (λm q=>Uy m q.1 q.2.1 q.2.2) m).length<=m.length+ks.length by
  have:=h ks [];simpa[putAll] using this
 intro ks;induction ks with
 | nil=>intro m;exact XR _
 | cons q r s =>
  intro m;have w:=s (Uy m q.1 q.2.1 q.2.2);have A:=zbJ m q.1 q.2.1 q.2.2;rw[VR,Xn];lia
def zfd {A:WK}{E:X7->X0->Prop}{s:X0}{m:Addr}{x y:X7}{Q:List X7->X0->Prop}(h:Og s.heap m #[x,y])(q:Q [x,y] s):Xg (Xi prog w) A (PU (.ref m)) Q E s:=by
 obtain⟨o,r,B,n,D⟩:=h;have G:s.TypeIs (.ref m) "tuple":=⟨o,r,B⟩;unfold PU;repeat (any_goals (first | assumption | wp_step))
 rw[D];exact XO (XO q)
theorem zbK (T:List Key->Addr->Prop):∀(w m:List KQ),(∀x∈m,T x.1 x.2.1)->(∀x∈w,T x.1 x.2.1)->∀x∈w.foldl (λm q=>Uy m q.1 q.2.1 q.2.2) m,T x.1 x.2.1
 | [],_,ha,_=>ha
 | q::r,m,ha,s=>by
  rw[VR];refine zbK T r _ (λx hx=>?_) λx hx=>s x (Y1 _ hx);unfold Uy at hx;split at hx
  .obtain⟨y,hy,rfl⟩:=XN.mp hx;have:=ha y hy;unfold putAt;split
   .exact this
   .exact this
  .rcases XU.mp hx with hx | hx
   .exact ha x hx
   .have e:x=(q.1,q.2.1,q.2.2):=by simpa using hx
    subst e;exact s q X5
def zhW {h0:Heap}(W:WalksS prog w A.in1 I fp wr G n P St)(D:Addr)(ab:D ∉ fp)(aj:h0.get? D=none)(aq:∀b∈wr,h0.get? b=none)(ks:List KQ)(af:ks.length=n)(U:n<=Xv)(hu:A.units+1<VD)
  (ae:∀q∈ks,(VW (zT prog w)).is h0 q.1 q.2.1) (hP:∀i v,P i v->∃ta q,v=.ref ta/\ks[i]?=some q/\Og h0 ta #[.ref q.2.1,q.2.2]) :
  ∀(k i:Nat) (s:X0),n-i=k->i<=n->St i s->(∀b o,h0.get? b=some o->s.heap.get? b=some o)->s.heap.DictOfH (VW (zT prog w)) D (putAll (ks.take i)) ->
   (∀s',Moved (D::wr) G s s'->s'.heap.DictOfH (VW (zT prog w)) D (putAll ks)->R (.ok (.ret .none)) s') ->
   S6 (Xi prog w) A (.builtin "dict.update.loop" ⟨[.ref D,.ref I,T9 (i:Int),.none],[]⟩) R s:=by
 have ak:D ∉ wr:=λh=>ab (W.sub _ h);have more:∀b∈wr,b∈D::wr:=λb U=>Y1 _ U;have O:∀{h:Heap} {ta:Addr} {xs:Array X7},(∀b o,h0.get? b=some o->h.get? b=some o)->Og h0 ta xs->Og h ta xs:=λL ⟨o,h1,h2,m,h3⟩=>⟨o,L _ _ h1,h2,m,h3⟩;have E:∀{h:Heap} {ka:Addr} {q:List Key},(∀b o,h0.get? b=some o->h.get? b=some o)->(VW (zT prog w)).is h0 q ka->(VW (zT prog w)).is h q ka:=λL ⟨o,xs,m,h1,h2⟩=>⟨o,xs,m,L _ _ h1,h2⟩;have r:∀{s s':X0} {xs:List KQ},Moved wr G s s'->(∀b o,h0.get? b=some o->s'.heap.get? b=some o)->(∀x∈xs,(VW (zT prog w)).is h0 x.1 x.2.1)->s.heap.DictOfH (VW (zT prog w)) D xs->s'.heap.DictOfH (VW (zT prog w)) D xs :=
  λhm L hk ⟨o,es,ep,e1,e2,e3,e4,_,e6⟩=>⟨o,es,ep,hm.heap D _ ak e1,e2,e3,e4,λx hx=>E L (hk x hx),e6⟩
 have B:∀{s s':X0},Moved wr G s s'->(∀b o,h0.get? b=some o->s.heap.get? b=some o)->∀b o,h0.get? b=some o->s'.heap.get? b=some o:=λhm L b o e =>
  hm.heap b o (λU=>by
   rw[aq b U]at e;cases e) (L b o e)
 have J:∀i,∀x∈putAll (ks.take i),(VW (zT prog w)).is h0 x.1 x.2.1:=λi=>zbK (λa b=>(VW (zT prog w)).is h0 a b) _ [] (λx hx=>nomatch hx) λx hx=>ae x (V8 hx);intro k;induction k with
 | zero =>
  intro i s hk hi aa L hS hR;have ao:i=n:=by lia
  subst ao;refine VG zaz ?_;rw[V6 Jg _];show Xg _ A.in1 (R3 (.ref I) >>= _) _ _ s;refine X9 (W.done s _ _ aa λs' hm=>?_);show Xg _ A.in1 (Rt D [] >>= λ_=>ret UC) _ _ s';refine X9 (XO (XO (hR s' (hm.mono more) ?_)));have:=r hm (B hm L) (J _) hS;rw[<- af,XE]at this;exact this
 | succ k ih =>
  intro i s hk hi aa L hS hR;have ag:i<n:=by lia
  refine VG zaz ?_;rw[V6 Jg _];show Xg _ A.in1 (R3 (.ref I) >>= _) _ _ s;refine X9 (W.item i s _ _ ag aa λv s' al ai hm=>?_);obtain⟨ta,q,rfl,hq,ht⟩:=hP i v al;have M:=B hm L;have am:=r hm M (J _) hS;have l1:=zcJ (ks.take i);have l2:(ks.take i).length<=n:=by
   rw[XM];lia
  have tk:ks.take (i+1)=ks.take i++[q]:=by
   rw[Xe,hq];rfl
  refine X9 (V7 (X9 (wpAny_tryCatch (zfd (O M ht) ?_))));refine V7 (wpAny_dictSet_heap (show A.in1.units<VD from hu) (E M (ae q (X4 hq))) am (λh' an Y=>?_) (by lia));have ar:∀b o,h0.get? b=some o->h'.get? b=some o:=λb o e=>by
   rw[Y.2 b (λz=>by
    rw[z,aj]at e;cases e)]
   exact M b o e
  have d2:h'.DictOfH (VW (zT prog w)) D (putAll (ks.take (i+1))):=by
   rw[tk,putAll_snoc];exact an
  refine XO ⟨UB Jg _,?_⟩;show S6 _ A (.builtin "dict.update.loop" ⟨[.ref D,.ref I,T9 ((i:Int)+1),.none],[]⟩) R _;rw[show ((i:Int)+1)=((i+1:Nat):Int) by lia];refine ih (i+1) _ (by lia) ag (W.frame _ s' _ _ ai (Vl _ _) λb U o e=>?_) ar d2 λas ah ac=>?_
  .rw[Y.2 b (λz=>ab (by rw[<- z];exact U))];exact e
  .refine hR as (Moved.trans W.gtrans ((hm.mono more).then_heap (Vl _ _) λb o U e=>?_) ah) ac;rw[Y.2 b (λz=>U (by rw[z];exact X5))];exact e
end
def zr1 (H:Hp)(v:V)(m:List Key×V):Prop:=∃a b,v=V.ref a/\H a=some (.tup [.ref b,m.2])/\H b=some (.tup (m.1.map kV))
def yr (H:Hp):AE->List (List Key×V)->Prop:=XG (zr1 H)
def yr.mono {H m:Hp}(s:zo H m){vs:AE}{kvs:List (List Key×V)}(A:yr H vs kvs):yr m vs kvs:=by
 induction A with
 | nil=>exact .nil
 | cons q _ B =>
  obtain⟨a,b,e,r,w⟩:=q;exact .cons ⟨a,b,e,s _ _ r,s _ _ w⟩ B
def zgl (kvs:List (List Key×V)):List (List Key×V):=kvs.foldl (λm r=>putK m r.1 r.2) []
def KT.puts {H:Hp}{kvs:List (List Key×V)}{ks:List KQ}{m:List (List Key×V)}{xs:List KQ}(D:KT H kvs ks)(r:KT H m xs):KT H (kvs.foldl (λm s=>putK m s.1 s.2) m) (ks.foldl (λm q=>Uy m q.1 q.2.1 q.2.2) xs):=by
 induction D generalizing m xs with
 | nil=>exact r
 | cons q _ E =>
  obtain⟨w,A,B⟩:=q;rw[VR,VR];refine E ?_;rw[<- w];exact r.put _ A B
def zoj {P:Xl}{w:WY}{H:Hp}{h:Heap}(ok:HOk P w H h){kvs:List (List Key×V)}{ks:List KQ}(m:KT H kvs ks):∀x∈ks,(VW (zT P w)).is h x.1 x.2.1:=by
 induction m with
 | nil=>exact λx hx=>nomatch hx
 | cons q _ r =>
  intro x hx;rcases XQ.mp hx with e | hx
  .subst e;exact zfc ok (by rw[<- q.1];exact q.2.1)
  .exact r x hx
def zok {P:Xl}{w:WY}{H:Hp}{h:Heap}(ok:HOk P w H h){vs:AE}{kvs:List (List Key×V)}{m:List X7}(J:yr H vs kvs)(hv:Vals vs m):∃ks:List KQ,KT H kvs ks/\ks.length=m.length/\(∀(i:Nat) (v:X7),m[i]?=some v->∃(s:Addr) (q:KQ),v=WD s/\ks[i]?=some q/\Og h s #[.ref q.2.1,q.2.2]):=by
 induction J generalizing m with
 | nil =>
  cases hv;exact⟨[],.nil,rfl,λi v e=>by simp at e⟩
 | @cons x E xs ys q _ L =>
  obtain⟨a,b,e,A,B⟩:=q;cases hv with
  | cons rv Y =>
  obtain⟨ks,M,O,U⟩:=L Y;subst e;cases rv;obtain⟨_,xs,r,tp⟩:=(show qN P w H h a (.tup [.ref b,E.2]) from ok a _ A);obtain⟨u,u2,rfl,ru,D⟩:=vals2 r;cases ru;refine⟨(E.1,b,u2)::ks,.cons ⟨rfl,B,D⟩ M,by rw[Xn,Xn,O],λi v e=>?_⟩;cases i with
  | zero =>
   have G:WD a=v:=by simpa using e
   exact⟨a,_,G.symm,rfl,tp⟩
  | succ i =>
   obtain⟨s,q,A,B,I⟩:=U i v (by simpa using e);exact⟨s,q,A,by simpa using B,I⟩
section
variable {X:Cx}
set_option maxHeartbeats 8000000 in
theorem YJ (hu:X.A.units+64<VD)(hh:X.A.handled=none):qZ X (.type "dict") (λxs H Q=>∃l us kvs,xs=[.ref l]/\H l=some (.lst us)/\yr H us kvs/\∀d,H d=none->Q (.ref d) (upd H d (.dT (zgl kvs)))):=by
 intro bz s σ H xs ao Q I r h;obtain⟨l,us,kvs,rfl,hl,hp,q⟩:=h;obtain⟨u,rfl,ru⟩:=vals1 r;cases ru;obtain⟨hz,J,n,rv,e⟩:=(show qN X.prog X.w H s.heap l (.lst us) from I.hok l _ hl);obtain⟨ks,Y,U,ae⟩:=zok I.hok hp rv;have big:=I.big;have M:J.length<=Xv:=by
  rw[<- rv.length];exact hz
 have ak:=zoj I.hok Y;refine callType_codes (Q₁:=λag L=>ag=.ref s.heap.objs.size/\L={ s with heap:=s.heap.push { cls:=.type "dict",data:=.dict #[] } }) PySem.F.kt_called_dict (PySem.F.kt_typeCall_dict_1 _) PySem.F.entry_dict_init (kt_code_dict_new _ ⟨rfl,rfl⟩) ?_;rintro ag L ⟨rfl,rfl⟩;have B:(s.heap.push { cls:=.type "dict",data:=.dict #[] }).DictOfH (VW (zT X.prog X.w)) s.heap.objs.size []:=Heap.DictOfH.new s.heap;have e1:(s.heap.push { cls:=.type "dict",data:=.dict #[] }).get? l=some { cls:=.type "list",dict:=none,data:=.seq J.toArray n,slots:=#[] }:=XS _ e;refine⟨B.typeIs,PySem.F.args_dict_init_2 _ _,?_⟩;unfold UM.«dict.__init__»;refine X9 ?_;unfold Rs;refine X9 (Py B.typeIs ?_);show Xg _ _ (pure (s.heap.objs.size,[WD l])) _ _ _;refine XO ?_;show Xg _ _ (Us "dict.__init__" s.heap.objs.size (.ref l) [] .none) _ _ _;unfold Us;have hT:Sv { s with heap:=s.heap.push { cls:=.type "dict",data:=.dict #[] } } (.ref l) "list":=⟨_,e1,rfl⟩;refine X9 (R9 hT ?_);rw[bw (by decide)];refine X9 (zoi e1 (by simp[hh]) λE t2 kp=>?_);rw[bw (show (none:Option X7).isNone=true from rfl)];have af:∀b D,s.heap.get? b=some D->E.get? b=some D:=λb D z=>kp b D (XS _ z);have aa:E.IsList l J.toArray:=⟨_,kp _ _ e1,rfl,n,rfl⟩;refine X9 (US (X9 (SY aa ?_)));have ab:l<s.heap.objs.size:=Xz e;have G:s.heap.objs.size<E.objs.size:=by
  obtain⟨o,_,_,ho,_⟩:=B;exact Xz (kp _ _ ho)
 have ac:l≠E.objs.size:=Xf (TU ab G);have ah:s.heap.objs.size ∉ [E.objs.size,l]:=by
  simp only[XQ,Rj,or_false,not_or];exact⟨Xf G,TV ab⟩
 refine XO ⟨UB Jg _,?_⟩;have aj:(E.push { cls:=.type "list_iterator",data:=.fields #[.ref l,.int 0 0] }).DictOfH (VW (zT X.prog X.w)) s.heap.objs.size []:=by
  obtain⟨o,es,ep,ho,h3,h4,h5,_,h6⟩:=B;exact⟨o,es,ep,XS _ (kp _ _ ho),h3,h4,h5,(λx hx=>nomatch hx),h6⟩
 refine zhW (h0:=s.heap) ((Walks.list (by simp[hh]) E.objs.size l ac J.toArray).toS) s.heap.objs.size ah (UE (XR _)) (λb hb=>?_) ks (by rw[U];simp) (by simpa using M) (by show X.A.units+1+1<VD;lia) ak (λi v hv=>ae i v (by rw[<- hv];simp)) _ 0 _ rfl (W3 _)
  ⟨⟨_,W1 _ rfl,rfl,rfl⟩,aa.push _⟩ (λb o z=>XS _ (af b o z)) aj ?_
 .have e:b=E.objs.size:=by simpa using hb
  rw[e];exact UE (TW G)
 .intro s' hm ai;obtain⟨h',g',d',an,am⟩:=s';have eg:g'=s.gens:=hm.gens;have ed:d'=s.drawn:=hm.drawn;have eo:am=s.os:=hm.os;subst eg;subst ed;subst eo;have al:∀b D,s.heap.get? b=some D->h'.get? b=some D:=λb D z=>by
   have lt:=Xz z;refine hm.heap b D (λhb=>?_) (XS _ (af b D z));rcases XQ.mp hb with e | hb
   .exact VL _ (e ▸ lt)
   .have e:b=E.objs.size:=by simpa using hb
    rw[e]at lt;exact VL _ (TU lt G)
  obtain⟨o,es,ep,ho,h3,h4,h5,_,h6⟩:=ai;have O:KT H (zgl kvs) (putAll ks):=KT.puts Y .nil;have m:H s.heap.objs.size=none:=I.hok.fresh (XR _);refine⟨rfl,.ref s.heap.objs.size,_,I.laid (a:=s.heap.objs.size) (o:=.dT (zgl kvs)) (t':=an) al (XR _) ⟨?_,beq_eq_false_iff_ne.mpr (Vc (Xf big)),_,KT.keeps O λb ys hb=>?_,o,es,ep,ho,h3,h4,h5,h6⟩,rfl,q _ m⟩
  .rw[Paired.length O];exact XY (zcJ ks) (by rw[U];exact M)
  .rw[zg (zj hb m)];exact hb
end
def u1 {A:PySem.Around}(h:A.units+64<PySem.cLine):A.units+1<PySem.cLine:=by lia
theorem yr.into {H:Hp}(z:Addr)(o:HO){m:AE}(hz:H z=some (.lst m)):∀{vs:AE} {kvs:List (List Key×V)},yr H vs kvs->yr (upd H z o) vs kvs
 | _,_,.nil=>.nil
 | _,_,.cons ⟨a,b,e,r,s⟩ t=>.cons ⟨a,b,e,by rw[zg (zfT r hz (by intro y;cases y))];exact r,by rw[zg (zfT s hz (by intro y;cases y))];exact s⟩ (yr.into z o hz t)
theorem yr.snoc {H:Hp}{vs:AE}{kvs:List (List Key×V)}{v:V}{m:List Key×V}(h:yr H vs kvs)(x:zr1 H v m):yr H (vs++[v]) (kvs++[m]):=Paired.snoc h x
theorem yr.length {H:Hp}{vs:AE}{kvs:List (List Key×V)}(h:yr H vs kvs):vs.length=kvs.length:=Paired.length h
section
variable {prog:Xl}{w:WY}{A:WK}{E:X7->X0->Prop}{s:X0}{d o a:Addr}{xs ys:List KQ}{k:List Key}{v:X7}
abbrev tk2 (prog:Xl)(w:WY):HeapKind prog w (List Key):=VW (zT prog w)
def zhX {Q:Unit->X0->Prop}(hu:A.units<VD)(r:(tk2 prog w).is s.heap k a)(hm:s.heap.DictOfH (tk2 prog w) d xs)(aa:xs.length<=Xv)
  (O:∀h',h'.DictOfH (tk2 prog w) d (Uy xs k a v)->V5 d s.heap h'->Q () { s with heap:=h' }):Xg (Xi prog w) A (OI d (.ref a) ((tk2 prog w).hash k) v) Q E s:=by
 obtain⟨ob,es,M,B,hc,m,he,G,hn⟩:=hm;unfold OI;refine V7 (X9 (wpAny_dictFind_heap (knd:=tk2 prog w) hu r B m he G hn (λI=>?_) λj p U=>?_))
 .have J:=not_mem_keys_of_get I;have L:=atKey_none_of_get I;refine X9 (US (wpAny_updateDictKeys (hz:=by have e:=size_of_entries he;lia) B m (O _ ⟨_,_,M+1,We _ B (Sd (T0 m _)),hc.mapDictKeys _,T0 m _,?_,?_,?_⟩ (Wo ..))))
  .rw[Pl L];simp[he,Tk]
  .rw[Pl L];intro x hx;rcases XU.mp hx with hx | hx
   .exact(tk2 prog w).keeps (G x hx) B m (Wo ..)
   .have e:x=(k,a,v):=by simpa using hx
    subst e;exact(tk2 prog w).keeps r B m (Wo ..)
  .rw[Pl L,XB,WX];refine⟨hn,by simp,λx hx y hy e=>J ?_⟩;have Y:y=k:=by simpa using hy
   rw[<- Y,<- e];exact hx
 .have D:=storedH_old (atKey_of_get hn U) a v;refine X9 (US (X9 (wpAny_updateDict B m (wpAny_point (O _ ⟨_,_,M,We _ B (Sd (Obj.data_mapDict m _)),hc.mapDict _,Obj.data_mapDict m _,?_,?_,?_⟩ (Wo ..))))))
  .rw[D];have z:=modify_map_putAt (Tk (tk2 prog w)) (λe:Rn=>{ e with val:=v }) k v (λ_ _=>rfl) hn U;rw[<- he]at z;obtain⟨l⟩:=es;simpa using z
  .rw[D];intro x hx;obtain⟨y,hy,rfl⟩:=XN.mp hx;unfold putAt;split<;>exact(tk2 prog w).keeps (G y hy) B m (Wo ..)
  .rw[D,keys_map_putAt];exact hn
def HN (prog:Xl)(w:WY)(ys:List KQ):Prop:=(ys.map λq=>(tk2 prog w).hash q.1).Nodup
def zhY:OA (.type "tuple") "__eq__"=pure (some (.builtin "tuple.__eq__")):=by rw[Tp,UL];kernel_rfl
def zgm {Q:Bool->X0->Prop}(m:(tk2 prog w).is s.heap k a)(q:Q false s):Xg (Xi prog w) A (O4 (.ref a)) Q E s:=by
 obtain⟨I,G,n,r,B,_⟩:=m;have D:s.TypeIs (.ref a) "tuple":=⟨I,r,B⟩;unfold O4;refine X9 (Sg D zhY (XO ?_));rw[show (some (Value.builtin "tuple.__eq__")==some (Value.builtin "object.__eq__"))=false by decide+kernel];exact q
def zkC {ys:List KQ}{m:Array Rn}(he:m.toList=ys.map (Tk (tk2 prog w)))(s:HN prog w ys)(x:Int):¬ (m.filter (λe=>e.hash==x)).size>1:=by
 have A:(m.filter (λe=>e.hash==x)).size=(m.toList.filter (λe=>e.hash==x)).length:=by
  rw[<- OR,XZ]
 rw[A,he];unfold HN at s;clear A he;induction ys with
 | nil=>simp
 | cons q r E =>
  rw[Xu,WS]at s;rw[Xu,WB];split
  .rename_i hq;have B:(tk2 prog w).hash q.1=x:=by simpa[Tk] using hq
   have:(r.map (Tk (tk2 prog w))).filter (λe=>e.hash==x)=[]:=by
    rw[Wn];intro e hm hx;obtain⟨y,hy,rfl⟩:=XN.mp hm;have D:(tk2 prog w).hash y.1=x:=by simpa[Tk] using hx
    exact s.1 (XN.mpr ⟨y,hy,by rw[B,D]⟩)
   rw[this];simp
  .exact E s.2
def zkD {id:String}{ob:Obj}{r:Array Rn}{ep:Nat}{Q:Array Rn->X0->Prop}(J:s.heap.get? d=some ob)(I:ob.data=.dict r ep)(he:r.toList=ys.map (Tk (tk2 prog w)))(hk:∀x∈ys,(tk2 prog w).is s.heap x.1 x.2.1)(G:HN prog w ys)(h:Q r s) :
  Xg (Xi prog w) A (Sf id d) Q E s:=by
 unfold Sf;refine X9 (T6 J I (X9 ?_));rw[<- RS];refine TM _ (λm _ B=>B=s/\∀e∈m,e∈r.toList) _ ?_ ?_ _ _ ⟨rfl,λe he=>he⟩
 .rintro x m b B ⟨rfl,D⟩;have hx:=D x X5;rw[he]at hx;obtain⟨y,hy,rfl⟩:=XN.mp hx;refine X9 (zgm (hk y hy) ?_);rw[bw (show (!false)=true from rfl),bq (zkC he G _)];exact XO ⟨rfl,λe he=>D e (Y1 _ he)⟩
 .rintro b B ⟨rfl,_⟩;exact XO h
def Jz (xs ys:List KQ):List KQ:=ys.foldl (λm q=>Uy m q.1 q.2.1 q.2.2) xs
def zgn (xs ys:List KQ)(q:KQ):Jz xs (ys++[q])=Uy (Jz xs ys) q.1 q.2.1 q.2.2:=by
 unfold Jz;rw[UF];rfl
theorem zcK (xs:List KQ):∀ys:List KQ,∀m:List KQ,(Jz m ys).length<=m.length+ys.length
 | [],m=>XR _
 | q::r,m=>by
  have s:=zcK xs r (Uy m q.1 q.2.1 q.2.2);have w:=zbJ m q.1 q.2.1 q.2.2;rw[Xn];show (Jz (Uy m q.1 q.2.1 q.2.2) r).length<=_;lia
theorem zaA:∀(ys m:List KQ),((m++ys).map (·.1)).Nodup->Jz m ys=m++ys
 | [],m,_=>(Xx m).symm
 | q::r,m,h=>by
  have s:Ov m q.1=none:=by
   unfold Ov;rw[Te.mpr]
   .rfl
   .intro x hx hk;rw[XB,Xu,WX]at h;exact h.2.2 x.1 (XN.mpr ⟨x,hx,rfl⟩) q.1 X5 (bg hk)
  show Jz (Uy m q.1 q.2.1 q.2.2) r=_;rw[Pl s,show ((q.1,q.2.1,q.2.2):KQ)=q from rfl,zaA r (m++[q]) (by simpa using h)];simp
def zol {nm:String}{Q:Unit->X0->Prop}(hu:A.units<VD)(ab:d≠o)(as:(o==U9)=false)(hd:s.heap.DictOfH (tk2 prog w) d xs)(ho:s.heap.DictOfH (tk2 prog w) o ys)(hN:HN prog w ys)(au:xs.length+ys.length<=Xv)
  (hQ:∀h',h'.DictOfH (tk2 prog w) d (Jz xs ys)->V5 d s.heap h'->Q () { s with heap:=h' }):Xg (Xi prog w) A (PQ nm d o) Q E s:=by
 obtain⟨od,am,al,G,an,B,ah,a1,a2⟩:=id hd;obtain⟨oo,m,ay,I,az,r,D,ac,ak⟩:=id ho;have aj:ys.length=m.size:=(size_of_entries D).symm;unfold PQ;rw[bq (show ¬ (d==o)=true by simpa using ab)];unfold Builtin.Dict.showsAll;rw[bq (show ¬ (o==U9)=true by rw[as];exact XT)];refine X9 (XO (X9 (T6 I r ?_)));have Y:Xg (Xi prog w) A (do
   let epoch <- dictEpoch o
   let l <- dictEntries o
   forIn [:l.size] Oy λi (_:PUnit)=>(do
     let l' <- dictEntries o
     match l'[i]? with
      | some e=>do
       OX [e.key,e.val] (OI d e.key e.hash e.val)
       let ep' <- dictEpoch o
       if (ep' != epoch)=true then do
         (Pk (toString nm++toString ":source-changed-during-callback"):Sem PUnit)
         pure (V1 Oy)
        else pure (V1 Oy)
      | _=>do
       (Pk "internal:dict-merge":Sem PUnit)
       pure (V1 Oy):Sem (ForInStep PUnit))
   pure ()) Q E s:=by
  refine X9 (wpAny_dictEpoch I r (X9 (T6 I r (X9 ?_))));rw[Std.Legacy.Range.forIn_eq_forIn_range'];simp only[Std.Legacy.Range.size,Op,RR,Nat.div_one];refine TM _ (λL _ s'=>∃h' i,s'={ s with heap:=h' }/\L=List.range' i (m.size-i)/\i<=m.size/\h'.DictOfH (tk2 prog w) d (Jz xs (ys.take i))/\V5 d s.heap h') _ ?_ ?_ _ _ ⟨s.heap,0,rfl,by simp,W3 _,hd,Heap.SameBut.refl _ _⟩
  .refine λx L b s'=>dw λh' i z0 hr hi M J=>?_;subst z0;have ar:i<m.size:=by
    rcases Uo i m.size with h | h
    .exact h
    .rw[Nat.sub_eq_zero_of_le h]at hr;simp at hr
   obtain⟨rfl,af⟩:x=i/\L=List.range' (i+1) (m.size-(i+1)):=by
    rw[show m.size-i=(m.size-(i+1))+1 by lia,List.range'_succ]at hr;injection hr with h1 h2
    exact⟨h1,h2⟩
   have O:h'.get? o=some oo:=(J.2 o (Vc ab)).trans I;obtain⟨q,hq⟩:∃q,ys[x]?=some q:=⟨_,XX (by lia)⟩;refine X9 (T6 O r ?_);rw[entry_at D x,hq];have aq:=ac q (X4 hq);have ai:(tk2 prog w).is h' q.1 q.2.1:=(tk2 prog w).keeps aq G B J;have l1:=zcK xs (ys.take x) xs;have l2:(ys.take x).length<=ys.length:=by
    rw[XM];lia
   refine X9 (V7 (zhX (s:={ s with heap:=h' }) hu ai M (by lia) λaa ag U=>?_));have ae:aa.get? o=some oo:=(U.2 o (Vc ab)).trans O;refine X9 (wpAny_dictEpoch ae r ?_);rw[bq (by simp)];refine XO ⟨aa,x+1,rfl,af,ar,?_,J.trans U⟩;rw[Xe,hq];show aa.DictOfH (tk2 prog w) d (Jz xs (ys.take x++[q]));rw[zgn];exact ag
  .rintro b s' ⟨h',i,rfl,hr,hi,M,J⟩;have ao:i=m.size:=by
    rcases Uo i m.size with h | h
    .rw[show m.size-i=(m.size-(i+1))+1 by lia,List.range'_succ]at hr;exact nomatch hr
    .exact Nat.le_antisymm hi h
   rw[ao,<- aj,XE]at M;exact XO (hQ h' M J)
 dsimp only;split
 .refine X9 (T6 G B ?_);split
  .rename_i ax;have av:xs=[]:=by
    have h0:am=#[]:=Array.isEmpty_iff.mp ax;rw[h0]at ah;exact OQ.mp ah.symm
   subst av;rw[zaA ys [] (by simpa using ak)]at hQ;refine X9 (zkD I r D ac hN ?_);split
   .refine X9 (wpAny_updateDictKeysTo G B (XO (hQ _ ⟨_,_,al+1,We _ G (Sd (T0 B _)),an.mapDictKeys _,T0 B _,D,λx hx=>(tk2 prog w).keeps (ac x hx) G B (Wo ..),ak⟩ (Wo ..))) (by
     simp only[U7,VI]at au;lia))
   .rename_i hne;have h0:m=#[]:=Array.isEmpty_iff.mp (by simpa using hne);have aw:ys=[]:=by
     rw[h0]at D;exact OQ.mp D.symm
    subst aw;exact XO (hQ _ hd (Heap.SameBut.refl _ _))
  .exact Y
 .exact Y
end
def HH (i j:Nat):Int:=reduceHash (Builtin.Tuple.tupleHashOf [hashInt (i:Int),hashInt (j:Int)])
def J7 (prog:Xl)(w:WY)(i j:Nat):(tk2 prog w).hash [.inl ((i:Nat):Int),.inl ((j:Nat):Int)]=HH i j:=by
 show tupleKeyHash (zT prog w) [.inl ((i:Nat):Int),.inl ((j:Nat):Int)]=HH i j;unfold tupleKeyHash HH;rw[Xu,Xu,Sa];have e:∀n:Nat,(zT prog w).hash (.inl ((n:Nat):Int))=hashInt ((n:Nat):Int):=λn=>by
  show zp4 w (.inl ((n:Nat):Int))=_;unfold zp4;with_reducible rfl
 rw[e,e]
def zqD:(WG 64).all λn=>(WG 64).all λm=>decide (HH (n/8) (n%8)=HH (m/8) (m%8))==decide (n=m):=by decide+kernel
def zgp {i j m r:Nat}(s:i<8)(w:j<8)(A:m<8)(B:r<8)(e:HH i j=HH m r):i=m/\j=r:=by
 have h:=zqD;rw[WC]at h;have a:=h (8*i+j) (Wv.mpr (by lia));rw[WC]at a;have b:=a (8*m+r) (Wv.mpr (by lia));rw[show (8*i+j)/8=i by lia,show (8*i+j)%8=j by lia,show (8*m+r)/8=m by lia,show (8*m+r)%8=r by lia,br e]at b;have c:decide (8*i+j=8*m+r)=true:=by simpa using b
 have d:=bg c;lia
def Small (ks:List (List Key)):Prop:=∀k∈ks,∃i j:Nat,i<8/\j<8/\k=[.inl ((i:Nat):Int),.inl ((j:Nat):Int)]
theorem zpz {prog:Xl}{w:WY}:∀{ys:List KQ},Small (ys.map (·.1))->(ys.map (·.1)).Nodup->HN prog w ys
 | [],_,_=>Vf
 | q::r,m,hn=>by
  rw[Xu,WS]at hn;unfold HN;rw[Xu,WS];refine⟨λhm=>?_,zpz (λk hk=>m k (Y1 _ hk)) hn.2⟩;obtain⟨y,hy,e⟩:=XN.mp hm;obtain⟨i,j,B,D,s⟩:=m q.1 X5;obtain⟨I,J,E,G,A⟩:=m y.1 (Y1 _ (XN.mpr ⟨y,hy,rfl⟩));rw[s,A,J7,J7]at e;obtain⟨a,b⟩:=zgp E G B D e;refine hn.1 (XN.mpr ⟨y,hy,?_⟩);rw[s,A,a,b]
theorem KT.keys {H:Hp}:∀{kvs:List (List Key×V)} {xs:List KQ},KT H kvs xs->xs.map (·.1)=kvs.map (·.1)
 | _,_,.nil=>rfl
 | _,_,.cons ⟨m,_,_⟩ t=>by rw[Xu,Xu,KT.keys t,m]
def zl1 {P:Xl}{w:WY}{H:Hp}{kvs:List (List Key×V)}{xs:List KQ}(r:KT H kvs xs)(m:Small (kvs.map (·.1)))(hn:(xs.map (·.1)).Nodup):HN P w xs:=zpz (by rw[r.keys];exact m) hn
def Q7 (kvs more:List (List Key×V)):List (List Key×V):=more.foldl (λm r=>putK m r.1 r.2) kvs
theorem zcL:∀(more kvs:List (List Key×V)),(Q7 kvs more).length<=kvs.length+more.length
 | [],kvs=>XR _
 | kv::r,kvs=>by
  have m:=zcL r (putK kvs kv.1 kv.2);have s:=YV kvs kv.1 kv.2;show (Q7 (putK kvs kv.1 kv.2) r).length<=_;rw[Xn];lia
section
variable {X:Cx}
def zhZ (hu:X.A.units+64<VD):MtR X "dict.update" (λx vs H Q=>∃d o kvs more,x=.ref d/\vs=[.ref o]/\d≠o/\H d=some (.dT kvs)/\H o=some (.dT more)/\Small (more.map (·.1))/\kvs.length+more.length<=Xv/\Q .non (upd H d (.dT (Q7 kvs more)))):=by
 intro bz s σ H x vs v us Q I rx rv h;revert h;refine dM λd o kvs more z0 z1 O L=>dz λho aa ab q=>?_;subst z0 z1;cases rx;obtain⟨u,rfl,ru⟩:=vals1 rv;cases ru;obtain⟨hz,hS,ks,D,G⟩:=zpy I.hok L;obtain⟨ac,J,B,r,m⟩:=zpy I.hok ho;have hN:HN X.prog X.w B:=by
  obtain⟨_,_,_,_,_,_,_,_,hn⟩:=m;exact zl1 r aa hn
 refine UW Rr G.typeIs PySem.F.entry_dict_update ?_ (PySem.F.args_dict_update_2 _ _);unfold UM.«dict.update»;refine X9 ?_;unfold Rs;refine X9 (Py G.typeIs ?_);show Xg _ _ (pure (d,[WD o])) _ _ s;refine XO ?_;show Xg _ _ (Us "dict.update" d (.ref o) [] .none) _ _ s;unfold Us;refine X9 (R9 m.typeIs ?_);rw[bq (by decide)];refine X9 ?_;unfold Builtin.Dict.merge;refine X9 ?_;unfold Builtin.Dict.readDirectly;refine X9 (Ri m.typeIs isSubtype_dict_dict ?_);simp only[Bool.not_true,Wu,if_false];refine X9 (Sg m.typeIs PySem.F.slot_dict_iter.lookup (XO ?_));simp only[beq_self_eq_true,if_true];refine X9 (XO ?_);have l1:ks.length=kvs.length:=(Paired.length D).symm;have l2:B.length=more.length:=(Paired.length r).symm;refine zol (by show X.A.units+1<VD;lia) O J G m hN (by lia) λh' M Y=>?_;show Xg _ _ (Rt d [] >>= _) _ _ _;refine X9 (XO (XO ⟨_,rfl,?_⟩));obtain⟨ob,es,ep,E,h3,h4,h5,_,h6⟩:=M;have U:KT H (Q7 kvs more) (Jz ks B):=KT.puts r D;have hl:=zcL more kvs;refine⟨.non,_,zjb (t':=s.toks) (ob:=.dT (Q7 kvs more)) I (by rw[L];exact Uq) Y ⟨ob,E⟩ ⟨by lia,hS,_,U.keeps λc ys ec=>?_,ob,es,ep,E,h3,h4,h5,h6⟩,rfl,q⟩;rw[zg (zfT ec L (λz=>nomatch z))];exact ec
def vals3 {x y z:V}{s:List X7}(r:Vals [x,y,z] s):∃u v m,s=[u,v,m]/\RelV x u/\RelV y v/\RelV z m:=by
 cases r with
 | cons B D =>
  obtain⟨v,m,rfl,w,A⟩:=vals2 D;exact⟨_,v,m,rfl,B,w,A⟩
def mx3 (i j k:Int):Int:=if j>i then (if k>j then k else j) else (if k>i then k else i)
def mn3 (i j k:Int):Int:=if j<i then (if k<j then k else j) else (if k<i then k else i)
def zkE (hc:X.calm=true):qZ X (.builtin "max") (λxs H Q=>∃i j k,xs=[.int i,.int j,.int k]/\Q (.int (mx3 i j k)) H):=by
 intro A s σ H xs G Q I r h;obtain⟨i,j,k,rfl,q⟩:=h;obtain⟨u,v,J,rfl,⟨t,rfl⟩,⟨D,rfl⟩,⟨w,rfl⟩⟩:=vals3 r;refine max_three_ints (I.ok.hd hc) λB E m=>⟨_,H,I.kept m,?_,q⟩;unfold mx3;split<;>split<;>exact⟨_,rfl⟩
def zkF (hc:X.calm=true):qZ X (.builtin "min") (λxs H Q=>∃i j k,xs=[.int i,.int j,.int k]/\Q (.int (mn3 i j k)) H):=by
 intro A s σ H xs G Q I r h;obtain⟨i,j,k,rfl,q⟩:=h;obtain⟨u,v,J,rfl,⟨t,rfl⟩,⟨D,rfl⟩,⟨w,rfl⟩⟩:=vals3 r;refine min_three_ints (I.ok.hd hc) λB E m=>⟨_,H,I.kept m,?_,q⟩;unfold mn3;split<;>split<;>exact⟨_,rfl⟩
def zh0 (x:Str):∀(m:List X7),(∀j v,m[j]?=some v->SignAt x j v)->∀(n:Nat),m.length=n->n<=x.cps.size->Vals ((x.cps.toList.take n).map λc=>V.str ⟨#[c]⟩) m:=by
 intro m h n;induction n generalizing m with
 | zero =>
  intro hl _;have:m=[]:=Wy.mp hl;subst this;exact .nil
 | succ n B =>
  intro hl hn;obtain⟨c,u,hc,hv⟩:=h n (m[n]'(by lia)) (XX (by lia));have A:m=m.take n++[m[n]'(by lia)]:=by
   have:=List.take_append_getElem (l:=m) (i:=n) (by lia);rw[this,<- hl,XE]
  have r:x.cps.toList[n]?=some c:=by rw[XA];exact hc
  rw[Xe,r,XB,A];refine Vals.append (B (m.take n) (λj v s=>?_) (by rw[XM];lia) (by lia)) (.cons ?_ .nil)
  .have w:j<n:=by
    have:=(XV.mp s).1;rw[XM]at this;lia
   rw[Ts w]at s;exact h j v s
  .rw[hv];exact⟨u,rfl⟩
def YW (hc:X.calm=true):qZ X (.type "list") (λxs H Q=>∃x:Str,xs=[.str x]/\x.length<=Xv/\∀l,H l=none->Q (.ref l) (upd H l (.lst (x.cps.toList.map λc=>V.str ⟨#[c]⟩)))):=by
 intro M s σ H xs O Q I r h;obtain⟨x,rfl,hz,q⟩:=h;obtain⟨u,rfl,t,rfl⟩:=vals1 r;refine call_list_str (I.ok.hd hc) x t (λB L m c J e G=>?_) hz;obtain⟨E,ha⟩:=G;have A:=zh0 x m.toList (λj v D=>ha j v (by rw[<- XA];exact D)) x.cps.size (by rw[XZ];exact E) (XR _);rw[WT (by rw[XZ];exact XR _)]at A;refine⟨.ref s.heap.objs.size,_,I.laid (t':=L) J (XR _) (show qN X.prog X.w _ B _ (.lst (x.cps.toList.map λc=>V.str ⟨#[c]⟩)) from ⟨?_,m.toList,c,A,e⟩),rfl,q _ (I.hok.fresh (XR _))⟩;rw[ZB,XZ];exact hz
def zkG (L:X.A.units+64<VD):OpR X (Wb .In) (λx y H Q=>∃d ds,Rdv X.K H x d/\Rdv X.K H y (.tuple ds)/\d.canLay0=true/\WR ds=true/\d.depth<=60/\Q (.bl (ds.any λz=>WQ z d)) H):=by
 intro G s σ H x y v u Q I B D h;obtain⟨d,ds,hx,hy,c1,m,J,q⟩:=h;obtain⟨E,r⟩:=hx.reads I B;obtain⟨bs,w⟩:=hy.reads I D;exact SeqAt.in_tuple_reads w r m c1 (by lia) ⟨.bl _,H,I,rfl,q⟩
def zgq:qZ X (.builtin "len") (λxs H Q=>(∃p ys,xs=[.ref p]/\(SqL X.K H p ys\/SqT X.K H p ys)/\Q (.int ys.length) H)\/∃z:Str,xs=[.str z]/\z.length<=Xv/\Q (.int z.length) H):=by
 intro m s σ H xs w Q I r h;rcases h with h | h
 .exact qi m s σ H xs w Q I r h
 .exact zau m s σ H xs w Q I r h
def zr2:IxR X (λx y H Q=>zqo X.K x y H Q\/zrQ x y H Q):=by
 intro r m w s σ H x y v u Q I B D h A;rcases h with h | h
 .exact jj r m w s σ H x y v u Q I B D h A
 .exact zhK r m w s σ H x y v u Q I B D h A
end
open PySem
namespace ST
def run (m i:Nat):List Nat:=(WG (VF m i+1-i)).map (i + ·)
def walk (m:Nat):Nat->Nat->Nat->List Nat
 | 0,_,_=>[]
 | f+1,i,p=>run m i++walk m f (Vj m i p).1 (Vj m i p).2
def zom (m i:Nat):1<=(run m i).length/\(run m i).length<=10:=by
 unfold run VF;rw[ZB,WE];split<;>lia
theorem zcM (m:Nat):∀f i p,(walk m f i p).length<=10*f
 | 0,_,_=>XR _
 | f+1,i,p=>by
  rw[walk,X6];have:=(zom m i).2;have:=zcM m f (Vj m i p).1 (Vj m i p).2;lia
def steps (t:Wq):Nat->RX->RX
 | 0,p=>p
 | n+1,p=>steps t n (t.advance p)
theorem zbc (t:Wq):∀n m p,steps t (n+m) p=steps t m (steps t n p)
 | 0,m,p=>by rw[VI];rfl
 | n+1,m,p=>by
  rw[show n+1+m=(n+m)+1 from by lia];exact zbc t n m (t.advance p)
theorem zbd (t:Wq)(i pt:Nat)(m:Option Nat):∀(d r j:Nat),d<=r->steps t d { j:=j,more:=r,i:=i,perturb:=pt,dummy:=m }={ j:=j+d,more:=r-d,i:=i,perturb:=pt,dummy:=m }
 | 0,r,j,_=>rfl
 | d+1,r,j,h=>by
  have e:t.advance { j:=j,more:=r,i:=i,perturb:=pt,dummy:=m }={ j:=j+1,more:=r-1,i:=i,perturb:=pt,dummy:=m }:=by
   unfold Rh;rw[bw (by show r>0;lia)]
  show steps t d (t.advance _)=_;rw[e,zbd t i pt m d (r-1) (j+1) (by lia)];congr 1<;>lia
def Qw (m i pt:Nat)(r:Option Nat):RX:={ j:=i,more:=VF m i-i,i:=i,perturb:=pt,dummy:=r }
def zbe (m i:Nat):i<=VF m i:=by
 unfold VF;split<;>lia
def zh1 (t:Wq)(i pt:Nat)(m:Option Nat):steps t (run t.mask i).length (Qw t.mask i pt m)=Qw t.mask (Vj t.mask i pt).1 (Vj t.mask i pt).2 m:=by
 have hl:(run t.mask i).length=(VF t.mask i-i)+1:=by
  unfold run;rw[ZB,WE];have:=zbe t.mask i;lia
 rw[hl,zbc];unfold Qw;rw[zbd t i pt m _ _ _ (XR _),S2];rw[steps,steps];unfold Rh;rw[bq (by show ¬ 0>0;lia)]
theorem JA (t:Wq):∀(f i pt:Nat) (m:Option Nat) (n:Nat) (j:Nat),(walk t.mask f i pt)[n]?=some j->(steps t n (Qw t.mask i pt m)).j=j
 | 0,_,_,_,_,_,h=>by simp[walk]at h
 | f+1,i,pt,m,n,j,h=>by
  rw[walk]at h;by_cases hn:n<(run t.mask i).length
  .rw[VP hn]at h;unfold run at h;rw[XC,TF (by unfold run at hn;simpa using hn)]at h;have hl:(run t.mask i).length=(VF t.mask i-i)+1:=by
    unfold run;rw[ZB,WE];have:=zbe t.mask i;lia
   unfold Qw;rw[zbd t i pt m n _ _ (by lia)];exact Option.some.inj h
  .rw[Vv (by lia)]at h;have e:n=(run t.mask i).length+(n-(run t.mask i).length):=by lia
   rw[e,zbc,zh1];exact JA t f _ _ m _ j h
theorem zfe (t:Wq)(VB:Nat->Int)(h:Int):∀(n F:Nat) (p:RX),(∀k,k<n->∃i,t.slot (steps t k p).j=.live i/\(VB i==h)=false)->n<=F->T5 t VB h F p=T5 t VB h (F-n) (steps t n p)
 | 0,F,p,_,_=>rfl
 | n+1,F,p,hk,B=>by
  obtain⟨m,rfl⟩:∃m,F=m+1:=⟨F-1,by lia⟩;obtain⟨i,s,w⟩:=hk 0 (by lia);have r:t.slot p.j=.live i:=s;rw[T5,r];show (if (VB i==h)=true then _ else _)=_;rw[bq (by rw[w];decide),zfe t VB h n m (t.advance p) (λk A=>hk (k+1) (by lia)) (by lia),Nat.add_sub_add_right];rfl
def Up (xs:Array Nat):Prop:=∀i j,i<j->j<xs.size->xs.getD i 0<xs.getD j 0
def zl2 {xs:Array Nat}(U:Up xs)(j:Nat):∀(f lo hi:Nat),hi-lo<=f->lo<=hi->hi<=xs.size->(∀i,i<lo->xs.getD i 0<j)->(∀i,hi<=i->i<xs.size->j<=xs.getD i 0) ->
  Vy xs j f lo hi<=xs.size/\(∀i,i<Vy xs j f lo hi->xs.getD i 0<j)/\(∀i,Vy xs j f lo hi<=i->i<xs.size->j<=xs.getD i 0):=by
 intro f;induction f with
 | zero =>
  intro lo hi I hl A s w;have:lo=hi:=by lia
  subst this;exact⟨A,s,w⟩
 | succ f G =>
  intro lo hi I hl A s w;by_cases m:lo<hi
  .have hm:(lo+hi)/2<hi:=by lia
   have J:lo<=(lo+hi)/2:=by lia
   have r:(lo+hi)/2<xs.size:=by lia
   have e:xs.getD ((lo+hi)/2) j=xs.getD ((lo+hi)/2) 0:=by
    simp[Array.getD,r]
   have E:Vy xs j (f+1) lo hi=if xs.getD ((lo+hi)/2) 0<j then Vy xs j f ((lo+hi)/2+1) hi else Vy xs j f lo ((lo+hi)/2):=by
    rw[Vy,bw m];show (if xs.getD ((lo+hi)/2) j<j then _ else _)=_;rw[e]
   by_cases hx:xs.getD ((lo+hi)/2) 0<j
   .rw[E,bw hx];refine G ((lo+hi)/2+1) hi (by lia) (by lia) A (λi B=>?_) w;by_cases he:i=(lo+hi)/2
    .rw[he];exact hx
    .exact TU (U i ((lo+hi)/2) (by lia) r) hx
   .rw[E,bq hx];refine G lo ((lo+hi)/2) (by lia) (by lia) (by lia) s (λi B D=>?_);by_cases he:i=(lo+hi)/2
    .rw[he];lia
    .have:=U ((lo+hi)/2) i (by lia) D;lia
  .rw[Vy,bq m];have:lo=hi:=by lia
   subst this;exact⟨A,s,w⟩
def Zz {xs:Array Nat}(U:Up xs)(j:Nat):Xr xs j<=xs.size/\(∀i,i<Xr xs j->xs.getD i 0<j)/\(∀i,Xr xs j<=i->i<xs.size->j<=xs.getD i 0) :=
 zl2 U j xs.size 0 xs.size (by lia) (W3 _) (XR _) (λ_ h=>absurd h (U6 _)) (λi r m=>absurd m (by lia))
def JB {xs:Array Nat}{i:Nat}(h:i<xs.size):xs[i]?=some (xs.getD i 0):=by
 simp[Array.getD,h]
def ZA {t:Wq}(U:Up t.place){i:Nat}(hi:i<t.place.size):t.slot (t.place.getD i 0)=.live i:=by
 have b:=Zz U (t.place.getD i 0);have e:Xr t.place (t.place.getD i 0)=i:=by
  rcases SV (Xr t.place (t.place.getD i 0)) i with h | h | h
  .have m:=b.2.2 _ (XR _) (by lia);have r:=U _ i h hi;lia
  .exact h
  .have:=b.2.1 i h;lia
 unfold SetTable.slot;simp only[e,JB hi];rw[bw (by simp)]
def slot_of {t:Wq}(U:Up t.place)(s:t.dummies=#[])(j:Nat):(∃i,i<t.place.size/\t.place.getD i 0=j/\t.slot j=.live i)\/(t.slot j=.empty/\∀i,i<t.place.size->t.place.getD i 0≠j):=by
 by_cases h:∃i,i<t.place.size/\t.place.getD i 0=j
 .obtain⟨i,hi,rfl⟩:=h;exact .inl ⟨i,hi,rfl,ZA U hi⟩
 .have hn:∀i,i<t.place.size->t.place.getD i 0≠j:=λi hi e=>h ⟨i,hi,e⟩;refine .inr ⟨?_,hn⟩;unfold SetTable.slot;have r:¬ ((t.place[Xr t.place j]?==some j)=true):=λz=>by
   have m:t.place[Xr t.place j]?=some j:=by simpa using z
   have hl:Xr t.place j<t.place.size:=by
    rcases Uo (Xr t.place j) t.place.size with q | q
    .exact q
    .rw[WH q]at m;cases m
   rw[JB hl]at m;exact hn _ hl (Option.some.inj m)
  simp only[];rw[bq r,s];rfl
def Reach (t:Wq)(h:Int)(j:Nat):Prop:=∃n:Nat,(walk t.mask (W5 t.mask) (XI h%(t.mask+1)) (XI h))[n]?=some j/\∀k:Nat,k<n->∀m,(walk t.mask (W5 t.mask) (XI h%(t.mask+1)) (XI h))[k]?=some m->∃i,i<t.place.size/\t.place.getD i 0=m
def zaB (t:Wq)(h:Int):t.probeStart h=Qw t.mask (XI h%(t.mask+1)) (XI h) none:=rfl
theorem zgr (t:Wq):∀n p,(steps t n p).dummy=p.dummy
 | 0,_=>rfl
 | n+1,p=>by
  rw[steps,zgr t n];unfold Rh;split<;>rfl
def zgs {t:Wq}(U:Up t.place)(VB:Nat->Int){h:Int}{i:Nat}(hi:i<t.place.size)(eh:VB i=h)(one:∀r,r<t.place.size->VB r=h->r=i)(R:Reach t h (t.place.getD i 0)):∃O,t.probe VB h (t.probeStart h)=some (.candidate (t.place.getD i 0) i O):=by
 obtain⟨n,hn,hk⟩:=R;have aa:=(XV.mp hn).1;have wl:=zcM t.mask (W5 t.mask) (XI h%(t.mask+1)) (XI h);have M:∀m:Nat,m<=n->(∀k,k<m->∃r,t.slot (steps t k (t.probeStart h)).j=.live r/\(VB r==h)=false)\/∃s,s<m/\(∀k,k<s->∃r,t.slot (steps t k (t.probeStart h)).j=.live r/\(VB r==h)=false)/\t.slot (steps t s (t.probeStart h)).j=.live i/\(steps t s (t.probeStart h)).j=t.place.getD i 0:=λm=>by
  induction m with
  | zero=>exact λ_=>.inl λk hk=>absurd hk (U6 _)
  | succ m ih =>
   intro hm;rcases ih (by lia) with I | ⟨s,a,b⟩
   .have hw:∃G,(walk t.mask (W5 t.mask) (XI h%(t.mask+1)) (XI h))[m]?=some G:=⟨_,XX (by lia)⟩;obtain⟨G,E⟩:=hw;obtain⟨r,D,A⟩:=hk m (by lia) G E;have w:(steps t m (t.probeStart h)).j=G:=by
     rw[zaB];exact JA t _ _ _ none m G E
    have J:t.slot (steps t m (t.probeStart h)).j=.live r:=by
     rw[w,<- A];exact ZA U D
    by_cases he:VB r=h
    .have:=one r D he;subst this;exact .inr ⟨m,by lia,I,J,by rw[w,A]⟩
    .refine .inl λk ab=>?_;by_cases L:k=m
     .subst L;exact⟨r,J,by simpa using he⟩
     .exact I k (by lia)
   .exact .inr ⟨s,by lia,b⟩
 have B:∀m:Nat,m<10*W5 t.mask->(∀k,k<m->∃r,t.slot (steps t k (t.probeStart h)).j=.live r/\(VB r==h)=false)->t.slot (steps t m (t.probeStart h)).j=.live i->(steps t m (t.probeStart h)).j=t.place.getD i 0->∃O,t.probe VB h (t.probeStart h)=some (.candidate (t.place.getD i 0) i O):=λm hm hp J w=>by
  unfold SetTable.probe;rw[zfe t VB h m _ _ hp (by lia)];obtain⟨Y,hF⟩:∃Y,10*W5 t.mask-m=Y+1:=⟨10*W5 t.mask-m-1,by lia⟩;rw[hF,T5,J];simp only[];rw[bw (by simpa using eh),w];exact⟨_,rfl⟩
 rcases M n (XR _) with I | ⟨s,a,b,c,d⟩
 .have w:(steps t n (t.probeStart h)).j=t.place.getD i 0:=by
   rw[zaB];exact JA t _ _ _ none n _ hn
  exact B n (by lia) I (by rw[w];exact ZA U hi) w
 .exact B s (by lia) b c d
def zff {t:Wq}(U:Up t.place)(hd:t.dummies=#[])(VB:Nat->Int){h:Int}(no:∀i,i<t.place.size->VB i≠h){e:Nat}(he:∀i,i<t.place.size->t.place.getD i 0≠e)(hw:e∈walk t.mask (W5 t.mask) (XI h%(t.mask+1)) (XI h)) :
  ∃j,t.probe VB h (t.probeStart h)=some (.empty j none)/\t.slot j=.empty/\Reach t h j/\j∈walk t.mask (W5 t.mask) (XI h%(t.mask+1)) (XI h):=by
 obtain⟨N,J⟩:=Px.mp hw;have L:=(XV.mp J).1;have wl:=zcM t.mask (W5 t.mask) (XI h%(t.mask+1)) (XI h);have G:∀m:Nat,m<=N+1->(∀k:Nat,k<m->∀r,(walk t.mask (W5 t.mask) (XI h%(t.mask+1)) (XI h))[k]?=some r->∃i,i<t.place.size/\t.place.getD i 0=r)\/∃s j:Nat,s<m/\(walk t.mask (W5 t.mask) (XI h%(t.mask+1)) (XI h))[s]?=some j/\t.slot j=.empty/\(∀k:Nat,k<s->∀r,(walk t.mask (W5 t.mask) (XI h%(t.mask+1)) (XI h))[k]?=some r->∃i,i<t.place.size/\t.place.getD i 0=r):=λm=>by
  induction m with
  | zero=>exact λ_=>.inl λk hk=>absurd hk (U6 _)
  | succ m ih =>
   intro hm;rcases ih (by lia) with D | ⟨s,j,a,b⟩
   .obtain⟨r,w⟩:∃r,(walk t.mask (W5 t.mask) (XI h%(t.mask+1)) (XI h))[m]?=some r:=⟨_,XX (by lia)⟩;rcases slot_of U hd r with ⟨i,hi,B,_⟩ | ⟨se,_⟩
    .refine .inl λk aa j2 A=>?_;by_cases E:k=m
     .subst E;rw[w]at A;exact⟨i,hi,by rw[B];exact Option.some.inj A⟩
     .exact D k (by lia) j2 A
    .exact .inr ⟨m,r,by lia,w,se,D⟩
   .exact .inr ⟨s,j,by lia,b⟩
 rcases G (N+1) (XR _) with D | ⟨s,j,a,b,c,d⟩
 .obtain⟨i,hi,B⟩:=D N (by lia) e J;exact absurd B (he i hi)
 .refine⟨j,?_,c,⟨s,b,d⟩,X4 b⟩;have O:(steps t s (t.probeStart h)).j=j:=by
   rw[zaB];exact JA t _ _ _ none s j b
  have hp:∀k,k<s->∃M,t.slot (steps t k (t.probeStart h)).j=.live M/\(VB M==h)=false:=λk hk=>by
   obtain⟨r,w⟩:∃r,(walk t.mask (W5 t.mask) (XI h%(t.mask+1)) (XI h))[k]?=some r:=⟨_,XX (by lia)⟩;obtain⟨i,hi,B⟩:=d k hk r w;refine⟨i,?_,by simpa using no i hi⟩;have:(steps t k (t.probeStart h)).j=r:=by
    rw[zaB];exact JA t _ _ _ none k r w
   rw[this,<- B];exact ZA U hi
  unfold SetTable.probe;rw[zfe t VB h s _ _ hp (by lia)];obtain⟨I,Y⟩:∃I,10*W5 t.mask-s=I+1:=⟨10*W5 t.mask-s-1,by lia⟩;rw[Y,T5,O,c];simp only[zgr];rfl
def orb (m:Nat):Nat->Nat->Nat
 | 0,i=>i
 | n+1,i=>orb m n ((i*5+1)%m)
def zkH (m:Nat):Nat->Nat->List Nat
 | 0,_=>[]
 | n+1,i=>i::zkH m n ((i*5+1)%m)
theorem zcN (m:Nat):∀(n i e:Nat),e∈zkH m n i->∃k,k<n/\orb m k i=e
 | 0,_,_,h=>nomatch h
 | n+1,i,e,h=>by
  rcases XQ.mp h with rfl | h
  .exact⟨0,Um _,rfl⟩
  .obtain⟨k,hk,q⟩:=zcN m n _ e h;exact⟨k+1,by lia,q⟩
theorem zci (m:Nat):∀a b i,orb m (a+b) i=orb m b (orb m a i)
 | 0,b,i=>by rw[VI];rfl
 | a+1,b,i=>by
  rw[show a+1+b=(a+b)+1 from by lia];exact zci m a b _
def full {m:Nat}(w:∀e,e<m->e∈zkH m m 0)(A:orb m m 0=0){i e:Nat}(hi:i<m)(he:e<m):∃k,k<m+1/\orb m k i=e:=by
 obtain⟨a,ha,r⟩:=zcN m m 0 i (w i hi);obtain⟨b,B,s⟩:=zcN m m 0 e (w e he);rcases Uo b a with q | q
 .refine⟨m-a+b,by lia,?_⟩;rw[<- r,<- zci,show a+(m-a+b)=m+b from by lia,zci,A,s]
 .refine⟨b-a,by lia,?_⟩;rw[<- r,<- zci,show a+(b-a)=b from by lia,s]
def zpA:(∀e,e<8->e∈zkH 8 8 0)/\orb 8 8 0=0:=by decide+kernel
def zl3:(∀e,e<32->e∈zkH 32 32 0)/\orb 32 32 0=0:=by decide+kernel
def zjc:(∀e,e<128->e∈zkH 128 128 0)/\orb 128 128 0=0:=by decide+kernel
def ZC (m:Nat):Nat->Nat->Nat->AA
 | 0,i,p=>(i,p)
 | n+1,i,p=>ZC m n (Vj m i p).1 (Vj m i p).2
theorem zeg (m:Nat):∀a b i p,ZC m (a+b) i p=ZC m b (ZC m a i p).1 (ZC m a i p).2
 | 0,b,i,p=>by rw[VI];rfl
 | a+1,b,i,p=>by
  rw[show a+1+b=(a+b)+1 from by lia];exact zeg m a b _ _
theorem zjd (m:Nat):∀n i p,(ZC m n i p).2=p/32^n
 | 0,i,p=>by rw[Nat.pow_zero,Nat.div_one];rfl
 | n+1,i,p=>by
  rw[ZC,zjd m n];show p/32/32^n=_;rw[Nat.div_div_eq_div_mul,Ul,Nat.mul_comm]
theorem zgt (m:Nat):∀n i p,i<m+1->(ZC m n i p).1<m+1
 | 0,i,p,h=>h
 | n+1,i,p,h=>zgt m n _ _ (R0 _ (Um _))
theorem zeh (m:Nat):∀n i,(ZC m n i 0).1=orb (m+1) n i
 | 0,_=>rfl
 | n+1,i=>by
  have r:(Vj m i 0).1=(i*5+1)%(m+1):=rfl;have s:(Vj m i 0).2=0:=rfl;rw[ZC,r,s];exact zeh m n _
theorem head_mem (m:Nat):∀(f n i p:Nat),n<f->(ZC m n i p).1∈walk m f i p
 | 0,_,_,_,h=>absurd h (U6 _)
 | f+1,0,i,p,_=>by
  rw[walk];refine W4 _ ?_;unfold run;refine XN.mpr ⟨0,Wv.mpr ?_,by rfl⟩;have:=zbe m i;lia
 | f+1,n+1,i,p,h=>by
  rw[walk];exact WZ _ (head_mem m f n _ _ (by lia))
def zgu {m:Nat}(hm:m=7\/m=31\/m=127)(h:Int){e:Nat}(he:e<m+1):e∈walk m (W5 m) (XI h%(m+1)) (XI h):=by
 have w:XI h<2^64:=by
  unfold XI;have B:=U5 h (show (2^64:Int)≠0 by decide);have D:=UQ h (show (0:Int)<2^64 by decide);lia
 have A:(ZC m 13 (XI h%(m+1)) (XI h)).2=0:=by
  rw[zjd];exact Nat.div_eq_of_lt (TU w (by decide))
 have hi:=zgt m 13 (XI h%(m+1)) (XI h) (R0 _ (Um _));obtain⟨k,hk,s⟩:∃k,k<m+1+1/\orb (m+1) k (ZC m 13 (XI h%(m+1)) (XI h)).1=e:=by
  rcases hm with rfl | rfl | rfl
  .exact full zpA.1 zpA.2 hi he
  .exact full zl3.1 zl3.2 hi he
  .exact full zjc.1 zjc.2 hi he
 have r:=head_mem m (W5 m) (13+k) (XI h%(m+1)) (XI h) (by unfold W5;lia);rw[zeg,A,zeh,s]at r;exact r
def YX {α:Type}(xs:Array α){p:Nat}(x:α):(Xh xs p x).toList=xs.toList.take p++x::xs.toList.drop p:=by
 unfold Xh;simp;rw[WT (by rw[Wl,XZ];lia)]
def zl4 {α:Type}(xs:Array α){p:Nat}(s:p<=xs.size)(x:α)(i:Nat):(Xh xs p x)[i]?=if i<p then xs[i]? else if i=p then some x else xs[i-1]?:=by
 have hl:(xs.toList.take p).length=p:=by
  rw[XM,XZ];lia
 rw[<- XA,YX];by_cases m:i<p
 .rw[bw m,VP (by lia),Ts m,XA]
 .rw[bq m,Vv (by lia),hl];by_cases r:i=p
  .rw[bw r,r,S2];rfl
  .rw[bq r,show i-p=(i-p-1)+1 from by lia,Q1,Uk,XA];congr 1;lia
def jF {α:Type}(xs:Array α){p:Nat}(m:p<=xs.size)(x:α):(Xh xs p x).size=xs.size+1:=by
 rw[<- XZ,YX,X6,Xn,XM,Wl,XZ];lia
def ZD (xs:Array Nat){p:Nat}(s:p<=xs.size)(x i:Nat)(hi:i<xs.size+1):(Xh xs p x).getD i 0=if i<p then xs.getD i 0 else if i=p then x else xs.getD (i-1) 0:=by
 have h:=zl4 xs s x i;rw[JB (by rw[jF xs s x];exact hi)]at h;by_cases m:i<p
 .rw[bw m]at h ⊢;rw[JB (by lia)]at h;exact Option.some.inj h
 .rw[bq m]at h ⊢;by_cases r:i=p
  .rw[bw r]at h ⊢;exact Option.some.inj h
  .rw[bq r]at h ⊢;rw[JB (by lia)]at h;exact Option.some.inj h
def zl5 {t:Wq}(U:Up t.place)(D:t.dummies=#[]){j:Nat}(he:∀i,i<t.place.size->t.place.getD i 0≠j):(t.put j).2=Xr t.place j/\(t.put j).1={ t with place:=Xh t.place (Xr t.place j) j }/\Up (Xh t.place (Xr t.place j) j):=by
 have b:=Zz U j;refine⟨rfl,?_,λa c w hc=>?_⟩
 .unfold SetTable.put;simp only[D];rfl
 .rw[jF _ b.1]at hc;rw[ZD _ b.1 _ _ (by lia),ZD _ b.1 _ _ hc];have lo:∀i,i<Xr t.place j->t.place.getD i 0<j:=b.2.1;have hi:∀i,Xr t.place j<=i->i<t.place.size->j<t.place.getD i 0:=λi B s=>by
   have:=b.2.2 i B s;have:=he i s;lia
  by_cases m:a<Xr t.place j
  .rw[bw m];by_cases c1:c<Xr t.place j
   .rw[bw c1];exact U a c w (by lia)
   .rw[bq c1];by_cases r:c=Xr t.place j
    .rw[bw r];exact lo a m
    .rw[bq r];have B:=lo a m;have s:=hi (c-1) (by lia) (by lia);lia
  .have c1:¬ c<Xr t.place j:=by lia
   have r:¬ c=Xr t.place j:=by lia
   rw[bq m,bq c1,bq r];by_cases A:a=Xr t.place j
   .rw[bw A];exact hi (c-1) (by lia) (by lia)
   .rw[bq A];exact U (a-1) (c-1) (by lia) (by lia)
def Reach.more {t t':Wq}(hm:t'.mask=t.mask)(E:∀i,i<t.place.size->∃m,m<t'.place.size/\t'.place.getD m 0=t.place.getD i 0){h:Int}{j:Nat}(R:Reach t h j):Reach t' h j:=by
 obtain⟨n,B,D⟩:=R;unfold Reach;rw[hm];refine⟨n,B,λk hk G w=>?_⟩;obtain⟨i,hi,A⟩:=D k hk G w;obtain⟨m,s,r⟩:=E i hi;exact⟨m,s,r.trans A⟩
def zl6 {t:Wq}(U:Up t.place)(j:Nat):∀i,i<t.place.size->∃m,m<(Xh t.place (Xr t.place j) j).size/\(Xh t.place (Xr t.place j) j).getD m 0=t.place.getD i 0:=λi hi=>by
 have b:=Zz U j;by_cases h:i<Xr t.place j
 .refine⟨i,by rw[jF _ b.1];lia,?_⟩;rw[ZD _ b.1 _ _ (by lia),bw h]
 .refine⟨i+1,by rw[jF _ b.1];lia,?_⟩;rw[ZD _ b.1 _ _ (by lia),bq (by lia),bq (by lia),RR]
theorem zje (m:Nat)(owner:Array (Option Nat)):∀(f i p:Nat),SetTable.layClean.free m owner f i p=(walk m f i p).find? λj=>(owner.getD j (some 0)).isNone
 | 0,_,_=>rfl
 | f+1,i,p=>by
  rw[SetTable.layClean.free,walk,RB];unfold run;rw[Pc];have e:((λj=>(owner.getD j (some 0)).isNone)∘λx=>i+x)=λk=>(owner.getD (i+k) (some 0)).isNone:=rfl;rw[e];cases h:(WG (VF m i+1-i)).find? λk=>(owner.getD (i+k) (some 0)).isNone with
  | some k=>rfl
  | none =>
   simp only[Option.map_none,Option.none_or];exact zje m owner f _ _
structure Own (mask:Nat)(hs:List Int)(owner:Array (Option Nat))(k:Nat):Prop where
 sz:owner.size=mask+1
 few:(owner.toList.countP λo=>o.isNone)+k=mask+1
 at_:∀i,i<k->∃j:Nat,owner[j]?=some (some i)/\∃n:Nat,(walk mask (W5 mask) (XI (hs.getD i 0)%(mask+1)) (XI (hs.getD i 0)))[n]?=some j/\∀m:Nat,m<n->∀j':Nat,(walk mask (W5 mask) (XI (hs.getD i 0)%(mask+1)) (XI (hs.getD i 0)))[m]?=some j'->∃o,owner[j']?=some (some o)
 lt:∀j i:Nat,owner[j]?=some (some i)->i<k
 inj:∀j j' i:Nat,owner[j]?=some (some i)->owner[j']?=some (some i)->j=j'
def Own.nil (m:Nat)(r:List Int):Own m r (Array.replicate (m+1) none) 0:=by
 refine⟨by simp,by rw[Array.toList_replicate,List.countP_replicate];rfl,λi h=>absurd h (U6 _),λj i h=>?_,λj s i h=>?_⟩
 .rw[Rq]at h;split at h<;>cases h
 .rw[Rq]at h;split at h<;>cases h
def count_set {l:List (Option Nat)}:∀{j:Nat} (k:Nat),l[j]?=some none->(l.set j (some k)).countP (λo=>o.isNone)+1=l.countP λo=>o.isNone:=by
 induction l with
 | nil=>exact λ_ h=>by simp at h
 | cons o r m =>
  intro j k h;cases j with
  | zero =>
   have:o=none:=by simpa using h
   subst this;simp[Wi]
  | succ j =>
   have:=m k (by simpa using h);rw[RQ,Wi,Wi];lia
def zkI {l:List (Option Nat)}(h:0<l.countP λo=>o.isNone):∃j:Nat,l[j]?=some none:=by
 obtain⟨o,r,hn⟩:=OP.mp h;obtain⟨j,m⟩:=Px.mp r;refine⟨j,?_⟩;rw[m];cases o with
 | none=>rfl
 | some _=>cases hn
def getD_none {owner:Array (Option Nat)}{j:Nat}:(owner.getD j (some 0)).isNone=true↔owner[j]?=some none:=by
 by_cases h:j<owner.size
 .have e:owner[j]?=some (owner.getD j (some 0)):=by simp[Array.getD,h]
  rw[e];cases owner.getD j (some 0)<;>simp
 .have e:owner.getD j (some 0)=some 0:=by simp[Array.getD,h]
  rw[e,WH (by lia)];simp
theorem zfg (m:Nat):∀(f i p:Nat),i<m+1->∀j∈walk m f i p,j<m+1
 | 0,_,_,_,_,h=>nomatch h
 | f+1,i,p,hi,j,h=>by
  rw[walk]at h;rcases XU.mp h with h | h
  .unfold run at h;obtain⟨k,hk,rfl⟩:=XN.mp h;have r:=Wv.mp hk;have:VF m i<=m:=by
    unfold VF;split<;>lia
   lia
  .exact zfg m f _ _ (R0 _ (Um _)) j h
def Own.step {r:Nat}(hm:r=7\/r=31\/r=127){w:List Int}{owner:Array (Option Nat)}{k:Nat}(O:Own r w owner k)(hk:k<r+1):∃j,SetTable.layClean.free r owner (W5 r) (XI (w.getD k 0)%(r+1)) (XI (w.getD k 0))=some j/\Own r w (owner.setIfInBounds j (some k)) (k+1):=by
 obtain⟨e,he⟩:=zkI (l:=owner.toList) (by have:=O.few;lia);rw[XA]at he;have ac:e<owner.size:=by
  rcases Uo e owner.size with q | q
  .exact q
  .rw[WH q]at he;cases he
 have hw:=zgu hm (w.getD k 0) (e:=e) (by have:=O.sz;lia);rw[zje];cases U:(walk r (W5 r) (XI (w.getD k 0)%(r+1)) (XI (w.getD k 0))).find? λj=>(owner.getD j (some 0)).isNone with
 | none =>
  have:=Te.mp U e hw;exact absurd (getD_none.mpr he) this
 | some j =>
  refine⟨j,rfl,?_⟩;have M:owner[j]?=some none:=getD_none.mp (PF (p:=λj=>(owner.getD j (some 0)).isNone) U);have aa:j<owner.size:=by
   rcases Uo j owner.size with q | q
   .exact q
   .rw[WH q]at M;cases M
  have get:∀i:Nat,(owner.setIfInBounds j (some k))[i]?=if j=i then some (some k) else owner[i]?:=λi=>by
   rw[Ud];by_cases h:j=i
   .rw[bw h,bw h];simp[aa]
   .rw[bq h,bq h]
  have keep:∀(i o:Nat),owner[i]?=some (some o)->(owner.setIfInBounds j (some k))[i]?=some (some o):=λi o h=>by
   rw[get,bq (λz=>by rw[<- z,M]at h;cases h)];exact h
  refine⟨by rw[Tr];exact O.sz,?_,λi hi=>?_,λA i h=>?_,λj1 j2 i I J=>?_⟩
  .rw[RL];have:=count_set (l:=owner.toList) (j:=j) k (by rw[XA];exact M);have:=O.few;lia
  .by_cases Y:i=k
   .subst Y;refine⟨j,by rw[get,bw rfl],?_⟩;obtain⟨_,as,bs,D,hn⟩:=List.find?_eq_some_iff_append.mp U;refine⟨as.length,by rw[D];simp,λm E A s=>?_⟩;rw[D,VP E]at s;have B:=X4 s;have L:=hn A B;have ab:A∈walk r (W5 r) (XI (w.getD i 0)%(r+1)) (XI (w.getD i 0)):=by
     rw[D];exact W4 _ B
    cases G:owner[A]? with
    | none =>
     have:=zfg r (W5 r) _ _ (R0 _ (Um _)) A ab;rw[Vu.mpr ⟨by rw[O.sz];exact this,rfl⟩]at G;cases G
    | some o =>
     cases o with
     | none =>
      rw[getD_none.mpr G]at L;cases L
     | some o=>exact⟨o,keep A o G⟩
   .obtain⟨j0,a,n,b,c⟩:=O.at_ i (by lia);refine⟨j0,keep _ _ a,n,b,λm E A s=>?_⟩;obtain⟨o,G⟩:=c m E A s;exact⟨o,keep _ _ G⟩
  .rw[get]at h;split at h
   .have:k=i:=by simpa using h
    lia
   .have:=O.lt A i h;lia
  .rw[get]at I J;split at I<;>split at J
   .lia
   .have:k=i:=by simpa using I
    have:=O.lt j2 i J;lia
   .have:k=i:=by simpa using J
    have:=O.lt j1 i I;lia
   .exact O.inj j1 j2 i I J
theorem zgv {m:Nat}(hm:m=7\/m=31\/m=127)(w:List Int)(hl:w.length<=m+1):∀(l done:List Int) (owner:Array (Option Nat)),w=done++l->Own m w owner done.length ->
  ∃s,l.foldl (λ(B:Option (Array (Option Nat)×Nat)) h=>do
   let (owner,k) <- B
   let j <- SetTable.layClean.free m owner (W5 m) (XI h%(m+1)) (XI h)
   pure (owner.setIfInBounds j (some k),k+1)) (some (owner,done.length))=some (s,w.length)/\Own m w s w.length
 | [],done,owner,e,O=>by
  rw[Xx]at e;subst e;exact⟨owner,rfl,O⟩
 | h::r,done,owner,e,O=>by
  have L:w.getD done.length 0=h:=by
   rw[e];simp[List.getD]
  have A:done.length<m+1:=by
   have:w.length=done.length+(r.length+1):=by rw[e,X6,Xn]
   lia
  obtain⟨j,E,G⟩:=O.step hm A;rw[L]at E;obtain⟨s,D,J⟩:=zgv hm w hl r (done++[h]) (owner.setIfInBounds j (some done.length)) (by rw[e,W9];rfl) (by rw[X6];exact G);refine⟨s,?_,J⟩;rw[X6]at D;rw[VR];have I:(do
   let (owner,k) <- (some (owner,done.length):Option (Array (Option Nat)×Nat))
   let j <- SetTable.layClean.free m owner (W5 m) (XI h%(m+1)) (XI h)
   pure (owner.setIfInBounds j (some k),k+1))=some (owner.setIfInBounds j (some done.length),done.length+1):=by
   show (SetTable.layClean.free m owner (W5 m) (XI h%(m+1)) (XI h)).bind _=_;rw[E];rfl
  rw[I];exact D
def zqE {r:Nat}(hm:r=7\/r=31\/r=127)(m:Array Int)(hl:m.size<=r+1):∃owner,SetTable.layClean r m=some owner/\Own r m.toList owner m.size:=by
 obtain⟨owner,s,w⟩:=zgv hm m.toList (by rw[XZ];exact hl) m.toList [] _ rfl (Own.nil r _);rw[XZ]at s w;refine⟨owner,?_,w⟩;unfold SetTable.layClean;rw[<- Array.foldl_toList];exact congrArg (Option.map (·.1)) s
def qK (m:Nat)(owner:Array (Option Nat)):AB:=(WG (m+1)).filterMap λj=>(owner.getD j none).map (j,·)
def JC {m:Nat}{owner:Array (Option Nat)}(sz:owner.size=m+1){j i:Nat}:(j,i)∈qK m owner↔owner[j]?=some (some i):=by
 unfold qK;rw[Th];constructor
 .rintro⟨a,ha,h⟩;have hl:a<owner.size:=by rw[sz];exact Wv.mp ha
  have e:owner[a]?=some (owner.getD a none):=by simp[Array.getD,hl]
  cases ho:owner.getD a none with
  | none =>
   rw[ho]at h;cases h
  | some b =>
   rw[ho]at h;have r:(a,b)=(j,i):=Option.some.inj h;cases r;rw[e,ho]
 .intro h;have hl:j<owner.size:=by
   rcases Uo j owner.size with q | q
   .exact q
   .rw[WH q]at h;cases h
  have e:owner[j]?=some (owner.getD j none):=by simp[Array.getD,hl]
  refine⟨j,Wv.mpr (by rw[<- sz];exact hl),?_⟩;rw[e]at h;rw[Option.some.inj h];rfl
def zjf (m:Nat)(owner:Array (Option Nat)):(qK m owner).Pairwise λa b=>a.1<b.1:=by
 unfold qK;rw[List.pairwise_filterMap];refine List.pairwise_lt_range.imp λ{a b} r x hx y hy=>?_;cases h1:owner.getD a none with
 | none=>rw[h1]at hx;cases hx
 | some p =>
  cases h2:owner.getD b none with
  | none=>rw[h2]at hy;cases hy
  | some q =>
   rw[h1]at hx;rw[h2]at hy;have s:(a,p)=x:=Option.some.inj hx;have w:(b,q)=y:=Option.some.inj hy;rw[<- s,<- w];exact r
def zkJ {m:Nat}{J:List Int}{owner:Array (Option Nat)}{k:Nat}(O:Own m J owner k):((qK m owner).map (·.2)).Perm (WG k):=by
 have L:((qK m owner).map (·.2)).Nodup:=by
  refine V9.mpr ((zjf m owner).imp_of_mem λ{a b} ha G r e=>?_);obtain⟨s,w⟩:=a;obtain⟨A,D⟩:=b;have E:w=D:=e;subst E;have:=O.inj s A w ((JC O.sz).mp ha) ((JC O.sz).mp G);have B:s<A:=r;lia
 refine(WW L List.nodup_range).mpr λi=>?_;rw[Wv,XN];constructor
 .rintro⟨⟨j,i'⟩,hm,rfl⟩;exact O.lt j _ ((JC O.sz).mp hm)
 .intro hi;obtain⟨j,I,_⟩:=O.at_ i hi;exact⟨(j,i),(JC O.sz).mpr I,rfl⟩
def zon {mask:Nat}(hm:mask=7\/mask=31\/mask=127)(finger moves:Nat)(led plain:Bool)(r:Array Int)(hl:r.size<=mask+1):∃place s,SetTable.laid mask finger moves led plain r=some ({ mask:=mask,place:=place,dummies:=#[],finger:=finger,led:=led,moves:=moves,plain:=plain },s) /\
  Up place/\place.size=r.size/\s.size=r.size/\s.toList.Perm (WG r.size)/\(∀i,i<place.size->place.getD i 0<mask+1) /\
  ∀i,i<place.size->Reach { mask:=mask,place:=place,dummies:=#[],finger:=finger,led:=led,moves:=moves,plain:=plain } (r.toList.getD (s.getD i 0) 0) (place.getD i 0):=by
 obtain⟨m,Y,O⟩:=zqE hm r hl;have perm:=zkJ O;have up:=zjf mask m;have L:(qK mask m).length=r.size:=by
  have:=perm.length_eq;rw[ZB,WE]at this;exact this
 have D:∀i (h:i<(qK mask m).length),((qK mask m).map (·.1)).toArray.getD i 0=((qK mask m)[i]).1:=λi h=>by
  simp[Array.getD,h]
 have og:∀i (h:i<(qK mask m).length),((qK mask m).map (·.2)).toArray.getD i 0=((qK mask m)[i]).2:=λi h=>by
  simp[Array.getD,h]
 refine⟨((qK mask m).map (·.1)).toArray,((qK mask m).map (·.2)).toArray,?_,λi j E hj=>?_,by simp[L],by simp[L],perm,λi hi=>?_,λi hi=>?_⟩
 .unfold SetTable.laid;rw[Y];rfl
 .have B:j<(qK mask m).length:=by simpa using hj
  rw[D i (by lia),D j B];exact Vs.mp up i j (by lia) B E
 .have w:i<(qK mask m).length:=by simpa using hi
  rw[D i w];have A:=UV w;have:=(JC O.sz (j:=(qK mask m)[i].1) (i:=(qK mask m)[i].2)).mp A;rw[<- O.sz];rcases Uo (qK mask m)[i].1 m.size with q | q
  .exact q
  .rw[WH q]at this;cases this
 .have w:i<(qK mask m).length:=by simpa using hi
  rw[D i w,og i w];have A:=UV w;have I:=(JC O.sz (j:=(qK mask m)[i].1) (i:=(qK mask m)[i].2)).mp A;obtain⟨j0,a,n,b,c⟩:=O.at_ _ (O.lt _ _ I);have M:=O.inj _ _ _ a I;rw[M]at b;refine⟨n,b,λk hk J B=>?_⟩;obtain⟨o,G⟩:=c k hk J B;obtain⟨x,hx,U⟩:=TD ((JC O.sz).mpr G);refine⟨x,by simpa using hx,?_⟩;show ((qK mask m).map (·.1)).toArray.getD x 0=J;rw[D x hx,U]
structure Good (t:Wq)(hs:Array Int):Prop where
 mask:t.mask=7\/t.mask=31\/t.mask=127
 sz:t.place.size=hs.size
 dum:t.dummies=#[]
 up:Up t.place
 le:∀i,i<t.place.size->t.place.getD i 0<t.mask+1
 room:t.place.size*5<t.mask*3
 reach:∀i,i<t.place.size->Reach t (hs.toList.getD i 0) (t.place.getD i 0)
def Good.free {t:Wq}{I:Array Int}(G:Good t I):∃e,e<t.mask+1/\∀i,i<t.place.size->t.place.getD i 0≠e:=by
 refine Wx λhn=>?_;have all:∀e,e<t.mask+1->∃i,i<t.place.size/\t.place.getD i 0=e:=λe he=>Wx λA=>hn ⟨e,he,λi hi z=>A ⟨i,hi,z⟩⟩;have O:=G.room;have m:∀e,e<t.mask+1->∃i,i<t.place.size/\e<=i:=λe=>by
  induction e with
  | zero=>exact λh=>let ⟨i,hi,_⟩:=all 0 h;⟨i,hi,W3 _⟩
  | succ e Y =>
   intro h;obtain⟨i,hi,D⟩:=all (e+1) h;obtain⟨U,E,s⟩:=all e (by lia);have cnt:∀d,d<=e+1->∃i,i<t.place.size/\t.place.getD i 0=d/\d<=i:=λd=>by
    induction d with
    | zero=>exact λ_=>let ⟨i,hi,he⟩:=all 0 (by lia);⟨i,hi,he,W3 _⟩
    | succ d r =>
     intro M;obtain⟨a,ha,L,la⟩:=r (by lia);obtain⟨b,B,w⟩:=all (d+1) (by lia);have:a<b:=by
      rcases SV a b with q | q | q
      .exact q
      .subst q;lia
      .have:=G.up b a q ha;lia
     exact⟨b,B,w,by lia⟩
   obtain⟨x,hx,_,J⟩:=cnt (e+1) (XR _);exact⟨x,hx,J⟩
 obtain⟨i,hi,le⟩:=m t.mask (by lia);lia
def Good.found {t:Wq}{m:Array Int}(G:Good t m)(VB:Nat->Int)(w:∀i,i<m.size->VB i=m.toList.getD i 0)(B:m.toList.Nodup){i:Nat}(hi:i<m.size):∃D,t.probe VB (m.toList.getD i 0) (t.probeStart (m.toList.getD i 0))=some (.candidate (t.place.getD i 0) i D):=by
 have s:∀k (h:k<m.size),m.toList.getD k 0=m.toList[k]'(by rw[XZ];exact h):=λk h=>by
  rw[Xq,XX (by rw[XZ];exact h)];rfl
 refine zgs G.up VB (by rw[G.sz];exact hi) (w i hi) (λA r e=>?_) (G.reach i (by rw[G.sz];exact hi));rw[G.sz]at r;rw[w A r,s A r,s i hi]at e;exact(List.getElem_inj B).mp e
def Good.missed {t:Wq}{m:Array Int}(G:Good t m)(VB:Nat->Int)(D:∀i,i<m.size->VB i=m.toList.getD i 0){h:Int}(E:h ∉ m.toList):∃j,t.probe VB h (t.probeStart h)=some (.empty j none)/\j<t.mask+1/\(∀i,i<t.place.size->t.place.getD i 0≠j)/\Reach t h j:=by
 obtain⟨e,he,hn⟩:=G.free;have r:∀i,i<t.place.size->VB i≠h:=λi hi z=>by
  rw[G.sz]at hi;rw[D i hi,Xq,XX (by rw[XZ];exact hi)]at z;have I:m.toList[i]'(by rw[XZ];exact hi)=h:=z;exact E (I ▸ UV _)
 obtain⟨j,w,s,A,B⟩:=zff G.up G.dum VB (h:=h) r hn (zgu G.mask h he);refine⟨j,w,zfg _ _ _ _ (R0 _ (Um _)) j B,λi hi z=>?_,A⟩;rw[<- z,ZA G.up hi]at s;cases s
theorem Good.put {t:Wq}{r:Array Int}(G:Good t r){h:Int}{j:Nat}(M:j<t.mask+1)(he:∀i,i<t.place.size->t.place.getD i 0≠j)(R:Reach t h j)(w:(t.place.size+1)*5<t.mask*3):Good (t.put j).1 (Xh r (t.put j).2 h):=by
 obtain⟨L,J,U⟩:=zl5 G.up G.dum he;have b:=Zz G.up j;rw[L,J];have bs:Xr t.place j<=r.size:=by rw[<- G.sz];exact b.1
 have s:∀i,(Xh r (Xr t.place j) h).toList.getD i 0=if i<Xr t.place j then r.toList.getD i 0 else if i=Xr t.place j then h else r.toList.getD (i-1) 0:=λi=>by
  rw[Xq,XA,zl4 r bs];split
  .rw[Xq,XA]
  .split
   .rfl
   .rw[Xq,XA]
 have more:∀{D:Int} {E:Nat},Reach t D E->Reach { t with place:=Xh t.place (Xr t.place j) j } D E:=λI=>Reach.more (t:=t) (t':={ t with place:=Xh t.place (Xr t.place j) j }) rfl (zl6 G.up j) I;refine⟨G.mask,?_,G.dum,U,λi hi=>?_,?_,λi hi=>?_⟩
 .show (Xh t.place _ j).size=_;rw[jF _ b.1,jF _ bs,G.sz]
 .have m:i<t.place.size+1:=by
   have:=hi;rw[show ({ t with place:=Xh t.place (Xr t.place j) j }:Wq).place=Xh t.place (Xr t.place j) j from rfl,jF _ b.1]at this;exact this
  show (Xh t.place _ j).getD i 0<t.mask+1;rw[ZD _ b.1 _ _ m];split
  .exact G.le i (by lia)
  .split
   .exact M
   .exact G.le (i-1) (by lia)
 .show (Xh t.place _ j).size*5<t.mask*3;rw[jF _ b.1];exact w
 .have m:i<t.place.size+1:=by
   have:=hi;rw[show ({ t with place:=Xh t.place (Xr t.place j) j }:Wq).place=Xh t.place (Xr t.place j) j from rfl,jF _ b.1]at this;exact this
  show Reach _ _ ((Xh t.place _ j).getD i 0);rw[s,ZD _ b.1 _ _ m];by_cases A:i<Xr t.place j
  .rw[bw A,bw A];exact more (G.reach i (by lia))
  .rw[bq A,bq A];by_cases B:i=Xr t.place j
   .rw[bw B,bw B];exact more R
   .rw[bq B,bq B];exact more (G.reach (i-1) (by lia))
def zh2 (t:Wq)(r:Array Int)(hn:r.size=5\/r.size=19):∃t' m,t.relaid r (Uu r.size)=some (t',m)/\m.size=r.size/\m.toList.Perm (WG r.size)/\t'.led=t.led/\t'.plain=t.plain/\t'.place.size=r.size/\Good t' (m.map λi=>r.toList.getD i 0):=by
 have s:∀mask,(mask=7\/mask=31\/mask=127)->r.size<=mask+1->r.size*5<mask*3->Tc (Uu r.size)-1=mask->∃t' m,t.relaid r (Uu r.size)=some (t',m)/\m.size=r.size/\m.toList.Perm (WG r.size)/\t'.led=t.led/\t'.plain=t.plain/\t'.place.size=r.size/\Good t' (m.map λi=>r.toList.getD i 0):=λmask hm hl M D=>by
  refine dw (λplace m E G w B=>c9 λI J L=>?_) (zon hm t.finger (t.movedTo mask) t.led t.plain r hl);refine⟨{ mask:=mask,place:=place,dummies:=#[],finger:=t.finger,led:=t.led,moves:=t.movedTo mask,plain:=t.plain },m,?_,B,I,rfl,rfl,w,hm,?_,rfl,G,J,?_,λi hi=>?_⟩
  .unfold SetTable.relaid;rw[D];exact E
  .show place.size=_;rw[Ve,w,B]
  .show place.size*5<mask*3;rw[w];exact M
  .have A:i<m.size:=by
    have:i<place.size:=hi;lia
   have e:(m.map λi=>r.toList.getD i 0).toList.getD i 0=r.toList.getD (m.getD i 0) 0:=by
    rw[Xq,XA,Array.getElem?_map,JB A];rfl
   rw[e];exact L i hi
 rcases hn with e | e
 .exact s 31 (.inr (.inl rfl)) (by lia) (by lia) (by rw[e];decide+kernel)
 .exact s 127 (.inr (.inr rfl)) (by lia) (by lia) (by rw[e];decide+kernel)
def qw (m:Array (Int×X7))(ep:Nat)(t:Wq):Obj:={ cls:=.type "set",dict:=none,data:=.set m ep t }
def kP (p:Int×Int):List Key:=[.inl p.1,.inl p.2]
def InB (p:Int×Int):Prop:=(0<=p.1/\p.1<8)/\(0<=p.2/\p.2<8)
def hP (prog:Xl)(w:WY)(p:Int×Int):Int:=(tk2 prog w).hash (kP p)
section
variable {prog:Xl}{w:WY}{A:WK}{E:X7->X0->Prop}{s:X0}{a:Addr}{es:Array (Int×X7)}{ep:Nat}{t:Wq}
def zqF {p q:Int×Int}(O:InB p)(hq:InB q)(e:hP prog w p=hP prog w q):p=q:=by
 obtain⟨m,r⟩:=p;obtain⟨s,A⟩:=q;obtain⟨⟨B,D⟩,E,G⟩:=O;obtain⟨⟨I,J⟩,L,M⟩:=hq;simp only at B D E G I J L M;obtain⟨i,rfl⟩:∃i:Nat,m=i:=⟨m.toNat,by lia⟩;obtain⟨j,rfl⟩:∃i:Nat,r=i:=⟨r.toNat,by lia⟩;obtain⟨k,rfl⟩:∃i:Nat,s=i:=⟨s.toNat,by lia⟩;obtain⟨l,rfl⟩:∃i:Nat,A=i:=⟨A.toNat,by lia⟩;unfold hP kP at e;rw[J7,J7]at e;obtain⟨c,d⟩:=zgp (by lia) (by lia) (by lia) (by lia) e;rw[c,d]
def JD {h:Heap}{x:Addr}{p:Int×Int}(A:zw h (.ref x) p):(tk2 prog w).is h (kP p) x:=by
 obtain⟨b,o,n,t,u,e,m,r,s⟩:=A;cases e;exact⟨o,#[.int p.1 t,.int p.2 u],n,m,r,s,.cons (zba p.1 t) (.cons (zba p.2 u) .nil)⟩
theorem Good.fits {m:Array Int}(G:Good t m):t.fits m.size=true:=by
 have r:=G.sz;have s:=G.room;unfold SetTable.fits OH;rw[G.dum,r];simp;lia
def Good.odd {m:Array Int}(G:Good t m):t.gaveWay=false:=by
 unfold SetTable.gaveWay;rcases G.mask with e | e | e<;>rw[e]<;>rfl
def xM {Q:Array (Int×X7)×Nat×Wq->X0->Prop}(m:s.heap.get? a=some (qw es ep t))(G:Good t (es.map (·.1)))(q:Q (es,ep,t) s):Xg (Xi prog w) A (setState a) Q E s:=by
 refine SU m rfl ?_ q;have:=G.fits;rwa [Ve]at this
def zfh (i:Nat)(hi:i<(es.map (·.1)).size):(es[i]?.map (·.1)).getD 0=(es.map (·.1)).toList.getD i 0:=by
 rw[Xq,XA,Array.getElem?_map]
def zdQ {n:Nat}{h:Int}{x:X7}{Q:SetFound->X0->Prop}(L:s.heap.get? a=some (qw es ep t))(G:Good t (es.map (·.1)))(M:h ∉ (es.map (·.1)).toList)
  (J:∀j,j<t.mask+1->(∀i,i<t.place.size->t.place.getD i 0≠j)->Reach t h j->Q (.free j false) s):Xg (Xi prog w) A (Rv a x h true (n+1) none) Q E s:=by
 obtain⟨j,e,B,D,I⟩:=G.missed (λi=>(es[i]?.map (·.1)).getD 0) zfh M;rw[Rv];refine X9 (xM L G ?_);dsimp only;rw[G.odd,bq XT];generalize hm:t.probe _ h _=m;have r:m=some (.empty j none):=hm.symm.trans e;subst r;exact XO (J j B D I)
def zei {d:Nat}{x:Addr}{p:Int×Int}{Q:Bool->X0->Prop}(hx:zw s.heap (.ref x) p)(q:Q false s):Xg (Xi prog w) A (SS 8 (.ref x)) Q E s:=by
 obtain⟨b,o,n,t,u,e,J,L,M⟩:=hx;cases e;have O:s.TypeIs (.ref x) "tuple":=⟨o,J,L⟩;unfold SS;refine X9 (R9 O ?_);dsimp only;rw[bw (by decide)];refine X9 (XO ?_);rw[bq (by decide)];refine X9 (wpAny_seqItems J M ?_);dsimp only;refine X9 ?_;rw[<- RS];refine TM _ (λB r I=>r.1=none/\I=s/\∀v∈B,∃i t,v=Vt i t) _ ?_ ?_ _ _ ⟨rfl,rfl,λv hv=>?_⟩
 .rintro v B r I ⟨D,rfl,m⟩;obtain⟨i,t,rfl⟩:=m v X5;rw[show SS 7 (Vt i t)=pure false by unfold SS;rfl];refine X9 (XO ?_);rw[bq XT];exact XO ⟨rfl,rfl,λu G=>m u (Y1 _ G)⟩
 .rintro⟨r1,r2⟩ I ⟨D,rfl,_⟩;simp only at D;subst D;exact XO q
 .simp at hv;rcases hv with rfl | rfl
  .exact⟨_,_,rfl⟩
  .exact⟨_,_,rfl⟩
def zl7 {x:Addr}{p:Int×Int}{l:List X7}{Q:Bool->X0->Prop}(hx:zw s.heap (.ref x) p)(hl:∀v∈l,∃b q,v=.ref b/\zw s.heap (.ref b) q)(q:Q false s):Xg (Xi prog w) A (searchCouldBeSeen (.ref x) l) Q E s:=by
 unfold searchCouldBeSeen;refine X9 ?_;refine TM _ (λB r I=>r.1=none/\I=s/\∀v∈B,∃b q,v=.ref b/\zw s.heap (.ref b) q) _ ?_ ?_ _ _ ⟨rfl,rfl,hl⟩
 .rintro v B r I ⟨G,rfl,m⟩;obtain⟨b,L,rfl,J⟩:=m v X5;dsimp only;split
  .exact XO ⟨rfl,rfl,λu D=>m u (Y1 _ D)⟩
  .refine X9 ((tk2 prog w).quiet (JD hx) ?_);rw[bq (by decide)];refine X9 ((tk2 prog w).quiet (JD J) ?_);rw[bq (by decide)];refine X9 (zei (d:=0) hx ?_);rw[bq XT];refine X9 (zei (d:=0) J ?_);rw[bq XT];exact XO ⟨rfl,rfl,λu D=>m u (Y1 _ D)⟩
 .rintro⟨r1,r2⟩ I ⟨G,rfl,_⟩;simp only at G;subst G;exact XO q
def zl8 {x:Addr}{p:Int×Int}{Q:Bool->X0->Prop}(hx:zw s.heap (.ref x) p)(q:Q true s):Xg (Xi prog w) A (Pj 8 (.ref x)) Q E s:=by
 obtain⟨b,o,n,t,u,e,J,L,M⟩:=hx;cases e;have O:s.TypeIs (.ref x) "tuple":=⟨o,J,L⟩;unfold Pj;refine X9 (Sg O PySem.F.slot_tuple_hash.lookup ?_);dsimp only;refine X9 (wpAny_seqItems J M ?_);dsimp only[Option.getD];refine X9 ?_;rw[<- RS];refine TM _ (λB r I=>r.1=none/\I=s/\∀v∈B,∃i t,v=Vt i t) _ ?_ ?_ _ _ ⟨rfl,rfl,λv hv=>?_⟩
 .rintro v B r I ⟨D,rfl,m⟩;obtain⟨i,t,rfl⟩:=m v X5;rw[show Pj 7 (Vt i t)=pure true by unfold Pj;rfl];refine X9 (XO ?_);rw[bq (by decide)];exact XO ⟨rfl,rfl,λu G=>m u (Y1 _ G)⟩
 .rintro⟨r1,r2⟩ I ⟨D,rfl,_⟩;simp only at D;subst D;exact XO q
 .simp at hv;rcases hv with rfl | rfl
  .exact⟨_,_,rfl⟩
  .exact⟨_,_,rfl⟩
def zfi {n:Nat}{h:Int}{x b:Addr}{p:Int×Int}{i:Nat}{Q:SetFound->X0->Prop}(J:A.units<VD)(B:s.heap.get? a=some (qw es ep t))(G:Good t (es.map (·.1)))(O:(es.map (·.1)).toList.Nodup)
  (all:∀e∈es.toList,∃b q,e.2=WD b/\zw s.heap (.ref b) q) (hi:es[i]?=some (h,.ref b)) (hx:zw s.heap (.ref x) p) (I:zw s.heap (.ref b) p)
  (D:Q (.there none) s):Xg (Xi prog w) A (Rv a (.ref x) h true (n+1) none) Q E s:=by
 have r:i<(es.map (·.1)).size:=by
  rw[Ve];exact(Vu.mp hi).1
 have L:(es.map (·.1)).toList.getD i 0=h:=by
  rw[<- zfh i r,hi];rfl
 obtain⟨U,e⟩:=G.found (λi=>(es[i]?.map (·.1)).getD 0) zfh O r;rw[L]at e;rw[Rv];refine X9 (xM B G ?_);dsimp only;rw[G.odd,bq XT];generalize hm:t.probe _ h _=m;have M:m=some (.candidate (t.place.getD i 0) i U):=hm.symm.trans e;subst M;dsimp only;have seen:∀v∈(es.filter (·.1==h)).toList.map (·.2),∃b q,v=WD b/\zw s.heap (.ref b) q:=λv hv=>by
  obtain⟨e,he,rfl⟩:=XN.mp hv;rw[OR]at he;exact all e (X8.mp he).1
 rw[hi];cases hl:t.led with
 | true =>
  rw[bq (by decide)];refine X9 (V7 ((tk2 prog w).eqBool J (JD I) (JD hx) ?_));refine X9 (xM B G ?_);dsimp only;rw[br rfl,bw (by decide)];exact XO D
 | false =>
  rw[bw (by decide)];refine X9 (zl7 hx seen ?_);rw[bq XT];refine X9 (V7 ((tk2 prog w).eqBool J (JD I) (JD hx) ?_));refine X9 (xM B G ?_);dsimp only;rw[br rfl,bw (by decide)];exact XO D
end
def zcO (f:Int×Int->Int)(q:Addr×(Int×Int)):Int×X7:=(f q.2,WD q.1)
structure zdR (f:Int×Int->Int)(led:Bool)(h:Heap)(a:Addr)(ks:List (Addr×(Int×Int))):Prop where
 ex:∃es ep t,h.get? a=some (qw es ep t)/\es.toList=ks.map (zcO f)/\Good t (es.map (·.1))/\t.led=led/\t.plain=true
 nd:(ks.map (·.2)).Nodup
 cells:∀q∈ks,zw h (.ref q.1) q.2
 inb:∀q∈ks,InB q.2
def zw.up {h h':Heap}{x:Addr}{p:Int×Int}(H:zw h (.ref x) p){a:Addr}(A:V5 a h h'){o:Obj}(w:h.get? a=some o)(hc:o.cls=.type "set"):zw h' (.ref x) p:=by
 obtain⟨b,B,n,t,u,e,m,r,s⟩:=H;cases e;refine⟨x,B,n,t,u,rfl,?_,r,s⟩;rw[A.2 x λz=>?_]
 .exact m
 .subst z;rw[w]at m;cases m;rw[hc]at r;exact absurd r (by decide)
section
variable {prog:Xl}{w:WY}{A:WK}{E:X7->X0->Prop}{s:X0}{a:Addr}{es:Array (Int×X7)}{ep:Nat}{t:Wq}{ks:List (Addr×(Int×Int))}{f:Int×Int->Int}{led:Bool}
def Z6 (he:es.toList=ks.map (zcO f)):(es.map (·.1)).toList=ks.map λq=>f q.2:=by
 rw[UU,he,Ws];rfl
def zkK (inj:∀p q,InB p->InB q->f p=f q->p=q)(r:(ks.map (·.2)).Nodup)(m:∀q∈ks,InB q.2):(ks.map λq=>f q.2).Nodup:=by
 rw[Ox,V9]at r ⊢;refine r.imp_of_mem λ{x y} hx hy h e=>h (inj _ _ (m x hx) (m y hy) e)
def zgw {m:Array (Int×X7)}{t':Wq}{Q:Unit->X0->Prop}(r:s.heap.get? a=some (qw es ep t))(hz:m.size<=64)
  (q:∀h',V5 a s.heap h'->h'.get? a=some (qw m (ep+1) t')->Q () { s with heap:=h' }):Xg (Xi prog w) A (storeSet a m t') Q E s:=by
 refine wpAny_storeSet_of (o:=qw es ep t) r rfl (q _ (Wo ..) ?_) (XY hz (by rw[T2];decide));have:=We (Obj.putSet m t') r (by rw[putSet_of m t' (o:=qw es ep t) rfl];rfl);rw[putSet_of m t' (o:=qw es ep t) rfl]at this;exact this
theorem zgx {α:Type}(d:α)(xs:Array α):∀(l:List Nat),(∀i∈l,i<xs.size)->l.filterMap (λi=>xs[i]?)=l.map λi=>xs.toList.getD i d
 | [],_=>rfl
 | i::l,h=>by
  have hi:=h i X5;rw[U4,Xu,Vr hi];dsimp only;rw[zgx d xs l λj m=>h j (Y1 _ m)];congr 1;rw[Xq,XA,Vr hi];rfl
def zfj {n:Nat}(hn:n=5\/n=19):¬ Tc (Uu n)>Xv:=by
 rw[T2];rcases hn with rfl | rfl
 .rw[show Tc (Uu 5)=32 by decide+kernel];lia
 .rw[show Tc (Uu 19)=128 by decide+kernel];lia
def zl9 {Q:Unit->X0->Prop}(ho:s.heap.get? a=some (qw es ep t))(hf:t.fits es.size=true)(hn:es.size=5\/es.size=19)(he:es.toList=ks.map (zcO f))
  (q:∀(h':Heap) (r:Array (Int×X7)) (t':Wq) (J:List (Addr×(Int×Int))),V5 a s.heap h'->h'.get? a=some (qw r (ep+1) t')->r.toList=J.map (zcO f)->J.Perm ks->Good t' (r.map (·.1))->t'.led=t.led->t'.plain=t.plain->Q () { s with heap:=h' }):Xg (Xi prog w) A (setRelay a (Uu es.size)) Q E s:=by
 have I:(es.map (·.1)).size=es.size:=Ve ..;obtain⟨t',m,Y,e2,L,e4,e5,e6,e7⟩:=zh2 t (es.map (·.1)) (by rw[I];exact hn);rw[I]at Y e2 L e6;have B:∀i∈m.toList,i<es.size:=λi hi=>Wv.mp (L.mem_iff.mp hi);have U:ks.length=es.size:=by
  rw[<- XZ,he,ZB]
 have D:Addr×(Int×Int):=(0,(0,0));have M:(m.filterMap (es[·]?)).toList=(m.toList.map λi=>ks.getD i D).map (zcO f):=by
  rw[Array.toList_filterMap,zgx (zcO f D) es m.toList B,Ws];refine Xb λi hi=>?_;have O:=B i hi;show es.toList.getD i _=zcO f (ks.getD i D);rw[he,Xq,XC,Xq,XX (by lia),Ue,TN,TN]
 have G:(m.filterMap (es[·]?)).size=es.size:=by
  rw[<- XZ,M,ZB,ZB,XZ,e2]
 unfold setRelay;refine X9 (SU (o:=qw es ep t) ho rfl hf ?_);dsimp only;rw[bq (zfj hn),Y];refine X9 ?_;show Xg (Xi prog w) A (do
  let r:=m.filterMap (es[·]?)
  if r.size != es.size then Pk "internal:set-table-lost-an-element"
  pure (r,t')) _ _ _
 dsimp only;rw[G,bq (by simp)];refine XO ?_;dsimp only;refine zgw ho (by rw[G];lia) λh' O h2=>q h' _ t' _ O h2 M ?_ ?_ e4 e5
 .have:=L.map λi=>ks.getD i D;rw[<- U,zhR]at this;exact this
 .have eh:(m.filterMap (es[·]?)).map (·.1)=m.map λi=>(es.map (·.1)).toList.getD i 0:=by
   apply Array.toList_inj.mp;rw[Z6 M,UU,Ws];refine Xb λi hi=>?_;have O:=B i hi;show f (ks.getD i D).2=_;rw[Z6 he,Xq,Xq,XC,XX (by lia),Ue,TN,TN]
  rw[eh];exact e7
def zma {n:Nat}{x:Addr}{p:Int×Int}{Q:Bool->X0->Prop}(inj:∀p q,InB p->InB q->f p=f q->p=q)(hu:A.units<VD)(S:zdR f led s.heap a ks)(hx:zw s.heap (.ref x) p)(hb:InB p)(hn:p ∉ ks.map (·.2)->ks.length<63)
  (q:∀(b:Bool) (h':Heap) (m:List (Addr×(Int×Int))),V5 a s.heap h'->zdR f led h' a m->(∀c,c∈m.map (·.2)↔c∈ks.map (·.2)\/c=p)->(∀c∈m,c∈ks\/c=(x,p))->Q b { s with heap:=h' }) :
  Xg (Xi prog w) A (setAddHashedIn a (.ref x) (f p) (n+1)) Q E s:=by
 obtain⟨⟨es,ep,t,ho,he,G,hl,hp⟩,nd,hc,ab⟩:=S;have as:ks.length=es.size:=by
  rw[<- XZ,he,ZB]
 generalize hh:f p=h;rw[setAddHashedIn];refine X9 (xM ho G ?_);dsimp only;rw[show byScan (.ref x) es=false by simp[byScan,Value.scannable],bq XT];by_cases hm:p∈ks.map (·.2)
 .obtain⟨⟨b,p'⟩,hk,e⟩:=XN.mp hm;simp only at e;subst e;obtain⟨i,hi,ei⟩:=TD hk;have eg:es[i]?=some (h,.ref b):=by
   rw[<- XA,he,XC,XX hi,ei,<- hh];rfl
  unfold setSearch;refine X9 (zfi (n:=99999) hu ho G (by rw[Z6 he];exact zkK inj nd ab) (λe al=>?_) eg hx (hc _ hk) ?_)
  .rw[he]at al;obtain⟨c,h1,rfl⟩:=XN.mp al;exact⟨c.1,c.2,rfl,hc c h1⟩
  .refine XO (q false s.heap ks (Heap.SameBut.refl _ _) ⟨⟨es,ep,t,ho,he,G,hl,hp⟩,nd,hc,ab⟩ (λc=>⟨.inl,λz=>z.elim id λz=>z ▸ hm⟩) λc h1=>.inl h1)
 .have aq:=hn hm;have no:h ∉ (es.map (·.1)).toList:=λz=>by
   rw[Z6 he,<- hh]at z;obtain⟨c,h1,h2⟩:=XN.mp z;exact hm (XN.mpr ⟨c,h1,inj _ _ (ab c h1) hb h2⟩)
  unfold setSearch;refine X9 (zdQ (n:=99999) ho G no λj h1 h2 h3=>?_);dsimp only;refine X9 (xM ho G ?_);obtain⟨f1,f2,f3⟩:=zl5 G.up G.dum h2;have r:t.place.size=es.size:=by rw[G.sz,Ve]
  have bs:Xr t.place j<=es.size:=by
   rw[<- r];exact(Zz G.up j).1
  generalize ar:Xr t.place j=pos at f1 f2 f3 bs;have J:(t.put j).1.plain=true:=by rw[f2];exact hp
  have Y:(t.put j).1.led=led:=by rw[f2];exact hl
  have aa:∃U,U=ks.take pos++(x,p)::ks.drop pos:=⟨_,rfl⟩;obtain⟨U,aa⟩:=aa;have ak:(Xh es pos (h,WD x)).toList=U.map (zcO f):=by
   rw[YX,he,aa,XB,Xu,OG,List.map_drop];simp only[zcO,hh]
  have I:(Xh es pos (h,WD x)).size=es.size+1:=jF _ bs _;have pm:U.Perm ((x,p)::ks):=by
   rw[aa];refine List.perm_middle.trans (List.Perm.cons _ ?_);rw[WU]
  have D:(t.put j).1.fits (Xh es pos (h,WD x)).size=true:=by
   have hr:=G.room;have bp:pos<=t.place.size:=by rw[r];exact bs
   rw[I,f2];unfold SetTable.fits OH;simp only[G.dum,jF _ bp,r];rcases G.mask with e | e | e<;>simp[e]<;>rw[r,e]at hr<;>lia
  have aj:∀(h':Heap) (m:List (Addr×(Int×Int))) (B:Array (Int×X7)) (ac:Nat) (t':Wq),V5 a s.heap h'->h'.get? a=some (qw B ac t')->B.toList=m.map (zcO f)->m.Perm ((x,p)::ks)->Good t' (B.map (·.1))->t'.led=led->t'.plain=true->Q true { s with heap:=h' }:=by
   intro h' m B ac t' hs hg ae M hG af ah;have ai:∀c,c∈m↔c=(x,p)\/c∈ks:=λc=>by rw[M.mem_iff,XQ]
   refine q true h' m hs ⟨⟨B,ac,t',hg,ae,hG,af,ah⟩,?_,λc L=>?_,λc L=>?_⟩ (λc=>?_) λc L=>(ai c).mp L |>.symm
   .rw[(M.map (·.2)).nodup_iff,Xu,WS];exact⟨hm,nd⟩
   .rcases(ai c).mp L with rfl | z
    .exact zw.up hx hs ho rfl
    .exact zw.up (hc c z) hs ho rfl
   .rcases(ai c).mp L with rfl | z
    .exact hb
    .exact ab c z
   .rw[(M.map (·.2)).mem_iff,Xu,XQ];exact Or.comm
  have eT:t.put j=((t.put j).1,pos):=by rw[<- f1]
  have fl:(t.put j).1.tooFull=decide ((es.size+1)*5 >= t.mask*3):=by
   have bp:pos<=t.place.size:=by rw[r];exact bs
   rw[f2];unfold SetTable.tooFull OH;simp only[G.dum,jF _ bp,r];rfl
  have gd:¬ (es.size+1)*5 >= t.mask*3->Good (t.put j).1 ((Xh es pos (h,WD x)).map (·.1)):=λhr=>by
   have:=G.put (h:=h) h1 h2 h3 (by rw[r];lia);rw[f1]at this;have e:(Xh es pos (h,WD x)).map (·.1)=Xh (es.map (·.1)) pos h:=by
    apply Array.toList_inj.mp;rw[UU,YX,YX,UU,XB,Xu,OG,List.map_drop]
   rw[e];exact this
  have O:=G.room;have ag:=G.mask;rw[r]at O;dsimp only;rw[eT];dsimp only;generalize t.put j=T at J Y D fl gd;obtain⟨t1,p1⟩:=T;dsimp only at J Y D fl gd ⊢;rw[J,bw rfl];refine X9 (zl8 hx ?_);rw[bw rfl];refine X9 (zgw ho (by rw[I];lia) λh' hs hg=>?_);by_cases full:(es.size+1)*5 >= t.mask*3
  .rw[fl,br full,bw (by decide)];rw[<- I];refine X9 (zl9 (s:={ s with heap:=h' }) hg D (by rw[I];rcases ag with e | e | e<;>rw[e]at full O<;>lia) ak λam B t' m ao an ae M hG af ah=>?_);exact XO (aj am m B _ t' (hs.trans ao) an ae (M.trans pm) hG (af.trans Y) (ah.trans J))
  .rw[fl,bf full,bq (by decide)];exact XO (aj h' U _ _ t1 hs hg ak pm (gd full) Y J)
def zmb {x:Addr}{p:Int×Int}{Q:Bool->X0->Prop}(r:A.units<VD)(S:zdR (hP prog w) led s.heap a ks)(hx:zw s.heap (.ref x) p)(I:InB p)(hn:p ∉ ks.map (·.2)->ks.length<63)
  (q:∀(b:Bool) (h':Heap) (m:List (Addr×(Int×Int))),V5 a s.heap h'->zdR (hP prog w) led h' a m->(∀c,c∈m.map (·.2)↔c∈ks.map (·.2)\/c=p)->(∀c∈m,c∈ks\/c=(x,p))->Q b { s with heap:=h',toks:=s.toks+3 }) :
  Xg (Xi prog w) A (setAdd a (.ref x)) Q E s:=by
 unfold setAdd;refine V7 (X9 ((tk2 prog w).pyHash r (JD hx) ?_));show Xg (Xi prog w) A (setAddHashed a (.ref x) (hP prog w p)) Q E { s with toks:=s.toks+3 };unfold setAddHashed;refine V7 ?_;exact zma (n:=99999) (s:={ s with toks:=s.toks+3 }) (λp q B D G=>zqF B D G) r S hx I hn q
end
theorem zjg {α:Type}(next:Nat->Nat):∀(fuel k:Nat) (left:List α) (m:Array α),left.length=fuel->(pickOrder.go next fuel k left m).toList.Perm (m.toList++left)
 | 0,k,left,m,h=>by
  rw[Wy.mp h,Xx];exact List.Perm.refl _
 | fuel+1,k,left,m,h=>by
  have hl:next k%left.length<left.length:=R0 _ (by lia)
  rw[pickOrder.go,XX hl];dsimp only;refine(zjg next fuel (k+1) _ _ (by rw[List.length_eraseIdx_of_lt hl];lia)).trans ?_;rw[SR,W9];refine SH _ ?_;have e:left=left.take (next k%left.length)++left[next k%left.length]::left.drop (next k%left.length+1):=by
   rw[<- Ww hl,WU]
  rw[List.eraseIdx_eq_take_drop_succ];have r:=@List.perm_middle _ left[next k%left.length] (left.take (next k%left.length)) (left.drop (next k%left.length+1));rw[<- e]at r;exact r.symm
def zkL {α:Type}(next:Nat->Nat)(xs:Array α):(Rm next xs).toList.Perm xs.toList:=by
 have h:=zjg next xs.size 0 xs.toList #[] (by simp)
 rw[show (#[]:Array α).toList++xs.toList=xs.toList from rfl]at h;exact h
def yt:Slot "set_iterator" "__next__" "set_iterator.__next__" :=
 .of (owner:="set_iterator") (n:="__next__") (by rw[Tp,UL];kernel_rfl) (by decide+kernel) (by decide+kernel) (by decide+kernel) (.inl (by decide+kernel)) (by rw[Pd];kernel_rfl)
def zaC:Ob table "set_iterator.__next__"=some UM.«set_iterator.__next__»:=entryFor_of_tree (by kernel_rfl)
def zcP:Manifest.owners.lookup (String.ofList ['r','o','t','a','r','e','t','i','_','t','e','s'].reverse)=some Manifest.sig_set_iterator:=by kernel_rfl
def zbL (a:X7):argsOk "set_iterator.__next__" ⟨[a],[]⟩:=by
 unfold argsOk;rw[signature?_of (id:="set_iterator.__next__") (n:=['_','_','t','x','e','n','_','_']) (o:=['r','o','t','a','r','e','t','i','_','t','e','s']) (by kernel_rfl) zcP];kernel_rfl
def zfk:Ob table "set.__iter__"=some UM.«frozenset.__iter__»:=entryFor_alias (id':="frozenset.__iter__") (by kernel_rfl) rfl (by decide+kernel) (by kernel_rfl)
def zcQ (m i:Nat)(a:Addr)(n ep:Nat):Obj:={ cls:=.type "set_iterator",data:=.fields #[T9 m,T9 i,.ref a,T9 n,T9 ep] }
def slotAt (m:Bool)(t:Wq)(i:Nat):Nat:=if m then 0 else if i=0 then 0 else t.place.getD (i-1) 0+1
def ZE (w:WY)(a:Addr)(ep:Nat)(m:Array (Int×X7)):Array (Int×X7):=if w.params.followText "set-order" then Rm (w.params.setOrder a ep) m else m
def zaD (w:WY)(a:Addr)(ep:Nat)(m:Array (Int×X7)):(ZE w a ep m).toList.Perm m.toList:=by
 unfold ZE;split
 .exact zkL _ _
 .exact List.Perm.refl _
section
variable {prog:Xl}{w:WY}{A:WK}{E:X7->X0->Prop}{s:X0}{a:Addr}{es:Array (Int×X7)}{ep:Nat}{t:Wq}
def zfl {Q:Bool->X0->Prop}(q:Q (w.params.followText "set-order") s):Xg (Xi prog w) A setsByText Q E s:=by
 unfold setsByText;exact X9 (Rf (XO q))
def below_at {t:Wq}(U:Up t.place){i:Nat}(hi:i<=t.place.size):Xr t.place (slotAt false t i)=i:=by
 obtain⟨w,m,s⟩:=Zz U (slotAt false t i);unfold slotAt at *
 simp only[Wu,if_false]at *
 by_cases r:i=0
 .subst r;rw[bw rfl]at *
  rcases Nat.eq_zero_or_pos (Xr t.place 0) with e | e
  .exact e
  .have:=m 0 e;lia
 .rw[bq r]at *
  rcases SV (Xr t.place (t.place.getD (i-1) 0+1)) i with e | e | e
  .have:=s (i-1) (by lia) (by lia);lia
  .exact e
  .have A:=m i e;have B:=U (i-1) i (by lia) (by lia);lia
def zjh {i:Nat}{Q:Option (X7×Nat)->X0->Prop}(D:s.heap.get? a=some (qw es ep t))(G:Good t (es.map (·.1)))(hl:t.led=!w.params.followText "set-order")(L:t.plain=true)(hi:i<=es.size)
  (m:∀v,(ZE w a ep es)[i]?.map (·.2)=some v->Q (some (v,slotAt (w.params.followText "set-order") t (i+1))) s) (I:i=es.size->Q none s) :
  Xg (Xi prog w) A (setNext a (slotAt (w.params.followText "set-order") t i) i ep) Q E s:=by
 have M:t.place.size=es.size:=by rw[G.sz,Ve]
 have B:(ZE w a ep es).size=es.size:=by
  rw[<- XZ,(zaD w a ep es).length_eq,XZ]
 unfold setNext;refine X9 (xM D G ?_);dsimp only;refine X9 (zfl ?_);cases hb:w.params.followText "set-order" with
 | true =>
  rw[bw rfl];rw[hb]at m;rw[bq (by simp)];unfold setWalk;refine X9 (X9 (xM D G ?_));dsimp only;refine X9 (zfl ?_);rw[hb,bw rfl];refine X9 (Rf (XO (XO ?_)));have r:ZE w a ep es=Rm (w.params.setOrder a ep) es:=by
   unfold ZE;rw[hb,bw rfl]
  rw[r]at m B;show Q (Option.map _ (Rm (w.params.setOrder a ep) es)[i]?) s;by_cases h:i<es.size
  .have e:(Rm (w.params.setOrder a ep) es)[i]?=some (Rm (w.params.setOrder a ep) es)[i]:=Vr (by lia);rw[e]at m ⊢;exact m _ rfl
  .rw[WH (by lia)];exact I (by lia)
 | false =>
  rw[bq XT];rw[hb]at m hl;have r:ZE w a ep es=es:=by
   unfold ZE;rw[hb,bq XT]
  rw[r]at m;split
  .rename_i h;exact absurd h (by show ¬ ((!t.plain&&decide (es.size>1))=true);rw[L];exact XT)
  refine X9 ?_;show Xg _ _ (if (!t.led && !es.isEmpty)=true then Pk "set:maker-not-led" else pure ()) _ _ _;rw[hl,bq (by simp)];refine XO ?_;rw[below_at G.up (by lia)];by_cases h:i<es.size
  .have e:es[i]?=some es[i]:=Vr h;have J:t.place[i]?=some (t.place.getD i 0):=JB (by lia);rw[e]at m ⊢;rw[J];refine XO (m _ rfl)
  .rw[WH (by lia)];exact XO (I (by lia))
end
def zej:Slot "set_iterator" "__iter__" "set_iterator.__iter__" :=
 .of (owner:="set_iterator") (n:="__iter__") (by rw[Tp,UL];kernel_rfl) (by decide+kernel) (by decide+kernel) (by decide+kernel) (.inl (by decide+kernel)) (by rw[Pd];kernel_rfl)
def zh3:Ob table "set_iterator.__iter__"=some UM.«dict_keyiterator.__iter__»:=entryFor_alias (id':="dict_keyiterator.__iter__") (by kernel_rfl) rfl (by decide+kernel) (by kernel_rfl)
def zkM (a:X7):argsOk "set_iterator.__iter__" ⟨[a],[]⟩:=by
 unfold argsOk;rw[signature?_of (id:="set_iterator.__iter__") (n:=['_','_','r','e','t','i','_','_']) (o:=['r','o','t','a','r','e','t','i','_','t','e','s']) (by kernel_rfl) zcP];kernel_rfl
section
variable {prog:Xl}{w:WY}{A:WK}{E:X7->X0->Prop}{s:X0}{a I:Addr}{es:Array (Int×X7)}{ep:Nat}{t:Wq}
def zh4 {m i a n ep:Nat}(x y:Nat):Su (·.setIfInBounds 1 (T9 y)) (Su (·.setIfInBounds 0 (T9 x)) (zcQ m i a n ep))=zcQ x y a n ep:=rfl
def zoo {i:Nat}{Q:Option X7->X0->Prop}(m:s.heap.get? I=some (zcQ (slotAt (w.params.followText "set-order") t i) i a es.size ep))(J:s.heap.get? a=some (qw es ep t))(G:Good t (es.map (·.1)))(hl:t.led=!w.params.followText "set-order")(L:t.plain=true)(hi:i<es.size)
  (q:∀v h',(ZE w a ep es)[i]?.map (·.2)=some v->h'.get? I=some (zcQ (slotAt (w.params.followText "set-order") t (i+1)) (i+1) a es.size ep)->V5 I s.heap h'->Q (some v) { s with heap:=h' }) :
  Xg (Xi prog w) A (R3 (.ref I)) Q E s:=by
 have D:s.TypeIs (.ref I) "set_iterator":=⟨_,m,rfl⟩;unfold R3;refine X9 (Rw (QR (name:=Str.ofString "__next__") D yt (UW yt D zaC ?_ (zbL _))));unfold UM.«set_iterator.__next__»;refine X9 (XO ?_);refine X9 (wpAny_fieldsOf m rfl ?_);dsimp only[T9];refine X9 (Sc (o:=qw es ep t) J rfl ?_ ?_)
 .have:=G.fits;rwa [Ve]at this
 rw[bq (by simp)];show Xg _ _ (setNext a (slotAt (w.params.followText "set-order") t i) i ep >>= _) _ _ _;refine X9 (zjh J G hl L (TW hi) (λv hv=>?_) λz=>absurd z (by lia));dsimp only;refine X9 (Pb m rfl (by simp[zcQ]) ?_);have B:=We (Su (·.setIfInBounds 0 (T9 ((slotAt (w.params.followText "set-order") t (i+1):Nat):Int)))) m rfl;refine X9 (Pb B rfl (by simp[zcQ,Su]) ?_);have r:=We (Su (·.setIfInBounds 1 (T9 ((i:Int)+1)))) B rfl;refine XO ⟨_,rfl,XO (q v _ hv ?_ ((Wo ..).trans (Wo ..)))⟩;rw[show ((i:Int)+1)=((i+1:Nat):Int) by lia]at r ⊢;rw[zh4]at r;exact r
def zqG {Q:Option X7->X0->Prop}(J:A.handled=none)(r:s.heap.get? I=some (zcQ (slotAt (w.params.followText "set-order") t es.size) es.size a es.size ep))(D:s.heap.get? a=some (qw es ep t))(G:Good t (es.map (·.1)))(hl:t.led=!w.params.followText "set-order")(M:t.plain=true)
  (q:∀h',Heap.ExtBut I s.heap h'->Q none { s with heap:=h' }):Xg (Xi prog w) A (R3 (.ref I)) Q E s:=by
 have B:s.TypeIs (.ref I) "set_iterator":=⟨_,r,rfl⟩;unfold R3;refine X9 (Rw (QR (name:=Str.ofString "__next__") B yt (UW yt B zaC ?_ (zbL _))));unfold UM.«set_iterator.__next__»;refine X9 (XO ?_);refine X9 (wpAny_fieldsOf r rfl ?_);dsimp only[T9];refine X9 (Sc (o:=qw es ep t) D rfl ?_ ?_)
 .have:=G.fits;rwa [Ve]at this
 rw[bq (by simp)];show Xg _ _ (setNext a (slotAt (w.params.followText "set-order") t es.size) es.size ep >>= _) _ _ _;refine X9 (zjh D G hl M (XR _) (λv hv=>?_) λ_=>?_)
 .have L:(ZE w a ep es).size=es.size:=by
   rw[<- XZ,(zaD w a ep es).length_eq,XZ]
  rw[WH (by lia)]at hv;cases hv
 dsimp only;refine X9 (Pb r rfl (by simp[zcQ]) ?_);refine X9 ?_;simp only[newExc,newTuple];refine X9 (Vz ?_ (by size_fits));refine X9 (m:=RY _ _) (Oi (a:=UC) (by first | rfl | (simp only[RY];rfl)) ?_);refine Vz ?_ (by size_fits);simp only[raiseNew];refine X9 (wpAny_handled ?_);rw[show A.in1.handled=none from J];refine X9 (XO (wpAny_throw ?_));refine X9 (Ri (T:="StopIteration") (b:=true) ⟨_,W1 _ rfl,rfl⟩ isSubtype_stop ?_);exact XO (q _ (((Wo ..).extBut.push _).push _))
def zop {m i n:Nat}{Q:X7->X0->Prop}(B:s.heap.get? I=some (zcQ m i a n ep))(q:Q (.ref I) s):Xg (Xi prog w) A (pyIter (.ref I)) Q E s:=by
 have r:s.TypeIs (.ref I) "set_iterator":=⟨_,B,rfl⟩;refine wpAny_pyIter_slot r zej (UW zej r zh3 ?_ (zkM _));exact XO ⟨_,rfl,"set_iterator",_,r,yt.lookup,q⟩
def walks (hh:A.handled=none)(hne:a≠I)(G:Good t (es.map (·.1)))(hl:t.led=!w.params.followText "set-order")(hp:t.plain=true) :
  Walks prog w A I [I,a] [I] es.size (λi v=>(ZE w a ep es)[i]?.map (·.2)=some v) (λi h=>h.get? I=some (zcQ (slotAt (w.params.followText "set-order") t i) i a es.size ep)/\h.get? a=some (qw es ep t)) where
 sub:=λb hb=>by simp at hb;simp[hb]
 frame:=λ_ _ _ st hk=>⟨hk I (by simp) _ st.1,hk a (by simp) _ st.2⟩
 item:=λi s Q E hi st hQ=>zoo st.1 st.2 G hl hp hi λv h' hv h1 hs=>hQ v h' s.toks hv ⟨h1,(hs.2 a hne).trans st.2⟩ λb o hb e=>(hs.2 b λz=>hb (by simp[z])).trans e
 done:=λs Q E st hQ=>zqG hh st.1 st.2 G hl hp λh' he=>hQ h' s.toks λb o hb e=>he b o (λz=>hb (by simp[z])) e
 self:=λ_ _ _ _ st hQ=>zop st.1 hQ
def zgy:splitId "set.__len__"=some ("set","__len__"):=by decide+kernel
def zgz {Q:List X7->X0->Prop}(hh:A.handled=none)(ho:s.heap.get? a=some (qw es ep t))(G:Good t (es.map (·.1)))(hl:t.led=!w.params.followText "set-order")(hp:t.plain=true)(hn:es.size<=64)
  (q:∀vs h' tk,vs.Perm (es.toList.map (·.2))->(∀b o,s.heap.get? b=some o->h'.get? b=some o)->s.heap.objs.size<=h'.objs.size->Q vs { s with heap:=h',toks:=tk }):Xg (Xi prog w) A (collect (.ref a)) Q E s:=by
 have J:a<s.heap.objs.size:=Xz ho;unfold collect;refine X9 (wpAny_runValue (VG PySem.F.entry_proto_collect ?_));rw[V6 PySem.F.plain_proto_collect _];show Xg _ A.in1 (newList [] >>= λl=>Oj (.builtin "list.__iadd__" ⟨[l,.ref a],[]⟩)) _ _ s;refine X9 (Vz ?_);refine XO ⟨UB QQ _,VG PySem.F.entry_list_iadd ?_⟩;rw[V6 QQ _];show Xg _ A.in1 (R6 (.ref s.heap.objs.size) (.ref a) (.ref s.heap.objs.size)) _ _ _;generalize hL:(s.heap.push { cls:=.type "list",data:=.seq ([]:List X7).toArray })=m;have D:m.get? a=some (qw es ep t):=by rw[<- hL];exact XS _ ho
 have ag:m.get? s.heap.objs.size=some { cls:=.type "list",data:=.seq #[] }:=by rw[<- hL];exact W1 _ rfl
 have al:∀b o,s.heap.get? b=some o->m.get? b=some o:=λb o e=>by rw[<- hL];exact XS _ e
 have z1:m.objs.size=s.heap.objs.size+1:=by rw[<- hL];exact UR ..
 have hT:Sv { s with heap:=m } (.ref a) "set":=⟨_,D,rfl⟩;have af:Rp (.ref s.heap.objs.size) (.ref a)=false:=by
  simp[Rp];exact TV J
 unfold R6;refine X9 (R9 hT ?_);rw[bq (by rw[af];decide)];have hf:t.fits es.size=true:=by
  have:=G.fits;rwa [Ve]at this
 refine X9 (wpAny_pyIter_slot hT Pw (UW Pw hT zfk ?_ (PySem.F.args_set_iter_1 _)));unfold UM.«frozenset.__iter__» Builtin.Frozenset.slot0 slotArgs;simp only[List.isEmpty_nil,Bool.not_true,Wu,↓reduceIte,bind_assoc,U7,bne_self_eq_false];unfold Builtin.Frozenset.addrOf Builtin.Frozenset.sizeOf;refine X9 (XO ?_);dsimp only;refine X9 (XO ?_);refine X9 (X9 (Sc (s:={ s with heap:=m }) (o:=qw es ep t) D rfl hf (XO ?_)));unfold setDrawn;refine X9 (X9 (SU (s:={ s with heap:=m }) (o:=qw es ep t) D rfl hf ?_));dsimp only;refine X9 (zfl (XO ?_));split
 .rename_i h;exact absurd h (by show ¬ ((!w.params.followText "set-order" && (!t.plain&&decide (es.size>1)))=true);rw[hp];simp)
 refine X9 (XO ?_);unfold setEpoch;refine X9 (X9 (SU (s:={ s with heap:=m }) (o:=qw es ep t) D rfl hf (XO ?_)));unfold newFields;refine X9 (Vz ?_);generalize hI:m.push { cls:=.type "set_iterator",data:=.fields (List.toArray [T9 0,T9 0,WD a,T9 ((es.size:Nat):Int),T9 ((ep:Nat):Int)]) }=I;have ae:I.get? a=some (qw es ep t):=by rw[<- hI];exact XS _ D
 have aa:I.get? s.heap.objs.size=some { cls:=.type "list",data:=.seq #[] }:=by rw[<- hI];exact XS _ ag
 have am:∀b o,s.heap.get? b=some o->I.get? b=some o:=λb o e=>by rw[<- hI];exact XS _ (al b o e)
 have U:I.get? m.objs.size=some (zcQ 0 0 a es.size ep):=by rw[<- hI];exact W1 _ rfl
 have ai:Sv { s with heap:=I } (.ref m.objs.size) "set_iterator":=⟨_,U,rfl⟩;have M:Sv { s with heap:=I } (.ref a) "set":=⟨_,ae,rfl⟩;refine XO (cW rfl "set_iterator" ai yt.lookup ?_);refine X9 (V7 ?_);unfold Builtin.List.listLengthHint;refine X9 (Sg M PySem.F.slot_set_len.lookup ?_);dsimp only;rw[zgy];dsimp only;refine X9 (Ri (b:=true) M sub_set_self ?_);rw[bq (by decide)];show Xg _ _ (typeOf (WD a) >>= _) _ _ _;refine X9 (R9 M ?_);show Xg _ _ (pure false) _ _ _;refine XO ?_;show Xg _ A.in1 (rule "list.extend.makes-room" >>= λ_=>Builtin.List.listTouch (.ref s.heap.objs.size) >>= λ_=>Oj (.builtin "list.extend.loop" ⟨[.ref s.heap.objs.size,.ref m.objs.size,.ref s.heap.objs.size],[]⟩)) _ _ _;refine X9 (US (X9 ?_));show Xg _ A.in1 (updateSeq s.heap.objs.size (·.push .none) >>= λ_=>updateSeq s.heap.objs.size (·.pop)) _ _ _;refine X9 (PD aa rfl ?_);have ab:=We (Vm (·.push UC)) aa rfl;refine PD ab rfl ?_;have ac:=We (Vm (·.pop)) ab rfl;have L:∀b o,b≠s.heap.objs.size->I.get? b=some o->((I.update s.heap.objs.size (Vm (·.push UC))).update s.heap.objs.size (Vm (·.pop))).get? b=some o :=
  λb o O e=>(Uh _ _ (Vc O)).trans ((Uh _ _ (Vc O)).trans e)
 generalize (I.update s.heap.objs.size (Vm (·.push UC))).update s.heap.objs.size (Vm (·.pop))=h4 at ac L;have ak:a≠m.objs.size:=by
  rw[z1];exact Xf (Wf J)
 have ah:s.heap.objs.size ∉ [m.objs.size,a]:=by
  rw[z1];simp only[XQ,Rj,or_false,not_or];exact⟨Xf (Sz _),TV J⟩
 have ao:slotAt (w.params.followText "set-order") t 0=0:=by
  unfold slotAt;split<;>rfl
 have aq:(ZE w a ep es).size=es.size:=by
  rw[<- XZ,(zaD w a ep es).length_eq,XZ]
 refine XO ⟨UB PySem.F.plain_extend_loop _,codeAny_extend_loopS ((walks (A:=A.in1) (prog:=prog) (ep:=ep) hh ak G hl hp).toS) (XY hn (by rw[T2];decide)) _ ah _ es.size 0 _ _ _ rfl (W3 _)
  ⟨by rw[ao];exact L _ _ (by rw[z1];exact UX _) U,L _ _ (Xf J) ae⟩ ac (ItemsOf.nil _) λs' r c' hm Y B=>?_⟩
 show Xg _ A (load s.heap.objs.size >>= _) _ _ s';refine X9 (wpAny_load Y ?_);obtain⟨h',g',d',ar,an⟩:=s';have eg:g'=s.gens:=hm.gens;have ed:d'=s.drawn:=hm.drawn;have eo:an=s.os:=hm.os;subst eg;subst ed;subst eo;refine XO (q _ _ _ ?_ (λb o e=>?_) (TW (Xz Y)))
 .have e:r.toList=(ZE w a ep es).toList.map (·.2):=by
   refine SQ λi=>?_;rw[XA,XC,XA];by_cases hi:i<es.size
   .have aj:i<r.size:=by rw[B.1];exact hi
    have e1:r[i]?=some r[i]:=Vr aj;rw[e1];exact(B.2 i _ e1).symm
   .rw[WH (by rw[B.1];lia),WH (by lia)];rfl
  rw[e];exact(zaD w a ep es).map _
 .have O:b<s.heap.objs.size:=Xz e;refine hm.heap b o (λz=>?_) (L b o (Xf O) (am b o e));rcases XQ.mp z with z | z
  .exact VL _ (z ▸ O)
  .have z':b=m.objs.size:=by simpa using z
   rw[z',z1]at O;exact absurd O (Nat.not_lt.mpr (VO _))
end
end ST
open PySem PySem.Spec PyProof.Rows PySem.W
namespace ST
def zgA (prog:Xl)(w:WY)(d:Addr)(ks:List (Addr×(Int×Int))):HO:=.ext λh=>∃m r t,h.get? d=some (qw m r t)/\m.toList=ks.map (zcO (hP prog w))/\Good t (m.map (·.1))/\t.led=(!w.params.followText "set-order")/\t.plain=true
section
variable {prog:Xl}{w:WY}{A:WK}{R:On->X0->Prop}{I:Addr}{fp wr:List Addr}{G:Array Sq->Array Sq->Prop}{n:Nat}{P:Nat->X7->Prop}{St:Nat->X0->Prop}{led:Bool}
def zmc {h0:Heap}(W:WalksS prog w A.in1 I fp wr G n P St)(D:Addr)(ac:D ∉ fp)(ar:h0.get? D=none)(a1:∀b∈wr,h0.get? b=none)(ps:List (Int×Int))(ai:ps.length=n)(hu:A.units+1<VD)
  (T:Addr->Int×Int->Prop) (hT:∀x p,T x p->zw h0 (.ref x) p) (au:∀i v,P i v->∃x p,v=.ref x/\ps[i]?=some p/\T x p) (M:∀p∈ps,InB p) (aq:∀l:List (Int×Int),l.Nodup->(∀c∈l,c∈ps)->l.length<=63) :
  ∀(k i:Nat) (s:X0) (ks:List (Addr×(Int×Int))),n-i=k->i<=n->St i s->(∀b o,h0.get? b=some o->s.heap.get? b=some o)->zdR (hP prog w) led s.heap D ks->(∀c,c∈ks.map (·.2)↔c∈ps.take i)->(∀q∈ks,T q.1 q.2) ->
   (∀s' L,Moved (D::wr) G s s'->zdR (hP prog w) led s'.heap D L->(∀c,c∈L.map (·.2)↔c∈ps)->(∀q∈L,T q.1 q.2)->R (.ok (.ret .none)) s') ->
   S6 (Xi prog w) A (.builtin "set.update.loop" ⟨[.ref D,.ref I],[]⟩) R s:=by
 have as:D ∉ wr:=λh=>ac (W.sub _ h);have more:∀b∈wr,b∈D::wr:=λb M=>Y1 _ M;have B:∀{h:Heap} {x:Addr} {p:Int×Int},(∀b o,h0.get? b=some o->h.get? b=some o)->T x p->zw h (.ref x) p:=λU hx=>by
  obtain⟨b,o,m,t,u,e,e1,e2,e3⟩:=hT _ _ hx;exact⟨b,o,m,t,u,e,U _ _ e1,e2,e3⟩
 have r:∀{s s':X0},Moved wr G s s'->(∀b o,h0.get? b=some o->s.heap.get? b=some o)->∀b o,h0.get? b=some o->s'.heap.get? b=some o:=λhm U b o e =>
  hm.heap b o (λM=>by
   rw[a1 b M]at e;cases e) (U b o e)
 have E:∀{s s':X0} {ks:List (Addr×(Int×Int))},Moved wr G s s'->(∀b o,h0.get? b=some o->s'.heap.get? b=some o)->(∀q∈ks,T q.1 q.2)->zdR (hP prog w) led s.heap D ks->zdR (hP prog w) led s'.heap D ks :=
  λhm U hk ⟨⟨es,ep,t,e1,e2⟩,e3,_,e5⟩=>⟨⟨es,ep,t,hm.heap D _ as e1,e2⟩,e3,λq hq=>B U (hk q hq),e5⟩
 intro k;induction k with
 | zero =>
  intro i s ks hk hi aa U hS O J hR;have ax:i=n:=by lia
  subst ax;refine VG Tw ?_;rw[V6 U2 _];show Xg _ A.in1 (R3 (.ref I) >>= _) _ _ s;refine X9 (W.done s _ _ aa λs' hm=>?_);refine XO (hR s' ks (hm.mono more) (E hm (r hm U) J hS) (λc=>?_) J);rw[O c,<- ai,XE]
 | succ k ih =>
  intro i s ks hk hi aa U hS O J hR;have aj:i<n:=by lia
  refine VG Tw ?_;rw[V6 U2 _];show Xg _ A.in1 (R3 (.ref I) >>= _) _ _ s;refine X9 (W.item i s _ _ aj aa λv s' av an hm=>?_);obtain⟨x,p,rfl,hq,hx⟩:=au i v av;have ab:=r hm U;have ae:=E hm ab J hS;have am:p∈ps:=X4 hq;have tk:ps.take (i+1)=ps.take i++[p]:=by
   rw[Xe,hq];rfl
  refine X9 (V7 (zmb (show A.in1.units<VD from hu) ae (B ab hx) (M p am) (λay=>?_) λb h' L Y aw al a4=>?_))
  .have:=aq (p::ks.map (·.2)) (WS.mpr ⟨ay,ae.nd⟩) λc hc=>by
    rcases XQ.mp hc with rfl | hc
    .exact am
    .exact V8 ((O c).mp hc)
   rw[Xn,ZB]at this;lia
  have a2:∀b o,h0.get? b=some o->h'.get? b=some o:=λb o e=>by
   rw[Y.2 b (λz=>by
    rw[z,ar]at e;cases e)]
   exact ab b o e
  refine XO ⟨UB U2 _,?_⟩;refine ih (i+1) _ L (by lia) aj (W.frame _ s' _ _ an (Vl _ _) λb M o e=>?_) a2 aw (λc=>?_) (λq az=>?_) λa3 ao ak af ah ag=>?_
  .rw[Y.2 b (λz=>ac (by rw[<- z];exact M))];exact e
  .rw[al c,O c,tk,XU,Wz]
  .rcases a4 q az with z | z
   .exact J q z
   .rw[z];exact hx
  .refine hR a3 ao (Moved.trans W.gtrans ((hm.mono more).then_heap (Vl _ _) λb o M e=>?_) ak) af ah ag;rw[Y.2 b (λz=>M (by rw[z];exact X5))];exact e
end
section
variable {prog:Xl}{w:WY}{A:WK}{E:X7->X0->Prop}{s:X0}
def zoq (a:X7){Q₁:X7->X0->Prop}(h:Q₁ (.ref s.heap.objs.size) { s with heap:=s.heap.push (qw #[] 0 (.fresh 0 0 (!w.params.followText "set-order"))) }) :
  S6 (Xi prog w) A (.call (.builtin "set.__new__") ⟨[.type "set",a],[]⟩) (wants Q₁ E) s:=by
 refine codeAny_of_tree ?_;show Xg _ A.in1 (do checkBuiltinCall "set.__new__" ⟨[.type "set",a],[]⟩;Oj (.builtin "set.__new__" ⟨[.type "set",a],[]⟩)) _ _ s;refine X9 (Oi (PySem.F.newCall_set_1 a) (XO ⟨UB Pu _,VG PySem.F.entry_set_new ?_⟩));rw[V6 Pu _];unfold UM.«set.__new__» Builtin.Frozenset.newClass;have m:=sub_set_self;obtain⟨r,g,d,B,os⟩:=s;dsimp only;wp_walk;refine Rf (XO ?_);dsimp only;simp only[newObj];refine X9 (wpAny_alloc (XO ?_));exact XO h
def zh5 (led:Bool):Good (.fresh 0 0 led) #[]:=⟨.inl rfl,rfl,rfl,λi j _ h=>absurd h (by simp[SetTable.fresh]),λi h=>absurd h (by simp[SetTable.fresh]),by simp[SetTable.fresh],λi h=>absurd h (by simp[SetTable.fresh])⟩
set_option maxHeartbeats 8000000 in
theorem zmd {l:Addr}{B:Array X7}{ps:List (Int×Int)}{T:Addr->Int×Int->Prop}{Q:X7->X0->Prop}(hh:A.handled=none)(hu:A.units+64<VD)(hl:s.heap.IsList l B)(ah:ps.length=B.size)
  (hT:∀x p,T x p->zw s.heap (.ref x) p) (an:∀(i:Nat) (v:X7),B[i]?=some v->∃x p,v=WD x/\ps[i]?=some p/\T x p) (hb:∀p∈ps,InB p) (am:∀l:List (Int×Int),l.Nodup->(∀c∈l,c∈ps)->l.length<=63)
  (h:∀(h':Heap) (tk:Nat) (ks:List (Addr×(Int×Int))),(∀b o,s.heap.get? b=some o->h'.get? b=some o)->zdR (hP prog w) (!w.params.followText "set-order") h' s.heap.objs.size ks->(∀c,c∈ks.map (·.2)↔c∈ps)->(∀q∈ks,T q.1 q.2)->Q (.ref s.heap.objs.size) { s with heap:=h',toks:=tk }) :
  Xg (Xi prog w) A (call (.type "set") [.ref l]) Q E s:=by
 obtain⟨c,tl,ay⟩:=PySem.F.called_set.mro;have as:=PySem.F.called_set.made;have a2:=PySem.F.called_set.sub;refine wpAny_call (codeAny_of_tree ?_);show Xg _ _ (callAny (.type "set") _) _ _ _;refine XO ⟨Code.quiet_builtin _ (by decide+kernel),VG PySem.F.entry_type_call ?_⟩;rw[Around.under_plain (weight_type_call_type "set" [.ref l] []) rfl];have h1:=PySem.F.called_set.notType;have h2:=PySem.F.called_set.canCreate;have a5:=PySem.F.typeCall_set_1 (.ref l);repeat (any_goals (first | assumption | wp_step))
 refine S4 (zoq (.ref l) (E:=E) (Q₁:=λak J=>ak=.ref s.heap.objs.size/\J={ s with heap:=s.heap.push (qw #[] 0 (.fresh 0 0 (!w.params.followText "set-order"))) }) ⟨rfl,rfl⟩) λr J hr=>?_;cases r with
 | error e=>exact hr
 | ok fl =>
  cases fl with
  | ret ak =>
   obtain⟨rfl,rfl⟩:=hr;generalize ax:(!w.params.followText "set-order")=led at h ⊢;have hS:(s.heap.push (qw #[] 0 (.fresh 0 0 led))).get? s.heap.objs.size=some (qw #[] 0 (.fresh 0 0 led)):=W1 _ rfl;have ac:Sv { s with heap:=s.heap.push (qw #[] 0 (.fresh 0 0 led)) } (.ref s.heap.objs.size) "set":=⟨_,hS,rfl⟩;have a6:=PySem.F.called_set.init.lookup;have a4:=PySem.F.called_set.init.bind (.ref s.heap.objs.size);repeat (any_goals (first | assumption | wp_step))
   refine S4 (O5 (R:=wants (λr L=>r=.none/\∃h' tk ks,L={ s with heap:=h',toks:=tk }/\zdR (hP prog w) led h' s.heap.objs.size ks/\(∀c,c∈ks.map (·.2)↔c∈ps)/\(∀q∈ks,T q.1 q.2) /\
     (∀b o,s.heap.get? b=some o->h'.get? b=some o)) E) PySem.F.called_set.init.plain PySem.F.entry_set_init (check_set_init_1 ac ?_)) λal L m=>?_
   .obtain⟨ol,aj,ae,nl,af⟩:=hl;obtain⟨a3,ab,au,D⟩:=ol;simp only at ae af;subst ae;subst af;have I:(s.heap.push (qw #[] 0 (.fresh 0 0 led))).get? l=some { cls:=.type "list",dict:=ab,data:=.seq B nl,slots:=D }:=XS _ aj;have a1:=PySem.F.sub_list_set;have az:=PySem.F.sub_list_frozenset;have a7:(P9 "list" == P9 "dict")=false:=by decide
    have Y:(s.heap.push (qw #[] 0 (.fresh 0 0 led))).IsList l B:=⟨_,I,rfl,nl,rfl⟩;unfold UM.«set.__init__» noKeywords Builtin.Frozenset.updateFrom;generalize hG:s.heap.push (qw #[] 0 (.fresh 0 0 led))=G at hS ac I Y ⊢;unfold qw at hS;generalize ao:pyIter=PI;wp_walk;subst ao;subst hG;refine SY Y ?_;refine X9 (wpAny_runValue ?_);have ag:l<s.heap.objs.size:=Xz aj;have zS:(s.heap.push (qw #[] 0 (.fresh 0 0 led))).objs.size=s.heap.objs.size+1:=UR ..;have ai:l≠(s.heap.push (qw #[] 0 (.fresh 0 0 led))).objs.size:=by
     rw[zS];exact Xf (Wf ag)
    have aq:s.heap.objs.size ∉ [(s.heap.push (qw #[] 0 (.fresh 0 0 led))).objs.size,l]:=by
     rw[zS];simp only[XQ,Rj,or_false,not_or];exact⟨Xf (Sz _),TV ag⟩
    refine zmc (h0:=s.heap) (led:=led) ((Walks.list (by simp[hh]) (s.heap.push (qw #[] 0 (.fresh 0 0 led))).objs.size l ai B).toS) s.heap.objs.size aq (UE (XR _)) (λb hb=>?_) ps ah (by show A.units+1+1+1<VD;lia) T hT an hb am (B.size-0) 0 _ [] rfl (W3 _)
     ⟨⟨_,W1 _ rfl,rfl,rfl⟩,(Y.push _)⟩ (λb o z=>XS _ (XS _ z)) ⟨⟨#[],0,.fresh 0 0 led,XS _ hS,rfl,(by rw[Array.map_empty];exact zh5 led),rfl,rfl⟩,Vf,(λq z=>nomatch z),(λq z=>nomatch z)⟩ (λc=>by simp) (λq z=>nomatch z) ?_
    .have e:b=(s.heap.push (qw #[] 0 (.fresh 0 0 led))).objs.size:=by simpa using hb
     rw[e,zS];exact UE (VO _)
    .intro s' ks hm O aa U;obtain⟨h',g',d',aw,av⟩:=s';have eg:g'=s.gens:=hm.gens;have ed:d'=s.drawn:=hm.drawn;have eo:av=s.os:=hm.os;subst eg;subst ed;subst eo;show Xg _ _ _ _ _ _;refine XO ?_;show Xg _ _ (ret UC) _ _ _;refine XO ⟨rfl,h',aw,ks,rfl,O,aa,U,λb o e=>?_⟩;have lt:=Xz e;refine hm.heap b o (λz=>?_) (XS _ (XS _ e));rcases XQ.mp z with z | z
     .exact VL _ (z ▸ lt)
     .have z':b=(s.heap.push (qw #[] 0 (.fresh 0 0 led))).objs.size:=by simpa using z
      rw[z',zS]at lt;exact absurd lt (Nat.not_lt.mpr (VO _))
   .cases al with
    | error e=>exact m
    | ok M =>
     cases M with
     | ret r =>
      revert m;refine c8 λz0=>dB λh' tk ks z1 O aa U ar=>?_;subst z0 z1;repeat (any_goals (first | assumption | wp_step))
      exact h _ _ _ ar O aa U
     | _=>exact m.elim
  | _=>exact hr.elim
end
def zcR {α I:Type}(f:α->I){l G:List I}(h:l.Perm G):∀ks:List α,G=ks.map f->∃m:List α,m.Perm ks/\l=m.map f:=by
 induction h with
 | nil=>exact λks e=>⟨ks,List.Perm.refl _,e⟩
 | cons x h L =>
  intro ks e;cases ks with
  | nil=>simp at e
  | cons k ks =>
   rw[Xu]at e;injection e with s r
   obtain⟨m,B,D⟩:=L ks r;exact⟨k::m,B.cons k,by rw[Xu,s,D]⟩
 | swap x y l =>
  intro ks e;match ks,e with
  | [],e=>simp at e
  | [k],e=>simp at e
  | k1::E::ks,e =>
   rw[Xu,Xu]at e;injection e with s r
   injection r with r J
   exact⟨E::k1::ks,List.Perm.swap k1 E ks,by rw[Xu,Xu,s,r,J]⟩
 | trans B D w A =>
  intro ks e;obtain⟨m,a,b⟩:=A ks e;obtain⟨is,c,d⟩:=w m b;exact⟨is,c.trans a,d⟩
section
variable {X:Cx}
def zkN (hu:X.A.units+64<VD)(hh:X.A.handled=none):qZ X (.type "set") (λxs H Q=>∃l D ps,xs=[.ref l]/\SqL X.K H l D/\yT H D ps/\(∀p∈ps,InB p)/\(∀l:List (Int×Int),l.Nodup->(∀c∈l,c∈ps)->l.length<=63) /\
  ∀d ks,H d=none->(∀q∈ks,H q.1=some (.tup [.int q.2.1,.int q.2.2]))->(ks.map (·.2)).Nodup->(∀c,c∈ks.map (·.2)↔c∈ps)->Q (.ref d) (upd H d (zgA X.prog X.w d ks))):=by
 intro bz s σ H xs aa Q I r h;revert h;refine dO λl D ps=>dh λz0 hq ht hb M q=>?_;subst z0;obtain⟨u,rfl,ru⟩:=vals1 r;cases ru;obtain⟨m,rv,pl,hz⟩:=I.list hq;have hp:=yT.pairs I ht rv;have O:m.length=ps.length:=Paired.length hp;have tw:∀{D:AE} {ps:List (Int×Int)} {m:List X7},yT H D ps->Vals D m->∀(i:Nat) (v:X7),m[i]?=some v->∃x p,v=WD x/\ps[i]?=some p/\H x=some (.tup [.int p.1,.int p.2]):=by
  intro D ps m E;induction E generalizing m with
  | nil =>
   intro r i v e;cases r;simp at e
  | cons a t ih =>
   intro r i v e;obtain⟨x,rfl,hx⟩:=a;cases r with
   | cons r1 r2 =>
    cases r1;cases i with
    | zero =>
     simp at e;exact⟨x,_,e.symm,rfl,hx⟩
    | succ i =>
     obtain⟨y,p,E,h2,h3⟩:=ih r2 i v (by simpa using e);exact⟨y,p,E,by simpa using h2,h3⟩
 refine zmd (T:=λx p=>H x=some (.tup [.int p.1,.int p.2])) hh hu pl.isList (by simp[O]) (λx p hx=>?_) (λi v e=>tw ht rv i v (by simpa using e)) hb M λh' tk ks kk hS hm hT=>?_
 .obtain⟨U,Y,tp,_⟩:=I.tuple (SqT.of hx);obtain⟨u1,u2,rfl,⟨t1,rfl⟩,⟨t2,rfl⟩⟩:=vals2 Y;obtain⟨ob,e1,c1,n,d1⟩:=tp;exact⟨x,ob,n,t1,t2,rfl,e1,c1,d1⟩
 .have hD:H s.heap.objs.size=none:=I.hok.fresh (XR _);obtain⟨L,J,t,G,B⟩:=hS.ex;refine⟨.ref s.heap.objs.size,upd H s.heap.objs.size (zgA X.prog X.w s.heap.objs.size ks),I.laid (t':=tk) kk (XR _) ⟨⟨L,J,t,G,B⟩,⟨_,G⟩,λE h2 ⟨L,J,t,G,B⟩ k=>⟨L,J,t,k _ G,B⟩⟩,rfl,q _ _ hD hT hS.nd hm⟩
end
end ST
namespace GS
section
variable {prog:Xl}{w:WY}{A:WK}{E:X7->X0->Prop}{s:X0}{rk:Xc->Int}{κ:T3}{a0:Array Xc}
def Rk (rk:Xc->Int)(xs:Array Xc)(i:Nat):Int:=match xs[i]? with
 | some p=>rk p
 | none=>0
def JE {xs ys:Array Xc}{i j:Nat}(h:xs[i]?=ys[j]?):Rk rk xs i=Rk rk ys j:=by
 unfold Rk;rw[h]
def Up (rk:Xc->Int)(xs:Array Xc)(lo hi:Nat):Prop:=∀i j,lo<=i->i<=j->j<hi->Rk rk xs i<=Rk rk xs j
def Tells (prog:Xl)(w:WY)(A:WK)(s:X0)(κ:T3)(rk:Xc->Int)(a0:Array Xc):Prop :=
 ∀x∈a0.toList,∀y∈a0.toList,∀C:Bool->X0->Prop,C (decide (rk x<rk y)) s->Xg (Xi prog w) A (keyLt' κ x.1 y.1) C (λ_ _=>False) s
structure Ok (κ:T3)(a0:Array Xc)(st:WP):Prop where
 perm:(Xo st).Perm a0
 kind:kindOf st=κ
 good:S5 st=none
theorem Ok.size {st:WP}(h:Ok κ a0 st):(Xo st).size=a0.size:=h.perm.size_eq
def Ok.at {st:WP}(h:Ok κ a0 st){i:Nat}(hi:i<a0.size):∃x,(Xo st)[i]?=some x/\x∈a0.toList/\Rk rk (Xo st) i=rk x:=by
 have m:i<(Xo st).size:=by rw[h.size];exact hi
 have e:(Xo st)[i]?=some (Xo st)[i]:=getElem?_pos _ i m;refine⟨(Xo st)[i],e,(UN.mp h.perm).mem_iff.mp (by simp),?_⟩;unfold Rk;rw[e]
def zme {st:WP}{x y:Xc}{Q:Option Bool->WP->Prop}(T:Tells prog w A s κ rk a0)(hk:kindOf st=κ)(hx:x∈a0.toList)(hy:y∈a0.toList)(h:Q (some (decide (rk x<rk y))) st):wpS (Xi prog w) A E s (lt' x y) Q st:=by
 rw[lt'_eq];refine XH (Sx ?_);rw[hk];refine XH (Ro (Rw (Vo (T x hx y hy (λb r=>r=s/\b=decide (rk x<rk y)) ⟨rfl,rfl⟩) (λb r m=>⟨m.1,?_⟩) λ_ _ B=>B.elim)));rw[m.2];exact Xp h
def qQ {st:WP}{xs:Array Xc}{i:Nat}{x:Xc}{Q:Xc->WP->Prop}(e:xs[i]?=some x)(h:Q x st):wpS (Xi prog w) A E s (elem' xs i) Q st:=by
 rw[elem'_eq,e];exact Xp h
def zcS {st:WP}{i j:Nat}{Q:Option Bool->WP->Prop}(T:Tells prog w A s κ rk a0)(O:Ok κ a0 st)(hi:i<a0.size)(B:j<a0.size)(h:Q (some (decide (Rk rk (Xo st) i<Rk rk (Xo st) j))) st):wpS (Xi prog w) A E s (ltAt' i j) Q st:=by
 obtain⟨x,m,D,I⟩:=O.at (rk:=rk) hi;obtain⟨y,r,G,J⟩:=O.at (rk:=rk) B;rw[I,J]at h;rw[ltAt'_eq];refine XH (Sx ?_);exact XH (qQ m (XH (qQ r (zme T O.kind D G h))))
structure Step (κ:T3)(a0:Array Xc)(lo:Nat)(st st':WP):Prop where
 ok:Ok κ a0 st'
 pend:WO st'=WO st
 low:∀i:Nat,i<lo->(Xo st')[i]?=(Xo st)[i]?
def Step.refl {lo:Nat}{st:WP}(O:Ok κ a0 st):Step κ a0 lo st st:=⟨O,rfl,λ_ _=>rfl⟩
def zbf {xs:Array Xc}{i j:Nat}(r:j<=xs.size)(k:Nat):Rk rk (mirror xs i j ((j-i)/2)) k=if i<=k/\k<j then Rk rk xs (i+j-1-k) else Rk rk xs k:=by
 have e:=OO (i:=i) r k;by_cases m:i<=k/\k<j
 .rw[bw m]at e ⊢;exact JE e
 .rw[bq m]at e ⊢;exact JE e
def jO {xs:Array Xc}{i j:Nat}(r:j<=xs.size)(m:∀k,i<=k->k<j->Rk rk xs k=Rk rk xs (j-1))(k:Nat):Rk rk (mirror xs i j ((j-i)/2)) k=Rk rk xs k:=by
 rw[zbf r];split
 .rw[m _ (by lia) (by lia),m k (by lia) (by lia)]
 .rfl
theorem Step.mirror {lo i j:Nat}{st m:WP}(x:Step κ a0 lo st m)(hi:lo<=i)(r:j<=a0.size):Step κ a0 lo st (setArr m (mirror (Xo m) i j ((j-i)/2))):=by
 refine⟨⟨(mirror_perm _ _ _ _).trans x.ok.perm,x.ok.kind,x.ok.good⟩,x.pend,λk hk=>?_⟩;show (PyProof.Rows.mirror (Xo m) i j ((j-i)/2))[k]?=_;rw[OO (by rw[x.ok.size];exact r),bq (by lia)];exact x.low k hk
def zji {st:WP}{i j:Nat}{Q:Unit->WP->Prop}(h:Q () (setArr st (mirror (Xo st) i j ((j-i)/2)))):wpS (Xi prog w) A E s (Ss i j) Q st:=by
 rw[reverseSlice'_eq];exact Ti h
def up1 (lo a m:Nat):StateT WP Sem AscSt :=
 forIn [a:m] ((none,a):AscSt) λ_ c=>do
  let x <- ltAt' (lo+c.snd) (lo+c.snd-1)
  match x with
  | some b=>if b=true then pure (ForInStep.done (none,c.snd)) else pure (V1 (none,c.snd+1))
  | _=>pure (ForInStep.done (some none,c.snd))
def zmf (lo n m:Nat):StateT WP Sem (Option Nat):=do
 Ss lo (lo+n)
 let c <- up1 lo n m
 match c.fst with
 | some r=>pure r
 | none=>pure (some c.snd)
def zjj (lo n m:Nat):StateT WP Sem DescSt :=
 forIn [n:m] ((none,n,0):DescSt) λ_ c=>do
  let x <- ltAt' (lo+c.snd.fst) (lo+c.snd.fst-1)
  match x with
  | some b =>
   if b=true then
    if c.snd.snd>0 then do
     Ss (lo+c.snd.fst-(c.snd.snd+1)) (lo+c.snd.fst)
     pure (V1 (none,c.snd.fst+1,0))
    else pure (V1 (none,c.snd.fst+1,0))
   else do
    let x <- ltAt' (lo+c.snd.fst-1) (lo+c.snd.fst)
    match x with
    | some b =>
     if b=true then pure (ForInStep.done (none,c.snd.fst,c.snd.snd))
     else pure (V1 (none,c.snd.fst+1,c.snd.snd+1))
    | _=>pure (ForInStep.done (some none,c.snd.fst,c.snd.snd))
  | _=>pure (ForInStep.done (some none,c.snd.fst,c.snd.snd))
def part2 (lo n m:Nat):StateT WP Sem (Option Nat):=do
 liftM (rule "list.sort.descending-run")
 let c <- zjj lo (n+1) m
 match c.fst with
 | some r=>pure r
 | none =>
  if c.snd.snd>0 then do
   Ss (lo+c.snd.fst-(c.snd.snd+1)) (lo+c.snd.fst)
   zmf lo c.snd.fst m
  else zmf lo c.snd.fst m
theorem run_eq (lo m:Nat):countRun' lo m=(do
  let c <- up1 lo 1 m
  match c.fst with
  | some r=>pure r
  | none =>
   if (c.snd==m)=true then pure (some c.snd)
   else if c.snd>1 then do
    let x <- ltAt' lo (lo+c.snd-1)
    match x with
    | some b=>if b=true then pure (some c.snd) else do
      Ss lo (lo+c.snd)
      part2 lo c.snd m
    | _=>pure none
   else part2 lo c.snd m):=by
 rw[countRun'_eq];unfold part2 zmf zjj up1;refine bind_congr λc=>?_;obtain⟨r,n⟩:=c;cases r with
 | some r=>rfl
 | none =>
  dsimp only;split
  .rfl
  .split
   .refine bind_congr λx=>?_;cases x with
    | none=>rfl
    | some b =>
     dsimp only;split
     .rfl
     .refine bind_congr λ_=>bind_congr λ_=>bind_congr λB=>?_;obtain⟨A,E,G⟩:=B;cases A with
      | some A=>rfl
      | none =>
       dsimp only;split
       .refine bind_congr λ_=>bind_congr λ_=>bind_congr λs=>?_;obtain⟨w,D⟩:=s;cases w<;>rfl
       .refine bind_congr λ_=>bind_congr λs=>?_;obtain⟨w,D⟩:=s;cases w<;>rfl
   .refine bind_congr λ_=>bind_congr λB=>?_;obtain⟨A,E,G⟩:=B;cases A with
    | some A=>rfl
    | none =>
     dsimp only;split
     .refine bind_congr λ_=>bind_congr λ_=>bind_congr λs=>?_;obtain⟨w,D⟩:=s;cases w<;>rfl
     .refine bind_congr λ_=>bind_congr λs=>?_;obtain⟨w,D⟩:=s;cases w<;>rfl
def Down (rk:Xc->Int)(xs:Array Xc)(lo n:Nat):Prop:=∀i j,i<=j->j<n->Rk rk xs (lo+j)<=Rk rk xs (lo+i)
def zpB {st:WP}{lo a m:Nat}{Q:AscSt->WP->Prop}(T:Tells prog w A s κ rk a0)(O:Ok κ a0 st)(hn:lo+m<=a0.size)(ha:1<=a)(G:a<=m)(Y:Up rk (Xo st) lo (lo+a))
  (h:∀n,a<=n->n<=m->Up rk (Xo st) lo (lo+n)->(n=m\/Rk rk (Xo st) (lo+n)<Rk rk (Xo st) (lo+n-1))->Q (none,n) st):wpS (Xi prog w) A E s (up1 lo a m) Q st:=by
 unfold up1;refine V4 (I:=λx c D=>D=st/\c=(none,x)/\Up rk (Xo st) lo (lo+x)) ?step ?fin ⟨rfl,rfl,Y⟩
 case fin =>
  rintro c D ⟨rfl,rfl,B⟩
  rw[show max a m=m by lia]at B ⊢
  exact h m G (XR _) B (.inl rfl)
 case step =>
  rintro x c D J aa ⟨rfl,rfl,B⟩
  dsimp only
  refine XH (zcS T O (by lia) (by lia) ?_)
  by_cases r:Rk rk (Xo D) (lo+x)<Rk rk (Xo D) (lo+x-1)
  .simp only[r,decide_true,if_true];exact Xp (h x J (by lia) B (.inr r))
  .simp only[r,decide_false,Wu,if_false];refine Xp ⟨rfl,rfl,λi j hi M hj=>?_⟩;by_cases U:j<lo+x
   .exact B i j hi M U
   .obtain rfl:j=lo+x:=by lia
    by_cases L:i=lo+x
    .subst L;exact UY _
    .exact VA (B i (lo+x-1) hi (by lia) (by lia)) (Ow.mp r)
def zmg {G st:WP}{lo n r:Nat}{Q:Option Nat->WP->Prop}(T:Tells prog w A s κ rk a0)(S:Step κ a0 lo G st)(hn:lo+r<=a0.size)(O:1<=n)(J:n<=r)(hs:Down rk (Xo st) lo n)
  (h:∀m B,Step κ a0 lo G B->1<=m->m<=r->Up rk (Xo B) lo (lo+m)->Q (some m) B):wpS (Xi prog w) A E s (zmf lo n r) Q st:=by
 unfold zmf;refine XH (zji ?_);have M:=S.mirror (i:=lo) (j:=lo+n) (XR _) (by lia);refine XH (zpB T M.ok hn O J ?_ λm Y I L _=>Xp (h m _ M (by lia) I L));intro i j hi U hj;have D:lo+n<=(Xo st).size:=by
  rw[S.ok.size];lia
 show Rk rk (mirror (Xo st) lo (lo+n) ((lo+n-lo)/2)) i<=Rk rk (mirror (Xo st) lo (lo+n) ((lo+n-lo)/2)) j;rw[zbf D,zbf D,bw (by lia),bw (by lia)];have:=hs (lo+n-1-j) (lo+n-1-i) (by lia) (by lia);rw[show lo+(lo+n-1-j)=lo+(lo+n)-1-j by lia,show lo+(lo+n-1-i)=lo+(lo+n)-1-i by lia]at this;exact this
def zor {ab st:WP}{lo n B:Nat}{Q:DescSt->WP->Prop}(T:Tells prog w A s κ rk a0)(S:Step κ a0 lo ab st)(hn:lo+B<=a0.size)(h1:1<=n)(ag:n<=B)(hs:Down rk (Xo st) lo n)
  (h:∀m q r,Step κ a0 lo ab r->n<=m->m<=B->Down rk (Xo r) lo m->q+1<=m->(∀i,m-(q+1)<=i->i<m->Rk rk (Xo r) (lo+i)=Rk rk (Xo r) (lo+(m-1)))->Q (none,m,q) r):wpS (Xi prog w) A E s (zjj lo n B) Q st:=by
 unfold zjj;refine V4 (I:=λx c r=>∃q,c=(none,x,q)/\Step κ a0 lo ab r/\Down rk (Xo r) lo x/\q+1<=x /\
   (∀i,x-(q+1)<=i->i<x->Rk rk (Xo r) (lo+i)=Rk rk (Xo r) (lo+(x-1)))) ?step ?fin ⟨0,rfl,S,hs,by lia,λi h1 h2=>by congr 1;lia⟩
 case fin =>
  rintro c r ⟨q,rfl,M,D,hq,he⟩
  rw[show max n B=B by lia]at D hq he ⊢
  exact h B q r M ag (XR _) D hq he
 case step =>
  refine λx c r ae ai=>dG λq=>dD λz0 M D hq he=>?_;subst z0
  dsimp only
  have ah:lo+x<=(Xo r).size:=by
   rw[M.ok.size];lia
  refine XH (zcS T M.ok (by lia) (by lia) ?_)
  by_cases G:Rk rk (Xo r) (lo+x)<Rk rk (Xo r) (lo+x-1)
  .simp only[G,decide_true,if_true];have L:∀xs:Array Xc,(∀k,Rk rk xs k=Rk rk (Xo r) k)->Down rk xs lo (x+1):=by
    intro xs hk i j Y hj;rw[hk,hk];by_cases aa:j<x
    .exact D i j Y aa
    .obtain rfl:j=x:=by lia
     by_cases U:i=j
     .subst U;exact UY _
     .have a1:=D i (j-1) (by lia) (by lia);rw[show lo+(j-1)=lo+j-1 by lia]at a1;exact VA (V3 G) a1
   by_cases ac:q>0
   .rw[bw ac];refine XH (zji (Xp ⟨0,rfl,M.mirror (by lia) (by lia),L _ (jO ah λk k1 k2=>?_),by lia,λi h1 h2=>by congr 1;lia⟩));have a1:=he (k-lo) (by lia) (by lia);rw[show lo+(k-lo)=k by lia,show lo+(x-1)=lo+x-1 by lia]at a1;exact a1
   .rw[bq ac];exact Xp ⟨0,rfl,M,L _ (λ_=>rfl),by lia,λi h1 h2=>by congr 1;lia⟩
  .simp only[G,decide_false,Wu,if_false];refine XH (zcS T M.ok (by lia) (by lia) ?_);by_cases J:Rk rk (Xo r) (lo+x-1)<Rk rk (Xo r) (lo+x)
   .simp only[J,decide_true,if_true];exact Xp (h x q r M ae (by lia) D hq he)
   .simp only[J,decide_false,Wu,if_false];have O:Rk rk (Xo r) (lo+x)=Rk rk (Xo r) (lo+(x-1)):=by
     rw[show lo+(x-1)=lo+x-1 by lia];lia
    refine Xp ⟨q+1,rfl,M,λi j Y hj=>?_,by lia,λi h1 h2=>?_⟩
    .by_cases aa:j<x
     .exact D i j Y aa
     .obtain rfl:j=x:=by lia
      by_cases U:i=j
      .subst U;exact UY _
      .rw[O];exact D i (j-1) (by lia) (by lia)
    .rw[show x+1-1=x by lia];by_cases af:i=x
     .subst af;rfl
     .rw[O];exact he i (by lia) (by lia)
def zjk {L st:WP}{lo n B:Nat}{Q:Option Nat->WP->Prop}(T:Tells prog w A s κ rk a0)(S:Step κ a0 lo L st)(hn:lo+B<=a0.size)(U:n+1<=B)(hs:Down rk (Xo st) lo (n+1))
  (h:∀m r,Step κ a0 lo L r->1<=m->m<=B->Up rk (Xo r) lo (lo+m)->Q (some m) r):wpS (Xi prog w) A E s (part2 lo n B) Q st:=by
 unfold part2;refine XH (Ro (US ⟨rfl,?_⟩));refine XH (zor T S hn (by lia) U hs λm q r M aa D I hq he=>?_);dsimp only;have J:lo+m<=(Xo r).size:=by
  rw[M.ok.size];lia
 by_cases G:q>0
 .rw[bw G];refine XH (zji (zmg T (M.mirror (by lia) (by lia)) hn (by lia) D ?_ h));intro i j O hj;show Rk rk (mirror (Xo r) _ _ _) (lo+j)<=Rk rk (mirror (Xo r) _ _ _) (lo+i);have same:∀k,lo+m-(q+1)<=k->k<lo+m->Rk rk (Xo r) k=Rk rk (Xo r) (lo+m-1):=λk k1 k2=>by
   have Y:=he (k-lo) (by lia) (by lia);rw[show lo+(k-lo)=k by lia,show lo+(m-1)=lo+m-1 by lia]at Y;exact Y
  rw[jO J same,jO J same];exact I i j O hj
 .rw[bq G];exact zmg T M hn (by lia) D I h
def zr4 {st:WP}{lo B:Nat}{Q:Option Nat->WP->Prop}(T:Tells prog w A s κ rk a0)(O:Ok κ a0 st)(hn:lo+B<=a0.size)(h1:1<=B)
  (h:∀m M,Step κ a0 lo st M->1<=m->m<=B->Up rk (Xo M) lo (lo+m)->Q (some m) M):wpS (Xi prog w) A E s (countRun' lo B) Q st:=by
 have S:=Step.refl (lo:=lo) O;rw[run_eq];refine XH (zpB T O hn (XR 1) h1 (λi j hi Y hj=>by
  obtain rfl:i=j:=by lia
  exact UY _) λn aa ab G ae=>?_)
 dsimp only;by_cases L:n=B
 .rw[bw (by simpa using L)];exact Xp (h n st S aa ab G)
 .rw[bq (by simpa using L)];have J:Rk rk (Xo st) (lo+n)<Rk rk (Xo st) (lo+n-1):=ae.resolve_left L;have ac:lo+n<=(Xo st).size:=by
   rw[O.size];lia
  by_cases U:n>1
  .rw[bw U];refine XH (zcS T O (by lia) (by lia) ?_);by_cases D:Rk rk (Xo st) lo<Rk rk (Xo st) (lo+n-1)
   .simp only[D,decide_true,if_true];exact Xp (h n st S aa ab G)
   .simp only[D,decide_false,Wu,if_false];have r:∀k,lo<=k->k<lo+n->Rk rk (Xo st) k=Rk rk (Xo st) (lo+n-1):=by
     intro k k1 k2;have a1:=G lo k (XR _) k1 k2;have a2:=G k (lo+n-1) k1 (by lia) (by lia);lia
    refine XH (zji (zjk T (S.mirror (XR _) (by lia)) hn (by lia) ?_ h));intro i j Y hj;show Rk rk (mirror (Xo st) _ _ _) (lo+j)<=Rk rk (mirror (Xo st) _ _ _) (lo+i);rw[jO ac r,jO ac r];by_cases af:j<n
    .rw[r (lo+i) (by lia) (by lia),r (lo+j) (by lia) (by lia)];exact UY _
    .obtain rfl:j=n:=by lia
     by_cases I:i=j
     .subst I;exact UY _
     .rw[r (lo+i) (by lia) (by lia)];exact V3 J
  .rw[bq U];obtain rfl:n=1:=by lia
   refine zjk T S hn (by lia) ?_ h;intro i j Y hj;by_cases I:i=j
   .subst I;exact UY _
   .obtain rfl:i=0:=by lia
    obtain rfl:j=1:=by lia
    rw[RR]at J;exact V3 J
def zek {xs:Array Xc}{m d:Nat}(A:m<xs.size)(w:d<=m)(k:Nat):Rk rk (bubble xs m d) k=if k=m-d then Rk rk xs m else if m-d<k/\k<=m then Rk rk xs (k-1) else Rk rk xs k:=by
 have e:=getElem?_bubble A d w k;by_cases r:k=m-d
 .rw[bw r]at e ⊢;exact JE e
 .rw[bq r]at e ⊢;by_cases s:m-d<k/\k<=m
  .rw[bw s]at e ⊢;exact JE e
  .rw[bq s]at e ⊢;exact JE e
def zr5 {st:WP}{lo n ok:Nat}{Q:Bool->WP->Prop}(T:Tells prog w A s κ rk a0)(O:Ok κ a0 st)(hn:lo+n<=a0.size)(aj:ok<=n)(hs:Up rk (Xo st) lo (lo+ok))
  (h:∀B,Step κ a0 lo st B->Up rk (Xo B) lo (lo+n)->Q true B):wpS (Xi prog w) A E s (binarySort' lo n ok) Q st:=by
 rw[binarySort'_eq];refine XH (Uv (V4 (I:=λk c B=>c=(none,())/\Step κ a0 lo st B/\Up rk (Xo B) lo (lo+min k n))
  (Q:=λc B=>c=(none,())/\Step κ a0 lo st B/\Up rk (Xo B) lo (lo+n)) ?step ?fin ?init) ?post)
 case post =>
  rintro c B ⟨rfl,M,G⟩
  exact Xp (h B M G)
 case init =>
  refine⟨rfl,Step.refl O,λi j hi ac hj=>?_⟩
  by_cases h1:ok=0
  .obtain rfl:i=j:=by lia
   exact UY _
  .exact hs i j hi ac (by lia)
 case fin =>
  rintro c B ⟨hc,M,G⟩
  refine⟨hc,M,?_⟩
  rwa [show min (max (max ok 1) n) n=n by lia]at G
 case step =>
  rintro k c B ag ah ⟨rfl,M,G⟩
  rw[show min k n=k by lia]at G
  have O':=M.ok
  have hk:lo+k<a0.size:=by lia
  refine XH (Uv (V4 (I:=λx c m=>m=B/\∃l r,c=(none,l,r)/\l<=r/\r<=k/\r-l<=k-x /\
    (∀i,i<l->Rk rk (Xo B) (lo+i)<=Rk rk (Xo B) (lo+k))/\(∀i,r<=i->i<k->Rk rk (Xo B) (lo+k)<Rk rk (Xo B) (lo+i)))
   (Q:=λc m=>m=B/\∃l r,c=(none,l,r)/\l<=k /\
    (∀i,i<l->Rk rk (Xo B) (lo+i)<=Rk rk (Xo B) (lo+k))/\(∀i,l<=i->i<k->Rk rk (Xo B) (lo+k)<Rk rk (Xo B) (lo+i))) ?istep ?ifin ?iinit) ?ipost)
  case iinit=>exact⟨rfl,0,k,rfl,by lia,by lia,by lia,λi hi=>by lia,λi h1 h2=>by lia⟩
  case ifin =>
   refine λc m=>c8 λz0=>dF λl r=>dh λz1 ae Y hm L J=>?_;subst z0 z1
   obtain rfl:l=r:=by lia
   exact⟨rfl,l,l,rfl,Y,L,J⟩
  case istep =>
   refine λx c m _ ak=>c8 λz0=>dF λl r=>dh λz1 ae Y hm L J=>?_;subst z0 z1
   dsimp only
   by_cases aa:l >= r
   .rw[bw aa];obtain rfl:l=r:=by lia
    exact Xp ⟨rfl,l,l,rfl,Y,L,J⟩
   .rw[bq aa];refine XH (zcS T O' hk (by lia) ?_);by_cases D:Rk rk (Xo m) (lo+k)<Rk rk (Xo m) (lo+(l+r)/2)
    .simp only[D,decide_true,if_true];refine Xp ⟨rfl,l,(l+r)/2,rfl,by lia,by lia,by lia,L,λi h1 h2=>?_⟩;exact Int.lt_of_lt_of_le D (G _ _ (by lia) (by lia) (by lia))
    .simp only[D,decide_false,Wu,if_false];refine Xp ⟨rfl,(l+r)/2+1,r,rfl,by lia,by lia,by lia,λi h1=>?_,J⟩;exact VA (G (lo+i) (lo+(l+r)/2) (by lia) (by lia) (by lia)) (Ow.mp D)
  case ipost =>
   refine λc m=>c8 λz0=>dj λl r z1 ai L J=>?_;subst z0 z1
   show wpS _ _ _ _ (do moveDown' (lo+k) (lo+l);pure (V1 (none,()))) _ _
   rw[moveDown'_eq]
   have U:lo+k<(Xo m).size:=by
    rw[O'.size];exact hk
   refine XH (Ti (Xp ⟨rfl,⟨⟨(bubble_perm _ _ _).trans O'.perm,O'.kind,O'.good⟩,M.pend,λi hi=>?_⟩,?_⟩))
   .show (bubble (Xo m) (lo+k) (lo+k-(lo+l)))[i]?=_;rw[getElem?_bubble U _ (by lia),bq (by lia),bq (by lia)];exact M.low i hi
   .rw[show min (k+1) n=k+1 by lia];intro i j hi ac hj;show Rk rk (bubble (Xo m) (lo+k) (lo+k-(lo+l))) i<=Rk rk (bubble (Xo m) (lo+k) (lo+k-(lo+l))) j;rw[zek U (by lia),zek U (by lia),show lo+k-(lo+k-(lo+l))=lo+l by lia];have up:∀a b,lo<=a->a<=b->b<lo+k->Rk rk (Xo m) a<=Rk rk (Xo m) b:=G;have af:∀a,lo<=a->a<lo+l->Rk rk (Xo m) a<=Rk rk (Xo m) (lo+k):=λa a1 a2=>by
     have:=L (a-lo) (by lia);rwa [show lo+(a-lo)=a by lia]at this
    have ab:∀a,lo+l<=a->a<lo+k->Rk rk (Xo m) (lo+k)<Rk rk (Xo m) a:=λa a1 a2=>by
     have:=J (a-lo) (by lia) (by lia);rwa [show lo+(a-lo)=a by lia]at this
    repeat' split
    all_goals first
     | (exfalso;lia)
     | exact UY _
     | exact af _ (by lia) (by lia)
     | exact V3 (ab _ (by lia) (by lia))
     | exact up _ _ (by lia) (by lia) (by lia)
def gallop':Bool->Xc->Array Xc->Nat->Nat->Nat->StateT WP Sem (Option Nat):=sortPriv% PySem.Builtin.gallop
def mergeLo':Array Xc->Array Xc->StateT WP Sem (Array Xc):=sortPriv% PySem.Builtin.mergeLo
def mergeHi':Array Xc->Array Xc->StateT WP Sem (Array Xc):=sortPriv% PySem.Builtin.mergeHi
def bey (rk:Xc->Int)(left:Bool)(m x:Xc):Bool:=if left then decide (rk x<rk m) else !decide (rk m<rk x)
def zgB {st:WP}{left:Bool}{U:Xc}{ac:Array Xc}{base n hint:Nat}{Q:Option Nat->WP->Prop}(T:Tells prog w A s κ rk a0)(hk:kindOf st=κ)(aa:U∈a0.toList)(b:Nat->Bool)
  (he:∀i,i<n->∃x,ac[base+i]?=some x/\x∈a0.toList/\b i=bey rk left U x) (mono:∀i j,i<=j->j<n->b j=true->b i=true) (hh:hint<n)
  (h:∀k,k<=n->(∀i,i<k->b i=true)->(∀i,k<=i->i<n->b i=false)->Q (some k) st):wpS (Xi prog w) A E s (gallop' left U ac base n hint) Q st:=by
 have one:∀{i:Nat} {Q':Option Bool->WP->Prop},i<n->Q' (some (b i)) st->wpS (Xi prog w) A E s (do
   let x <- elem' ac (base+i)
   if left=true then lt' x U
    else do
     let r <- lt' U x
     pure (Option.map (λx=>!x) r)) Q' st:=by
  intro i Q' hi hq;obtain⟨x,e1,e2,e3⟩:=he i hi;refine XH (qQ e1 ?_);unfold bey at e3;cases left with
  | true =>
   rw[bw rfl]at e3 ⊢;rw[e3]at hq;exact zme T hk e2 aa hq
  | false =>
   rw[bq XT]at e3 ⊢;rw[e3]at hq;exact XH (zme T hk aa e2 (Xp hq))
 have ab:∀{f:Nat->Option (Option Nat)×AA->StateT WP Sem (ForInStep (Option (Option Nat)×AA))} {g:Option (Option Nat)×AA->StateT WP Sem (Option Nat)},
   (∀x l r (R:ForInStep (Option (Option Nat)×AA)->WP->Prop),l >= r->R (.done (none,l,r)) st->wpS (Xi prog w) A E s (f x (none,l,r)) R st) ->
   (∀x l r (R:ForInStep (Option (Option Nat)×AA)->WP->Prop),l<r->r<=n->R (.yield (if b (l+(r-l)/2)=true then (none,l+(r-l)/2+1,r) else (none,l,l+(r-l)/2))) st->wpS (Xi prog w) A E s (f x (none,l,r)) R st) ->
   (∀l r,Q (some r) st->wpS (Xi prog w) A E s (g (none,l,r)) Q st) ->
   ∀(lo hi:Nat),lo<=hi->hi<=n->(∀i,i<lo->b i=true)->(∀i,hi<=i->i<n->b i=false)->wpS (Xi prog w) A E s (forIn [:n] ((none,lo,hi):Option (Option Nat)×AA) f >>= g) Q st:=by
  intro f g f1 f2 g1 lo hi h1 h2 h3 h4;refine XH (Uv (V4 (I:=λx c m=>m=st/\∃l r,c=(none,l,r)/\l<=r/\r<=n/\r-l<=n-x/\(∀i,i<l->b i=true)/\(∀i,r<=i->i<n->b i=false))
   (Q:=λc m=>m=st/\∃l,c=(none,l,l)/\l<=n/\(∀i,i<l->b i=true)/\(∀i,l<=i->i<n->b i=false)) ?step ?fin ⟨rfl,lo,hi,rfl,h1,h2,by lia,h3,h4⟩) ?post)
  case fin =>
   rintro c m ⟨rfl,l,r,rfl,L,D,J,G,Y⟩
   obtain rfl:l=r:=by lia
   exact⟨rfl,l,rfl,D,G,Y⟩
  case post =>
   rintro c m ⟨rfl,l,rfl,D,G,Y⟩
   exact g1 l l (h l D G Y)
  case step =>
   refine λx c m _ hx=>c8 λz0=>dF λl r=>dh λz1 L D J G Y=>?_;subst z0 z1
   by_cases B:l >= r
   .obtain rfl:l=r:=by lia
    exact f1 x l l _ B ⟨rfl,l,rfl,D,G,Y⟩
   .refine f2 x l r _ (by lia) D ?_;cases hb:b (l+(r-l)/2) with
    | true =>
     rw[bw rfl];exact⟨rfl,l+(r-l)/2+1,r,rfl,by lia,D,by lia,λi hi=>mono i _ (by lia) (by lia) hb,Y⟩
    | false =>
     rw[bq XT];refine⟨rfl,l,l+(r-l)/2,rfl,by lia,by lia,by lia,G,λi i1 i2=>?_⟩;cases O:b i with
     | false=>rfl
     | true =>
      have:=mono _ i i1 i2 O;rw[hb]at this;cases this
 refine XH (one hh ?_);dsimp only;cases hb:b hint with
 | true =>
  rw[bw rfl];refine XH (Uv (V4 (I:=λx c m=>m=st/\∃l o,c=(none,l,o)/\l<o/\hint+l<n/\b (hint+l)=true/\x+1<=o)
   (Q:=λc m=>m=st/\∃l o,c=(none,l,o)/\l<o/\hint+l<n/\b (hint+l)=true/\(o >= n-hint\/(hint+o<n/\b (hint+o)=false))) ?step ?fin ⟨rfl,0,1,rfl,by lia,hh,hb,by lia⟩) ?post)
  case fin =>
   rintro c m ⟨rfl,l,o,rfl,L,D,J,G⟩
   exact⟨rfl,l,o,rfl,L,D,J,.inl (by lia)⟩
  case step =>
   refine λx c m _ hx=>c8 λz0=>dw λl o z1 L D J G=>?_;subst z0 z1
   dsimp only
   by_cases B:o >= n-hint
   .rw[bw B];exact Xp ⟨rfl,l,o,rfl,L,D,J,.inl B⟩
   .rw[bq B];refine XH (one (by lia) ?_);dsimp only;cases hbo:b (hint+o) with
    | false =>
     rw[bw (by decide)];exact Xp ⟨rfl,l,o,rfl,L,D,J,.inr ⟨by lia,hbo⟩⟩
    | true =>
     rw[bq (by decide)];exact Xp ⟨rfl,o,2*o+1,rfl,by lia,by lia,hbo,by lia⟩
  case post =>
   refine λc m=>c8 λz0=>dw λl o z1 L D J G=>?_;subst z0 z1
   refine ab (λx l r R B M=>?_) (λx l r R ae hr M=>?_) (λl r hq=>Xp hq) (hint+l+1) (hint+min o (n-hint)) (by lia) (by lia) (λi hi=>mono i (hint+l) (by lia) D J) λi i1 i2=>?_
   .dsimp only;rw[bw B];exact Xp M
   .dsimp only;rw[bq (by lia)];refine XH (one (by lia) ?_);dsimp only;cases hbm:b (l+(r-l)/2) with
    | true =>
     rw[hbm,bw rfl]at M;rw[bw rfl];exact Xp M
    | false =>
     rw[hbm,bq XT]at M;rw[bq XT];exact Xp M
   .rcases G with G | ⟨G,Y⟩
    .lia
    .cases O:b i with
     | false=>rfl
     | true =>
      have:=mono _ i (show hint+o<=i by lia) i2 O;rw[Y]at this;cases this
 | false =>
  rw[bq XT];refine XH (Uv (V4 (I:=λx c m=>m=st/\∃l o,c=(none,l,o)/\l<o/\l<=hint/\b (hint-l)=false/\x+1<=o)
   (Q:=λc m=>m=st/\∃l o,c=(none,l,o)/\l<o/\l<=hint/\b (hint-l)=false/\(o >= hint+1\/(o<=hint/\b (hint-o)=true))) ?step ?fin ⟨rfl,0,1,rfl,by lia,by lia,hb,by lia⟩) ?post)
  case fin =>
   rintro c m ⟨rfl,l,o,rfl,L,D,J,G⟩
   exact⟨rfl,l,o,rfl,L,D,J,.inl (by lia)⟩
  case step =>
   refine λx c m _ hx=>c8 λz0=>dw λl o z1 L D J G=>?_;subst z0 z1
   dsimp only
   by_cases B:o >= hint+1
   .rw[bw B];exact Xp ⟨rfl,l,o,rfl,L,D,J,.inl B⟩
   .rw[bq B];refine XH (one (by lia) ?_);dsimp only;cases hbo:b (hint-o) with
    | true =>
     rw[bw rfl];exact Xp ⟨rfl,l,o,rfl,L,D,J,.inr ⟨by lia,hbo⟩⟩
    | false =>
     rw[bq (by decide)];exact Xp ⟨rfl,o,2*o+1,rfl,by lia,by lia,hbo,by lia⟩
  case post =>
   refine λc m=>c8 λz0=>dw λl o z1 L D J G=>?_;subst z0 z1
   refine ab (λx l r R B M=>?_) (λx l r R ae hr M=>?_) (λl r hq=>Xp hq) (hint+1-min o (hint+1)) (hint-l) (by lia) (by lia) (λi hi=>?_) λi i1 i2=>?_
   .dsimp only;rw[bw B];exact Xp M
   .dsimp only;rw[bq (by lia)];refine XH (one (by lia) ?_);dsimp only;cases hbm:b (l+(r-l)/2) with
    | true =>
     rw[hbm,bw rfl]at M;rw[bw rfl];exact Xp M
    | false =>
     rw[hbm,bq XT]at M;rw[bq XT];exact Xp M
   .rcases G with G | ⟨G,Y⟩
    .lia
    .exact mono i (hint-o) (by lia) (by lia) Y
   .cases O:b i with
    | false=>rfl
    | true =>
     have:=mono _ i i1 i2 O;rw[J]at this;cases this
end
structure MI (rk:Xc->Int)(aL bL:List Xc)(ia ib:Nat)(oL:List Xc):Prop where
 perm:oL.Perm (aL.take ia++bL.take ib)
 srt:oL.Pairwise λx y=>rk x<=rk y
 la:∀x∈oL,∀y∈aL.drop ia,rk x<=rk y
 lb:∀x∈oL,∀y∈bL.drop ib,rk x<=rk y
section
variable {rk:Xc->Int}{aL bL oL:List Xc}{ia ib:Nat}
def MI.swap (M:MI rk aL bL ia ib oL):MI rk bL aL ib ia oL:=⟨M.perm.trans SG,M.srt,M.lb,M.la⟩
def zkO (l:List Xc)(i k:Nat):l.take (i+k)=l.take i++(l.drop i).take k:=by
 rw[List.take_add]
def MI.takeA (M:MI rk aL bL ia ib oL)(sa:aL.Pairwise λx y=>rk x<=rk y)(k:Nat)(h:∀x∈(aL.drop ia).take k,∀y∈bL.drop ib,rk x<=rk y):MI rk aL bL (ia+k) ib (oL++(aL.drop ia).take k):=by
 have m:(aL.drop ia).Pairwise λx y=>rk x<=rk y:=sa.sublist (RA _ _);have r:(aL.drop ia).drop k=aL.drop (ia+k):=Pa;refine⟨?_,?_,λx hx y hy=>?_,λx hx y hy=>?_⟩
 .rw[zkO,W9];refine(M.perm.append_right _).trans ?_;rw[W9];exact SH _ SG
 .rw[TZ];exact⟨M.srt,m.sublist (SX _ _),λx hx y hy=>M.la x hx y (V8 hy)⟩
 .rw[<- r]at hy;rcases XU.mp hx with hx | hx
  .exact M.la x hx y (O3 hy)
  .have:=m;rw[<- WU k (aL.drop ia),TZ]at this;exact this.2.2 x hx y hy
 .rcases XU.mp hx with hx | hx
  .exact M.lb x hx y hy
  .exact h x hx y hy
def MI.takeB (M:MI rk aL bL ia ib oL)(sb:bL.Pairwise λx y=>rk x<=rk y)(k:Nat)(h:∀x∈(bL.drop ib).take k,∀y∈aL.drop ia,rk x<=rk y):MI rk aL bL ia (ib+k) (oL++(bL.drop ib).take k):=(M.swap.takeA sb k h).swap
def Mg (rk:Xc->Int)(aL bL oL:List Xc):Prop:=oL.Perm (aL++bL)/\oL.Pairwise λx y=>rk x<=rk y
def MI.all (M:MI rk aL bL ia ib oL)(ha:aL.length<=ia)(m:bL.length<=ib):Mg rk aL bL oL:=by
 have:=M.perm;rw[WT ha,WT m]at this;exact⟨this,M.srt⟩
def MI.doneB (M:MI rk aL bL ia ib oL)(sa:aL.Pairwise λx y=>rk x<=rk y)(m:bL.length<=ib):Mg rk aL bL (oL++aL.drop ia):=by
 have:=M.takeA sa (aL.drop ia).length (λx _ y hy=>by
  rw[SN m]at hy;cases hy)
 rw[XE]at this;exact this.all (by rw[Wl];lia) m
def MI.lastA (M:MI rk aL bL ia ib oL)(sa:aL.Pairwise λx y=>rk x<=rk y)(sb:bL.Pairwise λx y=>rk x<=rk y)(h:∀x∈bL,∀y∈aL.drop ia,rk x<=rk y):Mg rk aL bL (oL++bL.drop ib++aL.drop ia):=by
 have M2:=M.takeB sb (bL.drop ib).length (λx hx y hy=>h x (O3 (V8 hx)) y hy);rw[XE]at M2;exact M2.doneB sa (by rw[Wl];lia)
def ext_toList (a:Array Xc)(i j:Nat)(m:i<=j):(a.extract i j).toList=(a.toList.drop i).take (j-i):=by
 rw[O2,RJ]
def zaE (a:Array Xc)(i:Nat):(a.extract i a.size).toList=a.toList.drop i:=by
 rw[O2,RJ,WT];rw[Wl,XZ];exact XR _
def zmh {a:Array Xc}{i:Nat}{x:Xc}(h:a[i]?=some x):(a.toList.drop i).take 1=[x]:=by
 have hi:i<a.toList.length:=by
  rw[XZ];exact(Vu.mp h).1
 rw[Ww hi,Ux,RW];have:a.toList[i]?=some x:=by rw[XA];exact h
 rw[XX hi]at this;rw[Option.some.inj this]
end
section
variable {prog:Xl}{w:WY}{A:WK}{E:X7->X0->Prop}{s:X0}{rk:Xc->Int}{κ:T3}{a0:Array Xc}
structure Kept (st st':WP):Prop where
 arr:Xo st'=Xo st
 kind:kindOf st'=kindOf st
 pend:WO st'=WO st
 bad:S5 st'=S5 st
def setG':Nat->StateT WP Sem Unit:=sortPriv% PySem.Builtin.setMinGallop
def Kept.refl (st:WP):Kept st st:=⟨rfl,rfl,rfl,rfl⟩
def zfm {r st:WP}{g:Nat}{Q:Unit->WP->Prop}(k:Kept r st)(h:∀m,Kept r m->Q () m):wpS (Xi prog w) A E s (setG' g) Q st:=by
 have e:setG' g=modify λc=>SortSt.mk' (kindOf c) (Xo c) (WO c) g (S5 c):=rfl;rw[e];exact Ti (h _ ⟨k.arr,k.kind,k.pend,k.bad⟩)
def qA {α:Type}{c:Prop} [Decidable c]{x y:StateT WP Sem α}{Q:α->WP->Prop}{st:WP}(m:c->wpS (Xi prog w) A E s x Q st)(r:¬ c->wpS (Xi prog w) A E s y Q st):wpS (Xi prog w) A E s (if c then x else y) Q st:=by
 by_cases hc:c
 .rw[bw hc];exact m hc
 .rw[bq hc];exact r hc
def jc {a:Array Xc}{i:Nat}(h:i<a.size):∃x,a[i]?=some x/\x∈a.toList:=⟨a[i],getElem?_pos a i h,by simp⟩
def J8 {a:Array Xc}(sa:a.toList.Pairwise λx y=>rk x<=rk y){i:Nat}{x:Xc}(e:a[i]?=some x):∀y∈a.toList.drop i,rk x<=rk y:=by
 have hi:i<a.toList.length:=by
  rw[XZ];exact(Vu.mp e).1
 have m:a.toList[i]?=some x:=by rw[XA];exact e
 rw[XX hi]at m;have r:=Option.some.inj m;have s:=sa.sublist (RA i a.toList);rw[Ww hi,r,RP]at s;rw[Ww hi,r];intro y hy;rcases XQ.mp hy with rfl | hy
 .exact UY _
 .exact s.1 y hy
def YY {a b m:Array Xc}{w r:Nat}(M:MI rk a.toList b.toList w r m.toList)(sa:a.toList.Pairwise λx y=>rk x<=rk y)(s:b.size<=r):Mg rk a.toList b.toList (m++a.extract w a.size++b.extract r b.size).toList:=by
 rw[WM,WM,zaE,zaE,SN (as:=b.toList) (by rw[XZ];exact s),Xx];exact M.doneB sa (by rw[XZ];exact s)
def YZ {a b r:Array Xc}{m s:Nat}(M:MI rk a.toList b.toList m s r.toList)(sa:a.toList.Pairwise λx y=>rk x<=rk y)(sb:b.toList.Pairwise λx y=>rk x<=rk y)(hl:∀x∈b.toList,∀y,a[a.size-1]?=some y->rk x<=rk y)(ha:m+1=a.size):Mg rk a.toList b.toList (r++b.extract s b.size++a.extract m a.size).toList:=by
 rw[WM,WM,zaE,zaE];refine M.lastA sa sb λx hx y hy=>?_;have hi:m<a.toList.length:=by rw[XZ];lia
 rw[Ww hi,SN (by rw[XZ];lia)]at hy;have w:y=a.toList[m]:=by simpa using hy
 refine hl x hx y ?_;rw[show a.size-1=m by lia,<- XA,XX hi,w]
def zkP (m:Array Xc)(x:Xc):(m.push x).toList=m.toList++[x]:=SR ..
def MI.oneB {a b m:Array Xc}{r s:Nat}{x:Xc}(M:MI rk a.toList b.toList r s m.toList)(sb:b.toList.Pairwise λx y=>rk x<=rk y)(e:b[s]?=some x)(h:∀y∈a.toList.drop r,rk x<=rk y):MI rk a.toList b.toList r (s+1) (m.push x).toList:=by
 rw[zkP,<- zmh e];refine M.takeB sb 1 λz hz y hy=>?_;rw[zmh e]at hz;have w:z=x:=by simpa using hz
 rw[w];exact h y hy
def MI.oneA {a b m:Array Xc}{r s:Nat}{x:Xc}(M:MI rk a.toList b.toList r s m.toList)(sa:a.toList.Pairwise λx y=>rk x<=rk y)(e:a[r]?=some x)(h:∀y∈b.toList.drop s,rk x<=rk y):MI rk a.toList b.toList (r+1) s (m.push x).toList:=(MI.oneB M.swap sa e h).swap
def MI.someA {a b s:Array Xc}{m w k:Nat}{y:Xc}(M:MI rk a.toList b.toList m w s.toList)(sa:a.toList.Pairwise λx y=>rk x<=rk y)(sb:b.toList.Pairwise λx y=>rk x<=rk y)(e:b[w]?=some y)(h:∀i x,i<k->a[m+i]?=some x->rk x<=rk y):MI rk a.toList b.toList (m+k) w (s++a.extract m (m+k)).toList:=by
 rw[WM,ext_toList _ _ _ (Vl _ _),QP];refine M.takeA sa k λx hx z hz=>VA ?_ (J8 sb e z hz);obtain⟨i,hi,A⟩:=TD hx;have r:i<k:=by
  rw[XM]at hi;lia
 refine h i x r ?_;have:((a.toList.drop m).take k)[i]?=some x:=by rw[XX hi,A]
 rw[List.getElem?_take,bw r,Uk,XA]at this;exact this
def MI.someB {a b r:Array Xc}{s m k:Nat}{y:Xc}(M:MI rk a.toList b.toList s m r.toList)(sa:a.toList.Pairwise λx y=>rk x<=rk y)(sb:b.toList.Pairwise λx y=>rk x<=rk y)(e:a[s]?=some y)(h:∀i x,i<k->b[m+i]?=some x->rk x<=rk y):MI rk a.toList b.toList s (m+k) (r++b.extract m (m+k)).toList:=(MI.someA M.swap sb sa e h).swap
def zbg {st:WP}{r:Xc}{a:Array Xc}{base n hint:Nat}{Q:Option Nat->WP->Prop}(T:Tells prog w A s κ rk a0)(hk:kindOf st=κ)(B:r∈a0.toList)(ma:∀x∈a.toList,x∈a0.toList)(up:∀i j x y,base<=i->i<=j->j<base+n->a[i]?=some x->a[j]?=some y->rk x<=rk y)(hn:base+n<=a.size)(Y:hint<n)
  (h:∀k,k<=n->(∀i x,i<k->a[base+i]?=some x->rk x<=rk r)->(∀i x,k<=i->i<n->a[base+i]?=some x->rk r<rk x)->Q (some k) st):wpS (Xi prog w) A E s (gallop' false r a base n hint) Q st:=by
 have he:∀i,i<n->∃x,a[base+i]?=some x/\x∈a.toList:=λi hi=>jc (by lia);refine zgB T hk B (λi=>match a[base+i]? with | some x=>bey rk false r x | none=>false) (λi hi=>?_) (λi j aa hj D=>?_) Y λk J O U=>h k J (λi x hi e=>?_) λi x G I e=>?_
 .obtain⟨x,e,m⟩:=he i hi;refine⟨x,e,ma x m,?_⟩;try dsimp only
  rw[e]
 .obtain⟨x,L,_⟩:=he i (by lia);obtain⟨y,M,_⟩:=he j hj;try dsimp only at D ⊢
  rw[M]at D;rw[L];have:=up (base+i) (base+j) x y (by lia) (by lia) (by lia) L M;unfold bey at D ⊢;simp only[Wu,if_false,WA,decide_eq_false_iff_not]at D ⊢;lia
 .have:=O i hi;try dsimp only at this
  rw[e]at this;unfold bey at this;simp only[Wu,if_false,WA,decide_eq_false_iff_not]at this;lia
 .have:=U i G I;try dsimp only at this
  rw[e]at this;unfold bey at this;simp only[Wu,if_false,Bool.not_eq_false',bu]at this;exact this
def zbh {st:WP}{r:Xc}{a:Array Xc}{base n hint:Nat}{Q:Option Nat->WP->Prop}(T:Tells prog w A s κ rk a0)(hk:kindOf st=κ)(B:r∈a0.toList)(ma:∀x∈a.toList,x∈a0.toList)(up:∀i j x y,base<=i->i<=j->j<base+n->a[i]?=some x->a[j]?=some y->rk x<=rk y)(hn:base+n<=a.size)(Y:hint<n)
  (h:∀k,k<=n->(∀i x,i<k->a[base+i]?=some x->rk x<rk r)->(∀i x,k<=i->i<n->a[base+i]?=some x->rk r<=rk x)->Q (some k) st):wpS (Xi prog w) A E s (gallop' true r a base n hint) Q st:=by
 have he:∀i,i<n->∃x,a[base+i]?=some x/\x∈a.toList:=λi hi=>jc (by lia);refine zgB T hk B (λi=>match a[base+i]? with | some x=>bey rk true r x | none=>false) (λi hi=>?_) (λi j aa hj D=>?_) Y λk J O U=>h k J (λi x hi e=>?_) λi x G I e=>?_
 .obtain⟨x,e,m⟩:=he i hi;refine⟨x,e,ma x m,?_⟩;try dsimp only
  rw[e]
 .obtain⟨x,L,_⟩:=he i (by lia);obtain⟨y,M,_⟩:=he j hj;try dsimp only at D ⊢
  rw[M]at D;rw[L];have:=up (base+i) (base+j) x y (by lia) (by lia) (by lia) L M;unfold bey at D ⊢;simp only[if_true,bu]at D ⊢;lia
 .have:=O i hi;try dsimp only at this
  rw[e]at this;unfold bey at this;simp only[if_true,bu]at this;exact this
 .have:=U i G I;try dsimp only at this
  rw[e]at this;unfold bey at this;simp only[if_true,decide_eq_false_iff_not]at this;lia
def zjl {a:Array Xc}(sa:a.toList.Pairwise λx y=>rk x<=rk y){i j:Nat}{x y:Xc}(s:i<=j)(r:a[i]?=some x)(m:a[j]?=some y):rk x<=rk y:=by
 refine J8 sa r y ?_;have w:j<a.toList.length:=by
  rw[XZ];exact(Vu.mp m).1
 refine X4 (i:=j-i) ?_;rw[Uk,XA,show i+(j-i)=j by lia];exact m
set_option maxHeartbeats 8000000 in
theorem via {P:Prop}(h:∀G:Prop,(P->G)->G):P:=h P id
structure Key (P:Prop):Prop where
 get:P
def cut {P R:Prop}(k:P)(h:Key P->R):R:=h ⟨k⟩
def zkQ {U:WP}{a b:Array Xc}{Q:Array Xc->WP->Prop}(T:Tells prog w A s κ rk a0)(hk:kindOf U=κ)(ma:∀x∈a.toList,x∈a0.toList)(mb:∀x∈b.toList,x∈a0.toList)(sa:a.toList.Pairwise λx y=>rk x<=rk y)(sb:b.toList.Pairwise λx y=>rk x<=rk y)
  (ha:0<a.size) (hb:0<b.size) (h0:∀x y,b[0]?=some x->y∈a.toList->rk x<=rk y) (az:∀x∈b.toList,∀y,a[a.size-1]?=some y->rk x<rk y)
  (h:∀m D,Kept U D->Mg rk a.toList b.toList m.toList->Q m D):wpS (Xi prog w) A E s (mergeLo' a b) Q U:=by
 have hl:∀x∈b.toList,∀y,a[a.size-1]?=some y->rk x<=rk y:=λx hx y hy=>V3 (az x hx y hy);refine XH (Ro (US ⟨rfl,?_⟩));obtain⟨b0,am,_⟩:=jc hb;refine XH (qQ am ?_);have M0:MI rk a.toList b.toList 0 0 (#[]:Array Xc).toList:=⟨by simp,List.Pairwise.nil,(λx hx=>nomatch hx),(λx hx=>nomatch hx)⟩;have M1:MI rk a.toList b.toList 0 1 (#[b0]:Array Xc).toList:=MI.oneB M0 sb am λy hy=>h0 b0 y am (by simpa using hy);dsimp -zeta only;refine qA (λhc=>Xp (h _ _ (Kept.refl _) (YY M1 sa (by rw[show 1=b.size by simpa using hc];exact XR _)))) λhc=>?_;refine qA (λaq=>Xp (h _ _ (Kept.refl _) (YZ M1 sa sb hl (by simpa using aq)))) λaq=>?_;have a8:1<b.size:=by
  have:¬ 1=b.size:=by simpa using hc
  lia
 have a7:0+1<a.size:=by
  have:¬ 0+1=a.size:=by simpa using aq
  lia
 refine XH (Sx ?_);refine XH (Uv (V4 (I:=λx c D=>∃m r B mg,c=(none,m,r,B,mg)/\MI rk a.toList b.toList r B m.toList/\r+1<a.size/\B<b.size/\x+1<=r+B/\Kept U D)
  (Q:=λc D=>∃J,c.1=some J/\Mg rk a.toList b.toList J.toList/\Kept U D) ?step ?fin ⟨_,0,1,_,rfl,M1,a7,a8,by lia,Kept.refl _⟩) ?post)
 case fin =>
  rintro c D ⟨m,r,B,mg,rfl,M,h1,h2,h3,k⟩
  lia
 case post =>
  rintro⟨c1,c2⟩ D ⟨J,e,hM,k⟩
  dsimp only at e ⊢
  subst e
  exact Xp (h _ _ k hM)
 case step =>
  intro x0 c av _ aG hI
  refine via λG L=>?_
  obtain⟨m,r,B,mg,rfl,M,h1,h2,h3,k1⟩:=hI
  refine L ?_
  clear L
  have aB:kindOf av=κ:=k1.kind.trans hk
  dsimp -zeta only
  refine XH (Uv (V4 (I:=λx c D=>D=av/\∃m r B ac bc,c=(none,m,r,B,ac,bc)/\MI rk a.toList b.toList r B m.toList/\r+1<a.size/\B<b.size/\x0+1+x<=r+B)
   (Q:=λc D=>D=av/\((∃J,c.1=some J/\Mg rk a.toList b.toList J.toList)\/∃m r B ac bc,c=(none,m,r,B,ac,bc)/\MI rk a.toList b.toList r B m.toList/\r+1<a.size/\B<b.size/\x0+2<=r+B)) ?step1 ?fin1 ⟨rfl,(cG ⟨_,(cO rfl M h1 h2 (by lia))⟩)⟩) ?post1)
  case fin1 =>
   refine λc D=>c8 λz0=>dP λm r B ac bc z1 M h1 h2 h3=>?_;subst z0 z1
   exact⟨rfl,.inr ⟨m,r,B,ac,bc,rfl,M,h1,h2,by lia⟩⟩
  case step1 =>
   intro x c D _ hx hI
   refine via λG L=>?_
   obtain⟨rfl,m,r,B,ac,bc,rfl,M,h1,h2,h3⟩:=hI
   obtain⟨y,ey,my⟩:=jc h2
   obtain⟨z,Y,mz⟩:=jc (a:=a) (i:=r) (by lia)
   refine L ?_
   clear L
   dsimp -zeta only
   refine XH (qQ ey (XH (qQ Y (XH (zme T aB (mb y my) (ma z mz) ?_)))))
   dsimp -zeta only
   refine qA (λas=>?_) λas=>?_
   .have ah:rk y<rk z:=bg as;have M2:=MI.oneB M sb ey λv hv=>VA (V3 ah) (J8 sa Y v hv);refine XH (qQ ey ?_);refine qA (λhe=>Xp ⟨rfl,.inl ⟨_,rfl,YY M2 sa (by rw[show B+1=b.size by simpa using he];exact XR _)⟩⟩) λhe=>?_;have ak:B+1<b.size:=by
     have:¬ B+1=b.size:=by simpa using he
     lia
    exact qA (λ_=>Xp ⟨rfl,.inr ⟨_,_,_,_,_,rfl,M2,h1,ak,by lia⟩⟩) λ_=>Xp ⟨rfl,_,_,_,_,_,rfl,M2,h1,ak,by lia⟩
   .have ah:¬ rk y<rk z:=λq=>as (br q);have M2:=MI.oneA M sa Y λv hv=>VA (Ow.mp ah) (J8 sb ey v hv);refine XH (qQ Y ?_);refine qA (λhe=>Xp ⟨rfl,.inl ⟨_,rfl,YZ M2 sa sb hl (by simpa using he)⟩⟩) λhe=>?_;have ag:r+1+1<a.size:=by
     have:¬ r+1+1=a.size:=by simpa using he
     lia
    exact qA (λ_=>Xp ⟨rfl,.inr ⟨_,_,_,_,_,rfl,M2,ag,h2,by lia⟩⟩) λ_=>Xp ⟨rfl,_,_,_,_,_,rfl,M2,ag,h2,by lia⟩
  case post1 =>
   intro c D hI
   refine via λG L=>?_
   rcases hI with ⟨rfl,a9 | ⟨m,r,B,ac,bc,rfl,M,h1,h2,h3⟩⟩
   all_goals (refine L ?_;clear L)
   .obtain⟨J,e,hM⟩:=a9;obtain⟨c1,c2⟩:=c;dsimp only at e ⊢;subst e;exact Xp ⟨J,rfl,hM,k1⟩
   dsimp -zeta only
   refine XH (Ro (US ⟨rfl,?_⟩))
   refine XH (Uv (V4 (I:=λx c aa=>∃m r B mg ac bc,c=(none,m,r,B,mg,ac,bc)/\MI rk a.toList b.toList r B m.toList/\r+1<a.size/\B<b.size/\x0+2<=r+B/\Kept U aa)
    (Q:=λc aa=>(∃J,c.1=some J/\Mg rk a.toList b.toList J.toList/\Kept U aa)\/∃m r B mg ac bc,c=(none,m,r,B,mg,ac,bc)/\MI rk a.toList b.toList r B m.toList/\r+1<a.size/\B<b.size/\x0+2<=r+B/\Kept U aa) ?step2 ?fin2 (cG (cG (cI rfl M (cL h1 h2 h3 k1))))) ?post2)
   case fin2 =>
    rintro c aa hc
    exact .inr hc
   case post2 =>
    rintro c aa (⟨J,e,hM,k2⟩ | ⟨m,r,B,mg,ac,bc,rfl,M,h1,h2,h3,k2⟩)
    .obtain⟨c1,c2⟩:=c;dsimp only at e ⊢;subst e;exact Xp ⟨J,rfl,hM,k2⟩
    .dsimp -zeta only;exact XH (zfm k2 λa5 k3=>Xp ⟨_,_,_,_,rfl,M,h1,h2,by lia,k3⟩)
   case step2 =>
    intro x c aa _ hx hI
    refine via λG L=>?_
    obtain⟨m,r,B,mg,ac,bc,rfl,M,h1,h2,h3,k2⟩:=hI
    obtain⟨y,ey,my⟩:=jc h2
    refine L ?_
    clear L
    dsimp -zeta only
    refine' cut ?key1 λO=>qA (λaC=>?a1) λaC=>?b1
    case a1 =>
     generalize mg-1=a4
     revert a4
     exact O.get
    case b1=>exact O.get mg
    intro a4
    dsimp -zeta only
    refine XH (zfm k2 λa5 k3=>?_)
    have ay:kindOf a5=κ:=k3.kind.trans hk
    refine XH (qQ ey (XH (zbg T ay (mb y my) ma (λi j u v _ ar _ eu ev=>zjl sa ar eu ev) (by lia) (by lia) λk aE g1 g2=>?_)))
    dsimp -zeta only
    refine' cut ?key2 λO=>qA (λaA=>?a2) λaA=>?b2
    case a2 =>
     have M2:=MI.someA M sa sb ey g1
     refine qA (λhe=>Xp (.inl ⟨_,rfl,YZ M2 sa sb hl (by simpa using he),k3⟩)) λhe=>?_
     have aH:¬ r+k+1=a.size:=by simpa using he
     have kl:r+k<a.size:=by
      refine Nat.lt_of_not_le λaD=>?_;obtain⟨v,ev,mv⟩:=jc (a:=a) (i:=a.size-1) (by lia);have q1:=g1 (a.size-1-r) v (by lia) (by rw[show r+(a.size-1-r)=a.size-1 by lia];exact ev);have q2:=az y my v ev;lia
     refine qA (λaw=>absurd (show r+k=a.size by simpa using aw) (by lia)) λaw=>?_
     have an:r+k+1<a.size:=by lia
     have ao:x0+2<=r+k+B:=by lia
     have ai:∀z,a[r+k]?=some z->rk y<=rk z:=λz Y=>V3 (g2 k z (XR _) (by lia) Y)
     generalize m++a.extract r (r+k)=al at M2 ⊢
     generalize r+k=ae at M2 an ao ai ⊢
     revert ai;revert ao;revert an;revert M2;revert ae;revert al
     exact O.get
    case b2=>exact O.get m r M h1 h3 λz Y=>V3 (g2 0 z (by lia) (by lia) (by simpa using Y))
    intro al ae M2 an ao ai
    refine via λG L=>?_
    obtain⟨z,Y,mz⟩:=jc (a:=a) (i:=ae) (by lia)
    refine L ?_
    clear L
    have M3:=MI.oneB M2 sb ey λv hv=>VA (ai z Y) (J8 sa Y v hv)
    refine XH (qQ ey ?_)
    refine qA (λhe=>Xp (.inl ⟨_,rfl,YY M3 sa (by rw[show B+1=b.size by simpa using he];exact XR _),k3⟩)) λhe=>?_
    have ak:B+1<b.size:=by
     have:¬ B+1=b.size:=by simpa using he
     lia
    refine XH (qQ Y (XH (zbh T ay (ma z mz) mb (λi j u v _ ar _ eu ev=>zjl sb ar eu ev) (by lia) (by lia) λk' aF g3 g4=>?_)))
    dsimp -zeta only
    refine' cut ?key3 λO=>qA (λax=>?a3) λax=>?b3
    case a3 =>
     have M4:=MI.someB M3 sa sb Y λi u hi eu=>V3 (g3 i u hi eu)
     refine qA (λhe=>Xp (.inl ⟨_,rfl,YY M4 sa (by rw[show B+1+k'=b.size by simpa using he];exact XR _),k3⟩)) λhe=>?_
     have ab:B+1+k'<b.size:=by
      have:¬ B+1+k'=b.size:=by simpa using he
      lia
     have aj:∀v,b[B+1+k']?=some v->rk z<=rk v:=λv ev=>g4 k' v (XR _) (by lia) ev
     have af:x0+2<=ae+(B+1+k'):=by lia
     generalize al.push y++b.extract (B+1) (B+1+k')=a6 at M4 ⊢
     generalize B+1+k'=au at M4 ab aj af ⊢
     revert af;revert aj;revert ab;revert M4;revert au;revert a6
     exact O.get
    case b3=>exact O.get (al.push y) (B+1) M3 ak (λv ev=>g4 0 v (by lia) (by lia) (by simpa using ev)) (by lia)
    intro a6 au M4 ab aj af
    refine via λG L=>?_
    obtain⟨v,ev,mv⟩:=jc (a:=b) (i:=au) ab
    refine L ?_
    clear L
    have M5:=MI.oneA M4 sa Y λu hu=>VA (aj v ev) (J8 sb ev u hu)
    refine XH (qQ Y ?_)
    refine qA (λhe=>Xp (.inl ⟨_,rfl,YZ M5 sa sb hl (by simpa using he),k3⟩)) λhe=>?_
    have ag:ae+1+1<a.size:=by
     have:¬ ae+1+1=a.size:=by simpa using he
     lia
    exact qA (λ_=>Xp (.inr ⟨_,_,_,_,_,_,rfl,M5,ag,ab,by lia,k3⟩)) λ_=>Xp ⟨_,_,_,_,_,_,rfl,M5,ag,ab,by lia,k3⟩
end
def neg (rk:Xc->Int):Xc->Int:=λx=>- rk x
def zcj {a:Array Xc}{j:Nat}(h:j<a.size):a.reverse[j]?=a[a.size-1-j]?:=by
 rw[PP h]
def Hi (rk:Xc->Int)(a b:Array Xc)(r s:Nat)(m:Array Xc):Prop:=MI (neg rk) a.reverse.toList b.reverse.toList (a.size-r) (b.size-s) m.toList
section
variable {rk:Xc->Int}{a b out:Array Xc}{na nb:Nat}
def Z7 (sa:a.toList.Pairwise λx y=>rk x<=rk y):a.reverse.toList.Pairwise λx y=>neg rk x<=neg rk y:=by
 rw[Vd,Ps];exact sa.imp λh=>SZ h
def zcT {i:Nat}{x:Xc}(m:1<=i)(r:i<=a.size)(e:a[i-1]?=some x):a.reverse[a.size-i]?=some x:=by
 rw[zcj (by lia),show a.size-1-(a.size-i)=i-1 by lia];exact e
theorem Hi.oneA {x y:Xc}(M:Hi rk a b na nb out)(sa:a.toList.Pairwise λx y=>rk x<=rk y)(sb:b.toList.Pairwise λx y=>rk x<=rk y)(s:1<=na)(w:na<=a.size)(A:1<=nb)(B:nb<=b.size)(m:a[na-1]?=some x)(r:b[nb-1]?=some y)(h:rk y<=rk x):Hi rk a b (na-1) nb (out.push x):=by
 have:=MI.oneA (rk:=neg rk) M (Z7 sa) (zcT s w m) λv hv=>VA (SZ h) (J8 (Z7 sb) (zcT A B r) v hv);unfold Hi;rw[show a.size-(na-1)=a.size-na+1 by lia];exact this
theorem Hi.oneB {x y:Xc}(M:Hi rk a b na nb out)(sa:a.toList.Pairwise λx y=>rk x<=rk y)(sb:b.toList.Pairwise λx y=>rk x<=rk y)(s:1<=na)(w:na<=a.size)(A:1<=nb)(B:nb<=b.size)(m:a[na-1]?=some x)(r:b[nb-1]?=some y)(h:rk x<=rk y):Hi rk a b na (nb-1) (out.push y):=by
 have:=MI.oneB (rk:=neg rk) M (Z7 sb) (zcT A B r) λv hv=>VA (SZ h) (J8 (Z7 sa) (zcT s w m) v hv);unfold Hi;rw[show b.size-(nb-1)=b.size-nb+1 by lia];exact this
def zos {i j:Nat}(m:i<=j)(r:j<=a.size):(a.extract i j).reverse=a.reverse.extract (a.size-j) (a.size-j+(j-i)):=by
 apply Array.ext_getElem?;intro k;by_cases hk:k<j-i
 .rw[PP (by rw[Uj];lia),SM,SM,Uj];rw[bw (by lia),bw (by rw[UP];lia),zcj (by lia)];congr 1;lia
 .rw[WH (by rw[UP,Uj];lia),WH (by rw[Uj,UP];lia)]
theorem Hi.someA {i:Nat}{y:Xc}(M:Hi rk a b na nb out)(sa:a.toList.Pairwise λx y=>rk x<=rk y)(sb:b.toList.Pairwise λx y=>rk x<=rk y)(s:i<=na)(w:na<=a.size)(A:1<=nb)(B:nb<=b.size)(r:b[nb-1]?=some y)(h:∀j x,i<=j->j<na->a[j]?=some x->rk y<=rk x):Hi rk a b i nb (out++(a.extract i na).reverse):=by
 have:=MI.someA (rk:=neg rk) (k:=na-i) M (Z7 sa) (Z7 sb) (zcT A B r) λj x D m=>SZ (h (na-1-j) x (by lia) (by lia) (by
  rw[zcj (by lia)]at m;rw[<- m];congr 1;lia))
 unfold Hi;rw[zos s w,show a.size-i=a.size-na+(na-i) by lia];exact this
def Hi.someB {i:Nat}{y:Xc}(M:Hi rk a b na nb out)(sa:a.toList.Pairwise λx y=>rk x<=rk y)(sb:b.toList.Pairwise λx y=>rk x<=rk y)(r:i<=nb)(s:nb<=b.size)(w:1<=na)(A:na<=a.size)(m:a[na-1]?=some y)(h:∀j x,i<=j->j<nb->b[j]?=some x->rk y<=rk x):Hi rk a b na i (out++(b.extract i nb).reverse):=(Hi.someA (a:=b) (b:=a) M.swap sb sa r s w A m h).swap
def zmj {m:List Xc}(h:Mg (neg rk) b.reverse.toList a.reverse.toList m):Mg rk a.toList b.toList m.reverse:=by
 obtain⟨p,q⟩:=h;rw[Vd,Vd]at p;refine⟨?_,?_⟩
 .refine(Rz _).trans (p.trans (SG.trans ?_));exact List.Perm.append (Rz _) (Rz _)
 .rw[Ps];refine q.imp λ{x y} h=>?_;have r:- rk x<=- rk y:=h;lia
def zck {i:Nat}(h:i<=a.size):(a.reverse.extract (a.size-i) a.reverse.size).toList.reverse=(a.extract 0 i).toList:=by
 rw[zaE,Vd,ext_toList _ _ _ (W3 _),Pe,Op];have:=List.reverse_take (l:=a.toList) (i:=i);rw[XZ]at this;rw[<- this,Sj]
def Hi.done (M:Hi rk a b 0 nb out)(sb:b.toList.Pairwise λx y=>rk x<=rk y)(h:nb<=b.size):Mg rk a.toList b.toList (a.extract 0 0++b.extract 0 nb++out.reverse).toList:=by
 have s:=YY (rk:=neg rk) (a:=b.reverse) (b:=a.reverse) M.swap (Z7 sb) (by rw[UP];lia);have m:=zmj s;rw[WM,WM,TC,TC,zck h]at m;have r:=zck (a:=a) (i:=0) (W3 _);rw[r]at m;rw[WM,WM,Vd,W9];exact m
def Hi.first (M:Hi rk a b na 1 out)(sa:a.toList.Pairwise λx y=>rk x<=rk y)(sb:b.toList.Pairwise λx y=>rk x<=rk y)(A:0<b.size)(h:na<=a.size)(h0:∀x y,b[0]?=some x->y∈a.toList->rk x<rk y):Mg rk a.toList b.toList (b.extract 0 1++a.extract 0 na++out.reverse).toList:=by
 have w:=YZ (rk:=neg rk) (a:=b.reverse) (b:=a.reverse) M.swap (Z7 sb) (Z7 sa) (λx hx y r=>by
  rw[UP,zcj (by lia),show b.size-1-(b.size-1)=0 by lia]at r;have m:x∈a.toList:=by simpa using hx
  exact SZ (V3 (h0 y x r m))) (by rw[UP];lia)
 have s:=zmj w;rw[WM,WM,TC,TC,zck h,zck (by lia)]at s;rw[WM,WM,Vd,W9];exact s
end
section
variable {prog:Xl}{w:WY}{A:WK}{E:X7->X0->Prop}{s:X0}{rk:Xc->Int}{κ:T3}{a0:Array Xc}
set_option maxHeartbeats 8000000 in
theorem zkR {U:WP}{a b:Array Xc}{Q:Array Xc->WP->Prop}(T:Tells prog w A s κ rk a0)(hk:kindOf U=κ)(ma:∀x∈a.toList,x∈a0.toList)(mb:∀x∈b.toList,x∈a0.toList)(sa:a.toList.Pairwise λx y=>rk x<=rk y)(sb:b.toList.Pairwise λx y=>rk x<=rk y)
  (ha:0<a.size) (hb:0<b.size) (h0:∀x y,b[0]?=some x->y∈a.toList->rk x<rk y) (hl:∀x∈b.toList,∀y,a[a.size-1]?=some y->rk x<rk y)
  (h:∀m D,Kept U D->Mg rk a.toList b.toList m.toList->Q m D):wpS (Xi prog w) A E s (mergeHi' a b) Q U:=by
 refine XH (Ro (US ⟨rfl,?_⟩));obtain⟨z0,am,_⟩:=jc (a:=a) (i:=a.size-1) (by lia);obtain⟨y0,aA,aH⟩:=jc (a:=b) (i:=b.size-1) (by lia);refine XH (qQ am ?_);have M0:Hi rk a b a.size b.size #[]:=by
  unfold Hi;rw[S2,S2];exact⟨by simp,List.Pairwise.nil,(λx hx=>nomatch hx),(λx hx=>nomatch hx)⟩
 have M1:Hi rk a b (a.size-1) b.size #[z0]:=M0.oneA sa sb (by lia) (XR _) (by lia) (XR _) am aA (V3 (hl y0 aH z0 am));dsimp -zeta only;refine qA (λhc=>Xp (h _ _ (Kept.refl _) ?_)) λhc=>?_
 .have e:a.size-1=0:=by simpa using hc
  rw[e]at M1 ⊢;exact M1.done sb (XR _)
 refine qA (λaq=>Xp (h _ _ (Kept.refl _) ?_)) λaq=>?_
 .have e:b.size=1:=by simpa using aq
  rw[e]at M1 ⊢;exact M1.first sa sb hb (by lia) h0
 have aB:1<=a.size-1:=by
  have:¬ a.size-1=0:=by simpa using hc
  lia
 have aC:1<b.size:=by
  have:¬ b.size=1:=by simpa using aq
  lia
 refine XH (Sx ?_);refine XH (Uv (V4 (I:=λx c D=>∃B r m mg,c=(none,B,r,m,mg)/\Hi rk a b B r m/\1<=B/\B<a.size/\1<r/\r<=b.size/\B+r+x+1<=a.size+b.size/\Kept U D)
  (Q:=λc D=>∃J,c.1=some J/\Mg rk a.toList b.toList J.toList/\Kept U D) ?step ?fin ⟨_,_,_,_,rfl,M1,aB,by lia,aC,XR _,by lia,Kept.refl _⟩) ?post)
 case fin =>
  rintro c D ⟨B,r,m,mg,rfl,M,h1,h2,h3,L,h5,k⟩
  lia
 case post =>
  rintro⟨c1,c2⟩ D ⟨J,e,hM,k⟩
  dsimp only at e ⊢
  subst e
  exact Xp (h _ _ k hM)
 case step =>
  intro x0 c ax _ aK hI
  refine via λG hG=>?_
  obtain⟨B,r,m,mg,rfl,M,h1,h2,h3,L,h5,k1⟩:=hI
  refine hG ?_
  clear hG
  have aF:kindOf ax=κ:=k1.kind.trans hk
  dsimp -zeta only
  refine XH (Uv (V4 (I:=λx c D=>D=ax/\∃B r m ac bc,c=(none,B,r,m,ac,bc)/\Hi rk a b B r m/\1<=B/\B<a.size/\1<r/\r<=b.size/\B+r+x0+1+x<=a.size+b.size)
   (Q:=λc D=>D=ax/\((∃J,c.1=some J/\Mg rk a.toList b.toList J.toList)\/∃B r m ac bc,c=(none,B,r,m,ac,bc)/\Hi rk a b B r m/\1<=B/\B<a.size/\1<r/\r<=b.size/\B+r+x0+2<=a.size+b.size)) ?step1 ?fin1 ⟨rfl,(cG ⟨_,(cI rfl M (cU h1 h2 h3 L (by lia)))⟩)⟩) ?post1)
  case fin1 =>
   refine λc D=>c8 λz0=>dP λB r m ac bc z1 M h1 h2=>c9 λh3 L h5=>?_;subst z0 z1
   exact⟨rfl,.inr ⟨B,r,m,ac,bc,rfl,M,h1,h2,h3,L,by lia⟩⟩
  case step1 =>
   intro x c D _ hx hI
   refine via λG hG=>?_
   obtain⟨rfl,B,r,m,ac,bc,rfl,M,h1,h2,h3,L,h5⟩:=hI
   obtain⟨y,ey,my⟩:=jc (a:=b) (i:=r-1) (by lia)
   obtain⟨z,Y,mz⟩:=jc (a:=a) (i:=B-1) (by lia)
   refine hG ?_
   clear hG
   dsimp -zeta only
   refine XH (qQ ey (XH (qQ Y (XH (zme T aF (mb y my) (ma z mz) ?_)))))
   dsimp -zeta only
   refine qA (λav=>?_) λav=>?_
   .have ah:rk y<rk z:=bg av;have M2:=M.oneA sa sb h1 (by lia) (by lia) L Y ey (V3 ah);refine XH (qQ Y ?_);refine qA (λhe=>Xp ⟨rfl,.inl ⟨_,rfl,?_⟩⟩) λhe=>?_
    .have e:B-1=0:=by simpa using he
     rw[e]at M2 ⊢;exact M2.done sb L
    have hn:1<=B-1:=by
     have:¬ B-1=0:=by simpa using he
     lia
    exact qA (λ_=>Xp ⟨rfl,.inr (cG ⟨_,(cI rfl M2 (cU hn (by lia) h3 L (by lia)))⟩)⟩) λ_=>Xp ⟨rfl,(cG ⟨_,(cI rfl M2 (cU hn (by lia) h3 L (by lia)))⟩)⟩
   .have ah:¬ rk y<rk z:=λq=>av (br q);have M2:=M.oneB sa sb h1 (by lia) (by lia) L Y ey (Ow.mp ah);refine XH (qQ ey ?_);refine qA (λhe=>Xp ⟨rfl,.inl ⟨_,rfl,?_⟩⟩) λhe=>?_
    .have e:r-1=1:=by simpa using he
     rw[e]at M2 ⊢;exact M2.first sa sb hb (by lia) h0
    have hn:1<r-1:=by
     have:¬ r-1=1:=by simpa using he
     lia
    exact qA (λ_=>Xp ⟨rfl,.inr ⟨_,_,_,_,_,rfl,M2,h1,h2,hn,by lia,by lia⟩⟩) λ_=>Xp ⟨rfl,(cG ⟨_,(cI rfl M2 (cU h1 h2 hn (by lia) (by lia)))⟩)⟩
  case post1 =>
   intro c D hI
   refine via λG hG=>?_
   rcases hI with ⟨rfl,aD | ⟨B,r,m,ac,bc,rfl,M,h1,h2,h3,L,h5⟩⟩
   all_goals (refine hG ?_;clear hG)
   .obtain⟨J,e,hM⟩:=aD;obtain⟨c1,c2⟩:=c;dsimp only at e ⊢;subst e;exact Xp ⟨J,rfl,hM,k1⟩
   dsimp -zeta only
   refine XH (Ro (US ⟨rfl,?_⟩))
   refine XH (Uv (V4 (I:=λx c ae=>∃B r m mg ac bc,c=(none,B,r,m,mg,ac,bc)/\Hi rk a b B r m/\1<=B/\B<a.size/\1<r/\r<=b.size/\B+r+x0+2<=a.size+b.size/\Kept U ae)
    (Q:=λc ae=>(∃J,c.1=some J/\Mg rk a.toList b.toList J.toList/\Kept U ae)\/∃B r m mg ac bc,c=(none,B,r,m,mg,ac,bc)/\Hi rk a b B r m/\1<=B/\B<a.size/\1<r/\r<=b.size/\B+r+x0+2<=a.size+b.size/\Kept U ae) ?step2 ?fin2 (cG (cG (cI rfl M (cM h1 h2 h3 L h5 k1))))) ?post2)
   case fin2 =>
    rintro c ae hc
    exact .inr hc
   case post2 =>
    rintro c ae (⟨J,e,hM,k2⟩ | ⟨B,r,m,mg,ac,bc,rfl,M,h1,h2,h3,L,h5,k2⟩)
    .obtain⟨c1,c2⟩:=c;dsimp only at e ⊢;subst e;exact Xp ⟨J,rfl,hM,k2⟩
    .dsimp -zeta only;exact XH (zfm k2 λa8 k3=>Xp (cG (cI rfl M (cM h1 h2 h3 L (by lia) k3))))
   case step2 =>
    intro x c ae _ hx hI
    refine via λG hG=>?_
    obtain⟨B,r,m,mg,ac,bc,rfl,M,h1,h2,h3,L,h5,k2⟩:=hI
    obtain⟨y,ey,my⟩:=jc (a:=b) (i:=r-1) (by lia)
    refine hG ?_
    clear hG
    dsimp -zeta only
    refine' cut ?key1 λO=>qA (λaG=>?a1) λaG=>?b1
    case a1 =>
     generalize mg-1=a7
     revert a7
     exact O.get
    case b1=>exact O.get mg
    intro a7
    dsimp -zeta only
    refine XH (zfm k2 λa8 k3=>?_)
    have a4:kindOf a8=κ:=k3.kind.trans hk
    refine XH (qQ ey (XH (zbg T a4 (mb y my) ma (λi j u v _ ar _ eu ev=>zjl sa ar eu ev) (by lia) (by lia) λk aI g1 g2=>?_)))
    dsimp -zeta only
    refine' cut ?key2 λO=>qA (λaE=>?a2) λaE=>?b2
    case a2 =>
     have M2:=M.someA sa sb (i:=k) (by lia) (by lia) (by lia) L ey λj u as au eu=>V3 (g2 j u as au (by simpa using eu))
     refine qA (λhe=>Xp (.inl ⟨_,rfl,(by
      have e:k=0:=by simpa using he
      rw[e]at M2 ⊢;exact M2.done sb L),k3⟩)) λhe=>?_
     have af:1<=k:=by
      have:¬ k=0:=by simpa using he
      lia
     have an:k<a.size:=by lia
     have ao:k+r+x0+2<=a.size+b.size:=by lia
     have aj:∀z,a[k-1]?=some z->rk z<=rk y:=λz Y=>g1 (k-1) z (by lia) (by simpa using Y)
     generalize m++(a.extract k B).reverse=al at M2 ⊢
     generalize B-k=kk
     generalize k=ab at M2 af an ao aj ⊢
     revert aj;revert ao;revert an;revert af;revert M2;revert ab;revert kk;revert al
     exact O.get
    case b2=>exact O.get m (B-k) B M h1 h2 h5 λz Y=>g1 (B-1) z (by lia) (by simpa using Y)
    intro al kk ab M2 af an ao aj
    refine via λG hG=>?_
    obtain⟨z,Y,mz⟩:=jc (a:=a) (i:=ab-1) (by lia)
    refine hG ?_
    clear hG
    have M3:=M2.oneB sa sb af (by lia) (by lia) L Y ey (aj z Y)
    refine XH (qQ ey ?_)
    refine qA (λhe=>Xp (.inl ⟨_,rfl,(by
     have e:r-1=1:=by simpa using he
     rw[e]at M3 ⊢;exact M3.first sa sb hb (by lia) h0),k3⟩)) λhe=>?_
    have hn:1<r-1:=by
     have:¬ r-1=1:=by simpa using he
     lia
    refine XH (qQ Y (XH (zbh T a4 (ma z mz) mb (λi j u v _ ar _ eu ev=>zjl sb ar eu ev) (by lia) (by lia) λk' aJ g3 g4=>?_)))
    dsimp -zeta only
    refine' cut ?key3 λO=>qA (λaz=>?a3) λaz=>?b3
    case a3 =>
     have M4:=M3.someB sa sb (i:=k') (by lia) (by lia) af (by lia) Y λj u as au eu=>g4 j u as au (by simpa using eu)
     refine qA (λhe=>Xp (.inl ⟨_,rfl,(by
      have e:k'=1:=by simpa using he
      rw[e]at M4 ⊢;exact M4.first sa sb hb (by lia) h0),k3⟩)) λhe=>?_
     have aM:1<=k':=by
      refine PN.mpr λhz=>?_;obtain⟨v,ev,mv⟩:=jc (a:=b) (i:=0) hb;have q1:=g4 0 v (by lia) (by lia) (by simpa using ev);have q2:=h0 v z ev mz;lia
     refine qA (λay=>absurd (show k'=0 by simpa using ay) (by lia)) λay=>?_
     have ai:1<k':=by
      have:¬ k'=1:=by simpa using he
      lia
     have aa:k'<=b.size:=by lia
     have ag:ab+k'+x0+2<=a.size+b.size:=by lia
     have ak:∀v,b[k'-1]?=some v->rk v<=rk z:=λv ev=>V3 (g3 (k'-1) v (by lia) (by simpa using ev))
     generalize al.push y++(b.extract k' (r-1)).reverse=a9 at M4 ⊢
     generalize r-1-k'=a6
     generalize k'=aw at M4 ai aa ag ak ⊢
     revert ak;revert ag;revert aa;revert ai;revert M4;revert aw;revert a6;revert a9
     exact O.get
    case b3=>exact O.get (al.push y) (r-1-k') (r-1) M3 hn (by lia) (by lia) λv ev=>V3 (g3 (r-1-1) v (by lia) (by simpa using ev))
    intro a9 a6 aw M4 ai aa ag ak
    obtain⟨v,ev,mv⟩:=jc (a:=b) (i:=aw-1) (by lia)
    have M5:=M4.oneA sa sb af (by lia) (by lia) aa Y ev (ak v ev)
    refine XH (qQ Y ?_)
    refine qA (λhe=>Xp (.inl ⟨_,rfl,(by
     have e:ab-1=0:=by simpa using he
     rw[e]at M5 ⊢;exact M5.done sb aa),k3⟩)) λhe=>?_
    have a5:1<=ab-1:=by
     have:¬ ab-1=0:=by simpa using he
     lia
    exact qA (λ_=>Xp (.inr (cG (cG (cI rfl M5 (cM a5 (by lia) ai aa (by lia) k3)))))) λ_=>Xp (cG (cG (cI rfl M5 (cM a5 (by lia) ai aa (by lia) k3))))
theorem zel (sa:Nat):∀(l:List Xc) (j:Nat) (m:Array Xc),((l.zipIdx j).foldl (λa (p:Xc×Nat)=>a.setIfInBounds (sa+p.2) p.1) m).size=m.size
 | [],_,_=>rfl
 | x::l,j,m=>by
  rw[List.zipIdx_cons,VR,zel sa l (j+1)];exact Tr
def zot (sa:Nat):∀(l:List Xc) (j:Nat) (m:Array Xc) (i:Nat),sa+j+l.length<=m.size->((l.zipIdx j).foldl (λa (p:Xc×Nat)=>a.setIfInBounds (sa+p.2) p.1) m)[i]?=if sa+j<=i/\i<sa+j+l.length then l[i-(sa+j)]? else m[i]?:=by
 intro l;induction l with
 | nil =>
  intro j m i h;rw[bq (by simp only[U7];lia)];rfl
 | cons x l w =>
  intro j m i h;rw[Xn]at h;rw[List.zipIdx_cons,VR,w (j+1) _ i (by rw[Tr];lia),Xn];by_cases r:sa+(j+1)<=i/\i<sa+(j+1)+l.length
  .rw[bw r,bw (by lia),show i-(sa+j)=(i-(sa+(j+1)))+1 by lia,Q1]
  .rw[bq r];by_cases s:i=sa+j
   .subst s;rw[bw (by lia),S2,List.getElem?_cons_zero];show (m.setIfInBounds (sa+j) x)[sa+j]?=some x;rw[Ud,bw rfl,bw (by lia)]
   .rw[bq (by lia)];show (m.setIfInBounds (sa+j) x)[i]?=m[i]?;rw[Ud,bq (λe=>s e.symm)]
def yY {xs:Array Xc}{lo hi:Nat}(u:Up rk xs lo hi){i j:Nat}{x y:Xc}(s:lo<=i)(w:i<=j)(A:j<hi)(m:xs[i]?=some x)(r:xs[j]?=some y):rk x<=rk y:=by
 have:=u i j s w A;unfold Rk at this;rw[m,r]at this;exact this
def zpC {xs:Array Xc}{lo hi:Nat}(hz:hi<=xs.size)(h:∀i j x y,lo<=i->i<=j->j<hi->xs[i]?=some x->xs[j]?=some y->rk x<=rk y):Up rk xs lo hi:=λi j s w A=>by
 obtain⟨x,m,_⟩:=jc (a:=xs) (i:=i) (by lia);obtain⟨y,r,_⟩:=jc (a:=xs) (i:=j) (by lia);unfold Rk;rw[m,r];exact h i j x y s w A m r
def zjm {xs:Array Xc}{i:Nat}{x:Xc}(e:xs[i]?=some x):x∈xs.toList:=X4 (by rw[XA];exact e)
def ext_get {xs:Array Xc}{i j k:Nat}(m:i<=j)(r:j<=xs.size)(hk:k<j-i):(xs.extract i j)[k]?=xs[i+k]?:=by
 rw[SM,bw (by lia)]
def zaF {xs:Array Xc}{i j:Nat}(m:j<=xs.size):(xs.extract i j).size=j-i:=by
 rw[Uj];lia
def zmk {xs:Array Xc}{lo hi i j:Nat}(u:Up rk xs lo hi)(B:lo<=i)(D:j<=hi)(r:j<=xs.size):(xs.extract i j).toList.Pairwise λx y=>rk x<=rk y:=by
 rw[Vs];intro m n hm hn A;rw[XZ,zaF r]at hm hn;have s:=ext_get (xs:=xs) (i:=i) (j:=j) (k:=m) (by lia) r hm;have w:=ext_get (xs:=xs) (i:=i) (j:=j) (k:=n) (by lia) r hn;refine yY u (i:=i+m) (j:=i+n) (by lia) (by lia) (by lia) ?_ ?_
 .rw[<- s,UD];exact getElem?_pos _ _ _
 .rw[<- w,UD];exact getElem?_pos _ _ _
def ext_mem {xs:Array Xc}{i j:Nat}{x:Xc}(m:j<=xs.size)(h:x∈(xs.extract i j).toList):∃k,i<=k/\k<j/\xs[k]?=some x:=by
 obtain⟨k,hk,e⟩:=TD h;rw[XZ,zaF m]at hk;refine⟨i+k,by lia,by lia,?_⟩;rw[<- ext_get (xs:=xs) (i:=i) (j:=j) (by lia) m hk,<- e,UD];exact getElem?_pos _ _ _
def zr6 {st m:WP}{Q:PUnit->WP->Prop}(h:∀r,r=m->Q ⟨⟩ r):wpS (Xi prog w) A E s (set m:StateT WP Sem PUnit) Q st:=by
 unfold wpS;rw[StateT.run_set];exact XO ⟨rfl,h _ rfl⟩
set_option maxHeartbeats 8000000 in
theorem zkS {st:WP}{i sa r p1 nb p2:Nat}{Q:Bool->WP->Prop}(T:Tells prog w A s κ rk a0)(O:Ok κ a0 st)(e1:(WO st)[i]?=some (sa,r,p1))(e2:(WO st)[i+1]?=some (sa+r,nb,p2))(au:1<=r)(av:1<=nb)(hz:sa+r+nb<=a0.size)(u1:Up rk (Xo st) sa (sa+r))(u2:Up rk (Xo st) (sa+r) (sa+r+nb))
  (h:∀U,Ok κ a0 U->WO U=((WO st).setIfInBounds i (sa,r+nb,p1)).eraseIdxIfInBounds (i+1)->Up rk (Xo U) sa (sa+r+nb)->(∀j:Nat,(j<sa\/sa+r+nb<=j)->(Xo U)[j]?=(Xo st)[j]?)->Q true U):wpS (Xi prog w) A E s (mergeAt' i) Q st:=by
 have am:=O.size;have mX:∀x∈(Xo st).toList,x∈a0.toList:=λx hx=>(UN.mp O.perm).mem_iff.mp hx;obtain⟨b0,M,ao⟩:=jc (a:=Xo st) (i:=sa+r) (by lia);refine XH (Sx ?_);rw[e1,e2];dsimp only;refine XH (zr6 λJ ab=>?_);have k1:kindOf J=κ:=by rw[ab];exact O.kind
 have ea:Xo J=Xo st:=by rw[ab]
 have ep:WO J=((WO st).setIfInBounds i (sa,r+nb,p1)).eraseIdxIfInBounds (i+1):=by rw[ab]
 have ef:S5 J=none:=by rw[ab];exact O.good
 have O1:Ok κ a0 J:=⟨by rw[ea];exact O.perm,k1,ef⟩;refine XH (qQ M (XH (zbg T k1 (mX b0 ao) mX (λp q u v h1 h2 h3 eu ev=>yY u1 h1 h2 h3 eu ev) (by show sa+r<=(Xo st).size;lia) (by lia) λk hk g1 g2=>?_)));dsimp only;refine qA (λhc=>Xp (h J O1 ep (zpC (by rw[ea];lia) λp q u v h1 h2 h3 eu ev=>?_) λj _=>by rw[ea])) λhc=>?_
 .have ek:k=r:=by
   have:r-k=0:=by simpa using hc
   lia
  rw[ea]at eu ev;by_cases c1:q<sa+r
  .exact yY u1 h1 h2 c1 eu ev
  .by_cases c2:p<sa+r
   .have q1:=g1 (p-sa) u (by lia) (by rw[show sa+(p-sa)=p by lia];exact eu);have q2:=yY u2 (XR _) (by lia) h3 M ev;lia
   .exact yY u2 (by lia) h2 h3 eu ev
 have as:k<r:=by
  have:¬ r-k=0:=by simpa using hc
  lia
 obtain⟨al,ah,an⟩:=jc (a:=Xo st) (i:=sa+k+(r-k)-1) (by lia);have L:(Xo st)[sa+r-1]?=some al:=by
  rw[<- ah];congr 1;lia
 refine XH (qQ ah (XH (zbh T k1 (mX al an) mX (λp q u v h1 h2 h3 eu ev=>yY u2 h1 h2 h3 eu ev) (by show sa+r+nb<=(Xo st).size;lia) (by lia) λG ar g3 g4=>?_)));dsimp only;have aq:rk b0<rk al:=g2 (r-1) al (by lia) (by lia) (by rw[show sa+(r-1)=sa+r-1 by lia];exact L);have ax:1<=G:=by
  refine PN.mpr λaw=>?_;have:=g4 0 b0 (by lia) (by lia) (by simpa using M);lia
 refine qA (λhc=>absurd (show G=0 by simpa using hc) (by lia)) λ_=>?_;have X3:sa+r<=(Xo st).size:=by lia
 have Y3:sa+r+G<=(Xo st).size:=by lia
 have xs:=zmk (i:=sa+k) (j:=sa+r) u1 (by lia) (XR _) X3;have ys:=zmk (i:=sa+r) (j:=sa+r+G) u2 (XR _) (by lia) Y3;have xm:∀x∈((Xo st).extract (sa+k) (sa+r)).toList,x∈a0.toList:=λx hx=>by
  obtain⟨j,_,_,ej⟩:=ext_mem X3 hx;exact mX x (zjm ej)
 have ym:∀x∈((Xo st).extract (sa+r) (sa+r+G)).toList,x∈a0.toList:=λx hx=>by
  obtain⟨j,_,_,ej⟩:=ext_mem Y3 hx;exact mX x (zjm ej)
 have xz:((Xo st).extract (sa+k) (sa+r)).size=r-k:=by
  rw[zaF X3];lia
 have yz:((Xo st).extract (sa+r) (sa+r+G)).size=G:=by
  rw[zaF Y3];lia
 have first:∀x y,((Xo st).extract (sa+r) (sa+r+G))[0]?=some x->y∈((Xo st).extract (sa+k) (sa+r)).toList->rk x<rk y:=λx y ex my=>by
  rw[ext_get (by lia) Y3 (by lia),P6,M]at ex;cases ex;obtain⟨j,j1,j2,ej⟩:=ext_mem X3 my;exact g2 (j-sa) y (by lia) (by lia) (by rw[show sa+(j-sa)=j by lia];exact ej)
 have ac:∀x∈((Xo st).extract (sa+r) (sa+r+G)).toList,∀y,((Xo st).extract (sa+k) (sa+r))[((Xo st).extract (sa+k) (sa+r)).size-1]?=some y->rk x<rk y:=λx mx y ey=>by
  rw[xz,ext_get (by lia) X3 (by lia),show sa+k+(r-k-1)=sa+r-1 by lia,L]at ey;cases ey;obtain⟨j,j1,j2,ej⟩:=ext_mem Y3 mx;exact g3 (j-(sa+r)) x (by lia) (by rw[show sa+r+(j-(sa+r))=j by lia];exact ej)
 have ae:∀(merged:Array Xc) (D:WP),Kept J D->Mg rk ((Xo st).extract (sa+k) (sa+r)).toList ((Xo st).extract (sa+r) (sa+r+G)).toList merged.toList ->
   Q true (setArr D (merged.toList.zipIdx.foldl (λa (p:Xc×Nat)=>a.setIfInBounds (sa+k+p.2) p.1) (Xo D))):=λmerged D Y hM=>by
  have af:Xo D=Xo st:=Y.arr.trans ea;have ml:merged.toList.length=r-k+G:=by
   rw[hM.1.length_eq,X6,XZ,XZ,xz,yz]
  have aa:∀j:Nat,(merged.toList.zipIdx.foldl (λa (p:Xc×Nat)=>a.setIfInBounds (sa+k+p.2) p.1) (Xo D))[j]?=if sa+k<=j/\j<sa+r+G then merged.toList[j-(sa+k)]? else (Xo st)[j]?:=λj=>by
   have:=zot (sa+k) merged.toList 0 (Xo D) j (by rw[af,ml];lia);rw[this,af,P6,ml];by_cases c:sa+k<=j/\j<sa+r+G
   .rw[bw c,bw (by lia)]
   .rw[bq c,bq (by lia)]
  have zA:=zel (sa+k) merged.toList 0 (Xo D);generalize hN:merged.toList.zipIdx.foldl (λa (p:Xc×Nat)=>a.setIfInBounds (sa+k+p.2) p.1) (Xo D)=N at aa zA ⊢;have zN:N.size=a0.size:=by
   rw[zA,af,am]
  have nl:N.toList=(Xo st).toList.take (sa+k)++merged.toList++(Xo st).toList.drop (sa+r+G):=by
   refine SQ λj=>?_;rw[XA,aa j];by_cases c1:j<sa+k
   .rw[bq (by lia),W9,VP (by rw[XM,XZ];lia),List.getElem?_take,bw c1,XA]
   .rw[W9,Vv (by rw[XM,XZ];lia),XM,XZ,show min (sa+k) (Xo st).size=sa+k by lia];by_cases c2:j<sa+r+G
    .rw[bw ⟨by lia,c2⟩,VP (by rw[ml];lia)]
    .rw[bq (by lia),Vv (by rw[ml];lia),Uk,XA,ml];congr 1;lia
  have ol:(Xo st).toList=(Xo st).toList.take (sa+k)++(((Xo st).extract (sa+k) (sa+r)).toList++((Xo st).extract (sa+r) (sa+r+G)).toList)++(Xo st).toList.drop (sa+r+G):=by
   rw[ext_toList _ _ _ (by lia),ext_toList _ _ _ (by lia)];have d1:(Xo st).toList.drop (sa+r)=((Xo st).toList.drop (sa+k)).drop (r-k):=by
    rw[Pa];congr 1;lia
   have d2:(Xo st).toList.drop (sa+r+G)=((Xo st).toList.drop (sa+r)).drop G:=by
    rw[Pa]
   rw[d2,show sa+r+G-(sa+r)=G by lia,W9,W9,WU,d1,show sa+r-(sa+k)=r-k by lia,WU,WU]
  refine h _ ⟨?_,Y.kind.trans k1,Y.bad.trans ef⟩ (Y.pend.trans ep) (zpC (by show _<=N.size;lia) λp q u v h1 h2 h3 eu ev=>?_) λj hj=>?_
  .refine Array.Perm.trans ?_ O.perm;rw[UN];show N.toList.Perm _;have pm:=List.Perm.append_right ((Xo st).toList.drop (sa+r+G)) (SH ((Xo st).toList.take (sa+k)) hM.1);rw[<- ol,<- nl]at pm;exact pm
  .have I:N[p]?=some u:=eu;have B:N[q]?=some v:=ev;rw[aa]at I B;have aj:∀{j:Nat} {x:Xc},sa+k<=j->j<sa+r+G->merged.toList[j-(sa+k)]?=some x->(∃m,sa+k<=m/\m<sa+r/\(Xo st)[m]?=some x)\/∃m,sa+r<=m/\m<sa+r+G/\(Xo st)[m]?=some x:=λ_ _ e=>by
    rcases XU.mp (hM.1.mem_iff.mp (X4 e)) with z | z
    .exact .inl (ext_mem X3 z)
    .exact .inr (ext_mem Y3 z)
   by_cases c1:p<sa+k
   .rw[bq (by lia)]at I;by_cases c2:q<sa+k
    .rw[bq (by lia)]at B;exact yY u1 h1 h2 (by lia) I B
    .have ai:∀{m:Nat} {x:Xc},sa+r<=m->m<sa+r+nb->(Xo st)[m]?=some x->rk u<=rk x:=λm1 m2 em=>by
      have q1:=g1 (p-sa) u (by lia) (by rw[show sa+(p-sa)=p by lia];exact I);exact VA q1 (yY u2 (XR _) m1 m2 M em)
     by_cases c3:q<sa+r+G
     .rw[bw ⟨by lia,c3⟩]at B;rcases aj (by lia) c3 B with ⟨m,m1,m2,em⟩ | ⟨m,m1,m2,em⟩
      .exact yY u1 h1 (by lia) m2 I em
      .exact ai m1 (by lia) em
     .rw[bq (by lia)]at B;exact ai (by lia) h3 B
   .by_cases c4:p<sa+r+G
    .rw[bw ⟨by lia,c4⟩]at I;by_cases c3:q<sa+r+G
     .rw[bw ⟨by lia,c3⟩]at B;by_cases ak:p=q
      .subst ak;rw[I]at B;cases B;exact UY _
      .have sp:=hM.2;rw[Vs]at sp;obtain⟨a1,a2⟩:=XV.mp I;obtain⟨b1,b2⟩:=XV.mp B;have:=sp _ _ a1 b1 (by lia);rw[a2,b2]at this;exact this
     .rw[bq (by lia)]at B;have q4:=g4 (q-(sa+r)) v (by lia) (by lia) (by rw[show sa+r+(q-(sa+r))=q by lia];exact B);rcases aj (by lia) c4 I with ⟨m,m1,m2,em⟩ | ⟨m,m1,m2,em⟩
      .exact VA (yY u1 (by lia) (by lia) (by lia) em L) q4
      .exact yY u2 m1 (by lia) h3 em B
    .rw[bq (by lia)]at I B;exact yY u2 (by lia) h2 h3 I B
  .show N[j]?=_;rw[aa,bq (by lia)]
 refine qA (λ_=>?_) λ_=>?_
 .refine XH (zkQ T k1 xm ym xs ys (Tb (show 0<r-k by lia) xz.symm) (Tb (show 0<G by lia) yz.symm) (λx y ex my=>V3 (first x y ex my)) ac λag D Y hM=>?_);refine XH (Ti (XH (Sx ?_)));rw[show (S5 D).isNone=true by rw[Y.bad,ef];rfl];exact Xp (ae ag D Y hM)
 .refine XH (zkR T k1 xm ym xs ys (Tb (show 0<r-k by lia) xz.symm) (Tb (show 0<G by lia) yz.symm) first ac λag D Y hM=>?_);refine XH (Ti (XH (Sx ?_)));rw[show (S5 D).isNone=true by rw[Y.bad,ef];rfl];exact Xp (ae ag D Y hM)
def QS:List (Nat×AA)->Nat->Nat->Prop
 | [],s,e=>s=e
 | r::l,s,e=>r.1=s/\1<=r.2.1/\QS l (s+r.2.1) e
theorem yM:∀{E B:List (Nat×AA)} {s e:Nat},QS (E++B) s e ↔ ∃m,QS E s m/\QS B m e
 | [],B,s,e=>⟨λh=>⟨s,rfl,h⟩,λ⟨m,w,A⟩=>by
  have e:s=m:=w;subst e;exact A⟩
 | r::E,B,s,e=>by
  constructor
  .rintro⟨w,A,h3⟩;obtain⟨m,D,G⟩:=yM.mp h3;exact⟨m,⟨w,A,D⟩,G⟩
  .rintro⟨m,⟨w,A,h3⟩,D⟩;exact⟨w,A,yM.mpr ⟨m,h3,D⟩⟩
theorem Y0:∀{l:List (Nat×AA)} {s e:Nat},QS l s e->s<=e/\l.length+s<=e/\∀r∈l,s<=r.1/\r.1+r.2.1<=e
 | [],s,e,h=>by
  have w:s=e:=h;subst w;exact⟨XR _,by simp,λr B=>nomatch B⟩
 | r::l,s,e,⟨G,I,A⟩=>by
  obtain⟨D,E,m⟩:=Y0 A;refine⟨by lia,by rw[Xn];lia,λq hq=>?_⟩;rcases XQ.mp hq with rfl | hq
  .lia
  .have:=m q hq;lia
structure PI (rk:Xc->Int)(κ:T3)(a0:Array Xc)(lo:Nat)(st:WP):Prop where
 ok:Ok κ a0 st
 til:QS (WO st).toList 0 lo
 up:∀r∈(WO st).toList,Up rk (Xo st) r.1 (r.1+r.2.1)
def zcl {xs ys:Array Xc}{lo hi:Nat}(u:Up rk xs lo hi)(h:∀j:Nat,lo<=j->j<hi->ys[j]?=xs[j]?):Up rk ys lo hi:=λi j m s r=>by
 rw[JE (h i m (by lia)),JE (h j (by lia) r)];exact u i j m s r
def zqH {p:List (Nat×AA)}{i:Nat}(h:i+1<p.length):∃m r s w,p=m++r::s::w/\m.length=i/\p[i]?=some r/\p[i+1]?=some s:=by
 refine⟨p.take i,p[i],p[i+1],p.drop (i+2),?_,by rw[XM];lia,XX (by lia),XX h⟩;rw[<- Ww h,<- Ww (by lia),WU]
def zgC {st:WP}{lo i:Nat}{Q:Bool->WP->Prop}(T:Tells prog w A s κ rk a0)(P:PI rk κ a0 lo st)(hi:i+1<(WO st).size)(ab:lo<=a0.size)
  (h:∀B,PI rk κ a0 lo B->(WO B).size+1=(WO st).size->(∀j:Nat,lo<=j->(Xo B)[j]?=(Xo st)[j]?)->Q true B):wpS (Xi prog w) A E s (mergeAt' i) Q st:=by
 obtain⟨Y,⟨sa,G,p1⟩,⟨sb,I,p2⟩,l2,L,el,e1,e2⟩:=zqH (p:=(WO st).toList) (i:=i) (by rw[XZ];exact hi);have M:=P.til;rw[L]at M;obtain⟨m,t1,⟨a1,a2,a3,a4,O⟩⟩:=yM.mp M;dsimp only at a1 a2 a3 a4 O;subst a1;subst a3;rw[XA]at e1 e2;have u1:=P.up (sa,G,p1) (by rw[L];simp);have u2:=P.up (sa+G,I,p2) (by rw[L];simp);dsimp only at u1 u2;obtain⟨b1,b2,b3⟩:=Y0 O;obtain⟨c1,c2,c3⟩:=Y0 t1;refine zkS T P.ok e1 e2 a2 a4 (by lia) u1 u2 λB O' U aa D=>?_;have J:(WO B).toList=Y++(sa,G+I,p1)::l2:=by
  rw[U,Array.toList_eraseIdxIfInBounds,RL,L,<- el];rw[List.set_append_right _ _ (XR _),S2,RO,List.eraseIdx_append_of_length_le (by lia),show Y.length+1-Y.length=1 by lia];rfl
 refine h B ⟨O',?_,λr hr=>?_⟩ ?_ λj hj=>D j (by lia)
 .rw[J];exact yM.mpr ⟨sa,t1,rfl,by show 1<=G+I;lia,by rw[show sa+(G+I)=sa+G+I by lia];exact O⟩
 .rw[J]at hr;rcases XU.mp hr with hr | hr
  .have:=c3 r hr;exact zcl (P.up r (by rw[L];exact W4 _ hr)) λj h1 h2=>D j (by lia)
  .rcases XQ.mp hr with rfl | hr
   .show Up rk (Xo B) sa (sa+(G+I));rw[show sa+(G+I)=sa+G+I by lia];exact aa
   .have:=b3 r hr;exact zcl (P.up r (by rw[L];simp[hr])) λj h1 h2=>D j (by lia)
 .rw[<- XZ,J,<- XZ,L];simp only[X6,Xn];lia
def PI.step {lo m:Nat}{st s:WP}(P:PI rk κ a0 lo st)(S:Step κ a0 m st s)(h:lo<=m):PI rk κ a0 lo s:=by
 refine⟨S.ok,by rw[S.pend];exact P.til,λr w=>?_⟩;rw[S.pend]at w;have:=(Y0 P.til).2.2 r w;exact zcl (P.up r w) λj A B=>S.low j (by lia)
theorem zbM (B:Nat):∀{l:List (Nat×AA)} {k s e:Nat},QS l s e->QS (l.modify k λr=>(r.1,r.2.1,B)) s e
 | [],k,s,e,h=>by
  cases k<;>exact h
 | r::l,0,s,e,⟨m,w,A⟩=>⟨m,w,A⟩
 | r::l,k+1,s,e,⟨m,w,A⟩=>⟨m,w,zbM B A⟩
theorem zem {w:Nat}:∀{l:List (Nat×AA)} {k:Nat} {r:Nat×AA},r∈l.modify k (λr=>(r.1,r.2.1,w))->∃q∈l,q.1=r.1/\q.2.1=r.2.1
 | [],k,r,h=>by
  cases k<;>cases h
 | q::l,0,r,h=>by
  rcases XQ.mp h with rfl | h
  .exact⟨q,X5,rfl,rfl⟩
  .exact⟨r,Y1 _ h,rfl,rfl⟩
 | q::l,k+1,r,h=>by
  rcases XQ.mp h with rfl | h
  .exact⟨r,X5,rfl,rfl⟩
  .obtain⟨A,m,s⟩:=zem h;exact⟨A,Y1 _ m,s⟩
def ite_le (c:Prop) [Decidable c](n:Nat):(if c then n-1 else n)<=n:=by
 split<;>lia
def zqI {st:WP}{Q:Unit->WP->Prop}(T:Tells prog w A s κ rk a0)(O:Ok κ a0 st)(hp:WO st=#[])(h:∀G,Ok κ a0 G->Up rk (Xo G) 0 a0.size->Q () G):wpS (Xi prog w) A E s sortRuns' Q st:=by
 rw[sortRuns'_eq];refine XH (Sx ?_);dsimp only;rw[O.size];generalize minRun' a0.size a0.size 0=mr;refine XH (Uv (V4 (I:=λx c G=>∃lo,c=(none,lo)/\PI rk κ a0 lo G/\lo<=a0.size/\x<=lo)
  (Q:=λc G=>c=(none,a0.size)/\PI rk κ a0 a0.size G) ?step ?fin ⟨0,rfl,⟨O,by rw[hp];rfl,λr hr=>by rw[hp]at hr;cases hr⟩,W3 _,XR _⟩) ?post)
 case fin =>
  rintro c G ⟨lo,rfl,P,h1,h2⟩
  obtain rfl:lo=a0.size:=by lia
  exact⟨rfl,P⟩
 case step =>
  refine λx c ae _ hx=>dG λlo=>dz λz0 P h1 h2=>?_;subst z0
  dsimp only
  refine qA (λab=>?_) λab=>?_
  .obtain rfl:lo=a0.size:=by lia
   exact Xp ⟨rfl,P⟩
  refine XH (zr4 T P.ok (by lia) (by lia) λm D S m1 m2 hu=>?_)
  dsimp only
  have L:=P.step S (XR _)
  refine qA (λac=>?_) λac=>?_
  refine XH (Ro (US ⟨rfl,?_⟩))
  refine XH (zr5 T S.ok (by lia) (by lia) hu λU S3 M=>?_)
  rw[bq (by decide)]
  have P3:=L.step S3 (XR _)
  have n1:1<=min (a0.size-lo) mr:=by lia
  have n2:lo+min (a0.size-lo) mr<=a0.size:=by lia
  clear L S3
  generalize min (a0.size-lo) mr=n at M n1 n2 ⊢
  rotate_left
  have P3:=L
  have M:=hu
  have n1:=m1
  have n2:lo+m<=a0.size:=by lia
  clear L
  generalize m=n at M n1 n2 ⊢
  generalize D=U at P3 M ⊢
  rotate_left
  all_goals
   refine XH (Sx ?_)
   have fin:∀B,PI rk κ a0 lo B->Up rk (Xo B) lo (lo+n)->PI rk κ a0 (lo+n) (setPending B ((WO B).push (lo,n,0))):=λB J u4=>by
    refine⟨⟨J.ok.perm,J.ok.kind,J.ok.good⟩,?_,λr hr=>?_⟩
    .show QS ((WO B).push (lo,n,0)).toList 0 (lo+n);rw[SR];exact yM.mpr ⟨lo,J.til,rfl,n1,rfl⟩
    .have hr':r∈((WO B).push (lo,n,0)).toList:=hr;rw[SR]at hr';rcases XU.mp hr' with hr' | hr'
     .exact J.up r hr'
     .have er:r=(lo,n,0):=by simpa using hr'
      subst er;exact u4
   cases ah:(WO U).back? with
   | none =>
    dsimp only;exact XH (Ti (Xp ⟨lo+n,rfl,fin U P3 M,n2,by lia⟩))
   | some r =>
    obtain⟨s1,k1,q1⟩:=r;dsimp only;generalize power' a0.size (2*s1+k1) (2*s1+k1+k1+n) a0.size=pw;refine XH (Uv (V4 (I:=λ_ c B=>c=(none,())/\PI rk κ a0 lo B/\Up rk (Xo B) lo (lo+n)) (Q:=λc B=>c=(none,())/\PI rk κ a0 lo B/\Up rk (Xo B) lo (lo+n)) ?_ (λ_ _ hh=>hh) ⟨rfl,P3,M⟩) ?_)
    .rintro y c B _ _ ⟨rfl,J,u4⟩;refine XH (Sx ?_);by_cases hz:(WO B).size>1
     .rw[bw hz,getElem?_pos (WO B) ((WO B).size-2) (by lia)];generalize (WO B)[(WO B).size-2]'(by lia)=r2;obtain⟨ai,aj,ak⟩:=r2;dsimp only;refine qA (λ_=>Xp ⟨rfl,J,u4⟩) λ_=>?_;refine XH (zgC T J (by lia) h1 λal P5 _ ag=>?_);rw[bq (by decide)];exact Xp ⟨rfl,P5,zcl u4 λj j1 _=>ag j j1⟩
     .rw[bq hz];exact Xp ⟨rfl,J,u4⟩
    .rintro c B ⟨rfl,J,u4⟩;dsimp only;refine XH (Ti (XH (Ti (Xp ⟨lo+n,rfl,fin _ ⟨⟨J.ok.perm,J.ok.kind,J.ok.good⟩,?_,λr hr=>?_⟩ u4,n2,by lia⟩))))
     .show QS ((WO B).modify ((WO B).size-1) λr=>(r.1,r.2.1,pw)).toList 0 lo;rw[ON];exact zbM pw J.til
     .have hr':r∈((WO B).modify ((WO B).size-1) λr=>(r.1,r.2.1,pw)).toList:=hr;rw[ON]at hr';obtain⟨q,hq,e1,e2⟩:=zem hr';have:=J.up q hq;rw[e1,e2]at this;exact this
 case post =>
  rintro c ae ⟨rfl,P⟩
  dsimp only
  have aa:=(Y0 P.til).2.1
  rw[XZ]at aa
  refine XH (Uv (V4 (I:=λx c D=>c=(none,())/\PI rk κ a0 a0.size D/\((WO D).size+x<=a0.size\/(WO D).size<=1)) (Q:=λc D=>c=(none,())/\PI rk κ a0 a0.size D/\(WO D).size<=1) ?step2 ?fin2 ⟨rfl,P,.inl (by lia)⟩) ?post2)
  case fin2 =>
   rintro c D ⟨rfl,L,hz⟩
   exact⟨rfl,L,by lia⟩
  case step2 =>
   rintro x c D _ hx ⟨rfl,L,hz⟩
   refine XH (Sx ?_)
   refine qA (λh1=>Xp ⟨rfl,L,h1⟩) λh1=>?_
   refine XH (zgC T L ?_ (XR _) λU P3 z3 _=>?_)
   .exact XJ (Sk (ite_le _ _) 1) (show (WO D).size-2+1<(WO D).size by lia)
   .rw[bq (by decide)];exact Xp ⟨rfl,P3,by lia⟩
  case post2 =>
   rintro c D ⟨rfl,L,hz⟩
   dsimp only
   refine Xp (h D L.ok ?_)
   have Y:=L.til
   have up:=L.up
   have zl:(WO D).toList.length<=1:=by rw[XZ];exact hz
   cases hl:(WO D).toList with
   | nil =>
    rw[hl]at Y;have e:0=a0.size:=Y;exact λi j _ _ h3=>absurd h3 (by lia)
   | cons r l =>
    rw[hl]at Y zl up;obtain rfl:l=[]:=Wy.mp (by rw[Xn]at zl;lia);obtain⟨t1,t2,t3⟩:=Y;have af:0+r.2.1=a0.size:=t3;have u:=up r X5;rw[t1,af]at u;exact u
end
structure Wk {K:Type}(lt:K->K->Bool):Prop where
 tot:∀x y,lt x y=true->lt y x=false
 tr:∀x y z,lt y x=false->lt z y=false->lt z x=false
def rkK {K:Type}(lt:K->K->Bool)(ks:List K)(k:K):Int:=((ks.countP λq=>lt q k:Nat):Int)
theorem count_le {K:Type}{p q:K->Bool}:∀{ks:List K},(∀x∈ks,p x=true->q x=true)->ks.countP p<=ks.countP q
 | [],_=>XR _
 | x::ks,h=>by
  have m:=count_le (ks:=ks) λy hy=>h y (Y1 _ hy);rw[Wi,Wi];have hx:=h x X5;by_cases c:p x=true
  .rw[bw c,bw (hx c)];lia
  .rw[bq c];lia
def zml {K:Type}{p q:K->Bool}{ks:List K}(h:∀x∈ks,p x=true->q x=true)(hq:∃x∈ks,p x=false/\q x=true):ks.countP p<ks.countP q:=by
 obtain⟨y,hy,r,s⟩:=hq;induction ks with
 | nil=>cases hy
 | cons x ks m =>
  rw[Wi,Wi];have hx:=h x X5;rcases XQ.mp hy with rfl | hy
  .have m:=count_le (ks:=ks) λy hy=>h y (Y1 _ hy);rw[r,s,bq XT,bw rfl];lia
  .have m:=m (λy hy=>h y (Y1 _ hy)) hy;by_cases c:p x=true
   .rw[bw c,bw (hx c)];lia
   .rw[bq c];lia
def Wk.rank {K:Type}{lt:K->K->Bool}(W:Wk lt){ks:List K}{x y:K}(hx:x∈ks):lt x y=decide (rkK lt ks x<rkK lt ks y):=by
 unfold rkK;cases h:lt x y with
 | true =>
  refine(br ?_).symm;have:=zml (ks:=ks) (p:=λq=>lt q x) (q:=λq=>lt q y) (λq _ hq=>?_) ⟨x,hx,?_,h⟩
  .lia
  .cases hc:lt q y with
   | true=>rfl
   | false =>
    have:=W.tr x y q (W.tot x y h) hc;have m:lt q x=true:=hq;rw[this]at m;cases m
  .cases hc:lt x x with
   | false=>rfl
   | true=>exact hc.symm.trans (W.tot x x hc)
 | false =>
  refine(bf ?_).symm;have:=count_le (ks:=ks) (p:=λq=>lt q y) (q:=λq=>lt q x) λq _ hq=>by
   cases hc:lt q x with
   | true=>rfl
   | false =>
    have:=W.tr y x q h hc;have m:lt q y=true:=hq;rw[this]at m;cases m
  lia
section
variable {prog:Xl}{w:WY}{A:WK}{E:X7->X0->Prop}{s:X0}
def zen {a:Addr}{vs:List X7}{n:Nat}{P:PySem.Fin->X0->Prop}(ho:s.heap.get? a=some (Ur "list" vs.toArray n))(hz:vs.length<=Xv)(r:X7->Int)
  (hk:2<=vs.length->∀s':X0,(∀b o,b≠a->s.heap.get? b=some o->s'.heap.get? b=some o)->Xg (Xi prog w) A (keyKind' vs.toArray) (fun κ s2=>s2=s'/\Tells prog w A s' κ (λp=>r p.1) (OU vs)) (λ_ _=>False) s')
  (h:∀(ws:List X7) (h':Heap) (c:Nat),ws.Perm vs->ws.Pairwise (λx y=>r x<=r y)->(∀b o,b≠a->s.heap.get? b=some o->h'.get? b=some o)->h'.get? a=some (Ur "list" ws.toArray c)->P (.done (.ret .none)) { s with heap:=h' }) :
  Xg (Xi prog w) A (UM.«list.sort» ⟨[.ref a],[]⟩) P E s:=by
 have af:a<s.heap.objs.size:=Xz ho;have ab:=get?_update_seq ho λ_=>(#[]:Array X7);generalize hX:s.heap.update a (Vm λ_=>(#[]:Array X7))=M at ab;have zX:M.objs.size=s.heap.objs.size:=by rw[<- hX,Heap.size_update]
 have kX:∀b o,b≠a->s.heap.get? b=some o->M.get? b=some o:=λb o L e=>by
  rw[<- hX,Sb _ _ _ _ L];exact e
 obtain⟨e1,hu⟩:∃e1,M.get? a=some (Ur "list" #[] e1):=⟨_,ab⟩;generalize hY:(M.push (Ur "tuple" vs.toArray 0)).push (Ur "list" #[] 0)=Y;have I:Y.get? a=some (Ur "list" #[] e1):=by
  rw[<- hY];exact XS _ (XS _ hu)
 have kY:∀b o,b≠a->s.heap.get? b=some o->Y.get? b=some o:=λb o L e=>by
  rw[<- hY];exact XS _ (XS _ (kX b o L e))
 have D:∀(st:WP),(((Xo st).map (·.2)).toList.Perm vs)->(((Xo st).map (·.2)).toList.Pairwise λx y=>r x<=r y)->S5 st=none ->
   Xg (Xi prog w) A (do
    let B:=(<- seqEpoch a) != e1
    Builtin.List.listUpdate (.ref a) λ_=>(Xo st).map (·.2)
    if let some e:=S5 st then rule "list.sort.comparison-raised";throw e
    if B then rule "list.sort.modified";raiseError "ValueError" "list modified during sort"
    ret .none) P E { s with heap:=Y }:=by
  intro st J hs hf;generalize ew:(Xo st).map (·.2)=wsA at J hs;rw[hf];have aa:wsA.size=vs.length:=by rw[<- XZ,J.length_eq]
  have ae:=get?_update_seq I λ_=>wsA;refine X9 (seqEpoch_at I rfl (X9 (listUpdate_at I rfl ?_ (W3 _) (by rw[aa];lia))));simp only[bne_self_eq_false,Wu,if_false];refine XO (h wsA.toList _ _ J hs (λb o L e=>?_) ae);rw[Sb _ _ _ _ L];exact kY b o L e
 rw[list_sort_plain];refine X9 (listItems_at ho rfl (X9 (listUpdate_at ho rfl ?_ (by rw[Xy];exact hz) (W3 _))));rw[hX];refine X9 (seqEpoch_at hu rfl (X9 (wpAny_newTuple (X9 (OF ?_ (W3 _))) hz)));show Xg (Xi prog w) A _ P E { s with heap:=(M.push (Ur "tuple" vs.toArray 0)).push (Ur "list" #[] 0) };rw[hY];refine V7 ?_;dsimp only;have e2:((OU vs).map (·.2)).toList=vs:=by
  rw[UU,Ut];exact List.map_snd_zip (XR _)
 by_cases G:vs.toArray.size<2
 .have U:vs.length<2:=by rw[Xy]at G;exact G
  rw[bw G,bw G];refine X9 (XO ?_);rw[StateT.run_pure];refine X9 (XO ?_);refine D (SortSt.mk' general' (OU vs) #[] 7 none) (by show ((OU vs).map (·.2)).toList.Perm vs;rw[e2]) (by
   show ((OU vs).map (·.2)).toList.Pairwise _;rw[e2,Vs];intro i j hi hj ac;lia) rfl
 .have U:2<=vs.length:=by rw[Xy]at G;lia
  rw[bq G,bq G];refine X9 (Vo (hk U { s with heap:=Y } kY) (fun κ s2 ⟨e3,T⟩=>?_) λ_ _ x=>x.elim);subst e3;have run:=zqI (E:=E) (st:=SortSt.mk' κ (OU vs) #[] 7 none) (Q:=λ_ m=>(((Xo m).map (·.2)).toList.Perm vs)/\(((Xo m).map (·.2)).toList.Pairwise λx y=>r x<=r y)/\S5 m=none) T ⟨Array.Perm.refl _,rfl,rfl⟩ rfl λm O hu=>?_
  .unfold wpS at run;refine X9 (Vo run ?_ λ_ _ z=>z);rintro⟨⟨⟩,m⟩ s' ⟨rfl,J,hs,hf⟩;exact D m J hs hf
  .have pm:=UN.mp O.perm;have same:∀p∈(Xo m).toList,p.1=p.2:=λp J=>by
    have:=pm.mem_iff.mp J;rw[Ut]at this;exact(R8 this).1
   refine⟨?_,?_,O.good⟩
   .have:=pm.map (·.2);rw[UU];rw[Ut,List.map_snd_zip (XR _)]at this;exact this
   .rw[UU,V9,Vs];intro i j hi hj ac;have zs:=O.size;rw[XZ]at hi hj;have u:=yY hu (i:=i) (j:=j) (W3 _) (by lia) (by lia) (getElem?_pos _ i hi) (getElem?_pos _ j hj);have s1:=same (Xo m)[i] (by simp);have s2:=same (Xo m)[j] (by simp);rw[UD,UD,<- s1,<- s2];exact u
def zkT {l:Addr}{vs:List X7}{Q:X7->X0->Prop}(hl:s.heap.IsList l vs.toArray)(hz:vs.length<=Xv)(r:X7->Int)
  (hk:2<=vs.length->∀s':X0,(∀b o,s.heap.get? b=some o->s'.heap.get? b=some o)->Xg (Xi prog w) A.in1.in1 (keyKind' vs.toArray) (fun κ s2=>s2=s'/\Tells prog w A.in1.in1 s' κ (λp=>r p.1) (OU vs)) (λ_ _=>False) s')
  (h:∀(G:List X7) (h':Heap) (c:Nat),G.Perm vs->G.Pairwise (λx y=>r x<=r y)->(∀b o,s.heap.get? b=some o->h'.get? b=some o)->h'.get? (s.heap.objs.size+1)=some (Ur "list" G.toArray c)->Q (.ref (s.heap.objs.size+1)) { s with heap:=h' }) :
  Xg (Xi prog w) A (call (.builtin "sorted") [.ref l]) Q E s:=by
 generalize I:(s.heap.push (Ur "list" #[] 0)).update s.heap.objs.size (Vm (·++vs.toArray))=B;have M:B.objs.size=s.heap.objs.size+1:=by rw[<- I,Heap.size_update,UR]
 have Y:∀b o,s.heap.get? b=some o->B.get? b=some o:=λb o e=>by
  have lt:=Xz e;rw[<- I,Sb _ _ _ _ (Xf lt)];exact XS _ e
 apply RI kind_sorted plain_sorted entry_sorted (args_sorted1 _);unfold UM.«sorted»;refine X9 (m:=checkCount "sorted" 1 1 _) (XO (X9 (collect_list hl ?_ hz)));rw[I];refine X9 (OF ?_ hz);show Xg _ _ _ _ _ { s with heap:=B.push (Ur "list" vs.toArray 0) };have D:(B.push (Ur "list" vs.toArray 0)).get? (s.heap.objs.size+1)=some (Ur "list" vs.toArray 0):=by
  rw[<- M];exact W1 _ rfl
 have J:∀b o,s.heap.get? b=some o->(B.push (Ur "list" vs.toArray 0)).get? b=some o:=λb o e=>XS _ (Y b o e);have L:∀b o,s.heap.get? b=some o->b≠s.heap.objs.size+1:=λb o e=>Xf (Wf (Xz e));rw[M];refine X9 (V7 (UW slot_list_sort ⟨_,D,rfl⟩ entry_list_sort (zen (s:={ s with heap:=B.push (Ur "list" vs.toArray 0) }) D hz r (λc s' k=>hk c s' λb o e=>k b o (L b o e) (J b o e)) ?_) (args_list_sort _)));intro G h' c O U kk ha;exact⟨_,rfl,XO ⟨_,rfl,h G h' c O U (λb o e=>kk b o (L b o e) (J b o e)) ha⟩⟩
end
def zcU {α m:Type}{R:α->m->Prop}{xs:List α}{ys:List m}(hp:XG R xs ys):(∀p∈xs.zip ys,R p.1 p.2)/\(xs.zip ys).map (·.1)=xs/\(xs.zip ys).map (·.2)=ys:=by
 induction hp with
 | nil=>exact⟨(λp h=>nomatch h),rfl,rfl⟩
 | cons h _ r =>
  obtain⟨a,b,c⟩:=r;refine⟨λp hp=>?_,by rw[List.zip_cons_cons,Xu,b],by rw[List.zip_cons_cons,Xu,c]⟩;rcases XQ.mp hp with rfl | hp
  .exact h
  .exact a p hp
theorem zeo {α m:Type}{R:α->m->Prop}:∀{zs:List (α × m)},(∀p∈zs,R p.1 p.2)->XG R (zs.map (·.1)) (zs.map (·.2))
 | [],_=>.nil
 | p::zs,h=>.cons (h p X5) (zeo λq hq=>h q (Y1 _ hq))
theorem JF {α m:Type}{R:α->m->Prop}:∀{xs:List α} {ys:List m},XG R xs ys->∀x∈xs,∃y∈ys,R x y
 | _,_,.nil,x,h=>nomatch h
 | _,_,.cons h t,x,hx=>by
  rcases XQ.mp hx with rfl | hx
  .exact⟨_,X5,h⟩
  .obtain⟨y,r,s⟩:=JF t x hx;exact⟨y,Y1 _ r,s⟩
def Tri {K:Type}(m:V->K->Prop)(RH:X7->K->Prop)(t:V×X7×K):Prop:=RelV t.1 t.2.1/\m t.1 t.2.2/\RH t.2.1 t.2.2
def zqJ {K:Type}{B:V->K->Prop}{RH:X7->K->Prop}{w:AE}{m:List X7}{ks:List K}(A:Vals w m):XG B w ks->XG RH m ks->∃T:List (V×X7×K),(∀t∈T,Tri B RH t)/\T.map (·.1)=w/\T.map (·.2.1)=m/\T.map (·.2.2)=ks:=by
 induction A generalizing ks with
 | nil =>
  intro r s;cases r;exact⟨[],(λt h=>nomatch h),rfl,rfl,rfl⟩
 | @cons u i w m G O E =>
  intro r s;cases r with
  | @cons _ k _ ks I L =>
   cases s with
   | cons J M =>
    obtain⟨T,A,r,s,D⟩:=E L M;refine⟨(u,i,k)::T,λt ht=>?_,by rw[Xu,r],by rw[Xu,s],by rw[Xu,D]⟩;rcases XQ.mp ht with rfl | ht
    .exact⟨G,I,J⟩
    .exact A t ht
theorem zgD {K:Type}{m:V->K->Prop}{RH:X7->K->Prop}:∀{T:List (V×X7×K)},(∀t∈T,Tri m RH t)->Vals (T.map (·.1)) (T.map (·.2.1))/\XG m (T.map (·.1)) (T.map (·.2.2))
 | [],_=>⟨.nil,.nil⟩
 | t::T,h=>by
  obtain⟨r,s⟩:=zgD λx hx=>h x (Y1 _ hx);obtain⟨a,b,c⟩:=h t X5;exact⟨.cons a r,.cons b s⟩
section
variable {X:Cx}{bz:List (Addr×Obj)}{σ:St}{H:Hp}{s:X0}{K:Type}
def zep {lt:K->K->Bool}(W:Wk lt){RV:V->K->Prop}{RH:Heap->X7->K->Prop}(fn:∀h v k G,RH h v k->RH h v G->k=G)(kp:∀h h' v k,(∀b o,h.get? b=some o->h'.get? b=some o)->RH h v k->RH h' v k)
  {l:Addr} {us:AE} {m:List X7} {ks:List K} {Q:VK} (I:Inv X bz σ H s) (hl:s.heap.IsList l m.toArray) (hz:us.length<=1000000) (rv:Vals us m) (hv:XG RV us ks) (O:XG (RH s.heap) m ks)
  (ab:∀s':X0,XG (RH s'.heap) m ks->2<=m.length->Xg (Xi X.prog X.w) X.A.in1.in1 (keyKind' m.toArray) (fun κ s2=>s2=s'/\∀v v' k G,RH s'.heap v k->RH s'.heap v' G->∀C:Bool->X0->Prop,C (lt k G) s'->Xg (Xi X.prog X.w) X.A.in1.in1 (keyLt' κ v v') C (λ_ _=>False) s') (λ_ _=>False) s')
  (q:∀d M J,H d=none->XG RV M J->J.Perm ks->J.Pairwise (λx y=>lt y x=false)->(M.Perm us)->Q (.ref d) (upd H d (.lst M))) :
  Xg (Xi X.prog X.w) X.A (call (.builtin "sorted") [.ref l]) (EP X bz σ Q) X.xe s:=by
 classical
 have ac:=rv.length;obtain⟨T,hT,e1,e2,e3⟩:=zqJ rv hv O;let r:X7->Int:=λv=>if h:∃k,RH s.heap v k then rkK lt ks h.choose else 0
 have D:∀{v:X7} {k:K},RH s.heap v k->r v=rkK lt ks k:=λ{v k} h=>by
  have hx:∃k,RH s.heap v k:=⟨k,h⟩;show (if h:∃k,RH s.heap v k then rkK lt ks h.choose else 0)=_;rw[dif_pos hx,fn _ _ _ _ hx.choose_spec h]
 have z1:m.length<=Xv:=by
  rw[<- ac,T2];lia
 refine zkT (vs:=m) hl z1 r (λh2 s' kk=>?_) λws h' c Y hs kk ha=>?_
 .have ae:XG (RH s'.heap) m ks:=by
   obtain⟨a,b,c⟩:=zcU O;have:=zeo (R:=RH s'.heap) (zs:=m.zip ks) λp O=>kp _ _ _ _ kk (a p O);rw[b,c]at this;exact this
  refine Vo (ab s' ae h2) (fun κ s2 ⟨e,hc⟩=>⟨e,λx hx y hy C hC=>?_⟩) λ_ _ z=>z;have mx:x.1∈m:=by
   rw[Ut]at hx;exact(R8 hx).2
  have my:y.1∈m:=by
   rw[Ut]at hy;exact(R8 hy).2
  obtain⟨k,k1,k2⟩:=JF O x.1 mx;obtain⟨G,ag,aa⟩:=JF O y.1 my;refine hc x.1 y.1 k G (kp _ _ _ _ kk k2) (kp _ _ _ _ kk aa) C ?_;have U:C (decide (r x.1<r y.1)) s':=hC;rw[D k2,D aa,<- W.rank k1]at U;exact U
 .obtain⟨T',B,eT⟩:=ST.zcR (λt:V×X7×K=>t.2.1) Y T e2.symm;have E:∀t∈T',Tri RV (RH s.heap) t:=λt ht=>hT t (B.mem_iff.mp ht);obtain⟨L,af⟩:=zgD E;rw[<- eT]at L;have hD:H (s.heap.objs.size+1)=none:=I.hok.fresh (VO _);refine⟨.ref (s.heap.objs.size+1),upd H (s.heap.objs.size+1) (.lst (T'.map (·.1))),I.laid (t':=s.toks) kk (VO _) ⟨?_,ws,c,L,ha⟩,rfl,q _ _ _ hD af (by rw[<- e3];exact B.map _) ?_ (by rw[<- e1];exact B.map _)⟩
  .rw[L.length,Y.length_eq];exact z1
  .rw[eT,V9]at hs;rw[V9];refine hs.imp_of_mem λ{x y} hx hy h=>?_;obtain⟨_,_,h1⟩:=E x hx;obtain⟨_,_,h2⟩:=E y hy;rw[D h1,D h2]at h;have my:y.2.2∈ks:=by
    rw[<- e3];exact XN.mpr ⟨y,B.mem_iff.mp hy,rfl⟩
   rw[W.rank my];exact bf (by lia)
end
def zmm:Wk lt2:=by
 refine⟨λx y h=>?_,λx y z s r=>?_⟩
 .cases e:lt2 y x with
  | false=>rfl
  | true =>
   have:=zhS h e;rw[zi7]at this;cases this
 .cases e:lt2 z x with
  | false=>rfl
  | true =>
   by_cases m:x=y
   .subst m;rw[e]at r;exact r
   .have w:lt2 x y=true:=by
     have:=zch (p:=x) (q:=y) m;rw[s]at this;cases hh:lt2 x y with
     | true=>rfl
     | false =>
      rw[hh]at this;cases this
    have:=zhS e w;rw[this]at r;exact r
def zfo {h:Heap}{v:X7}{p q:Int×Int}(I:zw h v p)(J:zw h v q):p=q:=by
 obtain⟨a,o,n,t,u,e,E,c1,B⟩:=I;obtain⟨a',o',n',Y,u',D,r,A,m⟩:=J;subst e;cases D;rw[E]at r;cases r;rw[B]at m;obtain⟨L,M⟩:=p;obtain⟨O,U⟩:=q;injection m with m _
 have G:[Vt L t,Vt M u]=[Vt O Y,Vt U u']:=congrArg Array.toList m;injection G with w s
 injection s with s _
 injection w with w _
 injection s with s _
 rw[w,s]
section
variable {X:Cx}
def jJ:qZ X (.builtin "sorted") (λxs H Q=>∃l B ps,xs=[.ref l]/\SqL X.K H l B/\yT H B ps/\B.length<=1000000 /\
  ∀d m w,H d=none->yT H m w->w.Perm ps->w.Pairwise (λp q=>lt2 q p=false)->Q (.ref d) (upd H d (.lst m))):=by
 intro bz s σ H xs m Q I r h;obtain⟨l,B,ps,rfl,hq,J,hz,q⟩:=h;obtain⟨u,rfl,ru⟩:=vals1 r;cases ru;obtain⟨ab,L,pl,_⟩:=I.list hq;have hp:=yT.pairs I J L;refine zep zmm (RH:=zw) (λh v k k'=>zfo) (λh h' v k kk ⟨a,o,n,t,u,e,M,r⟩=>⟨a,o,n,t,u,e,kk _ _ M,r⟩) I pl.isList hz L J hp (λs' E A=>?_) λd m G Y D A O _=>q d m G Y D A O;obtain⟨fs,hk,aa,hint⟩:=Z4 E;refine kat_kind (T:=.type "int") hk (by lia) (λv hv=>?_) (by decide) ⟨rfl,λv v' k k' D A C U=>?_⟩
 .obtain⟨x,t,rfl⟩:=hint v hv;exact Looks.of_pure rfl
 .exact zi6 D A U
end
end GS
end L2
namespace PySem.SeqAt
open L2 AutoSeq1 MeetsSeq MeetsSeq2 MeetsSeq3
end PySem.SeqAt
namespace L2
open PySem PySem.Spec PyProof.Rows PySem.W PySem.SeqAt
end L2
namespace PySem.SeqAt
open L2 AutoSeq1 MeetsSeq MeetsSeq2 MeetsSeq3
def ltL:List (Int×Int)->List (Int×Int)->Bool
 | _,[]=>false
 | [],_::_=>true
 | p::r,q::t=>if p=q then ltL r t else lt2 p q
def zfp (ps:List (Int×Int)):ltL ps []=false:=by cases ps<;>rfl
theorem zjn:∀ps:List (Int×Int),ltL ps ps=false
 | []=>rfl
 | p::r=>by
  unfold ltL;rw[bw rfl];exact zjn r
theorem zjo:∀{ps qs:List (Int×Int)},ps≠qs->ltL qs ps=!ltL ps qs
 | [],[],h=>absurd rfl h
 | [],q::t,_=>rfl
 | p::r,[],_=>rfl
 | p::r,q::t,h=>by
  unfold ltL;by_cases e:p=q
  .subst e;rw[bw rfl,bw rfl];exact zjo λz=>h (by rw[z])
  .rw[bq e,bq (Vc e)];exact zch e
theorem zh6:∀{ps qs D:List (Int×Int)},ltL ps qs=true->ltL qs D=true->ltL ps D=true
 | ps,[],_,h,_=>by
  rw[zfp]at h;cases h
 | _,_::_,[],_,h=>by
  rw[zfp]at h;cases h
 | [],_::_,_::_,_,_=>rfl
 | p::r,q::t,x::y,w,m=>by
  unfold ltL at *
  by_cases A:p=q
  .subst A;rw[bw rfl]at w;by_cases s:p=x
   .rw[bw s]at m ⊢;exact zh6 w m
   .rw[bq s]at m ⊢;exact m
  .rw[bq A]at w;by_cases s:q=x
   .subst s;rw[bq A];exact w
   .rw[bq s]at m;have B:=zhS w m;rw[bq]
    .exact B
    .intro e;subst e;rw[zi7]at B;cases B
def zh7 {A:WK}{s:X0}{v m:X7}{p q:Int×Int}(w:zw s.heap v p)(B:zw s.heap m q)(G:A.units+10<VD):EqAt A s v m (decide (p=q)):=by
 obtain⟨r,D⟩:=QN w;obtain⟨bs,E⟩:=QN B;have:=eqAt_reads _ _ A s _ _ r bs D E rfl rfl (by show A.units+min 1 1<VD;lia);rw[zky]at this;exact this
def ZF {h:Heap}{xs:Array X7}{ps:List (Int×Int)}(m:XG (zw h) xs.toList ps){i:Nat}(hi:i<xs.size):∃p r,ps.drop i=p::r/\ps.drop (i+1)=r/\zw h xs[i] p:=by
 have hl:xs.toList.length=ps.length:=Paired.length m;rw[XZ]at hl;have s:i<ps.length:=by lia
 obtain⟨a,b,c⟩:=GS.zcU m;refine⟨ps[i],ps.drop (i+1),Ww s,rfl,?_⟩;have hz:i<(xs.toList.zip ps).length:=by
  rw[List.length_zip,XZ];lia
 have:=a _ (UV hz);rw[List.getElem_zip]at this;simpa using this
def zkU (l b:Addr)(B m:Array X7)(n n2:Nat)(dd U:Option Addr)(sl aa:Array (Option X7))(ps qs:List (Int×Int))(k:Nat) :
  ∀i:Nat,B.size-i=k->i<=B.size->i<=m.size->Meets (UM.«list.__eq__.loop» ⟨[.ref l,.ref b,T9 i,T9 0],[]⟩)
   (λA R s=>s.heap.get? l=some { cls:=.type "list",dict:=dd,data:=.seq B n,slots:=sl }/\s.heap.get? b=some { cls:=.type "list",dict:=U,data:=.seq m n2,slots:=aa } /\
    XG (zw s.heap) B.toList ps/\XG (zw s.heap) m.toList qs/\A.units+20<VD /\
    R (.ok (.ret (.bool (ltL (ps.drop i) (qs.drop i))))) s):=by
 induction k with
 | zero =>
  intro i hk h1 h2 D w A R s h;obtain⟨hp,g,d,tk,os⟩:=s;obtain⟨hl,M,G,I,hu,h⟩:=h;have l1:B.toList.length=ps.length:=Paired.length G;have l2:m.toList.length=qs.length:=Paired.length I;rw[XZ]at l1 l2;wp_walk using Wg hl,Wg M;have E:B[((i:Nat):Int).toNat]?=none:=by simp;lia
  rw[E];have Y:ps.drop i=[]:=by simp;lia
  have e:ltL (ps.drop i) (qs.drop i)=decide (B.size<m.size):=by
   rw[Y];by_cases hq:i<qs.length
   .rw[Ww hq];exact(br (by lia)).symm
   .rw[List.drop_of_length_le (by lia)];exact(bf (by lia)).symm
  rw[e]at h;wp_walk using Wg hl,Wg M;exact h
 | succ k ih =>
  intro i hk h1 h2 D w A R s h;obtain⟨hp,g,d,tk,os⟩:=s;obtain⟨hl,M,G,I,hu,h⟩:=h;have l1:B.toList.length=ps.length:=Paired.length G;have l2:m.toList.length=qs.length:=Paired.length I;rw[XZ]at l1 l2;wp_walk using Wg hl,Wg M;have O:i<B.size:=by lia
  have E:B[((i:Nat):Int).toNat]?=some B[i]:=by simp[O]
  by_cases L:i<m.size
  .have J:m[((i:Nat):Int).toNat]?=some m[i]:=by simp[L]
   have hc:((i:Int)+1)=((i+1:Nat):Int):=by push_cast;rfl
   obtain⟨p,r,ep,er,rp⟩:=ZF G O;obtain⟨q,t,eq,et,rq⟩:=ZF I L;rw[E,J];refine X9 (zh7 rp rq (by show A.units+1+10<VD;lia) D w _ _ ?_);rw[ep,eq]at h;unfold ltL at h;by_cases e:p=q
   .rw[bw e]at h;rw[br e];wp_walk;rw[hc];exact⟨UB plain_eq_loop _,VG entry_eq_loop (by
     rw[V6 plain_eq_loop _];exact ih (i+1) (by lia) (by lia) (by lia) D w A R _ ⟨hl,M,G,I,hu,by rw[er,et];exact h⟩)⟩
   .rw[bq e]at h;rw[bf e];simp only[Wu,if_false];refine X9 (RG hl rfl (X9 (RG M rfl ?_)));rw[E,J];exact X9 (Q6.pairs rp rq (by show A.units+1<VD;lia) D w _ _ (XO h))
  .have J:m[((i:Nat):Int).toNat]?=none:=by simp;lia
   rw[E,J];have Y:qs.drop i=[]:=by simp;lia
   rw[Y,zfp,show false=decide (B.size<m.size) from (bf (by lia)).symm]at h;wp_walk using Wg hl,Wg M;exact h
def zh8 (l b:Addr)(r m:Array X7)(n J:Nat)(dd B:Option Addr)(L E:Array (Option X7))(ps qs:List (Int×Int)) :
  Meets (UM.«list.__lt__» ⟨[.ref l,.ref b],[]⟩)
   (λA R s=>s.heap.get? l=some { cls:=.type "list",dict:=dd,data:=.seq r n,slots:=L }/\s.heap.get? b=some { cls:=.type "list",dict:=B,data:=.seq m J,slots:=E } /\
    XG (zw s.heap) r.toList ps/\XG (zw s.heap) m.toList qs/\A.units+20<VD/\R (.ok (.ret (.bool (ltL ps qs)))) s):=by
 intro D w A R s h;obtain⟨O,g1,d1,aa,Y⟩:=s;obtain⟨I,G,M,hq,U,h⟩:=h;have fL:=sub_list_list;wp_walk using Wg I,Wg G;exact⟨UB plain_eq_loop _,VG entry_eq_loop (by
  rw[V6 plain_eq_loop _];exact zkU l b r m n J dd B L E ps qs _ 0 rfl (W3 _) (W3 _) D w A R _ ⟨I,G,M,hq,U,by simpa using h⟩)⟩
structure ListPairs (h:Heap)(v:X7)(ps:List (Int×Int)):Prop where
 ex:∃a o xs n,v=.ref a/\h.get? a=some o/\o.cls=.type "list"/\o.data=.seq xs n/\XG (zw h) xs.toList ps
def zmn {prog:Xl}{w:WY}{A:WK}{E:X7->X0->Prop}{s:X0}{v v':X7}{ps qs:List (Int×Int)}{C:Bool->X0->Prop}(hv:ListPairs s.heap v ps)(I:ListPairs s.heap v' qs)(hu:A.units+30<VD)(h:C (ltL ps qs) s) :
  Xg (Xi prog w) A (PyProof.Rows.keyLt' PyProof.Rows.oneType' v v') C E s:=by
 obtain⟨a,⟨aa,dd,Y,sl⟩,xs,n,rfl,D,c1,U,p1⟩:=hv;obtain⟨a',⟨O,B,data2,L⟩,M,n',rfl,G,m,r,J⟩:=I;simp only at c1 U m r;subst c1 U m r;rw[PyProof.Rows.keyLt'_oneType,PyProof.Rows.oneLt'_eq];simp only[if_true];refine X9 (wpAny_cRoomFor (by lia) ?_);refine X9 (wpAny_callSpecialIfBound?_slot (T:="list") ⟨_,D,rfl⟩ F.slot_list_lt ?_);refine R1 F.slot_list_lt ⟨_,D,rfl⟩ F.entry_list_lt (F.args_list_lt_2 _ _) (zh8 a a' xs M n n' dd B sl L ps qs) ⟨D,G,p1,J,(by lia),?_⟩;exact VN h
end PySem.SeqAt
namespace L2
open PySem PySem.Spec PyProof.Rows PySem.W PySem.SeqAt
namespace GS
def zqK:Wk ltL:=by
 refine⟨λx y h=>?_,λx y z s r=>?_⟩
 .cases e:ltL y x with
  | false=>rfl
  | true =>
   have:=zh6 h e;rw[zjn]at this;cases this
 .cases e:ltL z x with
  | false=>rfl
  | true =>
   by_cases m:x=y
   .subst m;rw[e]at r;exact r
   .have w:ltL x y=true:=by
     have:=zjo (ps:=x) (qs:=y) m;rw[s]at this;cases hh:ltL x y with
     | true=>rfl
     | false =>
      rw[hh]at this;cases this
    have:=zh6 e w;rw[this]at r;exact r
def LstAt (H:Hp)(v:V)(ps:List (Int×Int)):Prop:=∃a m,v=V.ref a/\H a=some (.lst m)/\yT H m ps
def zkV {h:Heap}{vs:List X7}{ps qs:List (Int×Int)}(m:XG (zw h) vs ps):XG (zw h) vs qs->ps=qs:=by
 induction m generalizing qs with
 | nil =>
  intro hq;cases hq;rfl
 | cons a _ r =>
  intro hq;cases hq with
  | cons b u=>rw[zfo a b,r u]
def zmo {h:Heap}{v:X7}{ps qs:List (Int×Int)}(E:ListPairs h v ps)(G:ListPairs h v qs):ps=qs:=by
 obtain⟨a,o,xs,n,e,D,c1,A,I⟩:=E;obtain⟨L,O,J,M,B,r,w,m,s⟩:=G;subst e;cases B;rw[D]at r;cases r;rw[A]at m;injection m with m _
 subst m;exact zkV I s
def Z3 {h h':Heap}(k:∀b o,h.get? b=some o->h'.get? b=some o){vs:List X7}{ps:List (Int×Int)}(s:XG (zw h) vs ps):XG (zw h') vs ps:=by
 induction s with
 | nil=>exact .nil
 | cons q _ w =>
  obtain⟨a,o,n,t,u,e,m,r⟩:=q;exact .cons ⟨a,o,n,t,u,e,k _ _ m,r⟩ w
section
variable {X:Cx}{bz:List (Addr×Obj)}{σ:St}{H:Hp}{s:X0}
def zh9 (I:Inv X bz σ H s){w:AE}{ks:List (List (Int×Int))}{m:List X7}(A:XG (LstAt H) w ks)(r:Vals w m):XG (ListPairs s.heap) m ks:=by
 induction A generalizing m with
 | nil =>
  cases r;exact .nil
 | cons q _ D =>
  obtain⟨a,L,e,h,B⟩:=q;subst e;cases r with
  | cons E G =>
   cases E;refine .cons ?_ (D G);obtain⟨z,m,n,J,hl,e⟩:=I.lstM h;exact⟨a,_,m.toArray,n,rfl,e,rfl,rfl,by rw[OM];exact yT.pairs I B J⟩
end
def zia {h:Heap}{m:List X7}{ks:List (List (Int×Int))}(s:XG (ListPairs h) m ks):∀v∈m,∃a o,v=WD a/\h.get? a=some o/\o.cls=.type "list":=by
 induction s with
 | nil=>exact λv hv=>nomatch hv
 | cons q _ w =>
  intro v hv;rcases XQ.mp hv with rfl | hv
  .obtain⟨a,o,xs,n,e,r,c,_⟩:=q;exact⟨a,o,e,r,c⟩
  .exact w v hv
section
variable {X:Cx}
def QT (hu:X.A.units+64<VD):qZ X (.builtin "sorted") (λxs H Q=>∃l D ks,xs=[.ref l]/\SqL X.K H l D/\XG (LstAt H) D ks/\D.length<=1000000 /\
  ∀d m w,H d=none->XG (LstAt H) m w->w.Perm ks->w.Pairwise (λp q=>ltL q p=false)->m.Perm D->Q (.ref d) (upd H d (.lst m))):=by
 intro bz s σ H xs m Q I r h;obtain⟨l,D,ks,rfl,hq,L,hz,q⟩:=h;obtain⟨u,rfl,ru⟩:=vals1 r;cases ru;obtain⟨aa,O,pl,_⟩:=I.list hq;have hp:=zh9 I L O;refine zep zqK (RH:=ListPairs) (λh v k k'=>zmo) (λh h' v k M ⟨a,o,xs,n,e,E,c,d,r⟩=>⟨a,o,xs,n,e,M _ _ E,c,d,Z3 M r⟩) I pl.isList hz O L hp (λs' J B=>?_) λd m w hd G B U Y=>q d m w hd G B U Y;refine kas_kind (T:=.type "list") B (λv hv=>?_) (by decide) (by decide) ⟨rfl,λv v' k k' G B C hC=>?_⟩
 .obtain⟨a,o,rfl,E,c1⟩:=zia J v hv;exact c1 ▸ (Looks.ld E).andThen .now
 .exact zmn G B (by show X.A.units+1+1+30<VD;lia) hC
end
end GS
open PySem PySem.Spec PyProof.Rows
def HasDef (K:XW)(x:Str)(st:Stmt):Prop:=∃(f:Addr) (A:X7) (B r:Option Addr) (E:Array (Option X7)) (kV w D m s:X7),Xs K XD x=some (some (.ref f))/\K.lookup f=some ⟨A,B,.func (UH x x (JV st) (xo st) (zp st) .none kV w D r m s),E⟩/\S1 K m x=true/\T1 K (.ref f)=true
def us0 {P:List X7->Prop}(h:P []):∀m:List X7,m.length=0->P m:=by
 intro m e;cases m with
 | nil=>exact h
 | cons a t=>cases e
def usS {n:Nat}{P:List X7->Prop}(h:∀a t,t.length=n->P (a::t)):∀m:List X7,m.length=n+1->P m:=by
 intro m e;cases m with
 | nil=>cases e
 | cons a t=>exact h a t (Nat.succ.inj e)
def us1 {P:List X7->Prop}(h:∀a,P [a]):∀m:List X7,m.length=1->P m:=usS λa=>us0 (h a)
def us2 {P:List X7->Prop}(h:∀a b,P [a,b]):∀m:List X7,m.length=2->P m:=usS λa=>us1 (h a)
def us3 {P:List X7->Prop}(h:∀a b c,P [a,b,c]):∀m:List X7,m.length=3->P m:=usS λa=>us2 (h a)
def us4 {P:List X7->Prop}(h:∀a b c d,P [a,b,c,d]):∀m:List X7,m.length=4->P m:=usS λa=>us3 (h a)
def HasDef.at {K:XW}{h:Heap}{A:Str->Option X7}{x:Str}{st:Stmt}{ps:AD}(H:HasDef K x st)(X:K.In h)(G:h.Ns XD A)
  (E:∀(kV doc B:X7) (s:Option Addr) (m w:X7) (r:List X7),r.length=ps.length->bindArgs (UH x x (JV st) (xo st) (zp st) .none kV doc B s m w) ⟨r,[]⟩=pure (ps.zip r):=by intro _ _ _ _ _ _;first | exact us1 λ_=>rfl | exact us2 λ_ _=>rfl | exact us3 λ_ _ _=>rfl | exact us4 λ_ _ _ _=>rfl):∃f D,zk K A x st ps f D:=by
 obtain⟨f,L,M,s,O,kV,J,B,I,w,a,l,c,k⟩:=H;have F:=zlM (st:=st) l c k;exact⟨f,_,F,VC X G a,F.binds E⟩
open PySem PySem.W
open PySem PySem.Spec PyProof.Rows PySem.W
namespace ST
variable {X:Cx}
def zdS (hh:X.A.handled=none):qZ X (.builtin "sorted") (λxs H Q=>∃l ks,xs=[.ref l]/\H l=some (zgA X.prog X.w l ks)/\(∀q∈ks,H q.1=some (.tup [.int q.2.1,.int q.2.2]))/\(ks.map (·.2)).Nodup/\ks.length<64 /\
  ∀d af ae,H d=none->yT H af ae->ae.Perm (ks.map (·.2))->Up2 ae->Q (.ref d) (upd H d (.lst af))):=by
 intro bz s σ H xs af Q I r h;obtain⟨l,ks,rfl,hl,hT,ar,ax,q⟩:=h;obtain⟨u,rfl,ru⟩:=vals1 r;cases ru;obtain⟨⟨es,ep,t,ho,he,G,ai,au⟩,_,_⟩:=(show qN X.prog X.w H s.heap l (zgA X.prog X.w l ks) from I.hok l _ hl);have a2:ks.length=es.size:=by
  rw[<- XZ,he,ZB]
 apply RI kind_sorted plain_sorted entry_sorted (args_sorted1 _);unfold UM.«sorted»;refine X9 (m:=checkCount "sorted" 1 1 _) (XO (X9 (zgz (by simp[hh]) ho G ai au (by lia) λB J tk ak an aq=>?_)));have aw:es.toList.map (·.2)=ks.map λq=>WD q.1:=by
  rw[he,Ws];rfl
 rw[aw]at ak;obtain⟨D,O,hj⟩:=zcR (λq:Addr×(Int×Int)=>WD q.1) ak ks rfl;have ah:∀q∈D,H q.1=some (.tup [.int q.2.1,.int q.2.2]):=λq hq=>hT q (O.mem_iff.mp hq);have Y:(D.map (·.2)).Nodup:=(O.map (·.2)).nodup_iff.mpr ar;have a1:D.length=ks.length:=O.length_eq;have az:B.length=D.length:=by rw[hj,ZB]
 have rv:∀{D:List (Addr×(Int×Int))},Vals (D.map λq=>V.ref q.1) (D.map λq=>WD q.1):=λ{D}=>by
  induction D with
  | nil=>exact .nil
  | cons a t ih=>exact .cons rfl ih
 have ht:∀{D:List (Addr×(Int×Int))},(∀q∈D,H q.1=some (.tup [.int q.2.1,.int q.2.2]))->yT H (D.map λq=>V.ref q.1) (D.map (·.2)):=λ{D}=>by
  induction D with
  | nil=>exact λ_=>.nil
  | cons a t ih=>exact λh=>.cons ⟨a.1,rfl,h a X5⟩ (ih λq hq=>h q (Y1 _ hq))
 have L:XG (zw s.heap) B (D.map (·.2)):=by
  rw[hj];exact yT.pairs I (ht ah) rv
 generalize al:D.map (·.2)=ps at L Y;have a3:B.length=ps.length:=Paired.length L;have W:=GS.zmm;have ip:∀q:Addr×(Int×Int),H q.1=some (.tup [.int q.2.1,.int q.2.2])->zw s.heap (.ref q.1) q.2:=λq hq=>by
  have:=yT.pairs I (.cons ⟨q.1,rfl,hq⟩ .nil:yT H [V.ref q.1] [q.2]) (.cons rfl .nil:Vals [V.ref q.1] [WD q.1]);cases this with
  | cons h _=>exact h
 classical
 let r:X7->Int:=λv=>if h:∃k,zw s.heap v k then GS.rkK lt2 ps h.choose else 0
 have U:∀{v:X7} {k:Int×Int},zw s.heap v k->r v=GS.rkK lt2 ps k:=λ{v k} h=>by
  have hx:∃k,zw s.heap v k:=⟨k,h⟩;show (if h:∃k,zw s.heap v k then GS.rkK lt2 ps h.choose else 0)=_;rw[dif_pos hx,GS.zfo hx.choose_spec h]
 have small:B.length<=Xv:=by rw[T2];lia
 refine X9 (OF ?_ small);have aj:(J.push (Ur "list" B.toArray 0)).get? J.objs.size=some (Ur "list" B.toArray 0):=W1 _ rfl;have kL:∀b o,s.heap.get? b=some o->(J.push (Ur "list" B.toArray 0)).get? b=some o:=λb o e=>XS _ (an b o e);have ne:∀b o,s.heap.get? b=some o->b≠J.objs.size:=λb o e=>Xf (Xz (an b o e));show Xg _ _ _ _ _ { s with heap:=J.push (Ur "list" B.toArray 0),toks:=tk };refine X9 (V7 (UW slot_list_sort ⟨_,aj,rfl⟩ entry_list_sort (GS.zen (s:={ s with heap:=J.push (Ur "list" B.toArray 0),toks:=tk }) aj small r (λh2 s' kk=>?_) ?_) (args_list_sort _)))
 .have as:=Z3 (λb o e=>kk b o (ne b o e) (kL b o e)) L;obtain⟨fs,hk,ay,hint⟩:=Z4 as;refine kat_kind (T:=.type "int") hk (by lia) (λv hv=>?_) (by decide) ⟨rfl,λx hx y hy C hC=>?_⟩
  .obtain⟨x,t,rfl⟩:=hint v hv;exact Looks.of_pure rfl
  .have mx:x.1∈B:=by
    rw[Ut]at hx;exact(R8 hx).2
   have my:y.1∈B:=by
    rw[Ut]at hy;exact(R8 hy).2
   obtain⟨k,k1,k2⟩:=GS.JF L x.1 mx;obtain⟨k',a4,am⟩:=GS.JF L y.1 my;have kp:∀{v:X7} {k:Int×Int},zw s.heap v k->zw s'.heap v k:=λ{v k} ⟨a,o,n,t,u,e,e1,r⟩=>⟨a,o,n,t,u,e,kk _ _ (ne _ _ e1) (kL _ _ e1),r⟩;have ag:C (decide (r x.1<r y.1)) s':=hC;rw[U k2,U am,<- W.rank k1]at ag;exact zi6 (kp k2) (kp am) ag
 .intro ws h' c aa hs kk ha;obtain⟨M,E,ej⟩:=zcR (λq:Addr×(Int×Int)=>WD q.1) aa D hj;have hD:H J.objs.size=none:=I.hok.fresh aq;have ab:∀q∈M,H q.1=some (.tup [.int q.2.1,.int q.2.2]):=λq hq=>ah q (E.mem_iff.mp hq);have ao:Vals (M.map λq=>V.ref q.1) ws:=by
   rw[ej];exact rv
  have ac:(M.map (·.2)).Nodup:=(E.map (·.2)).nodup_iff.mpr (by rw[al];exact Y);have av:Up2 (M.map (·.2)):=by
   unfold Up2;unfold Ox at ac;rw[V9]at ac ⊢;rw[ej,V9]at hs;refine(hs.and ac).imp_of_mem λ{x y} hx hy ⟨J,h2⟩=>?_;rw[U (ip x (ab x hx)),U (ip y (ab y hy))]at J;have my:y.2∈ps:=by
    rw[<- al];exact XN.mpr ⟨y,E.mem_iff.mp hy,rfl⟩
   have e1:lt2 y.2 x.2=false:=by
    rw[W.rank my];exact bf (by lia)
   have e2:=zch h2;rw[e1]at e2;cases hh:lt2 x.2 y.2 with
   | true=>rfl
   | false =>
    rw[hh]at e2;cases e2
  refine⟨_,rfl,XO ⟨_,rfl,.ref J.objs.size,upd H J.objs.size (.lst (M.map λq=>V.ref q.1)),I.laid (t':=tk) (λb o e=>kk b o (ne b o e) (kL b o e)) aq ⟨?_,_,c,ao,ha⟩,rfl,q _ _ _ hD (ht ab) ((E.trans O).map _) av⟩⟩;rw[ao.length,aa.length_eq];exact small
end ST
inductive Rd1 (σ:St)(i:Nat)(Q:VK)(H:Hp):Prop
 | mk (v:V) (h:σ[i]?=some (some v)) (q:Q v H):Rd1 σ i Q H
def tVS (i:Nat):TE:=fun σ H Q=>Rd1 σ i Q H
section
variable {X:Cx}
def pvS (i:Nat){x:Str}{pos:Pos}(w:X.N[i]?=some x:=by rfl)(hv:Vis X.env.scope x:=by first | exact VU rfl | exact Pn (VU rfl) | exact Pn (Pn rfl))(A:(x==("__debug__":Str))=false:=by decide)
  (m:(x==("__classdict__":Str))=false:=by decide):PE X (.Name x pos) (tVS i):=by
 intro r s σ H Q I h;obtain⟨v,e,q⟩:=h;exact pv i w hv A m r s σ H Q I ⟨v,e,q⟩
def OpR.imp {f:X7->X7->Sem X7}{r m:R2}(h:OpR X f r)(k:∀x y H Q,m x y H Q->r x y H Q):OpR X f m:=λw s σ H x y v u Q I A B z=>h w s σ H x y v u Q I A B (k x y H Q z)
def IxR.imp {r A:R2}(h:IxR X r)(k:∀x y H Q,A x y H Q->r x y H Q):IxR X A:=λw m B s σ H x y v u Q I E G z D=>h w m B s σ H x y v u Q I E G (k x y H Q z) D
inductive SI0 (g:Int->Int->V)(x y:V)(H:Hp)(Q:VK):Prop
 | mk (i j:Int) (hx:x=.int i) (hy:y=.int j) (q:Q (g i j) H):SI0 g x y H Q
inductive SI (C:Int->Int->Prop)(g:Int->Int->V)(x y:V)(H:Hp)(Q:VK):Prop
 | mk (i j:Int) (hx:x=.int i) (hy:y=.int j) (hc:C i j) (q:Q (g i j) H):SI C g x y H Q
def OpR.s0 {f:X7->X7->Sem X7}{g:Int->Int->V}(h:OpR X f (rI0 g)):OpR X f (SI0 g):=h.imp λ_ _ _ _ ⟨i,j,a,b,q⟩=>⟨i,j,a,b,q⟩
def OpR.s1 {f:X7->X7->Sem X7}{C:Int->Int->Prop}{g:Int->Int->V}(h:OpR X f (rI C g)):OpR X f (SI C g):=h.imp λ_ _ _ _ ⟨i,j,a,b,c,q⟩=>⟨i,j,a,b,c,q⟩
def xD:OpR X (T4 .Add) (SI0 λi j=>.int (i+j)):=yW.s0
def Qx:OpR X (T4 .Sub) (SI0 λi j=>.int (i-j)):=Zn.s0
def zkW:OpR X (T4 .FloorDiv) (SI Jx λi j=>.int (i/j)):=j8.s1
def zqL:OpR X (Wb .Lt) (SI0 λi j=>.bl (decide (i<j))):=zfY.s0
def zfq:OpR X (Wb .LtE) (SI0 λi j=>.bl (decide (i<=j))):=zrN.s0
def zmp:OpR X (Wb .Gt) (SI0 λi j=>.bl (decide (j<i))):=zpr.s0
inductive zqM (K:XW)(x y:V)(H:Hp)(Q:VK):Prop
 | mk (p:Addr) (xs:AE) (i:Int) (v:V) (hx:x=.ref p) (hy:y=.int i) (hq:SqL K H p xs) (he:atI xs i=some v) (q:Q v H):zqM K x y H Q
inductive zqN (K:XW)(x y:V)(H:Hp)(Q:VK):Prop
 | mk (p:Addr) (xs:AE) (i:Int) (v:V) (hx:x=.ref p) (hy:y=.int i) (hq:SqT K H p xs) (he:atI xs i=some v) (q:Q v H):zqN K x y H Q
inductive zr7 (x y:V)(H:Hp)(Q:VK):Prop
 | mk (z:Str) (i:Int) (c:Nat) (hx:x=.str z) (hy:y=.int i) (hl:z.length<=Xv) (he:atI z.cps.toList i=some c) (q:Q (.str ⟨#[c]⟩) H):zr7 x y H Q
def yN:IxR X (zqM X.K):=jj.imp λ_ _ _ _ ⟨p,xs,i,v,a,b,c,d,q⟩=>⟨p,xs,i,v,a,b,c,d,q⟩
def qa:IxR X (zqN X.K):=qP.imp λ_ _ _ _ ⟨p,xs,i,v,a,b,c,d,q⟩=>⟨p,xs,i,v,a,b,c,d,q⟩
def zjp:IxR X zr7:=zhK.imp λ_ _ _ _ ⟨z,i,c,a,b,d,e,q⟩=>⟨z,i,c,a,b,d,e,q⟩
def zbi {K:XW}(m:X.K=K):IxR X (zqM K):=m ▸ yN
def zmq {K:XW}(m:X.K=K):IxR X (zqN K):=m ▸ qa
inductive SB (x:V)(Q:Bool->Hp->Prop)(H:Hp):Prop
 | mk (k:Bool) (h:x=.bl k) (q:Q k H):SB x Q H
def zqO (t:TE):TT:=fun σ H Q=>t σ H λx m=>SB x Q m
def qp {op:Oa}{r:R2}{a b:Expr}{w A:TE}{pos:Pos}(O:OpR X (Wb op) r)(ha:PE X a w)(M:PE X b A)(hm:Tu op b=false):PT X (.Compare a [op] [b] pos) (zqO (tOp r w A)):=by
 intro m s σ H Q I h;refine SK (thn (ha m s σ H _ I h) λv s1 ⟨x,B,G,r1,U⟩=>thn (M m s1 σ B _ G U) λu s2 ⟨y,D,J,r2,Y⟩=>thn (O m s2 σ D x y v u _ J r1 r2 Y) λc s3 ⟨z,E,L,r3,q3⟩=>?_) hm;obtain⟨k,rfl,q⟩:=q3;cases r3;exact VN ⟨E,L,q⟩
inductive zou (K:XW)(xs:AE)(H:Hp)(Q:VK):Prop
 | mk (p:Addr) (ys:AE) (hx:xs=[.ref p]) (hq:SqL K H p ys\/SqT K H p ys) (q:Q (.int ys.length) H):zou K xs H Q
def zM:qZ X (.builtin "len") (zou X.K):=λm s σ H xs w Q I r ⟨p,ys,a,b,q⟩=>qi m s σ H xs w Q I r ⟨p,ys,a,b,q⟩
def Y4 {K:XW}(m:X.K=K):qZ X (.builtin "len") (zou K):=m ▸ zM
inductive zr8 (x:V)(vs:AE)(H:Hp)(Q:VK):Prop
 | mk (l:Addr) (xs:AE) (y:V) (hx:x=.ref l) (hv:vs=[y]) (hl:H l=some (.lst xs)) (hz:xs.length<Xv) (q:Q .non (upd H l (.lst (xs++[y])))):zr8 x vs H Q
def jP:MtM X "list.append" zr8:=λm s σ H x xs v A Q I w r ⟨l,ys,y,a,b,c,d,q⟩=>Jq m s σ H x xs v A Q I w r ⟨l,ys,y,a,b,c,d,q⟩
end
section
variable {X:Cx}{k k0:Nat}{f:Addr}{fd:XF}{ps:AD}{sp:Sp}{x:Str}{st:Stmt}{p pos:Pos}{e:Expr}{es:List Expr}{t:TA}
def pc0 (F:zY X.prog X.w X.K X.mg X.base CX0 k f fd ps sp)(B:JU k0 X.A)(D:zk X.K X.mg x st ps f fd)(ha:PA X (e::es) t)(hk:k<=k0:=by decide)(s:Gl X x:=by rfl)
  (m:(x==("__debug__":Str))=false:=by decide) (he:WV (e::es) X.env=(false,eval e X.env)::WV es X.env:=by rfl) (r:(Tl pos (WV es X.env)).any (·.1)=false:=by rfl) :
  PE X (.Call (.Name x p) (e::es) [] pos) (zi2 sp [] E0 t):=ze7 F (B.mono hk) s D.g D.F.kp D.b .nil zrS ha m he r
def pcX (F:zY X.prog X.w X.K X.mg X.base (CXE X.prog X.w) k f fd ps sp)(B:JU k0 X.A)(D:zk X.K X.mg x st ps f fd)(ha:PA X (e::es) t)(hk:k<=k0:=by decide)(s:Gl X x:=by rfl)
  (m:(x==("__debug__":Str))=false:=by decide) (he:WV (e::es) X.env=(false,eval e X.env)::WV es X.env:=by rfl) (r:(Tl pos (WV es X.env)).any (·.1)=false:=by rfl) :
  PE X (.Call (.Name x p) (e::es) [] pos) (zi2 sp [] EF t):=ze7 F (B.mono hk) s D.g D.F.kp D.b .nil zrX ha m he r
def pcL {E:XK}(L:xX X E)(F:zY X.prog X.w X.K X.mg X.base (CXE X.prog X.w) k f fd ps sp)(B:JU k0 X.A)(D:zk X.K X.mg x st ps f fd)(ha:PA X (e::es) t)(hk:k<=k0:=by decide)(s:Gl X x:=by rfl)
  (m:(x==("__debug__":Str))=false:=by decide) (he:WV (e::es) X.env=(false,eval e X.env)::WV es X.env:=by rfl) (r:(Tl pos (WV es X.env)).any (·.1)=false:=by rfl) :
  PE X (.Call (.Name x p) (e::es) [] pos) (zi2 sp [] E t):=ze7 F (B.mono hk) s D.g D.F.kp D.b .nil (xX.passes L) ha m he r
end
def yU:0<=Xv:=by decide
def sz_1:1<=Xv:=by decide
def j9:2<=Xv:=by decide
def zgE:3<=Xv:=by decide
section
variable {X:Cx}{tg iter elt:Expr}{ifs:List Expr}{scope:Uw}{pos:Pos}{N:AD}{src:List (Option Nat)}{cl:List (Str×Addr)}{wi:TI}{g:TG}{tc:TT}{te:TE}
def cP (a:scope.kind=.function:=by rfl)(b:∀y∈scope.names,y.2 ≠ .cell:=by decide+kernel)(c:∀y∈scope.names,y.2 ≠ .free:=by decide+kernel)(d:∀y∈scope.names,y.2=.local->scope.names.lookup y.1=some .local:=by decide+kernel)(e:src.length=N.length:=by rfl)(f:∀o∈src,o=none:=by decide):yI X N src scope []:=yI.plain a b c d e f
def cR (a:scope.kind=.function:=by rfl)(b:∀y∈scope.names,y.2 ≠ .cell:=by decide+kernel)(c:∀y∈scope.names,y.2=.local->scope.names.lookup y.1=some .local:=by decide+kernel)(d:(scope.names.all λy=>y.2 != .free || (X.env.cells.lookup y.1).isSome)=true:=by kernel_rfl)(e:src.length=N.length:=by rfl)
  (f:((N.zip src).all λq=>match q.2 with | none=>true | some j=>X.N[j]?==some q.1&&X.env.kindOf q.1==some .cell&&(Uz scope X.env).names.lookup q.1==some .cell)=true:=by kernel_rfl):yI X N src scope (zax (λx=>X.env.cells.lookup x) scope.names []):=yI.byRfl a b c d e f
def c1 {y:Str}(a:scope.kind=.function:=by rfl)(r:∀n m,R4 n scope.names m=(y,n)::m:=by intro _ _;rfl)(s:∀h,Ol h scope.names=h.push { cls:=.type "cell",data:=.cell none }:=by intro _;rfl)(b:∀z∈scope.names,z.2=.cell->z.1=y:=by decide+kernel)(c:∀y∈scope.names,y.2=.local->scope.names.lookup y.1=some .local:=by decide+kernel)
  (d:(scope.names.all λy=>y.2 != .free || (X.env.cells.lookup y.1).isSome)=true:=by kernel_rfl) (e:src.length=N.length:=by rfl) (f:((N.zip src).all λq=>match q.2 with | none=>true | some j=>X.N[j]?==some q.1&&X.env.kindOf q.1==some .cell&&(Uz scope X.env).names.lookup q.1==some .cell&&q.1 != y)=true:=by kernel_rfl):xC X N src scope (zax (λx=>X.env.cells.lookup x) scope.names []) y:=xC.byRfl a r s b c d e f
def pgN (i:Nat){x:Str}(h:decide X.N.Nodup=true:=by kernel_rfl)(hi:X.N[i]?=some x:=by rfl)(hx:Loc X.env.scope x:=by first | exact VU rfl | exact Pn rfl)(m:X.fn x=true\/X.env.scope.names.lookup x=some .local:=by first | exact .inl rfl | exact .inr rfl):PG X (.Name x pos) (yD i):=ziW (bg h) hi hx m
def pgq (i:Nat){x:Str}(h:X.N.Nodup)(hi:X.N[i]?=some x:=by rfl)(hx:Loc X.env.scope x:=by first | exact VU rfl | exact Pn rfl)(m:X.fn x=true\/X.env.scope.names.lookup x=some .local:=by first | exact .inl rfl | exact .inr rfl):PG X (.Name x pos) (yD i):=ziW h hi hx m
def qR (i:Nat){x:Str}{e:Expr}{te:TE}{m:Pos}(r:X.N.Nodup)(he:PE X e te)(hi:X.N[i]?=some x:=by rfl)(hx:Loc X.env.scope x:=by first | exact VU rfl | exact Pn rfl)(w:R5 e (some (.Name x m)) pos.line X.env=pure false:=by rfl)(s:X.fn x=true\/X.env.scope.names.lookup x=some .local:=by first | exact .inl rfl | exact .inr rfl):PS X (.Assign [.Name x m] e pos) (zlF te (yD i)):=qx r hi hx he w s
def pcm (N:AD)(src:List (Option Nat))(ok:yI X N src scope cl)(hi:PI X tg iter wi)(w:∀{C fp r s H},PG (jz X N scope cl C fp r s H) tg g)(hc:∀{C fp r s H},zb3 (jz X N scope cl C fp r s H) ifs tc)(he:∀{C fp r s H},PE (jz X N scope cl C fp r s H) elt te)
  (m:X.calm=true:=by rfl) (A:∀x,VM iter X.env x=pure x:=by intro _;rfl):PE X (.ListComp elt [⟨tg,iter,ifs,0⟩] scope pos) (zbI wi src g tc te):=zn5 ok m hi (λ_ _ _ _ _=>w) (λ_ _ _ _ _=>hc) (λ_ _ _ _ _=>he) A
def zsQ {y:Str}(N:AD)(src:List (Option Nat))(ok:xC X N src scope cl y)(hi:PI X tg iter wi)(w:∀{C fp r s H},PG (yL X N scope cl y C fp r s H) tg g)(hc:∀{C fp r s H},zb3 (yL X N scope cl y C fp r s H) ifs tc)(he:∀{C fp r s H},PE (yL X N scope cl y C fp r s H) elt te)
  (m:X.calm=true:=by rfl) (A:∀x,VM iter X.env x=pure x:=by intro _;rfl):PE X (.ListComp elt [⟨tg,iter,ifs,0⟩] scope pos) (zbI wi src g tc te):=zlX ok m hi (λ_ _ _ _ _=>w) (λ_ _ _ _ _=>hc) (λ_ _ _ _ _=>he) A
def psC (i:Nat){x:Str}{r m:Pos}(G:X.N.Nodup)(N:AD)(src:List (Option Nat))(ok:yI X N src scope cl)(hi:PI X tg iter wi)(I:∀{C fp A s H},PG (jz X N scope cl C fp A s H) tg g)(hc:∀{C fp A s H},zb3 (jz X N scope cl C fp A s H) ifs tc)(he:∀{C fp A s H},PE (jz X N scope cl C fp A s H) elt te)
  (B:X.N[i]?=some x:=by rfl) (D:X.env.scope.names.lookup x=some .local:=by rfl) (w:X.calm=true:=by rfl) (J:∀x,VM iter X.env x=pure x:=by intro _;rfl) (E:R5 (.ListComp elt [⟨tg,iter,ifs,0⟩] scope pos) (some (.Name x r)) m.line X.env=pure true:=by rfl) :
  PS X (.Assign [.Name x r] (.ListComp elt [⟨tg,iter,ifs,0⟩] scope pos) m) (zlF (zbI wi src g tc te) (yD i)):=zob G B D ok w hi (λ_ _ _ _ _=>I) (λ_ _ _ _ _=>hc) (λ_ _ _ _ _=>he) J E
end
section
variable {X:Cx}{e:Expr}{te:TE}{x:Str}{p pos:Pos}{id T:String}{r:AE->Hp->VK->Prop}
def pb1 (hc:qZ X (.builtin id) r)(hm:X.mg x=none)(hv:UG x=some (.builtin id))(he:PE X e te)(w:Gl X x:=by rfl)(hn:x ≠ "__name__":=by decide)(m:(x==("__debug__":Str))=false:=by decide)(s:WV [e] X.env=(false,eval e X.env)::WV [] X.env:=by rfl):PE X (.Call (.Name x p) [e] [] pos) (tCB r (zcx te zkm)):=yG hc w hm hv (za he zd s) hn m s rfl
def pb2 {m:Expr}{B:TE}(hc:qZ X (.builtin id) r)(hm:X.mg x=none)(hv:UG x=some (.builtin id))(he:PE X e te)(D:PE X m B)(E:Gl X x:=by rfl)(hn:x ≠ "__name__":=by decide)(s:(x==("__debug__":Str))=false:=by decide)(w:WV [e,m] X.env=(false,eval e X.env)::WV [m] X.env:=by rfl)(A:WV [m] X.env=(false,eval m X.env)::WV [] X.env:=by rfl):PE X (.Call (.Name x p) [e,m] [] pos) (tCB r (zcx te (zcx B zkm))):=yG hc E hm hv (za he (za D zd A) w) hn s w (by rw[A];rfl)
def pt1 (hc:qZ X (.type T) r)(hm:X.mg x=none)(hv:UG x=some (.type T))(he:PE X e te)(w:Gl X x:=by rfl)(hn:x ≠ "__name__":=by decide)(m:(x==("__debug__":Str))=false:=by decide)(s:WV [e] X.env=(false,eval e X.env)::WV [] X.env:=by rfl):PE X (.Call (.Name x p) [e] [] pos) (tCB r (zcx te zkm)):=zko hc w hm hv (za he zd s) hn m s rfl
def prg {tg:Expr}(r:X.mg "range"=none)(he:PE X e te)(s:Gl X "range":=by rfl)(m:WV [e] X.env=(false,eval e X.env)::WV [] X.env:=by rfl):PI X tg (.Call (.Name "range" p) [e] [] pos) (zpq (zcx te zkm)):=zkh s r (za he zd m) m
end
section
variable {X:Cx}
def zqP (K:XW)(S:Addr)(sp:Sp)(s:TA)(w:TS):TS:=λD σ H=>s σ H λvs r=>sp vs r (λ_ m=>D.nx σ m)
 (λc _ m=>∃C,c=.ref C/\Tv K C (.ref S)=some true/\∀e,m e=none->w D σ (upd m e (exO e C)))
def zmr {k:Nat}{f xS:Str}{fA S:Addr}{fd:XF}{ps:AD}{sp:Sp}{ta:TA}{ts:TS}{e0:Expr}{es:List Expr}{fp cp ap al hp pos:Pos}{b0:Stmt}{E:List Stmt}
  (G:X.stack=X.env::X.outer) (af:X.env.frame=some X.env.locals) (F:zY X.prog X.w X.K X.mg X.base (CXE X.prog X.w) k fA fd ps sp) (hr:JU k X.A) (hg:Gl X f) (hm:X.mg f=some (.ref fA)) (hk:T1 X.K (.ref fA)=true) (hb:Binds X.K fd ps [])
  (gS:Gl X xS) (O:J6 X.K X.mg xS S)
  (ha:PA X.nox (e0::es) ta) (hs:∀e,PSs (markX X e) (b0::E) ts)
  (he:WV (e0::es) X.env=(false,eval e0 X.env)::WV es X.env:=by rfl) (ah:(Tl cp (WV es X.env)).any (·.1)=false:=by rfl) (ae:(f==("__debug__":Str))=false:=by decide) (ac:(xS==("__debug__":Str))=false:=by decide)
  (aj:R5 (.Call (.Name f fp) (e0::es) [] cp) none ap.line X.env=pure false:=by rfl) :
  PS X (.Try [.Expr (.Call (.Name f fp) (e0::es) [] cp) ap] [.ExceptHandler (some (.Name xS al)) none (b0::E) hp] [] [] pos) (zqP X.K S sp ta ts):=by
 intro bz s σ H D I h;refine wpAny_Try_except (SC ?_);refine wpAny_Expr_any (Tf (zan I hg hm ?_ ae)) I.quiet aj;refine PySem.W.callWith_K (h₀:=X.base) I.ok.mod.kin hk (Vo (ha cp bz s σ H _ (I.wish _) h) (λus s1 ⟨vs,H1,aa,r,q⟩=>⟨aa.kIn,?_⟩) λ_ _ z=>Vn z) he ah;have Y:Inv X bz σ H1 s1:=aa.unwish;have ab:us.length=ps.length:=by rw[<- r.length];exact F.len _ _ _ _ q
 have bt:=hb s1 us Y.kIn (by rw[Xx];exact ab);rw[Xx]at bt;refine wpAny_call (S4 (F.run X.A X.stack s1 H1 ⟨us,[]⟩ us vs _ _ hr Y.env0 bt r q) λak s' hq=>?_);cases ak with
 | ok fl =>
  cases fl with
  | ret u =>
   obtain⟨v,H2,I2,rv,q2⟩:=Y.after hq;exact Uf (Uf ⟨_,H2,I2,q2⟩)
  | next=>exact Vn hq
  | brk=>exact Vn hq
  | cont=>exact Vn hq
 | error y =>
  revert hq;refine dQ λe C a0 B H'=>c9 λz0 Fl=>dG λC'=>c9 λec ag ai=>?_;subst z0;cases ec;have ff:=Fl.fly;rw[G]at ff;refine wpAny_looks_onW (by rw[Y.ok.frames,G]) af ff λh4 aq am=>?_;refine wpAny_landsW aq λh5 M an=>?_;have up:=am.trans an;have I5:=Fl.caught Y (h:=h5) (by rw[G];exact M) up;refine wpAny_handleBy_cons (codeAny_handlers_test (zan (X:=markX X e) (I5.mark e) gS O.g ?_ ac)) (by intro z;cases z);obtain⟨bm,OS⟩:=zpw I5.kIn O.q;refine dj (λoe as q1 q2 q3 _=>?_) M.first;refine zoa OS q1 q2 (PySem.W.looks_mroIn I5.kIn ag) (codeAny_handlers_suite ?_);refine lands_againW M λh6 ar ao=>?_;have I6:=Fl.caught Y (h:=h6) (by rw[G];exact ar) (up.trans ao);refine Vo (hs e bz _ _ _ _ (I6.mark e) (ai e Fl.free)) (λfl s8 m=>?_) λ_ _ z=>z.elim;cases fl with
  | next =>
   obtain⟨U,J,L,m⟩:=m;exact⟨_,J,L.unmark I.ok,m⟩
  | brk =>
   obtain⟨U,J,L,m⟩:=m;exact⟨_,J,L.unmark I.ok,m⟩
  | cont =>
   obtain⟨U,J,L,m⟩:=m;exact⟨_,J,L.unmark I.ok,m⟩
  | ret u =>
   obtain⟨v8,U,J,L,r8,m⟩:=m;exact⟨v8,_,J,L.unmark I.ok,r8,m⟩
set_option maxRecDepth 8000 in
theorem zov (l:Addr)(r:Array X7)(n:Nat)(b:Addr)(m:Array X7)(M:Nat)(I:Option Addr)(O:Array (Option X7))(L:¬(!r.isEmpty&&VJ (r.size+m.size))=true)(B:r.size<=Xv)(D:r.size+m.size<=Xv+1) :
  Meets (UM.«list.extend» ⟨[.ref l,.ref b],[]⟩) (λ_ R s=>s.heap.get? l=some { cls:=.type "list",dict:=none,data:=.seq r n,slots:=#[] }/\s.heap.get? b=some { cls:=.type "tuple",dict:=I,data:=.seq m M,slots:=O }/\R (.ok (.ret UC)) { s with heap:=s.heap.update l (Vm λx=>x++m),toks:=s.toks }) :=
 .of_wp λG w A R s h=>by
  obtain⟨U,g,d,Y,os⟩:=s;obtain⟨hl,J,h⟩:=h;have E:(r++m).size<=Xv+1:=by rw[SO];exact D
  wp_walk using (PD hl rfl (hz:=B) (_hz':=E)),Wg hl,Wg J;exact⟨_,rfl,h⟩
def zms:V->AE->Hp->VK->Prop:=λx vs H Q=>∃l b xs m,x=.ref l/\vs=[.ref b]/\H l=some (.lst xs)/\H b=some (.tup m)/\xs.length+m.length<=Xv/\Q .non (upd H l (.lst (xs++m)))
def zib:MtM X "list.extend" zms:=by
 intro bz s σ H x vs v us Q I rx rv h;obtain⟨l,b,xs,zs,rfl,rfl,G,hB,hz,q⟩:=h;cases rx;obtain⟨u,rfl,ru⟩:=rv.one;cases ru;obtain⟨z,w,n,r,hl,e⟩:=I.lstM G;obtain⟨z2,m,L,o2,Y,D,J,E⟩:=I.hok b _ hB;have aa:=L.length;obtain⟨M,O,U,sl⟩:=o2;have D:M=.type "tuple":=D;have E:U=.seq m.toArray J:=E;subst D;subst E;have B:w.toArray.size+m.toArray.size<=Xv:=by rw[Xy,Xy];lia
 have A:¬ (!w.toArray.isEmpty&&VJ (w.toArray.size+m.toArray.size))=true:=by
  rw[zcz B,RZ];exact XT
 refine R1 F.slot_list_extend ⟨_,e,rfl⟩ OT (O6 _ _)
  (zov l w.toArray n b m.toArray J O sl A (by rw[Xy];lia) (by lia)) ⟨e,Y,?_⟩
 refine⟨.non,_,I.lset (its':=w++m) G e (by simp) (r.append L) ?_,rfl,q⟩;rw[X6];lia
end
end L2
namespace Cells
def zK (p:Nat->Bool)(i:Nat):Nat->List Nat->AB
 | _,[]=>[]
 | j,c::r=>(if p c=true then [(i,j)] else [])++zK p i (j+1) r
def zz (p:Nat->Bool):Nat->List (List Nat)->AB
 | _,[]=>[]
 | i,t::r=>zK p i 0 t++zz p (i+1) r
theorem Z8 (p:Nat->Bool)(i:Nat):∀(j:Nat) (a b:List Nat),zK p i j (a++b)=zK p i j a++zK p i (j+a.length) b
 | j,[],b=>by simp[zK]
 | j,c::a,b=>by
  simp only[Rl,zK,Z8 p i (j+1) a b,Xn,W9];rw[show j+1+a.length=j+(a.length+1) by lia]
theorem Z9 (p:Nat->Bool):∀(i:Nat) (a b:List (List Nat)),zz p i (a++b)=zz p i a++zz p (i+a.length) b
 | i,[],b=>by simp[zz]
 | i,t::a,b=>by
  simp only[Rl,zz,Z9 p (i+1) a b,Xn,W9];rw[show i+1+a.length=i+(a.length+1) by lia]
def Yb {p:Nat->Bool}{i j c:Nat}{t:List Nat}(h:t[j]?=some c):zK p i 0 (t.take (j+1))=zK p i 0 (t.take j)++(if p c=true then [(i,j)] else []):=by
 rw[Xe,h,Z8];have hl:(t.take j).length=j:=by
  have:=(XV.mp h).1;rw[XM];lia
 simp[zK,hl]
def Yc {p:Nat->Bool}{i:Nat}{t:List Nat}{rs:List (List Nat)}(h:rs[i]?=some t):zz p 0 (rs.take (i+1))=zz p 0 (rs.take i)++zK p i 0 t:=by
 rw[Xe,h,Z9];have hl:(rs.take i).length=i:=by
  have:=(XV.mp h).1;rw[XM];lia
 simp[zz,hl]
theorem jA (p:Nat->Bool)(i:Nat):∀(j:Nat) (t:List Nat),(zK p i j t).length<=t.length
 | j,[]=>by simp[zK]
 | j,c::r=>by
  have:=jA p i (j+1) r;simp only[zK,X6,Xn];split<;>simp<;>lia
theorem qL (p:Nat->Bool):∀(i:Nat) (rs:List (List Nat)),(∀t∈rs,t.length<=8)->(zz p i rs).length<=8*rs.length
 | i,[],_=>by simp[zz]
 | i,t::r,h=>by
  have s:=jA p i 0 t;have w:=qL p (i+1) r λu m=>h u (Y1 _ m);have A:=h t X5;simp only[zz,X6,Xn];lia
theorem Jr {p:Nat->Bool}{i:Nat}:∀{j:Nat} {t:List Nat} {x:AA},x∈zK p i j t->∃m c,x=(i,j+m)/\t[m]?=some c/\p c=true
 | j,[],x,h=>by simp[zK]at h
 | j,c::r,x,h=>by
  simp only[zK,XU]at h;rcases h with h | h
  .split at h
   .rename_i hp;have:x=(i,j):=by simpa using h
    exact⟨0,c,this,rfl,hp⟩
   .cases h
  .obtain⟨m,s,e,w,A⟩:=Jr h;exact⟨m+1,s,by rw[e,show j+1+m=j+(m+1) by lia],by simpa using w,A⟩
def yu {p:Nat->Bool}{i:Nat}{rs:List (List Nat)}{x:AA}(h:x∈zz p i rs):∃k j t c,x=(i+k,j)/\rs[k]?=some t/\t[j]?=some c/\p c=true:=by
 induction rs generalizing i with
 | nil=>simp[zz]at h
 | cons t r B =>
  simp only[zz,XU]at h;rcases h with h | h
  .obtain⟨m,c,e,s,w⟩:=Jr h;exact⟨0,m,t,c,by simpa using e,rfl,s,w⟩
  .obtain⟨k,j,u,c,e,s,w,A⟩:=B h;exact⟨k+1,j,u,c,by rw[e,show i+1+k=i+(k+1) by lia],by simpa using s,w,A⟩
def sgn (rs:List (List Nat))(x:AA):Nat:=(rs.getD x.1 []).getD x.2 0
theorem zaG {p q:Nat->Bool}{i:Nat}(f:AA->Bool):∀(j:Nat) (t:List Nat),(∀m c,t[m]?=some c->f (i,j+m)=q c)->(zK p i j t).filter f=zK (λc=>p c&&q c) i j t
 | j,[],_=>by simp[zK]
 | j,c::r,h=>by
  have B:=zaG (p:=p) (q:=q) (i:=i) f (j+1) r λm A hm=>by
   have:=h (m+1) A (by simpa using hm);rw[show j+1+m=j+(m+1) by lia];exact this
  have s:=h 0 c rfl;simp only[zK,W6,B];congr 1;simp only[P6]at s;by_cases w:p c=true
  .by_cases hq:q c=true
   .simp[w,hq,s]
   .simp[w,hq,s]
  .simp[w]
theorem zaH {p q:Nat->Bool}(f:AA->Bool):∀(i:Nat) (rs:List (List Nat)),(∀k t m c,rs[k]?=some t->t[m]?=some c->f (i+k,m)=q c)->(zz p i rs).filter f=zz (λc=>p c&&q c) i rs
 | i,[],_=>by simp[zz]
 | i,t::r,h=>by
  have s:=zaH (p:=p) (q:=q) f (i+1) r λk u m c hk hm=>by
   have:=h (k+1) u m c (by simpa using hk) hm;rw[show i+1+k=i+(k+1) by lia];exact this
  simp only[zz,W6,s];rw[zaG (p:=p) (q:=q) f 0 t λm c hm=>by simpa using h 0 t m c rfl hm]
def zcV {rs:List (List Nat)}{i j:Nat}{t:List Nat}{c:Nat}(h:rs[i]?=some t)(m:t[j]?=some c):sgn rs (i,j)=c:=by
 unfold sgn;simp[List.getD,h,m]
def all_filter {p q:Nat->Bool}(rs:List (List Nat)):(zz p 0 rs).filter (λx=>q (sgn rs x))=zz (λc=>p c&&q c) 0 rs :=
 zaH _ 0 rs λk t m c hk hm=>by rw[show 0+k=k by lia,zcV hk hm]
def zbN {p q:Nat->Bool}(h:∀c,p c=q c)(i:Nat)(rs:List (List Nat)):zz p i rs=zz q i rs:=by
 rw[show p=q from funext h]
def near (x y:AA):Bool:=decide ((if (x.1:Int)-(y.1:Int)<0 then -((x.1:Int)-(y.1:Int)) else (x.1:Int)-(y.1:Int))<2)&&(decide ((if (x.2:Int)-(y.2:Int)<0 then -((x.2:Int)-(y.2:Int)) else (x.2:Int)-(y.2:Int))<2) && !decide (x=y))
def JG (x y:AA):near x y=true↔(x.1<=y.1+1/\y.1<=x.1+1)/\(x.2<=y.2+1/\y.2<=x.2+1)/\¬ x=y:=by
 unfold near;rw[Wj,Wj,decide_eq_true_iff,decide_eq_true_iff,WA,decide_eq_false_iff_not];constructor
 .rintro⟨h1,h2,h3⟩;refine⟨?_,?_,h3⟩
  .split at h1<;>lia
  .split at h2<;>lia
 .rintro⟨h1,h2,h3⟩;refine⟨?_,?_,h3⟩
  .split<;>lia
  .split<;>lia
def lex (a b:AA):Prop:=a.1<b.1\/(a.1=b.1/\a.2<b.2)
theorem zeq (p:Nat->Bool)(i:Nat):∀(j:Nat) (t:List Nat),(zK p i j t).Pairwise lex
 | j,[]=>by simp[zK]
 | j,c::r=>by
  simp only[zK];rw[TZ];refine⟨?_,zeq p i (j+1) r,λa ha b w=>?_⟩
  .split<;>simp
  .split at ha
   .have e:a=(i,j):=by simpa using ha
    obtain⟨m,A,s,_,_⟩:=Jr w;subst e s;exact .inr ⟨rfl,by show j<j+1+m;lia⟩
   .cases ha
theorem Js (p:Nat->Bool):∀(i:Nat) (rs:List (List Nat)),(zz p i rs).Pairwise lex
 | i,[]=>by simp[zz]
 | i,t::r=>by
  simp only[zz];rw[TZ];refine⟨zeq p i 0 t,Js p (i+1) r,λa ha b w=>?_⟩;obtain⟨m,c,e,_,_⟩:=Jr ha;obtain⟨k,j,u,A,s,_,_,_⟩:=yu w;subst e s;exact .inl (by show i<i+1+k;lia)
def zmt {p:Nat->Bool}{f:AA->Bool}{n:Nat}{rs:List (List Nat)}(h:∀r c,r<n->f (r,c)=false):(zz p 0 (rs.take n)).filter f=[]:=by
 rw[Wn];intro x hx;obtain⟨k,j,t,c,e,hk,_,_⟩:=yu hx;have m:k<n:=by
  have:=(XV.mp hk).1;rw[XM]at this;lia
 subst e;rw[h _ _ (by lia)];exact XT
def zkX {p:Nat->Bool}{f:AA->Bool}{n:Nat}{rs:List (List Nat)}(h:∀r c,n<=r->f (r,c)=false):(zz p 0 (rs.take n)).filter f=(zz p 0 rs).filter f:=by
 by_cases hn:n<=rs.length
 .have e:=WU n rs;have m:zz p 0 rs=zz p 0 (rs.take n)++zz p (0+(rs.take n).length) (rs.drop n):=by rw[<- Z9,e]
  rw[m,W6];have z:(zz p (0+(rs.take n).length) (rs.drop n)).filter f=[]:=by
   rw[Wn];intro x hx;obtain⟨k,j,t,c,e,hk,_,_⟩:=yu hx;subst e;rw[XM,h _ _ (by lia)];exact XT
  rw[z,Xx]
 .rw[WT (by lia)]
def zmu {p:Nat->Bool}{f:AA->Bool}{i n:Nat}{t:List Nat}(h:∀c,c<n->f (i,c)=false):(zK p i 0 (t.take n)).filter f=[]:=by
 rw[Wn];intro x hx;obtain⟨m,c,e,hm,_⟩:=Jr hx;have r:m<n:=by
  have:=(XV.mp hm).1;rw[XM]at this;lia
 subst e;rw[h _ (by lia)];exact XT
def zkY {p:Nat->Bool}{f:AA->Bool}{i n:Nat}{t:List Nat}(h:∀c,n<=c->f (i,c)=false):(zK p i 0 (t.take n)).filter f=(zK p i 0 t).filter f:=by
 by_cases hn:n<=t.length
 .have e:=WU n t;have r:zK p i 0 t=zK p i 0 (t.take n)++zK p i (0+(t.take n).length) (t.drop n):=by rw[<- Z8,e]
  rw[r,W6];have z:(zK p i (0+(t.take n).length) (t.drop n)).filter f=[]:=by
   rw[Wn];intro x hx;obtain⟨m,c,e,hm,_⟩:=Jr hx;subst e;rw[XM,h _ (by lia)];exact XT
  rw[z,Xx]
 .rw[WT (by lia)]
end Cells
namespace Parts
abbrev C:=AA
structure Good (cl:C->List C)(done:List C)(gs:List (List C)):Prop where
 ne:∀g∈gs,g ≠ []
 nd:gs.flatten.Nodup
 from_:∀x∈gs.flatten,∃o∈done,x∈cl o
 cov:∀o∈done,cl o ≠ []->∃g∈gs,∀x∈cl o,x∈g
 con:∀g∈gs,∀S:C->Prop,(∀o∈done,(∃x∈cl o,S x)->∀x∈cl o,S x)->(∃x∈g,S x)->∀x∈g,S x
 srt:∀g∈gs,g.Pairwise Cells.lex
def Good.start (cl:C->List C):Good cl [] []:=⟨(λ_ h=>nomatch h),Vf,(λ_ h=>nomatch h),(λ_ h=>nomatch h),(λ_ h=>nomatch h),(λ_ h=>nomatch h)⟩
def Good.skip {cl:C->List C}{done:List C}{gs:List (List C)}(G:Good cl done gs){o:C}(h:cl o=[]):Good cl (done++[o]) gs:=by
 refine⟨G.ne,G.nd,λx hx=>?_,λp hp hn=>?_,λg r S m=>G.con g r S λp hp=>m p (W4 _ hp),G.srt⟩
 .obtain⟨p,hp,hx⟩:=G.from_ x hx;exact⟨p,W4 _ hp,hx⟩
 .rcases XU.mp hp with hp | hp
  .exact G.cov p hp hn
  .have e:p=o:=by simpa using hp
   subst e;exact absurd h hn
def zer {gs:List (List C)}(D:gs.flatten.Nodup):∀{g g':List C} {x:C},g∈gs->g'∈gs->x∈g->x∈g'->g=g':=by
 induction gs with
 | nil=>intro g g' x h;cases h
 | cons a r I =>
  rw[VZ,WX]at D;obtain⟨_,E,B⟩:=D;intro g g' x G s hx m;rcases XQ.mp G with A | g1
  .rcases XQ.mp s with w | g2
   .rw[A,w]
   .exact absurd rfl (B x (A ▸ hx) x (Wh.mpr ⟨g',g2,m⟩))
  .rcases XQ.mp s with w | g2
   .exact absurd rfl (B x (w ▸ m) x (Wh.mpr ⟨g,g1,hx⟩))
   .exact I E g1 g2 hx m
theorem qS (p:List C->Bool):∀gs:List (List C),(gs.filter p).flatten.Sublist gs.flatten
 | []=>List.Sublist.refl _
 | a::r=>by
  rw[WB,VZ];split
  .rw[VZ];exact List.Sublist.append (List.Sublist.refl _) (qS p r)
  .exact List.Sublist.trans (qS p r) (List.sublist_append_right _ _)
def meets (m g:List C):Bool:=!(g.filter λc=>m.any λx=>decide (x=c)).isEmpty
def ZG {m g:List C}:meets m g=true ↔ ∃x∈g,x∈m:=by
 unfold meets;rw[WA,Vq];constructor
 .intro h;obtain⟨x,hx⟩:=TK _ h;rw[X8,WL]at hx;obtain⟨r,y,s,w⟩:=hx;have e:y=x:=bg w;subst e;exact⟨y,r,s⟩
 .rintro⟨x,r,s⟩ hn;have:x∈g.filter λc=>m.any λx=>decide (x=c):=X8.mpr ⟨r,WL.mpr ⟨x,s,br rfl⟩⟩;rw[hn]at this;cases this
def whole (w:List C):List (List C)->List C
 | []=>w
 | g::r=>whole (w++g.filter λc=>!(w.any λx=>decide (x=c))) r
def zaI (w:List C)(c:C):(w.any λx=>decide (x=c))=true↔c∈w:=by
 rw[WL];constructor
 .rintro⟨x,h1,h2⟩;have e:x=c:=bg h2;subst e;exact h1
 .intro h;exact⟨c,h,br rfl⟩
theorem zbj {x:C}:∀{w:List C} {A:List (List C)},x∈whole w A↔x∈w\/∃m∈A,x∈m
 | w,[]=>by simp[whole]
 | w,g::r=>by
  rw[whole,zbj,XU,X8];constructor
  .rintro((h | ⟨h,_⟩) | ⟨m,hm,h⟩)
   .exact .inl h
   .exact .inr ⟨g,X5,h⟩
   .exact .inr ⟨m,Y1 _ hm,h⟩
  .rintro(h | ⟨m,hm,h⟩)
   .exact .inl (.inl h)
   .rcases XQ.mp hm with rfl | hm
    .by_cases s:x∈w
     .exact .inl (.inl s)
     .refine .inl (.inr ⟨h,?_⟩);rw[WA,Xk];exact λz=>s ((zaI w x).mp z)
    .exact .inr ⟨m,hm,h⟩
theorem Y5:∀{w:List C} {B:List (List C)},w.Nodup->(∀m∈B,m.Nodup)->(whole w B).Nodup
 | w,[],h,_=>h
 | w,g::r,h,hm=>by
  rw[whole];refine Y5 ?_ λm A=>hm m (Y1 _ A);rw[WX];refine⟨h,(hm g X5).sublist Xm,λa ha b D e=>?_⟩;subst e;have s:=(X8.mp D).2;rw[(zaI w a).mpr ha]at s;cases s
def Good.step {cl:C->List C}{done:List C}{gs:List (List C)}(G:Good cl done gs){o:C}(h:cl o ≠ [])(hn:(cl o).Nodup){s:List (List C)}{w:List C}(hr:s=gs.filter λg=>!((gs.filter (meets (cl o))).any λm=>decide (m=g)))
  (hw:w.Perm (whole (cl o) (gs.filter (meets (cl o))))) (hs:w.Pairwise Cells.lex):Good cl (done++[o]) (s++[w]):=by
 have L:∀g,g∈s↔g∈gs/\¬ ∃x∈g,x∈cl o:=λg=>by
  rw[hr,X8,WA,Xk];constructor
  .rintro⟨r,B⟩;exact⟨r,λD=>B (WL.mpr ⟨g,X8.mpr ⟨r,ZG.mpr D⟩,br rfl⟩)⟩
  .rintro⟨r,B⟩;refine⟨r,λD=>?_⟩;obtain⟨m,hm,e⟩:=WL.mp D;have e':m=g:=bg e;subst e';exact B (ZG.mp (X8.mp hm).2)
 have J:∀x,x∈w↔x∈cl o\/∃g∈gs,(∃y∈g,y∈cl o)/\x∈g:=λx=>by
  rw[hw.mem_iff,zbj];constructor
  .rintro(r | ⟨m,hm,r⟩)
   .exact .inl r
   .obtain⟨B,D⟩:=X8.mp hm;exact .inr ⟨m,B,ZG.mp D,r⟩
  .rintro(r | ⟨g,B,D,r⟩)
   .exact .inl r
   .exact .inr ⟨g,X8.mpr ⟨B,ZG.mpr D⟩,r⟩
 have gn:∀g∈gs,g.Nodup:=λg hg=>G.nd.sublist (UZ hg);have wn:w.Nodup:=hw.nodup_iff.mpr (Y5 hn λm hm=>gn m (X8.mp hm).1);refine⟨λg hg=>?_,?_,λx hx=>?_,λp hp aa=>?_,λg hg S hS=>?_,λg hg=>?_⟩
 .rcases XU.mp hg with hg | hg
  .exact G.ne g ((L g).mp hg).1
  .have e:g=w:=by simpa using hg
   subst e;obtain⟨x,hx⟩:=TK _ h;exact Ui ((J x).mpr (.inl hx))
 .rw[V0,WX];refine⟨G.nd.sublist (by rw[hr];exact qS _ gs),by simpa using wn,λa ha b hb e=>?_⟩;subst e;have Y:a∈w:=by simpa using hb
  obtain⟨g,hg,hx⟩:=Wh.mp ha;obtain⟨U,g2⟩:=(L g).mp hg;rcases(J a).mp Y with r | ⟨m,M,m2,O⟩
  .exact g2 ⟨a,hx,r⟩
  .have e:=zer G.nd U M hx O;subst e;exact g2 m2
 .rw[V0]at hx;rcases XU.mp hx with hx | hx
  .obtain⟨g,hg,hx⟩:=Wh.mp hx;obtain⟨p,hp,hx⟩:=G.from_ x (Wh.mpr ⟨g,((L g).mp hg).1,hx⟩);exact⟨p,W4 _ hp,hx⟩
  .have I:x∈w:=by simpa using hx
   rcases(J x).mp I with r | ⟨g,U,_,g3⟩
   .exact⟨o,by simp,r⟩
   .obtain⟨p,hp,hx⟩:=G.from_ x (Wh.mpr ⟨g,U,g3⟩);exact⟨p,W4 _ hp,hx⟩
 .rcases XU.mp hp with hp | hp
  .obtain⟨g,hg,hx⟩:=G.cov p hp aa;by_cases hm:∃x∈g,x∈cl o
   .exact⟨w,by simp,λx I=>(J x).mpr (.inr ⟨g,hg,hm,hx x I⟩)⟩
   .exact⟨g,W4 _ ((L g).mpr ⟨hg,hm⟩),hx⟩
  .have e:p=o:=by simpa using hp
   subst e;exact⟨w,by simp,λx hx=>(J x).mpr (.inl hx)⟩
 .have E:∀p∈done,(∃x∈cl p,S x)->∀x∈cl p,S x:=λp hp=>hS p (W4 _ hp);rcases XU.mp hg with hg | hg
  .exact G.con g ((L g).mp hg).1 S E
  .have e:g=w:=by simpa using hg
   subst e;rintro⟨x,hx,sx⟩;have A:∀y∈cl o,S y:=by
    refine hS o (by simp) ?_;rcases(J x).mp hx with r | ⟨m,M,⟨y,y1,y2⟩,O⟩
    .exact⟨x,r,sx⟩
    .exact⟨y,y2,G.con m M S E ⟨x,O,sx⟩ y y1⟩
   intro z hz;rcases(J z).mp hz with r | ⟨m,M,⟨y,y1,y2⟩,O⟩
   .exact A z r
   .exact G.con m M S E ⟨y,y1,A y y2⟩ z O
 .rcases XU.mp hg with hg | hg
  .exact G.srt g ((L g).mp hg).1
  .have e:g=w:=by simpa using hg
   subst e;exact hs
def Good.perm {cl:C->List C}{done:List C}{gs r:List (List C)}(G:Good cl done gs)(h:r.Perm gs):Good cl done r:=by
 refine⟨λg m=>G.ne g (h.mem_iff.mp m),h.flatten.nodup_iff.mpr G.nd,λx hx=>G.from_ x (h.flatten.mem_iff.mp hx),λo s hn=>?_,λg m=>G.con g (h.mem_iff.mp m),λg m=>G.srt g (h.mem_iff.mp m)⟩;obtain⟨g,m,hx⟩:=G.cov o s hn;exact⟨g,h.mem_iff.mpr m,hx⟩
theorem zaJ:∀{gs:List (List C)},(∀g∈gs,g ≠ [])->gs.length<=gs.flatten.length
 | [],_=>XR _
 | g::r,h=>by
  have m:=zaJ (gs:=r) λx hx=>h x (Y1 _ hx);have:1<=g.length:=List.length_pos_iff.mpr (h g X5);rw[VZ,X6,Xn];lia
theorem jW:∀{a b:List C},a.Nodup->(∀x∈a,x∈b)->a.length<=b.length
 | [],_,_,_=>W3 _
 | x::r,b,h,s=>by
  obtain⟨m,w⟩:=WS.mp h;have hx:=s x X5;have A:=jW (a:=r) (b:=b.erase x) w λy hy=>(List.mem_erase_of_ne (λ(e:y=x)=>m (by rw[<- e];exact hy))).mpr (s y (Y1 _ hy));rw[Tq hx]at A;have:=SL hx;rw[Xn];lia
end Parts
namespace Subs
variable {α:Type}
def step (S:List (List α))(c:α):List (List α):=S++S.map (·++[c])
def subs (m:List α):List (List α):=m.foldl step [[]]
def pick:List α->Nat->List α
 | [],_=>[]
 | c::r,b=>(if b%2=1 then [c] else [])++pick r (b/2)
def zkZ (m:List α)(c:α):subs (m++[c])=step (subs m) c:=by
 unfold subs;rw[UF];rfl
theorem zjq:∀(m:List α) (c:α) (b:Nat),b<2^m.length->pick (m++[c]) b=pick m b
 | [],c,b,h=>by
  have:b=0:=by
   simp at h;lia
  subst this;rfl
 | d::r,c,b,h=>by
  show _++pick (r++[c]) (b/2)=_++pick r (b/2);rw[zjq r c (b/2) (by
   rw[Xn,Ul]at h;lia)]
theorem zjr:∀(m:List α) (c:α) (b:Nat),b<2^m.length->pick (m++[c]) (2^m.length+b)=pick m b++[c]
 | [],c,b,h=>by
  have:b=0:=by
   simp at h;lia
  subst this;rfl
 | d::r,c,b,h=>by
  rw[Xn,Ul]at h;show (if (2^(r.length+1)+b)%2=1 then [d] else [])++pick (r++[c]) ((2^(r.length+1)+b)/2)=((if b%2=1 then [d] else [])++pick r (b/2))++[c];have s:(2^(r.length+1)+b)%2=b%2:=by
   rw[Ul];lia
  have w:(2^(r.length+1)+b)/2=2^r.length+b/2:=by
   rw[Ul];lia
  rw[s,w,zjr r c (b/2) (by lia),W9]
def zes (m:List α):subs m=(WG (2^m.length)).map (pick m):=by
 rw[<- Sj m];induction m.reverse with
 | nil=>rfl
 | cons c r w =>
  rw[List.reverse_cons,zkZ,w,X6,Pz,Ul,Nat.mul_two,List.range_add,XB,Ws];unfold step;rw[Ws];congr 1
  .refine Xb λb s=>?_;exact(zjq _ _ _ (Wv.mp s)).symm
  .refine Xb λb s=>?_;exact(zjr _ _ _ (Wv.mp s)).symm
end Subs
namespace Grow
variable {α β:Type}
def cnt (near:β->α->Bool)(o:β)(p:List α):Nat:=(p.filter (near o)).length
def zcW (near:β->α->Bool)(m:β->Int)(r:List α)(o:β)(p:List α):Bool:=decide (m o-((cnt near o r:Nat):Int)<=((cnt near o p:Nat):Int))&&decide (((cnt near o p:Nat):Int)<=m o)
def chk (near:β->α->Bool)(r:β->Int)(O:List β)(c:α)(m:List α)(p:List α):Bool:=(O.filter λo=>near o c).all λo=>zcW near r m o p
def grow (near:β->α->Bool)(r:β->Int)(O:List β):List (List α)->List α->List (List α)
 | F,[]=>F
 | F,c::m=>grow near r O ((Subs.step F c).filter (chk near r O c m)) m
def good (near:β->α->Bool)(r:β->Int)(O:List β)(done m:List α)(p:List α):Bool:=(O.filter λo=>done.any (near o)).all λo=>zcW near r m o p
def cnt_cons (near:β->α->Bool)(o:β)(c:α)(r:List α):cnt near o (c::r)=cnt near o r+if near o c=true then 1 else 0:=by
 unfold cnt;rw[WB];split<;>rfl
def zgF (near:β->α->Bool)(o:β)(p:List α)(c:α):cnt near o (p++[c])=cnt near o p+if near o c=true then 1 else 0:=by
 unfold cnt;rw[W6,X6];congr 1;rw[WB];split<;>rfl
def yk {near:β->α->Bool}{r:β->Int}{m:List α}{o:β}{p:List α}:zcW near r m o p=true↔r o-((cnt near o m:Nat):Int)<=((cnt near o p:Nat):Int)/\((cnt near o p:Nat):Int)<=r o:=by
 unfold zcW;rw[Wj,bu,bu]
def zjs {near:β->α->Bool}{r:β->Int}{O:List β}{c:α}{m p:List α}:chk near r O c m p=true ↔ ∀o∈O,near o c=true->zcW near r m o p=true:=by
 unfold chk;rw[WC];exact⟨λh o s hn=>h o (X8.mpr ⟨s,hn⟩),λh o s=>h o (X8.mp s).1 (X8.mp s).2⟩
def Y6 {near:β->α->Bool}{r:β->Int}{O:List β}{done m p:List α}:good near r O done m p=true ↔ ∀o∈O,done.any (near o)=true->zcW near r m o p=true:=by
 unfold good;rw[WC];exact⟨λh o s hn=>h o (X8.mpr ⟨s,hn⟩),λh o s=>h o (X8.mp s).1 (X8.mp s).2⟩
def ZH (near:β->α->Bool)(o:β)(done:List α)(c:α):(done++[c]).any (near o)=true↔done.any (near o)=true\/near o c=true:=by
 rw[List.any_append,Bool.or_eq_true];simp
def zow (near:β->α->Bool)(r:β->Int)(O:List β)(done m:List α)(c:α)(p:List α):(good near r O done (c::m) p&&chk near r O c m p)=good near r O (done++[c]) m p:=by
 rw[WN,Wj,Y6,zjs,Y6];constructor
 .rintro⟨h1,h2⟩ o s hn;by_cases hc:near o c=true
  .exact h2 o s hc
  .have:=h1 o s (((ZH near o done c).mp hn).resolve_right hc);rw[yk,cnt_cons,bq hc]at this;exact yk.mpr this
 .intro h;refine⟨λo s hn=>?_,λo s hc=>h o s ((ZH near o done c).mpr (.inr hc))⟩;have:=yk.mp (h o s ((ZH near o done c).mpr (.inl hn)));rw[yk,cnt_cons];split<;>lia
def zox (near:β->α->Bool)(r:β->Int)(O:List β)(done m:List α)(c:α)(p:List α):(good near r O done (c::m) p&&chk near r O c m (p++[c]))=good near r O (done++[c]) m (p++[c]):=by
 rw[WN,Wj,Y6,zjs,Y6];constructor
 .rintro⟨h1,h2⟩ o s hn;by_cases hc:near o c=true
  .exact h2 o s hc
  .have:=h1 o s (((ZH near o done c).mp hn).resolve_right hc);rw[yk,cnt_cons,bq hc]at this;rw[yk,zgF,bq hc];exact this
 .intro h;refine⟨λo s hn=>?_,λo s hc=>h o s ((ZH near o done c).mpr (.inr hc))⟩;have:=yk.mp (h o s ((ZH near o done c).mpr (.inl hn)));rw[zgF]at this;rw[yk,cnt_cons];split at this<;>rename_i hc
  .rw[bw hc];lia
  .rw[bq hc];lia
def zk0 (near:β->α->Bool)(r:β->Int)(O:List β)(done m:List α)(c:α)(S:List (List α)):(Subs.step (S.filter (good near r O done (c::m))) c).filter (chk near r O c m)=(Subs.step S c).filter (good near r O (done++[c]) m):=by
 unfold Subs.step;rw[W6,W6];congr 1
 .rw[Vk];refine VY λp _=>?_;rw[<- zow,OE]
 .rw[To,To,Vk];congr 1;refine VY λp _=>?_;show (chk near r O c m (p++[c])&&good near r O done (c::m) p)=good near r O (done++[c]) m (p++[c]);rw[<- zox,OE]
theorem zet (near:β->α->Bool)(m:β->Int)(O:List β):∀(s done:List α) (S:List (List α)),grow near m O (S.filter (good near m O done s)) s=(s.foldl Subs.step S).filter (good near m O (done++s) [])
 | [],done,S=>by
  rw[Xx];rfl
 | c::r,done,S=>by
  show grow near m O ((Subs.step (S.filter (good near m O done (c::r))) c).filter (chk near m O c r)) r=_;rw[zk0,zet near m O r (done++[c]) (Subs.step S c),W9];rfl
def fits (near:β->α->Bool)(m:β->Int)(O:List β)(part:List α)(p:List α):Bool:=(O.filter λo=>part.any (near o)).all λo=>decide (((cnt near o p:Nat):Int)=m o)
def zoy (near:β->α->Bool)(m:β->Int)(O:List β)(part:List α):grow near m O [[]] part=(Subs.subs part).filter (fits near m O part):=by
 have h:=zet near m O part [] [[]];have e:([[]]:List (List α)).filter (good near m O [] part)=[[]]:=by
  have:good near m O [] part []=true:=Y6.mpr λo _ hn=>by simp at hn
  rw[WB,bw this];rfl
 rw[e]at h;rw[h];show (Subs.subs part).filter _=_;refine VY λp _=>?_;rw[PJ];unfold good fits;congr 1;funext o;rw[WN,yk,bu];show m o-((0:Nat):Int)<=_/\_↔_;lia
end Grow
namespace Cnt
variable {α:Type}
def JH (g:Nat)(ks:List (List α)):List Int:=(WG (g+1)).map λn=>((ks.countP λk=>decide (k.length=n):Nat):Int)
def zaK (g:Nat)(ks:List (List α)):(JH g ks).length=g+1:=by
 unfold JH;rw[ZB,WE]
def zmv (g:Nat):JH g ([]:List (List α))=Wp (g+1) 0:=by
 unfold JH;refine List.eq_replicate_iff.mpr ⟨by rw[ZB,WE],λb m=>?_⟩;obtain⟨n,_,rfl⟩:=XN.mp m;rfl
def zcX {g n:Nat}(ks:List (List α))(h:n<=g):(JH g ks)[n]?=some ((ks.countP λk=>decide (k.length=n):Nat):Int):=by
 unfold JH;rw[XC,TF (by lia)];rfl
def zk1 {g:Nat}(ks:List (List α)){k:List α}(h:k.length<=g):JH g (ks++[k])=(JH g ks).set k.length (((ks.countP λx=>decide (x.length=k.length):Nat):Int)+1):=by
 refine SQ λn=>?_;rw[List.getElem?_set];by_cases hn:n<=g
 .rw[zcX _ hn,zcX _ hn,zaK,List.countP_append];by_cases e:k.length=n
  .rw[bw e,bw (by lia)];subst e;simp
  .rw[bq e];simp[e]
 .have m:∀xs:List (List α),(JH g xs)[n]?=none:=λxs=>SF (by rw[zaK];lia);rw[m,m,zaK,bq (by lia)]
def zk2 {g:Nat}{as bs:List (List α)}(h:as.Perm bs):JH g as=JH g bs:=by
 unfold JH;refine Xb λn _=>?_;rw[h.countP_eq]
end Cnt
namespace Pour
def S (h:Nat->Int):Nat->Int
 | 0=>0
 | n+1=>S h n+h n
def F (xs:List Int)(i:Nat):Int:=(xs[i]?).getD 0
def hk (xs ys:List Int)(k i:Nat):Int:=if i<=k then F xs i*F ys (k-i) else 0
def QL (xs ys:List Int):List Int:=(WG (xs.length+ys.length-1)).map λk=>S (hk xs ys k) xs.length
def part (xs ys:List Int)(i j k:Nat):Int:=S (hk xs ys k) i+(if i<=k/\k-i<j then F xs i*F ys (k-i) else 0)
def st (xs ys:List Int)(i j:Nat):List Int:=(WG (xs.length+ys.length-1)).map (part xs ys i j)
def zcY {xs:List Int}{i:Nat}(h:xs.length<=i):F xs i=0:=by
 unfold F;rw[SF h];rfl
def zoz {xs:List Int}{i:Nat}{x:Int}(h:xs[i]?=some x):F xs i=x:=by
 unfold F;rw[h];rfl
theorem Yd {f g:Nat->Int}:∀n,(∀i,i<n->f i=g i)->S f n=S g n
 | 0,_=>rfl
 | n+1,h=>by
  show S f n+f n=S g n+g n;rw[Yd n λi hi=>h i (by lia),h n (by lia)]
theorem zmw {f:Nat->Int}{n:Nat}:∀m,(∀i,n<=i->i<n+m->f i=0)->S f (n+m)=S f n
 | 0,_=>rfl
 | m+1,h=>by
  show S f (n+m)+f (n+m)=S f n;rw[zmw m λi r s=>h i r (by lia),h (n+m) (by lia) (by lia),R7]
def zoA {f:Nat->Int}{n m:Nat}(hm:n<=m)(h:∀i,n<=i->i<m->f i=0):S f m=S f n:=by
 obtain⟨d,rfl⟩:∃d,m=n+d:=⟨m-n,by lia⟩;exact zmw d h
def zqR (xs ys:List Int)(k:Nat):S (hk xs ys k) xs.length=S (λi=>F xs i*F ys (k-i)) (k+1):=by
 have r:S (λi=>F xs i*F ys (k-i)) (k+1)=S (hk xs ys k) (k+1):=Yd _ λi hi=>by
  unfold hk;rw[bw (by lia)]
 rw[r];by_cases c:xs.length<=k+1
 .refine(zoA c λi m _=>?_).symm;unfold hk;rw[zcY m];split<;>simp
 .refine zoA (by lia) λi m _=>?_;unfold hk;rw[bq (by lia)]
def zic (xs ys:List Int)(i j:Nat):(st xs ys i j).length=xs.length+ys.length-1:=by
 unfold st;rw[ZB,WE]
def zid {xs ys:List Int}{i j k:Nat}(h:k<xs.length+ys.length-1):(st xs ys i j)[k]?=some (part xs ys i j k):=by
 unfold st;rw[XC,TF h];rfl
def zmx (xs ys:List Int):st xs ys 0 0=Wp (xs.length+ys.length-1) 0:=by
 unfold st;have e:∀k,part xs ys 0 0 k=0:=λk=>by
  unfold part;rw[bq (by lia)];rfl
 refine(Xb (g:=λ_=>(0:Int)) λk _=>e k).trans ?_;rw[List.map_const',WE]
def zmy (xs ys:List Int)(i k:Nat):part xs ys i ys.length k=part xs ys (i+1) 0 k:=by
 unfold part;rw[bq (show ¬ (i+1<=k/\k-(i+1)<0) by lia),R7];show _=S (hk xs ys k) i+hk xs ys k i;congr 1;unfold hk;by_cases c:i<=k
 .by_cases d:k-i<ys.length
  .rw[bw ⟨c,d⟩,bw c]
  .rw[bq (λz=>d z.2),bw c,zcY (show ys.length<=k-i by lia),Int.mul_zero]
 .rw[bq (λz=>c z.1),bq c]
def zqS (xs ys:List Int)(i:Nat):st xs ys i ys.length=st xs ys (i+1) 0:=by
 unfold st;exact Xb λk _=>zmy xs ys i k
def zoB {xs ys:List Int}{i j:Nat}{x y:Int}(hx:xs[i]?=some x)(hy:ys[j]?=some y):(st xs ys i j).set (i+j) (part xs ys i j (i+j)+x*y)=st xs ys i (j+1):=by
 have hi:i<xs.length:=(XV.mp hx).1;have s:j<ys.length:=(XV.mp hy).1;apply SQ;intro k;rw[List.getElem?_set];by_cases c:k<xs.length+ys.length-1
 .rw[zid c,zid c];by_cases e:i+j=k
  .subst e;rw[bw rfl,bw (by rw[zic];exact c)];congr 1;unfold part;rw[bq (by lia),bw (by lia),R7,zoz hx,QP,zoz hy]
  .rw[bq e];congr 1;unfold part;congr 1;by_cases d:i<=k/\k-i<j
   .rw[bw d,bw (by lia)]
   .rw[bq d,bq (by lia)]
 .have r:∀m,(st xs ys i m)[k]?=none:=λm=>SF (by rw[zic];lia);rw[r,r];by_cases e:i+j=k
  .lia
  .rw[bq e]
def zqT (xs ys:List Int):st xs ys xs.length 0=QL xs ys:=by
 unfold st QL;refine Xb λk _=>?_;unfold part;rw[bq (by lia),R7]
end Pour
namespace Choose
def ch:Nat->Nat->Nat
 | _,0=>1
 | 0,_+1=>0
 | n+1,k+1=>ch n k+ch n (k+1)
def Qy (n:Nat):ch n 0=1:=by cases n<;>rfl
theorem zbk:∀(n k:Nat),n<k->ch n k=0
 | 0,0,h=>absurd h (by lia)
 | 0,k+1,_=>rfl
 | n+1,0,h=>absurd h (by lia)
 | n+1,k+1,h=>by
  show ch n k+ch n (k+1)=0;rw[zbk n k (by lia),zbk n (k+1) (by lia)]
theorem zcm:∀n k:Nat,(k+1)*ch n (k+1)+k*ch n k=n*ch n k
 | 0,0=>rfl
 | 0,k+1=>by
  show (k+1+1)*0+(k+1)*0=0*0;simp
 | n+1,0=>by
  have h:=zcm n 0;rw[Qy]at h ⊢;show (0+1)*(ch n 0+ch n (0+1))+0*1=(n+1)*1;rw[Qy];lia
 | n+1,j+1=>by
  have m:=zcm n (j+1);have r:=zcm n j;show (j+1+1)*(ch n (j+1)+ch n (j+1+1))+(j+1)*(ch n j+ch n (j+1))=(n+1)*(ch n j+ch n (j+1));generalize ch n (j+1+1)=C2 at *
  generalize ch n (j+1)=C1 at *
  generalize ch n j=C0 at *
  simp only[Nat.add_mul,Nat.mul_add,Nat.one_mul]at *
  lia
def zoC {n k:Nat}(h:k<n):(ch n k:Int)*((n:Int)-k)/((k:Int)+1)=ch n (k+1):=by
 have e:=zcm n k;have m:(ch n k:Int)*((n:Int)-k)=(ch n (k+1):Int)*((k:Int)+1):=by
  have:((k+1)*ch n (k+1)+k*ch n k:Int)=(n*ch n k:Int):=by exact_mod_cast e
  rw[Int.mul_sub,Oo (ch n k:Int) n,<- this,Oo (ch n (k+1):Int) ((k:Int)+1),Oo (ch n k:Int) (k:Int)];lia
 rw[m];exact Int.mul_ediv_cancel _ (by lia)
def zsa (n:Nat):∀k,ch n k<=2^n:=by
 induction n with
 | zero =>
  intro k;cases k with
  | zero=>decide
  | succ k =>
   show (0:Nat)<=2^0;decide
 | succ n m =>
  intro k;cases k with
  | zero =>
   rw[Qy];exact Nat.one_le_two_pow
  | succ k =>
   show ch n k+ch n (k+1)<=2^(n+1);rw[Ul];have:=m k;have:=m (k+1);lia
end Choose
namespace Tally
open Subs
variable {α:Type}
theorem zaL:∀(B:List α) (m:List (List α)),B.foldl step m=(subs B).flatMap λb=>m.map (·++b)
 | [],m=>by simp[subs]
 | c::r,m=>by
  have e:subs (c::r)=(subs r).flatMap λb=>[b,c::b]:=by
   show r.foldl step (step [[]] c)=_;rw[zaL r];rfl
  show r.foldl step (step m c)=_;rw[zaL r,e,List.flatMap_assoc];congr 1;funext b;show (m++m.map (·++[c])).map (·++b)=m.map (·++b)++(m.map (·++(c::b))++[]);rw[XB,Xx,Ws];congr 1;refine Xb λx _=>?_;show x++[c]++b=_;rw[W9];rfl
def zeu (c:α)(r:List α):subs (c::r)=(subs r).flatMap λb=>[b,c::b]:=by
 show r.foldl step (step [[]] c)=_;rw[zaL r];rfl
def zgG (A B:List α):subs (A++B)=(subs B).flatMap λb=>(subs A).map (·++b):=by
 unfold subs;rw[UF];exact zaL B _
theorem zew (c:α)(p:List α->Bool):∀L:List (List α),(L.flatMap λb=>[b,c::b]).countP p=L.countP p+L.countP λS=>p (c::S)
 | []=>rfl
 | b::L=>by
  have m:=zew c p L;rw[VX,List.countP_append,m,Wi (l:=L),Wi (l:=L),Wi,Wi,List.countP_nil];lia
def count_cons (c:α)(r:List α)(p:List α->Bool):(subs (c::r)).countP p=(subs r).countP p+(subs r).countP λS=>p (c::S):=by
 rw[zeu,zew]
def Inv (p:List α->Bool):Prop:=∀a b,a.Perm b->p a=p b
theorem Inv.cons {p:List α->Bool}(h:Inv p)(c:α):Inv λS=>p (c::S):=λ_ _ e=>h _ _ (e.cons c)
def zie {m ds:List α}(e:m.Perm ds):∀{p:List α->Bool},Inv p->(subs m).countP p=(subs ds).countP p:=by
 induction e with
 | nil=>intro p _;rfl
 | cons c _ r =>
  intro p h;rw[count_cons,count_cons,r h,r (h.cons c)]
 | swap x y l =>
  intro p h;rw[count_cons,count_cons,count_cons,count_cons,count_cons,count_cons];have:(subs l).countP (λS=>p (y::x::S))=(subs l).countP λS=>p (x::y::S):=Vb λS _=>by rw[h _ _ (List.Perm.swap x y S)]
  lia
 | trans _ _ s w =>
  intro p h;exact(s h).trans (w h)
def T (m:List α)(p:List α->Bool)(k:Nat):Nat:=(subs m).countP λS=>decide (S.length=k)&&p S
def zqU {m ds:List α}(e:m.Perm ds){p:List α->Bool}(h:Inv p)(k:Nat):T m p k=T ds p k:=zie e λa b e=>by rw[h a b e,e.length_eq]
def zoD {m:List α}{p q:List α->Bool}(h:∀S∈subs m,p S=q S)(k:Nat):T m p k=T m q k:=Vb λS r=>by rw[h S r]
theorem zpD (f g:Nat->Int):∀n,Pour.S (λi=>f i+g i) n=Pour.S f n+Pour.S g n
 | 0=>rfl
 | n+1=>by
  show Pour.S (λi=>f i+g i) n+(f n+g n)=Pour.S f n+f n+(Pour.S g n+g n);rw[zpD f g n];lia
theorem zmz:∀n,Pour.S (λ_=>0) n=0
 | 0=>rfl
 | n+1=>by
  show Pour.S (λ_=>0) n+0=0;rw[zmz n];rfl
theorem zgH (j:Nat)(x:Int):∀n,Pour.S (λi=>if i=j then x else 0) n=if j<n then x else 0
 | 0=>rfl
 | n+1=>by
  show Pour.S (λi=>if i=j then x else 0) n+(if n=j then x else 0)=_;rw[zgH j x n];by_cases h:n=j
  .rw[bq (by lia),bw h,bw (by lia),V2]
  .rw[bq h,R7];by_cases m:j<n
   .rw[bw m,bw (by lia)]
   .rw[bq m,bq (by lia)]
def zgI (q:List α->Bool)(f:Nat->Nat)(k:Nat):∀L:List (List α),(((L.map λb=>if (q b&&decide (b.length<=k))=true then f (k-b.length) else 0).sum:Nat):Int)=Pour.S (λi=>(f i:Int)*((L.countP λb=>decide (b.length=k-i)&&q b:Nat):Int)) (k+1):=by
 intro L;induction L with
 | nil =>
  have:Pour.S (λi=>(f i:Int)*((([]:List (List α)).countP λb=>decide (b.length=k-i)&&q b:Nat):Int)) (k+1)=Pour.S (λ_=>0) (k+1):=Pour.Yd _ λi _=>by
   show (f i:Int)*0=0;lia
  rw[this,zmz];rfl
 | cons b L B =>
  rw[Xu,OD,Tn,B];have e:Pour.S (λi=>(f i:Int)*(((b::L).countP λb=>decide (b.length=k-i)&&q b:Nat):Int)) (k+1)=Pour.S (λi=>(f i:Int)*((L.countP λb=>decide (b.length=k-i)&&q b:Nat):Int)+if i=k-b.length then (if (q b&&decide (b.length<=k))=true then (f (k-b.length):Int) else 0) else 0) (k+1):=Pour.Yd _ λi hi=>by
   rw[Wi];by_cases hq:q b=true
   .by_cases A:b.length<=k
    .by_cases r:i=k-b.length
     .have m:b.length=k-i:=by lia
      have w:k-i<=k:=by lia
      simp only[hq,m,w,decide_true,Sr,if_true,bw r];rw[show k-(k-i)=i by lia,bw rfl,Tn,Int.mul_add];lia
     .have m:¬b.length=k-i:=by lia
      simp only[hq,m,decide_false,Sr,bq r];simp
    .have m:¬b.length=k-i:=by lia
     simp[hq,m,A]
   .have s:q b=false:=Xk.mpr hq;simp[s]
  rw[e,zpD,zgH,bw (show k-b.length<k+1 by lia),Int.add_comm];congr 1;split<;>rfl
def zpE {A B:List α}{P w pB:List α->Bool}(h:∀a∈subs A,∀b∈subs B,P (a++b)=(w a&&pB b))(k:Nat):(T (A++B) P k:Int)=Pour.S (λi=>(T A w i:Int)*(T B pB (k-i):Int)) (k+1):=by
 unfold T;rw[zgG,List.countP_flatMap];have e:(subs B).map (List.countP (λS=>decide (S.length=k)&&P S)∘λb=>(subs A).map (·++b))=(subs B).map λb=>if (pB b&&decide (b.length<=k))=true then (T A w) (k-b.length) else 0:=by
  refine Xb λb D=>?_;show List.countP _ ((subs A).map (·++b))=_;rw[List.countP_map];by_cases hq:(pB b&&decide (b.length<=k))=true
  .rw[bw hq];obtain⟨m,r⟩:=VT.mp hq;have r:=bg r;refine Vb λa ha=>?_;show (decide ((a++b).length=k)&&P (a++b))=true↔(decide (a.length=k-b.length)&&w a)=true;rw[h a ha b D,m,Sr,X6,show (decide (a.length+b.length=k))=decide (a.length=k-b.length) from decide_eq_decide.mpr (by lia)]
  .rw[bq hq];refine TB.mpr λa ha s=>hq ?_;have s:(decide ((a++b).length=k)&&P (a++b))=true:=s;rw[h a ha b D]at s;obtain⟨m,r⟩:=VT.mp s;have m:=bg m;rw[X6]at m;rw[(VT.mp r).2,br (by lia)];rfl
 rw[e,zgI];rfl
def Qz {m S:List α}(h:S∈subs m):S.Sublist m:=by
 revert S;induction m with
 | nil=>intro S h;simp[subs]at h;subst h;exact List.Sublist.refl _
 | cons c r w =>
  intro S h;rw[zeu]at h;obtain⟨b,s,h⟩:=TL.mp h;have:=w s;simp at h;rcases h with rfl | rfl
  .exact this.cons c
  .exact this.cons_cons c
def zgJ {m:List α}{p:List α->Bool}{k:Nat}(h:m.length<k):T m p k=0:=by
 refine TB.mpr λS r s=>?_;have w:=bg (VT.mp s).1;have A:=(Qz r).length_le;lia
def tl (m:List α)(p:List α->Bool):List Int:=(WG (m.length+1)).map λk=>(T m p k:Int)
def Y7 (m:List α)(p:List α->Bool):(tl m p).length=m.length+1:=by
 unfold tl;rw[ZB,WE]
def zoE (m:List α)(p:List α->Bool)(i:Nat):Pour.F (tl m p) i=(T m p i:Int):=by
 by_cases h:i<m.length+1
 .refine Pour.zoz ?_;unfold tl;rw[XC,TF h];rfl
 .rw[Pour.zcY (by rw[Y7];lia),zgJ (by lia)];rfl
def zoF {A B:List α}{P m pB:List α->Bool}(h:∀a∈subs A,∀b∈subs B,P (a++b)=(m a&&pB b)):Pour.QL (tl A m) (tl B pB)=tl (A++B) P:=by
 unfold Pour.QL;rw[Y7,Y7];show _=(WG ((A++B).length+1)).map λk=>(T (A++B) P k:Int);rw[X6,show A.length+1+(B.length+1)-1=A.length+B.length+1 by lia];refine Xb λk _=>?_;have e:=Pour.zqR (tl A m) (tl B pB) k;rw[Y7]at e;rw[e,zpE h];exact Pour.Yd _ λi _=>by rw[zoE,zoE]
def zmA {m:List α}{p q:List α->Bool}(h:∀S∈subs m,p S=q S):tl m p=tl m q:=by
 unfold tl;refine Xb λk _=>by rw[zoD h]
theorem zjt:∀(m:List α) (k:Nat),T m (λ_=>true) k=Choose.ch m.length k
 | [],0=>rfl
 | [],k+1=>rfl
 | c::r,0=>by
  have e:=zjt r 0;unfold T at e ⊢;rw[count_cons,e,Choose.Qy,Choose.Qy];have:(subs r).countP (λS=>decide ((c::S).length=0)&&true)=0:=TB.mpr λS _ A=>by simp at A
  rw[this]
 | c::r,k+1=>by
  have s:=zjt r k;have w:=zjt r (k+1);unfold T at s w ⊢;rw[count_cons,w];have:(subs r).countP (λS=>decide ((c::S).length=k+1)&&true)=(subs r).countP λS=>decide (S.length=k)&&true:=Vb λS _=>by
   rw[Xn,show decide (S.length+1=k+1)=decide (S.length=k) from decide_eq_decide.mpr (by lia)]
  rw[this,s];show _=Choose.ch r.length k+Choose.ch r.length (k+1);lia
variable {α:Type}
structure Loc (U:List α)(p:List α->Bool)(g:List α):Prop where
 l:∀a b,(∀c∈a,c∈U/\c ∉ g)->p (a++b)=p b
 r:∀a b,(∀c∈b,c∈U/\c ∉ g)->p (a++b)=p a
def Ye (fit:List α->List α->Bool)(gs:List (List α))(S:List α):Bool:=gs.all λg=>fit g S
def zmB (fit:List α->List α->Bool)(as bs:List (List α))(S:List α):Ye fit (as++bs) S=(Ye fit as S&&Ye fit bs S):=List.all_append
def zif {fit:List α->List α->Bool}{gs:List (List α)}{S m:List α}(h:∀g∈gs,fit g S=fit g m):Ye fit gs S=Ye fit gs m:=by
 unfold Ye;induction gs with
 | nil=>rfl
 | cons g r s =>
  rw[Rx,Rx,h g X5,s λx hx=>h x (Y1 _ hx)]
def zig {U:List α}{fit:List α->List α->Bool}{done:List (List α)}{g:List α}{q:List α->Bool}(D:(done.flatten++g).Nodup)(m:∀c∈done.flatten++g,c∈U)(A:∀x∈done,Loc U (fit x) x)(B:Loc U q g) :
  Pour.QL (tl done.flatten (Ye fit done)) (tl g q)=tl (done.flatten++g) λS=>Ye fit done S&&q S:=by
 obtain⟨_,_,s⟩:=WX.mp D;refine zoF λa ha b w=>?_;have sa:=(Qz ha).subset;have sb:=(Qz w).subset;rw[B.l a b λc hc=>⟨m c (W4 _ (sa hc)),λh=>s c (sa hc) c h rfl⟩];congr 1;exact zif λx hx=>(A x hx).r a b λc hc=>⟨m c (WZ _ (sb hc)),λh=>s c (Wh.mpr ⟨x,hx,h⟩) c (sb hc) rfl⟩
def zoG {U:List α}{fit:List α->List α->Bool}:∀(gs done:List (List α)),(done++gs).flatten.Nodup->(∀c∈(done++gs).flatten,c∈U)->(∀g∈done++gs,Loc U (fit g) g)->(gs.map λg=>tl g (fit g)).foldl Pour.QL (tl done.flatten (Ye fit done))=tl (done++gs).flatten (Ye fit (done++gs)):=by
 intro gs;induction gs with
 | nil =>
  intro done _ _ _;rw[Xx];rfl
 | cons g r B =>
  intro done s A m;have e:done++g::r=(done++[g])++r:=by rw[W9];rfl
  rw[e]at s A m ⊢;have w:(done++[g]).flatten=done.flatten++g:=by rw[V0];simp
  have D:(done.flatten++g).Nodup:=by
   rw[V0,w]at s;exact(WX.mp s).1
  have B:=B (done++[g]) s A m;rw[<- B,Xu,VR,w];congr 1;rw[zig D (λc hc=>A c (by rw[V0,w];exact W4 _ hc)) (λx hx=>m x (by simp[hx])) (m g (by simp))];refine zmA λS _=>?_;rw[zmB];congr 1;show fit g S=(fit g S&&true);rw[Sr]
def zmC {U:List α}{fit:List α->List α->Bool}{gs:List (List α)}(s:gs.flatten.Nodup)(r:∀c∈gs.flatten,c∈U)(m:∀g∈gs,Loc U (fit g) g):(gs.map λg=>tl g (fit g)).foldl Pour.QL [1]=tl gs.flatten (Ye fit gs):=zoG gs [] s r m
def chZ (n:Nat)(k:Int):Int:=if k<0 then 0 else (Choose.ch n k.toNat:Nat)
def dl (xs:List Int)(m:Nat)(s:Int):Int:=Pour.S (λk=>Pour.F xs k*chZ m (s-(k:Nat))) xs.length
def zqV (g:Nat->Int){a b:Nat}(ha:∀i,a<=i->g i=0)(r:∀i,b<=i->g i=0):Pour.S g a=Pour.S g b:=by
 by_cases h:a<=b
 .exact(Pour.zoA h λi m _=>ha i m).symm
 .exact Pour.zoA (by lia) λi m _=>r i m
def zsb {A m:List α}{P r:List α->Bool}(h:∀a∈subs A,∀b∈subs m,P (a++b)=r a)(s:Nat):dl (tl A r) m.length (s:Nat)=(T (A++m) P s:Int):=by
 rw[zpE (pB:=λ_=>true) (λa ha b w=>by rw[h a ha b w,Sr]) s];unfold dl;rw[Y7];rw[zqV (λk=>Pour.F (tl A r) k*chZ m.length ((s:Int)-(k:Nat))) (a:=A.length+1) (b:=s+1) (λi hi=>by rw[zoE,zgJ (by lia)];simp) (λi hi=>by
  unfold chZ;rw[bw (by lia),Int.mul_zero])]
 refine Pour.Yd _ λi hi=>?_;show Pour.F (tl A r) i*chZ m.length ((s:Int)-(i:Nat))=_;rw[zoE,zjt];unfold chZ;rw[bq (by lia),show ((s:Int)-(i:Nat)).toNat=s-i by lia]
def zoH {m:List α}{p:List α->Bool}(h:∀S∈subs m,p S=false)(k:Nat):T m p k=0:=TB.mpr λS s r=>by
 rw[h S s,RZ]at r;cases r
def zoI (m:List α)(p:List α->Bool):Cnt.JH m.length ((subs m).filter p)=tl m p:=by
 unfold Cnt.JH tl T;refine Xb λk _=>?_;rw[List.countP_filter]
def zmD {r:Type}(g:Nat)(f:List α->List r)(m:∀k,(f k).length=k.length)(ks:List (List α)):Cnt.JH g (ks.map f)=Cnt.JH g ks:=by
 unfold Cnt.JH;refine Xb λn _=>?_;rw[List.countP_map];congr 1;refine Vb λk _=>?_;show decide ((f k).length=n)=true↔_;rw[m]
variable {α β:Type}
end Tally
namespace Two
def ext (cl st:AB)(c:AA)(S:AB):List AB:=(if c∈st then [] else [S])++(if c∈cl then [] else [S++[c]])
def cho (cl st:AB)(m:AB):List AB:=m.foldl (λL c=>L.flatMap (ext cl st c)) [[]]
def zgK (cl st m:AB)(c:AA):cho cl st (m++[c])=(cho cl st m).flatMap (ext cl st c):=by
 unfold cho;rw[UF];rfl
def zju {cl st:AB}{c:AA}{S U:AB}:U∈ext cl st c S↔(c ∉ st/\U=S)\/(c ∉ cl/\U=S++[c]):=by
 unfold ext;rw[XU];constructor
 .rintro(h | h)
  .split at h
   .cases h
   .exact .inl ⟨by assumption,by simpa using h⟩
  .split at h
   .cases h
   .exact .inr ⟨by assumption,by simpa using h⟩
 .rintro(⟨h,rfl⟩ | ⟨h,rfl⟩)
  .left;rw[bq h];exact X5
  .right;rw[bq h];exact X5
def snocInd {P:AB->Prop}(h0:P [])(s:∀m c,P m->P (m++[c])):∀m,P m:=by
 intro m;have h:∀ds:AB,P ds.reverse:=λds=>by
  induction ds with
  | nil=>exact h0
  | cons c r w =>
   rw[List.reverse_cons];exact s _ _ w
 have:=h m.reverse;rw[Sj]at this;exact this
def zqW {cl st:AB}:∀{m S:AB},S∈cho cl st m->S.Sublist m/\(∀c∈m,c∈st->c∈S)/\∀c∈S,c ∉ cl:=by
 refine λ{m}=>snocInd (P:=λm=>∀{S:AB},S∈cho cl st m->S.Sublist m/\(∀c∈m,c∈st->c∈S)/\∀c∈S,c ∉ cl) ?_ ?_ m
 .intro S h;have:S=[]:=by simpa[cho] using h
  subst this;exact⟨List.Sublist.refl _,(λ_ h=>nomatch h),(λ_ h=>nomatch h)⟩
 .intro m c B S h;rw[zgK]at h;obtain⟨U,A,w⟩:=TL.mp h;obtain⟨a,b,d⟩:=B A;rcases zju.mp w with ⟨s,rfl⟩ | ⟨s,rfl⟩
  .refine⟨a.trans (UA _ _),λx hx r=>?_,d⟩;rcases XU.mp hx with hx | hx
   .exact b x hx r
   .have:x=c:=by simpa using hx
    exact absurd (this ▸ r) s
  .refine⟨a.append (List.Sublist.refl _),λx hx r=>?_,λx hx=>?_⟩
   .rcases XU.mp hx with hx | hx
    .exact W4 _ (b x hx r)
    .exact WZ _ hx
   .rcases XU.mp hx with hx | hx
    .exact d x hx
    .have:x=c:=by simpa using hx
     exact this ▸ s
def zmE {cl st:AB}(p:AA->Bool):∀m:AB,(∀c∈m,c∈st->p c=true)->(∀c∈m,c∈cl->p c=false)->m.filter p∈cho cl st m:=by
 refine snocInd (λ_ _=>by simp[cho]) λm c A s w=>?_;rw[zgK,W6];refine TL.mpr ⟨_,A (λx hx=>s x (W4 _ hx)) (λx hx=>w x (W4 _ hx)),zju.mpr ?_⟩;have hc:c∈m++[c]:=WZ _ X5;by_cases r:p c=true
 .refine .inr ⟨λz=>?_,by simp[r]⟩;rw[w c hc z]at r;cases r
 .refine .inl ⟨λz=>r (s c hc z),by simp[r]⟩
def cnt (A S:AB):Nat:=(A.filter λc=>decide (c∈S)).length
def qc {l:AB}(p:AA->Bool)(h:l.Nodup):(l.filter p).Nodup:=List.Sublist.nodup Xm h
def zmF {A S:AB}(m:A.Nodup)(r:S.Nodup):cnt A S=cnt S A:=by
 unfold cnt;refine Tz ((WW (qc _ m) (qc _ r)).mpr λx=>?_);simp only[X8,bu];exact And.comm
def zfr {l X:AB}(hl:l.Nodup)(m:X.Nodup)(h:∀x∈X,x∈l):cnt l X=X.length:=by
 rw[zmF hl m];unfold cnt;rw[Tx.mpr λx hx=>br (h x hx)]
def zbl {l X Y:AB}(h:∀x∈l,x∈X↔x∈Y):cnt l X=cnt l Y:=by
 unfold cnt;congr 1;refine VY λx hx=>?_;rw[decide_eq_decide];exact h x hx
theorem zcZ (q:AA->Bool)(S:AB):∀A:AB,cnt A S=cnt (A.filter q) S+cnt (A.filter λc=>!q c) S
 | []=>rfl
 | c::r=>by
  have w:=zcZ q S r;simp only[cnt,Vk]at w ⊢;by_cases m:q c=true<;>by_cases s:c∈S<;>simp[WB,m,s]<;>lia
def zih (A S:AB):cnt A S<=A.length:=Xw _ _
def zc0 {A S:AB}(h:cnt A S=0):∀c∈A,c ∉ S:=λc hc m=>by
 have:c∈A.filter λc=>decide (c∈S):=X8.mpr ⟨hc,br m⟩;rw[Wy.mp h]at this;cases this
def zc1 {A S:AB}(h:cnt A S=A.length):∀c∈A,c∈S:=λc hc=>by
 have m:A.filter (λc=>decide (c∈S))=A:=(Xm).eq_of_length h;have:=Tx.mp m c hc;exact bg this
def pick {l:AB}(hl:l.Nodup){k:Nat}(hk:k<=l.length):∃X:AB,X.Nodup/\(∀x∈X,x∈l)/\X.length=k :=
 ⟨l.take k,(SX k l).nodup hl,λx hx=>V8 hx,by rw[XM];lia⟩
def zbm {l:AB}(hl:l.Nodup){c:AA}(hc:c∈l){k:Nat}(m:1<=k)(hk:k<=l.length):∃X:AB,X.Nodup/\(∀x∈X,x∈l)/\X.length=k/\c∈X:=by
 have he:=Tq hc;obtain⟨X,a,b,d⟩:=pick (hl.erase c) (k:=k-1) (by lia);refine⟨c::X,WS.mpr ⟨λz=>?_,a⟩,λx hx=>?_,by rw[Xn];lia,X5⟩
 .exact(hl.mem_erase_iff.mp (b c z)).1 rfl
 .rcases XQ.mp hx with rfl | hx
  .exact hc
  .exact Pr (b x hx)
def Yg {l:AB}(hl:l.Nodup){c:AA}(hc:c∈l){k:Nat}(hk:k<l.length):∃X:AB,X.Nodup/\(∀x∈X,x∈l)/\X.length=k/\c ∉ X:=by
 have he:=Tq hc;obtain⟨X,a,b,d⟩:=pick (hl.erase c) (k:=k) (by lia);exact⟨X,a,λx hx=>Pr (b x hx),d,λz=>(hl.mem_erase_iff.mp (b c z)).1 rfl⟩
structure In (cl st cs A B:AB):Prop where
 nd:cs.Nodup
 na:A.Nodup
 nb:B.Nodup
 a:∀c∈A,c∈cs/\c ∉ st/\c ∉ cl
 b:∀c∈B,c∈cs/\c ∉ st/\c ∉ cl
 ap:∀c∈cl,c ∉ st
def both (A B:AB):AB:=A.filter λc=>decide (c∈B)
def alone (A B:AB):AB:=A.filter λc=>!decide (c∈B)
structure Fit (cl st cs A B:AB)(a b:Int)(S:AB):Prop where
 ch:S∈cho cl st cs
 fa:(cnt A S:Int)=a
 fb:(cnt B S:Int)=b
def zk3 {A B:AB}(m:A.Nodup)(r:B.Nodup)(S:AB):cnt (both B A) S=cnt (both A B) S:=by
 unfold cnt both;refine Tz ((WW (qc _ (qc _ r)) (qc _ (qc _ m))).mpr λx=>?_);simp only[X8,bu];exact⟨λh=>⟨⟨h.1.2,h.1.1⟩,h.2⟩,λh=>⟨⟨h.1.2,h.1.1⟩,h.2⟩⟩
def zjv {A B:AB}(m:A.Nodup)(r:B.Nodup)(S:AB):cnt A S=cnt (both A B) S+cnt (alone A B) S/\cnt B S=cnt (both A B) S+cnt (alone B A) S:=by
 refine⟨zcZ _ S A,?_⟩;rw[<- zk3 m r];exact zcZ _ S B
def Fit.k {cl st m A B S:AB}{a b:Int}(I:In cl st m A B)(h:Fit cl st m A B a b S):(cnt (both A B) S:Int)<=(both A B).length/\(cnt (alone A B) S:Int)=a-cnt (both A B) S/\(cnt (alone B A) S:Int)=b-cnt (both A B) S/\cnt (alone A B) S<=(alone A B).length/\cnt (alone B A) S<=(alone B A).length:=by
 have t:=zjv I.na I.nb S;have r:=h.fa;have s:=h.fb;have w:=zih (both A B) S;exact⟨by lia,by lia,by lia,zih _ _,zih _ _⟩
def Fit.mk' {cl st r A B X Y Z W:AB}{a b:Int}{k:Nat}(I:In cl st r A B)(O:X.Nodup)(U:Y.Nodup)(hZ:Z.Nodup)(J:∀x∈X,x∈both A B)(L:∀x∈Y,x∈alone A B)(M:∀x∈Z,x∈alone B A)(G:∀x∈W,x ∉ A/\x ∉ B/\x ∉ cl)
  (lX:X.length=k) (lY:(Y.length:Int)=a-k) (lZ:(Z.length:Int)=b-k):∃S,Fit cl st r A B a b S/\∀c∈r,c ∉ st->(c∈S↔c∈X\/c∈Y\/c∈Z\/c∈W):=by
 have E:∀{x:AA},x∈both A B->x∈A/\x∈B:=λh=>⟨(X8.mp h).1,bg (X8.mp h).2⟩;have w:∀{x:AA} {A B:AB},x∈alone A B->x∈A/\x ∉ B:=λ{x A B} h=>⟨(X8.mp h).1,by
  have:=(X8.mp h).2;simpa using this⟩
 have s:∀c∈r,c ∉ st->(c∈r.filter (λc=>decide (c∈st\/c∈X\/c∈Y\/c∈Z\/c∈W))↔c∈X\/c∈Y\/c∈Z\/c∈W):=λc hc hs=>by
  rw[X8,bu];exact⟨λh=>h.2.resolve_left hs,λh=>⟨hc,.inr h⟩⟩
 have cB:cnt (both A B) (r.filter (λc=>decide (c∈st\/c∈X\/c∈Y\/c∈Z\/c∈W)))=X.length:=by
  rw[<- zfr (qc _ I.na) O J];refine zbl λx hx=>?_;obtain⟨m,D⟩:=E hx;rw[s x (I.a x m).1 (I.a x m).2.1];refine⟨λh=>?_,.inl⟩;rcases h with h | h | h | h
  .exact h
  .exact absurd D (w (L x h)).2
  .exact absurd m (w (M x h)).2
  .exact absurd m (G x h).1
 have cA:cnt (alone A B) (r.filter (λc=>decide (c∈st\/c∈X\/c∈Y\/c∈Z\/c∈W)))=Y.length:=by
  rw[<- zfr (qc _ I.na) U L];refine zbl λx hx=>?_;obtain⟨m,D⟩:=w hx;rw[s x (I.a x m).1 (I.a x m).2.1];refine⟨λh=>?_,λh=>.inr (.inl h)⟩;rcases h with h | h | h | h
  .exact absurd (E (J x h)).2 D
  .exact h
  .exact absurd (w (M x h)).1 D
  .exact absurd m (G x h).1
 have cC:cnt (alone B A) (r.filter (λc=>decide (c∈st\/c∈X\/c∈Y\/c∈Z\/c∈W)))=Z.length:=by
  rw[<- zfr (qc _ I.nb) hZ M];refine zbl λx hx=>?_;obtain⟨m,D⟩:=w hx;rw[s x (I.b x m).1 (I.b x m).2.1];refine⟨λh=>?_,λh=>.inr (.inr (.inl h))⟩;rcases h with h | h | h | h
  .exact absurd (E (J x h)).1 D
  .exact absurd (w (L x h)).1 D
  .exact h
  .exact absurd m (G x h).2.1
 have t:=zjv I.na I.nb (r.filter (λc=>decide (c∈st\/c∈X\/c∈Y\/c∈Z\/c∈W)));refine⟨_,⟨zmE _ r (λc _ h=>br (.inl h)) (λc hc h=>bf ?_),by lia,by lia⟩,s⟩;rintro(z | z | z | z | z)
 .exact I.ap c h z
 .exact(I.a c (E (J c z)).1).2.2 h
 .exact(I.a c (w (L c z)).1).2.2 h
 .exact(I.b c (w (M c z)).1).2.2 h
 .exact(G c z).2.2 h
structure Ends (A B:AB)(a b lo hi:Int):Prop where
 l0:0<=lo
 l1:a-(alone A B).length<=lo
 l2:b-(alone B A).length<=lo
 l:lo=0\/lo=a-(alone A B).length\/lo=b-(alone B A).length
 h0:hi<=(both A B).length
 h1:hi<=a
 h2:hi<=b
 h:hi=(both A B).length\/hi=a\/hi=b
section
variable {cl st cs A B:AB}{a b lo hi:Int}
def Fit.ends {S:AB}(I:In cl st cs A B)(E:Ends A B a b lo hi)(h:Fit cl st cs A B a b S):lo<=cnt (both A B) S/\(cnt (both A B) S:Int)<=hi:=by
 obtain⟨s,w,D,G,J⟩:=h.k I;have m:=E.l;have r:=E.h;lia
def Yh (I:In cl st cs A B):(both A B).Nodup:=qc _ I.na
def zc2 (I:In cl st cs A B):(alone A B).Nodup:=qc _ I.na
def Q8 (I:In cl st cs A B):(alone B A).Nodup:=qc _ I.nb
def fits (I:In cl st cs A B)(E:Ends A B a b lo hi)(h:lo<=hi){W:AB}(L:∀x∈W,x ∉ A/\x ∉ B/\x ∉ cl):∃S,Fit cl st cs A B a b S/\∀c∈cs,c ∉ st->c ∉ A->c ∉ B->(c∈S↔c∈W):=by
 have e0:=E.l0;have e1:=E.l1;have e2:=E.l2;have e3:=E.h0;have e4:=E.h1;have e5:=E.h2;obtain⟨X,M,s,O⟩:=pick (Yh I) (k:=lo.toNat) (by lia);obtain⟨Y,U,w,y3⟩:=pick (zc2 I) (k:=(a-lo).toNat) (by lia);obtain⟨Z,z1,D,z3⟩:=pick (Q8 I) (k:=(b-lo).toNat) (by lia);obtain⟨S,f,m⟩:=Fit.mk' (a:=a) (b:=b) (k:=lo.toNat) I M U z1 s w D L O (by lia) (by lia);refine⟨S,f,λc hc J r G=>?_⟩;rw[m c hc J];refine⟨λq=>?_,λq=>.inr (.inr (.inr q))⟩;rcases q with q | q | q | q
 .exact absurd (X8.mp (s c q)).1 r
 .exact absurd (X8.mp (w c q)).1 r
 .exact absurd (X8.mp (D c q)).1 G
 .exact q
def zoJ (I:In cl st cs A B)(E:Ends A B a b lo hi):(∃S,Fit cl st cs A B a b S)↔lo<=hi:=by
 constructor
 .rintro⟨S,f⟩;have:=f.ends I E;lia
 .intro h;obtain⟨S,f,_⟩:=fits I E h (W:=[]) (λ_ h=>nomatch h);exact⟨S,f⟩
def Q9:∀x∈([]:AB),x ∉ A/\x ∉ B/\x ∉ cl:=λ_ h=>nomatch h
def zk4 (I:In cl st cs A B)(E:Ends A B a b lo hi)(h:lo<=hi){c:AA}(hc:c∈cs)(hs:c ∉ st)(hl:c ∉ cl):(∀S,Fit cl st cs A B a b S->c ∉ S)↔(c∈both A B/\hi=0)\/(c∈alone A B/\a-lo=0)\/(c∈alone B A/\b-lo=0):=by
 have e0:=E.l0;have e1:=E.l1;have e2:=E.l2;have e3:=E.h0;have e4:=E.h1;have e5:=E.h2;constructor
 .intro all;by_cases w:c∈A
  .by_cases s:c∈B
   .have r:c∈both A B:=X8.mpr ⟨w,br s⟩;refine .inl ⟨r,Wx λhn=>?_⟩;obtain⟨X,D,G,J,x4⟩:=zbm (Yh I) r (k:=hi.toNat) (by lia) (by lia);obtain⟨Y,L,M,y3⟩:=pick (zc2 I) (k:=(a-hi).toNat) (by lia);obtain⟨Z,O,U,z3⟩:=pick (Q8 I) (k:=(b-hi).toNat) (by lia);obtain⟨S,f,m⟩:=Fit.mk' (a:=a) (b:=b) (k:=hi.toNat) (W:=[]) I D L O G M U Q9 J (by lia) (by lia);exact all S f ((m c hc hs).mpr (.inl x4))
   .have r:c∈alone A B:=X8.mpr ⟨w,by simpa using s⟩;refine .inr (.inl ⟨r,Wx λhn=>?_⟩);obtain⟨X,D,G,J⟩:=pick (Yh I) (k:=lo.toNat) (by lia);obtain⟨Y,L,M,y3,y4⟩:=zbm (zc2 I) r (k:=(a-lo).toNat) (by lia) (by lia);obtain⟨Z,O,U,z3⟩:=pick (Q8 I) (k:=(b-lo).toNat) (by lia);obtain⟨S,f,m⟩:=Fit.mk' (a:=a) (b:=b) (k:=lo.toNat) (W:=[]) I D L O G M U Q9 J (by lia) (by lia);exact all S f ((m c hc hs).mpr (.inr (.inl y4)))
  .by_cases s:c∈B
   .have r:c∈alone B A:=X8.mpr ⟨s,by simpa using w⟩;refine .inr (.inr ⟨r,Wx λhn=>?_⟩);obtain⟨X,D,G,J⟩:=pick (Yh I) (k:=lo.toNat) (by lia);obtain⟨Y,L,M,y3⟩:=pick (zc2 I) (k:=(a-lo).toNat) (by lia);obtain⟨Z,O,U,z3,z4⟩:=zbm (Q8 I) r (k:=(b-lo).toNat) (by lia) (by lia);obtain⟨S,f,m⟩:=Fit.mk' (a:=a) (b:=b) (k:=lo.toNat) (W:=[]) I D L O G M U Q9 J (by lia) (by lia);exact all S f ((m c hc hs).mpr (.inr (.inr (.inl z4))))
   .obtain⟨S,f,m⟩:=fits I E h (W:=[c]) (λx hx=>by
     have:x=c:=by simpa using hx
     subst this;exact⟨w,s,hl⟩)
    exact absurd ((m c hc hs w s).mpr X5) (all S f)
 .rintro(⟨m,z⟩ | ⟨m,z⟩ | ⟨m,z⟩) S f
  .have:=f.ends I E;exact zc0 (by lia) c m
  .have:=f.ends I E;obtain⟨k1,k2,k3,k4,k5⟩:=f.k I;exact zc0 (by lia) c m
  .have:=f.ends I E;obtain⟨k1,k2,k3,k4,k5⟩:=f.k I;exact zc0 (by lia) c m
def zk5 (I:In cl st cs A B)(E:Ends A B a b lo hi)(h:lo<=hi){c:AA}(hc:c∈cs)(hs:c ∉ st)(hl:c ∉ cl):(∀S,Fit cl st cs A B a b S->c∈S)↔(c∈both A B/\lo=(both A B).length)\/(c∈alone A B/\a-hi=(alone A B).length)\/(c∈alone B A/\b-hi=(alone B A).length):=by
 have e0:=E.l0;have e1:=E.l1;have e2:=E.l2;have e3:=E.h0;have e4:=E.h1;have e5:=E.h2;have ne:∀{X Y:AB} {A' B':AB},(∀x∈X,x∈Y)->c ∉ Y->c ∉ X:=λh1 h2 h3=>h2 (h1 c h3);constructor
 .intro all;by_cases w:c∈A
  .by_cases r:c∈B
   .have s:c∈both A B:=X8.mpr ⟨w,br r⟩;have L:c ∉ alone A B:=λz=>by simpa[r] using (X8.mp z).2
    have M:c ∉ alone B A:=λz=>by simpa[w] using (X8.mp z).2
    refine .inl ⟨s,Wx λhn=>?_⟩;obtain⟨X,O,D,U,x4⟩:=Yg (Yh I) s (k:=lo.toNat) (by lia);obtain⟨Y,y1,G,y3⟩:=pick (zc2 I) (k:=(a-lo).toNat) (by lia);obtain⟨Z,z1,J,z3⟩:=pick (Q8 I) (k:=(b-lo).toNat) (by lia);obtain⟨S,f,m⟩:=Fit.mk' (a:=a) (b:=b) (k:=lo.toNat) (W:=[]) I O y1 z1 D G J Q9 U (by lia) (by lia);rcases(m c hc hs).mp (all S f) with q | q | q | q
    .exact x4 q
    .exact L (G c q)
    .exact M (J c q)
    .cases q
   .have s:c∈alone A B:=X8.mpr ⟨w,by simpa using r⟩;have L:c ∉ both A B:=λz=>r (bg (X8.mp z).2);have M:c ∉ alone B A:=λz=>r (X8.mp z).1;refine .inr (.inl ⟨s,Wx λhn=>?_⟩);obtain⟨X,O,D,U⟩:=pick (Yh I) (k:=hi.toNat) (by lia);obtain⟨Y,y1,G,y3,y4⟩:=Yg (zc2 I) s (k:=(a-hi).toNat) (by lia);obtain⟨Z,z1,J,z3⟩:=pick (Q8 I) (k:=(b-hi).toNat) (by lia);obtain⟨S,f,m⟩:=Fit.mk' (a:=a) (b:=b) (k:=hi.toNat) (W:=[]) I O y1 z1 D G J Q9 U (by lia) (by lia);rcases(m c hc hs).mp (all S f) with q | q | q | q
    .exact L (D c q)
    .exact y4 q
    .exact M (J c q)
    .cases q
  .by_cases r:c∈B
   .have s:c∈alone B A:=X8.mpr ⟨r,by simpa using w⟩;have L:c ∉ both A B:=λz=>w (X8.mp z).1;have M:c ∉ alone A B:=λz=>w (X8.mp z).1;refine .inr (.inr ⟨s,Wx λhn=>?_⟩);obtain⟨X,O,D,U⟩:=pick (Yh I) (k:=hi.toNat) (by lia);obtain⟨Y,y1,G,y3⟩:=pick (zc2 I) (k:=(a-hi).toNat) (by lia);obtain⟨Z,z1,J,z3,z4⟩:=Yg (Q8 I) s (k:=(b-hi).toNat) (by lia);obtain⟨S,f,m⟩:=Fit.mk' (a:=a) (b:=b) (k:=hi.toNat) (W:=[]) I O y1 z1 D G J Q9 U (by lia) (by lia);rcases(m c hc hs).mp (all S f) with q | q | q | q
    .exact L (D c q)
    .exact M (G c q)
    .exact z4 q
    .cases q
   .obtain⟨S,f,m⟩:=fits I E h (W:=[]) Q9;exact nomatch (m c hc hs w r).mp (all S f)
 .rintro(⟨m,z⟩ | ⟨m,z⟩ | ⟨m,z⟩) S f
  .have:=f.ends I E;obtain⟨k1,k2,k3,k4,k5⟩:=f.k I;exact zc1 (by lia) c m
  .have:=f.ends I E;obtain⟨k1,k2,k3,k4,k5⟩:=f.k I;exact zc1 (by lia) c m
  .have:=f.ends I E;obtain⟨k1,k2,k3,k4,k5⟩:=f.k I;exact zc1 (by lia) c m
end
end Two
namespace K53
open PySem L2
variable {P:Xl}{w:WY}{K:XW}{mg:Str->Option X7}{base:Heap}{f:Addr}{fd:XF}{jaa jab:Addr}
abbrev top (i:Nat):Stmt:=zcu.top i
abbrev ZI:Stmt:=top 7
abbrev qH:Stmt:=top 8
abbrev jG:Stmt:=top 9
abbrev ju:Stmt:=top 10
abbrev qF:Stmt:=top 11
abbrev qG:Stmt:=top 12
abbrev zcn:Stmt:=top 14
abbrev Y8:Stmt:=top 15
abbrev zjw:Stmt:=top 16
abbrev jX:Stmt:=top 17
abbrev Jh:Stmt:=top 18
abbrev qJ:Stmt:=top 19
abbrev jQ:Stmt:=top 22
abbrev yZ:Stmt:=top 23
abbrev Jt:Stmt:=top 24
abbrev xE:Stmt:=top 25
abbrev ZJ:Stmt:=top 26
abbrev QA:Stmt:=top 28
abbrev zaM:Stmt:=top 29
abbrev xF:Stmt:=top 31
abbrev zco:Stmt:=top 32
abbrev Ji:Stmt:=top 33
abbrev zcp:Stmt:=top 34
abbrev QB:Stmt:=top 37
abbrev Yi:Stmt:=top 38
abbrev Yj:Stmt:=top 39
abbrev xG:Stmt:=top 40
abbrev zaN:Stmt:=top 41
abbrev ZK:Stmt:=top 42
abbrev Yk:Stmt:=top 45
abbrev J9:Stmt:=top 46
abbrev xH:Stmt:=top 47
abbrev Jj:Stmt:=top 48
abbrev yc:Stmt:=top 50
abbrev xN:Stmt:=top 51
abbrev JI:Stmt:=top 52
abbrev Za:Stmt:=top 53
abbrev jv:Stmt:=top 54
abbrev JJ:Stmt:=top 55
abbrev Zb:Stmt:=top 56
abbrev Yl:Stmt:=top 57
abbrev yO:Stmt:=top 58
abbrev Zc:Stmt:=top 59
abbrev Ym:Stmt:=top 60
abbrev Jk:Stmt:=top 61
abbrev Zd:Stmt:=top 62
abbrev zgL:Stmt:=top 63
structure Txt (mg:Str->Option X7):Prop where
 zpF:mg "abs"=none
 zjx:mg "any"=none
 zmG:mg "dict"=none
 jR:mg "enumerate"=none
 zmH:mg "int"=none
 Yn:mg "isinstance"=none
 qT:mg "len"=none
 zbn:mg "list"=none
 zgM:mg "max"=none
 zex:mg "min"=none
 jB:mg "range"=none
 zsc:mg "set"=none
 yP:mg "sorted"=none
 zpG:mg "str"=none
 zpH:mg "sum"=none
 zjy:mg "tuple"=none
 zpI:∃t,mg "ALL"=some (.str "all" t)
 Zo:∃t,mg "CLOSED_SIGN"=some (.str "?" t)
 zc3:∃t,mg "MOST_OF_PART"=some (.int 14 t)
 zdT:∃t,mg "MOST_THINGS"=some (.int 30 t)
 Y9:∃t,mg "NO_CELL_SIGN"=some (.str "#" t)
def Mq (K:XW)(mg:Str->Option X7)(n:Str)(s:Stmt)(p:List Str):=∃f fd,zk K mg n s p f fd
structure Prog (K:XW)(mg:Str->Option X7):Prop where
 closed:Mq K mg "closed" ZI ["board"]
 open_cells:Mq K mg "open_cells" qH ["board"]
 around:Mq K mg "around" jG ["board","cell"]
 number_at:Mq K mg "number_at" ju ["board","cell"]
 cells_of:Mq K mg "cells_of" qF ["board"]
 sign_at:Mq K mg "sign_at" qG ["board","cell"]
 parts:Mq K mg "parts" zcn ["board"]
 joined:Mq K mg "joined" Y8 ["groups","cells"]
 far:Mq K mg "far" zjw ["board"]
 numbers_of:Mq K mg "numbers_of" jX ["board","part"]
 bare_wrong:Mq K mg "bare_wrong" Jh ["board"]
 closed_around:Mq K mg "closed_around" qJ ["board","cell"]
 part_layings:Mq K mg "part_layings" jQ ["board","part"]
 needs_at:Mq K mg "needs_at" yZ ["told","cell","rest"]
 may_fit:Mq K mg "may_fit" Jt ["needs","pick"]
 part_counts:Mq K mg "part_counts" xE ["board","part"]
 counted:Mq K mg "counted" ZJ ["found","greatest"]
 choices:Mq K mg "choices" QA ["n","k"]
 poured:Mq K mg "poured" zaM ["one","other"]
 near_counts:Mq K mg "near_counts" xF ["board"]
 count:Mq K mg "count" zco ["board"]
 all_poured:Mq K mg "all_poured" Ji ["lists"]
 dealt:Mq K mg "dealt" zcp ["counts","cells","stones"]
 follows:Mq K mg "follows" QB ["board","things","finding"]
 asked_by:Mq K mg "asked_by" Yi ["board","thing"]
 known_of:Mq K mg "known_of" Yj ["finding"]
 still_asked:Mq K mg "still_asked" xG ["asked","known"]
 gained:Mq K mg "gained" zaN ["asked"]
 settled:Mq K mg "settled" ZK ["regions"]
 thoughts:Mq K mg "thoughts" Yk ["board"]
 all_steps:Mq K mg "all_steps" J9 ["board","things"]
 place_lists:Mq K mg "place_lists" xH ["asked"]
 first_step:Mq K mg "first_step" Jj ["things","asked","lists","finding"]
 law_cell_at:Mq K mg "_law_cell_at" yc ["_law_script","_law_k"]
 law_mixed:Mq K mg "_law_mixed" xN ["_law_cell","_law_k"]
 law_mark:Mq K mg "_law_mark" JI ["_law_drawn_here","_law_often","_law_many","_law_room"]
 law_drawn:Mq K mg "_law_drawn" Za ["_law_script","_law_most","_law_limit"]
 law_cells:Mq K mg "_law_cells" jv ["_law_rows","_law_signs"]
 law_near:Mq K mg "_law_near" JJ ["_law_one","_law_other"]
 law_board:Mq K mg "_law_board" Zb ["_law_marks"]
 law_bent:Mq K mg "_law_bent" Yl ["_law_board_here","_law_cell"]
 law_things:Mq K mg "_law_things" yO ["_law_board_here"]
 law_lists:Mq K mg "_law_lists" Zc ["_law_board_here"]
 law_next:Mq K mg "_law_next" Ym ["_law_board_here","_law_lists_here","_law_finding"]
 law_walked:Mq K mg "_law_walked" Jk ["_law_board_here"]
 law_alone:Mq K mg "_law_alone" Zd ["_law_lists_here"]
def zii (K:XW):Sp:=λvs H Q _=>∃(a:Addr) (m:List Int) (k:Int),vs=[.ref a,.int k]/\SqL K H a (m.map V.int)/\0<=k/\∀z:Int,Q (.int z) H
structure Row (signs:List Nat)(n:Nat)(t:Str):Prop where
 len:t.cps.size=n
 mem:∀c∈t.cps.toList,c∈signs
structure Rows (signs:List Nat)(rs:AD):Prop where
 lo:1<=rs.length
 hi:rs.length<=8
 ex:∃n,1<=n/\n<=8/\∀t∈rs,Row signs n t
def bd:Str:="?012345678#"
def zc4:zE ["_law_script","_law_k"] ["_law_script","_law_k"] (zp yc):=bh
def Qa (T:Txt mg)(D:zk K mg "_law_cell_at" yc ["_law_script","_law_k"] f fd):zY P w K mg base CX0 1 f fd ["_law_script","_law_k"] (zii K):=by
 refine D.F.ok zc4 (λvs H Q E h=>?_) (λI A r s H vs Q E J h=>?_)
 .obtain⟨a,m,i,rfl,_⟩:=h;rfl
 .obtain⟨a,m,i,rfl,B,hi,k⟩:=h;refine⟨_,(ze (qW (qp zqL (pvS 1) (pb1 zM T.qT Xa (pvS 0)) (qb _)) (zh (zB (zG yN (pvS 0) (pvS 1) (λ_ _=>rfl)))) qd) (@zh _ _ _ (@zB _ _ _ _ zf))),?_⟩;(try dsimp only[cxK,cxP,cxW]);refine⟨_,rfl,_,rfl,a,_,rfl,.inl B,_,_,rfl,rfl,_,rfl,?_⟩;refine zcA (λc=>?_) (λc=>?_)
  .have G:i<((m.map V.int).length:Nat):=bg c;rw[ZB]at G;have hl:i.toNat<m.length:=by lia
   refine⟨_,rfl,_,rfl,a,_,i,.int m[i.toNat],rfl,rfl,B,YS hi (by rw[XC,XX hl];rfl),?_⟩;exact k _
  .exact k 0
structure qe (H:Hp)(p l:Addr)(rs:AD)(n:Int):Prop where
 tp:H p=some (.tup [.ref l,.int n])
 rw:H l=some (.lst (rs.map V.str))
def zmI:∀c∈bd.cps.toList,c<1114112:=by decide+kernel
def zoK {n:Nat}{t:Str}(r:Row bd.cps.toList n t):Wr (.str t)=true:=by
 show t.cps.all (· < 0x110000)=true;rw[Array.all_eq_true'];intro c hc;exact br (zmI c (r.mem c (O7.mpr hc)))
def zgN {rs:AD}{n:Nat}(h:∀t∈rs,Row bd.cps.toList n t):WR (rs.map U8)=true:=by
 induction rs with
 | nil=>rfl
 | cons t r s =>
  show (Wr (.str t)&&WR (r.map U8))=true;rw[zoK (h t X5),s λu m=>h u (Y1 _ m)];rfl
def zc5 (rs:AD):W2 (rs.map U8)=0:=by
 induction rs with
 | nil=>rfl
 | cons t r m =>
  show max (PyData.depth (.str t)) (W2 (r.map U8))=0;rw[m];rfl
def Rows.cmp {rs:AD}(R:Rows bd.cps.toList rs):zf4 (.list (rs.map U8)) (.list (rs.map U8)):=by
 obtain⟨n,_,_,h⟩:=R.ex;refine⟨zgN h,zgN h,?_⟩;show W2 (rs.map U8)+1<=64;rw[zc5];decide
def bData (rs:AD)(n:Int):Wc:=.tuple [.list (rs.map U8),.int n]
def Rows.cmpB {rs:AD}(R:Rows bd.cps.toList rs)(n:Int):zf4 (bData rs n) (bData rs n):=by
 have c:=R.cmp;have m:Wr (bData rs n)=true:=by
  show (Wr (.list (rs.map U8))&&(Wr (.int n)&&true))=true;rw[c.l1];rfl
 refine⟨m,m,?_⟩;show max (W2 (rs.map U8)+1) (max 0 0)+1<=64;rw[zc5];decide
def qe.rdv {K:XW}{H:Hp}{p l:Addr}{rs:AD}{n:Int}(b:qe H p l rs n):Rdv K H (.ref p) (bData rs n):=.tup (SqT.of b.tp) (.cons (.lst (SqL.of b.rw) (zf7 rs)) (.cons (.int n) .nil))
def qe.mono {H m:Hp}{p l:Addr}{rs:AD}{n:Int}(b:qe H p l rs n)(s:zo H m):qe m p l rs n:=⟨s _ _ b.tp,s _ _ b.rw⟩
def codes (rs:AD):List (List Nat):=rs.map λt=>t.cps.toList
def jY {rs:AD}{i:Nat}{t:Str}(h:rs[i]?=some t):(codes rs)[i]?=some t.cps.toList:=by
 unfold codes;rw[XC,h];rfl
def QC {rs:AD}{i:Nat}{u:List Nat}(h:(codes rs)[i]?=some u):∃t,rs[i]?=some t/\u=t.cps.toList:=by
 unfold codes at h;rw[XC]at h;cases e:rs[i]? with
 | none =>
  rw[e]at h;cases h
 | some t =>
  rw[e]at h;cases h;exact⟨t,rfl,rfl⟩
def qX (rs:AD):(codes rs).length=rs.length:=by
 unfold codes;rw[ZB]
def Rows.short {s:List Nat}{rs:AD}(R:Rows s rs):∀u∈codes rs,u.length<=8:=λu r=>by
 obtain⟨t,m,rfl⟩:=XN.mp r;obtain⟨n,_,w,q⟩:=R.ex;have:=(q t m).len;rw[XZ];lia
def Rows.tlen {s:List Nat}{rs:AD}{i:Nat}{t:Str}(R:Rows s rs)(h:rs[i]?=some t):t.length<=Xv:=by
 obtain⟨n,_,m,q⟩:=R.ex;have e:t.length=n:=(q t (X4 h)).len;rw[e];exact XY m (by decide)
def yQ (H:Hp)(v:V)(c:AA):Prop:=∃a,v=V.ref a/\H a=some (.tup [.int (c.1:Nat),.int (c.2:Nat)])
def Cel (H:Hp):AE->AB->Prop:=XG (yQ H)
def Cel.mono {H m:Hp}(s:zo H m){vs:AE}{r:AB}(w:Cel H vs r):Cel m vs r:=by
 induction w with
 | nil=>exact .nil
 | cons q _ A =>
  obtain⟨a,e,h⟩:=q;exact .cons ⟨a,e,s _ _ h⟩ A
theorem Cel.snoc {H:Hp}{vs:AE}{m:AB}{v:V}{c:AA}(h:Cel H vs m)(x:yQ H v c):Cel H (vs++[v]) (m++[c]):=Paired.snoc h x
def Cel.append {H:Hp}{vs r:AE}{m ds:AB}(h:Cel H vs m)(k:Cel H r ds):Cel H (vs++r) (m++ds):=zcD h k
def Cel.into {H:Hp}(z:Addr)(o:HO){m:AE}(hz:H z=some (.lst m)){vs:AE}{r:AB}(s:Cel H vs r):Cel (upd H z o) vs r:=by
 induction s with
 | nil=>exact .nil
 | cons q _ w =>
  obtain⟨a,e,h⟩:=q;exact .cons ⟨a,e,by rw[zg (zfT h hz (by intro y;cases y))];exact h⟩ w
theorem Cel.length {H:Hp}{vs:AE}{m:AB}(h:Cel H vs m):vs.length=m.length:=Paired.length h
theorem Cel.get {H:Hp}:∀{vs:AE} {m:AB} {i:Nat} {v:V},Cel H vs m->vs[i]?=some v->∃c,m[i]?=some c/\yQ H v c
 | _,_,_,_,.nil,e=>by simp at e
 | _,_,0,_,.cons r _,e=>by
  simp at e;subst e;exact⟨_,rfl,r⟩
 | _,_,i+1,v,.cons _ t,e=>by
  obtain⟨c,s,w⟩:=Cel.get (i:=i) (v:=v) t (by simpa using e);exact⟨c,by simpa using s,w⟩
def zm (c:AA):Wc:=.tuple [.int (c.1:Nat),.int (c.2:Nat)]
def yQ.rdv {K:XW}{H:Hp}{v:V}{c:AA}(h:yQ H v c):Rdv K H v (zm c):=by
 obtain⟨a,rfl,h⟩:=h;exact .tup (SqT.of h) (.cons (.int _) (.cons (.int _) .nil))
def zk6 (c:AA):(zm c).canLay0=true:=rfl
def zey (c d:AA):zf4 (zm c) (zm d):=⟨rfl,rfl,by show max 0 (max 0 0)+1<=64;decide⟩
def zbo (c d:AA):WQ (zm c) (zm d)=decide (c=d):=by
 obtain⟨a,b⟩:=c;obtain⟨x,y⟩:=d;show ((((a:Nat):Int)==((x:Nat):Int))&&((((b:Nat):Int)==((y:Nat):Int))&&true))=decide ((a,b)=(x,y));by_cases m:a=x
 .by_cases r:b=y
  .subst m r;simp
  .have:¬ ((b:Int)=(y:Int)):=by lia
   simp[r,this]
 .have:¬ ((a:Int)=(x:Int)):=by lia
  simp[m,this]
def zc6 (c k:Nat):(V.str ⟨#[c]⟩=V.str ⟨#[k]⟩)=(c=k):=by
 apply propext;constructor
 .intro h;have m:(⟨#[c]⟩:Str)=⟨#[k]⟩:=V.str.inj h;have r:(#[c]:Array Nat)=#[k]:=congrArg Str.cps m;simpa using r
 .rintro rfl;rfl
def J7:("#":Str)=⟨#[35]⟩:=by decide+kernel
def zij:("?":Str)=⟨#[63]⟩:=by decide+kernel
def qq (c:Nat):Bool:=!decide (c=35)
def xY (c:Nat):Bool:=decide (c=63)
def YK (c:Nat):Bool:=qq c && !decide (c=63)
def zqX:Sp:=λvs H Q _=>∃(p l c:Addr) (m:AD) (n:Int) (i j:Nat) (t:Str) (k:Nat),vs=[.ref p,.ref c]/\qe H p l m n/\H c=some (.tup [.int (i:Nat),.int (j:Nat)])/\m[i]?=some t/\t.cps.toList[j]?=some k/\t.length<=Xv/\Q (.str ⟨#[k]⟩) H
def zfs (p:Nat->Bool):Sp:=λvs H Q _=>∃(a l:Addr) (r:AD) (n:Int),vs=[.ref a]/\qe H a l r n/\Rows bd.cps.toList r /\
 ∀(d:Addr) (s:AE) (m:Hp),H d=none->m d=some (.lst s)->Cel m s (Cells.zz p 0 (codes r))->zo H m->Q (.ref d) m
def zmJ:Sp:=λvs H Q _=>∃(p l c:Addr) (m:AD) (n:Int) (i j:Nat) (t:Str) (k:Nat),vs=[.ref p,.ref c]/\qe H p l m n/\H c=some (.tup [.int (i:Nat),.int (j:Nat)])/\m[i]?=some t/\t.cps.toList[j]?=some k/\t.length<=Xv/\48<=k/\k<=56/\Q (.int ((k:Int)-48)) H
def int_sign {k:Nat}(m:48<=k)(r:k<=56):Pf ⟨#[k]⟩=some ((k:Int)-48):=by
 have:∀k∈WG 57,48<=k->Pf ⟨#[k]⟩=some ((k:Int)-48):=by decide+kernel
 exact this k (Wv.mpr (by lia)) m
def zik:zE ["board","cell"] ["board","cell"] (zp qG):=bh
def Yo (D:zk K mg "sign_at" qG ["board","cell"] f fd):zY P w K mg base CX0 1 f fd ["board","cell"] zqX:=by
 refine D.F.ok zik (λvs H Q E h=>?_) (λr A m s H vs Q E I h=>?_)
 .revert h;refine di λp l c G n i j t=>dm λk z0 _=>?_;subst z0;rfl
 .revert h;refine di λp l c G n i j t=>dG λk=>dD λz0 b hc hi=>c9 λB hl q=>?_;subst z0;refine⟨_,(zh (zB (zG zjp (zG yN (zG qa (pvS 0) zf (λ_ _=>rfl)) (zG qa (pvS 1) zf (λ_ _=>rfl)) (λ_ _=>rfl)) (zG qa (pvS 1) zf (λ_ _=>rfl)) (λ_ _=>rfl)))),?_⟩;(try dsimp only[cxK,cxP,cxW]);exact⟨_,rfl,p,_,0,_,rfl,rfl,SqT.of b.tp,rfl,_,rfl,c,_,0,_,rfl,rfl,SqT.of hc,rfl,l,_,_,_,rfl,rfl,SqL.of b.rw,ja (v:=V.str t) (by rw[XC,hi];rfl),_,rfl,c,_,1,_,rfl,rfl,SqT.of hc,rfl,t,_,k,rfl,rfl,hl,ja B,q⟩
def Ze:zE ["board","found","row","text"] ["board"] (zp qF):=bh
def zbO (T:Txt mg)(D:zk K mg "cells_of" qF ["board"] f fd):zY P w K mg base CX0 1 f fd ["board"] (zfs qq):=by
 refine D.F.ok Ze (λvs H Q E h=>?_) (λak A aj s H vs Q E hr h=>?_)
 .obtain⟨a,l,rs,n,rfl,_⟩:=h;rfl
 .revert h;refine dH λa l rs n z0 b R q=>?_;subst z0;refine⟨_,(@ze _ _ _ _ _ (@qx _ _ 1 _ _ _ _ Ze.nd rfl (VU rfl) (@zR _ _ _ _ zd) (by rfl) (.inr rfl)) (ze (qz Xd rfl (Zv (by rfl) T.jR (za (zG qa (pvS 0) zf (λ_ _=>rfl)) zd)) (xW rfl (zW (pgq 2 Ze.nd) (zW (pgq 3 Ze.nd) jV))) (zh (qV (yV W7 Vh Vg Qu (pvS 1) (za (pcm ["column","sign","row"] [none,none,some 2] cR (zlQ (by rfl) T.jR (za (pvS 3) zd)) (zi5 (n:=2) (K:=K) (by rfl) rfl (zW (pgN 0) (zW (pgN 1) jV))) (qI (qp zi0 (pvS 1) (Jf (v:=.str "#") (by rfl) T.Y9.choose_spec (by exact⟨_,rfl⟩)) (qb _))) (qu (za (pvS 2) (za (pvS 0) zd)))) zd))))) (zh (zB (pvS 1))))),?_⟩;(try dsimp only[cxK,cxP,cxW]);refine⟨yU,λd hd=>?_⟩;have s0:zo H (upd H d (.lst [])):=zc hd;refine⟨_,rfl,a,_,0,_,rfl,rfl,SqT.of (b.mono s0).tp,rfl,l,rfl,⟨_,SqL.of (b.mono s0).rw⟩,?_⟩;refine Zw (K:=K) (l:=l) (xs:=rs.map V.str) (λi σ J=>∃(v2 v3:Option V) (G:AE),σ=[some (.ref a),some (.ref d),v2,v3]/\zo H J/\J d=some (.lst G)/\Cel J G (Cells.zz qq 0 ((codes rs).take i)))
   ⟨_,_,[],rfl,s0,zb,.nil⟩ (λi σ J _ ⟨_,_,_,_,s1,_⟩=>SqL.of (b.mono s1).rw) ?_ ?_
  .refine λi x tt σ H1 hx ah=>dJ λv2 v3 G z0 s1 U B=>?_;subst z0;rw[XC]at hx;cases e:rs[i]? with
   | none =>
    rw[e]at hx;cases hx
   | some t =>
    rw[e]at hx;cases hx;have al:i<rs.length:=(XV.mp e).1;have st:zo H1 (upd H1 tt (.tup [.int (i:Nat),.str t])):=zc ah;refine cT tt rfl (SqT.of zb) ⟨rfl,_,(cJ rfl rfl rfl ?_)⟩;have Y:upd H1 tt (.tup [.int (i:Nat),.str t]) d=some (.lst G):=st _ _ U;refine⟨_,rfl,.inl ⟨rfl,_,SqL.of Y⟩,_,rfl,t,rfl,λz hz=>?_⟩;refine zhP (x:=t) (λj σ J=>∃(u0 u1:Option V) (ys:AE),σ=[u0,u1,some (.int (i:Nat))]/\zo (upd H1 tt (.tup [.int (i:Nat),.str t])) J/\J z=some (.lst ys)/\Cel J ys (Cells.zK qq i 0 (t.cps.toList.take j)))
     ⟨_,_,[],rfl,zc hz,zb,.nil⟩ ?_ ?_
    .refine λj c t2 σ L hc ag=>dJ λu0 u1 ys z0 s2 r m=>?_;subst z0;refine cT t2 rfl (SqT.of zb) ⟨rfl,_,(cJ rfl rfl rfl ?_)⟩;refine⟨_,rfl,rfl,_,rfl,?_⟩;have af:t.cps.toList[j]?=some c:=by rw[XA];exact hc
     have M:zo L (upd L t2 (.tup [.int (j:Nat),.str ⟨#[c]⟩])):=zc ag;have step:=Cells.Yb (p:=qq) (i:=i) af;have ed:(!decide (V.str ⟨#[c]⟩=V.str "#"))=qq c:=by
      rw[J7];simp only[zc6];rfl
     rw[ed];by_cases hp:qq c=true
     .rw[hp]at step;refine j6 hp ?_;refine⟨_,rfl,_,rfl,j9,λO ae=>?_⟩;have ai:z≠O:=zj (M _ _ r) ae;have s4:zo (upd L t2 (.tup [.int (j:Nat),.str ⟨#[c]⟩])) (upd (upd L t2 (.tup [.int (j:Nat),.str ⟨#[c]⟩])) O (.tup [.int (i:Nat),.int (j:Nat)])):=zc ae;have ab:ys.length<=8:=by
       rw[m.length];refine XY (Cells.jA _ _ _ _) ?_;have:=R.short _ (X4 (jY e));rw[XM];lia
      refine c5 ys (s4 _ _ (M _ _ r)) (XJ ab (by decide)) (cE (some (.int (j:Nat))) (some (.str ⟨#[c]⟩)) ⟨ys++[.ref O],(cL rfl (λb' o I=>?_) zb ?_)⟩)
      .have hb:b'≠z:=λy=>by
        subst y;rw[hz]at I;cases I
       rw[zg hb];exact s4 _ _ (M _ _ (s2 _ _ I))
      .rw[step];have keep:∀x o,x≠z->upd (upd L t2 (.tup [.int (j:Nat),.str ⟨#[c]⟩])) O (.tup [.int (i:Nat),.int (j:Nat)]) x=some o->upd (upd (upd L t2 (.tup [.int (j:Nat),.str ⟨#[c]⟩])) O (.tup [.int (i:Nat),.int (j:Nat)])) z (.lst (ys++[.ref O])) x=some o:=λx o hx I=>by
        rw[zg hx];exact I
       refine Cel.snoc ?_ ⟨O,rfl,keep _ _ ai.symm zb⟩;exact Cel.into z (.lst (ys++[.ref O])) (s4 _ _ (M _ _ r)) (Cel.mono s4 (Cel.mono M m))
     .have ac:qq c=false:=by simpa using hp
      rw[ac]at step;refine jk ac ?_;refine⟨some (.int (j:Nat)),some (.str ⟨#[c]⟩),ys,rfl,s2.trans M,M _ _ r,?_⟩;rw[step];simpa using Cel.mono M m
    .refine λσ L=>dJ λu0 u1 ys z0 s2 r m=>?_;subst z0;have am:d≠z:=zj Y hz;have aa:L d=some (.lst G):=s2 _ _ Y;have full:t.cps.toList.take t.cps.size=t.cps.toList:=by
      rw[<- XZ,XE]
     rw[full]at m;have step:=Cells.Yc (p:=qq) (jY e);have l1:G.length<=64:=by
      rw[B.length];refine XY (Cells.qL _ _ _ λu hu=>R.short u (V8 hu)) ?_;have:=R.hi;rw[XM,qX];lia
     have l2:ys.length<=8:=by
      rw[m.length];exact XY (Cells.jA _ _ _ _) (R.short _ (X4 (jY e)))
     refine cF d z G ys (cM rfl rfl aa r (XY (Nat.add_le_add l1 l2) (by decide)) ?_);refine⟨_,_,G++ys,rfl,λb' o I=>?_,zb,?_⟩
     .have hb:b'≠d:=λy=>by
       subst y;rw[hd]at I;cases I
      rw[zg hb];exact s2 _ _ (st _ _ (s1 _ _ I))
     .rw[step];exact Cel.into d _ aa (Cel.append (Cel.mono s2 (Cel.mono st B)) m)
  .rintro σ H1 ⟨v2,v3,G,rfl,s1,U,B⟩;rw[ZB,<- qX,XE]at B;exact⟨_,rfl,q d G H1 hd U B s1⟩
def zoL (c:Nat):(qq c&&decide (c=63))=xY c:=by
 unfold qq xY;by_cases h:c=63
 .subst h;rfl
 .simp[h]
def zk7:zE ["board"] ["board"] (zp ZI):=bh
def zez {f1 f2:Addr}{aa ab:XF}(T:Txt mg)(D:zk K mg "closed" ZI ["board"] f fd)(zC:zk K mg "cells_of" qF ["board"] f1 aa)(zq:zk K mg "sign_at" qG ["board","cell"] f2 ab) :
  zY P w K mg base CX0 2 f fd ["board"] (zfs xY):=by
 refine D.F.ok zk7 (λvs H Q E h=>?_) (λaf A ae s H vs Q E hr h=>?_)
 .obtain⟨a,l,r,n,rfl,_⟩:=h;rfl
 .revert h;refine dH λa l r n z0 b R q=>?_;subst z0;refine⟨_,(zh (zB (pcm ["cell","board"] [none,some 0] cR (zJ (pc0 (zbO T zC) hr zC (za (pvS 0) zd))) (pgN 0) (qI (qp YH (pc0 (Yo zq) hr zq (za (pvS 1) (za (pvS 0) zd))) (Jf (v:=.str "?") (by rfl) T.Zo.choose_spec (by exact⟨_,rfl⟩)) (qb _))) (pvS 0)))),?_⟩;(try dsimp only[cxK,cxP,cxW]);refine⟨_,rfl,a,l,r,n,rfl,b,R,λd ws H1 hd I J s1=>⟨d,rfl,⟨_,SqL.of I⟩,λz hz=>?_⟩⟩;have nz:d≠z:=zj I hz;refine qv (K:=K) (a:=d) (xs:=ws) (λi σ Y=>∃(u0:Option V) (ys:AE),σ=[u0,some (.ref a)]/\zo H1 Y/\Y z=some (.lst ys)/\Cel Y ys (((Cells.zz qq 0 (codes r)).take i).filter λx=>decide (Cells.sgn (codes r) x=63)))
   ⟨_,[],rfl,zc hz,zb,.nil⟩ (λi σ Y _ ⟨_,_,_,G,_⟩=>SqL.of (G _ _ I)) ?_ ?_
  .refine λi x σ H2 hx=>dj λu0 ys z0 G B m=>?_;subst z0;obtain⟨c,M,ca,rfl,L⟩:=Cel.get (Cel.mono G J) hx;refine dH (λk0 j u k ec O hj ag=>?_) (Cells.yu (X4 M));obtain⟨t,ht,rfl⟩:=QC O;rw[VI]at ec;subst ec;refine⟨_,rfl,_,rfl,a,l,ca,r,n,k0,j,t,k,rfl,(b.mono s1).mono G,L,ht,hj,R.tlen ht,rfl,_,rfl,?_⟩;have es:Cells.sgn (codes r) (k0,j)=k:=Cells.zcV O hj;have step:((Cells.zz qq 0 (codes r)).take (i+1)).filter (λx=>decide (Cells.sgn (codes r) x=63))=((Cells.zz qq 0 (codes r)).take i).filter (λx=>decide (Cells.sgn (codes r) x=63))++(if decide (k=63)=true then [(k0,j)] else []):=by
    rw[Xe,M,W6];congr 1;show Pi _ [(k0,j)]=_;rw[WB];try dsimp only
    rw[es];split<;>rfl
   have ed:decide (V.str ⟨#[k]⟩=V.str "?")=decide (k=63):=by
    rw[zij];simp only[zc6]
   rw[ed];by_cases hp:decide (k=63)=true
   .rw[bw hp]at step;refine j6 hp ?_;have U:ys.length<=64:=by
     rw[m.length];refine XY (Xw _ _) ?_;rw[XM];have h1:=Cells.qL qq 0 (codes r) R.short;have h2:=R.hi;rw[qX]at h1;lia
    refine⟨_,rfl,ys,B,XJ U (by decide),_,ys++[.ref ca],rfl,λb' o e'=>?_,zb,?_⟩
    .have hb:b'≠z:=λy=>by
      subst y;rw[hz]at e';cases e'
     rw[zg hb];exact G _ _ e'
    .rw[step];exact Cel.into z _ B (Cel.snoc m ⟨ca,rfl,L⟩)
   .rw[bq hp]at step;refine jk (by simpa using hp) ?_;refine⟨_,ys,rfl,G,B,?_⟩;rw[step];simpa using m
  .rintro σ H2 ⟨u0,ys,rfl,G,B,m⟩;rw[J.length,XE,Cells.all_filter (p:=qq) (q:=λk=>decide (k=63)) (codes r)]at m;have ac:H z=none:=s1.free hz;exact q z ys H2 ac B (by rw[Cells.zbN (q:=xY) zoL]at m;exact m) (s1.trans G)
def zdU:zE ["board"] ["board"] (zp qH):=bh
def yd {f1 f2:Addr}{aa ab:XF}(T:Txt mg)(D:zk K mg "open_cells" qH ["board"] f fd)(zC:zk K mg "cells_of" qF ["board"] f1 aa)(zq:zk K mg "sign_at" qG ["board","cell"] f2 ab) :
  zY P w K mg base CX0 2 f fd ["board"] (zfs YK):=by
 refine D.F.ok zdU (λvs H Q E h=>?_) (λaf A ae s H vs Q E hr h=>?_)
 .obtain⟨a,l,r,n,rfl,_⟩:=h;rfl
 .revert h;refine dH λa l r n z0 b R q=>?_;subst z0;refine⟨_,(zh (zB (pcm ["cell","board"] [none,some 0] cR (zJ (pc0 (zbO T zC) hr zC (za (pvS 0) zd))) (pgN 0) (qI (qp zi0 (pc0 (Yo zq) hr zq (za (pvS 1) (za (pvS 0) zd))) (Jf (v:=.str "?") (by rfl) T.Zo.choose_spec (by exact⟨_,rfl⟩)) (qb _))) (pvS 0)))),?_⟩;(try dsimp only[cxK,cxP,cxW]);refine⟨_,rfl,a,l,r,n,rfl,b,R,λd ws H1 hd I J s1=>⟨d,rfl,⟨_,SqL.of I⟩,λz hz=>?_⟩⟩;have nz:d≠z:=zj I hz;refine qv (K:=K) (a:=d) (xs:=ws) (λi σ Y=>∃(u0:Option V) (ys:AE),σ=[u0,some (.ref a)]/\zo H1 Y/\Y z=some (.lst ys)/\Cel Y ys (((Cells.zz qq 0 (codes r)).take i).filter λx=>!decide (Cells.sgn (codes r) x=63)))
   ⟨_,[],rfl,zc hz,zb,.nil⟩ (λi σ Y _ ⟨_,_,_,G,_⟩=>SqL.of (G _ _ I)) ?_ ?_
  .refine λi x σ H2 hx=>dj λu0 ys z0 G B m=>?_;subst z0;obtain⟨c,M,ca,rfl,L⟩:=Cel.get (Cel.mono G J) hx;refine dH (λk0 j u k ec O hj ag=>?_) (Cells.yu (X4 M));obtain⟨t,ht,rfl⟩:=QC O;rw[VI]at ec;subst ec;refine⟨_,rfl,_,rfl,a,l,ca,r,n,k0,j,t,k,rfl,(b.mono s1).mono G,L,ht,hj,R.tlen ht,rfl,_,rfl,?_⟩;have es:Cells.sgn (codes r) (k0,j)=k:=Cells.zcV O hj;have step:((Cells.zz qq 0 (codes r)).take (i+1)).filter (λx=>!decide (Cells.sgn (codes r) x=63))=((Cells.zz qq 0 (codes r)).take i).filter (λx=>!decide (Cells.sgn (codes r) x=63))++(if (!decide (k=63))=true then [(k0,j)] else []):=by
    rw[Xe,M,W6];congr 1;show Pi _ [(k0,j)]=_;rw[WB];try dsimp only
    rw[es];split<;>rfl
   have ed:(!decide (V.str ⟨#[k]⟩=V.str "?"))=(!decide (k=63)):=by
    rw[zij];simp only[zc6]
   rw[ed];by_cases hp:(!decide (k=63))=true
   .rw[bw hp]at step;refine j6 hp ?_;have U:ys.length<=64:=by
     rw[m.length];refine XY (Xw _ _) ?_;rw[XM];have h1:=Cells.qL qq 0 (codes r) R.short;have h2:=R.hi;rw[qX]at h1;lia
    refine⟨_,rfl,ys,B,XJ U (by decide),_,ys++[.ref ca],rfl,λb' o e'=>?_,zb,?_⟩
    .have hb:b'≠z:=λy=>by
      subst y;rw[hz]at e';cases e'
     rw[zg hb];exact G _ _ e'
    .rw[step];exact Cel.into z _ B (Cel.snoc m ⟨ca,rfl,L⟩)
   .rw[bq hp]at step;refine jk (by simpa using hp) ?_;refine⟨_,ys,rfl,G,B,?_⟩;rw[step];simpa using m
  .rintro σ H2 ⟨u0,ys,rfl,G,B,m⟩;rw[J.length,XE,Cells.all_filter (p:=qq) (q:=λk=>(!decide (k=63))) (codes r)]at m;have ac:H z=none:=s1.free hz;exact q z ys H2 ac B m (s1.trans G)
def zft:zE ["board","cell"] ["board","cell"] (zp ju):=bh
def Yp {J:Addr}{m:XF}(T:Txt mg)(D:zk K mg "number_at" ju ["board","cell"] f fd)(G:zk K mg "sign_at" qG ["board","cell"] J m):zY P w K mg base CX0 2 f fd ["board","cell"] zmJ:=by
 refine D.F.ok zft (λvs H Q E h=>?_) (λI A r s H vs Q E M h=>?_)
 .revert h;refine di λp l c B n i j t=>dm λk z0 _=>?_;subst z0;rfl
 .revert h;refine di λp l c B n i j t=>dG λk=>dD λz0 b hc hi=>dD λL hl O U q=>?_;subst z0;refine⟨_,(zh (zB (pt1 zaw T.zmH SE (pc0 (Yo G) M G (za (pvS 0) (za (pvS 1) zd)))))),?_⟩;(try dsimp only[cxK,cxP,cxW]);exact⟨_,rfl,_,rfl,p,l,c,B,n,i,j,t,k,rfl,b,hc,hi,L,hl,⟨#[k]⟩,_,rfl,int_sign O U,(by show 1<=640;decide),q⟩
def zbp {k:Nat}(h:k∈bd.cps.toList)(m:YK k=true):48<=k/\k<=56:=by
 have:∀k∈bd.cps.toList,YK k=true->48<=k/\k<=56:=by decide+kernel
 exact this k h m
def Rows.openAt {rs:AD}(R:Rows bd.cps.toList rs){p:Nat->Bool}{c:AA}(h:c∈Cells.zz p 0 (codes rs)):∃t k,rs[c.1]?=some t/\t.cps.toList[c.2]?=some k/\p k=true/\k∈bd.cps.toList/\t.length<=Xv:=by
 obtain⟨B,j,u,k,w,m,A,r⟩:=Cells.yu h;obtain⟨t,s,rfl⟩:=QC m;rw[VI]at w;subst w;obtain⟨n,_,_,q⟩:=R.ex;exact⟨t,k,s,A,r,(q t (X4 s)).mem k (X4 A),R.tlen s⟩
def zL (rs:AD)(y:AA):AB:=(Cells.zz qq 0 (codes rs)).filter λx=>Cells.near x y
def zmK:Sp:=λvs H Q _=>∃(p l s:Addr) (r:AD) (n:Int) (i j:Nat),vs=[.ref p,.ref s]/\qe H p l r n/\Rows bd.cps.toList r/\H s=some (.tup [.int (i:Nat),.int (j:Nat)])/\i<64/\j<64 /\
 ∀(d:Addr) (w:AE) (m:Hp),H d=none->m d=some (.lst w)->Cel m w (zL r (i,j))->zo H m->Q (.ref d) m
def zgO (i:Nat):(if (0:Int)>(i:Int)-1 then (0:Int) else (i:Int)-1)=((i-1:Nat):Int):=by
 split<;>lia
def zgP (i m:Nat):(if ((m:Nat):Int)<(i:Int)+2 then ((m:Nat):Int) else (i:Int)+2)=((min (i+2) m:Nat):Int):=by
 split<;>lia
def zgQ {f:AA->Bool}{l:AB}{x:AA}(a:Bool):(l++(if a=true then [x] else [])).filter f=l.filter f++(if (a&&f x)=true then [x] else []):=by
 rw[W6];congr 1;by_cases h:a=true
 .by_cases m:f x=true
  .simp[h,m]
  .simp[h,m]
 .simp[h]
def ZL:zE ["board","cell","rows","found","row","column"] ["board","cell"] (zp jG):=bh
def QD (T:Txt mg)(D:zk K mg "around" jG ["board","cell"] f fd):zY P w K mg base CX0 1 f fd ["board","cell"] zmK:=by
 refine D.F.ok ZL (λvs H Q E h=>?_) (λaw A as s H vs Q E hr h=>?_)
 .revert h;refine dN λp l ca G n i j=>c8 λz0 _=>?_;subst z0;rfl
 .revert h;refine dg λp l ca G=>dB λn i j z0 b R M=>c9 λau av q=>?_;subst z0;refine⟨_,(ze (qR 2 ZL.nd (zG qa (pvS 0) zf (λ_ _=>rfl))) (@ze _ _ _ _ _ (@qx _ _ 3 _ _ _ _ ZL.nd rfl (VU rfl) (@zR _ _ _ _ zd) (by rfl) (.inr rfl)) (ze (qz Xd rfl (Qs (by rfl) T.jB (za (pb2 (Qt rfl) T.zgM UK (zx Qx (zG qa (pvS 1) zf (λ_ _=>rfl)) zf) zf) (za (pb2 (Zt rfl) T.zex Vp (zx xD (zG qa (pvS 1) zf (λ_ _=>rfl)) zf) (pb1 zM T.qT Xa (pvS 2))) zd))) (pgq 4 ZL.nd) (zh (qz Xd rfl (Qs (by rfl) T.jB (za (pb2 (Qt rfl) T.zgM UK (zx Qx (zG qa (pvS 1) zf (λ_ _=>rfl)) zf) zf) (za (pb2 (Zt rfl) T.zex Vp (zx xD (zG qa (pvS 1) zf (λ_ _=>rfl)) zf) (pb1 zau T.qT Xa (zG yN (pvS 2) (pvS 4) (λ_ _=>rfl)))) zd))) (pgq 5 ZL.nd) (zh (qW (PW.pt (ze4 (qp zi0 (zG zjp (zG yN (pvS 2) (pvS 4) (λ_ _=>rfl)) (pvS 5) (λ_ _=>rfl)) (Jf (v:=.str "#") (by rfl) T.Y9.choose_spec (by exact⟨_,rfl⟩)) (qb _)) (zcf (qp (jy hr.units) (qu (za (pvS 4) (za (pvS 5) zd))) (pvS 1) (qb _))))) (zh (qV (yV W7 WJ WI jP (pvS 3) (za (qu (za (pvS 4) (za (pvS 5) zd))) zd)))) qd))))) (zh (zB (pvS 3)))))),?_⟩;(try dsimp only[cxK,cxP,cxW]);refine⟨_,rfl,p,_,0,_,rfl,rfl,SqT.of b.tp,rfl,?_⟩;refine⟨yU,λd hd=>?_⟩;have s0:zo H (upd H d (.lst [])):=zc hd;have r8:=R.hi;refine⟨_,rfl,ca,_,0,_,rfl,rfl,SqT.of (s0 _ _ M),rfl,_,_,rfl,rfl,_,_,rfl,_,rfl,ca,_,0,_,rfl,rfl,SqT.of (s0 _ _ M),rfl,_,_,rfl,rfl,_,rfl,l,_,rfl,.inl (SqL.of (b.mono s0).rw),_,_,rfl,((i-1:Nat):Int),((min (i+2) G.length:Nat):Int),?_,⟨by lia,by lia,by lia,by lia⟩,?_⟩
  .show [V.int (if (0:Int)>(i:Int)-1 then (0:Int) else (i:Int)-1),V.int (if (((G.map V.str).length:Nat):Int)<(i:Int)+2 then (((G.map V.str).length:Nat):Int) else (i:Int)+2)]=_;rw[ZB,zgO,zgP]
  refine qE (lo:=((i-1:Nat):Int)) (λk σ H'=>∃(v4 v5:Option V) (ws:AE),σ=[some (.ref p),some (.ref ca),some (.ref l),some (.ref d),v4,v5]/\zo H H'/\H' d=some (.lst ws)/\Cel H' ws ((Cells.zz qq 0 ((codes G).take (i-1+k))).filter λx=>Cells.near x (i,j)))
   ⟨_,_,[],rfl,s0,zb,?_⟩ ?_ ?_
  .rw[Cells.zmt]
   .exact .nil
   .intro r c an;rw[Xk,ne_eq,Cells.JG];rintro⟨⟨_,h2⟩,_⟩;dsimp only at h2;lia
  .refine λk σ H1 hk=>dJ λv4 v5 ws z0 s1 ab Y=>?_;subst z0;have ao:i-1+k<G.length:=by lia
   have aa:((i-1:Nat):Int)+(k:Nat)=((i-1+k:Nat):Int):=by lia
   rw[aa];generalize az:i-1+k=r at *
   obtain⟨t,ht⟩:∃t,G[r]?=some t:=⟨_,XX ao⟩;have ak:t.length<=Xv:=R.tlen ht;have a2:t.cps.toList.length<=8:=R.short _ (X4 (jY ht));have ae:atI (G.map V.str) ((r:Nat):Int)=some (V.str t):=ja (by rw[XC,ht];rfl);refine⟨_,rfl,ca,_,1,_,rfl,rfl,SqT.of (s1 _ _ M),rfl,_,_,rfl,rfl,_,_,rfl,_,rfl,ca,_,1,_,rfl,rfl,SqT.of (s1 _ _ M),rfl,_,_,rfl,rfl,_,rfl,_,rfl,l,_,_,_,rfl,rfl,SqL.of (b.mono s1).rw,ae,t,rfl,ak,_,_,rfl,((j-1:Nat):Int),((min (j+2) t.cps.size:Nat):Int),?_,⟨by lia,by lia,by lia,?_⟩,?_⟩
   .show [V.int (if (0:Int)>(j:Int)-1 then (0:Int) else (j:Int)-1),V.int (if ((t.cps.size:Nat):Int)<(j:Int)+2 then ((t.cps.size:Nat):Int) else (j:Int)+2)]=_;rw[zgO,zgP]
   .lia
   have a1:t.cps.toList.length=t.cps.size:=XZ;refine qE (lo:=((j-1:Nat):Int)) (λm σ H'=>∃(v5:Option V) (ws:AE),σ=[some (.ref p),some (.ref ca),some (.ref l),some (.ref d),some (.int (r:Nat)),v5]/\zo H H'/\H' d=some (.lst ws)/\Cel H' ws ((Cells.zz qq 0 ((codes G).take r)).filter (λx=>Cells.near x (i,j))++(Cells.zK qq r 0 (t.cps.toList.take (j-1+m))).filter λx=>Cells.near x (i,j)))
    ⟨_,ws,rfl,s1,ab,?_⟩ ?_ ?_
   .rw[Cells.zmu (t:=t.cps.toList),Xx]
    .exact Y
    .intro c al;rw[Xk,ne_eq,Cells.JG];rintro⟨_,⟨_,h2⟩,_⟩;dsimp only at h2;lia
   .refine λm σ H2 hm=>dj λv5 J z0 s2 O I=>?_;subst z0;have ay:j-1+m<t.cps.size:=by lia
    have U:((j-1:Nat):Int)+(m:Nat)=((j-1+m:Nat):Int):=by lia
    rw[U];generalize ax:j-1+m=c at *
    have L:j-1+(m+1)=c+1:=by lia
    obtain⟨k0,ah⟩:∃k0,t.cps.toList[c]?=some k0:=⟨_,XX (by lia)⟩;have step:=Cells.Yb (p:=qq) (i:=r) ah;have B:(Cells.zK qq r 0 (t.cps.toList.take (c+1))).filter (λx=>Cells.near x (i,j))=(Cells.zK qq r 0 (t.cps.toList.take c)).filter (λx=>Cells.near x (i,j))++(if (qq k0&&Cells.near (r,c) (i,j))=true then [(r,c)] else []):=by
     rw[step,zgQ]
    have nr:Cells.near (r,c) (i,j)=!decide ((r,c)=(i,j)):=by
     rw[WN,Cells.JG];simp only[WA,decide_eq_false_iff_not];constructor
     .exact λh=>h.2.2
     .intro h;refine⟨⟨?_,?_⟩,⟨?_,?_⟩,h⟩<;>(try dsimp only)<;>lia
    refine⟨_,rfl,_,rfl,l,_,_,_,rfl,rfl,SqL.of (b.mono s2).rw,ae,_,rfl,t,_,k0,rfl,rfl,ak,ja ah,rfl,_,rfl,?_⟩;have ed:(!decide (V.str ⟨#[k0]⟩=V.str "#"))=qq k0:=by
     rw[J7];simp only[zc6];rfl
    rw[ed];by_cases hp:qq k0=true
    .refine j6 hp ?_;refine⟨_,rfl,_,rfl,j9,λtp aq=>?_⟩;have s3:zo H2 (upd H2 tp (.tup [.int (r:Nat),.int (c:Nat)])):=zc aq;have ag:=s3 _ _ (s2 _ _ M);refine⟨_,rfl,_,_,yQ.rdv (c:=(r,c)) ⟨tp,rfl,zb⟩,yQ.rdv (c:=(i,j)) ⟨ca,rfl,ag⟩,zey _ _,_,rfl,?_⟩;have ee:(if true=true then !PyData.eqv (zm (r,c)) (zm (i,j)) else WQ (zm (r,c)) (zm (i,j)))=Cells.near (r,c) (i,j):=by
      rw[zbo,nr];rfl
     rw[ee];rw[hp,Bool.true_and]at B;by_cases hn:Cells.near (r,c) (i,j)=true
     .refine j6 hn ?_;rw[bw hn]at B;have ac:=s3 _ _ O;refine⟨_,rfl,.inl ⟨rfl,_,SqL.of ac⟩,_,rfl,_,rfl,j9,λtq ar=>?_⟩;have s4:zo (upd H2 tp (.tup [.int (r:Nat),.int (c:Nat)])) (upd (upd H2 tp (.tup [.int (r:Nat),.int (c:Nat)])) tq (.tup [.int (r:Nat),.int (c:Nat)])):=zc ar;have ai:J.length<=128:=by
       rw[I.length,X6];have h1:=Xw (λx=>Cells.near x (i,j)) (Cells.zz qq 0 ((codes G).take r));have h2:=Xw (λx=>Cells.near x (i,j)) (Cells.zK qq r 0 (t.cps.toList.take c));have h3:=Cells.qL qq 0 ((codes G).take r) λu hu=>R.short u (V8 hu);have h4:=Cells.jA qq r 0 (t.cps.toList.take c);rw[XM,qX]at h3;rw[XM]at h4;lia
      refine⟨d,_,_,rfl,rfl,s4 _ _ ac,XJ ai (by decide),?_⟩;refine⟨_,J++[.ref tq],rfl,λb' o e'=>?_,zb,?_⟩
      .rw[zg (zj e' hd)];exact s4 _ _ (s3 _ _ (s2 _ _ e'))
      .rw[L,B,<- W9];exact Cel.into d _ (s4 _ _ ac) (Cel.snoc (Cel.mono s4 (Cel.mono s3 I)) ⟨tq,rfl,zb⟩)
     .have am:Cells.near (r,c) (i,j)=false:=by simpa using hn
      refine jk am ?_;rw[bq hn,Xx]at B;refine⟨_,J,rfl,s2.trans s3,s3 _ _ O,?_⟩;rw[L,B];exact Cel.mono s3 I
    .have aj:qq k0=false:=by simpa using hp
     refine jk aj ?_;refine Q4 ?_;rw[aj,Ph,bq XT,Xx]at B;refine⟨_,J,rfl,s2,O,?_⟩;rw[L,B];exact I
   .refine λσ H2=>dj λv5 J z0 s2 O I=>?_;subst z0;refine⟨_,_,J,rfl,s2,O,?_⟩;have full:(Cells.zK qq r 0 (t.cps.toList.take (j-1+(((min (j+2) t.cps.size:Nat):Int)-((j-1:Nat):Int)).toNat))).filter (λx=>Cells.near x (i,j))=(Cells.zK qq r 0 t.cps.toList).filter λx=>Cells.near x (i,j):=by
     by_cases af:t.cps.size<=j-1+(((min (j+2) t.cps.size:Nat):Int)-((j-1:Nat):Int)).toNat
     .rw[WT (by lia)]
     .refine Cells.zkY λc al=>?_;rw[Xk,ne_eq,Cells.JG];rintro⟨_,⟨h2,_⟩,_⟩;dsimp only at h2;lia
    rw[full]at I;have e1:i-1+(k+1)=r+1:=by lia
    rw[e1,Cells.Yc (jY ht),W6];exact I
  .rintro σ H1 ⟨v4,v5,ws,rfl,s1,ab,Y⟩;have full:(Cells.zz qq 0 ((codes G).take (i-1+(((min (i+2) G.length:Nat):Int)-((i-1:Nat):Int)).toNat))).filter (λx=>Cells.near x (i,j))=zL G (i,j):=by
    by_cases af:G.length<=i-1+(((min (i+2) G.length:Nat):Int)-((i-1:Nat):Int)).toNat
    .rw[WT (by rw[qX];lia)];rfl
    .refine Cells.zkX λr c an=>?_;rw[Xk,ne_eq,Cells.JG];rintro⟨⟨h2,_⟩,_⟩;dsimp only at h2;lia
   rw[full]at Y;exact⟨_,rfl,q d ws H1 hd ab Y s1⟩
def yQ.rdn {N:Addr->Prop}{H:Hp}{v:V}{c:AA}(h:yQ H v c):Rdn N H v (zm c):=by
 obtain⟨a,rfl,h⟩:=h;exact .tup h (.cons (.int _) (.cons (.int _) .nil))
theorem Cel.rdn {N:Addr->Prop}{H:Hp}{vs:AE}{m:AB}(r:Cel H vs m):zu N H vs (m.map zm):=by
 induction r with
 | nil=>exact .nil
 | cons h _ s =>
  exact .cons (yQ.rdn h) s
def Rdn.celR {N:Addr->Prop}{H:Hp}{v:V}{c:AA}(h:Rdn N H v (zm c)):yQ H v c:=by
 cases h with
 | tup h t =>
  cases t with
  | cons a t =>
   cases a;cases t with
   | cons b t =>
    cases b;cases t;exact⟨_,rfl,h⟩
theorem zu.cel {N:Addr->Prop}{H:Hp}:∀{m:AB} {vs:AE},zu N H vs (m.map zm)->Cel H vs m
 | [],_,h=>by cases h;exact .nil
 | c::r,_,h=>by
  cases h with
  | cons a t=>exact .cons (Rdn.celR a) (zu.cel t)
theorem zu.bools {N:Addr->Prop}{H:Hp}:∀{bs:List Bool} {vs:AE},zu N H vs (bs.map S8)->vs=bs.map V.bl
 | [],_,h=>by cases h;rfl
 | b::r,_,h=>by
  cases h with
  | cons a t =>
   cases a;rw[zu.bools t];rfl
theorem qf {α:Type}(p:α->Bool)(g:α->Wc):∀m:List α,(m.map λx=>if p x=true then some (g x) else none).filterMap id=(m.filter p).map g
 | []=>rfl
 | c::r=>by
  rw[Xu,U4,WB];by_cases h:p c=true
  .rw[bw h,bw h];show g c::_=g c::_;rw[qf p g r]
  .rw[bq h,bq h];exact qf p g r
theorem ZM {α:Type}(g:α->Wc):∀m:List α,(m.map λx=>some (g x)).filterMap id=m.map g
 | []=>rfl
 | c::r=>by
  rw[Xu,U4];show g c::_=g c::_;rw[ZM g r]
def jL {α s:Type}{g:α->s}{m:List α}{i:Nat}{c:α}{o:s}(h:m[i]?=some c)(r:(m.map g)[i]?=some o):o=g c:=by
 rw[XC,h]at r;exact(Option.some.inj r).symm
def clA (rs:AD)(c:AA):AB:=(zL rs c).filter λx=>decide (Cells.sgn (codes rs) x=63)
def zv (rs:AD):AB:=Cells.zz xY 0 (codes rs)
def zU (rs:AD):AB:=Cells.zz YK 0 (codes rs)
def zb4 (rs:AD):AB:=(zv rs).filter λc=>!((zU rs).map λo=>(zL rs o).any λz=>decide (z=c)).any id
def YL (rs:AD):AB:=((zU rs).filter λo=>(clA rs o).isEmpty).filter λo=>!decide (Cells.sgn (codes rs) o=48)
def jo {p:Nat->Bool}{rs:AD}(R:Rows bd.cps.toList rs):(Cells.zz p 0 (codes rs)).length<=64:=by
 have m:=Cells.qL p 0 (codes rs) R.short;have r:=R.hi;rw[qX]at m;lia
def Zp {rs:AD}(R:Rows bd.cps.toList rs)(c:AA):(zL rs c).length<=64:=XY (Xw _ _) (jo R)
def qh {p:Nat->Bool}{rs:AD}{c:AA}(h:c∈Cells.zz p 0 (codes rs)):∃t k,rs[c.1]?=some t/\t.cps.toList[c.2]?=some k/\p k=true/\Cells.sgn (codes rs) c=k:=by
 obtain⟨B,j,u,k,s,m,w,r⟩:=Cells.yu h;obtain⟨t,A,rfl⟩:=QC m;rw[VI]at s;subst s;exact⟨t,k,A,w,r,Cells.zcV m w⟩
def yq {rs:AD}{c:AA}{t:Str}{k:Nat}(R:Rows bd.cps.toList rs)(m:rs[c.1]?=some t)(r:t.cps.toList[c.2]?=some k):c.1<64/\c.2<64:=by
 have a:=(XV.mp m).1;have b:=(XV.mp r).1;have e:=R.hi;have f:=R.short _ (X4 (jY m));lia
def zjz {rs:AD}{i j:Nat}{t:Str}{k:Nat}(R:Rows bd.cps.toList rs)(m:rs[i]?=some t)(r:t.cps.toList[j]?=some k):k∈bd.cps.toList:=by
 obtain⟨n,_,_,h⟩:=R.ex;exact(h t (X4 m)).mem k (X4 r)
def zpJ:Sp:=λvs H Q _=>∃(p l s:Addr) (r:AD) (n:Int) (c:AA),vs=[.ref p,.ref s]/\qe H p l r n/\Rows bd.cps.toList r/\H s=some (.tup [.int (c.1:Nat),.int (c.2:Nat)])/\c.1<64/\c.2<64 /\
 ∀(d:Addr) (w:AE) (m:Hp),H d=none->m d=some (.lst w)->Cel m w (clA r c)->zo H m->Q (.ref d) m
def zpK (g:AD->AB):Sp:=λvs H Q _=>∃(a l:Addr) (r:AD) (n:Int),vs=[.ref a]/\qe H a l r n/\Rows bd.cps.toList r /\
 ∀(d:Addr) (s:AE) (m:Hp),H d=none->m d=some (.lst s)->Cel m s (g r)->zo H m->Q (.ref d) m
def zbq:zE ["board","cell"] ["board","cell"] (zp qJ):=bh
def jZ {f1 f2:Addr}{U aa:XF}(T:Txt mg)(D:zk K mg "closed_around" qJ ["board","cell"] f fd)(zO:zk K mg "around" jG ["board","cell"] f1 U)(zq:zk K mg "sign_at" qG ["board","cell"] f2 aa) :
  zY P w K mg base CX0 2 f fd ["board","cell"] zpJ:=by
 refine D.F.ok zbq (λvs H Q E h=>?_) (λag A ae s H vs Q E hr h=>?_)
 .revert h;refine dg λp l ca J=>dF λn c=>c8 λz0 _=>?_;subst z0;rfl
 .revert h;refine dg λp l ca J=>dw λn c z0 b R ab=>c9 λci cj q=>?_;subst z0;refine⟨_,(zh (zB (pcm ["place","board"] [none,some 0] cR (zJ (pc0 (QD T zO) hr zO (za (pvS 0) (za (pvS 1) zd)))) (pgN 0) (qI (qp YH (pc0 (Yo zq) hr zq (za (pvS 1) (za (pvS 0) zd))) (Jf (v:=.str "?") (by rfl) T.Zo.choose_spec (by exact⟨_,rfl⟩)) (qb _))) (pvS 0)))),?_⟩;(try dsimp only[cxK,cxP,cxW]);refine⟨_,rfl,_,rfl,p,l,ca,J,n,c.1,c.2,rfl,b,R,ab,ci,cj,λd ws H1 hd B m s1=>⟨d,rfl,⟨_,SqL.of B⟩,λz hz=>?_⟩⟩;refine ql (K:=K) (a:=d) (xs:=ws) (λa=>a≠z) ((zL J c).map λx=>if decide (Cells.sgn (codes J) x=63)=true then some (zm x) else none) (fun σ=>∃u0,σ=[u0,some (.ref p)]) hz (λ_ h=>h) ⟨_,rfl⟩ (by rw[ZB];exact m.length.symm) (by rw[m.length];exact XY (Zp R c) (by decide)) (SqL.of B) ?_ ?_
  .rintro k x o σ H2 hx ho L _ ⟨u0,rfl⟩ Y Z af no;obtain⟨y,hy,r1⟩:=Cel.get m hx;have r:=jL hy ho;obtain⟨t,O,ht,hj,_,es⟩:=qh (X8.mp (X4 hy)).1;obtain⟨ya,rfl,I⟩:=r1;refine⟨_,rfl,_,rfl,p,l,ya,J,n,y.1,y.2,t,O,rfl,(b.mono s1).mono L,L _ _ I,ht,hj,R.tlen ht,rfl,_,rfl,?_⟩;have ed:decide (V.str ⟨#[O]⟩=V.str "?")=decide (O=63):=by
    rw[zij];simp only[zc6]
   rw[ed];rw[es]at r;by_cases M:O=63
   .rw[br M];rw[bw (br M)]at r;exact Q5 ⟨_,rfl,af _ _ _ _ r ⟨_,rfl⟩ (zo.refl _) (yQ.rdn ⟨ya,rfl,L _ _ I⟩)⟩
   .rw[bf M];rw[bq (by rw[bf M];exact XT)]at r;exact Q4 (no _ _ r ⟨_,rfl⟩ (zo.refl _))
  .rintro ys H2 L ac G;rw[qf]at G;exact q z ys H2 (s1.free hz) ac (zu.cel G) (s1.trans L)
def YM (m:AB):WR (m.map zm)=true:=by
 induction m with
 | nil=>rfl
 | cons c r s =>
  show (Wr (zm c)&&WR (r.map zm))=true;rw[s];rfl
def Yq (m:AB):W2 (m.map zm)<=1:=by
 induction m with
 | nil=>exact W3 _
 | cons c r s =>
  show max (PyData.depth (zm c)) (W2 (r.map zm))<=1;have:PyData.depth (zm c)=1:=rfl;lia
def zbr (m ds:AB):zf4 (.list (m.map zm)) (.list (ds.map zm)):=⟨YM m,YM ds,by
 show W2 (m.map zm)+1<=64;have:=Yq m;lia⟩
def xO (m:AB)(c:AA):(m.map zm).any (λz=>WQ z (zm c))=m.any λz=>decide (z=c):=by
 rw[TR];congr 1;funext z;exact zbo z c
def eq_nil (m:AB):WQ (.list (m.map zm)) (.list [])=m.isEmpty:=by
 cases m<;>rfl
def zmL:zE ["board","told"] ["board"] (zp zjw):=bh
def zqY {f1 f2 f3 f4 f5:Addr}{am an ao aq ar:XF}(T:Txt mg)(D:zk K mg "far" zjw ["board"] f fd)(zO:zk K mg "around" jG ["board","cell"] f1 am)(zq:zk K mg "sign_at" qG ["board","cell"] f2 an)
  (zC:zk K mg "cells_of" qF ["board"] f3 ao) (jS:zk K mg "closed" ZI ["board"] f4 aq) (zI:zk K mg "open_cells" qH ["board"] f5 ar):zY P w K mg base CX0 3 f fd ["board"] (zpK zb4):=by
 refine D.F.ok zmL (λvs H Q E h=>?_) (λa4 A a1 s H vs Q E hr h=>?_)
 .obtain⟨a,l,r,n,rfl,_⟩:=h;rfl
 .revert h;refine dH λa l r n z0 b R q=>?_;subst z0;refine⟨_,(ze (qR 1 zmL.nd (pcm ["cell","board"] [none,some 0] cR (zJ (pc0 (yd T zI zC zq) hr zI (za (pvS 0) zd))) (pgN 0) qo (pc0 (QD T zO) hr zO (za (pvS 1) (za (pvS 0) zd))))) (zh (zB (zsQ ["cell","told"] [none,some 1] (c1 (y:="cell")) (zJ (pc0 (zez T jS zC zq) hr jS (za (pvS 0) zd))) (pgN 0) (qI (Q2 (Qv (K:=K) (by rfl) (pb1 (zed (K:=K) (by rfl) (by rfl)) T.zjx T8 (pcm ["near","cell"] [none,some 0] cR (zgg (K:=K) (by rfl) (pvS 1)) (pgN 0) qo (yE (jN (K:=K) (by rfl) hr.units) (pvS 1) (pvS 0) (by rfl)))) (λ_=>rfl)))) (pvS 0))))),?_⟩;(try dsimp only[cxK,cxP,cxW]);refine⟨_,rfl,a,l,r,n,rfl,b,R,λd ws H1 hd ab J s1=>⟨d,rfl,⟨_,SqL.of ab⟩,λz hz=>?_⟩⟩;have b1:=b.mono s1;refine ql (K:=K) (a:=d) (xs:=ws) (λa=>a≠z) ((zU r).map λo=>some (.list ((zL r o).map zm))) (fun σ=>∃O,σ=[O,some (.ref a)]) hz (λ_ h=>h) ⟨_,rfl⟩ (by rw[ZB];exact J.length.symm) (by rw[J.length];exact XY (jo R) (by decide)) (SqL.of ab) ?_ ?_
  .rintro k x o σ H2 hx ho s2 az ⟨O,rfl⟩ Y Z aa no;obtain⟨y,hy,r1⟩:=Cel.get J hx;have eo:=jL hy ho;obtain⟨t,sg,ht,hj,_,es⟩:=qh (X4 hy);obtain⟨U,rfl,B⟩:=r1;obtain⟨l1,l2⟩:=yq R ht hj;refine xB ⟨_,rfl,_,rfl,a,l,U,r,n,y.1,y.2,rfl,b1.mono s2,R,s2 _ _ B,l1,l2,λd2 a6 H3 au ac as s3=>?_⟩;refine aa _ _ _ _ eo ⟨_,rfl⟩ s3 (.lst (λe=>az (e ▸ au)) ac (Cel.rdn as))
  .rintro ys H2 s2 ax M;rw[ZM]at M;have b2:=b1.mono s2;refine⟨_,rfl,a,l,r,n,rfl,b2,R,λd3 a2 H3 ac ae L s3=>⟨d3,rfl,⟨_,SqL.of ae⟩,λz3 ai=>?_⟩⟩;have aj:=s3 _ _ ax;have aw:=M.keep s3;refine ql (K:=K) (a:=d3) (xs:=a2) (λa=>a≠z3) ((zv r).map λc=>if (!((zU r).map λo=>(zL r o).any λz=>decide (z=c)).any id)=true then some (zm c) else none) (fun σ=>∃O,σ=[O,some (.ref z)]) ai (λ_ h=>h) ⟨_,rfl⟩ (by rw[ZB];exact L.length.symm) (by rw[L.length];exact XY (jo R) (by decide)) (SqL.of ae) ?_ ?_
   .rintro k x o σ H4 hx ho s4 _ ⟨O,rfl⟩ Y Z aa no;obtain⟨y,hy,r1⟩:=Cel.get L hx;have eo:=jL hy ho;have r2:yQ H4 x y:=by
     obtain⟨U,e,B⟩:=r1;exact⟨U,e,s4 _ _ B⟩
    refine⟨_,rfl,z,rfl,⟨_,SqL.of (s4 _ _ aj)⟩,λz5 ay=>?_⟩;have ah:ys.length=(zU r).length:=by rw[M.length,ZB]
    refine ql (K:=K) (a:=z) (xs:=ys) (λa=>a≠z5) ((zU r).map λo=>some (.bool ((zL r o).any λz=>decide (z=y)))) (fun σ=>∃O,σ=[O,some x]) ay (λ_ h=>h) ⟨_,rfl⟩ (by rw[ZB];exact ah.symm) (by rw[ah];exact XY (jo R) (by decide)) (SqL.of (s4 _ _ aj)) ?_ ?_
    .rintro m v o2 σ H5 hv av s5 _ ⟨u1,rfl⟩ Y2 Z2 ak a5;obtain⟨dv,G,rv⟩:=aw.get hv;rw[XC]at G;cases eoc:(zU r)[m]? with
     | none=>rw[eoc]at G;cases G
     | some oc =>
      rw[eoc]at G;cases G;have al:=jL eoc av;have r3:yQ H5 x y:=by
       obtain⟨U,e,B⟩:=r2;exact⟨U,e,s5 _ _ B⟩
      refine xB ⟨_,rfl,_,rfl,zm y,(zL r oc).map zm,r3.rdv,(((rv.keep s4).keep s5).rdv),rfl,YM _,(by show 1<=60;decide),?_⟩;have ei:(if false=true then !((zL r oc).map zm).any (λz=>WQ z (zm y)) else ((zL r oc).map zm).any λz=>WQ z (zm y))=(zL r oc).any λz=>decide (z=y):=xO _ _;rw[ei];exact ak _ _ _ _ al ⟨_,rfl⟩ (zo.refl _) (.bl _)
    .rintro a7 H5 s5 I ag;rw[ZM,show ((zU r).map λo=>S8 ((zL r o).any λz=>decide (z=y)))=((zU r).map λo=>(zL r o).any λz=>decide (z=y)).map S8 by rw[Ws];rfl]at ag;rw[zu.bools ag]at I;refine⟨z5,_,rfl,SqL.of I,_,rfl,?_⟩;by_cases hp:(!((zU r).map λo=>(zL r o).any λz=>decide (z=y)).any id)=true
     .rw[bw hp]at eo;refine j6 hp ⟨_,rfl,aa _ _ _ _ eo ⟨_,rfl⟩ s5 (yQ.rdn ?_)⟩;obtain⟨U,e,B⟩:=r2;exact⟨U,e,s5 _ _ B⟩
     .rw[bq hp]at eo;exact jk (by simpa using hp) (no _ _ eo ⟨_,rfl⟩ s5)
   .rintro a3 H4 s4 I af;rw[qf]at af;exact q z3 a3 H4 (s1.free (s2.free (s3.free ai))) I (zu.cel af) (((s1.trans s2).trans s3).trans s4)
def QU:zE ["board","bare"] ["board"] (zp Jh):=bh
def zdV {f1 f2 f3 f4 f5 f6:Addr}{af ag ah ai aj ak:XF}(T:Txt mg)(D:zk K mg "bare_wrong" Jh ["board"] f fd)(zO:zk K mg "around" jG ["board","cell"] f1 af)(zq:zk K mg "sign_at" qG ["board","cell"] f2 ag)
  (zC:zk K mg "cells_of" qF ["board"] f3 ah) (zF:zk K mg "closed_around" qJ ["board","cell"] f4 ai) (zI:zk K mg "open_cells" qH ["board"] f5 aj) (zZ:zk K mg "number_at" ju ["board","cell"] f6 ak):zY P w K mg base CX0 3 f fd ["board"] (zpK YL):=by
 refine D.F.ok QU (λvs H Q E h=>?_) (λar A ao s H vs Q E hr h=>?_)
 .obtain⟨a,l,m,n,rfl,_⟩:=h;rfl
 .revert h;refine dH λa l m n z0 b R q=>?_;subst z0;refine⟨_,(ze (psC 1 QU.nd ["cell","board"] [none,some 0] cR (zJ (pc0 (yd T zI zC zq) hr zI (za (pvS 0) zd))) (pgN 0) (qI (qp (zf8 (K:=K) (by rfl) hr.units) (pc0 (jZ T zF zO zq) hr zF (za (pvS 1) (za (pvS 0) zd))) (@zR _ _ _ _ zd) (qb _))) (pvS 0)) (zh (zB (pcm ["cell","board"] [none,some 0] cR (zJ (pvS 1)) (pgN 0) (qI (qp zi0 (pc0 (Yp T zZ zq) hr zZ (za (pvS 1) (za (pvS 0) zd))) zf (qb _))) (pvS 0))))),?_⟩;(try dsimp only[cxK,cxP,cxW]);refine⟨_,rfl,a,l,m,n,rfl,b,R,λd ws H1 hd U L s1=>⟨d,rfl,⟨_,SqL.of U⟩,λz hz=>?_⟩⟩;have b1:=b.mono s1;refine ql (K:=K) (a:=d) (xs:=ws) (λa=>a≠z) ((zU m).map λo=>if (clA m o).isEmpty=true then some (zm o) else none) (fun σ=>∃u0,σ=[u0,some (.ref a)]) hz (λ_ h=>h) ⟨_,rfl⟩ (by rw[ZB];exact L.length.symm) (by rw[L.length];exact XY (jo R) (by decide)) (SqL.of U) ?_ ?_
  .rintro k x o σ H2 hx ho M au ⟨u0,rfl⟩ Y Z O no;obtain⟨y,hy,r1⟩:=Cel.get L hx;have I:=jL hy ho;obtain⟨t,sg,ht,hj,_,es⟩:=qh (X4 hy);obtain⟨ya,rfl,B⟩:=r1;obtain⟨l1,l2⟩:=yq R ht hj;refine⟨_,rfl,_,rfl,a,l,ya,m,n,y,rfl,b1.mono M,R,M _ _ B,l1,l2,λd2 av H3 as al r s3=>⟨yU,λe he=>?_⟩⟩;have G:=zc (o:=.lst []) he;refine⟨.list ((clA m y).map zm),.list [],.lst (SqL.of (G _ _ al)) (zu.rdv (N:=λ_=>True) (Cel.rdn (Cel.mono G r))),.lst (SqL.of zb) .nil,zbr _ [],_,rfl,?_⟩;have ee:(if false=true then !PyData.eqv (.list ((clA m y).map zm)) (.list []) else WQ (.list ((clA m y).map zm)) (.list []))=(clA m y).isEmpty:=eq_nil _;rw[ee];by_cases J:(clA m y).isEmpty=true
   .rw[bw J]at I;exact j6 J ⟨_,rfl,O _ _ _ _ I ⟨_,rfl⟩ (s3.trans G) (yQ.rdn ⟨ya,rfl,G _ _ (s3 _ _ (M _ _ B))⟩)⟩
   .rw[bq J]at I;exact jk (by simpa using J) (no _ _ I ⟨_,rfl⟩ (s3.trans G))
  .rintro ys H2 M ac aa;rw[qf]at aa;have r:=zu.cel aa;have b2:=b1.mono M;refine⟨_,rfl,z,rfl,⟨_,SqL.of ac⟩,λz3 ae=>?_⟩;refine ql (K:=K) (a:=z) (xs:=ys) (λa=>a≠z3) (((zU m).filter λo=>(clA m o).isEmpty).map λo=>if (!decide (Cells.sgn (codes m) o=48))=true then some (zm o) else none) (fun σ=>∃u0,σ=[u0,some (.ref a)]) ae (λ_ h=>h) ⟨_,rfl⟩ (by rw[ZB];exact r.length.symm) (by rw[r.length];exact XY (Xw _ _) (XY (jo R) (by decide))) (SqL.of ac) ?_ ?_
   .rintro k x o σ H4 hx ho G _ ⟨u0,rfl⟩ Y Z O no;obtain⟨y,hy,r1⟩:=Cel.get r hx;have I:=jL hy ho;obtain⟨t,sg,ht,hj,am,es⟩:=qh (X8.mp (X4 hy)).1;obtain⟨ya,rfl,B⟩:=r1;obtain⟨k1,k2⟩:=zbp (zjz R ht hj) am;refine⟨_,rfl,_,rfl,a,l,ya,m,n,y.1,y.2,t,sg,rfl,b2.mono G,G _ _ B,ht,hj,R.tlen ht,k1,k2,rfl,_,rfl,?_⟩;have ed:(!decide (V.int ((sg:Int)-48)=V.int 0))=!decide (Cells.sgn (codes m) y=48):=by
     rw[es,ze6];congr 1;by_cases h:sg=48
     .rw[br h,h];rfl
     .rw[bf h];simp only[beq_eq_false_iff_ne,ne_eq];lia
    rw[ed];by_cases J:(!decide (Cells.sgn (codes m) y=48))=true
    .rw[bw J]at I;exact j6 J ⟨_,rfl,O _ _ _ _ I ⟨_,rfl⟩ (zo.refl _) (yQ.rdn ⟨ya,rfl,G _ _ B⟩)⟩
    .rw[bq J]at I;exact jk (by simpa using J) (no _ _ I ⟨_,rfl⟩ (zo.refl _))
   .rintro aq H4 G an ab;rw[qf]at ab;exact q z3 aq H4 (s1.free (M.free ae)) an (zu.cel ab) ((s1.trans M).trans G)
def zmM {K:XW}{H:Hp}{vs:AE}{m:AB}(r:Cel H vs m):yH K H vs (m.map zm):=by
 induction r with
 | nil=>exact .nil
 | cons h _ s =>
  exact .cons (yQ.rdv h) s
def toI (c:AA):Int×Int:=(((c.1:Nat):Int),((c.2:Nat):Int))
def ofI (p:Int×Int):AA:=(p.1.toNat,p.2.toNat)
def zjA (c:AA):ofI (toI c)=c:=rfl
def zoM {c d:AA}(h:toI c=toI d):c=d:=by rw[<- zjA c,h,zjA]
def zjB {c d:AA}:lt2 (toI c) (toI d)=true↔Cells.lex c d:=by
 obtain⟨a,b⟩:=c;obtain⟨x,y⟩:=d;unfold lt2 Cells.lex;show (if ((a:Nat):Int)=((x:Nat):Int) then decide (((b:Nat):Int)<((y:Nat):Int)) else decide (((a:Nat):Int)<((x:Nat):Int)))=true↔a<x\/(a=x/\b<y);by_cases e:a=x
 .rw[bw (by lia),bu];lia
 .rw[bq (by lia),bu];lia
def Cel.tup2 {H:Hp}{vs:AE}{m:AB}(r:Cel H vs m):yT H vs (m.map toI):=by
 induction r with
 | nil=>exact .nil
 | cons q _ s =>
  obtain⟨a,e,h⟩:=q;exact .cons ⟨a,e,h⟩ s
theorem qO {H:Hp}:∀{m:AB} {vs:AE},yT H vs (m.map toI)->Cel H vs m
 | [],_,.nil=>.nil
 | _::_,_,.cons ⟨a,e,h⟩ t=>.cons ⟨a,e,h⟩ (qO t)
def Yr {ps:List (Int×Int)}{m:AB}(h:ps.Perm (m.map toI)):∃ds:AB,ps=ds.map toI/\ds.Perm m:=by
 refine⟨ps.map ofI,?_,?_⟩
 .rw[Ws];refine(Sm ps).symm.trans (Xb λp r=>?_);obtain⟨c,_,rfl⟩:=XN.mp (h.mem_iff.mp r);rfl
 .have:=h.map ofI;rw[Ws]at this;have e:m.map (ofI∘toI)=m:=(Xb λc _=>zjA c).trans (Sm m);rwa [e]at this
def zqZ {m:AB}(h:Up2 (m.map toI)):m.Pairwise Cells.lex:=by
 unfold Up2 at h;rw[V9]at h;exact h.imp λz=>zjB.mp z
def qm {m:AB}(h:m.Pairwise Cells.lex):m.Nodup:=h.imp λ{a b} z e=>by
 subst e;unfold Cells.lex at z;lia
def zk8 (H:Hp)(v:V)(g:AB):Prop:=∃a m,v=V.ref a/\H a=some (.lst m)/\Cel H m g
def xP (H:Hp):AE->List AB->Prop:=XG (zk8 H)
theorem zk8.mono {H m:Hp}{v:V}{g:AB}(s:zo H m)(h:zk8 H v g):zk8 m v g:=by
 obtain⟨a,A,e,r,w⟩:=h;exact⟨a,A,e,s _ _ r,w.mono s⟩
theorem xP.mono {H m:Hp}(s:zo H m){vs:AE}{gs:List AB}(r:xP H vs gs):xP m vs gs:=by
 induction r with
 | nil=>exact .nil
 | cons h _ w =>
  exact .cons (h.mono s) w
theorem xP.get {H:Hp}:∀{vs:AE} {gs:List AB} {i:Nat} {v:V},xP H vs gs->vs[i]?=some v->∃g,gs[i]?=some g/\zk8 H v g
 | _,_,_,_,.nil,e=>by simp at e
 | _,_,0,_,.cons r _,e=>by
  simp at e;subst e;exact⟨_,rfl,r⟩
 | _,_,i+1,v,.cons _ t,e=>by
  obtain⟨c,m,s⟩:=xP.get (i:=i) (v:=v) t (by simpa using e);exact⟨c,by simpa using m,s⟩
theorem xP.length {H:Hp}{vs:AE}{gs:List AB}(h:xP H vs gs):vs.length=gs.length:=Paired.length h
theorem xP.snoc {H:Hp}{vs:AE}{gs:List AB}{v:V}{g:AB}(h:xP H vs gs)(x:zk8 H v g):xP H (vs++[v]) (gs++[g]):=Paired.snoc h x
def lD (g:AB):Wc:=.list (g.map zm)
theorem zeA {p q:Nat->Bool}(h:∀c,p c=true->q c=false)(i:Nat):∀(j:Nat) (t:List Nat),(Cells.zK p i j t).length+(Cells.zK q i j t).length<=t.length
 | _,[]=>XR _
 | j,c::r=>by
  have s:=zeA h i (j+1) r;rw[Cells.zK,Cells.zK,X6,X6,Xn];by_cases m:p c=true
  .rw[bw m,bq (by rw[h c m];exact XT)];simp only[Xn,U7];lia
  .rw[bq m];split<;>simp only[Xn,U7]<;>lia
theorem zeB {p q:Nat->Bool}(h:∀c,p c=true->q c=false):∀(i:Nat) (rs:List (List Nat)),(∀t∈rs,t.length<=8)->(Cells.zz p i rs).length+(Cells.zz q i rs).length<=8*rs.length
 | _,[],_=>XR _
 | i,t::r,m=>by
  have B:=zeB h (i+1) r λu s=>m u (Y1 _ s);have w:=zeA h i 0 t;have A:=m t X5;rw[Cells.zz,Cells.zz,X6,X6,Xn];lia
def zeC {rs:AD}(R:Rows bd.cps.toList rs):(zU rs).length+(zv rs).length<=64:=by
 have:=zeB (p:=YK) (q:=xY) (λc hc=>by
  unfold YK at hc;rw[Wj,WA]at hc;exact hc.2) 0 (codes rs) R.short
 have m:=R.hi;rw[qX]at this;unfold zU zv;lia
theorem zaO {p:Nat->Bool}{i:Nat}:∀{j m:Nat} {t:List Nat} {c:Nat},t[m]?=some c->p c=true->(i,j+m)∈Cells.zK p i j t
 | j,m,[],c,h,_=>by simp at h
 | j,0,d::r,c,h,s=>by
  have e:d=c:=by simpa using h
  subst e;rw[Cells.zK,bw s];exact W4 _ X5
 | j,m+1,d::r,c,h,s=>by
  rw[Cells.zK];refine WZ _ ?_;have:=zaO (i:=i) (j:=j+1) (m:=m) (t:=r) (c:=c) (by simpa using h) s;rwa [show j+1+m=j+(m+1) by lia]at this
theorem zaP {p:Nat->Bool}:∀{i m:Nat} {rs:List (List Nat)} {t:List Nat} {j c:Nat},rs[m]?=some t->t[j]?=some c->p c=true->(i+m,j)∈Cells.zz p i rs
 | i,m,[],t,j,c,h,_,_=>by simp at h
 | i,0,d::r,t,j,c,h,s,w=>by
  have e:d=t:=by simpa using h
  subst e;rw[Cells.zz];refine W4 _ ?_;have:=zaO (i:=i) (j:=0) s w;rwa [show 0+j=j by lia]at this
 | i,m+1,d::r,t,j,c,h,s,w=>by
  rw[Cells.zz];refine WZ _ ?_;have:=zaP (i:=i+1) (m:=m) (rs:=r) (t:=t) (j:=j) (c:=c) (by simpa using h) s w;rwa [show i+1+m=i+(m+1) by lia]at this
def zbs (rs:AD)(c:AA):(clA rs c).Nodup:=((qm (Cells.Js _ 0 (codes rs))).sublist Xm).sublist Xm
def xQ {rs:AD}{c x:AA}(h:x∈clA rs c):x∈zv rs:=by
 unfold clA at h;obtain⟨r,s⟩:=X8.mp h;obtain⟨t,k,A,w,_,B⟩:=qh (X8.mp r).1;have m:k=63:=by
  have:=bg s;lia
 subst m;have:=zaP (p:=xY) (i:=0) (jY A) w (by decide);rwa [VI]at this
def heads (gs:List AB):List (Int×Int):=gs.map λg=>toI (g.headD (0,0))
def head_mem {g:AB}(h:g ≠ []):g.headD (0,0)∈g:=by
 cases g with
 | nil=>exact absurd rfl h
 | cons a r=>exact X5
theorem zbP:∀{gs:List AB},(∀g∈gs,g ≠ [])->gs.flatten.Nodup->(heads gs).Nodup
 | [],_,_=>Vf
 | g::r,h,A=>by
  rw[VZ,WX]at A;obtain⟨_,D,E⟩:=A;unfold heads;rw[Xu,WS];refine⟨λhm=>?_,zbP (λx hx=>h x (Y1 _ hx)) D⟩;obtain⟨s,m,e⟩:=XN.mp hm;have B:=zoM e;have G:=head_mem (h g X5);have w:=head_mem (h s (Y1 _ m));rw[B]at w;exact E _ G _ (Wh.mpr ⟨s,m,w⟩) rfl
def JK (rs:AD)(part:AB):AB:=(zU rs).filter λo=>((zL rs o).map λz=>part.any λx=>decide (x=z)).any id
def zq0:Sp:=λvs H Q _=>∃(a l s:Addr) (r:AD) (n:Int) (ps:AE) (part:AB),vs=[.ref a,.ref s]/\qe H a l r n/\Rows bd.cps.toList r/\H s=some (.lst ps)/\Cel H ps part /\
 ∀(d:Addr) (w:AE) (m:Hp),H d=none->m d=some (.lst w)->Cel m w (JK r part)->zo H m->Q (.ref d) m
def zdW:zE ["board","part"] ["board","part"] (zp jX):=bh
def zdX {f1 f2 f3 f5:Addr}{af ag ah ai:XF}(T:Txt mg)(D:zk K mg "numbers_of" jX ["board","part"] f fd)(zO:zk K mg "around" jG ["board","cell"] f1 af)(zq:zk K mg "sign_at" qG ["board","cell"] f2 ag)
  (zC:zk K mg "cells_of" qF ["board"] f3 ah) (zI:zk K mg "open_cells" qH ["board"] f5 ai):zY P w K mg base CX0 3 f fd ["board","part"] zq0:=by
 refine D.F.ok zdW (λvs H Q E h=>?_) (λas A ao s H vs Q E hr h=>?_)
 .revert h;refine dN λa l pa r n ps part=>c8 λz0 _=>?_;subst z0;rfl
 .revert h;refine dN λa l pa r n ps part=>dh λz0 b R ak al q=>?_;subst z0;refine⟨_,(zh (zB (pcm ["cell","part","board"] [none,some 1,some 0] cR (zJ (pc0 (yd T zI zC zq) hr zI (za (pvS 0) zd))) (pgN 0) (qI (Qv (K:=K) (by rfl) (pb1 (zed (K:=K) (by rfl) (by rfl)) T.zjx T8 (pcm ["place","part"] [none,some 1] cR (zgg (K:=K) (by rfl) (pc0 (QD T zO) hr zO (za (pvS 2) (za (pvS 0) zd)))) (pgN 0) qo (yE (jN (K:=K) (by rfl) hr.units) (pvS 0) (pvS 1) (by rfl)))) (λ_=>rfl))) (pvS 0)))),?_⟩;(try dsimp only[cxK,cxP,cxW]);refine⟨_,rfl,a,l,r,n,rfl,b,R,λd ws H1 hd L B s1=>⟨d,rfl,⟨_,SqL.of L⟩,λz hz=>?_⟩⟩;have b1:=b.mono s1;refine ql (K:=K) (a:=d) (xs:=ws) (λa=>a≠z) ((zU r).map λo=>if (((zL r o).map λz=>part.any λx=>decide (x=z)).any id)=true then some (zm o) else none) (fun σ=>∃u0,σ=[u0,some (.ref pa),some (.ref a)]) hz (λ_ h=>h) ⟨_,rfl⟩ (by rw[ZB];exact B.length.symm) (by rw[B.length];exact XY (jo R) (by decide)) (SqL.of L) ?_ ?_
  .rintro k x o σ H2 hx ho I av ⟨u0,rfl⟩ Y Z ar no;obtain⟨y,hy,r1⟩:=Cel.get B hx;have eo:=jL hy ho;obtain⟨t,sg,ht,hj,_,es⟩:=qh (X4 hy);obtain⟨ya,rfl,aa⟩:=r1;obtain⟨l1,l2⟩:=yq R ht hj;refine⟨_,rfl,_,rfl,a,l,ya,r,n,y.1,y.2,rfl,b1.mono I,R,I _ _ aa,l1,l2,λd2 aq H3 au M G s3=>⟨d2,rfl,⟨_,SqL.of M⟩,λz5 an=>?_⟩⟩;refine ql (K:=K) (a:=d2) (xs:=aq) (λa=>a≠z5) ((zL r y).map λc=>some (.bool (part.any λx=>decide (x=c)))) (fun σ=>∃u0,σ=[u0,some (.ref pa)]) an (λ_ h=>h) ⟨_,rfl⟩ (by rw[ZB];exact G.length.symm) (by rw[G.length];exact XY (Zp R y) (by decide)) (SqL.of M) ?_ ?_
   .rintro m v o2 σ H5 hv aj J _ ⟨u1,rfl⟩ Y2 Z2 ac aw;obtain⟨c,hc,rc⟩:=Cel.get (Cel.mono J G) hv;have ae:=jL hc aj;have sA:=((s1.trans I).trans s3).trans J;refine xB ⟨_,rfl,_,rfl,zm c,part.map zm,rc.rdv,.lst (SqL.of (sA _ _ ak)) (zu.rdv (N:=λ_=>True) (Cel.rdn (Cel.mono sA al))),rfl,YM _,(by show 1<=60;decide),?_⟩;have ei:(if false=true then !(part.map zm).any (λz=>WQ z (zm c)) else (part.map zm).any λz=>WQ z (zm c))=part.any λz=>decide (z=c):=xO _ _;rw[ei];exact ac _ _ _ _ ae ⟨_,rfl⟩ (zo.refl _) (.bl _)
   .rintro ax H5 J ab U;rw[ZM,show ((zL r y).map λc=>S8 (part.any λx=>decide (x=c)))=((zL r y).map λc=>part.any λx=>decide (x=c)).map S8 by rw[Ws];rfl]at U;rw[zu.bools U]at ab;refine⟨z5,_,rfl,SqL.of ab,_,rfl,?_⟩;by_cases hp:(((zL r y).map λz=>part.any λx=>decide (x=z)).any id)=true
    .rw[bw hp]at eo;exact j6 hp ⟨_,rfl,ar _ _ _ _ eo ⟨_,rfl⟩ (s3.trans J) (yQ.rdn ⟨ya,rfl,J _ _ (s3 _ _ (I _ _ aa))⟩)⟩
    .rw[bq hp]at eo;exact jk (by simpa using hp) (no _ _ eo ⟨_,rfl⟩ (s3.trans J))
  .rintro ys H2 I am O;rw[qf]at O;exact q z ys H2 (s1.free hz) am (zu.cel O) (s1.trans I)
def zoN {a b:AB}(p:a.Perm b)(ha:a.Pairwise Cells.lex)(s:b.Pairwise Cells.lex):a=b:=p.eq_of_pairwise (λx y _ _ m r=>by
 unfold Cells.lex at m r;lia) ha s
def zil {cl:AA->AB}{done:AB}{gs:List AB}{o:AA}(G:Parts.Good cl done gs)(h:cl o ≠ [])(hn:(cl o).Nodup){w:AB}(r:w.Pairwise Cells.lex)(B:∀x,x∈w↔x∈cl o\/∃g∈gs,Parts.meets (cl o) g=true/\x∈g):Parts.Good cl (done++[o]) ((gs.filter λg=>!Parts.meets (cl o) g)++[w]):=by
 refine G.step h hn ?_ ?_ r
 .refine VY λg A=>?_;congr 1;rw[WN,WL];constructor
  .exact λz=>⟨g,X8.mpr ⟨A,z⟩,br rfl⟩
  .rintro⟨m,hm,e⟩;have s:m=g:=bg e;subst s;exact(X8.mp hm).2
 .refine(WW (qm r) (Parts.Y5 hn λm hm=>G.nd.sublist (UZ (X8.mp hm).1))).mpr λx=>?_;rw[B,Parts.zbj];constructor
  .rintro(z | ⟨g,h1,h2,h3⟩)
   .exact .inl z
   .exact .inr ⟨g,X8.mpr ⟨h1,h2⟩,h3⟩
  .rintro(z | ⟨g,h1,h3⟩)
   .exact .inl z
   .exact .inr ⟨g,(X8.mp h1).1,(X8.mp h1).2,h3⟩
def zk9 (r g:AB):(r.map λc=>g.any λz=>decide (z=c)).any id=Parts.meets r g:=by
 rw[WN,Parts.ZG,TR,WL];constructor
 .rintro⟨c,h1,h2⟩;have m:(g.any λz=>decide (z=c))=true:=h2;obtain⟨z,s,w⟩:=WL.mp m;have e:z=c:=bg w;subst e;exact⟨z,s,h1⟩
 .rintro⟨x,h1,h2⟩;refine⟨x,h2,?_⟩;show (g.any λz=>decide (z=x))=true;exact WL.mpr ⟨x,h1,br rfl⟩
def Zf (p:AB->Bool):AE->List AB->AE
 | v::vs,g::gs=>if p g=true then v::Zf p vs gs else Zf p vs gs
 | _,_=>[]
theorem ZN (p:AB->Bool):∀(vs:AE) (gs:List AB),(Zf p vs gs).Sublist vs
 | [],_=>UT _
 | _::_,[]=>UT _
 | v::vs,g::gs=>by
  rw[Zf];split
  .exact(ZN p vs gs).cons_cons v
  .exact(ZN p vs gs).cons v
theorem zaa {H:Hp}(p:AB->Bool):∀{vs:AE} {gs:List AB},xP H vs gs->xP H (Zf p vs gs) (gs.filter p)
 | _,_,.nil=>.nil
 | _,_,.cons (a:=v) (b:=g) h t=>by
  rw[Zf,WB];by_cases m:p g=true
  .rw[bw m,bw m];exact .cons h (zaa p t)
  .rw[bq m,bq m];exact zaa p t
def zim (p:AB->Bool){vs:AE}{gs:List AB}{i:Nat}{v:V}{g:AB}(m:vs[i]?=some v)(r:gs[i]?=some g):Zf p (vs.take (i+1)) (gs.take (i+1))=Zf p (vs.take i) (gs.take i)++if p g=true then [v] else []:=by
 induction vs generalizing gs i with
 | nil=>cases m
 | cons w vs s =>
  cases gs with
  | nil=>cases r
  | cons k gs =>
   cases i with
   | zero =>
    cases m;cases r;simp[Zf]
   | succ i =>
    rw[Ux,Ux,Ux,Ux,Zf,Zf,s m r];split<;>rfl
def zfu {m:List (Int×Int)}{l:AB}(h:∀c∈m,c∈l.map toI):m=(m.map ofI).map toI:=by
 rw[Ws];refine(Sm m).symm.trans (Xb λc hc=>?_);obtain⟨x,_,rfl⟩:=XN.mp (h c hc);rfl
def zmN:Sp:=λvs H Q _=>∃(A I:Addr) (G J:AE) (s:List AB) (m B:AB),vs=[.ref A,.ref I]/\H A=some (.lst G)/\xP H G s/\H I=some (.lst J)/\Cel H J m/\m.Nodup/\s.flatten.Nodup/\(∀x∈m,x∈B)/\(∀x∈s.flatten,x∈B)/\(∀x∈B,x.1<8/\x.2<8)/\B.length<=63/\s.length<=63 /\
 (m=[]->∀r,zo H r->Q (.ref A) r) /\
 (m ≠ []->∀(d E:Addr) (D:AE) (w:AB) (r:Hp),H d=none->H E=none->r d=some (.lst (D++[.ref E]))->D.Sublist G->xP r (D++[.ref E]) ((s.filter λg=>!Parts.meets m g)++[w])->w.Pairwise Cells.lex->(∀x,x∈w↔x∈m\/∃g∈s,Parts.meets m g=true/\x∈g)->zo H r->Q (.ref d) r)
def QE:zE ["groups","cells","apart","together","group"] ["groups","cells"] (zp Y8):=bh
def zla (T:Txt mg)(D:zk K mg "joined" Y8 ["groups","cells"] f fd):zY P w K mg base CX0 1 f fd ["groups","cells"] zmN:=by
 refine D.F.ok QE (λvs H Q E h=>?_) (λaM A aI s H vs Q E hr h=>?_)
 .revert h;refine dN λga ca ws us G r B=>c8 λz0 _=>?_;subst z0;rfl
 .revert h;refine dg λga ca ws us=>dB λG r B z0 ax hG aa=>dD λhC aA aB cB=>dh λgB B8 am ao q1 q2=>?_;subst z0;have an:r.length<=63:=XY (Parts.jW aA cB) am;have af:G.flatten.length<=63:=XY (Parts.jW aB gB) am;refine⟨_,(ze (qW (qp (Jy hr.units) (pvS 1) (@zR _ _ _ _ zd) (qb _)) (zh (zB (pvS 0))) qd) (@ze _ _ _ _ _ (@qx _ _ 2 _ _ _ _ QE.nd rfl (VU rfl) (@zR _ _ _ _ zd) (by rfl) (.inr rfl)) (ze (qR 3 QE.nd (pt1 Z0 T.zbn Vx (pvS 1))) (ze (qz Xd rfl (zJ (pvS 0)) (pgq 4 QE.nd) (zh (qW (yF (pb1 (zcE rfl) T.zjx T8 (pcm ["cell","group"] [none,some 4] cR (zJ (pvS 1)) (pgN 0) qo (yE (jN (K:=K) (by rfl) hr.units) (pvS 0) (pvS 1) (by rfl)))) (λ_=>rfl)) (zh (qV (yV W7 Vh Vg Qu (pvS 3) (za (pvS 4) zd)))) (zh (qV (yV W7 WJ WI jP (pvS 2) (za (pvS 4) zd))))))) (zh (zB (zx yX (pvS 2) (zR (za (pb1 (ST.zdS hr.hd) T.yP Wm (pt1 (ST.zkN hr.units hr.hd) T.zsc PyProof.Rows.boot_set (pvS 3))) zd))))))))),?_⟩;(try dsimp only[cxK,cxP,cxW]);refine⟨_,rfl,yU,λe he=>?_⟩;have s1:zo H (upd H e (.lst [])):=zc he;refine cE (lD r) (.list []) (cL (.lst (SqL.of (s1 _ _ aa)) (zmM (hC.mono s1))) (.lst (SqL.of zb) .nil) (zbr _ []) ⟨_,rfl,?_⟩);have en:(if false=true then !PyData.eqv (lD r) (.list []) else WQ (lD r) (.list []))=r.isEmpty:=by
   show WQ _ _=_;exact eq_nil r
  rw[en];by_cases ae:r=[]
  .rw[show r.isEmpty=true by rw[ae];rfl];exact Q5 ⟨_,rfl,q1 ae _ s1⟩
  rw[show r.isEmpty=false by rw[Vq];exact ae];refine Q4 ?_;generalize upd H e (.lst [])=H1 at *
  refine⟨yU,λap au=>?_⟩;have s2:=s1.trans (zc (o:=.lst []) au);have as:upd H1 ap (.lst []) ap=some (.lst []):=zb;have av:=s1.free au;generalize upd H1 ap (.lst [])=H2 at *
  refine⟨_,rfl,ca,_,rfl,.inl (SqL.of (s2 _ _ aa)),λtg al=>?_⟩;have z3:=zc (o:=.lst us) al;have s3:=s2.trans z3;have aD:=z3 _ _ as;have aG:upd H2 tg (.lst us) tg=some (.lst us):=zb;have a4:=s2.free al;have a7:ap≠tg:=zj as al;generalize upd H2 tg (.lst us)=H3 at *
  refine⟨_,rfl,ga,rfl,⟨_,SqL.of (s3 _ _ ax)⟩,?_⟩;refine j7 (K:=K) (a:=ga) (xs:=ws) (λi σ H'=>∃(ut:AE) (v4:Option V),σ=[some (.ref ga),some (.ref ca),some (.ref ap),some (.ref tg),v4]/\zo H H'/\H' ap=some (.lst (Zf (λg=>!Parts.meets r g) (ws.take i) (G.take i)))/\H' tg=some (.lst ut)/\Cel H ut (r++((G.take i).filter (Parts.meets r)).flatten))
   ⟨us,_,rfl,s3,aD,aG,by simpa using hC⟩ (λi σ H' _ ⟨_,_,_,z,_⟩=>SqL.of (z _ _ ax)) ?_ ?_
  .refine λi x σ H4 hx=>dw λut v4 z0 s4 U aj I=>?_;subst z0;refine dm (λg hg=>dF λaq ug=>c9 λz0 ag ai=>?_) (xP.get hG hx);subst z0;have gm:=X4 hg;have tk:(G.take (i+1)).filter (Parts.meets r)=(G.take i).filter (Parts.meets r)++if Parts.meets r g=true then [g] else []:=by
    rw[Xe,hg,W6];congr 1;show [g].filter _=_;rw[WB];rfl
   have pk:=zim (λg=>!Parts.meets r g) hx hg;refine⟨_,rfl,ca,rfl,⟨_,SqL.of (s4 _ _ aa)⟩,λz hz=>?_⟩;refine ql (K:=K) (a:=ca) (xs:=us) (λa=>a≠z) (r.map λc=>some (.bool (g.any λz=>decide (z=c)))) (fun σ=>∃u0,σ=[u0,some (.ref aq)]) hz (λ_ h=>h) ⟨_,rfl⟩ (by rw[ZB];exact hC.length.symm) (by rw[hC.length];exact XY an (by decide)) (SqL.of (s4 _ _ aa)) ?_ ?_
   .rintro m v o σ H5 hv ho s5 _ ⟨u1,rfl⟩ Y Z aJ no;have J:=s4.trans s5;obtain⟨c,hc,rc⟩:=Cel.get (hC.mono J) hv;have eo:=jL hc ho;refine xB ⟨_,rfl,_,rfl,zm c,g.map zm,rc.rdv,.lst (SqL.of (J _ _ ag)) (zmM (ai.mono J)),rfl,YM _,(by show 1<=60;decide),?_⟩;have ei:(if false=true then !(g.map zm).any (λz=>WQ z (zm c)) else (g.map zm).any λz=>WQ z (zm c))=g.any λz=>decide (z=c):=xO _ _;rw[ei];exact aJ _ _ _ _ eo ⟨_,rfl⟩ (zo.refl _) (.bl _)
   .rintro ys H5 s5 a6 a3;rw[ZM,show (r.map λc=>S8 (g.any λz=>decide (z=c)))=(r.map λc=>g.any λz=>decide (z=c)).map S8 by rw[Ws];rfl]at a3;rw[zu.bools a3]at a6;refine cT z rfl (SqL.of a6) (cD rfl ?_);rw[zk9];have J:=s4.trans s5;have L:=s5 _ _ U;have ak:=s5 _ _ aj;have ar:∀(q:AB->Bool) (j:Nat),(((G.take j).filter q).flatten).length<=63:=λq j=>by
     refine XY (U1 ?_) af;refine List.Sublist.trans (Parts.qS q (G.take j)) ?_;have e2:G=G.take j++G.drop j:=(WU j G).symm;conv=>rhs;rw[e2,V0]
     exact UA _ _
    by_cases hp:Parts.meets r g=true
    .refine j6 hp ?_;refine⟨_,rfl,.inl ⟨rfl,_,SqL.of ak⟩,_,rfl,tg,aq,ut,ug,rfl,rfl,ak,J _ _ ag,?_,?_⟩
     .rw[I.length,ai.length,X6];have a1:=ar (Parts.meets r) i;have a2:g.length<=63:=XY (U1 (UZ gm)) af;exact XY (show _<=200 by lia) (by decide)
     .refine⟨ut++ug,_,rfl,λb o eb=>?_,?_,zb,?_⟩
      .rw[zg (zj eb a4)];exact J _ _ eb
      .rw[zg a7,pk,hp];simpa using L
      .rw[tk,bw hp,V0,<- W9];simpa using Cel.append I ai
    .have az:=Xk.mpr hp;refine jk az ?_;refine⟨_,rfl,.inl ⟨rfl,_,SqL.of L⟩,_,rfl,ap,_,_,rfl,rfl,L,?_,?_⟩
     .refine XJ (U1 ((ZN _ _ _).trans (SX _ _))) ?_;rw[hG.length];exact XJ ao (by decide)
     .refine⟨ut,_,rfl,λb o eb=>?_,?_,?_,?_⟩
      .rw[zg (zj eb av)];exact J _ _ eb
      .rw[zb,pk,az];rfl
      .rw[zg (Vc a7)];exact ak
      .rw[tk,bq hp,Xx];exact I
  .refine λσ H4=>dw λut v4 z0 s4 U aj I=>?_;subst z0;rw[XE,hG.length,XE]at U;rw[hG.length,XE]at I;generalize hl:r++(G.filter (Parts.meets r)).flatten=l at I;have lB:∀x∈l,x∈B:=λx hx=>by
    rw[<- hl]at hx;rcases XU.mp hx with hx | hx
    .exact cB x hx
    .exact gB x ((Parts.qS _ G).subset hx)
   refine⟨_,rfl,_,rfl,tg,ut,_,rfl,SqL.of aj,Cel.tup2 (I.mono s4),(λp hp=>?_),(λm hm hs=>?_),λds O aE hT M ah=>?_⟩
   .obtain⟨x,hx,rfl⟩:=XN.mp hp;have:=B8 x (lB x hx);unfold ST.InB toI;show (0<=((x.1:Nat):Int)/\((x.1:Nat):Int)<8)/\(0<=((x.2:Nat):Int)/\((x.2:Nat):Int)<8);lia
   .have h1:=zfu hs;have h2:(m.map ofI).Nodup:=by
     rw[h1]at hm;unfold Ox at hm ⊢;rw[V9]at hm;exact hm.imp λz e=>z (by rw[e])
    have h3:=Parts.jW (b:=B) h2 λx hx=>by
     obtain⟨c,hc,rfl⟩:=XN.mp hx;obtain⟨y,hy,rfl⟩:=XN.mp (hs c hc);exact lB y hy
    rw[ZB]at h3;lia
   have z5:=zc (o:=ST.zgA P w ds O) aE;have ab:∀c∈O.map (·.2),c∈l.map toI:=λc hc=>(ah c).mp hc;have kl:O.length<=63:=by
    have h1:=zfu ab;have h2:((O.map (·.2)).map ofI).Nodup:=by
     rw[h1]at M;unfold Ox at M ⊢;rw[V9]at M;exact M.imp λz e=>z (by rw[e])
    have h3:=Parts.jW (b:=B) h2 λx hx=>by
     obtain⟨c,hc,rfl⟩:=XN.mp hx;obtain⟨y,hy,rfl⟩:=XN.mp (ab c hc);exact lB y hy
    rw[ZB,ZB]at h3;lia
   have aw:upd H4 ds (ST.zgA P w ds O) ds=some (ST.zgA P w ds O):=zb;have s5:=s4.trans z5;have L:=z5 _ _ U;have aC:∀q∈O,upd H4 ds (ST.zgA P w ds O) q.1=some (.tup [.int q.2.1,.int q.2.2]):=λq hq=>z5 _ _ (hT q hq);refine cE ds O (cM rfl aw aC M (by lia) (λwa a8 aN a5 ht a9 aH=>?_));rw[zfu ab]at a9;obtain⟨wc,rfl,aK⟩:=Yr a9;have z6:=zc (o:=.lst a8) a5;refine⟨sz_1,λp1 aF=>?_⟩;have z7:=zc (o:=.lst [V.ref wa]) aF;have ac:=z6.trans z7;refine cE ap p1 ⟨_,(cK [.ref wa] rfl rfl (ac _ _ L) zb ⟨?_,λk2 ay=>?_⟩)⟩
   .have a1:(Zf (λg=>!Parts.meets r g) ws G).length<=63:=XY (U1 (ZN _ _ _)) (by rw[hG.length];exact ao);exact XY (show _+1<=200 by lia) (by decide)
   .have z8:=zc (o:=.lst (Zf (λg=>!Parts.meets r g) ws G++[.ref wa])) ay;have s8:=s5.trans (ac.trans z8);refine q2 ae k2 wa _ wc _ ((s5.trans ac).free ay) (s5.free a5) zb (ZN _ _ _) ?_ (zqZ aH) (λx=>?_) s8
    .exact xP.snoc ((zaa _ hG).mono s8) ⟨wa,a8,rfl,z8 _ _ (z7 _ _ zb),Cel.mono (ac.trans z8) (qO ht)⟩
    .rw[aK.mem_iff,XN];have hx:(∃a,a∈O.map (·.2)/\ofI a=x)↔x∈l:=by
      constructor
      .rintro⟨c,hc,rfl⟩;obtain⟨y,hy,rfl⟩:=XN.mp (ab c hc);exact hy
      .intro h;exact⟨toI x,(ah _).mpr (XN.mpr ⟨x,h,rfl⟩),rfl⟩
     rw[hx,<- hl,XU,Wh];constructor
     .rintro(h | ⟨g,h1,h2⟩)
      .exact .inl h
      .exact .inr ⟨g,(X8.mp h1).1,(X8.mp h1).2,h2⟩
     .rintro(h | ⟨g,h1,h2,h3⟩)
      .exact .inl h
      .exact .inr ⟨g,X8.mpr ⟨h1,h2⟩,h3⟩
def zoO:Sp:=λvs H Q _=>∃(p l:Addr) (r:AD) (n:Int),vs=[.ref p]/\qe H p l r n/\Rows bd.cps.toList r /\
 ∀(d:Addr) (s:AE) (w:List AB) (m:Hp),H d=none->m d=some (.lst s)->xP m s w->s.Nodup->(∀v∈s,∃a,v=V.ref a/\H a=none/\a≠d)->Parts.Good (clA r) (zU r) w->Up2 (heads w)->zo H m->Q (.ref d) m
def zio {rs:AD}(R:Rows bd.cps.toList rs){x:AA}(h:x∈zv rs):x.1<8/\x.2<8:=by
 obtain⟨t,k,m,r,_,_⟩:=qh h;have a:=(XV.mp m).1;have b:=(XV.mp r).1;have e:=R.hi;have g:=R.short _ (X4 (jY m));lia
theorem xP.some {H:Hp}{r:AE}{gs:List AB}(h:xP H r gs):∀v∈r,∃a m,v=V.ref a/\H a=some (.lst m):=by
 intro v hv;obtain⟨_,_,a,m,e,s,_⟩:=zlR h hv;exact⟨a,m,e,s⟩
def zmO {H:Hp}{m:AE}{gs:List AB}(h:xP H m gs):XG (GS.LstAt H) m (gs.map (Ug toI)):=by
 induction h with
 | nil=>exact .nil
 | cons r _ A =>
  obtain⟨a,B,e,s,w⟩:=r;exact .cons ⟨a,B,e,s,w.tup2⟩ A
def zmP {H:Hp}:∀{gs:List AB} {m:AE},XG (GS.LstAt H) m (gs.map (Ug toI))->xP H m gs:=by
 intro gs;induction gs with
 | nil =>
  intro m h;cases h;exact .nil
 | cons g r A =>
  intro m h;cases h with
  | cons q t =>
   obtain⟨a,B,e,s,w⟩:=q;exact .cons ⟨a,B,e,s,qO w⟩ (A t)
def zgR {ks:List (List (Int×Int))}{gs:List AB}(h:ks.Perm (gs.map (Ug toI))):∃ds:List AB,ks=ds.map (Ug toI)/\ds.Perm gs:=by
 have m:∀g:AB,(g.map toI).map ofI=g:=λg=>by
  rw[Ws];exact(Xb λc _=>zjA c).trans (Sm g)
 refine⟨ks.map (Ug ofI),?_,?_⟩
 .rw[Ws];refine(Sm ks).symm.trans (Xb λp r=>?_);obtain⟨c,_,rfl⟩:=XN.mp (h.mem_iff.mp r);show c.map toI=((c.map toI).map ofI).map toI;rw[m]
 .have:=h.map (Ug ofI);rw[Ws]at this;have e:gs.map (Ug ofI∘Ug toI)=gs:=(Xb λc _=>m c).trans (Sm gs);rwa [e]at this
def zmQ {gs:List AB}(h:(gs.map (Ug toI)).Pairwise (λp q=>PySem.SeqAt.ltL q p=false))(D:∀g∈gs,g ≠ [])(M:(heads gs).Nodup):Up2 (heads gs):=by
 induction gs with
 | nil=>exact List.Pairwise.nil
 | cons g r I =>
  rw[Xu,RP]at h;have w:toI (g.headD (0,0)) ∉ heads r/\(heads r).Nodup:=WS.mp M;refine RP.mpr ⟨λp G=>?_,I h.2 (λx hx=>D x (Y1 _ hx)) w.2⟩;obtain⟨A,s,rfl⟩:=XN.mp G;have a:=h.1 _ (XN.mpr ⟨A,s,rfl⟩);have B:toI (g.headD (0,0))≠toI (A.headD (0,0)):=λe=>w.1 (e ▸ G);have J:=D g X5;have L:=D A (Y1 _ s);cases g with
  | nil=>exact absurd rfl J
  | cons x xs =>
   cases A with
   | nil=>exact absurd rfl L
   | cons y ys =>
    have m:toI x≠toI y:=B;show lt2 (toI x) (toI y)=true;have E:(if toI y=toI x then PySem.SeqAt.ltL (ys.map toI) (xs.map toI) else lt2 (toI y) (toI x))=false:=a;rw[bq (Vc m)]at E;have:=zch m;rw[E]at this;cases hh:lt2 (toI x) (toI y) with
    | true=>rfl
    | false =>
     rw[hh]at this;cases this
def zaQ:zE ["board","found","cell"] ["board"] (zp zcn):=bh
def zmR {f1 f2 f3 f4 f5 f6:Addr}{ak al am an ao aq:XF}(T:Txt mg)(D:zk K mg "parts" zcn ["board"] f fd)(zO:zk K mg "around" jG ["board","cell"] f1 ak)(zq:zk K mg "sign_at" qG ["board","cell"] f2 al)
  (zC:zk K mg "cells_of" qF ["board"] f3 am) (zI:zk K mg "open_cells" qH ["board"] f4 an) (zF:zk K mg "closed_around" qJ ["board","cell"] f5 ao) (ai:zk K mg "joined" Y8 ["groups","cells"] f6 aq):zY P w K mg base CX0 3 f fd ["board"] zoO:=by
 refine D.F.ok zaQ (λvs H Q E h=>?_) (λa7 A az s H vs Q E hr h=>?_)
 .obtain⟨p,l,m,n,rfl,_⟩:=h;rfl
 .revert h;refine dH λp l m n z0 b R q=>?_;subst z0;refine⟨_,(@ze _ _ _ _ _ (@qx _ _ 1 _ _ _ _ zaQ.nd rfl (VU rfl) (@zR _ _ _ _ zd) (by rfl) (.inr rfl)) (ze (qz Xd rfl (zJ (pc0 (yd T zI zC zq) hr zI (za (pvS 0) zd))) (pgq 2 zaQ.nd) (zh (qR 1 zaQ.nd (pc0 (zla T ai) hr ai (za (pvS 1) (za (pc0 (jZ T zF zO zq) hr zF (za (pvS 0) (za (pvS 2) zd))) zd)))))) (zh (zB (pb1 (GS.QT hr.units) T.yP Wm (pvS 1)))))),?_⟩;(try dsimp only[cxK,cxP,cxW]);refine⟨yU,λk0 ax=>?_⟩;have s0:zo H (upd H k0 (.lst [])):=zc ax;have ae:upd H k0 (.lst []) k0=some (.lst []):=zb;generalize upd H k0 (.lst [])=H0 at *
  refine⟨_,rfl,p,l,m,n,rfl,b.mono s0,R,λdc wc H1 a9 aj O s1=>⟨dc,rfl,⟨_,SqL.of aj⟩,?_⟩⟩;have U:=s0.trans s1;have b1:=b.mono U;have O:Cel H1 wc (zU m):=O;have aB:=zeC R;refine j7 (K:=K) (a:=dc) (xs:=wc) (λi σ H'=>∃(k:Addr) (ws:AE) (M:List AB) (v2:Option V),σ=[some (.ref p),some (.ref k),v2]/\zo H1 H'/\H' k=some (.lst ws)/\xP H' ws M/\ws.Nodup/\(∀v∈ws,∃a,v=V.ref a/\H a=none)/\Parts.Good (clA m) ((zU m).take i) M)
   ⟨k0,[],[],_,rfl,zo.refl _,s1 _ _ ae,.nil,Vf,(λv h=>nomatch h),Parts.Good.start _⟩ (λi σ H' _ ⟨_,_,_,_,_,z,_⟩=>SqL.of (z _ _ aj)) ?_ ?_
  .refine λi x σ H2 hx=>dM λk ws M v2 z0 s2 hk hG=>c9 λaa B G=>?_;subst z0;refine dm (λc hc=>dm λca z0 av=>?_) (Cel.get (Cel.mono s2 O) hx);subst z0;have cm:=X4 hc;refine dj (λt sg ht hj _ es=>?_) (qh cm);obtain⟨l1,l2⟩:=yq R ht hj;have tk:(zU m).take (i+1)=(zU m).take i++[c]:=by
    rw[Xe,hc];rfl
   have J:(zv m).length<=63:=by
    have:=SL cm;lia
   have gB:∀x∈M.flatten,x∈zv m:=λx hx=>by
    obtain⟨o,_,h2⟩:=G.from_ x hx;exact xQ h2
   refine⟨_,rfl,_,rfl,_,rfl,p,l,ca,m,n,c,rfl,(b1.mono s2),R,av,l1,l2,λd a2 H3 hd aw au L=>?_⟩;have a1:=U.trans (s2.trans L);refine cF k d ws a2 (cE M (clA m c) (c6 (zv m) rfl (L _ _ hk) (hG.mono L) aw au (zbs m c) G.nd (λx hx=>xQ hx) (cM gB (λx hx=>zio R hx) J (XY (Parts.zaJ G.ne) (XY (Parts.jW G.nd gB) J)) (λa4 H' s'=>?_) (λay d2 wa va aC H' a8 ah ac I as a5 af s'=>?_))))
   .refine⟨k,ws,M,_,rfl,s2.trans (L.trans s'),s' _ _ (L _ _ hk),(hG.mono L).mono s',aa,B,?_⟩;rw[tk];exact G.skip a4
   .refine⟨d2,_,(cI rfl (s2.trans (L.trans s')) (cU ac as ?_ (λv hv=>?_) ?_))⟩
    .rw[WX];refine⟨aa.sublist I,by simp,λa ha b hb e=>?_⟩;have ab:b=V.ref wa:=by simpa using hb
     subst e;obtain⟨a',Y,e1,e2⟩:=xP.some (hG.mono L) a (I.subset ha);rw[ab]at e1;injection e1 with e1
     rw[<- e1,ah]at e2;cases e2
    .rcases XU.mp hv with hv | hv
     .exact B v (I.subset hv)
     .have ab:v=V.ref wa:=by simpa using hv
      exact⟨wa,ab,a1.free ah⟩
    .rw[tk];exact zil G ay (zbs m c) a5 af
  .refine λσ H2=>dM λk ws M v2 z0 s2 hk hG=>c9 λaa B G=>?_;subst z0;rw[O.length,XE]at G;have ar:∀x∈M.flatten,x∈zv m:=λx hx=>by
    obtain⟨o,_,h2⟩:=G.from_ x hx;exact xQ h2
   have wl:M.length<=63:=by
    cases M with
    | nil=>exact W3 _
    | cons g r =>
     have m1:=head_mem (G.ne g X5);obtain⟨o,ho,_⟩:=G.from_ _ (Wh.mpr ⟨g,X5,m1⟩);have:=SL ho;have h3:=XY (Parts.zaJ G.ne) (Parts.jW (b:=zv m) G.nd ar);lia
   refine⟨_,rfl,k,ws,_,rfl,SqL.of hk,zmO hG,(by rw[hG.length];lia),λd Y aA hd hl a3 a6 pw=>?_⟩;have L:=zc (o:=.lst Y) hd;obtain⟨ds,rfl,pg⟩:=zgR a3;have G':=G.perm pg;refine q d Y ds _ ((U.trans s2).free hd) zb ((zmP hl).mono L) (pw.nodup_iff.mpr aa) (λv hv=>?_) G' (zmQ a6 G'.ne (zbP G'.ne G'.nd)) ((U.trans s2).trans L);have ag:=pw.mem_iff.mp hv;obtain⟨a,e1,e2⟩:=B v ag;obtain⟨a',Y,e3,e4⟩:=xP.some hG v ag;refine⟨a,e1,e2,λz=>?_⟩;rw[e1]at e3;injection e3 with e3
   rw[<- e3,z,hd]at e4;cases e4
def PR (H:Hp)(v:V)(p:Int×Int):Prop:=∃a,v=V.ref a/\H a=some (.tup [.int p.1,.int p.2])
def PR.mono {H m:Hp}(s:zo H m){v:V}{p:Int×Int}(h:PR H v p):PR m v p:=let ⟨a,e,h⟩:=h;⟨a,e,s _ _ h⟩
def zbt {H m:Hp}(s:zo H m){r:AE}{ps:List (Int×Int)}(w:yT H r ps):yT m r ps:=by
 induction w with
 | nil=>exact .nil
 | cons h _ A =>
  exact .cons (PR.mono s h) A
def zgS {H:Hp}{m:AE}{ps:List (Int×Int)}(h:yT H m ps):m.length=ps.length:=Paired.length h
def Qc {H:Hp}{a z:Addr}{o r:HO}(h:H a=some o)(hz:H z=some r)(m:o≠r):a≠z:=λe=>by
 subst e;rw[h]at hz;exact m (Option.some.inj hz)
def zoP {H:Hp}{z:Addr}{ys m:AE}(hz:H z=some (.lst ys)){v:V}{p:Int×Int}(h:PR H v p):PR (upd H z (.lst m)) v p:=by
 obtain⟨a,e,h⟩:=h;refine⟨a,e,?_⟩;rw[zg (Qc h hz (λz=>nomatch z))];exact h
def zbu {H:Hp}{z:Addr}{ys m:AE}(hz:H z=some (.lst ys)){r:AE}{ps:List (Int×Int)}(s:yT H r ps):yT (upd H z (.lst m)) r ps:=by
 induction s with
 | nil=>exact .nil
 | cons h _ w =>
  exact .cons (zoP hz h) w
def yf (N:Addr->Prop)(H:Hp):AE->List (List (Int×Int))->Prop:=XG λv k=>∃a m,v=V.ref a/\N a/\H a=some (.lst m)/\yT H m k
def jT {N:Addr->Prop}{H m:Hp}(s:zo H m){r:AE}{ks:List (List (Int×Int))}(w:yf N H r ks):yf N m r ks:=by
 induction w with
 | nil=>exact .nil
 | cons q _ A =>
  obtain⟨a,B,e,n,h,t⟩:=q;exact .cons ⟨a,B,e,n,s _ _ h,zbt s t⟩ A
def zc7 {N M:Addr->Prop}{H:Hp}(w:∀a,N a->M a){m:AE}{ks:List (List (Int×Int))}(r:yf N H m ks):yf M H m ks:=by
 induction r with
 | nil=>exact .nil
 | cons q _ s =>
  obtain⟨a,A,e,n,h,t⟩:=q;exact .cons ⟨a,A,e,w a n,h,t⟩ s
def zc8 {N:Addr->Prop}{H:Hp}{z:Addr}{ys m:AE}(hz:H z=some (.lst ys))(w:∀a,N a->a≠z){r:AE}{ks:List (List (Int×Int))}(s:yf N H r ks):yf N (upd H z (.lst m)) r ks:=by
 induction s with
 | nil=>exact .nil
 | cons q _ A =>
  obtain⟨a,B,e,n,h,t⟩:=q;exact .cons ⟨a,B,e,n,by rw[zg (w a n)];exact h,zbu hz t⟩ A
def zbv {N:Addr->Prop}{H:Hp}{s:AE}{ks:List (List (Int×Int))}{r:AE}{m:List (List (Int×Int))}(h:yf N H s ks)(k:yf N H r m):yf N H (s++r) (ks++m):=zcD h k
def yv {N:Addr->Prop}{H:Hp}{m:AE}{ks:List (List (Int×Int))}(h:yf N H m ks):m.length=ks.length:=Paired.length h
def zc9 {N:Addr->Prop}{H:Hp}{r:AE}{ks:List (List (Int×Int))}{i:Nat}{v:V}(h:yf N H r ks)(e:r[i]?=some v):∃k a m,ks[i]?=some k/\v=V.ref a/\N a/\H a=some (.lst m)/\yT H m k:=by
 obtain⟨k,s,a,m,w⟩:=yK h e;exact⟨k,a,m,s,w⟩
def zlb {N:Addr->Prop}{H:Hp}{m:AE}{ks:List (List (Int×Int))}(r:yf N H m ks):XG (GS.LstAt H) m ks:=by
 induction r with
 | nil=>exact .nil
 | cons q _ s =>
  obtain⟨a,w,e,_,h,t⟩:=q;exact .cons ⟨a,w,e,h,t⟩ s
def zmS {N:Addr->Prop}{H:Hp}{m:AE}{ks:List (List (Int×Int))}(s:XG (GS.LstAt H) m ks)(n:∀v∈m,∃a,v=V.ref a/\N a):yf N H m ks:=by
 induction s with
 | nil=>exact .nil
 | cons q _ w =>
  obtain⟨a,B,e,h,t⟩:=q;obtain⟨b,r,A⟩:=n _ X5;subst e;cases r;exact .cons ⟨_,B,rfl,A,h,t⟩ (w λv hv=>n v (Y1 _ hv))
def QF {N:Addr->Prop}{H:Hp}{r:AE}{ks:List (List (Int×Int))}{v:V}(h:yf N H r ks)(e:v∈r):∃a m,v=V.ref a/\N a/\H a=some (.lst m):=by
 obtain⟨k,_,a,m,s,w,A,_⟩:=zlR h e;exact⟨a,m,s,w,A⟩
def zmT {H:Hp}{s:AE}{ps:List (Int×Int)}{r:AE}{m:List (Int×Int)}(h:yT H s ps)(k:yT H r m):yT H (s++r) (ps++m):=zcD h k
def nearF (rs:AD)(c x:AA):Bool:=(zL rs c).any λz=>decide (z=x)
def jH (rs:AD)(c:AA):Int:=((Cells.sgn (codes rs) c:Nat):Int)-48
def zlc (rs:AD)(c:AA):(zL rs c).Nodup:=(qm (Cells.Js _ 0 (codes rs))).sublist Xm
def zmU {rs:AD}{o:AA}{q:AB}(hq:q.Nodup):((zL rs o).filter λx=>q.any λz=>decide (z=x)).length=Grow.cnt (nearF rs) o q:=by
 unfold Grow.cnt;refine Tz ((WW ((zlc rs o).sublist Xm) (hq.sublist Xm)).mpr λx=>?_);rw[X8,X8];unfold nearF;rw[WL,WL];constructor
 .rintro⟨h1,y,hy,e⟩;have m:y=x:=bg e;subst m;exact⟨hy,y,h1,br rfl⟩
 .rintro⟨h1,y,hy,e⟩;have m:y=x:=bg e;subst m;exact⟨hy,y,h1,br rfl⟩
def zgT (H:Hp)(rs:AD)(v:V)(o:AA):Prop:=∃a m r,v=V.ref a/\H a=some (.tup [.int (jH rs o),.ref m])/\H m=some (.lst r)/\Cel H r (zL rs o)
def zgU (H:Hp)(rs:AD)(m:AB)(v:V)(o:AA):Prop:=∃a r s,v=V.ref a/\H a=some (.tup [.int (jH rs o-((Grow.cnt (nearF rs) o m:Nat):Int)),.int (jH rs o),.ref r])/\H r=some (.lst s)/\Cel H s (zL rs o)
def zld {H m:Hp}(s:zo H m){rs:AD}{vs:AE}{r:AB}(D:XG (zgT H rs) vs r):XG (zgT m rs) vs r:=by
 induction D with
 | nil=>exact .nil
 | cons q _ E =>
  obtain⟨a,G,I,e,w,A,B⟩:=q;exact .cons ⟨a,G,I,e,s _ _ w,s _ _ A,B.mono s⟩ E
def zbw {H r:Hp}(s:zo H r){rs:AD}{m:AB}{vs:AE}{w:AB}(E:XG (zgU H rs m) vs w):XG (zgU r rs m) vs w:=by
 induction E with
 | nil=>exact .nil
 | cons q _ G =>
  obtain⟨a,I,J,e,A,B,D⟩:=q;exact .cons ⟨a,I,J,e,s _ _ A,s _ _ B,D.mono s⟩ G
def ZF {α r:Type}{R:α->r->Prop}{vs:List α}{m:List r}{i:Nat}{v:α}(h:XG R vs m)(e:vs[i]?=some v):∃c,m[i]?=some c/\R v c:=yK h e
def ziq {α s:Type}{R:α->s->Prop}{A:List α}{w:List s}{r:List α}{m:List s}(h:XG R A w)(k:XG R r m):XG R (A++r) (w++m):=zcD h k
def zeE (H w:Hp)(rs:AD)(m:AB)(v:V)(o:AA):Prop:=∃a r s,v=V.ref a/\w a=some (.tup [.int (jH rs o-((Grow.cnt (nearF rs) o m:Nat):Int)),.int (jH rs o),.ref r])/\H r=some (.lst s)/\Cel H s (zL rs o)
def zir {H r w:Hp}(s:zo r w){rs:AD}{m:AB}{vs:AE}{A:AB}(G:XG (zeE H r rs m) vs A):XG (zeE H w rs m) vs A:=by
 induction G with
 | nil=>exact .nil
 | cons q _ I =>
  obtain⟨a,J,L,e,B,D,E⟩:=q;exact .cons ⟨a,J,L,e,s _ _ B,D,E⟩ I
theorem zda {H r:Hp}{z:Addr}{ys s:AE}(hz:r z=some (.lst ys)){rs:AD}{m:AB}:∀{vs:AE} {w:AB},XG (zeE H r rs m) vs w->XG (zeE H (upd r z (.lst s)) rs m) vs w
 | _,_,.nil=>.nil
 | _,_,.cons ⟨a,E,I,e,A,B,D⟩ t=>.cons ⟨a,E,I,e,by
   have G:a≠z:=λe=>by
    subst e;rw[A]at hz;cases hz
   rw[zg G];exact A,B,D⟩ (zda hz t)
def zis {H r:Hp}(s:zo H r){rs:AD}{m:AB}{vs:AE}{w:AB}(E:XG (zeE H r rs m) vs w):XG (zgU r rs m) vs w:=by
 induction E with
 | nil=>exact .nil
 | cons q _ G =>
  obtain⟨a,I,J,e,A,B,D⟩:=q;exact .cons ⟨a,I,J,e,A,s _ _ B,D.mono s⟩ G
def zoQ:Sp:=λvs H Q _=>∃(B w A:Addr) (E D:AE) (s:AD) (O m:AB) (c:AA),vs=[.ref B,.ref w,.ref A]/\H B=some (.lst E)/\XG (zgT H s) E O/\O.length<=64/\Rows bd.cps.toList s/\H w=some (.tup [.int (c.1:Nat),.int (c.2:Nat)])/\H A=some (.lst D)/\Cel H D m/\m.Nodup /\
 ∀(d:Addr) (G:AE) (r:Hp),r d=some (.lst G)->XG (zgU r s m) G (O.filter λo=>nearF s o c)->zo H r->Q (.ref d) r
def zsf:Sp:=λvs H Q _=>∃(w A:Addr) (un up:AE) (r:AD) (m O q:AB),vs=[.ref w,.ref A]/\H w=some (.lst un)/\XG (zgU H r m) un O/\H A=some (.lst up)/\Cel H up q/\q.length<=64 /\
 ∀s:Hp,zo H s->Q (.bl (O.all λo=>Grow.zcW (nearF r) (jH r) m o q)) s
def xR:zE ["told","cell","rest","needs","number","near","left"] ["told","cell","rest"] (zp yZ):=bh
def zgV (T:Txt mg)(D:zk K mg "needs_at" yZ ["told","cell","rest"] f fd):zY P w K mg base CX0 1 f fd ["told","cell","rest"] zoQ:=by
 refine D.F.ok xR (λvs H Q E h=>?_) (λas A an s H vs Q E hr h=>?_)
 .revert h;refine di λta ca ra ut ur B O r=>dm λc z0 _=>?_;subst z0;rfl
 .revert h;refine di λta ca ra ut ur B O r=>dG λc=>dD λz0 ag hT ol=>dh λR aj al ak ao q=>?_;subst z0;refine⟨_,(@ze _ _ _ _ _ (@qx _ _ 3 _ _ _ _ xR.nd rfl (VU rfl) (@zR _ _ _ _ zd) (by rfl) (.inr rfl)) (ze (qz Xd rfl (zJ (pvS 0)) (xW rfl (zW (pgq 4 xR.nd) (zW (pgq 5 xR.nd) jV))) (zh (qW (qp (zcB hr.units) (pvS 1) (pvS 5) (by rfl)) (ze (qR 6 xR.nd (pb1 zM T.qT Xa (pcm ["place","rest"] [none,some 2] cR (zJ (pvS 5)) (pgN 0) (qI (qp (jN (K:=K) (by rfl) hr.units) (pvS 0) (pvS 1) (by rfl))) (pvS 0)))) (zh (qV (yV W7 WJ WI jP (pvS 3) (za (qu (za (zx Qx (pvS 4) (pvS 6)) (za (pvS 4) (za (pvS 5) zd)))) zd))))) qd))) (zh (zB (pvS 3))))),?_⟩;(try dsimp only[cxK,cxP,cxW]);refine⟨yU,λd hd=>?_⟩;have s0:=zc (o:=.lst []) hd;refine⟨_,rfl,ta,rfl,⟨_,SqL.of (s0 _ _ ag)⟩,?_⟩;refine j7 (K:=K) (a:=ta) (xs:=ut) (λi σ H'=>∃(L:AE) (v4 v5 v6:Option V),σ=[some (.ref ta),some (.ref ca),some (.ref ra),some (.ref d),v4,v5,v6]/\zo H H'/\H' d=some (.lst L)/\XG (zeE H H' B r) L ((O.take i).filter λo=>nearF B o c))
   ⟨[],_,_,_,rfl,s0,zb,.nil⟩ (λi σ H' _ ⟨_,_,_,_,_,z,_⟩=>SqL.of (z _ _ ag)) ?_ ?_
  .refine λi x σ H1 hx=>dH λL v4 v5 v6 z0 s1 I hN=>?_;subst z0;refine dR (λo ho a na wn=>dz λz0 ai U M=>?_) (ZF hT hx);subst z0;have ha:=s1 _ _ ai;have ab:=s1 _ _ U;have G:=M.mono s1;have tk:O.take (i+1)=O.take i++[o]:=by
    rw[Xe,ho];rfl
   refine cT a rfl (SqT.of ha) ⟨rfl,_,(cJ rfl rfl rfl ?_)⟩;refine⟨_,rfl,_,rfl,zm c,(zL B o).map zm,yQ.rdv ⟨ca,rfl,s1 _ _ aj⟩,.lst (SqL.of ab) (zmM G),rfl,YM _,(by show 1<=60;decide),_,rfl,?_⟩;have ei:(if false=true then !((zL B o).map zm).any (λz=>WQ z (zm c)) else ((zL B o).map zm).any λz=>WQ z (zm c))=nearF B o c:=xO _ _;rw[ei,tk,W6];by_cases J:nearF B o c=true
   .have ef:[o].filter (λo=>nearF B o c)=[o]:=by
     rw[WB,bw J];rfl
    rw[ef];refine j6 J ⟨_,rfl,na,rfl,⟨_,SqL.of ab⟩,λz hz=>?_⟩;refine ql (K:=K) (a:=na) (xs:=wn) (λa=>a≠z) ((zL B o).map λx=>if (r.any λz=>decide (z=x))=true then some (zm x) else none) (fun σ=>∃u0,σ=[u0,some (.ref ra)]) hz (λ_ h=>h) ⟨_,rfl⟩ (by rw[ZB];exact G.length.symm) (by rw[G.length];exact XY (Zp R o) (by decide)) (SqL.of ab) ?_ ?_
    .rintro m v u σ H2 hv hu s2 _ ⟨u1,rfl⟩ Y Z ar no;obtain⟨e,he,rc⟩:=Cel.get (G.mono s2) hv;have eo:=jL he hu;refine⟨_,rfl,_,rfl,zm e,r.map zm,rc.rdv,.lst (SqL.of (s2 _ _ (s1 _ _ al))) (zmM ((ak.mono s1).mono s2)),rfl,YM _,(by show 1<=60;decide),_,rfl,?_⟩;have ei:(if false=true then !(r.map zm).any (λz=>WQ z (zm e)) else (r.map zm).any λz=>WQ z (zm e))=r.any λz=>decide (z=e):=xO _ _;rw[ei];by_cases J:(r.any λz=>decide (z=e))=true
     .rw[bw J]at eo;exact j6 J ⟨_,rfl,ar _ _ _ _ eo ⟨_,rfl⟩ (zo.refl _) rc.rdn⟩
     .rw[bq J]at eo;exact jk (Xk.mpr J) (no _ _ eo ⟨_,rfl⟩ (zo.refl _))
    rintro ys H2 s2 am af;have er:((zL B o).map λx=>if (r.any λz=>decide (z=x))=true then some (zm x) else none).filterMap id=((zL B o).filter λx=>r.any λz=>decide (z=x)).map zm:=qf _ _ _;rw[er]at af;have yl:ys.length=Grow.cnt (nearF B) o r:=(zu.cel af).length.trans (zmU ao);have aa:=s2 _ _ I;refine⟨z,ys,rfl,.inl (SqL.of am),?_⟩;rw[yl];refine⟨_,rfl,.inl ⟨rfl,_,SqL.of aa⟩,_,rfl,_,rfl,_,_,rfl,rfl,_,rfl,_,rfl,zgE,λtt ac=>?_⟩;have z3:=zc (o:=.tup [.int (jH B o-((Grow.cnt (nearF B) o r:Nat):Int)),.int (jH B o),.ref na]) ac;have ah:=s2.trans z3;have aq:L.length<=64:=by
     rw[Paired.length hN];refine XY (Xw _ _) ?_;rw[XM];lia
    have ae:=z3 _ _ aa;refine⟨d,L,_,rfl,rfl,ae,XJ aq (by decide),L++[.ref tt],_,_,_,rfl,λb e' h'=>?_,zb,ziq (zda ae (zir ah hN)) (.cons ⟨tt,na,wn,rfl,?_,U,M⟩ .nil)⟩
    .rw[zg (zj h' hd)];exact ah _ _ (s1 _ _ h')
    .have ne:tt≠d:=λe=>by
      subst e;rw[aa]at ac;cases ac
     rw[zg ne,zb]
   .have ef:[o].filter (λo=>nearF B o c)=[]:=by
     rw[WB,bq J];rfl
    rw[ef,Xx];exact jk (Xk.mpr J) ⟨L,_,_,_,rfl,s1,I,hN⟩
  .rintro σ H1 ⟨L,v4,v5,v6,rfl,s1,I,hN⟩;rw[Paired.length hT,XE]at hN;exact⟨_,rfl,q d L H1 I (zis s1 hN) s1⟩
def Ys:zE ["needs","pick","least","most","near"] ["needs","pick"] (zp Jt):=bh
def zit (T:Txt mg)(D:zk K mg "may_fit" Jt ["needs","pick"] f fd):zY P w K mg base CX0 1 f fd ["needs","pick"] zsf:=by
 refine D.F.ok Ys (λvs H Q E h=>?_) (λah A af s H vs Q E hr h=>?_)
 .revert h;refine di λna pa un up r B O p=>c8 λz0 _=>?_;subst z0;rfl
 .revert h;refine di λna pa un up r B O p=>dD λz0 M hN U=>c9 λI pl q=>?_;subst z0;refine⟨_,(ze (qz Xd rfl (zJ (pvS 0)) (xW rfl (zW (pgq 2 Ys.nd) (zW (pgq 3 Ys.nd) (zW (pgq 4 Ys.nd) jV)))) (zh (qW (Q2 (zfZ zfq zfq (pvS 2) (pb1 zM T.qT Xa (pcm ["cell","near"] [none,some 4] cR (zJ (pvS 1)) (pgN 0) (qI (qp (jN (K:=K) (by rfl) hr.units) (pvS 0) (pvS 1) (by rfl))) (pvS 0))) (pvS 3))) (@zh _ _ _ (@zB _ _ _ _ zam)) qd))) (@zh _ _ _ (@zB _ _ _ _ zam))),?_⟩;(try dsimp only[cxK,cxP,cxW]);refine⟨_,rfl,na,rfl,⟨_,SqL.of M⟩,?_⟩;refine j7 (K:=K) (a:=na) (xs:=un) (λi σ H'=>∃(v2 v3 v4:Option V),σ=[some (.ref na),some (.ref pa),v2,v3,v4]/\zo H H'/\∀o∈O.take i,Grow.zcW (nearF r) (jH r) B o p=true)
   ⟨_,_,_,rfl,zo.refl _,λo ho=>by simp at ho⟩ (λi σ H' _ ⟨_,_,_,_,z,_⟩=>SqL.of (z _ _ M)) ?_ ?_
  .refine λi x σ H1 hx=>dO λv2 v3 v4=>c9 λz0 s1 G=>?_;subst z0;refine dR (λo ho a ra wn=>dz λz0 ha ac ab=>?_) (ZF (zbw s1 hN) hx);subst z0;refine cT a rfl (SqT.of ha) ⟨rfl,_,(cD rfl ⟨_,(cJ rfl rfl rfl ?_)⟩)⟩;refine⟨_,rfl,_,rfl,pa,rfl,⟨_,SqL.of (s1 _ _ U)⟩,λz hz=>?_⟩;refine ql (K:=K) (a:=pa) (xs:=up) (λa=>a≠z) (p.map λx=>if nearF r o x=true then some (zm x) else none) (fun σ=>∃u0,σ=[u0,some (.ref ra)]) hz (λ_ h=>h) ⟨_,rfl⟩ (by rw[ZB];exact I.length.symm) (by rw[I.length];exact XY pl (by decide)) (SqL.of (s1 _ _ U)) ?_ ?_
   .rintro m v u σ H2 hv hu J _ ⟨u1,rfl⟩ Y Z ag no;obtain⟨e,he,rc⟩:=Cel.get ((I.mono s1).mono J) hv;have eo:=jL he hu;refine⟨_,rfl,_,rfl,zm e,(zL r o).map zm,rc.rdv,.lst (SqL.of (J _ _ ac)) (zmM (ab.mono J)),rfl,YM _,(by show 1<=60;decide),_,rfl,?_⟩;have ei:(if false=true then !((zL r o).map zm).any (λz=>WQ z (zm e)) else ((zL r o).map zm).any λz=>WQ z (zm e))=nearF r o e:=xO _ _;rw[ei];by_cases hp:nearF r o e=true
    .rw[bw hp]at eo;exact j6 hp ⟨_,rfl,ag _ _ _ _ eo ⟨_,rfl⟩ (zo.refl _) rc.rdn⟩
    .rw[bq hp]at eo;exact jk (Xk.mpr hp) (no _ _ eo ⟨_,rfl⟩ (zo.refl _))
   rintro ys H2 J ae aa;have er:(p.map λx=>if nearF r o x=true then some (zm x) else none).filterMap id=(p.filter (nearF r o)).map zm:=qf _ _ _;rw[er]at aa;have yl:ys.length=Grow.cnt (nearF r) o p:=(zu.cel aa).length;refine⟨z,ys,rfl,.inl (SqL.of ae),?_⟩;rw[yl];have om:=X4 ho;have tk:O.take (i+1)=O.take i++[o]:=by
    rw[Xe,ho];rfl
   have L:Grow.zcW (nearF r) (jH r) B o p=false->Q (.bl false) H2:=λe=>by
    have e2:(O.all λo=>Grow.zcW (nearF r) (jH r) B o p)=false:=Xk.mpr λz=>by
     have:=WC.mp z o om;rw[e]at this;cases this
    rw[e2]at q;exact q _ (s1.trans J)
   refine⟨_,_,rfl,rfl,_,rfl,?_⟩;by_cases h1:jH r o-((Grow.cnt (nearF r) o B:Nat):Int)<=((Grow.cnt (nearF r) o p:Nat):Int)
   .rw[br h1];refine Q5 ⟨_,rfl,_,_,rfl,rfl,_,rfl,?_⟩;by_cases h2:((Grow.cnt (nearF r) o p:Nat):Int)<=jH r o
    .rw[br h2];refine Q4 ⟨_,_,_,rfl,s1.trans J,λo' ho'=>?_⟩;rw[tk]at ho';rcases XU.mp ho' with ho' | ho'
     .exact G o' ho'
     .have e:o'=o:=by simpa using ho'
      rw[e];exact Grow.yk.mpr ⟨h1,h2⟩
    .rw[bf h2];exact Q5 (L (Xk.mpr λz=>h2 (Grow.yk.mp z).2))
   .rw[bf h1];refine Q4 ⟨_,rfl,?_⟩;exact Q5 (L (Xk.mpr λz=>h1 (Grow.yk.mp z).1))
  .rintro σ H1 ⟨v2,v3,v4,rfl,s1,G⟩;rw[Paired.length hN,XE]at G;have e:(O.all λo=>Grow.zcW (nearF r) (jH r) B o p)=true:=WC.mpr G;rw[e]at q;exact q H1 s1
def toL (q:AB):List (Int×Int):=q.map toI
def zsT:Sp:=λvs H Q _=>∃(a l B:Addr) (m:AD) (n:Int) (r:AE) (part:AB),vs=[.ref a,.ref B]/\qe H a l m n/\Rows bd.cps.toList m/\H B=some (.lst r)/\Cel H r part/\part.Nodup/\part.length<=14 /\
 ∀(d:Addr) (A:AE) (w:List (List (Int×Int))) (s:Hp),H d=none->s d=some (.lst A)->yf (λa=>H a=none/\a≠d) s A w->A.Nodup->w.Perm (((Subs.subs part).filter (Grow.fits (nearF m) (jH m) (JK m part) part)).map toL)->w.Pairwise (λp q=>PySem.SeqAt.ltL q p=false)->zo H s->Q (.ref d) s
def jC (rs:AD)(part:AB):Nat->List AB
 | 0=>[[]]
 | i+1=>match part[i]? with
  | some c=>(Subs.step (jC rs part i) c).filter (Grow.chk (nearF rs) (jH rs) (JK rs part) c (part.drop (i+1)))
  | none=>jC rs part i
def zdb {rs:AD}{part:AB}{i:Nat}{c:AA}(h:part[i]?=some c):jC rs part (i+1)=(Subs.step (jC rs part i) c).filter (Grow.chk (nearF rs) (jH rs) (JK rs part) c (part.drop (i+1))):=by
 show (match part[i]? with | some c=>_ | none=>_)=_;rw[h]
theorem zdc {rs:AD}{part:AB}:∀(k i:Nat),part.length-i=k->i<=part.length->Grow.grow (nearF rs) (jH rs) (JK rs part) (jC rs part i) (part.drop i)=jC rs part part.length
 | 0,i,h,hi=>by
  have e:i=part.length:=by lia
  subst e;rw[List.drop_length];rfl
 | k+1,i,h,hi=>by
  have hl:i<part.length:=by lia
  rw[Ww hl];show Grow.grow _ _ _ ((Subs.step (jC rs part i) part[i]).filter _) (part.drop (i+1))=_;rw[<- zdb (XX hl)];exact zdc k (i+1) (by lia) (by lia)
def zeF (rs:AD)(part:AB):jC rs part part.length=(Subs.subs part).filter (Grow.fits (nearF rs) (jH rs) (JK rs part) part):=by
 rw[<- Grow.zoy];exact(zdc (rs:=rs) (part:=part) part.length 0 (by lia) (W3 _)).symm
theorem QG (rs:AD)(part:AB):∀i,(jC rs part i).length<=2^i
 | 0=>XR _
 | i+1=>by
  have m:=QG rs part i;show (match part[i]? with | some c=>_ | none=>_:List AB).length<=_;rw[Ul];split
  .refine XY (Xw _ _) ?_;unfold Subs.step;rw[X6,ZB];lia
  .lia
theorem zdd (rs:AD)(part:AB):∀i,∀q∈jC rs part i,q.length<=i
 | 0,q,h=>by
  have e:q=[]:=by simpa[jC] using h
  rw[e];exact XR _
 | i+1,q,h=>by
  have m:=zdd rs part i;cases e:part[i]? with
  | none =>
   have r:jC rs part (i+1)=jC rs part i:=by
    show (match part[i]? with | some c=>_ | none=>_)=_;rw[e]
   rw[r]at h;exact T7 (m q h)
  | some c =>
   rw[zdb e]at h;have h:=(X8.mp h).1;rcases XU.mp h with h | h
   .exact T7 (m q h)
   .obtain⟨p,s,rfl⟩:=XN.mp h;rw[X6];exact Nat.succ_le_succ (m p s)
def tD2 (rs:AD)(c:AA):Wc:=.tuple [.int (jH rs c),.list ((zL rs c).map zm)]
def zmV {N:Addr->Prop}{H:Hp}{rs:AD}{v:V}{c:AA}(h:Rdn N H v (tD2 rs c)):zgT H rs v c:=by
 unfold tD2 at h;generalize m:(zL rs c).map zm=ds at h;cases h with
 | tup h t =>
  cases t with
  | cons b t =>
   cases b;cases t with
   | cons d t =>
    cases t;cases d with
    | lst n r s =>
     subst m;exact⟨_,_,_,rfl,h,r,zu.cel s⟩
theorem zeG {N:Addr->Prop}{H:Hp}{rs:AD}:∀{m:AB} {vs:AE},zu N H vs (m.map (tD2 rs))->XG (zgT H rs) vs m
 | [],_,.nil=>.nil
 | _::_,_,.cons h t=>.cons (zmV h) (zeG t)
def Yt {σ:St}{H:Hp}{A B:Hp->Prop}(h:A H):zlN σ H λb m=>if b=true then A m else B m:=by
 show if true=true then A H else B H
 rw[bw rfl];exact h
def zmW {F:List AB}{j:Nat}{k:List (Int×Int)}(h:(F.map toL)[j]?=some k):∃q,F[j]?=some q/\k=toL q:=by
 rw[XC]at h;cases e:F[j]? with
 | none=>rw[e]at h;cases h
 | some q =>
  rw[e]at h;cases h;exact⟨q,rfl,rfl⟩
def zmX (xs:AE)(i:Nat)(hi:i<xs.length):Zu xs (some (((i:Nat):Int)+1)) none=xs.drop (i+1):=by
 have e:HT.sIx xs.length 0 (some (((i:Nat):Int)+1))=i+1:=by
  have:=HT.zaq xs.length 0 (i+1);rw[Tn]at this;rw[show (((i:Nat):Int)+1)=((i:Nat):Int)+((1:Nat):Int) from rfl,this];lia
 unfold Zu;rw[e];show (xs.drop (i+1)).take (xs.length-(i+1))=_;rw[WT (by rw[Wl];lia)]
theorem zgW {H:Hp}:∀{r:AE} {m:AB} (i:Nat),Cel H r m->Cel H (r.drop i) (m.drop i)
 | _,_,0,h=>h
 | _,_,i+1,.nil=>.nil
 | _,_,i+1,.cons _ t=>zgW i t
def qC:zE ["board","part","told","found","place","cell","needs","grown"] ["board","part"] (zp jQ):=bh
def zb5 {f1 f2 f3 f4 f5 f6 f7 f8:Addr}{aO aP aQ aR aS aT aU aV:XF}(T:Txt mg)(D:zk K mg "part_layings" jQ ["board","part"] f fd)(zO:zk K mg "around" jG ["board","cell"] f1 aO)(zq:zk K mg "sign_at" qG ["board","cell"] f2 aP)
  (zC:zk K mg "cells_of" qF ["board"] f3 aQ) (zI:zk K mg "open_cells" qH ["board"] f4 aR) (zZ:zk K mg "number_at" ju ["board","cell"] f5 aS) (j3:zk K mg "numbers_of" jX ["board","part"] f6 aT)
  (xg:zk K mg "needs_at" yZ ["told","cell","rest"] f7 aU) (Ju:zk K mg "may_fit" Jt ["needs","pick"] f8 aV):zY P w K mg base CX0 4 f fd ["board","part"] zsT:=by
 refine D.F.ok qC (λvs H Q E h=>?_) (λbE A b5 s H vs Q E hr h=>?_)
 .revert h;refine dN λa l pa rs n G part=>c8 λz0 _=>?_;subst z0;rfl
 .revert h;refine dg λa l pa rs=>dB λn G part z0 b R ay=>dz λah b6 pl q=>?_;subst z0;have ul:=ah.length;refine⟨_,(ze (qW (qp zmp (pb1 zM T.qT Xa (pvS 1)) (Jf (v:=.int 14) (by rfl) T.zc3.choose_spec (by exact⟨_,rfl⟩)) (qb _)) (zh zlD) qd) (ze (psC 2 qC.nd ["cell","board"] [none,some 0] cR (zJ (pc0 (zdX T j3 zO zq zC zI) hr j3 (za (pvS 0) (za (pvS 1) zd)))) (pgN 0) qo (qu (za (pc0 (Yp T zZ zq) hr zZ (za (pvS 1) (za (pvS 0) zd))) (za (pc0 (QD T zO) hr zO (za (pvS 1) (za (pvS 0) zd))) zd)))) (@ze _ _ _ _ _ (@qx _ _ 3 _ _ _ _ qC.nd rfl (VU rfl) (@zR _ _ _ _ (@za _ _ _ _ _ (@zR _ _ _ _ zd) zd rfl)) (by rfl) (.inr rfl)) (ze (qz Xd rfl (Zv (by rfl) T.jR (za (pvS 1) zd)) (xW rfl (zW (pgq 4 qC.nd) (zW (pgq 5 qC.nd) jV))) (ze (qR 6 qC.nd (pc0 (zgV T xg) hr xg (za (pvS 2) (za (pvS 5) (za (YO ze9 (pvS 1) (zas (zx xD (pvS 4) zf)) zar) zd))))) (ze (qR 7 qC.nd (zx yX (pvS 3) (pcm ["pick","cell"] [none,some 5] cR (zJ (pvS 3)) (pgN 0) qo (zx yX (pvS 0) (zR (za (pvS 1) zd)))))) (zh (psC 3 qC.nd ["pick","needs"] [none,some 6] cR (zJ (pvS 7)) (pgN 0) (qI (Qv (K:=K) (by rfl) (pc0 (zit T Ju) hr Ju (za (pvS 1) (za (pvS 0) zd))) (λ_=>rfl))) (pvS 0)))))) (zh (zB (pb1 (GS.QT hr.units) T.yP Wm (pvS 3)))))))),?_⟩;(try dsimp only[cxK,cxP,cxW]);refine⟨_,rfl,pa,G,rfl,.inl (SqL.of ay),_,_,rfl,rfl,_,rfl,?_⟩;refine jk (bf (by lia)) ?_;refine⟨_,rfl,_,rfl,a,l,pa,rs,n,G,part,rfl,b,R,ay,ah,λd ws H1 hd aB as s1=>⟨d,rfl,⟨_,SqL.of aB⟩,λz hz=>?_⟩⟩;have b1:=b.mono s1;have nl:(JK rs part).length<=64:=XY (Xw _ _) (jo (p:=YK) R);refine ql (K:=K) (a:=d) (xs:=ws) (λa=>a≠z) ((JK rs part).map λc=>some (tD2 rs c)) (fun σ=>∃u0,σ=[u0,some (.ref a)]) hz (λ_ h=>h) ⟨_,rfl⟩ (by rw[ZB];exact as.length.symm) (by rw[as.length];exact XY nl (by decide)) (SqL.of aB) ?_ ?_
  .rintro k x o σ H2 hx ho s2 b0 ⟨u0,rfl⟩ Y Z bA no;obtain⟨y,hy,r1⟩:=Cel.get as hx;have eo:=jL hy ho;have yo:y∈zU rs:=(X8.mp (X4 hy)).1;obtain⟨t,sg,ht,hj,bn,es⟩:=qh yo;obtain⟨ya,rfl,bv⟩:=r1;obtain⟨l1,l2⟩:=yq R ht hj;obtain⟨o1,o2⟩:=zbp (zjz R ht hj) bn;have b2:=b1.mono s2;have ao:=s2 _ _ bv;refine xB ⟨_,rfl,_,rfl,a,l,ya,rs,n,y.1,y.2,t,sg,rfl,b2,ao,ht,hj,R.tlen ht,o1,o2,_,rfl,_,rfl,a,l,ya,rs,n,y.1,y.2,rfl,b2,R,ao,l1,l2,λd2 bH H3 be bi bb s3=>⟨j9,λtt a2=>?_⟩⟩;have s4:=zc (o:=.tup [.int (((sg:Nat):Int)-48),.ref d2]) a2;have en:jH rs y=((sg:Nat):Int)-48:=by
    unfold jH;rw[es]
   refine bA _ _ _ _ eo ⟨_,rfl⟩ (s3.trans s4) (.tup zb (.cons ?_ (.cons (.lst (λe=>b0 (e ▸ be)) (s4 _ _ bi) (Cel.rdn (bb.mono s4))) .nil)));rw[en];exact .int _
  rintro ut H2 s2 bx aG;rw[ZM]at aG;have hT:=zeG aG;have af:=s1.trans s2;refine⟨yU,λe0 aC=>⟨sz_1,λf0 bj=>?_⟩⟩;have y1:=zc (o:=.lst []) aC;have y2:=zc (o:=.lst [.ref e0]) bj;have aM:=y1.trans y2;have aY:yf (λa=>H2 a=none) (upd (upd H2 e0 (.lst [])) f0 (.lst [.ref e0])) [.ref e0] ([[]]:List (List (Int×Int))):=.cons ⟨e0,[],rfl,aC,y2 _ _ zb,.nil⟩ .nil;have bm:upd (upd H2 e0 (.lst [])) f0 (.lst [.ref e0]) f0=some (.lst [.ref e0]):=zb;generalize upd (upd H2 e0 (.lst [])) f0 (.lst [.ref e0])=H3 at *
  have ae:=af _ _ ay;refine⟨_,rfl,pa,rfl,⟨_,SqL.of (aM _ _ ae)⟩,?_⟩;refine Zw (K:=K) (l:=pa) (xs:=G) (λi σ J=>∃(fa:Addr) (fs:AE) (v4 v5 v6 v7:Option V),σ=[some (.ref a),some (.ref pa),some (.ref z),some (.ref fa),v4,v5,v6,v7]/\zo H2 J/\J fa=some (.lst fs)/\yf (λa=>H2 a=none) J fs ((jC rs part i).map toL)/\fs.Nodup)
   ⟨f0,_,_,_,_,_,rfl,aM,bm,aY,by simp⟩ (λi σ J _ ⟨_,_,_,_,_,_,_,y,_⟩=>SqL.of (y _ _ ae)) ?_ ?_
  .refine λi x tt σ H4 hx a2=>dg λfa fs v4 v5=>dw λv6 v7 z0 s4 av hL aw=>?_;subst z0;refine dm (λc hc=>dm λr z0 bc=>?_) (Cel.get ((ah.mono af).mono s4) hx);subst z0;have il:=(XV.mp hx).1;have z5:=zc (o:=.tup [.int (i:Nat),.ref r]) a2;refine cT tt rfl (SqT.of zb) ⟨rfl,_,(cJ rfl rfl rfl ?_)⟩;have s5:=s4.trans z5;have am:=z5 _ _ bc;have aD:=z5 _ _ av;have aZ:=jT z5 hL;generalize upd H4 tt (.tup [.int (i:Nat),.ref r])=H5 at *
   refine⟨_,rfl,_,rfl,_,rfl,_,rfl,_,_,rfl,rfl,_,rfl,pa,G,rfl,SqL.of (s5 _ _ ae),λx1 bt=>?_⟩;have e1:=zmX G i il;rw[e1]at *
   have z6:=zc (o:=.lst (G.drop (i+1))) bt;have s6:=s5.trans z6;refine cF z r x1 ut (cF (G.drop (i+1)) rs (JK rs part) (part.drop (i+1)) (cK c rfl (s6 _ _ bx) (zld s6 hT) nl (cM R (z6 _ _ am) zb (zgW _ ((ah.mono af).mono s6)) (b6.sublist (RA _ _)) (λnd un H6 bC hN s7=>?_))));have al:=z6.trans s7;have aJ:=s5.trans al;have ac:=al _ _ aD;have ar:=jT al aZ;have aA:=al _ _ am;have b3:i<=13:=by lia
   have fl:fs.length<=8192:=by
    rw[yv hL,ZB];exact XY (QG rs part i) (TY (by decide) b3)
   have dp:=zdd rs part i;have eG:=zdb (rs:=rs) hc;have gl:=QG rs part i;generalize jC rs part i=F at *
   refine⟨_,rfl,_,rfl,fa,rfl,⟨_,SqL.of ac⟩,λy hy=>?_⟩;refine qv (K:=K) (a:=fa) (xs:=fs) (λj m J=>∃(u0:Option V) (ys:AE),m=[u0,some (.ref r)]/\zo H6 J/\J y=some (.lst ys)/\yf (λa=>H6 a=none/\a≠y) J ys (((F.take j).map (·++[c])).map toL)/\ys.Nodup)
    ⟨_,[],rfl,zc hy,zb,.nil,Vf⟩ (λj m J _ ⟨_,_,_,z,_⟩=>SqL.of (z _ _ ac)) ?_ ?_
   .refine λj v m H7 hv=>dw λu0 ys z0 s8 ak B a7=>?_;subst z0;refine dB (λk a1 U hk z0 an ab t1=>?_) (zc9 ar hv);subst z0;obtain⟨q1,M,rfl⟩:=zmW hk;have kd:=dp q1 (X4 M);have wl:U.length=q1.length:=(zgS t1).trans (ZB _);have tj:((F.take (j+1)).map (·++[c])).map toL=((F.take j).map (·++[c])).map toL++[toL q1++[toI c]]:=by
     rw[Xe,M,XB,XB];simp[toL]
    rw[tj];unfold yD;refine Yt ?_;refine⟨_,rfl,_,rfl,sz_1,λt2 bp=>?_⟩;have y5:=zc (o:=.lst [.ref r]) bp;refine cF a1 t2 U [.ref r] (cM rfl rfl (y5 _ _ (s8 _ _ ab)) zb (XY (show U.length+1<=100 by lia) (by decide)) (λt3 aj=>?_));have y6:=zc (o:=.lst (U++[.ref r])) aj;have ag:=y5.trans y6;have h6:upd (upd H7 t2 (.lst [.ref r])) t3 (.lst (U++[.ref r])) t3=some (.lst (U++[.ref r])):=zb;have tz:t3≠y:=λe=>by
     subst e;rw[y5 _ _ ak]at aj;cases aj
    have n4:=y5.free aj;have n3:=s8.free n4;have c1:yT (upd (upd H7 t2 (.lst [.ref r])) t3 (.lst (U++[.ref r]))) [.ref r] [toI c]:=.cons ⟨r,rfl,ag _ _ (s8 _ _ aA)⟩ .nil;have b9:=zmT (zbt (s8.trans ag) t1) c1;generalize upd (upd H7 t2 (.lst [.ref r])) t3 (.lst (U++[.ref r]))=H8 at *
    have a5:=ag _ _ ak;have yl:ys.length<=8192:=by
     rw[yv B,ZB,ZB,XM];have:=yv hL;rw[ZB]at this;lia
    refine⟨ys,a5,XJ yl (by decide),_,ys++[.ref t3],rfl,λb' o e=>?_,zb,zbv (zc8 a5 (λa h=>h.2) (jT ag B)) (.cons ⟨t3,U++[.ref r],rfl,⟨n3,tz⟩,by rw[zg tz];exact h6,zbu a5 b9⟩ .nil),?_⟩
    .rw[zg (zj e hy)];exact ag _ _ (s8 _ _ e)
    .refine WX.mpr ⟨a7,by simp,λu hu u' a3 e=>?_⟩;obtain⟨b',wb,rfl,_,hb⟩:=QF B hu;have e2:u'=.ref t3:=by simpa using a3
     rw[e2]at e;cases e;rw[hb]at n4;cases n4
   refine λm H7=>dw λu0 ys z0 s8 ak B a7=>?_;subst z0;have aW:fs.length=F.length:=(yv hL).trans (ZB _);rw[aW,XE]at B;have yl:ys.length<=8192:=by
    rw[yv B,ZB,ZB];lia
   refine cF fa y fs ys (cM rfl rfl (s8 _ _ ac) ak (XY (Nat.add_le_add fl yl) (by decide)) (λg hg=>?_));have y9:=zc (o:=.lst (fs++ys)) hg;have b7:=aJ.trans s8;have b8:=b7.trans y9;have aE:upd H7 g (.lst (fs++ys)) g=some (.lst (fs++ys)):=zb;have a8:yf (λa=>H2 a=none) (upd H7 g (.lst (fs++ys))) (fs++ys) ((Subs.step F c).map toL):=by
    unfold Subs.step;rw[XB];exact zbv (jT (s8.trans y9) ar) (jT y9 (zc7 (λa h=>aJ.free h.1) B))
   have aX:(fs++ys).Nodup:=by
    refine WX.mpr ⟨aw,a7,λu hu u' a3 e=>?_⟩;obtain⟨b',wb,rfl,_,hb⟩:=QF ar hu;obtain⟨b2,bG,rfl,a9,_⟩:=QF B a3;cases e;rw[hb]at a9;cases a9.1
   have aF:=(s8.trans y9) _ _ bC;have ba:=zbw (s8.trans y9) hN;have bF:(fs++ys).length<=16384:=by
    rw[X6];lia
   have aN:∀q∈Subs.step F c,q.length<=64:=λq hq=>by
    rcases XU.mp hq with hq | hq
    .have:=dp q hq;lia
    .obtain⟨p',ax,rfl⟩:=XN.mp hq;have:=dp p' ax;rw[X6];show p'.length+1<=64;lia
   generalize fs++ys=gs at *
   generalize Subs.step F c=S at *
   generalize upd H7 g (.lst gs)=H8 at *
   refine⟨_,rfl,g,rfl,⟨_,SqL.of aE⟩,λy2 a4=>?_⟩;refine qv (K:=K) (a:=g) (xs:=gs) (λj m J=>∃(u0:Option V) (ys:AE),m=[u0,some (.ref nd)]/\zo H8 J/\J y2=some (.lst ys)/\yf (λa=>H2 a=none/\a≠y2) J ys (((S.take j).filter (Grow.chk (nearF rs) (jH rs) (JK rs part) c (part.drop (i+1)))).map toL)/\ys.Sublist (gs.take j))
    ⟨_,[],rfl,zc a4,zb,.nil,List.Sublist.slnil⟩ (λj m J _ ⟨_,_,_,z,_⟩=>SqL.of (z _ _ aE)) ?_ ?_
   .refine λj v m H9 hv=>dw λu0 ys z0 s9 a6 aa O=>?_;subst z0;refine dB (λk a1 U hk z0 an ab t1=>?_) (zc9 a8 hv);subst z0;obtain⟨q1,M,rfl⟩:=zmW hk;have tf:gs.take (j+1)=gs.take j++[.ref a1]:=by
     rw[Xe,hv];rfl
    refine⟨_,rfl,_,rfl,nd,a1,un,U,rs,part.drop (i+1),_,q1,rfl,s9 _ _ aF,zbw s9 ba,s9 _ _ ab,(qO t1).mono s9,aN q1 (X4 M),λbD I=>⟨_,rfl,?_⟩⟩;rw[tf];have L:=I _ _ a6;show if Grow.chk (nearF rs) (jH rs) (JK rs part) c (part.drop (i+1)) q1=true then _ else _
    by_cases ai:Grow.chk (nearF rs) (jH rs) (JK rs part) c (part.drop (i+1)) q1=true
    .have e1:((S.take (j+1)).filter (Grow.chk (nearF rs) (jH rs) (JK rs part) c (part.drop (i+1)))).map toL=((S.take j).filter (Grow.chk (nearF rs) (jH rs) (JK rs part) c (part.drop (i+1)))).map toL++[toL q1]:=by
      rw[Xe,M,W6,XB];simp[ai]
     rw[e1];have az:a1≠y2:=zj ab a4;have yl:ys.length<=16384:=by
      have:=O.length_le;rw[XM]at this;lia
     refine j6 ai ⟨_,rfl,ys,L,XJ yl (by decide),_,ys++[.ref a1],rfl,λb' o e=>?_,zb,zbv (zc8 L (λa h=>h.2) (jT I aa)) (.cons ⟨a1,U,rfl,⟨an,az⟩,by rw[zg az];exact I _ _ (s9 _ _ ab),zbu L (zbt (s9.trans I) t1)⟩ .nil),List.Sublist.append O (List.Sublist.refl _)⟩;rw[zg (zj e a4)];exact I _ _ (s9 _ _ e)
    .have e1:((S.take (j+1)).filter (Grow.chk (nearF rs) (jH rs) (JK rs part) c (part.drop (i+1)))).map toL=((S.take j).filter (Grow.chk (nearF rs) (jH rs) (JK rs part) c (part.drop (i+1)))).map toL:=by
      rw[Xe,M,W6,XB];simp[ai]
     rw[e1];exact jk (Xk.mpr ai) ⟨_,ys,rfl,s9.trans I,L,jT I aa,O.trans (UA _ _)⟩
   .refine λm H9=>dw λu0 ys z0 s9 a6 aa O=>?_;subst z0;have aq:gs.length=S.length:=(yv a8).trans (ZB _);rw[aq,XE,<- eG]at aa;rw[aq,<- aq,XE]at O;exact cE y2 ys (cG (cO rfl (b8.trans s9) a6 (zc7 (λa h=>h.1) aa) (aX.sublist O)))
  .refine λσ H4=>dg λfa fs v4 v5=>dw λv6 v7 z0 s4 av hL aw=>?_;subst z0;have gl:=QG rs part part.length;rw[ul,zeF]at hL;rw[zeF]at gl;have fl:fs.length<=16384:=by
    rw[yv hL,ZB];exact XY gl (TY (by decide) pl)
   refine⟨_,rfl,fa,fs,_,rfl,SqL.of av,zlb hL,by lia,λd' aK b4 au ax bB bo aH=>?_⟩;have y5:=zc (o:=.lst aK) au;have aI:=af.trans s4;refine q d' aK b4 _ (aI.free au) zb (jT y5 (zmS ax λv hv=>?_)) (aH.nodup_iff.mpr aw) bB bo (aI.trans y5);obtain⟨a1,wa,e,na,ha⟩:=QF hL (aH.mem_iff.mp hv);exact⟨a1,e,af.free na,zj ha au⟩
abbrev iL (xs:List Int):AE:=xs.map V.int
def zaS (xs:List Int):Wc:=.list (xs.map SD)
theorem zbQ {K:XW}{H:Hp}:∀xs:List Int,yH K H (iL xs) (xs.map SD)
 | []=>.nil
 | x::r=>.cons (.int x) (zbQ r)
def zgX {K:XW}{H:Hp}{a:Addr}{xs:List Int}(h:SqL K H a (iL xs)):Rdv K H (.ref a) (zaS xs):=.lst h (zbQ xs)
theorem lay_ints:∀xs:List Int,WR (xs.map SD)=true
 | []=>rfl
 | x::r=>by
  show (Wr (.int x)&&WR (r.map SD))=true;rw[lay_ints r];rfl
theorem zde:∀xs:List Int,W2 (xs.map SD)=0
 | []=>rfl
 | x::r=>by
  show max (PyData.depth (.int x)) (W2 (r.map SD))=0;rw[zde r];rfl
def zbx (xs:List Int):(zaS xs).canLay0=true:=lay_ints xs
def zgY (xs:List Int):(zaS xs).depth=1:=by
 show W2 (xs.map SD)+1=1;rw[zde]
def zlf (xs ys:List Int):zf4 (zaS xs) (zaS ys):=⟨zbx xs,zbx ys,by rw[zgY];decide⟩
def ziu (xs:List Int):WQ (zaS xs) (zaS xs)=true:=RU _ (zbx xs)
def ints_get {xs:List Int}{i:Nat}{v:V}(h:(iL xs)[i]?=some v):∃x,xs[i]?=some x/\v=.int x:=by
 rw[XC]at h;cases e:xs[i]? with
 | none=>rw[e]at h;cases h
 | some x =>
  rw[e]at h;cases h;exact⟨x,rfl,rfl⟩
def zfv {xs:List Int}{i:Nat}{x:Int}(h:xs[i]?=some x):(iL xs)[i]?=some (.int x):=by
 rw[XC,h];rfl
def ziv {n:Nat}{k:Int}(h0:0<=k)(m:k<n):ixN n k=some k.toNat:=by
 unfold ixN;rw[bw h0,bw m]
def zoR (xs:List Int)(z:Int):iL (xs++[z])=iL xs++[.int z]:=by
 show Ug V.int (xs++[z])=_;rw[XB];rfl
def zfw (rs:AD)(part:AB):List (List (Int×Int)):=((Subs.subs part).filter (Grow.fits (nearF rs) (jH rs) (JK rs part) part)).map toL
def zsg:Sp:=λvs H Q _=>∃(s:Addr) (w:AE) (r:List (List (Int×Int))) (N:Addr->Prop) (g:Nat),vs=[.ref s,.int (g:Nat)]/\H s=some (.lst w)/\yf N H w r/\(∀k∈r,k.length<=g)/\g<=64 /\
 ∀(d:Addr) (m:Hp),H d=none->m d=some (.lst (iL (Cnt.JH g r)))->zo H m->Q (.ref d) m
def zsV:Sp:=λvs H Q _=>∃(a l w:Addr) (s:AD) (n:Int) (m:AE) (part:AB),vs=[.ref a,.ref w]/\qe H a l s n/\Rows bd.cps.toList s/\H w=some (.lst m)/\Cel H m part/\part.Nodup/\part.length<=14 /\
 ∀(d:Addr) (r:Hp),H d=none->r d=some (.lst (iL (Cnt.JH part.length (zfw s part))))->zo H r->Q (.ref d) r
def zgZ (n:Nat):(Wp n [V.int 0]).flatten=iL (Wp n 0):=by
 induction n with
 | zero=>rfl
 | succ n m =>
  rw[U3,VZ,m];rfl
theorem zg0 {α:Type}:∀(m:List α) (b:Nat),(Subs.pick m b).length<=m.length
 | [],_=>W3 _
 | c::r,b=>by
  have:=zg0 r (b/2);show ((if b%2=1 then [c] else [])++Subs.pick r (b/2)).length<=r.length+1;rw[X6];split
  .show 1+_<=_;lia
  .show 0+_<=_;lia
def zmY {α:Type}{m q:List α}(h:q∈Subs.subs m):q.length<=m.length:=by
 rw[Subs.zes]at h;obtain⟨b,_,rfl⟩:=XN.mp h;exact zg0 m b
def zmZ {rs:AD}{part:AB}{k:List (Int×Int)}(h:k∈zfw rs part):k.length<=part.length:=by
 obtain⟨r,m,rfl⟩:=XN.mp h;show (r.map toI).length<=_;rw[ZB];exact zmY (X8.mp m).1
def zab:zE ["found","greatest","counts","laying"] ["found","greatest"] (zp ZJ):=bh
def ziw (T:Txt mg)(D:zk K mg "counted" ZJ ["found","greatest"] f fd):zY P w K mg base CX0 1 f fd ["found","greatest"] zsg:=by
 refine D.F.ok zab (λvs H Q E h=>?_) (λaa A Y s H vs Q E hr h=>?_)
 .obtain⟨I,us,U,N,g,rfl,_⟩:=h;rfl
 .revert h;refine dQ λI us U N g=>dh λz0 r hL hk ab q=>?_;subst z0;refine⟨_,(@ze _ _ _ _ _ (@qx _ _ 2 _ _ _ _ zab.nd rfl (VU rfl) (@zx _ _ _ _ _ _ _ _ zlK (@zR _ _ _ _ (@za _ _ _ _ _ zf zd rfl)) (zx xD (pvS 1) zf)) (by rfl) (.inr rfl)) (ze (qz Xd rfl (zJ (pvS 0)) (pgq 3 zab.nd) (zh (ziX (pvS 2) (pb1 zM T.qT Xa (pvS 3)) zgb zf zlG set_list))) (zh (zB (pvS 2))))),?_⟩;(try dsimp only[cxK,cxP,cxW]);refine⟨sz_1,λl0 O=>?_⟩;have s0:zo H (upd H l0 (.lst [.int 0])):=zc O;refine⟨_,rfl,_,_,rfl,rfl,l0,_,_,rfl,rfl,zb,by lia,by lia,?_,λp hp=>?_⟩
  .exact XY (show 1*((g:Int)+1).toNat<=120 by lia) (by decide)
  rw[show ((g:Int)+1).toNat=g+1 by lia,zgZ,<- Cnt.zmv (α:=Int×Int)];have s1:=s0.trans (zc (o:=.lst (iL (Cnt.JH g ([]:List (List (Int×Int)))))) hp);have G:H p=none:=s0.free hp;refine⟨_,rfl,I,rfl,⟨_,SqL.of (s1 _ _ r)⟩,?_⟩;refine j7 (K:=K) (a:=I) (xs:=us) (λi σ L=>∃v3,σ=[some (.ref I),some (.int (g:Nat)),some (.ref p),v3]/\zo H L/\L p=some (.lst (iL (Cnt.JH g (U.take i)))))
   ⟨_,rfl,s1,zb⟩ (λi σ L _ ⟨_,_,y,_⟩=>SqL.of (y _ _ r)) ?_ ?_
  .rintro i v σ H1 hv ⟨v3,rfl,J,m⟩;refine dB (λk a1 wa B z0 _ M t1=>?_) (zc9 hL hv);subst z0;have kl:=hk k (X4 B);have wl:=zgS t1;refine⟨_,rfl,_,rfl,a1,wa,rfl,.inl (SqL.of (J _ _ M)),p,_,_,_,rfl,rfl,SqL.of m,YS (by lia) (zfv (Cnt.zcX (n:=wa.length) _ (by lia))),_,_,rfl,rfl,p,_,_,_,rfl,rfl,m,ziv (by lia) (by rw[ZB,Cnt.zaK];lia),?_⟩;refine⟨_,rfl,λc o e=>?_,?_⟩
   .rw[zg (zj e G)];exact J _ _ e
   .rw[zb,Xe,B];show _=some (HO.lst (iL (Cnt.JH g (U.take i++[k]))));rw[Cnt.zk1 _ kl,wl];show some (HO.lst ((Ug V.int _).set _ (V.int _)))=_;rw[<- TQ];rfl
  .rintro σ H1 ⟨v3,rfl,J,m⟩;rw[yv hL,XE]at m;exact⟨_,rfl,q p H1 G m J⟩
def zdf:zE ["board","part"] ["board","part"] (zp xE):=bh
def zdg {f1 f2 f3 f4 f5 f6 f7 f8 f9 L:Addr}{M O U Y aa ab ac ae af B:XF}(T:Txt mg)(D:zk K mg "part_counts" xE ["board","part"] f fd)(zO:zk K mg "around" jG ["board","cell"] f1 M)(zq:zk K mg "sign_at" qG ["board","cell"] f2 O)
  (zC:zk K mg "cells_of" qF ["board"] f3 U) (zI:zk K mg "open_cells" qH ["board"] f4 Y) (zZ:zk K mg "number_at" ju ["board","cell"] f5 aa) (j3:zk K mg "numbers_of" jX ["board","part"] f6 ab)
  (xg:zk K mg "needs_at" yZ ["told","cell","rest"] f7 ac) (Ju:zk K mg "may_fit" Jt ["needs","pick"] f8 ae) (yR:zk K mg "part_layings" jQ ["board","part"] f9 af) (QH:zk K mg "counted" ZJ ["found","greatest"] L B):zY P w K mg base CX0 5 f fd ["board","part"] zsV:=by
 refine D.F.ok zdf (λvs H Q E h=>?_) (λaj A ah s H vs Q E hr h=>?_)
 .revert h;refine dN λa l pa rs n r part=>c8 λz0 _=>?_;subst z0;rfl
 .revert h;refine dg λa l pa rs=>dB λn r part z0 b R I=>dz λm ai pl q=>?_;subst z0;refine⟨_,(zh (zB (pc0 (ziw T QH) hr QH (za (pc0 (zb5 T yR zO zq zC zI zZ j3 xg Ju) hr yR (za (pvS 0) (za (pvS 1) zd))) (za (pb1 zM T.qT Xa (pvS 1)) zd))))),?_⟩;(try dsimp only[cxK,cxP,cxW]);refine⟨_,rfl,_,rfl,a,l,pa,rs,n,r,part,rfl,b,R,I,m,ai,pl,λd ws ks H1 hd ag hL _ J _ s1=>?_⟩;refine⟨_,rfl,pa,r,rfl,.inl (SqL.of (s1 _ _ I)),d,ws,ks,_,r.length,rfl,ag,hL,λk hk=>?_,?_,λe H2 he G s2=>?_⟩
  .rw[m.length];exact zmZ (J.mem_iff.mp hk)
  .rw[m.length];lia
  .rw[m.length,Cnt.zk2 J]at G;exact q e H2 (s1.free he) G (s1.trans s2)
def Qd (rs:AD)(g S:AB):Bool:=Grow.fits (nearF rs) (jH rs) (JK rs g) g S
def zby {rs:AD}{o x:AA}:nearF rs o x=true↔x∈zL rs o:=Parts.zaI _ _
def zq1 {rs:AD}{x:AA}(h:x∈zv rs):Cells.sgn (codes rs) x=63:=by
 obtain⟨t,k,s,r,hk,m⟩:=qh h;have:k=63:=by
  unfold xY at hk;simpa using hk
 rw[m,this]
def Jl {rs:AD}{o x:AA}(hx:x∈zv rs):nearF rs o x=true↔x∈clA rs o:=by
 rw[zby];constructor
 .exact λh=>X8.mpr ⟨h,br (zq1 hx)⟩
 .exact λh=>(X8.mp h).1
def zfx {rs:AD}{g:AB}{o:AA}:o∈JK rs g↔o∈zU rs/\∃x∈g,nearF rs o x=true:=by
 unfold JK;rw[X8,TR,WL];refine and_congr_right λ_=>?_;constructor
 .rintro⟨z,hz,h⟩;have m:(g.any λx=>decide (x=z))=true:=h;exact⟨z,(Parts.zaI _ _).mp m,zby.mpr hz⟩
 .rintro⟨x,hx,h⟩;exact⟨x,zby.mp h,(Parts.zaI _ _).mpr hx⟩
section
variable {rs:AD}{gs:List AB}(G:Parts.Good (clA rs) (zU rs) gs)
include G
def Zg:∀c∈gs.flatten,c∈zv rs:=λc hc=>by
 obtain⟨o,_,h⟩:=G.from_ c hc;exact xQ h
def zoS {g:AB}(A:g∈gs){o x:AA}(E:o∈JK rs g)(hx:x∈zv rs)(hn:nearF rs o x=true):x∈g:=by
 obtain⟨B,y,hy,D⟩:=zfx.mp E;have w:=Zg G y (Wh.mpr ⟨g,A,hy⟩);have r:=(Jl w).mp D;obtain⟨I,s,m⟩:=G.cov o B (Ui r);have e:=Parts.zer G.nd s A (m y r) hy;rw[<- e];exact m x ((Jl hx).mp hn)
def zjC {g:AB}(m:g∈gs){o:AA}(r:o∈JK rs g){a:AB}(h:∀c∈a,c∈zv rs/\c ∉ g):Grow.cnt (nearF rs) o a=0:=by
 unfold Grow.cnt;rw[Wy,Wn];intro c hc hn;exact(h c hc).2 (zoS G m r (h c hc).1 hn)
def zjD {g:AB}(A:g∈gs):Tally.Loc (zv rs) (Qd rs g) g:=by
 have s:∀S w:AB,(∀o∈JK rs g,Grow.cnt (nearF rs) o S=Grow.cnt (nearF rs) o w)->Qd rs g S=Qd rs g w:=λS w h=>by
  unfold Qd Grow.fits;rw[WN,WC,WC];constructor
  .intro k o m;have:=k o m;rwa [h o (X8.mp m).1]at this
  .intro k o m;have:=k o m;rwa [<- h o (X8.mp m).1]at this
 have r:∀(o:AA) (a b:AB),Grow.cnt (nearF rs) o (a++b)=Grow.cnt (nearF rs) o a+Grow.cnt (nearF rs) o b:=λo a b=>by
  unfold Grow.cnt;rw[W6,X6]
 refine⟨λa b h=>s _ _ λo m=>?_,λa b h=>s _ _ λo m=>?_⟩
 .rw[r,zjC G A m h,VI]
 .rw[r,zjC G A m h,P6]
def zm0:(gs.map λg=>Tally.tl g (Qd rs g)).foldl Pour.QL [1]=Tally.tl gs.flatten (Tally.Ye (Qd rs) gs):=Tally.zmC G.nd (Zg G) λg m=>zjD G m
def zlg (i:Nat):((gs.take i).map λg=>Tally.tl g (Qd rs g)).foldl Pour.QL [1]=Tally.tl (gs.take i).flatten (Tally.Ye (Qd rs) (gs.take i)):=by
 have sub:(gs.take i).flatten.Sublist gs.flatten:=by
  have e:gs.flatten=(gs.take i).flatten++(gs.drop i).flatten:=by rw[<- V0,WU]
  rw[e];exact UA _ _
 exact Tally.zmC (G.nd.sublist sub) (λc hc=>Zg G c (sub.subset hc)) λg m=>zjD G (V8 m)
def zdh (R:Rows bd.cps.toList rs):gs.flatten.length<=64:=by
 have m:=Parts.jW G.nd (Zg G);have r:=zeC R;lia
def zlh (rs:AD)(part:AB):Cnt.JH part.length (zfw rs part)=Tally.tl part (Qd rs part):=by
 unfold zfw;rw[Tally.zmD part.length toL (λk=>ZB _)];exact Tally.zoI part _
def zli (xs:List Int):Prop:=∀z∈xs,z.natAbs<2^8000
def zoT {m:AB}{p:AB->Bool}{k:Nat}(h:m.length<=64):Tally.T m p k<=2^64:=by
 refine XY List.countP_le_length ?_;rw[Subs.zes,ZB,WE];exact TY (by decide) h
def zix {m:AB}{p:AB->Bool}(h:m.length<=64):zli (Tally.tl m p):=λz hz=>by
 unfold Tally.tl at hz;obtain⟨k,_,rfl⟩:=XN.mp hz;rw[Ta];exact XJ (zoT h) (O0 (by decide) (by decide))
def ZO (rs:AD)(S:AB):Bool:=((zU rs).filter λo=>!(clA rs o).isEmpty).all λo=>decide (((Grow.cnt (nearF rs) o S:Nat):Int)=jH rs o)
def Jm {rs:AD}{S:AB}:ZO rs S=true ↔ ∀o∈zU rs,clA rs o ≠ []->((Grow.cnt (nearF rs) o S:Nat):Int)=jH rs o:=by
 unfold ZO;rw[WC];constructor
 .intro h o m hc;exact bg (h o (X8.mpr ⟨m,by rw[WA];exact Vq.mpr hc⟩))
 .intro h o m;obtain⟨s,r⟩:=X8.mp m;rw[WA]at r;exact br (h o s (Vq.mp r))
def zlj {rs:AD}{gs:List AB}(G:Parts.Good (clA rs) (zU rs) gs)(S:AB):Tally.Ye (Qd rs) gs S=ZO rs S:=by
 rw[WN,Jm];unfold Tally.Ye Qd Grow.fits;rw[WC];constructor
 .intro h o r hc;obtain⟨x,hx⟩:=TK _ hc;obtain⟨g,s,m⟩:=G.cov o r hc;have hn:nearF rs o x=true:=(Jl (xQ hx)).mpr hx;have:=h g s;rw[WC]at this;exact bg (this o (X8.mpr ⟨zfx.mpr ⟨r,x,m x hx,hn⟩,WL.mpr ⟨x,m x hx,hn⟩⟩))
 .intro h g s;rw[WC];intro o r;obtain⟨A,x,hx,hn⟩:=zfx.mp (X8.mp r).1;have w:=Zg G x (Wh.mpr ⟨g,s,hx⟩);exact br (h o A (Ui ((Jl w).mp hn)))
def zm1 {rs:AD}{gs:List AB}(G:Parts.Good (clA rs) (zU rs) gs){c:AA}:c∈gs.flatten↔c∈zv rs/\∃o∈zU rs,nearF rs o c=true:=by
 constructor
 .intro h;obtain⟨o,s,hc⟩:=G.from_ c h;have r:=xQ hc;exact⟨r,o,s,(Jl r).mpr hc⟩
 .rintro⟨r,o,s,hn⟩;have hc:=(Jl r).mp hn;obtain⟨g,w,m⟩:=G.cov o s (Ui hc);exact Wh.mpr ⟨g,w,m c hc⟩
def Qe (rs:AD)(S:AB):Bool:=(zU rs).all λo=>decide (((Grow.cnt (nearF rs) o S:Nat):Int)=jH rs o)
def Yu {rs:AD}{S:AB}:Qe rs S=true ↔ ∀o∈zU rs,((Grow.cnt (nearF rs) o S:Nat):Int)=jH rs o:=by
 unfold Qe;rw[WC];exact⟨λh o m=>bg (h o m),λh o m=>br (h o m)⟩
def ziy (rs:AD):Tally.Inv (Qe rs):=λa b e=>by
 rw[WN,Yu,Yu];have:∀o,Grow.cnt (nearF rs) o a=Grow.cnt (nearF rs) o b:=λo=>(e.filter _).length_eq;constructor
 .intro h o m;rw[<- this o];exact h o m
 .intro h o m;rw[this o];exact h o m
def zm2 {rs:AD}:(YL rs).isEmpty=true ↔ ∀o∈zU rs,clA rs o=[]->jH rs o=0:=by
 rw[List.isEmpty_iff];unfold YL jH;rw[Wn];constructor
 .intro h o m hc;have:=h o (X8.mpr ⟨m,by rw[hc];rfl⟩);rw[WA,Bool.not_eq_false]at this;rw[bg this];rfl
 .intro h o m;obtain⟨r,s⟩:=X8.mp m;have:=h o r (List.isEmpty_iff.mp s);rw[WA,Bool.not_eq_false];exact br (by lia)
def zm3 {rs:AD}{S:AB}(r:∀c∈S,c∈zv rs):Qe rs S=((YL rs).isEmpty&&ZO rs S):=by
 have z:∀o,clA rs o=[]->Grow.cnt (nearF rs) o S=0:=λo m=>by
  unfold Grow.cnt;rw[Wy,Wn];intro c hc hn;have:=(Jl (r c hc)).mp hn;rw[m]at this;cases this
 rw[WN,Wj,Yu,zm2,Jm];constructor
 .intro h;refine⟨λo m hc=>?_,λo m _=>h o m⟩;rw[<- h o m,z o hc];rfl
 .rintro⟨h1,h2⟩ o m;by_cases hc:clA rs o=[]
  .rw[z o hc,h1 o m hc];rfl
  .exact h2 o m hc
def zjE {rs:AD}{c o:AA}(hc:c∈zb4 rs)(m:o∈zU rs):nearF rs o c=false:=by
 unfold zb4 at hc;have h:=(X8.mp hc).2;rw[WA,TR,RC]at h;exact Xk.mpr (h o m)
def zm4 {rs:AD}{a b:AB}(r:∀c∈b,c∈zb4 rs):ZO rs (a++b)=ZO rs a:=by
 have e:∀o∈zU rs,Grow.cnt (nearF rs) o (a++b)=Grow.cnt (nearF rs) o a:=λo m=>by
  unfold Grow.cnt;rw[W6,X6];have:b.filter (nearF rs o)=[]:=Wn.mpr λc hc hn=>by
   rw[zjE (r c hc) m]at hn;cases hn
  rw[this];rfl
 rw[WN,Jm,Jm];constructor
 .intro h o m hc;rw[<- e o m];exact h o m hc
 .intro h o m hc;rw[e o m];exact h o m hc
def zg1 {rs:AD}{c:AA}(h:c∈zb4 rs):c∈zv rs:=(X8.mp h).1
def qB (rs:AD):(zv rs).Nodup:=qm (Cells.Js _ 0 (codes rs))
def zlk (rs:AD):(zb4 rs).Nodup:=(qB rs).sublist Xm
include G
def zjF {c:AA}:c∈zb4 rs↔c∈zv rs/\c ∉ gs.flatten:=by
 rw[zm1 G];constructor
 .intro h;refine⟨zg1 h,?_⟩;rintro⟨_,o,m,hn⟩;rw[zjE h m]at hn;cases hn
 .rintro⟨h1,h2⟩;unfold zb4;refine X8.mpr ⟨h1,?_⟩;rw[WA,TR,RC];intro o m hn;exact h2 ⟨h1,o,m,hn⟩
def zll:(zv rs).Perm (gs.flatten++zb4 rs):=by
 refine(WW (qB rs) (WX.mpr ⟨G.nd,zlk rs,λa ha b m e=>?_⟩)).mpr λc=>?_
 .subst e;exact((zjF G).mp m).2 ha
 .rw[XU,zjF G];constructor
  .intro h;by_cases hc:c∈gs.flatten
   .exact .inl hc
   .exact .inr ⟨h,hc⟩
  .rintro(h | h)
   .exact Zg G c h
   .exact h.1
def count_is (s:Nat):(if (YL rs).isEmpty=true then Tally.dl (Tally.tl gs.flatten (Tally.Ye (Qd rs) gs)) (zb4 rs).length ((s:Nat):Int) else 0)=((Tally.T (zv rs) (Qe rs) s:Nat):Int):=by
 rw[Tally.zqU (zll G) (ziy rs)];have r:∀a∈Subs.subs gs.flatten,∀b∈Subs.subs (zb4 rs),Qe rs (a++b)=((YL rs).isEmpty&&Tally.Ye (Qd rs) gs a):=λa ha b A=>by
  have sa:=(Tally.Qz ha).subset;have sb:=(Tally.Qz A).subset;rw[zm3 λc hc=>(XU.mp hc).elim (λh=>Zg G c (sa h)) λh=>zg1 (sb h),zm4 λc hc=>sb hc,zlj G]
 cases A:(YL rs).isEmpty with
 | true =>
  rw[bw rfl];refine Tally.zsb (λa ha b m=>?_) s;rw[r a ha b m,A,Bool.true_and]
 | false =>
  rw[bq (by decide),Tally.zoH λS w=>?_]
  .rfl
  .rw[Tally.zgG]at w;obtain⟨b,m,w⟩:=TL.mp w;obtain⟨a,ha,rfl⟩:=XN.mp w;rw[r a ha b m,A,Ph]
end
def zq2 (K:XW):Sp:=λvs H Q _=>∃(a b:Addr) (xs ys:List Int),vs=[.ref a,.ref b]/\SqL K H a (iL xs)/\SqL K H b (iL ys)/\1<=xs.length/\xs.length<=70/\1<=ys.length/\ys.length<=70/\zli xs/\zli ys /\
 ∀(l:Addr) (m:Hp),H l=none->m l=some (.lst (iL (Pour.QL xs ys)))->zo H m->Q (.ref l) m
def zbR (H:Hp):AE->List (List Int)->Prop:=XG λv xs=>∃a,v=V.ref a/\H a=some (.lst (iL xs))
def ziz {H r:Hp}(s:zo H r){w:AE}{m:List (List Int)}(A:zbR H w m):zbR r w m:=by
 induction A with
 | nil=>exact .nil
 | cons q _ B =>
  obtain⟨a,e,h⟩:=q;exact .cons ⟨a,e,s _ _ h⟩ B
def zeH {H:Hp}{r:AE}{m:List (List Int)}(h:zbR H r m):r.length=m.length:=Paired.length h
def zm5 {H:Hp}{r:AE}{m:List (List Int)}{i:Nat}{v:V}(h:zbR H r m)(e:r[i]?=some v):∃xs a,m[i]?=some xs/\v=V.ref a/\H a=some (.lst (iL xs)):=by
 obtain⟨S,s,a,w⟩:=yK h e;exact⟨S,a,s,w⟩
structure zm6 (xss:List (List Int)):Prop where
 one:∀xs∈xss,1<=xs.length/\xs.length<=70/\zli xs
 acc:∀i,1<=((xss.take i).foldl Pour.QL [1]).length/\((xss.take i).foldl Pour.QL [1]).length<=70/\zli ((xss.take i).foldl Pour.QL [1])
def zq3:Sp:=λvs H Q _=>∃(s:Addr) (w:AE) (m:List (List Int)),vs=[.ref s]/\H s=some (.lst w)/\zbR H w m/\zm6 m /\
 ∀(d:Addr) (r:Hp),H d=none->r d=some (.lst (iL (m.foldl Pour.QL [1])))->zo H r->Q (.ref d) r
def Small (rs:AD):Prop:=∀m,Parts.Good (clA rs) (zU rs) m->∀g∈m,g.length<=14
def zg2 {rs:AD}(h:(zv rs).length<=14):Small rs:=λr G g m=>by
 have:=Parts.jW (qm (G.srt g m)) λx hx=>Zg G x (Wh.mpr ⟨g,m,hx⟩);lia
def tls (rs:AD)(gs:List AB):List (List Int):=gs.map λg=>Tally.tl g (Qd rs g)
def zq4 {rs:AD}(R:Rows bd.cps.toList rs){gs:List AB}(G:Parts.Good (clA rs) (zU rs) gs):zm6 (tls rs gs):=by
 have m:=zdh G R;refine⟨λxs hx=>?_,λi=>?_⟩
 .obtain⟨g,w,rfl⟩:=XN.mp hx;have s:g.length<=64:=XY (U1 (UZ w)) m;rw[Tally.Y7];exact⟨by lia,by lia,zix s⟩
 .unfold tls;rw[<- OG,zlg G i];have r:(gs.take i).flatten.length<=64:=by
   have e:gs.flatten=(gs.take i).flatten++(gs.drop i).flatten:=by rw[<- V0,WU]
   rw[e,X6]at m;lia
  rw[Tally.Y7];exact⟨by lia,by lia,zix r⟩
def zq5:Sp:=λvs H Q _=>∃(p l:Addr) (m:AD) (n:Int),vs=[.ref p]/\qe H p l m n/\Rows bd.cps.toList m/\Small m /\
 ∀(d:Addr) (r:List AB) (s:Hp),H d=none->Parts.Good (clA m) (zU m) r->Up2 (heads r)->s d=some (.lst (iL (Tally.tl r.flatten (Tally.Ye (Qd m) r))))->zo H s->Q (.ref d) s
def Jv:zE ["one","other","counts","i","many","j","more"] ["one","other"] (zp zaM):=bh
def zlm (T:Txt mg)(D:zk K mg "poured" zaM ["one","other"] f fd):zY P w K mg base CX0 1 f fd ["one","other"] (zq2 K):=by
 refine D.F.ok Jv (λvs H Q E h=>?_) (λaf A ae s H vs Q E hr h=>?_)
 .obtain⟨a,b,xs,ys,rfl,_⟩:=h;rfl
 .revert h;refine dM λa b xs ys z0 ha hb x1=>dh λx2 y1 y2 bx bY q=>?_;subst z0;refine⟨_,(@ze _ _ _ _ _ (@qx _ _ 2 _ _ _ _ Jv.nd rfl (VU rfl) (@zx _ _ _ _ _ _ _ _ zlK (@zR _ _ _ _ (@za _ _ _ _ _ zf zd rfl)) (zx Qx (zx xD (pb1 zM T.qT Xa (pvS 0)) (pb1 zM T.qT Xa (pvS 1))) zf)) (by rfl) (.inr rfl)) (ze (qz Xd rfl (Zv (by rfl) T.jR (za (pvS 0) zd)) (xW rfl (zW (pgq 3 Jv.nd) (zW (pgq 4 Jv.nd) jV))) (zh (qz Xd rfl (Zv (by rfl) T.jR (za (pvS 1) zd)) (xW rfl (zW (pgq 5 Jv.nd) (zW (pgq 6 Jv.nd) jV))) (zh (ziX (pvS 2) (zx xD (pvS 3) (pvS 5)) zgb (zx Z1 (pvS 4) (pvS 6)) zlG set_list))))) (zh (zB (pvS 2))))),?_⟩;(try dsimp only[cxK,cxP,cxW]);refine⟨sz_1,λl0 aa=>?_⟩;have s0:zo H (upd H l0 (.lst [.int 0])):=zc aa;refine⟨_,rfl,a,_,rfl,.inl (s0.seq ha),_,rfl,b,_,rfl,.inl (s0.seq hb),_,_,rfl,rfl,_,_,rfl,rfl,l0,_,_,rfl,rfl,zb,?_,?_,?_,λp hp=>?_⟩
  .rw[ZB,ZB];lia
  .rw[ZB,ZB];lia
  .rw[ZB,ZB];exact XY (show 1*((xs.length:Int)+(ys.length:Int)-1).toNat<=140 by lia) (by decide)
  have en:(((iL xs).length:Nat)+((iL ys).length:Nat)-1:Int).toNat=xs.length+ys.length-1:=by
   rw[ZB,ZB];lia
  rw[en,zgZ,<- Pour.zmx];have s1:zo H (upd (upd H l0 (.lst [.int 0])) p (.lst (iL (Pour.st xs ys 0 0)))):=s0.trans (zc hp);have L:H p=none:=s0.free hp;refine⟨_,rfl,a,rfl,⟨_,s1.seq ha⟩,?_⟩;refine Zw (K:=K) (l:=a) (xs:=iL xs) (λi σ B=>∃v3 v4 G I,σ=[some (.ref a),some (.ref b),some (.ref p),v3,v4,G,I]/\zo H B/\B p=some (.lst (iL (Pour.st xs ys i 0))))
   ⟨_,_,_,_,rfl,s1,zb⟩ (λi σ B _ ⟨_,_,_,_,_,s,_⟩=>s.seq ha) ?_ ?_
  .refine λi v t σ U hv ht=>dg λv3 v4 G I=>c9 λz0 Y m=>?_;subst z0;obtain⟨x,hx,rfl⟩:=ints_get hv;have st:zo U (upd U t (.tup [.int (i:Nat),.int x])):=zc ht;refine cT t rfl (SqT.of zb) ⟨rfl,_,(cJ rfl rfl rfl ?_)⟩;refine⟨_,rfl,b,rfl,⟨_,(Y.trans st).seq hb⟩,?_⟩;refine Zw (K:=K) (l:=b) (xs:=iL ys) (λj σ B=>∃G I,σ=[some (.ref a),some (.ref b),some (.ref p),some (.int (i:Nat)),some (.int x),G,I]/\zo H B/\B p=some (.lst (iL (Pour.st xs ys i j))))
    ⟨_,_,rfl,Y.trans st,st _ _ m⟩ (λj σ B _ ⟨_,_,_,s,_⟩=>s.seq hb) ?_ ?_
   .refine λj v t2 σ H2 ac ab=>dF λG I=>c9 λz0 s3 r=>?_;subst z0;obtain⟨y,hy,rfl⟩:=ints_get ac;have O:zo H2 (upd H2 t2 (.tup [.int (j:Nat),.int y])):=zc ab;have M:=O _ _ r;have hi:i<xs.length:=(XV.mp hx).1;have hj:j<ys.length:=(XV.mp hy).1;have J:((i:Int)+(j:Int)).toNat=i+j:=by lia
    refine cT t2 rfl (SqT.of zb) ⟨rfl,_,(cJ rfl rfl rfl ?_)⟩;refine⟨_,rfl,_,rfl,_,rfl,_,_,rfl,rfl,p,_,_,_,rfl,rfl,SqL.of M,YS (by lia) (by rw[J];exact zfv (Pour.zid (by lia))),?_⟩;refine⟨_,rfl,_,rfl,_,_,rfl,rfl,zrU (bx _ (X4 hx)) (bY _ (X4 hy)),_,_,rfl,rfl,p,_,_,_,rfl,rfl,M,ziv (by lia) (by rw[ZB,Pour.zic];lia),?_⟩;refine⟨_,_,rfl,λc o e=>?_,?_⟩
    .have hc:c≠p:=λz=>by
      subst z;rw[L]at e;cases e
     rw[zg hc];exact O _ _ (s3 _ _ e)
    .rw[zb,J,<- Pour.zoB hx hy];show some (HO.lst ((Ug V.int _).set _ (V.int _)))=_;rw[<- TQ]
   .rintro σ H2 ⟨G,I,rfl,s3,r⟩;rw[ZB,Pour.zqS]at r;exact⟨_,_,_,_,rfl,s3,r⟩
  .rintro σ U ⟨v3,v4,G,I,rfl,Y,m⟩;rw[ZB,Pour.zqT]at m;exact⟨_,rfl,q p U L m Y⟩
def xJ:zE ["lists","counts","others"] ["lists"] (zp Ji):=bh
def zdY (T:Txt mg)(Z:Prog K mg)(D:zk K mg "all_poured" Ji ["lists"] f fd):zY P w K mg base CX0 2 f fd ["lists"] zq3:=by
 obtain⟨ac,ab,J⟩:=Z.poured;refine D.F.ok xJ (λvs H Q E h=>?_) (λaa A Y s H vs Q E hr h=>?_)
 .obtain⟨L,us,I,rfl,_⟩:=h;rfl
 .revert h;refine dB λL us I z0 B hx ok q=>?_;subst z0;refine⟨_,(@ze _ _ _ _ _ (@qx _ _ 1 _ _ _ _ xJ.nd rfl (VU rfl) (@zR _ _ _ _ (@za _ _ _ _ _ zf zd rfl)) (by rfl) (.inr rfl)) (ze (qz Xd rfl (zJ (pvS 0)) (pgq 2 xJ.nd) (zh (qR 1 xJ.nd (pc0 (zlm T J) hr J (za (pvS 1) (za (pvS 2) zd)))))) (zh (zB (pvS 1))))),?_⟩;(try dsimp only[cxK,cxP,cxW]);refine⟨sz_1,λc0 r=>?_⟩;have s0:zo H (upd H c0 (.lst [.int 1])):=zc r;refine⟨_,rfl,L,rfl,⟨_,SqL.of (s0 _ _ B)⟩,?_⟩;refine j7 (K:=K) (a:=L) (xs:=us) (λi σ M=>∃(c:Addr) (v2:Option V),σ=[some (.ref L),some (.ref c),v2]/\zo H M/\H c=none/\M c=some (.lst (iL ((I.take i).foldl Pour.QL [1]))))
   ⟨c0,_,rfl,s0,r,zb⟩ (λi σ M _ ⟨_,_,_,y,_⟩=>SqL.of (y _ _ B)) ?_ ?_
  .rintro i v σ H1 hv ⟨c,v2,rfl,s1,hc,m⟩;obtain⟨xs,a1,G,rfl,O⟩:=zm5 hx hv;obtain⟨o1,o2,o3⟩:=ok.one xs (X4 G);obtain⟨p1,p2,p3⟩:=ok.acc i;refine⟨_,rfl,_,rfl,c,a1,_,xs,rfl,SqL.of m,SqL.of (s1 _ _ O),p1,p2,o1,o2,p3,o3,λd H2 hd U s2=>?_⟩;refine⟨d,_,rfl,s1.trans s2,s1.free hd,?_⟩;rw[U,Xe,G,UF];rfl
  .rintro σ H1 ⟨c,v2,rfl,s1,hc,m⟩;rw[zeH hx,XE]at m;exact⟨_,rfl,q c H1 hc m s1⟩
def zdi:zE ["board"] ["board"] (zp xF):=bh
def zdj (T:Txt mg)(Z:Prog K mg)(D:zk K mg "near_counts" xF ["board"] f fd):zY P w K mg base CX0 6 f fd ["board"] zq5:=by
 obtain⟨aj,QI,zO⟩:=Z.around;obtain⟨QJ,Yv,zq⟩:=Z.sign_at;obtain⟨Yw,Zh,zC⟩:=Z.cells_of;obtain⟨ak,QV,zI⟩:=Z.open_cells;obtain⟨Qf,Yx,zZ⟩:=Z.number_at;obtain⟨as,ao,j3⟩:=Z.numbers_of;obtain⟨aw,av,xg⟩:=Z.needs_at;obtain⟨az,ax,Ju⟩:=Z.may_fit;obtain⟨am,al,yR⟩:=Z.part_layings;obtain⟨a1,ay,QH⟩:=Z.counted;obtain⟨aq,an,QW⟩:=Z.part_counts;obtain⟨yp,j4,zF⟩:=Z.closed_around;obtain⟨a3,a2,ag⟩:=Z.joined;obtain⟨a5,a4,ab⟩:=Z.parts;obtain⟨au,ar,aa⟩:=Z.all_poured;refine D.F.ok zdi (λvs H Q E h=>?_) (λah A af s H vs Q E hr h=>?_)
 .obtain⟨p,l,I,n,rfl,_⟩:=h;rfl
 .revert h;refine dM λp l I n z0 b R sm q=>?_;subst z0;refine⟨_,(zh (zB (pc0 (zdY T Z aa) hr aa (za (pcm ["part","board"] [none,some 0] cR (zJ (pc0 (zmR T ab zO zq zC zI zF ag) hr ab (za (pvS 0) zd))) (pgN 0) qo (pc0 (zdg T QW zO zq zC zI zZ j3 xg Ju yR QH) hr QW (za (pvS 1) (za (pvS 0) zd)))) zd)))),?_⟩;(try dsimp only[cxK,cxP,cxW]);refine⟨_,rfl,p,l,I,n,rfl,b,R,λd ws B H1 hd O hG _ _ G up s1=>⟨d,rfl,⟨_,SqL.of O⟩,λz hz=>?_⟩⟩;have ai:B.length<=64:=XY (Parts.zaJ G.ne) (zdh G R);refine qv (K:=K) (a:=d) (xs:=ws) (λj L H'=>∃(u0:Option V) (ys:AE),L=[u0,some (.ref p)]/\zo H1 H'/\H' z=some (.lst ys)/\(∀v∈ys,∀a,v=V.ref a->a≠z)/\zbR H' ys (tls I (B.take j)))
   ⟨_,[],rfl,zc hz,zb,(λ_ h=>nomatch h),.nil⟩ (λj L H' _ ⟨_,_,_,y,_⟩=>SqL.of (y _ _ O)) ?_ ?_
  .refine λj v L H2 hv=>dw λu0 ys z0 s2 J U r=>?_;subst z0;refine dm (λg hg=>dF λga ug=>c9 λz0 ae ac=>?_) (xP.get (hG.mono s2) hv);subst z0;have gm:=X4 hg;have il:=(XV.mp hg).1;unfold yD;refine Yt ?_;refine⟨_,rfl,_,rfl,p,l,ga,I,n,ug,g,rfl,(b.mono s1).mono s2,R,ae,ac,qm (G.srt g gm),sm B G g gm,λe H3 he m s3=>?_⟩;rw[zlh]at m;have ez:e≠z:=λy=>by
    subst y;rw[J]at he;cases he
   refine⟨_,s3 _ _ J,?_,_,ys++[.ref e],rfl,λb o e'=>?_,zb,λv hv a ea=>?_,?_⟩
   .rw[zeH r];unfold tls;rw[ZB,XM];exact XJ (show _<=64 by lia) (by decide)
   .rw[zg (zj e' hz)];exact s3 _ _ (s2 _ _ e')
   .rcases XU.mp hv with hv | hv
    .exact U v hv a ea
    .have:v=V.ref e:=by simpa using hv
     rw[this]at ea;cases ea;exact ez
   .have t1:tls I (B.take (j+1))=tls I (B.take j)++[Tally.tl g (Qd I g)]:=by
     unfold tls;rw[Xe,hg,XB];rfl
    rw[t1];have into:∀{us:AE} {M:List (List Int)},zbR H3 us M->(∀v∈us,∀a,v=V.ref a->a≠z)->zbR (upd H3 z (.lst (ys++[.ref e]))) us M:=by
     intro us M h;induction h with
     | nil=>exact λ_=>.nil
     | cons h t ih =>
      intro U;obtain⟨a,rfl,ha⟩:=h;exact .cons ⟨a,rfl,by rw[zg (U _ X5 a rfl)];exact ha⟩ (ih λv hv=>U v (Y1 _ hv))
    exact Paired.snoc (into (ziz s3 r) U) ⟨e,rfl,by rw[zg ez];exact m⟩
  rintro L H2 ⟨u0,ys,rfl,s2,J,_,r⟩;rw[hG.length,XE]at r;refine⟨z,ys,tls I B,rfl,J,r,zq4 R G,λe H3 he m s3=>?_⟩;have Y:=s1.trans s2;rw[show (tls I B).foldl Pour.QL [1]=Tally.tl B.flatten (Tally.Ye (Qd I) B) from zm0 G]at m;exact q e B H3 (Y.free he) G up m (Y.trans s3)
def chV (n k:Int):Int:=if 0<=k/\k<=n then ((Choose.ch n.toNat k.toNat:Nat):Int) else 0
def zoW (m:Nat)(k:Int):chV (m:Nat) k=Tally.chZ m k:=by
 unfold chV Tally.chZ;rw[Wa];by_cases r:k<0
 .rw[bq (by lia),bw r]
 .rw[bq r];by_cases s:k<=(m:Int)
  .rw[bw ⟨by lia,s⟩]
  .rw[bq (by lia),Choose.zbk m k.toNat (by lia)];rfl
def zoX {n k:Int}(h:n<=64):(chV n k).natAbs<2^8000:=by
 have m:(2:Nat)^64<2^8000:=O0 (by decide) (by decide);have hz:(0:Nat)<2^8000:=XJ (W3 _) m;unfold chV;split
 .rw[Ta];exact XJ (XY (Choose.zsa _ _) (TY (by decide) (show n.toNat<=64 by lia))) m
 .exact hz
def dlV (xs:List Int)(m st:Int):Int:=Pour.S (λk=>Pour.F xs k*chV m (st-(k:Nat))) xs.length
def zoY (xs:List Int)(m:Nat)(st:Int):dlV xs (m:Nat) st=Tally.dl xs m st:=by
 unfold dlV Tally.dl;exact Pour.Yd _ λi _=>by rw[zoW]
theorem zpM (h:Nat->Int):∀n,((WG n).map h).sum=Pour.S h n
 | 0=>rfl
 | n+1=>by
  rw[UI,XB,List.sum_append,zpM h n];show _+(h n+0)=Pour.S h n+h n;lia
def zsW:Sp:=λvs H Q _=>∃(n k:Int),vs=[.int n,.int k]/\n<=64/\Q (.int (chV n k)) H
def zoZ:Sp:=λvs H Q _=>∃(c:Addr) (xs:List Int) (m st:Int),vs=[.ref c,.int m,.int st]/\H c=some (.lst (iL xs))/\zli xs/\xs.length<=150/\m<=64/\∀r,zo H r->Q (.int (dlV xs m st)) r
def zg4 (rs:AD)(n:Int):Int:=((Tally.T (zv rs) (Qe rs) n.toNat:Nat):Int)
def zfy:Sp:=λvs H Q _=>∃(p l:Addr) (m:AD) (n:Int),vs=[.ref p]/\qe H p l m n/\Rows bd.cps.toList m/\Small m/\0<=n/\∀r,zo H r->Q (.int (zg4 m n)) r
def Yy:zE ["n","k","found","step"] ["n","k"] (zp QA):=bh
def ziA (T:Txt mg)(D:zk K mg "choices" QA ["n","k"] f fd):zY P w K mg base CX0 1 f fd ["n","k"] zsW:=by
 refine D.F.ok Yy (λvs H Q E h=>?_) (λG A B s H vs Q E L h=>?_)
 .obtain⟨n,k,rfl,_⟩:=h;rfl
 .obtain⟨n,k,rfl,M,q⟩:=h;refine⟨_,(ze (qW (Q2 (zfZ zfq zfq zf (pvS 1) (pvS 0))) (@zh _ _ _ (@zB _ _ _ _ zf)) qd) (@ze _ _ _ _ _ (@qx _ _ 2 _ _ _ _ Yy.nd rfl (VU rfl) zf (by rfl) (.inr rfl)) (ze (qz Xd rfl (prg T.jB (pvS 1)) (pgq 3 Yy.nd) (zh (qR 2 Yy.nd (zx zkW (zx Z1 (pvS 2) (zx Qx (pvS 0) (pvS 3))) (zx xD (pvS 3) zf))))) (zh (zB (pvS 2)))))),?_⟩;(try dsimp only[cxK,cxP,cxW]);refine⟨_,rfl,_,_,rfl,rfl,_,rfl,?_⟩;unfold chV at q;refine zcA (λc=>?_) (λc=>?_)
  .have r:(0:Int)<=k:=bg c;refine⟨_,rfl,_,_,rfl,rfl,_,rfl,?_⟩;by_cases c:k<=n
   .rw[bw ⟨r,c⟩]at q;rw[br c];refine Q4 ?_;refine⟨_,rfl,k,rfl,by lia,by lia,?_⟩;refine qE (lo:=0) (n:=k.toNat) (λi σ m=>∃v,σ=[some (.int n),some (.int k),some (.int (Choose.ch n.toNat i)),v]/\m=H) ⟨_,by rw[Choose.Qy];rfl,rfl⟩ ?_ ?_
    .rintro i σ m hi ⟨v,rfl,rfl⟩;refine⟨_,rfl,_,rfl,_,rfl,_,_,rfl,rfl,_,_,rfl,rfl,zrT (by lia) (by lia),_,rfl,_,_,rfl,rfl,_,_,rfl,rfl,Jx.small (by lia) (by lia),?_⟩;refine⟨some (.int (0+(i:Int))),?_,rfl⟩;have e:=Choose.zoC (n:=n.toNat) (k:=i) (by lia);have I:((n.toNat:Nat):Int)=n:=Se (by lia);rw[I]at e;have J:(Choose.ch n.toNat i:Int)*(n-(0+(i:Int)))/(0+(i:Int)+1)=Choose.ch n.toNat (i+1):=by
      rw[V2];exact e
     show [_,_,some (V.int ((Choose.ch n.toNat i:Int)*(n-(0+(i:Int)))/(0+(i:Int)+1))),_]=_;rw[J]
    .rintro σ m ⟨v,rfl,rfl⟩;exact⟨_,rfl,q⟩
   .rw[bq (λh=>c h.2)]at q;rw[bf c];exact Q5 q
  .have r:¬ (0:Int)<=k:=λz=>c (br z);rw[bq (λh=>r h.1)]at q;exact⟨_,rfl,Q5 q⟩
def zm9:zE ["counts","cells","stones"] ["counts","cells","stones"] (zp zcp):=bh
def zna (T:Txt mg)(Z:Prog K mg)(D:zk K mg "dealt" zcp ["counts","cells","stones"] f fd):zY P w K mg base CX0 2 f fd ["counts","cells","stones"] zoZ:=by
 obtain⟨ac,ab,G⟩:=Z.choices;refine D.F.ok zm9 (λvs H Q E h=>?_) (λaa A L s H vs Q E hr h=>?_)
 .obtain⟨c,xs,m,st,rfl,_⟩:=h;rfl
 .revert h;refine dg λc xs m st=>dh λz0 hc bx xl O q=>?_;subst z0;refine⟨_,(zh (zB (pb1 (zgd rfl) T.zpH Pq (pcm ["k","many","cells","stones"] [none,none,some 1,some 2] cR (Zv (by rfl) T.jR (za (pvS 0) zd)) (zi5 (n:=2) (K:=K) (by rfl) rfl (zW (pgN 0) (zW (pgN 1) jV))) qo (zx Z1 (pvS 1) (pc0 (ziA T G) hr G (za (pvS 2) (za (zx Qx (pvS 3) (pvS 0)) zd)))))))),?_⟩;(try dsimp only[cxK,cxP,cxW]);refine⟨_,rfl,c,rfl,⟨_,SqL.of hc⟩,λz hz=>?_⟩;refine zhQ (K:=K) (a:=c) (xs:=iL xs) (λi σ I=>(∃Y u1,σ=[Y,u1,some (.int m),some (.int st)])/\zo H I/\I z=some (.lst (iL ((WG i).map λk=>Pour.F xs k*chV m (st-(k:Nat)))))) ⟨⟨_,_,rfl⟩,zc hz,zb⟩ (λi σ I _ ⟨_,B,_⟩=>SqL.of (B _ _ hc)) ?_ ?_
  .rintro i x tt σ H3 hx J ⟨⟨Y,u1,rfl⟩,B,r⟩;obtain⟨y,hy,rfl⟩:=ints_get hx;have il:=(XV.mp hy).1;have U:=zc (o:=.tup [.int ((i:Nat):Int),.int y]) J;refine cT tt rfl (SqT.of zb) ⟨rfl,_,(cJ rfl rfl rfl ?_)⟩;unfold zlN;refine Q5 ⟨_,rfl,_,rfl,_,rfl,_,rfl,_,_,rfl,rfl,m,_,rfl,O,_,_,rfl,rfl,zrU (bx y (X4 hy)) (zoX O),_,U _ _ r,?_,⟨_,_,rfl⟩,λb' o M=>?_,?_⟩
   .rw[ZB,ZB,WE];exact Xj (show i<150 by lia) (by decide)
   .rw[zg (zj M hz)];exact U _ _ (B _ _ M)
   .rw[zb,UI,XB];show _=some (HO.lst (iL (_++[Pour.F xs i*chV m (st-(i:Nat))])));rw[zoR,Pour.zoz hy]
  .rintro σ H3 ⟨_,B,r⟩;refine⟨z,_,rfl,SqL.of r,?_⟩;rw[ZB,zpM];exact q _ B
def zg5:zE ["board","near"] ["board"] (zp zco):=bh
def zg6 (T:Txt mg)(Z:Prog K mg)(D:zk K mg "count" zco ["board"] f fd):zY P w K mg base CX0 7 f fd ["board"] zfy:=by
 obtain⟨al,QI,zO⟩:=Z.around;obtain⟨QJ,Yv,zq⟩:=Z.sign_at;obtain⟨Yw,Zh,zC⟩:=Z.cells_of;obtain⟨ao,an,jS⟩:=Z.closed;obtain⟨am,QV,zI⟩:=Z.open_cells;obtain⟨Qf,Yx,zZ⟩:=Z.number_at;obtain⟨yp,j4,zF⟩:=Z.closed_around;obtain⟨av,aw,M⟩:=Z.far;obtain⟨au,aq,J⟩:=Z.bare_wrong;obtain⟨ar,as,QX⟩:=Z.near_counts;obtain⟨ay,ax,L⟩:=Z.dealt;refine D.F.ok zg5 (λvs H Q E h=>?_) (λah A ac s H vs Q E I h=>?_)
 .obtain⟨p,l,m,n,rfl,_⟩:=h;rfl
 .revert h;refine dg λp l m n=>dh λz0 b R sm n0 q=>?_;subst z0;refine⟨_,(ze (qR 1 zg5.nd (pc0 (zdj T Z QX) I QX (za (pvS 0) zd))) (ze (qW (qp (jy I.units) (pc0 (zdV T J zO zq zC zF zI zZ) I J (za (pvS 0) zd)) (@zR _ _ _ _ zd) (qb _)) (@zh _ _ _ (@zB _ _ _ _ zf)) qd) (zh (zB (pc0 (zna T Z L) I L (za (pvS 1) (za (pb1 zM T.qT Xa (pc0 (zqY T M zO zq zC jS zI) I M (za (pvS 0) zd))) (za (zG qa (pvS 0) zf (λ_ _=>rfl)) zd)))))))),?_⟩;(try dsimp only[cxK,cxP,cxW]);refine⟨_,rfl,p,l,m,n,rfl,b,R,sm,λd1 gs H1 aj G up af s1=>?_⟩;refine⟨_,rfl,p,l,m,n,rfl,b.mono s1,R,λd2 w2 H2 ak ag Y s2=>⟨yU,λe he=>?_⟩⟩;have O:=zc (o:=.lst []) he;have ci:=count_is G n.toNat;rw[Se n0]at ci;unfold zg4 at q;rw[<- ci]at q;refine⟨.list ((YL m).map zm),.list [],.lst (SqL.of (O _ _ ag)) (zu.rdv (N:=λ_=>True) (Cel.rdn (Cel.mono O Y))),.lst (SqL.of zb) .nil,zbr _ [],_,rfl,?_⟩;have ee:(if true=true then !PyData.eqv (.list ((YL m).map zm)) (.list []) else WQ (.list ((YL m).map zm)) (.list []))=!(YL m).isEmpty:=by
   show (!PyData.eqv _ _)=_;rw[eq_nil]
  rw[ee];have r:=(s1.trans s2).trans O;have B:=O _ _ (s2 _ _ af);generalize upd H2 e (.lst [])=H3 at *
  cases hb:(YL m).isEmpty with
  | false =>
   rw[hb,bq XT]at q;exact Q5 (q _ r)
  | true =>
   rw[hb,bw rfl]at q;refine Q4 ?_;have b3:=b.mono r;refine⟨_,rfl,_,rfl,p,l,m,n,rfl,b3,R,λd4 ae H4 _ ab aa s4=>⟨d4,_,rfl,.inl (SqL.of ab),?_⟩⟩;have hl:=aa.length;have ai:(zb4 m).length<=64:=XY (Xw _ _) (jo (p:=xY) R);have U:=zdh G R;refine⟨_,rfl,p,_,1,_,rfl,rfl,SqT.of (b3.mono s4).tp,rfl,d1,_,(ae.length:Nat),n,rfl,s4 _ _ B,zix U,by rw[Tally.Y7];lia,by lia,λH' s'=>?_⟩;rw[hl,zoY];exact q _ ((r.trans s4).trans s')
abbrev KV1:=List (List Key×V)
def ZP (c:AA):List Key:=[.inl ((c.1:Nat):Int),.inl ((c.2:Nat):Int)]
def znc {c d:AA}(h:ZP c=ZP d):c=d:=by
 unfold ZP at h;obtain⟨a,b⟩:=c;obtain⟨x,y⟩:=d;simp only[List.cons.injEq,Sum.inl.injEq,and_true]at h;obtain⟨s,w⟩:=h;have m:a=x:=by lia
 have r:b=y:=by lia
 rw[m,r]
def znd {kvs:KV1}{k:List Key}{v:V}(h:jn kvs k=some v):(k,v)∈kvs:=by
 unfold jn at h;cases e:kvs.find? (λm=>decide (m.1=k)) with
 | none =>
  rw[e]at h;cases h
 | some m =>
  rw[e]at h;have r:m.2=v:=by simpa using h
  have s:m.1=k:=bg (show decide (m.1=k)=true from PF (p:=λ(m:List Key×V)=>decide (m.1=k)) e);have w:=RF e;rw[<- r,<- s];exact w
def zg8 (kvs:KV1)(k:List Key)(v:V):(k∈kvs.map (·.1)/\(putK kvs k v).map (·.1)=kvs.map (·.1))\/(¬ k∈kvs.map (·.1)/\(putK kvs k v).map (·.1)=kvs.map (·.1)++[k]):=by
 unfold putK;by_cases h:(kvs.any λm=>decide (m.1=k))=true
 .refine .inl ⟨?_,?_⟩
  .obtain⟨m,r,s⟩:=WL.mp h;exact XN.mpr ⟨m,r,bg s⟩
  .rw[bw h,Ws];refine Xb λm _=>?_;show (if m.1=k then (m.1,v) else m).1=m.1;split<;>rfl
 .refine .inr ⟨λhm=>?_,?_⟩
  .obtain⟨m,r,s⟩:=XN.mp hm;exact h (WL.mpr ⟨m,r,br s⟩)
  .rw[bq h,XB];rfl
def zra {kvs:KV1}(k:List Key)(v:V)(h:(kvs.map (·.1)).Nodup):((putK kvs k v).map (·.1)).Nodup:=by
 rcases zg8 kvs k v with ⟨_,e⟩ | ⟨hn,e⟩
 .rw[e];exact h
 .rw[e,WX];refine⟨h,by simp,λa ha b r z=>hn ?_⟩;have m:b=k:=by simpa using r
  rw[<- m,<- z];exact ha
theorem zjI:∀(ps m:KV1),(m.map (·.1)).Nodup->((ps.foldl (λm s=>putK m s.1 s.2) m).map (·.1)).Nodup
 | [],_,h=>h
 | p::r,m,h=>zjI r _ (zra p.1 p.2 h)
theorem zeK:∀(ps m:KV1) (k:List Key),k∈(ps.foldl (λm s=>putK m s.1 s.2) m).map (·.1)->k∈m.map (·.1)\/k∈ps.map (·.1)
 | [],_,_,h=>.inl h
 | p::r,m,k,h=>by
  rcases zeK r _ k h with h | h
  .rcases zg8 m p.1 p.2 with ⟨_,e⟩ | ⟨_,e⟩
   .rw[e]at h;exact .inl h
   .rw[e]at h;rcases XU.mp h with h | h
    .exact .inl h
    .exact .inr (by
      have:k=p.1:=by simpa using h
      rw[this];exact X5)
  .exact .inr (Y1 _ h)
theorem zg9:∀(ps m:KV1),(ps.foldl (λm s=>putK m s.1 s.2) m).length<=m.length+ps.length
 | [],_=>XR _
 | p::r,m=>by
  have w:=zg9 r (putK m p.1 p.2);have A:=YV m p.1 p.2;rw[VR,Xn];lia
theorem zeL:∀(b a:KV1) (k:List Key),(b.map (·.1)).Nodup->jn (Q7 a b) k=(jn b k).or (jn a k)
 | [],a,k,_=>rfl
 | kv::r,a,k,hn=>by
  rw[Xu,WS]at hn;show jn (Q7 (putK a kv.1 kv.2) r) k=_;rw[zeL r _ k hn.2,zgi];by_cases e:kv.1=k
  .rw[jD e,bw e.symm];have:jn r k=none:=by
    cases hr:jn r k with
    | none=>rfl
    | some v=>exact absurd (XN.mpr ⟨(k,v),znd hr,by rw[e]⟩) hn.1
   rw[this];rfl
  .rw[jE e,bq (λz=>e z.symm)]
def Zi (m:AB)(v:V):KV1:=zgl (m.map λc=>(ZP c,v))
theorem zdk (v:V)(x:AA):∀(s:AB) (m:KV1),jn ((s.map λc=>(ZP c,v)).foldl (λm w=>putK m w.1 w.2) m) (ZP x)=if x∈s then some v else jn m (ZP x)
 | [],m=>by simp
 | c::r,m=>by
  rw[Xu,VR,zdk v x r,zgi];by_cases h:x∈r
  .rw[bw h,bw (Y1 _ h)]
  .rw[bq h];by_cases e:x=c
   .subst e;rw[bw rfl,bw X5]
   .rw[bq (λz=>e (znc z)),bq (λz=>by rcases XQ.mp z with z | z;exact e z;exact h z)]
def zha {m:AB}{v:V}(h:∀c∈m,c.1<8/\c.2<8):L2.Small ((Zi m v).map (·.1)):=λk hk=>by
 rcases zeK _ [] k hk with h1 | h1
 .exact nomatch h1
 .rw[Ws]at h1;obtain⟨c,hc,rfl⟩:=XN.mp h1;exact⟨c.1,c.2,(h c hc).1,(h c hc).2,rfl⟩
def zeM (m:AB)(v:V):(Zi m v).length<=m.length:=by
 have:=zg9 (m.map λc=>(ZP c,v)) [];rw[ZB]at this;unfold Zi zgl;simpa using this
structure jq (H:Hp)(fa fc fs:Addr)(us ws:AE)(cl st:AB):Prop where
 tp:H fa=some (.tup [.ref fc,.ref fs])
 h1:H fc=some (.lst us)
 h2:H fs=some (.lst ws)
 c1:Cel H us cl
 c2:Cel H ws st
theorem jq.mono {H m:Hp}{r w fs:Addr}{A B:AE}{cl st:AB}(x:jq H r w fs A B cl st)(s:zo H m):jq m r w fs A B cl st:=⟨s _ _ x.tp,s _ _ x.h1,s _ _ x.h2,x.c1.mono s,x.c2.mono s⟩
structure zne (cl st:AB):Prop where
 b1:∀c∈cl,c.1<8/\c.2<8
 b2:∀c∈st,c.1<8/\c.2<8
 l1:cl.length<=64
 l2:st.length<=64
def zjJ (kvs:KV1)(cl st:AB):Prop:=∀c,jn kvs (ZP c)=if c∈st then some (V.int 1) else if c∈cl then some (V.int 0) else none
def zfz:Sp:=λvs H Q _=>∃(r s fs:Addr) (w A:AE) (cl st:AB),vs=[.ref r]/\jq H r s fs w A cl st/\zne cl st /\
 ∀(d:Addr) (kvs:KV1) (m:Hp),H d=none->m d=some (.dT kvs)->zjJ kvs cl st->zo H m->Q (.ref d) m
def zaX (st m:AB):List Int:=m.map λc=>if c∈st then 1 else 0
def zV (cl st m:AB):AB:=m.filter λc=>!(decide (c∈st) || decide (c∈cl))
def zfA:Sp:=λvs H Q _=>∃(t D B:Addr) (A:Int) (E:AE) (s cl st:AB) (kvs:KV1),vs=[.ref t,.ref B]/\H t=some (.tup [.int A,.ref D])/\H D=some (.lst E)/\Cel H E s/\s.length<=64/\H B=some (.dT kvs)/\zjJ kvs cl st /\
 ∀(r w:Addr) (G:AE) (m:Hp),H r=none->H w=none->m r=some (.tup [.int (A-(zaX st s).sum),.ref w])->m w=some (.lst G)->Cel m G (zV cl st s)->zo H m->Q (.ref r) m
def zbS:zE ["finding","known"] ["finding"] (zp Yj):=bh
def zbT (T:Txt mg)(D:zk K mg "known_of" Yj ["finding"] f fd):zY P w K mg base CX0 1 f fd ["finding"] zfz:=by
 refine D.F.ok zbS (λvs H Q E h=>?_) (λal A aj s H vs Q E hr h=>?_)
 .revert h;refine dN λfa fc fs us ws cl st=>c8 λz0 _=>?_;subst z0;rfl
 .revert h;refine dg λfa fc fs us=>dJ λws cl st z0 X Fi q=>?_;subst z0;refine⟨_,(ze (qR 1 zbS.nd (pt1 (YJ hr.units hr.hd) T.zmG PM (pcm ["cell"] [none] cP (zJ (zG qP (pv 0) zf (λ_ _=>rfl))) (pgN 0) qo (qu (za (pv 0) (@za _ _ _ _ _ zf zd rfl)))))) (ze (qV (yV Ra Rr PySem.F.type_dict_update (zhZ hr.units) (pv 1) (za (pt1 (YJ hr.units hr.hd) T.zmG PM (pcm ["cell"] [none] cP (zJ (zG qP (pv 0) zf (λ_ _=>rfl))) (pgN 0) qo (qu (za (pv 0) (@za _ _ _ _ _ zf zd rfl))))) zd))) (zh (zB (pv 1))))),?_⟩;(try dsimp only[cxK,cxP,cxW]);refine cN rfl fa 0 rfl rfl (SqT.of X.tp) rfl (c5 fc rfl ⟨_,SqL.of X.h1⟩ (λy hy=>?_));have l1:=Fi.l1;have l2:=Fi.l2;refine qv (K:=K) (a:=fc) (xs:=us) (λi σ I=>(∃u0,σ=[u0])/\zo H I/\∃ys,I y=some (.lst ys)/\yr I ys ((cl.take i).map λc=>(ZP c,V.int 0))) ⟨⟨_,rfl⟩,zc hy,[],zb,.nil⟩ (λi σ I _ ⟨_,J,_⟩=>SqL.of (J _ _ X.h1)) ?_ ?_
  .rintro i x σ H6 hx ⟨⟨u0,rfl⟩,J,ys,B,r⟩;obtain⟨c,O,U,rfl,M⟩:=Cel.get (Cel.mono J X.c1) hx;refine xB ⟨_,rfl,j9,λp hp=>?_⟩;have G:=zc (o:=.tup [.ref U,.int 0]) hp;have m:ys.length<=64:=by
    rw[r.length,ZB,XM];lia
   refine⟨ys,G _ _ B,XJ m (by decide),⟨_,rfl⟩,λb' o Y=>?_,ys++[.ref p],zb,?_⟩
   .rw[zg (zj Y hy)];exact G _ _ (J _ _ Y)
   .rw[Xe,O,XB];exact yr.into y _ (G _ _ B) (yr.snoc (r.mono G) ⟨p,U,rfl,zb,G _ _ M⟩)
  rintro σ H1 ⟨_,s1,ys,ah,ac⟩;rw[X.c1.length,XE]at ac;refine⟨y,ys,_,rfl,ah,ac,λd hd=>?_⟩;have z2:=zc (o:=.dT (Zi cl (.int 0))) hd;have ab:upd H1 d (.dT (Zi cl (.int 0))) d=some (.dT (Zi cl (.int 0))):=zb;have s2:=s1.trans z2;have X2:=X.mono s2;have aa:=s1.free hd;show _;refine cH rfl (.inr (.inr (.inl ⟨rfl,.inr ⟨_,zb⟩⟩))) (cN rfl fa 1 rfl rfl (SqT.of X2.tp) rfl (c5 fs rfl ⟨_,SqL.of X2.h2⟩ (λy2 af=>?_)));refine qv (K:=K) (a:=fs) (xs:=ws) (λi σ I=>(∃u0,σ=[u0])/\zo (upd H1 d (.dT (Zi cl (.int 0)))) I/\∃ys,I y2=some (.lst ys)/\yr I ys ((st.take i).map λc=>(ZP c,V.int 1))) ⟨⟨_,rfl⟩,zc af,[],zb,.nil⟩ (λi σ I _ ⟨_,J,_⟩=>SqL.of (J _ _ X2.h2)) ?_ ?_
  .rintro i x σ H6 hx ⟨⟨u0,rfl⟩,J,ys,B,r⟩;obtain⟨c,O,U,rfl,M⟩:=Cel.get (Cel.mono J X2.c2) hx;refine xB ⟨_,rfl,j9,λp hp=>?_⟩;have G:=zc (o:=.tup [.ref U,.int 1]) hp;have m:ys.length<=64:=by
    rw[r.length,ZB,XM];lia
   refine⟨ys,G _ _ B,XJ m (by decide),⟨_,rfl⟩,λb' o Y=>?_,ys++[.ref p],zb,?_⟩
   .rw[zg (zj Y af)];exact G _ _ (J _ _ Y)
   .rw[Xe,O,XB];exact yr.into y2 _ (G _ _ B) (yr.snoc (r.mono G) ⟨p,U,rfl,zb,G _ _ M⟩)
  rintro σ H3 ⟨_,s3,ak,ai,ae⟩;rw[X.c2.length,XE]at ae;refine⟨y2,ak,_,rfl,ai,ae,λd2 L=>?_⟩;have z4:=zc (o:=.dT (Zi st (.int 1))) L;have ne:d≠d2:=zj (s3 _ _ ab) L;have ag:=z4 _ _ (s3 _ _ ab);refine cF d d2 (Zi cl (.int 0)) (Zi st (.int 1)) (cU rfl rfl ne ag (cL zb (zha Fi.b2) ?_ (cD rfl ?_)))
  .have a1:=zeM cl (.int 0);have a2:=zeM st (.int 1);exact XY (show _<=128 by lia) (by decide)
  .refine q d _ _ aa zb (λc=>?_) λb o e=>?_
   .rw[zeL (Zi st (.int 1)) (Zi cl (.int 0)) (ZP c) (zjI _ [] Vf)];have e1:jn (Zi st (.int 1)) (ZP c)=if c∈st then some (V.int 1) else none:=zdk _ c st []
    have e2:jn (Zi cl (.int 0)) (ZP c)=if c∈cl then some (V.int 0) else none:=zdk _ c cl []
    rw[e1,e2];by_cases h1:c∈st
    .rw[bw h1,bw h1];rfl
    .rw[bq h1,bq h1];rfl
   .rw[zg (zj e aa)];exact z4 _ _ (s3 _ _ (s2 _ _ e))
def Qg:zE ["asked","known","lying"] ["asked","known"] (zp xG):=bh
def Qh (T:Txt mg)(D:zk K mg "still_asked" xG ["asked","known"] f fd):zY P w K mg base CX0 1 f fd ["asked","known"] zfA:=by
 refine D.F.ok Qg (λvs H Q E h=>?_) (λak A ai s H vs Q E hr h=>?_)
 .revert h;refine di λt la kd a0 us O cl st=>dm λkvs z0 _=>?_;subst z0;rfl
 .revert h;refine di λt la kd a0 us O cl st=>dG λkvs=>dD λz0 ht I m=>dz λac L hK q=>?_;subst z0;refine⟨_,(ze (qR 2 Qg.nd (pb1 (zgd rfl) T.zpH Pq (pcm ["cell","known"] [none,some 1] cR (zJ (zG qP (pv 0) zf (λ_ _=>rfl))) (pgN 0) qo (zgk (u1 hr.units) (pv 1) (pv 0) zf ⟨rfl,rfl,rfl,rfl⟩)))) (zh (zB (qu (za (zx Zn (zG qP (pv 0) zf (λ_ _=>rfl)) (pv 2)) (za (pcm ["cell","known"] [none,some 1] cR (zJ (zG qP (pv 0) zf (λ_ _=>rfl))) (pgN 0) (qI (zqa (zkz (u1 hr.units) (pv 0) (pv 1)))) (pv 0)) zd)))))),?_⟩;(try dsimp only[cxK,cxP,cxW]);refine cN rfl t 1 rfl rfl (SqT.of ht) rfl (c5 la rfl ⟨_,SqL.of I⟩ (λy hy=>?_));refine qv (K:=K) (a:=la) (xs:=us) (λi σ H'=>(∃u0,σ=[u0,some (.ref kd)])/\zo H H'/\H' y=some (.lst ((zaX st (O.take i)).map V.int))) ⟨⟨_,rfl⟩,zc hy,zb⟩ (λi σ H' _ ⟨_,M,_⟩=>SqL.of (M _ _ I)) ?_ ?_
  .rintro i x σ H6 hx ⟨⟨u0,rfl⟩,M,ag⟩;obtain⟨c,af,ca,rfl,G⟩:=Cel.get (Cel.mono M m) hx;refine xB (cS rfl kd (cQ rfl (.inr ⟨kvs,.inl (M _ _ L)⟩) (cS rfl (jn kvs (ZP c)) ⟨zcG.t (k:=ZP c) (M _ _ L) G,?_⟩)));have eg:(jn kvs (ZP c)).getD (V.int 0)=V.int (if c∈st then 1 else 0):=by
    rw[hK c];by_cases B:c∈st
    .rw[bw B,bw B];rfl
    .rw[bq B,bq B];by_cases J:c∈cl
     .rw[bw J];rfl
     .rw[bq J];rfl
   rw[eg];refine⟨_,ag,?_,⟨_,rfl⟩,λb' o e'=>?_,?_⟩
   .unfold zaX;rw[ZB,ZB,XM];exact XJ (show _<=64 by lia) (by decide)
   .rw[zg (zj e' hy)];exact M _ _ e'
   .rw[zb,Xe,af];unfold zaX;rw[XB,XB];rfl
  rintro σ H1 ⟨_,s1,ab⟩;rw[m.length,XE]at ab;refine⟨y,_,rfl,SqL.of ab,?_⟩;refine cN rfl t 0 rfl rfl (SqT.of (s1 _ _ ht)) rfl (cJ rfl rfl rfl (cN rfl t 1 rfl rfl (SqT.of (s1 _ _ ht)) rfl (c5 la rfl ⟨_,SqL.of (s1 _ _ I)⟩ (λz hz=>?_))));refine ql (K:=K) (a:=la) (xs:=us) (λa=>a≠z) (O.map λc=>if (!(decide (c∈st) || decide (c∈cl)))=true then some (zm c) else none) (fun σ=>∃u0,σ=[u0,some (.ref kd)]) hz (λ_ h=>h) ⟨_,rfl⟩ (by rw[ZB];exact m.length.symm) (by rw[m.length];exact XY ac (by decide)) (SqL.of (s1 _ _ I)) ?_ ?_
  .rintro k x o σ H2 hx ho s2 _ ⟨u0,rfl⟩ Y Z aj no;obtain⟨c,hc,r1⟩:=Cel.get (Cel.mono (s1.trans s2) m) hx;have eo:=jL hc ho;obtain⟨ca,rfl,G⟩:=r1;refine cZ rfl rfl (cE kd (jn kvs (ZP c)) (cQ rfl (zcG.t (k:=ZP c) (s2 _ _ (s1 _ _ L)) G) (cD rfl ?_)));have ei:(!(jn kvs (ZP c)).isSome)=!(decide (c∈st) || decide (c∈cl)):=by
    rw[hK c];by_cases B:c∈st
    .rw[bw B,br B];rfl
    .rw[bq B,bf B];by_cases J:c∈cl
     .rw[bw J,br J];rfl
     .rw[bq J,bf J];rfl
   rw[ei];by_cases hp:(!(decide (c∈st) || decide (c∈cl)))=true
   .rw[bw hp]at eo;exact j6 hp ⟨_,rfl,aj _ _ _ _ eo ⟨_,rfl⟩ (zo.refl _) (yQ.rdn ⟨ca,rfl,G⟩)⟩
   .rw[bq hp]at eo;exact jk (Xk.mpr hp) (no _ _ eo ⟨_,rfl⟩ (zo.refl _))
  .rintro ys H2 s2 ah U;rw[qf]at U;have ae:Cel H2 ys (zV cl st O):=zu.cel U;refine⟨j9,λr aa=>?_⟩;have z3:=zc (o:=.tup [.int (a0-(zaX st O).sum),.ref z]) aa;exact q r z ys _ ((s1.trans s2).free aa) (s1.free hz) zb (z3 _ _ ah) (ae.mono z3) ((s1.trans s2).trans z3)
def xT (H:Hp)(v:V):Option AA->Prop
 | none=>v=V.str "all"
 | some c=>yQ H v c
theorem xT.mono {H m:Hp}{v:V}(s:zo H m):∀{r:Option AA},xT H v r->xT m v r
 | none,h=>h
 | some _,⟨a,e,h⟩=>⟨a,e,s _ _ h⟩
def zrb (rs:AD)(n:Int):Option AA->Int
 | none=>n
 | some c=>((Cells.sgn (codes rs) c:Nat):Int)-48
def zdZ (rs:AD):Option AA->AB
 | none=>zv rs
 | some c=>clA rs c
def zfB:Sp:=λvs H Q _=>∃(p l:Addr) (r:AD) (n:Int) (v:V) (s:Option AA),vs=[.ref p,v]/\qe H p l r n/\Rows bd.cps.toList r/\xT H v s/\(∀c,s=some c->c∈zU r) /\
 ∀(t w:Addr) (A:AE) (m:Hp),H t=none->H w=none->m t=some (.tup [.int (zrb r n s),.ref w])->m w=some (.lst A)->Cel m A (zdZ r s)->zo H m->Q (.ref t) m
abbrev Rg:=AB×Int×Int
def RgR (H:Hp)(v:V)(g:Rg):Prop:=∃t l m,v=V.ref t/\H t=some (.tup [.ref l,.int g.2.1,.int g.2.2])/\H l=some (.lst m)/\Cel H m g.1
def zhb (H:Hp):AE->List Rg->Prop:=XG (RgR H)
theorem zhb.get {H:Hp}:∀{vs:AE} {gs:List Rg} {i:Nat} {v:V},zhb H vs gs->vs[i]?=some v->∃g,gs[i]?=some g/\RgR H v g
 | _,_,_,_,.nil,e=>by simp at e
 | _,_,0,_,.cons r _,e=>by
  simp at e;subst e;exact⟨_,rfl,r⟩
 | _,_,i+1,v,.cons _ t,e=>by
  obtain⟨c,m,s⟩:=zhb.get (i:=i) (v:=v) t (by simpa using e);exact⟨c,by simpa using m,s⟩
def zP (gs:List Rg):AB:=gs.flatMap λg=>if g.2.2=0 then g.1 else []
def zQ (gs:List Rg):AB:=gs.flatMap λg=>if g.2.1=((g.1.length:Nat):Int) then g.1 else []
theorem zdl (p:Rg->Bool):∀gs:List Rg,(gs.flatMap λg=>if p g=true then g.1 else []).Sublist (gs.flatMap λg=>g.1)
 | []=>List.Sublist.refl _
 | g::r=>by
  rw[VX,VX];refine List.Sublist.append ?_ (zdl p r);split
  .exact List.Sublist.refl _
  .exact UT _
def jd (gs:List Rg):(zP gs).Sublist (gs.flatMap λg=>g.1):=by
 have:=zdl (λg=>decide (g.2.2=0)) gs;simpa[zP] using this
def je (gs:List Rg):(zQ gs).Sublist (gs.flatMap λg=>g.1):=by
 have:=zdl (λg=>decide (g.2.1=((g.1.length:Nat):Int))) gs;simpa[zQ] using this
def zeN {α:Type}(f:Rg->List α){gs:List Rg}{i:Nat}{g:Rg}(h:gs[i]?=some g):(gs.take (i+1)).flatMap f=(gs.take i).flatMap f++f g:=by
 rw[Xe,h,Wd];simp
def zln:Sp:=λvs H Q _=>∃(r:Addr) (D:AE) (s:List Rg),vs=[.ref r]/\H r=some (.lst D)/\zhb H D s/\(s.flatMap λg=>g.1).Nodup/\(s.flatMap λg=>g.1).length<64 /\
 ∀(t w A:Addr) (E G:AE) (c1 B:AB) (m:Hp),H t=none->H w=none->H A=none->w≠A->m t=some (.tup [.ref w,.ref A])->m w=some (.lst E)->m A=some (.lst G)->Cel m E c1->Cel m G B ->
  c1.Perm (zP s)->B.Perm (zQ s)->c1.Pairwise Cells.lex->B.Pairwise Cells.lex->zo H m->Q (.ref t) m
def zdm {m:AB}(r:m.Nodup)(h:(m.map toI).Pairwise λp q=>lt2 q p=false):m.Pairwise Cells.lex:=by
 rw[V9]at h;refine(h.and r).imp λ{c d} ⟨a,s⟩=>?_;have b:¬ Cells.lex d c:=λz=>by
  rw[zjB.mpr z]at a;cases a
 have e:¬ (c.1=d.1/\c.2=d.2):=λz=>s (Prod.ext z.1 z.2);unfold Cells.lex at *
 lia
def zhc:zE ["board","thing"] ["board","thing"] (zp Yi):=bh
def zbU {f1 f2 f3 f4 f5 f6:Addr}{aa ab ac ae af ag:XF}(T:Txt mg)(D:zk K mg "asked_by" Yi ["board","thing"] f fd)(zO:zk K mg "around" jG ["board","cell"] f1 aa)(zq:zk K mg "sign_at" qG ["board","cell"] f2 ab)(zC:zk K mg "cells_of" qF ["board"] f3 ac)
  (jS:zk K mg "closed" ZI ["board"] f4 ae) (zZ:zk K mg "number_at" ju ["board","cell"] f5 af) (zF:zk K mg "closed_around" qJ ["board","cell"] f6 ag):zY P w K mg base CX0 3 f fd ["board","thing"] zfB:=by
 refine D.F.ok zhc (λvs H Q E h=>?_) (λan A aj s H vs Q E U h=>?_)
 .revert h;refine dg λp l J n=>dF λv th=>c8 λz0 _=>?_;subst z0;rfl
 .revert h;refine dg λp l J n=>dF λv th=>dh λz0 b R O ah q=>?_;subst z0;refine⟨_,(ze (qW (jh (Jy U.units) (pv 1) (Jf (v:=.str "all") (by rfl) T.zpI.choose_spec (by exact⟨_,rfl⟩)) (qb _)) (zh (zB (qu (za (zG qP (pv 0) zf (λ_ _=>rfl)) (za (pc0 (zez T jS zC zq) U jS (za (pv 0) zd)) zd))))) qd) (zh (zB (qu (za (pc0 (Yp T zZ zq) U zZ (za (pv 0) (za (pv 1) zd))) (za (pc0 (jZ T zF zO zq) U zF (za (pv 0) (za (pv 1) zd))) zd)))))),?_⟩;(try dsimp only[cxK,cxP,cxW]);cases th with
  | none =>
   have ev:v=V.str "all":=O;subst ev;refine cD rfl (cE (.str "all") (.str "all") (cL (.str _) (.str _) ⟨by decide+kernel,by decide+kernel,by decide+kernel⟩ (cD rfl (j6 (by decide+kernel) ?_))));refine cN rfl p 1 rfl rfl (SqT.of b.tp) rfl (cD rfl (cF p l J n (cL rfl b R (λd ws H1 hd B m s1=>⟨j9,λt M=>?_⟩))));have I:=zc (o:=.tup [.int n,.ref d]) M;exact q t d ws _ (s1.free M) hd zb (I _ _ B) (m.mono I) (s1.trans I)
  | some c =>
   obtain⟨Y,rfl,r⟩:=O;have hc:=ah c rfl;obtain⟨t0,k,G,hk,ai,L,am⟩:=R.openAt hc;obtain⟨k1,k2⟩:=zbp L ai;obtain⟨ak,al⟩:=yq R G hk;have es:Cells.sgn (codes J) c=k:=Cells.zcV (jY G) hk;refine cD rfl (cE (zm c) (.str "all") (cL (yQ.rdv ⟨Y,rfl,r⟩) (.str _) ⟨rfl,by decide+kernel,by show max 0 (max 0 0)+1<=64;decide⟩ (cD rfl (jk rfl ?_))));refine cZ rfl rfl (cF p l Y J (cF n c.1 c.2 t0 (c6 k rfl b r G hk am k1 k2 (cZ rfl rfl (cF p l Y J (cE n c (cU rfl b R r (cQ ak al (λd ws H1 hd B m s1=>⟨j9,λt M=>?_⟩)))))))));have I:=zc (o:=.tup [.int ((k:Int)-48),.ref d]) M;refine q t d ws _ (s1.free M) hd ?_ (I _ _ B) (m.mono I) (s1.trans I);rw[zb];show some (HO.tup [.int ((k:Int)-48),.ref d])=some (.tup [.int (((Cells.sgn (codes J) c:Nat):Int)-48),.ref d]);rw[es]
def xh:zE ["regions","clears","stones","cells","least","most"] ["regions"] (zp ZK):=bh
def ziB (T:Txt mg)(D:zk K mg "settled" ZK ["regions"] f fd):zY P w K mg base CX0 1 f fd ["regions"] zln:=by
 refine D.F.ok xh (λvs H Q E h=>?_) (λaA A a4 s H vs Q E hr h=>?_)
 .obtain⟨r,us,m,rfl,_⟩:=h;rfl
 .revert h;refine dO λr us m=>dh λz0 ar al an U q=>?_;subst z0;have lc:∀i,(zP (m.take i)).length<64:=λi=>XJ (XY (jd (m.take i)).length_le (by
   have:m=m.take i++m.drop i:=(WU i m).symm;conv=>rhs;rw[this,Wd,X6]
   exact Vl _ _)) U
  have ls:∀i,(zQ (m.take i)).length<64:=λi=>XJ (XY (je (m.take i)).length_le (by
   have:m=m.take i++m.drop i:=(WU i m).symm;conv=>rhs;rw[this,Wd,X6]
   exact Vl _ _)) U
  have lg:∀{g:Rg},g∈m->g.1.length<64:=λ{g} hg=>XJ (by
   obtain⟨i,hi⟩:=TX hg;obtain⟨hl,e⟩:=XV.mp hi;have e1:m=m.take i++g::m.drop (i+1):=by
    rw[<- e,List.getElem_cons_drop,WU]
   rw[e1,Wd,VX,X6,X6];lia) U
  refine⟨_,(@ze _ _ _ _ _ (@qx _ _ 1 _ _ _ _ xh.nd rfl (VU rfl) (@zR _ _ _ _ zd) (by rfl) (.inr rfl)) (@ze _ _ _ _ _ (@qx _ _ 2 _ _ _ _ xh.nd rfl (VU rfl) (@zR _ _ _ _ zd) (by rfl) (.inr rfl)) (ze (qz Xd rfl (zJ (pv 0)) (xW rfl (zW (pgq 3 xh.nd) (zW (pgq 4 xh.nd) (zW (pgq 5 xh.nd) jV)))) (zfb (qW (jh YH (pv 5) zf (qb _)) (zh (qV (yV W7 Vh Vg Qu (pv 1) (za (pv 3) zd)))) qd) (zh (qW (jh YH (pv 4) (pb1 qi T.qT Xa (pv 3)) (qb _)) (zh (qV (yV W7 Vh Vg Qu (pv 2) (za (pv 3) zd)))) qd)))) (zh (zB (qu (za (pb1 GS.jJ T.yP Wm (pv 1)) (za (pb1 GS.jJ T.yP Wm (pv 2)) zd)))))))),?_⟩;(try dsimp only[cxK,cxP,cxW]);refine⟨yU,λL af=>⟨yU,λd2 ag=>?_⟩⟩;have z1:=zc (o:=.lst []) af;have z2:=zc (o:=.lst []) ag;have au:L≠d2:=zj (show upd H L (.lst []) L=some (.lst []) from zb) ag;have f2:=z1.free ag;have s0:=z1.trans z2;refine cS rfl r (cQ rfl ⟨_,SqL.of (s0 _ _ ar)⟩ ?_);refine j7 (K:=K) (a:=r) (xs:=us) (λi σ I=>∃(v3 v4 v5:Option V) (w1 w2:AE),σ=[some (.ref r),some (.ref L),some (.ref d2),v3,v4,v5]/\zo H I/\I L=some (.lst w1)/\I d2=some (.lst w2)/\Cel I w1 (zP (m.take i))/\Cel I w2 (zQ (m.take i)))
   ⟨_,_,_,[],[],rfl,s0,z2 _ _ zb,zb,.nil,.nil⟩ (λi σ I _ ⟨_,_,_,_,_,_,s',_⟩=>SqL.of (s' _ _ ar)) ?_ ?_
  .refine λi x σ H1 hx=>dQ λv3 v4 v5 w1 w2=>dh λz0 s1 h1 h2 B M=>?_;subst z0;refine dR (λg hg t l ws=>dz λz0 ax ah ak=>?_) (zhb.get al hx);subst z0;have ht:=s1 _ _ ax;have hl:=s1 _ _ ah;have ab:=ak.mono s1;have a3:l≠L:=zj ah af;have aC:l≠d2:=zj ah f2;have gm:=X4 hg;have aB:=lg gm;have e1:zP (m.take (i+1))=zP (m.take i)++(if g.2.2=0 then g.1 else []):=zeN _ hg;have e2:zQ (m.take (i+1))=zQ (m.take i)++(if g.2.1=((g.1.length:Nat):Int) then g.1 else []):=zeN _ hg;have a8:=lc i;have a9:=ls i;refine cT t rfl (SqT.of ht) ⟨rfl,_,(cD rfl ⟨_,(cJ rfl rfl rfl ?_)⟩)⟩;refine⟨fun aw I=>∃(aa:AE),aw=[some (.ref r),some (.ref L),some (.ref d2),some (.ref l),some (.int g.2.1),some (.int g.2.2)]/\zo H I/\I L=some (.lst aa)/\I d2=some (.lst w2)/\Cel I aa (zP (m.take (i+1)))/\Cel I w2 (zQ (m.take i))/\I l=some (.lst ws)/\Cel I ws g.1,?_,?_⟩
   .refine cH rfl rfl (cD rfl (zcA (λhp=>?_) (λhp=>?_)))
    .have G:g.2.2=0:=V.int.inj (bg hp);rw[bw G]at e1;refine cH rfl (.inl ⟨rfl,_,SqL.of h1⟩) (cD rfl (cF L l w1 ws (cM rfl rfl h1 hl ?_ (cK (w1++ws) rfl (λb o e=>?_) zb ?_ (cL ?_ (Cel.into L _ h1 M) ?_ (Cel.into L _ h1 ab))))))
     .rw[B.length,ab.length];exact XY (show _<=200 by lia) (by decide)
     .rw[zg (zj e af)];exact s1 _ _ e
     .rw[zg (Vc au)];exact h2
     .rw[e1];exact Cel.into L _ h1 (Cel.append B ab)
     .rw[zg a3];exact hl
    .have G:¬ g.2.2=0:=λz=>hp (br (by rw[z]));rw[bq G,Xx]at e1;exact cK w1 rfl s1 h1 h2 (cL (by rw[e1];exact B) M hl ab)
   .refine λaw H2=>dG λaa=>dD λz0 s2 ai O=>dz λac Y am J=>?_;subst z0;refine cD rfl (cW rfl l rfl (.inl (SqL.of am)) ⟨rfl,(cD rfl (zcA (λhp=>?_) (λhp=>?_)))⟩)
    .have G:g.2.1=((g.1.length:Nat):Int):=by
      have:=V.int.inj (bg hp);rw[J.length]at this;exact this
     rw[bw G]at e2;refine cH rfl (.inl ⟨rfl,_,SqL.of O⟩) (cD rfl (cF d2 l w2 ws (cM rfl rfl O am ?_ (cG ⟨_,(cE aa (w2++ws) (cM rfl (λb o e=>?_) ?_ zb (Cel.into d2 _ O ac) ?_))⟩))))
     .rw[Y.length,J.length];exact XY (show _<=200 by lia) (by decide)
     .rw[zg (zj e f2)];exact s2 _ _ e
     .rw[zg au];exact ai
     .rw[e2];exact Cel.into d2 _ O (Cel.append Y J)
    .have G:¬ g.2.1=((g.1.length:Nat):Int):=λz=>hp (br (by rw[z,J.length]));rw[bq G,Xx]at e2;exact cG ⟨_,(cE aa w2 (cM rfl s2 ai O ac (by rw[e2];exact Y)))⟩
  .refine λσ H1=>dQ λv3 v4 v5 w1 w2=>dh λz0 s1 h1 h2 B M=>?_;subst z0;have gl:us.length=m.length:=Paired.length al;rw[gl,XE]at B M;have n1:(zP m).Nodup:=an.sublist (jd m);have n2:(zQ m).Nodup:=an.sublist (je m);have m1:(zP m).length<64:=XJ (jd m).length_le U;have m2:(zQ m).length<64:=XJ (je m).length_le U;refine cD rfl (cE L w1 (cH rfl (SqL.of h1) (cQ (Cel.tup2 B) (by rw[B.length];lia) (λa1 u1 p1 aj ay a6 a7=>?_))));obtain⟨q1,rfl,ao⟩:=Yr a6;have z3:=zc (o:=.lst u1) aj;refine cD rfl (cE d2 w2 (cH rfl (SqL.of (z3 _ _ h2)) (cQ (Cel.tup2 (M.mono z3)) (by rw[M.length];lia) (λa2 u2 p2 ae az a5 as=>?_))));obtain⟨q2,rfl,aq⟩:=Yr a5;have z4:=zc (o:=.lst u2) ae;have na:a1≠a2:=zj (show upd H1 a1 (.lst u1) a1=some (.lst u1) from zb) ae;refine⟨j9,λt ht=>?_⟩;have z5:=zc (o:=.tup [.ref a1,.ref a2]) ht;have av:=(s1.trans z3).trans z4;exact q t a1 a2 u1 u2 q1 q2 _ (av.free ht) (s1.free aj) ((s1.trans z3).free ae) na zb (z5 _ _ (z4 _ _ zb)) (z5 _ _ zb) (Cel.mono ((z3.trans z4).trans z5) (qO ay)) (Cel.mono (z4.trans z5) (qO az)) ao aq (zdm (ao.nodup_iff.mpr n1) a7) (zdm (aq.nodup_iff.mpr n2) as) (av.trans z5)
def Yz (A B:AB)(a b:Int):Int:=mx3 0 (a-((Two.alone A B).length:Nat)) (b-((Two.alone B A).length:Nat))
def YA (A B:AB)(a b:Int):Int:=mn3 ((Two.both A B).length:Nat) a b
def zhd (A B:AB)(a b:Int):List Rg:=[(Two.both A B,Yz A B a b,YA A B a b),(Two.alone A B,a-YA A B a b,a-Yz A B a b),(Two.alone B A,b-YA A B a b,b-Yz A B a b)]
abbrev Ak:=Int×AB
def AkV (H:Hp)(v:V)(k:Ak):Prop:=∃(t l:Addr) (m:AE),v=V.ref t/\H t=some (.tup [.int k.1,.ref l])/\H l=some (.lst m)/\Cel H m k.2
def ak1 (ks:List Ak):Ak:=ks.getD 0 (0,[])
def ak2 (ks:List Ak):Ak:=ks.getD 1 (0,[])
def gsU (ks:List Ak):List Rg:=zhd (ak1 ks).2 (ak2 ks).2 (ak1 ks).1 (ak2 ks).1
def znf (ks:List Ak):Prop:=Yz (ak1 ks).2 (ak2 ks).2 (ak1 ks).1 (ak2 ks).1<=YA (ak1 ks).2 (ak2 ks).2 (ak1 ks).1 (ak2 ks).1
def zbz (C:Addr):Sp:=λvs H Q E=>∃(B:Addr) (D:AE) (r:List Ak),vs=[.ref B]/\H B=some (.lst D)/\XG (AkV H) D r/\(r.length=1\/r.length=2)/\(∀k∈r,k.2.Nodup/\k.2.length<=20) /\
 (znf r->∀(t s w:Addr) (G I:AE) (c1 A:AB) (m:Hp),H s=none->H w=none->s≠w->m t=some (.tup [.ref s,.ref w])->m s=some (.lst G)->m w=some (.lst I)->Cel m G c1->Cel m I A->c1.Perm (zP (gsU r))->A.Perm (zQ (gsU r))->c1.Pairwise Cells.lex->A.Pairwise Cells.lex->zo H m->Q (.ref t) m) /\
 (¬ znf r->∀m,zo H m->E (.ref C) none m)
def zo1 (A B:AB):(A.filter λc=>!decide (c∈Two.both A B))=Two.alone A B:=by
 unfold Two.alone Two.both;refine VY λx hx=>?_;congr 1;rw[decide_eq_decide,X8,bu];exact⟨λh=>h.2,λh=>⟨hx,h⟩⟩
def zng (A B:AB):(B.filter λc=>!decide (c∈Two.both A B))=Two.alone B A:=by
 unfold Two.alone Two.both;refine VY λx hx=>?_;congr 1;rw[decide_eq_decide,X8,bu];exact⟨λh=>h.1,λh=>⟨h,hx⟩⟩
def zjK (m:AB)(c:AA):(m.any λz=>decide (z=c))=decide (c∈m):=by
 rw[WN,WL,bu];constructor
 .rintro⟨x,h1,h2⟩;have e:x=c:=bg h2;rw[<- e];exact h1
 .intro h;exact⟨c,h,br rfl⟩
def zbA {K:XW}{H:Hp}{vs:AE}{m:AB}(r:Cel H vs m):yH K H vs (m.map zm):=by
 induction r with
 | nil=>exact .nil
 | cons h _ s=>exact .cons (yQ.rdv h) s
def zpO (g:AB)(c:AA):(if false=true then !(g.map zm).any (λz=>WQ z (zm c)) else (g.map zm).any λz=>WQ z (zm c))=decide (c∈g):=(xO _ _).trans (zjK _ _)
def zhe (g:AB)(c:AA):(if true=true then !(g.map zm).any (λz=>WQ z (zm c)) else (g.map zm).any λz=>WQ z (zm c))=!decide (c∈g):=congrArg (λb=>!b) ((xO _ _).trans (zjK _ _))
def zs1 {A:Hp->Addr->Prop}{G:Hp->Addr->Prop}{R:Prop}(k:∀H t,A H t->G H t)(h:(∀H t,A H t->G H t)->R):R:=h k
def yw:zE ["asked","one","other","both","one_alone","other_alone","least","most"] ["asked"] (zp zaN):=bh
def zeO {f1:Addr}{aE:XF}(T:Txt mg)(aQ:J6 K mg "NoLaying" jaa)(D:zk K mg "gained" zaN ["asked"] f fd)(Jw:zk K mg "settled" ZK ["regions"] f1 aE):zY P w K mg base (CXE P w) 2 f fd ["asked"] (zbz jaa):=by
 refine D.F.okX yw (λvs H Q E h=>?_) (λaU A aR s H vs Q E hr h=>?_)
 .obtain⟨la,ls,ks,rfl,_⟩:=h;rfl
 .revert h;refine dB λla ls ks z0 ae hP a5=>c9 λa6 q0 e0=>?_;subst z0;refine⟨_,(ze (qR 1 yw.nd (zG jj (pv 0) zf (λ_ _=>rfl))) (ze (qR 2 yw.nd (zlC (jh YH (pb1 qi T.qT Xa (pv 0)) zf (qb _)) (zG jj (pv 0) zf (λ_ _=>rfl)) (@qu _ _ _ _ _ (@za _ _ _ _ _ zf (@za _ _ _ _ _ (@zR _ _ _ _ zd) zd rfl) rfl)))) (ze (qR 3 yw.nd (pcm ["cell","other"] [none,some 2] cR (zJ (zG qP (pv 1) zf (λ_ _=>rfl))) (pgN 0) (qI (jh (jN (K:=K) (by rfl) hr.units) (pv 0) (zG (zn6 (K:=K) (by rfl)) (pv 1) zf (λ_ _=>rfl)) (by rfl))) (pv 0))) (ze (psC 4 yw.nd ["cell","both"] [none,some 3] cR (zJ (zG qP (pv 1) zf (λ_ _=>rfl))) (pgN 0) (qI (jh (YT (K:=K) (by rfl) hr.units) (pv 0) (pv 1) (by rfl))) (pv 0)) (ze (psC 5 yw.nd ["cell","both"] [none,some 3] cR (zJ (zG qP (pv 2) zf (λ_ _=>rfl))) (pgN 0) (qI (jh (YT (K:=K) (by rfl) hr.units) (pv 0) (pv 1) (by rfl))) (pv 0)) (ze (qR 6 yw.nd (yG (zkE rfl) (by rfl) T.zgM UK (@za _ _ _ _ _ zf (za (zx Zn (zG qP (pv 1) zf (λ_ _=>rfl)) (pb1 qi T.qT Xa (pv 4))) (za (zx Zn (zG qP (pv 2) zf (λ_ _=>rfl)) (pb1 qi T.qT Xa (pv 5))) zd)) rfl))) (ze (qR 7 yw.nd (yG (zkF rfl) (by rfl) T.zex Vp (za (pb1 qi T.qT Xa (pv 3)) (za (zG qP (pv 1) zf (λ_ _=>rfl)) (za (zG qP (pv 2) zf (λ_ _=>rfl)) zd))))) (ze (qW (jh zpr (pv 6) (pv 7) (qb _)) (zh (zcF jI aQ (by rfl) rfl (@za _ _ _ _ _ jx zd rfl))) qd) (zh (zB (pc0 (ziB T Jw) hr Jw (za (zR (za (qu (za (pv 3) (za (pv 6) (za (pv 7) zd)))) (za (qu (za (pv 4) (za (zx Zn (zG qP (pv 1) zf (λ_ _=>rfl)) (pv 7)) (za (zx Zn (zG qP (pv 1) zf (λ_ _=>rfl)) (pv 6)) zd)))) (za (qu (za (pv 5) (za (zx Zn (zG qP (pv 2) zf (λ_ _=>rfl)) (pv 7)) (za (zx Zn (zG qP (pv 2) zf (λ_ _=>rfl)) (pv 6)) zd)))) zd)))) zd)))))))))))),?_⟩;(try dsimp only[cxK,cxP,cxW]);refine GS.via λGG ab=>?_;obtain⟨r,l1,us,a,A,ar,ao,a3,nA,lA,af⟩:∃(r l1:Addr) (us:AE) (a:Int) (A:AB),H r=some (.tup [.int a,.ref l1])/\H l1=some (.lst us)/\Cel H us A/\A.Nodup/\A.length<=20/\((ls=[.ref r]/\ks=[(a,A)])\/∃(m l2:Addr) (ws:AE) (b:Int) (B:AB),ls=[.ref r,.ref m]/\ks=[(a,A),(b,B)]/\H m=some (.tup [.int b,.ref l2])/\H l2=some (.lst ws)/\Cel H ws B/\B.Nodup/\B.length<=20):=by
   cases hP with
   | nil=>rcases a5 with h | h<;>cases h
   | cons x xs =>
    obtain⟨r,l1,us,rfl,h1,h2,h3⟩:=x;have n1:=a6 _ X5;refine cE r l1 ⟨us,(cI h1 h2 (cL h3 n1.1 n1.2 ?_))⟩;cases xs with
    | nil=>exact .inl ⟨rfl,rfl⟩
    | cons y ys =>
     obtain⟨m,l2,ws,rfl,g1,g2,g3⟩:=y;cases ys with
     | nil =>
      have n2:=a6 _ (Y1 _ X5);exact .inr ⟨m,l2,ws,_,_,rfl,rfl,g1,g2,g3,n2.1,n2.2⟩
     | cons z zs =>
      rcases a5 with h | h<;>simp at h
  refine ab ?_;clear ab GG;have a8:atI ls 0=some (.ref r):=by
   rcases af with ⟨rfl,_⟩ | ⟨_,_,_,_,_,rfl,_⟩<;>rfl
  refine cS rfl la (cG (cK (.ref r) rfl rfl (SqL.of ae) a8 ?_));refine' zs1 (A:=λ(H:Hp) (m:Addr)=>∃(l2:Addr) (b:Int) (ws:AE) (B:AB),H r=some (.tup [.int a,.ref l1])/\H l1=some (.lst us)/\Cel H us A/\H m=some (.tup [.int b,.ref l2])/\H l2=some (.lst ws)/\Cel H ws B/\B.Nodup/\B.length<=20/\(Yz A B a b<=YA A B a b->∀(t d1 d2:Addr) (w1 w2:AE) (c1 c2:AB) (G:Hp),H d1=none->H d2=none->d1≠d2->G t=some (.tup [.ref d1,.ref d2])->G d1=some (.lst w1)->G d2=some (.lst w2)->Cel G w1 c1->Cel G w2 c2->c1.Perm (zP (zhd A B a b))->c2.Perm (zQ (zhd A B a b))->c1.Pairwise Cells.lex->c2.Pairwise Cells.lex->zo H G->Q (.ref t) G)/\(YA A B a b<Yz A B a b->∀G,zo H G->E (.ref jaa) none G)) ?rest (λaC=>?tail)
  case tail =>
   have ax:=af
   rcases ax with ⟨au,as⟩ | ⟨m,l2,ws,b,B,au,as,I,ac,hB,nB,lB⟩
   .have M:H la=some (.lst [.ref r]):=by rw[<- au];exact ae
    have q1:=q0;have x1:=e0;rw[as]at q1 x1;refine cW rfl la rfl (.inl (SqL.of M)) ⟨rfl,(cD rfl (jk (by show decide (V.int ((1:Nat):Int)=V.int 2)=false;decide) ⟨yU,λe1 aI=>⟨j9,λm I=>?_⟩⟩))⟩;have z1:=zc (o:=.lst []) aI;have z2:=zc (o:=.tup [.int 0,.ref e1]) I;have s2:=z1.trans z2;have aw:upd (upd H e1 (.lst [])) m (.tup [.int 0,.ref e1]) e1=some (.lst []):=z2 _ _ zb;have ag:upd (upd H e1 (.lst [])) m (.tup [.int 0,.ref e1]) m=some (.tup [.int 0,.ref e1]):=zb;clear z1 z2;revert s2 aw ag;generalize upd (upd H e1 (.lst [])) m (.tup [.int 0,.ref e1])=H2;intro s2 aw ag;exact aC H2 m (cF e1 0 [] [] (cU (s2 _ _ ar) (s2 _ _ ao) (a3.mono s2) ag (cM aw (.nil) Vf (by decide) (λh t d1 d2 w1 w2 c1 c2 G f1 f2 f3 g1 g2 g3 g4 g5 g6 g7 g8 g9 s'=>q1 h t d1 d2 w1 w2 c1 c2 G (s2.free f1) (s2.free f2) f3 g1 g2 g3 g4 g5 g6 g7 g8 g9 (s2.trans s')) (λh G s'=>x1 (λz=>absurd z (Int.not_le.mpr h)) G (s2.trans s')))))
   .have M:H la=some (.lst [.ref r,.ref m]):=by rw[<- au];exact ae
    have q1:=q0;have x1:=e0;rw[as]at q1 x1;refine cW rfl la rfl (.inl (SqL.of M)) ⟨rfl,(cD rfl (j6 (by show decide (V.int ((2:Nat):Int)=V.int 2)=true;decide) (cS rfl la (cG (cK (.ref m) rfl rfl (SqL.of M) rfl ?_)))))⟩;exact aC H m (cF l2 b ws B (cU ar ao a3 I (cM ac hB nB lB q1 (λh G s'=>x1 (λz=>absurd z (Int.not_le.mpr h)) G s'))))
  intro H m hh;refine GS.via λGG ab=>?_;revert hh;refine dM λl2 b ws B ay aj hA I=>dh λac hB nB lB q e=>?_;refine ab ?_;clear ab GG;refine cN rfl r 1 rfl rfl (SqT.of ay) rfl (c5 l1 rfl ⟨_,SqL.of aj⟩ (λz hz=>?_));refine ql (K:=K) (a:=l1) (xs:=us) (λa=>a≠z) (A.map λc=>if decide (c∈B)=true then some (zm c) else none) (fun σ=>∃u0,σ=[u0,some (.ref m)]) hz (λ_ h=>h) ⟨_,rfl⟩ (by rw[ZB];exact hA.length.symm) (by rw[hA.length];exact XY lA (by decide)) (SqL.of aj) ?_ ?_
  .rintro k x o σ H4 hx ho s4 _ ⟨u0,rfl⟩ Y Z ai no;obtain⟨c,hc,rc⟩:=Cel.get (Cel.mono s4 hA) hx;have L:=jL hc ho;refine cD rfl (cN rfl m 1 rfl rfl (SqT.of (s4 _ _ I)) rfl (cE (zm c) (B.map zm) (cM rc.rdv (.lst (SqL.of (s4 _ _ ac)) (zbA (hB.mono s4))) rfl (YM _) (by show 1<=60;decide) (cD rfl ?_))));rw[zpO];by_cases O:decide (c∈B)=true
   .rw[bw O]at L;exact j6 O ⟨_,rfl,ai _ _ _ _ L ⟨_,rfl⟩ (zo.refl _) rc.rdn⟩
   .rw[bq O]at L;exact jk (Xk.mpr O) (no _ _ L ⟨_,rfl⟩ (zo.refl _))
  rintro yb H3 s3 az ak;rw[qf]at ak;have av:Cel H3 yb (Two.both A B):=zu.cel ak;refine cN rfl r 1 rfl rfl (SqT.of (s3 _ _ ay)) rfl (c5 l1 rfl ⟨_,SqL.of (s3 _ _ aj)⟩ (λo1 aK=>?_));refine ql (K:=K) (a:=l1) (xs:=us) (λa=>a≠o1) (A.map λc=>if (!decide (c∈Two.both A B))=true then some (zm c) else none) (fun σ=>∃u0,σ=[u0,some (.ref z)]) aK (λ_ h=>h) ⟨_,rfl⟩ (by rw[ZB];exact hA.length.symm) (by rw[hA.length];exact XY lA (by decide)) (SqL.of (s3 _ _ aj)) ?_ ?_
  .rintro k x o σ H4 hx ho s4 _ ⟨u0,rfl⟩ Y Z ai no;obtain⟨c,hc,rc⟩:=Cel.get (Cel.mono (s3.trans s4) hA) hx;have L:=jL hc ho;refine cZ rfl rfl (cE (zm c) ((Two.both A B).map zm) (cM rc.rdv (.lst (SqL.of (s4 _ _ az)) (zbA (av.mono s4))) rfl (YM _) (by show 1<=60;decide) (cD rfl ?_)));rw[zhe];by_cases O:(!decide (c∈Two.both A B))=true
   .rw[bw O]at L;exact j6 O ⟨_,rfl,ai _ _ _ _ L ⟨_,rfl⟩ (zo.refl _) rc.rdn⟩
   .rw[bq O]at L;exact jk (Xk.mpr O) (no _ _ L ⟨_,rfl⟩ (zo.refl _))
  rintro yo H4 s4 aN a9;rw[qf,zo1]at a9;have aF:Cel H4 yo (Two.alone A B):=zu.cel a9;have ah:=s3.trans s4;refine cN rfl m 1 rfl rfl (SqT.of (ah _ _ I)) rfl (c5 l2 rfl ⟨_,SqL.of (ah _ _ ac)⟩ (λo2 aM=>?_));refine ql (K:=K) (a:=l2) (xs:=ws) (λa=>a≠o2) (B.map λc=>if (!decide (c∈Two.both A B))=true then some (zm c) else none) (fun σ=>∃u0,σ=[u0,some (.ref z)]) aM (λ_ h=>h) ⟨_,rfl⟩ (by rw[ZB];exact hB.length.symm) (by rw[hB.length];exact XY lB (by decide)) (SqL.of (ah _ _ ac)) ?_ ?_
  .rintro k x o σ H5 hx ho s5 _ ⟨u0,rfl⟩ Y Z ai no;obtain⟨c,hc,rc⟩:=Cel.get (Cel.mono (ah.trans s5) hB) hx;have L:=jL hc ho;refine cZ rfl rfl (cE (zm c) ((Two.both A B).map zm) (cM rc.rdv (.lst (SqL.of (s5 _ _ (s4 _ _ az))) (zbA (av.mono (s4.trans s5)))) rfl (YM _) (by show 1<=60;decide) (cD rfl ?_)));rw[zhe];by_cases O:(!decide (c∈Two.both A B))=true
   .rw[bw O]at L;exact j6 O ⟨_,rfl,ai _ _ _ _ L ⟨_,rfl⟩ (zo.refl _) rc.rdn⟩
   .rw[bq O]at L;exact jk (Xk.mpr O) (no _ _ L ⟨_,rfl⟩ (zo.refl _))
  rintro y2 H5 s5 a7 aA;rw[qf,zng]at aA;have a4:Cel H5 y2 (Two.alone B A):=zu.cel aA;have al:=ah.trans s5;have aq:=s5 _ _ aN;have aB:=s5 _ _ (s4 _ _ az);have am:=av.mono (s4.trans s5);have aa:=al _ _ I;have U:=al _ _ ay;have an:=aF.mono s5;refine cN rfl r 0 rfl rfl (SqT.of U) rfl (cW rfl o1 rfl (.inl (SqL.of aq)) (cI rfl rfl (cN rfl m 0 rfl rfl (SqT.of aa) rfl (cW rfl o2 rfl (.inl (SqL.of a7)) (cI rfl rfl (cG (cD rfl ?_)))))));refine cW rfl z rfl (.inl (SqL.of aB)) (cN rfl r 0 rfl rfl (SqT.of U) rfl (cN rfl m 0 rfl rfl (SqT.of aa) rfl (cG (cD rfl ?_))));refine cD rfl (cJ rfl rfl rfl (cD rfl ?_));have eL:mx3 0 (a-((yo.length:Nat):Int)) (b-((y2.length:Nat):Int))=Yz A B a b:=by
   unfold Yz;rw[an.length,a4.length]
  have eM:mn3 ((yb.length:Nat):Int) a b=YA A B a b:=by
   unfold YA;rw[am.length]
  rw[eL,eM];by_cases hg:Yz A B a b<=YA A B a b
  .refine jk (bf (by lia)) ?_;have q':=q hg;unfold zhd at q';generalize Yz A B a b=lo at *
   generalize YA A B a b=hi at *
   refine cZ rfl rfl (cH rfl zgE (λr1 aO=>?_));have y1:=zc (o:=.tup [.ref z,.int lo,.int hi]) aO;have x1:upd H5 r1 (.tup [.ref z,.int lo,.int hi]) r1=some (.tup [.ref z,.int lo,.int hi]):=zb;refine cD rfl (cN rfl r 0 rfl rfl (SqT.of (y1 _ _ U)) rfl (cJ rfl rfl rfl (cN rfl r 0 rfl rfl (SqT.of (y1 _ _ U)) rfl (cX rfl rfl rfl zgE (λr2 ax=>?_)))));have aD:=zc (o:=.tup [.ref o1,.int (a-hi),.int (a-lo)]) ax;have a1:=y1.trans aD;refine cD rfl (cN rfl m 0 rfl rfl (SqT.of (a1 _ _ aa)) rfl (cJ rfl rfl rfl (cN rfl m 0 rfl rfl (SqT.of (a1 _ _ aa)) rfl (cX rfl rfl rfl zgE (λr3 ak=>⟨zgE,λrl aP=>?_⟩)))));have y3:=zc (o:=.tup [.ref o2,.int (b-hi),.int (b-lo)]) ak;have y4:=zc (o:=.lst [.ref r1,.ref r2,.ref r3]) aP;have a2:=y3.trans y4;have J:=a1.trans a2;have mB:∀{x:AA},x∈Two.both A B->x∈A/\x∈B:=λh=>⟨(X8.mp h).1,bg (X8.mp h).2⟩;have mA:∀{x:AA} {A B:AB},x∈Two.alone A B->x∈A/\x ∉ B:=λ{x A B} h=>⟨(X8.mp h).1,by
    have:=(X8.mp h).2;simpa using this⟩
   have aV:(Two.both A B).length<=20:=XY (Xw _ _) lA;have aW:(Two.alone A B).length<=20:=XY (Xw _ _) lA;have aX:(Two.alone B A).length<=20:=XY (Xw _ _) lB;refine⟨rl,_,(cK [(Two.both A B,lo,hi),(Two.alone A B,a-hi,a-lo),(Two.alone B A,b-hi,b-lo)] rfl zb (.cons (cE r1 z ⟨yb,(cL rfl (a2 _ _ (aD _ _ x1)) (J _ _ aB) (am.mono J))⟩) (.cons (cE r2 o1 ⟨yo,(cL rfl (a2 _ _ zb) (J _ _ aq) (an.mono J))⟩) (.cons (cE r3 o2 ⟨y2,(cL rfl (y4 _ _ zb) (J _ _ a7) (a4.mono J))⟩) .nil))) ?_ ⟨?_,λt d1 d2 w1 w2 c1 c2 H6 ht aG aH aJ h1 h2 h3 k1 k2 p1 p2 aS aT s6=>?_⟩)⟩
   .show (Two.both A B++(Two.alone A B++(Two.alone B A++[]))).Nodup;rw[Xx,WX,WX];refine⟨Two.qc _ nA,⟨Two.qc _ nA,Two.qc _ nB,λx hx y hy e=>?_⟩,λx hx y hy e=>?_⟩
    .subst e;exact(mA hx).2 (mA hy).1
    .subst e;rcases XU.mp hy with hy | hy
     .exact(mA hy).2 (mB hx).2
     .exact(mA hy).2 (mB hx).1
   .show (Two.both A B++(Two.alone A B++(Two.alone B A++[]))).length<64;rw[Xx,X6,X6];lia
   .have sA:=al.trans J;exact q' t d1 d2 w1 w2 c1 c2 H6 (sA.free aG) (sA.free aH) aJ h1 h2 h3 k1 k2 p1 p2 aS aT (sA.trans s6)
  .exact j6 (br (by lia)) ⟨by decide,e (by lia) _ al⟩
def jU (cl st:AB)(k:Ak):Ak:=(k.1-(zaX st k.2).sum,zV cl st k.2)
structure zaY (cl st:AB)(k1 k2:Ak)(p:AA->Bool):Prop where
 no:∀c∈cl,p c=false
 ye:∀c∈st,p c=true
 c1:((k1.2.countP p:Nat):Int)=k1.1
 c2:((k2.2.countP p:Nat):Int)=k2.1
def Det (b:Bool)(cl st:AB)(k1 k2:Ak)(c:AA):Prop:=∀p,zaY cl st k1 k2 p->p c=b
def gsP (cl st:AB)(k1 k2:Ak):List Rg:=zhd (zV cl st k1.2) (zV cl st k2.2) (jU cl st k1).1 (jU cl st k2).1
theorem zbB {cl st:AB}{p:AA->Bool}(A:∀c∈cl,p c=false)(B:∀c∈st,p c=true):∀s:AB,((s.countP p:Nat):Int)=(zaX st s).sum+(((zV cl st s).countP p:Nat):Int)
 | []=>rfl
 | c::r=>by
  have G:=zbB A B r;have E:(zaX st (c::r)).sum=(if c∈st then 1 else 0)+(zaX st r).sum:=by
   show (((c::r).map _).sum:Int)=_;rw[Xu,OD];rfl
  have D:zV cl st (c::r)=if (!(decide (c∈st) || decide (c∈cl)))=true then c::zV cl st r else zV cl st r:=by
   unfold zV;rw[WB]
  rw[Wi,E,D];by_cases m:c∈st
  .rw[B c m,bw m,br m];show ((r.countP p+1:Nat):Int)=1+(zaX st r).sum+(((zV cl st r).countP p:Nat):Int);lia
  .rw[bq m,bf m];by_cases w:c∈cl
   .rw[A c w,br w];show ((r.countP p+0:Nat):Int)=0+(zaX st r).sum+(((zV cl st r).countP p:Nat):Int);lia
   .rw[bf w];show ((r.countP p+(if p c=true then 1 else 0):Nat):Int)=0+(zaX st r).sum+(((c::zV cl st r).countP p:Nat):Int);rw[Wi];lia
def zdn (A B:AB)(a b:Int):Two.Ends A B a b (Yz A B a b) (YA A B a b):=by
 unfold Yz YA mx3 mn3;refine⟨?_,?_,?_,?_,?_,?_,?_,?_⟩;all_goals
  repeat' split
  all_goals lia
def yg {cl st m:AB}{c:AA}:c∈zV cl st m↔c∈m/\c ∉ st/\c ∉ cl:=by
 unfold zV;rw[X8];simp
def zo2 {A B:AB}{a b:Int}{c:AA}:c∈zP (zhd A B a b)↔(c∈Two.both A B/\YA A B a b=0)\/(c∈Two.alone A B/\a-Yz A B a b=0)\/(c∈Two.alone B A/\b-Yz A B a b=0):=by
 show c∈(if YA A B a b=0 then Two.both A B else [])++((if a-Yz A B a b=0 then Two.alone A B else [])++((if b-Yz A B a b=0 then Two.alone B A else [])++[]))↔_;have e:∀(q:Prop) [Decidable q] (l:AB),c∈(if q then l else [])↔c∈l/\q:=λq _ l=>by
  by_cases h:q<;>simp[h]
 rw[Xx,XU,XU,e,e,e]
def zo3 {A B:AB}{a b:Int}{c:AA}:c∈zQ (zhd A B a b)↔(c∈Two.both A B/\Yz A B a b=(Two.both A B).length)\/(c∈Two.alone A B/\a-YA A B a b=(Two.alone A B).length)\/(c∈Two.alone B A/\b-YA A B a b=(Two.alone B A).length):=by
 show c∈(if Yz A B a b=_ then Two.both A B else [])++((if a-YA A B a b=_ then Two.alone A B else [])++((if b-YA A B a b=_ then Two.alone B A else [])++[]))↔_;have e:∀(q:Prop) [Decidable q] (l:AB),c∈(if q then l else [])↔c∈l/\q:=λq _ l=>by
  by_cases h:q<;>simp[h]
 rw[Xx,XU,XU,e,e,e]
structure InA (cs cl st:AB)(k1 k2:Ak):Prop where
 nd:cs.Nodup
 n1:k1.2.Nodup
 n2:k2.2.Nodup
 s1:∀c∈k1.2,c∈cs
 s2:∀c∈k2.2,c∈cs
 ap:∀c∈cl,c ∉ st
section
variable {cs cl st:AB}{k1 k2:Ak}
def InA.two (I:InA cs cl st k1 k2):Two.In cl st cs (zV cl st k1.2) (zV cl st k2.2) :=
 ⟨I.nd,I.n1.sublist Xm,I.n2.sublist Xm,λc h=>let z:=yg.mp h;⟨I.s1 c z.1,z.2⟩,λc h=>let z:=yg.mp h;⟨I.s2 c z.1,z.2⟩,I.ap⟩
def zaY.to (I:InA cs cl st k1 k2){p:AA->Bool}(h:zaY cl st k1 k2 p):Two.Fit cl st cs (zV cl st k1.2) (zV cl st k2.2) (jU cl st k1).1 (jU cl st k2).1 (cs.filter p):=by
 have m:∀k:Ak,(∀c∈k.2,c∈cs)->((k.2.countP p:Nat):Int)=k.1->((Two.cnt (zV cl st k.2) (cs.filter p):Nat):Int)=(jU cl st k).1:=λk hk e=>by
  have:=zbB h.no h.ye k.2;have r:Two.cnt (zV cl st k.2) (cs.filter p)=(zV cl st k.2).countP p:=by
   unfold Two.cnt;rw[Uc];congr 1;refine VY λc hc=>?_;rw[WN,bu,X8];exact⟨λz=>z.2,λz=>⟨hk c (yg.mp hc).1,z⟩⟩
  rw[r];show _=k.1-(zaX st k.2).sum;lia
 exact⟨Two.zmE p cs (λc _ z=>h.ye c z) (λc _ z=>h.no c z),m k1 I.s1 h.c1,m k2 I.s2 h.c2⟩
def zaY.of (I:InA cs cl st k1 k2){S:AB}(h:Two.Fit cl st cs (zV cl st k1.2) (zV cl st k2.2) (jU cl st k1).1 (jU cl st k2).1 S):zaY cl st k1 k2 λc=>decide (c∈S) || decide (c∈st):=by
 obtain⟨B,D,A⟩:=Two.zqW h.ch;have r:∀c∈cl,(decide (c∈S) || decide (c∈st))=false:=λc hc=>by
  rw[bf λz=>A c z hc,bf (I.ap c hc)];rfl
 have s:∀c∈st,(decide (c∈S) || decide (c∈st))=true:=λc hc=>by
  rw[br hc,Bool.or_true]
 have m:∀k:Ak,((Two.cnt (zV cl st k.2) S:Nat):Int)=(jU cl st k).1->((k.2.countP (λc=>decide (c∈S) || decide (c∈st)):Nat):Int)=k.1:=λk e=>by
  have w:Two.cnt (zV cl st k.2) S=(zV cl st k.2).countP λc=>decide (c∈S) || decide (c∈st):=by
   unfold Two.cnt;rw[Uc];congr 1;refine VY λc hc=>?_;rw[bf (yg.mp hc).2.1,OK]
  have:=zbB r s k.2;rw[w]at e;have e:_=k.1-(zaX st k.2).sum:=e;lia
 exact⟨r,s,m k1 h.fa,m k2 h.fb⟩
def zaZ (I:InA cs cl st k1 k2){p:AA->Bool}(h:zaY cl st k1 k2 p):Yz (zV cl st k1.2) (zV cl st k2.2) (jU cl st k1).1 (jU cl st k2).1<=YA (zV cl st k1.2) (zV cl st k2.2) (jU cl st k1).1 (jU cl st k2).1 :=
 (Two.zoJ I.two (zdn _ _ _ _)).mp ⟨_,h.to I⟩
def QK {c:AA}(I:InA cs cl st k1 k2)(h:c∈(gsP cl st k1 k2).flatMap λg=>g.1):(c∈k1.2\/c∈k2.2)/\c ∉ st/\c ∉ cl:=by
 have m:c∈Two.both (zV cl st k1.2) (zV cl st k2.2)++(Two.alone (zV cl st k1.2) (zV cl st k2.2)++(Two.alone (zV cl st k2.2) (zV cl st k1.2)++[])):=h;rw[Xx,XU,XU]at m;rcases m with h | h | h
 .have z:=yg.mp (X8.mp h).1;exact⟨.inl z.1,z.2⟩
 .have z:=yg.mp (X8.mp h).1;exact⟨.inl z.1,z.2⟩
 .have z:=yg.mp (X8.mp h).1;exact⟨.inr z.1,z.2⟩
def JL (I:InA cs cl st k1 k2){p:AA->Bool}(h:zaY cl st k1 k2 p){c:AA}:c∈zP (gsP cl st k1 k2)↔(c∈k1.2\/c∈k2.2)/\c ∉ st/\c ∉ cl/\Det false cl st k1 k2 c:=by
 have r:(c∈k1.2\/c∈k2.2)->c ∉ st->c ∉ cl->(c∈zP (gsP cl st k1 k2)↔Det false cl st k1 k2 c):=λhc w hl=>by
  have m:c∈cs:=hc.elim (I.s1 c) (I.s2 c);unfold gsP;rw[zo2,<- Two.zk4 I.two (zdn _ _ _ _) (zaZ I h) m w hl];constructor
  .intro z q hq;have:=z _ (hq.to I);rw[X8]at this;exact Xk.mpr λe=>this ⟨m,e⟩
  .intro z S s hm;have:=z _ (zaY.of I s);rw[br hm]at this;cases this
 constructor
 .intro z;obtain⟨a,b,d⟩:=QK I ((jd _).subset z);exact⟨a,b,d,(r a b d).mp z⟩
 .rintro⟨a,b,d,e⟩;exact(r a b d).mpr e
def JM (I:InA cs cl st k1 k2){p:AA->Bool}(h:zaY cl st k1 k2 p){c:AA}:c∈zQ (gsP cl st k1 k2)↔(c∈k1.2\/c∈k2.2)/\c ∉ st/\c ∉ cl/\Det true cl st k1 k2 c:=by
 have m:(c∈k1.2\/c∈k2.2)->c ∉ st->c ∉ cl->(c∈zQ (gsP cl st k1 k2)↔Det true cl st k1 k2 c):=λhc s hl=>by
  have r:c∈cs:=hc.elim (I.s1 c) (I.s2 c);unfold gsP;rw[zo3,<- Two.zk5 I.two (zdn _ _ _ _) (zaZ I h) r s hl];constructor
  .intro z q hq;exact(X8.mp (z _ (hq.to I))).2
  .intro z S w;have:=z _ (zaY.of I w);rw[bf s,OK]at this;exact bg this
 constructor
 .intro z;obtain⟨a,b,d⟩:=QK I ((je _).subset z);exact⟨a,b,d,(m a b d).mp z⟩
 .rintro⟨a,b,d,e⟩;exact(m a b d).mpr e
end
abbrev K0:Ak:=(0,[])
structure jr (As:List Ak)(L:AA->Bool)(cl st:AB):Prop where
 no:∀c∈cl,L c=false
 ye:∀c∈st,L c=true
 ct:∀k∈As,((k.2.countP L:Nat):Int)=k.1
def jr.fit {m:List Ak}{L:AA->Bool}{cl st:AB}(h:jr m L cl st){k1 k2:Ak}(r:k1∈m)(s:k2∈m\/k2=K0):zaY cl st k1 k2 L :=
 ⟨h.no,h.ye,h.ct k1 r,s.elim (h.ct k2) λe=>by rw[e];rfl⟩
def jr.ap {m:List Ak}{L:AA->Bool}{cl st:AB}(h:jr m L cl st):∀c∈cl,c ∉ st:=λc hc r=>by
 have:=h.ye c r;rw[h.no c hc]at this;cases this
def zeP (cl st:AB)(k1 k2:Ak):Prop:=∀c b,(c∈k1.2\/c∈k2.2)->c ∉ cl->c ∉ st->¬ Det b cl st k1 k2 c
def zrd (r:List Ak)(cl st:AB):Prop:=∀s∈r,∀m,(m∈r\/m=K0)->zeP cl st s m
def zdo (s:List Ak)(L:AA->Bool)(cl st:AB):Prop:=∀m r,jr s L m r->zrd s m r->(∀c∈cl,c∈m)/\∀c∈st,c∈r
def zhf (m:List Ak)(L:AA->Bool):zdo m L [] []:=λ_ _ _ _=>⟨(λ_ h=>nomatch h),λ_ h=>nomatch h⟩
def zlo {w:List Ak}{L:AA->Bool}{Y cl st c1 A:AB}{k1 k2:Ak}(h:jr w L cl st)(m:zdo w L cl st)(D:k1∈w)(E:k2∈w\/k2=K0)(I:InA Y cl st k1 k2)
  (e1:∀c∈c1,c∈zP (gsP cl st k1 k2)) (e2:∀c∈A,c∈zQ (gsP cl st k1 k2)):jr w L (cl++c1) (st++A)/\zdo w L (cl++c1) (st++A):=by
 have f:=h.fit D E;have J:∀c∈c1,(c∈k1.2\/c∈k2.2)/\c ∉ st/\c ∉ cl/\Det false cl st k1 k2 c:=λc hc=>(JL I f).mp (e1 c hc);have M:∀c∈A,(c∈k1.2\/c∈k2.2)/\c ∉ st/\c ∉ cl/\Det true cl st k1 k2 c:=λc hc=>(JM I f).mp (e2 c hc);refine⟨⟨λc hc=>?_,λc hc=>?_,h.ct⟩,λr s G B=>?_⟩
 .exact(XU.mp hc).elim (h.no c) λz=>(J c z).2.2.2 _ f
 .exact(XU.mp hc).elim (h.ye c) λz=>(M c z).2.2.2 _ f
 .obtain⟨O,U⟩:=m r s G B;have up:∀p,zaY r s k1 k2 p->zaY cl st k1 k2 p:=λp q=>⟨λc z=>q.no c (O c z),λc z=>q.ye c (U c z),q.c1,q.c2⟩;refine⟨λc hc=>(XU.mp hc).elim (O c) λz=>?_,λc hc=>(XU.mp hc).elim (U c) λz=>?_⟩
  .obtain⟨a,_,_,b⟩:=J c z;by_cases hz:c∈r
   .exact hz
   .refine absurd (λp q=>b p (up p q)) (B k1 D k2 E c false a hz λy=>?_);have:=G.ye c y;rw[b _ f]at this;cases this
  .obtain⟨a,_,_,b⟩:=M c z;by_cases hz:c∈s
   .exact hz
   .refine absurd (λp q=>b p (up p q)) (B k1 D k2 E c true a (λy=>?_) hz);have:=G.no c y;rw[b _ f]at this;cases this
def zo4 {m:List Ak}{L:AA->Bool}{w cl st:AB}{k1 k2:Ak}(h:jr m L cl st)(D:k1∈m)(E:k2∈m\/k2=K0)(I:InA w cl st k1 k2)(A:zP (gsP cl st k1 k2)=[])(B:zQ (gsP cl st k1 k2)=[]):zeP cl st k1 k2:=λc b hc hl s r=>by
 have f:=h.fit D E;cases b with
 | false =>
  have:=(JL I f).mpr ⟨hc,s,hl,r⟩;rw[A]at this;cases this
 | true =>
  have:=(JM I f).mpr ⟨hc,s,hl,r⟩;rw[B]at this;cases this
def znh {r:List Ak}{L:AA->Bool}{cl st:AB}{k1 k2:Ak}(h:jr r L cl st)(G:k1∈r)(I:k2∈r)(O:zeP cl st k1 K0)(U:zeP cl st k2 K0)(ap:∀c∈k1.2,c ∉ k2.2):zeP cl st k1 k2:=λc b hc hl M J=>by
 have s:∀(k m:Ak),k∈r->m∈r->(∀c∈k.2,c ∉ m.2)->∀p,zaY cl st k K0 p->∃q:AA->Bool,(∀c∈k.2,q c=p c)/\(∀c∈cl,q c=false)/\(∀c∈st,q c=true)/\((k.2.countP q:Nat):Int)=k.1/\((m.2.countP q:Nat):Int)=m.1:=λk m hk w a p f=>by
  refine⟨λc=>if c∈k.2 then p c else L c,λc z=>bw z,λc z=>?_,λc z=>?_,?_,?_⟩
  .show (if c∈k.2 then p c else L c)=false;rw[f.no c z,h.no c z];exact ite_self _
  .show (if c∈k.2 then p c else L c)=true;rw[f.ye c z,h.ye c z];exact ite_self _
  .rw[<- f.c1];congr 1;exact Vb λc z=>by rw[bw z]
  .rw[<- h.ct m w];congr 1;exact Vb λc z=>by rw[bq λy=>a c y z]
 rcases hc with hc | hc
 .refine O c b (.inl hc) hl M λp f=>?_;obtain⟨q,e,A,B,D,E⟩:=s k1 k2 G I ap p f;rw[<- e c hc];exact J q ⟨A,B,D,E⟩
 .refine U c b (.inl hc) hl M λp f=>?_;obtain⟨q,e,A,B,D,E⟩:=s k2 k1 I G (λc y z=>ap c z y) p f;rw[<- e c hc];exact J q ⟨A,B,E,D⟩
abbrev nlI (t:List Nat):List Int:=t.map λx=>((x:Nat):Int)
def PlR (N:Addr->Prop)(H:Hp)(v:V)(t:List Nat):Prop:=∃a,v=V.ref a/\N a/\H a=some (.lst (iL (nlI t)))
abbrev NT:Addr->Prop:=λ_=>True
section
variable {N:Addr->Prop}{H H':Hp}{us:AE}{ts:List (List Nat)}{z:Addr}{ys ys':AE}
def xU (s:zo H H')(h:XG (PlR N H) us ts):XG (PlR N H') us ts:=Paired.imp' (λ_ _ ⟨a,e,n,h⟩=>⟨a,e,n,s _ _ h⟩) h
def zjL (h:XG (PlR N H) us ts):XG (PlR NT H) us ts:=Paired.imp' (λ_ _ ⟨a,e,_,h⟩=>⟨a,e,trivial,h⟩) h
def zhg (h:XG (PlR (· ≠ z) H) us ts):XG (PlR (· ≠ z) (upd H z (.lst ys'))) us ts:=Paired.imp' (λ_ _ ⟨a,e,n,h⟩=>⟨a,e,n,by rw[zg n];exact h⟩) h
def zdp {ks:List Ak}(s:zo H H')(h:XG (AkV H) us ks):XG (AkV H') us ks:=Paired.imp' (λ_ _ ⟨t,l,A,e,m,r,w⟩=>⟨t,l,A,e,s _ _ m,s _ _ r,w.mono s⟩) h
def zni {ks:List Ak}(h:XG (AkV H) us ks){i:Nat}{k:Ak}(e:ks[i]?=some k):∃v,us[i]?=some v/\AkV H v k:=by
 have l:=Paired.length h;have m:=(XV.mp e).1;obtain⟨v,hv⟩:∃v,us[i]?=some v:=⟨_,XX (by lia)⟩;obtain⟨s,hk,r⟩:=yK h hv;rw[e]at hk;cases hk;exact⟨v,hv,r⟩
def take_snoc {α:Type}{l:List α}{i:Nat}{x:α}(h:l[i]?=some x):l.take (i+1)=l.take i++[x]:=by
 rw[Xe,h];rfl
end
def za0 (ks:List Ak)(i j:Nat):Bool:=((ks.getD i (0,[])).2).any λc=>decide (c∈(ks.getD j (0,[])).2)
def zfC (ks:List Ak)(i m:Nat):List (List Nat):=((WG m).filter λj=>za0 ks i (i+1+j)).map λj=>[i,i+1+j]
def xK (ks:List Ak)(i:Nat):List (List Nat):=(WG i).flatMap λi=>zfC ks i (ks.length-(i+1))
def JN (ks:List Ak):List (List Nat):=(WG ks.length).map (λi=>[i])++xK ks ks.length
def znj (ks:List Ak)(i m:Nat):(zfC ks i m).length<=m:=by
 unfold zfC;rw[ZB];have:=Xw (λj=>za0 ks i (i+1+j)) (WG m);rwa [WE]at this
theorem pairs_len (ks:List Ak):∀i,(xK ks i).length<=i*ks.length
 | 0=>W3 _
 | i+1=>by
  unfold xK;rw[UI,Wd,X6];have a:=pairs_len ks i;unfold xK at a;have b:=znj ks i (ks.length-(i+1));rw[VX,Re,Xx,P7];lia
def zre (ks:List Ak)(h:ks.length<=32):(JN ks).length<=1056:=by
 unfold JN;rw[X6,ZB,WE];have a:=pairs_len ks ks.length;have b:ks.length*ks.length<=32*32:=O9 h h;lia
def zjM:Sp:=λvs H Q _=>∃(s:Addr) (w:AE) (r:List Ak),vs=[.ref s]/\H s=some (.lst w)/\XG (AkV H) w r/\r.length<=32/\(∀k∈r,k.2.length<=64) /\
 ∀(d:Addr) (A:AE) (m:Hp),m d=some (.lst A)->XG (PlR NT m) A (JN r)->zo H m->Q (.ref d) m
def jt:zE ["asked","singles","pairs","place","one","other"] ["asked"] (zp xH):=bh
def zdq (T:Txt mg){f:Addr}{fd:XF}(D:zk K mg "place_lists" xH ["asked"] f fd):zY P w K mg base CX0 1 f fd ["asked"] zjM:=by
 refine D.F.ok jt (λvs H Q E h=>?_) (λa2 A a1 s H vs Q E hr h=>?_)
 .obtain⟨la,O,J,rfl,_⟩:=h;rfl
 .revert h;refine dO λla O J=>dh λz0 U hA an az q=>?_;subst z0;refine⟨_,(ze (psC 1 jt.nd ["place"] [none] cP (prg T.jB (pb1 zM T.qT Xa (pvS 0))) (pgN 0) qo (zR (za (pvS 0) zd))) (@ze _ _ _ _ _ (@qx _ _ 2 _ _ _ _ jt.nd rfl (VU rfl) (@zR _ _ _ _ zd) (by rfl) (.inr rfl)) (ze (qz Xd rfl (Zv (by rfl) T.jR (za (pvS 0) zd)) (xW rfl (zW (pgq 3 jt.nd) (zW (pgq 4 jt.nd) jV))) (zh (qz Xd rfl (Qs (by rfl) T.jB (za (zx xD (pvS 3) zf) (za (pb1 zM T.qT Xa (pvS 0)) zd))) (pgq 5 jt.nd) (zh (qW (yF (pb1 (zcE rfl) T.zjx T8 (pcm ["cell","asked","other"] [none,some 0,some 5] cR (zJ (zG qa (pvS 4) zf (λ_ _=>rfl))) (pgN 0) qo (yE (jN (K:=K) (by rfl) hr.units) (pvS 0) (zG (zmq (K:=K) (by rfl)) (zG (zbi (K:=K) (by rfl)) (pvS 1) (pvS 2) (λ_ _=>rfl)) zf (λ_ _=>rfl)) (by rfl)))) (λ_=>rfl)) (zh (qV (yV W7 WJ WI jP (pvS 2) (za (zR (za (pvS 3) (za (pvS 5) zd))) zd)))) qd))))) (zh (zB (zx yX (pvS 1) (pvS 2))))))),?_⟩;(try dsimp only[cxK,cxP,cxW]);have ll:O.length=J.length:=Paired.length hA;refine⟨_,rfl,la,_,rfl,.inl (SqL.of U),_,rfl,by lia,by lia,λsg am=>?_⟩;rw[show (((O.length:Nat):Int)).toNat=O.length by lia];refine zhO (lo:=0) (n:=O.length) (λi G I=>∃(u0:Option V) (ys:AE),G=[u0]/\zo H I/\I sg=some (.lst ys)/\XG (PlR (· ≠ sg) I) ys ((WG i).map λi=>[i])) ⟨none,[],rfl,zc am,zb,.nil⟩ ?_ ?_
  .rintro i G H1 hi ⟨u0,ys,rfl,s1,aa,hP⟩;rw[V2];unfold yD;refine Yt ?_;refine⟨_,rfl,sz_1,λx hx=>?_⟩;have y2:=zc (o:=.lst [V.int (i:Nat)]) hx;have nx:x≠sg:=λe=>by
    rw[e,aa]at hx;cases hx
   have yl:ys.length=i:=by rw[Paired.length hP,ZB,WE]
   refine⟨ys,y2 _ _ aa,Xj (show ys.length<100 by lia) (by decide),_,ys++[.ref x],rfl,λb o e=>?_,zb,?_⟩
   .rw[zg (zj e am)];exact y2 _ _ (s1 _ _ e)
   .rw[UI,XB];refine Paired.snoc (zhg (xU y2 hP)) ⟨x,rfl,nx,?_⟩;rw[zg nx];exact zb
  refine λG H1=>dj λu0 ys z0 s1 aa hS=>?_;subst z0;refine⟨yU,λpz al=>?_⟩;have y2:=zc (o:=.lst []) al;refine⟨_,rfl,la,rfl,⟨_,SqL.of (y2 _ _ (s1 _ _ U))⟩,?_⟩;refine Zw (K:=K) (l:=la) (xs:=O) (λi σ I=>∃(w3 w4 w5:Option V) (B:AE),σ=[some (.ref la),some (.ref sg),some (.ref pz),w3,w4,w5]/\zo H1 I/\I pz=some (.lst B)/\XG (PlR (· ≠ pz) I) B (xK J i))
   ⟨_,_,_,[],rfl,y2,zb,.nil⟩ (λi σ I _ ⟨_,_,_,_,_,s',_⟩=>SqL.of (s' _ _ (s1 _ _ U))) ?_ ?_
  .refine λi x tt σ H2 hx aw=>dH λw3 w4 w5 B z0 s2 ae M=>?_;subst z0;refine dR (λk1 ai t1 l1 u1=>dz λz0 au ak ag=>?_) (yK hA hx);subst z0;have i1:i<O.length:=(XV.mp hx).1;have y3:=zc (o:=.tup [.int (i:Nat),.ref t1]) aw;have s3:=s2.trans y3;have ay:=y3 _ _ ae;have aq:=xU y3 M;refine cT tt rfl (SqT.of zb) ⟨rfl,_,(cJ rfl rfl rfl ?_)⟩;generalize upd H2 tt (.tup [.int (i:Nat),.ref t1])=H3 at *
   refine⟨_,rfl,_,_,rfl,rfl,_,rfl,la,_,rfl,.inl (SqL.of (s3 _ _ (s1 _ _ U))),((i+1:Nat):Int),((O.length:Nat):Int),rfl,⟨by lia,by lia,by lia,by lia⟩,?_⟩;rw[show (((O.length:Nat):Int)-((i+1:Nat):Int)).toNat=O.length-(i+1) by lia];refine qE (lo:=((i+1:Nat):Int)) (n:=O.length-(i+1)) (λm σ I=>∃(w5:Option V) (B:AE),σ=[some (.ref la),some (.ref sg),some (.ref pz),some (.int (i:Nat)),some (.ref t1),w5]/\zo H1 I/\I pz=some (.lst B)/\XG (PlR (· ≠ pz) I) B (xK J i++zfC J i m))
    ⟨_,B,rfl,s3,ay,by show XG _ B (xK J i++[]);rw[Xx];exact aq⟩ ?_ ?_
   .refine λm σ H4 hm=>dj λw5 B z0 s4 af M=>?_;subst z0;obtain⟨j,hj,ah⟩:∃j:Nat,((i+1:Nat):Int)+((m:Nat):Int)=((j:Nat):Int)/\j=i+1+m:=⟨i+1+m,by lia,rfl⟩;rw[hj];have jl:j<O.length:=by lia
    obtain⟨k2,aj⟩:∃k,J[j]?=some k:=⟨_,XX (by lia)⟩;refine dR (λv2 ax t2 l2 u2=>dz λz0 av as ar=>?_) (zni hA aj);subst z0;have ac:=s1.trans s4;refine⟨_,rfl,t1,_,1,_,rfl,rfl,SqT.of (ac _ _ au),rfl,l1,rfl,⟨_,SqL.of (ac _ _ ak)⟩,λz hz=>?_⟩;have a3:=az k1 (X4 ai);refine qv (K:=K) (a:=l1) (xs:=u1) (λr G I=>∃(u0:Option V),G=[u0,some (.ref la),some (.int (j:Nat))]/\zo H4 I/\I z=some (.lst (((k1.2.take r).map λc=>decide (c∈k2.2)).map V.bl))) ⟨_,rfl,zc hz,zb⟩ (λr G I _ ⟨_,_,s',_⟩=>SqL.of (s' _ _ (ac _ _ ak))) ?_ ?_
    .rintro r v G H5 hv ⟨u0,rfl,s5,ab⟩;have Y:=ac.trans s5;obtain⟨c,hc,rc⟩:=Cel.get (Cel.mono Y ag) hv;unfold yD;refine Yt ?_;refine⟨_,rfl,_,rfl,_,rfl,la,_,_,_,rfl,rfl,SqL.of (Y _ _ U),ja ax,t2,_,1,_,rfl,rfl,SqT.of (Y _ _ av),rfl,zm c,k2.2.map zm,rc.rdv,.lst (SqL.of (Y _ _ as)) (zbA (ar.mono Y)),rfl,YM _,(by show 1<=60;decide),?_⟩;rw[zpO];refine⟨_,ab,?_,_,rfl,λb o e=>?_,?_⟩
     .rw[ZB,ZB,XM];exact Xj (show min r k1.2.length<100 by lia) (by decide)
     .rw[zg (zj e hz)];exact s5 _ _ e
     .rw[zb,take_snoc hc,XB,XB];rfl
    refine λG H5=>dG λu0=>c9 λz0 s5 ab=>?_;subst z0;rw[ag.length,XE]at ab;have em:((k1.2.map λc=>decide (c∈k2.2)).any id)=za0 J i j:=by
     unfold za0;rw[Xq,Xq,ai,aj,TR];rfl
    refine cT z rfl (SqL.of ab) (cD rfl ?_);rw[em];have e1:zfC J i (m+1)=zfC J i m++if za0 J i j=true then [[i,j]] else []:=by
     unfold zfC;rw[UI,W6,XB,WB,<- ah];split
     .rw[List.filter_nil,Xu,<- ah];rfl
     .rfl
    rw[e1];have L:=s5 _ _ af;by_cases hm:za0 J i j=true
    .refine j6 hm ?_;refine⟨_,rfl,.inl ⟨rfl,_,SqL.of L⟩,_,rfl,_,rfl,j9,λx hx=>?_⟩;have y6:=zc (o:=.lst [V.int (i:Nat),.int (j:Nat)]) hx;have nx:x≠pz:=λe=>by
      rw[e,L]at hx;cases hx
     have zl:B.length<=2000:=by
      have a:=Paired.length M;have b:=znj J i m;have c:=pairs_len J i;have d:i*J.length<=32*32:=O9 (by lia) an;rw[X6]at a;lia
     refine⟨pz,_,_,rfl,rfl,y6 _ _ L,XJ zl (by decide),some (.int (j:Nat)),B++[.ref x],rfl,λb o e=>?_,zb,?_⟩
     .rw[zg (zj e al)];exact y6 _ _ (s5 _ _ (s4 _ _ e))
     .rw[bw hm,<- W9];refine Paired.snoc (zhg (xU (s5.trans y6) M)) ⟨x,rfl,nx,?_⟩;rw[zg nx];exact zb
    .refine jk (Xk.mpr hm) ?_;rw[bq hm,Xx];exact⟨some (.int (j:Nat)),B,rfl,s4.trans s5,L,xU s5 M⟩
   .refine λσ H4=>dj λw5 B z0 s4 af M=>?_;subst z0;refine⟨_,_,_,B,rfl,s4,af,?_⟩;unfold xK at *
    rw[UI,Wd,VX,Re,Xx];rw[ll]at M;exact M
  .rintro σ H2 ⟨w3,w4,w5,B,rfl,s2,ae,M⟩;rw[ll]at M;have ao:=xU s2 hS;have yl:ys.length<=32:=by rw[Paired.length hS,ZB,WE];lia
   have zl:B.length<=1056:=by
    have:=zre J an;unfold JN at this;rw[X6]at this;rw[Paired.length M];lia
   refine⟨_,rfl,_,rfl,sg,pz,_,_,rfl,rfl,s2 _ _ aa,ae,XY (show ys.length+B.length<=2000 by lia) (by decide),λd hd=>?_⟩;have y5:=zc (o:=.lst (ys++B)) hd;refine q d _ _ zb ?_ (s1.trans (s2.trans y5));unfold JN;rw[<- ll];exact zcD (zjL (xU y5 ao)) (zjL (xU y5 (by rw[ll];exact M)))
def pk1 (ks:List Ak)(t:List Nat):Ak:=ks.getD (t.getD 0 0) K0
def pk2 (ks:List Ak)(t:List Nat):Ak:=match t with
 | [_,j]=>ks.getD j K0
 | _=>K0
def Emp (cl st:AB)(ks:List Ak)(t:List Nat):Prop:=zP (gsP cl st (pk1 ks t) (pk2 ks t))=[]/\zQ (gsP cl st (pk1 ks t) (pk2 ks t))=[]
def zbC {ks:List Ak}{t:List Nat}:t∈JN ks↔(∃i,i<ks.length/\t=[i])\/∃i j,i<j/\j<ks.length/\za0 ks i j=true/\t=[i,j]:=by
 unfold JN xK zfC;rw[XU,XN,TL];constructor
 .rintro(⟨i,hi,e⟩ | ⟨i,hi,h⟩)
  .exact .inl ⟨i,Wv.mp hi,e.symm⟩
  .obtain⟨m,hm,e⟩:=XN.mp h;obtain⟨r,s⟩:=X8.mp hm;have:=Wv.mp r;exact .inr ⟨i,i+1+m,by lia,by lia,s,e.symm⟩
 .rintro(⟨i,hi,e⟩ | ⟨i,j,hij,hj,hm,e⟩)
  .exact .inl ⟨i,Wv.mpr hi,e.symm⟩
  .refine .inr ⟨i,Wv.mpr (by lia),XN.mpr ⟨j-(i+1),X8.mpr ⟨Wv.mpr (by lia),?_⟩,?_⟩⟩
   .rw[show i+1+(j-(i+1))=j by lia];exact hm
   .rw[show i+1+(j-(i+1))=j by lia,e]
structure znk (cs:AB)(ks:List Ak):Prop where
 nd:cs.Nodup
 n:∀k∈ks,k.2.Nodup/\k.2.length<=20/\∀c∈k.2,c∈cs
 l:ks.length<=32
def getD_mem {ks:List Ak}{i:Nat}(h:i<ks.length):ks.getD i K0∈ks/\ks[i]?=some (ks.getD i K0):=by
 have e:ks[i]?=some (ks.getD i K0):=by
  rw[Xq,XX h];rfl
 exact⟨X4 e,e⟩
def znk.two {r:AB}{ks:List Ak}(X:znk r ks){cl st:AB}(ap:∀c∈cl,c ∉ st){k1 k2:Ak}(s:k1∈ks)(m:k2∈ks\/k2=K0):InA r cl st k1 k2:=by
 have a:=X.n k1 s;rcases m with m | rfl
 .have b:=X.n k2 m;exact⟨X.nd,a.1,b.1,a.2.2,b.2.2,ap⟩
 .exact⟨X.nd,a.1,Vf,a.2.2,(λ_ h=>nomatch h),ap⟩
def zjN {ks:List Ak}{t:List Nat}(h:t∈JN ks):pk1 ks t∈ks/\(pk2 ks t∈ks\/pk2 ks t=K0):=by
 rcases zbC.mp h with ⟨i,hi,rfl⟩ | ⟨i,j,m,r,_,rfl⟩
 .exact⟨(getD_mem hi).1,.inr rfl⟩
 .exact⟨(getD_mem (show i<ks.length by lia)).1,.inl (getD_mem r).1⟩
def AkN (N:Addr->Prop)(H:Hp)(v:V)(k:Ak):Prop:=∃(t l:Addr) (m:AE),v=V.ref t/\N t/\N l/\H t=some (.tup [.int k.1,.ref l])/\H l=some (.lst m)/\Cel H m k.2
def znl {N:Addr->Prop}{H:Hp}{m:AE}{ks:List Ak}(h:XG (AkN N H) m ks):XG (AkV H) m ks:=Paired.imp' (λ_ _ ⟨t,l,A,e,_,_,r,s,w⟩=>⟨t,l,A,e,r,s,w⟩) h
def Cel.one {H m:Hp}{d:Addr}{xs:AE}(s:∀b o,b≠d->H b=some o->m b=some o)(w:H d=some (.lst xs)){vs:AE}{r:AB}(A:Cel H vs r):Cel m vs r:=by
 induction A with
 | nil=>exact .nil
 | cons q _ B =>
  obtain⟨a,e,h⟩:=q;exact .cons ⟨a,e,s a _ (λz=>by rw[z,w]at h;cases h) h⟩ B
def zdr {y:Addr}{H r:Hp}{m:AE}(hy:H y=some (.lst m))(s:∀b o,b≠y->H b=some o->r b=some o){B:AE}{ks:List Ak}(h:XG (AkN (· ≠ y) H) B ks):XG (AkN (· ≠ y) r) B ks :=
 Paired.imp' (λ_ _ ⟨t,l,I,e,w,A,D,E,G⟩=>⟨t,l,I,e,w,A,s _ _ w D,s _ _ A E,Cel.one s hy G⟩) h
theorem zo5:∀c1 m:AB,WQ (.tuple [.list (c1.map zm),.list (m.map zm)]) (.tuple [.list [],.list []])=decide (c1=[]/\m=[])
 | [],[]=>by decide+kernel
 | [],c::r=>rfl
 | c::r,d=>rfl
def nd3 {H:Hp}{tl m r:Addr}{A B:HO}(s:H m=some A)(w:H r=some B)(h:H tl=none)(n:m≠r):[tl,m,r].Nodup:=by
 have a:tl≠m:=λe=>by
  rw[e,s]at h;cases h
 have b:tl≠r:=λe=>by
  rw[e,w]at h;cases h
 simp[a,b,n]
structure zjO (H:Hp)(th la pl fa fc fs:Addr)(ths ls us u w':AE)(tgs:List (Option AA))(ks:List Ak)(cl st:AB):Prop where
 h1:H th=some (.lst ths)
 t:XG (xT H) ths tgs
 h2:H la=some (.lst ls)
 k:XG (AkV H) ls ks
 h3:H pl=some (.lst us)
 p:XG (PlR NT H) us (JN ks)
 f:jq H fa fc fs u w' cl st
 fi:zne cl st
 l:tgs.length=ks.length
def zjP (C:Addr):Sp:=λvs H Q E=>∃(U J M I fc fs:Addr) (G ls us u w':AE) (w:List (Option AA)) (s:List Ak) (cs cl st:AB) (L:AA->Bool),vs=[.ref U,.ref J,.ref M,.ref I]/\zjO H U J M I fc fs G ls us u w' w s cl st/\znk cs s/\jr s L cl st /\
 ((∀t∈JN s,Emp cl st s t)->∀m,zo H m->Q .non m) /\
 ∀(i:Nat) (t:List Nat) (c1 A:AB) (r tl B D:Addr) (Y w1 w2:AE) (m:Hp),(JN s)[i]?=some t->(∀j,j<i->∀O,(JN s)[j]?=some O->Emp cl st s O)->c1.Perm (zP (gsP cl st (pk1 s t) (pk2 s t)))->A.Perm (zQ (gsP cl st (pk1 s t) (pk2 s t)))->c1.Pairwise Cells.lex->A.Pairwise Cells.lex->¬ (c1=[]/\A=[])->H B=none->H D=none->H tl=none->[tl,B,D].Nodup ->
  m r=some (.tup [.ref tl,.ref B,.ref D])->m tl=some (.lst Y)->XG (xT m) Y (t.map λi=>w.getD i none)->m B=some (.lst w1)->m D=some (.lst w2)->Cel m w1 c1->Cel m w2 A->zo H m->Q (.ref r) m
def yh:zE ["things","asked","lists","finding","known","left","places","told"] ["things","asked","lists","finding"] (zp Jj):=bh
def zd0 (T:Txt mg)(Z:Prog K mg)(a8:J6 K mg "NoLaying" jaa){f:Addr}{fd:XF}(D:zk K mg "first_step" Jj ["things","asked","lists","finding"] f fd):zY P w K mg base (CXE P w) 3 f fd ["things","asked","lists","finding"] (zjP jaa):=by
 obtain⟨aP,aO,JO⟩:=Z.known_of;obtain⟨aM,aN,yi⟩:=Z.still_asked;obtain⟨aR,aQ,Jw⟩:=Z.settled;obtain⟨aT,aS,Qi⟩:=Z.gained;have aD:=zbT (P:=P) (w:=w) (base:=base) T JO;have Zq:=Qh (P:=P) (w:=w) (base:=base) T yi;have aE:=zeO (P:=P) (w:=w) (base:=base) T a8 Qi Jw;refine D.F.okX yh (λvs H Q E h=>?_) (λaH A a9 s H vs Q E hr h=>?_)
 .revert h;refine di λth la pl fa fc fs aq ls=>di λus u w' O M cs cl st=>dm λL z0 _=>?_;subst z0;rfl
 .revert h;refine di λth la pl fa fc fs aq ls=>di λus u w' O M cs cl st=>dG λL=>dh λz0 X A' tr qn qs=>?_;subst z0;refine⟨_,(ze (qR 4 yh.nd (pc0 aD hr JO (za (pvS 3) zd))) (ze (qR 5 yh.nd (pcm ["some","known"] [none,some 4] cR (zJ (pvS 1)) (pgN 0) qo (pc0 Zq hr yi (za (pvS 0) (za (pvS 1) zd))))) (ze (qz (xX.own jI) rfl (zJ (pvS 2)) (pgq 6 yh.nd) (ze (qR 7 yh.nd (pcL jI aE hr Qi (za (pcm ["place","left"] [none,some 5] cR (zJ (pvS 6)) (pgN 0) qo (zG (zbi (K:=K) (by rfl)) (pvS 1) (pvS 0) (λ_ _=>rfl))) zd))) (zh (qW (qp (jy hr.units) (pvS 7) (@qu _ _ _ _ _ (@za _ _ _ _ _ (@zR _ _ _ _ zd) (@za _ _ _ _ _ (@zR _ _ _ _ zd) zd rfl) rfl)) (qb _)) (zh (zB (qu (za (pcm ["place","things"] [none,some 0] cR (zJ (pvS 6)) (pgN 0) qo (zG (zbi (K:=K) (by rfl)) (pvS 1) (pvS 0) (λ_ _=>rfl))) (za (zG qa (pvS 7) zf (λ_ _=>rfl)) (za (zG qa (pvS 7) zf (λ_ _=>rfl)) zd)))))) qd)))) (@zh _ _ _ (@zB _ _ _ _ ze2))))),?_⟩;(try dsimp only[cxK,cxP,cxW]);refine⟨_,rfl,fa,fc,fs,u,w',cl,st,rfl,X.f,X.fi,λkd kvs H1 aI aF hK s1=>?_⟩;refine⟨_,rfl,la,rfl,⟨_,SqL.of (s1 _ _ X.h2)⟩,λy hy=>?_⟩;refine qv (K:=K) (a:=la) (xs:=ls) (λi σ J=>(∃u0,σ=[u0,some (.ref kd)])/\zo H1 J/\∃ys,J y=some (.lst ys)/\XG (AkN (· ≠ y) J) ys ((M.take i).map (jU cl st))) ⟨⟨_,rfl⟩,zc hy,[],zb,.nil⟩ (λi σ J _ ⟨_,s',_⟩=>SqL.of (s' _ _ (s1 _ _ X.h2))) ?_ ?_
  .rintro i x σ H2 hx ⟨⟨u0,rfl⟩,s2,ys,Y,hP⟩;have G:=s1.trans s2;refine dR (λk hk t l us3=>dz λz0 ht hl hc=>?_) (yK X.k hx);subst z0;have kn:=A'.n k (X4 hk);refine xB ⟨_,rfl,_,rfl,t,l,kd,k.1,us3,k.2,cl,st,kvs,rfl,G _ _ ht,G _ _ hl,hc.mono G,XY kn.2.1 (by decide),s2 _ _ aF,hK,λr l2 aB H4 aJ as ag a5 a1 s4=>?_⟩;have an:=s4 _ _ Y;have aw:r≠y:=Qc ag an (by intro q;cases q);have av:l2≠y:=λz=>by
    rw[z,Y]at as;cases as
   have aC:ys.length<=32:=by
    rw[Paired.length hP,ZB,XM];have:=A'.l;lia
   refine⟨ys,an,XJ aC (by decide),⟨_,rfl⟩,λb o e'=>?_,ys++[.ref r],zb,?_⟩
   .rw[zg (zj e' hy)];exact s4 _ _ (s2 _ _ e')
   .rw[take_snoc hk,XB];have kk:∀b o,b≠y->H4 b=some o->upd H4 y (.lst (ys++[.ref r])) b=some o:=λb o nb e=>by
     rw[zg nb];exact e
    exact Paired.snoc (zdr Y (λb o nb e=>by rw[zg nb];exact s4 _ _ e) hP) ⟨r,l2,aB,rfl,aw,av,kk _ _ aw ag,kk _ _ av a5,Cel.into y _ an a1⟩
  refine λσ H2=>c9 λ_ s2=>dm λys Y hP=>?_;rw[Paired.length X.k,XE]at hP;have hV:=znl hP;have G:=s1.trans s2;refine⟨_,rfl,pl,rfl,⟨_,SqL.of (G _ _ X.h3)⟩,?_⟩;refine j7 (K:=K) (a:=pl) (xs:=us) (λi σ J=>∃(w6 w7:Option V),σ=[some (.ref th),some (.ref la),some (.ref pl),some (.ref fa),some (.ref kd),some (.ref y),w6,w7]/\zo H2 J/\∀j,j<i->∀t',(JN M)[j]?=some t'->Emp cl st M t')
   ⟨_,_,rfl,zo.refl _,λj hj=>by lia⟩ (λi σ J _ ⟨_,_,_,s',_⟩=>SqL.of (s' _ _ (G _ _ X.h3))) ?_ ?_
  .refine λi x σ H3 hx=>dF λw6 w7=>c9 λz0 s3 hE=>?_;subst z0;refine dm (λt ht=>dG λta=>c9 λz0 _ au=>?_) (yK X.p hx);subst z0;have ao:=G.trans s3;have ah:=ao _ _ au;have tm:=X4 ht;have tb:∀j∈t,j<M.length:=λj hj=>by
    rcases zbC.mp tm with ⟨i,hi,rfl⟩ | ⟨i,j',ak,ab,_,rfl⟩
    .rw[Wz.mp hj];exact hi
    .rcases XQ.mp hj with rfl | hj
     .lia
     .rw[Wz.mp hj];exact ab
   have aA:t.length=1\/t.length=2:=by
    rcases zbC.mp tm with ⟨i,hi,rfl⟩ | ⟨i,j',ak,ab,_,rfl⟩
    .exact .inl rfl
    .exact .inr rfl
   refine⟨_,rfl,ta,rfl,⟨_,SqL.of ah⟩,λg hg=>?_⟩;refine qv (K:=K) (a:=ta) (xs:=iL (nlI t)) (λr B J=>∃(u0:Option V) (gv:AE),B=[u0,some (.ref y)]/\zo H3 J/\J g=some (.lst gv)/\XG (AkV H3) gv ((t.take r).map λi=>jU cl st (M.getD i K0))) ⟨_,[],rfl,zc hg,zb,.nil⟩ (λr B J _ ⟨_,_,_,s',_⟩=>SqL.of (s' _ _ ah)) ?_ ?_
   .refine λr v B H4 hv=>dj λu0 gv z0 s4 aj hG=>?_;subst z0;obtain⟨x0,U,rfl⟩:=ints_get hv;rw[XC]at U;obtain⟨j,hj,rfl⟩:=Vw.mp U;have jm:=tb j (X4 hj);have ek:(M.map (jU cl st))[j]?=some (jU cl st (M.getD j K0)):=by
     rw[XC,(getD_mem jm).2];rfl
    obtain⟨v2,ae,r2⟩:=zni (zdp s3 hV) ek;unfold yD;refine Yt ?_;have r1:r<t.length:=(XV.mp hj).1;refine⟨_,rfl,_,rfl,y,_,_,_,rfl,rfl,SqL.of (s4 _ _ (s3 _ _ Y)),ja ae,_,aj,?_,_,gv++[v2],rfl,λb o e=>?_,zb,?_⟩
    .rw[Paired.length hG,ZB,XM];exact Xj (show min r t.length<100 by lia) (by decide)
    .rw[zg (zj e hg)];exact s4 _ _ e
    .rw[take_snoc hj,XB];exact Paired.snoc hG r2
   refine λB H4=>dj λu0 gv z0 s4 aj hG=>?_;subst z0;rw[ZB,ZB,XE]at hG;have ax:=ao.trans s4;have eg:gsU (t.map λi=>jU cl st (M.getD i K0))=gsP cl st (pk1 M t) (pk2 M t):=by
    rcases zbC.mp tm with ⟨i,hi,rfl⟩ | ⟨i,j',ak,ab,_,rfl⟩
    .rfl
    .rfl
   obtain⟨m1,m2⟩:=zjN tm;have I:=A'.two tr.ap m1 m2;have fit:znf (t.map λi=>jU cl st (M.getD i K0)):=by
    have:=zaZ I (tr.fit m1 m2);rcases zbC.mp tm with ⟨i,hi,rfl⟩ | ⟨i,j',ak,ab,_,rfl⟩
    .exact this
    .exact this
   refine cE g gv (cK (t.map λi=>jU cl st (M.getD i K0)) rfl aj (zdp s4 hG) (by rw[ZB];exact aA) (cQ (λk hk=>?_) (λ_ tt d1 d2 w1 w2 c1 c2 H5 f1 f2 az k1 k2 k3 g1 g2 p1 p2 x1 x2 s5=>?_) (λhn=>absurd fit hn)))
   .obtain⟨j,hj,rfl⟩:=XN.mp hk;have kn:=A'.n _ (getD_mem (tb j hj)).1;exact⟨kn.1.sublist Xm,XY (Xw _ _) kn.2.1⟩
   rw[eg]at p1 p2;refine⟨_,rfl,yU,λe1 a2=>⟨yU,λe2 a3=>⟨j9,λe3 a4=>?_⟩⟩⟩;have y1:=zc (o:=.lst []) a2;have y2:=zc (o:=.lst []) a3;have y3:=zc (o:=.tup [.ref e1,.ref e2]) a4;have m:=y1.trans (y2.trans y3);have ay:=s5.trans m;refine cE (.tuple [.list (c1.map zm),.list (c2.map zm)]) (.tuple [.list [],.list []]) (cL (.tup (SqT.of (m _ _ k1)) (.cons (.lst (SqL.of (m _ _ k2)) (zbA (g1.mono m))) (.cons (.lst (SqL.of (m _ _ k3)) (zbA (g2.mono m))) .nil))) (.tup (SqT.of zb) (.cons (.lst (SqL.of (y3 _ _ (y2 _ _ zb))) .nil) (.cons (.lst (SqL.of (y3 _ _ zb)) .nil) .nil))) ⟨?_,rfl,?_⟩ ⟨_,rfl,?_⟩)
   .show (WR (c1.map zm)&&(WR (c2.map zm)&&true))=true;rw[YM,YM];rfl
   .show max (W2 (c1.map zm)+1) (max (W2 (c2.map zm)+1) 0)+1<=64;have a:=Yq c1;have b:=Yq c2;lia
   rw[bw rfl,zo5];by_cases he:c1=[]/\c2=[]
   .refine jk (by rw[br he];rfl) ?_;refine⟨_,_,rfl,s3.trans (s4.trans ay),λj hj t' al=>?_⟩;by_cases ji:j<i
    .exact hE j ji t' al
    .have:j=i:=by lia
     subst this;rw[ht]at al;cases al;rw[he.1]at p1;rw[he.2]at p2;exact⟨p1.symm.eq_nil,p2.symm.eq_nil⟩
   .refine j6 (by rw[bf he];rfl) ?_;generalize upd (upd (upd H5 e1 (.lst [])) e2 (.lst [])) e3 (.tup [.ref e1,.ref e2])=H6 at *
    have aa:=ao.trans (s4.trans ay);have ai:=aa _ _ au;refine⟨_,rfl,ta,rfl,⟨_,SqL.of ai⟩,λtl ac=>?_⟩;have aG:O.length=M.length:=X.l;refine qv (K:=K) (a:=ta) (xs:=iL (nlI t)) (λr B J=>∃(u0:Option V) (tv:AE),B=[u0,some (.ref th)]/\zo H6 J/\J tl=some (.lst tv)/\XG (xT H6) tv ((t.take r).map λi=>O.getD i none)) ⟨_,[],rfl,zc ac,zb,.nil⟩ (λr B J _ ⟨_,_,_,s',_⟩=>SqL.of (s' _ _ ai)) ?_ ?_
    .refine λr v B H7 hv=>dj λu0 tv z0 s7 am hT=>?_;subst z0;obtain⟨x0,U,rfl⟩:=ints_get hv;rw[XC]at U;obtain⟨j,hj,rfl⟩:=Vw.mp U;have jm:=tb j (X4 hj);have aK:aq.length=O.length:=Paired.length X.t;obtain⟨v2,ae⟩:∃v,aq[j]?=some v:=⟨_,XX (by lia)⟩;obtain⟨tg,a7,r2⟩:=yK X.t ae;unfold yD;refine Yt ?_;have r1:r<t.length:=(XV.mp hj).1;refine⟨_,rfl,_,rfl,th,_,_,_,rfl,rfl,SqL.of (s7 _ _ (aa _ _ X.h1)),ja ae,_,am,?_,_,tv++[v2],rfl,λb o e=>?_,zb,?_⟩
     .rw[Paired.length hT,ZB,XM];exact Xj (show min r t.length<100 by lia) (by decide)
     .rw[zg (zj e ac)];exact s7 _ _ e
     .rw[take_snoc hj,XB];refine Paired.snoc hT ?_;have:O.getD j none=tg:=by
       rw[Xq,a7];rfl
      show xT H6 v2 (O.getD j none);rw[this];exact r2.mono aa
    refine λB H7=>dj λu0 tv z0 s7 am hT=>?_;subst z0;rw[ZB,ZB,XE]at hT;have ar:=m.trans s7;refine⟨_,rfl,tt,_,0,_,rfl,rfl,SqT.of (ar _ _ k1),rfl,_,rfl,tt,_,1,_,rfl,rfl,SqT.of (ar _ _ k1),rfl,zgE,λr a6=>?_⟩;have y8:=zc (o:=.tup [.ref tl,.ref d1,.ref d2]) a6;have af:=ar.trans y8;exact qs i t c1 c2 r tl d1 d2 tv w1 w2 _ ht hE p1 p2 x1 x2 he (ax.free f1) (ax.free f2) (aa.free ac) (nd3 (m _ _ k2) (m _ _ k3) ac az) zb (y8 _ _ am) (Paired.imp' (λ_ _ h=>xT.mono (s7.trans y8) h) hT) (af _ _ k2) (af _ _ k3) (g1.mono af) (g2.mono af) (aa.trans (s7.trans y8))
  .rintro σ H3 ⟨w6,w7,rfl,s3,hE⟩;refine qn (λt ht=>?_) H3 (G.trans s3);obtain⟨j,hj⟩:=TX ht;exact hE j (by rw[Paired.length X.p];exact(XV.mp hj).1) t hj
def jr.congr {s:List Ak}{L:AA->Bool}{cl st m r:AB}(h:jr s L cl st)(a:∀c∈m,c∈cl)(b:∀c∈r,c∈st):jr s L m r:=⟨λc z=>h.no c (a c z),λc z=>h.ye c (b c z),h.ct⟩
def zdo.congr {w:List Ak}{L:AA->Bool}{cl st r s:AB}(h:zdo w L cl st)(a:∀c∈r,c∈cl)(b:∀c∈s,c∈st):zdo w L r s:=λx y t c=>let z:=h x y t c;⟨λc m=>z.1 c (a c m),λc m=>z.2 c (b c m)⟩
def zD (rs:AD)(n:Int)(tgs:List (Option AA)):List Ak:=tgs.map λm=>(zrb rs n m,zdZ rs m)
def znn (rs:AD):(zv rs).Pairwise Cells.lex:=Cells.Js _ 0 (codes rs)
def zcq {rs:AD}{tg:Option AA}:(zdZ rs tg).Sublist (zv rs):=by
 cases tg with
 | none=>exact List.Sublist.refl _
 | some c =>
  show (clA rs c).Sublist (zv rs);unfold clA zL zv;have e:(Cells.zz qq 0 (codes rs)).filter (λx=>decide (Cells.sgn (codes rs) x=63))=Cells.zz xY 0 (codes rs):=by
   rw[Cells.all_filter (p:=qq) (q:=λk=>decide (k=63)) (codes rs)];refine Cells.zbN (λk=>?_) 0 _;unfold xY qq;by_cases h:k=63
   .subst h;rfl
   .rw[bf h,RZ]
  rw[<- e,Vk];have m:(λx=>decide (Cells.sgn (codes rs) x=63)&&Cells.near x c)=λx=>Cells.near x c&&decide (Cells.sgn (codes rs) x=63):=by
   funext x;exact OE _ _
  rw[m,<- Vk];exact Xm
def za1 {rs:AD}{n:Int}{tgs:List (Option AA)}(l:tgs.length<=32)(m:(zv rs).length<=20):znk (zv rs) (zD rs n tgs):=by
 refine⟨qB rs,λk hk=>?_,by unfold zD;rw[ZB];exact l⟩;obtain⟨tg,_,rfl⟩:=XN.mp hk;have s:=zcq (rs:=rs) (tg:=tg);exact⟨(qB rs).sublist s,XY s.length_le m,λc hc=>s.subset hc⟩
structure Way (cs:AB)(ks:List Ak)(L:AA->Bool)(cl st:AB):Prop where
 tr:jr ks L cl st
 le:zdo ks L cl st
 x1:cl.Pairwise Cells.lex
 x2:st.Pairwise Cells.lex
 s1:∀c∈cl,c∈cs
 s2:∀c∈st,c∈cs
def Way.len {m cl st:AB}{ks:List Ak}{L:AA->Bool}(W:Way m ks L cl st)(s:m.Nodup)(h:m.length<=20):cl.length+st.length<=20:=by
 have n:(cl++st).Nodup:=WX.mpr ⟨qm W.x1,qm W.x2,λa ha b r e=>by
  subst e;exact W.tr.ap a ha r⟩
 have:=((WW n (s.sublist (Xm (p:=λx=>decide (x∈cl++st))))).mpr λx=>by
  rw[X8,bu];exact⟨λz=>⟨(XU.mp z).elim (W.s1 x) (W.s2 x),z⟩,λz=>z.2⟩).length_eq
 rw[X6]at this;have:=Xw (λx=>decide (x∈cl++st)) m;lia
def Way.next {s cl st c1 m D E:AB}{ks:List Ak}{L:AA->Bool}(W:Way s ks L cl st)(X:znk s ks){t:List Nat}(ht:t∈JN ks)(U:c1.Perm (zP (gsP cl st (pk1 ks t) (pk2 ks t))))(Y:m.Perm (zQ (gsP cl st (pk1 ks t) (pk2 ks t))))(x1:c1.Pairwise Cells.lex)(x2:m.Pairwise Cells.lex)(w:D.Perm (cl++c1))(A:E.Perm (st++m))
  (u1:(D.map toI).Pairwise λp q=>lt2 q p=false) (u2:(E.map toI).Pairwise λp q=>lt2 q p=false):Way s ks L D E:=by
 obtain⟨M,O⟩:=zjN ht;have I:=X.two W.tr.ap M O;have G:∀c∈c1,(c∈(pk1 ks t).2\/c∈(pk2 ks t).2)/\c ∉ st/\c ∉ cl:=λc hc=>QK I ((jd _).subset (U.mem_iff.mp hc));have J:∀c∈m,(c∈(pk1 ks t).2\/c∈(pk2 ks t).2)/\c ∉ st/\c ∉ cl:=λc hc=>QK I ((je _).subset (Y.mem_iff.mp hc));have r:∀c,(c∈(pk1 ks t).2\/c∈(pk2 ks t).2)->c∈s:=λc hc=>hc.elim (I.s1 c) (I.s2 c);obtain⟨a,b⟩:=zlo W.tr W.le M O I (λc hc=>U.mem_iff.mp hc) (λc hc=>Y.mem_iff.mp hc);have n1:(cl++c1).Nodup:=WX.mpr ⟨qm W.x1,qm x1,λc hc d B e=>by
  subst e;exact(G c B).2.2 hc⟩
 have n2:(st++m).Nodup:=WX.mpr ⟨qm W.x2,qm x2,λc hc d B e=>by
  subst e;exact(J c B).2.1 hc⟩
 exact⟨a.congr (λc z=>w.mem_iff.mp z) (λc z=>A.mem_iff.mp z),b.congr (λc z=>w.mem_iff.mp z) (λc z=>A.mem_iff.mp z),zdm (w.nodup_iff.mpr n1) u1,zdm (A.nodup_iff.mpr n2) u2,λc hc=>(XU.mp (w.mem_iff.mp hc)).elim (W.s1 c) λz=>r c (G c z).1,λc hc=>(XU.mp (A.mem_iff.mp hc)).elim (W.s2 c) λz=>r c (J c z).1⟩
abbrev Tg:=Option AA
abbrev Stp:=List Tg×AB×AB
def akT (rs:AD)(n:Int)(tg:Tg):Ak:=(zrb rs n tg,zdZ rs tg)
def a1T (rs:AD)(n:Int):List Tg->Ak
 | a::_=>akT rs n a
 | []=>K0
def a2T (rs:AD)(n:Int):List Tg->Ak
 | [_,b]=>akT rs n b
 | _=>K0
abbrev gsT (rs:AD)(n:Int)(cl st:AB)(ths:List Tg):List Rg:=gsP cl st (a1T rs n ths) (a2T rs n ths)
def clT (rs:AD)(n:Int)(cl st:AB)(ths:List Tg):AB:=(zv rs).filter λc=>decide (c∈zP (gsT rs n cl st ths))
def stT (rs:AD)(n:Int)(cl st:AB)(ths:List Tg):AB:=(zv rs).filter λc=>decide (c∈zQ (gsT rs n cl st ths))
def tells (rs:AD)(n:Int)(cl st:AB)(ths:List Tg):Bool:=!decide (zP (gsT rs n cl st ths)=[]/\zQ (gsT rs n cl st ths)=[])
def nxT (rs:AD)(n:Int)(lst:List (List Tg))(cl st:AB):Option Stp:=(lst.find? (tells rs n cl st)).map λm=>(m,clT rs n cl st m,stT rs n cl st m)
def zno (rs:AD)(cl c:AB):AB:=(zv rs).filter λx=>decide (x∈cl++c)
def z9 (rs:AD)(n:Int)(lst:List (List Tg)):Nat->List Stp×AB×AB
 | 0=>([],[],[])
 | k+1=>match nxT rs n lst (z9 rs n lst k).2.1 (z9 rs n lst k).2.2 with
  | none=>z9 rs n lst k
  | some s=>((z9 rs n lst k).1++[s],zno rs (z9 rs n lst k).2.1 s.2.1,zno rs (z9 rs n lst k).2.2 s.2.2)
def Qj {rs:AD}{n:Int}{lst:List (List Tg)}{k:Nat}{s:Stp}(h:nxT rs n lst (z9 rs n lst k).2.1 (z9 rs n lst k).2.2=some s):z9 rs n lst (k+1)=((z9 rs n lst k).1++[s],zno rs (z9 rs n lst k).2.1 s.2.1,zno rs (z9 rs n lst k).2.2 s.2.2):=by
 show (match nxT rs n lst (z9 rs n lst k).2.1 (z9 rs n lst k).2.2 with | none=>_ | some s=>_)=_;rw[h]
def zo6 {rs:AD}{n:Int}{lst:List (List Tg)}{i j:Nat}(hi:nxT rs n lst (z9 rs n lst i).2.1 (z9 rs n lst i).2.2=none)(s:nxT rs n lst (z9 rs n lst j).2.1 (z9 rs n lst j).2.2=none)(m:∀k,k<i->nxT rs n lst (z9 rs n lst k).2.1 (z9 rs n lst k).2.2≠none)(r:∀k,k<j->nxT rs n lst (z9 rs n lst k).2.1 (z9 rs n lst k).2.2≠none):i=j:=by
 rcases SV i j with h | h | h
 .exact absurd hi (r i h)
 .exact h
 .exact absurd s (m j h)
def zo7 {a b:AB}(ha:a.Pairwise Cells.lex)(m:b.Pairwise Cells.lex)(h:∀x,x∈a↔x∈b):a=b:=zoN ((WW (qm ha) (qm m)).mpr h) ha m
def xj {rs:AD}{c X:AB}(p:c.Perm X)(x:c.Pairwise Cells.lex)(h:∀y∈X,y∈zv rs):c=(zv rs).filter λy=>decide (y∈X):=by
 refine zo7 x ((znn rs).sublist Xm) λy=>?_;rw[X8,bu,p.mem_iff];exact⟨λz=>⟨h y z,z⟩,λz=>z.2⟩
theorem zjQ {α:Type}{p:α->Bool}:∀{l:List α} {i:Nat} {a:α},l[i]?=some a->p a=true->(∀j,j<i->∀b,l[j]?=some b->p b=false)->l.find? p=some a
 | [],_,_,h,_,_=>by simp at h
 | b::r,0,a,h,m,_=>by
  cases h;rw[VH,m]
 | b::r,i+1,a,h,m,s=>by
  rw[VH,s 0 (Um _) b rfl];exact zjQ (i:=i) h m λj w c hc=>s (j+1) (Nat.succ_lt_succ w) c hc
def prs {α:Type}:List α->List (List α)
 | []=>[]
 | a::r=>(r.map λb=>[a,b])++prs r
theorem zdv {α:Type}(k:α->Bool):∀l:List α,prs (l.filter k)=(prs l).filter λt=>t.all k
 | []=>rfl
 | a::r=>by
  show prs (Pi k (a::r))=Pi (λt=>t.all k) ((r.map λb=>[a,b])++prs r);rw[W6,<- zdv k r,WB,To];cases h:k a with
  | true =>
   rw[bw rfl];show ((r.filter k).map λb=>[a,b])++prs (r.filter k)=_;congr 3;funext b;simp[h]
  | false =>
   rw[bq XT];have:(r.filter ((λt:List α=>t.all k)∘λb=>[a,b]))=[]:=Wn.mpr λb _=>by simp[h]
   rw[this];rfl
def zb6 {α:Type}(d:α)(l:List α)(i:Nat):List (List α):=(WG i).flatMap λi=>(l.drop (i+1)).map λb=>[l.getD i d,b]
def zlr {α:Type}(d a:α)(r:List α):∀i,zb6 d (a::r) (i+1)=(r.map λb=>[a,b])++zb6 d r i:=λi=>by
 unfold zb6;rw[List.range_succ_eq_map,VX,List.flatMap_map];rfl
theorem ziE {α:Type}(d:α):∀l:List α,zb6 d l l.length=prs l
 | []=>rfl
 | a::r=>by
  rw[Xn,zlr,ziE d r];rfl
def zeQ {α:Type}(d:α)(l:List α)(i:Nat):zb6 d l (i+1)=zb6 d l i++(l.drop (i+1)).map λb=>[l.getD i d,b]:=by
 unfold zb6;rw[UI,Wd,VX,Re,Xx]
def zH (tgs:List Tg):List (List Tg):=tgs.map (λt=>[t])++prs tgs
def zjR (rs:AD):List Tg->Bool
 | [a,b]=>(zdZ rs a).any λc=>decide (c∈zdZ rs b)
 | _=>false
def qk (rs:AD)(tgs:List Tg):List (List Tg):=tgs.map (λt=>[t])++(prs tgs).filter (zjR rs)
def zdw {α:Type}(d:α)(l:List α)(i:Nat):((WG (l.length-i)).map λj=>l.getD (i+j) d)=l.drop i:=by
 refine List.ext_getElem (by rw[ZB,WE,Wl]) λj r m=>?_;rw[Wl]at m;rw[List.getElem_map,List.getElem_range,List.getElem_drop,Xq,XX (by lia)];rfl
theorem zdx {α s:Type}{f g:α->List s}:∀{l:List α},(∀a∈l,f a=g a)->l.flatMap f=l.flatMap g
 | [],_=>rfl
 | a::r,h=>by rw[VX,VX,h a X5,zdx λb m=>h b (Y1 _ m)]
def zdy {rs:AD}{n:Int}{tgs:List Tg}{i:Nat}(h:i<tgs.length):(zD rs n tgs).getD i K0=akT rs n (tgs.getD i none):=by
 unfold zD;rw[Xq,Xq,XC,XX h];rfl
def zhi (rs:AD)(n:Int)(tgs:List Tg):(JN (zD rs n tgs)).map (λt=>t.map λi=>tgs.getD i none)=qk rs tgs:=by
 have r:(zD rs n tgs).length=tgs.length:=by
  unfold zD;rw[ZB]
 unfold JN qk;rw[XB,Ws,r];congr 1
 .have:=congrArg (Ug λt=>[t]) (zdw (none:Tg) tgs 0);rw[Op,Pe,Ws]at this;rw[<- this];refine Xb λi hi=>?_;show [tgs.getD i none]=[tgs.getD (0+i) none];rw[VI]
 .rw[<- ziE none tgs];unfold xK zb6;rw[List.map_flatMap,List.filter_flatMap];refine zdx λi hi=>?_;have hi:=Wv.mp hi;unfold zfC;rw[r,<- zdw none tgs (i+1),Ws,Ws,To];have e:((WG (tgs.length-(i+1))).filter λj=>za0 (zD rs n tgs) i (i+1+j))=(WG (tgs.length-(i+1))).filter (zjR rs∘((λb=>[tgs.getD i none,b])∘λj=>tgs.getD (i+1+j) none)):=VY λj m=>by
   have m:=Wv.mp m;unfold za0;rw[zdy (n:=n) (show i<tgs.length by lia),zdy (n:=n) (show i+1+j<tgs.length by lia)];rfl
  rw[e];rfl
def znp {rs:AD}{n:Int}{tgs:List Tg}{t:List Nat}(h:t∈JN (zD rs n tgs)):pk1 (zD rs n tgs) t=a1T rs n (t.map λi=>tgs.getD i none)/\pk2 (zD rs n tgs) t=a2T rs n (t.map λi=>tgs.getD i none):=by
 have s:(zD rs n tgs).length=tgs.length:=by
  unfold zD;rw[ZB]
 rcases zbC.mp h with ⟨i,hi,rfl⟩ | ⟨i,j,m,r,_,rfl⟩
 .exact⟨zdy (show i<_ by lia),rfl⟩
 .exact⟨zdy (show i<_ by lia),zdy (show j<_ by lia)⟩
def zeR {rs:AD}{n:Int}{cl st:AB}{ths:List Tg}{c:AA}(h:c∈(gsT rs n cl st ths).flatMap λg=>g.1):c∈zv rs:=by
 have m:c∈Two.both (zV cl st (a1T rs n ths).2) (zV cl st (a2T rs n ths).2)++(Two.alone (zV cl st (a1T rs n ths).2) (zV cl st (a2T rs n ths).2)++(Two.alone (zV cl st (a2T rs n ths).2) (zV cl st (a1T rs n ths).2)++[])):=h;have sub:∀r,∀c∈(akT rs n r).2,c∈zv rs:=λr c hc=>zcq.subset hc;have s1:∀c∈(a1T rs n ths).2,c∈zv rs:=λc hc=>by
  unfold a1T at hc;split at hc
  .exact sub _ c hc
  .cases hc
 have s:∀c∈(a2T rs n ths).2,c∈zv rs:=λc hc=>by
  unfold a2T at hc;split at hc
  .exact sub _ c hc
  .cases hc
 rw[Xx,XU,XU]at m;rcases m with h | h | h
 .exact s1 c (yg.mp (X8.mp h).1).1
 .exact s1 c (yg.mp (X8.mp h).1).1
 .exact s c (yg.mp (X8.mp h).1).1
def tells_no {rs:AD}{n:Int}{cl st:AB}{ths:List Tg}(h:zP (gsT rs n cl st ths)=[]/\zQ (gsT rs n cl st ths)=[]):tells rs n cl st ths=false:=by
 unfold tells;rw[br h];rfl
def tells_yes {rs:AD}{n:Int}{cl st:AB}{ths:List Tg}(h:¬ (zP (gsT rs n cl st ths)=[]/\zQ (gsT rs n cl st ths)=[])):tells rs n cl st ths=true:=by
 unfold tells;rw[bf h];rfl
def zpP {rs:AD}{n:Int}{cl st c1 m:AB}{lst:List (List Tg)}{i:Nat}{ths:List Tg}(h:lst[i]?=some ths)(w:∀j,j<i->∀t,lst[j]?=some t->tells rs n cl st t=false)
  (r:c1.Perm (zP (gsT rs n cl st ths))) (s:m.Perm (zQ (gsT rs n cl st ths))) (B:c1.Pairwise Cells.lex) (D:m.Pairwise Cells.lex) (he:¬ (c1=[]/\m=[])):nxT rs n lst cl st=some (ths,c1,m):=by
 have A:tells rs n cl st ths=true:=tells_yes λz=>he ⟨(z.1 ▸ r).eq_nil,(z.2 ▸ s).eq_nil⟩;unfold nxT;rw[zjQ h A w,xj r B λy hy=>zeR ((jd _).subset hy),xj s D λy hy=>zeR ((je _).subset hy)];rfl
def zjS {rs:AD}{n:Int}{cl st:AB}{lst:List (List Tg)}(h:∀t∈lst,tells rs n cl st t=false):nxT rs n lst cl st=none:=by
 unfold nxT;rw[Te.mpr λt m=>by rw[h t m];exact XT];rfl
theorem zad {α:Type}{p q:α->Bool}:∀{l:List α},(∀a∈l,p a=q a)->l.find? p=l.find? q
 | [],_=>rfl
 | a::r,h=>by rw[VH,VH,h a X5,zad λb m=>h b (Y1 _ m)]
theorem zcr {α:Type}{t:List α}:∀{l:List α},t∈prs l->∃a b,a∈l/\b∈l/\t=[a,b]
 | a::r,h=>by
  rcases XU.mp h with h | h
  .obtain⟨b,m,e⟩:=XN.mp h;exact⟨a,b,X5,Y1 _ m,e.symm⟩
  .obtain⟨x,y,hx,hy,e⟩:=zcr h;exact⟨x,y,Y1 _ hx,Y1 _ hy,e⟩
def zjT {rs:AD}{n:Int}{cl st:AB}{tg:Tg}{c:AA}(e:zdZ rs tg=[])(h:c∈(gsT rs n cl st [tg]).flatMap λg=>g.1):False:=by
 have m:(a1T rs n [tg]).2=[]:=e;unfold gsT gsP zhd at h;rw[m]at h;simp[zV,Two.both,Two.alone,a2T]at h
def JP (rs:AD):Tg->Bool
 | none=>true
 | some o=>!(clA rs o).isEmpty
def zjU {rs:AD}{n:Int}{cl st:AB}{tgs:List Tg}{L:AA->Bool}(B:(zv rs).length<=20)(D:tgs.length<=32)(tr:jr (zD rs n tgs) L cl st):nxT rs n (qk rs (tgs.filter (JP rs))) cl st=nxT rs n (zH tgs) cl st:=by
 have X:=za1 (n:=n) D B;have r:∀m∈tgs,akT rs n m∈zD rs n tgs:=λm h=>XN.mpr ⟨m,h,rfl⟩;unfold nxT qk zH;congr 1;rw[RB,RB,zdv,Vk];have one:((tgs.filter (JP rs)).map λt=>[t]).find? (tells rs n cl st)=(tgs.map λt=>[t]).find? (tells rs n cl st):=by
  rw[Pc,Pc,List.find?_filter];congr 1;refine zad λm _=>?_;cases hk:JP rs m with
  | true=>simp
  | false =>
   have e:zdZ rs m=[]:=by
    cases m with
    | none=>cases hk
    | some o=>simpa[JP,zdZ] using hk
   have:tells rs n cl st [m]=false:=by
    refine tells_no ⟨?_,?_⟩
    .exact VQ.mpr λc hc=>zjT e ((jd _).subset hc)
    .exact VQ.mpr λc hc=>zjT e ((je _).subset hc)
   simp[this]
 rw[one];cases h1:(tgs.map λt=>[t]).find? (tells rs n cl st) with
 | some a=>rfl
 | none =>
  show ((prs tgs).filter _).find? _=(prs tgs).find? _;rw[List.find?_filter];have U:∀m∈tgs,zeP cl st (akT rs n m) K0:=λm h=>by
   have:=Te.mp h1 [m] (XN.mpr ⟨m,h,rfl⟩);have e:zP (gsT rs n cl st [m])=[]/\zQ (gsT rs n cl st [m])=[]:=Wx λz=>this (tells_yes z);exact zo4 tr (r m h) (.inr rfl) (X.two tr.ap (r m h) (.inr rfl)) e.1 e.2
  refine zad λt ht=>?_;obtain⟨a,b,ha,A,rfl⟩:=zcr ht;cases hm:zjR rs [a,b] with
  | true =>
   obtain⟨c,hc,w⟩:=WL.mp hm;have w:=bg w;have O:∀{m:Tg} {c:AA},c∈zdZ rs m->JP rs m=true:=λ{m c} h=>by
    cases m with
    | none=>rfl
    | some o=>exact WA _ |>.mpr (Vq.mpr (Ui h))
   simp[O hc,O w]
  | false =>
   have Y:∀c∈(akT rs n a).2,c ∉ (akT rs n b).2:=λc hc w=>by
    rw[show zjR rs [a,b]=true from WL.mpr ⟨c,hc,br w⟩]at hm;cases hm
   have s:=znh tr (r a ha) (r b A) (U a ha) (U b A) Y;have I:=X.two tr.ap (r a ha) (.inl (r b A));have f:=tr.fit (r a ha) (.inl (r b A));have:tells rs n cl st [a,b]=false:=tells_no ⟨VQ.mpr λc hc=>?_,VQ.mpr λc hc=>?_⟩
   .simp[this]
   .obtain⟨E,G,J,M⟩:=(JL I f).mp hc;exact s c false E J G M
   .obtain⟨E,G,J,M⟩:=(JM I f).mp hc;exact s c true E J G M
def znq {rs:AD}{n:Int}{tgs:List Tg}{cl st c1 r:AB}{i:Nat}{t:List Nat}(B:(JN (zD rs n tgs))[i]?=some t)(G:∀j,j<i->∀t',(JN (zD rs n tgs))[j]?=some t'->Emp cl st (zD rs n tgs) t')(D:c1.Perm (zP (gsP cl st (pk1 (zD rs n tgs) t) (pk2 (zD rs n tgs) t))))(E:r.Perm (zQ (gsP cl st (pk1 (zD rs n tgs) t) (pk2 (zD rs n tgs) t))))
  (L:c1.Pairwise Cells.lex) (M:r.Pairwise Cells.lex) (he:¬ (c1=[]/\r=[])):nxT rs n (qk rs tgs) cl st=some (t.map λi=>tgs.getD i none,c1,r):=by
 obtain⟨s,w⟩:=znp (X4 B);rw[s,w]at D E;rw[<- zhi rs n];refine zpP (i:=i) (by rw[XC,B];rfl) (λj I t' m=>?_) D E L M he;rw[XC]at m;obtain⟨J,A,rfl⟩:=Vw.mp m;have:=G j I J A;unfold Emp at this;obtain⟨s,w⟩:=znp (X4 A);rw[s,w]at this;exact tells_no this
def zpQ {rs:AD}{n:Int}{tgs:List Tg}{cl st:AB}(A:∀t∈JN (zD rs n tgs),Emp cl st (zD rs n tgs) t):nxT rs n (qk rs tgs) cl st=none:=by
 rw[<- zhi rs n];refine zjS λD m=>?_;obtain⟨B,r,rfl⟩:=XN.mp m;have:=A B r;unfold Emp at this;obtain⟨s,w⟩:=znp r;rw[s,w]at this;exact tells_no this
def zb7 (H:Hp)(v:V)(x:Stp×List Addr):Prop:=∃(r tl m s:Addr) (w A B:AE),v=.ref r/\x.2=[tl,m,s]/\H r=some (.tup [.ref tl,.ref m,.ref s])/\H tl=some (.lst w)/\XG (xT H) w x.1.1/\H m=some (.lst A)/\H s=some (.lst B)/\Cel H A x.1.2.1/\Cel H B x.1.2.2
abbrev j5 (H:Hp):AE->List (Stp×List Addr)->Prop:=XG (zb7 H)
abbrev qU (sas:List (Stp×List Addr)):List Addr:=sas.flatMap λx=>x.2
theorem zb7.mono {H m:Hp}{v:V}{x:Stp×List Addr}(s:zo H m)(h:zb7 H v x):zb7 m v x:=by
 obtain⟨r,tl,w,A,O,U,Y,e,B,D,E,G,I,J,L,M⟩:=h;exact cF r tl w A (cE O U (c6 Y e B (s _ _ D) (s _ _ E) (Paired.imp' (λ_ _ z=>xT.mono s z) G) (s _ _ I) (s _ _ J) (L.mono s) (M.mono s)))
theorem j5.mono {H m:Hp}{vs:AE}{sas:List (Stp×List Addr)}(s:zo H m)(h:j5 H vs sas):j5 m vs sas:=Paired.imp' (λ_ _ z=>zb7.mono s z) h
def zcs {H:Hp}{d:Addr}{m ys:AE}(r:H d=some (.lst m)){tv:AE}{ths:List Tg}(h:XG (xT H) tv ths):XG (xT (upd H d (.lst ys))) tv ths:=Paired.imp' (λv s z=>by
 cases s with
 | none=>exact z
 | some c =>
  obtain⟨a,e,q⟩:=z;refine⟨a,e,?_⟩;rw[zg λw=>by rw[w,r]at q;cases q];exact q) h
theorem zb7.into {H:Hp}{v:V}{x:Stp×List Addr}{d:Addr}{A ys:AE}(m:H d=some (.lst A))(n:d ∉ x.2)(h:zb7 H v x):zb7 (upd H d (.lst ys)) v x:=by
 obtain⟨r,tl,D,E,U,Y,w2,e,B,s,G,I,J,L,M,O⟩:=h;rw[B]at n;refine cF r tl D E (cE U Y (c6 w2 e B ?_ ?_ (zcs m I) ?_ ?_ (Cel.into d _ m M) (Cel.into d _ m O)))
 .rw[zg λw=>by rw[w,m]at s;cases s];exact s
 .rw[zg λw=>n (by rw[<- w];exact X5)];exact G
 .rw[zg λw=>n (by rw[<- w];exact Y1 _ X5)];exact J
 .rw[zg λw=>n (by rw[<- w];exact Y1 _ (Y1 _ X5))];exact L
theorem j5.into {H:Hp}{d:Addr}{m ys:AE}(r:H d=some (.lst m)):∀{vs:AE} {sas:List (Stp×List Addr)},d ∉ qU sas->j5 H vs sas->j5 (upd H d (.lst ys)) vs sas
 | _,_,_,.nil=>.nil
 | _,_,n,.cons h t=>.cons (h.into r λz=>n (W4 _ z)) (j5.into r (λz=>n (WZ _ z)) t)
theorem j5.there {H:Hp}{a:Addr}:∀{vs:AE} {sas:List (Stp×List Addr)},j5 H vs sas->a∈qU sas->∃xs,H a=some (.lst xs)
 | _,_,.cons ⟨r,tl,B,D,tv,L,M,e,m,E,s,G,w,A,I,J⟩ t,h=>by
  rcases XU.mp h with h | h
  .have z:a∈(_:Stp×List Addr).2:=h;rw[m]at z;rcases XQ.mp z with rfl | h
   .exact⟨_,s⟩
   .rcases XQ.mp h with rfl | h
    .exact⟨_,w⟩
    .rw[Wz.mp h];exact⟨_,A⟩
  .exact j5.there t h
structure Told (H0 H:Hp)(t sa fa fc fs:Addr)(sv us ws:AE)(sas:List (Stp×List Addr))(cl st:AB):Prop where
 tp:H t=some (.tup [.ref sa,.ref fa])
 h:H sa=some (.lst sv)
 s:j5 H sv sas
 f:jq H fa fc fs us ws cl st
 nd:(sa::fc::fs::qU sas).Nodup
 fr:∀a∈sa::fc::fs::qU sas,H0 a=none
 sm:zo H0 H
 l:sv.length<=20
def zhj (rs:AD)(n:Int)(lst:List (List Tg))(k:Nat):Prop:=nxT rs n lst (z9 rs n lst k).2.1 (z9 rs n lst k).2.2=none/\∀i,i<k->nxT rs n lst (z9 rs n lst i).2.1 (z9 rs n lst i).2.2≠none
def NxV (w H:Hp)(rs:AD)(n:Int)(tgs:List Tg)(s:List Addr)(cl st:AB)(v:V):Prop:=(v=.non/\nxT rs n (qk rs tgs) cl st=none)\/∃(t:List Nat) (c1 m:AB) (r:List Addr),t∈JN (zD rs n tgs)/\c1.Perm (zP (gsP cl st (pk1 (zD rs n tgs) t) (pk2 (zD rs n tgs) t)))/\m.Perm (zQ (gsP cl st (pk1 (zD rs n tgs) t) (pk2 (zD rs n tgs) t)))/\c1.Pairwise Cells.lex/\m.Pairwise Cells.lex/\¬ (c1=[]/\m=[]) /\
 nxT rs n (qk rs tgs) cl st=some (t.map λi=>tgs.getD i none,c1,m)/\zb7 H v ((t.map λi=>tgs.getD i none,c1,m),r)/\r.Nodup/\∀a∈r,w a=none/\a ∉ s
def zsl {R:Prop}{G:V->Hp->Prop}(A:V->Hp->Prop)(h:(∀v H,A v H->G v H)->R)(k:∀v H,A v H->G v H):R:=h k
def znr (C:Addr):Sp:=λvs H Q E=>∃(p l B:Addr) (r:AD) (n:Int) (w:AE) (m:List (Option AA)) (L:AA->Bool),vs=[.ref p,.ref B]/\qe H p l r n/\Rows bd.cps.toList r/\H B=some (.lst w)/\XG (xT H) w m/\m.length<=32/\(∀c,some c∈m->c∈zU r)/\(zv r).length<=20/\jr (zD r n m) L [] [] /\
 ∀(t sa D G fs:Addr) (I J M:AE) (s:List (Stp×List Addr)) (k:Nat) (A:Hp),Told H A t sa D G fs I J M s (z9 r n (qk r m) k).2.1 (z9 r n (qk r m) k).2.2->s.map (λx=>x.1)=(z9 r n (qk r m) k).1->zhj r n (qk r m) k->Q (.ref t) A
def Zj {rs:AD}(R:Rows bd.cps.toList rs){c:AA}(h:c∈zv rs):c.1<8/\c.2<8:=by
 obtain⟨t,k,s,hk,_,_⟩:=qh h;have a:=R.hi;obtain⟨m,_,w,r⟩:=R.ex;have e:=(r t (X4 s)).len;have b:=(XV.mp s).1;have d:=(XV.mp hk).1;rw[XZ]at d;lia
def jb:zE ["board","things","asked","lists","steps","finding","step"] ["board","things"] (zp J9):=bh
def zfD (T:Txt mg)(Z:Prog K mg)(bG:J6 K mg "NoLaying" jaa){f:Addr}{fd:XF}(D:zk K mg "all_steps" J9 ["board","things"] f fd):zY P w K mg base (CXE P w) 4 f fd ["board","things"] (znr jaa):=by
 obtain⟨cq,QI,zO⟩:=Z.around;obtain⟨QJ,Yv,zq⟩:=Z.sign_at;obtain⟨Yw,Zh,zC⟩:=Z.cells_of;obtain⟨ct,cr,jS⟩:=Z.closed;obtain⟨Qf,Yx,zZ⟩:=Z.number_at;obtain⟨yp,j4,zF⟩:=Z.closed_around;obtain⟨cv,cu,JQ⟩:=Z.asked_by;obtain⟨cw,cy,QY⟩:=Z.place_lists;obtain⟨cz,cx,YB⟩:=Z.first_step;have bV:=zbU (P:=P) (w:=w) (base:=base) T JQ zO zq zC jS zZ zF;have bW:=zdq (P:=P) (w:=w) (base:=base) T QY;have b1:=zd0 (P:=P) (w:=w) (base:=base) T Z bG YB;refine D.F.okX jb (λvs H Q E h=>?_) (λcc A bK s H vs Q E hr h=>?_)
 .revert h;refine di λp l th J n aw G L=>c8 λz0 _=>?_;subst z0;rfl
 .revert h;refine di λp l th J n aw G L=>dD λz0 B R ab=>dh λhT bQ b8 a7 b0 q=>?_;subst z0;refine⟨_,(ze (psC 2 jb.nd ["thing","board"] [none,some 0] cR (zJ (pvS 1)) (pgN 0) qo (pc0 bV hr JQ (za (pvS 1) (za (pvS 0) zd)))) (ze (qR 3 jb.nd (pc0 bW hr QY (za (pvS 2) zd))) (@ze _ _ _ _ _ (@qx _ _ 4 _ _ _ _ jb.nd rfl (VU rfl) (@zR _ _ _ _ zd) (by rfl) (.inr rfl)) (@ze _ _ _ _ _ (@qx _ _ 5 _ _ _ _ jb.nd rfl (VU rfl) (@qu _ _ _ _ _ (@za _ _ _ _ _ (@zR _ _ _ _ zd) (@za _ _ _ _ _ (@zR _ _ _ _ zd) zd rfl) rfl)) (by rfl) (.inr rfl)) (ze (qR 6 jb.nd (pcL jI b1 hr YB (za (pvS 1) (za (pvS 2) (za (pvS 3) (za (pvS 5) zd)))))) (ze (zfW (xX.own jI) (qp zi1 (pvS 6) ze2 (qb _)) (ze (qV (yV W7 WJ WI jP (pvS 4) (za (pvS 6) zd))) (ze (qR 5 jb.nd (qu (za (pb1 GS.jJ T.yP Wm (zx yX (zG qa (pvS 5) zf (λ_ _=>rfl)) (zG qa (pvS 6) zf (λ_ _=>rfl)))) (za (pb1 GS.jJ T.yP Wm (zx yX (zG qa (pvS 5) zf (λ_ _=>rfl)) (zG qa (pvS 6) zf (λ_ _=>rfl)))) zd)))) (zh (qR 6 jb.nd (pcL jI b1 hr YB (za (pvS 1) (za (pvS 2) (za (pvS 3) (za (pvS 5) zd)))))))))) (zh (zB (qu (za (pvS 4) (za (pvS 5) zd))))))))))),?_⟩;(try dsimp only[cxK,cxP,cxW]);have X:=za1 (n:=n) bQ a7;have kl:(zD J n G).length=G.length:=by
   unfold zD;rw[ZB]
  refine⟨_,rfl,th,rfl,⟨_,SqL.of ab⟩,λla ba=>?_⟩;refine qv (K:=K) (a:=th) (xs:=aw) (λi σ H'=>∃(u0:Option V) (ys:AE),σ=[u0,some (.ref p)]/\zo H H'/\H' la=some (.lst ys)/\XG (AkN (· ≠ la) H') ys (zD J n (G.take i))) ⟨_,[],rfl,zc ba,zb,.nil⟩ (λi σ H' _ ⟨_,_,_,s',_⟩=>SqL.of (s' _ _ ab)) ?_ ?_
  .refine λi x σ H2 hx=>dj λu0 ys z0 s2 aH hP=>?_;subst z0;obtain⟨tg,bj,bB⟩:=yK hT hx;have ho:∀c,tg=some c->c∈zU J:=λc e=>b8 c (by rw[<- e];exact X4 bj);unfold yD;refine Yt ?_;refine⟨_,rfl,_,rfl,p,l,J,n,x,tg,rfl,B.mono s2,R,bB.mono s2,ho,λt l2 us3 H3 f1 f2 be b7 bY s3=>?_⟩;have aI:=s3 _ _ aH;have n1:t≠la:=Qc be aI (by intro q;cases q);have n2:l2≠la:=λz=>by
    rw[z,aH]at f2;cases f2
   have yl:ys.length<=32:=by
    rw[Paired.length hP];unfold zD;rw[ZB,XM];lia
   refine⟨ys,aI,XJ yl (by decide),_,ys++[.ref t],rfl,λb o e'=>?_,zb,?_⟩
   .rw[zg (zj e' ba)];exact s3 _ _ (s2 _ _ e')
   .unfold zD at *
    rw[take_snoc bj,XB];refine Paired.snoc (zdr aH (λb o nb e=>by rw[zg nb];exact s3 _ _ e) hP) ⟨t,l2,us3,rfl,n1,n2,?_,?_,Cel.into la _ aI bY⟩
    .rw[zg n1];exact be
    .rw[zg n2];exact b7
  refine λσ H2=>dj λu0 ys z0 s2 aB hP=>?_;subst z0;rw[Paired.length hT,XE]at hP;have hV:=znl hP;have bH:∀k∈zD J n G,k.2.length<=64:=λk hk=>XY (X.n k hk).2.1 (by decide);refine⟨_,rfl,la,ys,zD J n G,rfl,aB,hV,by lia,bH,λpl us H3 bZ b9 s3=>?_⟩;refine⟨yU,λsa aG=>⟨yU,λM a8=>⟨yU,λO am=>⟨j9,λac bX=>?_⟩⟩⟩⟩;have y1:=zc (o:=.lst []) aG;have y2:=zc (o:=.lst []) a8;have y3:=zc (o:=.lst []) am;have y4:=zc (o:=.tup [.ref M,.ref O]) bX;have ci:=s2.trans (s3.trans (y1.trans (y2.trans (y3.trans y4))));have n1:M≠sa:=λe=>by
   rw[e,zb]at a8;cases a8
  have n2:O≠sa:=λe=>by
   rw[e,y2 _ _ zb]at am;cases am
  have n3:M≠O:=λe=>by
   rw[<- e,zb]at am;cases am
  have F0:jq (upd (upd (upd (upd H3 sa (.lst [])) M (.lst [])) O (.lst [])) ac (.tup [.ref M,.ref O])) ac M O [] [] [] []:=⟨zb,y4 _ _ (y3 _ _ zb),y4 _ _ zb,.nil,.nil⟩;have aC:(upd (upd (upd (upd H3 sa (.lst [])) M (.lst [])) O (.lst [])) ac (.tup [.ref M,.ref O])) sa=some (.lst []):=y4 _ _ (y3 _ _ (y2 _ _ zb));have aK:zo H3 (upd (upd (upd (upd H3 sa (.lst [])) M (.lst [])) O (.lst [])) ac (.tup [.ref M,.ref O])):=y1.trans (y2.trans (y3.trans y4));generalize upd (upd (upd (upd H3 sa (.lst [])) M (.lst [])) O (.lst [])) ac (.tup [.ref M,.ref O])=H4 at *
  have first:∀(Hc:Hp) (fa fc fs:Addr) (u w':AE) (cl st:AB),zo H3 Hc->jq Hc fa fc fs u w' cl st->Way (zv J) (zD J n G) L cl st->zjO Hc th la pl fa fc fs aw ys us u w' G (zD J n G) cl st:=by
   intro Hc fa fc fs u w' cl st sc F W;have bp:=s2.trans (s3.trans sc);have bt:=s3.trans sc;have wl:=W.len X.nd a7;exact⟨bp _ _ ab,Paired.imp' (λ_ _ h=>xT.mono bp h) hT,bt _ _ aB,zdp bt hV,sc _ _ bZ,xU sc b9,F,⟨λc hc=>Zj R (W.s1 c hc),λc hc=>Zj R (W.s2 c hc),by lia,by lia⟩,kl.symm⟩
  have cg:∀{Hc:Hp} {o:HO} {a d:Addr},Hc a=some o->Hc d=none->d≠a:=λh f e=>by
   rw[e,h]at f;cases f
  have W0:Way (zv J) (zD J n G) L [] []:=⟨b0,zhf _ _,.nil,.nil,(λ_ h=>nomatch h),λ_ h=>nomatch h⟩;have af:∀{Hc:Hp} {as:List Addr} {sv:AE} {sas:List (Stp×List Addr)} {fc fs:Addr} {x1 x2:AE},Hc sa=some (.lst sv)->Hc fc=some (.lst x1)->Hc fs=some (.lst x2)->j5 Hc sv sas->∀d,Hc d=none->d ∉ sa::fc::fs::qU sas:=λ{Hc as sv sas fc fs x1 x2} h1 h2 h3 h4 d hd z=>by
   have:∃o,Hc d=some o:=by
    rcases XQ.mp z with rfl | z
    .exact⟨_,h1⟩
    .rcases XQ.mp z with rfl | z
     .exact⟨_,h2⟩
     .rcases XQ.mp z with rfl | z
      .exact⟨_,h3⟩
      .obtain⟨xs,h⟩:=h4.there z;exact⟨_,h⟩
   obtain⟨o,e⟩:=this;rw[hd]at e;cases e
  have mk:∀{Hc H':Hp} {af:List Addr} {cl st c1 c2:AB} {i:Nat} {t:List Nat} {r tl d1 d2:Addr} {tv w1 w2:AE},zo H Hc->(∀d,Hc d=none->d ∉ af)->(JN (zD J n G))[i]?=some t->(∀j,j<i->∀t',(JN (zD J n G))[j]?=some t'->Emp cl st (zD J n G) t')->c1.Perm (zP (gsP cl st (pk1 (zD J n G) t) (pk2 (zD J n G) t)))->c2.Perm (zQ (gsP cl st (pk1 (zD J n G) t) (pk2 (zD J n G) t)))->c1.Pairwise Cells.lex->c2.Pairwise Cells.lex->¬ (c1=[]/\c2=[])->Hc d1=none->Hc d2=none->Hc tl=none->[tl,d1,d2].Nodup->H' r=some (.tup [.ref tl,.ref d1,.ref d2])->H' tl=some (.lst tv)->XG (xT H') tv (t.map λi=>G.getD i none)->H' d1=some (.lst w1)->H' d2=some (.lst w2)->Cel H' w1 c1->Cel H' w2 c2->NxV H H' J n G af cl st (.ref r):=by
   intro Hc H' af cl st c1 c2 i t r tl d1 d2 tv w1 w2 sc ho ht hE p1 p2 x1 x2 he f1 f2 f3 nd aj av ab ah ai g1 g2;refine .inr (cF t c1 c2 [tl,d1,d2] (cU (X4 ht) p1 p2 x1 (cM x2 he (znq ht hE p1 p2 x1 x2 he) (cF r tl d1 d2 (cE tv w1 (c6 w2 rfl rfl aj av ab ah ai g1 g2))) nd (λa ha=>?_))));have:Hc a=none:=by
    rcases XQ.mp ha with rfl | ha
    .exact f3
    .rcases XQ.mp ha with rfl | ha
     .exact f1
     .rw[Wz.mp ha];exact f2
   exact⟨sc.free this,ho a this⟩
  have ak:zo H H3:=s2.trans s3;have bJ:[sa,M,O].Nodup:=by simp[Vc n1,Vc n2,n3]
  have b2:∀a ∈ [sa,M,O],H3 a=none:=λa ha=>by
   rcases XQ.mp ha with rfl | ha
   .exact aG
   .rcases XQ.mp ha with rfl | ha
    .exact y1.free a8
    .rw[Wz.mp ha];exact(y1.trans y2).free am
  refine' zsl (λv H5=>NxV H H5 J n G [sa,M,O] [] [] v/\zo H4 H5) (λgo=>?gTail) ?gRest
  case gTail =>
   refine⟨_,rfl,_,rfl,_,rfl,_,rfl,th,la,pl,ac,M,O,aw,ys,us,[],[],G,zD J n G,zv J,[],[],L,rfl,first H4 ac M O [] [] [] [] aK F0 W0,X,b0,?gN,λi t c1 c2 r tl d1 d2 tv w1 w2 H' ht hE p1 p2 x1 x2 he f1 f2 f3 f4 aj av ab ah ai g1 g2 s'=>?gS⟩
   case gS =>
    have hv:=mk (ak.trans aK) (af (sas:=[]) (as:=[]) aC F0.h1 F0.h2 .nil) ht hE p1 p2 x1 x2 he f1 f2 f3 f4 aj av ab ah ai g1 g2
    clear aj
    revert hv
    generalize V.ref r=v
    intro hv
    exact go v H' ⟨hv,s'⟩
   case gN=>exact λhE H' s'=>go _ _ ⟨.inl ⟨rfl,zpQ hE⟩,s'⟩
  rintro v H5 ⟨hv,aM⟩;refine⟨λm σ H'=>∃(fa fc fs:Addr) (sv u w':AE) (cl st:AB) (v:V) (sas:List (Stp×List Addr)) (k:Nat),m=20-(cl.length+st.length)/\σ=[some (.ref p),some (.ref th),some (.ref la),some (.ref pl),some (.ref sa),some (.ref fa),some v]/\zo H3 H'/\H' sa=some (.lst sv)/\sv.length<=cl.length+st.length/\jq H' fa fc fs u w' cl st/\(sa::fc::fs::qU sas).Nodup/\(∀a∈sa::fc::fs::qU sas,H a=none)/\Way (zv J) (zD J n G) L cl st/\j5 H' sv sas/\z9 J n (qk J G) k=(sas.map (λx=>x.1),cl,st)/\(∀i,i<k->nxT J n (qk J G) (z9 J n (qk J G) i).2.1 (z9 J n (qk J G) i).2.2≠none)/\NxV H H' J n G (sa::fc::fs::qU sas) cl st v,⟨_,(cF ac M O [] (cF [] [] [] [] (cE v [] (c6 0 rfl rfl (aK.trans aM) (aM _ _ aC) (XR _) (F0.mono aM) bJ (λa ha=>ak.free (b2 a ha)) (cU W0 (.nil) rfl (λi hi=>absurd hi (U6 _)) hv)))))⟩,?_⟩
  refine λm σ H6=>di λfa fc fs sv u w' cl st=>dB λv sas k z0 z1 s6 U=>dD λcj F nd fr=>dD λW hS hk bk hv=>?_;subst z0 z1;have wl:=W.len X.nd a7;refine⟨_,rfl,rfl,_,rfl,?_⟩;rcases hv with ⟨rfl,hE⟩ | ⟨t,c1,c2,as,ht,p1,p2,x1,x2,he,bb,⟨r,tl,d1,d2,tv,w1,w2,rfl,ay,aF,av,ab,ah,ai,g1,g2⟩,bI,an⟩
  .refine jk (by decide) ?_;refine⟨_,rfl,_,rfl,j9,λtt bE=>?_⟩;have y:=zc (o:=.tup [.ref sa,.ref fa]) bE;refine q tt sa fa fc fs sv u w' sas k _ ?_ (by rw[hk]) ⟨by rw[hk];exact hE,bk⟩;rw[hk];exact⟨zb,y _ _ U,hS.mono y,F.mono y,nd,fr,ak.trans (s6.trans y),by lia⟩
  .refine j6 (by rw[bf (λz=>nomatch z)];rfl) ?_;refine⟨_,fun c0 H' h=>h,?_⟩;have ae:=WS.mp nd;have ay:as=[tl,d1,d2]:=ay;have g1:Cel H6 w1 c1:=g1;have g2:Cel H6 w2 c2:=g2;have bo:∀a ∈ [tl,d1,d2],a≠sa:=λa ha e=>(an a (by rw[ay];exact ha)).2 (by rw[e];exact X5);have nc:fc≠sa:=λe=>ae.1 (by rw[<- e];exact X5);have ns:fs≠sa:=λe=>ae.1 (by rw[<- e];exact Y1 _ X5);have e1:=bo d1 (Y1 _ X5);have e2:=bo d2 (Y1 _ (Y1 _ X5));have aD:j5 (upd H6 sa (.lst (sv++[.ref r]))) (sv++[.ref r]) (sas++[((t.map λi=>G.getD i none,c1,c2),as)]):=Paired.snoc (j5.into U (λz=>ae.1 (Y1 _ (Y1 _ z))) hS) (zb7.into U (λz=>(an sa z).2 X5) (cF r tl d1 d2 (cE tv w1 (c6 w2 rfl ay aF av ab ah ai g1 g2))));have cf:(20:Nat)<=Xv:=by decide
   have bc:upd H6 sa (.lst (sv++[.ref r])) r=some (.tup [.ref tl,.ref d1,.ref d2]):=by
    rw[zg (Qc aF U (by intro q;cases q))];exact aF
   refine⟨_,rfl,.inl ⟨rfl,_,SqL.of U⟩,_,rfl,sa,_,_,rfl,rfl,U,XJ (show sv.length<=20 by lia) (by decide),?_⟩;have F7:jq (upd H6 sa (.lst (sv++[.ref r]))) fa fc fs u w' cl st:=⟨by rw[zg (Qc F.tp U (by intro q;cases q))];exact F.tp,by rw[zg nc];exact F.h1,by rw[zg ns];exact F.h2,Cel.into sa _ U F.c1,Cel.into sa _ U F.c2⟩;have aT:upd H6 sa (.lst (sv++[.ref r])) d1=some (.lst w1):=by rw[zg e1];exact ah
   have aV:upd H6 sa (.lst (sv++[.ref r])) d2=some (.lst w2):=by rw[zg e2];exact ai
   have aQ:=Cel.into sa (HO.lst (sv++[.ref r])) U g1;have aR:=Cel.into sa (HO.lst (sv++[.ref r])) U g2;have s7:zo H3 (upd H6 sa (.lst (sv++[.ref r]))):=λb o e=>by
    rw[zg (zj e aG)];exact s6 _ _ e
   have ar:upd H6 sa (.lst (sv++[.ref r])) sa=some (.lst (sv++[.ref r])):=zb;generalize upd H6 sa (.lst (sv++[.ref r]))=H7 at *
   have I:=X.two W.tr.ap (zjN ht).1 (zjN ht).2;have a9:∀c:AB,c.Pairwise Cells.lex->(∀x∈c,x∈zv J)->c.length<=20:=λc x h=>by
    have:=((WW (qm x) ((qB J).sublist (Xm (p:=λx=>decide (x∈c))))).mpr λx=>by
     rw[X8,bu];exact⟨λz=>⟨h x z,z⟩,λz=>z.2⟩).length_eq
    have:=Xw (λx=>decide (x∈c)) (zv J);lia
   have m1:c1.length<=20:=a9 c1 x1 λc hc=>(QK I ((jd _).subset (p1.mem_iff.mp hc))).1.elim (I.s1 c) (I.s2 c);have m2:c2.length<=20:=a9 c2 x2 λc hc=>(QK I ((je _).subset (p2.mem_iff.mp hc))).1.elim (I.s1 c) (I.s2 c);have a1:=F7.c1.length;have a2:=F7.c2.length;have a3:=aQ.length;have a4:=aR.length;refine⟨_,rfl,fa,_,0,_,rfl,rfl,SqT.of F7.tp,rfl,_,rfl,r,_,1,_,rfl,rfl,SqT.of bc,rfl,fc,d1,_,_,rfl,rfl,F7.h1,aT,XY (show u.length+w1.length<=100 by lia) (by decide),λx hx=>?_⟩;have y1:=zc (o:=.lst (u++w1)) hx;refine⟨x,(cO rfl (SqL.of zb) (Cel.tup2 ((F7.c1.append aQ).mono y1)) (by rw[X6];lia) (λY u1 z1 ao bC bO up1=>?_))⟩;obtain⟨q1,rfl,az⟩:=Yr bO;have y2:=zc (o:=.lst u1) ao;have ax:=y1.trans y2;refine⟨_,rfl,fa,_,1,_,rfl,rfl,SqT.of (ax _ _ F7.tp),rfl,_,rfl,r,_,2,_,rfl,rfl,SqT.of (ax _ _ bc),rfl,fs,d2,_,_,rfl,rfl,ax _ _ F7.h2,ax _ _ aV,XY (show w'.length+w2.length<=100 by lia) (by decide),λx' bF=>?_⟩;have y3:=zc (o:=.lst (w'++w2)) bF;have al:=ax.trans y3;refine⟨x',(cO rfl (SqL.of zb) (Cel.tup2 ((F7.c2.append aR).mono al)) (by rw[X6];lia) (λaa u2 z2 aq bD bP bR=>?_))⟩;obtain⟨q2,rfl,a5⟩:=Yr bP;have y4:=zc (o:=.lst u2) aq;have bU:=al.trans y4;refine⟨j9,λag aW=>?_⟩;have aY:=(y3) _ _ (zb (H:=upd H7 x (.lst (u++w1))) (a:=Y) (o:=.lst u1));have y5:=zc (o:=.tup [.ref Y,.ref aa]) aW;have aN:=bU.trans y5;have aX:=(y3.trans (y4.trans y5)) _ _ (zb (H:=upd H7 x (.lst (u++w1))) (a:=Y) (o:=.lst u1));have F8:jq _ ag Y aa u1 u2 q1 q2:=⟨zb,aX,y5 _ _ zb,Cel.mono (y2.trans (y3.trans (y4.trans y5))) (qO bC),Cel.mono (y4.trans y5) (qO bD)⟩;have aJ:=af (as:=[]) (y1 _ _ ar) (y1 _ _ F7.h1) (y1 _ _ F7.h2) (aD.mono y1) Y ao;have a6:=af (as:=[]) (al _ _ ar) aY (al _ _ F7.h2) (aD.mono al) aa aq;have aA:qU (sas++[((t.map λi=>G.getD i none,c1,c2),as)])=qU sas++as:=by
    show (sas++[((t.map λi=>G.getD i none,c1,c2),as)]).flatMap (λx=>x.2)=_;rw[Wd];show _++(as++[])=_;rw[Xx]
   have bn:(sa::Y::aa::qU (sas++[((t.map λi=>G.getD i none,c1,c2),as)])).Nodup:=by
    have m3:=WS.mp (WS.mp ae.2).2;have ad:(qU sas++as).Nodup:=WX.mpr ⟨m3.2,bI,λa ha b hb e=>(an b hb).2 (by rw[<- e];exact Y1 _ (Y1 _ (Y1 _ ha)))⟩;rw[aA]at aJ a6 ⊢;refine WS.mpr ⟨λz=>?_,WS.mpr ⟨λz=>?_,WS.mpr ⟨λz=>a6 (Y1 _ (Y1 _ (Y1 _ z))),ad⟩⟩⟩
    .rcases XQ.mp z with z | z
     .exact aJ (by rw[<- z];exact X5)
     .rcases XQ.mp z with z | z
      .exact a6 (by rw[<- z];exact X5)
      .rcases XU.mp z with z | z
       .exact ae.1 (Y1 _ (Y1 _ z))
       .exact(an sa z).2 X5
    .rcases XQ.mp z with z | z
     .exact a6 (by rw[<- z];exact Y1 _ X5)
     .exact aJ (Y1 _ (Y1 _ (Y1 _ z)))
   have aP:∀a∈sa::Y::aa::qU (sas++[((t.map λi=>G.getD i none,c1,c2),as)]),H a=none:=λa ha=>by
    rw[aA]at ha;rcases XQ.mp ha with rfl | ha
    .exact fr _ X5
    .rcases XQ.mp ha with rfl | ha
     .exact(ak.trans (s7.trans y1)).free ao
     .rcases XQ.mp ha with rfl | ha
      .exact(ak.trans (s7.trans al)).free aq
      .rcases XU.mp ha with ha | ha
       .exact fr a (Y1 _ (Y1 _ (Y1 _ ha)))
       .exact(an a ha).1
   have W8:=W.next X ht p1 p2 x1 x2 az a5 up1 bR;have bv:∀y∈cl++c1,y∈zv J:=λy hy=>W8.s1 y (az.mem_iff.mpr hy);have bx:∀y∈st++c2,y∈zv J:=λy hy=>W8.s2 y (a5.mem_iff.mpr hy);have aZ:z9 J n (qk J G) (k+1)=((sas++[((t.map λi=>G.getD i none,c1,c2),as)]).map (λx=>x.1),q1,q2):=by
    rw[Qj (s:=(t.map λi=>G.getD i none,c1,c2)) (by rw[hk];exact bb),hk,XB,xj az W8.x1 bv,xj a5 W8.x2 bx];rfl
   have aO:∀i,i<k+1->nxT J n (qk J G) (z9 J n (qk J G) i).2.1 (z9 J n (qk J G) i).2.2≠none:=λi hi=>by
    by_cases ik:i<k
    .exact bk i ik
    .rw[show i=k by lia,hk];rw[bb];exact λz=>nomatch z
   have aE:=aD.mono aN;have au:=aN _ _ ar;have s8:=s7.trans aN;generalize upd (upd (upd (upd (upd H7 x (.lst (u++w1))) Y (.lst u1)) x' (.lst (w'++w2))) aa (.lst u2)) ag (.tup [.ref Y,.ref aa])=H8 at *
   have k1:=az.length_eq;have k2:=a5.length_eq;rw[X6]at k1 k2;have k3:1<=c1.length+c2.length:=by
    by_cases z:c1.length+c2.length=0
    .exact absurd ⟨Wy.mp (by lia),Wy.mp (by lia)⟩ he
    .lia
   have cp:=W8.len X.nd a7;refine⟨_,rfl,_,rfl,_,rfl,_,rfl,th,la,pl,ag,Y,aa,aw,ys,us,u1,u2,G,zD J n G,zv J,q1,q2,L,rfl,first H8 ag Y aa u1 u2 q1 q2 s8 F8 W8,X,W8.tr,λhE H9 s9=>?_,λi t' ca cb r' ck cd ce cm cn co H9 bA b5 bM bN bS bT b6 f1 f2 f3 f4 aj bm bi aS aU b3 b4 s9=>?_⟩
   .exact cD (by lia) (cF ag Y aa (sv++[.ref r]) (cF u1 u2 q1 q2 ⟨.non,_,(c6 (k+1) rfl rfl (s8.trans s9) (s9 _ _ au) (by rw[X6];show sv.length+1<=_;lia) (F8.mono s9) bn aP (cU W8 (aE.mono s9) aZ aO (.inl ⟨rfl,zpQ hE⟩)))⟩))
   .exact cD (by lia) (cF ag Y aa (sv++[.ref r]) (cF u1 u2 q1 q2 ⟨.ref r',_,(c6 (k+1) rfl rfl (s8.trans s9) (s9 _ _ au) (by rw[X6];show sv.length+1<=_;lia) (F8.mono s9) bn aP (cU W8 (aE.mono s9) aZ aO (mk (ak.trans s8) (af (as:=[]) au F8.h1 F8.h2 aE) bA b5 bM bN bS bT b6 f1 f2 f3 f4 aj bm bi aS aU b3 b4)))⟩))
def nbC (rs:AD):AB:=(zU rs).filter λo=>!(clA rs o).isEmpty
def za3 (rs:AD):List (Option AA):=(nbC rs).map some++[none]
structure Lay (rs:AD)(n:Int)(L:AA->Bool):Prop where
 a:(((zv rs).countP L:Nat):Int)=n
 o:∀o∈zU rs,(((clA rs o).countP L:Nat):Int)=jH rs o
def Lay.tr {rs:AD}{n:Int}{L:AA->Bool}(h:Lay rs n L):jr (zD rs n (za3 rs)) L [] []:=by
 refine⟨(λ_ z=>nomatch z),(λ_ z=>nomatch z),λk hk=>?_⟩;obtain⟨r,ht,rfl⟩:=XN.mp hk;rcases XU.mp ht with ht | ht
 .obtain⟨o,m,rfl⟩:=XN.mp ht;exact h.o o (X8.mp m).1
 .rw[Wz.mp ht];exact h.a
def znt {rs:AD}{n:Int}(A:0<=n)(h:zg4 rs n≠0):∃L,Lay rs n L:=by
 unfold zg4 Tally.T at h;obtain⟨S,r,z⟩:=OP.mp (show 0<(Subs.subs (zv rs)).countP λS=>decide (S.length=n.toNat)&&Qe rs S by lia);rw[Wj,bu]at z;have sub:=Tally.Qz r;have w:=(qB rs).sublist sub;have m:∀p:AA->Bool,((zv rs).filter p).countP (λc=>decide (c∈S))=(S.filter p).length:=λp=>by
  rw[Uc,Vk];refine Tz ((WW ((qB rs).sublist Xm) (w.sublist Xm)).mpr λc=>?_);rw[X8,X8,Wj,bu];exact⟨λz=>z.2,λz=>⟨sub.subset z.1,z⟩⟩
 refine⟨λc=>decide (c∈S),?_,λo s=>?_⟩
 .have:=m λ_=>true;rw[Tx.mpr λ_ _=>rfl,Tx.mpr λ_ _=>rfl]at this;rw[this];lia
 .rw[<- Yu.mp z.2 o s];congr 1;unfold Grow.cnt;rw[<- m];refine List.Perm.countP_eq _ ((WW (zbs rs o) ((qB rs).sublist Xm)).mpr λc=>?_);rw[X8];exact⟨λz=>⟨xQ z,(Jl (xQ z)).mpr z⟩,λz=>(Jl z.1).mp z.2⟩
def zdz (w:Addr):Sp:=λvs H Q E=>∃(p l:Addr) (m:AD) (n:Int),vs=[.ref p]/\qe H p l m n/\Rows bd.cps.toList m/\0<=n/\(nbC m).length<=30/\(zv m).length<=14 /\
 (zg4 m n=0->∀r,zo H r->E (.ref w) none r) /\
 (zg4 m n≠0->∀(t sa A B fs:Addr) (D G I:AE) (s:List (Stp×List Addr)) (k:Nat) (r:Hp),Told H r t sa A B fs D G I s (z9 m n (qk m (za3 m)) k).2.1 (z9 m n (qk m (za3 m)) k).2.2->s.map (λx=>x.1)=(z9 m n (qk m (za3 m)) k).1->zhj m n (qk m (za3 m)) k->Q (.ref t) r)
def Told.pre {m r H:Hp}{t sa w A fs:Addr}{B D E:AE}{sas:List (Stp×List Addr)}{cl st:AB}(s:zo m r)(h:Told r H t sa w A fs B D E sas cl st):Told m H t sa w A fs B D E sas cl st:=⟨h.tp,h.h,h.s,h.f,h.nd,λa ha=>s.free (h.fr a ha),s.trans h.sm,h.l⟩
def zhm {H:Hp}{vs:AE}{m:AB}(h:Cel H vs m):XG (xT H) vs (m.map some):=by
 induction h with
 | nil=>exact .nil
 | cons r _ s=>exact .cons r s
def zbV:zE ["board","cells"] ["board"] (zp Yk):=bh
def zhn (T:Txt mg)(Z:Prog K mg)(ae:J6 K mg "NoLaying" jaa)(am:J6 K mg "TooGreat" jab){f:Addr}{fd:XF}(D:zk K mg "thoughts" Yk ["board"] f fd):zY P w K mg base (CXE P w) 8 f fd ["board"] (zdz jaa):=by
 obtain⟨a4,QI,zO⟩:=Z.around;obtain⟨QJ,Yv,zq⟩:=Z.sign_at;obtain⟨Yw,Zh,zC⟩:=Z.cells_of;obtain⟨a5,QV,zI⟩:=Z.open_cells;obtain⟨yp,j4,zF⟩:=Z.closed_around;obtain⟨a7,a6,ai⟩:=Z.count;obtain⟨a8,a9,aj⟩:=Z.all_steps;have au:=jZ (P:=P) (w:=w) (base:=base) T zF zO zq;have av:=yd (P:=P) (w:=w) (base:=base) T zI zC zq;have aw:=zg6 (P:=P) (w:=w) (base:=base) T Z ai;have ax:=zfD (P:=P) (w:=w) (base:=base) T Z ae aj;refine D.F.okX zbV (λvs H Q E h=>?_) (λay A an s H vs Q E U h=>?_)
 .revert h;refine dg λp l m n=>c8 λz0 _=>?_;subst z0;rfl
 .revert h;refine dM λp l m n z0 B R n0=>dz λaz af ez q=>?_;subst z0;refine⟨_,(ze (psC 1 zbV.nd ["cell","board"] [none,some 0] cR (zJ (pc0 av U zI (za (pvS 0) zd))) (pgN 0) (qI (qp (zf9 (K:=K) (by rfl) U.units) (pc0 au U zF (za (pvS 1) (za (pvS 0) zd))) (@zR _ _ _ _ zd) (qb _))) (pvS 0)) (ze (qW (qp zmp (pb1 zM T.qT Xa (pvS 1)) (Jf (v:=.int 30) (by rfl) T.zdT.choose_spec (by exact⟨_,rfl⟩)) (qb _)) (zh (zcF jI am (by rfl) rfl (@za _ _ _ _ _ jx zd rfl))) qd) (ze (qW (qp YH (pc0 aw U ai (za (pvS 0) zd)) zf (qb _)) (zh (zcF jI ae (by rfl) rfl (@za _ _ _ _ _ jx zd rfl))) qd) (zh (zB (pcL jI ax U aj (za (pvS 0) (za (zx yX (pvS 1) (zR (za (Jf (v:=.str "all") (by rfl) T.zpI.choose_spec (by exact⟨_,rfl⟩)) zd))) zd)))))))),?_⟩;(try dsimp only[cxK,cxP,cxW]);refine⟨_,rfl,p,l,m,n,rfl,B,R,λd ws H1 hd O G s1=>⟨d,rfl,⟨_,SqL.of O⟩,λz hz=>?_⟩⟩;have b1:=B.mono s1;refine ql (K:=K) (a:=d) (xs:=ws) (λa=>a≠z) ((zU m).map λo=>if (!(clA m o).isEmpty)=true then some (zm o) else none) (fun σ=>∃u0,σ=[u0,some (.ref p)]) hz (λ_ h=>h) ⟨_,rfl⟩ (by rw[ZB];exact G.length.symm) (by rw[G.length];exact XY (jo R) (by decide)) (SqL.of O) ?_ ?_
  .rintro k x o σ H2 hx ho s2 a2 ⟨u0,rfl⟩ Y Z as no;obtain⟨y,hy,r1⟩:=Cel.get G hx;have eo:=jL hy ho;obtain⟨t,sg,ht,hj,_,es⟩:=qh (X4 hy);obtain⟨ya,rfl,ab⟩:=r1;obtain⟨l1,l2⟩:=yq R ht hj;refine⟨_,rfl,_,rfl,p,l,ya,m,n,y,rfl,b1.mono s2,R,s2 _ _ ab,l1,l2,λd2 a3 H3 a1 ak r J=>⟨yU,λe he=>?_⟩⟩;have s4:=zc (o:=.lst []) he;refine⟨.list ((clA m y).map zm),.list [],.lst (SqL.of (s4 _ _ ak)) (zbA (r.mono s4)),.lst (SqL.of zb) .nil,zbr _ [],_,rfl,?_⟩;have ee:(if true=true then !PyData.eqv (.list ((clA m y).map zm)) (.list []) else WQ (.list ((clA m y).map zm)) (.list []))=!(clA m y).isEmpty:=congrArg (λb=>!b) (eq_nil _);rw[ee];by_cases hp:(!(clA m y).isEmpty)=true
   .rw[bw hp]at eo;exact j6 hp ⟨_,rfl,as _ _ _ _ eo ⟨_,rfl⟩ (J.trans s4) (yQ.rdn ⟨ya,rfl,s4 _ _ (J _ _ (s2 _ _ ab))⟩)⟩
   .rw[bq hp]at eo;exact jk (Xk.mpr hp) (no _ _ eo ⟨_,rfl⟩ (J.trans s4))
  rintro ys H2 s2 ac aa;rw[qf]at aa;have r:Cel H2 ys (nbC m):=zu.cel aa;have I:=s1.trans s2;have B2:=B.mono I;have yl:ys.length=(nbC m).length:=r.length;refine⟨_,rfl,z,_,rfl,.inl (SqL.of ac),_,_,rfl,rfl,_,rfl,?_⟩;refine jk (bf (by lia)) ?_;refine⟨_,rfl,p,l,m,n,rfl,B2,R,zg2 af,n0,λH3 J=>?_⟩;have ao:=I.trans J;refine⟨rfl,_,rfl,?_⟩;by_cases M:zg4 m n=0
  .exact j6 (br (congrArg V.int M)) ⟨by decide,ez M _ ao⟩
  refine jk (bf λe=>M (V.int.inj e)) ?_;obtain⟨L,hL⟩:=znt n0 M;refine⟨_,rfl,_,rfl,sz_1,λx hx=>?_⟩;have y4:=zc (o:=.lst [V.str "all"]) hx;refine cE z x (cI rfl rfl (cL (y4 _ _ (J _ _ ac)) zb (XY (show ys.length+1<=40 by lia) (by decide)) (λth al=>?_)));have y5:=zc (o:=.lst (ys++[V.str "all"])) al;have ah:=J.trans (y4.trans y5);have ag:=I.trans ah;refine cF p l th m (cF n (ys++[V.str "all"]) (za3 m) L (cU rfl (B.mono ag) R zb (cM (Paired.snoc (zhm (r.mono ah)) rfl) ?_ (λc hc=>?_) (XY af (by decide)) hL.tr (λt sa fa fc fs sv us ar aq k H' k1 k2 k3=>q M t sa fa fc fs sv us ar aq k H' (k1.pre ag) k2 k3))))
  .unfold za3;rw[X6,ZB];show (nbC m).length+1<=32;lia
  .rcases XU.mp hc with hc | hc
   .obtain⟨o,ho,e⟩:=XN.mp hc;cases e;exact(X8.mp ho).1
   .cases Wz.mp hc
def zpS (H:Hp)(v:V)(t:List Nat):Prop:=v=V.str ⟨t.toArray⟩\/∃a,v=V.ref a/\H a=some (.lst (t.map λc=>V.str ⟨#[c]⟩))
def JR (H:Hp):AE->List (List Nat)->Prop:=XG (zpS H)
theorem JR.get {H:Hp}:∀{vs:AE} {gs:List (List Nat)} {i:Nat} {t:List Nat},JR H vs gs->gs[i]?=some t->∃v,vs[i]?=some v/\zpS H v t
 | _,_,_,_,.nil,e=>by simp at e
 | _,_,0,_,.cons r _,e=>by
  simp at e;subst e;exact⟨_,rfl,r⟩
 | _,_,i+1,t,.cons _ q,e=>by
  obtain⟨c,m,s⟩:=JR.get (i:=i) (t:=t) q (by simpa using e);exact⟨c,by simpa using m,s⟩
theorem JR.rows (H:Hp):∀rs:AD,JR H (rs.map V.str) (codes rs)
 | []=>.nil
 | t::r=>.cons (.inl (by
   obtain⟨⟨x⟩⟩:=t;rfl)) (JR.rows H r)
def pZ (zs:List Nat)(k:Nat):Bool:=decide (k∈zs)
def zeS (k c:Nat):eqV (V.str ⟨#[c]⟩) (V.str ⟨#[k]⟩)=decide (c=k):=by
 have m:eqV (V.str ⟨#[c]⟩) (V.str ⟨#[k]⟩)=((⟨#[c]⟩:Str)==(⟨#[k]⟩:Str)):=rfl;rw[m,WN,beq_iff_eq,bu];constructor
 .intro h;have r:(#[c]:Array Nat)=#[k]:=congrArg Str.cps h;simpa using r
 .rintro rfl;rfl
def zhp (k:Nat)(zs:List Nat):inV (V.str ⟨#[k]⟩) (zs.map λc=>V.str ⟨#[c]⟩)=pZ zs k:=by
 unfold inV pZ;rw[TR,WN,WL,bu];constructor
 .rintro⟨c,hc,h⟩;have e:c=k:=bg ((zeS k c).symm.trans h);rw[<- e];exact hc
 .intro h;exact⟨k,h,(zeS k k).trans (br rfl)⟩
def zdA (zs:List Nat):(zs.map λc=>V.str ⟨#[c]⟩).all zat=true:=by
 rw[WC];intro v hv;obtain⟨c,_,rfl⟩:=XN.mp hv;rfl
def znv (H m:Hp)(d:Addr):Prop:=∀b o,b≠d->H b=some o->m b=some o
def znw:Sp:=λvs H Q _=>∃(l s:Addr) (w:AE) (r:List (List Nat)) (B:List Nat),vs=[.ref l,.ref s]/\H l=some (.lst w)/\JR H w r/\r.length<=8/\(∀t∈r,t.length<=8)/\H s=some (.lst (B.map λc=>V.str ⟨#[c]⟩)) /\
 ∀(d:Addr) (A:AE) (m:Hp),H d=none->m d=some (.lst A)->Cel m A (Cells.zz (pZ B) 0 r)->zo H m->Q (.ref d) m
def Jo:zE ["_law_rows","_law_signs","_law_found","_law_row","_law_column"] ["_law_rows","_law_signs"] (zp jv):=bh
def YC (T:Txt mg)(D:zk K mg "_law_cells" jv ["_law_rows","_law_signs"] f fd):zY P w K mg base CX0 1 f fd ["_law_rows","_law_signs"] znw:=by
 refine D.F.ok Jo (λvs H Q E h=>?_) (λal A ak s H vs Q E hr h=>?_)
 .revert h;refine dg λl sg us gs=>dm λB z0 _=>?_;subst z0;rfl
 .revert h;refine dP λl sg us gs B z0 hl hG g8=>c9 λt8 ai q=>?_;subst z0;have ul:us.length=gs.length:=Paired.length hG;refine⟨_,(@ze _ _ _ _ _ (@qx _ _ 2 _ _ _ _ Jo.nd rfl (VU rfl) (@zR _ _ _ _ zd) (by rfl) (.inr rfl)) (ze (qz Xd rfl (prg T.jB (pb1 qi T.qT Xa (pv 0))) (pgq 3 Jo.nd) (zh (qz Xd rfl (prg T.jB (pb1 zgq T.qT Xa (zG jj (pv 0) (pv 3) (λ_ _=>rfl)))) (pgq 4 Jo.nd) (zh (qW (jh zkp (zG zr2 (zG jj (pv 0) (pv 3) (λ_ _=>rfl)) (pv 4) (λ_ _=>rfl)) (pv 1) (by rfl)) (zh (qV (yV W7 WJ WI Jq (pv 2) (za (qu (za (pv 3) (za (pv 4) zd))) zd)))) qd))))) (zh (zB (pv 2))))),?_⟩;(try dsimp only[cxK,cxP,cxW]);refine⟨yU,λd hd=>?_⟩;have s0:zo H (upd H d (.lst [])):=zc hd;refine cW rfl l rfl (.inl (SqL.of (s0 _ _ hl))) (cH rfl (by lia) ⟨by lia,?_⟩);rw[Wa,ul];refine qE (lo:=0) (n:=gs.length) (λi σ I=>∃(v3 v4:Option V) (M:AE),σ=[some (.ref l),some (.ref sg),some (.ref d),v3,v4]/\zo H I/\I d=some (.lst M)/\Cel I M (Cells.zz (pZ B) 0 (gs.take i))) ⟨_,_,[],rfl,s0,zb,.nil⟩ ?_ ?_
  .refine λi σ H1 hi=>dJ λv3 v4 M z0 s1 aa O=>?_;subst z0;obtain⟨t,ht⟩:∃t,gs[i]?=some t:=⟨_,XX hi⟩;have tl:=t8 t (X4 ht);obtain⟨v,hv,ah⟩:=JR.get hG ht;have ae:atI us (0+(i:Int))=some v:=by
    rw[V2];exact ja hv
   refine cD rfl (cS rfl l (cG (cK v rfl rfl (SqL.of (s1 _ _ hl)) ae ?_)));rcases ah with rfl | ⟨ra,rfl,ab⟩
   .have zl:(⟨t.toArray⟩:Str).length=t.length:=by show t.toArray.size=_;rw[Xy]
    refine .inr (c5 ⟨t.toArray⟩ rfl (by rw[zl];exact XY tl (by decide)) (cH rfl (by rw[zl];lia) ⟨by rw[zl];lia,?_⟩));rw[Wa,zl];refine qE (lo:=0) (n:=t.length) (λj σ I=>∃(v4:Option V) (M:AE),σ=[some (.ref l),some (.ref sg),some (.ref d),some (.int (0+(i:Int))),v4]/\zo H I/\znv H1 I d/\I d=some (.lst M)/\Cel I M (Cells.zz (pZ B) 0 (gs.take i)++Cells.zK (pZ B) i 0 (t.take j))) ⟨_,M,rfl,s1,λb o _ e=>e,aa,by rw[RW];rw[show Cells.zK (pZ B) i 0 []=[] from rfl,Xx];exact O⟩ ?_ ?_
    .refine λj σ H2 hj=>dw λv4 G z0 L J r m=>?_;subst z0;obtain⟨k,hk⟩:∃k,t[j]?=some k:=⟨_,XX hj⟩;have st:=Cells.Yb (p:=pZ B) (i:=i) hk;refine cD rfl (c7 rfl l (cO rfl rfl (SqL.of (L _ _ hl)) ae (cD rfl (.inr ⟨⟨t.toArray⟩,_,(cK k rfl rfl (by rw[zl];exact XY tl (by decide)) (by rw[V2];exact ja hk) (cW rfl sg rfl (.inl (SqL.of (L _ _ ai))) (cQ rfl (zdA B) (cD rfl ?_))))⟩))));have ac:(if false=true then !inV (V.str ⟨#[k]⟩) (B.map λc=>V.str ⟨#[c]⟩) else inV (V.str ⟨#[k]⟩) (B.map λc=>V.str ⟨#[c]⟩))=pZ B k:=zhp k B;rw[ac];have U:G.length<=200:=by
      rw[m.length,X6];have a1:=Cells.jA (pZ B) i 0 (t.take j);have a2:=Cells.qL (pZ B) 0 (gs.take i) λu hu=>t8 u (V8 hu);rw[XM]at a1 a2;lia
     by_cases hp:pZ B k=true
     .rw[bw hp]at st;refine j6 hp (cH rfl (.inl ⟨rfl,_,SqL.of r⟩) (cD rfl (cH rfl j9 (λtq af=>?_))));have Y:=zc (o:=.tup [.int (0+(i:Int)),.int (0+(j:Int))]) af;refine⟨d,(cO rfl rfl (Y _ _ r) (XJ U (by decide)) ⟨_,(cK (G++[.ref tq]) rfl (λb o e=>?_) (λb o nb e=>?_) zb ?_)⟩)⟩
      .rw[zg (zj e hd)];exact Y _ _ (L _ _ e)
      .rw[zg nb];exact Y _ _ (J b o nb e)
      .rw[st,<- W9];refine Cel.into d _ (Y _ _ r) (Cel.snoc (Cel.mono Y m) ⟨tq,rfl,?_⟩);rw[zb,V2,V2]
     .rw[bq hp,Xx]at st;refine jk (Xk.mpr hp) ⟨_,G,rfl,L,J,r,?_⟩;rw[st];exact m
    .refine λσ H2=>dw λv4 G z0 L _ r m=>?_;subst z0;refine⟨_,_,G,rfl,L,r,?_⟩;rw[Cells.Yc ht];rw[XE]at m;exact m
   .have ag:=s1 _ _ ab;have aj:ra≠d:=zj ab hd;have zl:(t.map λc=>V.str ⟨#[c]⟩).length=t.length:=ZB _;refine .inl (cT ra rfl (.inl (SqL.of ag)) (cH rfl (by rw[zl];lia) ⟨by rw[zl];lia,?_⟩));rw[Wa,zl];refine qE (lo:=0) (n:=t.length) (λj σ I=>∃(v4:Option V) (M:AE),σ=[some (.ref l),some (.ref sg),some (.ref d),some (.int (0+(i:Int))),v4]/\zo H I/\znv H1 I d/\I d=some (.lst M)/\Cel I M (Cells.zz (pZ B) 0 (gs.take i)++Cells.zK (pZ B) i 0 (t.take j))) ⟨_,M,rfl,s1,λb o _ e=>e,aa,by rw[RW];rw[show Cells.zK (pZ B) i 0 []=[] from rfl,Xx];exact O⟩ ?_ ?_
    .refine λj σ H2 hj=>dw λv4 G z0 L J r m=>?_;subst z0;obtain⟨k,hk⟩:∃k,t[j]?=some k:=⟨_,XX hj⟩;have st:=Cells.Yb (p:=pZ B) (i:=i) hk;refine cD rfl (c7 rfl l (cO rfl rfl (SqL.of (L _ _ hl)) ae (cD rfl (.inl ⟨ra,(cG (cK (V.str ⟨#[k]⟩) rfl rfl (SqL.of (J _ _ aj ag)) (by rw[V2];exact ja (by rw[XC,hk];rfl)) (cW rfl sg rfl (.inl (SqL.of (L _ _ ai))) (cQ rfl (zdA B) (cD rfl ?_)))))⟩))));have ac:(if false=true then !inV (V.str ⟨#[k]⟩) (B.map λc=>V.str ⟨#[c]⟩) else inV (V.str ⟨#[k]⟩) (B.map λc=>V.str ⟨#[c]⟩))=pZ B k:=zhp k B;rw[ac];have U:G.length<=200:=by
      rw[m.length,X6];have a1:=Cells.jA (pZ B) i 0 (t.take j);have a2:=Cells.qL (pZ B) 0 (gs.take i) λu hu=>t8 u (V8 hu);rw[XM]at a1 a2;lia
     by_cases hp:pZ B k=true
     .rw[bw hp]at st;refine j6 hp (cH rfl (.inl ⟨rfl,_,SqL.of r⟩) (cD rfl (cH rfl j9 (λtq af=>?_))));have Y:=zc (o:=.tup [.int (0+(i:Int)),.int (0+(j:Int))]) af;refine⟨d,(cO rfl rfl (Y _ _ r) (XJ U (by decide)) ⟨_,(cK (G++[.ref tq]) rfl (λb o e=>?_) (λb o nb e=>?_) zb ?_)⟩)⟩
      .rw[zg (zj e hd)];exact Y _ _ (L _ _ e)
      .rw[zg nb];exact Y _ _ (J b o nb e)
      .rw[st,<- W9];refine Cel.into d _ (Y _ _ r) (Cel.snoc (Cel.mono Y m) ⟨tq,rfl,?_⟩);rw[zb,V2,V2]
     .rw[bq hp,Xx]at st;refine jk (Xk.mpr hp) ⟨_,G,rfl,L,J,r,?_⟩;rw[st];exact m
    .refine λσ H2=>dw λv4 G z0 L _ r m=>?_;subst z0;refine⟨_,_,G,rfl,L,r,?_⟩;rw[Cells.Yc ht];rw[XE]at m;exact m
  .rintro σ H1 ⟨v3,v4,M,rfl,s1,aa,O⟩;rw[XE]at O;exact⟨_,rfl,q d M H1 hd aa O s1⟩
def zpb:Sp:=λvs H Q _=>∃(a b:Addr) (c d:AA),vs=[.ref a,.ref b]/\H a=some (.tup [.int (c.1:Nat),.int (c.2:Nat)])/\H b=some (.tup [.int (d.1:Nat),.int (d.2:Nat)])/\Q (.bl (Cells.near c d)) H
def zsm (i j:Nat):decide ((if ((i:Nat):Int)-((j:Nat):Int)<0 then -(((i:Nat):Int)-((j:Nat):Int)) else ((i:Nat):Int)-((j:Nat):Int))<2)=decide (i<=j+1/\j<=i+1):=by
 rw[decide_eq_decide];split<;>lia
def zhq:zE ["_law_one","_law_other"] ["_law_one","_law_other"] (zp JJ):=bh
def zhr (T:Txt mg)(D:zk K mg "_law_near" JJ ["_law_one","_law_other"] f fd):zY P w K mg base CX0 1 f fd ["_law_one","_law_other"] zpb:=by
 refine D.F.ok zhq (λvs H Q E h=>?_) (λJ A I s H vs Q E M h=>?_)
 .obtain⟨a,b,c,d,rfl,_⟩:=h;rfl
 .obtain⟨a,b,c,d,rfl,ha,B,q⟩:=h;refine⟨_,(zh (zB (zhG (yE (jy M.units) (pv 0) (pv 1) (qb _)) (zhG (yE zfY (pb1 zf0 T.zpF Pp (zx Zn (zG qP (pv 0) zf (λ_ _=>rfl)) (zG qP (pv 1) zf (λ_ _=>rfl)))) zf (qb _)) (zlB (yE zfY (pb1 zf0 T.zpF Pp (zx Zn (zG qP (pv 0) zf (λ_ _=>rfl)) (zG qP (pv 1) zf (λ_ _=>rfl)))) zf (qb _))))))),?_⟩;(try dsimp only[cxK,cxP,cxW]);have O:∀x:Bool,(x=true↔Cells.near c d=true)->Cells.near c d=x:=λx h=>WN.mpr h.symm;have G:=Cells.JG (x:=c) (y:=d);refine cZ rfl rfl (cE (zm c) (zm d) (cL (yQ.rdv ⟨a,rfl,ha⟩) (yQ.rdv ⟨b,rfl,B⟩) (zey c d) ?_));have L:(if true=true then !PyData.eqv (zm c) (zm d) else WQ (zm c) (zm d))=!decide (c=d):=by
   show (!PyData.eqv _ _)=_;rw[zbo]
  rw[L];refine⟨_,rfl,?_⟩;by_cases m:c=d
  .rw[br m];refine Q4 ?_;have:Cells.near c d=false:=by
    rw[Xk,ne_eq,G];exact λh=>h.2.2 m
   rw[this]at q;exact q
  .rw[bf m];refine Q5 ?_;refine cN rfl a 0 rfl rfl (SqT.of ha) rfl (cN rfl b 0 rfl rfl (SqT.of B) rfl (cI rfl rfl (cJ rfl rfl rfl ?_)));refine⟨decide (c.1<=d.1+1/\d.1<=c.1+1),congrArg V.bl (zsm c.1 d.1),?_⟩;by_cases r:c.1<=d.1+1/\d.1<=c.1+1
   .rw[br r];refine Q5 (cN rfl a 1 rfl rfl (SqT.of ha) rfl (cN rfl b 1 rfl rfl (SqT.of B) rfl (cI rfl rfl (cJ rfl rfl rfl ?_))));have:Cells.near c d=decide (c.2<=d.2+1/\d.2<=c.2+1):=by
     rw[WN,G,bu];exact⟨λh=>h.2.1,λh=>⟨r,h,m⟩⟩
    show Q (V.bl (decide ((if ((c.2:Nat):Int)-((d.2:Nat):Int)<0 then -(((c.2:Nat):Int)-((d.2:Nat):Int)) else ((c.2:Nat):Int)-((d.2:Nat):Int))<2))) H;rw[zsm,<- this];exact q
   .rw[bf r];refine Q4 ?_;have:Cells.near c d=false:=by
     rw[Xk,ne_eq,G];exact λh=>r h.1
    rw[this]at q;exact q
def fData (c1 m:AB):Wc:=.tuple [.list (c1.map zm),.list (m.map zm)]
def zlt (c1 m:AB):zf4 (fData c1 m) (fData c1 m):=by
 have r:Wr (fData c1 m)=true:=by
  show (Wr (.list (c1.map zm))&&(Wr (.list (m.map zm))&&true))=true;rw[show Wr (.list (c1.map zm))=true from YM c1,show Wr (.list (m.map zm))=true from YM m];rfl
 refine⟨r,r,?_⟩;show max (W2 (c1.map zm)+1) (max (W2 (m.map zm)+1) 0)+1<=64;have a:=Yq c1;have b:=Yq m;lia
def jq.rdv {K:XW}{H:Hp}{m r fs:Addr}{s w:AE}{cl st:AB}(x:jq H m r fs s w cl st):Rdv K H (.ref m) (fData cl st):=.tup (SqT.of x.tp) (.cons (.lst (SqL.of x.h1) (zbA x.c1)) (.cons (.lst (SqL.of x.h2) (zbA x.c2)) .nil))
def zpc:Sp:=λvs H Q _=>∃(c k:Int),vs=[.int c,.int k]/\∀z:Int,Q (.int z) H
def marks:List Nat:=[35,111,99,46]
def zrh:Sp:=λvs H Q _=>∃(x o m:Int) (r:Bool),vs=[.int x,.int o,.int m,.bl r]/\0<o/\∀k:Nat,k∈marks->(r=false->k≠111/\k≠99)->Q (.str ⟨#[k]⟩) H
def zsn:("o":Str)=⟨#[111]⟩:=by decide+kernel
def zs5:("c":Str)=⟨#[99]⟩:=by decide+kernel
def zs6:(".":Str)=⟨#[46]⟩:=by decide+kernel
def YD:zE ["_law_cell","_law_k","_law_drawn_here"] ["_law_cell","_law_k"] (zp xN):=bh
def zfG (D:zk K mg "_law_mixed" xN ["_law_cell","_law_k"] f fd):zY P w K mg base CX0 1 f fd ["_law_cell","_law_k"] zpc:=by
 refine D.F.ok YD (λvs H Q E h=>?_) (λr A m s H vs Q E I h=>?_)
 .obtain⟨c,i,rfl,_⟩:=h;rfl
 .obtain⟨c,i,rfl,k⟩:=h;refine⟨_,(ze (qR 2 YD.nd (zx jK (zx yW (zx yW (zx jK (pv 0) zf) (@zx _ _ _ _ _ _ _ _ Z1 zf (pv 1))) zf) zf)) (ze (qR 2 YD.nd (zx jK (zx Z1 (zx jK (zx Z1 (pv 2) (pv 2)) zf) zf) zf)) (zh (zB (zx j8 (pv 2) zf))))),?_⟩;(try dsimp only[cxK,cxP,cxW]);refine cX rfl rfl rfl (by show (0:Int)<2147483629;decide) (cX rfl rfl rfl (mulL (by decide) (by decide)) (cI rfl rfl (cI rfl rfl (cV rfl rfl (by show (0:Int)<2147483647;decide) ?_))));have B:=U5 (c%2147483629+7919*i+11) (show (2147483647:Int)≠0 by decide);have G:=UQ (c%2147483629+7919*i+11) (show (0:Int)<2147483647 by decide);generalize (c%2147483629+7919*i+11)%2147483647=d at *
  refine cD rfl (cX rfl rfl rfl (mulL (by lia) (by lia)) (cV rfl rfl (by show (0:Int)<2147483647;decide) (cV rfl rfl (zrT (by decide) (by decide)) (cV rfl rfl (by show (0:Int)<2147483587;decide) ?_))));exact⟨_,rfl,_,_,rfl,rfl,Jx.small (by decide) (by decide),k _⟩
def zhs:zE ["_law_drawn_here","_law_often","_law_many","_law_room"] ["_law_drawn_here","_law_often","_law_many","_law_room"] (zp JI):=bh
def zht (D:zk K mg "_law_mark" JI ["_law_drawn_here","_law_often","_law_many","_law_room"] f fd):zY P w K mg base CX0 1 f fd ["_law_drawn_here","_law_often","_law_many","_law_room"] zrh:=by
 refine D.F.ok zhs (λvs H Q E h=>?_) (λI A B s H vs Q E U h=>?_)
 .obtain⟨x,o,m,r,rfl,_⟩:=h;rfl
 .obtain⟨x,o,m,r,rfl,J,q⟩:=h;refine⟨_,(ze (qW (jh YH (zx jK (zx j8 (pv 0) zf) zf) zf (qb _)) (@zh _ _ _ (@zB _ _ _ _ jx)) qd) (ze (qW (PW.pt (ze4 (yF (pv 3) (λ_=>rfl)) (zcf (jh YH (zx jK (zx jK (pv 0) zf) (pv 1)) zf (qb _))))) (@zh _ _ _ (@zB _ _ _ _ jx)) qd) (ze (qW (PW.pt (ze4 (yF (pv 3) (λ_=>rfl)) (zcf (jh zfY (zx jK (zx j8 (pv 0) zf) zf) (pv 2) (qb _))))) (@zh _ _ _ (@zB _ _ _ _ jx)) qd) (@zh _ _ _ (@zB _ _ _ _ jx))))),?_⟩;(try dsimp only[cxK,cxP,cxW]);have L:Q (.str "#") H:=by
   rw[J7];exact q 35 (by decide) (λ_=>⟨by decide,by decide⟩)
  have G:Q (.str ".") H:=by
   rw[zs6];exact q 46 (by decide) (λ_=>⟨by decide,by decide⟩)
  refine cX rfl rfl rfl (Jx.small (by decide) (by decide)) (cO rfl rfl (by show (0:Int)<13;decide) rfl (cD rfl (zcA (λ_=>L) (λ_=>?_))));cases r with
  | false =>
   refine⟨_,rfl,_,rfl,Q4 (Q4 ?_)⟩;exact⟨_,rfl,_,rfl,Q4 (Q4 G)⟩
  | true =>
   have M:Q (.str "o") H:=by
    rw[zsn];exact q 111 (by decide) (λh=>nomatch h)
   have O:Q (.str "c") H:=by
    rw[zs5];exact q 99 (by decide) (λh=>nomatch h)
   refine⟨_,rfl,_,rfl,Q5 (cX rfl rfl rfl (by show (0:Int)<64;decide) (cJ rfl rfl rfl (cQ J rfl (cD rfl (zcA (λ_=>M) (λ_=>?_))))))⟩;exact⟨_,rfl,_,rfl,Q5 (cX rfl rfl rfl (Jx.small (by decide) (by decide)) (cV rfl rfl (by show (0:Int)<5;decide) (cJ rfl rfl rfl (cD rfl (zcA (λ_=>O) (λ_=>G))))))⟩
def zs7 (H:Hp)(v:V)(t:List Nat):Prop:=∃a,v=V.ref a/\H a=some (.lst (t.map λc=>V.str ⟨#[c]⟩))
def JS (H:Hp):AE->List (List Nat)->Prop:=XG (zs7 H)
theorem JS.mono {H m:Hp}(s:zo H m):∀{vs:AE} {gs:List (List Nat)},JS H vs gs->JS m vs gs
 | _,_,.nil=>.nil
 | _,_,.cons ⟨a,e,h⟩ t=>.cons ⟨a,e,s _ _ h⟩ (JS.mono s t)
theorem JS.keep {H m:Hp}{d:Addr}(k:∀b o,b≠d->H b=some o->m b=some o):∀{vs:AE} {gs:List (List Nat)},JS H vs gs->(∀v∈vs,v≠V.ref d)->JS m vs gs
 | _,_,.nil,_=>.nil
 | _,_,.cons ⟨a,e,h⟩ t,hn=>.cons ⟨a,e,k a _ (λz=>hn _ X5 (by rw[e,z])) h⟩ (JS.keep k t λv hv=>hn v (Y1 _ hv))
def JS.grid {H:Hp}{vs:AE}{gs:List (List Nat)}(h:JS H vs gs):JR H vs gs:=Paired.imp' (λ_ _ z=>.inr z) h
theorem zjV {H:Hp}:∀{vs:AE} {gs:List (List Nat)} {i:Nat} {t:List Nat},JS H vs gs->gs[i]?=some t->∃a,vs[i]?=some (V.ref a)/\H a=some (.lst (t.map λc=>V.str ⟨#[c]⟩))
 | _,_,_,_,.nil,e=>by simp at e
 | _,_,0,_,.cons ⟨a,r,h⟩ _,e=>by
  simp at e;subst e;exact⟨a,by rw[r];rfl,h⟩
 | _,_,i+1,t,.cons _ q,e=>by
  obtain⟨c,m,s⟩:=zjV (i:=i) (t:=t) q (by simpa using e);exact⟨c,by simpa using m,s⟩
def jM (k:Nat):Bool:=decide (k=111) || decide (k=99)
def zbD (t:List Nat):Nat:=(t.filter jM).length
def za5 (gs:List (List Nat)):Nat:=(gs.map zbD).sum
def zeT (t:List Nat)(k:Nat):zbD (t++[k])=zbD t+(if jM k=true then 1 else 0):=by
 unfold zbD;rw[W6,X6,WB];split<;>rfl
def zlu (gs:List (List Nat))(t:List Nat):za5 (gs++[t])=za5 gs+zbD t:=by
 unfold za5;rw[XB,List.sum_append];simp
structure QZ (gs:List (List Nat)):Prop where
 lo:1<=gs.length
 hi:gs.length<=8
 ex:∃n,1<=n/\n<=8/\gs.length*n<=16/\∀t∈gs,t.length=n/\∀k∈t,k∈marks
 few:za5 gs<=8
def zjW (K:XW):Sp:=λvs H Q _=>∃(a:Addr) (w:List Int),vs=[.ref a,.int 16,.int 8]/\SqL K H a (w.map V.int) /\
 ∀(d:Addr) (s:AE) (r:List (List Nat)) (m:Hp),H d=none->m d=some (.lst s)->JS m s r->QZ r->zo H m->Q (.ref d) m
def mr8 (x:Int):1<=1+x%8/\1+x%8<=8:=by
 have a:=U5 x (show (8:Int)≠0 by decide);have b:=UQ x (show (0:Int)<8 by decide);lia
def m16 {x:Int}(m:1<=x)(r:x<=8):(0:Int)<(if 16/x<8 then 16/x else 8):=by
 have h:x=1\/x=2\/x=3\/x=4\/x=5\/x=6\/x=7\/x=8:=by lia
 rcases h with rfl | rfl | rfl | rfl | rfl | rfl | rfl | rfl<;>decide
def wd (c0 c1:Int):Int:=1+c1/8%(if 16/(1+c0%8)<8 then 16/(1+c0%8) else 8)
def zri {c0 c1:Int}(_:Int)(r:1<=1+c0%8)(s:1+c0%8<=8):1<=wd c0 c1/\wd c0 c1<=8:=by
 have m:=m16 r s;have a:=U5 (c1/8) (Int.ne_of_gt m);have b:=UQ (c1/8) m;unfold wd;have c:(if 16/(1+c0%8)<8 then 16/(1+c0%8) else 8)<=8:=by split<;>lia
 lia
def zrj {c0 c1:Int}(r:1<=1+c0%8)(s:1+c0%8<=8):(1+c0%8).toNat*(wd c0 c1).toNat<=16:=by
 have m:=m16 r s;have a:=U5 (c1/8) (Int.ne_of_gt m);have b:=UQ (c1/8) m;unfold wd;generalize c1/8%(if 16/(1+c0%8)<8 then 16/(1+c0%8) else 8)=y at *
 generalize 1+c0%8=x at *
 have h:x=1\/x=2\/x=3\/x=4\/x=5\/x=6\/x=7\/x=8:=by lia
 rcases h with rfl | rfl | rfl | rfl | rfl | rfl | rfl | rfl
 .have b:y<8:=b;show 1*(1+y).toNat<=16;lia
 .have b:y<8:=b;show 2*(1+y).toNat<=16;lia
 .have b:y<5:=b;show 3*(1+y).toNat<=16;lia
 .have b:y<4:=b;show 4*(1+y).toNat<=16;lia
 .have b:y<3:=b;show 5*(1+y).toNat<=16;lia
 .have b:y<2:=b;show 6*(1+y).toNat<=16;lia
 .have b:y<2:=b;show 7*(1+y).toNat<=16;lia
 .have b:y<2:=b;show 8*(1+y).toNat<=16;lia
def zpd:∀k∈marks,([U8 "o",U8 "c"].any λz=>WQ z (.str ⟨#[k]⟩))=jM k:=by decide+kernel
def znx:∀k∈marks,Wr (.str ⟨#[k]⟩)=true:=by decide+kernel
def zny {α:Type}(xs:List α)(v:α):atI (xs++[v]) (-1)=some v:=by
 have hl:(xs++[v]).length=xs.length+1:=by simp
 have e:ixN (xs.length+1) (-1)=some xs.length:=by
  unfold ixN;rw[bq (by decide),bw (by lia)];congr 1;lia
 unfold atI;rw[hl,e];show (xs++[v])[xs.length]?=some v;simp
def qj:zE ["_law_script","_law_most","_law_limit","_law_high","_law_wide","_law_often","_law_many","_law_marks","_law_shut","_law_row","_law_line","_law_column","_law_place","_law_drawn_here"] ["_law_script","_law_most","_law_limit"] (zp Za):=bh
def zfH {f1 f2 f3:Addr}{ah am an:XF}(T:Txt mg)(D:zk K mg "_law_drawn" Za ["_law_script","_law_most","_law_limit"] f fd)(qy:zk K mg "_law_cell_at" yc ["_law_script","_law_k"] f1 ah)(Zk:zk K mg "_law_mixed" xN ["_law_cell","_law_k"] f2 am)(YE:zk K mg "_law_mark" JI ["_law_drawn_here","_law_often","_law_many","_law_room"] f3 an):zY P w K mg base CX0 2 f fd ["_law_script","_law_most","_law_limit"] (zjW K):=by
 have jf:zY P w K mg base CX0 1 f1 ah ["_law_script","_law_k"] (zii K):=Qa T qy;refine D.F.ok qj (λvs H Q E h=>?_) (λas A aq s H vs Q E Y h=>?_)
 .obtain⟨a,ns,rfl,_⟩:=h;rfl
 .obtain⟨a,ns,rfl,hS,q⟩:=h;refine⟨_,(@ze _ _ _ _ _ (@qx _ _ 3 _ _ _ _ qj.nd rfl (VU rfl) (@zx _ _ _ _ _ _ _ _ yW zf (zx jK (pc0 jf Y qy (za (pv 0) (@za _ _ _ _ _ zf zd rfl))) (yG (Zt rfl) (by rfl) T.zex Vp (@za _ _ _ _ _ zf (za (pv 1) zd) rfl)))) (by rfl) (.inr rfl)) (@ze _ _ _ _ _ (@qx _ _ 4 _ _ _ _ qj.nd rfl (VU rfl) (@zx _ _ _ _ _ _ _ _ yW zf (zx jK (zx j8 (pc0 jf Y qy (za (pv 0) (@za _ _ _ _ _ zf zd rfl))) zf) (yG (Zt rfl) (by rfl) T.zex Vp (@za _ _ _ _ _ zf (za (zx j8 (pv 1) (pv 3)) zd) rfl)))) (by rfl) (.inr rfl)) (@ze _ _ _ _ _ (@qx _ _ 5 _ _ _ _ qj.nd rfl (VU rfl) (@zx _ _ _ _ _ _ _ _ yW zf (zx jK (pc0 jf Y qy (za (pv 0) (@za _ _ _ _ _ zf zd rfl))) zf)) (by rfl) (.inr rfl)) (ze (qR 6 qj.nd (zx jK (zx j8 (pc0 jf Y qy (za (pv 0) (@za _ _ _ _ _ zf zd rfl))) zf) zf)) (@ze _ _ _ _ _ (@qx _ _ 7 _ _ _ _ qj.nd rfl (VU rfl) (@zR _ _ _ _ zd) (by rfl) (.inr rfl)) (@ze _ _ _ _ _ (@qx _ _ 8 _ _ _ _ qj.nd rfl (VU rfl) zf (by rfl) (.inr rfl)) (ze (qz Xd rfl (prg T.jB (pv 3)) (pgq 9 qj.nd) (@ze _ _ _ _ _ (@qx _ _ 10 _ _ _ _ qj.nd rfl (VU rfl) (@zR _ _ _ _ zd) (by rfl) (.inr rfl)) (ze (qz Xd rfl (prg T.jB (pv 4)) (pgq 11 qj.nd) (@ze _ _ _ _ _ (@qx _ _ 12 _ _ _ _ qj.nd rfl (VU rfl) (@zx _ _ _ _ _ _ _ _ yW (@zx _ _ _ _ _ _ _ _ Z1 zf (pv 9)) (pv 11)) (by rfl) (.inr rfl)) (ze (qR 13 qj.nd (pc0 (zfG Zk) Y Zk (za (pc0 jf Y qy (za (pv 0) (@za _ _ _ _ _ (@zx _ _ _ _ _ _ _ _ yW zf (zx jK (pv 12) zf)) zd rfl))) (za (pv 12) zd)))) (ze (qV (yV W7 WJ WI Jq (pv 10) (za (pc0 (zht YE) Y YE (za (pv 13) (za (pv 5) (za (pv 6) (za (yE zfY (pv 8) (pv 2) (qb _)) zd))))) zd))) (zh (qR 8 qj.nd (zx yW (pv 8) (pt1 zkj T.zmH SE (yE (zkG Y.units) (zG jj (pv 10) (zlH zhI zf) (λ_ _=>rfl)) (@qu _ _ _ _ _ (@za _ _ _ _ _ jx (@za _ _ _ _ _ jx zd rfl) rfl)) (by rfl)))))))))) (zh (qV (yV W7 WJ WI Jq (pv 7) (za (pv 10) zd))))))) (zh (zB (pv 7)))))))))),?_⟩;(try dsimp only[cxK,cxP,cxW]);refine cD rfl (cE a ns (cH rfl hS ⟨by decide,λc0=>(cD rfl (cE 8 16 ⟨rfl,(cV rfl rfl (by show (0:Int)<8;decide) (cI rfl rfl ?_))⟩))⟩));obtain⟨h1,h8⟩:=mr8 c0;refine cD rfl (cE a ns (cH rfl hS ⟨by decide,λc1=>(cV rfl rfl (Jx.small (by decide) (by decide)) (cD rfl (cX rfl rfl rfl (Jx.small (by show (0:Int)<1+c0%8;lia) (by show 1+c0%8<_;exact Int.lt_of_le_of_lt h8 (by decide))) ⟨8,(cX rfl rfl rfl ?_ (cI rfl rfl ?_))⟩)))⟩))
  .show (0:Int)<(if 16/(1+c0%8)<8 then 16/(1+c0%8) else 8);exact m16 h1 h8
  obtain⟨w1,w8⟩:=zri (c0:=c0) (c1:=c1) 0 h1 h8;refine cD rfl (cE a ns (cH rfl hS ⟨by decide,λc2=>(cV rfl rfl (by show (0:Int)<5;decide) (cI rfl rfl ?_))⟩));have o0:=U5 c2 (show (5:Int)≠0 by decide);refine cD rfl (cE a ns (cH rfl hS ⟨by decide,λc3=>(cV rfl rfl (Jx.small (by decide) (by decide)) (cV rfl rfl (by show (0:Int)<5;decide) ?_))⟩));refine⟨yU,λd hd=>?_⟩;have s0:=zc (o:=.lst []) hd;refine cS rfl (1+c0%8) (cL rfl (by lia) (by lia) ?_);refine qE (lo:=0) (n:=(1+c0%8).toNat) (λi σ H'=>∃(v9 ag r B G:Option V) (us:AE) (m:List (List Nat)),σ=[some (.ref a),some (.int 16),some (.int 8),some (.int (1+c0%8)),some (.int (wd c0 c1)),some (.int (2+c2%5)),some (.int (c3/5%5)),some (.ref d),some (.int ((za5 m:Nat):Int)),v9,ag,r,B,G]/\zo H H'/\H' d=some (.lst us)/\JS H' us m/\(∀v∈us,v≠V.ref d)/\m.length=i/\(∀t∈m,t.length=(wd c0 c1).toNat/\∀k∈t,k∈marks)/\za5 m<=8) (cG (cG ⟨_,(cE [] [] (cU rfl s0 zb (.nil) (cL (λ_ h=>nomatch h) rfl (λ_ h=>nomatch h) (by decide))))⟩)) ?_ ?_
  .refine λi σ H1 hi=>dg λv9 ag r B=>dB λG us m z0 s1 M hM=>dz λab gl aa L=>?_;subst z0;refine⟨yU,λJ O=>?_⟩;have z2:=zc (o:=.lst []) O;refine cS rfl (wd c0 c1) (cL rfl (by lia) (by lia) ?_);refine qE (lo:=0) (n:=(wd c0 c1).toNat) (λj σ H'=>∃(r B G:Option V) (t:List Nat),σ=[some (.ref a),some (.int 16),some (.int 8),some (.int (1+c0%8)),some (.int (wd c0 c1)),some (.int (2+c2%5)),some (.int (c3/5%5)),some (.ref d),some (.int (((za5 m+zbD t):Nat):Int)),some (.int (0+(i:Int))),some (.ref J),r,B,G]/\zo H1 H'/\H' J=some (.lst (t.map λc=>V.str ⟨#[c]⟩))/\t.length=j/\(∀k∈t,k∈marks)/\za5 m+zbD t<=8) (cG ⟨_,(cK [] rfl z2 zb rfl ⟨(λ_ h=>nomatch h),L⟩)⟩) ?_ ?_
   .refine λj σ H2 hj=>dg λr B G t=>dh λz0 s2 I tl af ai=>?_;subst z0;have ar:=s1.trans s2;refine cX rfl rfl rfl (mulL (by decide) (by decide)) (cJ rfl rfl rfl ?_);have p0:=U5 (8*(0+(i:Int))+(0+(j:Int))) (show (58:Int)≠0 by decide);refine cD rfl (cX rfl rfl rfl (by show (0:Int)<58;decide) (cI rfl rfl (cE a ns (cH rfl (ar.seq hS) ⟨(by show (0:Int)<=4+(8*(0+(i:Int))+(0+(j:Int)))%58;lia),λcc=>(cD rfl ⟨_,(cD rfl (λdr=>?_))⟩)⟩))));refine cH rfl (.inl ⟨rfl,_,SqL.of I⟩) (cZ rfl rfl (cZ rfl rfl (cJ rfl rfl rfl (cG (cI rfl (by show (0:Int)<2+c2%5;lia) (λk hk ac=>?_))))));refine⟨J,(cO rfl rfl I ?_ ?_)⟩
    .rw[ZB];exact XJ (show _<=8 by lia) (by decide)
    have t1:(t++[k]).map (λc=>V.str ⟨#[c]⟩)=t.map (λc=>V.str ⟨#[c]⟩)++[V.str ⟨#[k]⟩]:=by rw[XB];rfl
    have U:upd H2 J (.lst (t.map (λc=>V.str ⟨#[c]⟩)++[V.str ⟨#[k]⟩])) J=some (.lst (t.map (λc=>V.str ⟨#[c]⟩)++[V.str ⟨#[k]⟩])):=zb;have s3:zo H1 (upd H2 J (.lst (t.map (λc=>V.str ⟨#[c]⟩)++[V.str ⟨#[k]⟩]))):=λb o e=>by
     rw[zg (zj e O)];exact s2 _ _ e
    generalize upd H2 J (.lst (t.map (λc=>V.str ⟨#[c]⟩)++[V.str ⟨#[k]⟩]))=H3 at *
    refine cZ rfl rfl (cS rfl J (cG (cK (V.str ⟨#[k]⟩) rfl rfl (SqL.of U) (zny _ _) ⟨j9,λtp ao=>?_⟩)));have z4:=zc (o:=.tup [V.str "o",V.str "c"]) ao;refine cE (.str ⟨#[k]⟩) [.str "o",.str "c"] (cM (.str _) (.tup (SqT.of zb) (.cons (.str _) (.cons (.str _) .nil))) (znx k hk) (by decide+kernel) (by show 0<=60;decide) ?_);rw[zpd k hk];refine .inr (cJ rfl rfl rfl ?_);have ec:((za5 m+zbD t:Nat):Int)+(if jM k=true then 1 else 0)=((za5 m+zbD (t++[k]):Nat):Int):=by
     rw[zeT];split<;>lia
    refine cF (some (.int (0+(j:Int)))) (some (.int (8*(0+(i:Int))+(0+(j:Int))))) (some (.int dr)) (t++[k]) (cM ?_ (s3.trans z4) ?_ (by rw[X6,tl];rfl) (λx hx=>?_) ?_)
    .show [_,_,_,_,_,_,_,_,some (V.int (((za5 m+zbD t:Nat):Int)+(if jM k=true then 1 else 0))),_,_,_,_,_]=_;rw[ec]
    .rw[t1];exact z4 _ _ U
    .rcases XU.mp hx with h | h
     .exact af x h
     .have:x=k:=by simpa using h
      rw[this];exact hk
    .rw[zeT];split
     .rename_i ae;have au:((za5 m+zbD t:Nat):Int)<8:=by
       refine Wx λhc=>?_;have hf:=ac (bf hc);unfold jM at ae;rw[bf hf.1,bf hf.2]at ae;cases ae
      lia
     .lia
   .refine λσ H2=>dg λr B G t=>dh λz0 s2 I tl af ai=>?_;subst z0;have aj:=s2 _ _ M;have al:J≠d:=λz=>by
     rw[z,M]at O;cases O
    have ul:us.length=m.length:=Paired.length hM;refine cH rfl (.inl ⟨rfl,_,SqL.of aj⟩) (cS rfl d (cO rfl rfl aj ?_ ?_))
    .exact XJ (show _<=8 by lia) (by decide)
    have ak:=zlu m t;refine cF (some (.int (0+(i:Int)))) (some (.ref J)) r B (cE G (us++[.ref J]) (cK (m++[t]) ?_ (λb o e=>?_) zb ?_ (cL (λv hv=>?_) (by rw[X6,gl];rfl) (λu hu=>?_) (by rw[ak];exact ai))))
    .rw[ak]
    .rw[zg (zj e hd)];exact s2 _ _ (s1 _ _ e)
    .refine Paired.snoc (JS.keep (d:=d) (λb o nb e=>by rw[zg nb];exact s2 _ _ e) hM ab) ⟨J,rfl,?_⟩;rw[zg al];exact I
    .rcases XU.mp hv with h | h
     .exact ab v h
     .have:v=V.ref J:=by simpa using h
      rw[this];exact λz=>al (V.ref.inj z)
    .rcases XU.mp hu with h | h
     .exact aa u h
     .have:u=t:=by simpa using h
      rw[this];exact⟨tl,af⟩
  .rintro σ H1 ⟨v9,ag,r,B,G,us,m,rfl,s1,M,hM,ab,gl,aa,L⟩;exact⟨_,rfl,q d us m H1 hd M hM ⟨by lia,by lia,⟨(wd c0 c1).toNat,by lia,by lia,by rw[gl];exact zrj h1 h8,aa⟩,L⟩ s1⟩
def QZ.t8 {gs:List (List Nat)}(M:QZ gs):∀t∈gs,t.length<=8:=λt r=>by
 obtain⟨n,_,m,_,h⟩:=M.ex;rw[(h t r).1];exact m
def dlt (c x:AA):AA:=(x.1+1-c.1,x.2+1-c.2)
def zjX:AB:=[(0,0),(0,1),(0,2),(1,0),(1,2),(2,0),(2,1),(2,2)]
def znz {a b:Nat}(ha:a<3)(r:b<3)(h:¬ (a=1/\b=1)):(a,b)∈zjX:=by
 have m:∀a b:Fin 3,¬ (a=1/\b=1)->(a.1,b.1)∈zjX:=by decide
 exact m ⟨a,ha⟩ ⟨b,r⟩ λz=>h ⟨congrArg Fin.val z.1,congrArg Fin.val z.2⟩
def zdB {p:Nat->Bool}(gs:List (List Nat))(c:AA):((Cells.zz p 0 gs).filter λx=>Cells.near x c).length<=8:=by
 have s:=(qm (Cells.Js p 0 gs)).sublist (Xm (p:=λx=>Cells.near x c));have hn:∀x∈(Cells.zz p 0 gs).filter (λx=>Cells.near x c),(x.1<=c.1+1/\c.1<=x.1+1)/\(x.2<=c.2+1/\c.2<=x.2+1)/\¬ x=c:=λx hx=>(Cells.JG x c).mp (X8.mp hx).2;generalize (Cells.zz p 0 gs).filter (λx=>Cells.near x c)=L at *
 have w:(L.map (dlt c)).Nodup:=by
  refine V9.mpr (s.imp_of_mem λ{a b} ha m hl e=>hl ?_);obtain⟨A,B,_⟩:=hn a ha;obtain⟨D,E,_⟩:=hn b m;have G:a.1+1-c.1=b.1+1-c.1:=congrArg Prod.fst e;have I:a.2+1-c.2=b.2+1-c.2:=congrArg Prod.snd e;exact Prod.ext (by lia) (by lia)
 have r:∀y∈L.map (dlt c),y∈zjX:=λy hy=>by
  obtain⟨x,hx,rfl⟩:=XN.mp hy;obtain⟨a,b,h⟩:=hn x hx;exact znz (by lia) (by lia) λz=>h (Prod.ext (by lia) (by lia))
 have:=((WW w ((by decide:zjX.Nodup).sublist (Xm (p:=λy=>decide (y∈L.map (dlt c)))))).mpr λy=>by
  rw[X8,bu];exact⟨λz=>⟨r y z,z⟩,λz=>z.2⟩).length_eq
 rw[ZB]at this;rw[this];exact Xw _ _
def zso:∀d:Nat,d<9->((toString (d:Int):String):Str)=⟨#[48+d]⟩/\48+d∈bd.cps.toList/\xY (48+d)=false:=by decide+kernel
def stM (gs:List (List Nat)):AB:=Cells.zz (pZ [111]) 0 gs
def nrM (gs:List (List Nat))(i j:Nat):AB:=(stM gs).filter λx=>Cells.near x (i,j)
def zb9 (gs:List (List Nat))(i j k:Nat):Nat:=if k=46 then 48+(nrM gs i j).length else if jM k=true then 63 else k
def ziG (gs:List (List Nat))(i:Nat)(t:List Nat):List Nat:=t.mapIdx (zb9 gs i)
def zdC (gs:List (List Nat)):List (List Nat):=gs.mapIdx (ziG gs)
def zbX {α m:Type}(f:Nat->α->m){t:List α}{j:Nat}{k:α}(h:t[j]?=some k):(t.take (j+1)).mapIdx f=(t.take j).mapIdx f++[f j k]:=by
 obtain⟨hl,e⟩:=XV.mp h;rw[Xe,h,List.mapIdx_append];simp only[Option.toList_some,Rc,List.mapIdx_nil,XM];rw[VI,Nat.min_eq_left (by lia)]
theorem za6 {p q:Nat->Bool}{f:Nat->Nat->Nat}(i:Nat)(s:∀m c,p (f m c)=q c):∀(j m:Nat) (t:List Nat),Cells.zK p i j (t.mapIdx λa=>f (a+m))=Cells.zK q i j t
 | _,_,[]=>rfl
 | j,m,c::r=>by
  rw[Rc,Cells.zK,Cells.zK,s];have:=za6 i s (j+1) (m+1) r;have e:(λa=>f (a+(m+1)))=λa=>f (a+1+m):=by
   funext a;congr 1;lia
  rw[e]at this;rw[this]
theorem za7 {p q:Nat->Bool}{f:Nat->List Nat->List Nat}(s:∀m i t,Cells.zK p i 0 (f m t)=Cells.zK q i 0 t):∀(i m:Nat) (gs:List (List Nat)),Cells.zz p i (gs.mapIdx λa=>f (a+m))=Cells.zz q i gs
 | _,_,[]=>rfl
 | i,m,t::r=>by
  rw[Rc,Cells.zz,Cells.zz,s];have:=za7 s (i+1) (m+1) r;have e:(λa=>f (a+(m+1)))=λa=>f (a+1+m):=by
   funext a;congr 1;lia
  rw[e]at this;rw[this]
def zlv (gs:List (List Nat))(i j k:Nat):xY (zb9 gs i j k)=(jM k || decide (k=63)):=by
 unfold zb9;have s:(nrM gs i j).length<=8:=zdB gs (i,j);by_cases r:k=46
 .rw[bw r,r];show decide (48+(nrM gs i j).length=63)=false;exact bf (by lia)
 .rw[bq r];by_cases m:jM k=true
  .rw[bw m,m];rfl
  .rw[bq m,Xk.mpr m];rfl
def znA {gs:List (List Nat)}:Cells.zz xY 0 (zdC gs)=Cells.zz (λk=>jM k || decide (k=63)) 0 gs:=by
 have h:=za7 (p:=xY) (q:=λk=>jM k || decide (k=63)) (f:=ziG gs) (λm i t=>za6 (f:=zb9 gs m) i (λa c=>zlv gs m a c) 0 0 t) 0 0 gs;exact h
theorem zeU (i:Nat):∀(j:Nat) (t:List Nat),(∀k∈t,k∈marks)->(Cells.zK (λk=>jM k || decide (k=63)) i j t).length=zbD t
 | _,[],_=>rfl
 | j,c::r,h=>by
  have s:=zeU i (j+1) r λk hk=>h k (Y1 _ hk);have hc:∀k∈marks,(jM k || decide (k=63))=jM k:=by decide
  have e:=hc c (h c X5);unfold zbD at s ⊢;rw[Cells.zK,WB];by_cases m:jM c=true
  .rw[bw m,bw (e.trans m),X6,Xn,Xn,U7,s];lia
  .rw[bq m,bq (by rw[e];exact m),PJ,s]
theorem zeV:∀(i:Nat) (gs:List (List Nat)),(∀t∈gs,∀k∈t,k∈marks)->(Cells.zz (λk=>jM k || decide (k=63)) i gs).length=za5 gs
 | _,[],_=>rfl
 | i,t::r,h=>by
  have m:=zeV (i+1) r λu s=>h u (Y1 _ s);have e:=zeU i 0 t (h t X5);unfold za5 at m ⊢;rw[Cells.zz,X6,Xu,OD,m,e]
def QZ.few9 {gs:List (List Nat)}{rs:AD}(M:QZ gs)(h:codes rs=zdC gs):(zv rs).length<=8:=by
 unfold zv;obtain⟨n,_,_,_,hn⟩:=M.ex;rw[h,znA,zeV 0 gs λt m=>(hn t m).2];exact M.few
def QZ.rows {gs:List (List Nat)}{rs:AD}(M:QZ gs)(h:codes rs=zdC gs):Rows bd.cps.toList rs:=by
 have hl:rs.length=gs.length:=by
  have e:(codes rs).length=(zdC gs).length:=by rw[h]
  rw[qX]at e;unfold zdC at e;rw[UO]at e;exact e
 obtain⟨n,B,D,_,hn⟩:=M.ex;refine⟨by rw[hl];exact M.lo,by rw[hl];exact M.hi,n,B,D,λt A=>?_⟩;have hm:t.cps.toList∈zdC gs:=by
  rw[<- h];exact List.mem_map_of_mem A
 unfold zdC at hm;obtain⟨i,hi,e⟩:=PB.mp hm;have r:=hn gs[i] (UV hi);refine⟨?_,λk hk=>?_⟩
 .have m:t.cps.toList.length=n:=by
   rw[<- e];unfold ziG;rw[UO,r.1]
  rw[XZ]at m;exact m
 .rw[<- e]at hk;unfold ziG at hk;obtain⟨j,w,s⟩:=PB.mp hk;have hx:=r.2 _ (UV w);have E:(nrM gs i j).length<=8:=zdB gs (i,j);rw[<- s];unfold zb9;split
  .have:∀d:Nat,d<9->48+d∈bd.cps.toList:=by decide+kernel
   exact this _ (by lia)
  .split
   .decide+kernel
   .rename_i a b;have:∀k∈marks,k≠46->jM k≠true->k∈bd.cps.toList:=by decide+kernel
    exact this _ hx a b
def zhu:Sp:=λvs H Q _=>∃(d:Addr) (w:AE) (m:List (List Nat)),vs=[.ref d]/\H d=some (.lst w)/\JS H w m/\QZ m /\
 ∀(p l:Addr) (s:AD) (r:Hp),H p=none->H l=none->qe r p l s ((stM m).length:Nat)->codes s=zdC m->zo H r->Q (.ref p) r
def zrk:∀k∈marks,k≠46->(jn (Z5 [] [(.inr "o",V.str "?"),(.inr "c",V.str "?")]) (.inr ⟨#[k]⟩)).getD (V.str ⟨#[k]⟩)=V.str ⟨#[if jM k=true then 63 else k]⟩:=by
 intro k hk h;have hm:k=35\/k=111\/k=99\/k=46:=by simpa[marks] using hk
 rcases hm with rfl | rfl | rfl | rfl
 .rfl
 .rfl
 .rfl
 .exact absurd rfl h
def zrl:∀d:Nat,d<9->(jn (Z5 [] [(.inr "o",V.str "?"),(.inr "c",V.str "?")]) (.inr ⟨#[48+d]⟩)).getD (V.str ⟨#[48+d]⟩)=V.str ⟨#[48+d]⟩:=by
 intro d m;have hm:d=0\/d=1\/d=2\/d=3\/d=4\/d=5\/d=6\/d=7\/d=8:=by lia
 rcases hm with rfl | rfl | rfl | rfl | rfl | rfl | rfl | rfl | rfl<;>rfl
def qM:zE ["_law_marks","_law_stones","_law_rows","_law_row","_law_text","_law_column","_law_sign"] ["_law_marks"] (zp Zb):=bh
def zfI {f1 f2:Addr}{av aw:XF}(T:Txt mg)(D:zk K mg "_law_board" Zb ["_law_marks"] f fd)(YF:zk K mg "_law_near" JJ ["_law_one","_law_other"] f1 av)(qg:zk K mg "_law_cells" jv ["_law_rows","_law_signs"] f2 aw):zY P w K mg base CX0 2 f fd ["_law_marks"] zhu:=by
 refine D.F.ok qM (λvs H Q E h=>?_) (λaC A a6 s H vs Q E hr h=>?_)
 .obtain⟨d,us,r,rfl,_⟩:=h;rfl
 .revert h;refine dB λd us r z0 hd hM M q=>?_;subst z0;refine⟨_,(ze (qR 1 qM.nd (pc0 (YC T qg) hr qg (za (pv 0) (@za _ _ _ _ _ (@zR _ _ _ _ (@za _ _ _ _ _ jx zd rfl)) zd rfl)))) (@ze _ _ _ _ _ (@qx _ _ 2 _ _ _ _ qM.nd rfl (VU rfl) (@zR _ _ _ _ zd) (by rfl) (.inr rfl)) (ze (qz Xd rfl (prg T.jB (pb1 qi T.qT Xa (pv 0))) (pgq 3 qM.nd) (@ze _ _ _ _ _ (@qx _ _ 4 _ _ _ _ qM.nd rfl (VU rfl) jx (by rfl) (.inr rfl)) (ze (qz Xd rfl (prg T.jB (pb1 qi T.qT Xa (zG jj (pv 0) (pv 3) (λ_ _=>rfl)))) (pgq 5 qM.nd) (ze (qR 6 qM.nd (zG jj (zG jj (pv 0) (pv 3) (λ_ _=>rfl)) (pv 5) (λ_ _=>rfl))) (zfb (qW (jh YH (pv 6) jx (qb _)) (zh (qR 6 qM.nd (pt1 zap T.zpG Po (pb1 qi T.qT Xa (pcm ["_law_one","_law_row","_law_column"] [none,some 3,some 5] cR (zJ (pv 1)) (pgN 0) (qI (Qv (K:=K) (by rfl) (pc0 (zhr T YF) hr YF (za (pv 0) (za (qu (za (pv 1) (za (pv 2) zd))) zd))) (λ_=>rfl))) (pv 0)))))) qd) (zh (qR 4 qM.nd (zx Q3 (pv 4) (zgk (u1 hr.units) (zog (zgj jx jx (zgj jx jx zof)) rfl rfl (by simp) (by decide)) (pv 6) (pv 6) ⟨rfl,rfl,rfl,rfl⟩))))))) (zh (qV (yV W7 WJ WI Jq (pv 2) (za (pv 4) zd))))))) (zh (zB (qu (za (pv 2) (za (pb1 qi T.qT Xa (pv 1)) zd)))))))),?_⟩;(try dsimp only[cxK,cxP,cxW]);have ul:us.length=r.length:=Paired.length hM;have g8:=M.hi;refine⟨_,rfl,sz_1,λsg a2=>?_⟩;have z1:=zc (o:=.lst [V.str "o"]) a2;refine cF d sg us r (cK [111] rfl (z1 _ _ hd) (hM.mono z1).grid M.hi (cQ M.t8 (by rw[zb,zsn];rfl) (λsa sv H2 aD ah ay s2=>?_)));have az:Cel H2 sv (stM r):=ay;have ar:=z1.trans s2;refine⟨yU,λl hl=>?_⟩;have z3:=zc (o:=.lst []) hl;have as:=ar.trans z3;have al:upd H2 l (.lst []) l=some (.lst []):=zb;have ac:=z3 _ _ ah;have aa:=az.mono z3;have L:=ar.free hl;generalize upd H2 l (.lst [])=H3 at *
  refine cW rfl d rfl (.inl (SqL.of (as _ _ hd))) (cH rfl (by lia) ⟨by lia,?_⟩);rw[Wa,ul];refine qE (lo:=0) (n:=r.length) (λi σ H'=>∃(v3 v4 v5 U:Option V) (rs:AD),σ=[some (.ref d),some (.ref sa),some (.ref l),v3,v4,v5,U]/\zo H H'/\znv H3 H' l/\H' l=some (.lst (rs.map V.str))/\codes rs=(r.take i).mapIdx (ziG r)) ⟨_,_,_,_,[],rfl,as,λ_ _ _ e=>e,al,rfl⟩ ?_ ?_
  .refine λi σ H4 hi=>dP λv3 v4 v5 U rs z0 s4 O af er=>?_;subst z0;obtain⟨t,ht⟩:∃t,r[i]?=some t:=⟨_,XX hi⟩;have tl:=M.t8 t (X4 ht);obtain⟨ra,a1,ab⟩:=zjV (hM.mono s4) ht;have ai:atI us (0+(i:Int))=some (V.ref ra):=by
    rw[V2];exact ja a1
   have ag:sa≠l:=zj ah hl;have J:=O _ _ ag ac;have aj:Cel H4 sv (stM r):=Cel.one O al aa;have zl:(t.map λc=>V.str ⟨#[c]⟩).length=t.length:=ZB _;refine cD rfl (c7 rfl d (cO rfl rfl (SqL.of (s4 _ _ hd)) ai (cT ra rfl (.inl (SqL.of ab)) (cH rfl (by rw[zl];lia) ⟨by rw[zl];lia,?_⟩))));rw[Wa,zl];refine qE (lo:=0) (n:=t.length) (λj σ H'=>∃(v5 U:Option V) (B:Str),σ=[some (.ref d),some (.ref sa),some (.ref l),some (.int (0+(i:Int))),some (.str B),v5,U]/\zo H4 H'/\B.cps.toList=(t.take j).mapIdx (zb9 r i)) ⟨_,_,_,rfl,zo.refl _,rfl⟩ ?_ ?_
   .refine λj σ H5 hj=>dO λv5 U B=>c9 λz0 s5 et=>?_;subst z0;obtain⟨k,hk⟩:∃k,t[j]?=some k:=⟨_,XX hj⟩;refine dG (λn=>dz λn1 n8 _ hn=>?_) M.ex;have km:=(hn t (X4 ht)).2 k (X4 hk);have a8:B.length=j:=by
     rw[<- show B.cps.toList.length=B.length from XZ,et,UO,XM];lia
    have a7:=s4.trans s5;refine cD rfl (c7 rfl d (cO rfl rfl (SqL.of (a7 _ _ hd)) ai (cS rfl ra (cG (cK (V.str ⟨#[k]⟩) rfl rfl (SqL.of (s5 _ _ ab)) (by rw[V2];exact ja (by rw[XC,hk];rfl)) ?_)))));have ax:∀(c:Nat) (H6:Hp) (U:V),zo H5 H6->c=zb9 r i j k->∃(v5 a9:Option V) (au:Str),[some (V.ref d),some (V.ref sa),some (V.ref l),some (V.int (0+(i:Int))),some (V.str (B++⟨#[c]⟩)),some (V.int (0+(j:Int))),some U]=[some (V.ref d),some (V.ref sa),some (V.ref l),some (V.int (0+(i:Int))),some (V.str au),v5,a9]/\zo H4 H6/\au.cps.toList=(t.take (j+1)).mapIdx (zb9 r i):=λc H6 U s6 ec=>by
     refine⟨_,_,_,rfl,s5.trans s6,?_⟩;rw[zbX _ hk,<- et,<- ec];show (B.cps++#[c]).toList=_;rw[WM]
    refine⟨fun aB H'=>∃c:Nat,aB=[some (.ref d),some (.ref sa),some (.ref l),some (.int (0+(i:Int))),some (.str B),some (.int (0+(j:Int))),some (.str ⟨#[c]⟩)]/\zo H5 H'/\(jn (Z5 [] [(.inr "o",V.str "?"),(.inr "c",V.str "?")]) (.inr ⟨#[c]⟩)).getD (V.str ⟨#[c]⟩)=V.str ⟨#[zb9 r i j k]⟩,?_,?_⟩
    .by_cases G:k=46
     .have ae:=s5 _ _ J;have I:=aj.mono s5;have aE:(nrM r i j).length<=8:=zdB r (i,j);refine cH rfl rfl (cD rfl (j6 (by rw[G];decide+kernel) ?_));refine cS rfl sa (cQ rfl ⟨_,SqL.of ae⟩ (λz hz=>?_));refine ql (K:=K) (a:=sa) (xs:=sv) (λa=>a≠z) ((stM r).map λx=>if Cells.near x (i,j)=true then some (zm x) else none) (fun σ=>∃u0,σ=[u0,some (.int (0+(i:Int))),some (.int (0+(j:Int)))]) hz (λ_ h=>h) ⟨_,rfl⟩ (by rw[ZB];exact I.length.symm) (by rw[I.length];exact XY (show (stM r).length<=64 from XY (Cells.qL (pZ [111]) 0 r M.t8) (by lia)) (by decide)) (SqL.of ae) ?_ ?_
      .rintro m x o σ H6 hx ho s6 _ ⟨u0,rfl⟩ Y Z aA no;obtain⟨y,hy,ya,rfl,aq⟩:=Cel.get (Cel.mono s6 I) hx;have eo:=jL hy ho;refine cZ rfl rfl (cH rfl j9 (λtq a3=>?_));have z7:=zc (o:=.tup [V.int (0+(i:Int)),V.int (0+(j:Int))]) a3;refine cF ya tq y (i,j) (cL rfl (z7 _ _ aq) (by rw[zb,V2,V2]) (cD rfl ?_));by_cases hp:Cells.near y (i,j)=true
       .rw[bw hp]at eo;exact j6 hp ⟨_,rfl,aA _ _ _ _ eo ⟨_,rfl⟩ z7 (yQ.rdn ⟨ya,rfl,z7 _ _ aq⟩)⟩
       .rw[bq hp]at eo;exact jk (Xk.mpr hp) (no _ _ eo ⟨_,rfl⟩ z7)
      .rintro ys H6 s6 a5 ao;rw[qf]at ao;have yl:ys.length=(nrM r i j).length:=(zu.cel ao).length;have y9:ys.length<9:=by lia
       obtain⟨d1,d2,d3⟩:=zso ys.length y9;have an:((ys.length:Nat):Int).natAbs.log2<1920:=by
        rw[Ta];have:∀d:Nat,d<9->d.log2<1920:=by decide+kernel
        exact this _ y9
       refine cT z rfl (.inl (SqL.of a5)) (cH rfl an (c5 (48+ys.length) ?_ s6 ?_))
       .rw[<- d1];rfl
       .rw[zrl _ y9,yl];unfold zb9;rw[bw G]
     .refine cH rfl rfl (cD rfl (jk ?_ ⟨k,rfl,zo.refl _,?_⟩))
      .have:∀k∈marks,k≠46->decide (V.str ⟨#[k]⟩=V.str ".")=false:=by decide+kernel
       exact this k km G
      .rw[zrk k km G];unfold zb9;rw[bq G]
    .refine λ_ H6=>dG λc=>c9 λz0 s6 hg=>?_;subst z0;refine⟨_,rfl,λdp ak=>?_⟩;have z7:=zc (o:=.dK []) ak;have a4:zo H6 (upd (upd H6 dp (.dK [])) dp (.dK (Z5 [] [(.inr "o",V.str "?"),(.inr "c",V.str "?")]))):=λb o e=>by
      rw[zg (zj e ak)];exact z7 _ _ e
     refine⟨zb,(c5 [(.inr "o",V.str "?"),(.inr "c",V.str "?")] rfl (by decide) (c5 dp rfl (.inl ⟨_,.inl zb⟩) (cZ rfl rfl (cD (zcG.k (k:=.inr ⟨#[c]⟩) zb) (cE B ⟨#[zb9 r i j k]⟩ (cL rfl hg ?_ (ax _ _ _ (s6.trans a4) rfl)))))))⟩;rw[a8];exact XY (show j+1<=20 by lia) (by decide)
   .refine λσ H5=>dO λv5 U B=>c9 λz0 s5 et=>?_;subst z0;rw[XE]at et;have am:=s5 _ _ af;have rl:rs.length<=8:=by
     have:(codes rs).length=((r.take i).mapIdx (ziG r)).length:=by rw[er]
     rw[qX,UO,XM]at this;lia
    refine cH rfl (.inl ⟨rfl,_,SqL.of am⟩) (cS rfl l (cO rfl rfl am ?_ ?_))
    .rw[ZB];exact XJ rl (by decide)
    refine⟨_,_,_,_,rs++[B],rfl,λb o e=>?_,λb o nb e=>?_,?_,?_⟩
    .rw[zg (zj e L)];exact s5 _ _ (s4 _ _ e)
    .rw[zg nb];exact s5 _ _ (O _ _ nb e)
    .rw[zb,XB];rfl
    .rw[zbX _ ht,<- er];unfold codes;rw[XB];show _++[B.cps.toList]=_;rw[et];rfl
  .refine λσ H4=>dP λv3 v4 v5 U rs z0 s4 O af er=>?_;subst z0;rw[XE]at er;have ag:sa≠l:=zj ah hl;have J:=O _ _ ag ac;refine cD rfl (cW rfl sa rfl (.inl (SqL.of J)) ⟨j9,λp hp=>?_⟩);have z5:=zc (o:=.tup [V.ref l,V.int ((sv.length:Nat):Int)]) hp;refine q p l rs _ (s4.free hp) L ⟨?_,z5 _ _ af⟩ er (s4.trans z5);rw[zb,aa.length]
def zjY:("012345678":Str).cps.toList=[48,49,50,51,52,53,54,55,56]:=by decide+kernel
def zjZ:∀k∈bd.cps.toList,pZ [48,49,50,51,52,53,54,55,56] k=YK k:=by decide+kernel
theorem zhv {p q:Nat->Bool}(i:Nat):∀(j:Nat) (t:List Nat),(∀k∈t,p k=q k)->Cells.zK p i j t=Cells.zK q i j t
 | _,[],_=>rfl
 | j,c::r,h=>by
  rw[Cells.zK,Cells.zK,h c X5,zhv i (j+1) r λk hk=>h k (Y1 _ hk)]
theorem zdD {p q:Nat->Bool}:∀(i:Nat) (gs:List (List Nat)),(∀t∈gs,∀k∈t,p k=q k)->Cells.zz p i gs=Cells.zz q i gs
 | _,[],_=>rfl
 | i,t::r,h=>by
  rw[Cells.zz,Cells.zz,zhv i 0 t (h t X5),zdD (i+1) r λu m=>h u (Y1 _ m)]
def Rows.signsIn {rs:AD}(R:Rows bd.cps.toList rs):∀t∈codes rs,∀k∈t,k∈bd.cps.toList:=λt m k hk=>by
 obtain⟨u,r,rfl⟩:=XN.mp m;obtain⟨n,_,_,q⟩:=R.ex;exact(q u r).mem k hk
def zpe {t:Str}{j:Nat}(c:Nat)(s:j<t.cps.toList.length):(Zy t none (some (j:Int))++⟨#[c]⟩++Zy t (some ((j:Int)+1)) none).cps.toList=t.cps.toList.set j c:=by
 have w:t.length=t.cps.toList.length:=(XZ).symm;have m:(Zy t none (some (j:Int))).cps.toList=t.cps.toList.take j:=by
  have e:HT.sIx t.length t.length (some (j:Int))=j:=by
   rw[HT.zaq];lia
  unfold Zy;rw[e];show ((t.cps.toList.drop 0).take (j-0)).toArray.toList=_;simp
 have r:(Zy t (some ((j:Int)+1)) none).cps.toList=t.cps.toList.drop (j+1):=by
  have e:HT.sIx t.length 0 (some ((j:Int)+1))=j+1:=by
   have:=HT.zaq t.length 0 (j+1);rw[Tn]at this;rw[show ((j:Int)+1)=(j:Int)+((1:Nat):Int) from rfl,this];lia
  unfold Zy;rw[e];show ((t.cps.toList.drop (j+1)).take (t.length-(j+1))).toArray.toList=_;rw[OM,WT (by rw[Wl];lia)]
 show ((Zy t none (some (j:Int))).cps++#[c]++(Zy t (some ((j:Int)+1)) none).cps).toList=_;rw[WM,WM,m,r,S7,bw s];simp
def znB {xs:AE}{j:Nat}(v:V)(s:j<xs.length):Zu xs none (some (j:Int))++[v]++Zu xs (some ((j:Int)+1)) none=xs.set j v:=by
 have m:Zu xs none (some (j:Int))=xs.take j:=by
  have e:HT.sIx xs.length xs.length (some (j:Int))=j:=by
   rw[HT.zaq];lia
  unfold Zu;rw[e];show ((xs.drop 0).take (j-0))=_;simp
 have r:Zu xs (some ((j:Int)+1)) none=xs.drop (j+1):=by
  have e:HT.sIx xs.length 0 (some ((j:Int)+1))=j+1:=by
   have:=HT.zaq xs.length 0 (j+1);rw[Tn]at this;rw[show ((j:Int)+1)=(j:Int)+((1:Nat):Int) from rfl,this];lia
  unfold Zu;rw[e];show ((xs.drop (j+1)).take (xs.length-(j+1)))=_;rw[WT (by rw[Wl];lia)]
 rw[m,r,S7,bw s];simp
theorem zbE {p:Nat->Bool}(i:Nat):∀(j:Nat) (t:List Nat) (m k s:Nat),t[m]?=some k->p s=p k->Cells.zK p i j (t.set m s)=Cells.zK p i j t
 | j,c::r,0,k,s,h,e=>by
  have:c=k:=by simpa using h
  subst this;rw[RO,Cells.zK,Cells.zK,e]
 | j,c::r,m+1,k,s,h,e=>by
  rw[RQ,Cells.zK,Cells.zK,zbE i (j+1) r m k s (by simpa using h) e]
theorem zbF {p:Nat->Bool}:∀(i:Nat) (gs:List (List Nat)) (m:Nat) (t t':List Nat),gs[m]?=some t->(∀i,Cells.zK p i 0 t'=Cells.zK p i 0 t)->Cells.zz p i (gs.set m t')=Cells.zz p i gs
 | i,c::r,0,t,t',h,e=>by
  have:c=t:=by simpa using h
  subst this;rw[RO,Cells.zz,Cells.zz,e]
 | i,c::r,m+1,t,t',h,e=>by
  rw[RQ,Cells.zz,Cells.zz,zbF (i+1) r m t t' (by simpa using h) e]
def zj0:Sp:=λvs H Q _=>∃(p l:Addr) (r:AD) (n c:Int),vs=[.ref p,.int c]/\qe H p l r n/\Rows bd.cps.toList r/\0<=n /\
 ∀(A B:Addr) (m:AD) (w:Int) (s:Hp),qe s A B m w->Rows bd.cps.toList m->0<=w->zv m=zv r->zU m=zU r->zo H s->Q (.ref A) s
def znC (c:Int):∃v:Int,atI [V.int (-1),V.int 1] (c%2)=some (.int v)/\-1<=v/\v<=1:=by
 have h:c%2=0\/c%2=1:=by lia
 rcases h with h | h
 .rw[h];exact⟨-1,rfl,by decide,by decide⟩
 .rw[h];exact⟨1,rfl,by decide,by decide⟩
def zsp:∀k:Nat,k<57->48<=k->YK k=true:=by decide+kernel
def zsq:∀k:Nat,k<57->48<=k->xY k=false:=by decide+kernel
def zsr:∀k∈bd.cps.toList,YK k=true->48<=k/\k<=56:=by decide+kernel
def jw:zE ["_law_board_here","_law_cell","_law_rows","_law_stones","_law_opens","_law_row","_law_column","_law_number","_law_text"] ["_law_board_here","_law_cell"] (zp Yl):=bh
def zhw {f2:Addr}{aj:XF}(T:Txt mg)(D:zk K mg "_law_bent" Yl ["_law_board_here","_law_cell"] f fd)(qg:zk K mg "_law_cells" jv ["_law_rows","_law_signs"] f2 aj):zY P w K mg base CX0 2 f fd ["_law_board_here","_law_cell"] zj0:=by
 refine D.F.ok jw (λvs H Q E h=>?_) (λax A av s H vs Q E hr h=>?_)
 .obtain⟨p,l,r,n,c,rfl,_⟩:=h;rfl
 .revert h;refine dP λp l r n c z0 b R n0 q=>?_;subst z0;refine⟨_,(ze (ze5 (pv 0) (xW rfl (zW (pgq 2 jw.nd) (zW (pgq 3 jw.nd) jV)))) (ze (qR 4 jw.nd (pc0 (YC T qg) hr qg (za (pv 2) (za (pt1 (YW rfl) T.zbn Vx jx) zd)))) (ze (qW (PW.pt (ze4 (jh YH (zx jK (pv 1) zf) zf (qb _)) (zcf (jh (jy hr.units) (pv 4) (@zR _ _ _ _ zd) (qb _))))) (ze (ze5 (zG jj (pv 4) (zx jK (zx j8 (pv 1) zf) (pb1 qi T.qT Xa (pv 4))) (λ_ _=>rfl)) (xW rfl (zW (pgq 5 jw.nd) (zW (pgq 6 jw.nd) jV)))) (ze (qR 7 jw.nd (yG (Qt rfl) (by rfl) T.zgM UK (@za _ _ _ _ _ zf (za (yG (Zt rfl) (by rfl) T.zex Vp (@za _ _ _ _ _ zf (za (zx yW (pt1 zaw T.zmH SE (zG zhK (zG jj (pv 2) (pv 5) (λ_ _=>rfl)) (pv 6) (λ_ _=>rfl))) (zG jj (zR (za (zlH zhI zf) (@za _ _ _ _ _ zf zd rfl))) (zx jK (zx j8 (pv 1) zf) zf) (λ_ _=>rfl))) zd) rfl)) zd) rfl))) (ze (qR 8 jw.nd (zx Q3 (zx Q3 (YO zlU (zG jj (pv 2) (pv 5) (λ_ _=>rfl)) zar (zas (pv 6))) (pt1 zap T.zpG Po (pv 7))) (YO zlU (zG jj (pv 2) (pv 5) (λ_ _=>rfl)) (zas (zx yW (pv 6) zf)) zar))) (zh (zB (qu (za (zx yX (zx yX (YO ze9 (pv 2) zar (zas (pv 5))) (zR (za (pv 8) zd))) (YO ze9 (pv 2) (zas (zx yW (pv 5) zf)) zar)) (za (pv 3) zd)))))))) qd) (ze (qW (jh YH (zx jK (pv 1) zf) zf (qb _)) (zh (zB (qu (za (pv 2) (za (yG (Qt rfl) (by rfl) T.zgM UK (@za _ _ _ _ _ zf (za (zx yW (pv 3) (zG jj (zR (za (zlH zhI zf) (@za _ _ _ _ _ zf zd rfl))) (zx jK (zx j8 (pv 1) zf) zf) (λ_ _=>rfl))) zd) rfl)) zd))))) qd) (zh (zB (pv 0))))))),?_⟩;(try dsimp only[cxK,cxP,cxW]);refine cW rfl p rfl (SqT.of b.tp) ⟨rfl,_,(cJ rfl rfl rfl ?_)⟩;refine cS rfl "012345678" (cQ rfl (by decide) (λsg as=>?_));have z1:=zc (o:=.lst (("012345678":Str).cps.toList.map λc=>V.str ⟨#[c]⟩)) as;refine cE l sg ⟨_,(cE (codes r) [48,49,50,51,52,53,54,55,56] (cU rfl (z1 _ _ b.rw) (JR.rows _ r) (by rw[qX];exact R.hi) (cQ R.short (by rw[zb,zjY]) (λd ws H2 hd ab U s2=>?_))))⟩;have ec:Cells.zz (pZ [48,49,50,51,52,53,54,55,56]) 0 (codes r)=zU r:=zdD 0 _ λt ht k hk=>zjZ k (R.signsIn t ht k hk);rw[ec]at U;have J:=z1.trans s2;refine cJ rfl rfl rfl (cQ (by show (0:Int)<4;decide) rfl (cD rfl (zcA (λ_=>?_) (λ_=>?_))))
  .refine cH rfl yU (λe he=>?_);have z3:=zc (o:=.lst []) he;refine cE (.list ((zU r).map zm)) (.list (([]:AB).map zm)) (cL (.lst (SqL.of (z3 _ _ ab)) (zbA (U.mono z3))) (.lst (SqL.of zb) .nil) (zbr _ _) (cD rfl (zcA (λaf=>?_) (λ_=>?_))))
   .have G:=J.trans z3;have ac:=z3 _ _ ab;have aa:=U.mono z3;have al:=G _ _ b.rw;have wl:=aa.length;have pos:0<ws.length:=by
     cases hb:zU r with
     | nil =>
      rw[hb]at af;exact absurd af (by decide)
     | cons x y =>
      rw[wl,hb];exact Um _
    generalize upd H2 e (.lst [])=H3 at *
    have m0:=U5 (c/8) (show ((ws.length:Nat):Int)≠0 by lia);have m1:=UQ (c/8) (show (0:Int)<((ws.length:Nat):Int) by lia);obtain⟨x,hx⟩:∃x,ws[(c/8%((ws.length:Nat):Int)).toNat]?=some x:=⟨_,XX (by lia)⟩;refine dm (λy hy=>dm λya z0 au=>?_) (Cel.get aa hx);subst z0;refine dH (λi j u k ey hu hk pk=>?_) (Cells.yu (X4 hy));rw[VI]at ey;subst ey;obtain⟨t,ht,rfl⟩:∃t,r[i]?=some t/\t.cps.toList=u:=by
     unfold codes at hu;rw[XC]at hu;cases e1:r[i]? with
     | none =>
      rw[e1]at hu;cases hu
     | some t =>
      rw[e1]at hu;exact⟨t,rfl,Option.some.inj hu⟩
    refine cD rfl (cX rfl rfl rfl (Jx.small (by decide) (by decide)) (cW rfl d rfl (.inl (SqL.of ac)) (cV rfl rfl (by show (0:Int)<((ws.length:Nat):Int);lia) ⟨d,_,(cO rfl rfl (SqL.of ac) (YS m0 hx) ?_)⟩)));refine cT ya rfl (SqT.of au) ⟨rfl,_,(cJ rfl rfl rfl ?_)⟩;have O:(r.map V.str)[((i:Nat):Int).toNat]?=some (V.str t):=by
     rw[Wa,XC,ht];rfl
    have ak:t.cps.toList[((j:Nat):Int).toNat]?=some k:=by rw[Wa];exact hk
    have tm:=X4 ht;have tl:t.cps.toList.length<=8:=R.short _ (X4 hu);have aw:t.length<=8:=by
     rw[<- show t.cps.toList.length=t.length from XZ];exact tl
    have Y:t.length<=Xv:=XY aw (by decide);have jl:=(XV.mp hk).1;have il:=(XV.mp ht).1;obtain⟨k0,k1⟩:=zsr k (R.signsIn _ (X4 hu) k (X4 hk)) pk;obtain⟨v,hv,v0,v1⟩:=znC (c/4);refine cD rfl (cS rfl l (cG (cK (.str t) rfl rfl (SqL.of al) (YS (by lia) O) (c7 rfl t (cK k rfl rfl Y (YS (by lia) ak) (cV rfl (int_sign k0 k1) (by show 1<=640;decide) (cH rfl j9 (λlz I=>(cX rfl rfl rfl (Jx.small (by decide) (by decide)) (cV rfl rfl (by show (0:Int)<2;decide) ⟨lz,_,(cO rfl rfl (SqL.of zb) hv (cI rfl rfl ⟨_,(cD rfl ⟨_,(cD rfl ?_)⟩)⟩))⟩))))))))));have ag:=G.trans (zc (o:=.lst [V.int (-1),V.int 1]) I);generalize upd H3 lz (.lst [V.int (-1),V.int 1])=H4 at *
    have M:=ag _ _ b.rw;obtain⟨L,hD,eD⟩:∃D:Nat,D<9/\(if (if (k:Int)-48+v<8 then (k:Int)-48+v else 8)>0 then (if (k:Int)-48+v<8 then (k:Int)-48+v else 8) else 0)=(D:Int):=by
     refine⟨(if (if (k:Int)-48+v<8 then (k:Int)-48+v else 8)>0 then (if (k:Int)-48+v<8 then (k:Int)-48+v else 8) else 0).toNat,?_,?_⟩
     .split<;>split<;>lia
     .split<;>split<;>lia
    rw[eD];obtain⟨d1,d2,d3⟩:=zso L hD;have ae:((L:Nat):Int).natAbs.log2<1920:=by
     rw[Ta];have:∀d:Nat,d<9->d.log2<1920:=by decide+kernel
     exact this _ hD
    have cs:=zpe (t:=t) (48+L) jl;have cl:((Zy t none (some ((j:Nat):Int))++(⟨#[48+L]⟩:Str))++Zy t (some (((j:Nat):Int)+1)) none).cps.size=t.cps.toList.length:=by
     rw[<- XZ,cs,Sh]
    have ai:((Zy t none (some ((j:Nat):Int))).cps++#[48+L]++(Zy t (some (((j:Nat):Int)+1)) none).cps).size=t.cps.toList.length:=cl;rw[SO,SO]at ai;have hc:#[48+L].size=1:=rfl;refine cD rfl (cS rfl l (cG (cK (.str t) rfl rfl (SqL.of M) (YS (by lia) O) (cD rfl (cS rfl t (cQ rfl Y (cD rfl (cH rfl ae (cV rfl rfl ?_ (cD rfl (cS rfl l (cG (cK (.str t) rfl rfl (SqL.of M) (YS (by lia) O) (cJ rfl rfl rfl (cS rfl t (cQ rfl Y (cV rfl rfl ?_ ?_)))))))))))))))))
    .rw[d1];refine XY (show _<=20 from ?_) (by decide);show (Zy t none (some ((j:Nat):Int))).cps.size + #[48+L].size<=20;lia
    .rw[d1];refine XY (show _<=20 from ?_) (by decide);show ((Zy t none (some ((j:Nat):Int))).cps++#[48+L]).size+(Zy t (some (((j:Nat):Int)+1)) none).cps.size<=20;rw[SO];lia
    rw[d1];generalize Zy t none (some ((j:Nat):Int))++(⟨#[48+L]⟩:Str)++Zy t (some (((j:Nat):Int)+1)) none=tx at *
    have cv:=znB (xs:=r.map V.str) (j:=i) (.str tx) (by rw[ZB];exact il);have rl:(r.map V.str).length<=8:=by rw[ZB];exact R.hi
    have c1:=YQ (r.map V.str) none (some ((i:Nat):Int));have c2:=YQ (r.map V.str) (some (((i:Nat):Int)+1)) none;refine cZ rfl rfl (cW rfl l rfl (SqL.of M) (λq1 am=>⟨_,rfl,sz_1,λq2 an=>?_⟩));have x1:=zc (o:=.lst (Zu (r.map V.str) none (some ((i:Nat):Int)))) am;have x2:=zc (o:=.lst [V.str tx]) an;refine cE q1 q2 (cI rfl rfl (cL (x2 _ _ zb) zb ?_ (λq3 ao=>?_)))
    .exact XY (show (Zu (r.map V.str) none (some ((i:Nat):Int))).length+1<=20 by lia) (by decide)
    have x3:=zc (o:=.lst (Zu (r.map V.str) none (some ((i:Nat):Int))++[V.str tx])) ao;have ah:=x1.trans (x2.trans x3);refine cD rfl (cJ rfl rfl rfl (cW rfl l rfl (SqL.of (ah _ _ M)) (λq4 aq=>?_)));have x4:=zc (o:=.lst (Zu (r.map V.str) (some (((i:Nat):Int)+1)) none)) aq;refine cE q3 q4 (cI rfl rfl (cL (x4 _ _ zb) zb ?_ (λq5 ar=>?_)))
    .rw[X6];exact XY (show (Zu (r.map V.str) none (some ((i:Nat):Int))).length+1+(Zu (r.map V.str) (some (((i:Nat):Int)+1)) none).length<=20 by lia) (by decide)
    have x5:=zc (o:=.lst (Zu (r.map V.str) none (some ((i:Nat):Int))++[V.str tx]++Zu (r.map V.str) (some (((i:Nat):Int)+1)) none)) ar;refine⟨_,rfl,j9,λtp B=>?_⟩;have x6:=zc (o:=.tup [.ref q5,.int n]) B;refine q tp q5 (r.set i tx) n _ ⟨zb,?_⟩ ⟨by rw[Sh];exact R.lo,by rw[Sh];exact R.hi,?_⟩ n0 ?_ ?_ (ag.trans (ah.trans (x4.trans (x5.trans x6))))
    .refine x6 _ _ ?_;rw[zb,cv,TQ]
    .obtain⟨m,a1,a8,hr⟩:=R.ex;refine⟨m,a1,a8,λu hu=>?_⟩;rcases TJ hu with hu | hu
     .exact hr u hu
     .rw[hu];refine⟨?_,λz hz=>?_⟩
      .rw[cl,XZ];exact(hr t tm).len
      .rw[cs]at hz;rcases TJ hz with hz | hz
       .exact(hr t tm).mem z hz
       .rw[hz];exact d2
    .unfold zv codes;rw[TQ];refine zbF 0 _ i t.cps.toList _ hu λi'=>?_;rw[cs];exact zbE i' 0 _ j k _ hk (d3.trans (zsq k (by lia) k0).symm)
    .unfold zU codes;rw[TQ];refine zbF 0 _ i t.cps.toList _ hu λi'=>?_;rw[cs];exact zbE i' 0 _ j k _ hk ((zsp _ (by lia) (by lia)).trans (zsp k (by lia) k0).symm)
   .have G:=J.trans z3;refine cJ rfl rfl rfl (cQ (by show (0:Int)<4;decide) rfl (cD rfl (zcA (λ_=>?_) (λ_=>⟨_,rfl,q p l r n _ (b.mono G) R n0 rfl rfl G⟩))));obtain⟨v,hv,_,_⟩:=znC (c/4);refine cZ rfl rfl (cH rfl j9 (λlz I=>(cX rfl rfl rfl (Jx.small (by decide) (by decide)) (cV rfl rfl (by show (0:Int)<2;decide) ⟨lz,_,(cO rfl rfl (SqL.of zb) hv (cI rfl rfl (cI rfl j9 (λtp B=>?_))))⟩))));have y1:=G.trans (zc (o:=.lst [V.int (-1),V.int 1]) I);exact q tp l r _ _ ⟨zb,zc B _ _ (y1 _ _ b.rw)⟩ R (by split<;>lia) rfl rfl (y1.trans (zc B))
  .refine Q4 ?_;refine cJ rfl rfl rfl (cQ (by show (0:Int)<4;decide) rfl (cD rfl (zcA (λ_=>?_) (λ_=>⟨_,rfl,q p l r n _ (b.mono J) R n0 rfl rfl J⟩))));obtain⟨v,hv,_,_⟩:=znC (c/4);refine cZ rfl rfl (cH rfl j9 (λlz I=>(cX rfl rfl rfl (Jx.small (by decide) (by decide)) (cV rfl rfl (by show (0:Int)<2;decide) ⟨lz,_,(cO rfl rfl (SqL.of zb) hv (cI rfl rfl (cI rfl j9 (λtp B=>?_))))⟩))));have y1:=J.trans (zc (o:=.lst [V.int (-1),V.int 1]) I);exact q tp l r _ _ ⟨zb,zc B _ _ (y1 _ _ b.rw)⟩ R (by split<;>lia) rfl rfl (y1.trans (zc B))
def zpT (C:Addr):Sp:=λvs H Q E=>∃(p l G D M fs:Addr) (s:AD) (n:Int) (I u U:AE) (m:List Tg) (cl st:AB),vs=[.ref p,.ref G,.ref D]/\qe H p l s n/\Rows bd.cps.toList s/\H G=some (.lst I)/\XG (xT H) I m/\(m.length=1\/m.length=2)/\(∀c,some c∈m->c∈zU s)/\(zv s).length<=20/\jq H D M fs u U cl st/\zne cl st/\znf (m.map λO=>jU cl st (akT s n O)) /\
 ∀(t A B:Addr) (J L:AE) (c1 w:AB) (r:Hp),H A=none->H B=none->r t=some (.tup [.ref A,.ref B])->r A=some (.lst J)->r B=some (.lst L)->Cel r J c1->Cel r L w->c1.Perm (zP (gsT s n cl st m))->w.Perm (zQ (gsT s n cl st m))->c1.Pairwise Cells.lex->w.Pairwise Cells.lex->zo H r->Q (.ref t) r
def zss {rs:AD}{n:Int}{cl st:AB}{ths:List Tg}(h:ths.length=1\/ths.length=2):gsU (ths.map λtg=>jU cl st (akT rs n tg))=gsT rs n cl st ths:=by
 rcases ths with _ | ⟨a,_ | ⟨b,_ | ⟨c,r⟩⟩⟩
 .rcases h with h | h<;>cases h
 .rfl
 .rfl
 .rcases h with h | h<;>simp at h
def zst {rs:AD}{n:Int}{cl st:AB}{tgs ths:List Tg}{L:AA->Bool}(w:(zv rs).length<=20)(A:tgs.length<=32)(tr:jr (zD rs n tgs) L cl st)(h:ths.length=1\/ths.length=2)(hm:∀tg∈ths,tg∈tgs):znf (ths.map λtg=>jU cl st (akT rs n tg)):=by
 have X:=za1 (n:=n) A w;have m:∀tg∈ths,akT rs n tg∈zD rs n tgs:=λtg h=>XN.mpr ⟨tg,hm tg h,rfl⟩;rcases ths with _ | ⟨a,_ | ⟨b,_ | ⟨c,r⟩⟩⟩
 .rcases h with h | h<;>cases h
 .have s:=m a X5;have z:=zaZ (X.two tr.ap s (.inr rfl)) (tr.fit s (.inr rfl));exact z
 .have s:=m a X5;have B:=m b (Y1 _ X5);have z:=zaZ (X.two tr.ap s (.inl B)) (tr.fit s (.inl B));exact z
 .rcases h with h | h<;>simp at h
def zdE:zE ["board","things","finding","known"] ["board","things","finding"] (zp QB):=bh
def ziH (T:Txt mg)(Z:Prog K mg)(al:J6 K mg "NoLaying" jaa){f:Addr}{fd:XF}(D:zk K mg "follows" QB ["board","things","finding"] f fd):zY P w K mg base (CXE P w) 4 f fd ["board","things","finding"] (zpT jaa):=by
 obtain⟨a1,QI,zO⟩:=Z.around;obtain⟨QJ,Yv,zq⟩:=Z.sign_at;obtain⟨Yw,Zh,zC⟩:=Z.cells_of;obtain⟨a5,a4,jS⟩:=Z.closed;obtain⟨Qf,Yx,zZ⟩:=Z.number_at;obtain⟨yp,j4,zF⟩:=Z.closed_around;obtain⟨aA,a7,JQ⟩:=Z.asked_by;obtain⟨a8,a6,JO⟩:=Z.known_of;obtain⟨a2,a3,yi⟩:=Z.still_asked;obtain⟨aB,a9,Jw⟩:=Z.settled;obtain⟨aD,aC,Qi⟩:=Z.gained;have as:=zbU (P:=P) (w:=w) (base:=base) T JQ zO zq zC jS zZ zF;have ar:=zbT (P:=P) (w:=w) (base:=base) T JO;have Zq:=Qh (P:=P) (w:=w) (base:=base) T yi;have au:=zeO (P:=P) (w:=w) (base:=base) T al Qi Jw;refine D.F.okX zdE (λvs H Q E h=>?_) (λaw A am s H vs Q E hr h=>?_)
 .revert h;refine di λp l th fa fc fs O n=>dg λtv u w' af=>dF λcl st=>c8 λz0 _=>?_;subst z0;rfl
 .revert h;refine di λp l th fa fc fs O n=>dg λtv u w' af=>dw λcl st z0 B R aa=>dD λhT ae ho an=>dz λF fi fit q=>?_;subst z0;refine⟨_,(ze (qR 3 zdE.nd (pc0 ar hr JO (za (pvS 2) zd))) (zh (zB (pcL jI au hr Qi (za (pcm ["thing","known","board"] [none,some 3,some 0] cR (zJ (pvS 1)) (pgN 0) qo (pc0 Zq hr yi (za (pc0 as hr JQ (za (pvS 2) (za (pvS 0) zd))) (za (pvS 1) zd)))) zd))))),?_⟩;(try dsimp only[cxK,cxP,cxW]);refine⟨_,rfl,fa,fc,fs,u,w',cl,st,rfl,F,fi,λkd kvs H1 ay av hK s1=>?_⟩;have M:∀I:Tg,(akT O n I).2.Nodup/\(akT O n I).2.length<=20:=λI=>⟨(qB O).sublist zcq,XY zcq.length_le an⟩;refine⟨_,rfl,th,rfl,⟨_,SqL.of (s1 _ _ aa)⟩,λy hy=>?_⟩;refine qv (K:=K) (a:=th) (xs:=tv) (λi σ H'=>(∃u0,σ=[u0,some (.ref kd),some (.ref p)])/\zo H1 H'/\∃ys,H' y=some (.lst ys)/\XG (AkN (· ≠ y) H') ys ((af.take i).map λI=>jU cl st (akT O n I))) ⟨⟨_,rfl⟩,zc hy,[],zb,.nil⟩ (λi σ H' _ ⟨_,s',_⟩=>SqL.of (s' _ _ (s1 _ _ aa))) ?_ ?_
  .rintro i x σ H2 hx ⟨⟨u0,rfl⟩,s2,ys,G,hP⟩;have m:=s1.trans s2;obtain⟨I,Y,rt⟩:=yK hT hx;refine xB ⟨_,rfl,_,rfl,p,l,O,n,x,I,rfl,B.mono m,R,rt.mono m,λc e=>ho c (by rw[<- e];exact X4 Y),λt l2 us3 H3 _ _ ak ai ag s3=>?_⟩;refine⟨_,rfl,t,l2,kd,_,us3,_,cl,st,kvs,rfl,ak,ai,ag,XY (M I).2 (by decide),s3 _ _ (s2 _ _ av),hK,λr l4 ao H4 az U J aj ah s4=>?_⟩;have L:=s4 _ _ (s3 _ _ G);have ac:r≠y:=Qc J L (by intro q;cases q);have ab:l4≠y:=λz=>by
    rw[z,s3 _ _ G]at U;cases U
   have aq:ys.length<=32:=by
    rw[Paired.length hP,ZB,XM];lia
   refine⟨ys,L,XJ aq (by decide),⟨_,rfl⟩,λb o e'=>?_,ys++[.ref r],zb,?_⟩
   .rw[zg (zj e' hy)];exact s4 _ _ (s3 _ _ (s2 _ _ e'))
   .rw[take_snoc Y,XB];have kk:∀b o,b≠y->H4 b=some o->upd H4 y (.lst (ys++[.ref r])) b=some o:=λb o nb e=>by
     rw[zg nb];exact e
    exact Paired.snoc (zdr G (λb o nb e=>by rw[zg nb];exact s4 _ _ (s3 _ _ e)) hP) ⟨r,l4,ao,rfl,ac,ab,kk _ _ ac J,kk _ _ ab aj,Cel.into y _ L ah⟩
  rintro σ H2 ⟨_,s2,ys,G,hP⟩;rw[Paired.length hT,XE]at hP;have m:=s1.trans s2;refine⟨y,ys,_,rfl,G,znl hP,by rw[ZB];exact ae,λk hk=>?_,λ_ t d1 d2 w1 w2 c1 c2 H5 f1 f2 ax k1 k2 k3 g1 g2 p1 p2 x1 x2 s5=>?_,λhn=>absurd fit hn⟩
  .obtain⟨I,_,rfl⟩:=XN.mp hk;exact⟨(M I).1.sublist Xm,XY (Xw _ _) (M I).2⟩
  .rw[zss ae]at p1 p2;exact q t d1 d2 w1 w2 c1 c2 H5 (m.free f1) (m.free f2) k1 k2 k3 g1 g2 p1 p2 x1 x2 (m.trans s5)
def qD (rs:AD):List Tg:=(zU rs).map some++[none]
def znD:Sp:=λvs H Q _=>∃(p l:Addr) (r:AD) (n:Int),vs=[.ref p]/\qe H p l r n/\Rows bd.cps.toList r/\∀(d:Addr) (s:AE) (m:Hp),H d=none->m d=some (.lst s)->XG (xT m) s (qD r)->zo H m->Q (.ref d) m
def QM (N:Addr->Prop)(H:Hp)(v:V)(ths:List Tg):Prop:=∃(a:Addr) (m:AE),v=V.ref a/\N a/\H a=some (.lst m)/\XG (xT H) m ths
def zj1:Sp:=λvs H Q _=>∃(p l:Addr) (r:AD) (n:Int),vs=[.ref p]/\qe H p l r n/\Rows bd.cps.toList r/\(zU r).length<=16/\∀(d:Addr) (s:AE) (m:Hp),m d=some (.lst s)->XG (QM NT m) s (zH (qD r))->zo H m->Q (.ref d) m
section
variable {H H':Hp}{us:AE}{ts:List (List Tg)}{z:Addr}{ys ys':AE}{N:Addr->Prop}
def zpf (h:XG (QM N H) us ts):XG (QM NT H) us ts:=Paired.imp' (λ_ _ ⟨a,m,e,_,h⟩=>⟨a,m,e,trivial,h⟩) h
def xV (s:zo H H')(h:XG (QM N H) us ts):XG (QM N H') us ts:=Paired.imp' (λ_ _ ⟨a,m,e,n,h,t⟩=>⟨a,m,e,n,s _ _ h,Paired.imp' (λ_ _ z=>xT.mono s z) t⟩) h
def zdF (hz:H z=some (.lst ys))(h:XG (QM (· ≠ z) H) us ts):XG (QM (· ≠ z) (upd H z (.lst ys'))) us ts:=Paired.imp' (λ_ _ ⟨a,m,e,n,h,t⟩=>⟨a,m,e,n,by rw[zg n];exact h,zcs hz t⟩) h
end
theorem zhx {α:Type}(d:α)(l:List α):∀i,(zb6 d l i).length<=i*l.length
 | 0=>W3 _
 | i+1=>by
  have:=zhx d l i;rw[zeQ,X6,ZB,Wl,P7];lia
def zd3:zE ["_law_board_here"] ["_law_board_here"] (zp yO):=bh
def zd4 {f1:Addr}{G:XF}(T:Txt mg)(D:zk K mg "_law_things" yO ["_law_board_here"] f fd)(Y:zk K mg "_law_cells" jv ["_law_rows","_law_signs"] f1 G):zY P w K mg base CX0 2 f fd ["_law_board_here"] znD:=by
 refine D.F.ok zd3 (λvs H Q E h=>?_) (λaa A L s H vs Q E hr h=>?_)
 .obtain⟨p,l,r,n,rfl,_⟩:=h;rfl
 .revert h;refine dH λp l r n z0 b R q=>?_;subst z0;refine⟨_,(zh (zB (zx yX (pc0 (YC T Y) hr Y (za (zG qa (pvS 0) zf (λ_ _=>rfl)) (za (pt1 (YW rfl) T.zbn Vx jx) zd))) (@zR _ _ _ _ (@za _ _ _ _ _ jx zd rfl))))),?_⟩;(try dsimp only[cxK,cxP,cxW]);refine⟨_,rfl,p,_,0,_,rfl,rfl,SqT.of b.tp,rfl,"012345678",rfl,by decide,λsg J=>?_⟩;have U:=zc (o:=.lst (("012345678":Str).cps.toList.map λc=>V.str ⟨#[c]⟩)) J;refine cE l sg ⟨_,(cE (codes r) [48,49,50,51,52,53,54,55,56] (cU rfl (U _ _ b.rw) (JR.rows _ r) (by rw[qX];exact R.hi) (cQ R.short (by rw[zb,zjY]) (λd O H2 hd I m s2=>⟨sz_1,λx hx=>?_⟩))))⟩;have ec:Cells.zz (pZ [48,49,50,51,52,53,54,55,56]) 0 (codes r)=zU r:=zdD 0 _ λt ht k hk=>zjZ k (R.signsIn t ht k hk);rw[ec]at m;have B:=zc (o:=.lst [V.str "all"]) hx;have wl:O.length<=64:=by
   rw[m.length];exact jo R
  refine⟨d,x,_,_,rfl,rfl,B _ _ I,zb,XY (show O.length+1<=100 by lia) (by decide),λz hz=>?_⟩;have y4:=zc (o:=.lst (O++[V.str "all"])) hz;have M:=U.trans (s2.trans (B.trans y4));exact q z _ _ ((U.trans (s2.trans B)).free hz) zb (Paired.snoc (zhm (m.mono (B.trans y4))) rfl) M
def yS:zE ["_law_board_here","_law_things_here","_law_found","_law_one","_law_other"] ["_law_board_here"] (zp Zc):=bh
def zfJ {f1 f2:Addr}{ae af:XF}(T:Txt mg)(D:zk K mg "_law_lists" Zc ["_law_board_here"] f fd)(Jp:zk K mg "_law_things" yO ["_law_board_here"] f1 ae)(qg:zk K mg "_law_cells" jv ["_law_rows","_law_signs"] f2 af):zY P w K mg base CX0 3 f fd ["_law_board_here"] zj1:=by
 refine D.F.ok yS (λvs H Q E h=>?_) (λal A ak s H vs Q E hr h=>?_)
 .obtain⟨p,l,r,n,rfl,_⟩:=h;rfl
 .revert h;refine dM λp l r n z0 b R an q=>?_;subst z0;refine⟨_,(ze (qR 1 yS.nd (pc0 (zd4 T Jp qg) hr Jp (za (pvS 0) zd))) (ze (psC 2 yS.nd ["_law_thing"] [none] cP (zJ (pvS 1)) (pgN 0) qo (zR (za (pvS 0) zd))) (ze (qz Xd rfl (prg T.jB (pb1 zM T.qT Xa (pvS 1))) (pgq 3 yS.nd) (zh (qz Xd rfl (Qs (by rfl) T.jB (za (zx xD (pvS 3) zf) (za (pb1 zM T.qT Xa (pvS 1)) zd))) (pgq 4 yS.nd) (zh (qV (yV W7 WJ WI jP (pvS 2) (za (zR (za (zG yN (pvS 1) (pvS 3) (λ_ _=>rfl)) (za (zG yN (pvS 1) (pvS 4) (λ_ _=>rfl)) zd))) zd))))))) (zh (zB (pvS 2)))))),?_⟩;(try dsimp only[cxK,cxP,cxW]);refine⟨_,rfl,p,l,r,n,rfl,b,R,λM tv H1 am J hT s1=>?_⟩;have tl:(qD r).length<=17:=by
   unfold qD;rw[X6,ZB];show _+1<=17;lia
  have ac:tv.length=(qD r).length:=Paired.length hT;refine⟨_,rfl,M,rfl,⟨_,SqL.of J⟩,λz hz=>?_⟩;refine qv (K:=K) (a:=M) (xs:=tv) (λi σ I=>∃(u0:Option V) (ys:AE),σ=[u0]/\zo H1 I/\I z=some (.lst ys)/\XG (QM (· ≠ z) I) ys (((qD r).take i).map λt=>[t])) ⟨_,[],rfl,zc hz,zb,.nil⟩ (λi σ I _ ⟨_,_,_,s',_⟩=>SqL.of (s' _ _ J)) ?_ ?_
  .rintro i x σ H2 hx ⟨u0,ys,rfl,s2,G,hP⟩;obtain⟨tg,aj,rt⟩:=yK hT hx;unfold yD;refine Yt ?_;refine⟨_,rfl,sz_1,λa ha=>?_⟩;have y3:=zc (o:=.lst [x]) ha;have az:a≠z:=λe=>by
    rw[e,G]at ha;cases ha
   have yl:ys.length<=17:=by
    rw[Paired.length hP,ZB,XM];lia
   refine⟨ys,y3 _ _ G,XJ yl (by decide),_,ys++[.ref a],rfl,λb' o e=>?_,zb,?_⟩
   .rw[zg (zj e hz)];exact y3 _ _ (s2 _ _ e)
   .rw[take_snoc aj,XB];refine Paired.snoc (zdF (y3 _ _ G) (xV y3 hP)) ⟨a,[x],rfl,az,?_,.cons ?_ .nil⟩
    .rw[zg az];exact zb
    .cases zcs (tv:=[x]) (ths:=[tg]) (ys:=ys++[.ref a]) (y3 _ _ G) (.cons (rt.mono (s2.trans y3)) .nil) with
     | cons h _=>exact h
  rintro σ H2 ⟨u0,ys,rfl,s2,G,hP⟩;rw[ac,XE]at hP;refine⟨_,rfl,M,_,rfl,.inl (SqL.of (s2 _ _ J)),_,rfl,by lia,by lia,?_⟩;rw[Wa,ac];refine qE (lo:=0) (n:=(qD r).length) (λi σ I=>∃(w3 U:Option V) (ys:AE),σ=[some (.ref p),some (.ref M),some (.ref z),w3,U]/\zo H1 I/\I z=some (.lst ys)/\XG (QM (· ≠ z) I) ys ((qD r).map (λt=>[t])++zb6 none (qD r) i)) ⟨_,_,ys,rfl,s2,G,by rw[show zb6 none (qD r) 0=[] from rfl,Xx];exact hP⟩ ?_ ?_
  .refine λi σ H3 hi=>dJ λw3 U ys z0 s3 O hP=>?_;subst z0;rw[V2];have i1:i<tv.length:=by lia
   obtain⟨v1,aa⟩:∃v,tv[i]?=some v:=⟨_,XX i1⟩;obtain⟨t1,ah,r1⟩:=yK hT aa;have e1:(qD r).getD i none=t1:=by
    rw[Xq,ah];rfl
   refine⟨_,rfl,_,_,rfl,rfl,_,rfl,M,_,rfl,.inl (SqL.of (s3 _ _ J)),((i+1:Nat):Int),((tv.length:Nat):Int),rfl,⟨by lia,by lia,by lia,by lia⟩,?_⟩;rw[show (((tv.length:Nat):Int)-((i+1:Nat):Int)).toNat=tv.length-(i+1) by lia];refine qE (lo:=((i+1:Nat):Int)) (n:=tv.length-(i+1)) (λm σ I=>∃(U:Option V) (ys:AE),σ=[some (.ref p),some (.ref M),some (.ref z),some (.int (i:Nat)),U]/\zo H1 I/\I z=some (.lst ys)/\XG (QM (· ≠ z) I) ys ((qD r).map (λt=>[t])++zb6 none (qD r) i++(((qD r).drop (i+1)).take m).map λb=>[t1,b])) ⟨_,ys,rfl,s3,O,by rw[RW,Sa,Xx];exact hP⟩ ?_ ?_
   .refine λm σ H4 hm=>dj λU ys z0 s4 B hP=>?_;subst z0;obtain⟨j,hj,ag⟩:∃j:Nat,((i+1:Nat):Int)+((m:Nat):Int)=((j:Nat):Int)/\j=i+1+m:=⟨i+1+m,by lia,rfl⟩;rw[hj];obtain⟨v2,ab⟩:∃v,tv[j]?=some v:=⟨_,XX (by lia)⟩;obtain⟨t2,ai,r2⟩:=yK hT ab;have L:=s4 _ _ J;refine⟨_,rfl,.inl ⟨rfl,_,SqL.of B⟩,_,rfl,_,rfl,M,_,_,_,rfl,rfl,SqL.of L,ja aa,_,rfl,_,rfl,M,_,_,_,rfl,rfl,SqL.of L,ja ab,j9,λa ha=>?_⟩;have Y:=zc (o:=.lst [v1,v2]) ha;have az:a≠z:=λe=>by
     rw[e,B]at ha;cases ha
    have yl:ys.length<=1000:=by
     rw[Paired.length hP,X6,X6,ZB,ZB,XM,Wl];have:=zhx none (qD r) i;have:i*(qD r).length<=17*17:=O9 (by lia) tl;lia
    refine⟨z,_,_,rfl,rfl,Y _ _ B,XJ yl (by decide),_,ys++[.ref a],rfl,λb' o e=>?_,zb,?_⟩
    .rw[zg (zj e hz)];exact Y _ _ (s4 _ _ e)
    .have hd:((qD r).drop (i+1))[m]?=some t2:=by
      rw[Uk,<- ag];exact ai
     rw[take_snoc hd,XB,<- W9];refine Paired.snoc (zdF (Y _ _ B) (xV Y hP)) ⟨a,[v1,v2],rfl,az,?_,?_⟩
     .rw[zg az];exact zb
     .exact zcs (Y _ _ B) (.cons (r1.mono (s4.trans Y)) (.cons (r2.mono (s4.trans Y)) .nil))
   .refine λσ H4=>dj λU ys z0 s4 B hP=>?_;subst z0;refine⟨_,_,ys,rfl,s4,B,?_⟩;rw[zeQ,e1,<- W9];rw[WT (by rw[Wl];lia)]at hP;exact hP
  .rintro σ H3 ⟨w3,U,ys,rfl,s3,O,hP⟩;rw[ziE]at hP;exact⟨_,rfl,q z ys H3 O (zpf hP) (s1.trans s3)⟩
def zj2 {α:Type}{p:α->Bool}{l:List α}{a:α}(h:l.find? p=some a):a∈l:=RF h
def zj3 {tgs:List Tg}{ths:List Tg}(h:ths∈zH tgs):(ths.length=1\/ths.length=2)/\∀tg∈ths,tg∈tgs:=by
 rcases XU.mp h with h | h
 .obtain⟨a,ha,rfl⟩:=XN.mp h;exact⟨.inl rfl,λtg z=>by rw[Wz.mp z];exact ha⟩
 .obtain⟨a,b,ha,m,rfl⟩:=zcr h;refine⟨.inr rfl,λtg z=>?_⟩;rcases XQ.mp z with rfl | z
  .exact ha
  .rw[Wz.mp z];exact m
section
variable {rs:AD}{n:Int}{tgs:List Tg}{L:AA->Bool}{cl st:AB}
def znF {ths:List Tg}(h:ths∈zH tgs):a1T rs n ths∈zD rs n tgs/\(a2T rs n ths∈zD rs n tgs\/a2T rs n ths=K0):=by
 have m:∀r∈tgs,akT rs n r∈zD rs n tgs:=λr h=>XN.mpr ⟨r,h,rfl⟩;rcases XU.mp h with h | h
 .obtain⟨a,ha,rfl⟩:=XN.mp h;exact⟨m a ha,.inr rfl⟩
 .obtain⟨a,b,ha,s,rfl⟩:=zcr h;exact⟨m a ha,.inl (m b s)⟩
def zrn (m:(zv rs).length<=20)(r:tgs.length<=32)(tr:jr (zD rs n tgs) L cl st){ths:List Tg}(h:ths∈zH tgs):(∀c∈zP (gsT rs n cl st ths),L c=false)/\∀c∈zQ (gsT rs n cl st ths),L c=true:=by
 obtain⟨s,w⟩:=znF (rs:=rs) (n:=n) h;have I:=(za1 (n:=n) r m).two tr.ap s w;have f:=tr.fit s w;exact⟨λc hc=>((JL I f).mp hc).2.2.2 _ f,λc hc=>((JM I f).mp hc).2.2.2 _ f⟩
theorem Qk (m:(zv rs).length<=20)(r:tgs.length<=32)(A:jr (zD rs n tgs) L [] []):∀k,jr (zD rs n tgs) L (z9 rs n (zH tgs) k).2.1 (z9 rs n (zH tgs) k).2.2
 | 0=>A
 | k+1=>by
  have w:=Qk m r A k;cases h:nxT rs n (zH tgs) (z9 rs n (zH tgs) k).2.1 (z9 rs n (zH tgs) k).2.2 with
  | none =>
   have:z9 rs n (zH tgs) (k+1)=z9 rs n (zH tgs) k:=by
    show (match nxT rs n (zH tgs) (z9 rs n (zH tgs) k).2.1 (z9 rs n (zH tgs) k).2.2 with | none=>_ | some s=>_)=_;rw[h]
   rw[this];exact w
  | some s =>
   rw[Qj h];unfold nxT at h;obtain⟨D,B,rfl⟩:=Vw.mp h;obtain⟨E,G⟩:=zrn m r w (zj2 B);refine⟨λc hc=>?_,λc hc=>?_,A.ct⟩
   .rcases XU.mp (bg (X8.mp hc).2) with y | y
    .exact w.no c y
    .exact E c (bg (X8.mp y).2)
   .rcases XU.mp (bg (X8.mp hc).2) with y | y
    .exact w.ye c y
    .exact G c (bg (X8.mp y).2)
theorem zct (lst:List (List Tg)):∀k,((z9 rs n lst k).2.1.Sublist (zv rs))/\(z9 rs n lst k).2.2.Sublist (zv rs)
 | 0=>⟨UT _,UT _⟩
 | k+1=>by
  cases h:nxT rs n lst (z9 rs n lst k).2.1 (z9 rs n lst k).2.2 with
  | none =>
   have:z9 rs n lst (k+1)=z9 rs n lst k:=by
    show (match nxT rs n lst (z9 rs n lst k).2.1 (z9 rs n lst k).2.2 with | none=>_ | some s=>_)=_;rw[h]
   rw[this];exact zct lst k
  | some s =>
   rw[Qj h];exact⟨Xm,Xm⟩
theorem zdG (m:(zv rs).length<=20)(r:tgs.length<=32)(w:jr (zD rs n tgs) L [] []):∀k,z9 rs n (qk rs (tgs.filter (JP rs))) k=z9 rs n (zH tgs) k
 | 0=>rfl
 | k+1=>by
  show (match nxT rs n (qk rs (tgs.filter (JP rs))) (z9 rs n (qk rs (tgs.filter (JP rs))) k).2.1 (z9 rs n (qk rs (tgs.filter (JP rs))) k).2.2 with | none=>z9 rs n (qk rs (tgs.filter (JP rs))) k | some s=>_)=(match nxT rs n (zH tgs) (z9 rs n (zH tgs) k).2.1 (z9 rs n (zH tgs) k).2.2 with | none=>z9 rs n (zH tgs) k | some s=>_);rw[zdG m r w k,zjU m r (Qk m r w k)]
def zlw (m:(zv rs).length<=20)(r:tgs.length<=32)(s:jr (zD rs n tgs) L [] []){k:Nat}(h:zhj rs n (qk rs (tgs.filter (JP rs))) k):zhj rs n (zH tgs) k:=by
 have e:∀i,nxT rs n (qk rs (tgs.filter (JP rs))) (z9 rs n (qk rs (tgs.filter (JP rs))) i).2.1 (z9 rs n (qk rs (tgs.filter (JP rs))) i).2.2=nxT rs n (zH tgs) (z9 rs n (zH tgs) i).2.1 (z9 rs n (zH tgs) i).2.2:=λi=>by rw[zdG m r s i,zjU m r (Qk m r s i)]
 exact⟨(e k).symm.trans h.1,λi hi z=>h.2 i hi ((e i).trans z)⟩
def zbG (s:(zv rs).length<=20)(c1:cl.Sublist (zv rs))(m:st.Sublist (zv rs))(ap:∀c∈cl,c ∉ st):cl.length+st.length<=20:=by
 have n:(cl++st).Nodup:=WX.mpr ⟨(qB rs).sublist c1,(qB rs).sublist m,λa ha b r e=>ap a ha (e ▸ r)⟩;have:=((WW n ((qB rs).sublist (Xm (p:=λx=>decide (x∈cl++st))))).mpr λx=>by
  rw[X8,bu];exact⟨λz=>⟨(XU.mp z).elim (λy=>c1.subset y) λy=>m.subset y,z⟩,λz=>z.2⟩).length_eq
 rw[X6]at this;have:=Xw (λx=>decide (x∈cl++st)) (zv rs);lia
def zj4 (R:Rows bd.cps.toList rs)(m:(zv rs).length<=20)(c1:cl.Sublist (zv rs))(r:st.Sublist (zv rs))(ap:∀c∈cl,c ∉ st):zne cl st:=by
 have:=zbG m c1 r ap;exact⟨λc hc=>Zj R (c1.subset hc),λc hc=>Zj R (r.subset hc),by lia,by lia⟩
def znG (rs:AD):(qD rs).filter (JP rs)=za3 rs:=by
 unfold qD za3 nbC;rw[W6,To];rfl
end
def znH:Sp:=λvs H Q _=>∃(N:Addr->Prop) (p l G E U fs:Addr) (s:AD) (n:Int) (J u Y:AE) (cl st:AB) (L:AA->Bool),vs=[.ref p,.ref G,.ref E]/\qe H p l s n/\Rows bd.cps.toList s/\(zU s).length<=16/\(zv s).length<=20/\H G=some (.lst J)/\XG (QM N H) J (zH (qD s))/\jq H E U fs u Y cl st/\zne cl st/\jr (zD s n (qD s)) L cl st /\
 (nxT s n (zH (qD s)) cl st=none->∀m,zo H m->Q .non m) /\
 ∀(w:List Tg) (c1 D:AB) (r tl A B:Addr) (I M O:AE) (m:Hp),nxT s n (zH (qD s)) cl st=some (w,c1,D)->N tl->H A=none->H B=none->m r=some (.tup [.ref tl,.ref A,.ref B])->m tl=some (.lst I)->XG (xT m) I w->m A=some (.lst M)->m B=some (.lst O)->Cel m M c1->Cel m O D->zo H m->Q (.ref r) m
def Zl:zE ["_law_board_here","_law_lists_here","_law_finding","_law_some","_law_clears","_law_stones"] ["_law_board_here","_law_lists_here","_law_finding"] (zp Ym):=bh
def zhy (T:Txt mg)(Z:Prog K mg)(ah:J6 K mg "NoLaying" jaa){f:Addr}{fd:XF}(D:zk K mg "_law_next" Ym ["_law_board_here","_law_lists_here","_law_finding"] f fd):zY P w K mg base CX0 5 f fd ["_law_board_here","_law_lists_here","_law_finding"] znH:=by
 obtain⟨aq,ar,af⟩:=Z.follows;have al:=ziH (P:=P) (w:=w) (base:=base) T Z ah af;refine D.F.ok Zl (λvs H Q E h=>?_) (λam A aj s H vs Q E hr h=>?_)
 .revert h;refine di λN p l ls fa fc fs m=>dN λn us u w' cl st L=>c8 λz0 _=>?_;subst z0;rfl
 .revert h;refine di λN p l ls fa fc fs m=>dg λn us u w'=>dB λcl st L z0 b R an=>dD λac U hU F=>dz λfi tr qn qs=>?_;subst z0;refine⟨_,(ze (qz Xd rfl (zJ (pvS 1)) (pgq 3 Zl.nd) (ze (ze5 (pcX al hr af (za (pvS 0) (za (pvS 3) (za (pvS 2) zd)))) (xW rfl (zW (pgq 4 Zl.nd) (zW (pgq 5 Zl.nd) jV)))) (zh (qW (qp (jy hr.units) (zx yX (pvS 4) (pvS 5)) (@zR _ _ _ _ zd) (qb _)) (zh (zB (qu (za (pvS 3) (za (pvS 4) (za (pvS 5) zd)))))) qd)))) (@zh _ _ _ (@zB _ _ _ _ ze2))),?_⟩;(try dsimp only[cxK,cxP,cxW]);have ak:(qD m).length<=32:=by
   unfold qD;rw[X6,ZB];show _+1<=32;lia
  refine⟨_,rfl,ls,rfl,⟨_,SqL.of U⟩,?_⟩;refine j7 (K:=K) (a:=ls) (xs:=us) (λi σ H'=>∃(w3 w4 w5:Option V),σ=[some (.ref p),some (.ref ls),some (.ref fa),w3,w4,w5]/\zo H H'/\∀j,j<i->∀t,(zH (qD m))[j]?=some t->tells m n cl st t=false)
   ⟨_,_,_,rfl,zo.refl _,λj O=>absurd O (U6 _)⟩ (λi σ H' _ ⟨_,_,_,_,s',_⟩=>SqL.of (s' _ _ U)) ?_ ?_
  .refine λi x σ H1 hx=>dO λw3 w4 w5=>c9 λz0 s1 hE=>?_;subst z0;refine dm (λB Y=>dj λtl tv z0 hN aa hT=>?_) (yK hU hx);subst z0;obtain⟨ae,tm⟩:=zj3 (X4 Y);refine⟨_,rfl,_,rfl,_,rfl,p,l,tl,fa,fc,fs,m,n,tv,u,w',B,cl,st,rfl,b.mono s1,R,s1 _ _ aa,Paired.imp' (λ_ _ z=>xT.mono s1 z) hT,ae,λc hc=>?_,ac,F.mono s1,fi,zst ac ak tr ae tm,λt d1 d2 w1 w2 c1 I H2 f1 f2 k1 k2 k3 g1 g2 p1 p2 x1 x2 s2=>?_⟩
   .rcases XU.mp (tm _ hc) with z | z
    .obtain⟨o,ho,e⟩:=XN.mp z;cases e;exact ho
    .cases Wz.mp z
   refine cT t rfl (SqT.of k1) ⟨rfl,_,(cJ rfl rfl rfl ?_)⟩;have ai:c1.length+I.length<=100:=by
    have a:=(x1.imp (λ{a b} h=>h):c1.Pairwise Cells.lex);have l1:=(qm x1);have l2:=(qm x2);have e1:=xj p1 x1 λy hy=>zeR ((jd _).subset hy);have e2:=xj p2 x2 λy hy=>zeR ((je _).subset hy);have q1:=Xw (λy=>decide (y∈zP (gsT m n cl st B))) (zv m);have q2:=Xw (λy=>decide (y∈zQ (gsT m n cl st B))) (zv m);rw[<- e1]at q1;rw[<- e2]at q2;lia
   refine⟨_,rfl,_,rfl,d1,d2,_,_,rfl,rfl,k2,k3,XY (show w1.length+w2.length<=100 by rw[g1.length,g2.length];exact ai) (by decide),λa ha=>⟨yU,λe he=>?_⟩⟩;have y3:=zc (o:=.lst (w1++w2)) ha;have y4:=zc (o:=.lst []) he;have ab:=s1.trans (s2.trans (y3.trans y4));have ao:=s2.trans (y3.trans y4);refine cE (.list ((c1++I).map zm)) (.list []) (cL (.lst (SqL.of (y4 _ _ zb)) (zbA ((g1.append g2).mono (y3.trans y4)))) (.lst (SqL.of zb) .nil) (zbr _ []) ⟨_,rfl,?_⟩);have ee:(if true=true then !PyData.eqv (.list ((c1++I).map zm)) (.list []) else WQ (.list ((c1++I).map zm)) (.list []))=!(c1++I).isEmpty:=congrArg (λb=>!b) (eq_nil _);rw[ee];by_cases hc:c1=[]/\I=[]
   .refine jk (by rw[hc.1,hc.2];rfl) ⟨_,_,_,rfl,ab,λj O t' J=>?_⟩;by_cases ji:j<i
    .exact hE j ji t' J
    .have:j=i:=by lia
     subst this;rw[Y]at J;cases J;exact tells_no ⟨(hc.1 ▸ p1).symm.eq_nil,(hc.2 ▸ p2).symm.eq_nil⟩
   .refine j6 ?_ ?_
    .cases c1 with
     | cons a r=>rfl
     | nil =>
      cases I with
      | cons a r=>rfl
      | nil=>exact absurd ⟨rfl,rfl⟩ hc
    .refine⟨_,rfl,_,rfl,_,rfl,zgE,λr ag=>?_⟩;have y5:=zc (o:=.tup [.ref tl,.ref d1,.ref d2]) ag;have G:=(y3.trans y4).trans y5;have M:=ab.trans y5;exact qs B c1 I r tl d1 d2 tv w1 w2 _ (zpP Y hE p1 p2 x1 x2 hc) hN (s1.free f1) (s1.free f2) zb (M _ _ aa) (Paired.imp' (λ_ _ z=>xT.mono M z) hT) (G _ _ k2) (G _ _ k3) (g1.mono G) (g2.mono G) M
  .rintro σ H1 ⟨w3,w4,w5,rfl,s1,hE⟩;refine qn (zjS λt Y=>?_) H1 s1;obtain⟨j,O⟩:=TX Y;exact hE j (by rw[Paired.length hU];exact(XV.mp O).1) t O
def zrp {H:Hp}{r:AE}{m:List (List Tg)}{z:Addr}{N:Addr->Prop}(hz:H z=none)(h:XG (QM N H) r m):XG (QM (· ≠ z) H) r m:=Paired.imp' (λ_ _ ⟨a,s,e,_,h,t⟩=>⟨a,s,e,(λw=>by rw[w,hz]at h;cases h),h,t⟩) h
def zfK {rs:AD}{n:Int}{lst:List (List Tg)}{cl st c1 r:AB}{ths:List Tg}(h:nxT rs n lst cl st=some (ths,c1,r)):ths∈lst/\c1=clT rs n cl st ths/\r=stT rs n cl st ths/\¬ (c1=[]/\r=[]):=by
 unfold nxT at h;obtain⟨t,s,e⟩:=Vw.mp h;cases e;refine⟨zj2 s,rfl,rfl,λz=>?_⟩;have w:=PF s;rw[tells_no]at w
 .cases w
 .have m:∀X:AB,(∀y∈X,y∈zv rs)->((zv rs).filter λc=>decide (c∈X))=[]->X=[]:=λX A e=>VQ.mpr λc hc=>by
   have:c∈(zv rs).filter λc=>decide (c∈X):=X8.mpr ⟨A c hc,br hc⟩;rw[e]at this;cases this
  exact⟨m _ (λy hy=>zeR ((jd _).subset hy)) z.1,m _ (λy hy=>zeR ((je _).subset hy)) z.2⟩
def zly {rs:AD}{n:Int}{tgs:List Tg}{L:AA->Bool}{cl st c1 m:AB}(r:(zv rs).length<=20)(s:tgs.length<=32)(tr:jr (zD rs n tgs) L cl st){ths:List Tg}(h:nxT rs n (zH tgs) cl st=some (ths,c1,m)):(∀c∈c1,c ∉ cl)/\(∀c∈m,c ∉ st)/\c1.Sublist (zv rs)/\m.Sublist (zv rs):=by
 obtain⟨hm,B,D,_⟩:=zfK h;obtain⟨w,A⟩:=znF (rs:=rs) (n:=n) hm;have I:=(za1 (n:=n) s r).two tr.ap w A;have f:=tr.fit w A;rw[B,D];exact⟨λc hc=>((JL I f).mp (bg (X8.mp hc).2)).2.2.1,λc hc=>((JM I f).mp (bg (X8.mp hc).2)).2.1,Xm,Xm⟩
def znI {rs:AD}{cl c q:AB}(p:q.Perm (cl++c))(u:(q.map toI).Pairwise λp q=>lt2 q p=false)(s1:cl.Sublist (zv rs))(m:c.Sublist (zv rs))(ap:∀x∈c,x ∉ cl):q=zno rs cl c:=by
 have s:(cl++c).Nodup:=WX.mpr ⟨(qB rs).sublist s1,(qB rs).sublist m,λa ha b r e=>ap b r (e ▸ ha)⟩;exact xj p (zdm (p.nodup_iff.mpr s) u) λy hy=>(XU.mp hy).elim (λz=>s1.subset z) λz=>m.subset z
def NxL (H:Hp)(rs:AD)(n:Int)(sa:Addr)(cl st:AB)(v:V):Prop:=(v=.non/\nxT rs n (zH (qD rs)) cl st=none)\/∃(m:List Tg) (c1 s:AB) (r:List Addr),nxT rs n (zH (qD rs)) cl st=some (m,c1,s)/\zb7 H v ((m,c1,s),r)/\sa ∉ r
def zhz:Sp:=λvs H Q _=>∃(p l:Addr) (m:AD) (n:Int) (L:AA->Bool),vs=[.ref p]/\qe H p l m n/\Rows bd.cps.toList m/\(zU m).length<=16/\(zv m).length<=20/\jr (zD m n (qD m)) L [] [] /\
 ∀(t sa w B fs:Addr) (A u D:AE) (s:List (Stp×List Addr)) (k:Nat) (r:Hp),r t=some (.tup [.ref sa,.ref w])->r sa=some (.lst A)->j5 r A s->jq r w B fs u D (z9 m n (zH (qD m)) k).2.1 (z9 m n (zH (qD m)) k).2.2->s.map (λx=>x.1)=(z9 m n (zH (qD m)) k).1->zhj m n (zH (qD m)) k->zo H r->Q (.ref t) r
def jg:zE ["_law_board_here","_law_lists_here","_law_finding","_law_steps","_law_step"] ["_law_board_here"] (zp Jk):=bh
def zd5 (T:Txt mg)(Z:Prog K mg)(b7:J6 K mg "NoLaying" jaa){f:Addr}{fd:XF}(D:zk K mg "_law_walked" Jk ["_law_board_here"] f fd):zY P w K mg base CX0 6 f fd ["_law_board_here"] zhz:=by
 obtain⟨bV,bU,qg⟩:=Z.law_cells;obtain⟨bZ,bW,Jp⟩:=Z.law_things;obtain⟨bX,ca,bi⟩:=Z.law_lists;obtain⟨cb,bY,aG⟩:=Z.law_next;have bD:=zfJ (P:=P) (w:=w) (base:=base) T bi Jp qg;have bj:=zhy (P:=P) (w:=w) (base:=base) T Z b7 aG;refine D.F.ok jg (λvs H Q E h=>?_) (λbK A b8 s H vs Q E hr h=>?_)
 .revert h;refine dg λp l rs n=>dm λL z0 _=>?_;subst z0;rfl
 .revert h;refine dP λp l rs n L z0 b R aD=>c9 λM t0 q=>?_;subst z0;refine⟨_,(ze (qR 1 jg.nd (pc0 bD hr bi (za (pvS 0) zd))) (@ze _ _ _ _ _ (@qx _ _ 2 _ _ _ _ jg.nd rfl (VU rfl) (@qu _ _ _ _ _ (@za _ _ _ _ _ (@zR _ _ _ _ zd) (@za _ _ _ _ _ (@zR _ _ _ _ zd) zd rfl) rfl)) (by rfl) (.inr rfl)) (@ze _ _ _ _ _ (@qx _ _ 3 _ _ _ _ jg.nd rfl (VU rfl) (@zR _ _ _ _ zd) (by rfl) (.inr rfl)) (ze (qR 4 jg.nd (pc0 bj hr aG (za (pvS 0) (za (pvS 1) (za (pvS 2) zd))))) (ze (zfW Xd (qp zi1 (pvS 4) ze2 (qb _)) (ze (qV (yV W7 WJ WI jP (pvS 3) (za (pvS 4) zd))) (ze (qR 2 jg.nd (qu (za (pb1 GS.jJ T.yP Wm (zx yX (zG qa (pvS 2) zf (λ_ _=>rfl)) (zG qa (pvS 4) zf (λ_ _=>rfl)))) (za (pb1 GS.jJ T.yP Wm (zx yX (zG qa (pvS 2) zf (λ_ _=>rfl)) (zG qa (pvS 4) zf (λ_ _=>rfl)))) zd)))) (zh (qR 4 jg.nd (pc0 bj hr aG (za (pvS 0) (za (pvS 1) (za (pvS 2) zd))))))))) (zh (zB (qu (za (pvS 3) (za (pvS 2) zd)))))))))),?_⟩;(try dsimp only[cxK,cxP,cxW]);have aE:(qD rs).length<=32:=by
   unfold qD;rw[X6,ZB];show _+1<=32;lia
  refine⟨_,rfl,p,l,rs,n,rfl,b,R,aD,λls us H1 aT hU s1=>?_⟩;refine⟨yU,λI bF=>⟨yU,λJ bE=>⟨j9,λac bG=>⟨yU,λsa ak=>?_⟩⟩⟩⟩;have y1:=zc (o:=.lst []) bF;have y2:=zc (o:=.lst []) bE;have y3:=zc (o:=.tup [.ref I,.ref J]) bG;have y4:=zc (o:=.lst []) ak;have ar:zo H1 (upd (upd (upd H1 I (.lst [])) J (.lst [])) ac (.tup [.ref I,.ref J])):=y1.trans (y2.trans y3);have F3:jq (upd (upd (upd H1 I (.lst [])) J (.lst [])) ac (.tup [.ref I,.ref J])) ac I J [] [] [] []:=⟨zb,y3 _ _ (y2 _ _ zb),y3 _ _ zb,.nil,.nil⟩;generalize upd (upd (upd H1 I (.lst [])) J (.lst [])) ac (.tup [.ref I,.ref J])=H3 at *
  have ah:∀{Hc:Hp} {o:HO} {a d:Addr},Hc a=some o->Hc d=none->d≠a:=λh f e=>by
   rw[e,h]at f;cases f
  have bx:=zrp ak (xV ar hU);have F4:=F3.mono y4;have n1:I≠sa:=(ah F3.h1 ak).symm;have n2:J≠sa:=(ah F3.h2 ak).symm;have aM:XG (QM (· ≠ sa) (upd H3 sa (.lst []))) us (zH (qD rs)):=xV y4 bx;have a8:upd H3 sa (.lst []) sa=some (.lst []):=zb;have bb:=ar.trans y4;generalize upd H3 sa (.lst [])=H4 at *
  have mk:∀{Hc U:Hp} {cl st:AB} {G:AE} {O:List Tg} {c1 c2:AB} {r tl d1 d2:Addr} {tv w1 w2:AE},Hc sa=some (.lst G)->nxT rs n (zH (qD rs)) cl st=some (O,c1,c2)->tl≠sa->Hc d1=none->Hc d2=none->U r=some (.tup [.ref tl,.ref d1,.ref d2])->U tl=some (.lst tv)->XG (xT U) tv O->U d1=some (.lst w1)->U d2=some (.lst w2)->Cel U w1 c1->Cel U w2 c2->NxL U rs n sa cl st (.ref r):=by
   intro Hc U cl st G O c1 c2 r tl d1 d2 tv w1 w2 hc hn e1 f1 f2 ag ao an ae af g1 g2;refine .inr ⟨O,c1,c2,[tl,d1,d2],hn,(cF r tl d1 d2 (cE tv w1 (c6 w2 rfl rfl ag ao an ae af g1 g2))),λz=>?_⟩;rcases XQ.mp z with z | z
   .exact e1 z.symm
   .rcases XQ.mp z with z | z
    .exact ah hc f1 z.symm
    .exact ah hc f2 (Wz.mp z).symm
  refine' zsl (λv H5=>NxL H5 rs n sa [] [] v/\zo H4 H5) (λgo=>?gTail) ?gRest
  case gTail =>
   refine⟨_,rfl,_,rfl,_,rfl,(· ≠ sa),p,l,ls,ac,I,J,rs,n,us,[],[],[],[],L,rfl,b.mono (s1.trans bb),R,aD,M,bb _ _ aT,aM,F4,zj4 R M (UT _) (UT _) (λ_ h=>nomatch h),t0,?gN,λO c1 c2 r tl d1 d2 tv w1 w2 U hn e1 f1 f2 ag ao an ae af g1 g2 s'=>?gS⟩
   case gS =>
    have hv:=mk a8 hn e1 f1 f2 ag ao an ae af g1 g2
    clear ag
    revert hv
    generalize V.ref r=v
    intro hv
    exact go v U ⟨hv,s'⟩
   case gN=>exact λhn U s'=>go _ _ ⟨.inl ⟨rfl,hn⟩,s'⟩
  rintro v H5 ⟨hv,ay⟩;refine⟨λm σ U=>∃(fa fc fs:Addr) (G u w':AE) (cl st:AB) (v:V) (aa:List (Stp×List Addr)) (k:Nat),m=20-(cl.length+st.length)/\σ=[some (.ref p),some (.ref ls),some (.ref fa),some (.ref sa),some v]/\zo H3 U/\U sa=some (.lst G)/\G.length<=cl.length+st.length/\jq U fa fc fs u w' cl st/\fc≠sa/\fs≠sa/\sa ∉ qU aa/\j5 U G aa/\z9 rs n (zH (qD rs)) k=(aa.map (λx=>x.1),cl,st)/\(∀i,i<k->nxT rs n (zH (qD rs)) (z9 rs n (zH (qD rs)) i).2.1 (z9 rs n (zH (qD rs)) i).2.2≠none)/\XG (QM (· ≠ sa) U) us (zH (qD rs))/\NxL U rs n sa cl st v,⟨_,(cF ac I J [] (cF [] [] [] [] (cE v [] (c6 0 rfl rfl (y4.trans ay) (ay _ _ a8) (XR _) (F4.mono ay) n1 n2 (cM (λz=>nomatch z) (.nil) rfl (λi hi=>absurd hi (U6 _)) (xV ay aM) hv)))))⟩,?_⟩
  refine λm σ H6=>di λfa fc fs G u w' cl st=>dB λv aa k z0 z1 s6 B=>dD λbO F nc ns=>dh λa9 hS hk bk b0 hv=>?_;subst z0 z1;have tr:=Qk (n:=n) M aE t0 k;have sb:=zct (rs:=rs) (n:=n) (zH (qD rs)) k;rw[hk]at tr sb;have wl:cl.length+st.length<=20:=zbG M sb.1 sb.2 tr.ap;refine⟨_,rfl,rfl,_,rfl,?_⟩;rcases hv with ⟨rfl,hE⟩ | ⟨O,c1,c2,as,aw,⟨r,tl,d1,d2,tv,w1,w2,rfl,ai,aC,ao,an,ae,af,g1,g2⟩,ax⟩
  .refine jk (by decide) ?_;refine⟨_,rfl,_,rfl,j9,λtt b5=>?_⟩;have y:=zc (o:=.tup [.ref sa,.ref fa]) b5;exact q tt sa fa fc fs G u w' aa k _ zb (y _ _ B) (hS.mono y) (by rw[hk];exact F.mono y) (by rw[hk]) ⟨by rw[hk];exact hE,bk⟩ (s1.trans (ar.trans (s6.trans y)))
  .refine j6 (by rw[bf (λz=>nomatch z)];rfl) ?_;refine⟨_,fun cc U h=>h,?_⟩;have ai:as=[tl,d1,d2]:=ai;have g1:Cel H6 w1 c1:=g1;have g2:Cel H6 w2 c2:=g2;refine dz (λbm bn bc be=>?_) (zly M aE tr aw);have he:=(zfK aw).2.2.2;have bv:j5 (upd H6 sa (.lst (G++[.ref r]))) (G++[.ref r]) (aa++[((O,c1,c2),as)]):=Paired.snoc (j5.into B a9 hS) (zb7.into B ax (cF r tl d1 d2 (cE tv w1 (c6 w2 rfl ai aC ao an ae af g1 g2))));have e1:d1≠sa:=λe=>ax (by rw[ai,<- e];exact Y1 _ X5);have e2:d2≠sa:=λe=>ax (by rw[ai,<- e];exact Y1 _ (Y1 _ X5));have aW:upd H6 sa (.lst (G++[.ref r])) r=some (.tup [.ref tl,.ref d1,.ref d2]):=by
    rw[zg (Qc aC B (by intro q;cases q))];exact aC
   refine⟨_,rfl,.inl ⟨rfl,_,SqL.of B⟩,_,rfl,sa,_,_,rfl,rfl,B,XJ (show G.length<=20 by lia) (by decide),?_⟩;have F7:jq (upd H6 sa (.lst (G++[.ref r]))) fa fc fs u w' cl st:=⟨by rw[zg (Qc F.tp B (by intro q;cases q))];exact F.tp,by rw[zg nc];exact F.h1,by rw[zg ns];exact F.h2,Cel.into sa _ B F.c1,Cel.into sa _ B F.c2⟩;have aO:upd H6 sa (.lst (G++[.ref r])) d1=some (.lst w1):=by rw[zg e1];exact ae
   have aQ:upd H6 sa (.lst (G++[.ref r])) d2=some (.lst w2):=by rw[zg e2];exact af
   have aI:=Cel.into sa (HO.lst (G++[.ref r])) B g1;have aJ:=Cel.into sa (HO.lst (G++[.ref r])) B g2;have b1:XG (QM (· ≠ sa) (upd H6 sa (.lst (G++[.ref r])))) us (zH (qD rs)):=zdF B b0;have s7:zo H3 (upd H6 sa (.lst (G++[.ref r]))):=λb o e=>by
    rw[zg (zj e ak)];exact s6 _ _ e
   have al:upd H6 sa (.lst (G++[.ref r])) sa=some (.lst (G++[.ref r])):=zb;generalize upd H6 sa (.lst (G++[.ref r]))=H7 at *
   have m1:c1.length<=20:=XY bc.length_le M;have m2:c2.length<=20:=XY be.length_le M;have a1:=F7.c1.length;have a2:=F7.c2.length;have a3:=aI.length;have a4:=aJ.length;refine⟨_,rfl,fa,_,0,_,rfl,rfl,SqT.of F7.tp,rfl,_,rfl,r,_,1,_,rfl,rfl,SqT.of aW,rfl,fc,d1,_,_,rfl,rfl,F7.h1,aO,XY (show u.length+w1.length<=100 by lia) (by decide),λx hx=>?_⟩;have y1:=zc (o:=.lst (u++w1)) hx;refine⟨x,(cO rfl (SqL.of zb) (Cel.tup2 ((F7.c1.append aI).mono y1)) (by rw[X6];lia) (λY u1 z1 a6 b3 b9 up1=>?_))⟩;obtain⟨q1,rfl,aU⟩:=Yr b9;have y2:=zc (o:=.lst u1) a6;have av:=y1.trans y2;refine⟨_,rfl,fa,_,1,_,rfl,rfl,SqT.of (av _ _ F7.tp),rfl,_,rfl,r,_,2,_,rfl,rfl,SqT.of (av _ _ aW),rfl,fs,d2,_,_,rfl,rfl,av _ _ F7.h2,av _ _ aQ,XY (show w'.length+w2.length<=100 by lia) (by decide),λx' b6=>?_⟩;have y3:=zc (o:=.lst (w'++w2)) b6;have aF:=av.trans y3;refine⟨x',(cO rfl (SqL.of zb) (Cel.tup2 ((F7.c2.append aJ).mono aF)) (by rw[X6];lia) (λab u2 z2 a7 b4 bA bB=>?_))⟩;obtain⟨q2,rfl,aV⟩:=Yr bA;have y4:=zc (o:=.lst u2) a7;have bC:=aF.trans y4;refine⟨j9,λaj aR=>?_⟩;have y5:=zc (o:=.tup [.ref Y,.ref ab]) aR;have a5:=bC.trans y5;have aS:=(y3.trans (y4.trans y5)) _ _ (zb (H:=upd H7 x (.lst (u++w1))) (a:=Y) (o:=.lst u1));have F8:jq _ aj Y ab u1 u2 q1 q2:=⟨zb,aS,y5 _ _ zb,Cel.mono (y2.trans (y3.trans (y4.trans y5))) (qO b3),Cel.mono (y4.trans y5) (qO b4)⟩;have aZ:Y≠sa:=ah (y1 _ _ al) a6;have ba:ab≠sa:=ah (aF _ _ al) a7;have aB:z9 rs n (zH (qD rs)) (k+1)=((aa++[((O,c1,c2),as)]).map (λx=>x.1),q1,q2):=by
    rw[Qj (s:=(O,c1,c2)) (by rw[hk];exact aw),hk,XB,znI aU up1 sb.1 bc bm,znI aV bB sb.2 be bn];rfl
   have aH:∀i,i<k+1->nxT rs n (zH (qD rs)) (z9 rs n (zH (qD rs)) i).2.1 (z9 rs n (zH (qD rs)) i).2.2≠none:=λi hi=>by
    by_cases ik:i<k
    .exact bk i ik
    .rw[show i=k by lia,hk];rw[aw];exact λz=>nomatch z
   have aq:sa ∉ qU (aa++[((O,c1,c2),as)]):=λz=>by
    have z:sa∈(aa++[((O,c1,c2),as)]).flatMap (λx=>x.2):=z;rw[Wd]at z;rcases XU.mp z with z | z
    .exact a9 z
    .have z:sa∈as++[]:=z;rw[Xx]at z;exact ax z
   have az:=Qk (n:=n) M aE t0 (k+1);have au:=zct (rs:=rs) (n:=n) (zH (qD rs)) (k+1);rw[aB]at az au;have aK:=bv.mono a5;have aA:=xV a5 b1;have am:=a5 _ _ al;have s8:=s7.trans a5;generalize upd (upd (upd (upd (upd H7 x (.lst (u++w1))) Y (.lst u1)) x' (.lst (w'++w2))) ab (.lst u2)) aj (.tup [.ref Y,.ref ab])=H8 at *
   have k1:=aU.length_eq;have k2:=aV.length_eq;rw[X6]at k1 k2;have k3:1<=c1.length+c2.length:=by
    by_cases z:c1.length+c2.length=0
    .exact absurd ⟨Wy.mp (by lia),Wy.mp (by lia)⟩ he
    .lia
   have bT:q1.length+q2.length<=20:=zbG M au.1 au.2 az.ap;refine⟨_,rfl,_,rfl,_,rfl,(· ≠ sa),p,l,ls,aj,Y,ab,rs,n,us,u1,u2,q1,q2,L,rfl,b.mono (s1.trans (ar.trans s8)),R,aD,M,(ar.trans s8) _ _ aT,aA,F8,zj4 R M au.1 au.2 az.ap,az,λhn H9 s9=>?_,λbH bI bJ r' bP bM bN bQ bR bS H9 b2 bo f1 f2 ag aY aX aN aP bp bt s9=>?_⟩
   .exact cD (by lia) (cF aj Y ab (G++[.ref r]) (cF u1 u2 q1 q2 ⟨.non,_,(c6 (k+1) rfl rfl (s8.trans s9) (s9 _ _ am) (by rw[X6];show G.length+1<=_;lia) (F8.mono s9) aZ ba (cM aq (aK.mono s9) aB aH (xV s9 aA) (.inl ⟨rfl,hn⟩)))⟩))
   .exact cD (by lia) (cF aj Y ab (G++[.ref r]) (cF u1 u2 q1 q2 ⟨.ref r',_,(c6 (k+1) rfl rfl (s8.trans s9) (s9 _ _ am) (by rw[X6];show G.length+1<=_;lia) (F8.mono s9) aZ ba (cM aq (aK.mono s9) aB aH (xV s9 aA) (mk am b2 bo f1 f2 ag aY aX aN aP bp bt)))⟩))
def zfM (H:Hp)(a:Addr)(m:Nat):Prop:=∃xs,H a=some (.lst xs)/\xs.length=m
def zj5:Sp:=λvs H Q _=>∃(l:Addr) (r:List Addr) (w:List Nat),vs=[.ref l]/\H l=some (.lst (r.map V.ref))/\r.Nodup/\l ∉ r/\r.length<=100/\XG (zfM H) r w/\(∀m∈w,m<=100) /\
 ∀s,(∀b o,b ∉ r->H b=some o->s b=some o)->Q (.bl true) s
theorem zdI {H m:Hp}{d:Addr}(k:∀b o,b≠d->H b=some o->m b=some o):∀{as:List Addr} {r:List Nat},XG (zfM H) as r->d ∉ as->XG (zfM m) as r
 | _,_,.nil,_=>.nil
 | _,_,.cons ⟨xs,h,e⟩ t,n=>.cons ⟨xs,k _ _ (λz=>n (by rw[z];exact X5)) h,e⟩ (zdI k t λz=>n (Y1 _ z))
theorem zj6 {H:Hp}{a:Addr}{xs:AE}:∀{as:List Addr} {r:List Nat} {i:Nat},XG (zfM H) as r->as.Nodup->as[i]?=some a->XG (zfM (upd H a (.lst xs))) as (r.set i xs.length)
 | _,_,_,.nil,_,e=>by simp at e
 | _,_,0,.cons _ t,m,z=>by
  simp at z;subst z;exact .cons ⟨xs,zb,rfl⟩ (zdI (λb o w s=>by rw[zg w];exact s) t (WS.mp m).1)
 | _,_,i+1,.cons ⟨ys,h,e⟩ t,m,z=>by
  simp at z;have n:=WS.mp m;refine .cons ⟨ys,?_,e⟩ (zj6 t n.2 z);rw[zg λy=>n.1 (by rw[y];exact X4 z)];exact h
def znJ {K:XW}{w:Hp}{z l:Addr}{as:List Addr}{B:List Nat}{Q:VK}(hz:w z=none)(hl:w l=some (.lst (as.map V.ref)))(hP:XG (zfM w) as B)(J:as.length<=100)
  (q:∀A,zo w A->A z=some (.lst (iL (nlI B)))->Q (.ref z) A):yJ (Itl K l) (yD 0) zlN (tCB (zou K) (zcx (tVS 0) zkm)) Q z [none] (upd w z (.lst [])):=by
 refine qv (K:=K) (a:=l) (xs:=as.map V.ref) (λi s E=>∃G:Option V,s=[G]/\zo w E/\E z=some (.lst (iL (nlI (B.take i))))) ⟨_,rfl,zc hz,zb⟩ (λi s E _ ⟨_,_,I,_⟩=>SqL.of (I _ _ hl)) ?_ ?_
 .rintro i v s A hv ⟨G,rfl,D,r⟩;rw[XC]at hv;obtain⟨a,ha,rfl⟩:=Vw.mp hv;obtain⟨m,hm,xs,hx,rfl⟩:=yK hP ha;have L:=(XV.mp ha).1;unfold yD;refine Yt ?_;refine⟨_,rfl,a,xs,rfl,.inl (SqL.of (D _ _ hx)),_,r,?_,_,rfl,λb o e=>?_,?_⟩
  .rw[ZB,ZB,XM];exact XJ (show min i B.length<=100 by lia) (by decide)
  .rw[zg (zj e hz)];exact D _ _ e
  .rw[zb,take_snoc hm];show _=some (HO.lst (((B.take i++[xs.length]).map λx=>((x:Nat):Int)).map V.int));rw[XB,XB];rfl
 .rintro s A ⟨G,rfl,D,r⟩;rw[ZB,Paired.length hP,XE]at r;exact q A D r
def YG:zE ["_law_lists_here","_law_sizes","_law_k"] ["_law_lists_here"] (zp Zd):=bh
def zfN (T:Txt mg)(D:zk K mg "_law_alone" Zd ["_law_lists_here"] f fd):zY P w K mg base CX0 1 f fd ["_law_lists_here"] zj5:=by
 refine D.F.ok YG (λvs H Q E h=>?_) (λao A an s H vs Q E hr h=>?_)
 .obtain⟨l,B,ns,rfl,_⟩:=h;rfl
 .revert h;refine dB λl B ns z0 hl nd nl=>dz λal hP G q=>?_;subst z0;refine⟨_,(ze (psC 1 YG.nd ["_law_some"] [none] cP (zJ (pvS 0)) (pgN 0) qo (pb1 (Y4 (K:=K) (by rfl)) T.qT Xa (pvS 0))) (ze (qz Xd rfl (prg T.jB (pb1 zM T.qT Xa (pvS 0))) (pgq 2 YG.nd) (ze (qV (yV W7 WJ WI jP (zG yN (pvS 0) (pvS 2) (λ_ _=>rfl)) (@za _ _ _ _ _ zf zd rfl))) (ze (ze5 (zx xD (zG yN (pvS 1) (pvS 2) (λ_ _=>rfl)) zf) (zqe (pvS 1) (pvS 2) set_list)) (zh (qW (qp (jy hr.units) (pcm ["_law_some"] [none] cP (zJ (pvS 0)) (pgN 0) qo (pb1 (Y4 (K:=K) (by rfl)) T.qT Xa (pvS 0))) (pvS 1) (qb _)) (@zh _ _ _ (@zB _ _ _ _ zam)) qd))))) (@zh _ _ _ (@zB _ _ _ _ zam)))),?_⟩;(try dsimp only[cxK,cxP,cxW]);refine⟨_,rfl,l,rfl,⟨_,SqL.of hl⟩,λz hz=>?_⟩;refine znJ hz hl hP al λH1 s1 ak=>?_;have nz:z ∉ B:=λe=>by
   obtain⟨i,hi⟩:=TX e;obtain⟨m,_,xs,hx,_⟩:=yK hP hi;rw[hz]at hx;cases hx
  have lz:l≠z:=zj hl hz;refine⟨_,rfl,l,_,rfl,.inl (SqL.of (s1 _ _ hl)),_,rfl,by lia,by rw[ZB];lia,?_⟩;rw[Wa,ZB];refine qE (lo:=0) (n:=B.length) (λi σ H'=>∃(w2:Option V) (r:List Nat),σ=[some (.ref l),some (.ref z),w2]/\H' l=some (.lst (B.map V.ref))/\H' z=some (.lst (iL (nlI r)))/\XG (zfM H') B r/\(∀m∈r,m<=100+i)/\∀b o,b ∉ B->H b=some o->H' b=some o) ⟨_,ns,rfl,s1 _ _ hl,ak,Paired.mono (λa m ⟨xs,h,e⟩=>⟨xs,s1 _ _ h,e⟩) hP,G,λb o _ e=>s1 _ _ e⟩ ?_ ?_
  .refine λi σ O hi=>dF λw2 r=>dh λz0 J Y I M fr=>?_;subst z0;rw[V2];obtain⟨a,ha⟩:∃a,B[i]?=some a:=⟨_,XX hi⟩;have am:=X4 ha;refine dm (λm hm=>dm λxs hx z0=>?_) (yK I ha);subst z0;have mb:=M _ (X4 hm);have az:z≠a:=λe=>nz (e ▸ am);have ac:l≠a:=λe=>nl (e ▸ am);refine⟨_,rfl,_,rfl,l,_,_,V.ref a,rfl,rfl,SqL.of J,ja (by rw[XC,ha];rfl),.inl ⟨rfl,_,SqL.of hx⟩,a,_,_,rfl,rfl,hx,XJ (show xs.length<=1000 by lia) (by decide),?_⟩;have aa:upd O a (.lst (xs++[.int 0])) z=some (.lst (iL (nlI r))):=by
    rw[zg az];exact Y
   have ag:=zj6 (xs:=xs++[.int 0]) I nd ha;have ah:upd O a (.lst (xs++[.int 0])) l=some (.lst (B.map V.ref)):=by
    rw[zg ac];exact J
   have ae:∀b o,b ∉ B->H b=some o->upd O a (.lst (xs++[.int 0])) b=some o:=λb o G e=>by
    rw[zg λy=>G (by rw[y];exact am)];exact fr b o G e
   generalize upd O a (.lst (xs++[.int 0]))=H3 at *
   have ai:(iL (nlI r))[i]?=some (.int (xs.length:Nat)):=zfv (by rw[XC,hm];rfl);have aq:r.length=B.length:=(Paired.length I).symm;refine⟨_,rfl,_,rfl,z,_,_,_,rfl,rfl,SqL.of aa,ja ai,_,_,rfl,rfl,_,rfl,_,rfl,z,_,_,i,rfl,rfl,aa,?_,?_⟩
   .rw[ZB,ZB];rw[ziv (by lia) (by lia),Wa]
   have es:(iL (nlI r)).set i (V.int ((xs.length:Nat)+1))=iL (nlI (r.set i (xs++[V.int 0]).length)):=by
    show ((r.map λx=>((x:Nat):Int)).map V.int).set i _=(((r.set i (xs++[V.int 0]).length).map λx=>((x:Nat):Int)).map V.int);rw[TQ,TQ,X6];rfl
   rw[es];have ab:upd H3 z (.lst (iL (nlI (r.set i (xs++[V.int 0]).length)))) z=some (.lst (iL (nlI (r.set i (xs++[V.int 0]).length)))):=zb;have L:upd H3 z (.lst (iL (nlI (r.set i (xs++[V.int 0]).length)))) l=some (.lst (B.map V.ref)):=by
    rw[zg lz];exact ah
   have U:XG (zfM (upd H3 z (.lst (iL (nlI (r.set i (xs++[V.int 0]).length)))))) B (r.set i (xs++[V.int 0]).length):=zdI (λb o G hb=>by rw[zg G];exact hb) ag nz;have af:∀b o,b ∉ B->H b=some o->upd H3 z (.lst (iL (nlI (r.set i (xs++[V.int 0]).length)))) b=some o:=λb o G e=>by
    rw[zg (zj e hz)];exact ae b o G e
   generalize upd H3 z (.lst (iL (nlI (r.set i (xs++[V.int 0]).length))))=H4 at *
   refine⟨_,rfl,l,rfl,⟨_,SqL.of L⟩,λy hy=>?_⟩;refine znJ hy L U al λH5 s5 aj=>?_;refine⟨_,rfl,_,_,zgX (SqL.of aj),zgX (SqL.of (s5 _ _ ab)),zlf _ _,_,rfl,jk (by show (!PyData.eqv (zaS _) (zaS _))=false;rw[ziu];rfl) ?_⟩;refine⟨_,_,rfl,s5 _ _ L,s5 _ _ ab,Paired.mono (λa m ⟨xs,h,e⟩=>⟨xs,s5 _ _ h,e⟩) U,λm hm'=>?_,λb o G e=>s5 _ _ (af b o G e)⟩;rcases TJ hm' with hm' | hm'
   .have:=M m hm';lia
   .rw[hm',X6];show xs.length+1<=_;lia
  .rintro σ O ⟨w2,r,rfl,J,Y,I,M,fr⟩;exact q O fr
theorem zj7 (p:Nat->Bool)(i:Nat):∀(j:Nat) (t:List Nat),(Cells.zK p i j t).length<=t.length
 | _,[]=>XR _
 | j,c::r=>by
  have:=zj7 p i (j+1) r;show ((if p c=true then [(i,j)] else [])++Cells.zK p i (j+1) r).length<=r.length+1;rw[X6];split
  .show 1+_<=_;lia
  .show 0+_<=_;lia
theorem zj8 (p:Nat->Bool){w:Nat}:∀(i:Nat) (gs:List (List Nat)),(∀t∈gs,t.length<=w)->(Cells.zz p i gs).length<=gs.length*w
 | _,[],_=>W3 _
 | i,t::r,h=>by
  have a:=zj8 p (i+1) r λu m=>h u (Y1 _ m);have b:=zj7 p i 0 t;have d:=h t X5;show (Cells.zK p i 0 t++Cells.zz p (i+1) r).length<=(r.length+1)*w;rw[X6,P7];lia
def QZ.open16 {gs:List (List Nat)}{rs:AD}(M:QZ gs)(h:codes rs=zdC gs):(zU rs).length<=16:=by
 obtain⟨n,_,_,m,hn⟩:=M.ex;unfold zU;rw[h];refine XY (zj8 YK (w:=n) 0 _ λt r=>?_) ?_
 .unfold zdC at r;obtain⟨i,hi,rfl⟩:=PB.mp r;unfold ziG;rw[UO,(hn _ (UV hi)).1];exact XR _
 .unfold zdC;rw[UO];exact m
def Lay.trL {rs:AD}{n:Int}{L:AA->Bool}(h:Lay rs n L):jr (zD rs n (qD rs)) L [] []:=by
 refine⟨(λ_ z=>nomatch z),(λ_ z=>nomatch z),λk hk=>?_⟩;obtain⟨r,ht,rfl⟩:=XN.mp hk;rcases XU.mp ht with ht | ht
 .obtain⟨o,m,rfl⟩:=XN.mp ht;exact h.o o m
 .rw[Wz.mp ht];exact h.a
theorem zbH {rs:AD}{n:Int}{tgs:List Tg}(m:(zv rs).length<=20):∀k,∀s∈(z9 rs n (zH tgs) k).1,s.1.length<=2/\s.2.1.length<=20/\s.2.2.length<=20
 | 0,_,h=>nomatch h
 | k+1,s,hs=>by
  cases h:nxT rs n (zH tgs) (z9 rs n (zH tgs) k).2.1 (z9 rs n (zH tgs) k).2.2 with
  | none =>
   have e:z9 rs n (zH tgs) (k+1)=z9 rs n (zH tgs) k:=by
    show (match nxT rs n (zH tgs) (z9 rs n (zH tgs) k).2.1 (z9 rs n (zH tgs) k).2.2 with | none=>_ | some s=>_)=_;rw[h]
   rw[e]at hs;exact zbH m k s hs
  | some A =>
   rw[Qj h]at hs;rcases XU.mp hs with hs | hs
   .exact zbH m k s hs
   .rw[Wz.mp hs];obtain⟨a,b,c⟩:=A;obtain⟨hm,r,w,_⟩:=zfK h;have:=(zj3 hm).1;rw[r,w];exact⟨by show a.length<=2;lia,XY (Xw _ _) m,XY (Xw _ _) m⟩
def Zr:Tg->Wc
 | none=>.str "all"
 | some c=>zm c
def Zm (s:Stp):Wc:=.tuple [.list (s.1.map Zr),.list (s.2.1.map zm),.list (s.2.2.map zm)]
def za8 (S:List Stp)(cl st:AB):Wc:=.tuple [.list (S.map Zm),fData cl st]
theorem zfO:∀ths:List Tg,WR (ths.map Zr)=true
 | []=>rfl
 | none::r=>by
  show (Wr (.str "all")&&WR (r.map Zr))=true;rw[zfO r,show Wr (.str "all")=true by decide+kernel];rfl
 | some c::r=>by
  show (Wr (zm c)&&WR (r.map Zr))=true;rw[zfO r,zk6 c];rfl
theorem zdJ:∀ths:List Tg,W2 (ths.map Zr)<=1
 | []=>W3 _
 | none::r=>by
  show max 0 (W2 (r.map Zr))<=1;have:=zdJ r;lia
 | some c::r=>by
  show max (max 0 (max 0 0)+1) (W2 (r.map Zr))<=1;have:=zdJ r;lia
theorem zhC:∀S:List Stp,WR (S.map Zm)=true/\W2 (S.map Zm)<=3
 | []=>⟨rfl,W3 _⟩
 | s::r=>by
  obtain⟨a,b⟩:=zhC r;constructor
  .show ((WR (s.1.map Zr)&&(WR (s.2.1.map zm)&&(WR (s.2.2.map zm)&&true)))&&WR (r.map Zm))=true;rw[a,zfO,YM,YM];rfl
  .show max (max (W2 (s.1.map Zr)+1) (max (W2 (s.2.1.map zm)+1) (max (W2 (s.2.2.map zm)+1) 0))+1) (W2 (r.map Zm))<=3;have:=zdJ s.1;have:=Yq s.2.1;have:=Yq s.2.2;lia
def zj9 (S:List Stp)(cl st:AB):zf4 (za8 S cl st) (za8 S cl st):=by
 obtain⟨a,b⟩:=zhC S;have m:Wr (za8 S cl st)=true:=by
  show (WR (S.map Zm)&&(Wr (fData cl st)&&true))=true;rw[a,(zlt cl st).l1];rfl
 refine⟨m,m,?_⟩;show max (W2 (S.map Zm)+1) (max (max (W2 (cl.map zm)+1) (max (W2 (st.map zm)+1) 0)+1) 0)+1<=64;have:=Yq cl;have:=Yq st;lia
theorem ziI {K:XW}{H:Hp}:∀{tv:AE} {ths:List Tg},XG (xT H) tv ths->yH K H tv (ths.map Zr)
 | _,_,.nil=>.nil
 | _,none::_,.cons h t=>by
  cases (show _=V.str "all" from h);exact .cons (.str _) (ziI t)
 | _,some c::_,.cons h t=>.cons (yQ.rdv h) (ziI t)
theorem zdK {K:XW}{H:Hp}:∀{m:AE} {sas:List (Stp×List Addr)},j5 H m sas->yH K H m ((sas.map λx=>x.1).map Zm)
 | _,_,.nil=>.nil
 | _,_,.cons ⟨r,tl,I,J,tv,M,O,e,L,s,w,A,B,D,E,G⟩ t=>by
  subst e;exact .cons (.tup (SqT.of s) (.cons (.lst (SqL.of w) (ziI A)) (.cons (.lst (SqL.of B) (zbA E)) (.cons (.lst (SqL.of D) (zbA G)) .nil)))) (zdK t)
theorem zka {H:Hp}:∀{m:AE} {sas:List (Stp×List Addr)},j5 H m sas->(qU sas).length=3*m.length
 | _,_,.nil=>rfl
 | _,_,.cons ⟨r,tl,A,B,tv,D,E,e,s,_⟩ t=>by
  have z:=zka t;have w:=congrArg List.length s;refine X6.trans ?_;refine(congr (congrArg HAdd.hAdd w) z).trans ?_;show 3+_=3*(_+1);lia
theorem zkb {H:Hp}:∀as:List Addr,(∀a∈as,∃xs,H a=some (.lst xs)/\xs.length<=100)->∃s,XG (zfM H) as s/\∀m∈s,m<=100
 | [],_=>⟨[],.nil,(λ_ h=>nomatch h)⟩
 | a::r,h=>by
  obtain⟨s,D,w⟩:=zkb r λb w=>h b (Y1 _ w);obtain⟨xs,A,B⟩:=h a X5;refine⟨xs.length::s,.cons ⟨xs,A,rfl⟩ D,λm hm=>?_⟩;rcases XQ.mp hm with rfl | hm
  .exact B
  .exact w m hm
theorem zeX {H:Hp}{a:Addr}:∀{I:AE} {sas:List (Stp×List Addr)},j5 H I sas->(∀x∈sas,x.1.1.length<=2/\x.1.2.1.length<=20/\x.1.2.2.length<=20)->a∈qU sas->∃xs,H a=some (.lst xs)/\xs.length<=100
 | _,_,.cons ⟨r,tl,O,U,tv,w1,w2,e,s,Y,w,A,B,D,E,G⟩ t,m,h=>by
  obtain⟨J,L,M⟩:=m _ X5;rcases XU.mp h with h | h
  .have z:a∈(_:Stp×List Addr).2:=h;rw[s]at z;rcases XQ.mp z with rfl | h
   .exact⟨_,w,by rw[Paired.length A];lia⟩
   .rcases XQ.mp h with rfl | h
    .exact⟨_,B,by rw[E.length];lia⟩
    .rw[Wz.mp h];exact⟨_,D,by rw[G.length];lia⟩
  .exact zeX t (λx hx=>m x (Y1 _ hx)) h
def zkc (K:XW):Sp:=λvs H Q _=>∃(a:Addr) (m:List Int),vs=[.ref a]/\SqL K H a (m.map V.int)/\m.length<=63/\∀r,Q (.bl true) r
def Zs:zE ["_law_script","_law_board_here","_law_handed","_law_refused","_law_due","_law_turn","_law_found","_law_lists_here","_law_step"] ["_law_script"] (zp zgL):=bh
def zrr (T:Txt mg)(an:J6 K mg "NoLaying" jaa)(a9:J6 K mg "TooGreat" jab)(FN:Tv K jaa (.ref jaa)=some true)(Z:Prog K mg){f:Addr}{fd:XF}(D:zk K mg "law" zgL ["_law_script"] f fd):zY P w K mg base CX0 10 f fd ["_law_script"] (zkc K):=by
 obtain⟨aZ,aY,qy⟩:=Z.law_cell_at;obtain⟨bn,bv,Zk⟩:=Z.law_mixed;obtain⟨b3,bo,YE⟩:=Z.law_mark;obtain⟨bp,bx,a4⟩:=Z.law_drawn;obtain⟨b4,bt,YF⟩:=Z.law_near;obtain⟨aX,aW,qg⟩:=Z.law_cells;obtain⟨be,b0,a2⟩:=Z.law_board;obtain⟨b5,bi,a5⟩:=Z.law_bent;obtain⟨b1,ba,a1⟩:=Z.law_walked;obtain⟨bj,b2,a3⟩:=Z.law_alone;obtain⟨bc,bb,az⟩:=Z.count;obtain⟨b6,bm,JT⟩:=Z.thoughts;have jf:=Qa (P:=P) (w:=w) (base:=base) T qy;have aN:=zfH (P:=P) (w:=w) (base:=base) T a4 qy Zk YE;have aO:=zfI (P:=P) (w:=w) (base:=base) T a2 YF qg;have aQ:=zhw (P:=P) (w:=w) (base:=base) T a5 qg;have aM:=zd5 (P:=P) (w:=w) (base:=base) T Z an a1;have aP:=zfN (P:=P) (w:=w) (base:=base) T a3;have aK:=zg6 (P:=P) (w:=w) (base:=base) T Z az;have a6:=zhn (P:=P) (w:=w) (base:=base) T Z an a9 JT;refine D.F.ok Zs (λvs H Q E h=>?_) (λaS A aC s H vs Q E hr h=>?_)
 .obtain⟨a,ns,rfl,_⟩:=h;rfl
 .obtain⟨a,ns,rfl,hS,nl,q⟩:=h;refine⟨_,(ze (qR 1 Zs.nd (pc0 aQ hr a5 (za (pc0 aO hr a2 (za (pc0 aN hr a4 (za (pvS 0) (@za _ _ _ _ _ zf (@za _ _ _ _ _ zf zd rfl) rfl))) zd)) (za (pc0 jf hr qy (za (pvS 0) (@za _ _ _ _ _ zf zd rfl))) zd)))) (ze (qR 2 Zs.nd (qu (za (pt1 Z0 T.zbn Vx (zG qa (pvS 1) zf (λ_ _=>rfl))) (za (zG qa (pvS 1) zf (λ_ _=>rfl)) zd)))) (ze (qW (qp YH (pc0 aK hr az (za (pvS 1) zd)) zf (qb _)) (@ze _ _ _ _ _ (@qx _ _ 3 _ _ _ _ Zs.nd rfl (VU rfl) zam (by rfl) (.inr rfl)) (zfb (zmr rfl rfl a6 (hr.mono (by decide)) (by rfl) JT.g JT.F.kp JT.b (by rfl) an (za (pvS 2) zd) (λ_=>(@zh _ _ _ (@qx _ _ 3 _ _ _ _ Zs.nd rfl (VU rfl) zam (by rfl) (.inr rfl))))) (zh (zB (zhG (pvS 3) (zlB (yE (Jy hr.units) (pvS 2) (pvS 1) (qb _)))))))) qd) (ze (qR 4 Zs.nd (pc0 aM hr a1 (za (pvS 1) zd))) (ze (qz Xd rfl (prg T.jB zf) (pgq 5 Zs.nd) (ze (qR 6 Zs.nd (pcX a6 hr JT (za (pvS 2) zd))) (ze (qW (PW.pt (zpn (Q2 (yF (pb2 YR T.Yn Ub (pvS 6) (ze3 (v:=.ty "tuple") (by rfl) T.zjy Qr (by rfl))) (λ_=>rfl))) (zpn (qp (jy hr.units) (pvS 6) (pvS 4) (qb _)) (zqb (Q2 (yF (pb2 YR T.Yn Ub (zG qa (pvS 6) zf (λ_ _=>rfl)) (ze3 (v:=.ty "list") (by rfl) T.zbn Vx (by rfl))) (λ_=>rfl))))))) (@zh _ _ _ (@zB _ _ _ _ zam)) qd) (ze (qR 7 Zs.nd (zR (za (zG qa (pvS 6) zf (λ_ _=>rfl)) (za (zG qa (zG qa (pvS 6) zf (λ_ _=>rfl)) zf (λ_ _=>rfl)) (za (zG qa (zG qa (pvS 6) zf (λ_ _=>rfl)) zf (λ_ _=>rfl)) zd))))) (ze (qz Xd rfl (zJ (pt1 Z0 T.zbn Vx (zG qa (pvS 6) zf (λ_ _=>rfl)))) (pgq 8 Zs.nd) (ze (qW (Q2 (yF (pb2 YR T.Yn Ub (pvS 8) (ze3 (v:=.ty "tuple") (by rfl) T.zjy Qr (by rfl))) (λ_=>rfl))) (@zh _ _ _ (@zB _ _ _ _ zam)) qd) (zh (qV (yV W7 Vh Vg zib (pvS 7) (za (pvS 8) zd)))))) (zh (qW (Q2 (yF (pc0 aP hr a3 (za (pvS 7) zd)) (λ_=>rfl))) (@zh _ _ _ (@zB _ _ _ _ zam)) qd))))))) (zh (zB (yE (Jy hr.units) (pvS 2) (pvS 1) (qb _))))))))),?_⟩;(try dsimp only[cxK,cxP,cxW]);refine⟨_,rfl,a,ns,rfl,hS,λd us gs H1 hd a8 hM M s1=>(cE d us (cK gs rfl a8 hM M (λp0 l0 aF H2 hp hl B0 ec s2=>?_)))⟩;have aG:=s1.trans s2;refine⟨_,rfl,a,ns,_,rfl,aG.seq hS,by decide,λc=>(cE p0 l0 ⟨aF,_,(cK c rfl B0 (M.rows ec) (by lia) (λp l rs n H3 B R n0 es eo s3=>?_))⟩)⟩;have s8:(zv rs).length<=8:=by rw[es];exact M.few9 ec
  have aB:(zU rs).length<=16:=by rw[eo];exact M.open16 ec
  have ai:(nbC rs).length<=30:=XY (Xw _ _) (by lia);refine⟨_,rfl,p,_,0,_,rfl,rfl,SqT.of B.tp,rfl,l,_,rfl,.inl (SqL.of B.rw),λl2 ak=>⟨_,rfl,p,_,1,_,rfl,rfl,SqT.of (zc ak _ _ B.tp),rfl,j9,λhb av=>?_⟩⟩;have y4:=zc (o:=.lst (rs.map V.str)) ak;have y5:=zc (o:=.tup [.ref l2,.int n]) av;have Bh:qe (upd (upd H3 l2 (.lst (rs.map V.str))) hb (.tup [.ref l2,.int n])) hb l2 rs n:=⟨zb,y5 _ _ zb⟩;have B5:=B.mono (y4.trans y5);clear y4 y5 B ak av;generalize upd (upd H3 l2 (.lst (rs.map V.str))) hb (.tup [.ref l2,.int n])=H5 at *
  refine⟨_,rfl,p,l,rs,n,rfl,B5,R,zg2 (by lia),n0,λH6 s6=>⟨rfl,_,rfl,?_⟩⟩;by_cases h0:zg4 rs n=0
  .refine j6 (br (congrArg V.int h0)) ?_;refine⟨fun a7 H'=>a7=[some (.ref a),some (.ref p),some (.ref hb),some (.bl true),none,none,none,none,none]/\zo H6 H',?_,?_⟩
   .exact⟨_,rfl,hb,l2,rs,n,rfl,Bh.mono s6,R,n0,ai,by lia,λ_ H7 s7=>(c5 jaa rfl FN (λe he=>⟨rfl,s7.trans (zc he)⟩)),λz=>absurd h0 z⟩
   .rintro a7 H7 ⟨rfl,s7⟩;have aa:=s6.trans s7;refine⟨_,rfl,true,rfl,Q5 ?_⟩;refine⟨_,rfl,_,rfl,_,_,(Bh.mono aa).rdv,(B5.mono aa).rdv,R.cmpB n,?_⟩;rw[bq XT,RU _ (R.cmpB n).l1];exact q _
  .refine jk (bf λe=>h0 (V.int.inj e)) ?_;obtain⟨L,hL⟩:=znt n0 h0;have t0:=hL.trL;have ax:(qD rs).length<=32:=by
    unfold qD;rw[X6,ZB];show _+1<=32;lia
   have ac:(zv rs).length<=20:=by lia
   refine⟨_,rfl,p,l,rs,n,L,rfl,B5.mono s6,R,aB,ac,t0,λt sa fa fc fs sv u w' aw kd H7 k1 k2 k3 k4 k5 k6 s7=>?_⟩;have aa:=s6.trans s7;refine cH rfl (by decide) ⟨by decide,?_⟩;refine qE (lo:=0) (n:=2) (λi σ H'=>∃(w5 w6 w7 w8:Option V),σ=[some (.ref a),some (.ref p),some (.ref hb),none,some (.ref t),w5,w6,w7,w8]/\zo H7 H') ⟨_,_,_,_,rfl,zo.refl _⟩ ?_ ?_
   .refine λi σ H8 hi=>dg λw5 w6 w7 w8=>c8 λz0 ab=>?_;subst z0;have ae:=aa.trans ab;refine⟨_,rfl,hb,l2,rs,n,rfl,Bh.mono ae,R,n0,ai,by lia,λz=>absurd z h0,λ_ t' O ar U Y ag aU aV m k' H9 G e1 e2=>?_⟩;rw[<- znG rs]at G e1 e2;rw[zdG ac ax t0]at G e1;have e2:=zlw ac ax t0 e2;have ek:=zo6 e2.1 k6.1 e2.2 k6.2;subst ek;have sh:=zbH (n:=n) (tgs:=qD rs) ac k';rw[<- e1]at sh;have sb:=zct (rs:=rs) (n:=n) (zH (qD rs)) k';generalize (z9 rs n (zH (qD rs)) k').2.1=cl at *
    generalize (z9 rs n (zH (qD rs)) k').2.2=st at *
    rw[<- k5]at e1;have aD:Rdv K H9 (.ref t') (za8 (aw.map λx=>x.1) cl st):=by
     rw[<- e1];exact .tup (SqT.of G.tp) (.cons (.lst (SqL.of G.h) (zdK G.s)) (.cons G.f.rdv .nil))
    have af:=ab.trans G.sm;have aE:Rdv K H9 (.ref t) (za8 (aw.map λx=>x.1) cl st):=.tup (SqT.of (af _ _ k1)) (.cons (.lst (SqL.of (af _ _ k2)) (zdK (k3.mono af))) (.cons (k4.mono af).rdv .nil));refine⟨_,rfl,.ref t',"tuple","tuple",true,rfl,.tup G.tp,rfl,true,rfl,?_⟩;refine jk rfl ?_;refine⟨_,rfl,_,rfl,_,_,aD,aE,zj9 _ _ _,_,rfl,?_⟩;rw[bw rfl,RU _ (zj9 _ _ _).l1];refine jk rfl ?_;refine⟨_,rfl,t',_,0,_,rfl,rfl,SqT.of G.tp,rfl,.ref O,"list","list",true,rfl,.lst G.h,rfl,true,rfl,?_⟩;refine jk rfl ?_;refine⟨_,rfl,t',_,0,_,rfl,rfl,SqT.of G.tp,rfl,_,rfl,t',_,1,_,rfl,rfl,SqT.of G.tp,rfl,ar,_,0,_,rfl,rfl,SqT.of G.f.tp,rfl,_,rfl,t',_,1,_,rfl,rfl,SqT.of G.tp,rfl,ar,_,1,_,rfl,rfl,SqT.of G.f.tp,rfl,zgE,λla am=>?_⟩;have ao:=zc (o:=.lst [.ref O,.ref U,.ref Y]) am;refine⟨_,rfl,t',_,0,_,rfl,rfl,SqT.of (ao _ _ G.tp),rfl,O,_,rfl,.inl (SqL.of (ao _ _ G.h)),λcp aj=>(c5 cp rfl ⟨_,SqL.of zb⟩ ?_)⟩;have ay:=zc (o:=.lst ag) aj;have aA:cp≠la:=λe=>by
     rw[e,zb]at aj;cases aj
    have al:=zka G.s;have aT:=G.l;have aI:m.length=ag.length:=(Paired.length G.s).symm;refine j7 (K:=K) (a:=cp) (xs:=ag) (λj σ H'=>∃(w5 w8:Option V),σ=[some (.ref a),some (.ref p),some (.ref hb),none,some (.ref t),w5,some (.ref t'),some (.ref la),w8]/\zo H9 H'/\H' cp=some (.lst ag)/\H' la=some (.lst ((O::U::Y::qU (m.take j)).map V.ref))) ⟨_,_,rfl,ao.trans ay,zb,ay _ _ zb⟩ (λj σ H' _ ⟨_,_,_,_,hc,_⟩=>SqL.of hc) ?_ ?_
    .refine λj x σ aq hx=>dj λw5 w8 z0 J ah I=>?_;subst z0;obtain⟨⟨s,as⟩,hs,r,tl,d1,d2,tv,w1,w2,rfl,ex,h1,_⟩:=yK G.s hx;have ex:as=[tl,d1,d2]:=ex;have au:=J _ _ h1;refine⟨_,rfl,.ref r,"tuple","tuple",true,rfl,.tup au,rfl,true,rfl,jk rfl ?_⟩;have aJ:((O::U::Y::qU (m.take j)).map V.ref).length<=100:=by
      rw[ZB];have:(qU (m.take j)).length<=(qU m).length:=by
       have z:qU m=qU (m.take j)++qU (m.drop j):=by
        show m.flatMap _=(m.take j).flatMap _++(m.drop j).flatMap _;rw[<- Wd,WU]
       rw[z,X6];exact Vl _ _
      show (qU (m.take j)).length+1+1+1<=100;lia
     refine⟨_,rfl,.inl ⟨rfl,_,SqL.of I⟩,_,rfl,la,r,_,_,rfl,rfl,I,au,XY (Sk aJ 3) (by decide),?_⟩;refine⟨_,_,rfl,λb o e=>?_,?_,?_⟩
     .rw[zg (zj e am)];exact J _ _ e
     .rw[zg aA];exact ah
     .rw[zb,take_snoc hs];have z:qU (m.take j++[(s,as)])=qU (m.take j)++[tl,d1,d2]:=by
       show (m.take j++[(s,as)]).flatMap _=_;rw[Wd];show _++(as++[])=_;rw[Xx,ex]
      rw[z];simp
    refine λσ aq=>dj λw5 w8 z0 J ah I=>?_;subst z0;rw[<- aI,XE]at I;have aH:∀x∈m,x.1.1.length<=2/\x.1.2.1.length<=20/\x.1.2.2.length<=20:=λx hx=>sh x.1 (XN.mpr ⟨x,hx,rfl⟩);have there:∀b∈O::U::Y::qU m,∃xs,H9 b=some (.lst xs)/\xs.length<=100:=λb hb'=>by
     rcases XQ.mp hb' with rfl | hb'
     .exact⟨_,G.h,by lia⟩
     .rcases XQ.mp hb' with rfl | hb'
      .exact⟨_,G.f.h1,by rw[G.f.c1.length];have:=sb.1.length_le;lia⟩
      .rcases XQ.mp hb' with rfl | hb'
       .exact⟨_,G.f.h2,by rw[G.f.c2.length];have:=sb.2.length_le;lia⟩
       .exact zeX G.s aH hb'
    obtain⟨ms,hP,mb⟩:=zkb (H:=aq) (O::U::Y::qU m) λb hb'=>by
     obtain⟨xs,z1,z2⟩:=there b hb';exact⟨xs,J _ _ z1,z2⟩
    refine⟨_,rfl,la,O::U::Y::qU m,ms,rfl,I,G.nd,λz=>?_,?_,hP,mb,λaR fr=>⟨true,rfl,jk rfl ⟨_,_,_,_,rfl,λb o e=>?_⟩⟩⟩
    .obtain⟨xs,z1,_⟩:=there la z;rw[am]at z1;cases z1
    .show (qU m).length+1+1+1<=100;lia
    .have e8:=ab _ _ e;refine fr b o (λz=>?_) (J _ _ (G.sm _ _ e8));have:=G.fr b z;rw[e8]at this;cases this
   .rintro σ H8 ⟨w5,w6,w7,w8,rfl,ab⟩;have ae:=aa.trans ab;refine⟨_,rfl,_,rfl,_,_,(Bh.mono ae).rdv,(B5.mono ae).rdv,R.cmpB n,?_⟩;rw[bq XT,RU _ (R.cmpB n).l1];exact q _
def all_mk {l:PH}{w:WY}{K:XW}{h:Heap}{mg:Str->Option X7}{fa:Addr}{I:Tok}{J:Tok}{L:Tok}{M:Tok}{O:Tok}{jaa:Addr}{jab:Addr}(X:K.In h)(G:h.Ns XD mg)(m:mg "law"=some (.ref fa))
  (ab:HasDef K "closed" ZI)
  (xZ:HasDef K "open_cells" qH)
  (ac:HasDef K "around" jG)
  (JW:HasDef K "number_at" ju)
  (ZQ:HasDef K "cells_of" qF)
  (Ql:HasDef K "sign_at" qG)
  (ai:HasDef K "parts" zcn)
  (ae:HasDef K "joined" Y8)
  (ar:HasDef K "far" zjw)
  (x8:HasDef K "numbers_of" jX)
  (x9:HasDef K "bare_wrong" Jh)
  (yj:HasDef K "closed_around" qJ)
  (yx:HasDef K "part_layings" jQ)
  (ZR:HasDef K "needs_at" yZ)
  (Qm:HasDef K "may_fit" Jt)
  (xq:HasDef K "part_counts" xE)
  (Qn:HasDef K "counted" ZJ)
  (Qo:HasDef K "choices" QA)
  (af:HasDef K "poured" zaM)
  (xr:HasDef K "near_counts" xF)
  (aj:HasDef K "count" zco)
  (Ja:HasDef K "all_poured" Ji)
  (ak:HasDef K "dealt" zcp)
  (Qp:HasDef K "follows" QB)
  (ZS:HasDef K "asked_by" Yi)
  (ZT:HasDef K "known_of" Yj)
  (xu:HasDef K "still_asked" xG)
  (ag:HasDef K "gained" zaN)
  (Qq:HasDef K "settled" ZK)
  (ZU:HasDef K "thoughts" Yk)
  (JX:HasDef K "all_steps" J9)
  (xw:HasDef K "place_lists" xH)
  (Jb:HasDef K "first_step" Jj)
  (xx:HasDef K "_law_cell_at" yc)
  (JY:HasDef K "_law_mixed" xN)
  (ZV:HasDef K "_law_mark" JI)
  (JZ:HasDef K "_law_drawn" Za)
  (J0:HasDef K "_law_cells" jv)
  (ZW:HasDef K "_law_near" JJ)
  (J1:HasDef K "_law_board" Zb)
  (ZX:HasDef K "_law_bent" Yl)
  (Jc:HasDef K "_law_things" yO)
  (J2:HasDef K "_law_lists" Zc)
  (ZY:HasDef K "_law_next" Ym)
  (Jd:HasDef K "_law_walked" Jk)
  (J3:HasDef K "_law_alone" Zd)
  (as:HasDef K "law" zgL)
  (au:Xs K XD "abs"=some none)
  (av:Xs K XD "any"=some none)
  (ao:Xs K XD "dict"=some none)
  (J4:Xs K XD "enumerate"=some none)
  (aw:Xs K XD "int"=some none)
  (Je:Xs K XD "isinstance"=some none)
  (ax:Xs K XD "len"=some none)
  (aq:Xs K XD "list"=some none)
  (ay:Xs K XD "max"=some none)
  (az:Xs K XD "min"=some none)
  (al:Xs K XD "range"=some none)
  (a1:Xs K XD "set"=some none)
  (ah:Xs K XD "sorted"=some none)
  (a2:Xs K XD "str"=some none)
  (a3:Xs K XD "sum"=some none)
  (am:Xs K XD "tuple"=some none)
  (a4:Xs K XD "ALL"=some (some (.str "all" I)))
  (xy:Xs K XD "CLOSED_SIGN"=some (some (.str "?" J)))
  (yy:Xs K XD "MOST_OF_PART"=some (some (.int 14 L)))
  (xA:Xs K XD "MOST_THINGS"=some (some (.int 30 M)))
  (yC:Xs K XD "NO_CELL_SIGN"=some (some (.str "#" O)))
  (B:Xs K XD "NoLaying"=some (some (.ref jaa)))
  (U:Ua K jaa zfQ "ValueError.__new__"=true)
  (E:Xs K XD "TooGreat"=some (some (.ref jab)))
  (Y:Ua K jab zfQ "ValueError.__new__"=true)
  (aa:Tv K jaa (.ref jaa)=some true) :
  ∃fd:XF,(∀(s:X0) (v:X7),Ou s fd ⟨[v],[]⟩ [("_law_script",v)])/\∀base:Heap,K.In base->base.Ns XD mg->zY l.prog w K mg base CX0 10 fa fd ["_law_script"] (zkc K):=by
 revert as;refine di λf oc od an sl kV dc pm=>dj λcd ct a l0 c k=>?_;have e:=m.symm.trans (VC X G a);cases e;have T:Txt mg:=⟨WF X G au,WF X G av,WF X G ao,WF X G J4,WF X G aw,WF X G Je,WF X G ax,WF X G aq,WF X G ay,WF X G az,WF X G al,WF X G a1,WF X G ah,WF X G a2,WF X G a3,WF X G am,⟨_,VC X G a4⟩,⟨_,VC X G xy⟩,⟨_,VC X G yy⟩,⟨_,VC X G xA⟩,⟨_,VC X G yC⟩⟩;have Z:Prog K mg:=⟨ab.at X G,xZ.at X G,ac.at X G,JW.at X G,ZQ.at X G,Ql.at X G,ai.at X G,ae.at X G,ar.at X G,x8.at X G,x9.at X G,yj.at X G,yx.at X G,ZR.at X G,Qm.at X G,xq.at X G,Qn.at X G,Qo.at X G,af.at X G,xr.at X G,aj.at X G,Ja.at X G,ak.at X G,Qp.at X G,ZS.at X G,ZT.at X G,xu.at X G,ag.at X G,Qq.at X G,ZU.at X G,JX.at X G,xw.at X G,Jb.at X G,xx.at X G,JY.at X G,ZV.at X G,JZ.at X G,J0.at X G,ZW.at X G,J1.at X G,ZX.at X G,Jc.at X G,J2.at X G,ZY.at X G,Jd.at X G,J3.at X G⟩;have F:=zlM (st:=zgL) l0 c k;have D:zk K mg "law" zgL ["_law_script"] _ _:=⟨F,VC X G a,F.binds (ps:=["_law_script"]) (λ_ _ _ _ _ _=>us1 λ_=>rfl)⟩;have r:J6 K mg "NoLaying" jaa:=⟨VC X G B,U⟩;have A:J6 K mg "TooGreat" jab:=⟨VC X G E,Y⟩;have FN:Tv K jaa (.ref jaa)=some true:=aa;exact⟨_,λs v=>.of_eq rfl,λbase _ _=>zrr T r A FN Z D⟩
def walk {l:PH}{q:Xl}{loose:AD}{XP:(Str->Option X7)->Heap->Prop}{YP:WY->Heap->Prop}{d:DefRec}{K:Params->XW}(hn:l.most=some 63)(m:d.params.defaults=[])
  (B:∀(w:WY) (h:Heap),YP w h->(K w.params).In h)
  (F:∀(w:WY) (mg:Str->Option X7) (r:Addr) (h:Heap),(K w.params).In h->h.Ns XD mg->mg d.name=some (.ref r) ->
   ∃fd:XF,(∀(s:X0) (u:X7),Ou s fd ⟨[u],[]⟩ [("_law_script",u)])/\∀base:Heap,(K w.params).In base->base.Ns XD mg->zY l.prog w (K w.params) mg base CX0 10 r fd ["_law_script"] (zkc (K w.params))) :
  OL q loose XP YP l.row.toRowW d [] (λf vs=>PySem.call f vs) :=
 L2.zi4 (n:=63) (k:=10) (x:="_law_script") (CX:=λ_=>CX0) (sp:=λw=>zkc (K w.params)) hn (by decide) m ⟨rfl,by decide,by decide⟩ B F (λ_ _ a D hl _ A=>⟨a,D,rfl,A,hl,λ_=>rfl⟩) λ_ _ _ _ _ z=>z
end K53
open PySem PySem.W PyProof.Rows
set_option maxRecDepth 100000 in
set_option maxHeartbeats 0 in
theorem PySem.Challenge.cw_stonelay_k53_thoughts_walked_holds : PySem.Challenge.rw_stonelay_k53_thoughts_walked.Holds := by
 refine zcu.early λ{q XP YP d K} hdf hY hn F=>?_;refine K53.walk (l:=PySem.Challenge.rw_stonelay_k53_thoughts_walked) rfl hdf hY λw mg fa h KX G hmg=>?_;rw[hn]at hmg;refine L2.GS.via λGG hGG=>?_;obtain⟨zag,xZ,zah,JW,ZQ,Ql,zca,zai,ziK,x8,x9,yj,yx,ZR,Qm,xq,Qn,Qo,zaj,xr,zcb,Ja,zcc,Qp,ZS,ZT,xu,zak,Qq,ZU,JX,xw,Jb,xx,JY,ZV,JZ,J0,ZW,J1,ZX,Jc,J2,ZY,Jd,J3,ziL,ziM,ziN,zeY,J4,ziO,Je,ziP,zeZ,ziQ,ziR,zcd,ziS,zal,ziT,ziU,zce,⟨_,ziV⟩,⟨_,xy⟩,⟨_,yy⟩,⟨_,xA⟩,⟨_,yC⟩,⟨_,jae,jal,y_NoLaying_0⟩,⟨_,jaf,jam⟩⟩:=F w;refine hGG ?_;exact K53.all_mk KX G hmg zag xZ zah JW ZQ Ql zca zai ziK x8 x9 yj yx ZR Qm xq Qn Qo zaj xr zcb Ja zcc Qp ZS ZT xu zak Qq ZU JX xw Jb xx JY ZV JZ J0 ZW J1 ZX Jc J2 ZY Jd J3 ziL ziM ziN zeY J4 ziO Je ziP zeZ ziQ ziR zcd ziS zal ziT ziU zce ziV xy yy xA yC jae jal jaf jam y_NoLaying_0