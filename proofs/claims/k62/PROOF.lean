import PyProof.Rows.All
import KE.IntBitsLaws
import KE.KDictOf
import KE.KDictSum
import KE.KIntText
import KE.KSortTup
import KE.LcSums
import KE.RegKIsAll
import KE.KNestM
import KE.KPairComp
import Lean
import PySem.Challenge.RW_stonelay_k62_runs_walked
open PySem renaming wpAny_bind->ZB,Value->X9,Shared->X7,wpAny_pure->X0,mainGlobals->XR,FuncData->XC,wpAny->Xv,model->Xr,sizeLine->Xq,Program->Xm,boot_len->Xk,Paired->W2,World->W1,Around->WN,mem_of_lookup->WH,starEach->WG,SetTable->Wu,wpAny_newObj_type->Wl,wpAny_mono->Wj,PyData->We,wpAny_loadPart'->V7,compareOp->V2,wpAny_holding->VS,tupleKind->VM,wpAny_call_entry->VH,sysModules->VE,codeAny_builtin->Vy,cLine->Vt,wpAny_dictEntries->Vr,wpAny_passesOwn->Vh,wpAny_typeNameOfWhole_valiter->U1,wpAny_truthy_bool->U0,foldedSetIterable->UZ,Spec->UX,rawInt->US,wpAny_rule->UM,wpAny_Call_Name_kw->UJ,Builtin->UG,builtinLookup_eq_fast->UF,Scope->UC,plainId_quiet->Ut,wpAny_typeNameOf_valiter->Uq,storedH->Um,binaryOp->Uk,treeTable->Ui,wpAny_callSpecial?_slot->Uc,relabel->Ua,wpAny_execs_nil->TZ,backTo->TR,firstArgMember->Tz,codeAny->Tu,codeAny_mono->Ts,wpAny_execs_cons->Tp,wpAny_forIn_list->Tn,NameKind->Tc,wpAny_attempt->Ta,wpAny_comprehension_free->S8,wpAny_specialOf->SZ,typeLookup_type->SY,wpAny_dictEpoch->SX,pyNext->SW,entryOfKey->SV,DictEntry->SL,sizeLine_eq->SK,sliceBounds->SJ,callerA->SF,bootBuiltins->SD,wpAny_setField->Sx,wpAny_pyIter_list->Sv,wpAny_pyIter_enum->Su,wpAny_setState_of->Sr,ofAClassStatement->Sq,wpAny_notOrdered_dict->Sh,wpAny_isOneOf_valiter->Sd,cellsFrom->R7,assignEach->R6,call_meets->R5,wpAny_isInstance->R3,behindInMarks->R0,attributeBase->RZ,wpAny_standAt->RY,GenState->RR,letOwnedTupleGo->RL,wpAny_setEntries_of->RG,wpAny_typeOf->RC,builtinsNs->Rw,wpAny_fieldsOf->Rt,tupleKind_room_in1->Rq,wpAny_newFunctionEnv_cells->Rl,unsupported->QR,wpAny_pyIter_slot->P8,setSearchFrom->P1,swapsWith->PM,pickOrder->PL,wpAny_askSetting->PC,classAt->Ps,typeLookup->Pq,seqIndex_neg->Pp,wpAny_getItem_list_neg->Pi,wpAny_Call_method_late->Ph,codeAny_compStart_list->Pg,codeAny_call_function->O3,again->OV,compEnvC->OU,seqIndex_of->OT,subscripted->OR,wpAny_of_eq->OQ,storedH_new->OP,hashByValue->OO,intText?->OJ,isSubtype_type->OI,wpAny_newFunctionEnv->OF,codeAny_call_builtin->OD,getItem->Ot,BindsTo->Os,Keyword->Oq,valueAt->Op,atKey->Oe,comprehension->Oc,nums_intItems->Ob,wpAny_handled->N9,dictSetHashed->N8,wpAny_newList->N5,DefRec->N3,wpAny_call->N1,closureFor->N0,Model->NX,spliced->NW,bindArgs->NU,ReadsAll->NT,Params->NM,pyIter->NL,Result->NK,Arguments->NJ,keywordEach->NH,wpAny_throw->NG,bindL->NE,bindC->ND,IntMulOk->NA,entryFor->Nz,entry_at->Ny,numAt_eq->Nx
open List renaming length_map->Y1,mem_of_getElem?->X8,getElem?_eq_getElem->X2,getElem?_eq_some_iff->XZ,mem_cons_of_mem->XY,mem_cons_self->XX,length_append->XU,mem_filter->XS,length_take->XQ,take_length->XO,mem_map->XJ,take_add_one->XI,mem_cons->XH,mem_append->XG,size_toArray->Xy,length_cons->Xx,getElem?_map->Xw,map_cons->Xo,map_append->Xj,length_filter_le->Xi,filter_append->Xg,map_congr_left->Xf,mem_append_right->Xc,filter_cons->Xb,append_nil->Xa,Nodup->W9,append_assoc->WW,mem_append_left->WV,take_append_drop->WU,all_eq_true->WT,replicate->WQ,getD_eq_getElem?_getD->WP,drop_eq_getElem_cons->WL,any_eq_true->WF,map_map->WE,nodup_append->WD,take_of_length_le->WC,flatten_cons->WA,mem_flatten->Wt,flatten_append->Wp,filter_eq_nil_iff->Wo,mem_singleton->Wh,filter_sublist->Wg,nodup_cons->Wf,length_range->Wd,range->Wc,foldl_cons->V6,countP_cons->V5,pairwise_map->VP,sublist_flatten_of_mem->VN,mem_range->VL,mem_of_mem_take->VJ,getElem?_append_left->VG,getElem?_eq_none_iff->VF,replicate_succ->VD,not_mem_nil->Vv,filter_congr->Vp,getElem?_append_right->Vm,perm_ext_iff_of_nodup->Vk,countP_eq_zero->Vi,pairwise_iff_getElem->Vg,length_drop->Vf,lookup_cons->Vd,mem_flatMap->Vc,length_mapIdx->Vb,length_eq_zero_iff->UY,filterMap_cons->UU,nodup_nil->UL,isEmpty_eq_false_iff->UE,length_nil->UD,foldl_append->Uy,countP_congr->Uw,sublist_append_left->Uo,take_succ_cons->Ul,getElem?_drop->T8,filter_filter->T6,length_pos_of_mem->T2,find?_cons->TY,perm_append_comm->TQ,take_sublist->TM,ext_getElem?->TK,map->TC,pairwise_append->Tw,any_map->Tq,getElem_mem->Tl,getElem?_zip_eq_some->Ti,exists_mem_of_ne_nil->Th,getElem?_range->Tg,getElem_of_mem->Tf,reverse_append->Te,ne_nil_of_mem->SN,drop_eq_nil_of_le->Sk,getElem?_eq_none->Sc,map_take->RW,lookup->RQ,map_id->RP,of_mem_zip->RK,length_pos_iff->RD,mem_filterMap->Rr,pairwise_cons->Ro,extract_eq_take_drop->Rf,sublist_append_right->Rb,any_eq_false->QP,reverse_cons->Qb,drop_sublist->P7,reverse_perm->P6,getElem?_take_of_lt->PZ,isEmpty_iff->PJ,cons_append->PF,getElem?_cons_succ->Py,getElem?_set_self->Pk,filter_map->O5,length_singleton->O2,mem_iff_getElem?->O0,pairwise_reverse->OX,countP->ON,filter->OM,drop_drop->OH,getElem?_set_ne->OG,mem_of_mem_drop->OB,reverse_reverse->Oz,getElem?_mapIdx->Ox,getElem?_of_mem->Ow,map_eq_nil_iff->Om,countP_pos_iff->Ol,toList_toArray->Oh,any_cons->Oa,map_drop->N6,map_nil->NR
open Array renaming length_toList->X6,getElem?_toList->Xz,toList_append->W3,getElem?_eq_none->WS,getElem?_eq_getElem->V1,getElem?_eq_some_iff->Vl,size_map->U3,toList_reverse->U2,toList_map->UN,size_reverse->UI,perm_iff_toList_perm->UH,getElem_toList->Uu,size_extract->T7,getElem?_setIfInBounds->TV,size_setIfInBounds->S7,toList_push->So,size_append->Sm,getElem?_extract->Sj,mem_toList_iff->RO,forIn_toList->Rp,toList_setIfInBounds->Ri,getElem?_replicate->PU,getElem?_reverse->Pa,toList_extract->OA,toList_filter->On,toList_modify->Oi
open Nat renaming le_trans->X5,le_refl->XV,lt_of_le_of_lt->XM,ne_of_lt->Xl,lt_of_lt_of_le->Xd,zero_le->W4,lt_succ_of_lt->Ww,le_succ->V9,pow_le_pow_right->V3,zero_add->VR,lt_irrefl->VA,succ_ne_self->Ve,ne_of_gt->Va,pow_succ->UB,le_succ_of_le->Uz,le_add_right->Uf,lt_or_ge->T9,not_lt_zero->TW,le_of_lt->Tt,lt_trans->Tr,add_sub_cancel->SR,lt_of_lt_of_eq->SO,sub_self->SA,succ_pos->Sz,lt_succ_self->R4,mod_lt->Rv,lt_trichotomy->P9,le_of_not_lt->PH,add_sub_cancel_left->Pw,mul_comm->Po,add_zero->Pm,one_le_iff_ne_zero->O9,add_le_add_right->OE,pow_lt_pow_right->Oy,sub_zero->NQ,le_of_eq->NP
open PySem.Heap renaming get?_push_of_some->X4,lt_size->XD,get?_push_size->Xs,get?_update_self->Wr,SameBut->V8,size_push->U5,get?_none_of_le->Uv,get?_update_other->T4,get?_update_ne->RE
open PySem.W renaming Frag->XW,nsIn->XE,mg_none_of->WI,mg_of->Wb,fnOf->VY,kia_one->VI,hashAt->Vs,codeIn->U7,keepIn->U6,cellsFrom_some->T5,openEnds->TH,callWith_K->SS,methodObj->QQ,instObj->O7,OpenLaw->O6,lookIn->OL,Ground->NN,GoodWG->NB
open Bool renaming false_ne_true->XT,eq_false_iff->W6,and_eq_true_iff->WY,eq_iff_iff->WX,false_eq_true->WJ,not_eq_true'->Ws,and_eq_true->Vu,and_true->S9,false_and->Sy,and_comm->RT,true_and->RS,and_assoc->Rs,and_false->OK
open Or renaming inl->XF,inr->UR
open PySem.SetTable renaming bits->XB,below->Xu,insertAt->Xe,turns->WZ,runEnd->Vx,leap->U8,grown->Uh,sizeAbove->SQ,Probe->Ru,advance->PD,fill->N7
open PyProof.Rows renaming wpS_bind->XA,wpS_pure->Xp,arrOf->Xn,Keyed->W7,SortSt->WM,pendingOf->WK,wpS_forRange->VX,callWith_type1->VO,boot_list->Vo,boot_isinstance->UV,wpS_mono->Uj,pairsOf_toList->Ug,seqObj->Ub,boot_dict->T1,boot_min->TN,SortKind->TF,boot_sorted->S2,wpS_modify->SU,failedOf->SE,boot_int->Sb,boot_max->Sa,boot_any->R9,boot_str->R8,wpS_get->R1,reverseSlice'->RU,mem_zip_self->RA,envOfC->Rx,listItems_at->Rc,AllBare->Ra,IntsAre->Q1,wpS_lift->PN,boot_tuple->Pu,subscriptTail_builtinR->Pj,boot_abs->OW,pairsOf->Oo,getElem?_mirror_all->Oj,subscriptTail->Od,IsTup->NF,signs->NC
open PySem.PassesOwn renaming never->Xh
open PySem.PyData renaming eqv->W5,canLayAll0->Wx,depthAll->Wv,canLay0->Wq,str->VZ,bool->SH
open PySem.F renaming plainAttrs_list->WR,slot_list_append->Wn,type_list_append->Wm,slot_dict_valueiterator_next->VB,args_dict_valueiterator_next_1->Tv,entry_dict_valueiterator_next->Tj,slot_dict_values->S6,slot_list_extend->S5,type_list_extend->S4,plainAttrs_dict->SG,slot_dict_get->Si,slot_dict_values_iter->RM,kt_typeCall_dict_1->Rj,args_dict_init_2->PX,type_dict_values->PP,args_dict_get_3->PB,entry_dict_init->Pz,plain_list_iadd->Px,entry_dict_get->Pe,kt_called_dict->Pc,slot_set_iter->OZ,plain_set_new->OY
open PySem.Value renaming ref->WO,none->Vw,int->Vj,type->Pr,bool->N2,str->NI
open PySem.Heap.SameBut renaming update->WB
open False renaming elim->Wi
open Option renaming isSome_iff_exists->Wa,map_some->TX,getD_some->To,map_eq_some_iff->Pf
open PySem.Around renaming under_plainId->V4
open Int renaming gcd->V0,le_of_lt->VW,emod_lt_of_pos->VV,emod_nonneg->VT,toNat_natCast->VQ,toNat_of_nonneg->VC,le_trans->Vz,le_refl->UP,zero_add->UA,gcd_dvd_right->TJ,gcd_dvd_left->Tk,mul_ediv_cancel_left->S1,natCast_nonneg->SM,neg_le_neg->Sw,add_zero->Rz,natAbs_natCast->Rn,mul_zero->Pl,le_ediv_iff_mul_le->O8,natCast_add->O4,ediv_self->N4,not_lt->NY,mul_comm->NO
open ForInStep renaming yield->VU
open PySem.SetTable.below renaming go->Vq
open List.Sublist renaming length_le->Vn
open PySem.Obj renaming mapSeq->UW,mapFields->Us,data_mapDictKeys->Tx,isFreed_of_dict->RI
open PyProof.Rows.F renaming plain_set_update_loop->UT,entry_set_update_loop->Td
open Ne renaming symm->UQ
open PySem.NameKind renaming cell->UO
open PySem.Calls renaming spliced_cons->UK,callWith_builtin->T3,evalArgs_plain->RN,Name_function_global->Rm,call_function_entry->Re,spliced_nil->Qr
open PySem.Txt renaming replace->Ux
open PySem.Builtin.List renaming listTooLong->Ur,listExtendWith->Ry,listSameRef->PQ
open PySem.Builtin.Str renaming occurrences->Ue
open PySem.Builtin.Dict renaming updateFrom->Ud,showsAll->Sf,entriesForEmpty->RJ,addKeywords->PY,selfAndRest->PV,pairItems->Pd,mergeDict->Pb,quietEq->OC,noArgs->Of
open PySem.Str renaming join->T0,ofString->Pn
open PySem.Builtin.Dict_items renaming ownsTuple->TU
open PySem.SetTable.probe renaming go->TL
open True renaming intro->TB
open PySem.ExcName renaming means->Tb
open List.Perm renaming append_left->Se
open PySem.Shared renaming TypeIs->RX
open Classical renaming byContradiction->Rg
open Prod.mk renaming injEq->P0
open PySem.W.WData renaming layableAll->PK
open Sum renaming inl->Ov,inr->Ou
open PySem.BindsTo renaming of_defaults->Og
open PUnit renaming unit->NZ
open PySem.W.Hook renaming obs->NV
open PySem.W.RowW renaming records->NS
set_option Elab.async false
set_option linter.all false
set_option maxRecDepth 100000
theorem bq {c:Prop}{h:Decidable c}(n:¬c){α:Sort _}{t e:α}:ite c t e=e:=if_neg n
theorem bw {c:Prop}{h:Decidable c}(n:c){α:Sort _}{t e:α}:ite c t e=t:=if_pos n
theorem br {p:Prop}[Decidable p](h:p):decide p=true:=decide_eq_true h
theorem bu {p:Prop}[Decidable p]:(decide p=true)=p:=decide_eq_true_eq
theorem bf {p:Prop}[Decidable p](h:¬p):decide p=false:=decide_eq_false h
theorem bg {p:Prop}[Decidable p](h:decide p=true):p:=of_decide_eq_true h
namespace ZA
open PySem PySem.W
section
open PySem.Calls PyProof.Rows
abbrev zcG (n0:Nat)(q:Xm)(loose:List Str)(XP:(Str->Option X9)->Heap->Prop)(YP:W1->Heap->Prop)(r:RowW)(d:N3)(kwd:List (Str×Expr))(run:X9->List X9->Sem X9):Prop :=
 ∀(w:W1) (s₀ s₁:X7) (mg mb:Str->Option X9),NN q loose r.records XP w s₀ mg mb s₁.heap->YP w s₁.heap->n0<=s₁.toks->∀(a:Addr) (o:Obj) (pm cd doc dV kV:X9),s₁.heap.get? a=some o ->
  o.data=.func { docDef d.name d.params d.body d.scope pm cd doc with defaults:=dV,kwdefaults:=kV }->s₁.heap.CodeRec cd d.name->Dflts mg s₁.heap d.params kwd dV kV->mg d.name=some (.ref a)->s₁.gens=#[] ->
  ∀(args:List WData) (vals:List X9) (as:List Addr),r.claim.pre args=true->PK args=true->ReadsAllW r.records (Ps s₀.heap) s₁.heap vals args as->WellAll w.params s₁.heap vals args->(∀a∈as,(a==VE)=false) ->
   Xv (Xr r.prog w) SF (run (.ref a) vals) (λv s'=>NB r.claim (Ps s₀.heap) (Tb s₀.heap) args s₁ (.ok (.ret v)) s')
    (λe s'=>NB r.claim (Ps s₀.heap) (Tb s₀.heap) args s₁ (.error e) s') s₁
theorem zjY {n0:Nat}{r:RowW}{run:X9->List X9->Sem X9}{tree:List X9->Sem Fin}{q:Xm}{loose defs kps:List Str}{writes:Bool}{Xt:X7->Bool}{XP:(Str->Option X9)->Heap->Prop}{α:Type}{Yf:X7->α}{Ya:W1->α}{YP:W1->Heap->Prop}{N:Nat}
  (left:LeftO r.prog q loose Xt (λs=>(Yf s,decide (n0<=s.toks))) (λw=>(Ya w,true)) N) (hY:∀w s,Yf s=Ya w->YP w s.heap) (hYk:∀w h h',YP w h->(∀b o,h.get? b=some o->h'.get? b=some o)->YP w h') (hX:∀s,Xt s=true->XP (s.heap.nsMap XR) s.heap) (hXk:∀mg h h',XP mg h->(∀b o,h.get? b=some o->h'.get? b=some o)->XP mg h')
  (hRf:∀s,Xt s=true->RecFacts r.records s.heap) (hwr:(!writes || r.records.isEmpty)=true) (ok:(chainsOk q&&opensWell r.prog&&(frees r&&r.within.isEmpty))=true) (hb:r.prog.bare) (hw:r.promised)
  (ht:∀vs (w:W1) (s:X7) mg f (Q:Fin->X7->Prop) (E:X9->X7->Prop),s.heap.Ns XR mg->mg r.name=some f->Xv (Xr r.prog w) SF (run f vs) (λv s'=>Q (.done (.ret v)) s') E s->Xv (Xr r.prog w) SF (tree vs) Q E s)
  (pin:∀w s,s.heap.isNs XR=true->NN q loose [] XP w s (s.heap.nsMap XR) (s.heap.nsMap Rw) s.heap->∀n∈defs,isTheDefsW r.prog s.heap n)
  (call:∀(w:W1) (s₀ s₁:X7) (mg mb:Str->Option X9),NN q loose r.records XP w s₀ mg mb s₁.heap->YP w s₁.heap->n0<=s₁.toks->∀(args:List WData) (vs:List X9) (as:List Addr),
   r.claim.pre args=true->PK args=true->Laid r.records w s₀ s₁ args vs as->VE<s₀.heap.objs.size->∃f,mg r.name=some f /\
    Xv (Xr r.prog w) SF (run f vs) (λv s'=>NB r.claim (Ps s₀.heap) (Tb s₀.heap) args s₁ (.ok (.ret v)) s')
     (λe s'=>NB r.claim (Ps s₀.heap) (Tb s₀.heap) args s₁ (.error e) s') s₁):r.claim.HoldsOpenBy (λvs=>⟨tree vs,.builtin "claim.caller" {},default,[]⟩) defs kps writes:=by
 obtain⟨ok,k5⟩:=WY.mp ok;obtain⟨hch,o1⟩:=WY.mp ok;obtain⟨k5,k6⟩:=WY.mp k5;obtain⟨hsame,hu,ha,hap,hm⟩:=frees_parts k5;refine⟨⟨hb,o1,by show r.makers.map _=[];rw[hm];rfl⟩,hw.witness,λw=>⟨(left.behind hX hch w).1,λs' hs'=>?_⟩⟩;obtain⟨s₀,hf,hg0,s,hT,hz,hgens,hg,G00,y⟩:=(left.behind (XP:=λmg h=>XP mg h/\RecFacts r.records h) (λs hs=>⟨hX s hs,hRf s hs⟩) hch w).2 s' hs';have G0:NN q loose [] XP w s (s.heap.nsMap XR) (s.heap.nsMap Rw) s.heap:=⟨G00.T,G00.B,G00.D,G00.TE,G00.TD,G00.W,G00.X.1,G00.cls,G00.has,G00.apart,G00.once,G00.K⟩;have RF:=G00.X.2;have hT':=hT;refine⟨s₀,hf,hg0,s,hT,pin w s hg G0,RF.1,RF.2.1,?_⟩;have hgens:s.gens=#[]:=Array.eq_empty_of_size_eq_zero (beq_iff_eq.mp hgens);have G:NN q loose r.records XP w s _ _ s.heap:=RF.ground G0;refine ClaimW.callFrom_of_specG (c:=r.claim) hz hgens λargs hpre hlay ord hord=>?_;obtain⟨⟨vs,s₁⟩,hlaid⟩:=Wa.mp (layAllW_isSome (P:=w.params) (ord:=ord) G.has args r.args s (pre_splitW hpre).1);have keeps:=layAllW_keeps _ _ _ hlaid;have hal:=layAllW_rest _ _ _ hlaid;obtain⟨as,hrd,hin,hold⟩:=reads_layAllW hord _ _ _ hlaid hlay s₁.heap (λ_ _ e=>e);have L:Laid r.records w s s₁ args vs as:=⟨⟨ord,hord,hlaid⟩,hrd,hin,hold,keeps,hal.1.trans hgens,hal.2.2.1⟩;have G₁:=G.keeps hXk keeps;obtain⟨f,hf,h⟩:=call w s s₁ _ _ G₁ (hYk _ _ _ (hY w s (congrArg Prod.fst y)) keeps) (X5 (bg (congrArg Prod.snd y)) (layAllW_grows _ _ _ hlaid).toks) args vs as hpre hlay L G.low;have hi:=ident_freeW hu ha hap;have hwi:r.claim.within=[]:=PJ.mp k6;exact⟨vs,s₁,hlaid,ht vs w s₁ _ f _ _ G₁.T.g hf (Wj h (λv s' g=>⟨_,rfl,have z:=g.laid (c:=r.claim) hsame hwi hi L;⟨z.1,z.2.1,z.2.2,λq=>⟨namesKept_of hT' hg kps keeps g.2.1.old,noTable hwr q⟩⟩⟩) λe s' g=>have z:=g.laid (c:=r.claim) hsame hwi hi L;⟨z.1,z.2.1,z.2.2,λq=>⟨namesKept_of hT' hg kps keeps g.2.1.old,noTable hwr q⟩⟩)⟩
theorem zf3 {n0:Nat}{r:OpenRow}{q:Xm}{loose:List Str}{Xt:X7->Bool}{XP:(Str->Option X9)->Heap->Prop}{α:Type}{Yf:X7->α}{Ya:W1->α}{YP:W1->Heap->Prop}{d:N3}{kwd:List (Str×Expr)}{N:Nat}
  (left:LeftO r.prog q loose Xt (λs=>(Yf s,decide (n0<=s.toks))) (λw=>(Ya w,true)) N) (hY:∀w s,Yf s=Ya w->YP w s.heap) (hYk:∀w h h',YP w h->(∀b o,h.get? b=some o->h'.get? b=some o)->YP w h')
  (hX:∀s,Xt s=true->XP (s.heap.nsMap XR) s.heap) (hXk:∀mg h h',XP mg h->(∀b o,h.get? b=some o->h'.get? b=some o)->XP mg h')
  (hdef:defOf q r.name=some (d,kwd)) (hp:r.prog.theDef r.name=some (d.params,d.body,d.scope)) (hk:kwWritten? d.params.kwonlyargs d.params.kw_defaults=some kwd) (hRf:∀s,Xt s=true->RecFacts r.records s.heap) (hwr:(!r.writes || r.records.isEmpty)=true)
  (k1:r.wellSaid=true) (ok:(chainsOk q&&opensWell r.prog&&(frees r.toRowW&&r.within.isEmpty))=true) (hb:r.prog.bare) (hw:r.toRowW.promised)
  (call:zcG n0 q loose XP YP r.toRowW d kwd λf vs=>PySem.call f vs):r.Holds:=by
 refine⟨k1,hw,zjY (r:=r.toRowW) (run:=λf vs=>PySem.call f vs) (tree:=λvs=>do match <- nsGet mainNs r.name with
   | some f=>do ret (<- PySem.call f vs)
   | none=>QR "claim.caller:no-such-global") left hY hYk hX hXk hRf hwr ok hb hw
  (λvs w s mg f Q E hg hf h=>ZB (wpAny_nsGet hg (by rw[hf];exact ZB (Wj h (λ_ _ x=>X0 x) λ_ _ x=>x))))
  (λw s hg G n hn=>?_) λw s₀ s₁ mg mb G Y z args vs as hpre hlay L low=>?_⟩
 .obtain rfl:n=r.name:=by split at hn<;>simp_all
  exact pinned_of_view hg G hdef hp hk
 .obtain⟨a,o,pm,cd,doc,dV,kV,h1,h2,h3,h4,h5⟩:=G.fn hdef;exact⟨.ref a,h1,call w s₀ s₁ mg mb G Y z a o pm cd doc dV kV h2 h3 h4 h5 (defOf_name hdef ▸ h1) L.gens args vs as hpre hlay L.reads L.well (L.low low)⟩
theorem zhN {n0:Nat}{loose:List PySem.Str}{r:OpenRow}{q:Xm}{H:Hook}{d:N3}{kwd:List (PySem.Str×Expr)}{N:Nat}(left:LeftO r.prog q loose (λs=>xlAt q [] s&&recOk (NS r.toRowW) s) (λs=>(NV H s,decide (n0<=s.toks))) (λw=>(Hook.val H w,true)) N)
  (hdef:defOf q r.name=some (d,kwd)) (hp:r.prog.theDef r.name=some (d.params,d.body,d.scope)) (hk:kwWritten? d.params.kwonlyargs d.params.kw_defaults=some kwd) (hwr:(!r.writes || r.records.isEmpty)=true)
  (k1:r.wellSaid=true) (ok:(chainsOk q&&opensWell r.prog&&(frees r.toRowW&&r.within.isEmpty))=true) (hb:r.prog.bare) (hw:r.toRowW.promised)
  (call:zcG n0 q loose (XL q []) (Hook.says H) r.toRowW d kwd λf vs=>PySem.call f vs):r.Holds :=
 zf3 (q:=q) (loose:=loose) (Xt:=λs=>xlAt q [] s&&recOk (NS r.toRowW) s) (XP:=XL q []) (Yf:=NV H) (Ya:=Hook.val H) (YP:=Hook.says H) (N:=N) left (Hook.of H) (Hook.keeps H) (λs e=>xl_of s (WY.mp e).1) XL.keeps hdef hp hk
  (λs e=>recFacts_of (WY.mp e).2) hwr k1 ok hb hw call
end
noncomputable def top (i:Nat):Stmt:=PySem.Challenge.pw_stonelay_k62_runs_walked.main.body.getD i (.Pass ⟨0,0,0,0⟩)
noncomputable def j5 (s:Stmt):NJ:=match s with
 | .FunctionDef _ a _ _ _ _ _ _ _ _=>a
 | _=>{ posonlyargs:=[],args:=[],vararg:=none,kwonlyargs:=[],kw_defaults:=[],kwarg:=none,defaults:=[] }
noncomputable def jt (s:Stmt):List Stmt:=match s with
 | .FunctionDef _ _ b _ _ _ _ _ _ _=>b
 | _=>[]
noncomputable def zf (s:Stmt):UC:=match s with
 | .FunctionDef _ _ _ _ _ _ sc _ _ _=>sc
 | _=>{ kind:=.function,names:=[],isGenerator:=false,isCoroutine:=false }
def HD (K:XW)(x:Str)(i:Nat):Prop:=∃(f:Addr) (oc:X9) (od an:Option Addr) (sl:Array (Option X9)) (kV dc pm cd ct:X9),XE K XR x=some (some (.ref f))/\K.lookup f=some ⟨oc,od,.func (VY x x (j5 (top i)) (jt (top i)) (zf (top i)) .none kV dc pm an cd ct),sl⟩/\U7 K cd x=true/\U6 K (.ref f)=true
def HDD (K:XW)(x:Str)(i:Nat)(v:Str):Prop:=∃(f td:Addr) (oc:X9) (od an:Option Addr) (sl:Array (Option X9)) (kV dc pm cd ct:X9) (ot:Obj) (n:Nat) (t:Tok),XE K XR x=some (some (.ref f))/\K.lookup f=some ⟨oc,od,.func (VY x x (j5 (top i)) (jt (top i)) (zf (top i)) (.ref td) kV dc pm an cd ct),sl⟩/\U7 K cd x=true/\U6 K (.ref f)=true/\K.lookup td=some ot/\ot.data=.seq #[.str v t] n
structure Facts (K:XW):Prop where
 Yj:HD K "board_of" 13
 yC:HD K "checked_rows" 14
 J8:HD K "check_row" 15
 zaq:HD K "closed" 16
 Jh:HD K "open_cells" 17
 zar:HD K "around" 18
 J9:HD K "number_at" 19
 zas:HD K "opened" 20
 Yk:HD K "cells_of" 21
 Qu:HD K "sign_at" 22
 Yl:HD K "field_of" 27
 Za:HD K "stones_of" 28
 Zb:HD K "clears_of" 29
 Ji:HD K "cells_with" 30
 Ym:HD K "board_at" 31
 zcg:HD K "parts" 33
 zat:HD K "joined" 34
 ziO:HD K "far" 35
 Jj:HD K "numbers_of" 36
 Jk:HD K "bare_wrong" 37
 yk:HD K "closed_around" 38
 yD:HD K "part_layings" 41
 Yn:HD K "needs_at" 42
 Qv:HD K "may_fit" 43
 xr:HD K "part_counts" 44
 Qw:HD K "counted" 45
 Jl:HD K "counted_at" 46
 Qx:HD K "choices" 48
 zau:HD K "poured" 49
 xu:HD K "near_counts" 51
 zch:HD K "count" 52
 j6:HD K "counts_by_cell" 53
 Jm:HD K "all_poured" 54
 zci:HD K "dealt" 55
 Yo:HD K "fraction" 57
 jz:HD K "greatest_divisor" 58
 zav:HD K "shares" 60
 Jo:HD K "some_count" 61
 zfb:HD K "sure" 62
 Yp:HD K "asked_by" 65
 Yq:HD K "known_of" 66
 xw:HD K "still_asked" 67
 zaw:HD K "gained" 68
 Qy:HD K "settled" 69
 Yr:HD K "thoughts" 72
 Zc:HD K "all_steps" 73
 xx:HD K "place_lists" 74
 Jp:HD K "first_step" 75
 ziP:HDD K "run" 77 "sure"
 xy:HD K "found_clear" 78
 xA:HD K "_law_cell_at" 80
 Zd:HD K "_law_mixed" 81
 Ze:HD K "_law_field" 82
 Zf:HD K "_law_cells" 83
 Ys:HD K "_law_near" 84
 xB:HD K "_law_choices" 85
 Zg:HD K "_law_board" 86
 Yt:HD K "_law_safe" 87
 Qz:HD K "_law_due" 88
 ziQ:HD K "law" 89
 ziR:XE K XR "abs"=some none
 ziS:XE K XR "any"=some none
 zfc:XE K XR "dict"=some none
 Zh:XE K XR "enumerate"=some none
 ziT:XE K XR "int"=some none
 Jq:XE K XR "isinstance"=some none
 ziU:XE K XR "len"=some none
 zfd:XE K XR "list"=some none
 ziV:XE K XR "max"=some none
 ziW:XE K XR "min"=some none
 zcj:XE K XR "range"=some none
 ziX:XE K XR "set"=some none
 zax:XE K XR "sorted"=some none
 ziY:XE K XR "str"=some none
 ziZ:XE K XR "sum"=some none
 zck:XE K XR "tuple"=some none
 zi0:XE K XR "zip"=some none
 zi1:∃t,XE K XR "ALL"=some (some (.str "all" t))
 xC:∃t,XE K XR "BOARD_SIGNS"=some (some (.str "?012345678#" t))
 Jr:∃t,XE K XR "CLEAR_SIGN"=some (some (.str "." t))/\t≠0/\t<384
 xD:∃t,XE K XR "CLOSED_SIGN"=some (some (.str "?" t))
 xE:∃t,XE K XR "FIELD_SIGNS"=some (some (.str ".o#" t))
 yE:∃t,XE K XR "LONGEST_SIDE"=some (some (.int 8 t))
 yF:∃t,XE K XR "MOST_OF_PART"=some (some (.int 14 t))
 xF:∃t,XE K XR "MOST_STONES"=some (some (.int 64 t))
 xG:∃t,XE K XR "MOST_THINGS"=some (some (.int 30 t))
 yG:∃t,XE K XR "NO_CELL_SIGN"=some (some (.str "#" t))
 Js:∃t,XE K XR "STONE_SIGN"=some (some (.str "o" t))/\t≠0/\t<384
end ZA
noncomputable def ZA.ob:List PySem.Str:="StoneError" :: "NoBoard" :: "NoCount" :: "TooGreat" :: "NoLaying" :: "NoCell" :: "CLOSED_SIGN" :: "NO_CELL_SIGN" :: "BOARD_SIGNS" :: "LONGEST_SIDE" :: "MOST_STONES" :: "board_of" :: "checked_rows" :: "check_row" :: "closed" :: "open_cells" :: "around" :: "number_at" :: "opened" :: "cells_of" :: "sign_at" :: "CLEAR_SIGN" :: "STONE_SIGN" :: "FIELD_SIGNS" :: "field_of" :: "stones_of" :: "clears_of" :: "cells_with" :: "board_at" :: "parts" :: "joined" :: "far" :: "numbers_of" :: "bare_wrong" :: "closed_around" :: "MOST_OF_PART" :: "part_layings" :: "needs_at" :: "may_fit" :: "part_counts" :: "counted" :: "counted_at" :: "choices" :: "poured" :: "near_counts" :: "count" :: "counts_by_cell" :: "all_poured" :: "dealt" :: "fraction" :: "greatest_divisor" :: "shares" :: "some_count" :: "sure" :: "ALL" :: "asked_by" :: "known_of" :: "still_asked" :: "gained" :: "settled" :: "MOST_THINGS" :: "thoughts" :: "all_steps" :: "place_lists" :: "first_step" :: "run" :: "found_clear" :: "_law_cell_at" :: "_law_mixed" :: "_law_field" :: "_law_cells" :: "_law_near" :: "_law_choices" :: "_law_board" :: "_law_safe" :: "_law_due" :: []
noncomputable def ZA.view:PySem.Program:={ PySem.Challenge.rw_stonelay_k62_runs_walked.prog with main:={ PySem.Challenge.rw_stonelay_k62_runs_walked.prog.main with body:=PySem.Challenge.rw_stonelay_k62_runs_walked.prog.main.body.drop 89 } }
theorem ZA.keep (H:PySem.W.Hook){P:Prop}(h:P):P:=h
local macro_rules | `(tactic| o_head $H)=>`(tactic| refine ZA.keep $H ?_)
open PySem PySem.W PyProof.Rows in
set_option maxRecDepth 100000 in
set_option maxHeartbeats 0 in
theorem ZA.pre (h:PySem.Challenge.rw_stonelay_k62_runs_walked.row.Holds):PySem.Challenge.rw_stonelay_k62_runs_walked.row.Holds:=by
 k_head;exact h
namespace ZA
open PySem PySem.W
noncomputable def as:List Addr:=[2,3,15,22,23,24,25,28,35,36,37,40,47,48,49,52,59,60,61,64,71,72,73,76,83,84,85,88,90,91,93,94,95,97,98,100,101,102,104,105,107,108,109,112,113,114,117,118,119,121,122,124,125,126,128,129,131,132,133,136,137,138,141,142,143,145,146,148,149,150,152,153,155,156,157,159,160,162,163,164,166,167,169,170,171,174,175,176,179,180,181,183,184,186,187,188,191,192,193,196,197,198,201,202,203,206,207,208,211,212,213,216,217,218,221,222,223,226,227,228,230,231,233,234,235,237,238,240,241,242,245,246,247,249,250,252,253,254,256,257,259,260,261,264,265,266,268,269,271,272,273,276,277,278,280,281,283,284,285,288,289,290,292,293,295,296,297,299,300,302,303,304,307,308,309,311,312,314,315,316,319,320,321,323,324,326,327,328,331,332,333,336,337,338,341,342,343,345,346,348,349,350,353,354,355,358,359,360,363,364,365,368,369,370,371,373,374,376,377,378,380,381,383,384,385,387,388,390,391,392,394,395,397,398,399,401,402,404,405,406,408,409,411,412,413,415,416,418,419,420,423,424,425,428,429,430,433,434,435,437,438,440,441,442,444,445,447,448]
theorem cut {E:Option X7}{as:List Addr}{K:Frag}(n:Nat)(a:E.map (λs=>(as.take n).map s.heap.get?)=some ((K.take n).map λp=>some p.2))(b:E.map (λs=>(as.drop n).map s.heap.get?)=some ((K.drop n).map λp=>some p.2)):E.map (λs=>as.map s.heap.get?)=some (K.map λp=>some p.2):=by
 cases E with
 | none=>cases a
 | some s =>
  have e:=congr (congrArg HAppend.hAppend (Option.some.inj a)) (Option.some.inj b);rw[<- Xj,<- Xj,WU,WU]at e;exact congrArg some e
theorem hook {K:NM->Frag}{as:List Addr}{e:∀P,as=(K P).map (·.1)}{w:W1}{E:Option X7}(h:E.map (λs=>as.map s.heap.get?)=some ((K w.params).map λp=>some p.2)):E.map (NV (kHook K as e))=some (Hook.val (kHook K as e) w):=h
theorem he (P:NM):as=(pre.heap_1 P).map (·.1):=by kernel_rfl
noncomputable abbrev OS:=openSeen view ob (importedModules PySem.Challenge.rw_stonelay_k62_runs_walked.row.prog.main.body) (λs=>xlAt view [] s&&recOk (NS PySem.Challenge.rw_stonelay_k62_runs_walked.row.toRowW) s) true
set_option maxRecDepth 100000
set_option maxHeartbeats 0
theorem sa (w:W1):(TH Ui PySem.Challenge.rw_stonelay_k62_runs_walked.row.prog w 6526).map (λs=>(OS s,decide (384<=s.toks)))=some (openGood view ob,true):=by kernel_rfl
theorem h0 (w:W1):(TH Ui PySem.Challenge.rw_stonelay_k62_runs_walked.row.prog w 6526).map (λs=>(as.take 95).map s.heap.get?)=some (((pre.heap_1 w.params).take 95).map λp=>some p.2):=by kernel_rfl
theorem h1 (w:W1):(TH Ui PySem.Challenge.rw_stonelay_k62_runs_walked.row.prog w 6526).map (λs=>((as.drop 95).take 95).map s.heap.get?)=some ((((pre.heap_1 w.params).drop 95).take 95).map λp=>some p.2):=by kernel_rfl
theorem h2 (w:W1):(TH Ui PySem.Challenge.rw_stonelay_k62_runs_walked.row.prog w 6526).map (λs=>((as.drop 95).drop 95).map s.heap.get?)=some ((((pre.heap_1 w.params).drop 95).drop 95).map λp=>some p.2):=by kernel_rfl
theorem lift {w:W1}{α:Type}{Y:X7->α}{y:α}(h:(TH Ui PySem.Challenge.rw_stonelay_k62_runs_walked.row.prog w 6526).map Y=some y):(TH Ui PySem.Challenge.rw_stonelay_k62_runs_walked.row.prog w 6526).map (λs=>(OS s,(Y s,decide (384<=s.toks))))=some (openGood view ob,(y,true)):=by
 have a:=sa w;generalize TH Ui PySem.Challenge.rw_stonelay_k62_runs_walked.row.prog w 6526=E at a h ⊢;cases E with
 | none=>cases a
 | some s =>
  have a:=Option.some.inj a;have h:=Option.some.inj h;exact congrArg some (Prod.ext (congrArg (·.1) a) (Prod.ext h (congrArg (·.2) a)))
theorem hk (w:W1):(TH Ui PySem.Challenge.rw_stonelay_k62_runs_walked.row.prog w 6526).map (λs=>as.map s.heap.get?)=some ((pre.heap_1 w.params).map λp=>some p.2):=(cut (E:=TH Ui PySem.Challenge.rw_stonelay_k62_runs_walked.row.prog w 6526) (as:=as) (K:=(pre.heap_1 w.params)) 95 (h0 w) (cut (E:=TH Ui PySem.Challenge.rw_stonelay_k62_runs_walked.row.prog w 6526) (as:=(as.drop 95)) (K:=((pre.heap_1 w.params).drop 95)) 95 (h1 w) (h2 w)))
theorem lf (w:W1):(TH Ui PySem.Challenge.rw_stonelay_k62_runs_walked.row.prog w 6526).map (λs=>(OS s,(NV (kHook pre.heap_1 as he) s,decide (384<=s.toks))))=some (openGood view ob,(Hook.val (kHook pre.heap_1 as he) w,true)):=lift (Y:=NV (kHook pre.heap_1 as he)) (y:=Hook.val (kHook pre.heap_1 as he) w) (hook (K:=pre.heap_1) (as:=as) (e:=he) (E:=TH Ui PySem.Challenge.rw_stonelay_k62_runs_walked.row.prog w 6526) (hk w))
end ZA
local macro_rules | `(tactic| o_head $H)=>`(tactic| (refine' ZA.zhN (n0:=384) (loose:=ZA.ob) (q:=ZA.view) (H:=PySem.W.kHook ZA.pre.heap_1 ZA.as ZA.he) (N:=6526) ZA.lf (by rfl) (by rfl) (by rfl) (by rfl) (by first | assumption | decide+kernel) (by decide+kernel) ⟨rfl,rfl,rfl,rfl,rfl,by decide+kernel⟩ ?_ ?_))
open PySem PySem.W PyProof.Rows in
set_option maxRecDepth 100000 in
set_option maxHeartbeats 0 in
theorem ZA.look:PySem.Challenge.rw_stonelay_k62_runs_walked.wellSaid=true:=by kernel_rfl
open PySem PySem.W PyProof.Rows in
set_option maxRecDepth 100000 in
set_option maxHeartbeats 0 in
theorem ZA.early (h:∀{q:Xm} {XP:(Str->Option X9)->Heap->Prop} {YP:W1->Heap->Prop} {d:N3} {K:NM->XW},d.params.defaults=[]->(∀(w:W1) (h:Heap),YP w h->(K w.params).In h)->d.name="law"->(∀w:W1,ZA.Facts (K w.params))->ZA.zcG 384 q ZA.ob XP YP PySem.Challenge.rw_stonelay_k62_runs_walked.row.toRowW d [] (λf vs=>PySem.call f vs)):PySem.Challenge.rw_stonelay_k62_runs_walked.Holds:=by
 w_on;refine holds_law ZA.look λsaid=>?_;o_head trivial;w_witness2;k_fill;refine h rfl (λw h Y=>PySem.W.kIn_of Y) rfl λw=>?_;constructor;all_goals first | k_is | exact⟨_,_,_,_,_,_,_,_,_,_,by k_is,by k_is,by k_is,by k_is⟩ | exact⟨_,by k_is,by decide,by decide⟩ | exact⟨_,_,_,_,_,_,_,_,_,_,_,_,_,_,by k_is,by k_is,by k_is,by k_is,by k_is,rfl⟩ | exact⟨_,by k_is⟩
noncomputable section
section
variable{α β γ δ ε ζ η θ ι κ μ ν ξ:Sort _}
theorem dD {p q r:Prop}(h:p)(A:q)(B:r):p/\q/\r:=⟨h,A,B⟩
theorem dF {p:α->β->Prop}(a:α)(b:β)(h:p a b):∃a,∃b,p a b:=⟨a,b,h⟩
theorem dG {p q r s t u:Prop}(h:p)(A:q)(B:r)(C:s)(D:t)(E:u):p/\q/\r/\s/\t/\u:=⟨h,A,B,C,D,E⟩
theorem dH {p:α->β->Prop}{a b}(h:p a b):∃a,∃b,p a b:=⟨_,_,h⟩
theorem dI {p q r s:Prop}(h:p)(A:q)(B:r)(C:s):p/\q/\r/\s:=⟨h,A,B,C⟩
theorem dJ {p q r s t:Prop}(h:p)(A:q)(B:r)(C:s)(D:t):p/\q/\r/\s/\t:=⟨h,A,B,C,D⟩
theorem dM {p:α->β->γ->δ->Prop}(a:α)(b:β)(c:γ)(d:δ)(h:p a b c d):∃a,∃b,∃c,∃d,p a b c d:=⟨a,b,c,d,h⟩
theorem dN {p q r s t:α->Prop}(a:α)(h:p a)(A:q a)(B:r a)(C:s a)(D:t a):∃a,p a/\q a/\r a/\s a/\t a:=⟨a,h,A,B,C,D⟩
theorem dO {p:α->β->Prop}{b}(a:α)(h:p a b):∃a,∃b,p a b:=⟨a,_,h⟩
theorem dP {p q r s:α->β->Prop}(a:α)(b:β)(h:p a b)(A:q a b)(B:r a b)(C:s a b):∃a,∃b,p a b/\q a b/\r a b/\s a b:=⟨a,b,h,A,B,C⟩
theorem dQ {p q r s t:α->β->γ->δ->ε->Prop}{a b c d e}(h:p a b c d e)(A:q a b c d e)(B:r a b c d e)(C:s a b c d e)(D:t a b c d e):∃a,∃b,∃c,∃d,∃e,p a b c d e/\q a b c d e/\r a b c d e/\s a b c d e/\t a b c d e:=⟨_,_,_,_,_,h,A,B,C,D⟩
theorem dR {p q r:α->β->Prop}{s:α->β->γ->δ->Prop}{t u v:α->β->γ->δ->ε->ζ->Prop}{b c d e f}(a:α)(h:p a b)(A:q a b)(B:r a b)(C:s a b c d)(D:t a b c d e f)(E:u a b c d e f)(F:v a b c d e f):∃a,∃b,p a b/\q a b/\r a b/\∃c,∃d,s a b c d/\∃e,∃f,t a b c d e f/\u a b c d e f/\v a b c d e f:=⟨a,_,h,A,B,_,_,C,_,_,D,E,F⟩
theorem dS {p q r s:α->β->Prop}{a}(b:β)(h:p a b)(A:q a b)(B:r a b)(C:s a b):∃a,∃b,p a b/\q a b/\r a b/\s a b:=⟨_,b,h,A,B,C⟩
theorem dU {p q r:α->Prop}(a:α)(h:p a)(A:q a)(B:r a):∃a,p a/\q a/\r a:=⟨a,h,A,B⟩
theorem dW {p:α->β->γ->δ->ε->ζ->Prop}{a b c d e f}(h:p a b c d e f):∃a,∃b,∃c,∃d,∃e,∃f,p a b c d e f:=⟨_,_,_,_,_,_,h⟩
theorem dX {p:α->β->γ->δ->Prop}{a b c d}(h:p a b c d):∃a,∃b,∃c,∃d,p a b c d:=⟨_,_,_,_,h⟩
theorem dY {p q:α->Prop}(a:α)(h:p a)(A:q a):∃a,p a/\q a:=⟨a,h,A⟩
theorem dZ {p q:α->Prop}{a}(h:p a)(A:q a):∃a,p a/\q a:=⟨_,h,A⟩
theorem eB {p q r s t u:α->β->γ->δ->ε->Prop}{c d}(a:α)(b:β)(e:ε)(h:p a b c d e)(A:q a b c d e)(B:r a b c d e)(C:s a b c d e)(D:t a b c d e)(E:u a b c d e):∃a,∃b,∃c,∃d,∃e,p a b c d e/\q a b c d e/\r a b c d e/\s a b c d e/\t a b c d e/\u a b c d e:=⟨a,b,_,_,e,h,A,B,C,D,E⟩
theorem eE {p q r s t:α->β->γ->Prop}(a:α)(b:β)(c:γ)(h:p a b c)(A:q a b c)(B:r a b c)(C:s a b c)(D:t a b c):∃a,∃b,∃c,p a b c/\q a b c/\r a b c/\s a b c/\t a b c:=⟨a,b,c,h,A,B,C,D⟩
theorem eF {p q r s:α->Prop}(a:α)(h:p a)(A:q a)(B:r a)(C:s a):∃a,p a/\q a/\r a/\s a:=⟨a,h,A,B,C⟩
theorem eH {p q r:α->β->Prop}{a b}(h:p a b)(A:q a b)(B:r a b):∃a,∃b,p a b/\q a b/\r a b:=⟨_,_,h,A,B⟩
theorem eK {p q r s t u:α->Prop}(a:α)(h:p a)(A:q a)(B:r a)(C:s a)(D:t a)(E:u a):∃a,p a/\q a/\r a/\s a/\t a/\u a:=⟨a,h,A,B,C,D,E⟩
theorem eL {p:α->β->γ->δ->Prop}{c d}(a:α)(b:β)(h:p a b c d):∃a,∃b,∃c,∃d,p a b c d:=⟨a,b,_,_,h⟩
theorem eN {p q r:α->β->Prop}{s t:α->β->γ->δ->Prop}{b c d}(a:α)(h:p a b)(A:q a b)(B:r a b)(C:s a b c d)(D:t a b c d):∃a,∃b,p a b/\q a b/\r a b/\∃c,∃d,s a b c d/\t a b c d:=⟨a,_,h,A,B,_,_,C,D⟩
theorem eO {p q:α->β->Prop}{a b}(h:p a b)(A:q a b):∃a,∃b,p a b/\q a b:=⟨_,_,h,A⟩
theorem eS {p:α->β->γ->δ->ε->Prop}{a b c d e}(h:p a b c d e):∃a,∃b,∃c,∃d,∃e,p a b c d e:=⟨_,_,_,_,_,h⟩
theorem eU {p q r s:α->β->Prop}{Z:Prop}(k:∀a,∀b,p a b->q a b->r a b->s a b->Z):(∃a,∃b,p a b/\q a b/\r a b/\s a b)->Z:=λ⟨a,b,h,A,B,C⟩=>k a b h A B C
theorem eV {p q r:Prop}{Z:Prop}(k:p->q->r->Z):(p/\q/\r)->Z:=λ⟨h,A,B⟩=>k h A B
theorem eW {p:α->β->γ->δ->Prop}{Z:Prop}(k:∀a,∀b,∀c,∀d,p a b c d->Z):(∃a,∃b,∃c,∃d,p a b c d)->Z:=λ⟨a,b,c,d,h⟩=>k a b c d h
theorem eX {p q r s t:α->β->γ->Prop}{Z:Prop}(k:∀a,∀b,∀c,p a b c->q a b c->r a b c->s a b c->t a b c->Z):(∃a,∃b,∃c,p a b c/\q a b c/\r a b c/\s a b c/\t a b c)->Z:=λ⟨a,b,c,h,A,B,C,D⟩=>k a b c h A B C D
theorem eY {p q r s t:α->β->Prop}{Z:Prop}(k:∀a,∀b,p a b->q a b->r a b->s a b->t a b->Z):(∃a,∃b,p a b/\q a b/\r a b/\s a b/\t a b)->Z:=λ⟨a,b,h,A,B,C,D⟩=>k a b h A B C D
theorem eZ {p q:α->β->γ->δ->Prop}{Z:Prop}(k:∀a,∀b,∀c,∀d,p a b c d->q a b c d->Z):(∃a,∃b,∃c,∃d,p a b c d/\q a b c d)->Z:=λ⟨a,b,c,d,h,A⟩=>k a b c d h A
theorem e8 {p q r s t u:Prop}{Z:Prop}(k:p->q->r->s->t->u->Z):(p/\q/\r/\s/\t/\u)->Z:=λ⟨h,A,B,C,D,E⟩=>k h A B C D E
theorem e9 {p:α->Prop}{q r:α->β->Prop}{Z:Prop}(k:∀a,p a->∀b,q a b->r a b->Z):(∃a,p a/\∃b,q a b/\r a b)->Z:=λ⟨a,h,b,A,B⟩=>k a h b A B
theorem fc {p q:α->Prop}{Z:Prop}(k:∀a,p a->q a->Z):(∃a,p a/\q a)->Z:=λ⟨a,h,A⟩=>k a h A
theorem ff {p q:Prop}{Z:Prop}(k:p->q->Z):(p/\q)->Z:=λ⟨h,A⟩=>k h A
theorem fh {p q r:α->β->Prop}{Z:Prop}(k:∀a,∀b,p a b->q a b->r a b->Z):(∃a,∃b,p a b/\q a b/\r a b)->Z:=λ⟨a,b,h,A,B⟩=>k a b h A B
theorem fj {p:α->β->γ->δ->ε->ζ->η->θ->Prop}{Z:Prop}(k:∀a,∀b,∀c,∀d,∀e,∀f,∀g,∀i,p a b c d e f g i->Z):(∃a,∃b,∃c,∃d,∃e,∃f,∃g,∃i,p a b c d e f g i)->Z:=λ⟨a,b,c,d,e,f,g,i,h⟩=>k a b c d e f g i h
theorem fk {p:α->Prop}{Z:Prop}(k:∀a,p a->Z):(∃a,p a)->Z:=λ⟨a,h⟩=>k a h
theorem fm {p q r s:α->β->γ->δ->Prop}{Z:Prop}(k:∀a,∀b,∀c,∀d,p a b c d->q a b c d->r a b c d->s a b c d->Z):(∃a,∃b,∃c,∃d,p a b c d/\q a b c d/\r a b c d/\s a b c d)->Z:=λ⟨a,b,c,d,h,A,B,C⟩=>k a b c d h A B C
theorem fq {p:α->β->Prop}{Z:Prop}(k:∀a,∀b,p a b->Z):(∃a,∃b,p a b)->Z:=λ⟨a,b,h⟩=>k a b h
theorem fu {p q r s:α->β->γ->Prop}{Z:Prop}(k:∀a,∀b,∀c,p a b c->q a b c->r a b c->s a b c->Z):(∃a,∃b,∃c,p a b c/\q a b c/\r a b c/\s a b c)->Z:=λ⟨a,b,c,h,A,B,C⟩=>k a b c h A B C
theorem fy {p q r s t:α->β->γ->δ->Prop}{Z:Prop}(k:∀a,∀b,∀c,∀d,p a b c d->q a b c d->r a b c d->s a b c d->t a b c d->Z):(∃a,∃b,∃c,∃d,p a b c d/\q a b c d/\r a b c d/\s a b c d/\t a b c d)->Z:=λ⟨a,b,c,d,h,A,B,C,D⟩=>k a b c d h A B C D
theorem fB {p q:Prop}{r s:α->Prop}{Z:Prop}(k:p->q->∀a,r a->s a->Z):(p/\q/\∃a,r a/\s a)->Z:=λ⟨h,A,a,B,C⟩=>k h A a B C
theorem fC {p q:α->β->γ->Prop}{Z:Prop}(k:∀a,∀b,∀c,p a b c->q a b c->Z):(∃a,∃b,∃c,p a b c/\q a b c)->Z:=λ⟨a,b,c,h,A⟩=>k a b c h A
theorem fD {p:α->β->γ->δ->ε->Prop}{Z:Prop}(k:∀a,∀b,∀c,∀d,∀e,p a b c d e->Z):(∃a,∃b,∃c,∃d,∃e,p a b c d e)->Z:=λ⟨a,b,c,d,e,h⟩=>k a b c d e h
theorem fE {p q r s t:Prop}{Z:Prop}(k:p->q->r->s->t->Z):(p/\q/\r/\s/\t)->Z:=λ⟨h,A,B,C,D⟩=>k h A B C D
theorem fF {p q r:α->β->γ->Prop}{Z:Prop}(k:∀a,∀b,∀c,p a b c->q a b c->r a b c->Z):(∃a,∃b,∃c,p a b c/\q a b c/\r a b c)->Z:=λ⟨a,b,c,h,A,B⟩=>k a b c h A B
theorem fG {p q r s t u:α->β->γ->Prop}{Z:Prop}(k:∀a,∀b,∀c,p a b c->q a b c->r a b c->s a b c->t a b c->u a b c->Z):(∃a,∃b,∃c,p a b c/\q a b c/\r a b c/\s a b c/\t a b c/\u a b c)->Z:=λ⟨a,b,c,h,A,B,C,D,E⟩=>k a b c h A B C D E
theorem fH {p q r s t u:α->β->γ->δ->Prop}{Z:Prop}(k:∀a,∀b,∀c,∀d,p a b c d->q a b c d->r a b c d->s a b c d->t a b c d->u a b c d->Z):(∃a,∃b,∃c,∃d,p a b c d/\q a b c d/\r a b c d/\s a b c d/\t a b c d/\u a b c d)->Z:=λ⟨a,b,c,d,h,A,B,C,D,E⟩=>k a b c d h A B C D E
theorem fJ {p q r s:Prop}{Z:Prop}(k:p->q->r->s->Z):(p/\q/\r/\s)->Z:=λ⟨h,A,B,C⟩=>k h A B C
end
abbrev AE:=List PySem.Str
abbrev  AA:=Nat×Nat
abbrev AD:=List AA
namespace L2
open PySem PySem.Spec PyProof.Rows
abbrev Key:=Sum Int Str
def zeh:Key->X9->Bool
 | .inl k,v=>Value.isInt k v
 | .inr x,v=>Value.isStrOf x v
def zpK (w:W1):Key->Int
 | .inl k=>hashInt k
 | .inr x=>hashStr w x
theorem jj:∀{k:Key} {v:X9},zeh k v=true->(∃i t,k=Ov i/\v=Vj i t)\/(∃x t,k=Ou x/\v=NI x t)
 | .inl i,v,h=>by
  obtain⟨t,e⟩:=Value.isInt_shape (k:=i) (v:=v) h;exact .inl ⟨i,t,rfl,e⟩
 | .inr x,v,h=>by
  obtain⟨t,e⟩:=Value.isStrOf_shape (x:=x) (v:=v) h;exact .inr ⟨x,t,rfl,e⟩
def zbe (i:Int)(t:Tok):zeh (.inl i) (.int i t)=true:=by simp[zeh,Value.isInt]
def zjZ (x:Str)(t:Tok):zeh (.inr x) (.str x t)=true:=by simp[zeh,Value.isStrOf]
def zpL (a b:Int):decide ((Ov a:Key)=Ov b)=(a==b):=by
 by_cases e:a=b
 .subst e;simp
 .have h:¬ (Ov a:Key)=Ov b:=λq=>e (Sum.inl.inj q);rw[bf h];exact(beq_eq_false_iff_ne.mpr e).symm
def zpM (a b:Str):decide ((Ou a:Key)=Ou b)=decide (a=b):=by
 by_cases e:a=b
 .subst e;simp
 .have h:¬ (Ou a:Key)=Ou b:=λq=>e (Sum.inr.inj q);rw[bf h,bf e]
def zpN (a:Int)(b:Str):decide ((Ov a:Key)=Ou b)=false:=bf (λq=>nomatch q)
def zpO (a:Str)(b:Int):decide ((Ou a:Key)=Ov b)=false:=bf (λq=>nomatch q)
def qb (prog:Xm)(w:W1):PySem.KeyKind prog w Key where
 is:=zeh
 hash:=zpK w
 inj:=λv a b ha hb=>by
  rcases jj ha with ⟨i,t,rfl,rfl⟩ | ⟨x,t,rfl,rfl⟩
  .rcases jj hb with ⟨j,u,rfl,e⟩ | ⟨y,u,rfl,e⟩
   .injection e with e1 _;rw[e1]
   .exact nomatch e
  .rcases jj hb with ⟨j,u,rfl,e⟩ | ⟨y,u,rfl,e⟩
   .exact nomatch e
   .injection e with e1 _;rw[e1]
 byValue:=λk v h=>by
  rcases jj h with ⟨i,t,rfl,rfl⟩ | ⟨x,t,rfl,rfl⟩<;>rfl
 pyHash:=λhv h=>by
  rcases jj hv with ⟨i,t,rfl,rfl⟩ | ⟨x,t,rfl,rfl⟩
  .exact wpAny_pyHash_int h
  .exact wpAny_pyHash_str h
 eqBool:=λhu hv h=>by
  rcases jj hu with ⟨i,t,rfl,rfl⟩ | ⟨x,t,rfl,rfl⟩
  .rcases jj hv with ⟨j,u,rfl,rfl⟩ | ⟨y,u,rfl,rfl⟩
   .rw[zpL]at h;exact wpAny_eqBool_int h
   .rw[zpN]at h;exact SeqAt.EqAt.int_str i t y u _ _ _ _ h
  .rcases jj hv with ⟨j,u,rfl,rfl⟩ | ⟨y,u,rfl,rfl⟩
   .rw[zpO]at h;exact SeqAt.EqAt.str_int x t j u _ _ _ _ h
   .rw[zpM]at h;exact wpAny_eqBool_str h
 «strs»:=λk x t v h=>by
  rcases jj h with ⟨i,u,rfl,e⟩ | ⟨y,u,rfl,e⟩
  .exact nomatch e
  .injection e with e1 _
   subst e1;cases v<;>rfl
def zf4 (prog:Xm)(w:W1)(i:Int)(t:Tok):(qb prog w).is (.inl i) (.int i t)=true:=zbe i t
def zf5 (prog:Xm)(w:W1)(x:Str)(t:Tok):(qb prog w).is (.inr x) (.str x t)=true:=zjZ x t
inductive V where
 | non | bl (b:Bool) | int (i:Int) | str (x:Str) | byt (b:Array UInt8) | flt (b:UInt64) | ref (a:Addr) | ty (n:String)
 deriving DecidableEq
abbrev AF:=List V
def RelV:V->X9->Prop
 | .non,u=>u=Vw
 | .bl b,u=>u=N2 b
 | .int i,u=>∃t,u=Vj i t
 | .str x,u=>∃t,u=NI x t
 | .byt b,u=>∃t,u=Value.bytes b t
 | .flt b,u=>∃t,u=Value.float b t
 | .ref a,u=>u=WO a
 | .ty n,u=>u=Pr n
abbrev Vals:AF->List X9->Prop:=W2 RelV
theorem Vals.length {xs:AF}{a:List X9}(r:Vals xs a):xs.length=a.length:=Paired.length r
theorem Vals.get:∀{xs:AF} {a:List X9} {i:Nat} {x:V},Vals xs a->xs[i]?=some x->∃u,a[i]?=some u/\RelV x u
 | _,_,_,_,.nil,e=>by simp at e
 | _,_,0,_,.cons r _,e=>by simp at e;subst e;exact⟨_,rfl,r⟩
 | _,_,i+1,x,.cons _ t,e=>by
  obtain⟨u,h1,h2⟩:=Vals.get (i:=i) (x:=x) t (by simpa using e);exact⟨u,by simpa using h1,h2⟩
theorem Vals.set {x:V}{u:X9}(r:RelV x u):∀{xs:AF} {a:List X9} (i:Nat),Vals xs a->Vals (xs.set i x) (a.set i u)
 | _,_,_,.nil=>.nil
 | _,_,0,.cons _ t=>.cons r t
 | _,_,i+1,.cons q t=>.cons q (Vals.set r i t)
theorem Vals.append:∀{xs ys:AF} {a b:List X9},Vals xs a->Vals ys b->Vals (xs++ys) (a++b)
 | _,_,_,_,.nil,s=>s
 | _,_,_,_,.cons r t,s=>.cons r (Vals.append t s)
theorem Vals.take:∀{xs:AF} {a:List X9} (n:Nat),Vals xs a->Vals (xs.take n) (a.take n)
 | _,_,0,_=>.nil
 | _,_,_+1,.nil=>.nil
 | _,_,n+1,.cons r t=>.cons r (Vals.take n t)
theorem Vals.drop:∀{xs:AF} {a:List X9} (n:Nat),Vals xs a->Vals (xs.drop n) (a.drop n)
 | _,_,0,r=>r
 | _,_,_+1,.nil=>.nil
 | _,_,n+1,.cons _ t=>Vals.drop n t
def zbf:Option V->Option X9->Prop
 | some v,some u=>RelV v u
 | none,none=>True
 | _,_=>False
def KV {a:Type}:List (a × V)->List (a × X9)->Prop:=W2 λ(p:a × V) (q:a × X9)=>p.1=q.1/\RelV p.2 q.2
def kV:Key->V
 | .inl i=>.int i
 | .inr x=>.str x
inductive HO where
  | lst (xs:AF)
  | tup (xs:AF)
  | dK (kvs:List (Key×V)) | dT (kvs:List (List Key×V))
  | set (S:Int->Bool) (n:Nat)
  | ins (C dx:Addr) (fs:List (Str×V))
  | own (x:Addr)
  | xd (fs:List (Str×V))
  | met (f x:Addr)
  | rng (lo hi:Int)
  | frz (o:Obj) (u:HO)
  | tbl (ps:Array X9)
  | ext (φ:Heap->Prop)
abbrev Hp:=Addr->Option HO
def upd (H:Hp)(a:Addr)(o:HO):Hp:=λb=>if b=a then some o else H b
def zc {H:Hp}{a:Addr}{o:HO}:upd H a o a=some o:=by unfold upd;rw[bw rfl]
def zp {H:Hp}{a b:Addr}{o:HO}(h:b≠a):upd H a o b=H b:=by unfold upd;rw[bq h]
def QW {H:Hp}{a b:Addr}{o u:HO}(h:H a=some o)(h':H b=some u)(d:o≠u):a≠b:=by
 intro e;subst e;rw[h]at h';exact d (Option.some.inj h')
def zj {H:Hp}{a b:Addr}{o:HO}(h:H a=some o)(h':H b=none):a≠b:=by
 intro e;subst e;rw[h]at h';cases h'
section
variable (P:Xm)(w:W1)
def qP (H:Hp)(h:Heap)(a:Addr):HO->Prop
 | .lst xs=>xs.length<=Xq/\∃(b:List X9) (n:Nat),Vals xs b/\h.get? a=some { cls:=.type "list",data:=.seq b.toArray n }
 | .tup xs=>xs.length<=Xq/\∃b:List X9,Vals xs b/\NF h a b.toArray
 | .dK c=>c.length<=Xq/\(a==VE)=false/\∃j,KV c j/\h.DictOf (qb P w) a j
 | .dT c=>c.length<=Xq/\(a==VE)=false/\∃xs:List (List Key×Addr×X9),
   W2 (λ(p:List Key×V) (q:List Key×Addr×X9)=>p.1=q.1/\H q.2.1=some (.tup (p.1.map kV))/\RelV p.2 q.2.2) c xs /\
   ∃o i k,h.get? a=some o/\o.ExactDict/\o.data=.dict i k/\i.toList=xs.map (SV (VM (qb P w)))/\(xs.map (·.1)).Nodup
 | .set S n=>h.SetOf (intKind P w) a S n
 | .ins C e fs=>H e=some (.own a)/\fs.length<=1000/\e≠a/\h.get? a=some (O7 C e) /\
   ∃d,h.Ns1 e d/\(∀f,zbf (fs.lookup f) (d f))/\PySem.Within d (fs.map (·.1))
 | .own _=>∃o,h.get? a=some o
 | .xd fs=>∃d,h.Ns1 a d/\∀f,zbf (fs.lookup f) (d f)
 | .rng lo l=>∃t u v,h.get? a=some { cls:=.type "range",data:=.fields #[.int lo t,.int l u,.int 1 v] }
 | .frz o u=>h.get? a=some o/\qP H h a u
 | .tbl m=>h.get? a=some { cls:=.none,data:=.fields m }
 | .met f x=>h.get? a=some (QQ (.ref f) (.ref x))
 | .ext g=>g h/\(∃o,h.get? a=some o)/\∀h1 h2:Heap,g h1->(∀o,h1.get? a=some o->h2.get? a=some o)->g h2
def HOk (H:Hp)(h:Heap):Prop:=∀a o,H a=some o->qP P w H h a o
end
section
variable {P:Xm}{w:W1}{H H':Hp}{h h':Heap}{a:Addr}{o:HO}
theorem qP.lt (x:qP P w H h a o):a<h.objs.size:=by
 cases o with
 | lst c=>obtain⟨_,_,_,_,e⟩:=x;exact XD e
 | tup c=>obtain⟨_,_,_,p⟩:=x;exact p.lt
 | dK b=>revert x;refine fB λ_ _ _ _=>fC λo _ _ e _=>?_;exact XD e
 | dT b=>revert x;refine fB λ_ _ _ _=>fC λo _ _ e _=>?_;exact XD e
 | set S n=>revert x;refine eZ λo _ _ _ e _=>?_;exact XD e
 | ins C d fs=>obtain⟨_,_,_,e,_⟩:=x;exact XD e
 | own y=>obtain⟨_,e⟩:=x;exact XD e
 | xd fs=>obtain⟨_,⟨_,_,_,e,_⟩,_⟩:=x;exact XD e
 | rng lo g=>obtain⟨_,_,_,e⟩:=x;exact XD e
 | frz ob u=>obtain⟨e,_⟩:=x;exact XD e
 | tbl i=>exact XD (show h.get? a=some _ from x)
 | met f y=>exact XD (show h.get? a=some _ from x)
 | ext j=>obtain⟨_,⟨_,e⟩,_⟩:=x;exact XD e
theorem Paired.mapP {α c:Type}{F G:α->c->Prop}:∀{l₁:List α} {l₂:List c},W2 F l₁ l₂->(∀a b,F a b->G a b)->W2 G l₁ l₂
 | _,_,.nil,_=>.nil
 | _,_,.cons r t,f=>.cons (f _ _ r) (Paired.mapP t f)
def Paired.imp' {α c:Type}{F G:α->c->Prop}(f:∀a b,F a b->G a b){l₁:List α}{l₂:List c}(r:W2 F l₁ l₂):W2 G l₁ l₂:=Paired.mapP r f
def qP.stay (x:qP P w H h a o)(k:∀b u,(b=a\/H b=some (.own a))->h.get? b=some u->h'.get? b=some u)
  (D:∀b,H b=some (.own a)->H' b=some (.own a)) (E:∀b xs,H b=some (.tup xs)->H' b=some (.tup xs)):qP P w H' h' a o:=by
 induction o with
 | lst xs=>obtain⟨z,j,n,r,e⟩:=x;exact⟨z,j,n,r,k _ _ (.inl rfl) e⟩
 | tup xs=>obtain⟨z,j,r,ob,e,c⟩:=x;exact⟨z,j,r,ob,k _ _ (.inl rfl) e,c⟩
 | dK l=>revert x;refine fB λz y J r=>fC λob i g e c=>?_;exact⟨z,y,J,r,ob,i,g,k _ _ (.inl rfl) e,c⟩
 | dT l =>
  revert x;refine fB λz y xs r=>fC λob i g e c=>?_;exact dD z y (dY xs (Paired.mapP r λp q z=>⟨z.1,E _ _ z.2.1,z.2.2⟩) (dF ob i (dY g (k _ _ (.inl rfl) e) c)))
 | set S n=>revert x;refine eZ λob i g t e c=>?_;exact⟨ob,i,g,t,k _ _ (.inl rfl) e,c⟩
 | ins C L fs =>
  obtain⟨d,z,I,e,m,⟨s,i,g,B,c⟩,r⟩:=x;exact⟨D _ d,z,I,k _ _ (.inl rfl) e,m,⟨s,i,g,k _ _ (.inr d) B,c⟩,r⟩
 | own y=>obtain⟨ob,e⟩:=x;exact⟨ob,k _ _ (.inl rfl) e⟩
 | xd fs=>obtain⟨m,⟨s,i,g,e,c⟩,r⟩:=x;exact⟨m,⟨s,i,g,k _ _ (.inl rfl) e,c⟩,r⟩
 | rng lo M=>obtain⟨t,u,v,e⟩:=x;exact⟨t,u,v,k _ _ (.inl rfl) e⟩
 | frz ob u G=>obtain⟨e,q⟩:=x;exact⟨k _ _ (.inl rfl) e,G q⟩
 | tbl A =>
  have e:h.get? a=some { cls:=.none,data:=.fields A }:=x;show h'.get? a=some { cls:=.none,data:=.fields A };exact k a _ (.inl rfl) e
 | met f y =>
  have e:h.get? a=some (QQ (.ref f) (.ref y)):=x;show h'.get? a=some (QQ (.ref f) (.ref y));exact k a _ (.inl rfl) e
 | ext N=>obtain⟨p,⟨o,e⟩,st⟩:=x;exact⟨st _ _ p λo q=>k _ _ (.inl rfl) q,⟨o,k _ _ (.inl rfl) e⟩,st⟩
theorem HOk.lt (x:HOk P w H h)(e:H a=some o):a<h.objs.size:=(x a o e).lt
def HOk.fresh (x:HOk P w H h)(e:h.objs.size<=a):H a=none:=by
 cases q:H a with
 | none=>rfl
 | some u=>exact absurd (Xd (x.lt q) e) (VA _)
def HOk.kept (x:HOk P w H h)(k:∀b u,h.get? b=some u->h'.get? b=some u):HOk P w H h':=λa o e =>
 (x a o e).stay (λb u _ q=>k b u q) (λ_ q=>q) λ_ _ q=>q
def HOk.laid (x:HOk P w H h)(k:∀b u,h.get? b=some u->h'.get? b=some u)(g:h.objs.size<=a)(new:qP P w (upd H a o) h' a o):HOk P w (upd H a o) h':=λb u e=>by
 have f:=x.fresh g;by_cases d:b=a
 .subst d;rw[zc]at e;cases e;exact new
 .rw[zp d]at e;exact(x b u e).stay (λc v _ q=>k c v q) (λc q=>by rw[zp (zj q f)];exact q) λc i q=>by rw[zp (zj q f)];exact q
end
def Rd (H:Hp)(a:Addr)(u:HO):Prop:=H a=some u\/∃o,H a=some (.frz o u)
def Rd.ok {P:Xm}{w:W1}{H:Hp}{h:Heap}{a:Addr}{u:HO}(r:Rd H a u)(x:HOk P w H h):qP P w H h a u:=by
 rcases r with r | ⟨o,r⟩
 .exact x a u r
 .obtain⟨_,q⟩:=x a _ r;exact q
def Mut:Option HO->Prop
 | some (.lst _)=>True
 | some (.dK _)=>True
 | some (.dT _)=>True
 | some (.set _ _)=>True
 | some (.ins _ _ _)=>True
 | some (.ext _)=>True
 | _=>False
section
variable {P:Xm}{w:W1}{H:Hp}{h h':Heap}{x e:Addr}{o':HO}
def HOk.write (ok:HOk P w H h)(i:Mut (H x))(he:e=x\/H e=some (.own x))(k:∀b u,b≠e->h.get? b=some u->h'.get? b=some u)(l:∃u,h'.get? e=some u)
  (new:qP P w (upd H x o') h' x o'):HOk P w (upd H x o') h':=λb u q=>by
 have d:∀c y,H c=some (.own y)->c≠x:=λc y r z=>by subst z;rw[r]at i;exact i
 have f:∀c j,H c=some (.tup j)->c≠x:=λc j r z=>by subst z;rw[r]at i;exact i
 by_cases g:b=x
 .subst g;rw[zc]at q;cases q;exact new
 .rw[zp g]at q;by_cases a:b=e
  .have m:H b=some (.own x):=by
    rcases he with z | z
    .exact absurd (a.trans z) g
    .rw[a];exact z
   rw[q]at m;cases m;obtain⟨v,n⟩:=l;exact⟨v,by rw[a];exact n⟩
  .refine(ok b u q).stay (λc v hc r=>k c v ?_ r) (λc r=>by rw[zp (d c b r)];exact r) λc j r=>by rw[zp (f c j r)];exact r
   rcases hc with rfl | hc
   .exact a
   .rintro rfl;rcases he with z | z
    .exact d c b hc z
    .rw[hc]at z;cases z;exact g rfl
end
structure Un (fs ex:List Addr)(H H':Hp)(h h':Heap):Prop where
 keep:∀b o,h.get? b=some o->H b=none->b ∉ fs->b ∉ ex->h'.get? b=some o
 slot:∀b o,h.get? b=some o->H b=none->b∈fs->b ∉ ex->∃sl,h'.get? b=some { o with slots:=sl }
 free:∀b o,h.get? b=some o->H b=none->b ∉ ex->H' b=none
 there:∀b o,h.get? b=some o->b ∉ ex->∃o',h'.get? b=some o'
 tups:∀b xs,H b=some (.tup xs)->H' b=some (.tup xs)
 frzs:∀b o u,H b=some (.frz o u)->H' b=some (.frz o u)
 tbls:∀b ps,H b=some (.tbl ps)->∃more,H' b=some (.tbl (ps++more))
section
variable {fs fs' ex ex':List Addr}{H H1 H2:Hp}{h h1 h2 h':Heap}{a x e:Addr}{o:HO}
def Un.any (u:Un fs ex H H1 h h1){b:Addr}{ob:Obj}(q:h.get? b=some ob)(n:H b=none)(c:b ∉ ex):∃d,h1.get? b=some { ob with slots:=d }:=by
 by_cases a:b∈fs
 .exact u.slot b ob q n a c
 .exact⟨ob.slots,u.keep b ob q n a c⟩
def Un.kept (k:∀b u,h.get? b=some u->h'.get? b=some u):Un fs ex H H h h' :=
 ⟨λb ob q _ _ _=>k b ob q,λb ob q _ _ _=>⟨ob.slots,k b ob q⟩,λ_ _ _ n _=>n,λb ob q _=>⟨ob,k b ob q⟩,λ_ _ q=>q,λ_ _ _ q=>q,λ_ a q=>⟨#[],by rw[q];simp⟩⟩
def Un.refl:Un fs ex H H h h:=Un.kept λ_ _ q=>q
def Un.laid (k:∀b u,h.get? b=some u->h'.get? b=some u)(hp:h.objs.size<=a)(hn:H a=none):Un fs ex H (upd H a o) h h' where
 keep:=λb u q _ _ _=>k b u q
 slot:=λb u q _ _ _=>⟨u.slots,k b u q⟩
 free:=λb u q n _=>by rw[zp (Xl (Xd (XD q) hp))];exact n
 there:=λb u q _=>⟨u,k b u q⟩
 tups:=λb xs q=>by rw[zp (zj q hn)];exact q
 frzs:=λb u xs q=>by rw[zp (zj q hn)];exact q
 tbls:=λb ps q=>⟨#[],by rw[zp (zj q hn),q];simp⟩
def Un.write (c:Mut (H x))(he:e=x\/H e=some (.own x))(k:∀b u,b≠e->h.get? b=some u->h'.get? b=some u)(d:∃u,h'.get? e=some u):Un fs ex H (upd H x o) h h':=by
 have i:∀b,H b=none->b≠x:=λb n z=>by subst z;rw[n]at c;exact c
 have g:∀b,H b=none->b≠e:=λb n z=>by
  subst z;rcases he with r | r
  .exact i b n r
  .rw[n]at r;cases r
 have f:∀b u,H b=some u->¬ Mut (some u)->b≠x:=λb u q j z=>by subst z;rw[q]at c;exact j c
 refine⟨λb u q n _ _=>k b u (g b n) q,λb u q n _ _=>⟨u.slots,k b u (g b n) q⟩,λb u q n _=>by rw[zp (i b n)];exact n,λb u q _=>?_,λb l q=>by rw[zp (f b _ q λz=>z)];exact q,λb u l q=>by rw[zp (f b _ q λz=>z)];exact q,λb m q=>⟨#[],by rw[zp (f b _ q λz=>z),q];simp⟩⟩
 by_cases a:b=e
 .subst a;exact d
 .exact⟨u,k b u a q⟩
end
def trk (h:Heap)(H:Hp):List Addr:=(Wc h.objs.size).filter λa=>(H a).isSome
def QT (h:Heap)(H:Hp):Heap:=PySem.W.hideAll h (trk h H)
def zj0 (h:Heap)(H:Hp):(QT h H).objs.size=h.objs.size:=PySem.W.hideAll_size _ _
def zlg {h:Heap}{H:Hp}{b:Addr}{o:Obj}(e:h.get? b=some o)(n:H b=none):(QT h H).get? b=some o :=
 PySem.W.hideAll_get _ e λa=>by
  have q:(H b).isSome=true:=(XS.mp a).2;rw[n]at q;simp at q
def znG {h:Heap}{H:Hp}{b:Addr}{o:Obj}(e:(QT h H).get? b=some o):h.get? b=some o/\H b=none:=by
 have a:h.get? b=some o:=PySem.W.of_hideAll (trk h H) e;refine⟨a,?_⟩;cases q:H b with
 | none=>rfl
 | some x =>
  have c:b∈trk h H:=XS.mpr ⟨VL.mpr (XD a),by simp[q]⟩;have z:(QT h H).get? b=none:=PySem.W.hideAll_none (trk h H) c;rw[z]at e;cases e
structure Mod (K:XW)(mg:Str->Option X9)(base:Heap):Prop where
 kin:K.In base
 glob:base.Ns XR mg
 blt:∃mb,base.Ns Rw mb/\∀x:Str,x ≠ "__name__"->mb x=SD x
 nolimit:base.NoLimit
structure Cx where
 prog:Xm
 w:W1
 K:XW
 mg:Str->Option X9
 base:Heap
 A:WN
 N:AE
 s₀:X7
 H₀:Hp
 env:Env
 outer:List Env
 stack:List Env
 ex:List Addr
 fn:Str->Bool
 calm:Bool
 pn:List (Addr×Obj)
 xe:X9->X7->Prop
def frs (l:List Env):List Addr:=l.filterMap (·.frame)
abbrev Cx.fs (X:Cx):List Addr:=frs X.outer
def Vis (a:UC)(x:Str):Prop:=a.names.lookup x=some .local\/a.names.lookup x=some .cell\/a.names.lookup x=some .free
def Loc (a:UC)(x:Str):Prop:=a.names.lookup x=some .local\/a.names.lookup x=some .cell
def Look (a:Env)(h:Heap)(m:Str->Option X9)(x:Str)(u:X9):Prop :=
 (a.kindOf x=some .local/\m x=some u)\/((a.kindOf x=some .cell\/a.kindOf x=some .free)/\∃c,a.cells.lookup x=some c/\h.IsCell c (some u))
structure Cx.Ok (X:Cx):Prop where
 mod:Mod X.K X.mg X.base
 kind:X.env.scope.kind=.function
 glob:X.env.globals=XR
 blt:X.env.builtins=Rw
 above:X.s₀.heap.objs.size<=X.env.locals
 inj:∀x y c,X.env.cells.lookup x=some c->X.env.cells.lookup y=some c->x=y
 has:∀x,(X.env.kindOf x=some .cell\/X.env.kindOf x=some .free)->∃c,X.env.cells.lookup x=some c
 cab:∀x c,X.fn x=true->X.env.cells.lookup x=some c->X.s₀.heap.objs.size<=c
 hd:X.calm=true->X.A.handled=none
 frames:X.A.frames=some X.stack
 stk:X.stack=X.outer\/(X.stack=X.env::X.outer/\X.env.frame=some X.env.locals)
 exf:∀b∈X.ex,b≠X.env.locals/\∀x c,X.env.cells.lookup x=some c->c≠b
 bs:∀b o,X.base.get? b=some o->X.s₀.heap.get? b=some o/\X.H₀ b=none
 bsz:X.base.objs.size<=X.s₀.heap.objs.size
 noex:∀b o,X.base.get? b=some o->b ∉ X.ex
 exfs:∀b∈X.ex,b ∉ X.fs
 funs:X.s₀.heap.FunFrames X.base X.outer
 frf:∀b∈X.fs,X.H₀ b=none
structure Inv (X:Cx)(bz:List (Addr×Obj))(σ:List (Option V))(H:Hp)(s:X7):Prop where
 ok:X.Ok
 os:s.os=X.s₀.os
 bare:Ra s.gens
 base:Un X.fs X.ex X.H₀ H X.s₀.heap s.heap
 loc:∃m,s.heap.Ns X.env.locals m/\∀(i:Nat) (x:Str) (v:V),X.N[i]?=some x->σ[i]?=some (some v)->Vis X.env.scope x->∃u,RelV v u/\Look X.env s.heap m x u
 cell:∀x c,X.env.cells.lookup x=some c->∃v,s.heap.IsCell c v
 free:H X.env.locals=none
 freeC:∀x c,X.env.cells.lookup x=some c->H c=none
 pin:∀p∈X.pn++bz,s.heap.get? p.1=some p.2/\H p.1=none/\p.1≠X.env.locals/\p.1 ∉ X.fs/\∀v,p.2.data ≠ .cell v
 hok:HOk X.prog X.w H s.heap
 len:σ.length=X.N.length
section
variable {X:Cx}{bz:List (Addr×Obj)}{σ:List (Option V)}{H H':Hp}{s:X7}{h':Heap}
def Cx.Ok.nofr (ok:X.Ok){b:Addr}{o:Obj}(e:X.base.get? b=some o):b ∉ X.fs:=λa=>by
 have:=(ok.funs.mem a).1;rw[e]at this;cases this
theorem Inv.bs (I:Inv X bz σ H s):∀b o,X.base.get? b=some o->s.heap.get? b=some o/\H b=none:=λb o e =>
 ⟨I.base.keep b o (I.ok.bs b o e).1 (I.ok.bs b o e).2 (I.ok.nofr e) (I.ok.noex b o e),I.base.free b o (I.ok.bs b o e).1 (I.ok.bs b o e).2 (I.ok.noex b o e)⟩
def Inv.bk (I:Inv X bz σ H s):∀b o,X.base.get? b=some o->s.heap.get? b=some o:=λb o e=>(I.bs b o e).1
theorem Inv.mod (I:Inv X bz σ H s):Mod X.K X.mg X.base:=I.ok.mod
def Inv.kIn (I:Inv X bz σ H s):X.K.In s.heap:=I.ok.mod.kin.keeps I.bk
theorem Inv.lt (I:Inv X bz σ H s):X.env.locals<s.heap.objs.size:=let ⟨_,hn,_⟩:=I.loc;hn.lt
def Inv.sz (I:Inv X bz σ H s):X.s₀.heap.objs.size<=s.heap.objs.size:=X5 I.ok.above (Tt I.lt)
def Inv.nofs (I:Inv X bz σ H s){a:Addr}(h:s.heap.objs.size<=a):a ∉ X.fs:=λb=>by
 obtain⟨_,o,c,_⟩:=I.ok.funs.mem b;exact absurd (Xd (XD c) (X5 I.sz h)) (VA _)
def Inv.cne (I:Inv X bz σ H s):∀x c,X.env.cells.lookup x=some c->c≠X.env.locals:=λx c e z=>by
 obtain⟨v,o,f,d⟩:=I.cell x c e;obtain⟨m,⟨i,h,g,b,a,_⟩,_⟩:=I.loc;rw[z,b]at f;cases f;rw[a]at d;cases d
theorem Inv.funs (I:Inv X bz σ H s):s.heap.FunFrames X.base X.outer:=by
 have all:∀(l:List Env),(∀b∈frs l,b∈X.fs)->X.s₀.heap.FunFrames X.base l->s.heap.FunFrames X.base l:=by
  intro l;induction l with
  | nil=>intro _ _;trivial
  | cons g r n =>
   intro f i;obtain⟨hk,⟨L,o,d,j,k,h⟩,m⟩:=i;have a:L∈X.fs:=f L (by unfold frs;rw[UU,d];exact XX);obtain⟨p,e⟩:=I.base.slot L o k (I.ok.frf L a) a λz=>I.ok.exfs L z a;exact⟨hk,⟨L,_,d,j,e,h⟩,n (λb c=>f b (by unfold frs;rw[UU,d];exact XY _ c)) m⟩
 exact all X.outer (λ_ c=>c) I.ok.funs
theorem Inv.stack (I:Inv X bz σ H s):s.heap.FunFrames X.base X.stack:=by
 rcases I.ok.stk with e | ⟨e,a⟩
 .rw[e];exact I.funs
 .rw[e];obtain⟨m,b,_⟩:=I.loc;refine .cons (by rw[I.ok.kind];decide) a b ?_ I.funs;exact Uv (X5 I.ok.bsz I.ok.above)
def Inv.stkSub (I:Inv X bz σ H s):∀b∈frs X.stack,b∈X.env.locals::X.fs:=λb a=>by
 rcases I.ok.stk with e | ⟨e,c⟩
 .rw[e]at a;exact XY _ a
 .rw[e]at a;unfold frs at a;rw[UU,c]at a;exact a
def Inv.stkFree (I:Inv X bz σ H s):∀b∈frs X.stack,H b=none:=λb hb=>by
 rcases XH.mp (I.stkSub b hb) with e | hb
 .rw[e];exact I.free
 .obtain⟨_,o,a,_⟩:=I.ok.funs.mem hb;exact I.base.free b o a (I.ok.frf b hb) λz=>I.ok.exfs b z hb
def Inv.step {g':Array RR}{t':Nat}{d':Drawn}{ch:List Addr}(I:Inv X bz σ H s)
  (g:∀b∈ch,(b∈X.ex\/X.s₀.heap.objs.size<=b)/\b≠X.env.locals/\(∀x c,X.env.cells.lookup x=some c->c≠b)/\∀p∈X.pn++bz,p.1≠b)
  (keep:∀b o,b≠X.env.locals->b ∉ X.fs->b ∉ ch->s.heap.get? b=some o->H b=none->h'.get? b=some o)
  (A:∀b o,b≠X.env.locals->b∈X.fs->b ∉ ch->s.heap.get? b=some o->H b=none->∃sl,h'.get? b=some { o with slots:=sl }) (free:∀b o,b ∉ ch->s.heap.get? b=some o->H b=none->H' b=none)
  (E:∀b o,b ∉ ch->s.heap.get? b=some o->∃N,h'.get? b=some N)
  (Q:∀b B,H b=some (.tup B)->H' b=some (.tup B)) (L:∀b o u,H b=some (.frz o u)->H' b=some (.frz o u)) (O:∀b U,H b=some (.tbl U)->∃more,H' b=some (.tbl (U++more)))
  (ns:∀m,s.heap.Ns X.env.locals m->h'.Ns X.env.locals m) (aa:HOk X.prog X.w H' h') (hg:Ra g') :
  Inv X bz σ H' { s with heap:=h',gens:=g',drawn:=d',toks:=t' }:=by
 have M:∀b o,X.s₀.heap.get? b=some o->b≠X.env.locals:=λb o e=>Xl (Xd (XD e) I.ok.above);have y:∀b o,X.s₀.heap.get? b=some o->b ∉ X.ex->b ∉ ch:=λb o e a D=>by
  rcases(g b D).1 with z | z
  .exact a z
  .exact absurd (Xd (XD e) z) (VA _)
 have f:∀x c,X.env.cells.lookup x=some c->∀v,s.heap.IsCell c v->h'.IsCell c v:=λx c e v ⟨o,G,Y⟩=>by
  have h:c ∉ ch:=λz=>(g c z).2.2.1 x c e rfl;by_cases hc:c∈X.fs
  .obtain⟨sl,q⟩:=A c o (I.cne x c e) hc h G (I.freeC x c e);exact⟨_,q,Y⟩
  .exact⟨o,keep c o (I.cne x c e) hc h G (I.freeC x c e),Y⟩
 refine⟨I.ok,I.os,hg,⟨λb o e n D a=>?_,λb o e n D a=>?_,λb o e n a=>?_,λb o e a=>?_,λb B e=>Q b B (I.base.tups b B e),λb o B e=>L b o B (I.base.frzs b o B e),λb U e=>?_⟩,?_,λx c e=>?_,?_,λx c e=>?_,λp hp=>?_,aa,I.len⟩
 .exact keep b o (M b o e) D (y b o e a) (I.base.keep b o e n D a) (I.base.free b o e n a)
 .obtain⟨sl,j⟩:=I.base.slot b o e n D a;obtain⟨ab,J⟩:=A b _ (M b o e) D (y b o e a) j (I.base.free b o e n a);exact⟨ab,J⟩
 .obtain⟨N,j⟩:=I.base.there b o e a;exact free b N (y b o e a) j (I.base.free b o e n a)
 .obtain⟨N,j⟩:=I.base.there b o e a;exact E b N (y b o e a) j
 .obtain⟨m1,j⟩:=I.base.tbls b U e;obtain⟨m2,J⟩:=O b _ j;exact⟨m1++m2,by rw[J,Array.append_assoc]⟩
 .obtain⟨m,hn,hl⟩:=I.loc;refine⟨m,ns m hn,λi x v j J e3=>?_⟩;obtain⟨u,r,l⟩:=hl i x v j J e3;refine⟨u,r,?_⟩;rcases l with l | ⟨k,c,e,z⟩
  .exact .inl l
  .exact .inr ⟨k,c,e,f x c e _ z⟩
 .obtain⟨v,z⟩:=I.cell x c e;exact⟨v,f x c e v z⟩
 .obtain⟨m,⟨o,_,_,G,_⟩,_⟩:=I.loc;exact free _ o (λz=>(g _ z).2.1 rfl) G I.free
 .obtain⟨v,o,G,Y⟩:=I.cell x c e;exact free c o (λz=>(g c z).2.2.1 x c e rfl) G (I.freeC x c e)
 .obtain⟨e,n,ne,nf,d⟩:=I.pin p hp;have h:p.1 ∉ ch:=λz=>(g p.1 z).2.2.2 p hp rfl;exact⟨keep p.1 p.2 ne nf h e n,free p.1 p.2 h e n,ne,nf,d⟩
def Inv.un {t':Nat}(I:Inv X bz σ H s)(u:Un X.fs [] H H' s.heap h')(g:HOk X.prog X.w H' h'):Inv X bz σ H' { s with heap:=h',toks:=t' }:=by
 obtain⟨m,⟨o,p,l,h,r⟩,_⟩:=id I.loc;obtain⟨x,i⟩:=u.any h I.free (by simp);exact I.step (g':=s.gens) (d':=s.drawn) (ch:=[]) (λ_ z=>nomatch z) (λb o _ f _ e n=>u.keep b o e n f (by simp)) (λb o _ f _ e n=>u.slot b o e n f (by simp)) (λb o _ e n=>u.free b o e n (by simp)) (λb o _ e=>u.there b o e (by simp)) u.tups u.frzs u.tbls (λq j=>by
  obtain⟨v,d,c,a,k⟩:=j;rw[h]at a;cases a;exact⟨_,d,c,i,k⟩) g I.bare
def Inv.call {g':Array RR}{t':Nat}{d':Drawn}{ch:List Addr}(I:Inv X bz σ H s)(u:Un (frs X.stack) ch H H' s.heap h')(j:HOk X.prog X.w H' h')(q:Ra g')
  (d:∀b∈ch,(b∈X.ex\/X.s₀.heap.objs.size<=b)/\b≠X.env.locals/\(∀x c,X.env.cells.lookup x=some c->c≠b)/\∀p∈X.pn++bz,p.1≠b) :
  Inv X bz σ H' { s with heap:=h',gens:=g',drawn:=d',toks:=t' }:=by
 obtain⟨m,⟨o,B,A,k,r⟩,_⟩:=id I.loc;obtain⟨G,i⟩:=u.any k I.free λz=>(d _ z).2.1 rfl;exact I.step (ch:=ch) d (λb o i l a e n=>u.keep b o e n (λz=>(XH.mp (I.stkSub b z)).elim i l) a) (λb o _ _ a e n=>u.any e n a) (λb o a e n=>u.free b o e n a) (λb o a e=>u.there b o e a) u.tups u.frzs u.tbls (λD v=>by
  obtain⟨E,h,g,f,y⟩:=v;rw[k]at f;cases f;exact⟨_,h,g,i,y⟩) j q
def Inv.turned {t':Nat}{it:Addr}(I:Inv X bz σ H s)(k:∀b o,b≠it->s.heap.get? b=some o->h'.get? b=some o)(w:H it=none)(f:it≠X.env.locals)
  (h1:it∈X.ex\/X.s₀.heap.objs.size<=it) (h2:∀x c,X.env.cells.lookup x=some c->c≠it) (i:∀p∈X.pn++bz,p.1≠it):Inv X bz σ H { s with heap:=h',toks:=t' }:=by
 have d:∀b u,H b=some u->b≠it:=λb u e z=>by rw[z,w]at e;cases e
 refine I.step (g':=s.gens) (d':=s.drawn) (ch:=[it]) (λb j=>?_) (λb o _ _ a e _=>k b o (λz=>a (by simp[z])) e) (λb o _ _ a e _=>⟨o.slots,k b o (λz=>a (by simp[z])) e⟩) (λ_ _ _ _ n=>n)
  (λb o a e=>⟨o,k b o (λz=>a (by simp[z])) e⟩) (λ_ _ e=>e) (λ_ _ _ e=>e) (λb A e=>⟨#[],by rw[e];simp⟩) (λm l=>?_) (λb u e=>?_) I.bare
 .have e:b=it:=by simpa using j
  subst e;exact⟨h1,f,h2,i⟩
 .obtain⟨o,h,g,y,r⟩:=l;exact⟨o,h,g,k _ o (UQ f) y,r⟩
 .refine(I.hok b u e).stay (λc v a q=>k c v ?_ q) (λ_ q=>q) λ_ _ q=>q;rcases a with z | z
  .rw[z];exact d b u e
  .exact d c _ z
def Inv.tok (I:Inv X bz σ H s)(t:Nat):Inv X bz σ H { s with toks:=t }:=I.un (h':=s.heap) (t':=t) Un.refl I.hok
theorem Inv.kept {t':Nat}(I:Inv X bz σ H s)(k:∀b u,s.heap.get? b=some u->h'.get? b=some u):Inv X bz σ H { s with heap:=h',toks:=t' }:=I.un (Un.kept k) (I.hok.kept k)
theorem Inv.laid {a:Addr}{o:HO}{t':Nat}(I:Inv X bz σ H s)(k:∀b u,s.heap.get? b=some u->h'.get? b=some u)(c:s.heap.objs.size<=a)(new:qP X.prog X.w (upd H a o) h' a o) :
  Inv X bz σ (upd H a o) { s with heap:=h',toks:=t' }:=I.un (Un.laid k c (I.hok.fresh c)) (I.hok.laid k c new)
theorem Inv.write {x e:Addr}{o:HO}{t':Nat}(I:Inv X bz σ H s)(c:Mut (H x))(he:e=x\/H e=some (.own x))(k:∀b u,b≠e->s.heap.get? b=some u->h'.get? b=some u)(a:∃u,h'.get? e=some u)
  (new:qP X.prog X.w (upd H x o) h' x o):Inv X bz σ (upd H x o) { s with heap:=h',toks:=t' }:=I.un (Un.write c he k a) (I.hok.write c he k a new)
def Inv.pins_of {a:List (Addr×Obj)}(I:Inv X bz σ H s)(h:∀p∈a,s.heap.get? p.1=some p.2/\H p.1=none/\p.1≠X.env.locals/\p.1 ∉ X.fs/\∀v,p.2.data ≠ .cell v):Inv X a σ H s :=
 ⟨I.ok,I.os,I.bare,I.base,I.loc,I.cell,I.free,I.freeC,λp b=>(XG.mp b).elim (λz=>I.pin p (WV _ z)) (h p),I.hok,I.len⟩
def zf6 {N:AE}(e:N.Nodup){i j:Nat}{x:Str}(a:N[i]?=some x)(b:N[j]?=some x):i=j:=by
 obtain⟨h1,c⟩:=XZ.mp a;obtain⟨h2,d⟩:=XZ.mp b;exact(List.getElem_inj e).mp (c.trans d.symm)
def zei {M:NX}{A:WN}{E:X9->X7->Prop}{i:Nat}{x:Str}{v:V}{u:X9}{Q:Unit->X7->Prop}(I:Inv X bz σ H s)(hN:X.N.Nodup)(hi:X.N[i]?=some x)(B:Loc X.env.scope x)(r:RelV v u)
  (h:∀s',Inv X bz (σ.set i (some v)) H s'->(∃a,V8 a s.heap s'.heap/\(a=X.env.locals\/X.env.cells.lookup x=some a))->Q () s') (hf:X.fn x=true\/X.env.scope.names.lookup x=some .local:=by first | exact .inl rfl | exact .inr rfl | assumption):Xv M A (storeName X.env x u) Q E s:=by
 obtain⟨m,hn,hl⟩:=id I.loc;have ab:(X.env.scope.kind == .class || (X.env.scope.kind == .module&&X.env.locals != X.env.globals))=false:=by rw[I.ok.kind];rfl
 have J:i < σ.length:=by rw[I.len];exact(XZ.mp hi).1
 have cne:=I.cne;have l:∀{a:Addr} {h':Heap},(∃o,s.heap.get? a=some o/\H a=none)->V8 a s.heap h'->HOk X.prog X.w H h':=λ{a h'} ha f b ob e=>by
  obtain⟨_,_,D⟩:=ha;refine(I.hok b ob e).stay (λc w' hc q=>(f.2 c ?_).trans q) (λ_ q=>q) λ_ _ q=>q;rintro rfl;rcases hc with rfl | hc
  .rw[D]at e;cases e
  .rw[D]at hc;cases hc
 rcases B with hk | hk
 .refine wpAny_storeName_local hk hn (λh' af f=>?_) ab;obtain⟨oL,_,_,ag,_⟩:=id hn;refine h _ ⟨I.ok,I.os,I.bare,⟨λb o e n L B=>?_,λb o e n L B=>?_,I.base.free,λb o e B=>?_,I.base.tups,I.base.frzs,I.base.tbls⟩,⟨_,af,λj y v' g G e3=>?_⟩,λy c e=>?_,I.free,I.freeC,λp hp=>?_,l ⟨oL,ag,I.free⟩ f,by simpa using I.len⟩ ⟨_,f,.inl rfl⟩
  .exact(f.2 b (Xl (Xd (XD e) I.ok.above))).trans (I.base.keep b o e n L B)
  .obtain⟨sl,g⟩:=I.base.slot b o e n L B;exact⟨sl,(f.2 b (Xl (Xd (XD e) I.ok.above))).trans g⟩
  .obtain⟨o',g⟩:=I.base.there b o e B;exact⟨o',(f.2 b (Xl (Xd (XD e) I.ok.above))).trans g⟩
  .by_cases U:j=i
   .subst U;rw[hi]at g;cases g;rw[Pk J]at G;cases G;exact⟨u,r,.inl ⟨hk,by simp⟩⟩
   .rw[OG (UQ U)]at G;obtain⟨u',r',q⟩:=hl j y v' g G e3;refine⟨u',r',?_⟩;rcases q with ⟨k,e⟩ | ⟨k,c,e,z⟩
    .refine .inl ⟨k,?_⟩;have:y≠x:=λe=>U (zf6 hN g (e ▸ hi));simp[this,e]
    .exact .inr ⟨k,c,e,z.sameBut f (cne y c e)⟩
  .obtain⟨w',z⟩:=I.cell y c e;exact⟨w',z.sameBut f (cne y c e)⟩
  .obtain⟨e,n,ne,nf,d⟩:=I.pin p hp;exact⟨(f.2 p.1 ne).trans e,n,ne,nf,d⟩
 .have O:X.fn x=true:=by
   rcases hf with z | z
   .exact z
   .rw[z]at hk;cases hk
  obtain⟨c,hc⟩:=I.ok.has x (.inl hk);obtain⟨w',z⟩:=I.cell x c hc;refine wpAny_storeName_cell I.ok.kind hk hc z (λh' Y f=>?_);obtain⟨oc,ac,ae⟩:=id z;refine h { s with heap:=h' } ⟨I.ok,I.os,I.bare,⟨λb o e n L B=>?_,λb o e n L B=>?_,I.base.free,λb o e B=>?_,I.base.tups,I.base.frzs,I.base.tbls⟩,⟨m,hn.sameBut f (UQ (cne x c hc)),λj y v' g G e3=>?_⟩,λy c' e=>?_,I.free,I.freeC,λp hp=>?_,l ⟨oc,ac,I.freeC x c hc⟩ f,by simpa using I.len⟩ ⟨c,f,.inr hc⟩
  .exact(f.2 b (Xl (Xd (XD e) (I.ok.cab x c O hc)))).trans (I.base.keep b o e n L B)
  .obtain⟨sl,g⟩:=I.base.slot b o e n L B;exact⟨sl,(f.2 b (Xl (Xd (XD e) (I.ok.cab x c O hc)))).trans g⟩
  .obtain⟨o',g⟩:=I.base.there b o e B;exact⟨o',(f.2 b (Xl (Xd (XD e) (I.ok.cab x c O hc)))).trans g⟩
  .by_cases U:j=i
   .subst U;rw[hi]at g;cases g;rw[Pk J]at G;cases G;exact⟨u,r,.inr ⟨.inl hk,c,hc,Y⟩⟩
   .rw[OG (UQ U)]at G;obtain⟨u',r',q⟩:=hl j y v' g G e3;refine⟨u',r',?_⟩;rcases q with q | ⟨k,c',e,z'⟩
    .exact .inl q
    .refine .inr ⟨k,c',e,z'.sameBut f ?_⟩;rintro rfl;exact U (zf6 hN g (I.ok.inj _ _ _ e hc ▸ hi))
  .by_cases aa:c'=c
   .subst aa;exact⟨_,Y⟩
   .obtain⟨w2,z2⟩:=I.cell y c' e;exact⟨w2,z2.sameBut f aa⟩
  .obtain⟨e,n,ne,nf,d⟩:=I.pin p hp;refine⟨(f.2 p.1 ?_).trans e,n,ne,nf,d⟩;intro q;rw[q,ac]at e;have q':oc=p.2:=Option.some.inj e;exact d w' (by rw[<- q'];exact ae)
def zcH {M:NX}{A:WN}{E:X9->X7->Prop}{i:Nat}{x:Str}{v:V}{u:X9}{Q:Unit->X7->Prop}(I:Inv X bz σ H s)(b:X.N.Nodup)(d:X.N[i]?=some x)(e:Loc X.env.scope x)(r:RelV v u)
  (h:∀s',Inv X bz (σ.set i (some v)) H s'->Q () s') (c:X.fn x=true\/X.env.scope.names.lookup x=some .local:=by first | exact .inl rfl | exact .inr rfl | assumption):Xv M A (storeName X.env x u) Q E s :=
 zei I b d e r (λs' a _=>h s' a) c
def Inv.call' {s':X7}{ch:List Addr}(I:Inv X bz σ H s)(g:s'.os=s.os)(u:Un (frs X.stack) ch H H' s.heap s'.heap)(d:HOk X.prog X.w H' s'.heap)(f:Ra s'.gens)
  (a:∀b∈ch,(b∈X.ex\/X.s₀.heap.objs.size<=b)/\b≠X.env.locals/\(∀x c,X.env.cells.lookup x=some c->c≠b)/\∀p∈X.pn++bz,p.1≠b):Inv X bz σ H' s':=by
 obtain⟨h',g',d',t',h⟩:=s';have e:h=s.os:=g;subst e;exact I.call (g':=g') (t':=t') (d':=d') u d f a
end
abbrev XK:=X9->Option Addr->Hp->Prop
abbrev St:=List (Option V)
abbrev VK:=V->Hp->Prop
abbrev TE:=St->Hp->VK->Prop
abbrev TT:=St->Hp->(Bool->Hp->Prop)->Prop
abbrev TA:=St->Hp->(AF->Hp->Prop)->Prop
structure Ends where
 nx:St->Hp->Prop
 rt:VK
 bk:St->Hp->Prop:=λ_ _=>False
 ct:St->Hp->Prop:=λ_ _=>False
abbrev TS:=Ends->St->Hp->Prop
def EP (X:Cx)(b:List (Addr×Obj))(c:St)(Q:VK)(u:X9)(s':X7):Prop:=∃v a,Inv X b c a s'/\RelV v u/\Q v a
def TP (X:Cx)(c:List (Addr×Obj))(d:St)(Q:Bool->Hp->Prop)(b:Bool)(s':X7):Prop:=∃a,Inv X c d a s'/\Q b a
def AP (X:Cx)(c:List (Addr×Obj))(e:St)(Q:AF->Hp->Prop)(d:List X9)(s':X7):Prop:=∃b a,Inv X c e a s'/\Vals b d/\Q b a
def SP (X:Cx)(c:List (Addr×Obj))(D:Ends)(f:Flow)(s':X7):Prop :=
 match f with
 | .next=>∃ a b,Inv X c a b s'/\D.nx a b
 | .brk=>∃ a b,Inv X c a b s'/\D.bk a b
 | .cont=>∃ a b,Inv X c a b s'/\D.ct a b
 | .ret u=>∃v a b,Inv X c a b s'/\RelV v u/\D.rt v b
def PE (X:Cx)(e:Expr)(t:TE):Prop :=
 ∀(b:List (Addr×Obj)) (s:X7) (a:St) (H:Hp) (Q:VK),Inv X b a H s->t a H Q->Xv (Xr X.prog X.w) X.A (eval e X.env) (EP X b a Q) X.xe s
def PT (X:Cx)(e:Expr)(t:TT):Prop :=
 ∀(b:List (Addr×Obj)) (s:X7) (a:St) (H:Hp) (Q:Bool->Hp->Prop),Inv X b a H s->t a H Q->Xv (Xr X.prog X.w) X.A (isTrue e X.env (eval e X.env)) (TP X b a Q) X.xe s
def PW (X:Cx)(e:Expr)(t:TT):Prop :=
 ∀(whole:Sem X9) (b:List (Addr×Obj)) (s:X7) (a:St) (H:Hp) (Q:Bool->Hp->Prop),Inv X b a H s->t a H Q->Xv (Xr X.prog X.w) X.A (isTrue e X.env whole) (TP X b a Q) X.xe s
def PW.pt {X:Cx}{e:Expr}{t:TT}(h:PW X e t):PT X e t:=h _
def PA (X:Cx)(c:List Expr)(t:TA):Prop :=
 ∀(pos:Pos) (b:List (Addr×Obj)) (s:X7) (a:St) (H:Hp) (Q:AF->Hp->Prop),Inv X b a H s->t a H Q->Xv (Xr X.prog X.w) X.A (NW (TR pos (WG c X.env))) (AP X b a Q) X.xe s
def PS (X:Cx)(st:Stmt)(t:TS):Prop :=
 ∀(a:List (Addr×Obj)) (s:X7) (b:St) (H:Hp) (D:Ends),Inv X a b H s->t D b H->Xv (Xr X.prog X.w) X.A (exec st X.env) (SP X a D) X.xe s
def PSs (X:Cx)(st:List Stmt)(t:TS):Prop :=
 ∀(a:List (Addr×Obj)) (s:X7) (b:St) (H:Hp) (D:Ends),Inv X a b H s->t D b H->Xv (Xr X.prog X.w) X.A (execs st X.env) (SP X a D) X.xe s
def thn {α:Type}{t:Sem α}{Q b:α->X7->Prop}{M:NX}{A:WN}{E:X9->X7->Prop}{s:X7}(h:Xv M A t Q E s)(c:∀a s,Q a s->b a s):Xv M A t b E s:=Wj h c λ_ _ x=>x
section
variable {X:Cx}
def zro (i:Nat):TE:=fun a H Q=>∃v,a[i]?=some (some v)/\Q v H
def tC (v:V):TE:=λ_ H Q=>Q v H
def zpP {i:Nat}{x:Str}{pos:Pos}(k:X.N[i]?=some x)(q:Vis X.env.scope x)(f:(x==("__debug__":Str))=false:=by decide)(d:(x==("__classdict__":Str))=false:=by decide):PE X (.Name x pos) (zro i):=by
 intro j s w H Q I h;obtain⟨v,e,h⟩:=h;obtain⟨m,p,n⟩:=I.loc;obtain⟨u,r,l⟩:=n i x v k e q;have b:EP X j w Q u s:=⟨v,H,I,r,h⟩;rcases l with ⟨hk,o⟩ | ⟨hk,c,g,a⟩
 .exact wpAny_Name (wpAny_loadName_local I.ok.kind hk p o b) f
 .rcases hk with hk | hk
  .exact wpAny_Name (wpAny_loadName_cell I.ok.kind hk g a b) f
  .exact wpAny_Name (wpAny_loadName_free I.ok.kind hk g a b d) f
def zk {i j pos}:PE X (.Constant (.int i) j pos) (tC (.int i)):=λ_ _ _ H _ I h=>wpAny_Constant_int ⟨.int i,H,I.tok _,⟨_,rfl⟩,h⟩
def zf7 {b j pos}:PE X (.Constant (.bool b) j pos) (tC (.bl b)):=λ_ _ _ H _ I h=>Constant_bool ⟨.bl b,H,I,rfl,h⟩
def jv {x j pos}:PE X (.Constant (.str x) j pos) (tC (.str x)):=λ_ _ _ H _ I h=>Calls.Constant_str ⟨.str x,H,I.tok _,⟨_,rfl⟩,h⟩
def Gl (X:Cx)(x:Str):Prop:=X.env.kindOf x=some .globalImplicit
def QA {E:X9->X7->Prop}{a:List (Addr×Obj)}{s:X7}{e:St}{H:Hp}{x:Str}{u:X9}{pos:Pos}{Q:X9->X7->Prop}(I:Inv X a e H s)(c:Gl X x)(d:X.mg x=some u)(h:Q u s)
  (b:(x==("__debug__":Str))=false:=by decide):Xv (Xr X.prog X.w) X.A (eval (.Name x pos) X.env) Q E s :=
 Rm I.ok.kind c (Calls.loadGlobal_global (by rw[I.ok.glob];exact I.mod.glob.keeps I.bk) d h) b
def YY {E:X9->X7->Prop}{a:List (Addr×Obj)}{s:X7}{g:St}{H:Hp}{x:Str}{u:X9}{pos:Pos}{Q:X9->X7->Prop}(I:Inv X a g H s)(c:Gl X x)(d:X.mg x=none)(f:SD x=some u)(h:Q u s)
  (e:x ≠ "__name__":=by decide) (b:(x==("__debug__":Str))=false:=by decide):Xv (Xr X.prog X.w) X.A (eval (.Name x pos) X.env) Q E s:=by
 obtain⟨i,h1,h2⟩:=I.mod.blt;exact Rm I.ok.kind c (Calls.loadGlobal_builtin (by rw[I.ok.glob];exact I.mod.glob.keeps I.bk) d (by rw[I.ok.blt];exact h1.keeps I.bk) ((h2 x e).trans f) h) b
def j7 {x:Str}{v:V}{u:X9}{pos:Pos}(b:Gl X x)(c:X.mg x=some u)(r:RelV v u)(a:(x==("__debug__":Str))=false:=by decide):PE X (.Name x pos) (tC v) :=
 λ_ _ _ H _ I h=>QA I b c ⟨v,H,I,r,h⟩ a
def zcl {x:Str}{v:V}{u:X9}{pos:Pos}(b:Gl X x)(c:X.mg x=none)(e:SD x=some u)(r:RelV v u)(d:x ≠ "__name__":=by decide)(a:(x==("__debug__":Str))=false:=by decide):PE X (.Name x pos) (tC v) :=
 λ_ _ _ H _ I h=>YY I b c e ⟨v,H,I,r,h⟩ d a
variable {a b:Expr}{ta tb:TE}{pos:Pos}
variable {tA tB':TT}{rest:List Expr}
def zsA (t u:TT):TT:=fun b H Q=>t b H λc a=>if c=true then u b a Q else Q false a
def tOr (t u:TT):TT:=fun b H Q=>t b H λc a=>if c=true then Q true a else u b a Q
def zsB (t:TT):TT:=fun b H Q=>t b H λc a=>Q (!c) a
def zi2 (d:PT X a tA):PW X (.BoolOp .And [a] pos) tA:=by
 intro g b s f H Q I h;refine isTrue_and (thn (d b s f H Q I h) λc s1 e=>?_);cases c with
 | true=>exact isTrue_and_nil e
 | false=>exact e
def zlh (d:PT X a tA):PW X (.BoolOp .Or [a] pos) tA:=by
 intro g b s f H Q I h;refine isTrue_or (thn (d b s f H Q I h) λc s1 e=>?_);cases c with
 | false=>exact isTrue_or_nil e
 | true=>exact e
def zli (j:PT X a tA)(k:PW X (.BoolOp .And (b::rest) pos) tB'):PW X (.BoolOp .And (a::b::rest) pos) (zsA tA tB'):=by
 intro l f s i H Q I h;refine isTrue_and (thn (j f s i H _ I h) λc s1 ⟨d,e,g⟩=>?_);cases c with
 | true=>exact k l f s1 i d Q e g
 | false=>exact⟨d,e,g⟩
def zf8 (j:PT X a tA)(k:PW X (.BoolOp .Or (b::rest) pos) tB'):PW X (.BoolOp .Or (a::b::rest) pos) (tOr tA tB'):=by
 intro l f s i H Q I h;refine isTrue_or (thn (j f s i H _ I h) λc s1 ⟨d,e,g⟩=>?_);cases c with
 | true=>exact⟨d,e,g⟩
 | false=>exact k l f s1 i d Q e g
def ZC (e:PT X a tA):PT X (.UnaryOp .Not a pos) (zsB tA):=by
 intro d s f H Q I h;exact isTrue_not (e d s f H (λc b=>Q (!c) b) I h)
def zrp (ta tb:TE):TE:=fun b H Q=>ta b H λx a=>∃c,x=.bl c/\if c=true then tb b a Q else Q (.bl false) a
def zpQ {op}{t:TE}(h:PE X a t):PE X (.BoolOp op [a] pos) t:=λb s d H Q I c=>BoolOp_one (h b s d H Q I c)
def zlj (j:PE X a ta)(k:PE X (.BoolOp .And (b::rest) pos) tb):PE X (.BoolOp .And (a::b::rest) pos) (zrp ta tb):=by
 intro g s i H Q I h;refine BoolOp_and (thn (j g s i H _ I h) λv s1 ⟨x,e,f,l,d⟩=>?_);obtain⟨c,rfl,d⟩:=d;cases l;refine U0 ?_;cases c with
 | true=>exact k g s1 i e Q f d
 | false=>exact⟨.bl false,e,f,rfl,d⟩
end
def SqL (K:XW)(H:Hp)(a:Addr)(xs:AF):Prop :=
 Rd H a (.lst xs) \/
  ∃(o:Obj) (b:Array X9) (n:Nat),K.lookup a=some o/\o.cls=.type "list"/\o.dict=none/\o.data=.seq b n/\b.size<=Xq/\Vals xs b.toList
def SqT (K:XW)(H:Hp)(a:Addr)(xs:AF):Prop :=
 Rd H a (.tup xs) \/
  ∃(o:Obj) (b:Array X9) (n:Nat),K.lookup a=some o/\o.cls=.type "tuple"/\o.data=.seq b n/\b.size<=Xq/\Vals xs b.toList
def zsC:X9->Option V
 | .none=>some .non
 | .bool b=>some (.bl b)
 | .int i _=>some (.int i)
 | .str x _=>some (.str x)
 | .bytes b _=>some (.byt b)
 | .float b _=>some (.flt b)
 | .ref a=>some (.ref a)
 | .type n=>some (.ty n)
 | _=>none
def RelV.abs {x:V}{u:X9}(r:RelV x u):zsC u=some x:=by
 cases x with
 | non=>cases r;rfl
 | bl _=>cases r;rfl
 | int _=>obtain⟨t,rfl⟩:=r;rfl
 | str _=>obtain⟨t,rfl⟩:=r;rfl
 | byt _=>obtain⟨t,rfl⟩:=r;rfl
 | flt _=>obtain⟨t,rfl⟩:=r;rfl
 | ref _=>cases r;rfl
 | ty _=>cases r;rfl
theorem RelV.inj {x y:V}{u:X9}(r:RelV x u)(q:RelV y u):x=y:=Option.some.inj (r.abs.symm.trans q.abs)
theorem Vals.inj:∀{xs ys:AF} {a:List X9},Vals xs a->Vals ys a->xs=ys
 | _,_,_,.nil,.nil=>rfl
 | _,_,_,.cons r t,.cons b t'=>by rw[r.inj b,Vals.inj t t']
section
variable {X:Cx}{bz:List (Addr×Obj)}{σ:St}{H:Hp}{s:X7}{a:Addr}{xs ys:AF}
def SqL.of {K:XW}(h:H a=some (.lst xs)):SqL K H a xs:=.inl (.inl h)
def SqT.of {K:XW}(h:H a=some (.tup xs)):SqT K H a xs:=.inl (.inl h)
def Inv.list (I:Inv X bz σ H s)(h:SqL X.K H a xs):∃b:List X9,Vals xs b/\PlainL s.heap a b.toArray/\xs.length<=Xq:=by
 rcases h with h | ⟨o,b,n,hk,c,d,f,g,r⟩
 .obtain⟨z,b,n,r,e⟩:=h.ok I.hok;exact⟨b,r,⟨_,n,e,rfl,rfl,rfl⟩,z⟩
 .refine⟨b.toList,r,⟨o,n,I.kIn a o hk,c,d,by simpa using f⟩,?_⟩;have e:=r.length;simp only[X6]at e;lia
def Inv.tuple (I:Inv X bz σ H s)(h:SqT X.K H a xs):∃b:List X9,Vals xs b/\NF s.heap a b.toArray/\xs.length<=Xq:=by
 rcases h with h | ⟨o,b,n,hk,c,d,f,r⟩
 .obtain⟨z,b,r,p⟩:=h.ok I.hok;exact⟨b,r,p,z⟩
 .refine⟨b.toList,r,⟨o,I.kIn a o hk,c,n,by simpa using d⟩,?_⟩;have e:=r.length;simp only[X6]at e;lia
def Inv.list_inj (I:Inv X bz σ H s)(h:SqL X.K H a xs)(h':SqL X.K H a ys):xs=ys:=by
 obtain⟨c,r,⟨o,n,e,_,_,d⟩,_⟩:=I.list h;obtain⟨b,j,⟨l,k,g,_,_,f⟩,_⟩:=I.list h';rw[e]at g;cases g;rw[d]at f;injection f with i _
 have:c=b:=by simpa using congrArg Array.toList i
 subst this;exact r.inj j
end
abbrev Cx.wish (X:Cx)(E:X9->X7->Prop):Cx:={ X with xe:=E }
abbrev Cx.nox (X:Cx):Cx:=X.wish λ_ _=>False
theorem Cx.Ok.wish {X:Cx}(ok:X.Ok)(E:X9->X7->Prop):(X.wish E).Ok :=
 ⟨ok.mod,ok.kind,ok.glob,ok.blt,ok.above,ok.inj,ok.has,ok.cab,ok.hd,ok.frames,ok.stk,ok.exf,ok.bs,ok.bsz,ok.noex,ok.exfs,ok.funs,ok.frf⟩
def Cx.Ok.unwish {X:Cx}{E:X9->X7->Prop}(ok:(X.wish E).Ok):X.Ok :=
 ⟨ok.mod,ok.kind,ok.glob,ok.blt,ok.above,ok.inj,ok.has,ok.cab,ok.hd,ok.frames,ok.stk,ok.exf,ok.bs,ok.bsz,ok.noex,ok.exfs,ok.funs,ok.frf⟩
section
variable {X:Cx}{bz:List (Addr×Obj)}{σ:St}{H:Hp}{s:X7}{E:X9->X7->Prop}
theorem Inv.wish (I:Inv X bz σ H s)(E:X9->X7->Prop):Inv (X.wish E) bz σ H s:=⟨I.ok.wish E,I.os,I.bare,I.base,I.loc,I.cell,I.free,I.freeC,I.pin,I.hok,I.len⟩
theorem Inv.unwish (I:Inv (X.wish E) bz σ H s):Inv X bz σ H s:=⟨I.ok.unwish,I.os,I.bare,I.base,I.loc,I.cell,I.free,I.freeC,I.pin,I.hok,I.len⟩
theorem SP.unwish {D:Ends}{f:Flow}{s':X7}(h:SP (X.wish E) bz D f s'):SP X bz D f s':=by
 cases f with
 | next=>obtain⟨a,b,I,q⟩:=h;exact⟨a,b,I.unwish,q⟩
 | brk=>obtain⟨a,b,I,q⟩:=h;exact⟨a,b,I.unwish,q⟩
 | cont=>obtain⟨a,b,I,q⟩:=h;exact⟨a,b,I.unwish,q⟩
 | ret u=>obtain⟨v,a,b,I,r,q⟩:=h;exact⟨v,a,b,I.unwish,r,q⟩
theorem PSs.nox {st:List Stmt}{t:TS}(h:PSs X.nox st t):PSs X st t:=λbz s σ H D I a =>
 Wj (h bz s σ H D (I.wish _) a) (λ_ _ q=>q.unwish) λ_ _ z=>Wi z
end
section
variable {X:Cx}{st:Stmt}{rest:List Stmt}{t u:TS}{e:Expr}{te:TE}{pos:Pos}
def zrq:TS:=λD a H=>D.nx a H
def zrr (t u:TS):TS:=λD a H=>t { D with nx:=u D } a H
def ql:PSs X [] zrq:=λ_ _ a H _ I h=>TZ ⟨a,H,I,h⟩
def ze (h1:PS X st t)(h2:PSs X rest u):PSs X (st::rest) (zrr t u):=by
 intro b s e H D I h;refine Tp (thn (h1 b s e H { D with nx:=u D } I h) λf s1 q=>?_);cases f with
 | next =>
  obtain⟨a,c,d,q⟩:=q;exact h2 b s1 a c D d q
 | ret v=>exact q
 | brk=>exact q
 | cont=>exact q
def zg (h1:PS X st t):PSs X [st] t:=by
 intro a s b H D I h;refine Tp (thn (h1 a s b H D I h) λf s1 q=>?_);cases f with
 | next=>exact TZ q
 | ret v=>exact q
 | brk=>exact q
 | cont=>exact q
def Inv.quiet {a:List (Addr×Obj)}{b:St}{H:Hp}{s:X7}(I:Inv X a b H s):interactive X.env=false:=by simp[interactive,I.ok.kind]
def zrs (te:TE):TS:=λD a H=>te a H λ_ b=>D.nx a b
def jA (he:PE X e te)(f:PM e none pos.line X.env=pure false:=by rfl):PS X (.Expr e pos) (zrs te):=by
 intro d s a H D I h;exact wpAny_Expr_any (thn (he d s a H _ I h) λv s1 ⟨x,b,c,i,g⟩=>⟨a,b,c,g⟩) I.quiet f
def zrt (te:TE):TS:=λD a H=>te a H D.rt
def zJ (he:PE X e te):PS X (.Return (some e) pos) (zrt te):=by
 intro d s a H D I h;exact wpAny_Return_some (thn (he d s a H _ I h) λv s1 ⟨x,b,c,g,f⟩=>⟨x,a,b,c,g,f⟩)
def zsD (c:TT)(t u:TS):TS:=λD a H=>c a H λb d=>if b=true then t D a d else u D a d
def jk {c:Expr}{a b:List Stmt}{k:TT}(n:PT X c k)(l:PSs X a t)(m:PSs X b u):PS X (.If c a b pos) (zsD k t u):=by
 intro e s f H D I h;refine wpAny_If (thn (n e s f H _ I h) λd s1 ⟨g,i,j⟩=>?_);cases d with
 | true=>exact l e s1 f g D i j
 | false=>exact m e s1 f g D i j
def zpR:TS:=λ_ _ _=>False
def xQ:PS X st zpR:=λ_ _ _ _ _ _ h=>h.elim
end
abbrev TG:=V->St->Hp->(St->Hp->Prop)->Prop
abbrev TGs:=AF->St->Hp->(St->Hp->Prop)->Prop
def PG (X:Cx)(a:Expr)(t:TG):Prop :=
 ∀(d:List (Addr×Obj)) (s:X7) (e:St) (H:Hp) (v:V) (u:X9) (Q:St->Hp->Prop),Inv X d e H s->RelV v u->t v e H Q ->
  Xv (Xr X.prog X.w) X.A (assign a X.env u) (λ_ f=>∃ b c,Inv X d b c f/\Q b c) X.xe s
def PGs (X:Cx)(h:List Expr)(t:TGs):Prop :=
 ∀(c:List (Addr×Obj)) (s:X7) (f:St) (H:Hp) (e:AF) (d:List X9) (Q:St->Hp->Prop),Inv X c f H s->Vals e d->t e f H Q ->
  Xv (Xr X.prog X.w) X.A (assignInOrder ((R6 h X.env).map (·.2)) d) (λ_ g=>∃ a b,Inv X c a b g/\Q a b) X.xe s
abbrev zpS:=V->V->V->Hp->(Hp->Prop)->Prop
def zru (X:Cx)(t:zpS):Prop :=
 ∀(b:List (Addr×Obj)) (s:X7) (e:St) (H:Hp) (o i v:V) (d c u:X9) (Q:Hp->Prop),Inv X b e H s->RelV o d->RelV i c->RelV v u->t o i v H Q ->
  Xv (Xr X.prog X.w) X.A (setItem d c u) (λ_ f=>∃a,Inv X b e a f/\Q a) X.xe s
abbrev TIp:=V->V->Hp->VK->Prop
def PIp (X:Cx)(op:Operator)(t:TIp):Prop :=
 ∀(a:List (Addr×Obj)) (s:X7) (b:St) (H:Hp) (x y:V) (v u:X9) (Q:VK),Inv X a b H s->RelV x v->RelV y u->t x y H Q ->
  Xv (Xr X.prog X.w) X.A (inplaceOp op v u) (EP X a b Q) X.xe s
section
variable {X:Cx}{pos:Pos}
def zay (i:Nat):TG:=λv a H Q=>Q (a.set i (some v)) H
def zq {i:Nat}{x:Str}(b:X.N.Nodup)(d:X.N[i]?=some x)(e:Loc X.env.scope x)(c:X.fn x=true\/X.env.scope.names.lookup x=some .local:=by first | exact .inl rfl | exact .inr rfl | assumption):PG X (.Name x pos) (zay i):=by
 intro f s j H v u Q I r h;exact wpAny_assign_Name (zcH I b d e r (λg a=>⟨_,H,a,h⟩) c)
def zsE:TGs:=λa b H Q=>a=[]/\Q b H
def zrv (t:TG)(u:TGs):TGs:=λc d H Q=>∃v r,c=v::r/\t v d H fun a b=>u r a b Q
def jB:PGs X [] zsE:=by
 intro b s a H d c Q I r h;obtain⟨e,h⟩:=h;subst e;cases r;exact assignInOrder_nil ⟨a,H,I,h⟩
def zR {e:Expr}{a:List Expr}{t:TG}{u:TGs}(h1:PG X e t)(h2:PGs X a u)
  (i:(R6 (e::a) X.env).map (·.2)=assign e X.env::(R6 a X.env).map (·.2):=by rfl):PGs X (e::a) (zrv t u):=by
 intro c s l H o m Q I r h;obtain⟨v,n,g,h⟩:=h;subst g;cases r with
 | cons r k =>
  rw[i];refine assignInOrder_cons (thn (h1 c s l H _ _ _ I r h) λ_ s1 ⟨b,d,f,j⟩=>?_);exact h2 c s1 b d _ _ Q f k j
def zrw (K:XW)(n:Nat)(t:TGs):TG:=λv c H Q=>∃a b,v=.ref a/\SqT K H a b/\b.length=n/\t b c H Q
def JO {c:List Expr}{k:Nat}{t:TGs}{n:Nat}(q:X.calm=true)(h:PGs X c t)
  (x:(R6 c X.env).length=n:=by rfl) (d:(R6 c X.env).findIdx? (·.1)=none:=by rfl):PG X (.Tuple c k pos) (zrw X.K n t):=by
 intro g s j H v u Q I r f;obtain⟨a,D,m,y,w,f⟩:=f;subst m;cases r;obtain⟨B,i,z,E⟩:=I.tuple y;refine assign_Tuple_tuple (I.ok.hd q) z (by simp[x,<- w,i.length]) d λp A=>?_;have l:Inv X g j H { s with heap:=p }:=I.kept (t':=s.toks) λb o e=>A b o (Xl (XD e)) e;exact h g _ j H D _ Q l (by simpa using i) f
def zpT (c:TE)(g:TG):TS:=λD a H=>c a H λx b=>g x a b D.nx
def zC {i:Nat}{x:Str}{e:Expr}{b:TE}{a:Pos}(j:X.N.Nodup)(l:X.N[i]?=some x)(n:Loc X.env.scope x)(he:PE X e b)(m:PM e (some (.Name x a)) pos.line X.env=pure false:=by rfl)(k:X.fn x=true\/X.env.scope.names.lookup x=some .local:=by first | exact .inl rfl | exact .inr rfl | assumption) :
  PS X (.Assign [.Name x a] e pos) (zpT b (zay i)):=by
 intro g s q H D I h;refine wpAny_Assign_Name (thn (he g s q H _ I h) λv s1 ⟨y,c,d,p,o⟩=>?_) m;exact zcH d j l n p (λr f=>⟨_,c,f,o⟩) k
def zrx (n m l:TE)(a:V->V->Hp->VK->Prop)(d:TIp)(b:zpS):TS:=λD c H=>n c H λo e=>m c e λi f=>a o i f λx g=>l c g λy h=>d x y h λz j=>b o i z j λk=>D.nx c k
def zry (X:Cx)(t:V->V->Hp->VK->Prop):Prop :=
 ∀(a:List (Addr×Obj)) (s:X7) (d:St) (H:Hp) (o i:V) (c b:X9) (Q:VK),Inv X a d H s->RelV o c->RelV i b->t o i H Q ->
  Xv (Xr X.prog X.w) X.A (Ot c b) (EP X a d Q) X.xe s
def zi3 {o i e:Expr}{r q p:TE}{a:V->V->Hp->VK->Prop}{j:TIp}{b:zpS}{op:Operator}{k:Pos}(ho:PE X o r)(Y:PE X i q)(U:zry X a)(he:PE X e p)(hp:PIp X op j)(hs:zru X b)
  (Q:∀d c new,augStore i d c new=(do holding [new,d,c] (setItem d c new);release [new,d,c] [];pure .next):=by intros;rfl):PS X (.AugAssign (.Subscript o i k) op e pos) (zrx r q p a j b):=by
 intro g s f H D I h;refine wpAny_AugAssign_SubscriptAny (thn (ho g s f H _ I h) λd s1 ⟨u,x,G,m,q1⟩=>?_) Q;refine thn (Y g s1 f x _ G q1) λc s2 ⟨w,y,J,n,q2⟩=>?_;refine thn (U g s2 f y u w d c _ J m n q2) λl s3 ⟨x3,z,L,r3,q3⟩=>?_;refine thn (he g s3 f z _ L q3) λv s4 ⟨x4,A,M,r4,q4⟩=>?_;refine thn (hp g s4 f A x3 x4 l v _ M r3 r4 q4) λnew s5 ⟨x5,B,N,r5,q5⟩=>?_;exact thn (hs g s5 f B u w x5 d c new _ N m n r5 q5) λ_ s6 ⟨E,O,q6⟩=>⟨f,E,O,q6⟩
def ipI (f:Int->Int->Int):TIp:=λx y H Q=>∃i j,x=.int i/\y=.int j/\Q (.int (f i j)) H
def zlk:PIp X .Add (ipI λi j=>i+j):=by
 intro e s g H x y v u Q I c d h;obtain⟨i,j,a,b,q⟩:=h;subst a;subst b;obtain⟨t,rfl⟩:=c;obtain⟨f,rfl⟩:=d;exact iadd_int ⟨.int _,H,I.tok _,⟨_,rfl⟩,q⟩
def zll (c:TT)(h:TS):TS:=λD a H=>∃W:Nat->St->Hp->Prop,(∃m,W m a H)/\∀m a H,W m a H ->
 c a H λb f=>if b=true then ∃N:St->Hp->Prop,(∀ d e,N d e->∃g,g<m/\W g d e)/\h { D with nx:=N,ct:=N,bk:=D.nx } a f else D.nx a f
def zf9 {c:Expr}{e:List Stmt}{L:TT}{J:TS}(G:PassesOwn (Xr X.prog X.w) X.A X.env X.xe)(Q:PT X c L)(O:PSs X e J):PS X (.While c e [] pos) (zll L J):=by
 intro o s σ H D I h;obtain⟨W,⟨U,w0⟩,i⟩:=h;refine wpAny_While (codeAny_whileLoop (λn Y=>∃ j x,Inv X o j x Y/\W n j x) ?_ U ⟨σ,H,I,w0⟩);rintro n s1 ⟨d,y,M,w1⟩;refine Vh G (thn (Q o s1 d y _ M (i n d y w1)) λb s2 ⟨z,B,k⟩=>?_);cases b with
 | true =>
  obtain⟨N,E,k⟩:=k;rw[bw rfl];refine Vh G (thn (O o s2 d z _ B k) λf s3 l=>?_);cases f with
  | next =>
   obtain⟨a,g,m,r⟩:=l;obtain⟨q,p,u⟩:=E a g r;exact⟨q,p,a,g,m,u⟩
  | cont =>
   obtain⟨a,g,m,r⟩:=l;obtain⟨q,p,u⟩:=E a g r;exact⟨q,p,a,g,m,u⟩
  | brk=>exact l
  | ret v=>exact l
 | false =>
  rw[bq XT];exact TZ ⟨d,z,B,k⟩
end
structure It where
 go:Nat->Hp->Prop
 yld:Nat->Hp->V->Hp->Prop
 stop:Nat->Hp->Prop
def QU (X:Cx)(a:List (Addr×Obj))(H:Hp)(b:Addr):Prop :=
 H b=none/\b≠X.env.locals/\b ∉ X.fs/\(b∈X.ex\/X.s₀.heap.objs.size<=b)/\(∀x c,X.env.cells.lookup x=some c->c≠b)/\∀p∈X.pn++a,p.1≠b
def Inv.fpOk {X:Cx}{f:List (Addr×Obj)}{i:St}{H d:Hp}{s:X7}{b:Addr}(I:Inv X f i H s)(a:s.heap.objs.size<=b)(g:d b=none):QU X f d b:=by
 refine⟨g,Va (Xd I.lt a),I.nofs a,.inr (X5 I.sz a),λx c e z=>?_,λp h z=>?_⟩
 .obtain⟨v,q⟩:=I.cell x c e;exact absurd (Xd q.lt (by rw[z];exact a)) (VA _)
 .exact absurd (Xd (XD (I.pin p h).1) (by rw[z];exact a)) (VA _)
structure Turn (P:Xm)(w:W1)(K:XW)(tg:Expr)(J:It)(fp:List Addr)(it:Addr)(tn:Nat->Heap->Prop):Prop where
 mem:it∈fp
 obj:∀i h,tn i h->∀b∈fp,∃o,h.get? b=some o/\∀v,o.data ≠ .cell v
 keep:∀i h h',tn i h->(∀b∈fp,∀o,h.get? b=some o->h'.get? b=some o)->tn i h'
 item:∀(X:Cx),X.prog=P->X.w=w->X.K=K->X.calm=true->∀(i:Nat) (bz:List (Addr×Obj)) (s:X7) (σ:St) (H:Hp) (E:X9->X7->Prop),Inv X bz σ H s->(∀b∈fp,QU X bz H b)->tn i s.heap->J.go i H ->
  Xv (Xr P w) X.A (SW (.ref it)) (λr s1=>∃u,r=some u /\
   Xv (Xr P w) X.A (RL tg (.ref it) u) (λ_ s2=>∃x H',Inv X bz σ H' s2/\RelV x u/\J.yld i H x H'/\tn (i+1) s2.heap/\∀b∈fp,H' b=none) E s1) E s
 done:∀(X:Cx),X.prog=P->X.w=w->X.K=K->X.calm=true->∀(i:Nat) (bz:List (Addr×Obj)) (s:X7) (σ:St) (H:Hp) (E:X9->X7->Prop),Inv X bz σ H s->(∀b∈fp,QU X bz H b)->tn i s.heap->J.stop i H ->
  Xv (Xr P w) X.A (SW (.ref it)) (λr s1=>r=none/\Inv X bz σ H s1) E s
 self:∀(A:WN) (i:Nat) (s:X7) (Q:X9->X7->Prop) (E:X9->X7->Prop),tn i s.heap->Q (.ref it) s->Xv (Xr P w) A (NL (.ref it)) Q E s
abbrev TI:=St->Hp->(It->Hp->Prop)->Prop
def PIE (X:Cx)(d:List (Addr×Obj))(j:St)(i:Expr)(R:It->Hp->Prop)(c:X9)(g:X7):Prop :=
 ∃(f:Addr) (e:List Addr) (h:Nat->Heap->Prop) (J:It) (a:Hp),c=.ref f/\Inv X d j a g/\Turn X.prog X.w X.K i J e f h/\h 0 g.heap/\(∀b∈e,QU X d a b)/\R J a
def PI (X:Cx)(d a:Expr)(e:TI):Prop :=
 ∀(c:List (Addr×Obj)) (s:X7) (b:St) (H:Hp) (R:It->Hp->Prop),Inv X c b H s->e b H R ->
  Xv (Xr X.prog X.w) X.A (eval a X.env) (λv s1=>Xv (Xr X.prog X.w) X.A (NL v) (PIE X c b d R) X.xe s1) X.xe s
def zlm {M:NX}{A:WN}{E:X9->X7->Prop}{s:X7}{b:Expr}{it:Addr}{u:X9}{o:Obj}{n:String}{vs:Array X9}{Q:Unit->X7->Prop}(f:s.heap.get? it=some o)(c:o.cls=.type n)(d:o.data=.fields vs)
    (e:["enumerate","zip","dict_itemiterator","dict_reverseitemiterator","odict_iterator","itertools.zip_longest","itertools.pairwise"].contains n=false) (a:Q () s):Xv M A (RL b (.ref it) u) Q E s:=by
  unfold RL;cases b<;>first
    | exact X0 a
    | (cases u<;>first
        | exact X0 a
        | (refine ZB (wpAny_load f ?_)
           rw[c,d]
           show Xv M A (if (["enumerate","zip","dict_itemiterator","dict_reverseitemiterator","odict_iterator","itertools.zip_longest","itertools.pairwise"].contains n&&vs[0]?==some (US _))=true then _ else _) Q E s
           rw[bq (by intro h;rw[e,Sy]at h;cases h)]
           exact X0 a))
def Itl (K:XW)(a:Addr):It :=
 ⟨λi H=>∃b x,SqL K H a b/\b[i]?=some x,λi H x c=>c=H/\∀b,SqL K H a b->b[i]?=some x,λi H=>∃b,SqL K H a b/\b.length<=i⟩
def Itr (lo:Int)(n:Nat):It:=⟨λi _=>i<n,λi H x a=>a=H/\x=.int (lo+i),λi _=>n<=i⟩
def zj1 {P:Xm}{w:W1}{K:XW}{tg:Expr}(a it:Addr):Turn P w K tg (Itl K a) [it] it (λi h=>h.IsListIter it a i) where
 mem:=by simp
 obj:=λi h st b hb=>by
  have e:b=it:=by simpa using hb
  subst e;obtain⟨o,e,c,d⟩:=st;exact⟨o,e,λv z=>by rw[d]at z;cases z⟩
 keep:=λi h h' st k=>st.at λo e=>k it (by simp) o e
 item:=by
  intro X hP hw hK hc i bz s σ H E I hf st hg;subst hP hw hK;obtain⟨xs,x,hq,hx⟩:=hg;obtain⟨its,rv,p,hz⟩:=I.list hq;obtain⟨u,hu,ru⟩:=rv.get hx;refine e8 (λf0 f1 f2 f3 f4 f5=>?_) (hf it (by simp));refine wpAny_pyNext_list_item st p.isList (x:=u) (by simpa using hu) λh' st' sb=>?_;have I1:Inv X bz σ H { s with heap:=h' }:=I.turned (t':=s.toks) (λb o hb e=>(sb.2 b hb).trans e) f0 f1 f3 f4 f5;obtain⟨o,e,c,d⟩:=id st';exact⟨u,rfl,zlm (s:={ s with heap:=h' }) e c d (by decide) ⟨x,H,I1,ru,⟨rfl,λys hy=>by rw[I.list_inj hy hq];exact hx⟩,st',λb hb=>(hf b hb).1⟩⟩
 done:=by
  intro X hP hw hK hc i bz s σ H E I hf st hg;subst hP hw hK;obtain⟨xs,hq,hx⟩:=hg;obtain⟨its,rv,p,hz⟩:=I.list hq;obtain⟨f0,f1,f2,f3,f4,f5⟩:=hf it (by simp);have hl:=rv.length;exact wpAny_pyNext_list_end (I.ok.hd hc) st p.isList (by simp;lia) λh' eb=>⟨rfl,I.turned (t':=s.toks) (λb o hb e=>eb b o hb e) f0 f1 f3 f4 f5⟩
 self:=λ_ _ _ _ _ st h=>wpAny_pyIter_listiter st h
def zhO {P:Xm}{w:W1}{K:XW}{tg:Expr}(it:Addr)(lo:Int)(n:Nat):Turn P w K tg (Itr lo n) [it] it (λi h=>IsRangeIter h it (lo+(i:Nat)*1) ((n:Int)-(i:Nat)) 1) where
 mem:=by simp
 obj:=λi h st b hb=>by
  have e:b=it:=by simpa using hb
  subst e;exact⟨_,st,λv z=>by
   have z':Data.fields _=Data.cell v:=z;cases z'⟩
 keep:=λi h h' st k=>k it (by simp) _ st
 item:=by
  intro X hP hw hK hc i bz s σ H E I hf st hg;subst hP hw hK;refine e8 (λf0 f1 f2 f3 f4 f5=>?_) (hf it (by simp));have W:=Walks.range (prog:=X.prog) (w:=X.w) (I.ok.hd hc) it lo 1 n;refine W.item i s _ _ hg st λv h' tk hv st' kk=>?_;obtain⟨t,rfl⟩:=hv;have I1:Inv X bz σ H { s with heap:=h',toks:=tk }:=I.turned (λb o hb e=>kk b o (by simpa using hb) e) f0 f1 f3 f4 f5;refine⟨_,rfl,zlm (s:={ s with heap:=h',toks:=tk }) (n:="range_iterator") st' rfl rfl (by decide) ⟨.int (lo+i),H,I1,⟨t,?_⟩,⟨rfl,rfl⟩,st',λb hb=>(hf b hb).1⟩⟩;rw[Int.mul_one]
 done:=by
  intro X hP hw hK hc i bz s σ H E I hf st hg;subst hP hw hK;obtain⟨f0,f1,f2,f3,f4,f5⟩:=hf it (by simp);exact wpAny_pyNext_range_end (I.ok.hd hc) st (by have:n<=i:=hg;lia) λh' eb=>⟨rfl,I.turned (t':=s.toks) (λb o hb e=>eb b o hb e) f0 f1 f3 f4 f5⟩
 self:=λ_ _ _ _ _ st h=>wpAny_pyIter_rangeiter st h
section
variable {X:Cx}{tg:Expr}
def zpc (K:XW)(tl:TE):TI:=fun d H R=>tl d H λx b=>∃a,x=.ref a/\(∃c,SqL K b a c)/\R (Itl K a) b
def zO {l:Expr}{tl:TE}(i:PE X l tl):PI X tg l (zpc X.K tl):=by
 intro f s r H R I h;refine thn (i f s r H _ I h) λv s1 ⟨x,d,c,n,m⟩=>?_;obtain⟨a,e,⟨y,j⟩,q⟩:=m;subst e;cases n;obtain⟨k,w,p,u⟩:=c.list j;refine Sv p.isList ?_;refine eB s1.heap.objs.size [s1.heap.objs.size] d rfl (c.kept (t':=s1.toks) λb o e=>X4 _ e) (zj1 a _) ⟨_,Xs _ rfl,rfl,rfl⟩ (λb g=>?_) q;have e:b=s1.heap.objs.size:=by simpa using g
 subst e;exact c.fpOk (XV _) (c.hok.fresh (XV _))
def zga {d:List (Addr×Obj)}{f:St}{H:Hp}{s:X7}{R:It->Hp->Prop}{E:X9->X7->Prop}{lo a:Int}{t u v:Tok}{tk:Nat}(I:Inv X d f H s)(h1:-(2^62)<=lo)(h2:lo<2^62)(i:-(2^62)<=a)(j:a<2^62)
  (q:R (Itr lo (a-lo).toNat) H):Xv (Xr X.prog X.w) X.A (NL (.ref s.heap.objs.size)) (PIE X d f tg R) E { s with heap:=s.heap.push { cls:=.type "range",data:=.fields #[.int lo t,.int a u,.int 1 v] },toks:=tk }:=by
 refine wpAny_pyIter_range (IsRange.new ..) (small_one h1 h2 i j) ?_;have c:Inv X d f H { s with heap:=s.heap.push { cls:=.type "range",data:=.fields #[.int lo t,.int a u,.int 1 v] },toks:=tk }:=I.kept λb o e=>X4 _ e;refine eB (s.heap.push { cls:=.type "range",data:=.fields #[.int lo t,.int a u,.int 1 v] }).objs.size [(s.heap.push { cls:=.type "range",data:=.fields #[.int lo t,.int a u,.int 1 v] }).objs.size] H rfl (c.kept (t':=tk) λb o e=>X4 _ e) (zhO _ lo (a-lo).toNat) ?_ (λb k=>?_) q
 .have g:lo+((0:Nat):Int)*1=lo:=by simp
  have h:(((a-lo).toNat:Nat):Int)-((0:Nat):Int)=Builtin.Range.rangeSize lo a 1:=by rw[rangeSize_one];split<;>lia
  show IsRangeIter _ _ (lo+((0:Nat):Int)*1) ((((a-lo).toNat:Nat):Int)-((0:Nat):Int)) 1;rw[g,h];exact Xs _ rfl
 .have e:b=(s.heap.push { cls:=.type "range",data:=.fields #[.int lo t,.int a u,.int 1 v] }).objs.size:=by simpa using k
  subst e;exact c.fpOk (XV _) (c.hok.fresh (XV _))
def zrz (b:TA):TI:=fun d H R=>b d H λc a=>∃j:Int,c=[.int j]/\-(2^62)<=j/\j<2^62/\R (Itr 0 j.toNat) a
def zrA (b:TA):TI:=fun d H R=>b d H λc a=>∃i j:Int,c=[.int i,.int j]/\(-(2^62)<=i/\i<2^62/\-(2^62)<=j/\j<2^62)/\R (Itr i (j-i).toNat) a
def yT {a:Expr}{c:TA}{p pos:Pos}(i:Gl X "range")(k:X.mg "range"=none)(g:PA X [a] c)(l:WG [a] X.env=[(false,eval a X.env)]:=by rfl):PI X tg (.Call (.Name "range" p) [a] [] pos) (zrz c):=by
 intro f s u H R I h;refine Call_ (YY I i k boot_range (VO (thn (g pos f s u H _ I h) λw s1 ⟨x,v,d,n,b⟩=>?_) l rfl));obtain⟨j,e,b,m,q⟩:=b;subst e;cases n with
 | cons r o =>
  cases o;obtain⟨t,rfl⟩:=r;exact call_range_1 (zga d (by lia) (by lia) b m (by simpa using q))
def zej {a b:Expr}{g:TA}{p pos:Pos}(n:Gl X "range")(o:X.mg "range"=none)(m:PA X [a,b] g)(u:WG [a,b] X.env=[(false,eval a X.env),(false,eval b X.env)]:=by rfl)(c:WG [b] X.env=[(false,eval b X.env)]:=by rfl) :
  PI X tg (.Call (.Name "range" p) [a,b] [] pos) (zrA g):=by
 intro l s A H R I h;refine Call_ (YY I n o boot_range (VO (thn (m pos l s A H _ I h) λE s1 ⟨G,B,k,z,d⟩=>?_) (by rw[u,c]) (by rw[c];rfl)));obtain⟨i,j,e,⟨d,v,w,x⟩,q⟩:=d;subst e;cases z with
 | cons r f =>
  cases f with
  | cons y f =>
   cases f;obtain⟨t,rfl⟩:=r;obtain⟨D,rfl⟩:=y;exact call_range_2 (zga k d v w x q)
def zsF (k:TI)(g:TG)(j:TS):TS:=λD a H=>k a H λJ f=>∃W:Nat->Nat->St->Hp->Prop,(∃m,W 0 m a f)/\∀i m a H,W i m a H ->
 (J.stop i H/\D.nx a H)\/(J.go i H/\∃N:St->Hp->Prop,(∀ c b,N c b->∃e,e<m/\W (i+1) e c b)/\∀x b,J.yld i H x b->g x a b fun d h=>j { D with nx:=N,ct:=N,bk:=D.nx } d h)
def zbg (fp:List Addr)(h:Heap):List (Addr×Obj):=fp.filterMap λb=>(h.get? b).map λo=>(b,o)
def yU {fp:List Addr}{h:Heap}{b:Addr}{o:Obj}(a:b∈fp)(e:h.get? b=some o):(b,o)∈zbg fp h:=Rr.mpr ⟨b,a,by rw[e];rfl⟩
def zj2 {fp:List Addr}{h:Heap}{p:Addr×Obj}(d:p∈zbg fp h):p.1∈fp/\h.get? p.1=some p.2:=by
 obtain⟨b,c,e⟩:=Rr.mp d;cases q:h.get? b with
 | none=>rw[q]at e;cases e
 | some o =>
  rw[q]at e;have a:(b,o)=p:=Option.some.inj e;subst a;exact⟨c,q⟩
def Inv.pinned {a:List (Addr×Obj)}{g:St}{H:Hp}{s:X7}{fp:List Addr}(I:Inv X a g H s)(k:∀b∈fp,QU X a H b)(l:∀b∈fp,∃o,s.heap.get? b=some o/\∀v,o.data ≠ .cell v):Inv X (a++zbg fp s.heap) g H s :=
 I.pins_of λp m=>(XG.mp m).elim (λz=>I.pin p (Xc _ z)) λz=>by
  obtain⟨f,e⟩:=zj2 z;obtain⟨h,i,j,_⟩:=k p.1 f;obtain⟨o,c,d⟩:=l p.1 f;rw[e]at c;cases c;exact⟨e,h,i,j,d⟩
def Inv.unpinned {a d:List (Addr×Obj)}{b:St}{H:Hp}{s:X7}(I:Inv X (a++d) b H s):Inv X a b H s:=I.pins_of λp c=>I.pin p (Xc _ (WV _ c))
def qB {l:Expr}{B:List Stmt}{wi:TI}{g:TG}{tb:TS}{pos:Pos}(Q:PassesOwn (Xr X.prog X.w) X.A X.env X.xe)(hc:X.calm=true)(hi:PI X tg l wi)(hg:PG X tg g)(k:PSs X B tb)
  (hs:∀x,UZ l X.env x=pure x:=by intro _;rfl):PS X (.For tg l B [] pos) (zsF wi g tb):=by
 intro G s σ H D I h;refine wpAny_For (thn (hi G s σ H _ I h) λv s1 h1=>thn h1 λah s2 h2=>?_) hs;obtain⟨it,M,tn,J,H2,e,I2,T,af,f2,W,⟨m0,w0⟩,ab⟩:=h2;subst e;have p:∀{z:Hp},(∀b∈M,z b=none)->∀b∈M,QU X G z b:=λhn b k=>⟨hn b k,(f2 b k).2⟩;refine codeAny_forLoop_any (λn s'=>∃i q z,Inv X G q z s'/\tn i s'.heap/\(∀b∈M,z b=none)/\W i n q z) ?_ m0 ⟨0,σ,H2,I2,af,λb k=>(f2 b k).1,w0⟩;refine λn s3=>fu λi y H3 I3 Y O w3=>?_;rcases ab i n y H3 w3 with ⟨aa,qn⟩ | ⟨go,N,hN,step⟩
 .refine Vh Q (thn (T.done X rfl rfl rfl hc i G s3 y H3 X.xe I3 (p O) Y aa) λr s4 ⟨hr,I4⟩=>?_);subst hr;exact TZ ⟨y,H3,I4,qn⟩
 .refine Vh Q (thn (T.item X rfl rfl rfl hc i G s3 y H3 X.xe I3 (p O) Y go) λr s4 ⟨u,hr,h4⟩=>?_);subst hr;refine Vh Q (thn h4 λ_ s5 ⟨x,H5,I5,r5,y5,L,ae⟩=>?_);have ac:=I5.pinned (p ae) (T.obj _ _ L);refine Vh Q (thn (hg _ s5 y H5 x u _ ac r5 (step x H5 y5)) λ_ s6 ⟨ag,H6,I6,q6⟩=>?_);refine Vh Q (thn (k _ s6 ag H6 _ I6 q6) λf s7 E=>?_);have OV:∀{a:St} {c:Hp},Inv X (G++zbg M s5.heap) a c s7->N a c->∃m,m<n/\∃i q z,Inv X G q z s7/\tn i s7.heap/\(∀b∈M,z b=none)/\W i m q z:=λ{a c} j U=>by
   obtain⟨m',hm,w7⟩:=hN a c U;refine⟨m',hm,i+1,a,c,j.unpinned,T.keep _ _ _ L λb k o e=>(j.pin (b,o) (Xc _ (Xc _ (yU k e)))).1,λb k=>?_,w7⟩;obtain⟨o,e,d⟩:=T.obj _ _ L b k;exact(j.pin (b,o) (Xc _ (Xc _ (yU k e)))).2.1
  cases f with
  | next=>obtain⟨a,c,j,U⟩:=E;exact OV j U
  | cont=>obtain⟨a,c,j,U⟩:=E;exact OV j U
  | brk=>obtain⟨a,c,j,E⟩:=E;exact⟨a,c,j.unpinned,E⟩
  | ret v=>revert E;refine fF λx7 a c j r7 E=>?_;exact⟨x7,a,c,j.unpinned,r7,E⟩
end
def jM {K:XW}{a:Addr}{xs:AF}{g:TG}{l:TS}{D:Ends}{b:St}{H:Hp}(Pv:Nat->St->Hp->Prop)(h0:Pv 0 b H)(r:∀i b H,i<=xs.length->Pv i b H->SqL K H a xs)
  (s:∀i x b H,xs[i]?=some x->Pv i b H->g x b H fun f j=>l { D with nx:=Pv (i+1),ct:=Pv (i+1),bk:=D.nx } f j) (n:∀ b H,Pv xs.length b H->D.nx b H) :
  ∃W:Nat->Nat->St->Hp->Prop,(∃m,W 0 m b H)/\∀i m b H,W i m b H ->
   ((Itl K a).stop i H/\D.nx b H)\/((Itl K a).go i H/\∃N:St->Hp->Prop,(∀ d c,N d c->∃k,k<m/\W (i+1) k d c)/\∀x c,(Itl K a).yld i H x c->g x b c fun f j=>l { D with nx:=N,ct:=N,bk:=D.nx } f j):=by
 refine⟨λi m b H=>m=xs.length-i/\i<=xs.length/\Pv i b H,⟨xs.length,by simp,W4 _,h0⟩,?_⟩;rintro i m b H ⟨rfl,o,p⟩;have q:=r i b H o p;by_cases h:i<xs.length
 .refine .inr ⟨⟨xs,xs[i],q,by simp[h]⟩,Pv (i+1),fun d c u=>⟨xs.length-(i+1),by lia,rfl,h,u⟩,λx c y=>?_⟩;obtain⟨e,y⟩:=y;subst e;exact s i x b _ (y xs q) p
 .have e:i=xs.length:=by lia
  subst e;exact .inl ⟨⟨xs,q,XV _⟩,n b H p⟩
def j8 {lo:Int}{n:Nat}{g:TG}{k:TS}{D:Ends}{a:St}{H:Hp}(Pv:Nat->St->Hp->Prop)(h0:Pv 0 a H)
  (o:∀i a H,i<n->Pv i a H->g (.int (lo+i)) a H fun f h=>k { D with nx:=Pv (i+1),ct:=Pv (i+1),bk:=D.nx } f h) (l:∀ a H,Pv n a H->D.nx a H) :
  ∃W:Nat->Nat->St->Hp->Prop,(∃m,W 0 m a H)/\∀i m a H,W i m a H ->
   ((Itr lo n).stop i H/\D.nx a H)\/((Itr lo n).go i H/\∃N:St->Hp->Prop,(∀ d b,N d b->∃j,j<m/\W (i+1) j d b)/\∀x b,(Itr lo n).yld i H x b->g x a b fun f h=>k { D with nx:=N,ct:=N,bk:=D.nx } f h):=by
 refine⟨λi m a H=>m=n-i/\i<=n/\Pv i a H,⟨n,by simp,W4 _,h0⟩,?_⟩;rintro i m a H ⟨rfl,r,p⟩;by_cases c:i<n
 .refine .inr ⟨c,Pv (i+1),fun d b q=>⟨n-(i+1),by lia,rfl,c,q⟩,λx b y=>?_⟩;obtain⟨e,y⟩:=y;subst e y;exact o i a _ c p
 .have e:i=n:=by lia
  subst e;exact .inl ⟨XV _,l a H p⟩
abbrev R2:=V->V->Hp->VK->Prop
def OpR (X:Cx)(f:X9->X9->Sem X9)(r:R2):Prop :=
 ∀(a:List (Addr×Obj)) (s:X7) (b:St) (H:Hp) (x y:V) (v u:X9) (Q:VK),Inv X a b H s->RelV x v->RelV y u->r x y H Q ->
  Xv (Xr X.prog X.w) X.A (f v u) (EP X a b Q) X.xe s
def jr (X:Cx)(f:X9)(r:AF->Hp->VK->Prop):Prop :=
 ∀(a:List (Addr×Obj)) (s:X7) (d:St) (H:Hp) (c:AF) (b:List X9) (Q:VK),Inv X a d H s->Vals c b->r c H Q ->
  Xv (Xr X.prog X.w) X.A (call f b) (EP X a d Q) X.xe s
def zsG (X:Cx)(r:V->Hp->(Bool->Hp->Prop)->Prop):Prop :=
 ∀(a:List (Addr×Obj)) (s:X7) (b:St) (H:Hp) (x:V) (v:X9) (Q:Bool->Hp->Prop),Inv X a b H s->RelV x v->r x H Q ->
  Xv (Xr X.prog X.w) X.A (truthy v) (TP X a b Q) X.xe s
def tOp (r:R2)(d e:TE):TE:=fun a H Q=>d a H λx b=>e a b λy c=>r x y c Q
def rI (C:Int->Int->Prop)(g:Int->Int->V):R2:=λx y H Q=>∃i j,x=.int i/\y=.int j/\C i j/\Q (g i j) H
def rI0 (g:Int->Int->V):R2:=λx y H Q=>∃i j,x=.int i/\y=.int j/\Q (g i j) H
section
variable {X:Cx}{a b c:Expr}{ta tb tc:TE}{pos:Pos}
def zpU (n:PE X a ta)(o:PE X b tb){i:List (Addr×Obj)}{s:X7}{d:St}{H:Hp}{R:V->V->Hp->Prop}(I:Inv X i d H s)
  (h:ta d H λx k=>tb d k λy c=>R x y c) {Q:X9->X7->Prop} {f:X9->X9->Sem X9}
  (p:∀v u j x y c,Inv X i d c j->RelV x v->RelV y u->R x y c->Xv (Xr X.prog X.w) X.A (f v u) Q X.xe j) :
  Xv (Xr X.prog X.w) X.A (eval a X.env) (λv e=>Xv (Xr X.prog X.w) X.A (eval b X.env) (λu g=>Xv (Xr X.prog X.w) X.A (f v u) Q X.xe g) X.xe e) X.xe s:=by
 refine thn (n i s d H _ I h) λv s1 ⟨x,k,l,z,q⟩=>?_;refine thn (o i s1 d k _ l q) λu j ⟨y,c,m,B,r⟩=>?_;exact p v u j x y c m z B r
def zK {op:Operator}{r:R2}(i:OpR X (Uk op) r)(f:PE X a ta)(g:PE X b tb):PE X (.BinOp a op b pos) (tOp r ta tb):=by
 intro e s m H Q I h;exact wpAny_BinOp (zpU f g I h λv u l x y c d j k q=>i e l m c x y v u Q d j k q)
def opI {f:X9->X9->Sem X9}{C:Int->Int->Prop}{g:Int->Int->Int}
  (rule:∀(i j:Int) (t u:Tok) (s:X7) (Q:X9->X7->Prop) (E:X9->X7->Prop),C i j->Q (.int (g i j) s.toks) { s with toks:=s.toks+1 }->Xv (Xr X.prog X.w) X.A (f (.int i t) (.int j u)) Q E s) :
  OpR X f (rI C λi j=>.int (g i j)):=by
 intro e s k H x y v u Q I b c h;obtain⟨i,j,rfl,rfl,a,q⟩:=h;obtain⟨t,rfl⟩:=b;obtain⟨d,rfl⟩:=c;exact rule i j t d s _ _ a ⟨.int (g i j),H,I.tok _,⟨_,rfl⟩,q⟩
def zrB {f:X9->X9->Sem X9}{g:Int->Int->Int}
  (rule:∀(i j:Int) (t u:Tok) (s:X7) (Q:X9->X7->Prop) (E:X9->X7->Prop),Q (.int (g i j) s.toks) { s with toks:=s.toks+1 }->Xv (Xr X.prog X.w) X.A (f (.int i t) (.int j u)) Q E s) :
  OpR X f (rI0 λi j=>.int (g i j)):=by
 intro d s e H x y v u Q I a b h;obtain⟨i,j,rfl,rfl,q⟩:=h;obtain⟨t,rfl⟩:=a;obtain⟨c,rfl⟩:=b;exact rule i j t c s _ _ ⟨.int (g i j),H,I.tok _,⟨_,rfl⟩,q⟩
def znH {f:X9->X9->Sem X9}{g:Int->Int->Bool}
  (rule:∀(i j:Int) (t u:Tok) (s:X7) (Q:X9->X7->Prop) (E:X9->X7->Prop),Q (.bool (g i j)) s->Xv (Xr X.prog X.w) X.A (f (.int i t) (.int j u)) Q E s) :
  OpR X f (rI0 λi j=>.bl (g i j)):=by
 intro d s e H x y v u Q I a b h;obtain⟨i,j,rfl,rfl,q⟩:=h;obtain⟨t,rfl⟩:=a;obtain⟨c,rfl⟩:=b;exact rule i j t c s _ _ ⟨.bl (g i j),H,I,rfl,q⟩
def zpV:OpR X (Uk .Add) (rI0 λi j=>.int (i+j)):=zrB λ_ _ _ _ _ _ _ q=>add_int q
def zpW:OpR X (Uk .Sub) (rI0 λi j=>.int (i-j)):=zrB λ_ _ _ _ _ _ _ q=>sub_int q
def zpX:OpR X (Uk .Mod) (rI (λ_ j=>0<j) λi j=>.int (i%j)):=opI λi j _ _ _ _ _ a q=>by
 have h1:(0:Int)<j:=a;exact mod_int' (by lia) (by rw[Int.fmod_eq_emod_of_nonneg i (by lia)];exact q)
def zrC:V->V->Bool
 | .non,.non=>true | .non,.int _=>true | .int _,.non=>true | .non,.bl _=>true | .bl _,.non=>true | .non,.str _=>true | .str _,.non=>true
 | .int _,.int _=>true | .bl _,.bl _=>true | .str _,.str _=>true | .byt _,.byt _=>true
 | .int _,.str _=>true | .str _,.int _=>true | .bl _,.str _=>true | .str _,.bl _=>true
 | _,_=>false
def rEq:R2:=λx y H Q=>zrC x y=true/\Q (.bl (decide (x=y))) H
def rNe:R2:=λx y H Q=>zrC x y=true/\Q (.bl (!decide (x=y))) H
def zfe {i j:Int}:decide (V.int i=V.int j)=(i==j):=by
 rw[WX];simp
def zln {i j:Bool}:decide (V.bl i=V.bl j)=(i==j):=by
 rw[WX];simp
def zi4 {i j:Str}:decide (V.str i=V.str j)=(i==j):=by
 rw[WX];simp
def zi5 {i j:Array UInt8}:decide (V.byt i=V.byt j)=(i.toList==j.toList):=by
 rw[WX];cases i;cases j;simp
def qw {a:List (Addr×Obj)}{c:St}{H:Hp}{s:X7}{Q:VK}{k b:Bool}(I:Inv X a c H s)(q:Q (.bl k) H)(e:k=b):EP X a c Q (.bool b) s:=by
 subst e;exact⟨.bl k,H,I,rfl,q⟩
def zbQ:OpR X (V2 .Eq) rEq:=by
 intro e s f H x y v u Q I d a h;obtain⟨c,q⟩:=h;cases x with
 | non =>
  cases d;cases y with
  | non=>cases a;exact PySem.EqNone.eq_none_none (qw I q (by simp))
  | bl j=>cases a;exact PySem.EqNone.eq_none_bool (qw I q (by simp))
  | int j=>obtain⟨b,rfl⟩:=a;exact PySem.EqNone.eq_none_int (qw I q (by simp))
  | str j=>obtain⟨b,rfl⟩:=a;exact PySem.EqNone.eq_none_str (qw I q (by simp))
  | _=>exact absurd (show false=true from c) XT
 | bl i =>
  cases d;cases y with
  | non=>cases a;exact PySem.EqNone.eq_bool_none (qw I q (by simp))
  | bl j=>cases a;exact eq_bool (qw I q zln)
  | str j=>obtain⟨b,rfl⟩:=a;exact PySem.EqMixed.eq_bool_str (qw I q (by simp))
  | _=>exact absurd (show false=true from c) XT
 | int i =>
  obtain⟨t,rfl⟩:=d;cases y with
  | non=>cases a;exact PySem.EqNone.eq_int_none (qw I q (by simp))
  | int j=>obtain⟨b,rfl⟩:=a;exact eq_int (qw I q zfe)
  | str j=>obtain⟨b,rfl⟩:=a;exact PySem.EqMixed.eq_int_str (qw I q (by simp))
  | _=>exact absurd (show false=true from c) XT
 | str i =>
  obtain⟨t,rfl⟩:=d;cases y with
  | non=>cases a;exact PySem.EqNone.eq_str_none (qw I q (by simp))
  | bl j=>cases a;exact PySem.EqMixed.eq_str_bool (qw I q (by simp))
  | int j=>obtain⟨b,rfl⟩:=a;exact PySem.EqMixed.eq_str_int (qw I q (by simp))
  | str j=>obtain⟨b,rfl⟩:=a;exact eq_str (qw I q zi4)
  | _=>exact absurd (show false=true from c) XT
 | byt i =>
  obtain⟨t,rfl⟩:=d;cases y with
  | byt j=>obtain⟨b,rfl⟩:=a;exact PySem.W.eq_bytes (qw I q zi5)
  | _=>exact absurd (show false=true from c) XT
 | _=>cases y<;>exact absurd (show false=true from c) XT
def zcI:OpR X (V2 .NotEq) rNe:=by
 intro e s f H x y v u Q I d a h;obtain⟨c,q⟩:=h;cases x with
 | non =>
  cases d;cases y with
  | non=>cases a;exact PySem.EqNone.ne_none_none (qw I q (by simp))
  | bl j=>cases a;exact PySem.EqNone.ne_none_bool (qw I q (by simp))
  | int j=>obtain⟨b,rfl⟩:=a;exact PySem.EqNone.ne_none_int (qw I q (by simp))
  | str j=>obtain⟨b,rfl⟩:=a;exact PySem.EqNone.ne_none_str (qw I q (by simp))
  | _=>exact absurd (show false=true from c) XT
 | bl i =>
  cases d;cases y with
  | non=>cases a;exact PySem.EqNone.ne_bool_none (qw I q (by simp))
  | bl j=>cases a;exact ne_bool (qw I q (congrArg not zln))
  | str j=>obtain⟨b,rfl⟩:=a;exact PySem.EqMixed.ne_bool_str (qw I q (by simp))
  | _=>exact absurd (show false=true from c) XT
 | int i =>
  obtain⟨t,rfl⟩:=d;cases y with
  | non=>cases a;exact PySem.EqNone.ne_int_none (qw I q (by simp))
  | int j=>obtain⟨b,rfl⟩:=a;exact ne_int (qw I q (congrArg not zfe))
  | str j=>obtain⟨b,rfl⟩:=a;exact PySem.EqMixed.ne_int_str (qw I q (by simp))
  | _=>exact absurd (show false=true from c) XT
 | str i =>
  obtain⟨t,rfl⟩:=d;cases y with
  | non=>cases a;exact PySem.EqNone.ne_str_none (qw I q (by simp))
  | bl j=>cases a;exact PySem.EqMixed.ne_str_bool (qw I q (by simp))
  | int j=>obtain⟨b,rfl⟩:=a;exact PySem.EqMixed.ne_str_int (qw I q (by simp))
  | str j=>obtain⟨b,rfl⟩:=a;exact ne_str (qw I q (congrArg not zi4))
  | _=>exact absurd (show false=true from c) XT
 | byt i =>
  obtain⟨t,rfl⟩:=d;cases y with
  | byt j=>obtain⟨b,rfl⟩:=a;exact PySem.W.ne_bytes (qw I q (congrArg not zi5))
  | _=>exact absurd (show false=true from c) XT
 | _=>cases y<;>exact absurd (show false=true from c) XT
def zrD:OpR X (V2 .Lt) (rI0 λi j=>.bl (decide (i<j))):=znH λ_ _ _ _ _ _ _ q=>lt_int q
def zrE:OpR X (V2 .LtE) (rI0 λi j=>.bl (decide (i<=j))):=znH λ_ _ _ _ _ _ _ q=>le_int q
def zrF:OpR X (V2 .Gt) (rI0 λi j=>.bl (decide (j<i))):=znH λ_ _ _ _ _ _ _ q=>gt_int q
def zrG:OpR X (V2 .GtE) (rI0 λi j=>.bl (decide (j<=i))):=znH λ_ _ _ _ _ _ _ q=>ge_int q
def zj3:OpR X (V2 .In) (λx y H Q=>∃i j,x=.str i/\y=.str j/\Q (.bl (!(Ue j i 0 j.length 1).isEmpty)) H):=by
 intro c s e H x y v u Q I a b h;obtain⟨i,j,rfl,rfl,q⟩:=h;obtain⟨t,rfl⟩:=a;obtain⟨d,rfl⟩:=b;exact in_str (qw I q rfl)
def qe (b:Expr){op:CmpOp}(h:op ≠ .In:=by decide)(h2:op ≠ .NotIn:=by decide):R0 op b=false:=by
 have a:(op==CmpOp.In)=false:=by cases op<;>first | rfl | exact absurd rfl h
 have c:(op==CmpOp.NotIn)=false:=by cases op<;>first | rfl | exact absurd rfl h2
 cases b<;>simp[R0,a,c]
def Yu {op:CmpOp}{r:R2}(j:OpR X (V2 op) r)(f:PE X a ta)(g:PE X b tb)(i:R0 op b=false):PE X (.Compare a [op] [b] pos) (tOp r ta tb):=by
 intro e s n H Q I h;exact wpAny_Compare1 (zpU f g I h λv u m x y c d k l q=>j e m n c x y v u Q d k l q) i
def zrH (t:TE):TT:=fun b H Q=>t b H λx a=>∃k,x=.bl k/\Q k a
def zpY (r f:R2)(ta tb tc:TE):TE:=fun a H Q=>ta a H λx c=>tb a c λy d=>r x y d λz b=>∃k,z=.bl k /\
 (if k=true then tc a b λg e=>f y g e Q else Q (.bl false) b)
def YZ {op f:CmpOp}{r o:R2}(ho:OpR X (V2 op) r)(j:OpR X (V2 f) o)(N:PE X a ta)(O:PE X b tb)(U:PE X c tc)
  (Y:lastMarks [op,f] [b,c]=false:=by with_unfolding_all rfl):PT X (.Compare a [op,f] [b,c] pos) (zrH (zpY r o ta tb tc)):=by
 intro g s i H Q I h;refine isTrue_chain (thn (N g s i H _ I h) λv s1 ⟨x,q,D,r1,q1⟩=>test_link (thn (O g s1 i q _ D q1) λu s2 ⟨y,w,E,p,q2⟩ =>
  thn (ho g s2 i w x y v u _ E r1 p q2) λd s3 ⟨z,l,m,r3,k,e,n⟩=>?_)) Y
 subst e;cases r3;refine U0 ?_;cases k with
 | false =>
  obtain⟨k',L,q'⟩:=n;cases L;exact ite_ff ⟨l,m,q'⟩
 | true =>
  refine ite_tt (test_last (thn (U g s3 i l _ m n) λw' s4 ⟨z',A,G,r4,q4⟩=>thn (j g s4 i A y z' u w' _ G p r4 q4) λd' s5 ⟨z2,B,J,r5,k2,M,q5⟩=>?_));subst M;cases r5;exact U0 ⟨B,J,q5⟩
def zpZ (K:XW)(x:V)(H:Hp)(k:Bool):Prop :=
 match x with
 | .non=>k=false
 | .bl b=>k=b
 | .int i=>k=(i != 0)
 | .str y=>y.length<=Xq/\k=((y.length:Int) != 0)
 | .byt y=>y.size<=Xq/\k=((y.size:Int) != 0)
 | .ref p=>(∃c,SqL K H p c/\k=!c.isEmpty)\/(∃c,SqT K H p c/\k=!c.isEmpty)\/∃a,H p=some (.dK a)/\k=!a.isEmpty
 | _=>False
def zhP {b:Type}{a:List (b × V)}{vs:List (b × X9)}(r:KV a vs):(!vs.isEmpty)=!a.isEmpty:=by
 cases r<;>rfl
def zcJ {xs:AF}{a:List X9}(r:Vals xs a):(!a.toArray.isEmpty)=!xs.isEmpty:=by
 cases r<;>simp
def Y0:(Xq:Nat)<2^63:=by rw[SK];decide
def zp0:zsG X (λx H Q=>∃k,zpZ X.K x H k/\Q k H):=by
 intro B s G H x v Q I g h;obtain⟨k,e,q⟩:=h;have D:=Y0;have E:Xq=16777216:=SK;cases x with
 | non =>
  cases g;have a:k=false:=e;subst a;exact truthy_none ⟨H,I,q⟩
 | bl b =>
  cases g;have a:k=b:=e;subst a;exact U0 ⟨H,I,q⟩
 | int i =>
  obtain⟨t,rfl⟩:=g;have a:k=(i != 0):=e;subst a;exact PySem.P.truthy_int ⟨H,I,q⟩
 | str y =>
  obtain⟨t,rfl⟩:=g;obtain⟨A,a⟩:y.length<=Xq/\k=((y.length:Int) != 0):=e;subst a;exact PySem.P.truthy_str (by lia) ⟨H,I.tok _,q⟩
 | byt y =>
  obtain⟨t,rfl⟩:=g;obtain⟨A,a⟩:y.size<=Xq/\k=((y.size:Int) != 0):=e;subst a;exact PySem.W.truthy_bytes (by lia) ⟨H,I.tok _,q⟩
 | ref p =>
  cases g;have a:(∃f,SqL X.K H p f/\k=!f.isEmpty)\/(∃f,SqT X.K H p f/\k=!f.isEmpty)\/∃c,H p=some (.dK c)/\k=!c.isEmpty:=e;rcases a with ⟨f,j,a⟩ | ⟨f,j,a⟩ | ⟨c,j,a⟩
  .subst a;obtain⟨n,r,o,u⟩:=I.list j;have d:=r.length;exact wpAny_truthy_list o.isList (by simp only[Xy];lia) ⟨H,I.tok _,by rw[zcJ r];exact q⟩
  .subst a;obtain⟨n,r,o,u⟩:=I.tuple j;have d:=r.length;exact truthy_tuple o (by simp only[Xy];lia) ⟨H,I.tok _,by rw[zcJ r];exact q⟩
  .subst a;obtain⟨u,z,l,r,m⟩:c.length<=Xq/\(p==VE)=false/\∃l,KV c l/\s.heap.DictOf (qb X.prog X.w) p l:=I.hok p _ j;have d:c.length=l.length:=Paired.length r;exact wpAny_truthy_dict z m (by lia) ⟨H,I.tok _,by rw[zhP r];exact q⟩
 | _=>exact(show False from e).elim
def JP (g:PE X a ta)(he:∀whole,isTrue a X.env whole=(do let v <- whole;standAt a.pos;holding [v] (truthy v))) :
  PT X a (fun b H Q=>ta b H λx c=>∃k,zpZ X.K x c k/\Q k c):=by
 intro d s b H Q I h;exact isTrue_plain (thn (g d s b H _ I h) λv s1 ⟨x,e,f,j,i⟩=>zp0 d s1 b e x v Q f j i) (he _)
def Yv:OpR X (Uk .Add) (λx y H Q=>∃i j,x=.str i/\y=.str j/\i.length+j.length<=Xq/\Q (.str (i++j)) H):=by
 intro e s g H x y v u Q I b c h;obtain⟨i,j,rfl,rfl,a,q⟩:=h;obtain⟨t,rfl⟩:=b;obtain⟨d,rfl⟩:=c;exact add_str (λd f=>⟨.str (i++j),H,I.tok _,⟨_,rfl⟩,q⟩) a
def vals1 {x:V}{a:List X9}(r:Vals [x] a):∃u,a=[u]/\RelV x u:=by
 cases r with
 | cons b c=>cases c;exact⟨_,rfl,b⟩
def vals2 {x y:V}{a:List X9}(r:Vals [x,y] a):∃u b,a=[u,b]/\RelV x u/\RelV y b:=by
 cases r with
 | cons c d =>
  cases d with
  | cons e f=>cases f;exact⟨_,_,rfl,c,e⟩
def zgb:jr X (.builtin "abs") (λxs H Q=>∃i,xs=[.int i]/\Q (.int (if i<0 then -i else i)) H):=by
 intro a s d H xs c Q I r h;obtain⟨i,rfl,q⟩:=h;obtain⟨u,rfl,t,rfl⟩:=vals1 r;exact call_abs_int λu b=>⟨.int (if i<0 then -i else i),H,I.tok _,⟨_,rfl⟩,q⟩
def zek (b:X.calm=true):jr X (.builtin "max") (λxs H Q=>∃i j,xs=[.int i,.int j]/\Q (.int (if j>i then j else i)) H):=by
 intro c s m H xs g Q I r h;obtain⟨i,j,rfl,q⟩:=h;obtain⟨u,l,rfl,⟨t,rfl⟩,⟨e,rfl⟩⟩:=vals2 r;refine max_two_ints (I.ok.hd b) λd f k=>⟨_,H,I.kept k,?_,q⟩;by_cases a:j>i
 .rw[bw a,bw a];exact⟨_,rfl⟩
 .rw[bq a,bq a];exact⟨_,rfl⟩
def zbh (b:X.calm=true):jr X (.builtin "min") (λxs H Q=>∃i j,xs=[.int i,.int j]/\Q (.int (if j<i then j else i)) H):=by
 intro c s m H xs g Q I r h;obtain⟨i,j,rfl,q⟩:=h;obtain⟨u,l,rfl,⟨t,rfl⟩,⟨e,rfl⟩⟩:=vals2 r;refine min_two_ints (I.ok.hd b) λd f k=>⟨_,H,I.kept k,?_,q⟩;by_cases a:j<i
 .rw[bw a,bw a];exact⟨_,rfl⟩
 .rw[bq a,bq a];exact⟨_,rfl⟩
def zj4:jr X (.type "int") (λxs H Q=>(∃i,xs=[.int i]/\Q (.int i) H)\/∃k,xs=[.bl k]/\Q (.int (if k then 1 else 0)) H):=by
 intro b s d H xs c Q I r h;rcases h with ⟨i,rfl,q⟩ | ⟨k,rfl,q⟩
 .obtain⟨u,rfl,t,rfl⟩:=vals1 r;exact call_int_int ⟨.int i,H,I,⟨_,rfl⟩,q⟩
 .obtain⟨u,rfl,a⟩:=vals1 r;cases a;exact call_int_bool ⟨.int (if k then 1 else 0),H,I.tok _,⟨_,rfl⟩,q⟩
def zaz:jr X (.type "str") (λxs H Q=>∃i,xs=[.int i]/\i.natAbs.log2<1920/\Q (.str (toString i)) H):=by
 intro b s d H xs c Q I r h;obtain⟨i,rfl,a,q⟩:=h;obtain⟨u,rfl,t,rfl⟩:=vals1 r;exact PySem.P.str_of_int a ⟨.str _,H,I.tok _,⟨_,rfl⟩,q⟩
end
structure zp1 (h:Heap)(x dx C:Addr)(mA:Str->Option X9):Prop where
 obj:h.get? x=some (O7 C dx)
 ns:h.Ns1 dx mA
 ne:dx≠x
def zj5 {h:Heap}{c:Addr}{f:Str->Option X9}(n:h.Ns1 c f):∃g,h.get? c=some g/\∀name,OL name g=some (f name):=by
 obtain⟨o,d,p,l,j,hk,_,k⟩:=n;refine⟨o,l,λname=>?_⟩;have e:=k name;unfold nsFind findBy at e;rw[<- Array.find?_toList]at e;unfold OL;rw[j];dsimp only;split
 .rename_i y q;rw[q]at e;exact congrArg some e
 .rename_i q;rw[q]at e;have a:d.toList.any (·.refKey)=false:=by
   rw[QP];intro y m;obtain⟨z,t,b⟩:=hk y (RO.mp m);simp[DictEntry.refKey,b]
  have i:¬ d.toList.any (·.refKey)=true:=by rw[a];exact XT
  rw[bq i];exact congrArg some e
def zp1.look {h:Heap}{x b C:Addr}{c:Str->Option X9}(I:zp1 h x b C c):∃a,PySem.W.InstAt h x (O7 C b) C (some a)/\∀name,OL name a=some (c name) :=
 let ⟨a,ho,hl⟩:=zj5 I.ns
 ⟨a,⟨I.obj,rfl,rfl,ho⟩,hl⟩
def zbf.some_of {v:V}{o:Option X9}(r:zbf (some v) o):∃u,o=some u/\RelV v u:=by
 cases o with
 | none=>exact(show False from r).elim
 | some u=>exact⟨u,rfl,r⟩
section
variable {P:Xm}{w:W1}{H H':Hp}{h h':Heap}{a C dx:Addr}{fs fs':List (Str×V)}
def znI (c:HOk P w H h)(e:H a=some (.ins C dx fs)):∃b,zp1 h a dx C b/\(∀f,zbf (fs.lookup f) (b f))/\PySem.Within b (fs.map (·.1))/\fs.length<=1000/\H dx=some (.own a):=by
 obtain⟨d,z,g,ob,b,n,r,q⟩:=(show qP P w H h a (.ins C dx fs) from c a _ e);exact⟨b,⟨ob,n,g⟩,r,q,z,d⟩
end
structure Cls (K:XW)(C:Addr):Prop where
 pg:PySem.W.plainGet K C Str.empty=true
 hd:PySem.W.hasDictIn K C=true
 po:PySem.W.plainOver K C=true
 sa:PySem.W.findIn K (.ref C) "__setattr__"=some (some (.builtin "object.__setattr__"))
def Cls.get {K:XW}{C:Addr}(c:Cls K C)(f:Str):PySem.W.plainGet K C f=true:=c.pg
section
variable {X:Cx}{bz:List (Addr×Obj)}{σ:St}{H:Hp}{s:X7}{A:WN}{E:X9->X7->Prop}{Q:X9->X7->Prop}{c:X9}{b:Bool}
inductive zbi (K:XW)(H:Hp):V->X9->Prop where
 | non:zbi K H .non (.type "NoneType")
 | bl (x:Bool):zbi K H (.bl x) (.type "bool")
 | int (i:Int):zbi K H (.int i) (.type "int")
 | str (x:Str):zbi K H (.str x) (.type "str")
 | flt (x:UInt64):zbi K H (.flt x) (.type "float")
 | lst {a:Addr} {xs:AF} (e:H a=some (.lst xs)):zbi K H (.ref a) (.type "list")
 | frz {a:Addr} {o:Obj} {xs:AF} (e:H a=some (.frz o (.lst xs))):zbi K H (.ref a) (.type "list")
 | tup {a:Addr} {xs:AF} (e:H a=some (.tup xs)):zbi K H (.ref a) (.type "tuple")
 | dK {a:Addr} {kvs:List (Key×V)} (e:H a=some (.dK kvs)):zbi K H (.ref a) (.type "dict")
 | dT {a:Addr} {kvs:List (List Key×V)} (e:H a=some (.dT kvs)):zbi K H (.ref a) (.type "dict")
 | ins {a C dx:Addr} {fs:List (Str×V)} (e:H a=some (.ins C dx fs)) (cl:Cls K C) (ha:PySem.W.findIn K (.ref C) "__class__"=some (some (.builtin "object.__class__")))
   (hn:PySem.W.specialIn K (.builtin "object.__class__") "__get__"=some (some (.builtin "getset_descriptor.__get__"))) (htk:PySem.W.takesIn K (.builtin "object.__class__")=some true)
   (hm:PySem.W.mroIn K C (.type "object")=some true):zbi K H (.ref a) (.ref C)
def zj6 {x:V}{u t:X9}(I:Inv X bz σ H s)(f:RelV x u)(ty:zbi X.K H x t)(e:PySem.W.kitOne X.K t c=some b)(h:∀tk,Q (.bool b) { s with toks:=tk }) :
  Xv (Xr X.prog X.w) A (call (.builtin "isinstance") [u,c]) Q E s:=by
 cases ty with
 | non=>cases (show u=Vw from f);exact VI PySem.W.kitx_none I.kIn TB e (λz=>nomatch z) h
 | bl y=>cases (show u=N2 y from f);exact VI PySem.W.kitx_bool I.kIn TB e (λz=>nomatch z) h
 | int i=>obtain⟨t,q⟩:=(show ∃t,u=Vj i t from f);cases q;exact VI PySem.W.kitx_int I.kIn TB e (λz=>nomatch z) h
 | str y=>obtain⟨t,q⟩:=(show ∃t,u=NI y t from f);cases q;exact VI PySem.W.kitx_str I.kIn TB e (λz=>nomatch z) h
 | flt y=>obtain⟨t,q⟩:=(show ∃t,u=Value.float y t from f);cases q;exact VI PySem.W.kitx_float I.kIn TB e (λz=>nomatch z) h
 | @lst a j d =>
  cases (show u=WO a from f);obtain⟨_,_,n,_,h1⟩:=(show qP X.prog X.w H s.heap a (.lst j) from I.hok a _ d);exact VI PySem.W.kitx_list I.kIn ⟨_,h1,rfl⟩ e (λz=>nomatch z) h
 | @frz a ob j d =>
  cases (show u=WO a from f);obtain⟨_,_,_,n,_,h1⟩:=(show qP X.prog X.w H s.heap a (.frz ob (.lst j)) from I.hok a _ d);exact VI PySem.W.kitx_list I.kIn ⟨_,h1,rfl⟩ e (λz=>nomatch z) h
 | @tup a j d =>
  cases (show u=WO a from f);obtain⟨_,_,_,p⟩:=(show qP X.prog X.w H s.heap a (.tup j) from I.hok a _ d);obtain⟨o,h1,h2,_⟩:=p;exact VI PySem.W.kitx_tuple I.kIn ⟨o,h1,h2⟩ e (λz=>nomatch z) h
 | @dK a g d =>
  cases (show u=WO a from f);obtain⟨_,_,N,_,p⟩:=(show qP X.prog X.w H s.heap a (.dK g) from I.hok a _ d);revert p;refine fF λo r m h1 h2 _=>?_;exact VI PySem.W.kitx_dict I.kIn ⟨o,h1,h2.1⟩ e (λz=>nomatch z) h
 | @dT a g d =>
  cases (show u=WO a from f);refine fB (λ_ _ j _=>fF λo r m h1 h2 _=>?_) (show qP X.prog X.w H s.heap a (.dT g) from I.hok a _ d);exact VI PySem.W.kitx_dict I.kIn ⟨o,h1,h2.1⟩ e (λz=>nomatch z) h
 | @ins a C G fs d l v D k B =>
  cases (show u=WO a from f);obtain⟨L,O,_⟩:=znI I.hok d;obtain⟨M,J,_⟩:=O.look;exact VI (PySem.W.kitx_own (l.get _) l.hd v D k B) I.kIn J e (λz=>nomatch z) h
end
structure x9 (k:Nat)(A:WN):Prop where
 hd:A.handled=none
 dp:A.depth+3*k+5<recursionLimit
 un:A.units+16*k+200<Vt
def x9.mono {j k:Nat}{A:WN}(r:x9 k A)(h:j<=k):x9 j A:=⟨r.hd,by have:=r.dp;lia,by have:=r.un;lia⟩
theorem x9.deeper {k:Nat}{A:WN}(r:x9 (k+1) A)(a:Env):x9 k (A.deeper a) :=
 ⟨r.hd,by have:=r.dp;show A.depth+1+3*k+5<_;lia,by have:=r.un;show A.units+3+16*k+200<_;lia⟩
theorem x9.depth {k:Nat}{A:WN}(r:x9 k A):A.depth<recursionLimit:=by have:=r.dp;lia
theorem x9.units {k:Nat}{A:WN}(r:x9 k A):A.units+64<Vt:=by have:=r.un;lia
def zsH:TA:=λ_ H Q=>Q [] H
def zpd (d:TE)(e:TA):TA:=fun a H Q=>d a H λx b=>e a b λf c=>Q (x::f) c
section
variable {X:Cx}{e:Expr}{es:List Expr}{te:TE}{t:TA}{pos:Pos}
def zb:PA X [] zsH:=λ_ _ _ _ H Q I h=>Qr ⟨[],H,I,.nil,h⟩
def za (i:PE X e te)(j:PA X es t)(k:WG (e::es) X.env=(false,eval e X.env)::WG es X.env:=by rfl):PA X (e::es) (zpd te t):=by
 intro pos a s b H Q I h;rw[k];show Xv _ _ (NW ((false,eval e X.env)::TR pos (WG es X.env))) _ _ s;refine UK (thn (i a s b H _ I h) λu s1 ⟨x,c,f,n,l⟩=>?_);exact thn (j pos a s1 b c _ f l) λr q ⟨p,d,g,o,m⟩=>⟨x::p,d,g,.cons n o,m⟩
def zsI (t:TA):TE:=fun c H Q=>t c H λb a=>b.length<=Xq/\∀p,a p=none->Q (.ref p) (upd a p (.tup b))
def zsJ (t:TA):TE:=fun c H Q=>t c H λb a=>b.length<=Xq/\∀p,a p=none->Q (.ref p) (upd a p (.lst b))
def qH {x1}(h:PA X es t):PE X (.Tuple es x1 pos) (zsI t):=by
 intro d s k H Q I g;refine wpAny_Tuple_spliced (thn (h pos d s k H _ I g) λi s1 ⟨j,a,c,r,z,q⟩=>⟨by rw[<- r.length];exact z,?_⟩);have f:a s1.heap.objs.size=none:=c.hok.fresh (XV _);refine⟨.ref s1.heap.objs.size,upd a s1.heap.objs.size (.tup j),c.laid (t':=s1.toks) (λb u e=>X4 _ e) (XV _) ?_,rfl,q _ f⟩;exact⟨z,i,r,⟨_,Xs _ rfl,rfl,_,rfl⟩⟩
def qm (h:PA X es t):PE X (.List es pos) (zsJ t):=by
 intro d s k H Q I g;refine wpAny_List_spliced (thn (h pos d s k H _ I g) λi s1 ⟨j,a,c,r,z,q⟩=>⟨by rw[<- r.length];exact z,?_⟩);have f:a s1.heap.objs.size=none:=c.hok.fresh (XV _);refine⟨.ref s1.heap.objs.size,upd a s1.heap.objs.size (.lst j),c.laid (t':=s1.toks) (λb u e=>X4 _ e) (XV _) ?_,rfl,q _ f⟩;exact⟨z,i,0,r,Xs _ rfl⟩
end
abbrev Sp:=AF->Hp->VK->XK->Prop
abbrev CXT:=List Env->Hp->X7->XK->X9->X7->Prop
structure zlo (P:Xm)(w:W1)(K:XW)(mg:Str->Option X9)(base:Heap)(A:WN)(outer:List Env)(s:X7)(H:Hp):Prop where
 frames:A.frames=some outer
 mod:Mod K mg base
 bs:∀b o,base.get? b=some o->s.heap.get? b=some o/\H b=none
 bsz:base.objs.size<=s.heap.objs.size
 funs:s.heap.FunFrames base outer
 frf:∀b∈frs outer,H b=none
 hok:HOk P w H s.heap
 bare:Ra s.gens
def CE (a:List Env)(P:Xm)(w:W1)(H:Hp)(s:X7)(Q:VK)(u:X9)(s':X7):Prop :=
 ∃v b,s'.os=s.os/\Ra s'.gens/\Un (frs a) [] H b s.heap s'.heap/\HOk P w b s'.heap/\RelV v u/\Q v b
def CR (CX:CXT)(a:List Env)(P:Xm)(w:W1)(H:Hp)(s:X7)(Q:VK)(E:XK)(r:NK)(s':X7):Prop :=
 match r with
 | .ok (.ret u)=>CE a P w H s Q u s'
 | .ok _=>False
 | .error e=>CX a H s E e s'
structure qA (P:Xm)(w:W1)(K:XW)(mg:Str->Option X9)(base:Heap)(CX:CXT)(k:Nat)(f:Addr)(fd:XC)(ps:AE)(sp:Sp):Prop where
 len:∀vs H Q E,sp vs H Q E->vs.length=ps.length
 run:∀(A:WN) (outer:List Env) (s:X7) (H:Hp) (args:Args) (us:List X9) (vs:AF) (Q:VK) (E:XK),x9 k A->zlo P w K mg base A outer s H->Os s fd args (ps.zip us)->Vals vs us->sp vs H Q E ->
  Tu (Xr P w) A (.call (.ref f) args) (CR CX outer P w H s Q E) s
def qA.imp {P:Xm}{w:W1}{K:XW}{g:Str->Option X9}{a:Heap}{CX:CXT}{k:Nat}{f:Addr}{e:XC}{ps:AE}{sp d:Sp}(F:qA P w K g a CX k f e ps sp)
  (h:∀vs H Q E,d vs H Q E->sp vs H Q E):qA P w K g a CX k f e ps d :=
 ⟨λvs H Q E q=>F.len vs H Q E (h _ _ _ _ q),λA b s H c n vs Q E j he i m l=>F.run A b s H c n vs Q E j he i m (h _ _ _ _ l)⟩
section
variable {X:Cx}{bz:List (Addr×Obj)}{σ:St}{H:Hp}{s s':X7}
def Inv.env0 (I:Inv X bz σ H s):zlo X.prog X.w X.K X.mg X.base X.A X.stack s H :=
 ⟨I.ok.frames,I.ok.mod,I.bs,X5 I.ok.bsz I.sz,I.stack,I.stkFree,I.hok,I.bare⟩
def Inv.after {Q:VK}{u:X9}(I:Inv X bz σ H s)(h:CE X.stack X.prog X.w H s Q u s'):EP X bz σ Q u s':=by
 obtain⟨v,f,os,a,un,c,r,q⟩:=h;obtain⟨i,g,d,t,e⟩:=s';obtain rfl:e=s.os:=os;exact⟨v,f,I.call (h':=i) (g':=g) (d':=d) (t':=t) (ch:=[]) un c a (λb z=>absurd z (by simp)),r,q⟩
end
def zgc (sp:Sp)(a:AF)(E:XK)(t:TA):TE:=fun d H Q=>t d H λc b=>sp (c++a) b Q E
def Binds (K:XW)(c:XC)(ps:AE)(b:List X9):Prop :=
 ∀(s:X7) (a:List X9),K.In s.heap->(a++b).length=ps.length->Os s c ⟨a,[]⟩ (ps.zip (a++b))
def Binds.all {K:XW}{b:XC}{ps:AE}(h:∀a:List X9,a.length=ps.length->NU b ⟨a,[]⟩=pure (ps.zip a)):Binds K b ps []:=λs a _ c=>by
 rw[Xa]at c ⊢;exact .of_eq (h a c)
def Passes (CX:CXT)(X:Cx)(E:XK):Prop:=∀(b:List (Addr×Obj)) (c:St) (H:Hp) (s:X7) (e:X9) (a:X7),Inv X b c H s->CX X.stack H s E e a->X.xe e a
section
variable {X:Cx}{CX:CXT}{k:Nat}{f C:Addr}{fd:XC}{ps:AE}{sp:Sp}{dvs:AF}{ds:List X9}{E:XK}{x m:Str}{p pos apos:Pos}{e o:Expr}{es:List Expr}{ta:TE}{t:TA}
def zlp {c:List (Addr×Obj)}{d:St}{H:Hp}{s:X7}{Q:VK}{a:List X9}{vs:AF}(F:qA X.prog X.w X.K X.mg X.base CX k f fd ps sp)(n:x9 k X.A)(j:Binds X.K fd ps ds)(l:Vals dvs ds)(o:Passes CX X E)
  (I:Inv X c d H s) (r:Vals vs a) (h:sp (vs++dvs) H Q E):Xv (Xr X.prog X.w) X.A (call (.ref f) a) (EP X c d Q) X.xe s:=by
 have g:Vals (vs++dvs) (a++ds):=r.append l;have m:(a++ds).length=ps.length:=by rw[<- g.length];exact F.len _ _ _ _ h
 refine N1 (Ts (F.run X.A X.stack s H ⟨a,[]⟩ (a++ds) (vs++dvs) Q E n I.env0 (j s a I.kIn m) g h) λr p b=>?_);cases r with
 | error e=>exact o c d H s e p I b
 | ok i =>
  cases i with
  | ret u=>exact I.after b
  | next=>exact Wi b
  | brk=>exact Wi b
  | cont=>exact Wi b
def znJ (F:qA X.prog X.w X.K X.mg X.base CX k f fd ps sp)(n:x9 k X.A)(l:Gl X x)(m:X.mg x=some (.ref f))(hk:U6 X.K (.ref f)=true)(i:Binds X.K fd ps ds)(j:Vals dvs ds)(o:Passes CX X E)
  (g:PA X (e::es) t) (a:(x==("__debug__":Str))=false:=by decide) (he:WG (e::es) X.env=(false,eval e X.env)::WG es X.env:=by rfl) (b:(TR pos (WG es X.env)).any (·.1)=false:=by rfl) :
  PE X (.Call (.Name x p) (e::es) [] pos) (zgc sp dvs E t):=by
 intro d s u H Q I h;refine UJ (QA I l m ?_ a);refine SS (h₀:=X.base) I.ok.mod.kin hk (thn (g pos d s u H _ I h) λy s1 ⟨z,v,c,r,q⟩=>⟨c.kIn,?_⟩) he b;exact zlp F n i j o c r q
end
structure zE (N P:AE)(sc:UC):Prop where
 kind:sc.kind=.function
 co:sc.isCoroutine=false
 gen:sc.isGenerator=false
 nd:N.Nodup
 pre:N.take P.length=P
 par:∀x∈P,sc.names.lookup x=some .local\/sc.names.lookup x=some .cell
 nofree:∀y∈sc.names,y.2 ≠ .free
def bh {N P:AE}{c:UC}(k:c.kind=.function:=by rfl)(a:c.isCoroutine=false:=by rfl)(b:c.isGenerator=false:=by rfl)(p:N.take P.length=P:=by rfl)(h:(N.Nodup)/\(∀x∈P,c.names.lookup x=some .local\/c.names.lookup x=some .cell)/\∀y∈c.names,y.2 ≠ .free:=by decide+kernel):zE N P c:=⟨k,a,b,h.1,p,h.2.1,h.2.2⟩
theorem zel {kindOf:Str->Option Tc}{x:Str}:∀{binds:List (Str×X9)} {m:Str->Option X9},(∀v,(x,v) ∉ binds)->NE kindOf binds m x=m x
 | [],_,_=>rfl
 | (n,v)::r,m,h=>by
  unfold NE;rw[zel λw a=>h w (XY _ a)];split
  .have:x≠n:=by rintro rfl;exact h v XX
   simp[this]
  .rfl
theorem zem {kindOf:Str->Option Tc}{x:Str}:∀{binds:List (Str×X9)} {m:Str->Option X9},(∀v,(x,v) ∉ binds)->ND kindOf binds m x=m x
 | [],_,_=>rfl
 | (n,v)::r,m,h=>by
  unfold ND;rw[zem λw a=>h w (XY _ a)];split
  .rfl
  .have:x≠n:=by rintro rfl;exact h v XX
   simp[this]
theorem zen {kindOf:Str->Option Tc}{x:Str}{v:X9}:∀{P:AE} {vs:List X9} {i:Nat} {m:Str->Option X9},P.Nodup->P[i]?=some x->vs[i]?=some v->kindOf x=some .local ->
  NE kindOf (P.zip vs) m x=some v
 | [],_,_,_,_,h,_,_=>by simp at h
 | _::_,[],_,_,_,_,h,_=>by simp at h
 | p::P,w::vs,0,m,a,h1,h2,hk=>by
  simp at h1 h2;subst h1;subst h2;show NE kindOf ((p,w)::P.zip vs) m p=_;unfold NE;rw[zel λv b=>(Wf.mp a).1 (RK b).1,bw hk];simp
 | p::P,w::vs,i+1,m,a,h1,h2,hk=>by
  show NE kindOf ((p,w)::P.zip vs) m x=_;unfold NE;exact zen (i:=i) (Wf.mp a).2 (by simpa using h1) (by simpa using h2) hk
theorem zeo {kindOf:Str->Option Tc}{x:Str}{v:X9}:∀{P:AE} {vs:List X9} {i:Nat} {m:Str->Option X9},P.Nodup->P[i]?=some x->vs[i]?=some v->kindOf x≠some .local ->
  ND kindOf (P.zip vs) m x=some v
 | [],_,_,_,_,h,_,_=>by simp at h
 | _::_,[],_,_,_,_,h,_=>by simp at h
 | p::P,w::vs,0,m,a,h1,h2,hk=>by
  simp at h1 h2;subst h1;subst h2;show ND kindOf ((p,w)::P.zip vs) m p=_;unfold ND;rw[zem λv b=>(Wf.mp a).1 (RK b).1,bq hk];simp
 | p::P,w::vs,i+1,m,a,h1,h2,hk=>by
  show ND kindOf ((p,w)::P.zip vs) m x=_;unfold ND;exact zeo (i:=i) (Wf.mp a).2 (by simpa using h1) (by simpa using h2) hk
def start (N:AE)(vs:AF):St:=vs.map some++WQ (N.length-vs.length) none
def zcK (CX:CXT)(P:Xm)(w:W1)(K:XW)(mg:Str->Option X9)(base:Heap)(N:AE)(qual:Str)(scope:UC)(f:Addr)(cd:X9)(A:WN)(outer:List Env)(s:X7)(H:Hp)(E:XK):Cx where
 prog:=P
 w:=w
 K:=K
 mg:=mg
 base:=base
 A:=A.deeper (Rx qual scope s.heap.objs.size f cd)
 N:=N
 s₀:=s
 H₀:=H
 env:=Rx qual scope s.heap.objs.size f cd
 outer:=outer
 stack:=Rx qual scope s.heap.objs.size f cd::outer
 ex:=[]
 calm:=true
 fn:=λ_=>true
 pn:=[]
 xe:=λe s'=>Xv (Xr P w) (A.deeper (Rx qual scope s.heap.objs.size f cd)) (leaving (Rx qual scope s.heap.objs.size f cd) e) (λ_ s''=>CX outer H s E e s'') (λe' s''=>CX outer H s E e' s'') s'
def zgd {a:UC}{n:Nat}{x:Str}(h:a.names.lookup x=some .cell):∃c,(R7 n a.names []).lookup x=some c:=by
 have q:=T5 a.names n [] (.inl h);exact Wa.mp q
def zep {CX:CXT}{P:Xm}{w:W1}{K:XW}{J:Str->Option X9}{l:Heap}{N ps:AE}{j:Str}{d:UC}{f:Addr}{G:X9}{A:WN}{g:List Env}{s s1:X7}{H:Hp}{E:XK}{L:List X9}{vs:AF}
  (S:zE N ps d) (Q:A.handled=none) (m:zlo P w K J l A g s H) (hl:vs.length=ps.length) (r:Vals vs L)
  (x:InCallC s s.heap.objs.size (NE (Rx j d s.heap.objs.size f G).kindOf (ps.zip L) λ_=>none) (R7 (s.heap.objs.size+1) d.names []) (ND (Rx j d s.heap.objs.size f G).kindOf (ps.zip L) λ_=>none) s1) :
  Inv (zcK CX P w K J l N j d f G A g s H E) [] (start N vs) H s1:=by
 have U:ps.length<=N.length:=by have:=congrArg List.length S.pre;rw[XQ]at this;lia
 obtain⟨h1,tk,rfl,hk⟩:=x.done;have o:∀b:Addr,b ∉ (zcK CX P w K J l N j d f G A g s H E).ex:=λb z=>absurd (show b∈([]:List Addr) from z) (by simp);refine⟨⟨m.mod,S.kind,rfl,rfl,XV _,λy z c h1 h2=>?_,λy hy=>?_,λy c _ h=>?_,λ_=>Q,Around.frames_deeper m.frames,.inr ⟨rfl,rfl⟩,λb z=>absurd z (o b),m.bs,m.bsz,λb _ _=>o b,λb z=>absurd z (o b),m.funs,m.frf⟩,rfl,m.bare,Un.kept hk,⟨_,x.toInCall.ns,λi y v h1 h2 h3=>?_⟩,λy c h=>⟨_,x.cell y c h⟩,m.hok.fresh (XV _),λy c h=>?_,λp B=>absurd (show p∈([]:List (Addr×Obj)) from B) (by simp),m.hok.kept hk,?_⟩
 .exact name_of_addr x.apart (WH h1) (WH h2)
 .have hy:d.names.lookup y=some .cell\/d.names.lookup y=some .free:=hy;rcases hy with hy | hy
  .exact zgd hy
  .exact absurd rfl (S.nofree _ (WH hy))
 .exact Tt (x.above y c (WH h))
 .have I:i<vs.length:=by
   unfold start at h2;by_cases I:i<vs.length
   .exact I
   .rw[Vm (by simpa using I)]at h2;rw[List.getElem?_replicate]at h2;split at h2<;>cases h2
  have O:vs[i]?=some v:=by
   unfold start at h2;rw[VG (by simpa using I),Xw]at h2;cases e:vs[i]? with
   | none=>rw[e]at h2;cases h2
   | some a=>rw[e]at h2;cases h2;rfl
  obtain⟨u,M,Y⟩:=r.get O;have B:ps[i]?=some y:=by
   rw[<- S.pre,PZ (by lia)];exact h1
  have D:ps.Nodup:=by rw[<- S.pre];exact S.nd.sublist (TM _ _)
  refine⟨u,Y,?_⟩;rcases S.par y (X8 B) with k | k
  .exact .inl ⟨k,zen D B M k⟩
  .obtain⟨c,e⟩:=zgd (n:=s.heap.objs.size+1) k;refine .inr ⟨.inl k,c,e,?_⟩;have q:=x.cell y c e;rw[zeo D B M (by show d.names.lookup y≠_;rw[k];decide)]at q;exact q
 .exact m.hok.fresh (Tt (x.above y c (WH h)))
 .unfold start;show _=N.length;rw[XU,Y1,List.length_replicate];lia
def zrI {CX:CXT}{P:Xm}{w:W1}{K:XW}{M:Str->Option X9}{h:Heap}{k:Nat}{f:Addr}{name d:Str}{i:NJ}{j:List Stmt}{a:UC}{dV kV doc pm g ct oc:X9}{an od:Option Addr}
  {aa:Array (Option X9)} {N ps:AE} {sp:Sp} (lk:K.lookup f=some ⟨oc,od,.func (VY name d i j a dV kV doc pm an g ct),aa⟩) (O:U7 K g d=true) (S:zE N ps a)
  (len:∀vs H Q E,sp vs H Q E->vs.length=ps.length)
  (p:∀(A:WN) (c:List Env) (s:X7) (H:Hp) (vs:AF) (Q:VK) (E:XK),x9 k (A.deeper (Rx d a s.heap.objs.size f g))->sp vs H Q E ->
   ∃t,PSs (zcK CX P w K M h N d a f g A c s H E) j t/\t { nx:=λ_ m=>Q .non m,rt:=Q } (start N vs) H) :
  qA P w K M h CX (k+1) f (VY name d i j a dV kV doc pm an g ct) ps sp:=by
 refine⟨len,λA c s H ab us vs Q E U D hb r L=>?_⟩;have hl:=len _ _ _ _ L;have KX:K.In s.heap:=D.mod.kin.keeps λb o e=>(D.bs b o e).1;have Y:s.heap.NoLimit:=D.mod.nolimit.keeps λb o e=>(D.bs b o e).1;have z:∀y∈ps.zip us,a.names.lookup y.1=some .local\/(a.names.lookup y.1=some .cell/\((R7 (s.heap.objs.size+1) a.names []).lookup y.1).isSome=true):=λ⟨n,v⟩ hy=>by
  rcases S.par n (RK hy).1 with q | q
  .exact .inl q
  .exact .inr ⟨q,T5 _ _ _ (.inl q)⟩
 refine O3 U.depth (KX _ _ lk) rfl S.co S.gen rfl (PySem.W.codeRec_of KX O) (hb _ _ _ _ ?_);refine Rl S.kind z λac he s1 x=>?_;subst he;refine⟨Y.keeps x.toInCall.keep,codeAny_func ?_⟩;obtain⟨t,ht,hq⟩:=p A c s H vs Q E (U.deeper _) L;have I:Inv (zcK CX P w K M h N d a f g A c s H E) [] (start N vs) H s1:=zep S U.hd D hl r x;refine Wj (ht [] s1 (start N vs) H _ I hq) (λfl s' B=>?_) λe s' B=>B;have G:∀{l:St} {m:Hp} {v:V} {u:X9},Inv (zcK CX P w K M h N d a f g A c s H E) [] l m s'->RelV v u->Q v m->CE c P w H s Q u s' :=
  λ{l m v u} J rv q=>⟨v,m,J.os,J.bare,J.base,J.hok,rv,q⟩
 cases fl with
 | ret u =>
  obtain⟨v,l,m,J,rv,q⟩:=B;exact G J rv q
 | next =>
  obtain⟨l,m,J,q⟩:=B;exact G (v:=V.non) (u:=Vw) J rfl q
 | brk =>
  obtain⟨_,_,_,q⟩:=B;exact Wi q
 | cont =>
  obtain⟨_,_,_,q⟩:=B;exact Wi q
section
variable {X:Cx}{x:Str}{p pos:Pos}{e:Expr}{es:List Expr}{t:TA}{id T:String}{r:AF->Hp->VK->Prop}
def tCB (r:AF->Hp->VK->Prop)(t:TA):TE:=fun c H Q=>t c H λb a=>r b a Q
def zx (j:jr X (.builtin id) r)(k:Gl X x)(l:X.mg x=none)(n:SD x=some (.builtin id))(i:PA X (e::es) t)(m:x ≠ "__name__":=by decide)(a:(x==("__debug__":Str))=false:=by decide)
  (he:WG (e::es) X.env=(false,eval e X.env)::WG es X.env:=by rfl) (b:(TR pos (WG es X.env)).any (·.1)=false:=by rfl):PE X (.Call (.Name x p) (e::es) [] pos) (tCB r t):=by
 intro c s d H Q I h;refine UJ (YY I k l n ?_ m a);exact PyProof.Rows.callWith_builtin1 (thn (i pos c s d H _ I h) λu s1 ⟨v,f,g,q,o⟩=>j c s1 d f v u Q g q o) he b
def qI (j:jr X (.type T) r)(k:Gl X x)(l:X.mg x=none)(n:SD x=some (.type T))(i:PA X (e::es) t)(m:x ≠ "__name__":=by decide)(a:(x==("__debug__":Str))=false:=by decide)
  (he:WG (e::es) X.env=(false,eval e X.env)::WG es X.env:=by rfl) (b:(TR pos (WG es X.env)).any (·.1)=false:=by rfl):PE X (.Call (.Name x p) (e::es) [] pos) (tCB r t):=by
 intro c s d H Q I h;refine UJ (YY I k l n ?_ m a);exact VO (thn (i pos c s d H _ I h) λu s1 ⟨v,f,g,q,o⟩=>j c s1 d f v u Q g q o) he b
end
end L2
namespace HT
open PySem PyProof.Rows
section
variable {prog:Xm}{w:W1}{A:WN}{E:X9->X7->Prop}{s:X7}
def sIx (n d:Nat):Option Int->Nat
 | none=>d
 | some v=>if v<0 then (v+(n:Int)).toNat else min v.toNat n
def zi6 (n d k:Nat):sIx n d (some (k:Int))=min k n:=by
 show (if (k:Int)<0 then ((k:Int)+(n:Int)).toNat else min (k:Int).toNat n)=min k n;rw[bq (by lia),VQ]
end
end HT
namespace L2
open PySem PySem.Spec PyProof.Rows
abbrev TO:=St->Hp->(Option Int->Hp->Prop)->Prop
def PO (X:Cx)(e:Option Expr)(t:TO):Prop :=
 ∀(c:List (Addr×Obj)) (s:X7) (a:St) (H:Hp) (Q:Option Int->Hp->Prop),Inv X c a H s->t a H Q ->
  Xv (Xr X.prog X.w) X.A (evalPart e X.env) (λu d=>∃o b,Inv X c a b d/\IsPart u o/\Q o b) X.xe s
def znK:TO:=λ_ H Q=>Q none H
def zrJ (t:TE):TO:=fun b H Q=>t b H λx a=>∃i,x=.int i/\Q (some i) a
section
variable {X:Cx}{e:Expr}{te:TE}{lo hi:Option Expr}{tl th:TO}{pos p2:Pos}
def zff:PO X none znK:=by
 intro a s b H Q I h;rw[evalPart_none];exact X0 ⟨none,H,I,.none,h⟩
def zfg (h:PE X e te):PO X (some e) (zrJ te):=by
 intro c s j H Q I d;rw[evalPart_some];refine thn (h c s j H _ I d) λu s1 ⟨x,a,b,g,f⟩=>?_;obtain⟨i,rfl,q⟩:=f;obtain⟨t,rfl⟩:=g;exact⟨some i,a,b,.int i t,q⟩
def SlR (X:Cx)(r:V->Option Int->Option Int->Hp->VK->Prop):Prop :=
 ∀(a:List (Addr×Obj)) (s:X7) (e:St) (H:Hp) (x:V) (v c d:X9) (lo hi:Option Int) (b:Addr) (Q:VK),Inv X a e H s->RelV x v->s.heap.IsSliceOf b c d .none->IsPart c lo->IsPart d hi->r x lo hi H Q ->
  ∃T id,Pq (.type T) "__getitem__"=pure (some (.builtin id))/\s.TypeIs v T/\Xv (Xr X.prog X.w) X.A (Ot v (.ref b)) (EP X a e Q) X.xe s
def tSl (r:V->Option Int->Option Int->Hp->VK->Prop)(te:TE)(tl th:TO):TE:=fun a H Q=>te a H λx b=>tl a b λl c=>th a c λu d=>r x l u d Q
def zcL {r:V->Option Int->Option Int->Hp->VK->Prop}(D:SlR X r)(he:PE X e te)(B:PO X lo tl)(G:PO X hi th):PE X (.Subscript e (.Slice lo hi none p2) pos) (tSl r te tl th):=by
 intro c s d H Q I h;refine Subscript_ (thn (he c s d H _ I h) λv s1 ⟨x,j,m,U,M⟩=>?_);refine wpAny_Slice (thn (B c s1 d j _ m M) λf Y ⟨l,k,n,J,N⟩=>thn (G c Y d k _ n N) λg a ⟨u,i,o,L,O⟩=>?_);rw[evalPart_none];refine X0 ?_;have p:Inv X c d i { a with heap:=a.heap.push { cls:=.type "slice",data:=.fields #[f,g,.none] } }:=o.kept (t':=a.toks) λb ob q=>X4 _ q;refine fh (λT id y E z=>?_) (D c { a with heap:=a.heap.push { cls:=.type "slice",data:=.fields #[f,g,.none] } } d i x v f g l u a.heap.objs.size Q p U (Heap.IsSliceOf.new ..) J L O);show Xv (Xr X.prog X.w) X.A (Od e (.Slice lo hi none p2) v (.ref a.heap.objs.size)) (EP X c d Q) X.xe { a with heap:=a.heap.push { cls:=.type "slice",data:=.fields #[f,g,.none] } };exact tail_any (ops:=[.ref a.heap.objs.size,v]) E y z (by with_unfolding_all rfl)
def zdU (xs:AF)(lo hi:Option Int):AF:=(xs.drop (HT.sIx xs.length 0 lo)).take (HT.sIx xs.length xs.length hi-HT.sIx xs.length 0 lo)
def zge (xs:AF)(lo hi:Option Int):(zdU xs lo hi).length<=xs.length:=by
 unfold zdU;rw[XQ,Vf];lia
end
def ixN (n:Nat)(i:Int):Option Nat:=if 0<=i then (if i<n then some i.toNat else none) else if -(n:Int)<=i then some (i+n).toNat else none
def atI {α:Type}(xs:List α)(i:Int):Option α:=(ixN xs.length i).bind λj=>xs[j]?
def zi7 {n:Nat}{i:Int}{j:Nat}(h:ixN n i=some j):seqIndex? i n=some j/\j<n/\-(n:Int)<=i/\i<n:=by
 unfold ixN at h;by_cases h0:0<=i
 .rw[bw h0]at h;by_cases h1:i<n
  .rw[bw h1]at h;have e:i.toNat=j:=Option.some.inj h;exact⟨by rw[OT h0 h1,e],by lia,by lia,h1⟩
  .rw[bq h1]at h;cases h
 .rw[bq h0]at h;by_cases h1:-(n:Int)<=i
  .rw[bw h1]at h;have e:(i+n).toNat=j:=Option.some.inj h;exact⟨by rw[Pp (by lia) h1,e],by lia,h1,by lia⟩
  .rw[bq h1]at h;cases h
def zcm {α:Type}{xs:List α}{i:Int}{v:α}(h:atI xs i=some v):∃j,seqIndex? i xs.length=some j/\xs[j]?=some v/\j<xs.length/\-(xs.length:Int)<=i/\i<xs.length:=by
 unfold atI at h;cases e:ixN xs.length i with
 | none=>rw[e]at h;cases h
 | some j =>
  rw[e]at h;obtain⟨h1,h2,a,b⟩:=zi7 e;exact⟨j,h1,h,h2,a,b⟩
def Jt {α:Type}{xs:List α}{j:Nat}{v:α}(h:xs[j]?=some v):atI xs (j:Int)=some v:=by
 have a:j<xs.length:=(XZ.mp h).1;have e:ixN xs.length (j:Int)=some j:=by
  unfold ixN;rw[bw (by lia),bw (by lia)];simp
 unfold atI;rw[e];exact h
def znL (b:Expr):Prop:=∀o i,OR b false o i=operate [o,i] (Ot o i)
def IxR (X:Cx)(r:R2):Prop :=
 ∀(b a:Expr) (c:List (Addr×Obj)) (s:X7) (d:St) (H:Hp) (x y:V) (v u:X9) (Q:VK),Inv X c d H s->RelV x v->RelV y u->r x y H Q ->
  OR a false v u=operate [v,u] (Ot v u)->Xv (Xr X.prog X.w) X.A (Od b a v u) (EP X c d Q) X.xe s
def MtR (X:Cx)(id:String)(r:V->AF->Hp->VK->Prop):Prop :=
 ∀(a:List (Addr×Obj)) (s:X7) (d:St) (H:Hp) (x:V) (c:AF) (v:X9) (b:List X9) (Q:VK),Inv X a d H s->RelV x v->Vals c b->r x c H Q ->
  Xv (Xr X.prog X.w) X.A (call (.builtin id) (v::b)) (EP X a d Q) X.xe s
section
variable {X:Cx}{a b:Expr}{ta tb:TE}{pos:Pos}
def qh {r:R2}(i:IxR X r)(f:PE X a ta)(g:PE X b tb)(j:znL b):PE X (.Subscript a b pos) (tOp r ta tb):=by
 intro e s n H Q I h;exact Subscript_ (zpU f g I h λv u m x y c d k l q=>i a b e m n c x y v u Q d k l q (j _ _))
def zrK (K:XW):R2:=λx y H Q=>∃p a i v,x=.ref p/\y=.int i/\SqL K H p a/\atI a i=some v/\Q v H
def zsK (K:XW):R2:=λx y H Q=>∃p a i v,x=.ref p/\y=.int i/\SqT K H p a/\atI a i=some v/\Q v H
def zsL:R2:=λx y H Q=>∃z i c,x=.str z/\y=.int i/\z.length<=Xq/\atI z.cps.toList i=some c/\Q (.str ⟨#[c]⟩) H
def znM:IxR X (zrK X.K):=by
 intro g f k s n H x y v u Q I E G h m;obtain⟨p,O,i,z,rfl,rfl,D,he,q⟩:=h;cases E;obtain⟨t,rfl⟩:=G;obtain⟨c,r,d,N⟩:=I.list D;obtain⟨j,h1,h2,L,o,A⟩:=zcm he;obtain⟨w,l,e⟩:=r.get h2;have B:=r.length;have M:=Y0;have a:EP X k n Q w s:=⟨z,H,I,e,q⟩;by_cases h0:0<=i
 .have b:i.toNat=j:=by
   rw[OT h0 A]at h1;exact Option.some.inj h1
  exact item_listR d.isList h0 (by lia) (by rw[b];simpa using l) a m
 .have b:(i+(c.toArray.size:Int)).toNat=j:=by
   rw[Pp (by lia) o]at h1;rw[Xy,<- B];exact Option.some.inj h1
  exact Pj (x:=w) d.isList.typeIs slot_list_getitem.lookup
   (Pi (Q:=λr J=>r=w/\EP X k n Q r J) d.isList (by lia) (by rw[Xy]<;>lia) (by lia) (by rw[b];simpa using l) ⟨rfl,a⟩) m
def zp2:IxR X (zsK X.K):=by
 intro d c e s g H x y v u Q I A B h n;obtain⟨p,N,i,z,rfl,rfl,m,he,q⟩:=h;cases A;obtain⟨t,rfl⟩:=B;obtain⟨o,r,f,M⟩:=I.tuple m;obtain⟨j,h1,h2,E,G,J⟩:=zcm he;obtain⟨w,k,b⟩:=r.get h2;have l:=r.length;have L:=Y0;have a:EP X e g Q w s:=⟨z,H,I,b,q⟩;exact Pj (x:=w) f.typeIs slot_tuple_getitem.lookup
  (getItem_tuple (j:=j) (Q:=λr D=>r=w/\EP X e g Q r D) f (by lia) (by lia) (by rw[Xy,<- l];exact h1) (by simpa using k) ⟨rfl,a⟩) n
def zp3:IxR X zsL:=by
 intro b a o s B H x y v u Q I m n h l;revert h;refine eX λz i c z0 z1 w he q=>?_;subst z0 z1;obtain⟨t,rfl⟩:=m;obtain⟨A,rfl⟩:=n;obtain⟨j,h1,h2,p,f,g⟩:=zcm he;have k:z.cps.toList.length=z.length:=by simp[Str.length]
 rw[k]at h1 f g;have r:=Y0;exact tail_any (typeIs_str s z t) slot_str_getitem.lookup (getItem_str (c:=c) (by
  have d:decide (i < -(2^63:Int))=false:=bf (by lia);have e:decide (i >= 2^63)=false:=bf (by lia);rw[d,e,Bool.or_false]) (by rw[h1];simpa using h2) ⟨.str ⟨#[c]⟩,H,I.tok _,⟨_,rfl⟩,q⟩) l
def zhQ (a:List X9)(n j:Nat)(u:X9):UW (·.setIfInBounds j u) { cls:=.type "list",data:=.seq a.toArray n }={ cls:=.type "list",data:=.seq (a.set j u).toArray n }:=by
 simp[UW]
theorem Inv.lst {b:List (Addr×Obj)}{c:St}{H:Hp}{s:X7}{p:Addr}{xs:AF}(I:Inv X b c H s)(h:H p=some (.lst xs)) :
  ∃(a:List X9) (n:Nat),Vals xs a/\s.heap.get? p=some { cls:=.type "list",data:=.seq a.toArray n }/\xs.length<=Xq:=by
 obtain⟨z,a,n,r,e⟩:=I.hok p _ h;exact⟨a,n,r,e,z⟩
def Inv.lstUpd {d:List (Addr×Obj)}{i:St}{H:Hp}{s:X7}{p:Addr}{xs ys:AF}{a its':List X9}{n c:Nat}{f:Obj->Obj}(I:Inv X d i H s)(h:H p=some (.lst xs))
  (k:s.heap.get? p=some { cls:=.type "list",data:=.seq a.toArray n }) (g:f { cls:=.type "list",data:=.seq a.toArray n }={ cls:=.type "list",data:=.seq its'.toArray c }) (r:Vals ys its') (l:ys.length<=Xq) (t:Nat) :
  Inv X d i (upd H p (.lst ys)) { s with heap:=s.heap.update p f,toks:=t }:=by
 have e:(s.heap.update p f).get? p=some { cls:=.type "list",data:=.seq its'.toArray c }:=by
  rw[Wr f k (by rw[g]<;>rfl),g]
 refine I.write (x:=p) (e:=p) (by rw[h];trivial) (.inl rfl) (λb u j q=>(T4 _ _ (UQ j)).trans q) ⟨_,e⟩ ?_;exact⟨l,its',c,r,e⟩
def zrL:V->V->V->Hp->(Hp->Prop)->Prop:=λo i v H Q=>∃p a k j,o=.ref p/\i=.int k/\H p=some (.lst a)/\ixN a.length k=some j/\Q (upd H p (.lst (a.set j v)))
def set_list:zru X zrL:=by
 intro l s B H o i v G E u Q I y x z h;revert h;refine fy λp A k j z0 z1 g m q=>?_;subst z0 z1;cases y;obtain⟨t,rfl⟩:=x;obtain⟨a,n,r,c,w⟩:=I.lst g;obtain⟨h1,h2,e,f⟩:=zi7 m;have b:=r.length;have D:=Y0;have d:Inv X l B (upd H p (.lst (A.set j v))) { s with heap:=s.heap.update p (UW (·.setIfInBounds j u)) } :=
  I.lstUpd g c (zhQ a n j u) (r.set z j) (by rw[List.length_set];exact w) s.toks
 by_cases h0:0<=k
 .have hk:k.toNat=j:=by
   rw[OT h0 f]at h1;exact Option.some.inj h1
  exact PySem.W.ki_setAt c h0 (by lia) (by rw[Xy,<- b];exact f) (by rw[hk];exact⟨_,d,q⟩)
 .have hk:(k+(a.toArray.size:Int)).toNat=j:=by
   rw[Pp (by lia) e]at h1;rw[Xy,<- b];exact Option.some.inj h1
  exact PySem.W.ki_setBack c (by lia) (by rw[Xy,<- b];exact e) (by lia) (by rw[hk];exact⟨_,d,q⟩)
def zfh (lo a:Option Int)(n:Nat):(SJ lo a none n).1=((HT.sIx n 0 lo:Nat):Int)/\(SJ lo a none n).2.1=((HT.sIx n n a:Nat):Int)/\(SJ lo a none n).2.2=1:=by
 refine⟨?_,?_,rfl⟩
 .cases lo with
  | none=>simp[SJ,HT.sIx]
  | some i =>
   simp only[SJ,HT.sIx,Option.getD_none,show (1:Int)>0 by decide,if_true];by_cases h:i<0
   .simp only[h,if_true]<;>lia
   .simp only[h,if_false]<;>lia
 .cases a with
  | none=>simp[SJ,HT.sIx]
  | some i =>
   simp only[SJ,HT.sIx,Option.getD_none,show (1:Int)>0 by decide,if_true];by_cases h:i<0
   .simp only[h,if_true]<;>lia
   .simp only[h,if_false]<;>lia
def zdV (a:List X9)(lo b:Option Int):slicePick a.toArray lo b none=((a.drop (HT.sIx a.length 0 lo)).take (HT.sIx a.length a.length b-HT.sIx a.length 0 lo)).toArray:=by
 obtain⟨h1,h2,c⟩:=zfh lo b a.toArray.size;unfold slicePick;rw[h1,h2,c];simp only[sliceRange_one,pick_run,Xy]<;>rfl
def zsM (K:XW):V->Option Int->Option Int->Hp->VK->Prop:=λx lo c H Q=>∃a b,x=.ref a/\SqL K H a b/\∀p,H p=none->Q (.ref p) (upd H p (.lst (zdU b lo c)))
def zfi:SlR X (zsM X.K):=by
 intro p s z H x v w y lo e u Q I n g l m h;obtain⟨a,c,rfl,i,q⟩:=h;cases n;obtain⟨k,r,f,j⟩:=I.list i;have d:=r.length;refine⟨"list",_,slot_list_getitem.lookup,f.isList.typeIs,?_⟩;refine wpAny_getItem_list_slice f.isList g l m .none (by simp) ?_ (by rw[Xy]<;>lia);rw[zdV,<- d];refine⟨.ref s.heap.objs.size,_,I.laid (t':=s.toks) (o:=.lst (zdU c lo e)) (λb ob q=>X4 _ q) (XV _) ?_,rfl,q _ (I.hok.fresh (XV _))⟩;exact⟨X5 (zge c lo e) j,_,0,(r.drop (HT.sIx c.length 0 lo)).take (HT.sIx c.length c.length e-HT.sIx c.length 0 lo),Xs _ rfl⟩
def zfj:OpR X (V2 .NotIn) (λx y H Q=>∃i j,x=.str i/\y=.str j/\Q (.bl (!(!(Ue j i 0 j.length 1).isEmpty))) H):=by
 intro c s e H x y v u Q I a b h;obtain⟨i,j,rfl,rfl,q⟩:=h;obtain⟨t,rfl⟩:=a;obtain⟨d,rfl⟩:=b;exact notIn_str ⟨.bl _,H,I,rfl,q⟩
def zfk:jr X (.builtin "len") (λxs H Q=>∃p ys,xs=[.ref p]/\(SqL X.K H p ys\/SqT X.K H p ys)/\Q (.int ys.length) H):=by
 intro g s k H xs j Q I r h;obtain⟨p,ys,rfl,hq,q⟩:=h;obtain⟨u,rfl,f⟩:=vals1 r;cases f;have i:=Y0;rcases hq with hq | hq
 .obtain⟨b,d,c,e⟩:=I.list hq;have a:=d.length;exact Calls.call_len_list c.isList (by simp only[Xy]<;>lia) ⟨.int ys.length,H,I.tok _,⟨s.toks+1,by rw[Xy,a]⟩,q⟩
 .obtain⟨b,d,c,e⟩:=I.tuple hq;have a:=d.length;exact len_tuple c (by simp only[Xy]<;>lia) ⟨.int ys.length,H,I.tok _,⟨s.toks+1,by rw[Xy,a]⟩,q⟩
def qS:jr X (.builtin "len") (λxs H Q=>∃z,xs=[.str z]/\z.length<=Xq/\Q (.int z.length) H):=by
 intro a s e H xs d Q I r h;obtain⟨z,rfl,c,q⟩:=h;obtain⟨u,rfl,t,rfl⟩:=vals1 r;have b:=Y0;exact len_str (by lia) ⟨.int z.length,H,I.tok _,⟨_,rfl⟩,q⟩
def Yw:jr X (.type "list") (λxs H Q=>∃p ys,xs=[.ref p]/\(SqL X.K H p ys\/SqT X.K H p ys)/\∀l,H l=none->Q (.ref l) (upd H l (.lst ys))):=by
 intro A s D H xs E Q I r h;obtain⟨p,ys,rfl,hq,q⟩:=h;obtain⟨u,rfl,B⟩:=vals1 r;cases B;have g:∀(a:List X9),Vals ys a->ys.length<=Xq->∀(c:Heap) (d:Nat),(∀b z,s.heap.get? b=some z->c.get? b=some z) ->
   c.get? s.heap.objs.size=some { cls:=.type "list",dict:=none,data:=.seq a.toArray d,slots:=#[] }->EP X A D Q (.ref s.heap.objs.size) { s with heap:=c }:=λa f j c d k e =>
  ⟨.ref s.heap.objs.size,_,I.laid (t':=s.toks) k (XV _) (show qP X.prog X.w _ c _ (.lst ys) from ⟨j,a,d,f,e⟩),rfl,q _ (I.hok.fresh (XV _))⟩
 rcases hq with hq | hq
 .obtain⟨a,f,y,j⟩:=I.list hq;have i:=f.length;obtain⟨o,x,m,n,v⟩:=y.isList;exact call_list_seq p (.inl rfl) x m v (λc d k e=>g a f j c d k e) (by simp only[Xy]<;>lia)
 .obtain⟨a,f,y,j⟩:=I.tuple hq;have i:=f.length;obtain⟨o,x,m,n,v⟩:=y;exact call_list_seq p (.inr rfl) x m v (λc d k e=>g a f j c d k e) (by simp only[Xy]<;>lia)
def tyV (K:XW)(T:String)(x:V)(H:Hp):Prop:=match x with
 | .str _=>T="str"
 | .int _=>T="int"
 | .ref p=>(T="list"/\∃b,SqL K H p b)\/(T="tuple"/\∃o,K.lookup p=some o/\o.cls=.type "tuple"/\o.dict=none) \/
   (T="dict"/\((∃a,H p=some (.dK a))\/∃a,H p=some (.dT a)))\/(T="set"/\∃S n,H p=some (.set S n))
 | _=>False
def zlq {j:List (Addr×Obj)}{q:St}{H:Hp}{s:X7}{T:String}{x:V}{v:X9}(I:Inv X j q H s)(r:RelV x v)(ty:tyV X.K T x H) :
  s.TypeIs v T/\∀a,v=.ref a->∃ob,s.heap.get? a=some ob/\ob.dict=none:=by
 cases x with
 | str z =>
  obtain⟨t,rfl⟩:=r;cases (show T="str" from ty);exact⟨typeIs_str s z t,λ_ e=>nomatch e⟩
 | int i =>
  obtain⟨t,rfl⟩:=r;cases (show T="int" from ty);exact⟨typeIs_int s i t,λ_ e=>nomatch e⟩
 | ref p =>
  cases r;rcases ty with ⟨rfl,u,l⟩ | ⟨rfl,o,hk,k,f⟩ | ⟨rfl,hk⟩ | ⟨rfl,S,n,hk⟩
  .obtain⟨m,_,h,_⟩:=I.list l;refine⟨h.isList.typeIs,λa e=>?_⟩;cases e;obtain⟨o,n,e,c,f,_⟩:=h;exact⟨o,e,f⟩
  .refine⟨⟨o,I.kIn p o hk,k⟩,λa e=>?_⟩;cases e;exact⟨o,I.kIn _ o hk,f⟩
  .have z:∃o,s.heap.get? p=some o/\o.ExactDict:=by
    rcases hk with ⟨g,hk⟩ | ⟨g,hk⟩
    .refine fB (λ_ _ _ _=>fF λo _ _ e b _=>?_) (I.hok p _ hk);exact⟨o,e,b⟩
    .refine fB (λ_ _ _ _=>fF λo _ _ e b _=>?_) (I.hok p _ hk);exact⟨o,e,b⟩
   obtain⟨o,e,b⟩:=z;refine⟨⟨o,e,b.1⟩,λa d=>?_⟩;cases d;exact⟨o,e,b.2.1⟩
  .refine eW (λo _ _ _=>eV λe b _=>?_) (I.hok p _ hk);refine⟨⟨o,e,b.1⟩,λa d=>?_⟩;cases d;exact⟨o,e,b.2.1⟩
 | _=>exact Wi ty
def zrM (K:XW)(T:String)(r:V->AF->Hp->VK->Prop)(b:TE):TE:=fun c H Q=>b c H λx a=>tyV K T x a/\r x [] a Q
def tBM (K:XW)(T:String)(r:V->AF->Hp->VK->Prop)(d:TE)(t:TA):TE:=fun b H Q=>d b H λx a=>tyV K T x a/\t b a λe c=>r x e c Q
variable {o e:Expr}{es:List Expr}{to:TE}{t:TA}{name:Str}{apos cpos:Pos}{T id:String}{r:V->AF->Hp->VK->Prop}
def zfl (m:PlainAttrs T)(c:Slot T name id)(d:typeOf (.builtin id)=pure (.type "method_descriptor"))(k:MtR X id r)(l:PE X o to)
  (a:RZ o name X.env (eval o X.env)=eval o X.env:=by rfl) (b:(apos.endLine==cpos.line)=true:=by rfl):PE X (.Call (.Attribute o name apos) [] [] cpos) (zrM X.K T r to):=by
 intro f s i H Q I h;refine wpAny_Call_method0_late a b (thn (l f s i H _ I h) λv s1 ⟨x,j,e,g,ty,n⟩=>?_);obtain⟨h1,h2⟩:=zlq e g ty;exact dF T id (dG m c d h1 h2 (T3 rfl (PySem.evalArgs_none (k f s1 i j x [] v [] Q e g .nil n))))
def ZK (A:PlainAttrs T)(f:Slot T name id)(i:typeOf (.builtin id)=pure (.type "method_descriptor"))(w:MtR X id r)(y:PE X o to)(u:PA X (e::es) t)
  (b:RZ o name X.env (eval o X.env)=eval o X.env:=by rfl)
  (d:((TR cpos (WG (e::es) X.env)).all (λx=>!x.1)&&(backToKw cpos (NH [] X.env)).all (λx=>x.1.isSome)
   && decide ((e::es).length+([]:List Oq).length+(if ([]:List Oq).isEmpty then 0 else 1)<30))=true:=by rfl)
  (c:(apos.endLine==cpos.line)=true:=by rfl) (z:WG (e::es) X.env=(false,eval e X.env)::WG es X.env:=by rfl) (a:(TR cpos (WG es X.env)).any (·.1)=false:=by rfl) :
  PE X (.Call (.Attribute o name apos) (e::es) [] cpos) (tBM X.K T r to t):=by
 intro g s j H Q I h;refine Ph b d c rfl (thn (y g s j H _ I h) λv s1 ⟨x,n,k,m,ty,B⟩=>?_);obtain⟨h1,h2⟩:=zlq k m ty;refine dF T id (dG A f i h1 h2 ?_);have l:=u cpos g s1 j n _ k B;rw[z]at l ⊢;refine T3 (by show (false || (TR cpos (WG es X.env)).any (·.1))=false;rw[a]<;>rfl) (RN ?_);exact thn l λJ G ⟨L,p,q,E,D⟩=>w g G j p x L v J Q q m E D
/- xs.append(e),list.index on a module's tuple .. are MtR facts of 06m -/
end
def MtM (X:Cx)(id:String)(r:V->AF->Hp->VK->Prop):Prop :=
 ∀(a:List (Addr×Obj)) (s:X7) (d:St) (H:Hp) (x:V) (c:AF) (v:X9) (b:List X9) (Q:VK),Inv X a d H s->RelV x v->Vals c b->r x c H Q ->
  Xv (Xr X.prog X.w) X.A (call (.builtin id) (v::b)) (EP X a d Q) X.xe s
theorem Vals.one:∀{x:V} {a:List X9},Vals [x] a->∃u,a=[u]/\RelV x u
 | _,_,.cons r .nil=>⟨_,rfl,r⟩
theorem Vals.zero:∀{a:List X9},Vals [] a->a=[]
 | _,.nil=>rfl
theorem Vals.reverse {xs:AF}{a:List X9}(h:Vals xs a):Vals xs.reverse a.reverse:=by
 induction h with
 | nil=>exact .nil
 | cons r t b=>rw[Qb,Qb];exact Vals.append b (.cons r .nil)
theorem Vals.rep {xs:AF}{a:List X9}(h:Vals xs a):∀k:Nat,Vals (WQ k xs).flatten (WQ k a).flatten
 | 0=>.nil
 | k+1=>by
  rw[VD,VD,WA,WA];exact Vals.append h (Vals.rep h k)
theorem foldl_rep (b:List X9):∀(k:Nat) (a:List X9),
  List.foldl (λd f=>d++f) a.toArray (WQ k b.toArray)=(a++(WQ k b).flatten).toArray
 | 0,a=>by simp
 | k+1,a=>by
  have e:a.toArray++b.toArray=(a++b).toArray:=by simp
  have c:(a++b)++(WQ k b).flatten=a++(WQ (k+1) b).flatten:=by
   rw[VD,WA,WW]
  rw[<- c,<- foldl_rep b k (a++b),<- e,VD,V6]
section
variable {X:Cx}{bz:List (Addr×Obj)}{σ:St}{H:Hp}{s:X7}{l b:Addr}{xs ys zs:AF}
def Inv.lset {a its':List X9}{n:Nat}{f:Array X9->Array X9}{t':Nat}(I:Inv X bz σ H s)(b:H l=some (.lst xs))
  (e:s.heap.get? l=some { cls:=.type "list",data:=.seq a.toArray n }) (d:f a.toArray=its'.toArray) (h:Vals ys its') (i:ys.length<=Xq) :
  Inv X bz σ (upd H l (.lst ys)) { s with heap:=s.heap.update l (UW f),toks:=t' }:=by
 have q:=PySem.IsL.update e f;rw[d]at q;refine I.write (x:=l) (e:=l) (by rw[b];exact trivial) (.inl rfl) (λj u c g=>(T4 s.heap (UW f) (UQ c)).trans g) ⟨_,q⟩ ?_;exact⟨i,its',_,h,q⟩
def Inv.lnew {a:List X9}{t':Nat}(I:Inv X bz σ H s)(b:Vals ys a)(hz:ys.length<=Xq) :
  Inv X bz σ (upd H s.heap.objs.size (.lst ys)) { s with heap:=s.heap.push { cls:=.type "list",data:=.seq a.toArray },toks:=t' } :=
 I.laid (λ_ _ q=>X4 _ q) (XV _) ⟨hz,a,0,b,Xs _ rfl⟩
theorem Inv.fresh (I:Inv X bz σ H s):H s.heap.objs.size=none:=I.hok.fresh (XV _)
def Inv.lstM (I:Inv X bz σ H s)(b:H l=some (.lst xs)):xs.length<=Xq/\∃(a:List X9) (n:Nat),Vals xs a/\xs.length=a.length/\s.heap.get? l=some { cls:=.type "list",data:=.seq a.toArray n }:=by
 obtain⟨z,a,n,r,e⟩:=I.hok l _ b;exact⟨z,a,n,r,r.length,e⟩
def zgf {n:Nat}(h:n<=Xq):Ur n=false:=by
 unfold Ur;exact bf (by lia)
end
section
variable {X:Cx}
def znN:V->AF->Hp->VK->Prop:=λx b H Q=>∃l a y,x=.ref l/\b=[y]/\H l=some (.lst a)/\a.length<Xq/\Q .non (upd H l (.lst (a++[y])))
def zbj:MtM X "list.append" znN:=by
 intro g s p H x m v k Q I f d h;revert h;refine eX λl o y z0 z1 b j q=>?_;subst z0 z1;cases f;obtain⟨u,rfl,c⟩:=d.one;obtain⟨z,a,n,r,i,e⟩:=I.lstM b;refine R5 F.slot_list_append ⟨_,e,rfl⟩ F.entry_list_append (F.args_list_append_2 _ _) (PySem.list_append l a.toArray n u (by rw[Xy];lia)) ⟨e,?_⟩;refine⟨.non,_,I.lset (its':=a++[u]) b e (by simp) (r.append (.cons c .nil)) ?_,rfl,q⟩;rw[XU,O2];lia
def znO:V->AF->Hp->VK->Prop:=λx d H Q=>∃l b a c,x=.ref l/\d=[.ref b]/\H l=some (.lst a)/\H b=some (.lst c)/\a.length+c.length<=Xq/\Q .non (upd H l (.lst (a++c)))
def zbk:MtM X "list.extend" znO:=by
 intro A s N H x G v E Q I y w h;revert h;refine fH λl b J M z0 z1 g j D q=>?_;subst z0 z1;cases y;obtain⟨u,rfl,p⟩:=w.one;cases p;obtain⟨z,c,n,r,B,e⟩:=I.lstM g;obtain⟨L,a,m,o,k,i⟩:=I.lstM j;have f:c.toArray.size+a.toArray.size<=Xq:=by rw[Xy,Xy];lia
 have d:¬ (!c.toArray.isEmpty&&Ur (c.toArray.size+a.toArray.size))=true:=by
  rw[zgf f,OK];exact XT
 refine R5 F.slot_list_extend ⟨_,e,rfl⟩ F.entry_list_extend (F.args_list_extend_2 _ _)
  (AutoSeq1.list_extend_list_list_0 l c.toArray n b a.toArray m d (by rw[Xy];lia) (by lia)) ⟨e,i,?_⟩
 refine⟨.non,_,I.lset (its':=c++a) g e (by simp) (r.append o) ?_,rfl,q⟩;rw[XU];lia
def zlr:V->AF->Hp->VK->Prop:=λx b H Q=>∃l a,x=.ref l/\b=[]/\H l=some (.lst a)/\Q .non (upd H l (.lst a.reverse))
def zhR:MtM X "list.reverse" zlr:=by
 intro g s o H x k v j Q I f d h;obtain⟨l,m,rfl,rfl,c,q⟩:=h;cases f;have b:=d.zero;subst b;obtain⟨z,a,n,r,i,e⟩:=I.lstM c;refine R5 F.slot_list_reverse ⟨_,e,rfl⟩ F.entry_list_reverse (F.args_list_reverse_1 _) (AutoSeq1.list_reverse_list_0 l a.toArray n (by rw[Xy];lia)) ⟨e,?_⟩;refine⟨.non,_,I.lset (its':=a.reverse) c e (by simp) r.reverse ?_,rfl,q⟩;rw[List.length_reverse];lia
def zp4:V->AF->Hp->VK->Prop:=λx a H Q=>∃l b,x=.ref l/\a=[]/\H l=some (.lst b)/\Q .non (upd H l (.lst []))
def zls:MtM X "list.clear" zp4:=by
 intro g s o H x k v j Q I f d h;obtain⟨l,m,rfl,rfl,c,q⟩:=h;cases f;have a:=d.zero;subst a;obtain⟨z,b,n,r,i,e⟩:=I.lstM c;refine R5 F.slot_list_clear ⟨_,e,rfl⟩ F.entry_list_clear (F.args_list_clear_1 _) (AutoSeq1.list_clear_list_0 l b.toArray n (by rw[Xy];lia)) ⟨e,?_⟩;exact⟨.non,_,I.lset (its':=[]) (ys:=[]) c e rfl .nil (W4 _),rfl,q⟩
def zsN:R2:=λx y H Q=>∃l b a c,x=.ref l/\y=.ref b/\H l=some (.lst a)/\H b=some (.lst c)/\a.length+c.length<=Xq/\∀p,H p=none->Q (.ref p) (upd H p (.lst (a++c)))
def Y4:OpR X (Uk .Add) zsN:=by
 intro p s J H x y v u Q I m o h;revert h;refine fH λl b D G z0 z1 i g A q=>?_;subst z0 z1;cases m;cases o;obtain⟨z,c,n,r,w,e⟩:=I.lstM i;obtain⟨E,a,B,k,j,d⟩:=I.lstM g;refine PySem.P.add_list e d ?_ (by rw[Xy,Xy];lia);have f:c.toArray++a.toArray=(c++a).toArray:=by simp
 rw[f];exact⟨.ref _,_,I.lnew (t':=s.toks) (r.append k) (by rw[XU];lia),rfl,q _ I.fresh⟩
def zsO:R2:=λx y H Q=>∃l k a,x=.ref l/\y=.int k/\H l=some (.lst a)/\-(2^63)<=k/\k<2^63/\a.length*k.toNat<=Xq /\
 ∀p,H p=none->Q (.ref p) (upd H p (.lst (WQ k.toNat a).flatten))
def len_rep {α:Type}(xs:List α)(k:Nat):(WQ k xs).flatten.length=k*xs.length:=by
 induction k with
 | zero=>simp
 | succ k a=>rw[VD,WA,XU,a,Nat.succ_mul,Nat.add_comm]
def zlt:OpR X (Uk .Mult) zsO:=by
 intro J s N H x y v u Q I D E h;revert h;refine eX λl k M z0 z1 A h1=>eV λh2 p q=>?_;subst z0 z1;cases D;obtain⟨t,rfl⟩:=E;obtain⟨z,b,n,r,B,e⟩:=I.lstM A;have g:b.toArray.size*k.toNat<=Xq:=by rw[Xy,<- B];exact p
 have d:¬ b.toArray.size*k.toNat>(2^63-1)/8:=by
  have:(Xq:Nat)<=(2^63-1)/8:=by decide
  lia
 have f:¬ (!Builtin.List.listFitsIndex k)=true:=by
  rw[fitsIndex_both h1 h2];exact XT
 have c:¬ Ur (b.toArray.size*k.toNat)=true:=by
  rw[zgf g];exact XT
 have i:List.foldl (λj o=>j++o) #[] (WQ (if b.toArray.isEmpty=true then 0 else k.toNat) b.toArray)=(WQ k.toNat b).flatten.toArray:=by
  have w:∀m:Nat,List.foldl (λj o=>j++o) #[] (WQ m b.toArray)=(WQ m b).flatten.toArray:=λm=>by
   have:=foldl_rep b m [];rw[List.nil_append]at this;exact this
  rw[w];cases b with
  | nil=>simp
  | cons a L=>rw[bq (by simp)]
 refine wpAny_binaryOp_repeat_ref (T:="list") (U:="int") (by decide) ⟨_,e,rfl⟩ (λG=>typeIs_int G k t) noFill_list_mul F.fills_int_mul F.slot_int_rmul repeat_list F.slot_int_index.lookup
  (R5 F.slot_int_rmul (typeIs_int s k t) F.entry_int_rmul (F.args_int_rmul_2 _ _) (int___rmul___int_list k t l b.toArray n)
   ⟨e,rfl,⟨_,e,rfl⟩,R5 F.slot_list_mul ⟨_,e,rfl⟩ F.entry_list_mul (F.args_list_mul_2 _ _) (AutoListH.list___mul___list_int_3 l b.toArray n k t f d c) ⟨e,?_⟩⟩)
 rw[i];exact⟨.ref _,_,I.lnew (t':=s.toks) (r.rep k.toNat) (by rw[len_rep,Po];exact p),rfl,q _ I.fresh⟩
end
end L2
namespace Att
open PySem PySem.W PySem.Calls PyProof.Rows
def zca {P:NM}{h:Heap}:∀(c:List Int) (vs:List X9),WellAll P h vs (c.map WData.int)->Q1 vs c:=by
 intro c;induction c with
 | nil =>
  intro vs w;rw[NR]at w;cases w;exact .nil
 | cons n c d =>
  intro vs w;rw[Xo]at w;cases w with
  | cons a b =>
   cases a;exact .cons _ _ (d _ b)
def zj7 {l:OpenLaw}{n:Nat}(s:l.most=some n){P:NM}{h:Heap}{args:List WData}{e:List X9}
  (c:l.row.toRowW.claim.pre args=true) (m:WellAll P h e args) :
  ∃a vs b,e=[WO a]/\args=[WData.list (b.map WData.int)]/\h.get? a=some { cls:=.type "list",data:=.seq vs.toArray }/\Q1 vs b/\b.length<=n:=by
 have k:WShape.hasAll [] args [.list .int]=true:=(pre_splitW c).1;have o:l.pre.holds [] { args:=args }=true:=(pre_splitW c).2;obtain⟨d,r,rfl,h1,h2⟩:=hasAllW_cons k;obtain rfl:=hasAllW_nil h2;obtain⟨y,rfl,p⟩:=hasW_list h1;obtain⟨b,rfl⟩:=items_int p;have g:b.length<=n:=by
  unfold OpenLaw.pre at o;have i:(WTm.not (.lt (.lit (.int (n:Int))) (.len (.arg 0)))).holds [] { args:=[.list (b.map .int)] }=true:=by
   have i:=(holds_andW o).1;rw[s]at i;exact i
  have j:=condW_of i (w_not (w_lt w_lit (w_len_list (w_arg rfl))));rw[Y1]at j;refine PH λq=>?_;have v:(n:Int)<((b.length:Nat):Int):=by lia
  first
   | (rw[br v]at j;exact absurd j (by decide))
   | (simp at j;lia)
 cases m with
 | cons w x =>
  cases x;cases w with
  | list u f=>exact⟨_,_,b,rfl,rfl,u,zca b _ f,g⟩
def zj8 (l:OpenLaw)(args:List WData):l.row.toRowW.claim.post args (.bool true) args=true :=
 postW_of (r:=l.row.toRowW) (X:=(true==true))
  (show WShape.has [] (.bool true) .bool=true by first | rfl | decide | simp[WShape.has,WShape.arms,WShape.armsAll])
  (show (WTm.eq .res (.lit (.bool true))).value [] { args:=args,res:=some (.bool true),after:=args }=some (.bool (true==true)) from w_eq_bool (w_res rfl) w_lit) rfl
end Att
namespace L2
open PySem PySem.Spec PyProof.Rows
theorem zeq:∀{vs:List X9} {a:List Int},Q1 vs a->Vals (a.map V.int) vs
 | _,_,.nil=>.nil
 | _,_,.cons n t h=>.cons ⟨t,rfl⟩ (zeq h)
def zp5 (H:Hp):Prop:=∀b,H b=none\/∃o a,H b=some (.frz o (.lst a))
end L2
/- THE LAST THEOREM (shape;LID,My.* are yours):
   My.Adr: a structure of the addresses that your layer names (classes,functions);My.Txt K t: a structure (Prop) of the equations over K;
   My.txt_mk:{K} {implicit addresses ..} (e1:nsIn K XR "law"=some (some (.ref f))) (e2:K.lookup f=some ⟨oc,od,.func (fnOf "law" "law" params body scope dV kV doc pm an cdv ct),sl⟩) (e3:codeIn K cdv "law"=true) ..:∃t,My.Txt K t
set_option maxRecDepth 100000 in
set_option maxHeartbeats 0 in
theorem PySem.Challenge.cw_LID_holds : PySem.Challenge.rw_LID.Holds := by
 w_on;o_law;k_head;(case hw=>w_witness2);k_fill;refine L2.walk_of (l:=PySem.Challenge.rw_LID) (n:=63) (k:=40) (x:="script") (CX:=λw=>..) (sp:=λ_=>My.zsP) rfl (by decide) rfl ⟨rfl,by decide,by decide⟩ (λw h Y=>PySem.W.kIn_of Y) ?F ?S ?C
 case F =>
  intro w mg fa h KX G hmg
  have T:∃t,My.Txt (L2.KOf KX) t:=by
   dsimp only[L2.KOf]                          -- K must stand as «<heap const> w.params» for k_is;refine' My.txt_mk ?e1 ?e2 ?e3 ..;(case e1=>PySem.W.k_is)                    -- in the order: a name->its address->its object->its parts;(case e2=>PySem.W.k_is);..
  obtain⟨t,T⟩:=T
  have e0:=hmg.symm.trans (Wb KX G T.law)
  cases e0                                       -- fa is the law's own address
  exact⟨_,λs u=>.of_eq rfl,λbase kb nb=>My.law_fn T kb nb⟩     -- if «.of_eq rfl» comes too early: refine' ⟨_,?b,λbase kb nb=>My.law_fn T kb nb⟩;exact λs u=>.of_eq rfl
 case S=>exact λw H a ns hl hO hS=>..
 case C=>exact ..
(the tactic k_is has no namespace: write k_is) -/
namespace L2
open PySem PySem.Spec PyProof.Rows
def j5 (s:Stmt):NJ:=match s with
 | .FunctionDef _ a _ _ _ _ _ _ _ _=>a
 | _=>{ posonlyargs:=[],args:=[],vararg:=none,kwonlyargs:=[],kw_defaults:=[],kwarg:=none,defaults:=[] }
def jt (s:Stmt):List Stmt:=match s with
 | .FunctionDef _ _ b _ _ _ _ _ _ _=>b
 | _=>[]
def zf (s:Stmt):UC:=match s with
 | .FunctionDef _ _ _ _ _ _ a _ _ _=>a
 | _=>{ kind:=.function,names:=[],isGenerator:=false,isCoroutine:=false }
abbrev CX0:CXT:=λ_ _ _ _ _ _=>False
abbrev E0:XK:=λ_ _ _=>False
def zi8 {X:Cx}:Passes CX0 X E0:=λ_ _ _ _ _ _ _ h=>h.elim
structure Fun (K:XW)(x qual:Str)(st:Stmt)(f:Addr)(fd:XC):Prop where
 ex:∃(oc:X9) (od:Option Addr) (kV doc pm:X9) (an:Option Addr) (cdv ct:X9) (osl:Array (Option X9)),
  fd=VY x qual (j5 st) (jt st) (zf st) .none kV doc pm an cdv ct/\K.lookup f=some ⟨oc,od,.func fd,osl⟩/\U7 K cdv qual=true
 kp:U6 K (.ref f)=true
section
variable {P:Xm}{w:W1}{K:XW}{mg:Str->Option X9}{base:Heap}
theorem cxK {CX P w K mg base N q sc f cd A o s H E}:(zcK CX P w K mg base N q sc f cd A o s H E).K=K:=rfl
theorem cxP {CX P w K mg base N q sc f cd A o s H E}:(zcK CX P w K mg base N q sc f cd A o s H E).prog=P:=rfl
theorem cxW {CX P w K mg base N q sc f cd A o s H E}:(zcK CX P w K mg base N q sc f cd A o s H E).w=w:=rfl
def Fun.ok {x b:Str}{st:Stmt}{f:Addr}{i:XC}{N ps:AE}{k:Nat}{sp:Sp}(F:Fun K x b st f i)(S:zE N ps (zf st))(len:∀vs H Q E,sp vs H Q E->vs.length=ps.length)
  (d:∀(c:X9) (A:WN) (a:List Env) (s:X7) (H:Hp) (vs:AF) (Q:VK) (E:XK),x9 k (A.deeper (Rx b (zf st) s.heap.objs.size f c))->sp vs H Q E ->
   ∃t,PSs (zcK CX0 P w K mg base N b (zf st) f c A a s H E).nox (jt st) t/\t { nx:=λ_ j=>Q .non j,rt:=Q } (start N vs) H):qA P w K mg base CX0 (k+1) f i ps sp:=by
 refine fj (λr u kV doc v o c p=>fk λn=>eV λz0 m e=>?_) F.ex;subst z0;refine zrI m e S len λA a s H vs Q E l g=>?_;obtain⟨t,h,q⟩:=d c A a s H vs Q E l g;exact⟨t,h.nox,q⟩
def Fun.binds {x a:Str}{st:Stmt}{f:Addr}{i:XC}{ps:AE}(F:Fun K x a st f i)
  (h:∀(kV doc e:X9) (c:Option Addr) (b d:X9) (g:List X9),g.length=ps.length->NU (VY x a (j5 st) (jt st) (zf st) .none kV doc e c b d) ⟨g,[]⟩=pure (ps.zip g)):Binds K i ps []:=by
 obtain⟨m,n,kV,doc,e,c,b,d,k,rfl,l,j⟩:=F.ex;exact .all (h kV doc e c b d)
def zlu {x a:Str}{st:Stmt}{f:Addr}{i:X9}{j e:Option Addr}{d:Array (Option X9)}{kV doc h b g:X9}(l:K.lookup f=some ⟨i,j,.func (VY x a (j5 st) (jt st) (zf st) .none kV doc h e b g),d⟩)
  (c:U7 K b a=true) (k:U6 K (.ref f)=true):Fun K x a st f (VY x a (j5 st) (jt st) (zf st) .none kV doc h e b g):=⟨(dM i j kV doc (dM h e b g (dU d rfl l c))),k⟩
end
section
variable {X:Cx}
def pv (i:Nat){x:Str}{pos:Pos}(b:X.N[i]?=some x:=by rfl)(d:Vis X.env.scope x:=by first | exact XF rfl | exact UR (XF rfl) | exact UR (UR rfl))(c:(x==("__debug__":Str))=false:=by decide)
  (a:(x==("__classdict__":Str))=false:=by decide):PE X (.Name x pos) (zro i):=zpP b d c a
end
def ZD {A B:Prop}(h:B):if false=true then A else B:=by
 rw[bq XT];exact h
def zaA {A B:Prop}(h:A):if true=true then A else B:=by
 rw[bw rfl];exact h
def zgg {c A B:Prop} [Decidable c](h1:c->A)(h2:¬ c->B):if c then A else B:=by
 by_cases h:c
 .rw[bw h];exact h1 h
 .rw[bq h];exact h2 h
def zlv {c A B:Prop} [Decidable c](a:c)(h:B):if (!decide c)=true then A else B:=by
 rw[br a];exact ZD h
def zB (H a:Hp):Prop:=∀b o,H b=some o->a b=some o
def zB.refl (H:Hp):zB H H:=λ_ _ h=>h
def zB.trans {H d e:Hp}(a:zB H d)(b:zB d e):zB H e:=λc o h=>b c o (a c o h)
def zB.free {H a:Hp}(e:zB H a){l:Addr}(h:a l=Option.none):H l=Option.none:=by
 cases q:H l with
 | none=>rfl
 | some o =>
  rw[e l o q]at h;cases h
def zB.seq {K:XW}{H b:Hp}{a:Addr}{xs:AF}(e:zB H b)(h:SqL K H a xs):SqL K b a xs:=by
 rcases h with (h | ⟨o,h⟩) | h
 .exact .inl (.inl (e _ _ h))
 .exact .inl (.inr ⟨o,e _ _ h⟩)
 .exact .inr h
end L2
set_option maxHeartbeats 4000000
namespace L2
open PySem PySem.Spec PyProof.Rows
section
variable {X:Cx}
def Zi:OpR X (Uk .Mult) (rI NA λi j=>.int (i*j)):=opI λ_ _ _ _ _ _ _ a q=>mul_int q a
def JQ (_ j:Int):Prop:=0<j/\j.natAbs.log2<9000
def zlw:OpR X (Uk .FloorDiv) (rI JQ λi j=>.int (i/j)):=opI λi j _ _ _ _ _ a q=>by
 have h1:(0:Int)<j:=a.1;exact floordiv_int (by lia) (by rw[Int.fdiv_eq_ediv_of_nonneg i (by lia)];exact q) (.inl (PyProof.noPylong_of_log2 a.2))
def JQ.small {i j:Int}(h:0<j)(h':j<1073741824):JQ i j:=by
 refine⟨h,?_⟩;have h0:j.natAbs≠0:=by lia
 have:j.natAbs.log2<30:=(Nat.log2_lt h0).mpr (by lia);lia
def JQ.big {i j:Int}(h:0<j)(h':j.natAbs<2^8000):JQ i j:=by
 refine⟨h,?_⟩;have h0:j.natAbs≠0:=by lia
 have:j.natAbs.log2<8000:=(Nat.log2_lt h0).mpr h';lia
def zrN {i j:Int}(h1:-(2^64)<j)(h2:j<2^64):NA i j:=IntMulOk.of_right (intBits_le_64 h1 h2)
def mulL {i j:Int}(h1:-(2^64)<i)(h2:i<2^64):NA i j:=IntMulOk.of_left (intBits_le_64 h1 h2)
def zrO {i j:Int}(h1:i.natAbs<2^8000)(h2:j.natAbs<2^8000):NA i j:=IntMulOk.of_le (m:=8000) (n:=8000) (intBits_le_iff.mpr h1) (intBits_le_iff.mpr h2) (by decide)
def zrP (T U:String):Option Bool:=if (Pr T==Pr U)=true then some true else if PySem.W.kitMeta U=true then (fastBuiltinMro T).map (·.contains (.type U)) else none
def zp6 (K:XW){T U:String}{b:Bool}(e:zrP T U=some b):PySem.W.kitOne K (.type T) (.type U)=some b:=e
def Zj:jr X (.builtin "isinstance") (λxs H Q=>∃x T U b,xs=[x,.ty U]/\zbi X.K H x (.type T)/\zrP T U=some b/\Q (.bl b) H):=by
 intro f s j H xs g Q I r h;obtain⟨x,T,U,b,rfl,ty,e,q⟩:=h;obtain⟨u,i,rfl,c,a⟩:=vals2 r;cases a;exact zj6 I c ty (zp6 X.K e) λd=>⟨.bl b,H,I.tok d,rfl,q⟩
end
def j9 {b:Bool}{A B:Prop}(e:b=true)(h:A):if b=true then A else B:=by
 rw[bw e];exact h
def jC {b:Bool}{A B:Prop}(e:b=false)(h:B):if b=true then A else B:=by
 subst e;exact ZD h
structure zh (K:XW)(mg:Str->Option X9)(x:Str)(st:Stmt)(ps:AE)(f:Addr)(fd:XC):Prop where
 F:Fun K x x st f fd
 g:mg x=some (.ref f)
 b:Binds K fd ps []
def ZE {α:Type}{xs:List α}{i:Int}{v:α}(h:0<=i)(e:xs[i.toNat]?=some v):atI xs i=some v:=by
 have:=Jt e;rwa [VC h]at this
def zsQ (t u:TS):TS:=λD c H=>∃M:St->Hp->Prop,t { D with nx:=M } c H/\∀ a b,M a b->u D a b
def zi9 {X:Cx}{st:Stmt}{a:List Stmt}{t u:TS}(h1:PS X st t)(h2:PSs X a u):PSs X (st::a) (zsQ t u):=by
 intro d s k H D I h;obtain⟨M,g,i⟩:=h;refine Tp (thn (h1 d s k H _ I g) λf s1 q=>?_);cases f with
 | next =>
  obtain⟨b,c,e,j⟩:=q;exact h2 d s1 b c D e (i b c j)
 | brk=>exact q
 | cont=>exact q
 | ret v=>exact q
def zd {H:Hp}{l:Addr}{o:HO}(h:H l=none):zB H (upd H l o):=λb u e=>by rw[zp (zj e h)];exact e
def Its (x:Str):It:=⟨λi _=>i<x.cps.size,λi H v a=>a=H/\∃c,x.cps[i]?=some c/\v=.str ⟨#[c]⟩,λi _=>i=x.cps.size⟩
def zgh {P:Xm}{w:W1}{K:XW}{tg:Expr}(it:Addr)(x:Str)(t:Tok)(n:String)
  (hn:["enumerate","zip","dict_itemiterator","dict_reverseitemiterator","odict_iterator","itertools.zip_longest","itertools.pairwise"].contains n=false)
  (W:∀A':WN,A'.handled=none->Walks P w A' it [it] [it] x.cps.size (SignAt x) (λi h=>h.IsStrIter it n x t i))
  (S:∀(A:WN) (i:Nat) (s:X7) (Q:X9->X7->Prop) (E:X9->X7->Prop),s.heap.IsStrIter it n x t i->Q (.ref it) s->Xv (Xr P w) A (NL (.ref it)) Q E s) :
  Turn P w K tg (Its x) [it] it (λi h=>h.IsStrIter it n x t i) where
 mem:=by simp
 obj:=λi h st b hb=>by
  have e:b=it:=by simpa using hb
  subst e;obtain⟨o,e,c,d⟩:=st;exact⟨o,e,λv z=>by rw[d]at z;cases z⟩
 keep:=λi h h' st k=>by
  obtain⟨o,e,r⟩:=st;exact⟨o,k it (by simp) o e,r⟩
 item:=by
  intro X hP hw hK hc i bz s σ H E I hf st hg;subst hP hw hK;refine e8 (λf0 f1 f2 f3 f4 f5=>?_) (hf it (by simp));refine(W X.A (I.ok.hd hc)).item i s _ _ hg st λv h' tk hv st' kk=>?_;obtain⟨c,u,hx,rfl⟩:=hv;have I1:Inv X bz σ H { s with heap:=h',toks:=tk }:=I.turned (λb o hb e=>kk b o (by simpa using hb) e) f0 f1 f3 f4 f5;obtain⟨o,e,c1,d1⟩:=id st';exact⟨_,rfl,zlm (s:={ s with heap:=h',toks:=tk }) e c1 d1 hn ⟨.str ⟨#[c]⟩,H,I1,⟨u,rfl⟩,⟨rfl,c,hx,rfl⟩,st',λb hb=>(hf b hb).1⟩⟩
 done:=by
  intro X hP hw hK hc i bz s σ H E I hf st hg;subst hP hw hK;obtain⟨f0,f1,f2,f3,f4,f5⟩:=hf it (by simp);have e:i=x.cps.size:=hg;subst e;exact(W X.A (I.ok.hd hc)).done s _ E st λh' tk kk=>⟨rfl,I.turned (λb o hb e=>kk b o (by simpa using hb) e) f0 f1 f3 f4 f5⟩
 self:=λA i s Q E st h=>S A i s Q E st h
section
variable {X:Cx}{tg:Expr}
def zsR (tl:TE):TI:=fun b H R=>tl b H λx a=>∃z,x=.str z/\R (Its z) a
def zp7 {l:Expr}{tl:TE}(k:PE X l tl):PI X tg l (zsR tl):=by
 intro f s p H R I h;refine thn (k f s p H _ I h) λv s1 ⟨x,c,a,n,m⟩=>?_;obtain⟨z,rfl,q⟩:=m;obtain⟨t,rfl⟩:=n;have g:∀b ∈ [s1.heap.objs.size],QU X f c b:=λb j=>by
  have e:b=s1.heap.objs.size:=by simpa using j
  subst e;exact a.fpOk (XV _) (a.hok.fresh (XV _))
 cases ha:z.cps.all (· < 128)
 .refine wpAny_pyIter_wide ha ?_;exact eB s1.heap.objs.size [s1.heap.objs.size] c rfl (a.kept (t':=s1.toks) λb o e=>X4 _ e) (zgh _ z t "str_iterator" (by decide) (λi d=>Walks.strWide d _ z t) (λ_ _ _ _ _ st h=>wpAny_pyIter_striter_wide st h)) ⟨_,Xs _ rfl,rfl,rfl⟩ g q
 .refine wpAny_pyIter_ascii ha ?_;exact eB s1.heap.objs.size [s1.heap.objs.size] c rfl (a.kept (t':=s1.toks) λb o e=>X4 _ e) (zgh _ z t "str_ascii_iterator" (by decide) (λi d=>Walks.strAscii d _ z t) (λ_ _ _ _ _ st h=>wpAny_pyIter_striter_ascii st h)) ⟨_,Xs _ rfl,rfl,rfl⟩ g q
end
def znP {x:Str}{g:TG}{l:TS}{D:Ends}{a:St}{H:Hp}(Pv:Nat->St->Hp->Prop)(h0:Pv 0 a H)
  (q:∀i c a H,x.cps[i]?=some c->Pv i a H->g (.str ⟨#[c]⟩) a H fun f j=>l { D with nx:=Pv (i+1),ct:=Pv (i+1),bk:=D.nx } f j) (o:∀ a H,Pv x.cps.size a H->D.nx a H) :
  ∃W:Nat->Nat->St->Hp->Prop,(∃m,W 0 m a H)/\∀i m a H,W i m a H ->
   ((Its x).stop i H/\D.nx a H)\/((Its x).go i H/\∃N:St->Hp->Prop,(∀ d b,N d b->∃k,k<m/\W (i+1) k d b)/\∀v b,(Its x).yld i H v b->g v a b fun f j=>l { D with nx:=N,ct:=N,bk:=D.nx } f j):=by
 refine⟨λi m a H=>m=x.cps.size-i/\i<=x.cps.size/\Pv i a H,⟨x.cps.size,by simp,W4 _,h0⟩,?_⟩;rintro i m a H ⟨rfl,s,p⟩;by_cases h:i<x.cps.size
 .refine .inr ⟨h,Pv (i+1),fun d b r=>⟨x.cps.size-(i+1),by lia,rfl,h,r⟩,λv b y=>?_⟩;obtain⟨e,c,n,rfl⟩:=y;subst e;exact q i c a _ n p
 .have e:i=x.cps.size:=by lia
  subst e;exact .inl ⟨rfl,o a H p⟩
mutual
inductive Rdv (K:XW)(H:Hp):V->We->Prop
 | non:Rdv K H .non .none
 | bl (b:Bool):Rdv K H (.bl b) (.bool b)
 | int (i:Int):Rdv K H (.int i) (.int i)
 | str (x:Str):Rdv K H (.str x) (.str x)
 | lst {a:Addr} {xs:AF} {ds:List We}:SqL K H a xs->Ja K H xs ds->Rdv K H (.ref a) (.list ds)
 | tup {a:Addr} {xs:AF} {ds:List We}:SqT K H a xs->Ja K H xs ds->Rdv K H (.ref a) (.tuple ds)
inductive Ja (K:XW)(H:Hp):AF->List We->Prop
 | nil:Ja K H [] []
 | cons {x:V} {d:We} {xs:AF} {ds:List We}:Rdv K H x d->Ja K H xs ds->Ja K H (x::xs) (d::ds)
end
section
variable {X:Cx}{bz:List (Addr×Obj)}{σ:St}{H:Hp}{s:X7}
def zj9 {a:Addr}{xs:AF}{b:List We}(I:Inv X bz σ H s)(g:SqL X.K H a xs)(h:∀c,Vals xs c->∃as,NT s.heap c b as):∀u,RelV (.ref a) u->∃as,Reads s.heap u (.list b) as:=by
 intro u r;cases r;obtain⟨i,k,p,l⟩:=I.list g;obtain⟨as,j⟩:=h _ k;obtain⟨o,f,d,n,e⟩:=p.isList;exact⟨_,.list f d e (by simpa using j)⟩
def zka {a:Addr}{xs:AF}{b:List We}(I:Inv X bz σ H s)(g:SqT X.K H a xs)(h:∀c,Vals xs c->∃as,NT s.heap c b as):∀u,RelV (.ref a) u->∃as,Reads s.heap u (.tuple b) as:=by
 intro u r;cases r;obtain⟨i,k,p,l⟩:=I.tuple g;obtain⟨as,j⟩:=h _ k;obtain⟨o,f,d,n,e⟩:=p;exact⟨_,.tuple f d e (by simpa using j)⟩
def zhS {v:V}{vs:AF}{d:We}{b:List We}(h:∀u,RelV v u->∃as,Reads s.heap u d as)(t:∀a,Vals vs a->∃as,NT s.heap a b as):∀a,Vals (v::vs) a->∃as,NT s.heap a (d::b) as:=by
 intro a r;cases r with
 | cons c e =>
  obtain⟨as,f⟩:=h _ c;obtain⟨bs,g⟩:=t _ e;exact⟨_,.cons f g⟩
def Rdv.reads (I:Inv X bz σ H s){v:V}{d:We}{u:X9}(h:Rdv X.K H v d):RelV v u->∃as,Reads s.heap u d as :=
 Rdv.rec (motive_1:=λv d _=>∀u,RelV v u->∃as,Reads s.heap u d as) (motive_2:=λf e _=>∀c,Vals f c->∃as,NT s.heap c e as)
  (λu r=>by cases r;exact⟨_,.none⟩) (λb u r=>by cases r;exact⟨_,.bool b⟩) (λi u r=>by obtain⟨t,rfl⟩:=r;exact⟨_,.int i t⟩) (λx u r=>by obtain⟨t,rfl⟩:=r;exact⟨_,.str x t⟩)
  (λa _ h=>zj9 I a h) (λa _ h=>zka I a h) (λc r=>by cases r;exact⟨_,.nil⟩) (λ_ _ h t=>zhS h t) h u
structure zdW (x y:We):Prop where
 l1:x.canLay0=true
 l2:y.canLay0=true
 dp:x.depth<=64
def zp8 (K:XW)(neg:Bool):R2:=λx y H Q=>∃a b,Rdv K H x a/\Rdv K H y b/\zdW a b/\Q (.bl (if neg then !PyData.eqv a b else W5 a b)) H
def yV (k:X.A.units+64<Vt):OpR X (V2 .Eq) (zp8 X.K false):=by
 intro bz s σ H x y v u Q I f g h;obtain⟨i,j,a,b,c,q⟩:=h;obtain⟨as,d⟩:=a.reads I f;obtain⟨bs,e⟩:=b.reads I g;have:=c.dp;exact SeqAt.compareEq_reads d e c.l1 c.l2 (by lia) ⟨.bl _,H,I,rfl,q⟩
def yW (k:X.A.units+64<Vt):OpR X (V2 .NotEq) (zp8 X.K true):=by
 intro bz s σ H x y v u Q I f g h;obtain⟨i,j,a,b,c,q⟩:=h;obtain⟨as,d⟩:=a.reads I f;obtain⟨bs,e⟩:=b.reads I g;have:=c.dp;exact SeqAt.compareNe_reads d e c.l1 c.l2 (by lia) ⟨.bl _,H,I,rfl,q⟩
def zp9 (K:XW)(neg:Bool):R2:=λx y H Q=>∃d a,Rdv K H x d/\Rdv K H y (.list a)/\d.canLay0=true/\Wx a=true/\d.depth<=60/\Q (.bl (if neg then !a.any (λz=>W5 z d) else a.any λz=>W5 z d)) H
def zad (m:X.A.units+64<Vt):OpR X (V2 .In) (zp9 X.K false):=by
 intro bz s σ H x y v u Q I i j h;revert h;refine fq λd l=>e8 λc e a b k q=>?_;obtain⟨as,f⟩:=c.reads I i;obtain⟨bs,g⟩:=e.reads I j;exact SeqAt.in_list_reads g f b a (by lia) ⟨.bl _,H,I,rfl,q⟩
def zdX (m:X.A.units+64<Vt):OpR X (V2 .NotIn) (zp9 X.K true):=by
 intro bz s σ H x y v u Q I i j h;revert h;refine fq λd l=>e8 λc e a b k q=>?_;obtain⟨as,f⟩:=c.reads I i;obtain⟨bs,g⟩:=e.reads I j;exact SeqAt.notIn_list_reads g f b a (by lia) ⟨.bl _,H,I,rfl,q⟩
end
def jb (X:Cx)(N:AE)(scope:UC)(cl:List (Str×Addr))(C:Addr)(fp:List Addr)(bz:List (Addr×Obj))(s:X7)(H:Hp):Cx where
 prog:=X.prog
 w:=X.w
 K:=X.K
 mg:=X.mg
 base:=X.base
 A:=X.A
 N:=N
 s₀:=s
 H₀:=H
 env:=OU scope cl C X.env
 outer:=X.stack
 stack:=X.stack
 ex:=fp
 fn:=λ_=>false
 calm:=X.calm
 pn:=X.pn++bz
 xe:=λ_ _=>False
def pull (src:List (Option Nat))(a:St):St:=src.map λo=>match o with
 | some j=>(a[j]?).getD none
 | none=>none
structure zW (X:Cx)(N:AE)(src:List (Option Nat))(scope:UC)(cl:List (Str×Addr)):Prop where
 kind:scope.kind=.function
 nocell:∀y∈scope.names,y.2 ≠ .cell
 names:∀y∈scope.names,y.2=.local->scope.names.lookup y.1=some .local
 clos:N0 scope X.env=pure cl
 sub:∀x c,cl.lookup x=some c->X.env.cells.lookup x=some c
 has:∀x,((Ua scope X.env).names.lookup x=some .cell\/(Ua scope X.env).names.lookup x=some .free)->∃c,cl.lookup x=some c
 len:src.length=N.length
 pulls:∀(i j:Nat) (x:Str),N[i]?=some x->src[i]?=some (some j)->X.N[j]?=some x/\(X.env.kindOf x=some .cell\/X.env.kindOf x=some .free)/\((Ua scope X.env).names.lookup x=some .cell\/(Ua scope X.env).names.lookup x=some .free)
def zdY {a:UC}{b:Env}(d:∀y∈a.names,y.2 ≠ .free):(Ua a b).names=a.names:=by
 show a.names.map _=a.names;refine map_eq_self λx c=>?_;obtain⟨n,k⟩:=x;have:(k==NameKind.free)=false:=by simpa using d _ c
 simp[this]
def zW.plain {X:Cx}{N:AE}{src:List (Option Nat)}{scope:UC}(kind:scope.kind=.function)(nocell:∀y∈scope.names,y.2 ≠ .cell)(nofree:∀y∈scope.names,y.2 ≠ .free)
  (names:∀y∈scope.names,y.2=.local->scope.names.lookup y.1=some .local) (len:src.length=N.length) (none:∀o∈src,o=none):zW X N src scope [] where
 kind:=kind
 nocell:=nocell
 names:=names
 clos:=closureFor_none nofree
 sub:=λx c h=>nomatch h
 has:=λx h=>by
  rw[zdY nofree]at h;rcases h with h | h
  .exact absurd rfl (nocell _ (WH h))
  .exact absurd rfl (nofree _ (WH h))
 len:=len
 pulls:=λi j x _ h=>by
  have:=none _ (X8 h);cases this
def zdZ (X:Cx)(a:List Expr)(t:TT):Prop :=
 ∀(d:List (Addr×Obj)) (s:X7) (b:St) (H:Hp) (Q:Bool->Hp->Prop),Inv X d b H s->t b H Q ->
  Xv (Xr X.prog X.w) X.A (forIn a true λc r=>if r=true then do let ok <- isTrue c X.env (eval c X.env);pure (VU ok) else pure (VU r)) (TP X d b Q) X.xe s
def zlx:TT:=λ_ H Q=>Q true H
def qQ {X:Cx}:zdZ X [] zlx:=λ_ _ _ H _ I h=>wpAny_tests_nil ⟨H,I,h⟩
def qt {X:Cx}{c:Expr}{t:TT}(h:PT X c t):zdZ X [c] t:=λa s d H Q I b=>wpAny_tests_one (h a s d H Q I b)
def xR (J:It)(g:TG)(r:TT)(s:TE)(Q:VK)(D:Addr)(j:St)(p:Hp):Prop :=
 ∃W:Nat->Nat->St->Hp->Prop,(∃m,W 0 m j p)/\∀i m f d,W i m f d ->
  (J.stop i d/\Q (.ref D) d)\/(J.go i d/\∃N:St->Hp->Prop,(∀ c e,N c e->∃o,o<m/\W (i+1) o c e) /\
   ∀x k,J.yld i d x k->g x f k fun a q=>r a q λb l=>if b=true then s a l λy n=>∃h,n D=some (.lst h)/\h.length<Xq/\N a (upd n D (.lst (h++[y]))) else N a l)
def zer (e:TI)(src:List (Option Nat))(g:TG)(c:TT)(d:TE):TE:=fun b H Q=>e b H λJ a=>∀D,a D=none->xR J g c d Q D (pull src b) (upd a D (.lst []))
def Un.but {fs i:List Addr}{H g:Hp}{h h1 h2:Heap}{C:Addr}(u:Un fs i H g h h1)(j:h.objs.size<=C)(f:V8 C h1 h2):Un fs i H g h h2:=by
 have d:∀b o,h.get? b=some o->b≠C:=λb o e=>Xl (Xd (XD e) j);refine⟨λb o e n c a=>(f.2 b (d b o e)).trans (u.keep b o e n c a),λb o e n c a=>?_,u.free,λb o e a=>?_,u.tups,u.frzs,u.tbls⟩
 .obtain⟨l,q⟩:=u.slot b o e n c a;exact⟨l,(f.2 b (d b o e)).trans q⟩
 .obtain⟨k,q⟩:=u.there b o e a;exact⟨k,(f.2 b (d b o e)).trans q⟩
def HOk.but {P:Xm}{w:W1}{H:Hp}{h h':Heap}{C:Addr}(ok:HOk P w H h)(a:H C=none)(d:V8 C h h'):HOk P w H h':=λb ob e=>by
 refine(ok b ob e).stay (λc f hc q=>(d.2 c ?_).trans q) (λ_ q=>q) λ_ _ q=>q;rintro rfl;rcases hc with rfl | hc
 .rw[a]at e;cases e
 .rw[a]at hc;cases hc
section
variable {X:Cx}{tg iter elt:Expr}{ifs:List Expr}{scope:UC}{pos:Pos}{N:AE}{src:List (Option Nat)}{cl:List (Str×Addr)}{wi:TI}{g:TG}{tc:TT}{te:TE}
def zcM {h:List (Addr×Obj)}{A:St}{H:Hp}{s:X7}{fp:List Addr}{h1:Heap}{C:Addr}{tk:Nat}(ok:zW X N src scope cl)(I:Inv X h A H s)(B:∀b∈fp,QU X h H b)(ho:∀b∈fp,∃o,s.heap.get? b=some o)
  (E:C=s.heap.objs.size+1) (k:∀b u,s.heap.get? b=some u->h1.get? b=some u) (hD:h1.get? s.heap.objs.size=some { cls:=.type "list",data:=.seq #[] }) {m:Str->Option X9} (hn:h1.Ns C m) :
  Inv (jb X N scope cl C fp h s H) [] (pull src A) (upd H s.heap.objs.size (.lst [])) { s with heap:=h1,toks:=tk }:=by
 have lt:∀b o,s.heap.get? b=some o->b<s.heap.objs.size:=λb o e=>XD e;have Y:∀b o,s.heap.get? b=some o->b≠C:=λb o e=>by rw[E];exact Xl (Ww (lt b o e))
 have nD:∀b o,s.heap.get? b=some o->b≠s.heap.objs.size:=λb o e=>Xl (lt b o e);have O:∀b,s.heap.objs.size<=b->H b=none:=λb g=>I.hok.fresh g;have w:∀b,b≠X.env.locals->b ∉ X.fs->b ∉ frs X.stack:=λb h1 h2 z=>(XH.mp (I.stkSub b z)).elim h1 h2;have sub:=ok.sub;refine⟨⟨I.ok.mod,ok.kind,I.ok.glob,I.ok.blt,by rw[show (jb X N scope cl C fp h s H).env.locals=C from rfl,E];exact V9 _,λx y c d a=>I.ok.inj x y c (sub x c d) (sub y c a),ok.has,(λx c z _=>nomatch z),I.ok.hd,I.ok.frames,.inl rfl,λb g=>?_,I.bs,X5 I.ok.bsz I.sz,λb o e g=>?_,λb g hz=>?_,I.stack,I.stkFree⟩,rfl,I.bare,Un.laid k (XV _) (O _ (XV _)),⟨m,hn,λi x v d a M=>?_⟩,λx c e=>?_,?_,λx c e=>?_,λp hp=>?_,I.hok.laid k (XV _) ⟨W4 _,[],0,.nil,hD⟩,?_⟩
 .obtain⟨o,e⟩:=ho b g;exact⟨Y b o e,λx c z=>(B b g).2.2.2.2.1 x c (sub x c z)⟩
 .rcases(B b g).2.2.2.1 with z | z
  .exact I.ok.noex b o e z
  .exact absurd (Xd (XD (I.ok.bs b o e).1) z) (VA _)
 .exact w b (B b g).2.1 (B b g).2.2.1 hz
 .have U:i<src.length:=by
   have:=(XZ.mp a).1;unfold pull at this;rw[Y1]at this;exact this
  unfold pull at a;rw[Xw,X2 U]at a;cases q:src[i] with
  | none=>rw[q]at a;cases a
  | some j =>
   rw[q]at a;have f:(A[j]?).getD none=some v:=Option.some.inj a;have D:A[j]?=some (some v):=by
    cases z:A[j]? with
    | none=>rw[z]at f;cases f
    | some o=>rw[z]at f;exact congrArg some f
   obtain⟨p1,p2,p3⟩:=ok.pulls i j x d (by rw[X2 U,q]);obtain⟨m',aa,hl⟩:=I.loc;obtain⟨u,r,l⟩:=hl j x v p1 D (by
    rcases p2 with z | z
    .exact .inr (.inl z)
    .exact .inr (.inr z))
   refine⟨u,r,.inr ⟨p3,?_⟩⟩;obtain⟨c,Q⟩:=ok.has x p3;refine⟨c,Q,?_⟩;rcases l with ⟨z,_⟩ | ⟨_,c',n,o,J,G⟩
   .rcases p2 with y | y<;>rw[z]at y<;>cases y
   .rw[sub x c Q]at n;cases n;exact⟨o,k _ o J,G⟩
 .obtain⟨v,o,d,a⟩:=I.cell x c (sub x c e);exact⟨v,o,k c o d,a⟩
 .show upd H s.heap.objs.size (.lst []) C=none;rw[E,zp (Ve _)];exact O _ (V9 _)
 .show upd H s.heap.objs.size (.lst []) c=none;obtain⟨v,o,d,a⟩:=I.cell x c (sub x c e);rw[zp (nD c o d)];exact I.freeC x c (sub x c e)
 .have L:p∈X.pn++h:=by
   have:p∈(X.pn++h)++[]:=hp;simpa using this
  obtain⟨d,a,M,D,e5⟩:=I.pin p L;refine⟨k _ _ d,?_,Y _ _ d,w _ M D,e5⟩;show upd H s.heap.objs.size (.lst []) p.1=none;rw[zp (nD _ _ d)];exact a
 .unfold pull;rw[Y1];exact ok.len
def zkb {Y:Cx}{D it:Addr}{fp:List Addr}{tn:Nat->Heap->Prop}{J:It}{ab:St}{H0:Hp}{s:X7}{Q:VK}{R:NK->X7->Prop}(a:Y.calm=true)(hx:∀{x s},Y.xe x s->notedBy (Xr Y.prog Y.w) Y.A Y.env (λx s=>R (.error x) s) x s)(T:Turn Y.prog Y.w Y.K tg J fp it tn)(hg:PG Y tg g)(hc:zdZ Y ifs tc)(he:PE Y elt te)
  (q:xR J g tc te Q D ab H0) (c:∀{k:Hp},(∀b∈fp,k b=none)->∀b∈fp,QU Y [] k b) (I0:Inv Y [] ab H0 s) (N:tn 0 s.heap) (af:∀b∈fp,H0 b=none)
  (ae:∀f σ H s',Inv Y [] σ H s'->Q (.ref D) H->R (.ok f) s'):Tu (Xr Y.prog Y.w) Y.A (.compStart (.ListComp elt [⟨tg,iter,ifs,0⟩] scope pos) 0 (.ref it) (.ref D) Y.env) R s:=by
 obtain⟨W,⟨m0,w0⟩,aa⟩:=q;have v:Tu (Xr Y.prog Y.w) Y.A (.compLoop (.ListComp elt [⟨tg,iter,ifs,0⟩] scope pos) 0 (.ref it) (.ref D) Y.env) R s:=by
  refine codeAny_loop rfl (λn s'=>∃i h k,Inv Y [] h k s'/\tn i s'.heap/\(∀b∈fp,k b=none)/\W i n h k) ?_ m0 ⟨0,_,_,I0,N,af,w0⟩;refine λn s3=>fu λi l H3 I3 O L w3=>?_;show Xv _ Y.A ((compTurn (.ListComp elt [⟨tg,iter,ifs,0⟩] scope pos) 0 (.ref it) (.ref D) Y.env).onRaise (λx=>do noteFrame x Y.env;theTreesLotGoes x)) _ _ s3;refine wpAny_noted ?_;rw[compTurn_list];rcases aa i n l H3 w3 with ⟨U,qn⟩ | ⟨go,N',hN,step⟩
  .refine ZB (RY (ZB (thn (T.done Y rfl rfl rfl a i [] s3 l H3 _ I3 (c L) O U) λr s4 ⟨hr,I4⟩=>?_)));subst hr;exact X0 (ae _ _ _ _ I4 qn)
  .refine ZB (RY (ZB (thn (T.item Y rfl rfl rfl a i [] s3 l H3 _ I3 (c L) O go) λr s4 ⟨u,hr,h4⟩=>?_)));subst hr;dsimp only;refine ZB (thn h4 λ_ s5 ⟨x,H5,I5,r5,y5,E,ag⟩=>?_);have ac:=I5.pinned (c ag) (T.obj _ _ E);refine ZB (Wj (hg _ s5 l H5 x u _ ac r5 (step x H5 y5)) (λ_ s6 ⟨p,H6,I6,q6⟩=>?_) λ_ _ z=>hx z);have OV:∀{I:X7} {j:St} {B:Hp},Inv Y ([]++zbg fp s5.heap) j B I->N' j B->∃m,m<n/\∃i h k,Inv Y [] h k I/\tn i I.heap/\(∀b∈fp,k b=none)/\W i m h k:=λ{I j B} G n7=>by
    obtain⟨m',hm,w7⟩:=hN j B n7;refine⟨m',hm,i+1,j,B,G.unpinned,T.keep _ _ _ E λb hb o e=>(G.pin (b,o) (Xc _ (Xc _ (yU hb e)))).1,λb hb=>?_,w7⟩;obtain⟨o,e,d⟩:=T.obj _ _ E b hb;exact(G.pin (b,o) (Xc _ (Xc _ (yU hb e)))).2.1
   refine ZB (Wj (hc _ s6 p H6 _ I6 q6) (λb I ⟨B,G,q7⟩=>?_) λ_ _ z=>hx z);cases b with
   | false =>
    rw[bq XT]at q7;exact X0 ⟨rfl,OV G q7⟩
   | true =>
    rw[bw rfl]at q7;refine ZB (ZB (Wj (he _ I p B _ G q7) (λy s8 ⟨v8,H8,I8,r8,ys,ah,M,q8⟩=>?_) λ_ _ z=>hx z));refine ZB (Wj (zbj (X:=Y) _ s8 p H8 (.ref D) [v8] (.ref D) [y] (λ_ H9=>N' p H9) I8 rfl (.cons r8 .nil) ⟨_,ys,v8,rfl,rfl,ah,M,q8⟩) (λ_ s9 ⟨v9,H9,I9,_,q9⟩=>?_) λ_ _ z=>hx z);exact X0 (X0 ⟨rfl,OV I9 q9⟩)
 exact Pg v (T.self _ 0 _ _ _ N v)
abbrev cY (X:Cx)(N:AE)(scope:UC)(cl:List (Str×Addr))(C:Addr)(fp:List Addr)(bz:List (Addr×Obj))(s:X7)(H:Hp)(fn:Str->Bool)(xe:X9->X7->Prop):Cx:={ jb X N scope cl C fp bz s H with fn:=fn,xe:=xe }
def znQ (X:Cx)(N:AE)(scope:UC)(d:List (Addr×Obj))(l:St)(use:Option (X9->Sem Unit))(R:X9->X7->Prop)(Q:VK):Prop:=∀{cl h a c C g i f j k e},C=a.heap.objs.size+1->Inv X d l c a->(∀b∈h,QU X d c b)->Inv (cY X N scope cl C h d a c j k) [] e g i->Q (.ref a.heap.objs.size) g->compPost (Xr X.prog X.w) X.A X.xe use R (.ref a.heap.objs.size) C (.ok f) i
def zpe {e:List (Addr×Obj)}{h:St}{Q:VK}:znQ X N scope e h none (EP X e h Q) Q:=by
 intro cl k q u C i r f v w s n j c a p;obtain⟨m,o,_⟩:=a.loc;refine⟨m,o,λl g=>⟨.ref q.heap.objs.size,i,?_,rfl,p⟩⟩;exact j.call' (s':={ r with heap:=l }) (ch:=k) a.os (Un.but a.base (by rw[n];exact V9 _) g) (HOk.but a.hok a.free g) a.bare λb d=>⟨(c b d).2.2.2.1,(c b d).2.1,(c b d).2.2.2.2.1,(c b d).2.2.2.2.2⟩
def zgi {j:List (Addr×Obj)}{D:St}{i:Hp}{a:X7}{R:NK->X7->Prop}{Q:VK}{it C:Addr}{fp:List Addr}{tn:Nat->Heap->Prop}{J:It}{h:Heap}{tk:Nat}{n:Str->Bool}{m:X9->X7->Prop}{v:St}(E:C=a.heap.objs.size+1)(l:X.calm=true)
  (hx:∀{x s},m x s->notedBy (Xr X.prog X.w) X.A (OU scope cl C X.env) (λx s=>R (.error x) s) x s) (U:PG (cY X N scope cl C fp j a i n m) tg g) (O:zdZ (cY X N scope cl C fp j a i n m) ifs tc) (he:PE (cY X N scope cl C fp j a i n m) elt te) (M:Inv X j D i a) (T:Turn X.prog X.w X.K tg J fp it tn) (r:tn 0 a.heap) (q:∀b∈fp,QU X j i b)
  (q2:xR J g tc te Q a.heap.objs.size v (upd i a.heap.objs.size (.lst []))) (k:∀b u,a.heap.get? b=some u->h.get? b=some u) (own:∀x c,cl.lookup x=some c->X.env.cells.lookup x=some c\/C<=c)
  (L:(∀b∈fp,∃o,a.heap.get? b=some o)->Inv (cY X N scope cl C fp j a i n m) [] v (upd i a.heap.objs.size (.lst [])) { a with heap:=h,toks:=tk }) (y:∀f D H I,Inv (cY X N scope cl C fp j a i n m) [] D H I->Q (.ref a.heap.objs.size) H->R (.ok f) I) :
  Tu (Xr X.prog X.w) X.A (.compStart (.ListComp elt [⟨tg,iter,ifs,0⟩] scope pos) 0 (.ref it) (.ref a.heap.objs.size) (OU scope cl C X.env)) R { a with heap:=h,toks:=tk }:=by
 have G:∀b∈fp,∃o,a.heap.get? b=some o:=λb d=>let ⟨o,e,_⟩:=T.obj 0 _ r b d;⟨o,e⟩
 have lt:∀b∈fp,b<a.heap.objs.size:=λb d=>let ⟨_,e⟩:=G b d;XD e
 refine zkb (Y:=cY X N scope cl C fp j a i n m) l hx T U O he q2 (λ{H'} hn b d=>⟨hn b d,?_,λz=>(XH.mp (M.stkSub b z)).elim (q b d).2.1 (q b d).2.2.1,.inl d,λx c z=>?_,λp hp=>?_⟩) (L G) (T.keep 0 _ _ r λb _ o e=>k b o e) (λb d=>?_) y
 .show b≠C;rw[E];exact Xl (Ww (lt b d))
 .rcases own x c z with z | z
  .exact(q b d).2.2.2.2.1 x c z
  .rw[E]at z;exact Va (Xd (Ww (lt b d)) z)
 .have B:p∈X.pn++j:=by
   have:p∈(X.pn++j)++[]:=hp;simpa using this
  exact(q b d).2.2.2.2.2 p B
 .rw[zp (Xl (lt b d))];exact(q b d).1
def zqa {h a:Heap}(d:V8 (h.push { cls:=.type "list",dict:=none,data:=.seq ([]:List X9).toArray }).objs.size ((h.push { cls:=.type "list",dict:=none,data:=.seq ([]:List X9).toArray }).push { cls:=.type "dict",data:=.dict #[] }) a):(h.push { cls:=.type "list",dict:=none,data:=.seq ([]:List X9).toArray }).objs.size=h.objs.size+1/\(∀b u,h.get? b=some u->a.get? b=some u)/\a.get? h.objs.size=some { cls:=.type "list",data:=.seq #[] }:=by
 generalize hP:h.push { cls:=.type "list",dict:=none,data:=.seq ([]:List X9).toArray }=P2 at d ⊢;have c:P2.objs.size=h.objs.size+1:=by rw[<- hP,U5]
 exact⟨c,λb u e=>(d.2 b (by rw[c];exact Xl (Ww (XD e)))).trans (X4 _ (hP ▸ X4 _ e)),(d.2 _ (by rw[c];exact(Ve _).symm)).trans (X4 _ (hP ▸ Xs _ rfl))⟩
section
variable {bz:List (Addr×Obj)}{σ:St}{H:Hp}{s:X7}{use:Option (X9->Sem Unit)}{R:X9->X7->Prop}{Q:VK}{p2:Pos}
def zgj (ok:zW X N src scope cl)(d:X.calm=true)(u:PI X tg iter wi)
  (r:∀C fp bz s H,PG (jb X N scope cl C fp bz s H) tg g) (q:∀C fp bz s H,zdZ (jb X N scope cl C fp bz s H) ifs tc) (he:∀C fp bz s H,PE (jb X N scope cl C fp bz s H) elt te)
  (B:∀x,UZ iter X.env x=pure x) (I:Inv X bz σ H s) (h:zer wi src g tc te σ H Q) (j:znQ X N scope bz σ use R Q):Xv (Xr X.prog X.w) X.A (Oc (.ListComp elt [⟨tg,iter,ifs,0⟩] scope pos) scope X.env p2 (newList []) false (eval iter X.env) use) R X.xe s:=by
 refine S8 (use:=use) rfl B ok.clos ok.kind ok.names (thn (u bz s σ H _ I h) λxv s1 h1=>thn h1 λE U h2=>?_);revert h2;refine fD λO fp Y J M=>e8 λe f T m i G=>?_;subst e;refine Wl (OF ok.nocell (by intro y D;simp at D) (λn a b=>?_) ok.kind);dsimp only at a b ⊢;obtain⟨l,k,p⟩:=zqa b;exact zgi l d (λz=>z.elim) (r _ _ _ _ _) (q _ _ _ _ _) (he _ _ _ _ _) f T m i (G _ (f.hok.fresh (XV _))) k (λx c z=>.inl (ok.sub x c z)) (λv=>zcM ok f i v l k p a) λ_ _ _ _ o L=>j l f i o L
end
def qz (ok:zW X N src scope cl)(a:X.calm=true)(e:PI X tg iter wi)
  (d:∀C fp b s H,PG (jb X N scope cl C fp b s H) tg g) (c:∀C fp b s H,zdZ (jb X N scope cl C fp b s H) ifs tc) (he:∀C fp b s H,PE (jb X N scope cl C fp b s H) elt te)
  (f:∀x,UZ iter X.env x=pure x:=by intro _;rfl):PE X (.ListComp elt [⟨tg,iter,ifs,0⟩] scope pos) (zer wi src g tc te):=λ_ _ _ _ _ I h=>zgj ok a e d c he f I h zpe
end
section
variable {K:XW}{src:List (Option Nat)}{g:TG}{tc:TT}{te:TE}{Q:VK}{σ:St}{H:Hp}{D:Addr}
def qj {a:Addr}{xs:AF}(Pv:Nat->St->Hp->Prop)(h0:Pv 0 σ H)(o:∀i σ H,i<=xs.length->Pv i σ H->SqL K H a xs)
  (r:∀i x σ H,xs[i]?=some x->Pv i σ H->g x σ H fun c k=>tc c k λb f=>if b=true then te c f λy h=>∃ys,h D=some (.lst ys)/\ys.length<Xq/\Pv (i+1) c (upd h D (.lst (ys++[y]))) else Pv (i+1) c f)
  (l:∀ σ H,Pv xs.length σ H->Q (.ref D) H):xR (Itl K a) g tc te Q D σ H:=by
 refine⟨λi m σ H=>m=xs.length-i/\i<=xs.length/\Pv i σ H,⟨xs.length,by simp,W4 _,h0⟩,?_⟩;rintro i m σ H ⟨rfl,n,p⟩;have q:=o i σ H n p;by_cases d:i<xs.length
 .refine .inr ⟨⟨xs,xs[i],q,by simp[d]⟩,Pv (i+1),fun u j s=>⟨xs.length-(i+1),by lia,rfl,d,s⟩,λx j y=>?_⟩;obtain⟨e,y⟩:=y;subst e;exact r i x σ _ (y xs q) p
 .have e:i=xs.length:=by lia
  subst e;exact .inl ⟨⟨xs,q,XV _⟩,l σ H p⟩
end
theorem zaB {K:XW}{H:Hp}:∀rs:AE,Ja K H (rs.map V.str) (rs.map VZ)
 | []=>.nil
 | t::r=>.cons (.str t) (zaB r)
section
variable {X:Cx}{K:XW}
def QB {a:Expr}{c:TE}(d:X.K=K)(e:PE X a c)(he:∀whole,isTrue a X.env whole=(do let v <- whole;standAt a.pos;holding [v] (truthy v))) :
  PT X a (fun f H Q=>c f H λx b=>∃k,zpZ K x b k/\Q k b):=by
 subst d;exact JP e he
def Zk (a:X.K=K)(b:X.A.units+64<Vt):OpR X (V2 .Eq) (zp8 K false):=by
 subst a;exact yV b
def jy (a:X.K=K)(b:X.A.units+64<Vt):OpR X (V2 .In) (zp9 K false):=by
 subst a;exact zad b
def zaC {a:List Expr}{k:Nat}{t:TGs}{n:Nat}{pos:Pos}(c:X.K=K)(d:X.calm=true)(h:PGs X a t)
  (e:(R6 a X.env).length=n:=by rfl) (b:(R6 a X.env).findIdx? (·.1)=none:=by rfl):PG X (.Tuple a k pos) (zrw K n t):=by
 subst c;exact JO d h e b
end
section
variable {fs ch:List Addr}{H:Hp}{h h':Heap}{a:Addr}{o:HO}
def Un.laidX (k:∀b u,b ∉ ch->h.get? b=some u->h'.get? b=some u)(hp:h.objs.size<=a)(hn:H a=none):Un fs ch H (upd H a o) h h' where
 keep:=λb u q _ _ hx=>k b u hx q
 slot:=λb u q _ _ hx=>⟨u.slots,k b u hx q⟩
 free:=λb u q n _=>by rw[zp (Xl (Xd (XD q) hp))];exact n
 there:=λb u q hx=>⟨u,k b u hx q⟩
 tups:=λb xs q=>by rw[zp (zj q hn)];exact q
 frzs:=λb u xs q=>by rw[zp (zj q hn)];exact q
 tbls:=λb ps q=>⟨#[],by rw[zp (zj q hn),q];simp⟩
def Un.keptX (k:∀b u,b ∉ ch->h.get? b=some u->h'.get? b=some u):Un fs ch H H h h' :=
 ⟨λb ob q _ _ a=>k b ob a q,λb ob q _ _ a=>⟨ob.slots,k b ob a q⟩,λ_ _ _ n _=>n,λb ob q a=>⟨ob,k b ob a q⟩,λ_ _ q=>q,λ_ _ _ q=>q,λ_ c q=>⟨#[],by rw[q];simp⟩⟩
def HOk.keptX {P:Xm}{w:W1}(x:HOk P w H h)(k:∀b u,b ∉ ch->h.get? b=some u->h'.get? b=some u)(a:∀b∈ch,H b=none):HOk P w H h':=λb u e=>by
 refine(x b u e).stay (λc v hc q=>k c v (λz=>?_) q) (λ_ q=>q) λ_ _ q=>q;have n:=a c z;rcases hc with rfl | hc
 .rw[n]at e;cases e
 .rw[n]at hc;cases hc
def HOk.laidX {P:Xm}{w:W1}(x:HOk P w H h)(k:∀b u,b ∉ ch->h.get? b=some u->h'.get? b=some u)(d:∀b∈ch,H b=none)(i:h.objs.size<=a)(new:qP P w (upd H a o) h' a o):HOk P w (upd H a o) h':=λb u e=>by
 have g:=x.fresh i;by_cases f:b=a
 .subst f;rw[zc]at e;cases e;exact new
 .rw[zp f]at e;refine(x b u e).stay (λc v hc q=>k c v (λz=>?_) q) (λc q=>by rw[zp (zj q g)];exact q) λc j q=>by rw[zp (zj q g)];exact q
  have n:=d c z;rcases hc with rfl | hc
  .rw[n]at e;cases e
  .rw[n]at hc;cases hc
end
section
variable {X:Cx}{bz:List (Addr×Obj)}{s:X7}{σ:St}{H:Hp}{E:X9->X7->Prop}{fp wr FP:List Addr}{elts:List Expr}{k:Nat}{pos:Pos}{e:Addr}{n i:Nat}{Pt:Nat->Array X9->Prop}{Sn:Nat->Heap->Prop}{Mid:Nat->Addr->Heap->Prop}{J:It}{tn:Nat->Heap->Prop}
def zhT (I:Inv X bz σ H s)(G:∀b∈fp,QU X bz H b)(ho:∀b∈fp,∃o,s.heap.get? b=some o)(p:∀b∈wr,b∈fp)(W:WalksT X.prog X.w X.A e FP wr n Pt Sn Mid)(hi:i<n)(st:Sn i s.heap)
  (y:∀T a,H T=none->Pt i a->∃vs,Vals vs a.toList/\vs.length<=Xq/\J.yld i H (.ref T) (upd H T (.tup vs))) (nx:∀g,Sn (i+1) g->tn (i+1) g) :
  Xv (Xr X.prog X.w) X.A (SW (.ref e)) (λr s1=>∃u,r=some u /\
   Xv (Xr X.prog X.w) X.A (RL (.Tuple elts k pos) (.ref e) u) (λ_ O=>∃x z,Inv X bz σ z O/\RelV x u/\J.yld i H x z/\tn (i+1) O.heap/\∀b∈fp,z b=none) E s1) E s:=by
 refine W.item i s _ E hi st λT a U Q hP h Y L kk=>⟨.ref T,rfl,?_⟩;have M:H T=none:=I.hok.fresh h;obtain⟨vs,hv,hl,hy⟩:=y T a M hP;refine W.go elts k pos i T { s with heap:=U,toks:=Q } _ E L λg v q=>?_;have N:∀b o,b ∉ wr->s.heap.get? b=some o->g.get? b=some o:=λb o j e=>q b o j (kk b o j e);have l:NF g T a:=by
  obtain⟨o,B,c,m,d⟩:=Y;exact⟨o,q T o (W.apart i T _ L) B,c,m,d⟩
 have D:∀b∈wr,H b=none:=λb j=>(G b (p b j)).1;refine⟨.ref T,upd H T (.tup vs),?_,rfl,hy,nx _ v,λb j=>?_⟩
 .exact I.call' (s':={ s with heap:=g,toks:=Q }) (ch:=wr) rfl (Un.laidX N h M) (HOk.laidX I.hok N D h ⟨hl,a.toList,hv,by simpa using l⟩) I.bare λb j=>let f:=G b (p b j);⟨f.2.2.2.1,f.2.1,f.2.2.2.2.1,f.2.2.2.2.2⟩
 .obtain⟨o,B⟩:=ho b j;rw[zp (Xl (Xd (XD B) h))];exact(G b j).1
def zhU (I:Inv X bz σ H s)(d:∀b∈fp,QU X bz H b)(a:∀b∈wr,b∈fp)(W:WalksT X.prog X.w X.A e FP wr n Pt Sn Mid)(st:Sn n s.heap) :
  Xv (Xr X.prog X.w) X.A (SW (.ref e)) (λr s1=>r=none/\Inv X bz σ H s1) E s :=
 W.done s _ E st λh i g=>⟨rfl,I.call' (s':={ s with heap:=h,toks:=i }) (ch:=wr) rfl (Un.keptX g) (HOk.keptX I.hok g λb c=>(d b (a b c)).1) I.bare λb c=>let f:=d b (a b c);⟨f.2.2.2.1,f.2.1,f.2.2.2.2.1,f.2.2.2.2.2⟩⟩
end
def JR {h:Heap}{b:Addr}{o:Obj}{vs:Array X9}(e:h.get? b=some o)(d:o.data=.fields vs):∃o,h.get? b=some o/\∀v,o.data ≠ .cell v:=⟨o,e,λv z=>by rw[d]at z;cases z⟩
def Ite (K:XW)(l:Addr):It:=⟨λi H=>∃a,SqL K H l a/\i<a.length,λi H x b=>∃T,x=.ref T/\H T=none/\∀a,SqL K H l a->∃v,a[i]?=some v/\b=upd H T (.tup [.int i,v]),λi H=>∃a,SqL K H l a/\i=a.length⟩
def zkc {P:Xm}{w:W1}{K:XW}{elts:List Expr}{k:Nat}{pos:Pos}(e it l:Addr)(hei:e≠it)(hle:l≠e)(hli:l≠it) :
  Turn P w K (.Tuple elts k pos) (Ite K l) [e,it] e (λi h=>(∃old,IsEnum h e it i old)/\h.IsListIter it l i) where
 mem:=by simp
 obj:=λi h st b hb=>by
  obtain⟨⟨old,he⟩,o,e2,c,d⟩:=st;rcases XH.mp hb with rfl | hb
  .exact JR he rfl
  .have z:b=it:=by simpa using hb
   subst z;exact JR e2 d
 keep:=λi h h' st kk=>by
  obtain⟨⟨old,he⟩,o,e2,r⟩:=st;exact⟨⟨old,kk e (by simp) _ he⟩,o,kk it (by simp) o e2,r⟩
 item:=by
  intro X hP hw hK hc i bz s σ H E I hf st hg;subst hP hw hK;obtain⟨xs,hq,hlt⟩:=hg;obtain⟨its,rv,p,hz⟩:=I.list hq;have hl:=rv.length;obtain⟨⟨old,he⟩,o2,e2,c2,d2⟩:=id st;refine zhT (wr:=[e,it]) (J:=Ite X.K l) (tn:=λi h=>(∃old,IsEnum h e it i old)/\h.IsListIter it l i) I hf (λb hb=>?_) (λb hb=>hb) (WalksT.enumerate (I.ok.hd hc) e it l hei hle hli its.toArray) (by simp;lia) ⟨st.1,st.2,p.isList⟩ (λT vals hn hp=>?_) λh'' q=>⟨q.1,q.2.1⟩
  .rcases XH.mp hb with rfl | hb
   .exact⟨_,he⟩
   .have z:b=it:=by simpa using hb
    subst z;exact⟨_,e2⟩
  .obtain⟨t,x,hx,rfl⟩:=hp;have hx':its[i]?=some x:=by simpa using hx
   obtain⟨u,hu,ru⟩:=rv.get (i:=i) (x:=xs[i]) (by rw[X2 hlt]);rw[hu]at hx';cases hx';exact⟨[.int i,xs[i]],.cons ⟨t,rfl⟩ (.cons ru .nil),(by show 2<=Xq;decide),T,rfl,hn,λys hy=>⟨xs[i],by rw[I.list_inj hy hq,X2 hlt],rfl⟩⟩
 done:=by
  intro X hP hw hK hc i bz s σ H E I hf st hg;subst hP hw hK;obtain⟨xs,hq,rfl⟩:=hg;obtain⟨its,rv,p,hz⟩:=I.list hq;have hl:its.toArray.size=xs.length:=by simp[rv.length]
  refine zhU (fp:=[e,it]) (wr:=[e,it]) I hf (λb hb=>hb) (WalksT.enumerate (I.ok.hd hc) e it l hei hle hli its.toArray) ?_;rw[hl];exact⟨st.1,st.2,p.isList⟩
 self:=λA i s Q E st h=>by
  obtain⟨⟨old,he⟩,_⟩:=st;exact Su he h
def znR (x:Str):It:=⟨λi _=>i<x.cps.size,λi H v a=>∃T c,v=.ref T/\H T=none/\x.cps[i]?=some c/\a=upd H T (.tup [.int i,.str ⟨#[c]⟩]),λi _=>i=x.cps.size⟩
def zcN {P:Xm}{w:W1}{K:XW}{elts:List Expr}{k:Nat}{pos:Pos}(e it:Addr)(x:Str)(t:Tok)(n:String)(hei:e≠it)
  (D:∀A:WN,A.handled=none->Draws P w A it [it] x.cps.size (λi v=>∃c u,x.cps[i]?=some c/\v=.str ⟨#[c]⟩ u) (λi h=>h.IsStrIter it n x t i)) :
  Turn P w K (.Tuple elts k pos) (znR x) [e,it] e (λi h=>(∃old,IsEnum h e it i old)/\h.IsStrIter it n x t i) where
 mem:=by simp
 obj:=λi h st b hb=>by
  obtain⟨⟨old,he⟩,o,e2,c,d⟩:=st;rcases XH.mp hb with rfl | hb
  .exact JR he rfl
  .have z:b=it:=by simpa using hb
   subst z;exact JR e2 d
 keep:=λi h h' st kk=>by
  obtain⟨⟨old,he⟩,o,e2,r⟩:=st;exact⟨⟨old,kk e (by simp) _ he⟩,o,kk it (by simp) o e2,r⟩
 item:=by
  intro X hP hw hK hc i bz s σ H E I hf st hg;subst hP hw hK;obtain⟨⟨old,he⟩,o2,e2,c2,d2⟩:=id st;refine zhT (wr:=[e,it]) (J:=znR x) (tn:=λi h=>(∃old,IsEnum h e it i old)/\h.IsStrIter it n x t i) I hf (λb hb=>?_) (λb hb=>hb) (WalksT.enumerateD (D X.A.in1 (I.ok.hd hc)) e hei (by simpa using hei) (by simp)) hg st (λT vals hn hp=>?_) λh'' q=>q
  .rcases XH.mp hb with rfl | hb
   .exact⟨_,he⟩
   .have z:b=it:=by simpa using hb
    subst z;exact⟨_,e2⟩
  .obtain⟨t',v,⟨c,u,hx,rfl⟩,rfl⟩:=hp;exact⟨[.int i,.str ⟨#[c]⟩],.cons ⟨t',rfl⟩ (.cons ⟨u,rfl⟩ .nil),(by show 2<=Xq;decide),T,c,rfl,hn,hx,rfl⟩
 done:=by
  intro X hP hw hK hc i bz s σ H E I hf st hg;subst hP hw hK;have z:i=x.cps.size:=hg;subst z;exact zhU (fp:=[e,it]) (wr:=[e,it]) I hf (λb hb=>hb) (WalksT.enumerateD (D X.A.in1 (I.ok.hd hc)) e hei (by simpa using hei) (by simp)) st
 self:=λA i s Q E st h=>by
  obtain⟨⟨old,he⟩,_⟩:=st;exact Su he h
def Itz (K:XW)(l1 l2:Addr):It:=⟨λi H=>∃a b,SqL K H l1 a/\SqL K H l2 b/\i<a.length/\i<b.length,
 λi H x d=>∃T,x=.ref T/\H T=none/\∀a b,SqL K H l1 a->SqL K H l2 b->∃v c,a[i]?=some v/\b[i]?=some c/\d=upd H T (.tup [v,c]),λi H=>∃a b,SqL K H l1 a/\SqL K H l2 b/\i=min a.length b.length⟩
def zly {P:Xm}{w:W1}{K:XW}{elts:List Expr}{k:Nat}{pos:Pos}(z TI TO i1 i2 l1 l2:Addr)(D:ZipApart z TI TO i1 i2 l1 l2) :
  Turn P w K (.Tuple elts k pos) (Itz K l1 l2) [z,TI,TO,i1,i2] z (λi h=>IsZip h z TI TO .none/\IsPair h TI (.ref i1) (.ref i2)/\(∃a b,IsPair h TO a b)/\h.IsListIter i1 l1 i/\h.IsListIter i2 l2 i) where
 mem:=by simp
 obj:=λi h st b hb=>by
  obtain⟨hz,hTI,⟨a,b',hTO⟩,⟨o1,e1,c1,d1⟩,⟨o2,e2,c2,d2⟩⟩:=st;simp only[XH,Vv,or_false]at hb;rcases hb with rfl | rfl | rfl | rfl | rfl
  .exact JR hz rfl
  .exact⟨_,hTI,λv q=>by cases q⟩
  .exact⟨_,hTO,λv q=>by cases q⟩
  .exact JR e1 d1
  .exact JR e2 d2
 keep:=λi h h' st kk=>by
  obtain⟨hz,hTI,⟨a,b',hTO⟩,⟨o1,e1,r1⟩,⟨o2,e2,r2⟩⟩:=st;exact⟨kk z (by simp) _ hz,kk TI (by simp) _ hTI,⟨a,b',kk TO (by simp) _ hTO⟩,⟨o1,kk i1 (by simp) _ e1,r1⟩,⟨o2,kk i2 (by simp) _ e2,r2⟩⟩
 item:=by
  intro X hP hw hK hc i bz s σ H E I hf st hg;subst hP hw hK;revert hg;refine eU λxs ys hq1 hq2 hlt1 hlt2=>?_;obtain⟨its1,rv1,p1,hz1⟩:=I.list hq1;obtain⟨its2,rv2,p2,hz2⟩:=I.list hq2;have g1:=rv1.length;have g2:=rv2.length;obtain⟨hz,hTI,⟨a,b',hTO⟩,⟨o1,e1,r1⟩,⟨o2,e2,r2⟩⟩:=id st;refine zhT (wr:=[z,TO,i1,i2]) (J:=Itz X.K l1 l2) (tn:=λi h=>IsZip h z TI TO .none/\IsPair h TI (.ref i1) (.ref i2)/\(∃a b,IsPair h TO a b)/\h.IsListIter i1 l1 i/\h.IsListIter i2 l2 i) I hf (λb hb=>?_) (λb hb=>?_) (WalksT.zip2 (I.ok.hd hc) z TI TO i1 i2 l1 l2 D its1.toArray its2.toArray) (by simp;lia) ⟨st.1,st.2.1,st.2.2.1,st.2.2.2.1,st.2.2.2.2,p1.isList,p2.isList⟩ (λT vals hn hp=>?_) λh'' q=>⟨q.1,q.2.1,q.2.2.1,q.2.2.2.1,q.2.2.2.2.1⟩
  .simp only[XH,Vv,or_false]at hb;rcases hb with rfl | rfl | rfl | rfl | rfl
   .exact⟨_,hz⟩
   .exact⟨_,hTI⟩
   .exact⟨_,hTO⟩
   .exact⟨_,e1⟩
   .exact⟨_,e2⟩
  .simp only[XH,Vv,or_false]at hb ⊢;rcases hb with rfl | rfl | rfl | rfl<;>simp
  .obtain⟨x,y,hx,hy,rfl⟩:=hp;have hx':its1[i]?=some x:=by simpa using hx
   have hy':its2[i]?=some y:=by simpa using hy
   obtain⟨u,hu,ru⟩:=rv1.get (i:=i) (x:=xs[i]) (by rw[X2 hlt1]);obtain⟨u',hu',ru'⟩:=rv2.get (i:=i) (x:=ys[i]) (by rw[X2 hlt2]);rw[hu]at hx';rw[hu']at hy';cases hx';cases hy';exact⟨[xs[i],ys[i]],.cons ru (.cons ru' .nil),(by show 2<=Xq;decide),T,rfl,hn,λxs' ys' h1 h2=>⟨xs[i],ys[i],by rw[I.list_inj h1 hq1,X2 hlt1],by rw[I.list_inj h2 hq2,X2 hlt2],rfl⟩⟩
 done:=by
  intro X hP hw hK hc i bz s σ H E I hf st hg;subst hP hw hK;obtain⟨xs,ys,hq1,hq2,rfl⟩:=hg;obtain⟨its1,rv1,p1,hz1⟩:=I.list hq1;obtain⟨its2,rv2,p2,hz2⟩:=I.list hq2;have g1:min its1.toArray.size its2.toArray.size=min xs.length ys.length:=by simp[rv1.length,rv2.length]
  refine zhU (fp:=[z,TI,TO,i1,i2]) (wr:=[z,TO,i1,i2]) I hf (λb hb=>?_) (WalksT.zip2 (I.ok.hd hc) z TI TO i1 i2 l1 l2 D its1.toArray its2.toArray) ?_
  .simp only[XH,Vv,or_false]at hb ⊢;rcases hb with rfl | rfl | rfl | rfl<;>simp
  .rw[g1];exact⟨st.1,st.2.1,st.2.2.1,st.2.2.2.1,st.2.2.2.2,p1.isList,p2.isList⟩
 self:=λA i s Q E st h=>wpAny_pyIter_zip st.1 h
section
variable {X:Cx}{elts:List Expr}{k:Nat}{tpos:Pos}
def zqb (K:XW)(b:TA):TI:=fun e H R=>b e H λc a=>∃l,c=[.ref l]/\(∃d,SqL K a l d)/\R (Ite K l) a
def xS {a:Expr}{o:TA}{p pos:Pos}(y:Gl X "enumerate")(z:X.mg "enumerate"=none)(x:PA X [a] o)(B:WG [a] X.env=[(false,eval a X.env)]:=by rfl):PI X (.Tuple elts k tpos) (.Call (.Name "enumerate" p) [a] [] pos) (zqb X.K o):=by
 intro m s r H R I h;refine Call_ (YY I y z boot_enumerate (VO (thn (x pos m s r H _ I h) λU s1 ⟨Y,j,f,L,J⟩=>?_) B rfl));obtain⟨l,rfl,⟨xs,A⟩,q⟩:=J;obtain⟨u,rfl,M⟩:=vals1 L;cases M;obtain⟨E,Q,n,N⟩:=f.list A;obtain⟨O,i,_⟩:=n.isList;have d:=XD i;refine call_enumerate_list n.isList λw he g D G=>?_;have v:Inv X m r j { s1 with heap:=w }:=f.kept (t':=s1.toks) G;refine Su he ?_;refine eB (s1.heap.objs.size+1) [s1.heap.objs.size+1,s1.heap.objs.size] j rfl v (zkc (s1.heap.objs.size+1) s1.heap.objs.size l (Ve _) (Xl (Ww d)) (Xl d)) ⟨⟨_,he⟩,g⟩ (λb hb=>?_) q;have c:s1.heap.objs.size<=b:=by
  rcases XH.mp hb with e | hb
  .rw[e];exact V9 _
  .have e:b=s1.heap.objs.size:=by simpa using hb
   rw[e];exact XV _
 exact f.fpOk c (f.hok.fresh c)
def zqc (b:TA):TI:=fun d H R=>b d H λc a=>∃z,c=[.str z]/\R (znR z) a
def zgk {a:Expr}{o:TA}{p pos:Pos}(w:Gl X "enumerate")(x:X.mg "enumerate"=none)(i:PA X [a] o)(y:WG [a] X.env=[(false,eval a X.env)]:=by rfl):PI X (.Tuple elts k tpos) (.Call (.Name "enumerate" p) [a] [] pos) (zqc o):=by
 intro l s r H R I h;refine Call_ (YY I w x boot_enumerate (VO (thn (i pos l s r H _ I h) λJ s1 ⟨L,g,j,G,E⟩=>?_) y rfl));obtain⟨z,rfl,q⟩:=E;obtain⟨u,rfl,t,rfl⟩:=vals1 G;refine call_enumerate_str λv he c B D=>?_;have n:Inv X l r g { s1 with heap:=v }:=j.kept (t':=s1.toks) D;refine Su he ?_;have d:∀b ∈ [s1.heap.objs.size+1,s1.heap.objs.size],QU X l g b:=λb hb=>by
  have f:s1.heap.objs.size<=b:=by
   rcases XH.mp hb with e | hb
   .rw[e];exact V9 _
   .have e:b=s1.heap.objs.size:=by simpa using hb
    rw[e];exact XV _
  exact j.fpOk f (j.hok.fresh f)
 unfold strIterType at c;by_cases i:z.cps.all (· < 128)=true
 .rw[bw i]at c;exact eB (s1.heap.objs.size+1) [s1.heap.objs.size+1,s1.heap.objs.size] g rfl n (zcN (s1.heap.objs.size+1) s1.heap.objs.size z t "str_ascii_iterator" (Ve _) (λA m=>Draws.strAscii m _ z t)) ⟨⟨_,he⟩,c⟩ d q
 .rw[bq i]at c;exact eB (s1.heap.objs.size+1) [s1.heap.objs.size+1,s1.heap.objs.size] g rfl n (zcN (s1.heap.objs.size+1) s1.heap.objs.size z t "str_iterator" (Ve _) (λA m=>Draws.strWide m _ z t)) ⟨⟨_,he⟩,c⟩ d q
def zsS (K:XW)(d:TA):TI:=fun h H R=>d h H λe a=>∃b c,e=[.ref b,.ref c]/\(∃f,SqL K a b f)/\(∃g,SqL K a c g)/\R (Itz K b c) a
def zqd {a b:Expr}{L:TA}{p pos:Pos}(hg:Gl X "zip")(hm:X.mg "zip"=none)(Y:PA X [a,b] L)(hs:WG [a,b] X.env=[(false,eval a X.env),(false,eval b X.env)]:=by rfl)(f:WG [b] X.env=[(false,eval b X.env)]:=by rfl) :
  PI X (.Tuple elts k tpos) (.Call (.Name "zip" p) [a,b] [] pos) (zsS X.K L):=by
 intro z s M H R I h;refine Call_ (YY I hg hm boot_zip (VO (thn (Y pos z s M H _ I h) λus s1 ⟨vs,y,d,r1,q1⟩=>?_) (by rw[hs,f]) (by rw[f];rfl)));obtain⟨v,w,rfl,⟨xs,o⟩,⟨ys,r⟩,q⟩:=q1;obtain⟨u,u',rfl,ru,x⟩:=vals2 r1;cases ru;cases x;obtain⟨D,af,G,ab⟩:=d.list o;obtain⟨E,ag,J,ac⟩:=d.list r;obtain⟨o1,m,_⟩:=G.isList;obtain⟨o2,n,_⟩:=J.isList;have ae:@LT.lt Nat _ v s1.heap.objs.size:=XD m;have lt2:@LT.lt Nat _ w s1.heap.objs.size:=XD n;refine call_zip_2 G.isList J.isList λQ B g i j l aa kk=>?_;have O:Inv X z M y { s1 with heap:=Q }:=d.kept (t':=s1.toks) kk;refine wpAny_pyIter_zip B ?_;generalize U:s1.heap.objs.size=N at *
 have c:ZipApart (N+4) (N+2) (N+3) N (N+1) v w:=by
  constructor<;>first
   | exact Xl (by lia)
   | exact Va (by lia)
 refine eB (N+4) [N+4,N+2,N+3,N,N+1] y rfl O (zly (N+4) (N+2) (N+3) N (N+1) v w c) ⟨B,g,⟨_,_,i⟩,j,l⟩ (λb A=>?_) q;have e:s1.heap.objs.size<=b:=by
  rw[U];simp only[XH,Vv,or_false]at A;rcases A with rfl | rfl | rfl | rfl | rfl<;>lia
 exact d.fpOk e (d.hok.fresh e)
def zaD:jr X (.type "int") (λxs H Q=>∃x n,xs=[.str x]/\OJ x=some n/\x.length<=640/\Q (.int n) H):=by
 intro c s e H xs d Q I r h;obtain⟨x,n,rfl,b,a,q⟩:=h;obtain⟨u,rfl,t,rfl⟩:=vals1 r;exact PySem.W.KIN.call_text b a ⟨.int n,H,I.tok _,⟨_,rfl⟩,q⟩
def zfm:jr X (.type "str") (λxs H Q=>∃x,xs=[.str x]/\Q (.str x) H):=by
 intro a s c H xs b Q I r h;obtain⟨x,rfl,q⟩:=h;obtain⟨u,rfl,t,rfl⟩:=vals1 r;exact PySem.P.str_of_str ⟨.str x,H,I,⟨_,rfl⟩,q⟩
end
def yX {K:XW}{l:Addr}{xs:AF}{g:TG}{k:TS}{D:Ends}{a:St}{H:Hp}(Pv:Nat->St->Hp->Prop)(h0:Pv 0 a H)(s:∀i a H,i<=xs.length->Pv i a H->SqL K H l xs)
  (u:∀i x T a H,xs[i]?=some x->H T=none->Pv i a H->g (.ref T) a (upd H T (.tup [.int i,x])) fun d h=>k { D with nx:=Pv (i+1),ct:=Pv (i+1),bk:=D.nx } d h) (o:∀ a H,Pv xs.length a H->D.nx a H) :
  ∃W:Nat->Nat->St->Hp->Prop,(∃m,W 0 m a H)/\∀i m a H,W i m a H ->
   ((Ite K l).stop i H/\D.nx a H)\/((Ite K l).go i H/\∃N:St->Hp->Prop,(∀ c b,N c b->∃j,j<m/\W (i+1) j c b)/\∀x b,(Ite K l).yld i H x b->g x a b fun d h=>k { D with nx:=N,ct:=N,bk:=D.nx } d h):=by
 refine⟨λi m a H=>m=xs.length-i/\i<=xs.length/\Pv i a H,⟨xs.length,by simp,W4 _,h0⟩,?_⟩;rintro i m a H ⟨rfl,r,p⟩;have q:=s i a H r p;by_cases f:i<xs.length
 .refine .inr ⟨⟨xs,q,f⟩,Pv (i+1),fun c b z=>⟨xs.length-(i+1),by lia,rfl,f,z⟩,λx b y=>?_⟩;obtain⟨T,rfl,n,y⟩:=y;obtain⟨v,w,rfl⟩:=y xs q;exact u i v T a H w n p
 .have e:i=xs.length:=by lia
  subst e;exact .inl ⟨⟨xs,q,rfl⟩,o a H p⟩
def zcO {g:TG}{k:TT}{l:TE}{Q:VK}{a:St}{H:Hp}{D:Addr}{x:Str}(Pv:Nat->St->Hp->Prop)(h0:Pv 0 a H)
  (u:∀i c T a H,x.cps[i]?=some c->H T=none->Pv i a H->g (.ref T) a (upd H T (.tup [.int i,.str ⟨#[c]⟩])) fun d o=>k d o λb h=>if b=true then l d h λy j=>∃ys,j D=some (.lst ys)/\ys.length<Xq/\Pv (i+1) d (upd j D (.lst (ys++[y]))) else Pv (i+1) d h)
  (s:∀ a H,Pv x.cps.size a H->Q (.ref D) H):xR (znR x) g k l Q D a H:=by
 refine⟨λi m a H=>m=x.cps.size-i/\i<=x.cps.size/\Pv i a H,⟨x.cps.size,by simp,W4 _,h0⟩,?_⟩;rintro i m a H ⟨rfl,A,p⟩;by_cases f:i<x.cps.size
 .refine .inr ⟨f,Pv (i+1),fun z n w=>⟨x.cps.size-(i+1),by lia,rfl,f,w⟩,λv n y=>?_⟩;revert y;refine eU λT c z0 q r z1=>?_;subst z0 z1;exact u i c T a H r q p
 .have e:i=x.cps.size:=by lia
  subst e;exact .inl ⟨rfl,s a H p⟩
def zbl (look:Str->Option Addr):List (Str×Tc)->List (Str×Addr)->List (Str×Addr)
 | [],a=>a
 | (n,k)::r,a=>if k == .free then (match look n with
  | some c=>zbl look r ((n,c)::a)
  | none=>zbl look r a) else zbl look r a
theorem ZL {look:Str->Option Addr}:∀(b:List (Str×Tc)) (a:List (Str×Addr)) (p:Str×Addr),p∈zbl look b a->p∈a\/look p.1=some p.2
 | [],a,p,h=>.inl h
 | (n,k)::r,a,p,h=>by
  unfold zbl at h;split at h
  .cases e:look n with
   | none =>
    rw[e]at h;exact ZL r a p h
   | some c =>
    rw[e]at h;rcases ZL r _ p h with h | h
    .rcases XH.mp h with h | h
     .subst h;exact .inr e
     .exact .inl h
    .exact .inr h
  .exact ZL r a p h
def ZM {x n:Str}{c:Addr}{a:List (Str×Addr)}(h:(a.lookup x).isSome=true\/x=n):(RQ x ((n,c)::a)).isSome=true:=by
 rw[Vd];cases e:x==n with
 | true=>rfl
 | false =>
  rcases h with h | h
  .exact h
  .subst h;simp at e
def zcP {look:Str->Option Addr}{x:Str}(a:List (Str×Tc))(b:List (Str×Addr))(h:(b.lookup x).isSome=true\/((x,NameKind.free)∈a/\(look x).isSome=true)):((zbl look a b).lookup x).isSome=true:=by
 induction a generalizing b with
 | nil =>
  rcases h with h | h
  .exact h
  .cases h.1
 | cons y r d =>
  obtain⟨n,k⟩:=y;unfold zbl;split
  .rename_i hk;cases e:look n with
   | none =>
    refine d b ?_;rcases h with h | ⟨h,h2⟩
    .exact .inl h
    .rcases XH.mp h with h | h
     .cases h;rw[e]at h2;cases h2
     .exact .inr ⟨h,h2⟩
   | some c =>
    refine d _ ?_;rcases h with h | ⟨h,h2⟩
    .exact .inl (ZM (.inl h))
    .rcases XH.mp h with h | h
     .cases h;exact .inl (ZM (.inr rfl))
     .exact .inr ⟨h,h2⟩
  .rename_i hk;refine d b ?_;rcases h with h | ⟨h,h2⟩
   .exact .inl h
   .rcases XH.mp h with h | h
    .cases h;exact absurd rfl hk
    .exact .inr ⟨h,h2⟩
def Jb {e:UC}{d:Env}(h:∀y∈e.names,y.2=.free->(d.cells.lookup y.1).isSome=true):N0 e d=pure (zbl (λx=>d.cells.lookup x) e.names []):=by
 have v:∀(b:List (Str×Tc)) (f:List (Str×Addr)),(∀y∈b,y.2=.free->(d.cells.lookup y.1).isSome=true) ->
   (forIn b f λx l=>(match x with
    | (g,j)=>if (j == .free)=true then do let a <- cellOf d g;pure (VU ((g,a)::l)) else pure (VU l):Sem (ForInStep (List (Str×Addr)))))=(pure (zbl (λx=>d.cells.lookup x) b f):Sem _):=by
  intro b;induction b with
  | nil=>intro f _;rfl
  | cons y r s =>
   intro f q;obtain⟨n,k⟩:=y;have p:∀y∈r,y.2=.free->(d.cells.lookup y.1).isSome=true:=λy z=>q y (XY _ z);rw[List.forIn_cons];unfold zbl;by_cases hk:(k==NameKind.free)=true
   .have o:k=.free:=by simpa using hk
    have A:=q (n,k) XX o;obtain⟨c,w⟩:=Wa.mp A;have i:RQ n d.cells=some c:=w;have u:cellOf d n=pure c:=by
     unfold cellOf;rw[i]
    simp only[hk,if_true,u,i,pure_bind];exact s _ p
   .simp only[hk,WJ,if_false,pure_bind];exact s _ p
 simp only[N0];exact Eq.trans (congrArg (λm:Sem (List (Str×Addr))=>m >>= λl=>pure l) (v e.names [] h)) rfl
def yu {b:UC}{a:Env}{x:Str}{k:Tc}(h:(x,k)∈(Ua b a).names)(hk:k=.cell\/k=.free):(x,UO)∈b.names\/(x,NameKind.free)∈b.names:=by
 obtain⟨y,g,e⟩:=XJ.mp h;obtain⟨n,d⟩:=y;by_cases c:(d==NameKind.free&&a.scope.kind == .function&&a.kindOf n==some .cell)=true
 .have f:(if (d==NameKind.free&&a.scope.kind == .function&&a.kindOf n==some .cell)=true then (n,UO) else (n,d))=(x,k):=e;rw[bw c]at f;cases f;have i:d=.free:=by
   have:=(WY.mp (WY.mp c).1).1;simpa using this
  subst i;exact .inr g
 .have f:(if (d==NameKind.free&&a.scope.kind == .function&&a.kindOf n==some .cell)=true then (n,UO) else (n,d))=(x,k):=e;rw[bq c]at f;cases f;rcases hk with rfl | rfl
  .exact .inl g
  .exact .inr g
def zfn {d:UC}{a:Env}{x:Str}(hk:a.scope.kind=.function)(l:a.kindOf x=some .cell)(h:d.names.lookup x=some .free):(Ua d a).names.lookup x=some .cell:=by
 have i:∀b:List (Str×Tc),b.lookup x=some .free->(b.map λ(n,k)=>if (k==NameKind.free&&a.scope.kind == .function&&a.kindOf n==some .cell)=true then (n,UO) else (n,k)).lookup x=some .cell:=by
  intro b;induction b with
  | nil=>intro h;cases h
  | cons y r g =>
   obtain⟨n,k⟩:=y;intro h;show RQ x ((if (k==NameKind.free&&a.scope.kind == .function&&a.kindOf n==some .cell)=true then (n,UO) else (n,k))::_)=_;rw[Vd]at h;cases e:x==n with
   | true =>
    rw[e]at h;have f:k=.free:=Option.some.inj h;have j:x=n:=by simpa using e
    subst f j;rw[bw (by rw[hk,l];rfl),Vd,beq_self_eq_true]
   | false =>
    rw[e]at h;by_cases c:(k==NameKind.free&&a.scope.kind == .function&&a.kindOf n==some .cell)=true
    .rw[bw c,Vd,e];exact g h
    .rw[bq c,Vd,e];exact g h
 exact i d.names h
theorem zW.free {X:Cx}{N:AE}{src:List (Option Nat)}{a:UC}{O:List (Str×Tc)}{XN:AE}(u:X.env.scope.names=O)(s:X.env.scope.kind=.function)(r:∃n,X.env.cells=R7 n O [])(v:X.N=XN)
  (f:a.kind=.function) (b:∀y∈a.names,y.2 ≠ .cell) (d:∀y∈a.names,y.2=.local->a.names.lookup y.1=some .local) (p:∀y∈a.names,y.2=.free->O.lookup y.1=some .cell) (len:src.length=N.length)
  (B:∀q∈N.zip src,q.2=none\/(∃j∈Wc XN.length,q.2=some j/\XN[j]?=some q.1/\O.lookup q.1=some .cell/\a.names.lookup q.1=some .free)):zW X N src a (zbl (λx=>X.env.cells.lookup x) a.names []):=by
 have g:∀y∈a.names,y.2=.free->(X.env.cells.lookup y.1).isSome=true:=λy A e=>by
  obtain⟨n,w⟩:=r;rw[w];exact T5 O n [] (.inl (p y A e))
 refine⟨f,b,d,Jb g,λx c h=>?_,λx h=>?_,len,λi j x h1 h2=>?_⟩
 .rcases ZL _ _ _ (WH h) with z | z
  .cases z
  .exact z
 .refine Wa.mp (zcP _ _ (.inr ?_));have hm:(x,UO)∈a.names\/(x,NameKind.free)∈a.names:=by
   rcases h with h | h
   .exact yu (WH h) (.inl rfl)
   .exact yu (WH h) (.inr rfl)
  rcases hm with hm | hm
  .exact absurd rfl (b _ hm)
  .exact⟨hm,g _ hm rfl⟩
 .have hm:(x,some j)∈N.zip src:=by
   refine X8 (i:=i) ?_;rw[Ti];exact⟨h1,h2⟩
  rcases B _ hm with z | ⟨D,_,e,l,m,o⟩
  .cases z
  .cases e;have k:X.env.kindOf x=some .cell:=by
    show X.env.scope.names.lookup x=some .cell;rw[u];exact m
   exact⟨by rw[v];exact l,.inl k,.inl (zfn s k o)⟩
open PySem PySem.Spec PyProof.Rows PySem.W
section
variable {α β:Type}{R:α->β->Prop}{us us':List α}{cs cs':List β}{i:Nat}{v:α}{c:β}
def zcQ (h:W2 R us cs)(k:W2 R us' cs'):W2 R (us++us') (cs++cs'):=by
 induction h with
 | nil=>exact k
 | cons q _ a=>exact .cons q a
def zgl (h:W2 R us cs)(e:us[i]?=some v):∃c,cs[i]?=some c/\R v c:=by
 induction h generalizing i with
 | nil=>cases e
 | cons q _ a =>
  cases i with
  | zero =>
   cases e;exact⟨_,rfl,q⟩
  | succ i=>exact a (i:=i) e
def zlz (h:W2 R us cs)(e:v∈us):∃c∈cs,R v c:=by
 induction h with
 | nil=>cases e
 | cons q _ a =>
  rcases XH.mp e with rfl | e
  .exact⟨_,XX,q⟩
  .obtain⟨c,h,r⟩:=a e;exact⟨c,XY _ h,r⟩
end
def xT (H:Hp):AF->List (Int×Int)->Prop:=W2 λv p=>∃a,v=V.ref a/\H a=some (.tup [.int p.1,.int p.2])
def lt2 (p q:Int×Int):Bool:=if p.1=q.1 then decide (p.2<q.2) else decide (p.1<q.1)
structure zH (h:Heap)(v:X9)(p:Int×Int):Prop where
 ex:∃a o n t u,v=.ref a/\h.get? a=some o/\o.cls=.type "tuple"/\o.data=.seq #[.int p.1 t,.int p.2 u] n
section
variable {X:Cx}{bz:List (Addr×Obj)}{σ:St}{H:Hp}{s:X7}
def xT.pairs (I:Inv X bz σ H s){d:AF}{ps:List (Int×Int)}{b:List X9}(j:xT H d ps)(r:Vals d b):W2 (zH s.heap) b ps:=by
 induction j generalizing b with
 | nil =>
  cases r;exact .nil
 | cons q _ k =>
  obtain⟨a,e,h⟩:=q;subst e;cases r with
  | cons l m =>
   cases l;refine .cons ?_ (k m);obtain⟨c,o,v,_⟩:=I.tuple (SqT.of h);obtain⟨u1,w,rfl,⟨p,rfl⟩,⟨u,rfl⟩⟩:=vals2 o;obtain⟨ob,i,f,n,g⟩:=v;exact⟨a,ob,n,p,u,rfl,i,f,g⟩
end
theorem Yx {h h':Heap}(k:∀b o,h.get? b=some o->h'.get? b=some o):∀{c:List X9} {ps:List (Int×Int)},W2 (zH h) c ps->W2 (zH h') c ps
 | _,_,.nil=>.nil
 | _,_,.cons ⟨a,o,n,t,u,e,d,r⟩ tl=>.cons ⟨a,o,n,t,u,e,k _ _ d,r⟩ (Yx k tl)
theorem zaE {h:Heap}:∀{b:List X9} {ps:List (Int×Int)},W2 (zH h) b ps->∃fs:List X9,KatTups h b fs/\fs.length=b.length/\∀v∈fs,∃x t,v=Vj x t
 | _,_,.nil=>⟨[],.nil,rfl,λ_ z=>nomatch z⟩
 | _,_,.cons ⟨a,o,n,t,u,e,f,c,d⟩ tl=>by
  obtain⟨fs,k,l,q⟩:=zaE tl;subst e;refine⟨.int _ t::fs,KatTups.cons f c d rfl k,by simp[l],λv hv=>?_⟩;rcases XH.mp hv with rfl | hv
  .exact⟨_,t,rfl⟩
  .exact q v hv
section
variable {prog:Xm}{w:W1}{A:WN}{E:X9->X7->Prop}{s:X7}
def znS {v i:X9}{p q:Int×Int}{C:Bool->X7->Prop}(r:zH s.heap v p)(f:zH s.heap i q)(h:C (lt2 p q) s):Xv (Xr prog w) A (keyLt' (tuples' true) v i) C E s:=by
 obtain⟨a,o,n,t,u,rfl,l,B,k⟩:=r;obtain⟨z,H,G,x,y,rfl,c,j,b⟩:=f;refine kat_lt l k c b ?_;show KatLex prog w A true _ C [(Vj p.1 t,Vj q.1 x),(Vj p.2 u,Vj q.2 y)] 0 s;unfold lt2 at h;refine kat_cons (SeqAt.EqAt.int_int _ _ _ _ prog w _ _ (kat_go (λd=>kat_yes ?_) λd=>kat_no ?_))
 .have e:p.1=q.1:=by simpa using d
  rw[bw e]at h;refine kat_cons (SeqAt.EqAt.int_int _ _ _ _ prog w _ _ (kat_go (λg=>kat_yes (kat_nil ?_)) λg=>kat_no ?_))
  .have D:p.2=q.2:=by simpa using g
   have m:decide (p.2<q.2)=false:=bf (by lia);rw[m]at h;exact h
  .exact kat_one _ _ (lt_int h)
 .have e:¬ p.1=q.1:=by simpa using d
  rw[bq e]at h;exact oneLt_int h
end
section
variable {X:Cx}
def zgm:zry X (zrK X.K):=by
 intro g s B H x y v u Q I o A h;obtain⟨p,J,i,z,rfl,rfl,n,he,q⟩:=h;cases o;obtain⟨t,rfl⟩:=A;obtain⟨c,r,f,G⟩:=I.list n;obtain⟨j,h1,h2,D,k,l⟩:=zcm he;obtain⟨w,e,d⟩:=r.get h2;have m:=r.length;have E:=Y0;have a:EP X g B Q w s:=⟨z,H,I,d,q⟩;by_cases h0:0<=i
 .have b:i.toNat=j:=by
   rw[OT h0 l]at h1;exact Option.some.inj h1
  exact wpAny_getItem_list f.isList h0 (by lia) (by rw[b];simpa using e) a
 .have b:(i+(c.toArray.size:Int)).toNat=j:=by
   rw[Pp (by lia) k]at h1;rw[Xy,<- m];exact Option.some.inj h1
  exact Pi f.isList (by lia) (by rw[Xy]<;>lia) (by lia) (by rw[b];simpa using e) a
theorem zaF:∀{b:List Int} {a:List X9},Vals (b.map V.int) a->Q1 a b
 | [],_,r=>by cases r;exact .nil
 | n::b,_,r=>by
  cases r with
  | cons c d =>
   obtain⟨t,rfl⟩:=c;exact .cons n t (zaF d)
def zlA (i:X.calm=true):jr X (.builtin "sum") (λxs H Q=>∃(l:Addr) (a:List Int),xs=[.ref l]/\SqL X.K H l (a.map V.int)/\Q (.int a.sum) H):=by
 intro o s z H xs y Q I r h;obtain⟨l,a,rfl,j,q⟩:=h;obtain⟨u,rfl,m⟩:=vals1 r;cases m;obtain⟨b,n,k,v⟩:=I.list j;have e:Q1 b a:=zaF n;obtain⟨c,d⟩:=e.allInts.items;refine sum_intListG (I.ok.hd i) (xs:=c) (d ▸ k.isList) λp x w hk=>?_;have f:a=c.toList.map (·.1):=by
  rw[<- Ob,<- d];exact(show numsOf b.toArray.toList=a from e.numsOf).symm
 have g:preSum (numAt c) c.size=a.sum:=by
  rw[f,preSum_eq,WC (by simp)]
 rw[g];exact⟨.int _,H,I.kept hk,⟨_,rfl⟩,q⟩
def zkd {bs:List Bool}{a:List X9}(r:Vals (bs.map V.bl) a){i:Nat}{v:X9}(e:a[i]?=some v):∃b,bs[i]?=some b/\v=.bool b:=by
 have d:=r.length;rw[Y1]at d;have c:i<bs.length:=by
  have:=(XZ.mp e).1;lia
 obtain⟨u,f,g⟩:=r.get (i:=i) (x:=.bl bs[i]) (by rw[Xw,X2 c];rfl);rw[f]at e;cases e;exact⟨bs[i],X2 c,g⟩
def zgn (m:X.calm=true):jr X (.builtin "any") (λxs H Q=>∃(l:Addr) (bs:List Bool),xs=[.ref l]/\SqL X.K H l (bs.map V.bl)/\Q (.bl (bs.any id)) H):=by
 intro y s J H xs G Q I r h;obtain⟨l,bs,rfl,n,q⟩:=h;obtain⟨u,rfl,p⟩:=vals1 r;cases p;obtain⟨a,j,o,B⟩:=I.list n;have d:=o.isList;have f:l<s.heap.objs.size:=let ⟨_,he,_⟩:=d;XD he
 have c:=j.length;rw[Y1]at c;refine call_any_walk (Sv d ?_);refine dM s.heap.objs.size [s.heap.objs.size,l] [s.heap.objs.size] a.toArray.size (dH (dN (λi=>(bs[i]?).getD false) rfl (Walks.list (A:=X.A.in1) (I.ok.hd m) _ l (Xl f) a.toArray) ⟨⟨_,Xs _ rfl,rfl,rfl⟩,d.push _⟩ (λi v D x w hP g=>?_) (λz E hk=>?_)))
 .obtain⟨b,k,rfl⟩:=zkd j (i:=i) (v:=v) (by simpa using hP);simp only[k,To]at g;exact U0 g
 .have e:((Wc a.toArray.size).any λi=>(bs[i]?).getD false)=bs.any id:=by
   rw[Xy,<- c];exact LSm.range_any bs
  rw[e];exact⟨.bl _,H,I.kept (LSm.kept_iter hk),rfl,q⟩
end
mutual
inductive Rdn (N:Addr->Prop)(H:Hp):V->We->Prop
 | non:Rdn N H .non .none
 | bl (b:Bool):Rdn N H (.bl b) (.bool b)
 | int (i:Int):Rdn N H (.int i) (.int i)
 | str (x:Str):Rdn N H (.str x) (.str x)
 | lst {a:Addr} {xs:AF} {ds:List We}:N a->H a=some (.lst xs)->zG N H xs ds->Rdn N H (.ref a) (.list ds)
 | tup {a:Addr} {xs:AF} {ds:List We}:H a=some (.tup xs)->zG N H xs ds->Rdn N H (.ref a) (.tuple ds)
inductive zG (N:Addr->Prop)(H:Hp):AF->List We->Prop
 | nil:zG N H [] []
 | cons {x:V} {d:We} {xs:AF} {ds:List We}:Rdn N H x d->zG N H xs ds->zG N H (x::xs) (d::ds)
end
section
variable {K:XW}{N N':Addr->Prop}{H H':Hp}
def Rdn.rdv {v:V}{d:We}(h:Rdn N H v d):Rdv K H v d :=
 Rdn.rec (motive_1:=λv d _=>Rdv K H v d) (motive_2:=λc b _=>Ja K H c b) .non .bl .int .str (λ_ h _ t=>.lst (SqL.of h) t) (λh _ t=>.tup (SqT.of h) t) .nil (λ_ _ a t=>.cons a t) h
def zG.rdv {vs:AF}{b:List We}(h:zG N H vs b):Ja K H vs b :=
 zG.rec (motive_1:=λv d _=>Rdv K H v d) (motive_2:=λvs b _=>Ja K H vs b) .non .bl .int .str (λ_ h _ t=>.lst (SqL.of h) t) (λh _ t=>.tup (SqT.of h) t) .nil (λ_ _ a t=>.cons a t) h
def Rdn.mono (s:zB H H')(i:∀a,N a->N' a){v:V}{d:We}(h:Rdn N H v d):Rdn N' H' v d :=
 Rdn.rec (motive_1:=λv d _=>Rdn N' H' v d) (motive_2:=λc b _=>zG N' H' c b) .non .bl .int .str (λn h _ t=>.lst (i _ n) (s _ _ h) t) (λh _ t=>.tup (s _ _ h) t) .nil (λ_ _ a t=>.cons a t) h
def zG.mono (s:zB H H')(i:∀a,N a->N' a){vs:AF}{b:List We}(h:zG N H vs b):zG N' H' vs b :=
 zG.rec (motive_1:=λv d _=>Rdn N' H' v d) (motive_2:=λvs b _=>zG N' H' vs b) .non .bl .int .str (λn h _ t=>.lst (i _ n) (s _ _ h) t) (λh _ t=>.tup (s _ _ h) t) .nil (λ_ _ a t=>.cons a t) h
def zG.into {D:Addr}{o:HO}{c:AF}(e:H D=some (.lst c))(i:∀a,N a->a≠D){vs:AF}{b:List We}(h:zG N H vs b):zG N (upd H D o) vs b :=
 zG.rec (motive_1:=λv d _=>Rdn N (upd H D o) v d) (motive_2:=λvs b _=>zG N (upd H D o) vs b) .non .bl .int .str (λn h _ t=>.lst n (by rw[zp (i _ n)];exact h) t) (λh _ t=>.tup (by rw[zp (QW h e (by intro z;cases z))];exact h) t) .nil (λ_ _ a t=>.cons a t) h
def Rdn.keep (s:zB H H'){v:V}{d:We}(h:Rdn N H v d):Rdn N H' v d:=h.mono s λ_ n=>n
def zG.keep (s:zB H H'){vs:AF}{a:List We}(h:zG N H vs a):zG N H' vs a:=h.mono s λ_ n=>n
def zG.append {vs d:AF}{b c:List We}(h:zG N H vs b)(k:zG N H d c):zG N H (vs++d) (b++c) :=
 zG.rec (motive_1:=λ_ _ _=>True) (motive_2:=λvs b _=>zG N H (vs++d) (b++c))
  trivial (λ_=>trivial) (λ_=>trivial) (λ_=>trivial) (λ_ _ _ _=>trivial) (λ_ _ _=>trivial) k (λa _ _ t=>.cons a t) h
def zG.snoc {vs:AF}{a:List We}{v:V}{d:We}(h:zG N H vs a)(k:Rdn N H v d):zG N H (vs++[v]) (a++[d]):=h.append (.cons k .nil)
def zG.paired {vs:AF}{b:List We}(h:zG N H vs b):W2 (Rdn N H) vs b :=
 zG.rec (motive_1:=λ_ _ _=>True) (motive_2:=λvs b _=>W2 (Rdn N H) vs b)
  trivial (λ_=>trivial) (λ_=>trivial) (λ_=>trivial) (λ_ _ _ _=>trivial) (λ_ _ _=>trivial) .nil (λa _ _ t=>.cons a t) h
theorem zG.length {vs:AF}{a:List We}(h:zG N H vs a):vs.length=a.length:=Paired.length h.paired
def zG.get {vs:AF}{a:List We}{i:Nat}{v:V}(h:zG N H vs a)(e:vs[i]?=some v):∃d,a[i]?=some d/\Rdn N H v d:=zgl h.paired e
end
section
variable {K:XW}{g:TG}{tc:TT}{te:TE}{Q:VK}{σ0:St}{H1:Hp}{D:Addr}
def znT (N:Addr->Prop)(c:St->Prop)(H:Hp)(o:Option We)(Y:St->V->Hp->Prop):Prop:=∀d y a b,o=some d->c a->zB H b->Rdn N b y d->Y a y b
def zqe (b:St->Prop)(H:Hp)(o:Option We)(Z:St->Hp->Prop):Prop:=∀ a c,o=none->b a->zB H c->Z a c
def qM {a:Addr}{xs:AF}(N:Addr->Prop)(c:List (Option We))(h:St->Prop)(E:H1 D=none)(L:∀a,N a->a≠D)(h0:h σ0)(n:c.length=xs.length)(hz:xs.length<=100000)
  (U:SqL K H1 a xs)
  (hs:∀(i:Nat) (x:V) (o:Option We) (k:St) (H:Hp),xs[i]?=some x->c[i]?=some o->zB H1 H->H D≠none->h k->∀Y Z,znT N h H o Y->zqe h H o Z ->
   g x k H fun f J=>tc f J λb r=>if b=true then te f r λy B=>Y f y B else Z f r)
  (M:∀ys j,zB H1 j->j D=some (.lst ys)->zG N j ys (c.filterMap id)->Q (.ref D) j):xR (Itl K a) g tc te Q D σ0 (upd H1 D (.lst [])):=by
 refine qj (K:=K) (a:=a) (xs:=xs) (λi k j=>h k/\zB H1 j/\∃ys,j D=some (.lst ys)/\ys.length<=i/\zG N j ys ((c.take i).filterMap id)) ⟨h0,zd E,[],zc,XV _,.nil⟩ (λi k j _ ⟨_,s,_⟩=>s.seq U) ?_ ?_
 .refine λi x k H I=>eV λO s=>fk λys=>eV λm A p=>?_;have u:i<xs.length:=(XZ.mp I).1;obtain⟨o,G⟩:∃o,c[i]?=some o:=⟨c[i]'(by lia),X2 (by lia)⟩;have step:(c.take (i+1)).filterMap id=(c.take i).filterMap id++o.toList:=by
   rw[XI,G,List.filterMap_append];cases o<;>rfl
  refine hs i x o k H I G s (by rw[m];exact λz=>nomatch z) O _ _ (λd y f B e l q v=>?_) (fun f r e l w=>?_)
  .subst e;refine dN ys (q _ _ m) (XM A (Xd u (X5 hz (by decide)))) l (λb ob e=>?_) (dU (ys++[y]) zc ?_ ?_)
   .rw[zp (zj e E)];exact q _ _ (s _ _ e)
   .rw[XU];exact OE A 1
   .rw[step];exact zG.into (q _ _ m) L (zG.snoc (p.keep q) v)
  .subst e;refine⟨l,s.trans w,ys,w _ _ m,Uz A,?_⟩;rw[step];simpa using p.keep w
 .rintro k H ⟨_,s,ys,m,_,p⟩;rw[<- n,XO]at p;exact M ys H s m p
def zhV {a:Addr}{xs:AF}(Pv:Nat->St->Hp->Prop){H:Hp}(h0:Pv 0 σ0 H)(s:∀i c H,i<=xs.length->Pv i c H->SqL K H a xs)
  (u:∀i x T c H,xs[i]?=some x->H T=none->Pv i c H->g (.ref T) c (upd H T (.tup [.int i,x])) fun d l=>tc d l λb h=>if b=true then te d h λy j=>∃ys,j D=some (.lst ys)/\ys.length<Xq/\Pv (i+1) d (upd j D (.lst (ys++[y]))) else Pv (i+1) d h)
  (o:∀ c H,Pv xs.length c H->Q (.ref D) H):xR (Ite K a) g tc te Q D σ0 H:=by
 refine⟨λi m c H=>m=xs.length-i/\i<=xs.length/\Pv i c H,⟨xs.length,by simp,W4 _,h0⟩,?_⟩;rintro i m c H ⟨rfl,r,p⟩;have q:=s i c H r p;by_cases f:i<xs.length
 .refine .inr ⟨⟨xs,q,f⟩,Pv (i+1),fun A k z=>⟨xs.length-(i+1),by lia,rfl,f,z⟩,λx k y=>?_⟩;obtain⟨T,rfl,n,y⟩:=y;obtain⟨v,w,rfl⟩:=y xs q;exact u i v T c H w n p
 .have e:i=xs.length:=by lia
  subst e;exact .inl ⟨⟨xs,q,rfl⟩,o c H p⟩
def xH {i:Nat}{v:V}{c:St}{H:Hp}{A B:St->Hp->Prop}(h:A (c.set i (some v)) H):zay i v c H fun a e=>zlx a e λb d=>if b=true then A a d else B a d:=by
 show if true=true then A (c.set i (some v)) H else B (c.set i (some v)) H
 exact zaA h
def zlB {X:Cx}{e:Expr}:PE X e (λ_ _ _=>False):=λ_ _ _ _ _ _ h=>h.elim
end
theorem zgo {α:Type}(a:Array α):∀(n:Nat) (b:Array α),(WQ n a).foldl (·++·) b=b++((WQ n a.toList).flatten).toArray
 | 0,b=>by simp
 | n+1,b=>by
  rw[VD,V6,zgo a n,VD,WA,Array.append_assoc];congr 1;simp
def zrQ:R2:=λx y H Q=>∃z k,x=.str z/\y=.int k/\1<=k/\k<=1000/\z.length<=1000/\∀a:Str,a.length=z.length*k.toNat->(∀c∈a.cps.toList,c∈z.cps.toList)->Q (.str a) H
section
variable {X:Cx}
def zhW:OpR X (Uk .Mult) zrQ:=by
 intro w s G H x y v u Q I p r h;revert h;refine fq λz k=>e8 λz0 z1 B D o q=>?_;subst z0 z1;obtain⟨t,rfl⟩:=p;obtain⟨E,rfl⟩:=r;have f:z.length*k.toNat<=1000000:=by
  have:=Nat.mul_le_mul o (show k.toNat<=1000 by lia);lia
 refine PySem.P.mul_str ?_ (λ_ _=>?_) (λ_ _=>?_) ?_
 .rw[bf (show ¬ k < -(2^63:Int) by lia),bf (show ¬ k >= 2^63 by lia)];rfl
 .have A:(z.length:Int)*k<=1000000:=by
   have e:((z.length*k.toNat:Nat):Int)=(z.length:Int)*k:=by
    rw[Int.natCast_mul,VC (by lia)]
   lia
  have:=Int.le_ediv_of_mul_le (a:=(z.length:Int)) (b:=2^63-1) (c:=k) (by lia) (by lia);lia
 .exact bf (Nat.not_lt.mpr (X5 f (by decide)))
 .rw[bq (show ¬ k<1 by lia)];by_cases c:(k==1 || z.length==0)=true
  .rw[bw c];refine⟨.str z,H,I,⟨_,rfl⟩,q z ?_ λ_ h=>h⟩;rw[Bool.or_eq_true,beq_iff_eq,beq_iff_eq]at c;rcases c with c | c
   .rw[c];simp
   .rw[c];simp
  .rw[bq c];have e:(⟨(WQ k.toNat z.cps).foldl (·++·) #[]⟩:Str)=⟨((WQ k.toNat z.cps.toList).flatten).toArray⟩:=by
    rw[zgo];simp
   have m:(⟨((WQ k.toNat z.cps.toList).flatten).toArray⟩:Str).length=z.length*k.toNat:=by
    show ((WQ k.toNat z.cps.toList).flatten).toArray.size=_;rw[Xy,len_rep,X6,Po];rfl
   rw[e];refine⟨by rw[m];exact X5 f (by decide),⟨.str _,H,I.tok _,⟨_,rfl⟩,q _ m λd n=>?_⟩⟩;have i:d∈(WQ k.toNat z.cps.toList).flatten:=by simpa using n
   obtain⟨l,j,g⟩:=Wt.mp i;rw[List.eq_of_mem_replicate j]at g;exact g
end
section
variable {X:Cx}{tg iter elt:Expr}{ifs:List Expr}{scope:UC}{pos:Pos}{N:AE}{src:List (Option Nat)}{cl:List (Str×Addr)}{wi:TI}{g:TG}{tc:TT}{te:TE}
def zrR {u:List (Addr×Obj)}{H:St}{D:Ends}{i:Nat}{x:Str}{n:Pos}(hN:X.N.Nodup)(A:X.N[i]?=some x)(l:X.env.scope.names.lookup x=some .local):znQ X N scope u H (some (assign (.Name x n) X.env)) (λ_ B=>∃ q r,Inv X u q r B/\D.nx q r) λv r=>zay i v H r D.nx:=by
 intro cl Y E H2 C I L f fn xe aa hC k s h qn;obtain⟨m,hm,_⟩:=h.loc;have g:E.heap.objs.size<C:=by rw[hC];exact R4 _
 have O:Inv X u H I L:=k.call' (s':=L) (ch:=Y) h.os h.base h.hok h.bare λb j=>⟨(s b j).2.2.2.1,(s b j).2.1,(s b j).2.2.2.2.1,(s b j).2.2.2.2.2⟩;have J:∀b o,E.heap.get? b=some o->b≠C:=λb o e=>Xl (Tr (XD e) g);have a:∀y c,X.env.cells.lookup y=some c->c≠C:=λy c e=>by
  obtain⟨_,o,U,_⟩:=k.cell y c e;exact J c o U
 have d:X.env.locals≠C:=Xl (Tr k.lt g);refine wpAny_assign_Name (zei O hN A (.inl l) (v:=.ref E.heap.objs.size) rfl (λs5 M ⟨Q,G,w⟩=>?_) (.inr l));have na:Q≠C:=w.elim (λz=>by rw[z];exact d) (a _ _);exact⟨m,hm.sameBut G (UQ na),λh' sb=>⟨_,I,M.turned (t':=s5.toks) (it:=C) (λb o j e=>(sb.2 b j).trans e) h.free (UQ d) (.inr (X5 k.sz (Tt g))) a λp hp=>J _ _ (k.pin p hp).1,qn⟩⟩
def zlC {g:List (Addr×Obj)}{s:X7}{x:Str}{a c:Pos}{D:Ends}(f:PM (.ListComp elt [⟨tg,iter,ifs,0⟩] scope pos) (some (.Name x a)) c.line X.env=pure true)
  (h:Xv (Xr X.prog X.w) X.A (Oc (.ListComp elt [⟨tg,iter,ifs,0⟩] scope pos) scope X.env (firstIterPos [⟨tg,iter,ifs,0⟩] pos) (newList []) false (eval iter X.env) (some (assign (.Name x a) X.env))) (λ_ d=>∃ b e,Inv X g b e d/\D.nx b e) X.xe s):Xv (Xr X.prog X.w) X.A (exec (.Assign [.Name x a] (.ListComp elt [⟨tg,iter,ifs,0⟩] scope pos) c) X.env) (SP X g D) X.xe s:=by
 rw[exec_Assign_Name_used _ _ _ _ f];refine ZB (RY (ZB ?_));unfold evalThenUse;exact ZB (Wj h (λ_ d ⟨b,e,i,j⟩=>X0 (X0 ⟨b,e,i,j⟩)) λ_ _ z=>z)
def xJ {i:Nat}{x:Str}{b a:Pos}(k:X.N.Nodup)(e:X.N[i]?=some x)(f:X.env.scope.names.lookup x=some .local)(ok:zW X N src scope cl)(c:X.calm=true)(n:PI X tg iter wi)
  (m:∀C fp d s H,PG (jb X N scope cl C fp d s H) tg g) (l:∀C fp d s H,zdZ (jb X N scope cl C fp d s H) ifs tc) (he:∀C fp d s H,PE (jb X N scope cl C fp d s H) elt te)
  (o:∀x,UZ iter X.env x=pure x:=by intro _;rfl) (j:PM (.ListComp elt [⟨tg,iter,ifs,0⟩] scope pos) (some (.Name x b)) a.line X.env=pure true:=by rfl) :
  PS X (.Assign [.Name x b] (.ListComp elt [⟨tg,iter,ifs,0⟩] scope pos) a) (zpT (zer wi src g tc te) (zay i)):=λ_ _ _ _ _ I h=>zlC j (zgj ok c n m l he o I h (zrR k e f))
end
def zW.byRfl {X:Cx}{N:AE}{src:List (Option Nat)}{a:UC}(g:a.kind=.function)(b:∀y∈a.names,y.2 ≠ .cell)(d:∀y∈a.names,y.2=.local->a.names.lookup y.1=some .local)
  (k:(a.names.all λy=>y.2 != .free || (X.env.cells.lookup y.1).isSome)=true) (len:src.length=N.length)
  (m:((N.zip src).all λq=>match q.2 with | none=>true | some j=>X.N[j]?==some q.1&&X.env.kindOf q.1==some .cell&&(Ua a X.env).names.lookup q.1==some .cell)=true):zW X N src a (zbl (λx=>X.env.cells.lookup x) a.names []):=by
 have f:∀y∈a.names,y.2=.free->(X.env.cells.lookup y.1).isSome=true:=λy l e=>by
  have z:=WT.mp k y l;rw[e]at z;simpa using z
 refine⟨g,b,d,Jb f,λx c h=>?_,λx h=>?_,len,λi j x h1 h2=>?_⟩
 .rcases ZL _ _ _ (WH h) with z | z
  .cases z
  .exact z
 .refine Wa.mp (zcP _ _ (.inr ?_));have hm:(x,UO)∈a.names\/(x,NameKind.free)∈a.names:=by
   rcases h with h | h
   .exact yu (WH h) (.inl rfl)
   .exact yu (WH h) (.inr rfl)
  rcases hm with hm | hm
  .exact absurd rfl (b _ hm)
  .exact⟨hm,f _ hm rfl⟩
 .have hm:(x,some j)∈N.zip src:=X8 (i:=i) (by rw[Ti];exact⟨h1,h2⟩);have z:=WT.mp m _ hm;simp only[Vu,beq_iff_eq]at z;exact⟨z.1.1,.inl z.1.2,.inl z.2⟩
structure Ju (X:Cx)(N:AE)(src:List (Option Nat))(scope:UC)(cl:List (Str×Addr))(y:Str):Prop where
 kind:scope.kind=.function
 one:∀n acc,R7 n scope.names acc=(y,n)::acc
 push:∀h,pushCells h scope.names=h.push { cls:=.type "cell",data:=.cell none }
 names:∀y∈scope.names,y.2=.local->scope.names.lookup y.1=some .local
 clos:N0 scope X.env=pure cl
 sub:∀x c,cl.lookup x=some c->X.env.cells.lookup x=some c
 has:∀x,((Ua scope X.env).names.lookup x=some .cell\/(Ua scope X.env).names.lookup x=some .free)->x=y\/∃c,cl.lookup x=some c
 len:src.length=N.length
 pulls:∀(i j:Nat) (x:Str),N[i]?=some x->src[i]?=some (some j)->X.N[j]?=some x/\(X.env.kindOf x=some .cell\/X.env.kindOf x=some .free)/\((Ua scope X.env).names.lookup x=some .cell\/(Ua scope X.env).names.lookup x=some .free)
 pny:∀(i j:Nat) (x:Str),N[i]?=some x->src[i]?=some (some j)->x≠y
def Ju.has1 {X:Cx}{N:AE}{src:List (Option Nat)}{a:UC}{b:List (Str×Addr)}{y:Str}{C:Addr}(ok:Ju X N src a b y)(x:Str)(h:(Ua a X.env).names.lookup x=some .cell\/(Ua a X.env).names.lookup x=some .free):∃c,RQ x ((y,C)::b)=some c:=by
 rw[Vd];cases q:x==y with
 | true=>exact⟨_,rfl⟩
 | false =>
  rcases ok.has x h with z | z
  .rw[z]at q;simp at q
  .exact z
def Ju.byRfl {X:Cx}{N:AE}{src:List (Option Nat)}{a:UC}{y:Str}(g:a.kind=.function)(one:∀n d,R7 n a.names d=(y,n)::d)(k:∀h,pushCells h a.names=h.push { cls:=.type "cell",data:=.cell none })
  (only:∀z∈a.names,z.2=.cell->z.1=y) (b:∀y∈a.names,y.2=.local->a.names.lookup y.1=some .local)
  (m:(a.names.all λy=>y.2 != .free || (X.env.cells.lookup y.1).isSome)=true) (len:src.length=N.length)
  (p:((N.zip src).all λq=>match q.2 with | none=>true | some j=>X.N[j]?==some q.1&&X.env.kindOf q.1==some .cell&&(Ua a X.env).names.lookup q.1==some .cell&&q.1 != y)=true):Ju X N src a (zbl (λx=>X.env.cells.lookup x) a.names []) y:=by
 have f:∀y∈a.names,y.2=.free->(X.env.cells.lookup y.1).isSome=true:=λy o e=>by
  have z:=WT.mp m y o;rw[e]at z;simpa using z
 have l:∀(i j:Nat) (x:Str),N[i]?=some x->src[i]?=some (some j)->(X.N[j]?=some x/\X.env.kindOf x=some .cell/\(Ua a X.env).names.lookup x=some .cell)/\x≠y:=λi j x h1 h2=>by
  have hm:(x,some j)∈N.zip src:=X8 (i:=i) (by rw[Ti];exact⟨h1,h2⟩);have z:=WT.mp p _ hm;simp only[Vu,beq_iff_eq,bne_iff_ne]at z;exact⟨⟨z.1.1.1,z.1.1.2,z.1.2⟩,z.2⟩
 refine⟨g,one,k,b,Jb f,λx c h=>?_,λx h=>?_,len,λi j x h1 h2=>⟨(l i j x h1 h2).1.1,.inl (l i j x h1 h2).1.2.1,.inl (l i j x h1 h2).1.2.2⟩,λi j x h1 h2=>(l i j x h1 h2).2⟩
 .rcases ZL _ _ _ (WH h) with z | z
  .cases z
  .exact z
 .have hm:(x,UO)∈a.names\/(x,NameKind.free)∈a.names:=by
   rcases h with h | h
   .exact yu (WH h) (.inl rfl)
   .exact yu (WH h) (.inr rfl)
  rcases hm with hm | hm
  .exact .inl (only _ hm rfl)
  .exact .inr (Wa.mp (zcP _ _ (.inr ⟨hm,f _ hm rfl⟩)))
def Zl (X:Cx)(N:AE)(a:UC)(c:List (Str×Addr))(y:Str)(C:Addr)(fp:List Addr)(b:List (Addr×Obj))(s:X7)(H:Hp):Cx :=
 { jb X N a ((y,C+1)::c) C fp b s H with fn:=λx=>decide (x=y) }
def znU {M:NX}{A:WN}{E:X9->X7->Prop}{s:X7}{a:UC}{b:Addr}{j:List (Str×Addr)}{c:Str}{e:Env}{y:Str}{Q:Env->X7->Prop}(one:∀n d,R7 n a.names d=(y,n)::d)(g:∀h,pushCells h a.names=h.push { cls:=.type "cell",data:=.cell none })
  (l:Q (newEnv a s.heap.objs.size b ((y,s.heap.objs.size+1)::j) c none .none (some e) Rw) { s with heap:=(s.heap.push { cls:=.type "dict",data:=.dict #[] }).push { cls:=.type "cell",data:=.cell none } }) :
  Xv M A (newFunctionEnv a b j [] c none .none (some e)) Q E s:=by
 simp only[newFunctionEnv,Option.isSome_some,if_true];refine ZB (wpAny_alloc ?_);refine ZB (wpAny_layCells _ (λk f i=>by cases hkc:f==UO<;>simp[hkc]) _ _ _ _ ?_);rw[g,one,show ({ s with heap:=s.heap.push { cls:=.type "dict",data:=.dict #[] } }:X7).heap.objs.size=s.heap.objs.size+1 from U5 ..];exact ZB (X0 (X0 l))
section
variable {X:Cx}{tg iter elt:Expr}{ifs:List Expr}{scope:UC}{pos:Pos}{N:AE}{src:List (Option Nat)}{cl:List (Str×Addr)}{wi:TI}{g:TG}{tc:TT}{te:TE}{y:Str}
def zgp {B:List (Addr×Obj)}{L:St}{H:Hp}{s:X7}{fp:List Addr}{h1:Heap}{C:Addr}{tk:Nat}(ok:Ju X N src scope cl y)(I:Inv X B L H s)(O:∀b∈fp,QU X B H b)(ho:∀b∈fp,∃o,s.heap.get? b=some o)
  (D:C=s.heap.objs.size+1) (k:∀b u,s.heap.get? b=some u->h1.get? b=some u) (hD:h1.get? s.heap.objs.size=some { cls:=.type "list",data:=.seq #[] }) {m:Str->Option X9} (hn:h1.Ns C m) (aa:h1.IsCell (C+1) none) :
  Inv (Zl X N scope cl y C fp B s H) [] (pull src L) (upd H s.heap.objs.size (.lst [])) { s with heap:=h1,toks:=tk }:=by
 have lt:∀b o,s.heap.get? b=some o->b<s.heap.objs.size:=λb o e=>XD e;have nC:∀b o,s.heap.get? b=some o->b≠C:=λb o e=>by rw[D];exact Xl (Ww (lt b o e))
 have nD:∀b o,s.heap.get? b=some o->b≠s.heap.objs.size:=λb o e=>Xl (lt b o e);have Y:∀b,s.heap.objs.size<=b->H b=none:=λb h=>I.hok.fresh h;have J:∀b,b≠X.env.locals->b ∉ X.fs->b ∉ frs X.stack:=λb h1 h2 z=>(XH.mp (I.stkSub b z)).elim h1 h2;have G:∀b o,s.heap.get? b=some o->b≠C+1:=λb o e=>by rw[D];exact Xl (Ww (Ww (lt b o e)))
 have own:∀x c,RQ x ((y,C+1)::cl)=some c->(x=y/\c=C+1)\/(x≠y/\X.env.cells.lookup x=some c):=λx c e=>by
  rw[Vd]at e;cases q:x==y with
  | true =>
   rw[q]at e;exact .inl ⟨by simpa using q,(Option.some.inj e).symm⟩
  | false =>
   rw[q]at e;exact .inr ⟨by simpa using q,ok.sub x c e⟩
 have n:∀x c,X.env.cells.lookup x=some c->c≠C+1:=λx c e=>by
  obtain⟨_,o,f,_⟩:=I.cell x c e;exact G c o f
 refine⟨⟨I.ok.mod,ok.kind,I.ok.glob,I.ok.blt,by rw[show (Zl X N scope cl y C fp B s H).env.locals=C from rfl,D];exact V9 _,?inj,ok.has1,?cab,I.ok.hd,I.ok.frames,.inl rfl,λb h=>?_,I.bs,X5 I.ok.bsz I.sz,λb o e h=>?_,λb h hz=>?_,I.stack,I.stkFree⟩,rfl,I.bare,Un.laid k (XV _) (Y _ (XV _)),⟨m,hn,λi x v f d e3=>?_⟩,λx c e=>?_,?_,λx c e=>?_,λp hp=>?_,I.hok.laid k (XV _) ⟨W4 _,[],0,.nil,hD⟩,?_⟩
 case inj =>
  intro x Q c f d
  rcases own x c f with ⟨w,a⟩ | ⟨w,a⟩
  .rcases own Q c d with ⟨M,A⟩ | ⟨M,A⟩
   .rw[w,M]
   .exact absurd a (n Q c A)
  .rcases own Q c d with ⟨M,A⟩ | ⟨M,A⟩
   .exact absurd A (n x c a)
   .exact I.ok.inj x Q c a A
 case cab =>
  intro x c z e
  have zy:x=y:=bg z
  rcases own x c e with ⟨_,a⟩ | ⟨w,_⟩
  .rw[a,D];exact Uz (V9 _)
  .exact absurd zy w
 .obtain⟨o,e⟩:=ho b h;refine⟨nC b o e,λx c z=>?_⟩;rcases own x c z with ⟨_,a⟩ | ⟨_,a⟩
  .rw[a];exact UQ (G b o e)
  .exact(O b h).2.2.2.2.1 x c a
 .rcases(O b h).2.2.2.1 with z | z
  .exact I.ok.noex b o e z
  .exact absurd (Xd (XD (I.ok.bs b o e).1) z) (VA _)
 .exact J b (O b h).2.1 (O b h).2.2.1 hz
 .have hi:i<src.length:=by
   have:=(XZ.mp d).1;unfold pull at this;rw[Y1]at this;exact this
  unfold pull at d;rw[Xw,X2 hi]at d;cases q:src[i] with
  | none=>rw[q]at d;cases d
  | some j =>
   rw[q]at d;have g:(L[j]?).getD none=some v:=Option.some.inj d;have U:L[j]?=some (some v):=by
    cases z:L[j]? with
    | none=>rw[z]at g;cases g
    | some o=>rw[z]at g;exact congrArg some g
   obtain⟨p1,p2,p3⟩:=ok.pulls i j x f (by rw[X2 hi,q]);obtain⟨m',af,hl⟩:=I.loc;obtain⟨u,r,l⟩:=hl j x v p1 U (by
    rcases p2 with z | z
    .exact .inr (.inl z)
    .exact .inr (.inr z))
   refine⟨u,r,.inr ⟨p3,?_⟩⟩;obtain⟨c,hc⟩:=ok.has1 x p3;refine⟨c,hc,?_⟩;rcases l with ⟨z,_⟩ | ⟨_,c',E,o,ac,ab⟩
   .rcases p2 with y | y<;>rw[z]at y<;>cases y
   .rcases own x c hc with ⟨w,_⟩ | ⟨_,a⟩
    .exact absurd w (ok.pny i j x f (by rw[X2 hi,q]))
    .rw[a]at E;cases E;exact⟨o,k _ o ac,ab⟩
 .rcases own x c e with ⟨_,a⟩ | ⟨_,a⟩
  .rw[a];exact⟨_,aa⟩
  .obtain⟨v,o,f,d⟩:=I.cell x c a;exact⟨v,o,k c o f,d⟩
 .show upd H s.heap.objs.size (.lst []) C=none;rw[D,zp (Ve _)];exact Y _ (V9 _)
 .show upd H s.heap.objs.size (.lst []) c=none;rcases own x c e with ⟨_,a⟩ | ⟨_,a⟩
  .rw[a,D,zp (Va (Ww (R4 _)))];exact Y _ (Uz (V9 _))
  .obtain⟨v,o,f,d⟩:=I.cell x c a;rw[zp (nD c o f)];exact I.freeC x c a
 .have ae:p∈X.pn++B:=by
   have:p∈(X.pn++B)++[]:=hp;simpa using this
  obtain⟨f,d,e3,U,e5⟩:=I.pin p ae;refine⟨k _ _ f,?_,nC _ _ f,J _ e3 U,e5⟩;show upd H s.heap.objs.size (.lst []) p.1=none;rw[zp (nD _ _ f)];exact d
 .unfold pull;rw[Y1];exact ok.len
section
variable {bz:List (Addr×Obj)}{σ:St}{H:Hp}{s:X7}{use:Option (X9->Sem Unit)}{R:X9->X7->Prop}{Q:VK}{p2:Pos}
def zke (ok:Ju X N src scope cl y)(a:X.calm=true)(r:PI X tg iter wi)
  (p:∀C fp bz s H,PG (Zl X N scope cl y C fp bz s H) tg g) (o:∀C fp bz s H,zdZ (Zl X N scope cl y C fp bz s H) ifs tc) (he:∀C fp bz s H,PE (Zl X N scope cl y C fp bz s H) elt te)
  (B:∀x,UZ iter X.env x=pure x) (I:Inv X bz σ H s) (h:zer wi src g tc te σ H Q) (i:znQ X N scope bz σ use R Q):Xv (Xr X.prog X.w) X.A (Oc (.ListComp elt [⟨tg,iter,ifs,0⟩] scope pos) scope X.env p2 (newList []) false (eval iter X.env) use) R X.xe s:=by
 refine S8 (use:=use) rfl B ok.clos ok.kind ok.names (thn (r bz s σ H _ I h) λU s1 h1=>thn h1 λD k h2=>?_);revert h2;refine fD λM fp O J L=>e8 λe d T l f E=>?_;subst e;refine Wl (znU ok.one ok.push ?_);generalize hP:k.heap.push { cls:=.type "list",dict:=none,data:=.seq ([]:List X9).toArray }=P2;have j:P2.objs.size=k.heap.objs.size+1:=by rw[<- hP,U5]
 have m:(P2.push { cls:=.type "dict",data:=.dict #[] }).objs.size=P2.objs.size+1:=U5 ..;refine zgi j a (λz=>z.elim) (p _ _ _ _ _) (o _ _ _ _ _) (he _ _ _ _ _) d T l f (E _ (d.hok.fresh (XV _))) (λb u e=>?_) (λx c z=>?_) (λv=>zgp (tk:=k.toks) ok d f v j (λb u e=>?_) ?_ ((Heap.Ns.new P2 _).push _) ?_) λ_ _ _ _ n G=>i j d f n G
 .exact X4 _ (X4 _ (hP ▸ X4 _ e))
 .show _\/P2.objs.size<=c;have z:RQ x ((y,P2.objs.size+1)::cl)=some c:=z;rw[Vd]at z;cases q:x==y with
  | true =>
   rw[q]at z;rw[<- Option.some.inj z];exact .inr (V9 _)
  | false =>
   rw[q]at z;exact .inl (ok.sub x c z)
 .exact X4 _ (X4 _ (hP ▸ X4 _ e))
 .exact X4 _ (X4 _ (hP ▸ Xs _ rfl))
 .rw[<- m];exact⟨_,Xs _ rfl,rfl⟩
end
def zgq (ok:Ju X N src scope cl y)(a:X.calm=true)(e:PI X tg iter wi)
  (d:∀C fp b s H,PG (Zl X N scope cl y C fp b s H) tg g) (c:∀C fp b s H,zdZ (Zl X N scope cl y C fp b s H) ifs tc) (he:∀C fp b s H,PE (Zl X N scope cl y C fp b s H) elt te)
  (f:∀x,UZ iter X.env x=pure x:=by intro _;rfl):PE X (.ListComp elt [⟨tg,iter,ifs,0⟩] scope pos) (zer wi src g tc te):=λ_ _ _ _ _ I h=>zke ok a e d c he f I h zpe
end
section
variable {X:Cx}{K:XW}
def zes (a:X.K=K)(b:X.calm=true):jr X (.builtin "any") (λxs H Q=>∃(l:Addr) (bs:List Bool),xs=[.ref l]/\SqL K H l (bs.map V.bl)/\Q (.bl (bs.any id)) H):=by
 subst a;exact zgn b
def zcR {c l:Expr}{tl:TE}(a:X.K=K)(b:PE X l tl):PI X c l (zpc K tl):=by
 subst a;exact zO b
end
theorem zet:∀{b:AE} {a:List X9},Vals (b.map V.str) a->StrsAre a b
 | [],_,.nil=>.nil
 | t::_,_,.cons ⟨k,e⟩ h=>by
  subst e;exact .cons t k (zet h)
section
variable {X:Cx}
def rJoin (K:XW):V->AF->Hp->VK->Prop:=λx b H Q=>∃(z:Str) (l:Addr) (a:AE),x=.str z/\b=[.ref l]/\SqL K H l (a.map V.str)/\(a.map (·.length)).sum+a.length*z.length<=16777216/\Q (.str (T0 z a)) H
def znV:MtR X "str.join" (rJoin X.K):=by
 intro j s y H x w v o Q I g f h;obtain⟨z,l,a,rfl,rfl,d,b,q⟩:=h;obtain⟨n,rfl⟩:=g;obtain⟨u,rfl,r⟩:=f.one;cases r;obtain⟨e,c,p,m⟩:=I.list d;refine join_list (ys:=a) p.isList (by simpa using zet c) b λi k=>⟨.str (T0 z a),H,I.tok k,⟨i,?_⟩,q⟩;rw[show Txt.join z a=T0 z a from StrLaws.glued_eq_join z a]
end
def zhX {α:Type}(d:α)(xs:List α):((Wc xs.length).map λi=>xs.getD i d)=xs:=by
 refine List.ext_getElem (by simp) λi h1 h2=>?_;simp[h2]
def zja (p:Int×Int):lt2 p p=false:=by
 unfold lt2;rw[bw rfl,bf (by lia)]
def zcn {p q:Int×Int}(h:p≠q):lt2 q p=!lt2 p q:=by
 unfold lt2;obtain⟨a,b⟩:=p;obtain⟨c,d⟩:=q;simp only;by_cases e:a=c
 .subst e;rw[bw rfl,bw rfl];have f:b≠d:=λz=>h (by rw[z]);by_cases l:b<d
  .rw[br l,bf (by lia)];rfl
  .rw[bf l,br (by lia)];rfl
 .rw[bq e,bq (λz=>e z.symm)];by_cases l:a<c
  .rw[br l,bf (by lia)];rfl
  .rw[bf l,br (by lia)];rfl
def zhY {p q r:Int×Int}(h1:lt2 p q=true)(h2:lt2 q r=true):lt2 p r=true:=by
 unfold lt2 at *
 obtain⟨a,b⟩:=p;obtain⟨c,d⟩:=q;obtain⟨e,f⟩:=r;simp only at *
 by_cases h:a=c
 .subst h;rw[bw rfl,bu]at h1;by_cases g:a=e
  .subst g;rw[bw rfl,bu]at h2 ⊢;lia
  .rw[bq g]at h2 ⊢;exact h2
 .rw[bq h,bu]at h1;by_cases g:c=e
  .subst g;rw[bq h,bu];exact h1
  .rw[bq g,bu]at h2;rw[bq (by lia),bu];lia
def Up2 (ps:List (Int×Int)):Prop:=ps.Pairwise λp q=>lt2 p q=true
end L2
namespace PySem.SeqAt
open L2 AutoSeq1 MeetsSeq MeetsSeq2 MeetsSeq3
def zae (A:WN)(s:X7)(y x:X9)(b:Bool):Prop:=∀(a:Xm) (w:W1) (E:X9->X7->Prop) (Q:X9->X7->Prop),Q (.bool b) s->Xv (Xr a w) A (richCompare .Lt y x) Q E s
def zae.int_int {A:WN}{s:X7}(a:Int)(t:Tok)(b:Int)(u:Tok):zae A s (.int a t) (.int b u) (decide (a<b)):=λc w E Q h=>wpAny_lt_int h
def zhZ (l b:Addr)(x y f c:Int)(t u k m:Tok)(n z:Nat)(p g:Option Addr)(D j:Array (Option X9)) :
  Meets (UG.«tuple.__lt__» ⟨[.ref l,.ref b],[]⟩)
   (λ_ R s=>s.heap.get? l=some { cls:=.type "tuple",dict:=p,data:=.seq #[.int x t,.int y u] n,slots:=D }/\s.heap.get? b=some { cls:=.type "tuple",dict:=g,data:=.seq #[.int f k,.int c m] z,slots:=j } /\
    R (.ok (.ret (.bool (lt2 (x,y) (f,c))))) s) :=
 .of_wp λa w A R s h=>by
  obtain⟨v,I,G,E,B⟩:=s;obtain⟨r,q,h⟩:=h;have H:=sub_tuple_tuple;wp_walk using V7 r,V7 q;refine EqAt.int_int x t f k a w _ _ ?_;unfold lt2 at h;by_cases e:x=f
  .have i:(x==f)=true:=by simpa using e
   rw[i];rw[bw e]at h;wp_walk;refine EqAt.int_int y u c m a w _ _ ?_;by_cases o:y=c
   .have d:(y==c)=true:=by simpa using o
    rw[d];rw[bf (by show ¬ y<c;lia)]at h;wp_walk;exact⟨_,rfl,h⟩
   .have d:(y==c)=false:=by simpa using o
    rw[d];simp only[Bool.not_false,if_true];refine ZB (UM (ZB (zae.int_int y u c m a w _ _ ?_)));wp_walk;exact⟨_,rfl,h⟩
  .have i:(x==f)=false:=by simpa using e
   rw[i];rw[bq e]at h;simp only[Bool.not_false,if_true];refine ZB (UM (ZB (zae.int_int x t f k a w _ _ ?_)));wp_walk;exact⟨_,rfl,h⟩
def zae.pairs {A:WN}{s:X7}{v r:X9}{p q:Int×Int}(G:zH s.heap v p)(f:zH s.heap r q)(D:A.units<Vt):zae A s v r (lt2 p q):=λo w E Q h=>by
 obtain⟨a,⟨z,B,l,I⟩,n,t,u,rfl,m,i,k⟩:=G;obtain⟨y,⟨j,e,data2,g⟩,H,J,L,rfl,d,b,c⟩:=f;simp only at i k b c;subst i k b c;exact richCompare_meets_room (op:=.Lt) ⟨_,m,rfl⟩ ⟨_,d,rfl⟩ F.slot_tuple_lt F.entry_tuple_lt (F.args_tuple_lt_2 _ _) (zhZ a y p.1 p.2 q.1 q.2 t u J L n H B e I g)
  ⟨m,d,show N2 (lt2 p q)≠Value.notImplemented/\Q (.bool (lt2 p q)) s from ⟨(λx=>nomatch x),h⟩⟩ D
def QX {h:Heap}{v:X9}{p:Int×Int}(e:zH h v p):∃as,Reads h v (.tuple [.int p.1,.int p.2]) as:=by
 obtain⟨a,o,n,t,u,rfl,d,b,c⟩:=e;exact⟨_,.tuple d b c (.cons (.int _ _) (.cons (.int _ _) .nil))⟩
def zeu (p q:Int×Int):W5 (.tuple [.int p.1,.int p.2]) (.tuple [.int q.1,.int q.2])=decide (p=q):=by
 obtain⟨a,b⟩:=p;obtain⟨c,d⟩:=q;show ((a==c)&&((b==d)&&true))=_;by_cases h1:a=c
 .by_cases h2:b=d
  .subst h1 h2;simp
  .simp[h2]
 .simp[h1]
end PySem.SeqAt
namespace L2
open PySem PySem.Spec PyProof.Rows PySem.W PySem.SeqAt
open PySem PySem.Spec PyProof.Rows
section
variable {κ:Type} [DecidableEq κ]
def jo (a:List (κ × V))(k:κ):Option V:=(a.find? λb=>decide (b.1=k)).map (·.2)
def putK (a:List (κ × V))(k:κ)(v:V):List (κ × V) :=
 if (a.any λb=>decide (b.1=k))=true then a.map (λb=>if b.1=k then (b.1,v) else b) else a++[(k,v)]
def jN {p:κ × V}{r:List (κ × V)}{k:κ}(e:p.1=k):jo (p::r) k=some p.2:=by simp[jo,TY,e]
def jO {p:κ × V}{r:List (κ × V)}{k:κ}(e:¬ p.1=k):jo (p::r) k=jo r k:=by simp[jo,TY,e]
theorem Y5 (k:κ):∀a:List (κ × V),(a.any λb=>decide (b.1=k))=(jo a k).isSome
 | []=>rfl
 | p::r=>by
  rw[Oa];by_cases e:p.1=k
  .simp only[jN e,br e,Bool.true_or,Option.isSome_some]
  .rw[jO e,bf e,Bool.false_or];exact Y5 k r
theorem zgr (k j:κ)(y:V):∀a:List (κ × V),jo (a.map λb=>if b.1=k then (b.1,y) else b) j=(jo a j).map λx=>if j=k then y else x
 | []=>rfl
 | p::r=>by
  have c:=zgr k j y r;rw[Xo];by_cases h:p.1=k
  .rw[bw h];by_cases e:p.1=j
   .rw[jN (p:=(p.1,y)) e,jN e,TX,bw (e.symm.trans h)]
   .rw[jO (p:=(p.1,y)) e,jO e,c]
  .rw[bq h];by_cases e:p.1=j
   .rw[jN (p:=p) e,jN e,TX,bq (λz=>h (e.trans z))]
   .rw[jO (p:=p) e,jO e,c]
theorem zew (k j:κ)(y:V):∀a:List (κ × V),jo a k=none->jo (a++[(k,y)]) j=if j=k then some y else jo a j
 | [],_=>by
  by_cases e:k=j
  .rw[bw e.symm];exact jN (p:=(k,y)) e
  .rw[bq (λz=>e z.symm)];exact jO (p:=(k,y)) e
 | p::r,b=>by
  rw[PF];have hk:¬ p.1=k:=λz=>by rw[jN z]at b;cases b
  rw[jO hk]at b;have c:=zew k j y r b;by_cases e:p.1=j
  .rw[jN e,jN e,bq (λz=>hk (e.trans z))]
  .rw[jO e,jO e,c]
def ZN (b:List (κ × V))(k j:κ)(y:V):jo (putK b k y) j=if j=k then some y else jo b j:=by
 unfold putK;by_cases a:(b.any λd=>decide (d.1=k))=true
 .rw[bw a,zgr];rw[Y5]at a;by_cases e:j=k
  .obtain⟨x,c⟩:=Wa.mp a;rw[bw e,e,c,TX,bw rfl]
  .rw[bq e];cases jo b j with
   | none=>rfl
   | some x=>rw[TX,bq e]
 .rw[bq a];refine zew k j y b ?_;rw[Y5]at a;cases q:jo b k with
  | none=>rfl
  | some x=>rw[q]at a;exact(a rfl).elim
def Y6 (a:List (κ × V))(k:κ)(v:V):(putK a k v).length<=a.length+1:=by
 unfold putK;split
 .rw[Y1];lia
 .rw[XU,Xx,UD];lia
def zbf.isSome_eq {o:Option V}{u:Option X9}(r:zbf o u):o.isSome=u.isSome:=by
 cases o with
 | none=>cases u with
  | none=>rfl
  | some _=>exact(show False from r).elim
 | some _=>cases u with
  | none=>exact(show False from r).elim
  | some _=>rfl
theorem zbf.getD {o:Option V}{u:Option X9}{d:V}{d':X9}(r:zbf o u)(a:RelV d d'):RelV (o.getD d) (u.getD d'):=by
 cases o with
 | none=>cases u with
  | none=>exact a
  | some _=>exact(show False from r).elim
 | some _=>cases u with
  | none=>exact(show False from r).elim
  | some _=>exact r
def KV.val {a:List (κ × V)}{vs:List (κ × X9)}(r:KV a vs)(k:κ):zbf (jo a k) (Op vs k):=by
 unfold KV at r;induction r with
 | nil=>exact TB
 | @cons p q g d h t f =>
  obtain⟨h1,h2⟩:=h;by_cases e:p.1=k
  .have c:q.1=k:=h1.symm.trans e;have b:Op (q::d) k=some q.2:=by simp[Op,TY,c]
   rw[jN e,b];exact h2
  .have c:¬ q.1=k:=λz=>e (h1.trans z);have b:Op (q::d) k=Op d k:=by simp[Op,TY,c]
   rw[jO e,b];exact f
theorem KV.any {a:List (κ × V)}{vs:List (κ × X9)}(r:KV a vs)(k:κ):(a.any λb=>decide (b.1=k))=vs.any λb=>decide (b.1=k):=by
 unfold KV at r;induction r with
 | nil=>rfl
 | cons h t c=>rw[Oa,Oa,c,h.1]
def KV.repl {b:List (κ × V)}{vs:List (κ × X9)}(r:KV b vs)(k:κ){y:V}{u:X9}(d:RelV y u) :
  KV (b.map λa=>if a.1=k then (a.1,y) else a) (vs.map λa=>if a.1=k then (a.1,u) else a):=by
 unfold KV at r ⊢;induction r with
 | nil=>exact .nil
 | @cons p q f g h t c =>
  rw[Xo,Xo];refine .cons ?_ c;obtain⟨h1,h2⟩:=h;by_cases e:p.1=k
  .rw[bw e,bw (h1.symm.trans e)];exact⟨h1,d⟩
  .rw[bq e,bq (λz=>e (h1.trans z))];exact⟨h1,h2⟩
def KV.put {a:List (κ × V)}{vs:List (κ × X9)}(r:KV a vs)(k:κ){y:V}{u:X9}(b:RelV y u):KV (putK a k y) (stored vs k u):=by
 unfold putK stored;rw[r.any k];by_cases e:(vs.any λc=>decide (c.1=k))=true
 .rw[bw e,bw e];exact r.repl k b
 .rw[bq e,bq e];exact Paired.snoc r ⟨rfl,b⟩
theorem KV.length {a:List (κ × V)}{vs:List (κ × X9)}(r:KV a vs):a.length=vs.length:=Paired.length r
end
def zjb {P:Xm}{w:W1}{k:Key}{u:X9}(r:RelV (kV k) u):(qb P w).is k u=true:=by
 cases k with
 | inl i=>obtain⟨t,e⟩:=(show ∃t,u=Vj i t from r);subst e;exact zf4 P w i t
 | inr x=>obtain⟨t,e⟩:=(show ∃t,u=NI x t from r);subst e;exact zf5 P w x t
theorem zex {P:Xm}{w:W1}:∀{ks:List Key} {a:List X9},Vals (ks.map kV) a->ItemsAre (qb P w) ks a
 | [],_,r=>by rw[NR]at r;cases r;exact .nil
 | k::ks,_,r=>by
  rw[Xo]at r;cases r with
  | cons h t=>exact .cons (zjb h) (zex t)
abbrev KT (H:Hp):List (List Key×V)->List (List Key×Addr×X9)->Prop:=W2 λp q=>p.1=q.1/\H q.2.1=some (.tup (p.1.map kV))/\RelV p.2 q.2.2
def KT.val {H:Hp}{a:List (List Key×V)}{xs:List (List Key×Addr×X9)}(r:KT H a xs)(k:List Key):zbf (jo a k) ((Oe xs k).map (·.2)):=by
 induction r with
 | nil=>exact TB
 | @cons p q g d h t f =>
  obtain⟨h1,_,h2⟩:=h;by_cases e:p.1=k
  .have c:q.1=k:=h1.symm.trans e;have b:Oe (q::d) k=some q.2:=by simp[Oe,TY,c]
   rw[jN e,b];exact h2
  .have c:¬ q.1=k:=λz=>e (h1.trans z);have b:Oe (q::d) k=Oe d k:=by simp[Oe,TY,c]
   rw[jO e,b];exact f
def KT.repl {H:Hp}{a:List (List Key×V)}{xs:List (List Key×Addr×X9)}(r:KT H a xs)(k:List Key){y:V}{u:X9}(f:RelV y u) :
  KT H (a.map λb=>if b.1=k then (b.1,y) else b) (xs.map (putAt k u)):=by
 induction r with
 | nil=>exact .nil
 | @cons p q g i h t d =>
  rw[Xo,Xo];refine .cons ?_ d;obtain⟨h1,h2,c⟩:=h;unfold putAt;by_cases e:p.1=k
  .rw[bw e,bw (h1.symm.trans e)];exact⟨h1,h2,f⟩
  .rw[bq e,bq (λz=>e (h1.trans z))];exact⟨h1,h2,c⟩
def KT.put {H:Hp}{a:List (List Key×V)}{xs:List (List Key×Addr×X9)}(r:KT H a xs)(k:List Key){b:Addr}{y:V}{u:X9}(d:H b=some (.tup (k.map kV)))(c:RelV y u) :
  KT H (putK a k y) (Um xs k b u):=by
 have e:(a.any λf=>decide (f.1=k))=(Oe xs k).isSome:=by
  rw[Y5,(r.val k).isSome_eq,Option.isSome_map]
 unfold putK Um;rw[e];by_cases q:(Oe xs k).isSome=true
 .rw[bw q,bw q];exact r.repl k c
 .rw[bq q,bq q];exact Paired.snoc r ⟨rfl,d,c⟩
def KT.keeps {H c:Hp}{a:List (List Key×V)}{xs:List (List Key×Addr×X9)}(r:KT H a xs)(d:∀b ys,H b=some (.tup ys)->c b=some (.tup ys)):KT c a xs :=
 Paired.mapP r λ_ _ z=>⟨z.1,d _ _ z.2.1,z.2.2⟩
section
variable {P:Xm}{w:W1}{H:Hp}{h:Heap}{a:Addr}
def zpf {u:HO}(ok:HOk P w H h)(e:Rd H a u):qP P w H h a u:=e.ok ok
def zgs {b:List (Key×V)}(ok:HOk P w H h)(e:Rd H a (.dK b)):b.length<=Xq/\(a==VE)=false/\∃vs,KV b vs/\h.DictOf (qb P w) a vs :=
 show qP P w H h a (.dK b) from zpf ok e
def zrS {b:List (Key×V)}(ok:HOk P w H h)(e:H a=some (.dK b)):b.length<=Xq/\(a==VE)=false/\∃vs,KV b vs/\h.DictOf (qb P w) a vs:=zgs ok (.inl e)
def zcS {ks:List Key}(ok:HOk P w H h)(e:H a=some (.tup (ks.map kV))):(VM (qb P w)).is h ks a:=by
 obtain⟨_,b,r,o,h1,h2,n,c⟩:=(show qP P w H h a (.tup (ks.map kV)) from ok a _ e);exact⟨o,b.toArray,n,h1,h2,c,by simpa using zex r⟩
def zgt {b:List (List Key×V)}(ok:HOk P w H h)(e:Rd H a (.dT b)):b.length<=Xq/\(a==VE)=false /\
  ∃xs,KT H b xs/\h.DictOfH (VM (qb P w)) a xs:=by
 refine fB (λz y xs r=>eX λo f d h1 h2 g i j=>?_) (show qP P w H h a (.dT b) from zpf ok e);refine⟨z,y,xs,r,o,f,d,h1,h2,g,i,λx hx=>?_,j⟩;have all:∀{l:List (List Key×V)} {m:List (List Key×Addr×X9)},KT H l m->∀x∈m,(VM (qb P w)).is h x.1 x.2.1:=by
  intro l m q;induction q with
  | nil=>intro x hx;exact nomatch hx
  | @cons p q n s c t k =>
   intro x hx;rcases XH.mp hx with e | hx
   .subst e;exact zcS ok (by rw[<- c.1];exact c.2.1)
   .exact k x hx
 exact all r x hx
def zpg {b:List (List Key×V)}(ok:HOk P w H h)(e:H a=some (.dT b)):b.length<=Xq/\(a==VE)=false /\
  ∃xs,KT H b xs/\h.DictOfH (VM (qb P w)) a xs:=zgt ok (.inl e)
end
def zcb (H:Hp)(a:Addr)(y:V)(r:Option V):Prop :=
 (∃c k,Rd H a (.dK c)/\y=kV k/\r=jo c k)\/∃c k b,Rd H a (.dT c)/\y=.ref b/\H b=some (.tup (k.map kV))/\r=jo c k
def zgu (H:Hp)(a:Addr)(y v:V)(d:Hp):Prop :=
 (∃c k,H a=some (.dK c)/\y=kV k/\c.length<Xq/\d=upd H a (.dK (putK c k v))) \/
 ∃c k b,H a=some (.dT c)/\y=.ref b/\H b=some (.tup (k.map kV))/\c.length<Xq/\d=upd H a (.dT (putK c k v))
def zcb.t {H:Hp}{a b:Addr}{c:List (List Key×V)}{k:List Key}(e:H a=some (.dT c))(d:H b=some (.tup (k.map kV))):zcb H a (.ref b) (jo c k):=.inr ⟨c,k,b,.inl e,rfl,d,rfl⟩
def zgu.t {H:Hp}{a b:Addr}{c:List (List Key×V)}{k:List Key}{v:V}(e:H a=some (.dT c))(d:H b=some (.tup (k.map kV)))(f:c.length<Xq) :
  zgu H a (.ref b) v (upd H a (.dT (putK c k v))):=.inr ⟨c,k,b,e,rfl,d,f,rfl⟩
section
variable {X:Cx}{bz:List (Addr×Obj)}{σ:St}{H:Hp}{s:X7}{a:Addr}{y v:V}{u r:X9}{o:Option V}{A:WN}{E:X9->X7->Prop}
def Inv.big (I:Inv X bz σ H s):VE<s.heap.objs.size:=by
 have h:XR<s.heap.objs.size:=(I.mod.glob.keeps I.bk).lt;exact Tr (by decide) h
def zkf {Q:X9->X7->Prop}(G:A.units+1<Vt)(I:Inv X bz σ H s)(g:zcb H a y (some v))(r:RelV y u)(h:∀f s',Inv X bz σ H s'->RelV v f->Q f s') :
  Xv (Xr X.prog X.w) A (Ot (.ref a) u) Q E s:=by
 rcases g with ⟨q,k,e,j,l⟩ | ⟨q,k,b,e,j,x,l⟩
 .subst j;obtain⟨z,B,J,c,i⟩:=zgs I.hok e;obtain⟨f,n,d⟩:=zbf.some_of (v:=v) (o:=Op J k) (by rw[l];exact c.val k);exact wpAny_getItem_of (zjb r) i.mapOf n (h f _ (I.tok _) d)
 .subst j;cases (show u=WO b from r);obtain⟨z,B,L,c,i⟩:=zgt I.hok e;obtain⟨f,n,d⟩:=zbf.some_of (v:=v) (o:=(Oe L k).map (·.2)) (by rw[l];exact c.val k);obtain⟨p,D,m⟩:=Pf.mp n;refine wpAny_getItem_heap (Rq G) (zcS I.hok x) i D ?_;rw[m];exact h f _ (I.tok _) d
def zjc {h':Heap}{t':Nat}{ob:HO}(I:Inv X bz σ H s)(f:Mut (H a))(d:V8 a s.heap h')(he:∃q,h'.get? a=some q)(new:qP X.prog X.w (upd H a ob) h' a ob) :
  Inv X bz σ (upd H a ob) { s with heap:=h',toks:=t' } :=
 I.write (x:=a) (e:=a) f (.inl rfl) (λb q c z=>(d.2 b c).trans z) he new
def zh0 {P:Xm}{w:W1}{d:Hp}{h':Heap}{b:List (Key×V)}{vs:List (Key×X9)}(z:b.length<=Xq)(f:(a==VE)=false)(c:KV b vs)(e:h'.DictOf (qb P w) a vs) :
  qP P w d h' a (.dK b):=⟨z,f,vs,c,e⟩
def zkg {G:Hp}{Q:Unit->X7->Prop}(hu:A.units+1<Vt)(I:Inv X bz σ H s)(g:zgu H a y v G)(O:RelV y u)(N:RelV v r)(h:∀s',Inv X bz σ G s'->Q () s') :
  Xv (Xr X.prog X.w) A (setItem (.ref a) u r) Q E s:=by
 rcases g with ⟨d,k,e,o,l,n⟩ | ⟨d,k,b,e,o,J,l,n⟩
 .subst o n;obtain⟨z,p,vs,f,m⟩:=zrS I.hok e;have D:vs.length<=Xq:=by rw[<- f.length];exact z
  have x:(putK d k v).length<=Xq:=by have:=Y6 d k v;lia
  refine wpAny_setItem_pairs (hsz:=D) (zjb O) m λM i B=>h _ ?_;have he:∃q,M.get? a=some q:=let ⟨q,_,_,j,_⟩:=i;⟨q,j⟩
  exact zjc I (by rw[e];exact TB) B he (zh0 x p (f.put k N) i)
 .subst o n;cases (show u=WO b from O);obtain⟨z,p,xs,f,m⟩:=zpg I.hok e;have D:xs.length<=Xq:=by rw[<- Paired.length f];exact z
  have x:(putK d k v).length<=Xq:=by have:=Y6 d k v;lia
  refine wpAny_setItem_heap (hsz:=D) (Rq hu) (zcS I.hok J) m λM i B=>h _ ?_;revert i;refine fG λq Y U j h2 h3 h4 _ h5=>?_;refine zjc I (by rw[e];exact TB) B ⟨q,j⟩ (dD x p (dZ ((f.put k J N).keeps λc ys L=>?_) (eE q Y U j h2 h3 h4 h5)));rw[zp (QW L e (λz=>nomatch z))];exact L
end
def zrT (i:Expr):Prop:=∀b a,OR i false b a=operate [b,a] (Ot b a)
def znW {prog:Xm}{w:W1}{A:WN}{E:X9->X7->Prop}{s:X7}{g:Env}{b a:Expr}{pos:Pos}{T id:String}{Q:X9->X7->Prop}
  (n:Pq (.type T) "__getitem__"=pure (some (.builtin id))) (p:zrT a)
  (h:Xv (Xr prog w) A (eval b g) (λo e=>Xv (Xr prog w) A (eval a g) (λi c=>c.TypeIs o T/\Xv (Xr prog w) A (Ot o i) Q E c) E e) E s) :
  Xv (Xr prog w) A (eval (.Subscript b a pos) g) Q E s:=by
 refine Subscript_ (Wj h (λo e k=>Wj k (λi c d=>?_) λ_ _ x=>x) λ_ _ x=>x);obtain⟨m,d⟩:=d;unfold Od;refine ZB ?_;rw[getitemInPython_of_ne m.not_modules];refine ZB (SZ m n ?_);have j:Xv (Xr prog w) A (OR a false o i) (λr f=>Xv (Xr prog w) A (letTemporaryGo b o r >>= λ_=>pure r) Q E f) E c:=by
  rw[p o i];exact wpAny_operating (Wj d (λr f l=>ZB (wpAny_letTemporaryGo (X0 l))) λ_ _ x=>x)
 first
  | exact X0 (ZB j)
  | exact ZB (X0 (ZB j))
  | exact ZB j
def zgv {X:Cx}{f:List (Addr×Obj)}{h:St}{H:Hp}{s:X7}{a:Addr}{y:V}{o:Option V}(I:Inv X f h H s)(g:zcb H a y o):s.TypeIs (.ref a) "dict":=by
 rcases g with ⟨d,k,e,_,_⟩ | ⟨d,k,b,e,_,_,_⟩
 .obtain⟨_,_,i,_,c⟩:=zgs I.hok e;exact c.typeIs
 .obtain⟨_,_,j,_,c⟩:=zgt I.hok e;exact c.typeIs
def zrU (e ty:TE):TE:=fun c H Q=>e c H λx d=>ty c d λy b=>∃a v,x=.ref a/\zcb b a y (some v)/\Q v b
def zrV (g ty h:TE):TS:=λD b H=>h b H λv d=>g b d λx e=>ty b e λy f=>∃a c,x=.ref a/\zgu f a y v c/\D.nx b c
section
variable {X:Cx}{o i e value:Expr}{pos pos' tpos:Pos}{td ty tv:TE}
def zco (r:X.A.units+1<Vt)(p:PE X o td)(n:PE X i ty)(q:zrT i):PE X (.Subscript o i pos) (zrU td ty):=by
 intro d s e H Q I h;refine znW PySem.F.slot_dict_getitem.lookup q (thn (p d s e H _ I h) λu s1 ⟨x,f,k,B,w⟩=>thn (n d s1 e f _ k w) λE G ⟨y,j,c,D,a,v,m,g,z⟩=>?_);subst m;obtain rfl:u=WO a:=B;exact⟨zgv c g,zkf r c g D λL J l b=>⟨v,j,l,b,z⟩⟩
def zcp (z:X.A.units+1<Vt)(q:PE X o td)(p:PE X i ty)(B:PE X value tv)(w:PM value (some (.Subscript o i pos')) pos.line X.env=pure false) :
  PS X (.Assign [.Subscript o i pos'] value pos) (zrV td ty tv):=by
 intro c s b H D I h;refine wpAny_Assign_Subscript (thn (B c s b H _ I h) λr s1 ⟨v,d,j,L,E⟩=>thn (q c s1 b d _ j E) λu O ⟨x,e,k,M,G⟩=>thn (p c O b e _ k G) λU Y ⟨y,Q,l,N,a,f,n,g,J⟩=>?_) w;subst n;obtain rfl:u=WO a:=M;exact zkg z l g N L λs4 m=>⟨b,f,m,J⟩
end
def zlD {P:Xm}{w:W1}{H:Hp}(h:Heap)(a:VE<h.objs.size):qP P w H (h.push { cls:=.type "dict",data:=.dict #[] }) h.objs.size (.dT []) :=
 (dD (W4 _) (beq_eq_false_iff_ne.mpr (UQ (Xl a))) (dY [] (.nil) ⟨_,(dF (#[]) 0 (dJ (Xs _ rfl) ⟨rfl,rfl,rfl⟩ rfl rfl UL))⟩))
def zqf:TE:=λ_ H Q=>∀p,H p=none->Q (.ref p) (upd H p (.dT []))
section
variable {X:Cx}{pos:Pos}
def zgw:PE X (.Dict [] [] pos) zqf:=λb s c H Q I h =>
 wpAny_Dict_empty ⟨.ref s.heap.objs.size,_,I.laid (a:=s.heap.objs.size) (o:=.dT []) (t':=s.toks) (λ_ _ q=>X4 _ q) (XV _) (zlD s.heap I.big),rfl,h _ (I.hok.fresh (XV _))⟩
end
structure M2 (X:Cx)(o:Expr)(m:Str)(apos:Pos)(e f:Expr)(cpos:Pos):Prop where
 base:RZ o m X.env (eval o X.env)=eval o X.env
 few:((TR cpos (WG [e,f] X.env)).all (λx=>!x.1)&&(backToKw cpos (NH [] X.env)).all (λx=>x.1.isSome)
  && decide (([e,f]:List Expr).length+([]:List Oq).length+(if ([]:List Oq).isEmpty then 0 else 1)<30))=true
 line:(apos.endLine==cpos.line)=true
 trees:TR cpos (WG [e,f] X.env)=[(false,eval e X.env),(false,eval f X.env)]
def IsD (H:Hp)(a:Addr):Prop:=(∃b,Rd H a (.dK b))\/∃b,Rd H a (.dT b)
def zqg {X:Cx}{h:List (Addr×Obj)}{i:St}{H:Hp}{s:X7}{a:Addr}(I:Inv X h i H s)(d:IsD H a) :
  s.TypeIs (.ref a) "dict"/\(∀b,WO a=.ref b->∃ob,s.heap.get? b=some ob/\ob.dict=none)/\(a==VE)=false:=by
 rcases d with ⟨g,e⟩ | ⟨g,e⟩
 .obtain⟨_,f,j,_,c⟩:=zgs I.hok e;refine⟨c.typeIs,λb q=>?_,f⟩;cases q;revert c;refine fF λob _ _ h1 h2 _=>?_;exact⟨ob,h1,h2.2.1⟩
 .obtain⟨_,f,k,_,c⟩:=zgt I.hok e;refine⟨c.typeIs,λb q=>?_,f⟩;cases q;revert c;refine fF λob _ _ h1 h2 _=>?_;exact⟨ob,h1,h2.2.1⟩
section
variable {X:Cx}{bz:List (Addr×Obj)}{σ:St}{H:Hp}{s:X7}{a:Addr}{y d:V}{u r:X9}{o:Option V}{A:WN}{E:X9->X7->Prop}
def zqh {Q:X9->X7->Prop}(x:A.units+1<Vt)(I:Inv X bz σ H s)(g:zcb H a y o)(p:RelV y u)(n:RelV d r)(h:∀q s',Inv X bz σ H s'->RelV (o.getD d) q->Q q s') :
  Xv (Xr X.prog X.w) A (call (.builtin "dict.get") [.ref a,u,r]) Q E s:=by
 rcases g with ⟨m,k,e,i,l⟩ | ⟨m,k,b,e,i,v,l⟩
 .subst i;obtain⟨z,j,D,c,f⟩:=zgs I.hok e;refine call_meetsIn Si f.typeIs Pe (PB _ _ _) (meets_dict_get_default (qb X.prog X.w) a (zjb p) j r) ⟨_,f.mapOf,h _ _ (I.tok _) ?_⟩;rw[l];exact(c.val k).getD n
 .subst i;cases (show u=WO b from p);obtain⟨z,j,B,c,f⟩:=zgt I.hok e;refine call_meetsIn Si f.typeIs Pe (PB _ _ _) (meetsH_dict_get_default (VM (qb X.prog X.w)) a b j r) ⟨Rq x,k,B,zcS I.hok v,f,h _ _ (I.tok _) ?_⟩;rw[l];exact(c.val k).getD n
end
def zqi (f ty g:TE):TE:=fun b H Q=>f b H λx c=>∃a,x=.ref a/\IsD c a/\ty b c λy e=>g b e λz d=>∃o,zcb d a y o/\Q (o.getD z) d
section
variable {X:Cx}{o e f:Expr}{apos cpos:Pos}{td ty tx:TE}
def zlE (D:X.A.units+1<Vt)(B:PE X o td)(he:PE X e ty)(w:PE X f tx)(m:M2 X o "get" apos e f cpos):PE X (.Call (.Attribute o "get" apos) [e,f] [] cpos) (zqi td ty tx):=by
 intro b s i H Q I h;refine wpAny_Call_method m.base m.few m.line SG Si PySem.F.type_dict_get (thn (B b s i H _ I h) λu s1 ⟨x,k,j,L,a,v,d,E⟩=>?_);subst v;obtain rfl:u=WO a:=L;obtain⟨U,Y,_⟩:=zqg j d;refine⟨U,Y,?_⟩;rw[m.trees];refine T3 rfl (RN (UK (thn (he b s1 i k _ j E) λiv O ⟨y,l,p,M,G⟩ =>
  UK (thn (w b O i l _ p G) λfv s3 ⟨z,n,q,N,ov,g,J⟩=>Qr ?_))))
 exact zqh D q g M N λw' s4 r c=>⟨_,n,r,c,J⟩
end
def zkh:Pq (.type "list") "keys"=pure none:=by rw[SY,UF];kernel_rfl
def zki:Pq (.type "list") "__getattr__"=pure none:=by rw[SY,UF];kernel_rfl
def zcT:isSubtype (.type "AttributeError") (.type "AttributeError")=pure true:=by rw[OI];kernel_rfl
def zlF (a:List X9):ownMembersOf (.type "AttributeError") a=#[unsetMember,unsetMember]:=rfl
def zh1:((Manifest.find? "AttributeError").elim false λt=>t.mro.contains "StopIteration" || t.mro.contains "SystemExit")=false:=by decide+kernel
section
variable {prog:Xm}{w:W1}{A:WN}{E:X9->X7->Prop}{h:Heap}{g:Array RR}{d:Drawn}{t:Nat}{os:OsState}{a:Addr}{its:Array X9}{n:Nat}
def zlG {tk:Tok}{Q:Fin->X7->Prop}(l:h.get? a=some { cls:=.type "list",dict:=none,data:=.seq its n,slots:=#[] })(k:A.handled=none)
  (he:∀c j e,(∀b f,h.get? b=some f->c.get? b=some f)->(⟨c,g,d,j,os⟩:X7).TypeIs (.ref e) "AttributeError"->E (.ref e) ⟨c,g,d,j,os⟩) :
  Xv (Xr prog w) A (UG.«object.__getattribute__» ⟨[.ref a,.str "keys" tk],[]⟩) Q E ⟨h,g,d,t,os⟩:=by
 have q:(⟨h,g,d,t,os⟩:X7).TypeIs (.ref a) "list":=⟨_,l,rfl⟩;have o:=zkh;have p:=zcT;repeat (any_goals (first | assumption | wp_step))
 unfold raiseAttrError;refine ZB (wpAny_mkStr (ZB ?_) (by decide+kernel));unfold newExc newTuple;refine ZB (Wl ?_);refine ZB (m:=Tz _ _) (OQ (a:=Vw) (by simp only[Tz,zh1];rfl) ?_);rw[zlF];refine Wl ?_;refine ZB (wpAny_mkText ?_);refine ZB ?_;unfold noteAttr lacksNameAndObj;repeat (any_goals (first | assumption | wp_step))
 unfold raiseNew;refine ZB (N9 ?_);rw[k];refine ZB (X0 (NG ?_));dsimp only;refine he _ _ _ (λb f i=>?_) ?_
 .rw[(WB ..).2 b (Xl ?_)]
  .exact X4 _ (X4 _ i)
  .rw[U5];exact Ww (XD i)
 .refine⟨_,Wr _ (Xs _ rfl) rfl,rfl⟩
def znX {tk:Tok}{R:NK->X7->Prop}(f:h.get? a=some { cls:=.type "list",dict:=none,data:=.seq its n,slots:=#[] })(k:A.handled=none)
  (he:∀c j e,(∀b i,h.get? b=some i->c.get? b=some i)->(⟨c,g,d,j,os⟩:X7).TypeIs (.ref e) "AttributeError"->R (.error (.ref e)) ⟨c,g,d,j,os⟩) :
  Tu (Xr prog w) A (.call (.builtin "list.__getattribute__") ⟨[.ref a,.str "keys" tk],[]⟩) R ⟨h,g,d,t,os⟩ :=
 OD PySem.F.slot_list_getattribute.plain PySem.F.entry_list_ga (PySem.F.slot_list_getattribute.check _ _ _ _ _ _ _ _ (show (⟨h,g,d,t,os⟩:X7).TypeIs (.ref a) "list" from ⟨_,f,rfl⟩) (PySem.F.args_list_getattribute_2 _ _) (zlG f (by simp[k]) he))
def zrW {tk:Tok}{Q:X9->X7->Prop}(i:h.get? a=some { cls:=.type "list",dict:=none,data:=.seq its n,slots:=#[] })(l:A.handled=none)
  (he:∀c f e,(∀b j,h.get? b=some j->c.get? b=some j)->(⟨c,g,d,f,os⟩:X7).TypeIs (.ref e) "AttributeError"->E (.ref e) ⟨c,g,d,f,os⟩) :
  Xv (Xr prog w) A (getAttrBy (.ref a) (.str "keys" tk) false) Q E ⟨h,g,d,t,os⟩:=by
 have s:(⟨h,g,d,t,os⟩:X7).TypeIs (.ref a) "list":=⟨_,i,rfl⟩;have o:=PySem.F.slot_list_getattribute.lookup;have p:=PySem.F.slot_list_getattribute.bind (.ref a);have q:=zki;have r:=zcT;repeat (any_goals (first | assumption | wp_step))
 refine znX i (by simp[l]) λc f e m k=>?_;repeat (any_goals (first | assumption | wp_step))
 exact he _ _ _ m k
def znY {Q:Option X9->X7->Prop}(l:h.get? a=some { cls:=.type "list",dict:=none,data:=.seq its n,slots:=#[] })(j:A.handled=none)
  (k:∀c i,(∀b f,h.get? b=some f->c.get? b=some f)->Q none ⟨c,g,d,i,os⟩) :
  Xv (Xr prog w) A (getAttr? (.ref a) "keys") Q E ⟨h,g,d,t,os⟩:=by
 have o:=zcT;unfold getAttr? getAttrBy?;refine ZB (wpAny_mkText (ZB (Ta ?_)));refine zrW (t:=t+1) l j λc i e m p=>?_;repeat (any_goals (first | assumption | wp_step))
 exact k _ _ m
def zaG:Nz table "dict.update.loop"=some UG.«dict.update.loop»:=entryFor_of_tree (by kernel_rfl)
def Jv:plainId "dict.update.loop"=true:=by decide+kernel
end
section
variable {prog:Xm}{w:W1}{A:WN}{R:NK->X7->Prop}{I:Addr}{fp wr:List Addr}{G:Array RR->Array RR->Prop}{n:Nat}{P:Nat->X9->Prop}{St:Nat->X7->Prop}
abbrev KQ:=List Key×Addr×X9
def putAll (ks:List KQ):List KQ:=ks.foldl (λa q=>Um a q.1 q.2.1 q.2.2) []
def putAll_snoc (ks:List KQ)(q:KQ):putAll (ks++[q])=Um (putAll ks) q.1 q.2.1 q.2.2:=by
 unfold putAll;rw[Uy];rfl
def zbR (xs:List KQ)(k:List Key)(a:Addr)(v:X9):(Um xs k a v).length<=xs.length+1:=by
 unfold Um;split
 .rw[Y1];lia
 .rw[XU];exact XV _
def zcU (ks:List KQ):(putAll ks).length<=ks.length:=by
 suffices h:∀(ks a:List KQ),(ks.foldl (λa q=>Um a q.1 q.2.1 q.2.2) a).length<=a.length+ks.length by
  have:=h ks [];simpa[putAll] using this
 intro ks;induction ks with
 | nil=>intro a;exact XV _
 | cons q r b =>
  intro a;have h1:=b (Um a q.1 q.2.1 q.2.2);have h2:=zbR a q.1 q.2.1 q.2.2;rw[V6,Xx];lia
def zfo {A:WN}{E:X9->X7->Prop}{s:X7}{a:Addr}{x y:X9}{Q:List X9->X7->Prop}(h:NF s.heap a #[x,y])(q:Q [x,y] s):Xv (Xr prog w) A (Pd (.ref a)) Q E s:=by
 obtain⟨o,h1,h2,n,b⟩:=h;have c:s.TypeIs (.ref a) "tuple":=⟨o,h1,h2⟩;unfold Pd;repeat (any_goals (first | assumption | wp_step))
 rw[b];exact X0 (X0 q)
theorem zbS (T:List Key->Addr->Prop):∀(d a:List KQ),(∀x∈a,T x.1 x.2.1)->(∀x∈d,T x.1 x.2.1)->∀x∈d.foldl (λa q=>Um a q.1 q.2.1 q.2.2) a,T x.1 x.2.1
 | [],_,b,_=>b
 | q::r,a,b,c=>by
  rw[V6];refine zbS T r _ (λx hx=>?_) λx hx=>c x (XY _ hx);unfold Um at hx;split at hx
  .obtain⟨y,f,rfl⟩:=XJ.mp hx;have:=b y f;unfold putAt;split
   .exact this
   .exact this
  .rcases XG.mp hx with hx | hx
   .exact b x hx
   .have e:x=(q.1,q.2.1,q.2.2):=by simpa using hx
    subst e;exact c q XX
def zh2 {h0:Heap}(W:WalksS prog w A.in1 I fp wr G n P St)(D:Addr)(J:D ∉ fp)(aa:h0.get? D=none)(ah:∀b∈wr,h0.get? b=none)(ks:List KQ)(N:ks.length=n)(u:n<=Xq)(hu:A.units+1<Vt)
  (M:∀q∈ks,(VM (qb prog w)).is h0 q.1 q.2.1) (hP:∀i v,P i v->∃H q,v=.ref H/\ks[i]?=some q/\NF h0 H #[.ref q.2.1,q.2.2]) :
  ∀(k i:Nat) (s:X7),n-i=k->i<=n->St i s->(∀b o,h0.get? b=some o->s.heap.get? b=some o)->s.heap.DictOfH (VM (qb prog w)) D (putAll (ks.take i)) ->
   (∀s',Moved (D::wr) G s s'->s'.heap.DictOfH (VM (qb prog w)) D (putAll ks)->R (.ok (.ret .none)) s') ->
   Tu (Xr prog w) A (.builtin "dict.update.loop" ⟨[.ref D,.ref I,US (i:Int),.none],[]⟩) R s:=by
 have ab:D ∉ wr:=λh=>J (W.sub _ h);have more:∀b∈wr,b∈D::wr:=λb u=>XY _ u;have r:∀{h:Heap} {H:Addr} {y:Array X9},(∀b o,h0.get? b=some o->h.get? b=some o)->NF h0 H y->NF h H y:=λl ⟨o,h1,h2,m,h3⟩=>⟨o,l _ _ h1,h2,m,h3⟩;have f:∀{h:Heap} {ka:Addr} {q:List Key},(∀b o,h0.get? b=some o->h.get? b=some o)->(VM (qb prog w)).is h0 q ka->(VM (qb prog w)).is h q ka:=λl ⟨o,y,m,h1,h2⟩=>⟨o,y,m,l _ _ h1,h2⟩;have c:∀{s s':X7} {y:List KQ},Moved wr G s s'->(∀b o,h0.get? b=some o->s'.heap.get? b=some o)->(∀x∈y,(VM (qb prog w)).is h0 x.1 x.2.1)->s.heap.DictOfH (VM (qb prog w)) D y->s'.heap.DictOfH (VM (qb prog w)) D y :=
  λg l hk ⟨o,es,ep,e1,e2,e3,e4,_,e6⟩=>⟨o,es,ep,g.heap D _ ab e1,e2,e3,e4,λx Y=>f l (hk x Y),e6⟩
 have d:∀{s s':X7},Moved wr G s s'->(∀b o,h0.get? b=some o->s.heap.get? b=some o)->∀b o,h0.get? b=some o->s'.heap.get? b=some o:=λg l b o e =>
  g.heap b o (λu=>by
   rw[ah b u]at e;cases e) (l b o e)
 have j:∀i,∀x∈putAll (ks.take i),(VM (qb prog w)).is h0 x.1 x.2.1:=λi=>zbS (λa b=>(VM (qb prog w)).is h0 a b) _ [] (λx Y=>nomatch Y) λx Y=>M x (VJ Y);intro k;induction k with
 | zero =>
  intro i s hk hi E l hS hR;have ag:i=n:=by lia
  subst ag;refine Vy zaG ?_;rw[V4 Jv _];show Xv _ A.in1 (SW (.ref I) >>= _) _ _ s;refine ZB (W.done s _ _ E λs' g=>?_);show Xv _ A.in1 (PY D [] >>= λ_=>ret Vw) _ _ s';refine ZB (X0 (X0 (hR s' (g.mono more) ?_)));have:=c g (d g l) (j _) hS;rw[<- N,XO]at this;exact this
 | succ k ih =>
  intro i s hk hi E l hS hR;have O:i<n:=by lia
  refine Vy zaG ?_;rw[V4 Jv _];show Xv _ A.in1 (SW (.ref I) >>= _) _ _ s;refine ZB (W.item i s _ _ O E λv s' ac U g=>?_);refine fh (λH q z0 hq ht=>?_) (hP i v ac);subst z0;have p:=d g l;have ae:=c g p (j _) hS;have l1:=zcU (ks.take i);have l2:(ks.take i).length<=n:=by
   rw[XQ];lia
  have tk:ks.take (i+1)=ks.take i++[q]:=by
   rw[XI,hq];rfl
  refine ZB (VS (ZB (wpAny_tryCatch (zfo (r p ht) ?_))));refine VS (wpAny_dictSet_heap (show A.in1.units<Vt from hu) (f p (M q (X8 hq))) ae (λh' af B=>?_) (by lia));have ai:∀b o,h0.get? b=some o->h'.get? b=some o:=λb o e=>by
   rw[B.2 b (λz=>by
    rw[z,aa]at e;cases e)]
   exact p b o e
  have d2:h'.DictOfH (VM (qb prog w)) D (putAll (ks.take (i+1))):=by
   rw[tk,putAll_snoc];exact af
  refine X0 ⟨Ut Jv _,?_⟩;show Tu _ A (.builtin "dict.update.loop" ⟨[.ref D,.ref I,US ((i:Int)+1),.none],[]⟩) R _;rw[show ((i:Int)+1)=((i+1:Nat):Int) by lia];refine ih (i+1) _ (by lia) O (W.frame _ s' _ _ U (Uf _ _) λb u o e=>?_) ai d2 λaj Q L=>?_
  .rw[B.2 b (λz=>J (by rw[<- z];exact u))];exact e
  .refine hR aj (Moved.trans W.gtrans ((g.mono more).then_heap (Uf _ _) λb o u e=>?_) Q) L;rw[B.2 b (λz=>u (by rw[z];exact XX))];exact e
end
def zrX (H:Hp)(v:V)(c:List Key×V):Prop:=∃a b,v=V.ref a/\H a=some (.tup [.ref b,c.2])/\H b=some (.tup (c.1.map kV))
def jV (H:Hp):AF->List (List Key×V)->Prop:=W2 (zrX H)
def jV.mono {H d:Hp}(s:zB H d){vs:AF}{c:List (List Key×V)}(f:jV H vs c):jV d vs c:=by
 induction f with
 | nil=>exact .nil
 | cons q _ g =>
  obtain⟨a,b,e,h1,h2⟩:=q;exact .cons ⟨a,b,e,s _ _ h1,s _ _ h2⟩ g
def YT (b:List (List Key×V)):List (List Key×V):=b.foldl (λa c=>putK a c.1 c.2) []
def KT.puts {H:Hp}{b:List (List Key×V)}{ks:List KQ}{a:List (List Key×V)}{xs:List KQ}(e:KT H b ks)(r:KT H a xs):KT H (b.foldl (λa c=>putK a c.1 c.2) a) (ks.foldl (λa q=>Um a q.1 q.2.1 q.2.2) xs):=by
 induction e generalizing a xs with
 | nil=>exact r
 | cons q _ f =>
  obtain⟨h1,h2,d⟩:=q;rw[V6,V6];refine f ?_;rw[<- h1];exact r.put _ h2 d
def znZ {P:Xm}{w:W1}{H:Hp}{h:Heap}(ok:HOk P w H h){a:List (List Key×V)}{ks:List KQ}(b:KT H a ks):∀x∈ks,(VM (qb P w)).is h x.1 x.2.1:=by
 induction b with
 | nil=>exact λx hx=>nomatch hx
 | cons q _ c =>
  intro x hx;rcases XH.mp hx with e | hx
  .subst e;exact zcS ok (by rw[<- q.1];exact q.2.1)
  .exact c x hx
def zn0 {P:Xm}{w:W1}{H:Hp}{h:Heap}(ok:HOk P w H h){vs:AF}{d:List (List Key×V)}{c:List X9}(n:jV H vs d)(j:Vals vs c):∃ks:List KQ,KT H d ks/\ks.length=c.length/\(∀(i:Nat) (v:X9),c[i]?=some v->∃(f:Addr) (q:KQ),v=WO f/\ks[i]?=some q/\NF h f #[.ref q.2.1,q.2.2]):=by
 induction n generalizing c with
 | nil =>
  cases j;exact⟨[],.nil,rfl,λi v e=>by simp at e⟩
 | @cons x k G I q _ o =>
  obtain⟨a,b,e,h1,h2⟩:=q;cases j with
  | cons B z =>
  obtain⟨ks,p,s,y⟩:=o z;subst e;cases B;obtain⟨_,G,r,D⟩:=(show qP P w H h a (.tup [.ref b,k.2]) from ok a _ h1);obtain⟨u,E,rfl,A,g⟩:=vals2 r;cases A;refine⟨(k.1,b,E)::ks,.cons ⟨rfl,h2,g⟩ p,by rw[Xx,Xx,s],λi v e=>?_⟩;cases i with
  | zero =>
   have l:WO a=v:=by simpa using e
   exact⟨a,_,l.symm,rfl,D⟩
  | succ i =>
   obtain⟨f,q,h1,h2,m⟩:=y i v (by simpa using e);exact⟨f,q,h1,by simpa using h2,m⟩
section
variable {X:Cx}
set_option maxHeartbeats 8000000 in
theorem Jc (hu:X.A.units+64<Vt)(hh:X.A.handled=none):jr X (.type "dict") (λxs H Q=>∃l us g,xs=[.ref l]/\H l=some (.lst us)/\jV H us g/\∀d,H d=none->Q (.ref d) (upd H d (.dT (YT g)))):=by
 intro bz s σ H xs ai Q I r h;obtain⟨l,us,g,rfl,hl,hp,q⟩:=h;obtain⟨u,rfl,ru⟩:=vals1 r;cases ru;obtain⟨hz,m,n,rv,e⟩:=(show qP X.prog X.w H s.heap l (.lst us) from I.hok l _ hl);obtain⟨ks,E,D,N⟩:=zn0 I.hok hp rv;have big:=I.big;have y:m.length<=Xq:=by
  rw[<- rv.length];exact hz
 have ae:=znZ I.hok E;refine callType_codes (Q₁:=λU p=>U=.ref s.heap.objs.size/\p={ s with heap:=s.heap.push { cls:=.type "dict",data:=.dict #[] } }) Pc (Rj _) Pz (kt_code_dict_new _ ⟨rfl,rfl⟩) ?_;rintro U p ⟨rfl,rfl⟩;have f:(s.heap.push { cls:=.type "dict",data:=.dict #[] }).DictOfH (VM (qb X.prog X.w)) s.heap.objs.size []:=Heap.DictOfH.new s.heap;have e1:(s.heap.push { cls:=.type "dict",data:=.dict #[] }).get? l=some { cls:=.type "list",dict:=none,data:=.seq m.toArray n,slots:=#[] }:=X4 _ e;refine⟨f.typeIs,PX _ _,?_⟩;unfold UG.«dict.__init__»;refine ZB ?_;unfold PV;refine ZB (Sh f.typeIs ?_);show Xv _ _ (pure (s.heap.objs.size,[WO l])) _ _ _;refine X0 ?_;show Xv _ _ (Ud "dict.__init__" s.heap.objs.size (.ref l) [] .none) _ _ _;unfold Ud;have hT:RX { s with heap:=s.heap.push { cls:=.type "dict",data:=.dict #[] } } (.ref l) "list":=⟨_,e1,rfl⟩;refine ZB (RC hT ?_);rw[bw (by decide)];refine ZB (znY e1 (by simp[hh]) λh2 t2 kp=>?_);rw[bw (show (none:Option X9).isNone=true from rfl)];have O:∀b j,s.heap.get? b=some j->h2.get? b=some j:=λb j z=>kp b j (X4 _ z);have G:h2.IsList l m.toArray:=⟨_,kp _ _ e1,rfl,n,rfl⟩;refine ZB (UM (ZB (Sv G ?_)));have J:l<s.heap.objs.size:=XD e;have k:s.heap.objs.size<h2.objs.size:=by
  obtain⟨o,_,_,M,_⟩:=f;exact XD (kp _ _ M)
 have L:l≠h2.objs.size:=Xl (Tr J k);have aa:s.heap.objs.size ∉ [h2.objs.size,l]:=by
  simp only[XH,Vv,or_false,not_or];exact⟨Xl k,Va J⟩
 refine X0 ⟨Ut Jv _,?_⟩;have ac:(h2.push { cls:=.type "list_iterator",data:=.fields #[.ref l,.int 0 0] }).DictOfH (VM (qb X.prog X.w)) s.heap.objs.size []:=by
  obtain⟨o,es,ep,M,h3,h4,h5,_,h6⟩:=f;exact⟨o,es,ep,X4 _ (kp _ _ M),h3,h4,h5,(λx hx=>nomatch hx),h6⟩
 refine zh2 (h0:=s.heap) ((Walks.list (by simp[hh]) h2.objs.size l L m.toArray).toS) s.heap.objs.size aa (Uv (XV _)) (λb hb=>?_) ks (by rw[D];simp) (by simpa using y) (by show X.A.units+1+1<Vt;lia) ae (λi v hv=>N i v (by rw[<- hv];simp)) _ 0 _ rfl (W4 _)
  ⟨⟨_,Xs _ rfl,rfl,rfl⟩,G.push _⟩ (λb o z=>X4 _ (O b o z)) ac ?_
 .have e:b=h2.objs.size:=by simpa using hb
  rw[e];exact Uv (Tt k)
 .intro s' Y ab;obtain⟨h',g',d',ah,ag⟩:=s';have eg:g'=s.gens:=Y.gens;have ed:d'=s.drawn:=Y.drawn;have eo:ag=s.os:=Y.os;subst eg;subst ed;subst eo;have af:∀b j,s.heap.get? b=some j->h'.get? b=some j:=λb j z=>by
   have lt:=XD z;refine Y.heap b j (λhb=>?_) (X4 _ (O b j z));rcases XH.mp hb with e | hb
   .exact VA _ (e ▸ lt)
   .have e:b=h2.objs.size:=by simpa using hb
    rw[e]at lt;exact VA _ (Tr lt k)
  revert ab;refine fG λo es ep M h3 h4 h5 _ h6=>?_;have B:KT H (YT g) (putAll ks):=KT.puts E .nil;have c:H s.heap.objs.size=none:=I.hok.fresh (XV _);refine⟨rfl,.ref s.heap.objs.size,_,I.laid (a:=s.heap.objs.size) (o:=.dT (YT g)) (t':=ah) af (XV _) (dD ?_ (beq_eq_false_iff_ne.mpr (UQ (Xl big))) (dZ (KT.keeps B λb ys hb=>?_) (eE o es ep M h3 h4 h5 h6))),rfl,q _ c⟩
  .rw[Paired.length B];exact X5 (zcU ks) (by rw[D];exact y)
  .rw[zp (zj hb c)];exact hb
end
def u1 {A:PySem.Around}(h:A.units+64<PySem.cLine):A.units+1<PySem.cLine:=by lia
section
variable {K:XW}{g:TG}{tc:TT}{te:TE}{Q:VK}{σ0:St}{D:Addr}
def zlH {l1 l2:Addr}{xs ys:AF}(Pv:Nat->St->Hp->Prop){H:Hp}(he:xs.length=ys.length)(h0:Pv 0 σ0 H)(u:∀i a H,i<=xs.length->Pv i a H->SqL K H l1 xs/\SqL K H l2 ys)
  (w:∀i x y T a H,xs[i]?=some x->ys[i]?=some y->H T=none->Pv i a H->g (.ref T) a (upd H T (.tup [x,y])) fun c o=>tc c o λb k=>if b=true then te c k λy l=>∃zs,l D=some (.lst zs)/\zs.length<Xq/\Pv (i+1) c (upd l D (.lst (zs++[y]))) else Pv (i+1) c k)
  (r:∀ a H,Pv xs.length a H->Q (.ref D) H):xR (Itz K l1 l2) g tc te Q D σ0 H:=by
 refine⟨λi m a H=>m=xs.length-i/\i<=xs.length/\Pv i a H,⟨xs.length,by simp,W4 _,h0⟩,?_⟩;rintro i m a H ⟨rfl,s,p⟩;obtain⟨h,j⟩:=u i a H s p;by_cases d:i<xs.length
 .refine .inr ⟨⟨xs,ys,h,j,d,by lia⟩,Pv (i+1),fun E n A=>⟨xs.length-(i+1),by lia,rfl,d,A⟩,λx n y=>?_⟩;obtain⟨T,rfl,q,y⟩:=y;obtain⟨v,B,z,f,rfl⟩:=y xs ys h j;exact w i v B T a H z f q p
 .have e:i=xs.length:=by lia
  subst e;exact .inl ⟨⟨xs,ys,h,j,by lia⟩,r a H p⟩
end
theorem jV.into {H:Hp}(z:Addr)(o:HO){d:AF}(hz:H z=some (.lst d)):∀{vs:AF} {c:List (List Key×V)},jV H vs c->jV (upd H z o) vs c
 | _,_,.nil=>.nil
 | _,_,.cons ⟨a,b,e,h1,h2⟩ t=>.cons ⟨a,b,e,by rw[zp (QW h1 hz (by intro y;cases y))];exact h1,by rw[zp (QW h2 hz (by intro y;cases y))];exact h2⟩ (jV.into z o hz t)
theorem jV.snoc {H:Hp}{vs:AF}{a:List (List Key×V)}{v:V}{b:List Key×V}(h:jV H vs a)(x:zrX H v b):jV H (vs++[v]) (a++[b]):=Paired.snoc h x
theorem jV.length {H:Hp}{vs:AF}{a:List (List Key×V)}(h:jV H vs a):vs.length=a.length:=Paired.length h
theorem zbm {v:V}{k:List Key}:∀(ks:List (List Key)) (a:List (List Key×V)),(k∈ks\/jo a k=some v)->jo ((ks.map λx=>(x,v)).foldl (λa b=>putK a b.1 b.2) a) k=some v
 | [],a,h=>by
  rcases h with h | h
  .cases h
  .exact h
 | x::r,a,h=>by
  rw[Xo,V6];refine zbm r _ ?_;rw[ZN];by_cases e:k=x
  .rw[bw e];exact .inr rfl
  .rw[bq e];rcases h with h | h
   .rcases XH.mp h with h | h
    .exact absurd h e
    .exact .inl h
   .exact .inr h
section
variable {prog:Xm}{w:W1}{A:WN}{E:X9->X7->Prop}{s:X7}{d o a:Addr}{xs ys:List KQ}{k:List Key}{v:X9}
abbrev tk2 (prog:Xm)(w:W1):HeapKind prog w (List Key):=VM (qb prog w)
def zh3 {Q:Unit->X7->Prop}(J:A.units<Vt)(c:(tk2 prog w).is s.heap k a)(I:s.heap.DictOfH (tk2 prog w) d xs)(hsz:xs.length<=Xq)
  (u:∀h',h'.DictOfH (tk2 prog w) d (Um xs k a v)->V8 d s.heap h'->Q () { s with heap:=h' }):Xv (Xr prog w) A (N8 d (.ref a) ((tk2 prog w).hash k) v) Q E s:=by
 obtain⟨ob,H,r,f,B,b,he,h,i⟩:=I;unfold N8;refine VS (ZB (wpAny_dictFind_heap (knd:=tk2 prog w) J c f b he h i (λm=>?_) λj p D=>?_))
 .have n:=not_mem_keys_of_get m;have o:=atKey_none_of_get m;refine ZB (UM (wpAny_updateDictKeys (hz:=by have e:=size_of_entries he;lia) f b (u _ (dH (eK (r+1) (Wr _ f (RI (Tx b _))) (B.mapDictKeys _) (Tx b _) ?_ ?_ ?_)) (WB ..))))
  .rw[OP o];simp[he,SV]
  .rw[OP o];intro x hx;rcases XG.mp hx with hx | hx
   .exact(tk2 prog w).keeps (h x hx) f b (WB ..)
   .have e:x=(k,a,v):=by simpa using hx
    subst e;exact(tk2 prog w).keeps c f b (WB ..)
  .rw[OP o,Xj,WD];refine⟨i,by simp,λx hx y q e=>n ?_⟩;have G:y=k:=by simpa using q
   rw[<- G,<- e];exact hx
 .have g:=storedH_old (atKey_of_get i D) a v;refine ZB (UM (ZB (wpAny_updateDict f b (wpAny_point (u _ (dH (eK r (Wr _ f (RI (Obj.data_mapDict b _))) (B.mapDict _) (Obj.data_mapDict b _) ?_ ?_ ?_)) (WB ..))))))
  .rw[g];have z:=modify_map_putAt (SV (tk2 prog w)) (λe:SL=>{ e with val:=v }) k v (λ_ _=>rfl) i D;rw[<- he]at z;obtain⟨l⟩:=H;simpa using z
  .rw[g];intro x hx;obtain⟨y,q,rfl⟩:=XJ.mp hx;unfold putAt;split<;>exact(tk2 prog w).keeps (h y q) f b (WB ..)
  .rw[g,keys_map_putAt];exact i
def HN (prog:Xm)(w:W1)(ys:List KQ):Prop:=(ys.map λq=>(tk2 prog w).hash q.1).Nodup
def zh4:Pq (.type "tuple") "__eq__"=pure (some (.builtin "tuple.__eq__")):=by rw[SY,UF];kernel_rfl
def zgx {Q:Bool->X7->Prop}(b:(tk2 prog w).is s.heap k a)(q:Q false s):Xv (Xr prog w) A (OC (.ref a)) Q E s:=by
 obtain⟨ob,d,n,h1,h2,_⟩:=b;have c:s.TypeIs (.ref a) "tuple":=⟨ob,h1,h2⟩;unfold OC;refine ZB (SZ c zh4 (X0 ?_));rw[show (some (Value.builtin "tuple.__eq__")==some (Value.builtin "object.__eq__"))=false by decide+kernel];exact q
def zkj {ys:List KQ}{a:Array SL}(he:a.toList=ys.map (SV (tk2 prog w)))(b:HN prog w ys)(x:Int):¬ (a.filter (λe=>e.hash==x)).size>1:=by
 have h1:(a.filter (λe=>e.hash==x)).size=(a.toList.filter (λe=>e.hash==x)).length:=by
  rw[<- On,X6]
 rw[h1,he];unfold HN at b;clear h1 he;induction ys with
 | nil=>simp
 | cons q r i =>
  rw[Xo,Wf]at b;rw[Xo,Xb];split
  .rename_i hq;have c:(tk2 prog w).hash q.1=x:=by simpa[SV] using hq
   have:(r.map (SV (tk2 prog w))).filter (λe=>e.hash==x)=[]:=by
    rw[Wo];intro e f g;obtain⟨y,h,rfl⟩:=XJ.mp f;have d:(tk2 prog w).hash y.1=x:=by simpa[SV] using g
    exact b.1 (XJ.mpr ⟨y,h,by rw[c,d]⟩)
   rw[this];simp
  .exact i b.2
def zkk {id:String}{ob:Obj}{c:Array SL}{ep:Nat}{Q:Array SL->X7->Prop}(l:s.heap.get? d=some ob)(k:ob.data=.dict c ep)(he:c.toList=ys.map (SV (tk2 prog w)))(hk:∀x∈ys,(tk2 prog w).is s.heap x.1 x.2.1)(j:HN prog w ys)(h:Q c s) :
  Xv (Xr prog w) A (RJ id d) Q E s:=by
 unfold RJ;refine ZB (Vr l k (ZB ?_));rw[<- Rp];refine Tn _ (λa _ f=>f=s/\∀e∈a,e∈c.toList) _ ?_ ?_ _ _ ⟨rfl,λe he=>he⟩
 .rintro x a b f ⟨rfl,g⟩;have i:=g x XX;rw[he]at i;obtain⟨y,m,rfl⟩:=XJ.mp i;refine ZB (zgx (hk y m) ?_);rw[bw (show (!false)=true from rfl),bq (zkj he j _)];exact X0 ⟨rfl,λe he=>g e (XY _ he)⟩
 .rintro b f ⟨rfl,_⟩;exact X0 h
def ZF (xs ys:List KQ):List KQ:=ys.foldl (λa q=>Um a q.1 q.2.1 q.2.2) xs
def zgy (xs ys:List KQ)(q:KQ):ZF xs (ys++[q])=Um (ZF xs ys) q.1 q.2.1 q.2.2:=by
 unfold ZF;rw[Uy];rfl
theorem zcV (xs:List KQ):∀ys:List KQ,∀a:List KQ,(ZF a ys).length<=a.length+ys.length
 | [],a=>XV _
 | q::r,a=>by
  have h1:=zcV xs r (Um a q.1 q.2.1 q.2.2);have h2:=zbR a q.1 q.2.1 q.2.2;rw[Xx];show (ZF (Um a q.1 q.2.1 q.2.2) r).length<=_;lia
theorem Yz:∀(ys a:List KQ),((a++ys).map (·.1)).Nodup->ZF a ys=a++ys
 | [],a,_=>(Xa a).symm
 | q::r,a,h=>by
  have b:Oe a q.1=none:=by
   unfold Oe;rw[List.find?_eq_none.mpr]
   .rfl
   .intro x c hk;rw[Xj,Xo,WD]at h;exact h.2.2 x.1 (XJ.mpr ⟨x,c,rfl⟩) q.1 XX (bg hk)
  show ZF (Um a q.1 q.2.1 q.2.2) r=_;rw[OP b,show ((q.1,q.2.1,q.2.2):KQ)=q from rfl,Yz r (a++[q]) (by simpa using h)];simp
def zn1 {nm:String}{Q:Unit->X7->Prop}(hu:A.units<Vt)(z:d≠o)(af:(o==VE)=false)(hd:s.heap.DictOfH (tk2 prog w) d xs)(ho:s.heap.DictOfH (tk2 prog w) o ys)(hN:HN prog w ys)(hsz:xs.length+ys.length<=Xq)
  (O:∀h',h'.DictOfH (tk2 prog w) d (ZF xs ys)->V8 d s.heap h'->Q () { s with heap:=h' }):Xv (Xr prog w) A (Pb nm d o) Q E s:=by
 obtain⟨od,Y,U,j,aa,f,J,al,am⟩:=id hd;obtain⟨oo,a,aj,k,ak,c,g,B,N⟩:=id ho;have M:ys.length=a.size:=(size_of_entries g).symm;unfold Pb;rw[bq (show ¬ (d==o)=true by simpa using z)];unfold Sf;rw[bq (show ¬ (o==VE)=true by rw[af];exact XT)];refine ZB (X0 (ZB (Vr k c ?_)));have v:Xv (Xr prog w) A (do
   let epoch <- dictEpoch o
   let l <- dictEntries o
   forIn [:l.size] NZ λi (_:PUnit)=>(do
     let l' <- dictEntries o
     match l'[i]? with
      | some e=>do
       holding [e.key,e.val] (N8 d e.key e.hash e.val)
       let ep' <- dictEpoch o
       if (ep' != epoch)=true then do
         (QR (toString nm++toString ":source-changed-during-callback"):Sem PUnit)
         pure (VU NZ)
        else pure (VU NZ)
      | _=>do
       (QR "internal:dict-merge":Sem PUnit)
       pure (VU NZ):Sem (ForInStep PUnit))
   pure ()) Q E s:=by
  refine ZB (SX k c (ZB (Vr k c (ZB ?_))));rw[Std.Legacy.Range.forIn_eq_forIn_range'];simp only[Std.Legacy.Range.size,NQ,SR,Nat.div_one];refine Tn _ (λn _ s'=>∃h' i,s'={ s with heap:=h' }/\n=List.range' i (a.size-i)/\i<=a.size/\h'.DictOfH (tk2 prog w) d (ZF xs (ys.take i))/\V8 d s.heap h') _ ?_ ?_ _ _ ⟨s.heap,0,rfl,by simp,W4 _,hd,Heap.SameBut.refl _ _⟩
  .refine λx n b s'=>eY λh' i z0 G hi p m=>?_;subst z0;have ae:i<a.size:=by
    rcases T9 i a.size with h | h
    .exact h
    .rw[Nat.sub_eq_zero_of_le h]at G;simp at G
   obtain⟨rfl,H⟩:x=i/\n=List.range' (i+1) (a.size-(i+1)):=by
    rw[show a.size-i=(a.size-(i+1))+1 by lia,List.range'_succ]at G;injection G with h1 h2
    exact⟨h1,h2⟩
   have r:h'.get? o=some oo:=(m.2 o (UQ z)).trans k;obtain⟨q,hq⟩:∃q,ys[x]?=some q:=⟨_,X2 (by lia)⟩;refine ZB (Vr r c ?_);rw[Ny g x,hq];have ac:=B q (X8 hq);have L:(tk2 prog w).is h' q.1 q.2.1:=(tk2 prog w).keeps ac j f m;have l1:=zcV xs (ys.take x) xs;have l2:(ys.take x).length<=ys.length:=by
    rw[XQ];lia
   refine ZB (VS (zh3 (s:={ s with heap:=h' }) hu L p (by lia) λy I u=>?_));have D:y.get? o=some oo:=(u.2 o (UQ z)).trans r;refine ZB (SX D c ?_);rw[bq (by simp)];refine X0 ⟨y,x+1,rfl,H,ae,?_,m.trans u⟩;rw[XI,hq];show y.DictOfH (tk2 prog w) d (ZF xs (ys.take x++[q]));rw[zgy];exact I
  .rintro b s' ⟨h',i,rfl,G,hi,p,m⟩;have ab:i=a.size:=by
    rcases T9 i a.size with h | h
    .rw[show a.size-i=(a.size-(i+1))+1 by lia,List.range'_succ]at G;exact nomatch G
    .exact Nat.le_antisymm hi h
   rw[ab,<- M,XO]at p;exact X0 (O h' p m)
 dsimp only;split
 .refine ZB (Vr j f ?_);split
  .rename_i ai;have ag:xs=[]:=by
    have h0:Y=#[]:=Array.isEmpty_iff.mp ai;rw[h0]at J;exact Om.mp J.symm
   subst ag;rw[Yz ys [] (by simpa using N)]at O;refine ZB (zkk k c g B hN ?_);split
   .refine ZB (wpAny_updateDictKeysTo j f (X0 (O _ ⟨_,_,U+1,Wr _ j (RI (Tx f _)),aa.mapDictKeys _,Tx f _,g,λx hx=>(tk2 prog w).keeps (B x hx) j f (WB ..),N⟩ (WB ..))) (by
     simp only[UD,VR]at hsz;lia))
   .rename_i hne;have h0:a=#[]:=Array.isEmpty_iff.mp (by simpa using hne);have ah:ys=[]:=by
     rw[h0]at g;exact Om.mp g.symm
    subst ah;exact X0 (O _ hd (Heap.SameBut.refl _ _))
  .exact v
 .exact v
end
def HH (i j:Nat):Int:=reduceHash (Builtin.Tuple.tupleHashOf [hashInt (i:Int),hashInt (j:Int)])
def Jw (prog:Xm)(w:W1)(i j:Nat):(tk2 prog w).hash [.inl ((i:Nat):Int),.inl ((j:Nat):Int)]=HH i j:=by
 show tupleKeyHash (qb prog w) [.inl ((i:Nat):Int),.inl ((j:Nat):Int)]=HH i j;unfold tupleKeyHash HH;rw[Xo,Xo,NR];have e:∀n:Nat,(qb prog w).hash (.inl ((n:Nat):Int))=hashInt ((n:Nat):Int):=λn=>by
  show zpK w (.inl ((n:Nat):Int))=_;unfold zpK;with_reducible rfl
 rw[e,e]
def zqj:(Wc 64).all λn=>(Wc 64).all λm=>decide (HH (n/8) (n%8)=HH (m/8) (m%8))==decide (n=m):=by decide+kernel
def zgA {i j f g:Nat}(h1:i<8)(h2:j<8)(k:f<8)(l:g<8)(e:HH i j=HH f g):i=f/\j=g:=by
 have h:=zqj;rw[WT]at h;have a:=h (8*i+j) (VL.mpr (by lia));rw[WT]at a;have b:=a (8*f+g) (VL.mpr (by lia));rw[show (8*i+j)/8=i by lia,show (8*i+j)%8=j by lia,show (8*f+g)/8=f by lia,show (8*f+g)%8=g by lia,br e]at b;have c:decide (8*i+j=8*f+g)=true:=by simpa using b
 have d:=bg c;lia
def Small (ks:List (List Key)):Prop:=∀k∈ks,∃i j:Nat,i<8/\j<8/\k=[.inl ((i:Nat):Int),.inl ((j:Nat):Int)]
theorem zph {prog:Xm}{w:W1}:∀{ys:List KQ},Small (ys.map (·.1))->(ys.map (·.1)).Nodup->HN prog w ys
 | [],_,_=>UL
 | q::r,d,c=>by
  rw[Xo,Wf]at c;unfold HN;rw[Xo,Wf];refine⟨λn=>?_,zph (λk hk=>d k (XY _ hk)) c.2⟩;obtain⟨y,h,e⟩:=XJ.mp n;obtain⟨i,j,h1,h2,f⟩:=d q.1 XX;obtain⟨o,p,l,m,g⟩:=d y.1 (XY _ (XJ.mpr ⟨y,h,rfl⟩));rw[f,g,Jw,Jw]at e;obtain⟨a,b⟩:=zgA l m h1 h2 e;refine c.1 (XJ.mpr ⟨y,h,?_⟩);rw[f,g,a,b]
theorem KT.keys {H:Hp}:∀{a:List (List Key×V)} {xs:List KQ},KT H a xs->xs.map (·.1)=a.map (·.1)
 | _,_,.nil=>rfl
 | _,_,.cons ⟨h1,_,_⟩ t=>by rw[Xo,Xo,KT.keys t,h1]
def zlI {P:Xm}{w:W1}{H:Hp}{a:List (List Key×V)}{xs:List KQ}(r:KT H a xs)(c:Small (a.map (·.1)))(b:(xs.map (·.1)).Nodup):HN P w xs:=zph (by rw[r.keys];exact c) b
section
variable {X:Cx}
def zcW (hu:X.A.units+64<Vt):jr X (.type "dict") (λxs H Q=>∃p f,xs=[.ref p]/\H p=some (.dT f)/\Small (f.map (·.1))/\∀d,H d=none->Q (.ref d) (upd H d (.dT f))):=by
 intro bz s σ H xs aa Q I r h;obtain⟨p,f,rfl,hp,Y,q⟩:=h;obtain⟨u,rfl,ru⟩:=vals1 r;cases ru;obtain⟨hz,hS,B,k,y⟩:=zpg I.hok hp;have big:=I.big;have M:B.length=f.length:=(Paired.length k).symm;have hN:HN X.prog X.w B:=by
  obtain⟨_,_,_,_,_,_,_,_,N⟩:=y;exact zlI k Y N
 refine callType_codes (Q₁:=λm j=>m=.ref s.heap.objs.size/\j={ s with heap:=s.heap.push { cls:=.type "dict",data:=.dict #[] } }) Pc (Rj _) Pz (kt_code_dict_new _ ⟨rfl,rfl⟩) ?_;rintro m j ⟨rfl,rfl⟩;have g:(s.heap.push { cls:=.type "dict",data:=.dict #[] }).DictOfH (tk2 X.prog X.w) s.heap.objs.size []:=Heap.DictOfH.new s.heap;have O:p<s.heap.objs.size:=by
  revert y;refine fC λo _ _ l _=>?_;exact XD l
 have i:(s.heap.push { cls:=.type "dict",data:=.dict #[] }).DictOfH (tk2 X.prog X.w) p B:=by
  obtain⟨o,E,D,l,G,J,n,v,h7⟩:=y;exact⟨o,E,D,X4 _ l,G,J,n,λx hx=>let ⟨ob,a,b,c,d⟩:=v x hx;⟨ob,a,b,X4 _ c,d⟩,h7⟩
 refine⟨g.typeIs,PX _ _,?_⟩;unfold UG.«dict.__init__»;refine ZB ?_;unfold PV;refine ZB (Sh g.typeIs ?_);show Xv _ _ (pure (s.heap.objs.size,[WO p])) _ _ _;refine X0 ?_;show Xv _ _ (Ud "dict.__init__" s.heap.objs.size (.ref p) [] .none) _ _ _;unfold Ud;refine ZB (RC i.typeIs ?_);rw[bq (by decide)];refine ZB ?_;unfold Builtin.Dict.merge;refine ZB ?_;unfold Builtin.Dict.readDirectly;refine ZB (R3 i.typeIs isSubtype_dict_dict ?_);simp only[Bool.not_true,WJ,if_false];refine ZB (SZ i.typeIs PySem.F.slot_dict_iter.lookup (X0 ?_));simp only[beq_self_eq_true,if_true];refine ZB (X0 ?_);refine zn1 (by show X.A.units+1+1<Vt;lia) (Va O) hS g i hN (by rw[M];simpa using hz) λh' L U=>?_;show Xv _ _ (PY s.heap.objs.size [] >>= _) _ _ _;refine ZB (X0 (X0 ⟨rfl,?_⟩));revert L;refine fG λo E D l G J n _ v=>?_;have e:H s.heap.objs.size=none:=I.hok.fresh (XV _);revert y;refine fG λ_ _ _ _ _ _ _ _ N=>?_;rw[Yz B [] (by simpa using N)]at n v;refine⟨.ref s.heap.objs.size,_,I.laid (a:=s.heap.objs.size) (o:=.dT f) (t':=s.toks) (λb u z=>?_) (XV _) (dD hz (beq_eq_false_iff_ne.mpr (UQ (Xl big))) (dZ (KT.keeps k λb ys hb=>?_) (eE o E D l G J n v))),rfl,q _ e⟩
 .rw[U.2 b (Xl (XD z))];exact X4 _ z
 .rw[zp (zj hb e)];exact hb
def zgB:jr X (.type "str") (λxs H Q=>∃v z,xs=[v]/\(v=V.str z\/∃i:Int,v=V.int i/\i.natAbs.log2<1920/\z=toString i)/\Q (.str z) H):=by
 intro a s c H xs b Q I r h;obtain⟨v,z,rfl,h,q⟩:=h;rcases h with rfl | ⟨i,rfl,d,rfl⟩
 .exact zfm a s c H _ b Q I r ⟨z,rfl,q⟩
 .exact zaz a s c H _ b Q I r ⟨i,rfl,d,q⟩
end
open PySem
namespace ST
def run (a i:Nat):List Nat:=(Wc (Vx a i+1-i)).map (i + ·)
def walk (a:Nat):Nat->Nat->Nat->List Nat
 | 0,_,_=>[]
 | f+1,i,p=>run a i++walk a f (U8 a i p).1 (U8 a i p).2
def zn2 (a i:Nat):1<=(run a i).length/\(run a i).length<=10:=by
 unfold run Vx;rw[Y1,Wd];split<;>lia
theorem zcX (a:Nat):∀f i p,(walk a f i p).length<=10*f
 | 0,_,_=>XV _
 | f+1,i,p=>by
  rw[walk,XU];have:=(zn2 a i).2;have:=zcX a f (U8 a i p).1 (U8 a i p).2;lia
def steps (t:Wu):Nat->Ru->Ru
 | 0,p=>p
 | n+1,p=>steps t n (t.advance p)
theorem zbn (t:Wu):∀n m p,steps t (n+m) p=steps t m (steps t n p)
 | 0,m,p=>by rw[VR];rfl
 | n+1,m,p=>by
  rw[show n+1+m=(n+m)+1 from by lia];exact zbn t n m (t.advance p)
theorem zbo (t:Wu)(i pt:Nat)(a:Option Nat):∀(d r j:Nat),d<=r->steps t d { j:=j,more:=r,i:=i,perturb:=pt,dummy:=a }={ j:=j+d,more:=r-d,i:=i,perturb:=pt,dummy:=a }
 | 0,r,j,_=>rfl
 | d+1,r,j,h=>by
  have e:t.advance { j:=j,more:=r,i:=i,perturb:=pt,dummy:=a }={ j:=j+1,more:=r-1,i:=i,perturb:=pt,dummy:=a }:=by
   unfold PD;rw[bw (by show r>0;lia)]
  show steps t d (t.advance _)=_;rw[e,zbo t i pt a d (r-1) (j+1) (by lia)];congr 1<;>lia
def QC (a i pt:Nat)(b:Option Nat):Ru:={ j:=i,more:=Vx a i-i,i:=i,perturb:=pt,dummy:=b }
def zbp (a i:Nat):i<=Vx a i:=by
 unfold Vx;split<;>lia
def zh5 (t:Wu)(i pt:Nat)(a:Option Nat):steps t (run t.mask i).length (QC t.mask i pt a)=QC t.mask (U8 t.mask i pt).1 (U8 t.mask i pt).2 a:=by
 have b:(run t.mask i).length=(Vx t.mask i-i)+1:=by
  unfold run;rw[Y1,Wd];have:=zbp t.mask i;lia
 rw[b,zbn];unfold QC;rw[zbo t i pt a _ _ _ (XV _),SA];rw[steps,steps];unfold PD;rw[bq (by show ¬ 0>0;lia)]
theorem JS (t:Wu):∀(f i pt:Nat) (a:Option Nat) (n:Nat) (j:Nat),(walk t.mask f i pt)[n]?=some j->(steps t n (QC t.mask i pt a)).j=j
 | 0,_,_,_,_,_,h=>by simp[walk]at h
 | f+1,i,pt,a,n,j,h=>by
  rw[walk]at h;by_cases b:n<(run t.mask i).length
  .rw[VG b]at h;unfold run at h;rw[Xw,Tg (by unfold run at b;simpa using b)]at h;have c:(run t.mask i).length=(Vx t.mask i-i)+1:=by
    unfold run;rw[Y1,Wd];have:=zbp t.mask i;lia
   unfold QC;rw[zbo t i pt a n _ _ (by lia)];exact Option.some.inj h
  .rw[Vm (by lia)]at h;have e:n=(run t.mask i).length+(n-(run t.mask i).length):=by lia
   rw[e,zbn,zh5];exact JS t f _ _ a _ j h
theorem zfp (t:Wu)(Vs:Nat->Int)(h:Int):∀(n F:Nat) (p:Ru),(∀k,k<n->∃i,t.slot (steps t k p).j=.live i/\(Vs i==h)=false)->n<=F->TL t Vs h F p=TL t Vs h (F-n) (steps t n p)
 | 0,F,p,_,_=>rfl
 | n+1,F,p,hk,d=>by
  obtain⟨a,rfl⟩:∃a,F=a+1:=⟨F-1,by lia⟩;obtain⟨i,h1,h2⟩:=hk 0 (by lia);have b:t.slot p.j=.live i:=h1;rw[TL,b];show (if (Vs i==h)=true then _ else _)=_;rw[bq (by rw[h2];decide),zfp t Vs h n a (t.advance p) (λk c=>hk (k+1) (by lia)) (by lia),Nat.add_sub_add_right];rfl
def Up (xs:Array Nat):Prop:=∀i j,i<j->j<xs.size->xs.getD i 0<xs.getD j 0
def zlJ {xs:Array Nat}(U:Up xs)(j:Nat):∀(f lo a:Nat),a-lo<=f->lo<=a->a<=xs.size->(∀i,i<lo->xs.getD i 0<j)->(∀i,a<=i->i<xs.size->j<=xs.getD i 0) ->
  Vq xs j f lo a<=xs.size/\(∀i,i<Vq xs j f lo a->xs.getD i 0<j)/\(∀i,Vq xs j f lo a<=i->i<xs.size->j<=xs.getD i 0):=by
 intro f;induction f with
 | zero =>
  intro lo a n o d h1 h2;have:lo=a:=by lia
  subst this;exact⟨d,h1,h2⟩
 | succ f m =>
  intro lo a n o d h1 h2;by_cases b:lo<a
  .have q:(lo+a)/2<a:=by lia
   have p:lo<=(lo+a)/2:=by lia
   have c:(lo+a)/2<xs.size:=by lia
   have e:xs.getD ((lo+a)/2) j=xs.getD ((lo+a)/2) 0:=by
    simp[Array.getD,c]
   have l:Vq xs j (f+1) lo a=if xs.getD ((lo+a)/2) 0<j then Vq xs j f ((lo+a)/2+1) a else Vq xs j f lo ((lo+a)/2):=by
    rw[Vq,bw b];show (if xs.getD ((lo+a)/2) j<j then _ else _)=_;rw[e]
   by_cases g:xs.getD ((lo+a)/2) 0<j
   .rw[l,bw g];refine m ((lo+a)/2+1) a (by lia) (by lia) d (λi h=>?_) h2;by_cases he:i=(lo+a)/2
    .rw[he];exact g
    .exact Tr (U i ((lo+a)/2) (by lia) c) g
   .rw[l,bq g];refine m lo ((lo+a)/2) (by lia) (by lia) (by lia) h1 (λi h k=>?_);by_cases he:i=(lo+a)/2
    .rw[he];lia
    .have:=U ((lo+a)/2) i (by lia) k;lia
  .rw[Vq,bq b];have:lo=a:=by lia
   subst this;exact⟨d,h1,h2⟩
def ZO {xs:Array Nat}(U:Up xs)(j:Nat):Xu xs j<=xs.size/\(∀i,i<Xu xs j->xs.getD i 0<j)/\(∀i,Xu xs j<=i->i<xs.size->j<=xs.getD i 0) :=
 zlJ U j xs.size 0 xs.size (by lia) (W4 _) (XV _) (λ_ h=>absurd h (TW _)) (λi h1 h2=>absurd h2 (by lia))
def JT {xs:Array Nat}{i:Nat}(h:i<xs.size):xs[i]?=some (xs.getD i 0):=by
 simp[Array.getD,h]
def ZP {t:Wu}(U:Up t.place){i:Nat}(a:i<t.place.size):t.slot (t.place.getD i 0)=.live i:=by
 have b:=ZO U (t.place.getD i 0);have e:Xu t.place (t.place.getD i 0)=i:=by
  rcases P9 (Xu t.place (t.place.getD i 0)) i with h | h | h
  .have h1:=b.2.2 _ (XV _) (by lia);have h2:=U _ i h a;lia
  .exact h
  .have:=b.2.1 i h;lia
 unfold SetTable.slot;simp only[e,JT a];rw[bw (by simp)]
def slot_of {t:Wu}(U:Up t.place)(f:t.dummies=#[])(j:Nat):(∃i,i<t.place.size/\t.place.getD i 0=j/\t.slot j=.live i)\/(t.slot j=.empty/\∀i,i<t.place.size->t.place.getD i 0≠j):=by
 by_cases h:∃i,i<t.place.size/\t.place.getD i 0=j
 .obtain⟨i,a,rfl⟩:=h;exact .inl ⟨i,a,rfl,ZP U a⟩
 .have d:∀i,i<t.place.size->t.place.getD i 0≠j:=λi a e=>h ⟨i,a,e⟩;refine .inr ⟨?_,d⟩;unfold SetTable.slot;have h1:¬ ((t.place[Xu t.place j]?==some j)=true):=λz=>by
   have b:t.place[Xu t.place j]?=some j:=by simpa using z
   have c:Xu t.place j<t.place.size:=by
    rcases T9 (Xu t.place j) t.place.size with q | q
    .exact q
    .rw[WS q]at b;cases b
   rw[JT c]at b;exact d _ c (Option.some.inj b)
  simp only[];rw[bq h1,f];rfl
def Reach (t:Wu)(h:Int)(j:Nat):Prop:=∃n:Nat,(walk t.mask (WZ t.mask) (XB h%(t.mask+1)) (XB h))[n]?=some j/\∀k:Nat,k<n->∀a,(walk t.mask (WZ t.mask) (XB h%(t.mask+1)) (XB h))[k]?=some a->∃i,i<t.place.size/\t.place.getD i 0=a
def zaH (t:Wu)(h:Int):t.probeStart h=QC t.mask (XB h%(t.mask+1)) (XB h) none:=rfl
theorem zgC (t:Wu):∀n p,(steps t n p).dummy=p.dummy
 | 0,_=>rfl
 | n+1,p=>by
  rw[steps,zgC t n];unfold PD;split<;>rfl
def zgD {t:Wu}(U:Up t.place)(Vs:Nat->Int){h:Int}{i:Nat}(D:i<t.place.size)(A:Vs i=h)(one:∀e,e<t.place.size->Vs e=h->e=i)(R:Reach t h (t.place.getD i 0)):∃w,t.probe Vs h (t.probeStart h)=some (.candidate (t.place.getD i 0) i w):=by
 obtain⟨n,z,hk⟩:=R;have y:=(XZ.mp z).1;have L:=zcX t.mask (WZ t.mask) (XB h%(t.mask+1)) (XB h);have v:∀m:Nat,m<=n->(∀k,k<m->∃e,t.slot (steps t k (t.probeStart h)).j=.live e/\(Vs e==h)=false)\/∃f,f<m/\(∀k,k<f->∃e,t.slot (steps t k (t.probeStart h)).j=.live e/\(Vs e==h)=false)/\t.slot (steps t f (t.probeStart h)).j=.live i/\(steps t f (t.probeStart h)).j=t.place.getD i 0:=λm=>by
  induction m with
  | zero=>exact λ_=>.inl λk hk=>absurd hk (TW _)
  | succ m J =>
   intro G;rcases J (by lia) with h1 | ⟨f,a,b⟩
   .have I:∃r,(walk t.mask (WZ t.mask) (XB h%(t.mask+1)) (XB h))[m]?=some r:=⟨_,X2 (by lia)⟩;obtain⟨r,q⟩:=I;obtain⟨e,p,l⟩:=hk m (by lia) r q;have g:(steps t m (t.probeStart h)).j=r:=by
     rw[zaH];exact JS t _ _ _ none m r q
    have s:t.slot (steps t m (t.probeStart h)).j=.live e:=by
     rw[g,<- l];exact ZP U p
    by_cases he:Vs e=h
    .have:=one e p he;subst this;exact .inr ⟨m,by lia,h1,s,by rw[g,l]⟩
    .refine .inl λk E=>?_;by_cases u:k=m
     .subst u;exact⟨e,s,by simpa using he⟩
     .exact h1 k (by lia)
   .exact .inr ⟨f,by lia,b⟩
 have o:∀m:Nat,m<10*WZ t.mask->(∀k,k<m->∃e,t.slot (steps t k (t.probeStart h)).j=.live e/\(Vs e==h)=false)->t.slot (steps t m (t.probeStart h)).j=.live i->(steps t m (t.probeStart h)).j=t.place.getD i 0->∃w,t.probe Vs h (t.probeStart h)=some (.candidate (t.place.getD i 0) i w):=λm G H s g=>by
  unfold SetTable.probe;rw[zfp t Vs h m _ _ H (by lia)];obtain⟨x,B⟩:∃x,10*WZ t.mask-m=x+1:=⟨10*WZ t.mask-m-1,by lia⟩;rw[B,TL,s];simp only[];rw[bw (by simpa using A),g];exact⟨_,rfl⟩
 rcases v n (XV _) with h1 | ⟨f,a,b,c,d⟩
 .have g:(steps t n (t.probeStart h)).j=t.place.getD i 0:=by
   rw[zaH];exact JS t _ _ _ none n _ z
  exact o n (by lia) h1 (by rw[g];exact ZP U D) g
 .exact o f (by lia) b c d
def zfq {t:Wu}(U:Up t.place)(z:t.dummies=#[])(Vs:Nat->Int){h:Int}(H:∀i,i<t.place.size->Vs i≠h){e:Nat}(he:∀i,i<t.place.size->t.place.getD i 0≠e)(D:e∈walk t.mask (WZ t.mask) (XB h%(t.mask+1)) (XB h)) :
  ∃j,t.probe Vs h (t.probeStart h)=some (.empty j none)/\t.slot j=.empty/\Reach t h j/\j∈walk t.mask (WZ t.mask) (XB h%(t.mask+1)) (XB h):=by
 obtain⟨N,u⟩:=O0.mp D;have v:=(XZ.mp u).1;have L:=zcX t.mask (WZ t.mask) (XB h%(t.mask+1)) (XB h);have r:∀m:Nat,m<=N+1->(∀k:Nat,k<m->∀f,(walk t.mask (WZ t.mask) (XB h%(t.mask+1)) (XB h))[k]?=some f->∃i,i<t.place.size/\t.place.getD i 0=f)\/∃g j:Nat,g<m/\(walk t.mask (WZ t.mask) (XB h%(t.mask+1)) (XB h))[g]?=some j/\t.slot j=.empty/\(∀k:Nat,k<g->∀f,(walk t.mask (WZ t.mask) (XB h%(t.mask+1)) (XB h))[k]?=some f->∃i,i<t.place.size/\t.place.getD i 0=f):=λm=>by
  induction m with
  | zero=>exact λ_=>.inl λk hk=>absurd hk (TW _)
  | succ m E =>
   intro J;rcases E (by lia) with h1 | ⟨g,j,a,b⟩
   .obtain⟨f,l⟩:∃f,(walk t.mask (WZ t.mask) (XB h%(t.mask+1)) (XB h))[m]?=some f:=⟨_,X2 (by lia)⟩;rcases slot_of U z f with ⟨i,o,p,_⟩ | ⟨I,_⟩
    .refine .inl λk A G n=>?_;by_cases q:k=m
     .subst q;rw[l]at n;exact⟨i,o,by rw[p];exact Option.some.inj n⟩
     .exact h1 k (by lia) G n
    .exact .inr ⟨m,f,by lia,l,I,h1⟩
   .exact .inr ⟨g,j,by lia,b⟩
 rcases r (N+1) (XV _) with h1 | ⟨g,j,a,b,c,d⟩
 .obtain⟨i,o,p⟩:=h1 N (by lia) e u;exact absurd p (he i o)
 .refine⟨j,?_,c,⟨g,b,d⟩,X8 b⟩;have x:(steps t g (t.probeStart h)).j=j:=by
   rw[zaH];exact JS t _ _ _ none g j b
  have B:∀k,k<g->∃w,t.slot (steps t k (t.probeStart h)).j=.live w/\(Vs w==h)=false:=λk hk=>by
   obtain⟨f,l⟩:∃f,(walk t.mask (WZ t.mask) (XB h%(t.mask+1)) (XB h))[k]?=some f:=⟨_,X2 (by lia)⟩;obtain⟨i,o,p⟩:=d k hk f l;refine⟨i,?_,by simpa using H i o⟩;have:(steps t k (t.probeStart h)).j=f:=by
    rw[zaH];exact JS t _ _ _ none k f l
   rw[this,<- p];exact ZP U o
  unfold SetTable.probe;rw[zfp t Vs h g _ _ B (by lia)];obtain⟨s,y⟩:∃s,10*WZ t.mask-g=s+1:=⟨10*WZ t.mask-g-1,by lia⟩;rw[y,TL,x,c];simp only[zgC];rfl
def orb (m:Nat):Nat->Nat->Nat
 | 0,i=>i
 | n+1,i=>orb m n ((i*5+1)%m)
def zkl (m:Nat):Nat->Nat->List Nat
 | 0,_=>[]
 | n+1,i=>i::zkl m n ((i*5+1)%m)
theorem zcY (m:Nat):∀(n i e:Nat),e∈zkl m n i->∃k,k<n/\orb m k i=e
 | 0,_,_,h=>nomatch h
 | n+1,i,e,h=>by
  rcases XH.mp h with rfl | h
  .exact⟨0,Sz _,rfl⟩
  .obtain⟨k,hk,q⟩:=zcY m n _ e h;exact⟨k+1,by lia,q⟩
theorem zcq (m:Nat):∀a b i,orb m (a+b) i=orb m b (orb m a i)
 | 0,b,i=>by rw[VR];rfl
 | a+1,b,i=>by
  rw[show a+1+b=(a+b)+1 from by lia];exact zcq m a b _
def full {m:Nat}(h1:∀e,e<m->e∈zkl m m 0)(h2:orb m m 0=0){i e:Nat}(f:i<m)(he:e<m):∃k,k<m+1/\orb m k i=e:=by
 obtain⟨a,g,c⟩:=zcY m m 0 i (h1 i f);obtain⟨b,h,d⟩:=zcY m m 0 e (h1 e he);rcases T9 b a with q | q
 .refine⟨m-a+b,by lia,?_⟩;rw[<- c,<- zcq,show a+(m-a+b)=m+b from by lia,zcq,h2,d]
 .refine⟨b-a,by lia,?_⟩;rw[<- c,<- zcq,show a+(b-a)=b from by lia,d]
def zpi:(∀e,e<8->e∈zkl 8 8 0)/\orb 8 8 0=0:=by decide+kernel
def zlK:(∀e,e<32->e∈zkl 32 32 0)/\orb 32 32 0=0:=by decide+kernel
def zjd:(∀e,e<128->e∈zkl 128 128 0)/\orb 128 128 0=0:=by decide+kernel
def ZQ (a:Nat):Nat->Nat->Nat->AA
 | 0,i,p=>(i,p)
 | n+1,i,p=>ZQ a n (U8 a i p).1 (U8 a i p).2
theorem zey (c:Nat):∀a b i p,ZQ c (a+b) i p=ZQ c b (ZQ c a i p).1 (ZQ c a i p).2
 | 0,b,i,p=>by rw[VR];rfl
 | a+1,b,i,p=>by
  rw[show a+1+b=(a+b)+1 from by lia];exact zey c a b _ _
theorem zje (a:Nat):∀n i p,(ZQ a n i p).2=p/32^n
 | 0,i,p=>by rw[Nat.pow_zero,Nat.div_one];rfl
 | n+1,i,p=>by
  rw[ZQ,zje a n];show p/32/32^n=_;rw[Nat.div_div_eq_div_mul,UB,Po]
theorem zgE (a:Nat):∀n i p,i<a+1->(ZQ a n i p).1<a+1
 | 0,i,p,h=>h
 | n+1,i,p,h=>zgE a n _ _ (Rv _ (Sz _))
theorem zez (a:Nat):∀n i,(ZQ a n i 0).1=orb (a+1) n i
 | 0,_=>rfl
 | n+1,i=>by
  have b:(U8 a i 0).1=(i*5+1)%(a+1):=rfl;have c:(U8 a i 0).2=0:=rfl;rw[ZQ,b,c];exact zez a n _
theorem head_mem (a:Nat):∀(f n i p:Nat),n<f->(ZQ a n i p).1∈walk a f i p
 | 0,_,_,_,h=>absurd h (TW _)
 | f+1,0,i,p,_=>by
  rw[walk];refine WV _ ?_;unfold run;refine XJ.mpr ⟨0,VL.mpr ?_,by rfl⟩;have:=zbp a i;lia
 | f+1,n+1,i,p,h=>by
  rw[walk];exact Xc _ (head_mem a f n _ _ (by lia))
def zgF {a:Nat}(g:a=7\/a=31\/a=127)(h:Int){e:Nat}(he:e<a+1):e∈walk a (WZ a) (XB h%(a+1)) (XB h):=by
 have f:XB h<2^64:=by
  unfold XB;have h1:=VT h (show (2^64:Int)≠0 by decide);have h2:=VV h (show (0:Int)<2^64 by decide);lia
 have i:(ZQ a 13 (XB h%(a+1)) (XB h)).2=0:=by
  rw[zje];exact Nat.div_eq_of_lt (Tr f (by decide))
 have b:=zgE a 13 (XB h%(a+1)) (XB h) (Rv _ (Sz _));obtain⟨k,hk,d⟩:∃k,k<a+1+1/\orb (a+1) k (ZQ a 13 (XB h%(a+1)) (XB h)).1=e:=by
  rcases g with rfl | rfl | rfl
  .exact full zpi.1 zpi.2 b he
  .exact full zlK.1 zlK.2 b he
  .exact full zjd.1 zjd.2 b he
 have c:=head_mem a (WZ a) (13+k) (XB h%(a+1)) (XB h) (by unfold WZ;lia);rw[zey,i,zez,d]at c;exact c
def Y7 {α:Type}(xs:Array α){p:Nat}(x:α):(Xe xs p x).toList=xs.toList.take p++x::xs.toList.drop p:=by
 unfold Xe;simp;rw[WC (by rw[Vf,X6];lia)]
def zlL {α:Type}(xs:Array α){p:Nat}(b:p<=xs.size)(x:α)(i:Nat):(Xe xs p x)[i]?=if i<p then xs[i]? else if i=p then some x else xs[i-1]?:=by
 have a:(xs.toList.take p).length=p:=by
  rw[XQ,X6];lia
 rw[<- Xz,Y7];by_cases h1:i<p
 .rw[bw h1,VG (by lia),PZ h1,Xz]
 .rw[bq h1,Vm (by lia),a];by_cases h2:i=p
  .rw[bw h2,h2,SA];rfl
  .rw[bq h2,show i-p=(i-p-1)+1 from by lia,Py,T8,Xz];congr 1;lia
def jP {α:Type}(xs:Array α){p:Nat}(a:p<=xs.size)(x:α):(Xe xs p x).size=xs.size+1:=by
 rw[<- X6,Y7,XU,Xx,XQ,Vf,X6];lia
def ZR (xs:Array Nat){p:Nat}(a:p<=xs.size)(x i:Nat)(b:i<xs.size+1):(Xe xs p x).getD i 0=if i<p then xs.getD i 0 else if i=p then x else xs.getD (i-1) 0:=by
 have h:=zlL xs a x i;rw[JT (by rw[jP xs a x];exact b)]at h;by_cases h1:i<p
 .rw[bw h1]at h ⊢;rw[JT (by lia)]at h;exact Option.some.inj h
 .rw[bq h1]at h ⊢;by_cases h2:i=p
  .rw[bw h2]at h ⊢;exact Option.some.inj h
  .rw[bq h2]at h ⊢;rw[JT (by lia)]at h;exact Option.some.inj h
def zlM {t:Wu}(U:Up t.place)(m:t.dummies=#[]){j:Nat}(he:∀i,i<t.place.size->t.place.getD i 0≠j):(t.put j).2=Xu t.place j/\(t.put j).1={ t with place:=Xe t.place (Xu t.place j) j }/\Up (Xe t.place (Xu t.place j) j):=by
 have b:=ZO U j;refine⟨rfl,?_,λa c g k=>?_⟩
 .unfold SetTable.put;simp only[m];rfl
 .rw[jP _ b.1]at k;rw[ZR _ b.1 _ _ (by lia),ZR _ b.1 _ _ k];have lo:∀i,i<Xu t.place j->t.place.getD i 0<j:=b.2.1;have l:∀i,Xu t.place j<=i->i<t.place.size->j<t.place.getD i 0:=λi h1 h2=>by
   have:=b.2.2 i h1 h2;have:=he i h2;lia
  by_cases d:a<Xu t.place j
  .rw[bw d];by_cases e:c<Xu t.place j
   .rw[bw e];exact U a c g (by lia)
   .rw[bq e];by_cases f:c=Xu t.place j
    .rw[bw f];exact lo a d
    .rw[bq f];have h1:=lo a d;have h2:=l (c-1) (by lia) (by lia);lia
  .have e:¬ c<Xu t.place j:=by lia
   have f:¬ c=Xu t.place j:=by lia
   rw[bq d,bq e,bq f];by_cases h:a=Xu t.place j
   .rw[bw h];exact l (c-1) (by lia) (by lia)
   .rw[bq h];exact U (a-1) (c-1) (by lia) (by lia)
def Reach.more {t t':Wu}(g:t'.mask=t.mask)(l:∀i,i<t.place.size->∃a,a<t'.place.size/\t'.place.getD a 0=t.place.getD i 0){h:Int}{j:Nat}(R:Reach t h j):Reach t' h j:=by
 obtain⟨n,h1,h2⟩:=R;unfold Reach;rw[g];refine⟨n,h1,λk hk m d=>?_⟩;obtain⟨i,f,e⟩:=h2 k hk m d;obtain⟨a,c,b⟩:=l i f;exact⟨a,c,b.trans e⟩
def zlN {t:Wu}(U:Up t.place)(j:Nat):∀i,i<t.place.size->∃a,a<(Xe t.place (Xu t.place j) j).size/\(Xe t.place (Xu t.place j) j).getD a 0=t.place.getD i 0:=λi c=>by
 have b:=ZO U j;by_cases h:i<Xu t.place j
 .refine⟨i,by rw[jP _ b.1];lia,?_⟩;rw[ZR _ b.1 _ _ (by lia),bw h]
 .refine⟨i+1,by rw[jP _ b.1];lia,?_⟩;rw[ZR _ b.1 _ _ (by lia),bq (by lia),bq (by lia),SR]
theorem zjf (a:Nat)(owner:Array (Option Nat)):∀(f i p:Nat),SetTable.layClean.free a owner f i p=(walk a f i p).find? λj=>(owner.getD j (some 0)).isNone
 | 0,_,_=>rfl
 | f+1,i,p=>by
  rw[SetTable.layClean.free,walk,List.find?_append];unfold run;rw[List.find?_map];have e:((λj=>(owner.getD j (some 0)).isNone)∘λx=>i+x)=λk=>(owner.getD (i+k) (some 0)).isNone:=rfl;rw[e];cases h:(Wc (Vx a i+1-i)).find? λk=>(owner.getD (i+k) (some 0)).isNone with
  | some k=>rfl
  | none =>
   simp only[Option.map_none,Option.none_or];exact zjf a owner f _ _
structure Own (mask:Nat)(hs:List Int)(owner:Array (Option Nat))(k:Nat):Prop where
 sz:owner.size=mask+1
 few:(owner.toList.countP λo=>o.isNone)+k=mask+1
 at_:∀i,i<k->∃j:Nat,owner[j]?=some (some i)/\∃n:Nat,(walk mask (WZ mask) (XB (hs.getD i 0)%(mask+1)) (XB (hs.getD i 0)))[n]?=some j/\∀m:Nat,m<n->∀j':Nat,(walk mask (WZ mask) (XB (hs.getD i 0)%(mask+1)) (XB (hs.getD i 0)))[m]?=some j'->∃o,owner[j']?=some (some o)
 lt:∀j i:Nat,owner[j]?=some (some i)->i<k
 inj:∀j j' i:Nat,owner[j]?=some (some i)->owner[j']?=some (some i)->j=j'
def Own.nil (a:Nat)(b:List Int):Own a b (Array.replicate (a+1) none) 0:=by
 refine⟨by simp,by rw[Array.toList_replicate,List.countP_replicate];rfl,λi h=>absurd h (TW _),λj i h=>?_,λj c i h=>?_⟩
 .rw[PU]at h;split at h<;>cases h
 .rw[PU]at h;split at h<;>cases h
def count_set {l:List (Option Nat)}:∀{j:Nat} (k:Nat),l[j]?=some none->(l.set j (some k)).countP (λo=>o.isNone)+1=l.countP λo=>o.isNone:=by
 induction l with
 | nil=>exact λ_ h=>by simp at h
 | cons o r a =>
  intro j k h;cases j with
  | zero =>
   have:o=none:=by simpa using h
   subst this;simp[V5]
  | succ j =>
   have:=a k (by simpa using h);rw[List.set_cons_succ,V5,V5];lia
def zkm {l:List (Option Nat)}(h:0<l.countP λo=>o.isNone):∃j:Nat,l[j]?=some none:=by
 obtain⟨o,c,b⟩:=Ol.mp h;obtain⟨j,a⟩:=O0.mp c;refine⟨j,?_⟩;rw[a];cases o with
 | none=>rfl
 | some _=>cases b
def getD_none {owner:Array (Option Nat)}{j:Nat}:(owner.getD j (some 0)).isNone=true↔owner[j]?=some none:=by
 by_cases h:j<owner.size
 .have e:owner[j]?=some (owner.getD j (some 0)):=by simp[Array.getD,h]
  rw[e];cases owner.getD j (some 0)<;>simp
 .have e:owner.getD j (some 0)=some 0:=by simp[Array.getD,h]
  rw[e,WS (by lia)];simp
theorem zfr (a:Nat):∀(f i p:Nat),i<a+1->∀j∈walk a f i p,j<a+1
 | 0,_,_,_,_,h=>nomatch h
 | f+1,i,p,c,j,h=>by
  rw[walk]at h;rcases XG.mp h with h | h
  .unfold run at h;obtain⟨k,hk,rfl⟩:=XJ.mp h;have b:=VL.mp hk;have:Vx a i<=a:=by
    unfold Vx;split<;>lia
   lia
  .exact zfr a f _ _ (Rv _ (Sz _)) j h
def Own.step {d:Nat}(J:d=7\/d=31\/d=127){g:List Int}{owner:Array (Option Nat)}{k:Nat}(O:Own d g owner k)(hk:k<d+1):∃j,SetTable.layClean.free d owner (WZ d) (XB (g.getD k 0)%(d+1)) (XB (g.getD k 0))=some j/\Own d g (owner.setIfInBounds j (some k)) (k+1):=by
 obtain⟨e,he⟩:=zkm (l:=owner.toList) (by have:=O.few;lia);rw[Xz]at he;have I:e<owner.size:=by
  rcases T9 e owner.size with q | q
  .exact q
  .rw[WS q]at he;cases he
 have M:=zgF J (g.getD k 0) (e:=e) (by have:=O.sz;lia);rw[zjf];cases A:(walk d (WZ d) (XB (g.getD k 0)%(d+1)) (XB (g.getD k 0))).find? λj=>(owner.getD j (some 0)).isNone with
 | none =>
  have:=List.find?_eq_none.mp A e M;exact absurd (getD_none.mpr he) this
 | some j =>
  refine⟨j,rfl,?_⟩;have y:owner[j]?=some none:=getD_none.mp (List.find?_some (p:=λj=>(owner.getD j (some 0)).isNone) A);have D:j<owner.size:=by
   rcases T9 j owner.size with q | q
   .exact q
   .rw[WS q]at y;cases y
  have get:∀i:Nat,(owner.setIfInBounds j (some k))[i]?=if j=i then some (some k) else owner[i]?:=λi=>by
   rw[TV];by_cases h:j=i
   .rw[bw h,bw h];simp[D]
   .rw[bq h,bq h]
  have keep:∀(i o:Nat),owner[i]?=some (some o)->(owner.setIfInBounds j (some k))[i]?=some (some o):=λi o h=>by
   rw[get,bq (λz=>by rw[<- z,y]at h;cases h)];exact h
  refine⟨by rw[S7];exact O.sz,?_,λi Q=>?_,λr i h=>?_,λG H i h1 h2=>?_⟩
  .rw[Ri];have:=count_set (l:=owner.toList) (j:=j) k (by rw[Xz];exact y);have:=O.few;lia
  .by_cases B:i=k
   .subst B;refine⟨j,by rw[get,bw rfl],?_⟩;obtain⟨_,as,bs,u,L⟩:=List.find?_eq_some_iff_append.mp A;refine⟨as.length,by rw[u];simp,λm v r f=>?_⟩;rw[u,VG v]at f;have s:=X8 f;have x:=L r s;have E:r∈walk d (WZ d) (XB (g.getD i 0)%(d+1)) (XB (g.getD i 0)):=by
     rw[u];exact WV _ s
    cases w:owner[r]? with
    | none =>
     have:=zfr d (WZ d) _ _ (Rv _ (Sz _)) r E;rw[Vl.mpr ⟨by rw[O.sz];exact this,rfl⟩]at w;cases w
    | some o =>
     cases o with
     | none =>
      rw[getD_none.mpr w]at x;cases x
     | some o=>exact⟨o,keep r o w⟩
   .refine e9 (λN a n b c=>?_) (O.at_ i (by lia));refine⟨N,keep _ _ a,n,b,λm v r f=>?_⟩;obtain⟨o,w⟩:=c m v r f;exact⟨o,keep _ _ w⟩
  .rw[get]at h;split at h
   .have:k=i:=by simpa using h
    lia
   .have:=O.lt r i h;lia
  .rw[get]at h1 h2;split at h1<;>split at h2
   .lia
   .have:k=i:=by simpa using h1
    have:=O.lt H i h2;lia
   .have:k=i:=by simpa using h2
    have:=O.lt G i h1;lia
   .exact O.inj G H i h1 h2
theorem zgG {a:Nat}(i:a=7\/a=31\/a=127)(c:List Int)(p:c.length<=a+1):∀(l done:List Int) (owner:Array (Option Nat)),c=done++l->Own a c owner done.length ->
  ∃b,l.foldl (λ(f:Option (Array (Option Nat)×Nat)) h=>do
   let (owner,k) <- f
   let j <- SetTable.layClean.free a owner (WZ a) (XB h%(a+1)) (XB h)
   pure (owner.setIfInBounds j (some k),k+1)) (some (owner,done.length))=some (b,c.length)/\Own a c b c.length
 | [],done,owner,e,O=>by
  rw[Xa]at e;subst e;exact⟨owner,rfl,O⟩
 | h::r,done,owner,e,O=>by
  have o:c.getD done.length 0=h:=by
   rw[e];simp[List.getD]
  have d:done.length<a+1:=by
   have:c.length=done.length+(r.length+1):=by rw[e,XU,Xx]
   lia
  obtain⟨j,g,m⟩:=O.step i d;rw[o]at g;obtain⟨b,h1,h2⟩:=zgG i c p r (done++[h]) (owner.setIfInBounds j (some done.length)) (by rw[e,WW];rfl) (by rw[XU];exact m);refine⟨b,?_,h2⟩;rw[XU]at h1;rw[V6];have n:(do
   let (owner,k) <- (some (owner,done.length):Option (Array (Option Nat)×Nat))
   let j <- SetTable.layClean.free a owner (WZ a) (XB h%(a+1)) (XB h)
   pure (owner.setIfInBounds j (some k),k+1))=some (owner.setIfInBounds j (some done.length),done.length+1):=by
   show (SetTable.layClean.free a owner (WZ a) (XB h%(a+1)) (XB h)).bind _=_;rw[g];rfl
  rw[n];exact h1
def zqk {b:Nat}(d:b=7\/b=31\/b=127)(a:Array Int)(c:a.size<=b+1):∃owner,SetTable.layClean b a=some owner/\Own b a.toList owner a.size:=by
 obtain⟨owner,h1,h2⟩:=zgG d a.toList (by rw[X6];exact c) a.toList [] _ rfl (Own.nil b _);rw[X6]at h1 h2;refine⟨owner,?_,h2⟩;unfold SetTable.layClean;rw[<- Array.foldl_toList];exact congrArg (Option.map (·.1)) h1
def qT (a:Nat)(owner:Array (Option Nat)):AD:=(Wc (a+1)).filterMap λj=>(owner.getD j none).map (j,·)
def JU {c:Nat}{owner:Array (Option Nat)}(sz:owner.size=c+1){j i:Nat}:(j,i)∈qT c owner↔owner[j]?=some (some i):=by
 unfold qT;rw[Rr];constructor
 .rintro⟨a,ha,h⟩;have d:a<owner.size:=by rw[sz];exact VL.mp ha
  have e:owner[a]?=some (owner.getD a none):=by simp[Array.getD,d]
  cases ho:owner.getD a none with
  | none =>
   rw[ho]at h;cases h
  | some b =>
   rw[ho]at h;have f:(a,b)=(j,i):=Option.some.inj h;cases f;rw[e,ho]
 .intro h;have d:j<owner.size:=by
   rcases T9 j owner.size with q | q
   .exact q
   .rw[WS q]at h;cases h
  have e:owner[j]?=some (owner.getD j none):=by simp[Array.getD,d]
  refine⟨j,VL.mpr (by rw[<- sz];exact d),?_⟩;rw[e]at h;rw[Option.some.inj h];rfl
def zjg (c:Nat)(owner:Array (Option Nat)):(qT c owner).Pairwise λa b=>a.1<b.1:=by
 unfold qT;rw[List.pairwise_filterMap];refine List.pairwise_lt_range.imp λ{a b} f x d y e=>?_;cases h1:owner.getD a none with
 | none=>rw[h1]at d;cases d
 | some p =>
  cases h2:owner.getD b none with
  | none=>rw[h2]at e;cases e
  | some q =>
   rw[h1]at d;rw[h2]at e;have g:(a,p)=x:=Option.some.inj d;have h:(b,q)=y:=Option.some.inj e;rw[<- g,<- h];exact f
def zkn {c:Nat}{s:List Int}{owner:Array (Option Nat)}{k:Nat}(O:Own c s owner k):((qT c owner).map (·.2)).Perm (Wc k):=by
 have u:((qT c owner).map (·.2)).Nodup:=by
  refine VP.mpr ((zjg c owner).imp_of_mem λ{a b} o p d e=>?_);obtain⟨f,g⟩:=a;obtain⟨h,m⟩:=b;have n:g=m:=e;subst n;have:=O.inj f h g ((JU O.sz).mp o) ((JU O.sz).mp p);have l:f<h:=d;lia
 refine(Vk u List.nodup_range).mpr λi=>?_;rw[VL,XJ];constructor
 .rintro⟨⟨j,i'⟩,hm,rfl⟩;exact O.lt j _ ((JU O.sz).mp hm)
 .intro q;obtain⟨j,r,_⟩:=O.at_ i q;exact⟨(j,i),(JU O.sz).mpr r,rfl⟩
def zn3 {mask:Nat}(G:mask=7\/mask=31\/mask=127)(finger moves:Nat)(led plain:Bool)(e:Array Int)(E:e.size<=mask+1):∃place f,SetTable.laid mask finger moves led plain e=some ({ mask:=mask,place:=place,dummies:=#[],finger:=finger,led:=led,moves:=moves,plain:=plain },f) /\
  Up place/\place.size=e.size/\f.size=e.size/\f.toList.Perm (Wc e.size)/\(∀i,i<place.size->place.getD i 0<mask+1) /\
  ∀i,i<place.size->Reach { mask:=mask,place:=place,dummies:=#[],finger:=finger,led:=led,moves:=moves,plain:=plain } (e.toList.getD (f.getD i 0) 0) (place.getD i 0):=by
 obtain⟨d,h1,O⟩:=zqk G e E;have perm:=zkn O;have up:=zjg mask d;have z:(qT mask d).length=e.size:=by
  have:=perm.length_eq;rw[Y1,Wd]at this;exact this
 have p:∀i (h:i<(qT mask d).length),((qT mask d).map (·.1)).toArray.getD i 0=((qT mask d)[i]).1:=λi h=>by
  simp[Array.getD,h]
 have H:∀i (h:i<(qT mask d).length),((qT mask d).map (·.2)).toArray.getD i 0=((qT mask d)[i]).2:=λi h=>by
  simp[Array.getD,h]
 refine dF ((qT mask d).map (·.1)).toArray ((qT mask d).map (·.2)).toArray (dJ ?_ (λi j s D=>?_) (by simp[z]) (by simp[z]) (dD perm (λi r=>?_) (λi r=>?_)))
 .unfold SetTable.laid;rw[h1];rfl
 .have m:j<(qT mask d).length:=by simpa using D
  rw[p i (by lia),p j m];exact Vg.mp up i j (by lia) m s
 .have g:i<(qT mask d).length:=by simpa using r
  rw[p i g];have l:=Tl g;have:=(JU O.sz (j:=(qT mask d)[i].1) (i:=(qT mask d)[i].2)).mp l;rw[<- O.sz];rcases T9 (qT mask d)[i].1 d.size with q | q
  .exact q
  .rw[WS q]at this;cases this
 .have g:i<(qT mask d).length:=by simpa using r
  rw[p i g,H i g];have l:=Tl g;have v:=(JU O.sz (j:=(qT mask d)[i].1) (i:=(qT mask d)[i].2)).mp l;refine e9 (λI a n b c=>?_) (O.at_ _ (O.lt _ _ v));have A:=O.inj _ _ _ a v;rw[A]at b;refine⟨n,b,λk hk y m=>?_⟩;obtain⟨o,u⟩:=c k hk y m;obtain⟨x,w,B⟩:=Tf ((JU O.sz).mpr u);refine⟨x,by simpa using w,?_⟩;show ((qT mask d).map (·.1)).toArray.getD x 0=y;rw[p x w,B]
structure Good (t:Wu)(hs:Array Int):Prop where
 mask:t.mask=7\/t.mask=31\/t.mask=127
 sz:t.place.size=hs.size
 dum:t.dummies=#[]
 up:Up t.place
 le:∀i,i<t.place.size->t.place.getD i 0<t.mask+1
 room:t.place.size*5<t.mask*3
 reach:∀i,i<t.place.size->Reach t (hs.toList.getD i 0) (t.place.getD i 0)
def Good.free {t:Wu}{r:Array Int}(G:Good t r):∃e,e<t.mask+1/\∀i,i<t.place.size->t.place.getD i 0≠e:=by
 refine Rg λp=>?_;have all:∀e,e<t.mask+1->∃i,i<t.place.size/\t.place.getD i 0=e:=λe he=>Rg λh2=>p ⟨e,he,λi c z=>h2 ⟨i,c,z⟩⟩;have y:=G.room;have f:∀e,e<t.mask+1->∃i,i<t.place.size/\e<=i:=λe=>by
  induction e with
  | zero=>exact λh=>let ⟨i,c,_⟩:=all 0 h;⟨i,c,W4 _⟩
  | succ e B =>
   intro h;obtain⟨i,c,n⟩:=all (e+1) h;obtain⟨A,o,j⟩:=all e (by lia);have cnt:∀d,d<=e+1->∃i,i<t.place.size/\t.place.getD i 0=d/\d<=i:=λd=>by
    induction d with
    | zero=>exact λ_=>let ⟨i,c,he⟩:=all 0 (by lia);⟨i,c,he,W4 _⟩
    | succ d g =>
     intro w;obtain⟨a,l,v,D⟩:=g (by lia);obtain⟨b,m,k⟩:=all (d+1) (by lia);have:a<b:=by
      rcases P9 a b with q | q | q
      .exact q
      .subst q;lia
      .have:=G.up b a q l;lia
     exact⟨b,m,k,by lia⟩
   obtain⟨x,s,_,u⟩:=cnt (e+1) (XV _);exact⟨x,s,u⟩
 obtain⟨i,c,E⟩:=f t.mask (by lia);lia
def Good.found {t:Wu}{a:Array Int}(G:Good t a)(Vs:Nat->Int)(f:∀i,i<a.size->Vs i=a.toList.getD i 0)(j:a.toList.Nodup){i:Nat}(c:i<a.size):∃l,t.probe Vs (a.toList.getD i 0) (t.probeStart (a.toList.getD i 0))=some (.candidate (t.place.getD i 0) i l):=by
 have d:∀k (h:k<a.size),a.toList.getD k 0=a.toList[k]'(by rw[X6];exact h):=λk h=>by
  rw[WP,X2 (by rw[X6];exact h)];rfl
 refine zgD G.up Vs (by rw[G.sz];exact c) (f i c) (λg b e=>?_) (G.reach i (by rw[G.sz];exact c));rw[G.sz]at b;rw[f g b,d g b,d i c]at e;exact(List.getElem_inj j).mp e
def Good.missed {t:Wu}{b:Array Int}(G:Good t b)(Vs:Nat->Int)(g:∀i,i<b.size->Vs i=b.toList.getD i 0){h:Int}(l:h ∉ b.toList):∃j,t.probe Vs h (t.probeStart h)=some (.empty j none)/\j<t.mask+1/\(∀i,i<t.place.size->t.place.getD i 0≠j)/\Reach t h j:=by
 obtain⟨e,he,k⟩:=G.free;have c:∀i,i<t.place.size->Vs i≠h:=λi a z=>by
  rw[G.sz]at a;rw[g i a,WP,X2 (by rw[X6];exact a)]at z;have m:b.toList[i]'(by rw[X6];exact a)=h:=z;exact l (m ▸ Tl _)
 obtain⟨j,h1,h2,d,f⟩:=zfq G.up G.dum Vs (h:=h) c k (zgF G.mask h he);refine⟨j,h1,zfr _ _ _ _ (Rv _ (Sz _)) j f,λi a z=>?_,d⟩;rw[<- z,ZP G.up a]at h2;cases h2
theorem Good.put {t:Wu}{c:Array Int}(G:Good t c){h:Int}{j:Nat}(o:j<t.mask+1)(he:∀i,i<t.place.size->t.place.getD i 0≠j)(R:Reach t h j)(e:(t.place.size+1)*5<t.mask*3):Good (t.put j).1 (Xe c (t.put j).2 h):=by
 obtain⟨n,m,U⟩:=zlM G.up G.dum he;have b:=ZO G.up j;rw[n,m];have bs:Xu t.place j<=c.size:=by rw[<- G.sz];exact b.1
 have d:∀i,(Xe c (Xu t.place j) h).toList.getD i 0=if i<Xu t.place j then c.toList.getD i 0 else if i=Xu t.place j then h else c.toList.getD (i-1) 0:=λi=>by
  rw[WP,Xz,zlL c bs];split
  .rw[WP,Xz]
  .split
   .rfl
   .rw[WP,Xz]
 have more:∀{g:Int} {k:Nat},Reach t g k->Reach { t with place:=Xe t.place (Xu t.place j) j } g k:=λl=>Reach.more (t:=t) (t':={ t with place:=Xe t.place (Xu t.place j) j }) rfl (zlN G.up j) l;refine⟨G.mask,?_,G.dum,U,λi f=>?_,?_,λi f=>?_⟩
 .show (Xe t.place _ j).size=_;rw[jP _ b.1,jP _ bs,G.sz]
 .have a:i<t.place.size+1:=by
   have:=f;rw[show ({ t with place:=Xe t.place (Xu t.place j) j }:Wu).place=Xe t.place (Xu t.place j) j from rfl,jP _ b.1]at this;exact this
  show (Xe t.place _ j).getD i 0<t.mask+1;rw[ZR _ b.1 _ _ a];split
  .exact G.le i (by lia)
  .split
   .exact o
   .exact G.le (i-1) (by lia)
 .show (Xe t.place _ j).size*5<t.mask*3;rw[jP _ b.1];exact e
 .have a:i<t.place.size+1:=by
   have:=f;rw[show ({ t with place:=Xe t.place (Xu t.place j) j }:Wu).place=Xe t.place (Xu t.place j) j from rfl,jP _ b.1]at this;exact this
  show Reach _ _ ((Xe t.place _ j).getD i 0);rw[d,ZR _ b.1 _ _ a];by_cases h1:i<Xu t.place j
  .rw[bw h1,bw h1];exact more (G.reach i (by lia))
  .rw[bq h1,bq h1];by_cases h2:i=Xu t.place j
   .rw[bw h2,bw h2];exact more R
   .rw[bq h2,bq h2];exact more (G.reach (i-1) (by lia))
def zh6 (t:Wu)(b:Array Int)(p:b.size=5\/b.size=19):∃t' a,t.relaid b (Uh b.size)=some (t',a)/\a.size=b.size/\a.toList.Perm (Wc b.size)/\t'.led=t.led/\t'.plain=t.plain/\t'.place.size=b.size/\Good t' (a.map λi=>b.toList.getD i 0):=by
 have c:∀mask,(mask=7\/mask=31\/mask=127)->b.size<=mask+1->b.size*5<mask*3->SQ (Uh b.size)-1=mask->∃t' a,t.relaid b (Uh b.size)=some (t',a)/\a.size=b.size/\a.toList.Perm (Wc b.size)/\t'.led=t.led/\t'.plain=t.plain/\t'.place.size=b.size/\Good t' (a.map λi=>b.toList.getD i 0):=λmask j o q k=>by
  refine eY (λplace a h1 h2 d g=>eV λl m n=>?_) (zn3 j t.finger (t.movedTo mask) t.led t.plain b o);refine⟨{ mask:=mask,place:=place,dummies:=#[],finger:=t.finger,led:=t.led,moves:=t.movedTo mask,plain:=t.plain },a,?_,g,l,rfl,rfl,d,j,?_,rfl,h2,m,?_,λi h=>?_⟩
  .unfold SetTable.relaid;rw[k];exact h1
  .show place.size=_;rw[U3,d,g]
  .show place.size*5<mask*3;rw[d];exact q
  .have f:i<a.size:=by
    have:i<place.size:=h;lia
   have e:(a.map λi=>b.toList.getD i 0).toList.getD i 0=b.toList.getD (a.getD i 0) 0:=by
    rw[WP,Xz,Array.getElem?_map,JT f];rfl
   rw[e];exact n i h
 rcases p with e | e
 .exact c 31 (.inr (.inl rfl)) (by lia) (by lia) (by rw[e];decide+kernel)
 .exact c 127 (.inr (.inr rfl)) (by lia) (by lia) (by rw[e];decide+kernel)
def qx (a:Array (Int×X9))(ep:Nat)(t:Wu):Obj:={ cls:=.type "set",dict:=none,data:=.set a ep t }
def kP (p:Int×Int):List Key:=[.inl p.1,.inl p.2]
def InB (p:Int×Int):Prop:=(0<=p.1/\p.1<8)/\(0<=p.2/\p.2<8)
def hP (prog:Xm)(w:W1)(p:Int×Int):Int:=(tk2 prog w).hash (kP p)
section
variable {prog:Xm}{w:W1}{A:WN}{E:X9->X7->Prop}{s:X7}{a:Addr}{es:Array (Int×X9)}{ep:Nat}{t:Wu}
def zql {p q:Int×Int}(x:InB p)(y:InB q)(e:hP prog w p=hP prog w q):p=q:=by
 obtain⟨a,b⟩:=p;obtain⟨f,g⟩:=q;obtain⟨⟨h,m⟩,n,o⟩:=x;obtain⟨⟨r,s⟩,u,v⟩:=y;simp only at h m n o r s u v;obtain⟨i,rfl⟩:∃i:Nat,a=i:=⟨a.toNat,by lia⟩;obtain⟨j,rfl⟩:∃i:Nat,b=i:=⟨b.toNat,by lia⟩;obtain⟨k,rfl⟩:∃i:Nat,f=i:=⟨f.toNat,by lia⟩;obtain⟨l,rfl⟩:∃i:Nat,g=i:=⟨g.toNat,by lia⟩;unfold hP kP at e;rw[Jw,Jw]at e;obtain⟨c,d⟩:=zgA (by lia) (by lia) (by lia) (by lia) e;rw[c,d]
def JV {h:Heap}{x:Addr}{p:Int×Int}(h1:zH h (.ref x) p):(tk2 prog w).is h (kP p) x:=by
 obtain⟨b,o,n,t,u,e,a,c,d⟩:=h1;cases e;exact⟨o,#[.int p.1 t,.int p.2 u],n,a,c,d,.cons (zbe p.1 t) (.cons (zbe p.2 u) .nil)⟩
theorem Good.fits {a:Array Int}(G:Good t a):t.fits a.size=true:=by
 have h1:=G.sz;have h2:=G.room;unfold SetTable.fits N7;rw[G.dum,h1];simp;lia
def Good.odd {a:Array Int}(G:Good t a):t.gaveWay=false:=by
 unfold SetTable.gaveWay;rcases G.mask with e | e | e<;>rw[e]<;>rfl
def xU {Q:Array (Int×X9)×Nat×Wu->X7->Prop}(b:s.heap.get? a=some (qx es ep t))(G:Good t (es.map (·.1)))(q:Q (es,ep,t) s):Xv (Xr prog w) A (setState a) Q E s:=by
 refine Sr b rfl ?_ q;have:=G.fits;rwa [U3]at this
def zfs (i:Nat)(a:i<(es.map (·.1)).size):(es[i]?.map (·.1)).getD 0=(es.map (·.1)).toList.getD i 0:=by
 rw[WP,Xz,Array.getElem?_map]
def zd0 {n:Nat}{h:Int}{x:X9}{Q:SetFound->X7->Prop}(g:s.heap.get? a=some (qx es ep t))(G:Good t (es.map (·.1)))(k:h ∉ (es.map (·.1)).toList)
  (d:∀j,j<t.mask+1->(∀i,i<t.place.size->t.place.getD i 0≠j)->Reach t h j->Q (.free j false) s):Xv (Xr prog w) A (P1 a x h true (n+1) none) Q E s:=by
 obtain⟨j,e,h1,h2,c⟩:=G.missed (λi=>(es[i]?.map (·.1)).getD 0) zfs k;rw[P1];refine ZB (xU g G ?_);dsimp only;rw[G.odd,bq XT];generalize f:t.probe _ h _=m;have b:m=some (.empty j none):=f.symm.trans e;subst b;exact X0 (d j h1 h2 c)
def zeA {d:Nat}{x:Addr}{p:Int×Int}{Q:Bool->X7->Prop}(z:zH s.heap (.ref x) p)(q:Q false s):Xv (Xr prog w) A (Sq 8 (.ref x)) Q E s:=by
 obtain⟨b,o,n,t,u,e,j,l,m⟩:=z;cases e;have y:s.TypeIs (.ref x) "tuple":=⟨o,j,l⟩;unfold Sq;refine ZB (RC y ?_);dsimp only;rw[bw (by decide)];refine ZB (X0 ?_);rw[bq (by decide)];refine ZB (wpAny_seqItems j m ?_);dsimp only;refine ZB ?_;rw[<- Rp];refine Tn _ (λc r h=>r.1=none/\h=s/\∀v∈c,∃i t,v=Vj i t) _ ?_ ?_ _ _ ⟨rfl,rfl,λv k=>?_⟩
 .rintro v c r h ⟨f,rfl,a⟩;obtain⟨i,t,rfl⟩:=a v XX;rw[show Sq 7 (Vj i t)=pure false by unfold Sq;rfl];refine ZB (X0 ?_);rw[bq XT];exact X0 ⟨rfl,rfl,λu g=>a u (XY _ g)⟩
 .rintro⟨r1,r2⟩ h ⟨f,rfl,_⟩;simp only at f;subst f;exact X0 q
 .simp at k;rcases k with rfl | rfl
  .exact⟨_,_,rfl⟩
  .exact⟨_,_,rfl⟩
def zlO {x:Addr}{p:Int×Int}{l:List X9}{Q:Bool->X7->Prop}(i:zH s.heap (.ref x) p)(j:∀v∈l,∃b q,v=.ref b/\zH s.heap (.ref b) q)(q:Q false s):Xv (Xr prog w) A (searchCouldBeSeen (.ref x) l) Q E s:=by
 unfold searchCouldBeSeen;refine ZB ?_;refine Tn _ (λc r g=>r.1=none/\g=s/\∀v∈c,∃b q,v=.ref b/\zH s.heap (.ref b) q) _ ?_ ?_ _ _ ⟨rfl,rfl,j⟩
 .rintro v c r g ⟨f,rfl,a⟩;obtain⟨b,k,rfl,h⟩:=a v XX;dsimp only;split
  .exact X0 ⟨rfl,rfl,λu e=>a u (XY _ e)⟩
  .refine ZB ((tk2 prog w).quiet (JV i) ?_);rw[bq (by decide)];refine ZB ((tk2 prog w).quiet (JV h) ?_);rw[bq (by decide)];refine ZB (zeA (d:=0) i ?_);rw[bq XT];refine ZB (zeA (d:=0) h ?_);rw[bq XT];exact X0 ⟨rfl,rfl,λu e=>a u (XY _ e)⟩
 .rintro⟨r1,r2⟩ g ⟨f,rfl,_⟩;simp only at f;subst f;exact X0 q
def zlP {x:Addr}{p:Int×Int}{Q:Bool->X7->Prop}(y:zH s.heap (.ref x) p)(q:Q true s):Xv (Xr prog w) A (OO 8 (.ref x)) Q E s:=by
 obtain⟨b,o,n,t,u,e,h,k,l⟩:=y;cases e;have m:s.TypeIs (.ref x) "tuple":=⟨o,h,k⟩;unfold OO;refine ZB (SZ m PySem.F.slot_tuple_hash.lookup ?_);dsimp only;refine ZB (wpAny_seqItems h l ?_);dsimp only[Option.getD];refine ZB ?_;rw[<- Rp];refine Tn _ (λc r g=>r.1=none/\g=s/\∀v∈c,∃i t,v=Vj i t) _ ?_ ?_ _ _ ⟨rfl,rfl,λv j=>?_⟩
 .rintro v c r g ⟨d,rfl,a⟩;obtain⟨i,t,rfl⟩:=a v XX;rw[show OO 7 (Vj i t)=pure true by unfold OO;rfl];refine ZB (X0 ?_);rw[bq (by decide)];exact X0 ⟨rfl,rfl,λu f=>a u (XY _ f)⟩
 .rintro⟨r1,r2⟩ g ⟨d,rfl,_⟩;simp only at d;subst d;exact X0 q
 .simp at j;rcases j with rfl | rfl
  .exact⟨_,_,rfl⟩
  .exact⟨_,_,rfl⟩
def zft {n:Nat}{h:Int}{x b:Addr}{p:Int×Int}{i:Nat}{Q:SetFound->X7->Prop}(l:A.units<Vt)(f:s.heap.get? a=some (qx es ep t))(G:Good t (es.map (·.1)))(z:(es.map (·.1)).toList.Nodup)
  (all:∀e∈es.toList,∃b q,e.2=WO b/\zH s.heap (.ref b) q) (d:es[i]?=some (h,.ref b)) (g:zH s.heap (.ref x) p) (k:zH s.heap (.ref b) p)
  (j:Q (.there none) s):Xv (Xr prog w) A (P1 a (.ref x) h true (n+1) none) Q E s:=by
 have c:i<(es.map (·.1)).size:=by
  rw[U3];exact(Vl.mp d).1
 have o:(es.map (·.1)).toList.getD i 0=h:=by
  rw[<- zfs i c,d];rfl
 obtain⟨B,e⟩:=G.found (λi=>(es[i]?.map (·.1)).getD 0) zfs z c;rw[o]at e;rw[P1];refine ZB (xU f G ?_);dsimp only;rw[G.odd,bq XT];generalize u:t.probe _ h _=m;have r:m=some (.candidate (t.place.getD i 0) i B):=u.symm.trans e;subst r;dsimp only;have seen:∀v∈(es.filter (·.1==h)).toList.map (·.2),∃b q,v=WO b/\zH s.heap (.ref b) q:=λv y=>by
  obtain⟨e,he,rfl⟩:=XJ.mp y;rw[On]at he;exact all e (XS.mp he).1
 rw[d];cases hl:t.led with
 | true =>
  rw[bq (by decide)];refine ZB (VS ((tk2 prog w).eqBool l (JV k) (JV g) ?_));refine ZB (xU f G ?_);dsimp only;rw[br rfl,bw (by decide)];exact X0 j
 | false =>
  rw[bw (by decide)];refine ZB (zlO g seen ?_);rw[bq XT];refine ZB (VS ((tk2 prog w).eqBool l (JV k) (JV g) ?_));refine ZB (xU f G ?_);dsimp only;rw[br rfl,bw (by decide)];exact X0 j
end
def zcZ (f:Int×Int->Int)(q:Addr×(Int×Int)):Int×X9:=(f q.2,WO q.1)
structure zd1 (f:Int×Int->Int)(led:Bool)(h:Heap)(a:Addr)(ks:List (Addr×(Int×Int))):Prop where
 ex:∃es ep t,h.get? a=some (qx es ep t)/\es.toList=ks.map (zcZ f)/\Good t (es.map (·.1))/\t.led=led/\t.plain=true
 nd:(ks.map (·.2)).Nodup
 cells:∀q∈ks,zH h (.ref q.1) q.2
 inb:∀q∈ks,InB q.2
def zH.up {h h':Heap}{x:Addr}{p:Int×Int}(H:zH h (.ref x) p){a:Addr}(j:V8 a h h'){o:Obj}(i:h.get? a=some o)(g:o.cls=.type "set"):zH h' (.ref x) p:=by
 obtain⟨b,k,n,t,u,e,c,d,f⟩:=H;cases e;refine⟨x,k,n,t,u,rfl,?_,d,f⟩;rw[j.2 x λz=>?_]
 .exact c
 .subst z;rw[i]at c;cases c;rw[g]at d;exact absurd d (by decide)
section
variable {prog:Xm}{w:W1}{A:WN}{E:X9->X7->Prop}{s:X7}{a:Addr}{es:Array (Int×X9)}{ep:Nat}{t:Wu}{ks:List (Addr×(Int×Int))}{f:Int×Int->Int}{led:Bool}
def YA (he:es.toList=ks.map (zcZ f)):(es.map (·.1)).toList=ks.map λq=>f q.2:=by
 rw[UN,he,WE];rfl
def zko (inj:∀p q,InB p->InB q->f p=f q->p=q)(b:(ks.map (·.2)).Nodup)(a:∀q∈ks,InB q.2):(ks.map λq=>f q.2).Nodup:=by
 rw[W9,VP]at b ⊢;refine b.imp_of_mem λ{x y} c d h e=>h (inj _ _ (a x c) (a y d) e)
def zgH {b:Array (Int×X9)}{t':Wu}{Q:Unit->X7->Prop}(c:s.heap.get? a=some (qx es ep t))(hz:b.size<=64)
  (q:∀h',V8 a s.heap h'->h'.get? a=some (qx b (ep+1) t')->Q () { s with heap:=h' }):Xv (Xr prog w) A (storeSet a b t') Q E s:=by
 refine wpAny_storeSet_of (o:=qx es ep t) c rfl (q _ (WB ..) ?_) (X5 hz (by rw[SK];decide));have:=Wr (Obj.putSet b t') c (by rw[putSet_of b t' (o:=qx es ep t) rfl];rfl);rw[putSet_of b t' (o:=qx es ep t) rfl]at this;exact this
theorem zgI {α:Type}(d:α)(xs:Array α):∀(l:List Nat),(∀i∈l,i<xs.size)->l.filterMap (λi=>xs[i]?)=l.map λi=>xs.toList.getD i d
 | [],_=>rfl
 | i::l,h=>by
  have a:=h i XX;rw[UU,Xo,V1 a];dsimp only;rw[zgI d xs l λj b=>h j (XY _ b)];congr 1;rw[WP,Xz,V1 a];rfl
def zfu {n:Nat}(a:n=5\/n=19):¬ SQ (Uh n)>Xq:=by
 rw[SK];rcases a with rfl | rfl
 .rw[show SQ (Uh 5)=32 by decide+kernel];lia
 .rw[show SQ (Uh 19)=128 by decide+kernel];lia
def zlQ {Q:Unit->X7->Prop}(v:s.heap.get? a=some (qx es ep t))(G:t.fits es.size=true)(u:es.size=5\/es.size=19)(he:es.toList=ks.map (zcZ f))
  (q:∀(h':Heap) (c:Array (Int×X9)) (t':Wu) (k:List (Addr×(Int×Int))),V8 a s.heap h'->h'.get? a=some (qx c (ep+1) t')->c.toList=k.map (zcZ f)->k.Perm ks->Good t' (c.map (·.1))->t'.led=t.led->t'.plain=t.plain->Q () { s with heap:=h' }):Xv (Xr prog w) A (setRelay a (Uh es.size)) Q E s:=by
 have j:(es.map (·.1)).size=es.size:=U3 ..;refine eY (λt' b p r l x=>eV λy z B=>?_) (zh6 t (es.map (·.1)) (by rw[j];exact u));rw[j]at p r l z;have d:∀i∈b.toList,i<es.size:=λi h=>VL.mp (l.mem_iff.mp h);have n:ks.length=es.size:=by
  rw[<- X6,he,Y1]
 have e:Addr×(Int×Int):=(0,(0,0));have m:(b.filterMap (es[·]?)).toList=(b.toList.map λi=>ks.getD i e).map (zcZ f):=by
  rw[Array.toList_filterMap,zgI (zcZ f e) es b.toList d,WE];refine Xf λi h=>?_;have h1:=d i h;show es.toList.getD i _=zcZ f (ks.getD i e);rw[he,WP,Xw,WP,X2 (by lia),TX,To,To]
 have g:(b.filterMap (es[·]?)).size=es.size:=by
  rw[<- X6,m,Y1,Y1,X6,r]
 unfold setRelay;refine ZB (Sr (o:=qx es ep t) v rfl G ?_);dsimp only;rw[bq (zfu u),p];refine ZB ?_;show Xv (Xr prog w) A (do
  let c:=b.filterMap (es[·]?)
  if c.size != es.size then QR "internal:set-table-lost-an-element"
  pure (c,t')) _ _ _
 dsimp only;rw[g,bq (by simp)];refine X0 ?_;dsimp only;refine zgH v (by rw[g];lia) λh' h1 h2=>q h' _ t' _ h1 h2 m ?_ ?_ x y
 .have:=l.map λi=>ks.getD i e;rw[<- n,zhX]at this;exact this
 .have D:(b.filterMap (es[·]?)).map (·.1)=b.map λi=>(es.map (·.1)).toList.getD i 0:=by
   apply Array.toList_inj.mp;rw[YA m,UN,WE];refine Xf λi h=>?_;have h1:=d i h;show f (ks.getD i e).2=_;rw[YA he,WP,WP,Xw,X2 (by lia),TX,To,To]
  rw[D];exact B
def zlR {n:Nat}{x:Addr}{p:Int×Int}{Q:Bool->X7->Prop}(inj:∀p q,InB p->InB q->f p=f q->p=q)(hu:A.units<Vt)(S:zd1 f led s.heap a ks)(hx:zH s.heap (.ref x) p)(hb:InB p)(hn:p ∉ ks.map (·.2)->ks.length<63)
  (q:∀(b:Bool) (h':Heap) (d:List (Addr×(Int×Int))),V8 a s.heap h'->zd1 f led h' a d->(∀c,c∈d.map (·.2)↔c∈ks.map (·.2)\/c=p)->(∀c∈d,c∈ks\/c=(x,p))->Q b { s with heap:=h' }) :
  Xv (Xr prog w) A (setAddHashedIn a (.ref x) (f p) (n+1)) Q E s:=by
 obtain⟨⟨es,ep,t,I,he,G,hl,hp⟩,nd,hc,H⟩:=S;have aj:ks.length=es.size:=by
  rw[<- X6,he,Y1]
 generalize hh:f p=h;rw[setAddHashedIn];refine ZB (xU I G ?_);dsimp only;rw[show byScan (.ref x) es=false by simp[byScan,Value.scannable],bq XT];by_cases hm:p∈ks.map (·.2)
 .obtain⟨⟨b,p'⟩,hk,e⟩:=XJ.mp hm;simp only at e;subst e;obtain⟨i,hi,ei⟩:=Tf hk;have eg:es[i]?=some (h,.ref b):=by
   rw[<- Xz,he,Xw,X2 hi,ei,<- hh];rfl
  unfold setSearch;refine ZB (zft (n:=99999) hu I G (by rw[YA he];exact zko inj nd H) (λe ac=>?_) eg hx (hc _ hk) ?_)
  .rw[he]at ac;obtain⟨c,h1,rfl⟩:=XJ.mp ac;exact⟨c.1,c.2,rfl,hc c h1⟩
  .refine X0 (q false s.heap ks (Heap.SameBut.refl _ _) ⟨⟨es,ep,t,I,he,G,hl,hp⟩,nd,hc,H⟩ (λc=>⟨.inl,λz=>z.elim id λz=>z ▸ hm⟩) λc h1=>.inl h1)
 .have ah:=hn hm;have no:h ∉ (es.map (·.1)).toList:=λz=>by
   rw[YA he,<- hh]at z;obtain⟨c,h1,h2⟩:=XJ.mp z;exact hm (XJ.mpr ⟨c,h1,inj _ _ (H c h1) hb h2⟩)
  unfold setSearch;refine ZB (zd0 (n:=99999) I G no λj h1 h2 h3=>?_);dsimp only;refine ZB (xU I G ?_);obtain⟨f1,f2,f3⟩:=zlM G.up G.dum h2;have g:t.place.size=es.size:=by rw[G.sz,U3]
  have bs:Xu t.place j<=es.size:=by
   rw[<- g];exact(ZO G.up j).1
  generalize ai:Xu t.place j=pos at f1 f2 f3 bs;have o:(t.put j).1.plain=true:=by rw[f2];exact hp
  have B:(t.put j).1.led=led:=by rw[f2];exact hl
  have D:∃y,y=ks.take pos++(x,p)::ks.drop pos:=⟨_,rfl⟩;obtain⟨y,D⟩:=D;have ab:(Xe es pos (h,WO x)).toList=y.map (zcZ f):=by
   rw[Y7,he,D,Xj,Xo,RW,N6];simp only[zcZ,hh]
  have m:(Xe es pos (h,WO x)).size=es.size+1:=jP _ bs _;have pm:y.Perm ((x,p)::ks):=by
   rw[D];refine List.perm_middle.trans (List.Perm.cons _ ?_);rw[WU]
  have l:(t.put j).1.fits (Xe es pos (h,WO x)).size=true:=by
   have hr:=G.room;have bp:pos<=t.place.size:=by rw[g];exact bs
   rw[m,f2];unfold SetTable.fits N7;simp only[G.dum,jP _ bp,g];rcases G.mask with e | e | e<;>simp[e]<;>rw[g,e]at hr<;>lia
  have aa:∀(h':Heap) (d:List (Addr×(Int×Int))) (k:Array (Int×X9)) (L:Nat) (J:Wu),V8 a s.heap h'->h'.get? a=some (qx k L J)->k.toList=d.map (zcZ f)->d.Perm ((x,p)::ks)->Good J (k.map (·.1))->J.led=led->J.plain=true->Q true { s with heap:=h' }:=by
   intro h' d k L J hs hg M u hG N U;have Y:∀c,c∈d↔c=(x,p)\/c∈ks:=λc=>by rw[u.mem_iff,XH]
   refine q true h' d hs ⟨⟨k,L,J,hg,M,hG,N,U⟩,?_,λc r=>?_,λc r=>?_⟩ (λc=>?_) λc r=>(Y c).mp r |>.symm
   .rw[(u.map (·.2)).nodup_iff,Xo,Wf];exact⟨hm,nd⟩
   .rcases(Y c).mp r with rfl | z
    .exact zH.up hx hs I rfl
    .exact zH.up (hc c z) hs I rfl
   .rcases(Y c).mp r with rfl | z
    .exact hb
    .exact H c z
   .rw[(u.map (·.2)).mem_iff,Xo,XH];exact Or.comm
  have eT:t.put j=((t.put j).1,pos):=by rw[<- f1]
  have fl:(t.put j).1.tooFull=decide ((es.size+1)*5 >= t.mask*3):=by
   have bp:pos<=t.place.size:=by rw[g];exact bs
   rw[f2];unfold SetTable.tooFull N7;simp only[G.dum,jP _ bp,g];rfl
  have gd:¬ (es.size+1)*5 >= t.mask*3->Good (t.put j).1 ((Xe es pos (h,WO x)).map (·.1)):=λhr=>by
   have:=G.put (h:=h) h1 h2 h3 (by rw[g];lia);rw[f1]at this;have e:(Xe es pos (h,WO x)).map (·.1)=Xe (es.map (·.1)) pos h:=by
    apply Array.toList_inj.mp;rw[UN,Y7,Y7,UN,Xj,Xo,RW,N6]
   rw[e];exact this
  have v:=G.room;have O:=G.mask;rw[g]at v;dsimp only;rw[eT];dsimp only;generalize t.put j=T at o B l fl gd;obtain⟨t1,p1⟩:=T;dsimp only at o B l fl gd ⊢;rw[o,bw rfl];refine ZB (zlP hx ?_);rw[bw rfl];refine ZB (zgH I (by rw[m];lia) λh' hs hg=>?_);by_cases full:(es.size+1)*5 >= t.mask*3
  .rw[fl,br full,bw (by decide)];rw[<- m];refine ZB (zlQ (s:={ s with heap:=h' }) hg l (by rw[m];rcases O with e | e | e<;>rw[e]at full v<;>lia) ab λae k J d ag af M u hG N U=>?_);exact X0 (aa ae d k _ J (hs.trans ag) af M (u.trans pm) hG (N.trans B) (U.trans o))
  .rw[fl,bf full,bq (by decide)];exact X0 (aa h' y _ _ t1 hs hg ab pm (gd full) B o)
def zlS {x:Addr}{p:Int×Int}{Q:Bool->X7->Prop}(e:A.units<Vt)(S:zd1 (hP prog w) led s.heap a ks)(f:zH s.heap (.ref x) p)(h:InB p)(i:p ∉ ks.map (·.2)->ks.length<63)
  (q:∀(b:Bool) (h':Heap) (d:List (Addr×(Int×Int))),V8 a s.heap h'->zd1 (hP prog w) led h' a d->(∀c,c∈d.map (·.2)↔c∈ks.map (·.2)\/c=p)->(∀c∈d,c∈ks\/c=(x,p))->Q b { s with heap:=h',toks:=s.toks+3 }) :
  Xv (Xr prog w) A (setAdd a (.ref x)) Q E s:=by
 unfold setAdd;refine VS (ZB ((tk2 prog w).pyHash e (JV f) ?_));show Xv (Xr prog w) A (setAddHashed a (.ref x) (hP prog w p)) Q E { s with toks:=s.toks+3 };unfold setAddHashed;refine VS ?_;exact zlR (n:=99999) (s:={ s with toks:=s.toks+3 }) (λp q h1 h2 g=>zql h1 h2 g) e S f h i q
end
theorem zjh {α:Type}(next:Nat->Nat):∀(fuel k:Nat) (left:List α) (a:Array α),left.length=fuel->(pickOrder.go next fuel k left a).toList.Perm (a.toList++left)
 | 0,k,left,a,h=>by
  rw[UY.mp h,Xa];exact List.Perm.refl _
 | fuel+1,k,left,a,h=>by
  have b:next k%left.length<left.length:=Rv _ (by lia)
  rw[pickOrder.go,X2 b];dsimp only;refine(zjh next fuel (k+1) _ _ (by rw[List.length_eraseIdx_of_lt b];lia)).trans ?_;rw[So,WW];refine Se _ ?_;have e:left=left.take (next k%left.length)++left[next k%left.length]::left.drop (next k%left.length+1):=by
   rw[<- WL b,WU]
  rw[List.eraseIdx_eq_take_drop_succ];have c:=@List.perm_middle _ left[next k%left.length] (left.take (next k%left.length)) (left.drop (next k%left.length+1));rw[<- e]at c;exact c.symm
def zkp {α:Type}(next:Nat->Nat)(xs:Array α):(PL next xs).toList.Perm xs.toList:=by
 have h:=zjh next xs.size 0 xs.toList #[] (by simp)
 rw[show (#[]:Array α).toList++xs.toList=xs.toList from rfl]at h;exact h
def yv:Slot "set_iterator" "__next__" "set_iterator.__next__" :=
 .of (owner:="set_iterator") (n:="__next__") (by rw[SY,UF];kernel_rfl) (by decide+kernel) (by decide+kernel) (by decide+kernel) (.inl (by decide+kernel)) (by rw[OI];kernel_rfl)
def zaI:Nz table "set_iterator.__next__"=some UG.«set_iterator.__next__»:=entryFor_of_tree (by kernel_rfl)
def zc0:Manifest.owners.lookup (String.ofList ['r','o','t','a','r','e','t','i','_','t','e','s'].reverse)=some Manifest.sig_set_iterator:=by kernel_rfl
def zbT (a:X9):argsOk "set_iterator.__next__" ⟨[a],[]⟩:=by
 unfold argsOk;rw[signature?_of (id:="set_iterator.__next__") (n:=['_','_','t','x','e','n','_','_']) (o:=['r','o','t','a','r','e','t','i','_','t','e','s']) (by kernel_rfl) zc0];kernel_rfl
def zfv:Nz table "set.__iter__"=some UG.«frozenset.__iter__»:=entryFor_alias (id':="frozenset.__iter__") (by kernel_rfl) rfl (by decide+kernel) (by kernel_rfl)
def zc1 (b i:Nat)(a:Addr)(n ep:Nat):Obj:={ cls:=.type "set_iterator",data:=.fields #[US b,US i,.ref a,US n,US ep] }
def slotAt (a:Bool)(t:Wu)(i:Nat):Nat:=if a then 0 else if i=0 then 0 else t.place.getD (i-1) 0+1
def ZS (w:W1)(a:Addr)(ep:Nat)(b:Array (Int×X9)):Array (Int×X9):=if w.params.followText "set-order" then PL (w.params.setOrder a ep) b else b
def zaJ (w:W1)(a:Addr)(ep:Nat)(b:Array (Int×X9)):(ZS w a ep b).toList.Perm b.toList:=by
 unfold ZS;split
 .exact zkp _ _
 .exact List.Perm.refl _
section
variable {prog:Xm}{w:W1}{A:WN}{E:X9->X7->Prop}{s:X7}{a:Addr}{es:Array (Int×X9)}{ep:Nat}{t:Wu}
def zfw {Q:Bool->X7->Prop}(q:Q (w.params.followText "set-order") s):Xv (Xr prog w) A setsByText Q E s:=by
 unfold setsByText;exact ZB (PC (X0 q))
def below_at {t:Wu}(U:Up t.place){i:Nat}(d:i<=t.place.size):Xu t.place (slotAt false t i)=i:=by
 obtain⟨c,a,b⟩:=ZO U (slotAt false t i);unfold slotAt at *
 simp only[WJ,if_false]at *
 by_cases h0:i=0
 .subst h0;rw[bw rfl]at *
  rcases Nat.eq_zero_or_pos (Xu t.place 0) with e | e
  .exact e
  .have:=a 0 e;lia
 .rw[bq h0]at *
  rcases P9 (Xu t.place (t.place.getD (i-1) 0+1)) i with e | e | e
  .have:=b (i-1) (by lia) (by lia);lia
  .exact e
  .have h1:=a i e;have h2:=U (i-1) i (by lia) (by lia);lia
def zji {i:Nat}{Q:Option (X9×Nat)->X7->Prop}(g:s.heap.get? a=some (qx es ep t))(G:Good t (es.map (·.1)))(f:t.led=!w.params.followText "set-order")(l:t.plain=true)(n:i<=es.size)
  (b:∀v,(ZS w a ep es)[i]?.map (·.2)=some v->Q (some (v,slotAt (w.params.followText "set-order") t (i+1))) s) (j:i=es.size->Q none s) :
  Xv (Xr prog w) A (setNext a (slotAt (w.params.followText "set-order") t i) i ep) Q E s:=by
 have m:t.place.size=es.size:=by rw[G.sz,U3]
 have d:(ZS w a ep es).size=es.size:=by
  rw[<- X6,(zaJ w a ep es).length_eq,X6]
 unfold setNext;refine ZB (xU g G ?_);dsimp only;refine ZB (zfw ?_);cases hb:w.params.followText "set-order" with
 | true =>
  rw[bw rfl];rw[hb]at b;rw[bq (by simp)];unfold setWalk;refine ZB (ZB (xU g G ?_));dsimp only;refine ZB (zfw ?_);rw[hb,bw rfl];refine ZB (PC (X0 (X0 ?_)));have c:ZS w a ep es=PL (w.params.setOrder a ep) es:=by
   unfold ZS;rw[hb,bw rfl]
  rw[c]at b d;show Q (Option.map _ (PL (w.params.setOrder a ep) es)[i]?) s;by_cases h:i<es.size
  .have e:(PL (w.params.setOrder a ep) es)[i]?=some (PL (w.params.setOrder a ep) es)[i]:=V1 (by lia);rw[e]at b ⊢;exact b _ rfl
  .rw[WS (by lia)];exact j (by lia)
 | false =>
  rw[bq XT];rw[hb]at b f;have c:ZS w a ep es=es:=by
   unfold ZS;rw[hb,bq XT]
  rw[c]at b;split
  .rename_i h;exact absurd h (by show ¬ ((!t.plain&&decide (es.size>1))=true);rw[l];exact XT)
  refine ZB ?_;show Xv _ _ (if (!t.led && !es.isEmpty)=true then QR "set:maker-not-led" else pure ()) _ _ _;rw[f,bq (by simp)];refine X0 ?_;rw[below_at G.up (by lia)];by_cases h:i<es.size
  .have e:es[i]?=some es[i]:=V1 h;have k:t.place[i]?=some (t.place.getD i 0):=JT (by lia);rw[e]at b ⊢;rw[k];refine X0 (b _ rfl)
  .rw[WS (by lia)];exact X0 (j (by lia))
end
def zeB:Slot "set_iterator" "__iter__" "set_iterator.__iter__" :=
 .of (owner:="set_iterator") (n:="__iter__") (by rw[SY,UF];kernel_rfl) (by decide+kernel) (by decide+kernel) (by decide+kernel) (.inl (by decide+kernel)) (by rw[OI];kernel_rfl)
def zh7:Nz table "set_iterator.__iter__"=some UG.«dict_keyiterator.__iter__»:=entryFor_alias (id':="dict_keyiterator.__iter__") (by kernel_rfl) rfl (by decide+kernel) (by kernel_rfl)
def zkq (a:X9):argsOk "set_iterator.__iter__" ⟨[a],[]⟩:=by
 unfold argsOk;rw[signature?_of (id:="set_iterator.__iter__") (n:=['_','_','r','e','t','i','_','_']) (o:=['r','o','t','a','r','e','t','i','_','t','e','s']) (by kernel_rfl) zc0];kernel_rfl
section
variable {prog:Xm}{w:W1}{A:WN}{E:X9->X7->Prop}{s:X7}{a I:Addr}{es:Array (Int×X9)}{ep:Nat}{t:Wu}
def zh8 {b i a n ep:Nat}(x y:Nat):Us (·.setIfInBounds 1 (US y)) (Us (·.setIfInBounds 0 (US x)) (zc1 b i a n ep))=zc1 x y a n ep:=rfl
def zn4 {i:Nat}{Q:Option X9->X7->Prop}(b:s.heap.get? I=some (zc1 (slotAt (w.params.followText "set-order") t i) i a es.size ep))(d:s.heap.get? a=some (qx es ep t))(G:Good t (es.map (·.1)))(f:t.led=!w.params.followText "set-order")(g:t.plain=true)(e:i<es.size)
  (q:∀v h',(ZS w a ep es)[i]?.map (·.2)=some v->h'.get? I=some (zc1 (slotAt (w.params.followText "set-order") t (i+1)) (i+1) a es.size ep)->V8 I s.heap h'->Q (some v) { s with heap:=h' }) :
  Xv (Xr prog w) A (SW (.ref I)) Q E s:=by
 have c:s.TypeIs (.ref I) "set_iterator":=⟨_,b,rfl⟩;unfold SW;refine ZB (Ta (Uc (name:=Pn "__next__") c yv (VH yv c zaI ?_ (zbT _))));unfold UG.«set_iterator.__next__»;refine ZB (X0 ?_);refine ZB (Rt b rfl ?_);dsimp only[US];refine ZB (RG (o:=qx es ep t) d rfl ?_ ?_)
 .have:=G.fits;rwa [U3]at this
 rw[bq (by simp)];show Xv _ _ (setNext a (slotAt (w.params.followText "set-order") t i) i ep >>= _) _ _ _;refine ZB (zji d G f g (Tt e) (λv h=>?_) λz=>absurd z (by lia));dsimp only;refine ZB (Sx b rfl (by simp[zc1]) ?_);have h1:=Wr (Us (·.setIfInBounds 0 (US ((slotAt (w.params.followText "set-order") t (i+1):Nat):Int)))) b rfl;refine ZB (Sx h1 rfl (by simp[zc1,Us]) ?_);have h2:=Wr (Us (·.setIfInBounds 1 (US ((i:Int)+1)))) h1 rfl;refine X0 ⟨_,rfl,X0 (q v _ h ?_ ((WB ..).trans (WB ..)))⟩;rw[show ((i:Int)+1)=((i+1:Nat):Int) by lia]at h2 ⊢;rw[zh8]at h2;exact h2
def zqm {Q:Option X9->X7->Prop}(g:A.handled=none)(c:s.heap.get? I=some (zc1 (slotAt (w.params.followText "set-order") t es.size) es.size a es.size ep))(e:s.heap.get? a=some (qx es ep t))(G:Good t (es.map (·.1)))(h:t.led=!w.params.followText "set-order")(j:t.plain=true)
  (q:∀h',Heap.ExtBut I s.heap h'->Q none { s with heap:=h' }):Xv (Xr prog w) A (SW (.ref I)) Q E s:=by
 have d:s.TypeIs (.ref I) "set_iterator":=⟨_,c,rfl⟩;unfold SW;refine ZB (Ta (Uc (name:=Pn "__next__") d yv (VH yv d zaI ?_ (zbT _))));unfold UG.«set_iterator.__next__»;refine ZB (X0 ?_);refine ZB (Rt c rfl ?_);dsimp only[US];refine ZB (RG (o:=qx es ep t) e rfl ?_ ?_)
 .have:=G.fits;rwa [U3]at this
 rw[bq (by simp)];show Xv _ _ (setNext a (slotAt (w.params.followText "set-order") t es.size) es.size ep >>= _) _ _ _;refine ZB (zji e G h j (XV _) (λv f=>?_) λ_=>?_)
 .have i:(ZS w a ep es).size=es.size:=by
   rw[<- X6,(zaJ w a ep es).length_eq,X6]
  rw[WS (by lia)]at f;cases f
 dsimp only;refine ZB (Sx c rfl (by simp[zc1]) ?_);refine ZB ?_;simp only[newExc,newTuple];refine ZB (Wl ?_ (by size_fits));refine ZB (m:=Tz _ _) (OQ (a:=Vw) (by first | rfl | (simp only[Tz];rfl)) ?_);refine Wl ?_ (by size_fits);simp only[raiseNew];refine ZB (N9 ?_);rw[show A.in1.handled=none from g];refine ZB (X0 (NG ?_));refine ZB (R3 (T:="StopIteration") (b:=true) ⟨_,Xs _ rfl,rfl⟩ isSubtype_stop ?_);exact X0 (q _ (((WB ..).extBut.push _).push _))
def zn5 {b i n:Nat}{Q:X9->X7->Prop}(d:s.heap.get? I=some (zc1 b i a n ep))(q:Q (.ref I) s):Xv (Xr prog w) A (NL (.ref I)) Q E s:=by
 have c:s.TypeIs (.ref I) "set_iterator":=⟨_,d,rfl⟩;refine P8 c zeB (VH zeB c zh7 ?_ (zkq _));exact X0 ⟨_,rfl,"set_iterator",_,c,yv.lookup,q⟩
def walks (hh:A.handled=none)(hne:a≠I)(G:Good t (es.map (·.1)))(hl:t.led=!w.params.followText "set-order")(hp:t.plain=true) :
  Walks prog w A I [I,a] [I] es.size (λi v=>(ZS w a ep es)[i]?.map (·.2)=some v) (λi h=>h.get? I=some (zc1 (slotAt (w.params.followText "set-order") t i) i a es.size ep)/\h.get? a=some (qx es ep t)) where
 sub:=λb hb=>by simp at hb;simp[hb]
 frame:=λ_ _ _ st hk=>⟨hk I (by simp) _ st.1,hk a (by simp) _ st.2⟩
 item:=λi s Q E hi st hQ=>zn4 st.1 st.2 G hl hp hi λv h' hv h1 hs=>hQ v h' s.toks hv ⟨h1,(hs.2 a hne).trans st.2⟩ λb o hb e=>(hs.2 b λz=>hb (by simp[z])).trans e
 done:=λs Q E st hQ=>zqm hh st.1 st.2 G hl hp λh' he=>hQ h' s.toks λb o hb e=>he b o (λz=>hb (by simp[z])) e
 self:=λ_ _ _ _ st hQ=>zn5 st.1 hQ
def zgJ:splitId "set.__len__"=some ("set","__len__"):=by decide+kernel
def zgK {Q:List X9->X7->Prop}(hh:A.handled=none)(ho:s.heap.get? a=some (qx es ep t))(G:Good t (es.map (·.1)))(hl:t.led=!w.params.followText "set-order")(hp:t.plain=true)(hn:es.size<=64)
  (q:∀vs h' tk,vs.Perm (es.toList.map (·.2))->(∀b o,s.heap.get? b=some o->h'.get? b=some o)->s.heap.objs.size<=h'.objs.size->Q vs { s with heap:=h',toks:=tk }):Xv (Xr prog w) A (collect (.ref a)) Q E s:=by
 have g:a<s.heap.objs.size:=XD ho;unfold collect;refine ZB (wpAny_runValue (Vy PySem.F.entry_proto_collect ?_));rw[V4 PySem.F.plain_proto_collect _];show Xv _ A.in1 (newList [] >>= λl=>OV (.builtin "list.__iadd__" ⟨[l,.ref a],[]⟩)) _ _ s;refine ZB (Wl ?_);refine X0 ⟨Ut Px _,Vy PySem.F.entry_list_iadd ?_⟩;rw[V4 Px _];show Xv _ A.in1 (Ry (.ref s.heap.objs.size) (.ref a) (.ref s.heap.objs.size)) _ _ _;generalize B:(s.heap.push { cls:=.type "list",data:=.seq ([]:List X9).toArray })=h1;have f:h1.get? a=some (qx es ep t):=by rw[<- B];exact X4 _ ho
 have J:h1.get? s.heap.objs.size=some { cls:=.type "list",data:=.seq #[] }:=by rw[<- B];exact Xs _ rfl
 have aa:∀b o,s.heap.get? b=some o->h1.get? b=some o:=λb o e=>by rw[<- B];exact X4 _ e
 have H:h1.objs.size=s.heap.objs.size+1:=by rw[<- B];exact U5 ..
 have M:RX { s with heap:=h1 } (.ref a) "set":=⟨_,f,rfl⟩;have I:PQ (.ref s.heap.objs.size) (.ref a)=false:=by
  simp[PQ];exact Va g
 unfold Ry;refine ZB (RC M ?_);rw[bq (by rw[I];decide)];have O:t.fits es.size=true:=by
  have:=G.fits;rwa [U3]at this
 refine ZB (P8 M OZ (VH OZ M zfv ?_ (PySem.F.args_set_iter_1 _)));unfold UG.«frozenset.__iter__» Builtin.Frozenset.slot0 slotArgs;simp only[List.isEmpty_nil,Bool.not_true,WJ,↓reduceIte,bind_assoc,UD,bne_self_eq_false];unfold Builtin.Frozenset.addrOf Builtin.Frozenset.sizeOf;refine ZB (X0 ?_);dsimp only;refine ZB (X0 ?_);refine ZB (ZB (RG (s:={ s with heap:=h1 }) (o:=qx es ep t) f rfl O (X0 ?_)));unfold setDrawn;refine ZB (ZB (Sr (s:={ s with heap:=h1 }) (o:=qx es ep t) f rfl O ?_));dsimp only;refine ZB (zfw (X0 ?_));split
 .rename_i h;exact absurd h (by show ¬ ((!w.params.followText "set-order" && (!t.plain&&decide (es.size>1)))=true);rw[hp];simp)
 refine ZB (X0 ?_);unfold setEpoch;refine ZB (ZB (Sr (s:={ s with heap:=h1 }) (o:=qx es ep t) f rfl O (X0 ?_)));unfold newFields;refine ZB (Wl ?_);generalize y:h1.push { cls:=.type "set_iterator",data:=.fields (List.toArray [US 0,US 0,WO a,US ((es.size:Nat):Int),US ((ep:Nat):Int)]) }=h2;have x:h2.get? a=some (qx es ep t):=by rw[<- y];exact X4 _ f
 have r:h2.get? s.heap.objs.size=some { cls:=.type "list",data:=.seq #[] }:=by rw[<- y];exact X4 _ J
 have ab:∀b o,s.heap.get? b=some o->h2.get? b=some o:=λb o e=>by rw[<- y];exact X4 _ (aa b o e)
 have n:h2.get? h1.objs.size=some (zc1 0 0 a es.size ep):=by rw[<- y];exact Xs _ rfl
 have N:RX { s with heap:=h2 } (.ref h1.objs.size) "set_iterator":=⟨_,n,rfl⟩;have k:RX { s with heap:=h2 } (.ref a) "set":=⟨_,x,rfl⟩;refine X0 (dZ rfl (dO "set_iterator" (dD N yv.lookup ?_)));refine ZB (VS ?_);unfold Builtin.List.listLengthHint;refine ZB (SZ k PySem.F.slot_set_len.lookup ?_);dsimp only;rw[zgJ];dsimp only;refine ZB (R3 (b:=true) k sub_set_self ?_);rw[bq (by decide)];show Xv _ _ (typeOf (WO a) >>= _) _ _ _;refine ZB (RC k ?_);show Xv _ _ (pure false) _ _ _;refine X0 ?_;show Xv _ A.in1 (rule "list.extend.makes-room" >>= λ_=>Builtin.List.listTouch (.ref s.heap.objs.size) >>= λ_=>OV (.builtin "list.extend.loop" ⟨[.ref s.heap.objs.size,.ref h1.objs.size,.ref s.heap.objs.size],[]⟩)) _ _ _;refine ZB (UM (ZB ?_));show Xv _ A.in1 (updateSeq s.heap.objs.size (·.push .none) >>= λ_=>updateSeq s.heap.objs.size (·.pop)) _ _ _;refine ZB (wpAny_updateSeq r rfl ?_);have u:=Wr (UW (·.push Vw)) r rfl;refine wpAny_updateSeq u rfl ?_;have v:=Wr (UW (·.pop)) u rfl;have j:∀b o,b≠s.heap.objs.size->h2.get? b=some o->((h2.update s.heap.objs.size (UW (·.push Vw))).update s.heap.objs.size (UW (·.pop))).get? b=some o :=
  λb o m e=>(T4 _ _ (UQ m)).trans ((T4 _ _ (UQ m)).trans e)
 generalize (h2.update s.heap.objs.size (UW (·.push Vw))).update s.heap.objs.size (UW (·.pop))=h4 at v j;have Y:a≠h1.objs.size:=by
  rw[H];exact Xl (Ww g)
 have L:s.heap.objs.size ∉ [h1.objs.size,a]:=by
  rw[H];simp only[XH,Vv,or_false,not_or];exact⟨Xl (R4 _),Va g⟩
 have ae:slotAt (w.params.followText "set-order") t 0=0:=by
  unfold slotAt;split<;>rfl
 have af:(ZS w a ep es).size=es.size:=by
  rw[<- X6,(zaJ w a ep es).length_eq,X6]
 refine X0 ⟨Ut PySem.F.plain_extend_loop _,codeAny_extend_loopS ((walks (A:=A.in1) (prog:=prog) (ep:=ep) hh Y G hl hp).toS) (X5 hn (by rw[SK];decide)) _ L _ es.size 0 _ _ _ rfl (W4 _)
  ⟨by rw[ae];exact j _ _ (by rw[H];exact Ve _) n,j _ _ (Xl g) x⟩ v (ItemsOf.nil _) λs' c c' D p d=>?_⟩
 show Xv _ A (load s.heap.objs.size >>= _) _ _ s';refine ZB (wpAny_load p ?_);obtain⟨h',g',d',ag,ac⟩:=s';have eg:g'=s.gens:=D.gens;have ed:d'=s.drawn:=D.drawn;have eo:ac=s.os:=D.os;subst eg;subst ed;subst eo;refine X0 (q _ _ _ ?_ (λb o e=>?_) (Tt (XD p)))
 .have e:c.toList=(ZS w a ep es).toList.map (·.2):=by
   refine TK λi=>?_;rw[Xz,Xw,Xz];by_cases hi:i<es.size
   .have U:i<c.size:=by rw[d.1];exact hi
    have e1:c[i]?=some c[i]:=V1 U;rw[e1];exact(d.2 i _ e1).symm
   .rw[WS (by rw[d.1];lia),WS (by lia)];rfl
  rw[e];exact(zaJ w a ep es).map _
 .have m:b<s.heap.objs.size:=XD e;refine D.heap b o (λz=>?_) (j b o (Xl m) (ab b o e));rcases XH.mp z with z | z
  .exact VA _ (z ▸ m)
  .have z':b=h1.objs.size:=by simpa using z
   rw[z',H]at m;exact absurd m (Nat.not_lt.mpr (V9 _))
end
end ST
open PySem PySem.Spec PyProof.Rows PySem.W
namespace ST
def zgL (prog:Xm)(w:W1)(d:Addr)(ks:List (Addr×(Int×Int))):HO:=.ext λh=>∃a b t,h.get? d=some (qx a b t)/\a.toList=ks.map (zcZ (hP prog w))/\Good t (a.map (·.1))/\t.led=(!w.params.followText "set-order")/\t.plain=true
section
variable {prog:Xm}{w:W1}{A:WN}{R:NK->X7->Prop}{I:Addr}{fp wr:List Addr}{G:Array RR->Array RR->Prop}{n:Nat}{P:Nat->X9->Prop}{St:Nat->X7->Prop}{led:Bool}
def zlT {h0:Heap}(W:WalksS prog w A.in1 I fp wr G n P St)(D:Addr)(M:D ∉ fp)(ai:h0.get? D=none)(aq:∀b∈wr,h0.get? b=none)(ps:List (Int×Int))(Y:ps.length=n)(hu:A.units+1<Vt)
  (T:Addr->Int×Int->Prop) (hT:∀x p,T x p->zH h0 (.ref x) p) (ak:∀i v,P i v->∃x p,v=.ref x/\ps[i]?=some p/\T x p) (y:∀p∈ps,InB p) (ah:∀l:List (Int×Int),l.Nodup->(∀c∈l,c∈ps)->l.length<=63) :
  ∀(k i:Nat) (s:X7) (ks:List (Addr×(Int×Int))),n-i=k->i<=n->St i s->(∀b o,h0.get? b=some o->s.heap.get? b=some o)->zd1 (hP prog w) led s.heap D ks->(∀c,c∈ks.map (·.2)↔c∈ps.take i)->(∀q∈ks,T q.1 q.2) ->
   (∀s' r,Moved (D::wr) G s s'->zd1 (hP prog w) led s'.heap D r->(∀c,c∈r.map (·.2)↔c∈ps)->(∀q∈r,T q.1 q.2)->R (.ok (.ret .none)) s') ->
   Tu (Xr prog w) A (.builtin "set.update.loop" ⟨[.ref D,.ref I],[]⟩) R s:=by
 have aj:D ∉ wr:=λh=>M (W.sub _ h);have more:∀b∈wr,b∈D::wr:=λb y=>XY _ y;have d:∀{h:Heap} {x:Addr} {p:Int×Int},(∀b o,h0.get? b=some o->h.get? b=some o)->T x p->zH h (.ref x) p:=λE hx=>by
  obtain⟨b,o,m,t,u,e,e1,e2,e3⟩:=hT _ _ hx;exact⟨b,o,m,t,u,e,E _ _ e1,e2,e3⟩
 have a:∀{s s':X7},Moved wr G s s'->(∀b o,h0.get? b=some o->s.heap.get? b=some o)->∀b o,h0.get? b=some o->s'.heap.get? b=some o:=λj E b o e =>
  j.heap b o (λy=>by
   rw[aq b y]at e;cases e) (E b o e)
 have f:∀{s s':X7} {ks:List (Addr×(Int×Int))},Moved wr G s s'->(∀b o,h0.get? b=some o->s'.heap.get? b=some o)->(∀q∈ks,T q.1 q.2)->zd1 (hP prog w) led s.heap D ks->zd1 (hP prog w) led s'.heap D ks :=
  λj E hk ⟨⟨es,ep,t,e1,e2⟩,e3,_,e5⟩=>⟨⟨es,ep,t,j.heap D _ aj e1,e2⟩,e3,λq hq=>d E (hk q hq),e5⟩
 intro k;induction k with
 | zero =>
  intro i s ks hk hi J E hS B g hR;have an:i=n:=by lia
  subst an;refine Vy Td ?_;rw[V4 UT _];show Xv _ A.in1 (SW (.ref I) >>= _) _ _ s;refine ZB (W.done s _ _ J λs' j=>?_);refine X0 (hR s' ks (j.mono more) (f j (a j E) g hS) (λc=>?_) g);rw[B c,<- Y,XO]
 | succ k ih =>
  intro i s ks hk hi J E hS B g hR;have aa:i<n:=by lia
  refine Vy Td ?_;rw[V4 UT _];show Xv _ A.in1 (SW (.ref I) >>= _) _ _ s;refine ZB (W.item i s _ _ aa J λv s' al af j=>?_);obtain⟨x,p,rfl,hq,hx⟩:=ak i v al;have L:=a j E;have N:=f j L g hS;have ae:p∈ps:=X8 hq;have tk:ps.take (i+1)=ps.take i++[p]:=by
   rw[XI,hq];rfl
  refine ZB (VS (zlS (show A.in1.units<Vt from hu) N (d L hx) (y p ae) (λao=>?_) λb h' r H am ac av=>?_))
  .have:=ah (p::ks.map (·.2)) (Wf.mpr ⟨ao,N.nd⟩) λc hc=>by
    rcases XH.mp hc with rfl | hc
    .exact ae
    .exact VJ ((B c).mp hc)
   rw[Xx,Y1]at this;lia
  have ar:∀b o,h0.get? b=some o->h'.get? b=some o:=λb o e=>by
   rw[H.2 b (λz=>by
    rw[z,ai]at e;cases e)]
   exact L b o e
  refine X0 ⟨Ut UT _,?_⟩;refine ih (i+1) _ r (by lia) aa (W.frame _ s' _ _ af (Uf _ _) λb y o e=>?_) ar am (λc=>?_) (λq ap=>?_) λau ag ab O U Q=>?_
  .rw[H.2 b (λz=>M (by rw[<- z];exact y))];exact e
  .rw[ac c,B c,tk,XG,Wh]
  .rcases av q ap with z | z
   .exact g q z
   .rw[z];exact hx
  .refine hR au ag (Moved.trans W.gtrans ((j.mono more).then_heap (Uf _ _) λb o y e=>?_) ab) O U Q;rw[H.2 b (λz=>y (by rw[z];exact XX))];exact e
end
section
variable {prog:Xm}{w:W1}{A:WN}{E:X9->X7->Prop}{s:X7}
def zn6 (a:X9){Q₁:X9->X7->Prop}(h:Q₁ (.ref s.heap.objs.size) { s with heap:=s.heap.push (qx #[] 0 (.fresh 0 0 (!w.params.followText "set-order"))) }) :
  Tu (Xr prog w) A (.call (.builtin "set.__new__") ⟨[.type "set",a],[]⟩) (wants Q₁ E) s:=by
 refine codeAny_of_tree ?_;show Xv _ A.in1 (do checkBuiltinCall "set.__new__" ⟨[.type "set",a],[]⟩;OV (.builtin "set.__new__" ⟨[.type "set",a],[]⟩)) _ _ s;refine ZB (OQ (PySem.F.newCall_set_1 a) (X0 ⟨Ut OY _,Vy PySem.F.entry_set_new ?_⟩));rw[V4 OY _];unfold UG.«set.__new__» Builtin.Frozenset.newClass;have b:=sub_set_self;obtain⟨c,g,d,e,os⟩:=s;dsimp only;wp_walk;refine PC (X0 ?_);dsimp only;simp only[newObj];refine ZB (wpAny_alloc (X0 ?_));exact X0 h
def zh9 (led:Bool):Good (.fresh 0 0 led) #[]:=⟨.inl rfl,rfl,rfl,λi j _ h=>absurd h (by simp[SetTable.fresh]),λi h=>absurd h (by simp[SetTable.fresh]),by simp[SetTable.fresh],λi h=>absurd h (by simp[SetTable.fresh])⟩
set_option maxHeartbeats 8000000 in
theorem zlU {l:Addr}{d:Array X9}{ps:List (Int×Int)}{T:Addr->Int×Int->Prop}{Q:X9->X7->Prop}(hh:A.handled=none)(hu:A.units+64<Vt)(hl:s.heap.IsList l d)(M:ps.length=d.size)
  (hT:∀x p,T x p->zH s.heap (.ref x) p) (ab:∀(i:Nat) (v:X9),d[i]?=some v->∃x p,v=WO x/\ps[i]?=some p/\T x p) (hb:∀p∈ps,InB p) (aa:∀l:List (Int×Int),l.Nodup->(∀c∈l,c∈ps)->l.length<=63)
  (h:∀(h':Heap) (tk:Nat) (ks:List (Addr×(Int×Int))),(∀b o,s.heap.get? b=some o->h'.get? b=some o)->zd1 (hP prog w) (!w.params.followText "set-order") h' s.heap.objs.size ks->(∀c,c∈ks.map (·.2)↔c∈ps)->(∀q∈ks,T q.1 q.2)->Q (.ref s.heap.objs.size) { s with heap:=h',toks:=tk }) :
  Xv (Xr prog w) A (call (.type "set") [.ref l]) Q E s:=by
 obtain⟨c,tl,al⟩:=PySem.F.called_set.mro;have ag:=PySem.F.called_set.made;have ao:=PySem.F.called_set.sub;refine N1 (codeAny_of_tree ?_);show Xv _ _ (callAny (.type "set") _) _ _ _;refine X0 ⟨Code.quiet_builtin _ (by decide+kernel),Vy PySem.F.entry_type_call ?_⟩;rw[Around.under_plain (weight_type_call_type "set" [.ref l] []) rfl];have h1:=PySem.F.called_set.notType;have h2:=PySem.F.called_set.canCreate;have ar:=PySem.F.typeCall_set_1 (.ref l);repeat (any_goals (first | assumption | wp_step))
 refine Ts (zn6 (.ref l) (E:=E) (Q₁:=λU j=>U=.ref s.heap.objs.size/\j={ s with heap:=s.heap.push (qx #[] 0 (.fresh 0 0 (!w.params.followText "set-order"))) }) ⟨rfl,rfl⟩) λr j hr=>?_;cases r with
 | error e=>exact hr
 | ok fl =>
  cases fl with
  | ret U =>
   obtain⟨rfl,rfl⟩:=hr;generalize ak:(!w.params.followText "set-order")=led at h ⊢;have hS:(s.heap.push (qx #[] 0 (.fresh 0 0 led))).get? s.heap.objs.size=some (qx #[] 0 (.fresh 0 0 led)):=Xs _ rfl;have H:RX { s with heap:=s.heap.push (qx #[] 0 (.fresh 0 0 led)) } (.ref s.heap.objs.size) "set":=⟨_,hS,rfl⟩;have au:=PySem.F.called_set.init.lookup;have aq:=PySem.F.called_set.init.bind (.ref s.heap.objs.size);repeat (any_goals (first | assumption | wp_step))
   refine Ts (OD (R:=wants (λr k=>r=.none/\∃h' tk ks,k={ s with heap:=h',toks:=tk }/\zd1 (hP prog w) led h' s.heap.objs.size ks/\(∀c,c∈ks.map (·.2)↔c∈ps)/\(∀q∈ks,T q.1 q.2) /\
     (∀b o,s.heap.get? b=some o->h'.get? b=some o)) E) PySem.F.called_set.init.plain PySem.F.entry_set_init (check_set_init_1 H ?_)) λY k a=>?_
   .revert hl;refine fk λol=>eV λO I=>fk λnl J=>?_;obtain⟨ap,D,ah,f⟩:=ol;simp only at I J;subst I;subst J;have g:(s.heap.push (qx #[] 0 (.fresh 0 0 led))).get? l=some { cls:=.type "list",dict:=D,data:=.seq d nl,slots:=f }:=X4 _ O;have an:=PySem.F.sub_list_set;have am:=PySem.F.sub_list_frozenset;have av:(Pr "list" == Pr "dict")=false:=by decide
    have y:(s.heap.push (qx #[] 0 (.fresh 0 0 led))).IsList l d:=⟨_,g,rfl,nl,rfl⟩;unfold UG.«set.__init__» noKeywords Builtin.Frozenset.updateFrom;generalize hG:s.heap.push (qx #[] 0 (.fresh 0 0 led))=G at hS H g y ⊢;unfold qx at hS;generalize ac:NL=PI;wp_walk;subst ac;subst hG;refine Sv y ?_;refine ZB (wpAny_runValue ?_);have L:l<s.heap.objs.size:=XD O;have zS:(s.heap.push (qx #[] 0 (.fresh 0 0 led))).objs.size=s.heap.objs.size+1:=U5 ..;have N:l≠(s.heap.push (qx #[] 0 (.fresh 0 0 led))).objs.size:=by
     rw[zS];exact Xl (Ww L)
    have ae:s.heap.objs.size ∉ [(s.heap.push (qx #[] 0 (.fresh 0 0 led))).objs.size,l]:=by
     rw[zS];simp only[XH,Vv,or_false,not_or];exact⟨Xl (R4 _),Va L⟩
    refine zlT (h0:=s.heap) (led:=led) ((Walks.list (by simp[hh]) (s.heap.push (qx #[] 0 (.fresh 0 0 led))).objs.size l N d).toS) s.heap.objs.size ae (Uv (XV _)) (λb hb=>?_) ps M (by show A.units+1+1+1<Vt;lia) T hT ab hb aa (d.size-0) 0 _ [] rfl (W4 _)
     ⟨⟨_,Xs _ rfl,rfl,rfl⟩,(y.push _)⟩ (λb o z=>X4 _ (X4 _ z)) ⟨⟨#[],0,.fresh 0 0 led,X4 _ hS,rfl,(by rw[Array.map_empty];exact zh9 led),rfl,rfl⟩,UL,(λq z=>nomatch z),(λq z=>nomatch z)⟩ (λc=>by simp) (λq z=>nomatch z) ?_
    .have e:b=(s.heap.push (qx #[] 0 (.fresh 0 0 led))).objs.size:=by simpa using hb
     rw[e,zS];exact Uv (V9 _)
    .intro s' ks hm n B u;obtain⟨h',g',d',aj,ai⟩:=s';have eg:g'=s.gens:=hm.gens;have ed:d'=s.drawn:=hm.drawn;have eo:ai=s.os:=hm.os;subst eg;subst ed;subst eo;show Xv _ _ _ _ _ _;refine X0 ?_;show Xv _ _ (ret Vw) _ _ _;refine X0 ⟨rfl,(eE h' aj ks rfl n B u (λb o e=>?_))⟩;have lt:=XD e;refine hm.heap b o (λz=>?_) (X4 _ (X4 _ e));rcases XH.mp z with z | z
     .exact VA _ (z ▸ lt)
     .have z':b=(s.heap.push (qx #[] 0 (.fresh 0 0 led))).objs.size:=by simpa using z
      rw[z',zS]at lt;exact absurd lt (Nat.not_lt.mpr (V9 _))
   .cases Y with
    | error e=>exact a
    | ok m =>
     cases m with
     | ret r =>
      revert a;refine ff λz0=>eX λh' tk ks z1 n B u af=>?_;subst z0 z1;repeat (any_goals (first | assumption | wp_step))
      exact h _ _ _ af n B u
     | _=>exact a.elim
  | _=>exact hr.elim
end
def zc2 {α q:Type}(f:α->q){l p:List q}(h:l.Perm p):∀ks:List α,p=ks.map f->∃g:List α,g.Perm ks/\l=g.map f:=by
 induction h with
 | nil=>exact λks e=>⟨ks,List.Perm.refl _,e⟩
 | cons x h s =>
  intro ks e;cases ks with
  | nil=>simp at e
  | cons k ks =>
   rw[Xo]at e;injection e with j i
   obtain⟨g,h1,h2⟩:=s ks i;exact⟨k::g,h1.cons k,by rw[Xo,j,h2]⟩
 | swap x y l =>
  intro ks e;match ks,e with
  | [],e=>simp at e
  | [k],e=>simp at e
  | k1::o::ks,e =>
   rw[Xo,Xo]at e;injection e with j i
   injection i with i r
   exact⟨o::k1::ks,List.Perm.swap k1 o ks,by rw[Xo,Xo,j,i,r]⟩
 | trans h1 h2 m n =>
  intro ks e;obtain⟨g,a,b⟩:=n ks e;obtain⟨is,c,d⟩:=m g b;exact⟨is,c.trans a,d⟩
section
variable {X:Cx}
def zkr (hu:X.A.units+64<Vt)(hh:X.A.handled=none):jr X (.type "set") (λxs H Q=>∃l g ps,xs=[.ref l]/\SqL X.K H l g/\xT H g ps/\(∀p∈ps,InB p)/\(∀l:List (Int×Int),l.Nodup->(∀c∈l,c∈ps)->l.length<=63) /\
  ∀d ks,H d=none->(∀q∈ks,H q.1=some (.tup [.int q.2.1,.int q.2.2]))->(ks.map (·.2)).Nodup->(∀c,c∈ks.map (·.2)↔c∈ps)->Q (.ref d) (upd H d (zgL X.prog X.w d ks))):=by
 intro bz s σ H xs aa Q I r h;revert h;refine fG λl g ps z0 hq L hb z q=>?_;subst z0;obtain⟨u,rfl,ru⟩:=vals1 r;cases ru;obtain⟨b,M,pl,hz⟩:=I.list hq;have hp:=xT.pairs I L M;have B:b.length=ps.length:=Paired.length hp;have tw:∀{g:AF} {ps:List (Int×Int)} {b:List X9},xT H g ps->Vals g b->∀(i:Nat) (v:X9),b[i]?=some v->∃x p,v=WO x/\ps[i]?=some p/\H x=some (.tup [.int p.1,.int p.2]):=by
  intro g ps b h1;induction h1 generalizing b with
  | nil =>
   intro r i v e;cases r;simp at e
  | cons a t ih =>
   intro r i v e;obtain⟨x,rfl,D⟩:=a;cases r with
   | cons r1 r2 =>
    cases r1;cases i with
    | zero =>
     simp at e;exact⟨x,_,e.symm,rfl,D⟩
    | succ i =>
     obtain⟨y,p,h1,h2,Y⟩:=ih r2 i v (by simpa using e);exact⟨y,p,h1,by simpa using h2,Y⟩
 refine zlU (T:=λx p=>H x=some (.tup [.int p.1,.int p.2])) hh hu pl.isList (by simp[B]) (λx p D=>?_) (λi v e=>tw L M i v (by simpa using e)) hb z λh' tk ks kk J hm hT=>?_
 .obtain⟨E,G,tp,_⟩:=I.tuple (SqT.of D);obtain⟨u1,u2,rfl,⟨t1,rfl⟩,⟨t2,rfl⟩⟩:=vals2 G;obtain⟨ob,U,N,n,O⟩:=tp;exact⟨x,ob,n,t1,t2,rfl,U,N,O⟩
 .have hD:H s.heap.objs.size=none:=I.hok.fresh (XV _);obtain⟨o,m,t,j,f⟩:=J.ex;refine⟨.ref s.heap.objs.size,upd H s.heap.objs.size (zgL X.prog X.w s.heap.objs.size ks),I.laid (t':=tk) kk (XV _) ⟨⟨o,m,t,j,f⟩,⟨_,j⟩,λh1 h2 ⟨o,m,t,j,f⟩ k=>⟨o,m,t,k _ j,f⟩⟩,rfl,q _ _ hD hT J.nd hm⟩
end
end ST
namespace GS
section
variable {prog:Xm}{w:W1}{A:WN}{E:X9->X7->Prop}{s:X7}{rk:W7->Int}{κ:TF}{a0:Array W7}
def Rk (rk:W7->Int)(xs:Array W7)(i:Nat):Int:=match xs[i]? with
 | some p=>rk p
 | none=>0
def JW {xs ys:Array W7}{i j:Nat}(h:xs[i]?=ys[j]?):Rk rk xs i=Rk rk ys j:=by
 unfold Rk;rw[h]
def Up (rk:W7->Int)(xs:Array W7)(lo a:Nat):Prop:=∀i j,lo<=i->i<=j->j<a->Rk rk xs i<=Rk rk xs j
def Tells (prog:Xm)(w:W1)(A:WN)(s:X7)(κ:TF)(rk:W7->Int)(a0:Array W7):Prop :=
 ∀x∈a0.toList,∀y∈a0.toList,∀C:Bool->X7->Prop,C (decide (rk x<rk y)) s->Xv (Xr prog w) A (keyLt' κ x.1 y.1) C (λ_ _=>False) s
structure Ok (κ:TF)(a0:Array W7)(st:WM):Prop where
 perm:(Xn st).Perm a0
 kind:kindOf st=κ
 good:SE st=none
theorem Ok.size {st:WM}(h:Ok κ a0 st):(Xn st).size=a0.size:=h.perm.size_eq
def Ok.at {st:WM}(h:Ok κ a0 st){i:Nat}(b:i<a0.size):∃x,(Xn st)[i]?=some x/\x∈a0.toList/\Rk rk (Xn st) i=rk x:=by
 have a:i<(Xn st).size:=by rw[h.size];exact b
 have e:(Xn st)[i]?=some (Xn st)[i]:=getElem?_pos _ i a;refine⟨(Xn st)[i],e,(UH.mp h.perm).mem_iff.mp (by simp),?_⟩;unfold Rk;rw[e]
def zlV {st:WM}{x y:W7}{Q:Option Bool->WM->Prop}(T:Tells prog w A s κ rk a0)(hk:kindOf st=κ)(e:x∈a0.toList)(f:y∈a0.toList)(h:Q (some (decide (rk x<rk y))) st):wpS (Xr prog w) A E s (lt' x y) Q st:=by
 rw[lt'_eq];refine XA (R1 ?_);rw[hk];refine XA (PN (Ta (Wj (T x e y f (λb c=>c=s/\b=decide (rk x<rk y)) ⟨rfl,rfl⟩) (λb c a=>⟨a.1,?_⟩) λ_ _ d=>d.elim)));rw[a.2];exact Xp h
def jc {st:WM}{xs:Array W7}{i:Nat}{x:W7}{Q:W7->WM->Prop}(e:xs[i]?=some x)(h:Q x st):wpS (Xr prog w) A E s (elem' xs i) Q st:=by
 rw[elem'_eq,e];exact Xp h
def zc3 {st:WM}{i j:Nat}{Q:Option Bool->WM->Prop}(T:Tells prog w A s κ rk a0)(O:Ok κ a0 st)(c:i<a0.size)(d:j<a0.size)(h:Q (some (decide (Rk rk (Xn st) i<Rk rk (Xn st) j))) st):wpS (Xr prog w) A E s (ltAt' i j) Q st:=by
 obtain⟨x,a,e,g⟩:=O.at (rk:=rk) c;obtain⟨y,b,f,k⟩:=O.at (rk:=rk) d;rw[g,k]at h;rw[ltAt'_eq];refine XA (R1 ?_);exact XA (jc a (XA (jc b (zlV T O.kind e f h))))
structure Step (κ:TF)(a0:Array W7)(lo:Nat)(st st':WM):Prop where
 ok:Ok κ a0 st'
 pend:WK st'=WK st
 low:∀i:Nat,i<lo->(Xn st')[i]?=(Xn st)[i]?
def Step.refl {lo:Nat}{st:WM}(O:Ok κ a0 st):Step κ a0 lo st st:=⟨O,rfl,λ_ _=>rfl⟩
def zbq {xs:Array W7}{i j:Nat}(a:j<=xs.size)(k:Nat):Rk rk (mirror xs i j ((j-i)/2)) k=if i<=k/\k<j then Rk rk xs (i+j-1-k) else Rk rk xs k:=by
 have e:=Oj (i:=i) a k;by_cases h1:i<=k/\k<j
 .rw[bw h1]at e ⊢;exact JW e
 .rw[bq h1]at e ⊢;exact JW e
def jW {xs:Array W7}{i j:Nat}(b:j<=xs.size)(a:∀k,i<=k->k<j->Rk rk xs k=Rk rk xs (j-1))(k:Nat):Rk rk (mirror xs i j ((j-i)/2)) k=Rk rk xs k:=by
 rw[zbq b];split
 .rw[a _ (by lia) (by lia),a k (by lia) (by lia)]
 .rfl
theorem Step.mirror {lo i j:Nat}{st a:WM}(x:Step κ a0 lo st a)(c:lo<=i)(b:j<=a0.size):Step κ a0 lo st (setArr a (mirror (Xn a) i j ((j-i)/2))):=by
 refine⟨⟨(mirror_perm _ _ _ _).trans x.ok.perm,x.ok.kind,x.ok.good⟩,x.pend,λk hk=>?_⟩;show (PyProof.Rows.mirror (Xn a) i j ((j-i)/2))[k]?=_;rw[Oj (by rw[x.ok.size];exact b),bq (by lia)];exact x.low k hk
def zjj {st:WM}{i j:Nat}{Q:Unit->WM->Prop}(h:Q () (setArr st (mirror (Xn st) i j ((j-i)/2)))):wpS (Xr prog w) A E s (RU i j) Q st:=by
 rw[reverseSlice'_eq];exact SU h
def up1 (lo a d:Nat):StateT WM Sem AscSt :=
 forIn [a:d] ((none,a):AscSt) λ_ c=>do
  let x <- ltAt' (lo+c.snd) (lo+c.snd-1)
  match x with
  | some b=>if b=true then pure (ForInStep.done (none,c.snd)) else pure (VU (none,c.snd+1))
  | _=>pure (ForInStep.done (some none,c.snd))
def zlW (lo n a:Nat):StateT WM Sem (Option Nat):=do
 RU lo (lo+n)
 let c <- up1 lo n a
 match c.fst with
 | some r=>pure r
 | none=>pure (some c.snd)
def zjk (lo n a:Nat):StateT WM Sem DescSt :=
 forIn [n:a] ((none,n,0):DescSt) λ_ c=>do
  let x <- ltAt' (lo+c.snd.fst) (lo+c.snd.fst-1)
  match x with
  | some b =>
   if b=true then
    if c.snd.snd>0 then do
     RU (lo+c.snd.fst-(c.snd.snd+1)) (lo+c.snd.fst)
     pure (VU (none,c.snd.fst+1,0))
    else pure (VU (none,c.snd.fst+1,0))
   else do
    let x <- ltAt' (lo+c.snd.fst-1) (lo+c.snd.fst)
    match x with
    | some b =>
     if b=true then pure (ForInStep.done (none,c.snd.fst,c.snd.snd))
     else pure (VU (none,c.snd.fst+1,c.snd.snd+1))
    | _=>pure (ForInStep.done (some none,c.snd.fst,c.snd.snd))
  | _=>pure (ForInStep.done (some none,c.snd.fst,c.snd.snd))
def part2 (lo n a:Nat):StateT WM Sem (Option Nat):=do
 liftM (rule "list.sort.descending-run")
 let c <- zjk lo (n+1) a
 match c.fst with
 | some r=>pure r
 | none =>
  if c.snd.snd>0 then do
   RU (lo+c.snd.fst-(c.snd.snd+1)) (lo+c.snd.fst)
   zlW lo c.snd.fst a
  else zlW lo c.snd.fst a
theorem run_eq (lo a:Nat):countRun' lo a=(do
  let c <- up1 lo 1 a
  match c.fst with
  | some r=>pure r
  | none =>
   if (c.snd==a)=true then pure (some c.snd)
   else if c.snd>1 then do
    let x <- ltAt' lo (lo+c.snd-1)
    match x with
    | some b=>if b=true then pure (some c.snd) else do
      RU lo (lo+c.snd)
      part2 lo c.snd a
    | _=>pure none
   else part2 lo c.snd a):=by
 rw[countRun'_eq];unfold part2 zlW zjk up1;refine bind_congr λc=>?_;obtain⟨r,n⟩:=c;cases r with
 | some r=>rfl
 | none =>
  dsimp only;split
  .rfl
  .split
   .refine bind_congr λx=>?_;cases x with
    | none=>rfl
    | some b =>
     dsimp only;split
     .rfl
     .refine bind_congr λ_=>bind_congr λ_=>bind_congr λg=>?_;obtain⟨f,i,j⟩:=g;cases f with
      | some f=>rfl
      | none =>
       dsimp only;split
       .refine bind_congr λ_=>bind_congr λ_=>bind_congr λd=>?_;obtain⟨e,h⟩:=d;cases e<;>rfl
       .refine bind_congr λ_=>bind_congr λd=>?_;obtain⟨e,h⟩:=d;cases e<;>rfl
   .refine bind_congr λ_=>bind_congr λg=>?_;obtain⟨f,i,j⟩:=g;cases f with
    | some f=>rfl
    | none =>
     dsimp only;split
     .refine bind_congr λ_=>bind_congr λ_=>bind_congr λd=>?_;obtain⟨e,h⟩:=d;cases e<;>rfl
     .refine bind_congr λ_=>bind_congr λd=>?_;obtain⟨e,h⟩:=d;cases e<;>rfl
def Down (rk:W7->Int)(xs:Array W7)(lo n:Nat):Prop:=∀i j,i<=j->j<n->Rk rk xs (lo+j)<=Rk rk xs (lo+i)
def zpj {st:WM}{lo a b:Nat}{Q:AscSt->WM->Prop}(T:Tells prog w A s κ rk a0)(O:Ok κ a0 st)(y:lo+b<=a0.size)(u:1<=a)(g:a<=b)(q:Up rk (Xn st) lo (lo+a))
  (h:∀n,a<=n->n<=b->Up rk (Xn st) lo (lo+n)->(n=b\/Rk rk (Xn st) (lo+n)<Rk rk (Xn st) (lo+n-1))->Q (none,n) st):wpS (Xr prog w) A E s (up1 lo a b) Q st:=by
 unfold up1;refine VX (I:=λx c f=>f=st/\c=(none,x)/\Up rk (Xn st) lo (lo+x)) ?step ?fin ⟨rfl,rfl,q⟩
 case fin =>
  rintro c f ⟨rfl,rfl,e⟩
  rw[show max a b=b by lia]at e ⊢
  exact h b g (XV _) e (.inl rfl)
 case step =>
  rintro x c f k r ⟨rfl,rfl,e⟩
  dsimp only
  refine XA (zc3 T O (by lia) (by lia) ?_)
  by_cases d:Rk rk (Xn f) (lo+x)<Rk rk (Xn f) (lo+x-1)
  .simp only[d,decide_true,if_true];exact Xp (h x k (by lia) e (.inr d))
  .simp only[d,decide_false,WJ,if_false];refine Xp ⟨rfl,rfl,λi j p m v=>?_⟩;by_cases o:j<lo+x
   .exact e i j p m o
   .obtain rfl:j=lo+x:=by lia
    by_cases l:i=lo+x
    .subst l;exact UP _
    .exact Vz (e i (lo+x-1) p (by lia) (by lia)) (NY.mp d)
def zlX {d st:WM}{lo n a:Nat}{Q:Option Nat->WM->Prop}(T:Tells prog w A s κ rk a0)(S:Step κ a0 lo d st)(p:lo+a<=a0.size)(h1:1<=n)(f:n<=a)(q:Down rk (Xn st) lo n)
  (h:∀m b,Step κ a0 lo d b->1<=m->m<=a->Up rk (Xn b) lo (lo+m)->Q (some m) b):wpS (Xr prog w) A E s (zlW lo n a) Q st:=by
 unfold zlW;refine XA (zjj ?_);have k:=S.mirror (i:=lo) (j:=lo+n) (XV _) (by lia);refine XA (zpj T k.ok p h1 f ?_ λm o e g _=>Xp (h m _ k (by lia) e g));intro i j r l u;have c:lo+n<=(Xn st).size:=by
  rw[S.ok.size];lia
 show Rk rk (mirror (Xn st) lo (lo+n) ((lo+n-lo)/2)) i<=Rk rk (mirror (Xn st) lo (lo+n) ((lo+n-lo)/2)) j;rw[zbq c,zbq c,bw (by lia),bw (by lia)];have:=q (lo+n-1-j) (lo+n-1-i) (by lia) (by lia);rw[show lo+(lo+n-1-j)=lo+(lo+n)-1-j by lia,show lo+(lo+n-1-i)=lo+(lo+n)-1-i by lia]at this;exact this
def zn7 {v st:WM}{lo n b:Nat}{Q:DescSt->WM->Prop}(T:Tells prog w A s κ rk a0)(S:Step κ a0 lo v st)(U:lo+b<=a0.size)(h1:1<=n)(H:n<=b)(N:Down rk (Xn st) lo n)
  (h:∀m q a,Step κ a0 lo v a->n<=m->m<=b->Down rk (Xn a) lo m->q+1<=m->(∀i,m-(q+1)<=i->i<m->Rk rk (Xn a) (lo+i)=Rk rk (Xn a) (lo+(m-1)))->Q (none,m,q) a):wpS (Xr prog w) A E s (zjk lo n b) Q st:=by
 unfold zjk;refine VX (I:=λx c a=>∃q,c=(none,x,q)/\Step κ a0 lo v a/\Down rk (Xn a) lo x/\q+1<=x /\
   (∀i,x-(q+1)<=i->i<x->Rk rk (Xn a) (lo+i)=Rk rk (Xn a) (lo+(x-1)))) ?step ?fin ⟨0,rfl,S,N,by lia,λi h1 h2=>by congr 1;lia⟩
 case fin =>
  rintro c a ⟨q,rfl,l,d,B,he⟩
  rw[show max n b=b by lia]at d B he ⊢
  exact h b q a l H (XV _) d B he
 case step =>
  refine λx c a D O=>fk λq=>fE λz0 l d B he=>?_;subst z0
  dsimp only
  have J:lo+x<=(Xn a).size:=by
   rw[l.ok.size];lia
  refine XA (zc3 T l.ok (by lia) (by lia) ?_)
  by_cases e:Rk rk (Xn a) (lo+x)<Rk rk (Xn a) (lo+x-1)
  .simp only[e,decide_true,if_true];have g:∀L:Array W7,(∀k,Rk rk L k=Rk rk (Xn a) k)->Down rk L lo (x+1):=by
    intro L hk i j r M;rw[hk,hk];by_cases u:j<x
    .exact d i j r u
    .obtain rfl:j=x:=by lia
     by_cases p:i=j
     .subst p;exact UP _
     .have y:=d i (j-1) (by lia) (by lia);rw[show lo+(j-1)=lo+j-1 by lia]at y;exact Vz (VW e) y
   by_cases z:q>0
   .rw[bw z];refine XA (zjj (Xp ⟨0,rfl,l.mirror (by lia) (by lia),g _ (jW J λk Y k2=>?_),by lia,λi h1 h2=>by congr 1;lia⟩));have y:=he (k-lo) (by lia) (by lia);rw[show lo+(k-lo)=k by lia,show lo+(x-1)=lo+x-1 by lia]at y;exact y
   .rw[bq z];exact Xp ⟨0,rfl,l,g _ (λ_=>rfl),by lia,λi h1 h2=>by congr 1;lia⟩
  .simp only[e,decide_false,WJ,if_false];refine XA (zc3 T l.ok (by lia) (by lia) ?_);by_cases f:Rk rk (Xn a) (lo+x-1)<Rk rk (Xn a) (lo+x)
   .simp only[f,decide_true,if_true];exact Xp (h x q a l D (by lia) d B he)
   .simp only[f,decide_false,WJ,if_false];have o:Rk rk (Xn a) (lo+x)=Rk rk (Xn a) (lo+(x-1)):=by
     rw[show lo+(x-1)=lo+x-1 by lia];lia
    refine Xp ⟨q+1,rfl,l,λi j r M=>?_,by lia,λi h1 h2=>?_⟩
    .by_cases u:j<x
     .exact d i j r u
     .obtain rfl:j=x:=by lia
      by_cases p:i=j
      .subst p;exact UP _
      .rw[o];exact d i (j-1) (by lia) (by lia)
    .rw[show x+1-1=x by lia];by_cases G:i=x
     .subst G;rfl
     .rw[o];exact he i (by lia) (by lia)
def zjl {g st:WM}{lo n b:Nat}{Q:Option Nat->WM->Prop}(T:Tells prog w A s κ rk a0)(S:Step κ a0 lo g st)(p:lo+b<=a0.size)(r:n+1<=b)(y:Down rk (Xn st) lo (n+1))
  (h:∀m a,Step κ a0 lo g a->1<=m->m<=b->Up rk (Xn a) lo (lo+m)->Q (some m) a):wpS (Xr prog w) A E s (part2 lo n b) Q st:=by
 unfold part2;refine XA (PN (UM ⟨rfl,?_⟩));refine XA (zn7 T S p (by lia) r y λm q a l x c e z he=>?_);dsimp only;have f:lo+m<=(Xn a).size:=by
  rw[l.ok.size];lia
 by_cases d:q>0
 .rw[bw d];refine XA (zjj (zlX T (l.mirror (by lia) (by lia)) p (by lia) c ?_ h));intro i j o v;show Rk rk (mirror (Xn a) _ _ _) (lo+j)<=Rk rk (mirror (Xn a) _ _ _) (lo+i);have same:∀k,lo+m-(q+1)<=k->k<lo+m->Rk rk (Xn a) k=Rk rk (Xn a) (lo+m-1):=λk B D=>by
   have u:=he (k-lo) (by lia) (by lia);rw[show lo+(k-lo)=k by lia,show lo+(m-1)=lo+m-1 by lia]at u;exact u
  rw[jW f same,jW f same];exact e i j o v
 .rw[bq d];exact zlX T l p (by lia) c e h
def zbU {st:WM}{lo b:Nat}{Q:Option Nat->WM->Prop}(T:Tells prog w A s κ rk a0)(O:Ok κ a0 st)(v:lo+b<=a0.size)(h1:1<=b)
  (h:∀m l,Step κ a0 lo st l->1<=m->m<=b->Up rk (Xn l) lo (lo+m)->Q (some m) l):wpS (Xr prog w) A E s (countRun' lo b) Q st:=by
 have S:=Step.refl (lo:=lo) O;rw[run_eq];refine XA (zpj T O v (XV 1) h1 (λi j I p y=>by
  obtain rfl:i=j:=by lia
  exact UP _) λn q r d x=>?_)
 dsimp only;by_cases g:n=b
 .rw[bw (by simpa using g)];exact Xp (h n st S q r d)
 .rw[bq (by simpa using g)];have f:Rk rk (Xn st) (lo+n)<Rk rk (Xn st) (lo+n-1):=x.resolve_left g;have u:lo+n<=(Xn st).size:=by
   rw[O.size];lia
  by_cases o:n>1
  .rw[bw o];refine XA (zc3 T O (by lia) (by lia) ?_);by_cases c:Rk rk (Xn st) lo<Rk rk (Xn st) (lo+n-1)
   .simp only[c,decide_true,if_true];exact Xp (h n st S q r d)
   .simp only[c,decide_false,WJ,if_false];have a:∀k,lo<=k->k<lo+n->Rk rk (Xn st) k=Rk rk (Xn st) (lo+n-1):=by
     intro k z D;have G:=d lo k (XV _) z D;have H:=d k (lo+n-1) z (by lia) (by lia);lia
    refine XA (zjj (zjl T (S.mirror (XV _) (by lia)) v (by lia) ?_ h));intro i j p y;show Rk rk (mirror (Xn st) _ _ _) (lo+j)<=Rk rk (mirror (Xn st) _ _ _) (lo+i);rw[jW u a,jW u a];by_cases B:j<n
    .rw[a (lo+i) (by lia) (by lia),a (lo+j) (by lia) (by lia)];exact UP _
    .obtain rfl:j=n:=by lia
     by_cases e:i=j
     .subst e;exact UP _
     .rw[a (lo+i) (by lia) (by lia)];exact VW f
  .rw[bq o];obtain rfl:n=1:=by lia
   refine zjl T S v (by lia) ?_ h;intro i j p y;by_cases e:i=j
   .subst e;exact UP _
   .obtain rfl:i=0:=by lia
    obtain rfl:j=1:=by lia
    rw[SR]at f;exact VW f
def zeC {xs:Array W7}{src d:Nat}(b:src<xs.size)(a:d<=src)(k:Nat):Rk rk (bubble xs src d) k=if k=src-d then Rk rk xs src else if src-d<k/\k<=src then Rk rk xs (k-1) else Rk rk xs k:=by
 have e:=getElem?_bubble b d a k;by_cases h1:k=src-d
 .rw[bw h1]at e ⊢;exact JW e
 .rw[bq h1]at e ⊢;by_cases h2:src-d<k/\k<=src
  .rw[bw h2]at e ⊢;exact JW e
  .rw[bq h2]at e ⊢;exact JW e
def zrZ {st:WM}{lo n ok:Nat}{Q:Bool->WM->Prop}(T:Tells prog w A s κ rk a0)(O:Ok κ a0 st)(hn:lo+n<=a0.size)(ab:ok<=n)(hs:Up rk (Xn st) lo (lo+ok))
  (h:∀e,Step κ a0 lo st e->Up rk (Xn e) lo (lo+n)->Q true e):wpS (Xr prog w) A E s (binarySort' lo n ok) Q st:=by
 rw[binarySort'_eq];refine XA (Uj (VX (I:=λk c e=>c=(none,())/\Step κ a0 lo st e/\Up rk (Xn e) lo (lo+min k n))
  (Q:=λc e=>c=(none,())/\Step κ a0 lo st e/\Up rk (Xn e) lo (lo+n)) ?step ?fin ?init) ?post)
 case post =>
  rintro c e ⟨rfl,p,g⟩
  exact Xp (h e p g)
 case init =>
  refine⟨rfl,Step.refl O,λi j z D U=>?_⟩
  by_cases h1:ok=0
  .obtain rfl:i=j:=by lia
   exact UP _
  .exact hs i j z D (by lia)
 case fin =>
  rintro c e ⟨N,p,g⟩
  refine⟨N,p,?_⟩
  rwa [show min (max (max ok 1) n) n=n by lia]at g
 case step =>
  rintro k c e M Y ⟨rfl,p,g⟩
  rw[show min k n=k by lia]at g
  have v:=p.ok
  have hk:lo+k<a0.size:=by lia
  refine XA (Uj (VX (I:=λx c d=>d=e/\∃l r,c=(none,l,r)/\l<=r/\r<=k/\r-l<=k-x /\
    (∀i,i<l->Rk rk (Xn e) (lo+i)<=Rk rk (Xn e) (lo+k))/\(∀i,r<=i->i<k->Rk rk (Xn e) (lo+k)<Rk rk (Xn e) (lo+i)))
   (Q:=λc d=>d=e/\∃l r,c=(none,l,r)/\l<=k /\
    (∀i,i<l->Rk rk (Xn e) (lo+i)<=Rk rk (Xn e) (lo+k))/\(∀i,l<=i->i<k->Rk rk (Xn e) (lo+k)<Rk rk (Xn e) (lo+i))) ?istep ?ifin ?iinit) ?ipost)
  case iinit=>exact⟨rfl,0,k,rfl,by lia,by lia,by lia,λi z=>by lia,λi h1 h2=>by lia⟩
  case ifin =>
   refine λc d=>ff λz0=>fq λl r=>e8 λz1 G u hm o m=>?_;subst z0 z1
   obtain rfl:l=r:=by lia
   exact⟨rfl,l,l,rfl,u,o,m⟩
  case istep =>
   refine λx c d _ ac=>ff λz0=>fq λl r=>e8 λz1 G u hm o m=>?_;subst z0 z1
   dsimp only
   by_cases y:l >= r
   .rw[bw y];obtain rfl:l=r:=by lia
    exact Xp ⟨rfl,l,l,rfl,u,o,m⟩
   .rw[bq y];refine XA (zc3 T v hk (by lia) ?_);by_cases f:Rk rk (Xn d) (lo+k)<Rk rk (Xn d) (lo+(l+r)/2)
    .simp only[f,decide_true,if_true];refine Xp ⟨rfl,(dF l ((l+r)/2) (dG rfl (by lia) (by lia) (by lia) o (λi h1 h2=>?_)))⟩;exact Int.lt_of_lt_of_le f (g _ _ (by lia) (by lia) (by lia))
    .simp only[f,decide_false,WJ,if_false];refine Xp ⟨rfl,(dF ((l+r)/2+1) r (dG rfl (by lia) (by lia) (by lia) (λi h1=>?_) m))⟩;exact Vz (g (lo+i) (lo+(l+r)/2) (by lia) (by lia) (by lia)) (NY.mp f)
  case ipost =>
   refine λc d=>ff λz0=>eU λl r z1 aa o m=>?_;subst z0 z1
   show wpS _ _ _ _ (do moveDown' (lo+k) (lo+l);pure (VU (none,()))) _ _
   rw[moveDown'_eq]
   have q:lo+k<(Xn d).size:=by
    rw[v.size];exact hk
   refine XA (SU (Xp ⟨rfl,⟨⟨(bubble_perm _ _ _).trans v.perm,v.kind,v.good⟩,p.pend,λi z=>?_⟩,?_⟩))
   .show (bubble (Xn d) (lo+k) (lo+k-(lo+l)))[i]?=_;rw[getElem?_bubble q _ (by lia),bq (by lia),bq (by lia)];exact p.low i z
   .rw[show min (k+1) n=k+1 by lia];intro i j z D U;show Rk rk (bubble (Xn d) (lo+k) (lo+k-(lo+l))) i<=Rk rk (bubble (Xn d) (lo+k) (lo+k-(lo+l))) j;rw[zeC q (by lia),zeC q (by lia),show lo+k-(lo+k-(lo+l))=lo+l by lia];have up:∀a b,lo<=a->a<=b->b<lo+k->Rk rk (Xn d) a<=Rk rk (Xn d) b:=g;have H:∀a,lo<=a->a<lo+l->Rk rk (Xn d) a<=Rk rk (Xn d) (lo+k):=λa J L=>by
     have:=o (a-lo) (by lia);rwa [show lo+(a-lo)=a by lia]at this
    have B:∀a,lo+l<=a->a<lo+k->Rk rk (Xn d) (lo+k)<Rk rk (Xn d) a:=λa J L=>by
     have:=m (a-lo) (by lia) (by lia);rwa [show lo+(a-lo)=a by lia]at this
    repeat' split
    all_goals first
     | (exfalso;lia)
     | exact UP _
     | exact H _ (by lia) (by lia)
     | exact VW (B _ (by lia) (by lia))
     | exact up _ _ (by lia) (by lia) (by lia)
def gallop':Bool->W7->Array W7->Nat->Nat->Nat->StateT WM Sem (Option Nat):=sortPriv% PySem.Builtin.gallop
def mergeLo':Array W7->Array W7->StateT WM Sem (Array W7):=sortPriv% PySem.Builtin.mergeLo
def mergeHi':Array W7->Array W7->StateT WM Sem (Array W7):=sortPriv% PySem.Builtin.mergeHi
def bey (rk:W7->Int)(left:Bool)(a x:W7):Bool:=if left then decide (rk x<rk a) else !decide (rk a<rk x)
def zgM {st:WM}{left:Bool}{B:W7}{L:Array W7}{v n hint:Nat}{Q:Option Nat->WM->Prop}(T:Tells prog w A s κ rk a0)(hk:kindOf st=κ)(G:B∈a0.toList)(b:Nat->Bool)
  (he:∀i,i<n->∃x,L[v+i]?=some x/\x∈a0.toList/\b i=bey rk left B x) (mono:∀i j,i<=j->j<n->b j=true->b i=true) (hh:hint<n)
  (h:∀k,k<=n->(∀i,i<k->b i=true)->(∀i,k<=i->i<n->b i=false)->Q (some k) st):wpS (Xr prog w) A E s (gallop' left B L v n hint) Q st:=by
 have one:∀{i:Nat} {U:Option Bool->WM->Prop},i<n->U (some (b i)) st->wpS (Xr prog w) A E s (do
   let x <- elem' L (v+i)
   if left=true then lt' x B
    else do
     let r <- lt' B x
     pure (Option.map (λx=>!x) r)) U st:=by
  intro i U z H;obtain⟨x,e1,e2,M⟩:=he i z;refine XA (jc e1 ?_);unfold bey at M;cases left with
  | true =>
   rw[bw rfl]at M ⊢;rw[M]at H;exact zlV T hk e2 G H
  | false =>
   rw[bq XT]at M ⊢;rw[M]at H;exact XA (zlV T hk G e2 (Xp H))
 have J:∀{f:Nat->Option (Option Nat)×AA->StateT WM Sem (ForInStep (Option (Option Nat)×AA))} {g:Option (Option Nat)×AA->StateT WM Sem (Option Nat)},
   (∀x l r (R:ForInStep (Option (Option Nat)×AA)->WM->Prop),l >= r->R (.done (none,l,r)) st->wpS (Xr prog w) A E s (f x (none,l,r)) R st) ->
   (∀x l r (R:ForInStep (Option (Option Nat)×AA)->WM->Prop),l<r->r<=n->R (.yield (if b (l+(r-l)/2)=true then (none,l+(r-l)/2+1,r) else (none,l,l+(r-l)/2))) st->wpS (Xr prog w) A E s (f x (none,l,r)) R st) ->
   (∀l r,Q (some r) st->wpS (Xr prog w) A E s (g (none,l,r)) Q st) ->
   ∀(lo z:Nat),lo<=z->z<=n->(∀i,i<lo->b i=true)->(∀i,z<=i->i<n->b i=false)->wpS (Xr prog w) A E s (forIn [:n] ((none,lo,z):Option (Option Nat)×AA) f >>= g) Q st:=by
  intro f g f1 f2 g1 lo z h1 h2 h3 h4;refine XA (Uj (VX (I:=λx c a=>a=st/\∃l r,c=(none,l,r)/\l<=r/\r<=n/\r-l<=n-x/\(∀i,i<l->b i=true)/\(∀i,r<=i->i<n->b i=false))
   (Q:=λc a=>a=st/\∃l,c=(none,l,l)/\l<=n/\(∀i,i<l->b i=true)/\(∀i,l<=i->i<n->b i=false)) ?step ?fin ⟨rfl,lo,z,rfl,h1,h2,by lia,h3,h4⟩) ?post)
  case fin =>
   refine λc a=>ff λz0=>fq λl r=>e8 λz1 q e p m D=>?_;subst z0 z1
   obtain rfl:l=r:=by lia
   exact⟨rfl,l,rfl,e,m,D⟩
  case post =>
   rintro c a ⟨rfl,l,rfl,e,m,D⟩
   exact g1 l l (h l e m D)
  case step =>
   refine λx c a _ hx=>ff λz0=>fq λl r=>e8 λz1 q e p m D=>?_;subst z0 z1
   by_cases d:l >= r
   .obtain rfl:l=r:=by lia
    exact f1 x l l _ d ⟨rfl,l,rfl,e,m,D⟩
   .refine f2 x l r _ (by lia) e ?_;cases hb:b (l+(r-l)/2) with
    | true =>
     rw[bw rfl];exact⟨rfl,l+(r-l)/2+1,r,rfl,by lia,e,by lia,λi z=>mono i _ (by lia) (by lia) hb,D⟩
    | false =>
     rw[bq XT];refine⟨rfl,l,l+(r-l)/2,rfl,by lia,by lia,by lia,m,λi O N=>?_⟩;cases y:b i with
     | false=>rfl
     | true =>
      have:=mono _ i O N y;rw[hb]at this;cases this
 refine XA (one hh ?_);dsimp only;cases hb:b hint with
 | true =>
  rw[bw rfl];refine XA (Uj (VX (I:=λx c a=>a=st/\∃l o,c=(none,l,o)/\l<o/\hint+l<n/\b (hint+l)=true/\x+1<=o)
   (Q:=λc a=>a=st/\∃l o,c=(none,l,o)/\l<o/\hint+l<n/\b (hint+l)=true/\(o >= n-hint\/(hint+o<n/\b (hint+o)=false))) ?step ?fin ⟨rfl,0,1,rfl,by lia,hh,hb,by lia⟩) ?post)
  case fin =>
   refine λc a=>ff λz0=>eY λl o z1 q e p m=>?_;subst z0 z1
   exact⟨rfl,l,o,rfl,q,e,p,.inl (by lia)⟩
  case step =>
   refine λx c a _ hx=>ff λz0=>eY λl o z1 q e p m=>?_;subst z0 z1
   dsimp only
   by_cases d:o >= n-hint
   .rw[bw d];exact Xp ⟨rfl,l,o,rfl,q,e,p,.inl d⟩
   .rw[bq d];refine XA (one (by lia) ?_);dsimp only;cases hbo:b (hint+o) with
    | false =>
     rw[bw (by decide)];exact Xp ⟨rfl,l,o,rfl,q,e,p,.inr ⟨by lia,hbo⟩⟩
    | true =>
     rw[bq (by decide)];exact Xp ⟨rfl,o,2*o+1,rfl,by lia,by lia,hbo,by lia⟩
  case post =>
   refine λc a=>ff λz0=>eY λl o z1 q e p m=>?_;subst z0 z1
   refine J (λx l r R d u=>?_) (λx l r R Y hr u=>?_) (λl r H=>Xp H) (hint+l+1) (hint+min o (n-hint)) (by lia) (by lia) (λi z=>mono i (hint+l) (by lia) e p) λi O N=>?_
   .dsimp only;rw[bw d];exact Xp u
   .dsimp only;rw[bq (by lia)];refine XA (one (by lia) ?_);dsimp only;cases hbm:b (l+(r-l)/2) with
    | true =>
     rw[hbm,bw rfl]at u;rw[bw rfl];exact Xp u
    | false =>
     rw[hbm,bq XT]at u;rw[bq XT];exact Xp u
   .rcases m with m | ⟨m,D⟩
    .lia
    .cases y:b i with
     | false=>rfl
     | true =>
      have:=mono _ i (show hint+o<=i by lia) N y;rw[D]at this;cases this
 | false =>
  rw[bq XT];refine XA (Uj (VX (I:=λx c a=>a=st/\∃l o,c=(none,l,o)/\l<o/\l<=hint/\b (hint-l)=false/\x+1<=o)
   (Q:=λc a=>a=st/\∃l o,c=(none,l,o)/\l<o/\l<=hint/\b (hint-l)=false/\(o >= hint+1\/(o<=hint/\b (hint-o)=true))) ?step ?fin ⟨rfl,0,1,rfl,by lia,by lia,hb,by lia⟩) ?post)
  case fin =>
   refine λc a=>ff λz0=>eY λl o z1 q e p m=>?_;subst z0 z1
   exact⟨rfl,l,o,rfl,q,e,p,.inl (by lia)⟩
  case step =>
   refine λx c a _ hx=>ff λz0=>eY λl o z1 q e p m=>?_;subst z0 z1
   dsimp only
   by_cases d:o >= hint+1
   .rw[bw d];exact Xp ⟨rfl,l,o,rfl,q,e,p,.inl d⟩
   .rw[bq d];refine XA (one (by lia) ?_);dsimp only;cases hbo:b (hint-o) with
    | true =>
     rw[bw rfl];exact Xp ⟨rfl,l,o,rfl,q,e,p,.inr ⟨by lia,hbo⟩⟩
    | false =>
     rw[bq (by decide)];exact Xp ⟨rfl,o,2*o+1,rfl,by lia,by lia,hbo,by lia⟩
  case post =>
   refine λc a=>ff λz0=>eY λl o z1 q e p m=>?_;subst z0 z1
   refine J (λx l r R d u=>?_) (λx l r R Y hr u=>?_) (λl r H=>Xp H) (hint+1-min o (hint+1)) (hint-l) (by lia) (by lia) (λi z=>?_) λi O N=>?_
   .dsimp only;rw[bw d];exact Xp u
   .dsimp only;rw[bq (by lia)];refine XA (one (by lia) ?_);dsimp only;cases hbm:b (l+(r-l)/2) with
    | true =>
     rw[hbm,bw rfl]at u;rw[bw rfl];exact Xp u
    | false =>
     rw[hbm,bq XT]at u;rw[bq XT];exact Xp u
   .rcases m with m | ⟨m,D⟩
    .lia
    .exact mono i (hint-o) (by lia) (by lia) D
   .cases y:b i with
    | false=>rfl
    | true =>
     have:=mono _ i O N y;rw[p]at this;cases this
end
structure MI (rk:W7->Int)(aL bL:List W7)(ia ib:Nat)(oL:List W7):Prop where
 perm:oL.Perm (aL.take ia++bL.take ib)
 srt:oL.Pairwise λx y=>rk x<=rk y
 la:∀x∈oL,∀y∈aL.drop ia,rk x<=rk y
 lb:∀x∈oL,∀y∈bL.drop ib,rk x<=rk y
section
variable {rk:W7->Int}{aL bL oL:List W7}{ia ib:Nat}
def MI.swap (M:MI rk aL bL ia ib oL):MI rk bL aL ib ia oL:=⟨M.perm.trans TQ,M.srt,M.lb,M.la⟩
def zks (l:List W7)(i k:Nat):l.take (i+k)=l.take i++(l.drop i).take k:=by
 rw[List.take_add]
def MI.takeA (M:MI rk aL bL ia ib oL)(sa:aL.Pairwise λx y=>rk x<=rk y)(k:Nat)(h:∀x∈(aL.drop ia).take k,∀y∈bL.drop ib,rk x<=rk y):MI rk aL bL (ia+k) ib (oL++(aL.drop ia).take k):=by
 have b:(aL.drop ia).Pairwise λx y=>rk x<=rk y:=sa.sublist (P7 _ _);have c:(aL.drop ia).drop k=aL.drop (ia+k):=OH;refine⟨?_,?_,λx hx y a=>?_,λx hx y a=>?_⟩
 .rw[zks,WW];refine(M.perm.append_right _).trans ?_;rw[WW];exact Se _ TQ
 .rw[Tw];exact⟨M.srt,b.sublist (TM _ _),λx hx y a=>M.la x hx y (VJ a)⟩
 .rw[<- c]at a;rcases XG.mp hx with hx | hx
  .exact M.la x hx y (OB a)
  .have:=b;rw[<- WU k (aL.drop ia),Tw]at this;exact this.2.2 x hx y a
 .rcases XG.mp hx with hx | hx
  .exact M.lb x hx y a
  .exact h x hx y a
def MI.takeB (M:MI rk aL bL ia ib oL)(a:bL.Pairwise λx y=>rk x<=rk y)(k:Nat)(h:∀x∈(bL.drop ib).take k,∀y∈aL.drop ia,rk x<=rk y):MI rk aL bL ia (ib+k) (oL++(bL.drop ib).take k):=(M.swap.takeA a k h).swap
def Mg (rk:W7->Int)(aL bL oL:List W7):Prop:=oL.Perm (aL++bL)/\oL.Pairwise λx y=>rk x<=rk y
def MI.all (M:MI rk aL bL ia ib oL)(a:aL.length<=ia)(b:bL.length<=ib):Mg rk aL bL oL:=by
 have:=M.perm;rw[WC a,WC b]at this;exact⟨this,M.srt⟩
def MI.doneB (M:MI rk aL bL ia ib oL)(sa:aL.Pairwise λx y=>rk x<=rk y)(a:bL.length<=ib):Mg rk aL bL (oL++aL.drop ia):=by
 have:=M.takeA sa (aL.drop ia).length (λx _ y b=>by
  rw[Sk a]at b;cases b)
 rw[XO]at this;exact this.all (by rw[Vf];lia) a
def MI.lastA (M:MI rk aL bL ia ib oL)(sa:aL.Pairwise λx y=>rk x<=rk y)(c:bL.Pairwise λx y=>rk x<=rk y)(h:∀x∈bL,∀y∈aL.drop ia,rk x<=rk y):Mg rk aL bL (oL++bL.drop ib++aL.drop ia):=by
 have M2:=M.takeB c (bL.drop ib).length (λx a y b=>h x (OB (VJ a)) y b);rw[XO]at M2;exact M2.doneB sa (by rw[Vf];lia)
def ext_toList (a:Array W7)(i j:Nat)(b:i<=j):(a.extract i j).toList=(a.toList.drop i).take (j-i):=by
 rw[OA,Rf]
def zaK (a:Array W7)(i:Nat):(a.extract i a.size).toList=a.toList.drop i:=by
 rw[OA,Rf,WC];rw[Vf,X6];exact XV _
def zlY {a:Array W7}{i:Nat}{x:W7}(h:a[i]?=some x):(a.toList.drop i).take 1=[x]:=by
 have b:i<a.toList.length:=by
  rw[X6];exact(Vl.mp h).1
 rw[WL b,Ul,List.take_zero];have:a.toList[i]?=some x:=by rw[Xz];exact h
 rw[X2 b]at this;rw[Option.some.inj this]
end
section
variable {prog:Xm}{w:W1}{A:WN}{E:X9->X7->Prop}{s:X7}{rk:W7->Int}{κ:TF}{a0:Array W7}
structure Kept (st st':WM):Prop where
 arr:Xn st'=Xn st
 kind:kindOf st'=kindOf st
 pend:WK st'=WK st
 bad:SE st'=SE st
def setG':Nat->StateT WM Sem Unit:=sortPriv% PySem.Builtin.setMinGallop
def Kept.refl (st:WM):Kept st st:=⟨rfl,rfl,rfl,rfl⟩
def zfx {b st:WM}{g:Nat}{Q:Unit->WM->Prop}(k:Kept b st)(h:∀a,Kept b a->Q () a):wpS (Xr prog w) A E s (setG' g) Q st:=by
 have e:setG' g=modify λc=>SortSt.mk' (kindOf c) (Xn c) (WK c) g (SE c):=rfl;rw[e];exact SU (h _ ⟨k.arr,k.kind,k.pend,k.bad⟩)
def qC {α:Type}{c:Prop} [Decidable c]{x y:StateT WM Sem α}{Q:α->WM->Prop}{st:WM}(h1:c->wpS (Xr prog w) A E s x Q st)(h2:¬ c->wpS (Xr prog w) A E s y Q st):wpS (Xr prog w) A E s (if c then x else y) Q st:=by
 by_cases a:c
 .rw[bw a];exact h1 a
 .rw[bq a];exact h2 a
def jq {a:Array W7}{i:Nat}(h:i<a.size):∃x,a[i]?=some x/\x∈a.toList:=⟨a[i],getElem?_pos a i h,by simp⟩
def Zm {a:Array W7}(sa:a.toList.Pairwise λx y=>rk x<=rk y){i:Nat}{x:W7}(e:a[i]?=some x):∀y∈a.toList.drop i,rk x<=rk y:=by
 have b:i<a.toList.length:=by
  rw[X6];exact(Vl.mp e).1
 have c:a.toList[i]?=some x:=by rw[Xz];exact e
 rw[X2 b]at c;have d:=Option.some.inj c;have f:=sa.sublist (P7 i a.toList);rw[WL b,d,Ro]at f;rw[WL b,d];intro y hy;rcases XH.mp hy with rfl | hy
 .exact UP _
 .exact f.1 y hy
def Y8 {a b c:Array W7}{f d:Nat}(M:MI rk a.toList b.toList f d c.toList)(sa:a.toList.Pairwise λx y=>rk x<=rk y)(e:b.size<=d):Mg rk a.toList b.toList (c++a.extract f a.size++b.extract d b.size).toList:=by
 rw[W3,W3,zaK,zaK,Sk (as:=b.toList) (by rw[X6];exact e),Xa];exact M.doneB sa (by rw[X6];exact e)
def Y9 {a b d:Array W7}{c g:Nat}(M:MI rk a.toList b.toList c g d.toList)(sa:a.toList.Pairwise λx y=>rk x<=rk y)(k:b.toList.Pairwise λx y=>rk x<=rk y)(i:∀x∈b.toList,∀y,a[a.size-1]?=some y->rk x<=rk y)(l:c+1=a.size):Mg rk a.toList b.toList (d++b.extract g b.size++a.extract c a.size).toList:=by
 rw[W3,W3,zaK,zaK];refine M.lastA sa k λx j y f=>?_;have e:c<a.toList.length:=by rw[X6];lia
 rw[WL e,Sk (by rw[X6];lia)]at f;have h:y=a.toList[c]:=by simpa using f
 refine i x j y ?_;rw[show a.size-1=c by lia,<- Xz,X2 e,h]
def zkt (a:Array W7)(x:W7):(a.push x).toList=a.toList++[x]:=So ..
def MI.oneB {a b c:Array W7}{d f:Nat}{x:W7}(M:MI rk a.toList b.toList d f c.toList)(k:b.toList.Pairwise λx y=>rk x<=rk y)(e:b[f]?=some x)(h:∀y∈a.toList.drop d,rk x<=rk y):MI rk a.toList b.toList d (f+1) (c.push x).toList:=by
 rw[zkt,<- zlY e];refine M.takeB k 1 λz g y j=>?_;rw[zlY e]at g;have i:z=x:=by simpa using g
 rw[i];exact h y j
def MI.oneA {a b c:Array W7}{d f:Nat}{x:W7}(M:MI rk a.toList b.toList d f c.toList)(sa:a.toList.Pairwise λx y=>rk x<=rk y)(e:a[d]?=some x)(h:∀y∈b.toList.drop f,rk x<=rk y):MI rk a.toList b.toList (d+1) f (c.push x).toList:=(MI.oneB M.swap sa e h).swap
def MI.someA {a b f:Array W7}{c g k:Nat}{y:W7}(M:MI rk a.toList b.toList c g f.toList)(sa:a.toList.Pairwise λx y=>rk x<=rk y)(o:b.toList.Pairwise λx y=>rk x<=rk y)(e:b[g]?=some y)(h:∀i x,i<k->a[c+i]?=some x->rk x<=rk y):MI rk a.toList b.toList (c+k) g (f++a.extract c (c+k)).toList:=by
 rw[W3,ext_toList _ _ _ (Uf _ _),Pw];refine M.takeA sa k λx m z n=>Vz ?_ (Zm o e z n);obtain⟨i,j,l⟩:=Tf m;have d:i<k:=by
  rw[XQ]at j;lia
 refine h i x d ?_;have:((a.toList.drop c).take k)[i]?=some x:=by rw[X2 j,l]
 rw[List.getElem?_take,bw d,T8,Xz]at this;exact this
def MI.someB {a b d:Array W7}{f c k:Nat}{y:W7}(M:MI rk a.toList b.toList f c d.toList)(sa:a.toList.Pairwise λx y=>rk x<=rk y)(g:b.toList.Pairwise λx y=>rk x<=rk y)(e:a[f]?=some y)(h:∀i x,i<k->b[c+i]?=some x->rk x<=rk y):MI rk a.toList b.toList f (c+k) (d++b.extract c (c+k)).toList:=(MI.someA M.swap g sa e h).swap
def zbr {st:WM}{c:W7}{a:Array W7}{b n hint:Nat}{Q:Option Nat->WM->Prop}(T:Tells prog w A s κ rk a0)(hk:kindOf st=κ)(d:c∈a0.toList)(B:∀x∈a.toList,x∈a0.toList)(up:∀i j x y,b<=i->i<=j->j<b+n->a[i]?=some x->a[j]?=some y->rk x<=rk y)(D:b+n<=a.size)(u:hint<n)
  (h:∀k,k<=n->(∀i x,i<k->a[b+i]?=some x->rk x<=rk c)->(∀i x,k<=i->i<n->a[b+i]?=some x->rk c<rk x)->Q (some k) st):wpS (Xr prog w) A E s (gallop' false c a b n hint) Q st:=by
 have he:∀i,i<n->∃x,a[b+i]?=some x/\x∈a.toList:=λi g=>jq (by lia);refine zgM T hk d (λi=>match a[b+i]? with | some x=>bey rk false c x | none=>false) (λi g=>?_) (λi j v z f=>?_) u λk p h1 h2=>h k p (λi x g e=>?_) λi x l o e=>?_
 .obtain⟨x,e,m⟩:=he i g;refine⟨x,e,B x m,?_⟩;try dsimp only
  rw[e]
 .obtain⟨x,q,_⟩:=he i (by lia);obtain⟨y,r,_⟩:=he j z;try dsimp only at f ⊢
  rw[r]at f;rw[q];have:=up (b+i) (b+j) x y (by lia) (by lia) (by lia) q r;unfold bey at f ⊢;simp only[WJ,if_false,Ws,decide_eq_false_iff_not]at f ⊢;lia
 .have:=h1 i g;try dsimp only at this
  rw[e]at this;unfold bey at this;simp only[WJ,if_false,Ws,decide_eq_false_iff_not]at this;lia
 .have:=h2 i l o;try dsimp only at this
  rw[e]at this;unfold bey at this;simp only[WJ,if_false,Bool.not_eq_false',bu]at this;exact this
def zbs {st:WM}{c:W7}{a:Array W7}{b n hint:Nat}{Q:Option Nat->WM->Prop}(T:Tells prog w A s κ rk a0)(hk:kindOf st=κ)(d:c∈a0.toList)(B:∀x∈a.toList,x∈a0.toList)(up:∀i j x y,b<=i->i<=j->j<b+n->a[i]?=some x->a[j]?=some y->rk x<=rk y)(D:b+n<=a.size)(u:hint<n)
  (h:∀k,k<=n->(∀i x,i<k->a[b+i]?=some x->rk x<rk c)->(∀i x,k<=i->i<n->a[b+i]?=some x->rk c<=rk x)->Q (some k) st):wpS (Xr prog w) A E s (gallop' true c a b n hint) Q st:=by
 have he:∀i,i<n->∃x,a[b+i]?=some x/\x∈a.toList:=λi g=>jq (by lia);refine zgM T hk d (λi=>match a[b+i]? with | some x=>bey rk true c x | none=>false) (λi g=>?_) (λi j v z f=>?_) u λk p h1 h2=>h k p (λi x g e=>?_) λi x l o e=>?_
 .obtain⟨x,e,m⟩:=he i g;refine⟨x,e,B x m,?_⟩;try dsimp only
  rw[e]
 .obtain⟨x,q,_⟩:=he i (by lia);obtain⟨y,r,_⟩:=he j z;try dsimp only at f ⊢
  rw[r]at f;rw[q];have:=up (b+i) (b+j) x y (by lia) (by lia) (by lia) q r;unfold bey at f ⊢;simp only[if_true,bu]at f ⊢;lia
 .have:=h1 i g;try dsimp only at this
  rw[e]at this;unfold bey at this;simp only[if_true,bu]at this;exact this
 .have:=h2 i l o;try dsimp only at this
  rw[e]at this;unfold bey at this;simp only[if_true,decide_eq_false_iff_not]at this;lia
def zjm {a:Array W7}(sa:a.toList.Pairwise λx y=>rk x<=rk y){i j:Nat}{x y:W7}(d:i<=j)(c:a[i]?=some x)(b:a[j]?=some y):rk x<=rk y:=by
 refine Zm sa c y ?_;have e:j<a.toList.length:=by
  rw[X6];exact(Vl.mp b).1
 refine X8 (i:=j-i) ?_;rw[T8,Xz,show i+(j-i)=j by lia];exact b
set_option maxHeartbeats 8000000 in
theorem via {P:Prop}(h:∀G:Prop,(P->G)->G):P:=h P id
structure Key (P:Prop):Prop where
 get:P
def cut {P R:Prop}(k:P)(h:Key P->R):R:=h ⟨k⟩
def zku {p:WM}{a b:Array W7}{Q:Array W7->WM->Prop}(T:Tells prog w A s κ rk a0)(hk:kindOf p=κ)(ma:∀x∈a.toList,x∈a0.toList)(mb:∀x∈b.toList,x∈a0.toList)(sa:a.toList.Pairwise λx y=>rk x<=rk y)(O:b.toList.Pairwise λx y=>rk x<=rk y)
  (ha:0<a.size) (hb:0<b.size) (h0:∀x y,b[0]?=some x->y∈a.toList->rk x<=rk y) (au:∀x∈b.toList,∀y,a[a.size-1]?=some y->rk x<rk y)
  (h:∀d l,Kept p l->Mg rk a.toList b.toList d.toList->Q d l):wpS (Xr prog w) A E s (mergeLo' a b) Q p:=by
 have hl:∀x∈b.toList,∀y,a[a.size-1]?=some y->rk x<=rk y:=λx hx y hy=>VW (au x hx y hy);refine XA (PN (UM ⟨rfl,?_⟩));refine fc (λb0 ah _=>?_) (jq hb);refine XA (jc ah ?_);have M0:MI rk a.toList b.toList 0 0 (#[]:Array W7).toList:=⟨by simp,List.Pairwise.nil,(λx hx=>nomatch hx),(λx hx=>nomatch hx)⟩;have M1:MI rk a.toList b.toList 0 1 (#[b0]:Array W7).toList:=MI.oneB M0 O ah λy hy=>h0 b0 y ah (by simpa using hy);dsimp -zeta only;refine qC (λhc=>Xp (h _ _ (Kept.refl _) (Y8 M1 sa (by rw[show 1=b.size by simpa using hc];exact XV _)))) λhc=>?_;refine qC (λak=>Xp (h _ _ (Kept.refl _) (Y9 M1 sa O hl (by simpa using ak)))) λak=>?_;have az:1<b.size:=by
  have:¬ 1=b.size:=by simpa using hc
  lia
 have ay:0+1<a.size:=by
  have:¬ 0+1=a.size:=by simpa using ak
  lia
 refine XA (R1 ?_);refine XA (Uj (VX (I:=λx c l=>∃d f g mg,c=(none,d,f,g,mg)/\MI rk a.toList b.toList f g d.toList/\f+1<a.size/\g<b.size/\x+1<=f+g/\Kept p l)
  (Q:=λc l=>∃m,c.1=some m/\Mg rk a.toList b.toList m.toList/\Kept p l) ?step ?fin ⟨_,0,1,_,rfl,M1,ay,az,by lia,Kept.refl _⟩) ?post)
 case fin =>
  rintro c l ⟨d,f,g,mg,rfl,M,h1,h2,h3,k⟩
  lia
 case post =>
  rintro⟨c1,c2⟩ l ⟨m,e,hM,k⟩
  dsimp only at e ⊢
  subst e
  exact Xp (h _ _ k hM)
 case step =>
  intro x0 c ao _ aB hI
  refine via λG n=>?_
  obtain⟨d,f,g,mg,rfl,M,h1,h2,h3,k1⟩:=hI
  refine n ?_
  clear n
  have a6:kindOf ao=κ:=k1.kind.trans hk
  dsimp -zeta only
  refine XA (Uj (VX (I:=λx c l=>l=ao/\∃d f g D H,c=(none,d,f,g,D,H)/\MI rk a.toList b.toList f g d.toList/\f+1<a.size/\g<b.size/\x0+1+x<=f+g)
   (Q:=λc l=>l=ao/\((∃m,c.1=some m/\Mg rk a.toList b.toList m.toList)\/∃d f g D H,c=(none,d,f,g,D,H)/\MI rk a.toList b.toList f g d.toList/\f+1<a.size/\g<b.size/\x0+2<=f+g)) ?step1 ?fin1 ⟨rfl,(dQ rfl M h1 h2 (by lia))⟩) ?post1)
  case fin1 =>
   refine λc l=>ff λz0=>fD λd f g D H=>fE λz1 M h1 h2 h3=>?_;subst z0 z1
   exact⟨rfl,.inr ⟨d,f,g,D,H,rfl,M,h1,h2,by lia⟩⟩
  case step1 =>
   intro x c l _ hx hI
   refine via λG n=>?_
   obtain⟨rfl,d,f,g,D,H,rfl,M,h1,h2,h3⟩:=hI
   obtain⟨y,ey,my⟩:=jq h2
   obtain⟨z,r,mz⟩:=jq (a:=a) (i:=f) (by lia)
   refine n ?_
   clear n
   dsimp -zeta only
   refine XA (jc ey (XA (jc r (XA (zlV T a6 (mb y my) (ma z mz) ?_)))))
   dsimp -zeta only
   refine qC (λam=>?_) λam=>?_
   .have aa:rk y<rk z:=bg am;have M2:=MI.oneB M O ey λv hv=>Vz (VW aa) (Zm sa r v hv);refine XA (jc ey ?_);refine qC (λhe=>Xp ⟨rfl,.inl ⟨_,rfl,Y8 M2 sa (by rw[show g+1=b.size by simpa using he];exact XV _)⟩⟩) λhe=>?_;have af:g+1<b.size:=by
     have:¬ g+1=b.size:=by simpa using he
     lia
    exact qC (λ_=>Xp ⟨rfl,.inr (dQ rfl M2 h1 af (by lia))⟩) λ_=>Xp ⟨rfl,(dQ rfl M2 h1 af (by lia))⟩
   .have aa:¬ rk y<rk z:=λq=>am (br q);have M2:=MI.oneA M sa r λv hv=>Vz (NY.mp aa) (Zm O ey v hv);refine XA (jc r ?_);refine qC (λhe=>Xp ⟨rfl,.inl ⟨_,rfl,Y9 M2 sa O hl (by simpa using he)⟩⟩) λhe=>?_;have Y:f+1+1<a.size:=by
     have:¬ f+1+1=a.size:=by simpa using he
     lia
    exact qC (λ_=>Xp ⟨rfl,.inr (dQ rfl M2 Y h2 (by lia))⟩) λ_=>Xp ⟨rfl,(dQ rfl M2 Y h2 (by lia))⟩
  case post1 =>
   intro c l hI
   refine via λG n=>?_
   rcases hI with ⟨rfl,a4 | ⟨d,f,g,D,H,rfl,M,h1,h2,h3⟩⟩
   all_goals (refine n ?_;clear n)
   .revert a4;refine fc λm e hM=>?_;obtain⟨c1,c2⟩:=c;dsimp only at e ⊢;subst e;exact Xp ⟨m,rfl,hM,k1⟩
   dsimp -zeta only
   refine XA (PN (UM ⟨rfl,?_⟩))
   refine XA (Uj (VX (I:=λx c B=>∃d f g mg D H,c=(none,d,f,g,mg,D,H)/\MI rk a.toList b.toList f g d.toList/\f+1<a.size/\g<b.size/\x0+2<=f+g/\Kept p B)
    (Q:=λc B=>(∃m,c.1=some m/\Mg rk a.toList b.toList m.toList/\Kept p B)\/∃d f g mg D H,c=(none,d,f,g,mg,D,H)/\MI rk a.toList b.toList f g d.toList/\f+1<a.size/\g<b.size/\x0+2<=f+g/\Kept p B) ?step2 ?fin2 (dW (dG rfl M h1 h2 h3 k1))) ?post2)
   case fin2 =>
    rintro c B hc
    exact .inr hc
   case post2 =>
    rintro c B (⟨m,e,hM,k2⟩ | ⟨d,f,g,mg,D,H,rfl,M,h1,h2,h3,k2⟩)
    .obtain⟨c1,c2⟩:=c;dsimp only at e ⊢;subst e;exact Xp ⟨m,rfl,hM,k2⟩
    .dsimp -zeta only;exact XA (zfx k2 λaw k3=>Xp (dX (dG rfl M h1 h2 (by lia) k3)))
   case step2 =>
    intro x c B _ hx hI
    refine via λG n=>?_
    obtain⟨d,f,g,mg,D,H,rfl,M,h1,h2,h3,k2⟩:=hI
    obtain⟨y,ey,my⟩:=jq h2
    refine n ?_
    clear n
    dsimp -zeta only
    refine' cut ?key1 λo=>qC (λa7=>?a1) λa7=>?b1
    case a1 =>
     generalize mg-1=av
     revert av
     exact o.get
    case b1=>exact o.get mg
    intro av
    dsimp -zeta only
    refine XA (zfx k2 λaw k3=>?_)
    have ar:kindOf aw=κ:=k3.kind.trans hk
    refine XA (jc ey (XA (zbr T ar (mb y my) ma (λi j u v _ al _ eu J=>zjm sa al eu J) (by lia) (by lia) λk a9 g1 g2=>?_)))
    dsimp -zeta only
    refine' cut ?key2 λo=>qC (λa5=>?a2) λa5=>?b2
    case a2 =>
     have M2:=MI.someA M sa O ey g1
     refine qC (λhe=>Xp (.inl ⟨_,rfl,Y9 M2 sa O hl (by simpa using he),k3⟩)) λhe=>?_
     have aC:¬ f+k+1=a.size:=by simpa using he
     have kl:f+k<a.size:=by
      refine Nat.lt_of_not_le λa8=>?_;obtain⟨v,J,mv⟩:=jq (a:=a) (i:=a.size-1) (by lia);have q1:=g1 (a.size-1-f) v (by lia) (by rw[show f+(a.size-1-f)=a.size-1 by lia];exact J);have q2:=au y my v J;lia
     refine qC (λap=>absurd (show f+k=a.size by simpa using ap) (by lia)) λap=>?_
     have ai:f+k+1<a.size:=by lia
     have aj:x0+2<=f+k+g:=by lia
     have ab:∀z,a[f+k]?=some z->rk y<=rk z:=λz r=>VW (g2 k z (XV _) (by lia) r)
     generalize d++a.extract f (f+k)=ag at M2 ⊢
     generalize f+k=N at M2 ai aj ab ⊢
     revert ab;revert aj;revert ai;revert M2;revert N;revert ag
     exact o.get
    case b2=>exact o.get d f M h1 h3 λz r=>VW (g2 0 z (by lia) (by lia) (by simpa using r))
    intro ag N M2 ai aj ab
    refine via λG n=>?_
    obtain⟨z,r,mz⟩:=jq (a:=a) (i:=N) (by lia)
    refine n ?_
    clear n
    have M3:=MI.oneB M2 O ey λv hv=>Vz (ab z r) (Zm sa r v hv)
    refine XA (jc ey ?_)
    refine qC (λhe=>Xp (.inl ⟨_,rfl,Y8 M3 sa (by rw[show g+1=b.size by simpa using he];exact XV _),k3⟩)) λhe=>?_
    have af:g+1<b.size:=by
     have:¬ g+1=b.size:=by simpa using he
     lia
    refine XA (jc r (XA (zbs T ar (ma z mz) mb (λi j u v _ al _ eu J=>zjm O al eu J) (by lia) (by lia) λk' aA g3 g4=>?_)))
    dsimp -zeta only
    refine' cut ?key3 λo=>qC (λaq=>?a3) λaq=>?b3
    case a3 =>
     have M4:=MI.someB M3 sa O r λi u hi eu=>VW (g3 i u hi eu)
     refine qC (λhe=>Xp (.inl ⟨_,rfl,Y8 M4 sa (by rw[show g+1+k'=b.size by simpa using he];exact XV _),k3⟩)) λhe=>?_
     have L:g+1+k'<b.size:=by
      have:¬ g+1+k'=b.size:=by simpa using he
      lia
     have ae:∀v,b[g+1+k']?=some v->rk z<=rk v:=λv J=>g4 k' v (XV _) (by lia) J
     have U:x0+2<=N+(g+1+k'):=by lia
     generalize ag.push y++b.extract (g+1) (g+1+k')=ax at M4 ⊢
     generalize g+1+k'=an at M4 L ae U ⊢
     revert U;revert ae;revert L;revert M4;revert an;revert ax
     exact o.get
    case b3=>exact o.get (ag.push y) (g+1) M3 af (λv J=>g4 0 v (by lia) (by lia) (by simpa using J)) (by lia)
    intro ax an M4 L ae U
    refine via λG n=>?_
    obtain⟨v,J,mv⟩:=jq (a:=b) (i:=an) L
    refine n ?_
    clear n
    have M5:=MI.oneA M4 sa r λu hu=>Vz (ae v J) (Zm O J u hu)
    refine XA (jc r ?_)
    refine qC (λhe=>Xp (.inl ⟨_,rfl,Y9 M5 sa O hl (by simpa using he),k3⟩)) λhe=>?_
    have Y:N+1+1<a.size:=by
     have:¬ N+1+1=a.size:=by simpa using he
     lia
    exact qC (λ_=>Xp (.inr (dW (dG rfl M5 Y L (by lia) k3)))) λ_=>Xp (dW (dG rfl M5 Y L (by lia) k3))
end
def neg (rk:W7->Int):W7->Int:=λx=>- rk x
def zcr {a:Array W7}{j:Nat}(h:j<a.size):a.reverse[j]?=a[a.size-1-j]?:=by
 rw[Pa h]
def Hi (rk:W7->Int)(a b:Array W7)(d nb:Nat)(c:Array W7):Prop:=MI (neg rk) a.reverse.toList b.reverse.toList (a.size-d) (b.size-nb) c.toList
section
variable {rk:W7->Int}{a b out:Array W7}{na nb:Nat}
def YB (sa:a.toList.Pairwise λx y=>rk x<=rk y):a.reverse.toList.Pairwise λx y=>neg rk x<=neg rk y:=by
 rw[U2,OX];exact sa.imp λh=>Sw h
def zc4 {i:Nat}{x:W7}(h1:1<=i)(h2:i<=a.size)(e:a[i-1]?=some x):a.reverse[a.size-i]?=some x:=by
 rw[zcr (by lia),show a.size-1-(a.size-i)=i-1 by lia];exact e
theorem Hi.oneA {x y:W7}(M:Hi rk a b na nb out)(sa:a.toList.Pairwise λx y=>rk x<=rk y)(i:b.toList.Pairwise λx y=>rk x<=rk y)(h1:1<=na)(h2:na<=a.size)(e:1<=nb)(f:nb<=b.size)(c:a[na-1]?=some x)(d:b[nb-1]?=some y)(h:rk y<=rk x):Hi rk a b (na-1) nb (out.push x):=by
 have:=MI.oneA (rk:=neg rk) M (YB sa) (zc4 h1 h2 c) λv g=>Vz (Sw h) (Zm (YB i) (zc4 e f d) v g);unfold Hi;rw[show a.size-(na-1)=a.size-na+1 by lia];exact this
theorem Hi.oneB {x y:W7}(M:Hi rk a b na nb out)(sa:a.toList.Pairwise λx y=>rk x<=rk y)(i:b.toList.Pairwise λx y=>rk x<=rk y)(h1:1<=na)(h2:na<=a.size)(e:1<=nb)(f:nb<=b.size)(c:a[na-1]?=some x)(d:b[nb-1]?=some y)(h:rk x<=rk y):Hi rk a b na (nb-1) (out.push y):=by
 have:=MI.oneB (rk:=neg rk) M (YB i) (zc4 e f d) λv g=>Vz (Sw h) (Zm (YB sa) (zc4 h1 h2 c) v g);unfold Hi;rw[show b.size-(nb-1)=b.size-nb+1 by lia];exact this
def zn8 {i j:Nat}(h1:i<=j)(h2:j<=a.size):(a.extract i j).reverse=a.reverse.extract (a.size-j) (a.size-j+(j-i)):=by
 apply Array.ext_getElem?;intro k;by_cases hk:k<j-i
 .rw[Pa (by rw[T7];lia),Sj,Sj,T7];rw[bw (by lia),bw (by rw[UI];lia),zcr (by lia)];congr 1;lia
 .rw[WS (by rw[UI,T7];lia),WS (by rw[T7,UI];lia)]
theorem Hi.someA {i:Nat}{y:W7}(M:Hi rk a b na nb out)(sa:a.toList.Pairwise λx y=>rk x<=rk y)(g:b.toList.Pairwise λx y=>rk x<=rk y)(h1:i<=na)(h2:na<=a.size)(e:1<=nb)(f:nb<=b.size)(d:b[nb-1]?=some y)(h:∀j x,i<=j->j<na->a[j]?=some x->rk y<=rk x):Hi rk a b i nb (out++(a.extract i na).reverse):=by
 have:=MI.someA (rk:=neg rk) (k:=na-i) M (YB sa) (YB g) (zc4 e f d) λj x l c=>Sw (h (na-1-j) x (by lia) (by lia) (by
  rw[zcr (by lia)]at c;rw[<- c];congr 1;lia))
 unfold Hi;rw[zn8 h1 h2,show a.size-i=a.size-na+(na-i) by lia];exact this
def Hi.someB {i:Nat}{y:W7}(M:Hi rk a b na nb out)(sa:a.toList.Pairwise λx y=>rk x<=rk y)(f:b.toList.Pairwise λx y=>rk x<=rk y)(h1:i<=nb)(h2:nb<=b.size)(d:1<=na)(e:na<=a.size)(c:a[na-1]?=some y)(h:∀j x,i<=j->j<nb->b[j]?=some x->rk y<=rk x):Hi rk a b na i (out++(b.extract i nb).reverse):=(Hi.someA (a:=b) (b:=a) M.swap f sa h1 h2 d e c h).swap
def zl0 {c:List W7}(h:Mg (neg rk) b.reverse.toList a.reverse.toList c):Mg rk a.toList b.toList c.reverse:=by
 obtain⟨p,q⟩:=h;rw[U2,U2]at p;refine⟨?_,?_⟩
 .refine(P6 _).trans (p.trans (TQ.trans ?_));exact List.Perm.append (P6 _) (P6 _)
 .rw[OX];refine q.imp λ{x y} h=>?_;have d:- rk x<=- rk y:=h;lia
def zcs {i:Nat}(h:i<=a.size):(a.reverse.extract (a.size-i) a.reverse.size).toList.reverse=(a.extract 0 i).toList:=by
 rw[zaK,U2,ext_toList _ _ _ (W4 _),List.drop_zero,NQ];have:=List.reverse_take (l:=a.toList) (i:=i);rw[X6]at this;rw[<- this,Oz]
def Hi.done (M:Hi rk a b 0 nb out)(d:b.toList.Pairwise λx y=>rk x<=rk y)(h:nb<=b.size):Mg rk a.toList b.toList (a.extract 0 0++b.extract 0 nb++out.reverse).toList:=by
 have h1:=Y8 (rk:=neg rk) (a:=b.reverse) (b:=a.reverse) M.swap (YB d) (by rw[UI];lia);have h2:=zl0 h1;rw[W3,W3,Te,Te,zcs h]at h2;have c:=zcs (a:=a) (i:=0) (W4 _);rw[c]at h2;rw[W3,W3,U2,WW];exact h2
def Hi.first (M:Hi rk a b na 1 out)(sa:a.toList.Pairwise λx y=>rk x<=rk y)(f:b.toList.Pairwise λx y=>rk x<=rk y)(g:0<b.size)(h:na<=a.size)(h0:∀x y,b[0]?=some x->y∈a.toList->rk x<rk y):Mg rk a.toList b.toList (b.extract 0 1++a.extract 0 na++out.reverse).toList:=by
 have h1:=Y9 (rk:=neg rk) (a:=b.reverse) (b:=a.reverse) M.swap (YB f) (YB sa) (λx e y d=>by
  rw[UI,zcr (by lia),show b.size-1-(b.size-1)=0 by lia]at d;have c:x∈a.toList:=by simpa using e
  exact Sw (VW (h0 y x d c))) (by rw[UI];lia)
 have h2:=zl0 h1;rw[W3,W3,Te,Te,zcs h,zcs (by lia)]at h2;rw[W3,W3,U2,WW];exact h2
end
section
variable {prog:Xm}{w:W1}{A:WN}{E:X9->X7->Prop}{s:X7}{rk:W7->Int}{κ:TF}{a0:Array W7}
set_option maxHeartbeats 8000000 in
theorem zkv {o:WM}{a b:Array W7}{Q:Array W7->WM->Prop}(T:Tells prog w A s κ rk a0)(hk:kindOf o=κ)(ma:∀x∈a.toList,x∈a0.toList)(mb:∀x∈b.toList,x∈a0.toList)(sa:a.toList.Pairwise λx y=>rk x<=rk y)(p:b.toList.Pairwise λx y=>rk x<=rk y)
  (ha:0<a.size) (hb:0<b.size) (h0:∀x y,b[0]?=some x->y∈a.toList->rk x<rk y) (hl:∀x∈b.toList,∀y,a[a.size-1]?=some y->rk x<rk y)
  (h:∀d g,Kept o g->Mg rk a.toList b.toList d.toList->Q d g):wpS (Xr prog w) A E s (mergeHi' a b) Q o:=by
 refine XA (PN (UM ⟨rfl,?_⟩));obtain⟨z0,ai,_⟩:=jq (a:=a) (i:=a.size-1) (by lia);obtain⟨y0,a6,aD⟩:=jq (a:=b) (i:=b.size-1) (by lia);refine XA (jc ai ?_);have M0:Hi rk a b a.size b.size #[]:=by
  unfold Hi;rw[SA,SA];exact⟨by simp,List.Pairwise.nil,(λx hx=>nomatch hx),(λx hx=>nomatch hx)⟩
 have M1:Hi rk a b (a.size-1) b.size #[z0]:=M0.oneA sa p (by lia) (XV _) (by lia) (XV _) ai a6 (VW (hl y0 aD z0 ai));dsimp -zeta only;refine qC (λhc=>Xp (h _ _ (Kept.refl _) ?_)) λhc=>?_
 .have e:a.size-1=0:=by simpa using hc
  rw[e]at M1 ⊢;exact M1.done p (XV _)
 refine qC (λal=>Xp (h _ _ (Kept.refl _) ?_)) λal=>?_
 .have e:b.size=1:=by simpa using al
  rw[e]at M1 ⊢;exact M1.first sa p hb (by lia) h0
 have a7:1<=a.size-1:=by
  have:¬ a.size-1=0:=by simpa using hc
  lia
 have a8:1<b.size:=by
  have:¬ b.size=1:=by simpa using al
  lia
 refine XA (R1 ?_);refine XA (Uj (VX (I:=λx c g=>∃f nb d mg,c=(none,f,nb,d,mg)/\Hi rk a b f nb d/\1<=f/\f<a.size/\1<nb/\nb<=b.size/\f+nb+x+1<=a.size+b.size/\Kept o g)
  (Q:=λc g=>∃l,c.1=some l/\Mg rk a.toList b.toList l.toList/\Kept o g) ?step ?fin (dX (dJ rfl M1 a7 (by lia) (dI a8 (XV _) (by lia) (Kept.refl _))))) ?post)
 case fin =>
  refine λc g=>fy λf nb d mg z0 M h1 h2=>fJ λh3 m h5 k=>?_;subst z0
  lia
 case post =>
  rintro⟨c1,c2⟩ g ⟨l,e,hM,k⟩
  dsimp only at e ⊢
  subst e
  exact Xp (h _ _ k hM)
 case step =>
  intro x0 c ar _ aG hI
  refine via λG J=>?_
  obtain⟨f,nb,d,mg,rfl,M,h1,h2,h3,m,h5,k1⟩:=hI
  refine J ?_
  clear J
  have aB:kindOf ar=κ:=k1.kind.trans hk
  dsimp -zeta only
  refine XA (Uj (VX (I:=λx c g=>g=ar/\∃f nb d N O,c=(none,f,nb,d,N,O)/\Hi rk a b f nb d/\1<=f/\f<a.size/\1<nb/\nb<=b.size/\f+nb+x0+1+x<=a.size+b.size)
   (Q:=λc g=>g=ar/\((∃l,c.1=some l/\Mg rk a.toList b.toList l.toList)\/∃f nb d N O,c=(none,f,nb,d,N,O)/\Hi rk a b f nb d/\1<=f/\f<a.size/\1<nb/\nb<=b.size/\f+nb+x0+2<=a.size+b.size)) ?step1 ?fin1 ⟨rfl,(dQ rfl M h1 h2 (dD h3 m (by lia)))⟩) ?post1)
  case fin1 =>
   refine λc g=>ff λz0=>fD λf nb d N O=>fE λz1 M h1 h2=>eV λh3 m h5=>?_;subst z0 z1
   exact⟨rfl,.inr (dM f nb d N (dN O rfl M h1 h2 (dD h3 m (by lia))))⟩
  case step1 =>
   intro x c g _ hx hI
   refine via λG J=>?_
   revert hI;refine ff λz0=>fD λf nb d N O=>fE λz1 M h1 h2=>eV λh3 m h5=>?_;subst z0 z1
   obtain⟨y,ey,my⟩:=jq (a:=b) (i:=nb-1) (by lia)
   obtain⟨z,r,mz⟩:=jq (a:=a) (i:=f-1) (by lia)
   refine J ?_
   clear J
   dsimp -zeta only
   refine XA (jc ey (XA (jc r (XA (zlV T aB (mb y my) (ma z mz) ?_)))))
   dsimp -zeta only
   refine qC (λap=>?_) λap=>?_
   .have ab:rk y<rk z:=bg ap;have M2:=M.oneA sa p h1 (by lia) (by lia) m r ey (VW ab);refine XA (jc r ?_);refine qC (λhe=>Xp ⟨rfl,.inl ⟨_,rfl,?_⟩⟩) λhe=>?_
    .have e:f-1=0:=by simpa using he
     rw[e]at M2 ⊢;exact M2.done p m
    have hn:1<=f-1:=by
     have:¬ f-1=0:=by simpa using he
     lia
    exact qC (λ_=>Xp ⟨rfl,.inr (dQ rfl M2 hn (by lia) (dD h3 m (by lia)))⟩) λ_=>Xp ⟨rfl,(dQ rfl M2 hn (by lia) (dD h3 m (by lia)))⟩
   .have ab:¬ rk y<rk z:=λq=>ap (br q);have M2:=M.oneB sa p h1 (by lia) (by lia) m r ey (NY.mp ab);refine XA (jc ey ?_);refine qC (λhe=>Xp ⟨rfl,.inl ⟨_,rfl,?_⟩⟩) λhe=>?_
    .have e:nb-1=1:=by simpa using he
     rw[e]at M2 ⊢;exact M2.first sa p hb (by lia) h0
    have hn:1<nb-1:=by
     have:¬ nb-1=1:=by simpa using he
     lia
    exact qC (λ_=>Xp ⟨rfl,.inr (dQ rfl M2 h1 h2 (dD hn (by lia) (by lia)))⟩) λ_=>Xp ⟨rfl,(dQ rfl M2 h1 h2 (dD hn (by lia) (by lia)))⟩
  case post1 =>
   intro c g hI
   refine via λG J=>?_
   rcases hI with ⟨rfl,a9 | ⟨f,nb,d,N,O,rfl,M,h1,h2,h3,m,h5⟩⟩
   all_goals (refine J ?_;clear J)
   .revert a9;refine fc λl e hM=>?_;obtain⟨c1,c2⟩:=c;dsimp only at e ⊢;subst e;exact Xp ⟨l,rfl,hM,k1⟩
   dsimp -zeta only
   refine XA (PN (UM ⟨rfl,?_⟩))
   refine XA (Uj (VX (I:=λx c H=>∃f nb d mg N O,c=(none,f,nb,d,mg,N,O)/\Hi rk a b f nb d/\1<=f/\f<a.size/\1<nb/\nb<=b.size/\f+nb+x0+2<=a.size+b.size/\Kept o H)
    (Q:=λc H=>(∃l,c.1=some l/\Mg rk a.toList b.toList l.toList/\Kept o H)\/∃f nb d mg N O,c=(none,f,nb,d,mg,N,O)/\Hi rk a b f nb d/\1<=f/\f<a.size/\1<nb/\nb<=b.size/\f+nb+x0+2<=a.size+b.size/\Kept o H) ?step2 ?fin2 (dW (dJ rfl M h1 h2 (dI h3 m h5 k1)))) ?post2)
   case fin2 =>
    rintro c H hc
    exact .inr hc
   case post2 =>
    rintro c H (⟨l,e,hM,k2⟩ | ⟨f,nb,d,mg,N,O,rfl,M,h1,h2,h3,m,h5,k2⟩)
    .obtain⟨c1,c2⟩:=c;dsimp only at e ⊢;subst e;exact Xp ⟨l,rfl,hM,k2⟩
    .dsimp -zeta only;exact XA (zfx k2 λa4 k3=>Xp (dX (dJ rfl M h1 h2 (dI h3 m (by lia) k3))))
   case step2 =>
    intro x c H _ hx hI
    refine via λG J=>?_
    obtain⟨f,nb,d,mg,N,O,rfl,M,h1,h2,h3,m,h5,k2⟩:=hI
    obtain⟨y,ey,my⟩:=jq (a:=b) (i:=nb-1) (by lia)
    refine J ?_
    clear J
    dsimp -zeta only
    refine' cut ?key1 λn=>qC (λaC=>?a1) λaC=>?b1
    case a1 =>
     generalize mg-1=az
     revert az
     exact n.get
    case b1=>exact n.get mg
    intro az
    dsimp -zeta only
    refine XA (zfx k2 λa4 k3=>?_)
    have aw:kindOf a4=κ:=k3.kind.trans hk
    refine XA (jc ey (XA (zbr T aw (mb y my) ma (λi j u v _ am _ eu U=>zjm sa am eu U) (by lia) (by lia) λk aE g1 g2=>?_)))
    dsimp -zeta only
    refine' cut ?key2 λn=>qC (λaA=>?a2) λaA=>?b2
    case a2 =>
     have M2:=M.someA sa p (i:=k) (by lia) (by lia) (by lia) m ey λj u an ao eu=>VW (g2 j u an ao (by simpa using eu))
     refine qC (λhe=>Xp (.inl ⟨_,rfl,(by
      have e:k=0:=by simpa using he
      rw[e]at M2 ⊢;exact M2.done p m),k3⟩)) λhe=>?_
     have Y:1<=k:=by
      have:¬ k=0:=by simpa using he
      lia
     have aj:k<a.size:=by lia
     have ak:k+nb+x0+2<=a.size+b.size:=by lia
     have af:∀z,a[k-1]?=some z->rk z<=rk y:=λz r=>g1 (k-1) z (by lia) (by simpa using r)
     generalize d++(a.extract k f).reverse=ah at M2 ⊢
     generalize f-k=kk
     generalize k=D at M2 Y aj ak af ⊢
     revert af;revert ak;revert aj;revert Y;revert M2;revert D;revert kk;revert ah
     exact n.get
    case b2=>exact n.get d (f-k) f M h1 h2 h5 λz r=>g1 (f-1) z (by lia) (by simpa using r)
    intro ah kk D M2 Y aj ak af
    refine via λG J=>?_
    obtain⟨z,r,mz⟩:=jq (a:=a) (i:=D-1) (by lia)
    refine J ?_
    clear J
    have M3:=M2.oneB sa p Y (by lia) (by lia) m r ey (af z r)
    refine XA (jc ey ?_)
    refine qC (λhe=>Xp (.inl ⟨_,rfl,(by
     have e:nb-1=1:=by simpa using he
     rw[e]at M3 ⊢;exact M3.first sa p hb (by lia) h0),k3⟩)) λhe=>?_
    have hn:1<nb-1:=by
     have:¬ nb-1=1:=by simpa using he
     lia
    refine XA (jc r (XA (zbs T aw (ma z mz) mb (λi j u v _ am _ eu U=>zjm p am eu U) (by lia) (by lia) λL aF g3 g4=>?_)))
    dsimp -zeta only
    refine' cut ?key3 λn=>qC (λav=>?a3) λav=>?b3
    case a3 =>
     have M4:=M3.someB sa p (i:=L) (by lia) (by lia) Y (by lia) r λj u an ao eu=>g4 j u an ao (by simpa using eu)
     refine qC (λhe=>Xp (.inl ⟨_,rfl,(by
      have e:L=1:=by simpa using he
      rw[e]at M4 ⊢;exact M4.first sa p hb (by lia) h0),k3⟩)) λhe=>?_
     have aH:1<=L:=by
      refine O9.mpr λhz=>?_;obtain⟨v,U,mv⟩:=jq (a:=b) (i:=0) hb;have q1:=g4 0 v (by lia) (by lia) (by simpa using U);have q2:=h0 v z U mz;lia
     refine qC (λau=>absurd (show L=0 by simpa using au) (by lia)) λau=>?_
     have ae:1<L:=by
      have:¬ L=1:=by simpa using he
      lia
     have B:L<=b.size:=by lia
     have aa:D+L+x0+2<=a.size+b.size:=by lia
     have ag:∀v,b[L-1]?=some v->rk v<=rk z:=λv U=>VW (g3 (L-1) v (by lia) (by simpa using U))
     generalize ah.push y++(b.extract L (nb-1)).reverse=a5 at M4 ⊢
     generalize nb-1-L=ay
     generalize L=aq at M4 ae B aa ag ⊢
     revert ag;revert aa;revert B;revert ae;revert M4;revert aq;revert ay;revert a5
     exact n.get
    case b3=>exact n.get (ah.push y) (nb-1-L) (nb-1) M3 hn (by lia) (by lia) λv U=>VW (g3 (nb-1-1) v (by lia) (by simpa using U))
    intro a5 ay aq M4 ae B aa ag
    obtain⟨v,U,mv⟩:=jq (a:=b) (i:=aq-1) (by lia)
    have M5:=M4.oneA sa p Y (by lia) (by lia) B r U (ag v U)
    refine XA (jc r ?_)
    refine qC (λhe=>Xp (.inl ⟨_,rfl,(by
     have e:D-1=0:=by simpa using he
     rw[e]at M5 ⊢;exact M5.done p B),k3⟩)) λhe=>?_
    have ax:1<=D-1:=by
     have:¬ D-1=0:=by simpa using he
     lia
    exact qC (λ_=>Xp (.inr (dW (dJ rfl M5 ax (by lia) (dI ae B (by lia) k3))))) λ_=>Xp (dW (dJ rfl M5 ax (by lia) (dI ae B (by lia) k3)))
theorem zeD (sa:Nat):∀(l:List W7) (j:Nat) (b:Array W7),((l.zipIdx j).foldl (λa (p:W7×Nat)=>a.setIfInBounds (sa+p.2) p.1) b).size=b.size
 | [],_,_=>rfl
 | x::l,j,b=>by
  rw[List.zipIdx_cons,V6,zeD sa l (j+1)];exact S7
def zn9 (sa:Nat):∀(l:List W7) (j:Nat) (b:Array W7) (i:Nat),sa+j+l.length<=b.size->((l.zipIdx j).foldl (λa (p:W7×Nat)=>a.setIfInBounds (sa+p.2) p.1) b)[i]?=if sa+j<=i/\i<sa+j+l.length then l[i-(sa+j)]? else b[i]?:=by
 intro l;induction l with
 | nil =>
  intro j b i h;rw[bq (by simp only[UD];lia)];rfl
 | cons x l c =>
  intro j b i h;rw[Xx]at h;rw[List.zipIdx_cons,V6,c (j+1) _ i (by rw[S7];lia),Xx];by_cases h1:sa+(j+1)<=i/\i<sa+(j+1)+l.length
  .rw[bw h1,bw (by lia),show i-(sa+j)=(i-(sa+(j+1)))+1 by lia,Py]
  .rw[bq h1];by_cases h2:i=sa+j
   .subst h2;rw[bw (by lia),SA,List.getElem?_cons_zero];show (b.setIfInBounds (sa+j) x)[sa+j]?=some x;rw[TV,bw rfl,bw (by lia)]
   .rw[bq (by lia)];show (b.setIfInBounds (sa+j) x)[i]?=b[i]?;rw[TV,bq (λe=>h2 e.symm)]
def yY {xs:Array W7}{lo a:Nat}(u:Up rk xs lo a){i j:Nat}{x y:W7}(h1:lo<=i)(h2:i<=j)(d:j<a)(b:xs[i]?=some x)(c:xs[j]?=some y):rk x<=rk y:=by
 have:=u i j h1 h2 d;unfold Rk at this;rw[b,c]at this;exact this
def zpk {xs:Array W7}{lo b:Nat}(hz:b<=xs.size)(h:∀i j x y,lo<=i->i<=j->j<b->xs[i]?=some x->xs[j]?=some y->rk x<=rk y):Up rk xs lo b:=λi j h1 h2 e=>by
 obtain⟨x,c,_⟩:=jq (a:=xs) (i:=i) (by lia);obtain⟨y,d,_⟩:=jq (a:=xs) (i:=j) (by lia);unfold Rk;rw[c,d];exact h i j x y h1 h2 e c d
def zjn {xs:Array W7}{i:Nat}{x:W7}(e:xs[i]?=some x):x∈xs.toList:=X8 (by rw[Xz];exact e)
def ext_get {xs:Array W7}{i j k:Nat}(h1:i<=j)(h2:j<=xs.size)(hk:k<j-i):(xs.extract i j)[k]?=xs[i+k]?:=by
 rw[Sj,bw (by lia)]
def zaL {xs:Array W7}{i j:Nat}(h2:j<=xs.size):(xs.extract i j).size=j-i:=by
 rw[T7];lia
def zl1 {xs:Array W7}{lo b i j:Nat}(u:Up rk xs lo b)(h1:lo<=i)(h2:j<=b)(a:j<=xs.size):(xs.extract i j).toList.Pairwise λx y=>rk x<=rk y:=by
 rw[Vg];intro m n c d g;rw[X6,zaL a]at c d;have e:=ext_get (xs:=xs) (i:=i) (j:=j) (k:=m) (by lia) a c;have f:=ext_get (xs:=xs) (i:=i) (j:=j) (k:=n) (by lia) a d;refine yY u (i:=i+m) (j:=i+n) (by lia) (by lia) (by lia) ?_ ?_
 .rw[<- e,Uu];exact getElem?_pos _ _ _
 .rw[<- f,Uu];exact getElem?_pos _ _ _
def ext_mem {xs:Array W7}{i j:Nat}{x:W7}(a:j<=xs.size)(h:x∈(xs.extract i j).toList):∃k,i<=k/\k<j/\xs[k]?=some x:=by
 obtain⟨k,hk,e⟩:=Tf h;rw[X6,zaL a]at hk;refine⟨i+k,by lia,by lia,?_⟩;rw[<- ext_get (xs:=xs) (i:=i) (j:=j) (by lia) a hk,<- e,Uu];exact getElem?_pos _ _ _
def zr0 {st a:WM}{Q:PUnit->WM->Prop}(h:∀b,b=a->Q ⟨⟩ b):wpS (Xr prog w) A E s (set a:StateT WM Sem PUnit) Q st:=by
 unfold wpS;rw[StateT.run_set];exact X0 ⟨rfl,h _ rfl⟩
set_option maxHeartbeats 8000000 in
theorem zkw {st:WM}{i sa b p1 nb p2:Nat}{Q:Bool->WM->Prop}(T:Tells prog w A s κ rk a0)(O:Ok κ a0 st)(e1:(WK st)[i]?=some (sa,b,p1))(e2:(WK st)[i+1]?=some (sa+b,nb,p2))(ao:1<=b)(ap:1<=nb)(hz:sa+b+nb<=a0.size)(u1:Up rk (Xn st) sa (sa+b))(u2:Up rk (Xn st) (sa+b) (sa+b+nb))
  (h:∀B,Ok κ a0 B->WK B=((WK st).setIfInBounds i (sa,b+nb,p1)).eraseIdxIfInBounds (i+1)->Up rk (Xn B) sa (sa+b+nb)->(∀j:Nat,(j<sa\/sa+b+nb<=j)->(Xn B)[j]?=(Xn st)[j]?)->Q true B):wpS (Xr prog w) A E s (mergeAt' i) Q st:=by
 have ah:=O.size;have mX:∀x∈(Xn st).toList,x∈a0.toList:=λx hx=>(UH.mp O.perm).mem_iff.mp hx;obtain⟨b0,r,aj⟩:=jq (a:=Xn st) (i:=sa+b) (by lia);refine XA (R1 ?_);rw[e1,e2];dsimp only;refine XA (zr0 λn L=>?_);have k1:kindOf n=κ:=by rw[L];exact O.kind
 have ea:Xn n=Xn st:=by rw[L]
 have ep:WK n=((WK st).setIfInBounds i (sa,b+nb,p1)).eraseIdxIfInBounds (i+1):=by rw[L]
 have ef:SE n=none:=by rw[L];exact O.good
 have O1:Ok κ a0 n:=⟨by rw[ea];exact O.perm,k1,ef⟩;refine XA (jc r (XA (zbr T k1 (mX b0 aj) mX (λp q u v h1 h2 I G H=>yY u1 h1 h2 I G H) (by show sa+b<=(Xn st).size;lia) (by lia) λk hk g1 g2=>?_)));dsimp only;refine qC (λhc=>Xp (h n O1 ep (zpk (by rw[ea];lia) λp q u v h1 h2 I G H=>?_) λj _=>by rw[ea])) λhc=>?_
 .have ek:k=b:=by
   have:b-k=0:=by simpa using hc
   lia
  rw[ea]at G H;by_cases c1:q<sa+b
  .exact yY u1 h1 h2 c1 G H
  .by_cases c2:p<sa+b
   .have q1:=g1 (p-sa) u (by lia) (by rw[show sa+(p-sa)=p by lia];exact G);have q2:=yY u2 (XV _) (by lia) I r H;lia
   .exact yY u2 (by lia) h2 I G H
 have an:k<b:=by
  have:¬ b-k=0:=by simpa using hc
  lia
 obtain⟨al,ac,ai⟩:=jq (a:=Xn st) (i:=sa+k+(b-k)-1) (by lia);have o:(Xn st)[sa+b-1]?=some al:=by
  rw[<- ac];congr 1;lia
 refine XA (jc ac (XA (zbs T k1 (mX al ai) mX (λp q u v h1 h2 I G H=>yY u2 h1 h2 I G H) (by show sa+b+nb<=(Xn st).size;lia) (by lia) λg am g3 g4=>?_)));dsimp only;have ak:rk b0<rk al:=g2 (b-1) al (by lia) (by lia) (by rw[show sa+(b-1)=sa+b-1 by lia];exact o);have ar:1<=g:=by
  refine O9.mpr λaq=>?_;have:=g4 0 b0 (by lia) (by lia) (by simpa using r);lia
 refine qC (λhc=>absurd (show g=0 by simpa using hc) (by lia)) λ_=>?_;have X3:sa+b<=(Xn st).size:=by lia
 have Y3:sa+b+g<=(Xn st).size:=by lia
 have xs:=zl1 (i:=sa+k) (j:=sa+b) u1 (by lia) (XV _) X3;have ys:=zl1 (i:=sa+b) (j:=sa+b+g) u2 (XV _) (by lia) Y3;have xm:∀x∈((Xn st).extract (sa+k) (sa+b)).toList,x∈a0.toList:=λx hx=>by
  obtain⟨j,_,_,ej⟩:=ext_mem X3 hx;exact mX x (zjn ej)
 have ym:∀x∈((Xn st).extract (sa+b) (sa+b+g)).toList,x∈a0.toList:=λx hx=>by
  obtain⟨j,_,_,ej⟩:=ext_mem Y3 hx;exact mX x (zjn ej)
 have xz:((Xn st).extract (sa+k) (sa+b)).size=b-k:=by
  rw[zaL X3];lia
 have yz:((Xn st).extract (sa+b) (sa+b+g)).size=g:=by
  rw[zaL Y3];lia
 have first:∀x y,((Xn st).extract (sa+b) (sa+b+g))[0]?=some x->y∈((Xn st).extract (sa+k) (sa+b)).toList->rk x<rk y:=λx y ex my=>by
  rw[ext_get (by lia) Y3 (by lia),Pm,r]at ex;cases ex;obtain⟨j,j1,j2,ej⟩:=ext_mem X3 my;exact g2 (j-sa) y (by lia) (by lia) (by rw[show sa+(j-sa)=j by lia];exact ej)
 have U:∀x∈((Xn st).extract (sa+b) (sa+b+g)).toList,∀y,((Xn st).extract (sa+k) (sa+b))[((Xn st).extract (sa+k) (sa+b)).size-1]?=some y->rk x<rk y:=λx mx y ey=>by
  rw[xz,ext_get (by lia) X3 (by lia),show sa+k+(b-k-1)=sa+b-1 by lia,o]at ey;cases ey;obtain⟨j,j1,j2,ej⟩:=ext_mem Y3 mx;exact g3 (j-(sa+b)) x (by lia) (by rw[show sa+b+(j-(sa+b))=j by lia];exact ej)
 have Y:∀(merged:Array W7) (f:WM),Kept n f->Mg rk ((Xn st).extract (sa+k) (sa+b)).toList ((Xn st).extract (sa+b) (sa+b+g)).toList merged.toList ->
   Q true (setArr f (merged.toList.zipIdx.foldl (λa (p:W7×Nat)=>a.setIfInBounds (sa+k+p.2) p.1) (Xn f))):=λmerged f D M=>by
  have aa:Xn f=Xn st:=D.arr.trans ea;have ml:merged.toList.length=b-k+g:=by
   rw[M.1.length_eq,XU,X6,X6,xz,yz]
  have at_:∀j:Nat,(merged.toList.zipIdx.foldl (λa (p:W7×Nat)=>a.setIfInBounds (sa+k+p.2) p.1) (Xn f))[j]?=if sa+k<=j/\j<sa+b+g then merged.toList[j-(sa+k)]? else (Xn st)[j]?:=λj=>by
   have:=zn9 (sa+k) merged.toList 0 (Xn f) j (by rw[aa,ml];lia);rw[this,aa,Pm,ml];by_cases c:sa+k<=j/\j<sa+b+g
   .rw[bw c,bw (by lia)]
   .rw[bq c,bq (by lia)]
  have zA:=zeD (sa+k) merged.toList 0 (Xn f);generalize hN:merged.toList.zipIdx.foldl (λa (p:W7×Nat)=>a.setIfInBounds (sa+k+p.2) p.1) (Xn f)=N at at_ zA ⊢;have zN:N.size=a0.size:=by
   rw[zA,aa,ah]
  have nl:N.toList=(Xn st).toList.take (sa+k)++merged.toList++(Xn st).toList.drop (sa+b+g):=by
   refine TK λj=>?_;rw[Xz,at_ j];by_cases c1:j<sa+k
   .rw[bq (by lia),WW,VG (by rw[XQ,X6];lia),List.getElem?_take,bw c1,Xz]
   .rw[WW,Vm (by rw[XQ,X6];lia),XQ,X6,show min (sa+k) (Xn st).size=sa+k by lia];by_cases c2:j<sa+b+g
    .rw[bw ⟨by lia,c2⟩,VG (by rw[ml];lia)]
    .rw[bq (by lia),Vm (by rw[ml];lia),T8,Xz,ml];congr 1;lia
  have ol:(Xn st).toList=(Xn st).toList.take (sa+k)++(((Xn st).extract (sa+k) (sa+b)).toList++((Xn st).extract (sa+b) (sa+b+g)).toList)++(Xn st).toList.drop (sa+b+g):=by
   rw[ext_toList _ _ _ (by lia),ext_toList _ _ _ (by lia)];have d1:(Xn st).toList.drop (sa+b)=((Xn st).toList.drop (sa+k)).drop (b-k):=by
    rw[OH];congr 1;lia
   have d2:(Xn st).toList.drop (sa+b+g)=((Xn st).toList.drop (sa+b)).drop g:=by
    rw[OH]
   rw[d2,show sa+b+g-(sa+b)=g by lia,WW,WW,WU,d1,show sa+b-(sa+k)=b-k by lia,WU,WU]
  refine h _ ⟨?_,D.kind.trans k1,D.bad.trans ef⟩ (D.pend.trans ep) (zpk (by show _<=N.size;lia) λp q u v h1 h2 I G H=>?_) λj hj=>?_
  .refine Array.Perm.trans ?_ O.perm;rw[UH];show N.toList.Perm _;have pm:=List.Perm.append_right ((Xn st).toList.drop (sa+b+g)) (Se ((Xn st).toList.take (sa+k)) M.1);rw[<- ol,<- nl]at pm;exact pm
  .have l:N[p]?=some u:=G;have d:N[q]?=some v:=H;rw[at_]at l d;have af:∀{j:Nat} {x:W7},sa+k<=j->j<sa+b+g->merged.toList[j-(sa+k)]?=some x->(∃m,sa+k<=m/\m<sa+b/\(Xn st)[m]?=some x)\/∃m,sa+b<=m/\m<sa+b+g/\(Xn st)[m]?=some x:=λ_ _ e=>by
    rcases XG.mp (M.1.mem_iff.mp (X8 e)) with z | z
    .exact .inl (ext_mem X3 z)
    .exact .inr (ext_mem Y3 z)
   by_cases c1:p<sa+k
   .rw[bq (by lia)]at l;by_cases c2:q<sa+k
    .rw[bq (by lia)]at d;exact yY u1 h1 h2 (by lia) l d
    .have ae:∀{m:Nat} {x:W7},sa+b<=m->m<sa+b+nb->(Xn st)[m]?=some x->rk u<=rk x:=λm1 m2 J=>by
      have q1:=g1 (p-sa) u (by lia) (by rw[show sa+(p-sa)=p by lia];exact l);exact Vz q1 (yY u2 (XV _) m1 m2 r J)
     by_cases c3:q<sa+b+g
     .rw[bw ⟨by lia,c3⟩]at d;rcases af (by lia) c3 d with ⟨m,m1,m2,J⟩ | ⟨m,m1,m2,J⟩
      .exact yY u1 h1 (by lia) m2 l J
      .exact ae m1 (by lia) J
     .rw[bq (by lia)]at d;exact ae (by lia) I d
   .by_cases c4:p<sa+b+g
    .rw[bw ⟨by lia,c4⟩]at l;by_cases c3:q<sa+b+g
     .rw[bw ⟨by lia,c3⟩]at d;by_cases ag:p=q
      .subst ag;rw[l]at d;cases d;exact UP _
      .have sp:=M.2;rw[Vg]at sp;obtain⟨a1,a2⟩:=XZ.mp l;obtain⟨b1,b2⟩:=XZ.mp d;have:=sp _ _ a1 b1 (by lia);rw[a2,b2]at this;exact this
     .rw[bq (by lia)]at d;have q4:=g4 (q-(sa+b)) v (by lia) (by lia) (by rw[show sa+b+(q-(sa+b))=q by lia];exact d);rcases af (by lia) c4 l with ⟨m,m1,m2,J⟩ | ⟨m,m1,m2,J⟩
      .exact Vz (yY u1 (by lia) (by lia) (by lia) J o) q4
      .exact yY u2 m1 (by lia) I J d
    .rw[bq (by lia)]at l d;exact yY u2 (by lia) h2 I l d
  .show N[j]?=_;rw[at_,bq (by lia)]
 refine qC (λ_=>?_) λ_=>?_
 .refine XA (zku T k1 xm ym xs ys (SO (show 0<b-k by lia) xz.symm) (SO (show 0<g by lia) yz.symm) (λx y ex my=>VW (first x y ex my)) U λab f D M=>?_);refine XA (SU (XA (R1 ?_)));rw[show (SE f).isNone=true by rw[D.bad,ef];rfl];exact Xp (Y ab f D M)
 .refine XA (zkv T k1 xm ym xs ys (SO (show 0<b-k by lia) xz.symm) (SO (show 0<g by lia) yz.symm) first U λab f D M=>?_);refine XA (SU (XA (R1 ?_)));rw[show (SE f).isNone=true by rw[D.bad,ef];rfl];exact Xp (Y ab f D M)
def QY:List (Nat×AA)->Nat->Nat->Prop
 | [],s,e=>s=e
 | r::l,s,e=>r.1=s/\1<=r.2.1/\QY l (s+r.2.1) e
theorem yH:∀{l1 l2:List (Nat×AA)} {s e:Nat},QY (l1++l2) s e ↔ ∃m,QY l1 s m/\QY l2 m e
 | [],l2,s,e=>⟨λh=>⟨s,rfl,h⟩,λ⟨m,h1,h2⟩=>by
  have e:s=m:=h1;subst e;exact h2⟩
 | r::l1,l2,s,e=>by
  constructor
  .rintro⟨h1,h2,h3⟩;obtain⟨m,a,b⟩:=yH.mp h3;exact⟨m,⟨h1,h2,a⟩,b⟩
  .rintro⟨m,⟨h1,h2,h3⟩,a⟩;exact⟨h1,h2,yH.mpr ⟨m,h3,a⟩⟩
theorem Qa:∀{l:List (Nat×AA)} {s e:Nat},QY l s e->s<=e/\l.length+s<=e/\∀r∈l,s<=r.1/\r.1+r.2.1<=e
 | [],s,e,h=>by
  have b:s=e:=h;subst b;exact⟨XV _,by simp,λr d=>nomatch d⟩
 | r::l,s,e,⟨h1,h2,c⟩=>by
  obtain⟨f,g,a⟩:=Qa c;refine⟨by lia,by rw[Xx];lia,λq hq=>?_⟩;rcases XH.mp hq with rfl | hq
  .lia
  .have:=a q hq;lia
structure PI (rk:W7->Int)(κ:TF)(a0:Array W7)(lo:Nat)(st:WM):Prop where
 ok:Ok κ a0 st
 til:QY (WK st).toList 0 lo
 up:∀r∈(WK st).toList,Up rk (Xn st) r.1 (r.1+r.2.1)
def zct {xs ys:Array W7}{lo a:Nat}(u:Up rk xs lo a)(h:∀j:Nat,lo<=j->j<a->ys[j]?=xs[j]?):Up rk ys lo a:=λi j h1 h2 b=>by
 rw[JW (h i h1 (by lia)),JW (h j (by lia) b)];exact u i j h1 h2 b
def zqn {p:List (Nat×AA)}{i:Nat}(h:i+1<p.length):∃l1 a b l2,p=l1++a::b::l2/\l1.length=i/\p[i]?=some a/\p[i+1]?=some b:=by
 refine⟨p.take i,p[i],p[i+1],p.drop (i+2),?_,by rw[XQ];lia,X2 (by lia),X2 h⟩;rw[<- WL h,<- WL (by lia),WU]
def zgN {st:WM}{lo i:Nat}{Q:Bool->WM->Prop}(T:Tells prog w A s κ rk a0)(P:PI rk κ a0 lo st)(L:i+1<(WK st).size)(M:lo<=a0.size)
  (h:∀a,PI rk κ a0 lo a->(WK a).size+1=(WK st).size->(∀j:Nat,lo<=j->(Xn a)[j]?=(Xn st)[j]?)->Q true a):wpS (Xr prog w) A E s (mergeAt' i) Q st:=by
 obtain⟨l,⟨sa,c,z⟩,⟨sb,nb,O⟩,N,e,J,x,y⟩:=zqn (p:=(WK st).toList) (i:=i) (by rw[X6];exact L);have f:=P.til;rw[e]at f;obtain⟨m,B,⟨o,q,u,v,g⟩⟩:=yH.mp f;dsimp only at o q u v g;subst o;subst u;rw[Xz]at x y;have u1:=P.up (sa,c,z) (by rw[e];simp);have D:=P.up (sa+c,nb,O) (by rw[e];simp);dsimp only at u1 D;obtain⟨U,Y,H⟩:=Qa g;obtain⟨c1,c2,I⟩:=Qa B;refine zkw T P.ok x y q v (by lia) u1 D λa G k n b=>?_;have d:(WK a).toList=l++(sa,c+nb,z)::N:=by
  rw[k,Array.toList_eraseIdxIfInBounds,Ri,e,<- J];rw[List.set_append_right _ _ (XV _),SA,List.set_cons_zero,List.eraseIdx_append_of_length_le (by lia),show l.length+1-l.length=1 by lia];rfl
 refine h a ⟨G,?_,λr hr=>?_⟩ ?_ λj hj=>b j (by lia)
 .rw[d];exact yH.mpr ⟨sa,B,rfl,by show 1<=c+nb;lia,by rw[show sa+(c+nb)=sa+c+nb by lia];exact g⟩
 .rw[d]at hr;rcases XG.mp hr with hr | hr
  .have:=I r hr;exact zct (P.up r (by rw[e];exact WV _ hr)) λj h1 h2=>b j (by lia)
  .rcases XH.mp hr with rfl | hr
   .show Up rk (Xn a) sa (sa+(c+nb));rw[show sa+(c+nb)=sa+c+nb by lia];exact n
   .have:=H r hr;exact zct (P.up r (by rw[e];simp[hr])) λj h1 h2=>b j (by lia)
 .rw[<- X6,d,<- X6,e];simp only[XU,Xx];lia
def PI.step {lo a:Nat}{st b:WM}(P:PI rk κ a0 lo st)(S:Step κ a0 a st b)(h:lo<=a):PI rk κ a0 lo b:=by
 refine⟨S.ok,by rw[S.pend];exact P.til,λr c=>?_⟩;rw[S.pend]at c;have:=(Qa P.til).2.2 r c;exact zct (P.up r c) λj h1 h2=>S.low j (by lia)
theorem zbV (b:Nat):∀{l:List (Nat×AA)} {k s e:Nat},QY l s e->QY (l.modify k λr=>(r.1,r.2.1,b)) s e
 | [],k,s,e,h=>by
  cases k<;>exact h
 | r::l,0,s,e,⟨h1,h2,a⟩=>⟨h1,h2,a⟩
 | r::l,k+1,s,e,⟨h1,h2,a⟩=>⟨h1,h2,zbV b a⟩
theorem zeE {a:Nat}:∀{l:List (Nat×AA)} {k:Nat} {r:Nat×AA},r∈l.modify k (λr=>(r.1,r.2.1,a))->∃q∈l,q.1=r.1/\q.2.1=r.2.1
 | [],k,r,h=>by
  cases k<;>cases h
 | q::l,0,r,h=>by
  rcases XH.mp h with rfl | h
  .exact⟨q,XX,rfl,rfl⟩
  .exact⟨r,XY _ h,rfl,rfl⟩
 | q::l,k+1,r,h=>by
  rcases XH.mp h with rfl | h
  .exact⟨r,XX,rfl,rfl⟩
  .obtain⟨b,h1,h2⟩:=zeE h;exact⟨b,XY _ h1,h2⟩
def ite_le (c:Prop) [Decidable c](n:Nat):(if c then n-1 else n)<=n:=by
 split<;>lia
def zqo {st:WM}{Q:Unit->WM->Prop}(T:Tells prog w A s κ rk a0)(O:Ok κ a0 st)(hp:WK st=#[])(h:∀d,Ok κ a0 d->Up rk (Xn d) 0 a0.size->Q () d):wpS (Xr prog w) A E s sortRuns' Q st:=by
 rw[sortRuns'_eq];refine XA (R1 ?_);dsimp only;rw[O.size];generalize minRun' a0.size a0.size 0=mr;refine XA (Uj (VX (I:=λx c d=>∃lo,c=(none,lo)/\PI rk κ a0 lo d/\lo<=a0.size/\x<=lo)
  (Q:=λc d=>c=(none,a0.size)/\PI rk κ a0 a0.size d) ?step ?fin ⟨0,rfl,⟨O,by rw[hp];rfl,λr z=>by rw[hp]at z;cases z⟩,W4 _,XV _⟩) ?post)
 case fin =>
  rintro c d ⟨lo,rfl,P,h1,h2⟩
  obtain rfl:lo=a0.size:=by lia
  exact⟨rfl,P⟩
 case step =>
  refine λx c N _ hx=>fk λlo=>fJ λz0 P h1 h2=>?_;subst z0
  dsimp only
  refine qC (λJ=>?_) λJ=>?_
  .obtain rfl:lo=a0.size:=by lia
   exact Xp ⟨rfl,P⟩
  refine XA (zbU T P.ok (by lia) (by lia) λm b S m1 m2 hu=>?_)
  dsimp only
  have g:=P.step S (XV _)
  refine qC (λL=>?_) λL=>?_
  refine XA (PN (UM ⟨rfl,?_⟩))
  refine XA (zrZ T S.ok (by lia) (by lia) hu λo S3 k=>?_)
  rw[bq (by decide)]
  have P3:=g.step S3 (XV _)
  have H:1<=min (a0.size-lo) mr:=by lia
  have G:lo+min (a0.size-lo) mr<=a0.size:=by lia
  clear g S3
  generalize min (a0.size-lo) mr=n at k H G ⊢
  rotate_left
  have P3:=g
  have k:=hu
  have H:=m1
  have G:lo+m<=a0.size:=by lia
  clear g
  generalize m=n at k H G ⊢
  generalize b=o at P3 k ⊢
  rotate_left
  all_goals
   refine XA (R1 ?_)
   have fin:∀a,PI rk κ a0 lo a->Up rk (Xn a) lo (lo+n)->PI rk κ a0 (lo+n) (setPending a ((WK a).push (lo,n,0))):=λa f v=>by
    refine⟨⟨f.ok.perm,f.ok.kind,f.ok.good⟩,?_,λr z=>?_⟩
    .show QY ((WK a).push (lo,n,0)).toList 0 (lo+n);rw[So];exact yH.mpr ⟨lo,f.til,rfl,H,rfl⟩
    .have hr':r∈((WK a).push (lo,n,0)).toList:=z;rw[So]at hr';rcases XG.mp hr' with hr' | hr'
     .exact f.up r hr'
     .have er:r=(lo,n,0):=by simpa using hr'
      subst er;exact v
   cases aa:(WK o).back? with
   | none =>
    dsimp only;exact XA (SU (Xp ⟨lo+n,rfl,fin o P3 k,G,by lia⟩))
   | some r =>
    obtain⟨s1,M,q1⟩:=r;dsimp only;generalize power' a0.size (2*s1+M) (2*s1+M+M+n) a0.size=pw;refine XA (Uj (VX (I:=λ_ c a=>c=(none,())/\PI rk κ a0 lo a/\Up rk (Xn a) lo (lo+n)) (Q:=λc a=>c=(none,())/\PI rk κ a0 lo a/\Up rk (Xn a) lo (lo+n)) ?_ (λ_ _ hh=>hh) ⟨rfl,P3,k⟩) ?_)
    .rintro y c a _ _ ⟨rfl,f,v⟩;refine XA (R1 ?_);by_cases B:(WK a).size>1
     .rw[bw B,getElem?_pos (WK a) ((WK a).size-2) (by lia)];generalize (WK a)[(WK a).size-2]'(by lia)=r2;obtain⟨ab,ac,ae⟩:=r2;dsimp only;refine qC (λ_=>Xp ⟨rfl,f,v⟩) λ_=>?_;refine XA (zgN T f (by lia) h1 λaf P5 _ Y=>?_);rw[bq (by decide)];exact Xp ⟨rfl,P5,zct v λj j1 _=>Y j j1⟩
     .rw[bq B];exact Xp ⟨rfl,f,v⟩
    .rintro c a ⟨rfl,f,v⟩;dsimp only;refine XA (SU (XA (SU (Xp ⟨lo+n,rfl,fin _ ⟨⟨f.ok.perm,f.ok.kind,f.ok.good⟩,?_,λr z=>?_⟩ v,G,by lia⟩))))
     .show QY ((WK a).modify ((WK a).size-1) λr=>(r.1,r.2.1,pw)).toList 0 lo;rw[Oi];exact zbV pw f.til
     .have hr':r∈((WK a).modify ((WK a).size-1) λr=>(r.1,r.2.1,pw)).toList:=z;rw[Oi]at hr';obtain⟨q,hq,e1,e2⟩:=zeE hr';have:=f.up q hq;rw[e1,e2]at this;exact this
 case post =>
  rintro c N ⟨rfl,P⟩
  dsimp only
  have D:=(Qa P.til).2.1
  rw[X6]at D
  refine XA (Uj (VX (I:=λx c b=>c=(none,())/\PI rk κ a0 a0.size b/\((WK b).size+x<=a0.size\/(WK b).size<=1)) (Q:=λc b=>c=(none,())/\PI rk κ a0 a0.size b/\(WK b).size<=1) ?step2 ?fin2 ⟨rfl,P,.inl (by lia)⟩) ?post2)
  case fin2 =>
   rintro c b ⟨rfl,g,B⟩
   exact⟨rfl,g,by lia⟩
  case step2 =>
   rintro x c b _ hx ⟨rfl,g,B⟩
   refine XA (R1 ?_)
   refine qC (λh1=>Xp ⟨rfl,g,h1⟩) λh1=>?_
   refine XA (zgN T g ?_ (XV _) λo P3 z3 _=>?_)
   .exact XM (OE (ite_le _ _) 1) (show (WK b).size-2+1<(WK b).size by lia)
   .rw[bq (by decide)];exact Xp ⟨rfl,P3,by lia⟩
  case post2 =>
   rintro c b ⟨rfl,g,B⟩
   dsimp only
   refine Xp (h b g.ok ?_)
   have p:=g.til
   have up:=g.up
   have zl:(WK b).toList.length<=1:=by rw[X6];exact B
   cases hl:(WK b).toList with
   | nil =>
    rw[hl]at p;have e:0=a0.size:=p;exact λi j _ _ h3=>absurd h3 (by lia)
   | cons r l =>
    rw[hl]at p zl up;obtain rfl:l=[]:=UY.mp (by rw[Xx]at zl;lia);obtain⟨t1,t2,t3⟩:=p;have U:0+r.2.1=a0.size:=t3;have u:=up r XX;rw[t1,U]at u;exact u
end
structure Wk {K:Type}(lt:K->K->Bool):Prop where
 tot:∀x y,lt x y=true->lt y x=false
 tr:∀x y z,lt y x=false->lt z y=false->lt z x=false
def rkK {K:Type}(lt:K->K->Bool)(ks:List K)(k:K):Int:=((ks.countP λq=>lt q k:Nat):Int)
theorem count_le {K:Type}{p q:K->Bool}:∀{ks:List K},(∀x∈ks,p x=true->q x=true)->ks.countP p<=ks.countP q
 | [],_=>XV _
 | x::ks,h=>by
  have d:=count_le (ks:=ks) λy b=>h y (XY _ b);rw[V5,V5];have a:=h x XX;by_cases c:p x=true
  .rw[bw c,bw (a c)];lia
  .rw[bq c];lia
def zl2 {K:Type}{p q:K->Bool}{ks:List K}(h:∀x∈ks,p x=true->q x=true)(b:∃x∈ks,p x=false/\q x=true):ks.countP p<ks.countP q:=by
 obtain⟨y,hy,h1,h2⟩:=b;induction ks with
 | nil=>cases hy
 | cons x ks a =>
  rw[V5,V5];have d:=h x XX;rcases XH.mp hy with rfl | hy
  .have a:=count_le (ks:=ks) λy hy=>h y (XY _ hy);rw[h1,h2,bq XT,bw rfl];lia
  .have a:=a (λy hy=>h y (XY _ hy)) hy;by_cases c:p x=true
   .rw[bw c,bw (d c)];lia
   .rw[bq c];lia
def Wk.rank {K:Type}{lt:K->K->Bool}(W:Wk lt){ks:List K}{x y:K}(c:x∈ks):lt x y=decide (rkK lt ks x<rkK lt ks y):=by
 unfold rkK;cases h:lt x y with
 | true =>
  refine(br ?_).symm;have:=zl2 (ks:=ks) (p:=λq=>lt q x) (q:=λq=>lt q y) (λq _ b=>?_) ⟨x,c,?_,h⟩
  .lia
  .cases hc:lt q y with
   | true=>rfl
   | false =>
    have:=W.tr x y q (W.tot x y h) hc;have a:lt q x=true:=b;rw[this]at a;cases a
  .cases hc:lt x x with
   | false=>rfl
   | true=>exact hc.symm.trans (W.tot x x hc)
 | false =>
  refine(bf ?_).symm;have:=count_le (ks:=ks) (p:=λq=>lt q y) (q:=λq=>lt q x) λq _ b=>by
   cases hc:lt q x with
   | true=>rfl
   | false =>
    have:=W.tr y x q h hc;have a:lt q y=true:=b;rw[this]at a;cases a
  lia
section
variable {prog:Xm}{w:W1}{A:WN}{E:X9->X7->Prop}{s:X7}
def zeF {a:Addr}{vs:List X9}{n:Nat}{P:PySem.Fin->X7->Prop}(I:s.heap.get? a=some (Ub "list" vs.toArray n))(hz:vs.length<=Xq)(r:X9->Int)
  (hk:2<=vs.length->∀s':X7,(∀b o,b≠a->s.heap.get? b=some o->s'.heap.get? b=some o)->Xv (Xr prog w) A (keyKind' vs.toArray) (fun κ M=>M=s'/\Tells prog w A s' κ (λp=>r p.1) (Oo vs)) (λ_ _=>False) s')
  (h:∀(ws:List X9) (h':Heap) (c:Nat),ws.Perm vs->ws.Pairwise (λx y=>r x<=r y)->(∀b o,b≠a->s.heap.get? b=some o->h'.get? b=some o)->h'.get? a=some (Ub "list" ws.toArray c)->P (.done (.ret .none)) { s with heap:=h' }) :
  Xv (Xr prog w) A (UG.«list.sort» ⟨[.ref a],[]⟩) P E s:=by
 have ac:a<s.heap.objs.size:=XD I;have G:=get?_update_seq I λ_=>(#[]:Array X9);generalize N:s.heap.update a (UW λ_=>(#[]:Array X9))=v at G;have zX:v.objs.size=s.heap.objs.size:=by rw[<- N,Heap.size_update]
 have kX:∀b o,b≠a->s.heap.get? b=some o->v.get? b=some o:=λb o q e=>by
  rw[<- N,RE _ _ _ _ q];exact e
 obtain⟨H,L⟩:∃H,v.get? a=some (Ub "list" #[] H):=⟨_,G⟩;generalize U:(v.push (Ub "tuple" vs.toArray 0)).push (Ub "list" #[] 0)=Y;have l:Y.get? a=some (Ub "list" #[] H):=by
  rw[<- U];exact X4 _ (X4 _ L)
 have kY:∀b o,b≠a->s.heap.get? b=some o->Y.get? b=some o:=λb o q e=>by
  rw[<- U];exact X4 _ (X4 _ (kX b o q e))
 have g:∀(st:WM),(((Xn st).map (·.2)).toList.Perm vs)->(((Xn st).map (·.2)).toList.Pairwise λx y=>r x<=r y)->SE st=none ->
   Xv (Xr prog w) A (do
    let f:=(<- seqEpoch a) != H
    Builtin.List.listUpdate (.ref a) λ_=>(Xn st).map (·.2)
    if let some e:=SE st then rule "list.sort.comparison-raised";throw e
    if f then rule "list.sort.modified";raiseError "ValueError" "list modified during sort"
    ret .none) P E { s with heap:=Y }:=by
  intro st m J hf;generalize ew:(Xn st).map (·.2)=wsA at m J;rw[hf];have D:wsA.size=vs.length:=by rw[<- X6,m.length_eq]
  have ab:=get?_update_seq l λ_=>wsA;refine ZB (seqEpoch_at l rfl (ZB (listUpdate_at l rfl ?_ (W4 _) (by rw[D];lia))));simp only[bne_self_eq_false,WJ,if_false];refine X0 (h wsA.toList _ _ m J (λb o q e=>?_) ab);rw[RE _ _ _ _ q];exact kY b o q e
 rw[list_sort_plain];refine ZB (listItems_at I rfl (ZB (listUpdate_at I rfl ?_ (by rw[Xy];exact hz) (W4 _))));rw[N];refine ZB (seqEpoch_at L rfl (ZB (wpAny_newTuple (ZB (N5 ?_ (W4 _))) hz)));show Xv (Xr prog w) A _ P E { s with heap:=(v.push (Ub "tuple" vs.toArray 0)).push (Ub "list" #[] 0) };rw[U];refine VS ?_;dsimp only;have e2:((Oo vs).map (·.2)).toList=vs:=by
  rw[UN,Ug];exact List.map_snd_zip (XV _)
 by_cases k:vs.toArray.size<2
 .have B:vs.length<2:=by rw[Xy]at k;exact k
  rw[bw k,bw k];refine ZB (X0 ?_);rw[StateT.run_pure];refine ZB (X0 ?_);refine g (SortSt.mk' general' (Oo vs) #[] 7 none) (by show ((Oo vs).map (·.2)).toList.Perm vs;rw[e2]) (by
   show ((Oo vs).map (·.2)).toList.Pairwise _;rw[e2,Vg];intro i j hi hj aa;lia) rfl
 .have B:2<=vs.length:=by rw[Xy]at k;lia
  rw[bq k,bq k];refine ZB (Wj (hk B { s with heap:=Y } kY) (fun κ M ⟨e3,T⟩=>?_) λ_ _ x=>x.elim);subst e3;have run:=zqo (E:=E) (st:=SortSt.mk' κ (Oo vs) #[] 7 none) (Q:=λ_ d=>(((Xn d).map (·.2)).toList.Perm vs)/\(((Xn d).map (·.2)).toList.Pairwise λx y=>r x<=r y)/\SE d=none) T ⟨Array.Perm.refl _,rfl,rfl⟩ rfl λd O L=>?_
  .unfold wpS at run;refine ZB (Wj run ?_ λ_ _ z=>z);rintro⟨⟨⟩,d⟩ s' ⟨rfl,m,J,hf⟩;exact g d m J hf
  .have pm:=UH.mp O.perm;have same:∀p∈(Xn d).toList,p.1=p.2:=λp m=>by
    have:=pm.mem_iff.mp m;rw[Ug]at this;exact(RA this).1
   refine⟨?_,?_,O.good⟩
   .have:=pm.map (·.2);rw[UN];rw[Ug,List.map_snd_zip (XV _)]at this;exact this
   .rw[UN,VP,Vg];intro i j hi hj aa;have zs:=O.size;rw[X6]at hi hj;have u:=yY L (i:=i) (j:=j) (W4 _) (by lia) (by lia) (getElem?_pos _ i hi) (getElem?_pos _ j hj);have s1:=same (Xn d)[i] (by simp);have M:=same (Xn d)[j] (by simp);rw[Uu,Uu,<- s1,<- M];exact u
def zkx {l:Addr}{vs:List X9}{Q:X9->X7->Prop}(u:s.heap.IsList l vs.toArray)(hz:vs.length<=Xq)(r:X9->Int)
  (hk:2<=vs.length->∀s':X7,(∀b o,s.heap.get? b=some o->s'.heap.get? b=some o)->Xv (Xr prog w) A.in1.in1 (keyKind' vs.toArray) (fun H G=>G=s'/\Tells prog w A.in1.in1 s' H (λp=>r p.1) (Oo vs)) (λ_ _=>False) s')
  (h:∀(f:List X9) (h':Heap) (c:Nat),f.Perm vs->f.Pairwise (λx y=>r x<=r y)->(∀b o,s.heap.get? b=some o->h'.get? b=some o)->h'.get? (s.heap.objs.size+1)=some (Ub "list" f.toArray c)->Q (.ref (s.heap.objs.size+1)) { s with heap:=h' }) :
  Xv (Xr prog w) A (call (.builtin "sorted") [.ref l]) Q E s:=by
 generalize g:(s.heap.push (Ub "list" #[] 0)).update s.heap.objs.size (UW (·++vs.toArray))=a;have n:a.objs.size=s.heap.objs.size+1:=by rw[<- g,Heap.size_update,U5]
 have B:∀b o,s.heap.get? b=some o->a.get? b=some o:=λb o e=>by
  have lt:=XD e;rw[<- g,RE _ _ _ _ (Xl lt)];exact X4 _ e
 apply Re kind_sorted plain_sorted entry_sorted (args_sorted1 _);unfold UG.«sorted»;refine ZB (m:=checkCount "sorted" 1 1 _) (X0 (ZB (collect_list u ?_ hz)));rw[g];refine ZB (N5 ?_ hz);show Xv _ _ _ _ _ { s with heap:=a.push (Ub "list" vs.toArray 0) };have d:(a.push (Ub "list" vs.toArray 0)).get? (s.heap.objs.size+1)=some (Ub "list" vs.toArray 0):=by
  rw[<- n];exact Xs _ rfl
 have i:∀b o,s.heap.get? b=some o->(a.push (Ub "list" vs.toArray 0)).get? b=some o:=λb o e=>X4 _ (B b o e);have j:∀b o,s.heap.get? b=some o->b≠s.heap.objs.size+1:=λb o e=>Xl (Ww (XD e));rw[n];refine ZB (VS (VH slot_list_sort ⟨_,d,rfl⟩ entry_list_sort (zeF (s:={ s with heap:=a.push (Ub "list" vs.toArray 0) }) d hz r (λc s' k=>hk c s' λb o e=>k b o (j b o e) (i b o e)) ?_) (args_list_sort _)));intro f h' c v z D q;exact⟨_,rfl,X0 ⟨_,rfl,h f h' c v z (λb o e=>D b o (j b o e) (i b o e)) q⟩⟩
end
def zc5 {α d:Type}{R:α->d->Prop}{xs:List α}{ys:List d}(hp:W2 R xs ys):(∀p∈xs.zip ys,R p.1 p.2)/\(xs.zip ys).map (·.1)=xs/\(xs.zip ys).map (·.2)=ys:=by
 induction hp with
 | nil=>exact⟨(λp h=>nomatch h),rfl,rfl⟩
 | cons h _ e =>
  obtain⟨a,b,c⟩:=e;refine⟨λp hp=>?_,by rw[List.zip_cons_cons,Xo,b],by rw[List.zip_cons_cons,Xo,c]⟩;rcases XH.mp hp with rfl | hp
  .exact h
  .exact a p hp
theorem zeG {α a:Type}{R:α->a->Prop}:∀{zs:List (α × a)},(∀p∈zs,R p.1 p.2)->W2 R (zs.map (·.1)) (zs.map (·.2))
 | [],_=>.nil
 | p::zs,h=>.cons (h p XX) (zeG λq b=>h q (XY _ b))
theorem JX {α a:Type}{R:α->a->Prop}:∀{xs:List α} {ys:List a},W2 R xs ys->∀x∈xs,∃y∈ys,R x y
 | _,_,.nil,x,h=>nomatch h
 | _,_,.cons h t,x,hx=>by
  rcases XH.mp hx with rfl | hx
  .exact⟨_,XX,h⟩
  .obtain⟨y,h1,h2⟩:=JX t x hx;exact⟨y,XY _ h1,h2⟩
def Tri {K:Type}(a:V->K->Prop)(RH:X9->K->Prop)(t:V×X9×K):Prop:=RelV t.1 t.2.1/\a t.1 t.2.2/\RH t.2.1 t.2.2
def zqp {K:Type}{d:V->K->Prop}{RH:X9->K->Prop}{c:AF}{a:List X9}{ks:List K}(h1:Vals c a):W2 d c ks->W2 RH a ks->∃T:List (V×X9×K),(∀t∈T,Tri d RH t)/\T.map (·.1)=c/\T.map (·.2.1)=a/\T.map (·.2.2)=ks:=by
 induction h1 generalizing ks with
 | nil =>
  intro h2 b;cases h2;exact⟨[],(λt h=>nomatch h),rfl,rfl,rfl⟩
 | @cons u i c a g o f =>
  intro h2 b;cases h2 with
  | @cons _ k _ ks j m =>
   cases b with
   | cons l n =>
    refine fk (λT=>fJ λh1 h2 b e=>?_) (f m n);refine⟨(u,i,k)::T,λt ht=>?_,by rw[Xo,h2],by rw[Xo,b],by rw[Xo,e]⟩;rcases XH.mp ht with rfl | ht
    .exact⟨g,j,l⟩
    .exact h1 t ht
theorem zgO {K:Type}{d:V->K->Prop}{RH:X9->K->Prop}:∀{T:List (V×X9×K)},(∀t∈T,Tri d RH t)->Vals (T.map (·.1)) (T.map (·.2.1))/\W2 d (T.map (·.1)) (T.map (·.2.2))
 | [],_=>⟨.nil,.nil⟩
 | t::T,h=>by
  obtain⟨h1,h2⟩:=zgO λx e=>h x (XY _ e);obtain⟨a,b,c⟩:=h t XX;exact⟨.cons a h1,.cons b h2⟩
section
variable {X:Cx}{bz:List (Addr×Obj)}{σ:St}{H:Hp}{s:X7}{K:Type}
def zky {lt:K->K->Bool}(W:Wk lt){Y:V->K->Prop}{RH:Heap->X9->K->Prop}(fn:∀h v k n,RH h v k->RH h v n->k=n)(kp:∀h h' v k,(∀b o,h.get? b=some o->h'.get? b=some o)->RH h v k->RH h' v k)
  {l:Addr} {U:AF} {f:List X9} {ks:List K} {Q:VK} (I:Inv X bz σ H s) (hl:s.heap.IsList l f.toArray) (hz:U.length<=1000000) (rv:Vals U f) (hv:W2 Y U ks) (E:W2 (RH s.heap) f ks)
  (N:∀s':X7,W2 (RH s'.heap) f ks->2<=f.length->Xv (Xr X.prog X.w) X.A.in1.in1 (keyKind' f.toArray) (fun κ s2=>s2=s'/\∀v v' k n,RH s'.heap v k->RH s'.heap v' n->∀C:Bool->X7->Prop,C (lt k n) s'->Xv (Xr X.prog X.w) X.A.in1.in1 (keyLt' κ v v') C (λ_ _=>False) s') (λ_ _=>False) s')
  (q:∀d D u,H d=none->W2 Y D u->u.Perm ks->u.Pairwise (λx y=>lt y x=false)->(D.Perm U)->Q (.ref d) (upd H d (.lst D))) :
  Xv (Xr X.prog X.w) X.A (call (.builtin "sorted") [.ref l]) (EP X bz σ Q) X.xe s:=by
 classical
 have aa:=rv.length;obtain⟨T,hT,e1,e2,e3⟩:=zqp rv hv E;let r:X9->Int:=λv=>if h:∃k,RH s.heap v k then rkK lt ks h.choose else 0
 have i:∀{v:X9} {k:K},RH s.heap v k->r v=rkK lt ks k:=λ{v k} h=>by
  have m:∃k,RH s.heap v k:=⟨k,h⟩;show (if h:∃k,RH s.heap v k then rkK lt ks h.choose else 0)=_;rw[dif_pos m,fn _ _ _ _ m.choose_spec h]
 have z1:f.length<=Xq:=by
  rw[<- aa,SK];lia
 refine zkx (vs:=f) hl z1 r (λh2 s' O=>?_) λws h' c J hs O ha=>?_
 .have ab:W2 (RH s'.heap) f ks:=by
   obtain⟨a,b,c⟩:=zc5 E;have:=zeG (R:=RH s'.heap) (zs:=f.zip ks) λp E=>kp _ _ _ _ O (a p E);rw[b,c]at this;exact this
  refine Wj (N s' ab h2) (fun κ s2 ⟨e,hc⟩=>⟨e,λx m y L C hC=>?_⟩) λ_ _ z=>z;have mx:x.1∈f:=by
   rw[Ug]at m;exact(RA m).2
  have my:y.1∈f:=by
   rw[Ug]at L;exact(RA L).2
  obtain⟨k,k1,k2⟩:=JX E x.1 mx;obtain⟨n,ae,M⟩:=JX E y.1 my;refine hc x.1 y.1 k n (kp _ _ _ _ O k2) (kp _ _ _ _ O M) C ?_;have G:C (decide (r x.1<r y.1)) s':=hC;rw[i k2,i M,<- W.rank k1]at G;exact G
 .obtain⟨T',g,eT⟩:=ST.zc2 (λt:V×X9×K=>t.2.1) J T e2.symm;have j:∀t∈T',Tri Y (RH s.heap) t:=λt ht=>hT t (g.mem_iff.mp ht);obtain⟨B,ac⟩:=zgO j;rw[<- eT]at B;have hD:H (s.heap.objs.size+1)=none:=I.hok.fresh (V9 _);refine⟨.ref (s.heap.objs.size+1),upd H (s.heap.objs.size+1) (.lst (T'.map (·.1))),I.laid (t':=s.toks) O (V9 _) ⟨?_,ws,c,B,ha⟩,rfl,q _ _ _ hD ac (by rw[<- e3];exact g.map _) ?_ (by rw[<- e1];exact g.map _)⟩
  .rw[B.length,J.length_eq];exact z1
  .rw[eT,VP]at hs;rw[VP];refine hs.imp_of_mem λ{x y} m L h=>?_;obtain⟨_,_,h1⟩:=j x m;obtain⟨_,_,h2⟩:=j y L;rw[i h1,i h2]at h;have my:y.2.2∈ks:=by
    rw[<- e3];exact XJ.mpr ⟨y,g.mem_iff.mp L,rfl⟩
   rw[W.rank my];exact bf (by lia)
end
def zqq:Wk lt2:=by
 refine⟨λx y h=>?_,λx y z h1 h2=>?_⟩
 .cases e:lt2 y x with
  | false=>rfl
  | true =>
   have:=zhY h e;rw[zja]at this;cases this
 .cases e:lt2 z x with
  | false=>rfl
  | true =>
   by_cases a:x=y
   .subst a;rw[e]at h2;exact h2
   .have b:lt2 x y=true:=by
     have:=zcn (p:=x) (q:=y) a;rw[h1]at this;cases hh:lt2 x y with
     | true=>rfl
     | false =>
      rw[hh]at this;cases this
    have:=zhY e b;rw[this]at h2;exact h2
def zjo {h:Heap}{v:X9}{p q:Int×Int}(h1:zH h v p)(h2:zH h v q):p=q:=by
 obtain⟨a,o,n,t,u,e,k,A,i⟩:=h1;obtain⟨z,D,B,x,y,j,c,g,b⟩:=h2;subst e;cases j;rw[k]at c;cases c;rw[i]at b;obtain⟨m,r⟩:=p;obtain⟨s,w⟩:=q;injection b with b _
 have l:[Vj m t,Vj r u]=[Vj s x,Vj w y]:=congrArg Array.toList b;injection l with f d
 injection d with d _
 injection f with f _
 injection d with d _
 rw[f,d]
end GS
end L2
namespace PySem.SeqAt
open L2 AutoSeq1 MeetsSeq MeetsSeq2 MeetsSeq3
end PySem.SeqAt
namespace L2
open PySem PySem.Spec PyProof.Rows PySem.W PySem.SeqAt
end L2
namespace PySem.SeqAt
open L2 AutoSeq1 MeetsSeq MeetsSeq2 MeetsSeq3
def ltL:List (Int×Int)->List (Int×Int)->Bool
 | _,[]=>false
 | [],_::_=>true
 | p::r,q::t=>if p=q then ltL r t else lt2 p q
def zfz (ps:List (Int×Int)):ltL ps []=false:=by cases ps<;>rfl
theorem zjp:∀ps:List (Int×Int),ltL ps ps=false
 | []=>rfl
 | p::r=>by
  unfold ltL;rw[bw rfl];exact zjp r
theorem zjq:∀{ps qs:List (Int×Int)},ps≠qs->ltL qs ps=!ltL ps qs
 | [],[],h=>absurd rfl h
 | [],q::t,_=>rfl
 | p::r,[],_=>rfl
 | p::r,q::t,h=>by
  unfold ltL;by_cases e:p=q
  .subst e;rw[bw rfl,bw rfl];exact zjq λz=>h (by rw[z])
  .rw[bq e,bq (UQ e)];exact zcn e
theorem zia:∀{ps qs d:List (Int×Int)},ltL ps qs=true->ltL qs d=true->ltL ps d=true
 | ps,[],_,h,_=>by
  rw[zfz]at h;cases h
 | _,_::_,[],_,h=>by
  rw[zfz]at h;cases h
 | [],_::_,_::_,_,_=>rfl
 | p::r,q::t,x::y,h1,h2=>by
  unfold ltL at *
  by_cases b:p=q
  .subst b;rw[bw rfl]at h1;by_cases a:p=x
   .rw[bw a]at h2 ⊢;exact zia h1 h2
   .rw[bq a]at h2 ⊢;exact h2
  .rw[bq b]at h1;by_cases a:q=x
   .subst a;rw[bq b];exact h1
   .rw[bq a]at h2;have c:=zhY h1 h2;rw[bq]
    .exact c
    .intro e;subst e;rw[zja]at c;cases c
def zib {A:WN}{s:X7}{v a:X9}{p q:Int×Int}(h1:zH s.heap v p)(h2:zH s.heap a q)(d:A.units+10<Vt):EqAt A s v a (decide (p=q)):=by
 obtain⟨as,b⟩:=QX h1;obtain⟨bs,c⟩:=QX h2;have:=eqAt_reads _ _ A s _ _ as bs b c rfl rfl (by show A.units+min 1 1<Vt;lia);rw[zeu]at this;exact this
def ZT {h:Heap}{xs:Array X9}{ps:List (Int×Int)}(d:W2 (zH h) xs.toList ps){i:Nat}(g:i<xs.size):∃p r,ps.drop i=p::r/\ps.drop (i+1)=r/\zH h xs[i] p:=by
 have e:xs.toList.length=ps.length:=Paired.length d;rw[X6]at e;have h2:i<ps.length:=by lia
 obtain⟨a,b,c⟩:=GS.zc5 d;refine⟨ps[i],ps.drop (i+1),WL h2,rfl,?_⟩;have f:i<(xs.toList.zip ps).length:=by
  rw[List.length_zip,X6];lia
 have:=a _ (Tl f);rw[List.getElem_zip]at this;simpa using this
def zkz (l b:Addr)(c a:Array X9)(n n2:Nat)(M B:Option Addr)(sl H:Array (Option X9))(ps qs:List (Int×Int))(k:Nat) :
  ∀i:Nat,c.size-i=k->i<=c.size->i<=a.size->Meets (UG.«list.__eq__.loop» ⟨[.ref l,.ref b,US i,US 0],[]⟩)
   (λA R s=>s.heap.get? l=some { cls:=.type "list",dict:=M,data:=.seq c n,slots:=sl }/\s.heap.get? b=some { cls:=.type "list",dict:=B,data:=.seq a n2,slots:=H } /\
    W2 (zH s.heap) c.toList ps/\W2 (zH s.heap) a.toList qs/\A.units+20<Vt /\
    R (.ok (.ret (.bool (ltL (ps.drop i) (qs.drop i))))) s):=by
 induction k with
 | zero =>
  intro i hk h1 h2 f w A R s h;obtain⟨hp,g,d,tk,os⟩:=s;revert h;refine e8 λy x m o I h=>?_;have E:c.toList.length=ps.length:=Paired.length m;have G:a.toList.length=qs.length:=Paired.length o;rw[X6]at E G;wp_walk using V7 y,V7 x;have j:c[((i:Nat):Int).toNat]?=none:=by simp;lia
  rw[j];have D:ps.drop i=[]:=by simp;lia
  have e:ltL (ps.drop i) (qs.drop i)=decide (c.size<a.size):=by
   rw[D];by_cases hq:i<qs.length
   .rw[WL hq];exact(br (by lia)).symm
   .rw[List.drop_of_length_le (by lia)];exact(bf (by lia)).symm
  rw[e]at h;wp_walk using V7 y,V7 x;exact h
 | succ k ih =>
  intro i hk h1 h2 f w A R s h;obtain⟨hp,g,d,tk,os⟩:=s;revert h;refine e8 λy x m o I h=>?_;have E:c.toList.length=ps.length:=Paired.length m;have G:a.toList.length=qs.length:=Paired.length o;rw[X6]at E G;wp_walk using V7 y,V7 x;have z:i<c.size:=by lia
  have j:c[((i:Nat):Int).toNat]?=some c[i]:=by simp[z]
  by_cases v:i<a.size
  .have u:a[((i:Nat):Int).toNat]?=some a[i]:=by simp[v]
   have Y:((i:Int)+1)=((i+1:Nat):Int):=by push_cast;rfl
   refine fh (λp r N Q J=>?_) (ZT m z);refine fh (λq t O U L=>?_) (ZT o v);rw[j,u];refine ZB (zib J L (by show A.units+1+10<Vt;lia) f w _ _ ?_);rw[N,O]at h;unfold ltL at h;by_cases e:p=q
   .rw[bw e]at h;rw[br e];wp_walk;rw[Y];exact⟨Ut plain_eq_loop _,Vy entry_eq_loop (by
     rw[V4 plain_eq_loop _];exact ih (i+1) (by lia) (by lia) (by lia) f w A R _ ⟨y,x,m,o,I,by rw[Q,U];exact h⟩)⟩
   .rw[bq e]at h;rw[bf e];simp only[WJ,if_false];refine ZB (Rc y rfl (ZB (Rc x rfl ?_)));rw[j,u];exact ZB (zae.pairs J L (by show A.units+1<Vt;lia) f w _ _ (X0 h))
  .have u:a[((i:Nat):Int).toNat]?=none:=by simp;lia
   rw[j,u];have D:qs.drop i=[]:=by simp;lia
   rw[D,zfz,show false=decide (c.size<a.size) from (bf (by lia)).symm]at h;wp_walk using V7 y,V7 x;exact h
def zic (l b:Addr)(c a:Array X9)(n k:Nat)(g d:Option Addr)(m f:Array (Option X9))(ps qs:List (Int×Int)) :
  Meets (UG.«list.__lt__» ⟨[.ref l,.ref b],[]⟩)
   (λA R s=>s.heap.get? l=some { cls:=.type "list",dict:=g,data:=.seq c n,slots:=m }/\s.heap.get? b=some { cls:=.type "list",dict:=d,data:=.seq a k,slots:=f } /\
    W2 (zH s.heap) c.toList ps/\W2 (zH s.heap) a.toList qs/\A.units+20<Vt/\R (.ok (.ret (.bool (ltL ps qs)))) s):=by
 intro e w A R s h;obtain⟨p,z,x,v,u⟩:=s;revert h;refine e8 λj i o q r h=>?_;have y:=sub_list_list;wp_walk using V7 j,V7 i;exact⟨Ut plain_eq_loop _,Vy entry_eq_loop (by
  rw[V4 plain_eq_loop _];exact zkz l b c a n k g d m f ps qs _ 0 rfl (W4 _) (W4 _) e w A R _ ⟨j,i,o,q,r,by simpa using h⟩)⟩
structure ListPairs (h:Heap)(v:X9)(ps:List (Int×Int)):Prop where
 ex:∃a o xs n,v=.ref a/\h.get? a=some o/\o.cls=.type "list"/\o.data=.seq xs n/\W2 (zH h) xs.toList ps
def zl3 {prog:Xm}{w:W1}{A:WN}{E:X9->X7->Prop}{s:X7}{v q:X9}{ps qs:List (Int×Int)}{C:Bool->X7->Prop}(y:ListPairs s.heap v ps)(g:ListPairs s.heap q qs)(H:A.units+30<Vt)(h:C (ltL ps qs) s) :
  Xv (Xr prog w) A (PyProof.Rows.keyLt' PyProof.Rows.oneType' v q) C E s:=by
 obtain⟨a,⟨u,x,p,D⟩,G,n,rfl,e,l,o,B⟩:=y;obtain⟨r,⟨m,d,data2,j⟩,k,z,rfl,f,b,c,i⟩:=g;simp only at l o b c;subst l o b c;rw[PyProof.Rows.keyLt'_oneType,PyProof.Rows.oneLt'_eq];simp only[if_true];refine ZB (wpAny_cRoomFor (by lia) ?_);refine ZB (wpAny_callSpecialIfBound?_slot (T:="list") ⟨_,e,rfl⟩ F.slot_list_lt ?_);refine R5 F.slot_list_lt ⟨_,e,rfl⟩ F.entry_list_lt (F.args_list_lt_2 _ _) (zic a r G k n z x d D j ps qs) (dG e f B i (by lia) ?_);exact U0 h
end PySem.SeqAt
namespace L2
open PySem PySem.Spec PyProof.Rows PySem.W PySem.SeqAt
namespace GS
def zqr:Wk ltL:=by
 refine⟨λx y h=>?_,λx y z h1 h2=>?_⟩
 .cases e:ltL y x with
  | false=>rfl
  | true =>
   have:=zia h e;rw[zjp]at this;cases this
 .cases e:ltL z x with
  | false=>rfl
  | true =>
   by_cases a:x=y
   .subst a;rw[e]at h2;exact h2
   .have b:ltL x y=true:=by
     have:=zjq (ps:=x) (qs:=y) a;rw[h1]at this;cases hh:ltL x y with
     | true=>rfl
     | false =>
      rw[hh]at this;cases this
    have:=zia e b;rw[this]at h2;exact h2
def LstAt (H:Hp)(v:V)(ps:List (Int×Int)):Prop:=∃a b,v=V.ref a/\H a=some (.lst b)/\xT H b ps
def zkA {h:Heap}{vs:List X9}{ps qs:List (Int×Int)}(d:W2 (zH h) vs ps):W2 (zH h) vs qs->ps=qs:=by
 induction d generalizing qs with
 | nil =>
  intro c;cases c;rfl
 | cons a _ e =>
  intro c;cases c with
  | cons b u=>rw[zjo a b,e u]
def zl4 {h:Heap}{v:X9}{ps qs:List (Int×Int)}(h1:ListPairs h v ps)(h2:ListPairs h v qs):ps=qs:=by
 obtain⟨a,o,s,n,e,j,p,g,k⟩:=h1;obtain⟨m,r,l,q,i,c,f,b,d⟩:=h2;subst e;cases i;rw[j]at c;cases c;rw[g]at b;injection b with b _
 subst b;exact zkA k d
def Yx {h h':Heap}(k:∀b o,h.get? b=some o->h'.get? b=some o){vs:List X9}{ps:List (Int×Int)}(d:W2 (zH h) vs ps):W2 (zH h') vs ps:=by
 induction d with
 | nil=>exact .nil
 | cons q _ f =>
  obtain⟨a,o,n,t,u,e,c,r⟩:=q;exact .cons ⟨a,o,n,t,u,e,k _ _ c,r⟩ f
section
variable {X:Cx}{bz:List (Addr×Obj)}{σ:St}{H:Hp}{s:X7}
def zid (I:Inv X bz σ H s){c:AF}{ks:List (List (Int×Int))}{b:List X9}(d:W2 (LstAt H) c ks)(r:Vals c b):W2 (ListPairs s.heap) b ks:=by
 induction d generalizing b with
 | nil =>
  cases r;exact .nil
 | cons q _ g =>
  obtain⟨a,m,e,h,f⟩:=q;subst e;cases r with
  | cons i j =>
   cases i;refine .cons ?_ (g j);obtain⟨z,b,n,k,l,e⟩:=I.lstM h;exact⟨a,_,b.toArray,n,rfl,e,rfl,rfl,by rw[Oh];exact xT.pairs I f k⟩
end
def zie {h:Heap}{b:List X9}{ks:List (List (Int×Int))}(f:W2 (ListPairs h) b ks):∀v∈b,∃a o,v=WO a/\h.get? a=some o/\o.cls=.type "list":=by
 induction f with
 | nil=>exact λv hv=>nomatch hv
 | cons q _ g =>
  intro v hv;rcases XH.mp hv with rfl | hv
  .obtain⟨a,o,i,n,e,d,c,_⟩:=q;exact⟨a,o,e,d,c⟩
  .exact g v hv
section
variable {X:Cx}
def QZ (hu:X.A.units+64<Vt):jr X (.builtin "sorted") (λxs H Q=>∃l g ks,xs=[.ref l]/\SqL X.K H l g/\W2 (LstAt H) g ks/\g.length<=1000000 /\
  ∀d b f,H d=none->W2 (LstAt H) b f->f.Perm ks->f.Pairwise (λp q=>ltL q p=false)->b.Perm g->Q (.ref d) (upd H d (.lst b))):=by
 intro bz s σ H xs b Q I r h;revert h;refine eX λl g ks z0 J m M q=>?_;subst z0;obtain⟨u,rfl,Y⟩:=vals1 r;cases Y;obtain⟨N,x,U,_⟩:=I.list J;have G:=zid I m x;refine zky zqr (RH:=ListPairs) (λh v k O=>zl4) (λh h' v k w ⟨a,o,xs,n,e,i,c,d,r⟩=>⟨a,o,xs,n,e,w _ _ i,c,d,Yx w r⟩) I U.isList M x m G (λs' j h2=>?_) λd b f E h1 h2 z B=>q d b f E h1 h2 z B;refine kas_kind (T:=.type "list") h2 (λv L=>?_) (by decide) (by decide) ⟨rfl,λv v' k O h1 h2 C D=>?_⟩
 .obtain⟨a,o,rfl,i,y⟩:=zie j v L;exact y ▸ (Looks.ld i).andThen .now
 .exact zl3 h1 h2 (by show X.A.units+1+1+30<Vt;lia) D
end
end GS
open PySem PySem.Spec PyProof.Rows
def HasDef (K:XW)(x:Str)(st:Stmt):Prop:=∃(f:Addr) (e:X9) (g b:Option Addr) (i:Array (Option X9)) (kV d h a c:X9),XE K XR x=some (some (.ref f))/\K.lookup f=some ⟨e,g,.func (VY x x (j5 st) (jt st) (zf st) .none kV d h b a c),i⟩/\U7 K a x=true/\U6 K (.ref f)=true
def us0 {P:List X9->Prop}(h:P []):∀b:List X9,b.length=0->P b:=by
 intro b e;cases b with
 | nil=>exact h
 | cons a t=>cases e
def usS {n:Nat}{P:List X9->Prop}(h:∀a t,t.length=n->P (a::t)):∀b:List X9,b.length=n+1->P b:=by
 intro b e;cases b with
 | nil=>cases e
 | cons a t=>exact h a t (Nat.succ.inj e)
def us1 {P:List X9->Prop}(h:∀a,P [a]):∀b:List X9,b.length=1->P b:=usS λa=>us0 (h a)
def us2 {P:List X9->Prop}(h:∀a b,P [a,b]):∀c:List X9,c.length=2->P c:=usS λa=>us1 (h a)
def us3 {P:List X9->Prop}(h:∀a b c,P [a,b,c]):∀d:List X9,d.length=3->P d:=usS λa=>us2 (h a)
def us4 {P:List X9->Prop}(h:∀a b c d,P [a,b,c,d]):∀e:List X9,e.length=4->P e:=usS λa=>us3 (h a)
def HasDef.at {K:XW}{h:Heap}{i:Str->Option X9}{x:Str}{st:Stmt}{ps:AE}(H:HasDef K x st)(X:K.In h)(G:h.Ns XR i)
  (n:∀(kV doc j:X9) (e:Option Addr) (b g:X9) (d:List X9),d.length=ps.length->NU (VY x x (j5 st) (jt st) (zf st) .none kV doc j e b g) ⟨d,[]⟩=pure (ps.zip d):=by intro _ _ _ _ _ _;first | exact us1 λ_=>rfl | exact us2 λ_ _=>rfl | exact us3 λ_ _ _=>rfl | exact us4 λ_ _ _ _=>rfl):∃f m,zh K i x st ps f m:=by
 revert H;refine fj λf q r e s kV p j=>eU λo g a l c k=>?_;have F:=zlu (st:=st) l c k;exact⟨f,_,F,Wb X G a,F.binds n⟩
open PySem PySem.W
open PySem PySem.Spec PyProof.Rows PySem.W
namespace ST
variable {X:Cx}
def zd2 (hh:X.A.handled=none):jr X (.builtin "sorted") (λxs H Q=>∃l ks,xs=[.ref l]/\H l=some (zgL X.prog X.w l ks)/\(∀q∈ks,H q.1=some (.tup [.int q.2.1,.int q.2.2]))/\(ks.map (·.2)).Nodup/\ks.length<64 /\
  ∀d U O,H d=none->xT H U O->O.Perm (ks.map (·.2))->Up2 O->Q (.ref d) (upd H d (.lst U))):=by
 intro bz s σ H xs U Q I r h;revert h;refine fq λl ks=>e8 λz0 hl hT ak ap q=>?_;subst z0;obtain⟨u,rfl,ru⟩:=vals1 r;cases ru;obtain⟨⟨es,ep,t,ho,he,G,ab,am⟩,_,_⟩:=(show qP X.prog X.w H s.heap l (zgL X.prog X.w l ks) from I.hok l _ hl);have av:ks.length=es.size:=by
  rw[<- X6,he,Y1]
 apply Re kind_sorted plain_sorted entry_sorted (args_sorted1 _);unfold UG.«sorted»;refine ZB (m:=checkCount "sorted" 1 1 _) (X0 (ZB (zgK (by simp[hh]) ho G ab am (by lia) λf h1 tk ae ah aj=>?_)));have ao:es.toList.map (·.2)=ks.map λq=>WO q.1:=by
  rw[he,WE];rfl
 rw[ao]at ae;obtain⟨g,z,hj⟩:=zc2 (λq:Addr×(Int×Int)=>WO q.1) ae ks rfl;have aa:∀q∈g,H q.1=some (.tup [.int q.2.1,.int q.2.2]):=λq L=>hT q (z.mem_iff.mp L);have D:(g.map (·.2)).Nodup:=(z.map (·.2)).nodup_iff.mpr ak;have au:g.length=ks.length:=z.length_eq;have ar:f.length=g.length:=by rw[hj,Y1]
 have rv:∀{g:List (Addr×(Int×Int))},Vals (g.map λq=>V.ref q.1) (g.map λq=>WO q.1):=λ{g}=>by
  induction g with
  | nil=>exact .nil
  | cons a t ih=>exact .cons rfl ih
 have ht:∀{g:List (Addr×(Int×Int))},(∀q∈g,H q.1=some (.tup [.int q.2.1,.int q.2.2]))->xT H (g.map λq=>V.ref q.1) (g.map (·.2)):=λ{g}=>by
  induction g with
  | nil=>exact λ_=>.nil
  | cons a t ih=>exact λh=>.cons ⟨a.1,rfl,h a XX⟩ (ih λq L=>h q (XY _ L))
 have j:W2 (zH s.heap) f (g.map (·.2)):=by
  rw[hj];exact xT.pairs I (ht aa) rv
 generalize af:g.map (·.2)=ps at j D;have aw:f.length=ps.length:=Paired.length j;have W:=GS.zqq;have ip:∀q:Addr×(Int×Int),H q.1=some (.tup [.int q.2.1,.int q.2.2])->zH s.heap (.ref q.1) q.2:=λq L=>by
  have:=xT.pairs I (.cons ⟨q.1,rfl,L⟩ .nil:xT H [V.ref q.1] [q.2]) (.cons rfl .nil:Vals [V.ref q.1] [WO q.1]);cases this with
  | cons h _=>exact h
 classical
 let r:X9->Int:=λv=>if h:∃k,zH s.heap v k then GS.rkK lt2 ps h.choose else 0
 have B:∀{v:X9} {k:Int×Int},zH s.heap v k->r v=GS.rkK lt2 ps k:=λ{v k} h=>by
  have M:∃k,zH s.heap v k:=⟨k,h⟩;show (if h:∃k,zH s.heap v k then GS.rkK lt2 ps h.choose else 0)=_;rw[dif_pos M,GS.zjo M.choose_spec h]
 have small:f.length<=Xq:=by rw[SK];lia
 refine ZB (N5 ?_ small);have ac:(h1.push (Ub "list" f.toArray 0)).get? h1.objs.size=some (Ub "list" f.toArray 0):=Xs _ rfl;have kL:∀b o,s.heap.get? b=some o->(h1.push (Ub "list" f.toArray 0)).get? b=some o:=λb o e=>X4 _ (ah b o e);have ne:∀b o,s.heap.get? b=some o->b≠h1.objs.size:=λb o e=>Xl (XD (ah b o e));show Xv _ _ _ _ _ { s with heap:=h1.push (Ub "list" f.toArray 0),toks:=tk };refine ZB (VS (VH slot_list_sort ⟨_,ac,rfl⟩ entry_list_sort (GS.zeF (s:={ s with heap:=h1.push (Ub "list" f.toArray 0),toks:=tk }) ac small r (λh2 s' kk=>?_) ?_) (args_list_sort _)))
 .have al:=Yx (λb o e=>kk b o (ne b o e) (kL b o e)) j;obtain⟨fs,hk,aq,hint⟩:=zaE al;refine kat_kind (T:=.type "int") hk (by lia) (λv hv=>?_) (by decide) ⟨rfl,λx M y hy C hC=>?_⟩
  .obtain⟨x,t,rfl⟩:=hint v hv;exact Looks.of_pure rfl
  .have mx:x.1∈f:=by
    rw[Ug]at M;exact(RA M).2
   have my:y.1∈f:=by
    rw[Ug]at hy;exact(RA hy).2
   obtain⟨k,k1,k2⟩:=GS.JX j x.1 mx;obtain⟨k',ax,ag⟩:=GS.JX j y.1 my;have kp:∀{v:X9} {k:Int×Int},zH s.heap v k->zH s'.heap v k:=λ{v k} ⟨a,o,n,t,u,e,e1,r⟩=>⟨a,o,n,t,u,e,kk _ _ (ne _ _ e1) (kL _ _ e1),r⟩;have Y:C (decide (r x.1<r y.1)) s':=hC;rw[B k2,B ag,<- W.rank k1]at Y;exact znS (kp k2) (kp ag) Y
 .intro ws h' c E hs kk ha;obtain⟨p,i,ej⟩:=zc2 (λq:Addr×(Int×Int)=>WO q.1) E g hj;have hD:H h1.objs.size=none:=I.hok.fresh aj;have J:∀q∈p,H q.1=some (.tup [.int q.2.1,.int q.2.2]):=λq L=>aa q (i.mem_iff.mp L);have ai:Vals (p.map λq=>V.ref q.1) ws:=by
   rw[ej];exact rv
  have N:(p.map (·.2)).Nodup:=(i.map (·.2)).nodup_iff.mpr (by rw[af];exact D);have an:Up2 (p.map (·.2)):=by
   unfold Up2;unfold W9 at N;rw[VP]at N ⊢;rw[ej,VP]at hs;refine(hs.and N).imp_of_mem λ{x y} M hy ⟨h1,h2⟩=>?_;rw[B (ip x (J x M)),B (ip y (J y hy))]at h1;have my:y.2∈ps:=by
    rw[<- af];exact XJ.mpr ⟨y,i.mem_iff.mp hy,rfl⟩
   have e1:lt2 y.2 x.2=false:=by
    rw[W.rank my];exact bf (by lia)
   have e2:=zcn h2;rw[e1]at e2;cases hh:lt2 x.2 y.2 with
   | true=>rfl
   | false =>
    rw[hh]at e2;cases e2
  refine⟨_,rfl,X0 ⟨_,rfl,.ref h1.objs.size,upd H h1.objs.size (.lst (p.map λq=>V.ref q.1)),I.laid (t':=tk) (λb o e=>kk b o (ne b o e) (kL b o e)) aj ⟨?_,_,c,ai,ha⟩,rfl,q _ _ _ hD (ht J) ((i.trans z).map _) an⟩⟩;rw[ai.length,E.length_eq];exact small
end ST
inductive Rd1 (σ:St)(i:Nat)(Q:VK)(H:Hp):Prop
 | mk (v:V) (h:σ[i]?=some (some v)) (q:Q v H):Rd1 σ i Q H
def tVS (i:Nat):TE:=fun a H Q=>Rd1 a i Q H
section
variable {X:Cx}
def pvS (i:Nat){x:Str}{pos:Pos}(c:X.N[i]?=some x:=by rfl)(f:Vis X.env.scope x:=by first | exact XF rfl | exact UR (XF rfl) | exact UR (UR rfl))(d:(x==("__debug__":Str))=false:=by decide)
  (a:(x==("__classdict__":Str))=false:=by decide):PE X (.Name x pos) (tVS i):=by
 intro b s g H Q I h;obtain⟨v,e,q⟩:=h;exact pv i c f d a b s g H Q I ⟨v,e,q⟩
def OpR.imp {f:X9->X9->Sem X9}{r a:R2}(h:OpR X f r)(k:∀x y H Q,a x y H Q->r x y H Q):OpR X f a:=λb s e H x y v u Q I c d z=>h b s e H x y v u Q I c d (k x y H Q z)
def IxR.imp {r c:R2}(h:IxR X r)(k:∀x y H Q,c x y H Q->r x y H Q):IxR X c:=λb a d s i H x y v u Q I f g z e=>h b a d s i H x y v u Q I f g (k x y H Q z) e
inductive SI0 (g:Int->Int->V)(x y:V)(H:Hp)(Q:VK):Prop
 | mk (i j:Int) (hx:x=.int i) (hy:y=.int j) (q:Q (g i j) H):SI0 g x y H Q
inductive SI (C:Int->Int->Prop)(g:Int->Int->V)(x y:V)(H:Hp)(Q:VK):Prop
 | mk (i j:Int) (hx:x=.int i) (hy:y=.int j) (hc:C i j) (q:Q (g i j) H):SI C g x y H Q
def OpR.s0 {f:X9->X9->Sem X9}{g:Int->Int->V}(h:OpR X f (rI0 g)):OpR X f (SI0 g):=h.imp λ_ _ _ _ ⟨i,j,a,b,q⟩=>⟨i,j,a,b,q⟩
def OpR.s1 {f:X9->X9->Sem X9}{C:Int->Int->Prop}{g:Int->Int->V}(h:OpR X f (rI C g)):OpR X f (SI C g):=h.imp λ_ _ _ _ ⟨i,j,a,b,c,q⟩=>⟨i,j,a,b,c,q⟩
def jm:OpR X (Uk .Add) (SI0 λi j=>.int (i+j)):=zpV.s0
def jD:OpR X (Uk .Sub) (SI0 λi j=>.int (i-j)):=zpW.s0
def ju:OpR X (Uk .Mod) (SI (λ_ j=>0<j) λi j=>.int (i%j)):=zpX.s1
def yc:OpR X (Uk .FloorDiv) (SI JQ λi j=>.int (i/j)):=zlw.s1
def zc6:OpR X (V2 .Lt) (SI0 λi j=>.bl (decide (i<j))):=zrD.s0
def JY:OpR X (V2 .LtE) (SI0 λi j=>.bl (decide (i<=j))):=zrE.s0
def zif:OpR X (V2 .Gt) (SI0 λi j=>.bl (decide (j<i))):=zrF.s0
def zqs:OpR X (V2 .GtE) (SI0 λi j=>.bl (decide (j<=i))):=zrG.s0
inductive zr1 (K:XW)(x y:V)(H:Hp)(Q:VK):Prop
 | mk (p:Addr) (xs:AF) (i:Int) (v:V) (hx:x=.ref p) (hy:y=.int i) (hq:SqL K H p xs) (he:atI xs i=some v) (q:Q v H):zr1 K x y H Q
inductive zqt (K:XW)(x y:V)(H:Hp)(Q:VK):Prop
 | mk (p:Addr) (xs:AF) (i:Int) (v:V) (hx:x=.ref p) (hy:y=.int i) (hq:SqT K H p xs) (he:atI xs i=some v) (q:Q v H):zqt K x y H Q
inductive zr2 (x y:V)(H:Hp)(Q:VK):Prop
 | mk (z:Str) (i:Int) (c:Nat) (hx:x=.str z) (hy:y=.int i) (hl:z.length<=Xq) (he:atI z.cps.toList i=some c) (q:Q (.str ⟨#[c]⟩) H):zr2 x y H Q
def jd:IxR X (zr1 X.K):=znM.imp λ_ _ _ _ ⟨p,e,i,v,a,b,c,d,q⟩=>⟨p,e,i,v,a,b,c,d,q⟩
def qf:IxR X (zqt X.K):=zp2.imp λ_ _ _ _ ⟨p,e,i,v,a,b,c,d,q⟩=>⟨p,e,i,v,a,b,c,d,q⟩
def QD:IxR X zr2:=zp3.imp λ_ _ _ _ ⟨z,i,c,a,b,d,e,q⟩=>⟨z,i,c,a,b,d,e,q⟩
def zl5 {K:XW}(a:X.K=K):IxR X (zqt K):=a ▸ qf
inductive SB (x:V)(Q:Bool->Hp->Prop)(H:Hp):Prop
 | mk (k:Bool) (h:x=.bl k) (q:Q k H):SB x Q H
def zqu (t:TE):TT:=fun b H Q=>t b H λx a=>SB x Q a
def zL {op:CmpOp}{r:R2}{a b:Expr}{f g:TE}{pos:Pos}(B:OpR X (V2 op) r)(p:PE X a f)(w:PE X b g)(A:R0 op b=false):PT X (.Compare a [op] [b] pos) (zqu (tOp r f g)):=by
 intro d s e H Q I h;refine wpAny_isTrue_Compare1 (thn (p d s e H _ I h) λv s1 ⟨x,i,m,J,D⟩=>thn (w d s1 e i _ m D) λu N ⟨y,j,n,L,E⟩=>thn (B d N e j x y v u _ n J L E) λc O ⟨z,l,o,M,G⟩=>?_) A;obtain⟨k,rfl,q⟩:=G;cases M;exact U0 ⟨l,o,q⟩
inductive zqv (K:XW)(xs:AF)(H:Hp)(Q:VK):Prop
 | mk (p:Addr) (ys:AF) (hx:xs=[.ref p]) (hq:SqL K H p ys\/SqT K H p ys) (q:Q (.int ys.length) H):zqv K xs H Q
def zD:jr X (.builtin "len") (zqv X.K):=λc s g H e d Q I r ⟨p,f,a,b,q⟩=>zfk c s g H e d Q I r ⟨p,f,a,b,q⟩
def Qc {K:XW}(a:X.K=K):jr X (.builtin "len") (zqv K):=a ▸ zD
inductive zr3 (x:V)(vs:AF)(H:Hp)(Q:VK):Prop
 | mk (l:Addr) (xs:AF) (y:V) (hx:x=.ref l) (hv:vs=[y]) (hl:H l=some (.lst xs)) (hz:xs.length<Xq) (q:Q .non (upd H l (.lst (xs++[y])))):zr3 x vs H Q
def jE:MtM X "list.append" zr3:=λe s k H x i v h Q I g f ⟨l,j,y,a,b,c,d,q⟩=>zbj e s k H x i v h Q I g f ⟨l,j,y,a,b,c,d,q⟩
end
section
variable {X:Cx}{k k0:Nat}{f:Addr}{fd:XC}{ps:AE}{sp:Sp}{x:Str}{st:Stmt}{p pos:Pos}{e:Expr}{es:List Expr}{t:TA}
def pc0 (F:qA X.prog X.w X.K X.mg X.base CX0 k f fd ps sp)(i:x9 k0 X.A)(D:zh X.K X.mg x st ps f fd)(d:PA X (e::es) t)(hk:k<=k0:=by decide)(h:Gl X x:=by rfl)
  (a:(x==("__debug__":Str))=false:=by decide) (he:WG (e::es) X.env=(false,eval e X.env)::WG es X.env:=by rfl) (c:(TR pos (WG es X.env)).any (·.1)=false:=by rfl) :
  PE X (.Call (.Name x p) (e::es) [] pos) (zgc sp [] E0 t):=znJ F (i.mono hk) h D.g D.F.kp D.b .nil zi8 d a he c
end
def ZU:0<=Xq:=by decide
def sz_1:1<=Xq:=by decide
def ZV:2<=Xq:=by decide
def zgP:3<=Xq:=by decide
def zbt {M:NX}{Γ:PySem.Ctx}{p:Pos}{t:Sem Fin}{fs:List Frame}{s s':X7}{e:End}(h:Runs M Γ p t fs s e s'):s.toks<=s'.toks:=by
 induction h;all_goals first | exact XV _ | assumption | (rename_i ih;exact X5 (V9 _) ih) | (rename_i ih1 ih2;exact X5 ih1 ih2)
def zig {M:NX}{Γ:PySem.Ctx}{p:Pos}{g:Nat}{r:Resume}{s s':X7}{a:GenResult}(h:Wakes M Γ p g r s a s'):s.toks<=s'.toks:=by
 unfold Wakes at h;split at h
 .exact h.elim
 .split at h
  .obtain⟨_,_,h,_,_,rfl⟩:=h;have:=zbt h;exact this
  .obtain⟨_,rfl⟩:=h;exact XV _
  .obtain⟨_,rfl⟩:=h;exact XV _
 .obtain⟨_,_,h,_,_,rfl⟩:=h;have:=zbt h;exact this
 .obtain⟨_,rfl⟩:=h;exact XV _
 .obtain⟨_,rfl⟩:=h;exact XV _
def wp_toks {α:Type}{M:NX}{Γ:PySem.Ctx}(t:Sem α){Q:α->Pos->X7->Prop}{E:X9->Pos->X7->Prop}{p:Pos}{s:X7}(n:Nat)(b:n<=s.toks)(h:Sem.wp M Γ t Q E p s):Sem.wp M Γ t (λa c s'=>Q a c s'/\n<=s'.toks) (λe c s'=>E e c s'/\n<=s'.toks) p s:=by
 induction t generalizing p s;all_goals rw[Sem.wp]at h ⊢
 all_goals first | exact⟨h,b⟩ | exact h.elim | (rename_i ih;exact ih _ b h) | (rename_i ih;exact ih _ (Uz b) h) | (rename_i ih;exact⟨h.1,ih _ b h.2⟩) | (rename_i ih;obtain⟨x,h1,h2⟩:=h;exact⟨x,h1,ih _ b h2⟩) | (rename_i ih;obtain⟨r,s',h1,h2⟩:=h;exact⟨r,s',h1,ih _ (X5 b (zbt h1)) h2⟩) | (rename_i ih;obtain⟨r,s',h1,h2⟩:=h;exact⟨r,s',h1,ih _ (X5 b (zig h1)) h2⟩)
def up {α:Type}{M:NX}{A:WN}{t:Sem α}{Q:α->X7->Prop}{E:X9->X7->Prop}{s:X7}{n:Nat}(b:n<=s.toks)(h:Xv M A t (λa s'=>n<=s'.toks->Q a s') E s):Xv M A t Q E s:=by
 have h2:Xv M A t (λa s'=>(n<=s'.toks->Q a s')/\n<=s'.toks) (λe s'=>E e s'/\n<=s'.toks) s:=fun Γ p hΓ=>wp_toks t n b (h Γ p hΓ);exact Wj h2 (λ_ _ z=>z.1 z.2) λ_ _ z=>z.1
def zc7 {α:Type}{t:Sem α}{Q b:α->X7->Prop}{M:NX}{A:WN}{E:X9->X7->Prop}{s:X7}{n:Nat}(d:n<=s.toks)(h:Xv M A t Q E s)(c:∀a s,Q a s->n<=s.toks->b a s):Xv M A t b E s:=up d (thn h c)
def PEt (n:Nat)(X:Cx)(e:Expr)(t:TE):Prop :=
 ∀(b:List (Addr×Obj)) (s:X7) (a:St) (H:Hp) (Q:VK),Inv X b a H s->n<=s.toks->t a H Q->Xv (Xr X.prog X.w) X.A (eval e X.env) (EP X b a Q) X.xe s
def PAt (n:Nat)(X:Cx)(c:List Expr)(t:TA):Prop :=
 ∀(pos:Pos) (b:List (Addr×Obj)) (s:X7) (a:St) (H:Hp) (Q:AF->Hp->Prop),Inv X b a H s->n<=s.toks->t a H Q->Xv (Xr X.prog X.w) X.A (NW (TR pos (WG c X.env))) (AP X b a Q) X.xe s
def PSt (n:Nat)(X:Cx)(st:Stmt)(t:TS):Prop :=
 ∀(a:List (Addr×Obj)) (s:X7) (b:St) (H:Hp) (D:Ends),Inv X a b H s->n<=s.toks->t D b H->Xv (Xr X.prog X.w) X.A (exec st X.env) (SP X a D) X.xe s
def zc8 (n:Nat)(X:Cx)(st:List Stmt)(t:TS):Prop :=
 ∀(a:List (Addr×Obj)) (s:X7) (b:St) (H:Hp) (D:Ends),Inv X a b H s->n<=s.toks->t D b H->Xv (Xr X.prog X.w) X.A (execs st X.env) (SP X a D) X.xe s
section
variable {X:Cx}{n:Nat}{e:Expr}{te:TE}{st:Stmt}{rest:List Stmt}{t u:TS}{pos:Pos}
def PE.at_ (h:PE X e te):PEt n X e te:=λa s c H Q I _ b=>h a s c H Q I b
def PA.at_ {a:List Expr}{b:TA}(h:PA X a b):PAt n X a b:=λpos c s e H Q I _ d=>h pos c s e H Q I d
def PS.at_ (h:PS X st t):PSt n X st t:=λa s c H D I _ b=>h a s c H D I b
def PSs.at_ (h:PSs X rest t):zc8 n X rest t:=λa s c H D I _ b=>h a s c H D I b
theorem zc8.nox (h:zc8 n X.nox rest t):zc8 n X rest t:=λa s d H D I b c =>
 Wj (h a s d H D (I.wish _) b c) (λ_ _ q=>q.unwish) λ_ _ z=>Wi z
def qi (h1:PSt n X st t)(h2:zc8 n X rest u):zc8 n X (st::rest) (zrr t u):=by
 intro b s g H D I c h;refine Tp (zc7 c (h1 b s g H { D with nx:=u D } I c h) λf s1 q z=>?_);cases f with
 | next =>
  obtain⟨a,d,e,q⟩:=q;exact h2 b s1 a d D e z q
 | ret v=>exact q
 | brk=>exact q
 | cont=>exact q
def zgQ (h1:PSt n X st t):zc8 n X [st] t:=by
 intro a s c H D I b h;refine Tp (thn (h1 a s c H D I b h) λf s1 q=>?_);cases f with
 | next=>exact TZ q
 | ret v=>exact q
 | brk=>exact q
 | cont=>exact q
def zoa (he:PEt n X e te):PSt n X (.Return (some e) pos) (zrt te):=by
 intro d s a H D I f h;exact wpAny_Return_some (thn (he d s a H _ I f h) λv s1 ⟨x,b,c,i,g⟩=>⟨x,a,b,c,i,g⟩)
def zcu {i:Nat}{x:Str}{a:Pos}(g:X.N.Nodup)(k:X.N[i]?=some x)(o:Loc X.env.scope x)(he:PEt n X e te)(m:PM e (some (.Name x a)) pos.line X.env=pure false:=by rfl)(j:X.fn x=true\/X.env.scope.names.lookup x=some .local:=by first | exact .inl rfl | exact .inr rfl | assumption) :
  PSt n X (.Assign [.Name x a] e pos) (zpT te (zay i)):=by
 intro f s r H D I l h;refine wpAny_Assign_Name (thn (he f s r H _ I l h) λv s1 ⟨y,b,c,q,p⟩=>?_) m;exact zcH c g k o q (λu d=>⟨_,b,d,p⟩) j
def zgR {a:List Expr}{d:TA}(l:PEt n X e te)(m:PAt n X a d)(o:WG (e::a) X.env=(false,eval e X.env)::WG a X.env:=by rfl):PAt n X (e::a) (zpd te d):=by
 intro pos b s f H Q I c h;rw[o];show Xv _ _ (NW ((false,eval e X.env)::TR pos (WG a X.env))) _ _ s;refine UK (zc7 c (l b s f H _ I c h) λu s1 ⟨x,g,j,r,p⟩ z=>?_);exact thn (m pos b s1 f g _ j z p) λA y ⟨w,i,k,v,q⟩=>⟨x::w,i,k,.cons r v,q⟩
def zl6 {op:CmpOp}{r:R2}{a b:Expr}{e f:TE}(q:OpR X (V2 op) r)(l:PEt n X a e)(m:PE X b f)(o:R0 op b=false):PEt n X (.Compare a [op] [b] pos) (tOp r e f):=by
 intro c s d H Q I p h;exact wpAny_Compare1 (thn (l c s d H _ I p h) λv s1 ⟨x,g,j,A,w⟩=>thn (m c s1 d g _ j w) λu D ⟨y,i,k,B,z⟩=>q c D d i x y v u Q k A B z) o
end
structure Zn (n:Nat)(P:Xm)(w:W1)(K:XW)(mg:Str->Option X9)(base:Heap)(CX:CXT)(k:Nat)(f:Addr)(fd:XC)(ps:AE)(sp:Sp):Prop where
 len:∀vs H Q E,sp vs H Q E->vs.length=ps.length
 run:∀(A:WN) (outer:List Env) (s:X7) (H:Hp) (args:Args) (us:List X9) (vs:AF) (Q:VK) (E:XK),n<=s.toks->x9 k A->zlo P w K mg base A outer s H->Os s fd args (ps.zip us)->Vals vs us->sp vs H Q E ->
  Tu (Xr P w) A (.call (.ref f) args) (CR CX outer P w H s Q E) s
section
variable {X:Cx}{n k k0:Nat}{f:Addr}{fd:XC}{ps:AE}{sp:Sp}{x:Str}{st:Stmt}{p pos:Pos}{e:Expr}{es:List Expr}{t:TA}
def pct (F:Zn n X.prog X.w X.K X.mg X.base CX0 k f fd ps sp)(U:x9 k0 X.A)(D:zh X.K X.mg x st ps f fd)(N:PAt n X (e::es) t)(hk:k<=k0:=by decide)(O:Gl X x:=by rfl)
  (l:(x==("__debug__":Str))=false:=by decide) (he:WG (e::es) X.env=(false,eval e X.env)::WG es X.env:=by rfl) (m:(TR pos (WG es X.env)).any (·.1)=false:=by rfl) :
  PEt n X (.Call (.Name x p) (e::es) [] pos) (zgc sp [] E0 t):=by
 intro L s Y H Q I E h;refine UJ (QA I O D.g ?_ l);refine SS (h₀:=X.base) I.ok.mod.kin D.F.kp (zc7 E (N pos L s Y H _ I E h) λi s1 ⟨v,j,d,r,q⟩ z=>⟨d.kIn,?_⟩) he m;have G:sp v j Q E0:=by
  have J:sp (v++[]) j Q E0:=q;rw[Xa]at J;exact J
 have a:i.length=ps.length:=by rw[<- r.length];exact F.len _ _ _ _ G
 have B:=D.b s1 i d.kIn (by rw[Xa];exact a);rw[Xa]at B;refine N1 (Ts (F.run X.A X.stack s1 j ⟨i,[]⟩ i v _ _ z (U.mono hk) d.env0 B r G) λo s' c=>?_);cases o with
 | error y=>exact Wi c
 | ok M =>
  cases M with
  | ret u=>exact d.after c
  | next=>exact Wi c
  | brk=>exact Wi c
  | cont=>exact Wi c
def zsU (F:qA X.prog X.w X.K X.mg X.base CX0 k f fd ps sp)(o:x9 k0 X.A)(D:zh X.K X.mg x st ps f fd)(j:PAt n X (e::es) t)(hk:k<=k0:=by decide)(l:Gl X x:=by rfl)
  (a:(x==("__debug__":Str))=false:=by decide) (he:WG (e::es) X.env=(false,eval e X.env)::WG es X.env:=by rfl) (c:(TR pos (WG es X.env)).any (·.1)=false:=by rfl) :
  PEt n X (.Call (.Name x p) (e::es) [] pos) (zgc sp [] E0 t):=by
 intro i s u H Q I m h;refine UJ (QA I l D.g ?_ a);refine SS (h₀:=X.base) I.ok.mod.kin D.F.kp (thn (j pos i s u H _ I m h) λy s1 ⟨z,v,d,r,q⟩=>⟨d.kIn,?_⟩) he c;exact zlp F (o.mono hk) D.b .nil zi8 d r q
end
section
variable {X:Cx}{tg iter elt:Expr}{ifs:List Expr}{scope:UC}{pos:Pos}{N:AE}{src:List (Option Nat)}{cl:List (Str×Addr)}{wi:TI}{g:TG}{tc:TT}{te:TE}
def zl7 {n0:Nat}(ok:zW X N src scope cl)(G:X.calm=true)(hi:PI X tg iter wi)
  (hg:∀C fp l s H,PG (jb X N scope cl C fp l s H) tg g) (hc:∀C fp l s H,zdZ (jb X N scope cl C fp l s H) ifs tc) (he:∀C fp l s H,PEt n0 (jb X N scope cl C fp l s H) elt te)
  (hs:∀x,UZ iter X.env x=pure x:=by intro _;rfl):PEt n0 X (.ListComp elt [⟨tg,iter,ifs,0⟩] scope pos) (zer wi src g tc te):=by
 intro l s σ H Q I z0 h;rw[eval_ListComp];refine S8 (use:=none) rfl hs ok.clos ok.kind ok.names (zc7 z0 (hi l s σ H _ I h) λxv s1 h1 z1=>zc7 z1 h1 λau a h2 z2=>?_);revert h2;refine fD λit fp tn J D=>e8 λe I2 T ai Y q2=>?_;subst e;refine Wl (OF ok.nocell (by intro y hy;simp at hy) (λB q f=>?_) ok.kind);dsimp only at q f ⊢;generalize hP:a.heap.push { cls:=.type "list",dict:=none,data:=.seq ([]:List X9).toArray }=v at q f ⊢;have hC:v.objs.size=a.heap.objs.size+1:=by rw[<- hP,U5]
 have k:∀b u,a.heap.get? b=some u->B.get? b=some u:=λb u e=>by
  have lt:=XD e;exact(f.2 b (by rw[hC];exact Xl (Ww lt))).trans (X4 _ (hP ▸ X4 _ e))
 have hD:B.get? a.heap.objs.size=some { cls:=.type "list",data:=.seq #[] }:=(f.2 _ (by rw[hC];exact(Ve _).symm)).trans (X4 _ (hP ▸ Xs _ rfl));have ho:∀b∈fp,∃o,a.heap.get? b=some o:=λb j=>let ⟨o,e,_⟩:=T.obj 0 _ ai b j;⟨o,e⟩
 obtain⟨W,⟨m0,w0⟩,al⟩:=q2 a.heap.objs.size (I2.hok.fresh (XV _));have I0:=zcM (tk:=a.toks+([]:List (Str×X9)).length) ok I2 Y ho hC k hD q;have ah:tn 0 B:=T.keep 0 _ _ ai λb _ o e=>k b o e;have an:∀b∈fp,upd D a.heap.objs.size (.lst []) b=none:=λb j=>by
  obtain⟨o,e⟩:=ho b j;rw[zp (Xl (XD e))];exact(Y b j).1
 have L:∀{E:Hp},(∀b∈fp,E b=none)->∀b∈fp,QU (jb X N scope cl v.objs.size fp l a D) [] E b:=λ{E} hn b j=>by
  obtain⟨o,e⟩:=ho b j;have lt:=XD e;refine⟨hn b j,?_,λz=>(XH.mp (I2.stkSub b z)).elim (Y b j).2.1 (Y b j).2.2.1,.inl j,λx c z=>(Y b j).2.2.2.2.1 x c (ok.sub x c z),λp hp=>?_⟩
  .show b≠v.objs.size;rw[hC];exact Xl (Ww lt)
  .have aq:p∈X.pn++l:=by
    have:p∈(X.pn++l)++[]:=hp;simpa using this
   exact(Y b j).2.2.2.2.2 p aq
 have ac:∀M:X7,M={ a with heap:=B,toks:=a.toks+([]:List (Str×X9)).length } ->
   Tu (Xr X.prog X.w) X.A (.compLoop (.ListComp elt [⟨tg,iter,ifs,0⟩] scope pos) 0 (.ref it) (.ref a.heap.objs.size) (OU scope cl v.objs.size X.env))
    (compPost (Xr X.prog X.w) X.A X.xe none (EP X l σ Q) (.ref a.heap.objs.size) v.objs.size) M:=by
  rintro M rfl;refine codeAny_loop rfl (λn s'=>∃i O E,Inv (jb X N scope cl v.objs.size fp l a D) [] O E s'/\tn i s'.heap/\(∀b∈fp,E b=none)/\W i n O E/\n0<=s'.toks) ?_ m0 ⟨0,_,_,I0,ah,an,w0,X5 z2 (Uf _ _)⟩;refine λn s3=>eX λi aa H3 I3 aj af w3 z3=>?_;show Xv _ X.A ((compTurn (.ListComp elt [⟨tg,iter,ifs,0⟩] scope pos) 0 (.ref it) (.ref a.heap.objs.size) (OU scope cl v.objs.size X.env)).onRaise (λx=>do noteFrame x (OU scope cl v.objs.size X.env);theTreesLotGoes x)) _ _ s3;refine wpAny_noted ?_;rw[compTurn_list];rcases al i n aa H3 w3 with ⟨ak,qn⟩ | ⟨go,N',hN,step⟩
  .refine ZB (RY (ZB (thn (T.done (jb X N scope cl v.objs.size fp l a D) rfl rfl rfl G i [] s3 aa H3 _ I3 (L af) aj ak) λr s4 ⟨hr,I4⟩=>?_)));subst hr;refine X0 ?_;obtain⟨m,hm,_⟩:=I4.loc;refine⟨m,hm,λh' sb=>⟨.ref a.heap.objs.size,H3,?_,rfl,qn⟩⟩;have un:Un (frs X.stack) fp D H3 a.heap h':=Un.but I4.base (by show a.heap.objs.size<=v.objs.size;rw[hC];exact V9 _) sb;have ap:HOk X.prog X.w H3 h':=HOk.but I4.hok I4.free sb;exact I2.call' (s':={ s4 with heap:=h' }) (ch:=fp) I4.os un ap I4.bare λb j=>⟨(Y b j).2.2.2.1,(Y b j).2.1,(Y b j).2.2.2.2.1,(Y b j).2.2.2.2.2⟩
  .refine ZB (RY (ZB (zc7 z3 (T.item (jb X N scope cl v.objs.size fp l a D) rfl rfl rfl G i [] s3 aa H3 _ I3 (L af) aj go) λr s4 ⟨u,hr,h4⟩ z4=>?_)));subst hr;dsimp only;refine ZB (zc7 z4 h4 λ_ s5 ⟨x,H5,I5,r5,y5,ae,ao⟩ z5=>?_);have am:=I5.pinned (L ao) (T.obj _ _ ae);refine ZB (up z5 (Wj (hg v.objs.size fp l a D _ s5 aa H5 x u _ am r5 (step x H5 y5)) (λ_ s6 ⟨ab,H6,I6,q6⟩ z6=>?_) λ_ _ z=>Wi z));have OV:∀{s7:X7} {U:St} {H7:Hp},Inv (jb X N scope cl v.objs.size fp l a D) ([]++zbg fp s5.heap) U H7 s7->N' U H7->n0<=s7.toks->∃m,m<n/\∃i O E,Inv (jb X N scope cl v.objs.size fp l a D) [] O E s7/\tn i s7.heap/\(∀b∈fp,E b=none)/\W i m O E/\n0<=s7.toks:=λ{s7 U H7} I7 n7 z7=>by
    obtain⟨m',hm,w7⟩:=hN U H7 n7;refine dY m' hm (eE (i+1) U H7 I7.unpinned (T.keep _ _ _ ae λb j o e=>(I7.pin (b,o) (Xc _ (Xc _ (yU j e)))).1) (λb j=>?_) w7 z7);obtain⟨o,e,d⟩:=T.obj _ _ ae b j;exact(I7.pin (b,o) (Xc _ (Xc _ (yU j e)))).2.1
   refine ZB (up z6 (Wj (hc v.objs.size fp l a D _ s6 ab H6 _ I6 q6) (λb s7 ⟨H7,I7,q7⟩ z7=>?_) λ_ _ z=>Wi z));cases b with
   | false =>
    rw[bq XT]at q7;exact X0 ⟨rfl,OV I7 q7 z7⟩
   | true =>
    rw[bw rfl]at q7;refine ZB (ZB (up z7 (Wj (he v.objs.size fp l a D _ s7 ab H7 _ I7 z7 q7) (λy s8 ⟨v8,H8,I8,r8,ys,ar,ag,q8⟩ z8=>?_) λ_ _ z=>Wi z)));refine ZB (up z8 (Wj (zbj (X:=jb X N scope cl v.objs.size fp l a D) _ s8 ab H8 (.ref a.heap.objs.size) [v8] (.ref a.heap.objs.size) [y] (λ_ H9=>N' ab H9) I8 rfl (.cons r8 .nil) ⟨_,ys,v8,rfl,rfl,ar,ag,q8⟩) (λ_ s9 ⟨v9,H9,I9,_,q9⟩ z9=>?_) λ_ _ z=>Wi z));exact X0 (X0 ⟨rfl,OV I9 q9 z9⟩)
 exact Pg (ac _ rfl) (T.self _ 0 _ _ _ ah (ac _ rfl))
end
def zr4 (b:TE)(y z:Str):TE:=fun c H Q=>b c H λx a=>∃t:Str,x=.str t/\t.length<=1000000/\Q (.str (Ux t y z)) a
def zjr {X:Cx}{n0:Nat}{o:Expr}{B:TE}{g y z:Str}{l c b j:Pos}{i:Nat}{n:Tok}(M:X.mg g=some (.str y n))(h1:n≠0)(h2:n<n0)(N:PEt n0 X o B)(v:(y==z)=false:=by decide+kernel)(U:z.length<=14:=by decide+kernel)(L:Gl X g:=by rfl)(r:(g==("__debug__":Str))=false:=by decide)
  (d:RZ o "replace" X.env (eval o X.env)=eval o X.env:=by rfl)
  (m:((TR b (WG [.Name g l,.Constant (.str z) i j] X.env)).all (λx=>!x.1)&&(backToKw b (NH [] X.env)).all (λx=>x.1.isSome)
   && decide (([.Name g l,.Constant (.str z) i j]:List Expr).length+([]:List Oq).length+(if ([]:List Oq).isEmpty then 0 else 1)<30))=true:=by rfl)
  (f:(c.endLine==b.line)=true:=by rfl) :
  PEt n0 X (.Call (.Attribute o "replace" c) [.Name g l,.Constant (.str z) i j] [] b) (zr4 B y z):=by
 intro E s σ H Q I A h;refine Ph d m f rfl (zc7 A (N E s σ H _ I A h) λu s1 ⟨x,D,w,r1,Y⟩ p=>?_);obtain⟨t,rfl,ht,q⟩:=Y;obtain⟨tk,rfl⟩:=r1;refine dF "str" "str.replace" (dG F.plainAttrs_str F.slot_str_replace F.type_str_replace (typeIs_str _ _ _) (λa e=>by cases e) ?_);have O:WG [.Name g l,.Constant (.str z) i j] X.env=[(false,eval (.Name g l) X.env),(false,eval (.Constant (.str z) i j) X.env)]:=rfl;rw[O];refine T3 rfl (RN ?_);show Xv _ _ (NW ((false,eval (.Name g l) X.env)::TR b [(false,eval (.Constant (.str z) i j) X.env)])) _ _ s1;refine UK (QA w L M ?_ r);show Xv _ _ (NW ((false,eval (.Constant (.str z) i j) X.env)::TR b [])) _ _ _;refine UK (Calls.Constant_str ?_);refine Qr ?_;have G:s1.toks≠0:=λe=>by rw[e]at p;exact TW _ (Xd h2 p)
 have J:n≠s1.toks:=λe=>by rw[<- e]at p;exact VA _ (Xd h2 p)
 exact PySem.SC.replaceW h1 G J v (by lia) U λt' k=>⟨.str _,D,w.tok k,⟨_,rfl⟩,q⟩
def zl8 {n0:Nat}{CX:CXT}{P:Xm}{w:W1}{K:XW}{M:Str->Option X9}{h:Heap}{k:Nat}{f:Addr}{name d:Str}{i:NJ}{j:List Stmt}{a:UC}{dV kV doc pm g ct oc:X9}{an od:Option Addr}
  {aa:Array (Option X9)} {N ps:AE} {sp:Sp} (lk:K.lookup f=some ⟨oc,od,.func (VY name d i j a dV kV doc pm an g ct),aa⟩) (O:U7 K g d=true) (S:zE N ps a)
  (len:∀vs H Q E,sp vs H Q E->vs.length=ps.length)
  (p:∀(A:WN) (c:List Env) (s:X7) (H:Hp) (vs:AF) (Q:VK) (E:XK),x9 k (A.deeper (Rx d a s.heap.objs.size f g))->sp vs H Q E ->
   ∃t,zc8 n0 (zcK CX P w K M h N d a f g A c s H E) j t/\t { nx:=λ_ m=>Q .non m,rt:=Q } (start N vs) H) :
  Zn n0 P w K M h CX (k+1) f (VY name d i j a dV kV doc pm an g ct) ps sp:=by
 refine⟨len,λA c s H ab us vs Q E z0 U D hb r L=>?_⟩;have hl:=len _ _ _ _ L;have KX:K.In s.heap:=D.mod.kin.keeps λb o e=>(D.bs b o e).1;have Y:s.heap.NoLimit:=D.mod.nolimit.keeps λb o e=>(D.bs b o e).1;have z:∀y∈ps.zip us,a.names.lookup y.1=some .local\/(a.names.lookup y.1=some .cell/\((R7 (s.heap.objs.size+1) a.names []).lookup y.1).isSome=true):=λ⟨n,v⟩ hy=>by
  rcases S.par n (RK hy).1 with q | q
  .exact .inl q
  .exact .inr ⟨q,T5 _ _ _ (.inl q)⟩
 refine O3 U.depth (KX _ _ lk) rfl S.co S.gen rfl (PySem.W.codeRec_of KX O) (hb _ _ _ _ ?_);refine up z0 (Rl S.kind z λac he s1 x z1=>?_);subst he;refine⟨Y.keeps x.toInCall.keep,codeAny_func ?_⟩;obtain⟨t,ht,hq⟩:=p A c s H vs Q E (U.deeper _) L;have I:Inv (zcK CX P w K M h N d a f g A c s H E) [] (start N vs) H s1:=zep S U.hd D hl r x;refine Wj (ht [] s1 (start N vs) H _ I z1 hq) (λfl s' B=>?_) λe s' B=>B;have G:∀{l:St} {m:Hp} {v:V} {u:X9},Inv (zcK CX P w K M h N d a f g A c s H E) [] l m s'->RelV v u->Q v m->CE c P w H s Q u s' :=
  λ{l m v u} J rv q=>⟨v,m,J.os,J.bare,J.base,J.hok,rv,q⟩
 cases fl with
 | ret u =>
  obtain⟨v,l,m,J,rv,q⟩:=B;exact G J rv q
 | next =>
  obtain⟨l,m,J,q⟩:=B;exact G (v:=V.non) (u:=Vw) J rfl q
 | brk =>
  obtain⟨_,_,_,q⟩:=B;exact Wi q
 | cont =>
  obtain⟨_,_,_,q⟩:=B;exact Wi q
def zkB {n0:Nat}{P:Xm}{w:W1}{K:XW}{N mb:Str->Option X9}{CX:CXT}{k:Nat}{fa a:Addr}{fd:XC}{x:Str}{sp:Sp}{c:X7}{vs:List X9}{O:List Int}
  (z0:n0<=c.toks) (KX:K.In c.heap) (I:c.heap.Ns XR N) (g:c.heap.Ns Rw mb) (ab:∀x:Str,x ≠ "__name__"->mb x=SD x) (G:c.heap.NoLimit) (hg:c.gens=#[])
  (U:c.heap.get? a=some { cls:=.type "list",data:=.seq vs.toArray }) (hi:Q1 vs O) (hl:O.length<=Xq) (hr:x9 k SF)
  (F:∀i:Heap,K.In i->i.Ns XR N->Zn n0 P w K N i CX k fa fd [x] sp) (y:∀(s:X7) (u:X9),Os s fd ⟨[u],[]⟩ [(x,u)])
  (ac:∀H:Hp,zp5 H->SqL K H a (O.map V.int)->sp [.ref a] H (λv _=>v=.bl true) λ_ _ _=>False)
  (aa:∀H e j,CX [] H c (λ_ _ _=>False) e j->False) :
  Tu (Xr P w) SF (.call (.ref fa) ⟨[.ref a],[]⟩) (λr j=>r=.ok (.ret (.bool true))/\OldK c.heap j.heap/\j.os=c.os/\Ra j.gens) c:=by
 have rv:=zeq hi;have M:=hi.length;have p:∀H:Hp,zp5 H->SqL K H a (O.map V.int)->HOk P w H c.heap->(∀b,H b≠none->b=a)->(H a≠none->K.lookup a=none) ->
   Tu (Xr P w) SF (.call (.ref fa) ⟨[.ref a],[]⟩) (λr j=>r=.ok (.ret (.bool true))/\OldK c.heap j.heap/\j.os=c.os/\Ra j.gens) c:=by
  intro H hO hS J hA hK;have f:∀{b:Addr} {o:Obj},c.heap.get? b=some o->H b=none->(QT c.heap H).get? b=some o:=λe n=>zlg e n;have ae:∀{b:Addr} {o:Obj} {D:Array SL} {B:Nat},c.heap.get? b=some o->o.data=.dict D B->H b=none:=λ{b o D B} e d=>by
   cases q:H b with
   | none=>rfl
   | some u =>
    have Y:b=a:=hA b (by rw[q];simp);subst Y;rw[U]at e;cases e;have d':Data.seq vs.toArray _=Data.dict D B:=d;cases d'
  have l:∀{b:Addr} {m:Str->Option X9},c.heap.Ns b m->(QT c.heap H).Ns b m:=λ{b m} ⟨o,D,B,e,d,r⟩=>⟨o,D,B,f e (ae e d),d,r⟩;have E:K.In (QT c.heap H):=λb o e=>f (KX b o e) (by
   cases q:H b with
   | none=>rfl
   | some u =>
    have Y:b=a:=hA b (by rw[q];simp);subst Y;rw[hK (by rw[q];simp)]at e;cases e)
  have hM:Mod K N (QT c.heap H):=⟨E,l I,⟨mb,l g,ab⟩,let ⟨mc,h1,h2⟩:=G;⟨mc,l h1,h2⟩⟩;have e0:zlo P w K N (QT c.heap H) SF [] c H:=⟨rfl,hM,λb o e=>znG e,NP (zj0 _ _),trivial,λb g=>absurd (show b∈([]:List Addr) from g) (by simp),J,.of_eq hg⟩;refine Ts ((F _ E (l I)).run SF [] c H ⟨[.ref a],[]⟩ [.ref a] [.ref a] _ _ z0 hr e0 (y c (.ref a)) (.cons rfl .nil) (ac H hO hS)) λr j h=>?_;cases r with
  | error e=>exact(aa H e j h).elim
  | ok fl =>
   cases fl with
   | next=>exact Wi h
   | brk=>exact Wi h
   | cont=>exact Wi h
   | ret u =>
    obtain⟨v,H',os,A,un,L,r',q⟩:=h;have q':v=.bl true:=q;subst q';obtain rfl:u=N2 true:=r';refine⟨rfl,OldK.of_keep λb o e=>?_,os,A⟩;cases q:H b with
    | none=>exact un.keep b o e q (by intro z;exact absurd (show b∈([]:List Addr) from z) (by simp)) (by simp)
    | some u =>
     rcases hO b with z | ⟨ob,xs,z⟩
     .rw[q]at z;cases z
     .have z2:=un.frzs b ob _ z;obtain⟨e1,_⟩:=J b _ z;obtain⟨e2,_⟩:=L b _ z2;rw[e]at e1;cases e1;exact e2
 cases hk:K.lookup a with
 | some o =>
  have e:=KX a o hk;rw[U]at e;cases e;refine p (λ_=>none) (λ_=>.inl rfl) (.inr ⟨_,vs.toArray,_,hk,rfl,rfl,rfl,by rw[Xy,M];exact hl,by simpa using rv⟩) (λb u z=>by have Q:(none:Option HO)=some u:=z;cases Q) (λb z=>absurd rfl z) λz=>absurd rfl z
 | none =>
  refine p (λb=>if b=a then some (.frz { cls:=.type "list",data:=.seq vs.toArray } (.lst (O.map V.int))) else none) (λb=>?_) (.inl (.inr ⟨{ cls:=.type "list",data:=.seq vs.toArray },bw rfl⟩)) (λb u z=>?_) (λb z=>?_) λ_=>hk
  .by_cases g:b=a
   .exact .inr ⟨_,_,bw g⟩
   .exact .inl (bq g)
  .by_cases g:b=a
   .have Q:=(bw g).symm.trans z;cases Q;subst g;exact⟨U,by rw[Y1];exact hl,vs,_,rv,U⟩
   .have Q:=(bq g).symm.trans z;cases Q
  .by_cases g:b=a
   .exact g
   .exact absurd (bq g) z
open PySem PySem.W PySem.Calls Att PyProof.Rows
abbrev zcG (n0:Nat)(q:Xm)(loose:AE)(XP:(Str->Option X9)->Heap->Prop)(YP:W1->Heap->Prop)(r:RowW)(d:N3)(kwd:List (Str×Expr))(run:X9->List X9->Sem X9):Prop :=
 ∀(w:W1) (s₀ s₁:X7) (mg mb:Str->Option X9),NN q loose r.records XP w s₀ mg mb s₁.heap->YP w s₁.heap->n0<=s₁.toks->∀(a:Addr) (o:Obj) (pm cd doc dV kV:X9),s₁.heap.get? a=some o ->
  o.data=.func { docDef d.name d.params d.body d.scope pm cd doc with defaults:=dV,kwdefaults:=kV }->s₁.heap.CodeRec cd d.name->Dflts mg s₁.heap d.params kwd dV kV->mg d.name=some (.ref a)->s₁.gens=#[] ->
  ∀(args:List WData) (vals:List X9) (as:List Addr),r.claim.pre args=true->PK args=true->ReadsAllW r.records (Ps s₀.heap) s₁.heap vals args as->WellAll w.params s₁.heap vals args->(∀a∈as,(a==VE)=false) ->
   Xv (Xr r.prog w) SF (run (.ref a) vals) (λv s'=>NB r.claim (Ps s₀.heap) (Tb s₀.heap) args s₁ (.ok (.ret v)) s')
    (λe s'=>NB r.claim (Ps s₀.heap) (Tb s₀.heap) args s₁ (.error e) s') s₁
def zfA {n0:Nat}{l:OpenLaw}{n:Nat}{q:Xm}{loose:AE}{XP:(Str->Option X9)->Heap->Prop}{YP:W1->Heap->Prop}{d:N3}
  (hn:l.most=some n) (v:d.params.defaults=[])
  (call:∀(w:W1) (c b:X7) (m A:Str->Option X9) (g:Addr) (o:Obj) (B k doc:X9) (a:Addr) (vs:List X9) (p:List Int),
   NN q loose [] XP w c m A b.heap->YP w b.heap->n0<=b.toks ->
   b.heap.get? g=some o->o.data=.func (docDef d.name d.params d.body d.scope B k doc)->b.heap.CodeRec k d.name->m d.name=some (.ref g) ->
   b.heap.get? a=some { cls:=.type "list",data:=.seq vs.toArray }->Q1 vs p->p.length<=n->b.gens=#[] ->
   Tu (Xr l.prog w) SF (.call (.ref g) ⟨[.ref a],[]⟩) (λr s=>r=.ok (.ret (.bool true))/\OldK b.heap s.heap/\s.os=b.os/\Ra s.gens) b) :
  zcG n0 q loose XP YP l.row.toRowW d [] (λf vs=>PySem.call f vs):=by
 intro w c b m A G Y z g o B k doc J kV ho N u E x O D I as j H aa y Q;obtain rfl:J=.none:=Dflts.none E v;obtain rfl:kV=.none:=Dflts.noKw E;refine eX (λa vs p z0 z1 i e h=>?_) (zj7 hn j y);subst z0 z1;refine enter_call (Ts (call w c b m A g o B k doc a vs p G Y z ho (fd_plain N) u x i e h O) λr s hq=>?_);obtain⟨rfl,h2,L,M⟩:=hq;exact⟨.inl ⟨.bool true,.bool true,[],rfl,λ_=>rfl,.bool true,zj8 l _,λ_=>⟨List.Pairwise.nil,λ_ U=>(nomatch U)⟩⟩,h2,L,M⟩
def zl9 {n0:Nat}{l:O6}{n k:Nat}{q:Xm}{loose:AE}{XP:(Str->Option X9)->Heap->Prop}{YP:W1->Heap->Prop}{d:N3}{K:NM->XW}{CX:W1->CXT}{sp:W1->Sp}{x:Str}
  (hn:l.most=some n) (J:n<=Xq) (E:d.params.defaults=[]) (hr:x9 k SF)
  (hY:∀(w:W1) (h:Heap),YP w h->(K w.params).In h)
  (F:∀(w:W1) (m:Str->Option X9) (y:Addr) (h:Heap),(K w.params).In h->h.Ns XR m->m d.name=some (.ref y) ->
   ∃B:XC,(∀(s:X7) (u:X9),Os s B ⟨[u],[]⟩ [(x,u)]) /\
    ∀c:Heap,(K w.params).In c->c.Ns XR m->Zn n0 l.prog w (K w.params) m c (CX w) k y B [x] (sp w))
  (L:∀(w:W1) (H:Hp) (a:Addr) (A:List Int),A.length<=n->zp5 H->SqL (K w.params) H a (A.map V.int)->sp w [.ref a] H (λv _=>v=.bl true) λ_ _ _=>False)
  (D:∀(w:W1) (H:Hp) (s:X7) (e:X9) (s':X7),CX w [] H s (λ_ _ _=>False) e s'->False) :
  zcG n0 q loose XP YP l.row.toRowW d [] (λf vs=>PySem.call f vs):=by
 refine zfA hn E λw N r m mb y o pm cd doc a vs A G Y z ho hd aa I p j i hg=>?_;have M:=hY w _ Y;obtain⟨B,hb,O⟩:=F w m y _ M G.T.g I;exact zkB z M G.T.g G.T.b G.T.builtins G.T.nolimit hg p j (X5 i J) hr O hb (λH Q U=>L w H a A i Q U) λH e s'=>D w H r e s'
def Fun.okT {n0:Nat}{P:Xm}{w:W1}{K:XW}{l:Str->Option X9}{d:Heap}{x b:Str}{st:Stmt}{f:Addr}{j:XC}{N ps:AE}{k:Nat}{sp:Sp}(F:Fun K x b st f j)(S:zE N ps (zf st))(len:∀vs H Q E,sp vs H Q E->vs.length=ps.length)
  (e:∀(c:X9) (A:WN) (a:List Env) (s:X7) (H:Hp) (vs:AF) (Q:VK) (E:XK),x9 k (A.deeper (Rx b (zf st) s.heap.objs.size f c))->sp vs H Q E ->
   ∃t,zc8 n0 (zcK CX0 P w K l d N b (zf st) f c A a s H E).nox (jt st) t/\t { nx:=λ_ m=>Q .non m,rt:=Q } (start N vs) H):Zn n0 P w K l d CX0 (k+1) f j ps sp:=by
 refine fj (λv y kV doc z r c u=>fk λp=>eV λz0 o g=>?_) F.ex;subst z0;refine zl8 o g S len λA a s H vs Q E n i=>?_;obtain⟨t,h,q⟩:=e c A a s H vs Q E n i;exact⟨t,h.nox,q⟩
section
variable {X:Cx}
def zkC (p:X.A.handled=none):jr X (.builtin "max") (λxs H Q=>∃(l:Addr) (c:List Int),xs=[.ref l]/\SqL X.K H l (c.map V.int)/\c ≠ []/\∀m∈c,(∀x∈c,x<=m)->Q (.int m) H):=by
 intro J s O H xs N Q I r h;obtain⟨l,c,rfl,y,g,q⟩:=h;obtain⟨u,rfl,D⟩:=vals1 r;cases D;obtain⟨e,E,B,M⟩:=I.list y;have o:Q1 e c:=zaF E;obtain⟨d,k⟩:=o.allInts.items;have f:c=d.toList.map (·.1):=by
  rw[<- Ob,<- k];exact(show numsOf e.toArray.toList=c from o.numsOf).symm
 have i:0<d.size:=by
  have:c.length=d.size:=by rw[f,Y1,X6]
  cases c with
  | nil=>exact absurd rfl g
  | cons a b=>rw[Xx]at this;lia
 refine max_intList p (xs:=d) (k ▸ B.isList) i λv L G z hk=>?_;obtain⟨t,rfl⟩:=intItems_at z;obtain⟨h1,h2⟩:=argBest_gt (numAt d) (d.size-1);refine⟨.int _,H,I.kept (t':=G) hk,⟨_,rfl⟩,q _ ?_ λa n=>?_⟩
 .rw[f,Nx];exact getD_mem (by rw[Y1,X6];lia)
 .rw[f]at n;obtain⟨j,w,rfl⟩:=mem_getD n;rw[Y1,X6]at w;rw[<- Nx];exact h2 j (by lia)
end
def zbW (v d:Addr):HO:=.ext λh=>h.IsValuesView v d
def zkD {X:Cx}{pos:Pos}{n:Nat}{c:Expr}{e:List Stmt}{U:TT}{Q:TS}(L:PassesOwn (Xr X.prog X.w) X.A X.env X.xe)(hc:PT X c U)(hb:zc8 n X e Q):PSt n X (.While c e [] pos) (zll U Q):=by
 intro q s σ H D I hn h;obtain⟨W,⟨m0,w0⟩,j⟩:=h;refine wpAny_While (codeAny_whileLoop (λk O=>∃ l z,Inv X q l z O/\n<=O.toks/\W k l z) ?_ m0 ⟨σ,H,I,hn,w0⟩);refine λk s1=>fh λd B Y n1 w1=>?_;refine Vh L (zc7 n1 (hc q s1 d B _ Y (j k d B w1)) λb s2 ⟨E,G,m⟩ M=>?_);cases b with
 | true =>
  obtain⟨N,J,m⟩:=m;rw[bw rfl];refine Vh L (zc7 M (hb q s2 d E _ G M m) λf s3 o i=>?_);cases f with
  | next =>
   obtain⟨a,g,p,x⟩:=o;obtain⟨u,r,y⟩:=J a g x;exact⟨u,r,a,g,p,i,y⟩
  | cont =>
   obtain⟨a,g,p,x⟩:=o;obtain⟨u,r,y⟩:=J a g x;exact⟨u,r,a,g,p,i,y⟩
  | brk=>exact o
  | ret v=>exact o
 | false =>
  rw[bq XT];exact TZ ⟨d,E,G,m⟩
structure zqw (K:XW)(x:Str)(st:Stmt)(f:Addr)(fd:XC):Prop where
 ex:∃(oc dv:X9) (od:Option Addr) (kV doc pm:X9) (an:Option Addr) (cdv ct:X9) (osl:Array (Option X9)),fd=VY x x (j5 st) (jt st) (zf st) dv kV doc pm an cdv ct/\K.lookup f=some ⟨oc,od,.func fd,osl⟩/\U7 K cdv x=true
 kp:U6 K (.ref f)=true
structure zbu (K:XW)(mg:Str->Option X9)(x:Str)(st:Stmt)(ps:AE)(v:Str)(f:Addr)(fd:XC):Prop where
 F:zqw K x st f fd
 g:mg x=some (.ref f)
 b:Binds K fd ps []
 b1:∃t:Tok,Binds K fd ps [.str v t]
def zcv (K:XW)(x:Str)(st:Stmt)(v:Str):Prop:=∃(f c:Addr) (h:X9) (i d:Option Addr) (k:Array (Option X9)) (kV g j a e:X9) (b:Obj) (n:Nat) (t:Tok),XE K XR x=some (some (.ref f)) /\
 K.lookup f=some ⟨h,i,.func (VY x x (j5 st) (jt st) (zf st) (.ref c) kV g j d a e),k⟩/\U7 K a x=true/\U6 K (.ref f)=true/\K.lookup c=some b/\b.data=.seq #[.str v t] n
theorem zcv.at {K:XW}{h:Heap}{u:Str->Option X9}{x v:Str}{st:Stmt}{ps:AE}(H:zcv K x st v)(X:K.In h)(G:h.Ns XR u)
  (y:∀(d:Addr) (kV doc j:X9) (e:Option Addr) (g i:X9) (t:Tok) (b:List X9),b.length=ps.length->∃k:Option (Array X9)->Sem (List (Str×X9)),NU (VY x x (j5 st) (jt st) (zf st) (.ref d) kV doc j e g i) ⟨b,[]⟩=(seqItems? (.ref d) >>= k)/\k (some #[.str v t])=pure (ps.zip b))
  (q:∀(d:Addr) (kV doc j:X9) (e:Option Addr) (g i:X9) (t:Tok) (b:List X9),b.length+1=ps.length->∃k:Option (Array X9)->Sem (List (Str×X9)),NU (VY x x (j5 st) (jt st) (zf st) (.ref d) kV doc j e g i) ⟨b,[]⟩=(seqItems? (.ref d) >>= k)/\k (some #[.str v t])=pure (ps.zip (b++[.str v t]))) :
  ∃f w,zbu K u x st ps v f w:=by
 revert H;refine fj λf d z A e B kV p=>eW λj o i D=>fq λn t=>e8 λa l c k lt r=>?_;refine⟨f,_,⟨(dO z (dM A kV p j (dM e o i B (dD rfl l c)))),k⟩,Wb X G a,λs b Y m=>?_,t,λs b Y m=>?_⟩
 .rw[Xa]at m ⊢;obtain⟨k,h1,h2⟩:=y d kV p j e o i t b m;exact Og rfl (Y _ _ lt) r h1 h2
 .rw[XU]at m;obtain⟨k,h1,h2⟩:=q d kV p j e o i t b m;exact Og rfl (Y _ _ lt) r h1 h2
def zbu.bd {K:XW}{d:Str->Option X9}{x:Str}{st:Stmt}{ps:AE}{v:Str}{f:Addr}{c:XC}(D:zbu K d x st ps v f c):∃a,Vals [.str v] a/\Binds K c ps a :=
 let ⟨t,b⟩:=D.b1
 ⟨_,.cons ⟨t,rfl⟩ .nil,b⟩
section
variable {prog:Xm}{w:W1}{A:WN}{E:X9->X7->Prop}{s:X7}{d it:Addr}{od:Obj}{es:Array SL}{ep i:Nat}
def zob {e:SL}{Q:Option X9->X7->Prop}(a:s.heap.IsValIter it d i es.size ep)(f:s.heap.get? d=some od)(c:od.data=.dict es ep)(m:es[i]?=some e)
  (k:∀h',h'.IsValIter it d (i+1) es.size ep->V8 it s.heap h'->Q (some e.val) { s with heap:=h' }):Xv (Xr prog w) A (SW (.ref it)) Q E s:=by
 obtain⟨o,j,l,h⟩:=id a;unfold SW;refine ZB (Ta (Uc (name:=Pn "__next__") a.typeIs VB (VH VB a.typeIs Tj ?_ (Tv _))));refine ZB (X0 (ZB (ZB ?_)));first | refine ZB (U1 a.typeIs (X0 ?_)) | refine ZB (Uq a.typeIs (X0 ?_))
 refine ZB (Rt j h ?_);have g:TU "dict_valueiterator"=false:=by decide
 simp only[g,WJ,if_false];show Xv _ _ (if (WO d==Vw)=true then _ else _) _ _ s;rw[bq (show ¬ ((WO d==Vw)=true) from XT)];refine ZB (X0 (ZB (Vr f c ?_)));rw[bq (by simp)];refine ZB (X0 (ZB (SX f c ?_)));rw[bq (by simp)];refine X0 ?_;simp only[show ¬ ((i:Int)<0) from by lia,if_false,VQ,m];refine ZB ?_;first | refine ZB (U1 a.typeIs (X0 ?_)) | refine ZB (Uq a.typeIs (X0 ?_))
 refine ZB (Sd a.typeIs ?_);show Xv _ _ (setField (.ref it) 1 (US ((i:Int)+1)) >>= _) _ _ s;refine ZB (Sx j h (by simp) ?_);have b:(s.heap.update it (Us (·.setIfInBounds 1 (US ((i:Int)+1))))).IsValIter it d (i+1) es.size ep :=
  ⟨_,Wr _ j (Obj.isFreed_of_fields (Obj.data_mapFields h _)),(Obj.cls_mapFields ..).trans l,by rw[Obj.data_mapFields h];simp[US]⟩
 refine ZB (VS ?_);refine ZB (Sd (s:={ s with heap:=s.heap.update it (Us (·.setIfInBounds 1 (US ((i:Int)+1)))) }) b.typeIs ?_);refine ZB (Sd (s:={ s with heap:=s.heap.update it (Us (·.setIfInBounds 1 (US ((i:Int)+1)))) }) b.typeIs ?_);show Xv _ _ (pure e.val) _ _ _;exact X0 (X0 ⟨_,rfl,X0 (k _ b (WB ..))⟩)
def zqx {Q:Option X9->X7->Prop}(n:A.handled=none)(c:s.heap.IsValIter it d i es.size ep)(f:s.heap.get? d=some od)(e:od.data=.dict es ep)(h:es.size<=i)
  (l:∀h',Heap.ExtBut it s.heap h'->Q none { s with heap:=h' }):Xv (Xr prog w) A (SW (.ref it)) Q E s:=by
 obtain⟨o,k,p,j⟩:=id c;unfold SW;refine ZB (Ta (Uc (name:=Pn "__next__") c.typeIs VB (VH VB c.typeIs Tj ?_ (Tv _))));refine ZB (X0 (ZB (ZB ?_)));first | refine ZB (U1 c.typeIs (X0 ?_)) | refine ZB (Uq c.typeIs (X0 ?_))
 refine ZB (Rt k j ?_);have g:TU "dict_valueiterator"=false:=by decide
 simp only[g,WJ,if_false];show Xv _ _ (if (WO d==Vw)=true then _ else _) _ _ s;rw[bq (show ¬ ((WO d==Vw)=true) from XT)];refine ZB (X0 (ZB (Vr f e ?_)));rw[bq (by simp)];refine ZB (X0 (ZB (SX f e ?_)));rw[bq (by simp)];refine X0 ?_;simp only[show ¬ ((i:Int)<0) from by lia,if_false,VQ,WS h];refine ZB ?_;first | refine ZB (U1 c.typeIs (X0 ?_)) | refine ZB (Uq c.typeIs (X0 ?_))
 show Xv _ _ (setField (.ref it) 0 .none >>= _) _ _ s;refine ZB (Sx k j (by simp) ?_);show Xv _ _ (newExc (.type "StopIteration") [] >>= _) _ _ _;refine ZB ?_;simp only[newExc,newTuple];refine ZB (Wl ?_ (by size_fits));refine ZB (m:=Tz _ _) (OQ (a:=Vw) (by first | rfl | (simp only[Tz];rfl)) ?_);refine Wl ?_ (by size_fits);simp only[raiseNew];refine ZB (N9 ?_);rw[show A.in1.handled=none from n];refine ZB (X0 (NG ?_));refine ZB (R3 (T:="StopIteration") (b:=true) ⟨_,Xs _ rfl,rfl⟩ isSubtype_stop ?_);exact X0 (l _ (((WB ..).extBut.push _).push _))
end
section
variable {prog:Xm}{w:W1}{A:WN}{d r it:Addr}{od:Obj}{es:Array SL}{ep:Nat}
def zma (hh:A.handled=none)(hne:it≠d)(hdd:od.data=.dict es ep):Walks prog w A it [it,d] [it] es.size (λi v=>∃e,es[i]?=some e/\v=e.val) (λi h=>h.IsValIter it d i es.size ep/\h.get? d=some od) where
 sub:=λb hb=>by
  rw[Wh.mp hb];exact XX
 frame:=λi h h' ⟨⟨o,e,x⟩,h2⟩ k=>⟨⟨o,k it XX o e,x⟩,k d (XY _ XX) _ h2⟩
 item:=λi s Q E hi ⟨h1,h2⟩ q=>by
  obtain⟨e,he⟩:∃e,es[i]?=some e:=⟨_,V1 hi⟩;exact zob h1 h2 hdd he λh' st' sb=>q e.val h' s.toks ⟨e,he,rfl⟩ ⟨st',(sb.2 d (UQ hne)).trans h2⟩ λb o hb e2=>(sb.2 b λz=>hb (z ▸ Wh.mpr rfl)).trans e2
 done:=λs Q E ⟨h1,h2⟩ q=>zqx hh h1 h2 hdd (XV _) λh' eb=>q h' s.toks λb o hb e2=>eb b o (λz=>hb (z ▸ Wh.mpr rfl)) e2
 self:=λi s Q E ⟨h1,_⟩ hq=>wpAny_pyIter_valiter h1 hq
def zoc {E:X9->X7->Prop}{s:X7}{Q:X9->X7->Prop}(g:s.heap.IsValuesView r d)(b:s.heap.get? d=some od)(a:od.data=.dict es ep)
  (h:Q (.ref s.heap.objs.size) { s with heap:=s.heap.push { cls:=.type "dict_valueiterator",data:=.fields #[.ref d,.int 0 0,.int es.size 0,.int ep 0] } }):Xv (Xr prog w) A (NL (.ref r)) Q E s:=by
 obtain⟨j,f,i,e⟩:=id g;refine P8 g.typeIs RM (VH RM g.typeIs PySem.F.entry_dict_values_iter ?_ (PySem.F.args_dict_values_iter_1 _));unfold UG.«dict_values.__iter__»;refine ZB (X0 (ZB ?_));unfold Builtin.Dict_items.dictOf;refine ZB (wpAny_field f e (x:=.ref d) rfl (X0 (ZB ?_)));unfold Builtin.Dict_items.newIterator;refine ZB (Vr b a (ZB (SX b a ?_)));have c:TU "dict_valueiterator"=false:=by decide
 simp only[c,WJ,if_false];refine Wl (X0 ⟨_,rfl,"dict_valueiterator",_,⟨_,Xs _ rfl,rfl⟩,PySem.F.slot_dict_valueiterator_next.lookup,?_⟩);simpa[US] using h
def zmb (hdd:od.data=.dict es ep):KdlSrc prog w "dict_values" r d es.size (λi v=>∃e,es[i]?=some e/\v=e.val) (λh=>h.IsValuesView r d/\h.get? d=some od) where
 type:=λ_ hm=>hm.1.typeIs
 there:=λ_ hm=>⟨let ⟨_,ho,_⟩:=hm.1;XD ho,XD hm.2⟩
 keep:=λ_ _ hm hk=>⟨let ⟨o,ho,x⟩:=hm.1;⟨o,hk r (.inl rfl) o ho,x⟩,hk d (.inr rfl) _ hm.2⟩
 notList:=by decide
 notTuple:=by decide
 hint:=λ_ _ _ _ hm hq=>kdl_hint_values hm.1.typeIs hq
 iter:=λ_ _ hh hm=>⟨_,_,(λ_ _ hq=>zoc hm.1 hm.2 hdd hq),zma hh (Va (XD hm.2)) hdd,⟨⟨_,Xs _ rfl,rfl,rfl⟩,X4 _ hm.2⟩⟩
end
section
variable {X:Cx}
def zeH:MtM X "dict.values" (λx vs H Q=>∃d a,x=.ref d/\vs=[]/\H d=some (.dT a)/\∀v,H v=none->Q (.ref v) (upd H v (zbW v d))):=by
 intro E s σ H x vs v U Q I D B h;obtain⟨d,a,rfl,rfl,i,q⟩:=h;cases D;cases B;refine fB (λO f Y m=>eX λo J G n g j he N=>?_) (show qP X.prog X.w H s.heap d (.dT a) from I.hok d _ i);have c:s.TypeIs (.ref d) "dict":=⟨o,n,g.1⟩;refine VH S6 c PySem.F.entry_dict_values ?_ (PySem.F.args_dict_values_1 _);show Xv _ _ (Of "values" ⟨[.ref d],[]⟩ >>= _) _ _ s;refine ZB ?_;unfold Of;refine ZB (Sh c ?_);show Xv _ _ (pure d) _ _ s;refine X0 ?_;show Xv _ _ (Sf d >>= _) _ _ s;unfold Sf;rw[bq (show ¬ (d==VE)=true by rw[f];exact XT)];refine ZB (X0 (ZB (Wl (X0 ⟨_,rfl,?_⟩))));have l:H s.heap.objs.size=none:=I.hok.fresh (XV _);have p:(s.heap.push { cls:=.type "dict_values",data:=.fields #[.ref d] }).IsValuesView s.heap.objs.size d:=⟨_,Xs _ rfl,rfl,rfl⟩;refine⟨.ref s.heap.objs.size,upd H s.heap.objs.size (zbW s.heap.objs.size d),I.laid (t':=s.toks) (λb u e=>X4 _ e) (XV _) ?_,rfl,q _ l⟩;exact⟨p,⟨_,Xs _ rfl⟩,λL M ⟨r,y,z,A⟩ k=>⟨r,k _ y,z,A⟩⟩
def zod {H:Hp}{a:List (List Key×V)}{xs:List KQ}(h:KT H a xs):Vals (a.map (·.2)) (xs.map (·.2.2)):=by
 induction h with
 | nil=>exact .nil
 | cons q _ b=>exact .cons q.2.2 b
def zbX (E:X.A.handled=none):jr X (.type "list") (λxs H Q=>∃v l a,xs=[.ref v]/\H v=some (zbW v l)/\H l=some (.dT a)/\∀d,H d=none->Q (.ref d) (upd H d (.lst (a.map (·.2))))):=by
 intro bz s σ H xs Y Q I r h;obtain⟨v,l,a,rfl,M,G,q⟩:=h;obtain⟨u,rfl,O⟩:=vals1 r;cases O;refine fB (λN hS xs j=>eX λo p ep L hc m he hn=>?_) (show qP X.prog X.w H s.heap l (.dT a) from I.hok l _ G);have J:xs.length=a.length:=(Paired.length j).symm;have n:p.size=xs.length:=by
  refine Nat.le_antisymm (PH λz=>?_) (PH λz=>?_)
  .have h1:=Ny he xs.length;rw[VF.mpr (XV _),V1 z]at h1;cases h1
  .have h1:=Ny he p.size;rw[WS (XV _),X2 z]at h1;cases h1
 have f:s.heap.IsValuesView v l:=(show qP X.prog X.w H s.heap v (zbW v l) from I.hok v _ M).1;refine kdl_call (zmb m) E ⟨f,L⟩ (by lia) λh' U b c hk k g=>?_;have B:b.toList=xs.map (·.2.2):=by
  refine TK λi=>?_;rw[Xw,Xz];cases e:b[i]? with
  | none =>
   rw[Array.getElem?_eq_none_iff,g.1,n]at e;rw[VF.mpr e];rfl
  | some y =>
   obtain⟨en,h1,rfl⟩:=g.2 i y e;rw[Ny he i]at h1;cases hx:xs[i]? with
   | none =>
    rw[hx]at h1;cases h1
   | some x =>
    rw[hx]at h1;cases h1;rfl
 have D:H s.heap.objs.size=none:=I.hok.fresh (XV _);refine⟨.ref s.heap.objs.size,_,I.laid (t':=U) (o:=.lst (a.map (·.2))) hk (XV _) ⟨by rw[Y1];exact N,b.toList,c,by rw[B];exact zod j,k⟩,rfl,q _ D⟩
def zkE (p:X.A.handled=none):jr X (.builtin "min") (λxs H Q=>∃(l:Addr) (c:List Int),xs=[.ref l]/\SqL X.K H l (c.map V.int)/\c ≠ []/\∀m∈c,(∀x∈c,m<=x)->Q (.int m) H):=by
 intro J s O H xs N Q I r h;obtain⟨l,c,rfl,y,g,q⟩:=h;obtain⟨u,rfl,D⟩:=vals1 r;cases D;obtain⟨e,E,B,M⟩:=I.list y;have o:Q1 e c:=zaF E;obtain⟨d,k⟩:=o.allInts.items;have f:c=d.toList.map (·.1):=by
  rw[<- Ob,<- k];exact(show numsOf e.toArray.toList=c from o.numsOf).symm
 have i:0<d.size:=by
  have:c.length=d.size:=by rw[f,Y1,X6]
  cases c with
  | nil=>exact absurd rfl g
  | cons a b=>rw[Xx]at this;lia
 refine min_intList p (xs:=d) (k ▸ B.isList) i λv L G z hk=>?_;obtain⟨t,rfl⟩:=intItems_at z;obtain⟨h1,h2⟩:=argBest_lt (numAt d) (d.size-1);refine⟨.int _,H,I.kept (t':=G) hk,⟨_,rfl⟩,q _ ?_ λa n=>?_⟩
 .rw[f,Nx];exact getD_mem (by rw[Y1,X6];lia)
 .rw[f]at n;obtain⟨j,w,rfl⟩:=mem_getD n;rw[Y1,X6]at w;rw[<- Nx];exact h2 j (by lia)
def zr5 {n k J:Nat}{f:Addr}{E:XC}{ps:AE}{sp:Sp}{x:Str}{p pos:Pos}{e:Expr}{c:List Expr}{t:TA}{dv:AF}{CX:CXT}(hx:Passes CX X E0)(F:Zn n X.prog X.w X.K X.mg X.base CX k f E ps sp)(hr:x9 J X.A)(hm:X.mg x=some (.ref f))(m:U6 X.K (.ref f)=true)(j:∃b,Vals dv b/\Binds X.K E ps b)(O:PAt n X (e::c) t)(hk:k<=J:=by decide)(Y:Gl X x:=by rfl)
  (l:(x==("__debug__":Str))=false:=by decide) (he:WG (e::c) X.env=(false,eval e X.env)::WG c X.env:=by rfl) (o:(TR pos (WG c X.env)).any (·.1)=false:=by rfl) :
  PEt n X (.Call (.Name x p) (e::c) [] pos) (zgc sp dv E0 t):=by
 intro D s M H Q I G h;obtain⟨b,U,j⟩:=j;refine UJ (QA I Y hm ?_ l);refine SS (h₀:=X.base) I.ok.mod.kin m (zc7 G (O pos D s M H _ I G h) λi s1 ⟨vs,B,a,r,q⟩ z=>⟨a.kIn,?_⟩) he o;have L:Vals (vs++dv) (i++b):=r.append U;have d:(i++b).length=ps.length:=by rw[<- L.length];exact F.len _ _ _ _ q
 refine N1 (Ts (F.run X.A X.stack s1 B ⟨i,[]⟩ _ _ _ _ z (hr.mono hk) a.env0 (j s1 i a.kIn d) L q) λv s' g=>?_);cases v with
 | error y=>exact hx D M B s1 y s' a g
 | ok N =>
  cases N with
  | ret u=>exact a.after g
  | next=>exact Wi g
  | brk=>exact Wi g
  | cont=>exact Wi g
def zoe {K:XW}{T:String}{name:Str}{id:String}{r:V->AF->Hp->VK->Prop}{o:Expr}{g:TE}{a b:Pos}(h:X.K=K)(k:PlainAttrs T)(e:Slot T name id)(f:typeOf (.builtin id)=pure (.type "method_descriptor"))(i:MtR X id r)(j:PE X o g)
  (c:RZ o name X.env (eval o X.env)=eval o X.env:=by rfl) (d:(a.endLine==b.line)=true:=by rfl):PE X (.Call (.Attribute o name a) [] [] b) (zrM K T r g):=by
 subst h;exact zfl k e f i j c d
def zih {K:XW}(b:X.K=K)(c:X.A.handled=none):jr X (.builtin "max") (λxs H Q=>∃(l:Addr) (a:List Int),xs=[.ref l]/\SqL K H l (a.map V.int)/\a ≠ []/\∀m∈a,(∀x∈a,x<=m)->Q (.int m) H):=by
 subst b;exact zkC c
end
def zqw.okT {n0:Nat}{P:Xm}{w:W1}{K:XW}{j:Str->Option X9}{c:Heap}{x:Str}{st:Stmt}{f:Addr}{i:XC}{N ps:AE}{k:Nat}{sp:Sp}(F:zqw K x st f i)(S:zE N ps (zf st))(len:∀vs H Q E,sp vs H Q E->vs.length=ps.length)
  (d:∀(b:X9) (A:WN) (a:List Env) (s:X7) (H:Hp) (vs:AF) (Q:VK) (E:XK),x9 k (A.deeper (Rx x (zf st) s.heap.objs.size f b))->sp vs H Q E ->
   ∃t,zc8 n0 (zcK CX0 P w K j c N x (zf st) f b A a s H E).nox (jt st) t/\t { nx:=λ_ l=>Q .non l,rt:=Q } (start N vs) H):Zn n0 P w K j c CX0 (k+1) f i ps sp:=by
 refine fj (λv u y kV doc z p b=>fh λr o z0 n e=>?_) F.ex;subst z0;refine zl8 n e S len λA a s H vs Q E m g=>?_;obtain⟨t,h,q⟩:=d b A a s H vs Q E m g;exact⟨t,h.nox,q⟩
end L2
namespace Cells
def qa (p:Nat->Bool)(i:Nat):Nat->List Nat->AD
 | _,[]=>[]
 | j,c::r=>(if p c=true then [(i,j)] else [])++qa p i (j+1) r
def zF (p:Nat->Bool):Nat->List (List Nat)->AD
 | _,[]=>[]
 | i,t::r=>qa p i 0 t++zF p (i+1) r
theorem YC (p:Nat->Bool)(i:Nat):∀(j:Nat) (a b:List Nat),qa p i j (a++b)=qa p i j a++qa p i (j+a.length) b
 | j,[],b=>by simp[qa]
 | j,c::a,b=>by
  simp only[PF,qa,YC p i (j+1) a b,Xx,WW];rw[show j+1+a.length=j+(a.length+1) by lia]
theorem YD (p:Nat->Bool):∀(i:Nat) (a b:List (List Nat)),zF p i (a++b)=zF p i a++zF p (i+a.length) b
 | i,[],b=>by simp[zF]
 | i,t::a,b=>by
  simp only[PF,zF,YD p (i+1) a b,Xx,WW];rw[show i+1+a.length=i+(a.length+1) by lia]
def zaf {p:Nat->Bool}{i j c:Nat}{t:List Nat}(h:t[j]?=some c):qa p i 0 (t.take (j+1))=qa p i 0 (t.take j)++(if p c=true then [(i,j)] else []):=by
 rw[XI,h,YC];have a:(t.take j).length=j:=by
  have:=(XZ.mp h).1;rw[XQ];lia
 simp[qa,a]
def zag {p:Nat->Bool}{i:Nat}{t:List Nat}{rs:List (List Nat)}(h:rs[i]?=some t):zF p 0 (rs.take (i+1))=zF p 0 (rs.take i)++qa p i 0 t:=by
 rw[XI,h,YD];have a:(rs.take i).length=i:=by
  have:=(XZ.mp h).1;rw[XQ];lia
 simp[zF,a]
theorem jF (p:Nat->Bool)(i:Nat):∀(j:Nat) (t:List Nat),(qa p i j t).length<=t.length
 | j,[]=>by simp[qa]
 | j,c::r=>by
  have:=jF p i (j+1) r;simp only[qa,XU,Xx];split<;>simp<;>lia
theorem qU (p:Nat->Bool):∀(i:Nat) (rs:List (List Nat)),(∀t∈rs,t.length<=8)->(zF p i rs).length<=8*rs.length
 | i,[],_=>by simp[zF]
 | i,t::r,h=>by
  have h1:=jF p i 0 t;have h2:=qU p (i+1) r λu a=>h u (XY _ a);have b:=h t XX;simp only[zF,XU,Xx];lia
theorem JJ {p:Nat->Bool}{i:Nat}:∀{j:Nat} {t:List Nat} {x:AA},x∈qa p i j t->∃m c,x=(i,j+m)/\t[m]?=some c/\p c=true
 | j,[],x,h=>by simp[qa]at h
 | j,c::r,x,h=>by
  simp only[qa,XG]at h;rcases h with h | h
  .split at h
   .rename_i hp;have:x=(i,j):=by simpa using h
    exact⟨0,c,this,rfl,hp⟩
   .cases h
  .obtain⟨m,a,e,h1,h2⟩:=JJ h;exact⟨m+1,a,by rw[e,show j+1+m=j+(m+1) by lia],by simpa using h1,h2⟩
def yZ {p:Nat->Bool}{i:Nat}{rs:List (List Nat)}{x:AA}(h:x∈zF p i rs):∃k j t c,x=(i+k,j)/\rs[k]?=some t/\t[j]?=some c/\p c=true:=by
 induction rs generalizing i with
 | nil=>simp[zF]at h
 | cons t r b =>
  simp only[zF,XG]at h;rcases h with h | h
  .obtain⟨m,c,e,h1,h2⟩:=JJ h;exact⟨0,m,t,c,by simpa using e,rfl,h1,h2⟩
  .obtain⟨k,j,u,c,e,h1,h2,a⟩:=b h;exact⟨k+1,j,u,c,by rw[e,show i+1+k=i+(k+1) by lia],by simpa using h1,h2,a⟩
def sgn (rs:List (List Nat))(x:AA):Nat:=(rs.getD x.1 []).getD x.2 0
theorem zaM {p q:Nat->Bool}{i:Nat}(f:AA->Bool):∀(j:Nat) (t:List Nat),(∀m c,t[m]?=some c->f (i,j+m)=q c)->(qa p i j t).filter f=qa (λc=>p c&&q c) i j t
 | j,[],_=>by simp[qa]
 | j,c::r,h=>by
  have g:=zaM (p:=p) (q:=q) (i:=i) f (j+1) r λm d e=>by
   have:=h (m+1) d (by simpa using e);rw[show j+1+m=j+(m+1) by lia];exact this
  have h0:=h 0 c rfl;simp only[qa,Xg,g];congr 1;simp only[Pm]at h0;by_cases a:p c=true
  .by_cases b:q c=true
   .simp[a,b,h0]
   .simp[a,b,h0]
  .simp[a]
theorem zaN {p q:Nat->Bool}(f:AA->Bool):∀(i:Nat) (rs:List (List Nat)),(∀k t m c,rs[k]?=some t->t[m]?=some c->f (i+k,m)=q c)->(zF p i rs).filter f=zF (λc=>p c&&q c) i rs
 | i,[],_=>by simp[zF]
 | i,t::r,h=>by
  have b:=zaN (p:=p) (q:=q) f (i+1) r λk u m c hk a=>by
   have:=h (k+1) u m c (by simpa using hk) a;rw[show i+1+k=i+(k+1) by lia];exact this
  simp only[zF,Xg,b];rw[zaM (p:=p) (q:=q) f 0 t λm c a=>by simpa using h 0 t m c rfl a]
def zbv {rs:List (List Nat)}{i j:Nat}{t:List Nat}{c:Nat}(h:rs[i]?=some t)(h2:t[j]?=some c):sgn rs (i,j)=c:=by
 unfold sgn;simp[List.getD,h,h2]
def all_filter {p q:Nat->Bool}(rs:List (List Nat)):(zF p 0 rs).filter (λx=>q (sgn rs x))=zF (λc=>p c&&q c) 0 rs :=
 zaN _ 0 rs λk t m c hk a=>by rw[show 0+k=k by lia,zbv hk a]
def zgS {p q:Nat->Bool}(h:∀c,p c=q c)(i:Nat)(rs:List (List Nat)):zF p i rs=zF q i rs:=by
 rw[show p=q from funext h]
def near (x y:AA):Bool:=decide ((if (x.1:Int)-(y.1:Int)<0 then -((x.1:Int)-(y.1:Int)) else (x.1:Int)-(y.1:Int))<2)&&(decide ((if (x.2:Int)-(y.2:Int)<0 then -((x.2:Int)-(y.2:Int)) else (x.2:Int)-(y.2:Int))<2) && !decide (x=y))
def yI (x y:AA):near x y=true↔(x.1<=y.1+1/\y.1<=x.1+1)/\(x.2<=y.2+1/\y.2<=x.2+1)/\¬ x=y:=by
 unfold near;rw[Vu,Vu,decide_eq_true_iff,decide_eq_true_iff,Ws,decide_eq_false_iff_not];constructor
 .rintro⟨h1,h2,h3⟩;refine⟨?_,?_,h3⟩
  .split at h1<;>lia
  .split at h2<;>lia
 .rintro⟨h1,h2,h3⟩;refine⟨?_,?_,h3⟩
  .split<;>lia
  .split<;>lia
def zkF (x y:AA):near x y=near y x:=by
 rw[WX,yI,yI];constructor
 .rintro⟨⟨a,b⟩,⟨c,d⟩,e⟩;exact⟨⟨b,a⟩,⟨d,c⟩,λz=>e z.symm⟩
 .rintro⟨⟨a,b⟩,⟨c,d⟩,e⟩;exact⟨⟨b,a⟩,⟨d,c⟩,λz=>e z.symm⟩
def lex (a b:AA):Prop:=a.1<b.1\/(a.1=b.1/\a.2<b.2)
theorem zeI (p:Nat->Bool)(i:Nat):∀(j:Nat) (t:List Nat),(qa p i j t).Pairwise lex
 | j,[]=>by simp[qa]
 | j,c::r=>by
  simp only[qa];rw[Tw];refine⟨?_,zeI p i (j+1) r,λa d b g=>?_⟩
  .split<;>simp
  .split at d
   .have e:a=(i,j):=by simpa using d
    obtain⟨m,h,f,_,_⟩:=JJ g;subst e f;exact .inr ⟨rfl,by show j<j+1+m;lia⟩
   .cases d
theorem jQ (p:Nat->Bool):∀(i:Nat) (rs:List (List Nat)),(zF p i rs).Pairwise lex
 | i,[]=>by simp[zF]
 | i,t::r=>by
  simp only[zF];rw[Tw];refine⟨zeI p i 0 t,jQ p (i+1) r,λa f b g=>?_⟩;obtain⟨m,c,e,_,_⟩:=JJ f;obtain⟨k,j,u,h,d,_,_,_⟩:=yZ g;subst e d;exact .inl (by show i<i+1+k;lia)
def zmc {p:Nat->Bool}{f:AA->Bool}{n:Nat}{rs:List (List Nat)}(h:∀r c,r<n->f (r,c)=false):(zF p 0 (rs.take n)).filter f=[]:=by
 rw[Wo];intro x b;obtain⟨k,j,t,c,e,hk,_,_⟩:=yZ b;have a:k<n:=by
  have:=(XZ.mp hk).1;rw[XQ]at this;lia
 subst e;rw[h _ _ (by lia)];exact XT
def zkG {p:Nat->Bool}{f:AA->Bool}{n:Nat}{rs:List (List Nat)}(h:∀r c,n<=r->f (r,c)=false):(zF p 0 (rs.take n)).filter f=(zF p 0 rs).filter f:=by
 by_cases d:n<=rs.length
 .have e:=WU n rs;have a:zF p 0 rs=zF p 0 (rs.take n)++zF p (0+(rs.take n).length) (rs.drop n):=by rw[<- YD,e]
  rw[a,Xg];have z:(zF p (0+(rs.take n).length) (rs.drop n)).filter f=[]:=by
   rw[Wo];intro x b;obtain⟨k,j,t,c,e,hk,_,_⟩:=yZ b;subst e;rw[XQ,h _ _ (by lia)];exact XT
  rw[z,Xa]
 .rw[WC (by lia)]
def zmd {p:Nat->Bool}{f:AA->Bool}{i n:Nat}{t:List Nat}(h:∀c,c<n->f (i,c)=false):(qa p i 0 (t.take n)).filter f=[]:=by
 rw[Wo];intro x d;obtain⟨m,c,e,a,_⟩:=JJ d;have b:m<n:=by
  have:=(XZ.mp a).1;rw[XQ]at this;lia
 subst e;rw[h _ (by lia)];exact XT
def zkH {p:Nat->Bool}{f:AA->Bool}{i n:Nat}{t:List Nat}(h:∀c,n<=c->f (i,c)=false):(qa p i 0 (t.take n)).filter f=(qa p i 0 t).filter f:=by
 by_cases g:n<=t.length
 .have e:=WU n t;have a:qa p i 0 t=qa p i 0 (t.take n)++qa p i (0+(t.take n).length) (t.drop n):=by rw[<- YC,e]
  rw[a,Xg];have z:(qa p i (0+(t.take n).length) (t.drop n)).filter f=[]:=by
   rw[Wo];intro x b;obtain⟨m,c,e,d,_⟩:=JJ b;subst e;rw[XQ,h _ (by lia)];exact XT
  rw[z,Xa]
 .rw[WC (by lia)]
end Cells
namespace Parts
abbrev C:=AA
structure Good (cl:C->List C)(done:List C)(gs:List (List C)):Prop where
 ne:∀g∈gs,g ≠ []
 nd:gs.flatten.Nodup
 from_:∀x∈gs.flatten,∃o∈done,x∈cl o
 cov:∀o∈done,cl o ≠ []->∃g∈gs,∀x∈cl o,x∈g
 con:∀g∈gs,∀S:C->Prop,(∀o∈done,(∃x∈cl o,S x)->∀x∈cl o,S x)->(∃x∈g,S x)->∀x∈g,S x
 srt:∀g∈gs,g.Pairwise Cells.lex
def Good.start (a:C->List C):Good a [] []:=⟨(λ_ h=>nomatch h),UL,(λ_ h=>nomatch h),(λ_ h=>nomatch h),(λ_ h=>nomatch h),(λ_ h=>nomatch h)⟩
def Good.skip {a:C->List C}{done:List C}{gs:List (List C)}(G:Good a done gs){o:C}(h:a o=[]):Good a (done++[o]) gs:=by
 refine⟨G.ne,G.nd,λx b=>?_,λp hp c=>?_,λg f S d=>G.con g f S λp hp=>d p (WV _ hp),G.srt⟩
 .obtain⟨p,hp,b⟩:=G.from_ x b;exact⟨p,WV _ hp,b⟩
 .rcases XG.mp hp with hp | hp
  .exact G.cov p hp c
  .have e:p=o:=by simpa using hp
   subst e;exact absurd h c
def zeJ {gs:List (List C)}(j:gs.flatten.Nodup):∀{g g':List C} {x:C},g∈gs->g'∈gs->x∈g->x∈g'->g=g':=by
 induction gs with
 | nil=>intro g g' x h;cases h
 | cons a r l =>
  rw[WA,WD]at j;obtain⟨_,h2,i⟩:=j;intro g g' x k c e b;rcases XH.mp k with f | g1
  .rcases XH.mp c with d | g2
   .rw[f,d]
   .exact absurd rfl (i x (f ▸ e) x (Wt.mpr ⟨g',g2,b⟩))
  .rcases XH.mp c with d | g2
   .exact absurd rfl (i x (d ▸ b) x (Wt.mpr ⟨g,g1,e⟩))
   .exact l h2 g1 g2 e b
theorem je (p:List C->Bool):∀gs:List (List C),(gs.filter p).flatten.Sublist gs.flatten
 | []=>List.Sublist.refl _
 | a::r=>by
  rw[Xb,WA];split
  .rw[WA];exact List.Sublist.append (List.Sublist.refl _) (je p r)
  .exact List.Sublist.trans (je p r) (Rb _ _)
def meets (a g:List C):Bool:=!(g.filter λc=>a.any λx=>decide (x=c)).isEmpty
def ZW {a g:List C}:meets a g=true ↔ ∃x∈g,x∈a:=by
 unfold meets;rw[Ws,UE];constructor
 .intro h;obtain⟨x,b⟩:=Th _ h;rw[XS,WF]at b;obtain⟨h1,y,h2,d⟩:=b;have e:y=x:=bg d;subst e;exact⟨y,h1,h2⟩
 .rintro⟨x,h1,h2⟩ hn;have:x∈g.filter λc=>a.any λx=>decide (x=c):=XS.mpr ⟨h1,WF.mpr ⟨x,h2,br rfl⟩⟩;rw[hn]at this;cases this
def whole (w:List C):List (List C)->List C
 | []=>w
 | g::r=>whole (w++g.filter λc=>!(w.any λx=>decide (x=c))) r
def zaO (w:List C)(c:C):(w.any λx=>decide (x=c))=true↔c∈w:=by
 rw[WF];constructor
 .rintro⟨x,h1,h2⟩;have e:x=c:=bg h2;subst e;exact h1
 .intro h;exact⟨c,h,br rfl⟩
theorem zbw {x:C}:∀{w:List C} {b:List (List C)},x∈whole w b↔x∈w\/∃m∈b,x∈m
 | w,[]=>by simp[whole]
 | w,g::r=>by
  rw[whole,zbw,XG,XS];constructor
  .rintro((h | ⟨h,_⟩) | ⟨m,hm,h⟩)
   .exact .inl h
   .exact .inr ⟨g,XX,h⟩
   .exact .inr ⟨m,XY _ hm,h⟩
  .rintro(h | ⟨m,hm,h⟩)
   .exact .inl (.inl h)
   .rcases XH.mp hm with rfl | hm
    .by_cases a:x∈w
     .exact .inl (.inl a)
     .refine .inl (.inr ⟨h,?_⟩);rw[Ws,W6];exact λz=>a ((zaO w x).mp z)
    .exact .inr ⟨m,hm,h⟩
theorem Qd:∀{w:List C} {i:List (List C)},w.Nodup->(∀m∈i,m.Nodup)->(whole w i).Nodup
 | w,[],h,_=>h
 | w,g::r,h,f=>by
  rw[whole];refine Qd ?_ λm d=>f m (XY _ d);rw[WD];refine⟨h,(f g XX).sublist Wg,λa j b k e=>?_⟩;subst e;have c:=(XS.mp k).2;rw[(zaO w a).mpr j]at c;cases c
def Good.step {c:C->List C}{done:List C}{gs:List (List C)}(G:Good c done gs){o:C}(h:c o ≠ [])(Q:(c o).Nodup){d:List (List C)}{w:List C}(H:d=gs.filter λg=>!((gs.filter (meets (c o))).any λm=>decide (m=g)))
  (I:w.Perm (whole (c o) (gs.filter (meets (c o))))) (U:w.Pairwise Cells.lex):Good c (done++[o]) (d++[w]):=by
 have n:∀g,g∈d↔g∈gs/\¬ ∃x∈g,x∈c o:=λg=>by
  rw[H,XS,Ws,W6];constructor
  .rintro⟨h1,h2⟩;exact⟨h1,λj=>h2 (WF.mpr ⟨g,XS.mpr ⟨h1,ZW.mpr j⟩,br rfl⟩)⟩
  .rintro⟨h1,h2⟩;refine⟨h1,λj=>?_⟩;obtain⟨m,i,e⟩:=WF.mp j;have J:m=g:=bg e;subst J;exact h2 (ZW.mp (XS.mp i).2)
 have mw:∀x,x∈w↔x∈c o\/∃g∈gs,(∃y∈g,y∈c o)/\x∈g:=λx=>by
  rw[I.mem_iff,zbw];constructor
  .rintro(h1 | ⟨m,i,h1⟩)
   .exact .inl h1
   .obtain⟨h2,j⟩:=XS.mp i;exact .inr ⟨m,h2,ZW.mp j,h1⟩
  .rintro(h1 | ⟨g,h2,j,h1⟩)
   .exact .inl h1
   .exact .inr ⟨g,XS.mpr ⟨h2,ZW.mpr j⟩,h1⟩
 have M:∀g∈gs,g.Nodup:=λg hg=>G.nd.sublist (VN hg);have wn:w.Nodup:=I.nodup_iff.mpr (Qd Q λm i=>M m (XS.mp i).1);refine⟨λg hg=>?_,?_,λx hx=>?_,λp hp v=>?_,λg hg S E=>?_,λg hg=>?_⟩
 .rcases XG.mp hg with hg | hg
  .exact G.ne g ((n g).mp hg).1
  .have e:g=w:=by simpa using hg
   subst e;obtain⟨x,hx⟩:=Th _ h;exact SN ((mw x).mpr (.inl hx))
 .rw[Wp,WD];refine⟨G.nd.sublist (by rw[H];exact je _ gs),by simpa using wn,λa N b O e=>?_⟩;subst e;have u:a∈w:=by simpa using O
  obtain⟨g,hg,hx⟩:=Wt.mp N;obtain⟨s,D⟩:=(n g).mp hg;rcases(mw a).mp u with h1 | ⟨m,q,m2,r⟩
  .exact D ⟨a,hx,h1⟩
  .have e:=zeJ G.nd s q hx r;subst e;exact D m2
 .rw[Wp]at hx;rcases XG.mp hx with hx | hx
  .obtain⟨g,hg,hx⟩:=Wt.mp hx;obtain⟨p,hp,hx⟩:=G.from_ x (Wt.mpr ⟨g,((n g).mp hg).1,hx⟩);exact⟨p,WV _ hp,hx⟩
  .have l:x∈w:=by simpa using hx
   rcases(mw x).mp l with h1 | ⟨g,s,_,L⟩
   .exact⟨o,by simp,h1⟩
   .obtain⟨p,hp,hx⟩:=G.from_ x (Wt.mpr ⟨g,s,L⟩);exact⟨p,WV _ hp,hx⟩
 .rcases XG.mp hp with hp | hp
  .obtain⟨g,hg,hx⟩:=G.cov p hp v;by_cases i:∃x∈g,x∈c o
   .exact⟨w,by simp,λx l=>(mw x).mpr (.inr ⟨g,hg,i,hx x l⟩)⟩
   .exact⟨g,WV _ ((n g).mpr ⟨hg,i⟩),hx⟩
  .have e:p=o:=by simpa using hp
   subst e;exact⟨w,by simp,λx hx=>(mw x).mpr (.inl hx)⟩
 .have k:∀p∈done,(∃x∈c p,S x)->∀x∈c p,S x:=λp hp=>E p (WV _ hp);rcases XG.mp hg with hg | hg
  .exact G.con g ((n g).mp hg).1 S k
  .have e:g=w:=by simpa using hg
   subst e;rintro⟨x,hx,sx⟩;have f:∀y∈c o,S y:=by
    refine E o (by simp) ?_;rcases(mw x).mp hx with h1 | ⟨m,q,⟨y,A,B⟩,r⟩
    .exact⟨x,h1,sx⟩
    .exact⟨y,B,G.con m q S k ⟨x,r,sx⟩ y A⟩
   intro z Y;rcases(mw z).mp Y with h1 | ⟨m,q,⟨y,A,B⟩,r⟩
   .exact f z h1
   .exact G.con m q S k ⟨y,A,f y B⟩ z r
 .rcases XG.mp hg with hg | hg
  .exact G.srt g ((n g).mp hg).1
  .have e:g=w:=by simpa using hg
   subst e;exact U
def Good.perm {d:C->List C}{done:List C}{gs b:List (List C)}(G:Good d done gs)(h:b.Perm gs):Good d done b:=by
 refine⟨λg a=>G.ne g (h.mem_iff.mp a),h.flatten.nodup_iff.mpr G.nd,λx c=>G.from_ x (h.flatten.mem_iff.mp c),λo f e=>?_,λg a=>G.con g (h.mem_iff.mp a),λg a=>G.srt g (h.mem_iff.mp a)⟩;obtain⟨g,a,c⟩:=G.cov o f e;exact⟨g,h.mem_iff.mpr a,c⟩
theorem Qe:∀{gs:List (List C)},(∀g∈gs,g ≠ [])->gs.length<=gs.flatten.length
 | [],_=>XV _
 | g::r,h=>by
  have b:=Qe (gs:=r) λx a=>h x (XY _ a);have:1<=g.length:=RD.mpr (h g XX);rw[WA,XU,Xx];lia
theorem yw:∀{a b:List C},a.Nodup->(∀x∈a,x∈b)->a.length<=b.length
 | [],_,_,_=>W4 _
 | x::r,b,h,s=>by
  obtain⟨h1,h2⟩:=Wf.mp h;have c:=s x XX;have f:=yw (a:=r) (b:=b.erase x) h2 λy d=>(List.mem_erase_of_ne (λ(e:y=x)=>h1 (by rw[<- e];exact d))).mpr (s y (XY _ d));rw[List.length_erase_of_mem c]at f;have:=T2 c;rw[Xx];lia
end Parts
namespace Subs
variable {α:Type}
def step (S:List (List α))(c:α):List (List α):=S++S.map (·++[c])
def subs (cs:List α):List (List α):=cs.foldl step [[]]
def pick:List α->Nat->List α
 | [],_=>[]
 | c::r,b=>(if b%2=1 then [c] else [])++pick r (b/2)
def zkI (cs:List α)(c:α):subs (cs++[c])=step (subs cs) c:=by
 unfold subs;rw[Uy];rfl
theorem zjs:∀(cs:List α) (c:α) (b:Nat),b<2^cs.length->pick (cs++[c]) b=pick cs b
 | [],c,b,h=>by
  have:b=0:=by
   simp at h;lia
  subst this;rfl
 | d::r,c,b,h=>by
  show _++pick (r++[c]) (b/2)=_++pick r (b/2);rw[zjs r c (b/2) (by
   rw[Xx,UB]at h;lia)]
theorem zjt:∀(cs:List α) (c:α) (b:Nat),b<2^cs.length->pick (cs++[c]) (2^cs.length+b)=pick cs b++[c]
 | [],c,b,h=>by
  have:b=0:=by
   simp at h;lia
  subst this;rfl
 | d::r,c,b,h=>by
  rw[Xx,UB]at h;show (if (2^(r.length+1)+b)%2=1 then [d] else [])++pick (r++[c]) ((2^(r.length+1)+b)/2)=((if b%2=1 then [d] else [])++pick r (b/2))++[c];have a:(2^(r.length+1)+b)%2=b%2:=by
   rw[UB];lia
  have e:(2^(r.length+1)+b)/2=2^r.length+b/2:=by
   rw[UB];lia
  rw[a,e,zjt r c (b/2) (by lia),WW]
def zbx (cs:List α):subs cs=(Wc (2^cs.length)).map (pick cs):=by
 rw[<- Oz cs];induction cs.reverse with
 | nil=>rfl
 | cons c r d =>
  rw[Qb,zkI,d,XU,O2,UB,Nat.mul_two,List.range_add,Xj,WE];unfold step;rw[WE];congr 1
  .refine Xf λb a=>?_;exact(zjs _ _ _ (VL.mp a)).symm
  .refine Xf λb a=>?_;exact(zjt _ _ _ (VL.mp a)).symm
end Subs
namespace Grow
variable {α β:Type}
def cnt (near:β->α->Bool)(o:β)(p:List α):Nat:=(p.filter (near o)).length
def zc9 (near:β->α->Bool)(a:β->Int)(b:List α)(o:β)(p:List α):Bool:=decide (a o-((cnt near o b:Nat):Int)<=((cnt near o p:Nat):Int))&&decide (((cnt near o p:Nat):Int)<=a o)
def chk (near:β->α->Bool)(b:β->Int)(O:List β)(c:α)(a:List α)(p:List α):Bool:=(O.filter λo=>near o c).all λo=>zc9 near b a o p
def grow (near:β->α->Bool)(b:β->Int)(O:List β):List (List α)->List α->List (List α)
 | F,[]=>F
 | F,c::a=>grow near b O ((Subs.step F c).filter (chk near b O c a)) a
def good (near:β->α->Bool)(b:β->Int)(O:List β)(done a:List α)(p:List α):Bool:=(O.filter λo=>done.any (near o)).all λo=>zc9 near b a o p
def cnt_cons (near:β->α->Bool)(o:β)(c:α)(r:List α):cnt near o (c::r)=cnt near o r+if near o c=true then 1 else 0:=by
 unfold cnt;rw[Xb];split<;>rfl
def zgT (near:β->α->Bool)(o:β)(p:List α)(c:α):cnt near o (p++[c])=cnt near o p+if near o c=true then 1 else 0:=by
 unfold cnt;rw[Xg,XU];congr 1;rw[Xb];split<;>rfl
def yp {near:β->α->Bool}{b:β->Int}{a:List α}{o:β}{p:List α}:zc9 near b a o p=true↔b o-((cnt near o a:Nat):Int)<=((cnt near o p:Nat):Int)/\((cnt near o p:Nat):Int)<=b o:=by
 unfold zc9;rw[Vu,bu,bu]
def zju {near:β->α->Bool}{b:β->Int}{O:List β}{c:α}{a p:List α}:chk near b O c a p=true ↔ ∀o∈O,near o c=true->zc9 near b a o p=true:=by
 unfold chk;rw[WT];exact⟨λh o d e=>h o (XS.mpr ⟨d,e⟩),λh o d=>h o (XS.mp d).1 (XS.mp d).2⟩
def Qf {near:β->α->Bool}{b:β->Int}{O:List β}{done a p:List α}:good near b O done a p=true ↔ ∀o∈O,done.any (near o)=true->zc9 near b a o p=true:=by
 unfold good;rw[WT];exact⟨λh o c d=>h o (XS.mpr ⟨c,d⟩),λh o c=>h o (XS.mp c).1 (XS.mp c).2⟩
def ZX (near:β->α->Bool)(o:β)(done:List α)(c:α):(done++[c]).any (near o)=true↔done.any (near o)=true\/near o c=true:=by
 rw[List.any_append,Bool.or_eq_true];simp
def zof (near:β->α->Bool)(b:β->Int)(O:List β)(done a:List α)(c:α)(p:List α):(good near b O done (c::a) p&&chk near b O c a p)=good near b O (done++[c]) a p:=by
 rw[WX,Vu,Qf,zju,Qf];constructor
 .rintro⟨h1,h2⟩ o d f;by_cases e:near o c=true
  .exact h2 o d e
  .have:=h1 o d (((ZX near o done c).mp f).resolve_right e);rw[yp,cnt_cons,bq e]at this;exact yp.mpr this
 .intro h;refine⟨λo d f=>?_,λo d e=>h o d ((ZX near o done c).mpr (.inr e))⟩;have:=yp.mp (h o d ((ZX near o done c).mpr (.inl f)));rw[yp,cnt_cons];split<;>lia
def zog (near:β->α->Bool)(d:β->Int)(O:List β)(done a:List α)(c:α)(p:List α):(good near d O done (c::a) p&&chk near d O c a (p++[c]))=good near d O (done++[c]) a (p++[c]):=by
 rw[WX,Vu,Qf,zju,Qf];constructor
 .rintro⟨h1,h2⟩ o e f;by_cases b:near o c=true
  .exact h2 o e b
  .have:=h1 o e (((ZX near o done c).mp f).resolve_right b);rw[yp,cnt_cons,bq b]at this;rw[yp,zgT,bq b];exact this
 .intro h;refine⟨λo e f=>?_,λo e b=>h o e ((ZX near o done c).mpr (.inr b))⟩;have:=yp.mp (h o e ((ZX near o done c).mpr (.inl f)));rw[zgT]at this;rw[yp,cnt_cons];split at this<;>rename_i b
  .rw[bw b];lia
  .rw[bq b];lia
def zkJ (near:β->α->Bool)(b:β->Int)(O:List β)(done a:List α)(c:α)(S:List (List α)):(Subs.step (S.filter (good near b O done (c::a))) c).filter (chk near b O c a)=(Subs.step S c).filter (good near b O (done++[c]) a):=by
 unfold Subs.step;rw[Xg,Xg];congr 1
 .rw[T6];refine Vp λp _=>?_;rw[<- zof,RT]
 .rw[O5,O5,T6];congr 1;refine Vp λp _=>?_;show (chk near b O c a (p++[c])&&good near b O done (c::a) p)=good near b O (done++[c]) a (p++[c]);rw[<- zog,RT]
theorem zeK (near:β->α->Bool)(a:β->Int)(O:List β):∀(b done:List α) (S:List (List α)),grow near a O (S.filter (good near a O done b)) b=(b.foldl Subs.step S).filter (good near a O (done++b) [])
 | [],done,S=>by
  rw[Xa];rfl
 | c::r,done,S=>by
  show grow near a O ((Subs.step (S.filter (good near a O done (c::r))) c).filter (chk near a O c r)) r=_;rw[zkJ,zeK near a O r (done++[c]) (Subs.step S c),WW];rfl
def fits (near:β->α->Bool)(a:β->Int)(O:List β)(part:List α)(p:List α):Bool:=(O.filter λo=>part.any (near o)).all λo=>decide (((cnt near o p:Nat):Int)=a o)
def zoh (near:β->α->Bool)(a:β->Int)(O:List β)(part:List α):grow near a O [[]] part=(Subs.subs part).filter (fits near a O part):=by
 have h:=zeK near a O part [] [[]];have e:([[]]:List (List α)).filter (good near a O [] part)=[[]]:=by
  have:good near a O [] part []=true:=Qf.mpr λo _ b=>by simp at b
  rw[Xb,bw this];rfl
 rw[e]at h;rw[h];show (Subs.subs part).filter _=_;refine Vp λp _=>?_;rw[List.nil_append];unfold good fits;congr 1;funext o;rw[WX,yp,bu];show a o-((0:Nat):Int)<=_/\_↔_;lia
end Grow
namespace Cnt
variable {α:Type}
def Jd (g:Nat)(ks:List (List α)):List Int:=(Wc (g+1)).map λn=>((ks.countP λk=>decide (k.length=n):Nat):Int)
def zaP (g:Nat)(ks:List (List α)):(Jd g ks).length=g+1:=by
 unfold Jd;rw[Y1,Wd]
def zme (g:Nat):Jd g ([]:List (List α))=WQ (g+1) 0:=by
 unfold Jd;refine List.eq_replicate_iff.mpr ⟨by rw[Y1,Wd],λb a=>?_⟩;obtain⟨n,_,rfl⟩:=XJ.mp a;rfl
def zda {g n:Nat}(ks:List (List α))(h:n<=g):(Jd g ks)[n]?=some ((ks.countP λk=>decide (k.length=n):Nat):Int):=by
 unfold Jd;rw[Xw,Tg (by lia)];rfl
def zkK {g:Nat}(ks:List (List α)){k:List α}(h:k.length<=g):Jd g (ks++[k])=(Jd g ks).set k.length (((ks.countP λx=>decide (x.length=k.length):Nat):Int)+1):=by
 refine TK λn=>?_;rw[List.getElem?_set];by_cases b:n<=g
 .rw[zda _ b,zda _ b,zaP,List.countP_append];by_cases e:k.length=n
  .rw[bw e,bw (by lia)];subst e;simp
  .rw[bq e];simp[e]
 .have a:∀c:List (List α),(Jd g c)[n]?=none:=λc=>Sc (by rw[zaP];lia);rw[a,a,zaP,bq (by lia)]
def zby {g:Nat}{as bs:List (List α)}(h:as.Perm bs):Jd g as=Jd g bs:=by
 unfold Jd;refine Xf λn _=>?_;rw[h.countP_eq]
end Cnt
namespace Pour
def S (h:Nat->Int):Nat->Int
 | 0=>0
 | n+1=>S h n+h n
def F (xs:List Int)(i:Nat):Int:=(xs[i]?).getD 0
def hk (xs ys:List Int)(k i:Nat):Int:=if i<=k then F xs i*F ys (k-i) else 0
def ZG (xs ys:List Int):List Int:=(Wc (xs.length+ys.length-1)).map λk=>S (hk xs ys k) xs.length
def part (xs ys:List Int)(i j k:Nat):Int:=S (hk xs ys k) i+(if i<=k/\k-i<j then F xs i*F ys (k-i) else 0)
def st (xs ys:List Int)(i j:Nat):List Int:=(Wc (xs.length+ys.length-1)).map (part xs ys i j)
def zdb {xs:List Int}{i:Nat}(h:xs.length<=i):F xs i=0:=by
 unfold F;rw[Sc h];rfl
def zoi {xs:List Int}{i:Nat}{x:Int}(h:xs[i]?=some x):F xs i=x:=by
 unfold F;rw[h];rfl
theorem Zo {f g:Nat->Int}:∀n,(∀i,i<n->f i=g i)->S f n=S g n
 | 0,_=>rfl
 | n+1,h=>by
  show S f n+f n=S g n+g n;rw[Zo n λi a=>h i (by lia),h n (by lia)]
theorem zmf {f:Nat->Int}{n:Nat}:∀m,(∀i,n<=i->i<n+m->f i=0)->S f (n+m)=S f n
 | 0,_=>rfl
 | m+1,h=>by
  show S f (n+m)+f (n+m)=S f n;rw[zmf m λi h1 h2=>h i h1 (by lia),h (n+m) (by lia) (by lia),Rz]
def zoj {f:Nat->Int}{n m:Nat}(a:n<=m)(h:∀i,n<=i->i<m->f i=0):S f m=S f n:=by
 obtain⟨d,rfl⟩:∃d,m=n+d:=⟨m-n,by lia⟩;exact zmf d h
def zqy (xs ys:List Int)(k:Nat):S (hk xs ys k) xs.length=S (λi=>F xs i*F ys (k-i)) (k+1):=by
 have a:S (λi=>F xs i*F ys (k-i)) (k+1)=S (hk xs ys k) (k+1):=Zo _ λi b=>by
  unfold hk;rw[bw (by lia)]
 rw[a];by_cases c:xs.length<=k+1
 .refine(zoj c λi h1 _=>?_).symm;unfold hk;rw[zdb h1];split<;>simp
 .refine zoj (by lia) λi h1 _=>?_;unfold hk;rw[bq (by lia)]
def zii (xs ys:List Int)(i j:Nat):(st xs ys i j).length=xs.length+ys.length-1:=by
 unfold st;rw[Y1,Wd]
def zij {xs ys:List Int}{i j k:Nat}(h:k<xs.length+ys.length-1):(st xs ys i j)[k]?=some (part xs ys i j k):=by
 unfold st;rw[Xw,Tg h];rfl
def zmg (xs ys:List Int):st xs ys 0 0=WQ (xs.length+ys.length-1) 0:=by
 unfold st;have e:∀k,part xs ys 0 0 k=0:=λk=>by
  unfold part;rw[bq (by lia)];rfl
 refine(Xf (g:=λ_=>(0:Int)) λk _=>e k).trans ?_;rw[List.map_const',Wd]
def zmh (xs ys:List Int)(i k:Nat):part xs ys i ys.length k=part xs ys (i+1) 0 k:=by
 unfold part;rw[bq (show ¬ (i+1<=k/\k-(i+1)<0) by lia),Rz];show _=S (hk xs ys k) i+hk xs ys k i;congr 1;unfold hk;by_cases c:i<=k
 .by_cases d:k-i<ys.length
  .rw[bw ⟨c,d⟩,bw c]
  .rw[bq (λz=>d z.2),bw c,zdb (show ys.length<=k-i by lia),Pl]
 .rw[bq (λz=>c z.1),bq c]
def zqz (xs ys:List Int)(i:Nat):st xs ys i ys.length=st xs ys (i+1) 0:=by
 unfold st;exact Xf λk _=>zmh xs ys i k
def zok {xs ys:List Int}{i j:Nat}{x y:Int}(a:xs[i]?=some x)(b:ys[j]?=some y):(st xs ys i j).set (i+j) (part xs ys i j (i+j)+x*y)=st xs ys i (j+1):=by
 have h:i<xs.length:=(XZ.mp a).1;have l:j<ys.length:=(XZ.mp b).1;apply TK;intro k;rw[List.getElem?_set];by_cases c:k<xs.length+ys.length-1
 .rw[zij c,zij c];by_cases e:i+j=k
  .subst e;rw[bw rfl,bw (by rw[zii];exact c)];congr 1;unfold part;rw[bq (by lia),bw (by lia),Rz,zoi a,Pw,zoi b]
  .rw[bq e];congr 1;unfold part;congr 1;by_cases d:i<=k/\k-i<j
   .rw[bw d,bw (by lia)]
   .rw[bq d,bq (by lia)]
 .have g:∀f,(st xs ys i f)[k]?=none:=λf=>Sc (by rw[zii];lia);rw[g,g];by_cases e:i+j=k
  .lia
  .rw[bq e]
def zqA (xs ys:List Int):st xs ys xs.length 0=ZG xs ys:=by
 unfold st ZG;refine Xf λk _=>?_;unfold part;rw[bq (by lia),Rz]
end Pour
namespace Choose
def ch:Nat->Nat->Nat
 | _,0=>1
 | 0,_+1=>0
 | n+1,k+1=>ch n k+ch n (k+1)
def QE (n:Nat):ch n 0=1:=by cases n<;>rfl
theorem zbz:∀(n k:Nat),n<k->ch n k=0
 | 0,0,h=>absurd h (by lia)
 | 0,k+1,_=>rfl
 | n+1,0,h=>absurd h (by lia)
 | n+1,k+1,h=>by
  show ch n k+ch n (k+1)=0;rw[zbz n k (by lia),zbz n (k+1) (by lia)]
theorem zcw:∀n k:Nat,(k+1)*ch n (k+1)+k*ch n k=n*ch n k
 | 0,0=>rfl
 | 0,k+1=>by
  show (k+1+1)*0+(k+1)*0=0*0;simp
 | n+1,0=>by
  have h:=zcw n 0;rw[QE]at h ⊢;show (0+1)*(ch n 0+ch n (0+1))+0*1=(n+1)*1;rw[QE];lia
 | n+1,j+1=>by
  have h1:=zcw n (j+1);have h2:=zcw n j;show (j+1+1)*(ch n (j+1)+ch n (j+1+1))+(j+1)*(ch n j+ch n (j+1))=(n+1)*(ch n j+ch n (j+1));generalize ch n (j+1+1)=C2 at *
  generalize ch n (j+1)=C1 at *
  generalize ch n j=C0 at *
  simp only[Nat.add_mul,Nat.mul_add,Nat.one_mul]at *
  lia
def zol {n k:Nat}(h:k<n):(ch n k:Int)*((n:Int)-k)/((k:Int)+1)=ch n (k+1):=by
 have e:=zcw n k;have a:(ch n k:Int)*((n:Int)-k)=(ch n (k+1):Int)*((k:Int)+1):=by
  have:((k+1)*ch n (k+1)+k*ch n k:Int)=(n*ch n k:Int):=by exact_mod_cast e
  rw[Int.mul_sub,NO (ch n k:Int) n,<- this,NO (ch n (k+1):Int) ((k:Int)+1),NO (ch n k:Int) (k:Int)];lia
 rw[a];exact Int.mul_ediv_cancel _ (by lia)
def zr6 (n:Nat):∀k,ch n k<=2^n:=by
 induction n with
 | zero =>
  intro k;cases k with
  | zero=>decide
  | succ k =>
   show (0:Nat)<=2^0;decide
 | succ n a =>
  intro k;cases k with
  | zero =>
   rw[QE];exact Nat.one_le_two_pow
  | succ k =>
   show ch n k+ch n (k+1)<=2^(n+1);rw[UB];have:=a k;have:=a (k+1);lia
end Choose
namespace Tally
open Subs
variable {α:Type}
theorem zaQ:∀(B:List α) (a:List (List α)),B.foldl step a=(subs B).flatMap λb=>a.map (·++b)
 | [],a=>by simp[subs]
 | c::r,a=>by
  have e:subs (c::r)=(subs r).flatMap λb=>[b,c::b]:=by
   show r.foldl step (step [[]] c)=_;rw[zaQ r];rfl
  show r.foldl step (step a c)=_;rw[zaQ r,e,List.flatMap_assoc];congr 1;funext b;show (a++a.map (·++[c])).map (·++b)=a.map (·++b)++(a.map (·++(c::b))++[]);rw[Xj,Xa,WE];congr 1;refine Xf λx _=>?_;show x++[c]++b=_;rw[WW];rfl
def zbA (c:α)(r:List α):subs (c::r)=(subs r).flatMap λb=>[b,c::b]:=by
 show r.foldl step (step [[]] c)=_;rw[zaQ r];rfl
def zaR (A B:List α):subs (A++B)=(subs B).flatMap λb=>(subs A).map (·++b):=by
 unfold subs;rw[Uy];exact zaQ B _
theorem zeL (c:α)(p:List α->Bool):∀L:List (List α),(L.flatMap λb=>[b,c::b]).countP p=L.countP p+L.countP λS=>p (c::S)
 | []=>rfl
 | b::L=>by
  have a:=zeL c p L;rw[List.flatMap_cons,List.countP_append,a,V5 (l:=L),V5 (l:=L),V5,V5,List.countP_nil];lia
def count_cons (c:α)(r:List α)(p:List α->Bool):(subs (c::r)).countP p=(subs r).countP p+(subs r).countP λS=>p (c::S):=by
 rw[zbA,zeL]
def Inv (p:List α->Bool):Prop:=∀a b,a.Perm b->p a=p b
theorem Inv.cons {p:List α->Bool}(h:Inv p)(c:α):Inv λS=>p (c::S):=λ_ _ e=>h _ _ (e.cons c)
def zik {cs a:List α}(e:cs.Perm a):∀{p:List α->Bool},Inv p->(subs cs).countP p=(subs a).countP p:=by
 induction e with
 | nil=>intro p _;rfl
 | cons c _ b =>
  intro p h;rw[count_cons,count_cons,b h,b (h.cons c)]
 | swap x y l =>
  intro p h;rw[count_cons,count_cons,count_cons,count_cons,count_cons,count_cons];have:(subs l).countP (λS=>p (y::x::S))=(subs l).countP λS=>p (x::y::S):=Uw λS _=>by rw[h _ _ (List.Perm.swap x y S)]
  lia
 | trans _ _ d f =>
  intro p h;exact(d h).trans (f h)
def T (cs:List α)(p:List α->Bool)(k:Nat):Nat:=(subs cs).countP λS=>decide (S.length=k)&&p S
def zfB {cs c:List α}(e:cs.Perm c){p:List α->Bool}(h:Inv p)(k:Nat):T cs p k=T c p k:=zik e λa b e=>by rw[h a b e,e.length_eq]
def zom {cs:List α}{p q:List α->Bool}(h:∀S∈subs cs,p S=q S)(k:Nat):T cs p k=T cs q k:=Uw λS a=>by rw[h S a]
theorem zpl (f g:Nat->Int):∀n,Pour.S (λi=>f i+g i) n=Pour.S f n+Pour.S g n
 | 0=>rfl
 | n+1=>by
  show Pour.S (λi=>f i+g i) n+(f n+g n)=Pour.S f n+f n+(Pour.S g n+g n);rw[zpl f g n];lia
theorem zmi:∀n,Pour.S (λ_=>0) n=0
 | 0=>rfl
 | n+1=>by
  show Pour.S (λ_=>0) n+0=0;rw[zmi n];rfl
theorem zgU (j:Nat)(x:Int):∀n,Pour.S (λi=>if i=j then x else 0) n=if j<n then x else 0
 | 0=>rfl
 | n+1=>by
  show Pour.S (λi=>if i=j then x else 0) n+(if n=j then x else 0)=_;rw[zgU j x n];by_cases h:n=j
  .rw[bq (by lia),bw h,bw (by lia),UA]
  .rw[bq h,Rz];by_cases h2:j<n
   .rw[bw h2,bw (by lia)]
   .rw[bq h2,bq (by lia)]
def zgV (q:List α->Bool)(f:Nat->Nat)(k:Nat):∀L:List (List α),(((L.map λb=>if (q b&&decide (b.length<=k))=true then f (k-b.length) else 0).sum:Nat):Int)=Pour.S (λi=>(f i:Int)*((L.countP λb=>decide (b.length=k-i)&&q b:Nat):Int)) (k+1):=by
 intro L;induction L with
 | nil =>
  have:Pour.S (λi=>(f i:Int)*((([]:List (List α)).countP λb=>decide (b.length=k-i)&&q b:Nat):Int)) (k+1)=Pour.S (λ_=>0) (k+1):=Pour.Zo _ λi _=>by
   show (f i:Int)*0=0;lia
  rw[this,zmi];rfl
 | cons b L h =>
  rw[Xo,List.sum_cons,O4,h];have e:Pour.S (λi=>(f i:Int)*(((b::L).countP λb=>decide (b.length=k-i)&&q b:Nat):Int)) (k+1)=Pour.S (λi=>(f i:Int)*((L.countP λb=>decide (b.length=k-i)&&q b:Nat):Int)+if i=k-b.length then (if (q b&&decide (b.length<=k))=true then (f (k-b.length):Int) else 0) else 0) (k+1):=Pour.Zo _ λi j=>by
   rw[V5];by_cases c:q b=true
   .by_cases g:b.length<=k
    .by_cases a:i=k-b.length
     .have h1:b.length=k-i:=by lia
      have h2:k-i<=k:=by lia
      simp only[c,h1,h2,decide_true,S9,if_true,bw a];rw[show k-(k-i)=i by lia,bw rfl,O4,Int.mul_add];lia
     .have h1:¬b.length=k-i:=by lia
      simp only[c,h1,decide_false,S9,bq a];simp
    .have h1:¬b.length=k-i:=by lia
     simp[c,h1,g]
   .have d:q b=false:=W6.mpr c;simp[d]
  rw[e,zpl,zgU,bw (show k-b.length<k+1 by lia),Int.add_comm];congr 1;split<;>rfl
def zmj {A B:List α}{P f pB:List α->Bool}(h:∀a∈subs A,∀b∈subs B,P (a++b)=(f a&&pB b))(k:Nat):(T (A++B) P k:Int)=Pour.S (λi=>(T A f i:Int)*(T B pB (k-i):Int)) (k+1):=by
 unfold T;rw[zaR,List.countP_flatMap];have e:(subs B).map (ON (λS=>decide (S.length=k)&&P S)∘λb=>(subs A).map (·++b))=(subs B).map λb=>if (pB b&&decide (b.length<=k))=true then (T A f) (k-b.length) else 0:=by
  refine Xf λb j=>?_;show ON _ ((subs A).map (·++b))=_;rw[List.countP_map];by_cases d:(pB b&&decide (b.length<=k))=true
  .rw[bw d];obtain⟨h1,h2⟩:=WY.mp d;have h2:=bg h2;refine Uw λa g=>?_;show (decide ((a++b).length=k)&&P (a++b))=true↔(decide (a.length=k-b.length)&&f a)=true;rw[h a g b j,h1,S9,XU,show (decide (a.length+b.length=k))=decide (a.length=k-b.length) from decide_eq_decide.mpr (by lia)]
  .rw[bq d];refine Vi.mpr λa g c=>d ?_;have c:(decide ((a++b).length=k)&&P (a++b))=true:=c;rw[h a g b j]at c;obtain⟨h1,h2⟩:=WY.mp c;have h1:=bg h1;rw[XU]at h1;rw[(WY.mp h2).2,br (by lia)];rfl
 rw[e,zgV];rfl
def yq {cs S:List α}(h:S∈subs cs):S.Sublist cs:=by
 revert S;induction cs with
 | nil=>intro S h;simp[subs]at h;subst h;exact List.Sublist.refl _
 | cons c r d =>
  intro S h;rw[zbA]at h;obtain⟨b,a,h⟩:=Vc.mp h;have:=d a;simp at h;rcases h with rfl | rfl
  .exact this.cons c
  .exact this.cons_cons c
def zjv {cs:List α}:∀{S:List α},S.Sublist cs->S∈subs cs:=by
 induction cs with
 | nil=>intro S h;cases h;simp[subs]
 | cons c r a =>
  intro S h;rw[zbA];cases h with
  | cons _ h=>exact Vc.mpr ⟨S,a h,by simp⟩
  | cons_cons _ h=>exact Vc.mpr ⟨_,a h,by simp⟩
def zdc {cs:List α}{p:List α->Bool}{k:Nat}(h:cs.length<k):T cs p k=0:=by
 refine Vi.mpr λS a b=>?_;have h1:=bg (WY.mp b).1;have h2:=(yq a).length_le;lia
def tl (cs:List α)(p:List α->Bool):List Int:=(Wc (cs.length+1)).map λk=>(T cs p k:Int)
def jX (cs:List α)(p:List α->Bool):(tl cs p).length=cs.length+1:=by
 unfold tl;rw[Y1,Wd]
def zkL (cs:List α)(p:List α->Bool)(i:Nat):Pour.F (tl cs p) i=(T cs p i:Int):=by
 by_cases h:i<cs.length+1
 .refine Pour.zoi ?_;unfold tl;rw[Xw,Tg h];rfl
 .rw[Pour.zdb (by rw[jX];lia),zdc (by lia)];rfl
def zon {A B:List α}{P c pB:List α->Bool}(h:∀a∈subs A,∀b∈subs B,P (a++b)=(c a&&pB b)):Pour.ZG (tl A c) (tl B pB)=tl (A++B) P:=by
 unfold Pour.ZG;rw[jX,jX];show _=(Wc ((A++B).length+1)).map λk=>(T (A++B) P k:Int);rw[XU,show A.length+1+(B.length+1)-1=A.length+B.length+1 by lia];refine Xf λk _=>?_;have e:=Pour.zqy (tl A c) (tl B pB) k;rw[jX]at e;rw[e,zmj h];exact Pour.Zo _ λi _=>by rw[zkL,zkL]
def zmk {cs:List α}{p q:List α->Bool}(h:∀S∈subs cs,p S=q S):tl cs p=tl cs q:=by
 unfold tl;refine Xf λk _=>by rw[zom h]
theorem zgW:∀(cs:List α) (k:Nat),T cs (λ_=>true) k=Choose.ch cs.length k
 | [],0=>rfl
 | [],k+1=>rfl
 | c::r,0=>by
  have e:=zgW r 0;unfold T at e ⊢;rw[count_cons,e,Choose.QE,Choose.QE];have:(subs r).countP (λS=>decide ((c::S).length=0)&&true)=0:=Vi.mpr λS _ d=>by simp at d
  rw[this]
 | c::r,k+1=>by
  have a:=zgW r k;have b:=zgW r (k+1);unfold T at a b ⊢;rw[count_cons,b];have:(subs r).countP (λS=>decide ((c::S).length=k+1)&&true)=(subs r).countP λS=>decide (S.length=k)&&true:=Uw λS _=>by
   rw[Xx,show decide (S.length+1=k+1)=decide (S.length=k) from decide_eq_decide.mpr (by lia)]
  rw[this,a];show _=Choose.ch r.length k+Choose.ch r.length (k+1);lia
def zqB [DecidableEq α]{cs:List α}{c:α}(f:c∈cs)(m:cs.Nodup)(k:Nat):T cs (λS=>decide (c∈S)) k=if k=0 then 0 else Choose.ch (cs.length-1) (k-1):=by
 have g:cs.Perm (c::cs.erase c):=List.perm_cons_erase f;have l:c ∉ cs.erase c:=λh=>by
  have:=g.nodup_iff.mp m;exact(Wf.mp this).1 h
 rw[zfB g (λa b e=>decide_eq_decide.mpr e.mem_iff)];unfold T;rw[count_cons];have z:(subs (cs.erase c)).countP (λS=>decide (S.length=k)&&decide (c∈S))=0:=Vi.mpr λS j d=>by
  have h1:=bg (WY.mp d).2;exact l ((yq j).subset h1)
 rw[z,VR];have i:(cs.erase c).length=cs.length-1:=by rw[List.length_erase,bw f]
 cases k with
 | zero =>
  rw[bw rfl];exact Vi.mpr λS _ d=>by simp at d
 | succ k =>
  rw[bq (by lia),<- i,SR,<- zgW];unfold T;refine Uw λS _=>?_;rw[Xx,show decide (S.length+1=k+1)=decide (S.length=k) from decide_eq_decide.mpr (by lia)];show (_&&decide (c∈c::S))=true↔_;rw[br XX]
variable {α:Type}
structure Loc (U:List α)(p:List α->Bool)(g:List α):Prop where
 l:∀a b,(∀c∈a,c∈U/\c ∉ g)->p (a++b)=p b
 r:∀a b,(∀c∈b,c∈U/\c ∉ g)->p (a++b)=p a
def yd (a:List α->List α->Bool)(gs:List (List α))(S:List α):Bool:=gs.all λg=>a g S
def zdd (a:List α->List α->Bool)(as bs:List (List α))(S:List α):yd a (as++bs) S=(yd a as S&&yd a bs S):=List.all_append
def zil {a:List α->List α->Bool}{gs:List (List α)}{S b:List α}(h:∀g∈gs,a g S=a g b):yd a gs S=yd a gs b:=by
 unfold yd;induction gs with
 | nil=>rfl
 | cons g r d =>
  rw[List.all_cons,List.all_cons,h g XX,d λx c=>h x (XY _ c)]
def zde {U:List α}{d:List α->List α->Bool}{done:List (List α)}{g:List α}{q:List α->Bool}(s:(done.flatten++g).Nodup)(f:∀c∈done.flatten++g,c∈U)(o:∀x∈done,Loc U (d x) x)(p:Loc U q g) :
  Pour.ZG (tl done.flatten (yd d done)) (tl g q)=tl (done.flatten++g) λS=>yd d done S&&q S:=by
 obtain⟨_,_,j⟩:=WD.mp s;refine zon λa m b n=>?_;have sa:=(yq m).subset;have k:=(yq n).subset;rw[p.l a b λc e=>⟨f c (WV _ (sa e)),λh=>j c (sa e) c h rfl⟩];congr 1;exact zil λx i=>(o x i).r a b λc e=>⟨f c (Xc _ (k e)),λh=>j c (Wt.mpr ⟨x,i,h⟩) c (k e) rfl⟩
def zoo {U:List α}{a:List α->List α->Bool}:∀(gs done:List (List α)),(done++gs).flatten.Nodup->(∀c∈(done++gs).flatten,c∈U)->(∀g∈done++gs,Loc U (a g) g)->(gs.map λg=>tl g (a g)).foldl Pour.ZG (tl done.flatten (yd a done))=tl (done++gs).flatten (yd a (done++gs)):=by
 intro gs;induction gs with
 | nil =>
  intro done _ _ _;rw[Xa];rfl
 | cons g r i =>
  intro done d h b;have e:done++g::r=(done++[g])++r:=by rw[WW];rfl
  rw[e]at d h b ⊢;have f:(done++[g]).flatten=done.flatten++g:=by rw[Wp];simp
  have j:(done.flatten++g).Nodup:=by
   rw[Wp,f]at d;exact(WD.mp d).1
  have i:=i (done++[g]) d h b;rw[<- i,Xo,V6,f];congr 1;rw[zde j (λc k=>h c (by rw[Wp,f];exact WV _ k)) (λx l=>b x (by simp[l])) (b g (by simp))];refine zmk λS _=>?_;rw[zdd];congr 1;show a g S=(a g S&&true);rw[S9]
def zim {U:List α}{a:List α->List α->Bool}{gs:List (List α)}(e:gs.flatten.Nodup)(d:∀c∈gs.flatten,c∈U)(b:∀g∈gs,Loc U (a g) g):(gs.map λg=>tl g (a g)).foldl Pour.ZG [1]=tl gs.flatten (yd a gs):=zoo gs [] e d b
def chZ (n:Nat)(k:Int):Int:=if k<0 then 0 else (Choose.ch n k.toNat:Nat)
def dl (xs:List Int)(m:Nat)(s:Int):Int:=Pour.S (λk=>Pour.F xs k*chZ m (s-(k:Nat))) xs.length
def zml (g:Nat->Int){a b:Nat}(c:∀i,a<=i->g i=0)(d:∀i,b<=i->g i=0):Pour.S g a=Pour.S g b:=by
 by_cases h:a<=b
 .exact(Pour.zoj h λi h1 _=>c i h1).symm
 .exact Pour.zoj (by lia) λi h1 _=>d i h1
def zpm {A c:List α}{P d:List α->Bool}(h:∀a∈subs A,∀b∈subs c,P (a++b)=d a)(s:Nat):dl (tl A d) c.length (s:Nat)=(T (A++c) P s:Int):=by
 rw[zmj (pB:=λ_=>true) (λa f b g=>by rw[h a f b g,S9]) s];unfold dl;rw[jX];rw[zml (λk=>Pour.F (tl A d) k*chZ c.length ((s:Int)-(k:Nat))) (a:=A.length+1) (b:=s+1) (λi e=>by rw[zkL,zdc (by lia)];simp) (λi e=>by
  unfold chZ;rw[bw (by lia),Pl])]
 refine Pour.Zo _ λi e=>?_;show Pour.F (tl A d) i*chZ c.length ((s:Int)-(i:Nat))=_;rw[zkL,zgW];unfold chZ;rw[bq (by lia),show ((s:Int)-(i:Nat)).toNat=s-i by lia]
def zop [DecidableEq α]{A d:List α}{P f:List α->Bool}{c:α}(j:c∈d)(l:d.Nodup)(h:∀a∈subs A,∀b∈subs d,P (a++b)=(f a&&decide (c∈b)))(s:Nat):dl (tl A f) (d.length-1) ((s:Nat)-1)=(T (A++d) P s:Int):=by
 rw[zmj h s];unfold dl;rw[jX];rw[zml (λk=>Pour.F (tl A f) k*chZ (d.length-1) ((s:Int)-1-(k:Nat))) (a:=A.length+1) (b:=s+1) (λi g=>by rw[zkL,zdc (by lia)];simp) (λi g=>by
  unfold chZ;rw[bw (by lia),Pl])]
 refine Pour.Zo _ λi g=>?_;show Pour.F (tl A f) i*chZ (d.length-1) ((s:Int)-1-(i:Nat))=_;rw[zkL,zqB j l];unfold chZ;by_cases e:s-i=0
 .rw[bw (by lia),bw e];rfl
 .rw[bq (by lia),bq e,show ((s:Int)-1-(i:Nat)).toNat=s-i-1 by lia]
def zcx {cs:List α}{p:List α->Bool}(h:∀S∈subs cs,p S=false)(k:Nat):T cs p k=0:=Vi.mpr λS b a=>by
 rw[h S b,OK]at a;cases a
def zjw (cs:List α)(p:List α->Bool):Cnt.Jd cs.length ((subs cs).filter p)=tl cs p:=by
 unfold Cnt.Jd tl T;refine Xf λk _=>?_;rw[List.countP_filter]
def zgX {b:Type}(g:Nat)(f:List α->List b)(a:∀k,(f k).length=k.length)(ks:List (List α)):Cnt.Jd g (ks.map f)=Cnt.Jd g ks:=by
 unfold Cnt.Jd;refine Xf λn _=>?_;rw[List.countP_map];congr 1;refine Uw λk _=>?_;show decide ((f k).length=n)=true↔_;rw[a]
variable {α β:Type}
end Tally
namespace K62
open PySem L2
variable {P:Xm}{w:W1}{K:XW}{mg:Str->Option X9}{base:Heap}{f:Addr}{fd:XC}
abbrev top (i:Nat):Stmt:=ZA.top i
abbrev YE:Stmt:=top 13
abbrev yJ:Stmt:=top 14
abbrev Zp:Stmt:=top 15
abbrev ZY:Stmt:=top 16
abbrev qD:Stmt:=top 17
abbrev jY:Stmt:=top 18
abbrev jZ:Stmt:=top 19
abbrev Qg:Stmt:=top 20
abbrev qk:Stmt:=top 21
abbrev qy:Stmt:=top 22
abbrev YF:Stmt:=top 27
abbrev Zq:Stmt:=top 28
abbrev Zr:Stmt:=top 29
abbrev jG:Stmt:=top 30
abbrev JZ:Stmt:=top 31
abbrev zcy:Stmt:=top 33
abbrev ZZ:Stmt:=top 34
abbrev zgY:Stmt:=top 35
abbrev jH:Stmt:=top 36
abbrev ye:Stmt:=top 37
abbrev qO:Stmt:=top 38
abbrev qK:Stmt:=top 41
abbrev yr:Stmt:=top 42
abbrev xg:Stmt:=top 43
abbrev xK:Stmt:=top 44
abbrev JK:Stmt:=top 45
abbrev yK:Stmt:=top 46
abbrev QF:Stmt:=top 48
abbrev zaS:Stmt:=top 49
abbrev yh:Stmt:=top 51
abbrev zcz:Stmt:=top 52
abbrev qZ:Stmt:=top 53
abbrev Jx:Stmt:=top 54
abbrev zaT:Stmt:=top 55
abbrev YG:Stmt:=top 57
abbrev jf:Stmt:=top 58
abbrev Qh:Stmt:=top 60
abbrev Jy:Stmt:=top 61
abbrev zbB:Stmt:=top 62
abbrev zdf:Stmt:=top 65
abbrev zdg:Stmt:=top 66
abbrev Q0:Stmt:=top 67
abbrev zgZ:Stmt:=top 68
abbrev zeM:Stmt:=top 69
abbrev zdh:Stmt:=top 72
abbrev zbY:Stmt:=top 73
abbrev Q2:Stmt:=top 74
abbrev zaU:Stmt:=top 75
abbrev zbU:Stmt:=top 77
abbrev xM:Stmt:=top 78
abbrev yi:Stmt:=top 80
abbrev xV:Stmt:=top 81
abbrev Zs:Stmt:=top 82
abbrev Zt:Stmt:=top 83
abbrev YH:Stmt:=top 84
abbrev yj:Stmt:=top 85
abbrev xW:Stmt:=top 86
abbrev YI:Stmt:=top 87
abbrev QG:Stmt:=top 88
abbrev zg0:Stmt:=top 89
structure Txt (mg:Str->Option X9):Prop where
 zpn:mg "abs"=none
 zmm:mg "any"=none
 zfC:mg "dict"=none
 qY:mg "enumerate"=none
 zmn:mg "int"=none
 Jz:mg "isinstance"=none
 qG:mg "len"=none
 zbC:mg "list"=none
 zmo:mg "max"=none
 zjx:mg "min"=none
 JA:mg "range"=none
 zr7:mg "set"=none
 zdi:mg "sorted"=none
 zmp:mg "str"=none
 zr8:mg "sum"=none
 zjy:mg "tuple"=none
 zr9:mg "zip"=none
 zs8:∃t,mg "ALL"=some (.str "all" t)
 zd3:∃t,mg "BOARD_SIGNS"=some (.str "?012345678#" t)
 JB:∃t,mg "CLEAR_SIGN"=some (.str "." t)/\t≠0/\t<384
 ZH:∃t,mg "CLOSED_SIGN"=some (.str "?" t)
 zd4:∃t,mg "FIELD_SIGNS"=some (.str ".o#" t)
 Qi:∃t,mg "LONGEST_SIDE"=some (.int 8 t)
 zdj:∃t,mg "MOST_OF_PART"=some (.int 14 t)
 zd5:∃t,mg "MOST_STONES"=some (.int 64 t)
 zny:∃t,mg "MOST_THINGS"=some (.int 30 t)
 Qj:∃t,mg "NO_CELL_SIGN"=some (.str "#" t)
 JC:∃t,mg "STONE_SIGN"=some (.str "o" t)/\t≠0/\t<384
def Mq (K:XW)(mg:Str->Option X9)(n:Str)(s:Stmt)(p:List Str):=∃f fd,zh K mg n s p f fd
structure Prog (K:XW)(mg:Str->Option X9):Prop where
 board_of:Mq K mg "board_of" YE ["rows","stones"]
 checked_rows:Mq K mg "checked_rows" yJ ["rows","signs"]
 check_row:Mq K mg "check_row" Zp ["row","length","signs"]
 closed:Mq K mg "closed" ZY ["board"]
 open_cells:Mq K mg "open_cells" qD ["board"]
 around:Mq K mg "around" jY ["board","cell"]
 number_at:Mq K mg "number_at" jZ ["board","cell"]
 opened:Mq K mg "opened" Qg ["board","numbers"]
 cells_of:Mq K mg "cells_of" qk ["board"]
 sign_at:Mq K mg "sign_at" qy ["board","cell"]
 field_of:Mq K mg "field_of" YF ["rows"]
 stones_of:Mq K mg "stones_of" Zq ["field"]
 clears_of:Mq K mg "clears_of" Zr ["field"]
 cells_with:Mq K mg "cells_with" jG ["field","sign"]
 board_at:Mq K mg "board_at" JZ ["field","cells"]
 parts:Mq K mg "parts" zcy ["board"]
 joined:Mq K mg "joined" ZZ ["groups","cells"]
 far:Mq K mg "far" zgY ["board"]
 numbers_of:Mq K mg "numbers_of" jH ["board","part"]
 bare_wrong:Mq K mg "bare_wrong" ye ["board"]
 closed_around:Mq K mg "closed_around" qO ["board","cell"]
 part_layings:Mq K mg "part_layings" qK ["board","part"]
 needs_at:Mq K mg "needs_at" yr ["told","cell","rest"]
 may_fit:Mq K mg "may_fit" xg ["needs","pick"]
 part_counts:Mq K mg "part_counts" xK ["board","part"]
 counted:Mq K mg "counted" JK ["found","greatest"]
 counted_at:Mq K mg "counted_at" yK ["found","greatest","cell"]
 choices:Mq K mg "choices" QF ["n","k"]
 poured:Mq K mg "poured" zaS ["one","other"]
 near_counts:Mq K mg "near_counts" yh ["board"]
 count:Mq K mg "count" zcz ["board"]
 counts_by_cell:Mq K mg "counts_by_cell" qZ ["board"]
 all_poured:Mq K mg "all_poured" Jx ["lists"]
 dealt:Mq K mg "dealt" zaT ["counts","cells","stones"]
 fraction:Mq K mg "fraction" YG ["top","bottom"]
 greatest_divisor:Mq K mg "greatest_divisor" jf ["number","bottom"]
 shares:Mq K mg "shares" Qh ["board"]
 some_count:Mq K mg "some_count" Jy ["board"]
 sure:Mq K mg "sure" zbB ["board"]
 asked_by:Mq K mg "asked_by" zdf ["board","thing"]
 known_of:Mq K mg "known_of" zdg ["finding"]
 still_asked:Mq K mg "still_asked" Q0 ["asked","known"]
 gained:Mq K mg "gained" zgZ ["asked"]
 settled:Mq K mg "settled" zeM ["regions"]
 thoughts:Mq K mg "thoughts" zdh ["board"]
 all_steps:Mq K mg "all_steps" zbY ["board","things"]
 place_lists:Mq K mg "place_lists" Q2 ["asked"]
 first_step:Mq K mg "first_step" zaU ["things","asked","lists","finding"]
 run:∃(f:Addr) (fd:XC),zbu K mg "run" zbU ["field","first","way"] "sure" f fd
 found_clear:Mq K mg "found_clear" xM ["board","way"]
 law_cell_at:Mq K mg "_law_cell_at" yi ["_law_script","_law_k"]
 law_mixed:Mq K mg "_law_mixed" xV ["_law_cell","_law_k"]
 law_field:Mq K mg "_law_field" Zs ["_law_script","_law_most"]
 law_cells:Mq K mg "_law_cells" Zt ["_law_rows","_law_signs"]
 law_near:Mq K mg "_law_near" YH ["_law_one","_law_other"]
 law_choices:Mq K mg "_law_choices" yj ["_law_cells_here","_law_rows","_law_stones"]
 law_board:Mq K mg "_law_board" xW ["_law_rows","_law_cells_here"]
 law_safe:Mq K mg "_law_safe" YI ["_law_board_here"]
 law_due:Mq K mg "_law_due" QG ["_law_rows","_law_first"]
def zmq (K:XW):Sp:=λc H Q _=>∃(a:Addr) (b:List Int) (k:Int),c=[.ref a,.int k]/\SqL K H a (b.map V.int)/\0<=k/\∀z:Int,Q (.int z) H
structure Row (NC:List Nat)(n:Nat)(t:Str):Prop where
 len:t.cps.size=n
 mem:∀c∈t.cps.toList,c∈NC
structure Rows (NC:List Nat)(rs:AE):Prop where
 lo:1<=rs.length
 hi:rs.length<=8
 ex:∃n,1<=n/\n<=8/\∀t∈rs,Row NC n t
def bd:Str:="?012345678#"
def zdk:zE ["_law_script","_law_k"] ["_law_script","_law_k"] (zf yi):=bh
def Qk (T:Txt mg)(D:zh K mg "_law_cell_at" yi ["_law_script","_law_k"] f fd):qA P w K mg base CX0 1 f fd ["_law_script","_law_k"] (zmq K):=by
 refine D.F.ok zdk (λn H Q E h=>?_) (λj A d s H n Q E o h=>?_)
 .obtain⟨a,b,i,rfl,_⟩:=h;rfl
 .revert h;refine fu λa b i z0 e l k=>?_;subst z0;refine⟨_,(ze (jk (zL zc6 (pvS 1) (zx zD (by rfl) T.qG Xk (za (pvS 0) zb)) (qe _)) (zg (zJ (qh jd (pvS 0) (pvS 1) (λ_ _=>rfl)))) ql) (@zg _ _ _ (@zJ _ _ _ _ zk))),?_⟩;(try dsimp only[cxK,cxP,cxW]);refine⟨_,rfl,_,rfl,a,_,rfl,.inl e,_,_,rfl,rfl,_,rfl,?_⟩;refine zgg (λc=>?_) (λc=>?_)
  .have g:i<((b.map V.int).length:Nat):=bg c;rw[Y1]at g;have m:i.toNat<b.length:=by lia
   refine⟨_,rfl,_,rfl,a,_,i,.int b[i.toNat],rfl,rfl,e,ZE l (by rw[Xw,X2 m];rfl),?_⟩;exact k _
  .exact k 0
structure qc (H:Hp)(p l:Addr)(rs:AE)(n:Int):Prop where
 tp:H p=some (.tup [.ref l,.int n])
 rw:H l=some (.lst (rs.map V.str))
def zmr:∀c∈bd.cps.toList,c<1114112:=by decide+kernel
def zoq {n:Nat}{t:Str}(r:Row bd.cps.toList n t):Wq (.str t)=true:=by
 show t.cps.all (· < 0x110000)=true;rw[Array.all_eq_true'];intro c a;exact br (zmr c (r.mem c (RO.mpr a)))
def zg1 {rs:AE}{n:Nat}(h:∀t∈rs,Row bd.cps.toList n t):Wx (rs.map VZ)=true:=by
 induction rs with
 | nil=>rfl
 | cons t r b =>
  show (Wq (.str t)&&Wx (r.map VZ))=true;rw[zoq (h t XX),b λu a=>h u (XY _ a)];rfl
def YJ (rs:AE):Wv (rs.map VZ)=0:=by
 induction rs with
 | nil=>rfl
 | cons t r a =>
  show max (PyData.depth (.str t)) (Wv (r.map VZ))=0;rw[a];rfl
def Rows.cmp {rs:AE}(R:Rows bd.cps.toList rs):zdW (.list (rs.map VZ)) (.list (rs.map VZ)):=by
 obtain⟨n,_,_,h⟩:=R.ex;refine⟨zg1 h,zg1 h,?_⟩;show Wv (rs.map VZ)+1<=64;rw[YJ];decide
def bData (rs:AE)(n:Int):We:=.tuple [.list (rs.map VZ),.int n]
def Rows.cmpB {rs:AE}(R:Rows bd.cps.toList rs)(n:Int):zdW (bData rs n) (bData rs n):=by
 have c:=R.cmp;have h1:Wq (bData rs n)=true:=by
  show (Wq (.list (rs.map VZ))&&(Wq (.int n)&&true))=true;rw[c.l1];rfl
 refine⟨h1,h1,?_⟩;show max (Wv (rs.map VZ)+1) (max 0 0)+1<=64;rw[YJ];decide
def qc.rdv {K:XW}{H:Hp}{p l:Addr}{rs:AE}{n:Int}(b:qc H p l rs n):Rdv K H (.ref p) (bData rs n):=.tup (SqT.of b.tp) (.cons (.lst (SqL.of b.rw) (zaB rs)) (.cons (.int n) .nil))
def Rows.mono {s s':List Nat}{rs:AE}(R:Rows s rs)(h:∀c∈s,c∈s'):Rows s' rs :=
 ⟨R.lo,R.hi,let ⟨n,a,b,q⟩:=R.ex;⟨n,a,b,λt d=>⟨(q t d).len,λc e=>h c ((q t d).mem c e)⟩⟩⟩
def qc.mono {H a:Hp}{p l:Addr}{rs:AE}{n:Int}(b:qc H p l rs n)(s:zB H a):qc a p l rs n:=⟨s _ _ b.tp,s _ _ b.rw⟩
def codes (rs:AE):List (List Nat):=rs.map λt=>t.cps.toList
def qJ {rs:AE}{i:Nat}{t:Str}(h:rs[i]?=some t):(codes rs)[i]?=some t.cps.toList:=by
 unfold codes;rw[Xw,h];rfl
def QH {rs:AE}{i:Nat}{u:List Nat}(h:(codes rs)[i]?=some u):∃t,rs[i]?=some t/\u=t.cps.toList:=by
 unfold codes at h;rw[Xw]at h;cases e:rs[i]? with
 | none =>
  rw[e]at h;cases h
 | some t =>
  rw[e]at h;cases h;exact⟨t,rfl,rfl⟩
def ja (rs:AE):(codes rs).length=rs.length:=by
 unfold codes;rw[Y1]
def Rows.short {s:List Nat}{rs:AE}(R:Rows s rs):∀u∈codes rs,u.length<=8:=λu b=>by
 obtain⟨t,a,rfl⟩:=XJ.mp b;obtain⟨n,_,c,q⟩:=R.ex;have:=(q t a).len;rw[X6];lia
def Rows.tlen {s:List Nat}{rs:AE}{i:Nat}{t:Str}(R:Rows s rs)(h:rs[i]?=some t):t.length<=Xq:=by
 obtain⟨n,_,a,q⟩:=R.ex;have e:t.length=n:=(q t (X8 h)).len;rw[e];exact X5 a (by decide)
def yL (H:Hp)(v:V)(c:AA):Prop:=∃a,v=V.ref a/\H a=some (.tup [.int (c.1:Nat),.int (c.2:Nat)])
def Cel (H:Hp):AF->AD->Prop:=W2 (yL H)
def Cel.mono {H b:Hp}(s:zB H b){vs:AF}{cs:AD}(c:Cel H vs cs):Cel b vs cs:=by
 induction c with
 | nil=>exact .nil
 | cons q _ d =>
  obtain⟨a,e,h⟩:=q;exact .cons ⟨a,e,s _ _ h⟩ d
theorem Cel.snoc {H:Hp}{vs:AF}{cs:AD}{v:V}{c:AA}(h:Cel H vs cs)(x:yL H v c):Cel H (vs++[v]) (cs++[c]):=Paired.snoc h x
def Cel.append {H:Hp}{vs b:AF}{cs a:AD}(h:Cel H vs cs)(k:Cel H b a):Cel H (vs++b) (cs++a):=zcQ h k
def Cel.into {H:Hp}(z:Addr)(o:HO){b:AF}(hz:H z=some (.lst b)){vs:AF}{cs:AD}(c:Cel H vs cs):Cel (upd H z o) vs cs:=by
 induction c with
 | nil=>exact .nil
 | cons q _ d =>
  obtain⟨a,e,h⟩:=q;exact .cons ⟨a,e,by rw[zp (QW h hz (by intro y;cases y))];exact h⟩ d
theorem Cel.length {H:Hp}{vs:AF}{cs:AD}(h:Cel H vs cs):vs.length=cs.length:=Paired.length h
theorem Cel.get {H:Hp}:∀{vs:AF} {cs:AD} {i:Nat} {v:V},Cel H vs cs->vs[i]?=some v->∃c,cs[i]?=some c/\yL H v c
 | _,_,_,_,.nil,e=>by simp at e
 | _,_,0,_,.cons r _,e=>by
  simp at e;subst e;exact⟨_,rfl,r⟩
 | _,_,i+1,v,.cons _ t,e=>by
  obtain⟨c,h1,h2⟩:=Cel.get (i:=i) (v:=v) t (by simpa using e);exact⟨c,by simpa using h1,h2⟩
def zo (c:AA):We:=.tuple [.int (c.1:Nat),.int (c.2:Nat)]
def yL.rdv {K:XW}{H:Hp}{v:V}{c:AA}(h:yL H v c):Rdv K H v (zo c):=by
 obtain⟨a,rfl,h⟩:=h;exact .tup (SqT.of h) (.cons (.int _) (.cons (.int _) .nil))
def zeN (c d:AA):zdW (zo c) (zo d):=⟨rfl,rfl,by show max 0 (max 0 0)+1<=64;decide⟩
def zbD (c d:AA):W5 (zo c) (zo d)=decide (c=d):=by
 obtain⟨a,b⟩:=c;obtain⟨x,y⟩:=d;show ((((a:Nat):Int)==((x:Nat):Int))&&((((b:Nat):Int)==((y:Nat):Int))&&true))=decide ((a,b)=(x,y));by_cases h1:a=x
 .by_cases h2:b=y
  .subst h1 h2;simp
  .have:¬ ((b:Int)=(y:Int)):=by lia
   simp[h2,this]
 .have:¬ ((a:Int)=(x:Int)):=by lia
  simp[h1,this]
def zah (c k:Nat):(V.str ⟨#[c]⟩=V.str ⟨#[k]⟩)=(c=k):=by
 apply propext;constructor
 .intro h;have h2:(⟨#[c]⟩:Str)=⟨#[k]⟩:=V.str.inj h;have a:(#[c]:Array Nat)=#[k]:=congrArg Str.cps h2;simpa using a
 .rintro rfl;rfl
def Jw:("#":Str)=⟨#[35]⟩:=by decide+kernel
def zbE:("?":Str)=⟨#[63]⟩:=by decide+kernel
def zP (c:Nat):Bool:=!decide (c=35)
def J0 (c:Nat):Bool:=decide (c=63)
def Z0 (c:Nat):Bool:=zP c && !decide (c=63)
def zqC:Sp:=λb H Q _=>∃(p l c:Addr) (a:AE) (n:Int) (i j:Nat) (t:Str) (k:Nat),b=[.ref p,.ref c]/\qc H p l a n/\H c=some (.tup [.int (i:Nat),.int (j:Nat)])/\a[i]?=some t/\t.cps.toList[j]?=some k/\t.length<=Xq/\Q (.str ⟨#[k]⟩) H
def zin (p:Nat->Bool):Sp:=λf H Q _=>∃(a l:Addr) (c:AE) (n:Int),f=[.ref a]/\qc H a l c n/\Rows bd.cps.toList c /\
 ∀(d:Addr) (e:AF) (b:Hp),H d=none->b d=some (.lst e)->Cel b e (Cells.zF p 0 (codes c))->zB H b->Q (.ref d) b
def zor (p:Nat->Bool):Sp:=λg H Q _=>∃(a l:Addr) (c:AE) (n:Int),g=[.ref a]/\qc H a l c n/\(∃f,Rows f c) /\
 ∀(d:Addr) (e:AF) (b:Hp),H d=none->b d=some (.lst e)->Cel b e (Cells.zF p 0 (codes c))->zB H b->Q (.ref d) b
def zms:Sp:=λb H Q _=>∃(p l c:Addr) (a:AE) (n:Int) (i j:Nat) (t:Str) (k:Nat),b=[.ref p,.ref c]/\qc H p l a n/\H c=some (.tup [.int (i:Nat),.int (j:Nat)])/\a[i]?=some t/\t.cps.toList[j]?=some k/\t.length<=Xq/\48<=k/\k<=56/\Q (.int ((k:Int)-48)) H
def int_sign {k:Nat}(h1:48<=k)(h2:k<=56):OJ ⟨#[k]⟩=some ((k:Int)-48):=by
 have:∀k∈Wc 57,48<=k->OJ ⟨#[k]⟩=some ((k:Int)-48):=by decide+kernel
 exact this k (VL.mpr (by lia)) h1
def zio:zE ["board","cell"] ["board","cell"] (zf qy):=bh
def J1 (D:zh K mg "sign_at" qy ["board","cell"] f fd):qA P w K mg base CX0 1 f fd ["board","cell"] zqC:=by
 refine D.F.ok zio (λu H Q E h=>?_) (λe A a s H u Q E x h=>?_)
 .revert h;refine fj λp l c r n i j t=>fc λk z0 _=>?_;subst z0;rfl
 .revert h;refine fj λp l c r n i j t=>fk λk=>fE λz0 b d g=>eV λm o q=>?_;subst z0;refine⟨_,(zg (zJ (qh QD (qh jd (qh qf (pvS 0) zk (λ_ _=>rfl)) (qh qf (pvS 1) zk (λ_ _=>rfl)) (λ_ _=>rfl)) (qh qf (pvS 1) zk (λ_ _=>rfl)) (λ_ _=>rfl)))),?_⟩;(try dsimp only[cxK,cxP,cxW]);exact⟨_,rfl,p,_,0,_,rfl,rfl,SqT.of b.tp,rfl,_,rfl,c,_,0,_,rfl,rfl,SqT.of d,rfl,l,_,_,_,rfl,rfl,SqL.of b.rw,Jt (v:=V.str t) (by rw[Xw,g];rfl),_,rfl,c,_,1,_,rfl,rfl,SqT.of d,rfl,t,_,k,rfl,rfl,o,Jt m,q⟩
def Zu:zE ["board","found","row","text"] ["board"] (zf qk):=bh
def zaV (T:Txt mg)(D:zh K mg "cells_of" qk ["board"] f fd):qA P w K mg base CX0 1 f fd ["board"] (zor zP):=by
 refine D.F.ok Zu (λvs H Q E h=>?_) (λal A ak s H vs Q E hr h=>?_)
 .revert h;refine eZ λa l rs n z0 _=>?_;subst z0;rfl
 .obtain⟨a,l,rs,n,rfl,b,⟨sg,R⟩,q⟩:=h;refine⟨_,(@ze _ _ _ _ _ (@zC _ _ 1 _ _ _ _ Zu.nd rfl (XF rfl) (@qm _ _ _ _ zb) (by rfl) (.inr rfl)) (ze (qB Xh rfl (xS (by rfl) T.qY (za (qh qf (pvS 0) zk (λ_ _=>rfl)) zb)) (JO rfl (zR (zq (i:=2) Zu.nd rfl (UR rfl)) (zR (zq (i:=3) Zu.nd rfl (XF rfl)) jB))) (zg (jA (ZK WR S5 S4 zbk (pvS 1) (za (qz (N:=["column","sign","row"]) (src:=[none,none,some 2]) (zW.free (O:=(zf qk).names) (XN:=["board","found","row","text"]) rfl rfl ⟨_,rfl⟩ rfl rfl (by decide+kernel) (by decide+kernel) (by decide+kernel) rfl (by decide+kernel)) rfl (zgk (by rfl) T.qY (za (pvS 3) zb)) (λ_ _ _ _ _=>(zaC (n:=2) (K:=K) (by rfl) rfl (zR (zq (i:=0) (by show W9 (["column","sign","row"]:AE);decide+kernel) rfl (XF rfl)) (zR (zq (i:=1) (by show W9 (["column","sign","row"]:AE);decide+kernel) rfl (XF rfl)) jB)))) (λ_ _ _ _ _=>(qt (zL zcI (pvS 1) (j7 (v:=.str "#") (by rfl) T.Qj.choose_spec (by exact⟨_,rfl⟩)) (qe _)))) (λ_ _ _ _ _=>(qH (za (pvS 2) (za (pvS 0) zb))))) zb))))) (zg (zJ (pvS 1))))),?_⟩;(try dsimp only[cxK,cxP,cxW]);refine⟨ZU,λd hd=>?_⟩;have s0:zB H (upd H d (.lst [])):=zd hd;refine⟨_,rfl,a,_,0,_,rfl,rfl,SqT.of (b.mono s0).tp,rfl,l,rfl,⟨_,SqL.of (b.mono s0).rw⟩,?_⟩;refine yX (K:=K) (l:=l) (xs:=rs.map V.str) (λi U I=>∃(v2 v3:Option V) (B:AF),U=[some (.ref a),some (.ref d),v2,v3]/\zB H I/\I d=some (.lst B)/\Cel I B (Cells.zF zP 0 ((codes rs).take i)))
   ⟨_,_,[],rfl,s0,zc,.nil⟩ (λi U I _ ⟨_,_,_,_,s1,_⟩=>SqL.of (b.mono s1).rw) ?_ ?_
  .refine λi x tt U H1 hx ai=>fu λv2 v3 B z0 s1 Y r=>?_;subst z0;rw[Xw]at hx;cases e:rs[i]? with
   | none =>
    rw[e]at hx;cases hx
   | some t =>
    rw[e]at hx;cases hx;have am:i<rs.length:=(XZ.mp e).1;have st:zB H1 (upd H1 tt (.tup [.int (i:Nat),.str t])):=zd ai;refine dR tt rfl (SqT.of zc) rfl rfl rfl rfl ?_;have aa:upd H1 tt (.tup [.int (i:Nat),.str t]) d=some (.lst B):=st _ _ Y;refine⟨_,rfl,.inl ⟨rfl,_,SqL.of aa⟩,_,rfl,t,rfl,λz hz=>?_⟩;refine zcO (x:=t) (λj U I=>∃(u0 u1:Option V) (m:AF),U=[u0,u1,some (.int (i:Nat))]/\zB (upd H1 tt (.tup [.int (i:Nat),.str t])) I/\I z=some (.lst m)/\Cel I m (Cells.qa zP i 0 (t.cps.toList.take j)))
     (dH (eF [] rfl (zd hz) zc (.nil))) ?_ ?_
    .refine λj c t2 U J hc ah=>fu λu0 u1 m z0 s2 k g=>?_;subst z0;refine dR t2 rfl (SqT.of zc) rfl rfl rfl rfl ?_;refine⟨_,rfl,rfl,_,rfl,?_⟩;have ag:t.cps.toList[j]?=some c:=by rw[Xz];exact hc
     have L:zB J (upd J t2 (.tup [.int (j:Nat),.str ⟨#[c]⟩])):=zd ah;have step:=Cells.zaf (p:=zP) (i:=i) ag;have ed:(!decide (V.str ⟨#[c]⟩=V.str "#"))=zP c:=by
      rw[Jw];simp only[zah];rfl
     rw[ed];by_cases hp:zP c=true
     .rw[hp]at step;refine j9 hp ?_;refine⟨_,rfl,_,rfl,ZV,λM af=>?_⟩;have aj:z≠M:=zj (L _ _ k) af;have s4:zB (upd J t2 (.tup [.int (j:Nat),.str ⟨#[c]⟩])) (upd (upd J t2 (.tup [.int (j:Nat),.str ⟨#[c]⟩])) M (.tup [.int (i:Nat),.int (j:Nat)])):=zd af;have ac:m.length<=8:=by
       rw[g.length];refine X5 (Cells.jF _ _ _ _) ?_;have:=R.short _ (X8 (qJ e));rw[XQ];lia
      refine dU m (s4 _ _ (L _ _ k)) (XM ac (by decide)) (dF (some (.int (j:Nat))) (some (.str ⟨#[c]⟩)) (eF (m++[.ref M]) rfl (λb' o G=>?_) zc ?_))
      .have hb:b'≠z:=λy=>by
        subst y;rw[hz]at G;cases G
       rw[zp hb];exact s4 _ _ (L _ _ (s2 _ _ G))
      .rw[step];have keep:∀x o,x≠z->upd (upd J t2 (.tup [.int (j:Nat),.str ⟨#[c]⟩])) M (.tup [.int (i:Nat),.int (j:Nat)]) x=some o->upd (upd (upd J t2 (.tup [.int (j:Nat),.str ⟨#[c]⟩])) M (.tup [.int (i:Nat),.int (j:Nat)])) z (.lst (m++[.ref M])) x=some o:=λx o hx G=>by
        rw[zp hx];exact G
       refine Cel.snoc ?_ ⟨M,rfl,keep _ _ aj.symm zc⟩;exact Cel.into z (.lst (m++[.ref M])) (s4 _ _ (L _ _ k)) (Cel.mono s4 (Cel.mono L g))
     .have ae:zP c=false:=by simpa using hp
      rw[ae]at step;refine jC ae ?_;refine dF (some (.int (j:Nat))) (some (.str ⟨#[c]⟩)) (eF m rfl (s2.trans L) (L _ _ k) ?_);rw[step];simpa using Cel.mono L g
    .refine λU J=>fu λu0 u1 m z0 s2 k g=>?_;subst z0;have an:d≠z:=zj aa hz;have ab:J d=some (.lst B):=s2 _ _ aa;have full:t.cps.toList.take t.cps.size=t.cps.toList:=by
      rw[<- X6,XO]
     rw[full]at g;have step:=Cells.zag (p:=zP) (qJ e);have l1:B.length<=64:=by
      rw[r.length];refine X5 (Cells.qU _ _ _ λu hu=>R.short u (VJ hu)) ?_;have:=R.hi;rw[XQ,ja];lia
     have l2:m.length<=8:=by
      rw[g.length];exact X5 (Cells.jF _ _ _ _) (R.short _ (X8 (qJ e)))
     refine dM d z B m (dG rfl rfl ab k (X5 (Nat.add_le_add l1 l2) (by decide)) ?_);refine dH (eF (B++m) rfl (λb' o G=>?_) zc ?_)
     .have hb:b'≠d:=λy=>by
       subst y;rw[hd]at G;cases G
      rw[zp hb];exact s2 _ _ (st _ _ (s1 _ _ G))
     .rw[step];exact Cel.into d _ ab (Cel.append (Cel.mono s2 (Cel.mono st r)) g)
  .refine λU H1=>fu λv2 v3 B z0 s1 Y r=>?_;subst z0;rw[Y1,<- ja,XO]at r;exact⟨_,rfl,q d B H1 hd Y r s1⟩
def zbZ (T:Txt mg)(D:zh K mg "cells_of" qk ["board"] f fd):qA P w K mg base CX0 1 f fd ["board"] (zin zP):=(zaV T D).imp λ_ _ _ _ ⟨a,l,c,n,e,b,R,q⟩=>⟨a,l,c,n,e,b,⟨_,R⟩,q⟩
def zos (c:Nat):(zP c&&decide (c=63))=J0 c:=by
 unfold zP J0;by_cases h:c=63
 .subst h;rfl
 .simp[h]
def zkM:zE ["board"] ["board"] (zf ZY):=bh
def Z1 {f1 f2:Addr}{aa ab:XC}(T:Txt mg)(D:zh K mg "closed" ZY ["board"] f fd)(zv:zh K mg "cells_of" qk ["board"] f1 aa)(zu:zh K mg "sign_at" qy ["board","cell"] f2 ab) :
  qA P w K mg base CX0 2 f fd ["board"] (zin J0):=by
 refine D.F.ok zkM (λvs H Q E h=>?_) (λaf A ae s H vs Q E hr h=>?_)
 .revert h;refine eZ λa l g n z0 _=>?_;subst z0;rfl
 .revert h;refine fm λa l g n z0 b R q=>?_;subst z0;refine⟨_,(zg (zJ (qz (N:=["cell","board"]) (src:=[none,some 0]) (zW.free (O:=(zf ZY).names) (XN:=["board"]) rfl rfl ⟨_,rfl⟩ rfl rfl (by decide+kernel) (by decide+kernel) (by decide+kernel) rfl (by decide+kernel)) rfl (zO (pc0 (zbZ T zv) hr zv (za (pvS 0) zb))) (λ_ _ _ _ _=>(zq (i:=0) (by show W9 (["cell","board"]:AE);decide+kernel) rfl (XF rfl))) (λ_ _ _ _ _=>(qt (zL zbQ (pc0 (J1 zu) hr zu (za (pvS 1) (za (pvS 0) zb))) (j7 (v:=.str "?") (by rfl) T.ZH.choose_spec (by exact⟨_,rfl⟩)) (qe _)))) (λ_ _ _ _ _=>(pvS 0))))),?_⟩;(try dsimp only[cxK,cxP,cxW]);refine⟨_,rfl,a,l,g,n,rfl,b,R,λd ws H1 hd G I s1=>⟨d,rfl,⟨_,SqL.of G⟩,λz hz=>?_⟩⟩;have nz:d≠z:=zj G hz;refine qj (K:=K) (a:=d) (xs:=ws) (λi σ Y=>∃(u0:Option V) (r:AF),σ=[u0,some (.ref a)]/\zB H1 Y/\Y z=some (.lst r)/\Cel Y r (((Cells.zF zP 0 (codes g)).take i).filter λx=>decide (Cells.sgn (codes g) x=63)))
   ⟨_,[],rfl,zd hz,zc,.nil⟩ (λi σ Y _ ⟨_,_,_,B,_⟩=>SqL.of (B _ _ G)) ?_ ?_
  .refine λi x σ H2 hx=>eU λu0 r z0 B m e=>?_;subst z0;refine e9 (λc L ca z0 J=>?_) (Cel.get (Cel.mono B I) hx);subst z0;refine fm (λk0 j u k ec M hj ag=>?_) (Cells.yZ (X8 L));obtain⟨t,ht,rfl⟩:=QH M;rw[VR]at ec;subst ec;refine⟨_,rfl,_,rfl,a,l,ca,g,n,k0,j,t,k,rfl,(b.mono s1).mono B,J,ht,hj,R.tlen ht,rfl,_,rfl,?_⟩;have es:Cells.sgn (codes g) (k0,j)=k:=Cells.zbv M hj;have step:((Cells.zF zP 0 (codes g)).take (i+1)).filter (λx=>decide (Cells.sgn (codes g) x=63))=((Cells.zF zP 0 (codes g)).take i).filter (λx=>decide (Cells.sgn (codes g) x=63))++(if decide (k=63)=true then [(k0,j)] else []):=by
    rw[XI,L,Xg];congr 1;show OM _ [(k0,j)]=_;rw[Xb];try dsimp only
    rw[es];split<;>rfl
   have ed:decide (V.str ⟨#[k]⟩=V.str "?")=decide (k=63):=by
    rw[zbE];simp only[zah]
   rw[ed];by_cases hp:decide (k=63)=true
   .rw[bw hp]at step;refine j9 hp ?_;have U:r.length<=64:=by
     rw[e.length];refine X5 (Xi _ _) ?_;rw[XQ];have h1:=Cells.qU zP 0 (codes g) R.short;have h2:=R.hi;rw[ja]at h1;lia
    refine⟨_,rfl,r,m,XM U (by decide),_,r++[.ref ca],rfl,λb' o e'=>?_,zc,?_⟩
    .have hb:b'≠z:=λy=>by
      subst y;rw[hz]at e';cases e'
     rw[zp hb];exact B _ _ e'
    .rw[step];exact Cel.into z _ m (Cel.snoc e ⟨ca,rfl,J⟩)
   .rw[bq hp]at step;refine jC (by simpa using hp) ?_;refine⟨_,r,rfl,B,m,?_⟩;rw[step];simpa using e
  .rintro σ H2 ⟨u0,r,rfl,B,m,e⟩;rw[I.length,XO,Cells.all_filter (p:=zP) (q:=λk=>decide (k=63)) (codes g)]at e;have ac:H z=none:=s1.free hz;exact q z r H2 ac m (by rw[Cells.zgS (q:=J0) zos]at e;exact e) (s1.trans B)
def zd6:zE ["board"] ["board"] (zf qD):=bh
def xN {f1 f2:Addr}{aa ab:XC}(T:Txt mg)(D:zh K mg "open_cells" qD ["board"] f fd)(zv:zh K mg "cells_of" qk ["board"] f1 aa)(zu:zh K mg "sign_at" qy ["board","cell"] f2 ab) :
  qA P w K mg base CX0 2 f fd ["board"] (zin Z0):=by
 refine D.F.ok zd6 (λvs H Q E h=>?_) (λaf A ae s H vs Q E hr h=>?_)
 .revert h;refine eZ λa l g n z0 _=>?_;subst z0;rfl
 .revert h;refine fm λa l g n z0 b R q=>?_;subst z0;refine⟨_,(zg (zJ (qz (N:=["cell","board"]) (src:=[none,some 0]) (zW.free (O:=(zf qD).names) (XN:=["board"]) rfl rfl ⟨_,rfl⟩ rfl rfl (by decide+kernel) (by decide+kernel) (by decide+kernel) rfl (by decide+kernel)) rfl (zO (pc0 (zbZ T zv) hr zv (za (pvS 0) zb))) (λ_ _ _ _ _=>(zq (i:=0) (by show W9 (["cell","board"]:AE);decide+kernel) rfl (XF rfl))) (λ_ _ _ _ _=>(qt (zL zcI (pc0 (J1 zu) hr zu (za (pvS 1) (za (pvS 0) zb))) (j7 (v:=.str "?") (by rfl) T.ZH.choose_spec (by exact⟨_,rfl⟩)) (qe _)))) (λ_ _ _ _ _=>(pvS 0))))),?_⟩;(try dsimp only[cxK,cxP,cxW]);refine⟨_,rfl,a,l,g,n,rfl,b,R,λd ws H1 hd G I s1=>⟨d,rfl,⟨_,SqL.of G⟩,λz hz=>?_⟩⟩;have nz:d≠z:=zj G hz;refine qj (K:=K) (a:=d) (xs:=ws) (λi σ Y=>∃(u0:Option V) (r:AF),σ=[u0,some (.ref a)]/\zB H1 Y/\Y z=some (.lst r)/\Cel Y r (((Cells.zF zP 0 (codes g)).take i).filter λx=>!decide (Cells.sgn (codes g) x=63)))
   ⟨_,[],rfl,zd hz,zc,.nil⟩ (λi σ Y _ ⟨_,_,_,B,_⟩=>SqL.of (B _ _ G)) ?_ ?_
  .refine λi x σ H2 hx=>eU λu0 r z0 B m e=>?_;subst z0;refine e9 (λc L ca z0 J=>?_) (Cel.get (Cel.mono B I) hx);subst z0;refine fm (λk0 j u k ec M hj ag=>?_) (Cells.yZ (X8 L));obtain⟨t,ht,rfl⟩:=QH M;rw[VR]at ec;subst ec;refine⟨_,rfl,_,rfl,a,l,ca,g,n,k0,j,t,k,rfl,(b.mono s1).mono B,J,ht,hj,R.tlen ht,rfl,_,rfl,?_⟩;have es:Cells.sgn (codes g) (k0,j)=k:=Cells.zbv M hj;have step:((Cells.zF zP 0 (codes g)).take (i+1)).filter (λx=>!decide (Cells.sgn (codes g) x=63))=((Cells.zF zP 0 (codes g)).take i).filter (λx=>!decide (Cells.sgn (codes g) x=63))++(if (!decide (k=63))=true then [(k0,j)] else []):=by
    rw[XI,L,Xg];congr 1;show OM _ [(k0,j)]=_;rw[Xb];try dsimp only
    rw[es];split<;>rfl
   have ed:(!decide (V.str ⟨#[k]⟩=V.str "?"))=(!decide (k=63)):=by
    rw[zbE];simp only[zah]
   rw[ed];by_cases hp:(!decide (k=63))=true
   .rw[bw hp]at step;refine j9 hp ?_;have U:r.length<=64:=by
     rw[e.length];refine X5 (Xi _ _) ?_;rw[XQ];have h1:=Cells.qU zP 0 (codes g) R.short;have h2:=R.hi;rw[ja]at h1;lia
    refine⟨_,rfl,r,m,XM U (by decide),_,r++[.ref ca],rfl,λb' o e'=>?_,zc,?_⟩
    .have hb:b'≠z:=λy=>by
      subst y;rw[hz]at e';cases e'
     rw[zp hb];exact B _ _ e'
    .rw[step];exact Cel.into z _ m (Cel.snoc e ⟨ca,rfl,J⟩)
   .rw[bq hp]at step;refine jC (by simpa using hp) ?_;refine⟨_,r,rfl,B,m,?_⟩;rw[step];simpa using e
  .refine λσ H2=>eU λu0 r z0 B m e=>?_;subst z0;rw[I.length,XO,Cells.all_filter (p:=zP) (q:=λk=>(!decide (k=63))) (codes g)]at e;have ac:H z=none:=s1.free hz;exact q z r H2 ac m e (s1.trans B)
def zfD:zE ["board","cell"] ["board","cell"] (zf jZ):=bh
def zaW {o:Addr}{a:XC}(T:Txt mg)(D:zh K mg "number_at" jZ ["board","cell"] f fd)(g:zh K mg "sign_at" qy ["board","cell"] o a):qA P w K mg base CX0 2 f fd ["board","cell"] zms:=by
 refine D.F.ok zfD (λG H Q E h=>?_) (λm A d s H G Q E y h=>?_)
 .revert h;refine fj λp l c e n i j t=>fc λk z0 _=>?_;subst z0;rfl
 .revert h;refine fj λp l c e n i j t=>fk λk=>fE λz0 b r u=>fE λv x z B q=>?_;subst z0;refine⟨_,(zg (zJ (qI zaD (by rfl) T.zmn Sb (za (pc0 (J1 g) y g (za (pvS 0) (za (pvS 1) zb))) zb)))),?_⟩;(try dsimp only[cxK,cxP,cxW]);exact⟨_,rfl,_,rfl,p,l,c,e,n,i,j,t,k,rfl,b,r,u,v,x,⟨#[k]⟩,_,rfl,int_sign z B,(by show 1<=640;decide),q⟩
def zeO {k:Nat}(h:k∈bd.cps.toList)(a:Z0 k=true):48<=k/\k<=56:=by
 have:∀k∈bd.cps.toList,Z0 k=true->48<=k/\k<=56:=by decide+kernel
 exact this k h a
def zM (rs:AE)(y:AA):AD:=(Cells.zF zP 0 (codes rs)).filter λx=>Cells.near x y
def zmt:Sp:=λf H Q _=>∃(p l c:Addr) (b:AE) (n:Int) (i j:Nat),f=[.ref p,.ref c]/\qc H p l b n/\Rows bd.cps.toList b/\H c=some (.tup [.int (i:Nat),.int (j:Nat)])/\i<64/\j<64 /\
 ∀(d:Addr) (e:AF) (a:Hp),H d=none->a d=some (.lst e)->Cel a e (zM b (i,j))->zB H a->Q (.ref d) a
def zg2 (i:Nat):(if (0:Int)>(i:Int)-1 then (0:Int) else (i:Int)-1)=((i-1:Nat):Int):=by
 split<;>lia
def zg3 (i m:Nat):(if ((m:Nat):Int)<(i:Int)+2 then ((m:Nat):Int) else (i:Int)+2)=((min (i+2) m:Nat):Int):=by
 split<;>lia
def zg4 {f:AA->Bool}{l:AD}{x:AA}(a:Bool):(l++(if a=true then [x] else [])).filter f=l.filter f++(if (a&&f x)=true then [x] else []):=by
 rw[Xg];congr 1;by_cases h:a=true
 .by_cases h2:f x=true
  .simp[h,h2]
  .simp[h,h2]
 .simp[h]
def Z3:zE ["board","cell","rows","found","row","column"] ["board","cell"] (zf jY):=bh
def Z4 (T:Txt mg)(D:zh K mg "around" jY ["board","cell"] f fd):qA P w K mg base CX0 1 f fd ["board","cell"] zmt:=by
 refine D.F.ok Z3 (λvs H Q E h=>?_) (λau A ap s H vs Q E hr h=>?_)
 .revert h;refine eW λp l M e=>fC λn i j z0 _=>?_;subst z0;rfl
 .revert h;refine eW λp l M e=>eX λn i j z0 b R B=>eV λaq ar q=>?_;subst z0;refine⟨_,(ze (zC (i:=2) Z3.nd rfl (XF rfl) (qh qf (pvS 0) zk (λ_ _=>rfl))) (@ze _ _ _ _ _ (@zC _ _ 3 _ _ _ _ Z3.nd rfl (XF rfl) (@qm _ _ _ _ zb) (by rfl) (.inr rfl)) (ze (qB Xh rfl (zej (by rfl) T.JA (za (zx (zek rfl) (by rfl) T.zmo Sa (za (zK jD (qh qf (pvS 1) zk (λ_ _=>rfl)) zk) (@za _ _ _ _ _ zk zb rfl))) (za (zx (zbh rfl) (by rfl) T.zjx TN (za (zK jm (qh qf (pvS 1) zk (λ_ _=>rfl)) zk) (za (zx zD (by rfl) T.qG Xk (za (pvS 2) zb)) zb))) zb))) (zq (i:=4) Z3.nd rfl (XF rfl)) (zg (qB Xh rfl (zej (by rfl) T.JA (za (zx (zek rfl) (by rfl) T.zmo Sa (za (zK jD (qh qf (pvS 1) zk (λ_ _=>rfl)) zk) (@za _ _ _ _ _ zk zb rfl))) (za (zx (zbh rfl) (by rfl) T.zjx TN (za (zK jm (qh qf (pvS 1) zk (λ_ _=>rfl)) zk) (za (zx qS (by rfl) T.qG Xk (za (qh jd (pvS 2) (pvS 4) (λ_ _=>rfl)) zb)) zb))) zb))) (zq (i:=5) Z3.nd rfl (XF rfl)) (zg (jk (PW.pt (zli (zL zcI (qh QD (qh jd (pvS 2) (pvS 4) (λ_ _=>rfl)) (pvS 5) (λ_ _=>rfl)) (j7 (v:=.str "#") (by rfl) T.Qj.choose_spec (by exact⟨_,rfl⟩)) (qe _)) (zi2 (zL (yW hr.units) (qH (za (pvS 4) (za (pvS 5) zb))) (pvS 1) (qe _))))) (zg (jA (ZK WR Wn Wm jE (pvS 3) (za (qH (za (pvS 4) (za (pvS 5) zb))) zb)))) ql))))) (zg (zJ (pvS 3)))))),?_⟩;(try dsimp only[cxK,cxP,cxW]);refine⟨_,rfl,p,_,0,_,rfl,rfl,SqT.of b.tp,rfl,?_⟩;refine⟨ZU,λd hd=>?_⟩;have s0:zB H (upd H d (.lst [])):=zd hd;have r8:=R.hi;refine⟨_,rfl,M,_,0,_,rfl,rfl,SqT.of (s0 _ _ B),rfl,_,_,rfl,rfl,_,_,rfl,_,rfl,M,_,0,_,rfl,rfl,SqT.of (s0 _ _ B),rfl,_,_,rfl,rfl,_,rfl,l,_,rfl,.inl (SqL.of (b.mono s0).rw),_,_,rfl,((i-1:Nat):Int),((min (i+2) e.length:Nat):Int),?_,⟨by lia,by lia,by lia,by lia⟩,?_⟩
  .show [V.int (if (0:Int)>(i:Int)-1 then (0:Int) else (i:Int)-1),V.int (if (((e.map V.str).length:Nat):Int)<(i:Int)+2 then (((e.map V.str).length:Nat):Int) else (i:Int)+2)]=_;rw[Y1,zg2,zg3]
  refine j8 (lo:=((i-1:Nat):Int)) (λk σ O=>∃(v4 v5:Option V) (L:AF),σ=[some (.ref p),some (.ref M),some (.ref l),some (.ref d),v4,v5]/\zB H O/\O d=some (.lst L)/\Cel O L ((Cells.zF zP 0 ((codes e).take (i-1+k))).filter λx=>Cells.near x (i,j)))
   (dH (eF [] rfl s0 zc ?_)) ?_ ?_
  .rw[Cells.zmc]
   .exact .nil
   .intro r c al;rw[W6,ne_eq,Cells.yI];rintro⟨⟨_,h2⟩,_⟩;dsimp only at h2;lia
  .refine λk σ H1 hk=>fu λv4 v5 L z0 s1 Y J=>?_;subst z0;have am:i-1+k<e.length:=by lia
   have U:((i-1:Nat):Int)+(k:Nat)=((i-1+k:Nat):Int):=by lia
   rw[U];generalize ax:i-1+k=r at *
   obtain⟨t,ht⟩:∃t,e[r]?=some t:=⟨_,X2 am⟩;have ai:t.length<=Xq:=R.tlen ht;have az:t.cps.toList.length<=8:=R.short _ (X8 (qJ ht));have ab:atI (e.map V.str) ((r:Nat):Int)=some (V.str t):=Jt (by rw[Xw,ht];rfl);refine⟨_,rfl,M,_,1,_,rfl,rfl,SqT.of (s1 _ _ B),rfl,_,_,rfl,rfl,_,_,rfl,_,rfl,M,_,1,_,rfl,rfl,SqT.of (s1 _ _ B),rfl,_,_,rfl,rfl,_,rfl,_,rfl,l,_,_,_,rfl,rfl,SqL.of (b.mono s1).rw,ab,t,rfl,ai,_,_,rfl,((j-1:Nat):Int),((min (j+2) t.cps.size:Nat):Int),?_,⟨by lia,by lia,by lia,?_⟩,?_⟩
   .show [V.int (if (0:Int)>(j:Int)-1 then (0:Int) else (j:Int)-1),V.int (if ((t.cps.size:Nat):Int)<(j:Int)+2 then ((t.cps.size:Nat):Int) else (j:Int)+2)]=_;rw[zg2,zg3]
   .lia
   have ay:t.cps.toList.length=t.cps.size:=X6;refine j8 (lo:=((j-1:Nat):Int)) (λm σ O=>∃(v5:Option V) (L:AF),σ=[some (.ref p),some (.ref M),some (.ref l),some (.ref d),some (.int (r:Nat)),v5]/\zB H O/\O d=some (.lst L)/\Cel O L ((Cells.zF zP 0 ((codes e).take r)).filter (λx=>Cells.near x (i,j))++(Cells.qa zP r 0 (t.cps.toList.take (j-1+m))).filter λx=>Cells.near x (i,j)))
    (dS L rfl s1 Y ?_) ?_ ?_
   .rw[Cells.zmd (t:=t.cps.toList),Xa]
    .exact J
    .intro c aj;rw[W6,ne_eq,Cells.yI];rintro⟨_,⟨_,h2⟩,_⟩;dsimp only at h2;lia
   .refine λm σ H2 hm=>eU λv5 y z0 s2 G g=>?_;subst z0;have aw:j-1+m<t.cps.size:=by lia
    have I:((j-1:Nat):Int)+(m:Nat)=((j-1+m:Nat):Int):=by lia
    rw[I];generalize av:j-1+m=c at *
    have z:j-1+(m+1)=c+1:=by lia
    obtain⟨N,af⟩:∃N,t.cps.toList[c]?=some N:=⟨_,X2 (by lia)⟩;have step:=Cells.zaf (p:=zP) (i:=r) af;have a:(Cells.qa zP r 0 (t.cps.toList.take (c+1))).filter (λx=>Cells.near x (i,j))=(Cells.qa zP r 0 (t.cps.toList.take c)).filter (λx=>Cells.near x (i,j))++(if (zP N&&Cells.near (r,c) (i,j))=true then [(r,c)] else []):=by
     rw[step,zg4]
    have nr:Cells.near (r,c) (i,j)=!decide ((r,c)=(i,j)):=by
     rw[WX,Cells.yI];simp only[Ws,decide_eq_false_iff_not];constructor
     .exact λh=>h.2.2
     .intro h;refine⟨⟨?_,?_⟩,⟨?_,?_⟩,h⟩<;>(try dsimp only)<;>lia
    refine⟨_,rfl,_,rfl,l,_,_,_,rfl,rfl,SqL.of (b.mono s2).rw,ab,_,rfl,t,_,N,rfl,rfl,ai,Jt af,rfl,_,rfl,?_⟩;have ed:(!decide (V.str ⟨#[N]⟩=V.str "#"))=zP N:=by
     rw[Jw];simp only[zah];rfl
    rw[ed];by_cases hp:zP N=true
    .refine j9 hp ?_;refine⟨_,rfl,_,rfl,ZV,λtp an=>?_⟩;have s3:zB H2 (upd H2 tp (.tup [.int (r:Nat),.int (c:Nat)])):=zd an;have ae:=s3 _ _ (s2 _ _ B);refine⟨_,rfl,_,_,yL.rdv (c:=(r,c)) ⟨tp,rfl,zc⟩,yL.rdv (c:=(i,j)) ⟨M,rfl,ae⟩,zeN _ _,_,rfl,?_⟩;have ee:(if true=true then !PyData.eqv (zo (r,c)) (zo (i,j)) else W5 (zo (r,c)) (zo (i,j)))=Cells.near (r,c) (i,j):=by
      rw[zbD,nr];rfl
     rw[ee];rw[hp,RS]at a;by_cases hn:Cells.near (r,c) (i,j)=true
     .refine j9 hn ?_;rw[bw hn]at a;have aa:=s3 _ _ G;refine⟨_,rfl,.inl ⟨rfl,_,SqL.of aa⟩,_,rfl,_,rfl,ZV,λtq ao=>?_⟩;have s4:zB (upd H2 tp (.tup [.int (r:Nat),.int (c:Nat)])) (upd (upd H2 tp (.tup [.int (r:Nat),.int (c:Nat)])) tq (.tup [.int (r:Nat),.int (c:Nat)])):=zd ao;have ag:y.length<=128:=by
       rw[g.length,XU];have h1:=Xi (λx=>Cells.near x (i,j)) (Cells.zF zP 0 ((codes e).take r));have h2:=Xi (λx=>Cells.near x (i,j)) (Cells.qa zP r 0 (t.cps.toList.take c));have h3:=Cells.qU zP 0 ((codes e).take r) λu hu=>R.short u (VJ hu);have h4:=Cells.jF zP r 0 (t.cps.toList.take c);rw[XQ,ja]at h3;rw[XQ]at h4;lia
      refine⟨d,_,_,rfl,rfl,s4 _ _ aa,XM ag (by decide),?_⟩;refine dS (y++[.ref tq]) rfl (λb' o e'=>?_) zc ?_
      .rw[zp (zj e' hd)];exact s4 _ _ (s3 _ _ (s2 _ _ e'))
      .rw[z,a,<- WW];exact Cel.into d _ (s4 _ _ aa) (Cel.snoc (Cel.mono s4 (Cel.mono s3 g)) ⟨tq,rfl,zc⟩)
     .have ak:Cells.near (r,c) (i,j)=false:=by simpa using hn
      refine jC ak ?_;rw[bq hn,Xa]at a;refine dS y rfl (s2.trans s3) (s3 _ _ G) ?_;rw[z,a];exact Cel.mono s3 g
    .have ah:zP N=false:=by simpa using hp
     refine jC ah ?_;refine ZD ?_;rw[ah,Sy,bq XT,Xa]at a;refine dS y rfl s2 G ?_;rw[z,a];exact g
   .refine λσ H2=>eU λv5 y z0 s2 G g=>?_;subst z0;refine dH (eF y rfl s2 G ?_);have full:(Cells.qa zP r 0 (t.cps.toList.take (j-1+(((min (j+2) t.cps.size:Nat):Int)-((j-1:Nat):Int)).toNat))).filter (λx=>Cells.near x (i,j))=(Cells.qa zP r 0 t.cps.toList).filter λx=>Cells.near x (i,j):=by
     by_cases ac:t.cps.size<=j-1+(((min (j+2) t.cps.size:Nat):Int)-((j-1:Nat):Int)).toNat
     .rw[WC (by lia)]
     .refine Cells.zkH λc aj=>?_;rw[W6,ne_eq,Cells.yI];rintro⟨_,⟨h2,_⟩,_⟩;dsimp only at h2;lia
    rw[full]at g;have e1:i-1+(k+1)=r+1:=by lia
    rw[e1,Cells.zag (qJ ht),Xg];exact g
  .refine λσ H1=>fu λv4 v5 L z0 s1 Y J=>?_;subst z0;have full:(Cells.zF zP 0 ((codes e).take (i-1+(((min (i+2) e.length:Nat):Int)-((i-1:Nat):Int)).toNat))).filter (λx=>Cells.near x (i,j))=zM e (i,j):=by
    by_cases ac:e.length<=i-1+(((min (i+2) e.length:Nat):Int)-((i-1:Nat):Int)).toNat
    .rw[WC (by rw[ja];lia)];rfl
    .refine Cells.zkG λr c al=>?_;rw[W6,ne_eq,Cells.yI];rintro⟨⟨h2,_⟩,_⟩;dsimp only at h2;lia
   rw[full]at J;exact⟨_,rfl,q d L H1 hd Y J s1⟩
def yL.rdn {N:Addr->Prop}{H:Hp}{v:V}{c:AA}(h:yL H v c):Rdn N H v (zo c):=by
 obtain⟨a,rfl,h⟩:=h;exact .tup h (.cons (.int _) (.cons (.int _) .nil))
theorem Cel.rdn {N:Addr->Prop}{H:Hp}{vs:AF}{cs:AD}(a:Cel H vs cs):zG N H vs (cs.map zo):=by
 induction a with
 | nil=>exact .nil
 | cons h _ b =>
  exact .cons (yL.rdn h) b
def Rdn.celR {N:Addr->Prop}{H:Hp}{v:V}{c:AA}(h:Rdn N H v (zo c)):yL H v c:=by
 cases h with
 | tup h t =>
  cases t with
  | cons a t =>
   cases a;cases t with
   | cons b t =>
    cases b;cases t;exact⟨_,rfl,h⟩
theorem zG.cel {N:Addr->Prop}{H:Hp}:∀{cs:AD} {vs:AF},zG N H vs (cs.map zo)->Cel H vs cs
 | [],_,h=>by cases h;exact .nil
 | c::r,_,h=>by
  cases h with
  | cons a t=>exact .cons (Rdn.celR a) (zG.cel t)
theorem zG.bools {N:Addr->Prop}{H:Hp}:∀{bs:List Bool} {vs:AF},zG N H vs (bs.map SH)->vs=bs.map V.bl
 | [],_,h=>by cases h;rfl
 | b::r,_,h=>by
  cases h with
  | cons a t =>
   cases a;rw[zG.bools t];rfl
theorem qL {α:Type}(p:α->Bool)(g:α->We):∀cs:List α,(cs.map λx=>if p x=true then some (g x) else none).filterMap id=(cs.filter p).map g
 | []=>rfl
 | c::r=>by
  rw[Xo,UU,Xb];by_cases h:p c=true
  .rw[bw h,bw h];show g c::_=g c::_;rw[qL p g r]
  .rw[bq h,bq h];exact qL p g r
theorem Z5 {α:Type}(g:α->We):∀cs:List α,(cs.map λx=>some (g x)).filterMap id=cs.map g
 | []=>rfl
 | c::r=>by
  rw[Xo,UU];show g c::_=g c::_;rw[Z5 g r]
def yM {α b:Type}{g:α->b}{cs:List α}{i:Nat}{c:α}{o:b}(h:cs[i]?=some c)(a:(cs.map g)[i]?=some o):o=g c:=by
 rw[Xw,h]at a;exact(Option.some.inj a).symm
def clA (rs:AE)(c:AA):AD:=(zM rs c).filter λx=>decide (Cells.sgn (codes rs) x=63)
def zT (rs:AE):AD:=Cells.zF J0 0 (codes rs)
def zw (rs:AE):AD:=Cells.zF Z0 0 (codes rs)
def yf (rs:AE):AD:=(zT rs).filter λc=>!((zw rs).map λo=>(zM rs o).any λz=>decide (z=c)).any id
def jT (rs:AE):AD:=((zw rs).filter λo=>(clA rs o).isEmpty).filter λo=>!decide (Cells.sgn (codes rs) o=48)
def qN {p:Nat->Bool}{rs:AE}(R:Rows bd.cps.toList rs):(Cells.zF p 0 (codes rs)).length<=64:=by
 have h1:=Cells.qU p 0 (codes rs) R.short;have h2:=R.hi;rw[ja]at h1;lia
def xO {rs:AE}(R:Rows bd.cps.toList rs)(c:AA):(zM rs c).length<=64:=X5 (Xi _ _) (qN R)
def zY {p:Nat->Bool}{rs:AE}{c:AA}(h:c∈Cells.zF p 0 (codes rs)):∃t k,rs[c.1]?=some t/\t.cps.toList[c.2]?=some k/\p k=true/\Cells.sgn (codes rs) c=k:=by
 refine fm (λg j u k d a e b=>?_) (Cells.yZ h);obtain⟨t,f,rfl⟩:=QH a;rw[VR]at d;subst d;exact⟨t,k,f,e,b,Cells.zbv a e⟩
def J2 {rs:AE}{c:AA}{t:Str}{k:Nat}(R:Rows bd.cps.toList rs)(h1:rs[c.1]?=some t)(h2:t.cps.toList[c.2]?=some k):c.1<64/\c.2<64:=by
 have a:=(XZ.mp h1).1;have b:=(XZ.mp h2).1;have e:=R.hi;have f:=R.short _ (X8 (qJ h1));lia
def zjz {rs:AE}{i j:Nat}{t:Str}{k:Nat}(R:Rows bd.cps.toList rs)(h1:rs[i]?=some t)(h2:t.cps.toList[j]?=some k):k∈bd.cps.toList:=by
 obtain⟨n,_,_,h⟩:=R.ex;exact(h t (X8 h1)).mem k (X8 h2)
def zsa:Sp:=λg H Q _=>∃(p l e:Addr) (b:AE) (n:Int) (c:AA),g=[.ref p,.ref e]/\qc H p l b n/\Rows bd.cps.toList b/\H e=some (.tup [.int (c.1:Nat),.int (c.2:Nat)])/\c.1<64/\c.2<64 /\
 ∀(d:Addr) (f:AF) (a:Hp),H d=none->a d=some (.lst f)->Cel a f (clA b c)->zB H a->Q (.ref d) a
def zpo (g:AE->AD):Sp:=λf H Q _=>∃(a l:Addr) (c:AE) (n:Int),f=[.ref a]/\qc H a l c n/\Rows bd.cps.toList c /\
 ∀(d:Addr) (e:AF) (b:Hp),H d=none->b d=some (.lst e)->Cel b e (g c)->zB H b->Q (.ref d) b
def zbF:zE ["board","cell"] ["board","cell"] (zf qO):=bh
def Z6 {f1 f2:Addr}{J L:XC}(T:Txt mg)(D:zh K mg "closed_around" qO ["board","cell"] f fd)(zU:zh K mg "around" jY ["board","cell"] f1 J)(zu:zh K mg "sign_at" qy ["board","cell"] f2 L) :
  qA P w K mg base CX0 2 f fd ["board","cell"] zsa:=by
 refine D.F.ok zbF (λvs H Q E h=>?_) (λac A aa s H vs Q E hr h=>?_)
 .revert h;refine eW λp l ca u=>fq λn c=>ff λz0 _=>?_;subst z0;rfl
 .revert h;refine eW λp l ca u=>eY λn c z0 b R M=>eV λci cj q=>?_;subst z0;refine⟨_,(zg (zJ (qz (N:=["place","board"]) (src:=[none,some 0]) (zW.free (O:=(zf qO).names) (XN:=["board","cell"]) rfl rfl ⟨_,rfl⟩ rfl rfl (by decide+kernel) (by decide+kernel) (by decide+kernel) rfl (by decide+kernel)) rfl (zO (pc0 (Z4 T zU) hr zU (za (pvS 0) (za (pvS 1) zb)))) (λ_ _ _ _ _=>(zq (i:=0) (by show W9 (["place","board"]:AE);decide+kernel) rfl (XF rfl))) (λ_ _ _ _ _=>(qt (zL zbQ (pc0 (J1 zu) hr zu (za (pvS 1) (za (pvS 0) zb))) (j7 (v:=.str "?") (by rfl) T.ZH.choose_spec (by exact⟨_,rfl⟩)) (qe _)))) (λ_ _ _ _ _=>(pvS 0))))),?_⟩;(try dsimp only[cxK,cxP,cxW]);refine⟨_,rfl,_,rfl,p,l,ca,u,n,c.1,c.2,rfl,b,R,M,ci,cj,λd ws H1 hd j e s1=>⟨d,rfl,⟨_,SqL.of j⟩,λz hz=>?_⟩⟩;refine qM (K:=K) (a:=d) (xs:=ws) (λa=>a≠z) ((zM u c).map λx=>if decide (Cells.sgn (codes u) x=63)=true then some (zo x) else none) (fun σ=>∃u0,σ=[u0,some (.ref p)]) hz (λ_ h=>h) ⟨_,rfl⟩ (by rw[Y1];exact e.length.symm) (by rw[e.length];exact X5 (xO R c) (by decide)) (SqL.of j) ?_ ?_
  .rintro k x o σ H2 hx ho B _ ⟨u0,rfl⟩ Y Z ab no;obtain⟨y,hy,r1⟩:=Cel.get e hx;have g:=yM hy ho;obtain⟨t,I,ht,hj,_,es⟩:=zY (XS.mp (X8 hy)).1;obtain⟨ya,rfl,r⟩:=r1;refine⟨_,rfl,_,rfl,p,l,ya,u,n,y.1,y.2,t,I,rfl,(b.mono s1).mono B,B _ _ r,ht,hj,R.tlen ht,rfl,_,rfl,?_⟩;have ed:decide (V.str ⟨#[I]⟩=V.str "?")=decide (I=63):=by
    rw[zbE];simp only[zah]
   rw[ed];rw[es]at g;by_cases G:I=63
   .rw[br G];rw[bw (br G)]at g;exact zaA ⟨_,rfl,ab _ _ _ _ g ⟨_,rfl⟩ (zB.refl _) (yL.rdn ⟨ya,rfl,B _ _ r⟩)⟩
   .rw[bf G];rw[bq (by rw[bf G];exact XT)]at g;exact ZD (no _ _ g ⟨_,rfl⟩ (zB.refl _))
  .rintro ys H2 B U m;rw[qL]at m;exact q z ys H2 (s1.free hz) U (zG.cel m) (s1.trans B)
def zg5 (cs:AD):Wx (cs.map zo)=true:=by
 induction cs with
 | nil=>rfl
 | cons c r a =>
  show (Wq (zo c)&&Wx (r.map zo))=true;rw[a];rfl
def zqD (cs:AD):Wv (cs.map zo)<=1:=by
 induction cs with
 | nil=>exact W4 _
 | cons c r a =>
  show max (PyData.depth (zo c)) (Wv (r.map zo))<=1;have:PyData.depth (zo c)=1:=rfl;lia
def zfE (cs a:AD):zdW (.list (cs.map zo)) (.list (a.map zo)):=⟨zg5 cs,zg5 a,by
 show Wv (cs.map zo)+1<=64;have:=zqD cs;lia⟩
def xX (cs:AD)(c:AA):(cs.map zo).any (λz=>W5 z (zo c))=cs.any λz=>decide (z=c):=by
 rw[Tq];congr 1;funext z;exact zbD z c
def eq_nil (cs:AD):W5 (.list (cs.map zo)) (.list [])=cs.isEmpty:=by
 cases cs<;>rfl
def zmu:zE ["board","told"] ["board"] (zf zgY):=bh
def zmv {f1 f2 f3 f4 f5:Addr}{al am an ao ap:XC}(T:Txt mg)(D:zh K mg "far" zgY ["board"] f fd)(zU:zh K mg "around" jY ["board","cell"] f1 al)(zu:zh K mg "sign_at" qy ["board","cell"] f2 am)
  (zv:zh K mg "cells_of" qk ["board"] f3 an) (qR:zh K mg "closed" ZY ["board"] f4 ao) (zI:zh K mg "open_cells" qD ["board"] f5 ap):qA P w K mg base CX0 3 f fd ["board"] (zpo yf):=by
 refine D.F.ok zmu (λvs H Q E h=>?_) (λa3 A az s H vs Q E hr h=>?_)
 .revert h;refine eZ λa l g n z0 _=>?_;subst z0;rfl
 .revert h;refine fm λa l g n z0 b R q=>?_;subst z0;refine⟨_,(ze (zC (i:=1) zmu.nd rfl (UR rfl) (qz (N:=["cell","board"]) (src:=[none,some 0]) (zW.free (O:=(zf zgY).names) (XN:=["board","told"]) rfl rfl ⟨_,rfl⟩ rfl rfl (by decide+kernel) (by decide+kernel) (by decide+kernel) rfl (by decide+kernel)) rfl (zO (pc0 (xN T zI zv zu) hr zI (za (pvS 0) zb))) (λ_ _ _ _ _=>(zq (i:=0) (by show W9 (["cell","board"]:AE);decide+kernel) rfl (XF rfl))) (λ_ _ _ _ _=>qQ) (λ_ _ _ _ _=>(pc0 (Z4 T zU) hr zU (za (pvS 1) (za (pvS 0) zb)))))) (zg (zJ (zgq (N:=["cell","told"]) (src:=[none,some 1]) (Ju.byRfl (y:="cell") rfl (λ_ _=>rfl) (λ_=>rfl) (by decide+kernel) (by decide+kernel) (by rfl) rfl (by rfl)) rfl (zO (pc0 (Z1 T qR zv zu) hr qR (za (pvS 0) zb))) (λ_ _ _ _ _=>(zq (i:=0) (by show W9 (["cell","told"]:AE);decide+kernel) rfl (UR rfl))) (λ_ _ _ _ _=>(qt (ZC (QB (K:=K) (by rfl) (zx (zes (K:=K) (by rfl) (by rfl)) (by rfl) T.zmm R9 (za (qz (N:=["near","cell"]) (src:=[none,some 0]) (zW.byRfl rfl (by decide+kernel) (by decide+kernel) (by rfl) rfl (by rfl)) (by rfl) (zcR (K:=K) (by rfl) (pvS 1)) (λ_ _ _ _ _=>(zq (i:=0) (by show W9 (["near","cell"]:AE);decide+kernel) rfl (XF rfl))) (λ_ _ _ _ _=>qQ) (λ_ _ _ _ _=>(Yu (jy (K:=K) (by rfl) hr.units) (pvS 1) (pvS 0) (by rfl)))) zb)) (λ_=>rfl))))) (λ_ _ _ _ _=>(pvS 0)))))),?_⟩;(try dsimp only[cxK,cxP,cxW]);refine⟨_,rfl,a,l,g,n,rfl,b,R,λd ws H1 hd aa B s1=>(dU d rfl ⟨_,SqL.of aa⟩ (λz hz=>?_))⟩;have b1:=b.mono s1;refine qM (K:=K) (a:=d) (xs:=ws) (λa=>a≠z) ((zw g).map λo=>some (.list ((zM g o).map zo))) (fun u=>∃J,u=[J,some (.ref a)]) hz (λ_ h=>h) ⟨_,rfl⟩ (by rw[Y1];exact B.length.symm) (by rw[B.length];exact X5 (qN R) (by decide)) (SqL.of aa) ?_ ?_
  .rintro k x o u H2 hx ho s2 ay ⟨J,rfl⟩ Y Z M no;obtain⟨y,hy,r1⟩:=Cel.get B hx;have U:=yM hy ho;obtain⟨t,sg,ht,hj,_,es⟩:=zY (X8 hy);obtain⟨L,rfl,j⟩:=r1;obtain⟨l1,l2⟩:=J2 R ht hj;refine xH ⟨_,rfl,_,rfl,a,l,L,g,n,y.1,y.2,rfl,b1.mono s2,R,s2 _ _ j,l1,l2,λd2 a5 H3 ar ab aq s3=>?_⟩;refine M _ _ _ _ U ⟨_,rfl⟩ s3 (.lst (λe=>ay (e ▸ ar)) ab (Cel.rdn aq))
  .rintro ys H2 s2 aw I;rw[Z5]at I;have b2:=b1.mono s2;refine⟨_,rfl,a,l,g,n,rfl,b2,R,λd3 a1 H3 ab ac G s3=>⟨d3,rfl,⟨_,SqL.of ac⟩,λz3 ah=>?_⟩⟩;have ai:=s3 _ _ aw;have av:=I.keep s3;refine qM (K:=K) (a:=d3) (xs:=a1) (λa=>a≠z3) ((zT g).map λc=>if (!((zw g).map λo=>(zM g o).any λz=>decide (z=c)).any id)=true then some (zo c) else none) (fun u=>∃J,u=[J,some (.ref z)]) ah (λ_ h=>h) ⟨_,rfl⟩ (by rw[Y1];exact G.length.symm) (by rw[G.length];exact X5 (qN R) (by decide)) (SqL.of ac) ?_ ?_
   .rintro k x o u H4 hx ho s4 _ ⟨J,rfl⟩ Y Z M no;obtain⟨y,hy,r1⟩:=Cel.get G hx;have U:=yM hy ho;have r2:yL H4 x y:=by
     obtain⟨L,e,j⟩:=r1;exact⟨L,e,s4 _ _ j⟩
    refine⟨_,rfl,z,rfl,⟨_,SqL.of (s4 _ _ ai)⟩,λz5 ax=>?_⟩;have ag:ys.length=(zw g).length:=by rw[I.length,Y1]
    refine qM (K:=K) (a:=z) (xs:=ys) (λa=>a≠z5) ((zw g).map λo=>some (.bool ((zM g o).any λz=>decide (z=y)))) (fun u=>∃J,u=[J,some x]) ax (λ_ h=>h) ⟨_,rfl⟩ (by rw[Y1];exact ag.symm) (by rw[ag];exact X5 (qN R) (by decide)) (SqL.of (s4 _ _ ai)) ?_ ?_
    .rintro m v o2 u H5 hv au s5 _ ⟨u1,rfl⟩ Y2 Z2 aj a4;obtain⟨dv,p,rv⟩:=av.get hv;rw[Xw]at p;cases eoc:(zw g)[m]? with
     | none=>rw[eoc]at p;cases p
     | some oc =>
      rw[eoc]at p;cases p;have ak:=yM eoc au;have r3:yL H5 x y:=by
       obtain⟨L,e,j⟩:=r2;exact⟨L,e,s5 _ _ j⟩
      refine xH ⟨_,rfl,_,rfl,zo y,(zM g oc).map zo,r3.rdv,(((rv.keep s4).keep s5).rdv),rfl,zg5 _,(by show 1<=60;decide),?_⟩;have ei:(if false=true then !((zM g oc).map zo).any (λz=>W5 z (zo y)) else ((zM g oc).map zo).any λz=>W5 z (zo y))=(zM g oc).any λz=>decide (z=y):=xX _ _;rw[ei];exact aj _ _ _ _ ak ⟨_,rfl⟩ (zB.refl _) (.bl _)
    .rintro a6 H5 s5 r af;rw[Z5,show ((zw g).map λo=>SH ((zM g o).any λz=>decide (z=y)))=((zw g).map λo=>(zM g o).any λz=>decide (z=y)).map SH by rw[WE];rfl]at af;rw[zG.bools af]at r;refine dO z5 (dD rfl (SqL.of r) (dZ rfl ?_));by_cases hp:(!((zw g).map λo=>(zM g o).any λz=>decide (z=y)).any id)=true
     .rw[bw hp]at U;refine j9 hp ⟨_,rfl,M _ _ _ _ U ⟨_,rfl⟩ s5 (yL.rdn ?_)⟩;obtain⟨L,e,j⟩:=r2;exact⟨L,e,s5 _ _ j⟩
     .rw[bq hp]at U;exact jC (by simpa using hp) (no _ _ U ⟨_,rfl⟩ s5)
   .rintro a2 H4 s4 r ae;rw[qL]at ae;exact q z3 a2 H4 (s1.free (s2.free (s3.free ah))) r (zG.cel ae) (((s1.trans s2).trans s3).trans s4)
def Q3:zE ["board","bare"] ["board"] (zf ye):=bh
def Q4 {f1 f2 f3 f4 f5 f6:Addr}{ab ac ae af ag ah:XC}(T:Txt mg)(D:zh K mg "bare_wrong" ye ["board"] f fd)(zU:zh K mg "around" jY ["board","cell"] f1 ab)(zu:zh K mg "sign_at" qy ["board","cell"] f2 ac)
  (zv:zh K mg "cells_of" qk ["board"] f3 ae) (qd:zh K mg "closed_around" qO ["board","cell"] f4 af) (zI:zh K mg "open_cells" qD ["board"] f5 ag) (qp:zh K mg "number_at" jZ ["board","cell"] f6 ah):qA P w K mg base CX0 3 f fd ["board"] (zpo jT):=by
 refine D.F.ok Q3 (λvs H Q E h=>?_) (λan A al s H vs Q E hr h=>?_)
 .revert h;refine eZ λa l c n z0 _=>?_;subst z0;rfl
 .revert h;refine fm λa l c n z0 b R q=>?_;subst z0;refine⟨_,(ze (xJ (i:=1) Q3.nd rfl rfl (N:=["cell","board"]) (src:=[none,some 0]) (zW.free (O:=(zf ye).names) (XN:=["board","bare"]) rfl rfl ⟨_,rfl⟩ rfl rfl (by decide+kernel) (by decide+kernel) (by decide+kernel) rfl (by decide+kernel)) rfl (zO (pc0 (xN T zI zv zu) hr zI (za (pvS 0) zb))) (λ_ _ _ _ _=>(zq (i:=0) (by show W9 (["cell","board"]:AE);decide+kernel) rfl (XF rfl))) (λ_ _ _ _ _=>(qt (zL (Zk (K:=K) (by rfl) hr.units) (pc0 (Z6 T qd zU zu) hr qd (za (pvS 1) (za (pvS 0) zb))) (@qm _ _ _ _ zb) (qe _)))) (λ_ _ _ _ _=>(pvS 0))) (zg (zJ (qz (N:=["cell","board"]) (src:=[none,some 0]) (zW.free (O:=(zf ye).names) (XN:=["board","bare"]) rfl rfl ⟨_,rfl⟩ rfl rfl (by decide+kernel) (by decide+kernel) (by decide+kernel) rfl (by decide+kernel)) rfl (zO (pvS 1)) (λ_ _ _ _ _=>(zq (i:=0) (by show W9 (["cell","board"]:AE);decide+kernel) rfl (XF rfl))) (λ_ _ _ _ _=>(qt (zL zcI (pc0 (zaW T qp zu) hr qp (za (pvS 1) (za (pvS 0) zb))) zk (qe _)))) (λ_ _ _ _ _=>(pvS 0)))))),?_⟩;(try dsimp only[cxK,cxP,cxW]);refine⟨_,rfl,a,l,c,n,rfl,b,R,λd ws H1 hd G u s1=>⟨d,rfl,⟨_,SqL.of G⟩,λz hz=>?_⟩⟩;have b1:=b.mono s1;refine qM (K:=K) (a:=d) (xs:=ws) (λa=>a≠z) ((zw c).map λo=>if (clA c o).isEmpty=true then some (zo o) else none) (fun σ=>∃u0,σ=[u0,some (.ref a)]) hz (λ_ h=>h) ⟨_,rfl⟩ (by rw[Y1];exact u.length.symm) (by rw[u.length];exact X5 (qN R) (by decide)) (SqL.of G) ?_ ?_
  .rintro k x o σ H2 hx ho v ap ⟨u0,rfl⟩ Y Z B no;obtain⟨y,M,r1⟩:=Cel.get u hx;have p:=yM M ho;refine eU (λt sg L hj _ es=>?_) (zY (X8 M));obtain⟨ya,rfl,j⟩:=r1;obtain⟨l1,l2⟩:=J2 R L hj;refine⟨_,rfl,_,rfl,a,l,ya,c,n,y,rfl,b1.mono v,R,v _ _ j,l1,l2,λd2 aq H3 ao ai g s3=>⟨ZU,λe he=>?_⟩⟩;have m:=zd (o:=.lst []) he;refine dP (.list ((clA c y).map zo)) (.list []) (.lst (SqL.of (m _ _ ai)) (zG.rdv (N:=λ_=>True) (Cel.rdn (Cel.mono m g)))) (.lst (SqL.of zc) .nil) (zfE _ []) ⟨_,rfl,?_⟩;have ee:(if false=true then !PyData.eqv (.list ((clA c y).map zo)) (.list []) else W5 (.list ((clA c y).map zo)) (.list []))=(clA c y).isEmpty:=eq_nil _;rw[ee];by_cases r:(clA c y).isEmpty=true
   .rw[bw r]at p;exact j9 r ⟨_,rfl,B _ _ _ _ p ⟨_,rfl⟩ (s3.trans m) (yL.rdn ⟨ya,rfl,m _ _ (s3 _ _ (v _ _ j))⟩)⟩
   .rw[bq r]at p;exact jC (by simpa using r) (no _ _ p ⟨_,rfl⟩ (s3.trans m))
  .rintro ys H2 v U I;rw[qL]at I;have g:=zG.cel I;have b2:=b1.mono v;refine⟨_,rfl,z,rfl,⟨_,SqL.of U⟩,λz3 aa=>?_⟩;refine qM (K:=K) (a:=z) (xs:=ys) (λa=>a≠z3) (((zw c).filter λo=>(clA c o).isEmpty).map λo=>if (!decide (Cells.sgn (codes c) o=48))=true then some (zo o) else none) (fun σ=>∃u0,σ=[u0,some (.ref a)]) aa (λ_ h=>h) ⟨_,rfl⟩ (by rw[Y1];exact g.length.symm) (by rw[g.length];exact X5 (Xi _ _) (X5 (qN R) (by decide))) (SqL.of U) ?_ ?_
   .rintro k x o σ H4 hx ho m _ ⟨u0,rfl⟩ Y Z B no;obtain⟨y,M,r1⟩:=Cel.get g hx;have p:=yM M ho;obtain⟨t,sg,L,hj,aj,es⟩:=zY (XS.mp (X8 M)).1;obtain⟨ya,rfl,j⟩:=r1;obtain⟨k1,k2⟩:=zeO (zjz R L hj) aj;refine⟨_,rfl,_,rfl,a,l,ya,c,n,y.1,y.2,t,sg,rfl,b2.mono m,m _ _ j,L,hj,R.tlen L,k1,k2,rfl,_,rfl,?_⟩;have ed:(!decide (V.int ((sg:Int)-48)=V.int 0))=!decide (Cells.sgn (codes c) y=48):=by
     rw[es,zfe];congr 1;by_cases h:sg=48
     .rw[br h,h];rfl
     .rw[bf h];simp only[beq_eq_false_iff_ne,ne_eq];lia
    rw[ed];by_cases r:(!decide (Cells.sgn (codes c) y=48))=true
    .rw[bw r]at p;exact j9 r ⟨_,rfl,B _ _ _ _ p ⟨_,rfl⟩ (zB.refl _) (yL.rdn ⟨ya,rfl,m _ _ j⟩)⟩
    .rw[bq r]at p;exact jC (by simpa using r) (no _ _ p ⟨_,rfl⟩ (zB.refl _))
   .rintro am H4 m ak J;rw[qL]at J;exact q z3 am H4 (s1.free (v.free aa)) ak (zG.cel J) ((s1.trans v).trans m)
def zaX {K:XW}{H:Hp}{vs:AF}{cs:AD}(a:Cel H vs cs):Ja K H vs (cs.map zo):=by
 induction a with
 | nil=>exact .nil
 | cons h _ b =>
  exact .cons (yL.rdv h) b
def Ql (cs:AD):Wx (cs.map zo)=true:=by
 induction cs with
 | nil=>rfl
 | cons c r a =>
  show (Wq (zo c)&&Wx (r.map zo))=true;rw[a];rfl
def zdl (cs:AD):Wv (cs.map zo)<=1:=by
 induction cs with
 | nil=>exact W4 _
 | cons c r a =>
  show max (PyData.depth (zo c)) (Wv (r.map zo))<=1;have:PyData.depth (zo c)=1:=rfl;lia
def ziq (cs a:AD):zdW (.list (cs.map zo)) (.list (a.map zo)):=⟨Ql cs,Ql a,by
 show Wv (cs.map zo)+1<=64;have:=zdl cs;lia⟩
def toI (c:AA):Int×Int:=(((c.1:Nat):Int),((c.2:Nat):Int))
def ofI (p:Int×Int):AA:=(p.1.toNat,p.2.toNat)
def zjA (c:AA):ofI (toI c)=c:=rfl
def zot {c d:AA}(h:toI c=toI d):c=d:=by rw[<- zjA c,h,zjA]
def zou {c d:AA}:lt2 (toI c) (toI d)=true↔Cells.lex c d:=by
 obtain⟨a,b⟩:=c;obtain⟨x,y⟩:=d;unfold lt2 Cells.lex;show (if ((a:Nat):Int)=((x:Nat):Int) then decide (((b:Nat):Int)<((y:Nat):Int)) else decide (((a:Nat):Int)<((x:Nat):Int)))=true↔a<x\/(a=x/\b<y);by_cases e:a=x
 .rw[bw (by lia),bu];lia
 .rw[bq (by lia),bu];lia
def Cel.tup2 {H:Hp}{vs:AF}{cs:AD}(b:Cel H vs cs):xT H vs (cs.map toI):=by
 induction b with
 | nil=>exact .nil
 | cons q _ c =>
  obtain⟨a,e,h⟩:=q;exact .cons ⟨a,e,h⟩ c
theorem xY {H:Hp}:∀{cs:AD} {vs:AF},xT H vs (cs.map toI)->Cel H vs cs
 | [],_,.nil=>.nil
 | _::_,_,.cons ⟨a,e,h⟩ t=>.cons ⟨a,e,h⟩ (xY t)
def zov {ps:List (Int×Int)}{cs:AD}(h:ps.Perm (cs.map toI)):∃a:AD,ps=a.map toI/\a.Perm cs:=by
 refine⟨ps.map ofI,?_,?_⟩
 .rw[WE];refine(RP ps).symm.trans (Xf λp b=>?_);obtain⟨c,_,rfl⟩:=XJ.mp (h.mem_iff.mp b);rfl
 .have:=h.map ofI;rw[WE]at this;have e:cs.map (ofI∘toI)=cs:=(Xf λc _=>zjA c).trans (RP cs);rwa [e]at this
def zqE {cs:AD}(h:Up2 (cs.map toI)):cs.Pairwise Cells.lex:=by
 unfold Up2 at h;rw[VP]at h;exact h.imp λz=>zou.mp z
def yg {cs:AD}(h:cs.Pairwise Cells.lex):cs.Nodup:=h.imp λ{a b} z e=>by
 subst e;unfold Cells.lex at z;lia
def zkN (H:Hp)(v:V)(g:AD):Prop:=∃a b,v=V.ref a/\H a=some (.lst b)/\Cel H b g
def yt (H:Hp):AF->List AD->Prop:=W2 (zkN H)
theorem zkN.mono {H b:Hp}{v:V}{g:AD}(s:zB H b)(h:zkN H v g):zkN b v g:=by
 obtain⟨a,c,e,h1,h2⟩:=h;exact⟨a,c,e,s _ _ h1,h2.mono s⟩
theorem yt.mono {H a:Hp}(s:zB H a){vs:AF}{gs:List AD}(b:yt H vs gs):yt a vs gs:=by
 induction b with
 | nil=>exact .nil
 | cons h _ c =>
  exact .cons (h.mono s) c
theorem yt.get {H:Hp}:∀{vs:AF} {gs:List AD} {i:Nat} {v:V},yt H vs gs->vs[i]?=some v->∃g,gs[i]?=some g/\zkN H v g
 | _,_,_,_,.nil,e=>by simp at e
 | _,_,0,_,.cons r _,e=>by
  simp at e;subst e;exact⟨_,rfl,r⟩
 | _,_,i+1,v,.cons _ t,e=>by
  obtain⟨c,h1,h2⟩:=yt.get (i:=i) (v:=v) t (by simpa using e);exact⟨c,by simpa using h1,h2⟩
theorem yt.length {H:Hp}{vs:AF}{gs:List AD}(h:yt H vs gs):vs.length=gs.length:=Paired.length h
theorem yt.snoc {H:Hp}{vs:AF}{gs:List AD}{v:V}{g:AD}(h:yt H vs gs)(x:zkN H v g):yt H (vs++[v]) (gs++[g]):=Paired.snoc h x
def lD (g:AD):We:=.list (g.map zo)
theorem zeP {p q:Nat->Bool}(h:∀c,p c=true->q c=false)(i:Nat):∀(j:Nat) (t:List Nat),(Cells.qa p i j t).length+(Cells.qa q i j t).length<=t.length
 | _,[]=>XV _
 | j,c::r=>by
  have b:=zeP h i (j+1) r;rw[Cells.qa,Cells.qa,XU,XU,Xx];by_cases a:p c=true
  .rw[bw a,bq (by rw[h c a];exact XT)];simp only[Xx,UD];lia
  .rw[bq a];split<;>simp only[Xx,UD]<;>lia
theorem zeQ {p q:Nat->Bool}(h:∀c,p c=true->q c=false):∀(i:Nat) (rs:List (List Nat)),(∀t∈rs,t.length<=8)->(Cells.zF p i rs).length+(Cells.zF q i rs).length<=8*rs.length
 | _,[],_=>XV _
 | i,t::r,a=>by
  have d:=zeQ h (i+1) r λu b=>a u (XY _ b);have h1:=zeP h i 0 t;have h2:=a t XX;rw[Cells.zF,Cells.zF,XU,XU,Xx];lia
def zeR {rs:AE}(R:Rows bd.cps.toList rs):(zw rs).length+(zT rs).length<=64:=by
 have:=zeQ (p:=Z0) (q:=J0) (λc a=>by
  unfold Z0 at a;rw[Vu,Ws]at a;exact a.2) 0 (codes rs) R.short
 have h2:=R.hi;rw[ja]at this;unfold zw zT;lia
theorem zaY {p:Nat->Bool}{i:Nat}:∀{j m:Nat} {t:List Nat} {c:Nat},t[m]?=some c->p c=true->(i,j+m)∈Cells.qa p i j t
 | j,m,[],c,h,_=>by simp at h
 | j,0,d::r,c,h,a=>by
  have e:d=c:=by simpa using h
  subst e;rw[Cells.qa,bw a];exact WV _ XX
 | j,m+1,d::r,c,h,a=>by
  rw[Cells.qa];refine Xc _ ?_;have:=zaY (i:=i) (j:=j+1) (m:=m) (t:=r) (c:=c) (by simpa using h) a;rwa [show j+1+m=j+(m+1) by lia]at this
theorem JD {p:Nat->Bool}:∀{i m:Nat} {rs:List (List Nat)} {t:List Nat} {j c:Nat},rs[m]?=some t->t[j]?=some c->p c=true->(i+m,j)∈Cells.zF p i rs
 | i,m,[],t,j,c,h,_,_=>by simp at h
 | i,0,d::r,t,j,c,h,a,b=>by
  have e:d=t:=by simpa using h
  subst e;rw[Cells.zF];refine WV _ ?_;have:=zaY (i:=i) (j:=0) a b;rwa [show 0+j=j by lia]at this
 | i,m+1,d::r,t,j,c,h,a,b=>by
  rw[Cells.zF];refine Xc _ ?_;have:=JD (i:=i+1) (m:=m) (rs:=r) (t:=t) (j:=j) (c:=c) (by simpa using h) a b;rwa [show i+1+m=i+(m+1) by lia]at this
def zeS (rs:AE)(c:AA):(clA rs c).Nodup:=((yg (Cells.jQ _ 0 (codes rs))).sublist Wg).sublist Wg
def Z7 {rs:AE}{c x:AA}(h:x∈clA rs c):x∈zT rs:=by
 unfold clA at h;obtain⟨h1,h2⟩:=XS.mp h;obtain⟨t,k,d,b,_,e⟩:=zY (XS.mp h1).1;have a:k=63:=by
  have:=bg h2;lia
 subst a;have:=JD (p:=J0) (i:=0) (qJ d) b (by decide);rwa [VR]at this
def heads (gs:List AD):List (Int×Int):=gs.map λg=>toI (g.headD (0,0))
def head_mem {g:AD}(h:g ≠ []):g.headD (0,0)∈g:=by
 cases g with
 | nil=>exact absurd rfl h
 | cons a r=>exact XX
theorem zb0:∀{gs:List AD},(∀g∈gs,g ≠ [])->gs.flatten.Nodup->(heads gs).Nodup
 | [],_,_=>UL
 | g::r,h,d=>by
  rw[WA,WD]at d;obtain⟨_,h2,i⟩:=d;unfold heads;rw[Xo,Wf];refine⟨λj=>?_,zb0 (λx k=>h x (XY _ k)) h2⟩;obtain⟨b,a,e⟩:=XJ.mp j;have f:=zot e;have l:=head_mem (h g XX);have c:=head_mem (h b (XY _ a));rw[f]at c;exact i _ l _ (Wt.mpr ⟨b,a,c⟩) rfl
def JE (rs:AE)(part:AD):AD:=(zw rs).filter λo=>((zM rs o).map λz=>part.any λx=>decide (x=z)).any id
def zqF:Sp:=λh H Q _=>∃(a l e:Addr) (c:AE) (n:Int) (f:AF) (part:AD),h=[.ref a,.ref e]/\qc H a l c n/\Rows bd.cps.toList c/\H e=some (.lst f)/\Cel H f part /\
 ∀(d:Addr) (g:AF) (b:Hp),H d=none->b d=some (.lst g)->Cel b g (JE c part)->zB H b->Q (.ref d) b
def zd7:zE ["board","part"] ["board","part"] (zf jH):=bh
def zd8 {f1 f2 f3 f5:Addr}{ab ac ae af:XC}(T:Txt mg)(D:zh K mg "numbers_of" jH ["board","part"] f fd)(zU:zh K mg "around" jY ["board","cell"] f1 ab)(zu:zh K mg "sign_at" qy ["board","cell"] f2 ac)
  (zv:zh K mg "cells_of" qk ["board"] f3 ae) (zI:zh K mg "open_cells" qD ["board"] f5 af):qA P w K mg base CX0 3 f fd ["board","part"] zqF:=by
 refine D.F.ok zd7 (λvs H Q E h=>?_) (λao A al s H vs Q E hr h=>?_)
 .revert h;refine eW λa l pa e=>fC λn ps part z0 _=>?_;subst z0;rfl
 .revert h;refine eW λa l pa e=>fG λn ps part z0 b R ah ai q=>?_;subst z0;refine⟨_,(zg (zJ (qz (N:=["cell","part","board"]) (src:=[none,some 1,some 0]) (zW.free (O:=(zf jH).names) (XN:=["board","part"]) rfl rfl ⟨_,rfl⟩ rfl rfl (by decide+kernel) (by decide+kernel) (by decide+kernel) rfl (by decide+kernel)) rfl (zO (pc0 (xN T zI zv zu) hr zI (za (pvS 0) zb))) (λ_ _ _ _ _=>(zq (i:=0) (by show W9 (["cell","part","board"]:AE);decide+kernel) rfl (XF rfl))) (λ_ _ _ _ _=>(qt (QB (K:=K) (by rfl) (zx (zes (K:=K) (by rfl) (by rfl)) (by rfl) T.zmm R9 (za (qz (N:=["place","part"]) (src:=[none,some 1]) (zW.byRfl rfl (by decide+kernel) (by decide+kernel) (by rfl) rfl (by rfl)) (by rfl) (zcR (K:=K) (by rfl) (pc0 (Z4 T zU) hr zU (za (pvS 2) (za (pvS 0) zb)))) (λ_ _ _ _ _=>(zq (i:=0) (by show W9 (["place","part"]:AE);decide+kernel) rfl (XF rfl))) (λ_ _ _ _ _=>qQ) (λ_ _ _ _ _=>(Yu (jy (K:=K) (by rfl) hr.units) (pvS 0) (pvS 1) (by rfl)))) zb)) (λ_=>rfl)))) (λ_ _ _ _ _=>(pvS 0))))),?_⟩;(try dsimp only[cxK,cxP,cxW]);refine⟨_,rfl,a,l,e,n,rfl,b,R,λd ws H1 hd u g s1=>⟨d,rfl,⟨_,SqL.of u⟩,λz hz=>?_⟩⟩;have b1:=b.mono s1;refine qM (K:=K) (a:=d) (xs:=ws) (λa=>a≠z) ((zw e).map λo=>if (((zM e o).map λz=>part.any λx=>decide (x=z)).any id)=true then some (zo o) else none) (fun U=>∃u0,U=[u0,some (.ref pa),some (.ref a)]) hz (λ_ h=>h) ⟨_,rfl⟩ (by rw[Y1];exact g.length.symm) (by rw[g.length];exact X5 (qN R) (by decide)) (SqL.of u) ?_ ?_
  .rintro k x o U H2 hx ho p aq ⟨u0,rfl⟩ Y Z an no;obtain⟨y,hy,r1⟩:=Cel.get g hx;have eo:=yM hy ho;refine eU (λt sg ht hj _ es=>?_) (zY (X8 hy));obtain⟨ya,rfl,J⟩:=r1;obtain⟨l1,l2⟩:=J2 R ht hj;refine⟨_,rfl,_,rfl,a,l,ya,e,n,y.1,y.2,rfl,b1.mono p,R,p _ _ J,l1,l2,λd2 am H3 ap B j s3=>(dU d2 rfl ⟨_,SqL.of B⟩ (λz5 ak=>?_))⟩;refine qM (K:=K) (a:=d2) (xs:=am) (λa=>a≠z5) ((zM e y).map λc=>some (.bool (part.any λx=>decide (x=c)))) (fun U=>∃u0,U=[u0,some (.ref pa)]) ak (λ_ h=>h) ⟨_,rfl⟩ (by rw[Y1];exact j.length.symm) (by rw[j.length];exact X5 (xO R y) (by decide)) (SqL.of B) ?_ ?_
   .rintro m v o2 U H5 hv ag r _ ⟨u1,rfl⟩ Y2 Z2 M ar;obtain⟨c,hc,rc⟩:=Cel.get (Cel.mono r j) hv;have aa:=yM hc ag;have sA:=((s1.trans p).trans s3).trans r;refine xH ⟨_,rfl,_,rfl,zo c,part.map zo,rc.rdv,.lst (SqL.of (sA _ _ ah)) (zG.rdv (N:=λ_=>True) (Cel.rdn (Cel.mono sA ai))),rfl,zg5 _,(by show 1<=60;decide),?_⟩;have ei:(if false=true then !(part.map zo).any (λz=>W5 z (zo c)) else (part.map zo).any λz=>W5 z (zo c))=part.any λz=>decide (z=c):=xX _ _;rw[ei];exact M _ _ _ _ aa ⟨_,rfl⟩ (zB.refl _) (.bl _)
   .rintro au H5 r L I;rw[Z5,show ((zM e y).map λc=>SH (part.any λx=>decide (x=c)))=((zM e y).map λc=>part.any λx=>decide (x=c)).map SH by rw[WE];rfl]at I;rw[zG.bools I]at L;refine dO z5 (dD rfl (SqL.of L) (dZ rfl ?_));by_cases hp:(((zM e y).map λz=>part.any λx=>decide (x=z)).any id)=true
    .rw[bw hp]at eo;exact j9 hp ⟨_,rfl,an _ _ _ _ eo ⟨_,rfl⟩ (s3.trans r) (yL.rdn ⟨ya,rfl,r _ _ (s3 _ _ (p _ _ J))⟩)⟩
    .rw[bq hp]at eo;exact jC (by simpa using hp) (no _ _ eo ⟨_,rfl⟩ (s3.trans r))
  .rintro ys H2 p aj G;rw[qL]at G;exact q z ys H2 (s1.free hz) aj (zG.cel G) (s1.trans p)
def zir {a:AA->AD}{done:AD}{gs:List AD}{o:AA}(G:Parts.Good a done gs)(h:a o ≠ [])(c:(a o).Nodup){w:AD}(d:w.Pairwise Cells.lex)(j:∀x,x∈w↔x∈a o\/∃g∈gs,Parts.meets (a o) g=true/\x∈g):Parts.Good a (done++[o]) ((gs.filter λg=>!Parts.meets (a o) g)++[w]):=by
 refine G.step h c ?_ ?_ d
 .refine Vp λg i=>?_;congr 1;rw[WX,WF];constructor
  .exact λz=>⟨g,XS.mpr ⟨i,z⟩,br rfl⟩
  .rintro⟨m,b,e⟩;have f:m=g:=bg e;subst f;exact(XS.mp b).2
 .refine(Vk (yg d) (Parts.Qd c λm b=>G.nd.sublist (VN (XS.mp b).1))).mpr λx=>?_;rw[j,Parts.zbw];constructor
  .rintro(z | ⟨g,h1,h2,h3⟩)
   .exact .inl z
   .exact .inr ⟨g,XS.mpr ⟨h1,h2⟩,h3⟩
  .rintro(z | ⟨g,h1,h3⟩)
   .exact .inl z
   .exact .inr ⟨g,(XS.mp h1).1,(XS.mp h1).2,h3⟩
def zkO (cs g:AD):(cs.map λc=>g.any λz=>decide (z=c)).any id=Parts.meets cs g:=by
 rw[WX,Parts.ZW,Tq,WF];constructor
 .rintro⟨c,h1,h2⟩;have a:(g.any λz=>decide (z=c))=true:=h2;obtain⟨z,b,d⟩:=WF.mp a;have e:z=c:=bg d;subst e;exact⟨z,b,h1⟩
 .rintro⟨x,h1,h2⟩;refine⟨x,h2,?_⟩;show (g.any λz=>decide (z=x))=true;exact WF.mpr ⟨x,h1,br rfl⟩
def Zv (p:AD->Bool):AF->List AD->AF
 | v::vs,g::gs=>if p g=true then v::Zv p vs gs else Zv p vs gs
 | _,_=>[]
theorem Z8 (p:AD->Bool):∀(vs:AF) (gs:List AD),(Zv p vs gs).Sublist vs
 | [],_=>List.nil_sublist _
 | _::_,[]=>List.nil_sublist _
 | v::vs,g::gs=>by
  rw[Zv];split
  .exact(Z8 p vs gs).cons_cons v
  .exact(Z8 p vs gs).cons v
theorem zai {H:Hp}(p:AD->Bool):∀{vs:AF} {gs:List AD},yt H vs gs->yt H (Zv p vs gs) (gs.filter p)
 | _,_,.nil=>.nil
 | _,_,.cons (a:=v) (b:=g) h t=>by
  rw[Zv,Xb];by_cases c:p g=true
  .rw[bw c,bw c];exact .cons h (zai p t)
  .rw[bq c,bq c];exact zai p t
def zis (p:AD->Bool){vs:AF}{gs:List AD}{i:Nat}{v:V}{g:AD}(h1:vs[i]?=some v)(h2:gs[i]?=some g):Zv p (vs.take (i+1)) (gs.take (i+1))=Zv p (vs.take i) (gs.take i)++if p g=true then [v] else []:=by
 induction vs generalizing gs i with
 | nil=>cases h1
 | cons w vs a =>
  cases gs with
  | nil=>cases h2
  | cons k gs =>
   cases i with
   | zero =>
    cases h1;cases h2;simp[Zv]
   | succ i =>
    rw[Ul,Ul,Ul,Ul,Zv,Zv,a h1 h2];split<;>rfl
def zfF {m:List (Int×Int)}{l:AD}(h:∀c∈m,c∈l.map toI):m=(m.map ofI).map toI:=by
 rw[WE];refine(RP m).symm.trans (Xf λc a=>?_);obtain⟨x,_,rfl⟩:=XJ.mp (h c a);rfl
def zmw:Sp:=λl H Q _=>∃(e j:Addr) (i k:AF) (c:List AD) (a B:AD),l=[.ref e,.ref j]/\H e=some (.lst i)/\yt H i c/\H j=some (.lst k)/\Cel H k a/\a.Nodup/\c.flatten.Nodup/\(∀x∈a,x∈B)/\(∀x∈c.flatten,x∈B)/\(∀x∈B,x.1<8/\x.2<8)/\B.length<=63/\c.length<=63 /\
 (a=[]->∀b,zB H b->Q (.ref e) b) /\
 (a ≠ []->∀(d h:Addr) (f:AF) (w:AD) (b:Hp),H d=none->H h=none->b d=some (.lst (f++[.ref h]))->f.Sublist i->yt b (f++[.ref h]) ((c.filter λg=>!Parts.meets a g)++[w])->w.Pairwise Cells.lex->(∀x,x∈w↔x∈a\/∃g∈c,Parts.meets a g=true/\x∈g)->zB H b->Q (.ref d) b)
def QI:zE ["groups","cells","apart","together","group"] ["groups","cells"] (zf ZZ):=bh
def zkP (T:Txt mg)(D:zh K mg "joined" ZZ ["groups","cells"] f fd):qA P w K mg base CX0 1 f fd ["groups","cells"] zmw:=by
 refine D.F.ok QI (λvs H Q E h=>?_) (λaK A aI s H vs Q E hr h=>?_)
 .revert h;refine eW λga ca ws us=>fC λk d B z0 _=>?_;subst z0;rfl
 .revert h;refine eW λga ca ws us=>eX λk d B z0 ax hG M=>fE λhC aA aB cB=>e8 λgB B8 al an q1 q2=>?_;subst z0;have am:d.length<=63:=X5 (Parts.yw aA cB) al;have ae:k.flatten.length<=63:=X5 (Parts.yw aB gB) al;refine⟨_,(ze (jk (zL (yV hr.units) (pvS 1) (@qm _ _ _ _ zb) (qe _)) (zg (zJ (pvS 0))) ql) (@ze _ _ _ _ _ (@zC _ _ 2 _ _ _ _ QI.nd rfl (XF rfl) (@qm _ _ _ _ zb) (by rfl) (.inr rfl)) (ze (zC (i:=3) QI.nd rfl (XF rfl) (qI Yw (by rfl) T.zbC Vo (za (pvS 1) zb))) (ze (qB Xh rfl (zO (pvS 0)) (zq (i:=4) QI.nd rfl (UR rfl)) (zg (jk (JP (zx (zgn rfl) (by rfl) T.zmm R9 (za (qz (N:=["cell","group"]) (src:=[none,some 4]) (zW.free (O:=(zf ZZ).names) (XN:=["groups","cells","apart","together","group"]) rfl rfl ⟨_,rfl⟩ rfl rfl (by decide+kernel) (by decide+kernel) (by decide+kernel) rfl (by decide+kernel)) rfl (zO (pvS 1)) (λ_ _ _ _ _=>(zq (i:=0) (by show W9 (["cell","group"]:AE);decide+kernel) rfl (XF rfl))) (λ_ _ _ _ _=>qQ) (λ_ _ _ _ _=>(Yu (jy (K:=K) (by rfl) hr.units) (pvS 0) (pvS 1) (by rfl)))) zb)) (λ_=>rfl)) (zg (jA (ZK WR S5 S4 zbk (pvS 3) (za (pvS 4) zb)))) (zg (jA (ZK WR Wn Wm jE (pvS 2) (za (pvS 4) zb))))))) (zg (zJ (zK Y4 (pvS 2) (qm (za (zx (ST.zd2 hr.hd) (by rfl) T.zdi S2 (za (qI (ST.zkr hr.units hr.hd) (by rfl) T.zr7 PyProof.Rows.boot_set (za (pvS 3) zb)) zb)) zb))))))))),?_⟩;(try dsimp only[cxK,cxP,cxW]);refine⟨_,rfl,ZU,λe he=>?_⟩;have s1:zB H (upd H e (.lst [])):=zd he;refine dP (lD d) (.list []) (.lst (SqL.of (s1 _ _ M)) (zaX (hC.mono s1))) (.lst (SqL.of zc) .nil) (zfE _ []) ⟨_,rfl,?_⟩;have en:(if false=true then !PyData.eqv (lD d) (.list []) else W5 (lD d) (.list []))=d.isEmpty:=by
   show W5 _ _=_;exact eq_nil d
  rw[en];by_cases ac:d=[]
  .rw[show d.isEmpty=true by rw[ac];rfl];exact zaA ⟨_,rfl,q1 ac _ s1⟩
  rw[show d.isEmpty=false by rw[UE];exact ac];refine ZD ?_;generalize upd H e (.lst [])=H1 at *
  refine⟨ZU,λap au=>?_⟩;have s2:=s1.trans (zd (o:=.lst []) au);have ar:upd H1 ap (.lst []) ap=some (.lst []):=zc;have av:=s1.free au;generalize upd H1 ap (.lst [])=H2 at *
  refine⟨_,rfl,ca,_,rfl,.inl (SqL.of (s2 _ _ M)),λtg ak=>?_⟩;have z3:=zd (o:=.lst us) ak;have s3:=s2.trans z3;have aD:=z3 _ _ ar;have aG:upd H2 tg (.lst us) tg=some (.lst us):=zc;have a4:=s2.free ak;have a7:ap≠tg:=zj ar ak;generalize upd H2 tg (.lst us)=H3 at *
  refine⟨_,rfl,ga,rfl,⟨_,SqL.of (s3 _ _ ax)⟩,?_⟩;refine jM (K:=K) (a:=ga) (xs:=ws) (λi σ H'=>∃(ut:AF) (v4:Option V),σ=[some (.ref ga),some (.ref ca),some (.ref ap),some (.ref tg),v4]/\zB H H'/\H' ap=some (.lst (Zv (λg=>!Parts.meets d g) (ws.take i) (k.take i)))/\H' tg=some (.lst ut)/\Cel H ut (d++((k.take i).filter (Parts.meets d)).flatten))
   (dO us (dJ rfl s3 aD aG (by simpa using hC))) (λi σ H' _ ⟨_,_,_,z,_⟩=>SqL.of (z _ _ ax)) ?_ ?_
  .refine λi x σ H4 hx=>eY λut v4 z0 s4 J ai n=>?_;subst z0;refine fc (λg hg=>fh λao ug z0 af ah=>?_) (yt.get hG hx);subst z0;have gm:=X8 hg;have tk:(k.take (i+1)).filter (Parts.meets d)=(k.take i).filter (Parts.meets d)++if Parts.meets d g=true then [g] else []:=by
    rw[XI,hg,Xg];congr 1;show [g].filter _=_;rw[Xb];rfl
   have pk:=zis (λg=>!Parts.meets d g) hx hg;refine⟨_,rfl,ca,rfl,⟨_,SqL.of (s4 _ _ M)⟩,λz hz=>?_⟩;refine qM (K:=K) (a:=ca) (xs:=us) (λa=>a≠z) (d.map λc=>some (.bool (g.any λz=>decide (z=c)))) (fun σ=>∃u0,σ=[u0,some (.ref ao)]) hz (λ_ h=>h) ⟨_,rfl⟩ (by rw[Y1];exact hC.length.symm) (by rw[hC.length];exact X5 am (by decide)) (SqL.of (s4 _ _ M)) ?_ ?_
   .rintro m v o σ H5 hv ho s5 _ ⟨u1,rfl⟩ Y Z aJ no;have r:=s4.trans s5;obtain⟨c,L,rc⟩:=Cel.get (hC.mono r) hv;have eo:=yM L ho;refine xH ⟨_,rfl,_,rfl,zo c,g.map zo,rc.rdv,.lst (SqL.of (r _ _ af)) (zaX (ah.mono r)),rfl,zg5 _,(by show 1<=60;decide),?_⟩;have ei:(if false=true then !(g.map zo).any (λz=>W5 z (zo c)) else (g.map zo).any λz=>W5 z (zo c))=g.any λz=>decide (z=c):=xX _ _;rw[ei];exact aJ _ _ _ _ eo ⟨_,rfl⟩ (zB.refl _) (.bl _)
   .rintro ys H5 s5 a6 a3;rw[Z5,show (d.map λc=>SH (g.any λz=>decide (z=c)))=(d.map λc=>g.any λz=>decide (z=c)).map SH by rw[WE];rfl]at a3;rw[zG.bools a3]at a6;refine dO z (dD rfl (SqL.of a6) (dZ rfl ?_));rw[zkO];have r:=s4.trans s5;have u:=s5 _ _ J;have aj:=s5 _ _ ai;have aq:∀(q:AD->Bool) (j:Nat),(((k.take j).filter q).flatten).length<=63:=λq j=>by
     refine X5 (Vn ?_) ae;refine List.Sublist.trans (Parts.je q (k.take j)) ?_;have e2:k=k.take j++k.drop j:=(WU j k).symm;conv=>rhs;rw[e2,Wp]
     exact Uo _ _
    by_cases hp:Parts.meets d g=true
    .refine j9 hp ?_;refine⟨_,rfl,.inl ⟨rfl,_,SqL.of aj⟩,_,rfl,tg,ao,ut,ug,rfl,rfl,aj,r _ _ af,?_,?_⟩
     .rw[n.length,ah.length,XU];have a1:=aq (Parts.meets d) i;have a2:g.length<=63:=X5 (Vn (VN gm)) ae;exact X5 (show _<=200 by lia) (by decide)
     .refine dO (ut++ug) (dJ rfl (λb o eb=>?_) ?_ zc ?_)
      .rw[zp (zj eb a4)];exact r _ _ eb
      .rw[zp a7,pk,hp];simpa using u
      .rw[tk,bw hp,Wp,<- WW];simpa using Cel.append n ah
    .have az:=W6.mpr hp;refine jC az ?_;refine⟨_,rfl,.inl ⟨rfl,_,SqL.of u⟩,_,rfl,ap,_,_,rfl,rfl,u,?_,?_⟩
     .refine XM (Vn ((Z8 _ _ _).trans (TM _ _))) ?_;rw[hG.length];exact XM an (by decide)
     .refine dO ut (dJ rfl (λb o eb=>?_) ?_ ?_ ?_)
      .rw[zp (zj eb av)];exact r _ _ eb
      .rw[zc,pk,az];rfl
      .rw[zp (UQ a7)];exact aj
      .rw[tk,bq hp,Xa];exact n
  .refine λσ H4=>eY λut v4 z0 s4 J ai n=>?_;subst z0;rw[XO,hG.length,XO]at J;rw[hG.length,XO]at n;generalize hl:d++(k.filter (Parts.meets d)).flatten=l at n;have lB:∀x∈l,x∈B:=λx hx=>by
    rw[<- hl]at hx;rcases XG.mp hx with hx | hx
    .exact cB x hx
    .exact gB x ((Parts.je _ k).subset hx)
   refine⟨_,rfl,_,rfl,tg,ut,_,rfl,SqL.of ai,Cel.tup2 (n.mono s4),(λp hp=>?_),(λm hm hs=>?_),λds I aE hT G ag=>?_⟩
   .obtain⟨x,hx,rfl⟩:=XJ.mp hp;have:=B8 x (lB x hx);unfold ST.InB toI;show (0<=((x.1:Nat):Int)/\((x.1:Nat):Int)<8)/\(0<=((x.2:Nat):Int)/\((x.2:Nat):Int)<8);lia
   .have h1:=zfF hs;have h2:(m.map ofI).Nodup:=by
     rw[h1]at hm;unfold W9 at hm ⊢;rw[VP]at hm;exact hm.imp λz e=>z (by rw[e])
    have h3:=Parts.yw (b:=B) h2 λx hx=>by
     obtain⟨c,L,rfl⟩:=XJ.mp hx;obtain⟨y,hy,rfl⟩:=XJ.mp (hs c L);exact lB y hy
    rw[Y1]at h3;lia
   have z5:=zd (o:=ST.zgL P w ds I) aE;have U:∀c∈I.map (·.2),c∈l.map toI:=λc L=>(ag c).mp L;have kl:I.length<=63:=by
    have h1:=zfF U;have h2:((I.map (·.2)).map ofI).Nodup:=by
     rw[h1]at G;unfold W9 at G ⊢;rw[VP]at G;exact G.imp λz e=>z (by rw[e])
    have h3:=Parts.yw (b:=B) h2 λx hx=>by
     obtain⟨c,L,rfl⟩:=XJ.mp hx;obtain⟨y,hy,rfl⟩:=XJ.mp (U c L);exact lB y hy
    rw[Y1,Y1]at h3;lia
   have aw:upd H4 ds (ST.zgL P w ds I) ds=some (ST.zgL P w ds I):=zc;have s5:=s4.trans z5;have u:=z5 _ _ J;have aC:∀q∈I,upd H4 ds (ST.zgL P w ds I) q.1=some (.tup [.int q.2.1,.int q.2.2]):=λq hq=>z5 _ _ (hT q hq);refine dF ds I (dG rfl aw aC G (by lia) (λwa a8 aM a5 ht a9 aH=>?_));rw[zfF U]at a9;obtain⟨wc,rfl,aa⟩:=zov a9;have z6:=zd (o:=.lst a8) a5;refine⟨sz_1,λp1 aF=>?_⟩;have z7:=zd (o:=.lst [V.ref wa]) aF;have ab:=z6.trans z7;refine dF ap p1 ⟨_,(eK [.ref wa] rfl rfl (ab _ _ u) zc ?_ (λk2 ay=>?_))⟩
   .have a1:(Zv (λg=>!Parts.meets d g) ws k).length<=63:=X5 (Vn (Z8 _ _ _)) (by rw[hG.length];exact an);exact X5 (show _+1<=200 by lia) (by decide)
   .have z8:=zd (o:=.lst (Zv (λg=>!Parts.meets d g) ws k++[.ref wa])) ay;have s8:=s5.trans (ab.trans z8);refine q2 ac k2 wa _ wc _ ((s5.trans ab).free ay) (s5.free a5) zc (Z8 _ _ _) ?_ (zqE aH) (λx=>?_) s8
    .exact yt.snoc ((zai _ hG).mono s8) ⟨wa,a8,rfl,z8 _ _ (z7 _ _ zc),Cel.mono (ab.trans z8) (xY ht)⟩
    .rw[aa.mem_iff,XJ];have hx:(∃a,a∈I.map (·.2)/\ofI a=x)↔x∈l:=by
      constructor
      .rintro⟨c,L,rfl⟩;obtain⟨y,hy,rfl⟩:=XJ.mp (U c L);exact hy
      .intro h;exact⟨toI x,(ag _).mpr (XJ.mpr ⟨x,h,rfl⟩),rfl⟩
     rw[hx,<- hl,XG,Wt];constructor
     .rintro(h | ⟨g,h1,h2⟩)
      .exact .inl h
      .exact .inr ⟨g,(XS.mp h1).1,(XS.mp h1).2,h2⟩
     .rintro(h | ⟨g,h1,h2,h3⟩)
      .exact .inl h
      .exact .inr ⟨g,XS.mpr ⟨h1,h2⟩,h3⟩
def zow:Sp:=λg H Q _=>∃(p l:Addr) (c:AE) (n:Int),g=[.ref p]/\qc H p l c n/\Rows bd.cps.toList c /\
 ∀(d:Addr) (e:AF) (f:List AD) (b:Hp),H d=none->b d=some (.lst e)->yt b e f->e.Nodup->(∀v∈e,∃a,v=V.ref a/\H a=none/\a≠d)->Parts.Good (clA c) (zw c) f->Up2 (heads f)->zB H b->Q (.ref d) b
def zit {rs:AE}(R:Rows bd.cps.toList rs){x:AA}(h:x∈zT rs):x.1<8/\x.2<8:=by
 obtain⟨t,k,c,d,_,_⟩:=zY h;have a:=(XZ.mp c).1;have b:=(XZ.mp d).1;have e:=R.hi;have g:=R.short _ (X8 (qJ c));lia
theorem yt.some {H:Hp}{c:AF}{gs:List AD}(h:yt H c gs):∀v∈c,∃a b,v=V.ref a/\H a=some (.lst b):=by
 intro v d;obtain⟨_,_,a,b,e,h1,_⟩:=zlz h d;exact⟨a,b,e,h1⟩
def zmx {H:Hp}{b:AF}{gs:List AD}(h:yt H b gs):W2 (GS.LstAt H) b (gs.map (TC toI)):=by
 induction h with
 | nil=>exact .nil
 | cons r _ c =>
  obtain⟨a,d,e,h1,h2⟩:=r;exact .cons ⟨a,d,e,h1,h2.tup2⟩ c
def zmy {H:Hp}:∀{gs:List AD} {b:AF},W2 (GS.LstAt H) b (gs.map (TC toI))->yt H b gs:=by
 intro gs;induction gs with
 | nil =>
  intro b h;cases h;exact .nil
 | cons g r c =>
  intro b h;cases h with
  | cons q t =>
   obtain⟨a,d,e,h1,h2⟩:=q;exact .cons ⟨a,d,e,h1,xY h2⟩ (c t)
def zg6 {ks:List (List (Int×Int))}{gs:List AD}(h:ks.Perm (gs.map (TC toI))):∃a:List AD,ks=a.map (TC toI)/\a.Perm gs:=by
 have b:∀g:AD,(g.map toI).map ofI=g:=λg=>by
  rw[WE];exact(Xf λc _=>zjA c).trans (RP g)
 refine⟨ks.map (TC ofI),?_,?_⟩
 .rw[WE];refine(RP ks).symm.trans (Xf λp d=>?_);obtain⟨c,_,rfl⟩:=XJ.mp (h.mem_iff.mp d);show c.map toI=((c.map toI).map ofI).map toI;rw[b]
 .have:=h.map (TC ofI);rw[WE]at this;have e:gs.map (TC ofI∘TC toI)=gs:=(Xf λc _=>b c).trans (RP gs);rwa [e]at this
def zmz {gs:List AD}(h:(gs.map (TC toI)).Pairwise (λp q=>PySem.SeqAt.ltL q p=false))(j:∀g∈gs,g ≠ [])(u:(heads gs).Nodup):Up2 (heads gs):=by
 induction gs with
 | nil=>exact List.Pairwise.nil
 | cons g r n =>
  rw[Xo,Ro]at h;have d:toI (g.headD (0,0)) ∉ heads r/\(heads r).Nodup:=Wf.mp u;refine Ro.mpr ⟨λp l=>?_,n h.2 (λx m=>j x (XY _ m)) d.2⟩;obtain⟨f,c,rfl⟩:=XJ.mp l;have a:=h.1 _ (XJ.mpr ⟨f,c,rfl⟩);have i:toI (g.headD (0,0))≠toI (f.headD (0,0)):=λe=>d.1 (e ▸ l);have o:=j g XX;have s:=j f (XY _ c);cases g with
  | nil=>exact absurd rfl o
  | cons x v =>
   cases f with
   | nil=>exact absurd rfl s
   | cons y w =>
    have b:toI x≠toI y:=i;show lt2 (toI x) (toI y)=true;have k:(if toI y=toI x then PySem.SeqAt.ltL (w.map toI) (v.map toI) else lt2 (toI y) (toI x))=false:=a;rw[bq (UQ b)]at k;have:=zcn b;rw[k]at this;cases hh:lt2 (toI x) (toI y) with
    | true=>rfl
    | false =>
     rw[hh]at this;cases this
def zaZ:zE ["board","found","cell"] ["board"] (zf zcy):=bh
def zg7 {f1 f2 f3 f4 f5 f6:Addr}{ai aj ak al am an:XC}(T:Txt mg)(D:zh K mg "parts" zcy ["board"] f fd)(zU:zh K mg "around" jY ["board","cell"] f1 ai)(zu:zh K mg "sign_at" qy ["board","cell"] f2 aj)
  (zv:zh K mg "cells_of" qk ["board"] f3 ak) (zI:zh K mg "open_cells" qD ["board"] f4 al) (qd:zh K mg "closed_around" qO ["board","cell"] f5 am) (Z9:zh K mg "joined" ZZ ["groups","cells"] f6 an):qA P w K mg base CX0 3 f fd ["board"] zow:=by
 refine D.F.ok zaZ (λvs H Q E h=>?_) (λa5 A ax s H vs Q E hr h=>?_)
 .revert h;refine eZ λp l j n z0 _=>?_;subst z0;rfl
 .revert h;refine fm λp l j n z0 b R q=>?_;subst z0;refine⟨_,(@ze _ _ _ _ _ (@zC _ _ 1 _ _ _ _ zaZ.nd rfl (XF rfl) (@qm _ _ _ _ zb) (by rfl) (.inr rfl)) (ze (qB Xh rfl (zO (pc0 (xN T zI zv zu) hr zI (za (pvS 0) zb))) (zq (i:=2) zaZ.nd rfl (XF rfl)) (zg (zC (i:=1) zaZ.nd rfl (XF rfl) (pc0 (zkP T Z9) hr Z9 (za (pvS 1) (za (pc0 (Z6 T qd zU zu) hr qd (za (pvS 0) (za (pvS 2) zb))) zb)))))) (zg (zJ (zx (GS.QZ hr.units) (by rfl) T.zdi S2 (za (pvS 1) zb)))))),?_⟩;(try dsimp only[cxK,cxP,cxW]);refine⟨ZU,λk0 av=>?_⟩;have s0:zB H (upd H k0 (.lst [])):=zd av;have ac:upd H k0 (.lst []) k0=some (.lst []):=zc;generalize upd H k0 (.lst [])=H0 at *
  refine⟨_,rfl,p,l,j,n,rfl,b.mono s0,R,λdc wc H1 a7 ah J s1=>⟨dc,rfl,⟨_,SqL.of ah⟩,?_⟩⟩;have M:=s0.trans s1;have b1:=b.mono M;have J:Cel H1 wc (zw j):=J;have a9:=zeR R;refine jM (K:=K) (a:=dc) (xs:=wc) (λi σ H'=>∃(k:Addr) (U:AF) (I:List AD) (v2:Option V),σ=[some (.ref p),some (.ref k),v2]/\zB H1 H'/\H' k=some (.lst U)/\yt H' U I/\U.Nodup/\(∀v∈U,∃a,v=V.ref a/\H a=none)/\Parts.Good (clA j) ((zw j).take i) I)
   (dF k0 [] (dO [] (dJ rfl (zB.refl _) (s1 _ _ ac) (.nil) (dD UL (λv h=>nomatch h) (Parts.Good.start _))))) (λi σ H' _ ⟨_,_,_,_,_,z,_⟩=>SqL.of (z _ _ ah)) ?_ ?_
  .refine λi x σ H2 L=>fy λk U I v2 z0 Y hk hG=>eV λO m G=>?_;subst z0;refine e9 (λc hc ca z0 ar=>?_) (Cel.get (Cel.mono Y J) L);subst z0;have cm:=X8 hc;refine eU (λt sg ht hj _ es=>?_) (zY cm);obtain⟨l1,l2⟩:=J2 R ht hj;have tk:(zw j).take (i+1)=(zw j).take i++[c]:=by
    rw[XI,hc];rfl
   have y:(zT j).length<=63:=by
    have:=T2 cm;lia
   have gB:∀x∈I.flatten,x∈zT j:=λx L=>by
    obtain⟨o,_,h2⟩:=G.from_ x L;exact Z7 h2
   refine⟨_,rfl,_,rfl,_,rfl,p,l,ca,j,n,c,rfl,(b1.mono Y),R,ar,l1,l2,λd az H3 hd au aq B=>?_⟩;have ay:=M.trans (Y.trans B);refine dM k d U az (eE I (clA j c) (zT j) rfl (B _ _ hk) (hG.mono B) au (dJ aq (zeS j c) G.nd (λx L=>Z7 L) (dG gB (λx L=>zit R L) y (X5 (Parts.Qe G.ne) (X5 (Parts.yw G.nd gB) y)) (λa2 H' s'=>?_) (λaw d2 wa va aA H' a6 ag ab u ap a3 ae s'=>?_))))
   .refine dF k U (dO I (dJ rfl (Y.trans (B.trans s')) (s' _ _ (B _ _ hk)) ((hG.mono B).mono s') (dD O m ?_)));rw[tk];exact G.skip a2
   .refine⟨d2,(dH ⟨_,(dJ rfl (Y.trans (B.trans s')) ab ap (dD ?_ (λv hv=>?_) ?_))⟩)⟩
    .rw[WD];refine⟨O.sublist u,by simp,λa ha b hb e=>?_⟩;have aa:b=V.ref wa:=by simpa using hb
     subst e;obtain⟨a',N,e1,e2⟩:=yt.some (hG.mono B) a (u.subset ha);rw[aa]at e1;injection e1 with e1
     rw[<- e1,ag]at e2;cases e2
    .rcases XG.mp hv with hv | hv
     .exact m v (u.subset hv)
     .have aa:v=V.ref wa:=by simpa using hv
      exact⟨wa,aa,ay.free ag⟩
    .rw[tk];exact zir G aw (zeS j c) a3 ae
  .refine λσ H2=>fy λk U I v2 z0 Y hk hG=>eV λO m G=>?_;subst z0;rw[J.length,XO]at G;have ao:∀x∈I.flatten,x∈zT j:=λx L=>by
    obtain⟨o,_,h2⟩:=G.from_ x L;exact Z7 h2
   have wl:I.length<=63:=by
    cases I with
    | nil=>exact W4 _
    | cons g r =>
     have m1:=head_mem (G.ne g XX);obtain⟨o,ho,_⟩:=G.from_ _ (Wt.mpr ⟨g,XX,m1⟩);have:=T2 ho;have h3:=X5 (Parts.Qe G.ne) (Parts.yw (b:=zT j) G.nd ao);lia
   refine⟨_,rfl,k,U,_,rfl,SqL.of hk,zmx hG,(by rw[hG.length];lia),λd N a8 hd hl a1 a4 pw=>?_⟩;have B:=zd (o:=.lst N) hd;obtain⟨ds,rfl,pg⟩:=zg6 a1;have G':=G.perm pg;refine q d N ds _ ((M.trans Y).free hd) zc ((zmy hl).mono B) (pw.nodup_iff.mpr O) (λv hv=>?_) G' (zmz a4 G'.ne (zb0 G'.ne G'.nd)) ((M.trans Y).trans B);have af:=pw.mem_iff.mp hv;obtain⟨a,e1,e2⟩:=m v af;obtain⟨a',N,e3,e4⟩:=yt.some hG v af;refine⟨a,e1,e2,λz=>?_⟩;rw[e1]at e3;injection e3 with e3
   rw[<- e3,z,hd]at e4;cases e4
def pD (p:Int×Int):We:=.tuple [.int p.1,.int p.2]
def zmA (p q:Int×Int):W5 (pD p) (pD q)=decide (p=q):=PySem.SeqAt.zeu p q
def PR (H:Hp)(v:V)(p:Int×Int):Prop:=∃a,v=V.ref a/\H a=some (.tup [.int p.1,.int p.2])
def PR.mono {H b:Hp}(s:zB H b){v:V}{p:Int×Int}(h:PR H v p):PR b v p:=let ⟨a,e,h⟩:=h;⟨a,e,s _ _ h⟩
def Yb {H a:Hp}(s:zB H a){b:AF}{ps:List (Int×Int)}(c:xT H b ps):xT a b ps:=by
 induction c with
 | nil=>exact .nil
 | cons h _ d =>
  exact .cons (PR.mono s h) d
def zg8 {H:Hp}{a:AF}{ps:List (Int×Int)}(h:xT H a ps):a.length=ps.length:=Paired.length h
def PR.rdv {K:XW}{H:Hp}{v:V}{p:Int×Int}(h:PR H v p):Rdv K H v (pD p):=by
 obtain⟨a,rfl,h⟩:=h;exact .tup (SqT.of h) (.cons (.int _) (.cons (.int _) .nil))
def zmB {K:XW}{H:Hp}{a:AF}{ps:List (Int×Int)}(b:xT H a ps):Ja K H a (ps.map pD):=by
 induction b with
 | nil=>exact .nil
 | cons h _ c =>
  exact .cons (PR.rdv h) c
theorem zmC:∀ps:List (Int×Int),Wx (ps.map pD)=true
 | []=>rfl
 | p::r=>by
  show (Wq (pD p)&&Wx (r.map pD))=true;rw[zmC r];rfl
def zqG (ps:List (Int×Int))(p:Int×Int):(ps.map pD).any (λz=>W5 z (pD p))=ps.any λz=>decide (z=p):=by
 rw[Tq];congr 1;funext z;exact zmA z p
def zqH (ps:List (Int×Int))(c:AA):(ps.map pD).any (λz=>W5 z (zo c))=ps.any λz=>decide (z=toI c):=zqG ps (toI c)
def zqI {H:Hp}{a z:Addr}{o c:HO}(h:H a=some o)(hz:H z=some c)(b:o≠c):a≠z:=λe=>by
 subst e;rw[h]at hz;exact b (Option.some.inj hz)
def zox {H:Hp}{z:Addr}{ys b:AF}(hz:H z=some (.lst ys)){v:V}{p:Int×Int}(h:PR H v p):PR (upd H z (.lst b)) v p:=by
 obtain⟨a,e,h⟩:=h;refine⟨a,e,?_⟩;rw[zp (zqI h hz (λz=>nomatch z))];exact h
def Yc {H:Hp}{z:Addr}{ys a:AF}(hz:H z=some (.lst ys)){b:AF}{ps:List (Int×Int)}(c:xT H b ps):xT (upd H z (.lst a)) b ps:=by
 induction c with
 | nil=>exact .nil
 | cons h _ d =>
  exact .cons (zox hz h) d
def jU (N:Addr->Prop)(H:Hp):AF->List (List (Int×Int))->Prop:=W2 λv k=>∃a b,v=V.ref a/\N a/\H a=some (.lst b)/\xT H b k
def jg {N:Addr->Prop}{H b:Hp}(s:zB H b){c:AF}{ks:List (List (Int×Int))}(d:jU N H c ks):jU N b c ks:=by
 induction d with
 | nil=>exact .nil
 | cons q _ f =>
  obtain⟨a,g,e,n,h,t⟩:=q;exact .cons ⟨a,g,e,n,s _ _ h,Yb s t⟩ f
def zaj {N M:Addr->Prop}{H:Hp}(w:∀a,N a->M a){b:AF}{ks:List (List (Int×Int))}(c:jU N H b ks):jU M H b ks:=by
 induction c with
 | nil=>exact .nil
 | cons q _ d =>
  obtain⟨a,f,e,n,h,t⟩:=q;exact .cons ⟨a,f,e,w a n,h,t⟩ d
def J3 {N:Addr->Prop}{H:Hp}{z:Addr}{ys b:AF}(hz:H z=some (.lst ys))(w:∀a,N a->a≠z){c:AF}{ks:List (List (Int×Int))}(d:jU N H c ks):jU N (upd H z (.lst b)) c ks:=by
 induction d with
 | nil=>exact .nil
 | cons q _ f =>
  obtain⟨a,g,e,n,h,t⟩:=q;exact .cons ⟨a,g,e,n,by rw[zp (w a n)];exact h,Yc hz t⟩ f
def QJ {N:Addr->Prop}{H:Hp}{c:AF}{ks:List (List (Int×Int))}{b:AF}{a:List (List (Int×Int))}(h:jU N H c ks)(k:jU N H b a):jU N H (c++b) (ks++a):=zcQ h k
def jR {N:Addr->Prop}{H:Hp}{a:AF}{ks:List (List (Int×Int))}(h:jU N H a ks):a.length=ks.length:=Paired.length h
def za0 {N:Addr->Prop}{H:Hp}{c:AF}{ks:List (List (Int×Int))}{i:Nat}{v:V}(h:jU N H c ks)(e:c[i]?=some v):∃k a b,ks[i]?=some k/\v=V.ref a/\N a/\H a=some (.lst b)/\xT H b k:=by
 refine fc (λk h1=>fq λa b h2=>?_) (zgl h e);exact⟨k,a,b,h1,h2⟩
def zkQ {N:Addr->Prop}{H:Hp}{b:AF}{ks:List (List (Int×Int))}(c:jU N H b ks):W2 (GS.LstAt H) b ks:=by
 induction c with
 | nil=>exact .nil
 | cons q _ d =>
  obtain⟨a,f,e,_,h,t⟩:=q;exact .cons ⟨a,f,e,h,t⟩ d
def zmD {N:Addr->Prop}{H:Hp}{c:AF}{ks:List (List (Int×Int))}(f:W2 (GS.LstAt H) c ks)(n:∀v∈c,∃a,v=V.ref a/\N a):jU N H c ks:=by
 induction f with
 | nil=>exact .nil
 | cons q _ i =>
  obtain⟨a,k,e,h,t⟩:=q;obtain⟨b,d,j⟩:=n _ XX;subst e;cases d;exact .cons ⟨_,k,rfl,j,h,t⟩ (i λv g=>n v (XY _ g))
def QK {N:Addr->Prop}{H:Hp}{c:AF}{ks:List (List (Int×Int))}{v:V}(h:jU N H c ks)(e:v∈c):∃a b,v=V.ref a/\N a/\H a=some (.lst b):=by
 obtain⟨k,_,a,b,h1,h2,d,_⟩:=zlz h e;exact⟨a,b,h1,h2,d⟩
def zg9 {H:Hp}{c:AF}{ps:List (Int×Int)}{b:AF}{a:List (Int×Int)}(h:xT H c ps)(k:xT H b a):xT H (c++b) (ps++a):=zcQ h k
def nearF (rs:AE)(c x:AA):Bool:=(zM rs c).any λz=>decide (z=x)
def zQ (rs:AE)(c:AA):Int:=((Cells.sgn (codes rs) c:Nat):Int)-48
def zkR (rs:AE)(c:AA):(zM rs c).Nodup:=(yg (Cells.jQ _ 0 (codes rs))).sublist Wg
def zmE {rs:AE}{o:AA}{q:AD}(b:q.Nodup):((zM rs o).filter λx=>q.any λz=>decide (z=x)).length=Grow.cnt (nearF rs) o q:=by
 unfold Grow.cnt;refine List.Perm.length_eq ((Vk ((zkR rs o).sublist Wg) (b.sublist Wg)).mpr λx=>?_);rw[XS,XS];unfold nearF;rw[WF,WF];constructor
 .rintro⟨h1,y,hy,e⟩;have a:y=x:=bg e;subst a;exact⟨hy,y,h1,br rfl⟩
 .rintro⟨h1,y,hy,e⟩;have a:y=x:=bg e;subst a;exact⟨hy,y,h1,br rfl⟩
def zha (H:Hp)(rs:AE)(v:V)(o:AA):Prop:=∃a b c,v=V.ref a/\H a=some (.tup [.int (zQ rs o),.ref b])/\H b=some (.lst c)/\Cel H c (zM rs o)
def zhb (H:Hp)(rs:AE)(b:AD)(v:V)(o:AA):Prop:=∃a c d,v=V.ref a/\H a=some (.tup [.int (zQ rs o-((Grow.cnt (nearF rs) o b:Nat):Int)),.int (zQ rs o),.ref c])/\H c=some (.lst d)/\Cel H d (zM rs o)
def zkS {H b:Hp}(s:zB H b){rs:AE}{vs:AF}{cs:AD}(f:W2 (zha H rs) vs cs):W2 (zha b rs) vs cs:=by
 induction f with
 | nil=>exact .nil
 | cons q _ g =>
  obtain⟨a,h,i,e,h1,c,d⟩:=q;exact .cons ⟨a,h,i,e,s _ _ h1,s _ _ c,d.mono s⟩ g
def zbG {H c:Hp}(s:zB H c){rs:AE}{b:AD}{vs:AF}{cs:AD}(g:W2 (zhb H rs b) vs cs):W2 (zhb c rs b) vs cs:=by
 induction g with
 | nil=>exact .nil
 | cons q _ h =>
  obtain⟨a,i,j,e,h1,d,f⟩:=q;exact .cons ⟨a,i,j,e,s _ _ h1,s _ _ d,f.mono s⟩ h
def ZT {α a:Type}{R:α->a->Prop}{vs:List α}{cs:List a}{i:Nat}{v:α}(h:W2 R vs cs)(e:vs[i]?=some v):∃c,cs[i]?=some c/\R v c:=zgl h e
def ziu {α b:Type}{R:α->b->Prop}{c:List α}{cs:List b}{a:List α}{cs':List b}(h:W2 R c cs)(k:W2 R a cs'):W2 R (c++a) (cs++cs'):=zcQ h k
def zeU (H e:Hp)(rs:AE)(b:AD)(v:V)(o:AA):Prop:=∃a c d,v=V.ref a/\e a=some (.tup [.int (zQ rs o-((Grow.cnt (nearF rs) o b:Nat):Int)),.int (zQ rs o),.ref c])/\H c=some (.lst d)/\Cel H d (zM rs o)
def ziv {H c d:Hp}(s:zB c d){rs:AE}{b:AD}{vs:AF}{cs:AD}(h:W2 (zeU H c rs b) vs cs):W2 (zeU H d rs b) vs cs:=by
 induction h with
 | nil=>exact .nil
 | cons q _ i =>
  obtain⟨a,j,k,e,h1,f,g⟩:=q;exact .cons ⟨a,j,k,e,s _ _ h1,f,g⟩ i
theorem zdm {H c:Hp}{z:Addr}{ys d:AF}(hz:c z=some (.lst ys)){rs:AE}{b:AD}:∀{vs:AF} {cs:AD},W2 (zeU H c rs b) vs cs->W2 (zeU H (upd c z (.lst d)) rs b) vs cs
 | _,_,.nil=>.nil
 | _,_,.cons ⟨a,h,j,e,h1,f,g⟩ t=>.cons ⟨a,h,j,e,by
   have i:a≠z:=λe=>by
    subst e;rw[h1]at hz;cases hz
   rw[zp i];exact h1,f,g⟩ (zdm hz t)
def ziw {H c:Hp}(s:zB H c){rs:AE}{b:AD}{vs:AF}{cs:AD}(g:W2 (zeU H c rs b) vs cs):W2 (zhb c rs b) vs cs:=by
 induction g with
 | nil=>exact .nil
 | cons q _ h =>
  obtain⟨a,i,j,e,h1,d,f⟩:=q;exact .cons ⟨a,i,j,e,h1,s _ _ d,f.mono s⟩ h
def zoy:Sp:=λl H Q _=>∃(h f g:Addr) (j i:AF) (e:AE) (O a:AD) (c:AA),l=[.ref h,.ref f,.ref g]/\H h=some (.lst j)/\W2 (zha H e) j O/\O.length<=64/\Rows bd.cps.toList e/\H f=some (.tup [.int (c.1:Nat),.int (c.2:Nat)])/\H g=some (.lst i)/\Cel H i a/\a.Nodup /\
 ∀(d:Addr) (k:AF) (b:Hp),b d=some (.lst k)->W2 (zhb b e a) k (O.filter λo=>nearF e o c)->zB H b->Q (.ref d) b
def zsd:Sp:=λf H Q _=>∃(d e:Addr) (un up:AF) (b:AE) (a O q:AD),f=[.ref d,.ref e]/\H d=some (.lst un)/\W2 (zhb H b a) un O/\H e=some (.lst up)/\Cel H up q/\q.length<=64 /\
 ∀c:Hp,zB H c->Q (.bl (O.all λo=>Grow.zc9 (nearF b) (zQ b) a o q)) c
def xZ:zE ["told","cell","rest","needs","number","near","left"] ["told","cell","rest"] (zf yr):=bh
def zhc (T:Txt mg)(D:zh K mg "needs_at" yr ["told","cell","rest"] f fd):qA P w K mg base CX0 1 f fd ["told","cell","rest"] zoy:=by
 refine D.F.ok xZ (λvs H Q E h=>?_) (λan A aj s H vs Q E hr h=>?_)
 .revert h;refine fj λta ca ra ut ur j O g=>fc λc z0 _=>?_;subst z0;rfl
 .revert h;refine fj λta ca ra ut ur j O g=>fk λc=>fE λz0 ab hT ol=>e8 λR af ah ag ak q=>?_;subst z0;refine⟨_,(@ze _ _ _ _ _ (@zC _ _ 3 _ _ _ _ xZ.nd rfl (XF rfl) (@qm _ _ _ _ zb) (by rfl) (.inr rfl)) (ze (qB Xh rfl (zO (pvS 0)) (JO rfl (zR (zq (i:=4) xZ.nd rfl (XF rfl)) (zR (zq (i:=5) xZ.nd rfl (XF rfl)) jB))) (zg (jk (zL (zad hr.units) (pvS 1) (pvS 5) (by rfl)) (ze (zC (i:=6) xZ.nd rfl (XF rfl) (zx zD (by rfl) T.qG Xk (za (qz (N:=["place","rest"]) (src:=[none,some 2]) (zW.free (O:=(zf yr).names) (XN:=["told","cell","rest","needs","number","near","left"]) rfl rfl ⟨_,rfl⟩ rfl rfl (by decide+kernel) (by decide+kernel) (by decide+kernel) rfl (by decide+kernel)) rfl (zO (pvS 5)) (λ_ _ _ _ _=>(zq (i:=0) (by show W9 (["place","rest"]:AE);decide+kernel) rfl (XF rfl))) (λ_ _ _ _ _=>(qt (zL (jy (K:=K) (by rfl) hr.units) (pvS 0) (pvS 1) (by rfl)))) (λ_ _ _ _ _=>(pvS 0))) zb))) (zg (jA (ZK WR Wn Wm jE (pvS 3) (za (qH (za (zK jD (pvS 4) (pvS 6)) (za (pvS 4) (za (pvS 5) zb)))) zb))))) ql))) (zg (zJ (pvS 3))))),?_⟩;(try dsimp only[cxK,cxP,cxW]);refine⟨ZU,λd hd=>?_⟩;have s0:=zd (o:=.lst []) hd;refine⟨_,rfl,ta,rfl,⟨_,SqL.of (s0 _ _ ab)⟩,?_⟩;refine jM (K:=K) (a:=ta) (xs:=ut) (λi J H'=>∃(p:AF) (v4 v5 v6:Option V),J=[some (.ref ta),some (.ref ca),some (.ref ra),some (.ref d),v4,v5,v6]/\zB H H'/\H' d=some (.lst p)/\W2 (zeU H H' j g) p ((O.take i).filter λo=>nearF j o c))
   ⟨[],(dH ⟨_,(dI rfl s0 zc (.nil))⟩)⟩ (λi J H' _ ⟨_,_,_,_,_,z,_⟩=>SqL.of (z _ _ ab)) ?_ ?_
  .refine λi x J H1 hx=>fm λp v4 v5 v6 z0 s1 l L=>?_;subst z0;refine fc (λo ho=>fu λa na wn z0 ae y r=>?_) (ZT hT hx);subst z0;have ha:=s1 _ _ ae;have G:=s1 _ _ y;have k:=r.mono s1;have tk:O.take (i+1)=O.take i++[o]:=by
    rw[XI,ho];rfl
   refine dR a rfl (SqT.of ha) rfl rfl rfl rfl ?_;refine⟨_,rfl,_,rfl,zo c,(zM j o).map zo,yL.rdv ⟨ca,rfl,s1 _ _ af⟩,.lst (SqL.of G) (zaX k),rfl,zg5 _,(by show 1<=60;decide),_,rfl,?_⟩;have ei:(if false=true then !((zM j o).map zo).any (λz=>W5 z (zo c)) else ((zM j o).map zo).any λz=>W5 z (zo c))=nearF j o c:=xX _ _;rw[ei,tk,Xg];by_cases n:nearF j o c=true
   .have ef:[o].filter (λo=>nearF j o c)=[o]:=by
     rw[Xb,bw n];rfl
    rw[ef];refine j9 n ⟨_,rfl,na,rfl,⟨_,SqL.of G⟩,λz hz=>?_⟩;refine qM (K:=K) (a:=na) (xs:=wn) (λa=>a≠z) ((zM j o).map λx=>if (g.any λz=>decide (z=x))=true then some (zo x) else none) (fun J=>∃u0,J=[u0,some (.ref ra)]) hz (λ_ h=>h) ⟨_,rfl⟩ (by rw[Y1];exact k.length.symm) (by rw[k.length];exact X5 (xO R o) (by decide)) (SqL.of G) ?_ ?_
    .rintro m v u J H2 hv hu M _ ⟨u1,rfl⟩ Y Z am no;obtain⟨e,he,rc⟩:=Cel.get (k.mono M) hv;have eo:=yM he hu;refine⟨_,rfl,_,rfl,zo e,g.map zo,rc.rdv,.lst (SqL.of (M _ _ (s1 _ _ ah))) (zaX ((ag.mono s1).mono M)),rfl,zg5 _,(by show 1<=60;decide),_,rfl,?_⟩;have ei:(if false=true then !(g.map zo).any (λz=>W5 z (zo e)) else (g.map zo).any λz=>W5 z (zo e))=g.any λz=>decide (z=e):=xX _ _;rw[ei];by_cases n:(g.any λz=>decide (z=e))=true
     .rw[bw n]at eo;exact j9 n ⟨_,rfl,am _ _ _ _ eo ⟨_,rfl⟩ (zB.refl _) rc.rdn⟩
     .rw[bq n]at eo;exact jC (W6.mpr n) (no _ _ eo ⟨_,rfl⟩ (zB.refl _))
    rintro ys H2 M ai aa;have er:((zM j o).map λx=>if (g.any λz=>decide (z=x))=true then some (zo x) else none).filterMap id=((zM j o).filter λx=>g.any λz=>decide (z=x)).map zo:=qL _ _ _;rw[er]at aa;have yl:ys.length=Grow.cnt (nearF j) o g:=(zG.cel aa).length.trans (zmE ak);have B:=M _ _ l;refine⟨z,ys,rfl,.inl (SqL.of ai),?_⟩;rw[yl];refine⟨_,rfl,.inl ⟨rfl,_,SqL.of B⟩,_,rfl,_,rfl,_,_,rfl,rfl,_,rfl,_,rfl,zgP,λtt I=>?_⟩;have z3:=zd (o:=.tup [.int (zQ j o-((Grow.cnt (nearF j) o g:Nat):Int)),.int (zQ j o),.ref na]) I;have ac:=M.trans z3;have al:p.length<=64:=by
     rw[Paired.length L];refine X5 (Xi _ _) ?_;rw[XQ];lia
    have U:=z3 _ _ B;refine⟨d,p,_,rfl,rfl,U,XM al (by decide),p++[.ref tt],_,_,_,rfl,λb e' h'=>?_,zc,ziu (zdm U (ziv ac L)) (.cons ⟨tt,na,wn,rfl,?_,y,r⟩ .nil)⟩
    .rw[zp (zj h' hd)];exact ac _ _ (s1 _ _ h')
    .have ne:tt≠d:=λe=>by
      subst e;rw[B]at I;cases I
     rw[zp ne,zc]
   .have ef:[o].filter (λo=>nearF j o c)=[]:=by
     rw[Xb,bq n];rfl
    rw[ef,Xa];exact jC (W6.mpr n) ⟨p,(dH ⟨_,(dI rfl s1 l L)⟩)⟩
  .refine λJ H1=>fm λp v4 v5 v6 z0 s1 l L=>?_;subst z0;rw[Paired.length hT,XO]at L;exact⟨_,rfl,q d p H1 l (ziw s1 L) s1⟩
def YK:zE ["needs","pick","least","most","near"] ["needs","pick"] (zf xg):=bh
def zix (T:Txt mg)(D:zh K mg "may_fit" xg ["needs","pick"] f fd):qA P w K mg base CX0 1 f fd ["needs","pick"] zsd:=by
 refine D.F.ok YK (λvs H Q E h=>?_) (λae A ab s H vs Q E hr h=>?_)
 .revert h;refine eW λJ L un up=>eZ λb c O p z0 _=>?_;subst z0;rfl
 .revert h;refine fj λJ L un up b c O p=>fE λz0 n hN r=>eV λg pl q=>?_;subst z0;refine⟨_,(ze (qB Xh rfl (zO (pvS 0)) (JO rfl (zR (zq (i:=2) YK.nd rfl (XF rfl)) (zR (zq (i:=3) YK.nd rfl (XF rfl)) (zR (zq (i:=4) YK.nd rfl (UR rfl)) jB)))) (zg (jk (ZC (YZ JY JY (pvS 2) (zx zD (by rfl) T.qG Xk (za (qz (N:=["cell","near"]) (src:=[none,some 4]) (zW.free (O:=(zf xg).names) (XN:=["needs","pick","least","most","near"]) rfl rfl ⟨_,rfl⟩ rfl rfl (by decide+kernel) (by decide+kernel) (by decide+kernel) rfl (by decide+kernel)) rfl (zO (pvS 1)) (λ_ _ _ _ _=>(zq (i:=0) (by show W9 (["cell","near"]:AE);decide+kernel) rfl (XF rfl))) (λ_ _ _ _ _=>(qt (zL (jy (K:=K) (by rfl) hr.units) (pvS 0) (pvS 1) (by rfl)))) (λ_ _ _ _ _=>(pvS 0))) zb)) (pvS 3))) (@zg _ _ _ (@zJ _ _ _ _ zf7)) ql))) (@zg _ _ _ (@zJ _ _ _ _ zf7))),?_⟩;(try dsimp only[cxK,cxP,cxW]);refine⟨_,rfl,J,rfl,⟨_,SqL.of n⟩,?_⟩;refine jM (K:=K) (a:=J) (xs:=un) (λi j H'=>∃(v2 v3 v4:Option V),j=[some (.ref J),some (.ref L),v2,v3,v4]/\zB H H'/\∀o∈O.take i,Grow.zc9 (nearF b) (zQ b) c o p=true)
   ⟨_,_,_,rfl,zB.refl _,λo G=>by simp at G⟩ (λi j H' _ ⟨_,_,_,_,z,_⟩=>SqL.of (z _ _ n)) ?_ ?_
  .refine λi x j H1 hx=>fF λv2 v3 v4 z0 s1 d=>?_;subst z0;refine fc (λo G=>fu λa ra wn z0 ha U M=>?_) (ZT (zbG s1 hN) hx);subst z0;refine eN a rfl (SqT.of ha) rfl rfl (eO rfl (eH rfl rfl ?_));refine⟨_,rfl,_,rfl,L,rfl,⟨_,SqL.of (s1 _ _ r)⟩,λz hz=>?_⟩;refine qM (K:=K) (a:=L) (xs:=up) (λa=>a≠z) (p.map λx=>if nearF b o x=true then some (zo x) else none) (fun j=>∃u0,j=[u0,some (.ref ra)]) hz (λ_ h=>h) ⟨_,rfl⟩ (by rw[Y1];exact g.length.symm) (by rw[g.length];exact X5 pl (by decide)) (SqL.of (s1 _ _ r)) ?_ ?_
   .rintro m v u j H2 hv hu k _ ⟨u1,rfl⟩ Y Z ac no;obtain⟨e,he,rc⟩:=Cel.get ((g.mono s1).mono k) hv;have B:=yM he hu;refine⟨_,rfl,_,rfl,zo e,(zM b o).map zo,rc.rdv,.lst (SqL.of (k _ _ U)) (zaX (M.mono k)),rfl,zg5 _,(by show 1<=60;decide),_,rfl,?_⟩;have ei:(if false=true then !((zM b o).map zo).any (λz=>W5 z (zo e)) else ((zM b o).map zo).any λz=>W5 z (zo e))=nearF b o e:=xX _ _;rw[ei];by_cases I:nearF b o e=true
    .rw[bw I]at B;exact j9 I ⟨_,rfl,ac _ _ _ _ B ⟨_,rfl⟩ (zB.refl _) rc.rdn⟩
    .rw[bq I]at B;exact jC (W6.mpr I) (no _ _ B ⟨_,rfl⟩ (zB.refl _))
   rintro ys H2 k aa y;have er:(p.map λx=>if nearF b o x=true then some (zo x) else none).filterMap id=(p.filter (nearF b o)).map zo:=qL _ _ _;rw[er]at y;have yl:ys.length=Grow.cnt (nearF b) o p:=(zG.cel y).length;refine⟨z,ys,rfl,.inl (SqL.of aa),?_⟩;rw[yl];have om:=X8 G;have tk:O.take (i+1)=O.take i++[o]:=by
    rw[XI,G];rfl
   have l:Grow.zc9 (nearF b) (zQ b) c o p=false->Q (.bl false) H2:=λe=>by
    have e2:(O.all λo=>Grow.zc9 (nearF b) (zQ b) c o p)=false:=W6.mpr λz=>by
     have:=WT.mp z o om;rw[e]at this;cases this
    rw[e2]at q;exact q _ (s1.trans k)
   refine⟨_,_,rfl,rfl,_,rfl,?_⟩;by_cases h1:zQ b o-((Grow.cnt (nearF b) o c:Nat):Int)<=((Grow.cnt (nearF b) o p:Nat):Int)
   .rw[br h1];refine zaA ⟨_,rfl,_,_,rfl,rfl,_,rfl,?_⟩;by_cases h2:((Grow.cnt (nearF b) o p:Nat):Int)<=zQ b o
    .rw[br h2];refine ZD (dH ⟨_,(dD rfl (s1.trans k) (λo' ho'=>?_))⟩);rw[tk]at ho';rcases XG.mp ho' with ho' | ho'
     .exact d o' ho'
     .have e:o'=o:=by simpa using ho'
      rw[e];exact Grow.yp.mpr ⟨h1,h2⟩
    .rw[bf h2];exact zaA (l (W6.mpr λz=>h2 (Grow.yp.mp z).2))
   .rw[bf h1];refine ZD ⟨_,rfl,?_⟩;exact zaA (l (W6.mpr λz=>h1 (Grow.yp.mp z).1))
  .refine λj H1=>fF λv2 v3 v4 z0 s1 d=>?_;subst z0;rw[Paired.length hN,XO]at d;have e:(O.all λo=>Grow.zc9 (nearF b) (zQ b) c o p)=true:=WT.mpr d;rw[e]at q;exact q H1 s1
def toL (q:AD):List (Int×Int):=q.map toI
def zsW:Sp:=λi H Q _=>∃(a l h:Addr) (b:AE) (n:Int) (c:AF) (part:AD),i=[.ref a,.ref h]/\qc H a l b n/\Rows bd.cps.toList b/\H h=some (.lst c)/\Cel H c part/\part.Nodup/\part.length<=14 /\
 ∀(d:Addr) (g:AF) (f:List (List (Int×Int))) (e:Hp),H d=none->e d=some (.lst g)->jU (λa=>H a=none/\a≠d) e g f->g.Nodup->f.Perm (((Subs.subs part).filter (Grow.fits (nearF b) (zQ b) (JE b part) part)).map toL)->f.Pairwise (λp q=>PySem.SeqAt.ltL q p=false)->zB H e->Q (.ref d) e
def jI (rs:AE)(part:AD):Nat->List AD
 | 0=>[[]]
 | i+1=>match part[i]? with
  | some c=>(Subs.step (jI rs part i) c).filter (Grow.chk (nearF rs) (zQ rs) (JE rs part) c (part.drop (i+1)))
  | none=>jI rs part i
def zdn {rs:AE}{part:AD}{i:Nat}{c:AA}(h:part[i]?=some c):jI rs part (i+1)=(Subs.step (jI rs part i) c).filter (Grow.chk (nearF rs) (zQ rs) (JE rs part) c (part.drop (i+1))):=by
 show (match part[i]? with | some c=>_ | none=>_)=_;rw[h]
theorem zdo {rs:AE}{part:AD}:∀(k i:Nat),part.length-i=k->i<=part.length->Grow.grow (nearF rs) (zQ rs) (JE rs part) (jI rs part i) (part.drop i)=jI rs part part.length
 | 0,i,h,b=>by
  have e:i=part.length:=by lia
  subst e;rw[List.drop_length];rfl
 | k+1,i,h,b=>by
  have a:i<part.length:=by lia
  rw[WL a];show Grow.grow _ _ _ ((Subs.step (jI rs part i) part[i]).filter _) (part.drop (i+1))=_;rw[<- zdn (X2 a)];exact zdo k (i+1) (by lia) (by lia)
def zeV (rs:AE)(part:AD):jI rs part part.length=(Subs.subs part).filter (Grow.fits (nearF rs) (zQ rs) (JE rs part) part):=by
 rw[<- Grow.zoh];exact(zdo (rs:=rs) (part:=part) part.length 0 (by lia) (W4 _)).symm
theorem QL (rs:AE)(part:AD):∀i,(jI rs part i).length<=2^i
 | 0=>XV _
 | i+1=>by
  have a:=QL rs part i;show (match part[i]? with | some c=>_ | none=>_:List AD).length<=_;rw[UB];split
  .refine X5 (Xi _ _) ?_;unfold Subs.step;rw[XU,Y1];lia
  .lia
theorem zdp (rs:AE)(part:AD):∀i,∀q∈jI rs part i,q.length<=i
 | 0,q,h=>by
  have e:q=[]:=by simpa[jI] using h
  rw[e];exact XV _
 | i+1,q,h=>by
  have a:=zdp rs part i;cases e:part[i]? with
  | none =>
   have b:jI rs part (i+1)=jI rs part i:=by
    show (match part[i]? with | some c=>_ | none=>_)=_;rw[e]
   rw[b]at h;exact Uz (a q h)
  | some c =>
   rw[zdn e]at h;have h:=(XS.mp h).1;rcases XG.mp h with h | h
   .exact Uz (a q h)
   .obtain⟨p,d,rfl⟩:=XJ.mp h;rw[XU];exact Nat.succ_le_succ (a p d)
def tD2 (rs:AE)(c:AA):We:=.tuple [.int (zQ rs c),.list ((zM rs c).map zo)]
def zmF {N:Addr->Prop}{H:Hp}{rs:AE}{v:V}{c:AA}(h:Rdn N H v (tD2 rs c)):zha H rs v c:=by
 unfold tD2 at h;generalize a:(zM rs c).map zo=ds at h;cases h with
 | tup h t =>
  cases t with
  | cons b t =>
   cases b;cases t with
   | cons d t =>
    cases t;cases d with
    | lst n h1 h2 =>
     subst a;exact⟨_,_,_,rfl,h,h1,zG.cel h2⟩
theorem zeW {N:Addr->Prop}{H:Hp}{rs:AE}:∀{cs:AD} {vs:AF},zG N H vs (cs.map (tD2 rs))->W2 (zha H rs) vs cs
 | [],_,.nil=>.nil
 | _::_,_,.cons h t=>.cons (zmF h) (zeW t)
def zfG {c:St}{H:Hp}{A B:Hp->Prop}(h:A H):zlx c H λb a=>if b=true then A a else B a:=by
 show if true=true then A H else B H
 rw[bw rfl];exact h
def zmG {F:List AD}{j:Nat}{k:List (Int×Int)}(h:(F.map toL)[j]?=some k):∃q,F[j]?=some q/\k=toL q:=by
 rw[Xw]at h;cases e:F[j]? with
 | none=>rw[e]at h;cases h
 | some q =>
  rw[e]at h;cases h;exact⟨q,rfl,rfl⟩
def zhd (xs:AF)(i:Nat)(a:i<xs.length):zdU xs (some (((i:Nat):Int)+1)) none=xs.drop (i+1):=by
 have e:HT.sIx xs.length 0 (some (((i:Nat):Int)+1))=i+1:=by
  have:=HT.zi6 xs.length 0 (i+1);rw[O4]at this;rw[show (((i:Nat):Int)+1)=((i:Nat):Int)+((1:Nat):Int) from rfl,this];lia
 unfold zdU;rw[e];show (xs.drop (i+1)).take (xs.length-(i+1))=_;rw[WC (by rw[Vf];lia)]
theorem zhe {H:Hp}:∀{a:AF} {cs:AD} (i:Nat),Cel H a cs->Cel H (a.drop i) (cs.drop i)
 | _,_,0,h=>h
 | _,_,i+1,.nil=>.nil
 | _,_,i+1,.cons _ t=>zhe i t
def qF:zE ["board","part","told","found","place","cell","needs","grown"] ["board","part"] (zf qK):=bh
def YU {f1 f2 f3 f4 f5 f6 f7 f8:Addr}{aP aQ aR aS aT aU aV aW:XC}(T:Txt mg)(D:zh K mg "part_layings" qK ["board","part"] f fd)(zU:zh K mg "around" jY ["board","cell"] f1 aP)(zu:zh K mg "sign_at" qy ["board","cell"] f2 aQ)
  (zv:zh K mg "cells_of" qk ["board"] f3 aR) (zI:zh K mg "open_cells" qD ["board"] f4 aS) (qp:zh K mg "number_at" jZ ["board","cell"] f5 aT) (jn:zh K mg "numbers_of" jH ["board","part"] f6 aU)
  (j3:zh K mg "needs_at" yr ["told","cell","rest"] f7 aV) (yx:zh K mg "may_fit" xg ["needs","pick"] f8 aW):qA P w K mg base CX0 4 f fd ["board","part"] zsW:=by
 refine D.F.ok qF (λvs H Q E h=>?_) (λbF A b6 s H vs Q E hr h=>?_)
 .revert h;refine eW λa l pa rs=>fC λn I part z0 _=>?_;subst z0;rfl
 .revert h;refine eW λa l pa rs=>eX λn I part z0 b R a2=>fJ λai b7 pl q=>?_;subst z0;have ul:=ai.length;refine⟨_,(ze (jk (zL zif (zx zD (by rfl) T.qG Xk (za (pvS 1) zb)) (j7 (v:=.int 14) (by rfl) T.zdj.choose_spec (by exact⟨_,rfl⟩)) (qe _)) (zg xQ) ql) (ze (xJ (i:=2) qF.nd rfl rfl (N:=["cell","board"]) (src:=[none,some 0]) (zW.free (O:=(zf qK).names) (XN:=["board","part","told","found","place","cell","needs","grown"]) rfl rfl ⟨_,rfl⟩ rfl rfl (by decide+kernel) (by decide+kernel) (by decide+kernel) rfl (by decide+kernel)) rfl (zO (pc0 (zd8 T jn zU zu zv zI) hr jn (za (pvS 0) (za (pvS 1) zb)))) (λ_ _ _ _ _=>(zq (i:=0) (by show W9 (["cell","board"]:AE);decide+kernel) rfl (XF rfl))) (λ_ _ _ _ _=>qQ) (λ_ _ _ _ _=>(qH (za (pc0 (zaW T qp zu) hr qp (za (pvS 1) (za (pvS 0) zb))) (za (pc0 (Z4 T zU) hr zU (za (pvS 1) (za (pvS 0) zb))) zb))))) (@ze _ _ _ _ _ (@zC _ _ 3 _ _ _ _ qF.nd rfl (XF rfl) (@qm _ _ _ _ (@za _ _ _ _ _ (@qm _ _ _ _ zb) zb rfl)) (by rfl) (.inr rfl)) (ze (qB Xh rfl (xS (by rfl) T.qY (za (pvS 1) zb)) (JO rfl (zR (zq (i:=4) qF.nd rfl (XF rfl)) (zR (zq (i:=5) qF.nd rfl (UR rfl)) jB))) (ze (zC (i:=6) qF.nd rfl (UR rfl) (pc0 (zhc T j3) hr j3 (za (pvS 2) (za (pvS 5) (za (zcL zfi (pvS 1) (zfg (zK jm (pvS 4) zk)) zff) zb))))) (ze (zC (i:=7) qF.nd rfl (XF rfl) (zK Y4 (pvS 3) (qz (N:=["pick","cell"]) (src:=[none,some 5]) (zW.free (O:=(zf qK).names) (XN:=["board","part","told","found","place","cell","needs","grown"]) rfl rfl ⟨_,rfl⟩ rfl rfl (by decide+kernel) (by decide+kernel) (by decide+kernel) rfl (by decide+kernel)) rfl (zO (pvS 3)) (λ_ _ _ _ _=>(zq (i:=0) (by show W9 (["pick","cell"]:AE);decide+kernel) rfl (XF rfl))) (λ_ _ _ _ _=>qQ) (λ_ _ _ _ _=>(zK Y4 (pvS 0) (qm (za (pvS 1) zb))))))) (zg (xJ (i:=3) qF.nd rfl rfl (N:=["pick","needs"]) (src:=[none,some 6]) (zW.free (O:=(zf qK).names) (XN:=["board","part","told","found","place","cell","needs","grown"]) rfl rfl ⟨_,rfl⟩ rfl rfl (by decide+kernel) (by decide+kernel) (by decide+kernel) rfl (by decide+kernel)) rfl (zO (pvS 7)) (λ_ _ _ _ _=>(zq (i:=0) (by show W9 (["pick","needs"]:AE);decide+kernel) rfl (XF rfl))) (λ_ _ _ _ _=>(qt (QB (K:=K) (by rfl) (pc0 (zix T yx) hr yx (za (pvS 1) (za (pvS 0) zb))) (λ_=>rfl)))) (λ_ _ _ _ _=>(pvS 0))))))) (zg (zJ (zx (GS.QZ hr.units) (by rfl) T.zdi S2 (za (pvS 3) zb)))))))),?_⟩;(try dsimp only[cxK,cxP,cxW]);refine⟨_,rfl,pa,I,rfl,.inl (SqL.of a2),_,_,rfl,rfl,_,rfl,?_⟩;refine jC (bf (by lia)) ?_;refine⟨_,rfl,_,rfl,a,l,pa,rs,n,I,part,rfl,b,R,a2,ai,λd ws H1 hd aC au s1=>(dU d rfl ⟨_,SqL.of aC⟩ (λz hz=>?_))⟩;have b1:=b.mono s1;have nl:(JE rs part).length<=64:=X5 (Xi _ _) (qN (p:=Z0) R);refine qM (K:=K) (a:=d) (xs:=ws) (λa=>a≠z) ((JE rs part).map λc=>some (tD2 rs c)) (fun σ=>∃u0,σ=[u0,some (.ref a)]) hz (λ_ h=>h) ⟨_,rfl⟩ (by rw[Y1];exact au.length.symm) (by rw[au.length];exact X5 nl (by decide)) (SqL.of aC) ?_ ?_
  .rintro k x o σ H2 hx ho s2 b3 ⟨u0,rfl⟩ Y Z bB no;obtain⟨y,hy,r1⟩:=Cel.get au hx;have eo:=yM hy ho;have yo:y∈zw rs:=(XS.mp (X8 hy)).1;obtain⟨t,sg,ht,hj,bo,es⟩:=zY yo;obtain⟨ya,rfl,bx⟩:=r1;obtain⟨l1,l2⟩:=J2 R ht hj;obtain⟨o1,o2⟩:=zeO (zjz R ht hj) bo;have b2:=b1.mono s2;have ap:=s2 _ _ bx;refine xH ⟨_,rfl,_,rfl,a,l,ya,rs,n,y.1,y.2,t,sg,rfl,b2,ap,ht,hj,R.tlen ht,o1,o2,_,rfl,_,rfl,a,l,ya,rs,n,y.1,y.2,rfl,b2,R,ap,l1,l2,λd2 bI H3 bi bj bc s3=>⟨ZV,λtt a3=>?_⟩⟩;have s4:=zd (o:=.tup [.int (((sg:Nat):Int)-48),.ref d2]) a3;have en:zQ rs y=((sg:Nat):Int)-48:=by
    unfold zQ;rw[es]
   refine bB _ _ _ _ eo ⟨_,rfl⟩ (s3.trans s4) (.tup zc (.cons ?_ (.cons (.lst (λe=>b3 (e ▸ bi)) (s4 _ _ bj) (Cel.rdn (bc.mono s4))) .nil)));rw[en];exact .int _
  rintro ut H2 s2 b0 aH;rw[Z5]at aH;have hT:=zeW aH;have ag:=s1.trans s2;refine⟨ZU,λe0 aD=>⟨sz_1,λf0 bm=>?_⟩⟩;have y1:=zd (o:=.lst []) aD;have y2:=zd (o:=.lst [.ref e0]) bm;have aN:=y1.trans y2;have aZ:jU (λa=>H2 a=none) (upd (upd H2 e0 (.lst [])) f0 (.lst [.ref e0])) [.ref e0] ([[]]:List (List (Int×Int))):=.cons ⟨e0,[],rfl,aD,y2 _ _ zc,.nil⟩ .nil;have bn:upd (upd H2 e0 (.lst [])) f0 (.lst [.ref e0]) f0=some (.lst [.ref e0]):=zc;generalize upd (upd H2 e0 (.lst [])) f0 (.lst [.ref e0])=H3 at *
  have af:=ag _ _ a2;refine⟨_,rfl,pa,rfl,⟨_,SqL.of (aN _ _ af)⟩,?_⟩;refine yX (K:=K) (l:=pa) (xs:=I) (λi σ L=>∃(fa:Addr) (fs:AF) (v4 v5 v6 v7:Option V),σ=[some (.ref a),some (.ref pa),some (.ref z),some (.ref fa),v4,v5,v6,v7]/\zB H2 L/\L fa=some (.lst fs)/\jU (λa=>H2 a=none) L fs ((jI rs part i).map toL)/\fs.Nodup)
   ⟨f0,(dQ rfl aN bn aZ (by simp))⟩ (λi σ L _ ⟨_,_,_,_,_,_,_,y,_⟩=>SqL.of (y _ _ af)) ?_ ?_
  .refine λi x tt σ H4 hx a3=>eW λfa fs v4 v5=>eY λv6 v7 z0 s4 aw hL ax=>?_;subst z0;refine e9 (λc hc B z0 be=>?_) (Cel.get ((ai.mono ag).mono s4) hx);subst z0;have il:=(XZ.mp hx).1;have z5:=zd (o:=.tup [.int (i:Nat),.ref B]) a3;refine dR tt rfl (SqT.of zc) rfl rfl rfl rfl ?_;have s5:=s4.trans z5;have ao:=z5 _ _ be;have aE:=z5 _ _ aw;have ba:=jg z5 hL;generalize upd H4 tt (.tup [.int (i:Nat),.ref B])=H5 at *
   refine⟨_,rfl,_,rfl,_,rfl,_,rfl,_,_,rfl,rfl,_,rfl,pa,I,rfl,SqL.of (s5 _ _ af),λx1 bv=>?_⟩;have e1:=zhd I i il;rw[e1]at *
   have z6:=zd (o:=.lst (I.drop (i+1))) bv;have s6:=s5.trans z6;refine dM z B x1 ut (dM (I.drop (i+1)) rs (JE rs part) (part.drop (i+1)) (dN c rfl (s6 _ _ b0) (zkS s6 hT) nl (dG R (z6 _ _ ao) zc (zhe _ ((ai.mono ag).mono s6)) (b7.sublist (P7 _ _)) (λnd un H6 bD hN s7=>?_))));have am:=z6.trans s7;have aK:=s5.trans am;have ae:=am _ _ aE;have ar:=jg am ba;have aB:=am _ _ ao;have b4:i<=13:=by lia
   have fl:fs.length<=8192:=by
    rw[jR hL,Y1];exact X5 (QL rs part i) (V3 (by decide) b4)
   have dp:=zdp rs part i;have eG:=zdn (rs:=rs) hc;have gl:=QL rs part i;generalize jI rs part i=F at *
   refine⟨_,rfl,_,rfl,fa,rfl,⟨_,SqL.of ae⟩,λy hy=>?_⟩;refine qj (K:=K) (a:=fa) (xs:=fs) (λj r L=>∃(u0:Option V) (m:AF),r=[u0,some (.ref B)]/\zB H6 L/\L y=some (.lst m)/\jU (λa=>H6 a=none/\a≠y) L m (((F.take j).map (·++[c])).map toL)/\m.Nodup)
    ⟨_,(dN [] rfl (zd hy) zc (.nil) UL)⟩ (λj r L _ ⟨_,_,_,z,_⟩=>SqL.of (z _ _ ae)) ?_ ?_
   .refine λj v r H7 hv=>eY λu0 m z0 s8 al G a8=>?_;subst z0;refine eX (λk a1 w1 hk z0 an ac t1=>?_) (za0 ar hv);subst z0;obtain⟨q1,U,rfl⟩:=zmG hk;have kd:=dp q1 (X8 U);have wl:w1.length=q1.length:=(zg8 t1).trans (Y1 _);have tj:((F.take (j+1)).map (·++[c])).map toL=((F.take j).map (·++[c])).map toL++[toL q1++[toI c]]:=by
     rw[XI,U,Xj,Xj];simp[toL]
    rw[tj];unfold zay;refine zfG ?_;refine⟨_,rfl,_,rfl,sz_1,λt2 bt=>?_⟩;have y5:=zd (o:=.lst [.ref B]) bt;refine dM a1 t2 w1 [.ref B] (dG rfl rfl (y5 _ _ (s8 _ _ ac)) zc (X5 (show w1.length+1<=100 by lia) (by decide)) (λt3 ak=>?_));have y6:=zd (o:=.lst (w1++[.ref B])) ak;have ah:=y5.trans y6;have h6:upd (upd H7 t2 (.lst [.ref B])) t3 (.lst (w1++[.ref B])) t3=some (.lst (w1++[.ref B])):=zc;have tz:t3≠y:=λe=>by
     subst e;rw[y5 _ _ al]at ak;cases ak
    have n4:=y5.free ak;have n3:=s8.free n4;have c1:xT (upd (upd H7 t2 (.lst [.ref B])) t3 (.lst (w1++[.ref B]))) [.ref B] [toI c]:=.cons ⟨B,rfl,ah _ _ (s8 _ _ aB)⟩ .nil;have bA:=zg9 (Yb (s8.trans ah) t1) c1;generalize upd (upd H7 t2 (.lst [.ref B])) t3 (.lst (w1++[.ref B]))=H8 at *
    have a6:=ah _ _ al;have yl:m.length<=8192:=by
     rw[jR G,Y1,Y1,XQ];have:=jR hL;rw[Y1]at this;lia
    refine dU m a6 (XM yl (by decide)) ⟨_,(dN (m++[.ref t3]) rfl (λb' o e=>?_) zc (QJ (J3 a6 (λa h=>h.2) (jg ah G)) (.cons ⟨t3,w1++[.ref B],rfl,⟨n3,tz⟩,by rw[zp tz];exact h6,Yc a6 bA⟩ .nil)) ?_)⟩
    .rw[zp (zj e hy)];exact ah _ _ (s8 _ _ e)
    .refine WD.mpr ⟨a8,by simp,λu hu u' a4 e=>?_⟩;obtain⟨b',wb,rfl,_,hb⟩:=QK G hu;have e2:u'=.ref t3:=by simpa using a4
     rw[e2]at e;cases e;rw[hb]at n4;cases n4
   refine λr H7=>eY λu0 m z0 s8 al G a8=>?_;subst z0;have aX:fs.length=F.length:=(jR hL).trans (Y1 _);rw[aX,XO]at G;have yl:m.length<=8192:=by
    rw[jR G,Y1,Y1];lia
   refine dM fa y fs m (dG rfl rfl (s8 _ _ ae) al (X5 (Nat.add_le_add fl yl) (by decide)) (λg hg=>?_));have y9:=zd (o:=.lst (fs++m)) hg;have b8:=aK.trans s8;have b9:=b8.trans y9;have aF:upd H7 g (.lst (fs++m)) g=some (.lst (fs++m)):=zc;have a9:jU (λa=>H2 a=none) (upd H7 g (.lst (fs++m))) (fs++m) ((Subs.step F c).map toL):=by
    unfold Subs.step;rw[Xj];exact QJ (jg (s8.trans y9) ar) (jg y9 (zaj (λa h=>aK.free h.1) G))
   have aY:(fs++m).Nodup:=by
    refine WD.mpr ⟨ax,a8,λu hu u' a4 e=>?_⟩;obtain⟨b',wb,rfl,_,hb⟩:=QK ar hu;obtain⟨b2,bH,rfl,aA,_⟩:=QK G a4;cases e;rw[hb]at aA;cases aA.1
   have aG:=(s8.trans y9) _ _ bD;have bb:=zbG (s8.trans y9) hN;have bG:(fs++m).length<=16384:=by
    rw[XU];lia
   have aO:∀q∈Subs.step F c,q.length<=64:=λq hq=>by
    rcases XG.mp hq with hq | hq
    .have:=dp q hq;lia
    .obtain⟨p',ay,rfl⟩:=XJ.mp hq;have:=dp p' ay;rw[XU];show p'.length+1<=64;lia
   generalize fs++m=gs at *
   generalize Subs.step F c=S at *
   generalize upd H7 g (.lst gs)=H8 at *
   refine⟨_,rfl,g,rfl,⟨_,SqL.of aF⟩,λy2 a5=>?_⟩;refine qj (K:=K) (a:=g) (xs:=gs) (λj r L=>∃(u0:Option V) (m:AF),r=[u0,some (.ref nd)]/\zB H8 L/\L y2=some (.lst m)/\jU (λa=>H2 a=none/\a≠y2) L m (((S.take j).filter (Grow.chk (nearF rs) (zQ rs) (JE rs part) c (part.drop (i+1)))).map toL)/\m.Sublist (gs.take j))
    ⟨_,(dN [] rfl (zd a5) zc (.nil) List.Sublist.slnil)⟩ (λj r L _ ⟨_,_,_,z,_⟩=>SqL.of (z _ _ aF)) ?_ ?_
   .refine λj v r H9 hv=>eY λu0 m z0 s9 a7 ab aa=>?_;subst z0;refine eX (λk a1 w1 hk z0 an ac t1=>?_) (za0 a9 hv);subst z0;obtain⟨q1,U,rfl⟩:=zmG hk;have tf:gs.take (j+1)=gs.take j++[.ref a1]:=by
     rw[XI,hv];rfl
    refine⟨_,rfl,_,rfl,nd,a1,un,w1,rs,part.drop (i+1),_,q1,rfl,s9 _ _ aG,zbG s9 bb,s9 _ _ ac,(xY t1).mono s9,aO q1 (X8 U),λbE J=>⟨_,rfl,?_⟩⟩;rw[tf];have M:=J _ _ a7;show if Grow.chk (nearF rs) (zQ rs) (JE rs part) c (part.drop (i+1)) q1=true then _ else _
    by_cases aj:Grow.chk (nearF rs) (zQ rs) (JE rs part) c (part.drop (i+1)) q1=true
    .have e1:((S.take (j+1)).filter (Grow.chk (nearF rs) (zQ rs) (JE rs part) c (part.drop (i+1)))).map toL=((S.take j).filter (Grow.chk (nearF rs) (zQ rs) (JE rs part) c (part.drop (i+1)))).map toL++[toL q1]:=by
      rw[XI,U,Xg,Xj];simp[aj]
     rw[e1];have az:a1≠y2:=zj ac a5;have yl:m.length<=16384:=by
      have:=aa.length_le;rw[XQ]at this;lia
     refine j9 aj ⟨_,rfl,m,M,XM yl (by decide),_,m++[.ref a1],rfl,λb' o e=>?_,zc,QJ (J3 M (λa h=>h.2) (jg J ab)) (.cons ⟨a1,w1,rfl,⟨an,az⟩,by rw[zp az];exact J _ _ (s9 _ _ ac),Yc M (Yb (s9.trans J) t1)⟩ .nil),List.Sublist.append aa (List.Sublist.refl _)⟩;rw[zp (zj e a5)];exact J _ _ (s9 _ _ e)
    .have e1:((S.take (j+1)).filter (Grow.chk (nearF rs) (zQ rs) (JE rs part) c (part.drop (i+1)))).map toL=((S.take j).filter (Grow.chk (nearF rs) (zQ rs) (JE rs part) c (part.drop (i+1)))).map toL:=by
      rw[XI,U,Xg,Xj];simp[aj]
     rw[e1];exact jC (W6.mpr aj) ⟨_,(dN m rfl (s9.trans J) M (jg J ab) (aa.trans (Uo _ _)))⟩
   .refine λr H9=>eY λu0 m z0 s9 a7 ab aa=>?_;subst z0;have aq:gs.length=S.length:=(jR a9).trans (Y1 _);rw[aq,XO,<- eG]at ab;rw[aq,<- aq,XO]at aa;exact dF y2 m (dX (dJ rfl (b9.trans s9) a7 (zaj (λa h=>h.1) ab) (aY.sublist aa)))
  .refine λσ H4=>eW λfa fs v4 v5=>eY λv6 v7 z0 s4 aw hL ax=>?_;subst z0;have gl:=QL rs part part.length;rw[ul,zeV]at hL;rw[zeV]at gl;have fl:fs.length<=16384:=by
    rw[jR hL,Y1];exact X5 gl (V3 (by decide) pl)
   refine⟨_,rfl,fa,fs,_,rfl,SqL.of aw,zkQ hL,by lia,λd' aM b5 av ay bC bp aI=>?_⟩;have y5:=zd (o:=.lst aM) av;have aJ:=ag.trans s4;refine q d' aM b5 _ (aJ.free av) zc (jg y5 (zmD ay λv hv=>?_)) (aI.nodup_iff.mpr ax) bC bp (aJ.trans y5);obtain⟨a1,wa,e,na,ha⟩:=QK hL (aI.mem_iff.mp hv);exact⟨a1,e,ag.free na,zj ha av⟩
abbrev iL (xs:List Int):AF:=xs.map V.int
def ints_get {xs:List Int}{i:Nat}{v:V}(h:(iL xs)[i]?=some v):∃x,xs[i]?=some x/\v=.int x:=by
 rw[Xw]at h;cases e:xs[i]? with
 | none=>rw[e]at h;cases h
 | some x =>
  rw[e]at h;cases h;exact⟨x,rfl,rfl⟩
def zjB {xs:List Int}{i:Nat}{x:Int}(h:xs[i]?=some x):(iL xs)[i]?=some (.int x):=by
 rw[Xw,h];rfl
def zmH {n:Nat}{k:Int}(h0:0<=k)(h1:k<n):ixN n k=some k.toNat:=by
 unfold ixN;rw[bw h0,bw h1]
def zoz (xs:List Int)(z:Int):iL (xs++[z])=iL xs++[.int z]:=by
 show TC V.int (xs++[z])=_;rw[Xj];rfl
def zcc (c:AA)(k:List (Int×Int)):Bool:=k.any λz=>decide (z=toI c)
def YL (rs:AE)(part:AD):List (List (Int×Int)):=((Subs.subs part).filter (Grow.fits (nearF rs) (zQ rs) (JE rs part) part)).map toL
def zse:Sp:=λf H Q _=>∃(c:Addr) (e:AF) (b:List (List (Int×Int))) (N:Addr->Prop) (g:Nat),f=[.ref c,.int (g:Nat)]/\H c=some (.lst e)/\jU N H e b/\(∀k∈b,k.length<=g)/\g<=64 /\
 ∀(d:Addr) (a:Hp),H d=none->a d=some (.lst (iL (Cnt.Jd g b)))->zB H a->Q (.ref d) a
def zoA:Sp:=λi H Q _=>∃(f e:Addr) (h:AF) (a:List (List (Int×Int))) (N:Addr->Prop) (g:Nat) (c:AA),i=[.ref f,.int (g:Nat),.ref e]/\H f=some (.lst h)/\jU N H h a/\(∀k∈a,k.length<=g)/\g<=64/\a.length<=16384/\H e=some (.tup [.int (c.1:Nat),.int (c.2:Nat)]) /\
 ∀(d:Addr) (b:Hp),H d=none->b d=some (.lst (iL (Cnt.Jd g (a.filter (zcc c)))))->zB H b->Q (.ref d) b
def zsY:Sp:=λg H Q _=>∃(a l f:Addr) (e:AE) (n:Int) (b:AF) (part:AD),g=[.ref a,.ref f]/\qc H a l e n/\Rows bd.cps.toList e/\H f=some (.lst b)/\Cel H b part/\part.Nodup/\part.length<=14 /\
 ∀(d:Addr) (c:Hp),H d=none->c d=some (.lst (iL (Cnt.Jd part.length (YL e part))))->zB H c->Q (.ref d) c
def zhf (n:Nat):(WQ n [V.int 0]).flatten=iL (WQ n 0):=by
 induction n with
 | zero=>rfl
 | succ n a =>
  rw[VD,WA,a];rfl
theorem zhg {α:Type}:∀(cs:List α) (b:Nat),(Subs.pick cs b).length<=cs.length
 | [],_=>W4 _
 | c::r,b=>by
  have:=zhg r (b/2);show ((if b%2=1 then [c] else [])++Subs.pick r (b/2)).length<=r.length+1;rw[XU];split
  .show 1+_<=_;lia
  .show 0+_<=_;lia
def zmI {α:Type}{cs q:List α}(h:q∈Subs.subs cs):q.length<=cs.length:=by
 rw[Subs.zbx]at h;obtain⟨b,_,rfl⟩:=XJ.mp h;exact zhg cs b
def zdq {rs:AE}{part:AD}{k:List (Int×Int)}(h:k∈YL rs part):k.length<=part.length:=by
 obtain⟨a,h1,rfl⟩:=XJ.mp h;show (a.map toI).length<=_;rw[Y1];exact zmI (XS.mp h1).1
def zkT {rs:AE}{part:AD}(h:part.length<=14):(YL rs part).length<=16384:=by
 unfold YL;rw[Y1];refine X5 (Xi _ _) ?_;rw[Subs.zbx,Y1,Wd];exact X5 (V3 (by decide) h) (by decide)
def zak:zE ["found","greatest","counts","laying"] ["found","greatest"] (zf JK):=bh
def zal (T:Txt mg)(D:zh K mg "counted" JK ["found","greatest"] f fd):qA P w K mg base CX0 1 f fd ["found","greatest"] zse:=by
 refine D.F.ok zak (λvs H Q E h=>?_) (λaa A I s H vs Q E hr h=>?_)
 .revert h;refine eW λm Y G N=>fc λg z0 _=>?_;subst z0;rfl
 .revert h;refine fD λm Y G N g=>e8 λz0 d M hk ab q=>?_;subst z0;refine⟨_,(@ze _ _ _ _ _ (@zC _ _ 2 _ _ _ _ zak.nd rfl (XF rfl) (@zK _ _ _ _ _ _ _ _ zlt (@qm _ _ _ _ (@za _ _ _ _ _ zk zb rfl)) (zK jm (pvS 1) zk)) (by rfl) (.inr rfl)) (ze (qB Xh rfl (zO (pvS 0)) (zq (i:=3) zak.nd rfl (XF rfl)) (zg (zi3 (pvS 2) (zx zD (by rfl) T.qG Xk (za (pvS 3) zb)) zgm zk zlk set_list))) (zg (zJ (pvS 2))))),?_⟩;(try dsimp only[cxK,cxP,cxW]);refine⟨sz_1,λU B=>?_⟩;have s0:zB H (upd H U (.lst [.int 0])):=zd B;refine⟨_,rfl,_,_,rfl,rfl,U,_,_,rfl,rfl,zc,by lia,by lia,?_,λp O=>?_⟩
  .exact X5 (show 1*((g:Int)+1).toNat<=120 by lia) (by decide)
  rw[show ((g:Int)+1).toNat=g+1 by lia,zhf,<- Cnt.zme (α:=Int×Int)];have s1:=s0.trans (zd (o:=.lst (iL (Cnt.Jd g ([]:List (List (Int×Int)))))) O);have l:H p=none:=s0.free O;refine⟨_,rfl,m,rfl,⟨_,SqL.of (s1 _ _ d)⟩,?_⟩;refine jM (K:=K) (a:=m) (xs:=Y) (λi u x=>∃J,u=[some (.ref m),some (.int (g:Nat)),some (.ref p),J]/\zB H x/\x p=some (.lst (iL (Cnt.Jd g (G.take i)))))
   ⟨_,rfl,s1,zc⟩ (λi u x _ ⟨_,_,y,_⟩=>SqL.of (y _ _ d)) ?_ ?_
  .refine λi v u L hv=>fk λJ=>eV λz0 r b=>?_;subst z0;refine eX (λk a1 wa j z0 _ z t1=>?_) (za0 M hv);subst z0;have kl:=hk k (X8 j);have wl:=zg8 t1;refine⟨_,rfl,_,rfl,a1,wa,rfl,.inl (SqL.of (r _ _ z)),p,_,_,_,rfl,rfl,SqL.of b,ZE (by lia) (zjB (Cnt.zda (n:=wa.length) _ (by lia))),_,_,rfl,rfl,p,_,_,_,rfl,rfl,b,zmH (by lia) (by rw[Y1,Cnt.zaP];lia),?_⟩;refine⟨_,rfl,λc o e=>?_,?_⟩
   .rw[zp (zj e l)];exact r _ _ e
   .rw[zc,XI,j];show _=some (HO.lst (iL (Cnt.Jd g (G.take i++[k]))));rw[Cnt.zkK _ kl,wl];show some (HO.lst ((TC V.int _).set _ (V.int _)))=_;rw[<- List.map_set];rfl
  .rintro u L ⟨J,rfl,r,b⟩;rw[jR M,XO]at b;exact⟨_,rfl,q p L l b r⟩
def zdr:zE ["board","part"] ["board","part"] (zf xK):=bh
def zds {f1 f2 f3 f4 f5 f6 f7 f8 f9 p:Addr}{r u v x y z B G I i:XC}(T:Txt mg)(D:zh K mg "part_counts" xK ["board","part"] f fd)(zU:zh K mg "around" jY ["board","cell"] f1 r)(zu:zh K mg "sign_at" qy ["board","cell"] f2 u)
  (zv:zh K mg "cells_of" qk ["board"] f3 v) (zI:zh K mg "open_cells" qD ["board"] f4 x) (qp:zh K mg "number_at" jZ ["board","cell"] f5 y) (jn:zh K mg "numbers_of" jH ["board","part"] f6 z)
  (j3:zh K mg "needs_at" yr ["told","cell","rest"] f7 B) (yx:zh K mg "may_fit" xg ["needs","pick"] f8 G) (U:zh K mg "part_layings" qK ["board","part"] f9 I) (Y:zh K mg "counted" JK ["found","greatest"] p i):qA P w K mg base CX0 5 f fd ["board","part"] zsY:=by
 refine D.F.ok zdr (λvs H Q E h=>?_) (λaa A L s H vs Q E O h=>?_)
 .revert h;refine eW λa l M rs=>fC λn g part z0 _=>?_;subst z0;rfl
 .revert h;refine eW λa l M rs=>eX λn g part z0 b R m=>fJ λc N pl q=>?_;subst z0;refine⟨_,(zg (zJ (pc0 (zal T Y) O Y (za (pc0 (YU T U zU zu zv zI qp jn j3 yx) O U (za (pvS 0) (za (pvS 1) zb))) (za (zx zD (by rfl) T.qG Xk (za (pvS 1) zb)) zb))))),?_⟩;(try dsimp only[cxK,cxP,cxW]);refine⟨_,rfl,_,rfl,a,l,M,rs,n,g,part,rfl,b,R,m,c,N,pl,λd ws ks H1 hd J hL _ o _ s1=>?_⟩;refine⟨_,rfl,M,g,rfl,.inl (SqL.of (s1 _ _ m)),d,ws,ks,_,g.length,rfl,J,hL,λk hk=>?_,?_,λe H2 he j s2=>?_⟩
  .rw[c.length];exact zdq (o.mem_iff.mp hk)
  .rw[c.length];lia
  .rw[c.length,Cnt.zby o]at j;exact q e H2 (s1.free he) j (s1.trans s2)
def qV (rs:AE)(g S:AD):Bool:=Grow.fits (nearF rs) (zQ rs) (JE rs g) g S
def Yd {rs:AE}{o x:AA}:nearF rs o x=true↔x∈zM rs o:=Parts.zaO _ _
def zqJ {rs:AE}{x:AA}(h:x∈zT rs):Cells.sgn (codes rs) x=63:=by
 obtain⟨t,k,c,b,hk,a⟩:=zY h;have:k=63:=by
  unfold J0 at hk;simpa using hk
 rw[a,this]
def YM {rs:AE}{o x:AA}(a:x∈zT rs):nearF rs o x=true↔x∈clA rs o:=by
 rw[Yd];constructor
 .exact λh=>XS.mpr ⟨h,br (zqJ a)⟩
 .exact λh=>(XS.mp h).1
def zfH {rs:AE}{g:AD}{o:AA}:o∈JE rs g↔o∈zw rs/\∃x∈g,nearF rs o x=true:=by
 unfold JE;rw[XS,Tq,WF];refine and_congr_right λ_=>?_;constructor
 .rintro⟨z,hz,h⟩;have a:(g.any λx=>decide (x=z))=true:=h;exact⟨z,(Parts.zaO _ _).mp a,Yd.mpr hz⟩
 .rintro⟨x,hx,h⟩;exact⟨x,Yd.mp h,(Parts.zaO _ _).mpr hx⟩
section
variable {rs:AE}{gs:List AD}(G:Parts.Good (clA rs) (zw rs) gs)
include G
theorem yN:∀c∈gs.flatten,c∈zT rs:=λc a=>by
 obtain⟨o,_,h⟩:=G.from_ c a;exact Z7 h
theorem zoB {g:AD}(f:g∈gs){o x:AA}(j:o∈JE rs g)(k:x∈zT rs)(i:nearF rs o x=true):x∈g:=by
 obtain⟨h1,y,h,h2⟩:=zfH.mp j;have d:=yN G y (Wt.mpr ⟨g,f,h⟩);have b:=(YM d).mp h2;obtain⟨l,c,a⟩:=G.cov o h1 (SN b);have e:=Parts.zeJ G.nd c f (a y b) h;rw[<- e];exact a x ((YM k).mp i)
theorem zjC {g:AD}(d:g∈gs){o:AA}(f:o∈JE rs g){a:AD}(h:∀c∈a,c∈zT rs/\c ∉ g):Grow.cnt (nearF rs) o a=0:=by
 unfold Grow.cnt;rw[UY,Wo];intro c b e;exact(h c b).2 (zoB G d f (h c b).1 e)
theorem za1 {g:AD}(i:g∈gs):Tally.Loc (zT rs) (qV rs g) g:=by
 have e:∀S f:AD,(∀o∈JE rs g,Grow.cnt (nearF rs) o S=Grow.cnt (nearF rs) o f)->qV rs g S=qV rs g f:=λS f h=>by
  unfold qV Grow.fits;rw[WX,WT,WT];constructor
  .intro k o c;have:=k o c;rwa [h o (XS.mp c).1]at this
  .intro k o c;have:=k o c;rwa [<- h o (XS.mp c).1]at this
 have d:∀(o:AA) (a b:AD),Grow.cnt (nearF rs) o (a++b)=Grow.cnt (nearF rs) o a+Grow.cnt (nearF rs) o b:=λo a b=>by
  unfold Grow.cnt;rw[Xg,XU]
 refine⟨λa b h=>e _ _ λo c=>?_,λa b h=>e _ _ λo c=>?_⟩
 .rw[d,zjC G i c h,VR]
 .rw[d,zjC G i c h,Pm]
theorem zhh:(gs.map λg=>Tally.tl g (qV rs g)).foldl Pour.ZG [1]=Tally.tl gs.flatten (Tally.yd (qV rs) gs):=Tally.zim G.nd (yN G) λg a=>za1 G a
theorem zkU (i:Nat):((gs.take i).map λg=>Tally.tl g (qV rs g)).foldl Pour.ZG [1]=Tally.tl (gs.take i).flatten (Tally.yd (qV rs) (gs.take i)):=by
 have sub:(gs.take i).flatten.Sublist gs.flatten:=by
  have e:gs.flatten=(gs.take i).flatten++(gs.drop i).flatten:=by rw[<- Wp,WU]
  rw[e];exact Uo _ _
 exact Tally.zim (G.nd.sublist sub) (λc a=>yN G c (sub.subset a)) λg b=>za1 G (VJ b)
theorem Qm (R:Rows bd.cps.toList rs):gs.flatten.length<=64:=by
 have h1:=Parts.yw G.nd (yN G);have h2:=zeR R;lia
end
def zeX (rs:AE)(part:AD):Cnt.Jd part.length (YL rs part)=Tally.tl part (qV rs part):=by
 unfold YL;rw[Tally.zgX part.length toL (λk=>Y1 _)];exact Tally.zjw part _
def zkV (xs:List Int):Prop:=∀z∈xs,z.natAbs<2^8000
def zjD {cs:AD}{p:AD->Bool}{k:Nat}(h:cs.length<=64):Tally.T cs p k<=2^64:=by
 refine X5 List.countP_le_length ?_;rw[Subs.zbx,Y1,Wd];exact V3 (by decide) h
def YN {cs:AD}{p:AD->Bool}(h:cs.length<=64):zkV (Tally.tl cs p):=λz a=>by
 unfold Tally.tl at a;obtain⟨k,_,rfl⟩:=XJ.mp a;rw[Rn];exact XM (zjD h) (Oy (by decide) (by decide))
def Ye (rs:AE)(S:AD):Bool:=((zw rs).filter λo=>!(clA rs o).isEmpty).all λo=>decide (((Grow.cnt (nearF rs) o S:Nat):Int)=zQ rs o)
def JF {rs:AE}{S:AD}:Ye rs S=true ↔ ∀o∈zw rs,clA rs o ≠ []->((Grow.cnt (nearF rs) o S:Nat):Int)=zQ rs o:=by
 unfold Ye;rw[WT];constructor
 .intro h o a b;exact bg (h o (XS.mpr ⟨a,by rw[Ws];exact UE.mpr b⟩))
 .intro h o a;obtain⟨h1,h2⟩:=XS.mp a;rw[Ws]at h2;exact br (h o h1 (UE.mp h2))
def zbH {rs:AE}{gs:List AD}(G:Parts.Good (clA rs) (zw rs) gs)(S:AD):Tally.yd (qV rs) gs S=Ye rs S:=by
 rw[WX,JF];unfold Tally.yd qV Grow.fits;rw[WT];constructor
 .intro h o d i;obtain⟨x,b⟩:=Th _ i;obtain⟨g,e,a⟩:=G.cov o d i;have c:nearF rs o x=true:=(YM (Z7 b)).mpr b;have:=h g e;rw[WT]at this;exact bg (this o (XS.mpr ⟨zfH.mpr ⟨d,x,a x b,c⟩,WF.mpr ⟨x,a x b,c⟩⟩))
 .intro h g e;rw[WT];intro o d;obtain⟨h1,x,b,c⟩:=zfH.mp (XS.mp d).1;have f:=yN G x (Wt.mpr ⟨g,e,b⟩);exact br (h o h1 (SN ((YM f).mp c)))
def zmJ {rs:AE}{gs:List AD}(G:Parts.Good (clA rs) (zw rs) gs){c:AA}:c∈gs.flatten↔c∈zT rs/\∃o∈zw rs,nearF rs o c=true:=by
 constructor
 .intro h;obtain⟨o,e,b⟩:=G.from_ c h;have d:=Z7 b;exact⟨d,o,e,(YM d).mpr b⟩
 .rintro⟨d,o,e,hn⟩;have b:=(YM d).mp hn;obtain⟨g,f,a⟩:=G.cov o e (SN b);exact Wt.mpr ⟨g,f,a c b⟩
def ji (rs:AE)(S:AD):Bool:=(zw rs).all λo=>decide (((Grow.cnt (nearF rs) o S:Nat):Int)=zQ rs o)
def J4 {rs:AE}{S:AD}:ji rs S=true ↔ ∀o∈zw rs,((Grow.cnt (nearF rs) o S:Nat):Int)=zQ rs o:=by
 unfold ji;rw[WT];exact⟨λh o a=>bg (h o a),λh o a=>br (h o a)⟩
def zdu (rs:AE):Tally.Inv (ji rs):=λa b e=>by
 rw[WX,J4,J4];have:∀o,Grow.cnt (nearF rs) o a=Grow.cnt (nearF rs) o b:=λo=>(e.filter _).length_eq;constructor
 .intro h o c;rw[<- this o];exact h o c
 .intro h o c;rw[this o];exact h o c
def zmK {rs:AE}:(jT rs).isEmpty=true ↔ ∀o∈zw rs,clA rs o=[]->zQ rs o=0:=by
 rw[PJ];unfold jT zQ;rw[Wo];constructor
 .intro h o a b;have:=h o (XS.mpr ⟨a,by rw[b];rfl⟩);rw[Ws,Bool.not_eq_false]at this;rw[bg this];rfl
 .intro h o a;obtain⟨h1,h2⟩:=XS.mp a;have:=h o h1 (PJ.mp h2);rw[Ws,Bool.not_eq_false];exact br (by lia)
def za2 {rs:AE}{S:AD}(d:∀c∈S,c∈zT rs):ji rs S=((jT rs).isEmpty&&Ye rs S):=by
 have z:∀o,clA rs o=[]->Grow.cnt (nearF rs) o S=0:=λo a=>by
  unfold Grow.cnt;rw[UY,Wo];intro c b e;have:=(YM (d c b)).mp e;rw[a]at this;cases this
 rw[WX,Vu,J4,zmK,JF];constructor
 .intro h;refine⟨λo a b=>?_,λo a _=>h o a⟩;rw[<- h o a,z o b];rfl
 .rintro⟨h1,h2⟩ o a;by_cases b:clA rs o=[]
  .rw[z o b,h1 o a b];rfl
  .exact h2 o a b
def zjE {rs:AE}{c o:AA}(a:c∈yf rs)(b:o∈zw rs):nearF rs o c=false:=by
 unfold yf at a;have h:=(XS.mp a).2;rw[Ws,Tq,QP]at h;exact W6.mpr (h o b)
def zdv {rs:AE}{a b:AD}(i:∀c∈b,c∈yf rs):Ye rs (a++b)=Ye rs a:=by
 have e:∀o∈zw rs,Grow.cnt (nearF rs) o (a++b)=Grow.cnt (nearF rs) o a:=λo d=>by
  unfold Grow.cnt;rw[Xg,XU];have:b.filter (nearF rs o)=[]:=Wo.mpr λc f g=>by
   rw[zjE (i c f) d]at g;cases g
  rw[this];rfl
 rw[WX,JF,JF];constructor
 .intro h o d f;rw[<- e o d];exact h o d f
 .intro h o d f;rw[e o d];exact h o d f
def za3 {rs:AE}{c:AA}(h:c∈yf rs):c∈zT rs:=(XS.mp h).1
def YO (rs:AE):(zT rs).Nodup:=yg (Cells.jQ _ 0 (codes rs))
def zeY (rs:AE):(yf rs).Nodup:=(YO rs).sublist Wg
section
variable {rs:AE}{gs:List AD}(G:Parts.Good (clA rs) (zw rs) gs)
include G
theorem za4 {c:AA}:c∈yf rs↔c∈zT rs/\c ∉ gs.flatten:=by
 rw[zmJ G];constructor
 .intro h;refine⟨za3 h,?_⟩;rintro⟨_,o,b,a⟩;rw[zjE h b]at a;cases a
 .rintro⟨h1,h2⟩;unfold yf;refine XS.mpr ⟨h1,?_⟩;rw[Ws,Tq,QP];intro o b a;exact h2 ⟨h1,o,b,a⟩
theorem QM:(zT rs).Perm (gs.flatten++yf rs):=by
 refine(Vk (YO rs) (WD.mpr ⟨G.nd,zeY rs,λa f b g e=>?_⟩)).mpr λc=>?_
 .subst e;exact((za4 G).mp g).2 f
 .rw[XG,za4 G];constructor
  .intro h;by_cases d:c∈gs.flatten
   .exact .inl d
   .exact .inr ⟨h,d⟩
  .rintro(h | h)
   .exact yN G c h
   .exact h.1
theorem count_is (s:Nat):(if (jT rs).isEmpty=true then Tally.dl (Tally.tl gs.flatten (Tally.yd (qV rs) gs)) (yf rs).length ((s:Nat):Int) else 0)=((Tally.T (zT rs) (ji rs) s:Nat):Int):=by
 rw[Tally.zfB (QM G) (zdu rs)];have f:∀a∈Subs.subs gs.flatten,∀b∈Subs.subs (yf rs),ji rs (a++b)=((jT rs).isEmpty&&Tally.yd (qV rs) gs a):=λa e b i=>by
  have sa:=(Tally.yq e).subset;have k:=(Tally.yq i).subset;rw[za2 λc j=>(XG.mp j).elim (λh=>yN G c (sa h)) λh=>za3 (k h),zdv λc j=>k j,zbH G]
 cases i:(jT rs).isEmpty with
 | true =>
  rw[bw rfl];refine Tally.zpm (λa e b d=>?_) s;rw[f a e b d,i,RS]
 | false =>
  rw[bq (by decide),Tally.zcx λS g=>?_]
  .rfl
  .rw[Tally.zaR]at g;obtain⟨b,d,g⟩:=Vc.mp g;obtain⟨a,e,rfl⟩:=XJ.mp g;rw[f a e b d,i,Sy]
theorem zmL (c:AA):Tally.Inv λS=>ji rs S&&decide (c∈S):=λa b e=>by
 show (ji rs a&&decide (c∈a))=(ji rs b&&decide (c∈b));rw[zdu rs a b e,show decide (c∈a)=decide (c∈b) from decide_eq_decide.mpr e.mem_iff]
theorem zqK {c:AA}(f:c∈yf rs)(s:Nat):(if (jT rs).isEmpty=true then Tally.dl (Tally.tl gs.flatten (Tally.yd (qV rs) gs)) ((yf rs).length-1) (((s:Nat):Int)-1) else 0)=((Tally.T (zT rs) (λS=>ji rs S&&decide (c∈S)) s:Nat):Int):=by
 rw[Tally.zfB (QM G) (zmL G c)];have i:∀a∈Subs.subs gs.flatten,∀b∈Subs.subs (yf rs),(ji rs (a++b)&&decide (c∈a++b))=((jT rs).isEmpty&&(Tally.yd (qV rs) gs a&&decide (c∈b))):=λa g b k=>by
  have sa:=(Tally.yq g).subset;have l:=(Tally.yq k).subset;have e:decide (c∈a++b)=decide (c∈b):=decide_eq_decide.mpr ⟨λh=>(XG.mp h).elim (λh=>absurd (sa h) ((za4 G).mp f).2) id,λh=>Xc _ h⟩;rw[za2 λc f=>(XG.mp f).elim (λh=>yN G c (sa h)) λh=>za3 (l h),zdv λc f=>l f,zbH G,e,Rs]
 cases k:(jT rs).isEmpty with
 | true =>
  rw[bw rfl];refine Tally.zop f (zeY rs) (λa g b d=>?_) s;rw[i a g b d,k,RS];exact congrArg _ (decide_eq_decide.mpr Iff.rfl)
 | false =>
  rw[bq (by decide),Tally.zcx λS j=>?_]
  .rfl
  .rw[Tally.zaR]at j;obtain⟨b,d,j⟩:=Vc.mp j;obtain⟨a,g,rfl⟩:=XJ.mp j;rw[i a g b d,k,Sy]
end
def zfI (A B:List AD)(g:AD):(A++g::B).flatten.Perm ((A++B).flatten++g):=by
 rw[Wp,Wp,WA,WW];exact(TQ (l₁:=g) (l₂:=B.flatten)).append_left _
def zjF {rs:AE}{A B:List AD}{g:AD}(G:Parts.Good (clA rs) (zw rs) (A++g::B)){c:AA}(i:c∈g):Pour.ZG (Tally.tl (A++B).flatten (Tally.yd (qV rs) (A++B))) (Tally.tl g λS=>qV rs g S&&decide (c∈S))=Tally.tl ((A++B).flatten++g) λS=>Tally.yd (qV rs) (A++B) S&&(qV rs g S&&decide (c∈S)):=by
 have j:=zfI A B g;have o:((A++B).flatten++g).Nodup:=j.nodup_iff.mp G.nd;have n:∀x∈(A++B).flatten++g,x∈zT rs:=λx d=>yN G x (j.mem_iff.mpr d);have f:g∈A++g::B:=by simp
 have e:∀x∈A++B,x∈A++g::B:=λx d=>by
  rcases XG.mp d with h | h
  .exact WV _ h
  .exact Xc _ (XY _ h)
 have L:=za1 G f;have m:Tally.Loc (zT rs) (λS=>qV rs g S&&decide (c∈S)) g:=by
  refine⟨λa b h=>?_,λa b h=>?_⟩
  .show (qV rs g (a++b)&&decide (c∈a++b))=(qV rs g b&&decide (c∈b));rw[L.l a b h,show decide (c∈a++b)=decide (c∈b) from decide_eq_decide.mpr ⟨λk=>(XG.mp k).elim (λk=>absurd i (h c k).2) id,λk=>Xc _ k⟩]
  .show (qV rs g (a++b)&&decide (c∈a++b))=(qV rs g a&&decide (c∈a));rw[L.r a b h,show decide (c∈a++b)=decide (c∈a) from decide_eq_decide.mpr ⟨λk=>(XG.mp k).elim id λk=>absurd i (h c k).2,λk=>WV _ k⟩]
 exact Tally.zde o n (λx d=>za1 G (e x d)) m
def zoC {rs:AE}{A B:List AD}{g:AD}(G:Parts.Good (clA rs) (zw rs) (A++g::B)){c:AA}(f:c∈g)(s:Nat) :
  (if (jT rs).isEmpty=true then Tally.dl (Pour.ZG (Tally.tl (A++B).flatten (Tally.yd (qV rs) (A++B))) (Tally.tl g λS=>qV rs g S&&decide (c∈S))) (yf rs).length ((s:Nat):Int) else 0)=((Tally.T (zT rs) (λS=>ji rs S&&decide (c∈S)) s:Nat):Int):=by
 have o:=zfI A B g;have q:∀x∈(A++B).flatten++g,x∈zT rs:=λx r=>yN G x (o.mem_iff.mpr r);have m:g∈A++g::B:=by simp
 rw[zjF G f];have hP:(zT rs).Perm ((A++B).flatten++g++yf rs):=(QM G).trans (o.append_right _);rw[Tally.zfB hP (zmL G c)];have j:∀a∈Subs.subs ((A++B).flatten++g),∀b∈Subs.subs (yf rs),(ji rs (a++b)&&decide (c∈a++b))=((jT rs).isEmpty&&(Tally.yd (qV rs) (A++B) a&&(qV rs g a&&decide (c∈a)))):=λa i b l=>by
  have sa:=(Tally.yq i).subset;have n:=(Tally.yq l).subset;have e:decide (c∈a++b)=decide (c∈a):=decide_eq_decide.mpr ⟨λh=>(XG.mp h).elim id λh=>absurd (Wt.mpr ⟨g,m,f⟩) ((za4 G).mp (n h)).2,λh=>WV _ h⟩;have p:Tally.yd (qV rs) (A++g::B) a=(Tally.yd (qV rs) (A++B) a&&qV rs g a):=by
   rw[Tally.zdd,Tally.zdd];show (_&&(qV rs g a&&Tally.yd (qV rs) B a))=_;rw[RT (qV rs g a),Rs]
  rw[za2 λc f=>(XG.mp f).elim (λh=>q c (sa h)) λh=>za3 (n h),zdv λc f=>n f,<- zbH G,p,e,Rs,Rs]
 cases l:(jT rs).isEmpty with
 | true =>
  rw[bw rfl];refine Tally.zpm (λa i b d=>?_) s;show (ji rs (a++b)&&decide (c∈a++b))=_;rw[j a i b d,l,RS]
 | false =>
  rw[bq (by decide),Tally.zcx λS k=>?_]
  .rfl
  .rw[Tally.zaR]at k;obtain⟨b,d,k⟩:=Vc.mp k;obtain⟨a,i,rfl⟩:=XJ.mp k;rw[j a i b d,l,Sy]
def zqL (K:XW):Sp:=λf H Q _=>∃(a b:Addr) (c d:List Int),f=[.ref a,.ref b]/\SqL K H a (iL c)/\SqL K H b (iL d)/\1<=c.length/\c.length<=70/\1<=d.length/\d.length<=70/\zkV c/\zkV d /\
 ∀(l:Addr) (e:Hp),H l=none->e l=some (.lst (iL (Pour.ZG c d)))->zB H e->Q (.ref l) e
def yS (H:Hp):AF->List (List Int)->Prop:=W2 λv b=>∃a,v=V.ref a/\H a=some (.lst (iL b))
def xh {H c:Hp}(s:zB H c){d:AF}{b:List (List Int)}(f:yS H d b):yS c d b:=by
 induction f with
 | nil=>exact .nil
 | cons q _ g =>
  obtain⟨a,e,h⟩:=q;exact .cons ⟨a,e,s _ _ h⟩ g
def QN {H:Hp}{b:AF}{a:List (List Int)}(h:yS H b a):b.length=a.length:=Paired.length h
def zmM {H:Hp}{c:AF}{b:List (List Int)}{i:Nat}{v:V}(h:yS H c b)(e:c[i]?=some v):∃xs a,b[i]?=some xs/\v=V.ref a/\H a=some (.lst (iL xs)):=by
 obtain⟨S,h1,a,h2⟩:=zgl h e;exact⟨S,a,h1,h2⟩
structure ziy (xss:List (List Int)):Prop where
 one:∀xs∈xss,1<=xs.length/\xs.length<=70/\zkV xs
 acc:∀i,1<=((xss.take i).foldl Pour.ZG [1]).length/\((xss.take i).foldl Pour.ZG [1]).length<=70/\zkV ((xss.take i).foldl Pour.ZG [1])
def zqM:Sp:=λf H Q _=>∃(c:Addr) (e:AF) (a:List (List Int)),f=[.ref c]/\H c=some (.lst e)/\yS H e a/\ziy a /\
 ∀(d:Addr) (b:Hp),H d=none->b d=some (.lst (iL (a.foldl Pour.ZG [1])))->zB H b->Q (.ref d) b
def Small (rs:AE):Prop:=∀a,Parts.Good (clA rs) (zw rs) a->∀g∈a,g.length<=14
def tls (rs:AE)(gs:List AD):List (List Int):=gs.map λg=>Tally.tl g (qV rs g)
def zmN {rs:AE}(R:Rows bd.cps.toList rs){gs:List AD}(G:Parts.Good (clA rs) (zw rs) gs):ziy (tls rs gs):=by
 have a:=Qm G R;refine⟨λh f=>?_,λi=>?_⟩
 .obtain⟨g,d,rfl⟩:=XJ.mp f;have c:g.length<=64:=X5 (Vn (VN d)) a;rw[Tally.jX];exact⟨by lia,by lia,YN c⟩
 .unfold tls;rw[<- RW,zkU G i];have b:(gs.take i).flatten.length<=64:=by
   have e:gs.flatten=(gs.take i).flatten++(gs.drop i).flatten:=by rw[<- Wp,WU]
   rw[e,XU]at a;lia
  rw[Tally.jX];exact⟨by lia,by lia,YN b⟩
def zqN:Sp:=λe H Q _=>∃(p l:Addr) (a:AE) (n:Int),e=[.ref p]/\qc H p l a n/\Rows bd.cps.toList a/\Small a /\
 ∀(d:Addr) (b:List AD) (c:Hp),H d=none->Parts.Good (clA a) (zw a) b->Up2 (heads b)->c d=some (.lst (iL (Tally.tl b.flatten (Tally.yd (qV a) b))))->zB H c->Q (.ref d) c
def JL:zE ["one","other","counts","i","many","j","more"] ["one","other"] (zf zaS):=bh
def zeZ (T:Txt mg)(D:zh K mg "poured" zaS ["one","other"] f fd):qA P w K mg base CX0 1 f fd ["one","other"] (zqL K):=by
 refine D.F.ok JL (λvs H Q E h=>?_) (λae A ac s H vs Q E hr h=>?_)
 .revert h;refine eZ λa b xs k z0 _=>?_;subst z0;rfl
 .revert h;refine fy λa b xs k z0 O U x1=>e8 λx2 y1 y2 bx bY q=>?_;subst z0;refine⟨_,(@ze _ _ _ _ _ (@zC _ _ 2 _ _ _ _ JL.nd rfl (XF rfl) (@zK _ _ _ _ _ _ _ _ zlt (@qm _ _ _ _ (@za _ _ _ _ _ zk zb rfl)) (zK jD (zK jm (zx zD (by rfl) T.qG Xk (za (pvS 0) zb)) (zx zD (by rfl) T.qG Xk (za (pvS 1) zb))) zk)) (by rfl) (.inr rfl)) (ze (qB Xh rfl (xS (by rfl) T.qY (za (pvS 0) zb)) (JO rfl (zR (zq (i:=3) JL.nd rfl (XF rfl)) (zR (zq (i:=4) JL.nd rfl (XF rfl)) jB))) (zg (qB Xh rfl (xS (by rfl) T.qY (za (pvS 1) zb)) (JO rfl (zR (zq (i:=5) JL.nd rfl (XF rfl)) (zR (zq (i:=6) JL.nd rfl (XF rfl)) jB))) (zg (zi3 (pvS 2) (zK jm (pvS 3) (pvS 5)) zgm (zK Zi (pvS 4) (pvS 6)) zlk set_list))))) (zg (zJ (pvS 2))))),?_⟩;(try dsimp only[cxK,cxP,cxW]);refine⟨sz_1,λl0 Y=>?_⟩;have s0:zB H (upd H l0 (.lst [.int 0])):=zd Y;refine⟨_,rfl,a,_,rfl,.inl (s0.seq O),_,rfl,b,_,rfl,.inl (s0.seq U),_,_,rfl,rfl,_,_,rfl,rfl,l0,_,_,rfl,rfl,zc,?_,?_,?_,λp hp=>?_⟩
  .rw[Y1,Y1];lia
  .rw[Y1,Y1];lia
  .rw[Y1,Y1];exact X5 (show 1*((xs.length:Int)+(k.length:Int)-1).toNat<=140 by lia) (by decide)
  have en:(((iL xs).length:Nat)+((iL k).length:Nat)-1:Int).toNat=xs.length+k.length-1:=by
   rw[Y1,Y1];lia
  rw[en,zhf,<- Pour.zmg];have s1:zB H (upd (upd H l0 (.lst [.int 0])) p (.lst (iL (Pour.st xs k 0 0)))):=s0.trans (zd hp);have G:H p=none:=s0.free hp;refine⟨_,rfl,a,rfl,⟨_,s1.seq O⟩,?_⟩;refine yX (K:=K) (l:=a) (xs:=iL xs) (λi m n=>∃v3 v4 r u,m=[some (.ref a),some (.ref b),some (.ref p),v3,v4,r,u]/\zB H n/\n p=some (.lst (iL (Pour.st xs k i 0))))
   (dX (dD rfl s1 zc)) (λi m n _ ⟨_,_,_,_,_,s,_⟩=>s.seq O) ?_ ?_
  .refine λi v t m L hv ht=>eW λv3 v4 r u=>eV λz0 M d=>?_;subst z0;obtain⟨x,hx,rfl⟩:=ints_get hv;have st:zB L (upd L t (.tup [.int (i:Nat),.int x])):=zd ht;refine dR t rfl (SqT.of zc) rfl rfl rfl rfl ?_;refine⟨_,rfl,b,rfl,⟨_,(M.trans st).seq U⟩,?_⟩;refine yX (K:=K) (l:=b) (xs:=iL k) (λj m n=>∃r u,m=[some (.ref a),some (.ref b),some (.ref p),some (.int (i:Nat)),some (.int x),r,u]/\zB H n/\n p=some (.lst (iL (Pour.st xs k i j))))
    ⟨_,_,rfl,M.trans st,st _ _ d⟩ (λj m n _ ⟨_,_,_,s,_⟩=>s.seq U) ?_ ?_
   .refine λj v t2 m N ab aa=>fh λr u z0 s3 g=>?_;subst z0;obtain⟨y,hy,rfl⟩:=ints_get ab;have J:zB N (upd N t2 (.tup [.int (j:Nat),.int y])):=zd aa;have I:=J _ _ g;have hi:i<xs.length:=(XZ.mp hx).1;have hj:j<k.length:=(XZ.mp hy).1;have B:((i:Int)+(j:Int)).toNat=i+j:=by lia
    refine dR t2 rfl (SqT.of zc) rfl rfl rfl rfl ?_;refine⟨_,rfl,_,rfl,_,rfl,_,_,rfl,rfl,p,_,_,_,rfl,rfl,SqL.of I,ZE (by lia) (by rw[B];exact zjB (Pour.zij (by lia))),?_⟩;refine⟨_,rfl,_,rfl,_,_,rfl,rfl,zrO (bx _ (X8 hx)) (bY _ (X8 hy)),_,_,rfl,rfl,p,_,_,_,rfl,rfl,I,zmH (by lia) (by rw[Y1,Pour.zii];lia),?_⟩;refine eH rfl (λc o e=>?_) ?_
    .have hc:c≠p:=λz=>by
      subst z;rw[G]at e;cases e
     rw[zp hc];exact J _ _ (s3 _ _ e)
    .rw[zc,B,<- Pour.zok hx hy];show some (HO.lst ((TC V.int _).set _ (V.int _)))=_;rw[<- List.map_set]
   .refine λm N=>fh λr u z0 s3 g=>?_;subst z0;rw[Y1,Pour.zqz]at g;exact dX (dD rfl s3 g)
  .refine λm L=>eW λv3 v4 r u=>eV λz0 M d=>?_;subst z0;rw[Y1,Pour.zqA]at d;exact⟨_,rfl,q p L G d M⟩
def xP:zE ["lists","counts","others"] ["lists"] (zf Jx):=bh
def ZI (T:Txt mg)(Z:Prog K mg)(D:zh K mg "all_poured" Jx ["lists"] f fd):qA P w K mg base CX0 2 f fd ["lists"] zqM:=by
 obtain⟨ab,aa,z⟩:=Z.poured;refine D.F.ok xP (λvs H Q E h=>?_) (λM A r s H vs Q E O h=>?_)
 .obtain⟨l,J,k,rfl,_⟩:=h;rfl
 .revert h;refine eX λl J k z0 g I ok q=>?_;subst z0;refine⟨_,(@ze _ _ _ _ _ (@zC _ _ 1 _ _ _ _ xP.nd rfl (XF rfl) (@qm _ _ _ _ (@za _ _ _ _ _ zk zb rfl)) (by rfl) (.inr rfl)) (ze (qB Xh rfl (zO (pvS 0)) (zq (i:=2) xP.nd rfl (XF rfl)) (zg (zC (i:=1) xP.nd rfl (XF rfl) (pc0 (zeZ T z) O z (za (pvS 1) (za (pvS 2) zb)))))) (zg (zJ (pvS 1))))),?_⟩;(try dsimp only[cxK,cxP,cxW]);refine⟨sz_1,λB e=>?_⟩;have s0:zB H (upd H B (.lst [.int 1])):=zd e;refine⟨_,rfl,l,rfl,⟨_,SqL.of (s0 _ _ g)⟩,?_⟩;refine jM (K:=K) (a:=l) (xs:=J) (λi m n=>∃(c:Addr) (u:Option V),m=[some (.ref l),some (.ref c),u]/\zB H n/\H c=none/\n c=some (.lst (iL ((k.take i).foldl Pour.ZG [1]))))
   ⟨B,_,rfl,s0,e,zc⟩ (λi m n _ ⟨_,_,_,y,_⟩=>SqL.of (y _ _ g)) ?_ ?_
  .refine λi v m x U=>eU λc u z0 s1 G b=>?_;subst z0;refine fh (λxs L j z0 o=>?_) (zmM I U);subst z0;obtain⟨Y,o2,o3⟩:=ok.one xs (X8 j);obtain⟨p1,p2,p3⟩:=ok.acc i;refine⟨_,rfl,_,rfl,c,L,_,xs,rfl,SqL.of b,SqL.of (s1 _ _ o),p1,p2,Y,o2,p3,o3,λd H2 N p s2=>?_⟩;refine⟨d,_,rfl,s1.trans s2,s1.free N,?_⟩;rw[p,XI,j,Uy];rfl
  .rintro m x ⟨c,u,rfl,s1,G,b⟩;rw[QN I,XO]at b;exact⟨_,rfl,q c x G b s1⟩
def zdw:zE ["board"] ["board"] (zf yh):=bh
def zdx (T:Txt mg)(Z:Prog K mg)(D:zh K mg "near_counts" yh ["board"] f fd):qA P w K mg base CX0 6 f fd ["board"] zqN:=by
 obtain⟨an,ak,zU⟩:=Z.around;obtain⟨JM,xj,zu⟩:=Z.sign_at;obtain⟨xo,yy,zv⟩:=Z.cells_of;obtain⟨ah,Q5,zI⟩:=Z.open_cells;obtain⟨aj,ai,qp⟩:=Z.number_at;obtain⟨aq,am,jn⟩:=Z.numbers_of;obtain⟨ax,au,j3⟩:=Z.needs_at;obtain⟨ay,av,yx⟩:=Z.may_fit;obtain⟨ao,al,jh⟩:=Z.part_layings;obtain⟨az,aw,jw⟩:=Z.counted;obtain⟨a5,a2,Q6⟩:=Z.part_counts;obtain⟨YV,Yg,qd⟩:=Z.closed_around;obtain⟨a3,a1,Z9⟩:=Z.joined;obtain⟨a6,a4,aa⟩:=Z.parts;obtain⟨ar,ap,jJ⟩:=Z.all_poured;refine D.F.ok zdw (λvs H Q E h=>?_) (λaf A ae s H vs Q E hr h=>?_)
 .revert h;refine eZ λp l r n z0 _=>?_;subst z0;rfl
 .revert h;refine fy λp l r n z0 b R sm q=>?_;subst z0;refine⟨_,(zg (zJ (pc0 (ZI T Z jJ) hr jJ (za (qz (N:=["part","board"]) (src:=[none,some 0]) (zW.free (O:=(zf yh).names) (XN:=["board"]) rfl rfl ⟨_,rfl⟩ rfl rfl (by decide+kernel) (by decide+kernel) (by decide+kernel) rfl (by decide+kernel)) rfl (zO (pc0 (zg7 T aa zU zu zv zI qd Z9) hr aa (za (pvS 0) zb))) (λ_ _ _ _ _=>(zq (i:=0) (by show W9 (["part","board"]:AE);decide+kernel) rfl (XF rfl))) (λ_ _ _ _ _=>qQ) (λ_ _ _ _ _=>(pc0 (zds T Q6 zU zu zv zI qp jn j3 yx jh jw) hr Q6 (za (pvS 1) (za (pvS 0) zb))))) zb)))),?_⟩;(try dsimp only[cxK,cxP,cxW]);refine⟨_,rfl,p,l,r,n,rfl,b,R,λd ws m H1 hd J hG _ _ G up s1=>⟨d,rfl,⟨_,SqL.of J⟩,λz hz=>?_⟩⟩;have ag:m.length<=64:=X5 (Parts.Qe G.ne) (Qm G R);refine qj (K:=K) (a:=d) (xs:=ws) (λj x H'=>∃(u0:Option V) (B:AF),x=[u0,some (.ref p)]/\zB H1 H'/\H' z=some (.lst B)/\(∀v∈B,∀a,v=V.ref a->a≠z)/\yS H' B (tls r (m.take j)))
   ⟨_,[],rfl,zd hz,zc,(λ_ h=>nomatch h),.nil⟩ (λj x H' _ ⟨_,_,_,y,_⟩=>SqL.of (y _ _ J)) ?_ ?_
  .refine λj v x H2 hv=>eY λu0 B z0 U u L k=>?_;subst z0;refine fc (λg hg=>fh λga ug z0 ac ab=>?_) (yt.get (hG.mono U) hv);subst z0;have gm:=X8 hg;have il:=(XZ.mp hg).1;unfold zay;refine zfG ?_;refine⟨_,rfl,_,rfl,p,l,ga,r,n,ug,g,rfl,(b.mono s1).mono U,R,ac,ab,yg (G.srt g gm),sm m G g gm,λe H3 he c Y=>?_⟩;rw[zeX]at c;have ez:e≠z:=λy=>by
    subst y;rw[u]at he;cases he
   refine⟨_,(dD (Y _ _ u) ?_ ⟨_,(dN (B++[.ref e]) rfl (λb o e'=>?_) zc (λv hv a ea=>?_) ?_)⟩)⟩
   .rw[QN k];unfold tls;rw[Y1,XQ];exact XM (show _<=64 by lia) (by decide)
   .rw[zp (zj e' hz)];exact Y _ _ (U _ _ e')
   .rcases XG.mp hv with hv | hv
    .exact L v hv a ea
    .have:v=V.ref e:=by simpa using hv
     rw[this]at ea;cases ea;exact ez
   .have t1:tls r (m.take (j+1))=tls r (m.take j)++[Tally.tl g (qV r g)]:=by
     unfold tls;rw[XI,hg,Xj];rfl
    rw[t1];have into:∀{us:AF} {I:List (List Int)},yS H3 us I->(∀v∈us,∀a,v=V.ref a->a≠z)->yS (upd H3 z (.lst (B++[.ref e]))) us I:=by
     intro us I h;induction h with
     | nil=>exact λ_=>.nil
     | cons h t ih =>
      intro L;obtain⟨a,rfl,ha⟩:=h;exact .cons ⟨a,rfl,by rw[zp (L _ XX a rfl)];exact ha⟩ (ih λv hv=>L v (XY _ hv))
    exact Paired.snoc (into (xh Y k) L) ⟨e,rfl,by rw[zp ez];exact c⟩
  refine λx H2=>eY λu0 B z0 U u _ k=>?_;subst z0;rw[hG.length,XO]at k;refine eE z B (tls r m) rfl u k (zmN R G) (λe H3 he c Y=>?_);have M:=s1.trans U;rw[show (tls r m).foldl Pour.ZG [1]=Tally.tl m.flatten (Tally.yd (qV r) m) from zhh G]at c;exact q e m H3 (M.free he) G up c (M.trans Y)
def chV (n k:Int):Int:=if 0<=k/\k<=n then ((Choose.ch n.toNat k.toNat:Nat):Int) else 0
def zoE (m:Nat)(k:Int):chV (m:Nat) k=Tally.chZ m k:=by
 unfold chV Tally.chZ;rw[VQ];by_cases h0:k<0
 .rw[bq (by lia),bw h0]
 .rw[bq h0];by_cases h1:k<=(m:Int)
  .rw[bw ⟨by lia,h1⟩]
  .rw[bq (by lia),Choose.zbz m k.toNat (by lia)];rfl
def zoF {n k:Int}(h:n<=64):(chV n k).natAbs<2^8000:=by
 have h1:(2:Nat)^64<2^8000:=Oy (by decide) (by decide);have a:(0:Nat)<2^8000:=XM (W4 _) h1;unfold chV;split
 .rw[Rn];exact XM (X5 (Choose.zr6 _ _) (V3 (by decide) (show n.toNat<=64 by lia))) h1
 .exact a
def dlV (xs:List Int)(m st:Int):Int:=Pour.S (λk=>Pour.F xs k*chV m (st-(k:Nat))) xs.length
def zfL (xs:List Int)(m:Nat)(st:Int):dlV xs (m:Nat) st=Tally.dl xs m st:=by
 unfold dlV Tally.dl;exact Pour.Zo _ λi _=>by rw[zoE]
theorem zpp (h:Nat->Int):∀n,((Wc n).map h).sum=Pour.S h n
 | 0=>rfl
 | n+1=>by
  rw[List.range_succ,Xj,List.sum_append,zpp h n];show _+(h n+0)=Pour.S h n+h n;lia
def zsZ:Sp:=λa H Q _=>∃(n k:Int),a=[.int n,.int k]/\n<=64/\Q (.int (chV n k)) H
def zoG:Sp:=λd H Q _=>∃(c:Addr) (a:List Int) (m st:Int),d=[.ref c,.int m,.int st]/\H c=some (.lst (iL a))/\zkV a/\a.length<=150/\m<=64/\∀b,zB H b->Q (.int (dlV a m st)) b
def yO (rs:AE)(n:Int):Int:=((Tally.T (zT rs) (ji rs) n.toNat:Nat):Int)
def zoH:Sp:=λc H Q _=>∃(p l:Addr) (a:AE) (n:Int),c=[.ref p]/\qc H p l a n/\Rows bd.cps.toList a/\Small a/\0<=n/\∀b,zB H b->Q (.int (yO a n)) b
def YQ:zE ["n","k","found","step"] ["n","k"] (zf QF):=bh
def ziC (T:Txt mg)(D:zh K mg "choices" QF ["n","k"] f fd):qA P w K mg base CX0 1 f fd ["n","k"] zsZ:=by
 refine D.F.ok YQ (λo H Q E h=>?_) (λj A d s H o Q E r h=>?_)
 .obtain⟨n,k,rfl,_⟩:=h;rfl
 .obtain⟨n,k,rfl,u,q⟩:=h;refine⟨_,(ze (jk (ZC (YZ JY JY zk (pvS 1) (pvS 0))) (@zg _ _ _ (@zJ _ _ _ _ zk)) ql) (@ze _ _ _ _ _ (@zC _ _ 2 _ _ _ _ YQ.nd rfl (XF rfl) zk (by rfl) (.inr rfl)) (ze (qB Xh rfl (yT (by rfl) T.JA (za (pvS 1) zb)) (zq (i:=3) YQ.nd rfl (XF rfl)) (zg (zC (i:=2) YQ.nd rfl (XF rfl) (zK yc (zK Zi (pvS 2) (zK jD (pvS 0) (pvS 3))) (zK jm (pvS 3) zk))))) (zg (zJ (pvS 2)))))),?_⟩;(try dsimp only[cxK,cxP,cxW]);refine⟨_,rfl,_,_,rfl,rfl,_,rfl,?_⟩;unfold chV at q;refine zgg (λc=>?_) (λc=>?_)
  .have b:(0:Int)<=k:=bg c;refine⟨_,rfl,_,_,rfl,rfl,_,rfl,?_⟩;by_cases c:k<=n
   .rw[bw ⟨b,c⟩]at q;rw[br c];refine ZD ?_;refine⟨_,rfl,k,rfl,by lia,by lia,?_⟩;refine j8 (lo:=0) (n:=k.toNat) (λi g a=>∃v,g=[some (.int n),some (.int k),some (.int (Choose.ch n.toNat i)),v]/\a=H) ⟨_,by rw[Choose.QE];rfl,rfl⟩ ?_ ?_
    .rintro i g a p ⟨v,rfl,rfl⟩;refine⟨_,rfl,_,rfl,_,rfl,_,_,rfl,rfl,_,_,rfl,rfl,zrN (by lia) (by lia),_,rfl,_,_,rfl,rfl,_,_,rfl,rfl,JQ.small (by lia) (by lia),?_⟩;refine⟨some (.int (0+(i:Int))),?_,rfl⟩;have e:=Choose.zol (n:=n.toNat) (k:=i) (by lia);have l:((n.toNat:Nat):Int)=n:=VC (by lia);rw[l]at e;have m:(Choose.ch n.toNat i:Int)*(n-(0+(i:Int)))/(0+(i:Int)+1)=Choose.ch n.toNat (i+1):=by
      rw[UA];exact e
     show [_,_,some (V.int ((Choose.ch n.toNat i:Int)*(n-(0+(i:Int)))/(0+(i:Int)+1))),_]=_;rw[m]
    .rintro g a ⟨v,rfl,rfl⟩;exact⟨_,rfl,q⟩
   .rw[bq (λh=>c h.2)]at q;rw[bf c];exact zaA q
  .have b:¬ (0:Int)<=k:=λz=>c (br z);rw[bq (λh=>b h.1)]at q;exact⟨_,rfl,zaA q⟩
def zmS:zE ["counts","cells","stones"] ["counts","cells","stones"] (zf zaT):=bh
def zdA (T:Txt mg)(Z:Prog K mg)(D:zh K mg "dealt" zaT ["counts","cells","stones"] f fd):qA P w K mg base CX0 2 f fd ["counts","cells","stones"] zoG:=by
 obtain⟨ab,aa,e⟩:=Z.choices;refine D.F.ok zmS (λvs H Q E h=>?_) (λU A r s H vs Q E Y h=>?_)
 .revert h;refine eZ λc xs m st z0 _=>?_;subst z0;rfl
 .revert h;refine fH λc xs m st z0 v M xl G q=>?_;subst z0;refine⟨_,(zg (zJ (zx (zlA rfl) (by rfl) T.zr8 PyProof.Rows.boot_sum (za (qz (N:=["k","many","cells","stones"]) (src:=[none,none,some 1,some 2]) (zW.free (O:=(zf zaT).names) (XN:=["counts","cells","stones"]) rfl rfl ⟨_,rfl⟩ rfl rfl (by decide+kernel) (by decide+kernel) (by decide+kernel) rfl (by decide+kernel)) rfl (xS (by rfl) T.qY (za (pvS 0) zb)) (λ_ _ _ _ _=>(zaC (n:=2) (K:=K) (by rfl) rfl (zR (zq (i:=0) (by show W9 (["k","many","cells","stones"]:AE);decide+kernel) rfl (XF rfl)) (zR (zq (i:=1) (by show W9 (["k","many","cells","stones"]:AE);decide+kernel) rfl (XF rfl)) jB)))) (λ_ _ _ _ _=>qQ) (λ_ _ _ _ _=>(zK Zi (pvS 1) (pc0 (ziC T e) Y e (za (pvS 2) (za (zK jD (pvS 3) (pvS 0)) zb)))))) zb)))),?_⟩;(try dsimp only[cxK,cxP,cxW]);refine⟨_,rfl,c,rfl,⟨_,SqL.of v⟩,λz B=>?_⟩;refine zhV (K:=K) (a:=c) (xs:=iL xs) (λi g j=>(∃J u1,g=[J,u1,some (.int m),some (.int st)])/\zB H j/\j z=some (.lst (iL ((Wc i).map λk=>Pour.F xs k*chV m (st-(k:Nat)))))) ⟨⟨_,_,rfl⟩,zd B,zc⟩ (λi g j _ ⟨_,d,_⟩=>SqL.of (d _ _ v)) ?_ ?_
  .rintro i x tt g L hx l ⟨⟨J,u1,rfl⟩,d,b⟩;obtain⟨y,p,rfl⟩:=ints_get hx;have il:=(XZ.mp p).1;have I:=zd (o:=.tup [.int ((i:Nat):Int),.int y]) l;refine dR tt rfl (SqT.of zc) rfl rfl rfl rfl ?_;unfold zlx;refine zaA ⟨_,rfl,_,rfl,_,rfl,_,rfl,_,_,rfl,rfl,m,_,rfl,G,_,_,rfl,rfl,zrO (M y (X8 p)) (zoF G),_,I _ _ b,?_,⟨_,_,rfl⟩,λb' o u=>?_,?_⟩
   .rw[Y1,Y1,Wd];exact Xd (show i<150 by lia) (by decide)
   .rw[zp (zj u B)];exact I _ _ (d _ _ u)
   .rw[zc,List.range_succ,Xj];show _=some (HO.lst (iL (_++[Pour.F xs i*chV m (st-(i:Nat))])));rw[zoz,Pour.zoi p]
  .rintro g L ⟨_,d,b⟩;refine⟨z,_,rfl,SqL.of b,?_⟩;rw[Y1,zpp];exact q _ d
def zhj:zE ["board","near"] ["board"] (zf zcz):=bh
def zmT (T:Txt mg)(Z:Prog K mg)(D:zh K mg "count" zcz ["board"] f fd):qA P w K mg base CX0 7 f fd ["board"] zoH:=by
 obtain⟨al,ai,zU⟩:=Z.around;obtain⟨JM,xj,zu⟩:=Z.sign_at;obtain⟨xo,yy,zv⟩:=Z.cells_of;obtain⟨ak,aj,qR⟩:=Z.closed;obtain⟨af,Q5,zI⟩:=Z.open_cells;obtain⟨ah,ag,qp⟩:=Z.number_at;obtain⟨YV,Yg,qd⟩:=Z.closed_around;obtain⟨av,au,j⟩:=Z.far;obtain⟨an,am,Y⟩:=Z.bare_wrong;obtain⟨aq,ao,J⟩:=Z.near_counts;obtain⟨ar,ap,L⟩:=Z.dealt;refine D.F.ok zhj (λvs H Q E h=>?_) (λaa A x s H vs Q E g h=>?_)
 .revert h;refine eZ λp l a n z0 _=>?_;subst z0;rfl
 .revert h;refine fH λp l a n z0 b R sm n0 q=>?_;subst z0;refine⟨_,(ze (zC (i:=1) zhj.nd rfl (XF rfl) (pc0 (zdx T Z J) g J (za (pvS 0) zb))) (ze (jk (zL (yW g.units) (pc0 (Q4 T Y zU zu zv qd zI qp) g Y (za (pvS 0) zb)) (@qm _ _ _ _ zb) (qe _)) (@zg _ _ _ (@zJ _ _ _ _ zk)) ql) (zg (zJ (pc0 (zdA T Z L) g L (za (pvS 1) (za (zx zD (by rfl) T.qG Xk (za (pc0 (zmv T j zU zu zv qR zI) g j (za (pvS 0) zb)) zb)) (za (qh qf (pvS 0) zk (λ_ _=>rfl)) zb)))))))),?_⟩;(try dsimp only[cxK,cxP,cxW]);refine⟨_,rfl,p,l,a,n,rfl,b,R,sm,λd1 gs H1 ac G up B s1=>?_⟩;refine⟨_,rfl,p,l,a,n,rfl,b.mono s1,R,λd2 w2 H2 ae I r U=>⟨ZU,λe he=>?_⟩⟩;have k:=zd (o:=.lst []) he;have O:=count_is G n.toNat;rw[VC n0]at O;unfold yO at q;rw[<- O]at q;refine dP (.list ((jT a).map zo)) (.list []) (.lst (SqL.of (k _ _ I)) (zG.rdv (N:=λ_=>True) (Cel.rdn (Cel.mono k r)))) (.lst (SqL.of zc) .nil) (zfE _ []) ⟨_,rfl,?_⟩;have ee:(if true=true then !PyData.eqv (.list ((jT a).map zo)) (.list []) else W5 (.list ((jT a).map zo)) (.list []))=!(jT a).isEmpty:=by
   show (!PyData.eqv _ _)=_;rw[eq_nil]
  rw[ee];have c:=(s1.trans U).trans k;have d:=k _ _ (U _ _ B);generalize upd H2 e (.lst [])=H3 at *
  cases hb:(jT a).isEmpty with
  | false =>
   rw[hb,bq XT]at q;exact zaA (q _ c)
  | true =>
   rw[hb,bw rfl]at q;refine ZD ?_;have M:=b.mono c;refine⟨_,rfl,_,rfl,p,l,a,n,rfl,M,R,λd4 z H4 _ v u y=>⟨d4,_,rfl,.inl (SqL.of v),?_⟩⟩;have hl:=u.length;have ab:(yf a).length<=64:=X5 (Xi _ _) (qN (p:=J0) R);have m:=Qm G R;refine⟨_,rfl,p,_,1,_,rfl,rfl,SqT.of (M.mono y).tp,rfl,d1,_,(z.length:Nat),n,rfl,y _ _ d,YN m,by rw[Tally.jX];lia,by lia,λH' s'=>?_⟩;rw[hl,zfL];exact q _ ((c.trans y).trans s')
def zec:zE ["found","greatest","cell"] ["found","greatest","cell"] (zf yK):=bh
def zed {f1:Addr}{U:XC}(T:Txt mg)(D:zh K mg "counted_at" yK ["found","greatest","cell"] f fd)(jw:zh K mg "counted" JK ["found","greatest"] f1 U):qA P w K mg base CX0 2 f fd ["found","greatest","cell"] zoA:=by
 refine D.F.ok zec (λvs H Q E h=>?_) (λaf A ae s H vs Q E hr h=>?_)
 .revert h;refine eW λM ca us B=>fC λN g c z0 _=>?_;subst z0;rfl
 .revert h;refine eW λM ca us B=>eX λN g c z0 u hL hk=>fJ λY kl aa q=>?_;subst z0;refine⟨_,(zg (zJ (pc0 (zal T jw) hr jw (za (qz (N:=["laying","cell"]) (src:=[none,some 2]) (zW.free (O:=(zf yK).names) (XN:=["found","greatest","cell"]) rfl rfl ⟨_,rfl⟩ rfl rfl (by decide+kernel) (by decide+kernel) (by decide+kernel) rfl (by decide+kernel)) rfl (zO (pvS 0)) (λ_ _ _ _ _=>(zq (i:=0) (by show W9 (["laying","cell"]:AE);decide+kernel) rfl (XF rfl))) (λ_ _ _ _ _=>(qt (zL (jy (K:=K) (by rfl) hr.units) (pvS 1) (pvS 0) (by rfl)))) (λ_ _ _ _ _=>(pvS 0))) (za (pvS 1) zb))))),?_⟩;(try dsimp only[cxK,cxP,cxW]);refine⟨_,rfl,M,rfl,⟨_,SqL.of u⟩,λz hz=>?_⟩;refine qj (K:=K) (a:=M) (xs:=us) (λj p G=>∃(u0:Option V) (n:AF),p=[u0,some (.ref ca)]/\zB H G/\G z=some (.lst n)/\jU (λa=>a≠z) G n ((B.take j).filter (zcc c)))
   ⟨_,[],rfl,zd hz,zc,.nil⟩ (λj p G _ ⟨_,_,_,y,_⟩=>SqL.of (y _ _ u)) ?_ ?_
  .refine λj v p H1 hv=>eU λu0 n z0 s1 m l=>?_;subst z0;refine eX (λk L wa x z0 _ r t1=>?_) (za0 hL hv);subst z0;have jl:j<B.length:=(XZ.mp x).1;have I:(B.take (j+1)).filter (zcc c)=(B.take j).filter (zcc c)++if zcc c k=true then [k] else []:=by
    rw[XI,x,Xg];congr 1;show OM _ [k]=_;rw[Xb];split<;>rfl
   refine⟨_,rfl,_,rfl,zo c,k.map pD,.tup (SqT.of (s1 _ _ aa)) (.cons (.int _) (.cons (.int _) .nil)),.lst (SqL.of (s1 _ _ r)) (zmB (Yb s1 t1)),rfl,zmC _,(by show 1<=60;decide),_,rfl,?_⟩;have ei:(if false=true then !(k.map pD).any (λz=>W5 z (zo c)) else (k.map pD).any λz=>W5 z (zo c))=zcc c k:=zqH k c;rw[ei];by_cases J:zcc c k=true
   .rw[bw J]at I;refine j9 J ?_;have yl:n.length<=16384:=by
     rw[jR l];refine X5 (Xi _ _) ?_;rw[XQ];lia
    refine⟨_,rfl,n,m,XM yl (by decide),_,n++[.ref L],rfl,λb o e=>?_,zc,?_⟩
    .rw[zp (zj e hz)];exact s1 _ _ e
    .rw[I];have nz:L≠z:=zj r hz;exact QJ (J3 m (λ_ h=>h) l) (.cons ⟨L,wa,rfl,nz,by rw[zp nz];exact s1 _ _ r,Yc m (Yb s1 t1)⟩ .nil)
   .rw[bq J,Xa]at I;refine jC (W6.mpr J) ?_;exact⟨_,n,rfl,s1,m,by rw[I];exact l⟩
  refine λp H1=>eU λu0 n z0 s1 m l=>?_;subst z0;rw[jR hL,XO]at l;refine⟨_,rfl,z,n,_,_,g,rfl,m,l,λk ac=>hk k (XS.mp ac).1,Y,λd H2 hd ab s2=>?_⟩;exact q d H2 (s1.free hd) ab (s1.trans s2)
abbrev KV1:=List (List Key×V)
def qo (c:AA):List Key:=[.inl ((c.1:Nat):Int),.inl ((c.2:Nat):Int)]
def J5 {c d:AA}(h:qo c=qo d):c=d:=by
 unfold qo at h;obtain⟨a,b⟩:=c;obtain⟨x,y⟩:=d;simp only[List.cons.injEq,Sum.inl.injEq,and_true]at h;obtain⟨h1,h2⟩:=h;have e:a=x:=by lia
 have f:b=y:=by lia
 rw[e,f]
def qv (rs:AE)(n:Int)(c:AA):Int:=((Tally.T (zT rs) (λS=>ji rs S&&decide (c∈S)) n.toNat:Nat):Int)
def ziD {rs:AE}{n:Int}{c:AA}(h:(jT rs).isEmpty=false):qv rs n c=0:=by
 unfold qv;rw[Tally.zcx λS a=>?_]
 .rfl
 .rw[za2 λc b=>(Tally.yq a).subset b,h];rfl
def zoJ (c:AA)(q:AD):zcc c (toL q)=decide (c∈q):=by
 unfold zcc toL;rw[Tq,WX,WF,bu];constructor
 .rintro⟨x,hx,h⟩;have f:toI x=toI c:=bg h;have:x=c:=by
   unfold toI at f;obtain⟨a,b⟩:=x;obtain⟨d,e⟩:=c;simp only[P0]at f;have g:a=d:=by lia
   have i:b=e:=by lia
   rw[g,i]
  rw[<- this];exact hx
 .intro h;exact⟨c,h,br rfl⟩
def zfN (rs:AE)(g:AD)(c:AA):Cnt.Jd g.length ((YL rs g).filter (zcc c))=Tally.tl g λS=>qV rs g S&&decide (c∈S):=by
 unfold YL;rw[O5,Tally.zgX g.length toL (λk=>Y1 _),T6];have e:(λa=>(zcc c∘toL) a&&Grow.fits (nearF rs) (zQ rs) (JE rs g) g a)=λS=>qV rs g S&&decide (c∈S):=by
  funext S;show (zcc c (toL S)&&qV rs g S)=_;rw[zoJ,RT]
 rw[e];exact Tally.zjw g _
def Qo {A B:List AD}(h:A.Sublist B):A.flatten.Sublist B.flatten:=by
 induction h with
 | slnil=>exact List.Sublist.refl _
 | cons a _ b=>rw[WA];exact List.Sublist.trans b (Rb _ _)
 | cons_cons a _ b=>rw[WA,WA];exact List.Sublist.append (List.Sublist.refl _) b
def zjG {rs:AE}{gs A:List AD}(G:Parts.Good (clA rs) (zw rs) gs)(h:A.Sublist gs):(tls rs A).foldl Pour.ZG [1]=Tally.tl A.flatten (Tally.yd (qV rs) A) :=
 Tally.zim (G.nd.sublist (Qo h)) (λc a=>yN G c ((Qo h).subset a)) λg b=>za1 G (h.subset b)
def zqQ {rs:AE}(R:Rows bd.cps.toList rs){gs A:List AD}(G:Parts.Good (clA rs) (zw rs) gs)(h:A.Sublist gs):ziy (tls rs A):=by
 have a:=Qm G R;refine⟨λj f=>?_,λi=>?_⟩
 .obtain⟨g,d,rfl⟩:=XJ.mp f;have c:g.length<=64:=X5 (Vn (VN (h.subset d))) a;rw[Tally.jX];exact⟨by lia,by lia,YN c⟩
 .have h2:=(TM i A).trans h;have e:(tls rs A).take i=tls rs (A.take i):=by
   unfold tls;rw[RW]
  have b:(A.take i).flatten.length<=64:=X5 (Qo h2).length_le a;rw[e,zjG G h2,Tally.jX];exact⟨by lia,by lia,YN b⟩
def zmX (rs:AE)(z:Addr)(H:Hp)(v:V)(g:AD):Prop:=∃a d c,v=V.ref a/\a≠z/\H a=some (.lst d)/\jU (λb=>b≠z) H d c/\c.Perm (YL rs g)
def zbK (rs:AE)(z:Addr)(H:Hp):AF->List AD->Prop:=W2 (zmX rs z H)
def Zw {rs:AE}{z:Addr}{H b:Hp}(s:zB H b){c:AF}{gs:List AD}(d:zbK rs z H c gs):zbK rs z b c gs:=by
 induction d with
 | nil=>exact .nil
 | cons q _ f =>
  obtain⟨a,i,g,e,n,h,l,p⟩:=q;exact .cons ⟨a,i,g,e,n,s _ _ h,jg s l,p⟩ f
def zhl {rs:AE}{z:Addr}{H:Hp}{xs ys:AF}(hz:H z=some (.lst xs)){b:AF}{gs:List AD}(c:zbK rs z H b gs):zbK rs z (upd H z (.lst ys)) b gs:=by
 induction c with
 | nil=>exact .nil
 | cons q _ d =>
  obtain⟨a,g,f,e,n,h,l,p⟩:=q;exact .cons ⟨a,g,f,e,n,by rw[zp n];exact h,J3 hz (λ_ h=>h) l,p⟩ d
def ze1 {rs:AE}{z:Addr}{H:Hp}{a:AF}{gs:List AD}{i:Nat}{v:V}(h:zbK rs z H a gs)(e:a[i]?=some v):∃g,gs[i]?=some g/\zmX rs z H v g:=zgl h e
def ziE {H:Hp}{z:Addr}{o:HO}{b:AF}{ks:List (List Int)}(c:yS H b ks)(n:∀v∈b,v≠V.ref z):yS (upd H z o) b ks:=by
 induction c with
 | nil=>exact .nil
 | cons q _ f =>
  obtain⟨a,e,h⟩:=q;exact .cons ⟨a,e,by rw[zp λy=>n _ XX (by rw[e,y])];exact h⟩ (f λv d=>n v (XY _ d))
theorem zdC {H:Hp}:∀{b:AF} {a:List (List Int)} (i:Nat),yS H b a->yS H (b.take i) (a.take i)
 | _,_,0,_=>.nil
 | _,_,_+1,.nil=>.nil
 | _,_,i+1,.cons h t=>.cons h (zdC i t)
theorem zdD {H:Hp}:∀{b:AF} {a:List (List Int)} (i:Nat),yS H b a->yS H (b.drop i) (a.drop i)
 | _,_,0,h=>h
 | _,_,_+1,.nil=>.nil
 | _,_,i+1,.cons _ t=>zdD i t
def zk0 {H:Hp}{d:AF}{c:List (List Int)}{b:AF}{a:List (List Int)}(h:yS H d c)(k:yS H b a):yS H (d++b) (c++a):=zcQ h k
def zjH (a:List (List Key×V))(k:List Key)(v:V):(putK a k v).length<=a.length+1:=by
 unfold putK;split
 .rw[Y1];exact V9 _
 .rw[XU];exact XV _
def zmY (l:List (List Key×V)):(YT l).length<=l.length:=by
 have:∀(l a:List (List Key×V)),(l.foldl (λa b=>putK a b.1 b.2) a).length<=a.length+l.length:=λl=>by
  induction l with
  | nil=>exact λa=>XV _
  | cons x r c =>
   intro a;rw[V6,Xx];have h1:=c (putK a x.1 x.2);have h2:=zjH a x.1 x.2;lia
 have:=this l [];rw[UD,VR]at this;exact this
def zqR (xs:AF){i:Nat}(h:i<=xs.length):zdU xs none (some ((i:Nat):Int))=xs.take i:=by
 unfold zdU;rw[HT.zi6,Nat.min_eq_left h];show (xs.drop 0).take (i-0)=_;rw[List.drop_zero,NQ]
def zmZ:Sp:=λf H Q _=>∃(p l:Addr) (b:AE) (n:Int),f=[.ref p]/\qc H p l b n/\Rows bd.cps.toList b/\Small b/\0<=n /\
 ∀(d:Addr) (a:List (List Key×V)) (e:Hp),H d=none->e d=some (.dT a)->(∀c∈zT b,jo a (qo c)=some (V.int (qv b n c)))->zB H e->Q (.ref d) e
def zV:zE ["board","pieces","found","counts","rest","at_far","told","place","part","others","cell","near"] ["board"] (zf qZ):=bh
def za8 (T:Txt mg)(Z:Prog K mg)(D:zh K mg "counts_by_cell" qZ ["board"] f fd):qA P w K mg base CX0 7 f fd ["board"] zmZ:=by
 obtain⟨df,cZ,zU⟩:=Z.around;obtain⟨JM,xj,zu⟩:=Z.sign_at;obtain⟨xo,yy,zv⟩:=Z.cells_of;obtain⟨de,da,qR⟩:=Z.closed;obtain⟨cV,Q5,zI⟩:=Z.open_cells;obtain⟨cX,cW,qp⟩:=Z.number_at;obtain⟨dj,dc,jn⟩:=Z.numbers_of;obtain⟨dt,dp,j3⟩:=Z.needs_at;obtain⟨dv,dq,yx⟩:=Z.may_fit;obtain⟨dg,db,jh⟩:=Z.part_layings;obtain⟨dw,dr,jw⟩:=Z.counted;obtain⟨d9,d4,bV⟩:=Z.counted_at;obtain⟨YV,Yg,qd⟩:=Z.closed_around;obtain⟨d0,dy,Z9⟩:=Z.joined;obtain⟨d6,d2,bU⟩:=Z.parts;obtain⟨dB,dA,bW⟩:=Z.far;obtain⟨dn,di,yP⟩:=Z.bare_wrong;obtain⟨dz,du,Qn⟩:=Z.poured;obtain⟨dm,dh,jJ⟩:=Z.all_poured;obtain⟨d8,d3,YR⟩:=Z.dealt;refine D.F.ok zV (λvs H Q E h=>?_) (λcM A c7 s H vs Q E hr h=>?_)
 .revert h;refine eZ λp l r n z0 _=>?_;subst z0;rfl
 .revert h;refine fH λp l r n z0 b R sm n0 q=>?_;subst z0;have cn:(zT r).length<=64:=qN R;refine⟨_,(ze (zC (i:=1) zV.nd rfl (XF rfl) (pc0 (zg7 T bU zU zu zv zI qd Z9) hr bU (za (pvS 0) zb))) (ze (xJ (i:=2) zV.nd rfl rfl (N:=["part","board"]) (src:=[none,some 0]) (zW.free (O:=(zf qZ).names) (XN:=["board","pieces","found","counts","rest","at_far","told","place","part","others","cell","near"]) rfl rfl ⟨_,rfl⟩ rfl rfl (by decide+kernel) (by decide+kernel) (by decide+kernel) rfl (by decide+kernel)) rfl (zO (pvS 1)) (λ_ _ _ _ _=>(zq (i:=0) (by show W9 (["part","board"]:AE);decide+kernel) rfl (XF rfl))) (λ_ _ _ _ _=>qQ) (λ_ _ _ _ _=>(pc0 (YU T jh zU zu zv zI qp jn j3 yx) hr jh (za (pvS 1) (za (pvS 0) zb))))) (ze (jk (zL (yW hr.units) (pc0 (Q4 T yP zU zu zv qd zI qp) hr yP (za (pvS 0) zb)) (@qm _ _ _ _ zb) (qe _)) (zg (zJ (qI (Jc hr.units hr.hd) (by rfl) T.zfC T1 (za (qz (N:=["cell"]) (src:=[none]) (zW.plain rfl (by decide+kernel) (by decide+kernel) (by decide+kernel) rfl (by decide)) rfl (zO (pc0 (Z1 T qR zv zu) hr qR (za (pvS 0) zb))) (λ_ _ _ _ _=>(zq (i:=0) (by show W9 (["cell"]:AE);decide+kernel) rfl (XF rfl))) (λ_ _ _ _ _=>qQ) (λ_ _ _ _ _=>(qH (za (pvS 0) (@za _ _ _ _ _ zk zb rfl))))) zb)))) ql) (ze (xJ (i:=3) zV.nd rfl rfl (N:=["part","some"]) (src:=[none,none]) (zW.plain rfl (by decide+kernel) (by decide+kernel) (by decide+kernel) rfl (by decide)) rfl (zqd (by rfl) T.zr9 (za (pvS 1) (za (pvS 2) zb))) (λ_ _ _ _ _=>(zaC (n:=2) (K:=K) (by rfl) rfl (zR (zq (i:=0) (by show W9 (["part","some"]:AE);decide+kernel) rfl (XF rfl)) (zR (zq (i:=1) (by show W9 (["part","some"]:AE);decide+kernel) rfl (XF rfl)) jB)))) (λ_ _ _ _ _=>qQ) (λ_ _ _ _ _=>(pc0 (zal T jw) hr jw (za (pvS 1) (za (zx (Qc (K:=K) (by rfl)) (by rfl) T.qG Xk (za (pvS 0) zb)) zb))))) (ze (zC (i:=4) zV.nd rfl (XF rfl) (pc0 (zmv T bW zU zu zv qR zI) hr bW (za (pvS 0) zb))) (ze (zC (i:=5) zV.nd rfl (UR rfl) (pc0 (zdA T Z YR) hr YR (za (pc0 (ZI T Z jJ) hr jJ (za (pvS 3) zb)) (za (zK jD (zx zD (by rfl) T.qG Xk (za (pvS 4) zb)) zk) (za (zK jD (qh qf (pvS 0) zk (λ_ _=>rfl)) zk) zb))))) (ze (zC (i:=6) zV.nd rfl (XF rfl) (qI (Jc hr.units hr.hd) (by rfl) T.zfC T1 (za (qz (N:=["cell","at_far"]) (src:=[none,some 5]) (zW.free (O:=(zf qZ).names) (XN:=["board","pieces","found","counts","rest","at_far","told","place","part","others","cell","near"]) rfl rfl ⟨_,rfl⟩ rfl rfl (by decide+kernel) (by decide+kernel) (by decide+kernel) rfl (by decide+kernel)) rfl (zO (pvS 4)) (λ_ _ _ _ _=>(zq (i:=0) (by show W9 (["cell","at_far"]:AE);decide+kernel) rfl (XF rfl))) (λ_ _ _ _ _=>qQ) (λ_ _ _ _ _=>(qH (za (pvS 0) (za (pvS 1) zb))))) zb))) (ze (qB Xh rfl (xS (by rfl) T.qY (za (pvS 1) zb)) (JO rfl (zR (zq (i:=7) zV.nd rfl (XF rfl)) (zR (zq (i:=8) zV.nd rfl (XF rfl)) jB))) (ze (zC (i:=9) zV.nd rfl (XF rfl) (pc0 (ZI T Z jJ) hr jJ (za (zK Y4 (zcL zfi (pvS 3) zff (zfg (pvS 7))) (zcL zfi (pvS 3) (zfg (zK jm (pvS 7) zk)) zff)) zb))) (zg (qB Xh rfl (zO (pvS 8)) (zq (i:=10) zV.nd rfl (XF rfl)) (ze (zC (i:=11) zV.nd rfl (XF rfl) (pc0 (zeZ T Qn) hr Qn (za (pvS 9) (za (pc0 (zed T bV jw) hr bV (za (qh jd (pvS 2) (pvS 7) (λ_ _=>rfl)) (za (zx zD (by rfl) T.qG Xk (za (pvS 8) zb)) (za (pvS 10) zb)))) zb)))) (zg (zcp (u1 hr.units) (pvS 6) (pvS 10) (pc0 (zdA T Z YR) hr YR (za (pvS 11) (za (zx zD (by rfl) T.qG Xk (za (pvS 4) zb)) (za (qh qf (pvS 0) zk (λ_ _=>rfl)) zb)))) rfl))))))) (zg (zJ (pvS 6))))))))))),?_⟩;(try dsimp only[cxK,cxP,cxW]);refine⟨_,rfl,p,l,r,n,rfl,b,R,λd1 w1 m H1 cP bj hG _ _ G up s1=>?_⟩;have au:=Qm G R;have aH:m.length<=64:=X5 (Parts.Qe G.ne) au;refine⟨_,rfl,d1,rfl,⟨_,SqL.of bj⟩,λz hz=>?_⟩;refine qj (K:=K) (a:=d1) (xs:=w1) (λj aa u=>∃(u0:Option V) (ys:AF),aa=[u0,some (.ref p)]/\zB H1 u/\u z=some (.lst ys)/\zbK r z u ys (m.take j))
   ⟨_,[],rfl,zd hz,zc,.nil⟩ (λj aa u _ ⟨_,_,_,y,_⟩=>SqL.of (y _ _ bj)) ?_ ?_
  .refine λj v aa H2 hv=>eU λu0 ys z0 s2 ai bH=>?_;subst z0;refine fc (λg hg=>fh λga ug z0 az an=>?_) (yt.get (hG.mono s2) hv);subst z0;have gm:=X8 hg;have il:=(XZ.mp hg).1;unfold zay;refine zfG ?_;refine⟨_,rfl,_,rfl,p,l,ga,r,n,ug,g,rfl,(b.mono s1).mono s2,R,az,an,yg (G.srt g gm),sm m G g gm,λe we ks H3 he cx hL _ cy _ s3=>?_⟩;have ez:e≠z:=λy=>by
    subst y;rw[ai]at he;cases he
   have nz:∀a,(H2 a=none/\a≠e)->a≠z:=λa h y=>by
    subst y;rw[ai]at h;cases h.1
   have t1:m.take (j+1)=m.take j++[g]:=by
    rw[XI,hg];rfl
   refine⟨_,(dD (s3 _ _ ai) ?_ (dS (ys++[.ref e]) rfl (λb' o e'=>?_) zc ?_))⟩
   .rw[show ys.length=(m.take j).length from Paired.length bH,XQ];exact XM (show _<=64 by lia) (by decide)
   .rw[zp (zj e' hz)];exact s3 _ _ (s2 _ _ e')
   .rw[t1];exact Paired.snoc (zhl (s3 _ _ ai) (Zw s3 bH)) ⟨e,we,ks,rfl,ez,by rw[zp ez];exact cx,J3 (s3 _ _ ai) (λ_ h=>h) (zaj nz hL),cy⟩
  refine λaa H2=>eU λu0 ys z0 s2 ai aB=>?_;subst z0;rw[hG.length,XO]at aB;have bK:=s1.trans s2;have cp:=hG.mono s2;have b3:=s2 _ _ bj;refine⟨_,rfl,p,l,r,n,rfl,b.mono bK,R,λd w2 H3 hd cv aS s3=>⟨ZU,λe he=>?_⟩⟩;have s4:=zd (o:=.lst []) he;refine dP (.list ((jT r).map zo)) (.list []) (.lst (SqL.of (s4 _ _ cv)) (zG.rdv (N:=λ_=>True) (Cel.rdn (Cel.mono s4 aS)))) (.lst (SqL.of zc) .nil) (zfE _ []) ⟨_,rfl,?_⟩;have ee:(if true=true then !PyData.eqv (.list ((jT r).map zo)) (.list []) else W5 (.list ((jT r).map zo)) (.list []))=!(jT r).isEmpty:=by
   show (!PyData.eqv _ _)=_;rw[eq_nil]
  rw[ee];have a6:=s3.trans s4;have aE:=bK.trans a6;have b4:=b.mono aE;have aw:=a6 _ _ b3;have ba:=a6 _ _ ai;have bv:=cp.mono a6;have bt:=Zw a6 aB;generalize upd H3 e (.lst [])=H4 at *
  cases hb:(jT r).isEmpty with
  | false =>
   refine zaA ?_;refine⟨_,rfl,p,l,r,n,rfl,b4,R,λd5 w5 H5 cw aK aC s5=>(dU d5 rfl ⟨_,SqL.of aK⟩ (λy hy=>?_))⟩;have b2:Cel H5 w5 (zT r):=aC;refine qj (K:=K) (a:=d5) (xs:=w5) (λi Y u=>(∃u0,Y=[u0])/\zB H5 u/\∃ys,u y=some (.lst ys)/\jV u ys (((zT r).take i).map λc=>(qo c,V.int 0))) ⟨⟨_,rfl⟩,zd hy,[],zc,.nil⟩ (λi Y u _ ⟨_,s6,_⟩=>SqL.of (s6 _ _ aK)) ?_ ?_
   .rintro i x Y H6 hx ⟨⟨u0,rfl⟩,s6,ys,ah,ac⟩;refine e9 (λc aU ca z0 am=>?_) (Cel.get (Cel.mono s6 b2) hx);subst z0;refine xH ⟨_,rfl,ZV,λp hp=>?_⟩;have s7:=zd (o:=.tup [.ref ca,.int 0]) hp;have a1:ys.length<=64:=by
     rw[ac.length,Y1,XQ];lia
    refine dN ys (s7 _ _ ah) (XM a1 (by decide)) ⟨_,rfl⟩ (λb' o e'=>?_) (dY (ys++[.ref p]) zc ?_)
    .rw[zp (zj e' hy)];exact s7 _ _ (s6 _ _ e')
    .rw[XI,aU,Xj];exact jV.into y _ (s7 _ _ ah) (jV.snoc (ac.mono s7) ⟨p,ca,rfl,zc,s7 _ _ am⟩)
   .refine λY H6=>fB λ_ s6 ys ah ac=>?_;rw[b2.length,XO]at ac;refine dF y ys ⟨_,(dI rfl ah ac (λdd ao=>?_))⟩;refine q dd _ _ ((aE.trans (s5.trans s6)).free ao) zc (λc J=>?_) ((aE.trans (s5.trans s6)).trans (zd ao));rw[ziD hb];have:=zbm (v:=V.int 0) (k:=qo c) ((zT r).map qo) [] (.inl (XJ.mpr ⟨c,J,rfl⟩));rw[WE]at this;exact this
  | true =>
   refine ZD ?_;refine⟨_,rfl,_,rfl,d1,z,rfl,⟨_,SqL.of aw⟩,⟨_,SqL.of ba⟩,λt0 bE=>?_⟩;refine zlH (K:=K) (l1:=d1) (l2:=z) (xs:=w1) (ys:=ys) (λj aa u=>∃(u0 u1:Option V) (B:AF),aa=[u0,u1]/\zB H4 u/\u t0=some (.lst B)/\(∀v∈B,v≠V.ref t0)/\yS u B (tls r (m.take j))) (hG.length.trans (Paired.length aB).symm)
    (dH (dN [] rfl (zd bE) zc (λ_ h=>nomatch h) (.nil))) (λj aa u _ ⟨_,_,_,_,y,_⟩=>⟨SqL.of (y _ _ aw),SqL.of (y _ _ ba)⟩) ?_ ?_
   .refine λj v v' tt aa H5 hv cz a2=>eX λu0 u1 B z0 s5 aD nt al=>?_;subst z0;refine fc (λg hg=>fh λga ug z0 az an=>?_) (yt.get (bv.mono s5) hv);subst z0;refine fc (λg' aq=>eX λfa wf ks z0 fz aZ aR ar=>?_) (ze1 (Zw s5 bt) cz);subst z0;rw[hg]at aq;cases aq;have gm:=X8 hg;have il:=(XZ.mp hg).1;have z6:=zd (o:=.tup [V.ref ga,V.ref fa]) a2;refine dR tt rfl (SqT.of zc) rfl rfl rfl rfl ?_;have bF:=z6 _ _ aD;have bB:=z6 _ _ az;have b8:=z6 _ _ aZ;have b0:=jg z6 aR;have cB:=s5.trans z6;have cq:=xh z6 al;generalize upd H5 tt (.tup [V.ref ga,V.ref fa])=H6 at *
    refine zfG ?_;refine⟨_,rfl,_,rfl,ga,_,rfl,.inl (SqL.of bB),fa,wf,ks,_,ug.length,rfl,b8,b0,λk hk=>?_,?_,λe7 H7 b6 bZ s7=>?_⟩
    .rw[an.length];exact zdq (ar.mem_iff.mp hk)
    .rw[an.length];have:=sm m G g gm;lia
    .rw[an.length,Cnt.zby ar,zeX]at bZ;have et:e7≠t0:=λy=>by
      subst y;rw[bF]at b6;cases b6
     have t1:tls r (m.take (j+1))=tls r (m.take j)++[Tally.tl g (qV r g)]:=by
      unfold tls;rw[XI,hg,Xj];rfl
     refine⟨_,(dD (s7 _ _ bF) ?_ (dH (dN (B++[.ref e7]) rfl (λb' o e'=>?_) zc (λv hv=>?_) ?_)))⟩
     .rw[QN al];unfold tls;rw[Y1,XQ];exact XM (show _<=64 by lia) (by decide)
     .rw[zp (zj e' bE)];exact s7 _ _ (cB _ _ e')
     .rcases XG.mp hv with hv | hv
      .exact nt v hv
      .have:v=V.ref e7:=by simpa using hv
       rw[this];intro y;cases y;exact et rfl
     .rw[t1];exact Paired.snoc (ziE (xh s7 cq) nt) ⟨e7,rfl,by rw[zp et];exact bZ⟩
   refine λaa H5=>eX λu0 u1 B z0 s5 aD _ al=>?_;subst z0;rw[hG.length,XO]at al;have bb:=aE.trans s5;refine⟨_,rfl,p,l,r,n,rfl,b.mono bb,R,λd5 w5 H6 cw cb aC s6=>?_⟩;have wl:=aC.length;have cO:(yf r).length<=64:=X5 (Xi _ _) cn;refine⟨_,rfl,t0,B,tls r m,rfl,s6 _ _ aD,xh s6 al,zmN R G,λd7 H7 cQ cc s7=>?_⟩;rw[show (tls r m).foldl Pour.ZG [1]=Tally.tl m.flatten (Tally.yd (qV r) m) from zhh G]at cc;have b7:=((b.mono bb).mono s6).mono s7;refine⟨_,rfl,d5,_,rfl,.inl (SqL.of (s7 _ _ cb)),_,_,rfl,rfl,_,rfl,p,_,1,_,rfl,rfl,SqT.of b7.tp,rfl,_,_,rfl,rfl,d7,_,_,_,rfl,cc,YN au,by rw[Tally.jX];lia,by lia,λH8 s8=>?_⟩;have bi:=s7.trans s8;have aG:=s6.trans bi;have c8:=bb.trans aG;have ax:=bi _ _ cb;have b1:=aC.mono bi;have bo:∀c∈yf r,dlV (Tally.tl m.flatten (Tally.yd (qV r) m)) (((w5.length:Nat):Int)-1) (n-1)=qv r n c:=λc J=>by
    have pos:=T2 J;have ci:=zqK G J n.toNat;rw[hb,bw rfl,VC n0]at ci;unfold qv;rw[<- ci,wl,show (((yf r).length:Nat):Int)-1=(((yf r).length-1:Nat):Int) by lia,zfL]
   generalize dlV (Tally.tl m.flatten (Tally.yd (qV r) m)) (((w5.length:Nat):Int)-1) (n-1)=val at *
   refine⟨_,rfl,d5,rfl,⟨_,SqL.of ax⟩,λy hy=>?_⟩;refine qj (K:=K) (a:=d5) (xs:=w5) (λi Y u=>(∃u0,Y=[u0,some (.int val)])/\zB H8 u/\∃ys,u y=some (.lst ys)/\jV u ys (((yf r).take i).map λc=>(qo c,V.int val))) ⟨⟨_,rfl⟩,zd hy,[],zc,.nil⟩ (λi Y u _ ⟨_,s6,_⟩=>SqL.of (s6 _ _ ax)) ?_ ?_
   .rintro i x Y cL hx ⟨⟨u0,rfl⟩,bP,aA,ah,ac⟩;refine e9 (λc aU ca z0 am=>?_) (Cel.get (Cel.mono bP b1) hx);subst z0;refine xH ⟨_,rfl,_,rfl,ZV,λp hp=>?_⟩;have a7:=zd (o:=.tup [.ref ca,.int val]) hp;have a1:aA.length<=64:=by
     rw[ac.length,Y1,XQ];lia
    refine dN aA (a7 _ _ ah) (XM a1 (by decide)) ⟨_,rfl⟩ (λb' o e'=>?_) (dY (aA++[.ref p]) zc ?_)
    .rw[zp (zj e' hy)];exact a7 _ _ (bP _ _ e')
    .rw[XI,aU,Xj];exact jV.into y _ (a7 _ _ ah) (jV.snoc (ac.mono a7) ⟨p,ca,rfl,zc,a7 _ _ am⟩)
   refine λY H9=>fB λ_ s9 aA c0 bD=>?_;rw[b1.length,XO]at bD;refine dF y aA ⟨_,(dI rfl c0 bD (λdd ao=>?_))⟩;have bQ:=zd (o:=.dT (YT ((yf r).map λc=>(qo c,V.int val)))) ao;have aV:upd H9 dd (.dT (YT ((yf r).map λc=>(qo c,V.int val)))) dd=some (.dT (YT ((yf r).map λc=>(qo c,V.int val)))):=zc;have c5:(YT ((yf r).map λc=>(qo c,V.int val))).length<=64:=by
    have:=zmY ((yf r).map λc=>(qo c,V.int val));rw[Y1]at this;lia
   have c6:∀c∈yf r,jo (YT ((yf r).map λc=>(qo c,V.int val))) (qo c)=some (V.int (qv r n c)):=λc J=>by
    have:=zbm (v:=V.int val) (k:=qo c) ((yf r).map qo) [] (.inl (XJ.mpr ⟨c,J,rfl⟩));rw[WE]at this;rw[<- bo c J];exact this
   generalize YT ((yf r).map λc=>(qo c,V.int val))=kvs0 at *
   generalize upd H9 dd (.dT kvs0)=H10 at *
   have aF:=s5.trans (aG.trans s9);have bc:=c8.trans s9;have ce:H dd=none:=bc.free ao;have aJ:=aF _ _ aw;have c4:=aF _ _ ba;have aQ:=bv.mono aF;have co:=Zw aF bt;have bG:=(aG.trans s9) _ _ aD;have bx:=xh (aG.trans s9) al;have b5:=s9 _ _ ax;have b9:=b.mono bc;refine⟨_,rfl,d1,rfl,⟨_,SqL.of (bQ _ _ aJ)⟩,?_⟩;refine yX (K:=K) (l:=d1) (xs:=w1) (λi Y u=>∃(I:List (List Key×V)) (v7 v8 v9 a8 a9:Option V),Y=[some (.ref p),some (.ref d1),some (.ref z),some (.ref t0),some (.ref d5),some (.int val),some (.ref dd),v7,v8,v9,a8,a9]/\zB H9 u/\u dd=some (.dT I)/\I.length<=64+(m.take i).flatten.length/\(∀c,c∈yf r\/c∈(m.take i).flatten->jo I (qo c)=some (V.int (qv r n c))))
    ⟨kvs0,(dQ rfl bQ aV (by simpa using c5) (λc J=>J.elim (c6 c) (λh=>by simp at h)))⟩ (λi Y u _ ⟨_,_,_,_,_,_,_,y,_⟩=>SqL.of (y _ _ aJ)) ?_ ?_
   .refine λi v tt Y aO hv a2=>eW λI v7 v8 v9=>eY λa8 a9 z0 a3 L kl kv=>?_;subst z0;refine fc (λg hg=>fh λga ug z0 az an=>?_) (yt.get (aQ.mono a3) hv);subst z0;have gm:=X8 hg;have il:=(XZ.mp hg).1;have cg:=sm m G g gm;have aP:m=m.take i++g::m.drop (i+1):=by
     have e1:=(WU i m).symm;rw[WL il]at e1;have e2:m[i]=g:=by
      rw[X2 il]at hg;exact Option.some.inj hg
     rwa [e2]at e1
    have tk:(m.take (i+1)).flatten=(m.take i).flatten++g:=by
     rw[XI,hg,Wp];congr 1;simp
    have AB:(m.take i++m.drop (i+1)).Sublist m:=by
     conv=>rhs;rw[aP]
     exact List.Sublist.append (List.Sublist.refl _) (List.sublist_cons_self _ _)
    have cU:tt≠dd:=λy=>by
     subst y;rw[L]at a2;cases a2
    have bR:=zd (o:=.tup [.int (i:Nat),V.ref ga]) a2;refine dR tt rfl (SqT.of zc) rfl rfl rfl rfl ?_;have be:=a3.trans bR;have aW:=bR _ _ L;generalize upd aO tt (.tup [.int (i:Nat),V.ref ga])=H12 at *
    have cl:=QN bx;have tlen:(tls r m).length=m.length:=Y1 _;refine⟨_,rfl,_,rfl,_,rfl,t0,B,rfl,SqL.of (be _ _ bG),λc1 ct=>?_⟩;have bS:=zd (o:=.lst (zdU B none (some ((i:Nat):Int)))) ct;refine⟨_,rfl,_,rfl,_,_,rfl,rfl,_,rfl,t0,B,rfl,SqL.of (bS _ _ (be _ _ bG)),λc2 cu=>?_⟩;have bT:=zd (o:=.lst (zdU B (some (((i:Nat):Int)+1)) none)) cu;rw[zqR B (show i<=B.length by lia),zhd B i (by lia)]at *
    refine eL c1 c2 (dG rfl rfl (bT _ _ zc) zc ?_ (λc3 aS=>?_))
    .rw[XQ,Vf];exact X5 (show _<=128 by lia) (by decide)
    have cF:=zd (o:=.lst (B.take i++B.drop (i+1))) aS;have a4:=bS.trans (bT.trans cF);have bM:=be.trans a4;have ay:=a4 _ _ aW;have aI:=xh bM bx;have et:tls r (m.take i++m.drop (i+1))=(tls r m).take i++(tls r m).drop (i+1):=by
     unfold tls;rw[Xj,RW,N6]
    have aT:upd (upd (upd H12 c1 (.lst (B.take i))) c2 (.lst (B.drop (i+1)))) c3 (.lst (B.take i++B.drop (i+1))) c3=some (.lst (B.take i++B.drop (i+1))):=zc;generalize upd (upd (upd H12 c1 (.lst (B.take i))) c2 (.lst (B.drop (i+1)))) c3 (.lst (B.take i++B.drop (i+1)))=H15 at *
    refine dO c3 (dN (tls r (m.take i++m.drop (i+1))) rfl aT (by rw[et];exact zk0 (zdC i aI) (zdD (i+1) aI)) (zqQ R G AB) (λoa cH bC bX bN=>?_));rw[zjG G AB]at bX;have aM:=bM.trans bN;have aX:=bN _ _ ay;have bJ:oa≠dd:=λy=>by
     subst y;rw[ay]at bC;cases bC
    have bp:(m.take i++m.drop (i+1)).flatten.length<=64:=X5 (Qo AB).length_le au;have aj:H9 ga=some (.lst ug):=by
     obtain⟨g',aq,cj,cC,e',av,_⟩:=yt.get aQ hv;cases e';have:=a3 _ _ av;rw[az]at this;cases this;exact av
    have ab:Cel H9 ug g:=by
     obtain⟨g',aq,cj,cC,e',av,ck⟩:=yt.get aQ hv;cases e';rw[hg]at aq;cases aq;rw[aj]at av;cases av;exact ck
    have zl:i<ys.length:=by
     rw[show ys.length=m.length from Paired.length aB];exact il
    refine fc (λg2 bA=>eX λfa wf ks cf fz aZ aR ar=>?_) (ze1 co (X2 zl));rw[hg]at bA;cases bA;refine⟨_,rfl,ga,rfl,⟨_,SqL.of (aM _ _ aj)⟩,?_⟩;refine jM (K:=K) (a:=ga) (xs:=ug) (λj Y u=>∃(I:List (List Key×V)) (a8 a9:Option V),Y=[some (.ref p),some (.ref d1),some (.ref z),some (.ref t0),some (.ref d5),some (.int val),some (.ref dd),some (.int (i:Nat)),some (.ref ga),some (.ref oa),a8,a9]/\zB H9 u/\u oa=some (.lst (iL (Tally.tl (m.take i++m.drop (i+1)).flatten (Tally.yd (qV r) (m.take i++m.drop (i+1))))))/\u dd=some (.dT I)/\I.length<=64+(m.take i).flatten.length+j/\(∀c,c∈yf r\/c∈(m.take i).flatten\/c∈g.take j->jo I (qo c)=some (V.int (qv r n c))))
     ⟨I,(dH (dG rfl aM bX aX (by lia) (λc J=>kv c (J.elim .inl λh=>h.elim .inr λh=>by simp at h))))⟩ (λj Y u _ ⟨_,_,_,_,y,_⟩=>SqL.of (y _ _ aj)) ?_ ?_
    .refine λj x Y cd hx=>fG λae cD cE z0 M ag af bI ak=>?_;subst z0;refine e9 (λc J ca z0 am=>?_) (Cel.get (ab.mono M) hx);subst z0;have cm:=X8 J;have jl:=(XZ.mp J).1;have Gi:Parts.Good (clA r) (zw r) (m.take i++g::m.drop (i+1)):=by
      rw[<- aP];exact G
     have ap:=zoC Gi cm n.toNat;rw[hb,bw rfl,VC n0]at ap;refine⟨_,rfl,_,rfl,_,rfl,z,_,_,_,rfl,rfl,SqL.of (M _ _ c4),ZE (by lia) (by rw[VQ];exact X2 zl),_,rfl,ga,_,rfl,.inl (SqL.of (M _ _ aj)),_,rfl,?_⟩;rw[cf];refine dM fa ca wf ks ⟨_,(dF ug.length c (dJ rfl (M _ _ aZ) (jg M aR) (λk hk=>?_) (dI ?_ ?_ am (λea cI cR bY bO=>?_))))⟩
     .rw[ab.length];exact zdq (ar.mem_iff.mp hk)
     .rw[ab.length];lia
     .rw[ar.length_eq];exact zkT cg
     rw[ab.length,Cnt.zby (ar.filter _),zfN]at bY;have aH:g.length<=64:=by lia
     refine eL oa ea (dJ rfl (SqL.of (bO _ _ ag)) (SqL.of bY) ?_ (dG ?_ ?_ ?_ (YN bp) (YN aH) (λna cJ cS cG c9=>?_)))
     .rw[Tally.jX];lia
     .rw[Tally.jX];lia
     .rw[Tally.jX];lia
     .rw[Tally.jX];lia
     have a5:=bO.trans c9;have aN:=M.trans a5;have cT:(m.take i).flatten.length<=64:=X5 (Qo (TM i m)).length_le au;have bm:((m.take i++m.drop (i+1)).flatten++g).length<=64:=by
      rw[<- (zfI _ _ _).length_eq,<- aP];exact au
     have bn:=zjF Gi cm;refine⟨_,rfl,_,rfl,d5,_,rfl,.inl (SqL.of (aN _ _ b5)),_,rfl,p,_,1,_,rfl,rfl,SqT.of (b9.mono aN).tp,rfl,na,_,_,_,rfl,cG,by rw[bn];exact YN bm,by rw[bn,Tally.jX];lia,by lia,λcK cA=>?_⟩;have U:=a5.trans cA;have aY:=U _ _ af;have ev:dlV (Pour.ZG (Tally.tl (m.take i++m.drop (i+1)).flatten (Tally.yd (qV r) (m.take i++m.drop (i+1)))) (Tally.tl g λS=>qV r g S&&decide (c∈S))) (w5.length:Nat) n=qv r n c:=by
      unfold qv;rw[zfL,wl,ap]
     rw[ev];refine⟨_,rfl,_,rfl,dd,_,rfl,zgu.t (k:=qo c) aY (U _ _ am) (XM (show ae.length<=200 by lia) (by decide)),?_⟩;refine⟨putK ae (qo c) (V.int (qv r n c)),(dH (dG rfl (λb' o e'=>?_) ?_ zc ?_ (λc' cr=>?_)))⟩
     .rw[zp (zj e' ao)];exact U _ _ (M _ _ e')
     .rw[zp bJ];exact U _ _ ag
     .have:=zjH ae (qo c) (V.int (qv r n c));lia
     .rw[ZN];by_cases ec:qo c'=qo c
      .rw[bw ec,J5 ec]
      .rw[bq ec];refine ak c' (cr.elim .inl λh=>h.elim (λh=>.inr (.inl h)) λh=>?_);rw[XI,J]at h;rcases XG.mp h with h | h
       .exact .inr (.inr h)
       .have:c'=c:=by simpa using h
        exact absurd (by rw[this]) ec
    refine λY cd=>fG λae cD cE z0 M ag af bI ak=>?_;subst z0;have ul:ug.length=g.length:=ab.length;refine⟨ae,(dQ rfl M af ?_ (λc J=>?_))⟩
    .rw[tk,XU];lia
    .rw[tk]at J;rw[ul,XO]at ak;exact ak c (J.elim .inl λh=>(XG.mp h).elim (λh=>.inr (.inl h)) λh=>.inr (.inr h))
   refine λY aO=>eW λI v7 v8 v9=>eY λa8 a9 z0 a3 L kl kv=>?_;subst z0;rw[hG.length,XO]at kv;refine⟨_,rfl,q dd I aO ce L (λc J=>kv c ?_) (bc.trans a3)⟩;by_cases hm:c∈m.flatten
   .exact .inr hm
   .exact .inl ((za4 G).mpr ⟨J,hm⟩)
def zjI (a b:Int):V0 b (a%b)=V0 a b:=by
 have h:=Int.emod_add_mul_ediv a b;apply Nat.dvd_antisymm
 .apply Int.dvd_gcd
  .have h1:((V0 b (a%b):Nat):Int) ∣ b:=Tk ..;have h2:((V0 b (a%b):Nat):Int) ∣ a%b:=TJ ..;have c:=Int.dvd_add h2 (Int.dvd_trans h1 (Int.dvd_mul_right b (a/b)));rw[h]at c;exact c
  .exact Tk ..
 .apply Int.dvd_gcd
  .exact TJ ..
  .have h1:((V0 a b:Nat):Int) ∣ b:=TJ ..;have h2:((V0 a b:Nat):Int) ∣ a:=Tk ..;have e:a%b=a-b*(a/b):=by lia
   rw[e];exact Int.dvd_sub h2 (Int.dvd_trans h1 (Int.dvd_mul_right ..))
def zoL (a:Int)(h:0<=a):((V0 a 0:Nat):Int)=a:=by
 rw[Int.gcd_zero_right];lia
def zfO {a b:Int}(h:0<b):0<((V0 a b:Nat):Int):=by
 have:0<V0 a b:=Int.gcd_pos_of_ne_zero_right a (by lia);lia
def zqS {a b:Int}(h:0<b):((V0 a b:Nat):Int)<=b:=Int.le_of_dvd h (TJ ..)
def zs1:Sp:=λa H Q _=>∃(n b:Int),a=[.int n,.int b]/\0<b/\Q (.int (V0 n b:Nat)) H
def zs3:Sp:=λa H Q _=>∃(n b:Int),a=[.int n,.int b]/\0<b/\b.natAbs<2^70/\∀p,H p=none->Q (.ref p) (upd H p (.tup [.int (n/(V0 n b:Nat)),.int (b/(V0 n b:Nat))]))
def qE:zE ["number","bottom","divisor","rest","next_rest"] ["number","bottom"] (zf jf):=bh
def QV (D:zh K mg "greatest_divisor" jf ["number","bottom"] f fd):qA P w K mg base CX0 1 f fd ["number","bottom"] zs1:=by
 refine D.F.ok qE (λB H Q E h=>?_) (λu A g s H B Q E J h=>?_)
 .obtain⟨n,b,rfl,_⟩:=h;rfl
 .obtain⟨n,b,rfl,j,k⟩:=h;refine⟨_,(ze (zC (i:=2) qE.nd rfl (XF rfl) (pvS 1)) (ze (zC (i:=3) qE.nd rfl (XF rfl) (zK ju (pvS 0) (pvS 1))) (ze (zf9 Xh (zL zcI (pvS 3) zk (qe _)) (ze (zC (i:=4) qE.nd rfl (XF rfl) (zK ju (pvS 2) (pvS 3))) (ze (zC (i:=2) qE.nd rfl (XF rfl) (pvS 3)) (zg (zC (i:=3) qE.nd rfl (XF rfl) (pvS 4)))))) (zg (zJ (pvS 2)))))),?_⟩;(try dsimp only[cxK,cxP,cxW]);refine⟨_,rfl,_,rfl,_,rfl,_,_,rfl,rfl,j,?_⟩;refine⟨λm o a=>∃(d r:Int) (x:Option V),o=[some (.int n),some (.int b),some (.int d),some (.int r),x]/\a=H/\0<d/\0<=r/\V0 d r=V0 n b/\m=r.toNat,⟨_,(dF b (n%b) (eK none rfl rfl j (VT n (by lia)) (zjI n b) rfl))⟩,?_⟩;refine λm o a=>fG λd r x z0 z1 I v l z2=>?_;subst z0 z1 z2;refine⟨_,rfl,rfl,_,rfl,?_⟩;by_cases c:r=0
  .subst c;refine zlv rfl ?_;refine⟨_,rfl,?_⟩;have e:((V0 n b:Nat):Int)=d:=by rw[<- l];exact zoL d (by lia)
   rw[<- e];exact k
  .have e:(!decide (V.int r=V.int 0))=true:=by
    have z:¬ V.int r=V.int 0:=λz=>c (V.int.inj z);rw[bf z];rfl
   refine j9 e ?_;refine⟨fun G a=>∃y,y<r.toNat/\_,λ_ _ h=>h,?_⟩;refine⟨_,rfl,_,rfl,_,_,rfl,rfl,(show (0:Int)<r by lia),_,rfl,_,rfl,?_⟩;have p:=VV d (show (0:Int)<r by lia);have q:=VT d (show r≠0 from c);refine dY (d%r).toNat (by lia) (dF r (d%r) (eK (some (.int (d%r))) rfl rfl (by lia) q ?_ rfl));rw[zjI d r];exact l
def zb2:zE ["top","bottom","divisor"] ["top","bottom"] (zf YG):=bh
def zhm {p:Addr}{c:XC}(D:zh K mg "fraction" YG ["top","bottom"] f fd)(m:zh K mg "greatest_divisor" jf ["number","bottom"] p c):qA P w K mg base CX0 2 f fd ["top","bottom"] zs3:=by
 refine D.F.ok zb2 (λr H Q E h=>?_) (λo A g s H r Q E q h=>?_)
 .obtain⟨n,b,rfl,_⟩:=h;rfl
 .revert h;refine eU λn b z0 d v k=>?_;subst z0;refine⟨_,(ze (zC (i:=2) zb2.nd rfl (XF rfl) (pc0 (QV m) q m (za (pvS 0) (za (pvS 1) zb)))) (zg (zJ (qH (za (zK yc (pvS 0) (pvS 2)) (za (zK yc (pvS 1) (pvS 2)) zb)))))),?_⟩;(try dsimp only[cxK,cxP,cxW]);have j:=zfO (a:=n) d;have u:=zqS (a:=n) d;have l:((V0 n b:Nat):Int).natAbs<2^8000:=by
   have e:2^70<=2^8000:=V3 (by decide) (by decide);lia
  refine⟨_,rfl,_,rfl,n,b,rfl,d,?_⟩;refine⟨_,rfl,_,rfl,_,_,rfl,rfl,JQ.big j l,_,rfl,_,rfl,_,_,rfl,rfl,JQ.big j l,ZV,?_⟩;exact k
def zm0 {φ:List Key->V->Prop}{c a:List (List Key×V)}(h:∀b∈c,φ b.1 b.2)(h0:∀k v,jo a k=some v->φ k v):∀k v,jo (c.foldl (λa b=>putK a b.1 b.2) a) k=some v->φ k v:=by
 induction c generalizing a with
 | nil=>exact h0
 | cons b r f =>
  refine f (λx d=>h x (XY _ d)) λk v e=>?_;rw[ZN]at e;split at e
  .rename_i ek;cases e;rw[ek];exact h b XX
  .exact h0 k v e
def zm1 {k:List Key}{b a:List (List Key×V)}(h:(∃c∈b,c.1=k)\/(jo a k).isSome=true):(jo (b.foldl (λa c=>putK a c.1 c.2) a) k).isSome=true:=by
 induction b generalizing a with
 | nil =>
  rcases h with ⟨_,h,_⟩ | h
  .cases h
  .exact h
 | cons c r f =>
  refine f ?_;rcases h with ⟨x,hx,e⟩ | h
  .rcases XH.mp hx with d | hx
   .subst d;refine .inr ?_;rw[ZN,bw e.symm];rfl
   .exact .inl ⟨x,hx,e⟩
  .refine .inr ?_;rw[ZN];split
   .rfl
   .exact h
def frT (n b:Int):HO:=.tup [.int (n/(V0 n b:Nat)),.int (b/(V0 n b:Nat))]
def zhn (H:Hp)(rs:AE)(n:Int)(k:List Key)(v:V):Prop:=∀c,k=qo c->∃t,v=.ref t/\H t=some (frT (qv rs n c) (yO rs n))
def zhn.mono {H a:Hp}(s:zB H a){rs:AE}{n:Int}{k:List Key}{v:V}(h:zhn H rs n k v):zhn a rs n k v:=λc e=>by
 obtain⟨t,b,d⟩:=h c e;exact⟨t,b,s _ _ d⟩
def zm2 {H:Hp}{rs:AE}{n:Int}{c:AA}{t:Addr}(h:H t=some (frT (qv rs n c) (yO rs n))):zhn H rs n (qo c) (.ref t):=λd e=>by
 rw[<- J5 e];exact⟨t,rfl,h⟩
def zqT:Sp:=λc H Q _=>∃(p l:Addr) (a:AE) (n:Int),c=[.ref p]/\qc H p l a n/\Rows bd.cps.toList a/\Small a/\0<=n/\yO a n≠0/\(∀b,zB H b->Q (.int (yO a n)) b)
def zm3:Sp:=λf H Q _=>∃(p l:Addr) (a:AE) (n:Int),f=[.ref p]/\qc H p l a n/\Rows bd.cps.toList a/\Small a/\0<=n/\yO a n≠0/\(∀(d:Addr) (b:List (List Key×V)) (e:Hp),H d=none->e d=some (.dT b)->(∀c∈zT a,∃t,jo b (qo c)=some (.ref t)/\e t=some (frT (qv a n c) (yO a n)))->zB H e->Q (.ref d) e)
def clS (rs:AE)(n:Int):AD:=(zT rs).filter λc=>decide (qv rs n c=0)
def stS (rs:AE)(n:Int):AD:=(zT rs).filter λc=>decide (qv rs n c=yO rs n)
def zqU:Sp:=λg H Q _=>∃(p l:Addr) (b:AE) (n:Int),g=[.ref p]/\qc H p l b n/\Rows bd.cps.toList b/\Small b/\0<=n/\yO b n≠0/\(∀(t c d:Addr) (e f:AF) (a:Hp),H t=none->H c=none->H d=none->c≠d->a t=some (.tup [.ref c,.ref d])->a c=some (.lst e)->a d=some (.lst f)->Cel a e (clS b n)->Cel a f (stS b n)->zB H a->Q (.ref t) a)
def zdE (rs:AE)(R:Rows bd.cps.toList rs)(n:Int):0<=yO rs n/\(yO rs n).natAbs<2^70:=by
 have:=zjD (cs:=zT rs) (p:=ji rs) (k:=n.toNat) (qN (p:=J0) R);unfold yO;refine⟨SM _,?_⟩;rw[Rn];exact XM this (by decide)
def zk1 (rs:AE)(n:Int)(c:AA):0<=qv rs n c:=SM _
def zoM {a b:Int}(i:0<=a)(d:0<b):(a/(V0 a b:Nat)=0/\b/(V0 a b:Nat)=1)↔a=0:=by
 constructor
 .rintro⟨h,_⟩;obtain⟨x,c⟩:((V0 a b:Nat):Int) ∣ a:=Tk ..;have f:=zfO (a:=a) d;generalize ((V0 a b:Nat):Int)=g at *
  rw[c,S1 _ (by lia)]at h;rw[c,h,Pl]
 .intro h;subst h;have e:((V0 0 b:Nat):Int)=b:=by
   rw[Int.gcd_zero_left];lia
  rw[e];exact⟨Int.zero_ediv _,N4 (by lia)⟩
def zqV {a b:Int}(f:0<b):(a/(V0 a b:Nat)=1/\b/(V0 a b:Nat)=1)↔a=b:=by
 have i:=zfO (a:=a) f;constructor
 .rintro⟨h1,h2⟩;obtain⟨x,c⟩:((V0 a b:Nat):Int) ∣ a:=Tk ..;obtain⟨y,d⟩:((V0 a b:Nat):Int) ∣ b:=TJ ..;generalize ((V0 a b:Nat):Int)=g at *
  rw[c,S1 _ (by lia)]at h1;rw[d,S1 _ (by lia)]at h2;rw[c,d,h1,h2]
 .intro h;subst h;have e:((V0 a a:Nat):Int)=a:=by
   rw[Int.gcd_self];lia
  rw[e];exact⟨N4 (by lia),N4 (by lia)⟩
def Q8:zE ["board","every"] ["board"] (zf Jy):=bh
def zee (T:Txt mg)(Z:Prog K mg)(D:zh K mg "some_count" Jy ["board"] f fd):qA P w K mg base CX0 8 f fd ["board"] zqT:=by
 obtain⟨u,r,a⟩:=Z.count;refine D.F.ok Q8 (λo H Q E h=>?_) (λe A b s H o Q E g h=>?_)
 .revert h;refine eZ λp l c n z0 _=>?_;subst z0;rfl
 .revert h;refine fy λp l c n z0 B R m=>eV λk j q=>?_;subst z0;refine⟨_,(ze (zC (i:=1) Q8.nd rfl (XF rfl) (pc0 (zmT T Z a) g a (za (pvS 0) zb))) (ze (jk (zL zbQ (pvS 1) zk (qe _)) (zg xQ) ql) (zg (zJ (pvS 1))))),?_⟩;(try dsimp only[cxK,cxP,cxW]);exact⟨_,rfl,p,l,c,n,rfl,B,R,m,k,λd s1=>⟨_,rfl,rfl,_,rfl,jC (bf λh=>j (V.int.inj h)) ⟨_,rfl,q d s1⟩⟩⟩
def zbL:zE ["board","every","at_cells"] ["board"] (zf Qh):=bh
def zk2 (T:Txt mg)(Z:Prog K mg)(D:zh K mg "shares" Qh ["board"] f fd):qA P w K mg base CX0 9 f fd ["board"] zm3:=by
 obtain⟨a8,a7,ai⟩:=Z.some_count;obtain⟨a6,a5,Yh⟩:=Z.counts_by_cell;obtain⟨a2,a1,qR⟩:=Z.closed;obtain⟨xo,yy,zv⟩:=Z.cells_of;obtain⟨JM,xj,zu⟩:=Z.sign_at;obtain⟨aA,a9,aj⟩:=Z.fraction;obtain⟨a4,a3,jK⟩:=Z.greatest_divisor;refine D.F.ok zbL (λvs H Q E h=>?_) (λav A ar s H vs Q E J h=>?_)
 .revert h;refine eZ λp l b n z0 _=>?_;subst z0;rfl
 .revert h;refine fy λp l b n z0 B R sm=>eV λn0 hz q=>?_;subst z0;obtain⟨aw,ak⟩:=zdE b R n;refine⟨_,(ze (zC (i:=1) zbL.nd rfl (UR rfl) (pc0 (zee T Z ai) J ai (za (pvS 0) zb))) (ze (zC (i:=2) zbL.nd rfl (UR rfl) (pc0 (za8 T Z Yh) J Yh (za (pvS 0) zb))) (zg (zJ (qI (Jc J.units J.hd) (by rfl) T.zfC T1 (za (qz (N:=["cell","every","at_cells"]) (src:=[none,some 1,some 2]) (zW.free (O:=(zf Qh).names) (XN:=["board","every","at_cells"]) rfl rfl ⟨_,rfl⟩ rfl rfl (by decide+kernel) (by decide+kernel) (by decide+kernel) rfl (by decide+kernel)) rfl (zO (pc0 (Z1 T qR zv zu) J qR (za (pvS 0) zb))) (λ_ _ _ _ _=>(zq (i:=0) (by show W9 (["cell","every","at_cells"]:AE);decide+kernel) rfl (XF rfl))) (λ_ _ _ _ _=>qQ) (λ_ _ _ _ _=>(qH (za (pvS 0) (za (pc0 (zhm aj jK) J aj (za (zco (u1 J.units) (pvS 2) (pvS 0) (λ_ _=>rfl)) (za (pvS 1) zb))) zb))))) zb)))))),?_⟩;(try dsimp only[cxK,cxP,cxW]);refine⟨_,rfl,p,l,b,n,rfl,B,R,sm,n0,hz,λH1 s1=>?_⟩;refine⟨_,rfl,p,l,b,n,rfl,B.mono s1,R,sm,n0,λda az H2 ay au aq s2=>?_⟩;have ag:=s1.trans s2;refine⟨_,rfl,p,l,b,n,rfl,B.mono ag,R,λd5 w5 H5 ax I al s5=>⟨d5,rfl,⟨_,SqL.of I⟩,λy hy=>?_⟩⟩;have ac:Cel H5 w5 (zT b):=al;have sl:(zT b).length<=64:=qN (p:=J0) R;refine qj (K:=K) (a:=d5) (xs:=w5) (λi σ H'=>(∃u0,σ=[u0,some (.int (yO b n)),some (.ref da)])/\zB H5 H'/\∃u e,H' y=some (.lst u)/\jV H' u e/\e.map (·.1)=((zT b).take i).map qo/\∀kv∈e,zhn H' b n kv.1 kv.2) (dD ⟨_,rfl⟩ (zd hy) (dP [] [] zc (.nil) rfl (λ_ h=>nomatch h))) (λi σ H' _ ⟨_,Y,_⟩=>SqL.of (Y _ _ I)) ?_ ?_
  .rintro i x σ H6 hx ⟨⟨u0,rfl⟩,Y,u,e,M,r,j,L⟩;refine e9 (λc ab ca z0 aa=>?_) (Cel.get (Cel.mono Y ac) hx);subst z0;have g:=zcb.t (k:=qo c) ((s5.trans Y) _ _ au) aa;rw[aq c (X8 ab)]at g;have kl:e.length<=64:=by
    have:=congrArg List.length j;rw[Y1,Y1,XQ]at this;lia
   refine xH ⟨_,rfl,_,rfl,_,rfl,da,_,rfl,g,_,rfl,_,_,rfl,by lia,ak,λG an=>⟨ZV,λp1 ap=>?_⟩⟩;have s7:=zd (o:=frT (qv b n c) (yO b n)) an;have am:upd H6 G (frT (qv b n c) (yO b n)) G=some (frT (qv b n c) (yO b n)):=zc;have s8:=zd (o:=.tup [.ref ca,.ref G]) ap;have m:=s7.trans s8;have af:u.length<=64:=by
    rw[r.length];exact kl
   have U:=m _ _ M;refine dN u U (XM af (by decide)) ⟨_,rfl⟩ (λb' o e'=>?_) (dP (u++[.ref p1]) (e++[(qo c,.ref G)]) zc ?_ ?_ (λkv ao=>?_))
   .rw[zp (zj e' hy)];exact m _ _ (Y _ _ e')
   .exact jV.into y _ U (jV.snoc (r.mono m) ⟨p1,ca,rfl,zc,m _ _ aa⟩)
   .rw[Xj,j,XI,ab,Xj];rfl
   .have st:∀{k v},zhn (upd (upd H6 G (frT (qv b n c) (yO b n))) p1 (.tup [.ref ca,.ref G])) b n k v->zhn (upd (upd (upd H6 G (frT (qv b n c) (yO b n))) p1 (.tup [.ref ca,.ref G])) y (.lst (u++[.ref p1]))) b n k v:=λ{k v} h d ek=>by
     obtain⟨t,e1,e2⟩:=h d ek;refine⟨t,e1,?_⟩;rw[zp (QW e2 U (by intro z;cases z))];exact e2
    rcases XG.mp ao with h | h
    .exact st ((L kv h).mono m)
    .rw[Wh.mp h];exact st (zm2 (s8 _ _ am))
  .refine λσ H6=>eV λ_ Y=>eU λu e M r j L=>?_;rw[ac.length,XO]at j;refine⟨y,u,_,rfl,M,r,λdd ae=>?_⟩;have ah:=ag.trans (s5.trans Y);have s7:=zd (o:=.dT (YT e)) ae;refine q dd _ _ (ah.free ae) zc (λc hc=>?_) (ah.trans s7);have h1:(jo (YT e) (qo c)).isSome=true:=zm1 (.inl (by
    have:qo c∈e.map (·.1):=by
     rw[j];exact XJ.mpr ⟨c,hc,rfl⟩
    obtain⟨kv,h2,h3⟩:=XJ.mp this;exact⟨kv,h2,h3⟩))
   obtain⟨v,hv⟩:=Wa.mp h1;obtain⟨t,e1,e2⟩:=zm0 (φ:=zhn H6 b n) L (λ_ _ h=>by cases h) _ _ hv c rfl;exact⟨t,by rw[hv,e1],s7 _ _ e2⟩
def frP (n b:Int):Int×Int:=(n/(V0 n b:Nat),b/(V0 n b:Nat))
def zbb {H:Hp}{z:Addr}{ys:AF}{cs:AD}{a:Addr}{c:AA}(hz:H z=some (.lst ys))(d:Cel H ys cs)(b:H a=some (.tup [.int (c.1:Nat),.int (c.2:Nat)])):Cel (upd H z (.lst (ys++[.ref a]))) (ys++[.ref a]) (cs++[c]) :=
 xY (by
  rw[Xj];exact Yc hz (zg9 (Cel.tup2 d) (.cons ⟨a,rfl,b⟩ .nil)))
def zm4 (a b x y:Int):(if false=true then !PyData.eqv (pD (a,b)) (pD (x,y)) else W5 (pD (a,b)) (pD (x,y)))=decide (a=x/\b=y):=by
 rw[bq XT,zmA];exact decide_eq_decide.mpr (by rw[P0])
def zqX {a b:Int}(c:0<=a)(d:0<b):(if false=true then !PyData.eqv (pD (frP a b)) (pD (0,1)) else W5 (pD (frP a b)) (pD (0,1)))=decide (a=0):=(zm4 _ _ 0 1).trans (decide_eq_decide.mpr (zoM c d))
def zqY {a b:Int}(c:0<b):(if false=true then !PyData.eqv (pD (frP a b)) (pD (1,1)) else W5 (pD (frP a b)) (pD (1,1)))=decide (a=b):=(zm4 _ _ 1 1).trans (decide_eq_decide.mpr (zqV c))
def zm5 (p q:Int×Int):zdW (pD p) (pD q):=⟨rfl,rfl,by show 1<=64;decide⟩
def zcA:zE ["board","told","clears","stones"] ["board"] (zf zbB):=bh
def zoO (T:Txt mg)(Z:Prog K mg)(D:zh K mg "sure" zbB ["board"] f fd):qA P w K mg base CX0 10 f fd ["board"] zqU:=by
 obtain⟨a9,a8,aq⟩:=Z.shares;obtain⟨a7,a6,qR⟩:=Z.closed;obtain⟨xo,yy,zv⟩:=Z.cells_of;obtain⟨JM,xj,zu⟩:=Z.sign_at;refine D.F.ok zcA (λvs H Q E h=>?_) (λay A aw s H vs Q E hr h=>?_)
 .revert h;refine eZ λp l b n z0 _=>?_;subst z0;rfl
 .revert h;refine fy λp l b n z0 B R sm=>eV λn0 hz q=>?_;subst z0;obtain⟨az,a1⟩:=zdE b R n;have sl:(zT b).length<=64:=qN (p:=J0) R;refine⟨_,(ze (zC (i:=1) zcA.nd rfl (UR rfl) (pc0 (zk2 T Z aq) hr aq (za (pvS 0) zb))) (ze (xJ (i:=2) zcA.nd rfl rfl (N:=["cell","told"]) (src:=[none,some 1]) (zW.free (O:=(zf zbB).names) (XN:=["board","told","clears","stones"]) rfl rfl ⟨_,rfl⟩ rfl rfl (by decide+kernel) (by decide+kernel) (by decide+kernel) rfl (by decide+kernel)) rfl (zO (pc0 (Z1 T qR zv zu) hr qR (za (pvS 0) zb))) (λ_ _ _ _ _=>(zq (i:=0) (by show W9 (["cell","told"]:AE);decide+kernel) rfl (XF rfl))) (λ_ _ _ _ _=>(qt (zL (Zk (K:=K) (by rfl) hr.units) (zco (u1 hr.units) (pvS 1) (pvS 0) (λ_ _=>rfl)) (@qH _ _ _ _ _ (@za _ _ _ _ _ zk (@za _ _ _ _ _ zk zb rfl) rfl)) (qe _)))) (λ_ _ _ _ _=>(pvS 0))) (ze (xJ (i:=3) zcA.nd rfl rfl (N:=["cell","told"]) (src:=[none,some 1]) (zW.free (O:=(zf zbB).names) (XN:=["board","told","clears","stones"]) rfl rfl ⟨_,rfl⟩ rfl rfl (by decide+kernel) (by decide+kernel) (by decide+kernel) rfl (by decide+kernel)) rfl (zO (pc0 (Z1 T qR zv zu) hr qR (za (pvS 0) zb))) (λ_ _ _ _ _=>(zq (i:=0) (by show W9 (["cell","told"]:AE);decide+kernel) rfl (XF rfl))) (λ_ _ _ _ _=>(qt (zL (Zk (K:=K) (by rfl) hr.units) (zco (u1 hr.units) (pvS 1) (pvS 0) (λ_ _=>rfl)) (@qH _ _ _ _ _ (@za _ _ _ _ _ zk (@za _ _ _ _ _ zk zb rfl) rfl)) (qe _)))) (λ_ _ _ _ _=>(pvS 0))) (zg (zJ (qH (za (pvS 2) (za (pvS 3) zb)))))))),?_⟩;(try dsimp only[cxK,cxP,cxW]);refine⟨_,rfl,p,l,b,n,rfl,B,R,sm,n0,hz,λdd a5 H1 a4 ar ac s1=>?_⟩;have bp:0<yO b n:=by lia
  refine⟨_,rfl,p,l,b,n,rfl,B.mono s1,R,λd2 w2 H2 a2 aa au s2=>⟨d2,rfl,⟨_,SqL.of aa⟩,λy hy=>?_⟩⟩;have ak:Cel H2 w2 (zT b):=au;refine qj (K:=K) (a:=d2) (xs:=w2) (λi U J=>∃u0 u,U=[u0,some (.ref dd)]/\zB H2 J/\J y=some (.lst u)/\Cel J u (((zT b).take i).filter λc=>decide (qv b n c=0))) ⟨_,[],rfl,zd hy,zc,.nil⟩ (λi U J _ ⟨_,_,_,d,_⟩=>SqL.of (d _ _ aa)) ?_ ?_
  .refine λi x U H3 hx=>eU λu0 u z0 s3 M j=>?_;subst z0;refine e9 (λc G ca z0 v=>?_) (Cel.get (Cel.mono s3 ak) hx);subst z0;have am:=s2.trans s3;obtain⟨t,hv,ht⟩:=ac c (X8 G);have g:=zcb.t (k:=qo c) (am _ _ ar) v;rw[hv]at g;have yl:u.length<=64:=by
    rw[j.length];refine X5 (Xi _ _) ?_;rw[XQ];lia
   refine⟨_,rfl,_,rfl,dd,_,rfl,g,ZV,λtq ae=>?_⟩;have r:=zd (o:=.tup [.int 0,.int 1]) ae;have aj:=am.trans r;refine dP (pD _) (pD (0,1)) (PR.rdv (p:=frP (qv b n c) (yO b n)) ⟨t,rfl,aj _ _ ht⟩) (PR.rdv ⟨tq,rfl,zc⟩) (zm5 _ _) ⟨_,rfl,?_⟩;rw[XI,G,Xg];have ee:=zqX (zk1 b n c) bp;have af:=r _ _ M;by_cases L:qv b n c=0
   .have ef:[c].filter (λc=>decide (qv b n c=0))=[c]:=by
     rw[Xb,bw (br L)];rfl
    refine j9 (ee.trans (br L)) ⟨_,rfl,u,af,XM yl (by decide),_,u++[.ref ca],rfl,λb' o e'=>?_,zc,?_⟩
    .rw[zp (zj e' hy)];exact r _ _ (s3 _ _ e')
    .show Cel _ _ (_++[c].filter _);rw[ef];exact zbb af (j.mono r) (r _ _ v)
   .have ef:[c].filter (λc=>decide (qv b n c=0))=[]:=by
     rw[Xb,bq (by rw[bf L];decide)];rfl
    refine jC (ee.trans (bf L)) ⟨_,u,rfl,s3.trans r,af,?_⟩;show Cel _ _ (_++[c].filter _);rw[ef,Xa];exact j.mono r
  .refine λU H3=>eU λu0 u z0 s3 M j=>?_;subst z0;rw[ak.length,XO]at j;have ai:=s1.trans (s2.trans s3);have yn:H y=none:=(s1.trans s2).free hy;refine⟨_,rfl,p,l,b,n,rfl,B.mono ai,R,λd4 w4 H4 a3 ab av r=>⟨d4,rfl,⟨_,SqL.of ab⟩,λz I=>?_⟩⟩;have Y:Cel H4 w4 (zT b):=av;have aj:=(s2.trans s3).trans r;refine qj (K:=K) (a:=d4) (xs:=w4) (λi U J=>∃u0 u,U=[u0,some (.ref dd)]/\zB H4 J/\J z=some (.lst u)/\Cel J u (((zT b).take i).filter λc=>decide (qv b n c=yO b n))) ⟨_,[],rfl,zd I,zc,.nil⟩ (λi U J _ ⟨_,_,_,d,_⟩=>SqL.of (d _ _ ab)) ?_ ?_
   .refine λi x U H5 hx=>eU λu0 zs z0 s5 ag m=>?_;subst z0;refine e9 (λc G ca z0 v=>?_) (Cel.get (Cel.mono s5 Y) hx);subst z0;have an:=aj.trans s5;obtain⟨t,hv,ht⟩:=ac c (X8 G);have g:=zcb.t (k:=qo c) (an _ _ ar) v;rw[hv]at g;have yl:zs.length<=64:=by
     rw[m.length];refine X5 (Xi _ _) ?_;rw[XQ];lia
    refine⟨_,rfl,_,rfl,dd,_,rfl,g,ZV,λtq ae=>?_⟩;have d:=zd (o:=.tup [.int 1,.int 1]) ae;have ax:=an.trans d;refine dP (pD _) (pD (1,1)) (PR.rdv (p:=frP (qv b n c) (yO b n)) ⟨t,rfl,ax _ _ ht⟩) (PR.rdv ⟨tq,rfl,zc⟩) (zm5 _ _) ⟨_,rfl,?_⟩;rw[XI,G,Xg];have ee:=zqY (a:=qv b n c) bp;have ah:=d _ _ ag;by_cases L:qv b n c=yO b n
    .have ef:[c].filter (λc=>decide (qv b n c=yO b n))=[c]:=by
      rw[Xb,bw (br L)];rfl
     refine j9 (ee.trans (br L)) ⟨_,rfl,zs,ah,XM yl (by decide),_,zs++[.ref ca],rfl,λb' o e'=>?_,zc,?_⟩
     .rw[zp (zj e' I)];exact d _ _ (s5 _ _ e')
     .show Cel _ _ (_++[c].filter _);rw[ef];exact zbb ah (m.mono d) (d _ _ v)
    .have ef:[c].filter (λc=>decide (qv b n c=yO b n))=[]:=by
      rw[Xb,bq (by rw[bf L];decide)];rfl
     refine jC (ee.trans (bf L)) (dS zs rfl (s5.trans d) ah ?_);show Cel _ _ (_++[c].filter _);rw[ef,Xa];exact m.mono d
   .refine λU H5=>eU λu0 zs z0 s5 ag m=>?_;subst z0;rw[Y.length,XO]at m;have ao:=r.trans s5;refine⟨_,rfl,_,rfl,ZV,λt ht=>?_⟩;have d:=zd (o:=.tup [.ref y,.ref z]) ht;have ap:=ao.trans d;have al:=ai.trans ao;refine q t y z u zs _ (al.free ht) yn ((ai.trans r).free I) (λe=>?_) zc (ap _ _ M) (d _ _ ag) (j.mono ap) (m.mono d) (al.trans d);subst e;rw[r _ _ M]at I;cases I
def fdS:Str:=".o#"
def zoP:Sp:=λa H Q _=>∃(c k:Int),a=[.int c,.int k]/\0<=k/\k<=1000000/\∀z:Int,Q (.int z) H
def Row.more {NC:List Nat}{n:Nat}{t:Str}{c:Nat}(r:Row NC n t)(h:c∈NC):Row NC (n+1) (t++⟨#[c]⟩):=by
 have e:(t++(⟨#[c]⟩:Str)).cps=t.cps++#[c]:=rfl;refine⟨?_,λd hd=>?_⟩
 .rw[e,Sm,r.len];rfl
 .rw[e,W3]at hd;rcases XG.mp hd with hd | hd
  .exact r.mem d hd
  .have z:d=c:=by simpa using hd
   rw[z];exact h
def YS:zE ["_law_cell","_law_k","_law_drawn"] ["_law_cell","_law_k"] (zf xV):=bh
def zfP (D:zh K mg "_law_mixed" xV ["_law_cell","_law_k"] f fd):qA P w K mg base CX0 1 f fd ["_law_cell","_law_k"] zoP:=by
 refine D.F.ok YS (λg H Q E h=>?_) (λb A a s H g Q E o h=>?_)
 .obtain⟨c,i,rfl,_⟩:=h;rfl
 .revert h;refine eU λc i z0 h0 h1 k=>?_;subst z0;refine⟨_,(ze (zC (i:=2) YS.nd rfl (XF rfl) (zK ju (zK jm (zK jm (zK ju (pvS 0) zk) (@zK _ _ _ _ _ _ _ _ Zi zk (pvS 1))) zk) zk)) (ze (zC (i:=2) YS.nd rfl (XF rfl) (zK ju (zK Zi (zK ju (zK Zi (pvS 2) (pvS 2)) zk) zk) zk)) (zg (zJ (zK yc (zK ju (zK Zi (pvS 2) (zK jm (pvS 2) zk)) zk) zk))))),?_⟩;(try dsimp only[cxK,cxP,cxW]);refine⟨_,rfl,_,_,rfl,rfl,(by show (0:Int)<2147483629;decide),_,rfl,_,_,rfl,rfl,mulL (by decide) (by decide),_,_,rfl,rfl,_,_,rfl,rfl,_,_,rfl,rfl,(by show (0:Int)<2147483647;decide),?_⟩;have j:=VT (c%2147483629+7919*i+11) (show (2147483647:Int)≠0 by decide);have l:=VV (c%2147483629+7919*i+11) (show (0:Int)<2147483647 by decide);generalize (c%2147483629+7919*i+11)%2147483647=d at *
  refine⟨_,rfl,_,rfl,_,_,rfl,rfl,mulL (by lia) (by lia),_,_,rfl,rfl,(by show (0:Int)<2147483647;decide),_,_,rfl,rfl,zrN (by decide) (by decide),_,_,rfl,rfl,(by show (0:Int)<2147483587;decide),?_⟩;have m:=VT (d*d%2147483647*48271) (show (2147483587:Int)≠0 by decide);have n:=VV (d*d%2147483647*48271) (show (0:Int)<2147483587 by decide);generalize d*d%2147483647*48271%2147483587=e at *
  exact⟨_,rfl,_,rfl,_,_,rfl,rfl,_,_,rfl,rfl,mulL (by lia) (by lia),_,_,rfl,rfl,(by show (0:Int)<2147483563;decide),_,_,rfl,rfl,JQ.small (by decide) (by decide),k _⟩
def bs:Str:="?012345678#"
def Sg (z:Str):Prop:=∀c∈z.cps.toList,(!(!(Ue z ⟨#[c]⟩ 0 z.length 1).isEmpty))=false
def zsn:Sg bs:=by
 unfold Sg;decide+kernel
def ziG:Sp:=λa H Q _=>∃(t:Str) (n:Nat) (z:Str),a=[.str t,.int n,.str z]/\Sg z/\1<=n/\n<=8/\Row z.cps.toList n t/\Q .non H
def zk4:Sp:=λc H Q _=>∃(a:Addr) (b:AE) (z:Str),c=[.ref a,.str z]/\Sg z/\H a=some (.lst (b.map V.str))/\Rows z.cps.toList b/\∀l,H l=none->Q (.ref l) (upd H l (.lst (b.map V.str)))
def zoQ:Sp:=λc H Q _=>∃(a:Addr) (b:AE) (n:Int),c=[.ref a,.int n]/\H a=some (.lst (b.map V.str))/\Rows bs.cps.toList b/\0<=n/\n<=64 /\
 ∀l p,H l=none->H p=none->p≠l->Q (.ref p) (upd (upd H l (.lst (b.map V.str))) p (.tup [.ref l,.int n]))
def zbc:zE ["row","length","signs","sign"] ["row","length","signs"] (zf Zp):=bh
def zfQ (T:Txt mg)(D:zh K mg "check_row" Zp ["row","length","signs"] f fd):qA P w K mg base CX0 1 f fd ["row","length","signs"] ziG:=by
 refine D.F.ok zbc (λr H Q E h=>?_) (λm A g s H r Q E u h=>?_)
 .obtain⟨t,n,z,rfl,_⟩:=h;rfl
 .revert h;refine fG λt n z z0 q y p a k=>?_;subst z0;refine⟨_,(ze (jk (ZC (YZ JY JY zk (zx qS (by rfl) T.qG Xk (za (pvS 0) zb)) (j7 (v:=.int 8) (by rfl) T.Qi.choose_spec (by exact⟨_,rfl⟩)))) (zg xQ) ql) (ze (jk (zL zcI (zx qS (by rfl) T.qG Xk (za (pvS 0) zb)) (pvS 1) (qe _)) (zg xQ) ql) (zg (qB Xh rfl (zp7 (pvS 0)) (zq (i:=3) zbc.nd rfl (XF rfl)) (zg (jk (zL zfj (pvS 3) (pvS 2) (by rfl)) (zg xQ) ql)))))),?_⟩;(try dsimp only[cxK,cxP,cxW]);have b:t.length<=Xq:=by
   have e:t.length=n:=a.len;rw[e];exact X5 p (by decide)
  refine⟨_,rfl,t,rfl,b,_,_,rfl,rfl,_,rfl,?_⟩;have e:t.length=n:=a.len;refine zgg (λc=>?_) (λc=>absurd (br (show (1:Int)<=(t.length:Nat) by lia)) c);refine⟨_,_,rfl,rfl,_,rfl,?_⟩;have l:decide (((t.length:Nat):Int)<=8)=true:=br (by lia);rw[l];refine ZD ?_;refine⟨_,rfl,t,rfl,b,_,rfl,rfl,_,rfl,zlv (by rw[e]) ?_⟩;refine⟨_,rfl,t,rfl,?_⟩;refine znP (x:=t) (λ_ j d=>∃v,j=[some (.str t),some (.int n),some (.str z),v]/\d=H) ⟨_,rfl,rfl⟩ ?_ ?_
  .rintro i c j d o ⟨v,rfl,rfl⟩;refine⟨_,rfl,_,rfl,_,_,rfl,rfl,_,rfl,?_⟩;rw[q c (a.mem c (X8 (by rw[Xz];exact o)))];exact ZD ⟨_,rfl,rfl⟩
  .rintro j d ⟨v,rfl,rfl⟩;exact k
def YW:zE ["rows","signs","row"] ["rows","signs"] (zf yJ):=bh
def YX (T:Txt mg)(Z:Prog K mg)(D:zh K mg "checked_rows" yJ ["rows","signs"] f fd):qA P w K mg base CX0 2 f fd ["rows","signs"] zk4:=by
 obtain⟨O,N,o⟩:=Z.check_row;refine D.F.ok YW (λM H Q E h=>?_) (λB A r s H M Q E G h=>?_)
 .obtain⟨a,g,z,rfl,_⟩:=h;rfl
 .revert h;refine eX λa g z z0 L l R k=>?_;subst z0;refine⟨_,(ze (jk (ZC (YZ JY JY zk (zx zD (by rfl) T.qG Xk (za (pvS 0) zb)) (j7 (v:=.int 8) (by rfl) T.Qi.choose_spec (by exact⟨_,rfl⟩)))) (zg xQ) ql) (ze (qB Xh rfl (zO (pvS 0)) (zq (i:=2) YW.nd rfl (XF rfl)) (zg (jA (pc0 (zfQ T o) G o (za (pvS 2) (za (zx qS (by rfl) T.qG Xk (za (qh jd (pvS 0) zk (λ_ _=>rfl)) zb)) (za (pvS 1) zb))))))) (zg (zJ (qI Yw (by rfl) T.zbC Vo (za (pvS 0) zb)))))),?_⟩;(try dsimp only[cxK,cxP,cxW]);obtain⟨J,U,n,I,u,d⟩:=R;refine⟨_,rfl,a,_,rfl,.inl (SqL.of l),_,_,rfl,rfl,_,rfl,?_⟩;rw[Y1];refine zgg (λc=>?_) (λc=>absurd (br (show (1:Int)<=(g.length:Nat) by lia)) c);refine⟨_,_,rfl,rfl,_,rfl,?_⟩;have y:decide (((g.length:Nat):Int)<=8)=true:=br (by lia);rw[y];refine ZD ?_;refine⟨_,rfl,a,rfl,⟨_,SqL.of l⟩,?_⟩;refine jM (K:=K) (a:=a) (xs:=g.map V.str) (λ_ q p=>∃v,q=[some (.ref a),some (.str z),v]/\p=H) ⟨_,rfl,rfl⟩ (λi q p _ ⟨_,_,e⟩=>by rw[e];exact SqL.of l) ?_ ?_
  .rintro i x q p m ⟨v,rfl,rfl⟩;rw[Xw]at m;cases e:g[i]? with
   | none =>
    rw[e]at m;cases m
   | some t =>
    rw[e]at m;cases m;obtain⟨j,b,rfl⟩:∃j b,g=j::b:=by
     cases g with
     | nil=>exact absurd J (by decide)
     | cons j b=>exact⟨j,b,rfl⟩
    have h0:j.length=n:=(d j XX).len;refine⟨_,rfl,_,rfl,a,_,0,_,rfl,rfl,SqL.of l,ZE (by decide) rfl,j,rfl,?_,_,rfl,t,n,z,?_,L,I,u,d t (X8 e),?_⟩
    .rw[h0];exact X5 u (by decide)
    .rw[h0];rfl
    .exact⟨_,rfl,rfl⟩
  .rintro q p ⟨v,rfl,rfl⟩;exact⟨_,rfl,a,_,rfl,.inl (SqL.of l),k⟩
def zb4:zE ["rows","stones","own_rows"] ["rows","stones"] (zf YE):=bh
def zhp (T:Txt mg)(Z:Prog K mg)(D:zh K mg "board_of" YE ["rows","stones"] f fd):qA P w K mg base CX0 3 f fd ["rows","stones"] zoQ:=by
 obtain⟨G,B,g⟩:=Z.checked_rows;refine D.F.ok zb4 (λy H Q E h=>?_) (λm A e s H y Q E r h=>?_)
 .revert h;refine fC λa j n z0 _=>?_;subst z0;rfl
 .revert h;refine fG λa j n z0 o R u x k=>?_;subst z0;refine⟨_,(ze (zC (i:=2) zb4.nd rfl (XF rfl) (pc0 (YX T Z g) r g (za (pvS 0) (za (j7 (v:=.str "?012345678#") (by rfl) T.zd3.choose_spec (by exact⟨_,rfl⟩)) zb)))) (ze (jk (ZC (YZ JY JY zk (pvS 1) (j7 (v:=.int 64) (by rfl) T.zd5.choose_spec (by exact⟨_,rfl⟩)))) (zg xQ) ql) (zg (zJ (qH (za (pvS 2) (za (pvS 1) zb))))))),?_⟩;(try dsimp only[cxK,cxP,cxW]);refine⟨_,rfl,a,j,bs,rfl,zsn,o,R,λl q=>?_⟩;refine⟨_,rfl,_,_,rfl,rfl,_,rfl,?_⟩;refine zgg (λc=>?_) (λc=>absurd (br u) c);refine⟨_,_,rfl,rfl,_,rfl,?_⟩;rw[br x];refine ZD ?_;refine⟨_,rfl,_,rfl,ZV,λp d=>?_⟩;have b:p≠l:=λz=>by rw[z,zc]at d;cases d
  rw[zp b]at d;exact k l p q d b
def zqZ:Sp:=λf H Q _=>∃(l:Addr) (b:AE) (k:Nat),f=[.ref l,.str ⟨#[k]⟩]/\H l=some (.lst (b.map V.str))/\Rows fdS.cps.toList b /\
 ∀(d:Addr) (e:AF) (a:Hp),H d=none->a d=some (.lst e)->Cel a e (Cells.zF (λc=>zP c&&decide (c=k)) 0 (codes b))->zB H a->Q (.ref d) a
def zm6:Sp:=λf H Q _=>∃(l:Addr) (b:AE),f=[.ref l]/\H l=some (.lst (b.map V.str))/\Rows fdS.cps.toList b /\
 ∀(d:Addr) (e:AF) (a:Hp),H d=none->a d=some (.lst e)->Cel a e (Cells.zF (λc=>zP c&&decide (c=111)) 0 (codes b))->zB H a->Q (.ref d) a
def zhq:("o":Str)=⟨#[111]⟩:=by decide+kernel
def Q9:zE ["field","sign","seen"] ["field","sign"] (zf jG):=bh
def zaa {f1 f2:Addr}{aa ab:XC}(T:Txt mg)(D:zh K mg "cells_with" jG ["field","sign"] f fd)(zv:zh K mg "cells_of" qk ["board"] f1 aa)(zu:zh K mg "sign_at" qy ["board","cell"] f2 ab) :
  qA P w K mg base CX0 2 f fd ["field","sign"] zqZ:=by
 refine D.F.ok Q9 (λvs H Q E h=>?_) (λae A ac s H vs Q E hr h=>?_)
 .obtain⟨l,g,k,rfl,_⟩:=h;rfl
 .revert h;refine fu λl g n z0 hl R q=>?_;subst z0;refine⟨_,(ze (zC (i:=2) Q9.nd rfl (UR rfl) (qH (za (pvS 0) (@za _ _ _ _ _ zk zb rfl)))) (zg (zJ (qz (N:=["cell","sign","seen"]) (src:=[none,some 1,some 2]) (zW.free (O:=(zf jG).names) (XN:=["field","sign","seen"]) rfl rfl ⟨_,rfl⟩ rfl rfl (by decide+kernel) (by decide+kernel) (by decide+kernel) rfl (by decide+kernel)) rfl (zO (pc0 (zaV T zv) hr zv (za (pvS 2) zb))) (λ_ _ _ _ _=>(zq (i:=0) (by show W9 (["cell","sign","seen"]:AE);decide+kernel) rfl (XF rfl))) (λ_ _ _ _ _=>(qt (zL zbQ (pc0 (J1 zu) hr zu (za (pvS 2) (za (pvS 0) zb))) (pvS 1) (qe _)))) (λ_ _ _ _ _=>(pvS 0)))))),?_⟩;(try dsimp only[cxK,cxP,cxW]);refine⟨_,rfl,ZV,λa ha=>?_⟩;have G:zB H (upd H a (.tup [.ref l,.int 0])):=zd ha;have b:qc (upd H a (.tup [.ref l,.int 0])) a l g 0:=⟨zc,G _ _ hl⟩;refine⟨_,rfl,a,l,g,0,rfl,b,⟨_,R⟩,λd ws H1 hd B I s1=>⟨d,rfl,⟨_,SqL.of B⟩,λz hz=>?_⟩⟩;have nz:d≠z:=zj B hz;refine qj (K:=K) (a:=d) (xs:=ws) (λi σ Y=>∃(u0:Option V) (r:AF),σ=[u0,some (.str ⟨#[n]⟩),some (.ref a)]/\zB H1 Y/\Y z=some (.lst r)/\Cel Y r (((Cells.zF zP 0 (codes g)).take i).filter λx=>decide (Cells.sgn (codes g) x=n)))
   ⟨_,[],rfl,zd hz,zc,.nil⟩ (λi σ Y _ ⟨_,_,_,v,_⟩=>SqL.of (v _ _ B)) ?_ ?_
  .refine λi x σ H2 hx=>eU λu0 r z0 v m e=>?_;subst z0;refine e9 (λc L ca z0 J=>?_) (Cel.get (Cel.mono v I) hx);subst z0;refine fm (λk0 j u k ec M hj af=>?_) (Cells.yZ (X8 L));obtain⟨t,ht,rfl⟩:=QH M;rw[VR]at ec;subst ec;refine⟨_,rfl,_,rfl,a,l,ca,g,0,k0,j,t,k,rfl,(b.mono s1).mono v,J,ht,hj,R.tlen ht,_,rfl,rfl,_,rfl,?_⟩;have es:Cells.sgn (codes g) (k0,j)=k:=Cells.zbv M hj;have step:((Cells.zF zP 0 (codes g)).take (i+1)).filter (λx=>decide (Cells.sgn (codes g) x=n))=((Cells.zF zP 0 (codes g)).take i).filter (λx=>decide (Cells.sgn (codes g) x=n))++(if decide (k=n)=true then [(k0,j)] else []):=by
    rw[XI,L,Xg];congr 1;show OM _ [(k0,j)]=_;rw[Xb];try dsimp only
    rw[es];split<;>rfl
   have ed:decide (V.str ⟨#[k]⟩=V.str ⟨#[n]⟩)=decide (k=n):=by
    simp only[zah]
   rw[ed];by_cases hp:decide (k=n)=true
   .rw[bw hp]at step;refine j9 hp ?_;have U:r.length<=64:=by
     rw[e.length];refine X5 (Xi _ _) ?_;rw[XQ];have h1:=Cells.qU zP 0 (codes g) R.short;have h2:=R.hi;rw[ja]at h1;lia
    refine⟨_,rfl,r,m,XM U (by decide),_,r++[.ref ca],rfl,λb' o e'=>?_,zc,?_⟩
    .have hb:b'≠z:=λy=>by
      subst y;rw[hz]at e';cases e'
     rw[zp hb];exact v _ _ e'
    .rw[step];exact Cel.into z _ m (Cel.snoc e ⟨ca,rfl,J⟩)
   .rw[bq hp]at step;refine jC (by simpa using hp) ?_;refine⟨_,r,rfl,v,m,?_⟩;rw[step];simpa using e
  .refine λσ H2=>eU λu0 r z0 v m e=>?_;subst z0;rw[I.length,XO,Cells.all_filter (p:=zP) (q:=λk=>decide (k=n)) (codes g)]at e;exact q z r H2 ((G.trans s1).free hz) m e ((G.trans s1).trans v)
def zfR:zE ["field"] ["field"] (zf Zq):=bh
def zfS {j k m:Addr}{a b c:XC}(T:Txt mg)(D:zh K mg "stones_of" Zq ["field"] f fd)(e:zh K mg "cells_with" jG ["field","sign"] j a)(u:zh K mg "cells_of" qk ["board"] k b)(r:zh K mg "sign_at" qy ["board","cell"] m c) :
  qA P w K mg base CX0 3 f fd ["field"] zm6:=by
 refine D.F.ok zfR (λp H Q E h=>?_) (λi A d s H p Q E o h=>?_)
 .obtain⟨l,g,rfl,_⟩:=h;rfl
 .revert h;refine eU λl g z0 n R q=>?_;subst z0;refine⟨_,(zg (zJ (pc0 (zaa T e u r) o e (za (pvS 0) (za (j7 (v:=.str "o") (by rfl) T.JC.choose_spec.1 (by exact⟨_,rfl⟩)) zb))))),?_⟩;(try dsimp only[cxK,cxP,cxW]);exact⟨_,rfl,l,g,111,by rw[zhq];rfl,n,R,q⟩
def mw (a h0:Int):Int:=if a/(1+h0%8)<8 then a/(1+h0%8) else 8
def zso {a h0:Int}(f:8<=a):1<=mw a h0/\mw a h0<=8/\(1+h0%8)*mw a h0<=a:=by
 have d:=VT h0 (show (8:Int)≠0 by decide);have e:=VV h0 (show (0:Int)<8 by decide);have b:0<1+h0%8:=by lia
 have g:1+h0%8<=8:=by lia
 unfold mw;generalize 1+h0%8=k at *
 by_cases c:a/k<8
 .rw[bw c];refine⟨(O8 b).mpr (by lia),by lia,Int.mul_ediv_self_le (by lia)⟩
 .rw[bq c];have:=(O8 b).mp (show 8<=a/k by lia);exact⟨by decide,by decide,by lia⟩
def fz (a:Str):Str:=(("o":Str)++a)++("#":Str)
def zoS (a:Str):(fz a).cps.size=a.length+2:=by
 have e:(fz a).cps=(("o":Str).cps++a.cps)++("#":Str).cps:=rfl;rw[e,Sm,Sm];show 1+a.cps.size+1=a.cps.size+2;lia
def zq0 {a:Str}(g:∀c∈a.cps.toList,c∈((".":Str)).cps.toList):∀c∈(fz a).cps.toList,c∈fdS.cps.toList:=by
 intro c hc;have e:(fz a).cps.toList=(("o":Str).cps.toList++a.cps.toList)++("#":Str).cps.toList:=by
  have e:(fz a).cps=(("o":Str).cps++a.cps)++("#":Str).cps:=rfl;rw[e,W3,W3]
 rw[e]at hc;have b:∀c∈("o":Str).cps.toList,c∈fdS.cps.toList:=by decide+kernel
 have d:∀c∈(".":Str).cps.toList,c∈fdS.cps.toList:=by decide+kernel
 have f:∀c∈("#":Str).cps.toList,c∈fdS.cps.toList:=by decide+kernel
 rcases XG.mp hc with hc | hc
 .rcases XG.mp hc with hc | hc
  .exact b c hc
  .exact d c (g c hc)
 .exact f c hc
def zoT (K:XW):Sp:=λf H Q _=>∃(a:Addr) (e:List Int) (b:Int),f=[.ref a,.int b]/\SqL K H a (e.map V.int)/\8<=b/\b<=64 /\
 ∀(l:Addr) (c:AE) (d:Hp),H l=none->d l=some (.lst (c.map V.str))->zB H d->Rows fdS.cps.toList c->(∀t∈c,((c.length*t.cps.size:Nat):Int)<=b)->Q (.ref l) d
def qg:zE ["_law_script","_law_most","_law_high","_law_wide","_law_signs","_law_rows","_law_row","_law_own","_law_text","_law_column","_law_place","_law_drawn"] ["_law_script","_law_most"] (zf Zs):=bh
def zfT {f1 f2:Addr}{aa ae:XC}(T:Txt mg)(D:zh K mg "_law_field" Zs ["_law_script","_law_most"] f fd)(J:zh K mg "_law_cell_at" yi ["_law_script","_law_k"] f1 aa)(Zx:zh K mg "_law_mixed" xV ["_law_cell","_law_k"] f2 ae) :
  qA P w K mg base CX0 2 f fd ["_law_script","_law_most"] (zoT K):=by
 have jS:qA P w K mg base CX0 1 f1 aa ["_law_script","_law_k"] (zmq K):=Qk T J;refine D.F.ok qg (λvs H Q E h=>?_) (λah A ag s H vs Q E G h=>?_)
 .obtain⟨a,I,z,rfl,_⟩:=h;rfl
 .revert h;refine eX λa I m z0 Y m8 ak k=>?_;subst z0;refine⟨_,(@ze _ _ _ _ _ (@zC _ _ 2 _ _ _ _ qg.nd rfl (XF rfl) (@zK _ _ _ _ _ _ _ _ jm zk (zK ju (pc0 jS G J (za (pvS 0) (@za _ _ _ _ _ zk zb rfl))) zk)) (by rfl) (.inr rfl)) (@ze _ _ _ _ _ (@zC _ _ 3 _ _ _ _ qg.nd rfl (XF rfl) (@zK _ _ _ _ _ _ _ _ jm zk (zK ju (pc0 jS G J (za (pvS 0) (@za _ _ _ _ _ zk zb rfl))) (zx (zbh rfl) (by rfl) T.zjx TN (@za _ _ _ _ _ zk (za (zK yc (pvS 1) (pvS 2)) zb) rfl)))) (by rfl) (.inr rfl)) (@ze _ _ _ _ _ (@zC _ _ 4 _ _ _ _ qg.nd rfl (XF rfl) (@zK _ _ _ _ _ _ _ _ Yv (@zK _ _ _ _ _ _ _ _ Yv jv (@zK _ _ _ _ _ _ _ _ zhW jv (@zK _ _ _ _ _ _ _ _ jm zk (zK ju (zK yc (pc0 jS G J (za (pvS 0) (@za _ _ _ _ _ zk zb rfl))) zk) zk)))) jv) (by rfl) (.inr rfl)) (@ze _ _ _ _ _ (@zC _ _ 5 _ _ _ _ qg.nd rfl (XF rfl) (@qm _ _ _ _ zb) (by rfl) (.inr rfl)) (ze (qB Xh rfl (yT (by rfl) T.JA (za (pvS 2) zb)) (zq (i:=6) qg.nd rfl (XF rfl)) (ze (zC (i:=7) qg.nd rfl (XF rfl) (pc0 jS G J (za (pvS 0) (@za _ _ _ _ _ (@zK _ _ _ _ _ _ _ _ jm zk (pvS 6)) zb rfl)))) (@ze _ _ _ _ _ (@zC _ _ 8 _ _ _ _ qg.nd rfl (XF rfl) jv (by rfl) (.inr rfl)) (ze (qB Xh rfl (yT (by rfl) T.JA (za (pvS 3) zb)) (zq (i:=9) qg.nd rfl (XF rfl)) (@ze _ _ _ _ _ (@zC _ _ 10 _ _ _ _ qg.nd rfl (XF rfl) (@zK _ _ _ _ _ _ _ _ jm (@zK _ _ _ _ _ _ _ _ Zi zk (pvS 6)) (pvS 9)) (by rfl) (.inr rfl)) (ze (zC (i:=11) qg.nd rfl (XF rfl) (pc0 (zfP Zx) G Zx (za (pc0 jS G J (za (pvS 0) (@za _ _ _ _ _ (@zK _ _ _ _ _ _ _ _ jm zk (zK ju (pvS 10) zk)) zb rfl))) (za (pvS 10) zb)))) (zi9 (jk (zL zbQ (zK ju (zK yc (pc0 jS G J (za (pvS 0) (@za _ _ _ _ _ zk zb rfl))) zk) zk) zk (qe _)) (ze (zC (i:=11) qg.nd rfl (XF rfl) (pvS 7)) (zg (zC (i:=7) qg.nd rfl (XF rfl) (zK yc (pvS 7) (zx qS (by rfl) T.qG Xk (za (pvS 4) zb)))))) (zg (jk (zL zif (zK ju (zK yc (pvS 11) zk) zk) zk (qe _)) (zg (zC (i:=11) qg.nd rfl (XF rfl) (zK ju (pvS 11) (zK jD (zx qS (by rfl) T.qG Xk (za (pvS 4) zb)) zk)))) ql))) (zg (zC (i:=8) qg.nd rfl (XF rfl) (zK Yv (pvS 8) (qh QD (pvS 4) (zK ju (pvS 11) (zx qS (by rfl) T.qG Xk (za (pvS 4) zb))) (λ_ _=>rfl))))))))) (zg (jA (ZK WR Wn Wm jE (pvS 5) (za (pvS 8) zb)))))))) (zg (zJ (pvS 5)))))))),?_⟩;(try dsimp only[cxK,cxP,cxW]);refine⟨_,rfl,a,I,_,rfl,Y,by decide,λh0=>⟨_,_,rfl,rfl,(by show (0:Int)<8;decide),_,_,rfl,rfl,?_⟩⟩;have e1:=VT h0 (show (8:Int)≠0 by decide);have e2:=VV h0 (show (0:Int)<8 by decide);obtain⟨w1,w2,w3⟩:=zso (h0:=h0) m8;refine⟨_,rfl,a,I,_,rfl,Y,by decide,λx=>⟨_,rfl,_,rfl,_,_,rfl,rfl,JQ.small (by show (0:Int)<1+h0%8;lia) (by show 1+h0%8<(1073741824:Int);lia),_,_,rfl,_,_,rfl,rfl,(by show (0:Int)<mw m h0;lia),_,_,rfl,rfl,?_⟩⟩;have e3:=VT x (show mw m h0≠0 by lia);have e4:=VV x (show (0:Int)<mw m h0 by lia);refine⟨_,rfl,a,I,_,rfl,Y,by decide,λU=>?_⟩;have e5:=VT (U/16) (show (5:Int)≠0 by decide);have e6:=VV (U/16) (show (0:Int)<5 by decide);refine⟨_,_,rfl,rfl,JQ.small (by decide) (by decide),_,_,rfl,rfl,(by show (0:Int)<5;decide),_,_,rfl,rfl,".",_,rfl,rfl,(by show (1:Int)<=1+U/16%5;lia),(by show 1+U/16%5<=(1000:Int);lia),by decide,λg dl dm=>?_⟩;have ai:g.length=(1+U/16%5).toNat:=by
   rw[dl];show 1*(1+U/16%5).toNat=_;lia
  have zs:=zoS g;have zm:=zq0 dm;have z1:3<=(fz g).cps.size:=by lia
  have z2:(fz g).cps.size<=7:=by lia
  refine dH (dI rfl rfl ?_ (dH (dI rfl rfl ?_ ?_)))
  .exact X5 (show ("o":Str).length+g.length<=100 by show 1+g.length<=100;lia) (by decide)
  .refine X5 (show (("o":Str)++g).length+("#":Str).length<=100 from ?_) (by decide);have:(("o":Str)++g).length=1+g.length:=by
    show (("o":Str).cps++g.cps).size=_;rw[Sm];rfl
   rw[this];show 1+g.length+1<=100;lia
  refine⟨ZU,λl hl=>?_⟩;have s0:zB H (upd H l (.lst [])):=zd hl;refine⟨_,rfl,1+h0%8,rfl,by lia,by lia,?_⟩;refine j8 (lo:=0) (n:=(1+h0%8).toNat) (λi N O=>∃(v6 v7 v8 M q r:Option V) (L:AE),N=[some (.ref a),some (.int m),some (.int (1+h0%8)),some (.int (1+x%mw m h0)),some (.str (fz g)),some (.ref l),v6,v7,v8,M,q,r]/\zB H O/\O l=some (.lst (L.map V.str))/\L.length=i/\∀t∈L,Row (fz g).cps.toList (1+x%mw m h0).toNat t)
   (dW (dN [] rfl s0 zc rfl (λ_ h=>nomatch h))) ?_ ?_
  .refine λi N H1 hi=>eW λv6 v7 v8 M=>eX λq r L z0 s1 y v p=>?_;subst z0;refine⟨_,rfl,_,rfl,_,_,rfl,rfl,a,I,_,rfl,s1.seq Y,by lia,λown=>?_⟩;refine⟨_,rfl,1+x%mw m h0,rfl,by lia,by lia,?_⟩;refine j8 (lo:=0) (n:=(1+x%mw m h0).toNat) (λj N O=>∃(M q r:Option V) (o:Int) (t:Str),N=[some (.ref a),some (.int m),some (.int (1+h0%8)),some (.int (1+x%mw m h0)),some (.str (fz g)),some (.ref l),some (.int (0+i)),some (.int o),some (.str t),M,q,r]/\O=H1/\Row (fz g).cps.toList j t)
    (dH ⟨_,(dO own (dD rfl rfl ⟨rfl,λ_ h=>nomatch h⟩))⟩) ?_ ?_
   .refine λj N H2 hj=>fD λM q r o t=>eV λz0 z1 B=>?_;subst z0 z1;refine⟨_,rfl,_,_,rfl,rfl,mulL (by decide) (by decide),_,rfl,_,_,rfl,rfl,?_⟩;have af:(0:Int)<=8*(0+i)+(0+j):=by lia
    have aj:8*(0+(i:Int))+(0+j)<=1000:=by lia
    have q0:=VT (8*(0+(i:Int))+(0+j)) (show (59:Int)≠0 by decide);refine⟨_,rfl,_,rfl,_,_,rfl,rfl,(by show (0:Int)<59;decide),_,_,rfl,rfl,a,I,_,rfl,s1.seq Y,by lia,λc=>⟨_,rfl,_,_,rfl,af,by lia,λd=>?_⟩⟩;refine⟨fun ac O=>∃(o d:Int),ac=[some (.ref a),some (.int m),some (.int (1+h0%8)),some (.int (1+x%mw m h0)),some (.str (fz g)),some (.ref l),some (.int (0+i)),some (.int o),some (.str t),some (.int (0+j)),some (.int (8*(0+i)+(0+j))),some (.int d)]/\O=H2,?_,?_⟩
    .refine⟨_,rfl,a,I,_,rfl,s1.seq Y,by decide,λc0=>⟨_,_,rfl,rfl,JQ.small (by decide) (by decide),_,_,rfl,rfl,(by show (0:Int)<2;decide),rfl,_,rfl,zgg (λ_=>?_) (λ_=>?_)⟩⟩
     .refine⟨_,rfl,_,rfl,_,rfl,fz g,rfl,?_,_,_,rfl,rfl,?_,?_⟩
      .exact X5 z2 (by decide)
      .exact JQ.small (by show (0:Int)<((fz g).cps.size:Nat);lia) (by show (((fz g).cps.size:Nat):Int)<1073741824;lia)
      .exact⟨_,_,rfl,rfl⟩
     .refine⟨_,rfl,_,_,rfl,rfl,JQ.small (by decide) (by decide),_,_,rfl,rfl,(by show (0:Int)<3;decide),_,_,rfl,rfl,_,rfl,zgg (λ_=>?_) (λ_=>?_)⟩
      .refine⟨_,rfl,_,rfl,fz g,rfl,X5 z2 (by decide),_,_,rfl,rfl,_,_,rfl,rfl,(by show (0:Int)<((fz g).cps.size:Nat)-1;lia),?_⟩;exact⟨_,_,rfl,rfl⟩
      .exact⟨_,_,rfl,rfl⟩
    refine λac H3=>fq λo' d'=>ff λz0 z1=>?_;subst z0 z1;have m0:=VT d' (show (((fz g).cps.size:Nat):Int)≠0 by lia);have m1:=VV d' (show (0:Int)<(((fz g).cps.size:Nat):Int) by lia);have ab:(d'%(((fz g).cps.size:Nat):Int)).toNat<(fz g).cps.toList.length:=by
     rw[X6];lia
    refine⟨_,rfl,_,rfl,_,rfl,_,rfl,fz g,rfl,X5 z2 (by decide),_,_,rfl,rfl,(by show (0:Int)<((fz g).cps.size:Nat);lia),fz g,_,(fz g).cps.toList[(d'%(((fz g).cps.size:Nat):Int)).toNat],rfl,rfl,X5 z2 (by decide),ZE m0 (X2 ab),t,_,rfl,rfl,?_,?_⟩
    .have e5:t.length=j:=B.len;rw[e5];show j+1<=Xq;exact X5 (show j+1<=80 by lia) (by decide)
    .exact dH ⟨_,(dO o' (dD rfl rfl (B.more (Tl ab))))⟩
   .refine λN H2=>fD λM q r o t=>eV λz0 z1 B=>?_;subst z0 z1;refine⟨_,rfl,.inl ⟨rfl,_,SqL.of y⟩,_,rfl,l,_,_,rfl,rfl,y,?_,?_⟩
    .rw[Y1,v];exact Xd (show i<9 by lia) (by decide)
    .refine dW (dN (L++[t]) rfl (λb o e=>?_) ?_ ?_ ?_)
     .rw[zp (zj e hl)];exact s1 b o e
     .rw[zc,Xj];rfl
     .rw[XU,v];rfl
     .intro u hu;rcases XG.mp hu with hu | hu
      .exact p u hu
      .have e6:u=t:=by simpa using hu
       rw[e6];exact B
  .refine λN H1=>eW λv6 v7 v8 M=>eX λq r L z0 s1 y v p=>?_;subst z0;refine⟨_,rfl,k l L H1 hl y s1 ⟨by lia,by lia,(1+x%mw m h0).toNat,by lia,by lia,λt ht=>⟨(p t ht).len,λc hc=>zm c ((p t ht).mem c hc)⟩⟩ λt ht=>?_⟩;rw[(p t ht).len,v];have a1:(((1+h0%8).toNat*(1+x%mw m h0).toNat:Nat):Int)=(1+h0%8)*(1+x%mw m h0):=by
    rw[Int.natCast_mul,VC (by lia),VC (by lia)]
   rw[a1];exact Vz (Int.mul_le_mul_of_nonneg_left (show 1+x%mw m h0<=mw m h0 by lia) (by lia)) w3
def pIn (z:Str)(k:Nat):Bool:=!(Ue z ⟨#[k]⟩ 0 z.length 1).isEmpty
def zm7:Sp:=λf H Q _=>∃(l:Addr) (b:AE) (z:Str) (e:List Nat),f=[.ref l,.str z]/\H l=some (.lst (b.map V.str))/\Rows e b /\
 ∀(d:Addr) (c:AF) (a:Hp),H d=none->a d=some (.lst c)->Cel a c (Cells.zF (pIn z) 0 (codes b))->zB H a->Q (.ref d) a
def zpu {α:Type}{xs:List α}{j:Nat}{v:α}(h:xs[j]?=some v):atI xs (0+(j:Int))=some v:=by
 rw[UA];exact Jt h
def JG:zE ["_law_rows","_law_signs","_law_found","_law_row","_law_column"] ["_law_rows","_law_signs"] (zf Zt):=bh
def yQ (T:Txt mg)(D:zh K mg "_law_cells" Zt ["_law_rows","_law_signs"] f fd):qA P w K mg base CX0 1 f fd ["_law_rows","_law_signs"] zm7:=by
 refine D.F.ok JG (λvs H Q E h=>?_) (λaf A ae s H vs Q E hr h=>?_)
 .revert h;refine eZ λl b z sg z0 _=>?_;subst z0;rfl
 .revert h;refine fm λl b z sg z0 hl R q=>?_;subst z0;refine⟨_,(@ze _ _ _ _ _ (@zC _ _ 2 _ _ _ _ JG.nd rfl (XF rfl) (@qm _ _ _ _ zb) (by rfl) (.inr rfl)) (ze (qB Xh rfl (yT (by rfl) T.JA (za (zx zD (by rfl) T.qG Xk (za (pvS 0) zb)) zb)) (zq (i:=3) JG.nd rfl (XF rfl)) (zg (qB Xh rfl (yT (by rfl) T.JA (za (zx qS (by rfl) T.qG Xk (za (qh jd (pvS 0) zk (λ_ _=>rfl)) zb)) zb)) (zq (i:=4) JG.nd rfl (XF rfl)) (zg (jk (zL zj3 (qh QD (qh jd (pvS 0) (pvS 3) (λ_ _=>rfl)) (pvS 4) (λ_ _=>rfl)) (pvS 1) (by rfl)) (zg (jA (ZK WR Wn Wm jE (pvS 2) (za (qH (za (pvS 3) (za (pvS 4) zb))) zb)))) ql))))) (zg (zJ (pvS 2))))),?_⟩;(try dsimp only[cxK,cxP,cxW]);refine⟨ZU,λd U=>?_⟩;have s0:zB H (upd H d (.lst [])):=zd U;obtain⟨B,w1,w8,m⟩:=R.ex;have ah:=R.lo;have ag:=R.hi;refine⟨_,rfl,l,_,rfl,.inl (SqL.of (s0 _ _ hl)),_,rfl,by lia,?_,?_⟩
  .rw[Y1];lia
  refine j8 (lo:=0) (n:=(((b.map V.str).length:Nat):Int).toNat) (λi G r=>∃(v3 y:Option V) (a:AF),G=[some (.ref l),some (.str z),some (.ref d),v3,y]/\zB H r/\r d=some (.lst a)/\Cel r a (Cells.zF (pIn z) 0 ((codes b).take i)))
   ⟨_,_,[],rfl,s0,zc,.nil⟩ ?_ ?_
  .refine λi G H1 hi=>fu λv3 y a z0 s1 v k=>?_;subst z0;have Y:i<b.length:=by
    rw[Y1]at hi;lia
   obtain⟨t,L⟩:∃t,b[i]?=some t:=⟨_,X2 Y⟩;obtain⟨N,x⟩:∃t,b[0]?=some t:=⟨_,X2 (by lia)⟩;have tl:t.length=B:=(m t (X8 L)).len;have J:N.length=B:=(m N (X8 x)).len;refine⟨_,rfl,l,_,0,V.str N,rfl,rfl,SqL.of (s1 _ _ hl),ZE (by decide) (by rw[Xw];exact congrArg _ x),N,rfl,R.tlen x,_,rfl,by lia,?_,?_⟩
   .rw[J];lia
   rw[J];refine j8 (lo:=0) (n:=((B:Nat):Int).toNat) (λj G r=>∃(y:Option V) (a:AF),G=[some (.ref l),some (.str z),some (.ref d),some (.int (0+i)),y]/\zB H r/\r d=some (.lst a)/\Cel r a (Cells.zF (pIn z) 0 ((codes b).take i)++Cells.qa (pIn z) i 0 (t.cps.toList.take j)))
    ⟨_,a,rfl,s1,v,by simpa[Cells.qa] using k⟩ ?_ ?_
   .refine λj G O hj=>eU λy a z0 I g e=>?_;subst z0;have aa:j<t.cps.toList.length:=by
     have:t.cps.size=B:=tl;rw[X6];lia
    obtain⟨c,hc⟩:∃c,t.cps.toList[j]?=some c:=⟨_,X2 aa⟩;have ab:atI (b.map V.str) (0+(i:Int))=some (V.str t):=zpu (by rw[Xw,L];rfl);have st:=Cells.zaf (p:=pIn z) (i:=i) hc;have len:a.length<=64:=by
     rw[e.length,XU];have h1:=Cells.qU (pIn z) 0 ((codes b).take i) λu hu=>R.short u (VJ hu);have h2:=Cells.jF (pIn z) i 0 (t.cps.toList.take j);rw[XQ,ja]at h1;rw[XQ]at h2;lia
    refine⟨_,rfl,_,rfl,l,_,_,_,rfl,rfl,SqL.of (I _ _ hl),ab,_,rfl,t,_,c,rfl,rfl,R.tlen L,zpu hc,_,rfl,_,_,rfl,rfl,_,rfl,?_⟩;refine zgg (λkd=>?_) (λkd=>?_)
    .rw[bw (show pIn z c=true from kd)]at st;refine⟨_,rfl,.inl ⟨rfl,_,SqL.of g⟩,_,rfl,_,rfl,ZV,λtp ac=>?_⟩;have M:zB O (upd O tp (.tup [.int (0+i),.int (0+j)])):=zd ac;refine⟨d,_,_,rfl,rfl,M _ _ g,XM len (by decide),?_⟩;refine dS (a++[.ref tp]) rfl (λb' o e'=>?_) zc ?_
     .rw[zp (zj e' U)];exact M _ _ (I _ _ e')
     .rw[st,<- WW];refine Cel.into d _ (M _ _ g) (Cel.snoc (Cel.mono M e) ⟨tp,rfl,?_⟩);rw[zc,UA,UA]
    .rw[bq (show ¬ pIn z c=true from kd),Xa]at st;refine dS a rfl I g ?_;rw[st];exact e
   .refine λG O=>eU λy a z0 I g e=>?_;subst z0;have full:t.cps.toList.take ((B:Nat):Int).toNat=t.cps.toList:=by
     have:t.cps.size=B:=tl;rw[show (((B:Nat):Int)).toNat=t.cps.toList.length by rw[X6];lia,XO]
    rw[full]at e;exact⟨_,_,a,rfl,I,g,by rw[Cells.zag (qJ L)];exact e⟩
  .refine λG H1=>fu λv3 y a z0 s1 v k=>?_;subst z0;have full:(codes b).take (((b.map V.str).length:Nat):Int).toNat=codes b:=by
    rw[show ((((b.map V.str).length:Nat):Int)).toNat=(codes b).length by rw[Y1,ja];lia,XO]
   rw[full]at k;exact⟨_,rfl,q d a H1 U v k s1⟩
def dig (a:KV1)(c:AA)(k:Nat):Nat:=match jo a (qo c) with
 | some (.int v)=>48+v.toNat
 | _=>k
structure Nums (cs:AD)(N:Nat)(kvs:KV1):Prop where
 vals:∀kv∈kvs,∃c∈cs,∃v:Nat,v<=8/\kv.1=qo c/\kv.2=V.int (v:Nat)
 nd:(kvs.map (·.1)).Nodup
 len:kvs.length<=N
def zm8 {b:KV1}{k:List Key}{v:V}(h:jo b k=some v):(k,v)∈b:=by
 unfold jo at h;cases e:b.find? (λa=>decide (a.1=k)) with
 | none =>
  rw[e]at h;cases h
 | some a =>
  rw[e]at h;have h1:a.2=v:=by simpa using h
  have h2:a.1=k:=bg (show decide (a.1=k)=true from List.find?_some (p:=λ(a:List Key×V)=>decide (a.1=k)) e);have c:=List.mem_of_find?_eq_some e;rw[<- h1,<- h2];exact c
def Nums.at {cs:AD}{N:Nat}{a:KV1}(h:Nums cs N a)(c:AA):jo a (qo c)=none\/∃v:Nat,v<=8/\c∈cs/\jo a (qo c)=some (V.int (v:Nat)):=by
 cases e:jo a (qo c) with
 | none=>exact .inl rfl
 | some v =>
  obtain⟨k,i,n,j,d,f⟩:=h.vals _ (zm8 e);have g:=J5 d;subst g;have b:v=V.int (n:Nat):=f;subst b;exact .inr ⟨n,j,i,rfl⟩
def Nums.nil (cs:AD)(N:Nat):Nums cs N []:=⟨(λ_ h=>nomatch h),UL,W4 _⟩
def zm9 (a:KV1)(k:List Key)(v:V):(k∈a.map (·.1)/\(putK a k v).map (·.1)=a.map (·.1))\/(¬ k∈a.map (·.1)/\(putK a k v).map (·.1)=a.map (·.1)++[k]):=by
 unfold putK;by_cases h:(a.any λb=>decide (b.1=k))=true
 .refine .inl ⟨?_,?_⟩
  .obtain⟨b,h1,h2⟩:=WF.mp h;exact XJ.mpr ⟨b,h1,bg h2⟩
  .rw[bw h,WE];refine Xf λb _=>?_;show (if b.1=k then (b.1,v) else b).1=b.1;split<;>rfl
 .refine .inr ⟨λc=>?_,?_⟩
  .obtain⟨b,h1,h2⟩:=XJ.mp c;exact h (WF.mpr ⟨b,h1,br h2⟩)
  .rw[bq h,Xj];rfl
def zoU {a:KV1}{k:List Key}{v:V}{b:List Key×V}(h:b∈putK a k v):b∈a\/b=(k,v):=by
 unfold putK at h;split at h
 .obtain⟨x,c,e⟩:=XJ.mp h;by_cases hk:x.1=k
  .rw[bw hk]at e;exact .inr (by rw[<- e,hk])
  .rw[bq hk]at e;exact .inl (by rw[<- e];exact c)
 .rcases XG.mp h with h | h
  .exact .inl h
  .exact .inr (by simpa using h)
def Nums.put {cs:AD}{N:Nat}{d:KV1}(h:Nums cs N d){k:List Key}{w:V}(hk:∃c∈cs,∃v:Nat,v<=8/\k=qo c/\w=V.int (v:Nat)):Nums cs (N+1) (putK d k w):=by
 refine⟨λm f=>?_,?_,?_⟩
 .rcases zoU f with h1 | h1
  .exact h.vals m h1
  .subst h1;exact hk
 .rcases zm9 d k w with ⟨_,e⟩ | ⟨l,e⟩
  .rw[e];exact h.nd
  .rw[e,WD];refine⟨h.nd,by simp,λa i b j e=>l ?_⟩;have g:b=k:=by simpa using j
   rw[<- g,<- e];exact i
 .have:=Y6 d k w;have:=h.len;lia
def jL (a:KV1)(i:Nat)(t:List Nat):List Nat:=t.mapIdx λj c=>dig a (i,j) c
def zoV (a:KV1)(i:Nat)(t:Str):Str:=⟨(jL a i t.cps.toList).toArray⟩
def zb5 (a:KV1)(rs:AE):AE:=rs.mapIdx λi t=>zoV a i t
def zbM (a:KV1)(i:Nat)(t:Str):(zoV a i t).cps.toList=jL a i t.cps.toList:=by
 show (jL a i t.cps.toList).toArray.toList=_;rw[Oh]
def zfU {a b:Str}(h:a.cps.toList=b.cps.toList):a=b:=by
 obtain⟨⟨x⟩⟩:=a;obtain⟨⟨y⟩⟩:=b;have:x=y:=h;rw[this]
def zdH {a:KV1}{rs:AE}{i:Nat}{t:Str}(h:rs[i]?=some t):(zb5 a rs)[i]?=some (zoV a i t):=by
 unfold zb5;rw[Ox,h];rfl
def JN (a:KV1)(rs:AE):(zb5 a rs).length=rs.length:=by
 unfold zb5;rw[Vb]
def zbN {a:KV1}{i j c:Nat}{t:List Nat}(h:t[j]?=some c):(jL a i t)[j]?=some (dig a (i,j) c):=by
 unfold jL;rw[Ox,h];rfl
def zq1:∀v:Nat,v<=8->48+v∈bd.cps.toList:=by decide+kernel
def Rows.put {cs:AD}{N:Nat}{a:KV1}(h:Nums cs N a){rs:AE}(R:Rows bd.cps.toList rs):Rows bd.cps.toList (zb5 a rs):=by
 obtain⟨n,s,w,p⟩:=R.ex;refine⟨by rw[JN];exact R.lo,by rw[JN];exact R.hi,n,s,w,λt q=>?_⟩;obtain⟨i,b⟩:=Ow q;cases e:rs[i]? with
 | none =>
  have h0:=VF.mp e;rw[VF.mpr (by rw[JN];exact h0)]at b;cases b
 | some u =>
  rw[zdH e]at b;have o:=Option.some.inj b;subst o;have l:=p u (X8 e);refine⟨?_,λc g=>?_⟩
  .rw[<- X6,zbM];unfold jL;rw[Vb,X6];exact l.len
  .rw[zbM]at g;obtain⟨j,d⟩:=Ow g;cases e2:u.cps.toList[j]? with
   | none =>
    have h0:=VF.mp e2;rw[VF.mpr (by unfold jL;rw[Vb];exact h0)]at d;cases d
   | some k =>
    rw[zbN e2]at d;have m:=Option.some.inj d;subst m;unfold dig;rcases h.at (i,j) with f | ⟨v,r,_,f⟩
    .rw[f];exact l.mem k (X8 e2)
    .rw[f];exact zq1 v r
def zna:Sp:=λg H Q _=>∃(p l d:Addr) (c:AE) (n:Int) (f:AD) (N:Nat) (a:KV1),g=[.ref p,.ref d]/\qc H p l c n/\Rows bd.cps.toList c/\H d=some (.dT a)/\Nums f N a /\
 ∀(q e:Addr) (b:Hp),H q=none->H e=none->qc b q e (zb5 a c) n->zB H b->Q (.ref q) b
theorem join_ones:∀cs:List Nat,(T0 "" (cs.map λc=>(⟨#[c]⟩:Str))).cps.toList=cs
 | []=>rfl
 | [c]=>rfl
 | c::e::r=>by
  have h:(T0 "" ((c::e::r).map λc=>(⟨#[c]⟩:Str))).cps=#[c]++("":Str).cps++(T0 "" ((e::r).map λc=>(⟨#[c]⟩:Str))).cps:=rfl;rw[h,W3,W3,join_ones (e::r)];rfl
def zk5 (a:KV1)(i:Nat)(t:Str):T0 "" ((jL a i t.cps.toList).map λc=>(⟨#[c]⟩:Str))=zoV a i t:=zfU (by rw[join_ones,zbM])
def znb:∀d:Nat,d<=8->((toString (d:Int):String):Str)=⟨#[48+d]⟩:=by decide+kernel
theorem zhr:∀cs:List Nat,((cs.map λc=>(⟨#[c]⟩:Str)).map (·.length)).sum=cs.length
 | []=>rfl
 | c::r=>by
  rw[Xo,Xo,List.sum_cons,zhr r,Xx];show 1+r.length=_;lia
def take_snoc {α:Type}{xs:List α}{i:Nat}{x:α}(h:xs[i]?=some x):xs.take (i+1)=xs.take i++[x]:=by
 rw[XI,h];rfl
def Yi:zE ["board","numbers","rows","row","text","signs"] ["board","numbers"] (zf Qg):=bh
def zk6 (T:Txt mg)(D:zh K mg "opened" Qg ["board","numbers"] f fd):qA P w K mg base CX0 1 f fd ["board","numbers"] zna:=by
 refine D.F.ok Yi (λvs H Q E h=>?_) (λam A aj s H vs Q E hr h=>?_)
 .revert h;refine eW λp l d G=>eZ λn cs N a z0 _=>?_;subst z0;rfl
 .revert h;refine fj λp l d G n cs N a=>e8 λz0 b R hd hN q=>?_;subst z0;refine⟨_,(@ze _ _ _ _ _ (@zC _ _ 2 _ _ _ _ Yi.nd rfl (XF rfl) (@qm _ _ _ _ zb) (by rfl) (.inr rfl)) (ze (qB Xh rfl (xS (by rfl) T.qY (za (qh qf (pvS 0) zk (λ_ _=>rfl)) zb)) (JO rfl (zR (zq (i:=3) Yi.nd rfl (UR rfl)) (zR (zq (i:=4) Yi.nd rfl (XF rfl)) jB))) (ze (xJ (i:=5) Yi.nd rfl rfl (N:=["column","sign","numbers","row"]) (src:=[none,none,some 1,some 3]) (zW.free (O:=(zf Qg).names) (XN:=["board","numbers","rows","row","text","signs"]) rfl rfl ⟨_,rfl⟩ rfl rfl (by decide+kernel) (by decide+kernel) (by decide+kernel) rfl (by decide+kernel)) rfl (zgk (by rfl) T.qY (za (pvS 4) zb)) (λ_ _ _ _ _=>(zaC (n:=2) (K:=K) (by rfl) rfl (zR (zq (i:=0) (by show W9 (["column","sign","numbers","row"]:AE);decide+kernel) rfl (XF rfl)) (zR (zq (i:=1) (by show W9 (["column","sign","numbers","row"]:AE);decide+kernel) rfl (XF rfl)) jB)))) (λ_ _ _ _ _=>qQ) (λ_ _ _ _ _=>(qI zgB (by rfl) T.zmp R8 (za (zlE (u1 hr.units) (pvS 2) (qH (za (pvS 3) (za (pvS 0) zb))) (pvS 1) ⟨rfl,rfl,rfl,rfl⟩) zb)))) (zg (jA (ZK WR Wn Wm jE (pvS 2) (@za _ _ _ _ _ (@ZK _ _ _ _ _ _ _ _ _ _ _ _ PySem.F.plainAttrs_str PySem.F.slot_str_join PySem.F.type_str_join znV jv (za (pvS 5) zb) (by rfl) (by rfl) (by rfl) (by rfl) (by rfl)) zb rfl)))))) (zg (zJ (qH (za (pvS 2) (za (qh qf (pvS 0) zk (λ_ _=>rfl)) zb))))))),?_⟩;(try dsimp only[cxK,cxP,cxW]);refine⟨ZU,λB u=>?_⟩;have s0:zB H (upd H B (.lst [])):=zd u;have ao:=R.hi;refine⟨_,rfl,p,_,0,_,rfl,rfl,SqT.of (b.mono s0).tp,rfl,l,rfl,⟨_,SqL.of (b.mono s0).rw⟩,?_⟩;refine yX (K:=K) (l:=l) (xs:=G.map V.str) (λi r y=>∃(v3 v4 v5:Option V),r=[some (.ref p),some (.ref d),some (.ref B),v3,v4,v5]/\zB H y/\y B=some (.lst (((zb5 a G).take i).map V.str)))
   ⟨_,_,_,rfl,s0,zc⟩ (λi r y _ ⟨_,_,_,_,s1,_⟩=>SqL.of (b.mono s1).rw) ?_ ?_
  .refine λi x tt r H1 hx ah=>fF λv3 v4 v5 z0 s1 g=>?_;subst z0;rw[Xw]at hx;cases e:G[i]? with
   | none =>
    rw[e]at hx;cases hx
   | some t =>
    rw[e]at hx;cases hx;have al:t.cps.toList.length<=8:=R.short _ (X8 (qJ e));have an:i<G.length:=(XZ.mp e).1;have st:zB H1 (upd H1 tt (.tup [.int (i:Nat),.str t])):=zd ah;refine dR tt rfl (SqT.of zc) rfl rfl rfl rfl ?_;have s2:=s1.trans st;have Y:=st _ _ g;generalize upd H1 tt (.tup [.int (i:Nat),.str t])=H2 at *
    refine⟨_,rfl,t,rfl,λz hz=>?_⟩;refine zcO (x:=t) (λj r y=>∃(u0 u1:Option V),r=[u0,u1,some (.ref d),some (.int (i:Nat))]/\zB H2 y/\y z=some (.lst (((jL a i t.cps.toList).take j).map λc=>V.str ⟨#[c]⟩))) ⟨_,_,rfl,zd hz,zc⟩ ?_ ?_
    .refine λj c t2 r J hc ag=>fh λu0 u1 z0 I m=>?_;subst z0;have af:t.cps.toList[j]?=some c:=by rw[Xz];exact hc
     refine dR t2 rfl (SqT.of zc) rfl rfl rfl rfl ?_;have s4:zB J (upd J t2 (.tup [.int (j:Nat),.str ⟨#[c]⟩])):=zd ag;have aa:=s4 _ _ (I _ _ (s2 _ _ hd));have ai:=s4 _ _ m;have ak:=I.trans s4;generalize upd J t2 (.tup [.int (j:Nat),.str ⟨#[c]⟩])=H4 at *
     unfold zlx;refine zaA ⟨_,rfl,d,rfl,.inr ⟨a,.inl aa⟩,_,rfl,_,rfl,ZV,λtp ac=>⟨_,rfl,jo a (qo (i,j)),?_,?_⟩⟩
     .exact zcb.t (k:=qo (i,j)) (zd ac _ _ aa) zc
     have s5:=zd (o:=.tup [.int (i:Nat),.int (j:Nat)]) ac;have U:∀k:Nat,k=dig a (i,j) c->∃ys,upd H4 tp (.tup [.int (i:Nat),.int (j:Nat)]) z=some (.lst ys)/\ys.length<Xq/\∃(u0 u1:Option V),[some (V.int (j:Nat)),some (V.str ⟨#[c]⟩),some (.ref d),some (.int (i:Nat))]=[u0,u1,some (.ref d),some (.int (i:Nat))]/\zB H2 (upd (upd H4 tp (.tup [.int (i:Nat),.int (j:Nat)])) z (.lst (ys++[V.str ⟨#[k]⟩])))/\upd (upd H4 tp (.tup [.int (i:Nat),.int (j:Nat)])) z (.lst (ys++[V.str ⟨#[k]⟩])) z=some (.lst (((jL a i t.cps.toList).take (j+1)).map λc=>V.str ⟨#[c]⟩)):=λk hk=>by
      refine⟨_,(dD (s5 _ _ ai) ?_ (eH rfl (λb' o L=>?_) ?_))⟩
      .rw[Y1,XQ];unfold jL;rw[Vb];exact XM (show _<=8 by lia) (by decide)
      .rw[zp (zj L hz)];exact s5 _ _ (ak _ _ L)
      .rw[zc,take_snoc (zbN af),Xj,hk];rfl
     rcases hN.at (i,j) with M | ⟨v,hv,_,M⟩
     .rw[M];exact eH rfl (.inl rfl) (U c (by unfold dig;rw[M]))
     .rw[M];refine⟨_,(dU ⟨#[48+v]⟩ rfl (.inr ⟨(v:Nat),rfl,?_,(znb v hv).symm⟩) (U (48+v) (by unfold dig;rw[M];rfl)))⟩;have:∀v:Nat,v<=8->((v:Nat):Int).natAbs.log2<1920:=by decide+kernel
      exact this v hv
    .refine λr J=>fh λu0 u1 z0 I m=>?_;subst z0;have ez:(jL a i t.cps.toList).take t.cps.size=jL a i t.cps.toList:=WC (by unfold jL;rw[Vb,X6];exact XV _);rw[ez]at m;have ae:J z=some (.lst (((jL a i t.cps.toList).map λc=>(⟨#[c]⟩:Str)).map V.str)):=by
      rw[m,WE];rfl
     have pl:(jL a i t.cps.toList).length<=8:=by
      unfold jL;rw[Vb];exact al
     refine⟨_,rfl,.inl ⟨rfl,_,SqL.of (I _ _ Y)⟩,rfl,_,rfl,"",z,_,rfl,rfl,SqL.of ae,?_,B,_,_,rfl,rfl,I _ _ Y,?_,?_⟩
     .rw[zhr,Y1];have:("":Str).length=0:=rfl;rw[this];lia
     .rw[Y1,XQ,JN];exact XM (show _<=8 by lia) (by decide)
     .rw[zk5];refine dH ⟨_,(dD rfl (λb' o L=>?_) ?_)⟩
      .rw[zp (zj L u)];exact I _ _ (s2 _ _ L)
      .rw[zc,take_snoc (zdH e),Xj];rfl
  .refine λr H1=>fF λv3 v4 v5 z0 s1 g=>?_;subst z0;rw[Y1,<- JN a G,XO]at g;refine⟨_,rfl,_,rfl,p,_,1,_,rfl,rfl,SqT.of (b.mono s1).tp,rfl,ZV,λq2 ab=>?_⟩;have s2:=zd (o:=.tup [.ref B,.int n]) ab;exact q q2 B _ (s1.free ab) u ⟨zc,s2 _ _ g⟩ (s1.trans s2)
def swC (c d k:Nat):Nat:=if k=c then d else k
def zjL {c d:Nat}{l:List Nat}(h:c ∉ l):l.map (swC c d)=l:=by
 induction l with
 | nil=>rfl
 | cons a r b =>
  rw[Xo,b λz=>h (XY _ z)];unfold swC;rw[bq λz:a=c=>h (z ▸ XX)]
def zoW (c d:Nat)(ps:AE)(h:∀p∈ps,c ∉ p.cps.toList):(T0 ⟨#[c]⟩ ps).cps.toList.map (swC c d)=(T0 ⟨#[d]⟩ ps).cps.toList:=by
 induction ps with
 | nil=>rfl
 | cons p r b =>
  cases r with
  | nil=>exact zjL (h p XX)
  | cons q r =>
   have b:=b λa g=>h a (XY _ g);have e:∀z:Str,(T0 z (p::q::r)).cps.toList=p.cps.toList++z.cps.toList++(T0 z (q::r)).cps.toList:=λz=>by
    have e:(T0 z (p::q::r)).cps=p.cps++z.cps++(T0 z (q::r)).cps:=rfl;rw[e,W3,W3]
   rw[e,e,Xj,Xj,b,zjL (h p XX)];have f:(⟨#[c]⟩:Str).cps.toList.map (swC c d)=(⟨#[d]⟩:Str).cps.toList:=by
    show [swC c d c]=[d];unfold swC;rw[bw rfl]
   rw[f]
def Qp (x:Str)(c d:Nat):(Ux x ⟨#[c]⟩ ⟨#[d]⟩).cps.toList=x.cps.toList.map (swC c d):=by
 rw[StrLaws.replace_one,<- zoW c d _ (StrLaws.split_free x c),StrLaws.join_split]
def Je (k:Nat):Nat:=if k=35 then 35 else 63
def QT (t:Str):Str:=⟨(t.cps.toList.map Je).toArray⟩
def ZJ (rs:AE):AE:=rs.map QT
def ziH:(".":Str)=⟨#[46]⟩:=by decide+kernel
def ze2:∀k∈fdS.cps.toList,swC 111 63 (swC 46 63 k)=Je k/\Je k∈bs.cps.toList:=by decide+kernel
def zhs (t:Str):(QT t).cps.toList=t.cps.toList.map Je:=rfl
def zq2 {n:Nat}{t:Str}(r:Row fdS.cps.toList n t):Ux (Ux t "." "?") "o" "?"=QT t:=by
 apply zfU;rw[ziH,zhq,zbE,Qp,Qp,zhs,WE];exact Xf λk hk=>(ze2 k (r.mem k hk)).1
def zoX {n:Nat}{t:Str}(r:Row fdS.cps.toList n t):Row bs.cps.toList n (QT t):=by
 refine⟨?_,λc a=>?_⟩
 .show (t.cps.toList.map Je).toArray.size=n;rw[Xy,Y1,X6];exact r.len
 .rw[zhs]at a;obtain⟨k,hk,rfl⟩:=XJ.mp a;exact(ze2 k (r.mem k hk)).2
def zdI {rs:AE}(R:Rows fdS.cps.toList rs):Rows bs.cps.toList (ZJ rs):=by
 obtain⟨e,f,n,c,d,h⟩:=R;refine⟨?_,?_,n,c,d,λt a=>?_⟩
 .unfold ZJ;rw[Y1];exact e
 .unfold ZJ;rw[Y1];exact f
 .obtain⟨u,b,rfl⟩:=XJ.mp a;exact zoX (h u b)
def zam {b:List Nat}{p:Nat->Bool}{rs:AE}(R:Rows b rs):(Cells.zF p 0 (codes rs)).length<=64:=by
 have h1:=Cells.qU p 0 (codes rs) λu a=>R.short u a;have h2:=R.hi;rw[ja]at h1;lia
def zpv:∀c∈bs.cps.toList,c∈bd.cps.toList:=by decide+kernel
def stC (rs:AE):AD:=Cells.zF (λc=>zP c&&decide (c=111)) 0 (codes rs)
def xq (rs:AE)(c:AA):Nat:=((stC rs).filter λx=>Cells.near x c).length
def znc {l:AD}(h:l.Nodup)(c:AA):(l.filter λx=>Cells.near x c).length<=8:=by
 obtain⟨i,j⟩:=c;refine((h.sublist Wg).length_le_of_subset (l₂:=[(i-1,j-1),(i-1,j),(i-1,j+1),(i,j-1),(i,j+1),(i+1,j-1),(i+1,j),(i+1,j+1)]) λx g=>?_);obtain⟨a,b⟩:=x;obtain⟨⟨h1,h2⟩,⟨d,e⟩,f⟩:=(Cells.yI _ _).mp (XS.mp g).2;simp only[P0]at h1 h2 d e f;simp only[XH,P0,Vv,or_false];lia
def zk7 (p:Nat->Bool)(gs:List (List Nat)):(Cells.zF p 0 gs).Nodup:=(Cells.jQ p 0 gs).imp λ{a b} h e=>by
 subst e;rcases h with h | h<;>lia
def zbO (rs:AE)(c:AA):xq rs c<=8:=znc (zk7 _ _) c
theorem zjM (i:Nat):∀(j:Nat) (t:List Nat),Cells.qa zP i j (t.map Je)=Cells.qa zP i j t
 | _,[]=>rfl
 | j,k::r=>by
  have e:zP (Je k)=zP k:=by
   unfold zP Je;by_cases h:k=35
   .rw[bw h,h]
   .rw[bq h,bf h];rfl
  simp only[Xo,Cells.qa,e,zjM i (j+1) r]
theorem zjN:∀(i:Nat) (rs:AE),Cells.zF zP i (codes (ZJ rs))=Cells.zF zP i (codes rs)
 | _,[]=>rfl
 | i,t::r=>by
  have e:codes (ZJ (t::r))=t.cps.toList.map Je::codes (ZJ r):=rfl;have a:codes (t::r)=t.cps.toList::codes r:=rfl;rw[e,a];simp only[Cells.zF,zjM,zjN (i+1) r]
def zht (rs:AE):(Cells.zF zP 0 (codes rs)).filter (λx=>decide (x∈stC rs))=stC rs:=by
 unfold stC;rw[<- Cells.all_filter (p:=zP) (q:=λk=>decide (k=111)) (codes rs)];refine Vp λx a=>?_;rw[WX,bu,XS];exact⟨λh=>h.2,λh=>⟨a,h⟩⟩
def ziI (rs:AE)(c:AA):((zM (ZJ rs) c).filter λx=>decide (x∈stC rs)).length=xq rs c:=by
 unfold zM xq;rw[zjN,T6];conv=>rhs;rw[<- zht rs,T6]
 congr 1;refine Vp λx _=>?_;exact RT _ _
def zef (rs:AE)(cs:AD):KV1:=cs.foldl (λa c=>putK a (qo c) (V.int (xq rs c:Nat))) []
def zk8 (rs:AE)(cs:AD)(c:AA):zef rs (cs++[c])=putK (zef rs cs) (qo c) (V.int (xq rs c:Nat)):=by
 unfold zef;rw[Uy];rfl
def zk9 {cs cs':AD}(rs:AE){N:Nat}{b:KV1}(d:Nums cs N b)(h:∀c∈cs',c∈cs):Nums cs (N+cs'.length) (cs'.foldl (λa c=>putK a (qo c) (V.int (xq rs c:Nat))) b):=by
 induction cs' generalizing N b with
 | nil=>exact d
 | cons c r f =>
  have:=f (d.put (w:=V.int (xq rs c:Nat)) ⟨c,h c XX,xq rs c,zbO rs c,rfl,rfl⟩) λx e=>h x (XY _ e);rw[Xx,Nat.add_comm r.length 1,<- Nat.add_assoc];exact this
def ziJ (rs:AE)(cs:AD):Nums cs cs.length (zef rs cs):=by
 have:=zk9 rs (Nums.nil cs 0) (cs':=cs) λ_ h=>h;rw[VR]at this;exact this
def znd (rs:AE)(cs:AD):(zef rs cs).length<=cs.length:=(ziJ rs cs).len
def jx (rs:AE)(cs:AD):AE:=zb5 (zef rs cs) (ZJ rs)
def ze3:Sp:=λg H Q _=>∃(l c:Addr) (b:AE) (f:AF) (a:AD),g=[.ref l,.ref c]/\H l=some (.lst (b.map V.str))/\Rows fdS.cps.toList b/\H c=some (.lst f)/\Cel H f a/\a.length<=64/\(∀x∈a,x.1<8/\x.2<8) /\
 ∀(p e:Addr) (d:Hp),H p=none->H e=none->qc d p e (jx b a) ((stC b).length:Nat)->zB H d->Q (.ref p) d
def x8:zE ["field","cells","stones","hidden","numbers","cell"] ["field","cells"] (zf JZ):=bh
def zhu (T:Txt mg)(Z:Prog K mg)(D:zh K mg "board_at" JZ ["field","cells"] f fd):Zn 384 P w K mg base CX0 4 f fd ["field","cells"] ze3:=by
 obtain⟨aO,aN,ar⟩:=Z.stones_of;obtain⟨aM,aK,qW⟩:=Z.cells_with;obtain⟨xo,yy,zv⟩:=Z.cells_of;obtain⟨JM,xj,zu⟩:=Z.sign_at;obtain⟨aQ,aP,au⟩:=Z.board_of;obtain⟨aJ,aI,zU⟩:=Z.around;obtain⟨aS,aR,av⟩:=Z.opened;refine D.F.okT x8 (λvs H Q E h=>?_) (λaF A a9 s H vs Q E hr h=>?_)
 .revert h;refine eW λl c g ws=>fc λcs z0 _=>?_;subst z0;rfl
 .revert h;refine fD λl c g ws cs=>fE λz0 hl R hc=>fJ λhw aE a2 q=>?_;subst z0;refine⟨_,(qi (PS.at_ (zC (i:=2) x8.nd rfl (UR rfl) (pc0 (zfS T ar qW zv zu) hr ar (za (pvS 0) zb)))) (qi (zcu (i:=3) x8.nd rfl (XF rfl) (zsU (zhp T Z au) hr au (zgR (zl7 (N:=["text"]) (src:=[none]) (zW.plain rfl (by decide+kernel) (by decide+kernel) (by decide+kernel) rfl (by decide)) rfl (zO (pvS 0)) (λ_ _ _ _ _=>(zq (i:=0) (by show W9 (["text"]:AE);decide+kernel) rfl (XF rfl))) (λ_ _ _ _ _=>qQ) (λ_ _ _ _ _=>(zjr T.JC.choose_spec.1 T.JC.choose_spec.2.1 T.JC.choose_spec.2.2 (zjr T.JB.choose_spec.1 T.JB.choose_spec.2.1 T.JB.choose_spec.2.2 (PE.at_ (pvS 0)))))) (zgR (PE.at_ (zx zD (by rfl) T.qG Xk (za (pvS 2) zb))) (PA.at_ zb))))) (PSs.at_ (@ze _ _ _ _ _ (@zC _ _ 4 _ _ _ _ x8.nd rfl (XF rfl) zgw (by rfl) (.inr rfl)) (ze (qB Xh rfl (zO (pvS 1)) (zq (i:=5) x8.nd rfl (XF rfl)) (zg (zcp (u1 hr.units) (pvS 4) (pvS 5) (zx zD (by rfl) T.qG Xk (za (qz (N:=["place","stones"]) (src:=[none,some 2]) (zW.free (O:=(zf JZ).names) (XN:=["field","cells","stones","hidden","numbers","cell"]) rfl rfl ⟨_,rfl⟩ rfl rfl (by decide+kernel) (by decide+kernel) (by decide+kernel) rfl (by decide+kernel)) rfl (zO (pc0 (Z4 T zU) hr zU (za (pvS 3) (za (pvS 5) zb)))) (λ_ _ _ _ _=>(zq (i:=0) (by show W9 (["place","stones"]:AE);decide+kernel) rfl (XF rfl))) (λ_ _ _ _ _=>(qt (zL (jy (K:=K) (by rfl) hr.units) (pvS 0) (pvS 1) (by rfl)))) (λ_ _ _ _ _=>(pvS 0))) zb)) rfl))) (zg (zJ (pc0 (zk6 T av) hr av (za (pvS 3) (za (pvS 4) zb)))))))))),?_⟩;(try dsimp only[cxK,cxP,cxW]);refine⟨_,rfl,l,g,rfl,hl,R,λd M H1 hd aj U s1=>?_⟩;have U:Cel H1 M (stC g):=U;have an:=s1 _ _ hl;have aB:=U.length;have aD:(stC g).length<=64:=zam R;obtain⟨n,n1,n8,ao⟩:=R.ex;refine⟨_,rfl,l,rfl,⟨_,SqL.of an⟩,λy hy=>?_⟩;refine qj (K:=K) (a:=l) (xs:=g.map V.str) (λi I H'=>(∃u0,I=[u0])/\zB H1 H'/\H' y=some (.lst (((g.take i).map QT).map V.str))) ⟨⟨_,rfl⟩,zd hy,zc⟩ (λi I H' _ ⟨_,s6,_⟩=>SqL.of (s6 _ _ an)) ?_ ?_
  .rintro i x I H' hx ⟨⟨u0,rfl⟩,s6,aa⟩;rw[Xw]at hx;obtain⟨t,ht,rfl⟩:=Pf.mp hx;have r:=ao t (X8 ht);have i8:i<g.length:=(XZ.mp ht).1;have tl:t.length=n:=r.len;have aH:(Ux t "." "?").length=n:=by
    rw[<- tl];have e:(Ux t "." "?").cps.toList.length=t.cps.toList.length:=by
     rw[ziH,zbE,Qp,Y1]
    exact e
   refine xH ⟨_,rfl,t,rfl,by lia,_,rfl,by lia,?_⟩;rw[zq2 r];refine⟨_,aa,XM (show _<=8 from ?_) (by decide),⟨_,rfl⟩,λb o e=>?_,?_⟩
   .rw[Y1,Y1,XQ];have:=R.hi;lia
   .rw[zp (zj e hy)];exact s6 _ _ e
   .rw[zc,XI,ht,Xj,Xj];rfl
  .rintro I H6 ⟨_,s6,aa⟩;rw[Y1,XO]at aa;refine⟨_,rfl,d,_,rfl,.inl (SqL.of (s6 _ _ aj)),y,ZJ g,_,rfl,aa,zdI R,by lia,by lia,λlb p a4 hp a6=>?_⟩;have z1:=zd (o:=.lst ((ZJ g).map V.str)) a4;have a5:upd H6 lb (.lst ((ZJ g).map V.str)) p=none:=by
    rw[zp a6];exact hp
   have z2:=zd (o:=.tup [.ref lb,.int (M.length:Nat)]) a5;have BH:qc (upd (upd H6 lb (.lst ((ZJ g).map V.str))) p (.tup [.ref lb,.int (M.length:Nat)])) p lb (ZJ g) (M.length:Nat):=⟨zc,z2 _ _ zc⟩;have aA:=z1.trans z2;generalize upd (upd H6 lb (.lst ((ZJ g).map V.str))) p (.tup [.ref lb,.int (M.length:Nat)])=H8 at *
   have aq:=s6.trans aA;have ab:=s1.trans aq;intro dn al;have z9:=zd (o:=.dT []) al;have Rh:Rows bd.cps.toList (ZJ g):=(zdI R).mono zpv;refine⟨_,rfl,c,rfl,⟨_,SqL.of (z9 _ _ (ab _ _ hc))⟩,?_⟩;refine jM (K:=K) (a:=c) (xs:=ws) (λi I H'=>∃v,I=[some (.ref l),some (.ref c),some (.ref d),some (.ref p),some (.ref dn),v]/\zB H8 H'/\H' dn=some (.dT (zef g (cs.take i)))) ⟨_,rfl,z9,zc⟩ (λi I H' _ ⟨_,_,B,_⟩=>SqL.of (B _ _ (ab _ _ hc))) ?_ ?_
   .refine λi x I ay hx=>fk λv=>eV λz0 B j=>?_;subst z0;refine e9 (λk hk ca z0 ai=>?_) (Cel.get (hw.mono (ab.trans B)) hx);subst z0;obtain⟨k1,k2⟩:=a2 k (X8 hk);refine⟨_,rfl,_,rfl,p,lb,ca,ZJ g,_,k.1,k.2,rfl,BH.mono B,Rh,ai,by lia,by lia,λda wa ah aG aw ax ac=>(dU da rfl ⟨_,SqL.of aw⟩ (λz hz=>?_))⟩;have wl:=ax.length;have a1:=xO Rh k;have af:=aq.trans (B.trans ac);refine qM (K:=K) (a:=da) (xs:=wa) (λa=>a≠z) ((zM (ZJ g) k).map λx=>if decide (x∈stC g)=true then some (zo x) else none) (fun I=>∃u0,I=[u0,some (.ref d)]) hz (λ_ h=>h) ⟨_,rfl⟩ (by rw[Y1];exact wl.symm) (by rw[wl];exact X5 a1 (by decide)) (SqL.of aw) ?_ ?_
    .rintro m x o I az hx ho L _ ⟨u0,rfl⟩ Y Z aC no;obtain⟨y2,a8,r2⟩:=Cel.get (ax.mono L) hx;have eo:=yM a8 ho;have ak:=(af.trans L) _ _ aj;refine⟨_,rfl,_,rfl,zo y2,(stC g).map zo,yL.rdv r2,.lst (SqL.of ak) (zaX (U.mono (af.trans L))),rfl,Ql _,(by show 1<=60;decide),_,rfl,?_⟩;have ei:(if false=true then !((stC g).map zo).any (λz=>W5 z (zo y2)) else ((stC g).map zo).any λz=>W5 z (zo y2))=decide (y2∈stC g):=by
      rw[bq XT,xX,WX,WF,bu];constructor
      .rintro⟨u,hu,e⟩;rw[<- bg e];exact hu
      .exact λh=>⟨y2,h,br rfl⟩
     by_cases hh:decide (y2∈stC g)=true
     .rw[bw hh]at eo;exact j9 (ei.trans hh) ⟨_,rfl,aC _ _ _ _ eo ⟨_,rfl⟩ (zB.refl _) (yL.rdn r2)⟩
     .rw[bq hh]at eo;exact jC (ei.trans (W6.mpr hh)) (no _ _ eo ⟨_,rfl⟩ (zB.refl _))
    .rintro ys az L ap ae;rw[qL]at ae;have yl:=(zG.cel ae).length;rw[ziI]at yl;have G:=ac.trans L;have am:=znd g (cs.take i);rw[XQ]at am;refine⟨z,_,rfl,.inl (SqL.of ap),_,rfl,_,rfl,dn,_,rfl,zgu.t (k:=qo k) (G _ _ j) (G _ _ ai) (XM (show _<=64 by lia) (by decide)),?_⟩;refine⟨_,rfl,λb o e=>?_,?_⟩
     .rw[zp (zj e al)];exact G _ _ (B _ _ e)
     .rw[zc,XI,hk,yl];exact congrArg (λz=>some (HO.dT z)) (zk8 g _ k).symm
   .rintro I ay ⟨v,rfl,B,j⟩;rw[hw.length,XO]at j;refine⟨_,rfl,_,rfl,p,lb,dn,ZJ g,_,cs,_,_,rfl,BH.mono B,Rh,j,ziJ g cs,λq2 l2 ah a7 a3 ag ac=>?_⟩;rw[aB]at ag;have J:=ab.trans B;exact q q2 l2 ah (J.free a7) (J.free a3) ag (J.trans ac)
def zne:Sp:=λf H Q _=>∃(l:Addr) (b:AE),f=[.ref l]/\H l=some (.lst (b.map V.str))/\Rows fdS.cps.toList b /\
 ∀(d:Addr) (e:AF) (a:Hp),H d=none->a d=some (.lst e)->Cel a e (Cells.zF (λc=>zP c&&decide (c=46)) 0 (codes b))->zB H a->Q (.ref d) a
def zfW:zE ["field"] ["field"] (zf Zr):=bh
def zfX {j k m:Addr}{a b c:XC}(T:Txt mg)(D:zh K mg "clears_of" Zr ["field"] f fd)(e:zh K mg "cells_with" jG ["field","sign"] j a)(u:zh K mg "cells_of" qk ["board"] k b)(r:zh K mg "sign_at" qy ["board","cell"] m c) :
  qA P w K mg base CX0 3 f fd ["field"] zne:=by
 refine D.F.ok zfW (λp H Q E h=>?_) (λi A d s H p Q E o h=>?_)
 .obtain⟨l,g,rfl,_⟩:=h;rfl
 .revert h;refine eU λl g z0 n R q=>?_;subst z0;refine⟨_,(zg (zJ (pc0 (zaa T e u r) o e (za (pvS 0) (za (j7 (v:=.str ".") (by rfl) T.JB.choose_spec.1 (by exact⟨_,rfl⟩)) zb))))),?_⟩;(try dsimp only[cxK,cxP,cxW]);exact⟨_,rfl,l,g,46,by rw[ziH];rfl,n,R,q⟩
def zq4 {K:XW}{h:Heap}{mg:Str->Option X9}(H:zcv K "run" zbU "sure")(X:K.In h)(G:h.Ns XR mg):∃f fd,zbu K mg "run" zbU ["field","first","way"] "sure" f fd:=by
 refine H.at X G (λl kV doc k i d j t g e=>?_) (λl kV doc k i d j t g e=>?_)
 .match g,e with
  | [a,b,c],_=>exact⟨_,rfl,rfl⟩
 .match g,e with
  | [a,b],_=>exact⟨_,rfl,rfl⟩
def zs5:Sp:=λe H Q _=>∃(p l:Addr) (a:AE) (n:Int),e=[.ref p,.str "sure"]/\qc H p l a n/\Rows bd.cps.toList a/\Small a/\0<=n/\yO a n≠0/\(∀(d:Addr) (c:AF) (b:Hp),H d=none->b d=some (.lst c)->Cel b c (clS a n)->zB H b->Q (.ref d) b)
def zdK:zE ["board","way"] ["board","way"] (zf xM):=bh
def zdL (T:Txt mg)(Z:Prog K mg)(D:zh K mg "found_clear" xM ["board","way"] f fd):qA P w K mg base CX0 11 f fd ["board","way"] zs5:=by
 obtain⟨L,M,b⟩:=Z.sure;refine D.F.ok zdK (λI H Q E h=>?_) (λm A g s H I Q E x h=>?_)
 .revert h;refine eZ λp l j n z0 _=>?_;subst z0;rfl
 .revert h;refine fy λp l j n z0 B R G=>eV λz y q=>?_;subst z0;refine⟨_,(ze (jk (zL zbQ (pvS 1) jv (qe _)) (zg (zJ (qh jd (qh jd zlB zk (λ_ _=>rfl)) zk (λ_ _=>rfl)))) ql) (zg (zJ (qh qf (pc0 (zoO T Z b) x b (za (pvS 0) zb)) zk (λ_ _=>rfl))))),?_⟩;(try dsimp only[cxK,cxP,cxW]);refine⟨_,rfl,rfl,_,rfl,jC (by decide+kernel) ?_⟩;refine⟨_,rfl,p,l,j,n,rfl,B,R,G,z,y,λt o N J U k O d u v e a i c r s1=>?_⟩;exact⟨t,_,0,_,rfl,rfl,SqT.of e,rfl,q o J k d a c s1⟩
def zla:∀k∈fdS.cps.toList,pIn "o" k=(zP k&&decide (k=111)):=by decide+kernel
def zoZ:∀k∈fdS.cps.toList,pIn "." k=(zP k&&decide (k=46)):=by decide+kernel
theorem zhw {p q:Nat->Bool}(i:Nat):∀(j:Nat) (t:List Nat),(∀k∈t,p k=q k)->Cells.qa p i j t=Cells.qa q i j t
 | _,[],_=>rfl
 | j,c::r,h=>by
  simp only[Cells.qa,h c XX,zhw i (j+1) r λk hk=>h k (XY _ hk)]
theorem Qq {p q:Nat->Bool}:∀(i:Nat) (gs:List (List Nat)),(∀t∈gs,∀k∈t,p k=q k)->Cells.zF p i gs=Cells.zF q i gs
 | _,[],_=>rfl
 | i,t::r,h=>by
  simp only[Cells.zF,zhw i 0 t (h t XX),Qq (i+1) r λu a=>h u (XY _ a)]
def zbd {rs:AE}{a:List Nat}(R:Rows a rs){t:List Nat}(b:t∈codes rs){k:Nat}(hk:k∈t):k∈a:=by
 obtain⟨u,c,rfl⟩:=XJ.mp b;obtain⟨n,_,_,h⟩:=R.ex;exact(h u c).mem k hk
def zhx {rs:AE}(R:Rows fdS.cps.toList rs):Cells.zF (pIn "o") 0 (codes rs)=stC rs:=Qq 0 _ λt a k hk=>zla k (zbd R a hk)
def yR (rs:AE):AD:=Cells.zF (λc=>zP c&&decide (c=46)) 0 (codes rs)
def ze4 {rs:AE}(R:Rows fdS.cps.toList rs):Cells.zF (pIn ".") 0 (codes rs)=yR rs:=Qq 0 _ λt a k hk=>zoZ k (zbd R a hk)
def zng (rs:AE)(c:AA)(cs:AD)(b:KV1):jo (cs.foldl (λa c=>putK a (qo c) (V.int (xq rs c:Nat))) b) (qo c)=if c∈cs then some (V.int (xq rs c:Nat)) else jo b (qo c):=by
 induction cs generalizing b with
 | nil=>rw[bq (λh=>nomatch h)];rfl
 | cons d r f =>
  rw[V6,f];by_cases h:c∈r
  .rw[bw h,bw (XY _ h)]
  .rw[bq h,ZN];by_cases e:c=d
   .subst e;rw[bw rfl,bw XX]
   .rw[bq λz=>e (J5 z),bq λz=>(XH.mp z).elim e h]
def zsq (rs:AE)(cs:AD)(c:AA):jo (zef rs cs) (qo c)=if c∈cs then some (V.int (xq rs c:Nat)) else none:=zng rs c cs []
def zsr (rs:AE)(cs:AD)(c:AA)(k:Nat):dig (zef rs cs) c k=if c∈cs then 48+xq rs c else k:=by
 unfold dig;rw[zsq];by_cases h:c∈cs
 .rw[bw h,bw h];show 48+((xq rs c:Nat):Int).toNat=_;rw[VQ]
 .rw[bq h,bq h]
def zan (rs:AE)(cs:AD)(i:Nat)(t:Str):List Nat:=jL (zef rs cs) i (t.cps.toList.map Je)
def zhy (rs:AE)(cs:AD)(i:Nat)(t:Str):(zan rs cs i t).length=t.cps.toList.length:=by
 unfold zan jL;rw[Vb,Y1]
def zcB {rs:AE}{cs:AD}{i j k:Nat}{t:Str}(h:t.cps.toList[j]?=some k):(zan rs cs i t)[j]?=some (if (i,j)∈cs then 48+xq rs (i,j) else Je k):=by
 rw[<- zsr];exact zbN (by rw[Xw,h];rfl)
def zdM (rs:AE)(cs:AD):(jx rs cs).length=rs.length:=by
 unfold jx ZJ;rw[JN,Y1]
def zcC {rs:AE}{cs:AD}{i:Nat}{t:Str}(h:rs[i]?=some t):(jx rs cs)[i]?=some ⟨(zan rs cs i t).toArray⟩:=by
 have h2:(ZJ rs)[i]?=some (QT t):=by
  unfold ZJ;rw[Xw,h];rfl
 exact zdH h2
def zpA (cs:AD)(c:AA):(cs.map zo).any (λz=>W5 z (zo c))=decide (c∈cs):=by
 rw[xX,WX,WF,bu];constructor
 .rintro⟨u,hu,e⟩;rw[<- bg e];exact hu
 .exact λh=>⟨c,h,br rfl⟩
def zfY (cs:AD)(c:AA):(if false=true then !(cs.map zo).any (λz=>W5 z (zo c)) else (cs.map zo).any λz=>W5 z (zo c))=decide (c∈cs):=zpA cs c
def zjO {a b:AD}(c:a.Pairwise Cells.lex)(d:b.Pairwise Cells.lex)(h:∀x,x∈a↔x∈b):a=b :=
 ((Vk (yg c) (yg d)).mpr h).eq_of_pairwise (λx y _ _ h1 h2=>by
  unfold Cells.lex at h1 h2;lia) c d
def QO {p:Nat->Bool}{rs:AE}{cs:AD}{i j:Nat}:(i,j)∈Cells.zF p 0 (codes (jx rs cs)) ↔ ∃t k,rs[i]?=some t/\t.cps.toList[j]?=some k/\p (if (i,j)∈cs then 48+xq rs (i,j) else Je k)=true:=by
 constructor
 .intro h;refine eU (λu c h1 h2 b _=>?_) (zY h);have d:i<rs.length:=by
   rw[<- zdM rs cs];exact(XZ.mp h1).1
  obtain⟨t,a⟩:∃t,rs[i]?=some t:=⟨_,X2 d⟩;have h1:(jx rs cs)[i]?=some u:=h1;have h2:u.cps.toList[j]?=some c:=h2;rw[zcC a]at h1;cases h1;have h2:(zan rs cs i t)[j]?=some c:=h2;have e:j<t.cps.toList.length:=by
   rw[<- zhy rs cs i t];exact(XZ.mp h2).1
  obtain⟨k,hk⟩:∃k,t.cps.toList[j]?=some k:=⟨_,X2 e⟩;rw[zcB hk]at h2;cases h2;exact⟨t,k,a,hk,b⟩
 .rintro⟨t,k,a,hk,hp⟩;have:=JD (i:=0) (qJ (zcC (cs:=cs) a)) (zcB (rs:=rs) (cs:=cs) (i:=i) hk) hp;rwa [VR]at this
def Jf {p:Nat->Bool}{rs:AE}{i j:Nat}:(i,j)∈Cells.zF p 0 (codes rs) ↔ ∃t k,rs[i]?=some t/\t.cps.toList[j]?=some k/\p k=true:=by
 constructor
 .intro h;obtain⟨u,c,h1,h2,a,_⟩:=zY h;exact⟨u,c,h1,h2,a⟩
 .rintro⟨t,k,ht,hk,hp⟩;have:=JD (i:=0) (qJ ht) hk hp;rwa [VR]at this
def znh:∀v:Nat,v<=8->Z0 (48+v)=true/\zP (48+v)=true:=by decide+kernel
def zni (k:Nat):Z0 (Je k)=false:=by
 unfold Je;by_cases h:k=35
 .rw[bw h];decide
 .rw[bq h];decide
def zhz (k:Nat):zP (Je k)=zP k:=by
 unfold zP Je;by_cases h:k=35
 .rw[bw h,h]
 .rw[bq h,bf h];rfl
section
variable {rs:AE}{cs:AD}(hsub:∀x∈cs,x∈yR rs)
include hsub
theorem znj (x:AA):x∈Cells.zF Z0 0 (codes (jx rs cs))↔x∈cs:=by
 obtain⟨i,j⟩:=x;rw[QO];constructor
 .rintro⟨t,k,_,_,h⟩;by_cases e:(i,j)∈cs
  .exact e
  .rw[bq e,zni]at h;cases h
 .intro h;obtain⟨t,k,h1,h2,_⟩:=Jf.mp (hsub _ h);exact⟨t,k,h1,h2,by rw[bw h];exact(znh _ (zbO rs (i,j))).1⟩
theorem ze5:Cells.zF zP 0 (codes (jx rs cs))=Cells.zF zP 0 (codes rs):=by
 refine zjO (Cells.jQ _ _ _) (Cells.jQ _ _ _) λx=>?_;obtain⟨i,j⟩:=x;rw[QO,Jf];constructor
 .rintro⟨t,k,h1,h2,h⟩;by_cases e:(i,j)∈cs
  .obtain⟨f,d,a,b,c⟩:=Jf.mp (hsub _ e);rw[h1]at a;cases a;rw[h2]at b;cases b;exact⟨t,k,h1,h2,(WY.mp c).1⟩
  .rw[bq e,zhz]at h;exact⟨t,k,h1,h2,h⟩
 .rintro⟨t,k,h1,h2,h⟩;refine⟨t,k,h1,h2,?_⟩;by_cases e:(i,j)∈cs
  .rw[bw e];exact(znh _ (zbO rs (i,j))).2
  .rw[bq e,zhz];exact h
theorem znk {x:AA}(h:x∈stC rs):x∈Cells.zF J0 0 (codes (jx rs cs)):=by
 obtain⟨i,j⟩:=x;obtain⟨t,k,h1,h2,f⟩:=Jf.mp h;have c:k=111:=bg (WY.mp f).2;refine QO.mpr ⟨t,k,h1,h2,?_⟩;have g:¬ (i,j)∈cs:=λe=>by
  obtain⟨n,m,a,b,d⟩:=Jf.mp (hsub _ e);rw[h1]at a;cases a;rw[h2]at b;cases b;have l:k=46:=bg (WY.mp d).2;lia
 rw[bq g,c];decide
theorem znl {c:AA}(h:c∈cs):∃t,(jx rs cs)[c.1]?=some t/\t.cps.toList[c.2]?=some (48+xq rs c):=by
 obtain⟨i,j⟩:=c;obtain⟨t,k,h1,h2,_⟩:=Jf.mp (hsub _ h);refine⟨_,zcC h1,?_⟩;have:=zcB (rs:=rs) (cs:=cs) (i:=i) h2;rw[bw h]at this;exact this
end
def zdN {rs:AE}{cs:AD}(R:Rows fdS.cps.toList rs):Rows bd.cps.toList (jx rs cs):=Rows.put (ziJ rs cs) ((zdI R).mono zpv)
def ze6 {rs:AE}(R:Rows fdS.cps.toList rs){x:AA}(h:x∈yR rs):x.1<8/\x.2<8:=by
 obtain⟨t,k,h1,h2,_⟩:=zY h;have a:=(XZ.mp h1).1;have b:=(XZ.mp h2).1;have e:=R.hi;have f:=R.short _ (X8 (qJ h1));lia
def Big (rs:AE):Prop:=∃a,Parts.Good (clA rs) (zw rs) a/\∃g∈a,14<g.length
section
variable {rs:AE}{cs:AD}(hsub:∀x∈cs,x∈yR rs)
include hsub
theorem zo0 {c:AA}(h:c∈cs):Cells.sgn (codes (jx rs cs)) c=48+xq rs c:=by
 obtain⟨t,h1,h2⟩:=znl hsub h;exact Cells.zbv (qJ h1) h2
theorem ze7:ji (jx rs cs) (stC rs)=true:=by
 refine J4.mpr λo c=>?_;have b:=(znj hsub o).mp c;unfold zQ;rw[zo0 hsub b];have e:Grow.cnt (nearF (jx rs cs)) o (stC rs)=xq rs o:=by
  unfold Grow.cnt xq;congr 1;refine Vp λx d=>?_;rw[WX,Yd];unfold zM;rw[ze5 hsub,XS];refine⟨λh=>h.2,λh=>⟨?_,h⟩⟩;obtain⟨i,j⟩:=x;obtain⟨t,k,h1,h2,a⟩:=Jf.mp d;exact Jf.mpr ⟨t,k,h1,h2,(WY.mp a).1⟩
 rw[e];lia
theorem zjP:(stC rs).Sublist (zT (jx rs cs)):=by
 have e:(zT (jx rs cs)).filter (λx=>decide (x∈stC rs))=stC rs:=by
  refine zjO ((Cells.jQ _ 0 _).sublist Wg) (Cells.jQ _ 0 _) λx=>?_;rw[XS,bu];exact⟨λh=>h.2,λh=>⟨znk hsub h,h⟩⟩
 rw[<- e];exact Wg
theorem znm {p:AD->Bool}(h:p (stC rs)=true):Tally.T (zT (jx rs cs)) p (stC rs).length≠0:=by
 unfold Tally.T;refine Va (Ol.mpr ⟨stC rs,Tally.zjv (zjP hsub),?_⟩);rw[h,br rfl];rfl
theorem zo1:yO (jx rs cs) ((stC rs).length:Nat)≠0:=λe=>znm hsub (ze7 hsub) (by
 unfold yO at e;rw[VQ]at e;lia)
theorem zq5 {c:AA}(h:c∈stC rs):qv (jx rs cs) ((stC rs).length:Nat) c≠0:=λe=>znm hsub (p:=λS=>ji (jx rs cs) S&&decide (c∈S)) (by
 rw[ze7 hsub,br h];rfl) (by
 unfold qv at e;rw[VQ]at e;lia)
end
def nxt (rs:AE)(cs:AD):AD:=clS (jx rs cs) ((stC rs).length:Nat)
def zq6:∀v:Nat,v<=8->J0 (48+v)=false:=by decide+kernel
def znn {rs:AE}{cs:AD}(R:Rows fdS.cps.toList rs)(a:∀x∈cs,x∈yR rs){x:AA}(h:x∈nxt rs cs):x∈yR rs/\x ∉ cs:=by
 obtain⟨h1,h2⟩:=XS.mp h;obtain⟨i,j⟩:=x;obtain⟨t,k,c,hk,b⟩:=QO.mp h1;have d:(i,j) ∉ cs:=λe=>by
  rw[bw e,zq6 _ (zbO rs (i,j))]at b;cases b
 refine⟨?_,d⟩;obtain⟨n,_,_,l⟩:=R.ex;have g:=(l t (X8 c)).mem k (X8 hk);have f:∀k∈fdS.cps.toList,k=46\/k=111\/k=35:=by decide+kernel
 rcases f k g with e | e | e
 .exact Jf.mpr ⟨t,k,c,hk,by rw[e];decide⟩
 .exact absurd (bg h2) (zq5 a (Jf.mpr ⟨t,k,c,hk,by rw[e];decide⟩))
 .rw[bq d,e]at b;cases b
def zlb (rs:AE)(cs:AD):(nxt rs cs).Nodup:=(YO _).sublist Wg
structure Drw (rs:AE)(cs:AD):Prop where
 sub:∀x∈cs,x∈yR rs
 nd:cs.Nodup
def Drw.one {rs:AE}{c:AA}(h:c∈yR rs):Drw rs [c]:=⟨λx a=>by rw[Wh.mp a];exact h,List.pairwise_singleton _ _⟩
def Drw.more {rs:AE}{cs:AD}(R:Rows fdS.cps.toList rs)(d:Drw rs cs):Drw rs (cs++nxt rs cs):=by
 refine⟨λx g=>?_,WD.mpr ⟨d.nd,zlb rs cs,λa c b f e=>?_⟩⟩
 .rcases XG.mp g with h | h
  .exact d.sub x h
  .exact(znn R d.sub h).1
 .subst e;exact(znn R d.sub f).2 c
def Drw.len {rs:AE}{cs:AD}(d:Drw rs cs):cs.length<=(yR rs).length:=d.nd.length_le_of_subset d.sub
open Classical in
def zcf (rs:AE):Nat->AD->Option (Str×AD)
 | 0,cs=>some ("end",cs)
 | m+1,cs=>if (yR rs).length<=cs.length then some ("end",cs) else if Big (jx rs cs) then none else if nxt rs cs=[] then some ("stuck",cs) else zcf rs m (cs++nxt rs cs)
structure Way (rs:AE)(c:AA)(m:Nat)(cs:AD):Prop where
 d:Drw rs cs
 lt:(yR rs).length<cs.length+m
 out:zcf rs m cs=zcf rs 65 [c]
section
variable {rs:AE}{c:AA}{m:Nat}{cs:AD}
def Way.start (a:(yR rs).length<=64)(h:c∈yR rs):Way rs c 65 [c]:=⟨Drw.one h,by
 show (yR rs).length<1+65;lia,rfl⟩
def Way.ends (W:Way rs c m cs)(h:(yR rs).length<=cs.length):zcf rs 65 [c]=some (("end":Str),cs):=by
 rw[<- W.out];cases m with
 | zero=>rfl
 | succ m =>
  unfold zcf;rw[bw h]
variable (W:Way rs c m cs)(h:¬ (yR rs).length<=cs.length)
include W h
variable (B:¬ Big (jx rs cs))
include B
theorem Way.stuck (e:nxt rs cs=[]):zcf rs 65 [c]=some (("stuck":Str),cs):=by
 rw[<- W.out];cases m with
 | zero=>exact absurd W.lt (by lia)
 | succ m =>
  unfold zcf;rw[bq h,bq B,bw e]
theorem Way.step (R:Rows fdS.cps.toList rs)(e:nxt rs cs ≠ []):∃a,a<m/\Way rs c a (cs++nxt rs cs):=by
 cases m with
 | zero=>exact absurd W.lt (by lia)
 | succ m =>
  refine⟨m,by lia,W.d.more R,?_,?_⟩
  .have:=W.lt;have:=RD.mpr e;rw[XU];lia
  .rw[<- W.out];conv=>rhs;unfold zcf
   rw[bq h,bq B,bq e]
end
theorem zhA {p:Nat->Bool}{m:Nat}:∀{i:Nat} {gs:List (List Nat)},(∀t∈gs,(Cells.qa p 0 0 t).length<=m)->(Cells.zF p i gs).length<=m*gs.length
 | _,[],_=>W4 _
 | i,t::r,h=>by
  have h1:=zhA (i:=i+1) λu b=>h u (XY _ b);have h2:=h t XX;have e:∀(i a j:Nat) (t:List Nat),(Cells.qa p i j t).length=(Cells.qa p a j t).length:=λi a j t=>by
   induction t generalizing j with
   | nil=>rfl
   | cons c r d =>
    rw[Cells.qa,Cells.qa,XU,XU,d];split<;>rfl
  rw[Cells.zF,XU,Xx,e i 0,Nat.mul_succ];lia
def zhB {rs:AE}(h:(zT rs).length<=14){gs:List AD}(G:Parts.Good (clA rs) (zw rs) gs):∀g∈gs,g.length<=14:=λg c=>by
 have a:=(VN c).length_le;have b:=(QM G).length_eq;rw[XU]at b;lia
def Ten (rs:AE):Prop:=(Cells.zF zP 0 (codes rs)).length<=10
def ten_of {rs:AE}(R:Rows fdS.cps.toList rs)(h:∀t∈rs,((rs.length*t.cps.size:Nat):Int)<=10):Ten rs:=by
 obtain⟨n,_,d,a⟩:=R.ex;have:=zhA (p:=zP) (m:=n) (i:=0) (gs:=codes rs) λt b=>by
  obtain⟨u,c,rfl⟩:=XJ.mp b;have:=Cells.jF zP 0 0 u.cps.toList;exact X5 this (NP (by rw[X6];exact(a u c).len))
 unfold Ten;rw[ja]at this;have lo:=R.lo;cases rs with
 | nil=>exact absurd lo (by decide)
 | cons t r =>
  have h1:=h t XX;rw[(a t XX).len,Po]at h1;lia
def Ten.shut {rs:AE}(t:Ten rs){cs:AD}(a:∀x∈cs,x∈yR rs):(zT (jx rs cs)).length<=10:=by
 refine X5 ((YO (jx rs cs)).length_le_of_subset λx c=>?_) t;rw[<- ze5 a];obtain⟨i,j⟩:=x;obtain⟨t,k,h1,h2,b⟩:=QO.mp c;refine QO.mpr ⟨t,k,h1,h2,?_⟩;have:(if (i,j)∈cs then 48+xq rs (i,j) else Je k)=63:=bg b;rw[this];rfl
def Ten.small {rs:AE}(t:Ten rs){cs:AD}(a:∀x∈cs,x∈yR rs):Small (jx rs cs):=λ_ G=>zhB (X5 (t.shut a) (by decide)) G
def Ten.nb {rs:AE}(t:Ten rs){cs:AD}(a:∀x∈cs,x∈yR rs):¬ Big (jx rs cs):=λ⟨c,G,g,d,b⟩=>Nat.not_le.mpr b (t.small a c G g d)
def zno {rs:AE}(R:Rows fdS.cps.toList rs):(yR rs).length<=64:=zam R
structure zdO (H:Hp)(t r p lb:Addr)(ws:AF)(rs:AE)(w:Str)(cs:AD):Prop where
 tp:H t=some (.tup [.str w,.ref r,.ref p])
 rw:H r=some (.lst ws)
 cel:Cel H ws cs
 bd:qc H p lb (jx rs cs) ((stC rs).length:Nat)
def zpB:Sp:=λg H Q _=>∃(l d:Addr) (a:AE) (c:AA),g=[.ref l,.ref d,.str "sure"]/\H l=some (.lst (a.map V.str))/\Rows fdS.cps.toList a/\H d=some (.tup [.int (c.1:Nat),.int (c.2:Nat)])/\c∈yR a/\Ten a /\
 ∀w e,zcf a 65 [c]=some (w,e)->∀(t r p f:Addr) (h:AF) (b:Hp),H t=none->H r=none->H p=none->H f=none->zdO b t r p f h a w e->zB H b->Q (.ref t) b
def cell_in {cs:AD}{c:AA}(h:c∈cs):(if true=true then !(cs.map zo).any (λz=>W5 z (zo c)) else (cs.map zo).any λz=>W5 z (zo c))=false:=by
 rw[bw rfl,zpA,br h];rfl
def QS (cs:AD):(if false=true then !PyData.eqv (.list (cs.map zo)) (.list []) else W5 (.list (cs.map zo)) (.list []))=decide (cs=[]):=by
 rw[bq XT];cases cs with
 | nil=>rfl
 | cons a r=>rfl
def zcD {H:Hp}{a:Addr}{c:AA}(h:H a=some (.tup [.int (c.1:Nat),.int (c.2:Nat)])):Cel H [.ref a] [c]:=.cons ⟨a,rfl,h⟩ .nil
def zbP:zE ["field","first","way","clear","row","board","found"] ["field","first","way"] (zf zbU):=bh
def zq7 (T:Txt mg)(Z:Prog K mg)(D:zbu K mg "run" zbU ["field","first","way"] "sure" f fd):Zn 384 P w K mg base CX0 12 f fd ["field","first","way"] zpB:=by
 obtain⟨aB,aA,an⟩:=Z.clears_of;obtain⟨a7,a6,qW⟩:=Z.cells_with;obtain⟨xo,yy,zv⟩:=Z.cells_of;obtain⟨JM,xj,zu⟩:=Z.sign_at;obtain⟨a2,a1,Y⟩:=Z.board_at;obtain⟨a8,a9,am⟩:=Z.found_clear;have ao:Zn 384 P w K mg base CX0 4 a2 a1 ["field","cells"] ze3:=zhu T Z Y;refine D.F.okT zbP (λvs H Q E h=>?_) (λa4 A ay s H vs Q E hr h=>?_)
 .revert h;refine eZ λl ca a c z0 _=>?_;subst z0;rfl
 .revert h;refine fy λl ca a c z0 hl R O=>eV λhc al q=>?_;subst z0;refine⟨_,(qi (PS.at_ (zC (i:=3) zbP.nd rfl (XF rfl) (pc0 (zfX T an qW zv zu) hr an (za (pvS 0) zb)))) (qi (PS.at_ (jk (zL (zdX hr.units) (pvS 1) (pvS 3) (by rfl)) (zg xQ) ql)) (qi (PS.at_ (zC (i:=4) zbP.nd rfl (XF rfl) (qm (za (pvS 1) zb)))) (qi (zcu (i:=5) zbP.nd rfl (XF rfl) (pct ao hr Y (PA.at_ (za (pvS 0) (za (pvS 4) zb))))) (qi (zkD Xh (zL zc6 (zx zD (by rfl) T.qG Xk (za (pvS 4) zb)) (zx zD (by rfl) T.qG Xk (za (pvS 3) zb)) (qe _)) (qi (PS.at_ (zC (i:=6) zbP.nd rfl (XF rfl) (pc0 (zdL T Z am) hr am (za (pvS 5) (za (pvS 2) zb))))) (qi (PS.at_ (jk (zL (yV hr.units) (pvS 6) (@qm _ _ _ _ zb) (qe _)) (@zg _ _ _ (@zJ _ _ _ _ (@qH _ _ _ _ _ (@za _ _ _ _ _ jv (za (pvS 4) (za (pvS 5) zb)) rfl)))) ql)) (qi (PS.at_ (jA (ZK WR S5 S4 zbk (pvS 4) (za (pvS 6) zb)))) (zgQ (zcu (i:=5) zbP.nd rfl (XF rfl) (pct ao hr Y (PA.at_ (za (pvS 0) (za (pvS 4) zb)))))))))) (PSs.at_ (@zg _ _ _ (@zJ _ _ _ _ (@qH _ _ _ _ _ (@za _ _ _ _ _ jv (za (pvS 4) (za (pvS 5) zb)) rfl)))))))))),?_⟩;(try dsimp only[cxK,cxP,cxW]);refine⟨_,rfl,l,a,rfl,hl,R,λd wd H1 hd ag y s1=>?_⟩;have y:Cel H1 wd (yR a):=y;have ab:=zno R;refine⟨_,rfl,_,rfl,zo c,(yR a).map zo,yL.rdv ⟨ca,rfl,s1 _ _ O⟩,.lst (SqL.of ag) (zaX y),rfl,Ql _,(by show 1<=60;decide),_,rfl,jC (cell_in hc) ?_⟩;refine⟨_,rfl,sz_1,λr z=>?_⟩;have z2:=zd (o:=.lst [.ref ca]) z;have W0:=Way.start ab hc;refine⟨_,rfl,_,rfl,l,r,a,_,[c],rfl,(s1.trans z2) _ _ hl,R,zc,zcD ((s1.trans z2) _ _ O),(by show 1<=64;decide),λx hx=>ze6 R (W0.d.sub x hx),λp M H3 hp ar B3 s3=>?_⟩;have ak:=z2.trans s3;refine⟨λm σ H'=>∃(g:AD) (j:AF) (p M:Addr) (v:Option V),σ=[some (.ref l),some (.ref ca),some (.str "sure"),some (.ref d),some (.ref r),some (.ref p),v]/\zB H1 H'/\H' r=some (.lst j)/\Cel H' j g/\qc H' p M (jx a g) ((stC a).length:Nat)/\H1 p=none/\H1 M=none/\Way a c m g,(dF 65 [c] ⟨_,(eE p M none rfl ak (s3 _ _ zc) (zcD ((s1.trans ak) _ _ O)) (dI B3 (z2.free hp) (z2.free ar) W0))⟩),?_⟩;refine λm σ H4=>fD λg j p M v=>fE λz0 s4 B n=>fJ λB4 ai L W=>?_;subst z0;have G:=s1.trans s4;have aq:=s4 _ _ ag;have wl:=n.length;have dl:=y.length;have cl:=W.d.len;refine⟨_,rfl,r,_,rfl,.inl (SqL.of B),_,rfl,d,_,rfl,.inl (SqL.of aq),_,_,rfl,rfl,_,rfl,?_⟩;by_cases hz:(yR a).length<=g.length
  .refine jC (bf (by lia)) ?_;refine⟨_,rfl,_,rfl,zgP,λt ht=>?_⟩;have z5:=zd (o:=.tup [.str "end",.ref r,.ref p]) ht;exact q _ _ (W.ends hz) t r p M j _ (G.free ht) (s1.free z) (s1.free ai) (s1.free L) ⟨zc,z5 _ _ B,n.mono z5,B4.mono z5⟩ (G.trans z5)
  .refine j9 (br (by lia)) ?_;refine⟨fun aC H'=>∃m',m'<m/\_,λ_ _ h=>h,?_⟩;have RB:Rows bd.cps.toList (jx a g):=zdN R;have nB:=al.nb W.d.sub;refine⟨_,rfl,_,rfl,p,M,jx a g,_,rfl,B4,RB,al.small W.d.sub,SM _,zo1 W.d.sub,λfo N H5 a5 ap u s5=>?_⟩;have u:Cel H5 N (nxt a g):=u;refine⟨_,rfl,ZU,λn0 av=>?_⟩;have z6:=zd (o:=.lst []) av;have k:=s5.trans z6;refine dP (.list ((nxt a g).map zo)) (.list []) (.lst (SqL.of (z6 _ _ ap)) (zaX (u.mono z6))) (.lst (SqL.of zc) .nil) (ziq _ []) ⟨_,rfl,?_⟩;by_cases he:nxt a g=[]
   .refine j9 ((QS _).trans (br he)) ?_;refine⟨_,rfl,_,rfl,zgP,λt ht=>?_⟩;have z7:=zd (o:=.tup [.str "stuck",.ref r,.ref p]) ht;have J:=k.trans z7;exact q _ _ (W.stuck hz nB he) t r p M j _ ((G.trans k).free ht) (s1.free z) (s1.free ai) (s1.free L) ⟨zc,J _ _ B,n.mono J,B4.mono J⟩ (G.trans J)
   .refine jC ((QS _).trans (bf he)) ?_;obtain⟨m',au,W'⟩:=W.step hz nB R he;have aa:(g++nxt a g).length<=64:=X5 W'.d.len ab;have U:=k _ _ B;have ac:=u.mono z6;have ah:=z6 _ _ ap;have af:=n.mono k;have az:=s4.trans k;generalize upd H5 n0 (.lst [])=H6 at *
    refine⟨_,rfl,.inl ⟨rfl,_,SqL.of U⟩,_,rfl,r,fo,j,N,rfl,rfl,U,ah,?_,?_⟩
    .have:=ac.length;rw[XU]at aa;exact X5 (show j.length+N.length<=64 by lia) (by decide)
    have ae:=Cel.into r (.lst (j++N)) U (af.append ac);have aj:upd H6 r (.lst (j++N)) r=some (.lst (j++N)):=zc;have I:zB H1 (upd H6 r (.lst (j++N))):=λb o e=>by
     rw[zp (zj e z)];exact az _ _ e
    generalize upd H6 r (.lst (j++N))=H7 at *
    refine⟨_,rfl,_,rfl,l,r,a,_,_,rfl,(s1.trans I) _ _ hl,R,aj,ae,aa,λx hx=>ze6 R (W'.d.sub x hx),λp2 ax H8 aw a3 B8 s8=>?_⟩;exact dY m' au (dO (g++nxt a g) (dF p2 ax ⟨_,(dJ rfl (I.trans s8) (s8 _ _ aj) (ae.mono s8) (dI B8 (I.free aw) (I.free a3) W'))⟩))
def zo3:Sp:=λe H Q _=>∃(a b:Addr) (c d:AA),e=[.ref a,.ref b]/\H a=some (.tup [.int (c.1:Nat),.int (c.2:Nat)])/\H b=some (.tup [.int (d.1:Nat),.int (d.2:Nat)])/\Q (.bl (Cells.near c d)) H
def zst (i j:Nat):decide ((if ((i:Nat):Int)-((j:Nat):Int)<0 then -(((i:Nat):Int)-((j:Nat):Int)) else ((i:Nat):Int)-((j:Nat):Int))<2)=decide (i<=j+1/\j<=i+1):=by
 rw[decide_eq_decide];split<;>lia
def zhD:zE ["_law_one","_law_other"] ["_law_one","_law_other"] (zf YH):=bh
def zb8 (T:Txt mg)(D:zh K mg "_law_near" YH ["_law_one","_law_other"] f fd):qA P w K mg base CX0 1 f fd ["_law_one","_law_other"] zo3:=by
 refine D.F.ok zhD (λo H Q E h=>?_) (λl A k s H o Q E n h=>?_)
 .revert h;refine eZ λa b c d z0 _=>?_;subst z0;rfl
 .revert h;refine fm λa b c d z0 g i q=>?_;subst z0;refine⟨_,(zg (zJ (zlj (Yu (yW n.units) (pvS 0) (pvS 1) (qe _)) (zlj (Yu zc6 (zx zgb (by rfl) T.zpn OW (za (zK jD (qh qf (pvS 0) zk (λ_ _=>rfl)) (qh qf (pvS 1) zk (λ_ _=>rfl))) zb)) zk (qe _)) (zpQ (Yu zc6 (zx zgb (by rfl) T.zpn OW (za (zK jD (qh qf (pvS 0) zk (λ_ _=>rfl)) (qh qf (pvS 1) zk (λ_ _=>rfl))) zb)) zk (qe _))))))),?_⟩;(try dsimp only[cxK,cxP,cxW]);have p:∀x:Bool,(x=true↔Cells.near c d=true)->Cells.near c d=x:=λx h=>WX.mpr h.symm;have j:=Cells.yI (x:=c) (y:=d);refine⟨_,rfl,_,rfl,zo c,zo d,yL.rdv ⟨a,rfl,g⟩,yL.rdv ⟨b,rfl,i⟩,zeN c d,?_⟩;have m:(if true=true then !PyData.eqv (zo c) (zo d) else W5 (zo c) (zo d))=!decide (c=d):=by
   show (!PyData.eqv _ _)=_;rw[zbD]
  rw[m];refine⟨_,rfl,?_⟩;by_cases e:c=d
  .rw[br e];refine ZD ?_;have:Cells.near c d=false:=by
    rw[W6,ne_eq,j];exact λh=>h.2.2 e
   rw[this]at q;exact q
  .rw[bf e];refine zaA ?_;refine⟨_,rfl,a,_,0,_,rfl,rfl,SqT.of g,rfl,_,rfl,b,_,0,_,rfl,rfl,SqT.of i,rfl,_,_,rfl,rfl,_,rfl,_,_,rfl,rfl,?_⟩;refine⟨decide (c.1<=d.1+1/\d.1<=c.1+1),congrArg V.bl (zst c.1 d.1),?_⟩;by_cases h1:c.1<=d.1+1/\d.1<=c.1+1
   .rw[br h1];refine zaA ⟨_,rfl,a,_,1,_,rfl,rfl,SqT.of g,rfl,_,rfl,b,_,1,_,rfl,rfl,SqT.of i,rfl,_,_,rfl,rfl,_,rfl,_,_,rfl,rfl,?_⟩;have:Cells.near c d=decide (c.2<=d.2+1/\d.2<=c.2+1):=by
     rw[WX,j,bu];exact⟨λh=>h.2.1,λh=>⟨h1,h,e⟩⟩
    show Q (V.bl (decide ((if ((c.2:Nat):Int)-((d.2:Nat):Int)<0 then -(((c.2:Nat):Int)-((d.2:Nat):Int)) else ((c.2:Nat):Int)-((d.2:Nat):Int))<2))) H;rw[zst,<- this];exact q
   .rw[bf h1];refine ZD ?_;have:Cells.near c d=false:=by
     rw[W6,ne_eq,j];exact λh=>h1 h.1
    rw[this]at q;exact q
def zs7:∀v:Nat,v<=8->((v:Nat):Int).natAbs.log2<1920:=by decide+kernel
def hash_eq (k:Nat):decide (V.str ⟨#[k]⟩=V.str "#")=decide (k=35):=by
 rw[Jw];simp only[zah]
def zpD:Sp:=λg H Q _=>∃(l c:Addr) (a:AE) (f:AF) (d:AD),g=[.ref l,.ref c]/\H l=some (.lst (a.map V.str))/\Rows fdS.cps.toList a/\H c=some (.lst f)/\Cel H f d /\
 ∀(p e:Addr) (b:Hp),H p=none->H e=none->qc b p e (jx a d) ((stC a).length:Nat)->zB H b->Q (.ref p) b
def qX:zE ["_law_rows","_law_cells_here","_law_stones","_law_found","_law_row","_law_text","_law_column","_law_sign"] ["_law_rows","_law_cells_here"] (zf xW):=bh
def zfZ (T:Txt mg)(Z:Prog K mg)(D:zh K mg "_law_board" xW ["_law_rows","_law_cells_here"] f fd):qA P w K mg base CX0 2 f fd ["_law_rows","_law_cells_here"] zpD:=by
 obtain⟨Zy,JH,qq⟩:=Z.law_cells;obtain⟨a2,a1,J6⟩:=Z.law_near;refine D.F.ok qX (λvs H Q E h=>?_) (λaw A au s H vs Q E hr h=>?_)
 .revert h;refine eW λl c b ws=>fc λd z0 _=>?_;subst z0;rfl
 .revert h;refine fD λl c b ws d=>e8 λz0 hl R hc hw q=>?_;subst z0;obtain⟨n,n1,n8,J⟩:=R.ex;have az:=R.lo;have ay:=R.hi;obtain⟨M,ac⟩:∃M,b[0]?=some M:=⟨_,X2 (by lia)⟩;have e0:M.length=n:=(J M (X8 ac)).len;have ai:∀{i:Nat} {t:Str},b[i]?=some t->(b.map V.str)[i]?=some (V.str t):=λh=>by rw[Xw,h];rfl
  have rl:(b.map V.str).length=b.length:=Y1 _;refine⟨_,(ze (zC (i:=2) qX.nd rfl (XF rfl) (pc0 (yQ T qq) hr qq (za (pvS 0) (@za _ _ _ _ _ jv zb rfl)))) (@ze _ _ _ _ _ (@zC _ _ 3 _ _ _ _ qX.nd rfl (XF rfl) (@qm _ _ _ _ zb) (by rfl) (.inr rfl)) (ze (qB Xh rfl (yT (by rfl) T.JA (za (zx zD (by rfl) T.qG Xk (za (pvS 0) zb)) zb)) (zq (i:=4) qX.nd rfl (UR rfl)) (@ze _ _ _ _ _ (@zC _ _ 5 _ _ _ _ qX.nd rfl (XF rfl) jv (by rfl) (.inr rfl)) (ze (qB Xh rfl (yT (by rfl) T.JA (za (zx qS (by rfl) T.qG Xk (za (qh jd (pvS 0) zk (λ_ _=>rfl)) zb)) zb)) (zq (i:=6) qX.nd rfl (UR rfl)) (@ze _ _ _ _ _ (@zC _ _ 7 _ _ _ _ qX.nd rfl (XF rfl) (@qh _ _ _ _ _ _ _ jd (@qm _ _ _ _ (@za _ _ _ _ _ jv (@za _ _ _ _ _ jv zb rfl) rfl)) (qI zj4 (by rfl) T.zmn Sb (za (Yu zbQ (qh QD (qh jd (pvS 0) (pvS 4) (λ_ _=>rfl)) (pvS 6) (λ_ _=>rfl)) jv (qe _)) zb)) (λ_ _=>rfl)) (by rfl) (.inr rfl)) (zi9 (jk (zL (zad hr.units) (qH (za (pvS 4) (za (pvS 6) zb))) (pvS 1) (by rfl)) (zg (zC (i:=7) qX.nd rfl (XF rfl) (qI zaz (by rfl) T.zmp R8 (za (zx zD (by rfl) T.qG Xk (za (qz (N:=["_law_one","_law_row","_law_column"]) (src:=[none,some 4,some 6]) (zW.free (O:=(zf xW).names) (XN:=["_law_rows","_law_cells_here","_law_stones","_law_found","_law_row","_law_text","_law_column","_law_sign"]) rfl rfl ⟨_,rfl⟩ rfl rfl (by decide+kernel) (by decide+kernel) (by decide+kernel) rfl (by decide+kernel)) rfl (zO (pvS 2)) (λ_ _ _ _ _=>(zq (i:=0) (by show W9 (["_law_one","_law_row","_law_column"]:AE);decide+kernel) rfl (XF rfl))) (λ_ _ _ _ _=>(qt (QB (K:=K) (by rfl) (pc0 (zb8 T J6) hr J6 (za (pvS 0) (za (qH (za (pvS 1) (za (pvS 2) zb))) zb))) (λ_=>rfl)))) (λ_ _ _ _ _=>(pvS 0))) zb)) zb)))) ql) (zg (zC (i:=5) qX.nd rfl (XF rfl) (zK Yv (pvS 5) (pvS 7))))))) (zg (jA (ZK WR Wn Wm jE (pvS 3) (za (pvS 5) zb))))))) (zg (zJ (qH (za (pvS 3) (za (zx zD (by rfl) T.qG Xk (za (pvS 2) zb)) zb)))))))),?_⟩;(try dsimp only[cxK,cxP,cxW]);refine⟨_,rfl,l,b,_,_,rfl,hl,R,λds wd H0 ax ah aa B=>?_⟩;rw[zhx R]at aa;have ag:=aa.length;have am:(stC b).length<=64:=zam R;refine⟨ZU,λU ab=>?_⟩;have z0:=zd (o:=.lst []) ab;refine⟨_,rfl,l,_,rfl,.inl (SqL.of (z0 _ _ (B _ _ hl))),_,rfl,by lia,by lia,?_⟩;rw[VQ,rl];refine j8 (lo:=0) (n:=b.length) (λi r I=>∃(v3 v4 v5 v6:Option V),r=[some (.ref l),some (.ref c),some (.ref ds),some (.ref U),v3,v4,v5,v6]/\zB H0 I/\I U=some (.lst (((jx b d).take i).map V.str))) ⟨_,_,_,_,rfl,z0,zc⟩ ?_ ?_
  .refine λi r H1 hi=>eW λv3 v4 v5 v6=>eV λz0 s1 e=>?_;subst z0;have g:=B.trans s1;obtain⟨t,ht⟩:∃t,b[i]?=some t:=⟨_,X2 hi⟩;have tl:t.cps.toList.length=n:=by
    rw[X6];exact(J t (X8 ht)).len
   have pl:(zan b d i t).length=n:=(zhy b d i t).trans tl;refine⟨_,rfl,l,_,_,.str M,rfl,rfl,SqL.of (g _ _ hl),Jt (ai ac),M,rfl,R.tlen ac,_,rfl,?_,?_,?_⟩
   .show -(2^62)<=((M.length:Nat):Int);lia
   .show ((M.length:Nat):Int)<2^62;lia
   rw[VQ,e0];refine j8 (lo:=0) (n:=n) (λj r I=>∃(v5 v6:Option V),r=[some (.ref l),some (.ref c),some (.ref ds),some (.ref U),some (.int (0+(i:Int))),some (.str ⟨((zan b d i t).take j).toArray⟩),v5,v6]/\zB H1 I) ⟨_,_,rfl,zB.refl _⟩ ?_ ?_
   .refine λj r H2 hj=>fq λv5 v6=>ff λz0 G=>?_;subst z0;obtain⟨k,hk⟩:∃k,t.cps.toList[j]?=some k:=⟨_,X2 (by lia)⟩;have ae:=g.trans G;refine⟨ZV,λy hy=>?_⟩;have zy:=zd (o:=.lst [.str "?",.str "#"]) hy;have L:=ae.trans zy;refine⟨_,rfl,_,rfl,l,_,_,.str t,rfl,rfl,SqL.of (L _ _ hl),ZE (by lia) (by rw[show ((0:Int)+(i:Int)).toNat=i by lia];exact ai ht),_,rfl,t,_,k,rfl,rfl,R.tlen ht,ZE (by lia) (by rw[show ((0:Int)+(j:Int)).toNat=j by lia];exact hk),rfl,.inr (dZ rfl ⟨y,_,_,.str ⟨#[Je k]⟩,rfl,rfl,SqL.of zc,?_,?_⟩)⟩
    .rw[hash_eq];unfold Je;by_cases u:k=35
     .rw[br u,bw u,<- Jw];rfl
     .rw[bf u,bq u,<- zbE];rfl
    have G:=G.trans zy;have ae:=L;generalize upd H2 y (.lst [.str "?",.str "#"])=I at *
    refine⟨fun an H3=>an=[some (.ref l),some (.ref c),some (.ref ds),some (.ref U),some (.int (0+(i:Int))),some (.str ⟨((zan b d i t).take j).toArray⟩),some (.int (0+(j:Int))),some (.str ⟨#[if (i,j)∈d then 48+xq b (i,j) else Je k]⟩)]/\zB I H3,?_,?_⟩
    .refine⟨_,rfl,_,rfl,ZV,λtp ap=>?_⟩;have z3:=zd (o:=.tup [.int (0+(i:Int)),.int (0+(j:Int))]) ap;have ct:yL (upd I tp (.tup [.int (0+(i:Int)),.int (0+(j:Int))])) (.ref tp) (i,j):=⟨tp,rfl,by rw[zc,UA,UA]⟩;have al:=ae.trans z3;generalize upd I tp (.tup [.int (0+(i:Int)),.int (0+(j:Int))])=H3 at *
     refine⟨_,rfl,zo (i,j),d.map zo,yL.rdv ct,.lst (SqL.of (al _ _ hc)) (zaX (hw.mono al)),rfl,Ql _,(by show 1<=60;decide),_,rfl,?_⟩;by_cases v:(i,j)∈d
     .rw[bw v];refine j9 ((zfY d (i,j)).trans (br v)) ?_;have af:=(s1.trans G).trans z3;refine⟨_,rfl,ds,rfl,⟨_,SqL.of (af _ _ ah)⟩,λz hz=>?_⟩;refine qM (K:=K) (a:=ds) (xs:=wd) (λa=>a≠z) ((stC b).map λx=>if Cells.near x (i,j)=true then some (zo x) else none) (fun r=>∃u0,r=[u0,some (.int (0+(i:Int))),some (.int (0+(j:Int)))]) hz (λ_ h=>h) ⟨_,rfl⟩ (by rw[Y1];exact ag.symm) (by rw[ag];exact X5 am (by decide)) (SqL.of (af _ _ ah)) ?_ ?_
      .rintro m x o r H4 hx ho s4 _ ⟨u0,rfl⟩ Y Z' av no;refine e9 (λy hy ya z0 ak=>?_) (Cel.get (aa.mono (af.trans s4)) hx);subst z0;have eo:=yM hy ho;refine⟨_,rfl,_,rfl,_,rfl,ZV,λtq aq=>?_⟩;have z5:=zd (o:=.tup [.int (0+(i:Int)),.int (0+(j:Int))]) aq;have ao:upd H4 tq (.tup [.int (0+(i:Int)),.int (0+(j:Int))]) tq=some (.tup [.int ((i:Nat):Int),.int ((j:Nat):Int)]):=by rw[zc,UA,UA]
       refine dM ya tq y (i,j) (dI rfl (z5 _ _ ak) ao (dZ rfl ?_));by_cases hn:Cells.near y (i,j)=true
       .rw[bw hn]at eo;exact j9 hn ⟨_,rfl,av _ _ _ _ eo ⟨_,rfl⟩ z5 (yL.rdn ⟨ya,rfl,z5 _ _ ak⟩)⟩
       .rw[bq hn]at eo;exact jC (W6.mpr hn) (no _ _ eo ⟨_,rfl⟩ z5)
      .rintro ys H4 s4 ar aj;rw[qL]at aj;have yl:=(zG.cel aj).length;have yl:ys.length=xq b (i,j):=yl;refine⟨z,_,rfl,.inl (SqL.of ar),_,rfl,?_,?_⟩
       .rw[yl];exact zs7 _ (zbO b (i,j))
       .rw[yl,znb _ (zbO b (i,j))];exact⟨rfl,z3.trans s4⟩
     .rw[bq v];exact jC ((zfY d (i,j)).trans (bf v)) ⟨rfl,z3⟩
    .rintro an H3 ⟨rfl,s3⟩;refine⟨_,rfl,_,rfl,_,_,rfl,rfl,?_,?_⟩
     .have h1:(⟨((zan b d i t).take j).toArray⟩:Str).length<=8:=by
       show ((zan b d i t).take j).toArray.size<=8;rw[Xy,XQ];lia
      exact X5 (show _+1<=9 by lia) (by decide)
     .refine⟨some (.int (0+(j:Int))),some (.str ⟨#[if (i,j)∈d then 48+xq b (i,j) else Je k]⟩),?_,G.trans s3⟩;have e4:(⟨((zan b d i t).take j).toArray⟩:Str)++⟨#[if (i,j)∈d then 48+xq b (i,j) else Je k]⟩=⟨((zan b d i t).take (j+1)).toArray⟩:=by
       refine zfU ?_;rw[show ((⟨((zan b d i t).take j).toArray⟩:Str)++(⟨#[if (i,j)∈d then 48+xq b (i,j) else Je k]⟩:Str)).cps=((zan b d i t).take j).toArray++#[if (i,j)∈d then 48+xq b (i,j) else Je k] from rfl,W3,take_snoc (zcB hk)]
      show [_,_,_,_,_,some (V.str ((⟨((zan b d i t).take j).toArray⟩:Str)++⟨#[if (i,j)∈d then 48+xq b (i,j) else Je k]⟩)),_,_]=_;rw[e4]
   .refine λr H2=>fq λv5 v6=>ff λz0 G=>?_;subst z0;rw[WC (NP pl)];refine⟨_,rfl,.inl ⟨rfl,_,SqL.of (G _ _ e)⟩,_,rfl,U,_,_,rfl,rfl,G _ _ e,?_,?_⟩
    .rw[Y1,XQ,zdM];exact XM (show _<=8 by lia) (by decide)
    .refine dX (dD rfl (λb' o e'=>?_) ?_)
     .rw[zp (zj e' ab)];exact G _ _ (s1 _ _ e')
     .rw[zc,take_snoc (zcC ht),Xj];rfl
  .refine λr H1=>eW λv3 v4 v5 v6=>eV λz0 s1 e=>?_;subst z0;rw[<- zdM b d,XO]at e;refine⟨_,rfl,_,rfl,ds,_,rfl,.inl (SqL.of (s1 _ _ ah)),ZV,λp hp=>?_⟩;rw[ag];have z2:=zd (o:=.tup [.ref U,.int ((stC b).length:Nat)]) hp;have g:=B.trans s1;exact q p U _ (g.free hp) (B.free ab) ⟨zc,z2 _ _ e⟩ (g.trans z2)
section
variable {os:AD}
def dk (os:AD)(φ:AA->Int):KV1:=os.map λo=>(qo o,V.int (φ o))
def zhF {φ ψ:AA->Int}(h:∀o∈os,φ o=ψ o):dk os φ=dk os ψ:=Xf λo a=>by rw[h o a]
def znq {φ:AA->Int}{o:AA}(h:o∈os):jo (dk os φ) (qo o)=some (V.int (φ o)):=by
 induction os with
 | nil=>cases h
 | cons p r a =>
  by_cases e:p=o
  .subst e;exact jN rfl
  .exact(jO λz=>e (J5 z)).trans (a ((XH.mp h).resolve_left λz=>e z.symm))
def zra {φ:AA->Int}{o:AA}{x:Int}(h:o∈os):putK (dk os φ) (qo o) (V.int x)=dk os λp=>if p=o then x else φ p:=by
 unfold putK;rw[bw (show _=true by rw[Y5,znq h];rfl)];unfold dk;rw[WE];refine Xf λp _=>?_;by_cases e:p=o
 .subst e;show (if qo p=qo p then (qo p,V.int x) else _)=(qo p,V.int (if p=p then x else φ p));rw[bw rfl,bw rfl]
 .show (if qo p=qo o then (qo p,V.int x) else (qo p,V.int (φ p)))=(qo p,V.int (if p=o then x else φ p));rw[bq λz=>e (J5 z),bq e]
def zh0 {φ:AA->Int}{o:AA}(h:o ∉ os):putK (dk os φ) (qo o) (V.int (φ o))=dk (os++[o]) φ:=by
 unfold putK;rw[bq]
 .unfold dk;rw[Xj];rfl
 .intro z;obtain⟨b,hk,e⟩:=WF.mp z;obtain⟨p,a,rfl⟩:=XJ.mp hk;exact h (J5 (bg e) ▸ a)
def zo4 (φ:AA->Int):(dk os φ).map (·.2)=(os.map φ).map V.int:=by
 unfold dk;rw[WE,WE];rfl
end
def cN (o:AA)(S:AD):Nat:=(S.filter λx=>Cells.near o x).length
def lf (nm:AA->Int)(S:AD)(o:AA):Int:=nm o-(cN o S:Nat)
def zjQ (o c:AA)(S:AD):cN o (S++[c])=cN o S+(if Cells.near o c=true then 1 else 0):=by
 unfold cN;rw[Xg,XU];congr 1;rw[Xb];split<;>rfl
section
variable (nm:AA->Int)(os cs:AD)(st:Int)
def okC (c:AA)(S:AD):Bool:=decide (0<st-(S.length:Nat))&&os.all λo=>decide (0<=lf nm (S++[c]) o)
def Jg (c:AA)(S:AD):List AD:=S::(if okC nm os st c S=true then [S++[c]] else [])
def JI:Nat->List AD
 | 0=>[[]]
 | k+1=>match cs[k]? with
  | some c=>((JI k).flatMap (Jg nm os st c)).filter λ(S:AD)=>decide (st-(S.length:Nat)<=(cs.length:Nat)-(k:Nat)-1)
  | none=>[]
def ziM:List AD:=(JI nm os cs st cs.length).filter λS=>os.all λo=>decide (lf nm S o<=0)
variable {nm os cs st}
def zcE {c:AA}{S T:AD}:T∈Jg nm os st c S↔T=S\/(okC nm os st c S=true/\T=S++[c]):=by
 unfold Jg;rw[XH];refine or_congr Iff.rfl ?_;by_cases h:okC nm os st c S=true
 .rw[bw h,Wh];exact⟨λz=>⟨h,z⟩,λz=>z.2⟩
 .rw[bq h];exact⟨(λz=>nomatch z),λz=>absurd z.1 h⟩
def sub_snoc {S A:AD}{c:AA}:S.Sublist (A++[c])↔S.Sublist A\/∃T,S=T++[c]/\T.Sublist A:=by
 constructor
 .intro h;obtain⟨d,f,rfl,h1,h2⟩:=List.sublist_append_iff.mp h;cases f with
  | nil =>
   rw[Xa];exact .inl h1
  | cons a r =>
   have b:=h2.length_le;have e:r=[]:=UY.mp (by rw[Xx]at b;have:[c].length=1:=rfl;lia);subst e;have:a=c:=Wh.mp (h2.subset XX);rw[this];exact .inr ⟨d,rfl,h1⟩
 .rintro(h | ⟨T,rfl,h⟩)
  .exact h.trans (Uo _ _)
  .exact h.append (List.Sublist.refl _)
theorem zjR (h0:∀o∈os,0<=nm o)(b:0<=st)(l:st<=(cs.length:Nat)):∀{k:Nat},k<=cs.length->∀{S:AD},S∈JI nm os cs st k↔S.Sublist (cs.take k)/\((S.length:Nat):Int)<=st/\st-(S.length:Nat)<=(cs.length:Nat)-(k:Nat)/\∀o∈os,0<=lf nm S o
 | 0,_,S=>by
  show S ∈ [[]]↔_;rw[Wh,List.take_zero,List.sublist_nil];constructor
  .rintro rfl;refine⟨rfl,b,by simpa using l,λo a=>?_⟩;have:=h0 o a;unfold lf cN;simpa using this
  .exact λh=>h.1
 | k+1,hk,S=>by
  have g:=λ{S}=>zjR h0 b l (k:=k) (by lia) (S:=S);have e:k<cs.length:=by lia
  have j:cs[k]?=some cs[k]:=X2 e;show S∈(match cs[k]? with
   | some c=>((JI nm os cs st k).flatMap (Jg nm os st c)).filter λ(S:AD)=>decide (st-(S.length:Nat)<=(cs.length:Nat)-(k:Nat)-1)
   | none=>[])↔_
  rw[j];have p:cs.take (k+1)=cs.take k++[cs[k]]:=by
   rw[XI,j];rfl
  rw[p,sub_snoc];generalize cs[k]=c at *
  show S∈((JI nm os cs st k).flatMap (Jg nm os st c)).filter _↔_;rw[XS,Vc,bu];constructor
  .rintro⟨⟨T,hT,hS⟩,hb⟩;obtain⟨n,s,v,u⟩:=g.mp hT;rcases zcE.mp hS with rfl | ⟨ok,rfl⟩
   .exact⟨.inl n,s,by lia,u⟩
   .obtain⟨m,r⟩:=WY.mp ok;have m:=bg m;refine⟨.inr ⟨T,rfl,n⟩,?_,by lia,λo a=>bg (WT.mp r o a)⟩;rw[XU];show ((T.length+1:Nat):Int)<=st;lia
  .rintro⟨f | ⟨T,rfl,f⟩,h2,q,d⟩
   .exact⟨⟨S,g.mpr ⟨f,h2,by lia,d⟩,zcE.mpr (.inl rfl)⟩,by lia⟩
   .have i:(T++[c]).length=T.length+1:=by
     rw[XU];rfl
    rw[i]at h2 q;refine⟨⟨T,g.mpr ⟨f,by lia,by lia,λo a=>?_⟩,zcE.mpr (.inr ⟨?_,rfl⟩)⟩,by rw[i];lia⟩
    .have:=d o a;unfold lf at this ⊢;rw[zjQ]at this;split at this<;>lia
    .unfold okC;rw[br (show 0<st-(T.length:Nat) by lia),RS];exact WT.mpr λo a=>br (d o a)
def zjS (h0:∀o∈os,0<=nm o)(d:0<=st)(e:st<=(cs.length:Nat)){S:AD}:S∈ziM nm os cs st↔S.Sublist cs/\((S.length:Nat):Int)=st/\∀o∈os,((cN o S:Nat):Int)=nm o:=by
 unfold ziM;rw[XS,zjR h0 d e (XV _),XO,WT];constructor
 .rintro⟨⟨h1,h2,h3,h4⟩,h5⟩;refine⟨h1,by lia,λo c=>?_⟩;have a:=h4 o c;have b:=bg (h5 o c);unfold lf at a b;lia
 .rintro⟨h1,h2,h3⟩;refine⟨⟨h1,by lia,by lia,λo c=>?_⟩,λo c=>br ?_⟩
  .unfold lf;have:=h3 o c;lia
  .unfold lf;have:=h3 o c;lia
def zjT {c:AA}(L:List AD):(L.flatMap (Jg nm os st c)).length<=2*L.length:=by
 induction L with
 | nil=>exact W4 _
 | cons S r a =>
  rw[List.flatMap_cons,XU,Xx];have:(Jg nm os st c S).length<=2:=by
   unfold Jg;rw[Xx];split
   .exact XV _
   .exact V9 1
  lia
theorem zcF:∀k:Nat,(JI nm os cs st k).length<=2^k
 | 0=>XV _
 | k+1=>by
  have a:=zcF k;show (match cs[k]? with
   | some c=>((JI nm os cs st k).flatMap (Jg nm os st c)).filter λ(S:AD)=>decide (st-(S.length:Nat)<=(cs.length:Nat)-(k:Nat)-1)
   | none=>[]).length<=_
  cases cs[k]? with
  | none=>exact W4 _
  | some c =>
   refine X5 (Xi _ _) (X5 (zjT _) ?_);rw[UB];lia
def zhG {k:Nat}{c:AA}(h:cs[k]?=some c):JI nm os cs st (k+1)=((JI nm os cs st k).flatMap (Jg nm os st c)).filter λ(S:AD)=>decide (st-(S.length:Nat)<=(cs.length:Nat)-(k:Nat)-1):=by
 show (match cs[k]? with
   | some c=>((JI nm os cs st k).flatMap (Jg nm os st c)).filter λ(S:AD)=>decide (st-(S.length:Nat)<=(cs.length:Nat)-(k:Nat)-1)
   | none=>[])=_
 rw[h]
theorem ze8:∀{k:Nat} {S:AD},S∈JI nm os cs st k->S.length<=k
 | 0,S,h=>by rw[Wh.mp (show S ∈ [[]] from h)];exact XV _
 | k+1,S,h=>by
  cases e:cs[k]? with
  | none =>
   have h:S∈(match cs[k]? with
    | some c=>((JI nm os cs st k).flatMap (Jg nm os st c)).filter λ(S:AD)=>decide (st-(S.length:Nat)<=(cs.length:Nat)-(k:Nat)-1)
    | none=>[]):=h
   rw[e]at h;cases h
  | some c =>
   rw[zhG e]at h;obtain⟨T,b,a⟩:=Vc.mp (XS.mp h).1;have:=ze8 b;rcases zcE.mp a with rfl | ⟨_,rfl⟩
   .lia
   .rw[XU];show T.length+1<=k+1;lia
end
def WyZ (N:Addr->Prop)(nm:AA->Int)(os:AD)(st:Int)(H:Hp)(v:V)(S:AD):Prop :=
 ∃(t a d:Addr) (b:AF),v=.ref t/\N a/\H t=some (.tup [.ref a,.ref d,.int (st-(S.length:Nat))])/\H a=some (.lst b)/\Cel H b S/\H d=some (.dT (dk os (lf nm S)))
def LsZ (N:Addr->Prop)(H:Hp)(v:V)(S:AD):Prop:=∃(a:Addr) (b:AF),v=.ref a/\N a/\H a=some (.lst b)/\Cel H b S
section
variable {nm:AA->Int}{os:AD}{st:Int}{H H':Hp}{N:Addr->Prop}{v:V}{S:AD}{vs:AF}{Ss:List AD}
theorem WyZ.mono (s:zB H H')(h:WyZ N nm os st H v S):WyZ N nm os st H' v S:=by
 revert h;refine fH λt a d f e n h1 h2 b c=>?_;exact dM t a d f (dG e n (s _ _ h1) (s _ _ h2) (b.mono s) (s _ _ c))
theorem WyZ.into {z:Addr}{b new:AF}(hz:H z=some (.lst b))(h:WyZ (· ≠ z) nm os st H v S):WyZ (· ≠ z) nm os st (upd H z (.lst new)) v S:=by
 revert h;refine fH λt a d g e n h1 h2 f c=>?_;refine dM t a d g (dG e n ?_ ?_ (Cel.into z _ hz f) ?_)
 .rw[zp (QW h1 hz (by intro z;cases z))];exact h1
 .rw[zp n];exact h2
 .rw[zp (QW c hz (by intro z;cases z))];exact c
def WyZ.away {z:Addr}(hz:H z=none)(h:WyZ N nm os st H v S):WyZ (· ≠ z) nm os st H v S:=by
 revert h;refine fH λt a d f e n h1 h2 b c=>?_;exact dM t a d f (dG e (zj h2 hz) h1 h2 b c)
def WyZ.any (h:WyZ N nm os st H v S):WyZ (λ_=>True) nm os st H v S:=by
 revert h;refine eW λt a d b=>eV λe _ h=>?_;exact dM t a d b (dD e trivial h)
theorem LsZ.mono (s:zB H H')(h:LsZ N H v S):LsZ N H' v S:=by
 obtain⟨a,c,e,n,h2,b⟩:=h;exact⟨a,c,e,n,s _ _ h2,b.mono s⟩
theorem LsZ.into {z:Addr}{b new:AF}(hz:H z=some (.lst b))(h:LsZ (· ≠ z) H v S):LsZ (· ≠ z) (upd H z (.lst new)) v S:=by
 obtain⟨a,d,e,n,h2,c⟩:=h;exact⟨a,d,e,n,by rw[zp n];exact h2,Cel.into z _ hz c⟩
def znr (d:∀c∈os,c.1<8/\c.2<8)(φ:AA->Int):L2.Small ((dk os φ).map (·.1)):=λk hk=>by
 obtain⟨e,a,rfl⟩:=XJ.mp hk;obtain⟨o,b,rfl⟩:=XJ.mp a;exact⟨o.1,o.2,(d o b).1,(d o b).2,rfl⟩
def zjU (φ:AA->Int):([.int 0]++(dk os φ).map (·.2):AF)=(0::os.map φ).map V.int:=by
 rw[zo4];rfl
def zns {φ:AA->Int}{m:Int}(c:m∈0::os.map φ)(b:∀x∈0::os.map φ,m<=x):decide (0<=m)=os.all λo=>decide (0<=φ o):=by
 rw[WX,bu,WT];constructor
 .intro h o a;have:=b _ (XY _ (XJ.mpr ⟨o,a,rfl⟩));exact br (by lia)
 .intro h;rcases XH.mp c with e | e
  .lia
  .obtain⟨o,a,rfl⟩:=XJ.mp e;exact bg (h o a)
def zo5 {φ:AA->Int}{m:Int}(c:m∈0::os.map φ)(b:∀x∈0::os.map φ,x<=m):decide (V.int m=V.int 0)=os.all λo=>decide (φ o<=0):=by
 rw[WX,bu,WT];have h0:=b 0 XX;constructor
 .intro h o a;have:=b _ (XY _ (XJ.mpr ⟨o,a,rfl⟩));have:=V.int.inj h;exact br (by lia)
 .intro h;rcases XH.mp c with e | e
  .rw[e]
  .obtain⟨o,a,rfl⟩:=XJ.mp e;have:=bg (h o a);rw[show φ o=0 by lia]
end
def zf0 {α c:Type}{F:α->c->Prop}{l:List α}{r:List c}(h:W2 F l r):∀{i:Nat} {a:α},l[i]?=some a->∃b,r[i]?=some b/\F a b:=by
 induction h with
 | nil=>exact λe=>by simp at e
 | cons q _ d =>
  intro i a e;cases i with
  | zero =>
   cases e;exact⟨_,rfl,q⟩
  | succ i=>exact d (by simpa using e)
def zo6:∀k∈bd.cps.toList,pIn "012345678" k=Z0 k:=by decide+kernel
def zo7:∀k∈bd.cps.toList,pIn "?" k=J0 k:=by decide+kernel
def zlc {rs:AE}(R:Rows bd.cps.toList rs):Cells.zF (pIn "012345678") 0 (codes rs)=zw rs:=Qq 0 _ λt a k hk=>zo6 k (zbd R a hk)
def zld {rs:AE}(R:Rows bd.cps.toList rs):Cells.zF (pIn "?") 0 (codes rs)=zT rs:=Qq 0 _ λt a k hk=>zo7 k (zbd R a hk)
def ze9:∀k∈bd.cps.toList,Z0 k=true->48<=k/\k<=56:=by decide+kernel
def zsu:Sp:=λh H Q _=>∃(e l:Addr) (b:AE) (st:Int) (c:AD) (f:AF),h=[.ref e,.ref l,.int st]/\H e=some (.lst f)/\Cel H f c/\c.length<=10/\H l=some (.lst (b.map V.str))/\Rows bd.cps.toList b /\
 ∀(d:Addr) (g:AF) (a:Hp),H d=none->a d=some (.lst g)->W2 (LsZ (λ_=>True) a) g (ziM (zQ b) (zw b) c st)->zB H a->Q (.ref d) a
def zZ:zE ["_law_cells_here","_law_rows","_law_stones","_law_open_ones","_law_left","_law_one","_law_found","_law_k","_law_cell","_law_longer","_law_some","_law_told","_law_many","_law_lower"] ["_law_cells_here","_law_rows","_law_stones"] (zf yj):=bh
def zdQ (T:Txt mg)(Z:Prog K mg)(D:zh K mg "_law_choices" yj ["_law_cells_here","_law_rows","_law_stones"] f fd):qA P w K mg base CX0 2 f fd ["_law_cells_here","_law_rows","_law_stones"] zsu:=by
 obtain⟨Zy,JH,qq⟩:=Z.law_cells;obtain⟨bV,bU,J6⟩:=Z.law_near;refine D.F.ok zZ (λvs H Q E h=>?_) (λbS A bO s H vs Q E hr h=>?_)
 .revert h;refine eW λca l r st=>fq λcs wc=>ff λz0 _=>?_;subst z0;rfl
 .revert h;refine eW λca l r st=>eY λcs wc z0 b7 aF b5=>eV λhl R q=>?_;subst z0;refine⟨_,(ze (xJ (i:=3) zZ.nd rfl rfl (N:=["_law_cell"]) (src:=[none]) (zW.plain rfl (by decide+kernel) (by decide+kernel) (by decide+kernel) rfl (by decide)) rfl (zO (pc0 (yQ T qq) hr qq (za (pvS 1) (@za _ _ _ _ _ jv zb rfl)))) (λ_ _ _ _ _=>(zq (i:=0) (by show W9 (["_law_cell"]:AE);decide+kernel) rfl (XF rfl))) (λ_ _ _ _ _=>qQ) (λ_ _ _ _ _=>(pvS 0))) (@ze _ _ _ _ _ (@zC _ _ 4 _ _ _ _ zZ.nd rfl (XF rfl) zgw (by rfl) (.inr rfl)) (ze (qB Xh rfl (zO (pvS 3)) (zq (i:=5) zZ.nd rfl (XF rfl)) (zg (zcp (u1 hr.units) (pvS 4) (pvS 5) (qI zaD (by rfl) T.zmn Sb (za (qh QD (qh jd (pvS 1) (qh qf (pvS 5) zk (λ_ _=>rfl)) (λ_ _=>rfl)) (qh qf (pvS 5) zk (λ_ _=>rfl)) (λ_ _=>rfl)) zb)) rfl))) (@ze _ _ _ _ _ (@zC _ _ 6 _ _ _ _ zZ.nd rfl (XF rfl) (@qm _ _ _ _ (@za _ _ _ _ _ (@qH _ _ _ _ _ (@za _ _ _ _ _ (@qm _ _ _ _ zb) (za (pvS 4) (za (pvS 2) zb)) rfl)) zb rfl)) (by rfl) (.inr rfl)) (ze (qB Xh rfl (xS (by rfl) T.qY (za (pvS 0) zb)) (JO rfl (zR (zq (i:=7) zZ.nd rfl (UR rfl)) (zR (zq (i:=8) zZ.nd rfl (XF rfl)) jB))) (@ze _ _ _ _ _ (@zC _ _ 9 _ _ _ _ zZ.nd rfl (XF rfl) (@qm _ _ _ _ zb) (by rfl) (.inr rfl)) (ze (qB Xh rfl (zO (pvS 6)) (JO rfl (zR (zq (i:=10) zZ.nd rfl (XF rfl)) (zR (zq (i:=11) zZ.nd rfl (XF rfl)) (zR (zq (i:=12) zZ.nd rfl (XF rfl)) jB)))) (ze (jA (ZK WR Wn Wm jE (pvS 9) (za (qH (za (pvS 10) (za (pvS 11) (za (pvS 12) zb)))) zb))) (ze (zC (i:=13) zZ.nd rfl (XF rfl) (qI (zcW hr.units) (by rfl) T.zfC T1 (za (pvS 11) zb))) (ze (qB Xh rfl (zO (pvS 3)) (zq (i:=5) zZ.nd rfl (XF rfl)) (zg (jk (JP (pc0 (zb8 T J6) hr J6 (za (pvS 5) (za (pvS 8) zb))) (λ_=>rfl)) (zg (zcp (u1 hr.units) (pvS 13) (pvS 5) (zK jD (zco (u1 hr.units) (pvS 13) (pvS 5) (λ_ _=>rfl)) zk) rfl)) ql))) (zg (jk (PW.pt (zli (zL zif (pvS 12) zk (qe _)) (zi2 (zL zqs (zx (zkE hr.hd) (by rfl) T.zjx TN (@za _ _ _ _ _ (@zK _ _ _ _ _ _ _ _ Y4 (@qm _ _ _ _ (@za _ _ _ _ _ zk zb rfl)) (qI (zbX hr.hd) (by rfl) T.zbC Vo (za (zfl SG S6 PP zeH (pvS 13)) zb))) zb rfl)) zk (qe _))))) (zg (jA (ZK WR Wn Wm jE (pvS 9) (za (qH (za (zK Y4 (pvS 10) (qm (za (pvS 8) zb))) (za (pvS 13) (za (zK jD (pvS 12) zk) zb)))) zb)))) ql)))))) (zg (xJ (i:=6) zZ.nd rfl rfl (N:=["_law_row","_law_k","_law_cells_here"]) (src:=[none,some 7,some 0]) (zW.free (O:=(zf yj).names) (XN:=["_law_cells_here","_law_rows","_law_stones","_law_open_ones","_law_left","_law_one","_law_found","_law_k","_law_cell","_law_longer","_law_some","_law_told","_law_many","_law_lower"]) rfl rfl ⟨_,rfl⟩ rfl rfl (by decide+kernel) (by decide+kernel) (by decide+kernel) rfl (by decide+kernel)) rfl (zO (pvS 9)) (λ_ _ _ _ _=>(zq (i:=0) (by show W9 (["_law_row","_law_k","_law_cells_here"]:AE);decide+kernel) rfl (XF rfl))) (λ_ _ _ _ _=>(qt (zL JY (qh (zl5 (K:=K) (by rfl)) (pvS 0) zk (λ_ _=>rfl)) (zK jD (zK jD (zx (Qc (K:=K) (by rfl)) (by rfl) T.qG Xk (za (pvS 2) zb)) (pvS 1)) zk) (qe _)))) (λ_ _ _ _ _=>(pvS 0))))))) (zg (zJ (qz (N:=["_law_some","_law_told","_law_many"]) (src:=[none,none,none]) (zW.plain rfl (by decide+kernel) (by decide+kernel) (by decide+kernel) rfl (by decide)) rfl (zO (pvS 6)) (λ_ _ _ _ _=>(zaC (n:=3) (K:=K) (by rfl) rfl (zR (zq (i:=0) (by show W9 (["_law_some","_law_told","_law_many"]:AE);decide+kernel) rfl (XF rfl)) (zR (zq (i:=1) (by show W9 (["_law_some","_law_told","_law_many"]:AE);decide+kernel) rfl (XF rfl)) (zR (zq (i:=2) (by show W9 (["_law_some","_law_told","_law_many"]:AE);decide+kernel) rfl (XF rfl)) jB))))) (λ_ _ _ _ _=>(qt (zL zbQ (zx (zih (K:=K) (by rfl) hr.hd) (by rfl) T.zmo Sa (@za _ _ _ _ _ (@zK _ _ _ _ _ _ _ _ Y4 (@qm _ _ _ _ (@za _ _ _ _ _ zk zb rfl)) (qI (zbX hr.hd) (by rfl) T.zbC Vo (za (zoe (K:=K) (by rfl) SG S6 PP zeH (pvS 1)) zb))) zb rfl)) zk (qe _)))) (λ_ _ _ _ _=>(pvS 0)))))))))),?_⟩;(try dsimp only[cxK,cxP,cxW]);refine⟨_,rfl,l,r,_,_,rfl,hl,R,λd1 w1 H1 _ ba aE s1=>(dU d1 rfl ⟨_,SqL.of ba⟩ (λoo bm=>?_))⟩;rw[zlc R]at aE;have nd:(zw r).Nodup:=yg (Cells.jQ _ 0 (codes r));have bM:(zw r).length<=64:=qN (p:=Z0) R;have bN:∀c∈zw r,c.1<8/\c.2<8:=λc hc=>by
   obtain⟨t,k,h1,h2,_⟩:=zY hc;have a:=(XZ.mp h1).1;have b:=(XZ.mp h2).1;have e:=R.hi;have f:=R.short _ (X8 (qJ h1));lia
  refine qj (K:=K) (a:=d1) (xs:=w1) (λi u B=>∃(u0:Option V) (ys:AF),u=[u0]/\zB H1 B/\B oo=some (.lst ys)/\Cel B ys ((zw r).take i)) ⟨_,[],rfl,zd bm,zc,.nil⟩ (λi u B _ ⟨_,_,_,s6,_⟩=>SqL.of (s6 _ _ ba)) ?_ ?_
  .refine λi x u H2 hx=>eU λu0 ys z0 s2 bp aW=>?_;subst z0;refine e9 (λo ho oa z0 Y=>?_) (Cel.get (aE.mono s2) hx);subst z0;have yl:=aW.length;rw[XQ]at yl;refine xH ⟨_,rfl,ys,bp,XM (show _<=64 by lia) (by decide),_,ys++[.ref oa],rfl,λb o' e'=>?_,zc,?_⟩
   .rw[zp (zj e' bm)];exact s2 _ _ e'
   .rw[XI,ho];exact zbb bp aW Y
  refine λu H2=>eU λu0 wo z0 s2 a1 ay=>?_;subst z0;rw[aE.length,XO]at ay;have b0:=s1.trans s2;intro lt bi;have z3:=zd (o:=.dT []) bi;refine⟨_,rfl,oo,rfl,⟨_,SqL.of (z3 _ _ a1)⟩,?_⟩;refine jM (K:=K) (a:=oo) (xs:=wo) (λi u B=>∃v,u=[some (.ref ca),some (.ref l),some (.int st),some (.ref oo),some (.ref lt),v,none,none,none,none,none,none,none,none]/\zB H2 B/\B lt=some (.dT (dk ((zw r).take i) (zQ r)))) ⟨_,rfl,z3,zc⟩ (λi u B _ ⟨_,_,s6,_⟩=>SqL.of (s6 _ _ a1)) ?_ ?_
  .refine λi x u H4 hx=>fk λv=>eV λz0 s4 ag=>?_;subst z0;refine e9 (λo ho oa z0 Y=>?_) (Cel.get (ay.mono s4) hx);subst z0;have om:=X8 ho;refine eU (λt k ht hk J es=>?_) (zY om);refine fk (λn=>eV λ_ _ bo=>?_) R.ex;have bC:=(bo t (X8 ht)).mem k (X8 hk);obtain⟨k1,k2⟩:=ze9 k bC J;have b6:(r.map V.str)[o.1]?=some (V.str t):=by rw[Xw,ht];rfl
   have bD:=(b0.trans s4) _ _ hl;refine⟨_,rfl,_,rfl,oa,_,0,_,rfl,rfl,SqT.of Y,rfl,l,_,_,.str t,rfl,rfl,SqL.of bD,Jt b6,_,rfl,oa,_,1,_,rfl,rfl,SqT.of Y,rfl,t,_,k,rfl,rfl,R.tlen ht,Jt hk,_,_,rfl,int_sign k1 k2,(by show 1<=640;decide),_,rfl,_,rfl,lt,_,rfl,zgu.t (k:=qo o) ag Y ?_,?_⟩
   .refine XM (show _<=64 from ?_) (by decide);unfold dk;rw[Y1,XQ];lia
   .refine⟨_,rfl,λb o' e'=>?_,?_⟩
    .rw[zp (zj e' bi)];exact s4 _ _ e'
    .rw[zc,XI,ho];have en:(k:Int)-48=zQ r o:=by
      unfold zQ;rw[es]
     have ni:o ∉ (zw r).take i:=λhm=>by
      have h1:=List.nodup_iff_pairwise_ne.mp nd;rw[<- WU i (zw r)]at nd;have hd:o∈(zw r).drop i:=by
       refine X8 (i:=0) ?_;rw[T8];exact ho
      exact(WD.mp nd).2.2 o hm o hd rfl
     rw[en];exact congrArg (λz=>some (HO.dT z)) (zh0 ni)
  refine λu H4=>fk λv5=>eV λz0 s4 ag=>?_;subst z0;rw[ay.length,XO]at ag;refine⟨ZU,λe0 b9=>?_⟩;have z5:=zd (o:=.lst []) b9;refine⟨_,rfl,_,rfl,zgP,λt0 bF=>⟨sz_1,λf0 bA=>?_⟩⟩;have z6:=zd (o:=.tup [.ref e0,.ref lt,.int st]) bF;have z7:=zd (o:=.lst [.ref t0]) bA;have aO:=z5.trans (z6.trans z7);have W0:W2 (WyZ (λ_=>True) (zQ r) (zw r) st (upd (upd (upd H4 e0 (.lst [])) t0 (.tup [.ref e0,.ref lt,.int st])) f0 (.lst [.ref t0]))) [.ref t0] (JI (zQ r) (zw r) cs st 0):=by
   refine .cons (dM t0 e0 lt [] (dG rfl trivial ?_ ((z6.trans z7) _ _ zc) (.nil) ?_)) .nil
   .rw[z7 _ _ zc];show _=some (HO.tup [.ref e0,.ref lt,.int (st-((0:Nat):Int))]);rw[show st-((0:Nat):Int)=st by lia]
   .rw[aO _ _ ag];refine congrArg (λz=>some (HO.dT z)) (zhF λo _=>?_);unfold lf cN;show zQ r o=zQ r o-((0:Nat):Int);lia
  have bB:upd (upd (upd H4 e0 (.lst [])) t0 (.tup [.ref e0,.ref lt,.int st])) f0 (.lst [.ref t0]) f0=some (.lst [.ref t0]):=zc;have a7:=s4.trans aO;generalize upd (upd (upd H4 e0 (.lst [])) t0 (.tup [.ref e0,.ref lt,.int st])) f0 (.lst [.ref t0])=H7 at *
  have a5:=b0.trans a7;have ax:=a5 _ _ b7;have aX:=aF.mono a5;have bn:=a7 _ _ a1;have aY:=ay.mono a7;clear aO z5 z6 z7 ag s4 z3 a7;refine⟨_,rfl,ca,rfl,⟨_,SqL.of ax⟩,?_⟩;refine yX (K:=K) (l:=ca) (xs:=wc) (λk u B=>∃(fl:Addr) (vs:AF) (v5 v7 v8 v9 am an ao ap:Option V),u=[some (.ref ca),some (.ref l),some (.int st),some (.ref oo),some (.ref lt),v5,some (.ref fl),v7,v8,v9,am,an,ao,ap]/\zB H7 B/\B fl=some (.lst vs)/\W2 (WyZ (λ_=>True) (zQ r) (zw r) st B) vs (JI (zQ r) (zw r) cs st k))
   ⟨f0,(dX (eS (dI rfl (zB.refl _) bB W0)))⟩ (λi u B _ ⟨_,_,_,_,_,_,_,_,_,_,_,s8,_⟩=>SqL.of (s8 _ _ ax)) ?_ ?_
  .refine λk x tt u H8 hx bJ=>fj λfl vs v5 v7 v8 v9 am an=>eU λao ap z0 s8 af W8=>?_;subst z0;refine e9 (λc hc ae z0 a9=>?_) (Cel.get (aX.mono s8) hx);subst z0;have kl:=(XZ.mp hc).1;have z9:=zd (o:=.tup [.int (k:Int),.ref ae]) bJ;refine dR tt rfl (SqT.of zc) rfl rfl rfl rfl ?_;refine⟨ZU,λz hz=>?_⟩;have bR:=zd (o:=.lst []) hz;have aD:=z9.trans bR;have bt:upd (upd H8 tt (.tup [.int (k:Int),.ref ae])) z (.lst []) z=some (.lst []):=zc;have aN:H8 z=none:=z9.free hz;have Wz:W2 (WyZ (· ≠ z) (zQ r) (zw r) st H8) vs (JI (zQ r) (zw r) cs st k):=Paired.imp' (λa b h=>h.away aN) W8;generalize upd (upd H8 tt (.tup [.int (k:Int),.ref ae])) z (.lst [])=H10 at *
   have aA:=s8 _ _ bn;have aZ:=aY.mono s8;have bQ:=Wz.length;have w2:=zcF (nm:=zQ r) (os:=zw r) (cs:=cs) (st:=st) k;have w3:2^k<=2^10:=V3 (by decide) (by lia);have w4:(2:Nat)^10=1024:=rfl;have big:∀i,(((JI (zQ r) (zw r) cs st k).take i).flatMap (Jg (zQ r) (zw r) st c)).length<=2048:=λi=>by
    refine X5 (zjT _) ?_;rw[XQ];lia
   refine⟨_,rfl,fl,rfl,⟨_,SqL.of (aD _ _ af)⟩,?_⟩;refine jM (K:=K) (a:=fl) (xs:=vs) (λi u B=>∃(ys:AF) (v5 am an ao ap:Option V),u=[some (.ref ca),some (.ref l),some (.int st),some (.ref oo),some (.ref lt),v5,some (.ref fl),some (.int (k:Int)),some (.ref ae),some (.ref z),am,an,ao,ap]/\zB H8 B/\B z=some (.lst ys)/\W2 (WyZ (· ≠ z) (zQ r) (zw r) st B) ys (((JI (zQ r) (zw r) cs st k).take i).flatMap (Jg (zQ r) (zw r) st c)))
    ⟨[],(eS (dI rfl aD bt (.nil)))⟩ (λi u B _ ⟨_,_,_,_,_,_,_,ab,_⟩=>SqL.of (ab _ _ af)) ?_ ?_
   .refine λi x u au hx=>eW λys v5 am an=>eU λao ap z0 ab I aw=>?_;subst z0;refine fc (λS hS=>fH λt a d ws z0 na bI aV az be=>?_) (zf0 Wz hx);subst z0;have yl:=aw.length;have yb:=big i;have Sl:S.length<=10:=by
     have:=ze8 (X8 hS);lia
    refine eN t rfl (SqT.of (ab _ _ bI)) rfl rfl (eO rfl (eH rfl rfl ?_));refine⟨_,rfl,.inl ⟨rfl,_,SqL.of I⟩,_,rfl,_,rfl,_,rfl,zgP,λt2 bG=>?_⟩;have aj:=zd (o:=.tup [.ref a,.ref d,.int (st-(S.length:Nat))]) bG;refine⟨z,ys,_,rfl,rfl,aj _ _ I,XM (show _<=2048 by lia) (by decide),?_⟩;have b4:=Paired.snoc (Paired.imp' (λ_ _ h=>WyZ.into (new:=ys++[.ref t2]) (aj _ _ I) (h.mono aj)) aw) (WyZ.into (new:=ys++[.ref t2]) (aj _ _ I) (show WyZ (· ≠ z) (zQ r) (zw r) st _ (.ref t2) S from (dM t2 a d ws (dG rfl na zc (aj _ _ (ab _ _ aV)) (az.mono (ab.trans aj)) (aj _ _ (ab _ _ be))))));have a3:zB H8 (upd (upd au t2 (.tup [.ref a,.ref d,.int (st-(S.length:Nat))])) z (.lst (ys++[.ref t2]))):=λb o e=>by
     rw[zp (zj e aN)];exact aj _ _ (ab _ _ e)
    have bv:upd (upd au t2 (.tup [.ref a,.ref d,.int (st-(S.length:Nat))])) z (.lst (ys++[.ref t2])) z=some (.lst (ys++[.ref t2])):=zc;generalize upd (upd au t2 (.tup [.ref a,.ref d,.int (st-(S.length:Nat))])) z (.lst (ys++[.ref t2]))=H13 at *
    refine⟨_,rfl,d,_,rfl,a3 _ _ be,znr bN _,λd2 bc=>?_⟩;have b1:=zd (o:=.dT (dk (zw r) (lf (zQ r) S))) bc;refine⟨_,rfl,oo,rfl,⟨_,SqL.of ((a3.trans b1) _ _ aA)⟩,?_⟩;refine jM (K:=K) (a:=oo) (xs:=wo) (λj u B=>∃(v5:Option V) (φ:AA->Int),u=[some (.ref ca),some (.ref l),some (.int st),some (.ref oo),some (.ref lt),v5,some (.ref fl),some (.int (k:Int)),some (.ref ae),some (.ref z),some (.ref a),some (.ref d),some (.int (st-(S.length:Nat))),some (.ref d2)]/\zB H13 B/\B d2=some (.dT (dk (zw r) φ))/\(∀p∈(zw r).take j,φ p=lf (zQ r) (S++[c]) p)/\(∀p∈(zw r).drop j,φ p=lf (zQ r) S p))
     (dH (dJ rfl b1 zc (λ_ h=>nomatch h) (λ_ _=>rfl))) (λi u B _ ⟨_,_,_,ac,_⟩=>SqL.of ((a3.trans ac) _ _ aA)) ?_ ?_
    .refine λj y u aQ hy=>eY λbP φ z0 ac G f1 f2=>?_;subst z0;have ah:=a3.trans ac;refine e9 (λo ho oa z0 Y=>?_) (Cel.get (aZ.mono ah) hy);subst z0;have om:=X8 ho;have et:(zw r).take (j+1)=(zw r).take j++[o]:=by
      rw[XI,ho];rfl
     have jl:=(XZ.mp ho).1;have eo:(zw r)[j]=o:=(XZ.mp ho).2;have ed:(zw r).drop j=o::(zw r).drop (j+1):=by
      rw[<- eo];exact WL jl
     have bx:=nd;rw[<- WU j (zw r),ed]at bx;refine eV (λ_ n2 n3=>?_) (WD.mp bx);have no:o ∉ (zw r).drop (j+1):=(Wf.mp n2).1;have fo:φ o=lf (zQ r) S o:=f2 o (by rw[ed];exact XX);have sn:=zjQ o c S;refine⟨_,rfl,_,rfl,oa,ae,o,c,rfl,Y,ah _ _ a9,_,rfl,?_⟩;by_cases hn:Cells.near o c=true
     .have g:=zcb.t (k:=qo o) G Y;rw[znq om]at g;rw[bw hn]at sn;refine j9 hn ⟨_,rfl,_,rfl,d2,_,rfl,g,_,_,rfl,rfl,_,rfl,_,rfl,d2,_,rfl,zgu.t (k:=qo o) G Y ?_,?_⟩
      .refine XM (show _<=64 from ?_) (by decide);unfold dk;rw[Y1];exact bM
      .refine⟨_,(dN (λp=>if p=o then φ o-1 else φ p) rfl (λb o' e'=>?_) (by rw[zc,zra om]) (λp J=>?_) (λp J=>?_))⟩
       .rw[zp (zj e' bc)];exact ac _ _ e'
       .rw[et]at J;rcases XG.mp J with h | h
        .have:p≠o:=λe=>n3 p h o XX e;show (if p=o then _ else _)=_;rw[bq this];exact f1 p h
        .rw[Wh.mp h];show (if o=o then _ else _)=_;rw[bw rfl,fo];unfold lf;rw[sn];lia
       .have:p≠o:=λe=>no (e ▸ J);show (if p=o then _ else _)=_;rw[bq this];exact f2 p (by rw[ed];exact XY _ J)
     .rw[bq hn]at sn;refine jC (W6.mpr hn) ⟨_,(dN φ rfl ac G (λp J=>?_) (λp J=>f2 p (by rw[ed];exact XY _ J)))⟩;rw[et]at J;rcases XG.mp J with h | h
      .exact f1 p h
      .rw[Wh.mp h,fo];unfold lf;rw[sn];rfl
    refine λu aQ=>eY λbP φ z0 ac G f1 _=>?_;subst z0;rw[ay.length,XO]at f1;rw[zhF f1]at G;clear f1;have ef:((JI (zQ r) (zw r) cs st k).take (i+1)).flatMap (Jg (zQ r) (zw r) st c)=((JI (zQ r) (zw r) cs st k).take i).flatMap (Jg (zQ r) (zw r) st c)++Jg (zQ r) (zw r) st c S:=by
     rw[XI,hS,List.flatMap_append];congr 1;exact Xa _
    have ah:=a3.trans ac;have aT:=Paired.imp' (λ_ _ h=>h.mono ac) b4;have aB:=ac _ _ bv;refine⟨_,rfl,_,_,rfl,rfl,_,rfl,?_⟩;by_cases hm:0<st-(S.length:Nat)
    .refine j9 (br hm) ?_;refine⟨sz_1,λx1 aa=>⟨_,rfl,.inr (.inr (.inl ⟨rfl,.inr ⟨_,zd aa _ _ G⟩⟩)),d2,_,rfl,rfl,zd aa _ _ G,λx2 al=>(dF x2 d2 ⟨_,(dI rfl zc (zd al _ _ (zd aa _ _ G)) (λx3 a2=>(eL x1 x3 (dG rfl rfl (zd a2 _ _ (zd al _ _ zc)) zc ?_ (λx4 aJ=>?_)))))⟩)⟩⟩
     .unfold dk;rw[Y1,Y1];exact X5 (show 1+_<=65 by lia) (by decide)
     have ak:=(zd (o:=.lst [.int 0]) aa).trans ((zd (o:=zbW x2 d2) al).trans ((zd (o:=.lst ((dk (zw r) (lf (zQ r) (S++[c]))).map (·.2))) a2).trans (zd (o:=.lst ([.int 0]++(dk (zw r) (lf (zQ r) (S++[c]))).map (·.2))) aJ)));refine dP x4 (0::(zw r).map (lf (zQ r) (S++[c]))) rfl (SqL.of (by rw[zc,zjU])) (by intro z;cases z) (λm aH aI=>⟨_,_,rfl,rfl,_,rfl,?_⟩);have el:=zns aH aI;generalize upd (upd (upd (upd aQ x1 (.lst [.int 0])) x2 (zbW x2 d2)) x3 (.lst ((dk (zw r) (lf (zQ r) (S++[c]))).map (·.2)))) x4 (.lst ([.int 0]++(dk (zw r) (lf (zQ r) (S++[c]))).map (·.2)))=H16 at *
     have ai:=ah.trans ak;have aU:=Paired.imp' (λ_ _ h=>h.mono ak) aT;have U:=ak _ _ aB;have bb:=ak _ _ G;by_cases a4:((zw r).all λo=>decide (0<=lf (zQ r) (S++[c]) o))=true
     .refine j9 (el.trans a4) ?_;have bj:okC (zQ r) (zw r) st c S=true:=by
       unfold okC;rw[br hm,a4];rfl
      have e1:Jg (zQ r) (zw r) st c S=[S]++[S++[c]]:=by
       unfold Jg;rw[bw bj];rfl
      refine⟨_,rfl,.inl ⟨rfl,_,SqL.of U⟩,_,rfl,_,rfl,sz_1,λx5 bK=>?_⟩;have a8:=zd (o:=.lst [.ref ae]) bK;have bT:=az.length;refine dF a x5 (dO ws (dG rfl rfl ((ai.trans a8) _ _ aV) zc (X5 (show ws.length+1<=64 by lia) (by decide)) (λx6 aK=>?_)));have b2:=zd (o:=.lst (ws++[.ref ae])) aK;refine⟨_,rfl,_,rfl,_,_,rfl,rfl,zgP,λt3 bH=>?_⟩;have aP:=zd (o:=.tup [.ref x6,.ref d2,.int (st-(S.length:Nat)-1)]) bH;have aq:=a8.trans (b2.trans aP);refine⟨z,_,_,rfl,rfl,aq _ _ U,?_,?_⟩
      .rw[XU];exact XM (show _<=2049 by have:[V.ref t2].length=1:=rfl;lia) (by decide)
      have n6:x6≠z:=λe=>by
       rw[e,a8 _ _ U]at aK;cases aK
      have es:st-(S.length:Nat)-1=st-((S++[c]).length:Nat):=by
       rw[XU];show _=st-((S.length+1:Nat):Int);lia
      refine dW (dI rfl (λb o e=>?_) zc ?_)
      .rw[zp (zj e aN)];exact aq _ _ (ai _ _ e)
      .rw[ef,e1,<- WW];refine Paired.snoc (Paired.imp' (λ_ _ h=>WyZ.into (aq _ _ U) (h.mono aq)) aU) (WyZ.into (aq _ _ U) (dF t3 x6 (dO d2 (dG rfl n6 ?_ (aP _ _ zc) ?_ (aq _ _ bb)))))
       .rw[zc,es]
       .exact((az.mono (ai.trans (a8.trans (b2.trans aP)))).append (zcD ((ai.trans aq) _ _ a9)))
     .refine jC (el.trans (W6.mpr a4)) ?_;have e1:Jg (zQ r) (zw r) st c S=[S]:=by
       unfold Jg okC;rw[W6.mpr a4,OK];rfl
      refine dW (dI rfl ai U ?_);rw[ef,e1];exact aU
    .refine jC (bf hm) (ZD ?_);have e1:Jg (zQ r) (zw r) st c S=[S]:=by
      unfold Jg okC;rw[bf hm];rfl
     refine dW (dI rfl ah aB ?_);rw[ef,e1];exact aT
   .refine λu au=>eW λys v5 am an=>eU λao ap z0 ab I aw=>?_;subst z0;rw[bQ,XO]at aw;have aC:=s8.trans ab;refine⟨_,rfl,z,rfl,⟨_,SqL.of I⟩,λy hy=>?_⟩;have ny:z≠y:=zj I hy;have Yy:W2 (WyZ (· ≠ y) (zQ r) (zw r) st au) ys ((JI (zQ r) (zw r) cs st k).flatMap (Jg (zQ r) (zw r) st c)):=Paired.imp' (λ_ _ h=>h.away hy) aw;refine qj (K:=K) (a:=z) (xs:=ys) (λi u B=>∃(u0:Option V) (us:AF),u=[u0,some (.int (k:Int)),some (.ref ca)]/\zB au B/\B y=some (.lst us)/\W2 (WyZ (· ≠ y) (zQ r) (zw r) st B) us ((((JI (zQ r) (zw r) cs st k).flatMap (Jg (zQ r) (zw r) st c)).take i).filter λS=>decide (st-(S.length:Nat)<=(cs.length:Nat)-(k:Nat)-1)))
     (dS [] rfl (zd hy) zc (.nil)) (λi u B _ ⟨_,_,_,L,_⟩=>SqL.of (L _ _ I)) ?_ ?_
    .refine λi x u b3 hx=>eU λu0 us z0 L M av=>?_;subst z0;obtain⟨S,hS,W⟩:=zf0 Yy hx;have aS:=W.mono L;refine fm (λt a d ws z0 na ht _=>?_) (id aS);subst z0;have ul:=av.length;have ub:us.length<=2048:=by
      rw[ul];refine X5 (Xi _ _) ?_;rw[XQ];have:=big (JI (zQ r) (zw r) cs st k).length;rw[XO]at this;lia
     refine⟨_,rfl,t,_,2,_,rfl,rfl,SqT.of ht,rfl,_,rfl,ca,_,rfl,.inl (SqL.of ((aC.trans L) _ _ ax)),_,rfl,_,_,rfl,rfl,_,_,rfl,rfl,_,_,rfl,rfl,_,rfl,?_⟩;rw[aF.length,XI,hS,Xg];by_cases J:st-(S.length:Nat)<=(cs.length:Nat)-(k:Nat)-1
     .refine j9 (br J) ⟨_,rfl,us,M,XM ub (by decide),_,us++[.ref t],rfl,λb o e=>?_,zc,?_⟩
      .rw[zp (zj e hy)];exact L _ _ e
      .have ef:(some S).toList.filter (λS=>decide (st-(S.length:Nat)<=(cs.length:Nat)-(k:Nat)-1))=[S]:=by
        show [S].filter _=_;rw[Xb,bw (br J)];rfl
       rw[ef];exact Paired.snoc (Paired.imp' (λ_ _ h=>WyZ.into M h) av) (WyZ.into M aS)
     .refine jC (bf J) (dS us rfl L M ?_);have ef:(some S).toList.filter (λS=>decide (st-(S.length:Nat)<=(cs.length:Nat)-(k:Nat)-1))=[]:=by
       show [S].filter _=_;rw[Xb,bq (by rw[bf J];decide)];rfl
      rw[ef,Xa];exact av
    refine λu b3=>eU λu0 us z0 L M av=>?_;subst z0;rw[aw.length,XO,<- zhG hc]at av;exact dF y us (dX (dX (dI rfl (aC.trans L) M (Paired.imp' (λ_ _ h=>h.any) av))))
  .refine λu H8=>fj λfl vs v5 v7 v8 v9 am an=>eU λao ap z0 s8 af W8=>?_;subst z0;rw[aF.length]at W8;have w2:=zcF (nm:=zQ r) (os:=zw r) (cs:=cs) (st:=st) cs.length;have w3:2^cs.length<=2^10:=V3 (by decide) b5;have w4:(2:Nat)^10=1024:=rfl;refine⟨_,rfl,fl,rfl,⟨_,SqL.of af⟩,λy hy=>?_⟩;have Wy:W2 (WyZ (· ≠ y) (zQ r) (zw r) st H8) vs (JI (zQ r) (zw r) cs st cs.length):=Paired.imp' (λ_ _ h=>h.away hy) W8;refine qj (K:=K) (a:=fl) (xs:=vs) (λi u B=>∃(u0 u1 u2:Option V) (us:AF),u=[u0,u1,u2]/\zB H8 B/\B y=some (.lst us)/\W2 (LsZ (· ≠ y) B) us (((JI (zQ r) (zw r) cs st cs.length).take i).filter λS=>(zw r).all λo=>decide (lf (zQ r) S o<=0)))
    (dH (dS [] rfl (zd hy) zc (.nil))) (λi u B _ ⟨_,_,_,_,_,L,_⟩=>SqL.of (L _ _ af)) ?_ ?_
   .refine λi x u H9 hx=>fm λu0 u1 u2 us z0 s9 aM U9=>?_;subst z0;refine fc (λS hS=>fH λt a d ws z0 na ht ha b8 hd=>?_) (zf0 Wy hx);subst z0;have ul:=U9.length;have ub:us.length<=1024:=by
     rw[ul];refine X5 (Xi _ _) ?_;rw[XQ];lia
    have aG:=s9 _ _ hd;refine eN t rfl (SqT.of (s9 _ _ ht)) rfl rfl (eO rfl (eH rfl rfl ?_));refine⟨sz_1,λx1 aa=>⟨_,rfl,.inr (.inr (.inl ⟨rfl,.inr ⟨_,zd aa _ _ aG⟩⟩)),d,_,rfl,rfl,zd aa _ _ aG,λx2 al=>(dF x2 d ⟨_,(dI rfl zc (zd al _ _ (zd aa _ _ aG)) (λx3 a2=>(eL x1 x3 (dG rfl rfl (zd a2 _ _ (zd al _ _ zc)) zc ?_ (λx4 aJ=>?_)))))⟩)⟩⟩
    .unfold dk;rw[Y1,Y1];exact X5 (show 1+_<=65 by lia) (by decide)
    have ak:=(zd (o:=.lst [.int 0]) aa).trans ((zd (o:=zbW x2 d) al).trans ((zd (o:=.lst ((dk (zw r) (lf (zQ r) S)).map (·.2))) a2).trans (zd (o:=.lst ([.int 0]++(dk (zw r) (lf (zQ r) S)).map (·.2))) aJ)));refine dP x4 (0::(zw r).map (lf (zQ r) S)) rfl (SqL.of (by rw[zc,zjU])) (by intro z;cases z) (λm aH aI=>⟨rfl,_,rfl,?_⟩);have em:=zo5 aH aI;generalize upd (upd (upd (upd H9 x1 (.lst [.int 0])) x2 (zbW x2 d)) x3 (.lst ((dk (zw r) (lf (zQ r) S)).map (·.2)))) x4 (.lst ([.int 0]++(dk (zw r) (lf (zQ r) S)).map (·.2)))=H10 at *
    have a6:=s9.trans ak;have aR:=Paired.imp' (λ_ _ h=>LsZ.mono ak h) U9;have ar:=ak _ _ aM;have bE:LsZ (· ≠ y) H10 (.ref a) S:=⟨a,ws,rfl,na,a6 _ _ ha,b8.mono a6⟩;rw[XI,hS,Xg];by_cases J:((zw r).all λo=>decide (lf (zQ r) S o<=0))=true
    .refine j9 (em.trans J) ⟨_,rfl,us,ar,XM ub (by decide),_,_,_,us++[.ref a],rfl,λb o e=>?_,zc,?_⟩
     .rw[zp (zj e hy)];exact a6 _ _ e
     .have ef:(some S).toList.filter (λS=>(zw r).all λo=>decide (lf (zQ r) S o<=0))=[S]:=by
       show [S].filter _=_;rw[Xb,bw J];rfl
      rw[ef];exact Paired.snoc (Paired.imp' (λ_ _ h=>LsZ.into ar h) aR) (LsZ.into ar bE)
    .refine jC (em.trans (W6.mpr J)) (dH (dS us rfl a6 ar ?_));have ef:(some S).toList.filter (λS=>(zw r).all λo=>decide (lf (zQ r) S o<=0))=[]:=by
      show [S].filter _=_;rw[Xb,bq J];rfl
     rw[ef,Xa];exact aR
   refine λu H9=>fm λu0 u1 u2 us z0 s9 aM U9=>?_;subst z0;rw[W8.length,XO]at U9;refine q y us H9 ((a5.trans s8).free hy) aM (Paired.imp' (λ_ _ h=>?_) U9) ((a5.trans s8).trans s9);obtain⟨a,ws,e,_,h⟩:=h;exact⟨a,ws,e,trivial,h⟩
def zrb {K:XW}{H:Hp}{N:Addr->Prop}{vs:AF}{b:List AD}(h:W2 (LsZ N H) vs b):Ja K H vs (b.map λS=>PyData.list (S.map zo)):=by
 induction h with
 | nil=>exact .nil
 | cons q _ c =>
  obtain⟨a,d,rfl,_,h1,h2⟩:=q;exact .cons (.lst (SqL.of h1) (zaX h2)) c
def zrc (a:List AD):zdW (.list (a.map λS=>PyData.list (S.map zo))) (.list []):=by
 refine⟨?_,rfl,?_⟩
 .show Wx (a.map λS=>PyData.list (S.map zo))=true;induction a with
  | nil=>rfl
  | cons S r b =>
   show (Wx (S.map zo)&&Wx (r.map λS=>PyData.list (S.map zo)))=true;rw[b,Ql];rfl
 .show Wv (a.map λS=>PyData.list (S.map zo))+1<=64;have:Wv (a.map λS=>PyData.list (S.map zo))<=2:=by
   induction a with
   | nil=>exact W4 _
   | cons S r b =>
    show max (Wv (S.map zo)+1) (Wv (r.map λS=>PyData.list (S.map zo)))<=2;have:=zdl S;lia
  lia
def znt (b:List AD):(if false=true then !PyData.eqv (.list (b.map λS=>PyData.list (S.map zo))) (.list []) else W5 (.list (b.map λS=>PyData.list (S.map zo))) (.list []))=decide (b=[]):=by
 rw[bq XT];cases b with
 | nil=>rfl
 | cons a r=>rfl
def zjV {rs:AE}(R:Rows bd.cps.toList rs):∀o∈zw rs,0<=zQ rs o:=λo c=>by
 obtain⟨t,k,e,hk,d,b⟩:=zY c;obtain⟨n,_,_,a⟩:=R.ex;have:=ze9 k ((a t (X8 e)).mem k (X8 hk)) d;unfold zQ;rw[b];lia
def zpE {rs:AE}{S:AD}(h:S.Sublist (zT rs))(o:AA):cN o S=Grow.cnt (nearF rs) o S:=by
 unfold cN Grow.cnt;congr 1;refine Vp λx b=>?_;rw[WX,Yd];unfold zM;rw[XS,Cells.zkF];refine⟨λz=>⟨?_,z⟩,λz=>z.2⟩;obtain⟨i,j⟩:=x;obtain⟨t,k,h1,h2,a⟩:=Jf.mp (h.subset b);refine Jf.mpr ⟨t,k,h1,h2,?_⟩;have:k=63:=bg a;rw[this];rfl
def zo8 {rs:AE}(R:Rows bd.cps.toList rs){n:Int}(n0:0<=n)(g:n<=(zT rs).length)(c:AA):((ziM (zQ rs) (zw rs) (zT rs) n).filter λS=>decide (c∈S))=[]↔qv rs n c=0:=by
 rw[Wo];unfold qv Tally.T;rw[show ((ON (λS=>decide (S.length=n.toNat)&&(ji rs S&&decide (c∈S))) (Subs.subs (zT rs)):Nat):Int)=0↔ON (λS=>decide (S.length=n.toNat)&&(ji rs S&&decide (c∈S))) (Subs.subs (zT rs))=0 by lia,Vi];have e:∀S:AD,S.Sublist (zT rs)->((S∈ziM (zQ rs) (zw rs) (zT rs) n)↔S.length=n.toNat/\ji rs S=true):=λS a=>by
  rw[zjS (zjV R) n0 g,J4];constructor
  .rintro⟨_,h2,h3⟩;exact⟨by lia,λo d=>by rw[<- zpE a];exact h3 o d⟩
  .rintro⟨h2,h3⟩;exact⟨a,by lia,λo d=>by rw[zpE a];exact h3 o d⟩
 constructor
 .intro h S b z;have a:=Tally.yq b;obtain⟨k,f⟩:=WY.mp z;obtain⟨f,l⟩:=WY.mp f;exact h S ((e S a).mpr ⟨bg k,f⟩) l
 .intro h S b z;have a:=((zjS (zjV R) n0 g).mp b).1;obtain⟨i,j⟩:=(e S a).mp b;exact h S (Tally.zjv a) (by rw[br i,j,z];rfl)
def zrd:Sp:=λf H Q _=>∃(p e:Addr) (a:AE) (n:Int),f=[.ref p]/\qc H p e a n/\Rows bd.cps.toList a/\0<=n/\n<=(zT a).length/\(zT a).length<=10 /\
 ∀(d:Addr) (c:AF) (b:Hp),H d=none->b d=some (.lst c)->Cel b c (clS a n)->zB H b->Q (.ref d) b
def zsv:Sp:=λg H Q _=>∃(l d:Addr) (a:AE) (c:AA),g=[.ref l,.ref d]/\H l=some (.lst (a.map V.str))/\Rows fdS.cps.toList a/\H d=some (.tup [.int (c.1:Nat),.int (c.2:Nat)])/\c∈yR a/\Ten a /\
 ∀w e,zcf a 65 [c]=some (w,e)->∀(t r p f:Addr) (h:AF) (b:Hp),zdO b t r p f h a w e->zB H b->Q (.ref t) b
def Qs:zE ["_law_board_here","_law_cells_here","_law_some"] ["_law_board_here"] (zf YI):=bh
def zhH (T:Txt mg)(Z:Prog K mg)(D:zh K mg "_law_safe" YI ["_law_board_here"] f fd):qA P w K mg base CX0 3 f fd ["_law_board_here"] zrd:=by
 obtain⟨Zy,JH,qq⟩:=Z.law_cells;obtain⟨ao,ap,ai⟩:=Z.law_choices;refine D.F.ok Qs (λvs H Q E h=>?_) (λan A am s H vs Q E hr h=>?_)
 .revert h;refine eZ λp lb l n z0 _=>?_;subst z0;rfl
 .revert h;refine fy λp lb l n z0 B R n0=>eV λhn ab q=>?_;subst z0;refine⟨_,(ze (zC (i:=1) Qs.nd rfl (XF rfl) (pc0 (yQ T qq) hr qq (za (qh qf (pvS 0) zk (λ_ _=>rfl)) (@za _ _ _ _ _ jv zb rfl)))) (ze (zC (i:=2) Qs.nd rfl (UR rfl) (pc0 (zdQ T Z ai) hr ai (za (pvS 1) (za (qh qf (pvS 0) zk (λ_ _=>rfl)) (za (qh qf (pvS 0) zk (λ_ _=>rfl)) zb))))) (zg (zJ (zgq (N:=["_law_cell","_law_some"]) (src:=[none,some 2]) (Ju.byRfl (y:="_law_cell") rfl (λ_ _=>rfl) (λ_=>rfl) (by decide+kernel) (by decide+kernel) (by rfl) rfl (by rfl)) rfl (zO (pvS 1)) (λ_ _ _ _ _=>(zq (i:=0) (by show W9 (["_law_cell","_law_some"]:AE);decide+kernel) rfl (UR rfl))) (λ_ _ _ _ _=>(qt (zL (Zk (K:=K) (by rfl) hr.units) (qz (N:=["_law_one","_law_cell"]) (src:=[none,some 0]) (zW.byRfl rfl (by decide+kernel) (by decide+kernel) (by rfl) rfl (by rfl)) (by rfl) (zcR (K:=K) (by rfl) (pvS 1)) (λ_ _ _ _ _=>(zq (i:=0) (by show W9 (["_law_one","_law_cell"]:AE);decide+kernel) rfl (XF rfl))) (λ_ _ _ _ _=>(qt (zL (jy (K:=K) (by rfl) hr.units) (pvS 1) (pvS 0) (by rfl)))) (λ_ _ _ _ _=>(pvS 0))) (@qm _ _ _ _ zb) (qe _)))) (λ_ _ _ _ _=>(pvS 0))))))),?_⟩;(try dsimp only[cxK,cxP,cxW]);refine⟨_,rfl,p,_,0,_,rfl,rfl,SqT.of B.tp,rfl,lb,l,_,_,rfl,B.rw,R,λd1 w1 H1 _ af u s1=>?_⟩;rw[zld R]at u;have B1:=B.mono s1;refine⟨_,rfl,_,rfl,p,_,0,_,rfl,rfl,SqT.of B1.tp,rfl,_,rfl,p,_,1,_,rfl,rfl,SqT.of B1.tp,rfl,d1,lb,l,n,zT l,w1,rfl,af,u,ab,B1.rw,R,λd2 w2 H2 _ ag L2 s2=>?_⟩;have M:=s2 _ _ af;have ac:=u.mono s2;generalize ah:ziM (zQ l) (zw l) (zT l) n=ks at *
  have kb:ks.length<=1024:=by
   rw[<- ah];unfold ziM;refine X5 (Xi _ _) (X5 (zcF _) ?_);exact V3 (by decide) ab
  refine⟨_,rfl,d1,rfl,⟨_,SqL.of M⟩,λy hy=>?_⟩;refine qj (K:=K) (a:=d1) (xs:=w1) (λi J r=>∃(u0:Option V) (I:AF),J=[u0,some (.ref d2)]/\zB H2 r/\r y=some (.lst I)/\Cel r I (((zT l).take i).filter λc=>decide (qv l n c=0))) ⟨_,[],rfl,zd hy,zc,.nil⟩ (λi J r _ ⟨_,_,_,s6,_⟩=>SqL.of (s6 _ _ M)) ?_ ?_
  .refine λi x J H3 hx=>eU λu0 I z0 m Y d=>?_;subst z0;refine e9 (λc aj ca z0 ae=>?_) (Cel.get (ac.mono m) hx);subst z0;have yl:I.length<=64:=by
    rw[d.length];refine X5 (Xi _ _) ?_;rw[XQ];lia
   refine⟨_,rfl,d2,rfl,⟨_,SqL.of (m _ _ ag)⟩,λz hz=>?_⟩;have Lz:W2 (LsZ (· ≠ z) H3) w2 ks:=Paired.imp' (λv S ⟨a,ws,e,_,h1,h2⟩=>⟨a,ws,e,zj (m _ _ h1) hz,m _ _ h1,h2.mono m⟩) L2;refine qj (K:=K) (a:=d2) (xs:=w2) (λi J r=>∃(u0:Option V) (O:AF),J=[u0,some (.ref ca)]/\zB H3 r/\r z=some (.lst O)/\W2 (LsZ (· ≠ z) r) O ((ks.take i).filter λS=>decide (c∈S))) ⟨_,[],rfl,zd hz,zc,.nil⟩ (λi J r _ ⟨_,_,_,s6,_⟩=>SqL.of (s6 _ _ (m _ _ ag))) ?_ ?_
   .refine λj v J H4 hv=>eU λu1 O z0 s4 g U4=>?_;subst z0;obtain⟨S,hS,L⟩:=zf0 Lz hv;have L4:=L.mono s4;refine eU (λa ws z0 na ha ak=>?_) (id L4);subst z0;have ub:O.length<=1024:=by
     rw[U4.length];refine X5 (Xi _ _) ?_;rw[XQ];lia
    refine⟨_,rfl,_,rfl,zo c,S.map zo,yL.rdv ⟨ca,rfl,s4 _ _ ae⟩,.lst (SqL.of ha) (zaX ak),rfl,Ql _,(by show 1<=60;decide),_,rfl,?_⟩;rw[XI,hS,Xg];by_cases G:c∈S
    .refine j9 ((zfY S c).trans (br G)) ⟨_,rfl,O,g,XM ub (by decide),_,O++[.ref a],rfl,λb o e=>?_,zc,?_⟩
     .rw[zp (zj e hz)];exact s4 _ _ e
     .have U:(some S).toList.filter (λS=>decide (c∈S))=[S]:=by
       show [S].filter _=_;rw[Xb,bw (br G)];rfl
      rw[U];exact Paired.snoc (Paired.imp' (λ_ _ h=>LsZ.into g h) U4) (LsZ.into g L4)
    .refine jC ((zfY S c).trans (bf G)) ⟨_,O,rfl,s4,g,?_⟩;have U:(some S).toList.filter (λS=>decide (c∈S))=[]:=by
      show [S].filter _=_;rw[Xb,bq (by rw[bf G];decide)];rfl
     rw[U,Xa];exact U4
   refine λJ H4=>eU λu1 O z0 s4 g U4=>?_;subst z0;rw[L2.length,XO]at U4;refine⟨ZU,λe0 al=>?_⟩;have z5:=zd (o:=.lst []) al;refine dP (.list ((ks.filter λS=>decide (c∈S)).map λS=>PyData.list (S.map zo))) (.list []) (.lst (SqL.of (z5 _ _ g)) (zrb (Paired.imp' (λ_ _ h=>LsZ.mono z5 h) U4))) (.lst (SqL.of zc) .nil) (zrc _) ⟨_,rfl,?_⟩;have k:=s4.trans z5;have aa:=k _ _ Y;have zz:=zo8 R n0 hn c;rw[ah]at zz;rw[XI,aj,Xg];by_cases G:qv l n c=0
   .have U:(some c).toList.filter (λc=>decide (qv l n c=0))=[c]:=by
     show [c].filter _=_;rw[Xb,bw (br G)];rfl
    refine j9 ((znt _).trans (br (zz.mpr G))) ⟨_,rfl,I,aa,XM yl (by decide),_,I++[.ref ca],rfl,λb o e=>?_,zc,?_⟩
    .rw[zp (zj e hy)];exact k _ _ (m _ _ e)
    .rw[U];exact zbb aa (d.mono k) (k _ _ ae)
   .have U:(some c).toList.filter (λc=>decide (qv l n c=0))=[]:=by
     show [c].filter _=_;rw[Xb,bq (by rw[bf G];decide)];rfl
    refine jC ((znt _).trans (bf λz=>G (zz.mp z))) ⟨_,I,rfl,m.trans k,aa,?_⟩;rw[U,Xa];exact d.mono k
  refine λJ H3=>eU λu0 I z0 m Y d=>?_;subst z0;rw[u.length,XO]at d;exact q y I H3 ((s1.trans s2).free hy) Y d ((s1.trans s2).trans m)
def J7:zE ["_law_rows","_law_first","_law_clears","_law_row","_law_safe_here"] ["_law_rows","_law_first"] (zf QG):=bh
def ziN (T:Txt mg)(Z:Prog K mg)(D:zh K mg "_law_due" QG ["_law_rows","_law_first"] f fd):qA P w K mg base CX0 4 f fd ["_law_rows","_law_first"] zsv:=by
 obtain⟨Zy,JH,qq⟩:=Z.law_cells;obtain⟨ap,ao,U⟩:=Z.law_safe;obtain⟨al,ak,Zz⟩:=Z.law_board;have Qt:qA P w K mg base CX0 2 al ak ["_law_rows","_law_cells_here"] zpD:=zfZ T Z Zz;refine D.F.ok J7 (λvs H Q E h=>?_) (λam A ai s H vs Q E y h=>?_)
 .revert h;refine eZ λl ca j c z0 _=>?_;subst z0;rfl
 .revert h;refine fy λl ca j c z0 hl R ab=>eV λhc M q=>?_;subst z0;refine⟨_,(ze (zC (i:=2) J7.nd rfl (XF rfl) (pc0 (yQ T qq) y qq (za (pvS 0) (@za _ _ _ _ _ jv zb rfl)))) (ze (zC (i:=3) J7.nd rfl (XF rfl) (qm (za (pvS 1) zb))) (ze (zf9 Xh (zL zc6 (zx zD (by rfl) T.qG Xk (za (pvS 3) zb)) (zx zD (by rfl) T.qG Xk (za (pvS 2) zb)) (qe _)) (ze (zC (i:=4) J7.nd rfl (XF rfl) (pc0 (zhH T Z U) y U (za (pc0 Qt y Zz (za (pvS 0) (za (pvS 3) zb))) zb))) (ze (jk (zL (yV y.units) (pvS 4) (@qm _ _ _ _ zb) (qe _)) (@zg _ _ _ (@zJ _ _ _ _ (@qH _ _ _ _ _ (@za _ _ _ _ _ jv (za (pvS 3) (za (pc0 Qt y Zz (za (pvS 0) (za (pvS 3) zb))) zb)) rfl)))) ql) (zg (zC (i:=3) J7.nd rfl (XF rfl) (zK Y4 (pvS 3) (pvS 4))))))) (@zg _ _ _ (@zJ _ _ _ _ (@qH _ _ _ _ _ (@za _ _ _ _ _ jv (za (pvS 3) (za (pc0 Qt y Zz (za (pvS 0) (za (pvS 3) zb))) zb)) rfl))))))),?_⟩;(try dsimp only[cxK,cxP,cxW]);have B:=zno R;refine⟨_,rfl,l,j,".",_,rfl,hl,R,λdc wc H1 _ ac G s1=>?_⟩;rw[ze4 R]at G;refine⟨_,rfl,sz_1,λr ag=>?_⟩;have z2:=zd (o:=.lst [.ref ca]) ag;refine⟨λm σ Y=>∃(a:AD) (x:AF) (r:Addr) (v:Option V),σ=[some (.ref l),some (.ref ca),some (.ref dc),some (.ref r),v]/\zB H1 Y/\Y r=some (.lst x)/\Cel Y x a/\Way j c m a,(dF 65 [c] ⟨_,(dF r none (dJ rfl z2 zc (zcD ((s1.trans z2) _ _ ab)) (Way.start B hc)))⟩),?_⟩;refine λm σ H4=>fy λa x r v z0 s4 e b W=>?_;subst z0;have wl:=b.length;have dl:=G.length;have an:=W.d.len;have n:=s1.trans s4;refine⟨_,rfl,r,_,rfl,.inl (SqL.of e),_,rfl,dc,_,rfl,.inl (SqL.of (s4 _ _ ac)),_,_,rfl,rfl,_,rfl,?_⟩;by_cases hz:(yR j).length<=a.length
  .refine jC (bf (by lia)) ?_;refine⟨_,rfl,_,rfl,_,rfl,l,r,j,x,a,rfl,n _ _ hl,R,e,b,λp L H5 hp J B5 s5=>⟨zgP,λt ht=>?_⟩⟩;have z6:=zd (o:=.tup [.str "end",.ref r,.ref p]) ht;exact q _ _ (W.ends hz) t r p L x _ ⟨zc,(s5.trans z6) _ _ e,b.mono (s5.trans z6),B5.mono z6⟩ (n.trans (s5.trans z6))
  .refine j9 (br (by lia)) ?_;refine⟨fun aq Y=>∃m',m'<m/\_,λ_ _ h=>h,?_⟩;have RB:Rows bd.cps.toList (jx j a):=zdN R;have sh:=M.shut W.d.sub;have nB:=M.nb W.d.sub;refine⟨_,rfl,_,rfl,l,r,j,x,a,rfl,n _ _ hl,R,e,b,λp L H6 hp J B6 s6=>?_⟩;have ol:=(zjP W.d.sub).length_le;refine dF p L (dO (jx j a) (dJ rfl B6 RB (SM _) (dD (by lia) sh (λd w1 H7 hd I k s7=>?_))));have k:Cel H7 w1 (nxt j a):=k;have aj:=s6.trans s7;refine⟨_,rfl,ZU,λn0 af=>?_⟩;have O:=zd (o:=.lst []) af;have g:=aj.trans O;refine dP (.list ((nxt j a).map zo)) (.list []) (.lst (SqL.of (O _ _ I)) (zaX (k.mono O))) (.lst (SqL.of zc) .nil) (ziq _ []) ⟨_,rfl,?_⟩;by_cases he:nxt j a=[]
   .refine j9 ((QS _).trans (br he)) ?_;refine⟨_,rfl,_,rfl,_,rfl,l,r,j,x,a,rfl,(n.trans g) _ _ hl,R,g _ _ e,b.mono g,λp L H9 hp J B9 s9=>⟨zgP,λt ht=>?_⟩⟩;have N:=zd (o:=.tup [.str "stuck",.ref r,.ref p]) ht;have u:=g.trans (s9.trans N);exact q _ _ (W.stuck hz nB he) t r p L x _ ⟨zc,u _ _ e,b.mono u,B9.mono N⟩ (n.trans u)
   .refine jC ((QS _).trans (bf he)) ?_;obtain⟨m',ae,W'⟩:=W.step hz nB R he;have z:(a++nxt j a).length<=64:=X5 W'.d.len B;have aa:=k.mono O;refine⟨_,rfl,_,rfl,r,d,x,w1,rfl,rfl,g _ _ e,O _ _ I,?_,λr2 ah=>?_⟩
    .have:=k.length;rw[XU]at z;exact X5 (show x.length+w1.length<=64 by lia) (by decide)
    have z9:=zd (o:=.lst (x++w1)) ah;exact dY m' ae (dO (a++nxt j a) (dO r2 (dJ rfl (s4.trans (g.trans z9)) zc (((b.mono g).append aa).mono z9) W')))
theorem zdO.mono {H a:Hp}(s:zB H a){t r p b:Addr}{c:AF}{rs:AE}{w:Str}{cs:AD}(A:zdO H t r p b c rs w cs):zdO a t r p b c rs w cs:=⟨s _ _ A.tp,s _ _ A.rw,A.cel.mono s,A.bd.mono s⟩
def zsw:Sg fdS:=by
 unfold Sg;decide+kernel
def zlf:Sp:=λc H Q _=>∃(a:Addr) (b:AE),c=[.ref a]/\H a=some (.lst (b.map V.str))/\Rows fdS.cps.toList b/\∀l,H l=none->Q (.ref l) (upd H l (.lst (b.map V.str)))
def zjW (K:XW):Sp:=λd H Q _=>∃(a:Addr) (b:List Int),d=[.ref a]/\SqL K H a (b.map V.int)/\b.length<=63/\∀c,Q (.bl true) c
def znv:∀c∈fdS.cps.toList,c<1114112:=by decide+kernel
def znw {rs:AE}(R:Rows fdS.cps.toList rs):zdW (.list (rs.map VZ)) (.list (rs.map VZ)):=by
 obtain⟨n,_,_,h⟩:=R.ex;have a:Wx (rs.map VZ)=true:=by
  clear R;induction rs with
  | nil=>rfl
  | cons t r e =>
   show (Wq (.str t)&&Wx (r.map VZ))=true;rw[e λu d=>h u (XY _ d),S9];show t.cps.all (· < 0x110000)=true;rw[Array.all_eq_true'];intro c b;exact br (znv c ((h t XX).mem c (RO.mpr b)))
 refine⟨a,a,?_⟩;show Wv (rs.map VZ)+1<=64;rw[YJ];decide
theorem zhJ {rs:AE}:∀{m:Nat} {cs:AD} {w:Str} {cs':AD},zcf rs m cs=some (w,cs')->Wq (.str w)=true
 | 0,cs,w,cs',h=>by
  cases h;decide+kernel
 | m+1,cs,w,cs',h=>by
  unfold zcf at h;split at h
  .cases h;decide+kernel
  .split at h
   .cases h
   .split at h
    .cases h;decide+kernel
    .exact zhJ h
def rD (rs:AE)(w:Str)(cs:AD):We:=.tuple [.str w,.list (cs.map zo),bData (jx rs cs) ((stC rs).length:Nat)]
theorem zdO.rdv {K:XW}{H:Hp}{t r p a:Addr}{b:AF}{rs:AE}{w:Str}{cs:AD}(A:zdO H t r p a b rs w cs):Rdv K H (.ref t) (rD rs w cs):=.tup (SqT.of A.tp) (.cons (.str w) (.cons (.lst (SqL.of A.rw) (zaX A.cel)) (.cons (qc.rdv A.bd) .nil)))
def zf2 {rs:AE}(R:Rows fdS.cps.toList rs){w:Str}(a:Wq (.str w)=true)(cs:AD):zdW (rD rs w cs) (rD rs w cs):=by
 have c:=(zdN (cs:=cs) R).cmpB ((stC rs).length:Nat);have h1:Wq (rD rs w cs)=true:=by
  show (Wq (.str w)&&(Wx (cs.map zo)&&(Wq (bData (jx rs cs) ((stC rs).length:Nat))&&true)))=true;rw[c.l1,Ql,a];rfl
 refine⟨h1,h1,?_⟩;show max 0 (max (Wv (cs.map zo)+1) (max (PyData.depth (bData (jx rs cs) ((stC rs).length:Nat))) 0))+1<=64;have:=zdl cs;have e:PyData.depth (bData (jx rs cs) ((stC rs).length:Nat))=max (Wv ((jx rs cs).map VZ)+1) (max 0 0)+1:=rfl;rw[e,YJ];lia
def zjX {d:We}(h:Wq d=true):(if true=true then !PyData.eqv d d else W5 d d)=false:=by
 rw[bw rfl,SeqAt.eqv_refl _ h];rfl
def zo9 {d:We}(h:Wq d=true):(if false=true then !PyData.eqv d d else W5 d d)=true:=SeqAt.eqv_refl _ h
def zhK:zE ["rows"] ["rows"] (zf YF):=bh
def zhL (T:Txt mg)(Z:Prog K mg)(D:zh K mg "field_of" YF ["rows"] f fd):qA P w K mg base CX0 3 f fd ["rows"] zlf:=by
 obtain⟨m,l,c⟩:=Z.checked_rows;refine D.F.ok zhK (λj H Q E h=>?_) (λe A b s H j Q E i h=>?_)
 .obtain⟨a,d,rfl,_⟩:=h;rfl
 .revert h;refine eU λa d z0 g R k=>?_;subst z0;refine⟨_,(zg (zJ (pc0 (YX T Z c) i c (za (pvS 0) (za (j7 (v:=.str ".o#") (by rfl) T.zd4.choose_spec (by exact⟨_,rfl⟩)) zb))))),?_⟩;(try dsimp only[cxK,cxP,cxW]);exact⟨_,rfl,a,d,fdS,rfl,zsw,g,R,k⟩
def zap:zE ["_law_script","_law_rows","_law_clears","_law_first","_law_due_here","_law_field_here","_law_found"] ["_law_script"] (zf zg0):=bh
def zrf (T:Txt mg)(Z:Prog K mg)(D:zh K mg "law" zg0 ["_law_script"] f fd):Zn 384 P w K mg base CX0 14 f fd ["_law_script"] (zjW K):=by
 obtain⟨a7,a8,qu⟩:=Z.law_cell_at;obtain⟨a9,aC,Zx⟩:=Z.law_mixed;obtain⟨aA,aD,ag⟩:=Z.law_field;obtain⟨Zy,JH,qq⟩:=Z.law_cells;obtain⟨aG,aE,ai⟩:=Z.law_due;obtain⟨aF,aB,ah⟩:=Z.field_of;obtain⟨az,ay,m⟩:=Z.run;have aj:Zn 384 P w K mg base CX0 12 az ay ["field","first","way"] zpB:=zq7 T Z m;refine D.F.okT zap (λvs H Q E h=>?_) (λa3 A av s H vs Q E y h=>?_)
 .obtain⟨a,ns,rfl,_⟩:=h;rfl
 .revert h;refine eU λa ns z0 hS a1 k=>?_;subst z0;refine⟨_,(qi (PS.at_ (zC (i:=1) zap.nd rfl (XF rfl) (pc0 (zfT T ag qu Zx) y ag (za (pvS 0) (@za _ _ _ _ _ zk zb rfl))))) (qi (PS.at_ (zC (i:=2) zap.nd rfl (XF rfl) (pc0 (yQ T qq) y qq (za (pvS 1) (@za _ _ _ _ _ jv zb rfl))))) (qi (PS.at_ (jk (zL (yV y.units) (pvS 2) (@qm _ _ _ _ zb) (qe _)) (@zg _ _ _ (@zJ _ _ _ _ zf7)) ql)) (qi (PS.at_ (zC (i:=3) zap.nd rfl (XF rfl) (qh jd (pvS 2) (zK ju (pc0 (Qk T qu) y qu (za (pvS 0) (@za _ _ _ _ _ zk zb rfl))) (zx zD (by rfl) T.qG Xk (za (pvS 2) zb))) (λ_ _=>rfl)))) (qi (PS.at_ (zC (i:=4) zap.nd rfl (XF rfl) (pc0 (ziN T Z ai) y ai (za (pvS 1) (za (pvS 3) zb))))) (qi (PS.at_ (zC (i:=5) zap.nd rfl (XF rfl) (pc0 (zhL T Z ah) y ah (za (qI Yw (by rfl) T.zbC Vo (za (pvS 1) zb)) zb)))) (qi (zcu (i:=6) zap.nd rfl (XF rfl) (zr5 zi8 aj y m.g m.F.kp m.bd (PA.at_ (za (pvS 5) (za (pvS 3) zb))))) (qi (PS.at_ (jk (PW.pt (zf8 (ZC (JP (zx Zj (by rfl) T.Jz UV (za (pvS 6) (za (zcl (v:=.ty "tuple") (by rfl) T.zjy Pu (by rfl)) zb))) (λ_=>rfl))) (zf8 (zL zcI (zx zD (by rfl) T.qG Xk (za (pvS 6) zb)) zk (qe _)) (zf8 (ZC (JP (zx Zj (by rfl) T.Jz UV (za (qh qf (pvS 6) zk (λ_ _=>rfl)) (za (zcl (v:=.ty "str") (by rfl) T.zmp R8 (by rfl)) zb))) (λ_=>rfl))) (zlh (zL (yW y.units) (pvS 6) (pvS 4) (qe _))))))) (@zg _ _ _ (@zJ _ _ _ _ zf7)) ql)) (qi (PS.at_ (jk (PW.pt (zf8 (ZC (JP (zx Zj (by rfl) T.Jz UV (za (qh qf (pvS 6) zk (λ_ _=>rfl)) (za (zcl (v:=.ty "list") (by rfl) T.zbC Vo (by rfl)) zb))) (λ_=>rfl))) (zf8 (ZC (JP (zx Zj (by rfl) T.Jz UV (za (qh qf (pvS 6) zk (λ_ _=>rfl)) (za (zcl (v:=.ty "tuple") (by rfl) T.zjy Pu (by rfl)) zb))) (λ_=>rfl))) (zlh (zL (yW y.units) (pvS 5) (pvS 1) (qe _)))))) (@zg _ _ _ (@zJ _ _ _ _ zf7)) ql)) (qi (PS.at_ (jA (zfl WR PySem.F.slot_list_reverse PySem.F.type_list_reverse zhR (qh qf (pvS 6) zk (λ_ _=>rfl))))) (qi (PS.at_ (jA (zfl WR PySem.F.slot_list_clear PySem.F.type_list_clear zls (qh qf (qh qf (pvS 6) zk (λ_ _=>rfl)) zk (λ_ _=>rfl))))) (zgQ (zoa (zl6 (yV y.units) (zr5 zi8 aj y m.g m.F.kp (dv:=[]) ⟨[],.nil,m.b⟩ (PA.at_ (za (pvS 5) (za (pvS 3) (@za _ _ _ _ _ jv zb rfl))))) (pvS 4) (qe _))))))))))))))),?_⟩;(try dsimp only[cxK,cxP,cxW]);refine⟨_,rfl,a,ns,10,rfl,hS,by decide,by decide,λl d H1 _ N s1 R hm=>?_⟩;have U:=ten_of R hm;refine⟨_,rfl,l,d,".",_,rfl,N,R,λdc wc H3 _ aa n s3=>?_⟩;rw[ze4 R]at n;have wl:=n.length;refine⟨_,rfl,ZU,λe0 ae=>?_⟩;have z4:=zd (o:=.lst []) ae;refine dP (.list ((yR d).map zo)) (.list []) (.lst (SqL.of (z4 _ _ aa)) (zaX (n.mono z4))) (.lst (SqL.of zc) .nil) (ziq _ []) ⟨_,rfl,?_⟩;by_cases x:yR d=[]
  .exact j9 ((QS _).trans (br x)) (k _)
  refine jC ((QS _).trans (bf x)) ?_;have ac:=z4 _ _ aa;have n:=n.mono z4;have s4:=s1.trans (s3.trans z4);have hl:=(s3.trans z4) _ _ N;generalize upd H3 e0 (.lst [])=H4 at *
  clear z4 s1 s3 N aa ae;have lp:=RD.mpr x;refine⟨_,rfl,_,rfl,a,ns,_,rfl,s4.seq hS,by decide,λpk=>?_⟩;have m0:=VT pk (show ((wc.length:Nat):Int)≠0 by lia);have m1:=VV pk (show (0:Int)<((wc.length:Nat):Int) by lia);have af:(pk%((wc.length:Nat):Int)).toNat<wc.length:=by lia
  refine e9 (λc am ca hv ab=>?_) (Cel.get n (X2 af));refine⟨_,rfl,dc,_,rfl,.inl (SqL.of ac),_,_,rfl,rfl,(by show (0:Int)<((wc.length:Nat):Int);lia),dc,wc,_,_,rfl,rfl,SqL.of ac,ZE m0 (X2 af),?_⟩;rw[hv];have hc:=X8 am;have rl:Wq (.list (d.map VZ))=true:=(znw R).l1;refine⟨_,rfl,_,rfl,l,ca,d,c,rfl,hl,R,ab,hc,U,λwd J hw t r p lb ws H5 A5 s5=>?_⟩;have I:=zhJ hw;have a5:=s4.trans s5;refine⟨_,rfl,l,_,rfl,.inl (SqL.of (s5 _ _ hl)),λh0 ao=>(dP h0 d rfl zc R (λfo an=>?_))⟩;have z6:=(zd (o:=.lst (d.map V.str)) ao).trans (zd (o:=.lst (d.map V.str)) an);have u:upd (upd H5 h0 (.lst (d.map V.str))) fo (.lst (d.map V.str)) fo=some (.lst (d.map V.str)):=zc;have ap:=z6 _ _ (s5 _ _ hl);have L:=z6 _ _ (s5 _ _ ab);have A6:=A5.mono z6;generalize upd (upd H5 h0 (.lst (d.map V.str))) fo (.lst (d.map V.str))=H6 at *
  refine⟨_,rfl,_,rfl,fo,ca,d,c,rfl,u,R,L,hc,U,λw' al O Y M p2 q B H7 _ ar _ ax j s7=>?_⟩;have ew:=Option.some.inj (hw.symm.trans O);cases ew;refine⟨_,rfl,_,"tuple","tuple",true,rfl,.tup j.tp,(by decide+kernel),true,rfl,ZD ?_⟩;refine⟨_,rfl,Y,_,rfl,.inr (SqT.of j.tp),rfl,_,rfl,zlv rfl ?_⟩;refine⟨_,rfl,Y,_,0,_,rfl,rfl,SqT.of j.tp,rfl,_,"str","str",true,rfl,.str _,(by decide+kernel),true,rfl,ZD ?_⟩;refine⟨_,rfl,_,rfl,rD d wd J,rD d wd J,j.rdv,(A6.mono s7).rdv,zf2 R I J,_,rfl,jC (zjX (zf2 R I J).l1) ?_⟩;refine⟨_,rfl,Y,_,1,_,rfl,rfl,SqT.of j.tp,rfl,_,"list","list",true,rfl,.lst j.rw,(by decide+kernel),true,rfl,ZD ?_⟩;refine⟨_,rfl,Y,_,2,_,rfl,rfl,SqT.of j.tp,rfl,_,"tuple","tuple",true,rfl,.tup j.bd.tp,(by decide+kernel),true,rfl,ZD ?_⟩;refine⟨_,rfl,_,rfl,.list (d.map VZ),.list (d.map VZ),.lst (SqL.of (s7 _ _ u)) (zaB d),.lst (SqL.of (s7 _ _ ap)) (zaB d),znw R,_,rfl,jC (zjX rl) ?_⟩;refine⟨_,rfl,Y,_,1,_,rfl,rfl,SqT.of j.tp,rfl,.inl ⟨rfl,_,SqL.of j.rw⟩,M,_,rfl,rfl,j.rw,?_⟩;have s8:zB H6 (upd H7 M (.lst B.reverse)):=λb o e=>by
   rw[zp (zj e ar)];exact s7 _ _ e
  have au:upd H7 M (.lst B.reverse) Y=some (.tup [.str wd,.ref M,.ref p2]):=by
   rw[zp (QW j.tp j.rw (by intro z;cases z))];exact j.tp
  have aq:upd H7 M (.lst B.reverse) p2=some (.tup [.ref q,.int ((stC d).length:Nat)]):=by
   rw[zp (QW j.bd.tp j.rw (by intro z;cases z))];exact j.bd.tp
  have G:∃xs,upd H7 M (.lst B.reverse) q=some (.lst xs):=by
   by_cases e:q=M
   .rw[e];exact⟨_,zc⟩
   .rw[zp e];exact⟨_,j.bd.rw⟩
  obtain⟨xs,G⟩:=G;generalize upd H7 M (.lst B.reverse)=H8 at *
  refine⟨_,rfl,Y,_,2,_,rfl,rfl,SqT.of au,rfl,p2,_,0,_,rfl,rfl,SqT.of aq,rfl,.inl ⟨rfl,_,SqL.of G⟩,q,_,rfl,rfl,G,?_⟩;have s9:zB H6 (upd H8 q (.lst [])):=λb o e=>by
   rw[zp (zj e ax)];exact s8 _ _ e
  generalize upd H8 q (.lst [])=H9 at *
  refine⟨_,rfl,_,rfl,fo,ca,d,c,rfl,s9 _ _ u,R,s9 _ _ L,hc,U,λw' al O t3 r3 p3 a4 a6 a2 _ _ _ _ ak aw=>?_⟩;have ew:=Option.some.inj (hw.symm.trans O);cases ew;refine⟨_,rfl,rD d wd J,rD d wd J,ak.rdv,(A6.mono (s9.trans aw)).rdv,zf2 R I J,?_⟩;rw[zo9 (zf2 R I J).l1];exact k _
def all_mk {l:O6}{w:W1}{K:XW}{h:Heap}{mg:Str->Option X9}{fa:Addr}{o:Tok}{p:Tok}{j:Tok}{q:Tok}{r:Tok}{u:Tok}{x:Tok}{y:Tok}{z:Tok}{A:Tok}{m:Tok}(X:K.In h)(G:h.Ns XR mg)(n:mg "law"=some (.ref fa))
  (Yj:HasDef K "board_of" YE)
  (yC:HasDef K "checked_rows" yJ)
  (J8:HasDef K "check_row" Zp)
  (B:HasDef K "closed" ZY)
  (Jh:HasDef K "open_cells" qD)
  (E:HasDef K "around" jY)
  (J9:HasDef K "number_at" jZ)
  (H:HasDef K "opened" Qg)
  (Yk:HasDef K "cells_of" qk)
  (Qu:HasDef K "sign_at" qy)
  (Yl:HasDef K "field_of" YF)
  (Za:HasDef K "stones_of" Zq)
  (Zb:HasDef K "clears_of" Zr)
  (Ji:HasDef K "cells_with" jG)
  (Ym:HasDef K "board_at" JZ)
  (O:HasDef K "parts" zcy)
  (I:HasDef K "joined" ZZ)
  (ah:HasDef K "far" zgY)
  (Jj:HasDef K "numbers_of" jH)
  (Jk:HasDef K "bare_wrong" ye)
  (yk:HasDef K "closed_around" qO)
  (yD:HasDef K "part_layings" qK)
  (Yn:HasDef K "needs_at" yr)
  (Qv:HasDef K "may_fit" xg)
  (xr:HasDef K "part_counts" xK)
  (Qw:HasDef K "counted" JK)
  (Jl:HasDef K "counted_at" yK)
  (Qx:HasDef K "choices" QF)
  (J:HasDef K "poured" zaS)
  (xu:HasDef K "near_counts" yh)
  (Q:HasDef K "count" zcz)
  (j6:HasDef K "counts_by_cell" qZ)
  (Jm:HasDef K "all_poured" Jx)
  (U:HasDef K "dealt" zaT)
  (Yo:HasDef K "fraction" YG)
  (jz:HasDef K "greatest_divisor" jf)
  (L:HasDef K "shares" Qh)
  (Jo:HasDef K "some_count" Jy)
  (ab:HasDef K "sure" zbB)
  (Yp:HasDef K "asked_by" zdf)
  (Yq:HasDef K "known_of" zdg)
  (xw:HasDef K "still_asked" Q0)
  (M:HasDef K "gained" zgZ)
  (Qy:HasDef K "settled" zeM)
  (Yr:HasDef K "thoughts" zdh)
  (Zc:HasDef K "all_steps" zbY)
  (xx:HasDef K "place_lists" Q2)
  (Jp:HasDef K "first_step" zaU)
  (ai:zcv K "run" zbU "sure")
  (xy:HasDef K "found_clear" xM)
  (xA:HasDef K "_law_cell_at" yi)
  (Zd:HasDef K "_law_mixed" xV)
  (Ze:HasDef K "_law_field" Zs)
  (Zf:HasDef K "_law_cells" Zt)
  (Ys:HasDef K "_law_near" YH)
  (xB:HasDef K "_law_choices" yj)
  (Zg:HasDef K "_law_board" xW)
  (Yt:HasDef K "_law_safe" YI)
  (Qz:HasDef K "_law_due" QG)
  (aj:HasDef K "law" zg0)
  (ak:XE K XR "abs"=some none)
  (al:XE K XR "any"=some none)
  (ac:XE K XR "dict"=some none)
  (Zh:XE K XR "enumerate"=some none)
  (am:XE K XR "int"=some none)
  (Jq:XE K XR "isinstance"=some none)
  (ao:XE K XR "len"=some none)
  (ae:XE K XR "list"=some none)
  (ap:XE K XR "max"=some none)
  (aq:XE K XR "min"=some none)
  (Y:XE K XR "range"=some none)
  (ar:XE K XR "set"=some none)
  (N:XE K XR "sorted"=some none)
  (au:XE K XR "str"=some none)
  (av:XE K XR "sum"=some none)
  (aa:XE K XR "tuple"=some none)
  (af:XE K XR "zip"=some none)
  (ag:XE K XR "ALL"=some (some (.str "all" o)))
  (xC:XE K XR "BOARD_SIGNS"=some (some (.str "?012345678#" p)))
  (Jr:XE K XR "CLEAR_SIGN"=some (some (.str "." j)))
  (g:j≠0) (b:j<384)
  (xD:XE K XR "CLOSED_SIGN"=some (some (.str "?" q)))
  (xE:XE K XR "FIELD_SIGNS"=some (some (.str ".o#" r)))
  (yE:XE K XR "LONGEST_SIDE"=some (some (.int 8 u)))
  (yF:XE K XR "MOST_OF_PART"=some (some (.int 14 x)))
  (xF:XE K XR "MOST_STONES"=some (some (.int 64 y)))
  (xG:XE K XR "MOST_THINGS"=some (some (.int 30 z)))
  (yG:XE K XR "NO_CELL_SIGN"=some (some (.str "#" A)))
  (Js:XE K XR "STONE_SIGN"=some (some (.str "o" m)))
  (i:m≠0) (d:m<384) :
  ∃fd:XC,(∀(s:X7) (v:X9),Os s fd ⟨[v],[]⟩ [("_law_script",v)])/\∀base:Heap,K.In base->base.Ns XR mg->Zn 384 l.prog w K mg base CX0 14 fa fd ["_law_script"] (zjW K):=by
 revert aj;refine fj λf oc od an sl kV dc pm=>eU λcd ct a l0 c k=>?_;have e:=n.symm.trans (Wb X G a);cases e;have T:Txt mg:=⟨WI X G ak,WI X G al,WI X G ac,WI X G Zh,WI X G am,WI X G Jq,WI X G ao,WI X G ae,WI X G ap,WI X G aq,WI X G Y,WI X G ar,WI X G N,WI X G au,WI X G av,WI X G aa,WI X G af,⟨_,Wb X G ag⟩,⟨_,Wb X G xC⟩,⟨_,Wb X G Jr,g,b⟩,⟨_,Wb X G xD⟩,⟨_,Wb X G xE⟩,⟨_,Wb X G yE⟩,⟨_,Wb X G yF⟩,⟨_,Wb X G xF⟩,⟨_,Wb X G xG⟩,⟨_,Wb X G yG⟩,⟨_,Wb X G Js,i,d⟩⟩;have Z:Prog K mg:=⟨Yj.at X G,yC.at X G,J8.at X G,B.at X G,Jh.at X G,E.at X G,J9.at X G,H.at X G,Yk.at X G,Qu.at X G,Yl.at X G,Za.at X G,Zb.at X G,Ji.at X G,Ym.at X G,O.at X G,I.at X G,ah.at X G,Jj.at X G,Jk.at X G,yk.at X G,yD.at X G,Yn.at X G,Qv.at X G,xr.at X G,Qw.at X G,Jl.at X G,Qx.at X G,J.at X G,xu.at X G,Q.at X G,j6.at X G,Jm.at X G,U.at X G,Yo.at X G,jz.at X G,L.at X G,Jo.at X G,ab.at X G,Yp.at X G,Yq.at X G,xw.at X G,M.at X G,Qy.at X G,Yr.at X G,Zc.at X G,xx.at X G,Jp.at X G,zq4 ai X G,xy.at X G,xA.at X G,Zd.at X G,Ze.at X G,Zf.at X G,Ys.at X G,xB.at X G,Zg.at X G,Yt.at X G,Qz.at X G⟩;have F:=zlu (st:=zg0) l0 c k;have D:zh K mg "law" zg0 ["_law_script"] _ _:=⟨F,Wb X G a,F.binds (ps:=["_law_script"]) (λ_ _ _ _ _ _=>us1 λ_=>rfl)⟩;exact⟨_,λs v=>.of_eq rfl,λbase _ _=>zrf T Z D⟩
def walk {l:O6}{q:Xm}{loose:AE}{XP:(Str->Option X9)->Heap->Prop}{YP:W1->Heap->Prop}{d:N3}{K:NM->XW}(j:l.most=some 63)(b:d.params.defaults=[])
  (g:∀(w:W1) (h:Heap),YP w h->(K w.params).In h)
  (F:∀(w:W1) (mg:Str->Option X9) (c:Addr) (h:Heap),(K w.params).In h->h.Ns XR mg->mg d.name=some (.ref c) ->
   ∃fd:XC,(∀(s:X7) (u:X9),Os s fd ⟨[u],[]⟩ [("_law_script",u)])/\∀base:Heap,(K w.params).In base->base.Ns XR mg->Zn 384 l.prog w (K w.params) mg base CX0 14 c fd ["_law_script"] (zjW (K w.params))) :
  zcG 384 q loose XP YP l.row.toRowW d [] (λf vs=>PySem.call f vs) :=
 L2.zl9 (n:=63) (k:=14) (x:="_law_script") (CX:=λ_=>CX0) (sp:=λw=>zjW (K w.params)) j (by decide) b ⟨rfl,by decide,by decide⟩ g F (λ_ _ a m i _ e=>⟨a,m,rfl,e,i,λ_=>rfl⟩) λ_ _ _ _ _ z=>z
end K62
open PySem PySem.W PyProof.Rows
set_option maxRecDepth 100000 in
set_option maxHeartbeats 0 in
theorem PySem.Challenge.cw_stonelay_k62_runs_walked_holds : PySem.Challenge.rw_stonelay_k62_runs_walked.Holds := by
 refine ZA.early λ{q XP YP d K} hdf hY hn F=>?_;refine K62.walk (l:=PySem.Challenge.rw_stonelay_k62_runs_walked) rfl hdf hY λw mg fa h KX G hmg=>?_;rw[hn]at hmg;refine L2.GS.via λGG hGG=>?_;obtain⟨Yj,yC,J8,zaq,Jh,zar,J9,zas,Yk,Qu,Yl,Za,Zb,Ji,Ym,zcg,zat,ziO,Jj,Jk,yk,yD,Yn,Qv,xr,Qw,Jl,Qx,zau,xu,zch,j6,Jm,zci,Yo,jz,zav,Jo,zfb,Yp,Yq,xw,zaw,Qy,Yr,Zc,xx,Jp,ziP,xy,xA,Zd,Ze,Zf,Ys,xB,Zg,Yt,Qz,ziQ,ziR,ziS,zfc,Zh,ziT,Jq,ziU,zfd,ziV,ziW,zcj,ziX,zax,ziY,ziZ,zck,zi0,⟨_,zi1⟩,⟨_,xC⟩,⟨_,Jr,tz_CLEAR_SIGN,tl_CLEAR_SIGN⟩,⟨_,xD⟩,⟨_,xE⟩,⟨_,yE⟩,⟨_,yF⟩,⟨_,xF⟩,⟨_,xG⟩,⟨_,yG⟩,⟨_,Js,tz_STONE_SIGN,tl_STONE_SIGN⟩⟩:=F w;refine hGG ?_;exact K62.all_mk KX G hmg Yj yC J8 zaq Jh zar J9 zas Yk Qu Yl Za Zb Ji Ym zcg zat ziO Jj Jk yk yD Yn Qv xr Qw Jl Qx zau xu zch j6 Jm zci Yo jz zav Jo zfb Yp Yq xw zaw Qy Yr Zc xx Jp ziP xy xA Zd Ze Zf Ys xB Zg Yt Qz ziQ ziR ziS zfc Zh ziT Jq ziU zfd ziV ziW zcj ziX zax ziY ziZ zck zi0 zi1 xC Jr tz_CLEAR_SIGN tl_CLEAR_SIGN xD xE yE yF xF xG yG Js tz_STONE_SIGN tl_STONE_SIGN