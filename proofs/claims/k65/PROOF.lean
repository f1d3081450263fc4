import PyProof.Rows.All
import KE.IntBitsLaws
import KE.KDictOf
import KE.KDictSum
import KE.KIntText
import KE.KSortTup
import KE.LcSums
import KE.RegKIsAll
import KE.KNestM
import KE.KPairComp
import Lean
import PySem.Challenge.RW_stonelay_k65_no_first_cell
open List renaming length_map->ZB,mem_of_getElem?->X8,getElem?_eq_some_iff->X5,getElem?_eq_getElem->X0,length_append->XX,mem_cons_of_mem->XU,mem_cons_self->XT,mem_filter->XO,mem_append->XN,length_take->XJ,mem_cons->XI,mem_map->XG,take_length->XD,getD_eq_getElem?_getD->XC,map_append->XA,map_cons->Xw,getElem?_map->Xv,size_toArray->Xq,take_add_one->Xp,mem_append_right->Xl,length_cons->Xi,mem_singleton->Xb,take_append_drop->W9,length_filter_le->W7,filter_sublist->W2,replicate->WZ,append_nil->WV,mem_append_left->WQ,append_assoc->WL,nodup_append->WK,drop_eq_getElem_cons->WJ,any_eq_true->WH,filter_append->WF,take_of_length_le->WD,mem_flatten->Wv,nodup_cons->Wq,foldl_cons->Wp,map_map->Wo,flatten_cons->Wn,map_congr_left->Wi,perm_ext_iff_of_nodup->Wf,pairwise_map->Wc,getElem?_append_left->V9,mem_of_mem_take->VW,getElem?_append_right->VV,filter_cons->VO,replicate_succ->VN,countP_eq_length_filter->VH,length_drop->VF,not_mem_nil->VE,countP_cons->VD,mem_range->VB,nodup_nil->VA,filter_eq_nil_iff->Vx,pairwise_iff_getElem->Vu,length_mapIdx->Vp,filter_congr->Vc,range->Va,filterMap_cons->U8,flatten_append->U7,filter_filter->UU,getElem?_eq_none_iff->UQ,length_nil->UO,take_succ_cons->UC,all_eq_true->Ut,length_eq_zero_iff->Uq,length_pos_of_mem->Ug,find?_cons->Ud,countP_le_length->T7,sublist_flatten_of_mem->T2,map->TZ,pairwise_append->TV,any_map->TL,getElem_mem->TH,getElem_of_mem->TC,reverse_append->TB,flatMap_append->Tz,sum_cons->Ts,sum_append->Tl,mem_filterMap->Th,getElem?_drop->Td,length_range->S0,getElem?_set_self->SU,drop_eq_nil_of_le->SQ,countP_eq_countP_filter_add->SM,length_replicate->SK,perm_append_comm->SG,getElem?_eq_none->SD,lookup_cons->Sz,nil_sublist->Sx,any_cons->Sq,map_id->Si,getElem?_set_ne->Sh,mem_of_mem_drop->Se,getElem?_of_mem->Sd,of_mem_zip->Sb,pairwise_cons->RP,ne_nil_of_mem->RO,getElem?_zip_eq_some->RJ,extract_eq_take_drop->RG,isEmpty_eq_false_iff->RC,exists_mem_of_ne_nil->RA,mem_or_eq_of_mem_set->Rz,lookup->Rw,take_sublist->Rs,foldl_append->Rq,drop_sublist->Ro,reverse_perm->Rn,flatMap_cons->Rm,getElem?_take_of_lt->Rf,sublist_append_left->QQ,isEmpty_iff->P8,cons_append->P6,getElem?_cons_succ->PV,Nodup->PJ,length_set->Pm,mem_iff_getElem?->Ph,pairwise_reverse->Pe,filter->O6,drop_drop->OZ,getElem?_mapIdx->OR,map_eq_nil_iff->OF,toList_toArray->OC,length_pos_iff->OA,map_nil->Oe
open PySem renaming wpAny_bind->Y1,Value->X9,Shared->X7,mainGlobals->XV,wpAny_pure->XR,FuncData->XH,sizeLine->Xz,model->Xx,wpAny->Xu,Program->Xs,boot_len->Xk,World->Xd,Paired->Xa,starEach->W6,Around->WY,mem_of_lookup->WE,SetTable->WB,wpAny_mono->WA,compareOp->Ws,wpAny_passesOwn->Wr,PyData->Wj,wpAny_loadPart'->Wg,foldedSetIterable->We,wpAny_loadPart_at->VZ,tupleKind->VX,wpAny_holding->VT,codeAny_builtin->VS,wpAny_newObj_type->VM,cLine->VL,sysModules->VG,wpAny_truthy_bool->Vz,wpAny_execs_nil->Vv,Spec->Vb,bootBuiltins->U4,wpAny_execs_cons->U1,wpAny_call_entry->U0,wpAny_rule->UY,wpAny_Call_Name_kw->UW,Builtin->US,builtinLookup_eq_fast->UR,Scope->UN,plainId_quiet->UH,relabel->UF,storedH->UE,backTo->UB,GenState->UA,binaryOp->Uz,treeTable->Ux,codeAny->Um,rawInt->Ua,wpAny_dictEntries->T5,codeAny_call_builtin->TX,codeAny_mono->TR,wpAny_forIn_list->TJ,behindInMarks->Tv,wpAny_comprehension_free->Tr,wpAny_specialOf->To,typeLookup_type->Tn,entryOfKey->Tk,assignEach->Tj,tupleKind_room_in1->Te,swapsWith->Ta,sizeLine_eq->S9,sliceBounds->S8,callerA->S7,wpAny_pyIter_list->S2,wpAny_pyIter_enum->S1,wpAny_setState_of->SZ,ofAClassStatement->SY,wpAny_isTrue_Compare1->SL,cellsFrom->SA,wpAny_standAt->So,NameKind->Sj,letOwnedTupleGo->Sc,wpAny_setEntries_of->R7,wpAny_typeOf->R5,pyNext->R0,builtinsNs->RY,firstArgMember->RW,wpAny_newFunctionEnv_cells->RM,again->Ry,unsupported->Rx,wpAny_Assign_Name->Ru,wpAny_attempt->Rl,setSearchFrom->Rj,DictEntry->Qr,pickOrder->Qb,checkBuiltinCall->P7,wpAny_isInstance->P1,wpAny_askSetting->PZ,wpAny_callSpecial?_slot->PU,classAt->PN,typeLookup->PM,call_meets->PL,seqIndex_neg->PH,wpAny_getItem_list_neg->Py,wpAny_Call_method_late->Px,codeAny_compStart_list->Pw,Model->Pn,codeAny_call_function->Pj,wpAny_notOrdered_dict->Pi,Result->Pc,compEnvC->Pb,seqIndex_of->Pa,subscripted->O9,storedH_new->O8,hashByValue->O7,intText?->O3,isSubtype_type->O2,wpAny_setField->O0,wpAny_newFunctionEnv->OY,getItem->OO,BindsTo->ON,Keyword->OM,valueAt->OK,PassesOwn->OI,codeAny_forLoop_any->OH,atKey->Oy,attributeBase->Ow,comprehension->Ov,dictSetHashed->Ou,wpAny_newList->Os,DefRec->Oq,wpAny_call->Op,closureFor->Oo,spliced->Ol,OsState->Oj,bindArgs->Oh,ReadsAll->Og,Params->N8,Arguments->N7,pushCells->N6,keywordEach->N5,wpAny_of_eq->N4,Drawn->N2,bindL->N1,bindC->N0,pyIter->NX,IntMulOk->NW,getAttr?->NV,entryFor->NU,CmpOp->NS
open Nat renaming le_trans->X6,le_refl->XW,lt_of_le_of_lt->XM,lt_of_lt_of_le->Xn,ne_of_lt->Xj,zero_le->W3,lt_succ_of_lt->WI,le_succ->Wb,lt_irrefl->VU,zero_add->VQ,succ_ne_self->Vr,le_add_right->Vq,pow_le_pow_right->Vd,ne_of_gt->Uk,lt_or_ge->Uj,not_lt_zero->Uc,le_succ_of_le->T6,le_of_lt->TU,lt_trans->TQ,sub_self->TM,lt_of_lt_of_eq->Tb,succ_pos->S5,lt_succ_self->Sy,succ_le_succ->Sw,mod_lt->RX,add_sub_cancel->RQ,lt_trichotomy->Rp,mul_comm->PF,add_zero->PD,one_le_iff_ne_zero->Pp,add_le_add_right->OX,pow_lt_pow_right->OU,mul_le_mul_right->OT,sub_zero->Oc,pow_succ->Ob
open Array renaming length_toList->X4,getElem?_toList->Xy,toList_append->W4,getElem?_eq_none->WP,getElem?_eq_some_iff->Vw,getElem?_eq_getElem->Vt,size_map->Vf,toList_reverse->Ve,toList_map->UZ,size_reverse->UV,perm_iff_toList_perm->UT,getElem_toList->UJ,size_extract->Ui,getElem?_setIfInBounds->Ub,size_setIfInBounds->Tq,toList_push->SX,size_append->SV,getElem?_extract->SO,append_assoc->RS,forIn_toList->RR,toList_setIfInBounds->RK,getElem?_replicate->Ra,getElem?_reverse->Pq,toList_extract->OV,toList_filter->OG,toList_modify->OD
open PySem.W renaming Frag->XZ,nsIn->XQ,kitOne->Xc,mg_of->WW,mg_none_of->WR,excIn->WN,fnOf->V8,hashAt->VC,mroIn->Vo,codeIn->Vj,keepIn->Vi,findIn->Vh,openEnds->T1,hideAll_get->TF,isClsIn->Tp,callWith_K->Tf,cellsFrom_some->SS,looks_findIn->Sf,looks_mroIn->R9,methodObj->Rv,OpenLaw->Pl,Ground->N9,GoodWG->NY
open PySem.Heap renaming get?_push_of_some->XY,lt_size->XB,get?_push_size->Xg,get?_update_self->Wt,SameBut->V7,size_push->Vg,get?_none_of_le->UK,get?_update_other->Uh,get?_update_ne->R6,FlyingW->Od
open Bool renaming false_ne_true->XS,eq_false_iff->WX,false_eq_true->WG,and_eq_true_iff->WC,not_eq_true'->Wu,eq_iff_iff->Wh,and_eq_true->VP
open PySem.SetTable renaming bits->XF,below->Xr,insertAt->Xh,turns->W5,runEnd->VI,leap->Vn,grown->Uw,sizeAbove->Tc,Probe->RU,advance->P0,fill->Ot
open PyProof.Rows renaming wpS_bind->XE,wpS_pure->Xo,arrOf->Xm,Keyed->Xe,SortSt->WU,pendingOf->WT,boot_isinstance->WO,wpS_forRange->V6,boot_sorted->V0,callWith_type1->VY,boot_dict->U2,wpS_mono->Uy,pairsOf_toList->Uv,seqObj->Uo,boot_min->T9,boot_any->T8,SortKind->T0,wpS_modify->Ti,failedOf->S6,boot_list->SN,boot_max->SF,AllBare->Ss,wpS_get->Sr,reverseSlice'->Sk,mem_zip_self->R4,envOfC->RZ,listItems_at->RD,wpS_lift->QP,subscriptTail_builtinR->Pz,boot_sum->Pd,IntsAre->OL,pairsOf->OJ,getElem?_mirror_all->OE,subscriptTail->Ox,IsTup->N3,signs->NZ
open PySem.PassesOwn renaming never->Xf
open PySem.PyData renaming eqv->W1,canLayAll0->Wd,depthAll->VR,bool->UM,str->UI,canLay0->Uu
open PySem.F renaming plainAttrs_list->WS,slot_list_append->Wm,type_list_append->Wl,slot_list_extend->Vm,type_list_extend->Vl,typeOf_object_class->T3,slot_dict_get->SJ,excBase_ValueError->RL,slot_dict_update->Rb,args_dict_get_3->PY,plainAttrs_dict->PX,plain_list_iadd->PQ,entry_dict_get->Pu,slot_set_iter->Pg,plain_set_new->Pf
open PySem.Value renaming ref->WM,int->Vs,none->Ul,builtin->Tt
open PySem.Heap.SameBut renaming update->Wz
open False renaming elim->Wy
open Int renaming le_trans->Wx,le_of_lt->Ww,emod_lt_of_pos->V5,emod_nonneg->V2,gcd->VJ,le_refl->Vk,toNat_of_nonneg->UD,neg_le_neg->S4,gcd_dvd_right->SW,gcd_dvd_left->Sv,mul_le_mul_of_nonneg_right->Su,zero_add->R3,mul_le_mul->RT,toNat_natCast->Rr,mul_comm->PB,le_ediv_iff_mul_le->Po,natCast_add->Pk,pow_pos->O5,pow_add->O4,not_lt->Om,ofNat_le->Oa
open PySem.Around renaming under_plainId->Wa
open Or renaming inl->V4,inr->PP
open ForInStep renaming yield->V3
open Option renaming isSome_iff_exists->V1,map_eq_some_iff->U3,map_some->UP,getD_some->TK
open PySem.SetTable.below renaming go->Vy
open PySem.Obj renaming mapSeq->U9,data_mapDictKeys->TW,mapFields->Sl,isFreed_of_dict->R8
open PyProof.Rows.F renaming plain_set_update_loop->U6,entry_set_update_loop->Tx
open Ne renaming symm->U5
open PySem.Calls renaming spliced_cons->UX,evalArgs_plain->TY,callWith_builtin->SR,Name_function_global->RN,call_function_entry->RE,spliced_nil->Rt
open PySem.Txt renaming replace->UL
open PySem.Builtin.List renaming listTooLong->UG,listExtendWith->R1,listSameRef->QR
open PySem.Builtin.Str renaming occurrences->Us
open PySem.Builtin.Dict renaming updateFrom->Ur,entriesForEmpty->Sa,addKeywords->Re,selfAndRest->Rc,pairItems->Ps,mergeDict->Pr,quietEq->OW
open List.Sublist renaming length_le->Uf
open PySem.Str renaming join->Ue
open PySem.SetTable.probe renaming go->T4
open PySem.ExcName renaming means->Tw
open PySem.NameKind renaming cell->Tu
open List.Perm renaming append_left->SH,length_eq->Oz
open PySem.Shared renaming TypeIs->Sm
open Classical renaming byContradiction->RI
open Prod.mk renaming injEq->Ri
open PySem.W.WData renaming layableAll->P9
open True renaming intro->PK
open Sum renaming inl->OQ,inr->OP
open PySem.BindsTo renaming of_defaults->OB
open PUnit renaming unit->On
open PySem.W.Hook renaming obs->Oi
open PySem.W.RowW renaming records->Of
set_option Elab.async false
set_option linter.all false
set_option maxRecDepth 100000
theorem bq {c:Prop}{h:Decidable c}(n:¬c){α:Sort _}{t e:α}:ite c t e=e:=if_neg n
theorem bw {c:Prop}{h:Decidable c}(n:c){α:Sort _}{t e:α}:ite c t e=t:=if_pos n
theorem br {p:Prop}[Decidable p](h:p):decide p=true:=decide_eq_true h
theorem bu {p:Prop}[Decidable p]:(decide p=true)=p:=decide_eq_true_eq
theorem bf {p:Prop}[Decidable p](h:¬p):decide p=false:=decide_eq_false h
theorem bg {p:Prop}[Decidable p](h:decide p=true):p:=of_decide_eq_true h
namespace JM
open PySem PySem.W
section
open PySem.Calls PyProof.Rows
abbrev zcj (n0:Nat)(q:Xs)(loose:List Str)(XP:(Str->Option X9)->Heap->Prop)(YP:Xd->Heap->Prop)(r:RowW)(d:Oq)(kwd:List (Str×Expr))(run:X9->List X9->Sem X9):Prop :=
 ∀(w:Xd) (s₀ s₁:X7) (mg mb:Str->Option X9),N9 q loose r.records XP w s₀ mg mb s₁.heap->YP w s₁.heap->n0<=s₁.toks->∀(a:Addr) (o:Obj) (pm cd doc dV kV:X9),s₁.heap.get? a=some o ->
  o.data=.func { docDef d.name d.params d.body d.scope pm cd doc with defaults:=dV,kwdefaults:=kV }->s₁.heap.CodeRec cd d.name->Dflts mg s₁.heap d.params kwd dV kV->mg d.name=some (.ref a)->s₁.gens=#[] ->
  ∀(args:List WData) (vals:List X9) (as:List Addr),r.claim.pre args=true->P9 args=true->ReadsAllW r.records (PN s₀.heap) s₁.heap vals args as->WellAll w.params s₁.heap vals args->(∀a∈as,(a==VG)=false) ->
   Xu (Xx r.prog w) S7 (run (.ref a) vals) (λv s'=>NY r.claim (PN s₀.heap) (Tw s₀.heap) args s₁ (.ok (.ret v)) s')
    (λe s'=>NY r.claim (PN s₀.heap) (Tw s₀.heap) args s₁ (.error e) s') s₁
theorem zjF {n0:Nat}{r:RowW}{run:X9->List X9->Sem X9}{tree:List X9->Sem Fin}{q:Xs}{loose defs kps:List Str}{writes:Bool}{Xt:X7->Bool}{XP:(Str->Option X9)->Heap->Prop}{α:Type}{Yf:X7->α}{Ya:Xd->α}{YP:Xd->Heap->Prop}{N:Nat}
  (left:LeftO r.prog q loose Xt (λs=>(Yf s,decide (n0<=s.toks))) (λw=>(Ya w,true)) N) (hY:∀w s,Yf s=Ya w->YP w s.heap) (hYk:∀w h h',YP w h->(∀b o,h.get? b=some o->h'.get? b=some o)->YP w h') (hX:∀s,Xt s=true->XP (s.heap.nsMap XV) s.heap) (hXk:∀mg h h',XP mg h->(∀b o,h.get? b=some o->h'.get? b=some o)->XP mg h')
  (hRf:∀s,Xt s=true->RecFacts r.records s.heap) (hwr:(!writes || r.records.isEmpty)=true) (ok:(chainsOk q&&opensWell r.prog&&(frees r&&r.within.isEmpty))=true) (hb:r.prog.bare) (hw:r.promised)
  (ht:∀vs (w:Xd) (s:X7) mg f (Q:Fin->X7->Prop) (E:X9->X7->Prop),s.heap.Ns XV mg->mg r.name=some f->Xu (Xx r.prog w) S7 (run f vs) (λv s'=>Q (.done (.ret v)) s') E s->Xu (Xx r.prog w) S7 (tree vs) Q E s)
  (pin:∀w s,s.heap.isNs XV=true->N9 q loose [] XP w s (s.heap.nsMap XV) (s.heap.nsMap RY) s.heap->∀n∈defs,isTheDefsW r.prog s.heap n)
  (call:∀(w:Xd) (s₀ s₁:X7) (mg mb:Str->Option X9),N9 q loose r.records XP w s₀ mg mb s₁.heap->YP w s₁.heap->n0<=s₁.toks->∀(args:List WData) (vs:List X9) (as:List Addr),
   r.claim.pre args=true->P9 args=true->Laid r.records w s₀ s₁ args vs as->VG<s₀.heap.objs.size->∃f,mg r.name=some f /\
    Xu (Xx r.prog w) S7 (run f vs) (λv s'=>NY r.claim (PN s₀.heap) (Tw s₀.heap) args s₁ (.ok (.ret v)) s')
     (λe s'=>NY r.claim (PN s₀.heap) (Tw s₀.heap) args s₁ (.error e) s') s₁):r.claim.HoldsOpenBy (λvs=>⟨tree vs,.builtin "claim.caller" {},default,[]⟩) defs kps writes:=by
 obtain⟨ok,k5⟩:=WC.mp ok;obtain⟨hch,o1⟩:=WC.mp ok;obtain⟨k5,k6⟩:=WC.mp k5;obtain⟨hsame,hu,ha,hap,hm⟩:=frees_parts k5;refine⟨⟨hb,o1,by show r.makers.map _=[];rw[hm];rfl⟩,hw.witness,λw=>⟨(left.behind hX hch w).1,λs' hs'=>?_⟩⟩;obtain⟨s₀,hf,hg0,s,hT,hz,hgens,hg,G00,y⟩:=(left.behind (XP:=λmg h=>XP mg h/\RecFacts r.records h) (λs hs=>⟨hX s hs,hRf s hs⟩) hch w).2 s' hs';have G0:N9 q loose [] XP w s (s.heap.nsMap XV) (s.heap.nsMap RY) s.heap:=⟨G00.T,G00.B,G00.D,G00.TE,G00.TD,G00.W,G00.X.1,G00.cls,G00.has,G00.apart,G00.once,G00.K⟩;have RF:=G00.X.2;have hT':=hT;refine⟨s₀,hf,hg0,s,hT,pin w s hg G0,RF.1,RF.2.1,?_⟩;have hgens:s.gens=#[]:=Array.eq_empty_of_size_eq_zero (beq_iff_eq.mp hgens);have G:N9 q loose r.records XP w s _ _ s.heap:=RF.ground G0;refine ClaimW.callFrom_of_specG (c:=r.claim) hz hgens λargs hpre hlay ord hord=>?_;obtain⟨⟨vs,s₁⟩,hlaid⟩:=V1.mp (layAllW_isSome (P:=w.params) (ord:=ord) G.has args r.args s (pre_splitW hpre).1);have keeps:=layAllW_keeps _ _ _ hlaid;have hal:=layAllW_rest _ _ _ hlaid;obtain⟨as,hrd,hin,hold⟩:=reads_layAllW hord _ _ _ hlaid hlay s₁.heap (λ_ _ e=>e);have L:Laid r.records w s s₁ args vs as:=⟨⟨ord,hord,hlaid⟩,hrd,hin,hold,keeps,hal.1.trans hgens,hal.2.2.1⟩;have G₁:=G.keeps hXk keeps;obtain⟨f,hf,h⟩:=call w s s₁ _ _ G₁ (hYk _ _ _ (hY w s (congrArg Prod.fst y)) keeps) (X6 (bg (congrArg Prod.snd y)) (layAllW_grows _ _ _ hlaid).toks) args vs as hpre hlay L G.low;have hi:=ident_freeW hu ha hap;have hwi:r.claim.within=[]:=P8.mp k6;exact⟨vs,s₁,hlaid,ht vs w s₁ _ f _ _ G₁.T.g hf (WA h (λv s' g=>⟨_,rfl,have z:=g.laid (c:=r.claim) hsame hwi hi L;⟨z.1,z.2.1,z.2.2,λq=>⟨namesKept_of hT' hg kps keeps g.2.1.old,noTable hwr q⟩⟩⟩) λe s' g=>have z:=g.laid (c:=r.claim) hsame hwi hi L;⟨z.1,z.2.1,z.2.2,λq=>⟨namesKept_of hT' hg kps keeps g.2.1.old,noTable hwr q⟩⟩)⟩
theorem zfP {n0:Nat}{r:OpenRow}{q:Xs}{loose:List Str}{Xt:X7->Bool}{XP:(Str->Option X9)->Heap->Prop}{α:Type}{Yf:X7->α}{Ya:Xd->α}{YP:Xd->Heap->Prop}{d:Oq}{kwd:List (Str×Expr)}{N:Nat}
  (left:LeftO r.prog q loose Xt (λs=>(Yf s,decide (n0<=s.toks))) (λw=>(Ya w,true)) N) (hY:∀w s,Yf s=Ya w->YP w s.heap) (hYk:∀w h h',YP w h->(∀b o,h.get? b=some o->h'.get? b=some o)->YP w h')
  (hX:∀s,Xt s=true->XP (s.heap.nsMap XV) s.heap) (hXk:∀mg h h',XP mg h->(∀b o,h.get? b=some o->h'.get? b=some o)->XP mg h')
  (hdef:defOf q r.name=some (d,kwd)) (hp:r.prog.theDef r.name=some (d.params,d.body,d.scope)) (hk:kwWritten? d.params.kwonlyargs d.params.kw_defaults=some kwd) (hRf:∀s,Xt s=true->RecFacts r.records s.heap) (hwr:(!r.writes || r.records.isEmpty)=true)
  (k1:r.wellSaid=true) (ok:(chainsOk q&&opensWell r.prog&&(frees r.toRowW&&r.within.isEmpty))=true) (hb:r.prog.bare) (hw:r.toRowW.promised)
  (call:zcj n0 q loose XP YP r.toRowW d kwd λf vs=>PySem.call f vs):r.Holds:=by
 refine⟨k1,hw,zjF (r:=r.toRowW) (run:=λf vs=>PySem.call f vs) (tree:=λvs=>do match <- nsGet mainNs r.name with
   | some f=>do ret (<- PySem.call f vs)
   | none=>Rx "claim.caller:no-such-global") left hY hYk hX hXk hRf hwr ok hb hw
  (λvs w s mg f Q E hg hf h=>Y1 (wpAny_nsGet hg (by rw[hf];exact Y1 (WA h (λ_ _ x=>XR x) λ_ _ x=>x))))
  (λw s hg G n hn=>?_) λw s₀ s₁ mg mb G Y z args vs as hpre hlay L low=>?_⟩
 .obtain rfl:n=r.name:=by split at hn<;>simp_all
  exact pinned_of_view hg G hdef hp hk
 .obtain⟨a,o,pm,cd,doc,dV,kV,h1,h2,h3,h4,h5⟩:=G.fn hdef;exact⟨.ref a,h1,call w s₀ s₁ mg mb G Y z a o pm cd doc dV kV h2 h3 h4 h5 (defOf_name hdef ▸ h1) L.gens args vs as hpre hlay L.reads L.well (L.low low)⟩
theorem zhs {n0:Nat}{loose:List PySem.Str}{r:OpenRow}{q:Xs}{H:Hook}{d:Oq}{kwd:List (PySem.Str×Expr)}{N:Nat}(left:LeftO r.prog q loose (λs=>xlAt q [] s&&recOk (Of r.toRowW) s) (λs=>(Oi H s,decide (n0<=s.toks))) (λw=>(Hook.val H w,true)) N)
  (hdef:defOf q r.name=some (d,kwd)) (hp:r.prog.theDef r.name=some (d.params,d.body,d.scope)) (hk:kwWritten? d.params.kwonlyargs d.params.kw_defaults=some kwd) (hwr:(!r.writes || r.records.isEmpty)=true)
  (k1:r.wellSaid=true) (ok:(chainsOk q&&opensWell r.prog&&(frees r.toRowW&&r.within.isEmpty))=true) (hb:r.prog.bare) (hw:r.toRowW.promised)
  (call:zcj n0 q loose (XL q []) (Hook.says H) r.toRowW d kwd λf vs=>PySem.call f vs):r.Holds :=
 zfP (q:=q) (loose:=loose) (Xt:=λs=>xlAt q [] s&&recOk (Of r.toRowW) s) (XP:=XL q []) (Yf:=Oi H) (Ya:=Hook.val H) (YP:=Hook.says H) (N:=N) left (Hook.of H) (Hook.keeps H) (λs e=>xl_of s (WC.mp e).1) XL.keeps hdef hp hk
  (λs e=>recFacts_of (WC.mp e).2) hwr k1 ok hb hw call
end
noncomputable def top (i:Nat):Stmt:=PySem.Challenge.pw_stonelay_k65_no_first_cell.main.body.getD i (.Pass ⟨0,0,0,0⟩)
noncomputable def j8 (s:Stmt):N7:=match s with
 | .FunctionDef _ a _ _ _ _ _ _ _ _=>a
 | _=>{ posonlyargs:=[],args:=[],vararg:=none,kwonlyargs:=[],kw_defaults:=[],kwarg:=none,defaults:=[] }
noncomputable def jq (s:Stmt):List Stmt:=match s with
 | .FunctionDef _ _ b _ _ _ _ _ _ _=>b
 | _=>[]
noncomputable def zq (s:Stmt):UN:=match s with
 | .FunctionDef _ _ _ _ _ _ sc _ _ _=>sc
 | _=>{ kind:=.function,names:=[],isGenerator:=false,isCoroutine:=false }
def HD (K:XZ)(x:Str)(i:Nat):Prop:=∃(f:Addr) (oc:X9) (od an:Option Addr) (sl:Array (Option X9)) (kV dc pm cd ct:X9),XQ K XV x=some (some (.ref f))/\K.lookup f=some ⟨oc,od,.func (V8 x x (j8 (top i)) (jq (top i)) (zq (top i)) .none kV dc pm an cd ct),sl⟩/\Vj K cd x=true/\Vi K (.ref f)=true
def HDD (K:XZ)(x:Str)(i:Nat)(v:Str):Prop:=∃(f td:Addr) (oc:X9) (od an:Option Addr) (sl:Array (Option X9)) (kV dc pm cd ct:X9) (ot:Obj) (n:Nat) (t:Tok),XQ K XV x=some (some (.ref f))/\K.lookup f=some ⟨oc,od,.func (V8 x x (j8 (top i)) (jq (top i)) (zq (top i)) (.ref td) kV dc pm an cd ct),sl⟩/\Vj K cd x=true/\Vi K (.ref f)=true/\K.lookup td=some ot/\ot.data=.seq #[.str v t] n
def Jg:List X9:=[.type "ValueError",.type "Exception",.type "BaseException",.type "object"]
structure Facts (K:XZ):Prop where
 Z8:HD K "board_of" 17
 yP:HD K "checked_rows" 18
 J5:HD K "check_row" 19
 zag:HD K "closed" 20
 Jh:HD K "open_cells" 21
 zah:HD K "around" 22
 J6:HD K "number_at" 23
 zai:HD K "opened" 24
 Z9:HD K "cells_of" 25
 Qq:HD K "sign_at" 26
 Yb:HD K "field_of" 31
 J7:HD K "stones_of" 32
 J8:HD K "clears_of" 33
 Ji:HD K "cells_with" 34
 Yc:HD K "board_at" 35
 zb2:HD K "parts" 37
 zaj:HD K "joined" 38
 zis:HD K "far" 39
 Jj:HD K "numbers_of" 40
 Jk:HD K "bare_wrong" 41
 yv:HD K "closed_around" 42
 yQ:HD K "part_layings" 45
 Yd:HD K "needs_at" 46
 Qs:HD K "may_fit" 47
 xD:HD K "part_counts" 48
 Qt:HD K "counted" 49
 Jl:HD K "counted_at" 50
 Qu:HD K "choices" 52
 zak:HD K "poured" 53
 xE:HD K "near_counts" 55
 zb3:HD K "count" 56
 j9:HD K "counts_by_cell" 57
 Jm:HD K "all_poured" 58
 zb4:HD K "dealt" 59
 Ye:HD K "fraction" 61
 jB:HD K "greatest_divisor" 62
 zal:HD K "shares" 64
 Jo:HD K "some_count" 65
 zeF:HD K "sure" 66
 Yg:HD K "asked_by" 69
 Yh:HD K "known_of" 70
 xF:HD K "still_asked" 71
 zam:HD K "gained" 72
 Qv:HD K "settled" 73
 Yi:HD K "thoughts" 76
 J9:HD K "all_steps" 77
 xG:HD K "place_lists" 78
 Jp:HD K "first_step" 79
 zit:HDD K "run" 81 "sure"
 xH:HD K "found_clear" 82
 xJ:HD K "_law_cell_at" 84
 Za:HD K "_law_mixed" 85
 Zb:HD K "_law_field" 86
 Zc:HD K "_law_cells" 87
 Yj:HD K "_law_told" 89
 ziu:HD K "law" 90
 Jq:XQ K XV "ValueError"=some none
 ziv:XQ K XV "abs"=some none
 ziw:XQ K XV "any"=some none
 zeG:XQ K XV "dict"=some none
 Zd:XQ K XV "enumerate"=some none
 zix:XQ K XV "int"=some none
 Jr:XQ K XV "isinstance"=some none
 ziy:XQ K XV "len"=some none
 zeH:XQ K XV "list"=some none
 ziz:XQ K XV "max"=some none
 ziA:XQ K XV "min"=some none
 zb5:XQ K XV "range"=some none
 ziB:XQ K XV "set"=some none
 zan:XQ K XV "sorted"=some none
 ziC:XQ K XV "str"=some none
 ziD:XQ K XV "sum"=some none
 ziE:XQ K XV "zip"=some none
 ziF:∃t,XQ K XV "ALL"=some (some (.str "all" t))
 xK:∃t,XQ K XV "BOARD_SIGNS"=some (some (.str "?012345678#" t))
 Js:∃t,XQ K XV "CLEAR_SIGN"=some (some (.str "." t))/\t≠0/\t<448
 xM:∃t,XQ K XV "CLOSED_SIGN"=some (some (.str "?" t))
 xN:∃t,XQ K XV "FIELD_SIGNS"=some (some (.str ".o#" t))
 yR:∃t,XQ K XV "LONGEST_SIDE"=some (some (.int 8 t))
 yS:∃t,XQ K XV "MOST_OF_PART"=some (some (.int 14 t))
 xO:∃t,XQ K XV "MOST_STONES"=some (some (.int 64 t))
 xP:∃t,XQ K XV "MOST_THINGS"=some (some (.int 30 t))
 yT:∃t,XQ K XV "NO_CELL_SIGN"=some (some (.str "#" t))
 Jt:∃t,XQ K XV "STONE_SIGN"=some (some (.str "o" t))/\t≠0/\t<448
 cls:∃jai jaj jad jaa jac jab jah jaf jae jag:Addr,XQ K XV "StoneError"=some (some (.ref jai))/\XQ K XV "TooGreat"=some (some (.ref jaj))/\XQ K XV "NoLaying"=some (some (.ref jad))/\XQ K XV "NoBoard"=some (some (.ref jaa))/\XQ K XV "NoCount"=some (some (.ref jac))/\XQ K XV "NoCell"=some (some (.ref jab))/\XQ K XV "NoText"=some (some (.ref jah))/\XQ K XV "NoRow"=some (some (.ref jaf))/\XQ K XV "NoNumber"=some (some (.ref jae))/\XQ K XV "NoTable"=some (some (.ref jag))/\WN K jai Jg "ValueError.__new__"=true/\WN K jaj Jg "ValueError.__new__"=true/\WN K jad Jg "ValueError.__new__"=true/\WN K jaa Jg "ValueError.__new__"=true/\WN K jac Jg "ValueError.__new__"=true/\WN K jab Jg "ValueError.__new__"=true/\WN K jah Jg "ValueError.__new__"=true/\WN K jaf Jg "ValueError.__new__"=true/\WN K jae Jg "ValueError.__new__"=true/\WN K jag Jg "ValueError.__new__"=true/\Vh K (.ref jab) "__getattribute__"=some (some (.builtin "BaseException.__getattribute__"))/\Vh K (.ref jab) "__getattr__"=some none/\Vh K (.ref jab) "__class__"=some (some (.builtin "object.__class__"))/\Vo K jab (.type "BaseException")=some true/\Vo K jab (.type "object")=some true/\Tp K jab=true/\Vo K jab (.ref jai)=some true/\Xc K (.ref jab) (.ref jab)=some true/\Xc K (.ref jab) (.ref jac)=some false/\Xc K (.ref jab) (.ref jaj)=some false/\Xc K (.ref jab) (.ref jad)=some false/\Xc K (.ref jab) (.ref jaa)=some false/\Xc K (.ref jab) (.ref jah)=some false/\Xc K (.ref jab) (.ref jaf)=some false/\Xc K (.ref jab) (.ref jae)=some false/\Xc K (.ref jab) (.ref jag)=some false/\Xc K (.ref jab) (.type "ValueError")=some true
end JM
noncomputable def JM.ob:List PySem.Str:="StoneError" :: "NoBoard" :: "NoCount" :: "TooGreat" :: "NoLaying" :: "NoCell" :: "NoText" :: "NoRow" :: "NoNumber" :: "NoTable" :: "CLOSED_SIGN" :: "NO_CELL_SIGN" :: "BOARD_SIGNS" :: "LONGEST_SIDE" :: "MOST_STONES" :: "board_of" :: "checked_rows" :: "check_row" :: "closed" :: "open_cells" :: "around" :: "number_at" :: "opened" :: "cells_of" :: "sign_at" :: "CLEAR_SIGN" :: "STONE_SIGN" :: "FIELD_SIGNS" :: "field_of" :: "stones_of" :: "clears_of" :: "cells_with" :: "board_at" :: "parts" :: "joined" :: "far" :: "numbers_of" :: "bare_wrong" :: "closed_around" :: "MOST_OF_PART" :: "part_layings" :: "needs_at" :: "may_fit" :: "part_counts" :: "counted" :: "counted_at" :: "choices" :: "poured" :: "near_counts" :: "count" :: "counts_by_cell" :: "all_poured" :: "dealt" :: "fraction" :: "greatest_divisor" :: "shares" :: "some_count" :: "sure" :: "ALL" :: "asked_by" :: "known_of" :: "still_asked" :: "gained" :: "settled" :: "MOST_THINGS" :: "thoughts" :: "all_steps" :: "place_lists" :: "first_step" :: "run" :: "found_clear" :: "_law_cell_at" :: "_law_mixed" :: "_law_field" :: "_law_cells" :: "_law_near" :: "_law_told" :: []
noncomputable def JM.view:PySem.Program:={ PySem.Challenge.rw_stonelay_k65_no_first_cell.prog with main:={ PySem.Challenge.rw_stonelay_k65_no_first_cell.prog.main with body:=PySem.Challenge.rw_stonelay_k65_no_first_cell.prog.main.body.drop 90 } }
theorem JM.keep (H:PySem.W.Hook){P:Prop}(h:P):P:=h
local macro_rules | `(tactic| o_head $H)=>`(tactic| refine JM.keep $H ?_)
open PySem PySem.W PyProof.Rows in
set_option maxRecDepth 100000 in
set_option maxHeartbeats 0 in
theorem JM.pre (h:PySem.Challenge.rw_stonelay_k65_no_first_cell.row.Holds):PySem.Challenge.rw_stonelay_k65_no_first_cell.row.Holds:=by
 k_head;exact h
namespace JM
open PySem PySem.W
noncomputable def as:List Addr:=[2,3,15,22,23,24,25,28,35,36,37,40,47,48,49,52,59,60,61,64,71,72,73,76,83,84,85,88,95,96,97,100,107,108,109,112,119,120,121,124,131,132,133,136,138,139,141,142,143,145,146,148,149,150,152,153,155,156,157,160,161,162,165,166,167,169,170,172,173,174,176,177,179,180,181,184,185,186,189,190,191,193,194,196,197,198,200,201,203,204,205,207,208,210,211,212,214,215,217,218,219,222,223,224,227,228,229,231,232,234,235,236,239,240,241,244,245,246,249,250,251,254,255,256,259,260,261,264,265,266,269,270,271,274,275,276,278,279,281,282,283,285,286,288,289,290,293,294,295,297,298,300,301,302,304,305,307,308,309,312,313,314,316,317,319,320,321,324,325,326,328,329,331,332,333,336,337,338,340,341,343,344,345,347,348,350,351,352,355,356,357,359,360,362,363,364,367,368,369,371,372,374,375,376,379,380,381,384,385,386,389,390,391,393,394,396,397,398,401,402,403,406,407,408,411,412,413,416,417,418,419,421,422,424,425,426,428,429,431,432,433,435,436,438,439,440,442,443,445,446,447,449,450,452,453,454,456,457,459,460,468,470,471,473,474,475,477,478,480,481]
theorem cut {E:Option X7}{as:List Addr}{K:Frag}(n:Nat)(a:E.map (λs=>(as.take n).map s.heap.get?)=some ((K.take n).map λp=>some p.2))(b:E.map (λs=>(as.drop n).map s.heap.get?)=some ((K.drop n).map λp=>some p.2)):E.map (λs=>as.map s.heap.get?)=some (K.map λp=>some p.2):=by
 cases E with
 | none=>cases a
 | some s =>
  have e:=congr (congrArg HAppend.hAppend (Option.some.inj a)) (Option.some.inj b);rw[<- XA,<- XA,W9,W9]at e;exact congrArg some e
theorem hook {K:N8->Frag}{as:List Addr}{e:∀P,as=(K P).map (·.1)}{w:Xd}{E:Option X7}(h:E.map (λs=>as.map s.heap.get?)=some ((K w.params).map λp=>some p.2)):E.map (Oi (kHook K as e))=some (Hook.val (kHook K as e) w):=h
theorem he (P:N8):as=(pre.heap_1 P).map (·.1):=by kernel_rfl
noncomputable abbrev OS:=openSeen view ob (importedModules PySem.Challenge.rw_stonelay_k65_no_first_cell.row.prog.main.body) (λs=>xlAt view [] s&&recOk (Of PySem.Challenge.rw_stonelay_k65_no_first_cell.row.toRowW) s) true
set_option maxRecDepth 100000
set_option maxHeartbeats 0
theorem sa (w:Xd):(T1 Ux PySem.Challenge.rw_stonelay_k65_no_first_cell.row.prog w 8082).map (λs=>(OS s,decide (448<=s.toks)))=some (openGood view ob,true):=by kernel_rfl
theorem h0 (w:Xd):(T1 Ux PySem.Challenge.rw_stonelay_k65_no_first_cell.row.prog w 8082).map (λs=>(as.take 95).map s.heap.get?)=some (((pre.heap_1 w.params).take 95).map λp=>some p.2):=by kernel_rfl
theorem h1 (w:Xd):(T1 Ux PySem.Challenge.rw_stonelay_k65_no_first_cell.row.prog w 8082).map (λs=>((as.drop 95).take 95).map s.heap.get?)=some ((((pre.heap_1 w.params).drop 95).take 95).map λp=>some p.2):=by kernel_rfl
theorem h2 (w:Xd):(T1 Ux PySem.Challenge.rw_stonelay_k65_no_first_cell.row.prog w 8082).map (λs=>((as.drop 95).drop 95).map s.heap.get?)=some ((((pre.heap_1 w.params).drop 95).drop 95).map λp=>some p.2):=by kernel_rfl
theorem lift {w:Xd}{α:Type}{Y:X7->α}{y:α}(h:(T1 Ux PySem.Challenge.rw_stonelay_k65_no_first_cell.row.prog w 8082).map Y=some y):(T1 Ux PySem.Challenge.rw_stonelay_k65_no_first_cell.row.prog w 8082).map (λs=>(OS s,(Y s,decide (448<=s.toks))))=some (openGood view ob,(y,true)):=by
 have a:=sa w;generalize T1 Ux PySem.Challenge.rw_stonelay_k65_no_first_cell.row.prog w 8082=E at a h ⊢;cases E with
 | none=>cases a
 | some s =>
  have a:=Option.some.inj a;have h:=Option.some.inj h;exact congrArg some (Prod.ext (congrArg (·.1) a) (Prod.ext h (congrArg (·.2) a)))
theorem hk (w:Xd):(T1 Ux PySem.Challenge.rw_stonelay_k65_no_first_cell.row.prog w 8082).map (λs=>as.map s.heap.get?)=some ((pre.heap_1 w.params).map λp=>some p.2):=(cut (E:=T1 Ux PySem.Challenge.rw_stonelay_k65_no_first_cell.row.prog w 8082) (as:=as) (K:=(pre.heap_1 w.params)) 95 (h0 w) (cut (E:=T1 Ux PySem.Challenge.rw_stonelay_k65_no_first_cell.row.prog w 8082) (as:=(as.drop 95)) (K:=((pre.heap_1 w.params).drop 95)) 95 (h1 w) (h2 w)))
theorem lf (w:Xd):(T1 Ux PySem.Challenge.rw_stonelay_k65_no_first_cell.row.prog w 8082).map (λs=>(OS s,(Oi (kHook pre.heap_1 as he) s,decide (448<=s.toks))))=some (openGood view ob,(Hook.val (kHook pre.heap_1 as he) w,true)):=lift (Y:=Oi (kHook pre.heap_1 as he)) (y:=Hook.val (kHook pre.heap_1 as he) w) (hook (K:=pre.heap_1) (as:=as) (e:=he) (E:=T1 Ux PySem.Challenge.rw_stonelay_k65_no_first_cell.row.prog w 8082) (hk w))
end JM
local macro_rules | `(tactic| o_head $H)=>`(tactic| (refine' JM.zhs (n0:=448) (loose:=JM.ob) (q:=JM.view) (H:=PySem.W.kHook JM.pre.heap_1 JM.as JM.he) (N:=8082) JM.lf (by rfl) (by rfl) (by rfl) (by rfl) (by first | assumption | decide+kernel) (by decide+kernel) ⟨rfl,rfl,rfl,rfl,rfl,by decide+kernel⟩ ?_ ?_))
open PySem PySem.W PyProof.Rows in
set_option maxRecDepth 100000 in
set_option maxHeartbeats 0 in
theorem JM.look:PySem.Challenge.rw_stonelay_k65_no_first_cell.wellSaid=true:=by kernel_rfl
open PySem PySem.W PyProof.Rows in
set_option maxRecDepth 100000 in
set_option maxHeartbeats 0 in
theorem JM.early (h:∀{q:Xs} {XP:(Str->Option X9)->Heap->Prop} {YP:Xd->Heap->Prop} {d:Oq} {K:N8->XZ},d.params.defaults=[]->(∀(w:Xd) (h:Heap),YP w h->(K w.params).In h)->d.name="law"->(∀w:Xd,JM.Facts (K w.params))->JM.zcj 448 q JM.ob XP YP PySem.Challenge.rw_stonelay_k65_no_first_cell.row.toRowW d [] (λf vs=>PySem.call f vs)):PySem.Challenge.rw_stonelay_k65_no_first_cell.Holds:=by
 w_on;refine holds_law JM.look λsaid=>?_;o_head trivial;w_witness2;k_fill;refine h rfl (λw h Y=>PySem.W.kIn_of Y) rfl λw=>?_;constructor;all_goals first | k_is | exact⟨_,_,_,_,_,_,_,_,_,_,by k_is,by k_is,by k_is,by k_is⟩ | exact⟨_,by k_is,by decide,by decide⟩ | exact⟨_,_,_,_,_,_,_,_,_,_,_,_,_,_,by k_is,by k_is,by k_is,by k_is,by k_is,rfl⟩ | exact⟨_,by k_is⟩ | exact⟨_,_,_,_,_,_,_,_,_,_,by k_is,by k_is,by k_is,by k_is,by k_is,by k_is,by k_is,by k_is,by k_is,by k_is,by k_exc,by k_exc,by k_exc,by k_exc,by k_exc,by k_exc,by k_exc,by k_exc,by k_exc,by k_exc,by k_is,by k_is,by k_is,by k_is,by k_is,by k_is,by k_is,by kit_is,by kit_is,by kit_is,by kit_is,by kit_is,by kit_is,by kit_is,by kit_is,by kit_is,by kit_is⟩
noncomputable section
section
variable{α β γ δ ε ζ η θ ι κ μ ν ξ:Sort _}
theorem dH {p q r s:α->β->Prop}(a:α)(b:β)(h:p a b)(A:q a b)(B:r a b)(C:s a b):∃a,∃b,p a b/\q a b/\r a b/\s a b:=⟨a,b,h,A,B,C⟩
theorem dI {p q r:α->Prop}(a:α)(h:p a)(A:q a)(B:r a):∃a,p a/\q a/\r a:=⟨a,h,A,B⟩
theorem dJ {p q:α->Prop}(a:α)(h:p a)(A:q a):∃a,p a/\q a:=⟨a,h,A⟩
theorem dM {p q r:α->β->Prop}(a:α)(b:β)(h:p a b)(A:q a b)(B:r a b):∃a,∃b,p a b/\q a b/\r a b:=⟨a,b,h,A,B⟩
theorem dN {p q r s:α->β->γ->Prop}(a:α)(b:β)(c:γ)(h:p a b c)(A:q a b c)(B:r a b c)(C:s a b c):∃a,∃b,∃c,p a b c/\q a b c/\r a b c/\s a b c:=⟨a,b,c,h,A,B,C⟩
theorem dO {p:α->β->γ->δ->Prop}(a:α)(b:β)(c:γ)(d:δ)(h:p a b c d):∃a,∃b,∃c,∃d,p a b c d:=⟨a,b,c,d,h⟩
theorem dP {p q r s t:α->β->γ->Prop}(a:α)(b:β)(c:γ)(h:p a b c)(A:q a b c)(B:r a b c)(C:s a b c)(D:t a b c):∃a,∃b,∃c,p a b c/\q a b c/\r a b c/\s a b c/\t a b c:=⟨a,b,c,h,A,B,C,D⟩
theorem dQ {p q r s t u:α->β->γ->Prop}(a:α)(b:β)(c:γ)(h:p a b c)(A:q a b c)(B:r a b c)(C:s a b c)(D:t a b c)(E:u a b c):∃a,∃b,∃c,p a b c/\q a b c/\r a b c/\s a b c/\t a b c/\u a b c:=⟨a,b,c,h,A,B,C,D,E⟩
theorem dR {p q r s t:α->β->Prop}(a:α)(b:β)(h:p a b)(A:q a b)(B:r a b)(C:s a b)(D:t a b):∃a,∃b,p a b/\q a b/\r a b/\s a b/\t a b:=⟨a,b,h,A,B,C,D⟩
theorem dS {p q r s t:α->β->γ->δ->Prop}(a:α)(b:β)(c:γ)(d:δ)(h:p a b c d)(A:q a b c d)(B:r a b c d)(C:s a b c d)(D:t a b c d):∃a,∃b,∃c,∃d,p a b c d/\q a b c d/\r a b c d/\s a b c d/\t a b c d:=⟨a,b,c,d,h,A,B,C,D⟩
theorem dU {p q r s t:α->Prop}(a:α)(h:p a)(A:q a)(B:r a)(C:s a)(D:t a):∃a,p a/\q a/\r a/\s a/\t a:=⟨a,h,A,B,C,D⟩
theorem dW {p q r:α->β->Prop}{s:α->β->γ->δ->Prop}{t u v:α->β->γ->δ->ε->ζ->Prop}(a:α)(b:β)(h:p a b)(A:q a b)(B:r a b)(c:γ)(d:δ)(C:s a b c d)(e:ε)(f:ζ)(D:t a b c d e f)(E:u a b c d e f)(F:v a b c d e f):∃a,∃b,p a b/\q a b/\r a b/\∃c,∃d,s a b c d/\∃e,∃f,t a b c d e f/\u a b c d e f/\v a b c d e f:=⟨a,b,h,A,B,c,d,C,e,f,D,E,F⟩
theorem dX {p:α->Prop}{q r s t u:α->β->γ->δ->ε->Prop}(a:α)(h:p a)(b:β)(c:γ)(d:δ)(e:ε)(A:q a b c d e)(B:r a b c d e)(C:s a b c d e)(D:t a b c d e)(E:u a b c d e):∃a,p a/\∃b,∃c,∃d,∃e,q a b c d e/\r a b c d e/\s a b c d e/\t a b c d e/\u a b c d e:=⟨a,h,b,c,d,e,A,B,C,D,E⟩
theorem dY {p q r s t u:α->β->γ->δ->Prop}(a:α)(b:β)(c:γ)(d:δ)(h:p a b c d)(A:q a b c d)(B:r a b c d)(C:s a b c d)(D:t a b c d)(E:u a b c d):∃a,∃b,∃c,∃d,p a b c d/\q a b c d/\r a b c d/\s a b c d/\t a b c d/\u a b c d:=⟨a,b,c,d,h,A,B,C,D,E⟩
theorem dZ {p q r s t u:Prop}(h:p)(A:q)(B:r)(C:s)(D:t)(E:u):p/\q/\r/\s/\t/\u:=⟨h,A,B,C,D,E⟩
theorem eB {p q r s t u:α->β->Prop}(a:α)(b:β)(h:p a b)(A:q a b)(B:r a b)(C:s a b)(D:t a b)(E:u a b):∃a,∃b,p a b/\q a b/\r a b/\s a b/\t a b/\u a b:=⟨a,b,h,A,B,C,D,E⟩
theorem eE {p q r:Prop}(h:p)(A:q)(B:r):p/\q/\r:=⟨h,A,B⟩
theorem eF {p q r s t u:α->β->γ->δ->ε->Prop}(a:α)(b:β)(c:γ)(d:δ)(e:ε)(h:p a b c d e)(A:q a b c d e)(B:r a b c d e)(C:s a b c d e)(D:t a b c d e)(E:u a b c d e):∃a,∃b,∃c,∃d,∃e,p a b c d e/\q a b c d e/\r a b c d e/\s a b c d e/\t a b c d e/\u a b c d e:=⟨a,b,c,d,e,h,A,B,C,D,E⟩
theorem eG {p:α->Prop}{q r:α->β->Prop}(a:α)(h:p a)(b:β)(A:q a b)(B:r a b):∃a,p a/\∃b,q a b/\r a b:=⟨a,h,b,A,B⟩
theorem eH {p q:Prop}{r s:α->Prop}(h:p)(A:q)(a:α)(B:r a)(C:s a):p/\q/\∃a,r a/\s a:=⟨h,A,a,B,C⟩
theorem eK {p:Prop}{q r s t u:α->β->Prop}(h:p)(a:α)(b:β)(A:q a b)(B:r a b)(C:s a b)(D:t a b)(E:u a b):p/\∃a,∃b,q a b/\r a b/\s a b/\t a b/\u a b:=⟨h,a,b,A,B,C,D,E⟩
theorem eO {p:Prop}{q r:α->Prop}(h:p)(a:α)(A:q a)(B:r a):p/\∃a,q a/\r a:=⟨h,a,A,B⟩
theorem eS {p q r s t:α->β->γ->δ->ε->Prop}(a:α)(b:β)(c:γ)(d:δ)(e:ε)(h:p a b c d e)(A:q a b c d e)(B:r a b c d e)(C:s a b c d e)(D:t a b c d e):∃a,∃b,∃c,∃d,∃e,p a b c d e/\q a b c d e/\r a b c d e/\s a b c d e/\t a b c d e:=⟨a,b,c,d,e,h,A,B,C,D⟩
theorem eU {p q r s:Prop}(h:p)(A:q)(B:r)(C:s):p/\q/\r/\s:=⟨h,A,B,C⟩
theorem eV {p q:α->β->γ->Prop}(a:α)(b:β)(c:γ)(h:p a b c)(A:q a b c):∃a,∃b,∃c,p a b c/\q a b c:=⟨a,b,c,h,A⟩
theorem eW {p q:α->β->Prop}(a:α)(b:β)(h:p a b)(A:q a b):∃a,∃b,p a b/\q a b:=⟨a,b,h,A⟩
theorem eX {p:α->Prop}{q r s:α->β->γ->Prop}(a:α)(h:p a)(b:β)(c:γ)(A:q a b c)(B:r a b c)(C:s a b c):∃a,p a/\∃b,∃c,q a b c/\r a b c/\s a b c:=⟨a,h,b,c,A,B,C⟩
theorem eY {p q r s t u v:α->β->γ->δ->ε->Prop}(a:α)(b:β)(c:γ)(d:δ)(e:ε)(h:p a b c d e)(A:q a b c d e)(B:r a b c d e)(C:s a b c d e)(D:t a b c d e)(E:u a b c d e)(F:v a b c d e):∃a,∃b,∃c,∃d,∃e,p a b c d e/\q a b c d e/\r a b c d e/\s a b c d e/\t a b c d e/\u a b c d e/\v a b c d e:=⟨a,b,c,d,e,h,A,B,C,D,E,F⟩
theorem eZ {p q r s t u v:α->β->γ->Prop}(a:α)(b:β)(c:γ)(h:p a b c)(A:q a b c)(B:r a b c)(C:s a b c)(D:t a b c)(E:u a b c)(F:v a b c):∃a,∃b,∃c,p a b c/\q a b c/\r a b c/\s a b c/\t a b c/\u a b c/\v a b c:=⟨a,b,c,h,A,B,C,D,E,F⟩
theorem e8 {p:α->Prop}{q r s t:α->β->γ->Prop}(a:α)(h:p a)(b:β)(c:γ)(A:q a b c)(B:r a b c)(C:s a b c)(D:t a b c):∃a,p a/\∃b,∃c,q a b c/\r a b c/\s a b c/\t a b c:=⟨a,h,b,c,A,B,C,D⟩
theorem e9 {p q r s t:Prop}(h:p)(A:q)(B:r)(C:s)(D:t):p/\q/\r/\s/\t:=⟨h,A,B,C,D⟩
theorem fh {p:α->β->γ->δ->ε->ζ->η->θ->Prop}(a:α)(b:β)(c:γ)(d:δ)(e:ε)(f:ζ)(g:η)(i:θ)(h:p a b c d e f g i):∃a,∃b,∃c,∃d,∃e,∃f,∃g,∃i,p a b c d e f g i:=⟨a,b,c,d,e,f,g,i,h⟩
theorem fj {p q r s t:α->β->γ->δ->ε->ζ->Prop}(a:α)(b:β)(c:γ)(d:δ)(e:ε)(f:ζ)(h:p a b c d e f)(A:q a b c d e f)(B:r a b c d e f)(C:s a b c d e f)(D:t a b c d e f):∃a,∃b,∃c,∃d,∃e,∃f,p a b c d e f/\q a b c d e f/\r a b c d e f/\s a b c d e f/\t a b c d e f:=⟨a,b,c,d,e,f,h,A,B,C,D⟩
theorem fk {p q r s:α->Prop}(a:α)(h:p a)(A:q a)(B:r a)(C:s a):∃a,p a/\q a/\r a/\s a:=⟨a,h,A,B,C⟩
theorem fm {p:α->Prop}{q r s t:α->β->γ->δ->ε->Prop}{u v w:α->β->γ->δ->ε->ζ->Prop}(a:α)(h:p a)(b:β)(c:γ)(d:δ)(e:ε)(A:q a b c d e)(B:r a b c d e)(C:s a b c d e)(D:t a b c d e)(f:ζ)(E:u a b c d e f)(F:v a b c d e f)(G:w a b c d e f):∃a,p a/\∃b,∃c,∃d,∃e,q a b c d e/\r a b c d e/\s a b c d e/\t a b c d e/\∃f,u a b c d e f/\v a b c d e f/\w a b c d e f:=⟨a,h,b,c,d,e,A,B,C,D,f,E,F,G⟩
theorem fq {p q r s t u v:Prop}(h:p)(A:q)(B:r)(C:s)(D:t)(E:u)(F:v):p/\q/\r/\s/\t/\u/\v:=⟨h,A,B,C,D,E,F⟩
theorem fu {p:Prop}{q r s t u v:α->β->Prop}(h:p)(a:α)(b:β)(A:q a b)(B:r a b)(C:s a b)(D:t a b)(E:u a b)(F:v a b):p/\∃a,∃b,q a b/\r a b/\s a b/\t a b/\u a b/\v a b:=⟨h,a,b,A,B,C,D,E,F⟩
theorem fy {p q:α->β->Prop}{r s:α->β->γ->Prop}(a:α)(b:β)(h:p a b)(A:q a b)(c:γ)(B:r a b c)(C:s a b c):∃a,∃b,p a b/\q a b/\∃c,r a b c/\s a b c:=⟨a,b,h,A,c,B,C⟩
theorem fB {p:α->Prop}{q r s t:α->β->γ->δ->Prop}(a:α)(h:p a)(b:β)(c:γ)(d:δ)(A:q a b c d)(B:r a b c d)(C:s a b c d)(D:t a b c d):∃a,p a/\∃b,∃c,∃d,q a b c d/\r a b c d/\s a b c d/\t a b c d:=⟨a,h,b,c,d,A,B,C,D⟩
theorem fC {p q r s t:α->β->γ->δ->ε->ζ->η->Prop}(a:α)(b:β)(c:γ)(d:δ)(e:ε)(f:ζ)(g:η)(h:p a b c d e f g)(A:q a b c d e f g)(B:r a b c d e f g)(C:s a b c d e f g)(D:t a b c d e f g):∃a,∃b,∃c,∃d,∃e,∃f,∃g,p a b c d e f g/\q a b c d e f g/\r a b c d e f g/\s a b c d e f g/\t a b c d e f g:=⟨a,b,c,d,e,f,g,h,A,B,C,D⟩
theorem fD {p q r s:α->β->γ->δ->Prop}(a:α)(b:β)(c:γ)(d:δ)(h:p a b c d)(A:q a b c d)(B:r a b c d)(C:s a b c d):∃a,∃b,∃c,∃d,p a b c d/\q a b c d/\r a b c d/\s a b c d:=⟨a,b,c,d,h,A,B,C⟩
theorem fE {p q r:α->β->Prop}{s t u v:α->β->γ->δ->Prop}(a:α)(b:β)(h:p a b)(A:q a b)(B:r a b)(c:γ)(d:δ)(C:s a b c d)(D:t a b c d)(E:u a b c d)(F:v a b c d):∃a,∃b,p a b/\q a b/\r a b/\∃c,∃d,s a b c d/\t a b c d/\u a b c d/\v a b c d:=⟨a,b,h,A,B,c,d,C,D,E,F⟩
theorem fF {p q r:α->β->Prop}{s t:α->β->γ->δ->Prop}(a:α)(b:β)(h:p a b)(A:q a b)(B:r a b)(c:γ)(d:δ)(C:s a b c d)(D:t a b c d):∃a,∃b,p a b/\q a b/\r a b/\∃c,∃d,s a b c d/\t a b c d:=⟨a,b,h,A,B,c,d,C,D⟩
theorem fG {p:α->β->Prop}(a:α)(b:β)(h:p a b):∃a,∃b,p a b:=⟨a,b,h⟩
theorem fH {p q r s:α->β->Prop}{Z:Prop}(k:∀a,∀b,p a b->q a b->r a b->s a b->Z):(∃a,∃b,p a b/\q a b/\r a b/\s a b)->Z:=λ⟨a,b,h,A,B,C⟩=>k a b h A B C
theorem fJ {p q:α->Prop}{Z:Prop}(k:∀a,p a->q a->Z):(∃a,p a/\q a)->Z:=λ⟨a,h,A⟩=>k a h A
theorem fK {p q r:α->β->Prop}{Z:Prop}(k:∀a,∀b,p a b->q a b->r a b->Z):(∃a,∃b,p a b/\q a b/\r a b)->Z:=λ⟨a,b,h,A,B⟩=>k a b h A B
theorem fL {p q:α->β->Prop}{Z:Prop}(k:∀a,∀b,p a b->q a b->Z):(∃a,∃b,p a b/\q a b)->Z:=λ⟨a,b,h,A⟩=>k a b h A
theorem fM {p:α->β->γ->δ->Prop}{Z:Prop}(k:∀a,∀b,∀c,∀d,p a b c d->Z):(∃a,∃b,∃c,∃d,p a b c d)->Z:=λ⟨a,b,c,d,h⟩=>k a b c d h
theorem fN {p q:Prop}{Z:Prop}(k:p->q->Z):(p/\q)->Z:=λ⟨h,A⟩=>k h A
theorem fO {p q r:Prop}{Z:Prop}(k:p->q->r->Z):(p/\q/\r)->Z:=λ⟨h,A,B⟩=>k h A B
theorem fP {p q r:α->Prop}{Z:Prop}(k:∀a,p a->q a->r a->Z):(∃a,p a/\q a/\r a)->Z:=λ⟨a,h,A,B⟩=>k a h A B
theorem fQ {p:α->β->γ->δ->ε->ζ->η->θ->Prop}{Z:Prop}(k:∀a,∀b,∀c,∀d,∀e,∀f,∀g,∀i,p a b c d e f g i->Z):(∃a,∃b,∃c,∃d,∃e,∃f,∃g,∃i,p a b c d e f g i)->Z:=λ⟨a,b,c,d,e,f,g,i,h⟩=>k a b c d e f g i h
theorem fR {p q:α->β->γ->Prop}{Z:Prop}(k:∀a,∀b,∀c,p a b c->q a b c->Z):(∃a,∃b,∃c,p a b c/\q a b c)->Z:=λ⟨a,b,c,h,A⟩=>k a b c h A
theorem fS {p q r s t:α->β->Prop}{Z:Prop}(k:∀a,∀b,p a b->q a b->r a b->s a b->t a b->Z):(∃a,∃b,p a b/\q a b/\r a b/\s a b/\t a b)->Z:=λ⟨a,b,h,A,B,C,D⟩=>k a b h A B C D
theorem fT {p q r s t u:α->β->γ->Prop}{Z:Prop}(k:∀a,∀b,∀c,p a b c->q a b c->r a b c->s a b c->t a b c->u a b c->Z):(∃a,∃b,∃c,p a b c/\q a b c/\r a b c/\s a b c/\t a b c/\u a b c)->Z:=λ⟨a,b,c,h,A,B,C,D,E⟩=>k a b c h A B C D E
theorem fU {p:α->Prop}{q r:α->β->Prop}{Z:Prop}(k:∀a,p a->∀b,q a b->r a b->Z):(∃a,p a/\∃b,q a b/\r a b)->Z:=λ⟨a,h,b,A,B⟩=>k a h b A B
theorem fV {p q r s t:α->β->γ->Prop}{Z:Prop}(k:∀a,∀b,∀c,p a b c->q a b c->r a b c->s a b c->t a b c->Z):(∃a,∃b,∃c,p a b c/\q a b c/\r a b c/\s a b c/\t a b c)->Z:=λ⟨a,b,c,h,A,B,C,D⟩=>k a b c h A B C D
theorem fW {p q:Prop}{r s:α->Prop}{Z:Prop}(k:p->q->∀a,r a->s a->Z):(p/\q/\∃a,r a/\s a)->Z:=λ⟨h,A,a,B,C⟩=>k h A a B C
theorem fX {p q r s t:Prop}{Z:Prop}(k:p->q->r->s->t->Z):(p/\q/\r/\s/\t)->Z:=λ⟨h,A,B,C,D⟩=>k h A B C D
theorem fY {p q r s:α->β->γ->Prop}{Z:Prop}(k:∀a,∀b,∀c,p a b c->q a b c->r a b c->s a b c->Z):(∃a,∃b,∃c,p a b c/\q a b c/\r a b c/\s a b c)->Z:=λ⟨a,b,c,h,A,B,C⟩=>k a b c h A B C
theorem fZ {p q r s:Prop}{Z:Prop}(k:p->q->r->s->Z):(p/\q/\r/\s)->Z:=λ⟨h,A,B,C⟩=>k h A B C
theorem gb {p q r s t u:α->β->Prop}{Z:Prop}(k:∀a,∀b,p a b->q a b->r a b->s a b->t a b->u a b->Z):(∃a,∃b,p a b/\q a b/\r a b/\s a b/\t a b/\u a b)->Z:=λ⟨a,b,h,A,B,C,D,E⟩=>k a b h A B C D E
theorem gc {p q r s t u:Prop}{Z:Prop}(k:p->q->r->s->t->u->Z):(p/\q/\r/\s/\t/\u)->Z:=λ⟨h,A,B,C,D,E⟩=>k h A B C D E
theorem gf {p q r s t:α->β->γ->δ->Prop}{Z:Prop}(k:∀a,∀b,∀c,∀d,p a b c d->q a b c d->r a b c d->s a b c d->t a b c d->Z):(∃a,∃b,∃c,∃d,p a b c d/\q a b c d/\r a b c d/\s a b c d/\t a b c d)->Z:=λ⟨a,b,c,d,h,A,B,C,D⟩=>k a b c d h A B C D
theorem gg {p q:α->β->γ->δ->ε->Prop}{Z:Prop}(k:∀a,∀b,∀c,∀d,∀e,p a b c d e->q a b c d e->Z):(∃a,∃b,∃c,∃d,∃e,p a b c d e/\q a b c d e)->Z:=λ⟨a,b,c,d,e,h,A⟩=>k a b c d e h A
theorem gi {p q r:α->β->γ->Prop}{Z:Prop}(k:∀a,∀b,∀c,p a b c->q a b c->r a b c->Z):(∃a,∃b,∃c,p a b c/\q a b c/\r a b c)->Z:=λ⟨a,b,c,h,A,B⟩=>k a b c h A B
theorem gj {p q r s t:α->Prop}{Z:Prop}(k:∀a,p a->q a->r a->s a->t a->Z):(∃a,p a/\q a/\r a/\s a/\t a)->Z:=λ⟨a,h,A,B,C,D⟩=>k a h A B C D
theorem gk {p q r s:α->β->γ->δ->Prop}{Z:Prop}(k:∀a,∀b,∀c,∀d,p a b c d->q a b c d->r a b c d->s a b c d->Z):(∃a,∃b,∃c,∃d,p a b c d/\q a b c d/\r a b c d/\s a b c d)->Z:=λ⟨a,b,c,d,h,A,B,C⟩=>k a b c d h A B C
theorem gn {p q r s t u v:α->β->γ->Prop}{Z:Prop}(k:∀a,∀b,∀c,p a b c->q a b c->r a b c->s a b c->t a b c->u a b c->v a b c->Z):(∃a,∃b,∃c,p a b c/\q a b c/\r a b c/\s a b c/\t a b c/\u a b c/\v a b c)->Z:=λ⟨a,b,c,h,A,B,C,D,E,F⟩=>k a b c h A B C D E F
theorem gp {p q r s t u:α->β->γ->δ->ε->Prop}{Z:Prop}(k:∀a,∀b,∀c,∀d,∀e,p a b c d e->q a b c d e->r a b c d e->s a b c d e->t a b c d e->u a b c d e->Z):(∃a,∃b,∃c,∃d,∃e,p a b c d e/\q a b c d e/\r a b c d e/\s a b c d e/\t a b c d e/\u a b c d e)->Z:=λ⟨a,b,c,d,e,h,A,B,C,D,E⟩=>k a b c d e h A B C D E
theorem gq {p q:α->β->γ->δ->Prop}{Z:Prop}(k:∀a,∀b,∀c,∀d,p a b c d->q a b c d->Z):(∃a,∃b,∃c,∃d,p a b c d/\q a b c d)->Z:=λ⟨a,b,c,d,h,A⟩=>k a b c d h A
theorem gr {p q r s:α->Prop}{Z:Prop}(k:∀a,p a->q a->r a->s a->Z):(∃a,p a/\q a/\r a/\s a)->Z:=λ⟨a,h,A,B,C⟩=>k a h A B C
theorem gu {p q r s t:α->β->γ->δ->ε->Prop}{Z:Prop}(k:∀a,∀b,∀c,∀d,∀e,p a b c d e->q a b c d e->r a b c d e->s a b c d e->t a b c d e->Z):(∃a,∃b,∃c,∃d,∃e,p a b c d e/\q a b c d e/\r a b c d e/\s a b c d e/\t a b c d e)->Z:=λ⟨a,b,c,d,e,h,A,B,C,D⟩=>k a b c d e h A B C D
theorem gw {p q:α->Prop}{r:α->β->Prop}{Z:Prop}(k:∀a,p a->q a->∀b,r a b->Z):(∃a,p a/\q a/\∃b,r a b)->Z:=λ⟨a,h,A,b,B⟩=>k a h A b B
theorem gx {p:Prop}{q r s:α->β->Prop}{Z:Prop}(k:p->∀a,∀b,q a b->r a b->s a b->Z):(p/\∃a,∃b,q a b/\r a b/\s a b)->Z:=λ⟨h,a,b,A,B,C⟩=>k h a b A B C
theorem gy {p:α->Prop}{q r s:α->β->γ->Prop}{Z:Prop}(k:∀a,p a->∀b,∀c,q a b c->r a b c->s a b c->Z):(∃a,p a/\∃b,∃c,q a b c/\r a b c/\s a b c)->Z:=λ⟨a,h,b,c,A,B,C⟩=>k a h b c A B C
theorem gz {p:α->Prop}{q r s t:α->β->γ->δ->Prop}{Z:Prop}(k:∀a,p a->∀b,∀c,∀d,q a b c d->r a b c d->s a b c d->t a b c d->Z):(∃a,p a/\∃b,∃c,∃d,q a b c d/\r a b c d/\s a b c d/\t a b c d)->Z:=λ⟨a,h,b,c,d,A,B,C,D⟩=>k a h b c d A B C D
theorem gA {p q:Prop}{r:α->Prop}{s t:α->β->γ->δ->Prop}{Z:Prop}(k:p->q->∀a,r a->∀b,∀c,∀d,s a b c d->t a b c d->Z):(p/\q/\∃a,r a/\∃b,∃c,∃d,s a b c d/\t a b c d)->Z:=λ⟨h,A,a,B,b,c,d,C,D⟩=>k h A a B b c d C D
theorem gC {p q r s t u:α->β->γ->δ->Prop}{Z:Prop}(k:∀a,∀b,∀c,∀d,p a b c d->q a b c d->r a b c d->s a b c d->t a b c d->u a b c d->Z):(∃a,∃b,∃c,∃d,p a b c d/\q a b c d/\r a b c d/\s a b c d/\t a b c d/\u a b c d)->Z:=λ⟨a,b,c,d,h,A,B,C,D,E⟩=>k a b c d h A B C D E
theorem gD {p:α->β->γ->δ->ε->Prop}{Z:Prop}(k:∀a,∀b,∀c,∀d,∀e,p a b c d e->Z):(∃a,∃b,∃c,∃d,∃e,p a b c d e)->Z:=λ⟨a,b,c,d,e,h⟩=>k a b c d e h
theorem gE {p:α->β->γ->Prop}{Z:Prop}(k:∀a,∀b,∀c,p a b c->Z):(∃a,∃b,∃c,p a b c)->Z:=λ⟨a,b,c,h⟩=>k a b c h
theorem gF {p:α->β->Prop}{Z:Prop}(k:∀a,∀b,p a b->Z):(∃a,∃b,p a b)->Z:=λ⟨a,b,h⟩=>k a b h
end
abbrev AD:=List PySem.Str
abbrev  AA:=Nat×Nat
abbrev AB:=List AA
namespace L2
open PySem PySem.Spec PyProof.Rows
abbrev Key:=Sum Int Str
def zdP:Key->X9->Bool
 | .inl k,v=>Value.isInt k v
 | .inr x,v=>Value.isStrOf x v
def zpm (w:Xd):Key->Int
 | .inl k=>hashInt k
 | .inr x=>hashStr w x
theorem jd:∀{k:Key} {v:X9},zdP k v=true->(∃i t,k=OQ i/\v=Vs i t)\/(∃x t,k=OP x/\v=Value.str x t)
 | .inl i,v,h=>by
  obtain⟨t,e⟩:=Value.isInt_shape (k:=i) (v:=v) h;exact .inl ⟨i,t,rfl,e⟩
 | .inr x,v,h=>by
  obtain⟨t,e⟩:=Value.isStrOf_shape (x:=x) (v:=v) h;exact .inr ⟨x,t,rfl,e⟩
def za3 (i:Int)(t:Tok):zdP (.inl i) (.int i t)=true:=by simp[zdP,Value.isInt]
def zjG (x:Str)(t:Tok):zdP (.inr x) (.str x t)=true:=by simp[zdP,Value.isStrOf]
def zpn (a b:Int):decide ((OQ a:Key)=OQ b)=(a==b):=by
 by_cases e:a=b
 .subst e;simp
 .have h:¬ (OQ a:Key)=OQ b:=λq=>e (Sum.inl.inj q);rw[bf h];exact(beq_eq_false_iff_ne.mpr e).symm
def zpo (a b:Str):decide ((OP a:Key)=OP b)=decide (a=b):=by
 by_cases e:a=b
 .subst e;simp
 .have h:¬ (OP a:Key)=OP b:=λq=>e (Sum.inr.inj q);rw[bf h,bf e]
def zpp (a:Int)(b:Str):decide ((OQ a:Key)=OP b)=false:=bf (λq=>nomatch q)
def zpq (a:Str)(b:Int):decide ((OP a:Key)=OQ b)=false:=bf (λq=>nomatch q)
def zY (prog:Xs)(w:Xd):PySem.KeyKind prog w Key where
 is:=zdP
 hash:=zpm w
 inj:=λv a b ha hb=>by
  rcases jd ha with ⟨i,t,rfl,rfl⟩ | ⟨x,t,rfl,rfl⟩
  .rcases jd hb with ⟨j,u,rfl,e⟩ | ⟨y,u,rfl,e⟩
   .injection e with e1 _;rw[e1]
   .exact nomatch e
  .rcases jd hb with ⟨j,u,rfl,e⟩ | ⟨y,u,rfl,e⟩
   .exact nomatch e
   .injection e with e1 _;rw[e1]
 byValue:=λk v h=>by
  rcases jd h with ⟨i,t,rfl,rfl⟩ | ⟨x,t,rfl,rfl⟩<;>rfl
 pyHash:=λhv h=>by
  rcases jd hv with ⟨i,t,rfl,rfl⟩ | ⟨x,t,rfl,rfl⟩
  .exact wpAny_pyHash_int h
  .exact wpAny_pyHash_str h
 eqBool:=λhu hv h=>by
  rcases jd hu with ⟨i,t,rfl,rfl⟩ | ⟨x,t,rfl,rfl⟩
  .rcases jd hv with ⟨j,u,rfl,rfl⟩ | ⟨y,u,rfl,rfl⟩
   .rw[zpn]at h;exact wpAny_eqBool_int h
   .rw[zpp]at h;exact SeqAt.EqAt.int_str i t y u _ _ _ _ h
  .rcases jd hv with ⟨j,u,rfl,rfl⟩ | ⟨y,u,rfl,rfl⟩
   .rw[zpq]at h;exact SeqAt.EqAt.str_int x t j u _ _ _ _ h
   .rw[zpo]at h;exact wpAny_eqBool_str h
 «strs»:=λk x t v h=>by
  rcases jd h with ⟨i,u,rfl,e⟩ | ⟨y,u,rfl,e⟩
  .exact nomatch e
  .injection e with e1 _
   subst e1;cases v<;>rfl
def zfQ (prog:Xs)(w:Xd)(i:Int)(t:Tok):(zY prog w).is (.inl i) (.int i t)=true:=za3 i t
def zfR (prog:Xs)(w:Xd)(x:Str)(t:Tok):(zY prog w).is (.inr x) (.str x t)=true:=zjG x t
inductive V where
 | non | bl (b:Bool) | int (i:Int) | str (x:Str) | byt (b:Array UInt8) | flt (b:UInt64) | ref (a:Addr) | ty (n:String)
 deriving DecidableEq
abbrev AE:=List V
def RelV:V->X9->Prop
 | .non,u=>u=Ul
 | .bl b,u=>u=Value.bool b
 | .int i,u=>∃t,u=Vs i t
 | .str x,u=>∃t,u=Value.str x t
 | .byt b,u=>∃t,u=Value.bytes b t
 | .flt b,u=>∃t,u=Value.float b t
 | .ref a,u=>u=WM a
 | .ty n,u=>u=Value.type n
abbrev Vals:AE->List X9->Prop:=Xa RelV
theorem Vals.length {xs:AE}{a:List X9}(r:Vals xs a):xs.length=a.length:=Paired.length r
theorem Vals.get:∀{xs:AE} {a:List X9} {i:Nat} {x:V},Vals xs a->xs[i]?=some x->∃u,a[i]?=some u/\RelV x u
 | _,_,_,_,.nil,e=>by simp at e
 | _,_,0,_,.cons r _,e=>by simp at e;subst e;exact⟨_,rfl,r⟩
 | _,_,i+1,x,.cons _ t,e=>by
  obtain⟨u,h1,h2⟩:=Vals.get (i:=i) (x:=x) t (by simpa using e);exact⟨u,by simpa using h1,h2⟩
theorem Vals.set {x:V}{u:X9}(r:RelV x u):∀{xs:AE} {a:List X9} (i:Nat),Vals xs a->Vals (xs.set i x) (a.set i u)
 | _,_,_,.nil=>.nil
 | _,_,0,.cons _ t=>.cons r t
 | _,_,i+1,.cons q t=>.cons q (Vals.set r i t)
theorem Vals.append:∀{xs ys:AE} {a b:List X9},Vals xs a->Vals ys b->Vals (xs++ys) (a++b)
 | _,_,_,_,.nil,s=>s
 | _,_,_,_,.cons r t,s=>.cons r (Vals.append t s)
theorem Vals.take:∀{xs:AE} {a:List X9} (n:Nat),Vals xs a->Vals (xs.take n) (a.take n)
 | _,_,0,_=>.nil
 | _,_,_+1,.nil=>.nil
 | _,_,n+1,.cons r t=>.cons r (Vals.take n t)
theorem Vals.drop:∀{xs:AE} {a:List X9} (n:Nat),Vals xs a->Vals (xs.drop n) (a.drop n)
 | _,_,0,r=>r
 | _,_,_+1,.nil=>.nil
 | _,_,n+1,.cons _ t=>Vals.drop n t
def zbV:Option V->Option X9->Prop
 | some v,some u=>RelV v u
 | none,none=>True
 | _,_=>False
def KV {a:Type}:List (a × V)->List (a × X9)->Prop:=Xa λ(p:a × V) (q:a × X9)=>p.1=q.1/\RelV p.2 q.2
def kV:Key->V
 | .inl i=>.int i
 | .inr x=>.str x
inductive HO where
  | lst (xs:AE)
  | tup (xs:AE)
  | dK (kvs:List (Key×V)) | dT (kvs:List (List Key×V))
  | set (S:Int->Bool) (n:Nat)
  | ins (C dx:Addr) (fs:List (Str×V))
  | own (x:Addr)
  | xd (fs:List (Str×V))
  | met (f x:Addr)
  | rng (lo hi:Int)
  | frz (o:Obj) (u:HO)
  | tbl (ps:Array X9)
  | ext (φ:Heap->Prop)
abbrev Hp:=Addr->Option HO
def upd (H:Hp)(a:Addr)(o:HO):Hp:=λb=>if b=a then some o else H b
def zb {H:Hp}{a:Addr}{o:HO}:upd H a o a=some o:=by unfold upd;rw[bw rfl]
def zp {H:Hp}{a b:Addr}{o:HO}(h:b≠a):upd H a o b=H b:=by unfold upd;rw[bq h]
def zdQ {H:Hp}{a b:Addr}{o u:HO}(h:H a=some o)(h':H b=some u)(d:o≠u):a≠b:=by
 intro e;subst e;rw[h]at h';exact d (Option.some.inj h')
def zg {H:Hp}{a b:Addr}{o:HO}(h:H a=some o)(h':H b=none):a≠b:=by
 intro e;subst e;rw[h]at h';cases h'
section
variable (P:Xs)(w:Xd)
def jJ (H:Hp)(h:Heap)(a:Addr):HO->Prop
 | .lst xs=>xs.length<=Xz/\∃(b:List X9) (n:Nat),Vals xs b/\h.get? a=some { cls:=.type "list",data:=.seq b.toArray n }
 | .tup xs=>xs.length<=Xz/\∃b:List X9,Vals xs b/\N3 h a b.toArray
 | .dK c=>c.length<=Xz/\(a==VG)=false/\∃j,KV c j/\h.DictOf (zY P w) a j
 | .dT c=>c.length<=Xz/\(a==VG)=false/\∃xs:List (List Key×Addr×X9),
   Xa (λ(p:List Key×V) (q:List Key×Addr×X9)=>p.1=q.1/\H q.2.1=some (.tup (p.1.map kV))/\RelV p.2 q.2.2) c xs /\
   ∃o i k,h.get? a=some o/\o.ExactDict/\o.data=.dict i k/\i.toList=xs.map (Tk (VX (zY P w)))/\(xs.map (·.1)).Nodup
 | .set S n=>h.SetOf (intKind P w) a S n
 | .ins C e fs=>H e=some (.own a)/\fs.length<=1000/\e≠a/\h.get? a=some (PySem.W.instObj C e) /\
   ∃d,h.Ns1 e d/\(∀f,zbV (fs.lookup f) (d f))/\PySem.Within d (fs.map (·.1))
 | .own _=>∃o,h.get? a=some o
 | .xd fs=>∃d,h.Ns1 a d/\∀f,zbV (fs.lookup f) (d f)
 | .rng lo l=>∃t u v,h.get? a=some { cls:=.type "range",data:=.fields #[.int lo t,.int l u,.int 1 v] }
 | .frz o u=>h.get? a=some o/\jJ H h a u
 | .tbl m=>h.get? a=some { cls:=.none,data:=.fields m }
 | .met f x=>h.get? a=some (Rv (.ref f) (.ref x))
 | .ext g=>g h/\(∃o,h.get? a=some o)/\∀h1 h2:Heap,g h1->(∀o,h1.get? a=some o->h2.get? a=some o)->g h2
def HOk (H:Hp)(h:Heap):Prop:=∀a o,H a=some o->jJ P w H h a o
end
section
variable {P:Xs}{w:Xd}{H H':Hp}{h h':Heap}{a:Addr}{o:HO}
theorem jJ.lt (x:jJ P w H h a o):a<h.objs.size:=by
 cases o with
 | lst c=>obtain⟨_,_,_,_,e⟩:=x;exact XB e
 | tup c=>obtain⟨_,_,_,p⟩:=x;exact p.lt
 | dK b=>revert x;refine gA λ_ _ _ _ o _ _ e _=>?_;exact XB e
 | dT b=>revert x;refine gA λ_ _ _ _ o _ _ e _=>?_;exact XB e
 | set S n=>revert x;refine gq λo _ _ _ e _=>?_;exact XB e
 | ins C d fs=>obtain⟨_,_,_,e,_⟩:=x;exact XB e
 | own y=>obtain⟨_,e⟩:=x;exact XB e
 | xd fs=>obtain⟨_,⟨_,_,_,e,_⟩,_⟩:=x;exact XB e
 | rng lo g=>obtain⟨_,_,_,e⟩:=x;exact XB e
 | frz ob u=>obtain⟨e,_⟩:=x;exact XB e
 | tbl i=>exact XB (show h.get? a=some _ from x)
 | met f y=>exact XB (show h.get? a=some _ from x)
 | ext j=>obtain⟨_,⟨_,e⟩,_⟩:=x;exact XB e
theorem Paired.mapP {α d:Type}{F G:α->d->Prop}:∀{c:List α} {l₂:List d},Xa F c l₂->(∀a b,F a b->G a b)->Xa G c l₂
 | _,_,.nil,_=>.nil
 | _,_,.cons r t,f=>.cons (f _ _ r) (Paired.mapP t f)
def Paired.imp' {α d:Type}{F G:α->d->Prop}(f:∀a b,F a b->G a b){c:List α}{l₂:List d}(r:Xa F c l₂):Xa G c l₂:=Paired.mapP r f
def jJ.stay (x:jJ P w H h a o)(k:∀b u,(b=a\/H b=some (.own a))->h.get? b=some u->h'.get? b=some u)
  (D:∀b,H b=some (.own a)->H' b=some (.own a)) (E:∀b xs,H b=some (.tup xs)->H' b=some (.tup xs)):jJ P w H' h' a o:=by
 induction o with
 | lst xs=>obtain⟨z,j,n,r,e⟩:=x;exact⟨z,j,n,r,k _ _ (.inl rfl) e⟩
 | tup xs=>revert x;refine fN λz=>fU λj r ob e c=>?_;exact⟨z,j,r,ob,k _ _ (.inl rfl) e,c⟩
 | dK l=>revert x;refine gA λz y J r ob i g e c=>?_;exact eH z y J r (eV ob i g (k _ _ (.inl rfl) e) c)
 | dT l =>
  revert x;refine gA λz y xs r ob i g e c=>?_;exact eH z y xs (Paired.mapP r λp q z=>⟨z.1,E _ _ z.2.1,z.2.2⟩) (eV ob i g (k _ _ (.inl rfl) e) c)
 | set S n=>revert x;refine gq λob i g t e c=>?_;exact dO ob i g t ⟨k _ _ (.inl rfl) e,c⟩
 | ins C L fs =>
  obtain⟨d,z,I,e,m,⟨s,i,g,B,c⟩,r⟩:=x;exact e9 (D _ d) z I (k _ _ (.inl rfl) e) (dJ m ⟨s,i,g,k _ _ (.inr d) B,c⟩ r)
 | own y=>obtain⟨ob,e⟩:=x;exact⟨ob,k _ _ (.inl rfl) e⟩
 | xd fs=>obtain⟨m,⟨s,i,g,e,c⟩,r⟩:=x;exact⟨m,⟨s,i,g,k _ _ (.inl rfl) e,c⟩,r⟩
 | rng lo M=>revert x;refine gE λt u v e=>?_;exact⟨t,u,v,k _ _ (.inl rfl) e⟩
 | frz ob u G=>obtain⟨e,q⟩:=x;exact⟨k _ _ (.inl rfl) e,G q⟩
 | tbl A =>
  have e:h.get? a=some { cls:=.none,data:=.fields A }:=x;show h'.get? a=some { cls:=.none,data:=.fields A };exact k a _ (.inl rfl) e
 | met f y =>
  have e:h.get? a=some (Rv (.ref f) (.ref y)):=x;show h'.get? a=some (Rv (.ref f) (.ref y));exact k a _ (.inl rfl) e
 | ext N=>obtain⟨p,⟨o,e⟩,st⟩:=x;exact⟨st _ _ p λo q=>k _ _ (.inl rfl) q,⟨o,k _ _ (.inl rfl) e⟩,st⟩
theorem HOk.lt (x:HOk P w H h)(e:H a=some o):a<h.objs.size:=(x a o e).lt
def HOk.fresh (x:HOk P w H h)(e:h.objs.size<=a):H a=none:=by
 cases q:H a with
 | none=>rfl
 | some u=>exact absurd (Xn (x.lt q) e) (VU _)
def HOk.kept (x:HOk P w H h)(k:∀b u,h.get? b=some u->h'.get? b=some u):HOk P w H h':=λa o e =>
 (x a o e).stay (λb u _ q=>k b u q) (λ_ q=>q) λ_ _ q=>q
def HOk.laid (x:HOk P w H h)(k:∀b u,h.get? b=some u->h'.get? b=some u)(i:h.objs.size<=a)(d:jJ P w (upd H a o) h' a o):HOk P w (upd H a o) h':=λb u e=>by
 have g:=x.fresh i;by_cases f:b=a
 .subst f;rw[zb]at e;cases e;exact d
 .rw[zp f]at e;exact(x b u e).stay (λc v _ q=>k c v q) (λc q=>by rw[zp (zg q g)];exact q) λc j q=>by rw[zp (zg q g)];exact q
end
def Rd (H:Hp)(a:Addr)(u:HO):Prop:=H a=some u\/∃o,H a=some (.frz o u)
def Rd.ok {P:Xs}{w:Xd}{H:Hp}{h:Heap}{a:Addr}{u:HO}(r:Rd H a u)(x:HOk P w H h):jJ P w H h a u:=by
 rcases r with r | ⟨o,r⟩
 .exact x a u r
 .obtain⟨_,q⟩:=x a _ r;exact q
def Mut:Option HO->Prop
 | some (.lst _)=>True
 | some (.dK _)=>True
 | some (.dT _)=>True
 | some (.set _ _)=>True
 | some (.ins _ _ _)=>True
 | some (.ext _)=>True
 | _=>False
section
variable {P:Xs}{w:Xd}{H:Hp}{h h':Heap}{x e:Addr}{o':HO}
def HOk.write (ok:HOk P w H h)(i:Mut (H x))(he:e=x\/H e=some (.own x))(k:∀b u,b≠e->h.get? b=some u->h'.get? b=some u)(l:∃u,h'.get? e=some u)
  (m:jJ P w (upd H x o') h' x o'):HOk P w (upd H x o') h':=λb u q=>by
 have d:∀c y,H c=some (.own y)->c≠x:=λc y r z=>by subst z;rw[r]at i;exact i
 have f:∀c j,H c=some (.tup j)->c≠x:=λc j r z=>by subst z;rw[r]at i;exact i
 by_cases g:b=x
 .subst g;rw[zb]at q;cases q;exact m
 .rw[zp g]at q;by_cases a:b=e
  .have n:H b=some (.own x):=by
    rcases he with z | z
    .exact absurd (a.trans z) g
    .rw[a];exact z
   rw[q]at n;cases n;obtain⟨v,o⟩:=l;exact⟨v,by rw[a];exact o⟩
  .refine(ok b u q).stay (λc v hc r=>k c v ?_ r) (λc r=>by rw[zp (d c b r)];exact r) λc j r=>by rw[zp (f c j r)];exact r
   rcases hc with rfl | hc
   .exact a
   .rintro rfl;rcases he with z | z
    .exact d c b hc z
    .rw[hc]at z;cases z;exact g rfl
end
structure Un (fs ex:List Addr)(H H':Hp)(h h':Heap):Prop where
 keep:∀b o,h.get? b=some o->H b=none->b ∉ fs->b ∉ ex->h'.get? b=some o
 slot:∀b o,h.get? b=some o->H b=none->b∈fs->b ∉ ex->∃sl,h'.get? b=some { o with slots:=sl }
 free:∀b o,h.get? b=some o->H b=none->b ∉ ex->H' b=none
 there:∀b o,h.get? b=some o->b ∉ ex->∃o',h'.get? b=some o'
 tups:∀b xs,H b=some (.tup xs)->H' b=some (.tup xs)
 frzs:∀b o u,H b=some (.frz o u)->H' b=some (.frz o u)
 tbls:∀b ps,H b=some (.tbl ps)->∃more,H' b=some (.tbl (ps++more))
section
variable {fs fs' ex ex':List Addr}{H H1 H2:Hp}{h h1 h2 h':Heap}{a x e:Addr}{o:HO}
def Un.any (u:Un fs ex H H1 h h1){b:Addr}{ob:Obj}(q:h.get? b=some ob)(n:H b=none)(c:b ∉ ex):∃d,h1.get? b=some { ob with slots:=d }:=by
 by_cases a:b∈fs
 .exact u.slot b ob q n a c
 .exact⟨ob.slots,u.keep b ob q n a c⟩
def Un.kept (k:∀b u,h.get? b=some u->h'.get? b=some u):Un fs ex H H h h' :=
 ⟨λb ob q _ _ _=>k b ob q,λb ob q _ _ _=>⟨ob.slots,k b ob q⟩,λ_ _ _ n _=>n,λb ob q _=>⟨ob,k b ob q⟩,λ_ _ q=>q,λ_ _ _ q=>q,λ_ a q=>⟨#[],by rw[q];simp⟩⟩
def Un.refl:Un fs ex H H h h:=Un.kept λ_ _ q=>q
def Un.laid (k:∀b u,h.get? b=some u->h'.get? b=some u)(hp:h.objs.size<=a)(hn:H a=none):Un fs ex H (upd H a o) h h' where
 keep:=λb u q _ _ _=>k b u q
 slot:=λb u q _ _ _=>⟨u.slots,k b u q⟩
 free:=λb u q n _=>by rw[zp (Xj (Xn (XB q) hp))];exact n
 there:=λb u q _=>⟨u,k b u q⟩
 tups:=λb xs q=>by rw[zp (zg q hn)];exact q
 frzs:=λb u xs q=>by rw[zp (zg q hn)];exact q
 tbls:=λb ps q=>⟨#[],by rw[zp (zg q hn),q];simp⟩
def Un.write (c:Mut (H x))(he:e=x\/H e=some (.own x))(k:∀b u,b≠e->h.get? b=some u->h'.get? b=some u)(d:∃u,h'.get? e=some u):Un fs ex H (upd H x o) h h':=by
 have i:∀b,H b=none->b≠x:=λb n z=>by subst z;rw[n]at c;exact c
 have g:∀b,H b=none->b≠e:=λb n z=>by
  subst z;rcases he with r | r
  .exact i b n r
  .rw[n]at r;cases r
 have f:∀b u,H b=some u->¬ Mut (some u)->b≠x:=λb u q j z=>by subst z;rw[q]at c;exact j c
 refine⟨λb u q n _ _=>k b u (g b n) q,λb u q n _ _=>⟨u.slots,k b u (g b n) q⟩,λb u q n _=>by rw[zp (i b n)];exact n,λb u q _=>?_,λb l q=>by rw[zp (f b _ q λz=>z)];exact q,λb u l q=>by rw[zp (f b _ q λz=>z)];exact q,λb m q=>⟨#[],by rw[zp (f b _ q λz=>z),q];simp⟩⟩
 by_cases a:b=e
 .subst a;exact d
 .exact⟨u,k b u a q⟩
end
def trk (h:Heap)(H:Hp):List Addr:=(Va h.objs.size).filter λa=>(H a).isSome
def QF (h:Heap)(H:Hp):Heap:=PySem.W.hideAll h (trk h H)
def zjH (h:Heap)(H:Hp):(QF h H).objs.size=h.objs.size:=PySem.W.hideAll_size _ _
def zkV {h:Heap}{H:Hp}{b:Addr}{o:Obj}(e:h.get? b=some o)(n:H b=none):(QF h H).get? b=some o :=
 TF _ e λa=>by
  have q:(H b).isSome=true:=(XO.mp a).2;rw[n]at q;simp at q
def zne {h:Heap}{H:Hp}{b:Addr}{o:Obj}(e:(QF h H).get? b=some o):h.get? b=some o/\H b=none:=by
 have a:h.get? b=some o:=PySem.W.of_hideAll (trk h H) e;refine⟨a,?_⟩;cases q:H b with
 | none=>rfl
 | some x =>
  have c:b∈trk h H:=XO.mpr ⟨VB.mpr (XB a),by simp[q]⟩;have z:(QF h H).get? b=none:=PySem.W.hideAll_none (trk h H) c;rw[z]at e;cases e
structure Mod (K:XZ)(mg:Str->Option X9)(base:Heap):Prop where
 kin:K.In base
 glob:base.Ns XV mg
 blt:∃mb,base.Ns RY mb/\∀x:Str,x ≠ "__name__"->mb x=U4 x
 nolimit:base.NoLimit
structure Cx where
 prog:Xs
 w:Xd
 K:XZ
 mg:Str->Option X9
 base:Heap
 A:WY
 N:AD
 s₀:X7
 H₀:Hp
 env:Env
 outer:List Env
 stack:List Env
 ex:List Addr
 fn:Str->Bool
 calm:Bool
 pn:List (Addr×Obj)
 xe:X9->X7->Prop
def frs (l:List Env):List Addr:=l.filterMap (·.frame)
abbrev Cx.fs (X:Cx):List Addr:=frs X.outer
def Vis (a:UN)(x:Str):Prop:=a.names.lookup x=some .local\/a.names.lookup x=some .cell\/a.names.lookup x=some .free
def Loc (a:UN)(x:Str):Prop:=a.names.lookup x=some .local\/a.names.lookup x=some .cell
def Look (a:Env)(h:Heap)(m:Str->Option X9)(x:Str)(u:X9):Prop :=
 (a.kindOf x=some .local/\m x=some u)\/((a.kindOf x=some .cell\/a.kindOf x=some .free)/\∃c,a.cells.lookup x=some c/\h.IsCell c (some u))
structure Cx.Ok (X:Cx):Prop where
 mod:Mod X.K X.mg X.base
 kind:X.env.scope.kind=.function
 glob:X.env.globals=XV
 blt:X.env.builtins=RY
 above:X.s₀.heap.objs.size<=X.env.locals
 inj:∀x y c,X.env.cells.lookup x=some c->X.env.cells.lookup y=some c->x=y
 has:∀x,(X.env.kindOf x=some .cell\/X.env.kindOf x=some .free)->∃c,X.env.cells.lookup x=some c
 cab:∀x c,X.fn x=true->X.env.cells.lookup x=some c->X.s₀.heap.objs.size<=c
 hd:X.calm=true->X.A.handled=none
 frames:X.A.frames=some X.stack
 stk:X.stack=X.outer\/(X.stack=X.env::X.outer/\X.env.frame=some X.env.locals)
 exf:∀b∈X.ex,b≠X.env.locals/\∀x c,X.env.cells.lookup x=some c->c≠b
 bs:∀b o,X.base.get? b=some o->X.s₀.heap.get? b=some o/\X.H₀ b=none
 bsz:X.base.objs.size<=X.s₀.heap.objs.size
 noex:∀b o,X.base.get? b=some o->b ∉ X.ex
 exfs:∀b∈X.ex,b ∉ X.fs
 funs:X.s₀.heap.FunFrames X.base X.outer
 frf:∀b∈X.fs,X.H₀ b=none
structure Inv (X:Cx)(bz:List (Addr×Obj))(σ:List (Option V))(H:Hp)(s:X7):Prop where
 ok:X.Ok
 os:s.os=X.s₀.os
 bare:Ss s.gens
 base:Un X.fs X.ex X.H₀ H X.s₀.heap s.heap
 loc:∃m,s.heap.Ns X.env.locals m/\∀(i:Nat) (x:Str) (v:V),X.N[i]?=some x->σ[i]?=some (some v)->Vis X.env.scope x->∃u,RelV v u/\Look X.env s.heap m x u
 cell:∀x c,X.env.cells.lookup x=some c->∃v,s.heap.IsCell c v
 free:H X.env.locals=none
 je:∀x c,X.env.cells.lookup x=some c->H c=none
 pin:∀p∈X.pn++bz,s.heap.get? p.1=some p.2/\H p.1=none/\p.1≠X.env.locals/\p.1 ∉ X.fs/\∀v,p.2.data ≠ .cell v
 hok:HOk X.prog X.w H s.heap
 len:σ.length=X.N.length
section
variable {X:Cx}{bz:List (Addr×Obj)}{σ:List (Option V)}{H H':Hp}{s:X7}{h':Heap}
def Cx.Ok.nofr (ok:X.Ok){b:Addr}{o:Obj}(e:X.base.get? b=some o):b ∉ X.fs:=λa=>by
 have:=(ok.funs.mem a).1;rw[e]at this;cases this
theorem Inv.bs (I:Inv X bz σ H s):∀b o,X.base.get? b=some o->s.heap.get? b=some o/\H b=none:=λb o e =>
 ⟨I.base.keep b o (I.ok.bs b o e).1 (I.ok.bs b o e).2 (I.ok.nofr e) (I.ok.noex b o e),I.base.free b o (I.ok.bs b o e).1 (I.ok.bs b o e).2 (I.ok.noex b o e)⟩
def Inv.bk (I:Inv X bz σ H s):∀b o,X.base.get? b=some o->s.heap.get? b=some o:=λb o e=>(I.bs b o e).1
theorem Inv.mod (I:Inv X bz σ H s):Mod X.K X.mg X.base:=I.ok.mod
def Inv.kIn (I:Inv X bz σ H s):X.K.In s.heap:=I.ok.mod.kin.keeps I.bk
theorem Inv.lt (I:Inv X bz σ H s):X.env.locals<s.heap.objs.size:=let ⟨_,hn,_⟩:=I.loc;hn.lt
def Inv.sz (I:Inv X bz σ H s):X.s₀.heap.objs.size<=s.heap.objs.size:=X6 I.ok.above (TU I.lt)
def Inv.nofs (I:Inv X bz σ H s){a:Addr}(h:s.heap.objs.size<=a):a ∉ X.fs:=λb=>by
 obtain⟨_,o,c,_⟩:=I.ok.funs.mem b;exact absurd (Xn (XB c) (X6 I.sz h)) (VU _)
def Inv.cne (I:Inv X bz σ H s):∀x c,X.env.cells.lookup x=some c->c≠X.env.locals:=λx c e z=>by
 obtain⟨v,o,f,d⟩:=I.cell x c e;obtain⟨m,⟨i,h,g,b,a,_⟩,_⟩:=I.loc;rw[z,b]at f;cases f;rw[a]at d;cases d
theorem Inv.funs (I:Inv X bz σ H s):s.heap.FunFrames X.base X.outer:=by
 have all:∀(l:List Env),(∀b∈frs l,b∈X.fs)->X.s₀.heap.FunFrames X.base l->s.heap.FunFrames X.base l:=by
  intro l;induction l with
  | nil=>intro _ _;trivial
  | cons g r n =>
   intro f i;obtain⟨hk,⟨L,o,d,j,k,h⟩,m⟩:=i;have a:L∈X.fs:=f L (by unfold frs;rw[U8,d];exact XT);obtain⟨p,e⟩:=I.base.slot L o k (I.ok.frf L a) a λz=>I.ok.exfs L z a;exact⟨hk,⟨L,_,d,j,e,h⟩,n (λb c=>f b (by unfold frs;rw[U8,d];exact XU _ c)) m⟩
 exact all X.outer (λ_ c=>c) I.ok.funs
theorem Inv.stack (I:Inv X bz σ H s):s.heap.FunFrames X.base X.stack:=by
 rcases I.ok.stk with e | ⟨e,a⟩
 .rw[e];exact I.funs
 .rw[e];obtain⟨m,b,_⟩:=I.loc;refine .cons (by rw[I.ok.kind];decide) a b ?_ I.funs;exact UK (X6 I.ok.bsz I.ok.above)
def Inv.stkSub (I:Inv X bz σ H s):∀b∈frs X.stack,b∈X.env.locals::X.fs:=λb a=>by
 rcases I.ok.stk with e | ⟨e,c⟩
 .rw[e]at a;exact XU _ a
 .rw[e]at a;unfold frs at a;rw[U8,c]at a;exact a
def Inv.stkFree (I:Inv X bz σ H s):∀b∈frs X.stack,H b=none:=λb hb=>by
 rcases XI.mp (I.stkSub b hb) with e | hb
 .rw[e];exact I.free
 .obtain⟨_,o,a,_⟩:=I.ok.funs.mem hb;exact I.base.free b o a (I.ok.frf b hb) λz=>I.ok.exfs b z hb
def Inv.step {g':Array UA}{t':Nat}{d':N2}{ch:List Addr}(I:Inv X bz σ H s)
  (g:∀b∈ch,(b∈X.ex\/X.s₀.heap.objs.size<=b)/\b≠X.env.locals/\(∀x c,X.env.cells.lookup x=some c->c≠b)/\∀p∈X.pn++bz,p.1≠b)
  (keep:∀b o,b≠X.env.locals->b ∉ X.fs->b ∉ ch->s.heap.get? b=some o->H b=none->h'.get? b=some o)
  (A:∀b o,b≠X.env.locals->b∈X.fs->b ∉ ch->s.heap.get? b=some o->H b=none->∃sl,h'.get? b=some { o with slots:=sl }) (free:∀b o,b ∉ ch->s.heap.get? b=some o->H b=none->H' b=none)
  (E:∀b o,b ∉ ch->s.heap.get? b=some o->∃N,h'.get? b=some N)
  (Q:∀b B,H b=some (.tup B)->H' b=some (.tup B)) (L:∀b o u,H b=some (.frz o u)->H' b=some (.frz o u)) (O:∀b T,H b=some (.tbl T)->∃more,H' b=some (.tbl (T++more)))
  (ns:∀m,s.heap.Ns X.env.locals m->h'.Ns X.env.locals m) (Y:HOk X.prog X.w H' h') (hg:Ss g') :
  Inv X bz σ H' { s with heap:=h',gens:=g',drawn:=d',toks:=t' }:=by
 have M:∀b o,X.s₀.heap.get? b=some o->b≠X.env.locals:=λb o e=>Xj (Xn (XB e) I.ok.above);have y:∀b o,X.s₀.heap.get? b=some o->b ∉ X.ex->b ∉ ch:=λb o e a D=>by
  rcases(g b D).1 with z | z
  .exact a z
  .exact absurd (Xn (XB e) z) (VU _)
 have f:∀x c,X.env.cells.lookup x=some c->∀v,s.heap.IsCell c v->h'.IsCell c v:=λx c e v ⟨o,G,U⟩=>by
  have h:c ∉ ch:=λz=>(g c z).2.2.1 x c e rfl;by_cases hc:c∈X.fs
  .obtain⟨sl,q⟩:=A c o (I.cne x c e) hc h G (I.je x c e);exact⟨_,q,U⟩
  .exact⟨o,keep c o (I.cne x c e) hc h G (I.je x c e),U⟩
 refine⟨I.ok,I.os,hg,⟨λb o e n D a=>?_,λb o e n D a=>?_,λb o e n a=>?_,λb o e a=>?_,λb B e=>Q b B (I.base.tups b B e),λb o B e=>L b o B (I.base.frzs b o B e),λb T e=>?_⟩,?_,λx c e=>?_,?_,λx c e=>?_,λp hp=>?_,Y,I.len⟩
 .exact keep b o (M b o e) D (y b o e a) (I.base.keep b o e n D a) (I.base.free b o e n a)
 .obtain⟨sl,j⟩:=I.base.slot b o e n D a;obtain⟨aa,J⟩:=A b _ (M b o e) D (y b o e a) j (I.base.free b o e n a);exact⟨aa,J⟩
 .obtain⟨N,j⟩:=I.base.there b o e a;exact free b N (y b o e a) j (I.base.free b o e n a)
 .obtain⟨N,j⟩:=I.base.there b o e a;exact E b N (y b o e a) j
 .obtain⟨m1,j⟩:=I.base.tbls b T e;obtain⟨m2,J⟩:=O b _ j;exact⟨m1++m2,by rw[J,RS]⟩
 .obtain⟨m,hn,hl⟩:=I.loc;refine⟨m,ns m hn,λi x v j J e3=>?_⟩;obtain⟨u,r,l⟩:=hl i x v j J e3;refine⟨u,r,?_⟩;rcases l with l | ⟨k,c,e,z⟩
  .exact .inl l
  .exact .inr ⟨k,c,e,f x c e _ z⟩
 .obtain⟨v,z⟩:=I.cell x c e;exact⟨v,f x c e v z⟩
 .obtain⟨m,⟨o,_,_,G,_⟩,_⟩:=I.loc;exact free _ o (λz=>(g _ z).2.1 rfl) G I.free
 .obtain⟨v,o,G,U⟩:=I.cell x c e;exact free c o (λz=>(g c z).2.2.1 x c e rfl) G (I.je x c e)
 .refine fX (λe n ne nf d=>?_) (I.pin p hp);have h:p.1 ∉ ch:=λz=>(g p.1 z).2.2.2 p hp rfl;exact⟨keep p.1 p.2 ne nf h e n,free p.1 p.2 h e n,ne,nf,d⟩
def Inv.un {t':Nat}(I:Inv X bz σ H s)(u:Un X.fs [] H H' s.heap h')(g:HOk X.prog X.w H' h'):Inv X bz σ H' { s with heap:=h',toks:=t' }:=by
 obtain⟨m,⟨o,p,l,h,r⟩,_⟩:=id I.loc;obtain⟨x,i⟩:=u.any h I.free (by simp);exact I.step (g':=s.gens) (d':=s.drawn) (ch:=[]) (λ_ z=>nomatch z) (λb o _ f _ e n=>u.keep b o e n f (by simp)) (λb o _ f _ e n=>u.slot b o e n f (by simp)) (λb o _ e n=>u.free b o e n (by simp)) (λb o _ e=>u.there b o e (by simp)) u.tups u.frzs u.tbls (λq j=>by
  revert j;refine fR λv d c a k=>?_;rw[h]at a;cases a;exact⟨_,d,c,i,k⟩) g I.bare
def Inv.call {g':Array UA}{t':Nat}{d':N2}{ch:List Addr}(I:Inv X bz σ H s)(u:Un (frs X.stack) ch H H' s.heap h')(j:HOk X.prog X.w H' h')(q:Ss g')
  (d:∀b∈ch,(b∈X.ex\/X.s₀.heap.objs.size<=b)/\b≠X.env.locals/\(∀x c,X.env.cells.lookup x=some c->c≠b)/\∀p∈X.pn++bz,p.1≠b) :
  Inv X bz σ H' { s with heap:=h',gens:=g',drawn:=d',toks:=t' }:=by
 obtain⟨m,⟨o,B,A,k,r⟩,_⟩:=id I.loc;obtain⟨G,i⟩:=u.any k I.free λz=>(d _ z).2.1 rfl;exact I.step (ch:=ch) d (λb o i l a e n=>u.keep b o e n (λz=>(XI.mp (I.stkSub b z)).elim i l) a) (λb o _ _ a e n=>u.any e n a) (λb o a e n=>u.free b o e n a) (λb o a e=>u.there b o e a) u.tups u.frzs u.tbls (λD v=>by
  revert v;refine fR λE h g f y=>?_;rw[k]at f;cases f;exact⟨_,h,g,i,y⟩) j q
def Inv.turned {t':Nat}{it:Addr}(I:Inv X bz σ H s)(k:∀b o,b≠it->s.heap.get? b=some o->h'.get? b=some o)(w:H it=none)(f:it≠X.env.locals)
  (h1:it∈X.ex\/X.s₀.heap.objs.size<=it) (h2:∀x c,X.env.cells.lookup x=some c->c≠it) (i:∀p∈X.pn++bz,p.1≠it):Inv X bz σ H { s with heap:=h',toks:=t' }:=by
 have d:∀b u,H b=some u->b≠it:=λb u e z=>by rw[z,w]at e;cases e
 refine I.step (g':=s.gens) (d':=s.drawn) (ch:=[it]) (λb j=>?_) (λb o _ _ a e _=>k b o (λz=>a (by simp[z])) e) (λb o _ _ a e _=>⟨o.slots,k b o (λz=>a (by simp[z])) e⟩) (λ_ _ _ _ n=>n)
  (λb o a e=>⟨o,k b o (λz=>a (by simp[z])) e⟩) (λ_ _ e=>e) (λ_ _ _ e=>e) (λb A e=>⟨#[],by rw[e];simp⟩) (λm l=>?_) (λb u e=>?_) I.bare
 .have e:b=it:=by simpa using j
  subst e;exact⟨h1,f,h2,i⟩
 .revert l;refine fR λo h g y r=>?_;exact⟨o,h,g,k _ o (U5 f) y,r⟩
 .refine(I.hok b u e).stay (λc v a q=>k c v ?_ q) (λ_ q=>q) λ_ _ q=>q;rcases a with z | z
  .rw[z];exact d b u e
  .exact d c _ z
def Inv.tok (I:Inv X bz σ H s)(t:Nat):Inv X bz σ H { s with toks:=t }:=I.un (h':=s.heap) (t':=t) Un.refl I.hok
theorem Inv.kept {t':Nat}(I:Inv X bz σ H s)(k:∀b u,s.heap.get? b=some u->h'.get? b=some u):Inv X bz σ H { s with heap:=h',toks:=t' }:=I.un (Un.kept k) (I.hok.kept k)
theorem Inv.laid {a:Addr}{o:HO}{t':Nat}(I:Inv X bz σ H s)(k:∀b u,s.heap.get? b=some u->h'.get? b=some u)(c:s.heap.objs.size<=a)(d:jJ X.prog X.w (upd H a o) h' a o) :
  Inv X bz σ (upd H a o) { s with heap:=h',toks:=t' }:=I.un (Un.laid k c (I.hok.fresh c)) (I.hok.laid k c d)
theorem Inv.write {x e:Addr}{o:HO}{t':Nat}(I:Inv X bz σ H s)(d:Mut (H x))(he:e=x\/H e=some (.own x))(k:∀b u,b≠e->s.heap.get? b=some u->h'.get? b=some u)(a:∃u,h'.get? e=some u)
  (c:jJ X.prog X.w (upd H x o) h' x o):Inv X bz σ (upd H x o) { s with heap:=h',toks:=t' }:=I.un (Un.write d he k a) (I.hok.write d he k a c)
def Inv.pins_of {a:List (Addr×Obj)}(I:Inv X bz σ H s)(h:∀p∈a,s.heap.get? p.1=some p.2/\H p.1=none/\p.1≠X.env.locals/\p.1 ∉ X.fs/\∀v,p.2.data ≠ .cell v):Inv X a σ H s :=
 ⟨I.ok,I.os,I.bare,I.base,I.loc,I.cell,I.free,I.je,λp b=>(XN.mp b).elim (λz=>I.pin p (WQ _ z)) (h p),I.hok,I.len⟩
def zck {N:AD}(e:N.Nodup){i j:Nat}{x:Str}(a:N[i]?=some x)(b:N[j]?=some x):i=j:=by
 obtain⟨h1,c⟩:=X5.mp a;obtain⟨h2,d⟩:=X5.mp b;exact(List.getElem_inj e).mp (c.trans d.symm)
def zdR {M:Pn}{A:WY}{E:X9->X7->Prop}{i:Nat}{x:Str}{v:V}{u:X9}{Q:Unit->X7->Prop}(I:Inv X bz σ H s)(hN:X.N.Nodup)(hi:X.N[i]?=some x)(B:Loc X.env.scope x)(r:RelV v u)
  (h:∀s',Inv X bz (σ.set i (some v)) H s'->(∃a,V7 a s.heap s'.heap/\(a=X.env.locals\/X.env.cells.lookup x=some a))->Q () s') (hf:X.fn x=true\/X.env.scope.names.lookup x=some .local:=by first | exact .inl rfl | exact .inr rfl | assumption):Xu M A (storeName X.env x u) Q E s:=by
 obtain⟨m,hn,hl⟩:=id I.loc;have aa:(X.env.scope.kind == .class || (X.env.scope.kind == .module&&X.env.locals != X.env.globals))=false:=by rw[I.ok.kind];rfl
 have J:i < σ.length:=by rw[I.len];exact(X5.mp hi).1
 have cne:=I.cne;have l:∀{a:Addr} {h':Heap},(∃o,s.heap.get? a=some o/\H a=none)->V7 a s.heap h'->HOk X.prog X.w H h':=λ{a h'} ha f b ob e=>by
  obtain⟨_,_,D⟩:=ha;refine(I.hok b ob e).stay (λc w' hc q=>(f.2 c ?_).trans q) (λ_ q=>q) λ_ _ q=>q;rintro rfl;rcases hc with rfl | hc
  .rw[D]at e;cases e
  .rw[D]at hc;cases hc
 rcases B with hk | hk
 .refine wpAny_storeName_local hk hn (λh' ae f=>?_) aa;refine fR (λoL _ _ af _=>?_) (id hn);refine h _ ⟨I.ok,I.os,I.bare,⟨λb o e n L B=>?_,λb o e n L B=>?_,I.base.free,λb o e B=>?_,I.base.tups,I.base.frzs,I.base.tbls⟩,⟨_,ae,λj y v' g G e3=>?_⟩,λy c e=>?_,I.free,I.je,λp hp=>?_,l ⟨oL,af,I.free⟩ f,by simpa using I.len⟩ ⟨_,f,.inl rfl⟩
  .exact(f.2 b (Xj (Xn (XB e) I.ok.above))).trans (I.base.keep b o e n L B)
  .obtain⟨sl,g⟩:=I.base.slot b o e n L B;exact⟨sl,(f.2 b (Xj (Xn (XB e) I.ok.above))).trans g⟩
  .obtain⟨o',g⟩:=I.base.there b o e B;exact⟨o',(f.2 b (Xj (Xn (XB e) I.ok.above))).trans g⟩
  .by_cases T:j=i
   .subst T;rw[hi]at g;cases g;rw[SU J]at G;cases G;exact⟨u,r,.inl ⟨hk,by simp⟩⟩
   .rw[Sh (U5 T)]at G;obtain⟨u',r',q⟩:=hl j y v' g G e3;refine⟨u',r',?_⟩;rcases q with ⟨k,e⟩ | ⟨k,c,e,z⟩
    .refine .inl ⟨k,?_⟩;have:y≠x:=λe=>T (zck hN g (e ▸ hi));simp[this,e]
    .exact .inr ⟨k,c,e,z.sameBut f (cne y c e)⟩
  .obtain⟨w',z⟩:=I.cell y c e;exact⟨w',z.sameBut f (cne y c e)⟩
  .refine fX (λe n ne nf d=>?_) (I.pin p hp);exact⟨(f.2 p.1 ne).trans e,n,ne,nf,d⟩
 .have O:X.fn x=true:=by
   rcases hf with z | z
   .exact z
   .rw[z]at hk;cases hk
  obtain⟨c,hc⟩:=I.ok.has x (.inl hk);obtain⟨w',z⟩:=I.cell x c hc;refine wpAny_storeName_cell I.ok.kind hk hc z (λh' U f=>?_);obtain⟨oc,ab,ac⟩:=id z;refine h { s with heap:=h' } ⟨I.ok,I.os,I.bare,⟨λb o e n L B=>?_,λb o e n L B=>?_,I.base.free,λb o e B=>?_,I.base.tups,I.base.frzs,I.base.tbls⟩,⟨m,hn.sameBut f (U5 (cne x c hc)),λj y v' g G e3=>?_⟩,λy c' e=>?_,I.free,I.je,λp hp=>?_,l ⟨oc,ab,I.je x c hc⟩ f,by simpa using I.len⟩ ⟨c,f,.inr hc⟩
  .exact(f.2 b (Xj (Xn (XB e) (I.ok.cab x c O hc)))).trans (I.base.keep b o e n L B)
  .obtain⟨sl,g⟩:=I.base.slot b o e n L B;exact⟨sl,(f.2 b (Xj (Xn (XB e) (I.ok.cab x c O hc)))).trans g⟩
  .obtain⟨o',g⟩:=I.base.there b o e B;exact⟨o',(f.2 b (Xj (Xn (XB e) (I.ok.cab x c O hc)))).trans g⟩
  .by_cases T:j=i
   .subst T;rw[hi]at g;cases g;rw[SU J]at G;cases G;exact⟨u,r,.inr ⟨.inl hk,c,hc,U⟩⟩
   .rw[Sh (U5 T)]at G;obtain⟨u',r',q⟩:=hl j y v' g G e3;refine⟨u',r',?_⟩;rcases q with q | ⟨k,c',e,z'⟩
    .exact .inl q
    .refine .inr ⟨k,c',e,z'.sameBut f ?_⟩;rintro rfl;exact T (zck hN g (I.ok.inj _ _ _ e hc ▸ hi))
  .by_cases Y:c'=c
   .subst Y;exact⟨_,U⟩
   .obtain⟨w2,z2⟩:=I.cell y c' e;exact⟨w2,z2.sameBut f Y⟩
  .refine fX (λe n ne nf d=>?_) (I.pin p hp);refine⟨(f.2 p.1 ?_).trans e,n,ne,nf,d⟩;intro q;rw[q,ab]at e;have q':oc=p.2:=Option.some.inj e;exact d w' (by rw[<- q'];exact ac)
def YS {M:Pn}{A:WY}{E:X9->X7->Prop}{i:Nat}{x:Str}{v:V}{u:X9}{Q:Unit->X7->Prop}(I:Inv X bz σ H s)(b:X.N.Nodup)(d:X.N[i]?=some x)(e:Loc X.env.scope x)(r:RelV v u)
  (h:∀s',Inv X bz (σ.set i (some v)) H s'->Q () s') (c:X.fn x=true\/X.env.scope.names.lookup x=some .local:=by first | exact .inl rfl | exact .inr rfl | assumption):Xu M A (storeName X.env x u) Q E s :=
 zdR I b d e r (λs' a _=>h s' a) c
def Inv.call' {s':X7}{ch:List Addr}(I:Inv X bz σ H s)(g:s'.os=s.os)(u:Un (frs X.stack) ch H H' s.heap s'.heap)(d:HOk X.prog X.w H' s'.heap)(f:Ss s'.gens)
  (a:∀b∈ch,(b∈X.ex\/X.s₀.heap.objs.size<=b)/\b≠X.env.locals/\(∀x c,X.env.cells.lookup x=some c->c≠b)/\∀p∈X.pn++bz,p.1≠b):Inv X bz σ H' s':=by
 obtain⟨h',g',d',t',h⟩:=s';have e:h=s.os:=g;subst e;exact I.call (g':=g') (t':=t') (d':=d') u d f a
end
abbrev XK:=X9->Option Addr->Hp->Prop
abbrev St:=List (Option V)
abbrev VK:=V->Hp->Prop
abbrev TE:=St->Hp->VK->Prop
abbrev TT:=St->Hp->(Bool->Hp->Prop)->Prop
abbrev TA:=St->Hp->(AE->Hp->Prop)->Prop
structure Ends where
 nx:St->Hp->Prop
 rt:VK
 bk:St->Hp->Prop:=λ_ _=>False
 ct:St->Hp->Prop:=λ_ _=>False
abbrev TS:=Ends->St->Hp->Prop
def EP (X:Cx)(b:List (Addr×Obj))(c:St)(Q:VK)(u:X9)(s':X7):Prop:=∃v a,Inv X b c a s'/\RelV v u/\Q v a
def TP (X:Cx)(c:List (Addr×Obj))(d:St)(Q:Bool->Hp->Prop)(b:Bool)(s':X7):Prop:=∃a,Inv X c d a s'/\Q b a
def AP (X:Cx)(c:List (Addr×Obj))(e:St)(Q:AE->Hp->Prop)(d:List X9)(s':X7):Prop:=∃b a,Inv X c e a s'/\Vals b d/\Q b a
def SP (X:Cx)(c:List (Addr×Obj))(D:Ends)(f:Flow)(s':X7):Prop :=
 match f with
 | .next=>∃ a b,Inv X c a b s'/\D.nx a b
 | .brk=>∃ a b,Inv X c a b s'/\D.bk a b
 | .cont=>∃ a b,Inv X c a b s'/\D.ct a b
 | .ret u=>∃v a b,Inv X c a b s'/\RelV v u/\D.rt v b
def PE (X:Cx)(e:Expr)(t:TE):Prop :=
 ∀(b:List (Addr×Obj)) (s:X7) (a:St) (H:Hp) (Q:VK),Inv X b a H s->t a H Q->Xu (Xx X.prog X.w) X.A (eval e X.env) (EP X b a Q) X.xe s
def PT (X:Cx)(e:Expr)(t:TT):Prop :=
 ∀(b:List (Addr×Obj)) (s:X7) (a:St) (H:Hp) (Q:Bool->Hp->Prop),Inv X b a H s->t a H Q->Xu (Xx X.prog X.w) X.A (isTrue e X.env (eval e X.env)) (TP X b a Q) X.xe s
def PW (X:Cx)(e:Expr)(t:TT):Prop :=
 ∀(whole:Sem X9) (b:List (Addr×Obj)) (s:X7) (a:St) (H:Hp) (Q:Bool->Hp->Prop),Inv X b a H s->t a H Q->Xu (Xx X.prog X.w) X.A (isTrue e X.env whole) (TP X b a Q) X.xe s
def PW.pt {X:Cx}{e:Expr}{t:TT}(h:PW X e t):PT X e t:=h _
def PA (X:Cx)(c:List Expr)(t:TA):Prop :=
 ∀(pos:Pos) (b:List (Addr×Obj)) (s:X7) (a:St) (H:Hp) (Q:AE->Hp->Prop),Inv X b a H s->t a H Q->Xu (Xx X.prog X.w) X.A (Ol (UB pos (W6 c X.env))) (AP X b a Q) X.xe s
def PS (X:Cx)(st:Stmt)(t:TS):Prop :=
 ∀(a:List (Addr×Obj)) (s:X7) (b:St) (H:Hp) (D:Ends),Inv X a b H s->t D b H->Xu (Xx X.prog X.w) X.A (exec st X.env) (SP X a D) X.xe s
def PSs (X:Cx)(st:List Stmt)(t:TS):Prop :=
 ∀(a:List (Addr×Obj)) (s:X7) (b:St) (H:Hp) (D:Ends),Inv X a b H s->t D b H->Xu (Xx X.prog X.w) X.A (execs st X.env) (SP X a D) X.xe s
def thn {α:Type}{t:Sem α}{Q b:α->X7->Prop}{M:Pn}{A:WY}{E:X9->X7->Prop}{s:X7}(h:Xu M A t Q E s)(c:∀a s,Q a s->b a s):Xu M A t b E s:=WA h c λ_ _ x=>x
section
variable {X:Cx}
def zqT (i:Nat):TE:=fun a H Q=>∃v,a[i]?=some (some v)/\Q v H
def tC (v:V):TE:=λ_ H Q=>Q v H
def zpr {i:Nat}{x:Str}{pos:Pos}(k:X.N[i]?=some x)(q:Vis X.env.scope x)(f:(x==("__debug__":Str))=false:=by decide)(d:(x==("__classdict__":Str))=false:=by decide):PE X (.Name x pos) (zqT i):=by
 intro j s w H Q I h;obtain⟨v,e,h⟩:=h;obtain⟨m,p,n⟩:=I.loc;obtain⟨u,r,l⟩:=n i x v k e q;have b:EP X j w Q u s:=⟨v,H,I,r,h⟩;rcases l with ⟨hk,o⟩ | ⟨hk,c,g,a⟩
 .exact wpAny_Name (wpAny_loadName_local I.ok.kind hk p o b) f
 .rcases hk with hk | hk
  .exact wpAny_Name (wpAny_loadName_cell I.ok.kind hk g a b) f
  .exact wpAny_Name (wpAny_loadName_free I.ok.kind hk g a b d) f
def zj {i j pos}:PE X (.Constant (.int i) j pos) (tC (.int i)):=λ_ _ _ H _ I h=>wpAny_Constant_int ⟨.int i,H,I.tok _,⟨_,rfl⟩,h⟩
def zcl {b j pos}:PE X (.Constant (.bool b) j pos) (tC (.bl b)):=λ_ _ _ H _ I h=>Constant_bool ⟨.bl b,H,I,rfl,h⟩
def zht {j pos}:PE X (.Constant .none j pos) (tC .non):=λ_ _ _ H _ I h=>Constant_none ⟨.non,H,I,rfl,h⟩
def yC {x j pos}:PE X (.Constant (.str x) j pos) (tC (.str x)):=λ_ _ _ H _ I h=>Calls.Constant_str ⟨.str x,H,I.tok _,⟨_,rfl⟩,h⟩
def Gl (X:Cx)(x:Str):Prop:=X.env.kindOf x=some .globalImplicit
def Ze {E:X9->X7->Prop}{a:List (Addr×Obj)}{s:X7}{e:St}{H:Hp}{x:Str}{u:X9}{pos:Pos}{Q:X9->X7->Prop}(I:Inv X a e H s)(c:Gl X x)(d:X.mg x=some u)(h:Q u s)
  (b:(x==("__debug__":Str))=false:=by decide):Xu (Xx X.prog X.w) X.A (eval (.Name x pos) X.env) Q E s :=
 RN I.ok.kind c (Calls.loadGlobal_global (by rw[I.ok.glob];exact I.mod.glob.keeps I.bk) d h) b
def YT {E:X9->X7->Prop}{a:List (Addr×Obj)}{s:X7}{g:St}{H:Hp}{x:Str}{u:X9}{pos:Pos}{Q:X9->X7->Prop}(I:Inv X a g H s)(c:Gl X x)(d:X.mg x=none)(f:U4 x=some u)(h:Q u s)
  (e:x ≠ "__name__":=by decide) (b:(x==("__debug__":Str))=false:=by decide):Xu (Xx X.prog X.w) X.A (eval (.Name x pos) X.env) Q E s:=by
 obtain⟨i,h1,h2⟩:=I.mod.blt;exact RN I.ok.kind c (Calls.loadGlobal_builtin (by rw[I.ok.glob];exact I.mod.glob.keeps I.bk) d (by rw[I.ok.blt];exact h1.keeps I.bk) ((h2 x e).trans f) h) b
def jf {x:Str}{v:V}{u:X9}{pos:Pos}(b:Gl X x)(c:X.mg x=some u)(r:RelV v u)(a:(x==("__debug__":Str))=false:=by decide):PE X (.Name x pos) (tC v) :=
 λ_ _ _ H _ I h=>Ze I b c ⟨v,H,I,r,h⟩ a
def znf {x:Str}{v:V}{u:X9}{pos:Pos}(b:Gl X x)(c:X.mg x=none)(e:U4 x=some u)(r:RelV v u)(d:x ≠ "__name__":=by decide)(a:(x==("__debug__":Str))=false:=by decide):PE X (.Name x pos) (tC v) :=
 λ_ _ _ H _ I h=>YT I b c e ⟨v,H,I,r,h⟩ d a
variable {a b:Expr}{ta tb:TE}{pos:Pos}
def PC (X:Cx)(op:NS)(a b:Expr)(t:TE):Prop :=
 ∀(f:List (Addr×Obj)) (s:X7) (e:St) (H:Hp) (Q:VK),Inv X f e H s->t e H Q ->
  Xu (Xx X.prog X.w) X.A (eval a X.env) (λv c=>Xu (Xx X.prog X.w) X.A (eval b X.env) (λu d=>Xu (Xx X.prog X.w) X.A (Ws op v u) (EP X f e Q) X.xe d) X.xe c) X.xe s
def tB (t:TE):TT:=fun b H Q=>t b H λx a=>∃c,x=.bl c/\Q c a
def zps {op:NS}{t:TE}(h:PC X op a b t)(h1:Tv op b=false:=by first | exact e _ (by decide) (by decide) | rfl):PT X (.Compare a [op] [b] pos) (tB t):=by
 intro i s m H Q I j;refine SL (thn (h i s m H _ I j) λv s1 h1=>thn h1 λu n h2=>thn h2 λc o ⟨x,f,g,l,k⟩=>?_) h1;obtain⟨d,rfl,q⟩:=k;cases l;exact Vz ⟨f,g,q⟩
variable {tA tB':TT}{rest:List Expr}
def zr7 (t u:TT):TT:=fun b H Q=>t b H λc a=>if c=true then u b a Q else Q false a
def tOr (t u:TT):TT:=fun b H Q=>t b H λc a=>if c=true then Q true a else u b a Q
def zr8 (t:TT):TT:=fun b H Q=>t b H λc a=>Q (!c) a
def zng (d:PT X a tA):PW X (.BoolOp .And [a] pos) tA:=by
 intro g b s f H Q I h;refine isTrue_and (thn (d b s f H Q I h) λc s1 e=>?_);cases c with
 | true=>exact isTrue_and_nil e
 | false=>exact e
def zpt (d:PT X a tA):PW X (.BoolOp .Or [a] pos) tA:=by
 intro g b s f H Q I h;refine isTrue_or (thn (d b s f H Q I h) λc s1 e=>?_);cases c with
 | false=>exact isTrue_or_nil e
 | true=>exact e
def zpu (j:PT X a tA)(k:PW X (.BoolOp .And (b::rest) pos) tB'):PW X (.BoolOp .And (a::b::rest) pos) (zr7 tA tB'):=by
 intro l f s i H Q I h;refine isTrue_and (thn (j f s i H _ I h) λc s1 ⟨d,e,g⟩=>?_);cases c with
 | true=>exact k l f s1 i d Q e g
 | false=>exact⟨d,e,g⟩
def zoG (j:PT X a tA)(k:PW X (.BoolOp .Or (b::rest) pos) tB'):PW X (.BoolOp .Or (a::b::rest) pos) (tOr tA tB'):=by
 intro l f s i H Q I h;refine isTrue_or (thn (j f s i H _ I h) λc s1 ⟨d,e,g⟩=>?_);cases c with
 | true=>exact⟨d,e,g⟩
 | false=>exact k l f s1 i d Q e g
def za4 (e:PT X a tA):PT X (.UnaryOp .Not a pos) (zr8 tA):=by
 intro d s f H Q I h;exact isTrue_not (e d s f H (λc b=>Q (!c) b) I h)
def tIf (t:TT)(ta tb:TE):TE:=fun a H Q=>t a H λc b=>if c=true then ta a b Q else tb a b Q
def zkW {c:Expr}(m:PT X c tA)(k:PE X a ta)(l:PE X b tb):PE X (.IfExp c a b pos) (tIf tA ta tb):=by
 intro e s f H Q I h;refine wpAny_IfExp (thn (m e s f H _ I h) λd s1 ⟨g,i,j⟩=>?_);cases d with
 | true=>exact k e s1 f g Q i j
 | false=>exact l e s1 f g Q i j
end
def SqL (K:XZ)(H:Hp)(a:Addr)(xs:AE):Prop :=
 Rd H a (.lst xs) \/
  ∃(o:Obj) (b:Array X9) (n:Nat),K.lookup a=some o/\o.cls=.type "list"/\o.dict=none/\o.data=.seq b n/\b.size<=Xz/\Vals xs b.toList
def SqT (K:XZ)(H:Hp)(a:Addr)(xs:AE):Prop :=
 Rd H a (.tup xs) \/
  ∃(o:Obj) (b:Array X9) (n:Nat),K.lookup a=some o/\o.cls=.type "tuple"/\o.data=.seq b n/\b.size<=Xz/\Vals xs b.toList
def zr9:X9->Option V
 | .none=>some .non
 | .bool b=>some (.bl b)
 | .int i _=>some (.int i)
 | .str x _=>some (.str x)
 | .bytes b _=>some (.byt b)
 | .float b _=>some (.flt b)
 | .ref a=>some (.ref a)
 | .type n=>some (.ty n)
 | _=>none
def RelV.abs {x:V}{u:X9}(r:RelV x u):zr9 u=some x:=by
 cases x with
 | non=>cases r;rfl
 | bl _=>cases r;rfl
 | int _=>obtain⟨t,rfl⟩:=r;rfl
 | str _=>obtain⟨t,rfl⟩:=r;rfl
 | byt _=>obtain⟨t,rfl⟩:=r;rfl
 | flt _=>obtain⟨t,rfl⟩:=r;rfl
 | ref _=>cases r;rfl
 | ty _=>cases r;rfl
theorem RelV.inj {x y:V}{u:X9}(r:RelV x u)(q:RelV y u):x=y:=Option.some.inj (r.abs.symm.trans q.abs)
theorem Vals.inj:∀{xs ys:AE} {a:List X9},Vals xs a->Vals ys a->xs=ys
 | _,_,_,.nil,.nil=>rfl
 | _,_,_,.cons r t,.cons b t'=>by rw[r.inj b,Vals.inj t t']
section
variable {X:Cx}{bz:List (Addr×Obj)}{σ:St}{H:Hp}{s:X7}{a:Addr}{xs ys:AE}
def SqL.of {K:XZ}(h:H a=some (.lst xs)):SqL K H a xs:=.inl (.inl h)
def SqT.of {K:XZ}(h:H a=some (.tup xs)):SqT K H a xs:=.inl (.inl h)
def Inv.list (I:Inv X bz σ H s)(h:SqL X.K H a xs):∃b:List X9,Vals xs b/\PlainL s.heap a b.toArray/\xs.length<=Xz:=by
 rcases h with h | ⟨o,b,n,hk,c,d,f,g,r⟩
 .refine fN (λz=>fL λb n r e=>?_) (h.ok I.hok);exact⟨b,r,⟨_,n,e,rfl,rfl,rfl⟩,z⟩
 .refine⟨b.toList,r,⟨o,n,I.kIn a o hk,c,d,by simpa using f⟩,?_⟩;have e:=r.length;simp only[X4]at e;lia
def Inv.tuple (I:Inv X bz σ H s)(h:SqT X.K H a xs):∃b:List X9,Vals xs b/\N3 s.heap a b.toArray/\xs.length<=Xz:=by
 rcases h with h | ⟨o,b,n,hk,c,d,f,r⟩
 .obtain⟨z,b,r,p⟩:=h.ok I.hok;exact⟨b,r,p,z⟩
 .refine⟨b.toList,r,⟨o,I.kIn a o hk,c,n,by simpa using d⟩,?_⟩;have e:=r.length;simp only[X4]at e;lia
def Inv.list_inj (I:Inv X bz σ H s)(h:SqL X.K H a xs)(h':SqL X.K H a ys):xs=ys:=by
 obtain⟨c,r,⟨o,n,e,_,_,d⟩,_⟩:=I.list h;obtain⟨b,j,⟨l,k,g,_,_,f⟩,_⟩:=I.list h';rw[e]at g;cases g;rw[d]at f;injection f with i _
 have:c=b:=by simpa using congrArg Array.toList i
 subst this;exact r.inj j
end
abbrev Cx.wish (X:Cx)(E:X9->X7->Prop):Cx:={ X with xe:=E }
abbrev Cx.nox (X:Cx):Cx:=X.wish λ_ _=>False
theorem Cx.Ok.wish {X:Cx}(ok:X.Ok)(E:X9->X7->Prop):(X.wish E).Ok :=
 ⟨ok.mod,ok.kind,ok.glob,ok.blt,ok.above,ok.inj,ok.has,ok.cab,ok.hd,ok.frames,ok.stk,ok.exf,ok.bs,ok.bsz,ok.noex,ok.exfs,ok.funs,ok.frf⟩
def Cx.Ok.unwish {X:Cx}{E:X9->X7->Prop}(ok:(X.wish E).Ok):X.Ok :=
 ⟨ok.mod,ok.kind,ok.glob,ok.blt,ok.above,ok.inj,ok.has,ok.cab,ok.hd,ok.frames,ok.stk,ok.exf,ok.bs,ok.bsz,ok.noex,ok.exfs,ok.funs,ok.frf⟩
section
variable {X:Cx}{bz:List (Addr×Obj)}{σ:St}{H:Hp}{s:X7}{E:X9->X7->Prop}
theorem Inv.wish (I:Inv X bz σ H s)(E:X9->X7->Prop):Inv (X.wish E) bz σ H s:=⟨I.ok.wish E,I.os,I.bare,I.base,I.loc,I.cell,I.free,I.je,I.pin,I.hok,I.len⟩
theorem Inv.unwish (I:Inv (X.wish E) bz σ H s):Inv X bz σ H s:=⟨I.ok.unwish,I.os,I.bare,I.base,I.loc,I.cell,I.free,I.je,I.pin,I.hok,I.len⟩
theorem SP.unwish {D:Ends}{f:Flow}{s':X7}(h:SP (X.wish E) bz D f s'):SP X bz D f s':=by
 cases f with
 | next=>obtain⟨a,b,I,q⟩:=h;exact⟨a,b,I.unwish,q⟩
 | brk=>obtain⟨a,b,I,q⟩:=h;exact⟨a,b,I.unwish,q⟩
 | cont=>obtain⟨a,b,I,q⟩:=h;exact⟨a,b,I.unwish,q⟩
 | ret u=>obtain⟨v,a,b,I,r,q⟩:=h;exact⟨v,a,b,I.unwish,r,q⟩
theorem PSs.nox {st:List Stmt}{t:TS}(h:PSs X.nox st t):PSs X st t:=λbz s σ H D I a =>
 WA (h bz s σ H D (I.wish _) a) (λ_ _ q=>q.unwish) λ_ _ z=>Wy z
end
section
variable {X:Cx}{st:Stmt}{rest:List Stmt}{t u:TS}{e:Expr}{te:TE}{pos:Pos}
def zqU:TS:=λD a H=>D.nx a H
def zqV (t u:TS):TS:=λD a H=>t { D with nx:=u D } a H
def qd:PSs X [] zqU:=λ_ _ a H _ I h=>Vv ⟨a,H,I,h⟩
def ze (h1:PS X st t)(h2:PSs X rest u):PSs X (st::rest) (zqV t u):=by
 intro b s e H D I h;refine U1 (thn (h1 b s e H { D with nx:=u D } I h) λf s1 q=>?_);cases f with
 | next =>
  obtain⟨a,c,d,q⟩:=q;exact h2 b s1 a c D d q
 | ret v=>exact q
 | brk=>exact q
 | cont=>exact q
def zf (h1:PS X st t):PSs X [st] t:=by
 intro a s b H D I h;refine U1 (thn (h1 a s b H D I h) λf s1 q=>?_);cases f with
 | next=>exact Vv q
 | ret v=>exact q
 | brk=>exact q
 | cont=>exact q
def Inv.quiet {a:List (Addr×Obj)}{b:St}{H:Hp}{s:X7}(I:Inv X a b H s):interactive X.env=false:=by simp[interactive,I.ok.kind]
def zqW (te:TE):TS:=λD a H=>te a H λ_ b=>D.nx a b
def jC (he:PE X e te)(f:Ta e none pos.line X.env=pure false:=by rfl):PS X (.Expr e pos) (zqW te):=by
 intro d s a H D I h;exact wpAny_Expr_any (thn (he d s a H _ I h) λv s1 ⟨x,b,c,i,g⟩=>⟨a,b,c,g⟩) I.quiet f
def zsa (te:TE):TS:=λD a H=>te a H D.rt
def zF (he:PE X e te):PS X (.Return (some e) pos) (zsa te):=by
 intro d s a H D I h;exact wpAny_Return_some (thn (he d s a H _ I h) λv s1 ⟨x,b,c,g,f⟩=>⟨x,a,b,c,g,f⟩)
def zsb (c:TT)(t u:TS):TS:=λD a H=>c a H λb d=>if b=true then t D a d else u D a d
def qR {c:Expr}{a b:List Stmt}{k:TT}(n:PT X c k)(l:PSs X a t)(m:PSs X b u):PS X (.If c a b pos) (zsb k t u):=by
 intro e s f H D I h;refine wpAny_If (thn (n e s f H _ I h) λd s1 ⟨g,i,j⟩=>?_);cases d with
 | true=>exact l e s1 f g D i j
 | false=>exact m e s1 f g D i j
def zpv:TS:=λ_ _ _=>False
def yq:PS X st zpv:=λ_ _ _ _ _ _ h=>h.elim
end
abbrev TG:=V->St->Hp->(St->Hp->Prop)->Prop
abbrev TGs:=AE->St->Hp->(St->Hp->Prop)->Prop
def PG (X:Cx)(a:Expr)(t:TG):Prop :=
 ∀(d:List (Addr×Obj)) (s:X7) (e:St) (H:Hp) (v:V) (u:X9) (Q:St->Hp->Prop),Inv X d e H s->RelV v u->t v e H Q ->
  Xu (Xx X.prog X.w) X.A (assign a X.env u) (λ_ f=>∃ b c,Inv X d b c f/\Q b c) X.xe s
def PGs (X:Cx)(h:List Expr)(t:TGs):Prop :=
 ∀(c:List (Addr×Obj)) (s:X7) (f:St) (H:Hp) (e:AE) (d:List X9) (Q:St->Hp->Prop),Inv X c f H s->Vals e d->t e f H Q ->
  Xu (Xx X.prog X.w) X.A (assignInOrder ((Tj h X.env).map (·.2)) d) (λ_ g=>∃ a b,Inv X c a b g/\Q a b) X.xe s
abbrev zpw:=V->V->V->Hp->(Hp->Prop)->Prop
def zqX (X:Cx)(t:zpw):Prop :=
 ∀(b:List (Addr×Obj)) (s:X7) (e:St) (H:Hp) (o i v:V) (d c u:X9) (Q:Hp->Prop),Inv X b e H s->RelV o d->RelV i c->RelV v u->t o i v H Q ->
  Xu (Xx X.prog X.w) X.A (setItem d c u) (λ_ f=>∃a,Inv X b e a f/\Q a) X.xe s
abbrev TIp:=V->V->Hp->VK->Prop
def PIp (X:Cx)(op:Operator)(t:TIp):Prop :=
 ∀(a:List (Addr×Obj)) (s:X7) (b:St) (H:Hp) (x y:V) (v u:X9) (Q:VK),Inv X a b H s->RelV x v->RelV y u->t x y H Q ->
  Xu (Xx X.prog X.w) X.A (inplaceOp op v u) (EP X a b Q) X.xe s
section
variable {X:Cx}{pos:Pos}
def xo (i:Nat):TG:=λv a H Q=>Q (a.set i (some v)) H
def zeI {i:Nat}{x:Str}(b:X.N.Nodup)(d:X.N[i]?=some x)(e:Loc X.env.scope x)(c:X.fn x=true\/X.env.scope.names.lookup x=some .local:=by first | exact .inl rfl | exact .inr rfl | assumption):PG X (.Name x pos) (xo i):=by
 intro f s j H v u Q I r h;exact wpAny_assign_Name (YS I b d e r (λg a=>⟨_,H,a,h⟩) c)
def zsc:TGs:=λa b H Q=>a=[]/\Q b H
def zqY (t:TG)(u:TGs):TGs:=λc d H Q=>∃v r,c=v::r/\t v d H fun a b=>u r a b Q
def jr:PGs X [] zsc:=by
 intro b s a H d c Q I r h;obtain⟨e,h⟩:=h;subst e;cases r;exact assignInOrder_nil ⟨a,H,I,h⟩
def zP {e:Expr}{a:List Expr}{t:TG}{u:TGs}(h1:PG X e t)(h2:PGs X a u)
  (i:(Tj (e::a) X.env).map (·.2)=assign e X.env::(Tj a X.env).map (·.2):=by rfl):PGs X (e::a) (zqY t u):=by
 intro c s l H o m Q I r h;revert h;refine fL λv n g h=>?_;subst g;cases r with
 | cons r k =>
  rw[i];refine assignInOrder_cons (thn (h1 c s l H _ _ _ I r h) λ_ s1 ⟨b,d,f,j⟩=>?_);exact h2 c s1 b d _ _ Q f k j
def zqZ (K:XZ)(n:Nat)(t:TGs):TG:=λv c H Q=>∃a b,v=.ref a/\SqT K H a b/\b.length=n/\t b c H Q
def xq {c:List Expr}{k:Nat}{t:TGs}{n:Nat}(q:X.calm=true)(h:PGs X c t)
  (x:(Tj c X.env).length=n:=by rfl) (d:(Tj c X.env).findIdx? (·.1)=none:=by rfl):PG X (.Tuple c k pos) (zqZ X.K n t):=by
 intro g s j H v u Q I r f;revert f;refine fH λa D m y w f=>?_;subst m;cases r;obtain⟨B,i,z,E⟩:=I.tuple y;refine assign_Tuple_tuple (I.ok.hd q) z (by simp[x,<- w,i.length]) d λp A=>?_;have l:Inv X g j H { s with heap:=p }:=I.kept (t':=s.toks) λb o e=>A b o (Xj (XB e)) e;exact h g _ j H D _ Q l (by simpa using i) f
def zjI (c:TE)(g:TG):TS:=λD a H=>c a H λx b=>g x a b D.nx
def qG {i:Nat}{x:Str}{e:Expr}{b:TE}{a:Pos}(j:X.N.Nodup)(l:X.N[i]?=some x)(n:Loc X.env.scope x)(he:PE X e b)(m:Ta e (some (.Name x a)) pos.line X.env=pure false:=by rfl)(k:X.fn x=true\/X.env.scope.names.lookup x=some .local:=by first | exact .inl rfl | exact .inr rfl | assumption) :
  PS X (.Assign [.Name x a] e pos) (zjI b (xo i)):=by
 intro g s q H D I h;refine Ru (thn (he g s q H _ I h) λv s1 ⟨y,c,d,p,o⟩=>?_) m;exact YS d j l n p (λr f=>⟨_,c,f,o⟩) k
def zq0 (n m l:TE)(a:V->V->Hp->VK->Prop)(d:TIp)(b:zpw):TS:=λD c H=>n c H λo e=>m c e λi f=>a o i f λx g=>l c g λy h=>d x y h λz j=>b o i z j λk=>D.nx c k
def zq1 (X:Cx)(t:V->V->Hp->VK->Prop):Prop :=
 ∀(a:List (Addr×Obj)) (s:X7) (d:St) (H:Hp) (o i:V) (c b:X9) (Q:VK),Inv X a d H s->RelV o c->RelV i b->t o i H Q ->
  Xu (Xx X.prog X.w) X.A (OO c b) (EP X a d Q) X.xe s
def ziG {o i e:Expr}{u r q:TE}{b:V->V->Hp->VK->Prop}{k:TIp}{c:zpw}{op:Operator}{l:Pos}(ho:PE X o u)(Y:PE X i r)(U:zq1 X b)(he:PE X e q)(hp:PIp X op k)(hs:zqX X c)
  (T:∀f d a,augStore i f d a=(do holding [a,f,d] (setItem f d a);release [a,f,d] [];pure .next):=by intros;rfl):PS X (.AugAssign (.Subscript o i l) op e pos) (zq0 u r q b k c):=by
 intro j s g H D I h;refine wpAny_AugAssign_SubscriptAny (thn (ho j s g H _ I h) λf s1 ⟨w,y,J,n,q1⟩=>?_) T;refine thn (Y j s1 g y _ J q1) λd s2 ⟨x,z,L,p,q2⟩=>?_;refine thn (U j s2 g z w x f d _ L n p q2) λm s3 ⟨x3,A,M,r3,q3⟩=>?_;refine thn (he j s3 g A _ M q3) λv s4 ⟨x4,B,N,r4,q4⟩=>?_;refine thn (hp j s4 g B x3 x4 m v _ N r3 r4 q4) λa s5 ⟨x5,E,O,r5,q5⟩=>?_;exact thn (hs j s5 g E w x x5 f d a _ O n p r5 q5) λ_ s6 ⟨G,Q,q6⟩=>⟨g,G,Q,q6⟩
def ipI (f:Int->Int->Int):TIp:=λx y H Q=>∃i j,x=.int i/\y=.int j/\Q (.int (f i j)) H
def zkX:PIp X .Add (ipI λi j=>i+j):=by
 intro e s g H x y v u Q I c d h;revert h;refine fK λi j a b q=>?_;subst a;subst b;obtain⟨t,rfl⟩:=c;obtain⟨f,rfl⟩:=d;exact iadd_int ⟨.int _,H,I.tok _,⟨_,rfl⟩,q⟩
def zkY (c:TT)(h:TS):TS:=λD a H=>∃W:Nat->St->Hp->Prop,(∃m,W m a H)/\∀m a H,W m a H ->
 c a H λb f=>if b=true then ∃N:St->Hp->Prop,(∀ d e,N d e->∃g,g<m/\W g d e)/\h { D with nx:=N,ct:=N,bk:=D.nx } a f else D.nx a f
def zfS {c:Expr}{e:List Stmt}{L:TT}{J:TS}(G:OI (Xx X.prog X.w) X.A X.env X.xe)(Q:PT X c L)(O:PSs X e J):PS X (.While c e [] pos) (zkY L J):=by
 intro o s σ H D I h;obtain⟨W,⟨T,w0⟩,i⟩:=h;refine wpAny_While (codeAny_whileLoop (λn U=>∃ j x,Inv X o j x U/\W n j x) ?_ T ⟨σ,H,I,w0⟩);refine λn s1=>fL λd y M w1=>?_;refine Wr G (thn (Q o s1 d y _ M (i n d y w1)) λb Y ⟨z,B,k⟩=>?_);cases b with
 | true =>
  revert k;refine fJ λN E k=>?_;rw[bw rfl];refine Wr G (thn (O o Y d z _ B k) λf s3 l=>?_);cases f with
  | next =>
   revert l;refine fL λa g m r=>?_;obtain⟨q,p,u⟩:=E a g r;exact⟨q,p,a,g,m,u⟩
  | cont =>
   revert l;refine fL λa g m r=>?_;obtain⟨q,p,u⟩:=E a g r;exact⟨q,p,a,g,m,u⟩
  | brk=>exact l
  | ret v=>exact l
 | false =>
  rw[bq XS];exact Vv ⟨d,z,B,k⟩
end
structure It where
 go:Nat->Hp->Prop
 yld:Nat->Hp->V->Hp->Prop
 stop:Nat->Hp->Prop
def YU (X:Cx)(a:List (Addr×Obj))(H:Hp)(b:Addr):Prop :=
 H b=none/\b≠X.env.locals/\b ∉ X.fs/\(b∈X.ex\/X.s₀.heap.objs.size<=b)/\(∀x c,X.env.cells.lookup x=some c->c≠b)/\∀p∈X.pn++a,p.1≠b
def Inv.fpOk {X:Cx}{f:List (Addr×Obj)}{i:St}{H d:Hp}{s:X7}{b:Addr}(I:Inv X f i H s)(a:s.heap.objs.size<=b)(g:d b=none):YU X f d b:=by
 refine dZ g (Uk (Xn I.lt a)) (I.nofs a) (.inr (X6 I.sz a)) (λx c e z=>?_) (λp h z=>?_)
 .obtain⟨v,q⟩:=I.cell x c e;exact absurd (Xn q.lt (by rw[z];exact a)) (VU _)
 .exact absurd (Xn (XB (I.pin p h).1) (by rw[z];exact a)) (VU _)
structure Turn (P:Xs)(w:Xd)(K:XZ)(tg:Expr)(J:It)(fp:List Addr)(it:Addr)(tn:Nat->Heap->Prop):Prop where
 mem:it∈fp
 obj:∀i h,tn i h->∀b∈fp,∃o,h.get? b=some o/\∀v,o.data ≠ .cell v
 keep:∀i h h',tn i h->(∀b∈fp,∀o,h.get? b=some o->h'.get? b=some o)->tn i h'
 item:∀(X:Cx),X.prog=P->X.w=w->X.K=K->X.calm=true->∀(i:Nat) (bz:List (Addr×Obj)) (s:X7) (σ:St) (H:Hp) (E:X9->X7->Prop),Inv X bz σ H s->(∀b∈fp,YU X bz H b)->tn i s.heap->J.go i H ->
  Xu (Xx P w) X.A (R0 (.ref it)) (λr s1=>∃u,r=some u /\
   Xu (Xx P w) X.A (Sc tg (.ref it) u) (λ_ s2=>∃x H',Inv X bz σ H' s2/\RelV x u/\J.yld i H x H'/\tn (i+1) s2.heap/\∀b∈fp,H' b=none) E s1) E s
 done:∀(X:Cx),X.prog=P->X.w=w->X.K=K->X.calm=true->∀(i:Nat) (bz:List (Addr×Obj)) (s:X7) (σ:St) (H:Hp) (E:X9->X7->Prop),Inv X bz σ H s->(∀b∈fp,YU X bz H b)->tn i s.heap->J.stop i H ->
  Xu (Xx P w) X.A (R0 (.ref it)) (λr s1=>r=none/\Inv X bz σ H s1) E s
 self:∀(A:WY) (i:Nat) (s:X7) (Q:X9->X7->Prop) (E:X9->X7->Prop),tn i s.heap->Q (.ref it) s->Xu (Xx P w) A (NX (.ref it)) Q E s
abbrev TI:=St->Hp->(It->Hp->Prop)->Prop
def PIE (X:Cx)(d:List (Addr×Obj))(j:St)(i:Expr)(R:It->Hp->Prop)(c:X9)(g:X7):Prop :=
 ∃(f:Addr) (e:List Addr) (h:Nat->Heap->Prop) (J:It) (a:Hp),c=.ref f/\Inv X d j a g/\Turn X.prog X.w X.K i J e f h/\h 0 g.heap/\(∀b∈e,YU X d a b)/\R J a
def PI (X:Cx)(d a:Expr)(e:TI):Prop :=
 ∀(c:List (Addr×Obj)) (s:X7) (b:St) (H:Hp) (R:It->Hp->Prop),Inv X c b H s->e b H R ->
  Xu (Xx X.prog X.w) X.A (eval a X.env) (λv s1=>Xu (Xx X.prog X.w) X.A (NX v) (PIE X c b d R) X.xe s1) X.xe s
def zkZ {M:Pn}{A:WY}{E:X9->X7->Prop}{s:X7}{b:Expr}{it:Addr}{u:X9}{o:Obj}{n:String}{vs:Array X9}{Q:Unit->X7->Prop}(f:s.heap.get? it=some o)(c:o.cls=.type n)(d:o.data=.fields vs)
    (e:["enumerate","zip","dict_itemiterator","dict_reverseitemiterator","odict_iterator","itertools.zip_longest","itertools.pairwise"].contains n=false) (a:Q () s):Xu M A (Sc b (.ref it) u) Q E s:=by
  unfold Sc;cases b<;>first
    | exact XR a
    | (cases u<;>first
        | exact XR a
        | (refine Y1 (wpAny_load f ?_)
           rw[c,d]
           show Xu M A (if (["enumerate","zip","dict_itemiterator","dict_reverseitemiterator","odict_iterator","itertools.zip_longest","itertools.pairwise"].contains n&&vs[0]?==some (Ua _))=true then _ else _) Q E s
           rw[bq (by intro h;rw[e,Bool.false_and]at h;cases h)]
           exact XR a))
def Itl (K:XZ)(a:Addr):It :=
 ⟨λi H=>∃b x,SqL K H a b/\b[i]?=some x,λi H x c=>c=H/\∀b,SqL K H a b->b[i]?=some x,λi H=>∃b,SqL K H a b/\b.length<=i⟩
def Itr (lo:Int)(n:Nat):It:=⟨λi _=>i<n,λi H x a=>a=H/\x=.int (lo+i),λi _=>n<=i⟩
def zjJ {P:Xs}{w:Xd}{K:XZ}{tg:Expr}(a it:Addr):Turn P w K tg (Itl K a) [it] it (λi h=>h.IsListIter it a i) where
 mem:=by simp
 obj:=λi h st b hb=>by
  have e:b=it:=by simpa using hb
  subst e;obtain⟨o,e,c,d⟩:=st;exact⟨o,e,λv z=>by rw[d]at z;cases z⟩
 keep:=λi h h' st k=>st.at λo e=>k it (by simp) o e
 item:=by
  intro X hP hw hK hc i bz s σ H E I hf st hg;subst hP hw hK;revert hg;refine fL λxs x hq hx=>?_;refine fP (λits rv p hz=>?_) (I.list hq);obtain⟨u,hu,ru⟩:=rv.get hx;refine gc (λf0 f1 f2 f3 f4 f5=>?_) (hf it (by simp));refine wpAny_pyNext_list_item st p.isList (x:=u) (by simpa using hu) λh' st' sb=>?_;have I1:Inv X bz σ H { s with heap:=h' }:=I.turned (t':=s.toks) (λb o hb e=>(sb.2 b hb).trans e) f0 f1 f3 f4 f5;refine fP (λo e c d=>?_) (id st');exact⟨u,rfl,zkZ (s:={ s with heap:=h' }) e c d (by decide) (dR x H I1 ru ⟨rfl,λys hy=>by rw[I.list_inj hy hq];exact hx⟩ st' (λb hb=>(hf b hb).1))⟩
 done:=by
  intro X hP hw hK hc i bz s σ H E I hf st hg;subst hP hw hK;obtain⟨xs,hq,hx⟩:=hg;obtain⟨its,rv,p,hz⟩:=I.list hq;refine gc (λf0 f1 f2 f3 f4 f5=>?_) (hf it (by simp));have hl:=rv.length;exact wpAny_pyNext_list_end (I.ok.hd hc) st p.isList (by simp;lia) λh' eb=>⟨rfl,I.turned (t':=s.toks) (λb o hb e=>eb b o hb e) f0 f1 f3 f4 f5⟩
 self:=λ_ _ _ _ _ st h=>wpAny_pyIter_listiter st h
def zhu {P:Xs}{w:Xd}{K:XZ}{tg:Expr}(it:Addr)(lo:Int)(n:Nat):Turn P w K tg (Itr lo n) [it] it (λi h=>IsRangeIter h it (lo+(i:Nat)*1) ((n:Int)-(i:Nat)) 1) where
 mem:=by simp
 obj:=λi h st b hb=>by
  have e:b=it:=by simpa using hb
  subst e;exact⟨_,st,λv z=>by
   have z':Data.fields _=Data.cell v:=z;cases z'⟩
 keep:=λi h h' st k=>k it (by simp) _ st
 item:=by
  intro X hP hw hK hc i bz s σ H E I hf st hg;subst hP hw hK;refine gc (λf0 f1 f2 f3 f4 f5=>?_) (hf it (by simp));have W:=Walks.range (prog:=X.prog) (w:=X.w) (I.ok.hd hc) it lo 1 n;refine W.item i s _ _ hg st λv h' tk hv st' kk=>?_;obtain⟨t,rfl⟩:=hv;have I1:Inv X bz σ H { s with heap:=h',toks:=tk }:=I.turned (λb o hb e=>kk b o (by simpa using hb) e) f0 f1 f3 f4 f5;refine⟨_,rfl,zkZ (s:={ s with heap:=h',toks:=tk }) (n:="range_iterator") st' rfl rfl (by decide) (dR (.int (lo+i)) H I1 ⟨t,?_⟩ ⟨rfl,rfl⟩ st' (λb hb=>(hf b hb).1))⟩;rw[Int.mul_one]
 done:=by
  intro X hP hw hK hc i bz s σ H E I hf st hg;subst hP hw hK;refine gc (λf0 f1 f2 f3 f4 f5=>?_) (hf it (by simp));exact wpAny_pyNext_range_end (I.ok.hd hc) st (by have:n<=i:=hg;lia) λh' eb=>⟨rfl,I.turned (t':=s.toks) (λb o hb e=>eb b o hb e) f0 f1 f3 f4 f5⟩
 self:=λ_ _ _ _ _ st h=>wpAny_pyIter_rangeiter st h
section
variable {X:Cx}{tg:Expr}
def zoH (K:XZ)(c:TE):TI:=fun e H R=>c e H λx b=>∃a,x=.ref a/\(∃d,SqL K b a d)/\R (Itl K a) b
def zJ {l:Expr}{d:TE}(j:PE X l d):PI X tg l (zoH X.K d):=by
 intro g s u H R I h;refine thn (j g s u H _ I h) λv s1 ⟨x,f,c,r,n⟩=>?_;obtain⟨a,e,⟨z,k⟩,q⟩:=n;subst e;cases r;obtain⟨m,y,p,w⟩:=c.list k;refine S2 p.isList ?_;refine eF s1.heap.objs.size [s1.heap.objs.size] _ _ f rfl (c.kept (t':=s1.toks) λb o e=>XY _ e) (zjJ a _) ⟨_,Xg _ rfl,rfl,rfl⟩ (λb i=>?_) q;have e:b=s1.heap.objs.size:=by simpa using i
 subst e;exact c.fpOk (XW _) (c.hok.fresh (XW _))
def zfT {d:List (Addr×Obj)}{f:St}{H:Hp}{s:X7}{R:It->Hp->Prop}{E:X9->X7->Prop}{lo a:Int}{t u v:Tok}{tk:Nat}(I:Inv X d f H s)(h1:-(2^62)<=lo)(h2:lo<2^62)(i:-(2^62)<=a)(j:a<2^62)
  (q:R (Itr lo (a-lo).toNat) H):Xu (Xx X.prog X.w) X.A (NX (.ref s.heap.objs.size)) (PIE X d f tg R) E { s with heap:=s.heap.push { cls:=.type "range",data:=.fields #[.int lo t,.int a u,.int 1 v] },toks:=tk }:=by
 refine wpAny_pyIter_range (IsRange.new ..) (small_one h1 h2 i j) ?_;have c:Inv X d f H { s with heap:=s.heap.push { cls:=.type "range",data:=.fields #[.int lo t,.int a u,.int 1 v] },toks:=tk }:=I.kept λb o e=>XY _ e;refine eF (s.heap.push { cls:=.type "range",data:=.fields #[.int lo t,.int a u,.int 1 v] }).objs.size [(s.heap.push { cls:=.type "range",data:=.fields #[.int lo t,.int a u,.int 1 v] }).objs.size] _ _ H rfl (c.kept (t':=tk) λb o e=>XY _ e) (zhu _ lo (a-lo).toNat) ?_ (λb k=>?_) q
 .have g:lo+((0:Nat):Int)*1=lo:=by simp
  have h:(((a-lo).toNat:Nat):Int)-((0:Nat):Int)=Builtin.Range.rangeSize lo a 1:=by rw[rangeSize_one];split<;>lia
  show IsRangeIter _ _ (lo+((0:Nat):Int)*1) ((((a-lo).toNat:Nat):Int)-((0:Nat):Int)) 1;rw[g,h];exact Xg _ rfl
 .have e:b=(s.heap.push { cls:=.type "range",data:=.fields #[.int lo t,.int a u,.int 1 v] }).objs.size:=by simpa using k
  subst e;exact c.fpOk (XW _) (c.hok.fresh (XW _))
def zoI (b:TA):TI:=fun d H R=>b d H λc a=>∃j:Int,c=[.int j]/\-(2^62)<=j/\j<2^62/\R (Itr 0 j.toNat) a
def zq2 (b:TA):TI:=fun d H R=>b d H λc a=>∃i j:Int,c=[.int i,.int j]/\(-(2^62)<=i/\i<2^62/\-(2^62)<=j/\j<2^62)/\R (Itr i (j-i).toNat) a
def zjK {a:Expr}{c:TA}{p pos:Pos}(i:Gl X "range")(k:X.mg "range"=none)(g:PA X [a] c)(l:W6 [a] X.env=[(false,eval a X.env)]:=by rfl):PI X tg (.Call (.Name "range" p) [a] [] pos) (zoI c):=by
 intro f s u H R I h;refine Call_ (YT I i k boot_range (VY (thn (g pos f s u H _ I h) λw s1 ⟨x,v,d,n,b⟩=>?_) l rfl));revert b;refine gr λj e b m q=>?_;subst e;cases n with
 | cons r o =>
  cases o;obtain⟨t,rfl⟩:=r;exact call_range_1 (zfT d (by lia) (by lia) b m (by simpa using q))
def za5 {a b:Expr}{g:TA}{p pos:Pos}(n:Gl X "range")(o:X.mg "range"=none)(m:PA X [a,b] g)(u:W6 [a,b] X.env=[(false,eval a X.env),(false,eval b X.env)]:=by rfl)(c:W6 [b] X.env=[(false,eval b X.env)]:=by rfl) :
  PI X tg (.Call (.Name "range" p) [a,b] [] pos) (zq2 g):=by
 intro l s A H R I h;refine Call_ (YT I n o boot_range (VY (thn (m pos l s A H _ I h) λE s1 ⟨G,B,k,z,d⟩=>?_) (by rw[u,c]) (by rw[c];rfl)));obtain⟨i,j,e,⟨d,v,w,x⟩,q⟩:=d;subst e;cases z with
 | cons r f =>
  cases f with
  | cons y f =>
   cases f;obtain⟨t,rfl⟩:=r;obtain⟨D,rfl⟩:=y;exact call_range_2 (zfT k d v w x q)
def zq3 (k:TI)(g:TG)(j:TS):TS:=λD a H=>k a H λJ f=>∃W:Nat->Nat->St->Hp->Prop,(∃m,W 0 m a f)/\∀i m a H,W i m a H ->
 (J.stop i H/\D.nx a H)\/(J.go i H/\∃N:St->Hp->Prop,(∀ c b,N c b->∃e,e<m/\W (i+1) e c b)/\∀x b,J.yld i H x b->g x a b fun d h=>j { D with nx:=N,ct:=N,bk:=D.nx } d h)
def Q0 (fp:List Addr)(h:Heap):List (Addr×Obj):=fp.filterMap λb=>(h.get? b).map λo=>(b,o)
def jT {fp:List Addr}{h:Heap}{b:Addr}{o:Obj}(a:b∈fp)(e:h.get? b=some o):(b,o)∈Q0 fp h:=Th.mpr ⟨b,a,by rw[e];rfl⟩
def zjL {fp:List Addr}{h:Heap}{p:Addr×Obj}(d:p∈Q0 fp h):p.1∈fp/\h.get? p.1=some p.2:=by
 obtain⟨b,c,e⟩:=Th.mp d;cases q:h.get? b with
 | none=>rw[q]at e;cases e
 | some o =>
  rw[q]at e;have a:(b,o)=p:=Option.some.inj e;subst a;exact⟨c,q⟩
def Inv.pinned {a:List (Addr×Obj)}{g:St}{H:Hp}{s:X7}{fp:List Addr}(I:Inv X a g H s)(k:∀b∈fp,YU X a H b)(l:∀b∈fp,∃o,s.heap.get? b=some o/\∀v,o.data ≠ .cell v):Inv X (a++Q0 fp s.heap) g H s :=
 I.pins_of λp m=>(XN.mp m).elim (λz=>I.pin p (Xl _ z)) λz=>by
  obtain⟨f,e⟩:=zjL z;refine fZ (λh i j _=>?_) (k p.1 f);obtain⟨o,c,d⟩:=l p.1 f;rw[e]at c;cases c;exact⟨e,h,i,j,d⟩
def Inv.unpinned {a d:List (Addr×Obj)}{b:St}{H:Hp}{s:X7}(I:Inv X (a++d) b H s):Inv X a b H s:=I.pins_of λp c=>I.pin p (Xl _ (WQ _ c))
def qH {l:Expr}{B:List Stmt}{wi:TI}{g:TG}{tb:TS}{pos:Pos}(Q:OI (Xx X.prog X.w) X.A X.env X.xe)(hc:X.calm=true)(hi:PI X tg l wi)(hg:PG X tg g)(k:PSs X B tb)
  (hs:∀x,We l X.env x=pure x:=by intro _;rfl):PS X (.For tg l B [] pos) (zq3 wi g tb):=by
 intro G s σ H D I h;refine wpAny_For (thn (hi G s σ H _ I h) λv s1 h1=>thn h1 λah s2 h2=>?_) hs;obtain⟨it,M,tn,J,H2,e,I2,T,af,f2,W,⟨m0,w0⟩,ab⟩:=h2;subst e;have p:∀{z:Hp},(∀b∈M,z b=none)->∀b∈M,YU X G z b:=λhn b k=>⟨hn b k,(f2 b k).2⟩;refine OH (λn s'=>∃i q z,Inv X G q z s'/\tn i s'.heap/\(∀b∈M,z b=none)/\W i n q z) ?_ m0 (dN 0 σ H2 I2 af (λb k=>(f2 b k).1) w0);refine λn s3=>fY λi y H3 I3 Y O w3=>?_;rcases ab i n y H3 w3 with ⟨aa,qn⟩ | ⟨go,N,hN,step⟩
 .refine Wr Q (thn (T.done X rfl rfl rfl hc i G s3 y H3 X.xe I3 (p O) Y aa) λr s4 ⟨hr,I4⟩=>?_);subst hr;exact Vv ⟨y,H3,I4,qn⟩
 .refine Wr Q (thn (T.item X rfl rfl rfl hc i G s3 y H3 X.xe I3 (p O) Y go) λr s4 ⟨u,hr,h4⟩=>?_);subst hr;refine Wr Q (thn h4 λ_ s5 ⟨x,H5,I5,r5,y5,L,ae⟩=>?_);have ac:=I5.pinned (p ae) (T.obj _ _ L);refine Wr Q (thn (hg _ s5 y H5 x u _ ac r5 (step x H5 y5)) λ_ s6 ⟨ag,H6,I6,q6⟩=>?_);refine Wr Q (thn (k _ s6 ag H6 _ I6 q6) λf s7 E=>?_);have Ry:∀{a:St} {c:Hp},Inv X (G++Q0 M s5.heap) a c s7->N a c->∃m,m<n/\∃i q z,Inv X G q z s7/\tn i s7.heap/\(∀b∈M,z b=none)/\W i m q z:=λ{a c} j U=>by
   obtain⟨m',hm,w7⟩:=hN a c U;refine fB m' hm (i+1) a c j.unpinned (T.keep _ _ _ L λb k o e=>(j.pin (b,o) (Xl _ (Xl _ (jT k e)))).1) (λb k=>?_) w7;obtain⟨o,e,d⟩:=T.obj _ _ L b k;exact(j.pin (b,o) (Xl _ (Xl _ (jT k e)))).2.1
  cases f with
  | next=>revert E;refine fL λa c j U=>?_;exact Ry j U
  | cont=>revert E;refine fL λa c j U=>?_;exact Ry j U
  | brk=>revert E;refine fL λa c j E=>?_;exact⟨a,c,j.unpinned,E⟩
  | ret v=>revert E;refine gi λx7 a c j r7 E=>?_;exact⟨x7,a,c,j.unpinned,r7,E⟩
end
def jU {K:XZ}{a:Addr}{xs:AE}{g:TG}{l:TS}{D:Ends}{b:St}{H:Hp}(Pv:Nat->St->Hp->Prop)(h0:Pv 0 b H)(r:∀i b H,i<=xs.length->Pv i b H->SqL K H a xs)
  (s:∀i x b H,xs[i]?=some x->Pv i b H->g x b H fun f j=>l { D with nx:=Pv (i+1),ct:=Pv (i+1),bk:=D.nx } f j) (n:∀ b H,Pv xs.length b H->D.nx b H) :
  ∃W:Nat->Nat->St->Hp->Prop,(∃m,W 0 m b H)/\∀i m b H,W i m b H ->
   ((Itl K a).stop i H/\D.nx b H)\/((Itl K a).go i H/\∃N:St->Hp->Prop,(∀ d c,N d c->∃k,k<m/\W (i+1) k d c)/\∀x c,(Itl K a).yld i H x c->g x b c fun f j=>l { D with nx:=N,ct:=N,bk:=D.nx } f j):=by
 refine⟨λi m b H=>m=xs.length-i/\i<=xs.length/\Pv i b H,⟨xs.length,by simp,W3 _,h0⟩,?_⟩;rintro i m b H ⟨rfl,o,p⟩;have q:=r i b H o p;by_cases h:i<xs.length
 .refine .inr (eO ⟨xs,xs[i],q,by simp[h]⟩ (Pv (i+1)) (fun d c u=>⟨xs.length-(i+1),by lia,rfl,h,u⟩) (λx c y=>?_));obtain⟨e,y⟩:=y;subst e;exact s i x b _ (y xs q) p
 .have e:i=xs.length:=by lia
  subst e;exact .inl ⟨⟨xs,q,XW _⟩,n b H p⟩
def yG {lo:Int}{n:Nat}{g:TG}{k:TS}{D:Ends}{a:St}{H:Hp}(Pv:Nat->St->Hp->Prop)(h0:Pv 0 a H)
  (o:∀i a H,i<n->Pv i a H->g (.int (lo+i)) a H fun f h=>k { D with nx:=Pv (i+1),ct:=Pv (i+1),bk:=D.nx } f h) (l:∀ a H,Pv n a H->D.nx a H) :
  ∃W:Nat->Nat->St->Hp->Prop,(∃m,W 0 m a H)/\∀i m a H,W i m a H ->
   ((Itr lo n).stop i H/\D.nx a H)\/((Itr lo n).go i H/\∃N:St->Hp->Prop,(∀ d b,N d b->∃j,j<m/\W (i+1) j d b)/\∀x b,(Itr lo n).yld i H x b->g x a b fun f h=>k { D with nx:=N,ct:=N,bk:=D.nx } f h):=by
 refine⟨λi m a H=>m=n-i/\i<=n/\Pv i a H,⟨n,by simp,W3 _,h0⟩,?_⟩;rintro i m a H ⟨rfl,r,p⟩;by_cases c:i<n
 .refine .inr (eO c (Pv (i+1)) (fun d b q=>⟨n-(i+1),by lia,rfl,c,q⟩) (λx b y=>?_));obtain⟨e,y⟩:=y;subst e y;exact o i a _ c p
 .have e:i=n:=by lia
  subst e;exact .inl ⟨XW _,l a H p⟩
abbrev R2:=V->V->Hp->VK->Prop
def OpR (X:Cx)(f:X9->X9->Sem X9)(r:R2):Prop :=
 ∀(a:List (Addr×Obj)) (s:X7) (b:St) (H:Hp) (x y:V) (v u:X9) (Q:VK),Inv X a b H s->RelV x v->RelV y u->r x y H Q ->
  Xu (Xx X.prog X.w) X.A (f v u) (EP X a b Q) X.xe s
def ju (X:Cx)(f:X9)(r:AE->Hp->VK->Prop):Prop :=
 ∀(a:List (Addr×Obj)) (s:X7) (d:St) (H:Hp) (c:AE) (b:List X9) (Q:VK),Inv X a d H s->Vals c b->r c H Q ->
  Xu (Xx X.prog X.w) X.A (call f b) (EP X a d Q) X.xe s
def zsd (X:Cx)(r:V->Hp->(Bool->Hp->Prop)->Prop):Prop :=
 ∀(a:List (Addr×Obj)) (s:X7) (b:St) (H:Hp) (x:V) (v:X9) (Q:Bool->Hp->Prop),Inv X a b H s->RelV x v->r x H Q ->
  Xu (Xx X.prog X.w) X.A (truthy v) (TP X a b Q) X.xe s
def tOp (r:R2)(d e:TE):TE:=fun a H Q=>d a H λx b=>e a b λy c=>r x y c Q
def rI (C:Int->Int->Prop)(g:Int->Int->V):R2:=λx y H Q=>∃i j,x=.int i/\y=.int j/\C i j/\Q (g i j) H
def rI0 (g:Int->Int->V):R2:=λx y H Q=>∃i j,x=.int i/\y=.int j/\Q (g i j) H
section
variable {X:Cx}{a b c:Expr}{ta tb tc:TE}{pos:Pos}
def zpx (n:PE X a ta)(o:PE X b tb){i:List (Addr×Obj)}{s:X7}{d:St}{H:Hp}{R:V->V->Hp->Prop}(I:Inv X i d H s)
  (h:ta d H λx k=>tb d k λy c=>R x y c) {Q:X9->X7->Prop} {f:X9->X9->Sem X9}
  (p:∀v u j x y c,Inv X i d c j->RelV x v->RelV y u->R x y c->Xu (Xx X.prog X.w) X.A (f v u) Q X.xe j) :
  Xu (Xx X.prog X.w) X.A (eval a X.env) (λv e=>Xu (Xx X.prog X.w) X.A (eval b X.env) (λu g=>Xu (Xx X.prog X.w) X.A (f v u) Q X.xe g) X.xe e) X.xe s:=by
 refine thn (n i s d H _ I h) λv s1 ⟨x,k,l,z,q⟩=>?_;refine thn (o i s1 d k _ l q) λu j ⟨y,c,m,B,r⟩=>?_;exact p v u j x y c m z B r
def zG {op:Operator}{r:R2}(i:OpR X (Uz op) r)(f:PE X a ta)(g:PE X b tb):PE X (.BinOp a op b pos) (tOp r ta tb):=by
 intro e s m H Q I h;exact wpAny_BinOp (zpx f g I h λv u l x y c d j k q=>i e l m c x y v u Q d j k q)
def opI {f:X9->X9->Sem X9}{C:Int->Int->Prop}{g:Int->Int->Int}
  (rule:∀(i j:Int) (t u:Tok) (s:X7) (Q:X9->X7->Prop) (E:X9->X7->Prop),C i j->Q (.int (g i j) s.toks) { s with toks:=s.toks+1 }->Xu (Xx X.prog X.w) X.A (f (.int i t) (.int j u)) Q E s) :
  OpR X f (rI C λi j=>.int (g i j)):=by
 intro e s k H x y v u Q I b c h;revert h;refine fH λi j z0 z1 a q=>?_;subst z0 z1;obtain⟨t,rfl⟩:=b;obtain⟨d,rfl⟩:=c;exact rule i j t d s _ _ a ⟨.int (g i j),H,I.tok _,⟨_,rfl⟩,q⟩
def zq4 {f:X9->X9->Sem X9}{g:Int->Int->Int}
  (rule:∀(i j:Int) (t u:Tok) (s:X7) (Q:X9->X7->Prop) (E:X9->X7->Prop),Q (.int (g i j) s.toks) { s with toks:=s.toks+1 }->Xu (Xx X.prog X.w) X.A (f (.int i t) (.int j u)) Q E s) :
  OpR X f (rI0 λi j=>.int (g i j)):=by
 intro d s e H x y v u Q I a b h;revert h;refine fK λi j z0 z1 q=>?_;subst z0 z1;obtain⟨t,rfl⟩:=a;obtain⟨c,rfl⟩:=b;exact rule i j t c s _ _ ⟨.int (g i j),H,I.tok _,⟨_,rfl⟩,q⟩
def zpy {f:X9->X9->Sem X9}{g:Int->Int->Bool}
  (rule:∀(i j:Int) (t u:Tok) (s:X7) (Q:X9->X7->Prop) (E:X9->X7->Prop),Q (.bool (g i j)) s->Xu (Xx X.prog X.w) X.A (f (.int i t) (.int j u)) Q E s) :
  OpR X f (rI0 λi j=>.bl (g i j)):=by
 intro d s e H x y v u Q I a b h;revert h;refine fK λi j z0 z1 q=>?_;subst z0 z1;obtain⟨t,rfl⟩:=a;obtain⟨c,rfl⟩:=b;exact rule i j t c s _ _ ⟨.bl (g i j),H,I,rfl,q⟩
def zeJ:OpR X (Uz .Add) (rI0 λi j=>.int (i+j)):=zq4 λ_ _ _ _ _ _ _ q=>add_int q
def YV:OpR X (Uz .Sub) (rI0 λi j=>.int (i-j)):=zq4 λ_ _ _ _ _ _ _ q=>sub_int q
def za6:OpR X (Uz .Mod) (rI (λ_ j=>0<j) λi j=>.int (i%j)):=opI λi j _ _ _ _ _ a q=>by
 have h1:(0:Int)<j:=a;exact mod_int' (by lia) (by rw[Int.fmod_eq_emod_of_nonneg i (by lia)];exact q)
def zq5:V->V->Bool
 | .non,.non=>true | .non,.int _=>true | .int _,.non=>true | .non,.bl _=>true | .bl _,.non=>true | .non,.str _=>true | .str _,.non=>true
 | .int _,.int _=>true | .bl _,.bl _=>true | .str _,.str _=>true | .byt _,.byt _=>true
 | .int _,.str _=>true | .str _,.int _=>true | .bl _,.str _=>true | .str _,.bl _=>true
 | _,_=>false
def rEq:R2:=λx y H Q=>zq5 x y=true/\Q (.bl (decide (x=y))) H
def rNe:R2:=λx y H Q=>zq5 x y=true/\Q (.bl (!decide (x=y))) H
def zeK {i j:Int}:decide (V.int i=V.int j)=(i==j):=by
 rw[Wh];simp
def zk0 {i j:Bool}:decide (V.bl i=V.bl j)=(i==j):=by
 rw[Wh];simp
def ziH {i j:Str}:decide (V.str i=V.str j)=(i==j):=by
 rw[Wh];simp
def ziI {i j:Array UInt8}:decide (V.byt i=V.byt j)=(i.toList==j.toList):=by
 rw[Wh];cases i;cases j;simp
def qt {a:List (Addr×Obj)}{c:St}{H:Hp}{s:X7}{Q:VK}{k b:Bool}(I:Inv X a c H s)(q:Q (.bl k) H)(e:k=b):EP X a c Q (.bool b) s:=by
 subst e;exact⟨.bl k,H,I,rfl,q⟩
def YW:OpR X (Ws .Eq) rEq:=by
 intro e s f H x y v u Q I d a h;obtain⟨c,q⟩:=h;cases x with
 | non =>
  cases d;cases y with
  | non=>cases a;exact PySem.EqNone.eq_none_none (qt I q (by simp))
  | bl j=>cases a;exact PySem.EqNone.eq_none_bool (qt I q (by simp))
  | int j=>obtain⟨b,rfl⟩:=a;exact PySem.EqNone.eq_none_int (qt I q (by simp))
  | str j=>obtain⟨b,rfl⟩:=a;exact PySem.EqNone.eq_none_str (qt I q (by simp))
  | _=>exact absurd (show false=true from c) XS
 | bl i =>
  cases d;cases y with
  | non=>cases a;exact PySem.EqNone.eq_bool_none (qt I q (by simp))
  | bl j=>cases a;exact eq_bool (qt I q zk0)
  | str j=>obtain⟨b,rfl⟩:=a;exact PySem.EqMixed.eq_bool_str (qt I q (by simp))
  | _=>exact absurd (show false=true from c) XS
 | int i =>
  obtain⟨t,rfl⟩:=d;cases y with
  | non=>cases a;exact PySem.EqNone.eq_int_none (qt I q (by simp))
  | int j=>obtain⟨b,rfl⟩:=a;exact eq_int (qt I q zeK)
  | str j=>obtain⟨b,rfl⟩:=a;exact PySem.EqMixed.eq_int_str (qt I q (by simp))
  | _=>exact absurd (show false=true from c) XS
 | str i =>
  obtain⟨t,rfl⟩:=d;cases y with
  | non=>cases a;exact PySem.EqNone.eq_str_none (qt I q (by simp))
  | bl j=>cases a;exact PySem.EqMixed.eq_str_bool (qt I q (by simp))
  | int j=>obtain⟨b,rfl⟩:=a;exact PySem.EqMixed.eq_str_int (qt I q (by simp))
  | str j=>obtain⟨b,rfl⟩:=a;exact eq_str (qt I q ziH)
  | _=>exact absurd (show false=true from c) XS
 | byt i =>
  obtain⟨t,rfl⟩:=d;cases y with
  | byt j=>obtain⟨b,rfl⟩:=a;exact PySem.W.eq_bytes (qt I q ziI)
  | _=>exact absurd (show false=true from c) XS
 | _=>cases y<;>exact absurd (show false=true from c) XS
def zdS:OpR X (Ws .NotEq) rNe:=by
 intro e s f H x y v u Q I d a h;obtain⟨c,q⟩:=h;cases x with
 | non =>
  cases d;cases y with
  | non=>cases a;exact PySem.EqNone.ne_none_none (qt I q (by simp))
  | bl j=>cases a;exact PySem.EqNone.ne_none_bool (qt I q (by simp))
  | int j=>obtain⟨b,rfl⟩:=a;exact PySem.EqNone.ne_none_int (qt I q (by simp))
  | str j=>obtain⟨b,rfl⟩:=a;exact PySem.EqNone.ne_none_str (qt I q (by simp))
  | _=>exact absurd (show false=true from c) XS
 | bl i =>
  cases d;cases y with
  | non=>cases a;exact PySem.EqNone.ne_bool_none (qt I q (by simp))
  | bl j=>cases a;exact ne_bool (qt I q (congrArg not zk0))
  | str j=>obtain⟨b,rfl⟩:=a;exact PySem.EqMixed.ne_bool_str (qt I q (by simp))
  | _=>exact absurd (show false=true from c) XS
 | int i =>
  obtain⟨t,rfl⟩:=d;cases y with
  | non=>cases a;exact PySem.EqNone.ne_int_none (qt I q (by simp))
  | int j=>obtain⟨b,rfl⟩:=a;exact ne_int (qt I q (congrArg not zeK))
  | str j=>obtain⟨b,rfl⟩:=a;exact PySem.EqMixed.ne_int_str (qt I q (by simp))
  | _=>exact absurd (show false=true from c) XS
 | str i =>
  obtain⟨t,rfl⟩:=d;cases y with
  | non=>cases a;exact PySem.EqNone.ne_str_none (qt I q (by simp))
  | bl j=>cases a;exact PySem.EqMixed.ne_str_bool (qt I q (by simp))
  | int j=>obtain⟨b,rfl⟩:=a;exact PySem.EqMixed.ne_str_int (qt I q (by simp))
  | str j=>obtain⟨b,rfl⟩:=a;exact ne_str (qt I q (congrArg not ziH))
  | _=>exact absurd (show false=true from c) XS
 | byt i =>
  obtain⟨t,rfl⟩:=d;cases y with
  | byt j=>obtain⟨b,rfl⟩:=a;exact PySem.W.ne_bytes (qt I q (congrArg not ziI))
  | _=>exact absurd (show false=true from c) XS
 | _=>cases y<;>exact absurd (show false=true from c) XS
def zq6:OpR X (Ws .Lt) (rI0 λi j=>.bl (decide (i<j))):=zpy λ_ _ _ _ _ _ _ q=>lt_int q
def zq7:OpR X (Ws .LtE) (rI0 λi j=>.bl (decide (i<=j))):=zpy λ_ _ _ _ _ _ _ q=>le_int q
def zoJ:OpR X (Ws .Gt) (rI0 λi j=>.bl (decide (j<i))):=zpy λ_ _ _ _ _ _ _ q=>gt_int q
def zjM:OpR X (Ws .In) (λx y H Q=>∃i j,x=.str i/\y=.str j/\Q (.bl (!(Us j i 0 j.length 1).isEmpty)) H):=by
 intro c s e H x y v u Q I a b h;revert h;refine fK λi j z0 z1 q=>?_;subst z0 z1;obtain⟨t,rfl⟩:=a;obtain⟨d,rfl⟩:=b;exact in_str (qt I q rfl)
def znh:OpR X (Ws .IsNot) (λx y H Q=>y=.non/\Q (.bl (!decide (x=.non))) H):=by
 intro c s d H x y v u Q I a b h;obtain⟨rfl,q⟩:=h;cases b;refine isnot_none_gen (qt I q ?_);cases x<;>first
  | (cases a;rfl)
  | (obtain⟨t,rfl⟩:=a;rfl)
def qb (b:Expr){op:NS}(h:op ≠ .In:=by decide)(h2:op ≠ .NotIn:=by decide):Tv op b=false:=by
 have a:(op==CmpOp.In)=false:=by cases op<;>first | rfl | exact absurd rfl h
 have c:(op==CmpOp.NotIn)=false:=by cases op<;>first | rfl | exact absurd rfl h2
 cases b<;>simp[Tv,a,c]
def zao {op:NS}{r:R2}(j:OpR X (Ws op) r)(f:PE X a ta)(g:PE X b tb)(i:Tv op b=false):PE X (.Compare a [op] [b] pos) (tOp r ta tb):=by
 intro e s n H Q I h;exact wpAny_Compare1 (zpx f g I h λv u m x y c d k l q=>j e m n c x y v u Q d k l q) i
def zoK (t:TE):TT:=fun b H Q=>t b H λx a=>∃k,x=.bl k/\Q k a
def Zf {op:NS}{r:R2}(w:OpR X (Ws op) r)(o:PE X a ta)(p:PE X b tb)(q:Tv op b=false):PT X (.Compare a [op] [b] pos) (zoK (tOp r ta tb)):=by
 intro d s f H Q I h;refine SL (thn (o d s f H _ I h) λv s1 ⟨x,g,l,E,A⟩=>thn (p d s1 f g _ l A) λu L ⟨y,i,m,G,B⟩ =>
  thn (w d L f i x y v u _ m E G B) λc M ⟨z,j,n,J,k,e,D⟩=>?_) q
 subst e;cases J;exact Vz ⟨j,n,D⟩
def zpz (r f:R2)(ta tb tc:TE):TE:=fun a H Q=>ta a H λx c=>tb a c λy d=>r x y d λz b=>∃k,z=.bl k /\
 (if k=true then tc a b λg e=>f y g e Q else Q (.bl false) b)
def YX {op f:NS}{r o:R2}(Y:OpR X (Ws op) r)(j:OpR X (Ws f) o)(N:PE X a ta)(O:PE X b tb)(T:PE X c tc)
  (U:lastMarks [op,f] [b,c]=false:=by with_unfolding_all rfl):PT X (.Compare a [op,f] [b,c] pos) (zoK (zpz r o ta tb tc)):=by
 intro g s i H Q I h;refine isTrue_chain (thn (N g s i H _ I h) λv s1 ⟨x,q,D,r1,q1⟩=>test_link (thn (O g s1 i q _ D q1) λu s2 ⟨y,w,E,p,q2⟩ =>
  thn (Y g s2 i w x y v u _ E r1 p q2) λd s3 ⟨z,l,m,r3,k,e,n⟩=>?_)) U
 subst e;cases r3;refine Vz ?_;cases k with
 | false =>
  obtain⟨k',L,q'⟩:=n;cases L;exact ite_ff ⟨l,m,q'⟩
 | true =>
  refine ite_tt (test_last (thn (T g s3 i l _ m n) λw' s4 ⟨z',A,G,r4,q4⟩=>thn (j g s4 i A y z' u w' _ G p r4 q4) λd' s5 ⟨z2,B,J,r5,k2,M,q5⟩=>?_));subst M;cases r5;exact Vz ⟨B,J,q5⟩
def zpA (K:XZ)(x:V)(H:Hp)(k:Bool):Prop :=
 match x with
 | .non=>k=false
 | .bl b=>k=b
 | .int i=>k=(i != 0)
 | .str y=>y.length<=Xz/\k=((y.length:Int) != 0)
 | .byt y=>y.size<=Xz/\k=((y.size:Int) != 0)
 | .ref p=>(∃c,SqL K H p c/\k=!c.isEmpty)\/(∃c,SqT K H p c/\k=!c.isEmpty)\/∃a,H p=some (.dK a)/\k=!a.isEmpty
 | _=>False
def zhv {b:Type}{a:List (b × V)}{vs:List (b × X9)}(r:KV a vs):(!vs.isEmpty)=!a.isEmpty:=by
 cases r<;>rfl
def zcm {xs:AE}{a:List X9}(r:Vals xs a):(!a.toArray.isEmpty)=!xs.isEmpty:=by
 cases r<;>simp
def YY:(Xz:Nat)<2^63:=by rw[S9];decide
def zpB:zsd X (λx H Q=>∃k,zpA X.K x H k/\Q k H):=by
 intro B s G H x v Q I g h;obtain⟨k,e,q⟩:=h;have D:=YY;have E:Xz=16777216:=S9;cases x with
 | non =>
  cases g;have a:k=false:=e;subst a;exact truthy_none ⟨H,I,q⟩
 | bl b =>
  cases g;have a:k=b:=e;subst a;exact Vz ⟨H,I,q⟩
 | int i =>
  obtain⟨t,rfl⟩:=g;have a:k=(i != 0):=e;subst a;exact PySem.P.truthy_int ⟨H,I,q⟩
 | str y =>
  obtain⟨t,rfl⟩:=g;obtain⟨A,a⟩:y.length<=Xz/\k=((y.length:Int) != 0):=e;subst a;exact PySem.P.truthy_str (by lia) ⟨H,I.tok _,q⟩
 | byt y =>
  obtain⟨t,rfl⟩:=g;obtain⟨A,a⟩:y.size<=Xz/\k=((y.size:Int) != 0):=e;subst a;exact PySem.W.truthy_bytes (by lia) ⟨H,I.tok _,q⟩
 | ref p =>
  cases g;have a:(∃f,SqL X.K H p f/\k=!f.isEmpty)\/(∃f,SqT X.K H p f/\k=!f.isEmpty)\/∃c,H p=some (.dK c)/\k=!c.isEmpty:=e;rcases a with ⟨f,j,a⟩ | ⟨f,j,a⟩ | ⟨c,j,a⟩
  .subst a;obtain⟨n,r,o,u⟩:=I.list j;have d:=r.length;exact wpAny_truthy_list o.isList (by simp only[Xq];lia) ⟨H,I.tok _,by rw[zcm r];exact q⟩
  .subst a;obtain⟨n,r,o,u⟩:=I.tuple j;have d:=r.length;exact truthy_tuple o (by simp only[Xq];lia) ⟨H,I.tok _,by rw[zcm r];exact q⟩
  .subst a;obtain⟨u,z,l,r,m⟩:c.length<=Xz/\(p==VG)=false/\∃l,KV c l/\s.heap.DictOf (zY X.prog X.w) p l:=I.hok p _ j;have d:c.length=l.length:=Paired.length r;exact wpAny_truthy_dict z m (by lia) ⟨H,I.tok _,by rw[zhv r];exact q⟩
 | _=>exact(show False from e).elim
def zcn (g:PE X a ta)(he:∀whole,isTrue a X.env whole=(do let v <- whole;standAt a.pos;holding [v] (truthy v))) :
  PT X a (fun b H Q=>ta b H λx c=>∃k,zpA X.K x c k/\Q k c):=by
 intro d s b H Q I h;exact isTrue_plain (thn (g d s b H _ I h) λv s1 ⟨x,e,f,j,i⟩=>zpB d s1 b e x v Q f j i) (he _)
def Q2:OpR X (Uz .Add) (λx y H Q=>∃i j,x=.str i/\y=.str j/\i.length+j.length<=Xz/\Q (.str (i++j)) H):=by
 intro e s g H x y v u Q I b c h;revert h;refine fH λi j z0 z1 a q=>?_;subst z0 z1;obtain⟨t,rfl⟩:=b;obtain⟨d,rfl⟩:=c;exact add_str (λd f=>⟨.str (i++j),H,I.tok _,⟨_,rfl⟩,q⟩) a
def vals1 {x:V}{a:List X9}(r:Vals [x] a):∃u,a=[u]/\RelV x u:=by
 cases r with
 | cons b c=>cases c;exact⟨_,rfl,b⟩
def vals2 {x y:V}{a:List X9}(r:Vals [x,y] a):∃u b,a=[u,b]/\RelV x u/\RelV y b:=by
 cases r with
 | cons c d =>
  cases d with
  | cons e f=>cases f;exact⟨_,_,rfl,c,e⟩
def zdT (b:X.calm=true):ju X (.builtin "max") (λxs H Q=>∃i j,xs=[.int i,.int j]/\Q (.int (if j>i then j else i)) H):=by
 intro c s m H xs g Q I r h;obtain⟨i,j,rfl,q⟩:=h;obtain⟨u,l,rfl,⟨t,rfl⟩,⟨e,rfl⟩⟩:=vals2 r;refine max_two_ints (I.ok.hd b) λd f k=>⟨_,H,I.kept k,?_,q⟩;by_cases a:j>i
 .rw[bw a,bw a];exact⟨_,rfl⟩
 .rw[bq a,bq a];exact⟨_,rfl⟩
def za7 (b:X.calm=true):ju X (.builtin "min") (λxs H Q=>∃i j,xs=[.int i,.int j]/\Q (.int (if j<i then j else i)) H):=by
 intro c s m H xs g Q I r h;obtain⟨i,j,rfl,q⟩:=h;obtain⟨u,l,rfl,⟨t,rfl⟩,⟨e,rfl⟩⟩:=vals2 r;refine min_two_ints (I.ok.hd b) λd f k=>⟨_,H,I.kept k,?_,q⟩;by_cases a:j<i
 .rw[bw a,bw a];exact⟨_,rfl⟩
 .rw[bq a,bq a];exact⟨_,rfl⟩
def zeL:ju X (.type "str") (λxs H Q=>∃i,xs=[.int i]/\i.natAbs.log2<1920/\Q (.str (toString i)) H):=by
 intro b s d H xs c Q I r h;obtain⟨i,rfl,a,q⟩:=h;obtain⟨u,rfl,t,rfl⟩:=vals1 r;exact PySem.P.str_of_int a ⟨.str _,H,I.tok _,⟨_,rfl⟩,q⟩
end
def zbV.some_of {v:V}{o:Option X9}(r:zbV (some v) o):∃u,o=some u/\RelV v u:=by
 cases o with
 | none=>exact(show False from r).elim
 | some u=>exact⟨u,rfl,r⟩
structure Jd (k:Nat)(A:WY):Prop where
 hd:A.handled=none
 dp:A.depth+3*k+5<recursionLimit
 un:A.units+16*k+200<VL
def Jd.mono {j k:Nat}{A:WY}(r:Jd k A)(h:j<=k):Jd j A:=⟨r.hd,by have:=r.dp;lia,by have:=r.un;lia⟩
theorem Jd.deeper {k:Nat}{A:WY}(r:Jd (k+1) A)(a:Env):Jd k (A.deeper a) :=
 ⟨r.hd,by have:=r.dp;show A.depth+1+3*k+5<_;lia,by have:=r.un;show A.units+3+16*k+200<_;lia⟩
theorem Jd.depth {k:Nat}{A:WY}(r:Jd k A):A.depth<recursionLimit:=by have:=r.dp;lia
theorem Jd.units {k:Nat}{A:WY}(r:Jd k A):A.units+64<VL:=by have:=r.un;lia
def zk1:TA:=λ_ H Q=>Q [] H
def zco (d:TE)(tr:TA):TA:=fun a H Q=>d a H λx b=>tr a b λe c=>Q (x::e) c
section
variable {X:Cx}{e:Expr}{es:List Expr}{te:TE}{t:TA}{pos:Pos}
def zd:PA X [] zk1:=λ_ _ _ _ H Q I h=>Rt ⟨[],H,I,.nil,h⟩
def za (i:PE X e te)(j:PA X es t)(k:W6 (e::es) X.env=(false,eval e X.env)::W6 es X.env:=by rfl):PA X (e::es) (zco te t):=by
 intro pos a s b H Q I h;rw[k];show Xu _ _ (Ol ((false,eval e X.env)::UB pos (W6 es X.env))) _ _ s;refine UX (thn (i a s b H _ I h) λu s1 ⟨x,c,f,n,l⟩=>?_);exact thn (j pos a s1 b c _ f l) λr q ⟨p,d,g,o,m⟩=>⟨x::p,d,g,.cons n o,m⟩
def zse (t:TA):TE:=fun c H Q=>t c H λb a=>b.length<=Xz/\∀p,a p=none->Q (.ref p) (upd a p (.tup b))
def zsf (t:TA):TE:=fun c H Q=>t c H λb a=>b.length<=Xz/\∀p,a p=none->Q (.ref p) (upd a p (.lst b))
def qj {x1}(h:PA X es t):PE X (.Tuple es x1 pos) (zse t):=by
 intro d s k H Q I g;refine wpAny_Tuple_spliced (thn (h pos d s k H _ I g) λi s1 ⟨j,a,c,r,z,q⟩=>⟨by rw[<- r.length];exact z,?_⟩);have f:a s1.heap.objs.size=none:=c.hok.fresh (XW _);refine⟨.ref s1.heap.objs.size,upd a s1.heap.objs.size (.tup j),c.laid (t':=s1.toks) (λb u e=>XY _ e) (XW _) ?_,rfl,q _ f⟩;exact⟨z,i,r,⟨_,Xg _ rfl,rfl,_,rfl⟩⟩
def zV (h:PA X es t):PE X (.List es pos) (zsf t):=by
 intro d s k H Q I g;refine wpAny_List_spliced (thn (h pos d s k H _ I g) λi s1 ⟨j,a,c,r,z,q⟩=>⟨by rw[<- r.length];exact z,?_⟩);have f:a s1.heap.objs.size=none:=c.hok.fresh (XW _);refine⟨.ref s1.heap.objs.size,upd a s1.heap.objs.size (.lst j),c.laid (t':=s1.toks) (λb u e=>XY _ e) (XW _) ?_,rfl,q _ f⟩;exact⟨z,i,0,r,Xg _ rfl⟩
end
abbrev Sp:=AE->Hp->VK->XK->Prop
abbrev CXT:=List Env->Hp->X7->XK->X9->X7->Prop
structure zk2 (P:Xs)(w:Xd)(K:XZ)(mg:Str->Option X9)(base:Heap)(A:WY)(outer:List Env)(s:X7)(H:Hp):Prop where
 frames:A.frames=some outer
 mod:Mod K mg base
 bs:∀b o,base.get? b=some o->s.heap.get? b=some o/\H b=none
 bsz:base.objs.size<=s.heap.objs.size
 funs:s.heap.FunFrames base outer
 frf:∀b∈frs outer,H b=none
 hok:HOk P w H s.heap
 bare:Ss s.gens
def CE (a:List Env)(P:Xs)(w:Xd)(H:Hp)(s:X7)(Q:VK)(u:X9)(s':X7):Prop :=
 ∃v b,s'.os=s.os/\Ss s'.gens/\Un (frs a) [] H b s.heap s'.heap/\HOk P w b s'.heap/\RelV v u/\Q v b
def CR (CX:CXT)(a:List Env)(P:Xs)(w:Xd)(H:Hp)(s:X7)(Q:VK)(E:XK)(r:Pc)(s':X7):Prop :=
 match r with
 | .ok (.ret u)=>CE a P w H s Q u s'
 | .ok _=>False
 | .error e=>CX a H s E e s'
structure qg (P:Xs)(w:Xd)(K:XZ)(mg:Str->Option X9)(base:Heap)(CX:CXT)(k:Nat)(f:Addr)(fd:XH)(ps:AD)(sp:Sp):Prop where
 len:∀vs H Q E,sp vs H Q E->vs.length=ps.length
 run:∀(A:WY) (outer:List Env) (s:X7) (H:Hp) (args:Args) (us:List X9) (vs:AE) (Q:VK) (E:XK),Jd k A->zk2 P w K mg base A outer s H->ON s fd args (ps.zip us)->Vals vs us->sp vs H Q E ->
  Um (Xx P w) A (.call (.ref f) args) (CR CX outer P w H s Q E) s
def qg.imp {P:Xs}{w:Xd}{K:XZ}{e:Str->Option X9}{base:Heap}{CX:CXT}{k:Nat}{f:Addr}{d:XH}{ps:AD}{sp c:Sp}(F:qg P w K e base CX k f d ps sp)
  (h:∀vs H Q E,c vs H Q E->sp vs H Q E):qg P w K e base CX k f d ps c :=
 ⟨λvs H Q E q=>F.len vs H Q E (h _ _ _ _ q),λA a s H b m vs Q E i he g l j=>F.run A a s H b m vs Q E i he g l (h _ _ _ _ j)⟩
section
variable {X:Cx}{bz:List (Addr×Obj)}{σ:St}{H:Hp}{s s':X7}
def Inv.env0 (I:Inv X bz σ H s):zk2 X.prog X.w X.K X.mg X.base X.A X.stack s H :=
 ⟨I.ok.frames,I.ok.mod,I.bs,X6 I.ok.bsz I.sz,I.stack,I.stkFree,I.hok,I.bare⟩
def Inv.after {Q:VK}{u:X9}(I:Inv X bz σ H s)(h:CE X.stack X.prog X.w H s Q u s'):EP X bz σ Q u s':=by
 revert h;refine gb λv f os a un c r q=>?_;obtain⟨i,g,d,t,e⟩:=s';obtain rfl:e=s.os:=os;exact⟨v,f,I.call (h':=i) (g':=g) (d':=d) (t':=t) (ch:=[]) un c a (λb z=>absurd z (by simp)),r,q⟩
end
def ziJ (sp:Sp)(a:AE)(E:XK)(t:TA):TE:=fun d H Q=>t d H λc b=>sp (c++a) b Q E
def Binds (K:XZ)(c:XH)(ps:AD)(b:List X9):Prop :=
 ∀(s:X7) (a:List X9),K.In s.heap->(a++b).length=ps.length->ON s c ⟨a,[]⟩ (ps.zip (a++b))
def Binds.all {K:XZ}{b:XH}{ps:AD}(h:∀a:List X9,a.length=ps.length->Oh b ⟨a,[]⟩=pure (ps.zip a)):Binds K b ps []:=λs a _ c=>by
 rw[WV]at c ⊢;exact .of_eq (h a c)
def Passes (CX:CXT)(X:Cx)(E:XK):Prop:=∀(b:List (Addr×Obj)) (c:St) (H:Hp) (s:X7) (e:X9) (a:X7),Inv X b c H s->CX X.stack H s E e a->X.xe e a
section
variable {X:Cx}{CX:CXT}{k:Nat}{f C:Addr}{fd:XH}{ps:AD}{sp:Sp}{dvs:AE}{ds:List X9}{E:XK}{x m:Str}{p pos apos:Pos}{e o:Expr}{es:List Expr}{ta:TE}{t:TA}
def zk3 {c:List (Addr×Obj)}{d:St}{H:Hp}{s:X7}{Q:VK}{a:List X9}{vs:AE}(F:qg X.prog X.w X.K X.mg X.base CX k f fd ps sp)(n:Jd k X.A)(j:Binds X.K fd ps ds)(l:Vals dvs ds)(o:Passes CX X E)
  (I:Inv X c d H s) (r:Vals vs a) (h:sp (vs++dvs) H Q E):Xu (Xx X.prog X.w) X.A (call (.ref f) a) (EP X c d Q) X.xe s:=by
 have g:Vals (vs++dvs) (a++ds):=r.append l;have m:(a++ds).length=ps.length:=by rw[<- g.length];exact F.len _ _ _ _ h
 refine Op (TR (F.run X.A X.stack s H ⟨a,[]⟩ (a++ds) (vs++dvs) Q E n I.env0 (j s a I.kIn m) g h) λr p b=>?_);cases r with
 | error e=>exact o c d H s e p I b
 | ok i =>
  cases i with
  | ret u=>exact I.after b
  | next=>exact Wy b
  | brk=>exact Wy b
  | cont=>exact Wy b
def zni (F:qg X.prog X.w X.K X.mg X.base CX k f fd ps sp)(n:Jd k X.A)(l:Gl X x)(m:X.mg x=some (.ref f))(hk:Vi X.K (.ref f)=true)(i:Binds X.K fd ps ds)(j:Vals dvs ds)(o:Passes CX X E)
  (g:PA X (e::es) t) (a:(x==("__debug__":Str))=false:=by decide) (he:W6 (e::es) X.env=(false,eval e X.env)::W6 es X.env:=by rfl) (b:(UB pos (W6 es X.env)).any (·.1)=false:=by rfl) :
  PE X (.Call (.Name x p) (e::es) [] pos) (ziJ sp dvs E t):=by
 intro d s u H Q I h;refine UW (Ze I l m ?_ a);refine Tf (h₀:=X.base) I.ok.mod.kin hk (thn (g pos d s u H _ I h) λy s1 ⟨z,v,c,r,q⟩=>⟨c.kIn,?_⟩) he b;exact zk3 F n i j o c r q
end
structure zz (N P:AD)(sc:UN):Prop where
 kind:sc.kind=.function
 co:sc.isCoroutine=false
 gen:sc.isGenerator=false
 nd:N.Nodup
 pre:N.take P.length=P
 par:∀x∈P,sc.names.lookup x=some .local\/sc.names.lookup x=some .cell
 nofree:∀y∈sc.names,y.2 ≠ .free
def bh {N P:AD}{c:UN}(k:c.kind=.function:=by rfl)(a:c.isCoroutine=false:=by rfl)(b:c.isGenerator=false:=by rfl)(p:N.take P.length=P:=by rfl)(h:(N.Nodup)/\(∀x∈P,c.names.lookup x=some .local\/c.names.lookup x=some .cell)/\∀y∈c.names,y.2 ≠ .free:=by decide+kernel):zz N P c:=⟨k,a,b,h.1,p,h.2.1,h.2.2⟩
theorem zdU {kindOf:Str->Option Sj}{x:Str}:∀{binds:List (Str×X9)} {m:Str->Option X9},(∀v,(x,v) ∉ binds)->N1 kindOf binds m x=m x
 | [],_,_=>rfl
 | (n,v)::r,m,h=>by
  unfold N1;rw[zdU λw a=>h w (XU _ a)];split
  .have:x≠n:=by rintro rfl;exact h v XT
   simp[this]
  .rfl
theorem zdV {kindOf:Str->Option Sj}{x:Str}:∀{binds:List (Str×X9)} {m:Str->Option X9},(∀v,(x,v) ∉ binds)->N0 kindOf binds m x=m x
 | [],_,_=>rfl
 | (n,v)::r,m,h=>by
  unfold N0;rw[zdV λw a=>h w (XU _ a)];split
  .rfl
  .have:x≠n:=by rintro rfl;exact h v XT
   simp[this]
theorem zdW {kindOf:Str->Option Sj}{x:Str}{v:X9}:∀{P:AD} {vs:List X9} {i:Nat} {m:Str->Option X9},P.Nodup->P[i]?=some x->vs[i]?=some v->kindOf x=some .local ->
  N1 kindOf (P.zip vs) m x=some v
 | [],_,_,_,_,h,_,_=>by simp at h
 | _::_,[],_,_,_,_,h,_=>by simp at h
 | p::P,w::vs,0,m,a,h1,h2,hk=>by
  simp at h1 h2;subst h1;subst h2;show N1 kindOf ((p,w)::P.zip vs) m p=_;unfold N1;rw[zdU λv b=>(Wq.mp a).1 (Sb b).1,bw hk];simp
 | p::P,w::vs,i+1,m,a,h1,h2,hk=>by
  show N1 kindOf ((p,w)::P.zip vs) m x=_;unfold N1;exact zdW (i:=i) (Wq.mp a).2 (by simpa using h1) (by simpa using h2) hk
theorem zdX {kindOf:Str->Option Sj}{x:Str}{v:X9}:∀{P:AD} {vs:List X9} {i:Nat} {m:Str->Option X9},P.Nodup->P[i]?=some x->vs[i]?=some v->kindOf x≠some .local ->
  N0 kindOf (P.zip vs) m x=some v
 | [],_,_,_,_,h,_,_=>by simp at h
 | _::_,[],_,_,_,_,h,_=>by simp at h
 | p::P,w::vs,0,m,a,h1,h2,hk=>by
  simp at h1 h2;subst h1;subst h2;show N0 kindOf ((p,w)::P.zip vs) m p=_;unfold N0;rw[zdV λv b=>(Wq.mp a).1 (Sb b).1,bq hk];simp
 | p::P,w::vs,i+1,m,a,h1,h2,hk=>by
  show N0 kindOf ((p,w)::P.zip vs) m x=_;unfold N0;exact zdX (i:=i) (Wq.mp a).2 (by simpa using h1) (by simpa using h2) hk
def start (N:AD)(vs:AE):St:=vs.map some++WZ (N.length-vs.length) none
def zbW (CX:CXT)(P:Xs)(w:Xd)(K:XZ)(mg:Str->Option X9)(base:Heap)(N:AD)(qual:Str)(scope:UN)(f:Addr)(cd:X9)(A:WY)(outer:List Env)(s:X7)(H:Hp)(E:XK):Cx where
 prog:=P
 w:=w
 K:=K
 mg:=mg
 base:=base
 A:=A.deeper (RZ qual scope s.heap.objs.size f cd)
 N:=N
 s₀:=s
 H₀:=H
 env:=RZ qual scope s.heap.objs.size f cd
 outer:=outer
 stack:=RZ qual scope s.heap.objs.size f cd::outer
 ex:=[]
 calm:=true
 fn:=λ_=>true
 pn:=[]
 xe:=λe s'=>Xu (Xx P w) (A.deeper (RZ qual scope s.heap.objs.size f cd)) (leaving (RZ qual scope s.heap.objs.size f cd) e) (λ_ s''=>CX outer H s E e s'') (λe' s''=>CX outer H s E e' s'') s'
def zfU {a:UN}{n:Nat}{x:Str}(h:a.names.lookup x=some .cell):∃c,(SA n a.names []).lookup x=some c:=by
 have q:=SS a.names n [] (.inl h);exact V1.mp q
def zdY {CX:CXT}{P:Xs}{w:Xd}{K:XZ}{I:Str->Option X9}{base:Heap}{N ps:AD}{j:Str}{d:UN}{f:Addr}{D:X9}{A:WY}{g:List Env}{s s1:X7}{H:Hp}{E:XK}{J:List X9}{vs:AE}
  (S:zz N ps d) (O:A.handled=none) (l:zk2 P w K I base A g s H) (Y:vs.length=ps.length) (r:Vals vs J)
  (x:InCallC s s.heap.objs.size (N1 (RZ j d s.heap.objs.size f D).kindOf (ps.zip J) λ_=>none) (SA (s.heap.objs.size+1) d.names []) (N0 (RZ j d s.heap.objs.size f D).kindOf (ps.zip J) λ_=>none) s1) :
  Inv (zbW CX P w K I base N j d f D A g s H E) [] (start N vs) H s1:=by
 have Q:ps.length<=N.length:=by have:=congrArg List.length S.pre;rw[XJ]at this;lia
 refine fL (λh1 tk z0 hk=>?_) x.done;subst z0;have m:∀b:Addr,b ∉ (zbW CX P w K I base N j d f D A g s H E).ex:=λb z=>absurd (show b∈([]:List Addr) from z) (by simp);refine⟨⟨l.mod,S.kind,rfl,rfl,XW _,λy z c h1 h2=>?_,λy hy=>?_,λy c _ h=>?_,λ_=>O,Around.frames_deeper l.frames,.inr ⟨rfl,rfl⟩,λb z=>absurd z (m b),l.bs,l.bsz,λb _ _=>m b,λb z=>absurd z (m b),l.funs,l.frf⟩,rfl,l.bare,Un.kept hk,⟨_,x.toInCall.ns,λi y v h1 h2 U=>?_⟩,λy c h=>⟨_,x.cell y c h⟩,l.hok.fresh (XW _),λy c h=>?_,λp o=>absurd (show p∈([]:List (Addr×Obj)) from o) (by simp),l.hok.kept hk,?_⟩
 .exact name_of_addr x.apart (WE h1) (WE h2)
 .have hy:d.names.lookup y=some .cell\/d.names.lookup y=some .free:=hy;rcases hy with hy | hy
  .exact zfU hy
  .exact absurd rfl (S.nofree _ (WE hy))
 .exact TU (x.above y c (WE h))
 .have G:i<vs.length:=by
   unfold start at h2;by_cases G:i<vs.length
   .exact G
   .rw[VV (by simpa using G)]at h2;rw[List.getElem?_replicate]at h2;split at h2<;>cases h2
  have M:vs[i]?=some v:=by
   unfold start at h2;rw[V9 (by simpa using G),Xv]at h2;cases e:vs[i]? with
   | none=>rw[e]at h2;cases h2
   | some a=>rw[e]at h2;cases h2;rfl
  obtain⟨u,L,T⟩:=r.get M;have o:ps[i]?=some y:=by
   rw[<- S.pre,Rf (by lia)];exact h1
  have B:ps.Nodup:=by rw[<- S.pre];exact S.nd.sublist (Rs _ _)
  refine⟨u,T,?_⟩;rcases S.par y (X8 o) with k | k
  .exact .inl ⟨k,zdW B o L k⟩
  .obtain⟨c,e⟩:=zfU (n:=s.heap.objs.size+1) k;refine .inr ⟨.inl k,c,e,?_⟩;have q:=x.cell y c e;rw[zdX B o L (by show d.names.lookup y≠_;rw[k];decide)]at q;exact q
 .exact l.hok.fresh (TU (x.above y c (WE h)))
 .unfold start;show _=N.length;rw[XX,ZB,SK];lia
def zq8 {CX:CXT}{P:Xs}{w:Xd}{K:XZ}{L:Str->Option X9}{base:Heap}{k:Nat}{f:Addr}{name d:Str}{h:N7}{i:List Stmt}{a:UN}{dV kV doc pm g ct oc:X9}{an od:Option Addr}
  {U:Array (Option X9)} {N ps:AD} {sp:Sp} (lk:K.lookup f=some ⟨oc,od,.func (V8 name d h i a dV kV doc pm an g ct),U⟩) (M:Vj K g d=true) (S:zz N ps a)
  (len:∀vs H Q E,sp vs H Q E->vs.length=ps.length)
  (m:∀(A:WY) (c:List Env) (s:X7) (H:Hp) (vs:AE) (Q:VK) (E:XK),Jd k (A.deeper (RZ d a s.heap.objs.size f g))->sp vs H Q E ->
   ∃t,PSs (zbW CX P w K L base N d a f g A c s H E) i t/\t { nx:=λ_ l=>Q .non l,rt:=Q } (start N vs) H) :
  qg P w K L base CX (k+1) f (V8 name d h i a dV kV doc pm an g ct) ps sp:=by
 refine⟨len,λA c s H aa us vs Q E O B hb r G=>?_⟩;have hl:=len _ _ _ _ G;have KX:K.In s.heap:=B.mod.kin.keeps λb o e=>(B.bs b o e).1;have T:s.heap.NoLimit:=B.mod.nolimit.keeps λb o e=>(B.bs b o e).1;have p:∀y∈ps.zip us,a.names.lookup y.1=some .local\/(a.names.lookup y.1=some .cell/\((SA (s.heap.objs.size+1) a.names []).lookup y.1).isSome=true):=λ⟨n,v⟩ hy=>by
  rcases S.par n (Sb hy).1 with q | q
  .exact .inl q
  .exact .inr ⟨q,SS _ _ _ (.inl q)⟩
 refine Pj O.depth (KX _ _ lk) rfl S.co S.gen rfl (PySem.W.codeRec_of KX M) (hb _ _ _ _ ?_);refine RM S.kind p λab he s1 x=>?_;subst he;refine⟨T.keeps x.toInCall.keep,codeAny_func ?_⟩;refine fJ (λt ht hq=>?_) (m A c s H vs Q E (O.deeper _) G);have I:Inv (zbW CX P w K L base N d a f g A c s H E) [] (start N vs) H s1:=zdY S O.hd B hl r x;refine WA (ht [] s1 (start N vs) H _ I hq) (λfl s' z=>?_) λe s' z=>z;have D:∀{j:St} {l:Hp} {v:V} {u:X9},Inv (zbW CX P w K L base N d a f g A c s H E) [] j l s'->RelV v u->Q v l->CE c P w H s Q u s' :=
  λ{j l v u} J Y q=>(eB v l J.os J.bare J.base J.hok Y q)
 cases fl with
 | ret u =>
  revert z;refine gi λv j l J Y q=>?_;exact D J Y q
 | next =>
  obtain⟨j,l,J,q⟩:=z;exact D (v:=V.non) (u:=Ul) J rfl q
 | brk =>
  obtain⟨_,_,_,q⟩:=z;exact Wy q
 | cont =>
  obtain⟨_,_,_,q⟩:=z;exact Wy q
section
variable {X:Cx}{x:Str}{p pos:Pos}{e:Expr}{es:List Expr}{t:TA}{id T:String}{r:AE->Hp->VK->Prop}
def tCB (r:AE->Hp->VK->Prop)(t:TA):TE:=fun c H Q=>t c H λb a=>r b a Q
def YZ (j:ju X (.builtin id) r)(k:Gl X x)(l:X.mg x=none)(n:U4 x=some (.builtin id))(i:PA X (e::es) t)(m:x ≠ "__name__":=by decide)(a:(x==("__debug__":Str))=false:=by decide)
  (he:W6 (e::es) X.env=(false,eval e X.env)::W6 es X.env:=by rfl) (b:(UB pos (W6 es X.env)).any (·.1)=false:=by rfl):PE X (.Call (.Name x p) (e::es) [] pos) (tCB r t):=by
 intro c s d H Q I h;refine UW (YT I k l n ?_ m a);exact PyProof.Rows.callWith_builtin1 (thn (i pos c s d H _ I h) λu s1 ⟨v,f,g,q,o⟩=>j c s1 d f v u Q g q o) he b
def zjN (j:ju X (.type T) r)(k:Gl X x)(l:X.mg x=none)(n:U4 x=some (.type T))(i:PA X (e::es) t)(m:x ≠ "__name__":=by decide)(a:(x==("__debug__":Str))=false:=by decide)
  (he:W6 (e::es) X.env=(false,eval e X.env)::W6 es X.env:=by rfl) (b:(UB pos (W6 es X.env)).any (·.1)=false:=by rfl):PE X (.Call (.Name x p) (e::es) [] pos) (tCB r t):=by
 intro c s d H Q I h;refine UW (YT I k l n ?_ m a);exact VY (thn (i pos c s d H _ I h) λu s1 ⟨v,f,g,q,o⟩=>j c s1 d f v u Q g q o) he b
end
end L2
namespace HT
open PySem PyProof.Rows
section
variable {prog:Xs}{w:Xd}{A:WY}{E:X9->X7->Prop}{s:X7}
def sIx (n d:Nat):Option Int->Nat
 | none=>d
 | some v=>if v<0 then (v+(n:Int)).toNat else min v.toNat n
def ziK (n d k:Nat):sIx n d (some (k:Int))=min k n:=by
 show (if (k:Int)<0 then ((k:Int)+(n:Int)).toNat else min (k:Int).toNat n)=min k n;rw[bq (by lia),Rr]
end
end HT
namespace L2
open PySem PySem.Spec PyProof.Rows
abbrev TO:=St->Hp->(Option Int->Hp->Prop)->Prop
def PO (X:Cx)(e:Option Expr)(t:TO):Prop :=
 ∀(c:List (Addr×Obj)) (s:X7) (a:St) (H:Hp) (Q:Option Int->Hp->Prop),Inv X c a H s->t a H Q ->
  Xu (Xx X.prog X.w) X.A (evalPart e X.env) (λu d=>∃o b,Inv X c a b d/\IsPart u o/\Q o b) X.xe s
def znj:TO:=λ_ H Q=>Q none H
def zq9 (t:TE):TO:=fun b H Q=>t b H λx a=>∃i,x=.int i/\Q (some i) a
section
variable {X:Cx}{e:Expr}{te:TE}{lo hi:Option Expr}{tl th:TO}{pos p2:Pos}
def zeM:PO X none znj:=by
 intro a s b H Q I h;rw[evalPart_none];exact XR ⟨none,H,I,.none,h⟩
def zeN (h:PE X e te):PO X (some e) (zq9 te):=by
 intro c s j H Q I d;rw[evalPart_some];refine thn (h c s j H _ I d) λu s1 ⟨x,a,b,g,f⟩=>?_;obtain⟨i,rfl,q⟩:=f;obtain⟨t,rfl⟩:=g;exact⟨some i,a,b,.int i t,q⟩
def SlR (X:Cx)(r:V->Option Int->Option Int->Hp->VK->Prop):Prop :=
 ∀(a:List (Addr×Obj)) (s:X7) (e:St) (H:Hp) (x:V) (v c d:X9) (lo hi:Option Int) (b:Addr) (Q:VK),Inv X a e H s->RelV x v->s.heap.IsSliceOf b c d .none->IsPart c lo->IsPart d hi->r x lo hi H Q ->
  ∃T id,PM (.type T) "__getitem__"=pure (some (.builtin id))/\s.TypeIs v T/\Xu (Xx X.prog X.w) X.A (OO v (.ref b)) (EP X a e Q) X.xe s
def tSl (r:V->Option Int->Option Int->Hp->VK->Prop)(te:TE)(tl th:TO):TE:=fun a H Q=>te a H λx b=>tl a b λl c=>th a c λu d=>r x l u d Q
def zcp {r:V->Option Int->Option Int->Hp->VK->Prop}(D:SlR X r)(he:PE X e te)(B:PO X lo tl)(G:PO X hi th):PE X (.Subscript e (.Slice lo hi none p2) pos) (tSl r te tl th):=by
 intro c s d H Q I h;refine Subscript_ (thn (he c s d H _ I h) λv s1 ⟨x,j,m,U,M⟩=>?_);refine wpAny_Slice (thn (B c s1 d j _ m M) λf Y ⟨l,k,n,J,N⟩=>thn (G c Y d k _ n N) λg a ⟨u,i,o,L,O⟩=>?_);rw[evalPart_none];refine XR ?_;have p:Inv X c d i { a with heap:=a.heap.push { cls:=.type "slice",data:=.fields #[f,g,.none] } }:=o.kept (t':=a.toks) λb ob q=>XY _ q;refine fK (λT id y E z=>?_) (D c { a with heap:=a.heap.push { cls:=.type "slice",data:=.fields #[f,g,.none] } } d i x v f g l u a.heap.objs.size Q p U (Heap.IsSliceOf.new ..) J L O);show Xu (Xx X.prog X.w) X.A (Ox e (.Slice lo hi none p2) v (.ref a.heap.objs.size)) (EP X c d Q) X.xe { a with heap:=a.heap.push { cls:=.type "slice",data:=.fields #[f,g,.none] } };exact tail_any (ops:=[.ref a.heap.objs.size,v]) E y z (by with_unfolding_all rfl)
def zdo (xs:AE)(lo hi:Option Int):AE:=(xs.drop (HT.sIx xs.length 0 lo)).take (HT.sIx xs.length xs.length hi-HT.sIx xs.length 0 lo)
def zfV (xs:AE)(lo hi:Option Int):(zdo xs lo hi).length<=xs.length:=by
 unfold zdo;rw[XJ,VF];lia
end
def ixN (n:Nat)(i:Int):Option Nat:=if 0<=i then (if i<n then some i.toNat else none) else if -(n:Int)<=i then some (i+n).toNat else none
def atI {α:Type}(xs:List α)(i:Int):Option α:=(ixN xs.length i).bind λj=>xs[j]?
def ziL {n:Nat}{i:Int}{j:Nat}(h:ixN n i=some j):seqIndex? i n=some j/\j<n/\-(n:Int)<=i/\i<n:=by
 unfold ixN at h;by_cases h0:0<=i
 .rw[bw h0]at h;by_cases h1:i<n
  .rw[bw h1]at h;have e:i.toNat=j:=Option.some.inj h;exact⟨by rw[Pa h0 h1,e],by lia,by lia,h1⟩
  .rw[bq h1]at h;cases h
 .rw[bq h0]at h;by_cases h1:-(n:Int)<=i
  .rw[bw h1]at h;have e:(i+n).toNat=j:=Option.some.inj h;exact⟨by rw[PH (by lia) h1,e],by lia,h1,by lia⟩
  .rw[bq h1]at h;cases h
def zb6 {α:Type}{xs:List α}{i:Int}{v:α}(h:atI xs i=some v):∃j,seqIndex? i xs.length=some j/\xs[j]?=some v/\j<xs.length/\-(xs.length:Int)<=i/\i<xs.length:=by
 unfold atI at h;cases e:ixN xs.length i with
 | none=>rw[e]at h;cases h
 | some j =>
  rw[e]at h;refine fZ (λh1 h2 a b=>?_) (ziL e);exact dU j h1 h h2 a b
def yU {α:Type}{xs:List α}{j:Nat}{v:α}(h:xs[j]?=some v):atI xs (j:Int)=some v:=by
 have a:j<xs.length:=(X5.mp h).1;have e:ixN xs.length (j:Int)=some j:=by
  unfold ixN;rw[bw (by lia),bw (by lia)];simp
 unfold atI;rw[e];exact h
def znk (b:Expr):Prop:=∀o i,O9 b false o i=operate [o,i] (OO o i)
def IxR (X:Cx)(r:R2):Prop :=
 ∀(b a:Expr) (c:List (Addr×Obj)) (s:X7) (d:St) (H:Hp) (x y:V) (v u:X9) (Q:VK),Inv X c d H s->RelV x v->RelV y u->r x y H Q ->
  O9 a false v u=operate [v,u] (OO v u)->Xu (Xx X.prog X.w) X.A (Ox b a v u) (EP X c d Q) X.xe s
def MtR (X:Cx)(id:String)(r:V->AE->Hp->VK->Prop):Prop :=
 ∀(a:List (Addr×Obj)) (s:X7) (d:St) (H:Hp) (x:V) (c:AE) (v:X9) (b:List X9) (Q:VK),Inv X a d H s->RelV x v->Vals c b->r x c H Q ->
  Xu (Xx X.prog X.w) X.A (call (.builtin id) (v::b)) (EP X a d Q) X.xe s
section
variable {X:Cx}{a b:Expr}{ta tb:TE}{pos:Pos}
def zQ {r:R2}(i:IxR X r)(f:PE X a ta)(g:PE X b tb)(j:znk b):PE X (.Subscript a b pos) (tOp r ta tb):=by
 intro e s n H Q I h;exact Subscript_ (zpx f g I h λv u m x y c d k l q=>i a b e m n c x y v u Q d k l q (j _ _))
def zra (K:XZ):R2:=λx y H Q=>∃p a i v,x=.ref p/\y=.int i/\SqL K H p a/\atI a i=some v/\Q v H
def zrb (K:XZ):R2:=λx y H Q=>∃p a i v,x=.ref p/\y=.int i/\SqT K H p a/\atI a i=some v/\Q v H
def zsg:R2:=λx y H Q=>∃z i c,x=.str z/\y=.int i/\z.length<=Xz/\atI z.cps.toList i=some c/\Q (.str ⟨#[c]⟩) H
def zeO:IxR X (zra X.K):=by
 intro g f k s n H x y v u Q I E G h m;revert h;refine gf λp O i z z0 z1 D he q=>?_;subst z0 z1;cases E;obtain⟨t,rfl⟩:=G;obtain⟨c,r,d,N⟩:=I.list D;refine gj (λj h1 h2 L o A=>?_) (zb6 he);obtain⟨w,l,e⟩:=r.get h2;have B:=r.length;have M:=YY;have a:EP X k n Q w s:=⟨z,H,I,e,q⟩;by_cases h0:0<=i
 .have b:i.toNat=j:=by
   rw[Pa h0 A]at h1;exact Option.some.inj h1
  exact item_listR d.isList h0 (by lia) (by rw[b];simpa using l) a m
 .have b:(i+(c.toArray.size:Int)).toNat=j:=by
   rw[PH (by lia) o]at h1;rw[Xq,<- B];exact Option.some.inj h1
  exact Pz (x:=w) d.isList.typeIs slot_list_getitem.lookup
   (Py (Q:=λr J=>r=w/\EP X k n Q r J) d.isList (by lia) (by rw[Xq]<;>lia) (by lia) (by rw[b];simpa using l) ⟨rfl,a⟩) m
def jD:IxR X (zrb X.K):=by
 intro d c e s g H x y v u Q I A B h n;revert h;refine gf λp N i z z0 z1 m he q=>?_;subst z0 z1;cases A;obtain⟨t,rfl⟩:=B;obtain⟨o,r,f,M⟩:=I.tuple m;refine gj (λj h1 h2 E G J=>?_) (zb6 he);obtain⟨w,k,b⟩:=r.get h2;have l:=r.length;have L:=YY;have a:EP X e g Q w s:=⟨z,H,I,b,q⟩;exact Pz (x:=w) f.typeIs slot_tuple_getitem.lookup
  (getItem_tuple (j:=j) (Q:=λr D=>r=w/\EP X e g Q r D) f (by lia) (by lia) (by rw[Xq,<- l];exact h1) (by simpa using k) ⟨rfl,a⟩) n
def zpC:IxR X zsg:=by
 intro b a o s B H x y v u Q I m n h l;revert h;refine fV λz i c z0 z1 w he q=>?_;subst z0 z1;obtain⟨t,rfl⟩:=m;obtain⟨A,rfl⟩:=n;refine gj (λj h1 h2 p f g=>?_) (zb6 he);have k:z.cps.toList.length=z.length:=by simp[Str.length]
 rw[k]at h1 f g;have r:=YY;exact tail_any (typeIs_str s z t) slot_str_getitem.lookup (getItem_str (c:=c) (by
  have d:decide (i < -(2^63:Int))=false:=bf (by lia);have e:decide (i >= 2^63)=false:=bf (by lia);rw[d,e,Bool.or_false]) (by rw[h1];simpa using h2) ⟨.str ⟨#[c]⟩,H,I.tok _,⟨_,rfl⟩,q⟩) l
def zhw (a:List X9)(n j:Nat)(u:X9):U9 (·.setIfInBounds j u) { cls:=.type "list",data:=.seq a.toArray n }={ cls:=.type "list",data:=.seq (a.set j u).toArray n }:=by
 simp[U9]
theorem Inv.lst {b:List (Addr×Obj)}{c:St}{H:Hp}{s:X7}{p:Addr}{xs:AE}(I:Inv X b c H s)(h:H p=some (.lst xs)) :
  ∃(a:List X9) (n:Nat),Vals xs a/\s.heap.get? p=some { cls:=.type "list",data:=.seq a.toArray n }/\xs.length<=Xz:=by
 refine fN (λz=>fL λa n r e=>?_) (I.hok p _ h);exact⟨a,n,r,e,z⟩
def Inv.lstUpd {d:List (Addr×Obj)}{i:St}{H:Hp}{s:X7}{p:Addr}{xs ys:AE}{a its':List X9}{n c:Nat}{f:Obj->Obj}(I:Inv X d i H s)(h:H p=some (.lst xs))
  (k:s.heap.get? p=some { cls:=.type "list",data:=.seq a.toArray n }) (g:f { cls:=.type "list",data:=.seq a.toArray n }={ cls:=.type "list",data:=.seq its'.toArray c }) (r:Vals ys its') (l:ys.length<=Xz) (t:Nat) :
  Inv X d i (upd H p (.lst ys)) { s with heap:=s.heap.update p f,toks:=t }:=by
 have e:(s.heap.update p f).get? p=some { cls:=.type "list",data:=.seq its'.toArray c }:=by
  rw[Wt f k (by rw[g]<;>rfl),g]
 refine I.write (x:=p) (e:=p) (by rw[h];trivial) (.inl rfl) (λb u j q=>(Uh _ _ (U5 j)).trans q) ⟨_,e⟩ ?_;exact⟨l,its',c,r,e⟩
def zrc:V->V->V->Hp->(Hp->Prop)->Prop:=λo i v H Q=>∃p a k j,o=.ref p/\i=.int k/\H p=some (.lst a)/\ixN a.length k=some j/\Q (upd H p (.lst (a.set j v)))
def set_list:zqX X zrc:=by
 intro l s B H o i v G E u Q I y x z h;revert h;refine gf λp A k j z0 z1 g m q=>?_;subst z0 z1;cases y;obtain⟨t,rfl⟩:=x;refine fK (λa n r c w=>?_) (I.lst g);obtain⟨h1,h2,e,f⟩:=ziL m;have b:=r.length;have D:=YY;have d:Inv X l B (upd H p (.lst (A.set j v))) { s with heap:=s.heap.update p (U9 (·.setIfInBounds j u)) } :=
  I.lstUpd g c (zhw a n j u) (r.set z j) (by rw[Pm];exact w) s.toks
 by_cases h0:0<=k
 .have hk:k.toNat=j:=by
   rw[Pa h0 f]at h1;exact Option.some.inj h1
  exact PySem.W.ki_setAt c h0 (by lia) (by rw[Xq,<- b];exact f) (by rw[hk];exact⟨_,d,q⟩)
 .have hk:(k+(a.toArray.size:Int)).toNat=j:=by
   rw[PH (by lia) e]at h1;rw[Xq,<- b];exact Option.some.inj h1
  exact PySem.W.ki_setBack c (by lia) (by rw[Xq,<- b];exact e) (by lia) (by rw[hk];exact⟨_,d,q⟩)
def zeP (lo a:Option Int)(n:Nat):(S8 lo a none n).1=((HT.sIx n 0 lo:Nat):Int)/\(S8 lo a none n).2.1=((HT.sIx n n a:Nat):Int)/\(S8 lo a none n).2.2=1:=by
 refine⟨?_,?_,rfl⟩
 .cases lo with
  | none=>simp[S8,HT.sIx]
  | some i =>
   simp only[S8,HT.sIx,Option.getD_none,show (1:Int)>0 by decide,if_true];by_cases h:i<0
   .simp only[h,if_true]<;>lia
   .simp only[h,if_false]<;>lia
 .cases a with
  | none=>simp[S8,HT.sIx]
  | some i =>
   simp only[S8,HT.sIx,Option.getD_none,show (1:Int)>0 by decide,if_true];by_cases h:i<0
   .simp only[h,if_true]<;>lia
   .simp only[h,if_false]<;>lia
def zdp (a:List X9)(lo b:Option Int):slicePick a.toArray lo b none=((a.drop (HT.sIx a.length 0 lo)).take (HT.sIx a.length a.length b-HT.sIx a.length 0 lo)).toArray:=by
 obtain⟨h1,h2,c⟩:=zeP lo b a.toArray.size;unfold slicePick;rw[h1,h2,c];simp only[sliceRange_one,pick_run,Xq]<;>rfl
def zsh (K:XZ):V->Option Int->Option Int->Hp->VK->Prop:=λx lo c H Q=>∃a b,x=.ref a/\SqL K H a b/\∀p,H p=none->Q (.ref p) (upd H p (.lst (zdo b lo c)))
def zeQ:SlR X (zsh X.K):=by
 intro p s z H x v w y lo e u Q I n g l m h;revert h;refine fK λa c z0 i q=>?_;subst z0;cases n;obtain⟨k,r,f,j⟩:=I.list i;have d:=r.length;refine⟨"list",_,slot_list_getitem.lookup,f.isList.typeIs,?_⟩;refine wpAny_getItem_list_slice f.isList g l m .none (by simp) ?_ (by rw[Xq]<;>lia);rw[zdp,<- d];refine⟨.ref s.heap.objs.size,_,I.laid (t':=s.toks) (o:=.lst (zdo c lo e)) (λb ob q=>XY _ q) (XW _) ?_,rfl,q _ (I.hok.fresh (XW _))⟩;exact⟨X6 (zfV c lo e) j,(eW _ 0 ((r.drop (HT.sIx c.length 0 lo)).take (HT.sIx c.length c.length e-HT.sIx c.length 0 lo)) (Xg _ rfl))⟩
def zbw:V->Bool
 | .non=>true
 | .bl _=>true
 | .int _=>true
 | .str _=>true
 | _=>false
def eqV:V->V->Bool
 | .non,.non=>true
 | .bl a,.bl b=>a==b
 | .bl a,.int b=>(if a then 1 else 0)==b
 | .int a,.bl b=>a==(if b then 1 else 0)
 | .int a,.int b=>a==b
 | .str a,.str b=>a==b
 | _,_=>false
def zpD {A:WY}{s:X7}{y x:V}{u v:X9}(f:RelV y u)(c:RelV x v)(g:zbw y=true)(e:zbw x=true):SeqAt.EqAt A s u v (eqV y x):=by
 cases y with
 | non =>
  cases f;cases x with
  | non=>cases c;exact SeqAt.EqAt.same _
  | bl b=>cases c;exact SeqAt.EqAt.none_bool b
  | int b=>obtain⟨t,rfl⟩:=c;exact SeqAt.EqAt.none_int b t
  | str b=>obtain⟨t,rfl⟩:=c;exact SeqAt.EqAt.none_str b t
  | _=>exact absurd (show false=true from e) XS
 | bl a =>
  cases f;cases x with
  | non=>cases c;exact SeqAt.EqAt.bool_none a
  | bl b=>cases c;exact SeqAt.EqAt.bool_bool a b
  | int b=>obtain⟨t,rfl⟩:=c;exact SeqAt.EqAt.bool_int a b t
  | str b=>obtain⟨t,rfl⟩:=c;exact SeqAt.EqAt.bool_str a b t
  | _=>exact absurd (show false=true from e) XS
 | int a =>
  obtain⟨d,rfl⟩:=f;cases x with
  | non=>cases c;exact SeqAt.EqAt.int_none a d
  | bl b=>cases c;exact SeqAt.EqAt.int_bool a d b
  | int b=>obtain⟨t,rfl⟩:=c;exact SeqAt.EqAt.int_int a d b t
  | str b=>obtain⟨t,rfl⟩:=c;exact SeqAt.EqAt.int_str a d b t
  | _=>exact absurd (show false=true from e) XS
 | str a =>
  obtain⟨d,rfl⟩:=f;cases x with
  | non=>cases c;exact SeqAt.EqAt.str_none a d
  | bl b=>cases c;exact SeqAt.EqAt.str_bool a d b
  | int b=>obtain⟨t,rfl⟩:=c;exact SeqAt.EqAt.str_int a d b t
  | str b=>obtain⟨t,rfl⟩:=c;exact SeqAt.EqAt.str_str a d b t
  | _=>exact absurd (show false=true from e) XS
 | _=>exact absurd (show false=true from g) XS
def eqU (x:V)(u:X9):Bool:=match u with
 | .none=>eqV .non x
 | .bool b=>eqV (.bl b) x
 | .int i _=>eqV (.int i) x
 | .str z _=>eqV (.str z) x
 | _=>false
def zk4 {x y:V}{u:X9}(r:RelV y u)(f:zbw y=true):eqU x u=eqV y x:=by
 cases y with
 | non=>cases r;rfl
 | bl b=>cases r;rfl
 | int i=>obtain⟨t,rfl⟩:=r;rfl
 | str z=>obtain⟨t,rfl⟩:=r;rfl
 | _=>exact absurd (show false=true from f) XS
theorem zeR {x:V}:∀{xs:AE} {a:List X9},Vals xs a->xs.all zbw=true->a.any (eqU x)=xs.any λy=>eqV y x
 | _,_,.nil,_=>rfl
 | y::xs,u::a,.cons r t,f=>by
  rw[List.all_cons,VP]at f;rw[Sq,Sq,zk4 r f.1,zeR t f.2]
theorem zcq {A:WY}{s:X7}{x:V}{v:X9}(c:RelV x v)(b:zbw x=true):∀{xs:AE} {a:List X9},Vals xs a->xs.all zbw=true->∀u∈a,SeqAt.EqAt A s u v (eqU x u)
 | _,_,.nil,_=>λu hu=>by cases hu
 | y::xs,u::a,.cons r t,f=>λd hu=>by
  rw[List.all_cons,VP]at f;rcases XI.mp hu with rfl | hu
  .rw[zk4 r f.1];exact zpD r c f.1 b
  .exact zcq c b t f.2 d hu
def inV (x:V)(xs:AE):Bool:=xs.any λy=>eqV y x
def rIn (K:XZ)(neg:Bool):R2:=λx y H Q=>∃p a,y=.ref p/\(SqL K H p a\/SqT K H p a)/\zbw x=true/\a.all zbw=true/\Q (.bl (if neg then !inV x a else inV x a)) H
def zeS:OpR X (Ws .NotIn) (rIn X.K true):=by
 intro i s k H x y v u Q I e g h;revert h;refine fS λp j z0 hq d fs q=>?_;subst z0;cases g;rcases hq with hq | hq
 .obtain⟨a,r,c,f⟩:=I.list hq;refine SeqAt.notIn_listAt (eqU x) c.isList (λw b=>zcq e d r fs w (by simpa using b)) ⟨.bl _,H,I,rfl,?_⟩;rw[show a.toArray.any (eqU x)=a.any (eqU x) by simp,zeR r fs];exact q
 .obtain⟨a,r,c,f⟩:=I.tuple hq;refine SeqAt.notIn_tupleAt (eqU x) c (λw b=>zcq e d r fs w (by simpa using b)) ⟨.bl _,H,I,rfl,?_⟩;rw[show a.toArray.any (eqU x)=a.any (eqU x) by simp,zeR r fs];exact q
def zeT:OpR X (Ws .NotIn) (λx y H Q=>∃i j,x=.str i/\y=.str j/\Q (.bl (!(!(Us j i 0 j.length 1).isEmpty))) H):=by
 intro c s e H x y v u Q I a b h;revert h;refine fK λi j z0 z1 q=>?_;subst z0 z1;obtain⟨t,rfl⟩:=a;obtain⟨d,rfl⟩:=b;exact notIn_str ⟨.bl _,H,I,rfl,q⟩
def yc:ju X (.builtin "len") (λxs H Q=>∃p ys,xs=[.ref p]/\(SqL X.K H p ys\/SqT X.K H p ys)/\Q (.int ys.length) H):=by
 intro g s k H xs j Q I r h;revert h;refine fK λp ys z0 hq q=>?_;subst z0;obtain⟨u,rfl,f⟩:=vals1 r;cases f;have i:=YY;rcases hq with hq | hq
 .obtain⟨b,d,c,e⟩:=I.list hq;have a:=d.length;exact Calls.call_len_list c.isList (by simp only[Xq]<;>lia) ⟨.int ys.length,H,I.tok _,⟨s.toks+1,by rw[Xq,a]⟩,q⟩
 .obtain⟨b,d,c,e⟩:=I.tuple hq;have a:=d.length;exact len_tuple c (by simp only[Xq]<;>lia) ⟨.int ys.length,H,I.tok _,⟨s.toks+1,by rw[Xq,a]⟩,q⟩
def jg:ju X (.builtin "len") (λxs H Q=>∃z,xs=[.str z]/\z.length<=Xz/\Q (.int z.length) H):=by
 intro a s e H xs d Q I r h;obtain⟨z,rfl,c,q⟩:=h;obtain⟨u,rfl,t,rfl⟩:=vals1 r;have b:=YY;exact len_str (by lia) ⟨.int z.length,H,I.tok _,⟨_,rfl⟩,q⟩
def Yk:ju X (.type "list") (λxs H Q=>∃p ys,xs=[.ref p]/\(SqL X.K H p ys\/SqT X.K H p ys)/\∀l,H l=none->Q (.ref l) (upd H l (.lst ys))):=by
 intro A s D H xs E Q I r h;revert h;refine fK λp ys z0 hq q=>?_;subst z0;obtain⟨u,rfl,B⟩:=vals1 r;cases B;have g:∀(a:List X9),Vals ys a->ys.length<=Xz->∀(c:Heap) (d:Nat),(∀b z,s.heap.get? b=some z->c.get? b=some z) ->
   c.get? s.heap.objs.size=some { cls:=.type "list",dict:=none,data:=.seq a.toArray d,slots:=#[] }->EP X A D Q (.ref s.heap.objs.size) { s with heap:=c }:=λa f j c d k e =>
  ⟨.ref s.heap.objs.size,_,I.laid (t':=s.toks) k (XW _) (show jJ X.prog X.w _ c _ (.lst ys) from ⟨j,a,d,f,e⟩),rfl,q _ (I.hok.fresh (XW _))⟩
 rcases hq with hq | hq
 .obtain⟨a,f,y,j⟩:=I.list hq;have i:=f.length;refine gw (λo x m n v=>?_) y.isList;exact call_list_seq p (.inl rfl) x m v (λc d k e=>g a f j c d k e) (by simp only[Xq]<;>lia)
 .obtain⟨a,f,y,j⟩:=I.tuple hq;have i:=f.length;revert y;refine gw λo x m n v=>?_;exact call_list_seq p (.inr rfl) x m v (λc d k e=>g a f j c d k e) (by simp only[Xq]<;>lia)
def tyV (K:XZ)(T:String)(x:V)(H:Hp):Prop:=match x with
 | .str _=>T="str"
 | .int _=>T="int"
 | .ref p=>(T="list"/\∃b,SqL K H p b)\/(T="tuple"/\∃o,K.lookup p=some o/\o.cls=.type "tuple"/\o.dict=none) \/
   (T="dict"/\((∃a,H p=some (.dK a))\/∃a,H p=some (.dT a)))\/(T="set"/\∃S n,H p=some (.set S n))
 | _=>False
def zpE {j:List (Addr×Obj)}{q:St}{H:Hp}{s:X7}{T:String}{x:V}{v:X9}(I:Inv X j q H s)(r:RelV x v)(ty:tyV X.K T x H) :
  s.TypeIs v T/\∀a,v=.ref a->∃ob,s.heap.get? a=some ob/\ob.dict=none:=by
 cases x with
 | str z =>
  obtain⟨t,rfl⟩:=r;cases (show T="str" from ty);exact⟨typeIs_str s z t,λ_ e=>nomatch e⟩
 | int i =>
  obtain⟨t,rfl⟩:=r;cases (show T="int" from ty);exact⟨typeIs_int s i t,λ_ e=>nomatch e⟩
 | ref p =>
  cases r;rcases ty with ⟨rfl,u,l⟩ | ⟨rfl,o,hk,k,f⟩ | ⟨rfl,hk⟩ | ⟨rfl,S,n,hk⟩
  .obtain⟨m,_,h,_⟩:=I.list l;refine⟨h.isList.typeIs,λa e=>?_⟩;cases e;obtain⟨o,n,e,c,f,_⟩:=h;exact⟨o,e,f⟩
  .refine⟨⟨o,I.kIn p o hk,k⟩,λa e=>?_⟩;cases e;exact⟨o,I.kIn _ o hk,f⟩
  .have z:∃o,s.heap.get? p=some o/\o.ExactDict:=by
    rcases hk with ⟨g,hk⟩ | ⟨g,hk⟩
    .refine fW (λ_ _ _ _=>gi λo _ _ e b _=>?_) (I.hok p _ hk);exact⟨o,e,b⟩
    .refine fW (λ_ _ _ _=>gi λo _ _ e b _=>?_) (I.hok p _ hk);exact⟨o,e,b⟩
   obtain⟨o,e,b⟩:=z;refine⟨⟨o,e,b.1⟩,λa d=>?_⟩;cases d;exact⟨o,e,b.2.1⟩
  .refine fM (λo _ _ _=>fO λe b _=>?_) (I.hok p _ hk);refine⟨⟨o,e,b.1⟩,λa d=>?_⟩;cases d;exact⟨o,e,b.2.1⟩
 | _=>exact Wy ty
def tBM (K:XZ)(T:String)(r:V->AE->Hp->VK->Prop)(d:TE)(t:TA):TE:=fun b H Q=>d b H λx a=>tyV K T x a/\t b a λe c=>r x e c Q
variable {o e:Expr}{es:List Expr}{to:TE}{t:TA}{name:Str}{apos cpos:Pos}{T id:String}{r:V->AE->Hp->VK->Prop}
def JN (A:PlainAttrs T)(f:Slot T name id)(i:typeOf (.builtin id)=pure (.type "method_descriptor"))(w:MtR X id r)(y:PE X o to)(u:PA X (e::es) t)
  (b:Ow o name X.env (eval o X.env)=eval o X.env:=by rfl)
  (d:((UB cpos (W6 (e::es) X.env)).all (λx=>!x.1)&&(backToKw cpos (N5 [] X.env)).all (λx=>x.1.isSome)
   && decide ((e::es).length+([]:List OM).length+(if ([]:List OM).isEmpty then 0 else 1)<30))=true:=by rfl)
  (c:(apos.endLine==cpos.line)=true:=by rfl) (z:W6 (e::es) X.env=(false,eval e X.env)::W6 es X.env:=by rfl) (a:(UB cpos (W6 es X.env)).any (·.1)=false:=by rfl) :
  PE X (.Call (.Attribute o name apos) (e::es) [] cpos) (tBM X.K T r to t):=by
 intro g s j H Q I h;refine Px b d c rfl (thn (y g s j H _ I h) λv s1 ⟨x,n,k,m,ty,B⟩=>?_);obtain⟨h1,h2⟩:=zpE k m ty;refine eB T id A f i h1 h2 ?_;have l:=u cpos g s1 j n _ k B;rw[z]at l ⊢;refine SR (by show (false || (UB cpos (W6 es X.env)).any (·.1))=false;rw[a]<;>rfl) (TY ?_);exact thn l λJ G ⟨L,p,q,E,D⟩=>w g G j p x L v J Q q m E D
/- xs.append(e),list.index on a module's tuple .. are MtR facts of 06m -/
end
def MtM (X:Cx)(id:String)(r:V->AE->Hp->VK->Prop):Prop :=
 ∀(a:List (Addr×Obj)) (s:X7) (d:St) (H:Hp) (x:V) (c:AE) (v:X9) (b:List X9) (Q:VK),Inv X a d H s->RelV x v->Vals c b->r x c H Q ->
  Xu (Xx X.prog X.w) X.A (call (.builtin id) (v::b)) (EP X a d Q) X.xe s
theorem Vals.one:∀{x:V} {a:List X9},Vals [x] a->∃u,a=[u]/\RelV x u
 | _,_,.cons r .nil=>⟨_,rfl,r⟩
theorem Vals.rep {xs:AE}{a:List X9}(h:Vals xs a):∀k:Nat,Vals (WZ k xs).flatten (WZ k a).flatten
 | 0=>.nil
 | k+1=>by
  rw[VN,VN,Wn,Wn];exact Vals.append h (Vals.rep h k)
theorem foldl_rep (b:List X9):∀(k:Nat) (a:List X9),
  List.foldl (λd f=>d++f) a.toArray (WZ k b.toArray)=(a++(WZ k b).flatten).toArray
 | 0,a=>by simp
 | k+1,a=>by
  have e:a.toArray++b.toArray=(a++b).toArray:=by simp
  have c:(a++b)++(WZ k b).flatten=a++(WZ (k+1) b).flatten:=by
   rw[VN,Wn,WL]
  rw[<- c,<- foldl_rep b k (a++b),<- e,VN,Wp]
section
variable {X:Cx}{bz:List (Addr×Obj)}{σ:St}{H:Hp}{s:X7}{l b:Addr}{xs ys zs:AE}
def Inv.lset {a its':List X9}{n:Nat}{f:Array X9->Array X9}{t':Nat}(I:Inv X bz σ H s)(b:H l=some (.lst xs))
  (e:s.heap.get? l=some { cls:=.type "list",data:=.seq a.toArray n }) (d:f a.toArray=its'.toArray) (h:Vals ys its') (i:ys.length<=Xz) :
  Inv X bz σ (upd H l (.lst ys)) { s with heap:=s.heap.update l (U9 f),toks:=t' }:=by
 have q:=PySem.IsL.update e f;rw[d]at q;refine I.write (x:=l) (e:=l) (by rw[b];exact trivial) (.inl rfl) (λj u c g=>(Uh s.heap (U9 f) (U5 c)).trans g) ⟨_,q⟩ ?_;exact⟨i,its',_,h,q⟩
def Inv.lnew {a:List X9}{t':Nat}(I:Inv X bz σ H s)(b:Vals ys a)(hz:ys.length<=Xz) :
  Inv X bz σ (upd H s.heap.objs.size (.lst ys)) { s with heap:=s.heap.push { cls:=.type "list",data:=.seq a.toArray },toks:=t' } :=
 I.laid (λ_ _ q=>XY _ q) (XW _) ⟨hz,a,0,b,Xg _ rfl⟩
theorem Inv.fresh (I:Inv X bz σ H s):H s.heap.objs.size=none:=I.hok.fresh (XW _)
def Inv.lstM (I:Inv X bz σ H s)(b:H l=some (.lst xs)):xs.length<=Xz/\∃(a:List X9) (n:Nat),Vals xs a/\xs.length=a.length/\s.heap.get? l=some { cls:=.type "list",data:=.seq a.toArray n }:=by
 refine fN (λz=>fL λa n r e=>?_) (I.hok l _ b);exact⟨z,a,n,r,r.length,e⟩
def zfW {n:Nat}(h:n<=Xz):UG n=false:=by
 unfold UG;exact bf (by lia)
end
section
variable {X:Cx}
def znl:V->AE->Hp->VK->Prop:=λx b H Q=>∃l a y,x=.ref l/\b=[y]/\H l=some (.lst a)/\a.length<Xz/\Q .non (upd H l (.lst (a++[y])))
def za8:MtM X "list.append" znl:=by
 intro g s p H x m v k Q I f d h;revert h;refine fV λl o y z0 z1 b j q=>?_;subst z0 z1;cases f;obtain⟨u,rfl,c⟩:=d.one;refine gx (λz a n r i e=>?_) (I.lstM b);refine PL F.slot_list_append ⟨_,e,rfl⟩ F.entry_list_append (F.args_list_append_2 _ _) (PySem.list_append l a.toArray n u (by rw[Xq];lia)) ⟨e,?_⟩;refine⟨.non,_,I.lset (its':=a++[u]) b e (by simp) (r.append (.cons c .nil)) ?_,rfl,q⟩;rw[XX,List.length_singleton];lia
def znm:V->AE->Hp->VK->Prop:=λx d H Q=>∃l b a c,x=.ref l/\d=[.ref b]/\H l=some (.lst a)/\H b=some (.lst c)/\a.length+c.length<=Xz/\Q .non (upd H l (.lst (a++c)))
def ZC:MtM X "list.extend" znm:=by
 intro A s N H x G v E Q I y w h;revert h;refine gC λl b J M z0 z1 g j D q=>?_;subst z0 z1;cases y;obtain⟨u,rfl,p⟩:=w.one;cases p;refine gx (λz c n r B e=>?_) (I.lstM g);refine gx (λL a m o k i=>?_) (I.lstM j);have f:c.toArray.size+a.toArray.size<=Xz:=by rw[Xq,Xq];lia
 have d:¬ (!c.toArray.isEmpty&&UG (c.toArray.size+a.toArray.size))=true:=by
  rw[zfW f,Bool.and_false];exact XS
 refine PL F.slot_list_extend ⟨_,e,rfl⟩ F.entry_list_extend (F.args_list_extend_2 _ _)
  (AutoSeq1.list_extend_list_list_0 l c.toArray n b a.toArray m d (by rw[Xq];lia) (by lia)) ⟨e,i,?_⟩
 refine⟨.non,_,I.lset (its':=c++a) g e (by simp) (r.append o) ?_,rfl,q⟩;rw[XX];lia
def zsi:R2:=λx y H Q=>∃l b a c,x=.ref l/\y=.ref b/\H l=some (.lst a)/\H b=some (.lst c)/\a.length+c.length<=Xz/\∀p,H p=none->Q (.ref p) (upd H p (.lst (a++c)))
def JO:OpR X (Uz .Add) zsi:=by
 intro p s J H x y v u Q I m o h;revert h;refine gC λl b D G z0 z1 i g A q=>?_;subst z0 z1;cases m;cases o;refine gx (λz c n r w e=>?_) (I.lstM i);refine gx (λE a B k j d=>?_) (I.lstM g);refine PySem.P.add_list e d ?_ (by rw[Xq,Xq];lia);have f:c.toArray++a.toArray=(c++a).toArray:=by simp
 rw[f];exact⟨.ref _,_,I.lnew (t':=s.toks) (r.append k) (by rw[XX];lia),rfl,q _ I.fresh⟩
def zsj:R2:=λx y H Q=>∃l k a,x=.ref l/\y=.int k/\H l=some (.lst a)/\-(2^63)<=k/\k<2^63/\a.length*k.toNat<=Xz /\
 ∀p,H p=none->Q (.ref p) (upd H p (.lst (WZ k.toNat a).flatten))
def len_rep {α:Type}(xs:List α)(k:Nat):(WZ k xs).flatten.length=k*xs.length:=by
 induction k with
 | zero=>simp
 | succ k a=>rw[VN,Wn,XX,a,Nat.succ_mul,Nat.add_comm]
def zhx:OpR X (Uz .Mult) zsj:=by
 intro J s N H x y v u Q I D E h;revert h;refine gn λl k M z0 z1 A h1 h2 p q=>?_;subst z0 z1;cases D;obtain⟨t,rfl⟩:=E;refine gx (λz b n r B e=>?_) (I.lstM A);have g:b.toArray.size*k.toNat<=Xz:=by rw[Xq,<- B];exact p
 have d:¬ b.toArray.size*k.toNat>(2^63-1)/8:=by
  have:(Xz:Nat)<=(2^63-1)/8:=by decide
  lia
 have f:¬ (!Builtin.List.listFitsIndex k)=true:=by
  rw[fitsIndex_both h1 h2];exact XS
 have c:¬ UG (b.toArray.size*k.toNat)=true:=by
  rw[zfW g];exact XS
 have i:List.foldl (λj o=>j++o) #[] (WZ (if b.toArray.isEmpty=true then 0 else k.toNat) b.toArray)=(WZ k.toNat b).flatten.toArray:=by
  have w:∀m:Nat,List.foldl (λj o=>j++o) #[] (WZ m b.toArray)=(WZ m b).flatten.toArray:=λm=>by
   have:=foldl_rep b m [];rw[List.nil_append]at this;exact this
  rw[w];cases b with
  | nil=>simp
  | cons a L=>rw[bq (by simp)]
 refine wpAny_binaryOp_repeat_ref (T:="list") (U:="int") (by decide) ⟨_,e,rfl⟩ (λG=>typeIs_int G k t) noFill_list_mul F.fills_int_mul F.slot_int_rmul repeat_list F.slot_int_index.lookup
  (PL F.slot_int_rmul (typeIs_int s k t) F.entry_int_rmul (F.args_int_rmul_2 _ _) (int___rmul___int_list k t l b.toArray n)
   ⟨e,rfl,⟨_,e,rfl⟩,PL F.slot_list_mul ⟨_,e,rfl⟩ F.entry_list_mul (F.args_list_mul_2 _ _) (AutoListH.list___mul___list_int_3 l b.toArray n k t f d c) ⟨e,?_⟩⟩)
 rw[i];exact⟨.ref _,_,I.lnew (t':=s.toks) (r.rep k.toNat) (by rw[len_rep,PF];exact p),rfl,q _ I.fresh⟩
end
end L2
namespace Att
open PySem PySem.W PySem.Calls PyProof.Rows
def zbX {P:N8}{h:Heap}:∀(c:List Int) (vs:List X9),WellAll P h vs (c.map WData.int)->OL vs c:=by
 intro c;induction c with
 | nil =>
  intro vs w;rw[Oe]at w;cases w;exact .nil
 | cons n c d =>
  intro vs w;rw[Xw]at w;cases w with
  | cons a b =>
   cases a;exact .cons _ _ (d _ b)
def zjO {l:OpenLaw}{n:Nat}(s:l.most=some n){P:N8}{h:Heap}{args:List WData}{e:List X9}
  (c:l.row.toRowW.claim.pre args=true) (m:WellAll P h e args) :
  ∃a vs b,e=[WM a]/\args=[WData.list (b.map WData.int)]/\h.get? a=some { cls:=.type "list",data:=.seq vs.toArray }/\OL vs b/\b.length<=n:=by
 have k:WShape.hasAll [] args [.list .int]=true:=(pre_splitW c).1;have o:l.pre.holds [] { args:=args }=true:=(pre_splitW c).2;obtain⟨d,r,rfl,h1,h2⟩:=hasAllW_cons k;obtain rfl:=hasAllW_nil h2;obtain⟨y,rfl,p⟩:=hasW_list h1;obtain⟨b,rfl⟩:=items_int p;have g:b.length<=n:=by
  unfold OpenLaw.pre at o;have i:(WTm.not (.lt (.lit (.int (n:Int))) (.len (.arg 0)))).holds [] { args:=[.list (b.map .int)] }=true:=by
   have i:=(holds_andW o).1;rw[s]at i;exact i
  have j:=condW_of i (w_not (w_lt w_lit (w_len_list (w_arg rfl))));rw[ZB]at j;refine Nat.le_of_not_lt λq=>?_;have v:(n:Int)<((b.length:Nat):Int):=by lia
  first
   | (rw[br v]at j;exact absurd j (by decide))
   | (simp at j;lia)
 cases m with
 | cons w x =>
  cases x;cases w with
  | list u f=>exact dP _ _ b rfl rfl u (zbX b _ f) g
def zjP (l:OpenLaw)(args:List WData):l.row.toRowW.claim.post args (.bool true) args=true :=
 postW_of (r:=l.row.toRowW) (X:=(true==true))
  (show WShape.has [] (.bool true) .bool=true by first | rfl | decide | simp[WShape.has,WShape.arms,WShape.armsAll])
  (show (WTm.eq .res (.lit (.bool true))).value [] { args:=args,res:=some (.bool true),after:=args }=some (.bool (true==true)) from w_eq_bool (w_res rfl) w_lit) rfl
end Att
namespace L2
open PySem PySem.Spec PyProof.Rows
theorem zdZ:∀{vs:List X9} {a:List Int},OL vs a->Vals (a.map V.int) vs
 | _,_,.nil=>.nil
 | _,_,.cons n t h=>.cons ⟨t,rfl⟩ (zdZ h)
def zpF (H:Hp):Prop:=∀b,H b=none\/∃o a,H b=some (.frz o (.lst a))
end L2
/- THE LAST THEOREM (shape;LID,My.* are yours):
   My.Adr: a structure of the addresses that your layer names (classes,functions);My.Txt K t: a structure (Prop) of the equations over K;
   My.txt_mk:{K} {implicit addresses ..} (e1:nsIn K XV "law"=some (some (.ref f))) (e2:K.lookup f=some ⟨oc,od,.func (fnOf "law" "law" params body scope dV kV doc pm an cdv ct),sl⟩) (e3:codeIn K cdv "law"=true) ..:∃t,My.Txt K t
set_option maxRecDepth 100000 in
set_option maxHeartbeats 0 in
theorem PySem.Challenge.cw_LID_holds : PySem.Challenge.rw_LID.Holds := by
 w_on;o_law;k_head;(case hw=>w_witness2);k_fill;refine L2.walk_of (l:=PySem.Challenge.rw_LID) (n:=63) (k:=40) (x:="script") (CX:=λw=>..) (sp:=λ_=>My.zsk) rfl (by decide) rfl ⟨rfl,by decide,by decide⟩ (λw h Y=>PySem.W.kIn_of Y) ?F ?S ?C
 case F =>
  intro w mg fa h KX G hmg
  have T:∃t,My.Txt (L2.KOf KX) t:=by
   dsimp only[L2.KOf]                          -- K must stand as «<heap const> w.params» for k_is;refine' My.txt_mk ?e1 ?e2 ?e3 ..;(case e1=>PySem.W.k_is)                    -- in the order: a name->its address->its object->its parts;(case e2=>PySem.W.k_is);..
  obtain⟨t,T⟩:=T
  have e0:=hmg.symm.trans (WW KX G T.law)
  cases e0                                       -- fa is the law's own address
  exact⟨_,λs u=>.of_eq rfl,λbase kb nb=>My.law_fn T kb nb⟩     -- if «.of_eq rfl» comes too early: refine' ⟨_,?b,λbase kb nb=>My.law_fn T kb nb⟩;exact λs u=>.of_eq rfl
 case S=>exact λw H a ns hl hO hS=>..
 case C=>exact ..
(the tactic k_is has no namespace: write k_is) -/
namespace L2
open PySem PySem.Spec PyProof.Rows
def j8 (s:Stmt):N7:=match s with
 | .FunctionDef _ a _ _ _ _ _ _ _ _=>a
 | _=>{ posonlyargs:=[],args:=[],vararg:=none,kwonlyargs:=[],kw_defaults:=[],kwarg:=none,defaults:=[] }
def jq (s:Stmt):List Stmt:=match s with
 | .FunctionDef _ _ b _ _ _ _ _ _ _=>b
 | _=>[]
def zq (s:Stmt):UN:=match s with
 | .FunctionDef _ _ _ _ _ _ a _ _ _=>a
 | _=>{ kind:=.function,names:=[],isGenerator:=false,isCoroutine:=false }
abbrev CX0:CXT:=λ_ _ _ _ _ _=>False
abbrev E0:XK:=λ_ _ _=>False
def zoL {X:Cx}:Passes CX0 X E0:=λ_ _ _ _ _ _ _ h=>h.elim
structure Fun (K:XZ)(x qual:Str)(st:Stmt)(f:Addr)(fd:XH):Prop where
 ex:∃(oc:X9) (od:Option Addr) (kV doc pm:X9) (an:Option Addr) (cdv ct:X9) (osl:Array (Option X9)),
  fd=V8 x qual (j8 st) (jq st) (zq st) .none kV doc pm an cdv ct/\K.lookup f=some ⟨oc,od,.func fd,osl⟩/\Vj K cdv qual=true
 kp:Vi K (.ref f)=true
section
variable {P:Xs}{w:Xd}{K:XZ}{mg:Str->Option X9}{base:Heap}
theorem cxK {CX P w K mg base N q sc f cd A o s H E}:(zbW CX P w K mg base N q sc f cd A o s H E).K=K:=rfl
theorem cxP {CX P w K mg base N q sc f cd A o s H E}:(zbW CX P w K mg base N q sc f cd A o s H E).prog=P:=rfl
theorem cxW {CX P w K mg base N q sc f cd A o s H E}:(zbW CX P w K mg base N q sc f cd A o s H E).w=w:=rfl
def Fun.ok {x b:Str}{st:Stmt}{f:Addr}{i:XH}{N ps:AD}{k:Nat}{sp:Sp}(F:Fun K x b st f i)(S:zz N ps (zq st))(len:∀vs H Q E,sp vs H Q E->vs.length=ps.length)
  (d:∀(c:X9) (A:WY) (a:List Env) (s:X7) (H:Hp) (vs:AE) (Q:VK) (E:XK),Jd k (A.deeper (RZ b (zq st) s.heap.objs.size f c))->sp vs H Q E ->
   ∃t,PSs (zbW CX0 P w K mg base N b (zq st) f c A a s H E).nox (jq st) t/\t { nx:=λ_ j=>Q .non j,rt:=Q } (start N vs) H):qg P w K mg base CX0 (k+1) f i ps sp:=by
 refine fQ (λr u kV doc v o c p=>fP λn z0 m e=>?_) F.ex;subst z0;refine zq8 m e S len λA a s H vs Q E l g=>?_;obtain⟨t,h,q⟩:=d c A a s H vs Q E l g;exact⟨t,h.nox,q⟩
def Fun.binds {x a:Str}{st:Stmt}{f:Addr}{i:XH}{ps:AD}(F:Fun K x a st f i)
  (h:∀(kV doc e:X9) (c:Option Addr) (b d:X9) (g:List X9),g.length=ps.length->Oh (V8 x a (j8 st) (jq st) (zq st) .none kV doc e c b d) ⟨g,[]⟩=pure (ps.zip g)):Binds K i ps []:=by
 refine fQ (λm n kV doc e c b d=>fP λk z0 l j=>?_) F.ex;subst z0;exact .all (h kV doc e c b d)
def zk5 {x a:Str}{st:Stmt}{f:Addr}{i:X9}{j e:Option Addr}{d:Array (Option X9)}{kV doc h b g:X9}(l:K.lookup f=some ⟨i,j,.func (V8 x a (j8 st) (jq st) (zq st) .none kV doc h e b g),d⟩)
  (c:Vj K b a=true) (k:Vi K (.ref f)=true):Fun K x a st f (V8 x a (j8 st) (jq st) (zq st) .none kV doc h e b g):=⟨(fh i j kV doc h e b g (dI d rfl l c)),k⟩
end
section
variable {X:Cx}
def pv (i:Nat){x:Str}{pos:Pos}(b:X.N[i]?=some x:=by rfl)(d:Vis X.env.scope x:=by first | exact V4 rfl | exact PP (V4 rfl) | exact PP (PP rfl))(c:(x==("__debug__":Str))=false:=by decide)
  (a:(x==("__classdict__":Str))=false:=by decide):PE X (.Name x pos) (zqT i):=zpr b d c a
end
def zap {A B:Prop}(h:B):if false=true then A else B:=by
 rw[bq XS];exact h
def zdq {A B:Prop}(h:A):if true=true then A else B:=by
 rw[bw rfl];exact h
def zaq {c A B:Prop} [Decidable c](h1:c->A)(h2:¬ c->B):if c then A else B:=by
 by_cases h:c
 .rw[bw h];exact h1 h
 .rw[bq h];exact h2 h
def zoM {c A B:Prop} [Decidable c](a:c)(h:B):if (!decide c)=true then A else B:=by
 rw[br a];exact zap h
def zx (H a:Hp):Prop:=∀b o,H b=some o->a b=some o
def zx.refl (H:Hp):zx H H:=λ_ _ h=>h
def zx.trans {H d e:Hp}(a:zx H d)(b:zx d e):zx H e:=λc o h=>b c o (a c o h)
def zx.free {H a:Hp}(e:zx H a){l:Addr}(h:a l=Option.none):H l=Option.none:=by
 cases q:H l with
 | none=>rfl
 | some o =>
  rw[e l o q]at h;cases h
def zx.seq {K:XZ}{H b:Hp}{a:Addr}{xs:AE}(e:zx H b)(h:SqL K H a xs):SqL K b a xs:=by
 rcases h with (h | ⟨o,h⟩) | h
 .exact .inl (.inl (e _ _ h))
 .exact .inl (.inr ⟨o,e _ _ h⟩)
 .exact .inr h
end L2
set_option maxHeartbeats 4000000
namespace L2
open PySem PySem.Spec PyProof.Rows
section
variable {X:Cx}
def Zg:OpR X (Uz .Mult) (rI NW λi j=>.int (i*j)):=opI λ_ _ _ _ _ _ _ a q=>mul_int q a
def JP (_ j:Int):Prop:=0<j/\j.natAbs.log2<9000
def zfX:OpR X (Uz .FloorDiv) (rI JP λi j=>.int (i/j)):=opI λi j _ _ _ _ _ a q=>by
 have h1:(0:Int)<j:=a.1;exact floordiv_int (by lia) (by rw[Int.fdiv_eq_ediv_of_nonneg i (by lia)];exact q) (.inl (PyProof.noPylong_of_log2 a.2))
def JP.small {i j:Int}(h:0<j)(h':j<1073741824):JP i j:=by
 refine⟨h,?_⟩;have h0:j.natAbs≠0:=by lia
 have:j.natAbs.log2<30:=(Nat.log2_lt h0).mpr (by lia);lia
def JP.big {i j:Int}(h:0<j)(h':j.natAbs<2^8000):JP i j:=by
 refine⟨h,?_⟩;have h0:j.natAbs≠0:=by lia
 have:j.natAbs.log2<8000:=(Nat.log2_lt h0).mpr h';lia
def zrd {i j:Int}(h1:-(2^64)<j)(h2:j<2^64):NW i j:=IntMulOk.of_right (intBits_le_64 h1 h2)
def mulL {i j:Int}(h1:-(2^64)<i)(h2:i<2^64):NW i j:=IntMulOk.of_left (intBits_le_64 h1 h2)
def zre {i j:Int}(h1:i.natAbs<2^8000)(h2:j.natAbs<2^8000):NW i j:=IntMulOk.of_le (m:=8000) (n:=8000) (intBits_le_iff.mpr h1) (intBits_le_iff.mpr h2) (by decide)
end
def yD {b:Bool}{A B:Prop}(e:b=true)(h:A):if b=true then A else B:=by
 rw[bw e];exact h
def jE {b:Bool}{A B:Prop}(e:b=false)(h:B):if b=true then A else B:=by
 subst e;exact zap h
structure zh (K:XZ)(mg:Str->Option X9)(x:Str)(st:Stmt)(ps:AD)(f:Addr)(fd:XH):Prop where
 F:Fun K x x st f fd
 g:mg x=some (.ref f)
 b:Binds K fd ps []
def Y0 {α:Type}{xs:List α}{i:Int}{v:α}(h:0<=i)(e:xs[i.toNat]?=some v):atI xs i=some v:=by
 have:=yU e;rwa [UD h]at this
def zrf (t u:TS):TS:=λD c H=>∃M:St->Hp->Prop,t { D with nx:=M } c H/\∀ a b,M a b->u D a b
def ziM {X:Cx}{st:Stmt}{a:List Stmt}{t u:TS}(h1:PS X st t)(h2:PSs X a u):PSs X (st::a) (zrf t u):=by
 intro d s k H D I h;obtain⟨M,g,i⟩:=h;refine U1 (thn (h1 d s k H _ I g) λf s1 q=>?_);cases f with
 | next =>
  obtain⟨b,c,e,j⟩:=q;exact h2 d s1 b c D e (i b c j)
 | brk=>exact q
 | cont=>exact q
 | ret v=>exact q
def zc {H:Hp}{l:Addr}{o:HO}(h:H l=none):zx H (upd H l o):=λb u e=>by rw[zp (zg e h)];exact e
def Its (x:Str):It:=⟨λi _=>i<x.cps.size,λi H v a=>a=H/\∃c,x.cps[i]?=some c/\v=.str ⟨#[c]⟩,λi _=>i=x.cps.size⟩
def zfY {P:Xs}{w:Xd}{K:XZ}{tg:Expr}(it:Addr)(x:Str)(t:Tok)(n:String)
  (hn:["enumerate","zip","dict_itemiterator","dict_reverseitemiterator","odict_iterator","itertools.zip_longest","itertools.pairwise"].contains n=false)
  (W:∀A':WY,A'.handled=none->Walks P w A' it [it] [it] x.cps.size (SignAt x) (λi h=>h.IsStrIter it n x t i))
  (S:∀(A:WY) (i:Nat) (s:X7) (Q:X9->X7->Prop) (E:X9->X7->Prop),s.heap.IsStrIter it n x t i->Q (.ref it) s->Xu (Xx P w) A (NX (.ref it)) Q E s) :
  Turn P w K tg (Its x) [it] it (λi h=>h.IsStrIter it n x t i) where
 mem:=by simp
 obj:=λi h st b hb=>by
  have e:b=it:=by simpa using hb
  subst e;obtain⟨o,e,c,d⟩:=st;exact⟨o,e,λv z=>by rw[d]at z;cases z⟩
 keep:=λi h h' st k=>by
  obtain⟨o,e,r⟩:=st;exact⟨o,k it (by simp) o e,r⟩
 item:=by
  intro X hP hw hK hc i bz s σ H E I hf st hg;subst hP hw hK;refine gc (λf0 f1 f2 f3 f4 f5=>?_) (hf it (by simp));refine(W X.A (I.ok.hd hc)).item i s _ _ hg st λv h' tk hv st' kk=>?_;revert hv;refine fL λc u hx z0=>?_;subst z0;have I1:Inv X bz σ H { s with heap:=h',toks:=tk }:=I.turned (λb o hb e=>kk b o (by simpa using hb) e) f0 f1 f3 f4 f5;refine fP (λo e c1 d1=>?_) (id st');exact⟨_,rfl,zkZ (s:={ s with heap:=h',toks:=tk }) e c1 d1 hn (dR (.str ⟨#[c]⟩) H I1 ⟨u,rfl⟩ ⟨rfl,c,hx,rfl⟩ st' (λb hb=>(hf b hb).1))⟩
 done:=by
  intro X hP hw hK hc i bz s σ H E I hf st hg;subst hP hw hK;refine gc (λf0 f1 f2 f3 f4 f5=>?_) (hf it (by simp));have e:i=x.cps.size:=hg;subst e;exact(W X.A (I.ok.hd hc)).done s _ E st λh' tk kk=>⟨rfl,I.turned (λb o hb e=>kk b o (by simpa using hb) e) f0 f1 f3 f4 f5⟩
 self:=λA i s Q E st h=>S A i s Q E st h
section
variable {X:Cx}{tg:Expr}
def zsl (b:TE):TI:=fun c H R=>b c H λx a=>∃z,x=.str z/\R (Its z) a
def zpG {l:Expr}{i:TE}(m:PE X l i):PI X tg l (zsl i):=by
 intro f s r H R I h;refine thn (m f s r H _ I h) λv s1 ⟨x,c,a,p,n⟩=>?_;obtain⟨z,rfl,q⟩:=n;obtain⟨t,rfl⟩:=p;have g:∀b ∈ [s1.heap.objs.size],YU X f c b:=λb k=>by
  have e:b=s1.heap.objs.size:=by simpa using k
  subst e;exact a.fpOk (XW _) (a.hok.fresh (XW _))
 cases ha:z.cps.all (· < 128)
 .refine wpAny_pyIter_wide ha ?_;exact eF s1.heap.objs.size [s1.heap.objs.size] _ _ c rfl (a.kept (t':=s1.toks) λb o e=>XY _ e) (zfY _ z t "str_iterator" (by decide) (λj d=>Walks.strWide d _ z t) (λ_ _ _ _ _ st h=>wpAny_pyIter_striter_wide st h)) ⟨_,Xg _ rfl,rfl,rfl⟩ g q
 .refine wpAny_pyIter_ascii ha ?_;exact eF s1.heap.objs.size [s1.heap.objs.size] _ _ c rfl (a.kept (t':=s1.toks) λb o e=>XY _ e) (zfY _ z t "str_ascii_iterator" (by decide) (λj d=>Walks.strAscii d _ z t) (λ_ _ _ _ _ st h=>wpAny_pyIter_striter_ascii st h)) ⟨_,Xg _ rfl,rfl,rfl⟩ g q
end
def znn {x:Str}{g:TG}{l:TS}{D:Ends}{a:St}{H:Hp}(Pv:Nat->St->Hp->Prop)(h0:Pv 0 a H)
  (q:∀i c a H,x.cps[i]?=some c->Pv i a H->g (.str ⟨#[c]⟩) a H fun f j=>l { D with nx:=Pv (i+1),ct:=Pv (i+1),bk:=D.nx } f j) (o:∀ a H,Pv x.cps.size a H->D.nx a H) :
  ∃W:Nat->Nat->St->Hp->Prop,(∃m,W 0 m a H)/\∀i m a H,W i m a H ->
   ((Its x).stop i H/\D.nx a H)\/((Its x).go i H/\∃N:St->Hp->Prop,(∀ d b,N d b->∃k,k<m/\W (i+1) k d b)/\∀v b,(Its x).yld i H v b->g v a b fun f j=>l { D with nx:=N,ct:=N,bk:=D.nx } f j):=by
 refine⟨λi m a H=>m=x.cps.size-i/\i<=x.cps.size/\Pv i a H,⟨x.cps.size,by simp,W3 _,h0⟩,?_⟩;rintro i m a H ⟨rfl,s,p⟩;by_cases h:i<x.cps.size
 .refine .inr (eO h (Pv (i+1)) (fun d b r=>⟨x.cps.size-(i+1),by lia,rfl,h,r⟩) (λv b y=>?_));obtain⟨e,c,n,rfl⟩:=y;subst e;exact q i c a _ n p
 .have e:i=x.cps.size:=by lia
  subst e;exact .inl ⟨rfl,o a H p⟩
mutual
inductive Rdv (K:XZ)(H:Hp):V->Wj->Prop
 | non:Rdv K H .non .none
 | bl (b:Bool):Rdv K H (.bl b) (.bool b)
 | int (i:Int):Rdv K H (.int i) (.int i)
 | str (x:Str):Rdv K H (.str x) (.str x)
 | lst {a:Addr} {xs:AE} {ds:List Wj}:SqL K H a xs->xr K H xs ds->Rdv K H (.ref a) (.list ds)
 | tup {a:Addr} {xs:AE} {ds:List Wj}:SqT K H a xs->xr K H xs ds->Rdv K H (.ref a) (.tuple ds)
inductive xr (K:XZ)(H:Hp):AE->List Wj->Prop
 | nil:xr K H [] []
 | cons {x:V} {d:Wj} {xs:AE} {ds:List Wj}:Rdv K H x d->xr K H xs ds->xr K H (x::xs) (d::ds)
end
section
variable {X:Cx}{bz:List (Addr×Obj)}{σ:St}{H:Hp}{s:X7}
def zjQ {a:Addr}{xs:AE}{b:List Wj}(I:Inv X bz σ H s)(g:SqL X.K H a xs)(h:∀c,Vals xs c->∃as,Og s.heap c b as):∀u,RelV (.ref a) u->∃as,Reads s.heap u (.list b) as:=by
 intro u r;cases r;obtain⟨i,k,p,l⟩:=I.list g;obtain⟨as,j⟩:=h _ k;obtain⟨o,f,d,n,e⟩:=p.isList;exact⟨_,.list f d e (by simpa using j)⟩
def zjR {a:Addr}{xs:AE}{b:List Wj}(I:Inv X bz σ H s)(g:SqT X.K H a xs)(h:∀c,Vals xs c->∃as,Og s.heap c b as):∀u,RelV (.ref a) u->∃as,Reads s.heap u (.tuple b) as:=by
 intro u r;cases r;obtain⟨i,k,p,l⟩:=I.tuple g;obtain⟨as,j⟩:=h _ k;obtain⟨o,f,d,n,e⟩:=p;exact⟨_,.tuple f d e (by simpa using j)⟩
def zhy {v:V}{vs:AE}{d:Wj}{b:List Wj}(h:∀u,RelV v u->∃as,Reads s.heap u d as)(t:∀a,Vals vs a->∃as,Og s.heap a b as):∀a,Vals (v::vs) a->∃as,Og s.heap a (d::b) as:=by
 intro a r;cases r with
 | cons c e =>
  obtain⟨as,f⟩:=h _ c;obtain⟨bs,g⟩:=t _ e;exact⟨_,.cons f g⟩
def Rdv.reads (I:Inv X bz σ H s){v:V}{d:Wj}{u:X9}(h:Rdv X.K H v d):RelV v u->∃as,Reads s.heap u d as :=
 Rdv.rec (motive_1:=λv d _=>∀u,RelV v u->∃as,Reads s.heap u d as) (motive_2:=λf e _=>∀c,Vals f c->∃as,Og s.heap c e as)
  (λu r=>by cases r;exact⟨_,.none⟩) (λb u r=>by cases r;exact⟨_,.bool b⟩) (λi u r=>by obtain⟨t,rfl⟩:=r;exact⟨_,.int i t⟩) (λx u r=>by obtain⟨t,rfl⟩:=r;exact⟨_,.str x t⟩)
  (λa _ h=>zjQ I a h) (λa _ h=>zjR I a h) (λc r=>by cases r;exact⟨_,.nil⟩) (λ_ _ h t=>zhy h t) h u
structure zhz (x y:Wj):Prop where
 l1:x.canLay0=true
 l2:y.canLay0=true
 dp:x.depth<=64
def zno (K:XZ)(neg:Bool):R2:=λx y H Q=>∃a b,Rdv K H x a/\Rdv K H y b/\zhz a b/\Q (.bl (if neg then !PyData.eqv a b else W1 a b)) H
def JQ (k:X.A.units+64<VL):OpR X (Ws .Eq) (zno X.K false):=by
 intro bz s σ H x y v u Q I f g h;revert h;refine fH λi j a b c q=>?_;obtain⟨as,d⟩:=a.reads I f;obtain⟨bs,e⟩:=b.reads I g;have:=c.dp;exact SeqAt.compareEq_reads d e c.l1 c.l2 (by lia) ⟨.bl _,H,I,rfl,q⟩
def jV (k:X.A.units+64<VL):OpR X (Ws .NotEq) (zno X.K true):=by
 intro bz s σ H x y v u Q I f g h;revert h;refine fH λi j a b c q=>?_;obtain⟨as,d⟩:=a.reads I f;obtain⟨bs,e⟩:=b.reads I g;have:=c.dp;exact SeqAt.compareNe_reads d e c.l1 c.l2 (by lia) ⟨.bl _,H,I,rfl,q⟩
def znp (K:XZ)(neg:Bool):R2:=λx y H Q=>∃d a,Rdv K H x d/\Rdv K H y (.list a)/\d.canLay0=true/\Wd a=true/\d.depth<=60/\Q (.bl (if neg then !a.any (λz=>W1 z d) else a.any λz=>W1 z d)) H
def zcr (l:X.A.units+64<VL):OpR X (Ws .In) (znp X.K false):=by
 intro bz s σ H x y v u Q I g i h;revert h;refine gb λd k b c c1 a j q=>?_;obtain⟨as,e⟩:=b.reads I g;obtain⟨bs,f⟩:=c.reads I i;exact SeqAt.in_list_reads f e a c1 (by lia) ⟨.bl _,H,I,rfl,q⟩
def QI (l:X.A.units+64<VL):OpR X (Ws .NotIn) (znp X.K true):=by
 intro bz s σ H x y v u Q I g i h;revert h;refine gb λd k b c c1 a j q=>?_;obtain⟨as,e⟩:=b.reads I g;obtain⟨bs,f⟩:=c.reads I i;exact SeqAt.notIn_list_reads f e a c1 (by lia) ⟨.bl _,H,I,rfl,q⟩
end
def qA (X:Cx)(N:AD)(scope:UN)(cl:List (Str×Addr))(C:Addr)(fp:List Addr)(bz:List (Addr×Obj))(s:X7)(H:Hp):Cx where
 prog:=X.prog
 w:=X.w
 K:=X.K
 mg:=X.mg
 base:=X.base
 A:=X.A
 N:=N
 s₀:=s
 H₀:=H
 env:=Pb scope cl C X.env
 outer:=X.stack
 stack:=X.stack
 ex:=fp
 fn:=λ_=>false
 calm:=X.calm
 pn:=X.pn++bz
 xe:=λ_ _=>False
def pull (src:List (Option Nat))(a:St):St:=src.map λo=>match o with
 | some j=>(a[j]?).getD none
 | none=>none
structure yk (X:Cx)(N:AD)(src:List (Option Nat))(scope:UN)(cl:List (Str×Addr)):Prop where
 kind:scope.kind=.function
 nocell:∀y∈scope.names,y.2 ≠ .cell
 names:∀y∈scope.names,y.2=.local->scope.names.lookup y.1=some .local
 clos:Oo scope X.env=pure cl
 sub:∀x c,cl.lookup x=some c->X.env.cells.lookup x=some c
 has:∀x,((UF scope X.env).names.lookup x=some .cell\/(UF scope X.env).names.lookup x=some .free)->∃c,cl.lookup x=some c
 len:src.length=N.length
 pulls:∀(i j:Nat) (x:Str),N[i]?=some x->src[i]?=some (some j)->X.N[j]?=some x/\(X.env.kindOf x=some .cell\/X.env.kindOf x=some .free)/\((UF scope X.env).names.lookup x=some .cell\/(UF scope X.env).names.lookup x=some .free)
def zdr {a:UN}{b:Env}(d:∀y∈a.names,y.2 ≠ .free):(UF a b).names=a.names:=by
 show a.names.map _=a.names;refine map_eq_self λx c=>?_;obtain⟨n,k⟩:=x;have:(k==NameKind.free)=false:=by simpa using d _ c
 simp[this]
def yk.plain {X:Cx}{N:AD}{src:List (Option Nat)}{scope:UN}(kind:scope.kind=.function)(nocell:∀y∈scope.names,y.2 ≠ .cell)(nofree:∀y∈scope.names,y.2 ≠ .free)
  (names:∀y∈scope.names,y.2=.local->scope.names.lookup y.1=some .local) (len:src.length=N.length) (none:∀o∈src,o=none):yk X N src scope [] where
 kind:=kind
 nocell:=nocell
 names:=names
 clos:=closureFor_none nofree
 sub:=λx c h=>nomatch h
 has:=λx h=>by
  rw[zdr nofree]at h;rcases h with h | h
  .exact absurd rfl (nocell _ (WE h))
  .exact absurd rfl (nofree _ (WE h))
 len:=len
 pulls:=λi j x _ h=>by
  have:=none _ (X8 h);cases this
def za9 (X:Cx)(a:List Expr)(t:TT):Prop :=
 ∀(d:List (Addr×Obj)) (s:X7) (b:St) (H:Hp) (Q:Bool->Hp->Prop),Inv X d b H s->t b H Q ->
  Xu (Xx X.prog X.w) X.A (forIn a true λc r=>if r=true then do let ok <- isTrue c X.env (eval c X.env);pure (V3 ok) else pure (V3 r)) (TP X d b Q) X.xe s
def zk6:TT:=λ_ H Q=>Q true H
def qh {X:Cx}:za9 X [] zk6:=λ_ _ _ H _ I h=>wpAny_tests_nil ⟨H,I,h⟩
def qu {X:Cx}{c:Expr}{t:TT}(h:PT X c t):za9 X [c] t:=λa s d H Q I b=>wpAny_tests_one (h a s d H Q I b)
def yV (J:It)(g:TG)(r:TT)(s:TE)(Q:VK)(D:Addr)(j:St)(p:Hp):Prop :=
 ∃W:Nat->Nat->St->Hp->Prop,(∃m,W 0 m j p)/\∀i m f d,W i m f d ->
  (J.stop i d/\Q (.ref D) d)\/(J.go i d/\∃N:St->Hp->Prop,(∀ c e,N c e->∃o,o<m/\W (i+1) o c e) /\
   ∀x k,J.yld i d x k->g x f k fun a q=>r a q λb l=>if b=true then s a l λy n=>∃h,n D=some (.lst h)/\h.length<Xz/\N a (upd n D (.lst (h++[y]))) else N a l)
def zar (e:TI)(src:List (Option Nat))(g:TG)(c:TT)(d:TE):TE:=fun b H Q=>e b H λJ a=>∀D,a D=none->yV J g c d Q D (pull src b) (upd a D (.lst []))
def Un.but {fs i:List Addr}{H g:Hp}{h h1 h2:Heap}{C:Addr}(u:Un fs i H g h h1)(j:h.objs.size<=C)(f:V7 C h1 h2):Un fs i H g h h2:=by
 have d:∀b o,h.get? b=some o->b≠C:=λb o e=>Xj (Xn (XB e) j);refine⟨λb o e n c a=>(f.2 b (d b o e)).trans (u.keep b o e n c a),λb o e n c a=>?_,u.free,λb o e a=>?_,u.tups,u.frzs,u.tbls⟩
 .obtain⟨l,q⟩:=u.slot b o e n c a;exact⟨l,(f.2 b (d b o e)).trans q⟩
 .obtain⟨k,q⟩:=u.there b o e a;exact⟨k,(f.2 b (d b o e)).trans q⟩
def HOk.but {P:Xs}{w:Xd}{H:Hp}{h h':Heap}{C:Addr}(ok:HOk P w H h)(a:H C=none)(d:V7 C h h'):HOk P w H h':=λb ob e=>by
 refine(ok b ob e).stay (λc f hc q=>(d.2 c ?_).trans q) (λ_ q=>q) λ_ _ q=>q;rintro rfl;rcases hc with rfl | hc
 .rw[a]at e;cases e
 .rw[a]at hc;cases hc
section
variable {X:Cx}{tg iter elt:Expr}{ifs:List Expr}{scope:UN}{pos:Pos}{N:AD}{src:List (Option Nat)}{cl:List (Str×Addr)}{wi:TI}{g:TG}{tc:TT}{te:TE}
def zcs {h:List (Addr×Obj)}{A:St}{H:Hp}{s:X7}{fp:List Addr}{h1:Heap}{C:Addr}{tk:Nat}(ok:yk X N src scope cl)(I:Inv X h A H s)(B:∀b∈fp,YU X h H b)(ho:∀b∈fp,∃o,s.heap.get? b=some o)
  (E:C=s.heap.objs.size+1) (k:∀b u,s.heap.get? b=some u->h1.get? b=some u) (hD:h1.get? s.heap.objs.size=some { cls:=.type "list",data:=.seq #[] }) {m:Str->Option X9} (hn:h1.Ns C m) :
  Inv (qA X N scope cl C fp h s H) [] (pull src A) (upd H s.heap.objs.size (.lst [])) { s with heap:=h1,toks:=tk }:=by
 have lt:∀b o,s.heap.get? b=some o->b<s.heap.objs.size:=λb o e=>XB e;have U:∀b o,s.heap.get? b=some o->b≠C:=λb o e=>by rw[E];exact Xj (WI (lt b o e))
 have Y:∀b o,s.heap.get? b=some o->b≠s.heap.objs.size:=λb o e=>Xj (lt b o e);have O:∀b,s.heap.objs.size<=b->H b=none:=λb g=>I.hok.fresh g;have w:∀b,b≠X.env.locals->b ∉ X.fs->b ∉ frs X.stack:=λb h1 h2 z=>(XI.mp (I.stkSub b z)).elim h1 h2;have sub:=ok.sub;refine⟨⟨I.ok.mod,ok.kind,I.ok.glob,I.ok.blt,by rw[show (qA X N scope cl C fp h s H).env.locals=C from rfl,E];exact Wb _,λx y c d a=>I.ok.inj x y c (sub x c d) (sub y c a),ok.has,(λx c z _=>nomatch z),I.ok.hd,I.ok.frames,.inl rfl,λb g=>?_,I.bs,X6 I.ok.bsz I.sz,λb o e g=>?_,λb g hz=>?_,I.stack,I.stkFree⟩,rfl,I.bare,Un.laid k (XW _) (O _ (XW _)),⟨m,hn,λi x v d a M=>?_⟩,λx c e=>?_,?_,λx c e=>?_,λp hp=>?_,I.hok.laid k (XW _) ⟨W3 _,[],0,.nil,hD⟩,?_⟩
 .obtain⟨o,e⟩:=ho b g;exact⟨U b o e,λx c z=>(B b g).2.2.2.2.1 x c (sub x c z)⟩
 .rcases(B b g).2.2.2.1 with z | z
  .exact I.ok.noex b o e z
  .exact absurd (Xn (XB (I.ok.bs b o e).1) z) (VU _)
 .exact w b (B b g).2.1 (B b g).2.2.1 hz
 .have T:i<src.length:=by
   have:=(X5.mp a).1;unfold pull at this;rw[ZB]at this;exact this
  unfold pull at a;rw[Xv,X0 T]at a;cases q:src[i] with
  | none=>rw[q]at a;cases a
  | some j =>
   rw[q]at a;have f:(A[j]?).getD none=some v:=Option.some.inj a;have D:A[j]?=some (some v):=by
    cases z:A[j]? with
    | none=>rw[z]at f;cases f
    | some o=>rw[z]at f;exact congrArg some f
   obtain⟨p1,p2,p3⟩:=ok.pulls i j x d (by rw[X0 T,q]);obtain⟨m',aa,hl⟩:=I.loc;obtain⟨u,r,l⟩:=hl j x v p1 D (by
    rcases p2 with z | z
    .exact .inr (.inl z)
    .exact .inr (.inr z))
   refine⟨u,r,.inr ⟨p3,?_⟩⟩;obtain⟨c,Q⟩:=ok.has x p3;refine⟨c,Q,?_⟩;rcases l with ⟨z,_⟩ | ⟨_,c',n,o,J,G⟩
   .rcases p2 with y | y<;>rw[z]at y<;>cases y
   .rw[sub x c Q]at n;cases n;exact⟨o,k _ o J,G⟩
 .obtain⟨v,o,d,a⟩:=I.cell x c (sub x c e);exact⟨v,o,k c o d,a⟩
 .show upd H s.heap.objs.size (.lst []) C=none;rw[E,zp (Vr _)];exact O _ (Wb _)
 .show upd H s.heap.objs.size (.lst []) c=none;obtain⟨v,o,d,a⟩:=I.cell x c (sub x c e);rw[zp (Y c o d)];exact I.je x c (sub x c e)
 .have L:p∈X.pn++h:=by
   have:p∈(X.pn++h)++[]:=hp;simpa using this
  refine fX (λd a M D e5=>?_) (I.pin p L);refine e9 (k _ _ d) ?_ (U _ _ d) (w _ M D) e5;show upd H s.heap.objs.size (.lst []) p.1=none;rw[zp (Y _ _ d)];exact a
 .unfold pull;rw[ZB];exact ok.len
def zjS {Y:Cx}{D it:Addr}{fp:List Addr}{tn:Nat->Heap->Prop}{J:It}{ab:St}{H0:Hp}{s:X7}{Q:VK}{R:Pc->X7->Prop}(a:Y.calm=true)(hx:∀{x s},Y.xe x s->notedBy (Xx Y.prog Y.w) Y.A Y.env (λx s=>R (.error x) s) x s)(T:Turn Y.prog Y.w Y.K tg J fp it tn)(hg:PG Y tg g)(hc:za9 Y ifs tc)(he:PE Y elt te)
  (q:yV J g tc te Q D ab H0) (c:∀{k:Hp},(∀b∈fp,k b=none)->∀b∈fp,YU Y [] k b) (I0:Inv Y [] ab H0 s) (N:tn 0 s.heap) (af:∀b∈fp,H0 b=none)
  (ae:∀f σ H s',Inv Y [] σ H s'->Q (.ref D) H->R (.ok f) s'):Um (Xx Y.prog Y.w) Y.A (.compStart (.ListComp elt [⟨tg,iter,ifs,0⟩] scope pos) 0 (.ref it) (.ref D) Y.env) R s:=by
 obtain⟨W,⟨m0,w0⟩,aa⟩:=q;have v:Um (Xx Y.prog Y.w) Y.A (.compLoop (.ListComp elt [⟨tg,iter,ifs,0⟩] scope pos) 0 (.ref it) (.ref D) Y.env) R s:=by
  refine codeAny_loop rfl (λn s'=>∃i h k,Inv Y [] h k s'/\tn i s'.heap/\(∀b∈fp,k b=none)/\W i n h k) ?_ m0 (dN 0 _ _ I0 N af w0);refine λn s3=>fY λi l H3 I3 O L w3=>?_;show Xu _ Y.A ((compTurn (.ListComp elt [⟨tg,iter,ifs,0⟩] scope pos) 0 (.ref it) (.ref D) Y.env).onRaise (λx=>do noteFrame x Y.env;theTreesLotGoes x)) _ _ s3;refine wpAny_noted ?_;rw[compTurn_list];rcases aa i n l H3 w3 with ⟨U,qn⟩ | ⟨go,N',hN,step⟩
  .refine Y1 (So (Y1 (thn (T.done Y rfl rfl rfl a i [] s3 l H3 _ I3 (c L) O U) λr s4 ⟨hr,I4⟩=>?_)));subst hr;exact XR (ae _ _ _ _ I4 qn)
  .refine Y1 (So (Y1 (thn (T.item Y rfl rfl rfl a i [] s3 l H3 _ I3 (c L) O go) λr s4 ⟨u,hr,h4⟩=>?_)));subst hr;dsimp only;refine Y1 (thn h4 λ_ s5 ⟨x,H5,I5,r5,y5,E,ag⟩=>?_);have ac:=I5.pinned (c ag) (T.obj _ _ E);refine Y1 (WA (hg _ s5 l H5 x u _ ac r5 (step x H5 y5)) (λ_ s6 ⟨p,H6,I6,q6⟩=>?_) λ_ _ z=>hx z);have Ry:∀{I:X7} {j:St} {B:Hp},Inv Y ([]++Q0 fp s5.heap) j B I->N' j B->∃m,m<n/\∃i h k,Inv Y [] h k I/\tn i I.heap/\(∀b∈fp,k b=none)/\W i m h k:=λ{I j B} G n7=>by
    obtain⟨m',hm,w7⟩:=hN j B n7;refine fB m' hm (i+1) j B G.unpinned (T.keep _ _ _ E λb hb o e=>(G.pin (b,o) (Xl _ (Xl _ (jT hb e)))).1) (λb hb=>?_) w7;obtain⟨o,e,d⟩:=T.obj _ _ E b hb;exact(G.pin (b,o) (Xl _ (Xl _ (jT hb e)))).2.1
   refine Y1 (WA (hc _ s6 p H6 _ I6 q6) (λb I ⟨B,G,q7⟩=>?_) λ_ _ z=>hx z);cases b with
   | false =>
    rw[bq XS]at q7;exact XR ⟨rfl,Ry G q7⟩
   | true =>
    rw[bw rfl]at q7;refine Y1 (Y1 (WA (he _ I p B _ G q7) (λy s8 ⟨v8,H8,I8,r8,ys,ah,M,q8⟩=>?_) λ_ _ z=>hx z));refine Y1 (WA (za8 (X:=Y) _ s8 p H8 (.ref D) [v8] (.ref D) [y] (λ_ H9=>N' p H9) I8 rfl (.cons r8 .nil) (dP _ ys v8 rfl rfl ah M q8)) (λ_ s9 ⟨v9,H9,I9,_,q9⟩=>?_) λ_ _ z=>hx z);exact XR (XR ⟨rfl,Ry I9 q9⟩)
 exact Pw v (T.self _ 0 _ _ _ N v)
abbrev cY (X:Cx)(N:AD)(scope:UN)(cl:List (Str×Addr))(C:Addr)(fp:List Addr)(bz:List (Addr×Obj))(s:X7)(H:Hp)(fn:Str->Bool)(xe:X9->X7->Prop):Cx:={ qA X N scope cl C fp bz s H with fn:=fn,xe:=xe }
def znq (X:Cx)(N:AD)(scope:UN)(d:List (Addr×Obj))(l:St)(use:Option (X9->Sem Unit))(R:X9->X7->Prop)(Q:VK):Prop:=∀{cl h a c C g i f j k e},C=a.heap.objs.size+1->Inv X d l c a->(∀b∈h,YU X d c b)->Inv (cY X N scope cl C h d a c j k) [] e g i->Q (.ref a.heap.objs.size) g->compPost (Xx X.prog X.w) X.A X.xe use R (.ref a.heap.objs.size) C (.ok f) i
def zoN {e:List (Addr×Obj)}{h:St}{Q:VK}:znq X N scope e h none (EP X e h Q) Q:=by
 intro cl k q u C i r f v w s n j c a p;refine fJ (λm o _=>?_) a.loc;refine⟨m,o,λl g=>⟨.ref q.heap.objs.size,i,?_,rfl,p⟩⟩;exact j.call' (s':={ r with heap:=l }) (ch:=k) a.os (Un.but a.base (by rw[n];exact Wb _) g) (HOk.but a.hok a.free g) a.bare λb d=>⟨(c b d).2.2.2.1,(c b d).2.1,(c b d).2.2.2.2.1,(c b d).2.2.2.2.2⟩
def zfZ {j:List (Addr×Obj)}{D:St}{i:Hp}{a:X7}{R:Pc->X7->Prop}{Q:VK}{it C:Addr}{fp:List Addr}{tn:Nat->Heap->Prop}{J:It}{h:Heap}{tk:Nat}{n:Str->Bool}{m:X9->X7->Prop}{v:St}(E:C=a.heap.objs.size+1)(l:X.calm=true)
  (hx:∀{x s},m x s->notedBy (Xx X.prog X.w) X.A (Pb scope cl C X.env) (λx s=>R (.error x) s) x s) (U:PG (cY X N scope cl C fp j a i n m) tg g) (O:za9 (cY X N scope cl C fp j a i n m) ifs tc) (he:PE (cY X N scope cl C fp j a i n m) elt te) (M:Inv X j D i a) (T:Turn X.prog X.w X.K tg J fp it tn) (r:tn 0 a.heap) (q:∀b∈fp,YU X j i b)
  (q2:yV J g tc te Q a.heap.objs.size v (upd i a.heap.objs.size (.lst []))) (k:∀b u,a.heap.get? b=some u->h.get? b=some u) (own:∀x c,cl.lookup x=some c->X.env.cells.lookup x=some c\/C<=c)
  (L:(∀b∈fp,∃o,a.heap.get? b=some o)->Inv (cY X N scope cl C fp j a i n m) [] v (upd i a.heap.objs.size (.lst [])) { a with heap:=h,toks:=tk }) (y:∀f D H I,Inv (cY X N scope cl C fp j a i n m) [] D H I->Q (.ref a.heap.objs.size) H->R (.ok f) I) :
  Um (Xx X.prog X.w) X.A (.compStart (.ListComp elt [⟨tg,iter,ifs,0⟩] scope pos) 0 (.ref it) (.ref a.heap.objs.size) (Pb scope cl C X.env)) R { a with heap:=h,toks:=tk }:=by
 have G:∀b∈fp,∃o,a.heap.get? b=some o:=λb d=>let ⟨o,e,_⟩:=T.obj 0 _ r b d;⟨o,e⟩
 have lt:∀b∈fp,b<a.heap.objs.size:=λb d=>let ⟨_,e⟩:=G b d;XB e
 refine zjS (Y:=cY X N scope cl C fp j a i n m) l hx T U O he q2 (λ{H'} hn b d=>(dZ (hn b d) ?_ (λz=>(XI.mp (M.stkSub b z)).elim (q b d).2.1 (q b d).2.2.1) (.inl d) (λx c z=>?_) (λp hp=>?_))) (L G) (T.keep 0 _ _ r λb _ o e=>k b o e) (λb d=>?_) y
 .show b≠C;rw[E];exact Xj (WI (lt b d))
 .rcases own x c z with z | z
  .exact(q b d).2.2.2.2.1 x c z
  .rw[E]at z;exact Uk (Xn (WI (lt b d)) z)
 .have B:p∈X.pn++j:=by
   have:p∈(X.pn++j)++[]:=hp;simpa using this
  exact(q b d).2.2.2.2.2 p B
 .rw[zp (Xj (lt b d))];exact(q b d).1
def zpH {h a:Heap}(d:V7 (h.push { cls:=.type "list",dict:=none,data:=.seq ([]:List X9).toArray }).objs.size ((h.push { cls:=.type "list",dict:=none,data:=.seq ([]:List X9).toArray }).push { cls:=.type "dict",data:=.dict #[] }) a):(h.push { cls:=.type "list",dict:=none,data:=.seq ([]:List X9).toArray }).objs.size=h.objs.size+1/\(∀b u,h.get? b=some u->a.get? b=some u)/\a.get? h.objs.size=some { cls:=.type "list",data:=.seq #[] }:=by
 generalize hP:h.push { cls:=.type "list",dict:=none,data:=.seq ([]:List X9).toArray }=P2 at d ⊢;have c:P2.objs.size=h.objs.size+1:=by rw[<- hP,Vg]
 exact⟨c,λb u e=>(d.2 b (by rw[c];exact Xj (WI (XB e)))).trans (XY _ (hP ▸ XY _ e)),(d.2 _ (by rw[c];exact(Vr _).symm)).trans (XY _ (hP ▸ Xg _ rfl))⟩
section
variable {bz:List (Addr×Obj)}{σ:St}{H:Hp}{s:X7}{use:Option (X9->Sem Unit)}{R:X9->X7->Prop}{Q:VK}{p2:Pos}
def zf0 (ok:yk X N src scope cl)(d:X.calm=true)(u:PI X tg iter wi)
  (r:∀C fp bz s H,PG (qA X N scope cl C fp bz s H) tg g) (q:∀C fp bz s H,za9 (qA X N scope cl C fp bz s H) ifs tc) (he:∀C fp bz s H,PE (qA X N scope cl C fp bz s H) elt te)
  (B:∀x,We iter X.env x=pure x) (I:Inv X bz σ H s) (h:zar wi src g tc te σ H Q) (j:znq X N scope bz σ use R Q):Xu (Xx X.prog X.w) X.A (Ov (.ListComp elt [⟨tg,iter,ifs,0⟩] scope pos) scope X.env p2 (newList []) false (eval iter X.env) use) R X.xe s:=by
 refine Tr (use:=use) rfl B ok.clos ok.kind ok.names (thn (u bz s σ H _ I h) λxv s1 h1=>thn h1 λE U h2=>?_);revert h2;refine gp λO fp Y J M e f T m i G=>?_;subst e;refine VM (OY ok.nocell (by intro y D;simp at D) (λn a b=>?_) ok.kind);dsimp only at a b ⊢;refine fO (λl k p=>?_) (zpH b);exact zfZ l d (λz=>z.elim) (r _ _ _ _ _) (q _ _ _ _ _) (he _ _ _ _ _) f T m i (G _ (f.hok.fresh (XW _))) k (λx c z=>.inl (ok.sub x c z)) (λv=>zcs ok f i v l k p a) λ_ _ _ _ o L=>j l f i o L
end
def znr (ok:yk X N src scope cl)(a:X.calm=true)(e:PI X tg iter wi)
  (d:∀C fp b s H,PG (qA X N scope cl C fp b s H) tg g) (c:∀C fp b s H,za9 (qA X N scope cl C fp b s H) ifs tc) (he:∀C fp b s H,PE (qA X N scope cl C fp b s H) elt te)
  (f:∀x,We iter X.env x=pure x:=by intro _;rfl):PE X (.ListComp elt [⟨tg,iter,ifs,0⟩] scope pos) (zar wi src g tc te):=λ_ _ _ _ _ I h=>zf0 ok a e d c he f I h zoN
end
section
variable {K:XZ}{src:List (Option Nat)}{g:TG}{tc:TT}{te:TE}{Q:VK}{σ:St}{H:Hp}{D:Addr}
def qa {a:Addr}{xs:AE}(Pv:Nat->St->Hp->Prop)(h0:Pv 0 σ H)(o:∀i σ H,i<=xs.length->Pv i σ H->SqL K H a xs)
  (r:∀i x σ H,xs[i]?=some x->Pv i σ H->g x σ H fun c k=>tc c k λb f=>if b=true then te c f λy h=>∃ys,h D=some (.lst ys)/\ys.length<Xz/\Pv (i+1) c (upd h D (.lst (ys++[y]))) else Pv (i+1) c f)
  (l:∀ σ H,Pv xs.length σ H->Q (.ref D) H):yV (Itl K a) g tc te Q D σ H:=by
 refine⟨λi m σ H=>m=xs.length-i/\i<=xs.length/\Pv i σ H,⟨xs.length,by simp,W3 _,h0⟩,?_⟩;refine λi m σ H=>fO λz0 n p=>?_;subst z0;have q:=o i σ H n p;by_cases d:i<xs.length
 .refine .inr (eO ⟨xs,xs[i],q,by simp[d]⟩ (Pv (i+1)) (fun u j s=>⟨xs.length-(i+1),by lia,rfl,d,s⟩) (λx j y=>?_));obtain⟨e,y⟩:=y;subst e;exact r i x σ _ (y xs q) p
 .have e:i=xs.length:=by lia
  subst e;exact .inl ⟨⟨xs,q,XW _⟩,l σ H p⟩
def zhA {lo:Int}{n:Nat}(Pv:Nat->St->Hp->Prop)(h0:Pv 0 σ H)
  (l:∀i σ H,i<n->Pv i σ H->g (.int (lo+i)) σ H fun a j=>tc a j λb d=>if b=true then te a d λy f=>∃ys,f D=some (.lst ys)/\ys.length<Xz/\Pv (i+1) a (upd f D (.lst (ys++[y]))) else Pv (i+1) a d)
  (k:∀ σ H,Pv n σ H->Q (.ref D) H):yV (Itr lo n) g tc te Q D σ H:=by
 refine⟨λi m σ H=>m=n-i/\i<=n/\Pv i σ H,⟨n,by simp,W3 _,h0⟩,?_⟩;refine λi m σ H=>fO λz0 r p=>?_;subst z0;by_cases c:i<n
 .refine .inr (eO c (Pv (i+1)) (fun q h o=>⟨n-(i+1),by lia,rfl,c,o⟩) (λx h y=>?_));obtain⟨e,y⟩:=y;subst e y;exact l i σ _ c p
 .have e:i=n:=by lia
  subst e;exact .inl ⟨XW _,k σ H p⟩
end
theorem zct {K:XZ}{H:Hp}:∀rs:AD,xr K H (rs.map V.str) (rs.map UI)
 | []=>.nil
 | t::r=>.cons (.str t) (zct r)
section
variable {X:Cx}{K:XZ}
def zba {a:Expr}{c:TE}(d:X.K=K)(e:PE X a c)(he:∀whole,isTrue a X.env whole=(do let v <- whole;standAt a.pos;holding [v] (truthy v))) :
  PT X a (fun f H Q=>c f H λx b=>∃k,zpA K x b k/\Q k b):=by
 subst d;exact zcn e he
def zns (a:X.K=K):IxR X (zrb K):=by
 subst a;exact jD
def Y4 (a:X.K=K)(b:X.A.units+64<VL):OpR X (Ws .Eq) (zno K false):=by
 subst a;exact JQ b
def zf1 (a:X.K=K)(b:X.A.units+64<VL):OpR X (Ws .NotEq) (zno K true):=by
 subst a;exact jV b
def jh (a:X.K=K)(b:X.A.units+64<VL):OpR X (Ws .In) (znp K false):=by
 subst a;exact zcr b
def Y5 (a:X.K=K)(b:X.A.units+64<VL):OpR X (Ws .NotIn) (znp K true):=by
 subst a;exact QI b
def zb7 {a:List Expr}{k:Nat}{t:TGs}{n:Nat}{pos:Pos}(c:X.K=K)(d:X.calm=true)(h:PGs X a t)
  (e:(Tj a X.env).length=n:=by rfl) (b:(Tj a X.env).findIdx? (·.1)=none:=by rfl):PG X (.Tuple a k pos) (zqZ K n t):=by
 subst c;exact xq d h e b
end
section
variable {fs ch:List Addr}{H:Hp}{h h':Heap}{a:Addr}{o:HO}
def Un.laidX (k:∀b u,b ∉ ch->h.get? b=some u->h'.get? b=some u)(hp:h.objs.size<=a)(hn:H a=none):Un fs ch H (upd H a o) h h' where
 keep:=λb u q _ _ hx=>k b u hx q
 slot:=λb u q _ _ hx=>⟨u.slots,k b u hx q⟩
 free:=λb u q n _=>by rw[zp (Xj (Xn (XB q) hp))];exact n
 there:=λb u q hx=>⟨u,k b u hx q⟩
 tups:=λb xs q=>by rw[zp (zg q hn)];exact q
 frzs:=λb u xs q=>by rw[zp (zg q hn)];exact q
 tbls:=λb ps q=>⟨#[],by rw[zp (zg q hn),q];simp⟩
def Un.keptX (k:∀b u,b ∉ ch->h.get? b=some u->h'.get? b=some u):Un fs ch H H h h' :=
 ⟨λb ob q _ _ a=>k b ob a q,λb ob q _ _ a=>⟨ob.slots,k b ob a q⟩,λ_ _ _ n _=>n,λb ob q a=>⟨ob,k b ob a q⟩,λ_ _ q=>q,λ_ _ _ q=>q,λ_ c q=>⟨#[],by rw[q];simp⟩⟩
def HOk.keptX {P:Xs}{w:Xd}(x:HOk P w H h)(k:∀b u,b ∉ ch->h.get? b=some u->h'.get? b=some u)(a:∀b∈ch,H b=none):HOk P w H h':=λb u e=>by
 refine(x b u e).stay (λc v hc q=>k c v (λz=>?_) q) (λ_ q=>q) λ_ _ q=>q;have n:=a c z;rcases hc with rfl | hc
 .rw[n]at e;cases e
 .rw[n]at hc;cases hc
def HOk.laidX {P:Xs}{w:Xd}(x:HOk P w H h)(k:∀b u,b ∉ ch->h.get? b=some u->h'.get? b=some u)(d:∀b∈ch,H b=none)(j:h.objs.size<=a)(f:jJ P w (upd H a o) h' a o):HOk P w (upd H a o) h':=λb u e=>by
 have i:=x.fresh j;by_cases g:b=a
 .subst g;rw[zb]at e;cases e;exact f
 .rw[zp g]at e;refine(x b u e).stay (λc v hc q=>k c v (λz=>?_) q) (λc q=>by rw[zp (zg q i)];exact q) λc l q=>by rw[zp (zg q i)];exact q
  have n:=d c z;rcases hc with rfl | hc
  .rw[n]at e;cases e
  .rw[n]at hc;cases hc
end
section
variable {X:Cx}{bz:List (Addr×Obj)}{s:X7}{σ:St}{H:Hp}{E:X9->X7->Prop}{fp wr FP:List Addr}{elts:List Expr}{k:Nat}{pos:Pos}{e:Addr}{n i:Nat}{Pt:Nat->Array X9->Prop}{Sn:Nat->Heap->Prop}{Mid:Nat->Addr->Heap->Prop}{J:It}{tn:Nat->Heap->Prop}
def zhB (I:Inv X bz σ H s)(G:∀b∈fp,YU X bz H b)(ho:∀b∈fp,∃o,s.heap.get? b=some o)(p:∀b∈wr,b∈fp)(W:WalksT X.prog X.w X.A e FP wr n Pt Sn Mid)(hi:i<n)(st:Sn i s.heap)
  (y:∀T a,H T=none->Pt i a->∃vs,Vals vs a.toList/\vs.length<=Xz/\J.yld i H (.ref T) (upd H T (.tup vs))) (nx:∀g,Sn (i+1) g->tn (i+1) g) :
  Xu (Xx X.prog X.w) X.A (R0 (.ref e)) (λr s1=>∃u,r=some u /\
   Xu (Xx X.prog X.w) X.A (Sc (.Tuple elts k pos) (.ref e) u) (λ_ O=>∃x z,Inv X bz σ z O/\RelV x u/\J.yld i H x z/\tn (i+1) O.heap/\∀b∈fp,z b=none) E s1) E s:=by
 refine W.item i s _ E hi st λT a U Q hP h Y L kk=>⟨.ref T,rfl,?_⟩;have M:H T=none:=I.hok.fresh h;refine fP (λvs hv hl hy=>?_) (y T a M hP);refine W.go elts k pos i T { s with heap:=U,toks:=Q } _ E L λg v q=>?_;have N:∀b o,b ∉ wr->s.heap.get? b=some o->g.get? b=some o:=λb o j e=>q b o j (kk b o j e);have l:N3 g T a:=by
  obtain⟨o,B,c,m,d⟩:=Y;exact⟨o,q T o (W.apart i T _ L) B,c,m,d⟩
 have D:∀b∈wr,H b=none:=λb j=>(G b (p b j)).1;refine dR (.ref T) (upd H T (.tup vs)) ?_ rfl hy (nx _ v) (λb j=>?_)
 .exact I.call' (s':={ s with heap:=g,toks:=Q }) (ch:=wr) rfl (Un.laidX N h M) (HOk.laidX I.hok N D h ⟨hl,a.toList,hv,by simpa using l⟩) I.bare λb j=>let f:=G b (p b j);⟨f.2.2.2.1,f.2.1,f.2.2.2.2.1,f.2.2.2.2.2⟩
 .obtain⟨o,B⟩:=ho b j;rw[zp (Xj (Xn (XB B) h))];exact(G b j).1
def zhC (I:Inv X bz σ H s)(d:∀b∈fp,YU X bz H b)(a:∀b∈wr,b∈fp)(W:WalksT X.prog X.w X.A e FP wr n Pt Sn Mid)(st:Sn n s.heap) :
  Xu (Xx X.prog X.w) X.A (R0 (.ref e)) (λr s1=>r=none/\Inv X bz σ H s1) E s :=
 W.done s _ E st λh i g=>⟨rfl,I.call' (s':={ s with heap:=h,toks:=i }) (ch:=wr) rfl (Un.keptX g) (HOk.keptX I.hok g λb c=>(d b (a b c)).1) I.bare λb c=>let f:=d b (a b c);⟨f.2.2.2.1,f.2.1,f.2.2.2.2.1,f.2.2.2.2.2⟩⟩
end
def JR {h:Heap}{b:Addr}{o:Obj}{vs:Array X9}(e:h.get? b=some o)(d:o.data=.fields vs):∃o,h.get? b=some o/\∀v,o.data ≠ .cell v:=⟨o,e,λv z=>by rw[d]at z;cases z⟩
def Ite (K:XZ)(l:Addr):It:=⟨λi H=>∃a,SqL K H l a/\i<a.length,λi H x b=>∃T,x=.ref T/\H T=none/\∀a,SqL K H l a->∃v,a[i]?=some v/\b=upd H T (.tup [.int i,v]),λi H=>∃a,SqL K H l a/\i=a.length⟩
def zjT {P:Xs}{w:Xd}{K:XZ}{elts:List Expr}{k:Nat}{pos:Pos}(e it l:Addr)(hei:e≠it)(hle:l≠e)(hli:l≠it) :
  Turn P w K (.Tuple elts k pos) (Ite K l) [e,it] e (λi h=>(∃old,IsEnum h e it i old)/\h.IsListIter it l i) where
 mem:=by simp
 obj:=λi h st b hb=>by
  obtain⟨⟨old,he⟩,o,e2,c,d⟩:=st;rcases XI.mp hb with rfl | hb
  .exact JR he rfl
  .have z:b=it:=by simpa using hb
   subst z;exact JR e2 d
 keep:=λi h h' st kk=>by
  obtain⟨⟨old,he⟩,o,e2,r⟩:=st;exact⟨⟨old,kk e (by simp) _ he⟩,o,kk it (by simp) o e2,r⟩
 item:=by
  intro X hP hw hK hc i bz s σ H E I hf st hg;subst hP hw hK;obtain⟨xs,hq,hlt⟩:=hg;refine fP (λits rv p hz=>?_) (I.list hq);have hl:=rv.length;obtain⟨⟨old,he⟩,o2,e2,c2,d2⟩:=id st;refine zhB (wr:=[e,it]) (J:=Ite X.K l) (tn:=λi h=>(∃old,IsEnum h e it i old)/\h.IsListIter it l i) I hf (λb hb=>?_) (λb hb=>hb) (WalksT.enumerate (I.ok.hd hc) e it l hei hle hli its.toArray) (by simp;lia) ⟨st.1,st.2,p.isList⟩ (λT vals hn hp=>?_) λh'' q=>⟨q.1,q.2.1⟩
  .rcases XI.mp hb with rfl | hb
   .exact⟨_,he⟩
   .have z:b=it:=by simpa using hb
    subst z;exact⟨_,e2⟩
  .obtain⟨t,x,hx,rfl⟩:=hp;have hx':its[i]?=some x:=by simpa using hx
   obtain⟨u,hu,ru⟩:=rv.get (i:=i) (x:=xs[i]) (by rw[X0 hlt]);rw[hu]at hx';cases hx';exact dI [.int i,xs[i]] (.cons ⟨t,rfl⟩ (.cons ru .nil)) (by show 2<=Xz;decide) (dI T rfl hn (λys hy=>⟨xs[i],by rw[I.list_inj hy hq,X0 hlt],rfl⟩))
 done:=by
  intro X hP hw hK hc i bz s σ H E I hf st hg;subst hP hw hK;obtain⟨xs,hq,rfl⟩:=hg;obtain⟨its,rv,p,hz⟩:=I.list hq;have hl:its.toArray.size=xs.length:=by simp[rv.length]
  refine zhC (fp:=[e,it]) (wr:=[e,it]) I hf (λb hb=>hb) (WalksT.enumerate (I.ok.hd hc) e it l hei hle hli its.toArray) ?_;rw[hl];exact⟨st.1,st.2,p.isList⟩
 self:=λA i s Q E st h=>by
  obtain⟨⟨old,he⟩,_⟩:=st;exact S1 he h
def znt (x:Str):It:=⟨λi _=>i<x.cps.size,λi H v a=>∃T c,v=.ref T/\H T=none/\x.cps[i]?=some c/\a=upd H T (.tup [.int i,.str ⟨#[c]⟩]),λi _=>i=x.cps.size⟩
def zcu {P:Xs}{w:Xd}{K:XZ}{elts:List Expr}{k:Nat}{pos:Pos}(e it:Addr)(x:Str)(t:Tok)(n:String)(hei:e≠it)
  (D:∀A:WY,A.handled=none->Draws P w A it [it] x.cps.size (λi v=>∃c u,x.cps[i]?=some c/\v=.str ⟨#[c]⟩ u) (λi h=>h.IsStrIter it n x t i)) :
  Turn P w K (.Tuple elts k pos) (znt x) [e,it] e (λi h=>(∃old,IsEnum h e it i old)/\h.IsStrIter it n x t i) where
 mem:=by simp
 obj:=λi h st b hb=>by
  obtain⟨⟨old,he⟩,o,e2,c,d⟩:=st;rcases XI.mp hb with rfl | hb
  .exact JR he rfl
  .have z:b=it:=by simpa using hb
   subst z;exact JR e2 d
 keep:=λi h h' st kk=>by
  obtain⟨⟨old,he⟩,o,e2,r⟩:=st;exact⟨⟨old,kk e (by simp) _ he⟩,o,kk it (by simp) o e2,r⟩
 item:=by
  intro X hP hw hK hc i bz s σ H E I hf st hg;subst hP hw hK;obtain⟨⟨old,he⟩,o2,e2,c2,d2⟩:=id st;refine zhB (wr:=[e,it]) (J:=znt x) (tn:=λi h=>(∃old,IsEnum h e it i old)/\h.IsStrIter it n x t i) I hf (λb hb=>?_) (λb hb=>hb) (WalksT.enumerateD (D X.A.in1 (I.ok.hd hc)) e hei (by simpa using hei) (by simp)) hg st (λT vals hn hp=>?_) λh'' q=>q
  .rcases XI.mp hb with rfl | hb
   .exact⟨_,he⟩
   .have z:b=it:=by simpa using hb
    subst z;exact⟨_,e2⟩
  .obtain⟨t',v,⟨c,u,hx,rfl⟩,rfl⟩:=hp;exact dI [.int i,.str ⟨#[c]⟩] (.cons ⟨t',rfl⟩ (.cons ⟨u,rfl⟩ .nil)) (by show 2<=Xz;decide) (dH T c rfl hn hx rfl)
 done:=by
  intro X hP hw hK hc i bz s σ H E I hf st hg;subst hP hw hK;have z:i=x.cps.size:=hg;subst z;exact zhC (fp:=[e,it]) (wr:=[e,it]) I hf (λb hb=>hb) (WalksT.enumerateD (D X.A.in1 (I.ok.hd hc)) e hei (by simpa using hei) (by simp)) st
 self:=λA i s Q E st h=>by
  obtain⟨⟨old,he⟩,_⟩:=st;exact S1 he h
def Itz (K:XZ)(l1 l2:Addr):It:=⟨λi H=>∃a b,SqL K H l1 a/\SqL K H l2 b/\i<a.length/\i<b.length,
 λi H x d=>∃T,x=.ref T/\H T=none/\∀a b,SqL K H l1 a->SqL K H l2 b->∃v c,a[i]?=some v/\b[i]?=some c/\d=upd H T (.tup [v,c]),λi H=>∃a b,SqL K H l1 a/\SqL K H l2 b/\i=min a.length b.length⟩
def zk7 {P:Xs}{w:Xd}{K:XZ}{elts:List Expr}{k:Nat}{pos:Pos}(z TI TO i1 i2 l1 l2:Addr)(D:ZipApart z TI TO i1 i2 l1 l2) :
  Turn P w K (.Tuple elts k pos) (Itz K l1 l2) [z,TI,TO,i1,i2] z (λi h=>IsZip h z TI TO .none/\IsPair h TI (.ref i1) (.ref i2)/\(∃a b,IsPair h TO a b)/\h.IsListIter i1 l1 i/\h.IsListIter i2 l2 i) where
 mem:=by simp
 obj:=λi h st b hb=>by
  obtain⟨hz,hTI,⟨a,b',hTO⟩,⟨o1,e1,c1,d1⟩,⟨o2,e2,c2,d2⟩⟩:=st;simp only[XI,VE,or_false]at hb;rcases hb with rfl | rfl | rfl | rfl | rfl
  .exact JR hz rfl
  .exact⟨_,hTI,λv q=>by cases q⟩
  .exact⟨_,hTO,λv q=>by cases q⟩
  .exact JR e1 d1
  .exact JR e2 d2
 keep:=λi h h' st kk=>by
  obtain⟨hz,hTI,⟨a,b',hTO⟩,⟨o1,e1,r1⟩,⟨o2,e2,r2⟩⟩:=st;exact⟨kk z (by simp) _ hz,kk TI (by simp) _ hTI,⟨a,b',kk TO (by simp) _ hTO⟩,⟨o1,kk i1 (by simp) _ e1,r1⟩,⟨o2,kk i2 (by simp) _ e2,r2⟩⟩
 item:=by
  intro X hP hw hK hc i bz s σ H E I hf st hg;subst hP hw hK;revert hg;refine fH λxs ys hq1 hq2 hlt1 hlt2=>?_;refine fP (λits1 rv1 p1 hz1=>?_) (I.list hq1);refine fP (λits2 rv2 p2 hz2=>?_) (I.list hq2);have g1:=rv1.length;have g2:=rv2.length;obtain⟨hz,hTI,⟨a,b',hTO⟩,⟨o1,e1,r1⟩,⟨o2,e2,r2⟩⟩:=id st;refine zhB (wr:=[z,TO,i1,i2]) (J:=Itz X.K l1 l2) (tn:=λi h=>IsZip h z TI TO .none/\IsPair h TI (.ref i1) (.ref i2)/\(∃a b,IsPair h TO a b)/\h.IsListIter i1 l1 i/\h.IsListIter i2 l2 i) I hf (λb hb=>?_) (λb hb=>?_) (WalksT.zip2 (I.ok.hd hc) z TI TO i1 i2 l1 l2 D its1.toArray its2.toArray) (by simp;lia) (fq st.1 st.2.1 st.2.2.1 st.2.2.2.1 st.2.2.2.2 p1.isList p2.isList) (λT vals hn hp=>?_) λh'' q=>⟨q.1,q.2.1,q.2.2.1,q.2.2.2.1,q.2.2.2.2.1⟩
  .simp only[XI,VE,or_false]at hb;rcases hb with rfl | rfl | rfl | rfl | rfl
   .exact⟨_,hz⟩
   .exact⟨_,hTI⟩
   .exact⟨_,hTO⟩
   .exact⟨_,e1⟩
   .exact⟨_,e2⟩
  .simp only[XI,VE,or_false]at hb ⊢;rcases hb with rfl | rfl | rfl | rfl<;>simp
  .revert hp;refine fK λx y hx hy z0=>?_;subst z0;have hx':its1[i]?=some x:=by simpa using hx
   have hy':its2[i]?=some y:=by simpa using hy
   obtain⟨u,hu,ru⟩:=rv1.get (i:=i) (x:=xs[i]) (by rw[X0 hlt1]);obtain⟨u',hu',ru'⟩:=rv2.get (i:=i) (x:=ys[i]) (by rw[X0 hlt2]);rw[hu]at hx';rw[hu']at hy';cases hx';cases hy';exact dI [xs[i],ys[i]] (.cons ru (.cons ru' .nil)) (by show 2<=Xz;decide) (dI T rfl hn (λxs' ys' h1 h2=>(dM (xs[i]) (ys[i]) (by rw[I.list_inj h1 hq1,X0 hlt1]) (by rw[I.list_inj h2 hq2,X0 hlt2]) rfl)))
 done:=by
  intro X hP hw hK hc i bz s σ H E I hf st hg;subst hP hw hK;revert hg;refine fK λxs ys hq1 hq2 z0=>?_;subst z0;obtain⟨its1,rv1,p1,hz1⟩:=I.list hq1;obtain⟨its2,rv2,p2,hz2⟩:=I.list hq2;have g1:min its1.toArray.size its2.toArray.size=min xs.length ys.length:=by simp[rv1.length,rv2.length]
  refine zhC (fp:=[z,TI,TO,i1,i2]) (wr:=[z,TO,i1,i2]) I hf (λb hb=>?_) (WalksT.zip2 (I.ok.hd hc) z TI TO i1 i2 l1 l2 D its1.toArray its2.toArray) ?_
  .simp only[XI,VE,or_false]at hb ⊢;rcases hb with rfl | rfl | rfl | rfl<;>simp
  .rw[g1];exact fq st.1 st.2.1 st.2.2.1 st.2.2.2.1 st.2.2.2.2 p1.isList p2.isList
 self:=λA i s Q E st h=>wpAny_pyIter_zip st.1 h
section
variable {X:Cx}{elts:List Expr}{k:Nat}{tpos:Pos}
def zpI (K:XZ)(b:TA):TI:=fun e H R=>b e H λc a=>∃l,c=[.ref l]/\(∃d,SqL K a l d)/\R (Ite K l) a
def yW {a:Expr}{o:TA}{p pos:Pos}(y:Gl X "enumerate")(z:X.mg "enumerate"=none)(x:PA X [a] o)(B:W6 [a] X.env=[(false,eval a X.env)]:=by rfl):PI X (.Tuple elts k tpos) (.Call (.Name "enumerate" p) [a] [] pos) (zpI X.K o):=by
 intro m s r H R I h;refine Call_ (YT I y z boot_enumerate (VY (thn (x pos m s r H _ I h) λT s1 ⟨U,j,f,L,J⟩=>?_) B rfl));obtain⟨l,rfl,⟨Y,A⟩,q⟩:=J;obtain⟨u,rfl,M⟩:=vals1 L;cases M;obtain⟨E,Q,n,N⟩:=f.list A;obtain⟨O,i,_⟩:=n.isList;have d:=XB i;refine call_enumerate_list n.isList λw he g D G=>?_;have v:Inv X m r j { s1 with heap:=w }:=f.kept (t':=s1.toks) G;refine S1 he ?_;refine eF (s1.heap.objs.size+1) [s1.heap.objs.size+1,s1.heap.objs.size] _ _ j rfl v (zjT (s1.heap.objs.size+1) s1.heap.objs.size l (Vr _) (Xj (WI d)) (Xj d)) ⟨⟨_,he⟩,g⟩ (λb hb=>?_) q;have c:s1.heap.objs.size<=b:=by
  rcases XI.mp hb with e | hb
  .rw[e];exact Wb _
  .have e:b=s1.heap.objs.size:=by simpa using hb
   rw[e];exact XW _
 exact f.fpOk c (f.hok.fresh c)
def zpJ (b:TA):TI:=fun d H R=>b d H λc a=>∃z,c=[.str z]/\R (znt z) a
def zf2 {a:Expr}{o:TA}{p pos:Pos}(w:Gl X "enumerate")(x:X.mg "enumerate"=none)(i:PA X [a] o)(y:W6 [a] X.env=[(false,eval a X.env)]:=by rfl):PI X (.Tuple elts k tpos) (.Call (.Name "enumerate" p) [a] [] pos) (zpJ o):=by
 intro l s r H R I h;refine Call_ (YT I w x boot_enumerate (VY (thn (i pos l s r H _ I h) λJ s1 ⟨L,g,j,G,E⟩=>?_) y rfl));obtain⟨z,rfl,q⟩:=E;obtain⟨u,rfl,t,rfl⟩:=vals1 G;refine call_enumerate_str λv he c B D=>?_;have n:Inv X l r g { s1 with heap:=v }:=j.kept (t':=s1.toks) D;refine S1 he ?_;have d:∀b ∈ [s1.heap.objs.size+1,s1.heap.objs.size],YU X l g b:=λb hb=>by
  have f:s1.heap.objs.size<=b:=by
   rcases XI.mp hb with e | hb
   .rw[e];exact Wb _
   .have e:b=s1.heap.objs.size:=by simpa using hb
    rw[e];exact XW _
  exact j.fpOk f (j.hok.fresh f)
 unfold strIterType at c;by_cases i:z.cps.all (· < 128)=true
 .rw[bw i]at c;exact eF (s1.heap.objs.size+1) [s1.heap.objs.size+1,s1.heap.objs.size] _ _ g rfl n (zcu (s1.heap.objs.size+1) s1.heap.objs.size z t "str_ascii_iterator" (Vr _) (λA m=>Draws.strAscii m _ z t)) ⟨⟨_,he⟩,c⟩ d q
 .rw[bq i]at c;exact eF (s1.heap.objs.size+1) [s1.heap.objs.size+1,s1.heap.objs.size] _ _ g rfl n (zcu (s1.heap.objs.size+1) s1.heap.objs.size z t "str_iterator" (Vr _) (λA m=>Draws.strWide m _ z t)) ⟨⟨_,he⟩,c⟩ d q
def zsm (K:XZ)(d:TA):TI:=fun h H R=>d h H λe a=>∃b c,e=[.ref b,.ref c]/\(∃f,SqL K a b f)/\(∃g,SqL K a c g)/\R (Itz K b c) a
def zpK {a b:Expr}{L:TA}{p pos:Pos}(Y:Gl X "zip")(hm:X.mg "zip"=none)(U:PA X [a,b] L)(hs:W6 [a,b] X.env=[(false,eval a X.env),(false,eval b X.env)]:=by rfl)(f:W6 [b] X.env=[(false,eval b X.env)]:=by rfl) :
  PI X (.Tuple elts k tpos) (.Call (.Name "zip" p) [a,b] [] pos) (zsm X.K L):=by
 intro z s M H R I h;refine Call_ (YT I Y hm boot_zip (VY (thn (U pos z s M H _ I h) λus s1 ⟨vs,y,d,r1,q1⟩=>?_) (by rw[hs,f]) (by rw[f];rfl)));obtain⟨v,w,rfl,⟨xs,o⟩,⟨ys,r⟩,q⟩:=q1;refine fK (λu u' z0 ru x=>?_) (vals2 r1);subst z0;cases ru;cases x;obtain⟨D,af,G,ab⟩:=d.list o;obtain⟨E,ag,J,ac⟩:=d.list r;obtain⟨o1,m,_⟩:=G.isList;obtain⟨o2,n,_⟩:=J.isList;have ae:@LT.lt Nat _ v s1.heap.objs.size:=XB m;have lt2:@LT.lt Nat _ w s1.heap.objs.size:=XB n;refine call_zip_2 G.isList J.isList λQ B g i j l aa kk=>?_;have O:Inv X z M y { s1 with heap:=Q }:=d.kept (t':=s1.toks) kk;refine wpAny_pyIter_zip B ?_;generalize T:s1.heap.objs.size=N at *
 have c:ZipApart (N+4) (N+2) (N+3) N (N+1) v w:=by
  constructor<;>first
   | exact Xj (by lia)
   | exact Uk (by lia)
 refine eF (N+4) [N+4,N+2,N+3,N,N+1] _ _ y rfl O (zk7 (N+4) (N+2) (N+3) N (N+1) v w c) (e9 B g ⟨_,_,i⟩ j l) (λb A=>?_) q;have e:s1.heap.objs.size<=b:=by
  rw[T];simp only[XI,VE,or_false]at A;rcases A with rfl | rfl | rfl | rfl | rfl<;>lia
 exact d.fpOk e (d.hok.fresh e)
def zeU:ju X (.type "int") (λxs H Q=>∃x n,xs=[.str x]/\O3 x=some n/\x.length<=640/\Q (.int n) H):=by
 intro c s e H xs d Q I r h;revert h;refine fH λx n z0 b a q=>?_;subst z0;obtain⟨u,rfl,t,rfl⟩:=vals1 r;exact PySem.W.KIN.call_text b a ⟨.int n,H,I.tok _,⟨_,rfl⟩,q⟩
def zeV:ju X (.type "str") (λxs H Q=>∃x,xs=[.str x]/\Q (.str x) H):=by
 intro a s c H xs b Q I r h;obtain⟨x,rfl,q⟩:=h;obtain⟨u,rfl,t,rfl⟩:=vals1 r;exact PySem.P.str_of_str ⟨.str x,H,I,⟨_,rfl⟩,q⟩
end
def yH {K:XZ}{l:Addr}{xs:AE}{g:TG}{k:TS}{D:Ends}{a:St}{H:Hp}(Pv:Nat->St->Hp->Prop)(h0:Pv 0 a H)(s:∀i a H,i<=xs.length->Pv i a H->SqL K H l xs)
  (u:∀i x T a H,xs[i]?=some x->H T=none->Pv i a H->g (.ref T) a (upd H T (.tup [.int i,x])) fun d h=>k { D with nx:=Pv (i+1),ct:=Pv (i+1),bk:=D.nx } d h) (o:∀ a H,Pv xs.length a H->D.nx a H) :
  ∃W:Nat->Nat->St->Hp->Prop,(∃m,W 0 m a H)/\∀i m a H,W i m a H ->
   ((Ite K l).stop i H/\D.nx a H)\/((Ite K l).go i H/\∃N:St->Hp->Prop,(∀ c b,N c b->∃j,j<m/\W (i+1) j c b)/\∀x b,(Ite K l).yld i H x b->g x a b fun d h=>k { D with nx:=N,ct:=N,bk:=D.nx } d h):=by
 refine⟨λi m a H=>m=xs.length-i/\i<=xs.length/\Pv i a H,⟨xs.length,by simp,W3 _,h0⟩,?_⟩;rintro i m a H ⟨rfl,r,p⟩;have q:=s i a H r p;by_cases f:i<xs.length
 .refine .inr (eO ⟨xs,q,f⟩ (Pv (i+1)) (fun c b z=>⟨xs.length-(i+1),by lia,rfl,f,z⟩) (λx b y=>?_));revert y;refine fP λT z0 n y=>?_;subst z0;obtain⟨v,w,rfl⟩:=y xs q;exact u i v T a H w n p
 .have e:i=xs.length:=by lia
  subst e;exact .inl ⟨⟨xs,q,rfl⟩,o a H p⟩
def zcv {g:TG}{k:TT}{l:TE}{Q:VK}{a:St}{H:Hp}{D:Addr}{x:Str}(Pv:Nat->St->Hp->Prop)(h0:Pv 0 a H)
  (u:∀i c T a H,x.cps[i]?=some c->H T=none->Pv i a H->g (.ref T) a (upd H T (.tup [.int i,.str ⟨#[c]⟩])) fun d o=>k d o λb h=>if b=true then l d h λy j=>∃ys,j D=some (.lst ys)/\ys.length<Xz/\Pv (i+1) d (upd j D (.lst (ys++[y]))) else Pv (i+1) d h)
  (s:∀ a H,Pv x.cps.size a H->Q (.ref D) H):yV (znt x) g k l Q D a H:=by
 refine⟨λi m a H=>m=x.cps.size-i/\i<=x.cps.size/\Pv i a H,⟨x.cps.size,by simp,W3 _,h0⟩,?_⟩;refine λi m a H=>fO λz0 A p=>?_;subst z0;by_cases f:i<x.cps.size
 .refine .inr (eO f (Pv (i+1)) (fun z n w=>⟨x.cps.size-(i+1),by lia,rfl,f,w⟩) (λv n y=>?_));revert y;refine fH λT c z0 q r z1=>?_;subst z0 z1;exact u i c T a H r q p
 .have e:i=x.cps.size:=by lia
  subst e;exact .inl ⟨rfl,s a H p⟩
def zas (look:Str->Option Addr):List (Str×Sj)->List (Str×Addr)->List (Str×Addr)
 | [],a=>a
 | (n,k)::r,a=>if k == .free then (match look n with
  | some c=>zas look r ((n,c)::a)
  | none=>zas look r a) else zas look r a
theorem Y6 {look:Str->Option Addr}:∀(b:List (Str×Sj)) (a:List (Str×Addr)) (p:Str×Addr),p∈zas look b a->p∈a\/look p.1=some p.2
 | [],a,p,h=>.inl h
 | (n,k)::r,a,p,h=>by
  unfold zas at h;split at h
  .cases e:look n with
   | none =>
    rw[e]at h;exact Y6 r a p h
   | some c =>
    rw[e]at h;rcases Y6 r _ p h with h | h
    .rcases XI.mp h with h | h
     .subst h;exact .inr e
     .exact .inl h
    .exact .inr h
  .exact Y6 r a p h
def ZD {x n:Str}{c:Addr}{a:List (Str×Addr)}(h:(a.lookup x).isSome=true\/x=n):(Rw x ((n,c)::a)).isSome=true:=by
 rw[Sz];cases e:x==n with
 | true=>rfl
 | false =>
  rcases h with h | h
  .exact h
  .subst h;simp at e
def zf3 {look:Str->Option Addr}{x:Str}(a:List (Str×Sj))(b:List (Str×Addr))(h:(b.lookup x).isSome=true\/((x,NameKind.free)∈a/\(look x).isSome=true)):((zas look a b).lookup x).isSome=true:=by
 induction a generalizing b with
 | nil =>
  rcases h with h | h
  .exact h
  .cases h.1
 | cons y r d =>
  obtain⟨n,k⟩:=y;unfold zas;split
  .rename_i hk;cases e:look n with
   | none =>
    refine d b ?_;rcases h with h | ⟨h,h2⟩
    .exact .inl h
    .rcases XI.mp h with h | h
     .cases h;rw[e]at h2;cases h2
     .exact .inr ⟨h,h2⟩
   | some c =>
    refine d _ ?_;rcases h with h | ⟨h,h2⟩
    .exact .inl (ZD (.inl h))
    .rcases XI.mp h with h | h
     .cases h;exact .inl (ZD (.inr rfl))
     .exact .inr ⟨h,h2⟩
  .rename_i hk;refine d b ?_;rcases h with h | ⟨h,h2⟩
   .exact .inl h
   .rcases XI.mp h with h | h
    .cases h;exact absurd rfl hk
    .exact .inr ⟨h,h2⟩
def YM {e:UN}{d:Env}(h:∀y∈e.names,y.2=.free->(d.cells.lookup y.1).isSome=true):Oo e d=pure (zas (λx=>d.cells.lookup x) e.names []):=by
 have v:∀(b:List (Str×Sj)) (f:List (Str×Addr)),(∀y∈b,y.2=.free->(d.cells.lookup y.1).isSome=true) ->
   (forIn b f λx l=>(match x with
    | (g,j)=>if (j == .free)=true then do let a <- cellOf d g;pure (V3 ((g,a)::l)) else pure (V3 l):Sem (ForInStep (List (Str×Addr)))))=(pure (zas (λx=>d.cells.lookup x) b f):Sem _):=by
  intro b;induction b with
  | nil=>intro f _;rfl
  | cons y r s =>
   intro f q;obtain⟨n,k⟩:=y;have p:∀y∈r,y.2=.free->(d.cells.lookup y.1).isSome=true:=λy z=>q y (XU _ z);rw[List.forIn_cons];unfold zas;by_cases hk:(k==NameKind.free)=true
   .have o:k=.free:=by simpa using hk
    have A:=q (n,k) XT o;obtain⟨c,w⟩:=V1.mp A;have i:Rw n d.cells=some c:=w;have u:cellOf d n=pure c:=by
     unfold cellOf;rw[i]
    simp only[hk,if_true,u,i,pure_bind];exact s _ p
   .simp only[hk,WG,if_false,pure_bind];exact s _ p
 simp only[Oo];exact Eq.trans (congrArg (λm:Sem (List (Str×Addr))=>m >>= λl=>pure l) (v e.names [] h)) rfl
def Zh {b:UN}{a:Env}{x:Str}{k:Sj}(h:(x,k)∈(UF b a).names)(hk:k=.cell\/k=.free):(x,Tu)∈b.names\/(x,NameKind.free)∈b.names:=by
 obtain⟨y,g,e⟩:=XG.mp h;obtain⟨n,d⟩:=y;by_cases c:(d==NameKind.free&&a.scope.kind == .function&&a.kindOf n==some .cell)=true
 .have f:(if (d==NameKind.free&&a.scope.kind == .function&&a.kindOf n==some .cell)=true then (n,Tu) else (n,d))=(x,k):=e;rw[bw c]at f;cases f;have c1:d=.free:=by
   have:=(WC.mp (WC.mp c).1).1;simpa using this
  subst c1;exact .inr g
 .have f:(if (d==NameKind.free&&a.scope.kind == .function&&a.kindOf n==some .cell)=true then (n,Tu) else (n,d))=(x,k):=e;rw[bq c]at f;cases f;rcases hk with rfl | rfl
  .exact .inl g
  .exact .inr g
open PySem PySem.Spec PyProof.Rows PySem.W
section
variable {α β:Type}{R:α->β->Prop}{us us':List α}{cs cs':List β}{i:Nat}{v:α}{c:β}
def zeW (h:Xa R us cs)(k:Xa R us' cs'):Xa R (us++us') (cs++cs'):=by
 induction h with
 | nil=>exact k
 | cons q _ a=>exact .cons q a
def QJ (h:Xa R us cs)(e:us[i]?=some v):∃c,cs[i]?=some c/\R v c:=by
 induction h generalizing i with
 | nil=>cases e
 | cons q _ a =>
  cases i with
  | zero =>
   cases e;exact⟨_,rfl,q⟩
  | succ i=>exact a (i:=i) e
def zk8 (h:Xa R us cs)(e:v∈us):∃c∈cs,R v c:=by
 induction h with
 | nil=>cases e
 | cons q _ a =>
  rcases XI.mp e with rfl | e
  .exact⟨_,XT,q⟩
  .obtain⟨c,h,r⟩:=a e;exact⟨c,XU _ h,r⟩
end
def yX (H:Hp):AE->List (Int×Int)->Prop:=Xa λv p=>∃a,v=V.ref a/\H a=some (.tup [.int p.1,.int p.2])
def lt2 (p q:Int×Int):Bool:=if p.1=q.1 then decide (p.2<q.2) else decide (p.1<q.1)
structure zD (h:Heap)(v:X9)(p:Int×Int):Prop where
 ex:∃a o n t u,v=.ref a/\h.get? a=some o/\o.cls=.type "tuple"/\o.data=.seq #[.int p.1 t,.int p.2 u] n
section
variable {X:Cx}{bz:List (Addr×Obj)}{σ:St}{H:Hp}{s:X7}
def yX.pairs (I:Inv X bz σ H s){d:AE}{ps:List (Int×Int)}{b:List X9}(i:yX H d ps)(r:Vals d b):Xa (zD s.heap) b ps:=by
 induction i generalizing b with
 | nil =>
  cases r;exact .nil
 | cons q _ j =>
  obtain⟨a,e,h⟩:=q;subst e;cases r with
  | cons k l =>
   cases k;refine .cons ?_ (j l);obtain⟨c,m,u,_⟩:=I.tuple (SqT.of h);obtain⟨u1,v,rfl,⟨o,rfl⟩,⟨p,rfl⟩⟩:=vals2 m;revert u;refine gw λob g c1 n f=>?_;exact⟨a,ob,n,o,p,rfl,g,c1,f⟩
end
theorem Yl {h h':Heap}(k:∀b o,h.get? b=some o->h'.get? b=some o):∀{c:List X9} {ps:List (Int×Int)},Xa (zD h) c ps->Xa (zD h') c ps
 | _,_,.nil=>.nil
 | _,_,.cons ⟨a,o,n,t,u,e,d,r⟩ f=>.cons ⟨a,o,n,t,u,e,k _ _ d,r⟩ (Yl k f)
theorem Ym {h:Heap}:∀{b:List X9} {ps:List (Int×Int)},Xa (zD h) b ps->∃fs:List X9,KatTups h b fs/\fs.length=b.length/\∀v∈fs,∃x t,v=Vs x t
 | _,_,.nil=>⟨[],.nil,rfl,λ_ z=>nomatch z⟩
 | _,_,.cons ⟨a,o,n,t,u,e,f,c,d⟩ g=>by
  obtain⟨fs,k,l,q⟩:=Ym g;subst e;refine⟨.int _ t::fs,KatTups.cons f c d rfl k,by simp[l],λv hv=>?_⟩;rcases XI.mp hv with rfl | hv
  .exact⟨_,t,rfl⟩
  .exact q v hv
section
variable {prog:Xs}{w:Xd}{A:WY}{E:X9->X7->Prop}{s:X7}
def ziN {v i:X9}{p q:Int×Int}{C:Bool->X7->Prop}(r:zD s.heap v p)(f:zD s.heap i q)(h:C (lt2 p q) s):Xu (Xx prog w) A (keyLt' (tuples' true) v i) C E s:=by
 obtain⟨a,o,n,t,u,rfl,l,c1,k⟩:=r;obtain⟨z,G,D,x,y,rfl,c,j,b⟩:=f;refine kat_lt l k c b ?_;show KatLex prog w A true _ C [(Vs p.1 t,Vs q.1 x),(Vs p.2 u,Vs q.2 y)] 0 s;unfold lt2 at h;refine kat_cons (SeqAt.EqAt.int_int _ _ _ _ prog w _ _ (kat_go (λd=>kat_yes ?_) λd=>kat_no ?_))
 .have e:p.1=q.1:=by simpa using d
  rw[bw e]at h;refine kat_cons (SeqAt.EqAt.int_int _ _ _ _ prog w _ _ (kat_go (λg=>kat_yes (kat_nil ?_)) λg=>kat_no ?_))
  .have B:p.2=q.2:=by simpa using g
   have m:decide (p.2<q.2)=false:=bf (by lia);rw[m]at h;exact h
  .exact kat_one _ _ (lt_int h)
 .have e:¬ p.1=q.1:=by simpa using d
  rw[bq e]at h;exact oneLt_int h
end
section
variable {X:Cx}
def zf4:zq1 X (zra X.K):=by
 intro g s B H x y v u Q I o A h;revert h;refine gf λp J i z z0 z1 n he q=>?_;subst z0 z1;cases o;obtain⟨t,rfl⟩:=A;obtain⟨c,r,f,G⟩:=I.list n;refine gj (λj h1 h2 D k l=>?_) (zb6 he);obtain⟨w,e,d⟩:=r.get h2;have m:=r.length;have E:=YY;have a:EP X g B Q w s:=⟨z,H,I,d,q⟩;by_cases h0:0<=i
 .have b:i.toNat=j:=by
   rw[Pa h0 l]at h1;exact Option.some.inj h1
  exact wpAny_getItem_list f.isList h0 (by lia) (by rw[b];simpa using e) a
 .have b:(i+(c.toArray.size:Int)).toNat=j:=by
   rw[PH (by lia) k]at h1;rw[Xq,<- m];exact Option.some.inj h1
  exact Py f.isList (by lia) (by rw[Xq]<;>lia) (by lia) (by rw[b];simpa using e) a
theorem zf5:∀{b:List Int} {a:List X9},Vals (b.map V.int) a->OL a b
 | [],_,r=>by cases r;exact .nil
 | n::b,_,r=>by
  cases r with
  | cons c d =>
   obtain⟨t,rfl⟩:=c;exact .cons n t (zf5 d)
def zf6 (i:X.calm=true):ju X (.builtin "sum") (λxs H Q=>∃(l:Addr) (a:List Int),xs=[.ref l]/\SqL X.K H l (a.map V.int)/\Q (.int a.sum) H):=by
 intro o s z H xs y Q I r h;obtain⟨l,a,rfl,j,q⟩:=h;obtain⟨u,rfl,m⟩:=vals1 r;cases m;obtain⟨b,n,k,v⟩:=I.list j;have e:OL b a:=zf5 n;obtain⟨c,d⟩:=e.allInts.items;refine sum_intListG (I.ok.hd i) (xs:=c) (d ▸ k.isList) λp x w hk=>?_;have f:a=c.toList.map (·.1):=by
  rw[<- nums_intItems,<- d];exact(show numsOf b.toArray.toList=a from e.numsOf).symm
 have g:preSum (numAt c) c.size=a.sum:=by
  rw[f,preSum_eq,WD (by simp)]
 rw[g];exact⟨.int _,H,I.kept hk,⟨_,rfl⟩,q⟩
def zjU {bs:List Bool}{a:List X9}(r:Vals (bs.map V.bl) a){i:Nat}{v:X9}(e:a[i]?=some v):∃b,bs[i]?=some b/\v=.bool b:=by
 have d:=r.length;rw[ZB]at d;have c:i<bs.length:=by
  have:=(X5.mp e).1;lia
 obtain⟨u,f,g⟩:=r.get (i:=i) (x:=.bl bs[i]) (by rw[Xv,X0 c];rfl);rw[f]at e;cases e;exact⟨bs[i],X0 c,g⟩
def zcw (m:X.calm=true):ju X (.builtin "any") (λxs H Q=>∃(l:Addr) (bs:List Bool),xs=[.ref l]/\SqL X.K H l (bs.map V.bl)/\Q (.bl (bs.any id)) H):=by
 intro y s J H xs G Q I r h;revert h;refine fK λl bs z0 n q=>?_;subst z0;obtain⟨u,rfl,p⟩:=vals1 r;cases p;obtain⟨a,j,o,B⟩:=I.list n;have d:=o.isList;have f:l<s.heap.objs.size:=let ⟨_,he,_⟩:=d;XB he
 have c:=j.length;rw[ZB]at c;refine call_any_walk (S2 d ?_);refine fC s.heap.objs.size [s.heap.objs.size,l] [s.heap.objs.size] a.toArray.size _ _ (λi=>(bs[i]?).getD false) rfl (Walks.list (A:=X.A.in1) (I.ok.hd m) _ l (Xj f) a.toArray) ⟨⟨_,Xg _ rfl,rfl,rfl⟩,d.push _⟩ (λi v D x w hP g=>?_) (λz E hk=>?_)
 .obtain⟨b,k,rfl⟩:=zjU j (i:=i) (v:=v) (by simpa using hP);simp only[k,TK]at g;exact Vz g
 .have e:((Va a.toArray.size).any λi=>(bs[i]?).getD false)=bs.any id:=by
   rw[Xq,<- c];exact LSm.range_any bs
  rw[e];exact⟨.bl _,H,I.kept (LSm.kept_iter hk),rfl,q⟩
end
mutual
inductive Rdn (N:Addr->Prop)(H:Hp):V->Wj->Prop
 | non:Rdn N H .non .none
 | bl (b:Bool):Rdn N H (.bl b) (.bool b)
 | int (i:Int):Rdn N H (.int i) (.int i)
 | str (x:Str):Rdn N H (.str x) (.str x)
 | lst {a:Addr} {xs:AE} {ds:List Wj}:N a->H a=some (.lst xs)->zC N H xs ds->Rdn N H (.ref a) (.list ds)
 | tup {a:Addr} {xs:AE} {ds:List Wj}:H a=some (.tup xs)->zC N H xs ds->Rdn N H (.ref a) (.tuple ds)
inductive zC (N:Addr->Prop)(H:Hp):AE->List Wj->Prop
 | nil:zC N H [] []
 | cons {x:V} {d:Wj} {xs:AE} {ds:List Wj}:Rdn N H x d->zC N H xs ds->zC N H (x::xs) (d::ds)
end
section
variable {K:XZ}{N N':Addr->Prop}{H H':Hp}
def Rdn.rdv {v:V}{d:Wj}(h:Rdn N H v d):Rdv K H v d :=
 Rdn.rec (motive_1:=λv d _=>Rdv K H v d) (motive_2:=λc b _=>xr K H c b) .non .bl .int .str (λ_ h _ t=>.lst (SqL.of h) t) (λh _ t=>.tup (SqT.of h) t) .nil (λ_ _ a t=>.cons a t) h
def zC.rdv {vs:AE}{b:List Wj}(h:zC N H vs b):xr K H vs b :=
 zC.rec (motive_1:=λv d _=>Rdv K H v d) (motive_2:=λvs b _=>xr K H vs b) .non .bl .int .str (λ_ h _ t=>.lst (SqL.of h) t) (λh _ t=>.tup (SqT.of h) t) .nil (λ_ _ a t=>.cons a t) h
def Rdn.mono (s:zx H H')(i:∀a,N a->N' a){v:V}{d:Wj}(h:Rdn N H v d):Rdn N' H' v d :=
 Rdn.rec (motive_1:=λv d _=>Rdn N' H' v d) (motive_2:=λc b _=>zC N' H' c b) .non .bl .int .str (λn h _ t=>.lst (i _ n) (s _ _ h) t) (λh _ t=>.tup (s _ _ h) t) .nil (λ_ _ a t=>.cons a t) h
def zC.mono (s:zx H H')(i:∀a,N a->N' a){vs:AE}{b:List Wj}(h:zC N H vs b):zC N' H' vs b :=
 zC.rec (motive_1:=λv d _=>Rdn N' H' v d) (motive_2:=λvs b _=>zC N' H' vs b) .non .bl .int .str (λn h _ t=>.lst (i _ n) (s _ _ h) t) (λh _ t=>.tup (s _ _ h) t) .nil (λ_ _ a t=>.cons a t) h
def zC.into {D:Addr}{o:HO}{c:AE}(e:H D=some (.lst c))(i:∀a,N a->a≠D){vs:AE}{b:List Wj}(h:zC N H vs b):zC N (upd H D o) vs b :=
 zC.rec (motive_1:=λv d _=>Rdn N (upd H D o) v d) (motive_2:=λvs b _=>zC N (upd H D o) vs b) .non .bl .int .str (λn h _ t=>.lst n (by rw[zp (i _ n)];exact h) t) (λh _ t=>.tup (by rw[zp (zdQ h e (by intro z;cases z))];exact h) t) .nil (λ_ _ a t=>.cons a t) h
def Rdn.keep (s:zx H H'){v:V}{d:Wj}(h:Rdn N H v d):Rdn N H' v d:=h.mono s λ_ n=>n
def zC.keep (s:zx H H'){vs:AE}{a:List Wj}(h:zC N H vs a):zC N H' vs a:=h.mono s λ_ n=>n
def zC.append {vs d:AE}{b c:List Wj}(h:zC N H vs b)(k:zC N H d c):zC N H (vs++d) (b++c) :=
 zC.rec (motive_1:=λ_ _ _=>True) (motive_2:=λvs b _=>zC N H (vs++d) (b++c))
  trivial (λ_=>trivial) (λ_=>trivial) (λ_=>trivial) (λ_ _ _ _=>trivial) (λ_ _ _=>trivial) k (λa _ _ t=>.cons a t) h
def zC.snoc {vs:AE}{a:List Wj}{v:V}{d:Wj}(h:zC N H vs a)(k:Rdn N H v d):zC N H (vs++[v]) (a++[d]):=h.append (.cons k .nil)
def zC.paired {vs:AE}{b:List Wj}(h:zC N H vs b):Xa (Rdn N H) vs b :=
 zC.rec (motive_1:=λ_ _ _=>True) (motive_2:=λvs b _=>Xa (Rdn N H) vs b)
  trivial (λ_=>trivial) (λ_=>trivial) (λ_=>trivial) (λ_ _ _ _=>trivial) (λ_ _ _=>trivial) .nil (λa _ _ t=>.cons a t) h
theorem zC.length {vs:AE}{a:List Wj}(h:zC N H vs a):vs.length=a.length:=Paired.length h.paired
def zC.get {vs:AE}{a:List Wj}{i:Nat}{v:V}(h:zC N H vs a)(e:vs[i]?=some v):∃d,a[i]?=some d/\Rdn N H v d:=QJ h.paired e
end
section
variable {K:XZ}{g:TG}{tc:TT}{te:TE}{Q:VK}{σ0:St}{H1:Hp}{D:Addr}
def znu (N:Addr->Prop)(c:St->Prop)(H:Hp)(o:Option Wj)(Y:St->V->Hp->Prop):Prop:=∀d y a b,o=some d->c a->zx H b->Rdn N b y d->Y a y b
def zpL (b:St->Prop)(H:Hp)(o:Option Wj)(Z:St->Hp->Prop):Prop:=∀ a c,o=none->b a->zx H c->Z a c
def qp {a:Addr}{xs:AE}(N:Addr->Prop)(c:List (Option Wj))(h:St->Prop)(E:H1 D=none)(L:∀a,N a->a≠D)(h0:h σ0)(n:c.length=xs.length)(hz:xs.length<=100000)
  (T:SqL K H1 a xs)
  (U:∀(i:Nat) (x:V) (o:Option Wj) (k:St) (H:Hp),xs[i]?=some x->c[i]?=some o->zx H1 H->H D≠none->h k->∀Y Z,znu N h H o Y->zpL h H o Z ->
   g x k H fun f J=>tc f J λb r=>if b=true then te f r λy B=>Y f y B else Z f r)
  (M:∀ys j,zx H1 j->j D=some (.lst ys)->zC N j ys (c.filterMap id)->Q (.ref D) j):yV (Itl K a) g tc te Q D σ0 (upd H1 D (.lst [])):=by
 refine qa (K:=K) (a:=a) (xs:=xs) (λi k j=>h k/\zx H1 j/\∃ys,j D=some (.lst ys)/\ys.length<=i/\zC N j ys ((c.take i).filterMap id)) ⟨h0,zc E,[],zb,XW _,.nil⟩ (λi k j _ ⟨_,s,_⟩=>s.seq T) ?_ ?_
 .refine λi x k H I=>fO λO s=>fP λys m A p=>?_;have u:i<xs.length:=(X5.mp I).1;obtain⟨o,G⟩:∃o,c[i]?=some o:=⟨c[i]'(by lia),X0 (by lia)⟩;have step:(c.take (i+1)).filterMap id=(c.take i).filterMap id++o.toList:=by
   rw[Xp,G,List.filterMap_append];cases o<;>rfl
  refine U i x o k H I G s (by rw[m];exact λz=>nomatch z) O _ _ (λd y f B e l q v=>?_) (fun f r e l w=>?_)
  .subst e;refine dU ys (q _ _ m) (XM A (Xn u (X6 hz (by decide)))) l (λb ob e=>?_) (dI (ys++[y]) zb ?_ ?_)
   .rw[zp (zg e E)];exact q _ _ (s _ _ e)
   .rw[XX];exact OX A 1
   .rw[step];exact zC.into (q _ _ m) L (zC.snoc (p.keep q) v)
  .subst e;refine⟨l,s.trans w,ys,w _ _ m,T6 A,?_⟩;rw[step];simpa using p.keep w
 .rintro k H ⟨_,s,ys,m,_,p⟩;rw[<- n,XD]at p;exact M ys H s m p
def zhD {a:Addr}{xs:AE}(Pv:Nat->St->Hp->Prop){H:Hp}(h0:Pv 0 σ0 H)(s:∀i c H,i<=xs.length->Pv i c H->SqL K H a xs)
  (u:∀i x T c H,xs[i]?=some x->H T=none->Pv i c H->g (.ref T) c (upd H T (.tup [.int i,x])) fun d l=>tc d l λb h=>if b=true then te d h λy j=>∃ys,j D=some (.lst ys)/\ys.length<Xz/\Pv (i+1) d (upd j D (.lst (ys++[y]))) else Pv (i+1) d h)
  (o:∀ c H,Pv xs.length c H->Q (.ref D) H):yV (Ite K a) g tc te Q D σ0 H:=by
 refine⟨λi m c H=>m=xs.length-i/\i<=xs.length/\Pv i c H,⟨xs.length,by simp,W3 _,h0⟩,?_⟩;refine λi m c H=>fO λz0 r p=>?_;subst z0;have q:=s i c H r p;by_cases f:i<xs.length
 .refine .inr (eO ⟨xs,q,f⟩ (Pv (i+1)) (fun A k z=>⟨xs.length-(i+1),by lia,rfl,f,z⟩) (λx k y=>?_));revert y;refine fP λT z0 n y=>?_;subst z0;obtain⟨v,w,rfl⟩:=y xs q;exact u i v T c H w n p
 .have e:i=xs.length:=by lia
  subst e;exact .inl ⟨⟨xs,q,rfl⟩,o c H p⟩
def yw {i:Nat}{v:V}{c:St}{H:Hp}{A B:St->Hp->Prop}(h:A (c.set i (some v)) H):xo i v c H fun a e=>zk6 a e λb d=>if b=true then A a d else B a d:=by
 show if true=true then A (c.set i (some v)) H else B (c.set i (some v)) H
 exact zdq h
end
def Jg:List X9:=[.type "ValueError",.type "Exception",.type "BaseException",.type "object"]
structure Fly (P:Xs)(w:Xd)(outer:List Env)(H:Hp)(s:X7)(e C:Addr)(a0:X9)(B:Heap)(H':Hp)(s':X7):Prop where
 fly:Od B outer e (.ref C) a0 s'.heap
 os:s'.os=s.os
 bare:Ss s'.gens
 un:Un (frs outer) [] H H' s.heap s'.heap
 ok:HOk P w H' B
 kB:∀b o,s.heap.get? b=some o->H b=none->b ∉ frs outer->B.get? b=some o
 tB:∀b o,s.heap.get? b=some o->b ∉ frs outer->∃o',B.get? b=some o'
 new:s.heap.get? e=none
 free:H' e=none
def CXE (P:Xs)(w:Xd):CXT:=λa H s E x d=>∃(e C:Addr) (c:X9) (B:Heap) (b:Hp),x=.ref e/\Fly P w a H s e C c B b d/\E (.ref C) none b
theorem zk9 {P:Xs}{w:Xd}{H:Hp}{h:Heap}{a:Addr}:∀{o:HO},jJ P w H h a o->∃ob,h.get? a=some ob
 | .lst _,x=>by obtain⟨_,_,_,_,q⟩:=x;exact⟨_,q⟩
 | .tup _,x=>by revert x;refine fN λ_=>fU λ_ _ ob q _=>?_;exact⟨ob,q⟩
 | .dK _,x=>by revert x;refine gA λ_ _ _ _ ob _ _ q _=>?_;exact⟨ob,q⟩
 | .dT _,x=>by revert x;refine gA λ_ _ _ _ ob _ _ q _=>?_;exact⟨ob,q⟩
 | .set _ _,x=>by revert x;refine gq λob _ _ _ q _=>?_;exact⟨ob,q⟩
 | .ins _ _ _,x=>by revert x;refine fX λ_ _ _ q _=>?_;exact⟨_,q⟩
 | .own _,x=>x
 | .xd _,x=>by obtain⟨_,⟨ob,_,_,q,_⟩,_⟩:=x;exact⟨ob,q⟩
 | .met _ _,x=>⟨_,x⟩
 | .rng _ _,x=>by obtain⟨_,_,_,q⟩:=x;exact⟨_,q⟩
 | .frz _ _,x=>⟨_,x.1⟩
 | .tbl _,x=>⟨_,x⟩
 | .ext _,x=>x.2.1
section
variable {X:Cx}{bz:List (Addr×Obj)}{σ:St}{H H':Hp}{s s':X7}{e C:Addr}{a0:X9}{B h2:Heap}
def Inv.notLoc (I:Inv X bz σ H s){b:Addr}{o:Obj}(q:X.s₀.heap.get? b=some o):b≠X.env.locals:=λz=>VU _ (Xn (z ▸ XB q) I.ok.above)
def Inv.notStk (I:Inv X bz σ H s){b:Addr}{o:Obj}(q:X.s₀.heap.get? b=some o)(a:b ∉ X.fs):b ∉ frs X.stack:=λz=>by
 rcases XI.mp (I.stkSub b z) with r | r
 .exact I.notLoc q r
 .exact a r
def Inv.flies (I:Inv X bz σ H s)(j:X.ex=[])(F:Od B X.outer e (.ref C) a0 h2)(up:s'.heap.UpToSlots h2)(os:s'.os=s.os)(i:Ss s'.gens)(un:Un (frs X.stack) [] H H' s.heap s'.heap)(ok:HOk X.prog X.w H' B)
  (x:∀b o,s.heap.get? b=some o->H b=none->b ∉ frs X.stack->B.get? b=some o) (tB:∀b o,s.heap.get? b=some o->b ∉ frs X.stack->∃c,B.get? b=some c) (k:s.heap.get? e=none) (free:H' e=none) :
  Fly X.prog X.w X.outer X.H₀ X.s₀ e C a0 B H' { s' with heap:=h2 }:=by
 have f:∀b,b ∉ X.ex:=λb z=>by rw[j]at z;cases z
 have keep:∀b o,X.s₀.heap.get? b=some o->X.H₀ b=none->b ∉ X.fs->B.get? b=some o:=λb o q n a =>
  x b o (I.base.keep b o q n a (f b)) (I.base.free b o q n (f b)) (I.notStk q a)
 have d:∀b o,X.s₀.heap.get? b=some o->b ∉ X.fs->∃c,B.get? b=some c:=λb o q a=>by
  obtain⟨c,h⟩:=I.base.there b o q (f b);exact tB b c h (I.notStk q a)
 have g:∀b o,X.s₀.heap.get? b=some o->b∈X.fs->∃l,h2.get? b=some { o with slots:=l }:=λb o q a=>by
  obtain⟨_,Q,p,D⟩:=I.ok.funs.mem a;rw[q]at p;cases p;obtain⟨l,G⟩:=I.base.slot b o q (I.ok.frf b a) a (f b);obtain⟨O,J⟩:=un.any G (I.base.free b o q (I.ok.frf b a) (f b)) (λz=>nomatch z);obtain⟨m,L⟩:=up b _ J D;exact⟨m,L⟩
 refine⟨F,os.trans I.os,i,⟨λb o q n a _=>F.1 b o (keep b o q n a),λb o q _ a _=>g b o q a,λb o q n _=>?_,λb o q _=>?_,λb v q=>un.tups b v (I.base.tups b v q),λb o u q=>un.frzs b o u (I.base.frzs b o u q),λb E q=>?_⟩,ok,keep,d,?_,free⟩
 .obtain⟨c,h⟩:=I.base.there b o q (f b);exact un.free b c h (I.base.free b o q n (f b)) λz=>nomatch z
 .by_cases a:b∈X.fs
  .obtain⟨l,r⟩:=g b o q a;exact⟨_,r⟩
  .obtain⟨c,r⟩:=d b o q a;exact⟨c,F.1 b c r⟩
 .obtain⟨y,M⟩:=I.base.tbls b E q;obtain⟨A,N⟩:=un.tbls b _ M;exact⟨y++A,by rw[N,RS]⟩
 .cases q:X.s₀.heap.get? e with
  | none=>rfl
  | some o =>
   obtain⟨c,h⟩:=I.base.there e o q (f e);rw[k]at h;cases h
structure Q3 (X:Cx)(E:XK):Prop where
 stk:X.stack=X.env::X.outer
 fr:X.env.frame=some X.env.locals
 ex:X.ex=[]
 xe:X.xe=λx s'=>Xu (Xx X.prog X.w) X.A (leaving X.env x) (λ_ s''=>CXE X.prog X.w X.outer X.H₀ X.s₀ E x s'') (λx' s''=>CXE X.prog X.w X.outer X.H₀ X.s₀ E x' s'') s'
def zd0 {P:Xs}{w:Xd}{K:XZ}{e:Str->Option X9}{base:Heap}{N:AD}{c:Str}{b:UN}{f:Addr}{d:X9}{A:WY}{a:List Env}{s:X7}{H:Hp}{E:XK} :
  Q3 (zbW (CXE P w) P w K e base N c b f d A a s H E) E:=⟨rfl,rfl,rfl,rfl⟩
def zpM {l:List Env}:∀b∈l,∀a,b.frame=some a->a∈frs l:=λb he a c=>Th.mpr ⟨b,he,c⟩
def Q3.made {E:XK}(L:Q3 X E)(I:Inv X bz σ H s){h1:Heap}{vs:List X9}(c:Heap.MadeExcOf s.heap h1 e (.ref C) vs)(h:E (.ref C) none H):X.xe (.ref e) { s with heap:=h1 }:=by
 rw[L.xe];have i:=I.stack;have d:∀a o,H a=some o->a ∉ frs X.stack:=λa o q z=>by
  rw[I.stkFree a z]at q;cases q
 have own:∀a b,H b=some (.own a)->b ∉ frs X.stack:=λa b q=>d b _ q;have fresh:H e=none:=by
  cases q:H e with
  | none=>rfl
  | some o =>
   obtain⟨f,g⟩:∃f,s.heap.get? e=some f:=by
    exact zk9 (I.hok e o q)
   rw[c.new]at g;cases g
 refine wpAny_leaves_madeW (base:=PySem.W.hideAll s.heap (frs X.stack)) (L:=X.env.locals) (by rw[I.ok.frames,L.stk]) L.fr (λb o q=>PySem.W.of_hideAll _ q) (PySem.W.funFrames_hide (by rw[<- L.stk];exact i) (by rw[<- L.stk];exact zpM)) c λl t j m n k=>?_;refine dO e C _ _ (dI H rfl (I.flies (s':={ s with heap:=h1 }) L.ex j k rfl I.bare (Un.kept c.keeps) ?_ (λb o q _ hb=>TF _ q hb) (λb o q hb=>⟨o,TF _ q hb⟩) c.new fresh) h);exact λa o q=>(I.hok a o q).stay (λb u hb r=>TF _ r (by
  rcases hb with hb | hb
  .rw[hb];exact d a o q
  .exact own a b hb)) (λ_ r=>r) λ_ _ r=>r
def Q3.own {E:XK}(L:Q3 X E):OI (Xx X.prog X.w) X.A X.env X.xe:=by
 rw[L.xe];exact PassesOwn.leaving
end
structure qO (K:XZ)(mg:Str->Option X9)(x:Str)(C:Addr):Prop where
 g:mg x=some (.ref C)
 q:WN K C Jg "ValueError.__new__"=true
structure zoO (h:Heap)(C:Addr)(bm:List X9):Prop where
 ex:∃N nm qn bs hdct sn sub ab col dd k0 k1 k2 k3 k5 mN,h.get? C=some (excClassObj nm qn C N bs bm hdct sn sub ab col dd k0 k1 k2 k3 k5 "ValueError.__new__")/\h.Ns N mN/\mN "__init__"=none
 tl:OwnTail h Jg bm
def zoP {K:XZ}{h:Heap}{C:Addr}(d:K.In h)(f:WN K C Jg "ValueError.__new__"=true):∃bm,zoO h C bm:=by
 unfold WN at f;split at f
 .rename_i dd cd sl look;split at f
  .rename_i C' bm k0 k1 k2 k3 n k5 em es;simp only[VP,beq_iff_eq,Wu]at f;obtain⟨⟨⟨⟨⟨rfl,rfl⟩,b⟩,e⟩,c⟩,a⟩:=f;obtain⟨p,bs,o,q,r,m,s,sub,j,g,k⟩:=cd;dsimp only at em b c a;subst em b;have i:sl=#[k0,k1,k2,k3,some (.builtin "ValueError.__new__"),k5]:=by
    obtain⟨l⟩:=sl;simp only at es;rw[es]
   subst i;exact⟨bm,(fh q p r bs m s sub j (fh g dd k0 k1 k2 k3 k5 _ (eE (d _ _ look) (.of_isNs (PySem.W.isNs_of_in d c)) (PySem.W.nsMap_none_of_in d c a)))),PySem.W.tail_of_in d e⟩
  .cases f
 .cases f
section
variable {X:Cx}
def zpN (E:XK)(C:Addr)(t:TA):TS:=λ_ c H=>t c H λb a=>b.length<=Xz/\E (.ref C) none a
def zla {x:Str}{C:Addr}{y c pos:Pos}{f:Expr}{b:List Expr}{t:TA}{E:XK}(L:Q3 X E)(O:qO X.K X.mg x C)(p:Gl X x)(o:X.calm=true)(n:PA X (f::b) t)
  (he:W6 (f::b) X.env=(false,eval f X.env)::W6 b X.env:=by rfl) (u:(UB c (W6 b X.env)).any (·.1)=false:=by rfl) (i:(x==("__debug__":Str))=false:=by decide) :
  PS X (.Raise (some (.Call (.Name x y) (f::b) [] c)) none pos) (zpN E C t):=by
 intro k s A H D I h;obtain⟨bm,⟨N,nm,z,bs,hdct,sn,sub,ab,col,dd,k0,k1,k2,k3,k5,mN,l,m,j⟩,T⟩:=zoP I.ok.mod.kin O.q;refine wpAny_Raise_call_subU (C:=C) (nm:=nm) (q:=z) (N:=N) (bs:=bs) (bm:=bm) (hdct:=hdct) (sn:=sn) (sub:=sub) (ab:=ab) (col:=col) (dd:=dd) (k0:=k0) (k1:=k1) (k2:=k2) (k3:=k3) (k5:=k5)
  RL (by decide) RL (mN:=mN) (T.hasType PySem.F.excBase_ValueError.hasBase) (I.ok.hd o) (by rw[he];show (false || (UB c (W6 b X.env)).any (·.1))=false;rw[u];rfl) j (Ze I p O.g ⟨rfl,?_⟩ i)
 have a:=n c k s A H _ I h;rw[he]at a ⊢;refine TY (thn a λM J ⟨Q,B,d,r,w,q⟩=>?_);exact dZ rfl (by rw[<- r.length];exact w) (d.bk _ _ l) (m.keeps d.bk) (T.keeps d.bk) (λG e v=>L.made d v q)
def markX (X:Cx)(e:Addr):Cx:={ X with A:=X.A.mark (some (.ref e)),calm:=false,xe:=λ_ _=>False }
variable {bz:List (Addr×Obj)}{σ:St}{H:Hp}{s:X7}
def Cx.Ok.mark (ok:X.Ok)(e:Addr):(markX X e).Ok :=
 ⟨ok.mod,ok.kind,ok.glob,ok.blt,ok.above,ok.inj,ok.has,ok.cab,(λz=>nomatch z),ok.frames,ok.stk,ok.exf,ok.bs,ok.bsz,ok.noex,ok.exfs,ok.funs,ok.frf⟩
theorem Inv.mark (I:Inv X bz σ H s)(e:Addr):Inv (markX X e) bz σ H s:=⟨I.ok.mark e,I.os,I.bare,I.base,I.loc,I.cell,I.free,I.je,I.pin,I.hok,I.len⟩
def Inv.unmark {e:Addr}(I:Inv (markX X e) bz σ H s)(ok:X.Ok):Inv X bz σ H s:=⟨ok,I.os,I.bare,I.base,I.loc,I.cell,I.free,I.je,I.pin,I.hok,I.len⟩
def zpO (e C:Addr)(h:Heap):Prop:=∃ob a,h.get? e=some ob/\ob.cls=.ref C/\ob.data=.fields a
def exO (e C:Addr):HO:=.ext (zpO e C)
def Inv.nameGoes {M:Pn}{A:WY}{E:X9->X7->Prop}{j:Nat}{n:Str}{pos:Pos}{Q:Unit->X7->Prop}(I:Inv X bz σ H s)(hN:X.N.Nodup)(L:X.N[j]?=some n)(hl:X.env.scope.names.lookup n=some .local)
  (h:∀s',Inv X bz (σ.set j none) H s'->Q () s'):Xu M A (do bindName X.env n .none;unbindBehindTheSuite X.env n pos) Q E s:=by
 obtain⟨m,O,x⟩:=id I.loc;refine wpAny_nameGoes_keeps hl O (by rw[I.ok.kind];rfl) λY v B D=>h _ ?_;have a:∀b o,b≠X.env.locals->s.heap.get? b=some o->Y.get? b=some o:=λb o g q=>(D.2 b g).trans q;refine fR (λoL _ _ aa _=>?_) (id O);have f:∀b o,X.s₀.heap.get? b=some o->b≠X.env.locals:=λb o q=>I.notLoc q;refine⟨I.ok,I.os,I.bare,⟨λb o q n g u=>a b o (f b o q) (I.base.keep b o q n g u),λb o q n g u=>?_,I.base.free,λb o q u=>?_,I.base.tups,I.base.frzs,I.base.tbls⟩,⟨_,B,λi y v' J w U=>?_⟩,λy c q=>?_,I.free,I.je,λp hp=>?_,λb ob q=>?_,by simpa using I.len⟩
 .obtain⟨sl,r⟩:=I.base.slot b o q n g u;exact⟨sl,a b _ (f b o q) r⟩
 .obtain⟨o',r⟩:=I.base.there b o q u;exact⟨o',a b _ (f b o q) r⟩
 .by_cases e:i=j
  .subst e;have l:i < σ.length:=by rw[I.len];exact(X5.mp L).1
   rw[SU l]at w;cases w
  .rw[Sh (U5 e)]at w;obtain⟨u',r',z⟩:=x i y v' J w U;refine⟨u',r',?_⟩;rcases z with ⟨k,q⟩ | ⟨k,c,q,z⟩
   .refine .inl ⟨k,?_⟩;have ny:y≠n:=λq=>e (zck hN J (q ▸ L));simp[ny,q]
   .exact .inr ⟨k,c,q,z.sameBut D (I.cne y c q)⟩
 .obtain⟨G,z⟩:=I.cell y c q;exact⟨G,z.sameBut D (I.cne y c q)⟩
 .refine fX (λq n' T nf d=>?_) (I.pin p hp);exact⟨a p.1 _ T q,n',T,nf,d⟩
 .refine(I.hok b ob q).stay (λc G hc r=>a c G ?_ r) (λ_ r=>r) λ_ _ r=>r;rintro rfl;rcases hc with rfl | hc
  .rw[I.free]at q;cases q
  .rw[I.free]at hc;cases hc
def Fly.caught {l j:Hp}{s1 s':X7}{e C:Addr}{y:X9}{B h:Heap}(I:Inv X bz σ l s1)(F:Fly X.prog X.w X.stack l s1 e C y B j s')(i:Od B X.stack e (.ref C) y h)(up:s'.heap.UpToSlots h) :
  Inv X bz σ (upd j e (exO e C)) { s' with heap:=h }:=by
 have H:∀b o,s1.heap.get? b=some o->b≠e:=λb o q z=>by
  rw[z,F.new]at q;cases q
 have f:∀b u,j b=some u->b≠e:=λb u q=>zg q F.free;have d:∀b o,s1.heap.get? b=some o->l b=none->b∈frs X.stack->∃v,h.get? b=some { o with slots:=v }:=λb o q n a=>by
  obtain⟨_,D,g,J⟩:=I.stack.mem a;rw[q]at g;cases g;obtain⟨v,p⟩:=F.un.slot b o q n a (λz=>nomatch z);obtain⟨x,s⟩:=up b _ p J;exact⟨x,s⟩
 refine I.call' (ch:=[]) F.os ⟨λb o q n a _=>i.1 b o (F.kB b o q n a),λb o q n a _=>d b o q n a,λb o q n _=>?_,λb o q _=>?_,λb G q=>?_,λb o u q=>?_,λb L q=>?_⟩ (λb ob q=>?_) F.bare λb z=>nomatch z
 .rw[zp (H b o q)];exact F.un.free b o q n λz=>nomatch z
 .by_cases a:b∈frs X.stack
  .obtain⟨v,r⟩:=d b o q (I.stkFree b a) a;exact⟨_,r⟩
  .obtain⟨A,r⟩:=F.tB b o q a;exact⟨A,i.1 b A r⟩
 .have r:=F.un.tups b G q;rw[zp (f b _ r)];exact r
 .have r:=F.un.frzs b o u q;rw[zp (f b _ r)];exact r
 .obtain⟨m,r⟩:=F.un.tbls b L q;exact⟨m,by rw[zp (f b _ r)];exact r⟩
 .by_cases a:b=e
  .subst a;rw[zb]at q;cases q;refine fH (λE T g p s _=>?_) i.first;exact⟨⟨E,T,g,p,s⟩,⟨E,g⟩,λg1 g2 ⟨D,Q,M,N,O⟩ k=>⟨D,Q,k _ M,N,O⟩⟩
  .rw[zp a]at q;refine(F.ok b ob q).stay (λc u _ r=>i.1 c u r) (λc r=>?_) λc G r=>?_
   .rw[zp (f c _ r)];exact r
   .rw[zp (f c _ r)];exact r
def znv {M:Pn}{A:WY}{E:X9->X7->Prop}{s:X7}{S e C:Addr}{bm:List X9}{j:Obj}{Q:Bool->X7->Prop}(O:zoO s.heap S bm)(he:s.heap.get? e=some j)(a:j.cls=.ref C)
  (l:PySem.W.Looks M s.heap (isSubtype (.ref C) (.ref S)) true) (o:Q true s):Xu M A (excMatches (.ref e) (.ref S)) Q E s:=by
 obtain⟨⟨N,D,G,bs,i,H,sub,p,k,r,v,w,x,y,z,B,c,u,n⟩,T⟩:=O;have m:=T.hasType PySem.F.excBase_ValueError.hasBase;obtain⟨h,g,d,t,os⟩:=s;have b:(WM S::bm).contains (.type "BaseException")=true:=by rw[List.contains_cons,m,Bool.or_true]
 have f:=tc_notTuple;unfold excMatches;repeat (first | (with_reducible refine VZ he ?_;rw[a]) | with_reducible refine VZ c ?_ | (with_reducible refine wpAny_isSubtype_exc c ?_;rw[b]) | wp_step)
 refine l A _ E _ (λ_ _ q=>q) ?_;rw[bw rfl];exact XR (XR (XR o))
end
structure Y7 (K:XZ)(C:Addr):Prop where
 ga:Vh K (.ref C) "__getattribute__"=some (some (.builtin "BaseException.__getattribute__"))
 gh:Vh K (.ref C) "__getattr__"=some none
 cl:Vh K (.ref C) "__class__"=some (some (.builtin "object.__class__"))
 mb:Vo K C (.type "BaseException")=some true
 mo:Vo K C (.type "object")=some true
 ci:Tp K C=true
section
variable {prog:Xs}{w:Xd}{A:WY}{E:X9->X7->Prop}{K:XZ}{e C:Addr}
def zds {R:Pc->X7->Prop}{h:Heap}{g:Array UA}{d:N2}{t:Nat}{os:Oj}(F:Y7 K C)(b:K.In h){o:Obj}(f:h.get? e=some o)(c:o.cls=.ref C)(i:R (.ok (.ret (.ref C))) ⟨h,g,d,t,os⟩) :
  Um (Xx prog w) A (.call (.builtin "getset_descriptor.__get__") ⟨[.builtin "object.__class__",.ref e,.ref C],[]⟩) R ⟨h,g,d,t,os⟩:=by
 have a:(⟨h,g,d,t,os⟩:X7).TypeIs (.builtin "object.__class__") "getset_descriptor":=T3;have lo:=R9 (M:=Xx prog w) b F.mo;rw[<- PySem.F.owner_object_class]at lo;refine TX PySem.F.slot_gs_get.plain PySem.F.entry_gs_get (PySem.F.slot_gs_get.check _ _ _ _ _ _ _ _ a (PySem.F.args_gs_get _ _ _) ?_);repeat (any_goals (first | assumption | (with_reducible refine VZ f ?_;rw[c]) | wp_step))
 refine lo _ _ _ _ (λ_ _ z=>z) ?_;repeat (any_goals (first | assumption | wp_step))
 refine⟨Code.quiet_builtin _ (by decide+kernel),VS PySem.F.entry_object_class ?_⟩;repeat (any_goals (first | assumption | (with_reducible refine VZ f ?_;rw[c]) | wp_step))
def zbY {tk:Tok}{Q:Fin->X7->Prop}{h:Heap}{g:Array UA}{d:N2}{t:Nat}{os:Oj}(F:Y7 K C)(a:K.In h){o:Obj}(c:h.get? e=some o)(b:o.cls=.ref C)(m:Q (.done (.ret (.ref C))) ⟨h,g,d,t,os⟩) :
  Xu (Xx prog w) A (US.«object.__getattribute__» ⟨[.ref e,.str "__class__" tk],[]⟩) Q E ⟨h,g,d,t,os⟩:=by
 have f:(⟨h,g,d,t,os⟩:X7).TypeIs (.builtin "object.__class__") "getset_descriptor":=T3;have j:=T3;have k:=PySem.F.slot_gs_get.lookup;have l:=PySem.F.slot_gs_set.lookup;have i:=Sf (M:=Xx prog w) a F.cl;repeat (any_goals (first | assumption | (with_reducible refine VZ c ?_;rw[b]) | wp_step))
 refine i _ _ _ _ (λ_ _ z=>z) ?_;repeat (any_goals (first | assumption | (with_reducible refine VZ c ?_;rw[b]) | wp_step))
 refine zds F a c b ?_;repeat (any_goals (first | assumption | wp_step))
def zeX {M:Pn}{a:X9}{Q:Unit->X7->Prop}{h:Heap}{g:Array UA}{d:N2}{t:Nat}{os:Oj}(F:Y7 K C)(b:K.In h){o:Obj}(f:h.get? e=some o)(c:o.cls=.ref C)(m:Q () ⟨h,g,d,t,os⟩) :
  Xu M A (P7 "BaseException.__getattribute__" ⟨[.ref e,a],[]⟩) Q E ⟨h,g,d,t,os⟩:=by
 have i:builtinKind "BaseException.__getattribute__"=some .slot:=by decide+kernel
 have k:splitId "BaseException.__getattribute__"=some ("BaseException","__getattribute__"):=by decide+kernel
 have l:=PySem.F.args_bexc_ga (.ref e) a;have j:=R9 (M:=M) b F.mb;simp only[P7,i,k];refine Y1 ?_;unfold isInstance;repeat (first | (with_reducible refine VZ f ?_;rw[c]) | wp_step)
 refine j _ _ _ _ (λ_ _ z=>z) ?_;repeat (any_goals (first | assumption | wp_step))
def zcx {tk:Tok}{R:Pc->X7->Prop}{h:Heap}{g:Array UA}{d:N2}{t:Nat}{os:Oj}(F:Y7 K C)(a:K.In h){o:Obj}(c:h.get? e=some o)(b:o.cls=.ref C)(f:R (.ok (.ret (.ref C))) ⟨h,g,d,t,os⟩) :
  Um (Xx prog w) A (.call (.builtin "BaseException.__getattribute__") ⟨[.ref e,.str "__class__" tk],[]⟩) R ⟨h,g,d,t,os⟩ :=
 TX PySem.F.attr_ValueError.ga.plain PySem.F.entry_bexc_ga (zeX F a c b (zbY F a c b f))
def zcy {Q:Option X9->X7->Prop}{h:Heap}{g:Array UA}{d:N2}{t:Nat}{os:Oj}(F:Y7 K C)(a:K.In h){o:Obj}(c:h.get? e=some o)(b:o.cls=.ref C)(m:Q (some (.ref C)) ⟨h,g,d,t+1,os⟩) :
  Xu (Xx prog w) A (NV (.ref e) "__class__") Q E ⟨h,g,d,t,os⟩:=by
 have l:=PySem.F.attr_ValueError.ga.bind (.ref e);have f:(Tt "BaseException.__getattribute__" == Tt "object.__getattribute__")=false:=by decide+kernel
 have i:(onTheHeap (WM C)&&Tt "BaseException.__getattribute__" == Tt "object.__getattribute__")=false:=by rw[f];rfl
 have j:=Sf (M:=Xx prog w) a F.ga;have k:=Sf (M:=Xx prog w) a F.gh;unfold NV getAttrBy? getAttrBy;repeat (any_goals (first | assumption | (with_reducible refine VZ c ?_;rw[b]) | wp_step))
 refine j _ _ _ _ (λ_ _ z=>z) ?_;repeat (any_goals (first | assumption | (with_reducible refine VZ c ?_;rw[b]) | wp_step))
 refine k _ _ _ _ (λ_ _ z=>z) ?_;repeat (any_goals (first | assumption | (with_reducible refine VZ c ?_;rw[b]) | wp_step))
 refine zcx F a c b ?_;repeat (any_goals (first | assumption | wp_step))
def zlb (F:Y7 K C):PySem.W.KitX K (.ref e) (.ref C) (zpO e C) where
 ty:=λM h _ p=>by
  obtain⟨ob,vs,q1,q2,_⟩:=p;exact q2 ▸ (PySem.W.Looks.ld q1).andThen .now
 it:=λM h kin _=>by
  have ci:=F.ci;unfold Tp PySem.W.clsIn at ci;split at ci
  .rename_i c1 d1 cd1 sl1 lk;intro A1 Q1 E1 s1 k q;unfold isType loadHead;exact Y1 (wpAny_loadPart (k _ _ (kin _ _ lk)) (XR q))
  .cases ci
 ne:=λh tp dd its n sl kin htp=>by
  refine WX.mpr λq=>?_;have ec:C=tp:=Value.ref.inj (beq_iff_eq.mp q);subst ec;have ci:=F.ci;unfold Tp PySem.W.clsIn at ci;split at ci
  .rename_i c1 d1 cd1 sl1 lk;have z:=(kin _ _ lk).symm.trans htp;cases z
  .cases ci
 ca:=λ{prog w A E Q s} kin p k=>by
  obtain⟨ob,vs,q1,q2,_⟩:=p;obtain⟨h,g,d,t,os⟩:=s;exact zcy F kin q1 q2 k
def zlc:V->X9
 | .ref D=>.ref D
 | .ty n=>.type n
 | _=>.none
def qJ {X:Cx}(g:X.K=K):ju X (.builtin "isinstance") (λxs H Q=>∃e C c b,xs=[.ref e,c]/\H e=some (exO e C)/\Y7 K C/\((∃D,c=.ref D)\/∃n,c=.ty n)/\Xc K (.ref C) (zlc c)=some b/\Q (.bl b) H):=by
 intro m s v H xs o Q I r h;revert h;refine gC λe C c b z0 he F i hk q=>?_;subst z0;obtain⟨u,l,rfl,j,d⟩:=vals2 r;cases j;have p:zpO e C s.heap:=(I.hok e _ he).1;have a:=I.kIn;rw[g]at a;have f:l=zlc c:=by
  rcases i with ⟨D,rfl⟩ | ⟨n,rfl⟩
  .cases d;rfl
  .cases d;rfl
 subst f;exact PySem.W.kia_one (zlb F) a p hk (λz=>nomatch z) λk=>⟨.bl b,H,I.tok k,rfl,q⟩
end
theorem zf7 {α:Type}(a:Array α):∀(n:Nat) (b:Array α),(WZ n a).foldl (·++·) b=b++((WZ n a.toList).flatten).toArray
 | 0,b=>by simp
 | n+1,b=>by
  rw[VN,Wp,zf7 a n,VN,Wn,RS];congr 1;simp
def zrg:R2:=λx y H Q=>∃z k,x=.str z/\y=.int k/\1<=k/\k<=1000/\z.length<=1000/\∀a:Str,a.length=z.length*k.toNat->(∀c∈a.cps.toList,c∈z.cps.toList)->Q (.str a) H
section
variable {X:Cx}
def zhE:OpR X (Uz .Mult) zrg:=by
 intro w s G H x y v u Q I p r h;revert h;refine gb λz k z0 z1 B D o q=>?_;subst z0 z1;obtain⟨t,rfl⟩:=p;obtain⟨E,rfl⟩:=r;have f:z.length*k.toNat<=1000000:=by
  have:=Nat.mul_le_mul o (show k.toNat<=1000 by lia);lia
 refine PySem.P.mul_str ?_ (λ_ _=>?_) (λ_ _=>?_) ?_
 .rw[bf (show ¬ k < -(2^63:Int) by lia),bf (show ¬ k >= 2^63 by lia)];rfl
 .have A:(z.length:Int)*k<=1000000:=by
   have e:((z.length*k.toNat:Nat):Int)=(z.length:Int)*k:=by
    rw[Int.natCast_mul,UD (by lia)]
   lia
  have:=Int.le_ediv_of_mul_le (a:=(z.length:Int)) (b:=2^63-1) (c:=k) (by lia) (by lia);lia
 .exact bf (Nat.not_lt.mpr (X6 f (by decide)))
 .rw[bq (show ¬ k<1 by lia)];by_cases c:(k==1 || z.length==0)=true
  .rw[bw c];refine⟨.str z,H,I,⟨_,rfl⟩,q z ?_ λ_ h=>h⟩;rw[Bool.or_eq_true,beq_iff_eq,beq_iff_eq]at c;rcases c with c | c
   .rw[c];simp
   .rw[c];simp
  .rw[bq c];have e:(⟨(WZ k.toNat z.cps).foldl (·++·) #[]⟩:Str)=⟨((WZ k.toNat z.cps.toList).flatten).toArray⟩:=by
    rw[zf7];simp
   have m:(⟨((WZ k.toNat z.cps.toList).flatten).toArray⟩:Str).length=z.length*k.toNat:=by
    show ((WZ k.toNat z.cps.toList).flatten).toArray.size=_;rw[Xq,len_rep,X4,PF];rfl
   rw[e];refine⟨by rw[m];exact X6 f (by decide),⟨.str _,H,I.tok _,⟨_,rfl⟩,q _ m λd n=>?_⟩⟩;have i:d∈(WZ k.toNat z.cps.toList).flatten:=by simpa using n
   obtain⟨l,j,g⟩:=Wv.mp i;rw[List.eq_of_mem_replicate j]at g;exact g
end
section
variable {X:Cx}{tg iter elt:Expr}{ifs:List Expr}{scope:UN}{pos:Pos}{N:AD}{src:List (Option Nat)}{cl:List (Str×Addr)}{wi:TI}{g:TG}{tc:TT}{te:TE}
def zrh {u:List (Addr×Obj)}{H:St}{D:Ends}{i:Nat}{x:Str}{n:Pos}(hN:X.N.Nodup)(A:X.N[i]?=some x)(l:X.env.scope.names.lookup x=some .local):znq X N scope u H (some (assign (.Name x n) X.env)) (λ_ B=>∃ q r,Inv X u q r B/\D.nx q r) λv r=>xo i v H r D.nx:=by
 intro cl U E H2 C I L f fn xe aa Y k s h qn;refine fJ (λm hm _=>?_) h.loc;have g:E.heap.objs.size<C:=by rw[Y];exact Sy _
 have O:Inv X u H I L:=k.call' (s':=L) (ch:=U) h.os h.base h.hok h.bare λb j=>⟨(s b j).2.2.2.1,(s b j).2.1,(s b j).2.2.2.2.1,(s b j).2.2.2.2.2⟩;have J:∀b o,E.heap.get? b=some o->b≠C:=λb o e=>Xj (TQ (XB e) g);have a:∀y c,X.env.cells.lookup y=some c->c≠C:=λy c e=>by
  obtain⟨_,o,T,_⟩:=k.cell y c e;exact J c o T
 have d:X.env.locals≠C:=Xj (TQ k.lt g);refine wpAny_assign_Name (zdR O hN A (.inl l) (v:=.ref E.heap.objs.size) rfl (λs5 M ⟨Q,G,w⟩=>?_) (.inr l));have na:Q≠C:=w.elim (λz=>by rw[z];exact d) (a _ _);exact⟨m,hm.sameBut G (U5 na),λh' sb=>⟨_,I,M.turned (t':=s5.toks) (it:=C) (λb o j e=>(sb.2 b j).trans e) h.free (U5 d) (.inr (X6 k.sz (TU g))) a λp hp=>J _ _ (k.pin p hp).1,qn⟩⟩
def zld {g:List (Addr×Obj)}{s:X7}{x:Str}{a c:Pos}{D:Ends}(f:Ta (.ListComp elt [⟨tg,iter,ifs,0⟩] scope pos) (some (.Name x a)) c.line X.env=pure true)
  (h:Xu (Xx X.prog X.w) X.A (Ov (.ListComp elt [⟨tg,iter,ifs,0⟩] scope pos) scope X.env (firstIterPos [⟨tg,iter,ifs,0⟩] pos) (newList []) false (eval iter X.env) (some (assign (.Name x a) X.env))) (λ_ d=>∃ b e,Inv X g b e d/\D.nx b e) X.xe s):Xu (Xx X.prog X.w) X.A (exec (.Assign [.Name x a] (.ListComp elt [⟨tg,iter,ifs,0⟩] scope pos) c) X.env) (SP X g D) X.xe s:=by
 rw[exec_Assign_Name_used _ _ _ _ f];refine Y1 (So (Y1 ?_));unfold evalThenUse;exact Y1 (WA h (λ_ d ⟨b,e,i,j⟩=>XR (XR ⟨b,e,i,j⟩)) λ_ _ z=>z)
def znw {i:Nat}{x:Str}{b a:Pos}(k:X.N.Nodup)(e:X.N[i]?=some x)(f:X.env.scope.names.lookup x=some .local)(ok:yk X N src scope cl)(c:X.calm=true)(n:PI X tg iter wi)
  (m:∀C fp d s H,PG (qA X N scope cl C fp d s H) tg g) (l:∀C fp d s H,za9 (qA X N scope cl C fp d s H) ifs tc) (he:∀C fp d s H,PE (qA X N scope cl C fp d s H) elt te)
  (o:∀x,We iter X.env x=pure x:=by intro _;rfl) (j:Ta (.ListComp elt [⟨tg,iter,ifs,0⟩] scope pos) (some (.Name x b)) a.line X.env=pure true:=by rfl) :
  PS X (.Assign [.Name x b] (.ListComp elt [⟨tg,iter,ifs,0⟩] scope pos) a) (zjI (zar wi src g tc te) (xo i)):=λ_ _ _ _ _ I h=>zld j (zf0 ok c n m l he o I h (zrh k e f))
end
def yk.byRfl {X:Cx}{N:AD}{src:List (Option Nat)}{a:UN}(g:a.kind=.function)(b:∀y∈a.names,y.2 ≠ .cell)(d:∀y∈a.names,y.2=.local->a.names.lookup y.1=some .local)
  (k:(a.names.all λy=>y.2 != .free || (X.env.cells.lookup y.1).isSome)=true) (len:src.length=N.length)
  (m:((N.zip src).all λq=>match q.2 with | none=>true | some j=>X.N[j]?==some q.1&&X.env.kindOf q.1==some .cell&&(UF a X.env).names.lookup q.1==some .cell)=true):yk X N src a (zas (λx=>X.env.cells.lookup x) a.names []):=by
 have f:∀y∈a.names,y.2=.free->(X.env.cells.lookup y.1).isSome=true:=λy l e=>by
  have z:=Ut.mp k y l;rw[e]at z;simpa using z
 refine⟨g,b,d,YM f,λx c h=>?_,λx h=>?_,len,λi j x h1 h2=>?_⟩
 .rcases Y6 _ _ _ (WE h) with z | z
  .cases z
  .exact z
 .refine V1.mp (zf3 _ _ (.inr ?_));have hm:(x,Tu)∈a.names\/(x,NameKind.free)∈a.names:=by
   rcases h with h | h
   .exact Zh (WE h) (.inl rfl)
   .exact Zh (WE h) (.inr rfl)
  rcases hm with hm | hm
  .exact absurd rfl (b _ hm)
  .exact⟨hm,f _ hm rfl⟩
 .have hm:(x,some j)∈N.zip src:=X8 (i:=i) (by rw[RJ];exact⟨h1,h2⟩);have z:=Ut.mp m _ hm;simp only[VP,beq_iff_eq]at z;exact⟨z.1.1,.inl z.1.2,.inl z.2⟩
structure xQ (X:Cx)(N:AD)(src:List (Option Nat))(scope:UN)(cl:List (Str×Addr))(y:Str):Prop where
 kind:scope.kind=.function
 one:∀n acc,SA n scope.names acc=(y,n)::acc
 push:∀h,N6 h scope.names=h.push { cls:=.type "cell",data:=.cell none }
 names:∀y∈scope.names,y.2=.local->scope.names.lookup y.1=some .local
 clos:Oo scope X.env=pure cl
 sub:∀x c,cl.lookup x=some c->X.env.cells.lookup x=some c
 has:∀x,((UF scope X.env).names.lookup x=some .cell\/(UF scope X.env).names.lookup x=some .free)->x=y\/∃c,cl.lookup x=some c
 len:src.length=N.length
 pulls:∀(i j:Nat) (x:Str),N[i]?=some x->src[i]?=some (some j)->X.N[j]?=some x/\(X.env.kindOf x=some .cell\/X.env.kindOf x=some .free)/\((UF scope X.env).names.lookup x=some .cell\/(UF scope X.env).names.lookup x=some .free)
 pny:∀(i j:Nat) (x:Str),N[i]?=some x->src[i]?=some (some j)->x≠y
def xQ.has1 {X:Cx}{N:AD}{src:List (Option Nat)}{a:UN}{b:List (Str×Addr)}{y:Str}{C:Addr}(ok:xQ X N src a b y)(x:Str)(h:(UF a X.env).names.lookup x=some .cell\/(UF a X.env).names.lookup x=some .free):∃c,Rw x ((y,C)::b)=some c:=by
 rw[Sz];cases q:x==y with
 | true=>exact⟨_,rfl⟩
 | false =>
  rcases ok.has x h with z | z
  .rw[z]at q;simp at q
  .exact z
def xQ.byRfl {X:Cx}{N:AD}{src:List (Option Nat)}{a:UN}{y:Str}(g:a.kind=.function)(one:∀n d,SA n a.names d=(y,n)::d)(k:∀h,N6 h a.names=h.push { cls:=.type "cell",data:=.cell none })
  (only:∀z∈a.names,z.2=.cell->z.1=y) (b:∀y∈a.names,y.2=.local->a.names.lookup y.1=some .local)
  (m:(a.names.all λy=>y.2 != .free || (X.env.cells.lookup y.1).isSome)=true) (len:src.length=N.length)
  (p:((N.zip src).all λq=>match q.2 with | none=>true | some j=>X.N[j]?==some q.1&&X.env.kindOf q.1==some .cell&&(UF a X.env).names.lookup q.1==some .cell&&q.1 != y)=true):xQ X N src a (zas (λx=>X.env.cells.lookup x) a.names []) y:=by
 have f:∀y∈a.names,y.2=.free->(X.env.cells.lookup y.1).isSome=true:=λy o e=>by
  have z:=Ut.mp m y o;rw[e]at z;simpa using z
 have l:∀(i j:Nat) (x:Str),N[i]?=some x->src[i]?=some (some j)->(X.N[j]?=some x/\X.env.kindOf x=some .cell/\(UF a X.env).names.lookup x=some .cell)/\x≠y:=λi j x h1 h2=>by
  have hm:(x,some j)∈N.zip src:=X8 (i:=i) (by rw[RJ];exact⟨h1,h2⟩);have z:=Ut.mp p _ hm;simp only[VP,beq_iff_eq,bne_iff_ne]at z;exact⟨⟨z.1.1.1,z.1.1.2,z.1.2⟩,z.2⟩
 refine⟨g,one,k,b,YM f,λx c h=>?_,λx h=>?_,len,λi j x h1 h2=>⟨(l i j x h1 h2).1.1,.inl (l i j x h1 h2).1.2.1,.inl (l i j x h1 h2).1.2.2⟩,λi j x h1 h2=>(l i j x h1 h2).2⟩
 .rcases Y6 _ _ _ (WE h) with z | z
  .cases z
  .exact z
 .have hm:(x,Tu)∈a.names\/(x,NameKind.free)∈a.names:=by
   rcases h with h | h
   .exact Zh (WE h) (.inl rfl)
   .exact Zh (WE h) (.inr rfl)
  rcases hm with hm | hm
  .exact .inl (only _ hm rfl)
  .exact .inr (V1.mp (zf3 _ _ (.inr ⟨hm,f _ hm rfl⟩)))
def yY (X:Cx)(N:AD)(a:UN)(c:List (Str×Addr))(y:Str)(C:Addr)(fp:List Addr)(b:List (Addr×Obj))(s:X7)(H:Hp):Cx :=
 { qA X N a ((y,C+1)::c) C fp b s H with fn:=λx=>decide (x=y) }
def znx {M:Pn}{A:WY}{E:X9->X7->Prop}{s:X7}{a:UN}{b:Addr}{j:List (Str×Addr)}{c:Str}{e:Env}{y:Str}{Q:Env->X7->Prop}(one:∀n d,SA n a.names d=(y,n)::d)(g:∀h,N6 h a.names=h.push { cls:=.type "cell",data:=.cell none })
  (l:Q (newEnv a s.heap.objs.size b ((y,s.heap.objs.size+1)::j) c none .none (some e) RY) { s with heap:=(s.heap.push { cls:=.type "dict",data:=.dict #[] }).push { cls:=.type "cell",data:=.cell none } }) :
  Xu M A (newFunctionEnv a b j [] c none .none (some e)) Q E s:=by
 simp only[newFunctionEnv,Option.isSome_some,if_true];refine Y1 (wpAny_alloc ?_);refine Y1 (wpAny_layCells _ (λk f i=>by cases hkc:f==Tu<;>simp[hkc]) _ _ _ _ ?_);rw[g,one,show ({ s with heap:=s.heap.push { cls:=.type "dict",data:=.dict #[] } }:X7).heap.objs.size=s.heap.objs.size+1 from Vg ..];exact Y1 (XR (XR l))
section
variable {X:Cx}{tg iter elt:Expr}{ifs:List Expr}{scope:UN}{pos:Pos}{N:AD}{src:List (Option Nat)}{cl:List (Str×Addr)}{wi:TI}{g:TG}{tc:TT}{te:TE}{y:Str}
def zf8 {B:List (Addr×Obj)}{L:St}{H:Hp}{s:X7}{fp:List Addr}{h1:Heap}{C:Addr}{tk:Nat}(ok:xQ X N src scope cl y)(I:Inv X B L H s)(O:∀b∈fp,YU X B H b)(ho:∀b∈fp,∃o,s.heap.get? b=some o)
  (D:C=s.heap.objs.size+1) (k:∀b u,s.heap.get? b=some u->h1.get? b=some u) (hD:h1.get? s.heap.objs.size=some { cls:=.type "list",data:=.seq #[] }) {m:Str->Option X9} (hn:h1.Ns C m) (Y:h1.IsCell (C+1) none) :
  Inv (yY X N scope cl y C fp B s H) [] (pull src L) (upd H s.heap.objs.size (.lst [])) { s with heap:=h1,toks:=tk }:=by
 have lt:∀b o,s.heap.get? b=some o->b<s.heap.objs.size:=λb o e=>XB e;have nC:∀b o,s.heap.get? b=some o->b≠C:=λb o e=>by rw[D];exact Xj (WI (lt b o e))
 have nD:∀b o,s.heap.get? b=some o->b≠s.heap.objs.size:=λb o e=>Xj (lt b o e);have U:∀b,s.heap.objs.size<=b->H b=none:=λb h=>I.hok.fresh h;have J:∀b,b≠X.env.locals->b ∉ X.fs->b ∉ frs X.stack:=λb h1 h2 z=>(XI.mp (I.stkSub b z)).elim h1 h2;have G:∀b o,s.heap.get? b=some o->b≠C+1:=λb o e=>by rw[D];exact Xj (WI (WI (lt b o e)))
 have own:∀x c,Rw x ((y,C+1)::cl)=some c->(x=y/\c=C+1)\/(x≠y/\X.env.cells.lookup x=some c):=λx c e=>by
  rw[Sz]at e;cases q:x==y with
  | true =>
   rw[q]at e;exact .inl ⟨by simpa using q,(Option.some.inj e).symm⟩
  | false =>
   rw[q]at e;exact .inr ⟨by simpa using q,ok.sub x c e⟩
 have n:∀x c,X.env.cells.lookup x=some c->c≠C+1:=λx c e=>by
  obtain⟨_,o,f,_⟩:=I.cell x c e;exact G c o f
 refine⟨⟨I.ok.mod,ok.kind,I.ok.glob,I.ok.blt,by rw[show (yY X N scope cl y C fp B s H).env.locals=C from rfl,D];exact Wb _,?inj,ok.has1,?cab,I.ok.hd,I.ok.frames,.inl rfl,λb h=>?_,I.bs,X6 I.ok.bsz I.sz,λb o e h=>?_,λb h hz=>?_,I.stack,I.stkFree⟩,rfl,I.bare,Un.laid k (XW _) (U _ (XW _)),⟨m,hn,λi x v f d e3=>?_⟩,λx c e=>?_,?_,λx c e=>?_,λp hp=>?_,I.hok.laid k (XW _) ⟨W3 _,[],0,.nil,hD⟩,?_⟩
 case inj =>
  intro x Q c f d
  rcases own x c f with ⟨w,a⟩ | ⟨w,a⟩
  .rcases own Q c d with ⟨M,A⟩ | ⟨M,A⟩
   .rw[w,M]
   .exact absurd a (n Q c A)
  .rcases own Q c d with ⟨M,A⟩ | ⟨M,A⟩
   .exact absurd A (n x c a)
   .exact I.ok.inj x Q c a A
 case cab =>
  intro x c z e
  have zy:x=y:=bg z
  rcases own x c e with ⟨_,a⟩ | ⟨w,_⟩
  .rw[a,D];exact T6 (Wb _)
  .exact absurd zy w
 .obtain⟨o,e⟩:=ho b h;refine⟨nC b o e,λx c z=>?_⟩;rcases own x c z with ⟨_,a⟩ | ⟨_,a⟩
  .rw[a];exact U5 (G b o e)
  .exact(O b h).2.2.2.2.1 x c a
 .rcases(O b h).2.2.2.1 with z | z
  .exact I.ok.noex b o e z
  .exact absurd (Xn (XB (I.ok.bs b o e).1) z) (VU _)
 .exact J b (O b h).2.1 (O b h).2.2.1 hz
 .have hi:i<src.length:=by
   have:=(X5.mp d).1;unfold pull at this;rw[ZB]at this;exact this
  unfold pull at d;rw[Xv,X0 hi]at d;cases q:src[i] with
  | none=>rw[q]at d;cases d
  | some j =>
   rw[q]at d;have g:(L[j]?).getD none=some v:=Option.some.inj d;have T:L[j]?=some (some v):=by
    cases z:L[j]? with
    | none=>rw[z]at g;cases g
    | some o=>rw[z]at g;exact congrArg some g
   obtain⟨p1,p2,p3⟩:=ok.pulls i j x f (by rw[X0 hi,q]);obtain⟨m',ae,hl⟩:=I.loc;obtain⟨u,r,l⟩:=hl j x v p1 T (by
    rcases p2 with z | z
    .exact .inr (.inl z)
    .exact .inr (.inr z))
   refine⟨u,r,.inr ⟨p3,?_⟩⟩;obtain⟨c,hc⟩:=ok.has1 x p3;refine⟨c,hc,?_⟩;rcases l with ⟨z,_⟩ | ⟨_,c',E,o,ab,aa⟩
   .rcases p2 with y | y<;>rw[z]at y<;>cases y
   .rcases own x c hc with ⟨w,_⟩ | ⟨_,a⟩
    .exact absurd w (ok.pny i j x f (by rw[X0 hi,q]))
    .rw[a]at E;cases E;exact⟨o,k _ o ab,aa⟩
 .rcases own x c e with ⟨_,a⟩ | ⟨_,a⟩
  .rw[a];exact⟨_,Y⟩
  .obtain⟨v,o,f,d⟩:=I.cell x c a;exact⟨v,o,k c o f,d⟩
 .show upd H s.heap.objs.size (.lst []) C=none;rw[D,zp (Vr _)];exact U _ (Wb _)
 .show upd H s.heap.objs.size (.lst []) c=none;rcases own x c e with ⟨_,a⟩ | ⟨_,a⟩
  .rw[a,D,zp (Uk (WI (Sy _)))];exact U _ (T6 (Wb _))
  .obtain⟨v,o,f,d⟩:=I.cell x c a;rw[zp (nD c o f)];exact I.je x c a
 .have ac:p∈X.pn++B:=by
   have:p∈(X.pn++B)++[]:=hp;simpa using this
  refine fX (λf d e3 T e5=>?_) (I.pin p ac);refine e9 (k _ _ f) ?_ (nC _ _ f) (J _ e3 T) e5;show upd H s.heap.objs.size (.lst []) p.1=none;rw[zp (nD _ _ f)];exact d
 .unfold pull;rw[ZB];exact ok.len
section
variable {bz:List (Addr×Obj)}{σ:St}{H:Hp}{s:X7}{use:Option (X9->Sem Unit)}{R:X9->X7->Prop}{Q:VK}{p2:Pos}
def zjV (ok:xQ X N src scope cl y)(a:X.calm=true)(r:PI X tg iter wi)
  (p:∀C fp bz s H,PG (yY X N scope cl y C fp bz s H) tg g) (o:∀C fp bz s H,za9 (yY X N scope cl y C fp bz s H) ifs tc) (he:∀C fp bz s H,PE (yY X N scope cl y C fp bz s H) elt te)
  (B:∀x,We iter X.env x=pure x) (I:Inv X bz σ H s) (h:zar wi src g tc te σ H Q) (i:znq X N scope bz σ use R Q):Xu (Xx X.prog X.w) X.A (Ov (.ListComp elt [⟨tg,iter,ifs,0⟩] scope pos) scope X.env p2 (newList []) false (eval iter X.env) use) R X.xe s:=by
 refine Tr (use:=use) rfl B ok.clos ok.kind ok.names (thn (r bz s σ H _ I h) λU s1 h1=>thn h1 λD k h2=>?_);revert h2;refine gp λM fp O J L e d T l f E=>?_;subst e;refine VM (znx ok.one ok.push ?_);generalize hP:k.heap.push { cls:=.type "list",dict:=none,data:=.seq ([]:List X9).toArray }=P2;have j:P2.objs.size=k.heap.objs.size+1:=by rw[<- hP,Vg]
 have m:(P2.push { cls:=.type "dict",data:=.dict #[] }).objs.size=P2.objs.size+1:=Vg ..;refine zfZ j a (λz=>z.elim) (p _ _ _ _ _) (o _ _ _ _ _) (he _ _ _ _ _) d T l f (E _ (d.hok.fresh (XW _))) (λb u e=>?_) (λx c z=>?_) (λv=>zf8 (tk:=k.toks) ok d f v j (λb u e=>?_) ?_ ((Heap.Ns.new P2 _).push _) ?_) λ_ _ _ _ n G=>i j d f n G
 .exact XY _ (XY _ (hP ▸ XY _ e))
 .show _\/P2.objs.size<=c;have z:Rw x ((y,P2.objs.size+1)::cl)=some c:=z;rw[Sz]at z;cases q:x==y with
  | true =>
   rw[q]at z;rw[<- Option.some.inj z];exact .inr (Wb _)
  | false =>
   rw[q]at z;exact .inl (ok.sub x c z)
 .exact XY _ (XY _ (hP ▸ XY _ e))
 .exact XY _ (XY _ (hP ▸ Xg _ rfl))
 .rw[<- m];exact⟨_,Xg _ rfl,rfl⟩
end
def zlf (ok:xQ X N src scope cl y)(a:X.calm=true)(e:PI X tg iter wi)
  (d:∀C fp b s H,PG (yY X N scope cl y C fp b s H) tg g) (c:∀C fp b s H,za9 (yY X N scope cl y C fp b s H) ifs tc) (he:∀C fp b s H,PE (yY X N scope cl y C fp b s H) elt te)
  (f:∀x,We iter X.env x=pure x:=by intro _;rfl):PE X (.ListComp elt [⟨tg,iter,ifs,0⟩] scope pos) (zar wi src g tc te):=λ_ _ _ _ _ I h=>zjV ok a e d c he f I h zoN
end
section
variable {X:Cx}{K:XZ}
def zd1 (a:X.K=K)(b:X.calm=true):ju X (.builtin "any") (λxs H Q=>∃(l:Addr) (bs:List Bool),xs=[.ref l]/\SqL K H l (bs.map V.bl)/\Q (.bl (bs.any id)) H):=by
 subst a;exact zcw b
def zf9 {d l:Expr}{a:TE}(b:X.K=K)(c:PE X l a):PI X d l (zoH K a):=by
 subst b;exact zJ c
end
theorem zd2:∀{b:AD} {a:List X9},Vals (b.map V.str) a->StrsAre a b
 | [],_,.nil=>.nil
 | t::_,_,.cons ⟨k,e⟩ h=>by
  subst e;exact .cons t k (zd2 h)
section
variable {X:Cx}
def rJoin (K:XZ):V->AE->Hp->VK->Prop:=λx b H Q=>∃(z:Str) (l:Addr) (a:AD),x=.str z/\b=[.ref l]/\SqL K H l (a.map V.str)/\(a.map (·.length)).sum+a.length*z.length<=16777216/\Q (.str (Ue z a)) H
def zny:MtR X "str.join" (rJoin X.K):=by
 intro j s y H x w v o Q I g f h;revert h;refine fV λz l a z0 z1 d b q=>?_;subst z0 z1;obtain⟨n,rfl⟩:=g;obtain⟨u,rfl,r⟩:=f.one;cases r;obtain⟨e,c,p,m⟩:=I.list d;refine join_list (ys:=a) p.isList (by simpa using zd2 c) b λi k=>⟨.str (Ue z a),H,I.tok k,⟨i,?_⟩,q⟩;rw[show Txt.join z a=Ue z a from StrLaws.glued_eq_join z a]
end
def zhF {α:Type}(d:α)(xs:List α):((Va xs.length).map λi=>xs.getD i d)=xs:=by
 refine List.ext_getElem (by simp) λi h1 h2=>?_;simp[h2]
def ziO (p:Int×Int):lt2 p p=false:=by
 unfold lt2;rw[bw rfl,bf (by lia)]
def zb8 {p q:Int×Int}(h:p≠q):lt2 q p=!lt2 p q:=by
 unfold lt2;obtain⟨a,b⟩:=p;obtain⟨c,d⟩:=q;simp only;by_cases e:a=c
 .subst e;rw[bw rfl,bw rfl];have f:b≠d:=λz=>h (by rw[z]);by_cases l:b<d
  .rw[br l,bf (by lia)];rfl
  .rw[bf l,br (by lia)];rfl
 .rw[bq e,bq (λz=>e z.symm)];by_cases l:a<c
  .rw[br l,bf (by lia)];rfl
  .rw[bf l,br (by lia)];rfl
def zhG {p q r:Int×Int}(h1:lt2 p q=true)(h2:lt2 q r=true):lt2 p r=true:=by
 unfold lt2 at *
 obtain⟨a,b⟩:=p;obtain⟨c,d⟩:=q;obtain⟨e,f⟩:=r;simp only at *
 by_cases h:a=c
 .subst h;rw[bw rfl,bu]at h1;by_cases g:a=e
  .subst g;rw[bw rfl,bu]at h2 ⊢;lia
  .rw[bq g]at h2 ⊢;exact h2
 .rw[bq h,bu]at h1;by_cases g:c=e
  .subst g;rw[bq h,bu];exact h1
  .rw[bq g,bu]at h2;rw[bq (by lia),bu];lia
def Up2 (ps:List (Int×Int)):Prop:=ps.Pairwise λp q=>lt2 p q=true
end L2
namespace PySem.SeqAt
open L2 AutoSeq1 MeetsSeq MeetsSeq2 MeetsSeq3
def Q4 (A:WY)(s:X7)(y x:X9)(b:Bool):Prop:=∀(a:Xs) (w:Xd) (E:X9->X7->Prop) (Q:X9->X7->Prop),Q (.bool b) s->Xu (Xx a w) A (richCompare .Lt y x) Q E s
def Q4.int_int {A:WY}{s:X7}(a:Int)(t:Tok)(b:Int)(u:Tok):Q4 A s (.int a t) (.int b u) (decide (a<b)):=λc w E Q h=>wpAny_lt_int h
def zhH (l b:Addr)(x y f c:Int)(t u k m:Tok)(n v:Nat)(dd g:Option Addr)(B j:Array (Option X9)) :
  Meets (US.«tuple.__lt__» ⟨[.ref l,.ref b],[]⟩)
   (λ_ R s=>s.heap.get? l=some { cls:=.type "tuple",dict:=dd,data:=.seq #[.int x t,.int y u] n,slots:=B }/\s.heap.get? b=some { cls:=.type "tuple",dict:=g,data:=.seq #[.int f k,.int c m] v,slots:=j } /\
    R (.ok (.ret (.bool (lt2 (x,y) (f,c))))) s) :=
 .of_wp λa w A R s h=>by
  obtain⟨r,g1,E,D,z⟩:=s;obtain⟨q,p,h⟩:=h;have G:=sub_tuple_tuple;wp_walk using Wg q,Wg p;refine EqAt.int_int x t f k a w _ _ ?_;unfold lt2 at h;by_cases e:x=f
  .have i:(x==f)=true:=by simpa using e
   rw[i];rw[bw e]at h;wp_walk;refine EqAt.int_int y u c m a w _ _ ?_;by_cases o:y=c
   .have d:(y==c)=true:=by simpa using o
    rw[d];rw[bf (by show ¬ y<c;lia)]at h;wp_walk;exact⟨_,rfl,h⟩
   .have d:(y==c)=false:=by simpa using o
    rw[d];simp only[Bool.not_false,if_true];refine Y1 (UY (Y1 (Q4.int_int y u c m a w _ _ ?_)));wp_walk;exact⟨_,rfl,h⟩
  .have i:(x==f)=false:=by simpa using e
   rw[i];rw[bq e]at h;simp only[Bool.not_false,if_true];refine Y1 (UY (Y1 (Q4.int_int x t f k a w _ _ ?_)));wp_walk;exact⟨_,rfl,h⟩
def Q4.pairs {A:WY}{s:X7}{v o:X9}{p q:Int×Int}(D:zD s.heap v p)(f:zD s.heap o q)(B:A.units<VL):Q4 A s v o (lt2 p q):=λm w E Q h=>by
 obtain⟨a,⟨y,z,k,H⟩,n,t,u,rfl,l,c1,j⟩:=D;obtain⟨r,⟨i,e,data2,g⟩,G,I,J,rfl,d,b,c⟩:=f;simp only at c1 j b c;subst c1 j b c;exact richCompare_meets_room (op:=.Lt) ⟨_,l,rfl⟩ ⟨_,d,rfl⟩ F.slot_tuple_lt F.entry_tuple_lt (F.args_tuple_lt_2 _ _) (zhH a r p.1 p.2 q.1 q.2 t u I J n G z e H g)
  ⟨l,d,show Value.bool (lt2 p q)≠Value.notImplemented/\Q (.bool (lt2 p q)) s from ⟨(λx=>nomatch x),h⟩⟩ B
def QK {h:Heap}{v:X9}{p:Int×Int}(d:zD h v p):∃as,Reads h v (.tuple [.int p.1,.int p.2]) as:=by
 obtain⟨a,o,n,t,u,rfl,c,c1,b⟩:=d;exact⟨_,.tuple c c1 b (.cons (.int _ _) (.cons (.int _ _) .nil))⟩
def zd3 (p q:Int×Int):W1 (.tuple [.int p.1,.int p.2]) (.tuple [.int q.1,.int q.2])=decide (p=q):=by
 obtain⟨a,b⟩:=p;obtain⟨c,d⟩:=q;show ((a==c)&&((b==d)&&true))=_;by_cases h1:a=c
 .by_cases h2:b=d
  .subst h1 h2;simp
  .simp[h2]
 .simp[h1]
end PySem.SeqAt
namespace L2
open PySem PySem.Spec PyProof.Rows PySem.W PySem.SeqAt
open PySem PySem.Spec PyProof.Rows
section
variable {κ:Type} [DecidableEq κ]
def qK (a:List (κ × V))(k:κ):Option V:=(a.find? λb=>decide (b.1=k)).map (·.2)
def putK (a:List (κ × V))(k:κ)(v:V):List (κ × V) :=
 if (a.any λb=>decide (b.1=k))=true then a.map (λb=>if b.1=k then (b.1,v) else b) else a++[(k,v)]
def jK {p:κ × V}{r:List (κ × V)}{k:κ}(e:p.1=k):qK (p::r) k=some p.2:=by simp[qK,Ud,e]
def jL {p:κ × V}{r:List (κ × V)}{k:κ}(e:¬ p.1=k):qK (p::r) k=qK r k:=by simp[qK,Ud,e]
theorem zat (k:κ):∀a:List (κ × V),(a.any λb=>decide (b.1=k))=(qK a k).isSome
 | []=>rfl
 | p::r=>by
  rw[Sq];by_cases e:p.1=k
  .simp only[jK e,br e,Bool.true_or,Option.isSome_some]
  .rw[jL e,bf e,Bool.false_or];exact zat k r
theorem zga (k j:κ)(y:V):∀a:List (κ × V),qK (a.map λb=>if b.1=k then (b.1,y) else b) j=(qK a j).map λx=>if j=k then y else x
 | []=>rfl
 | p::r=>by
  have c:=zga k j y r;rw[Xw];by_cases h:p.1=k
  .rw[bw h];by_cases e:p.1=j
   .rw[jK (p:=(p.1,y)) e,jK e,UP,bw (e.symm.trans h)]
   .rw[jL (p:=(p.1,y)) e,jL e,c]
  .rw[bq h];by_cases e:p.1=j
   .rw[jK (p:=p) e,jK e,UP,bq (λz=>h (e.trans z))]
   .rw[jL (p:=p) e,jL e,c]
theorem zd4 (k j:κ)(y:V):∀a:List (κ × V),qK a k=none->qK (a++[(k,y)]) j=if j=k then some y else qK a j
 | [],_=>by
  by_cases e:k=j
  .rw[bw e.symm];exact jK (p:=(k,y)) e
  .rw[bq (λz=>e z.symm)];exact jL (p:=(k,y)) e
 | p::r,b=>by
  rw[P6];have hk:¬ p.1=k:=λz=>by rw[jK z]at b;cases b
  rw[jL hk]at b;have c:=zd4 k j y r b;by_cases e:p.1=j
  .rw[jK e,jK e,bq (λz=>hk (e.trans z))]
  .rw[jL e,jL e,c]
def yZ (b:List (κ × V))(k j:κ)(y:V):qK (putK b k y) j=if j=k then some y else qK b j:=by
 unfold putK;by_cases a:(b.any λd=>decide (d.1=k))=true
 .rw[bw a,zga];rw[zat]at a;by_cases e:j=k
  .obtain⟨x,c⟩:=V1.mp a;rw[bw e,e,c,UP,bw rfl]
  .rw[bq e];cases qK b j with
   | none=>rfl
   | some x=>rw[UP,bq e]
 .rw[bq a];refine zd4 k j y b ?_;rw[zat]at a;cases q:qK b k with
  | none=>rfl
  | some x=>rw[q]at a;exact(a rfl).elim
def x6 (a:List (κ × V))(k:κ)(v:V):(putK a k v).length<=a.length+1:=by
 unfold putK;split
 .rw[ZB];lia
 .rw[XX,Xi,UO];lia
def zbV.isSome_eq {o:Option V}{u:Option X9}(r:zbV o u):o.isSome=u.isSome:=by
 cases o with
 | none=>cases u with
  | none=>rfl
  | some _=>exact(show False from r).elim
 | some _=>cases u with
  | none=>exact(show False from r).elim
  | some _=>rfl
theorem zbV.getD {o:Option V}{u:Option X9}{d:V}{d':X9}(r:zbV o u)(a:RelV d d'):RelV (o.getD d) (u.getD d'):=by
 cases o with
 | none=>cases u with
  | none=>exact a
  | some _=>exact(show False from r).elim
 | some _=>cases u with
  | none=>exact(show False from r).elim
  | some _=>exact r
def KV.val {a:List (κ × V)}{vs:List (κ × X9)}(r:KV a vs)(k:κ):zbV (qK a k) (OK vs k):=by
 unfold KV at r;induction r with
 | nil=>exact PK
 | @cons p q g d h t f =>
  obtain⟨h1,h2⟩:=h;by_cases e:p.1=k
  .have c:q.1=k:=h1.symm.trans e;have b:OK (q::d) k=some q.2:=by simp[OK,Ud,c]
   rw[jK e,b];exact h2
  .have c:¬ q.1=k:=λz=>e (h1.trans z);have b:OK (q::d) k=OK d k:=by simp[OK,Ud,c]
   rw[jL e,b];exact f
theorem KV.any {a:List (κ × V)}{vs:List (κ × X9)}(r:KV a vs)(k:κ):(a.any λb=>decide (b.1=k))=vs.any λb=>decide (b.1=k):=by
 unfold KV at r;induction r with
 | nil=>rfl
 | cons h t c=>rw[Sq,Sq,c,h.1]
def KV.repl {b:List (κ × V)}{vs:List (κ × X9)}(r:KV b vs)(k:κ){y:V}{u:X9}(d:RelV y u) :
  KV (b.map λa=>if a.1=k then (a.1,y) else a) (vs.map λa=>if a.1=k then (a.1,u) else a):=by
 unfold KV at r ⊢;induction r with
 | nil=>exact .nil
 | @cons p q f g h t c =>
  rw[Xw,Xw];refine .cons ?_ c;obtain⟨h1,h2⟩:=h;by_cases e:p.1=k
  .rw[bw e,bw (h1.symm.trans e)];exact⟨h1,d⟩
  .rw[bq e,bq (λz=>e (h1.trans z))];exact⟨h1,h2⟩
def KV.put {a:List (κ × V)}{vs:List (κ × X9)}(r:KV a vs)(k:κ){y:V}{u:X9}(b:RelV y u):KV (putK a k y) (stored vs k u):=by
 unfold putK stored;rw[r.any k];by_cases e:(vs.any λc=>decide (c.1=k))=true
 .rw[bw e,bw e];exact r.repl k b
 .rw[bq e,bq e];exact Paired.snoc r ⟨rfl,b⟩
theorem KV.length {a:List (κ × V)}{vs:List (κ × X9)}(r:KV a vs):a.length=vs.length:=Paired.length r
end
def zgb {P:Xs}{w:Xd}{k:Key}{u:X9}(r:RelV (kV k) u):(zY P w).is k u=true:=by
 cases k with
 | inl i=>obtain⟨t,e⟩:=(show ∃t,u=Vs i t from r);subst e;exact zfQ P w i t
 | inr x=>obtain⟨t,e⟩:=(show ∃t,u=Value.str x t from r);subst e;exact zfR P w x t
theorem zd5 {P:Xs}{w:Xd}:∀{ks:List Key} {a:List X9},Vals (ks.map kV) a->ItemsAre (zY P w) ks a
 | [],_,r=>by rw[Oe]at r;cases r;exact .nil
 | k::ks,_,r=>by
  rw[Xw]at r;cases r with
  | cons h t=>exact .cons (zgb h) (zd5 t)
abbrev KT (H:Hp):List (List Key×V)->List (List Key×Addr×X9)->Prop:=Xa λp q=>p.1=q.1/\H q.2.1=some (.tup (p.1.map kV))/\RelV p.2 q.2.2
def KT.val {H:Hp}{a:List (List Key×V)}{xs:List (List Key×Addr×X9)}(r:KT H a xs)(k:List Key):zbV (qK a k) ((Oy xs k).map (·.2)):=by
 induction r with
 | nil=>exact PK
 | @cons p q g d h t f =>
  obtain⟨h1,_,h2⟩:=h;by_cases e:p.1=k
  .have c:q.1=k:=h1.symm.trans e;have b:Oy (q::d) k=some q.2:=by simp[Oy,Ud,c]
   rw[jK e,b];exact h2
  .have c:¬ q.1=k:=λz=>e (h1.trans z);have b:Oy (q::d) k=Oy d k:=by simp[Oy,Ud,c]
   rw[jL e,b];exact f
def KT.repl {H:Hp}{a:List (List Key×V)}{xs:List (List Key×Addr×X9)}(r:KT H a xs)(k:List Key){y:V}{u:X9}(f:RelV y u) :
  KT H (a.map λb=>if b.1=k then (b.1,y) else b) (xs.map (putAt k u)):=by
 induction r with
 | nil=>exact .nil
 | @cons p q g i h t d =>
  rw[Xw,Xw];refine .cons ?_ d;obtain⟨h1,h2,c⟩:=h;unfold putAt;by_cases e:p.1=k
  .rw[bw e,bw (h1.symm.trans e)];exact⟨h1,h2,f⟩
  .rw[bq e,bq (λz=>e (h1.trans z))];exact⟨h1,h2,c⟩
def KT.put {H:Hp}{a:List (List Key×V)}{xs:List (List Key×Addr×X9)}(r:KT H a xs)(k:List Key){b:Addr}{y:V}{u:X9}(d:H b=some (.tup (k.map kV)))(c:RelV y u) :
  KT H (putK a k y) (UE xs k b u):=by
 have e:(a.any λf=>decide (f.1=k))=(Oy xs k).isSome:=by
  rw[zat,(r.val k).isSome_eq,Option.isSome_map]
 unfold putK UE;rw[e];by_cases q:(Oy xs k).isSome=true
 .rw[bw q,bw q];exact r.repl k c
 .rw[bq q,bq q];exact Paired.snoc r ⟨rfl,d,c⟩
def KT.keeps {H c:Hp}{a:List (List Key×V)}{xs:List (List Key×Addr×X9)}(r:KT H a xs)(d:∀b ys,H b=some (.tup ys)->c b=some (.tup ys)):KT c a xs :=
 Paired.mapP r λ_ _ z=>⟨z.1,d _ _ z.2.1,z.2.2⟩
section
variable {P:Xs}{w:Xd}{H:Hp}{h:Heap}{a:Addr}
def zoQ {u:HO}(ok:HOk P w H h)(e:Rd H a u):jJ P w H h a u:=e.ok ok
def zd6 {b:List (Key×V)}(ok:HOk P w H h)(e:Rd H a (.dK b)):b.length<=Xz/\(a==VG)=false/\∃vs,KV b vs/\h.DictOf (zY P w) a vs :=
 show jJ P w H h a (.dK b) from zoQ ok e
def zri {b:List (Key×V)}(ok:HOk P w H h)(e:H a=some (.dK b)):b.length<=Xz/\(a==VG)=false/\∃vs,KV b vs/\h.DictOf (zY P w) a vs:=zd6 ok (.inl e)
def zbb {ks:List Key}(ok:HOk P w H h)(e:H a=some (.tup (ks.map kV))):(VX (zY P w)).is h ks a:=by
 refine fN (λ_=>fJ λb r=>gw λo h1 h2 n c=>?_) (show jJ P w H h a (.tup (ks.map kV)) from ok a _ e);exact dN o b.toArray n h1 h2 c (by simpa using zd5 r)
def zd7 {b:List (List Key×V)}(ok:HOk P w H h)(e:Rd H a (.dT b)):b.length<=Xz/\(a==VG)=false /\
  ∃xs,KT H b xs/\h.DictOfH (VX (zY P w)) a xs:=by
 refine fW (λz y xs r=>fV λo f d h1 h2 g i j=>?_) (show jJ P w H h a (.dT b) from zoQ ok e);refine eH z y xs r (dQ o f d h1 h2 g i (λx hx=>?_) j);have all:∀{l:List (List Key×V)} {m:List (List Key×Addr×X9)},KT H l m->∀x∈m,(VX (zY P w)).is h x.1 x.2.1:=by
  intro l m q;induction q with
  | nil=>intro x hx;exact nomatch hx
  | @cons p q n s c t k =>
   intro x hx;rcases XI.mp hx with e | hx
   .subst e;exact zbb ok (by rw[<- c.1];exact c.2.1)
   .exact k x hx
 exact all r x hx
def zlg {b:List (List Key×V)}(ok:HOk P w H h)(e:H a=some (.dT b)):b.length<=Xz/\(a==VG)=false /\
  ∃xs,KT H b xs/\h.DictOfH (VX (zY P w)) a xs:=zd7 ok (.inl e)
end
def Q5 (H:Hp)(a:Addr)(y:V)(r:Option V):Prop :=
 (∃c k,Rd H a (.dK c)/\y=kV k/\r=qK c k)\/∃c k b,Rd H a (.dT c)/\y=.ref b/\H b=some (.tup (k.map kV))/\r=qK c k
def zjW (H:Hp)(a:Addr)(y v:V)(d:Hp):Prop :=
 (∃c k,H a=some (.dK c)/\y=kV k/\c.length<Xz/\d=upd H a (.dK (putK c k v))) \/
 ∃c k b,H a=some (.dT c)/\y=.ref b/\H b=some (.tup (k.map kV))/\c.length<Xz/\d=upd H a (.dT (putK c k v))
def Q5.t {H:Hp}{a b:Addr}{c:List (List Key×V)}{k:List Key}(e:H a=some (.dT c))(d:H b=some (.tup (k.map kV))):Q5 H a (.ref b) (qK c k):=.inr ⟨c,k,b,.inl e,rfl,d,rfl⟩
def zjW.t {H:Hp}{a b:Addr}{c:List (List Key×V)}{k:List Key}{v:V}(e:H a=some (.dT c))(d:H b=some (.tup (k.map kV)))(f:c.length<Xz) :
  zjW H a (.ref b) v (upd H a (.dT (putK c k v))):=.inr (dP c k b e rfl d f rfl)
section
variable {X:Cx}{bz:List (Addr×Obj)}{σ:St}{H:Hp}{s:X7}{a:Addr}{y v:V}{u r:X9}{o:Option V}{A:WY}{E:X9->X7->Prop}
def Inv.big (I:Inv X bz σ H s):VG<s.heap.objs.size:=by
 have h:XV<s.heap.objs.size:=(I.mod.glob.keeps I.bk).lt;exact TQ (by decide) h
def zjX {Q:X9->X7->Prop}(G:A.units+1<VL)(I:Inv X bz σ H s)(g:Q5 H a y (some v))(r:RelV y u)(h:∀f s',Inv X bz σ H s'->RelV v f->Q f s') :
  Xu (Xx X.prog X.w) A (OO (.ref a) u) Q E s:=by
 rcases g with ⟨q,k,e,j,l⟩ | ⟨q,k,b,e,j,x,l⟩
 .subst j;refine fW (λz B J c i=>?_) (zd6 I.hok e);obtain⟨f,n,d⟩:=zbV.some_of (v:=v) (o:=OK J k) (by rw[l];exact c.val k);exact wpAny_getItem_of (zgb r) i.mapOf n (h f _ (I.tok _) d)
 .subst j;cases (show u=WM b from r);refine fW (λz B L c i=>?_) (zd7 I.hok e);obtain⟨f,n,d⟩:=zbV.some_of (v:=v) (o:=(Oy L k).map (·.2)) (by rw[l];exact c.val k);obtain⟨p,D,m⟩:=U3.mp n;refine wpAny_getItem_heap (Te G) (zbb I.hok x) i D ?_;rw[m];exact h f _ (I.tok _) d
def znz {Q:X9->X7->Prop}(p:A.units+1<VL)(I:Inv X bz σ H s)(g:Q5 H a y o)(m:RelV y u)(h:∀s',Inv X bz σ H s'->Q (.bool (!o.isSome)) s') :
  Xu (Xx X.prog X.w) A (Ws .NotIn u (.ref a)) Q E s:=by
 rcases g with ⟨j,k,e,f,l⟩ | ⟨j,k,b,e,f,n,l⟩
 .subst f;refine fW (λz i r c d=>?_) (zd6 I.hok e);refine wpAny_notIn_of (zgb m) i d.mapOf ?_;rw[<- (c.val k).isSome_eq,<- l];exact h _ (I.tok _)
 .subst f;cases (show u=WM b from m);refine fW (λz i v c d=>?_) (zd7 I.hok e);refine wpAny_notIn_heap (Te p) (zbb I.hok n) i d ?_;have q:=(c.val k).isSome_eq;rw[Option.isSome_map]at q;rw[<- q,<- l];exact h _ (I.tok _)
def zeY {h':Heap}{t':Nat}{ob:HO}(I:Inv X bz σ H s)(g:Mut (H a))(f:V7 a s.heap h')(he:∃q,h'.get? a=some q)(c:jJ X.prog X.w (upd H a ob) h' a ob) :
  Inv X bz σ (upd H a ob) { s with heap:=h',toks:=t' } :=
 I.write (x:=a) (e:=a) g (.inl rfl) (λb q d z=>(f.2 b d).trans z) he c
def zpP {P:Xs}{w:Xd}{d:Hp}{h':Heap}{b:List (Key×V)}{vs:List (Key×X9)}(z:b.length<=Xz)(e:(a==VG)=false)(c:KV b vs)(dd:h'.DictOf (zY P w) a vs) :
  jJ P w d h' a (.dK b):=⟨z,e,vs,c,dd⟩
def zjY {G:Hp}{Q:Unit->X7->Prop}(hu:A.units+1<VL)(I:Inv X bz σ H s)(g:zjW H a y v G)(O:RelV y u)(N:RelV v r)(h:∀s',Inv X bz σ G s'->Q () s') :
  Xu (Xx X.prog X.w) A (setItem (.ref a) u r) Q E s:=by
 rcases g with ⟨d,k,e,o,l,n⟩ | ⟨d,k,b,e,o,J,l,n⟩
 .subst o n;refine fW (λz p vs f m=>?_) (zri I.hok e);have D:vs.length<=Xz:=by rw[<- f.length];exact z
  have x:(putK d k v).length<=Xz:=by have:=x6 d k v;lia
  refine wpAny_setItem_pairs (hsz:=D) (zgb O) m λM i B=>h _ ?_;have he:∃q,M.get? a=some q:=let ⟨q,_,_,j,_⟩:=i;⟨q,j⟩
  exact zeY I (by rw[e];exact PK) B he (zpP x p (f.put k N) i)
 .subst o n;cases (show u=WM b from O);refine fW (λz p xs f m=>?_) (zlg I.hok e);have D:xs.length<=Xz:=by rw[<- Paired.length f];exact z
  have x:(putK d k v).length<=Xz:=by have:=x6 d k v;lia
  refine wpAny_setItem_heap (hsz:=D) (Te hu) (zbb I.hok J) m λM i B=>h _ ?_;revert i;refine fT λq U T j h2 Y h4 _ h5=>?_;refine zeY I (by rw[e];exact PK) B ⟨q,j⟩ (eH x p _ ((f.put k J N).keeps λc ys L=>?_) (dP q U T j h2 Y h4 h5));rw[zp (zdQ L e (λz=>nomatch z))];exact L
end
def zrj (i:Expr):Prop:=∀b a,O9 i false b a=operate [b,a] (OO b a)
def znA {prog:Xs}{w:Xd}{A:WY}{E:X9->X7->Prop}{s:X7}{g:Env}{b a:Expr}{pos:Pos}{T id:String}{Q:X9->X7->Prop}
  (n:PM (.type T) "__getitem__"=pure (some (.builtin id))) (p:zrj a)
  (h:Xu (Xx prog w) A (eval b g) (λo e=>Xu (Xx prog w) A (eval a g) (λi c=>c.TypeIs o T/\Xu (Xx prog w) A (OO o i) Q E c) E e) E s) :
  Xu (Xx prog w) A (eval (.Subscript b a pos) g) Q E s:=by
 refine Subscript_ (WA h (λo e k=>WA k (λi c d=>?_) λ_ _ x=>x) λ_ _ x=>x);obtain⟨m,d⟩:=d;unfold Ox;refine Y1 ?_;rw[getitemInPython_of_ne m.not_modules];refine Y1 (To m n ?_);have j:Xu (Xx prog w) A (O9 a false o i) (λr f=>Xu (Xx prog w) A (letTemporaryGo b o r >>= λ_=>pure r) Q E f) E c:=by
  rw[p o i];exact wpAny_operating (WA d (λr f l=>Y1 (wpAny_letTemporaryGo (XR l))) λ_ _ x=>x)
 first
  | exact XR (Y1 j)
  | exact Y1 (XR (Y1 j))
  | exact Y1 j
def zgc {X:Cx}{f:List (Addr×Obj)}{h:St}{H:Hp}{s:X7}{a:Addr}{y:V}{o:Option V}(I:Inv X f h H s)(g:Q5 H a y o):s.TypeIs (.ref a) "dict":=by
 rcases g with ⟨d,k,e,_,_⟩ | ⟨d,k,b,e,_,_,_⟩
 .obtain⟨_,_,i,_,c⟩:=zd6 I.hok e;exact c.typeIs
 .refine fW (λ_ _ j _ c=>?_) (zd7 I.hok e);exact c.typeIs
def zrk (e ty:TE):TE:=fun c H Q=>e c H λx d=>ty c d λy b=>∃a v,x=.ref a/\Q5 b a y (some v)/\Q v b
def znB (ty e:TE):TE:=fun c H Q=>ty c H λy d=>e c d λx b=>∃a o,x=.ref a/\Q5 b a y o/\Q (.bl (!o.isSome)) b
def zrl (g ty h:TE):TS:=λD b H=>h b H λv d=>g b d λx e=>ty b e λy f=>∃a c,x=.ref a/\zjW f a y v c/\D.nx b c
section
variable {X:Cx}{o i e value:Expr}{pos pos' tpos:Pos}{td ty tv:TE}
def zeZ (r:X.A.units+1<VL)(p:PE X o td)(n:PE X i ty)(q:zrj i):PE X (.Subscript o i pos) (zrk td ty):=by
 intro d s e H Q I h;refine znA PySem.F.slot_dict_getitem.lookup q (thn (p d s e H _ I h) λu s1 ⟨x,f,k,B,w⟩=>thn (n d s1 e f _ k w) λE G ⟨y,j,c,D,a,v,m,g,z⟩=>?_);subst m;obtain rfl:u=WM a:=B;exact⟨zgc c g,zjX r c g D λL J l b=>⟨v,j,l,b,z⟩⟩
def zjZ (p:X.A.units+1<VL)(m:PE X i ty)(n:PE X o td):PC X .NotIn i o (znB ty td):=by
 intro b s c H Q I h;refine thn (m b s c H _ I h) λB s1 ⟨y,d,f,z,r⟩=>thn (n b s1 c d _ f r) λu D ⟨x,e,j,w,a,q,l,g,v⟩=>?_;subst l;obtain rfl:u=WM a:=w;exact znz p j g z λE k=>⟨.bl (!q.isSome),e,k,rfl,v⟩
def ziP (z:X.A.units+1<VL)(q:PE X o td)(p:PE X i ty)(B:PE X value tv)(w:Ta value (some (.Subscript o i pos')) pos.line X.env=pure false) :
  PS X (.Assign [.Subscript o i pos'] value pos) (zrl td ty tv):=by
 intro c s b H D I h;refine wpAny_Assign_Subscript (thn (B c s b H _ I h) λr s1 ⟨v,d,j,L,E⟩=>thn (q c s1 b d _ j E) λu O ⟨x,e,k,M,G⟩=>thn (p c O b e _ k G) λT U ⟨y,Q,l,N,a,f,n,g,J⟩=>?_) w;subst n;obtain rfl:u=WM a:=M;exact zjY z l g N L λY m=>⟨b,f,m,J⟩
end
def zlh {P:Xs}{w:Xd}{H:Hp}(h:Heap)(a:VG<h.objs.size):jJ P w H (h.push { cls:=.type "dict",data:=.dict #[] }) h.objs.size (.dT []) :=
 (eH (W3 _) (beq_eq_false_iff_ne.mpr (U5 (Xj a))) [] (.nil) (dP _ (#[]) 0 (Xg _ rfl) ⟨rfl,rfl,rfl⟩ rfl rfl VA))
def zpQ:TE:=λ_ H Q=>∀p,H p=none->Q (.ref p) (upd H p (.dT []))
section
variable {X:Cx}{pos:Pos}
def zli:PE X (.Dict [] [] pos) zpQ:=λb s c H Q I h =>
 wpAny_Dict_empty ⟨.ref s.heap.objs.size,_,I.laid (a:=s.heap.objs.size) (o:=.dT []) (t':=s.toks) (λ_ _ q=>XY _ q) (XW _) (zlh s.heap I.big),rfl,h _ (I.hok.fresh (XW _))⟩
end
structure M2 (X:Cx)(o:Expr)(m:Str)(apos:Pos)(e f:Expr)(cpos:Pos):Prop where
 base:Ow o m X.env (eval o X.env)=eval o X.env
 few:((UB cpos (W6 [e,f] X.env)).all (λx=>!x.1)&&(backToKw cpos (N5 [] X.env)).all (λx=>x.1.isSome)
  && decide (([e,f]:List Expr).length+([]:List OM).length+(if ([]:List OM).isEmpty then 0 else 1)<30))=true
 line:(apos.endLine==cpos.line)=true
 trees:UB cpos (W6 [e,f] X.env)=[(false,eval e X.env),(false,eval f X.env)]
def IsD (H:Hp)(a:Addr):Prop:=(∃b,Rd H a (.dK b))\/∃b,Rd H a (.dT b)
def zpR {X:Cx}{h:List (Addr×Obj)}{i:St}{H:Hp}{s:X7}{a:Addr}(I:Inv X h i H s)(d:IsD H a) :
  s.TypeIs (.ref a) "dict"/\(∀b,WM a=.ref b->∃ob,s.heap.get? b=some ob/\ob.dict=none)/\(a==VG)=false:=by
 rcases d with ⟨g,e⟩ | ⟨g,e⟩
 .refine fW (λ_ f j _ c=>?_) (zd6 I.hok e);refine⟨c.typeIs,λb q=>?_,f⟩;cases q;revert c;refine gi λob _ _ h1 h2 _=>?_;exact⟨ob,h1,h2.2.1⟩
 .refine fW (λ_ f k _ c=>?_) (zd7 I.hok e);refine⟨c.typeIs,λb q=>?_,f⟩;cases q;revert c;refine gi λob _ _ h1 h2 _=>?_;exact⟨ob,h1,h2.2.1⟩
section
variable {X:Cx}{bz:List (Addr×Obj)}{σ:St}{H:Hp}{s:X7}{a:Addr}{y d:V}{u r:X9}{o:Option V}{A:WY}{E:X9->X7->Prop}
def zpS {Q:X9->X7->Prop}(x:A.units+1<VL)(I:Inv X bz σ H s)(g:Q5 H a y o)(p:RelV y u)(n:RelV d r)(h:∀q s',Inv X bz σ H s'->RelV (o.getD d) q->Q q s') :
  Xu (Xx X.prog X.w) A (call (.builtin "dict.get") [.ref a,u,r]) Q E s:=by
 rcases g with ⟨m,k,e,i,l⟩ | ⟨m,k,b,e,i,v,l⟩
 .subst i;refine fW (λz j D c f=>?_) (zd6 I.hok e);refine call_meetsIn SJ f.typeIs Pu (PY _ _ _) (meets_dict_get_default (zY X.prog X.w) a (zgb p) j r) ⟨_,f.mapOf,h _ _ (I.tok _) ?_⟩;rw[l];exact(c.val k).getD n
 .subst i;cases (show u=WM b from p);refine fW (λz j B c f=>?_) (zd7 I.hok e);refine call_meetsIn SJ f.typeIs Pu (PY _ _ _) (meetsH_dict_get_default (VX (zY X.prog X.w)) a b j r) ⟨Te x,(dM k B (zbb I.hok v) f (h _ _ (I.tok _) ?_))⟩;rw[l];exact(c.val k).getD n
end
def zpT (f ty g:TE):TE:=fun b H Q=>f b H λx c=>∃a,x=.ref a/\IsD c a/\ty b c λy e=>g b e λz d=>∃o,Q5 d a y o/\Q (o.getD z) d
section
variable {X:Cx}{o e f:Expr}{apos cpos:Pos}{td ty tx:TE}
def zgd (D:X.A.units+1<VL)(B:PE X o td)(he:PE X e ty)(w:PE X f tx)(m:M2 X o "get" apos e f cpos):PE X (.Call (.Attribute o "get" apos) [e,f] [] cpos) (zpT td ty tx):=by
 intro b s i H Q I h;refine wpAny_Call_method m.base m.few m.line PX SJ PySem.F.type_dict_get (thn (B b s i H _ I h) λu s1 ⟨x,k,j,L,a,v,d,E⟩=>?_);subst v;obtain rfl:u=WM a:=L;obtain⟨T,U,_⟩:=zpR j d;refine⟨T,U,?_⟩;rw[m.trees];refine SR rfl (TY (UX (thn (he b s1 i k _ j E) λiv O ⟨y,l,p,M,G⟩ =>
  UX (thn (w b O i l _ p G) λY s3 ⟨z,n,q,N,ov,g,J⟩=>Rt ?_))))
 exact zpS D q g M N λw' s4 r c=>⟨_,n,r,c,J⟩
end
def zj0:PM (.type "list") "keys"=pure none:=by rw[Tn,UR];kernel_rfl
def zj1:PM (.type "list") "__getattr__"=pure none:=by rw[Tn,UR];kernel_rfl
def zcz:isSubtype (.type "AttributeError") (.type "AttributeError")=pure true:=by rw[O2];kernel_rfl
def zlj (a:List X9):ownMembersOf (.type "AttributeError") a=#[unsetMember,unsetMember]:=rfl
def zhI:((Manifest.find? "AttributeError").elim false λt=>t.mro.contains "StopIteration" || t.mro.contains "SystemExit")=false:=by decide+kernel
section
variable {prog:Xs}{w:Xd}{A:WY}{E:X9->X7->Prop}{h:Heap}{g:Array UA}{d:N2}{t:Nat}{os:Oj}{a:Addr}{its:Array X9}{n:Nat}
def zlk {tk:Tok}{Q:Fin->X7->Prop}(l:h.get? a=some { cls:=.type "list",dict:=none,data:=.seq its n,slots:=#[] })(k:A.handled=none)
  (he:∀c j e,(∀b f,h.get? b=some f->c.get? b=some f)->(⟨c,g,d,j,os⟩:X7).TypeIs (.ref e) "AttributeError"->E (.ref e) ⟨c,g,d,j,os⟩) :
  Xu (Xx prog w) A (US.«object.__getattribute__» ⟨[.ref a,.str "keys" tk],[]⟩) Q E ⟨h,g,d,t,os⟩:=by
 have q:(⟨h,g,d,t,os⟩:X7).TypeIs (.ref a) "list":=⟨_,l,rfl⟩;have o:=zj0;have p:=zcz;repeat (any_goals (first | assumption | wp_step))
 unfold raiseAttrError;refine Y1 (wpAny_mkStr (Y1 ?_) (by decide+kernel));unfold newExc newTuple;refine Y1 (VM ?_);refine Y1 (m:=RW _ _) (N4 (a:=Ul) (by simp only[RW,zhI];rfl) ?_);rw[zlj];refine VM ?_;refine Y1 (wpAny_mkText ?_);refine Y1 ?_;unfold noteAttr lacksNameAndObj;repeat (any_goals (first | assumption | wp_step))
 unfold raiseNew;refine Y1 (wpAny_handled ?_);rw[k];refine Y1 (XR (wpAny_throw ?_));dsimp only;refine he _ _ _ (λb f i=>?_) ?_
 .rw[(Wz ..).2 b (Xj ?_)]
  .exact XY _ (XY _ i)
  .rw[Vg];exact WI (XB i)
 .refine⟨_,Wt _ (Xg _ rfl) rfl,rfl⟩
def znC {tk:Tok}{R:Pc->X7->Prop}(f:h.get? a=some { cls:=.type "list",dict:=none,data:=.seq its n,slots:=#[] })(k:A.handled=none)
  (he:∀c j e,(∀b i,h.get? b=some i->c.get? b=some i)->(⟨c,g,d,j,os⟩:X7).TypeIs (.ref e) "AttributeError"->R (.error (.ref e)) ⟨c,g,d,j,os⟩) :
  Um (Xx prog w) A (.call (.builtin "list.__getattribute__") ⟨[.ref a,.str "keys" tk],[]⟩) R ⟨h,g,d,t,os⟩ :=
 TX PySem.F.slot_list_getattribute.plain PySem.F.entry_list_ga (PySem.F.slot_list_getattribute.check _ _ _ _ _ _ _ _ (show (⟨h,g,d,t,os⟩:X7).TypeIs (.ref a) "list" from ⟨_,f,rfl⟩) (PySem.F.args_list_getattribute_2 _ _) (zlk f (by simp[k]) he))
def zrm {tk:Tok}{Q:X9->X7->Prop}(i:h.get? a=some { cls:=.type "list",dict:=none,data:=.seq its n,slots:=#[] })(l:A.handled=none)
  (he:∀c f e,(∀b j,h.get? b=some j->c.get? b=some j)->(⟨c,g,d,f,os⟩:X7).TypeIs (.ref e) "AttributeError"->E (.ref e) ⟨c,g,d,f,os⟩) :
  Xu (Xx prog w) A (getAttrBy (.ref a) (.str "keys" tk) false) Q E ⟨h,g,d,t,os⟩:=by
 have s:(⟨h,g,d,t,os⟩:X7).TypeIs (.ref a) "list":=⟨_,i,rfl⟩;have o:=PySem.F.slot_list_getattribute.lookup;have p:=PySem.F.slot_list_getattribute.bind (.ref a);have q:=zj1;have r:=zcz;repeat (any_goals (first | assumption | wp_step))
 refine znC i (by simp[l]) λc f e m k=>?_;repeat (any_goals (first | assumption | wp_step))
 exact he _ _ _ m k
def znD {Q:Option X9->X7->Prop}(l:h.get? a=some { cls:=.type "list",dict:=none,data:=.seq its n,slots:=#[] })(j:A.handled=none)
  (k:∀c i,(∀b f,h.get? b=some f->c.get? b=some f)->Q none ⟨c,g,d,i,os⟩) :
  Xu (Xx prog w) A (NV (.ref a) "keys") Q E ⟨h,g,d,t,os⟩:=by
 have o:=zcz;unfold NV getAttrBy?;refine Y1 (wpAny_mkText (Y1 (Rl ?_)));refine zrm (t:=t+1) l j λc i e m p=>?_;repeat (any_goals (first | assumption | wp_step))
 exact k _ _ m
def zau:NU table "dict.update.loop"=some US.«dict.update.loop»:=entryFor_of_tree (by kernel_rfl)
def Ju:plainId "dict.update.loop"=true:=by decide+kernel
end
section
variable {prog:Xs}{w:Xd}{A:WY}{R:Pc->X7->Prop}{I:Addr}{fp wr:List Addr}{G:Array UA->Array UA->Prop}{n:Nat}{P:Nat->X9->Prop}{St:Nat->X7->Prop}
abbrev KQ:=List Key×Addr×X9
def putAll (ks:List KQ):List KQ:=ks.foldl (λa q=>UE a q.1 q.2.1 q.2.2) []
def putAll_snoc (ks:List KQ)(q:KQ):putAll (ks++[q])=UE (putAll ks) q.1 q.2.1 q.2.2:=by
 unfold putAll;rw[Rq];rfl
def zbx (xs:List KQ)(k:List Key)(a:Addr)(v:X9):(UE xs k a v).length<=xs.length+1:=by
 unfold UE;split
 .rw[ZB];lia
 .rw[XX];exact XW _
def zcA (ks:List KQ):(putAll ks).length<=ks.length:=by
 suffices h:∀(ks a:List KQ),(ks.foldl (λa q=>UE a q.1 q.2.1 q.2.2) a).length<=a.length+ks.length by
  have:=h ks [];simpa[putAll] using this
 intro ks;induction ks with
 | nil=>intro a;exact XW _
 | cons q r b =>
  intro a;have h1:=b (UE a q.1 q.2.1 q.2.2);have h2:=zbx a q.1 q.2.1 q.2.2;rw[Wp,Xi];lia
def ze0 {A:WY}{E:X9->X7->Prop}{s:X7}{a:Addr}{x y:X9}{Q:List X9->X7->Prop}(h:N3 s.heap a #[x,y])(q:Q [x,y] s):Xu (Xx prog w) A (Ps (.ref a)) Q E s:=by
 revert h;refine gw λo h1 h2 n b=>?_;have c:s.TypeIs (.ref a) "tuple":=⟨o,h1,h2⟩;unfold Ps;repeat (any_goals (first | assumption | wp_step))
 rw[b];exact XR (XR q)
theorem zby (T:List Key->Addr->Prop):∀(d a:List KQ),(∀x∈a,T x.1 x.2.1)->(∀x∈d,T x.1 x.2.1)->∀x∈d.foldl (λa q=>UE a q.1 q.2.1 q.2.2) a,T x.1 x.2.1
 | [],_,b,_=>b
 | q::r,a,b,c=>by
  rw[Wp];refine zby T r _ (λx hx=>?_) λx hx=>c x (XU _ hx);unfold UE at hx;split at hx
  .obtain⟨y,f,rfl⟩:=XG.mp hx;have:=b y f;unfold putAt;split
   .exact this
   .exact this
  .rcases XN.mp hx with hx | hx
   .exact b x hx
   .have e:x=(q.1,q.2.1,q.2.2):=by simpa using hx
    subst e;exact c q XT
def zhJ {h0:Heap}(W:WalksS prog w A.in1 I fp wr G n P St)(D:Addr)(J:D ∉ fp)(Y:h0.get? D=none)(ag:∀b∈wr,h0.get? b=none)(ks:List KQ)(N:ks.length=n)(u:n<=Xz)(hu:A.units+1<VL)
  (M:∀q∈ks,(VX (zY prog w)).is h0 q.1 q.2.1) (hP:∀i v,P i v->∃H q,v=.ref H/\ks[i]?=some q/\N3 h0 H #[.ref q.2.1,q.2.2]) :
  ∀(k i:Nat) (s:X7),n-i=k->i<=n->St i s->(∀b o,h0.get? b=some o->s.heap.get? b=some o)->s.heap.DictOfH (VX (zY prog w)) D (putAll (ks.take i)) ->
   (∀s',Moved (D::wr) G s s'->s'.heap.DictOfH (VX (zY prog w)) D (putAll ks)->R (.ok (.ret .none)) s') ->
   Um (Xx prog w) A (.builtin "dict.update.loop" ⟨[.ref D,.ref I,Ua (i:Int),.none],[]⟩) R s:=by
 have aa:D ∉ wr:=λh=>J (W.sub _ h);have more:∀b∈wr,b∈D::wr:=λb u=>XU _ u;have r:∀{h:Heap} {H:Addr} {y:Array X9},(∀b o,h0.get? b=some o->h.get? b=some o)->N3 h0 H y->N3 h H y:=λl ⟨o,h1,h2,m,h3⟩=>⟨o,l _ _ h1,h2,m,h3⟩;have f:∀{h:Heap} {ka:Addr} {q:List Key},(∀b o,h0.get? b=some o->h.get? b=some o)->(VX (zY prog w)).is h0 q ka->(VX (zY prog w)).is h q ka:=λl ⟨o,y,m,h1,h2⟩=>⟨o,y,m,l _ _ h1,h2⟩;have c:∀{s s':X7} {y:List KQ},Moved wr G s s'->(∀b o,h0.get? b=some o->s'.heap.get? b=some o)->(∀x∈y,(VX (zY prog w)).is h0 x.1 x.2.1)->s.heap.DictOfH (VX (zY prog w)) D y->s'.heap.DictOfH (VX (zY prog w)) D y :=
  λg l hk ⟨o,es,ep,e1,e2,e3,e4,_,e6⟩=>(dQ o es ep (g.heap D _ aa e1) e2 e3 e4 (λx U=>f l (hk x U)) e6)
 have d:∀{s s':X7},Moved wr G s s'->(∀b o,h0.get? b=some o->s.heap.get? b=some o)->∀b o,h0.get? b=some o->s'.heap.get? b=some o:=λg l b o e =>
  g.heap b o (λu=>by
   rw[ag b u]at e;cases e) (l b o e)
 have j:∀i,∀x∈putAll (ks.take i),(VX (zY prog w)).is h0 x.1 x.2.1:=λi=>zby (λa b=>(VX (zY prog w)).is h0 a b) _ [] (λx U=>nomatch U) λx U=>M x (VW U);intro k;induction k with
 | zero =>
  intro i s hk hi E l hS hR;have af:i=n:=by lia
  subst af;refine VS zau ?_;rw[Wa Ju _];show Xu _ A.in1 (R0 (.ref I) >>= _) _ _ s;refine Y1 (W.done s _ _ E λs' g=>?_);show Xu _ A.in1 (Re D [] >>= λ_=>ret Ul) _ _ s';refine Y1 (XR (XR (hR s' (g.mono more) ?_)));have:=c g (d g l) (j _) hS;rw[<- N,XD]at this;exact this
 | succ k ih =>
  intro i s hk hi E l hS hR;have O:i<n:=by lia
  refine VS zau ?_;rw[Wa Ju _];show Xu _ A.in1 (R0 (.ref I) >>= _) _ _ s;refine Y1 (W.item i s _ _ O E λv s' ab T g=>?_);refine fK (λH q z0 hq ht=>?_) (hP i v ab);subst z0;have p:=d g l;have ac:=c g p (j _) hS;have l1:=zcA (ks.take i);have l2:(ks.take i).length<=n:=by
   rw[XJ];lia
  have tk:ks.take (i+1)=ks.take i++[q]:=by
   rw[Xp,hq];rfl
  refine Y1 (VT (Y1 (wpAny_tryCatch (ze0 (r p ht) ?_))));refine VT (wpAny_dictSet_heap (show A.in1.units<VL from hu) (f p (M q (X8 hq))) ac (λh' ae B=>?_) (by lia));have ah:∀b o,h0.get? b=some o->h'.get? b=some o:=λb o e=>by
   rw[B.2 b (λz=>by
    rw[z,Y]at e;cases e)]
   exact p b o e
  have d2:h'.DictOfH (VX (zY prog w)) D (putAll (ks.take (i+1))):=by
   rw[tk,putAll_snoc];exact ae
  refine XR ⟨UH Ju _,?_⟩;show Um _ A (.builtin "dict.update.loop" ⟨[.ref D,.ref I,Ua ((i:Int)+1),.none],[]⟩) R _;rw[show ((i:Int)+1)=((i+1:Nat):Int) by lia];refine ih (i+1) _ (by lia) O (W.frame _ s' _ _ T (Vq _ _) λb u o e=>?_) ah d2 λai Q L=>?_
  .rw[B.2 b (λz=>J (by rw[<- z];exact u))];exact e
  .refine hR ai (Moved.trans W.gtrans ((g.mono more).then_heap (Vq _ _) λb o u e=>?_) Q) L;rw[B.2 b (λz=>u (by rw[z];exact XT))];exact e
end
def zrn (H:Hp)(v:V)(c:List Key×V):Prop:=∃a b,v=V.ref a/\H a=some (.tup [.ref b,c.2])/\H b=some (.tup (c.1.map kV))
def jy (H:Hp):AE->List (List Key×V)->Prop:=Xa (zrn H)
def jy.mono {H d:Hp}(s:zx H d){vs:AE}{c:List (List Key×V)}(f:jy H vs c):jy d vs c:=by
 induction f with
 | nil=>exact .nil
 | cons q _ g =>
  obtain⟨a,b,e,h1,h2⟩:=q;exact .cons ⟨a,b,e,s _ _ h1,s _ _ h2⟩ g
def Zi (b:List (List Key×V)):List (List Key×V):=b.foldl (λa c=>putK a c.1 c.2) []
def KT.puts {H:Hp}{b:List (List Key×V)}{ks:List KQ}{a:List (List Key×V)}{xs:List KQ}(e:KT H b ks)(r:KT H a xs):KT H (b.foldl (λa c=>putK a c.1 c.2) a) (ks.foldl (λa q=>UE a q.1 q.2.1 q.2.2) xs):=by
 induction e generalizing a xs with
 | nil=>exact r
 | cons q _ f =>
  obtain⟨h1,h2,d⟩:=q;rw[Wp,Wp];refine f ?_;rw[<- h1];exact r.put _ h2 d
def znE {P:Xs}{w:Xd}{H:Hp}{h:Heap}(ok:HOk P w H h){a:List (List Key×V)}{ks:List KQ}(b:KT H a ks):∀x∈ks,(VX (zY P w)).is h x.1 x.2.1:=by
 induction b with
 | nil=>exact λx hx=>nomatch hx
 | cons q _ c =>
  intro x hx;rcases XI.mp hx with e | hx
  .subst e;exact zbb ok (by rw[<- q.1];exact q.2.1)
  .exact c x hx
def znF {P:Xs}{w:Xd}{H:Hp}{h:Heap}(ok:HOk P w H h){vs:AE}{d:List (List Key×V)}{c:List X9}(n:jy H vs d)(j:Vals vs c):∃ks:List KQ,KT H d ks/\ks.length=c.length/\(∀(i:Nat) (v:X9),c[i]?=some v->∃(f:Addr) (q:KQ),v=WM f/\ks[i]?=some q/\N3 h f #[.ref q.2.1,q.2.2]):=by
 induction n generalizing c with
 | nil =>
  cases j;exact⟨[],.nil,rfl,λi v e=>by simp at e⟩
 | @cons x k G I q _ o =>
  revert q;refine fK λa b e h1 h2=>?_;cases j with
  | cons B z =>
  refine fP (λks p s y=>?_) (o z);subst e;cases B;obtain⟨_,G,r,D⟩:=(show jJ P w H h a (.tup [.ref b,k.2]) from ok a _ h1);refine fK (λu E z0 A g=>?_) (vals2 r);subst z0;cases A;refine⟨(k.1,b,E)::ks,.cons ⟨rfl,h2,g⟩ p,by rw[Xi,Xi,s],λi v e=>?_⟩;cases i with
  | zero =>
   have l:WM a=v:=by simpa using e
   exact⟨a,_,l.symm,rfl,D⟩
  | succ i =>
   refine fK (λf q h1 h2 m=>?_) (y i v (by simpa using e));exact⟨f,q,h1,by simpa using h2,m⟩
section
variable {X:Cx}
set_option maxHeartbeats 8000000 in
theorem jM (hu:X.A.units+64<VL)(hh:X.A.handled=none):ju X (.type "dict") (λxs H Q=>∃l us g,xs=[.ref l]/\H l=some (.lst us)/\jy H us g/\∀d,H d=none->Q (.ref d) (upd H d (.dT (Zi g)))):=by
 intro bz s σ H xs ai Q I r h;revert h;refine fY λl us g z0 hl hp q=>?_;subst z0;obtain⟨u,rfl,ru⟩:=vals1 r;cases ru;refine fN (λhz=>fL λm n rv e=>?_) (show jJ X.prog X.w H s.heap l (.lst us) from I.hok l _ hl);refine fP (λks E D N=>?_) (znF I.hok hp rv);have big:=I.big;have y:m.length<=Xz:=by
  rw[<- rv.length];exact hz
 have ae:=znE I.hok E;refine callType_codes (Q₁:=λT p=>T=.ref s.heap.objs.size/\p={ s with heap:=s.heap.push { cls:=.type "dict",data:=.dict #[] } }) PySem.F.kt_called_dict (PySem.F.kt_typeCall_dict_1 _) PySem.F.entry_dict_init (kt_code_dict_new _ ⟨rfl,rfl⟩) ?_;rintro T p ⟨rfl,rfl⟩;have f:(s.heap.push { cls:=.type "dict",data:=.dict #[] }).DictOfH (VX (zY X.prog X.w)) s.heap.objs.size []:=Heap.DictOfH.new s.heap;have e1:(s.heap.push { cls:=.type "dict",data:=.dict #[] }).get? l=some { cls:=.type "list",dict:=none,data:=.seq m.toArray n,slots:=#[] }:=XY _ e;refine⟨f.typeIs,PySem.F.args_dict_init_2 _ _,?_⟩;unfold US.«dict.__init__»;refine Y1 ?_;unfold Rc;refine Y1 (Pi f.typeIs ?_);show Xu _ _ (pure (s.heap.objs.size,[WM l])) _ _ _;refine XR ?_;show Xu _ _ (Ur "dict.__init__" s.heap.objs.size (.ref l) [] .none) _ _ _;unfold Ur;have hT:Sm { s with heap:=s.heap.push { cls:=.type "dict",data:=.dict #[] } } (.ref l) "list":=⟨_,e1,rfl⟩;refine Y1 (R5 hT ?_);rw[bw (by decide)];refine Y1 (znD e1 (by simp[hh]) λh2 t2 Y=>?_);rw[bw (show (none:Option X9).isNone=true from rfl)];have O:∀b j,s.heap.get? b=some j->h2.get? b=some j:=λb j z=>Y b j (XY _ z);have G:h2.IsList l m.toArray:=⟨_,Y _ _ e1,rfl,n,rfl⟩;refine Y1 (UY (Y1 (S2 G ?_)));have J:l<s.heap.objs.size:=XB e;have k:s.heap.objs.size<h2.objs.size:=by
  revert f;refine fR λo _ _ M _=>?_;exact XB (Y _ _ M)
 have L:l≠h2.objs.size:=Xj (TQ J k);have aa:s.heap.objs.size ∉ [h2.objs.size,l]:=by
  simp only[XI,VE,or_false,not_or];exact⟨Xj k,Uk J⟩
 refine XR ⟨UH Ju _,?_⟩;have ac:(h2.push { cls:=.type "list_iterator",data:=.fields #[.ref l,.int 0 0] }).DictOfH (VX (zY X.prog X.w)) s.heap.objs.size []:=by
  revert f;refine fT λo es ep M h3 h4 h5 _ h6=>?_;exact dQ o es ep (XY _ (Y _ _ M)) h3 h4 h5 (λx hx=>nomatch hx) h6
 refine zhJ (h0:=s.heap) ((Walks.list (by simp[hh]) h2.objs.size l L m.toArray).toS) s.heap.objs.size aa (UK (XW _)) (λb hb=>?_) ks (by rw[D];simp) (by simpa using y) (by show X.A.units+1+1<VL;lia) ae (λi v hv=>N i v (by rw[<- hv];simp)) _ 0 _ rfl (W3 _)
  ⟨⟨_,Xg _ rfl,rfl,rfl⟩,G.push _⟩ (λb o z=>XY _ (O b o z)) ac ?_
 .have e:b=h2.objs.size:=by simpa using hb
  rw[e];exact UK (TU k)
 .intro s' U ab;obtain⟨h',g',d',ah,ag⟩:=s';have eg:g'=s.gens:=U.gens;have ed:d'=s.drawn:=U.drawn;have eo:ag=s.os:=U.os;subst eg;subst ed;subst eo;have af:∀b j,s.heap.get? b=some j->h'.get? b=some j:=λb j z=>by
   have lt:=XB z;refine U.heap b j (λhb=>?_) (XY _ (O b j z));rcases XI.mp hb with e | hb
   .exact VU _ (e ▸ lt)
   .have e:b=h2.objs.size:=by simpa using hb
    rw[e]at lt;exact VU _ (TQ lt k)
  revert ab;refine fT λo es ep M h3 h4 h5 _ h6=>?_;have B:KT H (Zi g) (putAll ks):=KT.puts E .nil;have c:H s.heap.objs.size=none:=I.hok.fresh (XW _);refine⟨rfl,.ref s.heap.objs.size,_,I.laid (a:=s.heap.objs.size) (o:=.dT (Zi g)) (t':=ah) af (XW _) (eH ?_ (beq_eq_false_iff_ne.mpr (U5 (Xj big))) _ (KT.keeps B λb ys hb=>?_) (dP o es ep M h3 h4 h5 h6)),rfl,q _ c⟩
  .rw[Paired.length B];exact X6 (zcA ks) (by rw[D];exact y)
  .rw[zp (zg hb c)];exact hb
end
def u1 {A:PySem.Around}(h:A.units+64<PySem.cLine):A.units+1<PySem.cLine:=by lia
section
variable {K:XZ}{g:TG}{tc:TT}{te:TE}{Q:VK}{σ0:St}{D:Addr}
def zll {l1 l2:Addr}{xs ys:AE}(Pv:Nat->St->Hp->Prop){H:Hp}(he:xs.length=ys.length)(h0:Pv 0 σ0 H)(u:∀i a H,i<=xs.length->Pv i a H->SqL K H l1 xs/\SqL K H l2 ys)
  (w:∀i x y T a H,xs[i]?=some x->ys[i]?=some y->H T=none->Pv i a H->g (.ref T) a (upd H T (.tup [x,y])) fun c o=>tc c o λb k=>if b=true then te c k λy l=>∃zs,l D=some (.lst zs)/\zs.length<Xz/\Pv (i+1) c (upd l D (.lst (zs++[y]))) else Pv (i+1) c k)
  (r:∀ a H,Pv xs.length a H->Q (.ref D) H):yV (Itz K l1 l2) g tc te Q D σ0 H:=by
 refine⟨λi m a H=>m=xs.length-i/\i<=xs.length/\Pv i a H,⟨xs.length,by simp,W3 _,h0⟩,?_⟩;refine λi m a H=>fO λz0 s p=>?_;subst z0;obtain⟨h,j⟩:=u i a H s p;by_cases d:i<xs.length
 .refine .inr (eO ⟨xs,ys,h,j,d,by lia⟩ (Pv (i+1)) (fun E n A=>⟨xs.length-(i+1),by lia,rfl,d,A⟩) (λx n y=>?_));revert y;refine fP λT z0 q y=>?_;subst z0;refine fK (λv B z f z0=>?_) (y xs ys h j);subst z0;exact w i v B T a H z f q p
 .have e:i=xs.length:=by lia
  subst e;exact .inl ⟨⟨xs,ys,h,j,by lia⟩,r a H p⟩
end
theorem jy.into {H:Hp}(z:Addr)(o:HO){d:AE}(hz:H z=some (.lst d)):∀{vs:AE} {c:List (List Key×V)},jy H vs c->jy (upd H z o) vs c
 | _,_,.nil=>.nil
 | _,_,.cons ⟨a,b,e,h1,h2⟩ t=>.cons ⟨a,b,e,by rw[zp (zdQ h1 hz (by intro y;cases y))];exact h1,by rw[zp (zdQ h2 hz (by intro y;cases y))];exact h2⟩ (jy.into z o hz t)
theorem jy.snoc {H:Hp}{vs:AE}{a:List (List Key×V)}{v:V}{b:List Key×V}(h:jy H vs a)(x:zrn H v b):jy H (vs++[v]) (a++[b]):=Paired.snoc h x
theorem jy.length {H:Hp}{vs:AE}{a:List (List Key×V)}(h:jy H vs a):vs.length=a.length:=Paired.length h
theorem zd8 {v:V}{k:List Key}:∀(ks:List (List Key)) (a:List (List Key×V)),(k∈ks\/qK a k=some v)->qK ((ks.map λx=>(x,v)).foldl (λa b=>putK a b.1 b.2) a) k=some v
 | [],a,h=>by
  rcases h with h | h
  .cases h
  .exact h
 | x::r,a,h=>by
  rw[Xw,Wp];refine zd8 r _ ?_;rw[yZ];by_cases e:k=x
  .rw[bw e];exact .inr rfl
  .rw[bq e];rcases h with h | h
   .rcases XI.mp h with h | h
    .exact absurd h e
    .exact .inl h
   .exact .inr h
section
variable {prog:Xs}{w:Xd}{A:WY}{E:X9->X7->Prop}{s:X7}{d o a:Addr}{xs ys:List KQ}{k:List Key}{v:X9}
abbrev tk2 (prog:Xs)(w:Xd):HeapKind prog w (List Key):=VX (zY prog w)
def zhK {Q:Unit->X7->Prop}(J:A.units<VL)(c:(tk2 prog w).is s.heap k a)(I:s.heap.DictOfH (tk2 prog w) d xs)(hsz:xs.length<=Xz)
  (u:∀h',h'.DictOfH (tk2 prog w) d (UE xs k a v)->V7 d s.heap h'->Q () { s with heap:=h' }):Xu (Xx prog w) A (Ou d (.ref a) ((tk2 prog w).hash k) v) Q E s:=by
 revert I;refine fT λob H r f B b he h i=>?_;unfold Ou;refine VT (Y1 (wpAny_dictFind_heap (knd:=tk2 prog w) J c f b he h i (λm=>?_) λj p D=>?_))
 .have n:=not_mem_keys_of_get m;have o:=atKey_none_of_get m;refine Y1 (UY (wpAny_updateDictKeys (hz:=by have e:=size_of_entries he;lia) f b (u _ (dQ _ _ (r+1) (Wt _ f (R8 (TW b _))) (B.mapDictKeys _) (TW b _) ?_ ?_ ?_) (Wz ..))))
  .rw[O8 o];simp[he,Tk]
  .rw[O8 o];intro x hx;rcases XN.mp hx with hx | hx
   .exact(tk2 prog w).keeps (h x hx) f b (Wz ..)
   .have e:x=(k,a,v):=by simpa using hx
    subst e;exact(tk2 prog w).keeps c f b (Wz ..)
  .rw[O8 o,XA,WK];refine⟨i,by simp,λx hx y q e=>n ?_⟩;have G:y=k:=by simpa using q
   rw[<- G,<- e];exact hx
 .have g:=storedH_old (atKey_of_get i D) a v;refine Y1 (UY (Y1 (wpAny_updateDict f b (wpAny_point (u _ (dQ _ _ r (Wt _ f (R8 (Obj.data_mapDict b _))) (B.mapDict _) (Obj.data_mapDict b _) ?_ ?_ ?_) (Wz ..))))))
  .rw[g];have z:=modify_map_putAt (Tk (tk2 prog w)) (λe:Qr=>{ e with val:=v }) k v (λ_ _=>rfl) i D;rw[<- he]at z;obtain⟨l⟩:=H;simpa using z
  .rw[g];intro x hx;obtain⟨y,q,rfl⟩:=XG.mp hx;unfold putAt;split<;>exact(tk2 prog w).keeps (h y q) f b (Wz ..)
  .rw[g,keys_map_putAt];exact i
def HN (prog:Xs)(w:Xd)(ys:List KQ):Prop:=(ys.map λq=>(tk2 prog w).hash q.1).Nodup
def zhL:PM (.type "tuple") "__eq__"=pure (some (.builtin "tuple.__eq__")):=by rw[Tn,UR];kernel_rfl
def zge {Q:Bool->X7->Prop}(b:(tk2 prog w).is s.heap k a)(q:Q false s):Xu (Xx prog w) A (OW (.ref a)) Q E s:=by
 revert b;refine gi λob d n h1 h2 _=>?_;have c:s.TypeIs (.ref a) "tuple":=⟨ob,h1,h2⟩;unfold OW;refine Y1 (To c zhL (XR ?_));rw[show (some (Tt "tuple.__eq__")==some (Tt "object.__eq__"))=false by decide+kernel];exact q
def zj2 {ys:List KQ}{a:Array Qr}(he:a.toList=ys.map (Tk (tk2 prog w)))(b:HN prog w ys)(x:Int):¬ (a.filter (λe=>e.hash==x)).size>1:=by
 have h1:(a.filter (λe=>e.hash==x)).size=(a.toList.filter (λe=>e.hash==x)).length:=by
  rw[<- OG,X4]
 rw[h1,he];unfold HN at b;clear h1 he;induction ys with
 | nil=>simp
 | cons q r i =>
  rw[Xw,Wq]at b;rw[Xw,VO];split
  .rename_i hq;have c:(tk2 prog w).hash q.1=x:=by simpa[Tk] using hq
   have:(r.map (Tk (tk2 prog w))).filter (λe=>e.hash==x)=[]:=by
    rw[Vx];intro e f g;obtain⟨y,h,rfl⟩:=XG.mp f;have d:(tk2 prog w).hash y.1=x:=by simpa[Tk] using g
    exact b.1 (XG.mpr ⟨y,h,by rw[c,d]⟩)
   rw[this];simp
  .exact i b.2
def zj3 {id:String}{ob:Obj}{c:Array Qr}{ep:Nat}{Q:Array Qr->X7->Prop}(l:s.heap.get? d=some ob)(k:ob.data=.dict c ep)(he:c.toList=ys.map (Tk (tk2 prog w)))(hk:∀x∈ys,(tk2 prog w).is s.heap x.1 x.2.1)(j:HN prog w ys)(h:Q c s) :
  Xu (Xx prog w) A (Sa id d) Q E s:=by
 unfold Sa;refine Y1 (T5 l k (Y1 ?_));rw[<- RR];refine TJ _ (λa _ f=>f=s/\∀e∈a,e∈c.toList) _ ?_ ?_ _ _ ⟨rfl,λe he=>he⟩
 .rintro x a b f ⟨rfl,g⟩;have i:=g x XT;rw[he]at i;obtain⟨y,m,rfl⟩:=XG.mp i;refine Y1 (zge (hk y m) ?_);rw[bw (show (!false)=true from rfl),bq (zj2 he j _)];exact XR ⟨rfl,λe he=>g e (XU _ he)⟩
 .rintro b f ⟨rfl,_⟩;exact XR h
def JS (xs ys:List KQ):List KQ:=ys.foldl (λa q=>UE a q.1 q.2.1 q.2.2) xs
def zgf (xs ys:List KQ)(q:KQ):JS xs (ys++[q])=UE (JS xs ys) q.1 q.2.1 q.2.2:=by
 unfold JS;rw[Rq];rfl
theorem zcB (xs:List KQ):∀ys:List KQ,∀a:List KQ,(JS a ys).length<=a.length+ys.length
 | [],a=>XW _
 | q::r,a=>by
  have h1:=zcB xs r (UE a q.1 q.2.1 q.2.2);have h2:=zbx a q.1 q.2.1 q.2.2;rw[Xi];show (JS (UE a q.1 q.2.1 q.2.2) r).length<=_;lia
theorem zav:∀(ys a:List KQ),((a++ys).map (·.1)).Nodup->JS a ys=a++ys
 | [],a,_=>(WV a).symm
 | q::r,a,h=>by
  have b:Oy a q.1=none:=by
   unfold Oy;rw[List.find?_eq_none.mpr]
   .rfl
   .intro x c hk;rw[XA,Xw,WK]at h;exact h.2.2 x.1 (XG.mpr ⟨x,c,rfl⟩) q.1 XT (bg hk)
  show JS (UE a q.1 q.2.1 q.2.2) r=_;rw[O8 b,show ((q.1,q.2.1,q.2.2):KQ)=q from rfl,zav r (a++[q]) (by simpa using h)];simp
def znG {nm:String}{Q:Unit->X7->Prop}(hu:A.units<VL)(z:d≠o)(ae:(o==VG)=false)(hd:s.heap.DictOfH (tk2 prog w) d xs)(ho:s.heap.DictOfH (tk2 prog w) o ys)(hN:HN prog w ys)(hsz:xs.length+ys.length<=Xz)
  (O:∀h',h'.DictOfH (tk2 prog w) d (JS xs ys)->V7 d s.heap h'->Q () { s with heap:=h' }):Xu (Xx prog w) A (Pr nm d o) Q E s:=by
 refine fT (λod U T j Y f J ak al=>?_) (id hd);refine fT (λoo a ai k aj c g B N=>?_) (id ho);have M:ys.length=a.size:=(size_of_entries g).symm;unfold Pr;rw[bq (show ¬ (d==o)=true by simpa using z)];unfold Builtin.Dict.showsAll;rw[bq (show ¬ (o==VG)=true by rw[ae];exact XS)];refine Y1 (XR (Y1 (T5 k c ?_)));have v:Xu (Xx prog w) A (do
   let epoch <- dictEpoch o
   let l <- dictEntries o
   forIn [:l.size] On λi (_:PUnit)=>(do
     let l' <- dictEntries o
     match l'[i]? with
      | some e=>do
       holding [e.key,e.val] (Ou d e.key e.hash e.val)
       let ep' <- dictEpoch o
       if (ep' != epoch)=true then do
         (Rx (toString nm++toString ":source-changed-during-callback"):Sem PUnit)
         pure (V3 On)
        else pure (V3 On)
      | _=>do
       (Rx "internal:dict-merge":Sem PUnit)
       pure (V3 On):Sem (ForInStep PUnit))
   pure ()) Q E s:=by
  refine Y1 (wpAny_dictEpoch k c (Y1 (T5 k c (Y1 ?_))));rw[Std.Legacy.Range.forIn_eq_forIn_range'];simp only[Std.Legacy.Range.size,Oc,RQ,Nat.div_one];refine TJ _ (λn _ s'=>∃h' i,s'={ s with heap:=h' }/\n=List.range' i (a.size-i)/\i<=a.size/\h'.DictOfH (tk2 prog w) d (JS xs (ys.take i))/\V7 d s.heap h') _ ?_ ?_ _ _ (dR s.heap 0 rfl (by simp) (W3 _) hd (Heap.SameBut.refl _ _))
  .refine λx n b s'=>fS λh' i z0 G hi p m=>?_;subst z0;have ac:i<a.size:=by
    rcases Uj i a.size with h | h
    .exact h
    .rw[Nat.sub_eq_zero_of_le h]at G;simp at G
   obtain⟨rfl,H⟩:x=i/\n=List.range' (i+1) (a.size-(i+1)):=by
    rw[show a.size-i=(a.size-(i+1))+1 by lia,List.range'_succ]at G;injection G with h1 h2
    exact⟨h1,h2⟩
   have r:h'.get? o=some oo:=(m.2 o (U5 z)).trans k;obtain⟨q,hq⟩:∃q,ys[x]?=some q:=⟨_,X0 (by lia)⟩;refine Y1 (T5 r c ?_);rw[entry_at g x,hq];have ab:=B q (X8 hq);have L:(tk2 prog w).is h' q.1 q.2.1:=(tk2 prog w).keeps ab j f m;have l1:=zcB xs (ys.take x) xs;have l2:(ys.take x).length<=ys.length:=by
    rw[XJ];lia
   refine Y1 (VT (zhK (s:={ s with heap:=h' }) hu L p (by lia) λy I u=>?_));have D:y.get? o=some oo:=(u.2 o (U5 z)).trans r;refine Y1 (wpAny_dictEpoch D c ?_);rw[bq (by simp)];refine XR (dR y (x+1) rfl H ac ?_ (m.trans u));rw[Xp,hq];show y.DictOfH (tk2 prog w) d (JS xs (ys.take x++[q]));rw[zgf];exact I
  .refine λb s'=>fS λh' i z0 G hi p m=>?_;subst z0;have aa:i=a.size:=by
    rcases Uj i a.size with h | h
    .rw[show a.size-i=(a.size-(i+1))+1 by lia,List.range'_succ]at G;exact nomatch G
    .exact Nat.le_antisymm hi h
   rw[aa,<- M,XD]at p;exact XR (O h' p m)
 dsimp only;split
 .refine Y1 (T5 j f ?_);split
  .rename_i ah;have af:xs=[]:=by
    have h0:U=#[]:=Array.isEmpty_iff.mp ah;rw[h0]at J;exact OF.mp J.symm
   subst af;rw[zav ys [] (by simpa using N)]at O;refine Y1 (zj3 k c g B hN ?_);split
   .refine Y1 (wpAny_updateDictKeysTo j f (XR (O _ (dQ _ _ (T+1) (Wt _ j (R8 (TW f _))) (Y.mapDictKeys _) (TW f _) g (λx hx=>(tk2 prog w).keeps (B x hx) j f (Wz ..)) N) (Wz ..))) (by
     simp only[UO,VQ]at hsz;lia))
   .rename_i hne;have h0:a=#[]:=Array.isEmpty_iff.mp (by simpa using hne);have ag:ys=[]:=by
     rw[h0]at g;exact OF.mp g.symm
    subst ag;exact XR (O _ hd (Heap.SameBut.refl _ _))
  .exact v
 .exact v
end
def HH (i j:Nat):Int:=reduceHash (Builtin.Tuple.tupleHashOf [hashInt (i:Int),hashInt (j:Int)])
def Yn (prog:Xs)(w:Xd)(i j:Nat):(tk2 prog w).hash [.inl ((i:Nat):Int),.inl ((j:Nat):Int)]=HH i j:=by
 show tupleKeyHash (zY prog w) [.inl ((i:Nat):Int),.inl ((j:Nat):Int)]=HH i j;unfold tupleKeyHash HH;rw[Xw,Xw,Oe];have e:∀n:Nat,(zY prog w).hash (.inl ((n:Nat):Int))=hashInt ((n:Nat):Int):=λn=>by
  show zpm w (.inl ((n:Nat):Int))=_;unfold zpm;with_reducible rfl
 rw[e,e]
def zpU:(Va 64).all λn=>(Va 64).all λm=>decide (HH (n/8) (n%8)=HH (m/8) (m%8))==decide (n=m):=by decide+kernel
def zgh {i j f g:Nat}(h1:i<8)(h2:j<8)(k:f<8)(l:g<8)(e:HH i j=HH f g):i=f/\j=g:=by
 have h:=zpU;rw[Ut]at h;have a:=h (8*i+j) (VB.mpr (by lia));rw[Ut]at a;have b:=a (8*f+g) (VB.mpr (by lia));rw[show (8*i+j)/8=i by lia,show (8*i+j)%8=j by lia,show (8*f+g)/8=f by lia,show (8*f+g)%8=g by lia,br e]at b;have c:decide (8*i+j=8*f+g)=true:=by simpa using b
 have d:=bg c;lia
def Small (ks:List (List Key)):Prop:=∀k∈ks,∃i j:Nat,i<8/\j<8/\k=[.inl ((i:Nat):Int),.inl ((j:Nat):Int)]
theorem zoR {prog:Xs}{w:Xd}:∀{ys:List KQ},Small (ys.map (·.1))->(ys.map (·.1)).Nodup->HN prog w ys
 | [],_,_=>VA
 | q::r,d,c=>by
  rw[Xw,Wq]at c;unfold HN;rw[Xw,Wq];refine⟨λn=>?_,zoR (λk hk=>d k (XU _ hk)) c.2⟩;obtain⟨y,h,e⟩:=XG.mp n;obtain⟨i,j,h1,h2,f⟩:=d q.1 XT;obtain⟨o,p,l,m,g⟩:=d y.1 (XU _ (XG.mpr ⟨y,h,rfl⟩));rw[f,g,Yn,Yn]at e;obtain⟨a,b⟩:=zgh l m h1 h2 e;refine c.1 (XG.mpr ⟨y,h,?_⟩);rw[f,g,a,b]
theorem KT.keys {H:Hp}:∀{a:List (List Key×V)} {xs:List KQ},KT H a xs->xs.map (·.1)=a.map (·.1)
 | _,_,.nil=>rfl
 | _,_,.cons ⟨h1,_,_⟩ t=>by rw[Xw,Xw,KT.keys t,h1]
def zlm {P:Xs}{w:Xd}{H:Hp}{a:List (List Key×V)}{xs:List KQ}(r:KT H a xs)(c:Small (a.map (·.1)))(b:(xs.map (·.1)).Nodup):HN P w xs:=zoR (by rw[r.keys];exact c) b
def Q6 (b more:List (List Key×V)):List (List Key×V):=more.foldl (λa c=>putK a c.1 c.2) b
theorem zcC:∀(more a:List (List Key×V)),(Q6 a more).length<=a.length+more.length
 | [],a=>XW _
 | kv::r,a=>by
  have h1:=zcC r (putK a kv.1 kv.2);have h2:=x6 a kv.1 kv.2;show (Q6 (putK a kv.1 kv.2) r).length<=_;rw[Xi];lia
section
variable {X:Cx}
def zhM (hu:X.A.units+64<VL):MtR X "dict.update" (λx vs H Q=>∃d o a more,x=.ref d/\vs=[.ref o]/\d≠o/\H d=some (.dT a)/\H o=some (.dT more)/\Small (more.map (·.1))/\a.length+more.length<=Xz/\Q .non (upd H d (.dT (Q6 a more)))):=by
 intro bz s σ H x vs v us Q I rx rv h;revert h;refine gf λd o a more z0 z1 n l=>fZ λY y aa q=>?_;subst z0 z1;cases rx;obtain⟨u,rfl,ru⟩:=vals1 rv;cases ru;refine fW (λhz T D g j=>?_) (zlg I.hok l);refine fW (λab k f e b=>?_) (zlg I.hok Y);have O:HN X.prog X.w f:=by
  obtain⟨_,_,_,_,_,_,_,_,U⟩:=b;exact zlm e y U
 refine U0 Rb j.typeIs PySem.F.entry_dict_update ?_ (PySem.F.args_dict_update_2 _ _);unfold US.«dict.update»;refine Y1 ?_;unfold Rc;refine Y1 (Pi j.typeIs ?_);show Xu _ _ (pure (d,[WM o])) _ _ s;refine XR ?_;show Xu _ _ (Ur "dict.update" d (.ref o) [] .none) _ _ s;unfold Ur;refine Y1 (R5 b.typeIs ?_);rw[bq (by decide)];refine Y1 ?_;unfold Builtin.Dict.merge;refine Y1 ?_;unfold Builtin.Dict.readDirectly;refine Y1 (P1 b.typeIs isSubtype_dict_dict ?_);simp only[Bool.not_true,WG,if_false];refine Y1 (To b.typeIs PySem.F.slot_dict_iter.lookup (XR ?_));simp only[beq_self_eq_true,if_true];refine Y1 (XR ?_);have l1:D.length=a.length:=(Paired.length g).symm;have l2:f.length=more.length:=(Paired.length e).symm;refine znG (by show X.A.units+1<VL;lia) n k j b O (by lia) λh' m r=>?_;show Xu _ _ (Re d [] >>= _) _ _ _;refine Y1 (XR (XR ⟨_,rfl,?_⟩));revert m;refine fT λob G E i J L M _ N=>?_;have p:KT H (Q6 a more) (JS D f):=KT.puts e g;have hl:=zcC more a;refine⟨.non,_,zeY (t':=s.toks) (ob:=.dT (Q6 a more)) I (by rw[l];exact PK) r ⟨ob,i⟩ (eH (by lia) T _ (p.keeps λc ys B=>?_) (dP ob G E i J L M N)),rfl,q⟩;rw[zp (zdQ B l (λz=>nomatch z))];exact B
def zgi:ju X (.type "str") (λxs H Q=>∃v z,xs=[v]/\(v=V.str z\/∃i:Int,v=V.int i/\i.natAbs.log2<1920/\z=toString i)/\Q (.str z) H):=by
 intro a s c H xs b Q I r h;obtain⟨v,z,rfl,h,q⟩:=h;rcases h with rfl | ⟨i,rfl,d,rfl⟩
 .exact zeV a s c H _ b Q I r ⟨z,rfl,q⟩
 .exact zeL a s c H _ b Q I r ⟨i,rfl,d,q⟩
def vals3 {x y z:V}{b:List X9}(r:Vals [x,y,z] b):∃u v a,b=[u,v,a]/\RelV x u/\RelV y v/\RelV z a:=by
 cases r with
 | cons c d =>
  obtain⟨v,a,rfl,h1,h2⟩:=vals2 d;exact⟨_,v,a,rfl,c,h1,h2⟩
def mx3 (i j k:Int):Int:=if j>i then (if k>j then k else j) else (if k>i then k else i)
def mn3 (i j k:Int):Int:=if j<i then (if k<j then k else j) else (if k<i then k else i)
def zj4 (a:X.calm=true):ju X (.builtin "max") (λxs H Q=>∃i j k,xs=[.int i,.int j,.int k]/\Q (.int (mx3 i j k)) H):=by
 intro d s n H xs l Q I r h;revert h;refine fR λi j k z0 q=>?_;subst z0;obtain⟨u,v,m,rfl,⟨t,rfl⟩,⟨f,rfl⟩,⟨c,rfl⟩⟩:=vals3 r;refine max_three_ints (I.ok.hd a) λe g b=>(dM _ H (I.kept b) ?_ q);unfold mx3;split<;>split<;>exact⟨_,rfl⟩
def zj5 (a:X.calm=true):ju X (.builtin "min") (λxs H Q=>∃i j k,xs=[.int i,.int j,.int k]/\Q (.int (mn3 i j k)) H):=by
 intro d s n H xs l Q I r h;revert h;refine fR λi j k z0 q=>?_;subst z0;obtain⟨u,v,m,rfl,⟨t,rfl⟩,⟨f,rfl⟩,⟨c,rfl⟩⟩:=vals3 r;refine min_three_ints (I.ok.hd a) λe g b=>(dM _ H (I.kept b) ?_ q);unfold mn3;split<;>split<;>exact⟨_,rfl⟩
end
open PySem
namespace ST
def run (a i:Nat):List Nat:=(Va (VI a i+1-i)).map (i + ·)
def walk (a:Nat):Nat->Nat->Nat->List Nat
 | 0,_,_=>[]
 | f+1,i,p=>run a i++walk a f (Vn a i p).1 (Vn a i p).2
def znH (a i:Nat):1<=(run a i).length/\(run a i).length<=10:=by
 unfold run VI;rw[ZB,S0];split<;>lia
theorem zcD (a:Nat):∀f i p,(walk a f i p).length<=10*f
 | 0,_,_=>XW _
 | f+1,i,p=>by
  rw[walk,XX];have:=(znH a i).2;have:=zcD a f (Vn a i p).1 (Vn a i p).2;lia
def steps (t:WB):Nat->RU->RU
 | 0,p=>p
 | n+1,p=>steps t n (t.advance p)
theorem zbc (t:WB):∀n m p,steps t (n+m) p=steps t m (steps t n p)
 | 0,m,p=>by rw[VQ];rfl
 | n+1,m,p=>by
  rw[show n+1+m=(n+m)+1 from by lia];exact zbc t n m (t.advance p)
theorem zbd (t:WB)(i pt:Nat)(a:Option Nat):∀(d r j:Nat),d<=r->steps t d { j:=j,more:=r,i:=i,perturb:=pt,dummy:=a }={ j:=j+d,more:=r-d,i:=i,perturb:=pt,dummy:=a }
 | 0,r,j,_=>rfl
 | d+1,r,j,h=>by
  have e:t.advance { j:=j,more:=r,i:=i,perturb:=pt,dummy:=a }={ j:=j+1,more:=r-1,i:=i,perturb:=pt,dummy:=a }:=by
   unfold P0;rw[bw (by show r>0;lia)]
  show steps t d (t.advance _)=_;rw[e,zbd t i pt a d (r-1) (j+1) (by lia)];congr 1<;>lia
def Qw (a i pt:Nat)(b:Option Nat):RU:={ j:=i,more:=VI a i-i,i:=i,perturb:=pt,dummy:=b }
def zbe (a i:Nat):i<=VI a i:=by
 unfold VI;split<;>lia
def zhN (t:WB)(i pt:Nat)(a:Option Nat):steps t (run t.mask i).length (Qw t.mask i pt a)=Qw t.mask (Vn t.mask i pt).1 (Vn t.mask i pt).2 a:=by
 have b:(run t.mask i).length=(VI t.mask i-i)+1:=by
  unfold run;rw[ZB,S0];have:=zbe t.mask i;lia
 rw[b,zbc];unfold Qw;rw[zbd t i pt a _ _ _ (XW _),TM];rw[steps,steps];unfold P0;rw[bq (by show ¬ 0>0;lia)]
theorem JT (t:WB):∀(f i pt:Nat) (a:Option Nat) (n:Nat) (j:Nat),(walk t.mask f i pt)[n]?=some j->(steps t n (Qw t.mask i pt a)).j=j
 | 0,_,_,_,_,_,h=>by simp[walk]at h
 | f+1,i,pt,a,n,j,h=>by
  rw[walk]at h;by_cases b:n<(run t.mask i).length
  .rw[V9 b]at h;unfold run at h;rw[Xv,List.getElem?_range (by unfold run at b;simpa using b)]at h;have c:(run t.mask i).length=(VI t.mask i-i)+1:=by
    unfold run;rw[ZB,S0];have:=zbe t.mask i;lia
   unfold Qw;rw[zbd t i pt a n _ _ (by lia)];exact Option.some.inj h
  .rw[VV (by lia)]at h;have e:n=(run t.mask i).length+(n-(run t.mask i).length):=by lia
   rw[e,zbc,zhN];exact JT t f _ _ a _ j h
theorem ze1 (t:WB)(VC:Nat->Int)(h:Int):∀(n F:Nat) (p:RU),(∀k,k<n->∃i,t.slot (steps t k p).j=.live i/\(VC i==h)=false)->n<=F->T4 t VC h F p=T4 t VC h (F-n) (steps t n p)
 | 0,F,p,_,_=>rfl
 | n+1,F,p,hk,d=>by
  obtain⟨a,rfl⟩:∃a,F=a+1:=⟨F-1,by lia⟩;obtain⟨i,h1,h2⟩:=hk 0 (by lia);have b:t.slot p.j=.live i:=h1;rw[T4,b];show (if (VC i==h)=true then _ else _)=_;rw[bq (by rw[h2];decide),ze1 t VC h n a (t.advance p) (λk c=>hk (k+1) (by lia)) (by lia),Nat.add_sub_add_right];rfl
def Up (xs:Array Nat):Prop:=∀i j,i<j->j<xs.size->xs.getD i 0<xs.getD j 0
def zln {xs:Array Nat}(U:Up xs)(j:Nat):∀(f lo a:Nat),a-lo<=f->lo<=a->a<=xs.size->(∀i,i<lo->xs.getD i 0<j)->(∀i,a<=i->i<xs.size->j<=xs.getD i 0) ->
  Vy xs j f lo a<=xs.size/\(∀i,i<Vy xs j f lo a->xs.getD i 0<j)/\(∀i,Vy xs j f lo a<=i->i<xs.size->j<=xs.getD i 0):=by
 intro f;induction f with
 | zero =>
  intro lo a n o d h1 h2;have:lo=a:=by lia
  subst this;exact⟨d,h1,h2⟩
 | succ f m =>
  intro lo a n o d h1 h2;by_cases b:lo<a
  .have q:(lo+a)/2<a:=by lia
   have p:lo<=(lo+a)/2:=by lia
   have c:(lo+a)/2<xs.size:=by lia
   have e:xs.getD ((lo+a)/2) j=xs.getD ((lo+a)/2) 0:=by
    simp[Array.getD,c]
   have l:Vy xs j (f+1) lo a=if xs.getD ((lo+a)/2) 0<j then Vy xs j f ((lo+a)/2+1) a else Vy xs j f lo ((lo+a)/2):=by
    rw[Vy,bw b];show (if xs.getD ((lo+a)/2) j<j then _ else _)=_;rw[e]
   by_cases g:xs.getD ((lo+a)/2) 0<j
   .rw[l,bw g];refine m ((lo+a)/2+1) a (by lia) (by lia) d (λi h=>?_) h2;by_cases he:i=(lo+a)/2
    .rw[he];exact g
    .exact TQ (U i ((lo+a)/2) (by lia) c) g
   .rw[l,bq g];refine m lo ((lo+a)/2) (by lia) (by lia) (by lia) h1 (λi h k=>?_);by_cases he:i=(lo+a)/2
    .rw[he];lia
    .have:=U ((lo+a)/2) i (by lia) k;lia
  .rw[Vy,bq b];have:lo=a:=by lia
   subst this;exact⟨d,h1,h2⟩
def ZE {xs:Array Nat}(U:Up xs)(j:Nat):Xr xs j<=xs.size/\(∀i,i<Xr xs j->xs.getD i 0<j)/\(∀i,Xr xs j<=i->i<xs.size->j<=xs.getD i 0) :=
 zln U j xs.size 0 xs.size (by lia) (W3 _) (XW _) (λ_ h=>absurd h (Uc _)) (λi h1 h2=>absurd h2 (by lia))
def JU {xs:Array Nat}{i:Nat}(h:i<xs.size):xs[i]?=some (xs.getD i 0):=by
 simp[Array.getD,h]
def ZF {t:WB}(U:Up t.place){i:Nat}(a:i<t.place.size):t.slot (t.place.getD i 0)=.live i:=by
 have b:=ZE U (t.place.getD i 0);have e:Xr t.place (t.place.getD i 0)=i:=by
  rcases Rp (Xr t.place (t.place.getD i 0)) i with h | h | h
  .have h1:=b.2.2 _ (XW _) (by lia);have h2:=U _ i h a;lia
  .exact h
  .have:=b.2.1 i h;lia
 unfold SetTable.slot;simp only[e,JU a];rw[bw (by simp)]
def slot_of {t:WB}(U:Up t.place)(f:t.dummies=#[])(j:Nat):(∃i,i<t.place.size/\t.place.getD i 0=j/\t.slot j=.live i)\/(t.slot j=.empty/\∀i,i<t.place.size->t.place.getD i 0≠j):=by
 by_cases h:∃i,i<t.place.size/\t.place.getD i 0=j
 .obtain⟨i,a,rfl⟩:=h;exact .inl ⟨i,a,rfl,ZF U a⟩
 .have d:∀i,i<t.place.size->t.place.getD i 0≠j:=λi a e=>h ⟨i,a,e⟩;refine .inr ⟨?_,d⟩;unfold SetTable.slot;have h1:¬ ((t.place[Xr t.place j]?==some j)=true):=λz=>by
   have b:t.place[Xr t.place j]?=some j:=by simpa using z
   have c:Xr t.place j<t.place.size:=by
    rcases Uj (Xr t.place j) t.place.size with q | q
    .exact q
    .rw[WP q]at b;cases b
   rw[JU c]at b;exact d _ c (Option.some.inj b)
  simp only[];rw[bq h1,f];rfl
def Reach (t:WB)(h:Int)(j:Nat):Prop:=∃n:Nat,(walk t.mask (W5 t.mask) (XF h%(t.mask+1)) (XF h))[n]?=some j/\∀k:Nat,k<n->∀a,(walk t.mask (W5 t.mask) (XF h%(t.mask+1)) (XF h))[k]?=some a->∃i,i<t.place.size/\t.place.getD i 0=a
def zaw (t:WB)(h:Int):t.probeStart h=Qw t.mask (XF h%(t.mask+1)) (XF h) none:=rfl
theorem zgj (t:WB):∀n p,(steps t n p).dummy=p.dummy
 | 0,_=>rfl
 | n+1,p=>by
  rw[steps,zgj t n];unfold P0;split<;>rfl
def zgk {t:WB}(U:Up t.place)(VC:Nat->Int){h:Int}{i:Nat}(D:i<t.place.size)(A:VC i=h)(one:∀e,e<t.place.size->VC e=h->e=i)(R:Reach t h (t.place.getD i 0)):∃w,t.probe VC h (t.probeStart h)=some (.candidate (t.place.getD i 0) i w):=by
 obtain⟨n,z,hk⟩:=R;have y:=(X5.mp z).1;have L:=zcD t.mask (W5 t.mask) (XF h%(t.mask+1)) (XF h);have v:∀m:Nat,m<=n->(∀k,k<m->∃e,t.slot (steps t k (t.probeStart h)).j=.live e/\(VC e==h)=false)\/∃f,f<m/\(∀k,k<f->∃e,t.slot (steps t k (t.probeStart h)).j=.live e/\(VC e==h)=false)/\t.slot (steps t f (t.probeStart h)).j=.live i/\(steps t f (t.probeStart h)).j=t.place.getD i 0:=λm=>by
  induction m with
  | zero=>exact λ_=>.inl λk hk=>absurd hk (Uc _)
  | succ m J =>
   intro G;rcases J (by lia) with h1 | ⟨f,a,b⟩
   .have I:∃r,(walk t.mask (W5 t.mask) (XF h%(t.mask+1)) (XF h))[m]?=some r:=⟨_,X0 (by lia)⟩;obtain⟨r,q⟩:=I;obtain⟨e,p,l⟩:=hk m (by lia) r q;have g:(steps t m (t.probeStart h)).j=r:=by
     rw[zaw];exact JT t _ _ _ none m r q
    have s:t.slot (steps t m (t.probeStart h)).j=.live e:=by
     rw[g,<- l];exact ZF U p
    by_cases he:VC e=h
    .have:=one e p he;subst this;exact .inr ⟨m,by lia,h1,s,by rw[g,l]⟩
    .refine .inl λk E=>?_;by_cases u:k=m
     .subst u;exact⟨e,s,by simpa using he⟩
     .exact h1 k (by lia)
   .exact .inr ⟨f,by lia,b⟩
 have o:∀m:Nat,m<10*W5 t.mask->(∀k,k<m->∃e,t.slot (steps t k (t.probeStart h)).j=.live e/\(VC e==h)=false)->t.slot (steps t m (t.probeStart h)).j=.live i->(steps t m (t.probeStart h)).j=t.place.getD i 0->∃w,t.probe VC h (t.probeStart h)=some (.candidate (t.place.getD i 0) i w):=λm G H s g=>by
  unfold SetTable.probe;rw[ze1 t VC h m _ _ H (by lia)];obtain⟨x,B⟩:∃x,10*W5 t.mask-m=x+1:=⟨10*W5 t.mask-m-1,by lia⟩;rw[B,T4,s];simp only[];rw[bw (by simpa using A),g];exact⟨_,rfl⟩
 rcases v n (XW _) with h1 | ⟨f,a,b,c,d⟩
 .have g:(steps t n (t.probeStart h)).j=t.place.getD i 0:=by
   rw[zaw];exact JT t _ _ _ none n _ z
  exact o n (by lia) h1 (by rw[g];exact ZF U D) g
 .exact o f (by lia) b c d
def ze2 {t:WB}(U:Up t.place)(z:t.dummies=#[])(VC:Nat->Int){h:Int}(H:∀i,i<t.place.size->VC i≠h){e:Nat}(he:∀i,i<t.place.size->t.place.getD i 0≠e)(D:e∈walk t.mask (W5 t.mask) (XF h%(t.mask+1)) (XF h)) :
  ∃j,t.probe VC h (t.probeStart h)=some (.empty j none)/\t.slot j=.empty/\Reach t h j/\j∈walk t.mask (W5 t.mask) (XF h%(t.mask+1)) (XF h):=by
 obtain⟨N,u⟩:=Ph.mp D;have v:=(X5.mp u).1;have L:=zcD t.mask (W5 t.mask) (XF h%(t.mask+1)) (XF h);have r:∀m:Nat,m<=N+1->(∀k:Nat,k<m->∀f,(walk t.mask (W5 t.mask) (XF h%(t.mask+1)) (XF h))[k]?=some f->∃i,i<t.place.size/\t.place.getD i 0=f)\/∃g j:Nat,g<m/\(walk t.mask (W5 t.mask) (XF h%(t.mask+1)) (XF h))[g]?=some j/\t.slot j=.empty/\(∀k:Nat,k<g->∀f,(walk t.mask (W5 t.mask) (XF h%(t.mask+1)) (XF h))[k]?=some f->∃i,i<t.place.size/\t.place.getD i 0=f):=λm=>by
  induction m with
  | zero=>exact λ_=>.inl λk hk=>absurd hk (Uc _)
  | succ m E =>
   intro J;rcases E (by lia) with h1 | ⟨g,j,a,b⟩
   .obtain⟨f,l⟩:∃f,(walk t.mask (W5 t.mask) (XF h%(t.mask+1)) (XF h))[m]?=some f:=⟨_,X0 (by lia)⟩;rcases slot_of U z f with ⟨i,o,p,_⟩ | ⟨I,_⟩
    .refine .inl λk A G n=>?_;by_cases q:k=m
     .subst q;rw[l]at n;exact⟨i,o,by rw[p];exact Option.some.inj n⟩
     .exact h1 k (by lia) G n
    .exact .inr (dH m f (by lia) l I h1)
   .exact .inr ⟨g,j,by lia,b⟩
 rcases r (N+1) (XW _) with h1 | ⟨g,j,a,b,c,d⟩
 .obtain⟨i,o,p⟩:=h1 N (by lia) e u;exact absurd p (he i o)
 .refine⟨j,?_,c,⟨g,b,d⟩,X8 b⟩;have x:(steps t g (t.probeStart h)).j=j:=by
   rw[zaw];exact JT t _ _ _ none g j b
  have B:∀k,k<g->∃w,t.slot (steps t k (t.probeStart h)).j=.live w/\(VC w==h)=false:=λk hk=>by
   obtain⟨f,l⟩:∃f,(walk t.mask (W5 t.mask) (XF h%(t.mask+1)) (XF h))[k]?=some f:=⟨_,X0 (by lia)⟩;obtain⟨i,o,p⟩:=d k hk f l;refine⟨i,?_,by simpa using H i o⟩;have:(steps t k (t.probeStart h)).j=f:=by
    rw[zaw];exact JT t _ _ _ none k f l
   rw[this,<- p];exact ZF U o
  unfold SetTable.probe;rw[ze1 t VC h g _ _ B (by lia)];obtain⟨s,y⟩:∃s,10*W5 t.mask-g=s+1:=⟨10*W5 t.mask-g-1,by lia⟩;rw[y,T4,x,c];simp only[zgj];rfl
def orb (m:Nat):Nat->Nat->Nat
 | 0,i=>i
 | n+1,i=>orb m n ((i*5+1)%m)
def zj6 (m:Nat):Nat->Nat->List Nat
 | 0,_=>[]
 | n+1,i=>i::zj6 m n ((i*5+1)%m)
theorem zcE (m:Nat):∀(n i e:Nat),e∈zj6 m n i->∃k,k<n/\orb m k i=e
 | 0,_,_,h=>nomatch h
 | n+1,i,e,h=>by
  rcases XI.mp h with rfl | h
  .exact⟨0,S5 _,rfl⟩
  .obtain⟨k,hk,q⟩:=zcE m n _ e h;exact⟨k+1,by lia,q⟩
theorem zb9 (m:Nat):∀a b i,orb m (a+b) i=orb m b (orb m a i)
 | 0,b,i=>by rw[VQ];rfl
 | a+1,b,i=>by
  rw[show a+1+b=(a+b)+1 from by lia];exact zb9 m a b _
def full {m:Nat}(h1:∀e,e<m->e∈zj6 m m 0)(h2:orb m m 0=0){i e:Nat}(f:i<m)(he:e<m):∃k,k<m+1/\orb m k i=e:=by
 obtain⟨a,g,c⟩:=zcE m m 0 i (h1 i f);obtain⟨b,h,d⟩:=zcE m m 0 e (h1 e he);rcases Uj b a with q | q
 .refine⟨m-a+b,by lia,?_⟩;rw[<- c,<- zb9,show a+(m-a+b)=m+b from by lia,zb9,h2,d]
 .refine⟨b-a,by lia,?_⟩;rw[<- c,<- zb9,show a+(b-a)=b from by lia,d]
def zoS:(∀e,e<8->e∈zj6 8 8 0)/\orb 8 8 0=0:=by decide+kernel
def zlo:(∀e,e<32->e∈zj6 32 32 0)/\orb 32 32 0=0:=by decide+kernel
def ziQ:(∀e,e<128->e∈zj6 128 128 0)/\orb 128 128 0=0:=by decide+kernel
def ZG (a:Nat):Nat->Nat->Nat->AA
 | 0,i,p=>(i,p)
 | n+1,i,p=>ZG a n (Vn a i p).1 (Vn a i p).2
theorem zd9 (c:Nat):∀a b i p,ZG c (a+b) i p=ZG c b (ZG c a i p).1 (ZG c a i p).2
 | 0,b,i,p=>by rw[VQ];rfl
 | a+1,b,i,p=>by
  rw[show a+1+b=(a+b)+1 from by lia];exact zd9 c a b _ _
theorem ziR (a:Nat):∀n i p,(ZG a n i p).2=p/32^n
 | 0,i,p=>by rw[Nat.pow_zero,Nat.div_one];rfl
 | n+1,i,p=>by
  rw[ZG,ziR a n];show p/32/32^n=_;rw[Nat.div_div_eq_div_mul,Ob,PF]
theorem zgl (a:Nat):∀n i p,i<a+1->(ZG a n i p).1<a+1
 | 0,i,p,h=>h
 | n+1,i,p,h=>zgl a n _ _ (RX _ (S5 _))
theorem zea (a:Nat):∀n i,(ZG a n i 0).1=orb (a+1) n i
 | 0,_=>rfl
 | n+1,i=>by
  have b:(Vn a i 0).1=(i*5+1)%(a+1):=rfl;have c:(Vn a i 0).2=0:=rfl;rw[ZG,b,c];exact zea a n _
theorem head_mem (a:Nat):∀(f n i p:Nat),n<f->(ZG a n i p).1∈walk a f i p
 | 0,_,_,_,h=>absurd h (Uc _)
 | f+1,0,i,p,_=>by
  rw[walk];refine WQ _ ?_;unfold run;refine XG.mpr ⟨0,VB.mpr ?_,by rfl⟩;have:=zbe a i;lia
 | f+1,n+1,i,p,h=>by
  rw[walk];exact Xl _ (head_mem a f n _ _ (by lia))
def zgm {a:Nat}(g:a=7\/a=31\/a=127)(h:Int){e:Nat}(he:e<a+1):e∈walk a (W5 a) (XF h%(a+1)) (XF h):=by
 have f:XF h<2^64:=by
  unfold XF;have h1:=V2 h (show (2^64:Int)≠0 by decide);have h2:=V5 h (show (0:Int)<2^64 by decide);lia
 have i:(ZG a 13 (XF h%(a+1)) (XF h)).2=0:=by
  rw[ziR];exact Nat.div_eq_of_lt (TQ f (by decide))
 have b:=zgl a 13 (XF h%(a+1)) (XF h) (RX _ (S5 _));obtain⟨k,hk,d⟩:∃k,k<a+1+1/\orb (a+1) k (ZG a 13 (XF h%(a+1)) (XF h)).1=e:=by
  rcases g with rfl | rfl | rfl
  .exact full zoS.1 zoS.2 b he
  .exact full zlo.1 zlo.2 b he
  .exact full ziQ.1 ziQ.2 b he
 have c:=head_mem a (W5 a) (13+k) (XF h%(a+1)) (XF h) (by unfold W5;lia);rw[zd9,i,zea,d]at c;exact c
def Y8 {α:Type}(xs:Array α){p:Nat}(x:α):(Xh xs p x).toList=xs.toList.take p++x::xs.toList.drop p:=by
 unfold Xh;simp;rw[WD (by rw[VF,X4];lia)]
def zlp {α:Type}(xs:Array α){p:Nat}(b:p<=xs.size)(x:α)(i:Nat):(Xh xs p x)[i]?=if i<p then xs[i]? else if i=p then some x else xs[i-1]?:=by
 have a:(xs.toList.take p).length=p:=by
  rw[XJ,X4];lia
 rw[<- Xy,Y8];by_cases h1:i<p
 .rw[bw h1,V9 (by lia),Rf h1,Xy]
 .rw[bq h1,VV (by lia),a];by_cases h2:i=p
  .rw[bw h2,h2,TM];rfl
  .rw[bq h2,show i-p=(i-p-1)+1 from by lia,PV,Td,Xy];congr 1;lia
def jN {α:Type}(xs:Array α){p:Nat}(a:p<=xs.size)(x:α):(Xh xs p x).size=xs.size+1:=by
 rw[<- X4,Y8,XX,Xi,XJ,VF,X4];lia
def ZH (xs:Array Nat){p:Nat}(a:p<=xs.size)(x i:Nat)(b:i<xs.size+1):(Xh xs p x).getD i 0=if i<p then xs.getD i 0 else if i=p then x else xs.getD (i-1) 0:=by
 have h:=zlp xs a x i;rw[JU (by rw[jN xs a x];exact b)]at h;by_cases h1:i<p
 .rw[bw h1]at h ⊢;rw[JU (by lia)]at h;exact Option.some.inj h
 .rw[bq h1]at h ⊢;by_cases h2:i=p
  .rw[bw h2]at h ⊢;exact Option.some.inj h
  .rw[bq h2]at h ⊢;rw[JU (by lia)]at h;exact Option.some.inj h
def zlq {t:WB}(U:Up t.place)(l:t.dummies=#[]){j:Nat}(he:∀i,i<t.place.size->t.place.getD i 0≠j):(t.put j).2=Xr t.place j/\(t.put j).1={ t with place:=Xh t.place (Xr t.place j) j }/\Up (Xh t.place (Xr t.place j) j):=by
 have b:=ZE U j;refine⟨rfl,?_,λa c f h=>?_⟩
 .unfold SetTable.put;simp only[l];rfl
 .rw[jN _ b.1]at h;rw[ZH _ b.1 _ _ (by lia),ZH _ b.1 _ _ h];have lo:∀i,i<Xr t.place j->t.place.getD i 0<j:=b.2.1;have k:∀i,Xr t.place j<=i->i<t.place.size->j<t.place.getD i 0:=λi h1 h2=>by
   have:=b.2.2 i h1 h2;have:=he i h2;lia
  by_cases d:a<Xr t.place j
  .rw[bw d];by_cases c1:c<Xr t.place j
   .rw[bw c1];exact U a c f (by lia)
   .rw[bq c1];by_cases e:c=Xr t.place j
    .rw[bw e];exact lo a d
    .rw[bq e];have h1:=lo a d;have h2:=k (c-1) (by lia) (by lia);lia
  .have c1:¬ c<Xr t.place j:=by lia
   have e:¬ c=Xr t.place j:=by lia
   rw[bq d,bq c1,bq e];by_cases g:a=Xr t.place j
   .rw[bw g];exact k (c-1) (by lia) (by lia)
   .rw[bq g];exact U (a-1) (c-1) (by lia) (by lia)
def Reach.more {t t':WB}(g:t'.mask=t.mask)(l:∀i,i<t.place.size->∃a,a<t'.place.size/\t'.place.getD a 0=t.place.getD i 0){h:Int}{j:Nat}(R:Reach t h j):Reach t' h j:=by
 obtain⟨n,h1,h2⟩:=R;unfold Reach;rw[g];refine⟨n,h1,λk hk m d=>?_⟩;obtain⟨i,f,e⟩:=h2 k hk m d;obtain⟨a,c,b⟩:=l i f;exact⟨a,c,b.trans e⟩
def zlr {t:WB}(U:Up t.place)(j:Nat):∀i,i<t.place.size->∃a,a<(Xh t.place (Xr t.place j) j).size/\(Xh t.place (Xr t.place j) j).getD a 0=t.place.getD i 0:=λi c=>by
 have b:=ZE U j;by_cases h:i<Xr t.place j
 .refine⟨i,by rw[jN _ b.1];lia,?_⟩;rw[ZH _ b.1 _ _ (by lia),bw h]
 .refine⟨i+1,by rw[jN _ b.1];lia,?_⟩;rw[ZH _ b.1 _ _ (by lia),bq (by lia),bq (by lia),RQ]
theorem ziS (a:Nat)(owner:Array (Option Nat)):∀(f i p:Nat),SetTable.layClean.free a owner f i p=(walk a f i p).find? λj=>(owner.getD j (some 0)).isNone
 | 0,_,_=>rfl
 | f+1,i,p=>by
  rw[SetTable.layClean.free,walk,List.find?_append];unfold run;rw[List.find?_map];have e:((λj=>(owner.getD j (some 0)).isNone)∘λx=>i+x)=λk=>(owner.getD (i+k) (some 0)).isNone:=rfl;rw[e];cases h:(Va (VI a i+1-i)).find? λk=>(owner.getD (i+k) (some 0)).isNone with
  | some k=>rfl
  | none =>
   simp only[Option.map_none,Option.none_or];exact ziS a owner f _ _
structure Own (mask:Nat)(hs:List Int)(owner:Array (Option Nat))(k:Nat):Prop where
 sz:owner.size=mask+1
 few:(owner.toList.countP λo=>o.isNone)+k=mask+1
 at_:∀i,i<k->∃j:Nat,owner[j]?=some (some i)/\∃n:Nat,(walk mask (W5 mask) (XF (hs.getD i 0)%(mask+1)) (XF (hs.getD i 0)))[n]?=some j/\∀m:Nat,m<n->∀j':Nat,(walk mask (W5 mask) (XF (hs.getD i 0)%(mask+1)) (XF (hs.getD i 0)))[m]?=some j'->∃o,owner[j']?=some (some o)
 lt:∀j i:Nat,owner[j]?=some (some i)->i<k
 inj:∀j j' i:Nat,owner[j]?=some (some i)->owner[j']?=some (some i)->j=j'
def Own.nil (a:Nat)(b:List Int):Own a b (Array.replicate (a+1) none) 0:=by
 refine⟨by simp,by rw[Array.toList_replicate,List.countP_replicate];rfl,λi h=>absurd h (Uc _),λj i h=>?_,λj c i h=>?_⟩
 .rw[Ra]at h;split at h<;>cases h
 .rw[Ra]at h;split at h<;>cases h
def count_set {l:List (Option Nat)}:∀{j:Nat} (k:Nat),l[j]?=some none->(l.set j (some k)).countP (λo=>o.isNone)+1=l.countP λo=>o.isNone:=by
 induction l with
 | nil=>exact λ_ h=>by simp at h
 | cons o r a =>
  intro j k h;cases j with
  | zero =>
   have:o=none:=by simpa using h
   subst this;simp[VD]
  | succ j =>
   have:=a k (by simpa using h);rw[List.set_cons_succ,VD,VD];lia
def zj7 {l:List (Option Nat)}(h:0<l.countP λo=>o.isNone):∃j:Nat,l[j]?=some none:=by
 obtain⟨o,c,b⟩:=List.countP_pos_iff.mp h;obtain⟨j,a⟩:=Ph.mp c;refine⟨j,?_⟩;rw[a];cases o with
 | none=>rfl
 | some _=>cases b
def getD_none {owner:Array (Option Nat)}{j:Nat}:(owner.getD j (some 0)).isNone=true↔owner[j]?=some none:=by
 by_cases h:j<owner.size
 .have e:owner[j]?=some (owner.getD j (some 0)):=by simp[Array.getD,h]
  rw[e];cases owner.getD j (some 0)<;>simp
 .have e:owner.getD j (some 0)=some 0:=by simp[Array.getD,h]
  rw[e,WP (by lia)];simp
theorem ze3 (a:Nat):∀(f i p:Nat),i<a+1->∀j∈walk a f i p,j<a+1
 | 0,_,_,_,_,h=>nomatch h
 | f+1,i,p,c,j,h=>by
  rw[walk]at h;rcases XN.mp h with h | h
  .unfold run at h;obtain⟨k,hk,rfl⟩:=XG.mp h;have b:=VB.mp hk;have:VI a i<=a:=by
    unfold VI;split<;>lia
   lia
  .exact ze3 a f _ _ (RX _ (S5 _)) j h
def Own.step {d:Nat}(J:d=7\/d=31\/d=127){g:List Int}{owner:Array (Option Nat)}{k:Nat}(O:Own d g owner k)(hk:k<d+1):∃j,SetTable.layClean.free d owner (W5 d) (XF (g.getD k 0)%(d+1)) (XF (g.getD k 0))=some j/\Own d g (owner.setIfInBounds j (some k)) (k+1):=by
 obtain⟨e,he⟩:=zj7 (l:=owner.toList) (by have:=O.few;lia);rw[Xy]at he;have I:e<owner.size:=by
  rcases Uj e owner.size with q | q
  .exact q
  .rw[WP q]at he;cases he
 have M:=zgm J (g.getD k 0) (e:=e) (by have:=O.sz;lia);rw[ziS];cases A:(walk d (W5 d) (XF (g.getD k 0)%(d+1)) (XF (g.getD k 0))).find? λj=>(owner.getD j (some 0)).isNone with
 | none =>
  have:=List.find?_eq_none.mp A e M;exact absurd (getD_none.mpr he) this
 | some j =>
  refine⟨j,rfl,?_⟩;have y:owner[j]?=some none:=getD_none.mp (List.find?_some (p:=λj=>(owner.getD j (some 0)).isNone) A);have D:j<owner.size:=by
   rcases Uj j owner.size with q | q
   .exact q
   .rw[WP q]at y;cases y
  have get:∀i:Nat,(owner.setIfInBounds j (some k))[i]?=if j=i then some (some k) else owner[i]?:=λi=>by
   rw[Ub];by_cases h:j=i
   .rw[bw h,bw h];simp[D]
   .rw[bq h,bq h]
  have keep:∀(i o:Nat),owner[i]?=some (some o)->(owner.setIfInBounds j (some k))[i]?=some (some o):=λi o h=>by
   rw[get,bq (λz=>by rw[<- z,y]at h;cases h)];exact h
  refine⟨by rw[Tq];exact O.sz,?_,λi Q=>?_,λr i h=>?_,λG H i h1 h2=>?_⟩
  .rw[RK];have:=count_set (l:=owner.toList) (j:=j) k (by rw[Xy];exact y);have:=O.few;lia
  .by_cases B:i=k
   .subst B;refine⟨j,by rw[get,bw rfl],?_⟩;refine fN (λ_=>fL λas bs u L=>?_) (List.find?_eq_some_iff_append.mp A);refine⟨as.length,by rw[u];simp,λm v r f=>?_⟩;rw[u,V9 v]at f;have s:=X8 f;have x:=L r s;have E:r∈walk d (W5 d) (XF (g.getD i 0)%(d+1)) (XF (g.getD i 0)):=by
     rw[u];exact WQ _ s
    cases w:owner[r]? with
    | none =>
     have:=ze3 d (W5 d) _ _ (RX _ (S5 _)) r E;rw[Vw.mpr ⟨by rw[O.sz];exact this,rfl⟩]at w;cases w
    | some o =>
     cases o with
     | none =>
      rw[getD_none.mpr w]at x;cases x
     | some o=>exact⟨o,keep r o w⟩
   .refine fU (λN a n b c=>?_) (O.at_ i (by lia));refine eG N (keep _ _ a) n b (λm v r f=>?_);obtain⟨o,w⟩:=c m v r f;exact⟨o,keep _ _ w⟩
  .rw[get]at h;split at h
   .have:k=i:=by simpa using h
    lia
   .have:=O.lt r i h;lia
  .rw[get]at h1 h2;split at h1<;>split at h2
   .lia
   .have:k=i:=by simpa using h1
    have:=O.lt H i h2;lia
   .have:k=i:=by simpa using h2
    have:=O.lt G i h1;lia
   .exact O.inj G H i h1 h2
theorem zgn {a:Nat}(i:a=7\/a=31\/a=127)(c:List Int)(p:c.length<=a+1):∀(l done:List Int) (owner:Array (Option Nat)),c=done++l->Own a c owner done.length ->
  ∃b,l.foldl (λ(f:Option (Array (Option Nat)×Nat)) h=>do
   let (owner,k) <- f
   let j <- SetTable.layClean.free a owner (W5 a) (XF h%(a+1)) (XF h)
   pure (owner.setIfInBounds j (some k),k+1)) (some (owner,done.length))=some (b,c.length)/\Own a c b c.length
 | [],done,owner,e,O=>by
  rw[WV]at e;subst e;exact⟨owner,rfl,O⟩
 | h::r,done,owner,e,O=>by
  have o:c.getD done.length 0=h:=by
   rw[e];simp[List.getD]
  have d:done.length<a+1:=by
   have:c.length=done.length+(r.length+1):=by rw[e,XX,Xi]
   lia
  obtain⟨j,g,m⟩:=O.step i d;rw[o]at g;obtain⟨b,h1,h2⟩:=zgn i c p r (done++[h]) (owner.setIfInBounds j (some done.length)) (by rw[e,WL];rfl) (by rw[XX];exact m);refine⟨b,?_,h2⟩;rw[XX]at h1;rw[Wp];have n:(do
   let (owner,k) <- (some (owner,done.length):Option (Array (Option Nat)×Nat))
   let j <- SetTable.layClean.free a owner (W5 a) (XF h%(a+1)) (XF h)
   pure (owner.setIfInBounds j (some k),k+1))=some (owner.setIfInBounds j (some done.length),done.length+1):=by
   show (SetTable.layClean.free a owner (W5 a) (XF h%(a+1)) (XF h)).bind _=_;rw[g];rfl
  rw[n];exact h1
def zpV {b:Nat}(d:b=7\/b=31\/b=127)(a:Array Int)(c:a.size<=b+1):∃owner,SetTable.layClean b a=some owner/\Own b a.toList owner a.size:=by
 obtain⟨owner,h1,h2⟩:=zgn d a.toList (by rw[X4];exact c) a.toList [] _ rfl (Own.nil b _);rw[X4]at h1 h2;refine⟨owner,?_,h2⟩;unfold SetTable.layClean;rw[<- Array.foldl_toList];exact congrArg (Option.map (·.1)) h1
def qS (a:Nat)(owner:Array (Option Nat)):AB:=(Va (a+1)).filterMap λj=>(owner.getD j none).map (j,·)
def JV {c:Nat}{owner:Array (Option Nat)}(sz:owner.size=c+1){j i:Nat}:(j,i)∈qS c owner↔owner[j]?=some (some i):=by
 unfold qS;rw[Th];constructor
 .rintro⟨a,ha,h⟩;have d:a<owner.size:=by rw[sz];exact VB.mp ha
  have e:owner[a]?=some (owner.getD a none):=by simp[Array.getD,d]
  cases ho:owner.getD a none with
  | none =>
   rw[ho]at h;cases h
  | some b =>
   rw[ho]at h;have f:(a,b)=(j,i):=Option.some.inj h;cases f;rw[e,ho]
 .intro h;have d:j<owner.size:=by
   rcases Uj j owner.size with q | q
   .exact q
   .rw[WP q]at h;cases h
  have e:owner[j]?=some (owner.getD j none):=by simp[Array.getD,d]
  refine⟨j,VB.mpr (by rw[<- sz];exact d),?_⟩;rw[e]at h;rw[Option.some.inj h];rfl
def ziT (c:Nat)(owner:Array (Option Nat)):(qS c owner).Pairwise λa b=>a.1<b.1:=by
 unfold qS;rw[List.pairwise_filterMap];refine List.pairwise_lt_range.imp λ{a b} f x d y e=>?_;cases h1:owner.getD a none with
 | none=>rw[h1]at d;cases d
 | some p =>
  cases h2:owner.getD b none with
  | none=>rw[h2]at e;cases e
  | some q =>
   rw[h1]at d;rw[h2]at e;have g:(a,p)=x:=Option.some.inj d;have h:(b,q)=y:=Option.some.inj e;rw[<- g,<- h];exact f
def zj8 {c:Nat}{s:List Int}{owner:Array (Option Nat)}{k:Nat}(O:Own c s owner k):((qS c owner).map (·.2)).Perm (Va k):=by
 have u:((qS c owner).map (·.2)).Nodup:=by
  refine Wc.mpr ((ziT c owner).imp_of_mem λ{a b} o p d e=>?_);obtain⟨f,g⟩:=a;obtain⟨h,m⟩:=b;have n:g=m:=e;subst n;have:=O.inj f h g ((JV O.sz).mp o) ((JV O.sz).mp p);have l:f<h:=d;lia
 refine(Wf u List.nodup_range).mpr λi=>?_;rw[VB,XG];constructor
 .rintro⟨⟨j,i'⟩,hm,rfl⟩;exact O.lt j _ ((JV O.sz).mp hm)
 .intro q;obtain⟨j,r,_⟩:=O.at_ i q;exact⟨(j,i),(JV O.sz).mpr r,rfl⟩
def znI {mask:Nat}(G:mask=7\/mask=31\/mask=127)(finger moves:Nat)(led plain:Bool)(e:Array Int)(E:e.size<=mask+1):∃place f,SetTable.laid mask finger moves led plain e=some ({ mask:=mask,place:=place,dummies:=#[],finger:=finger,led:=led,moves:=moves,plain:=plain },f) /\
  Up place/\place.size=e.size/\f.size=e.size/\f.toList.Perm (Va e.size)/\(∀i,i<place.size->place.getD i 0<mask+1) /\
  ∀i,i<place.size->Reach { mask:=mask,place:=place,dummies:=#[],finger:=finger,led:=led,moves:=moves,plain:=plain } (e.toList.getD (f.getD i 0) 0) (place.getD i 0):=by
 obtain⟨d,h1,O⟩:=zpV G e E;have perm:=zj8 O;have up:=ziT mask d;have z:(qS mask d).length=e.size:=by
  have:=perm.length_eq;rw[ZB,S0]at this;exact this
 have p:∀i (h:i<(qS mask d).length),((qS mask d).map (·.1)).toArray.getD i 0=((qS mask d)[i]).1:=λi h=>by
  simp[Array.getD,h]
 have H:∀i (h:i<(qS mask d).length),((qS mask d).map (·.2)).toArray.getD i 0=((qS mask d)[i]).2:=λi h=>by
  simp[Array.getD,h]
 refine dR ((qS mask d).map (·.1)).toArray ((qS mask d).map (·.2)).toArray ?_ (λi j s D=>?_) (by simp[z]) (by simp[z]) (eE perm (λi r=>?_) (λi r=>?_))
 .unfold SetTable.laid;rw[h1];rfl
 .have m:j<(qS mask d).length:=by simpa using D
  rw[p i (by lia),p j m];exact Vu.mp up i j (by lia) m s
 .have g:i<(qS mask d).length:=by simpa using r
  rw[p i g];have l:=TH g;have:=(JV O.sz (j:=(qS mask d)[i].1) (i:=(qS mask d)[i].2)).mp l;rw[<- O.sz];rcases Uj (qS mask d)[i].1 d.size with q | q
  .exact q
  .rw[WP q]at this;cases this
 .have g:i<(qS mask d).length:=by simpa using r
  rw[p i g,H i g];have l:=TH g;have v:=(JV O.sz (j:=(qS mask d)[i].1) (i:=(qS mask d)[i].2)).mp l;refine fU (λI a n b c=>?_) (O.at_ _ (O.lt _ _ v));have A:=O.inj _ _ _ a v;rw[A]at b;refine⟨n,b,λk hk y m=>?_⟩;obtain⟨o,u⟩:=c k hk y m;obtain⟨x,w,B⟩:=TC ((JV O.sz).mpr u);refine⟨x,by simpa using w,?_⟩;show ((qS mask d).map (·.1)).toArray.getD x 0=y;rw[p x w,B]
structure Good (t:WB)(hs:Array Int):Prop where
 mask:t.mask=7\/t.mask=31\/t.mask=127
 sz:t.place.size=hs.size
 dum:t.dummies=#[]
 up:Up t.place
 le:∀i,i<t.place.size->t.place.getD i 0<t.mask+1
 room:t.place.size*5<t.mask*3
 reach:∀i,i<t.place.size->Reach t (hs.toList.getD i 0) (t.place.getD i 0)
def Good.free {t:WB}{r:Array Int}(G:Good t r):∃e,e<t.mask+1/\∀i,i<t.place.size->t.place.getD i 0≠e:=by
 refine RI λp=>?_;have all:∀e,e<t.mask+1->∃i,i<t.place.size/\t.place.getD i 0=e:=λe he=>RI λh2=>p ⟨e,he,λi c z=>h2 ⟨i,c,z⟩⟩;have y:=G.room;have f:∀e,e<t.mask+1->∃i,i<t.place.size/\e<=i:=λe=>by
  induction e with
  | zero=>exact λh=>let ⟨i,c,_⟩:=all 0 h;⟨i,c,W3 _⟩
  | succ e B =>
   intro h;obtain⟨i,c,n⟩:=all (e+1) h;obtain⟨A,o,j⟩:=all e (by lia);have cnt:∀d,d<=e+1->∃i,i<t.place.size/\t.place.getD i 0=d/\d<=i:=λd=>by
    induction d with
    | zero=>exact λ_=>let ⟨i,c,he⟩:=all 0 (by lia);⟨i,c,he,W3 _⟩
    | succ d g =>
     intro w;obtain⟨a,l,v,D⟩:=g (by lia);obtain⟨b,m,k⟩:=all (d+1) (by lia);have:a<b:=by
      rcases Rp a b with q | q | q
      .exact q
      .subst q;lia
      .have:=G.up b a q l;lia
     exact⟨b,m,k,by lia⟩
   obtain⟨x,s,_,u⟩:=cnt (e+1) (XW _);exact⟨x,s,u⟩
 obtain⟨i,c,E⟩:=f t.mask (by lia);lia
def Good.found {t:WB}{a:Array Int}(G:Good t a)(VC:Nat->Int)(f:∀i,i<a.size->VC i=a.toList.getD i 0)(j:a.toList.Nodup){i:Nat}(c:i<a.size):∃l,t.probe VC (a.toList.getD i 0) (t.probeStart (a.toList.getD i 0))=some (.candidate (t.place.getD i 0) i l):=by
 have d:∀k (h:k<a.size),a.toList.getD k 0=a.toList[k]'(by rw[X4];exact h):=λk h=>by
  rw[XC,X0 (by rw[X4];exact h)];rfl
 refine zgk G.up VC (by rw[G.sz];exact c) (f i c) (λg b e=>?_) (G.reach i (by rw[G.sz];exact c));rw[G.sz]at b;rw[f g b,d g b,d i c]at e;exact(List.getElem_inj j).mp e
def Good.missed {t:WB}{b:Array Int}(G:Good t b)(VC:Nat->Int)(g:∀i,i<b.size->VC i=b.toList.getD i 0){h:Int}(l:h ∉ b.toList):∃j,t.probe VC h (t.probeStart h)=some (.empty j none)/\j<t.mask+1/\(∀i,i<t.place.size->t.place.getD i 0≠j)/\Reach t h j:=by
 obtain⟨e,he,k⟩:=G.free;have c:∀i,i<t.place.size->VC i≠h:=λi a z=>by
  rw[G.sz]at a;rw[g i a,XC,X0 (by rw[X4];exact a)]at z;have m:b.toList[i]'(by rw[X4];exact a)=h:=z;exact l (m ▸ TH _)
 refine gr (λj h1 h2 d f=>?_) (ze2 G.up G.dum VC (h:=h) c k (zgm G.mask h he));refine⟨j,h1,ze3 _ _ _ _ (RX _ (S5 _)) j f,λi a z=>?_,d⟩;rw[<- z,ZF G.up a]at h2;cases h2
theorem Good.put {t:WB}{c:Array Int}(G:Good t c){h:Int}{j:Nat}(o:j<t.mask+1)(he:∀i,i<t.place.size->t.place.getD i 0≠j)(R:Reach t h j)(e:(t.place.size+1)*5<t.mask*3):Good (t.put j).1 (Xh c (t.put j).2 h):=by
 obtain⟨n,m,U⟩:=zlq G.up G.dum he;have b:=ZE G.up j;rw[n,m];have bs:Xr t.place j<=c.size:=by rw[<- G.sz];exact b.1
 have d:∀i,(Xh c (Xr t.place j) h).toList.getD i 0=if i<Xr t.place j then c.toList.getD i 0 else if i=Xr t.place j then h else c.toList.getD (i-1) 0:=λi=>by
  rw[XC,Xy,zlp c bs];split
  .rw[XC,Xy]
  .split
   .rfl
   .rw[XC,Xy]
 have more:∀{g:Int} {k:Nat},Reach t g k->Reach { t with place:=Xh t.place (Xr t.place j) j } g k:=λl=>Reach.more (t:=t) (t':={ t with place:=Xh t.place (Xr t.place j) j }) rfl (zlr G.up j) l;refine⟨G.mask,?_,G.dum,U,λi f=>?_,?_,λi f=>?_⟩
 .show (Xh t.place _ j).size=_;rw[jN _ b.1,jN _ bs,G.sz]
 .have a:i<t.place.size+1:=by
   have:=f;rw[show ({ t with place:=Xh t.place (Xr t.place j) j }:WB).place=Xh t.place (Xr t.place j) j from rfl,jN _ b.1]at this;exact this
  show (Xh t.place _ j).getD i 0<t.mask+1;rw[ZH _ b.1 _ _ a];split
  .exact G.le i (by lia)
  .split
   .exact o
   .exact G.le (i-1) (by lia)
 .show (Xh t.place _ j).size*5<t.mask*3;rw[jN _ b.1];exact e
 .have a:i<t.place.size+1:=by
   have:=f;rw[show ({ t with place:=Xh t.place (Xr t.place j) j }:WB).place=Xh t.place (Xr t.place j) j from rfl,jN _ b.1]at this;exact this
  show Reach _ _ ((Xh t.place _ j).getD i 0);rw[d,ZH _ b.1 _ _ a];by_cases h1:i<Xr t.place j
  .rw[bw h1,bw h1];exact more (G.reach i (by lia))
  .rw[bq h1,bq h1];by_cases h2:i=Xr t.place j
   .rw[bw h2,bw h2];exact more R
   .rw[bq h2,bq h2];exact more (G.reach (i-1) (by lia))
def zhO (t:WB)(b:Array Int)(p:b.size=5\/b.size=19):∃t' a,t.relaid b (Uw b.size)=some (t',a)/\a.size=b.size/\a.toList.Perm (Va b.size)/\t'.led=t.led/\t'.plain=t.plain/\t'.place.size=b.size/\Good t' (a.map λi=>b.toList.getD i 0):=by
 have c:∀mask,(mask=7\/mask=31\/mask=127)->b.size<=mask+1->b.size*5<mask*3->Tc (Uw b.size)-1=mask->∃t' a,t.relaid b (Uw b.size)=some (t',a)/\a.size=b.size/\a.toList.Perm (Va b.size)/\t'.led=t.led/\t'.plain=t.plain/\t'.place.size=b.size/\Good t' (a.map λi=>b.toList.getD i 0):=λmask j o q k=>by
  refine fS (λplace a h1 h2 d g=>fO λl m n=>?_) (znI j t.finger (t.movedTo mask) t.led t.plain b o);refine dR { mask:=mask,place:=place,dummies:=#[],finger:=t.finger,led:=t.led,moves:=t.movedTo mask,plain:=t.plain } a ?_ g l rfl (eE rfl d ⟨j,?_,rfl,h2,m,?_,λi h=>?_⟩)
  .unfold SetTable.relaid;rw[k];exact h1
  .show place.size=_;rw[Vf,d,g]
  .show place.size*5<mask*3;rw[d];exact q
  .have f:i<a.size:=by
    have:i<place.size:=h;lia
   have e:(a.map λi=>b.toList.getD i 0).toList.getD i 0=b.toList.getD (a.getD i 0) 0:=by
    rw[XC,Xy,Array.getElem?_map,JU f];rfl
   rw[e];exact n i h
 rcases p with e | e
 .exact c 31 (.inr (.inl rfl)) (by lia) (by lia) (by rw[e];decide+kernel)
 .exact c 127 (.inr (.inr rfl)) (by lia) (by lia) (by rw[e];decide+kernel)
def qy (a:Array (Int×X9))(ep:Nat)(t:WB):Obj:={ cls:=.type "set",dict:=none,data:=.set a ep t }
def kP (p:Int×Int):List Key:=[.inl p.1,.inl p.2]
def InB (p:Int×Int):Prop:=(0<=p.1/\p.1<8)/\(0<=p.2/\p.2<8)
def hP (prog:Xs)(w:Xd)(p:Int×Int):Int:=(tk2 prog w).hash (kP p)
section
variable {prog:Xs}{w:Xd}{A:WY}{E:X9->X7->Prop}{s:X7}{a:Addr}{es:Array (Int×X9)}{ep:Nat}{t:WB}
def zpW {p q:Int×Int}(x:InB p)(y:InB q)(e:hP prog w p=hP prog w q):p=q:=by
 obtain⟨a,b⟩:=p;obtain⟨f,g⟩:=q;obtain⟨⟨h,m⟩,n,o⟩:=x;obtain⟨⟨r,s⟩,u,v⟩:=y;simp only at h m n o r s u v;obtain⟨i,rfl⟩:∃i:Nat,a=i:=⟨a.toNat,by lia⟩;obtain⟨j,rfl⟩:∃i:Nat,b=i:=⟨b.toNat,by lia⟩;obtain⟨k,rfl⟩:∃i:Nat,f=i:=⟨f.toNat,by lia⟩;obtain⟨l,rfl⟩:∃i:Nat,g=i:=⟨g.toNat,by lia⟩;unfold hP kP at e;rw[Yn,Yn]at e;obtain⟨c,d⟩:=zgh (by lia) (by lia) (by lia) (by lia) e;rw[c,d]
def JW {h:Heap}{x:Addr}{p:Int×Int}(h1:zD h (.ref x) p):(tk2 prog w).is h (kP p) x:=by
 obtain⟨b,o,n,t,u,e,a,c,d⟩:=h1;cases e;exact dN o (#[.int p.1 t,.int p.2 u]) n a c d (.cons (za3 p.1 t) (.cons (za3 p.2 u) .nil))
theorem Good.fits {a:Array Int}(G:Good t a):t.fits a.size=true:=by
 have h1:=G.sz;have h2:=G.room;unfold SetTable.fits Ot;rw[G.dum,h1];simp;lia
def Good.odd {a:Array Int}(G:Good t a):t.gaveWay=false:=by
 unfold SetTable.gaveWay;rcases G.mask with e | e | e<;>rw[e]<;>rfl
def x8 {Q:Array (Int×X9)×Nat×WB->X7->Prop}(b:s.heap.get? a=some (qy es ep t))(G:Good t (es.map (·.1)))(q:Q (es,ep,t) s):Xu (Xx prog w) A (setState a) Q E s:=by
 refine SZ b rfl ?_ q;have:=G.fits;rwa [Vf]at this
def ze4 (i:Nat)(a:i<(es.map (·.1)).size):(es[i]?.map (·.1)).getD 0=(es.map (·.1)).toList.getD i 0:=by
 rw[XC,Xy,Array.getElem?_map]
def zdu {n:Nat}{h:Int}{x:X9}{Q:SetFound->X7->Prop}(g:s.heap.get? a=some (qy es ep t))(G:Good t (es.map (·.1)))(k:h ∉ (es.map (·.1)).toList)
  (d:∀j,j<t.mask+1->(∀i,i<t.place.size->t.place.getD i 0≠j)->Reach t h j->Q (.free j false) s):Xu (Xx prog w) A (Rj a x h true (n+1) none) Q E s:=by
 refine gr (λj e h1 h2 c=>?_) (G.missed (λi=>(es[i]?.map (·.1)).getD 0) ze4 k);rw[Rj];refine Y1 (x8 g G ?_);dsimp only;rw[G.odd,bq XS];generalize f:t.probe _ h _=m;have b:m=some (.empty j none):=f.symm.trans e;subst b;exact XR (d j h1 h2 c)
def zeb {d:Nat}{x:Addr}{p:Int×Int}{Q:Bool->X7->Prop}(z:zD s.heap (.ref x) p)(q:Q false s):Xu (Xx prog w) A (SY 8 (.ref x)) Q E s:=by
 obtain⟨b,o,n,t,u,e,j,l,m⟩:=z;cases e;have y:s.TypeIs (.ref x) "tuple":=⟨o,j,l⟩;unfold SY;refine Y1 (R5 y ?_);dsimp only;rw[bw (by decide)];refine Y1 (XR ?_);rw[bq (by decide)];refine Y1 (wpAny_seqItems j m ?_);dsimp only;refine Y1 ?_;rw[<- RR];refine TJ _ (λc r h=>r.1=none/\h=s/\∀v∈c,∃i t,v=Vs i t) _ ?_ ?_ _ _ ⟨rfl,rfl,λv k=>?_⟩
 .rintro v c r h ⟨f,rfl,a⟩;obtain⟨i,t,rfl⟩:=a v XT;rw[show SY 7 (Vs i t)=pure false by unfold SY;rfl];refine Y1 (XR ?_);rw[bq XS];exact XR ⟨rfl,rfl,λu g=>a u (XU _ g)⟩
 .rintro⟨r1,r2⟩ h ⟨f,rfl,_⟩;simp only at f;subst f;exact XR q
 .simp at k;rcases k with rfl | rfl
  .exact⟨_,_,rfl⟩
  .exact⟨_,_,rfl⟩
def zls {x:Addr}{p:Int×Int}{l:List X9}{Q:Bool->X7->Prop}(i:zD s.heap (.ref x) p)(j:∀v∈l,∃b q,v=.ref b/\zD s.heap (.ref b) q)(q:Q false s):Xu (Xx prog w) A (searchCouldBeSeen (.ref x) l) Q E s:=by
 unfold searchCouldBeSeen;refine Y1 ?_;refine TJ _ (λc r g=>r.1=none/\g=s/\∀v∈c,∃b q,v=.ref b/\zD s.heap (.ref b) q) _ ?_ ?_ _ _ ⟨rfl,rfl,j⟩
 .refine λv c r g=>fO λf z0 a=>?_;subst z0;refine fL (λb k z0 h=>?_) (a v XT);subst z0;dsimp only;split
  .exact XR ⟨rfl,rfl,λu e=>a u (XU _ e)⟩
  .refine Y1 ((tk2 prog w).quiet (JW i) ?_);rw[bq (by decide)];refine Y1 ((tk2 prog w).quiet (JW h) ?_);rw[bq (by decide)];refine Y1 (zeb (d:=0) i ?_);rw[bq XS];refine Y1 (zeb (d:=0) h ?_);rw[bq XS];exact XR ⟨rfl,rfl,λu e=>a u (XU _ e)⟩
 .rintro⟨r1,r2⟩ g ⟨f,rfl,_⟩;simp only at f;subst f;exact XR q
def zlt {x:Addr}{p:Int×Int}{Q:Bool->X7->Prop}(y:zD s.heap (.ref x) p)(q:Q true s):Xu (Xx prog w) A (O7 8 (.ref x)) Q E s:=by
 obtain⟨b,o,n,t,u,e,h,k,l⟩:=y;cases e;have m:s.TypeIs (.ref x) "tuple":=⟨o,h,k⟩;unfold O7;refine Y1 (To m PySem.F.slot_tuple_hash.lookup ?_);dsimp only;refine Y1 (wpAny_seqItems h l ?_);dsimp only[Option.getD];refine Y1 ?_;rw[<- RR];refine TJ _ (λc r g=>r.1=none/\g=s/\∀v∈c,∃i t,v=Vs i t) _ ?_ ?_ _ _ ⟨rfl,rfl,λv j=>?_⟩
 .rintro v c r g ⟨d,rfl,a⟩;obtain⟨i,t,rfl⟩:=a v XT;rw[show O7 7 (Vs i t)=pure true by unfold O7;rfl];refine Y1 (XR ?_);rw[bq (by decide)];exact XR ⟨rfl,rfl,λu f=>a u (XU _ f)⟩
 .rintro⟨r1,r2⟩ g ⟨d,rfl,_⟩;simp only at d;subst d;exact XR q
 .simp at j;rcases j with rfl | rfl
  .exact⟨_,_,rfl⟩
  .exact⟨_,_,rfl⟩
def ze5 {n:Nat}{h:Int}{x b:Addr}{p:Int×Int}{i:Nat}{Q:SetFound->X7->Prop}(l:A.units<VL)(f:s.heap.get? a=some (qy es ep t))(G:Good t (es.map (·.1)))(z:(es.map (·.1)).toList.Nodup)
  (all:∀e∈es.toList,∃b q,e.2=WM b/\zD s.heap (.ref b) q) (d:es[i]?=some (h,.ref b)) (g:zD s.heap (.ref x) p) (k:zD s.heap (.ref b) p)
  (j:Q (.there none) s):Xu (Xx prog w) A (Rj a (.ref x) h true (n+1) none) Q E s:=by
 have c:i<(es.map (·.1)).size:=by
  rw[Vf];exact(Vw.mp d).1
 have o:(es.map (·.1)).toList.getD i 0=h:=by
  rw[<- ze4 i c,d];rfl
 obtain⟨B,e⟩:=G.found (λi=>(es[i]?.map (·.1)).getD 0) ze4 z c;rw[o]at e;rw[Rj];refine Y1 (x8 f G ?_);dsimp only;rw[G.odd,bq XS];generalize u:t.probe _ h _=m;have r:m=some (.candidate (t.place.getD i 0) i B):=u.symm.trans e;subst r;dsimp only;have seen:∀v∈(es.filter (·.1==h)).toList.map (·.2),∃b q,v=WM b/\zD s.heap (.ref b) q:=λv y=>by
  obtain⟨e,he,rfl⟩:=XG.mp y;rw[OG]at he;exact all e (XO.mp he).1
 rw[d];cases hl:t.led with
 | true =>
  rw[bq (by decide)];refine Y1 (VT ((tk2 prog w).eqBool l (JW k) (JW g) ?_));refine Y1 (x8 f G ?_);dsimp only;rw[br rfl,bw (by decide)];exact XR j
 | false =>
  rw[bw (by decide)];refine Y1 (zls g seen ?_);rw[bq XS];refine Y1 (VT ((tk2 prog w).eqBool l (JW k) (JW g) ?_));refine Y1 (x8 f G ?_);dsimp only;rw[br rfl,bw (by decide)];exact XR j
end
def zcF (f:Int×Int->Int)(q:Addr×(Int×Int)):Int×X9:=(f q.2,WM q.1)
structure zdv (f:Int×Int->Int)(led:Bool)(h:Heap)(a:Addr)(ks:List (Addr×(Int×Int))):Prop where
 ex:∃es ep t,h.get? a=some (qy es ep t)/\es.toList=ks.map (zcF f)/\Good t (es.map (·.1))/\t.led=led/\t.plain=true
 nd:(ks.map (·.2)).Nodup
 cells:∀q∈ks,zD h (.ref q.1) q.2
 inb:∀q∈ks,InB q.2
def zD.up {h h':Heap}{x:Addr}{p:Int×Int}(H:zD h (.ref x) p){a:Addr}(j:V7 a h h'){o:Obj}(i:h.get? a=some o)(g:o.cls=.type "set"):zD h' (.ref x) p:=by
 obtain⟨b,k,n,t,u,e,c,d,f⟩:=H;cases e;refine⟨x,k,n,t,u,rfl,?_,d,f⟩;rw[j.2 x λz=>?_]
 .exact c
 .subst z;rw[i]at c;cases c;rw[g]at d;exact absurd d (by decide)
section
variable {prog:Xs}{w:Xd}{A:WY}{E:X9->X7->Prop}{s:X7}{a:Addr}{es:Array (Int×X9)}{ep:Nat}{t:WB}{ks:List (Addr×(Int×Int))}{f:Int×Int->Int}{led:Bool}
def Yo (he:es.toList=ks.map (zcF f)):(es.map (·.1)).toList=ks.map λq=>f q.2:=by
 rw[UZ,he,Wo];rfl
def zj9 (inj:∀p q,InB p->InB q->f p=f q->p=q)(b:(ks.map (·.2)).Nodup)(a:∀q∈ks,InB q.2):(ks.map λq=>f q.2).Nodup:=by
 rw[PJ,Wc]at b ⊢;refine b.imp_of_mem λ{x y} c d h e=>h (inj _ _ (a x c) (a y d) e)
def zgo {b:Array (Int×X9)}{t':WB}{Q:Unit->X7->Prop}(c:s.heap.get? a=some (qy es ep t))(hz:b.size<=64)
  (q:∀h',V7 a s.heap h'->h'.get? a=some (qy b (ep+1) t')->Q () { s with heap:=h' }):Xu (Xx prog w) A (storeSet a b t') Q E s:=by
 refine wpAny_storeSet_of (o:=qy es ep t) c rfl (q _ (Wz ..) ?_) (X6 hz (by rw[S9];decide));have:=Wt (Obj.putSet b t') c (by rw[putSet_of b t' (o:=qy es ep t) rfl];rfl);rw[putSet_of b t' (o:=qy es ep t) rfl]at this;exact this
theorem zgp {α:Type}(d:α)(xs:Array α):∀(l:List Nat),(∀i∈l,i<xs.size)->l.filterMap (λi=>xs[i]?)=l.map λi=>xs.toList.getD i d
 | [],_=>rfl
 | i::l,h=>by
  have a:=h i XT;rw[U8,Xw,Vt a];dsimp only;rw[zgp d xs l λj b=>h j (XU _ b)];congr 1;rw[XC,Xy,Vt a];rfl
def ze6 {n:Nat}(a:n=5\/n=19):¬ Tc (Uw n)>Xz:=by
 rw[S9];rcases a with rfl | rfl
 .rw[show Tc (Uw 5)=32 by decide+kernel];lia
 .rw[show Tc (Uw 19)=128 by decide+kernel];lia
def zlu {Q:Unit->X7->Prop}(v:s.heap.get? a=some (qy es ep t))(G:t.fits es.size=true)(u:es.size=5\/es.size=19)(he:es.toList=ks.map (zcF f))
  (q:∀(h':Heap) (c:Array (Int×X9)) (t':WB) (k:List (Addr×(Int×Int))),V7 a s.heap h'->h'.get? a=some (qy c (ep+1) t')->c.toList=k.map (zcF f)->k.Perm ks->Good t' (c.map (·.1))->t'.led=t.led->t'.plain=t.plain->Q () { s with heap:=h' }):Xu (Xx prog w) A (setRelay a (Uw es.size)) Q E s:=by
 have j:(es.map (·.1)).size=es.size:=Vf ..;refine fS (λt' b p r l x=>fO λy z B=>?_) (zhO t (es.map (·.1)) (by rw[j];exact u));rw[j]at p r l z;have d:∀i∈b.toList,i<es.size:=λi h=>VB.mp (l.mem_iff.mp h);have n:ks.length=es.size:=by
  rw[<- X4,he,ZB]
 have e:Addr×(Int×Int):=(0,(0,0));have m:(b.filterMap (es[·]?)).toList=(b.toList.map λi=>ks.getD i e).map (zcF f):=by
  rw[Array.toList_filterMap,zgp (zcF f e) es b.toList d,Wo];refine Wi λi h=>?_;have h1:=d i h;show es.toList.getD i _=zcF f (ks.getD i e);rw[he,XC,Xv,XC,X0 (by lia),UP,TK,TK]
 have g:(b.filterMap (es[·]?)).size=es.size:=by
  rw[<- X4,m,ZB,ZB,X4,r]
 unfold setRelay;refine Y1 (SZ (o:=qy es ep t) v rfl G ?_);dsimp only;rw[bq (ze6 u),p];refine Y1 ?_;show Xu (Xx prog w) A (do
  let c:=b.filterMap (es[·]?)
  if c.size != es.size then Rx "internal:set-table-lost-an-element"
  pure (c,t')) _ _ _
 dsimp only;rw[g,bq (by simp)];refine XR ?_;dsimp only;refine zgo v (by rw[g];lia) λh' h1 h2=>q h' _ t' _ h1 h2 m ?_ ?_ x y
 .have:=l.map λi=>ks.getD i e;rw[<- n,zhF]at this;exact this
 .have D:(b.filterMap (es[·]?)).map (·.1)=b.map λi=>(es.map (·.1)).toList.getD i 0:=by
   apply Array.toList_inj.mp;rw[Yo m,UZ,Wo];refine Wi λi h=>?_;have h1:=d i h;show f (ks.getD i e).2=_;rw[Yo he,XC,XC,Xv,X0 (by lia),UP,TK,TK]
  rw[D];exact B
def zlv {n:Nat}{x:Addr}{p:Int×Int}{Q:Bool->X7->Prop}(inj:∀p q,InB p->InB q->f p=f q->p=q)(hu:A.units<VL)(S:zdv f led s.heap a ks)(hx:zD s.heap (.ref x) p)(hb:InB p)(hn:p ∉ ks.map (·.2)->ks.length<63)
  (q:∀(b:Bool) (h':Heap) (d:List (Addr×(Int×Int))),V7 a s.heap h'->zdv f led h' a d->(∀c,c∈d.map (·.2)↔c∈ks.map (·.2)\/c=p)->(∀c∈d,c∈ks\/c=(x,p))->Q b { s with heap:=h' }) :
  Xu (Xx prog w) A (setAddHashedIn a (.ref x) (f p) (n+1)) Q E s:=by
 obtain⟨⟨es,ep,t,I,he,G,hl,hp⟩,nd,hc,H⟩:=S;have aj:ks.length=es.size:=by
  rw[<- X4,he,ZB]
 generalize hh:f p=h;rw[setAddHashedIn];refine Y1 (x8 I G ?_);dsimp only;rw[show byScan (.ref x) es=false by simp[byScan,Value.scannable],bq XS];by_cases hm:p∈ks.map (·.2)
 .obtain⟨⟨b,p'⟩,hk,e⟩:=XG.mp hm;simp only at e;subst e;obtain⟨i,hi,ei⟩:=TC hk;have eg:es[i]?=some (h,.ref b):=by
   rw[<- Xy,he,Xv,X0 hi,ei,<- hh];rfl
  unfold setSearch;refine Y1 (ze5 (n:=99999) hu I G (by rw[Yo he];exact zj9 inj nd H) (λe ac=>?_) eg hx (hc _ hk) ?_)
  .rw[he]at ac;obtain⟨c,h1,rfl⟩:=XG.mp ac;exact⟨c.1,c.2,rfl,hc c h1⟩
  .refine XR (q false s.heap ks (Heap.SameBut.refl _ _) ⟨⟨es,ep,t,I,he,G,hl,hp⟩,nd,hc,H⟩ (λc=>⟨.inl,λz=>z.elim id λz=>z ▸ hm⟩) λc h1=>.inl h1)
 .have ah:=hn hm;have no:h ∉ (es.map (·.1)).toList:=λz=>by
   rw[Yo he,<- hh]at z;obtain⟨c,h1,h2⟩:=XG.mp z;exact hm (XG.mpr ⟨c,h1,inj _ _ (H c h1) hb h2⟩)
  unfold setSearch;refine Y1 (zdu (n:=99999) I G no λj h1 h2 h3=>?_);dsimp only;refine Y1 (x8 I G ?_);refine fO (λf1 f2 f3=>?_) (zlq G.up G.dum h2);have g:t.place.size=es.size:=by rw[G.sz,Vf]
  have bs:Xr t.place j<=es.size:=by
   rw[<- g];exact(ZE G.up j).1
  generalize ai:Xr t.place j=pos at f1 f2 f3 bs;have o:(t.put j).1.plain=true:=by rw[f2];exact hp
  have B:(t.put j).1.led=led:=by rw[f2];exact hl
  have D:∃y,y=ks.take pos++(x,p)::ks.drop pos:=⟨_,rfl⟩;obtain⟨y,D⟩:=D;have ab:(Xh es pos (h,WM x)).toList=y.map (zcF f):=by
   rw[Y8,he,D,XA,Xw,List.map_take,List.map_drop];simp only[zcF,hh]
  have m:(Xh es pos (h,WM x)).size=es.size+1:=jN _ bs _;have pm:y.Perm ((x,p)::ks):=by
   rw[D];refine List.perm_middle.trans (List.Perm.cons _ ?_);rw[W9]
  have l:(t.put j).1.fits (Xh es pos (h,WM x)).size=true:=by
   have hr:=G.room;have bp:pos<=t.place.size:=by rw[g];exact bs
   rw[m,f2];unfold SetTable.fits Ot;simp only[G.dum,jN _ bp,g];rcases G.mask with e | e | e<;>simp[e]<;>rw[g,e]at hr<;>lia
  have aa:∀(h':Heap) (d:List (Addr×(Int×Int))) (k:Array (Int×X9)) (L:Nat) (J:WB),V7 a s.heap h'->h'.get? a=some (qy k L J)->k.toList=d.map (zcF f)->d.Perm ((x,p)::ks)->Good J (k.map (·.1))->J.led=led->J.plain=true->Q true { s with heap:=h' }:=by
   intro h' d k L J hs hg M u hG N U;have Y:∀c,c∈d↔c=(x,p)\/c∈ks:=λc=>by rw[u.mem_iff,XI]
   refine q true h' d hs ⟨⟨k,L,J,hg,M,hG,N,U⟩,?_,λc r=>?_,λc r=>?_⟩ (λc=>?_) λc r=>(Y c).mp r |>.symm
   .rw[(u.map (·.2)).nodup_iff,Xw,Wq];exact⟨hm,nd⟩
   .rcases(Y c).mp r with rfl | z
    .exact zD.up hx hs I rfl
    .exact zD.up (hc c z) hs I rfl
   .rcases(Y c).mp r with rfl | z
    .exact hb
    .exact H c z
   .rw[(u.map (·.2)).mem_iff,Xw,XI];exact Or.comm
  have eT:t.put j=((t.put j).1,pos):=by rw[<- f1]
  have fl:(t.put j).1.tooFull=decide ((es.size+1)*5 >= t.mask*3):=by
   have bp:pos<=t.place.size:=by rw[g];exact bs
   rw[f2];unfold SetTable.tooFull Ot;simp only[G.dum,jN _ bp,g];rfl
  have gd:¬ (es.size+1)*5 >= t.mask*3->Good (t.put j).1 ((Xh es pos (h,WM x)).map (·.1)):=λhr=>by
   have:=G.put (h:=h) h1 h2 h3 (by rw[g];lia);rw[f1]at this;have e:(Xh es pos (h,WM x)).map (·.1)=Xh (es.map (·.1)) pos h:=by
    apply Array.toList_inj.mp;rw[UZ,Y8,Y8,UZ,XA,Xw,List.map_take,List.map_drop]
   rw[e];exact this
  have v:=G.room;have O:=G.mask;rw[g]at v;dsimp only;rw[eT];dsimp only;generalize t.put j=T at o B l fl gd;obtain⟨t1,p1⟩:=T;dsimp only at o B l fl gd ⊢;rw[o,bw rfl];refine Y1 (zlt hx ?_);rw[bw rfl];refine Y1 (zgo I (by rw[m];lia) λh' hs hg=>?_);by_cases full:(es.size+1)*5 >= t.mask*3
  .rw[fl,br full,bw (by decide)];rw[<- m];refine Y1 (zlu (s:={ s with heap:=h' }) hg l (by rw[m];rcases O with e | e | e<;>rw[e]at full v<;>lia) ab λae k J d ag af M u hG N U=>?_);exact XR (aa ae d k _ J (hs.trans ag) af M (u.trans pm) hG (N.trans B) (U.trans o))
  .rw[fl,bf full,bq (by decide)];exact XR (aa h' y _ _ t1 hs hg ab pm (gd full) B o)
def zlw {x:Addr}{p:Int×Int}{Q:Bool->X7->Prop}(e:A.units<VL)(S:zdv (hP prog w) led s.heap a ks)(f:zD s.heap (.ref x) p)(h:InB p)(i:p ∉ ks.map (·.2)->ks.length<63)
  (q:∀(b:Bool) (h':Heap) (d:List (Addr×(Int×Int))),V7 a s.heap h'->zdv (hP prog w) led h' a d->(∀c,c∈d.map (·.2)↔c∈ks.map (·.2)\/c=p)->(∀c∈d,c∈ks\/c=(x,p))->Q b { s with heap:=h',toks:=s.toks+3 }) :
  Xu (Xx prog w) A (setAdd a (.ref x)) Q E s:=by
 unfold setAdd;refine VT (Y1 ((tk2 prog w).pyHash e (JW f) ?_));show Xu (Xx prog w) A (setAddHashed a (.ref x) (hP prog w p)) Q E { s with toks:=s.toks+3 };unfold setAddHashed;refine VT ?_;exact zlv (n:=99999) (s:={ s with toks:=s.toks+3 }) (λp q h1 h2 g=>zpW h1 h2 g) e S f h i q
end
theorem ziU {α:Type}(next:Nat->Nat):∀(fuel k:Nat) (left:List α) (a:Array α),left.length=fuel->(pickOrder.go next fuel k left a).toList.Perm (a.toList++left)
 | 0,k,left,a,h=>by
  rw[Uq.mp h,WV];exact List.Perm.refl _
 | fuel+1,k,left,a,h=>by
  have b:next k%left.length<left.length:=RX _ (by lia)
  rw[pickOrder.go,X0 b];dsimp only;refine(ziU next fuel (k+1) _ _ (by rw[List.length_eraseIdx_of_lt b];lia)).trans ?_;rw[SX,WL];refine SH _ ?_;have e:left=left.take (next k%left.length)++left[next k%left.length]::left.drop (next k%left.length+1):=by
   rw[<- WJ b,W9]
  rw[List.eraseIdx_eq_take_drop_succ];have c:=@List.perm_middle _ left[next k%left.length] (left.take (next k%left.length)) (left.drop (next k%left.length+1));rw[<- e]at c;exact c.symm
def zka {α:Type}(next:Nat->Nat)(xs:Array α):(Qb next xs).toList.Perm xs.toList:=by
 have h:=ziU next xs.size 0 xs.toList #[] (by simp)
 rw[show (#[]:Array α).toList++xs.toList=xs.toList from rfl]at h;exact h
def yI:Slot "set_iterator" "__next__" "set_iterator.__next__" :=
 .of (owner:="set_iterator") (n:="__next__") (by rw[Tn,UR];kernel_rfl) (by decide+kernel) (by decide+kernel) (by decide+kernel) (.inl (by decide+kernel)) (by rw[O2];kernel_rfl)
def zax:NU table "set_iterator.__next__"=some US.«set_iterator.__next__»:=entryFor_of_tree (by kernel_rfl)
def zcG:Manifest.owners.lookup (String.ofList ['r','o','t','a','r','e','t','i','_','t','e','s'].reverse)=some Manifest.sig_set_iterator:=by kernel_rfl
def zbz (a:X9):argsOk "set_iterator.__next__" ⟨[a],[]⟩:=by
 unfold argsOk;rw[signature?_of (id:="set_iterator.__next__") (n:=['_','_','t','x','e','n','_','_']) (o:=['r','o','t','a','r','e','t','i','_','t','e','s']) (by kernel_rfl) zcG];kernel_rfl
def ze7:NU table "set.__iter__"=some US.«frozenset.__iter__»:=entryFor_alias (id':="frozenset.__iter__") (by kernel_rfl) rfl (by decide+kernel) (by kernel_rfl)
def zcH (b i:Nat)(a:Addr)(n ep:Nat):Obj:={ cls:=.type "set_iterator",data:=.fields #[Ua b,Ua i,.ref a,Ua n,Ua ep] }
def slotAt (a:Bool)(t:WB)(i:Nat):Nat:=if a then 0 else if i=0 then 0 else t.place.getD (i-1) 0+1
def ZI (w:Xd)(a:Addr)(ep:Nat)(b:Array (Int×X9)):Array (Int×X9):=if w.params.followText "set-order" then Qb (w.params.setOrder a ep) b else b
def zay (w:Xd)(a:Addr)(ep:Nat)(b:Array (Int×X9)):(ZI w a ep b).toList.Perm b.toList:=by
 unfold ZI;split
 .exact zka _ _
 .exact List.Perm.refl _
section
variable {prog:Xs}{w:Xd}{A:WY}{E:X9->X7->Prop}{s:X7}{a:Addr}{es:Array (Int×X9)}{ep:Nat}{t:WB}
def ze8 {Q:Bool->X7->Prop}(q:Q (w.params.followText "set-order") s):Xu (Xx prog w) A setsByText Q E s:=by
 unfold setsByText;exact Y1 (PZ (XR q))
def below_at {t:WB}(U:Up t.place){i:Nat}(d:i<=t.place.size):Xr t.place (slotAt false t i)=i:=by
 obtain⟨c,a,b⟩:=ZE U (slotAt false t i);unfold slotAt at *
 simp only[WG,if_false]at *
 by_cases h0:i=0
 .subst h0;rw[bw rfl]at *
  rcases Nat.eq_zero_or_pos (Xr t.place 0) with e | e
  .exact e
  .have:=a 0 e;lia
 .rw[bq h0]at *
  rcases Rp (Xr t.place (t.place.getD (i-1) 0+1)) i with e | e | e
  .have:=b (i-1) (by lia) (by lia);lia
  .exact e
  .have h1:=a i e;have h2:=U (i-1) i (by lia) (by lia);lia
def ziV {i:Nat}{Q:Option (X9×Nat)->X7->Prop}(g:s.heap.get? a=some (qy es ep t))(G:Good t (es.map (·.1)))(f:t.led=!w.params.followText "set-order")(l:t.plain=true)(n:i<=es.size)
  (b:∀v,(ZI w a ep es)[i]?.map (·.2)=some v->Q (some (v,slotAt (w.params.followText "set-order") t (i+1))) s) (j:i=es.size->Q none s) :
  Xu (Xx prog w) A (setNext a (slotAt (w.params.followText "set-order") t i) i ep) Q E s:=by
 have m:t.place.size=es.size:=by rw[G.sz,Vf]
 have d:(ZI w a ep es).size=es.size:=by
  rw[<- X4,(zay w a ep es).length_eq,X4]
 unfold setNext;refine Y1 (x8 g G ?_);dsimp only;refine Y1 (ze8 ?_);cases hb:w.params.followText "set-order" with
 | true =>
  rw[bw rfl];rw[hb]at b;rw[bq (by simp)];unfold setWalk;refine Y1 (Y1 (x8 g G ?_));dsimp only;refine Y1 (ze8 ?_);rw[hb,bw rfl];refine Y1 (PZ (XR (XR ?_)));have c:ZI w a ep es=Qb (w.params.setOrder a ep) es:=by
   unfold ZI;rw[hb,bw rfl]
  rw[c]at b d;show Q (Option.map _ (Qb (w.params.setOrder a ep) es)[i]?) s;by_cases h:i<es.size
  .have e:(Qb (w.params.setOrder a ep) es)[i]?=some (Qb (w.params.setOrder a ep) es)[i]:=Vt (by lia);rw[e]at b ⊢;exact b _ rfl
  .rw[WP (by lia)];exact j (by lia)
 | false =>
  rw[bq XS];rw[hb]at b f;have c:ZI w a ep es=es:=by
   unfold ZI;rw[hb,bq XS]
  rw[c]at b;split
  .rename_i h;exact absurd h (by show ¬ ((!t.plain&&decide (es.size>1))=true);rw[l];exact XS)
  refine Y1 ?_;show Xu _ _ (if (!t.led && !es.isEmpty)=true then Rx "set:maker-not-led" else pure ()) _ _ _;rw[f,bq (by simp)];refine XR ?_;rw[below_at G.up (by lia)];by_cases h:i<es.size
  .have e:es[i]?=some es[i]:=Vt h;have k:t.place[i]?=some (t.place.getD i 0):=JU (by lia);rw[e]at b ⊢;rw[k];refine XR (b _ rfl)
  .rw[WP (by lia)];exact XR (j (by lia))
end
def zec:Slot "set_iterator" "__iter__" "set_iterator.__iter__" :=
 .of (owner:="set_iterator") (n:="__iter__") (by rw[Tn,UR];kernel_rfl) (by decide+kernel) (by decide+kernel) (by decide+kernel) (.inl (by decide+kernel)) (by rw[O2];kernel_rfl)
def zhP:NU table "set_iterator.__iter__"=some US.«dict_keyiterator.__iter__»:=entryFor_alias (id':="dict_keyiterator.__iter__") (by kernel_rfl) rfl (by decide+kernel) (by kernel_rfl)
def zkb (a:X9):argsOk "set_iterator.__iter__" ⟨[a],[]⟩:=by
 unfold argsOk;rw[signature?_of (id:="set_iterator.__iter__") (n:=['_','_','r','e','t','i','_','_']) (o:=['r','o','t','a','r','e','t','i','_','t','e','s']) (by kernel_rfl) zcG];kernel_rfl
section
variable {prog:Xs}{w:Xd}{A:WY}{E:X9->X7->Prop}{s:X7}{a I:Addr}{es:Array (Int×X9)}{ep:Nat}{t:WB}
def zhQ {b i a n ep:Nat}(x y:Nat):Sl (·.setIfInBounds 1 (Ua y)) (Sl (·.setIfInBounds 0 (Ua x)) (zcH b i a n ep))=zcH x y a n ep:=rfl
def znJ {i:Nat}{Q:Option X9->X7->Prop}(b:s.heap.get? I=some (zcH (slotAt (w.params.followText "set-order") t i) i a es.size ep))(d:s.heap.get? a=some (qy es ep t))(G:Good t (es.map (·.1)))(f:t.led=!w.params.followText "set-order")(g:t.plain=true)(e:i<es.size)
  (q:∀v h',(ZI w a ep es)[i]?.map (·.2)=some v->h'.get? I=some (zcH (slotAt (w.params.followText "set-order") t (i+1)) (i+1) a es.size ep)->V7 I s.heap h'->Q (some v) { s with heap:=h' }) :
  Xu (Xx prog w) A (R0 (.ref I)) Q E s:=by
 have c:s.TypeIs (.ref I) "set_iterator":=⟨_,b,rfl⟩;unfold R0;refine Y1 (Rl (PU (name:=Str.ofString "__next__") c yI (U0 yI c zax ?_ (zbz _))));unfold US.«set_iterator.__next__»;refine Y1 (XR ?_);refine Y1 (wpAny_fieldsOf b rfl ?_);dsimp only[Ua];refine Y1 (R7 (o:=qy es ep t) d rfl ?_ ?_)
 .have:=G.fits;rwa [Vf]at this
 rw[bq (by simp)];show Xu _ _ (setNext a (slotAt (w.params.followText "set-order") t i) i ep >>= _) _ _ _;refine Y1 (ziV d G f g (TU e) (λv h=>?_) λz=>absurd z (by lia));dsimp only;refine Y1 (O0 b rfl (by simp[zcH]) ?_);have h1:=Wt (Sl (·.setIfInBounds 0 (Ua ((slotAt (w.params.followText "set-order") t (i+1):Nat):Int)))) b rfl;refine Y1 (O0 h1 rfl (by simp[zcH,Sl]) ?_);have h2:=Wt (Sl (·.setIfInBounds 1 (Ua ((i:Int)+1)))) h1 rfl;refine XR ⟨_,rfl,XR (q v _ h ?_ ((Wz ..).trans (Wz ..)))⟩;rw[show ((i:Int)+1)=((i+1:Nat):Int) by lia]at h2 ⊢;rw[zhQ]at h2;exact h2
def zpX {Q:Option X9->X7->Prop}(g:A.handled=none)(c:s.heap.get? I=some (zcH (slotAt (w.params.followText "set-order") t es.size) es.size a es.size ep))(e:s.heap.get? a=some (qy es ep t))(G:Good t (es.map (·.1)))(h:t.led=!w.params.followText "set-order")(j:t.plain=true)
  (q:∀h',Heap.ExtBut I s.heap h'->Q none { s with heap:=h' }):Xu (Xx prog w) A (R0 (.ref I)) Q E s:=by
 have d:s.TypeIs (.ref I) "set_iterator":=⟨_,c,rfl⟩;unfold R0;refine Y1 (Rl (PU (name:=Str.ofString "__next__") d yI (U0 yI d zax ?_ (zbz _))));unfold US.«set_iterator.__next__»;refine Y1 (XR ?_);refine Y1 (wpAny_fieldsOf c rfl ?_);dsimp only[Ua];refine Y1 (R7 (o:=qy es ep t) e rfl ?_ ?_)
 .have:=G.fits;rwa [Vf]at this
 rw[bq (by simp)];show Xu _ _ (setNext a (slotAt (w.params.followText "set-order") t es.size) es.size ep >>= _) _ _ _;refine Y1 (ziV e G h j (XW _) (λv f=>?_) λ_=>?_)
 .have i:(ZI w a ep es).size=es.size:=by
   rw[<- X4,(zay w a ep es).length_eq,X4]
  rw[WP (by lia)]at f;cases f
 dsimp only;refine Y1 (O0 c rfl (by simp[zcH]) ?_);refine Y1 ?_;simp only[newExc,newTuple];refine Y1 (VM ?_ (by size_fits));refine Y1 (m:=RW _ _) (N4 (a:=Ul) (by first | rfl | (simp only[RW];rfl)) ?_);refine VM ?_ (by size_fits);simp only[raiseNew];refine Y1 (wpAny_handled ?_);rw[show A.in1.handled=none from g];refine Y1 (XR (wpAny_throw ?_));refine Y1 (P1 (T:="StopIteration") (b:=true) ⟨_,Xg _ rfl,rfl⟩ isSubtype_stop ?_);exact XR (q _ (((Wz ..).extBut.push _).push _))
def znK {b i n:Nat}{Q:X9->X7->Prop}(d:s.heap.get? I=some (zcH b i a n ep))(q:Q (.ref I) s):Xu (Xx prog w) A (NX (.ref I)) Q E s:=by
 have c:s.TypeIs (.ref I) "set_iterator":=⟨_,d,rfl⟩;refine wpAny_pyIter_slot c zec (U0 zec c zhP ?_ (zkb _));exact XR ⟨_,rfl,"set_iterator",_,c,yI.lookup,q⟩
def walks (hh:A.handled=none)(hne:a≠I)(G:Good t (es.map (·.1)))(hl:t.led=!w.params.followText "set-order")(hp:t.plain=true) :
  Walks prog w A I [I,a] [I] es.size (λi v=>(ZI w a ep es)[i]?.map (·.2)=some v) (λi h=>h.get? I=some (zcH (slotAt (w.params.followText "set-order") t i) i a es.size ep)/\h.get? a=some (qy es ep t)) where
 sub:=λb hb=>by simp at hb;simp[hb]
 frame:=λ_ _ _ st hk=>⟨hk I (by simp) _ st.1,hk a (by simp) _ st.2⟩
 item:=λi s Q E hi st hQ=>znJ st.1 st.2 G hl hp hi λv h' hv h1 hs=>hQ v h' s.toks hv ⟨h1,(hs.2 a hne).trans st.2⟩ λb o hb e=>(hs.2 b λz=>hb (by simp[z])).trans e
 done:=λs Q E st hQ=>zpX hh st.1 st.2 G hl hp λh' he=>hQ h' s.toks λb o hb e=>he b o (λz=>hb (by simp[z])) e
 self:=λ_ _ _ _ st hQ=>znK st.1 hQ
def zgq:splitId "set.__len__"=some ("set","__len__"):=by decide+kernel
def zgr {Q:List X9->X7->Prop}(hh:A.handled=none)(ho:s.heap.get? a=some (qy es ep t))(G:Good t (es.map (·.1)))(hl:t.led=!w.params.followText "set-order")(hp:t.plain=true)(hn:es.size<=64)
  (q:∀vs h' tk,vs.Perm (es.toList.map (·.2))->(∀b o,s.heap.get? b=some o->h'.get? b=some o)->s.heap.objs.size<=h'.objs.size->Q vs { s with heap:=h',toks:=tk }):Xu (Xx prog w) A (collect (.ref a)) Q E s:=by
 have g:a<s.heap.objs.size:=XB ho;unfold collect;refine Y1 (wpAny_runValue (VS PySem.F.entry_proto_collect ?_));rw[Wa PySem.F.plain_proto_collect _];show Xu _ A.in1 (newList [] >>= λl=>Ry (.builtin "list.__iadd__" ⟨[l,.ref a],[]⟩)) _ _ s;refine Y1 (VM ?_);refine XR ⟨UH PQ _,VS PySem.F.entry_list_iadd ?_⟩;rw[Wa PQ _];show Xu _ A.in1 (R1 (.ref s.heap.objs.size) (.ref a) (.ref s.heap.objs.size)) _ _ _;generalize B:(s.heap.push { cls:=.type "list",data:=.seq ([]:List X9).toArray })=h1;have f:h1.get? a=some (qy es ep t):=by rw[<- B];exact XY _ ho
 have J:h1.get? s.heap.objs.size=some { cls:=.type "list",data:=.seq #[] }:=by rw[<- B];exact Xg _ rfl
 have Y:∀b o,s.heap.get? b=some o->h1.get? b=some o:=λb o e=>by rw[<- B];exact XY _ e
 have H:h1.objs.size=s.heap.objs.size+1:=by rw[<- B];exact Vg ..
 have M:Sm { s with heap:=h1 } (.ref a) "set":=⟨_,f,rfl⟩;have I:QR (.ref s.heap.objs.size) (.ref a)=false:=by
  simp[QR];exact Uk g
 unfold R1;refine Y1 (R5 M ?_);rw[bq (by rw[I];decide)];have O:t.fits es.size=true:=by
  have:=G.fits;rwa [Vf]at this
 refine Y1 (wpAny_pyIter_slot M Pg (U0 Pg M ze7 ?_ (PySem.F.args_set_iter_1 _)));unfold US.«frozenset.__iter__» Builtin.Frozenset.slot0 slotArgs;simp only[List.isEmpty_nil,Bool.not_true,WG,↓reduceIte,bind_assoc,UO,bne_self_eq_false];unfold Builtin.Frozenset.addrOf Builtin.Frozenset.sizeOf;refine Y1 (XR ?_);dsimp only;refine Y1 (XR ?_);refine Y1 (Y1 (R7 (s:={ s with heap:=h1 }) (o:=qy es ep t) f rfl O (XR ?_)));unfold setDrawn;refine Y1 (Y1 (SZ (s:={ s with heap:=h1 }) (o:=qy es ep t) f rfl O ?_));dsimp only;refine Y1 (ze8 (XR ?_));split
 .rename_i h;exact absurd h (by show ¬ ((!w.params.followText "set-order" && (!t.plain&&decide (es.size>1)))=true);rw[hp];simp)
 refine Y1 (XR ?_);unfold setEpoch;refine Y1 (Y1 (SZ (s:={ s with heap:=h1 }) (o:=qy es ep t) f rfl O (XR ?_)));unfold newFields;refine Y1 (VM ?_);generalize y:h1.push { cls:=.type "set_iterator",data:=.fields (List.toArray [Ua 0,Ua 0,WM a,Ua ((es.size:Nat):Int),Ua ((ep:Nat):Int)]) }=h2;have x:h2.get? a=some (qy es ep t):=by rw[<- y];exact XY _ f
 have r:h2.get? s.heap.objs.size=some { cls:=.type "list",data:=.seq #[] }:=by rw[<- y];exact XY _ J
 have aa:∀b o,s.heap.get? b=some o->h2.get? b=some o:=λb o e=>by rw[<- y];exact XY _ (Y b o e)
 have n:h2.get? h1.objs.size=some (zcH 0 0 a es.size ep):=by rw[<- y];exact Xg _ rfl
 have N:Sm { s with heap:=h2 } (.ref h1.objs.size) "set_iterator":=⟨_,n,rfl⟩;have k:Sm { s with heap:=h2 } (.ref a) "set":=⟨_,x,rfl⟩;refine XR (eX _ rfl "set_iterator" _ N yI.lookup ?_);refine Y1 (VT ?_);unfold Builtin.List.listLengthHint;refine Y1 (To k PySem.F.slot_set_len.lookup ?_);dsimp only;rw[zgq];dsimp only;refine Y1 (P1 (b:=true) k sub_set_self ?_);rw[bq (by decide)];show Xu _ _ (typeOf (WM a) >>= _) _ _ _;refine Y1 (R5 k ?_);show Xu _ _ (pure false) _ _ _;refine XR ?_;show Xu _ A.in1 (rule "list.extend.makes-room" >>= λ_=>Builtin.List.listTouch (.ref s.heap.objs.size) >>= λ_=>Ry (.builtin "list.extend.loop" ⟨[.ref s.heap.objs.size,.ref h1.objs.size,.ref s.heap.objs.size],[]⟩)) _ _ _;refine Y1 (UY (Y1 ?_));show Xu _ A.in1 (updateSeq s.heap.objs.size (·.push .none) >>= λ_=>updateSeq s.heap.objs.size (·.pop)) _ _ _;refine Y1 (wpAny_updateSeq r rfl ?_);have u:=Wt (U9 (·.push Ul)) r rfl;refine wpAny_updateSeq u rfl ?_;have v:=Wt (U9 (·.pop)) u rfl;have j:∀b o,b≠s.heap.objs.size->h2.get? b=some o->((h2.update s.heap.objs.size (U9 (·.push Ul))).update s.heap.objs.size (U9 (·.pop))).get? b=some o :=
  λb o m e=>(Uh _ _ (U5 m)).trans ((Uh _ _ (U5 m)).trans e)
 generalize (h2.update s.heap.objs.size (U9 (·.push Ul))).update s.heap.objs.size (U9 (·.pop))=h4 at v j;have U:a≠h1.objs.size:=by
  rw[H];exact Xj (WI g)
 have L:s.heap.objs.size ∉ [h1.objs.size,a]:=by
  rw[H];simp only[XI,VE,or_false,not_or];exact⟨Xj (Sy _),Uk g⟩
 have ac:slotAt (w.params.followText "set-order") t 0=0:=by
  unfold slotAt;split<;>rfl
 have ae:(ZI w a ep es).size=es.size:=by
  rw[<- X4,(zay w a ep es).length_eq,X4]
 refine XR ⟨UH PySem.F.plain_extend_loop _,codeAny_extend_loopS ((walks (A:=A.in1) (prog:=prog) (ep:=ep) hh U G hl hp).toS) (X6 hn (by rw[S9];decide)) _ L _ es.size 0 _ _ _ rfl (W3 _)
  ⟨by rw[ac];exact j _ _ (by rw[H];exact Vr _) n,j _ _ (Xj g) x⟩ v (ItemsOf.nil _) λs' c c' D p d=>?_⟩
 show Xu _ A (load s.heap.objs.size >>= _) _ _ s';refine Y1 (wpAny_load p ?_);obtain⟨h',g',d',af,ab⟩:=s';have eg:g'=s.gens:=D.gens;have ed:d'=s.drawn:=D.drawn;have eo:ab=s.os:=D.os;subst eg;subst ed;subst eo;refine XR (q _ _ _ ?_ (λb o e=>?_) (TU (XB p)))
 .have e:c.toList=(ZI w a ep es).toList.map (·.2):=by
   refine List.ext_getElem? λi=>?_;rw[Xy,Xv,Xy];by_cases hi:i<es.size
   .have T:i<c.size:=by rw[d.1];exact hi
    have e1:c[i]?=some c[i]:=Vt T;rw[e1];exact(d.2 i _ e1).symm
   .rw[WP (by rw[d.1];lia),WP (by lia)];rfl
  rw[e];exact(zay w a ep es).map _
 .have m:b<s.heap.objs.size:=XB e;refine D.heap b o (λz=>?_) (j b o (Xj m) (aa b o e));rcases XI.mp z with z | z
  .exact VU _ (z ▸ m)
  .have z':b=h1.objs.size:=by simpa using z
   rw[z',H]at m;exact absurd m (Nat.not_lt.mpr (Wb _))
end
end ST
open PySem PySem.Spec PyProof.Rows PySem.W
namespace ST
def zgs (prog:Xs)(w:Xd)(d:Addr)(ks:List (Addr×(Int×Int))):HO:=.ext λh=>∃a b t,h.get? d=some (qy a b t)/\a.toList=ks.map (zcF (hP prog w))/\Good t (a.map (·.1))/\t.led=(!w.params.followText "set-order")/\t.plain=true
section
variable {prog:Xs}{w:Xd}{A:WY}{R:Pc->X7->Prop}{I:Addr}{fp wr:List Addr}{G:Array UA->Array UA->Prop}{n:Nat}{P:Nat->X9->Prop}{St:Nat->X7->Prop}{led:Bool}
def zlx {h0:Heap}(W:WalksS prog w A.in1 I fp wr G n P St)(D:Addr)(M:D ∉ fp)(ai:h0.get? D=none)(ar:∀b∈wr,h0.get? b=none)(ps:List (Int×Int))(Y:ps.length=n)(hu:A.units+1<VL)
  (T:Addr->Int×Int->Prop) (hT:∀x p,T x p->zD h0 (.ref x) p) (ak:∀i v,P i v->∃x p,v=.ref x/\ps[i]?=some p/\T x p) (y:∀p∈ps,InB p) (ah:∀l:List (Int×Int),l.Nodup->(∀c∈l,c∈ps)->l.length<=63) :
  ∀(k i:Nat) (s:X7) (ks:List (Addr×(Int×Int))),n-i=k->i<=n->St i s->(∀b o,h0.get? b=some o->s.heap.get? b=some o)->zdv (hP prog w) led s.heap D ks->(∀c,c∈ks.map (·.2)↔c∈ps.take i)->(∀q∈ks,T q.1 q.2) ->
   (∀s' r,Moved (D::wr) G s s'->zdv (hP prog w) led s'.heap D r->(∀c,c∈r.map (·.2)↔c∈ps)->(∀q∈r,T q.1 q.2)->R (.ok (.ret .none)) s') ->
   Um (Xx prog w) A (.builtin "set.update.loop" ⟨[.ref D,.ref I],[]⟩) R s:=by
 have aj:D ∉ wr:=λh=>M (W.sub _ h);have more:∀b∈wr,b∈D::wr:=λb y=>XU _ y;have d:∀{h:Heap} {x:Addr} {p:Int×Int},(∀b o,h0.get? b=some o->h.get? b=some o)->T x p->zD h (.ref x) p:=λE hx=>by
  obtain⟨b,o,m,t,u,e,e1,e2,e3⟩:=hT _ _ hx;exact⟨b,o,m,t,u,e,E _ _ e1,e2,e3⟩
 have a:∀{s s':X7},Moved wr G s s'->(∀b o,h0.get? b=some o->s.heap.get? b=some o)->∀b o,h0.get? b=some o->s'.heap.get? b=some o:=λj E b o e =>
  j.heap b o (λy=>by
   rw[ar b y]at e;cases e) (E b o e)
 have f:∀{s s':X7} {ks:List (Addr×(Int×Int))},Moved wr G s s'->(∀b o,h0.get? b=some o->s'.heap.get? b=some o)->(∀q∈ks,T q.1 q.2)->zdv (hP prog w) led s.heap D ks->zdv (hP prog w) led s'.heap D ks :=
  λj E hk ⟨⟨es,ep,t,e1,e2⟩,e3,_,e5⟩=>⟨⟨es,ep,t,j.heap D _ aj e1,e2⟩,e3,λq hq=>d E (hk q hq),e5⟩
 intro k;induction k with
 | zero =>
  intro i s ks hk hi J E hS B g hR;have an:i=n:=by lia
  subst an;refine VS Tx ?_;rw[Wa U6 _];show Xu _ A.in1 (R0 (.ref I) >>= _) _ _ s;refine Y1 (W.done s _ _ J λs' j=>?_);refine XR (hR s' ks (j.mono more) (f j (a j E) g hS) (λc=>?_) g);rw[B c,<- Y,XD]
 | succ k ih =>
  intro i s ks hk hi J E hS B g hR;have aa:i<n:=by lia
  refine VS Tx ?_;rw[Wa U6 _];show Xu _ A.in1 (R0 (.ref I) >>= _) _ _ s;refine Y1 (W.item i s _ _ aa J λv s' al af j=>?_);refine fK (λx p z0 hq hx=>?_) (ak i v al);subst z0;have L:=a j E;have N:=f j L g hS;have ae:p∈ps:=X8 hq;have tk:ps.take (i+1)=ps.take i++[p]:=by
   rw[Xp,hq];rfl
  refine Y1 (VT (zlw (show A.in1.units<VL from hu) N (d L hx) (y p ae) (λao=>?_) λb h' r H am ac aw=>?_))
  .have:=ah (p::ks.map (·.2)) (Wq.mpr ⟨ao,N.nd⟩) λc hc=>by
    rcases XI.mp hc with rfl | hc
    .exact ae
    .exact VW ((B c).mp hc)
   rw[Xi,ZB]at this;lia
  have au:∀b o,h0.get? b=some o->h'.get? b=some o:=λb o e=>by
   rw[H.2 b (λz=>by
    rw[z,ai]at e;cases e)]
   exact L b o e
  refine XR ⟨UH U6 _,?_⟩;refine ih (i+1) _ r (by lia) aa (W.frame _ s' _ _ af (Vq _ _) λb y o e=>?_) au am (λc=>?_) (λq aq=>?_) λav ag ab O U Q=>?_
  .rw[H.2 b (λz=>M (by rw[<- z];exact y))];exact e
  .rw[ac c,B c,tk,XN,Xb]
  .rcases aw q aq with z | z
   .exact g q z
   .rw[z];exact hx
  .refine hR av ag (Moved.trans W.gtrans ((j.mono more).then_heap (Vq _ _) λb o y e=>?_) ab) O U Q;rw[H.2 b (λz=>y (by rw[z];exact XT))];exact e
end
section
variable {prog:Xs}{w:Xd}{A:WY}{E:X9->X7->Prop}{s:X7}
def znL (a:X9){Q₁:X9->X7->Prop}(h:Q₁ (.ref s.heap.objs.size) { s with heap:=s.heap.push (qy #[] 0 (.fresh 0 0 (!w.params.followText "set-order"))) }) :
  Um (Xx prog w) A (.call (.builtin "set.__new__") ⟨[.type "set",a],[]⟩) (wants Q₁ E) s:=by
 refine codeAny_of_tree ?_;show Xu _ A.in1 (do P7 "set.__new__" ⟨[.type "set",a],[]⟩;Ry (.builtin "set.__new__" ⟨[.type "set",a],[]⟩)) _ _ s;refine Y1 (N4 (PySem.F.newCall_set_1 a) (XR ⟨UH Pf _,VS PySem.F.entry_set_new ?_⟩));rw[Wa Pf _];unfold US.«set.__new__» Builtin.Frozenset.newClass;have b:=sub_set_self;obtain⟨c,g,d,e,os⟩:=s;dsimp only;wp_walk;refine PZ (XR ?_);dsimp only;simp only[newObj];refine Y1 (wpAny_alloc (XR ?_));exact XR h
def zhR (led:Bool):Good (.fresh 0 0 led) #[]:=⟨.inl rfl,rfl,rfl,λi j _ h=>absurd h (by simp[SetTable.fresh]),λi h=>absurd h (by simp[SetTable.fresh]),by simp[SetTable.fresh],λi h=>absurd h (by simp[SetTable.fresh])⟩
set_option maxHeartbeats 8000000 in
theorem zly {l:Addr}{d:Array X9}{ps:List (Int×Int)}{T:Addr->Int×Int->Prop}{Q:X9->X7->Prop}(hh:A.handled=none)(hu:A.units+64<VL)(hl:s.heap.IsList l d)(M:ps.length=d.size)
  (hT:∀x p,T x p->zD s.heap (.ref x) p) (ab:∀(i:Nat) (v:X9),d[i]?=some v->∃x p,v=WM x/\ps[i]?=some p/\T x p) (hb:∀p∈ps,InB p) (aa:∀l:List (Int×Int),l.Nodup->(∀c∈l,c∈ps)->l.length<=63)
  (h:∀(h':Heap) (tk:Nat) (ks:List (Addr×(Int×Int))),(∀b o,s.heap.get? b=some o->h'.get? b=some o)->zdv (hP prog w) (!w.params.followText "set-order") h' s.heap.objs.size ks->(∀c,c∈ks.map (·.2)↔c∈ps)->(∀q∈ks,T q.1 q.2)->Q (.ref s.heap.objs.size) { s with heap:=h',toks:=tk }) :
  Xu (Xx prog w) A (call (.type "set") [.ref l]) Q E s:=by
 obtain⟨c,tl,al⟩:=PySem.F.called_set.mro;have ag:=PySem.F.called_set.made;have ao:=PySem.F.called_set.sub;refine Op (codeAny_of_tree ?_);show Xu _ _ (callAny (.type "set") _) _ _ _;refine XR ⟨Code.quiet_builtin _ (by decide+kernel),VS PySem.F.entry_type_call ?_⟩;rw[Around.under_plain (weight_type_call_type "set" [.ref l] []) rfl];have h1:=PySem.F.called_set.notType;have h2:=PySem.F.called_set.canCreate;have au:=PySem.F.typeCall_set_1 (.ref l);repeat (any_goals (first | assumption | wp_step))
 refine TR (znL (.ref l) (E:=E) (Q₁:=λU j=>U=.ref s.heap.objs.size/\j={ s with heap:=s.heap.push (qy #[] 0 (.fresh 0 0 (!w.params.followText "set-order"))) }) ⟨rfl,rfl⟩) λr j hr=>?_;cases r with
 | error e=>exact hr
 | ok fl =>
  cases fl with
  | ret U =>
   obtain⟨rfl,rfl⟩:=hr;generalize ak:(!w.params.followText "set-order")=led at h ⊢;have hS:(s.heap.push (qy #[] 0 (.fresh 0 0 led))).get? s.heap.objs.size=some (qy #[] 0 (.fresh 0 0 led)):=Xg _ rfl;have H:Sm { s with heap:=s.heap.push (qy #[] 0 (.fresh 0 0 led)) } (.ref s.heap.objs.size) "set":=⟨_,hS,rfl⟩;have av:=PySem.F.called_set.init.lookup;have ar:=PySem.F.called_set.init.bind (.ref s.heap.objs.size);repeat (any_goals (first | assumption | wp_step))
   refine TR (TX (R:=wants (λr k=>r=.none/\∃h' tk ks,k={ s with heap:=h',toks:=tk }/\zdv (hP prog w) led h' s.heap.objs.size ks/\(∀c,c∈ks.map (·.2)↔c∈ps)/\(∀q∈ks,T q.1 q.2) /\
     (∀b o,s.heap.get? b=some o->h'.get? b=some o)) E) PySem.F.called_set.init.plain PySem.F.entry_set_init (check_set_init_1 H ?_)) λY k a=>?_
   .revert hl;refine gw λol O I nl J=>?_;obtain⟨aq,D,ah,f⟩:=ol;simp only at I J;subst I;subst J;have g:(s.heap.push (qy #[] 0 (.fresh 0 0 led))).get? l=some { cls:=.type "list",dict:=D,data:=.seq d nl,slots:=f }:=XY _ O;have an:=PySem.F.sub_list_set;have am:=PySem.F.sub_list_frozenset;have aw:(Value.type "list" == Value.type "dict")=false:=by decide
    have y:(s.heap.push (qy #[] 0 (.fresh 0 0 led))).IsList l d:=⟨_,g,rfl,nl,rfl⟩;unfold US.«set.__init__» noKeywords Builtin.Frozenset.updateFrom;generalize hG:s.heap.push (qy #[] 0 (.fresh 0 0 led))=G at hS H g y ⊢;unfold qy at hS;generalize ac:NX=PI;wp_walk;subst ac;subst hG;refine S2 y ?_;refine Y1 (wpAny_runValue ?_);have L:l<s.heap.objs.size:=XB O;have zS:(s.heap.push (qy #[] 0 (.fresh 0 0 led))).objs.size=s.heap.objs.size+1:=Vg ..;have N:l≠(s.heap.push (qy #[] 0 (.fresh 0 0 led))).objs.size:=by
     rw[zS];exact Xj (WI L)
    have ae:s.heap.objs.size ∉ [(s.heap.push (qy #[] 0 (.fresh 0 0 led))).objs.size,l]:=by
     rw[zS];simp only[XI,VE,or_false,not_or];exact⟨Xj (Sy _),Uk L⟩
    refine zlx (h0:=s.heap) (led:=led) ((Walks.list (by simp[hh]) (s.heap.push (qy #[] 0 (.fresh 0 0 led))).objs.size l N d).toS) s.heap.objs.size ae (UK (XW _)) (λb hb=>?_) ps M (by show A.units+1+1+1<VL;lia) T hT ab hb aa (d.size-0) 0 _ [] rfl (W3 _)
     ⟨⟨_,Xg _ rfl,rfl,rfl⟩,(y.push _)⟩ (λb o z=>XY _ (XY _ z)) ⟨(dP (#[]) 0 (.fresh 0 0 led) (XY _ hS) rfl (by rw[Array.map_empty];exact zhR led) rfl rfl),VA,(λq z=>nomatch z),(λq z=>nomatch z)⟩ (λc=>by simp) (λq z=>nomatch z) ?_
    .have e:b=(s.heap.push (qy #[] 0 (.fresh 0 0 led))).objs.size:=by simpa using hb
     rw[e,zS];exact UK (Wb _)
    .intro s' ks hm n B u;obtain⟨h',g',d',aj,ai⟩:=s';have eg:g'=s.gens:=hm.gens;have ed:d'=s.drawn:=hm.drawn;have eo:ai=s.os:=hm.os;subst eg;subst ed;subst eo;show Xu _ _ _ _ _ _;refine XR ?_;show Xu _ _ (ret Ul) _ _ _;refine XR ⟨rfl,(dP h' aj ks rfl n B u (λb o e=>?_))⟩;have lt:=XB e;refine hm.heap b o (λz=>?_) (XY _ (XY _ e));rcases XI.mp z with z | z
     .exact VU _ (z ▸ lt)
     .have z':b=(s.heap.push (qy #[] 0 (.fresh 0 0 led))).objs.size:=by simpa using z
      rw[z',zS]at lt;exact absurd lt (Nat.not_lt.mpr (Wb _))
   .cases Y with
    | error e=>exact a
    | ok m =>
     cases m with
     | ret r =>
      revert a;refine fN λz0=>fV λh' tk ks z1 n B u af=>?_;subst z0 z1;repeat (any_goals (first | assumption | wp_step))
      exact h _ _ _ af n B u
     | _=>exact a.elim
  | _=>exact hr.elim
end
def zcI {α q:Type}(f:α->q){l p:List q}(h:l.Perm p):∀ks:List α,p=ks.map f->∃g:List α,g.Perm ks/\l=g.map f:=by
 induction h with
 | nil=>exact λks e=>⟨ks,List.Perm.refl _,e⟩
 | cons x h s =>
  intro ks e;cases ks with
  | nil=>simp at e
  | cons k ks =>
   rw[Xw]at e;injection e with j i
   obtain⟨g,h1,h2⟩:=s ks i;exact⟨k::g,h1.cons k,by rw[Xw,j,h2]⟩
 | swap x y l =>
  intro ks e;match ks,e with
  | [],e=>simp at e
  | [k],e=>simp at e
  | k1::o::ks,e =>
   rw[Xw,Xw]at e;injection e with j i
   injection i with i r
   exact⟨o::k1::ks,List.Perm.swap k1 o ks,by rw[Xw,Xw,j,i,r]⟩
 | trans h1 h2 m n =>
  intro ks e;obtain⟨g,a,b⟩:=n ks e;obtain⟨is,c,d⟩:=m g b;exact⟨is,c.trans a,d⟩
section
variable {X:Cx}
def zkc (hu:X.A.units+64<VL)(hh:X.A.handled=none):ju X (.type "set") (λxs H Q=>∃l g ps,xs=[.ref l]/\SqL X.K H l g/\yX H g ps/\(∀p∈ps,InB p)/\(∀l:List (Int×Int),l.Nodup->(∀c∈l,c∈ps)->l.length<=63) /\
  ∀d ks,H d=none->(∀q∈ks,H q.1=some (.tup [.int q.2.1,.int q.2.2]))->(ks.map (·.2)).Nodup->(∀c,c∈ks.map (·.2)↔c∈ps)->Q (.ref d) (upd H d (zgs X.prog X.w d ks))):=by
 intro bz s σ H xs aa Q I r h;revert h;refine fT λl g ps z0 hq L hb z q=>?_;subst z0;obtain⟨u,rfl,ru⟩:=vals1 r;cases ru;obtain⟨b,M,pl,hz⟩:=I.list hq;have hp:=yX.pairs I L M;have B:b.length=ps.length:=Paired.length hp;have tw:∀{g:AE} {ps:List (Int×Int)} {b:List X9},yX H g ps->Vals g b->∀(i:Nat) (v:X9),b[i]?=some v->∃x p,v=WM x/\ps[i]?=some p/\H x=some (.tup [.int p.1,.int p.2]):=by
  intro g ps b h1;induction h1 generalizing b with
  | nil =>
   intro r i v e;cases r;simp at e
  | cons a t ih =>
   intro r i v e;obtain⟨x,rfl,D⟩:=a;cases r with
   | cons r1 r2 =>
    cases r1;cases i with
    | zero =>
     simp at e;exact⟨x,_,e.symm,rfl,D⟩
    | succ i =>
     refine fK (λy p h1 h2 U=>?_) (ih r2 i v (by simpa using e));exact⟨y,p,h1,by simpa using h2,U⟩
 refine zly (T:=λx p=>H x=some (.tup [.int p.1,.int p.2])) hh hu pl.isList (by simp[B]) (λx p D=>?_) (λi v e=>tw L M i v (by simpa using e)) hb z λh' tk ks kk J hm hT=>?_
 .obtain⟨E,G,tp,_⟩:=I.tuple (SqT.of D);obtain⟨u1,u2,rfl,⟨t1,rfl⟩,⟨t2,rfl⟩⟩:=vals2 G;revert tp;refine gw λob O c1 n N=>?_;exact⟨x,ob,n,t1,t2,rfl,O,c1,N⟩
 .have Y:H s.heap.objs.size=none:=I.hok.fresh (XW _);refine fR (λo m t j f=>?_) J.ex;refine⟨.ref s.heap.objs.size,upd H s.heap.objs.size (zgs X.prog X.w s.heap.objs.size ks),I.laid (t':=tk) kk (XW _) ⟨(eV o m t j f),⟨_,j⟩,λh1 h2 ⟨o,m,t,j,f⟩ k=>(eV o m t (k _ j) f)⟩,rfl,q _ _ Y hT J.nd hm⟩
end
end ST
namespace GS
section
variable {prog:Xs}{w:Xd}{A:WY}{E:X9->X7->Prop}{s:X7}{rk:Xe->Int}{κ:T0}{a0:Array Xe}
def Rk (rk:Xe->Int)(xs:Array Xe)(i:Nat):Int:=match xs[i]? with
 | some p=>rk p
 | none=>0
def JX {xs ys:Array Xe}{i j:Nat}(h:xs[i]?=ys[j]?):Rk rk xs i=Rk rk ys j:=by
 unfold Rk;rw[h]
def Up (rk:Xe->Int)(xs:Array Xe)(lo a:Nat):Prop:=∀i j,lo<=i->i<=j->j<a->Rk rk xs i<=Rk rk xs j
def Tells (prog:Xs)(w:Xd)(A:WY)(s:X7)(κ:T0)(rk:Xe->Int)(a0:Array Xe):Prop :=
 ∀x∈a0.toList,∀y∈a0.toList,∀C:Bool->X7->Prop,C (decide (rk x<rk y)) s->Xu (Xx prog w) A (keyLt' κ x.1 y.1) C (λ_ _=>False) s
structure Ok (κ:T0)(a0:Array Xe)(st:WU):Prop where
 perm:(Xm st).Perm a0
 kind:kindOf st=κ
 good:S6 st=none
theorem Ok.size {st:WU}(h:Ok κ a0 st):(Xm st).size=a0.size:=h.perm.size_eq
def Ok.at {st:WU}(h:Ok κ a0 st){i:Nat}(b:i<a0.size):∃x,(Xm st)[i]?=some x/\x∈a0.toList/\Rk rk (Xm st) i=rk x:=by
 have a:i<(Xm st).size:=by rw[h.size];exact b
 have e:(Xm st)[i]?=some (Xm st)[i]:=getElem?_pos _ i a;refine⟨(Xm st)[i],e,(UT.mp h.perm).mem_iff.mp (by simp),?_⟩;unfold Rk;rw[e]
def zlz {st:WU}{x y:Xe}{Q:Option Bool->WU->Prop}(T:Tells prog w A s κ rk a0)(hk:kindOf st=κ)(e:x∈a0.toList)(f:y∈a0.toList)(h:Q (some (decide (rk x<rk y))) st):wpS (Xx prog w) A E s (lt' x y) Q st:=by
 rw[lt'_eq];refine XE (Sr ?_);rw[hk];refine XE (QP (Rl (WA (T x e y f (λb c=>c=s/\b=decide (rk x<rk y)) ⟨rfl,rfl⟩) (λb c a=>⟨a.1,?_⟩) λ_ _ d=>d.elim)));rw[a.2];exact Xo h
def qY {st:WU}{xs:Array Xe}{i:Nat}{x:Xe}{Q:Xe->WU->Prop}(e:xs[i]?=some x)(h:Q x st):wpS (Xx prog w) A E s (elem' xs i) Q st:=by
 rw[elem'_eq,e];exact Xo h
def zcJ {st:WU}{i j:Nat}{Q:Option Bool->WU->Prop}(T:Tells prog w A s κ rk a0)(O:Ok κ a0 st)(c:i<a0.size)(d:j<a0.size)(h:Q (some (decide (Rk rk (Xm st) i<Rk rk (Xm st) j))) st):wpS (Xx prog w) A E s (ltAt' i j) Q st:=by
 obtain⟨x,a,e,g⟩:=O.at (rk:=rk) c;obtain⟨y,b,f,k⟩:=O.at (rk:=rk) d;rw[g,k]at h;rw[ltAt'_eq];refine XE (Sr ?_);exact XE (qY a (XE (qY b (zlz T O.kind e f h))))
structure Step (κ:T0)(a0:Array Xe)(lo:Nat)(st st':WU):Prop where
 ok:Ok κ a0 st'
 pend:WT st'=WT st
 low:∀i:Nat,i<lo->(Xm st')[i]?=(Xm st)[i]?
def Step.refl {lo:Nat}{st:WU}(O:Ok κ a0 st):Step κ a0 lo st st:=⟨O,rfl,λ_ _=>rfl⟩
def zbf {xs:Array Xe}{i j:Nat}(a:j<=xs.size)(k:Nat):Rk rk (mirror xs i j ((j-i)/2)) k=if i<=k/\k<j then Rk rk xs (i+j-1-k) else Rk rk xs k:=by
 have e:=OE (i:=i) a k;by_cases h1:i<=k/\k<j
 .rw[bw h1]at e ⊢;exact JX e
 .rw[bq h1]at e ⊢;exact JX e
def jW {xs:Array Xe}{i j:Nat}(b:j<=xs.size)(a:∀k,i<=k->k<j->Rk rk xs k=Rk rk xs (j-1))(k:Nat):Rk rk (mirror xs i j ((j-i)/2)) k=Rk rk xs k:=by
 rw[zbf b];split
 .rw[a _ (by lia) (by lia),a k (by lia) (by lia)]
 .rfl
theorem Step.mirror {lo i j:Nat}{st a:WU}(x:Step κ a0 lo st a)(c:lo<=i)(b:j<=a0.size):Step κ a0 lo st (setArr a (mirror (Xm a) i j ((j-i)/2))):=by
 refine⟨⟨(mirror_perm _ _ _ _).trans x.ok.perm,x.ok.kind,x.ok.good⟩,x.pend,λk hk=>?_⟩;show (PyProof.Rows.mirror (Xm a) i j ((j-i)/2))[k]?=_;rw[OE (by rw[x.ok.size];exact b),bq (by lia)];exact x.low k hk
def ziW {st:WU}{i j:Nat}{Q:Unit->WU->Prop}(h:Q () (setArr st (mirror (Xm st) i j ((j-i)/2)))):wpS (Xx prog w) A E s (Sk i j) Q st:=by
 rw[reverseSlice'_eq];exact Ti h
def up1 (lo a d:Nat):StateT WU Sem AscSt :=
 forIn [a:d] ((none,a):AscSt) λ_ c=>do
  let x <- ltAt' (lo+c.snd) (lo+c.snd-1)
  match x with
  | some b=>if b=true then pure (ForInStep.done (none,c.snd)) else pure (V3 (none,c.snd+1))
  | _=>pure (ForInStep.done (some none,c.snd))
def zlA (lo n a:Nat):StateT WU Sem (Option Nat):=do
 Sk lo (lo+n)
 let c <- up1 lo n a
 match c.fst with
 | some r=>pure r
 | none=>pure (some c.snd)
def ziX (lo n a:Nat):StateT WU Sem DescSt :=
 forIn [n:a] ((none,n,0):DescSt) λ_ c=>do
  let x <- ltAt' (lo+c.snd.fst) (lo+c.snd.fst-1)
  match x with
  | some b =>
   if b=true then
    if c.snd.snd>0 then do
     Sk (lo+c.snd.fst-(c.snd.snd+1)) (lo+c.snd.fst)
     pure (V3 (none,c.snd.fst+1,0))
    else pure (V3 (none,c.snd.fst+1,0))
   else do
    let x <- ltAt' (lo+c.snd.fst-1) (lo+c.snd.fst)
    match x with
    | some b =>
     if b=true then pure (ForInStep.done (none,c.snd.fst,c.snd.snd))
     else pure (V3 (none,c.snd.fst+1,c.snd.snd+1))
    | _=>pure (ForInStep.done (some none,c.snd.fst,c.snd.snd))
  | _=>pure (ForInStep.done (some none,c.snd.fst,c.snd.snd))
def part2 (lo n a:Nat):StateT WU Sem (Option Nat):=do
 liftM (rule "list.sort.descending-run")
 let c <- ziX lo (n+1) a
 match c.fst with
 | some r=>pure r
 | none =>
  if c.snd.snd>0 then do
   Sk (lo+c.snd.fst-(c.snd.snd+1)) (lo+c.snd.fst)
   zlA lo c.snd.fst a
  else zlA lo c.snd.fst a
theorem run_eq (lo a:Nat):countRun' lo a=(do
  let c <- up1 lo 1 a
  match c.fst with
  | some r=>pure r
  | none =>
   if (c.snd==a)=true then pure (some c.snd)
   else if c.snd>1 then do
    let x <- ltAt' lo (lo+c.snd-1)
    match x with
    | some b=>if b=true then pure (some c.snd) else do
      Sk lo (lo+c.snd)
      part2 lo c.snd a
    | _=>pure none
   else part2 lo c.snd a):=by
 rw[countRun'_eq];unfold part2 zlA ziX up1;refine bind_congr λc=>?_;obtain⟨r,n⟩:=c;cases r with
 | some r=>rfl
 | none =>
  dsimp only;split
  .rfl
  .split
   .refine bind_congr λx=>?_;cases x with
    | none=>rfl
    | some b =>
     dsimp only;split
     .rfl
     .refine bind_congr λ_=>bind_congr λ_=>bind_congr λg=>?_;obtain⟨f,i,j⟩:=g;cases f with
      | some f=>rfl
      | none =>
       dsimp only;split
       .refine bind_congr λ_=>bind_congr λ_=>bind_congr λd=>?_;obtain⟨e,h⟩:=d;cases e<;>rfl
       .refine bind_congr λ_=>bind_congr λd=>?_;obtain⟨e,h⟩:=d;cases e<;>rfl
   .refine bind_congr λ_=>bind_congr λg=>?_;obtain⟨f,i,j⟩:=g;cases f with
    | some f=>rfl
    | none =>
     dsimp only;split
     .refine bind_congr λ_=>bind_congr λ_=>bind_congr λd=>?_;obtain⟨e,h⟩:=d;cases e<;>rfl
     .refine bind_congr λ_=>bind_congr λd=>?_;obtain⟨e,h⟩:=d;cases e<;>rfl
def Down (rk:Xe->Int)(xs:Array Xe)(lo n:Nat):Prop:=∀i j,i<=j->j<n->Rk rk xs (lo+j)<=Rk rk xs (lo+i)
def zoT {st:WU}{lo a b:Nat}{Q:AscSt->WU->Prop}(T:Tells prog w A s κ rk a0)(O:Ok κ a0 st)(y:lo+b<=a0.size)(u:1<=a)(g:a<=b)(q:Up rk (Xm st) lo (lo+a))
  (h:∀n,a<=n->n<=b->Up rk (Xm st) lo (lo+n)->(n=b\/Rk rk (Xm st) (lo+n)<Rk rk (Xm st) (lo+n-1))->Q (none,n) st):wpS (Xx prog w) A E s (up1 lo a b) Q st:=by
 unfold up1;refine V6 (I:=λx c f=>f=st/\c=(none,x)/\Up rk (Xm st) lo (lo+x)) ?step ?fin ⟨rfl,rfl,q⟩
 case fin =>
  rintro c f ⟨rfl,rfl,e⟩
  rw[show max a b=b by lia]at e ⊢
  exact h b g (XW _) e (.inl rfl)
 case step =>
  rintro x c f k r ⟨rfl,rfl,e⟩
  dsimp only
  refine XE (zcJ T O (by lia) (by lia) ?_)
  by_cases d:Rk rk (Xm f) (lo+x)<Rk rk (Xm f) (lo+x-1)
  .simp only[d,decide_true,if_true];exact Xo (h x k (by lia) e (.inr d))
  .simp only[d,decide_false,WG,if_false];refine Xo ⟨rfl,rfl,λi j p m v=>?_⟩;by_cases o:j<lo+x
   .exact e i j p m o
   .obtain rfl:j=lo+x:=by lia
    by_cases l:i=lo+x
    .subst l;exact Vk _
    .exact Wx (e i (lo+x-1) p (by lia) (by lia)) (Om.mp d)
def zlB {d st:WU}{lo n a:Nat}{Q:Option Nat->WU->Prop}(T:Tells prog w A s κ rk a0)(S:Step κ a0 lo d st)(p:lo+a<=a0.size)(h1:1<=n)(f:n<=a)(q:Down rk (Xm st) lo n)
  (h:∀m b,Step κ a0 lo d b->1<=m->m<=a->Up rk (Xm b) lo (lo+m)->Q (some m) b):wpS (Xx prog w) A E s (zlA lo n a) Q st:=by
 unfold zlA;refine XE (ziW ?_);have k:=S.mirror (i:=lo) (j:=lo+n) (XW _) (by lia);refine XE (zoT T k.ok p h1 f ?_ λm o e g _=>Xo (h m _ k (by lia) e g));intro i j r l u;have c:lo+n<=(Xm st).size:=by
  rw[S.ok.size];lia
 show Rk rk (mirror (Xm st) lo (lo+n) ((lo+n-lo)/2)) i<=Rk rk (mirror (Xm st) lo (lo+n) ((lo+n-lo)/2)) j;rw[zbf c,zbf c,bw (by lia),bw (by lia)];have:=q (lo+n-1-j) (lo+n-1-i) (by lia) (by lia);rw[show lo+(lo+n-1-j)=lo+(lo+n)-1-j by lia,show lo+(lo+n-1-i)=lo+(lo+n)-1-i by lia]at this;exact this
def znM {v st:WU}{lo n b:Nat}{Q:DescSt->WU->Prop}(T:Tells prog w A s κ rk a0)(S:Step κ a0 lo v st)(U:lo+b<=a0.size)(h1:1<=n)(H:n<=b)(N:Down rk (Xm st) lo n)
  (h:∀m q a,Step κ a0 lo v a->n<=m->m<=b->Down rk (Xm a) lo m->q+1<=m->(∀i,m-(q+1)<=i->i<m->Rk rk (Xm a) (lo+i)=Rk rk (Xm a) (lo+(m-1)))->Q (none,m,q) a):wpS (Xx prog w) A E s (ziX lo n b) Q st:=by
 unfold ziX;refine V6 (I:=λx c a=>∃q,c=(none,x,q)/\Step κ a0 lo v a/\Down rk (Xm a) lo x/\q+1<=x /\
   (∀i,x-(q+1)<=i->i<x->Rk rk (Xm a) (lo+i)=Rk rk (Xm a) (lo+(x-1)))) ?step ?fin (dU 0 rfl S N (by lia) (λi h1 h2=>by congr 1;lia))
 case fin =>
  refine λc a=>gj λq z0 l d B he=>?_;subst z0
  rw[show max n b=b by lia]at d B he ⊢
  exact h b q a l H (XW _) d B he
 case step =>
  refine λx c a D O=>gj λq z0 l d B he=>?_;subst z0
  dsimp only
  have J:lo+x<=(Xm a).size:=by
   rw[l.ok.size];lia
  refine XE (zcJ T l.ok (by lia) (by lia) ?_)
  by_cases e:Rk rk (Xm a) (lo+x)<Rk rk (Xm a) (lo+x-1)
  .simp only[e,decide_true,if_true];have g:∀L:Array Xe,(∀k,Rk rk L k=Rk rk (Xm a) k)->Down rk L lo (x+1):=by
    intro L hk i j r M;rw[hk,hk];by_cases u:j<x
    .exact d i j r u
    .obtain rfl:j=x:=by lia
     by_cases p:i=j
     .subst p;exact Vk _
     .have y:=d i (j-1) (by lia) (by lia);rw[show lo+(j-1)=lo+j-1 by lia]at y;exact Wx (Ww e) y
   by_cases z:q>0
   .rw[bw z];refine XE (ziW (Xo (dU 0 rfl (l.mirror (by lia) (by lia)) (g _ (jW J λk Y k2=>?_)) (by lia) (λi h1 h2=>by congr 1;lia))));have y:=he (k-lo) (by lia) (by lia);rw[show lo+(k-lo)=k by lia,show lo+(x-1)=lo+x-1 by lia]at y;exact y
   .rw[bq z];exact Xo (dU 0 rfl l (g _ (λ_=>rfl)) (by lia) (λi h1 h2=>by congr 1;lia))
  .simp only[e,decide_false,WG,if_false];refine XE (zcJ T l.ok (by lia) (by lia) ?_);by_cases f:Rk rk (Xm a) (lo+x-1)<Rk rk (Xm a) (lo+x)
   .simp only[f,decide_true,if_true];exact Xo (h x q a l D (by lia) d B he)
   .simp only[f,decide_false,WG,if_false];have o:Rk rk (Xm a) (lo+x)=Rk rk (Xm a) (lo+(x-1)):=by
     rw[show lo+(x-1)=lo+x-1 by lia];lia
    refine Xo (dU (q+1) rfl l (λi j r M=>?_) (by lia) (λi h1 h2=>?_))
    .by_cases u:j<x
     .exact d i j r u
     .obtain rfl:j=x:=by lia
      by_cases p:i=j
      .subst p;exact Vk _
      .rw[o];exact d i (j-1) (by lia) (by lia)
    .rw[show x+1-1=x by lia];by_cases G:i=x
     .subst G;rfl
     .rw[o];exact he i (by lia) (by lia)
def ziY {g st:WU}{lo n b:Nat}{Q:Option Nat->WU->Prop}(T:Tells prog w A s κ rk a0)(S:Step κ a0 lo g st)(p:lo+b<=a0.size)(r:n+1<=b)(y:Down rk (Xm st) lo (n+1))
  (h:∀m a,Step κ a0 lo g a->1<=m->m<=b->Up rk (Xm a) lo (lo+m)->Q (some m) a):wpS (Xx prog w) A E s (part2 lo n b) Q st:=by
 unfold part2;refine XE (QP (UY ⟨rfl,?_⟩));refine XE (znM T S p (by lia) r y λm q a l x c e z he=>?_);dsimp only;have f:lo+m<=(Xm a).size:=by
  rw[l.ok.size];lia
 by_cases d:q>0
 .rw[bw d];refine XE (ziW (zlB T (l.mirror (by lia) (by lia)) p (by lia) c ?_ h));intro i j o v;show Rk rk (mirror (Xm a) _ _ _) (lo+j)<=Rk rk (mirror (Xm a) _ _ _) (lo+i);have same:∀k,lo+m-(q+1)<=k->k<lo+m->Rk rk (Xm a) k=Rk rk (Xm a) (lo+m-1):=λk B D=>by
   have u:=he (k-lo) (by lia) (by lia);rw[show lo+(k-lo)=k by lia,show lo+(m-1)=lo+m-1 by lia]at u;exact u
  rw[jW f same,jW f same];exact e i j o v
 .rw[bq d];exact zlB T l p (by lia) c e h
def zbA {st:WU}{lo b:Nat}{Q:Option Nat->WU->Prop}(T:Tells prog w A s κ rk a0)(O:Ok κ a0 st)(v:lo+b<=a0.size)(h1:1<=b)
  (h:∀m l,Step κ a0 lo st l->1<=m->m<=b->Up rk (Xm l) lo (lo+m)->Q (some m) l):wpS (Xx prog w) A E s (countRun' lo b) Q st:=by
 have S:=Step.refl (lo:=lo) O;rw[run_eq];refine XE (zoT T O v (XW 1) h1 (λi j I p y=>by
  obtain rfl:i=j:=by lia
  exact Vk _) λn q r d x=>?_)
 dsimp only;by_cases g:n=b
 .rw[bw (by simpa using g)];exact Xo (h n st S q r d)
 .rw[bq (by simpa using g)];have f:Rk rk (Xm st) (lo+n)<Rk rk (Xm st) (lo+n-1):=x.resolve_left g;have u:lo+n<=(Xm st).size:=by
   rw[O.size];lia
  by_cases o:n>1
  .rw[bw o];refine XE (zcJ T O (by lia) (by lia) ?_);by_cases c:Rk rk (Xm st) lo<Rk rk (Xm st) (lo+n-1)
   .simp only[c,decide_true,if_true];exact Xo (h n st S q r d)
   .simp only[c,decide_false,WG,if_false];have a:∀k,lo<=k->k<lo+n->Rk rk (Xm st) k=Rk rk (Xm st) (lo+n-1):=by
     intro k z D;have G:=d lo k (XW _) z D;have H:=d k (lo+n-1) z (by lia) (by lia);lia
    refine XE (ziW (ziY T (S.mirror (XW _) (by lia)) v (by lia) ?_ h));intro i j p y;show Rk rk (mirror (Xm st) _ _ _) (lo+j)<=Rk rk (mirror (Xm st) _ _ _) (lo+i);rw[jW u a,jW u a];by_cases B:j<n
    .rw[a (lo+i) (by lia) (by lia),a (lo+j) (by lia) (by lia)];exact Vk _
    .obtain rfl:j=n:=by lia
     by_cases e:i=j
     .subst e;exact Vk _
     .rw[a (lo+i) (by lia) (by lia)];exact Ww f
  .rw[bq o];obtain rfl:n=1:=by lia
   refine ziY T S v (by lia) ?_ h;intro i j p y;by_cases e:i=j
   .subst e;exact Vk _
   .obtain rfl:i=0:=by lia
    obtain rfl:j=1:=by lia
    rw[RQ]at f;exact Ww f
def zed {xs:Array Xe}{src d:Nat}(b:src<xs.size)(a:d<=src)(k:Nat):Rk rk (bubble xs src d) k=if k=src-d then Rk rk xs src else if src-d<k/\k<=src then Rk rk xs (k-1) else Rk rk xs k:=by
 have e:=getElem?_bubble b d a k;by_cases h1:k=src-d
 .rw[bw h1]at e ⊢;exact JX e
 .rw[bq h1]at e ⊢;by_cases h2:src-d<k/\k<=src
  .rw[bw h2]at e ⊢;exact JX e
  .rw[bq h2]at e ⊢;exact JX e
def zrp {st:WU}{lo n ok:Nat}{Q:Bool->WU->Prop}(T:Tells prog w A s κ rk a0)(O:Ok κ a0 st)(hn:lo+n<=a0.size)(ab:ok<=n)(hs:Up rk (Xm st) lo (lo+ok))
  (h:∀e,Step κ a0 lo st e->Up rk (Xm e) lo (lo+n)->Q true e):wpS (Xx prog w) A E s (binarySort' lo n ok) Q st:=by
 rw[binarySort'_eq];refine XE (Uy (V6 (I:=λk c e=>c=(none,())/\Step κ a0 lo st e/\Up rk (Xm e) lo (lo+min k n))
  (Q:=λc e=>c=(none,())/\Step κ a0 lo st e/\Up rk (Xm e) lo (lo+n)) ?step ?fin ?init) ?post)
 case post =>
  rintro c e ⟨rfl,p,g⟩
  exact Xo (h e p g)
 case init =>
  refine⟨rfl,Step.refl O,λi j z D U=>?_⟩
  by_cases h1:ok=0
  .obtain rfl:i=j:=by lia
   exact Vk _
  .exact hs i j z D (by lia)
 case fin =>
  rintro c e ⟨N,p,g⟩
  refine⟨N,p,?_⟩
  rwa [show min (max (max ok 1) n) n=n by lia]at g
 case step =>
  refine λk c e M Y=>fO λz0 p g=>?_;subst z0
  rw[show min k n=k by lia]at g
  have v:=p.ok
  have hk:lo+k<a0.size:=by lia
  refine XE (Uy (V6 (I:=λx c d=>d=e/\∃l r,c=(none,l,r)/\l<=r/\r<=k/\r-l<=k-x /\
    (∀i,i<l->Rk rk (Xm e) (lo+i)<=Rk rk (Xm e) (lo+k))/\(∀i,r<=i->i<k->Rk rk (Xm e) (lo+k)<Rk rk (Xm e) (lo+i)))
   (Q:=λc d=>d=e/\∃l r,c=(none,l,r)/\l<=k /\
    (∀i,i<l->Rk rk (Xm e) (lo+i)<=Rk rk (Xm e) (lo+k))/\(∀i,l<=i->i<k->Rk rk (Xm e) (lo+k)<Rk rk (Xm e) (lo+i))) ?istep ?ifin ?iinit) ?ipost)
  case iinit=>exact fu rfl 0 k rfl (by lia) (by lia) (by lia) (λi z=>by lia) (λi h1 h2=>by lia)
  case ifin =>
   refine λc d=>fN λz0=>gb λl r z1 G u hm o m=>?_;subst z0 z1
   obtain rfl:l=r:=by lia
   exact⟨rfl,(dH l l rfl u o m)⟩
  case istep =>
   refine λx c d _ ac=>fN λz0=>gb λl r z1 G u hm o m=>?_;subst z0 z1
   dsimp only
   by_cases y:l >= r
   .rw[bw y];obtain rfl:l=r:=by lia
    exact Xo ⟨rfl,(dH l l rfl u o m)⟩
   .rw[bq y];refine XE (zcJ T v hk (by lia) ?_);by_cases f:Rk rk (Xm d) (lo+k)<Rk rk (Xm d) (lo+(l+r)/2)
    .simp only[f,decide_true,if_true];refine Xo (fu rfl l ((l+r)/2) rfl (by lia) (by lia) (by lia) o (λi h1 h2=>?_));exact Int.lt_of_lt_of_le f (g _ _ (by lia) (by lia) (by lia))
    .simp only[f,decide_false,WG,if_false];refine Xo (fu rfl ((l+r)/2+1) r rfl (by lia) (by lia) (by lia) (λi h1=>?_) m);exact Wx (g (lo+i) (lo+(l+r)/2) (by lia) (by lia) (by lia)) (Om.mp f)
  case ipost =>
   refine λc d=>fN λz0=>fH λl r z1 aa o m=>?_;subst z0 z1
   show wpS _ _ _ _ (do moveDown' (lo+k) (lo+l);pure (V3 (none,()))) _ _
   rw[moveDown'_eq]
   have q:lo+k<(Xm d).size:=by
    rw[v.size];exact hk
   refine XE (Ti (Xo ⟨rfl,⟨⟨(bubble_perm _ _ _).trans v.perm,v.kind,v.good⟩,p.pend,λi z=>?_⟩,?_⟩))
   .show (bubble (Xm d) (lo+k) (lo+k-(lo+l)))[i]?=_;rw[getElem?_bubble q _ (by lia),bq (by lia),bq (by lia)];exact p.low i z
   .rw[show min (k+1) n=k+1 by lia];intro i j z D U;show Rk rk (bubble (Xm d) (lo+k) (lo+k-(lo+l))) i<=Rk rk (bubble (Xm d) (lo+k) (lo+k-(lo+l))) j;rw[zed q (by lia),zed q (by lia),show lo+k-(lo+k-(lo+l))=lo+l by lia];have up:∀a b,lo<=a->a<=b->b<lo+k->Rk rk (Xm d) a<=Rk rk (Xm d) b:=g;have H:∀a,lo<=a->a<lo+l->Rk rk (Xm d) a<=Rk rk (Xm d) (lo+k):=λa J L=>by
     have:=o (a-lo) (by lia);rwa [show lo+(a-lo)=a by lia]at this
    have B:∀a,lo+l<=a->a<lo+k->Rk rk (Xm d) (lo+k)<Rk rk (Xm d) a:=λa J L=>by
     have:=m (a-lo) (by lia) (by lia);rwa [show lo+(a-lo)=a by lia]at this
    repeat' split
    all_goals first
     | (exfalso;lia)
     | exact Vk _
     | exact H _ (by lia) (by lia)
     | exact Ww (B _ (by lia) (by lia))
     | exact up _ _ (by lia) (by lia) (by lia)
def gallop':Bool->Xe->Array Xe->Nat->Nat->Nat->StateT WU Sem (Option Nat):=sortPriv% PySem.Builtin.gallop
def mergeLo':Array Xe->Array Xe->StateT WU Sem (Array Xe):=sortPriv% PySem.Builtin.mergeLo
def mergeHi':Array Xe->Array Xe->StateT WU Sem (Array Xe):=sortPriv% PySem.Builtin.mergeHi
def bey (rk:Xe->Int)(left:Bool)(a x:Xe):Bool:=if left then decide (rk x<rk a) else !decide (rk a<rk x)
def zgt {st:WU}{left:Bool}{z:Xe}{J:Array Xe}{base n hint:Nat}{Q:Option Nat->WU->Prop}(T:Tells prog w A s κ rk a0)(hk:kindOf st=κ)(D:z∈a0.toList)(b:Nat->Bool)
  (he:∀i,i<n->∃x,J[base+i]?=some x/\x∈a0.toList/\b i=bey rk left z x) (mono:∀i j,i<=j->j<n->b j=true->b i=true) (hh:hint<n)
  (h:∀k,k<=n->(∀i,i<k->b i=true)->(∀i,k<=i->i<n->b i=false)->Q (some k) st):wpS (Xx prog w) A E s (gallop' left z J base n hint) Q st:=by
 have one:∀{i:Nat} {O:Option Bool->WU->Prop},i<n->O (some (b i)) st->wpS (Xx prog w) A E s (do
   let x <- elem' J (base+i)
   if left=true then lt' x z
    else do
     let r <- lt' z x
     pure (Option.map (λx=>!x) r)) O st:=by
  intro i O y G;refine fP (λx e1 Y L=>?_) (he i y);refine XE (qY e1 ?_);unfold bey at L;cases left with
  | true =>
   rw[bw rfl]at L ⊢;rw[L]at G;exact zlz T hk Y D G
  | false =>
   rw[bq XS]at L ⊢;rw[L]at G;exact XE (zlz T hk D Y (Xo G))
 have H:∀{f:Nat->Option (Option Nat)×AA->StateT WU Sem (ForInStep (Option (Option Nat)×AA))} {g:Option (Option Nat)×AA->StateT WU Sem (Option Nat)},
   (∀x l r (R:ForInStep (Option (Option Nat)×AA)->WU->Prop),l >= r->R (.done (none,l,r)) st->wpS (Xx prog w) A E s (f x (none,l,r)) R st) ->
   (∀x l r (R:ForInStep (Option (Option Nat)×AA)->WU->Prop),l<r->r<=n->R (.yield (if b (l+(r-l)/2)=true then (none,l+(r-l)/2+1,r) else (none,l,l+(r-l)/2))) st->wpS (Xx prog w) A E s (f x (none,l,r)) R st) ->
   (∀l r,Q (some r) st->wpS (Xx prog w) A E s (g (none,l,r)) Q st) ->
   ∀(lo y:Nat),lo<=y->y<=n->(∀i,i<lo->b i=true)->(∀i,y<=i->i<n->b i=false)->wpS (Xx prog w) A E s (forIn [:n] ((none,lo,y):Option (Option Nat)×AA) f >>= g) Q st:=by
  intro f g f1 f2 g1 lo y h1 h2 h3 h4;refine XE (Uy (V6 (I:=λx c a=>a=st/\∃l r,c=(none,l,r)/\l<=r/\r<=n/\r-l<=n-x/\(∀i,i<l->b i=true)/\(∀i,r<=i->i<n->b i=false))
   (Q:=λc a=>a=st/\∃l,c=(none,l,l)/\l<=n/\(∀i,i<l->b i=true)/\(∀i,l<=i->i<n->b i=false)) ?step ?fin (fu rfl lo y rfl h1 h2 (by lia) h3 h4)) ?post)
  case fin =>
   refine λc a=>fN λz0=>gb λl r z1 q e p m B=>?_;subst z0 z1
   obtain rfl:l=r:=by lia
   exact⟨rfl,l,rfl,e,m,B⟩
  case post =>
   refine λc a=>fN λz0=>gr λl z1 e m B=>?_;subst z0 z1
   exact g1 l l (h l e m B)
  case step =>
   refine λx c a _ hx=>fN λz0=>gb λl r z1 q e p m B=>?_;subst z0 z1
   by_cases d:l >= r
   .obtain rfl:l=r:=by lia
    exact f1 x l l _ d ⟨rfl,l,rfl,e,m,B⟩
   .refine f2 x l r _ (by lia) e ?_;cases hb:b (l+(r-l)/2) with
    | true =>
     rw[bw rfl];exact fu rfl (l+(r-l)/2+1) r rfl (by lia) e (by lia) (λi y=>mono i _ (by lia) (by lia) hb) B
    | false =>
     rw[bq XS];refine fu rfl l (l+(r-l)/2) rfl (by lia) (by lia) (by lia) m (λi N M=>?_);cases v:b i with
     | false=>rfl
     | true =>
      have:=mono _ i N M v;rw[hb]at this;cases this
 refine XE (one hh ?_);dsimp only;cases hb:b hint with
 | true =>
  rw[bw rfl];refine XE (Uy (V6 (I:=λx c a=>a=st/\∃l o,c=(none,l,o)/\l<o/\hint+l<n/\b (hint+l)=true/\x+1<=o)
   (Q:=λc a=>a=st/\∃l o,c=(none,l,o)/\l<o/\hint+l<n/\b (hint+l)=true/\(o >= n-hint\/(hint+o<n/\b (hint+o)=false))) ?step ?fin (eK rfl 0 1 rfl (by lia) hh hb (by lia))) ?post)
  case fin =>
   refine λc a=>fN λz0=>fS λl o z1 q e p m=>?_;subst z0 z1
   exact eK rfl l o rfl q e p (.inl (by lia))
  case step =>
   refine λx c a _ hx=>fN λz0=>fS λl o z1 q e p m=>?_;subst z0 z1
   dsimp only
   by_cases d:o >= n-hint
   .rw[bw d];exact Xo (eK rfl l o rfl q e p (.inl d))
   .rw[bq d];refine XE (one (by lia) ?_);dsimp only;cases hbo:b (hint+o) with
    | false =>
     rw[bw (by decide)];exact Xo (eK rfl l o rfl q e p (.inr ⟨by lia,hbo⟩))
    | true =>
     rw[bq (by decide)];exact Xo (eK rfl o (2*o+1) rfl (by lia) (by lia) hbo (by lia))
  case post =>
   refine λc a=>fN λz0=>fS λl o z1 q e p m=>?_;subst z0 z1
   refine H (λx l r R d u=>?_) (λx l r R U hr u=>?_) (λl r G=>Xo G) (hint+l+1) (hint+min o (n-hint)) (by lia) (by lia) (λi y=>mono i (hint+l) (by lia) e p) λi N M=>?_
   .dsimp only;rw[bw d];exact Xo u
   .dsimp only;rw[bq (by lia)];refine XE (one (by lia) ?_);dsimp only;cases hbm:b (l+(r-l)/2) with
    | true =>
     rw[hbm,bw rfl]at u;rw[bw rfl];exact Xo u
    | false =>
     rw[hbm,bq XS]at u;rw[bq XS];exact Xo u
   .rcases m with m | ⟨m,B⟩
    .lia
    .cases v:b i with
     | false=>rfl
     | true =>
      have:=mono _ i (show hint+o<=i by lia) M v;rw[B]at this;cases this
 | false =>
  rw[bq XS];refine XE (Uy (V6 (I:=λx c a=>a=st/\∃l o,c=(none,l,o)/\l<o/\l<=hint/\b (hint-l)=false/\x+1<=o)
   (Q:=λc a=>a=st/\∃l o,c=(none,l,o)/\l<o/\l<=hint/\b (hint-l)=false/\(o >= hint+1\/(o<=hint/\b (hint-o)=true))) ?step ?fin (eK rfl 0 1 rfl (by lia) (by lia) hb (by lia))) ?post)
  case fin =>
   refine λc a=>fN λz0=>fS λl o z1 q e p m=>?_;subst z0 z1
   exact eK rfl l o rfl q e p (.inl (by lia))
  case step =>
   refine λx c a _ hx=>fN λz0=>fS λl o z1 q e p m=>?_;subst z0 z1
   dsimp only
   by_cases d:o >= hint+1
   .rw[bw d];exact Xo (eK rfl l o rfl q e p (.inl d))
   .rw[bq d];refine XE (one (by lia) ?_);dsimp only;cases hbo:b (hint-o) with
    | true =>
     rw[bw rfl];exact Xo (eK rfl l o rfl q e p (.inr ⟨by lia,hbo⟩))
    | false =>
     rw[bq (by decide)];exact Xo (eK rfl o (2*o+1) rfl (by lia) (by lia) hbo (by lia))
  case post =>
   refine λc a=>fN λz0=>fS λl o z1 q e p m=>?_;subst z0 z1
   refine H (λx l r R d u=>?_) (λx l r R U hr u=>?_) (λl r G=>Xo G) (hint+1-min o (hint+1)) (hint-l) (by lia) (by lia) (λi y=>?_) λi N M=>?_
   .dsimp only;rw[bw d];exact Xo u
   .dsimp only;rw[bq (by lia)];refine XE (one (by lia) ?_);dsimp only;cases hbm:b (l+(r-l)/2) with
    | true =>
     rw[hbm,bw rfl]at u;rw[bw rfl];exact Xo u
    | false =>
     rw[hbm,bq XS]at u;rw[bq XS];exact Xo u
   .rcases m with m | ⟨m,B⟩
    .lia
    .exact mono i (hint-o) (by lia) (by lia) B
   .cases v:b i with
    | false=>rfl
    | true =>
     have:=mono _ i N M v;rw[p]at this;cases this
end
structure MI (rk:Xe->Int)(aL bL:List Xe)(ia ib:Nat)(oL:List Xe):Prop where
 perm:oL.Perm (aL.take ia++bL.take ib)
 srt:oL.Pairwise λx y=>rk x<=rk y
 la:∀x∈oL,∀y∈aL.drop ia,rk x<=rk y
 lb:∀x∈oL,∀y∈bL.drop ib,rk x<=rk y
section
variable {rk:Xe->Int}{aL bL oL:List Xe}{ia ib:Nat}
def MI.swap (M:MI rk aL bL ia ib oL):MI rk bL aL ib ia oL:=⟨M.perm.trans SG,M.srt,M.lb,M.la⟩
def zkd (l:List Xe)(i k:Nat):l.take (i+k)=l.take i++(l.drop i).take k:=by
 rw[List.take_add]
def MI.takeA (M:MI rk aL bL ia ib oL)(sa:aL.Pairwise λx y=>rk x<=rk y)(k:Nat)(h:∀x∈(aL.drop ia).take k,∀y∈bL.drop ib,rk x<=rk y):MI rk aL bL (ia+k) ib (oL++(aL.drop ia).take k):=by
 have b:(aL.drop ia).Pairwise λx y=>rk x<=rk y:=sa.sublist (Ro _ _);have c:(aL.drop ia).drop k=aL.drop (ia+k):=OZ;refine⟨?_,?_,λx hx y a=>?_,λx hx y a=>?_⟩
 .rw[zkd,WL];refine(M.perm.append_right _).trans ?_;rw[WL];exact SH _ SG
 .rw[TV];exact⟨M.srt,b.sublist (Rs _ _),λx hx y a=>M.la x hx y (VW a)⟩
 .rw[<- c]at a;rcases XN.mp hx with hx | hx
  .exact M.la x hx y (Se a)
  .have:=b;rw[<- W9 k (aL.drop ia),TV]at this;exact this.2.2 x hx y a
 .rcases XN.mp hx with hx | hx
  .exact M.lb x hx y a
  .exact h x hx y a
def MI.takeB (M:MI rk aL bL ia ib oL)(a:bL.Pairwise λx y=>rk x<=rk y)(k:Nat)(h:∀x∈(bL.drop ib).take k,∀y∈aL.drop ia,rk x<=rk y):MI rk aL bL ia (ib+k) (oL++(bL.drop ib).take k):=(M.swap.takeA a k h).swap
def Mg (rk:Xe->Int)(aL bL oL:List Xe):Prop:=oL.Perm (aL++bL)/\oL.Pairwise λx y=>rk x<=rk y
def MI.all (M:MI rk aL bL ia ib oL)(a:aL.length<=ia)(b:bL.length<=ib):Mg rk aL bL oL:=by
 have:=M.perm;rw[WD a,WD b]at this;exact⟨this,M.srt⟩
def MI.doneB (M:MI rk aL bL ia ib oL)(sa:aL.Pairwise λx y=>rk x<=rk y)(a:bL.length<=ib):Mg rk aL bL (oL++aL.drop ia):=by
 have:=M.takeA sa (aL.drop ia).length (λx _ y b=>by
  rw[SQ a]at b;cases b)
 rw[XD]at this;exact this.all (by rw[VF];lia) a
def MI.lastA (M:MI rk aL bL ia ib oL)(sa:aL.Pairwise λx y=>rk x<=rk y)(c:bL.Pairwise λx y=>rk x<=rk y)(h:∀x∈bL,∀y∈aL.drop ia,rk x<=rk y):Mg rk aL bL (oL++bL.drop ib++aL.drop ia):=by
 have M2:=M.takeB c (bL.drop ib).length (λx a y b=>h x (Se (VW a)) y b);rw[XD]at M2;exact M2.doneB sa (by rw[VF];lia)
def ext_toList (a:Array Xe)(i j:Nat)(b:i<=j):(a.extract i j).toList=(a.toList.drop i).take (j-i):=by
 rw[OV,RG]
def zaz (a:Array Xe)(i:Nat):(a.extract i a.size).toList=a.toList.drop i:=by
 rw[OV,RG,WD];rw[VF,X4];exact XW _
def zlC {a:Array Xe}{i:Nat}{x:Xe}(h:a[i]?=some x):(a.toList.drop i).take 1=[x]:=by
 have b:i<a.toList.length:=by
  rw[X4];exact(Vw.mp h).1
 rw[WJ b,UC,List.take_zero];have:a.toList[i]?=some x:=by rw[Xy];exact h
 rw[X0 b]at this;rw[Option.some.inj this]
end
section
variable {prog:Xs}{w:Xd}{A:WY}{E:X9->X7->Prop}{s:X7}{rk:Xe->Int}{κ:T0}{a0:Array Xe}
structure Kept (st st':WU):Prop where
 arr:Xm st'=Xm st
 kind:kindOf st'=kindOf st
 pend:WT st'=WT st
 bad:S6 st'=S6 st
def setG':Nat->StateT WU Sem Unit:=sortPriv% PySem.Builtin.setMinGallop
def Kept.refl (st:WU):Kept st st:=⟨rfl,rfl,rfl,rfl⟩
def ze9 {b st:WU}{g:Nat}{Q:Unit->WU->Prop}(k:Kept b st)(h:∀a,Kept b a->Q () a):wpS (Xx prog w) A E s (setG' g) Q st:=by
 have e:setG' g=modify λc=>SortSt.mk' (kindOf c) (Xm c) (WT c) g (S6 c):=rfl;rw[e];exact Ti (h _ ⟨k.arr,k.kind,k.pend,k.bad⟩)
def qB {α:Type}{c:Prop} [Decidable c]{x y:StateT WU Sem α}{Q:α->WU->Prop}{st:WU}(h1:c->wpS (Xx prog w) A E s x Q st)(h2:¬ c->wpS (Xx prog w) A E s y Q st):wpS (Xx prog w) A E s (if c then x else y) Q st:=by
 by_cases a:c
 .rw[bw a];exact h1 a
 .rw[bq a];exact h2 a
def qP {a:Array Xe}{i:Nat}(h:i<a.size):∃x,a[i]?=some x/\x∈a.toList:=⟨a[i],getElem?_pos a i h,by simp⟩
def Zj {a:Array Xe}(sa:a.toList.Pairwise λx y=>rk x<=rk y){i:Nat}{x:Xe}(e:a[i]?=some x):∀y∈a.toList.drop i,rk x<=rk y:=by
 have b:i<a.toList.length:=by
  rw[X4];exact(Vw.mp e).1
 have c:a.toList[i]?=some x:=by rw[Xy];exact e
 rw[X0 b]at c;have d:=Option.some.inj c;have f:=sa.sublist (Ro i a.toList);rw[WJ b,d,RP]at f;rw[WJ b,d];intro y hy;rcases XI.mp hy with rfl | hy
 .exact Vk _
 .exact f.1 y hy
def Y9 {a b c:Array Xe}{f d:Nat}(M:MI rk a.toList b.toList f d c.toList)(sa:a.toList.Pairwise λx y=>rk x<=rk y)(e:b.size<=d):Mg rk a.toList b.toList (c++a.extract f a.size++b.extract d b.size).toList:=by
 rw[W4,W4,zaz,zaz,SQ (as:=b.toList) (by rw[X4];exact e),WV];exact M.doneB sa (by rw[X4];exact e)
def Qa {a b d:Array Xe}{c g:Nat}(M:MI rk a.toList b.toList c g d.toList)(sa:a.toList.Pairwise λx y=>rk x<=rk y)(k:b.toList.Pairwise λx y=>rk x<=rk y)(i:∀x∈b.toList,∀y,a[a.size-1]?=some y->rk x<=rk y)(l:c+1=a.size):Mg rk a.toList b.toList (d++b.extract g b.size++a.extract c a.size).toList:=by
 rw[W4,W4,zaz,zaz];refine M.lastA sa k λx j y f=>?_;have e:c<a.toList.length:=by rw[X4];lia
 rw[WJ e,SQ (by rw[X4];lia)]at f;have h:y=a.toList[c]:=by simpa using f
 refine i x j y ?_;rw[show a.size-1=c by lia,<- Xy,X0 e,h]
def zke (a:Array Xe)(x:Xe):(a.push x).toList=a.toList++[x]:=SX ..
def MI.oneB {a b c:Array Xe}{d f:Nat}{x:Xe}(M:MI rk a.toList b.toList d f c.toList)(k:b.toList.Pairwise λx y=>rk x<=rk y)(e:b[f]?=some x)(h:∀y∈a.toList.drop d,rk x<=rk y):MI rk a.toList b.toList d (f+1) (c.push x).toList:=by
 rw[zke,<- zlC e];refine M.takeB k 1 λz g y j=>?_;rw[zlC e]at g;have i:z=x:=by simpa using g
 rw[i];exact h y j
def MI.oneA {a b c:Array Xe}{d f:Nat}{x:Xe}(M:MI rk a.toList b.toList d f c.toList)(sa:a.toList.Pairwise λx y=>rk x<=rk y)(e:a[d]?=some x)(h:∀y∈b.toList.drop f,rk x<=rk y):MI rk a.toList b.toList (d+1) f (c.push x).toList:=(MI.oneB M.swap sa e h).swap
def MI.someA {a b f:Array Xe}{c g k:Nat}{y:Xe}(M:MI rk a.toList b.toList c g f.toList)(sa:a.toList.Pairwise λx y=>rk x<=rk y)(o:b.toList.Pairwise λx y=>rk x<=rk y)(e:b[g]?=some y)(h:∀i x,i<k->a[c+i]?=some x->rk x<=rk y):MI rk a.toList b.toList (c+k) g (f++a.extract c (c+k)).toList:=by
 rw[W4,ext_toList _ _ _ (Vq _ _),Nat.add_sub_cancel_left];refine M.takeA sa k λx m z n=>Wx ?_ (Zj o e z n);obtain⟨i,j,l⟩:=TC m;have d:i<k:=by
  rw[XJ]at j;lia
 refine h i x d ?_;have:((a.toList.drop c).take k)[i]?=some x:=by rw[X0 j,l]
 rw[List.getElem?_take,bw d,Td,Xy]at this;exact this
def MI.someB {a b d:Array Xe}{f c k:Nat}{y:Xe}(M:MI rk a.toList b.toList f c d.toList)(sa:a.toList.Pairwise λx y=>rk x<=rk y)(g:b.toList.Pairwise λx y=>rk x<=rk y)(e:a[f]?=some y)(h:∀i x,i<k->b[c+i]?=some x->rk x<=rk y):MI rk a.toList b.toList f (c+k) (d++b.extract c (c+k)).toList:=(MI.someA M.swap g sa e h).swap
def zbg {st:WU}{b:Xe}{a:Array Xe}{base n hint:Nat}{Q:Option Nat->WU->Prop}(T:Tells prog w A s κ rk a0)(hk:kindOf st=κ)(c:b∈a0.toList)(z:∀x∈a.toList,x∈a0.toList)(up:∀i j x y,base<=i->i<=j->j<base+n->a[i]?=some x->a[j]?=some y->rk x<=rk y)(B:base+n<=a.size)(r:hint<n)
  (h:∀k,k<=n->(∀i x,i<k->a[base+i]?=some x->rk x<=rk b)->(∀i x,k<=i->i<n->a[base+i]?=some x->rk b<rk x)->Q (some k) st):wpS (Xx prog w) A E s (gallop' false b a base n hint) Q st:=by
 have he:∀i,i<n->∃x,a[base+i]?=some x/\x∈a.toList:=λi f=>qP (by lia);refine zgt T hk c (λi=>match a[base+i]? with | some x=>bey rk false b x | none=>false) (λi f=>?_) (λi j u v d=>?_) r λk o h1 h2=>h k o (λi x f e=>?_) λi x g l e=>?_
 .obtain⟨x,e,m⟩:=he i f;refine⟨x,e,z x m,?_⟩;try dsimp only
  rw[e]
 .obtain⟨x,p,_⟩:=he i (by lia);obtain⟨y,q,_⟩:=he j v;try dsimp only at d ⊢
  rw[q]at d;rw[p];have:=up (base+i) (base+j) x y (by lia) (by lia) (by lia) p q;unfold bey at d ⊢;simp only[WG,if_false,Wu,decide_eq_false_iff_not]at d ⊢;lia
 .have:=h1 i f;try dsimp only at this
  rw[e]at this;unfold bey at this;simp only[WG,if_false,Wu,decide_eq_false_iff_not]at this;lia
 .have:=h2 i g l;try dsimp only at this
  rw[e]at this;unfold bey at this;simp only[WG,if_false,Bool.not_eq_false',bu]at this;exact this
def zbh {st:WU}{b:Xe}{a:Array Xe}{base n hint:Nat}{Q:Option Nat->WU->Prop}(T:Tells prog w A s κ rk a0)(hk:kindOf st=κ)(c:b∈a0.toList)(z:∀x∈a.toList,x∈a0.toList)(up:∀i j x y,base<=i->i<=j->j<base+n->a[i]?=some x->a[j]?=some y->rk x<=rk y)(B:base+n<=a.size)(r:hint<n)
  (h:∀k,k<=n->(∀i x,i<k->a[base+i]?=some x->rk x<rk b)->(∀i x,k<=i->i<n->a[base+i]?=some x->rk b<=rk x)->Q (some k) st):wpS (Xx prog w) A E s (gallop' true b a base n hint) Q st:=by
 have he:∀i,i<n->∃x,a[base+i]?=some x/\x∈a.toList:=λi f=>qP (by lia);refine zgt T hk c (λi=>match a[base+i]? with | some x=>bey rk true b x | none=>false) (λi f=>?_) (λi j u v d=>?_) r λk o h1 h2=>h k o (λi x f e=>?_) λi x g l e=>?_
 .obtain⟨x,e,m⟩:=he i f;refine⟨x,e,z x m,?_⟩;try dsimp only
  rw[e]
 .obtain⟨x,p,_⟩:=he i (by lia);obtain⟨y,q,_⟩:=he j v;try dsimp only at d ⊢
  rw[q]at d;rw[p];have:=up (base+i) (base+j) x y (by lia) (by lia) (by lia) p q;unfold bey at d ⊢;simp only[if_true,bu]at d ⊢;lia
 .have:=h1 i f;try dsimp only at this
  rw[e]at this;unfold bey at this;simp only[if_true,bu]at this;exact this
 .have:=h2 i g l;try dsimp only at this
  rw[e]at this;unfold bey at this;simp only[if_true,decide_eq_false_iff_not]at this;lia
def ziZ {a:Array Xe}(sa:a.toList.Pairwise λx y=>rk x<=rk y){i j:Nat}{x y:Xe}(d:i<=j)(c:a[i]?=some x)(b:a[j]?=some y):rk x<=rk y:=by
 refine Zj sa c y ?_;have e:j<a.toList.length:=by
  rw[X4];exact(Vw.mp b).1
 refine X8 (i:=j-i) ?_;rw[Td,Xy,show i+(j-i)=j by lia];exact b
set_option maxHeartbeats 8000000 in
theorem via {P:Prop}(h:∀G:Prop,(P->G)->G):P:=h P id
structure Key (P:Prop):Prop where
 get:P
def cut {P R:Prop}(k:P)(h:Key P->R):R:=h ⟨k⟩
def zkf {p:WU}{a b:Array Xe}{Q:Array Xe->WU->Prop}(T:Tells prog w A s κ rk a0)(hk:kindOf p=κ)(ma:∀x∈a.toList,x∈a0.toList)(mb:∀x∈b.toList,x∈a0.toList)(sa:a.toList.Pairwise λx y=>rk x<=rk y)(O:b.toList.Pairwise λx y=>rk x<=rk y)
  (ha:0<a.size) (hb:0<b.size) (h0:∀x y,b[0]?=some x->y∈a.toList->rk x<=rk y) (av:∀x∈b.toList,∀y,a[a.size-1]?=some y->rk x<rk y)
  (h:∀d l,Kept p l->Mg rk a.toList b.toList d.toList->Q d l):wpS (Xx prog w) A E s (mergeLo' a b) Q p:=by
 have hl:∀x∈b.toList,∀y,a[a.size-1]?=some y->rk x<=rk y:=λx hx y hy=>Ww (av x hx y hy);refine XE (QP (UY ⟨rfl,?_⟩));refine fJ (λb0 ah _=>?_) (qP hb);refine XE (qY ah ?_);have M0:MI rk a.toList b.toList 0 0 (#[]:Array Xe).toList:=⟨by simp,List.Pairwise.nil,(λx hx=>nomatch hx),(λx hx=>nomatch hx)⟩;have M1:MI rk a.toList b.toList 0 1 (#[b0]:Array Xe).toList:=MI.oneB M0 O ah λy hy=>h0 b0 y ah (by simpa using hy);dsimp -zeta only;refine qB (λhc=>Xo (h _ _ (Kept.refl _) (Y9 M1 sa (by rw[show 1=b.size by simpa using hc];exact XW _)))) λhc=>?_;refine qB (λak=>Xo (h _ _ (Kept.refl _) (Qa M1 sa O hl (by simpa using ak)))) λak=>?_;have a4:1<b.size:=by
  have:¬ 1=b.size:=by simpa using hc
  lia
 have az:0+1<a.size:=by
  have:¬ 0+1=a.size:=by simpa using ak
  lia
 refine XE (Sr ?_);refine XE (Uy (V6 (I:=λx c l=>∃d f g mg,c=(none,d,f,g,mg)/\MI rk a.toList b.toList f g d.toList/\f+1<a.size/\g<b.size/\x+1<=f+g/\Kept p l)
  (Q:=λc l=>∃m,c.1=some m/\Mg rk a.toList b.toList m.toList/\Kept p l) ?step ?fin (dY _ 0 1 _ rfl M1 az a4 (by lia) (Kept.refl _))) ?post)
 case fin =>
  refine λc l=>gC λd f g mg z0 M h1 h2 h3 k=>?_;subst z0
  lia
 case post =>
  rintro⟨c1,c2⟩ l ⟨m,e,hM,k⟩
  dsimp only at e ⊢
  subst e
  exact Xo (h _ _ k hM)
 case step =>
  intro x0 c ao _ aC hI
  refine via λG n=>?_
  obtain⟨d,f,g,mg,rfl,M,h1,h2,h3,k1⟩:=hI
  refine n ?_
  clear n
  have a7:kindOf ao=κ:=k1.kind.trans hk
  dsimp -zeta only
  refine XE (Uy (V6 (I:=λx c l=>l=ao/\∃d f g D H,c=(none,d,f,g,D,H)/\MI rk a.toList b.toList f g d.toList/\f+1<a.size/\g<b.size/\x0+1+x<=f+g)
   (Q:=λc l=>l=ao/\((∃m,c.1=some m/\Mg rk a.toList b.toList m.toList)\/∃d f g D H,c=(none,d,f,g,D,H)/\MI rk a.toList b.toList f g d.toList/\f+1<a.size/\g<b.size/\x0+2<=f+g)) ?step1 ?fin1 ⟨rfl,(eS _ _ _ _ _ rfl M h1 h2 (by lia))⟩) ?post1)
  case fin1 =>
   refine λc l=>fN λz0=>gu λd f g D H z1 M h1 h2 h3=>?_;subst z0 z1
   exact⟨rfl,.inr (eS d f g D H rfl M h1 h2 (by lia))⟩
  case step1 =>
   intro x c l _ hx hI
   refine via λG n=>?_
   revert hI;refine fN λz0=>gu λd f g D H z1 M h1 h2 h3=>?_;subst z0 z1
   obtain⟨y,ey,my⟩:=qP h2
   obtain⟨z,r,mz⟩:=qP (a:=a) (i:=f) (by lia)
   refine n ?_
   clear n
   dsimp -zeta only
   refine XE (qY ey (XE (qY r (XE (zlz T a7 (mb y my) (ma z mz) ?_)))))
   dsimp -zeta only
   refine qB (λam=>?_) λam=>?_
   .have aa:rk y<rk z:=bg am;have M2:=MI.oneB M O ey λv hv=>Wx (Ww aa) (Zj sa r v hv);refine XE (qY ey ?_);refine qB (λhe=>Xo ⟨rfl,.inl ⟨_,rfl,Y9 M2 sa (by rw[show g+1=b.size by simpa using he];exact XW _)⟩⟩) λhe=>?_;have af:g+1<b.size:=by
     have:¬ g+1=b.size:=by simpa using he
     lia
    exact qB (λ_=>Xo ⟨rfl,.inr (eS _ _ _ _ _ rfl M2 h1 af (by lia))⟩) λ_=>Xo ⟨rfl,(eS _ _ _ _ _ rfl M2 h1 af (by lia))⟩
   .have aa:¬ rk y<rk z:=λq=>am (br q);have M2:=MI.oneA M sa r λv hv=>Wx (Om.mp aa) (Zj O ey v hv);refine XE (qY r ?_);refine qB (λhe=>Xo ⟨rfl,.inl ⟨_,rfl,Qa M2 sa O hl (by simpa using he)⟩⟩) λhe=>?_;have Y:f+1+1<a.size:=by
     have:¬ f+1+1=a.size:=by simpa using he
     lia
    exact qB (λ_=>Xo ⟨rfl,.inr (eS _ _ _ _ _ rfl M2 Y h2 (by lia))⟩) λ_=>Xo ⟨rfl,(eS _ _ _ _ _ rfl M2 Y h2 (by lia))⟩
  case post1 =>
   intro c l hI
   refine via λG n=>?_
   rcases hI with ⟨rfl,a5 | ⟨d,f,g,D,H,rfl,M,h1,h2,h3⟩⟩
   all_goals (refine n ?_;clear n)
   .revert a5;refine fJ λm e hM=>?_;obtain⟨c1,c2⟩:=c;dsimp only at e ⊢;subst e;exact Xo ⟨m,rfl,hM,k1⟩
   dsimp -zeta only
   refine XE (QP (UY ⟨rfl,?_⟩))
   refine XE (Uy (V6 (I:=λx c B=>∃d f g mg D H,c=(none,d,f,g,mg,D,H)/\MI rk a.toList b.toList f g d.toList/\f+1<a.size/\g<b.size/\x0+2<=f+g/\Kept p B)
    (Q:=λc B=>(∃m,c.1=some m/\Mg rk a.toList b.toList m.toList/\Kept p B)\/∃d f g mg D H,c=(none,d,f,g,mg,D,H)/\MI rk a.toList b.toList f g d.toList/\f+1<a.size/\g<b.size/\x0+2<=f+g/\Kept p B) ?step2 ?fin2 (dO _ _ _ _ (eB _ _ rfl M h1 h2 h3 k1))) ?post2)
   case fin2 =>
    rintro c B hc
    exact .inr hc
   case post2 =>
    rintro c B (⟨m,e,hM,k2⟩ | ⟨d,f,g,mg,D,H,rfl,M,h1,h2,h3,k2⟩)
    .obtain⟨c1,c2⟩:=c;dsimp only at e ⊢;subst e;exact Xo ⟨m,rfl,hM,k2⟩
    .dsimp -zeta only;exact XE (ze9 k2 λax k3=>Xo (dY _ _ _ _ rfl M h1 h2 (by lia) k3))
   case step2 =>
    intro x c B _ hx hI
    refine via λG n=>?_
    obtain⟨d,f,g,mg,D,H,rfl,M,h1,h2,h3,k2⟩:=hI
    obtain⟨y,ey,my⟩:=qP h2
    refine n ?_
    clear n
    dsimp -zeta only
    refine' cut ?key1 λo=>qB (λa8=>?a1) λa8=>?b1
    case a1 =>
     generalize mg-1=aw
     revert aw
     exact o.get
    case b1=>exact o.get mg
    intro aw
    dsimp -zeta only
    refine XE (ze9 k2 λax k3=>?_)
    have au:kindOf ax=κ:=k3.kind.trans hk
    refine XE (qY ey (XE (zbg T au (mb y my) ma (λi j u v _ al _ eu J=>ziZ sa al eu J) (by lia) (by lia) λk aA g1 g2=>?_)))
    dsimp -zeta only
    refine' cut ?key2 λo=>qB (λa6=>?a2) λa6=>?b2
    case a2 =>
     have M2:=MI.someA M sa O ey g1
     refine qB (λhe=>Xo (.inl ⟨_,rfl,Qa M2 sa O hl (by simpa using he),k3⟩)) λhe=>?_
     have aD:¬ f+k+1=a.size:=by simpa using he
     have kl:f+k<a.size:=by
      refine Nat.lt_of_not_le λa9=>?_;obtain⟨v,J,mv⟩:=qP (a:=a) (i:=a.size-1) (by lia);have q1:=g1 (a.size-1-f) v (by lia) (by rw[show f+(a.size-1-f)=a.size-1 by lia];exact J);have q2:=av y my v J;lia
     refine qB (λaq=>absurd (show f+k=a.size by simpa using aq) (by lia)) λaq=>?_
     have ai:f+k+1<a.size:=by lia
     have aj:x0+2<=f+k+g:=by lia
     have ab:∀z,a[f+k]?=some z->rk y<=rk z:=λz r=>Ww (g2 k z (XW _) (by lia) r)
     generalize d++a.extract f (f+k)=ag at M2 ⊢
     generalize f+k=N at M2 ai aj ab ⊢
     revert ab;revert aj;revert ai;revert M2;revert N;revert ag
     exact o.get
    case b2=>exact o.get d f M h1 h3 λz r=>Ww (g2 0 z (by lia) (by lia) (by simpa using r))
    intro ag N M2 ai aj ab
    refine via λG n=>?_
    obtain⟨z,r,mz⟩:=qP (a:=a) (i:=N) (by lia)
    refine n ?_
    clear n
    have M3:=MI.oneB M2 O ey λv hv=>Wx (ab z r) (Zj sa r v hv)
    refine XE (qY ey ?_)
    refine qB (λhe=>Xo (.inl ⟨_,rfl,Y9 M3 sa (by rw[show g+1=b.size by simpa using he];exact XW _),k3⟩)) λhe=>?_
    have af:g+1<b.size:=by
     have:¬ g+1=b.size:=by simpa using he
     lia
    refine XE (qY r (XE (zbh T au (ma z mz) mb (λi j u v _ al _ eu J=>ziZ O al eu J) (by lia) (by lia) λk' aB g3 g4=>?_)))
    dsimp -zeta only
    refine' cut ?key3 λo=>qB (λar=>?a3) λar=>?b3
    case a3 =>
     have M4:=MI.someB M3 sa O r λi u hi eu=>Ww (g3 i u hi eu)
     refine qB (λhe=>Xo (.inl ⟨_,rfl,Y9 M4 sa (by rw[show g+1+k'=b.size by simpa using he];exact XW _),k3⟩)) λhe=>?_
     have L:g+1+k'<b.size:=by
      have:¬ g+1+k'=b.size:=by simpa using he
      lia
     have ae:∀v,b[g+1+k']?=some v->rk z<=rk v:=λv J=>g4 k' v (XW _) (by lia) J
     have U:x0+2<=N+(g+1+k'):=by lia
     generalize ag.push y++b.extract (g+1) (g+1+k')=ay at M4 ⊢
     generalize g+1+k'=an at M4 L ae U ⊢
     revert U;revert ae;revert L;revert M4;revert an;revert ay
     exact o.get
    case b3=>exact o.get (ag.push y) (g+1) M3 af (λv J=>g4 0 v (by lia) (by lia) (by simpa using J)) (by lia)
    intro ay an M4 L ae U
    refine via λG n=>?_
    obtain⟨v,J,mv⟩:=qP (a:=b) (i:=an) L
    refine n ?_
    clear n
    have M5:=MI.oneA M4 sa r λu hu=>Wx (ae v J) (Zj O J u hu)
    refine XE (qY r ?_)
    refine qB (λhe=>Xo (.inl ⟨_,rfl,Qa M5 sa O hl (by simpa using he),k3⟩)) λhe=>?_
    have Y:N+1+1<a.size:=by
     have:¬ N+1+1=a.size:=by simpa using he
     lia
    exact qB (λ_=>Xo (.inr (dO _ _ _ _ (eB _ _ rfl M5 Y L (by lia) k3)))) λ_=>Xo (dO _ _ _ _ (eB _ _ rfl M5 Y L (by lia) k3))
end
def neg (rk:Xe->Int):Xe->Int:=λx=>- rk x
def zca {a:Array Xe}{j:Nat}(h:j<a.size):a.reverse[j]?=a[a.size-1-j]?:=by
 rw[Pq h]
def Hi (rk:Xe->Int)(a b:Array Xe)(d e:Nat)(c:Array Xe):Prop:=MI (neg rk) a.reverse.toList b.reverse.toList (a.size-d) (b.size-e) c.toList
section
variable {rk:Xe->Int}{a b out:Array Xe}{na nb:Nat}
def Yp (sa:a.toList.Pairwise λx y=>rk x<=rk y):a.reverse.toList.Pairwise λx y=>neg rk x<=neg rk y:=by
 rw[Ve,Pe];exact sa.imp λh=>S4 h
def zcK {i:Nat}{x:Xe}(h1:1<=i)(h2:i<=a.size)(e:a[i-1]?=some x):a.reverse[a.size-i]?=some x:=by
 rw[zca (by lia),show a.size-1-(a.size-i)=i-1 by lia];exact e
theorem Hi.oneA {x y:Xe}(M:Hi rk a b na nb out)(sa:a.toList.Pairwise λx y=>rk x<=rk y)(i:b.toList.Pairwise λx y=>rk x<=rk y)(h1:1<=na)(h2:na<=a.size)(e:1<=nb)(f:nb<=b.size)(c:a[na-1]?=some x)(d:b[nb-1]?=some y)(h:rk y<=rk x):Hi rk a b (na-1) nb (out.push x):=by
 have:=MI.oneA (rk:=neg rk) M (Yp sa) (zcK h1 h2 c) λv g=>Wx (S4 h) (Zj (Yp i) (zcK e f d) v g);unfold Hi;rw[show a.size-(na-1)=a.size-na+1 by lia];exact this
theorem Hi.oneB {x y:Xe}(M:Hi rk a b na nb out)(sa:a.toList.Pairwise λx y=>rk x<=rk y)(i:b.toList.Pairwise λx y=>rk x<=rk y)(h1:1<=na)(h2:na<=a.size)(e:1<=nb)(f:nb<=b.size)(c:a[na-1]?=some x)(d:b[nb-1]?=some y)(h:rk x<=rk y):Hi rk a b na (nb-1) (out.push y):=by
 have:=MI.oneB (rk:=neg rk) M (Yp i) (zcK e f d) λv g=>Wx (S4 h) (Zj (Yp sa) (zcK h1 h2 c) v g);unfold Hi;rw[show b.size-(nb-1)=b.size-nb+1 by lia];exact this
def znN {i j:Nat}(h1:i<=j)(h2:j<=a.size):(a.extract i j).reverse=a.reverse.extract (a.size-j) (a.size-j+(j-i)):=by
 apply Array.ext_getElem?;intro k;by_cases hk:k<j-i
 .rw[Pq (by rw[Ui];lia),SO,SO,Ui];rw[bw (by lia),bw (by rw[UV];lia),zca (by lia)];congr 1;lia
 .rw[WP (by rw[UV,Ui];lia),WP (by rw[Ui,UV];lia)]
theorem Hi.someA {i:Nat}{y:Xe}(M:Hi rk a b na nb out)(sa:a.toList.Pairwise λx y=>rk x<=rk y)(g:b.toList.Pairwise λx y=>rk x<=rk y)(h1:i<=na)(h2:na<=a.size)(e:1<=nb)(f:nb<=b.size)(d:b[nb-1]?=some y)(h:∀j x,i<=j->j<na->a[j]?=some x->rk y<=rk x):Hi rk a b i nb (out++(a.extract i na).reverse):=by
 have:=MI.someA (rk:=neg rk) (k:=na-i) M (Yp sa) (Yp g) (zcK e f d) λj x l c=>S4 (h (na-1-j) x (by lia) (by lia) (by
  rw[zca (by lia)]at c;rw[<- c];congr 1;lia))
 unfold Hi;rw[znN h1 h2,show a.size-i=a.size-na+(na-i) by lia];exact this
def Hi.someB {i:Nat}{y:Xe}(M:Hi rk a b na nb out)(sa:a.toList.Pairwise λx y=>rk x<=rk y)(f:b.toList.Pairwise λx y=>rk x<=rk y)(h1:i<=nb)(h2:nb<=b.size)(d:1<=na)(e:na<=a.size)(c:a[na-1]?=some y)(h:∀j x,i<=j->j<nb->b[j]?=some x->rk y<=rk x):Hi rk a b na i (out++(b.extract i nb).reverse):=(Hi.someA (a:=b) (b:=a) M.swap f sa h1 h2 d e c h).swap
def zlE {c:List Xe}(h:Mg (neg rk) b.reverse.toList a.reverse.toList c):Mg rk a.toList b.toList c.reverse:=by
 obtain⟨p,q⟩:=h;rw[Ve,Ve]at p;refine⟨?_,?_⟩
 .refine(Rn _).trans (p.trans (SG.trans ?_));exact List.Perm.append (Rn _) (Rn _)
 .rw[Pe];refine q.imp λ{x y} h=>?_;have d:- rk x<=- rk y:=h;lia
def zcb {i:Nat}(h:i<=a.size):(a.reverse.extract (a.size-i) a.reverse.size).toList.reverse=(a.extract 0 i).toList:=by
 rw[zaz,Ve,ext_toList _ _ _ (W3 _),List.drop_zero,Oc];have:=List.reverse_take (l:=a.toList) (i:=i);rw[X4]at this;rw[<- this,List.reverse_reverse]
def Hi.done (M:Hi rk a b 0 nb out)(d:b.toList.Pairwise λx y=>rk x<=rk y)(h:nb<=b.size):Mg rk a.toList b.toList (a.extract 0 0++b.extract 0 nb++out.reverse).toList:=by
 have h1:=Y9 (rk:=neg rk) (a:=b.reverse) (b:=a.reverse) M.swap (Yp d) (by rw[UV];lia);have h2:=zlE h1;rw[W4,W4,TB,TB,zcb h]at h2;have c:=zcb (a:=a) (i:=0) (W3 _);rw[c]at h2;rw[W4,W4,Ve,WL];exact h2
def Hi.first (M:Hi rk a b na 1 out)(sa:a.toList.Pairwise λx y=>rk x<=rk y)(f:b.toList.Pairwise λx y=>rk x<=rk y)(g:0<b.size)(h:na<=a.size)(h0:∀x y,b[0]?=some x->y∈a.toList->rk x<rk y):Mg rk a.toList b.toList (b.extract 0 1++a.extract 0 na++out.reverse).toList:=by
 have h1:=Qa (rk:=neg rk) (a:=b.reverse) (b:=a.reverse) M.swap (Yp f) (Yp sa) (λx e y d=>by
  rw[UV,zca (by lia),show b.size-1-(b.size-1)=0 by lia]at d;have c:x∈a.toList:=by simpa using e
  exact S4 (Ww (h0 y x d c))) (by rw[UV];lia)
 have h2:=zlE h1;rw[W4,W4,TB,TB,zcb h,zcb (by lia)]at h2;rw[W4,W4,Ve,WL];exact h2
end
section
variable {prog:Xs}{w:Xd}{A:WY}{E:X9->X7->Prop}{s:X7}{rk:Xe->Int}{κ:T0}{a0:Array Xe}
set_option maxHeartbeats 8000000 in
theorem zkg {p:WU}{a b:Array Xe}{Q:Array Xe->WU->Prop}(T:Tells prog w A s κ rk a0)(hk:kindOf p=κ)(ma:∀x∈a.toList,x∈a0.toList)(mb:∀x∈b.toList,x∈a0.toList)(sa:a.toList.Pairwise λx y=>rk x<=rk y)(r:b.toList.Pairwise λx y=>rk x<=rk y)
  (ha:0<a.size) (hb:0<b.size) (h0:∀x y,b[0]?=some x->y∈a.toList->rk x<rk y) (hl:∀x∈b.toList,∀y,a[a.size-1]?=some y->rk x<rk y)
  (h:∀d l,Kept p l->Mg rk a.toList b.toList d.toList->Q d l):wpS (Xx prog w) A E s (mergeHi' a b) Q p:=by
 refine XE (QP (UY ⟨rfl,?_⟩));refine fJ (λz0 aj _=>?_) (qP (a:=a) (i:=a.size-1) (by lia));refine fJ (λy0 a8 aF=>?_) (qP (a:=b) (i:=b.size-1) (by lia));refine XE (qY aj ?_);have M0:Hi rk a b a.size b.size #[]:=by
  unfold Hi;rw[TM,TM];exact⟨by simp,List.Pairwise.nil,(λx hx=>nomatch hx),(λx hx=>nomatch hx)⟩
 have M1:Hi rk a b (a.size-1) b.size #[z0]:=M0.oneA sa r (by lia) (XW _) (by lia) (XW _) aj a8 (Ww (hl y0 aF z0 aj));dsimp -zeta only;refine qB (λhc=>Xo (h _ _ (Kept.refl _) ?_)) λhc=>?_
 .have e:a.size-1=0:=by simpa using hc
  rw[e]at M1 ⊢;exact M1.done r (XW _)
 refine qB (λam=>Xo (h _ _ (Kept.refl _) ?_)) λam=>?_
 .have e:b.size=1:=by simpa using am
  rw[e]at M1 ⊢;exact M1.first sa r hb (by lia) h0
 have a9:1<=a.size-1:=by
  have:¬ a.size-1=0:=by simpa using hc
  lia
 have aA:1<b.size:=by
  have:¬ b.size=1:=by simpa using am
  lia
 refine XE (Sr ?_);refine XE (Uy (V6 (I:=λx c l=>∃g f d mg,c=(none,g,f,d,mg)/\Hi rk a b g f d/\1<=g/\g<a.size/\1<f/\f<=b.size/\g+f+x+1<=a.size+b.size/\Kept p l)
  (Q:=λc l=>∃m,c.1=some m/\Mg rk a.toList b.toList m.toList/\Kept p l) ?step ?fin (dS _ _ _ _ rfl M1 a9 (by lia) (eU aA (XW _) (by lia) (Kept.refl _)))) ?post)
 case fin =>
  refine λc l=>gf λg f d mg z0 M h1 h2=>fZ λh3 n h5 k=>?_;subst z0
  lia
 case post =>
  rintro⟨c1,c2⟩ l ⟨m,e,hM,k⟩
  dsimp only at e ⊢
  subst e
  exact Xo (h _ _ k hM)
 case step =>
  intro x0 c av _ aI hI
  refine via λG L=>?_
  obtain⟨g,f,d,mg,rfl,M,h1,h2,h3,n,h5,k1⟩:=hI
  refine L ?_
  clear L
  have aD:kindOf av=κ:=k1.kind.trans hk
  dsimp -zeta only
  refine XE (Uy (V6 (I:=λx c l=>l=av/\∃g f d O U,c=(none,g,f,d,O,U)/\Hi rk a b g f d/\1<=g/\g<a.size/\1<f/\f<=b.size/\g+f+x0+1+x<=a.size+b.size)
   (Q:=λc l=>l=av/\((∃m,c.1=some m/\Mg rk a.toList b.toList m.toList)\/∃g f d O U,c=(none,g,f,d,O,U)/\Hi rk a b g f d/\1<=g/\g<a.size/\1<f/\f<=b.size/\g+f+x0+2<=a.size+b.size)) ?step1 ?fin1 ⟨rfl,(eY _ _ _ _ _ rfl M h1 h2 h3 n (by lia))⟩) ?post1)
  case fin1 =>
   refine λc l=>fN λz0=>gu λg f d O U z1 M h1 h2=>fO λh3 n h5=>?_;subst z0 z1
   exact⟨rfl,.inr (eY g f d O U rfl M h1 h2 h3 n (by lia))⟩
  case step1 =>
   intro x c l _ hx hI
   refine via λG L=>?_
   revert hI;refine fN λz0=>gu λg f d O U z1 M h1 h2=>fO λh3 n h5=>?_;subst z0 z1
   obtain⟨y,ey,my⟩:=qP (a:=b) (i:=f-1) (by lia)
   obtain⟨z,B,mz⟩:=qP (a:=a) (i:=g-1) (by lia)
   refine L ?_
   clear L
   dsimp -zeta only
   refine XE (qY ey (XE (qY B (XE (zlz T aD (mb y my) (ma z mz) ?_)))))
   dsimp -zeta only
   refine qB (λar=>?_) λar=>?_
   .have ae:rk y<rk z:=bg ar;have M2:=M.oneA sa r h1 (by lia) (by lia) n B ey (Ww ae);refine XE (qY B ?_);refine qB (λhe=>Xo ⟨rfl,.inl ⟨_,rfl,?_⟩⟩) λhe=>?_
    .have e:g-1=0:=by simpa using he
     rw[e]at M2 ⊢;exact M2.done r n
    have hn:1<=g-1:=by
     have:¬ g-1=0:=by simpa using he
     lia
    exact qB (λ_=>Xo ⟨rfl,.inr (eY _ _ _ _ _ rfl M2 hn (by lia) h3 n (by lia))⟩) λ_=>Xo ⟨rfl,(eY _ _ _ _ _ rfl M2 hn (by lia) h3 n (by lia))⟩
   .have ae:¬ rk y<rk z:=λq=>ar (br q);have M2:=M.oneB sa r h1 (by lia) (by lia) n B ey (Om.mp ae);refine XE (qY ey ?_);refine qB (λhe=>Xo ⟨rfl,.inl ⟨_,rfl,?_⟩⟩) λhe=>?_
    .have e:f-1=1:=by simpa using he
     rw[e]at M2 ⊢;exact M2.first sa r hb (by lia) h0
    have hn:1<f-1:=by
     have:¬ f-1=1:=by simpa using he
     lia
    exact qB (λ_=>Xo ⟨rfl,.inr (eY _ _ _ _ _ rfl M2 h1 h2 hn (by lia) (by lia))⟩) λ_=>Xo ⟨rfl,(eY _ _ _ _ _ rfl M2 h1 h2 hn (by lia) (by lia))⟩
  case post1 =>
   intro c l hI
   refine via λG L=>?_
   rcases hI with ⟨rfl,aB | ⟨g,f,d,O,U,rfl,M,h1,h2,h3,n,h5⟩⟩
   all_goals (refine L ?_;clear L)
   .revert aB;refine fJ λm e hM=>?_;obtain⟨c1,c2⟩:=c;dsimp only at e ⊢;subst e;exact Xo ⟨m,rfl,hM,k1⟩
   dsimp -zeta only
   refine XE (QP (UY ⟨rfl,?_⟩))
   refine XE (Uy (V6 (I:=λx c J=>∃g f d mg O U,c=(none,g,f,d,mg,O,U)/\Hi rk a b g f d/\1<=g/\g<a.size/\1<f/\f<=b.size/\g+f+x0+2<=a.size+b.size/\Kept p J)
    (Q:=λc J=>(∃m,c.1=some m/\Mg rk a.toList b.toList m.toList/\Kept p J)\/∃g f d mg O U,c=(none,g,f,d,mg,O,U)/\Hi rk a b g f d/\1<=g/\g<a.size/\1<f/\f<=b.size/\g+f+x0+2<=a.size+b.size/\Kept p J) ?step2 ?fin2 (fj _ _ _ _ _ _ rfl M h1 h2 (eU h3 n h5 k1))) ?post2)
   case fin2 =>
    rintro c J hc
    exact .inr hc
   case post2 =>
    rintro c J (⟨m,e,hM,k2⟩ | ⟨g,f,d,mg,O,U,rfl,M,h1,h2,h3,n,h5,k2⟩)
    .obtain⟨c1,c2⟩:=c;dsimp only at e ⊢;subst e;exact Xo ⟨m,rfl,hM,k2⟩
    .dsimp -zeta only;exact XE (ze9 k2 λa6 k3=>Xo (dS _ _ _ _ rfl M h1 h2 (eU h3 n (by lia) k3)))
   case step2 =>
    intro x c J _ hx hI
    refine via λG L=>?_
    obtain⟨g,f,d,mg,O,U,rfl,M,h1,h2,h3,n,h5,k2⟩:=hI
    obtain⟨y,ey,my⟩:=qP (a:=b) (i:=f-1) (by lia)
    refine L ?_
    clear L
    dsimp -zeta only
    refine' cut ?key1 λo=>qB (λaE=>?a1) λaE=>?b1
    case a1 =>
     generalize mg-1=a5
     revert a5
     exact o.get
    case b1=>exact o.get mg
    intro a5
    dsimp -zeta only
    refine XE (ze9 k2 λa6 k3=>?_)
    have ay:kindOf a6=κ:=k3.kind.trans hk
    refine XE (qY ey (XE (zbg T ay (mb y my) ma (λi j u v _ an _ eu Y=>ziZ sa an eu Y) (by lia) (by lia) λk aG g1 g2=>?_)))
    dsimp -zeta only
    refine' cut ?key2 λo=>qB (λaC=>?a2) λaC=>?b2
    case a2 =>
     have M2:=M.someA sa r (i:=k) (by lia) (by lia) (by lia) n ey λj u ao aq eu=>Ww (g2 j u ao aq (by simpa using eu))
     refine qB (λhe=>Xo (.inl ⟨_,rfl,(by
      have e:k=0:=by simpa using he
      rw[e]at M2 ⊢;exact M2.done r n),k3⟩)) λhe=>?_
     have aa:1<=k:=by
      have:¬ k=0:=by simpa using he
      lia
     have ak:k<a.size:=by lia
     have al:k+f+x0+2<=a.size+b.size:=by lia
     have ag:∀z,a[k-1]?=some z->rk z<=rk y:=λz B=>g1 (k-1) z (by lia) (by simpa using B)
     generalize d++(a.extract k g).reverse=ai at M2 ⊢
     generalize g-k=kk
     generalize k=H at M2 aa ak al ag ⊢
     revert ag;revert al;revert ak;revert aa;revert M2;revert H;revert kk;revert ai
     exact o.get
    case b2=>exact o.get d (g-k) g M h1 h2 h5 λz B=>g1 (g-1) z (by lia) (by simpa using B)
    intro ai kk H M2 aa ak al ag
    refine via λG L=>?_
    obtain⟨z,B,mz⟩:=qP (a:=a) (i:=H-1) (by lia)
    refine L ?_
    clear L
    have M3:=M2.oneB sa r aa (by lia) (by lia) n B ey (ag z B)
    refine XE (qY ey ?_)
    refine qB (λhe=>Xo (.inl ⟨_,rfl,(by
     have e:f-1=1:=by simpa using he
     rw[e]at M3 ⊢;exact M3.first sa r hb (by lia) h0),k3⟩)) λhe=>?_
    have hn:1<f-1:=by
     have:¬ f-1=1:=by simpa using he
     lia
    refine XE (qY B (XE (zbh T ay (ma z mz) mb (λi j u v _ an _ eu Y=>ziZ r an eu Y) (by lia) (by lia) λN aH g3 g4=>?_)))
    dsimp -zeta only
    refine' cut ?key3 λo=>qB (λax=>?a3) λax=>?b3
    case a3 =>
     have M4:=M3.someB sa r (i:=N) (by lia) (by lia) aa (by lia) B λj u ao aq eu=>g4 j u ao aq (by simpa using eu)
     refine qB (λhe=>Xo (.inl ⟨_,rfl,(by
      have e:N=1:=by simpa using he
      rw[e]at M4 ⊢;exact M4.first sa r hb (by lia) h0),k3⟩)) λhe=>?_
     have aJ:1<=N:=by
      refine Pp.mpr λhz=>?_;obtain⟨v,Y,mv⟩:=qP (a:=b) (i:=0) hb;have q1:=g4 0 v (by lia) (by lia) (by simpa using Y);have q2:=h0 v z Y mz;lia
     refine qB (λaw=>absurd (show N=0 by simpa using aw) (by lia)) λaw=>?_
     have af:1<N:=by
      have:¬ N=1:=by simpa using he
      lia
     have D:N<=b.size:=by lia
     have ab:H+N+x0+2<=a.size+b.size:=by lia
     have ah:∀v,b[N-1]?=some v->rk v<=rk z:=λv Y=>Ww (g3 (N-1) v (by lia) (by simpa using Y))
     generalize ai.push y++(b.extract N (f-1)).reverse=a7 at M4 ⊢
     generalize f-1-N=a4
     generalize N=au at M4 af D ab ah ⊢
     revert ah;revert ab;revert D;revert af;revert M4;revert au;revert a4;revert a7
     exact o.get
    case b3=>exact o.get (ai.push y) (f-1-N) (f-1) M3 hn (by lia) (by lia) λv Y=>Ww (g3 (f-1-1) v (by lia) (by simpa using Y))
    intro a7 a4 au M4 af D ab ah
    refine fJ (λv Y mv=>?_) (qP (a:=b) (i:=au-1) (by lia))
    have M5:=M4.oneA sa r aa (by lia) (by lia) D B Y (ah v Y)
    refine XE (qY B ?_)
    refine qB (λhe=>Xo (.inl ⟨_,rfl,(by
     have e:H-1=0:=by simpa using he
     rw[e]at M5 ⊢;exact M5.done r D),k3⟩)) λhe=>?_
    have az:1<=H-1:=by
     have:¬ H-1=0:=by simpa using he
     lia
    exact qB (λ_=>Xo (.inr (fj _ _ _ _ _ _ rfl M5 az (by lia) (eU af D (by lia) k3)))) λ_=>Xo (fj _ _ _ _ _ _ rfl M5 az (by lia) (eU af D (by lia) k3))
theorem zee (sa:Nat):∀(l:List Xe) (j:Nat) (b:Array Xe),((l.zipIdx j).foldl (λa (p:Xe×Nat)=>a.setIfInBounds (sa+p.2) p.1) b).size=b.size
 | [],_,_=>rfl
 | x::l,j,b=>by
  rw[List.zipIdx_cons,Wp,zee sa l (j+1)];exact Tq
def znO (sa:Nat):∀(l:List Xe) (j:Nat) (b:Array Xe) (i:Nat),sa+j+l.length<=b.size->((l.zipIdx j).foldl (λa (p:Xe×Nat)=>a.setIfInBounds (sa+p.2) p.1) b)[i]?=if sa+j<=i/\i<sa+j+l.length then l[i-(sa+j)]? else b[i]?:=by
 intro l;induction l with
 | nil =>
  intro j b i h;rw[bq (by simp only[UO];lia)];rfl
 | cons x l c =>
  intro j b i h;rw[Xi]at h;rw[List.zipIdx_cons,Wp,c (j+1) _ i (by rw[Tq];lia),Xi];by_cases h1:sa+(j+1)<=i/\i<sa+(j+1)+l.length
  .rw[bw h1,bw (by lia),show i-(sa+j)=(i-(sa+(j+1)))+1 by lia,PV]
  .rw[bq h1];by_cases h2:i=sa+j
   .subst h2;rw[bw (by lia),TM,List.getElem?_cons_zero];show (b.setIfInBounds (sa+j) x)[sa+j]?=some x;rw[Ub,bw rfl,bw (by lia)]
   .rw[bq (by lia)];show (b.setIfInBounds (sa+j) x)[i]?=b[i]?;rw[Ub,bq (λe=>h2 e.symm)]
def xu {xs:Array Xe}{lo a:Nat}(u:Up rk xs lo a){i j:Nat}{x y:Xe}(h1:lo<=i)(h2:i<=j)(d:j<a)(b:xs[i]?=some x)(c:xs[j]?=some y):rk x<=rk y:=by
 have:=u i j h1 h2 d;unfold Rk at this;rw[b,c]at this;exact this
def zoU {xs:Array Xe}{lo b:Nat}(hz:b<=xs.size)(h:∀i j x y,lo<=i->i<=j->j<b->xs[i]?=some x->xs[j]?=some y->rk x<=rk y):Up rk xs lo b:=λi j h1 h2 e=>by
 obtain⟨x,c,_⟩:=qP (a:=xs) (i:=i) (by lia);obtain⟨y,d,_⟩:=qP (a:=xs) (i:=j) (by lia);unfold Rk;rw[c,d];exact h i j x y h1 h2 e c d
def zi0 {xs:Array Xe}{i:Nat}{x:Xe}(e:xs[i]?=some x):x∈xs.toList:=X8 (by rw[Xy];exact e)
def ext_get {xs:Array Xe}{i j k:Nat}(h1:i<=j)(h2:j<=xs.size)(hk:k<j-i):(xs.extract i j)[k]?=xs[i+k]?:=by
 rw[SO,bw (by lia)]
def zaA {xs:Array Xe}{i j:Nat}(h2:j<=xs.size):(xs.extract i j).size=j-i:=by
 rw[Ui];lia
def zlF {xs:Array Xe}{lo b i j:Nat}(u:Up rk xs lo b)(h1:lo<=i)(h2:j<=b)(a:j<=xs.size):(xs.extract i j).toList.Pairwise λx y=>rk x<=rk y:=by
 rw[Vu];intro m n c d g;rw[X4,zaA a]at c d;have e:=ext_get (xs:=xs) (i:=i) (j:=j) (k:=m) (by lia) a c;have f:=ext_get (xs:=xs) (i:=i) (j:=j) (k:=n) (by lia) a d;refine xu u (i:=i+m) (j:=i+n) (by lia) (by lia) (by lia) ?_ ?_
 .rw[<- e,UJ];exact getElem?_pos _ _ _
 .rw[<- f,UJ];exact getElem?_pos _ _ _
def ext_mem {xs:Array Xe}{i j:Nat}{x:Xe}(a:j<=xs.size)(h:x∈(xs.extract i j).toList):∃k,i<=k/\k<j/\xs[k]?=some x:=by
 obtain⟨k,hk,e⟩:=TC h;rw[X4,zaA a]at hk;refine⟨i+k,by lia,by lia,?_⟩;rw[<- ext_get (xs:=xs) (i:=i) (j:=j) (by lia) a hk,<- e,UJ];exact getElem?_pos _ _ _
def zrq {st a:WU}{Q:PUnit->WU->Prop}(h:∀b,b=a->Q ⟨⟩ b):wpS (Xx prog w) A E s (set a:StateT WU Sem PUnit) Q st:=by
 unfold wpS;rw[StateT.run_set];exact XR ⟨rfl,h _ rfl⟩
set_option maxHeartbeats 8000000 in
theorem zkh {st:WU}{i sa b p1 J p2:Nat}{Q:Bool->WU->Prop}(T:Tells prog w A s κ rk a0)(O:Ok κ a0 st)(e1:(WT st)[i]?=some (sa,b,p1))(e2:(WT st)[i+1]?=some (sa+b,J,p2))(aq:1<=b)(ar:1<=J)(hz:sa+b+J<=a0.size)(u1:Up rk (Xm st) sa (sa+b))(u2:Up rk (Xm st) (sa+b) (sa+b+J))
  (h:∀B,Ok κ a0 B->WT B=((WT st).setIfInBounds i (sa,b+J,p1)).eraseIdxIfInBounds (i+1)->Up rk (Xm B) sa (sa+b+J)->(∀j:Nat,(j<sa\/sa+b+J<=j)->(Xm B)[j]?=(Xm st)[j]?)->Q true B):wpS (Xx prog w) A E s (mergeAt' i) Q st:=by
 have ai:=O.size;have mX:∀x∈(Xm st).toList,x∈a0.toList:=λx hx=>(UT.mp O.perm).mem_iff.mp hx;obtain⟨b0,r,ak⟩:=qP (a:=Xm st) (i:=sa+b) (by lia);refine XE (Sr ?_);rw[e1,e2];dsimp only;refine XE (zrq λn M=>?_);have k1:kindOf n=κ:=by rw[M];exact O.kind
 have ea:Xm n=Xm st:=by rw[M]
 have ep:WT n=((WT st).setIfInBounds i (sa,b+J,p1)).eraseIdxIfInBounds (i+1):=by rw[M]
 have ef:S6 n=none:=by rw[M];exact O.good
 have O1:Ok κ a0 n:=⟨by rw[ea];exact O.perm,k1,ef⟩;refine XE (qY r (XE (zbg T k1 (mX b0 ak) mX (λp q u v h1 h2 I G H=>xu u1 h1 h2 I G H) (by show sa+b<=(Xm st).size;lia) (by lia) λk hk g1 g2=>?_)));dsimp only;refine qB (λhc=>Xo (h n O1 ep (zoU (by rw[ea];lia) λp q u v h1 h2 I G H=>?_) λj _=>by rw[ea])) λhc=>?_
 .have ek:k=b:=by
   have:b-k=0:=by simpa using hc
   lia
  rw[ea]at G H;by_cases c1:q<sa+b
  .exact xu u1 h1 h2 c1 G H
  .by_cases c2:p<sa+b
   .have q1:=g1 (p-sa) u (by lia) (by rw[show sa+(p-sa)=p by lia];exact G);have q2:=xu u2 (XW _) (by lia) I r H;lia
   .exact xu u2 (by lia) h2 I G H
 have ao:k<b:=by
  have:¬ b-k=0:=by simpa using hc
  lia
 obtain⟨al,ae,aj⟩:=qP (a:=Xm st) (i:=sa+k+(b-k)-1) (by lia);have o:(Xm st)[sa+b-1]?=some al:=by
  rw[<- ae];congr 1;lia
 refine XE (qY ae (XE (zbh T k1 (mX al aj) mX (λp q u v h1 h2 I G H=>xu u2 h1 h2 I G H) (by show sa+b+J<=(Xm st).size;lia) (by lia) λg an g3 g4=>?_)));dsimp only;have am:rk b0<rk al:=g2 (b-1) al (by lia) (by lia) (by rw[show sa+(b-1)=sa+b-1 by lia];exact o);have av:1<=g:=by
  refine Pp.mpr λau=>?_;have:=g4 0 b0 (by lia) (by lia) (by simpa using r);lia
 refine qB (λhc=>absurd (show g=0 by simpa using hc) (by lia)) λ_=>?_;have X3:sa+b<=(Xm st).size:=by lia
 have Y3:sa+b+g<=(Xm st).size:=by lia
 have xs:=zlF (i:=sa+k) (j:=sa+b) u1 (by lia) (XW _) X3;have ys:=zlF (i:=sa+b) (j:=sa+b+g) u2 (XW _) (by lia) Y3;have xm:∀x∈((Xm st).extract (sa+k) (sa+b)).toList,x∈a0.toList:=λx hx=>by
  obtain⟨j,_,_,ej⟩:=ext_mem X3 hx;exact mX x (zi0 ej)
 have ym:∀x∈((Xm st).extract (sa+b) (sa+b+g)).toList,x∈a0.toList:=λx hx=>by
  obtain⟨j,_,_,ej⟩:=ext_mem Y3 hx;exact mX x (zi0 ej)
 have xz:((Xm st).extract (sa+k) (sa+b)).size=b-k:=by
  rw[zaA X3];lia
 have yz:((Xm st).extract (sa+b) (sa+b+g)).size=g:=by
  rw[zaA Y3];lia
 have first:∀x y,((Xm st).extract (sa+b) (sa+b+g))[0]?=some x->y∈((Xm st).extract (sa+k) (sa+b)).toList->rk x<rk y:=λx y ex my=>by
  rw[ext_get (by lia) Y3 (by lia),PD,r]at ex;cases ex;obtain⟨j,j1,j2,ej⟩:=ext_mem X3 my;exact g2 (j-sa) y (by lia) (by lia) (by rw[show sa+(j-sa)=j by lia];exact ej)
 have Y:∀x∈((Xm st).extract (sa+b) (sa+b+g)).toList,∀y,((Xm st).extract (sa+k) (sa+b))[((Xm st).extract (sa+k) (sa+b)).size-1]?=some y->rk x<rk y:=λx mx y ey=>by
  rw[xz,ext_get (by lia) X3 (by lia),show sa+k+(b-k-1)=sa+b-1 by lia,o]at ey;cases ey;obtain⟨j,j1,j2,ej⟩:=ext_mem Y3 mx;exact g3 (j-(sa+b)) x (by lia) (by rw[show sa+b+(j-(sa+b))=j by lia];exact ej)
 have aa:∀(merged:Array Xe) (f:WU),Kept n f->Mg rk ((Xm st).extract (sa+k) (sa+b)).toList ((Xm st).extract (sa+b) (sa+b+g)).toList merged.toList ->
   Q true (setArr f (merged.toList.zipIdx.foldl (λa (p:Xe×Nat)=>a.setIfInBounds (sa+k+p.2) p.1) (Xm f))):=λmerged f D U=>by
  have ab:Xm f=Xm st:=D.arr.trans ea;have ml:merged.toList.length=b-k+g:=by
   rw[U.1.length_eq,XX,X4,X4,xz,yz]
  have at_:∀j:Nat,(merged.toList.zipIdx.foldl (λa (p:Xe×Nat)=>a.setIfInBounds (sa+k+p.2) p.1) (Xm f))[j]?=if sa+k<=j/\j<sa+b+g then merged.toList[j-(sa+k)]? else (Xm st)[j]?:=λj=>by
   have:=znO (sa+k) merged.toList 0 (Xm f) j (by rw[ab,ml];lia);rw[this,ab,PD,ml];by_cases c:sa+k<=j/\j<sa+b+g
   .rw[bw c,bw (by lia)]
   .rw[bq c,bq (by lia)]
  have zA:=zee (sa+k) merged.toList 0 (Xm f);generalize hN:merged.toList.zipIdx.foldl (λa (p:Xe×Nat)=>a.setIfInBounds (sa+k+p.2) p.1) (Xm f)=N at at_ zA ⊢;have zN:N.size=a0.size:=by
   rw[zA,ab,ai]
  have nl:N.toList=(Xm st).toList.take (sa+k)++merged.toList++(Xm st).toList.drop (sa+b+g):=by
   refine List.ext_getElem? λj=>?_;rw[Xy,at_ j];by_cases c1:j<sa+k
   .rw[bq (by lia),WL,V9 (by rw[XJ,X4];lia),List.getElem?_take,bw c1,Xy]
   .rw[WL,VV (by rw[XJ,X4];lia),XJ,X4,show min (sa+k) (Xm st).size=sa+k by lia];by_cases c2:j<sa+b+g
    .rw[bw ⟨by lia,c2⟩,V9 (by rw[ml];lia)]
    .rw[bq (by lia),VV (by rw[ml];lia),Td,Xy,ml];congr 1;lia
  have ol:(Xm st).toList=(Xm st).toList.take (sa+k)++(((Xm st).extract (sa+k) (sa+b)).toList++((Xm st).extract (sa+b) (sa+b+g)).toList)++(Xm st).toList.drop (sa+b+g):=by
   rw[ext_toList _ _ _ (by lia),ext_toList _ _ _ (by lia)];have d1:(Xm st).toList.drop (sa+b)=((Xm st).toList.drop (sa+k)).drop (b-k):=by
    rw[OZ];congr 1;lia
   have d2:(Xm st).toList.drop (sa+b+g)=((Xm st).toList.drop (sa+b)).drop g:=by
    rw[OZ]
   rw[d2,show sa+b+g-(sa+b)=g by lia,WL,WL,W9,d1,show sa+b-(sa+k)=b-k by lia,W9,W9]
  refine h _ ⟨?_,D.kind.trans k1,D.bad.trans ef⟩ (D.pend.trans ep) (zoU (by show _<=N.size;lia) λp q u v h1 h2 I G H=>?_) λj hj=>?_
  .refine Array.Perm.trans ?_ O.perm;rw[UT];show N.toList.Perm _;have pm:=List.Perm.append_right ((Xm st).toList.drop (sa+b+g)) (SH ((Xm st).toList.take (sa+k)) U.1);rw[<- ol,<- nl]at pm;exact pm
  .have l:N[p]?=some u:=G;have d:N[q]?=some v:=H;rw[at_]at l d;have ag:∀{j:Nat} {x:Xe},sa+k<=j->j<sa+b+g->merged.toList[j-(sa+k)]?=some x->(∃m,sa+k<=m/\m<sa+b/\(Xm st)[m]?=some x)\/∃m,sa+b<=m/\m<sa+b+g/\(Xm st)[m]?=some x:=λ_ _ e=>by
    rcases XN.mp (U.1.mem_iff.mp (X8 e)) with z | z
    .exact .inl (ext_mem X3 z)
    .exact .inr (ext_mem Y3 z)
   by_cases c1:p<sa+k
   .rw[bq (by lia)]at l;by_cases c2:q<sa+k
    .rw[bq (by lia)]at d;exact xu u1 h1 h2 (by lia) l d
    .have af:∀{m:Nat} {x:Xe},sa+b<=m->m<sa+b+J->(Xm st)[m]?=some x->rk u<=rk x:=λm1 m2 L=>by
      have q1:=g1 (p-sa) u (by lia) (by rw[show sa+(p-sa)=p by lia];exact l);exact Wx q1 (xu u2 (XW _) m1 m2 r L)
     by_cases c3:q<sa+b+g
     .rw[bw ⟨by lia,c3⟩]at d;rcases ag (by lia) c3 d with ⟨m,m1,m2,L⟩ | ⟨m,m1,m2,L⟩
      .exact xu u1 h1 (by lia) m2 l L
      .exact af m1 (by lia) L
     .rw[bq (by lia)]at d;exact af (by lia) I d
   .by_cases c4:p<sa+b+g
    .rw[bw ⟨by lia,c4⟩]at l;by_cases c3:q<sa+b+g
     .rw[bw ⟨by lia,c3⟩]at d;by_cases ah:p=q
      .subst ah;rw[l]at d;cases d;exact Vk _
      .have sp:=U.2;rw[Vu]at sp;obtain⟨a1,a2⟩:=X5.mp l;obtain⟨b1,b2⟩:=X5.mp d;have:=sp _ _ a1 b1 (by lia);rw[a2,b2]at this;exact this
     .rw[bq (by lia)]at d;have q4:=g4 (q-(sa+b)) v (by lia) (by lia) (by rw[show sa+b+(q-(sa+b))=q by lia];exact d);rcases ag (by lia) c4 l with ⟨m,m1,m2,L⟩ | ⟨m,m1,m2,L⟩
      .exact Wx (xu u1 (by lia) (by lia) (by lia) L o) q4
      .exact xu u2 m1 (by lia) I L d
    .rw[bq (by lia)]at l d;exact xu u2 (by lia) h2 I l d
  .show N[j]?=_;rw[at_,bq (by lia)]
 refine qB (λ_=>?_) λ_=>?_
 .refine XE (zkf T k1 xm ym xs ys (Tb (show 0<b-k by lia) xz.symm) (Tb (show 0<g by lia) yz.symm) (λx y ex my=>Ww (first x y ex my)) Y λac f D U=>?_);refine XE (Ti (XE (Sr ?_)));rw[show (S6 f).isNone=true by rw[D.bad,ef];rfl];exact Xo (aa ac f D U)
 .refine XE (zkg T k1 xm ym xs ys (Tb (show 0<b-k by lia) xz.symm) (Tb (show 0<g by lia) yz.symm) first Y λac f D U=>?_);refine XE (Ti (XE (Sr ?_)));rw[show (S6 f).isNone=true by rw[D.bad,ef];rfl];exact Xo (aa ac f D U)
def QL:List (Nat×AA)->Nat->Nat->Prop
 | [],s,e=>s=e
 | r::l,s,e=>r.1=s/\1<=r.2.1/\QL l (s+r.2.1) e
theorem xg:∀{l1 l2:List (Nat×AA)} {s e:Nat},QL (l1++l2) s e ↔ ∃m,QL l1 s m/\QL l2 m e
 | [],l2,s,e=>⟨λh=>⟨s,rfl,h⟩,λ⟨m,h1,h2⟩=>by
  have e:s=m:=h1;subst e;exact h2⟩
 | r::l1,l2,s,e=>by
  constructor
  .rintro⟨h1,h2,h3⟩;obtain⟨m,a,b⟩:=xg.mp h3;exact⟨m,⟨h1,h2,a⟩,b⟩
  .rintro⟨m,⟨h1,h2,h3⟩,a⟩;exact⟨h1,h2,xg.mpr ⟨m,h3,a⟩⟩
theorem Qc:∀{l:List (Nat×AA)} {s e:Nat},QL l s e->s<=e/\l.length+s<=e/\∀r∈l,s<=r.1/\r.1+r.2.1<=e
 | [],s,e,h=>by
  have b:s=e:=h;subst b;exact⟨XW _,by simp,λr d=>nomatch d⟩
 | r::l,s,e,⟨h1,h2,c⟩=>by
  obtain⟨f,g,a⟩:=Qc c;refine⟨by lia,by rw[Xi];lia,λq hq=>?_⟩;rcases XI.mp hq with rfl | hq
  .lia
  .have:=a q hq;lia
structure PI (rk:Xe->Int)(κ:T0)(a0:Array Xe)(lo:Nat)(st:WU):Prop where
 ok:Ok κ a0 st
 til:QL (WT st).toList 0 lo
 up:∀r∈(WT st).toList,Up rk (Xm st) r.1 (r.1+r.2.1)
def zcc {xs ys:Array Xe}{lo a:Nat}(u:Up rk xs lo a)(h:∀j:Nat,lo<=j->j<a->ys[j]?=xs[j]?):Up rk ys lo a:=λi j h1 h2 b=>by
 rw[JX (h i h1 (by lia)),JX (h j (by lia) b)];exact u i j h1 h2 b
def zpY {p:List (Nat×AA)}{i:Nat}(h:i+1<p.length):∃l1 a b l2,p=l1++a::b::l2/\l1.length=i/\p[i]?=some a/\p[i+1]?=some b:=by
 refine fD (p.take i) (p[i]) (p[i+1]) (p.drop (i+2)) ?_ (by rw[XJ];lia) (X0 (by lia)) (X0 h);rw[<- WJ h,<- WJ (by lia),W9]
def zgu {st:WU}{lo i:Nat}{Q:Bool->WU->Prop}(T:Tells prog w A s κ rk a0)(P:PI rk κ a0 lo st)(M:i+1<(WT st).size)(N:lo<=a0.size)
  (h:∀a,PI rk κ a0 lo a->(WT a).size+1=(WT st).size->(∀j:Nat,lo<=j->(Xm a)[j]?=(Xm st)[j]?)->Q true a):wpS (Xx prog w) A E s (mergeAt' i) Q st:=by
 obtain⟨n,⟨sa,c,B⟩,⟨sb,d,U⟩,O,f,L,y,z⟩:=zpY (p:=(WT st).toList) (i:=i) (by rw[X4];exact M);have g:=P.til;rw[f]at g;obtain⟨m,D,⟨q,u,v,x,k⟩⟩:=xg.mp g;dsimp only at q u v x k;subst q;subst v;rw[Xy]at y z;have u1:=P.up (sa,c,B) (by rw[f];simp);have G:=P.up (sa+c,d,U) (by rw[f];simp);dsimp only at u1 G;obtain⟨Y,b2,I⟩:=Qc k;obtain⟨c1,c2,J⟩:=Qc D;refine zkh T P.ok y z u x (by lia) u1 G λa H l o b=>?_;have e:(WT a).toList=n++(sa,c+d,B)::O:=by
  rw[l,Array.toList_eraseIdxIfInBounds,RK,f,<- L];rw[List.set_append_right _ _ (XW _),TM,List.set_cons_zero,List.eraseIdx_append_of_length_le (by lia),show n.length+1-n.length=1 by lia];rfl
 refine h a ⟨H,?_,λr hr=>?_⟩ ?_ λj hj=>b j (by lia)
 .rw[e];exact xg.mpr ⟨sa,D,rfl,by show 1<=c+d;lia,by rw[show sa+(c+d)=sa+c+d by lia];exact k⟩
 .rw[e]at hr;rcases XN.mp hr with hr | hr
  .have:=J r hr;exact zcc (P.up r (by rw[f];exact WQ _ hr)) λj h1 h2=>b j (by lia)
  .rcases XI.mp hr with rfl | hr
   .show Up rk (Xm a) sa (sa+(c+d));rw[show sa+(c+d)=sa+c+d by lia];exact o
   .have:=I r hr;exact zcc (P.up r (by rw[f];simp[hr])) λj h1 h2=>b j (by lia)
 .rw[<- X4,e,<- X4,f];simp only[XX,Xi];lia
def PI.step {lo a:Nat}{st b:WU}(P:PI rk κ a0 lo st)(S:Step κ a0 a st b)(h:lo<=a):PI rk κ a0 lo b:=by
 refine⟨S.ok,by rw[S.pend];exact P.til,λr c=>?_⟩;rw[S.pend]at c;have:=(Qc P.til).2.2 r c;exact zcc (P.up r c) λj h1 h2=>S.low j (by lia)
theorem zbB (b:Nat):∀{l:List (Nat×AA)} {k s e:Nat},QL l s e->QL (l.modify k λr=>(r.1,r.2.1,b)) s e
 | [],k,s,e,h=>by
  cases k<;>exact h
 | r::l,0,s,e,⟨h1,h2,a⟩=>⟨h1,h2,a⟩
 | r::l,k+1,s,e,⟨h1,h2,a⟩=>⟨h1,h2,zbB b a⟩
theorem zef {a:Nat}:∀{l:List (Nat×AA)} {k:Nat} {r:Nat×AA},r∈l.modify k (λr=>(r.1,r.2.1,a))->∃q∈l,q.1=r.1/\q.2.1=r.2.1
 | [],k,r,h=>by
  cases k<;>cases h
 | q::l,0,r,h=>by
  rcases XI.mp h with rfl | h
  .exact⟨q,XT,rfl,rfl⟩
  .exact⟨r,XU _ h,rfl,rfl⟩
 | q::l,k+1,r,h=>by
  rcases XI.mp h with rfl | h
  .exact⟨r,XT,rfl,rfl⟩
  .obtain⟨b,h1,h2⟩:=zef h;exact⟨b,XU _ h1,h2⟩
def ite_le (c:Prop) [Decidable c](n:Nat):(if c then n-1 else n)<=n:=by
 split<;>lia
def zpZ {st:WU}{Q:Unit->WU->Prop}(T:Tells prog w A s κ rk a0)(O:Ok κ a0 st)(hp:WT st=#[])(h:∀d,Ok κ a0 d->Up rk (Xm d) 0 a0.size->Q () d):wpS (Xx prog w) A E s sortRuns' Q st:=by
 rw[sortRuns'_eq];refine XE (Sr ?_);dsimp only;rw[O.size];generalize minRun' a0.size a0.size 0=mr;refine XE (Uy (V6 (I:=λx c d=>∃lo,c=(none,lo)/\PI rk κ a0 lo d/\lo<=a0.size/\x<=lo)
  (Q:=λc d=>c=(none,a0.size)/\PI rk κ a0 a0.size d) ?step ?fin ⟨0,rfl,⟨O,by rw[hp];rfl,λr z=>by rw[hp]at z;cases z⟩,W3 _,XW _⟩) ?post)
 case fin =>
  rintro c d ⟨lo,rfl,P,h1,h2⟩
  obtain rfl:lo=a0.size:=by lia
  exact⟨rfl,P⟩
 case step =>
  refine λx c N _ hx=>gr λlo z0 P h1 h2=>?_;subst z0
  dsimp only
  refine qB (λJ=>?_) λJ=>?_
  .obtain rfl:lo=a0.size:=by lia
   exact Xo ⟨rfl,P⟩
  refine XE (zbA T P.ok (by lia) (by lia) λm b S m1 m2 hu=>?_)
  dsimp only
  have g:=P.step S (XW _)
  refine qB (λL=>?_) λL=>?_
  refine XE (QP (UY ⟨rfl,?_⟩))
  refine XE (zrp T S.ok (by lia) (by lia) hu λo S3 k=>?_)
  rw[bq (by decide)]
  have P3:=g.step S3 (XW _)
  have H:1<=min (a0.size-lo) mr:=by lia
  have G:lo+min (a0.size-lo) mr<=a0.size:=by lia
  clear g S3
  generalize min (a0.size-lo) mr=n at k H G ⊢
  rotate_left
  have P3:=g
  have k:=hu
  have H:=m1
  have G:lo+m<=a0.size:=by lia
  clear g
  generalize m=n at k H G ⊢
  generalize b=o at P3 k ⊢
  rotate_left
  all_goals
   refine XE (Sr ?_)
   have fin:∀a,PI rk κ a0 lo a->Up rk (Xm a) lo (lo+n)->PI rk κ a0 (lo+n) (setPending a ((WT a).push (lo,n,0))):=λa f v=>by
    refine⟨⟨f.ok.perm,f.ok.kind,f.ok.good⟩,?_,λr z=>?_⟩
    .show QL ((WT a).push (lo,n,0)).toList 0 (lo+n);rw[SX];exact xg.mpr ⟨lo,f.til,rfl,H,rfl⟩
    .have hr':r∈((WT a).push (lo,n,0)).toList:=z;rw[SX]at hr';rcases XN.mp hr' with hr' | hr'
     .exact f.up r hr'
     .have er:r=(lo,n,0):=by simpa using hr'
      subst er;exact v
   cases aa:(WT o).back? with
   | none =>
    dsimp only;exact XE (Ti (Xo ⟨lo+n,rfl,fin o P3 k,G,by lia⟩))
   | some r =>
    obtain⟨s1,M,q1⟩:=r;dsimp only;generalize power' a0.size (2*s1+M) (2*s1+M+M+n) a0.size=pw;refine XE (Uy (V6 (I:=λ_ c a=>c=(none,())/\PI rk κ a0 lo a/\Up rk (Xm a) lo (lo+n)) (Q:=λc a=>c=(none,())/\PI rk κ a0 lo a/\Up rk (Xm a) lo (lo+n)) ?_ (λ_ _ hh=>hh) ⟨rfl,P3,k⟩) ?_)
    .rintro y c a _ _ ⟨rfl,f,v⟩;refine XE (Sr ?_);by_cases B:(WT a).size>1
     .rw[bw B,getElem?_pos (WT a) ((WT a).size-2) (by lia)];generalize (WT a)[(WT a).size-2]'(by lia)=r2;obtain⟨ab,ac,ae⟩:=r2;dsimp only;refine qB (λ_=>Xo ⟨rfl,f,v⟩) λ_=>?_;refine XE (zgu T f (by lia) h1 λaf P5 _ Y=>?_);rw[bq (by decide)];exact Xo ⟨rfl,P5,zcc v λj j1 _=>Y j j1⟩
     .rw[bq B];exact Xo ⟨rfl,f,v⟩
    .refine λc a=>fO λz0 f v=>?_;subst z0;dsimp only;refine XE (Ti (XE (Ti (Xo ⟨lo+n,rfl,fin _ ⟨⟨f.ok.perm,f.ok.kind,f.ok.good⟩,?_,λr z=>?_⟩ v,G,by lia⟩))))
     .show QL ((WT a).modify ((WT a).size-1) λr=>(r.1,r.2.1,pw)).toList 0 lo;rw[OD];exact zbB pw f.til
     .have hr':r∈((WT a).modify ((WT a).size-1) λr=>(r.1,r.2.1,pw)).toList:=z;rw[OD]at hr';obtain⟨q,hq,e1,e2⟩:=zef hr';have:=f.up q hq;rw[e1,e2]at this;exact this
 case post =>
  rintro c N ⟨rfl,P⟩
  dsimp only
  have D:=(Qc P.til).2.1
  rw[X4]at D
  refine XE (Uy (V6 (I:=λx c b=>c=(none,())/\PI rk κ a0 a0.size b/\((WT b).size+x<=a0.size\/(WT b).size<=1)) (Q:=λc b=>c=(none,())/\PI rk κ a0 a0.size b/\(WT b).size<=1) ?step2 ?fin2 ⟨rfl,P,.inl (by lia)⟩) ?post2)
  case fin2 =>
   rintro c b ⟨rfl,g,B⟩
   exact⟨rfl,g,by lia⟩
  case step2 =>
   rintro x c b _ hx ⟨rfl,g,B⟩
   refine XE (Sr ?_)
   refine qB (λh1=>Xo ⟨rfl,g,h1⟩) λh1=>?_
   refine XE (zgu T g ?_ (XW _) λo P3 z3 _=>?_)
   .exact XM (OX (ite_le _ _) 1) (show (WT b).size-2+1<(WT b).size by lia)
   .rw[bq (by decide)];exact Xo ⟨rfl,P3,by lia⟩
  case post2 =>
   rintro c b ⟨rfl,g,B⟩
   dsimp only
   refine Xo (h b g.ok ?_)
   have p:=g.til
   have up:=g.up
   have zl:(WT b).toList.length<=1:=by rw[X4];exact B
   cases hl:(WT b).toList with
   | nil =>
    rw[hl]at p;have e:0=a0.size:=p;exact λi j _ _ h3=>absurd h3 (by lia)
   | cons r l =>
    rw[hl]at p zl up;obtain rfl:l=[]:=Uq.mp (by rw[Xi]at zl;lia);obtain⟨t1,t2,t3⟩:=p;have U:0+r.2.1=a0.size:=t3;have u:=up r XT;rw[t1,U]at u;exact u
end
structure Wk {K:Type}(lt:K->K->Bool):Prop where
 tot:∀x y,lt x y=true->lt y x=false
 tr:∀x y z,lt y x=false->lt z y=false->lt z x=false
def rkK {K:Type}(lt:K->K->Bool)(ks:List K)(k:K):Int:=((ks.countP λq=>lt q k:Nat):Int)
theorem count_le {K:Type}{p q:K->Bool}:∀{ks:List K},(∀x∈ks,p x=true->q x=true)->ks.countP p<=ks.countP q
 | [],_=>XW _
 | x::ks,h=>by
  have d:=count_le (ks:=ks) λy b=>h y (XU _ b);rw[VD,VD];have a:=h x XT;by_cases c:p x=true
  .rw[bw c,bw (a c)];lia
  .rw[bq c];lia
def zlG {K:Type}{p q:K->Bool}{ks:List K}(h:∀x∈ks,p x=true->q x=true)(b:∃x∈ks,p x=false/\q x=true):ks.countP p<ks.countP q:=by
 obtain⟨y,hy,h1,h2⟩:=b;induction ks with
 | nil=>cases hy
 | cons x ks a =>
  rw[VD,VD];have d:=h x XT;rcases XI.mp hy with rfl | hy
  .have a:=count_le (ks:=ks) λy hy=>h y (XU _ hy);rw[h1,h2,bq XS,bw rfl];lia
  .have a:=a (λy hy=>h y (XU _ hy)) hy;by_cases c:p x=true
   .rw[bw c,bw (d c)];lia
   .rw[bq c];lia
def Wk.rank {K:Type}{lt:K->K->Bool}(W:Wk lt){ks:List K}{x y:K}(c:x∈ks):lt x y=decide (rkK lt ks x<rkK lt ks y):=by
 unfold rkK;cases h:lt x y with
 | true =>
  refine(br ?_).symm;have:=zlG (ks:=ks) (p:=λq=>lt q x) (q:=λq=>lt q y) (λq _ b=>?_) ⟨x,c,?_,h⟩
  .lia
  .cases hc:lt q y with
   | true=>rfl
   | false =>
    have:=W.tr x y q (W.tot x y h) hc;have a:lt q x=true:=b;rw[this]at a;cases a
  .cases hc:lt x x with
   | false=>rfl
   | true=>exact hc.symm.trans (W.tot x x hc)
 | false =>
  refine(bf ?_).symm;have:=count_le (ks:=ks) (p:=λq=>lt q y) (q:=λq=>lt q x) λq _ b=>by
   cases hc:lt q x with
   | true=>rfl
   | false =>
    have:=W.tr y x q h hc;have a:lt q y=true:=b;rw[this]at a;cases a
  lia
section
variable {prog:Xs}{w:Xd}{A:WY}{E:X9->X7->Prop}{s:X7}
def zeg {a:Addr}{vs:List X9}{n:Nat}{P:PySem.Fin->X7->Prop}(I:s.heap.get? a=some (Uo "list" vs.toArray n))(hz:vs.length<=Xz)(r:X9->Int)
  (hk:2<=vs.length->∀s':X7,(∀b o,b≠a->s.heap.get? b=some o->s'.heap.get? b=some o)->Xu (Xx prog w) A (keyKind' vs.toArray) (fun κ M=>M=s'/\Tells prog w A s' κ (λp=>r p.1) (OJ vs)) (λ_ _=>False) s')
  (h:∀(ws:List X9) (h':Heap) (c:Nat),ws.Perm vs->ws.Pairwise (λx y=>r x<=r y)->(∀b o,b≠a->s.heap.get? b=some o->h'.get? b=some o)->h'.get? a=some (Uo "list" ws.toArray c)->P (.done (.ret .none)) { s with heap:=h' }) :
  Xu (Xx prog w) A (US.«list.sort» ⟨[.ref a],[]⟩) P E s:=by
 have ac:a<s.heap.objs.size:=XB I;have G:=get?_update_seq I λ_=>(#[]:Array X9);generalize N:s.heap.update a (U9 λ_=>(#[]:Array X9))=v at G;have zX:v.objs.size=s.heap.objs.size:=by rw[<- N,Heap.size_update]
 have kX:∀b o,b≠a->s.heap.get? b=some o->v.get? b=some o:=λb o q e=>by
  rw[<- N,R6 _ _ _ _ q];exact e
 obtain⟨H,L⟩:∃H,v.get? a=some (Uo "list" #[] H):=⟨_,G⟩;generalize U:(v.push (Uo "tuple" vs.toArray 0)).push (Uo "list" #[] 0)=Y;have l:Y.get? a=some (Uo "list" #[] H):=by
  rw[<- U];exact XY _ (XY _ L)
 have kY:∀b o,b≠a->s.heap.get? b=some o->Y.get? b=some o:=λb o q e=>by
  rw[<- U];exact XY _ (XY _ (kX b o q e))
 have g:∀(st:WU),(((Xm st).map (·.2)).toList.Perm vs)->(((Xm st).map (·.2)).toList.Pairwise λx y=>r x<=r y)->S6 st=none ->
   Xu (Xx prog w) A (do
    let f:=(<- seqEpoch a) != H
    Builtin.List.listUpdate (.ref a) λ_=>(Xm st).map (·.2)
    if let some e:=S6 st then rule "list.sort.comparison-raised";throw e
    if f then rule "list.sort.modified";raiseError "ValueError" "list modified during sort"
    ret .none) P E { s with heap:=Y }:=by
  intro st m J hf;generalize ew:(Xm st).map (·.2)=wsA at m J;rw[hf];have D:wsA.size=vs.length:=by rw[<- X4,m.length_eq]
  have ab:=get?_update_seq l λ_=>wsA;refine Y1 (seqEpoch_at l rfl (Y1 (listUpdate_at l rfl ?_ (W3 _) (by rw[D];lia))));simp only[bne_self_eq_false,WG,if_false];refine XR (h wsA.toList _ _ m J (λb o q e=>?_) ab);rw[R6 _ _ _ _ q];exact kY b o q e
 rw[list_sort_plain];refine Y1 (listItems_at I rfl (Y1 (listUpdate_at I rfl ?_ (by rw[Xq];exact hz) (W3 _))));rw[N];refine Y1 (seqEpoch_at L rfl (Y1 (wpAny_newTuple (Y1 (Os ?_ (W3 _))) hz)));show Xu (Xx prog w) A _ P E { s with heap:=(v.push (Uo "tuple" vs.toArray 0)).push (Uo "list" #[] 0) };rw[U];refine VT ?_;dsimp only;have e2:((OJ vs).map (·.2)).toList=vs:=by
  rw[UZ,Uv];exact List.map_snd_zip (XW _)
 by_cases k:vs.toArray.size<2
 .have B:vs.length<2:=by rw[Xq]at k;exact k
  rw[bw k,bw k];refine Y1 (XR ?_);rw[StateT.run_pure];refine Y1 (XR ?_);refine g (SortSt.mk' general' (OJ vs) #[] 7 none) (by show ((OJ vs).map (·.2)).toList.Perm vs;rw[e2]) (by
   show ((OJ vs).map (·.2)).toList.Pairwise _;rw[e2,Vu];intro i j hi hj aa;lia) rfl
 .have B:2<=vs.length:=by rw[Xq]at k;lia
  rw[bq k,bq k];refine Y1 (WA (hk B { s with heap:=Y } kY) (fun κ M ⟨e3,T⟩=>?_) λ_ _ x=>x.elim);subst e3;have run:=zpZ (E:=E) (st:=SortSt.mk' κ (OJ vs) #[] 7 none) (Q:=λ_ d=>(((Xm d).map (·.2)).toList.Perm vs)/\(((Xm d).map (·.2)).toList.Pairwise λx y=>r x<=r y)/\S6 d=none) T ⟨Array.Perm.refl _,rfl,rfl⟩ rfl λd O L=>?_
  .unfold wpS at run;refine Y1 (WA run ?_ λ_ _ z=>z);rintro⟨⟨⟩,d⟩ s' ⟨rfl,m,J,hf⟩;exact g d m J hf
  .have pm:=UT.mp O.perm;have same:∀p∈(Xm d).toList,p.1=p.2:=λp m=>by
    have:=pm.mem_iff.mp m;rw[Uv]at this;exact(R4 this).1
   refine⟨?_,?_,O.good⟩
   .have:=pm.map (·.2);rw[UZ];rw[Uv,List.map_snd_zip (XW _)]at this;exact this
   .rw[UZ,Wc,Vu];intro i j hi hj aa;have zs:=O.size;rw[X4]at hi hj;have u:=xu L (i:=i) (j:=j) (W3 _) (by lia) (by lia) (getElem?_pos _ i hi) (getElem?_pos _ j hj);have s1:=same (Xm d)[i] (by simp);have M:=same (Xm d)[j] (by simp);rw[UJ,UJ,<- s1,<- M];exact u
def zki {l:Addr}{vs:List X9}{Q:X9->X7->Prop}(u:s.heap.IsList l vs.toArray)(hz:vs.length<=Xz)(r:X9->Int)
  (hk:2<=vs.length->∀s':X7,(∀b o,s.heap.get? b=some o->s'.heap.get? b=some o)->Xu (Xx prog w) A.in1.in1 (keyKind' vs.toArray) (fun H G=>G=s'/\Tells prog w A.in1.in1 s' H (λp=>r p.1) (OJ vs)) (λ_ _=>False) s')
  (h:∀(f:List X9) (h':Heap) (c:Nat),f.Perm vs->f.Pairwise (λx y=>r x<=r y)->(∀b o,s.heap.get? b=some o->h'.get? b=some o)->h'.get? (s.heap.objs.size+1)=some (Uo "list" f.toArray c)->Q (.ref (s.heap.objs.size+1)) { s with heap:=h' }) :
  Xu (Xx prog w) A (call (.builtin "sorted") [.ref l]) Q E s:=by
 generalize g:(s.heap.push (Uo "list" #[] 0)).update s.heap.objs.size (U9 (·++vs.toArray))=a;have n:a.objs.size=s.heap.objs.size+1:=by rw[<- g,Heap.size_update,Vg]
 have B:∀b o,s.heap.get? b=some o->a.get? b=some o:=λb o e=>by
  have lt:=XB e;rw[<- g,R6 _ _ _ _ (Xj lt)];exact XY _ e
 apply RE kind_sorted plain_sorted entry_sorted (args_sorted1 _);unfold US.«sorted»;refine Y1 (m:=checkCount "sorted" 1 1 _) (XR (Y1 (collect_list u ?_ hz)));rw[g];refine Y1 (Os ?_ hz);show Xu _ _ _ _ _ { s with heap:=a.push (Uo "list" vs.toArray 0) };have d:(a.push (Uo "list" vs.toArray 0)).get? (s.heap.objs.size+1)=some (Uo "list" vs.toArray 0):=by
  rw[<- n];exact Xg _ rfl
 have i:∀b o,s.heap.get? b=some o->(a.push (Uo "list" vs.toArray 0)).get? b=some o:=λb o e=>XY _ (B b o e);have j:∀b o,s.heap.get? b=some o->b≠s.heap.objs.size+1:=λb o e=>Xj (WI (XB e));rw[n];refine Y1 (VT (U0 slot_list_sort ⟨_,d,rfl⟩ entry_list_sort (zeg (s:={ s with heap:=a.push (Uo "list" vs.toArray 0) }) d hz r (λc s' k=>hk c s' λb o e=>k b o (j b o e) (i b o e)) ?_) (args_list_sort _)));intro f h' c v z D q;exact⟨_,rfl,XR ⟨_,rfl,h f h' c v z (λb o e=>D b o (j b o e) (i b o e)) q⟩⟩
end
def zcL {α d:Type}{R:α->d->Prop}{xs:List α}{ys:List d}(hp:Xa R xs ys):(∀p∈xs.zip ys,R p.1 p.2)/\(xs.zip ys).map (·.1)=xs/\(xs.zip ys).map (·.2)=ys:=by
 induction hp with
 | nil=>exact⟨(λp h=>nomatch h),rfl,rfl⟩
 | cons h _ e =>
  obtain⟨a,b,c⟩:=e;refine⟨λp hp=>?_,by rw[List.zip_cons_cons,Xw,b],by rw[List.zip_cons_cons,Xw,c]⟩;rcases XI.mp hp with rfl | hp
  .exact h
  .exact a p hp
theorem zeh {α a:Type}{R:α->a->Prop}:∀{zs:List (α × a)},(∀p∈zs,R p.1 p.2)->Xa R (zs.map (·.1)) (zs.map (·.2))
 | [],_=>.nil
 | p::zs,h=>.cons (h p XT) (zeh λq b=>h q (XU _ b))
theorem JY {α a:Type}{R:α->a->Prop}:∀{xs:List α} {ys:List a},Xa R xs ys->∀x∈xs,∃y∈ys,R x y
 | _,_,.nil,x,h=>nomatch h
 | _,_,.cons h t,x,hx=>by
  rcases XI.mp hx with rfl | hx
  .exact⟨_,XT,h⟩
  .obtain⟨y,h1,h2⟩:=JY t x hx;exact⟨y,XU _ h1,h2⟩
def Tri {K:Type}(a:V->K->Prop)(RH:X9->K->Prop)(t:V×X9×K):Prop:=RelV t.1 t.2.1/\a t.1 t.2.2/\RH t.2.1 t.2.2
def zp0 {K:Type}{d:V->K->Prop}{RH:X9->K->Prop}{c:AE}{a:List X9}{ks:List K}(h1:Vals c a):Xa d c ks->Xa RH a ks->∃T:List (V×X9×K),(∀t∈T,Tri d RH t)/\T.map (·.1)=c/\T.map (·.2.1)=a/\T.map (·.2.2)=ks:=by
 induction h1 generalizing ks with
 | nil =>
  intro h2 b;cases h2;exact fk [] (λt h=>nomatch h) rfl rfl rfl
 | @cons u i c a g o f =>
  intro h2 b;cases h2 with
  | @cons _ k _ ks j m =>
   cases b with
   | cons l n =>
    refine gr (λT h1 h2 b e=>?_) (f m n);refine fk ((u,i,k)::T) (λt ht=>?_) (by rw[Xw,h2]) (by rw[Xw,b]) (by rw[Xw,e]);rcases XI.mp ht with rfl | ht
    .exact⟨g,j,l⟩
    .exact h1 t ht
theorem zgv {K:Type}{d:V->K->Prop}{RH:X9->K->Prop}:∀{T:List (V×X9×K)},(∀t∈T,Tri d RH t)->Vals (T.map (·.1)) (T.map (·.2.1))/\Xa d (T.map (·.1)) (T.map (·.2.2))
 | [],_=>⟨.nil,.nil⟩
 | t::T,h=>by
  obtain⟨h1,h2⟩:=zgv λx e=>h x (XU _ e);obtain⟨a,b,c⟩:=h t XT;exact⟨.cons a h1,.cons b h2⟩
section
variable {X:Cx}{bz:List (Addr×Obj)}{σ:St}{H:Hp}{s:X7}{K:Type}
def zei {lt:K->K->Bool}(W:Wk lt){Y:V->K->Prop}{RH:Heap->X9->K->Prop}(fn:∀h v k n,RH h v k->RH h v n->k=n)(kp:∀h h' v k,(∀b o,h.get? b=some o->h'.get? b=some o)->RH h v k->RH h' v k)
  {l:Addr} {U:AE} {f:List X9} {ks:List K} {Q:VK} (I:Inv X bz σ H s) (hl:s.heap.IsList l f.toArray) (hz:U.length<=1000000) (rv:Vals U f) (hv:Xa Y U ks) (E:Xa (RH s.heap) f ks)
  (N:∀s':X7,Xa (RH s'.heap) f ks->2<=f.length->Xu (Xx X.prog X.w) X.A.in1.in1 (keyKind' f.toArray) (fun κ s2=>s2=s'/\∀v v' k n,RH s'.heap v k->RH s'.heap v' n->∀C:Bool->X7->Prop,C (lt k n) s'->Xu (Xx X.prog X.w) X.A.in1.in1 (keyLt' κ v v') C (λ_ _=>False) s') (λ_ _=>False) s')
  (q:∀d D u,H d=none->Xa Y D u->u.Perm ks->u.Pairwise (λx y=>lt y x=false)->(D.Perm U)->Q (.ref d) (upd H d (.lst D))) :
  Xu (Xx X.prog X.w) X.A (call (.builtin "sorted") [.ref l]) (EP X bz σ Q) X.xe s:=by
 classical
 have aa:=rv.length;refine gr (λT hT e1 e2 e3=>?_) (zp0 rv hv E);let r:X9->Int:=λv=>if h:∃k,RH s.heap v k then rkK lt ks h.choose else 0
 have i:∀{v:X9} {k:K},RH s.heap v k->r v=rkK lt ks k:=λ{v k} h=>by
  have m:∃k,RH s.heap v k:=⟨k,h⟩;show (if h:∃k,RH s.heap v k then rkK lt ks h.choose else 0)=_;rw[dif_pos m,fn _ _ _ _ m.choose_spec h]
 have z1:f.length<=Xz:=by
  rw[<- aa,S9];lia
 refine zki (vs:=f) hl z1 r (λh2 s' O=>?_) λws h' c J hs O ha=>?_
 .have ab:Xa (RH s'.heap) f ks:=by
   obtain⟨a,b,c⟩:=zcL E;have:=zeh (R:=RH s'.heap) (zs:=f.zip ks) λp E=>kp _ _ _ _ O (a p E);rw[b,c]at this;exact this
  refine WA (N s' ab h2) (fun κ s2 ⟨e,hc⟩=>⟨e,λx m y L C hC=>?_⟩) λ_ _ z=>z;have mx:x.1∈f:=by
   rw[Uv]at m;exact(R4 m).2
  have my:y.1∈f:=by
   rw[Uv]at L;exact(R4 L).2
  obtain⟨k,k1,k2⟩:=JY E x.1 mx;obtain⟨n,ae,M⟩:=JY E y.1 my;refine hc x.1 y.1 k n (kp _ _ _ _ O k2) (kp _ _ _ _ O M) C ?_;have G:C (decide (r x.1<r y.1)) s':=hC;rw[i k2,i M,<- W.rank k1]at G;exact G
 .obtain⟨T',g,eT⟩:=ST.zcI (λt:V×X9×K=>t.2.1) J T e2.symm;have j:∀t∈T',Tri Y (RH s.heap) t:=λt ht=>hT t (g.mem_iff.mp ht);obtain⟨B,ac⟩:=zgv j;rw[<- eT]at B;have hD:H (s.heap.objs.size+1)=none:=I.hok.fresh (Wb _);refine⟨.ref (s.heap.objs.size+1),upd H (s.heap.objs.size+1) (.lst (T'.map (·.1))),I.laid (t':=s.toks) O (Wb _) ⟨?_,ws,c,B,ha⟩,rfl,q _ _ _ hD ac (by rw[<- e3];exact g.map _) ?_ (by rw[<- e1];exact g.map _)⟩
  .rw[B.length,J.length_eq];exact z1
  .rw[eT,Wc]at hs;rw[Wc];refine hs.imp_of_mem λ{x y} m L h=>?_;obtain⟨_,_,h1⟩:=j x m;obtain⟨_,_,h2⟩:=j y L;rw[i h1,i h2]at h;have my:y.2.2∈ks:=by
    rw[<- e3];exact XG.mpr ⟨y,g.mem_iff.mp L,rfl⟩
   rw[W.rank my];exact bf (by lia)
end
def zlH:Wk lt2:=by
 refine⟨λx y h=>?_,λx y z h1 h2=>?_⟩
 .cases e:lt2 y x with
  | false=>rfl
  | true =>
   have:=zhG h e;rw[ziO]at this;cases this
 .cases e:lt2 z x with
  | false=>rfl
  | true =>
   by_cases a:x=y
   .subst a;rw[e]at h2;exact h2
   .have b:lt2 x y=true:=by
     have:=zb8 (p:=x) (q:=y) a;rw[h1]at this;cases hh:lt2 x y with
     | true=>rfl
     | false =>
      rw[hh]at this;cases this
    have:=zhG e b;rw[this]at h2;exact h2
def zfb {h:Heap}{v:X9}{p q:Int×Int}(h1:zD h v p)(h2:zD h v q):p=q:=by
 obtain⟨a,o,n,t,u,e,k,c1,i⟩:=h1;obtain⟨z,B,A,x,y,j,c,g,b⟩:=h2;subst e;cases j;rw[k]at c;cases c;rw[i]at b;obtain⟨m,r⟩:=p;obtain⟨s,w⟩:=q;injection b with b _
 have l:[Vs m t,Vs r u]=[Vs s x,Vs w y]:=congrArg Array.toList b;injection l with f d
 injection d with d _
 injection f with f _
 injection d with d _
 rw[f,d]
section
variable {X:Cx}
def xR:ju X (.builtin "sorted") (λxs H Q=>∃l f ps,xs=[.ref l]/\SqL X.K H l f/\yX H f ps/\f.length<=1000000 /\
  ∀d b c,H d=none->yX H b c->c.Perm ps->c.Pairwise (λp q=>lt2 q p=false)->Q (.ref d) (upd H d (.lst b))):=by
 intro Y s σ H xs b Q I r h;revert h;refine fV λl f ps z0 E j J q=>?_;subst z0;obtain⟨u,rfl,U⟩:=vals1 r;cases U;obtain⟨L,m,O,_⟩:=I.list E;have D:=yX.pairs I j m;refine zei zlH (RH:=zD) (λh v k M=>zfb) (λh h' v k N ⟨a,o,n,t,u,e,w,r⟩=>⟨a,o,n,t,u,e,N _ _ w,r⟩) I O.isList J m j D (λs' g h2=>?_) λd b i A h1 h2 y _=>q d b i A h1 h2 y;obtain⟨fs,hk,B,hint⟩:=Ym g;refine kat_kind (T:=.type "int") hk (by lia) (λv G=>?_) (by decide) ⟨rfl,λv v' k M h1 h2 C z=>?_⟩
 .obtain⟨x,t,rfl⟩:=hint v G;exact Looks.of_pure rfl
 .exact ziN h1 h2 z
end
end GS
end L2
namespace PySem.SeqAt
open L2 AutoSeq1 MeetsSeq MeetsSeq2 MeetsSeq3
end PySem.SeqAt
namespace L2
open PySem PySem.Spec PyProof.Rows PySem.W PySem.SeqAt
end L2
namespace PySem.SeqAt
open L2 AutoSeq1 MeetsSeq MeetsSeq2 MeetsSeq3
def ltL:List (Int×Int)->List (Int×Int)->Bool
 | _,[]=>false
 | [],_::_=>true
 | p::r,q::t=>if p=q then ltL r t else lt2 p q
def zfc (ps:List (Int×Int)):ltL ps []=false:=by cases ps<;>rfl
theorem zi1:∀ps:List (Int×Int),ltL ps ps=false
 | []=>rfl
 | p::r=>by
  unfold ltL;rw[bw rfl];exact zi1 r
theorem zi2:∀{ps qs:List (Int×Int)},ps≠qs->ltL qs ps=!ltL ps qs
 | [],[],h=>absurd rfl h
 | [],q::t,_=>rfl
 | p::r,[],_=>rfl
 | p::r,q::t,h=>by
  unfold ltL;by_cases e:p=q
  .subst e;rw[bw rfl,bw rfl];exact zi2 λz=>h (by rw[z])
  .rw[bq e,bq (U5 e)];exact zb8 e
theorem zhS:∀{ps qs d:List (Int×Int)},ltL ps qs=true->ltL qs d=true->ltL ps d=true
 | ps,[],_,h,_=>by
  rw[zfc]at h;cases h
 | _,_::_,[],_,h=>by
  rw[zfc]at h;cases h
 | [],_::_,_::_,_,_=>rfl
 | p::r,q::t,x::y,h1,h2=>by
  unfold ltL at *
  by_cases b:p=q
  .subst b;rw[bw rfl]at h1;by_cases a:p=x
   .rw[bw a]at h2 ⊢;exact zhS h1 h2
   .rw[bq a]at h2 ⊢;exact h2
  .rw[bq b]at h1;by_cases a:q=x
   .subst a;rw[bq b];exact h1
   .rw[bq a]at h2;have c:=zhG h1 h2;rw[bq]
    .exact c
    .intro e;subst e;rw[ziO]at c;cases c
def zhT {A:WY}{s:X7}{v a:X9}{p q:Int×Int}(h1:zD s.heap v p)(h2:zD s.heap a q)(d:A.units+10<VL):EqAt A s v a (decide (p=q)):=by
 obtain⟨as,b⟩:=QK h1;obtain⟨bs,c⟩:=QK h2;have:=eqAt_reads _ _ A s _ _ as bs b c rfl rfl (by show A.units+min 1 1<VL;lia);rw[zd3]at this;exact this
def zej {h:Heap}{xs:Array X9}{ps:List (Int×Int)}(d:Xa (zD h) xs.toList ps){i:Nat}(g:i<xs.size):∃p r,ps.drop i=p::r/\ps.drop (i+1)=r/\zD h xs[i] p:=by
 have e:xs.toList.length=ps.length:=Paired.length d;rw[X4]at e;have h2:i<ps.length:=by lia
 obtain⟨a,b,c⟩:=GS.zcL d;refine⟨ps[i],ps.drop (i+1),WJ h2,rfl,?_⟩;have f:i<(xs.toList.zip ps).length:=by
  rw[List.length_zip,X4];lia
 have:=a _ (TH f);rw[List.getElem_zip]at this;simpa using this
def zkj (l b:Addr)(c a:Array X9)(n n2:Nat)(dd B:Option Addr)(sl H:Array (Option X9))(ps qs:List (Int×Int))(k:Nat) :
  ∀i:Nat,c.size-i=k->i<=c.size->i<=a.size->Meets (US.«list.__eq__.loop» ⟨[.ref l,.ref b,Ua i,Ua 0],[]⟩)
   (λA R s=>s.heap.get? l=some { cls:=.type "list",dict:=dd,data:=.seq c n,slots:=sl }/\s.heap.get? b=some { cls:=.type "list",dict:=B,data:=.seq a n2,slots:=H } /\
    Xa (zD s.heap) c.toList ps/\Xa (zD s.heap) a.toList qs/\A.units+20<VL /\
    R (.ok (.ret (.bool (ltL (ps.drop i) (qs.drop i))))) s):=by
 induction k with
 | zero =>
  intro i hk h1 h2 f w A R s h;obtain⟨U,g,d,tk,os⟩:=s;revert h;refine gc λy x m o I h=>?_;have E:c.toList.length=ps.length:=Paired.length m;have G:a.toList.length=qs.length:=Paired.length o;rw[X4]at E G;wp_walk using Wg y,Wg x;have j:c[((i:Nat):Int).toNat]?=none:=by simp;lia
  rw[j];have D:ps.drop i=[]:=by simp;lia
  have e:ltL (ps.drop i) (qs.drop i)=decide (c.size<a.size):=by
   rw[D];by_cases Y:i<qs.length
   .rw[WJ Y];exact(br (by lia)).symm
   .rw[List.drop_of_length_le (by lia)];exact(bf (by lia)).symm
  rw[e]at h;wp_walk using Wg y,Wg x;exact h
 | succ k ih =>
  intro i hk h1 h2 f w A R s h;obtain⟨U,g,d,tk,os⟩:=s;revert h;refine gc λy x m o I h=>?_;have E:c.toList.length=ps.length:=Paired.length m;have G:a.toList.length=qs.length:=Paired.length o;rw[X4]at E G;wp_walk using Wg y,Wg x;have z:i<c.size:=by lia
  have j:c[((i:Nat):Int).toNat]?=some c[i]:=by simp[z]
  by_cases v:i<a.size
  .have u:a[((i:Nat):Int).toNat]?=some a[i]:=by simp[v]
   have T:((i:Int)+1)=((i+1:Nat):Int):=by push_cast;rfl
   refine fK (λp r M O J=>?_) (zej m z);refine fK (λq t N Q L=>?_) (zej o v);rw[j,u];refine Y1 (zhT J L (by show A.units+1+10<VL;lia) f w _ _ ?_);rw[M,N]at h;unfold ltL at h;by_cases e:p=q
   .rw[bw e]at h;rw[br e];wp_walk;rw[T];exact⟨UH plain_eq_loop _,VS entry_eq_loop (by
     rw[Wa plain_eq_loop _];exact ih (i+1) (by lia) (by lia) (by lia) f w A R _ (dZ y x m o I (by rw[O,Q];exact h)))⟩
   .rw[bq e]at h;rw[bf e];simp only[WG,if_false];refine Y1 (RD y rfl (Y1 (RD x rfl ?_)));rw[j,u];exact Y1 (Q4.pairs J L (by show A.units+1<VL;lia) f w _ _ (XR h))
  .have u:a[((i:Nat):Int).toNat]?=none:=by simp;lia
   rw[j,u];have D:qs.drop i=[]:=by simp;lia
   rw[D,zfc,show false=decide (c.size<a.size) from (bf (by lia)).symm]at h;wp_walk using Wg y,Wg x;exact h
def zhU (l b:Addr)(c a:Array X9)(n j:Nat)(dd d:Option Addr)(k f:Array (Option X9))(ps qs:List (Int×Int)) :
  Meets (US.«list.__lt__» ⟨[.ref l,.ref b],[]⟩)
   (λA R s=>s.heap.get? l=some { cls:=.type "list",dict:=dd,data:=.seq c n,slots:=k }/\s.heap.get? b=some { cls:=.type "list",dict:=d,data:=.seq a j,slots:=f } /\
    Xa (zD s.heap) c.toList ps/\Xa (zD s.heap) a.toList qs/\A.units+20<VL/\R (.ok (.ret (.bool (ltL ps qs)))) s):=by
 intro e w A R s h;obtain⟨o,g1,v,u,r⟩:=s;revert h;refine gc λi g m p q h=>?_;have x:=sub_list_list;wp_walk using Wg i,Wg g;exact⟨UH plain_eq_loop _,VS entry_eq_loop (by
  rw[Wa plain_eq_loop _];exact zkj l b c a n j dd d k f ps qs _ 0 rfl (W3 _) (W3 _) e w A R _ (dZ i g m p q (by simpa using h)))⟩
structure ListPairs (h:Heap)(v:X9)(ps:List (Int×Int)):Prop where
 ex:∃a o xs n,v=.ref a/\h.get? a=some o/\o.cls=.type "list"/\o.data=.seq xs n/\Xa (zD h) xs.toList ps
def zlI {prog:Xs}{w:Xd}{A:WY}{E:X9->X7->Prop}{s:X7}{v p:X9}{ps qs:List (Int×Int)}{C:Bool->X7->Prop}(x:ListPairs s.heap v ps)(g:ListPairs s.heap p qs)(G:A.units+30<VL)(h:C (ltL ps qs) s) :
  Xu (Xx prog w) A (PyProof.Rows.keyLt' PyProof.Rows.oneType' v p) C E s:=by
 obtain⟨a,⟨r,u,o,B⟩,D,n,rfl,e,c1,m,z⟩:=x;obtain⟨q,⟨l,d,data2,j⟩,k,y,rfl,f,b,c,i⟩:=g;simp only at c1 m b c;subst c1 m b c;rw[PyProof.Rows.keyLt'_oneType,PyProof.Rows.oneLt'_eq];simp only[if_true];refine Y1 (wpAny_cRoomFor (by lia) ?_);refine Y1 (wpAny_callSpecialIfBound?_slot (T:="list") ⟨_,e,rfl⟩ F.slot_list_lt ?_);refine PL F.slot_list_lt ⟨_,e,rfl⟩ F.entry_list_lt (F.args_list_lt_2 _ _) (zhU a q D k n y u d B j ps qs) (dZ e f z i (by lia) ?_);exact Vz h
end PySem.SeqAt
namespace L2
open PySem PySem.Spec PyProof.Rows PySem.W PySem.SeqAt
namespace GS
def zp1:Wk ltL:=by
 refine⟨λx y h=>?_,λx y z h1 h2=>?_⟩
 .cases e:ltL y x with
  | false=>rfl
  | true =>
   have:=zhS h e;rw[zi1]at this;cases this
 .cases e:ltL z x with
  | false=>rfl
  | true =>
   by_cases a:x=y
   .subst a;rw[e]at h2;exact h2
   .have b:ltL x y=true:=by
     have:=zi2 (ps:=x) (qs:=y) a;rw[h1]at this;cases hh:ltL x y with
     | true=>rfl
     | false =>
      rw[hh]at this;cases this
    have:=zhS e b;rw[this]at h2;exact h2
def LstAt (H:Hp)(v:V)(ps:List (Int×Int)):Prop:=∃a b,v=V.ref a/\H a=some (.lst b)/\yX H b ps
def zkk {h:Heap}{vs:List X9}{ps qs:List (Int×Int)}(d:Xa (zD h) vs ps):Xa (zD h) vs qs->ps=qs:=by
 induction d generalizing qs with
 | nil =>
  intro c;cases c;rfl
 | cons a _ e =>
  intro c;cases c with
  | cons b u=>rw[zfb a b,e u]
def zlJ {h:Heap}{v:X9}{ps qs:List (Int×Int)}(h1:ListPairs h v ps)(h2:ListPairs h v qs):ps=qs:=by
 obtain⟨a,o,r,n,e,j,c1,g,k⟩:=h1;obtain⟨m,q,l,p,i,c,f,b,d⟩:=h2;subst e;cases i;rw[j]at c;cases c;rw[g]at b;injection b with b _
 subst b;exact zkk k d
def Yl {h h':Heap}(k:∀b o,h.get? b=some o->h'.get? b=some o){vs:List X9}{ps:List (Int×Int)}(d:Xa (zD h) vs ps):Xa (zD h') vs ps:=by
 induction d with
 | nil=>exact .nil
 | cons q _ f =>
  obtain⟨a,o,n,t,u,e,c,r⟩:=q;exact .cons ⟨a,o,n,t,u,e,k _ _ c,r⟩ f
section
variable {X:Cx}{bz:List (Addr×Obj)}{σ:St}{H:Hp}{s:X7}
def zhV (I:Inv X bz σ H s){c:AE}{ks:List (List (Int×Int))}{b:List X9}(d:Xa (LstAt H) c ks)(r:Vals c b):Xa (ListPairs s.heap) b ks:=by
 induction d generalizing b with
 | nil =>
  cases r;exact .nil
 | cons q _ g =>
  obtain⟨a,m,e,h,f⟩:=q;subst e;cases r with
  | cons i j =>
   cases i;refine .cons ?_ (g j);refine gx (λz b n k l e=>?_) (I.lstM h);exact⟨a,_,b.toArray,n,rfl,e,rfl,rfl,by rw[OC];exact yX.pairs I f k⟩
end
def zhW {h:Heap}{b:List X9}{ks:List (List (Int×Int))}(f:Xa (ListPairs h) b ks):∀v∈b,∃a o,v=WM a/\h.get? a=some o/\o.cls=.type "list":=by
 induction f with
 | nil=>exact λv hv=>nomatch hv
 | cons q _ g =>
  intro v hv;rcases XI.mp hv with rfl | hv
  .obtain⟨a,o,i,n,e,d,c,_⟩:=q;exact⟨a,o,e,d,c⟩
  .exact g v hv
section
variable {X:Cx}
def QM (hu:X.A.units+64<VL):ju X (.builtin "sorted") (λxs H Q=>∃l g ks,xs=[.ref l]/\SqL X.K H l g/\Xa (LstAt H) g ks/\g.length<=1000000 /\
  ∀d b f,H d=none->Xa (LstAt H) b f->f.Perm ks->f.Pairwise (λp q=>ltL q p=false)->b.Perm g->Q (.ref d) (upd H d (.lst b))):=by
 intro Y s σ H xs b Q I r h;revert h;refine fV λl g ks z0 G m L q=>?_;subst z0;obtain⟨u,rfl,U⟩:=vals1 r;cases U;obtain⟨M,x,O,_⟩:=I.list G;have E:=zhV I m x;refine zei zp1 (RH:=ListPairs) (λh v k N=>zlJ) (λh h' v k w ⟨a,o,xs,n,e,i,c,d,r⟩=>⟨a,o,xs,n,e,w _ _ i,c,d,Yl w r⟩) I O.isList L x m E (λs' j h2=>?_) λd b f D h1 h2 y z=>q d b f D h1 h2 y z;refine kas_kind (T:=.type "list") h2 (λv J=>?_) (by decide) (by decide) ⟨rfl,λv v' k N h1 h2 C B=>?_⟩
 .obtain⟨a,o,rfl,i,c1⟩:=zhW j v J;exact c1 ▸ (Looks.ld i).andThen .now
 .exact zlI h1 h2 (by show X.A.units+1+1+30<VL;lia) B
end
end GS
open PySem PySem.Spec PyProof.Rows
def HasDef (K:XZ)(x:Str)(st:Stmt):Prop:=∃(f:Addr) (e:X9) (g b:Option Addr) (i:Array (Option X9)) (kV d h a c:X9),XQ K XV x=some (some (.ref f))/\K.lookup f=some ⟨e,g,.func (V8 x x (j8 st) (jq st) (zq st) .none kV d h b a c),i⟩/\Vj K a x=true/\Vi K (.ref f)=true
def us0 {P:List X9->Prop}(h:P []):∀b:List X9,b.length=0->P b:=by
 intro b e;cases b with
 | nil=>exact h
 | cons a t=>cases e
def usS {n:Nat}{P:List X9->Prop}(h:∀a t,t.length=n->P (a::t)):∀b:List X9,b.length=n+1->P b:=by
 intro b e;cases b with
 | nil=>cases e
 | cons a t=>exact h a t (Nat.succ.inj e)
def us1 {P:List X9->Prop}(h:∀a,P [a]):∀b:List X9,b.length=1->P b:=usS λa=>us0 (h a)
def us2 {P:List X9->Prop}(h:∀a b,P [a,b]):∀c:List X9,c.length=2->P c:=usS λa=>us1 (h a)
def us3 {P:List X9->Prop}(h:∀a b c,P [a,b,c]):∀d:List X9,d.length=3->P d:=usS λa=>us2 (h a)
def us4 {P:List X9->Prop}(h:∀a b c d,P [a,b,c,d]):∀e:List X9,e.length=4->P e:=usS λa=>us3 (h a)
def HasDef.at {K:XZ}{h:Heap}{i:Str->Option X9}{x:Str}{st:Stmt}{ps:AD}(H:HasDef K x st)(X:K.In h)(G:h.Ns XV i)
  (n:∀(kV doc j:X9) (e:Option Addr) (b g:X9) (d:List X9),d.length=ps.length->Oh (V8 x x (j8 st) (jq st) (zq st) .none kV doc j e b g) ⟨d,[]⟩=pure (ps.zip d):=by intro _ _ _ _ _ _;first | exact us1 λ_=>rfl | exact us2 λ_ _=>rfl | exact us3 λ_ _ _=>rfl | exact us4 λ_ _ _ _=>rfl):∃f m,zh K i x st ps f m:=by
 revert H;refine fQ λf q r e s kV p j=>fH λo g a l c k=>?_;have F:=zk5 (st:=st) l c k;exact⟨f,_,F,WW X G a,F.binds n⟩
open PySem PySem.W
open PySem PySem.Spec PyProof.Rows PySem.W
namespace ST
variable {X:Cx}
def zdw (hh:X.A.handled=none):ju X (.builtin "sorted") (λxs H Q=>∃l ks,xs=[.ref l]/\H l=some (zgs X.prog X.w l ks)/\(∀q∈ks,H q.1=some (.tup [.int q.2.1,.int q.2.2]))/\(ks.map (·.2)).Nodup/\ks.length<64 /\
  ∀d U O,H d=none->yX H U O->O.Perm (ks.map (·.2))->Up2 O->Q (.ref d) (upd H d (.lst U))):=by
 intro bz s σ H xs U Q I r h;revert h;refine gb λl ks z0 hl hT ak aq q=>?_;subst z0;obtain⟨u,rfl,ru⟩:=vals1 r;cases ru;obtain⟨⟨es,ep,t,ho,he,G,ab,am⟩,_,_⟩:=(show jJ X.prog X.w H s.heap l (zgs X.prog X.w l ks) from I.hok l _ hl);have aw:ks.length=es.size:=by
  rw[<- X4,he,ZB]
 apply RE kind_sorted plain_sorted entry_sorted (args_sorted1 _);unfold US.«sorted»;refine Y1 (m:=checkCount "sorted" 1 1 _) (XR (Y1 (zgr (by simp[hh]) ho G ab am (by lia) λf h1 tk ae ah aj=>?_)));have ao:es.toList.map (·.2)=ks.map λq=>WM q.1:=by
  rw[he,Wo];rfl
 rw[ao]at ae;obtain⟨g,z,hj⟩:=zcI (λq:Addr×(Int×Int)=>WM q.1) ae ks rfl;have aa:∀q∈g,H q.1=some (.tup [.int q.2.1,.int q.2.2]):=λq L=>hT q (z.mem_iff.mp L);have D:(g.map (·.2)).Nodup:=(z.map (·.2)).nodup_iff.mpr ak;have av:g.length=ks.length:=z.length_eq;have au:f.length=g.length:=by rw[hj,ZB]
 have rv:∀{g:List (Addr×(Int×Int))},Vals (g.map λq=>V.ref q.1) (g.map λq=>WM q.1):=λ{g}=>by
  induction g with
  | nil=>exact .nil
  | cons a t ih=>exact .cons rfl ih
 have ht:∀{g:List (Addr×(Int×Int))},(∀q∈g,H q.1=some (.tup [.int q.2.1,.int q.2.2]))->yX H (g.map λq=>V.ref q.1) (g.map (·.2)):=λ{g}=>by
  induction g with
  | nil=>exact λ_=>.nil
  | cons a t ih=>exact λh=>.cons ⟨a.1,rfl,h a XT⟩ (ih λq L=>h q (XU _ L))
 have j:Xa (zD s.heap) f (g.map (·.2)):=by
  rw[hj];exact yX.pairs I (ht aa) rv
 generalize af:g.map (·.2)=ps at j D;have ax:f.length=ps.length:=Paired.length j;have W:=GS.zlH;have ip:∀q:Addr×(Int×Int),H q.1=some (.tup [.int q.2.1,.int q.2.2])->zD s.heap (.ref q.1) q.2:=λq L=>by
  have:=yX.pairs I (.cons ⟨q.1,rfl,L⟩ .nil:yX H [V.ref q.1] [q.2]) (.cons rfl .nil:Vals [V.ref q.1] [WM q.1]);cases this with
  | cons h _=>exact h
 classical
 let r:X9->Int:=λv=>if h:∃k,zD s.heap v k then GS.rkK lt2 ps h.choose else 0
 have B:∀{v:X9} {k:Int×Int},zD s.heap v k->r v=GS.rkK lt2 ps k:=λ{v k} h=>by
  have M:∃k,zD s.heap v k:=⟨k,h⟩;show (if h:∃k,zD s.heap v k then GS.rkK lt2 ps h.choose else 0)=_;rw[dif_pos M,GS.zfb M.choose_spec h]
 have small:f.length<=Xz:=by rw[S9];lia
 refine Y1 (Os ?_ small);have ac:(h1.push (Uo "list" f.toArray 0)).get? h1.objs.size=some (Uo "list" f.toArray 0):=Xg _ rfl;have kL:∀b o,s.heap.get? b=some o->(h1.push (Uo "list" f.toArray 0)).get? b=some o:=λb o e=>XY _ (ah b o e);have ne:∀b o,s.heap.get? b=some o->b≠h1.objs.size:=λb o e=>Xj (XB (ah b o e));show Xu _ _ _ _ _ { s with heap:=h1.push (Uo "list" f.toArray 0),toks:=tk };refine Y1 (VT (U0 slot_list_sort ⟨_,ac,rfl⟩ entry_list_sort (GS.zeg (s:={ s with heap:=h1.push (Uo "list" f.toArray 0),toks:=tk }) ac small r (λh2 s' kk=>?_) ?_) (args_list_sort _)))
 .have al:=Yl (λb o e=>kk b o (ne b o e) (kL b o e)) j;obtain⟨fs,hk,ar,hint⟩:=Ym al;refine kat_kind (T:=.type "int") hk (by lia) (λv hv=>?_) (by decide) ⟨rfl,λx M y hy C hC=>?_⟩
  .obtain⟨x,t,rfl⟩:=hint v hv;exact Looks.of_pure rfl
  .have mx:x.1∈f:=by
    rw[Uv]at M;exact(R4 M).2
   have my:y.1∈f:=by
    rw[Uv]at hy;exact(R4 hy).2
   obtain⟨k,k1,k2⟩:=GS.JY j x.1 mx;obtain⟨k',ay,ag⟩:=GS.JY j y.1 my;have kp:∀{v:X9} {k:Int×Int},zD s.heap v k->zD s'.heap v k:=λ{v k} ⟨a,o,n,t,u,e,e1,r⟩=>⟨a,o,n,t,u,e,kk _ _ (ne _ _ e1) (kL _ _ e1),r⟩;have Y:C (decide (r x.1<r y.1)) s':=hC;rw[B k2,B ag,<- W.rank k1]at Y;exact ziN (kp k2) (kp ag) Y
 .intro ws h' c E hs kk ha;obtain⟨p,i,ej⟩:=zcI (λq:Addr×(Int×Int)=>WM q.1) E g hj;have hD:H h1.objs.size=none:=I.hok.fresh aj;have J:∀q∈p,H q.1=some (.tup [.int q.2.1,.int q.2.2]):=λq L=>aa q (i.mem_iff.mp L);have ai:Vals (p.map λq=>V.ref q.1) ws:=by
   rw[ej];exact rv
  have N:(p.map (·.2)).Nodup:=(i.map (·.2)).nodup_iff.mpr (by rw[af];exact D);have an:Up2 (p.map (·.2)):=by
   unfold Up2;unfold PJ at N;rw[Wc]at N ⊢;rw[ej,Wc]at hs;refine(hs.and N).imp_of_mem λ{x y} M hy ⟨h1,h2⟩=>?_;rw[B (ip x (J x M)),B (ip y (J y hy))]at h1;have my:y.2∈ps:=by
    rw[<- af];exact XG.mpr ⟨y,i.mem_iff.mp hy,rfl⟩
   have e1:lt2 y.2 x.2=false:=by
    rw[W.rank my];exact bf (by lia)
   have e2:=zb8 h2;rw[e1]at e2;cases hh:lt2 x.2 y.2 with
   | true=>rfl
   | false =>
    rw[hh]at e2;cases e2
  refine⟨_,rfl,XR (eX _ rfl (.ref h1.objs.size) (upd H h1.objs.size (.lst (p.map λq=>V.ref q.1))) (I.laid (t':=tk) (λb o e=>kk b o (ne b o e) (kL b o e)) aj ⟨?_,_,c,ai,ha⟩) rfl (q _ _ _ hD (ht J) ((i.trans z).map _) an))⟩;rw[ai.length,E.length_eq];exact small
end ST
inductive Rd1 (σ:St)(i:Nat)(Q:VK)(H:Hp):Prop
 | mk (v:V) (h:σ[i]?=some (some v)) (q:Q v H):Rd1 σ i Q H
def tVS (i:Nat):TE:=fun a H Q=>Rd1 a i Q H
section
variable {X:Cx}
def pvS (i:Nat){x:Str}{pos:Pos}(c:X.N[i]?=some x:=by rfl)(f:Vis X.env.scope x:=by first | exact V4 rfl | exact PP (V4 rfl) | exact PP (PP rfl))(d:(x==("__debug__":Str))=false:=by decide)
  (a:(x==("__classdict__":Str))=false:=by decide):PE X (.Name x pos) (tVS i):=by
 intro b s g H Q I h;obtain⟨v,e,q⟩:=h;exact pv i c f d a b s g H Q I ⟨v,e,q⟩
def OpR.imp {f:X9->X9->Sem X9}{r a:R2}(h:OpR X f r)(k:∀x y H Q,a x y H Q->r x y H Q):OpR X f a:=λb s e H x y v u Q I c d z=>h b s e H x y v u Q I c d (k x y H Q z)
def IxR.imp {r c:R2}(h:IxR X r)(k:∀x y H Q,c x y H Q->r x y H Q):IxR X c:=λb a d s i H x y v u Q I f g z e=>h b a d s i H x y v u Q I f g (k x y H Q z) e
inductive SI0 (g:Int->Int->V)(x y:V)(H:Hp)(Q:VK):Prop
 | mk (i j:Int) (hx:x=.int i) (hy:y=.int j) (q:Q (g i j) H):SI0 g x y H Q
inductive SI (C:Int->Int->Prop)(g:Int->Int->V)(x y:V)(H:Hp)(Q:VK):Prop
 | mk (i j:Int) (hx:x=.int i) (hy:y=.int j) (hc:C i j) (q:Q (g i j) H):SI C g x y H Q
def OpR.s0 {f:X9->X9->Sem X9}{g:Int->Int->V}(h:OpR X f (rI0 g)):OpR X f (SI0 g):=h.imp λ_ _ _ _ ⟨i,j,a,b,q⟩=>⟨i,j,a,b,q⟩
def OpR.s1 {f:X9->X9->Sem X9}{C:Int->Int->Prop}{g:Int->Int->V}(h:OpR X f (rI C g)):OpR X f (SI C g):=h.imp λ_ _ _ _ ⟨i,j,a,b,c,q⟩=>⟨i,j,a,b,c,q⟩
def jt:OpR X (Uz .Add) (SI0 λi j=>.int (i+j)):=zeJ.s0
def Jv:OpR X (Uz .Sub) (SI0 λi j=>.int (i-j)):=YV.s0
def yx:OpR X (Uz .Mod) (SI (λ_ j=>0<j) λi j=>.int (i%j)):=za6.s1
def yJ:OpR X (Uz .FloorDiv) (SI JP λi j=>.int (i/j)):=zfX.s1
def zlK:OpR X (Ws .Lt) (SI0 λi j=>.bl (decide (i<j))):=zq6.s0
def Zv:OpR X (Ws .LtE) (SI0 λi j=>.bl (decide (i<=j))):=zq7.s0
def zhX:OpR X (Ws .Gt) (SI0 λi j=>.bl (decide (j<i))):=zoJ.s0
inductive zp2 (K:XZ)(x y:V)(H:Hp)(Q:VK):Prop
 | mk (p:Addr) (xs:AE) (i:Int) (v:V) (hx:x=.ref p) (hy:y=.int i) (hq:SqL K H p xs) (he:atI xs i=some v) (q:Q v H):zp2 K x y H Q
inductive zp3 (K:XZ)(x y:V)(H:Hp)(Q:VK):Prop
 | mk (p:Addr) (xs:AE) (i:Int) (v:V) (hx:x=.ref p) (hy:y=.int i) (hq:SqT K H p xs) (he:atI xs i=some v) (q:Q v H):zp3 K x y H Q
inductive zrr (x y:V)(H:Hp)(Q:VK):Prop
 | mk (z:Str) (i:Int) (c:Nat) (hx:x=.str z) (hy:y=.int i) (hl:z.length<=Xz) (he:atI z.cps.toList i=some c) (q:Q (.str ⟨#[c]⟩) H):zrr x y H Q
def jO:IxR X (zp2 X.K):=zeO.imp λ_ _ _ _ ⟨p,e,i,v,a,b,c,d,q⟩=>(dS p e i v a b c d q)
def qi:IxR X (zp3 X.K):=jD.imp λ_ _ _ _ ⟨p,e,i,v,a,b,c,d,q⟩=>(dS p e i v a b c d q)
def zaB:IxR X zrr:=zpC.imp λ_ _ _ _ ⟨z,i,c,a,b,d,e,q⟩=>⟨z,i,c,a,b,d,e,q⟩
def zbi {K:XZ}(a:X.K=K):IxR X (zp2 K):=a ▸ jO
def zlL {K:XZ}(a:X.K=K):IxR X (zp3 K):=a ▸ qi
inductive SB (x:V)(Q:Bool->Hp->Prop)(H:Hp):Prop
 | mk (k:Bool) (h:x=.bl k) (q:Q k H):SB x Q H
def zp4 (t:TE):TT:=fun b H Q=>t b H λx a=>SB x Q a
def zO {op:NS}{r:R2}{a b:Expr}{f g:TE}{pos:Pos}(B:OpR X (Ws op) r)(p:PE X a f)(w:PE X b g)(A:Tv op b=false):PT X (.Compare a [op] [b] pos) (zp4 (tOp r f g)):=by
 intro d s e H Q I h;refine SL (thn (p d s e H _ I h) λv s1 ⟨x,i,m,J,D⟩=>thn (w d s1 e i _ m D) λu N ⟨y,j,n,L,E⟩=>thn (B d N e j x y v u _ n J L E) λc O ⟨z,l,o,M,G⟩=>?_) A;obtain⟨k,rfl,q⟩:=G;cases M;exact Vz ⟨l,o,q⟩
inductive zp5 (K:XZ)(xs:AE)(H:Hp)(Q:VK):Prop
 | mk (p:Addr) (ys:AE) (hx:xs=[.ref p]) (hq:SqL K H p ys\/SqT K H p ys) (q:Q (.int ys.length) H):zp5 K xs H Q
def zH:ju X (.builtin "len") (zp5 X.K):=λc s g H e d Q I r ⟨p,f,a,b,q⟩=>yc c s g H e d Q I r ⟨p,f,a,b,q⟩
def zcM {K:XZ}(a:X.K=K):ju X (.builtin "len") (zp5 K):=a ▸ zH
inductive zrs (x:V)(vs:AE)(H:Hp)(Q:VK):Prop
 | mk (l:Addr) (xs:AE) (y:V) (hx:x=.ref l) (hv:vs=[y]) (hl:H l=some (.lst xs)) (hz:xs.length<Xz) (q:Q .non (upd H l (.lst (xs++[y])))):zrs x vs H Q
def jX:MtM X "list.append" zrs:=λe s k H x i v h Q I g f ⟨l,j,y,a,b,c,d,q⟩=>za8 e s k H x i v h Q I g f (dP l j y a b c d q)
end
section
variable {X:Cx}{k k0:Nat}{f:Addr}{fd:XH}{ps:AD}{sp:Sp}{x:Str}{st:Stmt}{p pos:Pos}{e:Expr}{es:List Expr}{t:TA}
def pc0 (F:qg X.prog X.w X.K X.mg X.base CX0 k f fd ps sp)(i:Jd k0 X.A)(D:zh X.K X.mg x st ps f fd)(d:PA X (e::es) t)(hk:k<=k0:=by decide)(h:Gl X x:=by rfl)
  (a:(x==("__debug__":Str))=false:=by decide) (he:W6 (e::es) X.env=(false,eval e X.env)::W6 es X.env:=by rfl) (c:(UB pos (W6 es X.env)).any (·.1)=false:=by rfl) :
  PE X (.Call (.Name x p) (e::es) [] pos) (ziJ sp [] E0 t):=zni F (i.mono hk) h D.g D.F.kp D.b .nil zoL d a he c
end
def x9:0<=Xz:=by decide
def sz_1:1<=Xz:=by decide
def yp:2<=Xz:=by decide
def zgw:3<=Xz:=by decide
def zrt:4<=Xz:=by decide
def zbj {M:Pn}{Γ:PySem.Ctx}{p:Pos}{t:Sem Fin}{fs:List Frame}{s s':X7}{e:End}(h:Runs M Γ p t fs s e s'):s.toks<=s'.toks:=by
 induction h;all_goals first | exact XW _ | assumption | (rename_i ih;exact X6 (Wb _) ih) | (rename_i ih1 ih2;exact X6 ih1 ih2)
def zhY {M:Pn}{Γ:PySem.Ctx}{p:Pos}{g:Nat}{r:Resume}{s s':X7}{a:GenResult}(h:Wakes M Γ p g r s a s'):s.toks<=s'.toks:=by
 unfold Wakes at h;split at h
 .exact h.elim
 .split at h
  .obtain⟨_,_,h,_,_,rfl⟩:=h;have:=zbj h;exact this
  .obtain⟨_,rfl⟩:=h;exact XW _
  .obtain⟨_,rfl⟩:=h;exact XW _
 .obtain⟨_,_,h,_,_,rfl⟩:=h;have:=zbj h;exact this
 .obtain⟨_,rfl⟩:=h;exact XW _
 .obtain⟨_,rfl⟩:=h;exact XW _
def wp_toks {α:Type}{M:Pn}{Γ:PySem.Ctx}(t:Sem α){Q:α->Pos->X7->Prop}{E:X9->Pos->X7->Prop}{p:Pos}{s:X7}(n:Nat)(b:n<=s.toks)(h:Sem.wp M Γ t Q E p s):Sem.wp M Γ t (λa c s'=>Q a c s'/\n<=s'.toks) (λe c s'=>E e c s'/\n<=s'.toks) p s:=by
 induction t generalizing p s;all_goals rw[Sem.wp]at h ⊢
 all_goals first | exact⟨h,b⟩ | exact h.elim | (rename_i ih;exact ih _ b h) | (rename_i ih;exact ih _ (T6 b) h) | (rename_i ih;exact⟨h.1,ih _ b h.2⟩) | (rename_i ih;obtain⟨x,h1,h2⟩:=h;exact⟨x,h1,ih _ b h2⟩) | (rename_i ih;revert h;refine fL λr s' h1 h2=>?_;exact⟨r,s',h1,ih _ (X6 b (zbj h1)) h2⟩) | (rename_i ih;revert h;refine fL λr s' h1 h2=>?_;exact⟨r,s',h1,ih _ (X6 b (zhY h1)) h2⟩)
def up {α:Type}{M:Pn}{A:WY}{t:Sem α}{Q:α->X7->Prop}{E:X9->X7->Prop}{s:X7}{n:Nat}(b:n<=s.toks)(h:Xu M A t (λa s'=>n<=s'.toks->Q a s') E s):Xu M A t Q E s:=by
 have h2:Xu M A t (λa s'=>(n<=s'.toks->Q a s')/\n<=s'.toks) (λe s'=>E e s'/\n<=s'.toks) s:=fun Γ p hΓ=>wp_toks t n b (h Γ p hΓ);exact WA h2 (λ_ _ z=>z.1 z.2) λ_ _ z=>z.1
def Qd {α:Type}{t:Sem α}{Q b:α->X7->Prop}{M:Pn}{A:WY}{E:X9->X7->Prop}{s:X7}{n:Nat}(d:n<=s.toks)(h:Xu M A t Q E s)(c:∀a s,Q a s->n<=s.toks->b a s):Xu M A t b E s:=up d (thn h c)
def PEt (n:Nat)(X:Cx)(e:Expr)(t:TE):Prop :=
 ∀(b:List (Addr×Obj)) (s:X7) (a:St) (H:Hp) (Q:VK),Inv X b a H s->n<=s.toks->t a H Q->Xu (Xx X.prog X.w) X.A (eval e X.env) (EP X b a Q) X.xe s
def PAt (n:Nat)(X:Cx)(c:List Expr)(t:TA):Prop :=
 ∀(pos:Pos) (b:List (Addr×Obj)) (s:X7) (a:St) (H:Hp) (Q:AE->Hp->Prop),Inv X b a H s->n<=s.toks->t a H Q->Xu (Xx X.prog X.w) X.A (Ol (UB pos (W6 c X.env))) (AP X b a Q) X.xe s
def PSt (n:Nat)(X:Cx)(st:Stmt)(t:TS):Prop :=
 ∀(a:List (Addr×Obj)) (s:X7) (b:St) (H:Hp) (D:Ends),Inv X a b H s->n<=s.toks->t D b H->Xu (Xx X.prog X.w) X.A (exec st X.env) (SP X a D) X.xe s
def zaC (n:Nat)(X:Cx)(st:List Stmt)(t:TS):Prop :=
 ∀(a:List (Addr×Obj)) (s:X7) (b:St) (H:Hp) (D:Ends),Inv X a b H s->n<=s.toks->t D b H->Xu (Xx X.prog X.w) X.A (execs st X.env) (SP X a D) X.xe s
section
variable {X:Cx}{n:Nat}{e:Expr}{te:TE}{st:Stmt}{rest:List Stmt}{t u:TS}{pos:Pos}
def PE.at_ (h:PE X e te):PEt n X e te:=λa s c H Q I _ b=>h a s c H Q I b
def PA.at_ {a:List Expr}{b:TA}(h:PA X a b):PAt n X a b:=λpos c s e H Q I _ d=>h pos c s e H Q I d
def PS.at_ (h:PS X st t):PSt n X st t:=λa s c H D I _ b=>h a s c H D I b
def PSs.at_ (h:PSs X rest t):zaC n X rest t:=λa s c H D I _ b=>h a s c H D I b
theorem zaC.nox (h:zaC n X.nox rest t):zaC n X rest t:=λa s d H D I b c =>
 WA (h a s d H D (I.wish _) b c) (λ_ _ q=>q.unwish) λ_ _ z=>Wy z
def qm (h1:PSt n X st t)(h2:zaC n X rest u):zaC n X (st::rest) (zqV t u):=by
 intro b s g H D I c h;refine U1 (Qd c (h1 b s g H { D with nx:=u D } I c h) λf s1 q z=>?_);cases f with
 | next =>
  obtain⟨a,d,e,q⟩:=q;exact h2 b s1 a d D e z q
 | ret v=>exact q
 | brk=>exact q
 | cont=>exact q
def zlM (h1:PSt n X st t):zaC n X [st] t:=by
 intro a s c H D I b h;refine U1 (thn (h1 a s c H D I b h) λf s1 q=>?_);cases f with
 | next=>exact Vv q
 | ret v=>exact q
 | brk=>exact q
 | cont=>exact q
def zfd {i:Nat}{x:Str}{a:Pos}(g:X.N.Nodup)(k:X.N[i]?=some x)(o:Loc X.env.scope x)(he:PEt n X e te)(m:Ta e (some (.Name x a)) pos.line X.env=pure false:=by rfl)(j:X.fn x=true\/X.env.scope.names.lookup x=some .local:=by first | exact .inl rfl | exact .inr rfl | assumption) :
  PSt n X (.Assign [.Name x a] e pos) (zjI te (xo i)):=by
 intro f s r H D I l h;refine Ru (thn (he f s r H _ I l h) λv s1 ⟨y,b,c,q,p⟩=>?_) m;exact YS c g k o q (λu d=>⟨_,b,d,p⟩) j
def zgx {a:List Expr}{d:TA}(l:PEt n X e te)(m:PAt n X a d)(o:W6 (e::a) X.env=(false,eval e X.env)::W6 a X.env:=by rfl):PAt n X (e::a) (zco te d):=by
 intro pos b s f H Q I c h;rw[o];show Xu _ _ (Ol ((false,eval e X.env)::UB pos (W6 a X.env))) _ _ s;refine UX (Qd c (l b s f H _ I c h) λu s1 ⟨x,g,j,r,p⟩ z=>?_);exact thn (m pos b s1 f g _ j z p) λA y ⟨w,i,k,v,q⟩=>⟨x::w,i,k,.cons r v,q⟩
end
structure Jf (n:Nat)(P:Xs)(w:Xd)(K:XZ)(mg:Str->Option X9)(base:Heap)(CX:CXT)(k:Nat)(f:Addr)(fd:XH)(ps:AD)(sp:Sp):Prop where
 len:∀vs H Q E,sp vs H Q E->vs.length=ps.length
 run:∀(A:WY) (outer:List Env) (s:X7) (H:Hp) (args:Args) (us:List X9) (vs:AE) (Q:VK) (E:XK),n<=s.toks->Jd k A->zk2 P w K mg base A outer s H->ON s fd args (ps.zip us)->Vals vs us->sp vs H Q E ->
  Um (Xx P w) A (.call (.ref f) args) (CR CX outer P w H s Q E) s
section
variable {X:Cx}{n k k0:Nat}{f:Addr}{fd:XH}{ps:AD}{sp:Sp}{x:Str}{st:Stmt}{p pos:Pos}{e:Expr}{es:List Expr}{t:TA}
def pct (F:Jf n X.prog X.w X.K X.mg X.base CX0 k f fd ps sp)(T:Jd k0 X.A)(D:zh X.K X.mg x st ps f fd)(N:PAt n X (e::es) t)(hk:k<=k0:=by decide)(O:Gl X x:=by rfl)
  (l:(x==("__debug__":Str))=false:=by decide) (he:W6 (e::es) X.env=(false,eval e X.env)::W6 es X.env:=by rfl) (m:(UB pos (W6 es X.env)).any (·.1)=false:=by rfl) :
  PEt n X (.Call (.Name x p) (e::es) [] pos) (ziJ sp [] E0 t):=by
 intro L s U H Q I E h;refine UW (Ze I O D.g ?_ l);refine Tf (h₀:=X.base) I.ok.mod.kin D.F.kp (Qd E (N pos L s U H _ I E h) λi s1 ⟨v,j,d,r,q⟩ z=>⟨d.kIn,?_⟩) he m;have G:sp v j Q E0:=by
  have J:sp (v++[]) j Q E0:=q;rw[WV]at J;exact J
 have a:i.length=ps.length:=by rw[<- r.length];exact F.len _ _ _ _ G
 have B:=D.b s1 i d.kIn (by rw[WV];exact a);rw[WV]at B;refine Op (TR (F.run X.A X.stack s1 j ⟨i,[]⟩ i v _ _ z (T.mono hk) d.env0 B r G) λo Y c=>?_);cases o with
 | error y=>exact Wy c
 | ok M =>
  cases M with
  | ret u=>exact d.after c
  | next=>exact Wy c
  | brk=>exact Wy c
  | cont=>exact Wy c
def zso (F:qg X.prog X.w X.K X.mg X.base CX0 k f fd ps sp)(o:Jd k0 X.A)(D:zh X.K X.mg x st ps f fd)(j:PAt n X (e::es) t)(hk:k<=k0:=by decide)(l:Gl X x:=by rfl)
  (a:(x==("__debug__":Str))=false:=by decide) (he:W6 (e::es) X.env=(false,eval e X.env)::W6 es X.env:=by rfl) (c:(UB pos (W6 es X.env)).any (·.1)=false:=by rfl) :
  PEt n X (.Call (.Name x p) (e::es) [] pos) (ziJ sp [] E0 t):=by
 intro i s u H Q I m h;refine UW (Ze I l D.g ?_ a);refine Tf (h₀:=X.base) I.ok.mod.kin D.F.kp (thn (j pos i s u H _ I m h) λy s1 ⟨z,v,d,r,q⟩=>⟨d.kIn,?_⟩) he c;exact zk3 F (o.mono hk) D.b .nil zoL d r q
end
section
variable {X:Cx}{tg iter elt:Expr}{ifs:List Expr}{scope:UN}{pos:Pos}{N:AD}{src:List (Option Nat)}{cl:List (Str×Addr)}{wi:TI}{g:TG}{tc:TT}{te:TE}
def zlN {n0:Nat}(ok:yk X N src scope cl)(G:X.calm=true)(hi:PI X tg iter wi)
  (hg:∀C fp l s H,PG (qA X N scope cl C fp l s H) tg g) (hc:∀C fp l s H,za9 (qA X N scope cl C fp l s H) ifs tc) (he:∀C fp l s H,PEt n0 (qA X N scope cl C fp l s H) elt te)
  (hs:∀x,We iter X.env x=pure x:=by intro _;rfl):PEt n0 X (.ListComp elt [⟨tg,iter,ifs,0⟩] scope pos) (zar wi src g tc te):=by
 intro l s σ H Q I z0 h;rw[eval_ListComp];refine Tr (use:=none) rfl hs ok.clos ok.kind ok.names (Qd z0 (hi l s σ H _ I h) λxv s1 h1 z1=>Qd z1 h1 λav a h2 z2=>?_);revert h2;refine gp λit fp tn J D e I2 T ai Y q2=>?_;subst e;refine VM (OY ok.nocell (by intro y hy;simp at hy) (λB q f=>?_) ok.kind);dsimp only at q f ⊢;generalize hP:a.heap.push { cls:=.type "list",dict:=none,data:=.seq ([]:List X9).toArray }=v at q f ⊢;have hC:v.objs.size=a.heap.objs.size+1:=by rw[<- hP,Vg]
 have k:∀b u,a.heap.get? b=some u->B.get? b=some u:=λb u e=>by
  have lt:=XB e;exact(f.2 b (by rw[hC];exact Xj (WI lt))).trans (XY _ (hP ▸ XY _ e))
 have hD:B.get? a.heap.objs.size=some { cls:=.type "list",data:=.seq #[] }:=(f.2 _ (by rw[hC];exact(Vr _).symm)).trans (XY _ (hP ▸ Xg _ rfl));have ho:∀b∈fp,∃o,a.heap.get? b=some o:=λb j=>let ⟨o,e,_⟩:=T.obj 0 _ ai b j;⟨o,e⟩
 obtain⟨W,⟨m0,w0⟩,al⟩:=q2 a.heap.objs.size (I2.hok.fresh (XW _));have I0:=zcs (tk:=a.toks+([]:List (Str×X9)).length) ok I2 Y ho hC k hD q;have ah:tn 0 B:=T.keep 0 _ _ ai λb _ o e=>k b o e;have an:∀b∈fp,upd D a.heap.objs.size (.lst []) b=none:=λb j=>by
  obtain⟨o,e⟩:=ho b j;rw[zp (Xj (XB e))];exact(Y b j).1
 have L:∀{E:Hp},(∀b∈fp,E b=none)->∀b∈fp,YU (qA X N scope cl v.objs.size fp l a D) [] E b:=λ{E} hn b j=>by
  obtain⟨o,e⟩:=ho b j;have lt:=XB e;refine dZ (hn b j) ?_ (λz=>(XI.mp (I2.stkSub b z)).elim (Y b j).2.1 (Y b j).2.2.1) (.inl j) (λx c z=>(Y b j).2.2.2.2.1 x c (ok.sub x c z)) (λp hp=>?_)
  .show b≠v.objs.size;rw[hC];exact Xj (WI lt)
  .have ar:p∈X.pn++l:=by
    have:p∈(X.pn++l)++[]:=hp;simpa using this
   exact(Y b j).2.2.2.2.2 p ar
 have ac:∀M:X7,M={ a with heap:=B,toks:=a.toks+([]:List (Str×X9)).length } ->
   Um (Xx X.prog X.w) X.A (.compLoop (.ListComp elt [⟨tg,iter,ifs,0⟩] scope pos) 0 (.ref it) (.ref a.heap.objs.size) (Pb scope cl v.objs.size X.env))
    (compPost (Xx X.prog X.w) X.A X.xe none (EP X l σ Q) (.ref a.heap.objs.size) v.objs.size) M:=by
  rintro M rfl;refine codeAny_loop rfl (λn s'=>∃i O E,Inv (qA X N scope cl v.objs.size fp l a D) [] O E s'/\tn i s'.heap/\(∀b∈fp,E b=none)/\W i n O E/\n0<=s'.toks) ?_ m0 (dP 0 _ _ I0 ah an w0 (X6 z2 (Vq _ _)));refine λn s3=>fV λi aa H3 I3 aj af w3 z3=>?_;show Xu _ X.A ((compTurn (.ListComp elt [⟨tg,iter,ifs,0⟩] scope pos) 0 (.ref it) (.ref a.heap.objs.size) (Pb scope cl v.objs.size X.env)).onRaise (λx=>do noteFrame x (Pb scope cl v.objs.size X.env);theTreesLotGoes x)) _ _ s3;refine wpAny_noted ?_;rw[compTurn_list];rcases al i n aa H3 w3 with ⟨ak,qn⟩ | ⟨go,N',hN,step⟩
  .refine Y1 (So (Y1 (thn (T.done (qA X N scope cl v.objs.size fp l a D) rfl rfl rfl G i [] s3 aa H3 _ I3 (L af) aj ak) λr s4 ⟨hr,I4⟩=>?_)));subst hr;refine XR ?_;refine fJ (λm hm _=>?_) I4.loc;refine⟨m,hm,λh' sb=>⟨.ref a.heap.objs.size,H3,?_,rfl,qn⟩⟩;have un:Un (frs X.stack) fp D H3 a.heap h':=Un.but I4.base (by show a.heap.objs.size<=v.objs.size;rw[hC];exact Wb _) sb;have aq:HOk X.prog X.w H3 h':=HOk.but I4.hok I4.free sb;exact I2.call' (s':={ s4 with heap:=h' }) (ch:=fp) I4.os un aq I4.bare λb j=>⟨(Y b j).2.2.2.1,(Y b j).2.1,(Y b j).2.2.2.2.1,(Y b j).2.2.2.2.2⟩
  .refine Y1 (So (Y1 (Qd z3 (T.item (qA X N scope cl v.objs.size fp l a D) rfl rfl rfl G i [] s3 aa H3 _ I3 (L af) aj go) λr s4 ⟨u,hr,h4⟩ z4=>?_)));subst hr;dsimp only;refine Y1 (Qd z4 h4 λ_ s5 ⟨x,H5,I5,r5,y5,ae,ao⟩ z5=>?_);have am:=I5.pinned (L ao) (T.obj _ _ ae);refine Y1 (up z5 (WA (hg v.objs.size fp l a D _ s5 aa H5 x u _ am r5 (step x H5 y5)) (λ_ s6 ⟨ab,H6,I6,q6⟩ z6=>?_) λ_ _ z=>Wy z));have Ry:∀{s7:X7} {U:St} {H7:Hp},Inv (qA X N scope cl v.objs.size fp l a D) ([]++Q0 fp s5.heap) U H7 s7->N' U H7->n0<=s7.toks->∃m,m<n/\∃i O E,Inv (qA X N scope cl v.objs.size fp l a D) [] O E s7/\tn i s7.heap/\(∀b∈fp,E b=none)/\W i m O E/\n0<=s7.toks:=λ{s7 U H7} I7 n7 z7=>by
    obtain⟨m',hm,w7⟩:=hN U H7 n7;refine dJ m' hm (dP (i+1) U H7 I7.unpinned (T.keep _ _ _ ae λb j o e=>(I7.pin (b,o) (Xl _ (Xl _ (jT j e)))).1) (λb j=>?_) w7 z7);obtain⟨o,e,d⟩:=T.obj _ _ ae b j;exact(I7.pin (b,o) (Xl _ (Xl _ (jT j e)))).2.1
   refine Y1 (up z6 (WA (hc v.objs.size fp l a D _ s6 ab H6 _ I6 q6) (λb s7 ⟨H7,I7,q7⟩ z7=>?_) λ_ _ z=>Wy z));cases b with
   | false =>
    rw[bq XS]at q7;exact XR ⟨rfl,Ry I7 q7 z7⟩
   | true =>
    rw[bw rfl]at q7;refine Y1 (Y1 (up z7 (WA (he v.objs.size fp l a D _ s7 ab H7 _ I7 z7 q7) (λy s8 ⟨v8,H8,I8,r8,ys,au,ag,q8⟩ z8=>?_) λ_ _ z=>Wy z)));refine Y1 (up z8 (WA (za8 (X:=qA X N scope cl v.objs.size fp l a D) _ s8 ab H8 (.ref a.heap.objs.size) [v8] (.ref a.heap.objs.size) [y] (λ_ H9=>N' ab H9) I8 rfl (.cons r8 .nil) (dP _ ys v8 rfl rfl au ag q8)) (λ_ s9 ⟨v9,H9,I9,_,q9⟩ z9=>?_) λ_ _ z=>Wy z));exact XR (XR ⟨rfl,Ry I9 q9 z9⟩)
 exact Pw (ac _ rfl) (T.self _ 0 _ _ _ ah (ac _ rfl))
end
def zru (b:TE)(y z:Str):TE:=fun c H Q=>b c H λx a=>∃t:Str,x=.str t/\t.length<=1000000/\Q (.str (UL t y z)) a
def zi3 {X:Cx}{n0:Nat}{o:Expr}{B:TE}{g y z:Str}{l c b j:Pos}{i:Nat}{n:Tok}(M:X.mg g=some (.str y n))(h1:n≠0)(h2:n<n0)(N:PEt n0 X o B)(v:(y==z)=false:=by decide+kernel)(T:z.length<=14:=by decide+kernel)(L:Gl X g:=by rfl)(r:(g==("__debug__":Str))=false:=by decide)
  (d:Ow o "replace" X.env (eval o X.env)=eval o X.env:=by rfl)
  (m:((UB b (W6 [.Name g l,.Constant (.str z) i j] X.env)).all (λx=>!x.1)&&(backToKw b (N5 [] X.env)).all (λx=>x.1.isSome)
   && decide (([.Name g l,.Constant (.str z) i j]:List Expr).length+([]:List OM).length+(if ([]:List OM).isEmpty then 0 else 1)<30))=true:=by rfl)
  (f:(c.endLine==b.line)=true:=by rfl) :
  PEt n0 X (.Call (.Attribute o "replace" c) [.Name g l,.Constant (.str z) i j] [] b) (zru B y z):=by
 intro E s σ H Q I A h;refine Px d m f rfl (Qd A (N E s σ H _ I A h) λu s1 ⟨x,D,w,Y,U⟩ p=>?_);revert U;refine fP λt z0 ht q=>?_;subst z0;obtain⟨tk,rfl⟩:=Y;refine eB "str" "str.replace" F.plainAttrs_str F.slot_str_replace F.type_str_replace (typeIs_str _ _ _) (λa e=>by cases e) ?_;have O:W6 [.Name g l,.Constant (.str z) i j] X.env=[(false,eval (.Name g l) X.env),(false,eval (.Constant (.str z) i j) X.env)]:=rfl;rw[O];refine SR rfl (TY ?_);show Xu _ _ (Ol ((false,eval (.Name g l) X.env)::UB b [(false,eval (.Constant (.str z) i j) X.env)])) _ _ s1;refine UX (Ze w L M ?_ r);show Xu _ _ (Ol ((false,eval (.Constant (.str z) i j) X.env)::UB b [])) _ _ _;refine UX (Calls.Constant_str ?_);refine Rt ?_;have G:s1.toks≠0:=λe=>by rw[e]at p;exact Uc _ (Xn h2 p)
 have J:n≠s1.toks:=λe=>by rw[<- e]at p;exact VU _ (Xn h2 p)
 exact PySem.SC.replaceW h1 G J v (by lia) T λt' k=>⟨.str _,D,w.tok k,⟨_,rfl⟩,q⟩
def zlO {n0:Nat}{CX:CXT}{P:Xs}{w:Xd}{K:XZ}{L:Str->Option X9}{base:Heap}{k:Nat}{f:Addr}{name d:Str}{h:N7}{i:List Stmt}{a:UN}{dV kV doc pm g ct oc:X9}{an od:Option Addr}
  {U:Array (Option X9)} {N ps:AD} {sp:Sp} (lk:K.lookup f=some ⟨oc,od,.func (V8 name d h i a dV kV doc pm an g ct),U⟩) (M:Vj K g d=true) (S:zz N ps a)
  (len:∀vs H Q E,sp vs H Q E->vs.length=ps.length)
  (m:∀(A:WY) (c:List Env) (s:X7) (H:Hp) (vs:AE) (Q:VK) (E:XK),Jd k (A.deeper (RZ d a s.heap.objs.size f g))->sp vs H Q E ->
   ∃t,zaC n0 (zbW CX P w K L base N d a f g A c s H E) i t/\t { nx:=λ_ l=>Q .non l,rt:=Q } (start N vs) H) :
  Jf n0 P w K L base CX (k+1) f (V8 name d h i a dV kV doc pm an g ct) ps sp:=by
 refine⟨len,λA c s H aa us vs Q E z0 O B hb r G=>?_⟩;have hl:=len _ _ _ _ G;have KX:K.In s.heap:=B.mod.kin.keeps λb o e=>(B.bs b o e).1;have T:s.heap.NoLimit:=B.mod.nolimit.keeps λb o e=>(B.bs b o e).1;have p:∀y∈ps.zip us,a.names.lookup y.1=some .local\/(a.names.lookup y.1=some .cell/\((SA (s.heap.objs.size+1) a.names []).lookup y.1).isSome=true):=λ⟨n,v⟩ hy=>by
  rcases S.par n (Sb hy).1 with q | q
  .exact .inl q
  .exact .inr ⟨q,SS _ _ _ (.inl q)⟩
 refine Pj O.depth (KX _ _ lk) rfl S.co S.gen rfl (PySem.W.codeRec_of KX M) (hb _ _ _ _ ?_);refine up z0 (RM S.kind p λab he s1 x z1=>?_);subst he;refine⟨T.keeps x.toInCall.keep,codeAny_func ?_⟩;refine fJ (λt ht hq=>?_) (m A c s H vs Q E (O.deeper _) G);have I:Inv (zbW CX P w K L base N d a f g A c s H E) [] (start N vs) H s1:=zdY S O.hd B hl r x;refine WA (ht [] s1 (start N vs) H _ I z1 hq) (λfl s' z=>?_) λe s' z=>z;have D:∀{j:St} {l:Hp} {v:V} {u:X9},Inv (zbW CX P w K L base N d a f g A c s H E) [] j l s'->RelV v u->Q v l->CE c P w H s Q u s' :=
  λ{j l v u} J Y q=>(eB v l J.os J.bare J.base J.hok Y q)
 cases fl with
 | ret u =>
  revert z;refine gi λv j l J Y q=>?_;exact D J Y q
 | next =>
  obtain⟨j,l,J,q⟩:=z;exact D (v:=V.non) (u:=Ul) J rfl q
 | brk =>
  obtain⟨_,_,_,q⟩:=z;exact Wy q
 | cont =>
  obtain⟨_,_,_,q⟩:=z;exact Wy q
def zkl {n0:Nat}{P:Xs}{w:Xd}{K:XZ}{N mb:Str->Option X9}{CX:CXT}{k:Nat}{Y a:Addr}{fd:XH}{x:Str}{sp:Sp}{c:X7}{vs:List X9}{O:List Int}
  (z0:n0<=c.toks) (KX:K.In c.heap) (I:c.heap.Ns XV N) (g:c.heap.Ns RY mb) (ab:∀x:Str,x ≠ "__name__"->mb x=U4 x) (G:c.heap.NoLimit) (hg:c.gens=#[])
  (T:c.heap.get? a=some { cls:=.type "list",data:=.seq vs.toArray }) (hi:OL vs O) (hl:O.length<=Xz) (hr:Jd k S7)
  (F:∀i:Heap,K.In i->i.Ns XV N->Jf n0 P w K N i CX k Y fd [x] sp) (y:∀(s:X7) (u:X9),ON s fd ⟨[u],[]⟩ [(x,u)])
  (ac:∀H:Hp,zpF H->SqL K H a (O.map V.int)->sp [.ref a] H (λv _=>v=.bl true) λ_ _ _=>False)
  (aa:∀H e j,CX [] H c (λ_ _ _=>False) e j->False) :
  Um (Xx P w) S7 (.call (.ref Y) ⟨[.ref a],[]⟩) (λr j=>r=.ok (.ret (.bool true))/\OldK c.heap j.heap/\j.os=c.os/\Ss j.gens) c:=by
 have rv:=zdZ hi;have M:=hi.length;have p:∀H:Hp,zpF H->SqL K H a (O.map V.int)->HOk P w H c.heap->(∀b,H b≠none->b=a)->(H a≠none->K.lookup a=none) ->
   Um (Xx P w) S7 (.call (.ref Y) ⟨[.ref a],[]⟩) (λr j=>r=.ok (.ret (.bool true))/\OldK c.heap j.heap/\j.os=c.os/\Ss j.gens) c:=by
  intro H hO hS J hA hK;have f:∀{b:Addr} {o:Obj},c.heap.get? b=some o->H b=none->(QF c.heap H).get? b=some o:=λe n=>zkV e n;have ae:∀{b:Addr} {o:Obj} {D:Array Qr} {B:Nat},c.heap.get? b=some o->o.data=.dict D B->H b=none:=λ{b o D B} e d=>by
   cases q:H b with
   | none=>rfl
   | some u =>
    have U:b=a:=hA b (by rw[q];simp);subst U;rw[T]at e;cases e;have d':Data.seq vs.toArray _=Data.dict D B:=d;cases d'
  have l:∀{b:Addr} {m:Str->Option X9},c.heap.Ns b m->(QF c.heap H).Ns b m:=λ{b m} ⟨o,D,B,e,d,r⟩=>⟨o,D,B,f e (ae e d),d,r⟩;have E:K.In (QF c.heap H):=λb o e=>f (KX b o e) (by
   cases q:H b with
   | none=>rfl
   | some u =>
    have U:b=a:=hA b (by rw[q];simp);subst U;rw[hK (by rw[q];simp)]at e;cases e)
  have hM:Mod K N (QF c.heap H):=⟨E,l I,⟨mb,l g,ab⟩,let ⟨mc,h1,h2⟩:=G;⟨mc,l h1,h2⟩⟩;have e0:zk2 P w K N (QF c.heap H) S7 [] c H:=⟨rfl,hM,λb o e=>zne e,Nat.le_of_eq (zjH _ _),trivial,λb g=>absurd (show b∈([]:List Addr) from g) (by simp),J,.of_eq hg⟩;refine TR ((F _ E (l I)).run S7 [] c H ⟨[.ref a],[]⟩ [.ref a] [.ref a] _ _ z0 hr e0 (y c (.ref a)) (.cons rfl .nil) (ac H hO hS)) λr j h=>?_;cases r with
  | error e=>exact(aa H e j h).elim
  | ok fl =>
   cases fl with
   | next=>exact Wy h
   | brk=>exact Wy h
   | cont=>exact Wy h
   | ret u =>
    revert h;refine gb λv H' os A un L r' q=>?_;have q':v=.bl true:=q;subst q';obtain rfl:u=Value.bool true:=r';refine⟨rfl,OldK.of_keep λb o e=>?_,os,A⟩;cases q:H b with
    | none=>exact un.keep b o e q (by intro z;exact absurd (show b∈([]:List Addr) from z) (by simp)) (by simp)
    | some u =>
     rcases hO b with z | ⟨ob,xs,z⟩
     .rw[q]at z;cases z
     .have z2:=un.frzs b ob _ z;obtain⟨e1,_⟩:=J b _ z;obtain⟨e2,_⟩:=L b _ z2;rw[e]at e1;cases e1;exact e2
 cases hk:K.lookup a with
 | some o =>
  have e:=KX a o hk;rw[T]at e;cases e;refine p (λ_=>none) (λ_=>.inl rfl) (.inr ⟨_,vs.toArray,_,hk,rfl,rfl,rfl,by rw[Xq,M];exact hl,by simpa using rv⟩) (λb u z=>by have Q:(none:Option HO)=some u:=z;cases Q) (λb z=>absurd rfl z) λz=>absurd rfl z
 | none =>
  refine p (λb=>if b=a then some (.frz { cls:=.type "list",data:=.seq vs.toArray } (.lst (O.map V.int))) else none) (λb=>?_) (.inl (.inr ⟨{ cls:=.type "list",data:=.seq vs.toArray },bw rfl⟩)) (λb u z=>?_) (λb z=>?_) λ_=>hk
  .by_cases g:b=a
   .exact .inr ⟨_,_,bw g⟩
   .exact .inl (bq g)
  .by_cases g:b=a
   .have Q:=(bw g).symm.trans z;cases Q;subst g;exact eE T (by rw[ZB];exact hl) (eW vs _ rv T)
   .have Q:=(bq g).symm.trans z;cases Q
  .by_cases g:b=a
   .exact g
   .exact absurd (bq g) z
open PySem PySem.W PySem.Calls Att PyProof.Rows
abbrev zcj (n0:Nat)(q:Xs)(loose:AD)(XP:(Str->Option X9)->Heap->Prop)(YP:Xd->Heap->Prop)(r:RowW)(d:Oq)(kwd:List (Str×Expr))(run:X9->List X9->Sem X9):Prop :=
 ∀(w:Xd) (s₀ s₁:X7) (mg mb:Str->Option X9),N9 q loose r.records XP w s₀ mg mb s₁.heap->YP w s₁.heap->n0<=s₁.toks->∀(a:Addr) (o:Obj) (pm cd doc dV kV:X9),s₁.heap.get? a=some o ->
  o.data=.func { docDef d.name d.params d.body d.scope pm cd doc with defaults:=dV,kwdefaults:=kV }->s₁.heap.CodeRec cd d.name->Dflts mg s₁.heap d.params kwd dV kV->mg d.name=some (.ref a)->s₁.gens=#[] ->
  ∀(args:List WData) (vals:List X9) (as:List Addr),r.claim.pre args=true->P9 args=true->ReadsAllW r.records (PN s₀.heap) s₁.heap vals args as->WellAll w.params s₁.heap vals args->(∀a∈as,(a==VG)=false) ->
   Xu (Xx r.prog w) S7 (run (.ref a) vals) (λv s'=>NY r.claim (PN s₀.heap) (Tw s₀.heap) args s₁ (.ok (.ret v)) s')
    (λe s'=>NY r.claim (PN s₀.heap) (Tw s₀.heap) args s₁ (.error e) s') s₁
def zfe {n0:Nat}{l:OpenLaw}{n:Nat}{q:Xs}{loose:AD}{XP:(Str->Option X9)->Heap->Prop}{YP:Xd->Heap->Prop}{d:Oq}
  (U:l.most=some n) (v:d.params.defaults=[])
  (call:∀(w:Xd) (c b:X7) (m A:Str->Option X9) (g:Addr) (o:Obj) (B k doc:X9) (a:Addr) (vs:List X9) (p:List Int),
   N9 q loose [] XP w c m A b.heap->YP w b.heap->n0<=b.toks ->
   b.heap.get? g=some o->o.data=.func (docDef d.name d.params d.body d.scope B k doc)->b.heap.CodeRec k d.name->m d.name=some (.ref g) ->
   b.heap.get? a=some { cls:=.type "list",data:=.seq vs.toArray }->OL vs p->p.length<=n->b.gens=#[] ->
   Um (Xx l.prog w) S7 (.call (.ref g) ⟨[.ref a],[]⟩) (λr s=>r=.ok (.ret (.bool true))/\OldK b.heap s.heap/\s.os=b.os/\Ss s.gens) b) :
  zcj n0 q loose XP YP l.row.toRowW d [] (λf vs=>PySem.call f vs):=by
 intro w c b m A G Y z g o B k doc J kV ho N u E x O D I as j H aa y Q;obtain rfl:J=.none:=Dflts.none E v;obtain rfl:kV=.none:=Dflts.noKw E;refine fV (λa vs p z0 z1 i e h=>?_) (zjO U j y);subst z0 z1;refine enter_call (TR (call w c b m A g o B k doc a vs p G Y z ho (fd_plain N) u x i e h O) λr s hq=>?_);obtain⟨rfl,h2,L,M⟩:=hq;exact⟨.inl (dP (.bool true) (.bool true) [] rfl (λ_=>rfl) (.bool true) (zjP l _) (λ_=>⟨List.Pairwise.nil,λ_ T=>(nomatch T)⟩)),h2,L,M⟩
def zlP {n0:Nat}{l:Pl}{n k:Nat}{q:Xs}{loose:AD}{XP:(Str->Option X9)->Heap->Prop}{YP:Xd->Heap->Prop}{d:Oq}{K:N8->XZ}{CX:Xd->CXT}{sp:Xd->Sp}{x:Str}
  (hn:l.most=some n) (I:n<=Xz) (D:d.params.defaults=[]) (hr:Jd k S7)
  (U:∀(w:Xd) (h:Heap),YP w h->(K w.params).In h)
  (F:∀(w:Xd) (j:Str->Option X9) (r:Addr) (h:Heap),(K w.params).In h->h.Ns XV j->j d.name=some (.ref r) ->
   ∃A:XH,(∀(s:X7) (u:X9),ON s A ⟨[u],[]⟩ [(x,u)]) /\
    ∀base:Heap,(K w.params).In base->base.Ns XV j->Jf n0 l.prog w (K w.params) j base (CX w) k r A [x] (sp w))
  (J:∀(w:Xd) (H:Hp) (a:Addr) (y:List Int),y.length<=n->zpF H->SqL (K w.params) H a (y.map V.int)->sp w [.ref a] H (λv _=>v=.bl true) λ_ _ _=>False)
  (B:∀(w:Xd) (H:Hp) (s:X7) (e:X9) (s':X7),CX w [] H s (λ_ _ _=>False) e s'->False) :
  zcj n0 q loose XP YP l.row.toRowW d [] (λf vs=>PySem.call f vs):=by
 refine zfe hn D λw M p j mb r o pm cd doc a vs y G Y z ho hd aa E m i c hg=>?_;have L:=U w _ Y;obtain⟨A,hb,N⟩:=F w j r _ L G.T.g E;exact zkl z L G.T.g G.T.b G.T.builtins G.T.nolimit hg m i (X6 c I) hr N hb (λH O Q=>J w H a y c O Q) λH e s'=>B w H p e s'
def zlQ {X:Cx}{n:Nat}{st:Stmt}{a:List Stmt}{t u:TS}(h1:PSt n X st t)(h2:zaC n X a u):zaC n X (st::a) (zrf t u):=by
 intro c s j H D I d ⟨M,h,i⟩;refine U1 (Qd d (h1 c s j H { D with nx:=M } I d h) λf s1 q z=>?_);cases f with
 | next =>
  obtain⟨b,e,g,q⟩:=q;exact h2 c s1 b e D g z (i _ _ q)
 | ret v=>exact q
 | brk=>exact q
 | cont=>exact q
def Fun.okT {n0:Nat}{P:Xs}{w:Xd}{K:XZ}{j:Str->Option X9}{base:Heap}{x b:Str}{st:Stmt}{f:Addr}{i:XH}{N ps:AD}{k:Nat}{sp:Sp}(F:Fun K x b st f i)(S:zz N ps (zq st))(len:∀vs H Q E,sp vs H Q E->vs.length=ps.length)
  (d:∀(c:X9) (A:WY) (a:List Env) (s:X7) (H:Hp) (vs:AE) (Q:VK) (E:XK),Jd k (A.deeper (RZ b (zq st) s.heap.objs.size f c))->sp vs H Q E ->
   ∃t,zaC n0 (zbW CX0 P w K j base N b (zq st) f c A a s H E).nox (jq st) t/\t { nx:=λ_ l=>Q .non l,rt:=Q } (start N vs) H):Jf n0 P w K j base CX0 (k+1) f i ps sp:=by
 refine fQ (λu v kV doc y p c r=>fP λo z0 n e=>?_) F.ex;subst z0;refine zlO n e S len λA a s H vs Q E m g=>?_;obtain⟨t,h,q⟩:=d c A a s H vs Q E m g;exact⟨t,h.nox,q⟩
section
variable {X:Cx}{tg iter elt:Expr}{ifs:List Expr}{scope:UN}{pos:Pos}{N:AD}{src:List (Option Nat)}{cl:List (Str×Addr)}{wi:TI}{g:TG}{tc:TT}{te:TE}
def cP (a:scope.kind=.function:=by rfl)(b:∀y∈scope.names,y.2 ≠ .cell:=by decide+kernel)(c:∀y∈scope.names,y.2 ≠ .free:=by decide+kernel)(d:∀y∈scope.names,y.2=.local->scope.names.lookup y.1=some .local:=by decide+kernel)(e:src.length=N.length:=by rfl)(f:∀o∈src,o=none:=by decide):yk X N src scope []:=yk.plain a b c d e f
def cR (a:scope.kind=.function:=by rfl)(b:∀y∈scope.names,y.2 ≠ .cell:=by decide+kernel)(c:∀y∈scope.names,y.2=.local->scope.names.lookup y.1=some .local:=by decide+kernel)(d:(scope.names.all λy=>y.2 != .free || (X.env.cells.lookup y.1).isSome)=true:=by kernel_rfl)(e:src.length=N.length:=by rfl)
  (f:((N.zip src).all λq=>match q.2 with | none=>true | some j=>X.N[j]?==some q.1&&X.env.kindOf q.1==some .cell&&(UF scope X.env).names.lookup q.1==some .cell)=true:=by kernel_rfl):yk X N src scope (zas (λx=>X.env.cells.lookup x) scope.names []):=yk.byRfl a b c d e f
def c1 {y:Str}(a:scope.kind=.function:=by rfl)(i:∀n g,SA n scope.names g=(y,n)::g:=by intro _ _;rfl)(k:∀h,N6 h scope.names=h.push { cls:=.type "cell",data:=.cell none }:=by intro _;rfl)(b:∀z∈scope.names,z.2=.cell->z.1=y:=by decide+kernel)(c:∀y∈scope.names,y.2=.local->scope.names.lookup y.1=some .local:=by decide+kernel)
  (d:(scope.names.all λy=>y.2 != .free || (X.env.cells.lookup y.1).isSome)=true:=by kernel_rfl) (e:src.length=N.length:=by rfl) (f:((N.zip src).all λq=>match q.2 with | none=>true | some j=>X.N[j]?==some q.1&&X.env.kindOf q.1==some .cell&&(UF scope X.env).names.lookup q.1==some .cell&&q.1 != y)=true:=by kernel_rfl):xQ X N src scope (zas (λx=>X.env.cells.lookup x) scope.names []) y:=xQ.byRfl a i k b c d e f
def pgN (i:Nat){x:Str}(h:decide X.N.Nodup=true:=by kernel_rfl)(b:X.N[i]?=some x:=by rfl)(c:Loc X.env.scope x:=by first | exact V4 rfl | exact PP rfl)(a:X.fn x=true\/X.env.scope.names.lookup x=some .local:=by first | exact .inl rfl | exact .inr rfl):PG X (.Name x pos) (xo i):=zeI (bg h) b c a
def pgq (i:Nat){x:Str}(h:X.N.Nodup)(b:X.N[i]?=some x:=by rfl)(c:Loc X.env.scope x:=by first | exact V4 rfl | exact PP rfl)(a:X.fn x=true\/X.env.scope.names.lookup x=some .local:=by first | exact .inl rfl | exact .inr rfl):PG X (.Name x pos) (xo i):=zeI h b c a
def qz (i:Nat){x:Str}{e:Expr}{te:TE}{a:Pos}(b:X.N.Nodup)(he:PE X e te)(d:X.N[i]?=some x:=by rfl)(g:Loc X.env.scope x:=by first | exact V4 rfl | exact PP rfl)(f:Ta e (some (.Name x a)) pos.line X.env=pure false:=by rfl)(c:X.fn x=true\/X.env.scope.names.lookup x=some .local:=by first | exact .inl rfl | exact .inr rfl):PS X (.Assign [.Name x a] e pos) (zjI te (xo i)):=qG b d g he f c
def pcm (N:AD)(src:List (Option Nat))(ok:yk X N src scope cl)(e:PI X tg iter wi)(d:∀{C fp b s H},PG (qA X N scope cl C fp b s H) tg g)(c:∀{C fp b s H},za9 (qA X N scope cl C fp b s H) ifs tc)(he:∀{C fp b s H},PE (qA X N scope cl C fp b s H) elt te)
  (a:X.calm=true:=by rfl) (f:∀x,We iter X.env x=pure x:=by intro _;rfl):PE X (.ListComp elt [⟨tg,iter,ifs,0⟩] scope pos) (zar wi src g tc te):=znr ok a e (λ_ _ _ _ _=>d) (λ_ _ _ _ _=>c) (λ_ _ _ _ _=>he) f
def zsp {y:Str}(N:AD)(src:List (Option Nat))(ok:xQ X N src scope cl y)(e:PI X tg iter wi)(d:∀{C fp b s H},PG (yY X N scope cl y C fp b s H) tg g)(c:∀{C fp b s H},za9 (yY X N scope cl y C fp b s H) ifs tc)(he:∀{C fp b s H},PE (yY X N scope cl y C fp b s H) elt te)
  (a:X.calm=true:=by rfl) (f:∀x,We iter X.env x=pure x:=by intro _;rfl):PE X (.ListComp elt [⟨tg,iter,ifs,0⟩] scope pos) (zar wi src g tc te):=zlf ok a e (λ_ _ _ _ _=>d) (λ_ _ _ _ _=>c) (λ_ _ _ _ _=>he) f
def psC (i:Nat){x:Str}{b a:Pos}(j:X.N.Nodup)(N:AD)(src:List (Option Nat))(ok:yk X N src scope cl)(m:PI X tg iter wi)(l:∀{C fp d s H},PG (qA X N scope cl C fp d s H) tg g)(k:∀{C fp d s H},za9 (qA X N scope cl C fp d s H) ifs tc)(he:∀{C fp d s H},PE (qA X N scope cl C fp d s H) elt te)
  (e:X.N[i]?=some x:=by rfl) (f:X.env.scope.names.lookup x=some .local:=by rfl) (c:X.calm=true:=by rfl) (n:∀x,We iter X.env x=pure x:=by intro _;rfl) (h:Ta (.ListComp elt [⟨tg,iter,ifs,0⟩] scope pos) (some (.Name x b)) a.line X.env=pure true:=by rfl) :
  PS X (.Assign [.Name x b] (.ListComp elt [⟨tg,iter,ifs,0⟩] scope pos) a) (zjI (zar wi src g tc te) (xo i)):=znw j e f ok c m (λ_ _ _ _ _=>l) (λ_ _ _ _ _=>k) (λ_ _ _ _ _=>he) n h
end
section
variable {X:Cx}{e:Expr}{te:TE}{x:Str}{p pos:Pos}{id T:String}{r:AE->Hp->VK->Prop}
def pb1 (b:ju X (.builtin id) r)(d:X.mg x=none)(g:U4 x=some (.builtin id))(he:PE X e te)(c:Gl X x:=by rfl)(f:x ≠ "__name__":=by decide)(a:(x==("__debug__":Str))=false:=by decide)(h1:W6 [e] X.env=(false,eval e X.env)::W6 [] X.env:=by rfl):PE X (.Call (.Name x p) [e] [] pos) (tCB r (zco te zk1)):=YZ b c d g (za he zd h1) f a h1 rfl
def pb2 {a:Expr}{d:TE}(f:ju X (.builtin id) r)(h:X.mg x=none)(j:U4 x=some (.builtin id))(he:PE X e te)(h2:PE X a d)(g:Gl X x:=by rfl)(i:x ≠ "__name__":=by decide)(b:(x==("__debug__":Str))=false:=by decide)(h1:W6 [e,a] X.env=(false,eval e X.env)::W6 [a] X.env:=by rfl)(c:W6 [a] X.env=(false,eval a X.env)::W6 [] X.env:=by rfl):PE X (.Call (.Name x p) [e,a] [] pos) (tCB r (zco te (zco d zk1))):=YZ f g h j (za he (za h2 zd c) h1) i b h1 (by rw[c];rfl)
def pt1 (b:ju X (.type T) r)(d:X.mg x=none)(g:U4 x=some (.type T))(he:PE X e te)(c:Gl X x:=by rfl)(f:x ≠ "__name__":=by decide)(a:(x==("__debug__":Str))=false:=by decide)(h1:W6 [e] X.env=(false,eval e X.env)::W6 [] X.env:=by rfl):PE X (.Call (.Name x p) [e] [] pos) (tCB r (zco te zk1)):=zjN b c d g (za he zd h1) f a h1 rfl
def pgx {K:XZ}{C:Addr}(O:qO K X.mg x C)(b:Gl X x:=by rfl)(a:(x==("__debug__":Str))=false:=by decide):PE X (.Name x pos) (tC (.ref C)):=jf b O.g rfl a
def prg {c:Expr}(a:X.mg "range"=none)(he:PE X e te)(b:Gl X "range":=by rfl)(h1:W6 [e] X.env=(false,eval e X.env)::W6 [] X.env:=by rfl):PI X c (.Call (.Name "range" p) [e] [] pos) (zoI (zco te zk1)):=zjK b a (za he zd h1) h1
end
def zkm {X:Cx}{pos:Pos}{n:Nat}{c:Expr}{e:List Stmt}{T:TT}{Q:TS}(L:OI (Xx X.prog X.w) X.A X.env X.xe)(hc:PT X c T)(Y:zaC n X e Q):PSt n X (.While c e [] pos) (zkY T Q):=by
 intro q s σ H D I hn h;obtain⟨W,⟨m0,w0⟩,j⟩:=h;refine wpAny_While (codeAny_whileLoop (λk O=>∃ l z,Inv X q l z O/\n<=O.toks/\W k l z) ?_ m0 ⟨σ,H,I,hn,w0⟩);refine λk s1=>fK λd B U n1 w1=>?_;refine Wr L (Qd n1 (hc q s1 d B _ U (j k d B w1)) λb s2 ⟨E,G,m⟩ M=>?_);cases b with
 | true =>
  revert m;refine fJ λN J m=>?_;rw[bw rfl];refine Wr L (Qd M (Y q s2 d E _ G M m) λf s3 o i=>?_);cases f with
  | next =>
   revert o;refine fL λa g p x=>?_;obtain⟨u,r,y⟩:=J a g x;exact⟨u,r,a,g,p,i,y⟩
  | cont =>
   revert o;refine fL λa g p x=>?_;obtain⟨u,r,y⟩:=J a g x;exact⟨u,r,a,g,p,i,y⟩
  | brk=>exact o
  | ret v=>exact o
 | false =>
  rw[bq XS];exact Vv ⟨d,E,G,m⟩
structure zp6 (K:XZ)(x:Str)(st:Stmt)(f:Addr)(fd:XH):Prop where
 ex:∃(oc dv:X9) (od:Option Addr) (kV doc pm:X9) (an:Option Addr) (cdv ct:X9) (osl:Array (Option X9)),fd=V8 x x (j8 st) (jq st) (zq st) dv kV doc pm an cdv ct/\K.lookup f=some ⟨oc,od,.func fd,osl⟩/\Vj K cdv x=true
 kp:Vi K (.ref f)=true
structure zff (K:XZ)(mg:Str->Option X9)(x:Str)(st:Stmt)(ps:AD)(v:Str)(f:Addr)(fd:XH):Prop where
 F:zp6 K x st f fd
 g:mg x=some (.ref f)
 b:Binds K fd ps []
 b1:∃t:Tok,Binds K fd ps [.str v t]
def zcd (K:XZ)(x:Str)(st:Stmt)(v:Str):Prop:=∃(f c:Addr) (h:X9) (i d:Option Addr) (k:Array (Option X9)) (kV g j a e:X9) (b:Obj) (n:Nat) (t:Tok),XQ K XV x=some (some (.ref f)) /\
 K.lookup f=some ⟨h,i,.func (V8 x x (j8 st) (jq st) (zq st) (.ref c) kV g j d a e),k⟩/\Vj K a x=true/\Vi K (.ref f)=true/\K.lookup c=some b/\b.data=.seq #[.str v t] n
theorem zcd.at {K:XZ}{h:Heap}{u:Str->Option X9}{x v:Str}{st:Stmt}{ps:AD}(H:zcd K x st v)(X:K.In h)(G:h.Ns XV u)
  (y:∀(d:Addr) (kV doc j:X9) (e:Option Addr) (g i:X9) (t:Tok) (b:List X9),b.length=ps.length->∃k:Option (Array X9)->Sem (List (Str×X9)),Oh (V8 x x (j8 st) (jq st) (zq st) (.ref d) kV doc j e g i) ⟨b,[]⟩=(seqItems? (.ref d) >>= k)/\k (some #[.str v t])=pure (ps.zip b))
  (q:∀(d:Addr) (kV doc j:X9) (e:Option Addr) (g i:X9) (t:Tok) (b:List X9),b.length+1=ps.length->∃k:Option (Array X9)->Sem (List (Str×X9)),Oh (V8 x x (j8 st) (jq st) (zq st) (.ref d) kV doc j e g i) ⟨b,[]⟩=(seqItems? (.ref d) >>= k)/\k (some #[.str v t])=pure (ps.zip (b++[.str v t]))) :
  ∃f w,zff K u x st ps v f w:=by
 revert H;refine fQ λf d z A e B kV p=>fM λj o i D=>gb λn t a l c k lt r=>?_;refine⟨f,_,⟨(fh z _ A kV p j e o (dM i B rfl l c)),k⟩,WW X G a,λs b Y m=>?_,t,λs b Y m=>?_⟩
 .rw[WV]at m ⊢;obtain⟨k,h1,h2⟩:=y d kV p j e o i t b m;exact OB rfl (Y _ _ lt) r h1 h2
 .rw[XX]at m;obtain⟨k,h1,h2⟩:=q d kV p j e o i t b m;exact OB rfl (Y _ _ lt) r h1 h2
def zp6.okXT {n0:Nat}{P:Xs}{w:Xd}{K:XZ}{h:Str->Option X9}{base:Heap}{x:Str}{st:Stmt}{f:Addr}{g:XH}{N ps:AD}{k:Nat}{sp:Sp}(F:zp6 K x st f g)(S:zz N ps (zq st))(len:∀vs H Q E,sp vs H Q E->vs.length=ps.length)
  (c:∀(b:X9) (A:WY) (a:List Env) (s:X7) (H:Hp) (vs:AE) (Q:VK) (E:XK),Jd k (A.deeper (RZ x (zq st) s.heap.objs.size f b))->sp vs H Q E ->
   ∃t,zaC n0 (zbW (CXE P w) P w K h base N x (zq st) f b A a s H E) (jq st) t/\t { nx:=λ_ i=>Q .non i,rt:=Q } (start N vs) H):Jf n0 P w K h base (CXE P w) (k+1) f g ps sp:=by
 refine fQ (λq p r kV doc u n b=>fK λo m z0 l d=>?_) F.ex;subst z0;exact zlO l d S len λA a s H vs Q E j e=>c b A a s H vs Q E j e
section
variable {X:Cx}{n:Nat}{t u:TS}{pos:Pos}
def znP {a e:Expr}{c:TE}{g:TG}(he:PEt n X e c)(j:PG X a g)(l:swapsWithSole [a] e pos.line X.env=pure false:=by rfl)(m:swappedStores [a] e X.env=pure none:=by rfl)
  (h1:(Tj [a] X.env).map (·.2)=[assign a X.env]:=by rfl):PSt n X (.Assign [a] e pos) (zjI c g):=by
 intro b s d H D I k h;refine wpAny_Assign_stores (thn (he b s d H _ I k h) λv s1 ⟨x,f,i,p,o⟩=>?_) l m;rw[h1];exact thn (j b s1 d f x v _ i p o) λ_ r q=>q
def znQ {n0:Nat}{tg:Expr}{l:Expr}{B:List Stmt}{wi:TI}{g:TG}{tb:TS}{pos:Pos}(Q:OI (Xx X.prog X.w) X.A X.env X.xe)(hc:X.calm=true)(hi:PI X tg l wi)(hg:PG X tg g)(k:zaC n0 X B tb)
  (hs:∀x,We l X.env x=pure x:=by intro _;rfl):PSt n0 X (.For tg l B [] pos) (zq3 wi g tb):=by
 intro G s σ H D I af h;refine wpAny_For (Qd af (hi G s σ H _ I h) λv s1 h1 z1=>Qd z1 h1 λai s2 h2 z2=>?_) hs;obtain⟨it,M,tn,J,H2,e,I2,T,ag,f2,W,⟨m0,w0⟩,ab⟩:=h2;subst e;have p:∀{z:Hp},(∀b∈M,z b=none)->∀b∈M,YU X G z b:=λhn b k=>⟨hn b k,(f2 b k).2⟩;refine OH (λn s'=>∃i q z,Inv X G q z s'/\tn i s'.heap/\(∀b∈M,z b=none)/\W i n q z/\n0<=s'.toks) ?_ m0 (dP 0 σ H2 I2 ag (λb k=>(f2 b k).1) w0 z2);refine λn s3=>fV λi y H3 I3 Y O w3 z3=>?_;rcases ab i n y H3 w3 with ⟨aa,qn⟩ | ⟨go,N,hN,step⟩
 .refine Wr Q (thn (T.done X rfl rfl rfl hc i G s3 y H3 X.xe I3 (p O) Y aa) λr s4 ⟨hr,I4⟩=>?_);subst hr;exact Vv ⟨y,H3,I4,qn⟩
 .refine Wr Q (Qd z3 (T.item X rfl rfl rfl hc i G s3 y H3 X.xe I3 (p O) Y go) λr s4 ⟨u,hr,h4⟩ z4=>?_);subst hr;refine Wr Q (Qd z4 h4 λ_ s5 ⟨x,H5,I5,r5,y5,L,ae⟩ z5=>?_);have ac:=I5.pinned (p ae) (T.obj _ _ L);refine Wr Q (Qd z5 (hg _ s5 y H5 x u _ ac r5 (step x H5 y5)) λ_ s6 ⟨ah,H6,I6,q6⟩ z6=>?_);refine Wr Q (Qd z6 (k _ s6 ah H6 _ I6 z6 q6) λf s7 E z7=>?_);have Ry:∀{a:St} {c:Hp},Inv X (G++Q0 M s5.heap) a c s7->N a c->∃m,m<n/\∃i q z,Inv X G q z s7/\tn i s7.heap/\(∀b∈M,z b=none)/\W i m q z/\n0<=s7.toks:=λ{a c} j U=>by
   obtain⟨m',hm,w7⟩:=hN a c U;refine dJ m' hm (dP (i+1) a c j.unpinned (T.keep _ _ _ L λb k o e=>(j.pin (b,o) (Xl _ (Xl _ (jT k e)))).1) (λb k=>?_) w7 z7);obtain⟨o,e,d⟩:=T.obj _ _ L b k;exact(j.pin (b,o) (Xl _ (Xl _ (jT k e)))).2.1
  cases f with
  | next=>revert E;refine fL λa c j U=>?_;exact Ry j U
  | cont=>revert E;refine fL λa c j U=>?_;exact Ry j U
  | brk=>revert E;refine fL λa c j E=>?_;exact⟨a,c,j.unpinned,E⟩
  | ret v=>revert E;refine gi λx7 a c j r7 E=>?_;exact⟨x7,a,c,j.unpinned,r7,E⟩
def zrv (K:XZ)(S:Addr)(i j:Nat)(sp:Sp)(dv:AE)(h:TA)(k:TS):TS:=λD f H=>h f H λl g=>sp (l++dv) g (λv d=>D.nx (f.set i (some v)) d)
 (λc _ d=>∃C,c=.ref C/\Vo K C (.ref S)=some true/\∀e,d e=none ->
  k { nx:=fun a b=>D.nx (a.set j none) b,rt:=D.rt,bk:=fun a b=>D.bk (a.set j none) b,ct:=fun a b=>D.ct (a.set j none) b } (f.set j (some (.ref e))) (upd d e (exO e C)))
def znR {k i j:Nat}{x y f xS:Str}{fA S:Addr}{fd:XH}{ps:AD}{sp:Sp}{dv:AE}{ta:TA}{ts:TS}{T:Expr}{G:List Expr}{xp fp cp ap aj hp:Pos}{b0:Stmt}{b:List Stmt}
  (c:X.stack=X.env::X.outer) (ac:X.env.frame=some X.env.locals) (F:Jf n X.prog X.w X.K X.mg X.base (CXE X.prog X.w) k fA fd ps sp) (hr:Jd k X.A) (hg:Gl X f) (hm:X.mg f=some (.ref fA)) (hk:Vi X.K (.ref fA)=true) (hb:∃Q,Vals dv Q/\Binds X.K fd ps Q)
  (J:X.N.Nodup) (hi:X.N[i]?=some x) (hx:Loc X.env.scope x) (hf:X.fn x=true\/X.env.scope.names.lookup x=some .local) (U:X.N[j]?=some y) (L:X.env.scope.names.lookup y=some .local) (gS:Gl X xS) (O:qO X.K X.mg xS S)
  (ha:PA X.nox (T::G) ta) (hs:∀e,PSs (markX X e) (b0::b) ts)
  (he:W6 (T::G) X.env=(false,eval T X.env)::W6 G X.env:=by rfl) (af:(UB cp (W6 G X.env)).any (·.1)=false:=by rfl) (ab:(f==("__debug__":Str))=false:=by decide) (aa:(xS==("__debug__":Str))=false:=by decide)
  (ah:Ta (.Call (.Name f fp) (T::G) [] cp) (some (.Name x xp)) ap.line X.env=pure false:=by rfl) :
  PSt n X (.Try [.Assign [.Name x xp] (.Call (.Name f fp) (T::G) [] cp) ap] [.ExceptHandler (some (.Name xS aj)) (some y) (b0::b) hp] [] [] pos) (zrv X.K S i j sp dv ta ts):=by
 intro bz s σ H D I hn h;obtain⟨Q,hd,hb⟩:=hb;refine wpAny_Try_except (U1 ?_);refine Ru (UW (Ze I hg hm ?_ ab)) ah;refine Tf (h₀:=X.base) I.ok.mod.kin hk (up hn (WA (ha cp bz s σ H _ (I.wish _) h) (λus s1 ⟨vs,H1,M,r,q⟩ n1=>⟨M.kIn,?_⟩) λ_ _ z=>Wy z)) he af;have E:Inv X bz σ H1 s1:=M.unwish;have r2:Vals (vs++dv) (us++Q):=r.append hd;have Y:(us++Q).length=ps.length:=by rw[<- r2.length];exact F.len _ _ _ _ q
 have bt:=hb s1 us E.kIn Y;refine Op (TR (F.run X.A X.stack s1 H1 ⟨us,[]⟩ _ _ _ _ n1 hr E.env0 bt r2 q) λai s' hq=>?_);cases ai with
 | ok fl =>
  cases fl with
  | ret u =>
   refine fK (λv H2 I2 rv q2=>?_) (E.after hq);exact YS I2 J hi hx rv (λs3 I3=>Vv (Vv ⟨_,H2,I3,q2⟩)) hf
  | next=>exact Wy hq
  | brk=>exact Wy hq
  | cont=>exact Wy hq
 | error y =>
  revert hq;refine fM λe C a0 B=>fP λH' z0 Fl=>fP λC' ec ae ag=>?_;subst z0;cases ec;have ff:=Fl.fly;rw[c]at ff;refine wpAny_looks_onW (by rw[E.ok.frames,c]) ac ff λh4 an ak=>?_;refine wpAny_landsW an λh5 o al=>?_;have up:=ak.trans al;have I5:=Fl.caught E (h:=h5) (by rw[c];exact o) up;refine wpAny_handleBy_cons (codeAny_handlers_test (Ze (X:=markX X e) (I5.mark e) gS O.g ?_ aa)) (by intro z;cases z);obtain⟨bm,OS⟩:=zoP I5.kIn O.q;refine fH (λoe aq q1 q2 q3 _=>?_) o.first;refine znv OS q1 q2 (R9 I5.kIn ae) (codeAny_handlers_suite_as ?_);refine lands_againW o λh6 ao am=>?_;have I6:=Fl.caught E (h:=h6) (by rw[c];exact ao) (up.trans am);refine YS (X:=markX X e) (I6.mark e) J U (.inl L) (v:=.ref e) rfl (λs7 I7=>?_) (.inr L);refine WA (hs e bz s7 _ _ _ I7 (ag e Fl.free)) (λfl s8 a=>?_) λ_ _ z=>z.elim;cases fl with
  | next =>
   revert a;refine fL λp d l a=>?_;exact(l.unmark I.ok).nameGoes J U L λs9 m=>⟨_,d,m,a⟩
  | brk =>
   revert a;refine fL λp d l a=>?_;exact(l.unmark I.ok).nameGoes J U L λs9 m=>⟨_,d,m,a⟩
  | cont =>
   revert a;refine fL λp d l a=>?_;exact(l.unmark I.ok).nameGoes J U L λs9 m=>⟨_,d,m,a⟩
  | ret u =>
   revert a;refine gi λv8 p d l r8 a=>?_;exact(l.unmark I.ok).nameGoes J U L λs9 m=>⟨v8,_,d,m,r8,a⟩
end
end L2
namespace Cells
def zZ (p:Nat->Bool)(i:Nat):Nat->List Nat->AB
 | _,[]=>[]
 | j,c::r=>(if p c=true then [(i,j)] else [])++zZ p i (j+1) r
def zI (p:Nat->Bool):Nat->List (List Nat)->AB
 | _,[]=>[]
 | i,t::r=>zZ p i 0 t++zI p (i+1) r
theorem Yq (p:Nat->Bool)(i:Nat):∀(j:Nat) (a b:List Nat),zZ p i j (a++b)=zZ p i j a++zZ p i (j+a.length) b
 | j,[],b=>by simp[zZ]
 | j,c::a,b=>by
  simp only[P6,zZ,Yq p i (j+1) a b,Xi,WL];rw[show j+1+a.length=j+(a.length+1) by lia]
theorem Yr (p:Nat->Bool):∀(i:Nat) (a b:List (List Nat)),zI p i (a++b)=zI p i a++zI p (i+a.length) b
 | i,[],b=>by simp[zI]
 | i,t::a,b=>by
  simp only[P6,zI,Yr p (i+1) a b,Xi,WL];rw[show i+1+a.length=i+(a.length+1) by lia]
def Q7 {p:Nat->Bool}{i j c:Nat}{t:List Nat}(h:t[j]?=some c):zZ p i 0 (t.take (j+1))=zZ p i 0 (t.take j)++(if p c=true then [(i,j)] else []):=by
 rw[Xp,h,Yq];have a:(t.take j).length=j:=by
  have:=(X5.mp h).1;rw[XJ];lia
 simp[zZ,a]
def Q8 {p:Nat->Bool}{i:Nat}{t:List Nat}{rs:List (List Nat)}(h:rs[i]?=some t):zI p 0 (rs.take (i+1))=zI p 0 (rs.take i)++zZ p i 0 t:=by
 rw[Xp,h,Yr];have a:(rs.take i).length=i:=by
  have:=(X5.mp h).1;rw[XJ];lia
 simp[zI,a]
theorem jF (p:Nat->Bool)(i:Nat):∀(j:Nat) (t:List Nat),(zZ p i j t).length<=t.length
 | j,[]=>by simp[zZ]
 | j,c::r=>by
  have:=jF p i (j+1) r;simp only[zZ,XX,Xi];split<;>simp<;>lia
theorem qT (p:Nat->Bool):∀(i:Nat) (rs:List (List Nat)),(∀t∈rs,t.length<=8)->(zI p i rs).length<=8*rs.length
 | i,[],_=>by simp[zI]
 | i,t::r,h=>by
  have h1:=jF p i 0 t;have h2:=qT p (i+1) r λu a=>h u (XU _ a);have b:=h t XT;simp only[zI,XX,Xi];lia
theorem JG {p:Nat->Bool}{i:Nat}:∀{j:Nat} {t:List Nat} {x:AA},x∈zZ p i j t->∃m c,x=(i,j+m)/\t[m]?=some c/\p c=true
 | j,[],x,h=>by simp[zZ]at h
 | j,c::r,x,h=>by
  simp only[zZ,XN]at h;rcases h with h | h
  .split at h
   .rename_i hp;have:x=(i,j):=by simpa using h
    exact⟨0,c,this,rfl,hp⟩
   .cases h
  .refine fK (λm a e h1 h2=>?_) (JG h);exact⟨m+1,a,by rw[e,show j+1+m=j+(m+1) by lia],by simpa using h1,h2⟩
def yK {p:Nat->Bool}{i:Nat}{rs:List (List Nat)}{x:AA}(h:x∈zI p i rs):∃k j t c,x=(i+k,j)/\rs[k]?=some t/\t[j]?=some c/\p c=true:=by
 induction rs generalizing i with
 | nil=>simp[zI]at h
 | cons t r b =>
  simp only[zI,XN]at h;rcases h with h | h
  .refine fK (λm c e h1 h2=>?_) (JG h);exact fD 0 m t c (by simpa using e) rfl h1 h2
  .refine gk (λk j u c e h1 h2 a=>?_) (b h);exact fD (k+1) j u c (by rw[e,show i+1+k=i+(k+1) by lia]) (by simpa using h1) h2 a
def sgn (rs:List (List Nat))(x:AA):Nat:=(rs.getD x.1 []).getD x.2 0
theorem zaD {p q:Nat->Bool}{i:Nat}(f:AA->Bool):∀(j:Nat) (t:List Nat),(∀m c,t[m]?=some c->f (i,j+m)=q c)->(zZ p i j t).filter f=zZ (λc=>p c&&q c) i j t
 | j,[],_=>by simp[zZ]
 | j,c::r,h=>by
  have g:=zaD (p:=p) (q:=q) (i:=i) f (j+1) r λm d e=>by
   have:=h (m+1) d (by simpa using e);rw[show j+1+m=j+(m+1) by lia];exact this
  have h0:=h 0 c rfl;simp only[zZ,WF,g];congr 1;simp only[PD]at h0;by_cases a:p c=true
  .by_cases b:q c=true
   .simp[a,b,h0]
   .simp[a,b,h0]
  .simp[a]
theorem zaE {p q:Nat->Bool}(f:AA->Bool):∀(i:Nat) (rs:List (List Nat)),(∀k t m c,rs[k]?=some t->t[m]?=some c->f (i+k,m)=q c)->(zI p i rs).filter f=zI (λc=>p c&&q c) i rs
 | i,[],_=>by simp[zI]
 | i,t::r,h=>by
  have b:=zaE (p:=p) (q:=q) f (i+1) r λk u m c hk a=>by
   have:=h (k+1) u m c (by simpa using hk) a;rw[show i+1+k=i+(k+1) by lia];exact this
  simp only[zI,WF,b];rw[zaD (p:=p) (q:=q) f 0 t λm c a=>by simpa using h 0 t m c rfl a]
def Q9 {rs:List (List Nat)}{i j:Nat}{t:List Nat}{c:Nat}(h:rs[i]?=some t)(h2:t[j]?=some c):sgn rs (i,j)=c:=by
 unfold sgn;simp[List.getD,h,h2]
def all_filter {p q:Nat->Bool}(rs:List (List Nat)):(zI p 0 rs).filter (λx=>q (sgn rs x))=zI (λc=>p c&&q c) 0 rs :=
 zaE _ 0 rs λk t m c hk a=>by rw[show 0+k=k by lia,Q9 hk a]
def zbC {p q:Nat->Bool}(h:∀c,p c=q c)(i:Nat)(rs:List (List Nat)):zI p i rs=zI q i rs:=by
 rw[show p=q from funext h]
def near (x y:AA):Bool:=decide ((if (x.1:Int)-(y.1:Int)<0 then -((x.1:Int)-(y.1:Int)) else (x.1:Int)-(y.1:Int))<2)&&(decide ((if (x.2:Int)-(y.2:Int)<0 then -((x.2:Int)-(y.2:Int)) else (x.2:Int)-(y.2:Int))<2) && !decide (x=y))
def ZJ (x y:AA):near x y=true↔(x.1<=y.1+1/\y.1<=x.1+1)/\(x.2<=y.2+1/\y.2<=x.2+1)/\¬ x=y:=by
 unfold near;rw[VP,VP,decide_eq_true_iff,decide_eq_true_iff,Wu,decide_eq_false_iff_not];constructor
 .rintro⟨h1,h2,h3⟩;refine⟨?_,?_,h3⟩
  .split at h1<;>lia
  .split at h2<;>lia
 .rintro⟨h1,h2,h3⟩;refine⟨?_,?_,h3⟩
  .split<;>lia
  .split<;>lia
def lex (a b:AA):Prop:=a.1<b.1\/(a.1=b.1/\a.2<b.2)
theorem zek (p:Nat->Bool)(i:Nat):∀(j:Nat) (t:List Nat),(zZ p i j t).Pairwise lex
 | j,[]=>by simp[zZ]
 | j,c::r=>by
  simp only[zZ];rw[TV];refine⟨?_,zek p i (j+1) r,λa d b g=>?_⟩
  .split<;>simp
  .split at d
   .have e:a=(i,j):=by simpa using d
    obtain⟨m,h,f,_,_⟩:=JG g;subst e f;exact .inr ⟨rfl,by show j<j+1+m;lia⟩
   .cases d
theorem jv (p:Nat->Bool):∀(i:Nat) (rs:List (List Nat)),(zI p i rs).Pairwise lex
 | i,[]=>by simp[zI]
 | i,t::r=>by
  simp only[zI];rw[TV];refine⟨zek p i 0 t,jv p (i+1) r,λa f b g=>?_⟩;obtain⟨m,c,e,_,_⟩:=JG f;obtain⟨k,j,u,h,d,_,_,_⟩:=yK g;subst e d;exact .inl (by show i<i+1+k;lia)
def zlR {p:Nat->Bool}{f:AA->Bool}{n:Nat}{rs:List (List Nat)}(h:∀r c,r<n->f (r,c)=false):(zI p 0 (rs.take n)).filter f=[]:=by
 rw[Vx];intro x b;obtain⟨k,j,t,c,e,hk,_,_⟩:=yK b;have a:k<n:=by
  have:=(X5.mp hk).1;rw[XJ]at this;lia
 subst e;rw[h _ _ (by lia)];exact XS
def zkn {p:Nat->Bool}{f:AA->Bool}{n:Nat}{rs:List (List Nat)}(h:∀r c,n<=r->f (r,c)=false):(zI p 0 (rs.take n)).filter f=(zI p 0 rs).filter f:=by
 by_cases d:n<=rs.length
 .have e:=W9 n rs;have a:zI p 0 rs=zI p 0 (rs.take n)++zI p (0+(rs.take n).length) (rs.drop n):=by rw[<- Yr,e]
  rw[a,WF];have z:(zI p (0+(rs.take n).length) (rs.drop n)).filter f=[]:=by
   rw[Vx];intro x b;obtain⟨k,j,t,c,e,hk,_,_⟩:=yK b;subst e;rw[XJ,h _ _ (by lia)];exact XS
  rw[z,WV]
 .rw[WD (by lia)]
def zlS {p:Nat->Bool}{f:AA->Bool}{i n:Nat}{t:List Nat}(h:∀c,c<n->f (i,c)=false):(zZ p i 0 (t.take n)).filter f=[]:=by
 rw[Vx];intro x d;obtain⟨m,c,e,a,_⟩:=JG d;have b:m<n:=by
  have:=(X5.mp a).1;rw[XJ]at this;lia
 subst e;rw[h _ (by lia)];exact XS
def zko {p:Nat->Bool}{f:AA->Bool}{i n:Nat}{t:List Nat}(h:∀c,n<=c->f (i,c)=false):(zZ p i 0 (t.take n)).filter f=(zZ p i 0 t).filter f:=by
 by_cases g:n<=t.length
 .have e:=W9 n t;have a:zZ p i 0 t=zZ p i 0 (t.take n)++zZ p i (0+(t.take n).length) (t.drop n):=by rw[<- Yq,e]
  rw[a,WF];have z:(zZ p i (0+(t.take n).length) (t.drop n)).filter f=[]:=by
   rw[Vx];intro x b;obtain⟨m,c,e,d,_⟩:=JG b;subst e;rw[XJ,h _ (by lia)];exact XS
  rw[z,WV]
 .rw[WD (by lia)]
end Cells
namespace Parts
abbrev C:=AA
structure Good (cl:C->List C)(done:List C)(gs:List (List C)):Prop where
 ne:∀g∈gs,g ≠ []
 nd:gs.flatten.Nodup
 from_:∀x∈gs.flatten,∃o∈done,x∈cl o
 cov:∀o∈done,cl o ≠ []->∃g∈gs,∀x∈cl o,x∈g
 con:∀g∈gs,∀S:C->Prop,(∀o∈done,(∃x∈cl o,S x)->∀x∈cl o,S x)->(∃x∈g,S x)->∀x∈g,S x
 srt:∀g∈gs,g.Pairwise Cells.lex
def Good.start (a:C->List C):Good a [] []:=⟨(λ_ h=>nomatch h),VA,(λ_ h=>nomatch h),(λ_ h=>nomatch h),(λ_ h=>nomatch h),(λ_ h=>nomatch h)⟩
def Good.skip {a:C->List C}{done:List C}{gs:List (List C)}(G:Good a done gs){o:C}(h:a o=[]):Good a (done++[o]) gs:=by
 refine⟨G.ne,G.nd,λx b=>?_,λp hp c=>?_,λg f S d=>G.con g f S λp hp=>d p (WQ _ hp),G.srt⟩
 .obtain⟨p,hp,b⟩:=G.from_ x b;exact⟨p,WQ _ hp,b⟩
 .rcases XN.mp hp with hp | hp
  .exact G.cov p hp c
  .have e:p=o:=by simpa using hp
   subst e;exact absurd h c
def zel {gs:List (List C)}(j:gs.flatten.Nodup):∀{g g':List C} {x:C},g∈gs->g'∈gs->x∈g->x∈g'->g=g':=by
 induction gs with
 | nil=>intro g g' x h;cases h
 | cons a r l =>
  rw[Wn,WK]at j;obtain⟨_,h2,i⟩:=j;intro g g' x k c e b;rcases XI.mp k with f | g1
  .rcases XI.mp c with d | g2
   .rw[f,d]
   .exact absurd rfl (i x (f ▸ e) x (Wv.mpr ⟨g',g2,b⟩))
  .rcases XI.mp c with d | g2
   .exact absurd rfl (i x (d ▸ b) x (Wv.mpr ⟨g,g1,e⟩))
   .exact l h2 g1 g2 e b
theorem qZ (p:List C->Bool):∀gs:List (List C),(gs.filter p).flatten.Sublist gs.flatten
 | []=>List.Sublist.refl _
 | a::r=>by
  rw[VO,Wn];split
  .rw[Wn];exact List.Sublist.append (List.Sublist.refl _) (qZ p r)
  .exact List.Sublist.trans (qZ p r) (List.sublist_append_right _ _)
def meets (a g:List C):Bool:=!(g.filter λc=>a.any λx=>decide (x=c)).isEmpty
def ZK {a g:List C}:meets a g=true ↔ ∃x∈g,x∈a:=by
 unfold meets;rw[Wu,RC];constructor
 .intro h;obtain⟨x,b⟩:=RA _ h;rw[XO,WH]at b;obtain⟨h1,y,h2,d⟩:=b;have e:y=x:=bg d;subst e;exact⟨y,h1,h2⟩
 .rintro⟨x,h1,h2⟩ hn;have:x∈g.filter λc=>a.any λx=>decide (x=c):=XO.mpr ⟨h1,WH.mpr ⟨x,h2,br rfl⟩⟩;rw[hn]at this;cases this
def whole (w:List C):List (List C)->List C
 | []=>w
 | g::r=>whole (w++g.filter λc=>!(w.any λx=>decide (x=c))) r
def zaF (w:List C)(c:C):(w.any λx=>decide (x=c))=true↔c∈w:=by
 rw[WH];constructor
 .rintro⟨x,h1,h2⟩;have e:x=c:=bg h2;subst e;exact h1
 .intro h;exact⟨c,h,br rfl⟩
theorem zbk {x:C}:∀{w:List C} {b:List (List C)},x∈whole w b↔x∈w\/∃m∈b,x∈m
 | w,[]=>by simp[whole]
 | w,g::r=>by
  rw[whole,zbk,XN,XO];constructor
  .rintro((h | ⟨h,_⟩) | ⟨m,hm,h⟩)
   .exact .inl h
   .exact .inr ⟨g,XT,h⟩
   .exact .inr ⟨m,XU _ hm,h⟩
  .rintro(h | ⟨m,hm,h⟩)
   .exact .inl (.inl h)
   .rcases XI.mp hm with rfl | hm
    .by_cases a:x∈w
     .exact .inl (.inl a)
     .refine .inl (.inr ⟨h,?_⟩);rw[Wu,WX];exact λz=>a ((zaF w x).mp z)
    .exact .inr ⟨m,hm,h⟩
theorem Qe:∀{w:List C} {i:List (List C)},w.Nodup->(∀m∈i,m.Nodup)->(whole w i).Nodup
 | w,[],h,_=>h
 | w,g::r,h,f=>by
  rw[whole];refine Qe ?_ λm d=>f m (XU _ d);rw[WK];refine⟨h,(f g XT).sublist W2,λa j b k e=>?_⟩;subst e;have c:=(XO.mp k).2;rw[(zaF w a).mpr j]at c;cases c
def Good.step {c:C->List C}{done:List C}{gs:List (List C)}(G:Good c done gs){o:C}(h:c o ≠ [])(N:(c o).Nodup){d:List (List C)}{w:List C}(D:d=gs.filter λg=>!((gs.filter (meets (c o))).any λm=>decide (m=g)))
  (E:w.Perm (whole (c o) (gs.filter (meets (c o))))) (O:w.Pairwise Cells.lex):Good c (done++[o]) (d++[w]):=by
 have n:∀g,g∈d↔g∈gs/\¬ ∃x∈g,x∈c o:=λg=>by
  rw[D,XO,Wu,WX];constructor
  .rintro⟨h1,h2⟩;exact⟨h1,λj=>h2 (WH.mpr ⟨g,XO.mpr ⟨h1,ZK.mpr j⟩,br rfl⟩)⟩
  .rintro⟨h1,h2⟩;refine⟨h1,λj=>?_⟩;obtain⟨m,i,e⟩:=WH.mp j;have H:m=g:=bg e;subst H;exact h2 (ZK.mp (XO.mp i).2)
 have mw:∀x,x∈w↔x∈c o\/∃g∈gs,(∃y∈g,y∈c o)/\x∈g:=λx=>by
  rw[E.mem_iff,zbk];constructor
  .rintro(h1 | ⟨m,i,h1⟩)
   .exact .inl h1
   .obtain⟨h2,j⟩:=XO.mp i;exact .inr ⟨m,h2,ZK.mp j,h1⟩
  .rintro(h1 | ⟨g,h2,j,h1⟩)
   .exact .inl h1
   .exact .inr ⟨g,XO.mpr ⟨h2,ZK.mpr j⟩,h1⟩
 have J:∀g∈gs,g.Nodup:=λg hg=>G.nd.sublist (T2 hg);have U:w.Nodup:=E.nodup_iff.mpr (Qe N λm i=>J m (XO.mp i).1);refine⟨λg hg=>?_,?_,λx hx=>?_,λp hp u=>?_,λg hg S B=>?_,λg hg=>?_⟩
 .rcases XN.mp hg with hg | hg
  .exact G.ne g ((n g).mp hg).1
  .have e:g=w:=by simpa using hg
   subst e;obtain⟨x,hx⟩:=RA _ h;exact RO ((mw x).mpr (.inl hx))
 .rw[U7,WK];refine⟨G.nd.sublist (by rw[D];exact qZ _ gs),by simpa using U,λa L b M e=>?_⟩;subst e;have s:a∈w:=by simpa using M
  obtain⟨g,hg,hx⟩:=Wv.mp L;obtain⟨g1,g2⟩:=(n g).mp hg;rcases(mw a).mp s with h1 | ⟨m,q,T,r⟩
  .exact g2 ⟨a,hx,h1⟩
  .have e:=zel G.nd g1 q hx r;subst e;exact g2 T
 .rw[U7]at hx;rcases XN.mp hx with hx | hx
  .obtain⟨g,hg,hx⟩:=Wv.mp hx;obtain⟨p,hp,hx⟩:=G.from_ x (Wv.mpr ⟨g,((n g).mp hg).1,hx⟩);exact⟨p,WQ _ hp,hx⟩
  .have l:x∈w:=by simpa using hx
   rcases(mw x).mp l with h1 | ⟨g,g1,_,I⟩
   .exact⟨o,by simp,h1⟩
   .obtain⟨p,hp,hx⟩:=G.from_ x (Wv.mpr ⟨g,g1,I⟩);exact⟨p,WQ _ hp,hx⟩
 .rcases XN.mp hp with hp | hp
  .obtain⟨g,hg,hx⟩:=G.cov p hp u;by_cases i:∃x∈g,x∈c o
   .exact⟨w,by simp,λx l=>(mw x).mpr (.inr ⟨g,hg,i,hx x l⟩)⟩
   .exact⟨g,WQ _ ((n g).mpr ⟨hg,i⟩),hx⟩
  .have e:p=o:=by simpa using hp
   subst e;exact⟨w,by simp,λx hx=>(mw x).mpr (.inl hx)⟩
 .have k:∀p∈done,(∃x∈c p,S x)->∀x∈c p,S x:=λp hp=>B p (WQ _ hp);rcases XN.mp hg with hg | hg
  .exact G.con g ((n g).mp hg).1 S k
  .have e:g=w:=by simpa using hg
   subst e;rintro⟨x,hx,sx⟩;have f:∀y∈c o,S y:=by
    refine B o (by simp) ?_;rcases(mw x).mp hx with h1 | ⟨m,q,⟨y,v,A⟩,r⟩
    .exact⟨x,h1,sx⟩
    .exact⟨y,A,G.con m q S k ⟨x,r,sx⟩ y v⟩
   intro z Q;rcases(mw z).mp Q with h1 | ⟨m,q,⟨y,v,A⟩,r⟩
   .exact f z h1
   .exact G.con m q S k ⟨y,v,f y A⟩ z r
 .rcases XN.mp hg with hg | hg
  .exact G.srt g ((n g).mp hg).1
  .have e:g=w:=by simpa using hg
   subst e;exact O
def Good.perm {d:C->List C}{done:List C}{gs b:List (List C)}(G:Good d done gs)(h:b.Perm gs):Good d done b:=by
 refine⟨λg a=>G.ne g (h.mem_iff.mp a),h.flatten.nodup_iff.mpr G.nd,λx c=>G.from_ x (h.flatten.mem_iff.mp c),λo f e=>?_,λg a=>G.con g (h.mem_iff.mp a),λg a=>G.srt g (h.mem_iff.mp a)⟩;obtain⟨g,a,c⟩:=G.cov o f e;exact⟨g,h.mem_iff.mpr a,c⟩
theorem ZL:∀{gs:List (List C)},(∀g∈gs,g ≠ [])->gs.length<=gs.flatten.length
 | [],_=>XW _
 | g::r,h=>by
  have b:=ZL (gs:=r) λx a=>h x (XU _ a);have:1<=g.length:=OA.mpr (h g XT);rw[Wn,XX,Xi];lia
theorem yd:∀{a b:List C},a.Nodup->(∀x∈a,x∈b)->a.length<=b.length
 | [],_,_,_=>W3 _
 | x::r,b,h,s=>by
  obtain⟨h1,h2⟩:=Wq.mp h;have c:=s x XT;have f:=yd (a:=r) (b:=b.erase x) h2 λy d=>(List.mem_erase_of_ne (λ(e:y=x)=>h1 (by rw[<- e];exact d))).mpr (s y (XU _ d));rw[List.length_erase_of_mem c]at f;have:=Ug c;rw[Xi];lia
end Parts
namespace Choose
def ch:Nat->Nat->Nat
 | _,0=>1
 | 0,_+1=>0
 | n+1,k+1=>ch n k+ch n (k+1)
def zaG (n:Nat):ch n 0=1:=by cases n<;>rfl
theorem zce:∀n k:Nat,(k+1)*ch n (k+1)+k*ch n k=n*ch n k
 | 0,0=>rfl
 | 0,k+1=>by
  show (k+1+1)*0+(k+1)*0=0*0;simp
 | n+1,0=>by
  have h:=zce n 0;rw[zaG]at h ⊢;show (0+1)*(ch n 0+ch n (0+1))+0*1=(n+1)*1;rw[zaG];lia
 | n+1,j+1=>by
  have h1:=zce n (j+1);have h2:=zce n j;show (j+1+1)*(ch n (j+1)+ch n (j+1+1))+(j+1)*(ch n j+ch n (j+1))=(n+1)*(ch n j+ch n (j+1));generalize ch n (j+1+1)=C2 at *
  generalize ch n (j+1)=C1 at *
  generalize ch n j=C0 at *
  simp only[Nat.add_mul,Nat.mul_add,Nat.one_mul]at *
  lia
def znS {n k:Nat}(h:k<n):(ch n k:Int)*((n:Int)-k)/((k:Int)+1)=ch n (k+1):=by
 have e:=zce n k;have a:(ch n k:Int)*((n:Int)-k)=(ch n (k+1):Int)*((k:Int)+1):=by
  have:((k+1)*ch n (k+1)+k*ch n k:Int)=(n*ch n k:Int):=by exact_mod_cast e
  rw[Int.mul_sub,PB (ch n k:Int) n,<- this,PB (ch n (k+1):Int) ((k:Int)+1),PB (ch n k:Int) (k:Int)];lia
 rw[a];exact Int.mul_ediv_cancel _ (by lia)
def zoV (n:Nat):∀k,ch n k<=2^n:=by
 induction n with
 | zero =>
  intro k;cases k with
  | zero=>decide
  | succ k =>
   show (0:Nat)<=2^0;decide
 | succ n a =>
  intro k;cases k with
  | zero =>
   rw[zaG];exact Nat.one_le_two_pow
  | succ k =>
   show ch n k+ch n (k+1)<=2^(n+1);rw[Ob];have:=a k;have:=a (k+1);lia
end Choose
namespace K65
open PySem L2
variable {P:Xs}{w:Xd}{K:XZ}{mg:Str->Option X9}{base:Heap}{f:Addr}{fd:XH}{jaa jab jac jad jae jaf jag jah jai jaj:Addr}
abbrev top (i:Nat):Stmt:=JM.top i
abbrev Ys:Stmt:=top 17
abbrev xh:Stmt:=top 18
abbrev Zk:Stmt:=top 19
abbrev ZM:Stmt:=top 20
abbrev qL:Stmt:=top 21
abbrev jP:Stmt:=top 22
abbrev jz:Stmt:=top 23
abbrev zaH:Stmt:=top 24
abbrev qk:Stmt:=top 25
abbrev qq:Stmt:=top 26
abbrev Yt:Stmt:=top 31
abbrev Zl:Stmt:=top 32
abbrev Zm:Stmt:=top 33
abbrev yf:Stmt:=top 34
abbrev Yu:Stmt:=top 35
abbrev zcf:Stmt:=top 37
abbrev Qf:Stmt:=top 38
abbrev zi4:Stmt:=top 39
abbrev yg:Stmt:=top 40
abbrev Jw:Stmt:=top 41
abbrev qQ:Stmt:=top 42
abbrev jY:Stmt:=top 45
abbrev xw:Stmt:=top 46
abbrev JH:Stmt:=top 47
abbrev xT:Stmt:=top 48
abbrev JI:Stmt:=top 49
abbrev Jx:Stmt:=top 50
abbrev Qx:Stmt:=top 52
abbrev zaI:Stmt:=top 53
abbrev xU:Stmt:=top 55
abbrev zcg:Stmt:=top 56
abbrev yh:Stmt:=top 57
abbrev Jy:Stmt:=top 58
abbrev zch:Stmt:=top 59
abbrev Yv:Stmt:=top 61
abbrev ja:Stmt:=top 62
abbrev zaJ:Stmt:=top 64
abbrev Jz:Stmt:=top 65
abbrev zfg:Stmt:=top 66
abbrev Yw:Stmt:=top 69
abbrev Yx:Stmt:=top 70
abbrev xV:Stmt:=top 71
abbrev zaK:Stmt:=top 72
abbrev ZN:Stmt:=top 73
abbrev Yy:Stmt:=top 76
abbrev Zn:Stmt:=top 77
abbrev xW:Stmt:=top 78
abbrev JA:Stmt:=top 79
abbrev zbA:Stmt:=top 81
abbrev xX:Stmt:=top 82
abbrev yr:Stmt:=top 84
abbrev Ja:Stmt:=top 85
abbrev Zo:Stmt:=top 86
abbrev Zp:Stmt:=top 87
abbrev Yz:Stmt:=top 89
abbrev zgy:Stmt:=top 90
structure Txt (mg:Str->Option X9):Prop where
 zfh:mg "ValueError"=none
 zsL:mg "abs"=none
 zi5:mg "any"=none
 zcN:mg "dict"=none
 qN:mg "enumerate"=none
 zrx:mg "int"=none
 qM:mg "isinstance"=none
 qI:mg "len"=none
 zhZ:mg "list"=none
 zlT:mg "max"=none
 zi6:mg "min"=none
 JB:mg "range"=none
 zry:mg "set"=none
 JZ:mg "sorted"=none
 zrz:mg "str"=none
 zoW:mg "sum"=none
 zrA:mg "zip"=none
 zoX:∃t,mg "ALL"=some (.str "all" t)
 zdx:∃t,mg "BOARD_SIGNS"=some (.str "?012345678#" t)
 JC:∃t,mg "CLEAR_SIGN"=some (.str "." t)/\t≠0/\t<448
 Zw:∃t,mg "CLOSED_SIGN"=some (.str "?" t)
 zdy:∃t,mg "FIELD_SIGNS"=some (.str ".o#" t)
 Qg:∃t,mg "LONGEST_SIDE"=some (.int 8 t)
 zcO:∃t,mg "MOST_OF_PART"=some (.int 14 t)
 zdz:∃t,mg "MOST_STONES"=some (.int 64 t)
 zdA:∃t,mg "MOST_THINGS"=some (.int 30 t)
 Qh:∃t,mg "NO_CELL_SIGN"=some (.str "#" t)
 JD:∃t,mg "STONE_SIGN"=some (.str "o" t)/\t≠0/\t<448
def Mq (K:XZ)(mg:Str->Option X9)(n:Str)(s:Stmt)(p:List Str):=∃f fd,zh K mg n s p f fd
structure Prog (K:XZ)(mg:Str->Option X9):Prop where
 board_of:Mq K mg "board_of" Ys ["rows","stones"]
 checked_rows:Mq K mg "checked_rows" xh ["rows","signs"]
 check_row:Mq K mg "check_row" Zk ["row","length","signs"]
 closed:Mq K mg "closed" ZM ["board"]
 open_cells:Mq K mg "open_cells" qL ["board"]
 around:Mq K mg "around" jP ["board","cell"]
 number_at:Mq K mg "number_at" jz ["board","cell"]
 opened:Mq K mg "opened" zaH ["board","numbers"]
 cells_of:Mq K mg "cells_of" qk ["board"]
 sign_at:Mq K mg "sign_at" qq ["board","cell"]
 field_of:Mq K mg "field_of" Yt ["rows"]
 stones_of:Mq K mg "stones_of" Zl ["field"]
 clears_of:Mq K mg "clears_of" Zm ["field"]
 cells_with:Mq K mg "cells_with" yf ["field","sign"]
 board_at:Mq K mg "board_at" Yu ["field","cells"]
 parts:Mq K mg "parts" zcf ["board"]
 joined:Mq K mg "joined" Qf ["groups","cells"]
 far:Mq K mg "far" zi4 ["board"]
 numbers_of:Mq K mg "numbers_of" yg ["board","part"]
 bare_wrong:Mq K mg "bare_wrong" Jw ["board"]
 closed_around:Mq K mg "closed_around" qQ ["board","cell"]
 part_layings:Mq K mg "part_layings" jY ["board","part"]
 needs_at:Mq K mg "needs_at" xw ["told","cell","rest"]
 may_fit:Mq K mg "may_fit" JH ["needs","pick"]
 part_counts:Mq K mg "part_counts" xT ["board","part"]
 counted:Mq K mg "counted" JI ["found","greatest"]
 counted_at:Mq K mg "counted_at" Jx ["found","greatest","cell"]
 choices:Mq K mg "choices" Qx ["n","k"]
 poured:Mq K mg "poured" zaI ["one","other"]
 near_counts:Mq K mg "near_counts" xU ["board"]
 count:Mq K mg "count" zcg ["board"]
 counts_by_cell:Mq K mg "counts_by_cell" yh ["board"]
 all_poured:Mq K mg "all_poured" Jy ["lists"]
 dealt:Mq K mg "dealt" zch ["counts","cells","stones"]
 fraction:Mq K mg "fraction" Yv ["top","bottom"]
 greatest_divisor:Mq K mg "greatest_divisor" ja ["number","bottom"]
 shares:Mq K mg "shares" zaJ ["board"]
 some_count:Mq K mg "some_count" Jz ["board"]
 sure:Mq K mg "sure" zfg ["board"]
 asked_by:Mq K mg "asked_by" Yw ["board","thing"]
 known_of:Mq K mg "known_of" Yx ["finding"]
 still_asked:Mq K mg "still_asked" xV ["asked","known"]
 gained:Mq K mg "gained" zaK ["asked"]
 settled:Mq K mg "settled" ZN ["regions"]
 thoughts:Mq K mg "thoughts" Yy ["board"]
 all_steps:Mq K mg "all_steps" Zn ["board","things"]
 place_lists:Mq K mg "place_lists" xW ["asked"]
 first_step:Mq K mg "first_step" JA ["things","asked","lists","finding"]
 run:∃(f:Addr) (fd:XH),zff K mg "run" zbA ["field","first","way"] "sure" f fd
 found_clear:Mq K mg "found_clear" xX ["board","way"]
 law_cell_at:Mq K mg "_law_cell_at" yr ["_law_script","_law_k"]
 law_mixed:Mq K mg "_law_mixed" Ja ["_law_cell","_law_k"]
 law_field:Mq K mg "_law_field" Zo ["_law_script","_law_most"]
 law_cells:Mq K mg "_law_cells" Zp ["_law_rows","_law_signs"]
 law_told:Mq K mg "_law_told" Yz ["_law_field_here","_law_first","_law_way"]
def zlU (K:XZ):Sp:=λc H Q _=>∃(a:Addr) (b:List Int) (k:Int),c=[.ref a,.int k]/\SqL K H a (b.map V.int)/\0<=k/\∀z:Int,Q (.int z) H
structure Row (NZ:List Nat)(n:Nat)(t:Str):Prop where
 len:t.cps.size=n
 mem:∀c∈t.cps.toList,c∈NZ
structure Rows (NZ:List Nat)(rs:AD):Prop where
 lo:1<=rs.length
 hi:rs.length<=8
 ex:∃n,1<=n/\n<=8/\∀t∈rs,Row NZ n t
def bd:Str:="?012345678#"
def zcP:zz ["_law_script","_law_k"] ["_law_script","_law_k"] (zq yr):=bh
def Qi (T:Txt mg)(D:zh K mg "_law_cell_at" yr ["_law_script","_law_k"] f fd):qg P w K mg base CX0 1 f fd ["_law_script","_law_k"] (zlU K):=by
 refine D.F.ok zcP (λn H Q E h=>?_) (λj A d s H n Q E o h=>?_)
 .revert h;refine fR λa b i z0 _=>?_;subst z0;rfl
 .revert h;refine fY λa b i z0 e l k=>?_;subst z0;refine⟨_,(ze (qR (zO zlK (pvS 1) (pb1 zH T.qI Xk (pvS 0)) (qb _)) (zf (zF (zQ jO (pvS 0) (pvS 1) (λ_ _=>rfl)))) qd) (@zf _ _ _ (@zF _ _ _ _ zj))),?_⟩;(try dsimp only[cxK,cxP,cxW]);refine⟨_,rfl,_,rfl,a,_,rfl,.inl e,_,_,rfl,rfl,_,rfl,?_⟩;refine zaq (λc=>?_) (λc=>?_)
  .have g:i<((b.map V.int).length:Nat):=bg c;rw[ZB]at g;have m:i.toNat<b.length:=by lia
   refine⟨_,rfl,_,rfl,a,_,i,.int b[i.toNat],rfl,rfl,e,Y0 l (by rw[Xv,X0 m];rfl),?_⟩;exact k _
  .exact k 0
structure qf (H:Hp)(p l:Addr)(rs:AD)(n:Int):Prop where
 tp:H p=some (.tup [.ref l,.int n])
 rw:H l=some (.lst (rs.map V.str))
def zh0 (rs:AD):VR (rs.map UI)=0:=by
 induction rs with
 | nil=>rfl
 | cons t r a =>
  show max (PyData.depth (.str t)) (VR (r.map UI))=0;rw[a];rfl
def Rows.mono {s s':List Nat}{rs:AD}(R:Rows s rs)(h:∀c∈s,c∈s'):Rows s' rs :=
 ⟨R.lo,R.hi,let ⟨n,a,b,q⟩:=R.ex;⟨n,a,b,λt d=>⟨(q t d).len,λc e=>h c ((q t d).mem c e)⟩⟩⟩
def qf.mono {H a:Hp}{p l:Addr}{rs:AD}{n:Int}(b:qf H p l rs n)(s:zx H a):qf a p l rs n:=⟨s _ _ b.tp,s _ _ b.rw⟩
def codes (rs:AD):List (List Nat):=rs.map λt=>t.cps.toList
def qD {rs:AD}{i:Nat}{t:Str}(h:rs[i]?=some t):(codes rs)[i]?=some t.cps.toList:=by
 unfold codes;rw[Xv,h];rfl
def ZO {rs:AD}{i:Nat}{u:List Nat}(h:(codes rs)[i]?=some u):∃t,rs[i]?=some t/\u=t.cps.toList:=by
 unfold codes at h;rw[Xv]at h;cases e:rs[i]? with
 | none =>
  rw[e]at h;cases h
 | some t =>
  rw[e]at h;cases h;exact⟨t,rfl,rfl⟩
def qV (rs:AD):(codes rs).length=rs.length:=by
 unfold codes;rw[ZB]
def Rows.short {s:List Nat}{rs:AD}(R:Rows s rs):∀u∈codes rs,u.length<=8:=λu b=>by
 obtain⟨t,a,rfl⟩:=XG.mp b;obtain⟨n,_,c,q⟩:=R.ex;have:=(q t a).len;rw[X4];lia
def Rows.tlen {s:List Nat}{rs:AD}{i:Nat}{t:Str}(R:Rows s rs)(h:rs[i]?=some t):t.length<=Xz:=by
 obtain⟨n,_,a,q⟩:=R.ex;have e:t.length=n:=(q t (X8 h)).len;rw[e];exact X6 a (by decide)
def yO (H:Hp)(v:V)(c:AA):Prop:=∃a,v=V.ref a/\H a=some (.tup [.int (c.1:Nat),.int (c.2:Nat)])
def Cel (H:Hp):AE->AB->Prop:=Xa (yO H)
def Cel.mono {H b:Hp}(s:zx H b){vs:AE}{cs:AB}(c:Cel H vs cs):Cel b vs cs:=by
 induction c with
 | nil=>exact .nil
 | cons q _ d =>
  obtain⟨a,e,h⟩:=q;exact .cons ⟨a,e,s _ _ h⟩ d
theorem Cel.snoc {H:Hp}{vs:AE}{cs:AB}{v:V}{c:AA}(h:Cel H vs cs)(x:yO H v c):Cel H (vs++[v]) (cs++[c]):=Paired.snoc h x
def Cel.append {H:Hp}{vs b:AE}{cs a:AB}(h:Cel H vs cs)(k:Cel H b a):Cel H (vs++b) (cs++a):=zeW h k
def Cel.into {H:Hp}(z:Addr)(o:HO){b:AE}(hz:H z=some (.lst b)){vs:AE}{cs:AB}(c:Cel H vs cs):Cel (upd H z o) vs cs:=by
 induction c with
 | nil=>exact .nil
 | cons q _ d =>
  obtain⟨a,e,h⟩:=q;exact .cons ⟨a,e,by rw[zp (zdQ h hz (by intro y;cases y))];exact h⟩ d
theorem Cel.length {H:Hp}{vs:AE}{cs:AB}(h:Cel H vs cs):vs.length=cs.length:=Paired.length h
theorem Cel.get {H:Hp}:∀{vs:AE} {cs:AB} {i:Nat} {v:V},Cel H vs cs->vs[i]?=some v->∃c,cs[i]?=some c/\yO H v c
 | _,_,_,_,.nil,e=>by simp at e
 | _,_,0,_,.cons r _,e=>by
  simp at e;subst e;exact⟨_,rfl,r⟩
 | _,_,i+1,v,.cons _ t,e=>by
  obtain⟨c,h1,h2⟩:=Cel.get (i:=i) (v:=v) t (by simpa using e);exact⟨c,by simpa using h1,h2⟩
def zv (c:AA):Wj:=.tuple [.int (c.1:Nat),.int (c.2:Nat)]
def yO.rdv {K:XZ}{H:Hp}{v:V}{c:AA}(h:yO H v c):Rdv K H v (zv c):=by
 obtain⟨a,rfl,h⟩:=h;exact .tup (SqT.of h) (.cons (.int _) (.cons (.int _) .nil))
def zkp (c d:AA):zhz (zv c) (zv d):=⟨rfl,rfl,by show max 0 (max 0 0)+1<=64;decide⟩
def zem (c d:AA):W1 (zv c) (zv d)=decide (c=d):=by
 obtain⟨a,b⟩:=c;obtain⟨x,y⟩:=d;show ((((a:Nat):Int)==((x:Nat):Int))&&((((b:Nat):Int)==((y:Nat):Int))&&true))=decide ((a,b)=(x,y));by_cases h1:a=x
 .by_cases h2:b=y
  .subst h1 h2;simp
  .have:¬ ((b:Int)=(y:Int)):=by lia
   simp[h2,this]
 .have:¬ ((a:Int)=(x:Int)):=by lia
  simp[h1,this]
def zbl (c k:Nat):(V.str ⟨#[c]⟩=V.str ⟨#[k]⟩)=(c=k):=by
 apply propext;constructor
 .intro h;have h2:(⟨#[c]⟩:Str)=⟨#[k]⟩:=V.str.inj h;have a:(#[c]:Array Nat)=#[k]:=congrArg Str.cps h2;simpa using a
 .rintro rfl;rfl
def Yn:("#":Str)=⟨#[35]⟩:=by decide+kernel
def zcQ:("?":Str)=⟨#[63]⟩:=by decide+kernel
def zM (c:Nat):Bool:=!decide (c=35)
def J0 (c:Nat):Bool:=decide (c=63)
def ZP (c:Nat):Bool:=zM c && !decide (c=63)
def zp8:Sp:=λb H Q _=>∃(p l c:Addr) (a:AD) (n:Int) (i j:Nat) (t:Str) (k:Nat),b=[.ref p,.ref c]/\qf H p l a n/\H c=some (.tup [.int (i:Nat),.int (j:Nat)])/\a[i]?=some t/\t.cps.toList[j]?=some k/\t.length<=Xz/\Q (.str ⟨#[k]⟩) H
def zfi (p:Nat->Bool):Sp:=λf H Q _=>∃(a l:Addr) (c:AD) (n:Int),f=[.ref a]/\qf H a l c n/\Rows bd.cps.toList c /\
 ∀(d:Addr) (e:AE) (b:Hp),H d=none->b d=some (.lst e)->Cel b e (Cells.zI p 0 (codes c))->zx H b->Q (.ref d) b
def znT (p:Nat->Bool):Sp:=λg H Q _=>∃(a l:Addr) (c:AD) (n:Int),g=[.ref a]/\qf H a l c n/\(∃f,Rows f c) /\
 ∀(d:Addr) (e:AE) (b:Hp),H d=none->b d=some (.lst e)->Cel b e (Cells.zI p 0 (codes c))->zx H b->Q (.ref d) b
def zlV:Sp:=λb H Q _=>∃(p l c:Addr) (a:AD) (n:Int) (i j:Nat) (t:Str) (k:Nat),b=[.ref p,.ref c]/\qf H p l a n/\H c=some (.tup [.int (i:Nat),.int (j:Nat)])/\a[i]?=some t/\t.cps.toList[j]?=some k/\t.length<=Xz/\48<=k/\k<=56/\Q (.int ((k:Int)-48)) H
def int_sign {k:Nat}(h1:48<=k)(h2:k<=56):O3 ⟨#[k]⟩=some ((k:Int)-48):=by
 have:∀k∈Va 57,48<=k->O3 ⟨#[k]⟩=some ((k:Int)-48):=by decide+kernel
 exact this k (VB.mpr (by lia)) h1
def zh1:zz ["board","cell"] ["board","cell"] (zq qq):=bh
def J1 (D:zh K mg "sign_at" qq ["board","cell"] f fd):qg P w K mg base CX0 1 f fd ["board","cell"] zp8:=by
 refine D.F.ok zh1 (λu H Q E h=>?_) (λe A a s H u Q E x h=>?_)
 .revert h;refine fQ λp l c r n i j t=>fJ λk z0 _=>?_;subst z0;rfl
 .revert h;refine fQ λp l c r n i j t=>gj λk z0 b d g=>fO λm o q=>?_;subst z0;refine⟨_,(zf (zF (zQ zaB (zQ jO (zQ qi (pvS 0) zj (λ_ _=>rfl)) (zQ qi (pvS 1) zj (λ_ _=>rfl)) (λ_ _=>rfl)) (zQ qi (pvS 1) zj (λ_ _=>rfl)) (λ_ _=>rfl)))),?_⟩;(try dsimp only[cxK,cxP,cxW]);exact⟨_,rfl,p,_,0,_,rfl,rfl,SqT.of b.tp,rfl,_,rfl,c,_,0,_,rfl,rfl,SqT.of d,rfl,l,_,_,_,rfl,rfl,SqL.of b.rw,yU (v:=V.str t) (by rw[Xv,g];rfl),_,rfl,c,_,1,_,rfl,rfl,SqT.of d,rfl,t,_,k,rfl,rfl,o,yU m,q⟩
def Zq:zz ["board","found","row","text"] ["board"] (zq qk):=bh
def zaL (T:Txt mg)(D:zh K mg "cells_of" qk ["board"] f fd):qg P w K mg base CX0 1 f fd ["board"] (znT zM):=by
 refine D.F.ok Zq (λvs H Q E h=>?_) (λak A aj s H vs Q E hr h=>?_)
 .revert h;refine gq λa l rs n z0 _=>?_;subst z0;rfl
 .obtain⟨a,l,rs,n,rfl,b,⟨sg,R⟩,q⟩:=h;refine⟨_,(@ze _ _ _ _ _ (@qG _ _ 1 _ _ _ _ Zq.nd rfl (V4 rfl) (@zV _ _ _ _ zd) (by rfl) (.inr rfl)) (ze (qH Xf rfl (yW (by rfl) T.qN (za (zQ qi (pvS 0) zj (λ_ _=>rfl)) zd)) (xq rfl (zP (pgq 2 Zq.nd) (zP (pgq 3 Zq.nd) jr))) (zf (jC (JN WS Vm Vl ZC (pvS 1) (za (pcm ["column","sign","row"] [none,none,some 2] cR (zf2 (by rfl) T.qN (za (pvS 3) zd)) (zb7 (n:=2) (K:=K) (by rfl) rfl (zP (pgN 0) (zP (pgN 1) jr))) (qu (zO zdS (pvS 1) (jf (v:=.str "#") (by rfl) T.Qh.choose_spec (by exact⟨_,rfl⟩)) (qb _))) (qj (za (pvS 2) (za (pvS 0) zd)))) zd))))) (zf (zF (pvS 1))))),?_⟩;(try dsimp only[cxK,cxP,cxW]);refine⟨x9,λd hd=>?_⟩;have s0:zx H (upd H d (.lst [])):=zc hd;refine⟨_,rfl,a,_,0,_,rfl,rfl,SqT.of (b.mono s0).tp,rfl,l,rfl,⟨_,SqL.of (b.mono s0).rw⟩,?_⟩;refine yH (K:=K) (l:=l) (xs:=rs.map V.str) (λi N I=>∃(v2 v3:Option V) (B:AE),N=[some (.ref a),some (.ref d),v2,v3]/\zx H I/\I d=some (.lst B)/\Cel I B (Cells.zI zM 0 ((codes rs).take i)))
   (dN _ _ [] rfl s0 zb (.nil)) (λi N I _ ⟨_,_,_,_,s1,_⟩=>SqL.of (b.mono s1).rw) ?_ ?_
  .refine λi x tt N H1 Y ah=>fY λv2 v3 B z0 s1 O r=>?_;subst z0;rw[Xv]at Y;cases e:rs[i]? with
   | none =>
    rw[e]at Y;cases Y
   | some t =>
    rw[e]at Y;cases Y;have al:i<rs.length:=(X5.mp e).1;have st:zx H1 (upd H1 tt (.tup [.int (i:Nat),.str t])):=zc ah;refine dW tt _ rfl (SqT.of zb) rfl _ _ rfl _ _ rfl rfl ?_;have U:upd H1 tt (.tup [.int (i:Nat),.str t]) d=some (.lst B):=st _ _ O;refine⟨_,rfl,.inl ⟨rfl,_,SqL.of U⟩,_,rfl,t,rfl,λz hz=>?_⟩;refine zcv (x:=t) (λj N I=>∃(u0 u1:Option V) (m:AE),N=[u0,u1,some (.int (i:Nat))]/\zx (upd H1 tt (.tup [.int (i:Nat),.str t])) I/\I z=some (.lst m)/\Cel I m (Cells.zZ zM i 0 (t.cps.toList.take j)))
     (dN _ _ [] rfl (zc hz) zb (.nil)) ?_ ?_
    .refine λj c t2 N J hc ag=>fY λu0 u1 m z0 s2 k g=>?_;subst z0;refine dW t2 _ rfl (SqT.of zb) rfl _ _ rfl _ _ rfl rfl ?_;refine⟨_,rfl,rfl,_,rfl,?_⟩;have af:t.cps.toList[j]?=some c:=by rw[Xy];exact hc
     have L:zx J (upd J t2 (.tup [.int (j:Nat),.str ⟨#[c]⟩])):=zc ag;have step:=Cells.Q7 (p:=zM) (i:=i) af;have ed:(!decide (V.str ⟨#[c]⟩=V.str "#"))=zM c:=by
      rw[Yn];simp only[zbl];rfl
     rw[ed];by_cases hp:zM c=true
     .rw[hp]at step;refine yD hp ?_;refine⟨_,rfl,_,rfl,yp,λM ae=>?_⟩;have ai:z≠M:=zg (L _ _ k) ae;have s4:zx (upd J t2 (.tup [.int (j:Nat),.str ⟨#[c]⟩])) (upd (upd J t2 (.tup [.int (j:Nat),.str ⟨#[c]⟩])) M (.tup [.int (i:Nat),.int (j:Nat)])):=zc ae;have ab:m.length<=8:=by
       rw[g.length];refine X6 (Cells.jF _ _ _ _) ?_;have:=R.short _ (X8 (qD e));rw[XJ];lia
      refine dI m (s4 _ _ (L _ _ k)) (XM ab (by decide)) (dN (some (.int (j:Nat))) (some (.str ⟨#[c]⟩)) (m++[.ref M]) rfl (λb' o G=>?_) zb ?_)
      .have hb:b'≠z:=λy=>by
        subst y;rw[hz]at G;cases G
       rw[zp hb];exact s4 _ _ (L _ _ (s2 _ _ G))
      .rw[step];have keep:∀x o,x≠z->upd (upd J t2 (.tup [.int (j:Nat),.str ⟨#[c]⟩])) M (.tup [.int (i:Nat),.int (j:Nat)]) x=some o->upd (upd (upd J t2 (.tup [.int (j:Nat),.str ⟨#[c]⟩])) M (.tup [.int (i:Nat),.int (j:Nat)])) z (.lst (m++[.ref M])) x=some o:=λx o Y G=>by
        rw[zp Y];exact G
       refine Cel.snoc ?_ ⟨M,rfl,keep _ _ ai.symm zb⟩;exact Cel.into z (.lst (m++[.ref M])) (s4 _ _ (L _ _ k)) (Cel.mono s4 (Cel.mono L g))
     .have ac:zM c=false:=by simpa using hp
      rw[ac]at step;refine jE ac ?_;refine dN (some (.int (j:Nat))) (some (.str ⟨#[c]⟩)) m rfl (s2.trans L) (L _ _ k) ?_;rw[step];simpa using Cel.mono L g
    .refine λN J=>fY λu0 u1 m z0 s2 k g=>?_;subst z0;have am:d≠z:=zg U hz;have aa:J d=some (.lst B):=s2 _ _ U;have full:t.cps.toList.take t.cps.size=t.cps.toList:=by
      rw[<- X4,XD]
     rw[full]at g;have step:=Cells.Q8 (p:=zM) (qD e);have l1:B.length<=64:=by
      rw[r.length];refine X6 (Cells.qT _ _ _ λu hu=>R.short u (VW hu)) ?_;have:=R.hi;rw[XJ,qV];lia
     have l2:m.length<=8:=by
      rw[g.length];exact X6 (Cells.jF _ _ _ _) (R.short _ (X8 (qD e)))
     refine dY d z B m rfl rfl aa k (X6 (Nat.add_le_add l1 l2) (by decide)) ?_;refine dN _ _ (B++m) rfl (λb' o G=>?_) zb ?_
     .have hb:b'≠d:=λy=>by
       subst y;rw[hd]at G;cases G
      rw[zp hb];exact s2 _ _ (st _ _ (s1 _ _ G))
     .rw[step];exact Cel.into d _ aa (Cel.append (Cel.mono s2 (Cel.mono st r)) g)
  .refine λN H1=>fY λv2 v3 B z0 s1 O r=>?_;subst z0;rw[ZB,<- qV,XD]at r;exact⟨_,rfl,q d B H1 hd O r s1⟩
def zbD (T:Txt mg)(D:zh K mg "cells_of" qk ["board"] f fd):qg P w K mg base CX0 1 f fd ["board"] (zfi zM):=(zaL T D).imp λ_ _ _ _ ⟨a,l,c,n,e,b,R,q⟩=>(fD a l c n e b ⟨_,R⟩ q)
def znU (c:Nat):(zM c&&decide (c=63))=J0 c:=by
 unfold zM J0;by_cases h:c=63
 .subst h;rfl
 .simp[h]
def zkq:zz ["board"] ["board"] (zq ZM):=bh
def JJ {f1 f2:Addr}{aa ab:XH}(T:Txt mg)(D:zh K mg "closed" ZM ["board"] f fd)(zw:zh K mg "cells_of" qk ["board"] f1 aa)(zu:zh K mg "sign_at" qq ["board","cell"] f2 ab) :
  qg P w K mg base CX0 2 f fd ["board"] (zfi J0):=by
 refine D.F.ok zkq (λvs H Q E h=>?_) (λaf A ae s H vs Q E hr h=>?_)
 .revert h;refine gq λa l g n z0 _=>?_;subst z0;rfl
 .revert h;refine gk λa l g n z0 b R q=>?_;subst z0;refine⟨_,(zf (zF (pcm ["cell","board"] [none,some 0] cR (zJ (pc0 (zbD T zw) hr zw (za (pvS 0) zd))) (pgN 0) (qu (zO YW (pc0 (J1 zu) hr zu (za (pvS 1) (za (pvS 0) zd))) (jf (v:=.str "?") (by rfl) T.Zw.choose_spec (by exact⟨_,rfl⟩)) (qb _))) (pvS 0)))),?_⟩;(try dsimp only[cxK,cxP,cxW]);refine⟨_,rfl,a,l,g,n,rfl,b,R,λd ws H1 hd G I s1=>⟨d,rfl,⟨_,SqL.of G⟩,λz Y=>?_⟩⟩;have nz:d≠z:=zg G Y;refine qa (K:=K) (a:=d) (xs:=ws) (λi σ O=>∃(u0:Option V) (r:AE),σ=[u0,some (.ref a)]/\zx H1 O/\O z=some (.lst r)/\Cel O r (((Cells.zI zM 0 (codes g)).take i).filter λx=>decide (Cells.sgn (codes g) x=63)))
   (dH _ [] rfl (zc Y) zb (.nil)) (λi σ O _ ⟨_,_,_,B,_⟩=>SqL.of (B _ _ G)) ?_ ?_
  .refine λi x σ H2 hx=>fH λu0 r z0 B m e=>?_;subst z0;refine fU (λc L ca z0 J=>?_) (Cel.get (Cel.mono B I) hx);subst z0;refine gk (λk0 j u k ec M hj ag=>?_) (Cells.yK (X8 L));refine fJ (λt ht z0=>?_) (ZO M);subst z0;rw[VQ]at ec;subst ec;refine⟨_,rfl,_,rfl,a,l,ca,g,n,k0,j,t,k,rfl,(b.mono s1).mono B,J,ht,hj,R.tlen ht,rfl,_,rfl,?_⟩;have es:Cells.sgn (codes g) (k0,j)=k:=Cells.Q9 M hj;have step:((Cells.zI zM 0 (codes g)).take (i+1)).filter (λx=>decide (Cells.sgn (codes g) x=63))=((Cells.zI zM 0 (codes g)).take i).filter (λx=>decide (Cells.sgn (codes g) x=63))++(if decide (k=63)=true then [(k0,j)] else []):=by
    rw[Xp,L,WF];congr 1;show O6 _ [(k0,j)]=_;rw[VO];try dsimp only
    rw[es];split<;>rfl
   have ed:decide (V.str ⟨#[k]⟩=V.str "?")=decide (k=63):=by
    rw[zcQ];simp only[zbl]
   rw[ed];by_cases U:decide (k=63)=true
   .rw[bw U]at step;refine yD U ?_;have N:r.length<=64:=by
     rw[e.length];refine X6 (W7 _ _) ?_;rw[XJ];have h1:=Cells.qT zM 0 (codes g) R.short;have h2:=R.hi;rw[qV]at h1;lia
    refine⟨_,rfl,r,m,XM N (by decide),_,r++[.ref ca],rfl,λb' o e'=>?_,zb,?_⟩
    .have hb:b'≠z:=λy=>by
      subst y;rw[Y]at e';cases e'
     rw[zp hb];exact B _ _ e'
    .rw[step];exact Cel.into z _ m (Cel.snoc e ⟨ca,rfl,J⟩)
   .rw[bq U]at step;refine jE (by simpa using U) ?_;refine dH _ r rfl B m ?_;rw[step];simpa using e
  .refine λσ H2=>fH λu0 r z0 B m e=>?_;subst z0;rw[I.length,XD,Cells.all_filter (p:=zM) (q:=λk=>decide (k=63)) (codes g)]at e;have ac:H z=none:=s1.free Y;exact q z r H2 ac m (by rw[Cells.zbC (q:=J0) znU]at e;exact e) (s1.trans B)
def zdB:zz ["board"] ["board"] (zq qL):=bh
def yt {f1 f2:Addr}{aa ab:XH}(T:Txt mg)(D:zh K mg "open_cells" qL ["board"] f fd)(zw:zh K mg "cells_of" qk ["board"] f1 aa)(zu:zh K mg "sign_at" qq ["board","cell"] f2 ab) :
  qg P w K mg base CX0 2 f fd ["board"] (zfi ZP):=by
 refine D.F.ok zdB (λvs H Q E h=>?_) (λaf A ae s H vs Q E hr h=>?_)
 .revert h;refine gq λa l g n z0 _=>?_;subst z0;rfl
 .revert h;refine gk λa l g n z0 b R q=>?_;subst z0;refine⟨_,(zf (zF (pcm ["cell","board"] [none,some 0] cR (zJ (pc0 (zbD T zw) hr zw (za (pvS 0) zd))) (pgN 0) (qu (zO zdS (pc0 (J1 zu) hr zu (za (pvS 1) (za (pvS 0) zd))) (jf (v:=.str "?") (by rfl) T.Zw.choose_spec (by exact⟨_,rfl⟩)) (qb _))) (pvS 0)))),?_⟩;(try dsimp only[cxK,cxP,cxW]);refine⟨_,rfl,a,l,g,n,rfl,b,R,λd ws H1 hd G I s1=>⟨d,rfl,⟨_,SqL.of G⟩,λz Y=>?_⟩⟩;have nz:d≠z:=zg G Y;refine qa (K:=K) (a:=d) (xs:=ws) (λi σ O=>∃(u0:Option V) (r:AE),σ=[u0,some (.ref a)]/\zx H1 O/\O z=some (.lst r)/\Cel O r (((Cells.zI zM 0 (codes g)).take i).filter λx=>!decide (Cells.sgn (codes g) x=63)))
   (dH _ [] rfl (zc Y) zb (.nil)) (λi σ O _ ⟨_,_,_,B,_⟩=>SqL.of (B _ _ G)) ?_ ?_
  .refine λi x σ H2 hx=>fH λu0 r z0 B m e=>?_;subst z0;refine fU (λc L ca z0 J=>?_) (Cel.get (Cel.mono B I) hx);subst z0;refine gk (λk0 j u k ec M hj ag=>?_) (Cells.yK (X8 L));refine fJ (λt ht z0=>?_) (ZO M);subst z0;rw[VQ]at ec;subst ec;refine⟨_,rfl,_,rfl,a,l,ca,g,n,k0,j,t,k,rfl,(b.mono s1).mono B,J,ht,hj,R.tlen ht,rfl,_,rfl,?_⟩;have es:Cells.sgn (codes g) (k0,j)=k:=Cells.Q9 M hj;have step:((Cells.zI zM 0 (codes g)).take (i+1)).filter (λx=>!decide (Cells.sgn (codes g) x=63))=((Cells.zI zM 0 (codes g)).take i).filter (λx=>!decide (Cells.sgn (codes g) x=63))++(if (!decide (k=63))=true then [(k0,j)] else []):=by
    rw[Xp,L,WF];congr 1;show O6 _ [(k0,j)]=_;rw[VO];try dsimp only
    rw[es];split<;>rfl
   have ed:(!decide (V.str ⟨#[k]⟩=V.str "?"))=(!decide (k=63)):=by
    rw[zcQ];simp only[zbl]
   rw[ed];by_cases U:(!decide (k=63))=true
   .rw[bw U]at step;refine yD U ?_;have N:r.length<=64:=by
     rw[e.length];refine X6 (W7 _ _) ?_;rw[XJ];have h1:=Cells.qT zM 0 (codes g) R.short;have h2:=R.hi;rw[qV]at h1;lia
    refine⟨_,rfl,r,m,XM N (by decide),_,r++[.ref ca],rfl,λb' o e'=>?_,zb,?_⟩
    .have hb:b'≠z:=λy=>by
      subst y;rw[Y]at e';cases e'
     rw[zp hb];exact B _ _ e'
    .rw[step];exact Cel.into z _ m (Cel.snoc e ⟨ca,rfl,J⟩)
   .rw[bq U]at step;refine jE (by simpa using U) ?_;refine dH _ r rfl B m ?_;rw[step];simpa using e
  .refine λσ H2=>fH λu0 r z0 B m e=>?_;subst z0;rw[I.length,XD,Cells.all_filter (p:=zM) (q:=λk=>(!decide (k=63))) (codes g)]at e;have ac:H z=none:=s1.free Y;exact q z r H2 ac m e (s1.trans B)
def zfj:zz ["board","cell"] ["board","cell"] (zq jz):=bh
def YA {o:Addr}{a:XH}(T:Txt mg)(D:zh K mg "number_at" jz ["board","cell"] f fd)(g:zh K mg "sign_at" qq ["board","cell"] o a):qg P w K mg base CX0 2 f fd ["board","cell"] zlV:=by
 refine D.F.ok zfj (λG H Q E h=>?_) (λm A d s H G Q E y h=>?_)
 .revert h;refine fQ λp l c e n i j t=>fJ λk z0 _=>?_;subst z0;rfl
 .revert h;refine fQ λp l c e n i j t=>gj λk z0 b r u=>fX λv x z B q=>?_;subst z0;refine⟨_,(zf (zF (pt1 zeU T.zrx PyProof.Rows.boot_int (pc0 (J1 g) y g (za (pvS 0) (za (pvS 1) zd)))))),?_⟩;(try dsimp only[cxK,cxP,cxW]);exact⟨_,rfl,_,rfl,p,l,c,e,n,i,j,t,k,rfl,b,r,u,v,x,⟨#[k]⟩,_,rfl,int_sign z B,(by show 1<=640;decide),q⟩
def zbm {k:Nat}(h:k∈bd.cps.toList)(a:ZP k=true):48<=k/\k<=56:=by
 have:∀k∈bd.cps.toList,ZP k=true->48<=k/\k<=56:=by decide+kernel
 exact this k h a
def Rows.openAt {rs:AD}(R:Rows bd.cps.toList rs){p:Nat->Bool}{c:AA}(h:c∈Cells.zI p 0 (codes rs)):∃t k,rs[c.1]?=some t/\t.cps.toList[c.2]?=some k/\p k=true/\k∈bd.cps.toList/\t.length<=Xz:=by
 refine gk (λg j u k e a f b=>?_) (Cells.yK h);obtain⟨t,d,rfl⟩:=ZO a;rw[VQ]at e;subst e;refine fP (λn _ _ q=>?_) R.ex;exact dR t k d f b ((q t (X8 d)).mem k (X8 f)) (R.tlen d)
def zK (rs:AD)(y:AA):AB:=(Cells.zI zM 0 (codes rs)).filter λx=>Cells.near x y
def zlW:Sp:=λf H Q _=>∃(p l c:Addr) (b:AD) (n:Int) (i j:Nat),f=[.ref p,.ref c]/\qf H p l b n/\Rows bd.cps.toList b/\H c=some (.tup [.int (i:Nat),.int (j:Nat)])/\i<64/\j<64 /\
 ∀(d:Addr) (e:AE) (a:Hp),H d=none->a d=some (.lst e)->Cel a e (zK b (i,j))->zx H a->Q (.ref d) a
def zgz (i:Nat):(if (0:Int)>(i:Int)-1 then (0:Int) else (i:Int)-1)=((i-1:Nat):Int):=by
 split<;>lia
def zgA (i m:Nat):(if ((m:Nat):Int)<(i:Int)+2 then ((m:Nat):Int) else (i:Int)+2)=((min (i+2) m:Nat):Int):=by
 split<;>lia
def zgB {f:AA->Bool}{l:AB}{x:AA}(a:Bool):(l++(if a=true then [x] else [])).filter f=l.filter f++(if (a&&f x)=true then [x] else []):=by
 rw[WF];congr 1;by_cases h:a=true
 .by_cases h2:f x=true
  .simp[h,h2]
  .simp[h,h2]
 .simp[h]
def ZQ:zz ["board","cell","rows","found","row","column"] ["board","cell"] (zq jP):=bh
def ZR (T:Txt mg)(D:zh K mg "around" jP ["board","cell"] f fd):qg P w K mg base CX0 1 f fd ["board","cell"] zlW:=by
 refine D.F.ok ZQ (λvs H Q E h=>?_) (λav A aq s H vs Q E hr h=>?_)
 .revert h;refine fM λp l M e=>fR λn i j z0 _=>?_;subst z0;rfl
 .revert h;refine fM λp l M e=>gn λn i j z0 b R B ar au q=>?_;subst z0;refine⟨_,(ze (qz 2 ZQ.nd (zQ qi (pvS 0) zj (λ_ _=>rfl))) (@ze _ _ _ _ _ (@qG _ _ 3 _ _ _ _ ZQ.nd rfl (V4 rfl) (@zV _ _ _ _ zd) (by rfl) (.inr rfl)) (ze (qH Xf rfl (za5 (by rfl) T.JB (za (pb2 (zdT rfl) T.zlT SF (zG Jv (zQ qi (pvS 1) zj (λ_ _=>rfl)) zj) zj) (za (pb2 (za7 rfl) T.zi6 T9 (zG jt (zQ qi (pvS 1) zj (λ_ _=>rfl)) zj) (pb1 zH T.qI Xk (pvS 2))) zd))) (pgq 4 ZQ.nd) (zf (qH Xf rfl (za5 (by rfl) T.JB (za (pb2 (zdT rfl) T.zlT SF (zG Jv (zQ qi (pvS 1) zj (λ_ _=>rfl)) zj) zj) (za (pb2 (za7 rfl) T.zi6 T9 (zG jt (zQ qi (pvS 1) zj (λ_ _=>rfl)) zj) (pb1 jg T.qI Xk (zQ jO (pvS 2) (pvS 4) (λ_ _=>rfl)))) zd))) (pgq 5 ZQ.nd) (zf (qR (PW.pt (zpu (zO zdS (zQ zaB (zQ jO (pvS 2) (pvS 4) (λ_ _=>rfl)) (pvS 5) (λ_ _=>rfl)) (jf (v:=.str "#") (by rfl) T.Qh.choose_spec (by exact⟨_,rfl⟩)) (qb _)) (zng (zO (jV hr.units) (qj (za (pvS 4) (za (pvS 5) zd))) (pvS 1) (qb _))))) (zf (jC (JN WS Wm Wl jX (pvS 3) (za (qj (za (pvS 4) (za (pvS 5) zd))) zd)))) qd))))) (zf (zF (pvS 3)))))),?_⟩;(try dsimp only[cxK,cxP,cxW]);refine⟨_,rfl,p,_,0,_,rfl,rfl,SqT.of b.tp,rfl,?_⟩;refine⟨x9,λd hd=>?_⟩;have s0:zx H (upd H d (.lst [])):=zc hd;have r8:=R.hi;refine⟨_,rfl,M,_,0,_,rfl,rfl,SqT.of (s0 _ _ B),rfl,_,_,rfl,rfl,_,_,rfl,_,rfl,M,_,0,_,rfl,rfl,SqT.of (s0 _ _ B),rfl,_,_,rfl,rfl,_,rfl,l,_,rfl,.inl (SqL.of (b.mono s0).rw),_,_,rfl,((i-1:Nat):Int),((min (i+2) e.length:Nat):Int),?_,⟨by lia,by lia,by lia,by lia⟩,?_⟩
  .show [V.int (if (0:Int)>(i:Int)-1 then (0:Int) else (i:Int)-1),V.int (if (((e.map V.str).length:Nat):Int)<(i:Int)+2 then (((e.map V.str).length:Nat):Int) else (i:Int)+2)]=_;rw[ZB,zgz,zgA]
  refine yG (lo:=((i-1:Nat):Int)) (λk σ O=>∃(v4 v5:Option V) (L:AE),σ=[some (.ref p),some (.ref M),some (.ref l),some (.ref d),v4,v5]/\zx H O/\O d=some (.lst L)/\Cel O L ((Cells.zI zM 0 ((codes e).take (i-1+k))).filter λx=>Cells.near x (i,j)))
   (dN _ _ [] rfl s0 zb ?_) ?_ ?_
  .rw[Cells.zlR]
   .exact .nil
   .intro r c al;rw[WX,ne_eq,Cells.ZJ];rintro⟨⟨_,h2⟩,_⟩;dsimp only at h2;lia
  .refine λk σ H1 hk=>fY λv4 v5 L z0 s1 Y J=>?_;subst z0;have am:i-1+k<e.length:=by lia
   have U:((i-1:Nat):Int)+(k:Nat)=((i-1+k:Nat):Int):=by lia
   rw[U];generalize ay:i-1+k=r at *
   obtain⟨t,ht⟩:∃t,e[r]?=some t:=⟨_,X0 am⟩;have ai:t.length<=Xz:=R.tlen ht;have a1:t.cps.toList.length<=8:=R.short _ (X8 (qD ht));have ab:atI (e.map V.str) ((r:Nat):Int)=some (V.str t):=yU (by rw[Xv,ht];rfl);refine⟨_,rfl,M,_,1,_,rfl,rfl,SqT.of (s1 _ _ B),rfl,_,_,rfl,rfl,_,_,rfl,_,rfl,M,_,1,_,rfl,rfl,SqT.of (s1 _ _ B),rfl,_,_,rfl,rfl,_,rfl,_,rfl,l,_,_,_,rfl,rfl,SqL.of (b.mono s1).rw,ab,t,rfl,ai,_,_,rfl,((j-1:Nat):Int),((min (j+2) t.cps.size:Nat):Int),?_,⟨by lia,by lia,by lia,?_⟩,?_⟩
   .show [V.int (if (0:Int)>(j:Int)-1 then (0:Int) else (j:Int)-1),V.int (if ((t.cps.size:Nat):Int)<(j:Int)+2 then ((t.cps.size:Nat):Int) else (j:Int)+2)]=_;rw[zgz,zgA]
   .lia
   have az:t.cps.toList.length=t.cps.size:=X4;refine yG (lo:=((j-1:Nat):Int)) (λm σ O=>∃(v5:Option V) (L:AE),σ=[some (.ref p),some (.ref M),some (.ref l),some (.ref d),some (.int (r:Nat)),v5]/\zx H O/\O d=some (.lst L)/\Cel O L ((Cells.zI zM 0 ((codes e).take r)).filter (λx=>Cells.near x (i,j))++(Cells.zZ zM r 0 (t.cps.toList.take (j-1+m))).filter λx=>Cells.near x (i,j)))
    (dH _ L rfl s1 Y ?_) ?_ ?_
   .rw[Cells.zlS (t:=t.cps.toList),WV]
    .exact J
    .intro c aj;rw[WX,ne_eq,Cells.ZJ];rintro⟨_,⟨_,h2⟩,_⟩;dsimp only at h2;lia
   .refine λm σ H2 hm=>fH λv5 y z0 s2 G g=>?_;subst z0;have ax:j-1+m<t.cps.size:=by lia
    have I:((j-1:Nat):Int)+(m:Nat)=((j-1+m:Nat):Int):=by lia
    rw[I];generalize aw:j-1+m=c at *
    have z:j-1+(m+1)=c+1:=by lia
    obtain⟨N,af⟩:∃N,t.cps.toList[c]?=some N:=⟨_,X0 (by lia)⟩;have step:=Cells.Q7 (p:=zM) (i:=r) af;have a:(Cells.zZ zM r 0 (t.cps.toList.take (c+1))).filter (λx=>Cells.near x (i,j))=(Cells.zZ zM r 0 (t.cps.toList.take c)).filter (λx=>Cells.near x (i,j))++(if (zM N&&Cells.near (r,c) (i,j))=true then [(r,c)] else []):=by
     rw[step,zgB]
    have nr:Cells.near (r,c) (i,j)=!decide ((r,c)=(i,j)):=by
     rw[Wh,Cells.ZJ];simp only[Wu,decide_eq_false_iff_not];constructor
     .exact λh=>h.2.2
     .intro h;refine⟨⟨?_,?_⟩,⟨?_,?_⟩,h⟩<;>(try dsimp only)<;>lia
    refine⟨_,rfl,_,rfl,l,_,_,_,rfl,rfl,SqL.of (b.mono s2).rw,ab,_,rfl,t,_,N,rfl,rfl,ai,yU af,rfl,_,rfl,?_⟩;have ed:(!decide (V.str ⟨#[N]⟩=V.str "#"))=zM N:=by
     rw[Yn];simp only[zbl];rfl
    rw[ed];by_cases hp:zM N=true
    .refine yD hp ?_;refine⟨_,rfl,_,rfl,yp,λtp an=>?_⟩;have s3:zx H2 (upd H2 tp (.tup [.int (r:Nat),.int (c:Nat)])):=zc an;have ae:=s3 _ _ (s2 _ _ B);refine⟨_,rfl,_,_,yO.rdv (c:=(r,c)) ⟨tp,rfl,zb⟩,yO.rdv (c:=(i,j)) ⟨M,rfl,ae⟩,zkp _ _,_,rfl,?_⟩;have ee:(if true=true then !PyData.eqv (zv (r,c)) (zv (i,j)) else W1 (zv (r,c)) (zv (i,j)))=Cells.near (r,c) (i,j):=by
      rw[zem,nr];rfl
     rw[ee];rw[hp,Bool.true_and]at a;by_cases hn:Cells.near (r,c) (i,j)=true
     .refine yD hn ?_;rw[bw hn]at a;have aa:=s3 _ _ G;refine⟨_,rfl,.inl ⟨rfl,_,SqL.of aa⟩,_,rfl,_,rfl,yp,λtq ao=>?_⟩;have s4:zx (upd H2 tp (.tup [.int (r:Nat),.int (c:Nat)])) (upd (upd H2 tp (.tup [.int (r:Nat),.int (c:Nat)])) tq (.tup [.int (r:Nat),.int (c:Nat)])):=zc ao;have ag:y.length<=128:=by
       rw[g.length,XX];have h1:=W7 (λx=>Cells.near x (i,j)) (Cells.zI zM 0 ((codes e).take r));have h2:=W7 (λx=>Cells.near x (i,j)) (Cells.zZ zM r 0 (t.cps.toList.take c));have h3:=Cells.qT zM 0 ((codes e).take r) λu hu=>R.short u (VW hu);have h4:=Cells.jF zM r 0 (t.cps.toList.take c);rw[XJ,qV]at h3;rw[XJ]at h4;lia
      refine⟨d,_,_,rfl,rfl,s4 _ _ aa,XM ag (by decide),?_⟩;refine dH _ (y++[.ref tq]) rfl (λb' o e'=>?_) zb ?_
      .rw[zp (zg e' hd)];exact s4 _ _ (s3 _ _ (s2 _ _ e'))
      .rw[z,a,<- WL];exact Cel.into d _ (s4 _ _ aa) (Cel.snoc (Cel.mono s4 (Cel.mono s3 g)) ⟨tq,rfl,zb⟩)
     .have ak:Cells.near (r,c) (i,j)=false:=by simpa using hn
      refine jE ak ?_;rw[bq hn,WV]at a;refine dH _ y rfl (s2.trans s3) (s3 _ _ G) ?_;rw[z,a];exact Cel.mono s3 g
    .have ah:zM N=false:=by simpa using hp
     refine jE ah ?_;refine zap ?_;rw[ah,Bool.false_and,bq XS,WV]at a;refine dH _ y rfl s2 G ?_;rw[z,a];exact g
   .refine λσ H2=>fH λv5 y z0 s2 G g=>?_;subst z0;refine dN _ _ y rfl s2 G ?_;have full:(Cells.zZ zM r 0 (t.cps.toList.take (j-1+(((min (j+2) t.cps.size:Nat):Int)-((j-1:Nat):Int)).toNat))).filter (λx=>Cells.near x (i,j))=(Cells.zZ zM r 0 t.cps.toList).filter λx=>Cells.near x (i,j):=by
     by_cases ac:t.cps.size<=j-1+(((min (j+2) t.cps.size:Nat):Int)-((j-1:Nat):Int)).toNat
     .rw[WD (by lia)]
     .refine Cells.zko λc aj=>?_;rw[WX,ne_eq,Cells.ZJ];rintro⟨_,⟨h2,_⟩,_⟩;dsimp only at h2;lia
    rw[full]at g;have e1:i-1+(k+1)=r+1:=by lia
    rw[e1,Cells.Q8 (qD ht),WF];exact g
  .refine λσ H1=>fY λv4 v5 L z0 s1 Y J=>?_;subst z0;have full:(Cells.zI zM 0 ((codes e).take (i-1+(((min (i+2) e.length:Nat):Int)-((i-1:Nat):Int)).toNat))).filter (λx=>Cells.near x (i,j))=zK e (i,j):=by
    by_cases ac:e.length<=i-1+(((min (i+2) e.length:Nat):Int)-((i-1:Nat):Int)).toNat
    .rw[WD (by rw[qV];lia)];rfl
    .refine Cells.zkn λr c al=>?_;rw[WX,ne_eq,Cells.ZJ];rintro⟨⟨h2,_⟩,_⟩;dsimp only at h2;lia
   rw[full]at J;exact⟨_,rfl,q d L H1 hd Y J s1⟩
def yO.rdn {N:Addr->Prop}{H:Hp}{v:V}{c:AA}(h:yO H v c):Rdn N H v (zv c):=by
 obtain⟨a,rfl,h⟩:=h;exact .tup h (.cons (.int _) (.cons (.int _) .nil))
theorem Cel.rdn {N:Addr->Prop}{H:Hp}{vs:AE}{cs:AB}(a:Cel H vs cs):zC N H vs (cs.map zv):=by
 induction a with
 | nil=>exact .nil
 | cons h _ b =>
  exact .cons (yO.rdn h) b
def Rdn.celR {N:Addr->Prop}{H:Hp}{v:V}{c:AA}(h:Rdn N H v (zv c)):yO H v c:=by
 cases h with
 | tup h t =>
  cases t with
  | cons a t =>
   cases a;cases t with
   | cons b t =>
    cases b;cases t;exact⟨_,rfl,h⟩
theorem zC.cel {N:Addr->Prop}{H:Hp}:∀{cs:AB} {vs:AE},zC N H vs (cs.map zv)->Cel H vs cs
 | [],_,h=>by cases h;exact .nil
 | c::r,_,h=>by
  cases h with
  | cons a t=>exact .cons (Rdn.celR a) (zC.cel t)
theorem zC.bools {N:Addr->Prop}{H:Hp}:∀{bs:List Bool} {vs:AE},zC N H vs (bs.map UM)->vs=bs.map V.bl
 | [],_,h=>by cases h;rfl
 | b::r,_,h=>by
  cases h with
  | cons a t =>
   cases a;rw[zC.bools t];rfl
theorem ql {α:Type}(p:α->Bool)(g:α->Wj):∀cs:List α,(cs.map λx=>if p x=true then some (g x) else none).filterMap id=(cs.filter p).map g
 | []=>rfl
 | c::r=>by
  rw[Xw,U8,VO];by_cases h:p c=true
  .rw[bw h,bw h];show g c::_=g c::_;rw[ql p g r]
  .rw[bq h,bq h];exact ql p g r
theorem ZS {α:Type}(g:α->Wj):∀cs:List α,(cs.map λx=>some (g x)).filterMap id=cs.map g
 | []=>rfl
 | c::r=>by
  rw[Xw,U8];show g c::_=g c::_;rw[ZS g r]
def jR {α b:Type}{g:α->b}{cs:List α}{i:Nat}{c:α}{o:b}(h:cs[i]?=some c)(a:(cs.map g)[i]?=some o):o=g c:=by
 rw[Xv,h]at a;exact(Option.some.inj a).symm
def clA (rs:AD)(c:AA):AB:=(zK rs c).filter λx=>decide (Cells.sgn (codes rs) x=63)
def zT (rs:AD):AB:=Cells.zI J0 0 (codes rs)
def qx (rs:AD):AB:=Cells.zI ZP 0 (codes rs)
def xx (rs:AD):AB:=(zT rs).filter λc=>!((qx rs).map λo=>(zK rs o).any λz=>decide (z=c)).any id
def YN (rs:AD):AB:=((qx rs).filter λo=>(clA rs o).isEmpty).filter λo=>!decide (Cells.sgn (codes rs) o=48)
def qW {p:Nat->Bool}{rs:AD}(R:Rows bd.cps.toList rs):(Cells.zI p 0 (codes rs)).length<=64:=by
 have h1:=Cells.qT p 0 (codes rs) R.short;have h2:=R.hi;rw[qV]at h1;lia
def xY {rs:AD}(R:Rows bd.cps.toList rs)(c:AA):(zK rs c).length<=64:=X6 (W7 _ _) (qW R)
def zW {p:Nat->Bool}{rs:AD}{c:AA}(h:c∈Cells.zI p 0 (codes rs)):∃t k,rs[c.1]?=some t/\t.cps.toList[c.2]?=some k/\p k=true/\Cells.sgn (codes rs) c=k:=by
 refine gk (λg j u k d a e b=>?_) (Cells.yK h);obtain⟨t,f,rfl⟩:=ZO a;rw[VQ]at d;subst d;exact dH t k f e b (Cells.Q9 a e)
def yE {rs:AD}{c:AA}{t:Str}{k:Nat}(R:Rows bd.cps.toList rs)(h1:rs[c.1]?=some t)(h2:t.cps.toList[c.2]?=some k):c.1<64/\c.2<64:=by
 have a:=(X5.mp h1).1;have b:=(X5.mp h2).1;have e:=R.hi;have f:=R.short _ (X8 (qD h1));lia
def zi7 {rs:AD}{i j:Nat}{t:Str}{k:Nat}(R:Rows bd.cps.toList rs)(h1:rs[i]?=some t)(h2:t.cps.toList[j]?=some k):k∈bd.cps.toList:=by
 obtain⟨n,_,_,h⟩:=R.ex;exact(h t (X8 h1)).mem k (X8 h2)
def zoY:Sp:=λg H Q _=>∃(p l e:Addr) (b:AD) (n:Int) (c:AA),g=[.ref p,.ref e]/\qf H p l b n/\Rows bd.cps.toList b/\H e=some (.tup [.int (c.1:Nat),.int (c.2:Nat)])/\c.1<64/\c.2<64 /\
 ∀(d:Addr) (f:AE) (a:Hp),H d=none->a d=some (.lst f)->Cel a f (clA b c)->zx H a->Q (.ref d) a
def zoZ (g:AD->AB):Sp:=λf H Q _=>∃(a l:Addr) (c:AD) (n:Int),f=[.ref a]/\qf H a l c n/\Rows bd.cps.toList c /\
 ∀(d:Addr) (e:AE) (b:Hp),H d=none->b d=some (.lst e)->Cel b e (g c)->zx H b->Q (.ref d) b
def zbn:zz ["board","cell"] ["board","cell"] (zq qQ):=bh
def yi {f1 f2:Addr}{I J:XH}(T:Txt mg)(D:zh K mg "closed_around" qQ ["board","cell"] f fd)(zL:zh K mg "around" jP ["board","cell"] f1 I)(zu:zh K mg "sign_at" qq ["board","cell"] f2 J) :
  qg P w K mg base CX0 2 f fd ["board","cell"] zoY:=by
 refine D.F.ok zbn (λvs H Q E h=>?_) (λaa A N s H vs Q E hr h=>?_)
 .revert h;refine fM λp l ca r=>fL λn c z0 _=>?_;subst z0;rfl
 .revert h;refine fM λp l ca r=>fS λn c z0 b R L=>fO λci cj q=>?_;subst z0;refine⟨_,(zf (zF (pcm ["place","board"] [none,some 0] cR (zJ (pc0 (ZR T zL) hr zL (za (pvS 0) (za (pvS 1) zd)))) (pgN 0) (qu (zO YW (pc0 (J1 zu) hr zu (za (pvS 1) (za (pvS 0) zd))) (jf (v:=.str "?") (by rfl) T.Zw.choose_spec (by exact⟨_,rfl⟩)) (qb _))) (pvS 0)))),?_⟩;(try dsimp only[cxK,cxP,cxW]);refine⟨_,rfl,_,rfl,p,l,ca,r,n,c.1,c.2,rfl,b,R,L,ci,cj,λd ws H1 hd i e s1=>(dI d rfl ⟨_,SqL.of i⟩ (λz hz=>?_))⟩;refine qp (K:=K) (a:=d) (xs:=ws) (λa=>a≠z) ((zK r c).map λx=>if decide (Cells.sgn (codes r) x=63)=true then some (zv x) else none) (fun σ=>∃u0,σ=[u0,some (.ref p)]) hz (λ_ h=>h) ⟨_,rfl⟩ (by rw[ZB];exact e.length.symm) (by rw[e.length];exact X6 (xY R c) (by decide)) (SqL.of i) ?_ ?_
  .rintro k x o σ U hx ho u _ ⟨u0,rfl⟩ Y Z O no;obtain⟨y,hy,r1⟩:=Cel.get e hx;have g:=jR hy ho;refine fH (λt G ht hj _ es=>?_) (zW (XO.mp (X8 hy)).1);obtain⟨ya,rfl,m⟩:=r1;refine⟨_,rfl,_,rfl,p,l,ya,r,n,y.1,y.2,t,G,rfl,(b.mono s1).mono u,u _ _ m,ht,hj,R.tlen ht,rfl,_,rfl,?_⟩;have ed:decide (V.str ⟨#[G]⟩=V.str "?")=decide (G=63):=by
    rw[zcQ];simp only[zbl]
   rw[ed];rw[es]at g;by_cases B:G=63
   .rw[br B];rw[bw (br B)]at g;exact zdq ⟨_,rfl,O _ _ _ _ g ⟨_,rfl⟩ (zx.refl _) (yO.rdn ⟨ya,rfl,u _ _ m⟩)⟩
   .rw[bf B];rw[bq (by rw[bf B];exact XS)]at g;exact zap (no _ _ g ⟨_,rfl⟩ (zx.refl _))
  .rintro ys U u M j;rw[ql]at j;exact q z ys U (s1.free hz) M (zC.cel j) (s1.trans u)
def zaM (cs:AB):Wd (cs.map zv)=true:=by
 induction cs with
 | nil=>rfl
 | cons c r a =>
  show (Uu (zv c)&&Wd (r.map zv))=true;rw[a];rfl
def zh2 (cs:AB):VR (cs.map zv)<=1:=by
 induction cs with
 | nil=>exact W3 _
 | cons c r a =>
  show max (PyData.depth (zv c)) (VR (r.map zv))<=1;have:PyData.depth (zv c)=1:=rfl;lia
def zcR (cs a:AB):zhz (.list (cs.map zv)) (.list (a.map zv)):=⟨zaM cs,zaM a,by
 show VR (cs.map zv)+1<=64;have:=zh2 cs;lia⟩
def J2 (cs:AB)(c:AA):(cs.map zv).any (λz=>W1 z (zv c))=cs.any λz=>decide (z=c):=by
 rw[TL];congr 1;funext z;exact zem z c
def eq_nil (cs:AB):W1 (.list (cs.map zv)) (.list [])=cs.isEmpty:=by
 cases cs<;>rfl
def zlX:zz ["board","told"] ["board"] (zq zi4):=bh
def zlY {f1 f2 f3 f4 f5:Addr}{al am an ao aq:XH}(T:Txt mg)(D:zh K mg "far" zi4 ["board"] f fd)(zL:zh K mg "around" jP ["board","cell"] f1 al)(zu:zh K mg "sign_at" qq ["board","cell"] f2 am)
  (zw:zh K mg "cells_of" qk ["board"] f3 an) (qv:zh K mg "closed" ZM ["board"] f4 ao) (zB:zh K mg "open_cells" qL ["board"] f5 aq):qg P w K mg base CX0 3 f fd ["board"] (zoZ xx):=by
 refine D.F.ok zlX (λvs H Q E h=>?_) (λa4 A a1 s H vs Q E hr h=>?_)
 .revert h;refine gq λa l g n z0 _=>?_;subst z0;rfl
 .revert h;refine gk λa l g n z0 b R q=>?_;subst z0;refine⟨_,(ze (qz 1 zlX.nd (pcm ["cell","board"] [none,some 0] cR (zJ (pc0 (yt T zB zw zu) hr zB (za (pvS 0) zd))) (pgN 0) qh (pc0 (ZR T zL) hr zL (za (pvS 1) (za (pvS 0) zd))))) (zf (zF (zsp ["cell","told"] [none,some 1] (c1 (y:="cell")) (zJ (pc0 (JJ T qv zw zu) hr qv (za (pvS 0) zd))) (pgN 0) (qu (za4 (zba (K:=K) (by rfl) (pb1 (zd1 (K:=K) (by rfl) (by rfl)) T.zi5 T8 (pcm ["near","cell"] [none,some 0] cR (zf9 (K:=K) (by rfl) (pvS 1)) (pgN 0) qh (zao (jh (K:=K) (by rfl) hr.units) (pvS 1) (pvS 0) (by rfl)))) (λ_=>rfl)))) (pvS 0))))),?_⟩;(try dsimp only[cxK,cxP,cxW]);refine⟨_,rfl,a,l,g,n,rfl,b,R,λd ws H1 hd aa u s1=>(dI d rfl ⟨_,SqL.of aa⟩ (λz hz=>?_))⟩;have b1:=b.mono s1;refine qp (K:=K) (a:=d) (xs:=ws) (λa=>a≠z) ((qx g).map λo=>some (.list ((zK g o).map zv))) (fun r=>∃I,r=[I,some (.ref a)]) hz (λ_ h=>h) ⟨_,rfl⟩ (by rw[ZB];exact u.length.symm) (by rw[u.length];exact X6 (qW R) (by decide)) (SqL.of aa) ?_ ?_
  .rintro k x o r H2 hx ho N az ⟨I,rfl⟩ Y Z L no;obtain⟨y,hy,r1⟩:=Cel.get u hx;have M:=jR hy ho;refine fH (λt sg ht hj _ es=>?_) (zW (X8 hy));obtain⟨J,rfl,i⟩:=r1;obtain⟨l1,l2⟩:=yE R ht hj;refine yw ⟨_,rfl,_,rfl,a,l,J,g,n,y.1,y.2,rfl,b1.mono N,R,N _ _ i,l1,l2,λd2 a6 H3 au ab ar O=>?_⟩;refine L _ _ _ _ M ⟨_,rfl⟩ O (.lst (λe=>az (e ▸ au)) ab (Cel.rdn ar))
  .rintro ys H2 N ax G;rw[ZS]at G;have b2:=b1.mono N;refine⟨_,rfl,a,l,g,n,rfl,b2,R,λd3 a2 H3 ab ac B O=>(dI d3 rfl ⟨_,SqL.of ac⟩ (λz3 ah=>?_))⟩;have ai:=O _ _ ax;have aw:=G.keep O;refine qp (K:=K) (a:=d3) (xs:=a2) (λa=>a≠z3) ((zT g).map λc=>if (!((qx g).map λo=>(zK g o).any λz=>decide (z=c)).any id)=true then some (zv c) else none) (fun r=>∃I,r=[I,some (.ref z)]) ah (λ_ h=>h) ⟨_,rfl⟩ (by rw[ZB];exact B.length.symm) (by rw[B.length];exact X6 (qW R) (by decide)) (SqL.of ac) ?_ ?_
   .rintro k x o r H4 hx ho U _ ⟨I,rfl⟩ Y Z L no;refine fJ (λy hy r1=>?_) (Cel.get B hx);have M:=jR hy ho;have r2:yO H4 x y:=by
     obtain⟨J,e,i⟩:=r1;exact⟨J,e,U _ _ i⟩
    refine⟨_,rfl,z,rfl,⟨_,SqL.of (U _ _ ai)⟩,λz5 ay=>?_⟩;have ag:ys.length=(qx g).length:=by rw[G.length,ZB]
    refine qp (K:=K) (a:=z) (xs:=ys) (λa=>a≠z5) ((qx g).map λo=>some (.bool ((zK g o).any λz=>decide (z=y)))) (fun r=>∃I,r=[I,some x]) ay (λ_ h=>h) ⟨_,rfl⟩ (by rw[ZB];exact ag.symm) (by rw[ag];exact X6 (qW R) (by decide)) (SqL.of (U _ _ ai)) ?_ ?_
    .rintro m v o2 r H5 hv av s5 _ ⟨u1,rfl⟩ Y2 Z2 aj a5;obtain⟨dv,j,rv⟩:=aw.get hv;rw[Xv]at j;cases eoc:(qx g)[m]? with
     | none=>rw[eoc]at j;cases j
     | some oc =>
      rw[eoc]at j;cases j;have ak:=jR eoc av;have r3:yO H5 x y:=by
       obtain⟨J,e,i⟩:=r2;exact⟨J,e,s5 _ _ i⟩
      refine yw ⟨_,rfl,_,rfl,zv y,(zK g oc).map zv,r3.rdv,(((rv.keep U).keep s5).rdv),rfl,zaM _,(by show 1<=60;decide),?_⟩;have ei:(if false=true then !((zK g oc).map zv).any (λz=>W1 z (zv y)) else ((zK g oc).map zv).any λz=>W1 z (zv y))=(zK g oc).any λz=>decide (z=y):=J2 _ _;rw[ei];exact aj _ _ _ _ ak ⟨_,rfl⟩ (zx.refl _) (.bl _)
    .rintro a7 H5 s5 p af;rw[ZS,show ((qx g).map λo=>UM ((zK g o).any λz=>decide (z=y)))=((qx g).map λo=>(zK g o).any λz=>decide (z=y)).map UM by rw[Wo];rfl]at af;rw[zC.bools af]at p;refine fy z5 _ rfl (SqL.of p) _ rfl ?_;by_cases hp:(!((qx g).map λo=>(zK g o).any λz=>decide (z=y)).any id)=true
     .rw[bw hp]at M;refine yD hp ⟨_,rfl,L _ _ _ _ M ⟨_,rfl⟩ s5 (yO.rdn ?_)⟩;obtain⟨J,e,i⟩:=r2;exact⟨J,e,s5 _ _ i⟩
     .rw[bq hp]at M;exact jE (by simpa using hp) (no _ _ M ⟨_,rfl⟩ s5)
   .rintro a3 H4 U p ae;rw[ql]at ae;exact q z3 a3 H4 (s1.free (N.free (O.free ah))) p (zC.cel ae) (((s1.trans N).trans O).trans U)
def QN:zz ["board","bare"] ["board"] (zq Jw):=bh
def QO {f1 f2 f3 f4 f5 f6:Addr}{aa ab ac ae af ag:XH}(T:Txt mg)(D:zh K mg "bare_wrong" Jw ["board"] f fd)(zL:zh K mg "around" jP ["board","cell"] f1 aa)(zu:zh K mg "sign_at" qq ["board","cell"] f2 ab)
  (zw:zh K mg "cells_of" qk ["board"] f3 ac) (zE:zh K mg "closed_around" qQ ["board","cell"] f4 ae) (zB:zh K mg "open_cells" qL ["board"] f5 af) (zU:zh K mg "number_at" jz ["board","cell"] f6 ag):qg P w K mg base CX0 3 f fd ["board"] (zoZ YN):=by
 refine D.F.ok QN (λvs H Q E h=>?_) (λam A ak s H vs Q E hr h=>?_)
 .revert h;refine gq λa l c n z0 _=>?_;subst z0;rfl
 .revert h;refine gk λa l c n z0 b R q=>?_;subst z0;refine⟨_,(ze (psC 1 QN.nd ["cell","board"] [none,some 0] cR (zJ (pc0 (yt T zB zw zu) hr zB (za (pvS 0) zd))) (pgN 0) (qu (zO (Y4 (K:=K) (by rfl) hr.units) (pc0 (yi T zE zL zu) hr zE (za (pvS 1) (za (pvS 0) zd))) (@zV _ _ _ _ zd) (qb _))) (pvS 0)) (zf (zF (pcm ["cell","board"] [none,some 0] cR (zJ (pvS 1)) (pgN 0) (qu (zO zdS (pc0 (YA T zU zu) hr zU (za (pvS 1) (za (pvS 0) zd))) zj (qb _))) (pvS 0))))),?_⟩;(try dsimp only[cxK,cxP,cxW]);refine⟨_,rfl,a,l,c,n,rfl,b,R,λd ws H1 hd B r s1=>(dI d rfl ⟨_,SqL.of B⟩ (λz hz=>?_))⟩;have b1:=b.mono s1;refine qp (K:=K) (a:=d) (xs:=ws) (λa=>a≠z) ((qx c).map λo=>if (clA c o).isEmpty=true then some (zv o) else none) (fun σ=>∃U,σ=[U,some (.ref a)]) hz (λ_ h=>h) ⟨_,rfl⟩ (by rw[ZB];exact r.length.symm) (by rw[r.length];exact X6 (qW R) (by decide)) (SqL.of B) ?_ ?_
  .rintro k x o σ H2 hx ho u ao ⟨U,rfl⟩ Y Z v no;obtain⟨y,L,r1⟩:=Cel.get r hx;have m:=jR L ho;refine fH (λt sg J hj _ es=>?_) (zW (X8 L));obtain⟨ya,rfl,i⟩:=r1;obtain⟨l1,l2⟩:=yE R J hj;refine⟨_,rfl,_,rfl,a,l,ya,c,n,y,rfl,b1.mono u,R,u _ _ i,l1,l2,λd2 aq H3 an ah g s3=>⟨x9,λe he=>?_⟩⟩;have j:=zc (o:=.lst []) he;refine dH (.list ((clA c y).map zv)) (.list []) (.lst (SqL.of (j _ _ ah)) (zC.rdv (N:=λ_=>True) (Cel.rdn (Cel.mono j g)))) (.lst (SqL.of zb) .nil) (zcR _ []) ⟨_,rfl,?_⟩;have ee:(if false=true then !PyData.eqv (.list ((clA c y).map zv)) (.list []) else W1 (.list ((clA c y).map zv)) (.list []))=(clA c y).isEmpty:=eq_nil _;rw[ee];by_cases p:(clA c y).isEmpty=true
   .rw[bw p]at m;exact yD p ⟨_,rfl,v _ _ _ _ m ⟨_,rfl⟩ (s3.trans j) (yO.rdn ⟨ya,rfl,j _ _ (s3 _ _ (u _ _ i))⟩)⟩
   .rw[bq p]at m;exact jE (by simpa using p) (no _ _ m ⟨_,rfl⟩ (s3.trans j))
  .rintro ys H2 u M G;rw[ql]at G;have g:=zC.cel G;have b2:=b1.mono u;refine⟨_,rfl,z,rfl,⟨_,SqL.of M⟩,λz3 O=>?_⟩;refine qp (K:=K) (a:=z) (xs:=ys) (λa=>a≠z3) (((qx c).filter λo=>(clA c o).isEmpty).map λo=>if (!decide (Cells.sgn (codes c) o=48))=true then some (zv o) else none) (fun σ=>∃U,σ=[U,some (.ref a)]) O (λ_ h=>h) ⟨_,rfl⟩ (by rw[ZB];exact g.length.symm) (by rw[g.length];exact X6 (W7 _ _) (X6 (qW R) (by decide))) (SqL.of M) ?_ ?_
   .rintro k x o σ H4 hx ho j _ ⟨U,rfl⟩ Y Z v no;obtain⟨y,L,r1⟩:=Cel.get g hx;have m:=jR L ho;refine fH (λt sg J hj ai es=>?_) (zW (XO.mp (X8 L)).1);obtain⟨ya,rfl,i⟩:=r1;obtain⟨k1,k2⟩:=zbm (zi7 R J hj) ai;refine⟨_,rfl,_,rfl,a,l,ya,c,n,y.1,y.2,t,sg,rfl,b2.mono j,j _ _ i,J,hj,R.tlen J,k1,k2,rfl,_,rfl,?_⟩;have ed:(!decide (V.int ((sg:Int)-48)=V.int 0))=!decide (Cells.sgn (codes c) y=48):=by
     rw[es,zeK];congr 1;by_cases h:sg=48
     .rw[br h,h];rfl
     .rw[bf h];simp only[beq_eq_false_iff_ne,ne_eq];lia
    rw[ed];by_cases p:(!decide (Cells.sgn (codes c) y=48))=true
    .rw[bw p]at m;exact yD p ⟨_,rfl,v _ _ _ _ m ⟨_,rfl⟩ (zx.refl _) (yO.rdn ⟨ya,rfl,j _ _ i⟩)⟩
    .rw[bq p]at m;exact jE (by simpa using p) (no _ _ m ⟨_,rfl⟩ (zx.refl _))
   .rintro al H4 j aj I;rw[ql]at I;exact q z3 al H4 (s1.free (u.free O)) aj (zC.cel I) ((s1.trans u).trans j)
def zgC {K:XZ}{H:Hp}{vs:AE}{cs:AB}(a:Cel H vs cs):xr K H vs (cs.map zv):=by
 induction a with
 | nil=>exact .nil
 | cons h _ b =>
  exact .cons (yO.rdv h) b
def zfk (cs:AB):Wd (cs.map zv)=true:=by
 induction cs with
 | nil=>rfl
 | cons c r a =>
  show (Uu (zv c)&&Wd (r.map zv))=true;rw[a];rfl
def zlZ (cs:AB):VR (cs.map zv)<=1:=by
 induction cs with
 | nil=>exact W3 _
 | cons c r a =>
  show max (PyData.depth (zv c)) (VR (r.map zv))<=1;have:PyData.depth (zv c)=1:=rfl;lia
def zp9 (cs a:AB):zhz (.list (cs.map zv)) (.list (a.map zv)):=⟨zfk cs,zfk a,by
 show VR (cs.map zv)+1<=64;have:=zlZ cs;lia⟩
def toI (c:AA):Int×Int:=(((c.1:Nat):Int),((c.2:Nat):Int))
def ofI (p:Int×Int):AA:=(p.1.toNat,p.2.toNat)
def zi8 (c:AA):ofI (toI c)=c:=rfl
def znV {c d:AA}(h:toI c=toI d):c=d:=by rw[<- zi8 c,h,zi8]
def zi9 {c d:AA}:lt2 (toI c) (toI d)=true↔Cells.lex c d:=by
 obtain⟨a,b⟩:=c;obtain⟨x,y⟩:=d;unfold lt2 Cells.lex;show (if ((a:Nat):Int)=((x:Nat):Int) then decide (((b:Nat):Int)<((y:Nat):Int)) else decide (((a:Nat):Int)<((x:Nat):Int)))=true↔a<x\/(a=x/\b<y);by_cases e:a=x
 .rw[bw (by lia),bu];lia
 .rw[bq (by lia),bu];lia
def Cel.tup2 {H:Hp}{vs:AE}{cs:AB}(b:Cel H vs cs):yX H vs (cs.map toI):=by
 induction b with
 | nil=>exact .nil
 | cons q _ c =>
  obtain⟨a,e,h⟩:=q;exact .cons ⟨a,e,h⟩ c
theorem ji {H:Hp}:∀{cs:AB} {vs:AE},yX H vs (cs.map toI)->Cel H vs cs
 | [],_,.nil=>.nil
 | _::_,_,.cons ⟨a,e,h⟩ t=>.cons ⟨a,e,h⟩ (ji t)
def zaN {ps:List (Int×Int)}{cs:AB}(h:ps.Perm (cs.map toI)):∃a:AB,ps=a.map toI/\a.Perm cs:=by
 refine⟨ps.map ofI,?_,?_⟩
 .rw[Wo];refine(Si ps).symm.trans (Wi λp b=>?_);obtain⟨c,_,rfl⟩:=XG.mp (h.mem_iff.mp b);rfl
 .have:=h.map ofI;rw[Wo]at this;have e:cs.map (ofI∘toI)=cs:=(Wi λc _=>zi8 c).trans (Si cs);rwa [e]at this
def zqa {cs:AB}(h:Up2 (cs.map toI)):cs.Pairwise Cells.lex:=by
 unfold Up2 at h;rw[Wc]at h;exact h.imp λz=>zi9.mp z
def qo {cs:AB}(h:cs.Pairwise Cells.lex):cs.Nodup:=h.imp λ{a b} z e=>by
 subst e;unfold Cells.lex at z;lia
def zkr (H:Hp)(v:V)(g:AB):Prop:=∃a b,v=V.ref a/\H a=some (.lst b)/\Cel H b g
def yF (H:Hp):AE->List AB->Prop:=Xa (zkr H)
theorem zkr.mono {H b:Hp}{v:V}{g:AB}(s:zx H b)(h:zkr H v g):zkr b v g:=by
 obtain⟨a,c,e,h1,h2⟩:=h;exact⟨a,c,e,s _ _ h1,h2.mono s⟩
theorem yF.mono {H a:Hp}(s:zx H a){vs:AE}{gs:List AB}(b:yF H vs gs):yF a vs gs:=by
 induction b with
 | nil=>exact .nil
 | cons h _ c =>
  exact .cons (h.mono s) c
theorem yF.get {H:Hp}:∀{vs:AE} {gs:List AB} {i:Nat} {v:V},yF H vs gs->vs[i]?=some v->∃g,gs[i]?=some g/\zkr H v g
 | _,_,_,_,.nil,e=>by simp at e
 | _,_,0,_,.cons r _,e=>by
  simp at e;subst e;exact⟨_,rfl,r⟩
 | _,_,i+1,v,.cons _ t,e=>by
  obtain⟨c,h1,h2⟩:=yF.get (i:=i) (v:=v) t (by simpa using e);exact⟨c,by simpa using h1,h2⟩
theorem yF.length {H:Hp}{vs:AE}{gs:List AB}(h:yF H vs gs):vs.length=gs.length:=Paired.length h
theorem yF.snoc {H:Hp}{vs:AE}{gs:List AB}{v:V}{g:AB}(h:yF H vs gs)(x:zkr H v g):yF H (vs++[v]) (gs++[g]):=Paired.snoc h x
def lD (g:AB):Wj:=.list (g.map zv)
theorem zen {p q:Nat->Bool}(h:∀c,p c=true->q c=false)(i:Nat):∀(j:Nat) (t:List Nat),(Cells.zZ p i j t).length+(Cells.zZ q i j t).length<=t.length
 | _,[]=>XW _
 | j,c::r=>by
  have b:=zen h i (j+1) r;rw[Cells.zZ,Cells.zZ,XX,XX,Xi];by_cases a:p c=true
  .rw[bw a,bq (by rw[h c a];exact XS)];simp only[Xi,UO];lia
  .rw[bq a];split<;>simp only[Xi,UO]<;>lia
theorem zeo {p q:Nat->Bool}(h:∀c,p c=true->q c=false):∀(i:Nat) (rs:List (List Nat)),(∀t∈rs,t.length<=8)->(Cells.zI p i rs).length+(Cells.zI q i rs).length<=8*rs.length
 | _,[],_=>XW _
 | i,t::r,a=>by
  have d:=zeo h (i+1) r λu b=>a u (XU _ b);have h1:=zen h i 0 t;have h2:=a t XT;rw[Cells.zI,Cells.zI,XX,XX,Xi];lia
def zep {rs:AD}(R:Rows bd.cps.toList rs):(qx rs).length+(zT rs).length<=64:=by
 have:=zeo (p:=ZP) (q:=J0) (λc a=>by
  unfold ZP at a;rw[VP,Wu]at a;exact a.2) 0 (codes rs) R.short
 have h2:=R.hi;rw[qV]at this;unfold qx zT;lia
theorem zaO {p:Nat->Bool}{i:Nat}:∀{j m:Nat} {t:List Nat} {c:Nat},t[m]?=some c->p c=true->(i,j+m)∈Cells.zZ p i j t
 | j,m,[],c,h,_=>by simp at h
 | j,0,d::r,c,h,a=>by
  have e:d=c:=by simpa using h
  subst e;rw[Cells.zZ,bw a];exact WQ _ XT
 | j,m+1,d::r,c,h,a=>by
  rw[Cells.zZ];refine Xl _ ?_;have:=zaO (i:=i) (j:=j+1) (m:=m) (t:=r) (c:=c) (by simpa using h) a;rwa [show j+1+m=j+(m+1) by lia]at this
theorem JE {p:Nat->Bool}:∀{i m:Nat} {rs:List (List Nat)} {t:List Nat} {j c:Nat},rs[m]?=some t->t[j]?=some c->p c=true->(i+m,j)∈Cells.zI p i rs
 | i,m,[],t,j,c,h,_,_=>by simp at h
 | i,0,d::r,t,j,c,h,a,b=>by
  have e:d=t:=by simpa using h
  subst e;rw[Cells.zI];refine WQ _ ?_;have:=zaO (i:=i) (j:=0) a b;rwa [show 0+j=j by lia]at this
 | i,m+1,d::r,t,j,c,h,a,b=>by
  rw[Cells.zI];refine Xl _ ?_;have:=JE (i:=i+1) (m:=m) (rs:=r) (t:=t) (j:=j) (c:=c) (by simpa using h) a b;rwa [show i+1+m=i+(m+1) by lia]at this
def zbo (rs:AD)(c:AA):(clA rs c).Nodup:=((qo (Cells.jv _ 0 (codes rs))).sublist W2).sublist W2
def ZT {rs:AD}{c x:AA}(h:x∈clA rs c):x∈zT rs:=by
 unfold clA at h;obtain⟨h1,h2⟩:=XO.mp h;obtain⟨t,k,d,b,_,e⟩:=zW (XO.mp h1).1;have a:k=63:=by
  have:=bg h2;lia
 subst a;have:=JE (p:=J0) (i:=0) (qD d) b (by decide);rwa [VQ]at this
def heads (gs:List AB):List (Int×Int):=gs.map λg=>toI (g.headD (0,0))
def head_mem {g:AB}(h:g ≠ []):g.headD (0,0)∈g:=by
 cases g with
 | nil=>exact absurd rfl h
 | cons a r=>exact XT
theorem zbE:∀{gs:List AB},(∀g∈gs,g ≠ [])->gs.flatten.Nodup->(heads gs).Nodup
 | [],_,_=>VA
 | g::r,h,c=>by
  rw[Wn,WK]at c;obtain⟨_,h2,f⟩:=c;unfold heads;rw[Xw,Wq];refine⟨λi=>?_,zbE (λx j=>h x (XU _ j)) h2⟩;obtain⟨g2,a,e⟩:=XG.mp i;have d:=znV e;have k:=head_mem (h g XT);have b:=head_mem (h g2 (XU _ a));rw[d]at b;exact f _ k _ (Wv.mpr ⟨g2,a,b⟩) rfl
def zfl (rs:AD)(part:AB):AB:=(qx rs).filter λo=>((zK rs o).map λz=>part.any λx=>decide (x=z)).any id
def zqb:Sp:=λh H Q _=>∃(a l e:Addr) (c:AD) (n:Int) (f:AE) (part:AB),h=[.ref a,.ref e]/\qf H a l c n/\Rows bd.cps.toList c/\H e=some (.lst f)/\Cel H f part /\
 ∀(d:Addr) (g:AE) (b:Hp),H d=none->b d=some (.lst g)->Cel b g (zfl c part)->zx H b->Q (.ref d) b
def zdC:zz ["board","part"] ["board","part"] (zq yg):=bh
def zdD {f1 f2 f3 f5:Addr}{ab ac ae af:XH}(T:Txt mg)(D:zh K mg "numbers_of" yg ["board","part"] f fd)(zL:zh K mg "around" jP ["board","cell"] f1 ab)(zu:zh K mg "sign_at" qq ["board","cell"] f2 ac)
  (zw:zh K mg "cells_of" qk ["board"] f3 ae) (zB:zh K mg "open_cells" qL ["board"] f5 af):qg P w K mg base CX0 3 f fd ["board","part"] zqb:=by
 refine D.F.ok zdC (λvs H Q E h=>?_) (λao A al s H vs Q E hr h=>?_)
 .revert h;refine fM λa l pa e=>fR λn ps part z0 _=>?_;subst z0;rfl
 .revert h;refine fM λa l pa e=>fT λn ps part z0 b R ah ai q=>?_;subst z0;refine⟨_,(zf (zF (pcm ["cell","part","board"] [none,some 1,some 0] cR (zJ (pc0 (yt T zB zw zu) hr zB (za (pvS 0) zd))) (pgN 0) (qu (zba (K:=K) (by rfl) (pb1 (zd1 (K:=K) (by rfl) (by rfl)) T.zi5 T8 (pcm ["place","part"] [none,some 1] cR (zf9 (K:=K) (by rfl) (pc0 (ZR T zL) hr zL (za (pvS 2) (za (pvS 0) zd)))) (pgN 0) qh (zao (jh (K:=K) (by rfl) hr.units) (pvS 0) (pvS 1) (by rfl)))) (λ_=>rfl))) (pvS 0)))),?_⟩;(try dsimp only[cxK,cxP,cxW]);refine⟨_,rfl,a,l,e,n,rfl,b,R,λd ws H1 hd r g s1=>(dI d rfl ⟨_,SqL.of r⟩ (λz hz=>?_))⟩;have b1:=b.mono s1;refine qp (K:=K) (a:=d) (xs:=ws) (λa=>a≠z) ((qx e).map λo=>if (((zK e o).map λz=>part.any λx=>decide (x=z)).any id)=true then some (zv o) else none) (fun M=>∃u0,M=[u0,some (.ref pa),some (.ref a)]) hz (λ_ h=>h) ⟨_,rfl⟩ (by rw[ZB];exact g.length.symm) (by rw[g.length];exact X6 (qW R) (by decide)) (SqL.of r) ?_ ?_
  .rintro k x o M H2 hx ho j ar ⟨u0,rfl⟩ Y Z an no;refine fJ (λy hy r1=>?_) (Cel.get g hx);have O:=jR hy ho;refine fH (λt sg ht hj _ es=>?_) (zW (X8 hy));revert r1;refine fJ λya z0 I=>?_;subst z0;obtain⟨l1,l2⟩:=yE R ht hj;refine⟨_,rfl,_,rfl,a,l,ya,e,n,y.1,y.2,rfl,b1.mono j,R,j _ _ I,l1,l2,λd2 am H3 aq u i s3=>(dI d2 rfl ⟨_,SqL.of u⟩ (λz5 ak=>?_))⟩;refine qp (K:=K) (a:=d2) (xs:=am) (λa=>a≠z5) ((zK e y).map λc=>some (.bool (part.any λx=>decide (x=c)))) (fun M=>∃u0,M=[u0,some (.ref pa)]) ak (λ_ h=>h) ⟨_,rfl⟩ (by rw[ZB];exact i.length.symm) (by rw[i.length];exact X6 (xY R y) (by decide)) (SqL.of u) ?_ ?_
   .rintro m v o2 M H5 hv ag p _ ⟨u1,rfl⟩ Y2 Z2 L au;obtain⟨c,hc,rc⟩:=Cel.get (Cel.mono p i) hv;have aa:=jR hc ag;have sA:=((s1.trans j).trans s3).trans p;refine yw ⟨_,rfl,_,rfl,zv c,part.map zv,rc.rdv,.lst (SqL.of (sA _ _ ah)) (zC.rdv (N:=λ_=>True) (Cel.rdn (Cel.mono sA ai))),rfl,zaM _,(by show 1<=60;decide),?_⟩;have ei:(if false=true then !(part.map zv).any (λz=>W1 z (zv c)) else (part.map zv).any λz=>W1 z (zv c))=part.any λz=>decide (z=c):=J2 _ _;rw[ei];exact L _ _ _ _ aa ⟨_,rfl⟩ (zx.refl _) (.bl _)
   .rintro av H5 p J G;rw[ZS,show ((zK e y).map λc=>UM (part.any λx=>decide (x=c)))=((zK e y).map λc=>part.any λx=>decide (x=c)).map UM by rw[Wo];rfl]at G;rw[zC.bools G]at J;refine fy z5 _ rfl (SqL.of J) _ rfl ?_;by_cases U:(((zK e y).map λz=>part.any λx=>decide (x=z)).any id)=true
    .rw[bw U]at O;exact yD U ⟨_,rfl,an _ _ _ _ O ⟨_,rfl⟩ (s3.trans p) (yO.rdn ⟨ya,rfl,p _ _ (s3 _ _ (j _ _ I))⟩)⟩
    .rw[bq U]at O;exact jE (by simpa using U) (no _ _ O ⟨_,rfl⟩ (s3.trans p))
  .rintro ys H2 j aj B;rw[ql]at B;exact q z ys H2 (s1.free hz) aj (zC.cel B) (s1.trans j)
def zh3 {a:AA->AB}{done:AB}{gs:List AB}{o:AA}(G:Parts.Good a done gs)(h:a o ≠ [])(c:(a o).Nodup){w:AB}(d:w.Pairwise Cells.lex)(j:∀x,x∈w↔x∈a o\/∃g∈gs,Parts.meets (a o) g=true/\x∈g):Parts.Good a (done++[o]) ((gs.filter λg=>!Parts.meets (a o) g)++[w]):=by
 refine G.step h c ?_ ?_ d
 .refine Vc λg i=>?_;congr 1;rw[Wh,WH];constructor
  .exact λz=>⟨g,XO.mpr ⟨i,z⟩,br rfl⟩
  .rintro⟨m,b,e⟩;have f:m=g:=bg e;subst f;exact(XO.mp b).2
 .refine(Wf (qo d) (Parts.Qe c λm b=>G.nd.sublist (T2 (XO.mp b).1))).mpr λx=>?_;rw[j,Parts.zbk];constructor
  .rintro(z | ⟨g,h1,h2,h3⟩)
   .exact .inl z
   .exact .inr ⟨g,XO.mpr ⟨h1,h2⟩,h3⟩
  .rintro(z | ⟨g,h1,h3⟩)
   .exact .inl z
   .exact .inr ⟨g,(XO.mp h1).1,(XO.mp h1).2,h3⟩
def zks (cs g:AB):(cs.map λc=>g.any λz=>decide (z=c)).any id=Parts.meets cs g:=by
 rw[Wh,Parts.ZK,TL,WH];constructor
 .rintro⟨c,h1,h2⟩;have a:(g.any λz=>decide (z=c))=true:=h2;obtain⟨z,b,d⟩:=WH.mp a;have e:z=c:=bg d;subst e;exact⟨z,b,h1⟩
 .rintro⟨x,h1,h2⟩;refine⟨x,h2,?_⟩;show (g.any λz=>decide (z=x))=true;exact WH.mpr ⟨x,h1,br rfl⟩
def Zr (p:AB->Bool):AE->List AB->AE
 | v::vs,g::gs=>if p g=true then v::Zr p vs gs else Zr p vs gs
 | _,_=>[]
theorem ZU (p:AB->Bool):∀(vs:AE) (gs:List AB),(Zr p vs gs).Sublist vs
 | [],_=>Sx _
 | _::_,[]=>Sx _
 | v::vs,g::gs=>by
  rw[Zr];split
  .exact(ZU p vs gs).cons_cons v
  .exact(ZU p vs gs).cons v
theorem zaa {H:Hp}(p:AB->Bool):∀{vs:AE} {gs:List AB},yF H vs gs->yF H (Zr p vs gs) (gs.filter p)
 | _,_,.nil=>.nil
 | _,_,.cons (a:=v) (b:=g) h t=>by
  rw[Zr,VO];by_cases c:p g=true
  .rw[bw c,bw c];exact .cons h (zaa p t)
  .rw[bq c,bq c];exact zaa p t
def zh4 (p:AB->Bool){vs:AE}{gs:List AB}{i:Nat}{v:V}{g:AB}(h1:vs[i]?=some v)(h2:gs[i]?=some g):Zr p (vs.take (i+1)) (gs.take (i+1))=Zr p (vs.take i) (gs.take i)++if p g=true then [v] else []:=by
 induction vs generalizing gs i with
 | nil=>cases h1
 | cons w vs a =>
  cases gs with
  | nil=>cases h2
  | cons k gs =>
   cases i with
   | zero =>
    cases h1;cases h2;simp[Zr]
   | succ i =>
    rw[UC,UC,UC,UC,Zr,Zr,a h1 h2];split<;>rfl
def zfm {m:List (Int×Int)}{l:AB}(h:∀c∈m,c∈l.map toI):m=(m.map ofI).map toI:=by
 rw[Wo];refine(Si m).symm.trans (Wi λc a=>?_);obtain⟨x,_,rfl⟩:=XG.mp (h c a);rfl
def zl0:Sp:=λl H Q _=>∃(e j:Addr) (i k:AE) (c:List AB) (a B:AB),l=[.ref e,.ref j]/\H e=some (.lst i)/\yF H i c/\H j=some (.lst k)/\Cel H k a/\a.Nodup/\c.flatten.Nodup/\(∀x∈a,x∈B)/\(∀x∈c.flatten,x∈B)/\(∀x∈B,x.1<8/\x.2<8)/\B.length<=63/\c.length<=63 /\
 (a=[]->∀b,zx H b->Q (.ref e) b) /\
 (a ≠ []->∀(d h:Addr) (f:AE) (w:AB) (b:Hp),H d=none->H h=none->b d=some (.lst (f++[.ref h]))->f.Sublist i->yF b (f++[.ref h]) ((c.filter λg=>!Parts.meets a g)++[w])->w.Pairwise Cells.lex->(∀x,x∈w↔x∈a\/∃g∈c,Parts.meets a g=true/\x∈g)->zx H b->Q (.ref d) b)
def Qy:zz ["groups","cells","apart","together","group"] ["groups","cells"] (zq Qf):=bh
def zkt (T:Txt mg)(D:zh K mg "joined" Qf ["groups","cells"] f fd):qg P w K mg base CX0 1 f fd ["groups","cells"] zl0:=by
 refine D.F.ok Qy (λvs H Q E h=>?_) (λaJ A aG s H vs Q E hr h=>?_)
 .revert h;refine fM λga ca ws us=>fR λk d B z0 _=>?_;subst z0;rfl
 .revert h;refine fM λga ca ws us=>fV λk d B z0 av hG M=>fX λhC a8 a9 cB=>gc λgB B8 aj al q1 q2=>?_;subst z0;have ak:d.length<=63:=X6 (Parts.yd a8 cB) aj;have ab:k.flatten.length<=63:=X6 (Parts.yd a9 gB) aj;refine⟨_,(ze (qR (zO (JQ hr.units) (pvS 1) (@zV _ _ _ _ zd) (qb _)) (zf (zF (pvS 0))) qd) (@ze _ _ _ _ _ (@qG _ _ 2 _ _ _ _ Qy.nd rfl (V4 rfl) (@zV _ _ _ _ zd) (by rfl) (.inr rfl)) (ze (qz 3 Qy.nd (pt1 Yk T.zhZ SN (pvS 1))) (ze (qH Xf rfl (zJ (pvS 0)) (pgq 4 Qy.nd) (zf (qR (zcn (pb1 (zcw rfl) T.zi5 T8 (pcm ["cell","group"] [none,some 4] cR (zJ (pvS 1)) (pgN 0) qh (zao (jh (K:=K) (by rfl) hr.units) (pvS 0) (pvS 1) (by rfl)))) (λ_=>rfl)) (zf (jC (JN WS Vm Vl ZC (pvS 3) (za (pvS 4) zd)))) (zf (jC (JN WS Wm Wl jX (pvS 2) (za (pvS 4) zd))))))) (zf (zF (zG JO (pvS 2) (zV (za (pb1 (ST.zdw hr.hd) T.JZ V0 (pt1 (ST.zkc hr.units hr.hd) T.zry PyProof.Rows.boot_set (pvS 3))) zd))))))))),?_⟩;(try dsimp only[cxK,cxP,cxW]);refine⟨_,rfl,x9,λe he=>?_⟩;have s1:zx H (upd H e (.lst [])):=zc he;refine dH (lD d) (.list []) (.lst (SqL.of (s1 _ _ M)) (zgC (hC.mono s1))) (.lst (SqL.of zb) .nil) (zcR _ []) ⟨_,rfl,?_⟩;have en:(if false=true then !PyData.eqv (lD d) (.list []) else W1 (lD d) (.list []))=d.isEmpty:=by
   show W1 _ _=_;exact eq_nil d
  rw[en];by_cases aa:d=[]
  .rw[show d.isEmpty=true by rw[aa];rfl];exact zdq ⟨_,rfl,q1 aa _ s1⟩
  rw[show d.isEmpty=false by rw[RC];exact aa];refine zap ?_;generalize upd H e (.lst [])=H1 at *
  refine⟨x9,λap aq=>?_⟩;have s2:=s1.trans (zc (o:=.lst []) aq);have ao:upd H1 ap (.lst []) ap=some (.lst []):=zb;have ar:=s1.free aq;generalize upd H1 ap (.lst [])=H2 at *
  refine⟨_,rfl,ca,_,rfl,.inl (SqL.of (s2 _ _ M)),λtg ai=>?_⟩;have z3:=zc (o:=.lst us) ai;have s3:=s2.trans z3;have aB:=z3 _ _ ao;have aE:upd H2 tg (.lst us) tg=some (.lst us):=zb;have az:=s2.free ai;have a5:ap≠tg:=zg ao ai;generalize upd H2 tg (.lst us)=H3 at *
  refine⟨_,rfl,ga,rfl,⟨_,SqL.of (s3 _ _ av)⟩,?_⟩;refine jU (K:=K) (a:=ga) (xs:=ws) (λi σ H'=>∃(ut:AE) (v4:Option V),σ=[some (.ref ga),some (.ref ca),some (.ref ap),some (.ref tg),v4]/\zx H H'/\H' ap=some (.lst (Zr (λg=>!Parts.meets d g) (ws.take i) (k.take i)))/\H' tg=some (.lst ut)/\Cel H ut (d++((k.take i).filter (Parts.meets d)).flatten))
   (dR us _ rfl s3 aB aE (by simpa using hC)) (λi σ H' _ ⟨_,_,_,z,_⟩=>SqL.of (z _ _ av)) ?_ ?_
  .refine λi x σ H4 hx=>fS λut v4 z0 s4 J ag n=>?_;subst z0;refine gy (λg hg am ug z0 ac af=>?_) (yF.get hG hx);subst z0;have gm:=X8 hg;have tk:(k.take (i+1)).filter (Parts.meets d)=(k.take i).filter (Parts.meets d)++if Parts.meets d g=true then [g] else []:=by
    rw[Xp,hg,WF];congr 1;show [g].filter _=_;rw[VO];rfl
   have pk:=zh4 (λg=>!Parts.meets d g) hx hg;refine⟨_,rfl,ca,rfl,⟨_,SqL.of (s4 _ _ M)⟩,λz hz=>?_⟩;refine qp (K:=K) (a:=ca) (xs:=us) (λa=>a≠z) (d.map λc=>some (.bool (g.any λz=>decide (z=c)))) (fun σ=>∃u0,σ=[u0,some (.ref am)]) hz (λ_ h=>h) ⟨_,rfl⟩ (by rw[ZB];exact hC.length.symm) (by rw[hC.length];exact X6 ak (by decide)) (SqL.of (s4 _ _ M)) ?_ ?_
   .rintro m v o σ H5 hv ho O _ ⟨u1,rfl⟩ Y Z aH no;have r:=s4.trans O;obtain⟨c,L,rc⟩:=Cel.get (hC.mono r) hv;have eo:=jR L ho;refine yw ⟨_,rfl,_,rfl,zv c,g.map zv,rc.rdv,.lst (SqL.of (r _ _ ac)) (zgC (af.mono r)),rfl,zaM _,(by show 1<=60;decide),?_⟩;have ei:(if false=true then !(g.map zv).any (λz=>W1 z (zv c)) else (g.map zv).any λz=>W1 z (zv c))=g.any λz=>decide (z=c):=J2 _ _;rw[ei];exact aH _ _ _ _ eo ⟨_,rfl⟩ (zx.refl _) (.bl _)
   .rintro ys H5 O a4 ay;rw[ZS,show (d.map λc=>UM (g.any λz=>decide (z=c)))=(d.map λc=>g.any λz=>decide (z=c)).map UM by rw[Wo];rfl]at ay;rw[zC.bools ay]at a4;refine fy z _ rfl (SqL.of a4) _ rfl ?_;rw[zks];have r:=s4.trans O;have u:=O _ _ J;have ah:=O _ _ ag;have an:∀(q:AB->Bool) (j:Nat),(((k.take j).filter q).flatten).length<=63:=λq j=>by
     refine X6 (Uf ?_) ab;refine List.Sublist.trans (Parts.qZ q (k.take j)) ?_;have e2:k=k.take j++k.drop j:=(W9 j k).symm;conv=>rhs;rw[e2,U7]
     exact QQ _ _
    by_cases hp:Parts.meets d g=true
    .refine yD hp ?_;refine⟨_,rfl,.inl ⟨rfl,_,SqL.of ah⟩,_,rfl,tg,am,ut,ug,rfl,rfl,ah,r _ _ ac,?_,?_⟩
     .rw[n.length,af.length,XX];have a1:=an (Parts.meets d) i;have a2:g.length<=63:=X6 (Uf (T2 gm)) ab;exact X6 (show _<=200 by lia) (by decide)
     .refine dR (ut++ug) _ rfl (λb o eb=>?_) ?_ zb ?_
      .rw[zp (zg eb az)];exact r _ _ eb
      .rw[zp a5,pk,hp];simpa using u
      .rw[tk,bw hp,U7,<- WL];simpa using Cel.append n af
    .have ax:=WX.mpr hp;refine jE ax ?_;refine⟨_,rfl,.inl ⟨rfl,_,SqL.of u⟩,_,rfl,ap,_,_,rfl,rfl,u,?_,?_⟩
     .refine XM (Uf ((ZU _ _ _).trans (Rs _ _))) ?_;rw[hG.length];exact XM al (by decide)
     .refine dR ut _ rfl (λb o eb=>?_) ?_ ?_ ?_
      .rw[zp (zg eb ar)];exact r _ _ eb
      .rw[zb,pk,ax];rfl
      .rw[zp (U5 a5)];exact ah
      .rw[tk,bq hp,WV];exact n
  .refine λσ H4=>fS λut v4 z0 s4 J ag n=>?_;subst z0;rw[XD,hG.length,XD]at J;rw[hG.length,XD]at n;generalize hl:d++(k.filter (Parts.meets d)).flatten=l at n;have lB:∀x∈l,x∈B:=λx hx=>by
    rw[<- hl]at hx;rcases XN.mp hx with hx | hx
    .exact cB x hx
    .exact gB x ((Parts.qZ _ k).subset hx)
   refine⟨_,rfl,_,rfl,tg,ut,_,rfl,SqL.of ag,Cel.tup2 (n.mono s4),(λp hp=>?_),(λm hm hs=>?_),λds I aC hT G ae=>?_⟩
   .obtain⟨x,hx,rfl⟩:=XG.mp hp;have:=B8 x (lB x hx);unfold ST.InB toI;show (0<=((x.1:Nat):Int)/\((x.1:Nat):Int)<8)/\(0<=((x.2:Nat):Int)/\((x.2:Nat):Int)<8);lia
   .have h1:=zfm hs;have h2:(m.map ofI).Nodup:=by
     rw[h1]at hm;unfold PJ at hm ⊢;rw[Wc]at hm;exact hm.imp λz e=>z (by rw[e])
    have h3:=Parts.yd (b:=B) h2 λx hx=>by
     obtain⟨c,L,rfl⟩:=XG.mp hx;obtain⟨y,hy,rfl⟩:=XG.mp (hs c L);exact lB y hy
    rw[ZB]at h3;lia
   have z5:=zc (o:=ST.zgs P w ds I) aC;have N:∀c∈I.map (·.2),c∈l.map toI:=λc L=>(ae c).mp L;have kl:I.length<=63:=by
    have h1:=zfm N;have h2:((I.map (·.2)).map ofI).Nodup:=by
     rw[h1]at G;unfold PJ at G ⊢;rw[Wc]at G;exact G.imp λz e=>z (by rw[e])
    have h3:=Parts.yd (b:=B) h2 λx hx=>by
     obtain⟨c,L,rfl⟩:=XG.mp hx;obtain⟨y,hy,rfl⟩:=XG.mp (N c L);exact lB y hy
    rw[ZB,ZB]at h3;lia
   have au:upd H4 ds (ST.zgs P w ds I) ds=some (ST.zgs P w ds I):=zb;have O:=s4.trans z5;have u:=z5 _ _ J;have aA:∀q∈I,upd H4 ds (ST.zgs P w ds I) q.1=some (.tup [.int q.2.1,.int q.2.2]):=λq hq=>z5 _ _ (hT q hq);refine eB ds I rfl au aA G (by lia) (λwa a6 aK a3 ht a7 aF=>?_);rw[zfm N]at a7;refine fJ (λwc z0 aI=>?_) (zaN a7);subst z0;have z6:=zc (o:=.lst a6) a3;refine⟨sz_1,λp1 aD=>?_⟩;have z7:=zc (o:=.lst [V.ref wa]) aD;have U:=z6.trans z7;refine dY ap p1 _ [.ref wa] rfl rfl (U _ _ u) zb ?_ (λk2 aw=>?_)
   .have a1:(Zr (λg=>!Parts.meets d g) ws k).length<=63:=X6 (Uf (ZU _ _ _)) (by rw[hG.length];exact al);exact X6 (show _+1<=200 by lia) (by decide)
   .have z8:=zc (o:=.lst (Zr (λg=>!Parts.meets d g) ws k++[.ref wa])) aw;have s8:=O.trans (U.trans z8);refine q2 aa k2 wa _ wc _ ((O.trans U).free aw) (O.free a3) zb (ZU _ _ _) ?_ (zqa aF) (λx=>?_) s8
    .exact yF.snoc ((zaa _ hG).mono s8) (dM wa a6 rfl (z8 _ _ (z7 _ _ zb)) (Cel.mono (U.trans z8) (ji ht)))
    .rw[aI.mem_iff,XG];have hx:(∃a,a∈I.map (·.2)/\ofI a=x)↔x∈l:=by
      constructor
      .rintro⟨c,L,rfl⟩;obtain⟨y,hy,rfl⟩:=XG.mp (N c L);exact hy
      .intro h;exact⟨toI x,(ae _).mpr (XG.mpr ⟨x,h,rfl⟩),rfl⟩
     rw[hx,<- hl,XN,Wv];constructor
     .rintro(h | ⟨g,h1,h2⟩)
      .exact .inl h
      .exact .inr ⟨g,(XO.mp h1).1,(XO.mp h1).2,h2⟩
     .rintro(h | ⟨g,h1,h2,h3⟩)
      .exact .inl h
      .exact .inr ⟨g,XO.mpr ⟨h1,h2⟩,h3⟩
def znW:Sp:=λg H Q _=>∃(p l:Addr) (c:AD) (n:Int),g=[.ref p]/\qf H p l c n/\Rows bd.cps.toList c /\
 ∀(d:Addr) (e:AE) (f:List AB) (b:Hp),H d=none->b d=some (.lst e)->yF b e f->e.Nodup->(∀v∈e,∃a,v=V.ref a/\H a=none/\a≠d)->Parts.Good (clA c) (qx c) f->Up2 (heads f)->zx H b->Q (.ref d) b
def zh6 {rs:AD}(R:Rows bd.cps.toList rs){x:AA}(h:x∈zT rs):x.1<8/\x.2<8:=by
 refine fH (λt k c d _ _=>?_) (zW h);have a:=(X5.mp c).1;have b:=(X5.mp d).1;have e:=R.hi;have g:=R.short _ (X8 (qD c));lia
theorem yF.some {H:Hp}{c:AE}{gs:List AB}(h:yF H c gs):∀v∈c,∃a b,v=V.ref a/\H a=some (.lst b):=by
 intro v d;refine gy (λ_ _ a b e h1 _=>?_) (zk8 h d);exact⟨a,b,e,h1⟩
def zl1 {H:Hp}{b:AE}{gs:List AB}(h:yF H b gs):Xa (GS.LstAt H) b (gs.map (TZ toI)):=by
 induction h with
 | nil=>exact .nil
 | cons r _ c =>
  obtain⟨a,d,e,h1,h2⟩:=r;exact .cons ⟨a,d,e,h1,h2.tup2⟩ c
def zl2 {H:Hp}:∀{gs:List AB} {b:AE},Xa (GS.LstAt H) b (gs.map (TZ toI))->yF H b gs:=by
 intro gs;induction gs with
 | nil =>
  intro b h;cases h;exact .nil
 | cons g r c =>
  intro b h;cases h with
  | cons q t =>
   obtain⟨a,d,e,h1,h2⟩:=q;exact .cons ⟨a,d,e,h1,ji h2⟩ (c t)
def zgD {ks:List (List (Int×Int))}{gs:List AB}(h:ks.Perm (gs.map (TZ toI))):∃a:List AB,ks=a.map (TZ toI)/\a.Perm gs:=by
 have b:∀g:AB,(g.map toI).map ofI=g:=λg=>by
  rw[Wo];exact(Wi λc _=>zi8 c).trans (Si g)
 refine⟨ks.map (TZ ofI),?_,?_⟩
 .rw[Wo];refine(Si ks).symm.trans (Wi λp d=>?_);obtain⟨c,_,rfl⟩:=XG.mp (h.mem_iff.mp d);show c.map toI=((c.map toI).map ofI).map toI;rw[b]
 .have:=h.map (TZ ofI);rw[Wo]at this;have e:gs.map (TZ ofI∘TZ toI)=gs:=(Wi λc _=>b c).trans (Si gs);rwa [e]at this
def zl3 {gs:List AB}(h:(gs.map (TZ toI)).Pairwise (λp q=>PySem.SeqAt.ltL q p=false))(i:∀g∈gs,g ≠ [])(s:(heads gs).Nodup):Up2 (heads gs):=by
 induction gs with
 | nil=>exact List.Pairwise.nil
 | cons g r m =>
  rw[Xw,RP]at h;have d:toI (g.headD (0,0)) ∉ heads r/\(heads r).Nodup:=Wq.mp s;refine RP.mpr ⟨λp k=>?_,m h.2 (λx l=>i x (XU _ l)) d.2⟩;obtain⟨g2,c,rfl⟩:=XG.mp k;have a:=h.1 _ (XG.mpr ⟨g2,c,rfl⟩);have f:toI (g.headD (0,0))≠toI (g2.headD (0,0)):=λe=>d.1 (e ▸ k);have n:=i g XT;have o:=i g2 (XU _ c);cases g with
  | nil=>exact absurd rfl n
  | cons x u =>
   cases g2 with
   | nil=>exact absurd rfl o
   | cons y v =>
    have b:toI x≠toI y:=f;show lt2 (toI x) (toI y)=true;have j:(if toI y=toI x then PySem.SeqAt.ltL (v.map toI) (u.map toI) else lt2 (toI y) (toI x))=false:=a;rw[bq (U5 b)]at j;have:=zb8 b;rw[j]at this;cases hh:lt2 (toI x) (toI y) with
    | true=>rfl
    | false =>
     rw[hh]at this;cases this
def zaP:zz ["board","found","cell"] ["board"] (zq zcf):=bh
def zgE {f1 f2 f3 f4 f5 f6:Addr}{ai aj ak al am an:XH}(T:Txt mg)(D:zh K mg "parts" zcf ["board"] f fd)(zL:zh K mg "around" jP ["board","cell"] f1 ai)(zu:zh K mg "sign_at" qq ["board","cell"] f2 aj)
  (zw:zh K mg "cells_of" qk ["board"] f3 ak) (zB:zh K mg "open_cells" qL ["board"] f4 al) (zE:zh K mg "closed_around" qQ ["board","cell"] f5 am) (ZV:zh K mg "joined" Qf ["groups","cells"] f6 an):qg P w K mg base CX0 3 f fd ["board"] znW:=by
 refine D.F.ok zaP (λvs H Q E h=>?_) (λa6 A ay s H vs Q E hr h=>?_)
 .revert h;refine gq λp l j n z0 _=>?_;subst z0;rfl
 .revert h;refine gk λp l j n z0 b R q=>?_;subst z0;refine⟨_,(@ze _ _ _ _ _ (@qG _ _ 1 _ _ _ _ zaP.nd rfl (V4 rfl) (@zV _ _ _ _ zd) (by rfl) (.inr rfl)) (ze (qH Xf rfl (zJ (pc0 (yt T zB zw zu) hr zB (za (pvS 0) zd))) (pgq 2 zaP.nd) (zf (qz 1 zaP.nd (pc0 (zkt T ZV) hr ZV (za (pvS 1) (za (pc0 (yi T zE zL zu) hr zE (za (pvS 0) (za (pvS 2) zd))) zd)))))) (zf (zF (pb1 (GS.QM hr.units) T.JZ V0 (pvS 1)))))),?_⟩;(try dsimp only[cxK,cxP,cxW]);refine⟨x9,λk0 aw=>?_⟩;have s0:zx H (upd H k0 (.lst [])):=zc aw;have ac:upd H k0 (.lst []) k0=some (.lst []):=zb;generalize upd H k0 (.lst [])=H0 at *
  refine⟨_,rfl,p,l,j,n,rfl,b.mono s0,R,λdc wc H1 a8 ah J s1=>(dI dc rfl ⟨_,SqL.of ah⟩ ?_)⟩;have M:=s0.trans s1;have b1:=b.mono M;have J:Cel H1 wc (qx j):=J;have aA:=zep R;refine jU (K:=K) (a:=dc) (xs:=wc) (λi σ H'=>∃(k:Addr) (U:AE) (I:List AB) (v2:Option V),σ=[some (.ref p),some (.ref k),v2]/\zx H1 H'/\H' k=some (.lst U)/\yF H' U I/\U.Nodup/\(∀v∈U,∃a,v=V.ref a/\H a=none)/\Parts.Good (clA j) ((qx j).take i) I)
   (dS k0 [] [] _ rfl (zx.refl _) (s1 _ _ ac) (.nil) (eE VA (λv h=>nomatch h) (Parts.Good.start _))) (λi σ H' _ ⟨_,_,_,_,_,z,_⟩=>SqL.of (z _ _ ah)) ?_ ?_
  .refine λi x σ H2 L=>gf λk U I v2 z0 Y hk hG=>fO λO m G=>?_;subst z0;refine fU (λc hc ca z0 au=>?_) (Cel.get (Cel.mono Y J) L);subst z0;have cm:=X8 hc;refine fH (λt sg ht hj _ es=>?_) (zW cm);obtain⟨l1,l2⟩:=yE R ht hj;have tk:(qx j).take (i+1)=(qx j).take i++[c]:=by
    rw[Xp,hc];rfl
   have y:(zT j).length<=63:=by
    have:=Ug cm;lia
   have gB:∀x∈I.flatten,x∈zT j:=λx L=>by
    obtain⟨o,_,h2⟩:=G.from_ x L;exact ZT h2
   refine⟨_,rfl,_,rfl,_,rfl,p,l,ca,j,n,c,rfl,(b1.mono Y),R,au,l1,l2,λd a1 H3 hd av ar B=>?_⟩;have az:=M.trans (Y.trans B);refine fC k d U a1 I (clA j c) (zT j) rfl (B _ _ hk) (hG.mono B) av (e9 ar (zbo j c) G.nd (λx L=>ZT L) (dZ gB (λx L=>zh6 R L) y (X6 (Parts.ZL G.ne) (X6 (Parts.yd G.nd gB) y)) (λa3 H' s'=>?_) (λax d2 wa va aB H' a7 ag ab u aq a5 ae s'=>?_)))
   .refine dS k U I _ rfl (Y.trans (B.trans s')) (s' _ _ (B _ _ hk)) ((hG.mono B).mono s') (eE O m ?_);rw[tk];exact G.skip a3
   .refine dS d2 _ _ _ rfl (Y.trans (B.trans s')) ab aq (eE ?_ (λv hv=>?_) ?_)
    .rw[WK];refine⟨O.sublist u,by simp,λa ha b hb e=>?_⟩;have aa:b=V.ref wa:=by simpa using hb
     subst e;obtain⟨a',N,e1,e2⟩:=yF.some (hG.mono B) a (u.subset ha);rw[aa]at e1;injection e1 with e1
     rw[<- e1,ag]at e2;cases e2
    .rcases XN.mp hv with hv | hv
     .exact m v (u.subset hv)
     .have aa:v=V.ref wa:=by simpa using hv
      exact⟨wa,aa,az.free ag⟩
    .rw[tk];exact zh3 G ax (zbo j c) a5 ae
  .refine λσ H2=>gf λk U I v2 z0 Y hk hG=>fO λO m G=>?_;subst z0;rw[J.length,XD]at G;have ao:∀x∈I.flatten,x∈zT j:=λx L=>by
    obtain⟨o,_,h2⟩:=G.from_ x L;exact ZT h2
   have wl:I.length<=63:=by
    cases I with
    | nil=>exact W3 _
    | cons g r =>
     have m1:=head_mem (G.ne g XT);obtain⟨o,ho,_⟩:=G.from_ _ (Wv.mpr ⟨g,XT,m1⟩);have:=Ug ho;have h3:=X6 (Parts.ZL G.ne) (Parts.yd (b:=zT j) G.nd ao);lia
   refine⟨_,rfl,k,U,_,rfl,SqL.of hk,zl1 hG,(by rw[hG.length];lia),λd N a9 hd hl a2 a4 pw=>?_⟩;have B:=zc (o:=.lst N) hd;obtain⟨ds,rfl,pg⟩:=zgD a2;have G':=G.perm pg;refine q d N ds _ ((M.trans Y).free hd) zb ((zl2 hl).mono B) (pw.nodup_iff.mpr O) (λv hv=>?_) G' (zl3 a4 G'.ne (zbE G'.ne G'.nd)) ((M.trans Y).trans B);have af:=pw.mem_iff.mp hv;obtain⟨a,e1,e2⟩:=m v af;obtain⟨a',N,e3,e4⟩:=yF.some hG v af;refine⟨a,e1,e2,λz=>?_⟩;rw[e1]at e3;injection e3 with e3
   rw[<- e3,z,hd]at e4;cases e4
def pD (p:Int×Int):Wj:=.tuple [.int p.1,.int p.2]
def zl4 (p q:Int×Int):W1 (pD p) (pD q)=decide (p=q):=PySem.SeqAt.zd3 p q
def PR (H:Hp)(v:V)(p:Int×Int):Prop:=∃a,v=V.ref a/\H a=some (.tup [.int p.1,.int p.2])
def PR.mono {H b:Hp}(s:zx H b){v:V}{p:Int×Int}(h:PR H v p):PR b v p:=let ⟨a,e,h⟩:=h;⟨a,e,s _ _ h⟩
def ZW {H a:Hp}(s:zx H a){b:AE}{ps:List (Int×Int)}(c:yX H b ps):yX a b ps:=by
 induction c with
 | nil=>exact .nil
 | cons h _ d =>
  exact .cons (PR.mono s h) d
def zgF {H:Hp}{a:AE}{ps:List (Int×Int)}(h:yX H a ps):a.length=ps.length:=Paired.length h
def PR.rdv {K:XZ}{H:Hp}{v:V}{p:Int×Int}(h:PR H v p):Rdv K H v (pD p):=by
 obtain⟨a,rfl,h⟩:=h;exact .tup (SqT.of h) (.cons (.int _) (.cons (.int _) .nil))
def zl5 {K:XZ}{H:Hp}{a:AE}{ps:List (Int×Int)}(b:yX H a ps):xr K H a (ps.map pD):=by
 induction b with
 | nil=>exact .nil
 | cons h _ c =>
  exact .cons (PR.rdv h) c
theorem zl6:∀ps:List (Int×Int),Wd (ps.map pD)=true
 | []=>rfl
 | p::r=>by
  show (Uu (pD p)&&Wd (r.map pD))=true;rw[zl6 r];rfl
def zqc (ps:List (Int×Int))(p:Int×Int):(ps.map pD).any (λz=>W1 z (pD p))=ps.any λz=>decide (z=p):=by
 rw[TL];congr 1;funext z;exact zl4 z p
def zqd (ps:List (Int×Int))(c:AA):(ps.map pD).any (λz=>W1 z (zv c))=ps.any λz=>decide (z=toI c):=zqc ps (toI c)
def zab {H:Hp}{a z:Addr}{o c:HO}(h:H a=some o)(hz:H z=some c)(b:o≠c):a≠z:=λe=>by
 subst e;rw[h]at hz;exact b (Option.some.inj hz)
def znX {H:Hp}{z:Addr}{ys b:AE}(hz:H z=some (.lst ys)){v:V}{p:Int×Int}(h:PR H v p):PR (upd H z (.lst b)) v p:=by
 obtain⟨a,e,h⟩:=h;refine⟨a,e,?_⟩;rw[zp (zab h hz (λz=>nomatch z))];exact h
def ZX {H:Hp}{z:Addr}{ys a:AE}(hz:H z=some (.lst ys)){b:AE}{ps:List (Int×Int)}(c:yX H b ps):yX (upd H z (.lst a)) b ps:=by
 induction c with
 | nil=>exact .nil
 | cons h _ d =>
  exact .cons (znX hz h) d
def jS (N:Addr->Prop)(H:Hp):AE->List (List (Int×Int))->Prop:=Xa λv k=>∃a b,v=V.ref a/\N a/\H a=some (.lst b)/\yX H b k
def jb {N:Addr->Prop}{H b:Hp}(s:zx H b){c:AE}{ks:List (List (Int×Int))}(d:jS N H c ks):jS N b c ks:=by
 induction d with
 | nil=>exact .nil
 | cons q _ f =>
  revert q;refine fH λa g e n h t=>?_;exact .cons ⟨a,g,e,n,s _ _ h,ZW s t⟩ f
def zac {N M:Addr->Prop}{H:Hp}(w:∀a,N a->M a){b:AE}{ks:List (List (Int×Int))}(c:jS N H b ks):jS M H b ks:=by
 induction c with
 | nil=>exact .nil
 | cons q _ d =>
  revert q;refine fH λa f e n h t=>?_;exact .cons ⟨a,f,e,w a n,h,t⟩ d
def J3 {N:Addr->Prop}{H:Hp}{z:Addr}{ys b:AE}(hz:H z=some (.lst ys))(w:∀a,N a->a≠z){c:AE}{ks:List (List (Int×Int))}(d:jS N H c ks):jS N (upd H z (.lst b)) c ks:=by
 induction d with
 | nil=>exact .nil
 | cons q _ f =>
  revert q;refine fH λa g e n h t=>?_;exact .cons (dH a g e n (by rw[zp (w a n)];exact h) (ZX hz t)) f
def Qz {N:Addr->Prop}{H:Hp}{c:AE}{ks:List (List (Int×Int))}{b:AE}{a:List (List (Int×Int))}(h:jS N H c ks)(k:jS N H b a):jS N H (c++b) (ks++a):=zeW h k
def qX {N:Addr->Prop}{H:Hp}{a:AE}{ks:List (List (Int×Int))}(h:jS N H a ks):a.length=ks.length:=Paired.length h
def zaQ {N:Addr->Prop}{H:Hp}{c:AE}{ks:List (List (Int×Int))}{i:Nat}{v:V}(h:jS N H c ks)(e:c[i]?=some v):∃k a b,ks[i]?=some k/\v=V.ref a/\N a/\H a=some (.lst b)/\yX H b k:=by
 refine fJ (λk h1=>gF λa b h2=>?_) (QJ h e);exact eV k a b h1 h2
def zku {N:Addr->Prop}{H:Hp}{b:AE}{ks:List (List (Int×Int))}(c:jS N H b ks):Xa (GS.LstAt H) b ks:=by
 induction c with
 | nil=>exact .nil
 | cons q _ d =>
  revert q;refine fH λa f e _ h t=>?_;exact .cons ⟨a,f,e,h,t⟩ d
def zl7 {N:Addr->Prop}{H:Hp}{c:AE}{ks:List (List (Int×Int))}(f:Xa (GS.LstAt H) c ks)(n:∀v∈c,∃a,v=V.ref a/\N a):jS N H c ks:=by
 induction f with
 | nil=>exact .nil
 | cons q _ i =>
  obtain⟨a,k,e,h,t⟩:=q;obtain⟨b,d,j⟩:=n _ XT;subst e;cases d;exact .cons ⟨_,k,rfl,j,h,t⟩ (i λv g=>n v (XU _ g))
def zkv {N:Addr->Prop}{H:Hp}{c:AE}{ks:List (List (Int×Int))}{v:V}(h:jS N H c ks)(e:v∈c):∃a b,v=V.ref a/\N a/\H a=some (.lst b):=by
 refine fJ (λk _=>fH λa b h1 h2 d _=>?_) (zk8 h e);exact⟨a,b,h1,h2,d⟩
def zgG {H:Hp}{c:AE}{ps:List (Int×Int)}{b:AE}{a:List (Int×Int)}(h:yX H c ps)(k:yX H b a):yX H (c++b) (ps++a):=zeW h k
def QG (rs:AD)(c:AA):Int:=((Cells.sgn (codes rs) c:Nat):Int)-48
abbrev TN:=Int×AB
def zgH (H:Hp)(v:V)(t:TN):Prop:=∃a b c,v=V.ref a/\H a=some (.tup [.int t.1,.ref b])/\H b=some (.lst c)/\Cel H c t.2
def inC (a b:AB):Nat:=(b.filter λc=>decide (c∈a)).length
def zgI (c H:Hp)(f:List TN)(b:AB)(v:V):Prop:=∃t∈f,∃a d e,v=V.ref a/\H a=some (.tup [.int (t.1-((inC b t.2:Nat):Int)),.int t.1,.ref d])/\c d=some (.lst e)/\Cel c e t.2
def zkw {H b:Hp}(s:zx H b){vs:AE}{c:List TN}(g:Xa (zgH H) vs c):Xa (zgH b) vs c:=Paired.imp' (λ_ _ ⟨a,h,i,e,h1,d,f⟩=>(dN a h i e (s _ _ h1) (s _ _ d) (f.mono s))) g
def QA {d f H c:Hp}(z:zx d f)(s:zx H c){g:List TN}{b:AB}{vs:AE}(h:∀v∈vs,zgI d H g b v):∀v∈vs,zgI f c g b v:=λv i=>let ⟨t,ht,a,na,wn,e,h1,h3,h4⟩:=h v i;(fB t ht a na wn e (s _ _ h1) (z _ _ h3) (h4.mono z))
def zja (cs:AB)(c:AA):(cs.any λz=>decide (z=c))=decide (c∈cs):=by
 rw[Wh,WH,bu];constructor
 .rintro⟨x,h1,h2⟩;rw[<- bg h2];exact h1
 .exact λh=>⟨c,h,br rfl⟩
def zjb (g:AB)(c:AA):(if false=true then !(g.map zv).any (λz=>W1 z (zv c)) else (g.map zv).any λz=>W1 z (zv c))=decide (c∈g):=(J2 _ _).trans (zja _ _)
def znY:Sp:=λl H Q _=>∃(h f g:Addr) (j i:AE) (e:List TN) (a:AB) (c:AA),l=[.ref h,.ref f,.ref g]/\H h=some (.lst j)/\Xa (zgH H) j e/\e.length<=64/\(∀t∈e,t.2.length<=64)/\H f=some (.tup [.int (c.1:Nat),.int (c.2:Nat)])/\H g=some (.lst i)/\Cel H i a /\
 ∀(d:Addr) (k:AE) (b:Hp),b d=some (.lst k)->(∀v∈k,zgI b b e a v)->zx H b->Q (.ref d) b
def zrD:Sp:=λg H Q _=>∃(d e:Addr) (un up:AE) (f:List TN) (a p:AB),g=[.ref d,.ref e]/\H d=some (.lst un)/\(∀v∈un,zgI H H f a v)/\H e=some (.lst up)/\Cel H up p/\p.length<=64 /\
 ∀(b:Bool) (c:Hp),((∀t∈f,t.1-((inC a t.2:Nat):Int)<=((inC t.2 p:Nat):Int)/\((inC t.2 p:Nat):Int)<=t.1)->b=true)->zx H c->Q (.bl b) c
def Jb:zz ["told","cell","rest","needs","number","near","left"] ["told","cell","rest"] (zq xw):=bh
def zgJ (T:Txt mg)(D:zh K mg "needs_at" xw ["told","cell","rest"] f fd):qg P w K mg base CX0 1 f fd ["told","cell","rest"] znY:=by
 refine D.F.ok Jb (λvs H Q E h=>?_) (λaq A al s H vs Q E hr h=>?_)
 .revert h;refine fQ λta ca ra ut ur ts g c=>fN λz0 _=>?_;subst z0;rfl
 .revert h;refine fQ λta ca ra ut ur ts g c=>fX λz0 M hT ol=>fX λtl ae ah af q=>?_;subst z0;refine⟨_,(@ze _ _ _ _ _ (@qG _ _ 3 _ _ _ _ Jb.nd rfl (V4 rfl) (@zV _ _ _ _ zd) (by rfl) (.inr rfl)) (ze (qH Xf rfl (zJ (pvS 0)) (xq rfl (zP (pgq 4 Jb.nd) (zP (pgq 5 Jb.nd) jr))) (zf (qR (zO (zcr hr.units) (pvS 1) (pvS 5) (by rfl)) (ze (qz 6 Jb.nd (pb1 zH T.qI Xk (pcm ["place","rest"] [none,some 2] cR (zJ (pvS 5)) (pgN 0) (qu (zO (jh (K:=K) (by rfl) hr.units) (pvS 0) (pvS 1) (by rfl))) (pvS 0)))) (zf (jC (JN WS Wm Wl jX (pvS 3) (za (qj (za (zG Jv (pvS 4) (pvS 6)) (za (pvS 4) (za (pvS 5) zd)))) zd))))) qd))) (zf (zF (pvS 3))))),?_⟩;(try dsimp only[cxK,cxP,cxW]);refine⟨x9,λd hd=>?_⟩;have s0:=zc (o:=.lst []) hd;refine⟨_,rfl,ta,rfl,⟨_,SqL.of (s0 _ _ M)⟩,?_⟩;refine jU (K:=K) (a:=ta) (xs:=ut) (λi G U=>∃(k:AE) (v4 v5 v6:Option V),G=[some (.ref ta),some (.ref ca),some (.ref ra),some (.ref d),v4,v5,v6]/\zx H U/\U d=some (.lst k)/\k.length<=i/\∀v∈k,zgI H U ts g v)
   (dS [] _ _ _ rfl s0 zb (XW _) (λ_ h=>nomatch h)) (λi G U _ ⟨_,_,_,_,_,z,_⟩=>SqL.of (z _ _ M)) ?_ ?_
  .refine λi x G H1 hx=>gf λk v4 v5 v6 z0 s1 j ul hN=>?_;subst z0;refine gz (λt ht a N wn z0 ac p n=>?_) (QJ hT hx);subst z0;have tm:=X8 ht;have ha:=s1 _ _ ac;have y:=s1 _ _ p;have l:=n.mono s1;have il:=(X5.mp ht).1;refine dW a _ rfl (SqT.of ha) rfl _ _ rfl _ _ rfl rfl ?_;refine⟨_,rfl,_,rfl,zv c,t.2.map zv,yO.rdv ⟨ca,rfl,s1 _ _ ae⟩,.lst (SqL.of y) (zgC l),rfl,zaM _,(by show 1<=60;decide),_,rfl,zaq (λ_=>?_) λ_=>(dS k _ _ _ rfl s1 j (by lia) hN)⟩;refine⟨_,rfl,N,rfl,⟨_,SqL.of y⟩,λz hz=>?_⟩;refine qp (K:=K) (a:=N) (xs:=wn) (λa=>a≠z) (t.2.map λx=>if decide (x∈g)=true then some (zv x) else none) (fun G=>∃u0,G=[u0,some (.ref ra)]) hz (λ_ h=>h) ⟨_,rfl⟩ (by rw[ZB];exact l.length.symm) (by rw[l.length];exact X6 (tl t tm) (by decide)) (SqL.of y) ?_ ?_
   .rintro m v u G H2 hv hu I _ ⟨u1,rfl⟩ Y Z ao no;obtain⟨e,he,rc⟩:=Cel.get (l.mono I) hv;have eo:=jR he hu;refine⟨_,rfl,_,rfl,zv e,g.map zv,rc.rdv,.lst (SqL.of (I _ _ (s1 _ _ ah))) (zgC ((af.mono s1).mono I)),rfl,zaM _,(by show 1<=60;decide),_,rfl,?_⟩;rw[zjb];by_cases hp:decide (e∈g)=true
    .rw[bw hp]at eo;exact yD hp ⟨_,rfl,ao _ _ _ _ eo ⟨_,rfl⟩ (zx.refl _) rc.rdn⟩
    .rw[bq hp]at eo;exact jE (WX.mpr hp) (no _ _ eo ⟨_,rfl⟩ (zx.refl _))
   rintro ys H2 I aj L;rw[ql]at L;have yl:ys.length=inC g t.2:=(zC.cel L).length;have r:=I _ _ j;refine⟨z,ys,rfl,.inl (SqL.of aj),?_⟩;rw[yl];refine⟨_,rfl,.inl ⟨rfl,_,SqL.of r⟩,_,rfl,_,rfl,_,_,rfl,rfl,_,rfl,_,rfl,zgw,λO B=>?_⟩;have z3:=zc (o:=.tup [.int (t.1-((inC g t.2:Nat):Int)),.int t.1,.ref N]) B;have am:=I.trans z3;have ag:=z3 _ _ r;have nt:O≠d:=λe=>by
    subst e;rw[r]at B;cases B
   have up:∀b o,b≠d->H1 b=some o->upd (upd H2 O (.tup [.int (t.1-((inC g t.2:Nat):Int)),.int t.1,.ref N])) d (.lst (k++[.ref O])) b=some o:=λb o nb e=>by
    rw[zp nb];exact am _ _ e
   refine⟨d,k,_,rfl,rfl,ag,XM (show k.length<=64 by lia) (by decide),k++[.ref O],_,_,_,rfl,λb e' h'=>up b e' (zg h' hd) (s1 _ _ h'),zb,by rw[XX];exact Sw ul,λv hv=>?_⟩;rcases XN.mp hv with hv | hv
   .refine gz (λt' ai a' ak an e' J aa ab=>?_) (hN v hv);exact fB t' ai a' ak an e' (up _ _ (zab J j (by intro q;cases q)) J) aa ab
   .refine fB t tm O N wn (Xb.mp hv) ?_ p n;rw[zp nt,zb]
  .refine λG H1=>gf λk v4 v5 v6 z0 s1 j _ hN=>?_;subst z0;exact⟨_,rfl,q d k H1 j (QA s1 (zx.refl _) hN) s1⟩
def YB:zz ["needs","pick","least","most","near"] ["needs","pick"] (zq JH):=bh
def zh7 (T:Txt mg)(D:zh K mg "may_fit" JH ["needs","pick"] f fd):qg P w K mg base CX0 1 f fd ["needs","pick"] zrD:=by
 refine D.F.ok YB (λvs H Q E h=>?_) (λab A M s H vs Q E hr h=>?_)
 .revert h;refine fM λy B un up=>fR λts b p z0 _=>?_;subst z0;rfl
 .revert h;refine fM λy B un up=>gn λts b p z0 k hN l c pl q=>?_;subst z0;refine⟨_,(ze (qH Xf rfl (zJ (pvS 0)) (xq rfl (zP (pgq 2 YB.nd) (zP (pgq 3 YB.nd) (zP (pgq 4 YB.nd) jr)))) (zf (qR (za4 (YX Zv Zv (pvS 2) (pb1 zH T.qI Xk (pcm ["cell","near"] [none,some 4] cR (zJ (pvS 1)) (pgN 0) (qu (zO (jh (K:=K) (by rfl) hr.units) (pvS 0) (pvS 1) (by rfl))) (pvS 0))) (pvS 3))) (@zf _ _ _ (@zF _ _ _ _ zcl)) qd))) (@zf _ _ _ (@zF _ _ _ _ zcl))),?_⟩;(try dsimp only[cxK,cxP,cxW]);refine⟨_,rfl,y,rfl,⟨_,SqL.of k⟩,?_⟩;refine jU (K:=K) (a:=y) (xs:=un) (λi d H'=>∃(N O U:Option V),d=[some (.ref y),some (.ref B),N,O,U]/\zx H H') ⟨_,_,_,rfl,zx.refl _⟩ (λi d H' _ ⟨_,_,_,_,z⟩=>SqL.of (z _ _ k)) ?_ ?_
  .refine λi x d H1 hx=>fR λN O U z0 s1=>?_;subst z0;refine gz (λt tm a ra wn z0 ha J I=>?_) (QA s1 s1 hN x (X8 hx));subst z0;refine fF a _ rfl (SqT.of ha) rfl _ _ rfl (eW _ _ rfl (dM _ _ rfl rfl ?_));refine⟨_,rfl,_,rfl,B,rfl,⟨_,SqL.of (s1 _ _ l)⟩,λz hz=>?_⟩;refine qp (K:=K) (a:=B) (xs:=up) (λa=>a≠z) (p.map λx=>if decide (x∈t.2)=true then some (zv x) else none) (fun d=>∃u0,d=[u0,some (.ref ra)]) hz (λ_ h=>h) ⟨_,rfl⟩ (by rw[ZB];exact c.length.symm) (by rw[c.length];exact X6 pl (by decide)) (SqL.of (s1 _ _ l)) ?_ ?_
   .rintro m v u d G hv hu g _ ⟨u1,rfl⟩ Y Z aa no;obtain⟨e,he,rc⟩:=Cel.get ((c.mono s1).mono g) hv;have o:=jR he hu;refine⟨_,rfl,_,rfl,zv e,t.2.map zv,rc.rdv,.lst (SqL.of (g _ _ J)) (zgC (I.mono g)),rfl,zaM _,(by show 1<=60;decide),_,rfl,?_⟩;rw[zjb];by_cases r:decide (e∈t.2)=true
    .rw[bw r]at o;exact yD r ⟨_,rfl,aa _ _ _ _ o ⟨_,rfl⟩ (zx.refl _) rc.rdn⟩
    .rw[bq r]at o;exact jE (WX.mpr r) (no _ _ o ⟨_,rfl⟩ (zx.refl _))
   rintro ys G g L n;rw[ql]at n;have yl:ys.length=inC t.2 p:=(zC.cel n).length;refine⟨z,ys,rfl,.inl (SqL.of L),?_⟩;rw[yl];have j:¬ (t.1-((inC b t.2:Nat):Int)<=((inC t.2 p:Nat):Int)/\((inC t.2 p:Nat):Int)<=t.1)->Q (.bl false) G:=λe=>q false G (λz=>absurd (z t tm) e) (s1.trans g);refine⟨_,_,rfl,rfl,_,rfl,?_⟩;by_cases h1:t.1-((inC b t.2:Nat):Int)<=((inC t.2 p:Nat):Int)
   .rw[br h1];refine zdq ⟨_,rfl,_,_,rfl,rfl,_,rfl,?_⟩;by_cases h2:((inC t.2 p:Nat):Int)<=t.1
    .rw[br h2];exact zap (eV _ _ _ rfl (s1.trans g))
    .rw[bf h2];exact zdq (j λz=>h2 z.2)
   .rw[bf h1];refine zap (dJ _ rfl ?_);exact zdq (j λz=>h1 z.1)
  .refine λd H1=>fR λN O U z0 s1=>?_;subst z0;exact q true H1 (λ_=>rfl) s1
def toL (q:AB):List (Int×Int):=q.map toI
def znZ (rs:AD)(part:AB)(L:AA->Bool):Prop:=∀o∈zfl rs part,((inC (zK rs o) (part.filter L):Nat):Int)=QG rs o
def zss:Sp:=λi H Q _=>∃(a l g:Addr) (f:AD) (n:Int) (b:AE) (part:AB) (L:AA->Bool),i=[.ref a,.ref g]/\qf H a l f n/\Rows bd.cps.toList f/\H g=some (.lst b)/\Cel H b part/\part.Nodup/\part.length<=14/\znZ f part L /\
 ∀(d:Addr) (h:AE) (e:List (List (Int×Int))) (c:Hp),H d=none->c d=some (.lst h)->jS (λa=>H a=none/\a≠d) c h e->toL (part.filter L)∈e->(∀k∈e,k.length<=part.length)->e.length<=16384->zx H c->Q (.ref d) c
def zkx (rs:AD)(c:AA):(zK rs c).Nodup:=(qo (Cells.jv _ 0 (codes rs))).sublist W2
def zn0 (A x y:AB):inC A (x++y)=inC A x+inC A y:=by
 unfold inC;rw[WF,XX]
def zn1 {rs:AD}{part:AB}{L:AA->Bool}(g:part.Nodup)(h:znZ rs part L)(i:Nat):∀t∈(zfl rs part).map (λo=>(QG rs o,zK rs o)),t.1-((inC (part.drop i) t.2:Nat):Int)<=((inC t.2 ((part.take i).filter L):Nat):Int)/\((inC t.2 ((part.take i).filter L):Nat):Int)<=t.1:=λt f=>by
 obtain⟨o,d,rfl⟩:=XG.mp f;have e:=h o d;have c:part.filter L=(part.take i).filter L++(part.drop i).filter L:=by rw[<- WF,W9]
 rw[c,zn0]at e;have l:inC (zK rs o) ((part.drop i).filter L)<=inC (part.drop i) (zK rs o):=by
  have a:inC (zK rs o) ((part.drop i).filter L)<=inC (zK rs o) (part.drop i):=(List.filter_sublist.filter _).length_le;have b:inC (zK rs o) (part.drop i)=inC (part.drop i) (zK rs o):=Oz ((Wf ((g.sublist (Ro _ _)).sublist W2) ((zkx rs o).sublist W2)).mpr λx=>by
   rw[XO,XO,bu,bu];exact And.comm)
  lia
 show QG rs o-_<=_/\_<=QG rs o;show QG rs o-((inC (part.drop i) (zK rs o):Nat):Int)<=((inC (zK rs o) ((part.take i).filter L):Nat):Int)/\((inC (zK rs o) ((part.take i).filter L):Nat):Int)<=QG rs o;lia
def tD2 (rs:AD)(c:AA):Wj:=.tuple [.int (QG rs c),.list ((zK rs c).map zv)]
def zl8 {N:Addr->Prop}{H:Hp}{rs:AD}{v:V}{c:AA}(h:Rdn N H v (tD2 rs c)):zgH H v (QG rs c,zK rs c):=by
 unfold tD2 at h;generalize a:(zK rs c).map zv=ds at h;cases h with
 | tup h t =>
  cases t with
  | cons b t =>
   cases b;cases t with
   | cons d t =>
    cases t;cases d with
    | lst n h1 h2 =>
     subst a;exact dN _ _ _ rfl h h1 (zC.cel h2)
theorem zeq {N:Addr->Prop}{H:Hp}{rs:AD}:∀{cs:AB} {vs:AE},zC N H vs (cs.map (tD2 rs))->Xa (zgH H) vs (cs.map λo=>(QG rs o,zK rs o))
 | [],_,.nil=>.nil
 | _::_,_,.cons h t=>.cons (zl8 h) (zeq t)
def YC {c:St}{H:Hp}{A B:Hp->Prop}(h:A H):zk6 c H λb a=>if b=true then A a else B a:=by
 show if true=true then A H else B H
 rw[bw rfl];exact h
def zl9 {F:List AB}{j:Nat}{k:List (Int×Int)}(h:(F.map toL)[j]?=some k):∃q,F[j]?=some q/\k=toL q:=by
 rw[Xv]at h;cases e:F[j]? with
 | none=>rw[e]at h;cases h
 | some q =>
  rw[e]at h;cases h;exact⟨q,rfl,rfl⟩
def zgK (xs:AE)(i:Nat)(a:i<xs.length):zdo xs (some (((i:Nat):Int)+1)) none=xs.drop (i+1):=by
 have e:HT.sIx xs.length 0 (some (((i:Nat):Int)+1))=i+1:=by
  have:=HT.ziK xs.length 0 (i+1);rw[Pk]at this;rw[show (((i:Nat):Int)+1)=((i:Nat):Int)+((1:Nat):Int) from rfl,this];lia
 unfold zdo;rw[e];show (xs.drop (i+1)).take (xs.length-(i+1))=_;rw[WD (by rw[VF];lia)]
theorem zgL {H:Hp}:∀{a:AE} {cs:AB} (i:Nat),Cel H a cs->Cel H (a.drop i) (cs.drop i)
 | _,_,0,h=>h
 | _,_,i+1,.nil=>.nil
 | _,_,i+1,.cons _ t=>zgL i t
def qF:zz ["board","part","told","found","place","cell","needs","grown"] ["board","part"] (zq jY):=bh
def YO {f1 f2 f3 f4 f5 f6 f7 f8:Addr}{aN aO aP aQ aR aS aT aU:XH}(T:Txt mg)(D:zh K mg "part_layings" jY ["board","part"] f fd)(zL:zh K mg "around" jP ["board","cell"] f1 aN)(zu:zh K mg "sign_at" qq ["board","cell"] f2 aO)
  (zw:zh K mg "cells_of" qk ["board"] f3 aP) (zB:zh K mg "open_cells" qL ["board"] f4 aQ) (zU:zh K mg "number_at" jz ["board","cell"] f5 aR) (jj:zh K mg "numbers_of" yg ["board","part"] f6 aS)
  (jZ:zh K mg "needs_at" xw ["told","cell","rest"] f7 aT) (yL:zh K mg "may_fit" JH ["needs","pick"] f8 aU):qg P w K mg base CX0 4 f fd ["board","part"] zss:=by
 refine D.F.ok qF (λvs H Q E h=>?_) (λbE A b6 s H vs Q E hr h=>?_)
 .revert h;refine fQ λa l pa O n B part L=>fN λz0 _=>?_;subst z0;rfl
 .revert h;refine fQ λa l pa O n B part L=>fX λz0 b R ay=>fX λaj b7 pl aV q=>?_;subst z0;have ul:=aj.length;refine⟨_,(ze (qR (zO zhX (pb1 zH T.qI Xk (pvS 1)) (jf (v:=.int 14) (by rfl) T.zcO.choose_spec (by exact⟨_,rfl⟩)) (qb _)) (zf yq) qd) (ze (psC 2 qF.nd ["cell","board"] [none,some 0] cR (zJ (pc0 (zdD T jj zL zu zw zB) hr jj (za (pvS 0) (za (pvS 1) zd)))) (pgN 0) qh (qj (za (pc0 (YA T zU zu) hr zU (za (pvS 1) (za (pvS 0) zd))) (za (pc0 (ZR T zL) hr zL (za (pvS 1) (za (pvS 0) zd))) zd)))) (@ze _ _ _ _ _ (@qG _ _ 3 _ _ _ _ qF.nd rfl (V4 rfl) (@zV _ _ _ _ (@za _ _ _ _ _ (@zV _ _ _ _ zd) zd rfl)) (by rfl) (.inr rfl)) (ze (qH Xf rfl (yW (by rfl) T.qN (za (pvS 1) zd)) (xq rfl (zP (pgq 4 qF.nd) (zP (pgq 5 qF.nd) jr))) (ze (qz 6 qF.nd (pc0 (zgJ T jZ) hr jZ (za (pvS 2) (za (pvS 5) (za (zcp zeQ (pvS 1) (zeN (zG jt (pvS 4) zj)) zeM) zd))))) (ze (qz 7 qF.nd (zG JO (pvS 3) (pcm ["pick","cell"] [none,some 5] cR (zJ (pvS 3)) (pgN 0) qh (zG JO (pvS 0) (zV (za (pvS 1) zd)))))) (zf (psC 3 qF.nd ["pick","needs"] [none,some 6] cR (zJ (pvS 7)) (pgN 0) (qu (zba (K:=K) (by rfl) (pc0 (zh7 T yL) hr yL (za (pvS 1) (za (pvS 0) zd))) (λ_=>rfl))) (pvS 0)))))) (zf (zF (pb1 (GS.QM hr.units) T.JZ V0 (pvS 3)))))))),?_⟩;(try dsimp only[cxK,cxP,cxW]);refine⟨_,rfl,pa,B,rfl,.inl (SqL.of ay),_,_,rfl,rfl,_,rfl,?_⟩;refine jE (bf (by lia)) ?_;refine⟨_,rfl,_,rfl,a,l,pa,O,n,B,part,rfl,b,R,ay,aj,λd ws H1 hd aC au s1=>(dI d rfl ⟨_,SqL.of aC⟩ (λz hz=>?_))⟩;have b1:=b.mono s1;have nl:(zfl O part).length<=64:=X6 (W7 _ _) (qW (p:=ZP) R);refine qp (K:=K) (a:=d) (xs:=ws) (λa=>a≠z) ((zfl O part).map λc=>some (tD2 O c)) (fun σ=>∃u0,σ=[u0,some (.ref a)]) hz (λ_ h=>h) ⟨_,rfl⟩ (by rw[ZB];exact au.length.symm) (by rw[au.length];exact X6 nl (by decide)) (SqL.of aC) ?_ ?_
  .rintro k x o σ H2 hx ho s2 b3 ⟨u0,rfl⟩ Y Z bB no;obtain⟨y,hy,r1⟩:=Cel.get au hx;have eo:=jR hy ho;have yo:y∈qx O:=(XO.mp (X8 hy)).1;refine fH (λt sg ht hj bn es=>?_) (zW yo);obtain⟨ya,rfl,bx⟩:=r1;obtain⟨l1,l2⟩:=yE R ht hj;obtain⟨o1,o2⟩:=zbm (zi7 R ht hj) bn;have b2:=b1.mono s2;have ar:=s2 _ _ bx;refine yw ⟨_,rfl,_,rfl,a,l,ya,O,n,y.1,y.2,t,sg,rfl,b2,ar,ht,hj,R.tlen ht,o1,o2,_,rfl,_,rfl,a,l,ya,O,n,y.1,y.2,rfl,b2,R,ar,l1,l2,λd2 bH H3 be bi ba s3=>⟨yp,λtt a2=>?_⟩⟩;have s4:=zc (o:=.tup [.int (((sg:Nat):Int)-48),.ref d2]) a2;have en:QG O y=((sg:Nat):Int)-48:=by
    unfold QG;rw[es]
   refine bB _ _ _ _ eo ⟨_,rfl⟩ (s3.trans s4) (.tup zb (.cons ?_ (.cons (.lst (λe=>b3 (e ▸ be)) (s4 _ _ bi) (Cel.rdn (ba.mono s4))) .nil)));rw[en];exact .int _
  rintro ut H2 s2 b0 aH;rw[ZS]at aH;have hT:=zeq aH;have ah:=s1.trans s2;refine⟨x9,λe0 aD=>⟨sz_1,λf0 bj=>?_⟩⟩;have y1:=zc (o:=.lst []) aD;have y2:=zc (o:=.lst [.ref e0]) bj;have aM:=y1.trans y2;have aX:jS (λa=>H2 a=none) (upd (upd H2 e0 (.lst [])) f0 (.lst [.ref e0])) [.ref e0] ([[]]:List (List (Int×Int))):=.cons (dH e0 [] rfl aD (y2 _ _ zb) (.nil)) .nil;have bm:upd (upd H2 e0 (.lst [])) f0 (.lst [.ref e0]) f0=some (.lst [.ref e0]):=zb;generalize upd (upd H2 e0 (.lst [])) f0 (.lst [.ref e0])=H3 at *
  have ae:=ah _ _ ay;refine⟨_,rfl,pa,rfl,⟨_,SqL.of (aM _ _ ae)⟩,?_⟩;refine yH (K:=K) (l:=pa) (xs:=B) (λi σ I=>∃(fa:Addr) (fs:AE) (v4 v5 v6 v7:Option V) (F:List AB),σ=[some (.ref a),some (.ref pa),some (.ref z),some (.ref fa),v4,v5,v6,v7]/\zx H2 I/\I fa=some (.lst fs)/\jS (λa=>H2 a=none) I fs (F.map toL)/\(part.take i).filter L∈F/\(∀q∈F,q.length<=i)/\F.length<=2^i)
   (dO f0 _ _ _ (eZ _ _ [[]] rfl aM bm aX XT (λq hq=>by rw[Xb.mp hq];exact XW _) (XW _))) (λi σ I _ ⟨_,_,_,_,_,_,_,_,y,_⟩=>SqL.of (y _ _ ae)) ?_ ?_
  .refine λi x tt σ H4 hx a2=>fM λfa fs v4 v5=>gn λv6 v7 F z0 s4 aw hL own dp gl=>?_;subst z0;refine fU (λc hc u z0 bc=>?_) (Cel.get ((aj.mono ah).mono s4) hx);subst z0;have il:=(X5.mp hx).1;have z5:=zc (o:=.tup [.int (i:Nat),.ref u]) a2;refine dW tt _ rfl (SqT.of zb) rfl _ _ rfl _ _ rfl rfl ?_;have s5:=s4.trans z5;have aq:=z5 _ _ bc;have aE:=z5 _ _ aw;have aY:=jb z5 hL;generalize upd H4 tt (.tup [.int (i:Nat),.ref u])=H5 at *
   refine⟨_,rfl,_,rfl,_,rfl,_,rfl,_,_,rfl,rfl,_,rfl,pa,B,rfl,SqL.of (s5 _ _ ae),λx1 bv=>?_⟩;have e1:=zgK B i il;rw[e1]at *
   have z6:=zc (o:=.lst (B.drop (i+1))) bv;have s6:=s5.trans z6;refine dO z u x1 ut (dS (B.drop (i+1)) ((zfl O part).map λo=>(QG O o,zK O o)) (part.drop (i+1)) c rfl (s6 _ _ b0) (zkw s6 hT) (by rw[ZB];exact nl) (e9 (λt ht=>?_) (z6 _ _ aq) zb (zgL _ ((aj.mono ah).mono s6)) (λnd un H6 bC hN s7=>?_)))
   .obtain⟨o,_,rfl⟩:=XG.mp ht;exact xY R o
   have ao:=z6.trans s7;have aJ:=s5.trans ao;have ac:=ao _ _ aE;have a9:=jb ao aY;have aB:=ao _ _ aq;have b4:i<=13:=by lia
   have fl:fs.length<=8192:=by
    rw[qX hL,ZB];exact X6 gl (Vd (by decide) b4)
   refine⟨_,rfl,_,rfl,fa,rfl,⟨_,SqL.of ac⟩,λy hy=>?_⟩;refine qa (K:=K) (a:=fa) (xs:=fs) (λj r I=>∃(u0:Option V) (m:AE),r=[u0,some (.ref u)]/\zx H6 I/\I y=some (.lst m)/\jS (λa=>H6 a=none/\a≠y) I m (((F.take j).map (·++[c])).map toL))
    (dH _ [] rfl (zc hy) zb (.nil)) (λj r I _ ⟨_,_,_,z,_⟩=>SqL.of (z _ _ ac)) ?_ ?_
   .refine λj v r H7 hv=>fH λu0 m z0 U al M=>?_;subst z0;refine fV (λk a1 w1 hk z0 an ab t1=>?_) (zaQ a9 hv);subst z0;refine fJ (λq1 N z0=>?_) (zl9 hk);subst z0;have kd:=dp q1 (X8 N);have wl:w1.length=q1.length:=(zgF t1).trans (ZB _);have tj:((F.take (j+1)).map (·++[c])).map toL=((F.take j).map (·++[c])).map toL++[toL q1++[toI c]]:=by
     rw[Xp,N,XA,XA];simp[toL]
    rw[tj];unfold xo;refine YC ?_;refine⟨_,rfl,_,rfl,sz_1,λt2 bp=>?_⟩;have y5:=zc (o:=.lst [.ref u]) bp;refine dY a1 t2 w1 [.ref u] rfl rfl (y5 _ _ (U _ _ ab)) zb (X6 (show w1.length+1<=100 by lia) (by decide)) (λt3 ak=>?_);have y6:=zc (o:=.lst (w1++[.ref u])) ak;have ai:=y5.trans y6;have h6:upd (upd H7 t2 (.lst [.ref u])) t3 (.lst (w1++[.ref u])) t3=some (.lst (w1++[.ref u])):=zb;have tz:t3≠y:=λe=>by
     subst e;rw[y5 _ _ al]at ak;cases ak
    have n4:=y5.free ak;have n3:=U.free n4;have c1:yX (upd (upd H7 t2 (.lst [.ref u])) t3 (.lst (w1++[.ref u]))) [.ref u] [toI c]:=.cons ⟨u,rfl,ai _ _ (U _ _ aB)⟩ .nil;have bA:=zgG (ZW (U.trans ai) t1) c1;generalize upd (upd H7 t2 (.lst [.ref u])) t3 (.lst (w1++[.ref u]))=H8 at *
    have a4:=ai _ _ al;have yl:m.length<=8192:=by
     rw[qX M,ZB,ZB,XJ];have:=qX hL;rw[ZB]at this;lia
    refine dI m a4 (XM yl (by decide)) (dH _ (m++[.ref t3]) rfl (λb' o e=>?_) zb (Qz (J3 a4 (λa h=>h.2) (jb ai M)) (.cons (dH t3 (w1++[.ref u]) rfl ⟨n3,tz⟩ (by rw[zp tz];exact h6) (ZX a4 bA)) .nil)));rw[zp (zg e hy)];exact ai _ _ (U _ _ e)
   refine λr H7=>fH λu0 m z0 U al M=>?_;subst z0;have aW:fs.length=F.length:=(qX hL).trans (ZB _);rw[aW,XD]at M;have yl:m.length<=8192:=by
    rw[qX M,ZB,ZB];lia
   refine dY fa y fs m rfl rfl (U _ _ ac) al (X6 (Nat.add_le_add fl yl) (by decide)) (λg hg=>?_);have y9:=zc (o:=.lst (fs++m)) hg;have b8:=aJ.trans U;have b9:=b8.trans y9;have aF:upd H7 g (.lst (fs++m)) g=some (.lst (fs++m)):=zb;have aA:jS (λa=>H2 a=none) (upd H7 g (.lst (fs++m))) (fs++m) ((F++F.map (·++[c])).map toL):=by
    rw[XA];exact Qz (jb (U.trans y9) a9) (jb y9 (zac (λa h=>aJ.free h.1) M))
   have aG:=(U.trans y9) _ _ bC;have aZ:=QA (U.trans y9) (U.trans y9) hN;have bF:(fs++m).length<=16384:=by
    rw[XX];lia
   have a7:∀q∈F++F.map (·++[c]),q.length<=i+1:=λq hq=>by
    rcases XN.mp hq with hq | hq
    .have:=dp q hq;lia
    .obtain⟨p',ax,rfl⟩:=XG.mp hq;have:=dp p' ax;rw[XX];show p'.length+1<=i+1;lia
   have sl:(F++F.map (·++[c])).length<=2^(i+1):=by
    rw[XX,ZB,Ob];lia
   have ow:(part.take (i+1)).filter L∈F++F.map (·++[c]):=by
    rw[Xp,hc,WF];cases hl:L c with
    | true =>
     refine Xl _ (XG.mpr ⟨_,own,?_⟩);simp[hl]
    | false =>
     refine WQ _ ?_;simpa[hl] using own
   generalize fs++m=gs at *
   generalize F++F.map (·++[c])=S at *
   generalize upd H7 g (.lst gs)=H8 at *
   refine⟨_,rfl,g,rfl,⟨_,SqL.of aF⟩,λy2 a3=>?_⟩;refine qa (K:=K) (a:=g) (xs:=gs) (λj r I=>∃(u0:Option V) (m:AE),r=[u0,some (.ref nd)]/\zx H8 I/\I y2=some (.lst m)/\∃F2:List AB,jS (λa=>H2 a=none/\a≠y2) I m (F2.map toL)/\(∀q∈F2,q∈S)/\F2.length<=j/\((part.take (i+1)).filter L∈S.take j->(part.take (i+1)).filter L∈F2))
    (dH _ [] rfl (zc a3) zb (fk [] (.nil) (λ_ h=>nomatch h) (XW _) (λh=>h))) (λj r I _ ⟨_,_,_,z,_⟩=>SqL.of (z _ _ aF)) ?_ ?_
   .refine λj v r H9 hv=>fH λu0 m z0 s9 a5=>gr λF2 aa am af ag=>?_;subst z0;refine fV (λk a1 w1 hk z0 an ab t1=>?_) (zaQ aA hv);subst z0;refine fJ (λq1 N z0=>?_) (zl9 hk);subst z0;have jl:=(X5.mp hv).1;refine⟨_,rfl,_,rfl,nd,a1,un,w1,_,part.drop (i+1),q1,rfl,s9 _ _ aG,QA s9 s9 aZ,s9 _ _ ab,(ji t1).mono s9,X6 (a7 q1 (X8 N)) (by lia),λbb bD hb G=>(dJ _ rfl ?_)⟩;have J:=G _ _ a5;have yl:m.length<=16384:=by
     rw[qX aa,ZB];lia
    have tk:S.take (j+1)=S.take j++[q1]:=by
     rw[Xp,N];rfl
    cases bb with
    | true =>
     have az:a1≠y2:=zg ab a3;refine yD rfl ⟨_,rfl,m,J,XM yl (by decide),_,m++[.ref a1],rfl,λb' o e=>?_,zb,F2++[q1],?_,λq hq=>?_,by rw[XX];exact Sw af,λh=>?_⟩
     .rw[zp (zg e a3)];exact G _ _ (s9 _ _ e)
     .rw[XA];exact Qz (J3 J (λa h=>h.2) (jb G aa)) (.cons (dH a1 w1 rfl ⟨an,az⟩ (by rw[zp az];exact G _ _ (s9 _ _ ab)) (ZX J (ZW (s9.trans G) t1))) .nil)
     .rcases XN.mp hq with hq | hq
      .exact am q hq
      .rw[Xb.mp hq];exact X8 N
     .rw[tk]at h;rcases XN.mp h with h | h
      .exact WQ _ (ag h)
      .exact Xl _ h
    | false =>
     refine jE rfl (dH _ m rfl (s9.trans G) J (fk F2 (jb G aa) am (T6 af) (λh=>?_)));rw[tk]at h;rcases XN.mp h with h | h
     .exact ag h
     .have e:=Xb.mp h;have:=hb (by rw[<- e];exact zn1 b7 aV (i+1));cases this
   .refine λr H9=>fH λu0 m z0 s9 a5=>gr λF2 aa am af ag=>?_;subst z0;have a8:gs.length=S.length:=(qX aA).trans (ZB _);rw[a8,XD]at ag;rw[a8]at af;exact dO y2 m _ _ (eZ _ _ F2 rfl (b9.trans s9) a5 (zac (λa h=>h.1) aa) (ag ow) (λq hq=>a7 q (am q hq)) (X6 af sl))
  .refine λσ H4=>fM λfa fs v4 v5=>gn λv6 v7 F z0 s4 aw hL own dp gl=>?_;subst z0;rw[ul]at own dp gl;rw[XD]at own;have fl:fs.length<=16384:=by
    rw[qX hL,ZB];exact X6 gl (Vd (by decide) pl)
   refine⟨_,rfl,fa,fs,_,rfl,SqL.of aw,zku hL,by lia,λd' aK b5 av ax a6 bG bt=>?_⟩;have y5:=zc (o:=.lst aK) av;have aI:=ah.trans s4;refine q d' aK b5 _ (aI.free av) zb (jb y5 (zl7 ax λv hv=>?_)) (a6.mem_iff.mpr (XG.mpr ⟨_,own,rfl⟩)) (λk hk=>?_) ?_ (aI.trans y5)
   .refine fK (λa1 wa e na ha=>?_) (zkv hL (bt.mem_iff.mp hv));exact⟨a1,e,ah.free na,zg ha av⟩
   .obtain⟨q',bo,rfl⟩:=XG.mp (a6.mem_iff.mp hk);unfold toL;rw[ZB];exact dp q' bo
   .rw[a6.length_eq,<- qX hL];exact fl
abbrev iL (xs:List Int):AE:=xs.map V.int
def ints_get {xs:List Int}{i:Nat}{v:V}(h:(iL xs)[i]?=some v):∃x,xs[i]?=some x/\v=.int x:=by
 rw[Xv]at h;cases e:xs[i]? with
 | none=>rw[e]at h;cases h
 | some x =>
  rw[e]at h;cases h;exact⟨x,rfl,rfl⟩
def zjc {xs:List Int}{i:Nat}{x:Int}(h:xs[i]?=some x):(iL xs)[i]?=some (.int x):=by
 rw[Xv,h];rfl
def zma {n:Nat}{k:Int}(h0:0<=k)(h1:k<n):ixN n k=some k.toNat:=by
 unfold ixN;rw[bw h0,bw h1]
def zn2 (xs:List Int)(z:Int):iL (xs++[z])=iL xs++[.int z]:=by
 show TZ V.int (xs++[z])=_;rw[XA];rfl
structure Cn (g e:Nat)(xs:List Int):Prop where
 l:xs.length=g+1
 b:∀x∈xs,0<=x/\x<=2^e
abbrev ZY (xs:List Int)(k:Nat):Prop:=1<=xs.getD k 0
def get_set (xs:List Int)(i k:Nat)(v:Int):(xs.set i v).getD k 0=if i=k/\i<xs.length then v else xs.getD k 0:=by
 rw[XC,XC,List.getElem?_set];by_cases e:i=k
 .subst e;by_cases h:i<xs.length
  .simp[h]
  .simp[h]
 .simp[e]
def qP {xs:List Int}{i:Nat}(h:i<xs.length):xs[i]?=some (xs.getD i 0):=by
 rw[XC,X0 h];rfl
def get_mem {xs:List Int}{i:Nat}(h:i<xs.length):xs.getD i 0∈xs:=X8 (qP h)
def zfn {x:Int}{e:Nat}(h0:0<=x)(h:x<=2^e)(he:e<=7000):x.natAbs<2^8000:=by
 have a:(2:Nat)^e<=2^7000:=Vd (by decide) he;have b:(2:Nat)^7000<2^8000:=OU (by decide) (by decide);have c:((x.natAbs:Nat):Int)<=((2^e:Nat):Int):=by
  rw[Int.natAbs_of_nonneg h0,Int.natCast_pow];exact h
 exact XM (X6 (Oa.mp c) a) b
def zrE:Sp:=λh H Q _=>∃(e:Addr) (f:AE) (a:List (List (Int×Int))) (N:Addr->Prop) (g:Nat),h=[.ref e,.int (g:Nat)]/\H e=some (.lst f)/\jS N H f a/\(∀k∈a,k.length<=g)/\g<=64/\a.length<=16384 /\
 ∀(d:Addr) (c:List Int) (b:Hp),H d=none->b d=some (.lst (iL c))->Cn g 14 c->(∀k∈a,ZY c k.length)->zx H b->Q (.ref d) b
def zsu:Sp:=λh H Q _=>∃(a l g:Addr) (e:AD) (n:Int) (b:AE) (part:AB) (L:AA->Bool),h=[.ref a,.ref g]/\qf H a l e n/\Rows bd.cps.toList e/\H g=some (.lst b)/\Cel H b part/\part.Nodup/\part.length<=14/\znZ e part L /\
 ∀(d:Addr) (f:List Int) (c:Hp),H d=none->c d=some (.lst (iL f))->Cn part.length 14 f->ZY f (part.filter L).length->zx H c->Q (.ref d) c
def zgM (n:Nat):(WZ n [V.int 0]).flatten=iL (WZ n 0):=by
 induction n with
 | zero=>rfl
 | succ n a =>
  rw[VN,Wn,a];rfl
def zmb (K:XZ):Sp:=λn H Q _=>∃(a b:Addr) (f k:List Int) (g h d e:Nat),n=[.ref a,.ref b]/\SqL K H a (iL f)/\SqL K H b (iL k)/\Cn g d f/\Cn h e k/\g<=64/\h<=64/\d<=3000/\e<=3000 /\
 ∀(l:Addr) (m:List Int) (c:Hp),H l=none->c l=some (.lst (iL m))->Cn (g+h) (d+e+13) m->(∀i j,ZY f i->ZY k j->ZY m (i+j))->zx H c->Q (.ref l) c
structure zcS (xs ys:List Int)(g h:Nat)(M:Int)(i j:Nat)(zs:List Int):Prop where
 l:zs.length=g+h+1
 b:∀z∈zs,0<=z/\z<=(((i*ys.length+j:Nat)):Int)*M
 k:∀a c,(a<i\/(a=i/\c<j))->ZY xs a->ZY ys c->ZY zs (a+c)
section
variable {xs ys zs:List Int}{g h i j:Nat}{M:Int}
def zcS.start:zcS xs ys g h M 0 0 (WZ (g+h+1) 0):=⟨SK ..,λz b=>by
 rw[(List.mem_replicate.mp b).2];simp,λa c d=>by lia⟩
def zcS.row (I:zcS xs ys g h M i ys.length zs):zcS xs ys g h M (i+1) 0 zs:=⟨I.l,λz d=>by
 have:=I.b z d;rw[Nat.succ_mul,PD];exact this,λa c f h1 h2=>I.k a c (by
  by_cases e:a=i
  .refine .inr ⟨e,?_⟩;by_cases q:c<ys.length
   .exact q
   .have z:ys.getD c 0=0:=by
     rw[XC,SD (by lia)];rfl
    have h2:1<=ys.getD c 0:=h2;lia
  .exact .inl (by lia)) h1 h2⟩
def zcS.step (I:zcS xs ys g h M i j zs){x y:Int}(f:xs[i]?=some x)(m:ys[j]?=some y)(p:0<=x*y)(u:x*y<=M)(n:0<=M)(lt:i+j<zs.length):zcS xs ys g h M i (j+1) (zs.set (i+j) (zs.getD (i+j) 0+x*y)):=by
 have r:=I.b _ (get_mem lt);have e:(((i*ys.length+(j+1):Nat)):Int)*M=(((i*ys.length+j:Nat)):Int)*M+M:=by
  rw[<- Nat.add_assoc,Pk,Int.add_mul];simp
 refine⟨by rw[Pm];exact I.l,λz d=>?_,λa c o h1 h2=>?_⟩
 .rw[e];rcases Rz d with d | rfl
  .have:=I.b z d;lia
  .lia
 .show 1<=_;rw[get_set];by_cases q:a=i/\c=j
  .obtain⟨rfl,rfl⟩:=q;rw[bw ⟨rfl,lt⟩];have h1:1<=xs.getD a 0:=h1;have h2:1<=ys.getD c 0:=h2;rw[XC,f]at h1;rw[XC,m]at h2;have h1:1<=x:=h1;have h2:1<=y:=h2;have:=RT h1 h2 (by decide) (by lia);lia
  .have:=I.k a c (by lia) h1 h2;split
   .rename_i w;have this:1<=zs.getD (a+c) 0:=this;rw[<- w.1]at this;lia
   .exact this
end
abbrev It:=List Int×AA
def ItR (H:Hp)(v:V)(t:It):Prop:=∃a,v=V.ref a/\H a=some (.lst (iL t.1))
def ZZ {H b:Hp}(s:zx H b){d:AE}{c:List It}(f:Xa (ItR H) d c):Xa (ItR b) d c:=Paired.imp' (λ_ _ ⟨a,e,h⟩=>⟨a,e,s _ _ h⟩) f
abbrev YD (ts:List It):Nat:=(ts.map λt=>t.2.1).sum
abbrev sumK (ts:List It):Nat:=(ts.map λt=>t.2.2).sum
def zqe:Sp:=λg H Q _=>∃(e:Addr) (f:AE) (a:List It),g=[.ref e]/\H e=some (.lst f)/\Xa (ItR H) f a/\(∀t∈a,Cn t.2.1 14 t.1/\ZY t.1 t.2.2)/\YD a<=64/\a.length<=64 /\
 ∀(d:Addr) (c:List Int) (b:Hp),H d=none->b d=some (.lst (iL c))->Cn (YD a) (27*a.length) c->ZY c (sumK a)->zx H b->Q (.ref d) b
def chV (n k:Int):Int:=if 0<=k/\k<=n then ((Choose.ch n.toNat k.toNat:Nat):Int) else 0
theorem zmc:∀(n k:Nat),k<=n->1<=Choose.ch n k
 | n,0,_=>by rw[Choose.zaG];exact XW _
 | n+1,k+1,h=>by
  have:=zmc n k (by lia);show 1<=Choose.ch n k+Choose.ch n (k+1);lia
def zo0 (n k:Int):0<=chV n k:=by
 unfold chV;split<;>lia
def zrF {n k:Int}(h0:0<=k)(h:k<=n):1<=chV n k:=by
 unfold chV;rw[bw ⟨h0,h⟩];have:=zmc n.toNat k.toNat (by lia);lia
def zn3 {n k:Int}(h:n<=64):(chV n k).natAbs<2^8000:=by
 have h1:(2:Nat)^64<2^8000:=OU (by decide) (by decide);have a:(0:Nat)<2^8000:=XM (W3 _) h1;unfold chV;split
 .rw[Int.natAbs_natCast];exact XM (X6 (Choose.zoV _ _) (Vd (by decide) (show n.toNat<=64 by lia))) h1
 .exact a
def zrG:Sp:=λa H Q _=>∃(n k:Int),a=[.int n,.int k]/\n<=64/\Q (.int (chV n k)) H
def zn4:Sp:=λd H Q _=>∃(c:Addr) (a:List Int) (m st:Int) (g e:Nat),d=[.ref c,.int m,.int st]/\H c=some (.lst (iL a))/\Cn g e a/\e<=7000/\g<=140/\m<=64 /\
 ∀(v:Int) (b:Hp),0<=v->v<=2^(e+72)->(∀k:Nat,ZY a k->0<=st-k->st-k<=m->v≠0)->zx H b->Q (.int v) b
def zqf {n k:Int}(h:n<=64):chV n k<=2^64:=by
 unfold chV;split
 .have a:=X6 (Choose.zoV n.toNat k.toNat) (Vd (n:=2) (by decide) (show n.toNat<=64 by lia));show _<=((18446744073709551616:Nat):Int);exact Oa.mpr a
 .decide
theorem zmd {M:Int}:∀{zs:List Int},(∀z∈zs,z<=M)->zs.sum<=(zs.length:Nat)*M
 | [],_=>by simp
 | z::r,h=>by
  have a:=zmd λy c=>h y (XU _ c);have b:=h z XT;rw[Ts,Xi,Pk,Int.add_mul];simp;lia
theorem zfo:∀{zs:List Int},(∀z∈zs,0<=z)->0<=zs.sum/\∀k,ZY zs k->1<=zs.sum
 | [],_=>⟨Vk _,λk h=>by
  have h:(1:Int)<=0:=h;lia⟩
 | z::r,h=>by
  obtain⟨a,b⟩:=zfo λy c=>h y (XU _ c);have d:=h z XT;rw[Ts];refine⟨by lia,λk hk=>?_⟩;match k,hk with
  | 0,hk =>
   have hk:1<=z:=hk;lia
  | k+1,hk =>
   have:=b k hk;lia
def zad:zz ["found","greatest","counts","laying"] ["found","greatest"] (zq JI):=bh
def zae (T:Txt mg)(D:zh K mg "counted" JI ["found","greatest"] f fd):qg P w K mg base CX0 1 f fd ["found","greatest"] zrE:=by
 refine D.F.ok zad (λvs H Q E h=>?_) (λaa A Y s H vs Q E hr h=>?_)
 .revert h;refine gg λz us U N g z0 _=>?_;subst z0;rfl
 .revert h;refine gu λz us U N g z0 l L hk=>fO λab ac q=>?_;subst z0;refine⟨_,(@ze _ _ _ _ _ (@qG _ _ 2 _ _ _ _ zad.nd rfl (V4 rfl) (@zG _ _ _ _ _ _ _ _ zhx (@zV _ _ _ _ (@za _ _ _ _ _ zj zd rfl)) (zG jt (pvS 1) zj)) (by rfl) (.inr rfl)) (ze (qH Xf rfl (zJ (pvS 0)) (pgq 3 zad.nd) (zf (ziG (pvS 2) (pb1 zH T.qI Xk (pvS 3)) zf4 zj zkX set_list))) (zf (zF (pvS 2))))),?_⟩;(try dsimp only[cxK,cxP,cxW]);refine⟨sz_1,λl0 O=>?_⟩;have s0:zx H (upd H l0 (.lst [.int 0])):=zc O;refine⟨_,rfl,_,_,rfl,rfl,l0,_,_,rfl,rfl,zb,by lia,by lia,?_,λp hp=>?_⟩
  .exact X6 (show 1*((g:Int)+1).toNat<=120 by lia) (by decide)
  rw[show ((g:Int)+1).toNat=g+1 by lia,zgM];have s1:=s0.trans (zc (o:=.lst (iL (WZ (g+1) 0))) hp);have r:H p=none:=s0.free hp;refine⟨_,rfl,z,rfl,⟨_,SqL.of (s1 _ _ l)⟩,?_⟩;refine jU (K:=K) (a:=z) (xs:=us) (λi I J=>∃(v3:Option V) (xs:List Int),I=[some (.ref z),some (.int (g:Nat)),some (.ref p),v3]/\zx H J/\J p=some (.lst (iL xs))/\xs.length=g+1/\(∀x∈xs,0<=x/\x<=(i:Int))/\∀k∈U.take i,ZY xs k.length)
   (eB _ _ rfl s1 zb (SK ..) (λx d=>by rw[(List.mem_replicate.mp d).2];lia) (λ_ h=>nomatch h)) (λi I J _ ⟨_,_,_,y,_⟩=>SqL.of (y _ _ l)) ?_ ?_
  .refine λi v I H1 hv=>gb λv3 xs z0 B b xl j G=>?_;subst z0;refine fV (λk a1 u n z0 _ M t1=>?_) (zaQ L hv);subst z0;have kl:=hk k (X8 n);have wl:=zgF t1;refine⟨_,rfl,_,rfl,a1,u,rfl,.inl (SqL.of (B _ _ M)),p,_,_,_,rfl,rfl,SqL.of b,Y0 (by lia) (zjc (qP (i:=u.length) (by lia))),_,_,rfl,rfl,p,_,_,_,rfl,rfl,b,zma (by lia) (by rw[ZB];lia),?_⟩;have m0:=j _ (get_mem (xs:=xs) (i:=u.length) (by lia));refine eB _ (xs.set u.length (xs.getD u.length 0+1)) rfl (λc o e=>?_) ?_ (by rw[Pm];exact xl) (λx d=>?_) (λk' m=>?_)
   .rw[zp (zg e r)];exact B _ _ e
   .rw[zb];show some (HO.lst ((TZ V.int _).set _ (V.int _)))=_;rw[<- List.map_set];rfl
   .rcases Rz d with d | rfl
    .have:=j x d;lia
    .lia
   .show 1<=_;rw[get_set];rw[Xp,n]at m;split
    .lia
    .rename_i hn;rcases XN.mp m with h | h
     .exact G k' h
     .have e:k'=k:=Xb.mp h;exact absurd ⟨by rw[e];exact wl,by lia⟩ hn
  .refine λI H1=>gb λv3 xs z0 B b xl j G=>?_;subst z0;rw[qX L]at j;rw[qX L,XD]at G;exact⟨_,rfl,q p xs H1 r b ⟨xl,λx d=>⟨(j x d).1,Wx (j x d).2 (by show ((U.length:Nat):Int)<=16384;lia)⟩⟩ G B⟩
def zcT:zz ["board","part"] ["board","part"] (zq xT):=bh
def zcU {f1 f2 f3 f4 f5 f6 f7 f8 f9 m:Addr}{o p r u v x y B G i:XH}(T:Txt mg)(D:zh K mg "part_counts" xT ["board","part"] f fd)(zL:zh K mg "around" jP ["board","cell"] f1 o)(zu:zh K mg "sign_at" qq ["board","cell"] f2 p)
  (zw:zh K mg "cells_of" qk ["board"] f3 r) (zB:zh K mg "open_cells" qL ["board"] f4 u) (zU:zh K mg "number_at" jz ["board","cell"] f5 v) (jj:zh K mg "numbers_of" yg ["board","part"] f6 x)
  (jZ:zh K mg "needs_at" xw ["told","cell","rest"] f7 y) (yL:zh K mg "may_fit" JH ["needs","pick"] f8 B) (jc:zh K mg "part_layings" jY ["board","part"] f9 G) (jw:zh K mg "counted" JI ["found","greatest"] m i):qg P w K mg base CX0 5 f fd ["board","part"] zsu:=by
 refine D.F.ok zcT (λvs H Q E h=>?_) (λaa A N s H vs Q E hr h=>?_)
 .revert h;refine fQ λa l O rs n g part L=>fN λz0 _=>?_;subst z0;rfl
 .revert h;refine fQ λa l O rs n g part L=>fX λz0 b R j=>fX λc U pl I q=>?_;subst z0;refine⟨_,(zf (zF (pc0 (zae T jw) hr jw (za (pc0 (YO T jc zL zu zw zB zU jj jZ yL) hr jc (za (pvS 0) (za (pvS 1) zd))) (za (pb1 zH T.qI Xk (pvS 1)) zd))))),?_⟩;(try dsimp only[cxK,cxP,cxW]);refine⟨_,rfl,_,rfl,a,l,O,rs,n,g,part,L,rfl,b,R,j,c,U,pl,I,λd ws ks H1 hd J hL own kl km s1=>?_⟩;refine⟨_,rfl,O,g,rfl,.inl (SqL.of (s1 _ _ j)),d,ws,ks,_,g.length,rfl,J,hL,λk hk=>?_,?_,km,λe xs H2 he M Y hk s2=>?_⟩
  .rw[c.length];exact kl k hk
  .rw[c.length];lia
  .rw[c.length]at Y;have z:=hk _ own;unfold toL at z;rw[ZB]at z;exact q e xs H2 (s1.free he) M Y z (s1.trans s2)
def JK:zz ["one","other","counts","i","many","j","more"] ["one","other"] (zq zaI):=bh
def zer (T:Txt mg)(D:zh K mg "poured" zaI ["one","other"] f fd):qg P w K mg base CX0 1 f fd ["one","other"] (zmb K):=by
 refine D.F.ok JK (λvs H Q E h=>?_) (λag A af s H vs Q E hr h=>?_)
 .revert h;refine fQ λa b xs n g O d e=>fN λz0 _=>?_;subst z0;rfl
 .revert h;refine fQ λa b xs n g O d e=>fX λz0 ha hb cx=>gc λcy g1 g2 d1 e1 q=>?_;subst z0;have xl:=cx.l;have yl:=cy.l;refine⟨_,(@ze _ _ _ _ _ (@qG _ _ 2 _ _ _ _ JK.nd rfl (V4 rfl) (@zG _ _ _ _ _ _ _ _ zhx (@zV _ _ _ _ (@za _ _ _ _ _ zj zd rfl)) (zG Jv (zG jt (pb1 zH T.qI Xk (pvS 0)) (pb1 zH T.qI Xk (pvS 1))) zj)) (by rfl) (.inr rfl)) (ze (qH Xf rfl (yW (by rfl) T.qN (za (pvS 0) zd)) (xq rfl (zP (pgq 3 JK.nd) (zP (pgq 4 JK.nd) jr))) (zf (qH Xf rfl (yW (by rfl) T.qN (za (pvS 1) zd)) (xq rfl (zP (pgq 5 JK.nd) (zP (pgq 6 JK.nd) jr))) (zf (ziG (pvS 2) (zG jt (pvS 3) (pvS 5)) zf4 (zG Zg (pvS 4) (pvS 6)) zkX set_list))))) (zf (zF (pvS 2))))),?_⟩;(try dsimp only[cxK,cxP,cxW]);refine⟨sz_1,λl0 ab=>?_⟩;have s0:zx H (upd H l0 (.lst [.int 0])):=zc ab;refine⟨_,rfl,a,_,rfl,.inl (s0.seq ha),_,rfl,b,_,rfl,.inl (s0.seq hb),_,_,rfl,rfl,_,_,rfl,rfl,l0,_,_,rfl,rfl,zb,?_,?_,?_,λp hp=>?_⟩
  .rw[ZB,ZB];lia
  .rw[ZB,ZB];lia
  .rw[ZB,ZB];exact X6 (show 1*((xs.length:Int)+(n.length:Int)-1).toNat<=140 by lia) (by decide)
  have en:(((iL xs).length:Nat)+((iL n).length:Nat)-1:Int).toNat=g+O+1:=by
   rw[ZB,ZB];lia
  rw[en,zgM];have s1:zx H (upd (upd H l0 (.lst [.int 0])) p (.lst (iL (WZ (g+O+1) 0)))):=s0.trans (zc hp);have U:H p=none:=s0.free hp;have M0:(0:Int)<=2^(d+e):=Ww (O5 (by decide));refine⟨_,rfl,a,rfl,⟨_,s1.seq ha⟩,?_⟩;refine yH (K:=K) (l:=a) (xs:=iL xs) (λi r u=>∃(v3 v4 J L:Option V) (m:List Int),r=[some (.ref a),some (.ref b),some (.ref p),v3,v4,J,L]/\zx H u/\u p=some (.lst (iL m))/\zcS xs n g O (2^(d+e)) i 0 m)
   (dO _ _ _ _ (fk _ rfl s1 zb zcS.start)) (λi r u _ ⟨_,_,_,_,_,_,s,_⟩=>s.seq ha) ?_ ?_
  .refine λi v t r H1 hv ht=>gD λv3 v4 J L m=>fZ λz0 s2 B I0=>?_;subst z0;refine fJ (λx hx z0=>?_) (ints_get hv);subst z0;have st:zx H1 (upd H1 t (.tup [.int (i:Nat),.int x])):=zc ht;refine dW t _ rfl (SqT.of zb) rfl _ _ rfl _ _ rfl rfl ?_;refine⟨_,rfl,b,rfl,⟨_,(s2.trans st).seq hb⟩,?_⟩;refine yH (K:=K) (l:=b) (xs:=iL n) (λj r u=>∃(J L:Option V) (m:List Int),r=[some (.ref a),some (.ref b),some (.ref p),some (.int (i:Nat)),some (.int x),J,L]/\zx H u/\u p=some (.lst (iL m))/\zcS xs n g O (2^(d+e)) i j m)
    (dN _ _ m rfl (s2.trans st) (st _ _ B) I0) (λj r u _ ⟨_,_,_,_,s,_⟩=>s.seq hb) ?_ ?_
   .refine λj v t2 r H2 ae ac=>fY λJ L m z0 s3 G I=>?_;subst z0;refine fJ (λy hy z0=>?_) (ints_get ae);subst z0;have aa:zx H2 (upd H2 t2 (.tup [.int (j:Nat),.int y])):=zc ac;have Y:=aa _ _ G;have hi:i<xs.length:=(X5.mp hx).1;have hj:j<n.length:=(X5.mp hy).1;have N:((i:Int)+(j:Int)).toNat=i+j:=by lia
    have bx:=cx.b x (X8 hx);have M:=cy.b y (X8 hy);have zl:=I.l;refine dW t2 _ rfl (SqT.of zb) rfl _ _ rfl _ _ rfl rfl ?_;refine⟨_,rfl,_,rfl,_,rfl,_,_,rfl,rfl,p,_,_,_,rfl,rfl,SqL.of Y,Y0 (by lia) (by rw[N];exact zjc (qP (by lia))),?_⟩;refine⟨_,rfl,_,rfl,_,_,rfl,rfl,zre (zfn bx.1 bx.2 (by lia)) (zfn M.1 M.2 (by lia)),_,_,rfl,rfl,p,_,_,_,rfl,rfl,Y,zma (by lia) (by rw[ZB];lia),?_⟩;refine dN _ _ (m.set (i+j) (m.getD (i+j) 0+x*y)) rfl (λc o e=>?_) ?_ ?_
    .rw[zp (zg e U)];exact aa _ _ (s3 _ _ e)
    .rw[zb,N];show some (HO.lst ((TZ V.int _).set _ (V.int _)))=_;rw[<- List.map_set]
    .have xy:x*y<=2^(d+e):=by
      rw[O4];exact RT bx.2 M.2 M.1 (Ww (O5 (by decide)))
     exact I.step hx hy (Int.mul_nonneg bx.1 M.1) xy M0 (by lia)
   .refine λr H2=>fY λJ L m z0 s3 G I=>?_;subst z0;rw[ZB]at I;exact dO _ _ _ _ (fk m rfl s3 G I.row)
  .refine λr H1=>gD λv3 v4 J L m=>fZ λz0 s2 B I=>?_;subst z0;rw[ZB]at I;refine⟨_,rfl,q p m H1 U B ⟨I.l,λz hz=>⟨(I.b z hz).1,?_⟩⟩ (λi j h1 h2=>I.k i j (.inl ?_) h1 h2) s2⟩
   .have:=(I.b z hz).2;have k:(((xs.length*n.length+0:Nat)):Int)<=2^13:=by
     have:xs.length*n.length<=65*65:=Nat.mul_le_mul (by lia) (by lia);show _<=(8192:Int);lia
    rw[O4,PB];exact Wx this (Su k M0)
   .by_cases h:i<xs.length
    .exact h
    .have:xs.getD i 0=0:=by
      rw[XC,SD (by lia)];rfl
     have h1:1<=xs.getD i 0:=h1;lia
def nearF (rs:AD)(c x:AA):Bool:=(zK rs c).any λz=>decide (z=x)
def Z0 {rs:AD}{o x:AA}:nearF rs o x=true↔x∈zK rs o:=Parts.zaF _ _
def zme {rs:AD}{x:AA}(h:x∈zT rs):Cells.sgn (codes rs) x=63:=by
 obtain⟨t,k,c,b,hk,a⟩:=zW h;have:k=63:=by
  unfold J0 at hk;simpa using hk
 rw[a,this]
def QB {rs:AD}{o x:AA}(a:x∈zT rs):nearF rs o x=true↔x∈clA rs o:=by
 rw[Z0];constructor
 .exact λh=>XO.mpr ⟨h,br (zme a)⟩
 .exact λh=>(XO.mp h).1
def zjd {rs:AD}{g:AB}{o:AA}:o∈zfl rs g↔o∈qx rs/\∃x∈g,nearF rs o x=true:=by
 unfold zfl;rw[XO,TL,WH];refine and_congr_right λ_=>?_;constructor
 .rintro⟨z,hz,h⟩;have a:(g.any λx=>decide (x=z))=true:=h;exact⟨z,(Parts.zaF _ _).mp a,Z0.mpr hz⟩
 .rintro⟨x,hx,h⟩;exact⟨x,Z0.mp h,(Parts.zaF _ _).mpr hx⟩
section
variable {rs:AD}{gs:List AB}(G:Parts.Good (clA rs) (qx rs) gs)
include G
theorem zaR:∀c∈gs.flatten,c∈zT rs:=λc a=>by
 obtain⟨o,_,h⟩:=G.from_ c a;exact ZT h
theorem zn5 {g:AB}(f:g∈gs){o x:AA}(j:o∈zfl rs g)(k:x∈zT rs)(i:nearF rs o x=true):x∈g:=by
 obtain⟨h1,y,h,h2⟩:=zjd.mp j;have d:=zaR G y (Wv.mpr ⟨g,f,h⟩);have b:=(QB d).mp h2;obtain⟨l,c,a⟩:=G.cov o h1 (RO b);have e:=Parts.zel G.nd c f (a y b) h;rw[<- e];exact a x ((QB k).mp i)
theorem zaS (R:Rows bd.cps.toList rs):gs.flatten.length<=64:=by
 have h1:=Parts.yd G.nd (zaR G);have h2:=zep R;lia
end
def zmf {rs:AD}{gs:List AB}(G:Parts.Good (clA rs) (qx rs) gs){c:AA}:c∈gs.flatten↔c∈zT rs/\∃o∈qx rs,nearF rs o c=true:=by
 constructor
 .intro h;obtain⟨o,e,b⟩:=G.from_ c h;have d:=ZT b;exact⟨d,o,e,(QB d).mpr b⟩
 .rintro⟨d,o,e,hn⟩;have b:=(QB d).mp hn;obtain⟨g,f,a⟩:=G.cov o e (RO b);exact Wv.mpr ⟨g,f,a c b⟩
def zmg {rs:AD}:(YN rs).isEmpty=true ↔ ∀o∈qx rs,clA rs o=[]->QG rs o=0:=by
 rw[P8];unfold YN QG;rw[Vx];constructor
 .intro h o a b;have:=h o (XO.mpr ⟨a,by rw[b];rfl⟩);rw[Wu,Bool.not_eq_false]at this;rw[bg this];rfl
 .intro h o a;obtain⟨h1,h2⟩:=XO.mp a;have:=h o h1 (P8.mp h2);rw[Wu,Bool.not_eq_false];exact br (by lia)
def zn6 {rs:AD}{c o:AA}(a:c∈xx rs)(b:o∈qx rs):nearF rs o c=false:=by
 unfold xx at a;have h:=(XO.mp a).2;rw[Wu,TL,List.any_eq_false]at h;exact WX.mpr (h o b)
def zmh {rs:AD}{c:AA}(h:c∈xx rs):c∈zT rs:=(XO.mp h).1
def J4 (rs:AD):(zT rs).Nodup:=qo (Cells.jv _ 0 (codes rs))
def zky (rs:AD):(xx rs).Nodup:=(J4 rs).sublist W2
section
variable {rs:AD}{gs:List AB}(G:Parts.Good (clA rs) (qx rs) gs)
include G
theorem zfp {c:AA}:c∈xx rs↔c∈zT rs/\c ∉ gs.flatten:=by
 rw[zmf G];constructor
 .intro h;refine⟨zmh h,?_⟩;rintro⟨_,o,b,a⟩;rw[zn6 h b]at a;cases a
 .rintro⟨h1,h2⟩;unfold xx;refine XO.mpr ⟨h1,?_⟩;rw[Wu,TL,List.any_eq_false];intro o b a;exact h2 ⟨h1,o,b,a⟩
end
def Small (rs:AD):Prop:=∀a,Parts.Good (clA rs) (qx rs) a->∀g∈a,g.length<=14
def zgN {rs:AD}(h:(zT rs).length<=14):Small rs:=λc G g a=>by
 have:=Parts.yd (qo (G.srt g a)) λx b=>zaR G x (Wv.mpr ⟨g,a,b⟩);lia
structure Lay (rs:AD)(n:Int)(L:AA->Bool):Prop where
 a:(((zT rs).countP L:Nat):Int)=n
 o:∀o∈qx rs,(((clA rs o).countP L:Nat):Int)=QG rs o
section
variable {rs:AD}{n:Int}{L:AA->Bool}{gs:List AB}(G:Parts.Good (clA rs) (qx rs) gs)(hL:Lay rs n L)
include G hL
theorem zmi {g:AB}(a:g∈gs):znZ rs g L:=λo c=>by
 rw[<- hL.o o (zjd.mp c).1,VH];congr 1;unfold inC;rw[UU];refine Oz ((Wf ((qo (G.srt g a)).sublist W2) ((zbo rs o).sublist W2)).mpr λx=>?_);rw[XO,XO,VP,bu];constructor
 .rintro⟨h1,h2,h3⟩;exact⟨(QB (zaR G x (Wv.mpr ⟨g,a,h1⟩))).mp (Z0.mpr h2),h3⟩
 .rintro⟨h1,h3⟩;have d:=ZT h1;have b:=(QB d).mpr h1;exact⟨zn5 G a c d b,Z0.mp b,h3⟩
theorem zje:(YN rs).isEmpty=true:=zmg.mpr λo b a=>by
 rw[<- hL.o o b,a];rfl
theorem zbG:(((gs.map λg=>(g.filter L).length).sum:Nat):Int)+(((xx rs).filter L).length:Nat)=n:=by
 have i:(zT rs).Perm (gs.flatten++xx rs):=(Wf (J4 rs) (WK.mpr ⟨G.nd,zky rs,λa c b d e=>((zfp G).mp d).2 (e ▸ c)⟩)).mpr λx=>by
  rw[XN,zfp G];constructor
  .intro h;by_cases z:x∈gs.flatten
   .exact .inl z
   .exact .inr ⟨h,z⟩
  .exact λh=>h.elim (zaR G x) λz=>z.1
 have e:∀l:List AB,l.flatten.countP L=(l.map λg=>(g.filter L).length).sum:=λl=>by
  induction l with
  | nil=>rfl
  | cons g r f=>rw[Wn,List.countP_append,f,Xw,Ts,VH]
 rw[<- hL.a,i.countP_eq,List.countP_append,e,VH (l:=xx rs)];lia
end
def zjf (gs:List AB):(gs.map λg=>g.length).sum=gs.flatten.length:=by
 rw[List.length_flatten]
def zh8 {a b:Nat}(h:a<=b):(2:Int)^a<=2^b:=by
 have:=Vd (n:=2) (by decide) h;have z:=Oa.mpr this;simpa using z
structure zgO (L:AA->Bool)(gs:List AB)(ts:List It):Prop where
 g:ts.map (λt=>t.2.1)=gs.map λg=>g.length
 k:ts.map (λt=>t.2.2)=gs.map λg=>(g.filter L).length
 ok:∀t∈ts,Cn t.2.1 14 t.1/\ZY t.1 t.2.2
def zgO.snoc {L:AA->Bool}{gs:List AB}{a:List It}{j:Nat}{g:AB}{xs:List Int}(h:zgO L (gs.take j) a)(b:gs[j]?=some g)(c:Cn g.length 14 xs)(k:ZY xs (g.filter L).length):zgO L (gs.take (j+1)) (a++[(xs,g.length,(g.filter L).length)]):=by
 rw[Xp,b];refine⟨?_,?_,λt ht=>?_⟩
 .rw[XA,XA,h.g];rfl
 .rw[XA,XA,h.k];rfl
 .rcases XN.mp ht with ht | ht
  .exact h.ok t ht
  .rw[Xb.mp ht];exact⟨c,k⟩
theorem zcV {H:Hp}{z:Addr}{ys:AE}:∀{b:AE} {c:List It},(∀v∈b,v≠V.ref z)->Xa (ItR H) b c->Xa (ItR (upd H z (.lst ys))) b c
 | _,_,_,.nil=>.nil
 | _,_,n,.cons ⟨a,e,h⟩ t=>.cons ⟨a,e,by rw[zp λq=>n _ XT (by rw[e,q])];exact h⟩ (zcV (λv d=>n v (XU _ d)) t)
def zqg:Sp:=λf H Q _=>∃(p l:Addr) (a:AD) (n:Int) (L:AA->Bool),f=[.ref p]/\qf H p l a n/\Rows bd.cps.toList a/\Small a/\Lay a n L /\
 ∀(d:Addr) (b:List AB) (e:List Int) (c:Hp),c d=some (.lst (iL e))->Parts.Good (clA a) (qx a) b->Cn b.flatten.length (27*b.length) e->ZY e (b.map λg=>(g.filter L).length).sum->zx H c->Q (.ref d) c
def zfq:Sp:=λc H Q _=>∃(p l:Addr) (a:AD) (n:Int) (L:AA->Bool),c=[.ref p]/\qf H p l a n/\Rows bd.cps.toList a/\Small a/\Lay a n L/\∀(v:Int) (b:Hp),1<=v->v<=2^2000->zx H b->Q (.int v) b
def xZ:zz ["lists","counts","others"] ["lists"] (zq Jy):=bh
def Zx (T:Txt mg)(Z:Prog K mg)(D:zh K mg "all_poured" Jy ["lists"] f fd):qg P w K mg base CX0 2 f fd ["lists"] zqe:=by
 obtain⟨ac,ab,N⟩:=Z.poured;have L:=zer (P:=P) (w:=w) (base:=base) T N;refine D.F.ok xZ (λvs H Q E h=>?_) (λaa A I s H vs Q E hr h=>?_)
 .revert h;refine fR λr Y b z0 _=>?_;subst z0;rfl
 .revert h;refine gn λr Y b z0 m p ok sg tl q=>?_;subst z0;refine⟨_,(@ze _ _ _ _ _ (@qG _ _ 1 _ _ _ _ xZ.nd rfl (V4 rfl) (@zV _ _ _ _ (@za _ _ _ _ _ zj zd rfl)) (by rfl) (.inr rfl)) (ze (qH Xf rfl (zJ (pvS 0)) (pgq 2 xZ.nd) (zf (qz 1 xZ.nd (pc0 L hr N (za (pvS 1) (za (pvS 2) zd)))))) (zf (zF (pvS 1))))),?_⟩;(try dsimp only[cxK,cxP,cxW]);refine⟨sz_1,λO l=>?_⟩;have s0:zx H (upd H O (.lst [.int 1])):=zc l;refine⟨_,rfl,r,rfl,⟨_,SqL.of (s0 _ _ m)⟩,?_⟩;refine jU (K:=K) (a:=r) (xs:=Y) (λi u z=>∃(c:Addr) (J:Option V) (j:List Int),u=[some (.ref r),some (.ref c),J]/\zx H z/\H c=none/\z c=some (.lst (iL j))/\Cn (YD (b.take i)) (27*i) j/\ZY j (sumK (b.take i)))
   (dQ O _ [1] rfl s0 l zb ⟨rfl,λx p=>by rw[Xb.mp p];decide⟩ (by show (1:Int)<=1;decide)) (λi u z _ ⟨_,_,_,_,y,_⟩=>SqL.of (y _ _ m)) ?_ ?_
  .refine λi v u M hv=>fT λc J j z0 s1 U g k n=>?_;subst z0;refine fU (λt o a1 z0 B=>?_) (QJ p hv);subst z0;have il:=(X5.mp o).1;obtain⟨ct,kt⟩:=ok t (X8 o);have eg:YD (b.take (i+1))=YD (b.take i)+t.2.1:=by
    unfold YD;rw[Xp,o,XA,Tl];rfl
   have ek:sumK (b.take (i+1))=sumK (b.take i)+t.2.2:=by
    unfold sumK;rw[Xp,o,XA,Tl];rfl
   have gl:YD (b.take (i+1))<=YD b:=by
    have e:YD b=YD (b.take (i+1))+YD (b.drop (i+1)):=by
     unfold YD;rw[<- Tl,<- XA,W9]
    lia
   refine⟨_,rfl,_,rfl,c,a1,j,t.1,YD (b.take i),t.2.1,27*i,14,rfl,SqL.of g,SqL.of (s1 _ _ B),k,ct,by lia,by lia,by lia,by lia,λd ys H2 hd G cy ky s2=>(dQ d _ ys rfl (s1.trans s2) (s1.free hd) G ?_ ?_)⟩
   .rw[eg,show 27*(i+1)=27*i+14+13 by lia];exact cy
   .rw[ek];exact ky _ _ n kt
  .refine λu M=>fT λc J j z0 s1 U g k n=>?_;subst z0;rw[Paired.length p]at k n;rw[XD]at k n;exact⟨_,rfl,q c j M U g k n s1⟩
def zcW:zz ["board"] ["board"] (zq xU):=bh
def zcX (T:Txt mg)(Z:Prog K mg)(D:zh K mg "near_counts" xU ["board"] f fd):qg P w K mg base CX0 6 f fd ["board"] zqg:=by
 obtain⟨Qk,Z1,zL⟩:=Z.around;obtain⟨yM,j3,zu⟩:=Z.sign_at;obtain⟨j4,jA,zw⟩:=Z.cells_of;obtain⟨YE,Zy,zB⟩:=Z.open_cells;obtain⟨Ql,YF,zU⟩:=Z.number_at;obtain⟨al,aj,jj⟩:=Z.numbers_of;obtain⟨ao,an,jZ⟩:=Z.needs_at;obtain⟨au,aq,yL⟩:=Z.may_fit;obtain⟨ai,ah,jc⟩:=Z.part_layings;obtain⟨av,ar,jw⟩:=Z.counted;obtain⟨ax,ay,QS⟩:=Z.part_counts;obtain⟨yy,yj,zE⟩:=Z.closed_around;obtain⟨az,aw,ZV⟩:=Z.joined;obtain⟨a2,a1,O⟩:=Z.parts;obtain⟨am,ak,jG⟩:=Z.all_poured;refine D.F.ok zcW (λvs H Q E h=>?_) (λae A ac s H vs Q E hr h=>?_)
 .revert h;refine gg λp l rs n L z0 _=>?_;subst z0;rfl
 .revert h;refine gp λp l rs n L z0 b R sm hL q=>?_;subst z0;refine⟨_,(zf (zF (pc0 (Zx T Z jG) hr jG (za (pcm ["part","board"] [none,some 0] cR (zJ (pc0 (zgE T O zL zu zw zB zE ZV) hr O (za (pvS 0) zd))) (pgN 0) qh (pc0 (zcU T QS zL zu zw zB zU jj jZ yL jc jw) hr QS (za (pvS 1) (za (pvS 0) zd)))) zd)))),?_⟩;(try dsimp only[cxK,cxP,cxW]);refine⟨_,rfl,p,l,rs,n,rfl,b,R,λd ws B H1 hd J hG _ _ G up s1=>(dI d rfl ⟨_,SqL.of J⟩ (λz hz=>?_))⟩;have af:B.length<=64:=X6 (Parts.ZL G.ne) (zaS G R);refine qa (K:=K) (a:=d) (xs:=ws) (λj x U=>∃(u0:Option V) (u:AE) (r:List It),x=[u0,some (.ref p)]/\zx H1 U/\U z=some (.lst u)/\(∀v∈u,v≠V.ref z)/\Xa (ItR U) u r/\zgO L (B.take j) r)
   (dQ _ [] [] rfl (zc hz) zb (λ_ h=>nomatch h) (.nil) ⟨rfl,rfl,λ_ h=>nomatch h⟩) (λj x U _ ⟨_,_,_,_,y,_⟩=>SqL.of (y _ _ J)) ?_ ?_
  .refine λj v x H2 hv=>fT λu0 u r z0 M m nz i c=>?_;subst z0;refine gy (λg hg ga ug z0 ab aa=>?_) (yF.get (hG.mono M) hv);subst z0;have Y:=X8 hg;have il:=(X5.mp hg).1;unfold xo;refine YC ?_;refine⟨_,rfl,_,rfl,p,l,ga,rs,n,ug,g,L,rfl,(b.mono s1).mono M,R,ab,aa,qo (G.srt g Y),sm B G g Y,zmi G hL Y,λe xs H3 he I cn hk N=>?_⟩;have ez:e≠z:=λy=>by
    subst y;rw[m]at he;cases he
   have yl:u.length=j:=by
    rw[Paired.length i,<- ZB (f:=λt:It=>t.2.1),c.g,ZB,XJ];lia
   refine dI _ (N _ _ m) (XM (show u.length<=64 by lia) (by decide)) (dQ _ (u++[.ref e]) (r++[(xs,g.length,(g.filter L).length)]) rfl (λb o e'=>?_) zb (λv hv=>?_) ?_ (c.snoc hg cn hk))
   .rw[zp (zg e' hz)];exact N _ _ (M _ _ e')
   .rcases XN.mp hv with hv | hv
    .exact nz v hv
    .rw[Xb.mp hv];exact λq=>ez (V.ref.inj q)
   .exact Paired.snoc (zcV nz (ZZ N i)) ⟨e,rfl,by rw[zp ez];exact I⟩
  refine λx H2=>fT λu0 u r z0 M m _ i c=>?_;subst z0;rw[hG.length,XD]at c;have eg:YD r=B.flatten.length:=by
   unfold YD;rw[c.g,zjf]
  have ek:sumK r=(B.map λg=>(g.filter L).length).sum:=by
   unfold sumK;rw[c.k]
  have tl:r.length=B.length:=by
   have:=congrArg List.length c.g;rwa [ZB,ZB]at this
  have ag:=zaS G R;refine eZ z u r rfl m i c.ok (by lia) (by lia) (λe zs H3 he I cz hk N=>?_);rw[eg,tl]at cz;rw[ek]at hk;exact q e B zs H3 I G cz hk (s1.trans (M.trans N))
def YG:zz ["n","k","found","step"] ["n","k"] (zq Qx):=bh
def zic (T:Txt mg)(D:zh K mg "choices" Qx ["n","k"] f fd):qg P w K mg base CX0 1 f fd ["n","k"] zrG:=by
 refine D.F.ok YG (λo H Q E h=>?_) (λj A d s H o Q E r h=>?_)
 .obtain⟨n,k,rfl,_⟩:=h;rfl
 .revert h;refine fK λn k z0 u q=>?_;subst z0;refine⟨_,(ze (qR (za4 (YX Zv Zv zj (pvS 1) (pvS 0))) (@zf _ _ _ (@zF _ _ _ _ zj)) qd) (@ze _ _ _ _ _ (@qG _ _ 2 _ _ _ _ YG.nd rfl (V4 rfl) zj (by rfl) (.inr rfl)) (ze (qH Xf rfl (prg T.JB (pvS 1)) (pgq 3 YG.nd) (zf (qz 2 YG.nd (zG yJ (zG Zg (pvS 2) (zG Jv (pvS 0) (pvS 3))) (zG jt (pvS 3) zj))))) (zf (zF (pvS 2)))))),?_⟩;(try dsimp only[cxK,cxP,cxW]);refine⟨_,rfl,_,_,rfl,rfl,_,rfl,?_⟩;unfold chV at q;refine zaq (λc=>?_) (λc=>?_)
  .have b:(0:Int)<=k:=bg c;refine⟨_,rfl,_,_,rfl,rfl,_,rfl,?_⟩;by_cases c:k<=n
   .rw[bw ⟨b,c⟩]at q;rw[br c];refine zap ?_;refine⟨_,rfl,k,rfl,by lia,by lia,?_⟩;refine yG (lo:=0) (n:=k.toNat) (λi g a=>∃v,g=[some (.int n),some (.int k),some (.int (Choose.ch n.toNat i)),v]/\a=H) ⟨_,by rw[Choose.zaG];rfl,rfl⟩ ?_ ?_
    .rintro i g a p ⟨v,rfl,rfl⟩;refine⟨_,rfl,_,rfl,_,rfl,_,_,rfl,rfl,_,_,rfl,rfl,zrd (by lia) (by lia),_,rfl,_,_,rfl,rfl,_,_,rfl,rfl,JP.small (by lia) (by lia),?_⟩;refine⟨some (.int (0+(i:Int))),?_,rfl⟩;have e:=Choose.znS (n:=n.toNat) (k:=i) (by lia);have l:((n.toNat:Nat):Int)=n:=UD (by lia);rw[l]at e;have m:(Choose.ch n.toNat i:Int)*(n-(0+(i:Int)))/(0+(i:Int)+1)=Choose.ch n.toNat (i+1):=by
      rw[R3];exact e
     show [_,_,some (V.int ((Choose.ch n.toNat i:Int)*(n-(0+(i:Int)))/(0+(i:Int)+1))),_]=_;rw[m]
    .rintro g a ⟨v,rfl,rfl⟩;exact⟨_,rfl,q⟩
   .rw[bq (λh=>c h.2)]at q;rw[bf c];exact zdq q
  .have b:¬ (0:Int)<=k:=λz=>c (br z);rw[bq (λh=>b h.1)]at q;exact⟨_,rfl,zdq q⟩
def zmo:zz ["counts","cells","stones"] ["counts","cells","stones"] (zq zch):=bh
def zcZ (T:Txt mg)(Z:Prog K mg)(D:zh K mg "dealt" zch ["counts","cells","stones"] f fd):qg P w K mg base CX0 2 f fd ["counts","cells","stones"] zn4:=by
 obtain⟨ac,ae,u⟩:=Z.choices;have aa:=zic (P:=P) (w:=w) (base:=base) T u;refine D.F.ok zmo (λvs H Q E h=>?_) (λab A O s H vs Q E hr h=>?_)
 .revert h;refine fM λc xs m st=>fL λg e z0 _=>?_;subst z0;rfl
 .revert h;refine fM λc xs m st=>fS λg e z0 hc cx e7=>fO λgl N q=>?_;subst z0;have xl:=cx.l;refine⟨_,(zf (zF (pb1 (zf6 rfl) T.zoW Pd (pcm ["k","many","cells","stones"] [none,none,some 1,some 2] cR (yW (by rfl) T.qN (za (pvS 0) zd)) (zb7 (n:=2) (K:=K) (by rfl) rfl (zP (pgN 0) (zP (pgN 1) jr))) qh (zG Zg (pvS 1) (pc0 aa hr u (za (pvS 2) (za (zG Jv (pvS 3) (pvS 0)) zd)))))))),?_⟩;(try dsimp only[cxK,cxP,cxW]);refine⟨_,rfl,c,rfl,⟨_,SqL.of hc⟩,λz hz=>?_⟩;refine zhD (K:=K) (a:=c) (xs:=iL xs) (λi I J=>∃(U u1:Option V) (j:List Int),I=[U,u1,some (.int m),some (.int st)]/\zx H J/\J z=some (.lst (iL j))/\j.length=i/\(∀y∈j,0<=y)/\(∀y∈j,y<=2^(e+64))/\∀k,k<i->ZY xs k->0<=st-(k:Int)->st-(k:Int)<=m->ZY j k) (eZ _ _ [] rfl (zc hz) zb rfl (λ_ h=>nomatch h) (λ_ h=>nomatch h) (λk h=>by lia)) (λi I J _ ⟨_,_,_,_,r,_⟩=>SqL.of (r _ _ hc)) ?_ ?_
  .refine λi x tt I H3 hx L=>gn λU u1 j z0 r p G B zm Y=>?_;subst z0;refine fJ (λy M z0=>?_) (ints_get hx);subst z0;have il:=(X5.mp M).1;have d:=cx.b y (X8 M);have s4:=zc (o:=.tup [.int ((i:Nat):Int),.int y]) L;refine dW tt _ rfl (SqT.of zb) rfl _ _ rfl _ _ rfl rfl ?_;unfold zk6;refine zdq ⟨_,rfl,_,rfl,_,rfl,_,rfl,_,_,rfl,rfl,m,_,rfl,N,_,_,rfl,rfl,zre (zfn d.1 d.2 e7) (zn3 N),_,s4 _ _ p,?_,_,_,j++[y*chV m (st-(i:Int))],rfl,λb' o e'=>?_,?_,by rw[XX,G];rfl,λx hx=>?_,λx hx=>?_,λk hk h1 h2 v=>?_⟩
   .rw[ZB];exact Xn (show j.length<150 by lia) (by decide)
   .rw[zp (zg e' hz)];exact s4 _ _ (r _ _ e')
   .rw[zb,zn2]
   .rcases XN.mp hx with hx | hx
    .exact B x hx
    .rw[Xb.mp hx];exact Int.mul_nonneg d.1 (zo0 _ _)
   .rcases XN.mp hx with hx | hx
    .exact zm x hx
    .rw[Xb.mp hx,O4];exact RT d.2 (zqf N) (zo0 _ _) (Ww (O5 (by decide)))
   .show 1<=_;rw[XC];by_cases ki:k<i
    .rw[V9 (by lia),<- XC];exact Y k ki h1 h2 v
    .have:k=i:=by lia
     subst this;rw[VV (by lia),G,TM];have h1:1<=xs.getD k 0:=h1;rw[XC,M]at h1;have h1:1<=y:=h1;have:=RT h1 (zrF h2 v) (by decide) (by lia);show 1<=y*chV m (st-(k:Int));lia
  .refine λI H3=>gn λU u1 j z0 r p G B zm Y=>?_;subst z0;refine⟨z,_,rfl,SqL.of p,q _ _ (zfo B).1 ?_ (λk h1 h2 v=>?_) r⟩
   .have a:=zmd zm;rw[G,ZB]at a;have M0:(0:Int)<=2^(e+64):=Ww (O5 (by decide));have b:((xs.length:Nat):Int)*2^(e+64)<=2^8*2^(e+64):=Su (by show _<=(256:Int);lia) M0;rw[<- O4,show 8+(e+64)=e+72 by lia]at b;exact Wx a b
   have kl:k<xs.length:=by
    by_cases h:k<xs.length
    .exact h
    .have e:xs.getD k 0=0:=by
      rw[XC,SD (by lia)];rfl
     have h1:1<=xs.getD k 0:=h1;lia
   have:=(zfo B).2 k (Y k (by rw[ZB];exact kl) h1 h2 v);lia
def zgQ:zz ["board","near"] ["board"] (zq zcg):=bh
def zgR (T:Txt mg)(Z:Prog K mg)(D:zh K mg "count" zcg ["board"] f fd):qg P w K mg base CX0 7 f fd ["board"] zfq:=by
 obtain⟨Qk,Z1,zL⟩:=Z.around;obtain⟨yM,j3,zu⟩:=Z.sign_at;obtain⟨j4,jA,zw⟩:=Z.cells_of;obtain⟨af,QC,qv⟩:=Z.closed;obtain⟨YE,Zy,zB⟩:=Z.open_cells;obtain⟨Ql,YF,zU⟩:=Z.number_at;obtain⟨yy,yj,zE⟩:=Z.closed_around;obtain⟨an,am,i⟩:=Z.far;obtain⟨ah,ag,Y⟩:=Z.bare_wrong;obtain⟨ai,aj,J⟩:=Z.near_counts;obtain⟨al,ak,M⟩:=Z.dealt;refine D.F.ok zgQ (λvs H Q E h=>?_) (λaa A x s H vs Q E d h=>?_)
 .revert h;refine gg λp l a n L z0 _=>?_;subst z0;rfl
 .revert h;refine gp λp l a n L z0 b R sm k q=>?_;subst z0;refine⟨_,(ze (qz 1 zgQ.nd (pc0 (zcX T Z J) d J (za (pvS 0) zd))) (ze (qR (zO (jV d.units) (pc0 (QO T Y zL zu zw zE zB zU) d Y (za (pvS 0) zd)) (@zV _ _ _ _ zd) (qb _)) (@zf _ _ _ (@zF _ _ _ _ zj)) qd) (zf (zF (pc0 (zcZ T Z M) d M (za (pvS 1) (za (pb1 zH T.qI Xk (pc0 (zlY T i zL zu zw qv zB) d i (za (pvS 0) zd))) (za (zQ qi (pvS 0) zj (λ_ _=>rfl)) zd)))))))),?_⟩;(try dsimp only[cxK,cxP,cxW]);refine⟨_,rfl,p,l,a,n,L,rfl,b,R,sm,k,λd1 gs zs H1 B G cz hk s1=>?_⟩;refine⟨_,rfl,p,l,a,n,rfl,b.mono s1,R,λd2 w2 H2 ae I m U=>⟨x9,λe he=>?_⟩⟩;have j:=zc (o:=.lst []) he;refine dH (.list ((YN a).map zv)) (.list []) (.lst (SqL.of (j _ _ I)) (zC.rdv (N:=λ_=>True) (Cel.rdn (Cel.mono j m)))) (.lst (SqL.of zb) .nil) (zcR _ []) ⟨_,rfl,?_⟩;have ee:(if true=true then !PyData.eqv (.list ((YN a).map zv)) (.list []) else W1 (.list ((YN a).map zv)) (.list []))=!(YN a).isEmpty:=congrArg (λb=>!b) (eq_nil _);rw[ee,zje G k];have g:=(s1.trans U).trans j;have c:=j _ _ (U _ _ B);generalize upd H2 e (.lst [])=H3 at *
  refine zap ?_;have O:=b.mono g;refine⟨_,rfl,_,rfl,p,l,a,n,rfl,O,R,λd4 z H4 _ u r y=>⟨d4,_,rfl,.inl (SqL.of u),?_⟩⟩;have hl:=r.length;have ac:(xx a).length<=64:=X6 (W7 _ _) (qW (p:=J0) R);have ab:=zaS G R;have gl:=Parts.ZL G.ne;have en:=zbG G k;have fl:=W7 L (xx a);exact⟨_,rfl,p,_,1,_,rfl,rfl,SqT.of (O.mono y).tp,rfl,d1,zs,(z.length:Nat),n,_,_,rfl,y _ _ c,cz,by lia,by lia,by lia,λv H' v0 vm hv s'=>q v H' (by have:=hv _ hk (by lia) (by lia);lia) (Wx vm (zh8 (by lia))) ((g.trans y).trans s')⟩
abbrev KV1:=List (List Key×V)
def qC (c:AA):List Key:=[.inl ((c.1:Nat):Int),.inl ((c.2:Nat):Int)]
def Qm {c d:AA}(h:qC c=qC d):c=d:=by
 unfold qC at h;obtain⟨a,b⟩:=c;obtain⟨x,y⟩:=d;simp only[List.cons.injEq,Sum.inl.injEq,and_true]at h;obtain⟨h1,h2⟩:=h;have e:a=x:=by lia
 have f:b=y:=by lia
 rw[e,f]
def zfu (c:AA)(k:List (Int×Int)):Bool:=k.any λz=>decide (z=toI c)
def zn9:Sp:=λj H Q _=>∃(h f:Addr) (i:AE) (a:List (List (Int×Int))) (N:Addr->Prop) (g:Nat) (c:AA),j=[.ref h,.int (g:Nat),.ref f]/\H h=some (.lst i)/\jS N H i a/\(∀k∈a,k.length<=g)/\g<=64/\a.length<=16384/\H f=some (.tup [.int (c.1:Nat),.int (c.2:Nat)]) /\
 ∀(d:Addr) (e:List Int) (b:Hp),H d=none->b d=some (.lst (iL e))->Cn g 14 e->(∀k∈a,zfu c k=true->ZY e k.length)->zx H b->Q (.ref d) b
def zoa (c:AA)(q:AB):zfu c (toL q)=decide (c∈q):=by
 unfold zfu toL;rw[TL,Wh,WH,bu];constructor
 .rintro⟨x,hx,h⟩;have f:toI x=toI c:=bg h;have:x=c:=by
   unfold toI at f;obtain⟨a,b⟩:=x;obtain⟨d,e⟩:=c;simp only[Ri]at f;have g:a=d:=by lia
   have i:b=e:=by lia
   rw[g,i]
  rw[<- this];exact hx
 .intro h;exact⟨c,h,br rfl⟩
def zc0 (L:AA->Bool)(z:Addr)(H:Hp)(v:V)(g:AB):Prop:=∃a d c,v=V.ref a/\a≠z/\H a=some (.lst d)/\jS (λb=>b≠z) H d c/\toL (g.filter L)∈c/\(∀k∈c,k.length<=g.length)/\c.length<=16384
def Zs {L:AA->Bool}{z:Addr}{H b:Hp}(s:zx H b){c:AE}{gs:List AB}(d:Xa (zc0 L z H) c gs):Xa (zc0 L z b) c gs:=Paired.imp' (λ_ _ ⟨a,g,f,e,n,h,l,p⟩=>(dP a g f e n (s _ _ h) (jb s l) p)) d
def zgT {L:AA->Bool}{z:Addr}{H:Hp}{xs ys:AE}(hz:H z=some (.lst xs)){b:AE}{gs:List AB}(c:Xa (zc0 L z H) b gs):Xa (zc0 L z (upd H z (.lst ys))) b gs:=Paired.imp' (λ_ _ ⟨a,f,d,e,n,h,l,p⟩=>(dP a f d e n (by rw[zp n];exact h) (J3 hz (λ_ h=>h) l) p)) c
theorem zjg {α c:Type}{R:α->c->Prop}:∀{b:List α} {a:List c} (i:Nat),Xa R b a->Xa R (b.take i) (a.take i)
 | _,_,0,_=>.nil
 | _,_,_+1,.nil=>.nil
 | _,_,i+1,.cons h t=>.cons h (zjg i t)
theorem zjh {α c:Type}{R:α->c->Prop}:∀{b:List α} {a:List c} (i:Nat),Xa R b a->Xa R (b.drop i) (a.drop i)
 | _,_,0,h=>h
 | _,_,_+1,.nil=>.nil
 | _,_,i+1,.cons _ t=>zjh i t
def zji (a:List (List Key×V))(k:List Key)(v:V):(putK a k v).length<=a.length+1:=by
 unfold putK;split
 .rw[ZB];exact Wb _
 .rw[XX];exact XW _
def zms (l:List (List Key×V)):(Zi l).length<=l.length:=by
 have:∀(l a:List (List Key×V)),(l.foldl (λa b=>putK a b.1 b.2) a).length<=a.length+l.length:=λl=>by
  induction l with
  | nil=>exact λa=>XW _
  | cons x r c =>
   intro a;rw[Wp,Xi];have h1:=c (putK a x.1 x.2);have h2:=zji a x.1 x.2;lia
 have:=this l [];rw[UO,VQ]at this;exact this
def zqj (xs:AE){i:Nat}(h:i<=xs.length):zdo xs none (some ((i:Nat):Int))=xs.take i:=by
 unfold zdo;rw[HT.ziK,Nat.min_eq_left h];show (xs.drop 0).take (i-0)=_;rw[List.drop_zero,Oc]
def OkV (L:AA->Bool)(a:List (List Key×V))(c:AA):Prop:=∃v:Int,qK a (qC c)=some (V.int v)/\0<=v/\v<=2^2000/\(L c=true->v≠0)
def zmt:Sp:=λf H Q _=>∃(p l:Addr) (b:AD) (n:Int) (L:AA->Bool),f=[.ref p]/\qf H p l b n/\Rows bd.cps.toList b/\Small b/\Lay b n L /\
 ∀(d:Addr) (a:List (List Key×V)) (e:Hp),H d=none->e d=some (.dT a)->(∀c∈zT b,OkV L a c)->zx H e->Q (.ref d) e
def zdH:zz ["found","greatest","cell"] ["found","greatest","cell"] (zq Jx):=bh
def zdI {f1:Addr}{M:XH}(T:Txt mg)(D:zh K mg "counted_at" Jx ["found","greatest","cell"] f fd)(jw:zh K mg "counted" JI ["found","greatest"] f1 M):qg P w K mg base CX0 2 f fd ["found","greatest","cell"] zn9:=by
 refine D.F.ok zdH (λvs H Q E h=>?_) (λaf A ae s H vs Q E hr h=>?_)
 .revert h;refine fM λL ca us B=>fR λN g c z0 _=>?_;subst z0;rfl
 .revert h;refine fM λL ca us B=>fV λN g c z0 u hL hk=>fZ λO kl U q=>?_;subst z0;refine⟨_,(zf (zF (pc0 (zae T jw) hr jw (za (pcm ["laying","cell"] [none,some 2] cR (zJ (pvS 0)) (pgN 0) (qu (zO (jh (K:=K) (by rfl) hr.units) (pvS 1) (pvS 0) (by rfl))) (pvS 0)) (za (pvS 1) zd))))),?_⟩;(try dsimp only[cxK,cxP,cxW]);refine⟨_,rfl,L,rfl,⟨_,SqL.of u⟩,λz hz=>?_⟩;refine qa (K:=K) (a:=L) (xs:=us) (λj n G=>∃(u0:Option V) (m:AE),n=[u0,some (.ref ca)]/\zx H G/\G z=some (.lst m)/\jS (λa=>a≠z) G m ((B.take j).filter (zfu c)))
   (dH _ [] rfl (zc hz) zb (.nil)) (λj n G _ ⟨_,_,_,y,_⟩=>SqL.of (y _ _ u)) ?_ ?_
  .refine λj v n H1 hv=>fH λu0 m z0 s1 l i=>?_;subst z0;refine fV (λk J wa x z0 _ p t1=>?_) (zaQ hL hv);subst z0;have jl:j<B.length:=(X5.mp x).1;have I:(B.take (j+1)).filter (zfu c)=(B.take j).filter (zfu c)++if zfu c k=true then [k] else []:=by
    rw[Xp,x,WF];congr 1;show O6 _ [k]=_;rw[VO];split<;>rfl
   refine⟨_,rfl,_,rfl,zv c,k.map pD,.tup (SqT.of (s1 _ _ U)) (.cons (.int _) (.cons (.int _) .nil)),.lst (SqL.of (s1 _ _ p)) (zl5 (ZW s1 t1)),rfl,zl6 _,(by show 1<=60;decide),_,rfl,?_⟩;have ei:(if false=true then !(k.map pD).any (λz=>W1 z (zv c)) else (k.map pD).any λz=>W1 z (zv c))=zfu c k:=zqd k c;rw[ei];by_cases r:zfu c k=true
   .rw[bw r]at I;refine yD r ?_;have yl:m.length<=16384:=by
     rw[qX i];refine X6 (W7 _ _) ?_;rw[XJ];lia
    refine⟨_,rfl,m,l,XM yl (by decide),_,m++[.ref J],rfl,λb o e=>?_,zb,?_⟩
    .rw[zp (zg e hz)];exact s1 _ _ e
    .rw[I];have nz:J≠z:=zg p hz;exact Qz (J3 l (λ_ h=>h) i) (.cons (dH J wa rfl nz (by rw[zp nz];exact s1 _ _ p) (ZX l (ZW s1 t1))) .nil)
   .rw[bq r,WV]at I;refine jE (WX.mpr r) ?_;exact dH _ m rfl s1 l (by rw[I];exact i)
  refine λn H1=>fH λu0 m z0 s1 l i=>?_;subst z0;rw[qX hL,XD]at i;refine⟨_,rfl,z,m,_,_,g,rfl,l,i,λk aa=>hk k (XO.mp aa).1,O,X6 (W7 _ _) kl,λd xs H2 hd Y cn ab s2=>?_⟩;exact q d xs H2 (s1.free hd) Y cn (λk ac r=>ab k (XO.mpr ⟨ac,r⟩)) (s1.trans s2)
def zR:zz ["board","pieces","found","counts","rest","at_far","told","place","part","others","cell","near"] ["board"] (zq yh):=bh
def zaV (T:Txt mg)(Z:Prog K mg)(D:zh K mg "counts_by_cell" yh ["board"] f fd):qg P w K mg base CX0 7 f fd ["board"] zmt:=by
 obtain⟨Qk,Z1,zL⟩:=Z.around;obtain⟨yM,j3,zu⟩:=Z.sign_at;obtain⟨j4,jA,zw⟩:=Z.cells_of;obtain⟨dk,QC,qv⟩:=Z.closed;obtain⟨YE,Zy,zB⟩:=Z.open_cells;obtain⟨Ql,YF,zU⟩:=Z.number_at;obtain⟨dt,dp,jj⟩:=Z.numbers_of;obtain⟨dx,dw,jZ⟩:=Z.needs_at;obtain⟨d0,dy,yL⟩:=Z.may_fit;obtain⟨dn,dm,jc⟩:=Z.part_layings;obtain⟨d2,dz,jw⟩:=Z.counted;obtain⟨dE,d6,bR⟩:=Z.counted_at;obtain⟨yy,yj,zE⟩:=Z.closed_around;obtain⟨d9,d3,ZV⟩:=Z.joined;obtain⟨dC,dA,bQ⟩:=Z.parts;obtain⟨dG,dF,bS⟩:=Z.far;obtain⟨dv,dr,xj⟩:=Z.bare_wrong;obtain⟨d8,d4,Qj⟩:=Z.poured;obtain⟨du,dq,jG⟩:=Z.all_poured;obtain⟨dD,dB,YH⟩:=Z.dealt;refine D.F.ok zR (λvs H Q E h=>?_) (λcW A c4 s H vs Q E hr h=>?_)
 .revert h;refine gg λp l u n L z0 _=>?_;subst z0;rfl
 .revert h;refine gp λp l u n L z0 b R sm hL q=>?_;subst z0;have cb:(zT u).length<=64:=qW R;refine⟨_,(ze (qz 1 zR.nd (pc0 (zgE T bQ zL zu zw zB zE ZV) hr bQ (za (pvS 0) zd))) (ze (psC 2 zR.nd ["part","board"] [none,some 0] cR (zJ (pvS 1)) (pgN 0) qh (pc0 (YO T jc zL zu zw zB zU jj jZ yL) hr jc (za (pvS 1) (za (pvS 0) zd)))) (ze (qR (zO (jV hr.units) (pc0 (QO T xj zL zu zw zE zB zU) hr xj (za (pvS 0) zd)) (@zV _ _ _ _ zd) (qb _)) (zf (zF (pt1 (jM hr.units hr.hd) T.zcN U2 (pcm ["cell"] [none] cP (zJ (pc0 (JJ T qv zw zu) hr qv (za (pvS 0) zd))) (pgN 0) qh (qj (za (pvS 0) (@za _ _ _ _ _ zj zd rfl))))))) qd) (ze (psC 3 zR.nd ["part","some"] [none,none] cP (zpK (by rfl) T.zrA (za (pvS 1) (za (pvS 2) zd))) (zb7 (n:=2) (K:=K) (by rfl) rfl (zP (pgN 0) (zP (pgN 1) jr))) qh (pc0 (zae T jw) hr jw (za (pvS 1) (za (pb1 (zcM (K:=K) (by rfl)) T.qI Xk (pvS 0)) zd)))) (ze (qz 4 zR.nd (pc0 (zlY T bS zL zu zw qv zB) hr bS (za (pvS 0) zd))) (ze (qz 5 zR.nd (pc0 (zcZ T Z YH) hr YH (za (pc0 (Zx T Z jG) hr jG (za (pvS 3) zd)) (za (zG Jv (pb1 zH T.qI Xk (pvS 4)) zj) (za (zG Jv (zQ qi (pvS 0) zj (λ_ _=>rfl)) zj) zd))))) (ze (qz 6 zR.nd (pt1 (jM hr.units hr.hd) T.zcN U2 (pcm ["cell","at_far"] [none,some 5] cR (zJ (pvS 4)) (pgN 0) qh (qj (za (pvS 0) (za (pvS 1) zd)))))) (ze (qH Xf rfl (yW (by rfl) T.qN (za (pvS 1) zd)) (xq rfl (zP (pgq 7 zR.nd) (zP (pgq 8 zR.nd) jr))) (ze (qz 9 zR.nd (pc0 (Zx T Z jG) hr jG (za (zG JO (zcp zeQ (pvS 3) zeM (zeN (pvS 7))) (zcp zeQ (pvS 3) (zeN (zG jt (pvS 7) zj)) zeM)) zd))) (zf (qH Xf rfl (zJ (pvS 8)) (pgq 10 zR.nd) (ze (qz 11 zR.nd (pc0 (zer T Qj) hr Qj (za (pvS 9) (za (pc0 (zdI T bR jw) hr bR (za (zQ jO (pvS 2) (pvS 7) (λ_ _=>rfl)) (za (pb1 zH T.qI Xk (pvS 8)) (za (pvS 10) zd)))) zd)))) (zf (ziP (u1 hr.units) (pvS 6) (pvS 10) (pc0 (zcZ T Z YH) hr YH (za (pvS 11) (za (pb1 zH T.qI Xk (pvS 4)) (za (zQ qi (pvS 0) zj (λ_ _=>rfl)) zd)))) rfl))))))) (zf (zF (pvS 6))))))))))),?_⟩;(try dsimp only[cxK,cxP,cxW]);refine⟨_,rfl,p,l,u,n,rfl,b,R,λd1 w1 B H1 dc aY hG _ _ G up s1=>?_⟩;have ba:=zaS G R;have cO:B.length<=64:=X6 (Parts.ZL G.ne) ba;refine⟨_,rfl,d1,rfl,⟨_,SqL.of aY⟩,λz hz=>?_⟩;refine qa (K:=K) (a:=d1) (xs:=w1) (λj aa I=>∃(u0:Option V) (ys:AE),aa=[u0,some (.ref p)]/\zx H1 I/\I z=some (.lst ys)/\Xa (zc0 L z I) ys (B.take j))
   (dH _ [] rfl (zc hz) zb (.nil)) (λj aa I _ ⟨_,_,_,y,_⟩=>SqL.of (y _ _ aY)) ?_ ?_
  .refine λj v aa H2 hv=>fH λu0 ys z0 s2 ag bA=>?_;subst z0;refine gy (λg hg ga ug z0 ar aj=>?_) (yF.get (hG.mono s2) hv);subst z0;have gm:=X8 hg;have il:=(X5.mp hg).1;unfold xo;refine YC ?_;refine⟨_,rfl,_,rfl,p,l,ga,u,n,ug,g,L,rfl,(b.mono s1).mono s2,R,ar,aj,qo (G.srt g gm),sm B G g gm,zmi G hL gm,λe we ks H3 he cq cf own kl km s3=>?_⟩;have ez:e≠z:=λy=>by
    subst y;rw[ag]at he;cases he
   have nz:∀a,(H2 a=none/\a≠e)->a≠z:=λa h y=>by
    subst y;rw[ag]at h;cases h.1
   have t1:B.take (j+1)=B.take j++[g]:=by
    rw[Xp,hg];rfl
   refine dI _ (s3 _ _ ag) ?_ (dH _ (ys++[.ref e]) rfl (λb' o e'=>?_) zb ?_)
   .rw[show ys.length=(B.take j).length from Paired.length bA,XJ];exact XM (show _<=64 by lia) (by decide)
   .rw[zp (zg e' hz)];exact s3 _ _ (s2 _ _ e')
   .rw[t1];exact Paired.snoc (zgT (s3 _ _ ag) (Zs s3 bA)) (eZ e we ks rfl ez (by rw[zp ez];exact cq) (J3 (s3 _ _ ag) (λ_ h=>h) (zac nz cf)) own kl km)
  refine λaa H2=>fH λu0 ys z0 s2 ag a6=>?_;subst z0;rw[hG.length,XD]at a6;have bE:=s1.trans s2;have cd:=hG.mono s2;have bn:=s2 _ _ aY;refine⟨_,rfl,p,l,u,n,rfl,b.mono bE,R,λd w2 H3 hd cp aJ s3=>⟨x9,λe he=>?_⟩⟩;have s4:=zc (o:=.lst []) he;refine dH (.list ((YN u).map zv)) (.list []) (.lst (SqL.of (s4 _ _ cp)) (zC.rdv (N:=λ_=>True) (Cel.rdn (Cel.mono s4 aJ)))) (.lst (SqL.of zb) .nil) (zcR _ []) ⟨_,rfl,?_⟩;have ee:(if true=true then !PyData.eqv (.list ((YN u).map zv)) (.list []) else W1 (.list ((YN u).map zv)) (.list []))=!(YN u).isEmpty:=by
   show (!PyData.eqv _ _)=_;rw[eq_nil]
  rw[ee];have ay:=s3.trans s4;have bF:=bE.trans ay;have b4:=b.mono bF;have an:=ay _ _ bn;have aT:=ay _ _ ag;have bc:=cd.mono ay;have bb:=Zs ay a6;generalize upd H3 e (.lst [])=H4 at *
  rw[zje G hL];refine zap ?_;refine⟨_,rfl,_,rfl,d1,z,rfl,⟨_,SqL.of an⟩,⟨_,SqL.of aT⟩,λt0 b5=>?_⟩;refine zll (K:=K) (l1:=d1) (l2:=z) (xs:=w1) (ys:=ys) (λj aa I=>∃(u0 u1:Option V) (m:AE) (r:List It),aa=[u0,u1]/\zx H4 I/\I t0=some (.lst m)/\(∀v∈m,v≠V.ref t0)/\Xa (ItR I) m r/\zgO L (B.take j) r) (hG.length.trans (Paired.length a6).symm)
   (dY _ _ [] [] rfl (zc b5) zb (λ_ h=>nomatch h) (.nil) ⟨rfl,rfl,λ_ h=>nomatch h⟩) (λj aa I _ ⟨_,_,_,_,_,y,_⟩=>⟨SqL.of (y _ _ an),SqL.of (y _ _ aT)⟩) ?_ ?_
  .refine λj v v' tt aa H5 hv ct au=>gC λu0 u1 m r z0 s5 a8 nt am M=>?_;subst z0;refine gy (λg hg ga ug z0 ar aj=>?_) (yF.get (bc.mono s5) hv);subst z0;refine fJ (λg' ak=>gn λfa wf ks z0 fz aR aI own kl km=>?_) (QJ (Zs s5 bb) ct);subst z0;rw[hg]at ak;cases ak;have gm:=X8 hg;have il:=(X5.mp hg).1;have z6:=zc (o:=.tup [V.ref ga,V.ref fa]) au;refine dW tt _ rfl (SqT.of zb) rfl _ _ rfl _ _ rfl rfl ?_;have b6:=z6 _ _ a8;have bx:=z6 _ _ ar;have bt:=z6 _ _ aR;have bi:=jb z6 aI;have c8:=s5.trans z6;have ce:=ZZ z6 am;generalize upd H5 tt (.tup [V.ref ga,V.ref fa])=H6 at *
   refine YC ?_;have cX:m.length=j:=by
    rw[Paired.length am,<- ZB (f:=λt:It=>t.2.1),M.g,ZB,XJ];lia
   refine⟨_,rfl,_,rfl,ga,_,rfl,.inl (SqL.of bx),fa,wf,ks,_,ug.length,rfl,bt,bi,λk hk=>?_,?_,km,λe7 xs H7 bp cL cn cr s7=>?_⟩
   .rw[aj.length];exact kl k hk
   .rw[aj.length];have:=sm B G g gm;lia
   .rw[aj.length]at cn;have et:e7≠t0:=λy=>by
     subst y;rw[b6]at bp;cases bp
    have aS:=cr _ own;unfold toL at aS;rw[ZB]at aS;refine dI _ (s7 _ _ b6) (XM (show m.length<=64 by lia) (by decide)) (dY _ _ (m++[.ref e7]) _ rfl (λb' o e'=>?_) zb (λv hv=>?_) (Paired.snoc (zcV nt (ZZ s7 ce)) ⟨e7,rfl,by rw[zp et];exact cL⟩) (M.snoc hg cn aS))
    .rw[zp (zg e' b5)];exact s7 _ _ (c8 _ _ e')
    .rcases XN.mp hv with hv | hv
     .exact nt v hv
     .rw[Xb.mp hv];exact λq=>et (V.ref.inj q)
  refine λaa H5=>gC λu0 u1 m r z0 s5 a8 _ am M=>?_;subst z0;rw[hG.length,XD]at M;have tl:r.length=B.length:=by
   have:=congrArg List.length M.g;rwa [ZB,ZB]at this
  have eg:YD r=B.flatten.length:=by
   unfold YD;rw[M.g,zjf]
  have en:=zbG G hL;have ek:sumK r=(B.map λg=>(g.filter L).length).sum:=by
   unfold sumK;rw[M.k]
  rw[<- ek]at en;have da:=W7 L (xx u);have aU:=bF.trans s5;refine⟨_,rfl,p,l,u,n,rfl,b.mono aU,R,λd5 w5 H6 de bT bj s6=>?_⟩;have wl:=bj.length;have cZ:(xx u).length<=64:=X6 (W7 _ _) cb;refine⟨_,rfl,t0,m,r,rfl,s6 _ _ a8,ZZ s6 am,M.ok,by lia,by lia,λd7 zs H7 df cM cz kz s7=>?_⟩;have b7:=((b.mono aU).mono s6).mono s7;refine⟨_,rfl,d5,_,rfl,.inl (SqL.of (s7 _ _ bT)),_,_,rfl,rfl,_,rfl,p,_,1,_,rfl,rfl,SqT.of b7.tp,rfl,_,_,rfl,rfl,d7,zs,_,_,_,_,rfl,cM,cz,by lia,by lia,by lia,λval H8 cA cC cB s8=>?_⟩;have aX:=s7.trans s8;have aA:=s6.trans aX;have c5:=aU.trans aA;have ao:=aX _ _ bT;have bm:=bj.mono aX;have aZ:∀c∈xx u,L c=true->val≠0:=λc hc lc=>by
   have pos:=Ug (XO.mpr ⟨hc,lc⟩);exact cB _ kz (by lia) (by lia)
  have bK:val<=2^2000:=Wx cC (zh8 (by lia));refine⟨_,rfl,d5,rfl,⟨_,SqL.of ao⟩,λy hy=>?_⟩;refine qa (K:=K) (a:=d5) (xs:=w5) (λi σ I=>(∃u0,σ=[u0,some (.int val)])/\zx H8 I/\∃ys,I y=some (.lst ys)/\jy I ys (((xx u).take i).map λc=>(qC c,V.int val))) (eH ⟨_,rfl⟩ (zc hy) [] zb (.nil)) (λi σ I _ ⟨_,s6,_⟩=>SqL.of (s6 _ _ ao)) ?_ ?_
  .rintro i x σ cV hx ⟨⟨u0,rfl⟩,bJ,a5,bB,b2⟩;refine fU (λc ck ca z0 a7=>?_) (Cel.get (Cel.mono bJ bm) hx);subst z0;refine yw ⟨_,rfl,_,rfl,yp,λp hp=>?_⟩;have az:=zc (o:=.tup [.ref ca,.int val]) hp;have b0:a5.length<=64:=by
    rw[b2.length,ZB,XJ];lia
   refine dU a5 (az _ _ bB) (XM b0 (by decide)) ⟨_,rfl⟩ (λb' o e'=>?_) (dJ (a5++[.ref p]) zb ?_)
   .rw[zp (zg e' hy)];exact az _ _ (bJ _ _ e')
   .rw[Xp,ck,XA];exact jy.into y _ (az _ _ bB) (jy.snoc (b2.mono az) (dM p ca rfl zb (az _ _ a7)))
  refine λσ H9=>fW λ_ s9 a5 cu b3=>?_;rw[bm.length,XD]at b3;refine dN y a5 _ rfl cu b3 (λdd aM=>?_);have bM:=zc (o:=.dT (Zi ((xx u).map λc=>(qC c,V.int val)))) aM;have aN:upd H9 dd (.dT (Zi ((xx u).map λc=>(qC c,V.int val)))) dd=some (.dT (Zi ((xx u).map λc=>(qC c,V.int val)))):=zb;have cy:(Zi ((xx u).map λc=>(qC c,V.int val))).length<=64:=by
   have:=zms ((xx u).map λc=>(qC c,V.int val));rw[ZB]at this;lia
  have c0:∀c∈xx u,OkV L (Zi ((xx u).map λc=>(qC c,V.int val))) c:=λc hc=>by
   have:=zd8 (v:=V.int val) (k:=qC c) ((xx u).map qC) [] (.inl (XG.mpr ⟨c,hc,rfl⟩));rw[Wo]at this;exact⟨val,this,cA,bK,aZ c hc⟩
  generalize Zi ((xx u).map λc=>(qC c,V.int val))=kvs0 at *
  generalize upd H9 dd (.dT kvs0)=H10 at *
  have a9:=s5.trans (aA.trans s9);have aV:=c5.trans s9;have bW:H dd=none:=aV.free aM;have aD:=a9 _ _ an;have cv:=a9 _ _ aT;have aH:=bc.mono a9;have cc:=Zs a9 bb;have b8:=(aA.trans s9) _ _ a8;have be:=ZZ (aA.trans s9) am;have bo:=s9 _ _ ao;have b9:=b.mono aV;refine⟨_,rfl,d1,rfl,⟨_,SqL.of (bM _ _ aD)⟩,?_⟩;refine yH (K:=K) (l:=d1) (xs:=w1) (λi σ I=>∃(J:List (List Key×V)) (v7 v8 v9 a3 a4:Option V),σ=[some (.ref p),some (.ref d1),some (.ref z),some (.ref t0),some (.ref d5),some (.int val),some (.ref dd),v7,v8,v9,a3,a4]/\zx H9 I/\I dd=some (.dT J)/\J.length<=64+(B.take i).flatten.length/\(∀c,c∈xx u\/c∈(B.take i).flatten->OkV L J c))
   (fj kvs0 _ _ _ _ _ rfl bM aN (by simpa using cy) (λc hc=>hc.elim (c0 c) (λh=>by simp at h))) (λi σ I _ ⟨_,_,_,_,_,_,_,y,_⟩=>SqL.of (y _ _ aD)) ?_ ?_
  .refine λi v tt σ aG hv au=>fM λJ v7 v8 v9=>fS λa3 a4 z0 av O kl kv=>?_;subst z0;refine gy (λg hg ga ug z0 ar aj=>?_) (yF.get (aH.mono av) hv);subst z0;have gm:=X8 hg;have il:=(X5.mp hg).1;have db:=sm B G g gm;have tk:(B.take (i+1)).flatten=(B.take i).flatten++g:=by
    rw[Xp,hg,U7];congr 1;simp
   obtain⟨t,ht⟩:∃t,r[i]?=some t:=⟨_,X0 (by lia)⟩;have tk2:t.2.2=(g.filter L).length:=by
    have z1:=congrArg (λl:List Nat=>l[i]?) M.k;simp only[Xv,ht,hg,UP,Option.some.injEq]at z1;exact z1
   have aB:∀f:It->Nat,((r.take i++r.drop (i+1)).map f).sum+f t=(r.map f).sum:=λf=>by
    have e1:r=r.take i++t::r.drop (i+1):=by
     have e:=(W9 i r).symm;rw[WJ (by lia)]at e;have e2:r[i]'(by lia)=t:=by
      rw[X0 (by lia)]at ht;exact Option.some.inj ht
     rwa [e2]at e
    conv=>rhs;rw[e1]
    rw[XA,XA,Tl,Tl,Xw,Ts];lia
   have cG:YD (r.take i++r.drop (i+1))+t.2.1=YD r:=aB λt=>t.2.1;have cK:sumK (r.take i++r.drop (i+1))+t.2.2=sumK r:=aB λt=>t.2.2;have ol:(r.take i++r.drop (i+1)).length<=63:=by
    rw[XX,XJ,VF];lia
   have dj:tt≠dd:=λy=>by
    subst y;rw[O]at au;cases au
   have bN:=zc (o:=.tup [.int (i:Nat),V.ref ga]) au;refine dW tt _ rfl (SqT.of zb) rfl _ _ rfl _ _ rfl rfl ?_;have aW:=av.trans bN;have aO:=bN _ _ O;generalize upd aG tt (.tup [.int (i:Nat),V.ref ga])=H12 at *
   have cl:=Paired.length be;refine⟨_,rfl,_,rfl,_,rfl,t0,m,rfl,SqL.of (aW _ _ b8),λc1 ci=>?_⟩;have bO:=zc (o:=.lst (zdo m none (some ((i:Nat):Int)))) ci;refine⟨_,rfl,_,rfl,_,_,rfl,rfl,_,rfl,t0,m,rfl,SqL.of (bO _ _ (aW _ _ b8)),λc2 cj=>?_⟩;have bP:=zc (o:=.lst (zdo m (some (((i:Nat):Int)+1)) none)) cj;rw[zqj m (show i<=m.length by lia),zgK m i (by lia)]at *
   refine dY c1 c2 _ _ rfl rfl (bP _ _ zb) zb ?_ (λc3 aJ=>?_)
   .rw[XJ,VF];exact X6 (show _<=128 by lia) (by decide)
   have cF:=zc (o:=.lst (m.take i++m.drop (i+1))) aJ;have aw:=bO.trans (bP.trans cF);have bG:=aW.trans aw;have aq:=aw _ _ aO;have aC:=ZZ bG be;have aK:upd (upd (upd H12 c1 (.lst (m.take i))) c2 (.lst (m.drop (i+1)))) c3 (.lst (m.take i++m.drop (i+1))) c3=some (.lst (m.take i++m.drop (i+1))):=zb;generalize upd (upd (upd H12 c1 (.lst (m.take i))) c2 (.lst (m.drop (i+1)))) c3 (.lst (m.take i++m.drop (i+1)))=H15 at *
   refine eZ c3 _ (r.take i++r.drop (i+1)) rfl aK (zeW (zjg i aC) (zjh (i+1) aC)) (λt ht=>M.ok t ((XN.mp ht).elim VW Se)) (by lia) (by lia) (λoa zo cQ b1 cH co ko bH=>?_);have aE:=bG.trans bH;have aP:=bH _ _ aq;have bD:oa≠dd:=λy=>by
    subst y;rw[aq]at b1;cases b1
   have ah:H9 ga=some (.lst ug):=by
    refine gy (λg' ak bY c9 e' al _=>?_) (yF.get aH hv);cases e';have:=av _ _ al;rw[ar]at this;cases this;exact al
   have ab:Cel H9 ug g:=by
    obtain⟨g',ak,bY,c9,e',al,bZ⟩:=yF.get aH hv;cases e';rw[hg]at ak;cases ak;rw[ah]at al;cases al;exact bZ
   have zl:i<ys.length:=by
    rw[show ys.length=B.length from Paired.length a6];exact il
   refine fJ (λg2 bv=>gn λfa wf ks bX fz aR aI own cw cx=>?_) (QJ cc (X0 zl));rw[hg]at bv;cases bv;refine⟨_,rfl,ga,rfl,⟨_,SqL.of (aE _ _ ah)⟩,?_⟩;refine jU (K:=K) (a:=ga) (xs:=ug) (λj σ I=>∃(J:List (List Key×V)) (a3 a4:Option V),σ=[some (.ref p),some (.ref d1),some (.ref z),some (.ref t0),some (.ref d5),some (.int val),some (.ref dd),some (.int (i:Nat)),some (.ref ga),some (.ref oa),a3,a4]/\zx H9 I/\I oa=some (.lst (iL zo))/\I dd=some (.dT J)/\J.length<=64+(B.take i).flatten.length+j/\(∀c,c∈xx u\/c∈(B.take i).flatten\/c∈g.take j->OkV L J c))
    (dQ J _ _ rfl aE cH aP (by lia) (λc hc=>kv c (hc.elim .inl λh=>h.elim .inr λh=>by simp at h))) (λj σ I _ ⟨_,_,_,_,y,_⟩=>SqL.of (y _ _ ah)) ?_ ?_
   .refine λj x σ bV hx=>fT λac cD cE z0 U af ae bC ai=>?_;subst z0;refine fU (λc hc ca z0 a7=>?_) (Cel.get (ab.mono U) hx);subst z0;have cm:=X8 hc;have jl:=(X5.mp hc).1;refine⟨_,rfl,_,rfl,_,rfl,z,_,_,_,rfl,rfl,SqL.of (U _ _ cv),Y0 (by lia) (by rw[Rr];exact X0 zl),_,rfl,ga,_,rfl,.inl (SqL.of (U _ _ ah)),_,rfl,?_⟩;rw[bX];refine fC fa ca wf ks _ ug.length c rfl (U _ _ aR) (jb U aI) (λk hk=>?_) (eU ?_ cx a7 (λea xa cS dg cI bU cN bI=>?_))
    .rw[ab.length];exact cw k hk
    .rw[ab.length];lia
    rw[ab.length]at bU;refine dO oa ea zo xa (dS _ _ _ _ rfl (SqL.of (bI _ _ af)) (SqL.of cI) co (dZ bU (by lia) (by lia) (by lia) (by lia) (λna zn cT dh cJ cn kn c6=>?_)));have ax:=bI.trans c6;have aF:=U.trans ax;have di:(B.take i).flatten.length<=64:=by
     have e:B.flatten=(B.take i).flatten++(B.drop i).flatten:=by rw[<- U7,W9]
     rw[e,XX]at ba;lia
    refine⟨_,rfl,_,rfl,d5,_,rfl,.inl (SqL.of (aF _ _ bo)),_,rfl,p,_,1,_,rfl,rfl,SqT.of (b9.mono aF).tp,rfl,na,zn,_,_,_,_,rfl,cJ,cn,by lia,by lia,by lia,λv cU v0 vm vk c7=>?_⟩;have vl:L c=true->v≠0:=λlc=>by
     have hk:=cN _ own (by rw[zoa,br (XO.mpr ⟨cm,lc⟩)]);unfold toL at hk;rw[ZB]at hk;exact vk _ (kn _ _ ko hk) (by lia) (by lia)
    have Y:=ax.trans c7;have aQ:=Y _ _ ae;refine⟨_,rfl,_,rfl,dd,_,rfl,zjW.t (k:=qC c) aQ (Y _ _ a7) (XM (show ac.length<=200 by lia) (by decide)),?_⟩;refine dQ (putK ac (qC c) (V.int v)) _ _ rfl (λb' o e'=>?_) ?_ zb ?_ (λc' cg=>?_)
    .rw[zp (zg e' aM)];exact Y _ _ (U _ _ e')
    .rw[zp bD];exact Y _ _ af
    .have:=zji ac (qC c) (V.int v);lia
    .by_cases ec:c'=c
     .subst ec;exact⟨v,by rw[yZ,bw rfl],v0,Wx vm (zh8 (by lia)),vl⟩
     .obtain⟨v',a1,a2⟩:=ai c' (cg.elim .inl λh=>h.elim (λh=>.inr (.inl h)) λh=>by
       rw[Xp,hc]at h;rcases XN.mp h with h | h
       .exact .inr (.inr h)
       .exact absurd (Xb.mp h) ec)
      exact⟨v',by rw[yZ,bq λz=>ec (Qm z)];exact a1,a2⟩
   refine λσ bV=>fT λac cD cE z0 U af ae bC ai=>?_;subst z0;have ul:ug.length=g.length:=ab.length;refine fj ac _ _ _ _ _ rfl U ae ?_ (λc hc=>?_)
   .rw[tk,XX];lia
   .rw[tk]at hc;rw[ul,XD]at ai;exact ai c (hc.elim .inl λh=>(XN.mp h).elim (λh=>.inr (.inl h)) λh=>.inr (.inr h))
  refine λσ aG=>fM λJ v7 v8 v9=>fS λa3 a4 z0 av O kl kv=>?_;subst z0;rw[hG.length,XD]at kv;refine⟨_,rfl,q dd J aG bW O (λc hc=>kv c ?_) (aV.trans av)⟩;by_cases hm:c∈B.flatten
  .exact .inr hm
  .exact .inl ((zfp G).mpr ⟨hc,hm⟩)
def zjj (a b:Int):VJ b (a%b)=VJ a b:=by
 have h:=Int.emod_add_mul_ediv a b;apply Nat.dvd_antisymm
 .apply Int.dvd_gcd
  .have h1:((VJ b (a%b):Nat):Int) ∣ b:=Sv ..;have h2:((VJ b (a%b):Nat):Int) ∣ a%b:=SW ..;have c:=Int.dvd_add h2 (Int.dvd_trans h1 (Int.dvd_mul_right b (a/b)));rw[h]at c;exact c
  .exact Sv ..
 .apply Int.dvd_gcd
  .exact SW ..
  .have h1:((VJ a b:Nat):Int) ∣ b:=SW ..;have h2:((VJ a b:Nat):Int) ∣ a:=Sv ..;have e:a%b=a-b*(a/b):=by lia
   rw[e];exact Int.dvd_sub h2 (Int.dvd_trans h1 (Int.dvd_mul_right ..))
def zoc (a:Int)(h:0<=a):((VJ a 0:Nat):Int)=a:=by
 rw[Int.gcd_zero_right];lia
def zjk {a b:Int}(h:0<b):0<((VJ a b:Nat):Int):=by
 have:0<VJ a b:=Int.gcd_pos_of_ne_zero_right a (by lia);lia
def zqk {a b:Int}(h:0<b):((VJ a b:Nat):Int)<=b:=Int.le_of_dvd h (SW ..)
def zsz:Sp:=λa H Q _=>∃(n b:Int),a=[.int n,.int b]/\0<b/\Q (.int (VJ n b:Nat)) H
def zsA:Sp:=λa H Q _=>∃(n b:Int),a=[.int n,.int b]/\0<b/\b.natAbs<2^8000/\∀p,H p=none->Q (.ref p) (upd H p (.tup [.int (n/(VJ n b:Nat)),.int (b/(VJ n b:Nat))]))
def qE:zz ["number","bottom","divisor","rest","next_rest"] ["number","bottom"] (zq ja):=bh
def QH (D:zh K mg "greatest_divisor" ja ["number","bottom"] f fd):qg P w K mg base CX0 1 f fd ["number","bottom"] zsz:=by
 refine D.F.ok qE (λy H Q E h=>?_) (λo A g s H y Q E I h=>?_)
 .obtain⟨n,b,rfl,_⟩:=h;rfl
 .revert h;refine fK λn b z0 i k=>?_;subst z0;refine⟨_,(ze (qz 2 qE.nd (pvS 1)) (ze (qz 3 qE.nd (zG yx (pvS 0) (pvS 1))) (ze (zfS Xf (zO zdS (pvS 3) zj (qb _)) (ze (qz 4 qE.nd (zG yx (pvS 2) (pvS 3))) (ze (qz 2 qE.nd (pvS 3)) (zf (qz 3 qE.nd (pvS 4)))))) (zf (zF (pvS 2)))))),?_⟩;(try dsimp only[cxK,cxP,cxW]);refine⟨_,rfl,_,rfl,_,rfl,_,_,rfl,rfl,i,?_⟩;refine⟨λm l a=>∃(d r:Int) (x:Option V),l=[some (.int n),some (.int b),some (.int d),some (.int r),x]/\a=H/\0<d/\0<=r/\VJ d r=VJ n b/\m=r.toNat,(dY _ b (n%b) none rfl rfl i (V2 n (by lia)) (zjj n b) rfl),?_⟩;refine λm l a=>fT λd r x z0 z1 G u j z2=>?_;subst z0 z1 z2;refine⟨_,rfl,rfl,_,rfl,?_⟩;by_cases c:r=0
  .subst c;refine zoM rfl ?_;refine⟨_,rfl,?_⟩;have e:((VJ n b:Nat):Int)=d:=by rw[<- j];exact zoc d (by lia)
   rw[<- e];exact k
  .have e:(!decide (V.int r=V.int 0))=true:=by
    have z:¬ V.int r=V.int 0:=λz=>c (V.int.inj z);rw[bf z];rfl
   refine yD e ?_;refine⟨fun B a=>∃v,v<r.toNat/\_,λ_ _ h=>h,?_⟩;refine⟨_,rfl,_,rfl,_,_,rfl,rfl,(show (0:Int)<r by lia),_,rfl,_,rfl,?_⟩;have p:=V5 d (show (0:Int)<r by lia);have q:=V2 d (show r≠0 from c);refine dJ (d%r).toNat (by lia) (dQ r (d%r) (some (.int (d%r))) rfl rfl (by lia) q ?_ rfl);rw[zjj d r];exact j
def zbH:zz ["top","bottom","divisor"] ["top","bottom"] (zq Yv):=bh
def zgU {m:Addr}{c:XH}(D:zh K mg "fraction" Yv ["top","bottom"] f fd)(j:zh K mg "greatest_divisor" ja ["number","bottom"] m c):qg P w K mg base CX0 2 f fd ["top","bottom"] zsA:=by
 refine D.F.ok zbH (λp H Q E h=>?_) (λl A e s H p Q E o h=>?_)
 .revert h;refine fL λn b z0 _=>?_;subst z0;rfl
 .revert h;refine fH λn b z0 d q k=>?_;subst z0;refine⟨_,(ze (qz 2 zbH.nd (pc0 (QH j) o j (za (pvS 0) (za (pvS 1) zd)))) (zf (zF (qj (za (zG yJ (pvS 0) (pvS 2)) (za (zG yJ (pvS 1) (pvS 2)) zd)))))),?_⟩;(try dsimp only[cxK,cxP,cxW]);have g:=zjk (a:=n) d;have g1:=zqk (a:=n) d;have i:((VJ n b:Nat):Int).natAbs<2^8000:=by
   lia
  refine⟨_,rfl,_,rfl,n,b,rfl,d,?_⟩;refine⟨_,rfl,_,rfl,_,_,rfl,rfl,JP.big g i,_,rfl,_,rfl,_,_,rfl,rfl,JP.big g i,yp,?_⟩;exact k
def zmu {φ:List Key->V->Prop}{c a:List (List Key×V)}(h:∀b∈c,φ b.1 b.2)(h0:∀k v,qK a k=some v->φ k v):∀k v,qK (c.foldl (λa b=>putK a b.1 b.2) a) k=some v->φ k v:=by
 induction c generalizing a with
 | nil=>exact h0
 | cons b r f =>
  refine f (λx d=>h x (XU _ d)) λk v e=>?_;rw[yZ]at e;split at e
  .rename_i ek;cases e;rw[ek];exact h b XT
  .exact h0 k v e
def zmv {k:List Key}{b a:List (List Key×V)}(h:(∃c∈b,c.1=k)\/(qK a k).isSome=true):(qK (b.foldl (λa c=>putK a c.1 c.2) a) k).isSome=true:=by
 induction b generalizing a with
 | nil =>
  rcases h with ⟨_,h,_⟩ | h
  .cases h
  .exact h
 | cons c r f =>
  refine f ?_;rcases h with ⟨x,hx,e⟩ | h
  .rcases XI.mp hx with d | hx
   .subst d;refine .inr ?_;rw[yZ,bw e.symm];rfl
   .exact .inl ⟨x,hx,e⟩
  .refine .inr ?_;rw[yZ];split
   .rfl
   .exact h
def frT (n b:Int):HO:=.tup [.int (n/(VJ n b:Nat)),.int (b/(VJ n b:Nat))]
def ShV (L:AA->Bool)(H:Hp)(e:Int)(c:AA)(v:V):Prop:=∃t a,v=.ref t/\H t=some (frT a e)/\0<=a/\(L c=true->a≠0)
def zkE (L:AA->Bool)(H:Hp)(e:Int)(k:List Key)(v:V):Prop:=∀c,k=qC c->ShV L H e c v
def zkE.mono {H b:Hp}(s:∀t vs,H t=some (.tup vs)->b t=some (.tup vs)){L:AA->Bool}{e:Int}{k:List Key}{v:V}(h:zkE L H e k v):zkE L b e k v:=λc i=>by
 refine fK (λt a d f g=>?_) (h c i);exact⟨t,a,d,s _ _ f,g⟩
def zql:Sp:=λc H Q _=>∃(p l:Addr) (a:AD) (n:Int) (L:AA->Bool),c=[.ref p]/\qf H p l a n/\Rows bd.cps.toList a/\Small a/\Lay a n L/\∀(v:Int) (b:Hp),1<=v->v<=2^2000->zx H b->Q (.int v) b
def zmw:Sp:=λg H Q _=>∃(p l:Addr) (b:AD) (n:Int) (L:AA->Bool),g=[.ref p]/\qf H p l b n/\Rows bd.cps.toList b/\Small b/\Lay b n L/\∀(d:Addr) (e:Int) (a:List (List Key×V)) (f:Hp),1<=e->f d=some (.dT a)->(∀c∈zT b,∃v,qK a (qC c)=some v/\ShV L f e c v)->zx H f->Q (.ref d) f
def zqm:Sp:=λh H Q _=>∃(p l:Addr) (b:AD) (n:Int) (L:AA->Bool),h=[.ref p]/\qf H p l b n/\Rows bd.cps.toList b/\Small b/\Lay b n L/\∀(t e g:Addr) (f:AE) (d:AB) (a:Hp),H e=none->a t=some (.tup [.ref e,.ref g])->a e=some (.lst f)->Cel a f d->d.Sublist (zT b)->(∀c∈d,L c=false)->zx H a->Q (.ref t) a
def zod {a b:Int}(d:0<b)(h:a/(VJ a b:Nat)=0):a=0:=by
 obtain⟨x,c⟩:((VJ a b:Nat):Int) ∣ a:=Sv ..;have e:=zjk (a:=a) d;generalize ((VJ a b:Nat):Int)=g at *
 rw[c,Int.mul_ediv_cancel_left _ (by lia)]at h;rw[c,h,Int.mul_zero]
def zmx {H:Hp}{z:Addr}{ys:AE}{cs:AB}{a:Addr}{c:AA}(hz:H z=some (.lst ys))(d:Cel H ys cs)(b:H a=some (.tup [.int (c.1:Nat),.int (c.2:Nat)])):Cel (upd H z (.lst (ys++[.ref a]))) (ys++[.ref a]) (cs++[c]) :=
 ji (by
  rw[XA];exact ZX hz (zgG (Cel.tup2 d) (.cons ⟨a,rfl,b⟩ .nil)))
def zqn (a b x y:Int):(if false=true then !PyData.eqv (pD (a,b)) (pD (x,y)) else W1 (pD (a,b)) (pD (x,y)))=decide (a=x/\b=y):=by
 rw[bq XS,zl4];exact decide_eq_decide.mpr (by rw[Ri])
def zmy (p q:Int×Int):zhz (pD p) (pD q):=⟨rfl,rfl,by show 1<=64;decide⟩
def QU:zz ["board","every"] ["board"] (zq Jz):=bh
def zdJ (T:Txt mg)(Z:Prog K mg)(D:zh K mg "some_count" Jz ["board"] f fd):qg P w K mg base CX0 8 f fd ["board"] zql:=by
 obtain⟨x,u,a⟩:=Z.count;have c:=zgR (P:=P) (w:=w) (base:=base) T Z a;refine D.F.ok QU (λr H Q E h=>?_) (λg A b s H r Q E j h=>?_)
 .revert h;refine gg λp l d n L z0 _=>?_;subst z0;rfl
 .revert h;refine gp λp l d n L z0 B R k i q=>?_;subst z0;refine⟨_,(ze (qz 1 QU.nd (pc0 c j a (za (pvS 0) zd))) (ze (qR (zO YW (pvS 1) zj (qb _)) (zf yq) qd) (zf (zF (pvS 1))))),?_⟩;(try dsimp only[cxK,cxP,cxW]);exact⟨_,rfl,p,l,d,n,L,rfl,B,R,k,i,λv e m o s1=>⟨_,rfl,rfl,_,rfl,jE (bf λh=>by have:=V.int.inj h;lia) ⟨_,rfl,q v e m o s1⟩⟩⟩
def zbp:zz ["board","every","at_cells"] ["board"] (zq zaJ):=bh
def zkF (T:Txt mg)(Z:Prog K mg)(D:zh K mg "shares" zaJ ["board"] f fd):qg P w K mg base CX0 9 f fd ["board"] zmw:=by
 obtain⟨aE,aC,ag⟩:=Z.some_count;obtain⟨aB,aA,Z3⟩:=Z.counts_by_cell;obtain⟨a7,QC,qv⟩:=Z.closed;obtain⟨j4,jA,zw⟩:=Z.cells_of;obtain⟨yM,j3,zu⟩:=Z.sign_at;obtain⟨aF,aD,ah⟩:=Z.fraction;obtain⟨a9,a8,jH⟩:=Z.greatest_divisor;refine D.F.ok zbp (λM H Q E h=>?_) (λa3 A az s H M Q E N h=>?_)
 .revert h;refine gg λp l Y n L z0 _=>?_;subst z0;rfl
 .revert h;refine gp λp l Y n L z0 B R sm hL q=>?_;subst z0;refine⟨_,(ze (qz 1 zbp.nd (pc0 (zdJ T Z ag) N ag (za (pvS 0) zd))) (ze (qz 2 zbp.nd (pc0 (zaV T Z Z3) N Z3 (za (pvS 0) zd))) (zf (zF (pt1 (jM N.units N.hd) T.zcN U2 (pcm ["cell","every","at_cells"] [none,some 1,some 2] cR (zJ (pc0 (JJ T qv zw zu) N qv (za (pvS 0) zd))) (pgN 0) qh (qj (za (pvS 0) (za (pc0 (zgU ah jH) N ah (za (zeZ (u1 N.units) (pvS 2) (pvS 0) (λ_ _=>rfl)) (za (pvS 1) zd))) zd))))))))),?_⟩;(try dsimp only[cxK,cxP,cxW]);refine⟨_,rfl,p,l,Y,n,L,rfl,B,R,sm,hL,λI H1 ai ak s1=>?_⟩;refine⟨_,rfl,p,l,Y,n,L,rfl,B.mono s1,R,sm,hL,λda a6 H2 a5 a2 ay s2=>?_⟩;have af:=s1.trans s2;have aj:I.natAbs<2^8000:=zfn (by lia) ak (by decide);refine⟨_,rfl,p,l,Y,n,rfl,B.mono af,R,λd5 w5 H5 a4 J ao s5=>(dI d5 rfl ⟨_,SqL.of J⟩ (λy hy=>?_))⟩;have ac:Cel H5 w5 (zT Y):=ao;have sl:(zT Y).length<=64:=qW (p:=J0) R;refine qa (K:=K) (a:=d5) (xs:=w5) (λi σ H'=>(∃u0,σ=[u0,some (.int I),some (.ref da)])/\zx H5 H'/\∃u b,H' y=some (.lst u)/\jy H' u b/\b.map (·.1)=((zT Y).take i).map qC/\∀kv∈b,zkE L H' I kv.1 kv.2) (eE ⟨_,rfl⟩ (zc hy) (dH [] [] zb (.nil) rfl (λ_ h=>nomatch h))) (λi σ H' _ ⟨_,s6,_⟩=>SqL.of (s6 _ _ J)) ?_ ?_
  .rintro i x σ H6 hx ⟨⟨u0,rfl⟩,s6,u,b,U,G,m,O⟩;refine fU (λc ab ca z0 aa=>?_) (Cel.get (Cel.mono s6 ac) hx);subst z0;have g:=Q5.t (k:=qC c) ((s5.trans s6) _ _ a2) aa;refine gr (λav an a0 am al=>?_) (ay c (X8 ab));rw[an]at g;have kl:b.length<=64:=by
    have:=congrArg List.length m;rw[ZB,ZB,XJ]at this;lia
   refine yw ⟨_,rfl,_,rfl,_,rfl,da,_,rfl,g,_,rfl,_,_,rfl,by lia,aj,λft au=>⟨yp,λp1 ax=>?_⟩⟩;have s7:=zc (o:=frT av I) au;have ar:upd H6 ft (frT av I) ft=some (frT av I):=zb;have s8:=zc (o:=.tup [.ref ca,.ref ft]) ax;have r:=s7.trans s8;have ae:u.length<=64:=by
    rw[G.length];exact kl
   have j:=r _ _ U;have up:∀{H8:Hp},H8 y=some (.lst u)->∀t M,H8 t=some (.tup M)->upd H8 y (.lst (u++[.ref p1])) t=some (.tup M):=λj t M e=>by
    rw[zp (zab e j (by intro z;cases z))];exact e
   refine dU u j (XM ae (by decide)) ⟨_,rfl⟩ (λb' o e'=>?_) (dH (u++[.ref p1]) (b++[(qC c,.ref ft)]) zb ?_ ?_ (λkv aw=>?_))
   .rw[zp (zg e' hy)];exact r _ _ (s6 _ _ e')
   .exact jy.into y _ j (jy.snoc (G.mono r) (dM p1 ca rfl zb (r _ _ aa)))
   .rw[XA,m,Xp,ab,XA];rfl
   .rcases XN.mp aw with h | h
    .exact(O kv h).mono λt M e=>up j t M (r _ _ e)
    .rw[Xb.mp h];intro d ed;rw[<- Qm ed];exact dH ft av rfl (up j _ _ (s8 _ _ ar)) a0 al
  .refine λσ H6=>fO λ_ s6=>fH λu b U G m O=>?_;rw[ac.length,XD]at m;refine dN y u _ rfl U G (λdd aq=>?_);have a1:=af.trans (s5.trans s6);have s7:=zc (o:=.dT (Zi b)) aq;refine q dd I _ _ ai zb (λc hc=>?_) (a1.trans s7);have h1:(qK (Zi b) (qC c)).isSome=true:=zmv (.inl (by
    have:qC c∈b.map (·.1):=by
     rw[m];exact XG.mpr ⟨c,hc,rfl⟩
    obtain⟨kv,h2,h3⟩:=XG.mp this;exact⟨kv,h2,h3⟩))
   obtain⟨v,hv⟩:=V1.mp h1;exact⟨v,hv,zkE.mono (λt M e=>s7 _ _ e) (zmu (φ:=zkE L H6 I) O (λ_ _ h=>by cases h) _ _ hv) c rfl⟩
def zci:zz ["board","told","clears","stones"] ["board"] (zq zfg):=bh
def zog (T:Txt mg)(Z:Prog K mg)(D:zh K mg "sure" zfg ["board"] f fd):qg P w K mg base CX0 10 f fd ["board"] zqm:=by
 obtain⟨a8,a7,aq⟩:=Z.shares;obtain⟨a6,QC,qv⟩:=Z.closed;obtain⟨j4,jA,zw⟩:=Z.cells_of;obtain⟨yM,j3,zu⟩:=Z.sign_at;refine D.F.ok zci (λvs H Q E h=>?_) (λa1 A ax s H vs Q E Y h=>?_)
 .revert h;refine gg λp l U n L z0 _=>?_;subst z0;rfl
 .revert h;refine gp λp l U n L z0 B R sm hL q=>?_;subst z0;have sl:(zT U).length<=64:=qW (p:=J0) R;refine⟨_,(ze (qz 1 zci.nd (pc0 (zkF T Z aq) Y aq (za (pvS 0) zd))) (ze (psC 2 zci.nd ["cell","told"] [none,some 1] cR (zJ (pc0 (JJ T qv zw zu) Y qv (za (pvS 0) zd))) (pgN 0) (qu (zO (Y4 (K:=K) (by rfl) Y.units) (zeZ (u1 Y.units) (pvS 1) (pvS 0) (λ_ _=>rfl)) (@qj _ _ _ _ _ (@za _ _ _ _ _ zj (@za _ _ _ _ _ zj zd rfl) rfl)) (qb _))) (pvS 0)) (ze (psC 3 zci.nd ["cell","told"] [none,some 1] cR (zJ (pc0 (JJ T qv zw zu) Y qv (za (pvS 0) zd))) (pgN 0) (qu (zO (Y4 (K:=K) (by rfl) Y.units) (zeZ (u1 Y.units) (pvS 1) (pvS 0) (λ_ _=>rfl)) (@qj _ _ _ _ _ (@za _ _ _ _ _ zj (@za _ _ _ _ _ zj zd rfl) rfl)) (qb _))) (pvS 0)) (zf (zF (qj (za (pvS 2) (za (pvS 3) zd)))))))),?_⟩;(try dsimp only[cxK,cxP,cxW]);refine⟨_,rfl,p,l,U,n,L,rfl,B,R,sm,hL,λdd ev a5 H1 a2 ar O s1=>?_⟩;refine⟨_,rfl,p,l,U,n,rfl,B.mono s1,R,λd2 w2 H2 a3 M av s2=>(dI d2 rfl ⟨_,SqL.of M⟩ (λy hy=>?_))⟩;have ag:Cel H2 w2 (zT U):=av;refine qa (K:=K) (a:=d2) (xs:=w2) (λi G I=>∃(u0:Option V) (b:AE) (J:AB),G=[u0,some (.ref dd)]/\zx H2 I/\I y=some (.lst b)/\Cel I b J/\J.Sublist ((zT U).take i)/\∀c∈J,L c=false) (dQ _ [] [] rfl (zc hy) zb (.nil) (Sx _) (λ_ h=>nomatch h)) (λi G I _ ⟨_,_,_,_,r,_⟩=>SqL.of (r _ _ M)) ?_ ?_
  .refine λi x G H3 hx=>fT λu0 b J z0 s3 ab e sb nl=>?_;subst z0;refine fU (λc j ca z0 u=>?_) (Cel.get (Cel.mono s3 ag) hx);subst z0;have an:=s2.trans s3;refine fJ (λv hv=>fH λt a z0 ht a0 al=>?_) (O c (X8 j));subst z0;have g:=Q5.t (k:=qC c) (an _ _ ar) u;rw[hv]at g;have yl:b.length<=64:=by
    rw[e.length];have:=sb.length_le;rw[XJ]at this;lia
   refine⟨_,rfl,_,rfl,dd,_,rfl,g,yp,λtq aa=>?_⟩;have m:=zc (o:=.tup [.int 0,.int 1]) aa;have ae:=an.trans m;refine dH (pD _) (pD (0,1)) (PR.rdv (p:=(a/(VJ a ev:Nat),ev/(VJ a ev:Nat))) ⟨t,rfl,ae _ _ ht⟩) (PR.rdv ⟨tq,rfl,zb⟩) (zmy _ _) ⟨_,rfl,?_⟩;rw[zqn,Xp,j];have ac:=m _ _ ab;refine zaq (λhp=>?_) λ_=>(dQ _ b J rfl (s3.trans m) ac (e.mono m) (sb.trans (QQ _ _)) nl);have au:=zod (a:=a) (by lia) (bg hp).1;refine⟨_,rfl,b,ac,XM yl (by decide),_,b++[.ref ca],J++[c],rfl,λb' o e'=>?_,zb,zmx ac (e.mono m) (m _ _ u),List.Sublist.append sb (List.Sublist.refl _),λd hd=>?_⟩
   .rw[zp (zg e' hy)];exact m _ _ (s3 _ _ e')
   .rcases XN.mp hd with hd | hd
    .exact nl d hd
    .rw[Xb.mp hd];exact WX.mpr λz=>al z au
  refine λG H3=>fT λu0 b J z0 s3 ab e sb nl=>?_;subst z0;rw[ag.length,XD]at sb;have am:=s1.trans (s2.trans s3);have yn:H y=none:=(s1.trans s2).free hy;refine⟨_,rfl,p,l,U,n,rfl,B.mono am,R,λd4 w4 H4 a4 N aw m=>(dI d4 rfl ⟨_,SqL.of N⟩ (λz ai=>?_))⟩;have ah:Cel H4 w4 (zT U):=aw;have ae:=(s2.trans s3).trans m;refine qa (K:=K) (a:=d4) (xs:=w4) (λi G I=>∃(u0:Option V) (b:AE),G=[u0,some (.ref dd)]/\zx H4 I/\I z=some (.lst b)/\b.length<=i) (dH _ [] rfl (zc ai) zb (XW _)) (λi G I _ ⟨_,_,_,r,_⟩=>SqL.of (r _ _ N)) ?_ ?_
  .refine λi x G H5 hx=>fH λu0 zs z0 s5 aj zl=>?_;subst z0;refine fU (λc j ca z0 u=>?_) (Cel.get (Cel.mono s5 ah) hx);subst z0;have il:=(X5.mp j).1;have ao:=ae.trans s5;refine fJ (λv hv=>fH λt a z0 ht a0 al=>?_) (O c (X8 j));subst z0;have g:=Q5.t (k:=qC c) (ao _ _ ar) u;rw[hv]at g;refine⟨_,rfl,_,rfl,dd,_,rfl,g,yp,λtq aa=>?_⟩;have r:=zc (o:=.tup [.int 1,.int 1]) aa;have ay:=ao.trans r;have ak:=r _ _ aj;refine dH (pD _) (pD (1,1)) (PR.rdv (p:=(a/(VJ a ev:Nat),ev/(VJ a ev:Nat))) ⟨t,rfl,ay _ _ ht⟩) (PR.rdv ⟨tq,rfl,zb⟩) (zmy _ _) ⟨_,rfl,zaq (λ_=>?_) λ_=>(dH _ zs rfl (s5.trans r) ak (by lia))⟩;refine⟨_,rfl,zs,ak,XM (show zs.length<=64 by lia) (by decide),_,zs++[.ref ca],rfl,λb' o e'=>?_,zb,by rw[XX];exact Sw zl⟩;rw[zp (zg e' ai)];exact r _ _ (s5 _ _ e')
  .refine λG H5=>fH λu0 zs z0 s5 aj _=>?_;subst z0;have az:=m.trans s5;refine⟨_,rfl,_,rfl,yp,λt ht=>?_⟩;have r:=zc (o:=.tup [.ref y,.ref z]) ht;have af:=az.trans r;exact q t y z b J _ yn zb (af _ _ ab) (e.mono af) sb nl (am.trans af)
def zgW {b:KV1}{k:List Key}{v:V}(h:qK b k=some v):(k,v)∈b:=by
 unfold qK at h;cases e:b.find? (λa=>decide (a.1=k)) with
 | none =>
  rw[e]at h;cases h
 | some a =>
  rw[e]at h;have h1:a.2=v:=by simpa using h
  have h2:a.1=k:=bg (show decide (a.1=k)=true from List.find?_some (p:=λ(a:List Key×V)=>decide (a.1=k)) e);have c:=List.mem_of_find?_eq_some e;rw[<- h1,<- h2];exact c
def zc2 (a:KV1)(k:List Key)(v:V):(k∈a.map (·.1)/\(putK a k v).map (·.1)=a.map (·.1))\/(¬ k∈a.map (·.1)/\(putK a k v).map (·.1)=a.map (·.1)++[k]):=by
 unfold putK;by_cases h:(a.any λb=>decide (b.1=k))=true
 .refine .inl ⟨?_,?_⟩
  .obtain⟨b,h1,h2⟩:=WH.mp h;exact XG.mpr ⟨b,h1,bg h2⟩
  .rw[bw h,Wo];refine Wi λb _=>?_;show (if b.1=k then (b.1,v) else b).1=b.1;split<;>rfl
 .refine .inr ⟨λc=>?_,?_⟩
  .obtain⟨b,h1,h2⟩:=XG.mp c;exact h (WH.mpr ⟨b,h1,br h2⟩)
  .rw[bq h,XA];rfl
def zqp {c:KV1}(k:List Key)(v:V)(h:(c.map (·.1)).Nodup):((putK c k v).map (·.1)).Nodup:=by
 rcases zc2 c k v with ⟨_,e⟩ | ⟨i,e⟩
 .rw[e];exact h
 .rw[e,WK];refine⟨h,by simp,λa f b g z=>i ?_⟩;have d:b=k:=by simpa using g
  rw[<- d,<- z];exact f
theorem zjm:∀(ps a:KV1),(a.map (·.1)).Nodup->((ps.foldl (λa b=>putK a b.1 b.2) a).map (·.1)).Nodup
 | [],_,h=>h
 | p::r,a,h=>zjm r _ (zqp p.1 p.2 h)
theorem zet:∀(ps a:KV1) (k:List Key),k∈(ps.foldl (λa b=>putK a b.1 b.2) a).map (·.1)->k∈a.map (·.1)\/k∈ps.map (·.1)
 | [],_,_,h=>.inl h
 | p::r,a,k,h=>by
  rcases zet r _ k h with h | h
  .rcases zc2 a p.1 p.2 with ⟨_,e⟩ | ⟨_,e⟩
   .rw[e]at h;exact .inl h
   .rw[e]at h;rcases XN.mp h with h | h
    .exact .inl h
    .exact .inr (by
      have:k=p.1:=by simpa using h
      rw[this];exact XT)
  .exact .inr (XU _ h)
theorem zgX:∀(ps a:KV1),(ps.foldl (λa b=>putK a b.1 b.2) a).length<=a.length+ps.length
 | [],_=>XW _
 | p::r,a=>by
  have h1:=zgX r (putK a p.1 p.2);have h2:=x6 a p.1 p.2;rw[Wp,Xi];lia
theorem zeu:∀(b a:KV1) (k:List Key),(b.map (·.1)).Nodup->qK (Q6 a b) k=(qK b k).or (qK a k)
 | [],a,k,_=>rfl
 | kv::r,a,k,c=>by
  rw[Xw,Wq]at c;show qK (Q6 (putK a kv.1 kv.2) r) k=_;rw[zeu r _ k c.2,yZ];by_cases e:kv.1=k
  .rw[jK e,bw e.symm];have:qK r k=none:=by
    cases hr:qK r k with
    | none=>rfl
    | some v=>exact absurd (XG.mpr ⟨(k,v),zgW hr,by rw[e]⟩) c.1
   rw[this];rfl
  .rw[jL e,bq (λz=>e z.symm)]
def Zt (cs:AB)(v:V):KV1:=Zi (cs.map λc=>(qC c,v))
theorem zc3 (v:V)(x:AA):∀(cs:AB) (a:KV1),qK ((cs.map λc=>(qC c,v)).foldl (λa b=>putK a b.1 b.2) a) (qC x)=if x∈cs then some v else qK a (qC x)
 | [],a=>by simp
 | c::r,a=>by
  rw[Xw,Wp,zc3 v x r,yZ];by_cases h:x∈r
  .rw[bw h,bw (XU _ h)]
  .rw[bq h];by_cases e:x=c
   .subst e;rw[bw rfl,bw XT]
   .rw[bq (λz=>e (Qm z)),bq (λz=>by rcases XI.mp z with z | z;exact e z;exact h z)]
def zgY {cs:AB}{v:V}(h:∀c∈cs,c.1<8/\c.2<8):L2.Small ((Zt cs v).map (·.1)):=λk hk=>by
 rcases zet _ [] k hk with h1 | h1
 .exact nomatch h1
 .rw[Wo]at h1;obtain⟨c,a,rfl⟩:=XG.mp h1;exact⟨c.1,c.2,(h c a).1,(h c a).2,rfl⟩
def zew (cs:AB)(v:V):(Zt cs v).length<=cs.length:=by
 have:=zgX (cs.map λc=>(qC c,v)) [];rw[ZB]at this;unfold Zt Zi;simpa using this
structure Je (H:Hp)(fa fc fs:Addr)(us ws:AE)(cl st:AB):Prop where
 tp:H fa=some (.tup [.ref fc,.ref fs])
 h1:H fc=some (.lst us)
 h2:H fs=some (.lst ws)
 c1:Cel H us cl
 c2:Cel H ws st
theorem Je.mono {H a:Hp}{c d fs:Addr}{e f:AE}{b st:AB}(x:Je H c d fs e f b st)(s:zx H a):Je a c d fs e f b st:=⟨s _ _ x.tp,s _ _ x.h1,s _ _ x.h2,x.c1.mono s,x.c2.mono s⟩
structure zrP (cl st:AB):Prop where
 b1:∀c∈cl,c.1<8/\c.2<8
 b2:∀c∈st,c.1<8/\c.2<8
 l1:cl.length<=64
 l2:st.length<=64
def zjn (a:KV1)(b st:AB):Prop:=∀c,qK a (qC c)=if c∈st then some (V.int 1) else if c∈b then some (V.int 0) else none
def zjo:Sp:=λh H Q _=>∃(e f fs:Addr) (g i:AE) (c st:AB),h=[.ref e]/\Je H e f fs g i c st/\zrP c st /\
 ∀(d:Addr) (a:KV1) (b:Hp),H d=none->b d=some (.dT a)->zjn a c st->zx H b->Q (.ref d) b
def zbq (st cs:AB):List Int:=cs.map λc=>if c∈st then 1 else 0
def je (a st cs:AB):AB:=cs.filter λc=>!(decide (c∈st) || decide (c∈a))
def zjp:Sp:=λk H Q _=>∃(t h g:Addr) (e:Int) (i:AE) (c f st:AB) (b:KV1),k=[.ref t,.ref g]/\H t=some (.tup [.int e,.ref h])/\H h=some (.lst i)/\Cel H i c/\c.length<=64/\H g=some (.dT b)/\zjn b f st /\
 ∀(r d:Addr) (j:AE) (a:Hp),H r=none->H d=none->a r=some (.tup [.int (e-(zbq st c).sum),.ref d])->a d=some (.lst j)->Cel a j (je f st c)->zx H a->Q (.ref r) a
def zbI:zz ["finding","known"] ["finding"] (zq Yx):=bh
def zgZ (T:Txt mg)(D:zh K mg "known_of" Yx ["finding"] f fd):qg P w K mg base CX0 1 f fd ["finding"] zjo:=by
 refine D.F.ok zbI (λvs H Q E h=>?_) (λag A ae s H vs Q E U h=>?_)
 .revert h;refine fM λfa fc fs us=>fR λws j st z0 _=>?_;subst z0;rfl
 .revert h;refine fM λfa fc fs us=>fY λws j st z0 X Fi q=>?_;subst z0;refine⟨_,(ze (qz 1 zbI.nd (pt1 (jM U.units U.hd) T.zcN U2 (pcm ["cell"] [none] cP (zJ (zQ jD (pv 0) zj (λ_ _=>rfl))) (pgN 0) qh (qj (za (pv 0) (@za _ _ _ _ _ zj zd rfl)))))) (ze (jC (JN PX Rb PySem.F.type_dict_update (zhM U.units) (pv 1) (za (pt1 (jM U.units U.hd) T.zcN U2 (pcm ["cell"] [none] cP (zJ (zQ jD (pv 0) zj (λ_ _=>rfl))) (pgN 0) qh (qj (za (pv 0) (@za _ _ _ _ _ zj zd rfl))))) zd))) (zf (zF (pv 1))))),?_⟩;(try dsimp only[cxK,cxP,cxW]);refine fm _ rfl fa _ 0 _ rfl rfl (SqT.of X.tp) rfl fc rfl ⟨_,SqL.of X.h1⟩ (λy hy=>?_);have l1:=Fi.l1;have l2:=Fi.l2;refine qa (K:=K) (a:=fc) (xs:=us) (λi v r=>(∃u0,v=[u0])/\zx H r/\∃g,r y=some (.lst g)/\jy r g ((j.take i).map λc=>(qC c,V.int 0))) ⟨⟨_,rfl⟩,zc hy,[],zb,.nil⟩ (λi v r _ ⟨_,u,_⟩=>SqL.of (u _ _ X.h1)) ?_ ?_
  .rintro i x v H6 hx ⟨⟨u0,rfl⟩,u,g,m,l⟩;refine fU (λc G I z0 B=>?_) (Cel.get (Cel.mono u X.c1) hx);subst z0;refine yw (dI _ rfl yp (λp hp=>?_));have n:=zc (o:=.tup [.ref I,.int 0]) hp;have k:g.length<=64:=by
    rw[l.length,ZB,XJ];lia
   refine dU g (n _ _ m) (XM k (by decide)) ⟨_,rfl⟩ (λb' o J=>?_) (dJ (g++[.ref p]) zb ?_)
   .rw[zp (zg J hy)];exact n _ _ (u _ _ J)
   .rw[Xp,G,XA];exact jy.into y _ (n _ _ m) (jy.snoc (l.mono n) (dM p I rfl zb (n _ _ B)))
  refine λv H1=>fW λ_ s1 g ab N=>?_;rw[X.c1.length,XD]at N;refine dN y g _ rfl ab N (λd hd=>?_);have z2:=zc (o:=.dT (Zt j (.int 0))) hd;have M:upd H1 d (.dT (Zt j (.int 0))) d=some (.dT (Zt j (.int 0))):=zb;have s2:=s1.trans z2;have X2:=X.mono s2;have L:=s1.free hd;show _;refine dI _ rfl (.inr (.inr (.inl ⟨rfl,.inr ⟨_,zb⟩⟩))) (fm _ rfl fa _ 1 _ rfl rfl (SqT.of X2.tp) rfl fs rfl ⟨_,SqL.of X2.h2⟩ (λy2 Y=>?_));refine qa (K:=K) (a:=fs) (xs:=ws) (λi v r=>(∃u0,v=[u0])/\zx (upd H1 d (.dT (Zt j (.int 0)))) r/\∃g,r y2=some (.lst g)/\jy r g ((st.take i).map λc=>(qC c,V.int 1))) (eH ⟨_,rfl⟩ (zc Y) [] zb (.nil)) (λi v r _ ⟨_,u,_⟩=>SqL.of (u _ _ X2.h2)) ?_ ?_
  .rintro i x v H6 hx ⟨⟨u0,rfl⟩,u,g,m,l⟩;refine fU (λc G I z0 B=>?_) (Cel.get (Cel.mono u X2.c2) hx);subst z0;refine yw (dI _ rfl yp (λp hp=>?_));have n:=zc (o:=.tup [.ref I,.int 1]) hp;have k:g.length<=64:=by
    rw[l.length,ZB,XJ];lia
   refine dU g (n _ _ m) (XM k (by decide)) ⟨_,rfl⟩ (λb' o J=>?_) (dJ (g++[.ref p]) zb ?_)
   .rw[zp (zg J Y)];exact n _ _ (u _ _ J)
   .rw[Xp,G,XA];exact jy.into y2 _ (n _ _ m) (jy.snoc (l.mono n) (dM p I rfl zb (n _ _ B)))
  refine λv H3=>fW λ_ s3 af ac O=>?_;rw[X.c2.length,XD]at O;refine dN y2 af _ rfl ac O (λd2 z=>?_);have z4:=zc (o:=.dT (Zt st (.int 1))) z;have ne:d≠d2:=zg (s3 _ _ M) z;have aa:=z4 _ _ (s3 _ _ M);refine dS d d2 (Zt j (.int 0)) (Zt st (.int 1)) rfl rfl ne aa (eU zb (zgY Fi.b2) ?_ (dJ _ rfl ?_))
  .have a1:=zew j (.int 0);have a2:=zew st (.int 1);exact X6 (show _<=128 by lia) (by decide)
  .refine q d _ _ L zb (λc=>?_) λb o e=>?_
   .rw[zeu (Zt st (.int 1)) (Zt j (.int 0)) (qC c) (zjm _ [] VA)];have e1:qK (Zt st (.int 1)) (qC c)=if c∈st then some (V.int 1) else none:=zc3 _ c st []
    have e2:qK (Zt j (.int 0)) (qC c)=if c∈j then some (V.int 0) else none:=zc3 _ c j []
    rw[e1,e2];by_cases h1:c∈st
    .rw[bw h1,bw h1];rfl
    .rw[bq h1,bq h1];rfl
   .rw[zp (zg e L)];exact z4 _ _ (s3 _ _ (s2 _ _ e))
def Qn:zz ["asked","known","lying"] ["asked","known"] (zq xV):=bh
def zc4 (T:Txt mg)(D:zh K mg "still_asked" xV ["asked","known"] f fd):qg P w K mg base CX0 1 f fd ["asked","known"] zjp:=by
 refine D.F.ok Qn (λvs H Q E h=>?_) (λah A af s H vs Q E hr h=>?_)
 .revert h;refine fQ λt I G a0 us p j st=>fJ λb z0 _=>?_;subst z0;rfl
 .revert h;refine fQ λt I G a0 us p j st=>gj λb z0 ht g d=>fZ λU l hK q=>?_;subst z0;refine⟨_,(ze (qz 2 Qn.nd (pb1 (zf6 rfl) T.zoW Pd (pcm ["cell","known"] [none,some 1] cR (zJ (zQ jD (pv 0) zj (λ_ _=>rfl))) (pgN 0) qh (zgd (u1 hr.units) (pv 1) (pv 0) zj ⟨rfl,rfl,rfl,rfl⟩)))) (zf (zF (qj (za (zG YV (zQ jD (pv 0) zj (λ_ _=>rfl)) (pv 2)) (za (pcm ["cell","known"] [none,some 1] cR (zJ (zQ jD (pv 0) zj (λ_ _=>rfl))) (pgN 0) (qu (zps (zjZ (u1 hr.units) (pv 0) (pv 1)))) (pv 0)) zd)))))),?_⟩;(try dsimp only[cxK,cxP,cxW]);refine fm _ rfl t _ 1 _ rfl rfl (SqT.of ht) rfl I rfl ⟨_,SqL.of g⟩ (λy hy=>?_);refine qa (K:=K) (a:=I) (xs:=us) (λi m O=>(∃L,m=[L,some (.ref G)])/\zx H O/\O y=some (.lst ((zbq st (p.take i)).map V.int))) ⟨⟨_,rfl⟩,zc hy,zb⟩ (λi m O _ ⟨_,n,_⟩=>SqL.of (n _ _ g)) ?_ ?_
  .rintro i x m H6 hx ⟨⟨L,rfl⟩,n,ac⟩;refine fU (λc ab ca z0 e=>?_) (Cel.get (Cel.mono n d) hx);subst z0;refine yw (dJ _ rfl (dI G rfl (.inr ⟨b,.inl (n _ _ l)⟩) (eG _ rfl (qK b (qC c)) (Q5.t (k:=qC c) (n _ _ l) e) ?_)));have eg:(qK b (qC c)).getD (V.int 0)=V.int (if c∈st then 1 else 0):=by
    rw[hK c];by_cases h1:c∈st
    .rw[bw h1,bw h1];rfl
    .rw[bq h1,bq h1];by_cases h2:c∈j
     .rw[bw h2];rfl
     .rw[bq h2];rfl
   rw[eg];refine dU _ ac ?_ ⟨_,rfl⟩ (λb' o e'=>?_) ?_
   .unfold zbq;rw[ZB,ZB,XJ];exact XM (show _<=64 by lia) (by decide)
   .rw[zp (zg e' hy)];exact n _ _ e'
   .rw[zb,Xp,ab];unfold zbq;rw[XA,XA];rfl
  refine λm H1=>fO λ_ s1 B=>?_;rw[d.length,XD]at B;refine dM y _ rfl (SqL.of B) ?_;refine dX _ rfl t _ 0 _ rfl rfl (SqT.of (s1 _ _ ht)) rfl (eX _ rfl _ _ rfl rfl (fm _ rfl t _ 1 _ rfl rfl (SqT.of (s1 _ _ ht)) rfl I rfl ⟨_,SqL.of (s1 _ _ g)⟩ (λz hz=>?_)));refine qp (K:=K) (a:=I) (xs:=us) (λa=>a≠z) (p.map λc=>if (!(decide (c∈st) || decide (c∈j)))=true then some (zv c) else none) (fun m=>∃L,m=[L,some (.ref G)]) hz (λ_ h=>h) ⟨_,rfl⟩ (by rw[ZB];exact d.length.symm) (by rw[d.length];exact X6 U (by decide)) (SqL.of (s1 _ _ g)) ?_ ?_
  .rintro k x o m H2 hx ho J _ ⟨L,rfl⟩ Y Z ag no;obtain⟨c,hc,r1⟩:=Cel.get (Cel.mono (s1.trans J) d) hx;have M:=jR hc ho;obtain⟨ca,rfl,e⟩:=r1;refine eG _ rfl _ rfl (fy G (qK b (qC c)) rfl (Q5.t (k:=qC c) (J _ _ (s1 _ _ l)) e) _ rfl ?_);have ei:(!(qK b (qC c)).isSome)=!(decide (c∈st) || decide (c∈j)):=by
    rw[hK c];by_cases h1:c∈st
    .rw[bw h1,br h1];rfl
    .rw[bq h1,bf h1];by_cases h2:c∈j
     .rw[bw h2,br h2];rfl
     .rw[bq h2,bf h2];rfl
   rw[ei];by_cases N:(!(decide (c∈st) || decide (c∈j)))=true
   .rw[bw N]at M;exact yD N ⟨_,rfl,ag _ _ _ _ M ⟨_,rfl⟩ (zx.refl _) (yO.rdn ⟨ca,rfl,e⟩)⟩
   .rw[bq N]at M;exact jE (WX.mpr N) (no _ _ M ⟨_,rfl⟩ (zx.refl _))
  .rintro ys H2 J ae u;rw[ql]at u;have aa:Cel H2 ys (je j st p):=zC.cel u;refine⟨yp,λr v=>?_⟩;have z3:=zc (o:=.tup [.int (a0-(zbq st p).sum),.ref z]) v;exact q r z ys _ ((s1.trans J).free v) (s1.free hz) zb (z3 _ _ ae) (aa.mono z3) ((s1.trans J).trans z3)
def zkH (H:Hp)(v:V):Option AA->Prop
 | none=>v=V.str "all"
 | some c=>yO H v c
theorem zkH.mono {H b:Hp}{v:V}(s:zx H b):∀{c:Option AA},zkH H v c->zkH b v c
 | none,h=>h
 | some _,⟨a,e,h⟩=>⟨a,e,s _ _ h⟩
def zrQ (rs:AD)(n:Int):Option AA->Int
 | none=>n
 | some c=>((Cells.sgn (codes rs) c:Nat):Int)-48
def zqq (rs:AD):Option AA->AB
 | none=>zT rs
 | some c=>clA rs c
def zjq:Sp:=λg H Q _=>∃(p l:Addr) (b:AD) (n:Int) (v:V) (d:Option AA),g=[.ref p,v]/\qf H p l b n/\Rows bd.cps.toList b/\zkH H v d/\(∀c,d=some c->c∈qx b) /\
 ∀(t e:Addr) (f:AE) (a:Hp),H t=none->H e=none->a t=some (.tup [.int (zrQ b n d),.ref e])->a e=some (.lst f)->Cel a f (zqq b d)->zx H a->Q (.ref t) a
abbrev Rg:=AB×Int×Int
def RgR (H:Hp)(v:V)(g:Rg):Prop:=∃t l a,v=V.ref t/\H t=some (.tup [.ref l,.int g.2.1,.int g.2.2])/\H l=some (.lst a)/\Cel H a g.1
def zg0 (H:Hp):AE->List Rg->Prop:=Xa (RgR H)
theorem zg0.get {H:Hp}:∀{vs:AE} {gs:List Rg} {i:Nat} {v:V},zg0 H vs gs->vs[i]?=some v->∃g,gs[i]?=some g/\RgR H v g
 | _,_,_,_,.nil,e=>by simp at e
 | _,_,0,_,.cons r _,e=>by
  simp at e;subst e;exact⟨_,rfl,r⟩
 | _,_,i+1,v,.cons _ t,e=>by
  obtain⟨c,h1,h2⟩:=zg0.get (i:=i) (v:=v) t (by simpa using e);exact⟨c,by simpa using h1,h2⟩
def jk (gs:List Rg):AB:=gs.flatMap λg=>if g.2.2=0 then g.1 else []
def jn (gs:List Rg):AB:=gs.flatMap λg=>if g.2.1=((g.1.length:Nat):Int) then g.1 else []
theorem zc5 (p:Rg->Bool):∀gs:List Rg,(gs.flatMap λg=>if p g=true then g.1 else []).Sublist (gs.flatMap λg=>g.1)
 | []=>List.Sublist.refl _
 | g::r=>by
  rw[Rm,Rm];refine List.Sublist.append ?_ (zc5 p r);split
  .exact List.Sublist.refl _
  .exact Sx _
def YI (gs:List Rg):(jk gs).Sublist (gs.flatMap λg=>g.1):=by
 have:=zc5 (λg=>decide (g.2.2=0)) gs;simpa[jk] using this
def YJ (gs:List Rg):(jn gs).Sublist (gs.flatMap λg=>g.1):=by
 have:=zc5 (λg=>decide (g.2.1=((g.1.length:Nat):Int))) gs;simpa[jn] using this
def zex {α:Type}(f:Rg->List α){gs:List Rg}{i:Nat}{g:Rg}(h:gs[i]?=some g):(gs.take (i+1)).flatMap f=(gs.take i).flatMap f++f g:=by
 rw[Xp,h,Tz];simp
def zkI:Sp:=λj H Q _=>∃(r:Addr) (f:AE) (b:List Rg),j=[.ref r]/\H r=some (.lst f)/\zg0 H f b/\(b.flatMap λg=>g.1).Nodup/\(b.flatMap λg=>g.1).length<64 /\
 ∀(t c d:Addr) (h i:AE) (c1 e:AB) (a:Hp),H t=none->H c=none->H d=none->c≠d->a t=some (.tup [.ref c,.ref d])->a c=some (.lst h)->a d=some (.lst i)->Cel a h c1->Cel a i e ->
  c1.Perm (jk b)->e.Perm (jn b)->c1.Pairwise Cells.lex->e.Pairwise Cells.lex->zx H a->Q (.ref t) a
def zfw {cs:AB}(f:cs.Nodup)(h:(cs.map toI).Pairwise λp q=>lt2 q p=false):cs.Pairwise Cells.lex:=by
 rw[Wc]at h;refine(h.and f).imp λ{c d} ⟨a,g⟩=>?_;have b:¬ Cells.lex d c:=λz=>by
  rw[zi9.mpr z]at a;cases a
 have e:¬ (c.1=d.1/\c.2=d.2):=λz=>g (Prod.ext z.1 z.2);unfold Cells.lex at *
 lia
def zg1:zz ["board","thing"] ["board","thing"] (zq Yw):=bh
def zg2 {f1 f2 f3 f4 f5 f6:Addr}{B G I J L M:XH}(T:Txt mg)(D:zh K mg "asked_by" Yw ["board","thing"] f fd)(zL:zh K mg "around" jP ["board","cell"] f1 B)(zu:zh K mg "sign_at" qq ["board","cell"] f2 G)(zw:zh K mg "cells_of" qk ["board"] f3 I)
  (qv:zh K mg "closed" ZM ["board"] f4 J) (zU:zh K mg "number_at" jz ["board","cell"] f5 L) (zE:zh K mg "closed_around" qQ ["board","cell"] f6 M):qg P w K mg base CX0 3 f fd ["board","thing"] zjq:=by
 refine D.F.ok zg1 (λvs H Q E h=>?_) (λae A Y s H vs Q E y h=>?_)
 .revert h;refine fM λp l m n=>fL λv th z0 _=>?_;subst z0;rfl
 .revert h;refine fM λp l m n=>gb λv th z0 b R x O q=>?_;subst z0;refine⟨_,(ze (qR (Zf (JQ y.units) (pv 1) (jf (v:=.str "all") (by rfl) T.zoX.choose_spec (by exact⟨_,rfl⟩)) (qb _)) (zf (zF (qj (za (zQ jD (pv 0) zj (λ_ _=>rfl)) (za (pc0 (JJ T qv zw zu) y qv (za (pv 0) zd)) zd))))) qd) (zf (zF (qj (za (pc0 (YA T zU zu) y zU (za (pv 0) (za (pv 1) zd))) (za (pc0 (yi T zE zL zu) y zE (za (pv 0) (za (pv 1) zd))) zd)))))),?_⟩;(try dsimp only[cxK,cxP,cxW]);cases th with
  | none =>
   have ev:v=V.str "all":=x;subst ev;refine e8 _ rfl (.str "all") (.str "all") (.str _) (.str _) ⟨by decide+kernel,by decide+kernel,by decide+kernel⟩ (dJ _ rfl (yD (by decide+kernel) ?_));refine dX _ rfl p _ 1 _ rfl rfl (SqT.of b.tp) rfl (dJ _ rfl (fD p l m n rfl b R (λd ws H1 N g a s1=>⟨yp,λt u=>?_⟩)));have j:=zc (o:=.tup [.int n,.ref d]) u;exact q t d ws _ (s1.free u) N zb (j _ _ g) (a.mono j) (s1.trans j)
  | some c =>
   obtain⟨z,rfl,e⟩:=x;have hc:=O c rfl;refine fS (λt0 k i hk U r ac=>?_) (R.openAt hc);obtain⟨k1,k2⟩:=zbm r U;obtain⟨aa,ab⟩:=yE R i hk;have es:Cells.sgn (codes m) c=k:=Cells.Q9 (qD i) hk;refine e8 _ rfl (zv c) (.str "all") (yO.rdv ⟨z,rfl,e⟩) (.str _) ⟨rfl,by decide+kernel,by show max 0 (max 0 0)+1<=64;decide⟩ (dJ _ rfl (jE rfl ?_));refine eG _ rfl _ rfl (dO p l z m (eS n c.1 c.2 t0 k rfl b e i (e9 hk ac k1 k2 (eG _ rfl _ rfl (fj p l z m n c rfl b R e (eE aa ab (λd ws H1 N g a s1=>⟨yp,λt u=>?_⟩)))))));have j:=zc (o:=.tup [.int ((k:Int)-48),.ref d]) u;refine q t d ws _ (s1.free u) N ?_ (j _ _ g) (a.mono j) (s1.trans j);rw[zb];show some (HO.tup [.int ((k:Int)-48),.ref d])=some (.tup [.int (((Cells.sgn (codes m) c:Nat):Int)-48),.ref d]);rw[es]
def xA:zz ["regions","clears","stones","cells","least","most"] ["regions"] (zq ZN):=bh
def zie (T:Txt mg)(D:zh K mg "settled" ZN ["regions"] f fd):qg P w K mg base CX0 1 f fd ["regions"] zkI:=by
 refine D.F.ok xA (λvs H Q E h=>?_) (λa4 A av s H vs Q E hr h=>?_)
 .revert h;refine fR λr us c z0 _=>?_;subst z0;rfl
 .revert h;refine fT λr us c z0 aj ae ag v q=>?_;subst z0;have lc:∀i,(jk (c.take i)).length<64:=λi=>XM (X6 (YI (c.take i)).length_le (by
   have:c=c.take i++c.drop i:=(W9 i c).symm;conv=>rhs;rw[this,Tz,XX]
   exact Vq _ _)) v
  have ls:∀i,(jn (c.take i)).length<64:=λi=>XM (X6 (YJ (c.take i)).length_le (by
   have:c=c.take i++c.drop i:=(W9 i c).symm;conv=>rhs;rw[this,Tz,XX]
   exact Vq _ _)) v
  have lg:∀{g:Rg},g∈c->g.1.length<64:=λ{g} hg=>XM (by
   obtain⟨i,hi⟩:=Sd hg;obtain⟨hl,e⟩:=X5.mp hi;have e1:c=c.take i++g::c.drop (i+1):=by
    rw[<- e,List.getElem_cons_drop,W9]
   rw[e1,Tz,Rm,XX,XX];lia) v
  refine⟨_,(@ze _ _ _ _ _ (@qG _ _ 1 _ _ _ _ xA.nd rfl (V4 rfl) (@zV _ _ _ _ zd) (by rfl) (.inr rfl)) (@ze _ _ _ _ _ (@qG _ _ 2 _ _ _ _ xA.nd rfl (V4 rfl) (@zV _ _ _ _ zd) (by rfl) (.inr rfl)) (ze (qH Xf rfl (zJ (pv 0)) (xq rfl (zP (pgq 3 xA.nd) (zP (pgq 4 xA.nd) (zP (pgq 5 xA.nd) jr)))) (ziM (qR (Zf YW (pv 5) zj (qb _)) (zf (jC (JN WS Vm Vl ZC (pv 1) (za (pv 3) zd)))) qd) (zf (qR (Zf YW (pv 4) (pb1 yc T.qI Xk (pv 3)) (qb _)) (zf (jC (JN WS Vm Vl ZC (pv 2) (za (pv 3) zd)))) qd)))) (zf (zF (qj (za (pb1 GS.xR T.JZ V0 (pv 1)) (za (pb1 GS.xR T.JZ V0 (pv 2)) zd)))))))),?_⟩;(try dsimp only[cxK,cxP,cxW]);refine⟨x9,λn O=>⟨x9,λG U=>?_⟩⟩;have z1:=zc (o:=.lst []) O;have z2:=zc (o:=.lst []) U;have al:n≠G:=zg (show upd H n (.lst []) n=some (.lst []) from zb) U;have f2:=z1.free U;have s0:=z1.trans z2;refine dJ _ rfl (dI r rfl ⟨_,SqL.of (s0 _ _ aj)⟩ ?_);refine jU (K:=K) (a:=r) (xs:=us) (λi σ k=>∃(v3 v4 v5:Option V) (M I:AE),σ=[some (.ref r),some (.ref n),some (.ref G),v3,v4,v5]/\zx H k/\k n=some (.lst M)/\k G=some (.lst I)/\Cel k M (jk (c.take i))/\Cel k I (jn (c.take i)))
   (eF _ _ _ [] [] rfl s0 (z2 _ _ zb) zb (.nil) (.nil)) (λi σ k _ ⟨_,_,_,_,_,_,s',_⟩=>SqL.of (s' _ _ aj)) ?_ ?_
  .refine λi x σ H1 hx=>gp λv3 v4 v5 M I z0 s1 h1 h2 d p=>?_;subst z0;refine gz (λg hg t l ws z0 ao Y ac=>?_) (zg0.get ae hx);subst z0;have ht:=s1 _ _ ao;have hl:=s1 _ _ Y;have J:=ac.mono s1;have au:l≠n:=zg Y O;have a6:l≠G:=zg Y f2;have gm:=X8 hg;have a5:=lg gm;have e1:jk (c.take (i+1))=jk (c.take i)++(if g.2.2=0 then g.1 else []):=zex _ hg;have e2:jn (c.take (i+1))=jn (c.take i)++(if g.2.1=((g.1.length:Nat):Int) then g.1 else []):=zex _ hg;have az:=lc i;have a3:=ls i;refine fF t _ rfl (SqT.of ht) rfl _ _ rfl (eW _ _ rfl (dM _ _ rfl rfl ?_));refine⟨fun an k=>∃(B:AE),an=[some (.ref r),some (.ref n),some (.ref G),some (.ref l),some (.int g.2.1),some (.int g.2.2)]/\zx H k/\k n=some (.lst B)/\k G=some (.lst I)/\Cel k B (jk (c.take (i+1)))/\Cel k I (jn (c.take i))/\k l=some (.lst ws)/\Cel k ws g.1,?_,?_⟩
   .refine dI _ rfl rfl (dJ _ rfl (zaq (λhp=>?_) (λhp=>?_)))
    .have j:g.2.2=0:=V.int.inj (bg hp);rw[bw j]at e1;refine dI _ rfl (.inl ⟨rfl,_,SqL.of h1⟩) (dX _ rfl n l M ws rfl rfl h1 hl ⟨?_,(dU (M++ws) rfl (λb o e=>?_) zb ?_ (eU ?_ (Cel.into n _ h1 p) ?_ (Cel.into n _ h1 J)))⟩)
     .rw[d.length,J.length];exact X6 (show _<=200 by lia) (by decide)
     .rw[zp (zg e O)];exact s1 _ _ e
     .rw[zp (U5 al)];exact h2
     .rw[e1];exact Cel.into n _ h1 (Cel.append d J)
     .rw[zp au];exact hl
    .have j:¬ g.2.2=0:=λz=>hp (br (by rw[z]));rw[bq j,WV]at e1;exact dU M rfl s1 h1 h2 (eU (by rw[e1];exact d) p hl J)
   .refine λan H2=>gj λB z0 s2 aa u=>fZ λL y af m=>?_;subst z0;refine eG _ rfl _ rfl (dH l _ rfl (.inl (SqL.of af)) rfl (dJ _ rfl (zaq (λhp=>?_) (λhp=>?_))))
    .have j:g.2.1=((g.1.length:Nat):Int):=by
      have:=V.int.inj (bg hp);rw[m.length]at this;exact this
     rw[bw j]at e2;refine dI _ rfl (.inl ⟨rfl,_,SqL.of u⟩) (dX _ rfl G l I ws rfl rfl u af ⟨?_,(eF _ _ _ B (I++ws) rfl (λb o e=>?_) ?_ zb (Cel.into G _ u L) ?_)⟩)
     .rw[y.length,m.length];exact X6 (show _<=200 by lia) (by decide)
     .rw[zp (zg e f2)];exact s2 _ _ e
     .rw[zp al];exact aa
     .rw[e2];exact Cel.into G _ u (Cel.append y m)
    .have j:¬ g.2.1=((g.1.length:Nat):Int):=λz=>hp (br (by rw[z,m.length]));rw[bq j,WV]at e2;exact eF _ _ _ B I rfl s2 aa u L (by rw[e2];exact y)
  .refine λσ H1=>gp λv3 v4 v5 M I z0 s1 h1 h2 d p=>?_;subst z0;have gl:us.length=c.length:=Paired.length ae;rw[gl,XD]at d p;have n1:(jk c).Nodup:=ag.sublist (YI c);have n2:(jn c).Nodup:=ag.sublist (YJ c);have m1:(jk c).length<64:=XM (YI c).length_le v;have m2:(jn c).length<64:=XM (YJ c).length_le v;refine dJ _ rfl (dP n M _ rfl (SqL.of h1) (Cel.tup2 d) (by rw[d.length];lia) (λa1 u1 p1 ab aq ax ay=>?_));refine fJ (λq1 z0 ah=>?_) (zaN ax);subst z0;have z3:=zc (o:=.lst u1) ab;refine dJ _ rfl (dP G I _ rfl (SqL.of (z3 _ _ h2)) (Cel.tup2 (p.mono z3)) (by rw[p.length];lia) (λa2 u2 p2 N ar aw ak=>?_));refine fJ (λq2 z0 ai=>?_) (zaN aw);subst z0;have z4:=zc (o:=.lst u2) N;have na:a1≠a2:=zg (show upd H1 a1 (.lst u1) a1=some (.lst u1) from zb) N;refine⟨yp,λt ht=>?_⟩;have z5:=zc (o:=.tup [.ref a1,.ref a2]) ht;have am:=(s1.trans z3).trans z4;exact q t a1 a2 u1 u2 q1 q2 _ (am.free ht) (s1.free ab) ((s1.trans z3).free N) na zb (z5 _ _ (z4 _ _ zb)) (z5 _ _ zb) (Cel.mono ((z3.trans z4).trans z5) (ji aq)) (Cel.mono (z4.trans z5) (ji ar)) ah ai (zfw (ah.nodup_iff.mpr n1) ay) (zfw (ai.nodup_iff.mpr n2) ak) (am.trans z5)
def Two.both (A B:AB):AB:=A.filter λc=>decide (c∈B)
def Two.alone (A B:AB):AB:=A.filter λc=>!decide (c∈B)
def zbr (A B:AB)(a b:Int):Int:=mx3 0 (a-((Two.alone A B).length:Nat)) (b-((Two.alone B A).length:Nat))
def zbs (A B:AB)(a b:Int):Int:=mn3 ((Two.both A B).length:Nat) a b
def zkJ (A B:AB)(a b:Int):List Rg:=[(Two.both A B,zbr A B a b,zbs A B a b),(Two.alone A B,a-zbs A B a b,a-zbr A B a b),(Two.alone B A,b-zbs A B a b,b-zbr A B a b)]
abbrev Ak:=Int×AB
def AkV (H:Hp)(v:V)(k:Ak):Prop:=∃(t l:Addr) (a:AE),v=V.ref t/\H t=some (.tup [.int k.1,.ref l])/\H l=some (.lst a)/\Cel H a k.2
def ak1 (ks:List Ak):Ak:=ks.getD 0 (0,[])
def ak2 (ks:List Ak):Ak:=ks.getD 1 (0,[])
def gsU (ks:List Ak):List Rg:=zkJ (ak1 ks).2 (ak2 ks).2 (ak1 ks).1 (ak2 ks).1
def zrR (ks:List Ak):Prop:=zbr (ak1 ks).2 (ak2 ks).2 (ak1 ks).1 (ak2 ks).1<=zbs (ak1 ks).2 (ak2 ks).2 (ak1 ks).1 (ak2 ks).1
def zey:Sp:=λj H Q _=>∃(f:Addr) (g:AE) (b:List Ak),j=[.ref f]/\H f=some (.lst g)/\Xa (AkV H) g b/\(b.length=1\/b.length=2)/\(∀k∈b,k.2.Nodup/\k.2.length<=20) /\
 zrR b/\∀(t c d:Addr) (h i:AE) (c1 e:AB) (a:Hp),H c=none->H d=none->c≠d->a t=some (.tup [.ref c,.ref d])->a c=some (.lst h)->a d=some (.lst i)->Cel a h c1->Cel a i e->c1.Perm (jk (gsU b))->e.Perm (jn (gsU b))->c1.Pairwise Cells.lex->e.Pairwise Cells.lex->zx H a->Q (.ref t) a
def zoh (A B:AB):(A.filter λc=>!decide (c∈Two.both A B))=Two.alone A B:=by
 unfold Two.alone Two.both;refine Vc λx a=>?_;congr 1;rw[decide_eq_decide,XO,bu];exact⟨λh=>h.2,λh=>⟨a,h⟩⟩
def zmA (A B:AB):(B.filter λc=>!decide (c∈Two.both A B))=Two.alone B A:=by
 unfold Two.alone Two.both;refine Vc λx a=>?_;congr 1;rw[decide_eq_decide,XO,bu];exact⟨λh=>h.1,λh=>⟨h,a⟩⟩
def zif {K:XZ}{H:Hp}{vs:AE}{cs:AB}(a:Cel H vs cs):xr K H vs (cs.map zv):=by
 induction a with
 | nil=>exact .nil
 | cons h _ b=>exact .cons (yO.rdv h) b
def zg3 (g:AB)(c:AA):(if true=true then !(g.map zv).any (λz=>W1 z (zv c)) else (g.map zv).any λz=>W1 z (zv c))=!decide (c∈g):=congrArg (λb=>!b) ((J2 _ _).trans (zja _ _))
def zsD {A:Hp->Addr->Prop}{G:Hp->Addr->Prop}{R:Prop}(k:∀H t,A H t->G H t)(h:(∀H t,A H t->G H t)->R):R:=h k
def yN:zz ["asked","one","other","both","one_alone","other_alone","least","most"] ["asked"] (zq zaK):=bh
def zkK {f1:Addr}{a9:XH}(T:Txt mg)(D:zh K mg "gained" zaK ["asked"] f fd)(QD:zh K mg "settled" ZN ["regions"] f1 a9):qg P w K mg base CX0 2 f fd ["asked"] zey:=by
 refine D.F.ok yN (λvs H Q E h=>?_) (λaO A aK s H vs Q E hr h=>?_)
 .revert h;refine fR λla ls ks z0 _=>?_;subst z0;rfl
 .revert h;refine gn λla ls ks z0 J hP az a1 ae q0=>?_;subst z0;refine⟨_,(ze (qz 1 yN.nd (zQ zeO (pv 0) zj (λ_ _=>rfl))) (ze (qz 2 yN.nd (zkW (Zf YW (pb1 yc T.qI Xk (pv 0)) zj (qb _)) (zQ zeO (pv 0) zj (λ_ _=>rfl)) (@qj _ _ _ _ _ (@za _ _ _ _ _ zj (@za _ _ _ _ _ (@zV _ _ _ _ zd) zd rfl) rfl)))) (ze (qz 3 yN.nd (pcm ["cell","other"] [none,some 2] cR (zJ (zQ jD (pv 1) zj (λ_ _=>rfl))) (pgN 0) (qu (Zf (jh (K:=K) (by rfl) hr.units) (pv 0) (zQ (zns (K:=K) (by rfl)) (pv 1) zj (λ_ _=>rfl)) (by rfl))) (pv 0))) (ze (psC 4 yN.nd ["cell","both"] [none,some 3] cR (zJ (zQ jD (pv 1) zj (λ_ _=>rfl))) (pgN 0) (qu (Zf (Y5 (K:=K) (by rfl) hr.units) (pv 0) (pv 1) (by rfl))) (pv 0)) (ze (psC 5 yN.nd ["cell","both"] [none,some 3] cR (zJ (zQ jD (pv 2) zj (λ_ _=>rfl))) (pgN 0) (qu (Zf (Y5 (K:=K) (by rfl) hr.units) (pv 0) (pv 1) (by rfl))) (pv 0)) (ze (qz 6 yN.nd (YZ (zj4 rfl) (by rfl) T.zlT SF (@za _ _ _ _ _ zj (za (zG YV (zQ jD (pv 1) zj (λ_ _=>rfl)) (pb1 yc T.qI Xk (pv 4))) (za (zG YV (zQ jD (pv 2) zj (λ_ _=>rfl)) (pb1 yc T.qI Xk (pv 5))) zd)) rfl))) (ze (qz 7 yN.nd (YZ (zj5 rfl) (by rfl) T.zi6 T9 (za (pb1 yc T.qI Xk (pv 3)) (za (zQ jD (pv 1) zj (λ_ _=>rfl)) (za (zQ jD (pv 2) zj (λ_ _=>rfl)) zd))))) (ze (qR (Zf zoJ (pv 6) (pv 7) (qb _)) (zf yq) qd) (zf (zF (pc0 (zie T QD) hr QD (za (zV (za (qj (za (pv 3) (za (pv 6) (za (pv 7) zd)))) (za (qj (za (pv 4) (za (zG YV (zQ jD (pv 1) zj (λ_ _=>rfl)) (pv 7)) (za (zG YV (zQ jD (pv 1) zj (λ_ _=>rfl)) (pv 6)) zd)))) (za (qj (za (pv 5) (za (zG YV (zQ jD (pv 2) zj (λ_ _=>rfl)) (pv 7)) (za (zG YV (zQ jD (pv 2) zj (λ_ _=>rfl)) (pv 6)) zd)))) zd)))) zd)))))))))))),?_⟩;(try dsimp only[cxK,cxP,cxW]);refine GS.via λGG G=>?_;obtain⟨g,N,us,a,A,aj,ah,ax,nA,lA,L⟩:∃(g N:Addr) (us:AE) (a:Int) (A:AB),H g=some (.tup [.int a,.ref N])/\H N=some (.lst us)/\Cel H us A/\A.Nodup/\A.length<=20/\((ls=[.ref g]/\ks=[(a,A)])\/∃(d v:Addr) (U:AE) (b:Int) (B:AB),ls=[.ref g,.ref d]/\ks=[(a,A),(b,B)]/\H d=some (.tup [.int b,.ref v])/\H v=some (.lst U)/\Cel H U B/\B.Nodup/\B.length<=20):=by
   cases hP with
   | nil=>rcases az with h | h<;>cases h
   | cons x xs =>
    revert x;refine fY λg N us z0 h1 h2 h3=>?_;subst z0;have n1:=a1 _ XT;refine eF g N us _ _ h1 h2 h3 n1.1 n1.2 ?_;cases xs with
    | nil=>exact .inl ⟨rfl,rfl⟩
    | cons y ys =>
     revert y;refine fY λd v U z0 g1 g2 g3=>?_;subst z0;cases ys with
     | nil =>
      have n2:=a1 _ (XU _ XT);exact .inr (eY d v U _ _ rfl rfl g1 g2 g3 n2.1 n2.2)
     | cons z zs =>
      rcases az with h | h<;>simp at h
  refine G ?_;clear G GG;have a3:atI ls 0=some (.ref g):=by
   rcases L with ⟨rfl,_⟩ | ⟨_,_,_,_,_,rfl,_⟩<;>rfl
  refine dX _ rfl la _ _ (.ref g) rfl rfl (SqL.of J) a3 ?_;refine' zsD (A:=λ(H:Hp) (d:Addr)=>∃(v:Addr) (b:Int) (U:AE) (B:AB),H g=some (.tup [.int a,.ref N])/\H N=some (.lst us)/\Cel H us A/\H d=some (.tup [.int b,.ref v])/\H v=some (.lst U)/\Cel H U B/\B.Nodup/\B.length<=20/\zbr A B a b<=zbs A B a b/\∀(t d1 d2:Addr) (w1 w2:AE) (c1 c2:AB) (H':Hp),H d1=none->H d2=none->d1≠d2->H' t=some (.tup [.ref d1,.ref d2])->H' d1=some (.lst w1)->H' d2=some (.lst w2)->Cel H' w1 c1->Cel H' w2 c2->c1.Perm (jk (zkJ A B a b))->c2.Perm (jn (zkJ A B a b))->c1.Pairwise Cells.lex->c2.Pairwise Cells.lex->zx H H'->Q (.ref t) H') ?rest (λa7=>?tail)
  case tail =>
   have ao:=L
   rcases ao with ⟨al,ak⟩ | ⟨d,v,U,b,B,al,ak,i,I,hB,nB,lB⟩
   .have m:H la=some (.lst [.ref g]):=by rw[<- al];exact J
    have q1:=q0;have x1:=ae;rw[ak]at q1 x1;refine e8 _ rfl la _ rfl (.inl (SqL.of m)) rfl (dJ _ rfl (jE (by show decide (V.int ((1:Nat):Int)=V.int 2)=false;decide) ⟨x9,λe1 aD=>⟨yp,λd i=>?_⟩⟩));have z1:=zc (o:=.lst []) aD;have z2:=zc (o:=.tup [.int 0,.ref e1]) i;have s2:=z1.trans z2;have an:upd (upd H e1 (.lst [])) d (.tup [.int 0,.ref e1]) e1=some (.lst []):=z2 _ _ zb;have M:upd (upd H e1 (.lst [])) d (.tup [.int 0,.ref e1]) d=some (.tup [.int 0,.ref e1]):=zb;clear z1 z2;revert s2 an M;generalize upd (upd H e1 (.lst [])) d (.tup [.int 0,.ref e1])=H2;intro s2 an M;exact a7 H2 d (dS e1 0 [] [] (s2 _ _ aj) (s2 _ _ ah) (ax.mono s2) M (dZ an (.nil) VA (by decide) x1 (λt d1 d2 w1 w2 c1 c2 H' f1 f2 f3 g1 g2 g3 g4 g5 g6 g7 g8 g9 s'=>q1 t d1 d2 w1 w2 c1 c2 H' (s2.free f1) (s2.free f2) f3 g1 g2 g3 g4 g5 g6 g7 g8 g9 (s2.trans s'))))
   .have m:H la=some (.lst [.ref g,.ref d]):=by rw[<- al];exact J
    have q1:=q0;have x1:=ae;rw[ak]at q1 x1;refine e8 _ rfl la _ rfl (.inl (SqL.of m)) rfl (dJ _ rfl (yD (by show decide (V.int ((2:Nat):Int)=V.int 2)=true;decide) (dX _ rfl la _ _ (.ref d) rfl rfl (SqL.of m) rfl ?_)));exact a7 H d (dS v b U B aj ah ax i (dZ I hB nB lB x1 q1))
  intro H d hh;refine GS.via λGG G=>?_;revert hh;refine gf λv b U B aq ab hA i=>gc λI hB nB lB hg q=>?_;refine G ?_;clear G GG;refine fm _ rfl g _ 1 _ rfl rfl (SqT.of aq) rfl N rfl ⟨_,SqL.of ab⟩ (λz hz=>?_);refine qp (K:=K) (a:=N) (xs:=us) (λa=>a≠z) (A.map λc=>if decide (c∈B)=true then some (zv c) else none) (fun σ=>∃u0,σ=[u0,some (.ref d)]) hz (λ_ h=>h) ⟨_,rfl⟩ (by rw[ZB];exact hA.length.symm) (by rw[hA.length];exact X6 lA (by decide)) (SqL.of ab) ?_ ?_
  .rintro k x o σ H4 hx ho u _ ⟨u0,rfl⟩ Y Z aa no;obtain⟨c,hc,rc⟩:=Cel.get (Cel.mono u hA) hx;have l:=jR hc ho;refine dJ _ rfl (dX _ rfl d _ 1 _ rfl rfl (SqT.of (u _ _ i)) rfl (eB (zv c) (B.map zv) rc.rdv (.lst (SqL.of (u _ _ I)) (zif (hB.mono u))) rfl (zaM _) (by show 1<=60;decide) (dJ _ rfl ?_)));rw[zjb];by_cases n:decide (c∈B)=true
   .rw[bw n]at l;exact yD n ⟨_,rfl,aa _ _ _ _ l ⟨_,rfl⟩ (zx.refl _) rc.rdn⟩
   .rw[bq n]at l;exact jE (WX.mpr n) (no _ _ l ⟨_,rfl⟩ (zx.refl _))
  rintro yb H3 s3 ar ac;rw[ql]at ac;have am:Cel H3 yb (Two.both A B):=zC.cel ac;refine fm _ rfl g _ 1 _ rfl rfl (SqT.of (s3 _ _ aq)) rfl N rfl ⟨_,SqL.of (s3 _ _ ab)⟩ (λo1 aF=>?_);refine qp (K:=K) (a:=N) (xs:=us) (λa=>a≠o1) (A.map λc=>if (!decide (c∈Two.both A B))=true then some (zv c) else none) (fun σ=>∃u0,σ=[u0,some (.ref z)]) aF (λ_ h=>h) ⟨_,rfl⟩ (by rw[ZB];exact hA.length.symm) (by rw[hA.length];exact X6 lA (by decide)) (SqL.of (s3 _ _ ab)) ?_ ?_
  .rintro k x o σ H4 hx ho u _ ⟨u0,rfl⟩ Y Z aa no;obtain⟨c,hc,rc⟩:=Cel.get (Cel.mono (s3.trans u) hA) hx;have l:=jR hc ho;refine eG _ rfl _ rfl (eB (zv c) ((Two.both A B).map zv) rc.rdv (.lst (SqL.of (u _ _ ar)) (zif (am.mono u))) rfl (zaM _) (by show 1<=60;decide) (dJ _ rfl ?_));rw[zg3];by_cases n:(!decide (c∈Two.both A B))=true
   .rw[bw n]at l;exact yD n ⟨_,rfl,aa _ _ _ _ l ⟨_,rfl⟩ (zx.refl _) rc.rdn⟩
   .rw[bq n]at l;exact jE (WX.mpr n) (no _ _ l ⟨_,rfl⟩ (zx.refl _))
  rintro yo H4 u aH a4;rw[ql,zoh]at a4;have aA:Cel H4 yo (Two.alone A B):=zC.cel a4;have O:=s3.trans u;refine fm _ rfl d _ 1 _ rfl rfl (SqT.of (O _ _ i)) rfl v rfl ⟨_,SqL.of (O _ _ I)⟩ (λo2 aG=>?_);refine qp (K:=K) (a:=v) (xs:=U) (λa=>a≠o2) (B.map λc=>if (!decide (c∈Two.both A B))=true then some (zv c) else none) (fun σ=>∃u0,σ=[u0,some (.ref z)]) aG (λ_ h=>h) ⟨_,rfl⟩ (by rw[ZB];exact hB.length.symm) (by rw[hB.length];exact X6 lB (by decide)) (SqL.of (O _ _ I)) ?_ ?_
  .rintro k x o σ H5 hx ho s5 _ ⟨u0,rfl⟩ Y Z aa no;obtain⟨c,hc,rc⟩:=Cel.get (Cel.mono (O.trans s5) hB) hx;have l:=jR hc ho;refine eG _ rfl _ rfl (eB (zv c) ((Two.both A B).map zv) rc.rdv (.lst (SqL.of (s5 _ _ (u _ _ ar))) (zif (am.mono (u.trans s5)))) rfl (zaM _) (by show 1<=60;decide) (dJ _ rfl ?_));rw[zg3];by_cases n:(!decide (c∈Two.both A B))=true
   .rw[bw n]at l;exact yD n ⟨_,rfl,aa _ _ _ _ l ⟨_,rfl⟩ (zx.refl _) rc.rdn⟩
   .rw[bq n]at l;exact jE (WX.mpr n) (no _ _ l ⟨_,rfl⟩ (zx.refl _))
  rintro y2 H5 s5 a2 a5;rw[ql,zmA]at a5;have ay:Cel H5 y2 (Two.alone B A):=zC.cel a5;have au:=O.trans s5;have ai:=s5 _ _ aH;have a6:=s5 _ _ (u _ _ ar);have af:=am.mono (u.trans s5);have r:=au _ _ i;have p:=au _ _ aq;have ag:=aA.mono s5;refine dX _ rfl g _ 0 _ rfl rfl (SqT.of p) rfl (eX _ rfl o1 _ rfl (.inl (SqL.of ai)) (dM _ _ rfl rfl (dX _ rfl d _ 0 _ rfl rfl (SqT.of r) rfl (eX _ rfl o2 _ rfl (.inl (SqL.of a2)) (dM _ _ rfl rfl (eV _ _ _ rfl ?_))))));refine eX _ rfl z _ rfl (.inl (SqL.of a6)) (dX _ rfl g _ 0 _ rfl rfl (SqT.of p) rfl (dX _ rfl d _ 0 _ rfl rfl (SqT.of r) rfl (eV _ _ _ rfl ?_)));refine eG _ rfl _ rfl (fy _ _ rfl rfl _ rfl ?_);have eL:mx3 0 (a-((yo.length:Nat):Int)) (b-((y2.length:Nat):Int))=zbr A B a b:=by
   unfold zbr;rw[ag.length,ay.length]
  have eM:mn3 ((yb.length:Nat):Int) a b=zbs A B a b:=by
   unfold zbs;rw[af.length]
  rw[eL,eM];refine jE (bf (by lia)) ?_;have q':=q;unfold zkJ at q';generalize zbr A B a b=lo at *
  generalize zbs A B a b=hi at *
  refine eG _ rfl _ rfl (dI _ rfl zgw (λr1 aI=>?_));have y1:=zc (o:=.tup [.ref z,.int lo,.int hi]) aI;have x1:upd H5 r1 (.tup [.ref z,.int lo,.int hi]) r1=some (.tup [.ref z,.int lo,.int hi]):=zb;refine dJ _ rfl (dX _ rfl g _ 0 _ rfl rfl (SqT.of (y1 _ _ p)) rfl (eX _ rfl _ _ rfl rfl (dX _ rfl g _ 0 _ rfl rfl (SqT.of (y1 _ _ p)) rfl (e8 _ rfl _ _ rfl rfl zgw (λr2 ao=>?_)))));have a8:=zc (o:=.tup [.ref o1,.int (a-hi),.int (a-lo)]) ao;have av:=y1.trans a8;refine dJ _ rfl (dX _ rfl d _ 0 _ rfl rfl (SqT.of (av _ _ r)) rfl (eX _ rfl _ _ rfl rfl (dX _ rfl d _ 0 _ rfl rfl (SqT.of (av _ _ r)) rfl (e8 _ rfl _ _ rfl rfl zgw (λr3 ac=>⟨zgw,λrl aJ=>?_⟩)))));have y3:=zc (o:=.tup [.ref o2,.int (b-hi),.int (b-lo)]) ac;have y4:=zc (o:=.lst [.ref r1,.ref r2,.ref r3]) aJ;have aw:=y3.trans y4;have j:=av.trans aw;have mB:∀{x:AA},x∈Two.both A B->x∈A/\x∈B:=λh=>⟨(XO.mp h).1,bg (XO.mp h).2⟩;have mA:∀{x:AA} {A B:AB},x∈Two.alone A B->x∈A/\x ∉ B:=λ{x A B} h=>⟨(XO.mp h).1,by
   have:=(XO.mp h).2;simpa using this⟩
  have aP:(Two.both A B).length<=20:=X6 (W7 _ _) lA;have aQ:(Two.alone A B).length<=20:=X6 (W7 _ _) lA;have aR:(Two.alone B A).length<=20:=X6 (W7 _ _) lB;refine dQ rl _ [(Two.both A B,lo,hi),(Two.alone A B,a-hi,a-lo),(Two.alone B A,b-hi,b-lo)] rfl zb (.cons (dN r1 z yb rfl (aw _ _ (a8 _ _ x1)) (j _ _ a6) (af.mono j)) (.cons (dN r2 o1 yo rfl (aw _ _ zb) (j _ _ ai) (ag.mono j)) (.cons (dN r3 o2 y2 rfl (y4 _ _ zb) (j _ _ a2) (ay.mono j)) .nil))) ?_ ?_ (λt d1 d2 w1 w2 c1 c2 H6 ht aB aC aE h1 h2 h3 k1 k2 p1 p2 aM aN s6=>?_)
  .show (Two.both A B++(Two.alone A B++(Two.alone B A++[]))).Nodup;rw[WV,WK,WK];refine⟨nA.sublist W2,⟨nA.sublist W2,nB.sublist W2,λx hx y hy e=>?_⟩,λx hx y hy e=>?_⟩
   .subst e;exact(mA hx).2 (mA hy).1
   .subst e;rcases XN.mp hy with hy | hy
    .exact(mA hy).2 (mB hx).2
    .exact(mA hy).2 (mB hx).1
  .show (Two.both A B++(Two.alone A B++(Two.alone B A++[]))).length<64;rw[WV,XX,XX];lia
  .have sA:=au.trans j;exact q' t d1 d2 w1 w2 c1 c2 H6 (sA.free aB) (sA.free aC) aE h1 h2 h3 k1 k2 p1 p2 aM aN (sA.trans s6)
def zc6 (a st:AB)(k:Ak):Ak:=(k.1-(zbq st k.2).sum,je a st k.2)
theorem zez {a st:AB}{p:AA->Bool}(b:∀c∈a,p c=false)(d:∀c∈st,p c=true):∀cs:AB,((cs.countP p:Nat):Int)=(zbq st cs).sum+(((je a st cs).countP p:Nat):Int)
 | []=>rfl
 | c::r=>by
  have g:=zez b d r;have f:(zbq st (c::r)).sum=(if c∈st then 1 else 0)+(zbq st r).sum:=by
   show (((c::r).map _).sum:Int)=_;rw[Xw,Ts];rfl
  have e:je a st (c::r)=if (!(decide (c∈st) || decide (c∈a)))=true then c::je a st r else je a st r:=by
   unfold je;rw[VO]
  rw[VD,f,e];by_cases h1:c∈st
  .rw[d c h1,bw h1,br h1];show ((r.countP p+1:Nat):Int)=1+(zbq st r).sum+(((je a st r).countP p:Nat):Int);lia
  .rw[bq h1,bf h1];by_cases h2:c∈a
   .rw[b c h2,br h2];show ((r.countP p+0:Nat):Int)=0+(zbq st r).sum+(((je a st r).countP p:Nat):Int);lia
   .rw[bf h2];show ((r.countP p+(if p c=true then 1 else 0):Nat):Int)=0+(zbq st r).sum+(((c::je a st r).countP p:Nat):Int);rw[VD];lia
def zmB {a st cs:AB}{c:AA}:c∈je a st cs↔c∈cs/\c ∉ st/\c ∉ a:=by
 unfold je;rw[XO];simp
def zkL (p:AA->Bool)(gs:List Rg):Prop:=∀g∈gs,g.2.1<=((g.1.countP p:Nat):Int)/\((g.1.countP p:Nat):Int)<=g.2.2
def zkL.clear {p:AA->Bool}{gs:List Rg}(h:zkL p gs){c:AA}(b:c∈jk gs):p c=false:=by
 obtain⟨g,d,a⟩:=List.mem_flatMap.mp b;split at a
 .rename_i e;have:=(h g d).2;exact WX.mpr (List.countP_eq_zero.mp (by lia) c a)
 .cases a
def zkL.stone {p:AA->Bool}{gs:List Rg}(h:zkL p gs){c:AA}(b:c∈jn gs):p c=true:=by
 obtain⟨g,d,a⟩:=List.mem_flatMap.mp b;split at a
 .rename_i e;have:=(h g d).1;have:=T7 (p:=p) (l:=g.1);exact List.countP_eq_length.mp (by lia) c a
 .cases a
def zo2 {A B:AB}{a b:Int}{p:AA->Bool}(e:A.Nodup)(f:B.Nodup)(k:((A.countP p:Nat):Int)=a)(m:((B.countP p:Nat):Int)=b):zkL p (zkJ A B a b)/\zbr A B a b<=zbs A B a b:=by
 have h:A.countP p=(Two.both A B).countP p+(Two.alone A B).countP p:=SM A p _;have i:B.countP p=(Two.both B A).countP p+(Two.alone B A).countP p:=SM B p _;have j:(Two.both B A).countP p=(Two.both A B).countP p:=List.Perm.countP_eq _ ((Wf (f.sublist W2) (e.sublist W2)).mpr λc=>by
  rw[XO,XO,bu,bu];exact And.comm)
 have n:=T7 (p:=p) (l:=Two.both A B);have o:=T7 (p:=p) (l:=Two.alone A B);have q:=T7 (p:=p) (l:=Two.alone B A);have lo:zbr A B a b<=(((Two.both A B).countP p:Nat):Int):=by
  unfold zbr mx3;repeat' split
  all_goals lia
 have d:(((Two.both A B).countP p:Nat):Int)<=zbs A B a b:=by
  unfold zbs mn3;repeat' split
  all_goals lia
 refine⟨λg hg=>?_,Wx lo d⟩;rcases XI.mp hg with rfl | hg
 .exact⟨lo,d⟩
 .rcases XI.mp hg with rfl | hg
  .show a-zbs A B a b<=(((Two.alone A B).countP p:Nat):Int)/\(((Two.alone A B).countP p:Nat):Int)<=a-zbr A B a b;lia
  .rw[Xb.mp hg];show b-zbs A B a b<=(((Two.alone B A).countP p:Nat):Int)/\(((Two.alone B A).countP p:Nat):Int)<=b-zbr A B a b;lia
structure zbJ (As:List Ak)(L:AA->Bool)(cl st:AB):Prop where
 no:∀c∈cl,L c=false
 ye:∀c∈st,L c=true
 ct:∀k∈As,((k.2.countP L:Nat):Int)=k.1
def zbJ.ap {b:List Ak}{L:AA->Bool}{a st:AB}(h:zbJ b L a st):∀c∈a,c ∉ st:=λc d e=>by
 have:=h.ye c e;rw[h.no c d]at this;cases this
def zqs (rs:AD)(c:AA):clA rs c=(zT rs).filter λx=>Cells.near x c:=by
 unfold clA zK zT;have e:(Cells.zI zM 0 (codes rs)).filter (λx=>decide (Cells.sgn (codes rs) x=63))=Cells.zI J0 0 (codes rs):=by
  rw[Cells.all_filter (p:=zM) (q:=λk=>decide (k=63)) (codes rs)];refine Cells.zbC (λk=>?_) 0 _;unfold J0 zM;by_cases h:k=63
  .subst h;rfl
  .rw[bf h,Bool.and_false]
 rw[<- e,UU,UU];exact Vc λx _=>Bool.and_comm _ _
def zaZ {rs:AD}{a:Option AA}:(zqq rs a).Sublist (zT rs):=by
 cases a with
 | none=>exact List.Sublist.refl _
 | some c =>
  show (clA rs c).Sublist (zT rs);rw[zqs];exact W2
abbrev Tg:=Option AA
def akT (rs:AD)(n:Int)(a:Tg):Ak:=(zrQ rs n a,zqq rs a)
def j5 (rs:AD)(n:Int)(a:List Tg):List Ak:=a.map (akT rs n)
abbrev zbK (rs:AD)(n:Int)(cl st:AB)(ths:List Tg):List Ak:=ths.map λtg=>zc6 cl st (akT rs n tg)
abbrev gsT (rs:AD)(n:Int)(cl st:AB)(ths:List Tg):List Rg:=gsU (zbK rs n cl st ths)
def zoi (c d:List Tg):Prop:=(∃a∈c,d=[a])\/∃a b,a∈c/\b∈c/\a≠b/\d=[a,b]
def zfx (rs:AD)(n:Int)(a st:AB)(b:Tg):(zc6 a st (akT rs n b)).2.Nodup:=((J4 rs).sublist zaZ).sublist W2
def zoj {rs:AD}(n:Int)(a st:AB)(b:Tg)(h:(zT rs).length<=20):(zc6 a st (akT rs n b)).2.length<=20:=X6 (W7 _ _) (X6 zaZ.length_le h)
def zbJ.ok {rs:AD}{n:Int}{e f:List Tg}{L:AA->Bool}{c st:AB}(h:zbJ (j5 rs n e) L c st)(o:zoi e f):zkL L (gsT rs n c st f)/\zrR (zbK rs n c st f):=by
 have d:∀a∈e,(((zc6 c st (akT rs n a)).2.countP L:Nat):Int)=(zc6 c st (akT rs n a)).1:=λa g=>by
  have:=zez h.no h.ye (akT rs n a).2;have:=h.ct _ (XG.mpr ⟨a,g,rfl⟩);show _=(akT rs n a).1-(zbq st (akT rs n a).2).sum;show (((je c st (akT rs n a).2).countP L:Nat):Int)=_;lia
 rcases o with ⟨a,g,rfl⟩ | ⟨a,b,g,i,_,rfl⟩
 .exact zo2 (zfx rs n c st a) (VA (α:=AA)) (d a g) rfl
 .exact zo2 (zfx rs n c st a) (zfx rs n c st b) (d a g) (d b i)
def zjr {rs:AD}{n:Int}{i e:List Tg}{f st:AB}{c:AA}(o:zoi i e)(h:c∈(gsT rs n f st e).flatMap λg=>g.1):c∈zT rs/\c ∉ st/\c ∉ f:=by
 have one:∀a,c∈(zc6 f st (akT rs n a)).2->c∈zT rs/\c ∉ st/\c ∉ f:=λa h=>let z:=zmB.mp h;⟨zaZ.subset z.1,z.2⟩
 have d:∀{A B:AB} {a b:Int},c∈(zkJ A B a b).flatMap (λg=>g.1)->c∈A\/c∈B:=λ{A B a b} h=>by
  have j:c∈Two.both A B++(Two.alone A B++(Two.alone B A++[])):=h;rw[WV,XN,XN]at j;rcases j with h | h | h
  .exact .inl (XO.mp h).1
  .exact .inl (XO.mp h).1
  .exact .inr (XO.mp h).1
 rcases o with ⟨a,k,rfl⟩ | ⟨a,b,k,l,_,rfl⟩
 .rcases d h with z | z
  .exact one a z
  .cases z
 .exact(d h).elim (one a) (one b)
abbrev nlI (t:List Nat):List Int:=t.map λx=>((x:Nat):Int)
def zrS (n:Nat)(t:List Nat):Prop:=(∃i,i<n/\t=[i])\/∃i j,i<j/\j<n/\t=[i,j]
def PlN (N:Addr->Prop)(n:Nat)(H:Hp)(v:V):Prop:=∃a t,v=V.ref a/\N a/\H a=some (.lst (iL (nlI t)))/\zrS n t
abbrev NT:Addr->Prop:=λ_=>True
section
variable {N:Addr->Prop}{H H':Hp}{us:AE}{ts:List (List Nat)}{z:Addr}{ys ys':AE}
def Z4 {n:Nat}(s:zx H H')(h:∀v∈us,PlN N n H v):∀v∈us,PlN N n H' v:=λv b=>let ⟨a,t,e,n,z,o⟩:=h v b;⟨a,t,e,n,s _ _ z,o⟩
def zjs {n:Nat}(h:∀v∈us,PlN N n H v):∀v∈us,PlN NT n H v:=λv b=>let ⟨a,t,e,_,z,o⟩:=h v b;⟨a,t,e,trivial,z,o⟩
def zg4 {n:Nat}{x:Addr}{t:List Nat}(s:zx H H')(hz:z≠x)(b:H' x=some (.lst (iL (nlI t))))(o:zrS n t)(h:∀v∈us,PlN (· ≠ z) n H v):∀v∈us++[V.ref x],PlN (· ≠ z) n (upd H' z (.lst ys')) v:=λv hv=>by
 rcases XN.mp hv with hv | hv
 .refine fH (λa t e n y o=>?_) (h v hv);exact⟨a,t,e,n,by rw[zp n];exact s _ _ y,o⟩
 .exact⟨x,t,Xb.mp hv,hz.symm,by rw[zp hz.symm];exact b,o⟩
def zc7 {ks:List Ak}(s:zx H H')(h:Xa (AkV H) us ks):Xa (AkV H') us ks:=Paired.imp' (λ_ _ ⟨t,l,b,e,h1,h2,a⟩=>(dN t l b e (s _ _ h1) (s _ _ h2) (a.mono s))) h
def zmC {ks:List Ak}(h:Xa (AkV H) us ks){i:Nat}{k:Ak}(e:ks[i]?=some k):∃v,us[i]?=some v/\AkV H v k:=by
 have l:=Paired.length h;have b:=(X5.mp e).1;obtain⟨v,a⟩:∃v,us[i]?=some v:=⟨_,X0 (by lia)⟩;obtain⟨c,hk,r⟩:=QJ h a;rw[e]at hk;cases hk;exact⟨v,a,r⟩
def take_snoc {α:Type}{l:List α}{i:Nat}{x:α}(h:l[i]?=some x):l.take (i+1)=l.take i++[x]:=by
 rw[Xp,h];rfl
end
def zjt:Sp:=λg H Q _=>∃(c:Addr) (e:AE) (b:List Ak),g=[.ref c]/\H c=some (.lst e)/\Xa (AkV H) e b/\b.length<=32/\(∀k∈b,k.2.length<=64) /\
 ∀(d:Addr) (f:AE) (a:Hp),a d=some (.lst f)->(∀v∈f,PlN NT b.length a v)->zx H a->Q (.ref d) a
def jx:zz ["asked","singles","pairs","place","one","other"] ["asked"] (zq xW):=bh
def zc8 (T:Txt mg){f:Addr}{fd:XH}(D:zh K mg "place_lists" xW ["asked"] f fd):qg P w K mg base CX0 1 f fd ["asked"] zjt:=by
 refine D.F.ok jx (λvs H Q E h=>?_) (λay A ax s H vs Q E hr h=>?_)
 .revert h;refine fR λO B ks z0 _=>?_;subst z0;rfl
 .revert h;refine fT λO B ks z0 G hA a1 aw q=>?_;subst z0;refine⟨_,(ze (psC 1 jx.nd ["place"] [none] cP (prg T.JB (pb1 zH T.qI Xk (pvS 0))) (pgN 0) qh (zV (za (pvS 0) zd))) (@ze _ _ _ _ _ (@qG _ _ 2 _ _ _ _ jx.nd rfl (V4 rfl) (@zV _ _ _ _ zd) (by rfl) (.inr rfl)) (ze (qH Xf rfl (yW (by rfl) T.qN (za (pvS 0) zd)) (xq rfl (zP (pgq 3 jx.nd) (zP (pgq 4 jx.nd) jr))) (zf (qH Xf rfl (za5 (by rfl) T.JB (za (zG jt (pvS 3) zj) (za (pb1 zH T.qI Xk (pvS 0)) zd))) (pgq 5 jx.nd) (zf (qR (zcn (pb1 (zcw rfl) T.zi5 T8 (pcm ["cell","asked","other"] [none,some 0,some 5] cR (zJ (zQ qi (pvS 4) zj (λ_ _=>rfl))) (pgN 0) qh (zao (jh (K:=K) (by rfl) hr.units) (pvS 0) (zQ (zlL (K:=K) (by rfl)) (zQ (zbi (K:=K) (by rfl)) (pvS 1) (pvS 2) (λ_ _=>rfl)) zj (λ_ _=>rfl)) (by rfl)))) (λ_=>rfl)) (zf (jC (JN WS Wm Wl jX (pvS 2) (za (zV (za (pvS 3) (za (pvS 5) zd))) zd)))) qd))))) (zf (zF (zG JO (pvS 1) (pvS 2))))))),?_⟩;(try dsimp only[cxK,cxP,cxW]);have ll:B.length=ks.length:=Paired.length hA;refine⟨_,rfl,O,_,rfl,.inl (SqL.of G),_,rfl,by lia,by lia,λsg ag=>?_⟩;rw[show (((B.length:Nat):Int)).toNat=B.length by lia];refine zhA (lo:=0) (n:=B.length) (λi p u=>∃(u0:Option V) (L:AE),p=[u0]/\zx H u/\u sg=some (.lst L)/\L.length=i/\∀v∈L,PlN (· ≠ sg) ks.length u v) (dR none [] rfl (zc ag) zb rfl (λ_ h=>nomatch h)) ?_ ?_
  .refine λi p H1 hi=>fS λu0 L z0 s1 M yl hP=>?_;subst z0;rw[R3];unfold xo;refine YC ?_;refine⟨_,rfl,sz_1,λx J=>?_⟩;have y2:=zc (o:=.lst [V.int (i:Nat)]) J;have nx:x≠sg:=λe=>by
    rw[e,M]at J;cases J
   refine dI L (y2 _ _ M) (Xn (show L.length<100 by lia) (by decide)) (dR _ (L++[.ref x]) rfl (λb o e=>?_) zb (by rw[XX,yl];rfl) (zg4 (t:=[i]) y2 nx.symm zb (.inl ⟨i,by lia,rfl⟩) hP))
   .rw[zp (zg e ag)];exact y2 _ _ (s1 _ _ e)
  refine λp H1=>fS λu0 L z0 s1 M yl hS=>?_;subst z0;refine⟨x9,λU af=>?_⟩;have y2:=zc (o:=.lst []) af;refine⟨_,rfl,O,rfl,⟨_,SqL.of (y2 _ _ (s1 _ _ G))⟩,?_⟩;refine yH (K:=K) (l:=O) (xs:=B) (λi σ u=>∃(w3 w4 w5:Option V) (g:AE),σ=[some (.ref O),some (.ref sg),some (.ref U),w3,w4,w5]/\zx H1 u/\u U=some (.lst g)/\g.length<=i*32/\∀v∈g,PlN (· ≠ U) ks.length u v)
   (dS _ _ _ [] rfl y2 zb (W3 _) (λ_ h=>nomatch h)) (λi σ u _ ⟨_,_,_,_,_,s',_⟩=>SqL.of (s' _ _ (s1 _ _ G))) ?_ ?_
  .refine λi x tt σ H2 J aq=>gf λw3 w4 w5 g z0 s2 aa zl hZ=>?_;subst z0;refine gz (λk1 ak t1 l1 u1 z0 an ae ac=>?_) (QJ hA J);subst z0;have i1:i<B.length:=(X5.mp J).1;have y3:=zc (o:=.tup [.int (i:Nat),.ref t1]) aq;have s3:=s2.trans y3;have au:=y3 _ _ aa;have ai:=Z4 y3 hZ;refine dW tt _ rfl (SqT.of zb) rfl _ _ rfl _ _ rfl rfl ?_;generalize upd H2 tt (.tup [.int (i:Nat),.ref t1])=H3 at *
   refine⟨_,rfl,_,_,rfl,rfl,_,rfl,O,_,rfl,.inl (SqL.of (s3 _ _ (s1 _ _ G))),((i+1:Nat):Int),((B.length:Nat):Int),rfl,⟨by lia,by lia,by lia,by lia⟩,?_⟩;rw[show (((B.length:Nat):Int)-((i+1:Nat):Int)).toNat=B.length-(i+1) by lia];refine yG (lo:=((i+1:Nat):Int)) (n:=B.length-(i+1)) (λm σ u=>∃(w5:Option V) (g:AE),σ=[some (.ref O),some (.ref sg),some (.ref U),some (.int (i:Nat)),some (.ref t1),w5]/\zx H1 u/\u U=some (.lst g)/\g.length<=i*32+m/\∀v∈g,PlN (· ≠ U) ks.length u v)
    (dR _ g rfl s3 au zl ai) ?_ ?_
   .refine λm σ H4 hm=>fS λw5 g z0 s4 ab zl hZ=>?_;subst z0;obtain⟨j,hj,az⟩:∃j:Nat,((i+1:Nat):Int)+((m:Nat):Int)=((j:Nat):Int)/\j=i+1+m:=⟨i+1+m,by lia,rfl⟩;rw[hj];have jl:j<B.length:=by lia
    obtain⟨k2,al⟩:∃k,ks[j]?=some k:=⟨_,X0 (by lia)⟩;refine gz (λv2 ar t2 l2 u2 z0 ao am aj=>?_) (zmC hA al);subst z0;have Y:=s1.trans s4;refine⟨_,rfl,t1,_,1,_,rfl,rfl,SqT.of (Y _ _ an),rfl,l1,rfl,⟨_,SqL.of (Y _ _ ae)⟩,λz hz=>?_⟩;have a2:=aw k1 (X8 ak);refine qa (K:=K) (a:=l1) (xs:=u1) (λr p u=>∃(u0:Option V),p=[u0,some (.ref O),some (.int (j:Nat))]/\zx H4 u/\u z=some (.lst (((k1.2.take r).map λc=>decide (c∈k2.2)).map V.bl))) (dI _ rfl (zc hz) zb) (λr p u _ ⟨_,_,s',_⟩=>SqL.of (s' _ _ (Y _ _ ae))) ?_ ?_
    .refine λr v p H5 hv=>fP λu0 z0 s5 N=>?_;subst z0;have I:=Y.trans s5;refine fJ (λc hc rc=>?_) (Cel.get (Cel.mono I ac) hv);unfold xo;refine YC ?_;refine⟨_,rfl,_,rfl,_,rfl,O,_,_,_,rfl,rfl,SqL.of (I _ _ G),yU ar,t2,_,1,_,rfl,rfl,SqT.of (I _ _ ao),rfl,zv c,k2.2.map zv,rc.rdv,.lst (SqL.of (I _ _ am)) (zif (aj.mono I)),rfl,zaM _,(by show 1<=60;decide),?_⟩;rw[zjb];refine dI _ N ?_ (dI _ rfl (λb o e=>?_) ?_)
     .rw[ZB,ZB,XJ];exact Xn (show min r k1.2.length<100 by lia) (by decide)
     .rw[zp (zg e hz)];exact s5 _ _ e
     .rw[zb,take_snoc hc,XA,XA];rfl
    refine λp H5=>fP λu0 z0 s5 N=>?_;subst z0;rw[ac.length,XD]at N;refine fy z _ rfl (SqL.of N) _ rfl ?_;have y:=s5 _ _ ab;refine zaq (λ_=>?_) λ_=>?_
    .refine⟨_,rfl,.inl ⟨rfl,_,SqL.of y⟩,_,rfl,_,rfl,yp,λx J=>?_⟩;have y6:=zc (o:=.lst [V.int (i:Nat),.int (j:Nat)]) J;have nx:x≠U:=λe=>by
      rw[e,y]at J;cases J
     have av:i*32<=32*32:=OT _ (by lia);refine⟨U,_,_,rfl,rfl,y6 _ _ y,XM (show g.length<=2000 by lia) (by decide),some (.int (j:Nat)),g++[.ref x],rfl,λb o e=>?_,zb,?_,zg4 (t:=[i,j]) (s5.trans y6) nx.symm zb (.inr ⟨i,j,by lia,by lia,rfl⟩) hZ⟩
     .rw[zp (zg e af)];exact y6 _ _ (s5 _ _ (s4 _ _ e))
     .rw[XX];show g.length+1<=_;lia
    .exact dR (some (.int (j:Nat))) g rfl (s4.trans s5) y (by lia) (Z4 s5 hZ)
   .refine λσ H4=>fS λw5 g z0 s4 ab zl hZ=>?_;subst z0;exact dS _ _ _ g rfl s4 ab (by lia) hZ
  .refine λσ H2=>gf λw3 w4 w5 g z0 s2 aa zl hZ=>?_;subst z0;have ah:=Z4 s2 hS;have av:B.length*32<=32*32:=OT _ (by lia);refine⟨_,rfl,_,rfl,sg,U,_,_,rfl,rfl,s2 _ _ M,aa,X6 (show L.length+g.length<=2000 by lia) (by decide),λd hd=>?_⟩;have y5:=zc (o:=.lst (L++g)) hd;exact q d _ _ zb (λv hv=>(XN.mp hv).elim (zjs (Z4 y5 ah) v) (zjs (Z4 y5 hZ) v)) (s1.trans (s2.trans y5))
def AkN (N:Addr->Prop)(H:Hp)(v:V)(k:Ak):Prop:=∃(t l:Addr) (a:AE),v=V.ref t/\N t/\N l/\H t=some (.tup [.int k.1,.ref l])/\H l=some (.lst a)/\Cel H a k.2
def zo3 {N:Addr->Prop}{H:Hp}{a:AE}{ks:List Ak}(h:Xa (AkN N H) a ks):Xa (AkV H) a ks:=Paired.imp' (λ_ _ ⟨t,l,c,e,_,_,h1,h2,b⟩=>(dN t l c e h1 h2 b)) h
def Cel.one {H c:Hp}{d:Addr}{xs:AE}(s:∀b o,b≠d->H b=some o->c b=some o)(f:H d=some (.lst xs)){vs:AE}{cs:AB}(g:Cel H vs cs):Cel c vs cs:=by
 induction g with
 | nil=>exact .nil
 | cons q _ i =>
  obtain⟨a,e,h⟩:=q;exact .cons ⟨a,e,s a _ (λz=>by rw[z,f]at h;cases h) h⟩ i
def zg5 {y:Addr}{H c:Hp}{a:AE}(j:H y=some (.lst a))(s:∀b o,b≠y->H b=some o->c b=some o){g:AE}{ks:List Ak}(h:Xa (AkN (· ≠ y) H) g ks):Xa (AkN (· ≠ y) c) g ks :=
 Paired.imp' (λ_ _ ⟨t,l,k,e,d,f,h1,h2,i⟩=>(dQ t l k e d f (s _ _ d h1) (s _ _ f h2) (Cel.one s j i))) h
theorem zok:∀c1 a:AB,W1 (.tuple [.list (c1.map zv),.list (a.map zv)]) (.tuple [.list [],.list []])=decide (c1=[]/\a=[])
 | [],[]=>by decide+kernel
 | [],c::r=>rfl
 | c::r,d=>rfl
structure zju (H:Hp)(th la pl fa fc fs:Addr)(ths ls us u w':AE)(tgs:List Tg)(ks:List Ak)(cl st:AB):Prop where
 h1:H th=some (.lst ths)
 tl:ths.length=tgs.length
 h2:H la=some (.lst ls)
 k:Xa (AkV H) ls ks
 h3:H pl=some (.lst us)
 p:∀v∈us,PlN NT ks.length H v
 f:Je H fa fc fs u w' cl st
 fi:zrP cl st
structure zc9 (rs:AD)(n:Int)(tgs:List Tg)(cl st:AB)(ths:List Tg)(c1 c2:AB):Prop where
 o:zoi tgs ths
 p1:c1.Perm (jk (gsT rs n cl st ths))
 p2:c2.Perm (jn (gsT rs n cl st ths))
 x1:c1.Pairwise Cells.lex
 x2:c2.Pairwise Cells.lex
 ne:¬ (c1=[]/\c2=[])
structure za0 (N:Addr->Prop)(H:Hp)(r tl d1 d2:Addr)(w1 w2:AE)(c1 c2:AB):Prop where
 tp:H r=some (.tup [.ref tl,.ref d1,.ref d2])
 h1:H d1=some (.lst w1)
 h2:H d2=some (.lst w2)
 e1:Cel H w1 c1
 e2:Cel H w2 c2
 n1:N d1
 n2:N d2
def zjv:Sp:=λw H Q _=>∃(k i j h o fs:Addr) (f p v u x:AE) (d:AD) (n:Int) (b:List Tg) (e st:AB) (L:AA->Bool),w=[.ref k,.ref i,.ref j,.ref h]/\zju H k i j h o fs f p v u x b (j5 d n b) e st/\(zT d).length<=20/\b.length<=32/\b.Nodup/\zbJ (j5 d n b) L e st /\
 (∀c,zx H c->Q .non c) /\
 ∀(s:List Tg) (c1 g:AB) (r q l m:Addr) (y z:AE) (c:Hp),zc9 d n b e st s c1 g->za0 (λa=>H a=none) c r q l m y z c1 g->zx H c->Q (.ref r) c
def yu:zz ["things","asked","lists","finding","known","left","places","told"] ["things","asked","lists","finding"] (zq JA):=bh
def zdK (T:Txt mg)(Z:Prog K mg){f:Addr}{fd:XH}(D:zh K mg "first_step" JA ["things","asked","lists","finding"] f fd):qg P w K mg base CX0 3 f fd ["things","asked","lists","finding"] zjv:=by
 obtain⟨aT,aQ,az⟩:=Z.known_of;obtain⟨aO,aP,QV⟩:=Z.still_asked;obtain⟨aR,aU,QD⟩:=Z.settled;obtain⟨aV,aS,a1⟩:=Z.gained;have aE:=zgZ (P:=P) (w:=w) (base:=base) T az;have aD:=zc4 (P:=P) (w:=w) (base:=base) T QV;have aF:=zkK (P:=P) (w:=w) (base:=base) T a1 QD;refine D.F.ok yu (λvs H Q E h=>?_) (λaH A a9 s H vs Q E hr h=>?_)
 .revert h;refine fQ λth la pl fa fc fs ay ls=>fQ λus u w' rs n c N st=>fJ λL z0 _=>?_;subst z0;rfl
 .revert h;refine fQ λth la pl fa fc fs ay ls=>fQ λus u w' rs n c N st=>gj λL z0 X aw aM=>fZ λtn tr qn qs=>?_;subst z0;refine⟨_,(ze (qz 4 yu.nd (pc0 aE hr az (za (pvS 3) zd))) (ze (qz 5 yu.nd (pcm ["some","known"] [none,some 4] cR (zJ (pvS 1)) (pgN 0) qh (pc0 aD hr QV (za (pvS 0) (za (pvS 1) zd))))) (ze (qH Xf rfl (zJ (pvS 2)) (pgq 6 yu.nd) (ze (qz 7 yu.nd (pc0 aF hr a1 (za (pcm ["place","left"] [none,some 5] cR (zJ (pvS 6)) (pgN 0) qh (zQ (zbi (K:=K) (by rfl)) (pvS 1) (pvS 0) (λ_ _=>rfl))) zd))) (zf (qR (zO (jV hr.units) (pvS 7) (@qj _ _ _ _ _ (@za _ _ _ _ _ (@zV _ _ _ _ zd) (@za _ _ _ _ _ (@zV _ _ _ _ zd) zd rfl) rfl)) (qb _)) (zf (zF (qj (za (pcm ["place","things"] [none,some 0] cR (zJ (pvS 6)) (pgN 0) qh (zQ (zbi (K:=K) (by rfl)) (pvS 1) (pvS 0) (λ_ _=>rfl))) (za (zQ qi (pvS 7) zj (λ_ _=>rfl)) (za (zQ qi (pvS 7) zj (λ_ _=>rfl)) zd)))))) qd)))) (@zf _ _ _ (@zF _ _ _ _ zht))))),?_⟩;(try dsimp only[cxK,cxP,cxW]);refine⟨_,rfl,fa,fc,fs,u,w',N,st,rfl,X.f,X.fi,λkd a8 H1 aJ aG hK s1=>?_⟩;refine⟨_,rfl,la,rfl,⟨_,SqL.of (s1 _ _ X.h2)⟩,λy hy=>?_⟩;refine qa (K:=K) (a:=la) (xs:=ls) (λi Y B=>(∃O,Y=[O,some (.ref kd)])/\zx H1 B/\∃ys,B y=some (.lst ys)/\Xa (AkN (· ≠ y) B) ys (zbK rs n N st (c.take i))) (eH ⟨_,rfl⟩ (zc hy) [] zb (.nil)) (λi Y B _ ⟨_,s',_⟩=>SqL.of (s' _ _ (s1 _ _ X.h2))) ?_ ?_
  .rintro i x Y H2 hx ⟨⟨O,rfl⟩,s2,ys,J,hP⟩;have m:=s1.trans s2;refine gz (λk hk t l us3 z0 ht hl hc=>?_) (QJ X.k hx);subst z0;unfold j5 at hk;rw[Xv]at hk;refine fJ (λtg hg z0=>?_) (U3.mp hk);subst z0;refine yw ⟨_,rfl,_,rfl,t,l,kd,_,us3,_,N,st,a8,rfl,m _ _ ht,m _ _ hl,hc.mono m,X6 zaZ.length_le (X6 aw (by decide)),s2 _ _ aG,hK,λr l2 aB H4 aK am aa a6 a2 M=>?_⟩;have ag:=M _ _ J;have au:r≠y:=zab aa ag (by intro q;cases q);have ar:l2≠y:=λz=>by
    rw[z,J]at am;cases am
   have aC:ys.length<=32:=by
    rw[Paired.length hP,ZB,XJ];lia
   refine dU ys ag (XM aC (by decide)) ⟨_,rfl⟩ (λb o e'=>?_) (dJ (ys++[.ref r]) zb ?_)
   .rw[zp (zg e' hy)];exact M _ _ (s2 _ _ e')
   .rw[take_snoc hg,zbK,XA];have kk:∀b o,b≠y->H4 b=some o->upd H4 y (.lst (ys++[.ref r])) b=some o:=λb o nb e=>by
     rw[zp nb];exact e
    exact Paired.snoc (zg5 J (λb o nb e=>by rw[zp nb];exact M _ _ e) hP) (dQ r l2 aB rfl au ar (kk _ _ au aa) (kk _ _ ar a6) (Cel.into y _ ag a2))
  refine λY H2=>fW λ_ s2 ys J hP=>?_;rw[Paired.length X.k,j5,ZB,XD]at hP;have hV:=zo3 hP;have m:=s1.trans s2;refine⟨_,rfl,pl,rfl,⟨_,SqL.of (m _ _ X.h3)⟩,?_⟩;refine jU (K:=K) (a:=pl) (xs:=us) (λi Y B=>∃(w6 w7:Option V),Y=[some (.ref th),some (.ref la),some (.ref pl),some (.ref fa),some (.ref kd),some (.ref y),w6,w7]/\zx H2 B)
   ⟨_,_,rfl,zx.refl _⟩ (λi Y B _ ⟨_,_,_,s'⟩=>SqL.of (s' _ _ (m _ _ X.h3))) ?_ ?_
  .refine λi x Y H3 hx=>fL λw6 w7 z0 s3=>?_;subst z0;refine fH (λta t z0 _ ao po=>?_) (X.p x (X8 hx));subst z0;have ah:=m.trans s3;have ab:=ah _ _ ao;have kl:(j5 rs n c).length=c.length:=ZB _;rw[kl]at po;have gm:∀j,j<c.length->c[j]?=some (c.getD j none)/\c.getD j none∈c:=λj hj=>by
    have e:c[j]?=some (c.getD j none):=by
     rw[XC,X0 hj];rfl
    exact⟨e,X8 e⟩
   have tb:∀j∈t,j<c.length:=λj hj=>by
    rcases po with ⟨i,hi,rfl⟩ | ⟨i,j',ak,al,rfl⟩
    .rw[Xb.mp hj];exact hi
    .rcases XI.mp hj with rfl | hj
     .lia
     .rw[Xb.mp hj];exact al
   have aA:t.length=1\/t.length=2:=by
    rcases po with ⟨i,hi,rfl⟩ | ⟨i,j',ak,al,rfl⟩
    .exact .inl rfl
    .exact .inr rfl
   have to:zoi c (t.map λi=>c.getD i none):=by
    rcases po with ⟨i,hi,rfl⟩ | ⟨i,j,ak,hj,rfl⟩
    .exact .inl ⟨_,(gm i hi).2,rfl⟩
    .refine .inr (dH _ _ (gm i (by lia)).2 (gm j hj).2 (λe=>?_) rfl);have a:=(gm i (by lia)).1;rw[e,<- (gm j hj).1]at a;have:=(List.getElem?_inj (by lia) tn).mp a;lia
   refine⟨_,rfl,ta,rfl,⟨_,SqL.of ab⟩,λg hg=>?_⟩;refine qa (K:=K) (a:=ta) (xs:=iL (nlI t)) (λr d B=>∃(O:Option V) (gv:AE),d=[O,some (.ref y)]/\zx H3 B/\B g=some (.lst gv)/\Xa (AkV H3) gv (zbK rs n N st ((t.take r).map λi=>c.getD i none))) (dH _ [] rfl (zc hg) zb (.nil)) (λr d B _ ⟨_,_,_,s',_⟩=>SqL.of (s' _ _ ab)) ?_ ?_
   .refine λr v d H4 hv=>fH λO gv z0 M ae hG=>?_;subst z0;refine fJ (λx0 I z0=>?_) (ints_get hv);subst z0;rw[Xv]at I;refine fJ (λj hj z0=>?_) (U3.mp I);subst z0;have jm:=tb j (X8 hj);have ek:(zbK rs n N st c)[j]?=some (zc6 N st (akT rs n (c.getD j none))):=by
     rw[Xv,(gm j jm).1];rfl
    refine fJ (λv2 af r2=>?_) (zmC (zc7 s3 hV) ek);unfold xo;refine YC ?_;have r1:r<t.length:=(X5.mp hj).1;refine⟨_,rfl,_,rfl,y,_,_,_,rfl,rfl,SqL.of (M _ _ (s3 _ _ J)),yU af,_,ae,?_,_,gv++[v2],rfl,λb o e=>?_,zb,?_⟩
    .rw[Paired.length hG,ZB,ZB,XJ];exact Xn (show min r t.length<100 by lia) (by decide)
    .rw[zp (zg e hg)];exact M _ _ e
    .rw[take_snoc hj,XA,zbK,XA];exact Paired.snoc hG r2
   refine λd H4=>fH λO gv z0 M ae hG=>?_;subst z0;rw[ZB,ZB,XD]at hG;have av:=ah.trans M;refine eZ g gv (zbK rs n N st (t.map λi=>c.getD i none)) rfl ae (zc7 M hG) (by rw[ZB,ZB];exact aA) (λk hk=>?_) (tr.ok to).2 (λtt d1 d2 w1 w2 c1 c2 H5 f1 f2 aI k1 k2 k3 g1 g2 p1 p2 x1 x2 s5=>?_)
   .obtain⟨tg,_,rfl⟩:=XG.mp hk;exact⟨zfx rs n N st tg,zoj n N st tg aw⟩
   refine⟨_,rfl,x9,λe1 a3=>⟨x9,λe2 a4=>⟨yp,λe3 a5=>?_⟩⟩⟩;have y1:=zc (o:=.lst []) a3;have y2:=zc (o:=.lst []) a4;have y3:=zc (o:=.tup [.ref e1,.ref e2]) a5;have G:=y1.trans (y2.trans y3);have ax:=s5.trans G;refine dH (.tuple [.list (c1.map zv),.list (c2.map zv)]) (.tuple [.list [],.list []]) (.tup (SqT.of (G _ _ k1)) (.cons (.lst (SqL.of (G _ _ k2)) (zif (g1.mono G))) (.cons (.lst (SqL.of (G _ _ k3)) (zif (g2.mono G))) .nil))) (.tup (SqT.of zb) (.cons (.lst (SqL.of (y3 _ _ (y2 _ _ zb))) .nil) (.cons (.lst (SqL.of (y3 _ _ zb)) .nil) .nil))) ⟨?_,rfl,?_⟩ ⟨_,rfl,?_⟩
   .show (Wd (c1.map zv)&&(Wd (c2.map zv)&&true))=true;rw[zaM,zaM];rfl
   .show max (VR (c1.map zv)+1) (max (VR (c2.map zv)+1) 0)+1<=64;have a:=zh2 c1;have b:=zh2 c2;lia
   rw[bw rfl,zok];by_cases he:c1=[]/\c2=[]
   .exact jE (by rw[br he];rfl) (eW _ _ rfl (s3.trans (M.trans ax)))
   .refine yD (by rw[bf he];rfl) ?_;generalize upd (upd (upd H5 e1 (.lst [])) e2 (.lst [])) e3 (.tup [.ref e1,.ref e2])=H6 at *
    have ai:=ah.trans (M.trans ax);have ac:=ai _ _ ao;refine⟨_,rfl,ta,rfl,⟨_,SqL.of ac⟩,λtl aq=>?_⟩;refine qa (K:=K) (a:=ta) (xs:=iL (nlI t)) (λr d B=>∃(O:Option V) (tv:AE),d=[O,some (.ref th)]/\zx H6 B/\B tl=some (.lst tv)/\tv.length<=r) (dH _ [] rfl (zc aq) zb (XW _)) (λr d B _ ⟨_,_,_,s',_⟩=>SqL.of (s' _ _ ac)) ?_ ?_
    .refine λr v d H7 hv=>fH λO tv z0 s7 an hT=>?_;subst z0;refine fJ (λx0 I z0=>?_) (ints_get hv);subst z0;rw[Xv]at I;refine fJ (λj hj z0=>?_) (U3.mp I);subst z0;have jm:=tb j (X8 hj);have aN:=X.tl;obtain⟨v2,af⟩:∃v,ay[j]?=some v:=⟨_,X0 (by lia)⟩;unfold xo;refine YC ?_;have r1:r<t.length:=(X5.mp hj).1;refine⟨_,rfl,_,rfl,th,_,_,_,rfl,rfl,SqL.of (s7 _ _ (ai _ _ X.h1)),yU af,_,an,XM (show tv.length<=100 by lia) (by decide),_,tv++[v2],rfl,λb o e=>?_,zb,by rw[XX];exact Sw hT⟩;rw[zp (zg e aq)];exact s7 _ _ e
    refine λd H7=>fH λO tv z0 s7 an hT=>?_;subst z0;have aj:=G.trans s7;refine⟨_,rfl,tt,_,0,_,rfl,rfl,SqT.of (aj _ _ k1),rfl,_,rfl,tt,_,1,_,rfl,rfl,SqT.of (aj _ _ k1),rfl,zgw,λr a7=>?_⟩;have y8:=zc (o:=.tup [.ref tl,.ref d1,.ref d2]) a7;have U:=aj.trans y8;exact qs _ c1 c2 r tl d1 d2 w1 w2 _ ⟨to,p1,p2,x1,x2,he⟩ ⟨zb,U _ _ k2,U _ _ k3,g1.mono U,g2.mono U,av.free f1,av.free f2⟩ (ai.trans (s7.trans y8))
  .rintro Y H3 ⟨w6,w7,rfl,s3⟩;exact qn H3 (m.trans s3)
structure Way (rs:AD)(n:Int)(tgs:List Tg)(L:AA->Bool)(cl st:AB):Prop where
 tr:zbJ (j5 rs n tgs) L cl st
 x1:cl.Pairwise Cells.lex
 x2:st.Pairwise Cells.lex
 s1:∀c∈cl,c∈zT rs
 s2:∀c∈st,c∈zT rs
def zih {rs:AD}{cs:AB}(n:cs.Nodup)(h:∀c∈cs,c∈zT rs)(b:(zT rs).length<=20):cs.length<=20:=by
 have:=n.length_le_of_subset (λc a=>h c a:cs ⊆ zT rs);lia
section
variable {rs:AD}{n:Int}{tgs ths:List Tg}{cl st c1 c2 q1 q2:AB}{L:AA->Bool}
def Way.len (W:Way rs n tgs L cl st)(d:(zT rs).length<=20):cl.length+st.length<=20:=by
 rw[<- XX];refine zih (WK.mpr ⟨qo W.x1,qo W.x2,λa f b g e=>?_⟩) (λc h=>(XN.mp h).elim (W.s1 c) (W.s2 c)) d;subst e;exact W.tr.ap a f g
def zc9.g1 (o:zc9 rs n tgs cl st ths c1 c2):∀c∈c1,c∈zT rs/\c ∉ st/\c ∉ cl:=λc a=>zjr o.o ((YI _).subset (o.p1.mem_iff.mp a))
def zc9.g2 (o:zc9 rs n tgs cl st ths c1 c2):∀c∈c2,c∈zT rs/\c ∉ st/\c ∉ cl:=λc a=>zjr o.o ((YJ _).subset (o.p2.mem_iff.mp a))
def Way.next (W:Way rs n tgs L cl st)(o:zc9 rs n tgs cl st ths c1 c2)(g:q1.Perm (cl++c1))(i:q2.Perm (st++c2))(u1:(q1.map toI).Pairwise λp q=>lt2 q p=false)(m:(q2.map toI).Pairwise λp q=>lt2 q p=false):Way rs n tgs L q1 q2:=by
 have ap:∀{a b:AB},a.Pairwise Cells.lex->b.Pairwise Cells.lex->(∀c∈b,c ∉ a)->(a++b).Nodup:=λj k h=>WK.mpr ⟨qo j,qo k,λc f d l e=>by
  subst e;exact h c l f⟩
 refine⟨?_,zfw (g.nodup_iff.mpr (ap W.x1 o.x1 λc f=>(o.g1 c f).2.2)) u1,zfw (i.nodup_iff.mpr (ap W.x2 o.x2 λc f=>(o.g2 c f).2.1)) m,λc f=>(XN.mp (g.mem_iff.mp f)).elim (W.s1 c) λz=>(o.g1 c z).1,λc f=>(XN.mp (i.mem_iff.mp f)).elim (W.s2 c) λz=>(o.g2 c z).1⟩;have t:=W.tr;have r:=(t.ok o.o).1;exact⟨λc f=>(XN.mp (g.mem_iff.mp f)).elim (t.no c) λz=>r.clear (o.p1.mem_iff.mp z),λc f=>(XN.mp (i.mem_iff.mp f)).elim (t.ye c) λz=>r.stone (o.p2.mem_iff.mp z),t.ct⟩
end
theorem za0.into {H:Hp}{d r g e f:Addr}{b ys h i:AE}{c1 c:AB}(a:H d=some (.lst b))(x:za0 (· ≠ d) H r g e f h i c1 c):za0 (· ≠ d) (upd H d (.lst ys)) r g e f h i c1 c :=
 ⟨by rw[zp (zab x.tp a (by intro q;cases q))];exact x.tp,by rw[zp x.n1];exact x.h1,by rw[zp x.n2];exact x.h2,Cel.into d _ a x.e1,Cel.into d _ a x.e2,x.n1,x.n2⟩
def za0.imp {N M:Addr->Prop}{H:Hp}{r e c d:Addr}{f g:AE}{c1 b:AB}(s:∀a,N a->M a)(x:za0 N H r e c d f g c1 b):za0 M H r e c d f g c1 b:=⟨x.tp,x.h1,x.h2,x.e1,x.e2,s _ x.n1,s _ x.n2⟩
def NxV (H:Hp)(sa:Addr)(rs:AD)(n:Int)(a:List Tg)(c st:AB)(v:V):Prop:=v=.non\/∃(g:List Tg) (c1 b:AB) (r f d e:Addr) (h i:AE),zc9 rs n a c st g c1 b/\v=.ref r/\za0 (· ≠ sa) H r f d e h i c1 b
def zsF {R:Prop}{G:V->Hp->Prop}(A:V->Hp->Prop)(h:(∀v H,A v H->G v H)->R)(k:∀v H,A v H->G v H):R:=h k
def zmF:Sp:=λk H Q _=>∃(p l i:Addr) (b:AD) (n:Int) (d:AE) (a:List Tg) (L:AA->Bool),k=[.ref p,.ref i]/\qf H p l b n/\Rows bd.cps.toList b/\H i=some (.lst d)/\Xa (zkH H) d a/\a.length<=32/\a.Nodup/\(∀c,some c∈a->c∈qx b)/\(zT b).length<=20/\zbJ (j5 b n a) L [] [] /\
 ∀(t sa g h fs:Addr) (j m:AE) (f st:AB) (e:Hp),e t=some (.tup [.ref sa,.ref g])->Je e g h fs j m f st->H h=none->Way b n a L f st->zx H e->Q (.ref t) e
def zbL {rs:AD}(R:Rows bd.cps.toList rs){c:AA}(h:c∈zT rs):c.1<8/\c.2<8:=by
 refine fH (λt k g hk _ _=>?_) (zW h);have a:=R.hi;obtain⟨m,_,i,f⟩:=R.ex;have e:=(f t (X8 g)).len;have b:=(X5.mp g).1;have d:=(X5.mp hk).1;rw[X4]at d;lia
def jo:zz ["board","things","asked","lists","steps","finding","step"] ["board","things"] (zq Zn):=bh
def zfy (T:Txt mg)(Z:Prog K mg){f:Addr}{fd:XH}(D:zh K mg "all_steps" Zn ["board","things"] f fd):qg P w K mg base CX0 4 f fd ["board","things"] zmF:=by
 obtain⟨Qk,Z1,zL⟩:=Z.around;obtain⟨yM,j3,zu⟩:=Z.sign_at;obtain⟨j4,jA,zw⟩:=Z.cells_of;obtain⟨b5,QC,qv⟩:=Z.closed;obtain⟨Ql,YF,zU⟩:=Z.number_at;obtain⟨yy,yj,zE⟩:=Z.closed_around;obtain⟨bB,b9,aJ⟩:=Z.asked_by;obtain⟨b7,b6,QW⟩:=Z.place_lists;obtain⟨bA,b8,YK⟩:=Z.first_step;have bp:=zg2 (P:=P) (w:=w) (base:=base) T aJ zL zu zw qv zU zE;have bo:=zc8 (P:=P) (w:=w) (base:=base) T QW;have aI:=zdK (P:=P) (w:=w) (base:=base) T Z YK;refine D.F.ok jo (λvs H Q E h=>?_) (λb0 A aY s H vs Q E hr h=>?_)
 .revert h;refine fQ λp l th Y n af g L=>fN λz0 _=>?_;subst z0;rfl
 .revert h;refine fQ λp l th Y n af g L=>fX λz0 B R am=>fX λhT aF tn aQ=>fO λU aG q=>?_;subst z0;refine⟨_,(ze (psC 2 jo.nd ["thing","board"] [none,some 0] cR (zJ (pvS 1)) (pgN 0) qh (pc0 bp hr aJ (za (pvS 1) (za (pvS 0) zd)))) (ze (qz 3 jo.nd (pc0 bo hr QW (za (pvS 2) zd))) (@ze _ _ _ _ _ (@qG _ _ 4 _ _ _ _ jo.nd rfl (V4 rfl) (@zV _ _ _ _ zd) (by rfl) (.inr rfl)) (@ze _ _ _ _ _ (@qG _ _ 5 _ _ _ _ jo.nd rfl (V4 rfl) (@qj _ _ _ _ _ (@za _ _ _ _ _ (@zV _ _ _ _ zd) (@za _ _ _ _ _ (@zV _ _ _ _ zd) zd rfl) rfl)) (by rfl) (.inr rfl)) (ze (qz 6 jo.nd (pc0 aI hr YK (za (pvS 1) (za (pvS 2) (za (pvS 3) (za (pvS 5) zd)))))) (ze (zfS Xf (zO znh (pvS 6) zht (qb _)) (ze (jC (JN WS Wm Wl jX (pvS 4) (za (pvS 6) zd))) (ze (qz 5 jo.nd (qj (za (pb1 GS.xR T.JZ V0 (zG JO (zQ qi (pvS 5) zj (λ_ _=>rfl)) (zQ qi (pvS 6) zj (λ_ _=>rfl)))) (za (pb1 GS.xR T.JZ V0 (zG JO (zQ qi (pvS 5) zj (λ_ _=>rfl)) (zQ qi (pvS 6) zj (λ_ _=>rfl)))) zd)))) (zf (qz 6 jo.nd (pc0 aI hr YK (za (pvS 1) (za (pvS 2) (za (pvS 3) (za (pvS 5) zd)))))))))) (zf (zF (qj (za (pvS 4) (za (pvS 5) zd))))))))))),?_⟩;(try dsimp only[cxK,cxP,cxW]);have kl:(j5 Y n g).length=g.length:=by
   unfold j5;rw[ZB]
  refine⟨_,rfl,th,rfl,⟨_,SqL.of am⟩,λla az=>?_⟩;refine qa (K:=K) (a:=th) (xs:=af) (λi σ H'=>∃(u0:Option V) (ys:AE),σ=[u0,some (.ref p)]/\zx H H'/\H' la=some (.lst ys)/\Xa (AkN (· ≠ la) H') ys (j5 Y n (g.take i))) (dH _ [] rfl (zc az) zb (.nil)) (λi σ H' _ ⟨_,_,_,s',_⟩=>SqL.of (s' _ _ am)) ?_ ?_
  .refine λi x σ H2 hx=>fH λu0 ys z0 s2 ao hP=>?_;subst z0;refine fJ (λtg a9 aS=>?_) (QJ hT hx);have ho:∀c,tg=some c->c∈qx Y:=λc e=>aQ c (by rw[<- e];exact X8 a9);unfold xo;refine YC ?_;refine⟨_,rfl,_,rfl,p,l,Y,n,x,tg,rfl,B.mono s2,R,aS.mono s2,ho,λt l2 us3 H3 f1 f2 a8 aP bt s3=>?_⟩;have aq:=s3 _ _ ao;have n1:t≠la:=zab a8 aq (by intro q;cases q);have n2:l2≠la:=λz=>by
    rw[z,ao]at f2;cases f2
   have yl:ys.length<=32:=by
    rw[Paired.length hP];unfold j5;rw[ZB,XJ];lia
   refine dI ys aq (XM yl (by decide)) (dH _ (ys++[.ref t]) rfl (λb o e'=>?_) zb ?_)
   .rw[zp (zg e' az)];exact s3 _ _ (s2 _ _ e')
   .unfold j5 at *
    rw[take_snoc a9,XA];refine Paired.snoc (zg5 ao (λb o nb e=>by rw[zp nb];exact s3 _ _ e) hP) (dQ t l2 us3 rfl n1 n2 ?_ ?_ (Cel.into la _ aq bt))
    .rw[zp n1];exact a8
    .rw[zp n2];exact aP
  refine λσ H2=>fH λu0 ys z0 s2 ak hP=>?_;subst z0;rw[Paired.length hT,XD]at hP;have hV:=zo3 hP;have aW:∀k∈j5 Y n g,k.2.length<=64:=λk hk=>by
   obtain⟨tg,_,rfl⟩:=XG.mp hk;exact X6 zaZ.length_le (X6 U (by decide))
  refine⟨_,rfl,la,ys,j5 Y n g,rfl,ak,hV,by lia,aW,λpl us H3 bv aR s3=>?_⟩;refine⟨x9,λsa a7=>⟨x9,λj ai=>⟨x9,λG av=>⟨yp,λN bx=>?_⟩⟩⟩⟩;have y1:=zc (o:=.lst []) a7;have y2:=zc (o:=.lst []) ai;have y3:=zc (o:=.lst []) av;have y4:=zc (o:=.tup [.ref j,.ref G]) bx;have b2:=s2.trans (s3.trans (y1.trans (y2.trans (y3.trans y4))));have n1:j≠sa:=λe=>by
   rw[e,zb]at ai;cases ai
  have n2:G≠sa:=λe=>by
   rw[e,y2 _ _ zb]at av;cases av
  have F0:Je (upd (upd (upd (upd H3 sa (.lst [])) j (.lst [])) G (.lst [])) N (.tup [.ref j,.ref G])) N j G [] [] [] []:=⟨zb,y4 _ _ (y3 _ _ zb),y4 _ _ zb,.nil,.nil⟩;have al:(upd (upd (upd (upd H3 sa (.lst [])) j (.lst [])) G (.lst [])) N (.tup [.ref j,.ref G])) sa=some (.lst []):=y4 _ _ (y3 _ _ (y2 _ _ zb));have aE:zx H3 (upd (upd (upd (upd H3 sa (.lst [])) j (.lst [])) G (.lst [])) N (.tup [.ref j,.ref G])):=y1.trans (y2.trans (y3.trans y4));generalize upd (upd (upd (upd H3 sa (.lst [])) j (.lst [])) G (.lst [])) N (.tup [.ref j,.ref G])=H4 at *
  have first:∀(Hc:Hp) (fa fc fs:Addr) (u w':AE) (cl st:AB),zx H3 Hc->Je Hc fa fc fs u w' cl st->Way Y n g L cl st->zju Hc th la pl fa fc fs af ys us u w' g (j5 Y n g) cl st:=by
   intro Hc fa fc fs u w' cl st sc F W;have bb:=s2.trans (s3.trans sc);have aD:=s3.trans sc;have wl:=W.len U;exact⟨bb _ _ am,Paired.length hT,aD _ _ ak,zc7 aD hV,sc _ _ bv,Z4 sc aR,F,⟨λc hc=>zbL R (W.s1 c hc),λc hc=>zbL R (W.s2 c hc),by lia,by lia⟩⟩
  have ah:∀{Hc:Hp} {sv:AE} {d:Addr},Hc sa=some (.lst sv)->Hc d=none->d≠sa:=λh f e=>by
   rw[e,h]at f;cases f
  have W0:Way Y n g L [] []:=⟨aG,.nil,.nil,(λ_ h=>nomatch h),λ_ h=>nomatch h⟩;refine' zsF (λv H5=>NxV H5 sa Y n g [] [] v/\zx H4 H5) (λgo=>?gTail) ?gRest
  case gTail =>
   refine⟨_,rfl,_,rfl,_,rfl,_,rfl,th,la,pl,N,j,G,af,ys,us,[],[],Y,n,g,[],[],L,rfl,first H4 N j G [] [] [] [] aE F0 W0,U,aF,tn,aG,?gN,λts c1 c2 r tl d1 d2 w1 w2 H' ok hx s'=>?gS⟩
   case gS =>
    have hv:NxV H' sa Y n g [] [] (.ref r):=.inr (fh ts c1 c2 r tl d1 d2 w1 (dI w2 ok rfl (hx.imp λ_=>ah al)))
    clear hx
    revert hv
    generalize V.ref r=v
    intro hv
    exact go v H' ⟨hv,s'⟩
   case gN=>exact λH' s'=>go _ _ ⟨.inl rfl,s'⟩
  rintro v H5 ⟨hv,ar⟩;refine⟨λm σ H'=>∃(fa fc fs:Addr) (sv u w':AE) (cl st:AB) (v:V),m=20-(cl.length+st.length)/\σ=[some (.ref p),some (.ref th),some (.ref la),some (.ref pl),some (.ref sa),some (.ref fa),some v]/\zx H3 H'/\H' sa=some (.lst sv)/\sv.length<=cl.length+st.length/\Je H' fa fc fs u w' cl st/\fc≠sa/\fs≠sa/\H3 fc=none/\Way Y n g L cl st/\NxV H' sa Y n g cl st v,(fh _ N j G [] [] [] [] (dR [] v rfl rfl (aE.trans ar) (ar _ _ al) (fq (XW _) (F0.mono ar) n1 n2 (y1.free ai) W0 hv))),?_⟩;intro m σ H6 hh;refine GS.via λGG aw=>?_;revert hh;refine fQ λfa fc fs sv u w' cl st=>gj λv z0 z1 s6 J=>fX λb3 F nc ns=>fO λnf W hv=>?_;subst z0 z1;have wl:=W.len U;rcases hv with rfl | ⟨ts,c1,c2,r,tl,d1,d2,w1,w2,ok,rfl,hx⟩
  .refine aw ⟨_,rfl,rfl,_,rfl,?_⟩;refine jE (by decide) ?_;refine⟨_,rfl,_,rfl,yp,λtt aV=>?_⟩;have y:=zc (o:=.tup [.ref sa,.ref fa]) aV;exact q tt sa fa fc fs u w' cl st _ zb (F.mono y) ((s2.trans s3).free nf) W (s2.trans (s3.trans (s6.trans y)))
  .refine aw ⟨_,rfl,rfl,_,rfl,?_⟩;refine yD (by rw[bf (λz=>nomatch z)];rfl) ?_;refine dJ _ (fun bC H' h=>h) ?_;have b1:(20:Nat)<=Xz:=by decide
   refine⟨_,rfl,.inl ⟨rfl,_,SqL.of J⟩,_,rfl,sa,_,_,rfl,rfl,J,XM (show sv.length<=20 by lia) (by decide),?_⟩;have F7:Je (upd H6 sa (.lst (sv++[.ref r]))) fa fc fs u w' cl st:=⟨by rw[zp (zab F.tp J (by intro q;cases q))];exact F.tp,by rw[zp nc];exact F.h1,by rw[zp ns];exact F.h2,Cel.into sa _ J F.c1,Cel.into sa _ J F.c2⟩;have O:za0 (· ≠ sa) (upd H6 sa (.lst (sv++[.ref r]))) r tl d1 d2 w1 w2 c1 c2:=hx.into J;have s7:zx H3 (upd H6 sa (.lst (sv++[.ref r]))):=λb o e=>by
    rw[zp (zg e a7)];exact s6 _ _ e
   have ac:upd H6 sa (.lst (sv++[.ref r])) sa=some (.lst (sv++[.ref r])):=zb;generalize upd H6 sa (.lst (sv++[.ref r]))=H7 at *
   have m1:c1.length<=20:=zih (qo ok.x1) (λc hc=>(ok.g1 c hc).1) U;have m2:c2.length<=20:=zih (qo ok.x2) (λc hc=>(ok.g2 c hc).1) U;have a1:=F7.c1.length;have a2:=F7.c2.length;have a3:=O.e1.length;have a4:=O.e2.length;refine⟨_,rfl,fa,_,0,_,rfl,rfl,SqT.of F7.tp,rfl,_,rfl,r,_,1,_,rfl,rfl,SqT.of O.tp,rfl,fc,d1,_,_,rfl,rfl,F7.h1,O.h1,X6 (show u.length+w1.length<=100 by lia) (by decide),λx hx=>?_⟩;have y1:=zc (o:=.lst (u++w1)) hx;refine dP x _ _ rfl (SqL.of zb) (Cel.tup2 ((F7.c1.append O.e1).mono y1)) (by rw[XX];lia) (λI u1 z1 ab aT aZ up1=>?_);refine fJ (λq1 z0 a5=>?_) (zaN aZ);subst z0;have y2:=zc (o:=.lst u1) ab;have ag:=y1.trans y2;refine⟨_,rfl,fa,_,1,_,rfl,rfl,SqT.of (ag _ _ F7.tp),rfl,_,rfl,r,_,2,_,rfl,rfl,SqT.of (ag _ _ O.tp),rfl,fs,d2,_,_,rfl,rfl,ag _ _ F7.h2,ag _ _ O.h2,X6 (show w'.length+w2.length<=100 by lia) (by decide),λx' an=>?_⟩;have y3:=zc (o:=.lst (w'++w2)) an;have au:=ag.trans y3;refine dP x' _ _ rfl (SqL.of zb) (Cel.tup2 ((F7.c2.append O.e2).mono au)) (by rw[XX];lia) (λM u2 z2 aj aU ba bi=>?_);refine fJ (λq2 z0 a6=>?_) (zaN ba);subst z0;have y4:=zc (o:=.lst u2) aj;have bn:=au.trans y4;refine⟨yp,λaa ax=>?_⟩;have y5:=zc (o:=.tup [.ref I,.ref M]) ax;have aH:=bn.trans y5;have ay:=(y3.trans (y4.trans y5)) _ _ (zb (H:=upd H7 x (.lst (u++w1))) (a:=I) (o:=.lst u1));have F8:Je _ aa I M u1 u2 q1 q2:=⟨zb,ay,y5 _ _ zb,Cel.mono (y2.trans (y3.trans (y4.trans y5))) (ji aT),Cel.mono (y4.trans y5) (ji aU)⟩;have aA:I≠sa:=ah (y1 _ _ ac) ab;have aC:M≠sa:=ah (au _ _ ac) aj;have W8:=W.next ok a5 a6 up1 bi;have ae:=aH _ _ ac;have aB:=(s7.trans y1).free ab;have s8:=s7.trans aH;generalize upd (upd (upd (upd (upd H7 x (.lst (u++w1))) I (.lst u1)) x' (.lst (w'++w2))) M (.lst u2)) aa (.tup [.ref I,.ref M])=H8 at *
   have k1:=a5.length_eq;have k2:=a6.length_eq;rw[XX]at k1 k2;have k3:1<=c1.length+c2.length:=by
    by_cases z:c1.length+c2.length=0
    .exact absurd ⟨Uq.mp (by lia),Uq.mp (by lia)⟩ ok.ne
    .lia
   have b4:=W8.len U;refine⟨_,rfl,_,rfl,_,rfl,_,rfl,th,la,pl,aa,I,M,af,ys,us,u1,u2,Y,n,g,q1,q2,L,rfl,first H8 aa I M u1 u2 q1 q2 s8 F8 W8,U,aF,tn,W8.tr,λH9 s9=>?_,λbe aK aM r' bc aN aO bj bm H9 aX an s9=>?_⟩
   .exact dJ _ (by lia) (dO aa I M (sv++[.ref r]) (eS u1 u2 q1 q2 (.non) rfl rfl (s8.trans s9) (s9 _ _ ae) (fq (by rw[XX];show sv.length+1<=_;lia) (F8.mono s9) aA aC aB W8 (.inl rfl))))
   .exact dJ _ (by lia) (dO aa I M (sv++[.ref r]) (eS u1 u2 q1 q2 (.ref r') rfl rfl (s8.trans s9) (s9 _ _ ae) (fq (by rw[XX];show sv.length+1<=_;lia) (F8.mono s9) aA aC aB W8 (.inr (fh be aK aM r' bc aN aO bj (dI bm aX rfl (an.imp λ_=>ah ae)))))))
def nbC (rs:AD):AB:=(qx rs).filter λo=>!(clA rs o).isEmpty
def zeA (rs:AD):List (Option AA):=(nbC rs).map some++[none]
def Lay.tr {rs:AD}{n:Int}{L:AA->Bool}(h:Lay rs n L):zbJ (j5 rs n (zeA rs)) L [] []:=by
 refine⟨(λ_ z=>nomatch z),(λ_ z=>nomatch z),λk hk=>?_⟩;obtain⟨c,ht,rfl⟩:=XG.mp hk;rcases XN.mp ht with ht | ht
 .obtain⟨o,b,rfl⟩:=XG.mp ht;exact h.o o (XO.mp b).1
 .rw[Xb.mp ht];exact h.a
def zij:Sp:=λg H Q _=>∃(p l:Addr) (a:AD) (n:Int) (L:AA->Bool),g=[.ref p]/\qf H p l a n/\Rows bd.cps.toList a/\(zT a).length<=14/\Lay a n L/\(qx a).length<=30 /\
 ∀(t sa d e fs:Addr) (f h:AE) (c st:AB) (b:Hp),b t=some (.tup [.ref sa,.ref d])->Je b d e fs f h c st->H e=none->Way a n (zeA a) L c st->zx H b->Q (.ref t) b
def zmH {rs:AD}:∀c,some c∈zeA rs->c∈qx rs:=λc hc=>by
 rcases XN.mp hc with hc | hc
 .obtain⟨o,a,e⟩:=XG.mp hc;cases e;exact(XO.mp a).1
 .cases Xb.mp hc
def zqx (rs:AD):(zeA rs).Nodup:=by
 refine WK.mpr ⟨?_,Wq.mpr ⟨(λh=>nomatch h),.nil⟩,λa d b c e=>?_⟩
 .exact List.Pairwise.map _ (λ_ _ h z=>h (Option.some.inj z)) ((qo (Cells.jv ZP 0 (codes rs))).sublist W2)
 .obtain⟨o,_,rfl⟩:=XG.mp d;rw[<- e]at c;cases Xb.mp c
def zmI {H:Hp}{vs:AE}{cs:AB}(h:Cel H vs cs):Xa (zkH H) vs (cs.map some):=by
 induction h with
 | nil=>exact .nil
 | cons r _ a=>exact .cons r a
def zbM:zz ["board","cells"] ["board"] (zq Yy):=bh
def zg7 (T:Txt mg)(Z:Prog K mg){f:Addr}{fd:XH}(D:zh K mg "thoughts" Yy ["board"] f fd):qg P w K mg base CX0 8 f fd ["board"] zij:=by
 obtain⟨Qk,Z1,zL⟩:=Z.around;obtain⟨yM,j3,zu⟩:=Z.sign_at;obtain⟨j4,jA,zw⟩:=Z.cells_of;obtain⟨YE,Zy,zB⟩:=Z.open_cells;obtain⟨yy,yj,zE⟩:=Z.closed_around;obtain⟨ay,aw,aa⟩:=Z.count;obtain⟨ax,az,ab⟩:=Z.all_steps;have aj:=yi (P:=P) (w:=w) (base:=base) T zE zL zu;have al:=yt (P:=P) (w:=w) (base:=base) T zB zw zu;have ak:=zgR (P:=P) (w:=w) (base:=base) T Z aa;have am:=zfy (P:=P) (w:=w) (base:=base) T Z ab;refine D.F.ok zbM (λvs H Q E h=>?_) (λan A ag s H vs Q E G h=>?_)
 .revert h;refine gg λp l c n L z0 _=>?_;subst z0;rfl
 .revert h;refine gu λp l c n L z0 B R N=>fO λhL af q=>?_;subst z0;refine⟨_,(ze (psC 1 zbM.nd ["cell","board"] [none,some 0] cR (zJ (pc0 al G zB (za (pvS 0) zd))) (pgN 0) (qu (zO (zf1 (K:=K) (by rfl) G.units) (pc0 aj G zE (za (pvS 1) (za (pvS 0) zd))) (@zV _ _ _ _ zd) (qb _))) (pvS 0)) (ze (qR (zO zhX (pb1 zH T.qI Xk (pvS 1)) (jf (v:=.int 30) (by rfl) T.zdA.choose_spec (by exact⟨_,rfl⟩)) (qb _)) (zf yq) qd) (ze (qR (zO YW (pc0 ak G aa (za (pvS 0) zd)) zj (qb _)) (zf yq) qd) (zf (zF (pc0 am G ab (za (pvS 0) (za (zG JO (pvS 1) (zV (za (jf (v:=.str "all") (by rfl) T.zoX.choose_spec (by exact⟨_,rfl⟩)) zd))) zd)))))))),?_⟩;(try dsimp only[cxK,cxP,cxW]);refine⟨_,rfl,p,l,c,n,rfl,B,R,λd ws H1 hd u i s1=>(dI d rfl ⟨_,SqL.of u⟩ (λz hz=>?_))⟩;have b1:=B.mono s1;refine qp (K:=K) (a:=d) (xs:=ws) (λa=>a≠z) ((qx c).map λo=>if (!(clA c o).isEmpty)=true then some (zv o) else none) (fun σ=>∃u0,σ=[u0,some (.ref p)]) hz (λ_ h=>h) ⟨_,rfl⟩ (by rw[ZB];exact i.length.symm) (by rw[i.length];exact X6 (qW R) (by decide)) (SqL.of u) ?_ ?_
  .rintro k x o σ H2 hx ho O ar ⟨u0,rfl⟩ Y Z ai no;obtain⟨y,hy,r1⟩:=Cel.get i hx;have eo:=jR hy ho;refine fH (λt sg ht hj _ es=>?_) (zW (X8 hy));obtain⟨ya,rfl,J⟩:=r1;obtain⟨l1,l2⟩:=yE R ht hj;refine⟨_,rfl,_,rfl,p,l,ya,c,n,y,rfl,b1.mono O,R,O _ _ J,l1,l2,λd2 av H3 aq ac g r=>⟨x9,λe he=>?_⟩⟩;have s4:=zc (o:=.lst []) he;refine dH (.list ((clA c y).map zv)) (.list []) (.lst (SqL.of (s4 _ _ ac)) (zif (g.mono s4))) (.lst (SqL.of zb) .nil) (zcR _ []) ⟨_,rfl,?_⟩;have ee:(if true=true then !PyData.eqv (.list ((clA c y).map zv)) (.list []) else W1 (.list ((clA c y).map zv)) (.list []))=!(clA c y).isEmpty:=congrArg (λb=>!b) (eq_nil _);rw[ee];by_cases hp:(!(clA c y).isEmpty)=true
   .rw[bw hp]at eo;exact yD hp ⟨_,rfl,ai _ _ _ _ eo ⟨_,rfl⟩ (r.trans s4) (yO.rdn ⟨ya,rfl,s4 _ _ (r _ _ (O _ _ J))⟩)⟩
   .rw[bq hp]at eo;exact jE (WX.mpr hp) (no _ _ eo ⟨_,rfl⟩ (r.trans s4))
  rintro ys H2 O M I;rw[ql]at I;have g:Cel H2 ys (nbC c):=zC.cel I;have j:=s1.trans O;have B2:=B.mono j;have yl:ys.length=(nbC c).length:=g.length;refine⟨_,rfl,z,_,rfl,.inl (SqL.of M),_,_,rfl,rfl,_,rfl,?_⟩;have ao:(nbC c).length<=30:=X6 (W7 _ _) af;refine jE (bf (by lia)) ?_;refine⟨_,rfl,p,l,c,n,L,rfl,B2,R,zgN N,hL,λv H3 v1 _ r=>?_⟩;have au:=j.trans r;refine⟨rfl,_,rfl,?_⟩;refine jE (bf λe=>by have:=V.int.inj e;lia) ?_;refine⟨_,rfl,_,rfl,sz_1,λx hx=>?_⟩;have y4:=zc (o:=.lst [V.str "all"]) hx;refine dY z x _ _ rfl rfl (y4 _ _ (r _ _ M)) zb (X6 (show ys.length+1<=40 by lia) (by decide)) (λth ae=>?_);have y5:=zc (o:=.lst (ys++[V.str "all"])) ae;have U:=r.trans (y4.trans y5);have m:=j.trans U;refine dO p l th c (dS n (ys++[V.str "all"]) (zeA c) L rfl (B.mono m) R zb (fq (Paired.snoc (zmI (g.mono U)) rfl) ?_ (zqx c) zmH (X6 N (by decide)) hL.tr (λt sa fa fc fs us ah cl st H' k1 k2 k3 k4 s'=>q t sa fa fc fs us ah cl st H' k1 k2 (m.free k3) k4 (m.trans s'))))
  .unfold zeA;rw[XX,ZB];show (nbC c).length+1<=32;lia
def fdS:Str:=".o#"
def zoo:Sp:=λa H Q _=>∃(c k:Int),a=[.int c,.int k]/\0<=k/\k<=1000000/\∀z:Int,Q (.int z) H
def Row.more {NZ:List Nat}{n:Nat}{t:Str}{c:Nat}(r:Row NZ n t)(h:c∈NZ):Row NZ (n+1) (t++⟨#[c]⟩):=by
 have e:(t++(⟨#[c]⟩:Str)).cps=t.cps++#[c]:=rfl;refine⟨?_,λd hd=>?_⟩
 .rw[e,SV,r.len];rfl
 .rw[e,W4]at hd;rcases XN.mp hd with hd | hd
  .exact r.mem d hd
  .have z:d=c:=by simpa using hd
   rw[z];exact h
def YL:zz ["_law_cell","_law_k","_law_drawn"] ["_law_cell","_law_k"] (zq Ja):=bh
def zfA (D:zh K mg "_law_mixed" Ja ["_law_cell","_law_k"] f fd):qg P w K mg base CX0 1 f fd ["_law_cell","_law_k"] zoo:=by
 refine D.F.ok YL (λg H Q E h=>?_) (λb A a s H g Q E o h=>?_)
 .obtain⟨c,i,rfl,_⟩:=h;rfl
 .revert h;refine fH λc i z0 h0 h1 k=>?_;subst z0;refine⟨_,(ze (qz 2 YL.nd (zG za6 (zG zeJ (zG zeJ (zG za6 (pv 0) zj) (@zG _ _ _ _ _ _ _ _ Zg zj (pv 1))) zj) zj)) (ze (qz 2 YL.nd (zG za6 (zG Zg (zG za6 (zG Zg (pv 2) (pv 2)) zj) zj) zj)) (zf (zF (zG zfX (zG za6 (zG Zg (pv 2) (zG zeJ (pv 2) zj)) zj) zj))))),?_⟩;(try dsimp only[cxK,cxP,cxW]);refine e8 _ rfl _ _ rfl rfl (by show (0:Int)<2147483629;decide) (e8 _ rfl _ _ rfl rfl (mulL (by decide) (by decide)) (dM _ _ rfl rfl (dM _ _ rfl rfl (dH _ _ rfl rfl (by show (0:Int)<2147483647;decide) ?_))));have j:=V2 (c%2147483629+7919*i+11) (show (2147483647:Int)≠0 by decide);have l:=V5 (c%2147483629+7919*i+11) (show (0:Int)<2147483647 by decide);generalize (c%2147483629+7919*i+11)%2147483647=d at *
  refine eG _ rfl _ rfl (fE _ _ rfl rfl (mulL (by lia) (by lia)) _ _ rfl rfl (by show (0:Int)<2147483647;decide) (fE _ _ rfl rfl (zrd (by decide) (by decide)) _ _ rfl rfl (by show (0:Int)<2147483587;decide) ?_));have m:=V2 (d*d%2147483647*48271) (show (2147483587:Int)≠0 by decide);have n:=V5 (d*d%2147483647*48271) (show (0:Int)<2147483587 by decide);generalize d*d%2147483647*48271%2147483587=e at *
  exact eG _ rfl _ rfl (dM _ _ rfl rfl (fE _ _ rfl rfl (mulL (by lia) (by lia)) _ _ rfl rfl (by show (0:Int)<2147483563;decide) (dH _ _ rfl rfl (JP.small (by decide) (by decide)) (k _))))
def bs:Str:="?012345678#"
def Sg (z:Str):Prop:=∀c∈z.cps.toList,(!(!(Us z ⟨#[c]⟩ 0 z.length 1).isEmpty))=false
def zrU:Sg bs:=by
 unfold Sg;decide+kernel
def zik:Sp:=λa H Q _=>∃(t:Str) (n:Nat) (z:Str),a=[.str t,.int n,.str z]/\Sg z/\1<=n/\n<=8/\Row z.cps.toList n t/\Q .non H
def zkM:Sp:=λc H Q _=>∃(a:Addr) (b:AD) (z:Str),c=[.ref a,.str z]/\Sg z/\H a=some (.lst (b.map V.str))/\Rows z.cps.toList b/\∀l,H l=none->Q (.ref l) (upd H l (.lst (b.map V.str)))
def zop:Sp:=λc H Q _=>∃(a:Addr) (b:AD) (n:Int),c=[.ref a,.int n]/\H a=some (.lst (b.map V.str))/\Rows bs.cps.toList b/\0<=n/\n<=64 /\
 ∀l p,H l=none->H p=none->p≠l->Q (.ref p) (upd (upd H l (.lst (b.map V.str))) p (.tup [.ref l,.int n]))
def za2:zz ["row","length","signs","sign"] ["row","length","signs"] (zq Zk):=bh
def zfB (T:Txt mg)(D:zh K mg "check_row" Zk ["row","length","signs"] f fd):qg P w K mg base CX0 1 f fd ["row","length","signs"] zik:=by
 refine D.F.ok za2 (λr H Q E h=>?_) (λm A g s H r Q E u h=>?_)
 .revert h;refine fR λt n z z0 _=>?_;subst z0;rfl
 .revert h;refine fT λt n z z0 q y p a k=>?_;subst z0;refine⟨_,(ze (qR (za4 (YX Zv Zv zj (pb1 jg T.qI Xk (pvS 0)) (jf (v:=.int 8) (by rfl) T.Qg.choose_spec (by exact⟨_,rfl⟩)))) (zf yq) qd) (ze (qR (zO zdS (pb1 jg T.qI Xk (pvS 0)) (pvS 1) (qb _)) (zf yq) qd) (zf (qH Xf rfl (zpG (pvS 0)) (pgq 3 za2.nd) (zf (qR (zO zeT (pvS 3) (pvS 2) (by rfl)) (zf yq) qd)))))),?_⟩;(try dsimp only[cxK,cxP,cxW]);have b:t.length<=Xz:=by
   have e:t.length=n:=a.len;rw[e];exact X6 p (by decide)
  refine⟨_,rfl,t,rfl,b,_,_,rfl,rfl,_,rfl,?_⟩;have e:t.length=n:=a.len;refine zaq (λc=>?_) (λc=>absurd (br (show (1:Int)<=(t.length:Nat) by lia)) c);refine⟨_,_,rfl,rfl,_,rfl,?_⟩;have l:decide (((t.length:Nat):Int)<=8)=true:=br (by lia);rw[l];refine zap ?_;refine⟨_,rfl,t,rfl,b,_,rfl,rfl,_,rfl,zoM (by rw[e]) ?_⟩;refine⟨_,rfl,t,rfl,?_⟩;refine znn (x:=t) (λ_ j d=>∃v,j=[some (.str t),some (.int n),some (.str z),v]/\d=H) ⟨_,rfl,rfl⟩ ?_ ?_
  .rintro i c j d o ⟨v,rfl,rfl⟩;refine⟨_,rfl,_,rfl,_,_,rfl,rfl,_,rfl,?_⟩;rw[q c (a.mem c (X8 (by rw[Xy];exact o)))];exact zap ⟨_,rfl,rfl⟩
  .rintro j d ⟨v,rfl,rfl⟩;exact k
def YQ:zz ["rows","signs","row"] ["rows","signs"] (zq xh):=bh
def YR (T:Txt mg)(Z:Prog K mg)(D:zh K mg "checked_rows" xh ["rows","signs"] f fd):qg P w K mg base CX0 2 f fd ["rows","signs"] zkM:=by
 obtain⟨N,O,o⟩:=Z.check_row;refine D.F.ok YQ (λM H Q E h=>?_) (λB A r s H M Q E G h=>?_)
 .revert h;refine fR λa g z z0 _=>?_;subst z0;rfl
 .revert h;refine fV λa g z z0 L l R k=>?_;subst z0;refine⟨_,(ze (qR (za4 (YX Zv Zv zj (pb1 zH T.qI Xk (pvS 0)) (jf (v:=.int 8) (by rfl) T.Qg.choose_spec (by exact⟨_,rfl⟩)))) (zf yq) qd) (ze (qH Xf rfl (zJ (pvS 0)) (pgq 2 YQ.nd) (zf (jC (pc0 (zfB T o) G o (za (pvS 2) (za (pb1 jg T.qI Xk (zQ jO (pvS 0) zj (λ_ _=>rfl))) (za (pvS 1) zd))))))) (zf (zF (pt1 Yk T.zhZ SN (pvS 0)))))),?_⟩;(try dsimp only[cxK,cxP,cxW]);obtain⟨J,U,n,I,u,d⟩:=R;refine⟨_,rfl,a,_,rfl,.inl (SqL.of l),_,_,rfl,rfl,_,rfl,?_⟩;rw[ZB];refine zaq (λc=>?_) (λc=>absurd (br (show (1:Int)<=(g.length:Nat) by lia)) c);refine⟨_,_,rfl,rfl,_,rfl,?_⟩;have y:decide (((g.length:Nat):Int)<=8)=true:=br (by lia);rw[y];refine zap ?_;refine⟨_,rfl,a,rfl,⟨_,SqL.of l⟩,?_⟩;refine jU (K:=K) (a:=a) (xs:=g.map V.str) (λ_ q p=>∃v,q=[some (.ref a),some (.str z),v]/\p=H) ⟨_,rfl,rfl⟩ (λi q p _ ⟨_,_,e⟩=>by rw[e];exact SqL.of l) ?_ ?_
  .refine λi x q p m=>fJ λv z0 z1=>?_;subst z0 z1;rw[Xv]at m;cases e:g[i]? with
   | none =>
    rw[e]at m;cases m
   | some t =>
    rw[e]at m;cases m;obtain⟨j,b,rfl⟩:∃j b,g=j::b:=by
     cases g with
     | nil=>exact absurd J (by decide)
     | cons j b=>exact⟨j,b,rfl⟩
    have h0:j.length=n:=(d j XT).len;refine⟨_,rfl,_,rfl,a,_,0,_,rfl,rfl,SqL.of l,Y0 (by decide) rfl,j,rfl,?_,_,rfl,t,n,z,?_,L,I,u,d t (X8 e),?_⟩
    .rw[h0];exact X6 u (by decide)
    .rw[h0];rfl
    .exact⟨_,rfl,rfl⟩
  .rintro q p ⟨v,rfl,rfl⟩;exact⟨_,rfl,a,_,rfl,.inl (SqL.of l),k⟩
def zbP:zz ["rows","stones","own_rows"] ["rows","stones"] (zq Ys):=bh
def zg9 (T:Txt mg)(Z:Prog K mg)(D:zh K mg "board_of" Ys ["rows","stones"] f fd):qg P w K mg base CX0 3 f fd ["rows","stones"] zop:=by
 obtain⟨B,y,g⟩:=Z.checked_rows;refine D.F.ok zbP (λx H Q E h=>?_) (λj A e s H x Q E q h=>?_)
 .revert h;refine fR λa i n z0 _=>?_;subst z0;rfl
 .revert h;refine fT λa i n z0 m R r u k=>?_;subst z0;refine⟨_,(ze (qz 2 zbP.nd (pc0 (YR T Z g) q g (za (pvS 0) (za (jf (v:=.str "?012345678#") (by rfl) T.zdx.choose_spec (by exact⟨_,rfl⟩)) zd)))) (ze (qR (za4 (YX Zv Zv zj (pvS 1) (jf (v:=.int 64) (by rfl) T.zdz.choose_spec (by exact⟨_,rfl⟩)))) (zf yq) qd) (zf (zF (qj (za (pvS 2) (za (pvS 1) zd))))))),?_⟩;(try dsimp only[cxK,cxP,cxW]);refine⟨_,rfl,a,i,bs,rfl,zrU,m,R,λl o=>?_⟩;refine⟨_,rfl,_,_,rfl,rfl,_,rfl,?_⟩;refine zaq (λc=>?_) (λc=>absurd (br r) c);refine⟨_,_,rfl,rfl,_,rfl,?_⟩;rw[br u];refine zap ?_;refine⟨_,rfl,_,rfl,yp,λp d=>?_⟩;have b:p≠l:=λz=>by rw[z,zb]at d;cases d
  rw[zp b]at d;exact k l p o d b
def zqy:Sp:=λf H Q _=>∃(l:Addr) (b:AD) (k:Nat),f=[.ref l,.str ⟨#[k]⟩]/\H l=some (.lst (b.map V.str))/\Rows fdS.cps.toList b /\
 ∀(d:Addr) (e:AE) (a:Hp),H d=none->a d=some (.lst e)->Cel a e (Cells.zI (λc=>zM c&&decide (c=k)) 0 (codes b))->zx H a->Q (.ref d) a
def zmJ:Sp:=λf H Q _=>∃(l:Addr) (b:AD),f=[.ref l]/\H l=some (.lst (b.map V.str))/\Rows fdS.cps.toList b /\
 ∀(d:Addr) (e:AE) (a:Hp),H d=none->a d=some (.lst e)->Cel a e (Cells.zI (λc=>zM c&&decide (c=111)) 0 (codes b))->zx H a->Q (.ref d) a
def zha:("o":Str)=⟨#[111]⟩:=by decide+kernel
def QX:zz ["field","sign","seen"] ["field","sign"] (zq yf):=bh
def QY {f1 f2:Addr}{aa ab:XH}(T:Txt mg)(D:zh K mg "cells_with" yf ["field","sign"] f fd)(zw:zh K mg "cells_of" qk ["board"] f1 aa)(zu:zh K mg "sign_at" qq ["board","cell"] f2 ab) :
  qg P w K mg base CX0 2 f fd ["field","sign"] zqy:=by
 refine D.F.ok QX (λvs H Q E h=>?_) (λae A ac s H vs Q E hr h=>?_)
 .revert h;refine fR λl g k z0 _=>?_;subst z0;rfl
 .revert h;refine fY λl g n z0 hl R q=>?_;subst z0;refine⟨_,(ze (qz 2 QX.nd (qj (za (pvS 0) (@za _ _ _ _ _ zj zd rfl)))) (zf (zF (pcm ["cell","sign","seen"] [none,some 1,some 2] cR (zJ (pc0 (zaL T zw) hr zw (za (pvS 2) zd))) (pgN 0) (qu (zO YW (pc0 (J1 zu) hr zu (za (pvS 2) (za (pvS 0) zd))) (pvS 1) (qb _))) (pvS 0))))),?_⟩;(try dsimp only[cxK,cxP,cxW]);refine⟨_,rfl,yp,λa ha=>?_⟩;have G:zx H (upd H a (.tup [.ref l,.int 0])):=zc ha;have b:qf (upd H a (.tup [.ref l,.int 0])) a l g 0:=⟨zb,G _ _ hl⟩;refine⟨_,rfl,a,l,g,0,rfl,b,⟨_,R⟩,λd ws H1 hd B I s1=>(dI d rfl ⟨_,SqL.of B⟩ (λz Y=>?_))⟩;have nz:d≠z:=zg B Y;refine qa (K:=K) (a:=d) (xs:=ws) (λi σ O=>∃(u0:Option V) (r:AE),σ=[u0,some (.str ⟨#[n]⟩),some (.ref a)]/\zx H1 O/\O z=some (.lst r)/\Cel O r (((Cells.zI zM 0 (codes g)).take i).filter λx=>decide (Cells.sgn (codes g) x=n)))
   (dH _ [] rfl (zc Y) zb (.nil)) (λi σ O _ ⟨_,_,_,v,_⟩=>SqL.of (v _ _ B)) ?_ ?_
  .refine λi x σ H2 hx=>fH λu0 r z0 v m e=>?_;subst z0;refine fU (λc L ca z0 J=>?_) (Cel.get (Cel.mono v I) hx);subst z0;refine gk (λk0 j u k ec M hj af=>?_) (Cells.yK (X8 L));refine fJ (λt ht z0=>?_) (ZO M);subst z0;rw[VQ]at ec;subst ec;refine⟨_,rfl,_,rfl,a,l,ca,g,0,k0,j,t,k,rfl,(b.mono s1).mono v,J,ht,hj,R.tlen ht,_,rfl,rfl,_,rfl,?_⟩;have es:Cells.sgn (codes g) (k0,j)=k:=Cells.Q9 M hj;have step:((Cells.zI zM 0 (codes g)).take (i+1)).filter (λx=>decide (Cells.sgn (codes g) x=n))=((Cells.zI zM 0 (codes g)).take i).filter (λx=>decide (Cells.sgn (codes g) x=n))++(if decide (k=n)=true then [(k0,j)] else []):=by
    rw[Xp,L,WF];congr 1;show O6 _ [(k0,j)]=_;rw[VO];try dsimp only
    rw[es];split<;>rfl
   have ed:decide (V.str ⟨#[k]⟩=V.str ⟨#[n]⟩)=decide (k=n):=by
    simp only[zbl]
   rw[ed];by_cases U:decide (k=n)=true
   .rw[bw U]at step;refine yD U ?_;have N:r.length<=64:=by
     rw[e.length];refine X6 (W7 _ _) ?_;rw[XJ];have h1:=Cells.qT zM 0 (codes g) R.short;have h2:=R.hi;rw[qV]at h1;lia
    refine⟨_,rfl,r,m,XM N (by decide),_,r++[.ref ca],rfl,λb' o e'=>?_,zb,?_⟩
    .have hb:b'≠z:=λy=>by
      subst y;rw[Y]at e';cases e'
     rw[zp hb];exact v _ _ e'
    .rw[step];exact Cel.into z _ m (Cel.snoc e ⟨ca,rfl,J⟩)
   .rw[bq U]at step;refine jE (by simpa using U) ?_;refine dH _ r rfl v m ?_;rw[step];simpa using e
  .refine λσ H2=>fH λu0 r z0 v m e=>?_;subst z0;rw[I.length,XD,Cells.all_filter (p:=zM) (q:=λk=>decide (k=n)) (codes g)]at e;exact q z r H2 ((G.trans s1).free Y) m e ((G.trans s1).trans v)
def zfC:zz ["field"] ["field"] (zq Zl):=bh
def zfD {j k m:Addr}{a b c:XH}(T:Txt mg)(D:zh K mg "stones_of" Zl ["field"] f fd)(e:zh K mg "cells_with" yf ["field","sign"] j a)(u:zh K mg "cells_of" qk ["board"] k b)(r:zh K mg "sign_at" qq ["board","cell"] m c) :
  qg P w K mg base CX0 3 f fd ["field"] zmJ:=by
 refine D.F.ok zfC (λp H Q E h=>?_) (λi A d s H p Q E o h=>?_)
 .revert h;refine fL λl g z0 _=>?_;subst z0;rfl
 .revert h;refine fH λl g z0 n R q=>?_;subst z0;refine⟨_,(zf (zF (pc0 (QY T e u r) o e (za (pvS 0) (za (jf (v:=.str "o") (by rfl) T.JD.choose_spec.1 (by exact⟨_,rfl⟩)) zd))))),?_⟩;(try dsimp only[cxK,cxP,cxW]);exact⟨_,rfl,l,g,111,by rw[zha];rfl,n,R,q⟩
def mw (a h0:Int):Int:=if a/(1+h0%8)<8 then a/(1+h0%8) else 8
def zrV {a h0:Int}(f:8<=a):1<=mw a h0/\mw a h0<=8/\(1+h0%8)*mw a h0<=a:=by
 have d:=V2 h0 (show (8:Int)≠0 by decide);have e:=V5 h0 (show (0:Int)<8 by decide);have b:0<1+h0%8:=by lia
 have g:1+h0%8<=8:=by lia
 unfold mw;generalize 1+h0%8=k at *
 by_cases c:a/k<8
 .rw[bw c];refine⟨(Po b).mpr (by lia),by lia,Int.mul_ediv_self_le (by lia)⟩
 .rw[bq c];have:=(Po b).mp (show 8<=a/k by lia);exact⟨by decide,by decide,by lia⟩
def fz (a:Str):Str:=(("o":Str)++a)++("#":Str)
def zor (a:Str):(fz a).cps.size=a.length+2:=by
 have e:(fz a).cps=(("o":Str).cps++a.cps)++("#":Str).cps:=rfl;rw[e,SV,SV];show 1+a.cps.size+1=a.cps.size+2;lia
def zqz {a:Str}(g:∀c∈a.cps.toList,c∈((".":Str)).cps.toList):∀c∈(fz a).cps.toList,c∈fdS.cps.toList:=by
 intro c hc;have e:(fz a).cps.toList=(("o":Str).cps.toList++a.cps.toList)++("#":Str).cps.toList:=by
  have e:(fz a).cps=(("o":Str).cps++a.cps)++("#":Str).cps:=rfl;rw[e,W4,W4]
 rw[e]at hc;have b:∀c∈("o":Str).cps.toList,c∈fdS.cps.toList:=by decide+kernel
 have d:∀c∈(".":Str).cps.toList,c∈fdS.cps.toList:=by decide+kernel
 have f:∀c∈("#":Str).cps.toList,c∈fdS.cps.toList:=by decide+kernel
 rcases XN.mp hc with hc | hc
 .rcases XN.mp hc with hc | hc
  .exact b c hc
  .exact d c (g c hc)
 .exact f c hc
def zos (K:XZ):Sp:=λf H Q _=>∃(a:Addr) (e:List Int) (b:Int),f=[.ref a,.int b]/\SqL K H a (e.map V.int)/\8<=b/\b<=64 /\
 ∀(l:Addr) (c:AD) (d:Hp),H l=none->d l=some (.lst (c.map V.str))->zx H d->Rows fdS.cps.toList c->(∀t∈c,((c.length*t.cps.size:Nat):Int)<=b)->Q (.ref l) d
def qc:zz ["_law_script","_law_most","_law_high","_law_wide","_law_signs","_law_rows","_law_row","_law_own","_law_text","_law_column","_law_place","_law_drawn"] ["_law_script","_law_most"] (zq Zo):=bh
def zfE {f1 f2:Addr}{aa ae:XH}(T:Txt mg)(D:zh K mg "_law_field" Zo ["_law_script","_law_most"] f fd)(J:zh K mg "_law_cell_at" yr ["_law_script","_law_k"] f1 aa)(Zu:zh K mg "_law_mixed" Ja ["_law_cell","_law_k"] f2 ae) :
  qg P w K mg base CX0 2 f fd ["_law_script","_law_most"] (zos K):=by
 have jQ:qg P w K mg base CX0 1 f1 aa ["_law_script","_law_k"] (zlU K):=Qi T J;refine D.F.ok qc (λvs H Q E h=>?_) (λah A ag s H vs Q E G h=>?_)
 .revert h;refine fR λa I z z0 _=>?_;subst z0;rfl
 .revert h;refine fV λa I m z0 Y m8 ak k=>?_;subst z0;refine⟨_,(@ze _ _ _ _ _ (@qG _ _ 2 _ _ _ _ qc.nd rfl (V4 rfl) (@zG _ _ _ _ _ _ _ _ jt zj (zG yx (pc0 jQ G J (za (pvS 0) (@za _ _ _ _ _ zj zd rfl))) zj)) (by rfl) (.inr rfl)) (@ze _ _ _ _ _ (@qG _ _ 3 _ _ _ _ qc.nd rfl (V4 rfl) (@zG _ _ _ _ _ _ _ _ jt zj (zG yx (pc0 jQ G J (za (pvS 0) (@za _ _ _ _ _ zj zd rfl))) (YZ (za7 rfl) (by rfl) T.zi6 T9 (@za _ _ _ _ _ zj (za (zG yJ (pvS 1) (pvS 2)) zd) rfl)))) (by rfl) (.inr rfl)) (@ze _ _ _ _ _ (@qG _ _ 4 _ _ _ _ qc.nd rfl (V4 rfl) (@zG _ _ _ _ _ _ _ _ Q2 (@zG _ _ _ _ _ _ _ _ Q2 yC (@zG _ _ _ _ _ _ _ _ zhE yC (@zG _ _ _ _ _ _ _ _ jt zj (zG yx (zG yJ (pc0 jQ G J (za (pvS 0) (@za _ _ _ _ _ zj zd rfl))) zj) zj)))) yC) (by rfl) (.inr rfl)) (@ze _ _ _ _ _ (@qG _ _ 5 _ _ _ _ qc.nd rfl (V4 rfl) (@zV _ _ _ _ zd) (by rfl) (.inr rfl)) (ze (qH Xf rfl (prg T.JB (pvS 2)) (pgq 6 qc.nd) (ze (qz 7 qc.nd (pc0 jQ G J (za (pvS 0) (@za _ _ _ _ _ (@zG _ _ _ _ _ _ _ _ jt zj (pvS 6)) zd rfl)))) (@ze _ _ _ _ _ (@qG _ _ 8 _ _ _ _ qc.nd rfl (V4 rfl) yC (by rfl) (.inr rfl)) (ze (qH Xf rfl (prg T.JB (pvS 3)) (pgq 9 qc.nd) (@ze _ _ _ _ _ (@qG _ _ 10 _ _ _ _ qc.nd rfl (V4 rfl) (@zG _ _ _ _ _ _ _ _ jt (@zG _ _ _ _ _ _ _ _ Zg zj (pvS 6)) (pvS 9)) (by rfl) (.inr rfl)) (ze (qz 11 qc.nd (pc0 (zfA Zu) G Zu (za (pc0 jQ G J (za (pvS 0) (@za _ _ _ _ _ (@zG _ _ _ _ _ _ _ _ jt zj (zG yx (pvS 10) zj)) zd rfl))) (za (pvS 10) zd)))) (ziM (qR (zO YW (zG yx (zG yJ (pc0 jQ G J (za (pvS 0) (@za _ _ _ _ _ zj zd rfl))) zj) zj) zj (qb _)) (ze (qz 11 qc.nd (pvS 7)) (zf (qz 7 qc.nd (zG yJ (pvS 7) (pb1 jg T.qI Xk (pvS 4)))))) (zf (qR (zO zhX (zG yx (zG yJ (pvS 11) zj) zj) zj (qb _)) (zf (qz 11 qc.nd (zG yx (pvS 11) (zG Jv (pb1 jg T.qI Xk (pvS 4)) zj)))) qd))) (zf (qz 8 qc.nd (zG Q2 (pvS 8) (zQ zaB (pvS 4) (zG yx (pvS 11) (pb1 jg T.qI Xk (pvS 4))) (λ_ _=>rfl))))))))) (zf (jC (JN WS Wm Wl jX (pvS 5) (za (pvS 8) zd)))))))) (zf (zF (pvS 5)))))))),?_⟩;(try dsimp only[cxK,cxP,cxW]);refine⟨_,rfl,a,I,_,rfl,Y,by decide,λh0=>⟨_,_,rfl,rfl,(by show (0:Int)<8;decide),_,_,rfl,rfl,?_⟩⟩;have e1:=V2 h0 (show (8:Int)≠0 by decide);have e2:=V5 h0 (show (0:Int)<8 by decide);refine fO (λw1 w2 w3=>?_) (zrV (h0:=h0) m8);refine⟨_,rfl,a,I,_,rfl,Y,by decide,λx=>⟨_,rfl,_,rfl,_,_,rfl,rfl,JP.small (by show (0:Int)<1+h0%8;lia) (by show 1+h0%8<(1073741824:Int);lia),_,_,rfl,_,_,rfl,rfl,(by show (0:Int)<mw m h0;lia),_,_,rfl,rfl,?_⟩⟩;have e3:=V2 x (show mw m h0≠0 by lia);have e4:=V5 x (show (0:Int)<mw m h0 by lia);refine⟨_,rfl,a,I,_,rfl,Y,by decide,λU=>?_⟩;have e5:=V2 (U/16) (show (5:Int)≠0 by decide);have e6:=V5 (U/16) (show (0:Int)<5 by decide);refine⟨_,_,rfl,rfl,JP.small (by decide) (by decide),_,_,rfl,rfl,(by show (0:Int)<5;decide),_,_,rfl,rfl,".",_,rfl,rfl,(by show (1:Int)<=1+U/16%5;lia),(by show 1+U/16%5<=(1000:Int);lia),by decide,λg dl dm=>?_⟩;have ai:g.length=(1+U/16%5).toNat:=by
   rw[dl];show 1*(1+U/16%5).toNat=_;lia
  have zs:=zor g;have zm:=zqz dm;have z1:3<=(fz g).cps.size:=by lia
  have z2:(fz g).cps.size<=7:=by lia
  refine fE _ _ rfl rfl ?_ _ _ rfl rfl ?_ ?_
  .exact X6 (show ("o":Str).length+g.length<=100 by show 1+g.length<=100;lia) (by decide)
  .refine X6 (show (("o":Str)++g).length+("#":Str).length<=100 from ?_) (by decide);have:(("o":Str)++g).length=1+g.length:=by
    show (("o":Str).cps++g.cps).size=_;rw[SV];rfl
   rw[this];show 1+g.length+1<=100;lia
  refine⟨x9,λl hl=>?_⟩;have s0:zx H (upd H l (.lst [])):=zc hl;refine⟨_,rfl,1+h0%8,rfl,by lia,by lia,?_⟩;refine yG (lo:=0) (n:=(1+h0%8).toNat) (λi N O=>∃(v6 v7 v8 M q r:Option V) (L:AD),N=[some (.ref a),some (.int m),some (.int (1+h0%8)),some (.int (1+x%mw m h0)),some (.str (fz g)),some (.ref l),v6,v7,v8,M,q,r]/\zx H O/\O l=some (.lst (L.map V.str))/\L.length=i/\∀t∈L,Row (fz g).cps.toList (1+x%mw m h0).toNat t)
   (fC _ _ _ _ _ _ [] rfl s0 zb rfl (λ_ h=>nomatch h)) ?_ ?_
  .refine λi N H1 hi=>fM λv6 v7 v8 M=>fV λq r L z0 s1 y v p=>?_;subst z0;refine⟨_,rfl,_,rfl,_,_,rfl,rfl,a,I,_,rfl,s1.seq Y,by lia,λown=>?_⟩;refine⟨_,rfl,1+x%mw m h0,rfl,by lia,by lia,?_⟩;refine yG (lo:=0) (n:=(1+x%mw m h0).toNat) (λj N O=>∃(M q r:Option V) (o:Int) (t:Str),N=[some (.ref a),some (.int m),some (.int (1+h0%8)),some (.int (1+x%mw m h0)),some (.str (fz g)),some (.ref l),some (.int (0+i)),some (.int o),some (.str t),M,q,r]/\O=H1/\Row (fz g).cps.toList j t)
    (dO _ _ _ own (dI _ rfl rfl ⟨rfl,λ_ h=>nomatch h⟩)) ?_ ?_
   .refine λj N H2 hj=>fM λM q r o=>fP λt z0 z1 B=>?_;subst z0 z1;refine⟨_,rfl,_,_,rfl,rfl,mulL (by decide) (by decide),_,rfl,_,_,rfl,rfl,?_⟩;have af:(0:Int)<=8*(0+i)+(0+j):=by lia
    have aj:8*(0+(i:Int))+(0+j)<=1000:=by lia
    have q0:=V2 (8*(0+(i:Int))+(0+j)) (show (59:Int)≠0 by decide);refine⟨_,rfl,_,rfl,_,_,rfl,rfl,(by show (0:Int)<59;decide),_,_,rfl,rfl,a,I,_,rfl,s1.seq Y,by lia,λc=>⟨_,rfl,_,_,rfl,af,by lia,λd=>?_⟩⟩;refine⟨fun ac O=>∃(o d:Int),ac=[some (.ref a),some (.int m),some (.int (1+h0%8)),some (.int (1+x%mw m h0)),some (.str (fz g)),some (.ref l),some (.int (0+i)),some (.int o),some (.str t),some (.int (0+j)),some (.int (8*(0+i)+(0+j))),some (.int d)]/\O=H2,?_,?_⟩
    .refine⟨_,rfl,a,I,_,rfl,s1.seq Y,by decide,λc0=>⟨_,_,rfl,rfl,JP.small (by decide) (by decide),_,_,rfl,rfl,(by show (0:Int)<2;decide),rfl,_,rfl,zaq (λ_=>?_) (λ_=>?_)⟩⟩
     .refine⟨_,rfl,_,rfl,_,rfl,fz g,rfl,?_,_,_,rfl,rfl,?_,?_⟩
      .exact X6 z2 (by decide)
      .exact JP.small (by show (0:Int)<((fz g).cps.size:Nat);lia) (by show (((fz g).cps.size:Nat):Int)<1073741824;lia)
      .exact eW _ _ rfl rfl
     .refine⟨_,rfl,_,_,rfl,rfl,JP.small (by decide) (by decide),_,_,rfl,rfl,(by show (0:Int)<3;decide),_,_,rfl,rfl,_,rfl,zaq (λ_=>?_) (λ_=>?_)⟩
      .refine⟨_,rfl,_,rfl,fz g,rfl,X6 z2 (by decide),_,_,rfl,rfl,_,_,rfl,rfl,(by show (0:Int)<((fz g).cps.size:Nat)-1;lia),?_⟩;exact eW _ _ rfl rfl
      .exact eW _ _ rfl rfl
    refine λac H3=>fL λo' d' z0 z1=>?_;subst z0 z1;have m0:=V2 d' (show (((fz g).cps.size:Nat):Int)≠0 by lia);have m1:=V5 d' (show (0:Int)<(((fz g).cps.size:Nat):Int) by lia);have ab:(d'%(((fz g).cps.size:Nat):Int)).toNat<(fz g).cps.toList.length:=by
     rw[X4];lia
    refine⟨_,rfl,_,rfl,_,rfl,_,rfl,fz g,rfl,X6 z2 (by decide),_,_,rfl,rfl,(by show (0:Int)<((fz g).cps.size:Nat);lia),fz g,_,(fz g).cps.toList[(d'%(((fz g).cps.size:Nat):Int)).toNat],rfl,rfl,X6 z2 (by decide),Y0 m0 (X0 ab),t,_,rfl,rfl,?_,?_⟩
    .have e5:t.length=j:=B.len;rw[e5];show j+1<=Xz;exact X6 (show j+1<=80 by lia) (by decide)
    .exact dO _ _ _ o' (dI _ rfl rfl (B.more (TH ab)))
   .refine λN H2=>fM λM q r o=>fP λt z0 z1 B=>?_;subst z0 z1;refine⟨_,rfl,.inl ⟨rfl,_,SqL.of y⟩,_,rfl,l,_,_,rfl,rfl,y,?_,?_⟩
    .rw[ZB,v];exact Xn (show i<9 by lia) (by decide)
    .refine fC _ _ _ _ _ _ (L++[t]) rfl (λb o e=>?_) ?_ ?_ ?_
     .rw[zp (zg e hl)];exact s1 b o e
     .rw[zb,XA];rfl
     .rw[XX,v];rfl
     .intro u hu;rcases XN.mp hu with hu | hu
      .exact p u hu
      .have e6:u=t:=by simpa using hu
       rw[e6];exact B
  .refine λN H1=>fM λv6 v7 v8 M=>fV λq r L z0 s1 y v p=>?_;subst z0;refine⟨_,rfl,k l L H1 hl y s1 ⟨by lia,by lia,(1+x%mw m h0).toNat,by lia,by lia,λt ht=>⟨(p t ht).len,λc hc=>zm c ((p t ht).mem c hc)⟩⟩ λt ht=>?_⟩;rw[(p t ht).len,v];have a1:(((1+h0%8).toNat*(1+x%mw m h0).toNat:Nat):Int)=(1+h0%8)*(1+x%mw m h0):=by
    rw[Int.natCast_mul,UD (by lia),UD (by lia)]
   rw[a1];exact Wx (Int.mul_le_mul_of_nonneg_left (show 1+x%mw m h0<=mw m h0 by lia) (by lia)) w3
def pIn (z:Str)(k:Nat):Bool:=!(Us z ⟨#[k]⟩ 0 z.length 1).isEmpty
def zmK:Sp:=λf H Q _=>∃(l:Addr) (b:AD) (z:Str) (e:List Nat),f=[.ref l,.str z]/\H l=some (.lst (b.map V.str))/\Rows e b /\
 ∀(d:Addr) (c:AE) (a:Hp),H d=none->a d=some (.lst c)->Cel a c (Cells.zI (pIn z) 0 (codes b))->zx H a->Q (.ref d) a
def zo8 {α:Type}{xs:List α}{j:Nat}{v:α}(h:xs[j]?=some v):atI xs (0+(j:Int))=some v:=by
 rw[R3];exact yU h
def JF:zz ["_law_rows","_law_signs","_law_found","_law_row","_law_column"] ["_law_rows","_law_signs"] (zq Zp):=bh
def zfF (T:Txt mg)(D:zh K mg "_law_cells" Zp ["_law_rows","_law_signs"] f fd):qg P w K mg base CX0 1 f fd ["_law_rows","_law_signs"] zmK:=by
 refine D.F.ok JF (λvs H Q E h=>?_) (λaf A ae s H vs Q E hr h=>?_)
 .revert h;refine gq λl b z sg z0 _=>?_;subst z0;rfl
 .revert h;refine gk λl b z sg z0 hl R q=>?_;subst z0;refine⟨_,(@ze _ _ _ _ _ (@qG _ _ 2 _ _ _ _ JF.nd rfl (V4 rfl) (@zV _ _ _ _ zd) (by rfl) (.inr rfl)) (ze (qH Xf rfl (prg T.JB (pb1 zH T.qI Xk (pvS 0))) (pgq 3 JF.nd) (zf (qH Xf rfl (prg T.JB (pb1 jg T.qI Xk (zQ jO (pvS 0) zj (λ_ _=>rfl)))) (pgq 4 JF.nd) (zf (qR (zO zjM (zQ zaB (zQ jO (pvS 0) (pvS 3) (λ_ _=>rfl)) (pvS 4) (λ_ _=>rfl)) (pvS 1) (by rfl)) (zf (jC (JN WS Wm Wl jX (pvS 2) (za (qj (za (pvS 3) (za (pvS 4) zd))) zd)))) qd))))) (zf (zF (pvS 2))))),?_⟩;(try dsimp only[cxK,cxP,cxW]);refine⟨x9,λd U=>?_⟩;have s0:zx H (upd H d (.lst [])):=zc U;refine fP (λB w1 w8 m=>?_) R.ex;have ah:=R.lo;have ag:=R.hi;refine⟨_,rfl,l,_,rfl,.inl (SqL.of (s0 _ _ hl)),_,rfl,by lia,?_,?_⟩
  .rw[ZB];lia
  refine yG (lo:=0) (n:=(((b.map V.str).length:Nat):Int).toNat) (λi G r=>∃(v3 y:Option V) (a:AE),G=[some (.ref l),some (.str z),some (.ref d),v3,y]/\zx H r/\r d=some (.lst a)/\Cel r a (Cells.zI (pIn z) 0 ((codes b).take i)))
   (dN _ _ [] rfl s0 zb (.nil)) ?_ ?_
  .refine λi G H1 hi=>fY λv3 y a z0 s1 v k=>?_;subst z0;have Y:i<b.length:=by
    rw[ZB]at hi;lia
   obtain⟨t,L⟩:∃t,b[i]?=some t:=⟨_,X0 Y⟩;obtain⟨N,x⟩:∃t,b[0]?=some t:=⟨_,X0 (by lia)⟩;have tl:t.length=B:=(m t (X8 L)).len;have J:N.length=B:=(m N (X8 x)).len;refine⟨_,rfl,l,_,0,V.str N,rfl,rfl,SqL.of (s1 _ _ hl),Y0 (by decide) (by rw[Xv];exact congrArg _ x),N,rfl,R.tlen x,_,rfl,by lia,?_,?_⟩
   .rw[J];lia
   rw[J];refine yG (lo:=0) (n:=((B:Nat):Int).toNat) (λj G r=>∃(y:Option V) (a:AE),G=[some (.ref l),some (.str z),some (.ref d),some (.int (0+i)),y]/\zx H r/\r d=some (.lst a)/\Cel r a (Cells.zI (pIn z) 0 ((codes b).take i)++Cells.zZ (pIn z) i 0 (t.cps.toList.take j)))
    (dH _ a rfl s1 v (by simpa[Cells.zZ] using k)) ?_ ?_
   .refine λj G O hj=>fH λy a z0 I g e=>?_;subst z0;have aa:j<t.cps.toList.length:=by
     have:t.cps.size=B:=tl;rw[X4];lia
    obtain⟨c,hc⟩:∃c,t.cps.toList[j]?=some c:=⟨_,X0 aa⟩;have ab:atI (b.map V.str) (0+(i:Int))=some (V.str t):=zo8 (by rw[Xv,L];rfl);have st:=Cells.Q7 (p:=pIn z) (i:=i) hc;have len:a.length<=64:=by
     rw[e.length,XX];have h1:=Cells.qT (pIn z) 0 ((codes b).take i) λu hu=>R.short u (VW hu);have h2:=Cells.jF (pIn z) i 0 (t.cps.toList.take j);rw[XJ,qV]at h1;rw[XJ]at h2;lia
    refine⟨_,rfl,_,rfl,l,_,_,_,rfl,rfl,SqL.of (I _ _ hl),ab,_,rfl,t,_,c,rfl,rfl,R.tlen L,zo8 hc,_,rfl,_,_,rfl,rfl,_,rfl,?_⟩;refine zaq (λkd=>?_) (λkd=>?_)
    .rw[bw (show pIn z c=true from kd)]at st;refine⟨_,rfl,.inl ⟨rfl,_,SqL.of g⟩,_,rfl,_,rfl,yp,λtp ac=>?_⟩;have M:zx O (upd O tp (.tup [.int (0+i),.int (0+j)])):=zc ac;refine⟨d,_,_,rfl,rfl,M _ _ g,XM len (by decide),?_⟩;refine dH _ (a++[.ref tp]) rfl (λb' o e'=>?_) zb ?_
     .rw[zp (zg e' U)];exact M _ _ (I _ _ e')
     .rw[st,<- WL];refine Cel.into d _ (M _ _ g) (Cel.snoc (Cel.mono M e) ⟨tp,rfl,?_⟩);rw[zb,R3,R3]
    .rw[bq (show ¬ pIn z c=true from kd),WV]at st;refine dH _ a rfl I g ?_;rw[st];exact e
   .refine λG O=>fH λy a z0 I g e=>?_;subst z0;have full:t.cps.toList.take ((B:Nat):Int).toNat=t.cps.toList:=by
     have:t.cps.size=B:=tl;rw[show (((B:Nat):Int)).toNat=t.cps.toList.length by rw[X4];lia,XD]
    rw[full]at e;exact dN _ _ a rfl I g (by rw[Cells.Q8 (qD L)];exact e)
  .refine λG H1=>fY λv3 y a z0 s1 v k=>?_;subst z0;have full:(codes b).take (((b.map V.str).length:Nat):Int).toNat=codes b:=by
    rw[show ((((b.map V.str).length:Nat):Int)).toNat=(codes b).length by rw[ZB,qV];lia,XD]
   rw[full]at k;exact⟨_,rfl,q d a H1 U v k s1⟩
def dig (a:KV1)(c:AA)(k:Nat):Nat:=match qK a (qC c) with
 | some (.int v)=>48+v.toNat
 | _=>k
structure Nums (cs:AB)(N:Nat)(kvs:KV1):Prop where
 vals:∀kv∈kvs,∃c∈cs,∃v:Nat,v<=8/\kv.1=qC c/\kv.2=V.int (v:Nat)
 nd:(kvs.map (·.1)).Nodup
 len:kvs.length<=N
def Nums.at {cs:AB}{N:Nat}{a:KV1}(h:Nums cs N a)(c:AA):qK a (qC c)=none\/∃v:Nat,v<=8/\c∈cs/\qK a (qC c)=some (V.int (v:Nat)):=by
 cases e:qK a (qC c) with
 | none=>exact .inl rfl
 | some v =>
  refine fJ (λk i=>fP λn j d f=>?_) (h.vals _ (zgW e));have g:=Qm d;subst g;have b:v=V.int (n:Nat):=f;subst b;exact .inr ⟨n,j,i,rfl⟩
def Nums.nil (cs:AB)(N:Nat):Nums cs N []:=⟨(λ_ h=>nomatch h),VA,W3 _⟩
def zot {a:KV1}{k:List Key}{v:V}{b:List Key×V}(h:b∈putK a k v):b∈a\/b=(k,v):=by
 unfold putK at h;split at h
 .obtain⟨x,c,e⟩:=XG.mp h;by_cases hk:x.1=k
  .rw[bw hk]at e;exact .inr (by rw[<- e,hk])
  .rw[bq hk]at e;exact .inl (by rw[<- e];exact c)
 .rcases XN.mp h with h | h
  .exact .inl h
  .exact .inr (by simpa using h)
def Nums.put {cs:AB}{N:Nat}{d:KV1}(h:Nums cs N d){k:List Key}{w:V}(hk:∃c∈cs,∃v:Nat,v<=8/\k=qC c/\w=V.int (v:Nat)):Nums cs (N+1) (putK d k w):=by
 refine⟨λm f=>?_,?_,?_⟩
 .rcases zot f with h1 | h1
  .exact h.vals m h1
  .subst h1;exact hk
 .rcases zc2 d k w with ⟨_,e⟩ | ⟨l,e⟩
  .rw[e];exact h.nd
  .rw[e,WK];refine⟨h.nd,by simp,λa i b j e=>l ?_⟩;have g:b=k:=by simpa using j
   rw[<- g,<- e];exact i
 .have:=x6 d k w;have:=h.len;lia
def jI (a:KV1)(i:Nat)(t:List Nat):List Nat:=t.mapIdx λj c=>dig a (i,j) c
def zou (a:KV1)(i:Nat)(t:Str):Str:=⟨(jI a i t.cps.toList).toArray⟩
def zbQ (a:KV1)(rs:AD):AD:=rs.mapIdx λi t=>zou a i t
def zbt (a:KV1)(i:Nat)(t:Str):(zou a i t).cps.toList=jI a i t.cps.toList:=by
 show (jI a i t.cps.toList).toArray.toList=_;rw[OC]
def zjw {a b:Str}(h:a.cps.toList=b.cps.toList):a=b:=by
 obtain⟨⟨x⟩⟩:=a;obtain⟨⟨y⟩⟩:=b;have:x=y:=h;rw[this]
def zdd {a:KV1}{rs:AD}{i:Nat}{t:Str}(h:rs[i]?=some t):(zbQ a rs)[i]?=some (zou a i t):=by
 unfold zbQ;rw[OR,h];rfl
def JL (a:KV1)(rs:AD):(zbQ a rs).length=rs.length:=by
 unfold zbQ;rw[Vp]
def zbu {a:KV1}{i j c:Nat}{t:List Nat}(h:t[j]?=some c):(jI a i t)[j]?=some (dig a (i,j) c):=by
 unfold jI;rw[OR,h];rfl
def zqA:∀v:Nat,v<=8->48+v∈bd.cps.toList:=by decide+kernel
def Rows.put {cs:AB}{N:Nat}{a:KV1}(h:Nums cs N a){rs:AD}(R:Rows bd.cps.toList rs):Rows bd.cps.toList (zbQ a rs):=by
 obtain⟨n,s,w,p⟩:=R.ex;refine⟨by rw[JL];exact R.lo,by rw[JL];exact R.hi,n,s,w,λt q=>?_⟩;obtain⟨i,b⟩:=Sd q;cases e:rs[i]? with
 | none =>
  have h0:=UQ.mp e;rw[UQ.mpr (by rw[JL];exact h0)]at b;cases b
 | some u =>
  rw[zdd e]at b;have o:=Option.some.inj b;subst o;have l:=p u (X8 e);refine⟨?_,λc g=>?_⟩
  .rw[<- X4,zbt];unfold jI;rw[Vp,X4];exact l.len
  .rw[zbt]at g;obtain⟨j,d⟩:=Sd g;cases e2:u.cps.toList[j]? with
   | none =>
    have h0:=UQ.mp e2;rw[UQ.mpr (by unfold jI;rw[Vp];exact h0)]at d;cases d
   | some k =>
    rw[zbu e2]at d;have m:=Option.some.inj d;subst m;unfold dig;rcases h.at (i,j) with f | ⟨v,r,_,f⟩
    .rw[f];exact l.mem k (X8 e2)
    .rw[f];exact zqA v r
def zmL:Sp:=λg H Q _=>∃(p l d:Addr) (c:AD) (n:Int) (f:AB) (N:Nat) (a:KV1),g=[.ref p,.ref d]/\qf H p l c n/\Rows bd.cps.toList c/\H d=some (.dT a)/\Nums f N a /\
 ∀(q e:Addr) (b:Hp),H q=none->H e=none->qf b q e (zbQ a c) n->zx H b->Q (.ref q) b
theorem join_ones:∀cs:List Nat,(Ue "" (cs.map λc=>(⟨#[c]⟩:Str))).cps.toList=cs
 | []=>rfl
 | [c]=>rfl
 | c::e::r=>by
  have h:(Ue "" ((c::e::r).map λc=>(⟨#[c]⟩:Str))).cps=#[c]++("":Str).cps++(Ue "" ((e::r).map λc=>(⟨#[c]⟩:Str))).cps:=rfl;rw[h,W4,W4,join_ones (e::r)];rfl
def zkN (a:KV1)(i:Nat)(t:Str):Ue "" ((jI a i t.cps.toList).map λc=>(⟨#[c]⟩:Str))=zou a i t:=zjw (by rw[join_ones,zbt])
def zqB:∀d:Nat,d<=8->((toString (d:Int):String):Str)=⟨#[48+d]⟩:=by decide+kernel
theorem zhb:∀cs:List Nat,((cs.map λc=>(⟨#[c]⟩:Str)).map (·.length)).sum=cs.length
 | []=>rfl
 | c::r=>by
  rw[Xw,Xw,Ts,zhb r,Xi];show 1+r.length=_;lia
def Z5:zz ["board","numbers","rows","row","text","signs"] ["board","numbers"] (zq zaH):=bh
def zkO (T:Txt mg)(D:zh K mg "opened" zaH ["board","numbers"] f fd):qg P w K mg base CX0 1 f fd ["board","numbers"] zmL:=by
 refine D.F.ok Z5 (λvs H Q E h=>?_) (λal A ai s H vs Q E hr h=>?_)
 .revert h;refine fQ λp l d G n cs N a=>fN λz0 _=>?_;subst z0;rfl
 .revert h;refine fQ λp l d G n cs N a=>gc λz0 b R hd hN q=>?_;subst z0;refine⟨_,(@ze _ _ _ _ _ (@qG _ _ 2 _ _ _ _ Z5.nd rfl (V4 rfl) (@zV _ _ _ _ zd) (by rfl) (.inr rfl)) (ze (qH Xf rfl (yW (by rfl) T.qN (za (zQ qi (pvS 0) zj (λ_ _=>rfl)) zd)) (xq rfl (zP (pgq 3 Z5.nd) (zP (pgq 4 Z5.nd) jr))) (ze (psC 5 Z5.nd ["column","sign","numbers","row"] [none,none,some 1,some 3] cR (zf2 (by rfl) T.qN (za (pvS 4) zd)) (zb7 (n:=2) (K:=K) (by rfl) rfl (zP (pgN 0) (zP (pgN 1) jr))) qh (pt1 zgi T.zrz PyProof.Rows.boot_str (zgd (u1 hr.units) (pvS 2) (qj (za (pvS 3) (za (pvS 0) zd))) (pvS 1) ⟨rfl,rfl,rfl,rfl⟩))) (zf (jC (JN WS Wm Wl jX (pvS 2) (@za _ _ _ _ _ (@JN _ _ _ _ _ _ _ _ _ _ _ _ PySem.F.plainAttrs_str PySem.F.slot_str_join PySem.F.type_str_join zny yC (za (pvS 5) zd) (by rfl) (by rfl) (by rfl) (by rfl) (by rfl)) zd rfl)))))) (zf (zF (qj (za (pvS 2) (za (zQ qi (pvS 0) zj (λ_ _=>rfl)) zd))))))),?_⟩;(try dsimp only[cxK,cxP,cxW]);refine⟨x9,λB u=>?_⟩;have s0:zx H (upd H B (.lst [])):=zc u;have an:=R.hi;refine⟨_,rfl,p,_,0,_,rfl,rfl,SqT.of (b.mono s0).tp,rfl,l,rfl,⟨_,SqL.of (b.mono s0).rw⟩,?_⟩;refine yH (K:=K) (l:=l) (xs:=G.map V.str) (λi r y=>∃(v3 v4 v5:Option V),r=[some (.ref p),some (.ref d),some (.ref B),v3,v4,v5]/\zx H y/\y B=some (.lst (((zbQ a G).take i).map V.str)))
   (fG _ _ (dI _ rfl s0 zb)) (λi r y _ ⟨_,_,_,_,s1,_⟩=>SqL.of (b.mono s1).rw) ?_ ?_
  .refine λi x tt r H1 hx ag=>gi λv3 v4 v5 z0 s1 g=>?_;subst z0;rw[Xv]at hx;cases e:G[i]? with
   | none =>
    rw[e]at hx;cases hx
   | some t =>
    rw[e]at hx;cases hx;have ak:t.cps.toList.length<=8:=R.short _ (X8 (qD e));have am:i<G.length:=(X5.mp e).1;have st:zx H1 (upd H1 tt (.tup [.int (i:Nat),.str t])):=zc ag;refine dW tt _ rfl (SqT.of zb) rfl _ _ rfl _ _ rfl rfl ?_;have s2:=s1.trans st;have U:=st _ _ g;generalize upd H1 tt (.tup [.int (i:Nat),.str t])=H2 at *
    refine⟨_,rfl,t,rfl,λz hz=>?_⟩;refine zcv (x:=t) (λj r y=>∃(u0 u1:Option V),r=[u0,u1,some (.ref d),some (.int (i:Nat))]/\zx H2 y/\y z=some (.lst (((jI a i t.cps.toList).take j).map λc=>V.str ⟨#[c]⟩))) (dM _ _ rfl (zc hz) zb) ?_ ?_
    .refine λj c t2 r J hc af=>fK λu0 u1 z0 I m=>?_;subst z0;have ae:t.cps.toList[j]?=some c:=by rw[Xy];exact hc
     refine dW t2 _ rfl (SqT.of zb) rfl _ _ rfl _ _ rfl rfl ?_;have s4:zx J (upd J t2 (.tup [.int (j:Nat),.str ⟨#[c]⟩])):=zc af;have Y:=s4 _ _ (I _ _ (s2 _ _ hd));have ah:=s4 _ _ m;have aj:=I.trans s4;generalize upd J t2 (.tup [.int (j:Nat),.str ⟨#[c]⟩])=H4 at *
     unfold zk6;refine zdq ⟨_,rfl,d,rfl,.inr ⟨a,.inl Y⟩,_,rfl,_,rfl,yp,λtp ab=>⟨_,rfl,qK a (qC (i,j)),?_,?_⟩⟩
     .exact Q5.t (k:=qC (i,j)) (zc ab _ _ Y) zb
     have s5:=zc (o:=.tup [.int (i:Nat),.int (j:Nat)]) ab;have O:∀k:Nat,k=dig a (i,j) c->∃ys,upd H4 tp (.tup [.int (i:Nat),.int (j:Nat)]) z=some (.lst ys)/\ys.length<Xz/\∃(u0 u1:Option V),[some (V.int (j:Nat)),some (V.str ⟨#[c]⟩),some (.ref d),some (.int (i:Nat))]=[u0,u1,some (.ref d),some (.int (i:Nat))]/\zx H2 (upd (upd H4 tp (.tup [.int (i:Nat),.int (j:Nat)])) z (.lst (ys++[V.str ⟨#[k]⟩])))/\upd (upd H4 tp (.tup [.int (i:Nat),.int (j:Nat)])) z (.lst (ys++[V.str ⟨#[k]⟩])) z=some (.lst (((jI a i t.cps.toList).take (j+1)).map λc=>V.str ⟨#[c]⟩)):=λk hk=>by
      refine dI _ (s5 _ _ ah) ?_ (dM _ _ rfl (λb' o L=>?_) ?_)
      .rw[ZB,XJ];unfold jI;rw[Vp];exact XM (show _<=8 by lia) (by decide)
      .rw[zp (zg L hz)];exact s5 _ _ (aj _ _ L)
      .rw[zb,take_snoc (zbu ae),XA,hk];rfl
     rcases hN.at (i,j) with M | ⟨v,hv,_,M⟩
     .rw[M];exact dM _ _ rfl (.inl rfl) (O c (by unfold dig;rw[M]))
     .rw[M];refine dM _ ⟨#[48+v]⟩ rfl (.inr ⟨(v:Nat),rfl,?_,(zqB v hv).symm⟩) (O (48+v) (by unfold dig;rw[M];rfl));have:∀v:Nat,v<=8->((v:Nat):Int).natAbs.log2<1920:=by decide+kernel
      exact this v hv
    .refine λr J=>fK λu0 u1 z0 I m=>?_;subst z0;have ez:(jI a i t.cps.toList).take t.cps.size=jI a i t.cps.toList:=WD (by unfold jI;rw[Vp,X4];exact XW _);rw[ez]at m;have ac:J z=some (.lst (((jI a i t.cps.toList).map λc=>(⟨#[c]⟩:Str)).map V.str)):=by
      rw[m,Wo];rfl
     have pl:(jI a i t.cps.toList).length<=8:=by
      unfold jI;rw[Vp];exact ak
     refine⟨_,rfl,.inl ⟨rfl,_,SqL.of (I _ _ U)⟩,rfl,_,rfl,"",z,_,rfl,rfl,SqL.of ac,?_,B,_,_,rfl,rfl,I _ _ U,?_,?_⟩
     .rw[zhb,ZB];have:("":Str).length=0:=rfl;rw[this];lia
     .rw[ZB,XJ,JL];exact XM (show _<=8 by lia) (by decide)
     .rw[zkN];refine fG _ _ (dI _ rfl (λb' o L=>?_) ?_)
      .rw[zp (zg L u)];exact I _ _ (s2 _ _ L)
      .rw[zb,take_snoc (zdd e),XA];rfl
  .refine λr H1=>gi λv3 v4 v5 z0 s1 g=>?_;subst z0;rw[ZB,<- JL a G,XD]at g;refine⟨_,rfl,_,rfl,p,_,1,_,rfl,rfl,SqT.of (b.mono s1).tp,rfl,yp,λq2 aa=>?_⟩;have s2:=zc (o:=.tup [.ref B,.int n]) aa;exact q q2 B _ (s1.free aa) u ⟨zb,s2 _ _ g⟩ (s1.trans s2)
def swC (c d k:Nat):Nat:=if k=c then d else k
def zjx {c d:Nat}{l:List Nat}(h:c ∉ l):l.map (swC c d)=l:=by
 induction l with
 | nil=>rfl
 | cons a r b =>
  rw[Xw,b λz=>h (XU _ z)];unfold swC;rw[bq λz:a=c=>h (z ▸ XT)]
def zov (c d:Nat)(ps:AD)(h:∀p∈ps,c ∉ p.cps.toList):(Ue ⟨#[c]⟩ ps).cps.toList.map (swC c d)=(Ue ⟨#[d]⟩ ps).cps.toList:=by
 induction ps with
 | nil=>rfl
 | cons p r b =>
  cases r with
  | nil=>exact zjx (h p XT)
  | cons q r =>
   have b:=b λa g=>h a (XU _ g);have e:∀z:Str,(Ue z (p::q::r)).cps.toList=p.cps.toList++z.cps.toList++(Ue z (q::r)).cps.toList:=λz=>by
    have e:(Ue z (p::q::r)).cps=p.cps++z.cps++(Ue z (q::r)).cps:=rfl;rw[e,W4,W4]
   rw[e,e,XA,XA,b,zjx (h p XT)];have f:(⟨#[c]⟩:Str).cps.toList.map (swC c d)=(⟨#[d]⟩:Str).cps.toList:=by
    show [swC c d c]=[d];unfold swC;rw[bw rfl]
   rw[f]
def Qo (x:Str)(c d:Nat):(UL x ⟨#[c]⟩ ⟨#[d]⟩).cps.toList=x.cps.toList.map (swC c d):=by
 rw[StrLaws.replace_one,<- zov c d _ (StrLaws.split_free x c),StrLaws.join_split]
def Qp (k:Nat):Nat:=if k=35 then 35 else 63
def QF (t:Str):Str:=⟨(t.cps.toList.map Qp).toArray⟩
def Zz (rs:AD):AD:=rs.map QF
def zil:(".":Str)=⟨#[46]⟩:=by decide+kernel
def zeB:∀k∈fdS.cps.toList,swC 111 63 (swC 46 63 k)=Qp k/\Qp k∈bs.cps.toList:=by decide+kernel
def zhc (t:Str):(QF t).cps.toList=t.cps.toList.map Qp:=rfl
def zqC {n:Nat}{t:Str}(r:Row fdS.cps.toList n t):UL (UL t "." "?") "o" "?"=QF t:=by
 apply zjw;rw[zil,zha,zcQ,Qo,Qo,zhc,Wo];exact Wi λk hk=>(zeB k (r.mem k hk)).1
def zow {n:Nat}{t:Str}(r:Row fdS.cps.toList n t):Row bs.cps.toList n (QF t):=by
 refine⟨?_,λc a=>?_⟩
 .show (t.cps.toList.map Qp).toArray.size=n;rw[Xq,ZB,X4];exact r.len
 .rw[zhc]at a;obtain⟨k,hk,rfl⟩:=XG.mp a;exact(zeB k (r.mem k hk)).2
def zde {rs:AD}(R:Rows fdS.cps.toList rs):Rows bs.cps.toList (Zz rs):=by
 obtain⟨e,f,n,c,d,h⟩:=R;refine⟨?_,?_,n,c,d,λt a=>?_⟩
 .unfold Zz;rw[ZB];exact e
 .unfold Zz;rw[ZB];exact f
 .obtain⟨u,b,rfl⟩:=XG.mp a;exact zow (h u b)
def zdf {b:List Nat}{p:Nat->Bool}{rs:AD}(R:Rows b rs):(Cells.zI p 0 (codes rs)).length<=64:=by
 have h1:=Cells.qT p 0 (codes rs) λu a=>R.short u a;have h2:=R.hi;rw[qV]at h1;lia
def zo9:∀c∈bs.cps.toList,c∈bd.cps.toList:=by decide+kernel
def stC (rs:AD):AB:=Cells.zI (λc=>zM c&&decide (c=111)) 0 (codes rs)
def Z6 (rs:AD)(c:AA):Nat:=((stC rs).filter λx=>Cells.near x c).length
def zmM {l:AB}(h:l.Nodup)(c:AA):(l.filter λx=>Cells.near x c).length<=8:=by
 obtain⟨i,j⟩:=c;refine((h.sublist W2).length_le_of_subset (l₂:=[(i-1,j-1),(i-1,j),(i-1,j+1),(i,j-1),(i,j+1),(i+1,j-1),(i+1,j),(i+1,j+1)]) λx g=>?_);obtain⟨a,b⟩:=x;obtain⟨⟨h1,h2⟩,⟨d,e⟩,f⟩:=(Cells.ZJ _ _).mp (XO.mp g).2;simp only[Ri]at h1 h2 d e f;simp only[XI,Ri,VE,or_false];lia
def zkP (p:Nat->Bool)(gs:List (List Nat)):(Cells.zI p 0 gs).Nodup:=(Cells.jv p 0 gs).imp λ{a b} h e=>by
 subst e;rcases h with h | h<;>lia
def zfG (rs:AD)(c:AA):Z6 rs c<=8:=zmM (zkP _ _) c
theorem zjy (i:Nat):∀(j:Nat) (t:List Nat),Cells.zZ zM i j (t.map Qp)=Cells.zZ zM i j t
 | _,[]=>rfl
 | j,k::r=>by
  have e:zM (Qp k)=zM k:=by
   unfold zM Qp;by_cases h:k=35
   .rw[bw h,h]
   .rw[bq h,bf h];rfl
  simp only[Xw,Cells.zZ,e,zjy i (j+1) r]
theorem zfH:∀(i:Nat) (rs:AD),Cells.zI zM i (codes (Zz rs))=Cells.zI zM i (codes rs)
 | _,[]=>rfl
 | i,t::r=>by
  have e:codes (Zz (t::r))=t.cps.toList.map Qp::codes (Zz r):=rfl;have a:codes (t::r)=t.cps.toList::codes r:=rfl;rw[e,a];simp only[Cells.zI,zjy,zfH (i+1) r]
def zhd (rs:AD):(Cells.zI zM 0 (codes rs)).filter (λx=>decide (x∈stC rs))=stC rs:=by
 unfold stC;rw[<- Cells.all_filter (p:=zM) (q:=λk=>decide (k=111)) (codes rs)];refine Vc λx a=>?_;rw[Wh,bu,XO];exact⟨λh=>h.2,λh=>⟨a,h⟩⟩
def zdg (rs:AD)(c:AA):((zK (Zz rs) c).filter λx=>decide (x∈stC rs)).length=Z6 rs c:=by
 unfold zK Z6;rw[zfH,UU];conv=>rhs;rw[<- zhd rs,UU]
 congr 1;refine Vc λx _=>?_;exact Bool.and_comm _ _
def zdN (rs:AD)(cs:AB):KV1:=cs.foldl (λa c=>putK a (qC c) (V.int (Z6 rs c:Nat))) []
def zkQ (rs:AD)(cs:AB)(c:AA):zdN rs (cs++[c])=putK (zdN rs cs) (qC c) (V.int (Z6 rs c:Nat)):=by
 unfold zdN;rw[Rq];rfl
def zkR {cs cs':AB}(rs:AD){N:Nat}{b:KV1}(d:Nums cs N b)(h:∀c∈cs',c∈cs):Nums cs (N+cs'.length) (cs'.foldl (λa c=>putK a (qC c) (V.int (Z6 rs c:Nat))) b):=by
 induction cs' generalizing N b with
 | nil=>exact d
 | cons c r f =>
  have:=f (d.put (w:=V.int (Z6 rs c:Nat)) ⟨c,h c XT,Z6 rs c,zfG rs c,rfl,rfl⟩) λx e=>h x (XU _ e);rw[Xi,Nat.add_comm r.length 1,<- Nat.add_assoc];exact this
def zim (rs:AD)(cs:AB):Nums cs cs.length (zdN rs cs):=by
 have:=zkR rs (Nums.nil cs 0) (cs':=cs) λ_ h=>h;rw[VQ]at this;exact this
def zmN (rs:AD)(cs:AB):(zdN rs cs).length<=cs.length:=(zim rs cs).len
def xB (rs:AD)(cs:AB):AD:=zbQ (zdN rs cs) (Zz rs)
def zeC:Sp:=λg H Q _=>∃(l c:Addr) (b:AD) (f:AE) (a:AB),g=[.ref l,.ref c]/\H l=some (.lst (b.map V.str))/\Rows fdS.cps.toList b/\H c=some (.lst f)/\Cel H f a/\a.length<=64/\(∀x∈a,x.1<8/\x.2<8) /\
 ∀(p e:Addr) (d:Hp),H p=none->H e=none->qf d p e (xB b a) ((stC b).length:Nat)->zx H d->Q (.ref p) d
def Jc:zz ["field","cells","stones","hidden","numbers","cell"] ["field","cells"] (zq Yu):=bh
def zhe (T:Txt mg)(Z:Prog K mg)(D:zh K mg "board_at" Yu ["field","cells"] f fd):Jf 448 P w K mg base CX0 4 f fd ["field","cells"] zeC:=by
 obtain⟨aM,aK,ar⟩:=Z.stones_of;obtain⟨aJ,aI,qU⟩:=Z.cells_with;obtain⟨j4,jA,zw⟩:=Z.cells_of;obtain⟨yM,j3,zu⟩:=Z.sign_at;obtain⟨aO,aN,au⟩:=Z.board_of;obtain⟨Qk,Z1,zL⟩:=Z.around;obtain⟨aQ,aP,av⟩:=Z.opened;refine D.F.okT Jc (λvs H Q E h=>?_) (λaF A a9 s H vs Q E hr h=>?_)
 .revert h;refine gg λl c g ws cs z0 _=>?_;subst z0;rfl
 .revert h;refine gu λl c g ws cs z0 hl R hc=>fZ λhw aE a2 q=>?_;subst z0;refine⟨_,(qm (PS.at_ (qz 2 Jc.nd (pc0 (zfD T ar qU zw zu) hr ar (za (pvS 0) zd)))) (qm (zfd (i:=3) Jc.nd rfl (V4 rfl) (zso (zg9 T Z au) hr au (zgx (zlN (N:=["text"]) (src:=[none]) (yk.plain rfl (by decide+kernel) (by decide+kernel) (by decide+kernel) rfl (by decide)) rfl (zJ (pvS 0)) (λ_ _ _ _ _=>(zeI (i:=0) (by show PJ (["text"]:AD);decide+kernel) rfl (V4 rfl))) (λ_ _ _ _ _=>qh) (λ_ _ _ _ _=>(zi3 T.JD.choose_spec.1 T.JD.choose_spec.2.1 T.JD.choose_spec.2.2 (zi3 T.JC.choose_spec.1 T.JC.choose_spec.2.1 T.JC.choose_spec.2.2 (PE.at_ (pvS 0)))))) (zgx (PE.at_ (pb1 zH T.qI Xk (pvS 2))) (PA.at_ zd))))) (PSs.at_ (@ze _ _ _ _ _ (@qG _ _ 4 _ _ _ _ Jc.nd rfl (V4 rfl) zli (by rfl) (.inr rfl)) (ze (qH Xf rfl (zJ (pvS 1)) (pgq 5 Jc.nd) (zf (ziP (u1 hr.units) (pvS 4) (pvS 5) (pb1 zH T.qI Xk (pcm ["place","stones"] [none,some 2] cR (zJ (pc0 (ZR T zL) hr zL (za (pvS 3) (za (pvS 5) zd)))) (pgN 0) (qu (zO (jh (K:=K) (by rfl) hr.units) (pvS 0) (pvS 1) (by rfl))) (pvS 0))) rfl))) (zf (zF (pc0 (zkO T av) hr av (za (pvS 3) (za (pvS 4) zd)))))))))),?_⟩;(try dsimp only[cxK,cxP,cxW]);refine⟨_,rfl,l,g,rfl,hl,R,λd M H1 hd ai O s1=>?_⟩;have O:Cel H1 M (stC g):=O;have am:=s1 _ _ hl;have aB:=O.length;have aD:(stC g).length<=64:=zdf R;refine fP (λn n1 n8 an=>?_) R.ex;refine⟨_,rfl,l,rfl,⟨_,SqL.of am⟩,λy hy=>?_⟩;refine qa (K:=K) (a:=l) (xs:=g.map V.str) (λi I H'=>(∃u0,I=[u0])/\zx H1 H'/\H' y=some (.lst (((g.take i).map QF).map V.str))) ⟨⟨_,rfl⟩,zc hy,zb⟩ (λi I H' _ ⟨_,s6,_⟩=>SqL.of (s6 _ _ am)) ?_ ?_
  .rintro i x I H' hx ⟨⟨u0,rfl⟩,s6,U⟩;rw[Xv]at hx;obtain⟨t,ht,rfl⟩:=U3.mp hx;have r:=an t (X8 ht);have i8:i<g.length:=(X5.mp ht).1;have tl:t.length=n:=r.len;have aH:(UL t "." "?").length=n:=by
    rw[<- tl];have e:(UL t "." "?").cps.toList.length=t.cps.toList.length:=by
     rw[zil,zcQ,Qo,ZB]
    exact e
   refine yw ⟨_,rfl,t,rfl,by lia,_,rfl,by lia,?_⟩;rw[zqC r];refine dU _ U (XM (show _<=8 from ?_) (by decide)) ⟨_,rfl⟩ (λb o e=>?_) ?_
   .rw[ZB,ZB,XJ];have:=R.hi;lia
   .rw[zp (zg e hy)];exact s6 _ _ e
   .rw[zb,Xp,ht,XA,XA];rfl
  .refine λI H6=>fO λ_ s6 U=>?_;rw[ZB,XD]at U;refine⟨_,rfl,d,_,rfl,.inl (SqL.of (s6 _ _ ai)),y,Zz g,_,rfl,U,zde R,by lia,by lia,λlb p a4 hp a6=>?_⟩;have z1:=zc (o:=.lst ((Zz g).map V.str)) a4;have a5:upd H6 lb (.lst ((Zz g).map V.str)) p=none:=by
    rw[zp a6];exact hp
   have z2:=zc (o:=.tup [.ref lb,.int (M.length:Nat)]) a5;have BH:qf (upd (upd H6 lb (.lst ((Zz g).map V.str))) p (.tup [.ref lb,.int (M.length:Nat)])) p lb (Zz g) (M.length:Nat):=⟨zb,z2 _ _ zb⟩;have aA:=z1.trans z2;generalize upd (upd H6 lb (.lst ((Zz g).map V.str))) p (.tup [.ref lb,.int (M.length:Nat)])=H8 at *
   have aq:=s6.trans aA;have aa:=s1.trans aq;intro dn ak;have z9:=zc (o:=.dT []) ak;have Rh:Rows bd.cps.toList (Zz g):=(zde R).mono zo9;refine⟨_,rfl,c,rfl,⟨_,SqL.of (z9 _ _ (aa _ _ hc))⟩,?_⟩;refine jU (K:=K) (a:=c) (xs:=ws) (λi I H'=>∃v,I=[some (.ref l),some (.ref c),some (.ref d),some (.ref p),some (.ref dn),v]/\zx H8 H'/\H' dn=some (.dT (zdN g (cs.take i)))) ⟨_,rfl,z9,zb⟩ (λi I H' _ ⟨_,_,B,_⟩=>SqL.of (B _ _ (aa _ _ hc))) ?_ ?_
   .refine λi x I ay hx=>fP λv z0 B j=>?_;subst z0;refine fU (λk hk ca z0 ah=>?_) (Cel.get (hw.mono (aa.trans B)) hx);subst z0;obtain⟨k1,k2⟩:=a2 k (X8 hk);refine⟨_,rfl,_,rfl,p,lb,ca,Zz g,_,k.1,k.2,rfl,BH.mono B,Rh,ah,by lia,by lia,λda wa ag aG aw ax ab=>(dI da rfl ⟨_,SqL.of aw⟩ (λz hz=>?_))⟩;have wl:=ax.length;have a1:=xY Rh k;have ae:=aq.trans (B.trans ab);refine qp (K:=K) (a:=da) (xs:=wa) (λa=>a≠z) ((zK (Zz g) k).map λx=>if decide (x∈stC g)=true then some (zv x) else none) (fun I=>∃u0,I=[u0,some (.ref d)]) hz (λ_ h=>h) ⟨_,rfl⟩ (by rw[ZB];exact wl.symm) (by rw[wl];exact X6 a1 (by decide)) (SqL.of aw) ?_ ?_
    .rintro m x o I az hx ho L _ ⟨u0,rfl⟩ Y Z aC no;obtain⟨y2,a8,r2⟩:=Cel.get (ax.mono L) hx;have eo:=jR a8 ho;have aj:=(ae.trans L) _ _ ai;refine⟨_,rfl,_,rfl,zv y2,(stC g).map zv,yO.rdv r2,.lst (SqL.of aj) (zgC (O.mono (ae.trans L))),rfl,zfk _,(by show 1<=60;decide),_,rfl,?_⟩;have ei:(if false=true then !((stC g).map zv).any (λz=>W1 z (zv y2)) else ((stC g).map zv).any λz=>W1 z (zv y2))=decide (y2∈stC g):=by
      rw[bq XS,J2,Wh,WH,bu];constructor
      .rintro⟨u,hu,e⟩;rw[<- bg e];exact hu
      .exact λh=>⟨y2,h,br rfl⟩
     by_cases hh:decide (y2∈stC g)=true
     .rw[bw hh]at eo;exact yD (ei.trans hh) ⟨_,rfl,aC _ _ _ _ eo ⟨_,rfl⟩ (zx.refl _) (yO.rdn r2)⟩
     .rw[bq hh]at eo;exact jE (ei.trans (WX.mpr hh)) (no _ _ eo ⟨_,rfl⟩ (zx.refl _))
    .rintro ys az L ao ac;rw[ql]at ac;have yl:=(zC.cel ac).length;rw[zdg]at yl;have G:=ab.trans L;have al:=zmN g (cs.take i);rw[XJ]at al;refine⟨z,_,rfl,.inl (SqL.of ao),_,rfl,_,rfl,dn,_,rfl,zjW.t (k:=qC k) (G _ _ j) (G _ _ ah) (XM (show _<=64 by lia) (by decide)),?_⟩;refine dI _ rfl (λb o e=>?_) ?_
     .rw[zp (zg e ak)];exact G _ _ (B _ _ e)
     .rw[zb,Xp,hk,yl];exact congrArg (λz=>some (HO.dT z)) (zkQ g _ k).symm
   .refine λI ay=>fP λv z0 B j=>?_;subst z0;rw[hw.length,XD]at j;refine⟨_,rfl,_,rfl,p,lb,dn,Zz g,_,cs,_,_,rfl,BH.mono B,Rh,j,zim g cs,λq2 l2 ag a7 a3 af ab=>?_⟩;rw[aB]at af;have J:=aa.trans B;exact q q2 l2 ag (J.free a7) (J.free a3) af (J.trans ab)
def zmO:Sp:=λf H Q _=>∃(l:Addr) (b:AD),f=[.ref l]/\H l=some (.lst (b.map V.str))/\Rows fdS.cps.toList b /\
 ∀(d:Addr) (e:AE) (a:Hp),H d=none->a d=some (.lst e)->Cel a e (Cells.zI (λc=>zM c&&decide (c=46)) 0 (codes b))->zx H a->Q (.ref d) a
def zfJ:zz ["field"] ["field"] (zq Zm):=bh
def zfK {j k m:Addr}{a b c:XH}(T:Txt mg)(D:zh K mg "clears_of" Zm ["field"] f fd)(e:zh K mg "cells_with" yf ["field","sign"] j a)(u:zh K mg "cells_of" qk ["board"] k b)(r:zh K mg "sign_at" qq ["board","cell"] m c) :
  qg P w K mg base CX0 3 f fd ["field"] zmO:=by
 refine D.F.ok zfJ (λp H Q E h=>?_) (λi A d s H p Q E o h=>?_)
 .revert h;refine fL λl g z0 _=>?_;subst z0;rfl
 .revert h;refine fH λl g z0 n R q=>?_;subst z0;refine⟨_,(zf (zF (pc0 (QY T e u r) o e (za (pvS 0) (za (jf (v:=.str ".") (by rfl) T.JC.choose_spec.1 (by exact⟨_,rfl⟩)) zd))))),?_⟩;(try dsimp only[cxK,cxP,cxW]);exact⟨_,rfl,l,g,46,by rw[zil];rfl,n,R,q⟩
def zmP {rs:AD}{a:List Nat}(R:Rows a rs){t:List Nat}(b:t∈codes rs){k:Nat}(hk:k∈t):k∈a:=by
 obtain⟨u,c,rfl⟩:=XG.mp b;obtain⟨n,_,_,h⟩:=R.ex;exact(h u c).mem k hk
def Z7 (rs:AD):AB:=Cells.zI (λc=>zM c&&decide (c=46)) 0 (codes rs)
def zmQ (rs:AD)(c:AA)(cs:AB)(b:KV1):qK (cs.foldl (λa c=>putK a (qC c) (V.int (Z6 rs c:Nat))) b) (qC c)=if c∈cs then some (V.int (Z6 rs c:Nat)) else qK b (qC c):=by
 induction cs generalizing b with
 | nil=>rw[bq (λh=>nomatch h)];rfl
 | cons d r f =>
  rw[Wp,f];by_cases h:c∈r
  .rw[bw h,bw (XU _ h)]
  .rw[bq h,yZ];by_cases e:c=d
   .subst e;rw[bw rfl,bw XT]
   .rw[bq λz=>e (Qm z),bq λz=>(XI.mp z).elim e h]
def zrX (rs:AD)(cs:AB)(c:AA):qK (zdN rs cs) (qC c)=if c∈cs then some (V.int (Z6 rs c:Nat)) else none:=zmQ rs c cs []
def zrY (rs:AD)(cs:AB)(c:AA)(k:Nat):dig (zdN rs cs) c k=if c∈cs then 48+Z6 rs c else k:=by
 unfold dig;rw[zrX];by_cases h:c∈cs
 .rw[bw h,bw h];show 48+((Z6 rs c:Nat):Int).toNat=_;rw[Rr]
 .rw[bq h,bq h]
def zmR (rs:AD)(cs:AB)(i:Nat)(t:Str):List Nat:=jI (zdN rs cs) i (t.cps.toList.map Qp)
def zmS (rs:AD)(cs:AB)(i:Nat)(t:Str):(zmR rs cs i t).length=t.cps.toList.length:=by
 unfold zmR jI;rw[Vp,ZB]
def zfL {rs:AD}{cs:AB}{i j k:Nat}{t:Str}(h:t.cps.toList[j]?=some k):(zmR rs cs i t)[j]?=some (if (i,j)∈cs then 48+Z6 rs (i,j) else Qp k):=by
 rw[<- zrY];exact zbu (by rw[Xv,h];rfl)
def zmT (rs:AD)(cs:AB):(xB rs cs).length=rs.length:=by
 unfold xB Zz;rw[JL,ZB]
def zfM {rs:AD}{cs:AB}{i:Nat}{t:Str}(h:rs[i]?=some t):(xB rs cs)[i]?=some ⟨(zmR rs cs i t).toArray⟩:=by
 have h2:(Zz rs)[i]?=some (QF t):=by
  unfold Zz;rw[Xv,h];rfl
 exact zdd h2
def zrZ (cs:AB)(c:AA):(cs.map zv).any (λz=>W1 z (zv c))=decide (c∈cs):=by
 rw[J2,Wh,WH,bu];constructor
 .rintro⟨u,hu,e⟩;rw[<- bg e];exact hu
 .exact λh=>⟨c,h,br rfl⟩
def zjz {a b:AB}(c:a.Pairwise Cells.lex)(d:b.Pairwise Cells.lex)(h:∀x,x∈a↔x∈b):a=b :=
 ((Wf (qo c) (qo d)).mpr h).eq_of_pairwise (λx y _ _ h1 h2=>by
  unfold Cells.lex at h1 h2;lia) c d
def QE {p:Nat->Bool}{rs:AD}{cs:AB}{i j:Nat}:(i,j)∈Cells.zI p 0 (codes (xB rs cs)) ↔ ∃t k,rs[i]?=some t/\t.cps.toList[j]?=some k/\p (if (i,j)∈cs then 48+Z6 rs (i,j) else Qp k)=true:=by
 constructor
 .intro h;refine fH (λu c h1 h2 b _=>?_) (zW h);have d:i<rs.length:=by
   rw[<- zmT rs cs];exact(X5.mp h1).1
  obtain⟨t,a⟩:∃t,rs[i]?=some t:=⟨_,X0 d⟩;have h1:(xB rs cs)[i]?=some u:=h1;have h2:u.cps.toList[j]?=some c:=h2;rw[zfM a]at h1;cases h1;have h2:(zmR rs cs i t)[j]?=some c:=h2;have e:j<t.cps.toList.length:=by
   rw[<- zmS rs cs i t];exact(X5.mp h2).1
  obtain⟨k,hk⟩:∃k,t.cps.toList[j]?=some k:=⟨_,X0 e⟩;rw[zfL hk]at h2;cases h2;exact dM t k a hk b
 .refine fK λt k a hk hp=>?_;have:=JE (i:=0) (qD (zfM (cs:=cs) a)) (zfL (rs:=rs) (cs:=cs) (i:=i) hk) hp;rwa [VQ]at this
def xC {p:Nat->Bool}{rs:AD}{i j:Nat}:(i,j)∈Cells.zI p 0 (codes rs) ↔ ∃t k,rs[i]?=some t/\t.cps.toList[j]?=some k/\p k=true:=by
 constructor
 .intro h;refine fH (λu c h1 h2 a _=>?_) (zW h);exact⟨u,c,h1,h2,a⟩
 .rintro⟨t,k,ht,hk,hp⟩;have:=JE (i:=0) (qD ht) hk hp;rwa [VQ]at this
def zmU:∀v:Nat,v<=8->ZP (48+v)=true/\zM (48+v)=true:=by decide+kernel
def zmV (k:Nat):ZP (Qp k)=false:=by
 unfold Qp;by_cases h:k=35
 .rw[bw h];decide
 .rw[bq h];decide
def zhg (k:Nat):zM (Qp k)=zM k:=by
 unfold zM Qp;by_cases h:k=35
 .rw[bw h,h]
 .rw[bq h,bf h];rfl
section
variable {rs:AD}{cs:AB}(hsub:∀x∈cs,x∈Z7 rs)
include hsub
theorem zhh (x:AA):x∈Cells.zI ZP 0 (codes (xB rs cs))↔x∈cs:=by
 obtain⟨i,j⟩:=x;rw[QE];constructor
 .refine fK λt k _ _ h=>?_;by_cases e:(i,j)∈cs
  .exact e
  .rw[bq e,zmV]at h;cases h
 .intro h;refine fK (λt k h1 h2 _=>?_) (xC.mp (hsub _ h));exact dM t k h1 h2 (by rw[bw h];exact(zmU _ (zfG rs (i,j))).1)
theorem zeD:Cells.zI zM 0 (codes (xB rs cs))=Cells.zI zM 0 (codes rs):=by
 refine zjz (Cells.jv _ _ _) (Cells.jv _ _ _) λx=>?_;obtain⟨i,j⟩:=x;rw[QE,xC];constructor
 .refine fK λt k h1 h2 h=>?_;by_cases e:(i,j)∈cs
  .refine fK (λc b g1 g2 a=>?_) (xC.mp (hsub _ e));rw[h1]at g1;cases g1;rw[h2]at g2;cases g2;exact⟨t,k,h1,h2,(WC.mp a).1⟩
  .rw[bq e,zhg]at h;exact⟨t,k,h1,h2,h⟩
 .refine fK λt k h1 h2 h=>?_;refine dM t k h1 h2 ?_;by_cases e:(i,j)∈cs
  .rw[bw e];exact(zmU _ (zfG rs (i,j))).2
  .rw[bq e,zhg];exact h
theorem zhi {x:AA}(h:x∈stC rs):x∈Cells.zI J0 0 (codes (xB rs cs)):=by
 obtain⟨i,j⟩:=x;refine fK (λt k h1 h2 c=>?_) (xC.mp h);have a:k=111:=bg (WC.mp c).2;refine QE.mpr (dM t k h1 h2 ?_);have d:¬ (i,j)∈cs:=λe=>by
  obtain⟨l,g,g1,g2,b⟩:=xC.mp (hsub _ e);rw[h1]at g1;cases g1;rw[h2]at g2;cases g2;have f:k=46:=bg (WC.mp b).2;lia
 rw[bq d,a];decide
theorem zin (c:AA):((zK (xB rs cs) c).filter λx=>decide (x∈stC rs)).length=Z6 rs c:=by
 rw[<- zdg];unfold zK;rw[zeD hsub,zfH]
theorem zmW {c:AA}(h:c∈cs):∃t,(xB rs cs)[c.1]?=some t/\t.cps.toList[c.2]?=some (48+Z6 rs c):=by
 obtain⟨i,j⟩:=c;refine fK (λt k h1 h2 _=>?_) (xC.mp (hsub _ h));refine⟨_,zfM h1,?_⟩;have:=zfL (rs:=rs) (cs:=cs) (i:=i) h2;rw[bw h]at this;exact this
end
def zmX {rs:AD}{cs:AB}(R:Rows fdS.cps.toList rs):Rows bd.cps.toList (xB rs cs):=Rows.put (zim rs cs) ((zde R).mono zo9)
def zeE {rs:AD}(R:Rows fdS.cps.toList rs){x:AA}(h:x∈Z7 rs):x.1<8/\x.2<8:=by
 refine fK (λt k h1 h2 _=>?_) (zW h);have a:=(X5.mp h1).1;have b:=(X5.mp h2).1;have e:=R.hi;have f:=R.short _ (X8 (qD h1));lia
def zhj (rs:AD)(c:AA):Bool:=decide (c∈stC rs)
def zqE:∀v:Nat,v<=8->J0 (48+v)=false:=by decide+kernel
def Few (rs:AD):Prop:=(Cells.zI zM 0 (codes rs)).length<=12
section
variable {rs:AD}{cs:AB}(hsub:∀x∈cs,x∈Z7 rs)
include hsub
theorem zoy:Lay (xB rs cs) ((stC rs).length:Nat) (zhj rs):=by
 constructor
 .have e:(zT (xB rs cs)).filter (zhj rs)=stC rs:=by
   refine zjz ((Cells.jv _ 0 _).sublist W2) (Cells.jv _ 0 _) λx=>?_;rw[XO];exact⟨λh=>bg h.2,λh=>⟨zhi hsub h,br h⟩⟩
  rw[VH,e]
 .intro o d;have c:=(zhh hsub o).mp d;obtain⟨t,h1,h2⟩:=zmW hsub c;have b:Cells.sgn (codes (xB rs cs)) o=48+Z6 rs o:=Cells.Q9 (qD h1) h2;have e:((clA (xB rs cs) o).filter (zhj rs))=(zK (xB rs cs) o).filter (zhj rs):=by
   unfold clA;rw[UU];refine Vc λx f=>?_;rw[Wh,VP];refine⟨λh=>h.1,λh=>⟨h,?_⟩⟩;exact br (zme (zhi hsub (bg h)))
  unfold QG;have a:((zK (xB rs cs) o).filter (zhj rs)).length=Z6 rs o:=zin hsub o;rw[b,VH,e,a];lia
theorem zhk (R:Rows fdS.cps.toList rs){x:AA}(h1:x∈zT (xB rs cs))(h2:zhj rs x=false):x∈Z7 rs/\x ∉ cs:=by
 obtain⟨i,j⟩:=x;refine fK (λt k b hk a=>?_) (QE.mp h1);have c:(i,j) ∉ cs:=λe=>by
  rw[bw e,zqE _ (zfG rs (i,j))]at a;cases a
 refine⟨?_,c⟩;obtain⟨n,_,_,g⟩:=R.ex;have f:=(g t (X8 b)).mem k (X8 hk);have d:∀k∈fdS.cps.toList,k=46\/k=111\/k=35:=by decide+kernel
 rcases d k f with e | e | e
 .exact xC.mpr ⟨t,k,b,hk,by rw[e];decide⟩
 .exact absurd (xC.mpr ⟨t,k,b,hk,by rw[e];decide⟩) (of_decide_eq_false h2)
 .rw[bq c,e]at a;cases a
theorem Few.shut (t:Few rs):(zT (xB rs cs)).length<=12:=by
 refine X6 ((J4 (xB rs cs)).length_le_of_subset λx b=>?_) t;rw[<- zeD hsub];obtain⟨i,j⟩:=x;refine fK (λt k h1 h2 a=>?_) (QE.mp b);refine QE.mpr (dM t k h1 h2 ?_);have:(if (i,j)∈cs then 48+Z6 rs (i,j) else Qp k)=63:=bg a;rw[this];rfl
theorem Few.opn (t:Few rs):(qx (xB rs cs)).length<=12:=by
 refine X6 ((qo (Cells.jv ZP 0 (codes (xB rs cs)))).length_le_of_subset λx c=>?_) t;have b:=hsub x ((zhh hsub x).mp c);obtain⟨i,j⟩:=x;refine fK (λt k h1 h2 a=>?_) (xC.mp b);exact xC.mpr ⟨t,k,h1,h2,(WC.mp a).1⟩
end
theorem zhl {p:Nat->Bool}{m:Nat}:∀{i:Nat} {gs:List (List Nat)},(∀t∈gs,(Cells.zZ p 0 0 t).length<=m)->(Cells.zI p i gs).length<=m*gs.length
 | _,[],_=>W3 _
 | i,t::r,h=>by
  have h1:=zhl (i:=i+1) λu b=>h u (XU _ b);have h2:=h t XT;have e:∀(i a j:Nat) (t:List Nat),(Cells.zZ p i j t).length=(Cells.zZ p a j t).length:=λi a j t=>by
   induction t generalizing j with
   | nil=>rfl
   | cons c r d =>
    rw[Cells.zZ,Cells.zZ,XX,XX,d];split<;>rfl
  rw[Cells.zI,XX,Xi,e i 0,Nat.mul_succ];lia
def zqF {rs:AD}(R:Rows fdS.cps.toList rs)(h:∀t∈rs,((rs.length*t.cps.size:Nat):Int)<=12):Few rs:=by
 obtain⟨n,_,d,a⟩:=R.ex;have:=zhl (p:=zM) (m:=n) (i:=0) (gs:=codes rs) λt b=>by
  obtain⟨u,c,rfl⟩:=XG.mp b;have:=Cells.jF zM 0 0 u.cps.toList;exact X6 this (Nat.le_of_eq (by rw[X4];exact(a u c).len))
 unfold Few;rw[qV]at this;have lo:=R.lo;cases rs with
 | nil=>exact absurd lo (by decide)
 | cons t r =>
  have h1:=h t XT;rw[(a t XT).len,PF]at h1;lia
structure Drw (rs:AD)(cs:AB):Prop where
 sub:∀x∈cs,x∈Z7 rs
 nd:cs.Nodup
def Drw.one {rs:AD}{c:AA}(h:c∈Z7 rs):Drw rs [c]:=⟨λx a=>by rw[Xb.mp a];exact h,List.pairwise_singleton _ _⟩
def Drw.more {rs:AD}{cs fs:AB}(R:Rows fdS.cps.toList rs)(d:Drw rs cs)(n:fs.Nodup)(f:∀c∈fs,c∈zT (xB rs cs)/\zhj rs c=false):Drw rs (cs++fs):=by
 refine⟨λx j=>?_,WK.mpr ⟨d.nd,n,λa i b g e=>?_⟩⟩
 .rcases XN.mp j with h | h
  .exact d.sub x h
  .exact(zhk d.sub R (f x h).1 (f x h).2).1
 .subst e;exact(zhk d.sub R (f a g).1 (f a g).2).2 i
def Drw.len {rs:AD}{cs:AB}(d:Drw rs cs):cs.length<=(Z7 rs).length:=d.nd.length_le_of_subset d.sub
def zjA (w:Str):Prop:=w="sure"\/w="thoughts"
def zsJ:Sp:=λg H Q _=>∃(p l:Addr) (a:AD) (n:Int) (L:AA->Bool) (w:Str),g=[.ref p,.str w]/\zjA w/\qf H p l a n/\Rows bd.cps.toList a/\(zT a).length<=12/\Lay a n L/\(qx a).length<=12 /\
 ∀(d:Addr) (f:AE) (e:AB) (b:Hp),H d=none->b d=some (.lst f)->Cel b f e->e.Nodup->(∀c∈e,c∈zT a/\L c=false)->zx H b->Q (.ref d) b
def zdi:zz ["board","way"] ["board","way"] (zq xX):=bh
def zdj (T:Txt mg)(Z:Prog K mg)(D:zh K mg "found_clear" xX ["board","way"] f fd):qg P w K mg base CX0 11 f fd ["board","way"] zsJ:=by
 obtain⟨ae,ac,g⟩:=Z.sure;obtain⟨ab,aa,e⟩:=Z.thoughts;refine D.F.ok zdi (λvs H Q E h=>?_) (λG A v s H vs Q E y h=>?_)
 .revert h;refine fM λp l i n=>fL λL wy z0 _=>?_;subst z0;rfl
 .revert h;refine fM λp l i n=>fS λL wy z0 Y B R=>fZ λd x u q=>?_;subst z0;refine⟨_,(ze (qR (zO YW (pvS 1) yC (qb _)) (zf (zF (zQ qi (zQ qi (pc0 (zg7 T Z e) y e (za (pvS 0) zd)) zj (λ_ _=>rfl)) zj (λ_ _=>rfl)))) qd) (zf (zF (zQ qi (pc0 (zog T Z g) y g (za (pvS 0) zd)) zj (λ_ _=>rfl))))),?_⟩;(try dsimp only[cxK,cxP,cxW]);refine⟨_,rfl,rfl,_,rfl,?_⟩;rcases Y with rfl | rfl
  .refine jE (by decide+kernel) ⟨_,rfl,p,l,i,n,L,rfl,B,R,zgN (X6 d (by decide)),x,λt M d2 w1 J j m r b k z U s1=>?_⟩;exact⟨t,_,0,_,rfl,rfl,SqT.of r,rfl,q M w1 J j m b k ((J4 i).sublist z) (λc a=>⟨z.subset a,U c a⟩) s1⟩
  .refine yD (by decide+kernel) ⟨_,rfl,p,l,i,n,L,rfl,B,R,X6 d (by decide),x,X6 u (by decide),λt sa N O fs us ws I st j r F o W s1=>?_⟩;exact⟨t,_,1,_,rfl,rfl,SqT.of r,rfl,N,_,0,_,rfl,rfl,SqT.of F.tp,rfl,q O us I j o F.h1 F.c1 (qo W.x1) (λc a=>⟨W.s1 c a,W.tr.no c a⟩) s1⟩
structure Facts (K:XZ)(C SE C1 C2 C3 C4 C5 C6 C7 C8 C9:Addr)(b1 b2:Bool):Prop where
 fd:Y7 K C
 mro:Vo K C (.ref SE)=some true
 k1:Xc K (.ref C) (.ref C1)=some b1
 k2:Xc K (.ref C) (.ref C2)=some b2
 k3:Xc K (.ref C) (.ref C3)=some false
 k4:Xc K (.ref C) (.ref C4)=some false
 k5:Xc K (.ref C) (.ref C5)=some false
 k6:Xc K (.ref C) (.ref C6)=some false
 k7:Xc K (.ref C) (.ref C7)=some false
 k8:Xc K (.ref C) (.ref C8)=some false
 k9:Xc K (.ref C) (.ref C9)=some false
 kv:Xc K (.ref C) (.type "ValueError")=some true
def zoz:U4 "ValueError"=some (.type "ValueError"):=by with_unfolding_all rfl
def zqH {K:XZ}{h:Heap}{mg:Str->Option X9}(H:zcd K "run" zbA "sure")(X:K.In h)(G:h.Ns XV mg):∃f fd,zff K mg "run" zbA ["field","first","way"] "sure" f fd:=by
 refine H.at X G (λl kV doc k i d j t g e=>?_) (λl kV doc k i d j t g e=>?_)
 .match g,e with
  | [a,b,c],_=>exact⟨_,rfl,rfl⟩
 .match g,e with
  | [a,b],_=>exact⟨_,rfl,rfl⟩
def zqI {rs:AD}(R:Rows fdS.cps.toList rs):(Z7 rs).length<=64:=zdf R
def zpf (w:Str):Prop:=w="end"\/w="stuck"
def zkS (H:Hp)(t a:Addr):Prop:=∃(w:Str) (r p:Addr) (b:AE),zpf w/\H t=some (.tup [.str w,.ref r,.ref p])/\H r=some (.lst (.ref a::b))
def zkS.mono {H a:Hp}(s:zx H a){t b:Addr}(A:zkS H t b):zkS a t b:=let ⟨w,r,p,ws,h,h1,h2⟩:=A;(dO w r p ws (eE h (s _ _ h1) (s _ _ h2)))
def zpg (CE:Addr):Sp:=λf H Q E=>∃(l d:Addr) (b:AD) (c:AA) (e:Str),f=[.ref l,.ref d,.str e]/\zjA e/\H l=some (.lst (b.map V.str))/\Rows fdS.cps.toList b/\H d=some (.tup [.int (c.1:Nat),.int (c.2:Nat)])/\Few b /\
 (c ∉ Z7 b->∀a,zx H a->E (.ref CE) none a)/\(c∈Z7 b->∀(t:Addr) (a:Hp),zkS a t d->zx H a->Q (.ref t) a)
def cell_in {cs:AB}{c:AA}:(if true=true then !(cs.map zv).any (λz=>W1 z (zv c)) else (cs.map zv).any λz=>W1 z (zv c))=!decide (c∈cs):=by
 rw[bw rfl,zrZ]
def zjB (cs:AB):(if false=true then !PyData.eqv (.list (cs.map zv)) (.list []) else W1 (.list (cs.map zv)) (.list []))=decide (cs=[]):=by
 rw[bq XS];cases cs with
 | nil=>rfl
 | cons a r=>rfl
def zjC {H:Hp}{a:Addr}{c:AA}(h:H a=some (.tup [.int (c.1:Nat),.int (c.2:Nat)])):Cel H [.ref a] [c]:=.cons ⟨a,rfl,h⟩ .nil
def zbv:zz ["field","first","way","clear","row","board","found"] ["field","first","way"] (zq zbA):=bh
def zqJ (T:Txt mg)(av:qO K mg "NoCell" jab)(Z:Prog K mg)(D:zff K mg "run" zbA ["field","first","way"] "sure" f fd):Jf 448 P w K mg base (CXE P w) 12 f fd ["field","first","way"] (zpg jab):=by
 obtain⟨aB,aA,am⟩:=Z.clears_of;obtain⟨a7,a6,qU⟩:=Z.cells_with;obtain⟨j4,jA,zw⟩:=Z.cells_of;obtain⟨yM,j3,zu⟩:=Z.sign_at;obtain⟨a1,az,I⟩:=Z.board_at;obtain⟨a9,a8,QZ⟩:=Z.found_clear;have an:Jf 448 P w K mg base CX0 4 a1 az ["field","cells"] zeC:=zhe T Z I;refine D.F.okXT zbv (λvs H Q E h=>?_) (λa2 A ax s H vs Q E L h=>?_)
 .revert h;refine gg λl g a c wy z0 _=>?_;subst z0;rfl
 .revert h;refine gu λl g a c wy z0 iw hl R=>fZ λB O qe q=>?_;subst z0;refine⟨_,(qm (PS.at_ (qz 3 zbv.nd (pc0 (zfK T am qU zw zu) L am (za (pvS 0) zd)))) (qm (PS.at_ (qR (zO (QI L.units) (pvS 1) (pvS 3) (by rfl)) (zf (zla zd0 av (by rfl) rfl (@za _ _ _ _ _ yC zd rfl))) qd)) (qm (PS.at_ (qz 4 zbv.nd (zV (za (pvS 1) zd)))) (qm (zfd (i:=5) zbv.nd rfl (V4 rfl) (pct an L I (PA.at_ (za (pvS 0) (za (pvS 4) zd))))) (qm (zkm (Q3.own zd0) (zO zlK (pb1 zH T.qI Xk (pvS 4)) (pb1 zH T.qI Xk (pvS 3)) (qb _)) (qm (PS.at_ (qz 6 zbv.nd (pc0 (zdj T Z QZ) L QZ (za (pvS 5) (za (pvS 2) zd))))) (qm (PS.at_ (qR (zO (JQ L.units) (pvS 6) (@zV _ _ _ _ zd) (qb _)) (@zf _ _ _ (@zF _ _ _ _ (@qj _ _ _ _ _ (@za _ _ _ _ _ yC (za (pvS 4) (za (pvS 5) zd)) rfl)))) qd)) (qm (PS.at_ (jC (JN WS Vm Vl ZC (pvS 4) (za (pvS 6) zd)))) (zlM (zfd (i:=5) zbv.nd rfl (V4 rfl) (pct an L I (PA.at_ (za (pvS 0) (za (pvS 4) zd)))))))))) (PSs.at_ (@zf _ _ _ (@zF _ _ _ _ (@qj _ _ _ _ _ (@za _ _ _ _ _ yC (za (pvS 4) (za (pvS 5) zd)) rfl)))))))))),?_⟩;(try dsimp only[cxK,cxP,cxW]);refine⟨_,rfl,l,a,rfl,hl,R,λd wd H1 hd ae n s1=>?_⟩;have n:Cel H1 wd (Z7 a):=n;have aq:=zqI R;refine⟨_,rfl,_,rfl,zv c,(Z7 a).map zv,yO.rdv ⟨g,rfl,s1 _ _ B⟩,.lst (SqL.of ae) (zgC n),rfl,zfk _,(by show 1<=60;decide),_,rfl,?_⟩;by_cases J:c∈Z7 a
  case neg=>exact yD (cell_in.trans (by rw[bf J];rfl)) ⟨sz_1,qe J H1 s1⟩
  refine jE (cell_in.trans (by rw[br J];rfl)) ?_;refine⟨_,rfl,sz_1,λr ag=>?_⟩;have z2:=zc (o:=.lst [.ref g]) ag;have W0:=Drw.one J;refine⟨_,rfl,_,rfl,l,r,a,_,[c],rfl,(s1.trans z2) _ _ hl,R,zb,zjC ((s1.trans z2) _ _ B),(by show 1<=64;decide),λx hx=>zeE R (W0.sub x hx),λp lb H3 hp a4 B3 s3=>?_⟩;have aj:=z2.trans s3;refine⟨λm σ M=>∃(k:AB) (j:AE) (p lb:Addr) (v:Option V),σ=[some (.ref l),some (.ref g),some (.str wy),some (.ref d),some (.ref r),some (.ref p),v]/\zx H1 M/\M r=some (.lst (.ref g::j))/\Cel M (.ref g::j) k/\qf M p lb (xB a k) ((stC a).length:Nat)/\Drw a k/\(Z7 a).length<k.length+m,(fj 65 [c] _ p lb none rfl aj (s3 _ _ zb) (zjC ((s1.trans aj) _ _ B)) (eE B3 W0 (by show _<1+65;lia))),?_⟩;refine λm σ H4=>gu λk j p lb v z0 s4 u U=>fO λB4 W hm=>?_;subst z0;have ai:=s1.trans s4;have ar:=s4 _ _ ae;have wl:=U.length;have dl:=n.length;have cl:=W.len;refine⟨_,rfl,r,_,rfl,.inl (SqL.of u),_,rfl,d,_,rfl,.inl (SqL.of ar),_,_,rfl,rfl,_,rfl,?_⟩;by_cases hz:(Z7 a).length<=k.length
  .refine jE (bf (by lia)) ?_;refine⟨_,rfl,_,rfl,zgw,λt ht=>?_⟩;have z5:=zc (o:=.tup [.str "end",.ref r,.ref p]) ht;exact q J t _ (dO _ r p j (eE (.inl rfl) zb (z5 _ _ u))) (ai.trans z5)
  .refine yD (br (by lia)) ?_;refine⟨fun aD M=>∃m',m'<m/\_,λ_ _ h=>h,?_⟩;have RB:Rows bd.cps.toList (xB a k):=zmX R;refine⟨_,rfl,_,rfl,p,lb,xB a k,_,zhj a,wy,rfl,iw,B4,RB,O.shut W.sub,zoy W.sub,O.opn W.sub,λfo z fs H5 a3 ao Y nd hf s5=>?_⟩;refine⟨_,rfl,x9,λn0 au=>?_⟩;have z6:=zc (o:=.lst []) au;have y:=s5.trans z6;refine dH (.list (fs.map zv)) (.list []) (.lst (SqL.of (z6 _ _ ao)) (zgC (Y.mono z6))) (.lst (SqL.of zb) .nil) (zp9 _ []) ⟨_,rfl,?_⟩;by_cases he:fs=[]
   .refine yD ((zjB _).trans (br he)) ?_;refine⟨_,rfl,_,rfl,zgw,λt ht=>?_⟩;have z7:=zc (o:=.tup [.str "stuck",.ref r,.ref p]) ht;have al:=y.trans z7;exact q J t _ (dO _ r p j (eE (.inr rfl) zb (al _ _ u))) (ai.trans al)
   .refine jE ((zjB _).trans (bf he)) ?_;have W':=W.more R nd hf;have N:(k++fs).length<=64:=X6 W'.len aq;have G:=y _ _ u;have aa:=Y.mono z6;have af:=z6 _ _ ao;have ac:=U.mono y;have ay:=s4.trans y;have lp:=OA.mpr he;generalize upd H5 n0 (.lst [])=H6 at *
    refine⟨_,rfl,.inl ⟨rfl,_,SqL.of G⟩,_,rfl,r,fo,.ref g::j,z,rfl,rfl,G,af,?_,?_⟩
    .have:=aa.length;rw[XX]at N;exact X6 (show (V.ref g::j).length+z.length<=64 by lia) (by decide)
    have ab:=Cel.into r (.lst (.ref g::j++z)) G (ac.append aa);have ah:upd H6 r (.lst (.ref g::j++z)) r=some (.lst (.ref g::j++z)):=zb;have ak:zx H1 (upd H6 r (.lst (.ref g::j++z))):=λb o e=>by
     rw[zp (zg e ag)];exact ay _ _ e
    generalize upd H6 r (.lst (.ref g::j++z))=H7 at *
    refine⟨_,rfl,_,rfl,l,r,a,_,_,rfl,(s1.trans ak) _ _ hl,R,ah,ab,N,λx hx=>zeE R (W'.sub x hx),λp2 aw H8 a5 aC B8 s8=>?_⟩;refine dJ (m-1) (by lia) (eY (k++fs) (j++z) p2 aw _ rfl (ak.trans s8) (s8 _ _ ah) (ab.mono s8) B8 W' ?_);rw[XX];lia
def zkT:List Bool:=[true,true,false,false,false,false,false,false,false,false]
def zm0:Sp:=λg H Q _=>∃(l e:Addr) (d:AD) (c:AA) (f:Str),g=[.ref l,.ref e,.str f]/\zjA f/\H l=some (.lst (d.map V.str))/\Rows fdS.cps.toList d/\H e=some (.tup [.int (c.1:Nat),.int (c.2:Nat)])/\Few d /\
 (c ∉ Z7 d->∀(t b:Addr) (a:Hp),a t=some (.tup [.non,.ref b])->a b=some (.lst (zkT.map V.bl))->zx H a->Q (.ref t) a) /\
 (c∈Z7 d->∀(t u b:Addr) (a:Hp),a t=some (.tup [.ref u,.ref b])->a b=some (.lst [])->zkS a u e->zx H a->Q (.ref t) a)
def j7:zz ["_law_field_here","_law_first","_law_way","_law_some","_law_found","e"] ["_law_field_here","_law_first","_law_way"] (zq Yz):=bh
def zhn (T:Txt mg)(al:qO K mg "StoneError" jai)(am:qO K mg "TooGreat" jaj)(ag:qO K mg "NoLaying" jad)(ae:qO K mg "NoBoard" jaa)(af:qO K mg "NoCount" jac)(I:qO K mg "NoCell" jab)(ak:qO K mg "NoText" jah)(ai:qO K mg "NoRow" jaf)(ah:qO K mg "NoNumber" jae)(aj:qO K mg "NoTable" jag)
  (F:Facts K jab jai jab jac jaj jad jaa jah jaf jae jag true false) (Z:Prog K mg) (D:zh K mg "_law_told" Yz ["_law_field_here","_law_first","_law_way"] f fd):Jf 448 P w K mg base CX0 13 f fd ["_law_field_here","_law_first","_law_way"] zm0:=by
 obtain⟨aq,ao,k⟩:=Z.run;have ar:Jf 448 P w K mg base (CXE P w) 12 aq ao ["field","first","way"] (zpg jab):=zqJ T I Z k;refine D.F.okT j7 (λvs H Q E h=>?_) (λau A an s H vs Q E hr h=>?_)
 .revert h;refine gg λl y L c M z0 _=>?_;subst z0;rfl
 .revert h;refine gu λl y L c M z0 iw hl R=>fZ λY O qn q=>?_;subst z0;refine⟨_,(qm (PS.at_ (@qG _ _ 3 _ _ _ _ j7.nd rfl (V4 rfl) (@zV _ _ _ _ zd) (by rfl) (.inr rfl))) (qm (PS.at_ (@qG _ _ 4 _ _ _ _ j7.nd rfl (V4 rfl) zht (by rfl) (.inr rfl))) (zlQ (znR (i:=4) (j:=5) (dv:=[]) rfl rfl ar (hr.mono (by decide)) (by rfl) k.g k.F.kp ⟨[],.nil,k.b⟩ j7.nd rfl (V4 rfl) (PP rfl) rfl rfl (by rfl) al (za (pvS 0) (za (pvS 1) (za (pvS 2) zd))) (λeN=>(ze (qz 3 j7.nd (zV (za (pb2 (qJ (K:=K) (by rfl)) T.qM WO (pvS 5) (pgx I)) (za (pb2 (qJ (K:=K) (by rfl)) T.qM WO (pvS 5) (znf (v:=.ty "ValueError") (by rfl) T.zfh zoz (by rfl))) (za (pb2 (qJ (K:=K) (by rfl)) T.qM WO (pvS 5) (pgx af)) (za (pb2 (qJ (K:=K) (by rfl)) T.qM WO (pvS 5) (pgx am)) zd)))))) (ze (qz 3 j7.nd (zG JO (pvS 3) (zV (za (pb2 (qJ (K:=K) (by rfl)) T.qM WO (pvS 5) (pgx ag)) (za (pb2 (qJ (K:=K) (by rfl)) T.qM WO (pvS 5) (pgx ae)) (za (pb2 (qJ (K:=K) (by rfl)) T.qM WO (pvS 5) (pgx ak)) (za (pb2 (qJ (K:=K) (by rfl)) T.qM WO (pvS 5) (pgx ai)) zd))))))) (zf (qz 3 j7.nd (zG JO (pvS 3) (zV (za (pb2 (qJ (K:=K) (by rfl)) T.qM WO (pvS 5) (pgx ah)) (za (pb2 (qJ (K:=K) (by rfl)) T.qM WO (pvS 5) (pgx aj)) zd)))))))))) (PSs.at_ (zf (zF (qj (za (pvS 4) (za (pvS 3) zd))))))))),?_⟩;(try dsimp only[cxK,cxP,cxW]);refine⟨x9,λb hb=>?_⟩;have N:=zc (o:=.lst []) hb;refine⟨fun p r=>(c ∉ Z7 L/\∃x,p=[some (.ref l),some (.ref y),some (.str M),some (.ref x),some .non,none]/\zx H r/\r x=some (.lst (zkT.map V.bl))) \/
   (c∈Z7 L/\∃u,p=[some (.ref l),some (.ref y),some (.str M),some (.ref b),some (.ref u),none]/\zx H r/\r b=some (.lst [])/\zkS r u y),?_,?_⟩
  .refine⟨_,rfl,_,rfl,_,rfl,l,y,L,c,M,rfl,iw,N _ _ hl,R,N _ _ Y,O,λhn J s1=>(dI jab rfl F.mro (λe he=>?_)),λU u J A s1=>.inr ⟨U,(fk u rfl (N.trans s1) (s1 _ _ zb) A)⟩⟩;have m:=zc (o:=exO e jab) he;have s2:=N.trans (s1.trans m);have a:upd J e (exO e jab) e=some (exO e jab):=zb;generalize upd J e (exO e jab)=H2 at *
   refine⟨_,rfl,e,_,_,_,rfl,a,F.fd,.inl ⟨_,rfl⟩,F.k1,_,rfl,e,_,_,_,rfl,a,F.fd,.inr ⟨_,rfl⟩,F.kv,_,rfl,e,_,_,_,rfl,a,F.fd,.inl ⟨_,rfl⟩,F.k2,_,rfl,e,_,_,_,rfl,a,F.fd,.inl ⟨_,rfl⟩,F.k3,zrt,λd1 aa=>?_⟩;have z3:=zc (o:=.lst [.bl true,.bl true,.bl false,.bl false]) aa;have d:=z3 _ _ a;refine⟨_,rfl,_,rfl,e,_,_,_,rfl,d,F.fd,.inl ⟨_,rfl⟩,F.k4,_,rfl,e,_,_,_,rfl,d,F.fd,.inl ⟨_,rfl⟩,F.k5,_,rfl,e,_,_,_,rfl,d,F.fd,.inl ⟨_,rfl⟩,F.k6,_,rfl,e,_,_,_,rfl,d,F.fd,.inl ⟨_,rfl⟩,F.k7,zrt,λd2 z=>(dY d1 d2 _ _ rfl rfl (zc z _ _ zb) zb (by show 8<=Xz;decide) (λd3 ab=>?_))⟩;have z4:=zc (o:=.lst [.bl false,.bl false,.bl false,.bl false]) z;have z5:=zc (o:=.lst ([.bl true,.bl true,.bl false,.bl false]++[.bl false,.bl false,.bl false,.bl false])) ab;have G:=z5 _ _ (z4 _ _ d);refine⟨_,rfl,_,rfl,e,_,_,_,rfl,G,F.fd,.inl ⟨_,rfl⟩,F.k8,_,rfl,e,_,_,_,rfl,G,F.fd,.inl ⟨_,rfl⟩,F.k9,yp,λd4 B=>(dY d3 d4 _ _ rfl rfl (zc B _ _ zb) zb (by show 10<=Xz;decide) (λd5 ac=>?_))⟩;exact .inl ⟨hn,(dI d5 rfl (s2.trans (z3.trans (z4.trans (z5.trans ((zc B).trans (zc ac)))))) zb)⟩
  .rintro p J (⟨hn,x,rfl,s1,n⟩ | ⟨U,u,rfl,s1,n,A⟩)
   .refine⟨_,rfl,_,rfl,yp,λt ht=>?_⟩;have m:=zc (o:=.tup [.non,.ref x]) ht;exact qn hn t x _ zb (m _ _ n) (s1.trans m)
   .refine⟨_,rfl,_,rfl,yp,λt ht=>?_⟩;have m:=zc (o:=.tup [.ref u,.ref b]) ht;exact q U t u b _ zb (m _ _ n) (A.mono m) (s1.trans m)
def zr3:Sg fdS:=by
 unfold Sg;decide+kernel
def zkU:Sp:=λc H Q _=>∃(a:Addr) (b:AD),c=[.ref a]/\H a=some (.lst (b.map V.str))/\Rows fdS.cps.toList b/\∀l,H l=none->Q (.ref l) (upd H l (.lst (b.map V.str)))
def zjE (K:XZ):Sp:=λd H Q _=>∃(a:Addr) (b:List Int),d=[.ref a]/\SqL K H a (b.map V.int)/\b.length<=63/\∀c,Q (.bl true) c
theorem zfN {K:XZ}{H:Hp}:∀bs:List Bool,xr K H (bs.map V.bl) (bs.map UM)
 | []=>.nil
 | b::r=>.cons (.bl b) (zfN r)
def zm1:∀c∈fdS.cps.toList,c<1114112:=by decide+kernel
def zm2 {rs:AD}(R:Rows fdS.cps.toList rs):zhz (.list (rs.map UI)) (.list (rs.map UI)):=by
 obtain⟨n,_,_,h⟩:=R.ex;have a:Wd (rs.map UI)=true:=by
  clear R;induction rs with
  | nil=>rfl
  | cons t r e =>
   show (Uu (.str t)&&Wd (r.map UI))=true;rw[e λu d=>h u (XU _ d),Bool.and_true];show t.cps.all (· < 0x110000)=true;rw[Array.all_eq_true'];intro c b;exact br (zm1 c ((h t XT).mem c (Array.mem_toList_iff.mpr b)))
 refine⟨a,a,?_⟩;show VR (rs.map UI)+1<=64;rw[zh0];decide
def zfO {d:Wj}(h:Uu d=true):(if true=true then !PyData.eqv d d else W1 d d)=false:=by
 rw[bw rfl,SeqAt.eqv_refl _ h];rfl
def zoB {d:Wj}(h:Uu d=true):(if false=true then !PyData.eqv d d else W1 d d)=true:=SeqAt.eqv_refl _ h
def zqL (z:Int):∃a,atI [V.str "sure",V.str "thoughts"] (z%2)=some (.str a)/\zjA a:=by
 have b:=V2 z (show (2:Int)≠0 by decide);have c:=V5 z (show (0:Int)<2 by decide);rcases(show z%2=0\/z%2=1 by lia) with e | e
 .exact⟨_,by rw[e];rfl,.inl rfl⟩
 .exact⟨_,by rw[e];rfl,.inr rfl⟩
def zoC:∀k∈fdS.cps.toList,pIn "o." k=true->k=46\/k=111:=by decide+kernel
def zm3 {w:Str}(h:zpf w):(if true=true then !inV (V.str w) [V.str "end",V.str "stuck"] else inV (V.str w) [V.str "end",V.str "stuck"])=false:=by
 rcases h with rfl | rfl<;>decide+kernel
def zr4 (c:AA):zhz (zv c) (zv c):=⟨rfl,rfl,by show 1<=64;decide⟩
def zho:zz ["rows"] ["rows"] (zq Yt):=bh
def zhp (T:Txt mg)(Z:Prog K mg)(D:zh K mg "field_of" Yt ["rows"] f fd):qg P w K mg base CX0 3 f fd ["rows"] zkU:=by
 obtain⟨m,l,c⟩:=Z.checked_rows;refine D.F.ok zho (λj H Q E h=>?_) (λe A b s H j Q E i h=>?_)
 .revert h;refine fL λa d z0 _=>?_;subst z0;rfl
 .revert h;refine fH λa d z0 g R k=>?_;subst z0;refine⟨_,(zf (zF (pc0 (YR T Z c) i c (za (pvS 0) (za (jf (v:=.str ".o#") (by rfl) T.zdy.choose_spec (by exact⟨_,rfl⟩)) zd))))),?_⟩;(try dsimp only[cxK,cxP,cxW]);exact⟨_,rfl,a,d,fdS,rfl,zr3,g,R,k⟩
def ZA:zz ["_law_script","_law_rows","_law_field_here","_law_cells_here","_law_turn","_law_k","_law_cell","_law_way","_law_found","_law_some"] ["_law_script"] (zq zgy):=bh
def zqM (T:Txt mg)(aF:qO K mg "StoneError" jai)(aG:qO K mg "TooGreat" jaj)(aA:qO K mg "NoLaying" jad)(a7:qO K mg "NoBoard" jaa)(a9:qO K mg "NoCount" jac)(a8:qO K mg "NoCell" jab)(aE:qO K mg "NoText" jah)(aC:qO K mg "NoRow" jaf)(aB:qO K mg "NoNumber" jae)(aD:qO K mg "NoTable" jag)
  (FC:Facts K jab jai jab jac jaj jad jaa jah jaf jae jag true false) (Z:Prog K mg) (D:zh K mg "law" zgy ["_law_script"] f fd):Jf 448 P w K mg base CX0 14 f fd ["_law_script"] (zjE K):=by
 obtain⟨aQ,aP,qw⟩:=Z.law_cell_at;obtain⟨aU,aR,Zu⟩:=Z.law_mixed;obtain⟨aV,aS,al⟩:=Z.law_field;obtain⟨aW,aT,am⟩:=Z.law_cells;obtain⟨aY,aX,an⟩:=Z.field_of;obtain⟨aK,aJ,ao⟩:=Z.law_told;have aM:Jf 448 P w K mg base CX0 13 aK aJ ["_law_field_here","_law_first","_law_way"] zm0:=zhn T aF aG aA a7 a9 a8 aE aC aB aD FC Z ao;refine D.F.okT ZA (λvs H Q E h=>?_) (λaO A aH s H vs Q E n h=>?_)
 .obtain⟨a,ns,rfl,_⟩:=h;rfl
 .revert h;refine fH λa ns z0 hS aN k=>?_;subst z0;refine⟨_,(qm (PS.at_ (qz 1 ZA.nd (pc0 (zfE T al qw Zu) n al (za (pvS 0) (@za _ _ _ _ _ zj zd rfl))))) (qm (PS.at_ (qz 2 ZA.nd (pc0 (zhp T Z an) n an (za (pt1 Yk T.zhZ SN (pvS 1)) zd)))) (qm (PS.at_ (qz 3 ZA.nd (pc0 (zfF T am) n am (za (pvS 1) (@za _ _ _ _ _ yC zd rfl))))) (qm (PS.at_ (qz 4 ZA.nd (zG yx (pc0 (Qi T qw) n qw (za (pvS 0) (@za _ _ _ _ _ zj zd rfl))) zj))) (qm (znQ Xf rfl (yW (by rfl) T.qN (za (pvS 3) zd)) (xq rfl (zP (pgq 5 ZA.nd) (zP (pgq 6 ZA.nd) jr))) (qm (PS.at_ (@qG _ _ 7 _ _ _ _ ZA.nd rfl (V4 rfl) (@zQ _ _ _ _ _ _ _ jO (@zV _ _ _ _ (@za _ _ _ _ _ yC (@za _ _ _ _ _ yC zd rfl) rfl)) (zG yx (zG jt (pvS 5) (pvS 4)) zj) (λ_ _=>rfl)) (by rfl) (.inr rfl))) (qm (znP (pct aM n ao (PA.at_ (za (pvS 2) (za (pvS 6) (za (pvS 7) zd))))) (xq rfl (zP (pgq 8 ZA.nd) (zP (pgq 9 ZA.nd) jr)))) (PSs.at_ (zf (qR (zO YW (zQ zaB (zQ jO (pvS 1) (zQ qi (pvS 6) zj (λ_ _=>rfl)) (λ_ _=>rfl)) (zQ qi (pvS 6) zj (λ_ _=>rfl)) (λ_ _=>rfl)) yC (qb _)) (zf (qR (zO (jV n.units) (pvS 9) (@zG _ _ _ _ _ _ _ _ JO (@zV _ _ _ _ (@za _ _ _ _ _ zcl (@za _ _ _ _ _ zcl zd rfl) rfl)) (@zG _ _ _ _ _ _ _ _ zhx (@zV _ _ _ _ (@za _ _ _ _ _ zcl zd rfl)) zj)) (qb _)) (@zf _ _ _ (@zF _ _ _ _ zcl)) qd)) (zf (qR (PW.pt (zoG (zO (jV n.units) (pvS 9) (@zV _ _ _ _ zd) (qb _)) (zoG (zO (jV n.units) (zQ jO (zQ qi (pvS 8) zj (λ_ _=>rfl)) zj (λ_ _=>rfl)) (pvS 6) (qb _)) (zpt (zO zeS (zQ qi (pvS 8) zj (λ_ _=>rfl)) (@qj _ _ _ _ _ (@za _ _ _ _ _ yC (@za _ _ _ _ _ yC zd rfl) rfl)) (by rfl)))))) (@zf _ _ _ (@zF _ _ _ _ zcl)) qd)))))))) (PSs.at_ (zf (zF (zao (JQ n.units) (pvS 2) (pvS 1) (qb _)))))))))),?_⟩;(try dsimp only[cxK,cxP,cxW]);refine⟨_,rfl,a,ns,12,rfl,hS,by decide,by decide,λl g H1 _ ab s1 R hm=>?_⟩;have au:=zqF R hm;refine⟨_,rfl,l,_,rfl,.inl (SqL.of ab),λh0 az=>(dH h0 g rfl zb R (λU ay=>?_))⟩;have z2:=(zc (o:=.lst (g.map V.str)) az).trans (zc (o:=.lst (g.map V.str)) ay);have Y:upd (upd H1 h0 (.lst (g.map V.str))) U (.lst (g.map V.str)) U=some (.lst (g.map V.str)):=zb;have ac:=z2 _ _ ab;have s2:=s1.trans z2;generalize upd (upd H1 h0 (.lst (g.map V.str))) U (.lst (g.map V.str))=H2 at *
  refine⟨_,rfl,l,g,"o.",_,rfl,ac,R,λdc wc H3 _ aq aw s3=>?_⟩;refine⟨_,rfl,a,ns,_,rfl,(s2.trans s3).seq hS,by decide,λg2=>⟨_,_,rfl,rfl,(by show (0:Int)<5;decide),?_⟩⟩;have ae:=s3 _ _ ac;have G:=s3 _ _ Y;have rl:Uu (.list (g.map UI))=true:=(zm2 R).l1;refine⟨_,rfl,dc,rfl,⟨_,SqL.of aq⟩,?_⟩;refine yH (K:=K) (l:=dc) (xs:=wc) (λi σ H'=>∃(v5 v6 v7 v8 v9:Option V),σ=[some (.ref a),some (.ref l),some (.ref U),some (.ref dc),some (.int (g2%5)),v5,v6,v7,v8,v9]/\zx H3 H') (dO _ _ _ _ (dJ _ rfl (zx.refl _))) (λi σ H' _ ⟨_,_,_,_,_,_,y⟩=>SqL.of (y _ _ aq)) ?_ ?_
  .refine λi v tt σ H4 hv a4=>gg λv5 v6 v7 v8 v9 z0 s4=>?_;subst z0;refine fU (λc ax m z0 av=>?_) (Cel.get (aw.mono s4) hv);subst z0;have z5:=zc (o:=.tup [.int (i:Nat),.ref m]) a4;refine dW tt _ rfl (SqT.of zb) rfl _ _ rfl _ _ rfl rfl ?_;refine⟨yp,λy hy=>?_⟩;have z6:=zc (o:=.lst [.str "sure",.str "thoughts"]) hy;refine fJ (λwy a5 iw=>?_) (zqL ((i:Int)+g2%5));refine⟨_,rfl,_,rfl,_,_,rfl,rfl,_,_,rfl,rfl,(by show (0:Int)<2;decide),y,_,_,_,rfl,rfl,SqL.of zb,a5,?_⟩;have ak:=z5.trans z6;have x:=s4.trans ak;have j:=ak _ _ av;have aa:=x _ _ G;have af:=x _ _ ae;generalize upd (upd H4 tt (.tup [.int (i:Nat),.ref m])) y (.lst [.str "sure",.str "thoughts"])=H6 at *
   refine fK (λt I h1 h2 a3=>?_) (xC.mp (show (c.1,c.2)∈_ from X8 ax));have ag:atI (g.map V.str) ((c.1:Nat):Int)=some (V.str t):=yU (by rw[Xv,h1];rfl);have ah:atI t.cps.toList ((c.2:Nat):Int)=some I:=yU h2;have a1:I∈fdS.cps.toList:=zmP R (X8 (qD h1)) (X8 h2);have aI:=zoC I a1 a3;have N:c∈Z7 g↔I=46:=by
    constructor
    .intro h;obtain⟨t',k',g1,g2,g3⟩:=xC.mp (show (c.1,c.2)∈_ from h);rw[h1]at g1;cases g1;rw[h2]at g2;cases g2;exact bg (WC.mp g3).2
    .intro e;exact xC.mpr ⟨t,I,h1,h2,by rw[e];decide⟩
   refine⟨_,rfl,_,rfl,_,rfl,U,m,g,c,wy,rfl,iw,aa,R,j,au,λhn t2 b H7 J hb M=>?_,λhc t2 u b H7 J hb A7 M=>?_⟩
   .have O:I=111:=aI.resolve_left λe=>hn (N.mpr e);have d:=M _ _ j;refine dW t2 _ rfl (SqT.of J) rfl _ _ rfl _ _ rfl rfl ?_;refine⟨_,rfl,_,rfl,m,_,0,_,rfl,rfl,SqT.of d,rfl,l,_,_,_,rfl,rfl,SqL.of (M _ _ af),ag,_,rfl,m,_,1,_,rfl,rfl,SqT.of d,rfl,t,_,I,rfl,rfl,R.tlen h1,ah,rfl,_,rfl,yD (by rw[O];decide+kernel) ?_⟩;refine⟨_,rfl,yp,λx1 L=>⟨sz_1,λx2 q=>(eZ x2 8 _ rfl rfl zb (by decide) (by decide) (by show 8<=Xz;decide) (λx3 aj=>(dY x1 x3 _ _ rfl rfl (zc aj _ _ (zc q _ _ zb)) zb (by show 10<=Xz;decide) (λx4 a6=>?_))))⟩⟩;have z:=(zc (o:=.lst [.bl true,.bl true]) L).trans ((zc q).trans ((zc aj).trans (zc (o:=.lst ([V.bl true,V.bl true]++(WZ (Int.toNat 8) [V.bl false]).flatten)) a6)));refine dH (.list (zkT.map UM)) (.list (zkT.map UM)) (.lst (SqL.of (z _ _ hb)) (zfN zkT)) (.lst (SqL.of zb) (zfN zkT)) ⟨rfl,rfl,by decide⟩ ⟨_,rfl,jE (zfO rfl) ?_⟩;exact dO _ _ _ _ (dJ _ rfl (x.trans (M.trans z)))
   .have ar:=N.mp hc;have d:=M _ _ j;refine dW t2 _ rfl (SqT.of J) rfl _ _ rfl _ _ rfl rfl ?_;refine⟨_,rfl,_,rfl,m,_,0,_,rfl,rfl,SqT.of d,rfl,l,_,_,_,rfl,rfl,SqL.of (M _ _ af),ag,_,rfl,m,_,1,_,rfl,rfl,SqT.of d,rfl,t,_,I,rfl,rfl,R.tlen h1,ah,rfl,_,rfl,jE (by rw[ar];decide+kernel) ?_⟩;refine⟨_,rfl,x9,λx1 L=>?_⟩;have z:=zc (o:=.lst []) L;refine dH (.list []) (.list []) (.lst (SqL.of (z _ _ hb)) .nil) (.lst (SqL.of zb) .nil) ⟨rfl,rfl,by decide⟩ ⟨_,rfl,jE (zfO rfl) ?_⟩;refine fM (λwe r p ws=>fO λie ai a2=>?_) (A7.mono z);have B:=z _ _ d;refine⟨_,rfl,u,_,1,_,rfl,rfl,SqT.of ai,rfl,r,_,0,_,rfl,rfl,SqL.of a2,Y0 (by decide) rfl,_,rfl,zv c,zv c,yO.rdv ⟨m,rfl,B⟩,yO.rdv ⟨m,rfl,B⟩,zr4 c,_,rfl,jE (zfO rfl) ?_⟩;refine⟨_,rfl,u,_,0,_,rfl,rfl,SqT.of ai,rfl,yp,λx2 q=>?_⟩;refine dR x2 _ rfl (.inr (SqT.of zb)) rfl rfl ⟨_,rfl,jE (zm3 ie) ?_⟩;exact dO _ _ _ _ (dJ _ rfl (x.trans (M.trans (z.trans (zc q)))))
  .refine λσ H4=>gg λv5 v6 v7 v8 v9 z0 s4=>?_;subst z0;refine⟨_,rfl,_,rfl,.list (g.map UI),.list (g.map UI),.lst (SqL.of (s4 _ _ G)) (zct g),.lst (SqL.of (s4 _ _ ae)) (zct g),zm2 R,?_⟩;rw[zoB rl];exact k _
def all_mk {l:Pl}{w:Xd}{K:XZ}{h:Heap}{mg:Str->Option X9}{fa:Addr}{L:Tok}{M:Tok}{j:Tok}{N:Tok}{O:Tok}{Q:Tok}{U:Tok}{Y:Tok}{aa:Tok}{ab:Tok}{m:Tok}{jai:Addr}{jaj:Addr}{jad:Addr}{jaa:Addr}{jac:Addr}{jab:Addr}{jah:Addr}{jaf:Addr}{jae:Addr}{jag:Addr}(X:K.In h)(G:h.Ns XV mg)(n:mg "law"=some (.ref fa))
  (Z8:HasDef K "board_of" Ys)
  (yP:HasDef K "checked_rows" xh)
  (J5:HasDef K "check_row" Zk)
  (aF:HasDef K "closed" ZM)
  (Jh:HasDef K "open_cells" qL)
  (aG:HasDef K "around" jP)
  (J6:HasDef K "number_at" jz)
  (aH:HasDef K "opened" zaH)
  (Z9:HasDef K "cells_of" qk)
  (Qq:HasDef K "sign_at" qq)
  (Yb:HasDef K "field_of" Yt)
  (J7:HasDef K "stones_of" Zl)
  (J8:HasDef K "clears_of" Zm)
  (Ji:HasDef K "cells_with" yf)
  (Yc:HasDef K "board_at" Yu)
  (aO:HasDef K "parts" zcf)
  (aI:HasDef K "joined" Qf)
  (bb:HasDef K "far" zi4)
  (Jj:HasDef K "numbers_of" yg)
  (Jk:HasDef K "bare_wrong" Jw)
  (yv:HasDef K "closed_around" qQ)
  (yQ:HasDef K "part_layings" jY)
  (Yd:HasDef K "needs_at" xw)
  (Qs:HasDef K "may_fit" JH)
  (xD:HasDef K "part_counts" xT)
  (Qt:HasDef K "counted" JI)
  (Jl:HasDef K "counted_at" Jx)
  (Qu:HasDef K "choices" Qx)
  (aJ:HasDef K "poured" zaI)
  (xE:HasDef K "near_counts" xU)
  (aP:HasDef K "count" zcg)
  (j9:HasDef K "counts_by_cell" yh)
  (Jm:HasDef K "all_poured" Jy)
  (aQ:HasDef K "dealt" zch)
  (Ye:HasDef K "fraction" Yv)
  (jB:HasDef K "greatest_divisor" ja)
  (aK:HasDef K "shares" zaJ)
  (Jo:HasDef K "some_count" Jz)
  (aS:HasDef K "sure" zfg)
  (Yg:HasDef K "asked_by" Yw)
  (Yh:HasDef K "known_of" Yx)
  (xF:HasDef K "still_asked" xV)
  (aM:HasDef K "gained" zaK)
  (Qv:HasDef K "settled" ZN)
  (Yi:HasDef K "thoughts" Yy)
  (J9:HasDef K "all_steps" Zn)
  (xG:HasDef K "place_lists" xW)
  (Jp:HasDef K "first_step" JA)
  (bc:zcd K "run" zbA "sure")
  (xH:HasDef K "found_clear" xX)
  (xJ:HasDef K "_law_cell_at" yr)
  (Za:HasDef K "_law_mixed" Ja)
  (Zb:HasDef K "_law_field" Zo)
  (Zc:HasDef K "_law_cells" Zp)
  (Yj:HasDef K "_law_told" Yz)
  (be:HasDef K "law" zgy)
  (Jq:XQ K XV "ValueError"=some none)
  (bi:XQ K XV "abs"=some none)
  (bj:XQ K XV "any"=some none)
  (aT:XQ K XV "dict"=some none)
  (Zd:XQ K XV "enumerate"=some none)
  (bm:XQ K XV "int"=some none)
  (Jr:XQ K XV "isinstance"=some none)
  (bn:XQ K XV "len"=some none)
  (aU:XQ K XV "list"=some none)
  (bo:XQ K XV "max"=some none)
  (aV:XQ K XV "min"=some none)
  (aR:XQ K XV "range"=some none)
  (aW:XQ K XV "set"=some none)
  (aN:XQ K XV "sorted"=some none)
  (aX:XQ K XV "str"=some none)
  (aY:XQ K XV "sum"=some none)
  (aZ:XQ K XV "zip"=some none)
  (ba:XQ K XV "ALL"=some (some (.str "all" L)))
  (xK:XQ K XV "BOARD_SIGNS"=some (some (.str "?012345678#" M)))
  (Js:XQ K XV "CLEAR_SIGN"=some (some (.str "." j)))
  (g:j≠0) (b:j<448)
  (xM:XQ K XV "CLOSED_SIGN"=some (some (.str "?" N)))
  (xN:XQ K XV "FIELD_SIGNS"=some (some (.str ".o#" O)))
  (yR:XQ K XV "LONGEST_SIDE"=some (some (.int 8 Q)))
  (yS:XQ K XV "MOST_OF_PART"=some (some (.int 14 U)))
  (xO:XQ K XV "MOST_STONES"=some (some (.int 64 Y)))
  (xP:XQ K XV "MOST_THINGS"=some (some (.int 30 aa)))
  (yT:XQ K XV "NO_CELL_SIGN"=some (some (.str "#" ab)))
  (Jt:XQ K XV "STONE_SIGN"=some (some (.str "o" m)))
  (i:m≠0) (d:m<448)
  (I:XQ K XV "StoneError"=some (some (.ref jai)))
  (al:WN K jai Jg "ValueError.__new__"=true)
  (J:XQ K XV "TooGreat"=some (some (.ref jaj)))
  (am:WN K jaj Jg "ValueError.__new__"=true)
  (a6:XQ K XV "NoLaying"=some (some (.ref jad)))
  (ag:WN K jad Jg "ValueError.__new__"=true)
  (a3:XQ K XV "NoBoard"=some (some (.ref jaa)))
  (ac:WN K jaa Jg "ValueError.__new__"=true)
  (a5:XQ K XV "NoCount"=some (some (.ref jac)))
  (af:WN K jac Jg "ValueError.__new__"=true)
  (a4:XQ K XV "NoCell"=some (some (.ref jab)))
  (ae:WN K jab Jg "ValueError.__new__"=true)
  (H:XQ K XV "NoText"=some (some (.ref jah)))
  (ak:WN K jah Jg "ValueError.__new__"=true)
  (a8:XQ K XV "NoRow"=some (some (.ref jaf)))
  (ai:WN K jaf Jg "ValueError.__new__"=true)
  (a7:XQ K XV "NoNumber"=some (some (.ref jae)))
  (ah:WN K jae Jg "ValueError.__new__"=true)
  (E:XQ K XV "NoTable"=some (some (.ref jag)))
  (aj:WN K jag Jg "ValueError.__new__"=true)
  (ao:Vh K (.ref jab) "__getattribute__"=some (some (.builtin "BaseException.__getattribute__")))
  (o:Vh K (.ref jab) "__getattr__"=some none)
  (A:Vh K (.ref jab) "__class__"=some (some (.builtin "object.__class__")))
  (B:Vo K jab (.type "BaseException")=some true)
  (a9:Vo K jab (.type "object")=some true)
  (aA:Tp K jab=true)
  (aB:Vo K jab (.ref jai)=some true)
  (aC:Xc K (.ref jab) (.ref jab)=some true)
  (aD:Xc K (.ref jab) (.ref jac)=some false)
  (aE:Xc K (.ref jab) (.ref jaj)=some false)
  (p:Xc K (.ref jab) (.ref jad)=some false)
  (q:Xc K (.ref jab) (.ref jaa)=some false)
  (r:Xc K (.ref jab) (.ref jah)=some false)
  (u:Xc K (.ref jab) (.ref jaf)=some false)
  (x:Xc K (.ref jab) (.ref jae)=some false)
  (y:Xc K (.ref jab) (.ref jag)=some false)
  (z:Xc K (.ref jab) (.type "ValueError")=some true) :
  ∃fd:XH,(∀(s:X7) (v:X9),ON s fd ⟨[v],[]⟩ [("_law_script",v)])/\∀base:Heap,K.In base->base.Ns XV mg->Jf 448 l.prog w K mg base CX0 14 fa fd ["_law_script"] (zjE K):=by
 revert be;refine fQ λf oc od an sl kV dc pm=>fH λcd ct a l0 c k=>?_;have e:=n.symm.trans (WW X G a);cases e;have T:Txt mg:=⟨WR X G Jq,WR X G bi,WR X G bj,WR X G aT,WR X G Zd,WR X G bm,WR X G Jr,WR X G bn,WR X G aU,WR X G bo,WR X G aV,WR X G aR,WR X G aW,WR X G aN,WR X G aX,WR X G aY,WR X G aZ,⟨_,WW X G ba⟩,⟨_,WW X G xK⟩,⟨_,WW X G Js,g,b⟩,⟨_,WW X G xM⟩,⟨_,WW X G xN⟩,⟨_,WW X G yR⟩,⟨_,WW X G yS⟩,⟨_,WW X G xO⟩,⟨_,WW X G xP⟩,⟨_,WW X G yT⟩,⟨_,WW X G Jt,i,d⟩⟩;have Z:Prog K mg:=⟨Z8.at X G,yP.at X G,J5.at X G,aF.at X G,Jh.at X G,aG.at X G,J6.at X G,aH.at X G,Z9.at X G,Qq.at X G,Yb.at X G,J7.at X G,J8.at X G,Ji.at X G,Yc.at X G,aO.at X G,aI.at X G,bb.at X G,Jj.at X G,Jk.at X G,yv.at X G,yQ.at X G,Yd.at X G,Qs.at X G,xD.at X G,Qt.at X G,Jl.at X G,Qu.at X G,aJ.at X G,xE.at X G,aP.at X G,j9.at X G,Jm.at X G,aQ.at X G,Ye.at X G,jB.at X G,aK.at X G,Jo.at X G,aS.at X G,Yg.at X G,Yh.at X G,xF.at X G,aM.at X G,Qv.at X G,Yi.at X G,J9.at X G,xG.at X G,Jp.at X G,zqH bc X G,xH.at X G,xJ.at X G,Za.at X G,Zb.at X G,Zc.at X G,Yj.at X G⟩;have F:=zk5 (st:=zgy) l0 c k;have D:zh K mg "law" zgy ["_law_script"] _ _:=⟨F,WW X G a,F.binds (ps:=["_law_script"]) (λ_ _ _ _ _ _=>us1 λ_=>rfl)⟩;have a1:qO K mg "StoneError" jai:=⟨WW X G I,al⟩;have a2:qO K mg "TooGreat" jaj:=⟨WW X G J,am⟩;have av:qO K mg "NoLaying" jad:=⟨WW X G a6,ag⟩;have aq:qO K mg "NoBoard" jaa:=⟨WW X G a3,ac⟩;have au:qO K mg "NoCount" jac:=⟨WW X G a5,af⟩;have ar:qO K mg "NoCell" jab:=⟨WW X G a4,ae⟩;have az:qO K mg "NoText" jah:=⟨WW X G H,ak⟩;have ax:qO K mg "NoRow" jaf:=⟨WW X G a8,ai⟩;have aw:qO K mg "NoNumber" jae:=⟨WW X G a7,ah⟩;have ay:qO K mg "NoTable" jag:=⟨WW X G E,aj⟩;have FC:Facts K jab jai jab jac jaj jad jaa jah jaf jae jag true false:=⟨⟨ao,o,A,B,a9,aA⟩,aB,aC,aD,aE,p,q,r,u,x,y,z⟩;exact⟨_,λs v=>.of_eq rfl,λbase _ _=>zqM T a1 a2 av aq au ar az ax aw ay FC Z D⟩
def walk {l:Pl}{q:Xs}{loose:AD}{XP:(Str->Option X9)->Heap->Prop}{YP:Xd->Heap->Prop}{d:Oq}{K:N8->XZ}(j:l.most=some 63)(b:d.params.defaults=[])
  (g:∀(w:Xd) (h:Heap),YP w h->(K w.params).In h)
  (F:∀(w:Xd) (mg:Str->Option X9) (c:Addr) (h:Heap),(K w.params).In h->h.Ns XV mg->mg d.name=some (.ref c) ->
   ∃fd:XH,(∀(s:X7) (u:X9),ON s fd ⟨[u],[]⟩ [("_law_script",u)])/\∀base:Heap,(K w.params).In base->base.Ns XV mg->Jf 448 l.prog w (K w.params) mg base CX0 14 c fd ["_law_script"] (zjE (K w.params))) :
  zcj 448 q loose XP YP l.row.toRowW d [] (λf vs=>PySem.call f vs) :=
 L2.zlP (n:=63) (k:=14) (x:="_law_script") (CX:=λ_=>CX0) (sp:=λw=>zjE (K w.params)) j (by decide) b ⟨rfl,by decide,by decide⟩ g F (λ_ _ a m i _ e=>⟨a,m,rfl,e,i,λ_=>rfl⟩) λ_ _ _ _ _ z=>z
end K65
open PySem PySem.W PyProof.Rows
set_option maxRecDepth 100000 in
set_option maxHeartbeats 0 in
theorem PySem.Challenge.cw_stonelay_k65_no_first_cell_holds : PySem.Challenge.rw_stonelay_k65_no_first_cell.Holds := by
 refine JM.early λ{q XP YP d K} hdf hY hn F=>?_;refine K65.walk (l:=PySem.Challenge.rw_stonelay_k65_no_first_cell) rfl hdf hY λw mg fa h KX G hmg=>?_;rw[hn]at hmg;refine L2.GS.via λGG hGG=>?_;obtain⟨Z8,yP,J5,zag,Jh,zah,J6,zai,Z9,Qq,Yb,J7,J8,Ji,Yc,zb2,zaj,zis,Jj,Jk,yv,yQ,Yd,Qs,xD,Qt,Jl,Qu,zak,xE,zb3,j9,Jm,zb4,Ye,jB,zal,Jo,zeF,Yg,Yh,xF,zam,Qv,Yi,J9,xG,Jp,zit,xH,xJ,Za,Zb,Zc,Yj,ziu,Jq,ziv,ziw,zeG,Zd,zix,Jr,ziy,zeH,ziz,ziA,zb5,ziB,zan,ziC,ziD,ziE,⟨_,ziF⟩,⟨_,xK⟩,⟨_,Js,tz_CLEAR_SIGN,tl_CLEAR_SIGN⟩,⟨_,xM⟩,⟨_,xN⟩,⟨_,yR⟩,⟨_,yS⟩,⟨_,xO⟩,⟨_,xP⟩,⟨_,yT⟩,⟨_,Jt,tz_STONE_SIGN,tl_STONE_SIGN⟩,⟨_,_,_,_,_,_,_,_,_,_,jaC,jaD,jax,jau,jaw,jav,jaB,jaz,jay,jaA,jaX,jaY,jaS,jaP,jaR,jaQ,jaW,jaU,jaT,jaV,jaZ,ja0,ja8,ja9,jba,jbb,jbc,jbd,jbe,jbf,ja1,ja2,ja3,ja4,ja5,ja6,ja7⟩⟩:=F w;refine hGG ?_;exact K65.all_mk KX G hmg Z8 yP J5 zag Jh zah J6 zai Z9 Qq Yb J7 J8 Ji Yc zb2 zaj zis Jj Jk yv yQ Yd Qs xD Qt Jl Qu zak xE zb3 j9 Jm zb4 Ye jB zal Jo zeF Yg Yh xF zam Qv Yi J9 xG Jp zit xH xJ Za Zb Zc Yj ziu Jq ziv ziw zeG Zd zix Jr ziy zeH ziz ziA zb5 ziB zan ziC ziD ziE ziF xK Js tz_CLEAR_SIGN tl_CLEAR_SIGN xM xN yR yS xO xP yT Jt tz_STONE_SIGN tl_STONE_SIGN jaC jaX jaD jaY jax jaS jau jaP jaw jaR jav jaQ jaB jaW jaz jaU jay jaT jaA jaV jaZ ja0 ja8 ja9 jba jbb jbc jbd jbe jbf ja1 ja2 ja3 ja4 ja5 ja6 ja7