import PyProof.Rows.All
import KE.IntBitsLaws
import KE.KDictOf
import KE.KDictSum
import KE.KIntText
import KE.KSortTup
import KE.LcSums
import KE.RegKIsAll
import KE.KNestM
import KE.KPairComp
import KE.KRevSl
import Lean
import PySem.Challenge.RW_stonelay_k63_runs_by_thoughts
open List renaming length_map->ZB,mem_of_getElem?->X7,getElem?_eq_some_iff->X6,getElem?_eq_getElem->X0,length_append->XZ,mem_filter->XW,mem_append->XV,mem_cons_self->XU,mem_cons_of_mem->XS,getD_eq_getElem?_getD->XN,length_take->XH,mem_cons->XG,take_length->XF,mem_map->XE,map_append->XD,take_add_one->XC,mem_singleton->Xy,size_toArray->Xx,map_cons->Xs,getElem?_map->Xp,filter_sublist->Xn,mem_append_right->Xm,length_cons->Xf,take_append_drop->Xc,mem_append_left->Xa,append_nil->W5,replicate->W1,perm_ext_iff_of_nodup->WV,countP_eq_length_filter->WR,length_filter_le->WP,filter_append->WJ,any_eq_true->WH,flatten_cons->WF,nodup_append->WE,mem_flatten->WD,append_assoc->Ww,drop_eq_getElem_cons->Wt,map_map->Wf,mem_range->We,take_of_length_le->Wd,map_congr_left->Wa,nodup_cons->V8,foldl_cons->V6,filter_cons->V5,pairwise_map->V3,range->VU,mem_of_mem_take->VM,filter_eq_nil_iff->VI,getElem?_append_left->VH,replicate_succ->VF,not_mem_nil->Vx,countP_cons->Vw,length_eq_zero_iff->Vv,length_range->Vt,getElem?_append_right->Vq,flatten_append->Vn,mem_filterMap->Vg,length_mapIdx->Vf,filter_congr->U3,filterMap_cons->UZ,flatMap_append->UX,length_pos_of_mem->US,sublist_flatten_of_mem->UO,sum_cons->UN,length_drop->UM,getElem_mem->UK,nodup_nil->UH,filter_filter->UD,exists_mem_of_ne_nil->Uz,getElem?_eq_none_iff->Uy,sum_append->Uw,length_reverse->Ul,take_succ_cons->Uj,length_pos_iff->Ui,all_eq_true->Ud,any_map->T4,ne_nil_of_mem->T3,find?_cons->T0,length_nil->TZ,perm_append_comm->TW,countP_le_length->TR,flatMap_cons->TK,mem_reverse->To,nil_sublist->Tn,pairwise_iff_getElem->Tl,map->Tf,sublist_append_left->S8,take_sublist->SO,getElem?_set_self->SH,countP_eq_countP_filter_add->SF,length_replicate->SA,getElem?_eq_none->Sx,lookup_cons->Ss,map_id->Sf,getElem?_set_ne->Se,getElem?_of_mem->R9,of_mem_zip->R6,range_succ->R5,getElem_of_mem->R0,drop_drop->RC,getElem?_zip_eq_some->Rt,extract_eq_take_drop->Rs,isEmpty_eq_false_iff->Rp,mem_or_eq_of_mem_set->Ro,lookup->Rm,any_eq_false->Rj,foldl_append->Re,getElem?_take_of_lt->QP,isEmpty_iff->P3,cons_append->P0,mem_flatMap->PV,getElem?_replicate->PU,Nodup->Pz,length_set->Pj,mem_iff_getElem?->Pd,set_append_right->O8,filter->OV,pairwise_append->OJ,getElem?_mapIdx->OH,map_eq_nil_iff->Ow,toList_toArray->Ou,length_flatten->Oq,findSome?_cons->Op,any_cons->On,map_nil->N4
open PySem renaming wpAny_bind->Y1,Value->X9,Shared->X8,mainGlobals->XT,wpAny_pure->XR,FuncData->XI,sizeLine->Xz,wpAny->Xw,model->Xv,Program->Xu,boot_len->Xl,Paired->Xk,starEach->Xh,World->W9,Around->WZ,wpAny_mono->WM,mem_of_lookup->WA,SetTable->Wx,wpAny_holding->Wp,foldedSetIterable->Wj,compareOp->Wi,PyData->Wh,wpAny_loadPart'->V7,wpAny_truthy_bool->VS,wpAny_newObj_type->VR,wpAny_loadPart_at->VQ,tupleKind->VO,codeAny_builtin->VL,cLine->VE,wpAny_execs_nil->VB,sysModules->Vz,wpAny_Call_Name_kw->Vy,wpAny_passesOwn->Vm,wpAny_execs_cons->Vk,Scope->Ve,relabel->Vc,Spec->U2,backTo->UV,bootBuiltins->UU,codeAny_mono->UT,wpAny_call_entry->UL,wpAny_rule->UI,Builtin->UB,builtinLookup_eq_fast->UA,plainId_quiet->Ur,codeAny->Uo,storedH->Um,GenState->Uh,binaryOp->Ug,treeTable->Uf,rawInt->Ua,wpAny_dictEntries->TM,codeAny_call_builtin->Tw,swapsWith->Tt,wpAny_forIn_list->Tp,compEnvC->Th,behindInMarks->Td,wpAny_standAt->Tc,wpAny_comprehension_free->S9,wpAny_specialOf->S6,typeLookup_type->S5,entryOfKey->S4,assignEach->S2,tupleKind_room_in1->S1,sizeLine_eq->SZ,sliceBounds->SY,callerA->SX,wpAny_Assign_Name->SR,wpAny_pyIter_list->SQ,wpAny_pyIter_enum->SN,wpAny_setState_of->SM,ofAClassStatement->SL,wpAny_isTrue_Compare1->SD,cellsFrom->Sw,DictEntry->Sv,comprehension->Sl,wpAny_attempt->Sk,NameKind->Sh,wpAny_newFunctionEnv->Sc,letOwnedTupleGo->R7,wpAny_setEntries_of->RZ,wpAny_typeOf->RW,partValue->RQ,Model->RP,pyNext->RO,builtinsNs->RM,wpAny_call->RL,call_meets->RK,firstArgMember->RG,wpAny_setField->RD,wpAny_newFunctionEnv_cells->Rv,unsupported->Rn,attributeBase->Ra,setSearchFrom->QR,pickOrder->P5,checkBuiltinCall->P1,wpAny_isInstance->PZ,wpAny_askSetting->PX,wpAny_callSpecial?_slot->PN,Result->PK,classAt->PJ,typeLookup->PD,closureFor->PB,seqIndex_neg->Px,wpAny_getItem_list_neg->Pr,wpAny_Call_method_late->Pq,codeAny_compStart_list->Pp,wpAny_looks_onW->Pi,codeAny_call_function->Pf,wpAny_notOrdered_dict->Pe,codeAny_handlers_test->O9,again->O6,seqIndex_of->O0,subscripted->OZ,wpAny_of_eq->OY,storedH_new->OX,hashByValue->OW,intText?->OQ,newFunctionEnv->OP,isSubtype_type->OO,getItem->OE,BindsTo->OD,Keyword->OC,valueAt->OA,noteFrame->Oz,wpAny_Tuple_spliced->Oy,wpAny_handleBy_cons->Ot,atKey->Oo,dictSetHashed->Om,wpAny_newList->Oj,DefRec->Oi,typeIs_str->Of,spliced->Ob,OsState->Oa,bindArgs->N8,ReadsAll->N7,wpAny_landsW->N1,Params->NX,pyIter->NW,Arguments->NV,PassesOwn->NS,pushCells->NR,keywordEach->NQ,wpAny_throw->NP,Drawn->NN,bindL->NM,bindC->NL,IntMulOk->NI,getAttr?->NH,entryFor->NG,CmpOp->NE
open Nat renaming le_trans->X5,le_refl->XQ,lt_of_le_of_lt->XM,lt_of_lt_of_le->Xq,ne_of_lt->Xi,zero_le->W2,lt_succ_of_lt->WC,le_succ->Wb,lt_irrefl->VX,zero_add->VT,succ_ne_self->Vj,le_add_right->Vh,pow_le_pow_right->U4,ne_of_gt->T7,lt_or_ge->T6,not_lt_zero->TY,le_succ_of_le->TQ,le_of_lt->Ts,lt_trans->Tr,sub_self->SV,succ_pos->SU,lt_succ_self->Sr,succ_le_succ->Sq,mod_lt->RJ,mul_le_mul->RI,add_sub_cancel->Rx,lt_trichotomy->Rc,add_sub_cancel_left->PL,mul_comm->Pw,add_le_add_right->ON,pow_lt_pow_right->OI,not_lt->Oe,succ_mul->N5,pow_succ->N2
open PySem.W renaming Frag->X4,nsIn->XO,kitOne->Xb,mg_none_of->WT,mg_of->WS,excIn->WI,mroIn->Wq,fnOf->V0,kia_one->VZ,keepIn->VD,findIn->VC,hashAt->Vu,codeIn->U7,callWith_K->UE,openEnds->TF,hideAll_get->Tk,looks_mroIn->Tj,isClsIn->S7,cellsFrom_some->SG,looks_findIn->Sb,methodObj->Rl,instObj->Pk,OpenLaw->Ph,lookIn->OR,Ground->NY,GoodWG->NJ
open PySem.Heap renaming get?_push_of_some->XY,lt_size->XA,get?_push_size->Xg,get?_update_self->WG,SameBut->Wg,get?_update_other->VJ,size_push->U6,get?_none_of_le->Us,get?_update_ne->RY,HeldW->Oc,FlyingW->N3
open Array renaming length_toList->XX,getElem?_toList->W6,toList_append->Wz,getElem?_eq_none->Wy,getElem?_eq_some_iff->Vp,getElem?_eq_getElem->Vl,size_map->U5,toList_map->UJ,perm_iff_toList_perm->UC,toList_setIfInBounds->Tu,size_append->SJ,mem_toList_iff->Sd,getElem_toList->Sa,getElem?_setIfInBounds->R3,append_assoc->Rz,forIn_toList->Ry,getElem?_replicate->P8,toList_extract->OL,toList_reverse->OK,toList_filter->Ox
open Bool renaming false_ne_true->XJ,eq_false_iff->WY,and_eq_true_iff->WN,false_eq_true->Wc,eq_iff_iff->V9,not_eq_true'->V4,and_eq_true->Vi
open PySem.SetTable renaming bits->XB,below->Xo,insertAt->Xe,turns->W3,runEnd->VA,leap->Va,grown->Ue,sizeAbove->S0,Probe->RE,advance->PY,fill->Ol
open PyProof.Rows renaming wpS_bind->Xr,wpS_pure->Xj,arrOf->W7,pendingOf->W4,boot_isinstance->WQ,SortSt->WO,Keyed->WL,boot_sorted->VV,callWith_type1->VP,boot_list->UR,boot_dict->UP,pairsOf_toList->UG,seqObj->T9,boot_min->TV,boot_any->TU,SortKind->TB,failedOf->Tz,AllBare->SW,boot_max->Sy,wpS_modify->Su,reverseSlice'->Si,envOfC->R8,wpS_get->RX,wpS_forRange->RU,mem_zip_self->RT,listItems_at->Rr,subscriptTail->Rb,wpS_lift->P6,pairsOf->PH,setPending->Py,subscriptTail_builtinR->Ps,boot_sum->O7,IntsAre->OB,getElem?_mirror_all->Ov,Subscript_->Og,IsTup->NO,signs->NK,wpS_mono->NF
open PySem.PassesOwn renaming never->Xd
open PySem.F renaming plainAttrs_list->WX,slot_list_append->Wo,type_list_append->Wn,slot_list_extend->U9,type_list_extend->U8,typeOf_object_class->TJ,slot_dict_get->Sz,excBase_ValueError->Ru,slot_dict_update->P9,args_dict_get_3->PQ,plainAttrs_dict->PP,plain_list_iadd->PM,entry_dict_get->Po,slot_set_iter->Pb,plain_set_new->Pa
open PySem.PyData renaming eqv->WW,canLayAll0->Wv,canLay0->Ws,depthAll->Wl,str->V1,bool->Uu
open PySem.Value renaming ref->WU,int->Vo,none->U1,builtin->Ta,type->PF,bool->Oh,str->NU
open False renaming elim->WK
open Int renaming emod_lt_of_pos->WB,emod_nonneg->Wu,gcd->VN,le_trans->Vb,le_refl->Uv,toNat_of_nonneg->Uk,le_of_lt->T5,gcd_dvd_right->SK,gcd_dvd_left->So,mul_le_mul_of_nonneg_right->Sm,zero_add->RS,mul_le_mul->RA,toNat_natCast->Rf,mul_comm->Pu,le_ediv_iff_mul_le->Pl,natCast_add->Pg,pow_pos->OU,pow_add->OT,ofNat_le->N0,mul_zero->NZ
open PySem.Heap.SameBut renaming update->Wr
open Or renaming inl->Wm,inr->RN
open PySem.Around renaming under_plainId->V2
open ForInStep renaming yield->VY,done->SS
open Option renaming isSome_iff_exists->VW,map_eq_some_iff->Vr,map_some->Ux,getD_some->Tq
open Classical renaming byContradiction->VG
open PySem.SetTable.below renaming go->Vs
open Ne renaming symm->Vd
open PySem.Obj renaming mapSeq->U0,mapFields->TX,data_mapDictKeys->Tv,isFreed_of_dict->R1
open List.Perm renaming length_eq->UY,append_left->Pc
open PyProof.Rows.F renaming plain_set_update_loop->UW,entry_set_update_loop->Ti
open List.Sublist renaming length_le->UQ
open PySem.Calls renaming spliced_cons->UF,callWith_builtin->T2,evalArgs_plain->Tx,Name_function_global->Rw,call_function_entry->Rq,spliced_nil->Ri
open PySem.Txt renaming replace->Ut
open PySem.Builtin.List renaming listTooLong->Uq,listExtendWith->RR,listSameRef->P7
open PySem.Builtin.Str renaming occurrences->Uc,strSliceIndices->TH
open PySem.Builtin.Dict renaming updateFrom->Ub,entriesForEmpty->R4,addKeywords->Qr,selfAndRest->Qb,pairItems->Pn,mergeDict->Pm,quietEq->OM
open True renaming intro->T8
open PySem.Str renaming join->T1
open PySem.SetTable.probe renaming go->TL
open PySem.ExcName renaming means->Te
open PySem.NameKind renaming cell->Tb
open PySem.Shared renaming TypeIs->Sj
open Prod.mk renaming injEq->QQ
open PySem.W.WData renaming layableAll->P4
open Sum renaming inl->OG,inr->OF
open PySem.BindsTo renaming of_defaults->Os
open PUnit renaming unit->Od
open PySem.W.Hook renaming obs->N9
open PySem.W.RowW renaming records->N6
set_option Elab.async false
set_option linter.all false
set_option maxRecDepth 100000
theorem bq{c:Prop}{h:Decidable c}(n:¬c){α:Sort _}{t e:α}:ite c t e=e:=if_neg n
theorem bw{c:Prop}{h:Decidable c}(n:c){α:Sort _}{t e:α}:ite c t e=t:=if_pos n
theorem br{p:Prop}[Decidable p](h:p):decide p=true:=decide_eq_true h
theorem bu{p:Prop}[Decidable p]:(decide p=true)=p:=decide_eq_true_eq
theorem bf{p:Prop}[Decidable p](h:¬p):decide p=false:=decide_eq_false h
theorem bg{p:Prop}[Decidable p](h:decide p=true):p:=of_decide_eq_true h
namespace Zm
open PySem PySem.W
section
open PySem.Calls PyProof.Rows
abbrev zc5 (n0:Nat)(q:Xu)(loose:List Str)(XP:(Str->Option X9)->Heap->Prop)(YP:W9->Heap->Prop)(r:RowW)(d:Oi)(kwd:List (Str×Expr))(run:X9->List X9->Sem X9):Prop :=
 ∀(w:W9) (s₀ s₁:X8) (mg mb:Str->Option X9),NY q loose r.records XP w s₀ mg mb s₁.heap->YP w s₁.heap->n0<=s₁.toks->∀(a:Addr) (o:Obj) (pm cd doc dV kV:X9),s₁.heap.get? a=some o ->
  o.data=.func { docDef d.name d.params d.body d.scope pm cd doc with defaults:=dV,kwdefaults:=kV }->s₁.heap.CodeRec cd d.name->Dflts mg s₁.heap d.params kwd dV kV->mg d.name=some (.ref a)->s₁.gens=#[] ->
  ∀(args:List WData) (vals:List X9) (as:List Addr),r.claim.pre args=true->P4 args=true->ReadsAllW r.records (PJ s₀.heap) s₁.heap vals args as->WellAll w.params s₁.heap vals args->(∀a∈as,(a==Vz)=false) ->
   Xw (Xv r.prog w) SX (run (.ref a) vals) (λv s'=>NJ r.claim (PJ s₀.heap) (Te s₀.heap) args s₁ (.ok (.ret v)) s')
    (λe s'=>NJ r.claim (PJ s₀.heap) (Te s₀.heap) args s₁ (.error e) s') s₁
theorem zkQ{n0:Nat}{r:RowW}{run:X9->List X9->Sem X9}{tree:List X9->Sem Fin}{q:Xu}{loose defs kps:List Str}{writes:Bool}{Xt:X8->Bool}{XP:(Str->Option X9)->Heap->Prop}{α:Type}{Yf:X8->α}{Ya:W9->α}{YP:W9->Heap->Prop}{N:Nat}
  (left:LeftO r.prog q loose Xt (λs=>(Yf s,decide (n0<=s.toks))) (λw=>(Ya w,true)) N) (hY:∀w s,Yf s=Ya w->YP w s.heap) (hYk:∀w h h',YP w h->(∀b o,h.get? b=some o->h'.get? b=some o)->YP w h') (hX:∀s,Xt s=true->XP (s.heap.nsMap XT) s.heap) (hXk:∀mg h h',XP mg h->(∀b o,h.get? b=some o->h'.get? b=some o)->XP mg h')
  (hRf:∀s,Xt s=true->RecFacts r.records s.heap) (hwr:(!writes || r.records.isEmpty)=true) (ok:(chainsOk q&&opensWell r.prog&&(frees r&&r.within.isEmpty))=true) (hb:r.prog.bare) (hw:r.promised)
  (ht:∀vs (w:W9) (s:X8) mg f (Q:Fin->X8->Prop) (E:X9->X8->Prop),s.heap.Ns XT mg->mg r.name=some f->Xw (Xv r.prog w) SX (run f vs) (λv s'=>Q (.done (.ret v)) s') E s->Xw (Xv r.prog w) SX (tree vs) Q E s)
  (pin:∀w s,s.heap.isNs XT=true->NY q loose [] XP w s (s.heap.nsMap XT) (s.heap.nsMap RM) s.heap->∀n∈defs,isTheDefsW r.prog s.heap n)
  (call:∀(w:W9) (s₀ s₁:X8) (mg mb:Str->Option X9),NY q loose r.records XP w s₀ mg mb s₁.heap->YP w s₁.heap->n0<=s₁.toks->∀(args:List WData) (vs:List X9) (as:List Addr),
   r.claim.pre args=true->P4 args=true->Laid r.records w s₀ s₁ args vs as->Vz<s₀.heap.objs.size->∃f,mg r.name=some f /\
    Xw (Xv r.prog w) SX (run f vs) (λv s'=>NJ r.claim (PJ s₀.heap) (Te s₀.heap) args s₁ (.ok (.ret v)) s')
     (λe s'=>NJ r.claim (PJ s₀.heap) (Te s₀.heap) args s₁ (.error e) s') s₁):r.claim.HoldsOpenBy (λvs=>⟨tree vs,.builtin "claim.caller" {},default,[]⟩) defs kps writes:=by
 obtain⟨ok,k5⟩:=WN.mp ok;obtain⟨hch,o1⟩:=WN.mp ok;obtain⟨k5,k6⟩:=WN.mp k5;obtain⟨hsame,hu,ha,hap,hm⟩:=frees_parts k5;refine⟨⟨hb,o1,by show r.makers.map _=[];rw[hm];rfl⟩,hw.witness,λw=>⟨(left.behind hX hch w).1,λs' hs'=>?_⟩⟩;obtain⟨s₀,hf,hg0,s,hT,hz,hgens,hg,G00,y⟩:=(left.behind (XP:=λmg h=>XP mg h/\RecFacts r.records h) (λs hs=>⟨hX s hs,hRf s hs⟩) hch w).2 s' hs';have G0:NY q loose [] XP w s (s.heap.nsMap XT) (s.heap.nsMap RM) s.heap:=⟨G00.T,G00.B,G00.D,G00.TE,G00.TD,G00.W,G00.X.1,G00.cls,G00.has,G00.apart,G00.once,G00.K⟩;have RF:=G00.X.2;have hT':=hT;refine⟨s₀,hf,hg0,s,hT,pin w s hg G0,RF.1,RF.2.1,?_⟩;have hgens:s.gens=#[]:=Array.eq_empty_of_size_eq_zero (beq_iff_eq.mp hgens);have G:NY q loose r.records XP w s _ _ s.heap:=RF.ground G0;refine ClaimW.callFrom_of_specG (c:=r.claim) hz hgens λargs hpre hlay ord hord=>?_;obtain⟨⟨vs,s₁⟩,hlaid⟩:=VW.mp (layAllW_isSome (P:=w.params) (ord:=ord) G.has args r.args s (pre_splitW hpre).1);have keeps:=layAllW_keeps _ _ _ hlaid;have hal:=layAllW_rest _ _ _ hlaid;obtain⟨as,hrd,hin,hold⟩:=reads_layAllW hord _ _ _ hlaid hlay s₁.heap (λ_ _ e=>e);have L:Laid r.records w s s₁ args vs as:=⟨⟨ord,hord,hlaid⟩,hrd,hin,hold,keeps,hal.1.trans hgens,hal.2.2.1⟩;have G₁:=G.keeps hXk keeps;obtain⟨f,hf,h⟩:=call w s s₁ _ _ G₁ (hYk _ _ _ (hY w s (congrArg Prod.fst y)) keeps) (X5 (bg (congrArg Prod.snd y)) (layAllW_grows _ _ _ hlaid).toks) args vs as hpre hlay L G.low;have hi:=ident_freeW hu ha hap;have hwi:r.claim.within=[]:=P3.mp k6;exact⟨vs,s₁,hlaid,ht vs w s₁ _ f _ _ G₁.T.g hf (WM h (λv s' g=>⟨_,rfl,have z:=g.laid (c:=r.claim) hsame hwi hi L;⟨z.1,z.2.1,z.2.2,λq=>⟨namesKept_of hT' hg kps keeps g.2.1.old,noTable hwr q⟩⟩⟩) λe s' g=>have z:=g.laid (c:=r.claim) hsame hwi hi L;⟨z.1,z.2.1,z.2.2,λq=>⟨namesKept_of hT' hg kps keeps g.2.1.old,noTable hwr q⟩⟩)⟩
theorem zgJ{n0:Nat}{r:OpenRow}{q:Xu}{loose:List Str}{Xt:X8->Bool}{XP:(Str->Option X9)->Heap->Prop}{α:Type}{Yf:X8->α}{Ya:W9->α}{YP:W9->Heap->Prop}{d:Oi}{kwd:List (Str×Expr)}{N:Nat}
  (left:LeftO r.prog q loose Xt (λs=>(Yf s,decide (n0<=s.toks))) (λw=>(Ya w,true)) N) (hY:∀w s,Yf s=Ya w->YP w s.heap) (hYk:∀w h h',YP w h->(∀b o,h.get? b=some o->h'.get? b=some o)->YP w h')
  (hX:∀s,Xt s=true->XP (s.heap.nsMap XT) s.heap) (hXk:∀mg h h',XP mg h->(∀b o,h.get? b=some o->h'.get? b=some o)->XP mg h')
  (hdef:defOf q r.name=some (d,kwd)) (hp:r.prog.theDef r.name=some (d.params,d.body,d.scope)) (hk:kwWritten? d.params.kwonlyargs d.params.kw_defaults=some kwd) (hRf:∀s,Xt s=true->RecFacts r.records s.heap) (hwr:(!r.writes || r.records.isEmpty)=true)
  (k1:r.wellSaid=true) (ok:(chainsOk q&&opensWell r.prog&&(frees r.toRowW&&r.within.isEmpty))=true) (hb:r.prog.bare) (hw:r.toRowW.promised)
  (call:zc5 n0 q loose XP YP r.toRowW d kwd λf vs=>PySem.call f vs):r.Holds:=by
 refine⟨k1,hw,zkQ (r:=r.toRowW) (run:=λf vs=>PySem.call f vs) (tree:=λvs=>do match <- nsGet mainNs r.name with
   | some f=>do ret (<- PySem.call f vs)
   | none=>Rn "claim.caller:no-such-global") left hY hYk hX hXk hRf hwr ok hb hw
  (λvs w s mg f Q E hg hf h=>Y1 (wpAny_nsGet hg (by rw[hf];exact Y1 (WM h (λ_ _ x=>XR x) λ_ _ x=>x))))
  (λw s hg G n hn=>?_) λw s₀ s₁ mg mb G Y z args vs as hpre hlay L low=>?_⟩
 .obtain rfl:n=r.name:=by split at hn<;>simp_all
  exact pinned_of_view hg G hdef hp hk
 .obtain⟨a,o,pm,cd,doc,dV,kV,h1,h2,h3,h4,h5⟩:=G.fn hdef;exact⟨.ref a,h1,call w s₀ s₁ mg mb G Y z a o pm cd doc dV kV h2 h3 h4 h5 (defOf_name hdef ▸ h1) L.gens args vs as hpre hlay L.reads L.well (L.low low)⟩
theorem ziw{n0:Nat}{loose:List PySem.Str}{r:OpenRow}{q:Xu}{H:Hook}{d:Oi}{kwd:List (PySem.Str×Expr)}{N:Nat}(left:LeftO r.prog q loose (λs=>xlAt q [] s&&recOk (N6 r.toRowW) s) (λs=>(N9 H s,decide (n0<=s.toks))) (λw=>(Hook.val H w,true)) N)
  (hdef:defOf q r.name=some (d,kwd)) (hp:r.prog.theDef r.name=some (d.params,d.body,d.scope)) (hk:kwWritten? d.params.kwonlyargs d.params.kw_defaults=some kwd) (hwr:(!r.writes || r.records.isEmpty)=true)
  (k1:r.wellSaid=true) (ok:(chainsOk q&&opensWell r.prog&&(frees r.toRowW&&r.within.isEmpty))=true) (hb:r.prog.bare) (hw:r.toRowW.promised)
  (call:zc5 n0 q loose (XL q []) (Hook.says H) r.toRowW d kwd λf vs=>PySem.call f vs):r.Holds :=
 zgJ (q:=q) (loose:=loose) (Xt:=λs=>xlAt q [] s&&recOk (N6 r.toRowW) s) (XP:=XL q []) (Yf:=N9 H) (Ya:=Hook.val H) (YP:=Hook.says H) (N:=N) left (Hook.of H) (Hook.keeps H) (λs e=>xl_of s (WN.mp e).1) XL.keeps hdef hp hk
  (λs e=>recFacts_of (WN.mp e).2) hwr k1 ok hb hw call
end
noncomputable def top (i:Nat):Stmt:=PySem.Challenge.pw_stonelay_k63_runs_by_thoughts.main.body.getD i (.Pass ⟨0,0,0,0⟩)
noncomputable def yy (s:Stmt):NV:=match s with
 | .FunctionDef _ a _ _ _ _ _ _ _ _=>a
 | _=>{ posonlyargs:=[],args:=[],vararg:=none,kwonlyargs:=[],kw_defaults:=[],kwarg:=none,defaults:=[] }
noncomputable def jw (s:Stmt):List Stmt:=match s with
 | .FunctionDef _ _ b _ _ _ _ _ _ _=>b
 | _=>[]
noncomputable def zv (s:Stmt):Ve:=match s with
 | .FunctionDef _ _ _ _ _ _ sc _ _ _=>sc
 | _=>{ kind:=.function,names:=[],isGenerator:=false,isCoroutine:=false }
def HD(K:X4)(x:Str)(i:Nat):Prop:=∃(f:Addr) (oc:X9) (od an:Option Addr) (sl:Array (Option X9)) (kV dc pm cd ct:X9),XO K XT x=some (some (.ref f))/\K.lookup f=some ⟨oc,od,.func (V0 x x (yy (top i)) (jw (top i)) (zv (top i)) .none kV dc pm an cd ct),sl⟩/\U7 K cd x=true/\VD K (.ref f)=true
def HDD(K:X4)(x:Str)(i:Nat)(v:Str):Prop:=∃(f td:Addr) (oc:X9) (od an:Option Addr) (sl:Array (Option X9)) (kV dc pm cd ct:X9) (ot:Obj) (n:Nat) (t:Tok),XO K XT x=some (some (.ref f))/\K.lookup f=some ⟨oc,od,.func (V0 x x (yy (top i)) (jw (top i)) (zv (top i)) (.ref td) kV dc pm an cd ct),sl⟩/\U7 K cd x=true/\VD K (.ref f)=true/\K.lookup td=some ot/\ot.data=.seq #[.str v t] n
def JL:List X9:=[.type "ValueError",.type "Exception",.type "BaseException",.type "object"]
structure Facts (K:X4):Prop where
 YH:HD K "board_of" 17
 xq:HD K "checked_rows" 18
 ZE:HD K "check_row" 19
 zaT:HD K "closed" 20
 JM:HD K "open_cells" 21
 zaU:HD K "around" 22
 ZF:HD K "number_at" 23
 zaV:HD K "opened" 24
 YI:HD K "cells_of" 25
 Q7:HD K "sign_at" 26
 YJ:HD K "field_of" 31
 ZG:HD K "stones_of" 32
 ZH:HD K "clears_of" 33
 JN:HD K "cells_with" 34
 YK:HD K "board_at" 35
 zcN:HD K "parts" 37
 zaW:HD K "joined" 38
 zjD:HD K "far" 39
 JO:HD K "numbers_of" 40
 JP:HD K "bare_wrong" 41
 yP:HD K "closed_around" 42
 xr:HD K "part_layings" 45
 YL:HD K "needs_at" 46
 Q8:HD K "may_fit" 47
 Jd:HD K "part_counts" 48
 Q9:HD K "counted" 49
 JQ:HD K "counted_at" 50
 zaa:HD K "choices" 52
 zaX:HD K "poured" 53
 Je:HD K "near_counts" 55
 zcO:HD K "count" 56
 yC:HD K "counts_by_cell" 57
 JR:HD K "all_poured" 58
 zcP:HD K "dealt" 59
 YM:HD K "fraction" 61
 jP:HD K "greatest_divisor" 62
 zaY:HD K "shares" 64
 JS:HD K "some_count" 65
 zfz:HD K "sure" 66
 YN:HD K "asked_by" 69
 YO:HD K "known_of" 70
 Jf:HD K "still_asked" 71
 zaZ:HD K "gained" 72
 zab:HD K "settled" 73
 YQ:HD K "thoughts" 76
 ZI:HD K "all_steps" 77
 Jg:HD K "place_lists" 78
 JT:HD K "first_step" 79
 zjE:HDD K "run" 81 "sure"
 Jh:HD K "found_clear" 82
 Ji:HD K "_law_cell_at" 84
 ZJ:HD K "_law_mixed" 85
 ZK:HD K "_law_field" 86
 JU:HD K "_law_corner" 87
 ZL:HD K "_law_cells" 88
 YR:HD K "_law_safe" 90
 zac:HD K "_law_due" 91
 YS:HD K "_law_told" 92
 zjF:HD K "law" 93
 JV:XO K XT "ValueError"=some none
 zjG:XO K XT "abs"=some none
 zjH:XO K XT "any"=some none
 zfA:XO K XT "dict"=some none
 ZM:XO K XT "enumerate"=some none
 zjI:XO K XT "int"=some none
 JW:XO K XT "isinstance"=some none
 zjJ:XO K XT "len"=some none
 zfB:XO K XT "list"=some none
 zjK:XO K XT "max"=some none
 zjL:XO K XT "min"=some none
 zcQ:XO K XT "range"=some none
 zjM:XO K XT "set"=some none
 za0:XO K XT "sorted"=some none
 zjN:XO K XT "str"=some none
 zjO:XO K XT "sum"=some none
 zcR:XO K XT "tuple"=some none
 zjP:XO K XT "zip"=some none
 zjQ:∃t,XO K XT "ALL"=some (some (.str "all" t))
 Jj:∃t,XO K XT "BOARD_SIGNS"=some (some (.str "?012345678#" t))
 JX:∃t,XO K XT "CLEAR_SIGN"=some (some (.str "." t))/\t≠0/\t<448
 Jk:∃t,XO K XT "CLOSED_SIGN"=some (some (.str "?" t))
 Jl:∃t,XO K XT "FIELD_SIGNS"=some (some (.str ".o#" t))
 xw:∃t,XO K XT "LONGEST_SIDE"=some (some (.int 8 t))
 xx:∃t,XO K XT "MOST_OF_PART"=some (some (.int 14 t))
 Jm:∃t,XO K XT "MOST_STONES"=some (some (.int 64 t))
 Jo:∃t,XO K XT "MOST_THINGS"=some (some (.int 30 t))
 xA:∃t,XO K XT "NO_CELL_SIGN"=some (some (.str "#" t))
 JY:∃t,XO K XT "STONE_SIGN"=some (some (.str "o" t))/\t≠0/\t<448
 cls:∃jai jaj jad jaa jac jab jah jaf jae jag:Addr,XO K XT "StoneError"=some (some (.ref jai))/\XO K XT "TooGreat"=some (some (.ref jaj))/\XO K XT "NoLaying"=some (some (.ref jad))/\XO K XT "NoBoard"=some (some (.ref jaa))/\XO K XT "NoCount"=some (some (.ref jac))/\XO K XT "NoCell"=some (some (.ref jab))/\XO K XT "NoText"=some (some (.ref jah))/\XO K XT "NoRow"=some (some (.ref jaf))/\XO K XT "NoNumber"=some (some (.ref jae))/\XO K XT "NoTable"=some (some (.ref jag))/\WI K jai JL "ValueError.__new__"=true/\WI K jaj JL "ValueError.__new__"=true/\WI K jad JL "ValueError.__new__"=true/\WI K jaa JL "ValueError.__new__"=true/\WI K jac JL "ValueError.__new__"=true/\WI K jab JL "ValueError.__new__"=true/\WI K jah JL "ValueError.__new__"=true/\WI K jaf JL "ValueError.__new__"=true/\WI K jae JL "ValueError.__new__"=true/\WI K jag JL "ValueError.__new__"=true/\VC K (.ref jaj) "__getattribute__"=some (some (.builtin "BaseException.__getattribute__"))/\VC K (.ref jaj) "__getattr__"=some none/\VC K (.ref jaj) "__class__"=some (some (.builtin "object.__class__"))/\Wq K jaj (.type "BaseException")=some true/\Wq K jaj (.type "object")=some true/\S7 K jaj=true/\Wq K jaj (.ref jai)=some true/\Xb K (.ref jaj) (.ref jaj)=some true/\Xb K (.ref jaj) (.ref jad)=some false/\Xb K (.ref jaj) (.ref jaa)=some false/\Xb K (.ref jaj) (.ref jac)=some false/\Xb K (.ref jaj) (.ref jab)=some false/\Xb K (.ref jaj) (.ref jah)=some false/\Xb K (.ref jaj) (.ref jaf)=some false/\Xb K (.ref jaj) (.ref jae)=some false/\Xb K (.ref jaj) (.ref jag)=some false/\Xb K (.ref jaj) (.type "ValueError")=some true/\Wq K jaj (.ref jaj)=some true
end Zm
noncomputable def Zm.ob:List PySem.Str:="StoneError" :: "NoBoard" :: "NoCount" :: "TooGreat" :: "NoLaying" :: "NoCell" :: "NoText" :: "NoRow" :: "NoNumber" :: "NoTable" :: "CLOSED_SIGN" :: "NO_CELL_SIGN" :: "BOARD_SIGNS" :: "LONGEST_SIDE" :: "MOST_STONES" :: "board_of" :: "checked_rows" :: "check_row" :: "closed" :: "open_cells" :: "around" :: "number_at" :: "opened" :: "cells_of" :: "sign_at" :: "CLEAR_SIGN" :: "STONE_SIGN" :: "FIELD_SIGNS" :: "field_of" :: "stones_of" :: "clears_of" :: "cells_with" :: "board_at" :: "parts" :: "joined" :: "far" :: "numbers_of" :: "bare_wrong" :: "closed_around" :: "MOST_OF_PART" :: "part_layings" :: "needs_at" :: "may_fit" :: "part_counts" :: "counted" :: "counted_at" :: "choices" :: "poured" :: "near_counts" :: "count" :: "counts_by_cell" :: "all_poured" :: "dealt" :: "fraction" :: "greatest_divisor" :: "shares" :: "some_count" :: "sure" :: "ALL" :: "asked_by" :: "known_of" :: "still_asked" :: "gained" :: "settled" :: "MOST_THINGS" :: "thoughts" :: "all_steps" :: "place_lists" :: "first_step" :: "run" :: "found_clear" :: "_law_cell_at" :: "_law_mixed" :: "_law_field" :: "_law_corner" :: "_law_cells" :: "_law_near" :: "_law_safe" :: "_law_due" :: "_law_told" :: []
noncomputable def Zm.view:PySem.Program:={ PySem.Challenge.rw_stonelay_k63_runs_by_thoughts.prog with main:={ PySem.Challenge.rw_stonelay_k63_runs_by_thoughts.prog.main with body:=PySem.Challenge.rw_stonelay_k63_runs_by_thoughts.prog.main.body.drop 93 } }
theorem Zm.keep(H:PySem.W.Hook){P:Prop}(h:P):P:=h
local macro_rules | `(tactic| o_head $H)=>`(tactic| refine Zm.keep $H ?_)
open PySem PySem.W PyProof.Rows in
set_option maxRecDepth 100000 in
set_option maxHeartbeats 0 in
theorem Zm.pre(h:PySem.Challenge.rw_stonelay_k63_runs_by_thoughts.row.Holds):PySem.Challenge.rw_stonelay_k63_runs_by_thoughts.row.Holds:=by
 k_head;exact h
namespace Zm
open PySem PySem.W
noncomputable def as:List Addr:=[2,3,15,22,23,24,25,28,35,36,37,40,47,48,49,52,59,60,61,64,71,72,73,76,83,84,85,88,95,96,97,100,107,108,109,112,119,120,121,124,131,132,133,136,138,139,141,142,143,145,146,148,149,150,152,153,155,156,157,160,161,162,165,166,167,169,170,172,173,174,176,177,179,180,181,184,185,186,189,190,191,193,194,196,197,198,200,201,203,204,205,207,208,210,211,212,214,215,217,218,219,222,223,224,227,228,229,231,232,234,235,236,239,240,241,244,245,246,249,250,251,254,255,256,259,260,261,264,265,266,269,270,271,274,275,276,278,279,281,282,283,285,286,288,289,290,293,294,295,297,298,300,301,302,304,305,307,308,309,312,313,314,316,317,319,320,321,324,325,326,328,329,331,332,333,336,337,338,340,341,343,344,345,347,348,350,351,352,355,356,357,359,360,362,363,364,367,368,369,371,372,374,375,376,379,380,381,384,385,386,389,390,391,393,394,396,397,398,401,402,403,406,407,408,411,412,413,416,417,418,419,421,422,424,425,426,428,429,431,432,433,435,436,438,439,440,442,443,445,446,447,449,450,452,453,454,457,458,459,461,462,464,465,473,475,476,478,479,480,482,483,485,486,487,489,490,492,493,494,497,498]
theorem cut{E:Option X8}{as:List Addr}{K:Frag}(n:Nat)(a:E.map (λs=>(as.take n).map s.heap.get?)=some ((K.take n).map λp=>some p.2))(b:E.map (λs=>(as.drop n).map s.heap.get?)=some ((K.drop n).map λp=>some p.2)):E.map (λs=>as.map s.heap.get?)=some (K.map λp=>some p.2):=by
 cases E with
 | none=>cases a
 | some s =>
  have e:=congr (congrArg HAppend.hAppend (Option.some.inj a)) (Option.some.inj b);rw[<- XD,<- XD,Xc,Xc]at e;exact congrArg some e
theorem hook{K:NX->Frag}{as:List Addr}{e:∀P,as=(K P).map (·.1)}{w:W9}{E:Option X8}(h:E.map (λs=>as.map s.heap.get?)=some ((K w.params).map λp=>some p.2)):E.map (N9 (kHook K as e))=some (Hook.val (kHook K as e) w):=h
theorem he(P:NX):as=(pre.heap_1 P).map (·.1):=by kernel_rfl
noncomputable abbrev OS:=openSeen view ob (importedModules PySem.Challenge.rw_stonelay_k63_runs_by_thoughts.row.prog.main.body) (λs=>xlAt view [] s&&recOk (N6 PySem.Challenge.rw_stonelay_k63_runs_by_thoughts.row.toRowW) s) true
set_option maxRecDepth 100000
set_option maxHeartbeats 0
theorem sa(w:W9):(TF Uf PySem.Challenge.rw_stonelay_k63_runs_by_thoughts.row.prog w 8234).map (λs=>(OS s,decide (448<=s.toks)))=some (openGood view ob,true):=by kernel_rfl
theorem h0(w:W9):(TF Uf PySem.Challenge.rw_stonelay_k63_runs_by_thoughts.row.prog w 8234).map (λs=>(as.take 95).map s.heap.get?)=some (((pre.heap_1 w.params).take 95).map λp=>some p.2):=by kernel_rfl
theorem h1(w:W9):(TF Uf PySem.Challenge.rw_stonelay_k63_runs_by_thoughts.row.prog w 8234).map (λs=>((as.drop 95).take 95).map s.heap.get?)=some ((((pre.heap_1 w.params).drop 95).take 95).map λp=>some p.2):=by kernel_rfl
theorem h2(w:W9):(TF Uf PySem.Challenge.rw_stonelay_k63_runs_by_thoughts.row.prog w 8234).map (λs=>((as.drop 95).drop 95).map s.heap.get?)=some ((((pre.heap_1 w.params).drop 95).drop 95).map λp=>some p.2):=by kernel_rfl
theorem lift{w:W9}{α:Type}{Y:X8->α}{y:α}(h:(TF Uf PySem.Challenge.rw_stonelay_k63_runs_by_thoughts.row.prog w 8234).map Y=some y):(TF Uf PySem.Challenge.rw_stonelay_k63_runs_by_thoughts.row.prog w 8234).map (λs=>(OS s,(Y s,decide (448<=s.toks))))=some (openGood view ob,(y,true)):=by
 have a:=sa w;generalize TF Uf PySem.Challenge.rw_stonelay_k63_runs_by_thoughts.row.prog w 8234=E at a h ⊢;cases E with
 | none=>cases a
 | some s =>
  have a:=Option.some.inj a;have h:=Option.some.inj h;exact congrArg some (Prod.ext (congrArg (·.1) a) (Prod.ext h (congrArg (·.2) a)))
theorem hk(w:W9):(TF Uf PySem.Challenge.rw_stonelay_k63_runs_by_thoughts.row.prog w 8234).map (λs=>as.map s.heap.get?)=some ((pre.heap_1 w.params).map λp=>some p.2):=(cut (E:=TF Uf PySem.Challenge.rw_stonelay_k63_runs_by_thoughts.row.prog w 8234) (as:=as) (K:=(pre.heap_1 w.params)) 95 (h0 w) (cut (E:=TF Uf PySem.Challenge.rw_stonelay_k63_runs_by_thoughts.row.prog w 8234) (as:=(as.drop 95)) (K:=((pre.heap_1 w.params).drop 95)) 95 (h1 w) (h2 w)))
theorem lf(w:W9):(TF Uf PySem.Challenge.rw_stonelay_k63_runs_by_thoughts.row.prog w 8234).map (λs=>(OS s,(N9 (kHook pre.heap_1 as he) s,decide (448<=s.toks))))=some (openGood view ob,(Hook.val (kHook pre.heap_1 as he) w,true)):=lift (Y:=N9 (kHook pre.heap_1 as he)) (y:=Hook.val (kHook pre.heap_1 as he) w) (hook (K:=pre.heap_1) (as:=as) (e:=he) (E:=TF Uf PySem.Challenge.rw_stonelay_k63_runs_by_thoughts.row.prog w 8234) (hk w))
end Zm
local macro_rules | `(tactic| o_head $H)=>`(tactic| (refine' Zm.ziw (n0:=448) (loose:=Zm.ob) (q:=Zm.view) (H:=PySem.W.kHook Zm.pre.heap_1 Zm.as Zm.he) (N:=8234) Zm.lf (by rfl) (by rfl) (by rfl) (by rfl) (by first | assumption | decide+kernel) (by decide+kernel) ⟨rfl,rfl,rfl,rfl,rfl,by decide+kernel⟩ ?_ ?_))
open PySem PySem.W PyProof.Rows in
set_option maxRecDepth 100000 in
set_option maxHeartbeats 0 in
theorem Zm.look:PySem.Challenge.rw_stonelay_k63_runs_by_thoughts.wellSaid=true:=by kernel_rfl
open PySem PySem.W PyProof.Rows in
set_option maxRecDepth 100000 in
set_option maxHeartbeats 0 in
theorem Zm.early(h:∀{q:Xu} {XP:(Str->Option X9)->Heap->Prop} {YP:W9->Heap->Prop} {d:Oi} {K:NX->X4},d.params.defaults=[]->(∀(w:W9) (h:Heap),YP w h->(K w.params).In h)->d.name="law"->(∀w:W9,Zm.Facts (K w.params))->Zm.zc5 448 q Zm.ob XP YP PySem.Challenge.rw_stonelay_k63_runs_by_thoughts.row.toRowW d [] (λf vs=>PySem.call f vs)):PySem.Challenge.rw_stonelay_k63_runs_by_thoughts.Holds:=by
 w_on;refine holds_law Zm.look λsaid=>?_;o_head trivial;w_witness2;k_fill;refine h rfl (λw h Y=>PySem.W.kIn_of Y) rfl λw=>?_;constructor;all_goals first | k_is | exact⟨_,_,_,_,_,_,_,_,_,_,by k_is,by k_is,by k_is,by k_is⟩ | exact⟨_,by k_is,by decide,by decide⟩ | exact⟨_,_,_,_,_,_,_,_,_,_,_,_,_,_,by k_is,by k_is,by k_is,by k_is,by k_is,rfl⟩ | exact⟨_,by k_is⟩ | exact⟨_,_,_,_,_,_,_,_,_,_,by k_is,by k_is,by k_is,by k_is,by k_is,by k_is,by k_is,by k_is,by k_is,by k_is,by k_exc,by k_exc,by k_exc,by k_exc,by k_exc,by k_exc,by k_exc,by k_exc,by k_exc,by k_exc,by k_is,by k_is,by k_is,by k_is,by k_is,by k_is,by k_is,by kit_is,by kit_is,by kit_is,by kit_is,by kit_is,by kit_is,by kit_is,by kit_is,by kit_is,by kit_is,by k_is⟩
noncomputable section
section
variable{α β γ δ ε ζ η θ ι κ μ ν ξ:Sort _}
theorem dW {p q r s:α->β->Prop}(a:α)(b:β)(h:p a b)(A:q a b)(B:r a b)(C:s a b):∃a,∃b,p a b/\q a b/\r a b/\s a b:=⟨a,b,h,A,B,C⟩
theorem dX {p q r:α->Prop}(a:α)(h:p a)(A:q a)(B:r a):∃a,p a/\q a/\r a:=⟨a,h,A,B⟩
theorem dY {p q:α->Prop}(a:α)(h:p a)(A:q a):∃a,p a/\q a:=⟨a,h,A⟩
theorem dZ {p q r s:α->β->γ->Prop}(a:α)(b:β)(c:γ)(h:p a b c)(A:q a b c)(B:r a b c)(C:s a b c):∃a,∃b,∃c,p a b c/\q a b c/\r a b c/\s a b c:=⟨a,b,c,h,A,B,C⟩
theorem ef {p q r:α->β->Prop}(a:α)(b:β)(h:p a b)(A:q a b)(B:r a b):∃a,∃b,p a b/\q a b/\r a b:=⟨a,b,h,A,B⟩
theorem er {p:α->β->γ->δ->Prop}(a:α)(b:β)(c:γ)(d:δ)(h:p a b c d):∃a,∃b,∃c,∃d,p a b c d:=⟨a,b,c,d,h⟩
theorem eu {p q r s t:α->Prop}(a:α)(h:p a)(A:q a)(B:r a)(C:s a)(D:t a):∃a,p a/\q a/\r a/\s a/\t a:=⟨a,h,A,B,C,D⟩
theorem eB {p q r s t:α->β->γ->Prop}(a:α)(b:β)(c:γ)(h:p a b c)(A:q a b c)(B:r a b c)(C:s a b c)(D:t a b c):∃a,∃b,∃c,p a b c/\q a b c/\r a b c/\s a b c/\t a b c:=⟨a,b,c,h,A,B,C,D⟩
theorem eE {p:α->Prop}{q r s t u:α->β->γ->δ->ε->Prop}(a:α)(h:p a)(b:β)(c:γ)(d:δ)(e:ε)(A:q a b c d e)(B:r a b c d e)(C:s a b c d e)(D:t a b c d e)(E:u a b c d e):∃a,p a/\∃b,∃c,∃d,∃e,q a b c d e/\r a b c d e/\s a b c d e/\t a b c d e/\u a b c d e:=⟨a,h,b,c,d,e,A,B,C,D,E⟩
theorem eF {p q r s t u:Prop}(h:p)(A:q)(B:r)(C:s)(D:t)(E:u):p/\q/\r/\s/\t/\u:=⟨h,A,B,C,D,E⟩
theorem eG {p q r s t u:α->β->γ->Prop}(a:α)(b:β)(c:γ)(h:p a b c)(A:q a b c)(B:r a b c)(C:s a b c)(D:t a b c)(E:u a b c):∃a,∃b,∃c,p a b c/\q a b c/\r a b c/\s a b c/\t a b c/\u a b c:=⟨a,b,c,h,A,B,C,D,E⟩
theorem eH {p q r s t u:α->β->γ->δ->ε->Prop}(a:α)(b:β)(c:γ)(d:δ)(e:ε)(h:p a b c d e)(A:q a b c d e)(B:r a b c d e)(C:s a b c d e)(D:t a b c d e)(E:u a b c d e):∃a,∃b,∃c,∃d,∃e,p a b c d e/\q a b c d e/\r a b c d e/\s a b c d e/\t a b c d e/\u a b c d e:=⟨a,b,c,d,e,h,A,B,C,D,E⟩
theorem eK {p q r s t u:α->β->Prop}(a:α)(b:β)(h:p a b)(A:q a b)(B:r a b)(C:s a b)(D:t a b)(E:u a b):∃a,∃b,p a b/\q a b/\r a b/\s a b/\t a b/\u a b:=⟨a,b,h,A,B,C,D,E⟩
theorem eO {p q r:α->β->Prop}{s:α->β->γ->δ->Prop}{t u v:α->β->γ->δ->ε->ζ->Prop}(a:α)(b:β)(h:p a b)(A:q a b)(B:r a b)(c:γ)(d:δ)(C:s a b c d)(e:ε)(f:ζ)(D:t a b c d e f)(E:u a b c d e f)(F:v a b c d e f):∃a,∃b,p a b/\q a b/\r a b/\∃c,∃d,s a b c d/\∃e,∃f,t a b c d e f/\u a b c d e f/\v a b c d e f:=⟨a,b,h,A,B,c,d,C,e,f,D,E,F⟩
theorem eS {p q r s t u:α->β->γ->δ->Prop}(a:α)(b:β)(c:γ)(d:δ)(h:p a b c d)(A:q a b c d)(B:r a b c d)(C:s a b c d)(D:t a b c d)(E:u a b c d):∃a,∃b,∃c,∃d,p a b c d/\q a b c d/\r a b c d/\s a b c d/\t a b c d/\u a b c d:=⟨a,b,c,d,h,A,B,C,D,E⟩
theorem eU {p q r s t u v:α->β->γ->Prop}(a:α)(b:β)(c:γ)(h:p a b c)(A:q a b c)(B:r a b c)(C:s a b c)(D:t a b c)(E:u a b c)(F:v a b c):∃a,∃b,∃c,p a b c/\q a b c/\r a b c/\s a b c/\t a b c/\u a b c/\v a b c:=⟨a,b,c,h,A,B,C,D,E,F⟩
theorem eV {p:α->Prop}{q r:α->β->Prop}(a:α)(h:p a)(b:β)(A:q a b)(B:r a b):∃a,p a/\∃b,q a b/\r a b:=⟨a,h,b,A,B⟩
theorem eW {p q r s t:α->β->γ->δ->ε->Prop}(a:α)(b:β)(c:γ)(d:δ)(e:ε)(h:p a b c d e)(A:q a b c d e)(B:r a b c d e)(C:s a b c d e)(D:t a b c d e):∃a,∃b,∃c,∃d,∃e,p a b c d e/\q a b c d e/\r a b c d e/\s a b c d e/\t a b c d e:=⟨a,b,c,d,e,h,A,B,C,D⟩
theorem eX {p q r s t:α->β->Prop}(a:α)(b:β)(h:p a b)(A:q a b)(B:r a b)(C:s a b)(D:t a b):∃a,∃b,p a b/\q a b/\r a b/\s a b/\t a b:=⟨a,b,h,A,B,C,D⟩
theorem eY {p q r s t:α->β->γ->δ->Prop}(a:α)(b:β)(c:γ)(d:δ)(h:p a b c d)(A:q a b c d)(B:r a b c d)(C:s a b c d)(D:t a b c d):∃a,∃b,∃c,∃d,p a b c d/\q a b c d/\r a b c d/\s a b c d/\t a b c d:=⟨a,b,c,d,h,A,B,C,D⟩
theorem eZ {p q r:α->β->γ->δ->ε->Prop}(a:α)(b:β)(c:γ)(d:δ)(e:ε)(h:p a b c d e)(A:q a b c d e)(B:r a b c d e):∃a,∃b,∃c,∃d,∃e,p a b c d e/\q a b c d e/\r a b c d e:=⟨a,b,c,d,e,h,A,B⟩
theorem e8 {p:α->Prop}{q r s:α->β->γ->Prop}(a:α)(h:p a)(b:β)(c:γ)(A:q a b c)(B:r a b c)(C:s a b c):∃a,p a/\∃b,∃c,q a b c/\r a b c/\s a b c:=⟨a,h,b,c,A,B,C⟩
theorem e9 {p q r s:Prop}(h:p)(A:q)(B:r)(C:s):p/\q/\r/\s:=⟨h,A,B,C⟩
theorem fh {p:α->Prop}{q r s t:α->β->γ->Prop}(a:α)(h:p a)(b:β)(c:γ)(A:q a b c)(B:r a b c)(C:s a b c)(D:t a b c):∃a,p a/\∃b,∃c,q a b c/\r a b c/\s a b c/\t a b c:=⟨a,h,b,c,A,B,C,D⟩
theorem fj {p q r s t:Prop}(h:p)(A:q)(B:r)(C:s)(D:t):p/\q/\r/\s/\t:=⟨h,A,B,C,D⟩
theorem fk {p q r s t:α->β->γ->δ->ε->ζ->Prop}(a:α)(b:β)(c:γ)(d:δ)(e:ε)(f:ζ)(h:p a b c d e f)(A:q a b c d e f)(B:r a b c d e f)(C:s a b c d e f)(D:t a b c d e f):∃a,∃b,∃c,∃d,∃e,∃f,p a b c d e f/\q a b c d e f/\r a b c d e f/\s a b c d e f/\t a b c d e f:=⟨a,b,c,d,e,f,h,A,B,C,D⟩
theorem fm {p:α->Prop}{q r s t:α->β->γ->δ->ε->Prop}{u v w:α->β->γ->δ->ε->ζ->Prop}(a:α)(h:p a)(b:β)(c:γ)(d:δ)(e:ε)(A:q a b c d e)(B:r a b c d e)(C:s a b c d e)(D:t a b c d e)(f:ζ)(E:u a b c d e f)(F:v a b c d e f)(G:w a b c d e f):∃a,p a/\∃b,∃c,∃d,∃e,q a b c d e/\r a b c d e/\s a b c d e/\t a b c d e/\∃f,u a b c d e f/\v a b c d e f/\w a b c d e f:=⟨a,h,b,c,d,e,A,B,C,D,f,E,F,G⟩
theorem fq {p q:Prop}{r s:α->Prop}(h:p)(A:q)(a:α)(B:r a)(C:s a):p/\q/\∃a,r a/\s a:=⟨h,A,a,B,C⟩
theorem fu {p q:α->β->Prop}{r s:α->β->γ->Prop}(a:α)(b:β)(h:p a b)(A:q a b)(c:γ)(B:r a b c)(C:s a b c):∃a,∃b,p a b/\q a b/\∃c,r a b c/\s a b c:=⟨a,b,h,A,c,B,C⟩
theorem fy {p:Prop}{q r:α->Prop}(h:p)(a:α)(A:q a)(B:r a):p/\∃a,q a/\r a:=⟨h,a,A,B⟩
theorem fB {p q:α->Prop}{r s t u:α->β->γ->Prop}(a:α)(h:p a)(A:q a)(b:β)(c:γ)(B:r a b c)(C:s a b c)(D:t a b c)(E:u a b c):∃a,p a/\q a/\∃b,∃c,r a b c/\s a b c/\t a b c/\u a b c:=⟨a,h,A,b,c,B,C,D,E⟩
theorem fD {p q r s t u v:Prop}(h:p)(A:q)(B:r)(C:s)(D:t)(E:u)(F:v):p/\q/\r/\s/\t/\u/\v:=⟨h,A,B,C,D,E,F⟩
theorem fE {p q r s t:α->β->γ->δ->ε->ζ->η->Prop}(a:α)(b:β)(c:γ)(d:δ)(e:ε)(f:ζ)(g:η)(h:p a b c d e f g)(A:q a b c d e f g)(B:r a b c d e f g)(C:s a b c d e f g)(D:t a b c d e f g):∃a,∃b,∃c,∃d,∃e,∃f,∃g,p a b c d e f g/\q a b c d e f g/\r a b c d e f g/\s a b c d e f g/\t a b c d e f g:=⟨a,b,c,d,e,f,g,h,A,B,C,D⟩
theorem fF {p q r s:α->Prop}(a:α)(h:p a)(A:q a)(B:r a)(C:s a):∃a,p a/\q a/\r a/\s a:=⟨a,h,A,B,C⟩
theorem fG {p q:α->β->Prop}(a:α)(b:β)(h:p a b)(A:q a b):∃a,∃b,p a b/\q a b:=⟨a,b,h,A⟩
theorem fH {p q r:Prop}(h:p)(A:q)(B:r):p/\q/\r:=⟨h,A,B⟩
theorem fJ {p q:α->β->γ->Prop}(a:α)(b:β)(c:γ)(h:p a b c)(A:q a b c):∃a,∃b,∃c,p a b c/\q a b c:=⟨a,b,c,h,A⟩
theorem fK {p q:Prop}{r:α->Prop}{s t u v w:α->β->γ->δ->Prop}(h:p)(A:q)(a:α)(B:r a)(b:β)(c:γ)(d:δ)(C:s a b c d)(D:t a b c d)(E:u a b c d)(F:v a b c d)(G:w a b c d):p/\q/\∃a,r a/\∃b,∃c,∃d,s a b c d/\t a b c d/\u a b c d/\v a b c d/\w a b c d:=⟨h,A,a,B,b,c,d,C,D,E,F,G⟩
theorem fL {p q r s t u v:α->β->Prop}(a:α)(b:β)(h:p a b)(A:q a b)(B:r a b)(C:s a b)(D:t a b)(E:u a b)(F:v a b):∃a,∃b,p a b/\q a b/\r a b/\s a b/\t a b/\u a b/\v a b:=⟨a,b,h,A,B,C,D,E,F⟩
theorem fM {p q r s:α->β->γ->δ->Prop}(a:α)(b:β)(c:γ)(d:δ)(h:p a b c d)(A:q a b c d)(B:r a b c d)(C:s a b c d):∃a,∃b,∃c,∃d,p a b c d/\q a b c d/\r a b c d/\s a b c d:=⟨a,b,c,d,h,A,B,C⟩
theorem fN {p q r:α->β->γ->Prop}(a:α)(b:β)(c:γ)(h:p a b c)(A:q a b c)(B:r a b c):∃a,∃b,∃c,p a b c/\q a b c/\r a b c:=⟨a,b,c,h,A,B⟩
theorem fO {p q r:α->β->Prop}{s t u v:α->β->γ->δ->Prop}(a:α)(b:β)(h:p a b)(A:q a b)(B:r a b)(c:γ)(d:δ)(C:s a b c d)(D:t a b c d)(E:u a b c d)(F:v a b c d):∃a,∃b,p a b/\q a b/\r a b/\∃c,∃d,s a b c d/\t a b c d/\u a b c d/\v a b c d:=⟨a,b,h,A,B,c,d,C,D,E,F⟩
theorem fP {p q r:α->β->Prop}{s t:α->β->γ->δ->Prop}(a:α)(b:β)(h:p a b)(A:q a b)(B:r a b)(c:γ)(d:δ)(C:s a b c d)(D:t a b c d):∃a,∃b,p a b/\q a b/\r a b/\∃c,∃d,s a b c d/\t a b c d:=⟨a,b,h,A,B,c,d,C,D⟩
theorem fQ {p q r s:α->β->Prop}{Z:Prop}(k:∀a,∀b,p a b->q a b->r a b->s a b->Z):(∃a,∃b,p a b/\q a b/\r a b/\s a b)->Z:=λ⟨a,b,h,A,B,C⟩=>k a b h A B C
theorem fR {p q:α->Prop}{Z:Prop}(k:∀a,p a->q a->Z):(∃a,p a/\q a)->Z:=λ⟨a,h,A⟩=>k a h A
theorem fS {p q r:α->β->Prop}{Z:Prop}(k:∀a,∀b,p a b->q a b->r a b->Z):(∃a,∃b,p a b/\q a b/\r a b)->Z:=λ⟨a,b,h,A,B⟩=>k a b h A B
theorem fT {p q r:α->Prop}{Z:Prop}(k:∀a,p a->q a->r a->Z):(∃a,p a/\q a/\r a)->Z:=λ⟨a,h,A,B⟩=>k a h A B
theorem fU {p:α->β->γ->δ->Prop}{Z:Prop}(k:∀a,∀b,∀c,∀d,p a b c d->Z):(∃a,∃b,∃c,∃d,p a b c d)->Z:=λ⟨a,b,c,d,h⟩=>k a b c d h
theorem fV {p q r s t:α->β->γ->Prop}{Z:Prop}(k:∀a,∀b,∀c,p a b c->q a b c->r a b c->s a b c->t a b c->Z):(∃a,∃b,∃c,p a b c/\q a b c/\r a b c/\s a b c/\t a b c)->Z:=λ⟨a,b,c,h,A,B,C,D⟩=>k a b c h A B C D
theorem fW {p:α->Prop}{q r:α->β->Prop}{Z:Prop}(k:∀a,p a->∀b,q a b->r a b->Z):(∃a,p a/\∃b,q a b/\r a b)->Z:=λ⟨a,h,b,A,B⟩=>k a h b A B
theorem fX {p q r:Prop}{Z:Prop}(k:p->q->r->Z):(p/\q/\r)->Z:=λ⟨h,A,B⟩=>k h A B
theorem fY {p q:Prop}{r s:α->Prop}{Z:Prop}(k:p->q->∀a,r a->s a->Z):(p/\q/\∃a,r a/\s a)->Z:=λ⟨h,A,a,B,C⟩=>k h A a B C
theorem fZ {p q:α->β->Prop}{Z:Prop}(k:∀a,∀b,p a b->q a b->Z):(∃a,∃b,p a b/\q a b)->Z:=λ⟨a,b,h,A⟩=>k a b h A
theorem gb {p q r s:α->β->γ->Prop}{Z:Prop}(k:∀a,∀b,∀c,p a b c->q a b c->r a b c->s a b c->Z):(∃a,∃b,∃c,p a b c/\q a b c/\r a b c/\s a b c)->Z:=λ⟨a,b,c,h,A,B,C⟩=>k a b c h A B C
theorem gc {p q r s t:Prop}{Z:Prop}(k:p->q->r->s->t->Z):(p/\q/\r/\s/\t)->Z:=λ⟨h,A,B,C,D⟩=>k h A B C D
theorem gf {p q r s t u:α->β->γ->Prop}{Z:Prop}(k:∀a,∀b,∀c,p a b c->q a b c->r a b c->s a b c->t a b c->u a b c->Z):(∃a,∃b,∃c,p a b c/\q a b c/\r a b c/\s a b c/\t a b c/\u a b c)->Z:=λ⟨a,b,c,h,A,B,C,D,E⟩=>k a b c h A B C D E
theorem gg {p q r s:Prop}{Z:Prop}(k:p->q->r->s->Z):(p/\q/\r/\s)->Z:=λ⟨h,A,B,C⟩=>k h A B C
theorem gi {p q r:α->β->γ->Prop}{Z:Prop}(k:∀a,∀b,∀c,p a b c->q a b c->r a b c->Z):(∃a,∃b,∃c,p a b c/\q a b c/\r a b c)->Z:=λ⟨a,b,c,h,A,B⟩=>k a b c h A B
theorem gj {p q r s t u:Prop}{Z:Prop}(k:p->q->r->s->t->u->Z):(p/\q/\r/\s/\t/\u)->Z:=λ⟨h,A,B,C,D,E⟩=>k h A B C D E
theorem gk {p q r s t:α->β->γ->δ->Prop}{Z:Prop}(k:∀a,∀b,∀c,∀d,p a b c d->q a b c d->r a b c d->s a b c d->t a b c d->Z):(∃a,∃b,∃c,∃d,p a b c d/\q a b c d/\r a b c d/\s a b c d/\t a b c d)->Z:=λ⟨a,b,c,d,h,A,B,C,D⟩=>k a b c d h A B C D
theorem gn {p q r s:α->β->γ->δ->Prop}{Z:Prop}(k:∀a,∀b,∀c,∀d,p a b c d->q a b c d->r a b c d->s a b c d->Z):(∃a,∃b,∃c,∃d,p a b c d/\q a b c d/\r a b c d/\s a b c d)->Z:=λ⟨a,b,c,d,h,A,B,C⟩=>k a b c d h A B C
theorem gp {p q r s t u:α->β->γ->δ->ε->Prop}{Z:Prop}(k:∀a,∀b,∀c,∀d,∀e,p a b c d e->q a b c d e->r a b c d e->s a b c d e->t a b c d e->u a b c d e->Z):(∃a,∃b,∃c,∃d,∃e,p a b c d e/\q a b c d e/\r a b c d e/\s a b c d e/\t a b c d e/\u a b c d e)->Z:=λ⟨a,b,c,d,e,h,A,B,C,D,E⟩=>k a b c d e h A B C D E
theorem gq {p q r s t u v:α->β->γ->Prop}{Z:Prop}(k:∀a,∀b,∀c,p a b c->q a b c->r a b c->s a b c->t a b c->u a b c->v a b c->Z):(∃a,∃b,∃c,p a b c/\q a b c/\r a b c/\s a b c/\t a b c/\u a b c/\v a b c)->Z:=λ⟨a,b,c,h,A,B,C,D,E,F⟩=>k a b c h A B C D E F
theorem gr {p q:Prop}{Z:Prop}(k:p->q->Z):(p/\q)->Z:=λ⟨h,A⟩=>k h A
theorem gu {p q r s t u:α->β->Prop}{Z:Prop}(k:∀a,∀b,p a b->q a b->r a b->s a b->t a b->u a b->Z):(∃a,∃b,p a b/\q a b/\r a b/\s a b/\t a b/\u a b)->Z:=λ⟨a,b,h,A,B,C,D,E⟩=>k a b h A B C D E
theorem gw {p q r:α->β->γ->δ->ε->Prop}{Z:Prop}(k:∀a,∀b,∀c,∀d,∀e,p a b c d e->q a b c d e->r a b c d e->Z):(∃a,∃b,∃c,∃d,∃e,p a b c d e/\q a b c d e/\r a b c d e)->Z:=λ⟨a,b,c,d,e,h,A,B⟩=>k a b c d e h A B
theorem gx {p q r s t:α->β->Prop}{Z:Prop}(k:∀a,∀b,p a b->q a b->r a b->s a b->t a b->Z):(∃a,∃b,p a b/\q a b/\r a b/\s a b/\t a b)->Z:=λ⟨a,b,h,A,B,C,D⟩=>k a b h A B C D
theorem gy {p q r s t:α->Prop}{Z:Prop}(k:∀a,p a->q a->r a->s a->t a->Z):(∃a,p a/\q a/\r a/\s a/\t a)->Z:=λ⟨a,h,A,B,C,D⟩=>k a h A B C D
theorem gz {p q r s t u:α->β->γ->δ->Prop}{Z:Prop}(k:∀a,∀b,∀c,∀d,p a b c d->q a b c d->r a b c d->s a b c d->t a b c d->u a b c d->Z):(∃a,∃b,∃c,∃d,p a b c d/\q a b c d/\r a b c d/\s a b c d/\t a b c d/\u a b c d)->Z:=λ⟨a,b,c,d,h,A,B,C,D,E⟩=>k a b c d h A B C D E
theorem gA {p q r s t:α->β->γ->δ->ε->Prop}{Z:Prop}(k:∀a,∀b,∀c,∀d,∀e,p a b c d e->q a b c d e->r a b c d e->s a b c d e->t a b c d e->Z):(∃a,∃b,∃c,∃d,∃e,p a b c d e/\q a b c d e/\r a b c d e/\s a b c d e/\t a b c d e)->Z:=λ⟨a,b,c,d,e,h,A,B,C,D⟩=>k a b c d e h A B C D
theorem gC {p q r s t:α->β->γ->δ->ε->ζ->Prop}{Z:Prop}(k:∀a,∀b,∀c,∀d,∀e,∀f,p a b c d e f->q a b c d e f->r a b c d e f->s a b c d e f->t a b c d e f->Z):(∃a,∃b,∃c,∃d,∃e,∃f,p a b c d e f/\q a b c d e f/\r a b c d e f/\s a b c d e f/\t a b c d e f)->Z:=λ⟨a,b,c,d,e,f,h,A,B,C,D⟩=>k a b c d e f h A B C D
theorem gD {p:Prop}{q r s:α->β->Prop}{Z:Prop}(k:p->∀a,∀b,q a b->r a b->s a b->Z):(p/\∃a,∃b,q a b/\r a b/\s a b)->Z:=λ⟨h,a,b,A,B,C⟩=>k h a b A B C
theorem gE {p q:Prop}{r:α->Prop}{s t:α->β->γ->δ->Prop}{Z:Prop}(k:p->q->∀a,r a->∀b,∀c,∀d,s a b c d->t a b c d->Z):(p/\q/\∃a,r a/\∃b,∃c,∃d,s a b c d/\t a b c d)->Z:=λ⟨h,A,a,B,b,c,d,C,D⟩=>k h A a B b c d C D
theorem gF {p q r s:α->Prop}{Z:Prop}(k:∀a,p a->q a->r a->s a->Z):(∃a,p a/\q a/\r a/\s a)->Z:=λ⟨a,h,A,B,C⟩=>k a h A B C
theorem gG {p:α->Prop}{q r s t:α->β->γ->δ->Prop}{Z:Prop}(k:∀a,p a->∀b,∀c,∀d,q a b c d->r a b c d->s a b c d->t a b c d->Z):(∃a,p a/\∃b,∃c,∃d,q a b c d/\r a b c d/\s a b c d/\t a b c d)->Z:=λ⟨a,h,b,c,d,A,B,C,D⟩=>k a h b c d A B C D
theorem gH {p:Prop}{q r:α->β->Prop}{Z:Prop}(k:p->∀a,∀b,q a b->r a b->Z):(p/\∃a,∃b,q a b/\r a b)->Z:=λ⟨h,a,b,A,B⟩=>k h a b A B
theorem gI {p:α->β->γ->δ->ε->ζ->η->θ->Prop}{Z:Prop}(k:∀a,∀b,∀c,∀d,∀e,∀f,∀g,∀i,p a b c d e f g i->Z):(∃a,∃b,∃c,∃d,∃e,∃f,∃g,∃i,p a b c d e f g i)->Z:=λ⟨a,b,c,d,e,f,g,i,h⟩=>k a b c d e f g i h
theorem gJ {p q r s t:α->β->γ->δ->ε->ζ->η->θ->ι->Prop}{Z:Prop}(k:∀a,∀b,∀c,∀d,∀e,∀f,∀g,∀i,∀j,p a b c d e f g i j->q a b c d e f g i j->r a b c d e f g i j->s a b c d e f g i j->t a b c d e f g i j->Z):(∃a,∃b,∃c,∃d,∃e,∃f,∃g,∃i,∃j,p a b c d e f g i j/\q a b c d e f g i j/\r a b c d e f g i j/\s a b c d e f g i j/\t a b c d e f g i j)->Z:=λ⟨a,b,c,d,e,f,g,i,j,h,A,B,C,D⟩=>k a b c d e f g i j h A B C D
theorem gK {p q:α->β->γ->Prop}{Z:Prop}(k:∀a,∀b,∀c,p a b c->q a b c->Z):(∃a,∃b,∃c,p a b c/\q a b c)->Z:=λ⟨a,b,c,h,A⟩=>k a b c h A
theorem gM {p:α->Prop}{Z:Prop}(k:∀a,p a->Z):(∃a,p a)->Z:=λ⟨a,h⟩=>k a h
theorem gO {p:α->β->Prop}{Z:Prop}(k:∀a,∀b,p a b->Z):(∃a,∃b,p a b)->Z:=λ⟨a,b,h⟩=>k a b h
theorem gP {p:α->β->γ->δ->ε->Prop}{Z:Prop}(k:∀a,∀b,∀c,∀d,∀e,p a b c d e->Z):(∃a,∃b,∃c,∃d,∃e,p a b c d e)->Z:=λ⟨a,b,c,d,e,h⟩=>k a b c d e h
end
local macro_rules | `("a")=>`(by lia) | `("d")=>`(by decide) | `("r")=>`(by rfl) | `("s")=>`(by simp) | `("q")=>`(by decide+kernel) | `(↑$x)=>`(by simpa using $x) | `("l")=>`(λ_ _ _ _ h=>by repeat first | exact congrArg List.length h.1 | refine lX h λ_ _ _ _ h=>?_ | refine Exists.elim h λ_ h=>?_)
local macro_rules | `(tactic| ac_nf)=>`(tactic|try dsimp only[L2.cxK,L2.cxP,L2.cxW])
theorem lX{α β γ δ:Type}{P:α->β->γ->δ->Prop}{Q:Prop}(h:∃a b c d,P a b c d)(k:∀a b c d,P a b c d->Q):Q:=let⟨a,b,c,d,p⟩:=h;k a b c d p
abbrev AD:=List PySem.Str
abbrev  AA:=Nat×Nat
abbrev AB:=List AA
namespace L2
open PySem PySem.Spec PyProof.Rows
abbrev Key:=Sum Int Str
def zeP:Key->X9->Bool
 | .inl k,v=>Value.isInt k v
 | .inr x,v=>Value.isStrOf x v
def zqY(w:W9):Key->Int
 | .inl k=>hashInt k
 | .inr x=>hashStr w x
theorem jx:∀{k:Key} {v:X9},zeP k v=true->(∃i t,k=OG i/\v=Vo i t)\/(∃x t,k=OF x/\v=NU x t)
 | .inl i,v,h=>by
  obtain⟨t,e⟩:=Value.isInt_shape (k:=i) (v:=v) h;exact .inl ⟨i,t,rfl,e⟩
 | .inr x,v,h=>by
  obtain⟨t,e⟩:=Value.isStrOf_shape (x:=x) (v:=v) h;exact .inr ⟨x,t,rfl,e⟩
def zbH(i)(t):zeP (.inl i) (.int i t)=true:=by simp[zeP,Value.isInt]
def zkR(x)(t):zeP (.inr x) (.str x t)=true:=by simp[zeP,Value.isStrOf]
def zqZ(a b):decide ((OG a:Key)=OG b)=(a==b):=by
 by_cases e:a=b
 .subst e;simp
 .have h:¬ (OG a:Key)=OG b:=λq=>e (Sum.inl.inj q);rw[bf h];exact(beq_eq_false_iff_ne.mpr e).symm
def zq0(a b):decide ((OF a:Key)=OF b)=decide (a=b):=by
 by_cases e:a=b
 .subst e;simp
 .have h:¬ (OF a:Key)=OF b:=λq=>e (Sum.inr.inj q);rw[bf h,bf e]
def zq1(a)(b):decide ((OG a:Key)=OF b)=false:=bf (λq=>nomatch q)
def zq2(a)(b):decide ((OF a:Key)=OG b)=false:=bf (λq=>nomatch q)
def ql(prog:Xu)(w:W9):PySem.KeyKind prog w Key where
 is:=zeP
 hash:=zqY w
 inj:=λv a b ha hb=>by
  rcases jx ha with ⟨i,t,rfl,rfl⟩ | ⟨x,t,rfl,rfl⟩
  .rcases jx hb with ⟨j,u,rfl,e⟩ | ⟨y,u,rfl,e⟩
   .injection e with e1 _;rw[e1]
   .exact nomatch e
  .rcases jx hb with ⟨j,u,rfl,e⟩ | ⟨y,u,rfl,e⟩
   .exact nomatch e
   .injection e with e1 _;rw[e1]
 byValue:=λk v h=>by
  rcases jx h with ⟨i,t,rfl,rfl⟩ | ⟨x,t,rfl,rfl⟩<;>rfl
 pyHash:=λhv h=>by
  rcases jx hv with ⟨i,t,rfl,rfl⟩ | ⟨x,t,rfl,rfl⟩
  .exact wpAny_pyHash_int h
  .exact wpAny_pyHash_str h
 eqBool:=λhu hv h=>by
  rcases jx hu with ⟨i,t,rfl,rfl⟩ | ⟨x,t,rfl,rfl⟩
  .rcases jx hv with ⟨j,u,rfl,rfl⟩ | ⟨y,u,rfl,rfl⟩
   .rw[zqZ]at h;exact wpAny_eqBool_int h
   .rw[zq1]at h;exact SeqAt.EqAt.int_str i t y u _ _ _ _ h
  .rcases jx hv with ⟨j,u,rfl,rfl⟩ | ⟨y,u,rfl,rfl⟩
   .rw[zq2]at h;exact SeqAt.EqAt.str_int x t j u _ _ _ _ h
   .rw[zq0]at h;exact wpAny_eqBool_str h
 «strs»:=λk x t v h=>by
  rcases jx h with ⟨i,u,rfl,e⟩ | ⟨y,u,rfl,e⟩
  .exact nomatch e
  .injection e with e1 _
   subst e1;cases v<;>rfl
def zgK(prog)(w)(i)(t):(ql prog w).is (.inl i) (.int i t)=true:=zbH i t
def zgL(prog)(w)(x)(t):(ql prog w).is (.inr x) (.str x t)=true:=zkR x t
inductive V where
 | non | bl (b:Bool) | int (i:Int) | str (x:Str) | byt (b:Array UInt8) | flt (b:UInt64) | ref (a:Addr) | ty (n:String)
 deriving DecidableEq
abbrev AE:=List V
def RelV:V->X9->Prop
 | .non,u=>u=U1
 | .bl b,u=>u=Oh b
 | .int i,u=>∃t,u=Vo i t
 | .str x,u=>∃t,u=NU x t
 | .byt b,u=>∃t,u=Value.bytes b t
 | .flt b,u=>∃t,u=Value.float b t
 | .ref a,u=>u=WU a
 | .ty n,u=>u=PF n
abbrev Vals:AE->List X9->Prop:=Xk RelV
theorem Vals.length(r:Vals xs a):xs.length=a.length:=Paired.length r
theorem Vals.get:∀{xs:AE} {a:List X9} {i:Nat} {x:V},Vals xs a->xs[i]?=some x->∃u,a[i]?=some u/\RelV x u
 | _,_,_,_,.nil,e=>by simp at e
 | _,_,0,_,.cons r _,e=>by simp at e;subst e;exact⟨_,rfl,r⟩
 | _,_,i+1,x,.cons _ t,e=>by
  obtain⟨u,h1,h2⟩:=Vals.get (i:=i) (x:=x) t ↑e;exact⟨u,↑h1,h2⟩
theorem Vals.set(r:RelV x u):∀{xs:AE} {a:List X9} (i:Nat),Vals xs a->Vals (xs.set i x) (a.set i u)
 | _,_,_,.nil=>.nil
 | _,_,0,.cons _ t=>.cons r t
 | _,_,i+1,.cons q t=>.cons q (Vals.set r i t)
theorem Vals.append:∀{xs ys:AE} {a b:List X9},Vals xs a->Vals ys b->Vals (xs++ys) (a++b)
 | _,_,_,_,.nil,s=>s
 | _,_,_,_,.cons r t,s=>.cons r (Vals.append t s)
theorem Vals.take:∀{xs:AE} {a:List X9} (n:Nat),Vals xs a->Vals (xs.take n) (a.take n)
 | _,_,0,_=>.nil
 | _,_,_+1,.nil=>.nil
 | _,_,n+1,.cons r t=>.cons r (Vals.take n t)
theorem Vals.drop:∀{xs:AE} {a:List X9} (n:Nat),Vals xs a->Vals (xs.drop n) (a.drop n)
 | _,_,0,r=>r
 | _,_,_+1,.nil=>.nil
 | _,_,n+1,.cons _ t=>Vals.drop n t
def zbI:Option V->Option X9->Prop
 | some v,some u=>RelV v u
 | none,none=>True
 | _,_=>False
def KV{a:Type}:List (a × V)->List (a × X9)->Prop:=Xk λ(p:a × V) (q:a × X9)=>p.1=q.1/\RelV p.2 q.2
def kV:Key->V
 | .inl i=>.int i
 | .inr x=>.str x
inductive HO where
  | lst (xs:AE)
  | tup (xs:AE)
  | dK (kvs:List (Key×V)) | dT (kvs:List (List Key×V))
  | set (S:Int->Bool) (n:Nat)
  | ins (C dx:Addr) (fs:List (Str×V))
  | own (x:Addr)
  | xd (fs:List (Str×V))
  | met (f x:Addr)
  | rng (lo hi:Int)
  | frz (o:Obj) (u:HO)
  | tbl (ps:Array X9)
  | ext (φ:Heap->Prop)
abbrev Hp:=Addr->Option HO
def upd(H:Hp)(a:Addr)(o:HO):Hp:=λb=>if b=a then some o else H b
def zb:upd H a o a=some o:=by unfold upd;rw[bw rfl]
def zq(h:b≠a):upd H a o b=H b:=by unfold upd;rw[bq h]
def zeQ{H:Hp}(h:H a=some o)(h':H b=some u)(d:o≠u):a≠b:=by
 intro e;subst e;rw[h]at h';exact d (Option.some.inj h')
def zj{H:Hp}(h:H a=some o)(h':H b=none):a≠b:=by
 intro e;subst e;rw[h]at h';cases h'
section
variable (P:Xu)(w:W9)
def ji(H:Hp)(h:Heap)(a:Addr):HO->Prop
 | .lst xs=>xs.length<=Xz/\∃(b:List X9) (n:Nat),Vals xs b/\h.get? a=some { cls:=.type "list",data:=.seq b.toArray n }
 | .tup xs=>xs.length<=Xz/\∃b:List X9,Vals xs b/\NO h a b.toArray
 | .dK c=>c.length<=Xz/\(a==Vz)=false/\∃j,KV c j/\h.DictOf (ql P w) a j
 | .dT c=>c.length<=Xz/\(a==Vz)=false/\∃xs:List (List Key×Addr×X9),
   Xk (λ(p:List Key×V) (q:List Key×Addr×X9)=>p.1=q.1/\H q.2.1=some (.tup (p.1.map kV))/\RelV p.2 q.2.2) c xs /\
   ∃o i k,h.get? a=some o/\o.ExactDict/\o.data=.dict i k/\i.toList=xs.map (S4 (VO (ql P w)))/\(xs.map (·.1)).Nodup
 | .set S n=>h.SetOf (intKind P w) a S n
 | .ins C e fs=>H e=some (.own a)/\fs.length<=1000/\e≠a/\h.get? a=some (Pk C e) /\
   ∃d,h.Ns1 e d/\(∀f,zbI (fs.lookup f) (d f))/\PySem.Within d (fs.map (·.1))
 | .own _=>∃o,h.get? a=some o
 | .xd fs=>∃d,h.Ns1 a d/\∀f,zbI (fs.lookup f) (d f)
 | .rng lo l=>∃t u v,h.get? a=some { cls:=.type "range",data:=.fields #[.int lo t,.int l u,.int 1 v] }
 | .frz o u=>h.get? a=some o/\ji H h a u
 | .tbl m=>h.get? a=some { cls:=.none,data:=.fields m }
 | .met f x=>h.get? a=some (Rl (.ref f) (.ref x))
 | .ext g=>g h/\(∃o,h.get? a=some o)/\∀h1 h2:Heap,g h1->(∀o,h1.get? a=some o->h2.get? a=some o)->g h2
def HOk(H:Hp)(h:Heap):Prop:=∀a o,H a=some o->ji P w H h a o
end
section
variable {P:Xu}{w:W9}{H H':Hp}{h h':Heap}{a:Addr}{o:HO}
theorem ji.lt(x:ji P w H h a o):a<h.objs.size:=by
 cases o with
 | lst c=>obtain⟨_,_,_,_,e⟩:=x;exact XA e
 | tup c=>obtain⟨_,_,_,p⟩:=x;exact p.lt
 | dK b=>revert x;refine gE λ_ _ _ _ o _ _ e _=>?_;exact XA e
 | dT b=>revert x;refine gE λ_ _ _ _ o _ _ e _=>?_;exact XA e
 | set S n=>revert x;refine fU λo _ _ _=>gr λe _=>?_;exact XA e
 | ins C d fs=>obtain⟨_,_,_,e,_⟩:=x;exact XA e
 | own y=>obtain⟨_,e⟩:=x;exact XA e
 | xd fs=>obtain⟨_,⟨_,_,_,e,_⟩,_⟩:=x;exact XA e
 | rng lo g=>obtain⟨_,_,_,e⟩:=x;exact XA e
 | frz ob u=>obtain⟨e,_⟩:=x;exact XA e
 | tbl i=>exact XA (show h.get? a=some _ from x)
 | met f y=>exact XA (show h.get? a=some _ from x)
 | ext j=>obtain⟨_,⟨_,e⟩,_⟩:=x;exact XA e
theorem Paired.mapP:∀{c:List α} {l₂:List d},Xk F c l₂->(∀a b,F a b->G a b)->Xk G c l₂
 | _,_,.nil,_=>.nil
 | _,_,.cons r t,f=>.cons (f _ _ r) (Paired.mapP t f)
def Paired.imp'{G:α->d->Prop}(f:∀a b,F a b->G a b)(r:Xk F c l₂):Xk G c l₂:=Paired.mapP r f
def ji.stay(x:ji P w H h a o)(k:∀b u,(b=a\/H b=some (.own a))->h.get? b=some u->h'.get? b=some u)
  (D:∀b,H b=some (.own a)->H' b=some (.own a)) (E:∀b xs,H b=some (.tup xs)->H' b=some (.tup xs)):ji P w H' h' a o:=by
 induction o with
 | lst xs=>obtain⟨z,j,n,r,e⟩:=x;exact⟨z,j,n,r,k _ _ (.inl rfl) e⟩
 | tup xs=>revert x;refine gr λz=>fW λj r ob e c=>?_;exact⟨z,j,r,ob,k _ _ (.inl rfl) e,c⟩
 | dK l=>revert x;refine gE λz y J r ob i g e c=>?_;exact fq z y J r (fJ ob i g (k _ _ (.inl rfl) e) c)
 | dT l =>
  revert x;refine gE λz y xs r ob i g e c=>?_;exact fq z y xs (Paired.mapP r λp q z=>⟨z.1,E _ _ z.2.1,z.2.2⟩) (fJ ob i g (k _ _ (.inl rfl) e) c)
 | set S n=>revert x;refine fU λob i g t=>gr λe c=>?_;exact er ob i g t ⟨k _ _ (.inl rfl) e,c⟩
 | ins C L fs =>
  obtain⟨d,z,I,e,m,⟨s,i,g,B,c⟩,r⟩:=x;exact fj (D _ d) z I (k _ _ (.inl rfl) e) (dY m ⟨s,i,g,k _ _ (.inr d) B,c⟩ r)
 | own y=>obtain⟨ob,e⟩:=x;exact⟨ob,k _ _ (.inl rfl) e⟩
 | xd fs=>obtain⟨m,⟨s,i,g,e,c⟩,r⟩:=x;exact⟨m,⟨s,i,g,k _ _ (.inl rfl) e,c⟩,r⟩
 | rng lo M=>obtain⟨t,u,v,e⟩:=x;exact⟨t,u,v,k _ _ (.inl rfl) e⟩
 | frz ob u G=>obtain⟨e,q⟩:=x;exact⟨k _ _ (.inl rfl) e,G q⟩
 | tbl A =>
  have e:h.get? a=some { cls:=.none,data:=.fields A }:=x;show h'.get? a=some { cls:=.none,data:=.fields A };exact k a _ (.inl rfl) e
 | met f y =>
  have e:h.get? a=some (Rl (.ref f) (.ref y)):=x;show h'.get? a=some (Rl (.ref f) (.ref y));exact k a _ (.inl rfl) e
 | ext N=>obtain⟨p,⟨o,e⟩,st⟩:=x;exact⟨st _ _ p λo q=>k _ _ (.inl rfl) q,⟨o,k _ _ (.inl rfl) e⟩,st⟩
theorem HOk.lt(x:HOk P w H h)(e:H a=some o):a<h.objs.size:=(x a o e).lt
def HOk.fresh(x:HOk P w H h)(e:h.objs.size<=a):H a=none:=by
 cases q:H a with
 | none=>rfl
 | some u=>exact absurd (Xq (x.lt q) e) (VX _)
def HOk.kept(x:HOk P w H h)(k:∀b u,h.get? b=some u->h'.get? b=some u):HOk P w H h':=λa o e =>
 (x a o e).stay (λb u _ q=>k b u q) (λ_ q=>q) λ_ _ q=>q
def HOk.laid(x:HOk P w H h)(k:∀b u,h.get? b=some u->h'.get? b=some u)(i:h.objs.size<=a)(d:ji P w (upd H a o) h' a o):HOk P w (upd H a o) h':=λb u e=>by
 have g:=x.fresh i;by_cases f:b=a
 .subst f;rw[zb]at e;cases e;exact d
 .rw[zq f]at e;exact(x b u e).stay (λc v _ q=>k c v q) (λc q=>by rw[zq (zj q g)];exact q) λc j q=>by rw[zq (zj q g)];exact q
end
def Rd(H:Hp)(a:Addr)(u:HO):Prop:=H a=some u\/∃o,H a=some (.frz o u)
def Rd.ok(r:Rd H a u)(x:HOk P w H h):ji P w H h a u:=by
 rcases r with r | ⟨o,r⟩
 .exact x a u r
 .obtain⟨_,q⟩:=x a _ r;exact q
def Mut:Option HO->Prop
 | some (.lst _)=>True
 | some (.dK _)=>True
 | some (.dT _)=>True
 | some (.set _ _)=>True
 | some (.ins _ _ _)=>True
 | some (.ext _)=>True
 | _=>False
section
variable {P:Xu}{w:W9}{H:Hp}{h h':Heap}{x e:Addr}{o':HO}
def HOk.write(ok:HOk P w H h)(i:Mut (H x))(he:e=x\/H e=some (.own x))(k:∀b u,b≠e->h.get? b=some u->h'.get? b=some u)(l:∃u,h'.get? e=some u)
  (m:ji P w (upd H x o') h' x o'):HOk P w (upd H x o') h':=λb u q=>by
 have d:∀c y,H c=some (.own y)->c≠x:=λc y r z=>by subst z;rw[r]at i;exact i
 have f:∀c j,H c=some (.tup j)->c≠x:=λc j r z=>by subst z;rw[r]at i;exact i
 by_cases g:b=x
 .subst g;rw[zb]at q;cases q;exact m
 .rw[zq g]at q;by_cases a:b=e
  .have n:H b=some (.own x):=by
    rcases he with z | z
    .exact absurd (a.trans z) g
    .rw[a];exact z
   rw[q]at n;cases n;obtain⟨v,o⟩:=l;exact⟨v,by rw[a];exact o⟩
  .refine(ok b u q).stay (λc v hc r=>k c v ?_ r) (λc r=>by rw[zq (d c b r)];exact r) λc j r=>by rw[zq (f c j r)];exact r
   rcases hc with rfl | hc
   .exact a
   .rintro rfl;rcases he with z | z
    .exact d c b hc z
    .rw[hc]at z;cases z;exact g rfl
end
structure Un (fs ex:List Addr)(H H':Hp)(h h':Heap):Prop where
 keep:∀b o,h.get? b=some o->H b=none->b ∉ fs->b ∉ ex->h'.get? b=some o
 slot:∀b o,h.get? b=some o->H b=none->b∈fs->b ∉ ex->∃sl,h'.get? b=some { o with slots:=sl }
 free:∀b o,h.get? b=some o->H b=none->b ∉ ex->H' b=none
 there:∀b o,h.get? b=some o->b ∉ ex->∃o',h'.get? b=some o'
 tups:∀b xs,H b=some (.tup xs)->H' b=some (.tup xs)
 frzs:∀b o u,H b=some (.frz o u)->H' b=some (.frz o u)
 tbls:∀b ps,H b=some (.tbl ps)->∃more,H' b=some (.tbl (ps++more))
section
variable {fs fs' ex ex':List Addr}{H H1 H2:Hp}{h h1 h2 h':Heap}{a x e:Addr}{o:HO}
def Un.any(u:Un fs ex H H1 h h1)(q:h.get? b=some ob)(n:H b=none)(c:b ∉ ex):∃d,h1.get? b=some { ob with slots:=d }:=by
 by_cases a:b∈fs
 .exact u.slot b ob q n a c
 .exact⟨ob.slots,u.keep b ob q n a c⟩
def Un.kept(k:∀b u,h.get? b=some u->h'.get? b=some u):Un fs ex H H h h' :=
 ⟨λb ob q _ _ _=>k b ob q,λb ob q _ _ _=>⟨ob.slots,k b ob q⟩,λ_ _ _ n _=>n,λb ob q _=>⟨ob,k b ob q⟩,λ_ _ q=>q,λ_ _ _ q=>q,λ_ a q=>⟨#[],by rw[q];simp⟩⟩
def Un.refl:Un fs ex H H h h:=Un.kept λ_ _ q=>q
def Un.laid(k:∀b u,h.get? b=some u->h'.get? b=some u)(hp:h.objs.size<=a)(hn:H a=none):Un fs ex H (upd H a o) h h' where
 keep:=λb u q _ _ _=>k b u q
 slot:=λb u q _ _ _=>⟨u.slots,k b u q⟩
 free:=λb u q n _=>by rw[zq (Xi (Xq (XA q) hp))];exact n
 there:=λb u q _=>⟨u,k b u q⟩
 tups:=λb xs q=>by rw[zq (zj q hn)];exact q
 frzs:=λb u xs q=>by rw[zq (zj q hn)];exact q
 tbls:=λb ps q=>⟨#[],by rw[zq (zj q hn),q];simp⟩
def Un.write(c:Mut (H x))(he:e=x\/H e=some (.own x))(k:∀b u,b≠e->h.get? b=some u->h'.get? b=some u)(d:∃u,h'.get? e=some u):Un fs ex H (upd H x o) h h':=by
 have i:∀b,H b=none->b≠x:=λb n z=>by subst z;rw[n]at c;exact c
 have g:∀b,H b=none->b≠e:=λb n z=>by
  subst z;rcases he with r | r
  .exact i b n r
  .rw[n]at r;cases r
 have f:∀b u,H b=some u->¬ Mut (some u)->b≠x:=λb u q j z=>by subst z;rw[q]at c;exact j c
 refine⟨λb u q n _ _=>k b u (g b n) q,λb u q n _ _=>⟨u.slots,k b u (g b n) q⟩,λb u q n _=>by rw[zq (i b n)];exact n,λb u q _=>?_,λb l q=>by rw[zq (f b _ q λz=>z)];exact q,λb u l q=>by rw[zq (f b _ q λz=>z)];exact q,λb m q=>⟨#[],by rw[zq (f b _ q λz=>z),q];simp⟩⟩
 by_cases a:b=e
 .subst a;exact d
 .exact⟨u,k b u a q⟩
end
def trk(h:Heap)(H:Hp):List Addr:=(VU h.objs.size).filter λa=>(H a).isSome
def zao(h:Heap)(H:Hp):Heap:=PySem.W.hideAll h (trk h H)
def zkS(h)(H):(zao h H).objs.size=h.objs.size:=PySem.W.hideAll_size _ _
def zl6(e:h.get? b=some o)(n:H b=none):(zao h H).get? b=some o :=
 Tk _ e λa=>by
  have q:(H b).isSome=true:=(XW.mp a).2;rw[n]at q;simp at q
def zoK(e:(zao h H).get? b=some o):h.get? b=some o/\H b=none:=by
 have a:h.get? b=some o:=PySem.W.of_hideAll (trk h H) e;refine⟨a,?_⟩;cases q:H b with
 | none=>rfl
 | some x =>
  have c:b∈trk h H:=XW.mpr ⟨We.mpr (XA a),by simp[q]⟩;have z:(zao h H).get? b=none:=PySem.W.hideAll_none (trk h H) c;rw[z]at e;cases e
structure Mod (K:X4)(mg:Str->Option X9)(base:Heap):Prop where
 kin:K.In base
 glob:base.Ns XT mg
 blt:∃mb,base.Ns RM mb/\∀x:Str,x ≠ "__name__"->mb x=UU x
 nolimit:base.NoLimit
structure Cx where
 prog:Xu
 w:W9
 K:X4
 mg:Str->Option X9
 base:Heap
 A:WZ
 N:AD
 s₀:X8
 H₀:Hp
 env:Env
 outer:List Env
 stack:List Env
 ex:List Addr
 fn:Str->Bool
 calm:Bool
 pn:List (Addr×Obj)
 xe:X9->X8->Prop
def frs(l:List Env):List Addr:=l.filterMap (·.frame)
abbrev Cx.fs (X:Cx):List Addr:=frs X.outer
def Vis(a:Ve)(x:Str):Prop:=a.names.lookup x=some .local\/a.names.lookup x=some .cell\/a.names.lookup x=some .free
def Loc(a:Ve)(x:Str):Prop:=a.names.lookup x=some .local\/a.names.lookup x=some .cell
def Look(a:Env)(h:Heap)(m:Str->Option X9)(x:Str)(u:X9):Prop :=
 (a.kindOf x=some .local/\m x=some u)\/((a.kindOf x=some .cell\/a.kindOf x=some .free)/\∃c,a.cells.lookup x=some c/\h.IsCell c (some u))
structure Cx.Ok (X:Cx):Prop where
 mod:Mod X.K X.mg X.base
 kind:X.env.scope.kind=.function
 glob:X.env.globals=XT
 blt:X.env.builtins=RM
 above:X.s₀.heap.objs.size<=X.env.locals
 inj:∀x y c,X.env.cells.lookup x=some c->X.env.cells.lookup y=some c->x=y
 has:∀x,(X.env.kindOf x=some .cell\/X.env.kindOf x=some .free)->∃c,X.env.cells.lookup x=some c
 cab:∀x c,X.fn x=true->X.env.cells.lookup x=some c->X.s₀.heap.objs.size<=c
 hd:X.calm=true->X.A.handled=none
 frames:X.A.frames=some X.stack
 stk:X.stack=X.outer\/(X.stack=X.env::X.outer/\X.env.frame=some X.env.locals)
 exf:∀b∈X.ex,b≠X.env.locals/\∀x c,X.env.cells.lookup x=some c->c≠b
 bs:∀b o,X.base.get? b=some o->X.s₀.heap.get? b=some o/\X.H₀ b=none
 bsz:X.base.objs.size<=X.s₀.heap.objs.size
 noex:∀b o,X.base.get? b=some o->b ∉ X.ex
 exfs:∀b∈X.ex,b ∉ X.fs
 funs:X.s₀.heap.FunFrames X.base X.outer
 frf:∀b∈X.fs,X.H₀ b=none
structure Inv (X:Cx)(bz:List (Addr×Obj))(σ:List (Option V))(H:Hp)(s:X8):Prop where
 ok:X.Ok
 os:s.os=X.s₀.os
 bare:SW s.gens
 base:Un X.fs X.ex X.H₀ H X.s₀.heap s.heap
 loc:∃m,s.heap.Ns X.env.locals m/\∀(i:Nat) (x:Str) (v:V),X.N[i]?=some x->σ[i]?=some (some v)->Vis X.env.scope x->∃u,RelV v u/\Look X.env s.heap m x u
 cell:∀x c,X.env.cells.lookup x=some c->∃v,s.heap.IsCell c v
 free:H X.env.locals=none
 jy:∀x c,X.env.cells.lookup x=some c->H c=none
 pin:∀p∈X.pn++bz,s.heap.get? p.1=some p.2/\H p.1=none/\p.1≠X.env.locals/\p.1 ∉ X.fs/\∀v,p.2.data ≠ .cell v
 hok:HOk X.prog X.w H s.heap
 len:σ.length=X.N.length
section
variable {X:Cx}{bz:List (Addr×Obj)}{σ:List (Option V)}{H H':Hp}{s:X8}{h':Heap}
def Cx.Ok.nofr(ok:X.Ok)(e:X.base.get? b=some o):b ∉ X.fs:=λa=>by
 have:=(ok.funs.mem a).1;rw[e]at this;cases this
theorem Inv.bs(I:Inv X bz σ H s):∀b o,X.base.get? b=some o->s.heap.get? b=some o/\H b=none:=λb o e =>
 ⟨I.base.keep b o (I.ok.bs b o e).1 (I.ok.bs b o e).2 (I.ok.nofr e) (I.ok.noex b o e),I.base.free b o (I.ok.bs b o e).1 (I.ok.bs b o e).2 (I.ok.noex b o e)⟩
def Inv.bk(I:Inv X bz σ H s):∀b o,X.base.get? b=some o->s.heap.get? b=some o:=λb o e=>(I.bs b o e).1
theorem Inv.mod(I:Inv X bz σ H s):Mod X.K X.mg X.base:=I.ok.mod
def Inv.kIn(I:Inv X bz σ H s):X.K.In s.heap:=I.ok.mod.kin.keeps I.bk
theorem Inv.lt(I:Inv X bz σ H s):X.env.locals<s.heap.objs.size:=let ⟨_,hn,_⟩:=I.loc;hn.lt
def Inv.sz(I:Inv X bz σ H s):X.s₀.heap.objs.size<=s.heap.objs.size:=X5 I.ok.above (Ts I.lt)
def Inv.nofs(I:Inv X bz σ H s){a:Addr}(h:s.heap.objs.size<=a):a ∉ X.fs:=λb=>by
 obtain⟨_,o,c,_⟩:=I.ok.funs.mem b;exact absurd (Xq (XA c) (X5 I.sz h)) (VX _)
def Inv.cne(I:Inv X bz σ H s):∀x c,X.env.cells.lookup x=some c->c≠X.env.locals:=λx c e z=>by
 obtain⟨v,o,f,d⟩:=I.cell x c e;obtain⟨m,⟨i,h,g,b,a,_⟩,_⟩:=I.loc;rw[z,b]at f;cases f;rw[a]at d;cases d
theorem Inv.funs(I:Inv X bz σ H s):s.heap.FunFrames X.base X.outer:=by
 have all:∀(l:List Env),(∀b∈frs l,b∈X.fs)->X.s₀.heap.FunFrames X.base l->s.heap.FunFrames X.base l:=by
  intro l;induction l with
  | nil=>intro _ _;trivial
  | cons g r n =>
   intro f i;obtain⟨hk,⟨L,o,d,j,k,h⟩,m⟩:=i;have a:L∈X.fs:=f L (by unfold frs;rw[UZ,d];exact XU);obtain⟨p,e⟩:=I.base.slot L o k (I.ok.frf L a) a λz=>I.ok.exfs L z a;exact⟨hk,⟨L,_,d,j,e,h⟩,n (λb c=>f b (by unfold frs;rw[UZ,d];exact XS _ c)) m⟩
 exact all X.outer (λ_ c=>c) I.ok.funs
theorem Inv.stack(I:Inv X bz σ H s):s.heap.FunFrames X.base X.stack:=by
 rcases I.ok.stk with e | ⟨e,a⟩
 .rw[e];exact I.funs
 .rw[e];obtain⟨m,b,_⟩:=I.loc;refine .cons (by rw[I.ok.kind];decide) a b ?_ I.funs;exact Us (X5 I.ok.bsz I.ok.above)
def Inv.stkSub(I:Inv X bz σ H s):∀b∈frs X.stack,b∈X.env.locals::X.fs:=λb a=>by
 rcases I.ok.stk with e | ⟨e,c⟩
 .rw[e]at a;exact XS _ a
 .rw[e]at a;unfold frs at a;rw[UZ,c]at a;exact a
def Inv.stkFree(I:Inv X bz σ H s):∀b∈frs X.stack,H b=none:=λb hb=>by
 rcases XG.mp (I.stkSub b hb) with e | hb
 .rw[e];exact I.free
 .obtain⟨_,o,a,_⟩:=I.ok.funs.mem hb;exact I.base.free b o a (I.ok.frf b hb) λz=>I.ok.exfs b z hb
def Inv.step{ch:List Addr}(I:Inv X bz σ H s)
  (g:∀b∈ch,(b∈X.ex\/X.s₀.heap.objs.size<=b)/\b≠X.env.locals/\(∀x c,X.env.cells.lookup x=some c->c≠b)/\∀p∈X.pn++bz,p.1≠b)
  (keep:∀b o,b≠X.env.locals->b ∉ X.fs->b ∉ ch->s.heap.get? b=some o->H b=none->h'.get? b=some o)
  (A:∀b o,b≠X.env.locals->b∈X.fs->b ∉ ch->s.heap.get? b=some o->H b=none->∃sl,h'.get? b=some { o with slots:=sl }) (free:∀b o,b ∉ ch->s.heap.get? b=some o->H b=none->H' b=none)
  (E:∀b o,b ∉ ch->s.heap.get? b=some o->∃N,h'.get? b=some N)
  (Q:∀b B,H b=some (.tup B)->H' b=some (.tup B)) (L:∀b o u,H b=some (.frz o u)->H' b=some (.frz o u)) (O:∀b T,H b=some (.tbl T)->∃more,H' b=some (.tbl (T++more)))
  (ns:∀m,s.heap.Ns X.env.locals m->h'.Ns X.env.locals m) (Y:HOk X.prog X.w H' h') (hg:SW g') :
  Inv X bz σ H' { s with heap:=h',gens:=g',drawn:=d',toks:=t' }:=by
 have M:∀b o,X.s₀.heap.get? b=some o->b≠X.env.locals:=λb o e=>Xi (Xq (XA e) I.ok.above);have y:∀b o,X.s₀.heap.get? b=some o->b ∉ X.ex->b ∉ ch:=λb o e a D=>by
  rcases(g b D).1 with z | z
  .exact a z
  .exact absurd (Xq (XA e) z) (VX _)
 have f:∀x c,X.env.cells.lookup x=some c->∀v,s.heap.IsCell c v->h'.IsCell c v:=λx c e v ⟨o,G,U⟩=>by
  have h:c ∉ ch:=λz=>(g c z).2.2.1 x c e rfl;by_cases hc:c∈X.fs
  .obtain⟨sl,q⟩:=A c o (I.cne x c e) hc h G (I.jy x c e);exact⟨_,q,U⟩
  .exact⟨o,keep c o (I.cne x c e) hc h G (I.jy x c e),U⟩
 refine⟨I.ok,I.os,hg,⟨λb o e n D a=>?_,λb o e n D a=>?_,λb o e n a=>?_,λb o e a=>?_,λb B e=>Q b B (I.base.tups b B e),λb o B e=>L b o B (I.base.frzs b o B e),λb T e=>?_⟩,?_,λx c e=>?_,?_,λx c e=>?_,λp hp=>?_,Y,I.len⟩
 .exact keep b o (M b o e) D (y b o e a) (I.base.keep b o e n D a) (I.base.free b o e n a)
 .obtain⟨sl,j⟩:=I.base.slot b o e n D a;obtain⟨aa,J⟩:=A b _ (M b o e) D (y b o e a) j (I.base.free b o e n a);exact⟨aa,J⟩
 .obtain⟨N,j⟩:=I.base.there b o e a;exact free b N (y b o e a) j (I.base.free b o e n a)
 .obtain⟨N,j⟩:=I.base.there b o e a;exact E b N (y b o e a) j
 .obtain⟨m1,j⟩:=I.base.tbls b T e;obtain⟨m2,J⟩:=O b _ j;exact⟨m1++m2,by rw[J,Rz]⟩
 .obtain⟨m,hn,hl⟩:=I.loc;refine⟨m,ns m hn,λi x v j J e3=>?_⟩;obtain⟨u,r,l⟩:=hl i x v j J e3;refine⟨u,r,?_⟩;rcases l with l | ⟨k,c,e,z⟩
  .exact .inl l
  .exact .inr ⟨k,c,e,f x c e _ z⟩
 .obtain⟨v,z⟩:=I.cell x c e;exact⟨v,f x c e v z⟩
 .obtain⟨m,⟨o,_,_,G,_⟩,_⟩:=I.loc;exact free _ o (λz=>(g _ z).2.1 rfl) G I.free
 .obtain⟨v,o,G,U⟩:=I.cell x c e;exact free c o (λz=>(g c z).2.2.1 x c e rfl) G (I.jy x c e)
 .refine gc (λe n ne nf d=>?_) (I.pin p hp);have h:p.1 ∉ ch:=λz=>(g p.1 z).2.2.2 p hp rfl;exact⟨keep p.1 p.2 ne nf h e n,free p.1 p.2 h e n,ne,nf,d⟩
def Inv.un(I:Inv X bz σ H s)(u:Un X.fs [] H H' s.heap h')(g:HOk X.prog X.w H' h'):Inv X bz σ H' { s with heap:=h',toks:=t' }:=by
 obtain⟨m,⟨o,p,l,h,r⟩,_⟩:=id I.loc;obtain⟨x,i⟩:=u.any h I.free "s";exact I.step (g':=s.gens) (d':=s.drawn) (ch:=[]) (λ_ z=>nomatch z) (λb o _ f _ e n=>u.keep b o e n f "s") (λb o _ f _ e n=>u.slot b o e n f "s") (λb o _ e n=>u.free b o e n "s") (λb o _ e=>u.there b o e "s") u.tups u.frzs u.tbls (λq j=>by
  obtain⟨v,d,c,a,k⟩:=j;rw[h]at a;cases a;exact⟨_,d,c,i,k⟩) g I.bare
def Inv.call(I:Inv X bz σ H s)(u:Un (frs X.stack) ch H H' s.heap h')(j:HOk X.prog X.w H' h')(q:SW g')
  (d:∀b∈ch,(b∈X.ex\/X.s₀.heap.objs.size<=b)/\b≠X.env.locals/\(∀x c,X.env.cells.lookup x=some c->c≠b)/\∀p∈X.pn++bz,p.1≠b) :
  Inv X bz σ H' { s with heap:=h',gens:=g',drawn:=d',toks:=t' }:=by
 obtain⟨m,⟨o,B,A,k,r⟩,_⟩:=id I.loc;obtain⟨G,i⟩:=u.any k I.free λz=>(d _ z).2.1 rfl;exact I.step (ch:=ch) d (λb o i l a e n=>u.keep b o e n (λz=>(XG.mp (I.stkSub b z)).elim i l) a) (λb o _ _ a e n=>u.any e n a) (λb o a e n=>u.free b o e n a) (λb o a e=>u.there b o e a) u.tups u.frzs u.tbls (λD v=>by
  obtain⟨E,h,g,f,y⟩:=v;rw[k]at f;cases f;exact⟨_,h,g,i,y⟩) j q
def Inv.turned(I:Inv X bz σ H s)(k:∀b o,b≠it->s.heap.get? b=some o->h'.get? b=some o)(w:H it=none)(f:it≠X.env.locals)
  (h1:it∈X.ex\/X.s₀.heap.objs.size<=it) (h2:∀x c,X.env.cells.lookup x=some c->c≠it) (i:∀p∈X.pn++bz,p.1≠it):Inv X bz σ H { s with heap:=h',toks:=t' }:=by
 have d:∀b u,H b=some u->b≠it:=λb u e z=>by rw[z,w]at e;cases e
 refine I.step (g':=s.gens) (d':=s.drawn) (ch:=[it]) (λb j=>?_) (λb o _ _ a e _=>k b o (λz=>a (by simp[z])) e) (λb o _ _ a e _=>⟨o.slots,k b o (λz=>a (by simp[z])) e⟩) (λ_ _ _ _ n=>n)
  (λb o a e=>⟨o,k b o (λz=>a (by simp[z])) e⟩) (λ_ _ e=>e) (λ_ _ _ e=>e) (λb A e=>⟨#[],by rw[e];simp⟩) (λm l=>?_) (λb u e=>?_) I.bare
 .have e:b=it:=by simpa using j
  subst e;exact⟨h1,f,h2,i⟩
 .obtain⟨o,h,g,y,r⟩:=l;exact⟨o,h,g,k _ o (Vd f) y,r⟩
 .refine(I.hok b u e).stay (λc v a q=>k c v ?_ q) (λ_ q=>q) λ_ _ q=>q;rcases a with z | z
  .rw[z];exact d b u e
  .exact d c _ z
def Inv.tok(I:Inv X bz σ H s)(t):Inv X bz σ H { s with toks:=t }:=I.un (h':=s.heap) (t':=t) Un.refl I.hok
theorem Inv.kept(I:Inv X bz σ H s)(k:∀b u,s.heap.get? b=some u->h'.get? b=some u):Inv X bz σ H { s with heap:=h',toks:=t' }:=I.un (Un.kept k) (I.hok.kept k)
theorem Inv.laid{a:Addr}(I:Inv X bz σ H s)(k:∀b u,s.heap.get? b=some u->h'.get? b=some u)(c:s.heap.objs.size<=a)(d:ji X.prog X.w (upd H a o) h' a o) :
  Inv X bz σ (upd H a o) { s with heap:=h',toks:=t' }:=I.un (Un.laid k c (I.hok.fresh c)) (I.hok.laid k c d)
theorem Inv.write(I:Inv X bz σ H s)(d:Mut (H x))(he:e=x\/H e=some (.own x))(k:∀b u,b≠e->s.heap.get? b=some u->h'.get? b=some u)(a:∃u,h'.get? e=some u)
  (c:ji X.prog X.w (upd H x o) h' x o):Inv X bz σ (upd H x o) { s with heap:=h',toks:=t' }:=I.un (Un.write d he k a) (I.hok.write d he k a c)
def Inv.pins_of(I:Inv X bz σ H s)(h:∀p∈a,s.heap.get? p.1=some p.2/\H p.1=none/\p.1≠X.env.locals/\p.1 ∉ X.fs/\∀v,p.2.data ≠ .cell v):Inv X a σ H s :=
 ⟨I.ok,I.os,I.bare,I.base,I.loc,I.cell,I.free,I.jy,λp b=>(XV.mp b).elim (λz=>I.pin p (Xa _ z)) (h p),I.hok,I.len⟩
def zc6{N:AD}(e:N.Nodup){j:Nat}(a:N[i]?=some x)(b:N[j]?=some x):i=j:=by
 obtain⟨h1,c⟩:=X6.mp a;obtain⟨h2,d⟩:=X6.mp b;exact(List.getElem_inj e).mp (c.trans d.symm)
def zeR(I:Inv X bz σ H s)(hN:X.N.Nodup)(hi:X.N[i]?=some x)(B:Loc X.env.scope x)(r:RelV v u)
  (h:∀s',Inv X bz (σ.set i (some v)) H s'->(∃a,Wg a s.heap s'.heap/\(a=X.env.locals\/X.env.cells.lookup x=some a))->Q () s') (hf:X.fn x=true\/X.env.scope.names.lookup x=some .local:=by first | exact .inl rfl | exact .inr rfl | assumption):Xw M A (storeName X.env x u) Q E s:=by
 obtain⟨m,hn,hl⟩:=id I.loc;have aa:(X.env.scope.kind == .class || (X.env.scope.kind == .module&&X.env.locals != X.env.globals))=false:=by rw[I.ok.kind];rfl
 have J:i < σ.length:=by rw[I.len];exact(X6.mp hi).1
 have cne:=I.cne;have l:∀{a:Addr} {h':Heap},(∃o,s.heap.get? a=some o/\H a=none)->Wg a s.heap h'->HOk X.prog X.w H h':=λ{a h'} ha f b ob e=>by
  obtain⟨_,_,D⟩:=ha;refine(I.hok b ob e).stay (λc w' hc q=>(f.2 c ?_).trans q) (λ_ q=>q) λ_ _ q=>q;rintro rfl;rcases hc with rfl | hc
  .rw[D]at e;cases e
  .rw[D]at hc;cases hc
 rcases B with hk | hk
 .refine wpAny_storeName_local hk hn (λh' ae f=>?_) aa;refine gK (λoL _ _ af _=>?_) (id hn);refine h _ ⟨I.ok,I.os,I.bare,⟨λb o e n L B=>?_,λb o e n L B=>?_,I.base.free,λb o e B=>?_,I.base.tups,I.base.frzs,I.base.tbls⟩,⟨_,ae,λj y v' g G e3=>?_⟩,λy c e=>?_,I.free,I.jy,λp hp=>?_,l ⟨oL,af,I.free⟩ f,↑I.len⟩ ⟨_,f,.inl rfl⟩
  .exact(f.2 b (Xi (Xq (XA e) I.ok.above))).trans (I.base.keep b o e n L B)
  .obtain⟨sl,g⟩:=I.base.slot b o e n L B;exact⟨sl,(f.2 b (Xi (Xq (XA e) I.ok.above))).trans g⟩
  .obtain⟨o',g⟩:=I.base.there b o e B;exact⟨o',(f.2 b (Xi (Xq (XA e) I.ok.above))).trans g⟩
  .by_cases T:j=i
   .subst T;rw[hi]at g;cases g;rw[SH J]at G;cases G;exact⟨u,r,.inl ⟨hk,"s"⟩⟩
   .rw[Se (Vd T)]at G;obtain⟨u',r',q⟩:=hl j y v' g G e3;refine⟨u',r',?_⟩;rcases q with ⟨k,e⟩ | ⟨k,c,e,z⟩
    .refine .inl ⟨k,?_⟩;have:y≠x:=λe=>T (zc6 hN g (e ▸ hi));simp[this,e]
    .exact .inr ⟨k,c,e,z.sameBut f (cne y c e)⟩
  .obtain⟨w',z⟩:=I.cell y c e;exact⟨w',z.sameBut f (cne y c e)⟩
  .refine gc (λe n ne nf d=>?_) (I.pin p hp);exact⟨(f.2 p.1 ne).trans e,n,ne,nf,d⟩
 .have O:X.fn x=true:=by
   rcases hf with z | z
   .exact z
   .rw[z]at hk;cases hk
  obtain⟨c,hc⟩:=I.ok.has x (.inl hk);obtain⟨w',z⟩:=I.cell x c hc;refine wpAny_storeName_cell I.ok.kind hk hc z (λh' U f=>?_);obtain⟨oc,ab,ac⟩:=id z;refine h { s with heap:=h' } ⟨I.ok,I.os,I.bare,⟨λb o e n L B=>?_,λb o e n L B=>?_,I.base.free,λb o e B=>?_,I.base.tups,I.base.frzs,I.base.tbls⟩,⟨m,hn.sameBut f (Vd (cne x c hc)),λj y v' g G e3=>?_⟩,λy c' e=>?_,I.free,I.jy,λp hp=>?_,l ⟨oc,ab,I.jy x c hc⟩ f,↑I.len⟩ ⟨c,f,.inr hc⟩
  .exact(f.2 b (Xi (Xq (XA e) (I.ok.cab x c O hc)))).trans (I.base.keep b o e n L B)
  .obtain⟨sl,g⟩:=I.base.slot b o e n L B;exact⟨sl,(f.2 b (Xi (Xq (XA e) (I.ok.cab x c O hc)))).trans g⟩
  .obtain⟨o',g⟩:=I.base.there b o e B;exact⟨o',(f.2 b (Xi (Xq (XA e) (I.ok.cab x c O hc)))).trans g⟩
  .by_cases T:j=i
   .subst T;rw[hi]at g;cases g;rw[SH J]at G;cases G;exact⟨u,r,.inr ⟨.inl hk,c,hc,U⟩⟩
   .rw[Se (Vd T)]at G;obtain⟨u',r',q⟩:=hl j y v' g G e3;refine⟨u',r',?_⟩;rcases q with q | ⟨k,c',e,z'⟩
    .exact .inl q
    .refine .inr ⟨k,c',e,z'.sameBut f ?_⟩;rintro rfl;exact T (zc6 hN g (I.ok.inj _ _ _ e hc ▸ hi))
  .by_cases Y:c'=c
   .subst Y;exact⟨_,U⟩
   .obtain⟨w2,z2⟩:=I.cell y c' e;exact⟨w2,z2.sameBut f Y⟩
  .refine gc (λe n ne nf d=>?_) (I.pin p hp);refine⟨(f.2 p.1 ?_).trans e,n,ne,nf,d⟩;intro q;rw[q,ab]at e;have q':oc=p.2:=Option.some.inj e;exact d w' (by rw[<- q'];exact ac)
def Ye(I:Inv X bz σ H s)(b:X.N.Nodup)(d:X.N[i]?=some x)(e:Loc X.env.scope x)(r:RelV v u)
  (h:∀s',Inv X bz (σ.set i (some v)) H s'->Q () s') (c:X.fn x=true\/X.env.scope.names.lookup x=some .local:=by first | exact .inl rfl | exact .inr rfl | assumption):Xw M A (storeName X.env x u) Q E s :=
 zeR I b d e r (λs' a _=>h s' a) c
def Inv.call'(I:Inv X bz σ H s)(g:s'.os=s.os)(u:Un (frs X.stack) ch H H' s.heap s'.heap)(d:HOk X.prog X.w H' s'.heap)(f:SW s'.gens)
  (a:∀b∈ch,(b∈X.ex\/X.s₀.heap.objs.size<=b)/\b≠X.env.locals/\(∀x c,X.env.cells.lookup x=some c->c≠b)/\∀p∈X.pn++bz,p.1≠b):Inv X bz σ H' s':=by
 obtain⟨h',g',d',t',h⟩:=s';have e:h=s.os:=g;subst e;exact I.call (g':=g') (t':=t') (d':=d') u d f a
end
abbrev XK:=X9->Option Addr->Hp->Prop
abbrev St:=List (Option V)
abbrev VK:=V->Hp->Prop
abbrev TE:=St->Hp->VK->Prop
abbrev TT:=St->Hp->(Bool->Hp->Prop)->Prop
abbrev TA:=St->Hp->(AE->Hp->Prop)->Prop
structure Ends where
 nx:St->Hp->Prop
 rt:VK
 bk:St->Hp->Prop:=λ_ _=>False
 ct:St->Hp->Prop:=λ_ _=>False
abbrev TS:=Ends->St->Hp->Prop
def EP(X:Cx)(b:List (Addr×Obj))(c:St)(Q:VK)(u:X9)(s':X8):Prop:=∃v a,Inv X b c a s'/\RelV v u/\Q v a
def TP(X:Cx)(c:List (Addr×Obj))(d:St)(Q:Bool->Hp->Prop)(b:Bool)(s':X8):Prop:=∃a,Inv X c d a s'/\Q b a
def AP(X:Cx)(c:List (Addr×Obj))(e:St)(Q:AE->Hp->Prop)(d:List X9)(s':X8):Prop:=∃b a,Inv X c e a s'/\Vals b d/\Q b a
def SP(X:Cx)(c:List (Addr×Obj))(D:Ends)(f:Flow)(s':X8):Prop :=
 match f with
 | .next=>∃ a b,Inv X c a b s'/\D.nx a b
 | .brk=>∃ a b,Inv X c a b s'/\D.bk a b
 | .cont=>∃ a b,Inv X c a b s'/\D.ct a b
 | .ret u=>∃v a b,Inv X c a b s'/\RelV v u/\D.rt v b
def PE(X:Cx)(e:Expr)(t:TE):Prop :=
 ∀(b:List (Addr×Obj)) (s:X8) (a:St) (H:Hp) (Q:VK),Inv X b a H s->t a H Q->Xw (Xv X.prog X.w) X.A (eval e X.env) (EP X b a Q) X.xe s
def PT(X:Cx)(e:Expr)(t:TT):Prop :=
 ∀(b:List (Addr×Obj)) (s:X8) (a:St) (H:Hp) (Q:Bool->Hp->Prop),Inv X b a H s->t a H Q->Xw (Xv X.prog X.w) X.A (isTrue e X.env (eval e X.env)) (TP X b a Q) X.xe s
def PW(X:Cx)(e:Expr)(t:TT):Prop :=
 ∀(whole:Sem X9) (b:List (Addr×Obj)) (s:X8) (a:St) (H:Hp) (Q:Bool->Hp->Prop),Inv X b a H s->t a H Q->Xw (Xv X.prog X.w) X.A (isTrue e X.env whole) (TP X b a Q) X.xe s
def PW.pt(h:PW X e t):PT X e t:=h _
def PA(X:Cx)(c:List Expr)(t:TA):Prop :=
 ∀(pos:Pos) (b:List (Addr×Obj)) (s:X8) (a:St) (H:Hp) (Q:AE->Hp->Prop),Inv X b a H s->t a H Q->Xw (Xv X.prog X.w) X.A (Ob (UV pos (Xh c X.env))) (AP X b a Q) X.xe s
def PS(X:Cx)(st:Stmt)(t:TS):Prop :=
 ∀(a:List (Addr×Obj)) (s:X8) (b:St) (H:Hp) (D:Ends),Inv X a b H s->t D b H->Xw (Xv X.prog X.w) X.A (exec st X.env) (SP X a D) X.xe s
def PSs(X:Cx)(st:List Stmt)(t:TS):Prop :=
 ∀(a:List (Addr×Obj)) (s:X8) (b:St) (H:Hp) (D:Ends),Inv X a b H s->t D b H->Xw (Xv X.prog X.w) X.A (execs st X.env) (SP X a D) X.xe s
def thn(h:Xw M A t Q E s)(c:∀a s,Q a s->b a s):Xw M A t b E s:=WM h c λ_ _ x=>x
section
variable {X:Cx}
def zsA(i:Nat):TE:=fun a H Q=>∃v,a[i]?=some (some v)/\Q v H
def tC(v:V):TE:=λ_ H Q=>Q v H
def zq3{pos:Pos}(j:X.N[i]?=some x)(p:Vis X.env.scope x)(d:(x==("__debug__":Str))=false:=by decide)(b:(x==("__classdict__":Str))=false:=by decide):PE X (.Name x pos) (zsA i):=by
 intro g s q H Q I h;obtain⟨v,e,h⟩:=h;obtain⟨m,o,k⟩:=I.loc;obtain⟨u,r,l⟩:=k i x v j e p;have fin:EP X g q Q u s:=⟨v,H,I,r,h⟩;rcases l with ⟨hk,n⟩ | ⟨hk,c,f,a⟩
 .exact wpAny_Name (wpAny_loadName_local I.ok.kind hk o n fin) d
 .rcases hk with hk | hk
  .exact wpAny_Name (wpAny_loadName_cell I.ok.kind hk f a fin) d
  .exact wpAny_Name (wpAny_loadName_free I.ok.kind hk f a fin b) d
def zf:PE X (.Constant (.int i) j pos) (tC (.int i)):=λ_ _ _ H _ I h=>wpAny_Constant_int ⟨.int i,H,I.tok _,⟨_,rfl⟩,h⟩
def za1:PE X (.Constant (.bool b) j pos) (tC (.bl b)):=λ_ _ _ H _ I h=>Constant_bool ⟨.bl b,H,I,rfl,h⟩
def Zn:PE X (.Constant .none j pos) (tC .non):=λ_ _ _ H _ I h=>Constant_none ⟨.non,H,I,rfl,h⟩
def jQ:PE X (.Constant (.str x) j pos) (tC (.str x)):=λ_ _ _ H _ I h=>Calls.Constant_str ⟨.str x,H,I.tok _,⟨_,rfl⟩,h⟩
def Gl(X:Cx)(x:Str):Prop:=X.env.kindOf x=some .globalImplicit
def xB{e:St}(I:Inv X a e H s)(c:Gl X x)(d:X.mg x=some u)(h:Q u s)
  (b:(x==("__debug__":Str))=false:=by decide):Xw (Xv X.prog X.w) X.A (eval (.Name x pos) X.env) Q E s :=
 Rw I.ok.kind c (Calls.loadGlobal_global (by rw[I.ok.glob];exact I.mod.glob.keeps I.bk) d h) b
def QB{E:X9->X8->Prop}{g:St}{pos:Pos}(I:Inv X a g H s)(c:Gl X x)(d:X.mg x=none)(f:UU x=some u)(h:Q u s)
  (e:x ≠ "__name__":=by decide) (b:(x==("__debug__":Str))=false:=by decide):Xw (Xv X.prog X.w) X.A (eval (.Name x pos) X.env) Q E s:=by
 obtain⟨i,h1,h2⟩:=I.mod.blt;exact Rw I.ok.kind c (Calls.loadGlobal_builtin (by rw[I.ok.glob];exact I.mod.glob.keeps I.bk) d (by rw[I.ok.blt];exact h1.keeps I.bk) ((h2 x e).trans f) h) b
def jz(b:Gl X x)(c:X.mg x=some u)(r:RelV v u)(a:(x==("__debug__":Str))=false:=by decide):PE X (.Name x pos) (tC v) :=
 λ_ _ _ H _ I h=>xB I b c ⟨v,H,I,r,h⟩ a
def zjR{pos:Pos}(b:Gl X x)(c:X.mg x=none)(e:UU x=some u)(r:RelV v u)(d:x ≠ "__name__":=by decide)(a:(x==("__debug__":Str))=false:=by decide):PE X (.Name x pos) (tC v) :=
 λ_ _ _ H _ I h=>QB I b c e ⟨v,H,I,r,h⟩ d a
variable {a b:Expr}{ta tb:TE}{pos:Pos}
def PC(X:Cx)(op:NE)(a b:Expr)(t:TE):Prop :=
 ∀(f:List (Addr×Obj)) (s:X8) (e:St) (H:Hp) (Q:VK),Inv X f e H s->t e H Q ->
  Xw (Xv X.prog X.w) X.A (eval a X.env) (λv c=>Xw (Xv X.prog X.w) X.A (eval b X.env) (λu d=>Xw (Xv X.prog X.w) X.A (Wi op v u) (EP X f e Q) X.xe d) X.xe c) X.xe s
def tB(t:TE):TT:=fun b H Q=>t b H λx a=>∃c,x=.bl c/\Q c a
def zq4(h:PC X op a b t)(h1:Td op b=false:=by first | exact e _ "d" "d" | rfl):PT X (.Compare a [op] [b] pos) (tB t):=by
 intro i s m H Q I j;refine SD (thn (h i s m H _ I j) λv s1 h1=>thn h1 λu n h2=>thn h2 λc o ⟨x,f,g,l,k⟩=>?_) h1;obtain⟨d,rfl,q⟩:=k;cases l;exact VS ⟨f,g,q⟩
variable {tA tB':TT}{rest:List Expr}
def ztR(t u:TT):TT:=fun b H Q=>t b H λc a=>if c=true then u b a Q else Q false a
def tOr(t u:TT):TT:=fun b H Q=>t b H λc a=>if c=true then Q true a else u b a Q
def ztS(t:TT):TT:=fun b H Q=>t b H λc a=>Q (!c) a
def zjS(d:PT X a tA):PW X (.BoolOp .And [a] pos) tA:=by
 intro g b s f H Q I h;refine isTrue_and (thn (d b s f H Q I h) λc s1 e=>?_);cases c with
 | true=>exact isTrue_and_nil e
 | false=>exact e
def zl7(d:PT X a tA):PW X (.BoolOp .Or [a] pos) tA:=by
 intro g b s f H Q I h;refine isTrue_or (thn (d b s f H Q I h) λc s1 e=>?_);cases c with
 | false=>exact isTrue_or_nil e
 | true=>exact e
def zl8(j:PT X a tA)(k:PW X (.BoolOp .And (b::rest) pos) tB'):PW X (.BoolOp .And (a::b::rest) pos) (ztR tA tB'):=by
 intro l f s i H Q I h;refine isTrue_and (thn (j f s i H _ I h) λc s1 ⟨d,e,g⟩=>?_);cases c with
 | true=>exact k l f s1 i d Q e g
 | false=>exact⟨d,e,g⟩
def zjT(j:PT X a tA)(k:PW X (.BoolOp .Or (b::rest) pos) tB'):PW X (.BoolOp .Or (a::b::rest) pos) (tOr tA tB'):=by
 intro l f s i H Q I h;refine isTrue_or (thn (j f s i H _ I h) λc s1 ⟨d,e,g⟩=>?_);cases c with
 | true=>exact⟨d,e,g⟩
 | false=>exact k l f s1 i d Q e g
def zaD(e:PT X a tA):PT X (.UnaryOp .Not a pos) (ztS tA):=by
 intro d s f H Q I h;exact isTrue_not (e d s f H (λc b=>Q (!c) b) I h)
def zsB(ta tb:TE):TE:=fun b H Q=>ta b H λx a=>∃c,x=.bl c/\if c=true then tb b a Q else Q (.bl false) a
def ztT(ta tb:TE):TE:=fun b H Q=>ta b H λx a=>∃c,x=.bl c/\if c=true then Q (.bl true) a else tb b a Q
def zl9(h:PE X a t):PE X (.BoolOp op [a] pos) t:=λb s d H Q I c=>BoolOp_one (h b s d H Q I c)
def zq5(j:PE X a ta)(k:PE X (.BoolOp .And (b::rest) pos) tb):PE X (.BoolOp .And (a::b::rest) pos) (zsB ta tb):=by
 intro g s i H Q I h;refine BoolOp_and (thn (j g s i H _ I h) λv s1 ⟨x,e,f,l,d⟩=>?_);obtain⟨c,rfl,d⟩:=d;cases l;refine VS ?_;cases c with
 | true=>exact k g s1 i e Q f d
 | false=>exact⟨.bl false,e,f,rfl,d⟩
def zsC(j:PE X a ta)(k:PE X (.BoolOp .Or (b::rest) pos) tb):PE X (.BoolOp .Or (a::b::rest) pos) (ztT ta tb):=by
 intro g s i H Q I h;refine BoolOp_or (thn (j g s i H _ I h) λv s1 ⟨x,e,f,l,d⟩=>?_);obtain⟨c,rfl,d⟩:=d;cases l;refine VS ?_;cases c with
 | false=>exact k g s1 i e Q f d
 | true=>exact⟨.bl true,e,f,rfl,d⟩
def tIf(t:TT)(ta tb:TE):TE:=fun a H Q=>t a H λc b=>if c=true then ta a b Q else tb a b Q
def zma(m:PT X c tA)(k:PE X a ta)(l:PE X b tb):PE X (.IfExp c a b pos) (tIf tA ta tb):=by
 intro e s f H Q I h;refine wpAny_IfExp (thn (m e s f H _ I h) λd s1 ⟨g,i,j⟩=>?_);cases d with
 | true=>exact k e s1 f g Q i j
 | false=>exact l e s1 f g Q i j
end
def SqL(K:X4)(H:Hp)(a:Addr)(xs:AE):Prop :=
 Rd H a (.lst xs) \/
  ∃(o:Obj) (b:Array X9) (n:Nat),K.lookup a=some o/\o.cls=.type "list"/\o.dict=none/\o.data=.seq b n/\b.size<=Xz/\Vals xs b.toList
def SqT(K:X4)(H:Hp)(a:Addr)(xs:AE):Prop :=
 Rd H a (.tup xs) \/
  ∃(o:Obj) (b:Array X9) (n:Nat),K.lookup a=some o/\o.cls=.type "tuple"/\o.data=.seq b n/\b.size<=Xz/\Vals xs b.toList
def ztU:X9->Option V
 | .none=>some .non
 | .bool b=>some (.bl b)
 | .int i _=>some (.int i)
 | .str x _=>some (.str x)
 | .bytes b _=>some (.byt b)
 | .float b _=>some (.flt b)
 | .ref a=>some (.ref a)
 | .type n=>some (.ty n)
 | _=>none
def RelV.abs(r:RelV x u):ztU u=some x:=by
 cases x with
 | non=>cases r;rfl
 | bl _=>cases r;rfl
 | int _=>obtain⟨t,rfl⟩:=r;rfl
 | str _=>obtain⟨t,rfl⟩:=r;rfl
 | byt _=>obtain⟨t,rfl⟩:=r;rfl
 | flt _=>obtain⟨t,rfl⟩:=r;rfl
 | ref _=>cases r;rfl
 | ty _=>cases r;rfl
theorem RelV.inj(r:RelV x u)(q:RelV y u):x=y:=Option.some.inj (r.abs.symm.trans q.abs)
theorem Vals.inj:∀{xs ys:AE} {a:List X9},Vals xs a->Vals ys a->xs=ys
 | _,_,_,.nil,.nil=>rfl
 | _,_,_,.cons r t,.cons b t'=>by rw[r.inj b,Vals.inj t t']
section
variable {X:Cx}{bz:List (Addr×Obj)}{σ:St}{H:Hp}{s:X8}{a:Addr}{xs ys:AE}
def SqL.of{K:X4}(h:H a=some (.lst xs)):SqL K H a xs:=.inl (.inl h)
def SqT.of{K:X4}(h:H a=some (.tup xs)):SqT K H a xs:=.inl (.inl h)
def Inv.list(I:Inv X bz σ H s)(h:SqL X.K H a xs):∃b:List X9,Vals xs b/\PlainL s.heap a b.toArray/\xs.length<=Xz:=by
 rcases h with h | ⟨o,b,n,hk,c,d,f,g,r⟩
 .obtain⟨z,b,n,r,e⟩:=h.ok I.hok;exact⟨b,r,⟨_,n,e,rfl,rfl,rfl⟩,z⟩
 .refine⟨b.toList,r,⟨o,n,I.kIn a o hk,c,d,↑f⟩,?_⟩;have e:=r.length;simp only[XX]at e;lia
def Inv.tuple(I:Inv X bz σ H s)(h:SqT X.K H a xs):∃b:List X9,Vals xs b/\NO s.heap a b.toArray/\xs.length<=Xz:=by
 rcases h with h | ⟨o,b,n,hk,c,d,f,r⟩
 .obtain⟨z,b,r,p⟩:=h.ok I.hok;exact⟨b,r,p,z⟩
 .refine⟨b.toList,r,⟨o,I.kIn a o hk,c,n,↑d⟩,?_⟩;have e:=r.length;simp only[XX]at e;lia
def Inv.list_inj(I:Inv X bz σ H s)(h:SqL X.K H a xs)(h':SqL X.K H a ys):xs=ys:=by
 obtain⟨c,r,⟨o,n,e,_,_,d⟩,_⟩:=I.list h;obtain⟨b,j,⟨l,k,g,_,_,f⟩,_⟩:=I.list h';rw[e]at g;cases g;rw[d]at f;injection f with i _
 have:c=b:=by simpa using congrArg Array.toList i
 subst this;exact r.inj j
end
abbrev Cx.wish (X:Cx)(E:X9->X8->Prop):Cx:={ X with xe:=E }
abbrev Cx.nox (X:Cx):Cx:=X.wish λ_ _=>False
theorem Cx.Ok.wish{X:Cx}(ok:X.Ok)(E):(X.wish E).Ok :=
 ⟨ok.mod,ok.kind,ok.glob,ok.blt,ok.above,ok.inj,ok.has,ok.cab,ok.hd,ok.frames,ok.stk,ok.exf,ok.bs,ok.bsz,ok.noex,ok.exfs,ok.funs,ok.frf⟩
def Cx.Ok.unwish{X:Cx}(ok:(X.wish E).Ok):X.Ok :=
 ⟨ok.mod,ok.kind,ok.glob,ok.blt,ok.above,ok.inj,ok.has,ok.cab,ok.hd,ok.frames,ok.stk,ok.exf,ok.bs,ok.bsz,ok.noex,ok.exfs,ok.funs,ok.frf⟩
section
variable {X:Cx}{bz:List (Addr×Obj)}{σ:St}{H:Hp}{s:X8}{E:X9->X8->Prop}
theorem Inv.wish(I:Inv X bz σ H s)(E):Inv (X.wish E) bz σ H s:=⟨I.ok.wish E,I.os,I.bare,I.base,I.loc,I.cell,I.free,I.jy,I.pin,I.hok,I.len⟩
theorem Inv.unwish(I:Inv (X.wish E) bz σ H s):Inv X bz σ H s:=⟨I.ok.unwish,I.os,I.bare,I.base,I.loc,I.cell,I.free,I.jy,I.pin,I.hok,I.len⟩
theorem SP.unwish(h:SP (X.wish E) bz D f s'):SP X bz D f s':=by
 cases f with
 | next=>obtain⟨a,b,I,q⟩:=h;exact⟨a,b,I.unwish,q⟩
 | brk=>obtain⟨a,b,I,q⟩:=h;exact⟨a,b,I.unwish,q⟩
 | cont=>obtain⟨a,b,I,q⟩:=h;exact⟨a,b,I.unwish,q⟩
 | ret u=>obtain⟨v,a,b,I,r,q⟩:=h;exact⟨v,a,b,I.unwish,r,q⟩
theorem PSs.nox{st:List Stmt}(h:PSs X.nox st t):PSs X st t:=λbz s σ H D I a =>
 WM (h bz s σ H D (I.wish _) a) (λ_ _ q=>q.unwish) λ_ _ z=>WK z
end
section
variable {X:Cx}{st:Stmt}{rest:List Stmt}{t u:TS}{e:Expr}{te:TE}{pos:Pos}
def zsD:TS:=λD a H=>D.nx a H
def zsE(t u:TS):TS:=λD a H=>t { D with nx:=u D } a H
def zV:PSs X [] zsD:=λ_ _ a H _ I h=>VB ⟨a,H,I,h⟩
def ze(h1:PS X st t)(h2:PSs X rest u):PSs X (st::rest) (zsE t u):=by
 intro b s e H D I h;refine Vk (thn (h1 b s e H { D with nx:=u D } I h) λf s1 q=>?_);cases f with
 | next =>
  obtain⟨a,c,d,q⟩:=q;exact h2 b s1 a c D d q
 | ret v=>exact q
 | brk=>exact q
 | cont=>exact q
def zg(h1:PS X st t):PSs X [st] t:=by
 intro a s b H D I h;refine Vk (thn (h1 a s b H D I h) λf s1 q=>?_);cases f with
 | next=>exact VB q
 | ret v=>exact q
 | brk=>exact q
 | cont=>exact q
def Inv.quiet{b:St}(I:Inv X a b H s):interactive X.env=false:=by simp[interactive,I.ok.kind]
def zsF(te:TE):TS:=λD a H=>te a H λ_ b=>D.nx a b
def jA(he:PE X e te)(f:Tt e none pos.line X.env=pure false:=by rfl):PS X (.Expr e pos) (zsF te):=by
 intro d s a H D I h;exact wpAny_Expr_any (thn (he d s a H _ I h) λv s1 ⟨x,b,c,i,g⟩=>⟨a,b,c,g⟩) I.quiet f
def zsG(te:TE):TS:=λD a H=>te a H D.rt
def zF(he:PE X e te):PS X (.Return (some e) pos) (zsG te):=by
 intro d s a H D I h;exact wpAny_Return_some (thn (he d s a H _ I h) λv s1 ⟨x,b,c,g,f⟩=>⟨x,a,b,c,g,f⟩)
def zsH(c:TT)(t u:TS):TS:=λD a H=>c a H λb d=>if b=true then t D a d else u D a d
def qH(n:PT X c k)(l:PSs X a t)(m:PSs X b u):PS X (.If c a b pos) (zsH k t u):=by
 intro e s f H D I h;refine wpAny_If (thn (n e s f H _ I h) λd s1 ⟨g,i,j⟩=>?_);cases d with
 | true=>exact l e s1 f g D i j
 | false=>exact m e s1 f g D i j
def zq6:TS:=λ_ _ _=>False
def xC:PS X st zq6:=λ_ _ _ _ _ _ h=>h.elim
end
abbrev TG:=V->St->Hp->(St->Hp->Prop)->Prop
abbrev TGs:=AE->St->Hp->(St->Hp->Prop)->Prop
def PG(X:Cx)(a:Expr)(t:TG):Prop :=
 ∀(d:List (Addr×Obj)) (s:X8) (e:St) (H:Hp) (v:V) (u:X9) (Q:St->Hp->Prop),Inv X d e H s->RelV v u->t v e H Q ->
  Xw (Xv X.prog X.w) X.A (assign a X.env u) (λ_ f=>∃ b c,Inv X d b c f/\Q b c) X.xe s
def PGs(X:Cx)(h:List Expr)(t:TGs):Prop :=
 ∀(c:List (Addr×Obj)) (s:X8) (f:St) (H:Hp) (e:AE) (d:List X9) (Q:St->Hp->Prop),Inv X c f H s->Vals e d->t e f H Q ->
  Xw (Xv X.prog X.w) X.A (assignInOrder ((S2 h X.env).map (·.2)) d) (λ_ g=>∃ a b,Inv X c a b g/\Q a b) X.xe s
abbrev zq7:=V->V->V->Hp->(Hp->Prop)->Prop
def zsI(X:Cx)(t:zq7):Prop :=
 ∀(b:List (Addr×Obj)) (s:X8) (e:St) (H:Hp) (o i v:V) (d c u:X9) (Q:Hp->Prop),Inv X b e H s->RelV o d->RelV i c->RelV v u->t o i v H Q ->
  Xw (Xv X.prog X.w) X.A (setItem d c u) (λ_ f=>∃a,Inv X b e a f/\Q a) X.xe s
abbrev TIp:=V->V->Hp->VK->Prop
def PIp(X:Cx)(op:Operator)(t:TIp):Prop :=
 ∀(a:List (Addr×Obj)) (s:X8) (b:St) (H:Hp) (x y:V) (v u:X9) (Q:VK),Inv X a b H s->RelV x v->RelV y u->t x y H Q ->
  Xw (Xv X.prog X.w) X.A (inplaceOp op v u) (EP X a b Q) X.xe s
section
variable {X:Cx}{pos:Pos}
def xV(i:Nat):TG:=λv a H Q=>Q (a.set i (some v)) H
def zfC(b:X.N.Nodup)(d:X.N[i]?=some x)(e:Loc X.env.scope x)(c:X.fn x=true\/X.env.scope.names.lookup x=some .local:=by first | exact .inl rfl | exact .inr rfl | assumption):PG X (.Name x pos) (xV i):=by
 intro f s j H v u Q I r h;exact wpAny_assign_Name (Ye I b d e r (λg a=>⟨_,H,a,h⟩) c)
def ztV:TGs:=λa b H Q=>a=[]/\Q b H
def zsJ(t:TG)(u:TGs):TGs:=λc d H Q=>∃v r,c=v::r/\t v d H fun a b=>u r a b Q
def jR:PGs X [] ztV:=by
 intro b s a H d c Q I r h;obtain⟨e,h⟩:=h;subst e;cases r;exact assignInOrder_nil ⟨a,H,I,h⟩
def zY(h1:PG X e t)(h2:PGs X a u)
  (i:(S2 (e::a) X.env).map (·.2)=assign e X.env::(S2 a X.env).map (·.2):=by rfl):PGs X (e::a) (zsJ t u):=by
 intro c s l H o m Q I r h;revert h;refine fZ λv n g h=>?_;subst g;cases r with
 | cons r k =>
  rw[i];refine assignInOrder_cons (thn (h1 c s l H _ _ _ I r h) λ_ s1 ⟨b,d,f,j⟩=>?_);exact h2 c s1 b d _ _ Q f k j
def zsK(K:X4)(n:Nat)(t:TGs):TG:=λv c H Q=>∃a b,v=.ref a/\SqT K H a b/\b.length=n/\t b c H Q
def JH{k:Nat}(q:X.calm=true)(h:PGs X c t)
  (x:(S2 c X.env).length=n:=by rfl) (d:(S2 c X.env).findIdx? (·.1)=none:=by rfl):PG X (.Tuple c k pos) (zsK X.K n t):=by
 intro g s j H v u Q I r f;revert f;refine fQ λa D m y w f=>?_;subst m;cases r;obtain⟨B,i,z,E⟩:=I.tuple y;refine assign_Tuple_tuple (I.ok.hd q) z (by simp[x,<- w,i.length]) d λp A=>?_;have l:Inv X g j H { s with heap:=p }:=I.kept (t':=s.toks) λb o e=>A b o (Xi (XA e)) e;exact h g _ j H D _ Q l ↑i f
def zkT(c:TE)(g:TG):TS:=λD a H=>c a H λx b=>g x a b D.nx
def qv(j:X.N.Nodup)(l:X.N[i]?=some x)(n:Loc X.env.scope x)(he:PE X e b)(m:Tt e (some (.Name x a)) pos.line X.env=pure false:=by rfl)(k:X.fn x=true\/X.env.scope.names.lookup x=some .local:=by first | exact .inl rfl | exact .inr rfl | assumption) :
  PS X (.Assign [.Name x a] e pos) (zkT b (xV i)):=by
 intro g s q H D I h;refine SR (thn (he g s q H _ I h) λv s1 ⟨y,c,d,p,o⟩=>?_) m;exact Ye d j l n p (λr f=>⟨_,c,f,o⟩) k
def zsL(n m l:TE)(a:V->V->Hp->VK->Prop)(d:TIp)(b:zq7):TS:=λD c H=>n c H λo e=>m c e λi f=>a o i f λx g=>l c g λy h=>d x y h λz j=>b o i z j λk=>D.nx c k
def zsM(X:Cx)(t:V->V->Hp->VK->Prop):Prop :=
 ∀(a:List (Addr×Obj)) (s:X8) (d:St) (H:Hp) (o i:V) (c b:X9) (Q:VK),Inv X a d H s->RelV o c->RelV i b->t o i H Q ->
  Xw (Xv X.prog X.w) X.A (OE c b) (EP X a d Q) X.xe s
def zjU(Y:PE X o u)(U:PE X i r)(T:zsM X b)(he:PE X e q)(hp:PIp X op k)(hs:zsI X c)
  (Q:∀f d a,augStore i f d a=(do holding [a,f,d] (setItem f d a);release [a,f,d] [];pure .next):=by intros;rfl):PS X (.AugAssign (.Subscript o i l) op e pos) (zsL u r q b k c):=by
 intro j s g H D I h;refine wpAny_AugAssign_SubscriptAny (thn (Y j s g H _ I h) λf s1 ⟨w,y,J,n,q1⟩=>?_) Q;refine thn (U j s1 g y _ J q1) λd s2 ⟨x,z,L,p,q2⟩=>?_;refine thn (T j s2 g z w x f d _ L n p q2) λm s3 ⟨x3,A,I3,r3,q3⟩=>?_;refine thn (he j s3 g A _ I3 q3) λv s4 ⟨x4,B,M,r4,q4⟩=>?_;refine thn (hp j s4 g B x3 x4 m v _ M r3 r4 q4) λa s5 ⟨x5,E,N,r5,q5⟩=>?_;exact thn (hs j s5 g E w x x5 f d a _ N n p r5 q5) λ_ s6 ⟨G,O,q6⟩=>⟨g,G,O,q6⟩
def ipI(f:Int->Int->Int):TIp:=λx y H Q=>∃i j,x=.int i/\y=.int j/\Q (.int (f i j)) H
def zmb:PIp X .Add (ipI λi j=>i+j):=by
 intro e s g H x y v u Q I c d h;obtain⟨i,j,a,b,q⟩:=h;subst a;subst b;obtain⟨t,rfl⟩:=c;obtain⟨f,rfl⟩:=d;exact iadd_int ⟨.int _,H,I.tok _,⟨_,rfl⟩,q⟩
def zmc(c:TT)(h:TS):TS:=λD a H=>∃W:Nat->St->Hp->Prop,(∃m,W m a H)/\∀m a H,W m a H ->
 c a H λb f=>if b=true then ∃N:St->Hp->Prop,(∀ d e,N d e->∃g,g<m/\W g d e)/\h { D with nx:=N,ct:=N,bk:=D.nx } a f else D.nx a f
def zgM(E:NS (Xv X.prog X.w) X.A X.env X.xe)(O:PT X c J)(M:PSs X e G):PS X (.While c e [] pos) (zmc J G):=by
 intro m s σ H D I h;obtain⟨W,⟨Q,Y⟩,i⟩:=h;refine wpAny_While (codeAny_whileLoop (λn T=>∃ j u,Inv X m j u T/\W n j u) ?_ Q ⟨σ,H,I,Y⟩);refine λn s1=>fZ λd x L w1=>?_;refine Vm E (thn (O m s1 d x _ L (i n d x w1)) λb U ⟨y,z,k⟩=>?_);cases b with
 | true =>
  obtain⟨N,B,k⟩:=k;rw[bw rfl];refine Vm E (thn (M m U d y _ z k) λf s3 l=>?_);cases f with
  | next =>
   revert l;refine fZ λa g I3 q=>?_;obtain⟨p,o,r⟩:=B a g q;exact⟨p,o,a,g,I3,r⟩
  | cont =>
   revert l;refine fZ λa g I3 q=>?_;obtain⟨p,o,r⟩:=B a g q;exact⟨p,o,a,g,I3,r⟩
  | brk=>exact l
  | ret v=>exact l
 | false =>
  rw[bq XJ];exact VB ⟨d,y,z,k⟩
end
structure It where
 go:Nat->Hp->Prop
 yld:Nat->Hp->V->Hp->Prop
 stop:Nat->Hp->Prop
def QC(X:Cx)(a:List (Addr×Obj))(H:Hp)(b:Addr):Prop :=
 H b=none/\b≠X.env.locals/\b ∉ X.fs/\(b∈X.ex\/X.s₀.heap.objs.size<=b)/\(∀x c,X.env.cells.lookup x=some c->c≠b)/\∀p∈X.pn++a,p.1≠b
def Inv.fpOk{i:St}{b:Addr}(I:Inv X f i H s)(a:s.heap.objs.size<=b)(g:d b=none):QC X f d b:=by
 refine⟨g,T7 (Xq I.lt a),I.nofs a,.inr (X5 I.sz a),λx c e z=>?_,λp h z=>?_⟩
 .obtain⟨v,q⟩:=I.cell x c e;exact absurd (Xq q.lt (by rw[z];exact a)) (VX _)
 .exact absurd (Xq (XA (I.pin p h).1) (by rw[z];exact a)) (VX _)
structure Turn (P:Xu)(w:W9)(K:X4)(tg:Expr)(J:It)(fp:List Addr)(it:Addr)(tn:Nat->Heap->Prop):Prop where
 mem:it∈fp
 obj:∀i h,tn i h->∀b∈fp,∃o,h.get? b=some o/\∀v,o.data ≠ .cell v
 keep:∀i h h',tn i h->(∀b∈fp,∀o,h.get? b=some o->h'.get? b=some o)->tn i h'
 item:∀(X:Cx),X.prog=P->X.w=w->X.K=K->X.calm=true->∀(i:Nat) (bz:List (Addr×Obj)) (s:X8) (σ:St) (H:Hp) (E:X9->X8->Prop),Inv X bz σ H s->(∀b∈fp,QC X bz H b)->tn i s.heap->J.go i H ->
  Xw (Xv P w) X.A (RO (.ref it)) (λr s1=>∃u,r=some u /\
   Xw (Xv P w) X.A (R7 tg (.ref it) u) (λ_ s2=>∃x H',Inv X bz σ H' s2/\RelV x u/\J.yld i H x H'/\tn (i+1) s2.heap/\∀b∈fp,H' b=none) E s1) E s
 done:∀(X:Cx),X.prog=P->X.w=w->X.K=K->X.calm=true->∀(i:Nat) (bz:List (Addr×Obj)) (s:X8) (σ:St) (H:Hp) (E:X9->X8->Prop),Inv X bz σ H s->(∀b∈fp,QC X bz H b)->tn i s.heap->J.stop i H ->
  Xw (Xv P w) X.A (RO (.ref it)) (λr s1=>r=none/\Inv X bz σ H s1) E s
 self:∀(A:WZ) (i:Nat) (s:X8) (Q:X9->X8->Prop) (E:X9->X8->Prop),tn i s.heap->Q (.ref it) s->Xw (Xv P w) A (NW (.ref it)) Q E s
abbrev TI:=St->Hp->(It->Hp->Prop)->Prop
def PIE(X:Cx)(d:List (Addr×Obj))(j:St)(i:Expr)(R:It->Hp->Prop)(c:X9)(g:X8):Prop :=
 ∃(f:Addr) (e:List Addr) (h:Nat->Heap->Prop) (J:It) (a:Hp),c=.ref f/\Inv X d j a g/\Turn X.prog X.w X.K i J e f h/\h 0 g.heap/\(∀b∈e,QC X d a b)/\R J a
def PI(X:Cx)(d a:Expr)(e:TI):Prop :=
 ∀(c:List (Addr×Obj)) (s:X8) (b:St) (H:Hp) (R:It->Hp->Prop),Inv X c b H s->e b H R ->
  Xw (Xv X.prog X.w) X.A (eval a X.env) (λv s1=>Xw (Xv X.prog X.w) X.A (NW v) (PIE X c b d R) X.xe s1) X.xe s
def zmd(f:s.heap.get? it=some o)(c:o.cls=.type n)(d:o.data=.fields vs)
    (e:["enumerate","zip","dict_itemiterator","dict_reverseitemiterator","odict_iterator","itertools.zip_longest","itertools.pairwise"].contains n=false) (a:Q () s):Xw M A (R7 b (.ref it) u) Q E s:=by
  unfold R7;cases b<;>first
    | exact XR a
    | (cases u<;>first
        | exact XR a
        | (refine Y1 (wpAny_load f ?_)
           rw[c,d]
           show Xw M A (if (["enumerate","zip","dict_itemiterator","dict_reverseitemiterator","odict_iterator","itertools.zip_longest","itertools.pairwise"].contains n&&vs[0]?==some (Ua _))=true then _ else _) Q E s
           rw[bq (by intro h;rw[e,Bool.false_and]at h;cases h)]
           exact XR a))
def Itl(K:X4)(a:Addr):It :=
 ⟨λi H=>∃b x,SqL K H a b/\b[i]?=some x,λi H x c=>c=H/\∀b,SqL K H a b->b[i]?=some x,λi H=>∃b,SqL K H a b/\b.length<=i⟩
def Itr(lo:Int)(n:Nat):It:=⟨λi _=>i<n,λi H x a=>a=H/\x=.int (lo+i),λi _=>n<=i⟩
def zkU{K:X4}(a it):Turn P w K tg (Itl K a) [it] it (λi h=>h.IsListIter it a i) where
 mem:="s"
 obj:=λi h st b hb=>by
  have e:b=it:=by simpa using hb
  subst e;obtain⟨o,e,c,d⟩:=st;exact⟨o,e,λv z=>by rw[d]at z;cases z⟩
 keep:=λi h h' st k=>st.at λo e=>k it "s" o e
 item:=by
  intro X hP hw hK hc i bz s σ H E I hf st hg;subst hP hw hK;revert hg;refine fZ λxs x hq hx=>?_;refine fT (λits rv p hz=>?_) (I.list hq);obtain⟨u,hu,ru⟩:=rv.get hx;refine gj (λf0 f1 f2 f3 f4 f5=>?_) (hf it "s");refine wpAny_pyNext_list_item st p.isList (x:=u) ↑hu λh' st' sb=>?_;have I1:Inv X bz σ H { s with heap:=h' }:=I.turned (t':=s.toks) (λb o hb e=>(sb.2 b hb).trans e) f0 f1 f3 f4 f5;refine fT (λo e c d=>?_) (id st');exact⟨u,rfl,zmd (s:={ s with heap:=h' }) e c d "d" (eX x H I1 ru ⟨rfl,λys hy=>by rw[I.list_inj hy hq];exact hx⟩ st' (λb hb=>(hf b hb).1))⟩
 done:=by
  intro X hP hw hK hc i bz s σ H E I hf st hg;subst hP hw hK;obtain⟨xs,hq,hx⟩:=hg;obtain⟨its,rv,p,hz⟩:=I.list hq;refine gj (λf0 f1 f2 f3 f4 f5=>?_) (hf it "s");have hl:=rv.length;exact wpAny_pyNext_list_end (I.ok.hd hc) st p.isList (by simp;lia) λh' eb=>⟨rfl,I.turned (t':=s.toks) (λb o hb e=>eb b o hb e) f0 f1 f3 f4 f5⟩
 self:=λ_ _ _ _ _ st h=>wpAny_pyIter_listiter st h
def zix{K:X4}(it)(lo)(n):Turn P w K tg (Itr lo n) [it] it (λi h=>IsRangeIter h it (lo+(i:Nat)*1) ((n:Int)-(i:Nat)) 1) where
 mem:="s"
 obj:=λi h st b hb=>by
  have e:b=it:=by simpa using hb
  subst e;exact⟨_,st,λv z=>by
   have z':Data.fields _=Data.cell v:=z;cases z'⟩
 keep:=λi h h' st k=>k it "s" _ st
 item:=by
  intro X hP hw hK hc i bz s σ H E I hf st hg;subst hP hw hK;refine gj (λf0 f1 f2 f3 f4 f5=>?_) (hf it "s");have W:=Walks.range (prog:=X.prog) (w:=X.w) (I.ok.hd hc) it lo 1 n;refine W.item i s _ _ hg st λv h' tk hv st' kk=>?_;obtain⟨t,rfl⟩:=hv;have I1:Inv X bz σ H { s with heap:=h',toks:=tk }:=I.turned (λb o hb e=>kk b o ↑hb e) f0 f1 f3 f4 f5;refine⟨_,rfl,zmd (s:={ s with heap:=h',toks:=tk }) (n:="range_iterator") st' rfl rfl "d" (eX (.int (lo+i)) H I1 ⟨t,?_⟩ ⟨rfl,rfl⟩ st' (λb hb=>(hf b hb).1))⟩;rw[Int.mul_one]
 done:=by
  intro X hP hw hK hc i bz s σ H E I hf st hg;subst hP hw hK;refine gj (λf0 f1 f2 f3 f4 f5=>?_) (hf it "s");exact wpAny_pyNext_range_end (I.ok.hd hc) st (by have:n<=i:=hg;lia) λh' eb=>⟨rfl,I.turned (t':=s.toks) (λb o hb e=>eb b o hb e) f0 f1 f3 f4 f5⟩
 self:=λ_ _ _ _ _ st h=>wpAny_pyIter_rangeiter st h
section
variable {X:Cx}{tg:Expr}
def zqh(K:X4)(c:TE):TI:=fun e H R=>c e H λx b=>∃a,x=.ref a/\(∃d,SqL K b a d)/\R (Itl K a) b
def zN(j:PE X l d):PI X tg l (zqh X.K d):=by
 intro g s u H R I h;refine thn (j g s u H _ I h) λv s1 ⟨x,f,c,r,n⟩=>?_;obtain⟨a,e,⟨z,k⟩,q⟩:=n;subst e;cases r;obtain⟨m,y,p,w⟩:=c.list k;refine SQ p.isList ?_;refine eH s1.heap.objs.size [s1.heap.objs.size] _ _ f rfl (c.kept (t':=s1.toks) λb o e=>XY _ e) (zkU a _) ⟨_,Xg _ rfl,rfl,rfl⟩ (λb i=>?_) q;have e:b=s1.heap.objs.size:=by simpa using i
 subst e;exact c.fpOk (XQ _) (c.hok.fresh (XQ _))
def zgN{f:St}{lo:Int}(I:Inv X d f H s)(h1:-(2^62)<=lo)(h2:lo<2^62)(i:-(2^62)<=a)(j:a<2^62)
  (q:R (Itr lo (a-lo).toNat) H):Xw (Xv X.prog X.w) X.A (NW (.ref s.heap.objs.size)) (PIE X d f tg R) E { s with heap:=s.heap.push { cls:=.type "range",data:=.fields #[.int lo t,.int a u,.int 1 v] },toks:=tk }:=by
 refine wpAny_pyIter_range (IsRange.new ..) (small_one h1 h2 i j) ?_;have c:Inv X d f H { s with heap:=s.heap.push { cls:=.type "range",data:=.fields #[.int lo t,.int a u,.int 1 v] },toks:=tk }:=I.kept λb o e=>XY _ e;refine eH (s.heap.push { cls:=.type "range",data:=.fields #[.int lo t,.int a u,.int 1 v] }).objs.size [(s.heap.push { cls:=.type "range",data:=.fields #[.int lo t,.int a u,.int 1 v] }).objs.size] _ _ H rfl (c.kept (t':=tk) λb o e=>XY _ e) (zix _ lo (a-lo).toNat) ?_ (λb k=>?_) q
 .have g:lo+((0:Nat):Int)*1=lo:="s"
  have h:(((a-lo).toNat:Nat):Int)-((0:Nat):Int)=Builtin.Range.rangeSize lo a 1:=by rw[rangeSize_one];split<;>lia
  show IsRangeIter _ _ (lo+((0:Nat):Int)*1) ((((a-lo).toNat:Nat):Int)-((0:Nat):Int)) 1;rw[g,h];exact Xg _ rfl
 .have e:b=(s.heap.push { cls:=.type "range",data:=.fields #[.int lo t,.int a u,.int 1 v] }).objs.size:=by simpa using k
  subst e;exact c.fpOk (XQ _) (c.hok.fresh (XQ _))
def zqi(b:TA):TI:=fun d H R=>b d H λc a=>∃j:Int,c=[.int j]/\-(2^62)<=j/\j<2^62/\R (Itr 0 j.toNat) a
def zsN(b:TA):TI:=fun d H R=>b d H λc a=>∃i j:Int,c=[.int i,.int j]/\(-(2^62)<=i/\i<2^62/\-(2^62)<=j/\j<2^62)/\R (Itr i (j-i).toNat) a
def zkV(i:Gl X "range")(k:X.mg "range"=none)(g:PA X [a] c)(l:Xh [a] X.env=[(false,eval a X.env)]:=by rfl):PI X tg (.Call (.Name "range" p) [a] [] pos) (zqi c):=by
 intro f s u H R I h;refine Call_ (QB I i k boot_range (VP (thn (g pos f s u H _ I h) λw s1 ⟨x,v,d,n,b⟩=>?_) l rfl));obtain⟨j,e,b,m,q⟩:=b;subst e;cases n with
 | cons r o =>
  cases o;obtain⟨t,rfl⟩:=r;exact call_range_1 (zgN d "a" "a" b m ↑q)
def zbJ{p pos:Pos}(n:Gl X "range")(o:X.mg "range"=none)(m:PA X [a,b] g)(u:Xh [a,b] X.env=[(false,eval a X.env),(false,eval b X.env)]:=by rfl)(c:Xh [b] X.env=[(false,eval b X.env)]:=by rfl) :
  PI X tg (.Call (.Name "range" p) [a,b] [] pos) (zsN g):=by
 intro l s A H R I h;refine Call_ (QB I n o boot_range (VP (thn (m pos l s A H _ I h) λE s1 ⟨G,B,k,z,d⟩=>?_) (by rw[u,c]) (by rw[c];rfl)));obtain⟨i,j,e,⟨d,v,w,x⟩,q⟩:=d;subst e;cases z with
 | cons r f =>
  cases f with
  | cons y f =>
   cases f;obtain⟨t,rfl⟩:=r;obtain⟨D,rfl⟩:=y;exact call_range_2 (zgN k d v w x q)
def ztW(k:TI)(g:TG)(j:TS):TS:=λD a H=>k a H λJ f=>∃W:Nat->Nat->St->Hp->Prop,(∃m,W 0 m a f)/\∀i m a H,W i m a H ->
 (J.stop i H/\D.nx a H)\/(J.go i H/\∃N:St->Hp->Prop,(∀ c b,N c b->∃e,e<m/\W (i+1) e c b)/\∀x b,J.yld i H x b->g x a b fun d h=>j { D with nx:=N,ct:=N,bk:=D.nx } d h)
def zbK(fp:List Addr)(h:Heap):List (Addr×Obj):=fp.filterMap λb=>(h.get? b).map λo=>(b,o)
def xX(a:b∈fp)(e:h.get? b=some o):(b,o)∈zbK fp h:=Vg.mpr ⟨b,a,by rw[e];rfl⟩
def zkW(d:p∈zbK fp h):p.1∈fp/\h.get? p.1=some p.2:=by
 obtain⟨b,c,e⟩:=Vg.mp d;cases q:h.get? b with
 | none=>rw[q]at e;cases e
 | some o =>
  rw[q]at e;have a:(b,o)=p:=Option.some.inj e;subst a;exact⟨c,q⟩
def Inv.pinned{g:St}(I:Inv X a g H s)(k:∀b∈fp,QC X a H b)(l:∀b∈fp,∃o,s.heap.get? b=some o/\∀v,o.data ≠ .cell v):Inv X (a++zbK fp s.heap) g H s :=
 I.pins_of λp m=>(XV.mp m).elim (λz=>I.pin p (Xm _ z)) λz=>by
  obtain⟨f,e⟩:=zkW z;refine gg (λh i j _=>?_) (k p.1 f);obtain⟨o,c,d⟩:=l p.1 f;rw[e]at c;cases c;exact⟨e,h,i,j,d⟩
def Inv.unpinned{b:St}(I:Inv X (a++d) b H s):Inv X a b H s:=I.pins_of λp c=>I.pin p (Xm _ (Xa _ c))
def qN(Q:NS (Xv X.prog X.w) X.A X.env X.xe)(hc:X.calm=true)(hi:PI X tg l wi)(hg:PG X tg g)(k:PSs X B tb)
  (hs:∀x,Wj l X.env x=pure x:=by intro _;rfl):PS X (.For tg l B [] pos) (ztW wi g tb):=by
 intro G s σ H D I h;refine wpAny_For (thn (hi G s σ H _ I h) λv s1 h1=>thn h1 λah s2 h2=>?_) hs;obtain⟨it,M,tn,J,H2,e,I2,T,af,f2,W,⟨m0,w0⟩,ab⟩:=h2;subst e;have p:∀{z:Hp},(∀b∈M,z b=none)->∀b∈M,QC X G z b:=λhn b k=>⟨hn b k,(f2 b k).2⟩;refine codeAny_forLoop_any (λn s'=>∃i q z,Inv X G q z s'/\tn i s'.heap/\(∀b∈M,z b=none)/\W i n q z) ?_ m0 ⟨0,σ,H2,I2,af,λb k=>(f2 b k).1,w0⟩;refine λn s3=>gb λi y H3 I3 Y O w3=>?_;rcases ab i n y H3 w3 with ⟨aa,qn⟩ | ⟨go,N,hN,step⟩
 .refine Vm Q (thn (T.done X rfl rfl rfl hc i G s3 y H3 X.xe I3 (p O) Y aa) λr s4 ⟨hr,I4⟩=>?_);subst hr;exact VB ⟨y,H3,I4,qn⟩
 .refine Vm Q (thn (T.item X rfl rfl rfl hc i G s3 y H3 X.xe I3 (p O) Y go) λr s4 ⟨u,hr,h4⟩=>?_);subst hr;refine Vm Q (thn h4 λ_ s5 ⟨x,H5,I5,r5,y5,L,ae⟩=>?_);have ac:=I5.pinned (p ae) (T.obj _ _ L);refine Vm Q (thn (hg _ s5 y H5 x u _ ac r5 (step x H5 y5)) λ_ s6 ⟨ag,H6,I6,q6⟩=>?_);refine Vm Q (thn (k _ s6 ag H6 _ I6 q6) λf s7 E=>?_);have O6:∀{a:St} {c:Hp},Inv X (G++zbK M s5.heap) a c s7->N a c->∃m,m<n/\∃i q z,Inv X G q z s7/\tn i s7.heap/\(∀b∈M,z b=none)/\W i m q z:=λ{a c} j U=>by
   obtain⟨m',hm,w7⟩:=hN a c U;refine dY m' hm (dZ (i+1) a c j.unpinned (T.keep _ _ _ L λb k o e=>(j.pin (b,o) (Xm _ (Xm _ (xX k e)))).1) (λb k=>?_) w7);obtain⟨o,e,d⟩:=T.obj _ _ L b k;exact(j.pin (b,o) (Xm _ (Xm _ (xX k e)))).2.1
  cases f with
  | next=>revert E;refine fZ λa c j U=>?_;exact O6 j U
  | cont=>revert E;refine fZ λa c j U=>?_;exact O6 j U
  | brk=>revert E;refine fZ λa c j E=>?_;exact⟨a,c,j.unpinned,E⟩
  | ret v=>revert E;refine gi λx7 a c j r7 E=>?_;exact⟨x7,a,c,j.unpinned,r7,E⟩
end
def yi{K:X4}{g:TG}{l:TS}{D:Ends}(Pv:Nat->St->Hp->Prop)(h0:Pv 0 b H)(r:∀i b H,i<=xs.length->Pv i b H->SqL K H a xs)
  (s:∀i x b H,xs[i]?=some x->Pv i b H->g x b H fun f j=>l { D with nx:=Pv (i+1),ct:=Pv (i+1),bk:=D.nx } f j) (n:∀ b H,Pv xs.length b H->D.nx b H) :
  ∃W:Nat->Nat->St->Hp->Prop,(∃m,W 0 m b H)/\∀i m b H,W i m b H ->
   ((Itl K a).stop i H/\D.nx b H)\/((Itl K a).go i H/\∃N:St->Hp->Prop,(∀ d c,N d c->∃k,k<m/\W (i+1) k d c)/\∀x c,(Itl K a).yld i H x c->g x b c fun f j=>l { D with nx:=N,ct:=N,bk:=D.nx } f j):=by
 refine⟨λi m b H=>m=xs.length-i/\i<=xs.length/\Pv i b H,⟨xs.length,"s",W2 _,h0⟩,?_⟩;rintro i m b H ⟨rfl,o,p⟩;have q:=r i b H o p;by_cases h:i<xs.length
 .refine .inr ⟨⟨xs,xs[i],q,by simp[h]⟩,Pv (i+1),fun d c u=>⟨xs.length-(i+1),"a",rfl,h,u⟩,λx c y=>?_⟩;obtain⟨e,y⟩:=y;subst e;exact s i x b _ (y xs q) p
 .have e:i=xs.length:="a"
  subst e;exact .inl ⟨⟨xs,q,XQ _⟩,n b H p⟩
def j8{lo:Int}{g:TG}{k:TS}{D:Ends}(Pv:Nat->St->Hp->Prop)(h0:Pv 0 a H)
  (o:∀i a H,i<n->Pv i a H->g (.int (lo+i)) a H fun f h=>k { D with nx:=Pv (i+1),ct:=Pv (i+1),bk:=D.nx } f h) (l:∀ a H,Pv n a H->D.nx a H) :
  ∃W:Nat->Nat->St->Hp->Prop,(∃m,W 0 m a H)/\∀i m a H,W i m a H ->
   ((Itr lo n).stop i H/\D.nx a H)\/((Itr lo n).go i H/\∃N:St->Hp->Prop,(∀ d b,N d b->∃j,j<m/\W (i+1) j d b)/\∀x b,(Itr lo n).yld i H x b->g x a b fun f h=>k { D with nx:=N,ct:=N,bk:=D.nx } f h):=by
 refine⟨λi m a H=>m=n-i/\i<=n/\Pv i a H,⟨n,"s",W2 _,h0⟩,?_⟩;rintro i m a H ⟨rfl,r,p⟩;by_cases c:i<n
 .refine .inr ⟨c,Pv (i+1),fun d b q=>⟨n-(i+1),"a",rfl,c,q⟩,λx b y=>?_⟩;obtain⟨e,y⟩:=y;subst e y;exact o i a _ c p
 .have e:i=n:="a"
  subst e;exact .inl ⟨XQ _,l a H p⟩
abbrev R2:=V->V->Hp->VK->Prop
def OpR(X:Cx)(f:X9->X9->Sem X9)(r:R2):Prop :=
 ∀(a:List (Addr×Obj)) (s:X8) (b:St) (H:Hp) (x y:V) (v u:X9) (Q:VK),Inv X a b H s->RelV x v->RelV y u->r x y H Q ->
  Xw (Xv X.prog X.w) X.A (f v u) (EP X a b Q) X.xe s
def UnR(X:Cx)(f:X9->Sem X9)(r:V->Hp->VK->Prop):Prop :=
 ∀(a:List (Addr×Obj)) (s:X8) (b:St) (H:Hp) (x:V) (v:X9) (Q:VK),Inv X a b H s->RelV x v->r x H Q ->
  Xw (Xv X.prog X.w) X.A (f v) (EP X a b Q) X.xe s
def jG(X:Cx)(f:X9)(r:AE->Hp->VK->Prop):Prop :=
 ∀(a:List (Addr×Obj)) (s:X8) (d:St) (H:Hp) (c:AE) (b:List X9) (Q:VK),Inv X a d H s->Vals c b->r c H Q ->
  Xw (Xv X.prog X.w) X.A (call f b) (EP X a d Q) X.xe s
def ztX(X:Cx)(r:V->Hp->(Bool->Hp->Prop)->Prop):Prop :=
 ∀(a:List (Addr×Obj)) (s:X8) (b:St) (H:Hp) (x:V) (v:X9) (Q:Bool->Hp->Prop),Inv X a b H s->RelV x v->r x H Q ->
  Xw (Xv X.prog X.w) X.A (truthy v) (TP X a b Q) X.xe s
def tOp(r:R2)(d e:TE):TE:=fun a H Q=>d a H λx b=>e a b λy c=>r x y c Q
def tUn(r:V->Hp->VK->Prop)(b:TE):TE:=fun c H Q=>b c H λx a=>r x a Q
def rI(C:Int->Int->Prop)(g:Int->Int->V):R2:=λx y H Q=>∃i j,x=.int i/\y=.int j/\C i j/\Q (g i j) H
def rI0(g:Int->Int->V):R2:=λx y H Q=>∃i j,x=.int i/\y=.int j/\Q (g i j) H
def rU(g:Int->V):V->Hp->VK->Prop:=λx H Q=>∃i,x=.int i/\Q (g i) H
section
variable {X:Cx}{a b c:Expr}{ta tb tc:TE}{pos:Pos}
def zq8(n:PE X a ta)(o:PE X b tb){d:St}{R:V->V->Hp->Prop}(I:Inv X i d H s)
  (h:ta d H λx k=>tb d k λy c=>R x y c)  {f:X9->X9->Sem X9}
  (p:∀v u j x y c,Inv X i d c j->RelV x v->RelV y u->R x y c->Xw (Xv X.prog X.w) X.A (f v u) Q X.xe j) :
  Xw (Xv X.prog X.w) X.A (eval a X.env) (λv e=>Xw (Xv X.prog X.w) X.A (eval b X.env) (λu g=>Xw (Xv X.prog X.w) X.A (f v u) Q X.xe g) X.xe e) X.xe s:=by
 refine thn (n i s d H _ I h) λv s1 ⟨x,k,l,z,q⟩=>?_;refine thn (o i s1 d k _ l q) λu j ⟨y,c,m,B,r⟩=>?_;exact p v u j x y c m z B r
def zC(i:OpR X (Ug op) r)(f:PE X a ta)(g:PE X b tb):PE X (.BinOp a op b pos) (tOp r ta tb):=by
 intro e s m H Q I h;exact wpAny_BinOp (zq8 f g I h λv u l x y c d j k q=>i e l m c x y v u Q d j k q)
def zme(g:UnR X (unaryOp op) r)(f:PE X a ta):PE X (.UnaryOp op a pos) (tUn r ta):=by
 intro b s c H Q I h;exact UnaryOp_ (thn (f b s c H _ I h) λv s1 ⟨x,d,e,j,i⟩=>g b s1 c d x v Q e j i)
def opI{g:Int->Int->Int}
  (rule:∀(i j:Int) (t u:Tok) (s:X8) (Q:X9->X8->Prop) (E:X9->X8->Prop),C i j->Q (.int (g i j) s.toks) { s with toks:=s.toks+1 }->Xw (Xv X.prog X.w) X.A (f (.int i t) (.int j u)) Q E s) :
  OpR X f (rI C λi j=>.int (g i j)):=by
 intro e s k H x y v u Q I b c h;revert h;refine fQ λi j z0 z1 a q=>?_;subst z0 z1;obtain⟨t,rfl⟩:=b;obtain⟨d,rfl⟩:=c;exact rule i j t d s _ _ a ⟨.int (g i j),H,I.tok _,⟨_,rfl⟩,q⟩
def zsO{g:Int->Int->Int}
  (rule:∀(i j:Int) (t u:Tok) (s:X8) (Q:X9->X8->Prop) (E:X9->X8->Prop),Q (.int (g i j) s.toks) { s with toks:=s.toks+1 }->Xw (Xv X.prog X.w) X.A (f (.int i t) (.int j u)) Q E s) :
  OpR X f (rI0 λi j=>.int (g i j)):=by
 intro d s e H x y v u Q I a b h;revert h;refine fS λi j z0 z1 q=>?_;subst z0 z1;obtain⟨t,rfl⟩:=a;obtain⟨c,rfl⟩:=b;exact rule i j t c s _ _ ⟨.int (g i j),H,I.tok _,⟨_,rfl⟩,q⟩
def zq9{g:Int->Int->Bool}
  (rule:∀(i j:Int) (t u:Tok) (s:X8) (Q:X9->X8->Prop) (E:X9->X8->Prop),Q (.bool (g i j)) s->Xw (Xv X.prog X.w) X.A (f (.int i t) (.int j u)) Q E s) :
  OpR X f (rI0 λi j=>.bl (g i j)):=by
 intro d s e H x y v u Q I a b h;revert h;refine fS λi j z0 z1 q=>?_;subst z0 z1;obtain⟨t,rfl⟩:=a;obtain⟨c,rfl⟩:=b;exact rule i j t c s _ _ ⟨.bl (g i j),H,I,rfl,q⟩
def zfD:OpR X (Ug .Add) (rI0 λi j=>.int (i+j)):=zsO λ_ _ _ _ _ _ _ q=>add_int q
def QD:OpR X (Ug .Sub) (rI0 λi j=>.int (i-j)):=zsO λ_ _ _ _ _ _ _ q=>sub_int q
def zbL:OpR X (Ug .Mod) (rI (λ_ j=>0<j) λi j=>.int (i%j)):=opI λi j _ _ _ _ _ a q=>by
 have h1:(0:Int)<j:=a;exact mod_int' "a" (by rw[Int.fmod_eq_emod_of_nonneg i "a"];exact q)
def unI{g:Int->Int}
  (rule:∀(i:Int) (t:Tok) (s:X8) (Q:X9->X8->Prop) (E:X9->X8->Prop),Q (.int (g i) s.toks) { s with toks:=s.toks+1 }->Xw (Xv X.prog X.w) X.A (f (.int i t)) Q E s) :
  UnR X f (rU λi=>.int (g i)):=by
 intro b s c H x v Q I a h;obtain⟨i,rfl,q⟩:=h;obtain⟨t,rfl⟩:=a;exact rule i t s _ _ ⟨.int (g i),H,I.tok _,⟨_,rfl⟩,q⟩
def ziy:UnR X (unaryOp .USub) (rU λi=>.int (-i)):=unI λ_ _ _ _ _ q=>neg_int q
def zsP:V->V->Bool
 | .non,.non=>true | .non,.int _=>true | .int _,.non=>true | .non,.bl _=>true | .bl _,.non=>true | .non,.str _=>true | .str _,.non=>true
 | .int _,.int _=>true | .bl _,.bl _=>true | .str _,.str _=>true | .byt _,.byt _=>true
 | .int _,.str _=>true | .str _,.int _=>true | .bl _,.str _=>true | .str _,.bl _=>true
 | _,_=>false
def rEq:R2:=λx y H Q=>zsP x y=true/\Q (.bl (decide (x=y))) H
def rNe:R2:=λx y H Q=>zsP x y=true/\Q (.bl (!decide (x=y))) H
def zfE:decide (V.int i=V.int j)=(i==j):=by
 rw[V9];simp
def zmf:decide (V.bl i=V.bl j)=(i==j):=by
 rw[V9];simp
def zjV:decide (V.str i=V.str j)=(i==j):=by
 rw[V9];simp
def zjW:decide (V.byt i=V.byt j)=(i.toList==j.toList):=by
 rw[V9];cases i;cases j;simp
def qC{a:List (Addr×Obj)}{c:St}{b:Bool}(I:Inv X a c H s)(q:Q (.bl k) H)(e:k=b):EP X a c Q (.bool b) s:=by
 subst e;exact⟨.bl k,H,I,rfl,q⟩
def xD:OpR X (Wi .Eq) rEq:=by
 intro e s f H x y v u Q I d a h;obtain⟨c,q⟩:=h;cases x with
 | non =>
  cases d;cases y with
  | non=>cases a;exact PySem.EqNone.eq_none_none (qC I q "s")
  | bl j=>cases a;exact PySem.EqNone.eq_none_bool (qC I q "s")
  | int j=>obtain⟨b,rfl⟩:=a;exact PySem.EqNone.eq_none_int (qC I q "s")
  | str j=>obtain⟨b,rfl⟩:=a;exact PySem.EqNone.eq_none_str (qC I q "s")
  | _=>exact absurd (show false=true from c) XJ
 | bl i =>
  cases d;cases y with
  | non=>cases a;exact PySem.EqNone.eq_bool_none (qC I q "s")
  | bl j=>cases a;exact eq_bool (qC I q zmf)
  | str j=>obtain⟨b,rfl⟩:=a;exact PySem.EqMixed.eq_bool_str (qC I q "s")
  | _=>exact absurd (show false=true from c) XJ
 | int i =>
  obtain⟨t,rfl⟩:=d;cases y with
  | non=>cases a;exact PySem.EqNone.eq_int_none (qC I q "s")
  | int j=>obtain⟨b,rfl⟩:=a;exact eq_int (qC I q zfE)
  | str j=>obtain⟨b,rfl⟩:=a;exact PySem.EqMixed.eq_int_str (qC I q "s")
  | _=>exact absurd (show false=true from c) XJ
 | str i =>
  obtain⟨t,rfl⟩:=d;cases y with
  | non=>cases a;exact PySem.EqNone.eq_str_none (qC I q "s")
  | bl j=>cases a;exact PySem.EqMixed.eq_str_bool (qC I q "s")
  | int j=>obtain⟨b,rfl⟩:=a;exact PySem.EqMixed.eq_str_int (qC I q "s")
  | str j=>obtain⟨b,rfl⟩:=a;exact eq_str (qC I q zjV)
  | _=>exact absurd (show false=true from c) XJ
 | byt i =>
  obtain⟨t,rfl⟩:=d;cases y with
  | byt j=>obtain⟨b,rfl⟩:=a;exact PySem.W.eq_bytes (qC I q zjW)
  | _=>exact absurd (show false=true from c) XJ
 | _=>cases y<;>exact absurd (show false=true from c) XJ
def zc7:OpR X (Wi .NotEq) rNe:=by
 intro e s f H x y v u Q I d a h;obtain⟨c,q⟩:=h;cases x with
 | non =>
  cases d;cases y with
  | non=>cases a;exact PySem.EqNone.ne_none_none (qC I q "s")
  | bl j=>cases a;exact PySem.EqNone.ne_none_bool (qC I q "s")
  | int j=>obtain⟨b,rfl⟩:=a;exact PySem.EqNone.ne_none_int (qC I q "s")
  | str j=>obtain⟨b,rfl⟩:=a;exact PySem.EqNone.ne_none_str (qC I q "s")
  | _=>exact absurd (show false=true from c) XJ
 | bl i =>
  cases d;cases y with
  | non=>cases a;exact PySem.EqNone.ne_bool_none (qC I q "s")
  | bl j=>cases a;exact ne_bool (qC I q (congrArg not zmf))
  | str j=>obtain⟨b,rfl⟩:=a;exact PySem.EqMixed.ne_bool_str (qC I q "s")
  | _=>exact absurd (show false=true from c) XJ
 | int i =>
  obtain⟨t,rfl⟩:=d;cases y with
  | non=>cases a;exact PySem.EqNone.ne_int_none (qC I q "s")
  | int j=>obtain⟨b,rfl⟩:=a;exact ne_int (qC I q (congrArg not zfE))
  | str j=>obtain⟨b,rfl⟩:=a;exact PySem.EqMixed.ne_int_str (qC I q "s")
  | _=>exact absurd (show false=true from c) XJ
 | str i =>
  obtain⟨t,rfl⟩:=d;cases y with
  | non=>cases a;exact PySem.EqNone.ne_str_none (qC I q "s")
  | bl j=>cases a;exact PySem.EqMixed.ne_str_bool (qC I q "s")
  | int j=>obtain⟨b,rfl⟩:=a;exact PySem.EqMixed.ne_str_int (qC I q "s")
  | str j=>obtain⟨b,rfl⟩:=a;exact ne_str (qC I q (congrArg not zjV))
  | _=>exact absurd (show false=true from c) XJ
 | byt i =>
  obtain⟨t,rfl⟩:=d;cases y with
  | byt j=>obtain⟨b,rfl⟩:=a;exact PySem.W.ne_bytes (qC I q (congrArg not zjW))
  | _=>exact absurd (show false=true from c) XJ
 | _=>cases y<;>exact absurd (show false=true from c) XJ
def zsQ:OpR X (Wi .Lt) (rI0 λi j=>.bl (decide (i<j))):=zq9 λ_ _ _ _ _ _ _ q=>lt_int q
def zsR:OpR X (Wi .LtE) (rI0 λi j=>.bl (decide (i<=j))):=zq9 λ_ _ _ _ _ _ _ q=>le_int q
def zqj:OpR X (Wi .Gt) (rI0 λi j=>.bl (decide (j<i))):=zq9 λ_ _ _ _ _ _ _ q=>gt_int q
def zkX:OpR X (Wi .In) (λx y H Q=>∃i j,x=.str i/\y=.str j/\Q (.bl (!(Uc j i 0 j.length 1).isEmpty)) H):=by
 intro c s e H x y v u Q I a b h;revert h;refine fS λi j z0 z1 q=>?_;subst z0 z1;obtain⟨t,rfl⟩:=a;obtain⟨d,rfl⟩:=b;exact in_str (qC I q rfl)
def zfF:OpR X (Wi .Is) (λx y H Q=>y=.non/\Q (.bl (decide (x=.non))) H):=by
 intro c s d H x y v u Q I a b h;obtain⟨rfl,q⟩:=h;cases b;refine is_none_gen (qC I q ?_);cases x<;>first
  | (cases a;rfl)
  | (obtain⟨t,rfl⟩:=a;rfl)
def zoL:OpR X (Wi .IsNot) (λx y H Q=>y=.non/\Q (.bl (!decide (x=.non))) H):=by
 intro c s d H x y v u Q I a b h;obtain⟨rfl,q⟩:=h;cases b;refine isnot_none_gen (qC I q ?_);cases x<;>first
  | (cases a;rfl)
  | (obtain⟨t,rfl⟩:=a;rfl)
def zT(b)(h:op ≠ .In:=by decide)(h2:op ≠ .NotIn:=by decide):Td op b=false:=by
 have a:(op==CmpOp.In)=false:=by cases op<;>first | rfl | exact absurd rfl h
 have c:(op==CmpOp.NotIn)=false:=by cases op<;>first | rfl | exact absurd rfl h2
 cases b<;>simp[Td,a,c]
def ZN(j:OpR X (Wi op) r)(f:PE X a ta)(g:PE X b tb)(i:Td op b=false):PE X (.Compare a [op] [b] pos) (tOp r ta tb):=by
 intro e s n H Q I h;exact wpAny_Compare1 (zq8 f g I h λv u m x y c d k l q=>j e m n c x y v u Q d k l q) i
def zqk(t:TE):TT:=fun b H Q=>t b H λx a=>∃k,x=.bl k/\Q k a
def ZO(q:OpR X (Wi op) r)(n:PE X a ta)(o:PE X b tb)(p:Td op b=false):PT X (.Compare a [op] [b] pos) (zqk (tOp r ta tb)):=by
 intro d s f H Q I h;refine SD (thn (n d s f H _ I h) λv s1 ⟨x,g,l,D,w⟩=>thn (o d s1 f g _ l w) λu J ⟨y,i,m,E,A⟩ =>
  thn (q d J f i x y v u _ m D E A) λc L ⟨z,j,I3,G,k,e,B⟩=>?_) p
 subst e;cases G;exact VS ⟨j,I3,B⟩
def zra(r f:R2)(ta tb tc:TE):TE:=fun a H Q=>ta a H λx c=>tb a c λy d=>r x y d λz b=>∃k,z=.bl k /\
 (if k=true then tc a b λg e=>f y g e Q else Q (.bl false) b)
def QE(U:OpR X (Wi op) r)(j:OpR X (Wi f) n)(M:PE X a ta)(N:PE X b tb)(O:PE X c tc)
  (T:lastMarks [op,f] [b,c]=false:=by with_unfolding_all rfl):PT X (.Compare a [op,f] [b,c] pos) (zqk (zra r n ta tb tc)):=by
 intro g s i H Q I h;refine isTrue_chain (thn (M g s i H _ I h) λv s1 ⟨x,p,B,r1,q1⟩=>test_link (thn (N g s1 i p _ B q1) λu s2 ⟨y,q,D,o,q2⟩ =>
  thn (U g s2 i q x y v u _ D r1 o q2) λd s3 ⟨z,l,I3,r3,k,e,m⟩=>?_)) T
 subst e;cases r3;refine VS ?_;cases k with
 | false =>
  obtain⟨k',J,Y⟩:=m;cases J;exact ite_ff ⟨l,I3,Y⟩
 | true =>
  refine ite_tt (test_last (thn (O g s3 i l _ I3 m) λw' s4 ⟨z',w,E,r4,q4⟩=>thn (j g s4 i w y z' u w' _ E o r4 q4) λd' s5 ⟨z2,A,G,r5,k2,L,q5⟩=>?_));subst L;cases r5;exact VS ⟨A,G,q5⟩
def zrb(K:X4)(x:V)(H:Hp)(k:Bool):Prop :=
 match x with
 | .non=>k=false
 | .bl b=>k=b
 | .int i=>k=(i != 0)
 | .str y=>y.length<=Xz/\k=((y.length:Int) != 0)
 | .byt y=>y.size<=Xz/\k=((y.size:Int) != 0)
 | .ref p=>(∃c,SqL K H p c/\k=!c.isEmpty)\/(∃c,SqT K H p c/\k=!c.isEmpty)\/∃a,H p=some (.dK a)/\k=!a.isEmpty
 | _=>False
def ziz{b:Type}{a:List (b × V)}{vs:List (b × X9)}(r:KV a vs):(!vs.isEmpty)=!a.isEmpty:=by
 cases r<;>rfl
def zc8{a:List X9}(r:Vals xs a):(!a.toArray.isEmpty)=!xs.isEmpty:=by
 cases r<;>simp
def QF:(Xz:Nat)<2^63:=by rw[SZ];decide
def zrc:ztX X (λx H Q=>∃k,zrb X.K x H k/\Q k H):=by
 intro B s G H x v Q I g h;obtain⟨k,e,q⟩:=h;have D:=QF;have E:Xz=16777216:=SZ;cases x with
 | non =>
  cases g;have a:k=false:=e;subst a;exact truthy_none ⟨H,I,q⟩
 | bl b =>
  cases g;have a:k=b:=e;subst a;exact VS ⟨H,I,q⟩
 | int i =>
  obtain⟨t,rfl⟩:=g;have a:k=(i != 0):=e;subst a;exact PySem.P.truthy_int ⟨H,I,q⟩
 | str y =>
  obtain⟨t,rfl⟩:=g;obtain⟨A,a⟩:y.length<=Xz/\k=((y.length:Int) != 0):=e;subst a;exact PySem.P.truthy_str "a" ⟨H,I.tok _,q⟩
 | byt y =>
  obtain⟨t,rfl⟩:=g;obtain⟨A,a⟩:y.size<=Xz/\k=((y.size:Int) != 0):=e;subst a;exact PySem.W.truthy_bytes "a" ⟨H,I.tok _,q⟩
 | ref p =>
  cases g;have a:(∃f,SqL X.K H p f/\k=!f.isEmpty)\/(∃f,SqT X.K H p f/\k=!f.isEmpty)\/∃c,H p=some (.dK c)/\k=!c.isEmpty:=e;rcases a with ⟨f,j,a⟩ | ⟨f,j,a⟩ | ⟨c,j,a⟩
  .subst a;obtain⟨n,r,o,u⟩:=I.list j;have d:=r.length;exact wpAny_truthy_list o.isList (by simp only[Xx];lia) ⟨H,I.tok _,by rw[zc8 r];exact q⟩
  .subst a;obtain⟨n,r,o,u⟩:=I.tuple j;have d:=r.length;exact truthy_tuple o (by simp only[Xx];lia) ⟨H,I.tok _,by rw[zc8 r];exact q⟩
  .subst a;obtain⟨u,z,l,r,m⟩:c.length<=Xz/\(p==Vz)=false/\∃l,KV c l/\s.heap.DictOf (ql X.prog X.w) p l:=I.hok p _ j;have d:c.length=l.length:=Paired.length r;exact wpAny_truthy_dict z m "a" ⟨H,I.tok _,by rw[ziz r];exact q⟩
 | _=>exact(show False from e).elim
def za2(g:PE X a ta)(he:∀whole,isTrue a X.env whole=(do let v <- whole;standAt a.pos;holding [v] (truthy v))) :
  PT X a (fun b H Q=>ta b H λx c=>∃k,zrb X.K x c k/\Q k c):=by
 intro d s b H Q I h;exact isTrue_plain (thn (g d s b H _ I h) λv s1 ⟨x,e,f,j,i⟩=>zrc d s1 b e x v Q f j i) (he _)
def YT:OpR X (Ug .Add) (λx y H Q=>∃i j,x=.str i/\y=.str j/\i.length+j.length<=Xz/\Q (.str (i++j)) H):=by
 intro e s g H x y v u Q I b c h;revert h;refine fQ λi j z0 z1 a q=>?_;subst z0 z1;obtain⟨t,rfl⟩:=b;obtain⟨d,rfl⟩:=c;exact add_str (λd f=>⟨.str (i++j),H,I.tok _,⟨_,rfl⟩,q⟩) a
def vals1{a:List X9}(r:Vals [x] a):∃u,a=[u]/\RelV x u:=by
 cases r with
 | cons b c=>cases c;exact⟨_,rfl,b⟩
def vals2{a:List X9}(r:Vals [x,y] a):∃u b,a=[u,b]/\RelV x u/\RelV y b:=by
 cases r with
 | cons c d =>
  cases d with
  | cons e f=>cases f;exact⟨_,_,rfl,c,e⟩
def zeS(b:X.calm=true):jG X (.builtin "max") (λxs H Q=>∃i j,xs=[.int i,.int j]/\Q (.int (if j>i then j else i)) H):=by
 intro c s m H xs g Q I r h;obtain⟨i,j,rfl,q⟩:=h;obtain⟨u,l,rfl,⟨t,rfl⟩,⟨e,rfl⟩⟩:=vals2 r;refine max_two_ints (I.ok.hd b) λd f k=>⟨_,H,I.kept k,?_,q⟩;by_cases a:j>i
 .rw[bw a,bw a];exact⟨_,rfl⟩
 .rw[bq a,bq a];exact⟨_,rfl⟩
def zbM(b:X.calm=true):jG X (.builtin "min") (λxs H Q=>∃i j,xs=[.int i,.int j]/\Q (.int (if j<i then j else i)) H):=by
 intro c s m H xs g Q I r h;obtain⟨i,j,rfl,q⟩:=h;obtain⟨u,l,rfl,⟨t,rfl⟩,⟨e,rfl⟩⟩:=vals2 r;refine min_two_ints (I.ok.hd b) λd f k=>⟨_,H,I.kept k,?_,q⟩;by_cases a:j<i
 .rw[bw a,bw a];exact⟨_,rfl⟩
 .rw[bq a,bq a];exact⟨_,rfl⟩
def zfG:jG X (.type "str") (λxs H Q=>∃i,xs=[.int i]/\i.natAbs.log2<1920/\Q (.str (toString i)) H):=by
 intro b s d H xs c Q I r h;obtain⟨i,rfl,a,q⟩:=h;obtain⟨u,rfl,t,rfl⟩:=vals1 r;exact PySem.P.str_of_int a ⟨.str _,H,I.tok _,⟨_,rfl⟩,q⟩
end
structure zrd (h:Heap)(x dx C:Addr)(mA:Str->Option X9):Prop where
 obj:h.get? x=some (Pk C dx)
 ns:h.Ns1 dx mA
 ne:dx≠x
def zkY{h:Heap}(n:h.Ns1 c f):∃g,h.get? c=some g/\∀name,OR name g=some (f name):=by
 revert n;refine fV λo d p l j hk _ k=>?_;refine⟨o,l,λname=>?_⟩;have e:=k name;unfold nsFind findBy at e;rw[<- Array.find?_toList]at e;unfold OR;rw[j];dsimp only;split
 .rename_i y q;rw[q]at e;exact congrArg some e
 .rename_i q;rw[q]at e;have a:d.toList.any (·.refKey)=false:=by
   rw[Rj];intro y m;obtain⟨z,t,b⟩:=hk y (Sd.mp m);simp[DictEntry.refKey,b]
  have i:¬ d.toList.any (·.refKey)=true:=by rw[a];exact XJ
  rw[bq i];exact congrArg some e
def zrd.look(I:zrd h x b C c):∃a,PySem.W.InstAt h x (Pk C b) C (some a)/\∀name,OR name a=some (c name) :=
 let ⟨a,ho,hl⟩:=zkY I.ns
 ⟨a,⟨I.obj,rfl,rfl,ho⟩,hl⟩
def zbI.some_of(r:zbI (some v) o):∃u,o=some u/\RelV v u:=by
 cases o with
 | none=>exact(show False from r).elim
 | some u=>exact⟨u,rfl,r⟩
section
variable {P:Xu}{w:W9}{H H':Hp}{h h':Heap}{a C dx:Addr}{fs fs':List (Str×V)}
def zoM(c:HOk P w H h)(e:H a=some (.ins C dx fs)):∃b,zrd h a dx C b/\(∀f,zbI (fs.lookup f) (b f))/\PySem.Within b (fs.map (·.1))/\fs.length<=1000/\H dx=some (.own a):=by
 refine gc (λd z g ob=>fT λb n r q=>?_) (show ji P w H h a (.ins C dx fs) from c a _ e);exact⟨b,⟨ob,n,g⟩,r,q,z,d⟩
end
structure Cls (K:X4)(C:Addr):Prop where
 pg:PySem.W.plainGet K C Str.empty=true
 hd:PySem.W.hasDictIn K C=true
 po:PySem.W.plainOver K C=true
 sa:VC K (.ref C) "__setattr__"=some (some (.builtin "object.__setattr__"))
def Cls.get{K:X4}(c:Cls K C)(f):PySem.W.plainGet K C f=true:=c.pg
section
variable {X:Cx}{bz:List (Addr×Obj)}{σ:St}{H:Hp}{s:X8}{A:WZ}{E:X9->X8->Prop}{Q:X9->X8->Prop}{c:X9}{b:Bool}
inductive zbN (K:X4)(H:Hp):V->X9->Prop where
 | non:zbN K H .non (.type "NoneType")
 | bl (x:Bool):zbN K H (.bl x) (.type "bool")
 | int (i:Int):zbN K H (.int i) (.type "int")
 | str (x:Str):zbN K H (.str x) (.type "str")
 | flt (x:UInt64):zbN K H (.flt x) (.type "float")
 | lst {a:Addr} {xs:AE} (e:H a=some (.lst xs)):zbN K H (.ref a) (.type "list")
 | frz {a:Addr} {o:Obj} {xs:AE} (e:H a=some (.frz o (.lst xs))):zbN K H (.ref a) (.type "list")
 | tup {a:Addr} {xs:AE} (e:H a=some (.tup xs)):zbN K H (.ref a) (.type "tuple")
 | dK {a:Addr} {kvs:List (Key×V)} (e:H a=some (.dK kvs)):zbN K H (.ref a) (.type "dict")
 | dT {a:Addr} {kvs:List (List Key×V)} (e:H a=some (.dT kvs)):zbN K H (.ref a) (.type "dict")
 | ins {a C dx:Addr} {fs:List (Str×V)} (e:H a=some (.ins C dx fs)) (cl:Cls K C) (ha:VC K (.ref C) "__class__"=some (some (.builtin "object.__class__")))
   (hn:PySem.W.specialIn K (.builtin "object.__class__") "__get__"=some (some (.builtin "getset_descriptor.__get__"))) (htk:PySem.W.takesIn K (.builtin "object.__class__")=some true)
   (hm:Wq K C (.type "object")=some true):zbN K H (.ref a) (.ref C)
def zkZ(I:Inv X bz σ H s)(f:RelV x u)(ty:zbN X.K H x t)(e:Xb X.K t c=some b)(h:∀tk,Q (.bool b) { s with toks:=tk }) :
  Xw (Xv X.prog X.w) A (call (.builtin "isinstance") [u,c]) Q E s:=by
 cases ty with
 | non=>cases (show u=U1 from f);exact VZ PySem.W.kitx_none I.kIn T8 e (λz=>nomatch z) h
 | bl y=>cases (show u=Oh y from f);exact VZ PySem.W.kitx_bool I.kIn T8 e (λz=>nomatch z) h
 | int i=>obtain⟨t,q⟩:=(show ∃t,u=Vo i t from f);cases q;exact VZ PySem.W.kitx_int I.kIn T8 e (λz=>nomatch z) h
 | str y=>obtain⟨t,q⟩:=(show ∃t,u=NU y t from f);cases q;exact VZ PySem.W.kitx_str I.kIn T8 e (λz=>nomatch z) h
 | flt y=>obtain⟨t,q⟩:=(show ∃t,u=Value.float y t from f);cases q;exact VZ PySem.W.kitx_float I.kIn T8 e (λz=>nomatch z) h
 | @lst a j d =>
  cases (show u=WU a from f);refine gH (λ_ _ n _ h1=>?_) (show ji X.prog X.w H s.heap a (.lst j) from I.hok a _ d);exact VZ PySem.W.kitx_list I.kIn ⟨_,h1,rfl⟩ e (λz=>nomatch z) h
 | @frz a ob j d =>
  cases (show u=WU a from f);refine fX (λ_ _=>fZ λ_ n _ h1=>?_) (show ji X.prog X.w H s.heap a (.frz ob (.lst j)) from I.hok a _ d);exact VZ PySem.W.kitx_list I.kIn ⟨_,h1,rfl⟩ e (λz=>nomatch z) h
 | @tup a j d =>
  cases (show u=WU a from f);obtain⟨_,_,_,p⟩:=(show ji X.prog X.w H s.heap a (.tup j) from I.hok a _ d);obtain⟨o,h1,h2,_⟩:=p;exact VZ PySem.W.kitx_tuple I.kIn ⟨o,h1,h2⟩ e (λz=>nomatch z) h
 | @dK a g d =>
  cases (show u=WU a from f);refine fY (λ_ _ N _ p=>?_) (show ji X.prog X.w H s.heap a (.dK g) from I.hok a _ d);revert p;refine gi λo r m h1 h2 _=>?_;exact VZ PySem.W.kitx_dict I.kIn ⟨o,h1,h2.1⟩ e (λz=>nomatch z) h
 | @dT a g d =>
  cases (show u=WU a from f);refine fY (λ_ _ j _=>gi λo r m h1 h2 _=>?_) (show ji X.prog X.w H s.heap a (.dT g) from I.hok a _ d);exact VZ PySem.W.kitx_dict I.kIn ⟨o,h1,h2.1⟩ e (λz=>nomatch z) h
 | @ins a C G fs d l v D k B =>
  cases (show u=WU a from f);obtain⟨L,O,_⟩:=zoM I.hok d;obtain⟨M,J,_⟩:=O.look;exact VZ (PySem.W.kitx_own (l.get _) l.hd v D k B) I.kIn J e (λz=>nomatch z) h
end
structure xj (k:Nat)(A:WZ):Prop where
 hd:A.handled=none
 dp:A.depth+3*k+5<recursionLimit
 un:A.units+16*k+200<VE
def xj.mono(r:xj k A)(h:j<=k):xj j A:=⟨r.hd,by have:=r.dp;lia,by have:=r.un;lia⟩
theorem xj.deeper(r:xj (k+1) A)(a):xj k (A.deeper a) :=
 ⟨r.hd,by have:=r.dp;show A.depth+1+3*k+5<_;lia,by have:=r.un;show A.units+3+16*k+200<_;lia⟩
theorem xj.depth(r:xj k A):A.depth<recursionLimit:=by have:=r.dp;lia
theorem xj.units(r:xj k A):A.units+64<VE:=by have:=r.un;lia
def zmg:TA:=λ_ H Q=>Q [] H
def zc9(d:TE)(tr:TA):TA:=fun a H Q=>d a H λx b=>tr a b λe c=>Q (x::e) c
section
variable {X:Cx}{e:Expr}{es:List Expr}{te:TE}{t:TA}{pos:Pos}
def zd:PA X [] zmg:=λ_ _ _ _ H Q I h=>Ri ⟨[],H,I,.nil,h⟩
def za(i:PE X e te)(j:PA X es t)(k:Xh (e::es) X.env=(false,eval e X.env)::Xh es X.env:=by rfl):PA X (e::es) (zc9 te t):=by
 intro pos a s b H Q I h;rw[k];show Xw _ _ (Ob ((false,eval e X.env)::UV pos (Xh es X.env))) _ _ s;refine UF (thn (i a s b H _ I h) λu s1 ⟨x,c,f,n,l⟩=>?_);exact thn (j pos a s1 b c _ f l) λr q ⟨p,d,g,o,m⟩=>⟨x::p,d,g,.cons n o,m⟩
def zsS(t:TA):TE:=fun c H Q=>t c H λb a=>b.length<=Xz/\∀p,a p=none->Q (.ref p) (upd a p (.tup b))
def ztY(t:TA):TE:=fun c H Q=>t c H λb a=>b.length<=Xz/\∀p,a p=none->Q (.ref p) (upd a p (.lst b))
def qu(h:PA X es t):PE X (.Tuple es x1 pos) (zsS t):=by
 intro d s k H Q I g;refine Oy (thn (h pos d s k H _ I g) λi s1 ⟨j,a,c,r,z,q⟩=>⟨by rw[<- r.length];exact z,?_⟩);have f:a s1.heap.objs.size=none:=c.hok.fresh (XQ _);refine⟨.ref s1.heap.objs.size,upd a s1.heap.objs.size (.tup j),c.laid (t':=s1.toks) (λb u e=>XY _ e) (XQ _) ?_,rfl,q _ f⟩;exact⟨z,i,r,⟨_,Xg _ rfl,rfl,_,rfl⟩⟩
def qa(h:PA X es t):PE X (.List es pos) (ztY t):=by
 intro d s k H Q I g;refine wpAny_List_spliced (thn (h pos d s k H _ I g) λi s1 ⟨j,a,c,r,z,q⟩=>⟨by rw[<- r.length];exact z,?_⟩);have f:a s1.heap.objs.size=none:=c.hok.fresh (XQ _);refine⟨.ref s1.heap.objs.size,upd a s1.heap.objs.size (.lst j),c.laid (t':=s1.toks) (λb u e=>XY _ e) (XQ _) ?_,rfl,q _ f⟩;exact⟨z,i,0,r,Xg _ rfl⟩
end
abbrev Sp:=AE->Hp->VK->XK->Prop
abbrev CXT:=List Env->Hp->X8->XK->X9->X8->Prop
structure zmh (P:Xu)(w:W9)(K:X4)(mg:Str->Option X9)(base:Heap)(A:WZ)(outer:List Env)(s:X8)(H:Hp):Prop where
 frames:A.frames=some outer
 mod:Mod K mg base
 bs:∀b o,base.get? b=some o->s.heap.get? b=some o/\H b=none
 bsz:base.objs.size<=s.heap.objs.size
 funs:s.heap.FunFrames base outer
 frf:∀b∈frs outer,H b=none
 hok:HOk P w H s.heap
 bare:SW s.gens
def CE(a:List Env)(P:Xu)(w:W9)(H:Hp)(s:X8)(Q:VK)(u:X9)(s':X8):Prop :=
 ∃v b,s'.os=s.os/\SW s'.gens/\Un (frs a) [] H b s.heap s'.heap/\HOk P w b s'.heap/\RelV v u/\Q v b
def CR(CX:CXT)(a:List Env)(P:Xu)(w:W9)(H:Hp)(s:X8)(Q:VK)(E:XK)(r:PK)(s':X8):Prop :=
 match r with
 | .ok (.ret u)=>CE a P w H s Q u s'
 | .ok _=>False
 | .error e=>CX a H s E e s'
structure qm (P:Xu)(w:W9)(K:X4)(mg:Str->Option X9)(base:Heap)(CX:CXT)(k:Nat)(f:Addr)(fd:XI)(ps:AD)(sp:Sp):Prop where
 len:∀vs H Q E,sp vs H Q E->vs.length=ps.length
 run:∀(A:WZ) (outer:List Env) (s:X8) (H:Hp) (args:Args) (us:List X9) (vs:AE) (Q:VK) (E:XK),xj k A->zmh P w K mg base A outer s H->OD s fd args (ps.zip us)->Vals vs us->sp vs H Q E ->
  Uo (Xv P w) A (.call (.ref f) args) (CR CX outer P w H s Q E) s
def qm.imp{K:X4}(F:qm P w K e base CX k f d ps sp)
  (h:∀vs H Q E,c vs H Q E->sp vs H Q E):qm P w K e base CX k f d ps c :=
 ⟨λvs H Q E q=>F.len vs H Q E (h _ _ _ _ q),λA a s H b m vs Q E i he g l j=>F.run A a s H b m vs Q E i he g l (h _ _ _ _ j)⟩
section
variable {X:Cx}{bz:List (Addr×Obj)}{σ:St}{H:Hp}{s s':X8}
def Inv.env0(I:Inv X bz σ H s):zmh X.prog X.w X.K X.mg X.base X.A X.stack s H :=
 ⟨I.ok.frames,I.ok.mod,I.bs,X5 I.ok.bsz I.sz,I.stack,I.stkFree,I.hok,I.bare⟩
def Inv.after(I:Inv X bz σ H s)(h:CE X.stack X.prog X.w H s Q u s'):EP X bz σ Q u s':=by
 obtain⟨v,f,os,a,un,c,r,q⟩:=h;obtain⟨i,g,d,t,e⟩:=s';obtain rfl:e=s.os:=os;exact⟨v,f,I.call (h':=i) (g':=g) (d':=d) (t':=t) (ch:=[]) un c a (λb z=>absurd z "s"),r,q⟩
end
def zda(sp:Sp)(a:AE)(E:XK)(t:TA):TE:=fun d H Q=>t d H λc b=>sp (c++a) b Q E
def Binds(K:X4)(c:XI)(ps:AD)(b:List X9):Prop :=
 ∀(s:X8) (a:List X9),K.In s.heap->(a++b).length=ps.length->OD s c ⟨a,[]⟩ (ps.zip (a++b))
def Binds.all{K:X4}(h:∀a:List X9,a.length=ps.length->N8 b ⟨a,[]⟩=pure (ps.zip a)):Binds K b ps []:=λs a _ c=>by
 rw[W5]at c ⊢;exact .of_eq (h a c)
def Passes(CX:CXT)(X:Cx)(E:XK):Prop:=∀(b:List (Addr×Obj)) (c:St) (H:Hp) (s:X8) (e:X9) (a:X8),Inv X b c H s->CX X.stack H s E e a->X.xe e a
section
variable {X:Cx}{CX:CXT}{k:Nat}{f C:Addr}{fd:XI}{ps:AD}{sp:Sp}{dvs:AE}{ds:List X9}{E:XK}{x m:Str}{p pos apos:Pos}{e o:Expr}{es:List Expr}{ta:TE}{t:TA}
def zmi{d:St}(F:qm X.prog X.w X.K X.mg X.base CX k f fd ps sp)(n:xj k X.A)(j:Binds X.K fd ps ds)(l:Vals dvs ds)(o:Passes CX X E)
  (I:Inv X c d H s) (r:Vals vs a) (h:sp (vs++dvs) H Q E):Xw (Xv X.prog X.w) X.A (call (.ref f) a) (EP X c d Q) X.xe s:=by
 have g:Vals (vs++dvs) (a++ds):=r.append l;have m:(a++ds).length=ps.length:=by rw[<- g.length];exact F.len _ _ _ _ h
 refine RL (UT (F.run X.A X.stack s H ⟨a,[]⟩ (a++ds) (vs++dvs) Q E n I.env0 (j s a I.kIn m) g h) λr p b=>?_);cases r with
 | error e=>exact o c d H s e p I b
 | ok i =>
  cases i with
  | ret u=>exact I.after b
  | next=>exact WK b
  | brk=>exact WK b
  | cont=>exact WK b
def zcS(F:qm X.prog X.w X.K X.mg X.base CX k f fd ps sp)(n:xj k X.A)(l:Gl X x)(m:X.mg x=some (.ref f))(hk:VD X.K (.ref f)=true)(i:Binds X.K fd ps ds)(j:Vals dvs ds)(o:Passes CX X E)
  (g:PA X (e::es) t) (a:(x==("__debug__":Str))=false:=by decide) (he:Xh (e::es) X.env=(false,eval e X.env)::Xh es X.env:=by rfl) (b:(UV pos (Xh es X.env)).any (·.1)=false:=by rfl) :
  PE X (.Call (.Name x p) (e::es) [] pos) (zda sp dvs E t):=by
 intro d s u H Q I h;refine Vy (xB I l m ?_ a);refine UE (h₀:=X.base) I.ok.mod.kin hk (thn (g pos d s u H _ I h) λy s1 ⟨z,v,c,r,q⟩=>⟨c.kIn,?_⟩) he b;exact zmi F n i j o c r q
end
structure zD (N P:AD)(sc:Ve):Prop where
 kind:sc.kind=.function
 co:sc.isCoroutine=false
 gen:sc.isGenerator=false
 nd:N.Nodup
 pre:N.take P.length=P
 par:∀x∈P,sc.names.lookup x=some .local\/sc.names.lookup x=some .cell
 nofree:∀y∈sc.names,y.2 ≠ .free
def bh{N P:AD}{c:Ve}(k:c.kind=.function:=by rfl)(a:c.isCoroutine=false:=by rfl)(b:c.isGenerator=false:=by rfl)(p:N.take P.length=P:=by rfl)(h:(N.Nodup)/\(∀x∈P,c.names.lookup x=some .local\/c.names.lookup x=some .cell)/\∀y∈c.names,y.2 ≠ .free:=by decide+kernel):zD N P c:=⟨k,a,b,h.1,p,h.2.1,h.2.2⟩
theorem zeT{kindOf:Str->Option Sh}:∀{binds:List (Str×X9)} {m:Str->Option X9},(∀v,(x,v) ∉ binds)->NM kindOf binds m x=m x
 | [],_,_=>rfl
 | (n,v)::r,m,h=>by
  unfold NM;rw[zeT λw a=>h w (XS _ a)];split
  .have:x≠n:=by rintro rfl;exact h v XU
   simp[this]
  .rfl
theorem zeU{kindOf:Str->Option Sh}:∀{binds:List (Str×X9)} {m:Str->Option X9},(∀v,(x,v) ∉ binds)->NL kindOf binds m x=m x
 | [],_,_=>rfl
 | (n,v)::r,m,h=>by
  unfold NL;rw[zeU λw a=>h w (XS _ a)];split
  .rfl
  .have:x≠n:=by rintro rfl;exact h v XU
   simp[this]
theorem zeV{kindOf:Str->Option Sh}:∀{P:AD} {vs:List X9} {i:Nat} {m:Str->Option X9},P.Nodup->P[i]?=some x->vs[i]?=some v->kindOf x=some .local ->
  NM kindOf (P.zip vs) m x=some v
 | [],_,_,_,_,h,_,_=>by simp at h
 | _::_,[],_,_,_,_,h,_=>by simp at h
 | p::P,w::vs,0,m,a,h1,h2,hk=>by
  simp at h1 h2;subst h1;subst h2;show NM kindOf ((p,w)::P.zip vs) m p=_;unfold NM;rw[zeT λv b=>(V8.mp a).1 (R6 b).1,bw hk];simp
 | p::P,w::vs,i+1,m,a,h1,h2,hk=>by
  show NM kindOf ((p,w)::P.zip vs) m x=_;unfold NM;exact zeV (i:=i) (V8.mp a).2 ↑h1 ↑h2 hk
theorem zeW{kindOf:Str->Option Sh}:∀{P:AD} {vs:List X9} {i:Nat} {m:Str->Option X9},P.Nodup->P[i]?=some x->vs[i]?=some v->kindOf x≠some .local ->
  NL kindOf (P.zip vs) m x=some v
 | [],_,_,_,_,h,_,_=>by simp at h
 | _::_,[],_,_,_,_,h,_=>by simp at h
 | p::P,w::vs,0,m,a,h1,h2,hk=>by
  simp at h1 h2;subst h1;subst h2;show NL kindOf ((p,w)::P.zip vs) m p=_;unfold NL;rw[zeU λv b=>(V8.mp a).1 (R6 b).1,bq hk];simp
 | p::P,w::vs,i+1,m,a,h1,h2,hk=>by
  show NL kindOf ((p,w)::P.zip vs) m x=_;unfold NL;exact zeW (i:=i) (V8.mp a).2 ↑h1 ↑h2 hk
def start(N:AD)(vs:AE):St:=vs.map some++W1 (N.length-vs.length) none
def zbO(CX:CXT)(P:Xu)(w:W9)(K:X4)(mg:Str->Option X9)(base:Heap)(N:AD)(qual:Str)(scope:Ve)(f:Addr)(cd:X9)(A:WZ)(outer:List Env)(s:X8)(H:Hp)(E:XK):Cx where
 prog:=P
 w:=w
 K:=K
 mg:=mg
 base:=base
 A:=A.deeper (R8 qual scope s.heap.objs.size f cd)
 N:=N
 s₀:=s
 H₀:=H
 env:=R8 qual scope s.heap.objs.size f cd
 outer:=outer
 stack:=R8 qual scope s.heap.objs.size f cd::outer
 ex:=[]
 calm:=true
 fn:=λ_=>true
 pn:=[]
 xe:=λe s'=>Xw (Xv P w) (A.deeper (R8 qual scope s.heap.objs.size f cd)) (leaving (R8 qual scope s.heap.objs.size f cd) e) (λ_ s''=>CX outer H s E e s'') (λe' s''=>CX outer H s E e' s'') s'
def zgO{a:Ve}(h:a.names.lookup x=some .cell):∃c,(Sw n a.names []).lookup x=some c:=by
 have q:=SG a.names n [] (.inl h);exact VW.mp q
def zeX{K:X4}
  (S:zD N ps d) (O:A.handled=none) (l:zmh P w K I base A g s H) (Y:vs.length=ps.length) (r:Vals vs J)
  (x:InCallC s s.heap.objs.size (NM (R8 j d s.heap.objs.size f D).kindOf (ps.zip J) λ_=>none) (Sw (s.heap.objs.size+1) d.names []) (NL (R8 j d s.heap.objs.size f D).kindOf (ps.zip J) λ_=>none) s1) :
  Inv (zbO CX P w K I base N j d f D A g s H E) [] (start N vs) H s1:=by
 have Q:ps.length<=N.length:=by have:=congrArg List.length S.pre;rw[XH]at this;lia
 obtain⟨h1,tk,rfl,hk⟩:=x.done;have m:∀b:Addr,b ∉ (zbO CX P w K I base N j d f D A g s H E).ex:=λb z=>absurd (show b∈([]:List Addr) from z) "s";refine⟨⟨l.mod,S.kind,rfl,rfl,XQ _,λy z c h1 h2=>?_,λy hy=>?_,λy c _ h=>?_,λ_=>O,Around.frames_deeper l.frames,.inr ⟨rfl,rfl⟩,λb z=>absurd z (m b),l.bs,l.bsz,λb _ _=>m b,λb z=>absurd z (m b),l.funs,l.frf⟩,rfl,l.bare,Un.kept hk,⟨_,x.toInCall.ns,λi y v h1 h2 U=>?_⟩,λy c h=>⟨_,x.cell y c h⟩,l.hok.fresh (XQ _),λy c h=>?_,λp o=>absurd (show p∈([]:List (Addr×Obj)) from o) "s",l.hok.kept hk,?_⟩
 .exact name_of_addr x.apart (WA h1) (WA h2)
 .have hy:d.names.lookup y=some .cell\/d.names.lookup y=some .free:=hy;rcases hy with hy | hy
  .exact zgO hy
  .exact absurd rfl (S.nofree _ (WA hy))
 .exact Ts (x.above y c (WA h))
 .have G:i<vs.length:=by
   unfold start at h2;by_cases G:i<vs.length
   .exact G
   .rw[Vq ↑G]at h2;rw[PU]at h2;split at h2<;>cases h2
  have M:vs[i]?=some v:=by
   unfold start at h2;rw[VH ↑G,Xp]at h2;cases e:vs[i]? with
   | none=>rw[e]at h2;cases h2
   | some a=>rw[e]at h2;cases h2;rfl
  obtain⟨u,L,T⟩:=r.get M;have o:ps[i]?=some y:=by
   rw[<- S.pre,QP "a"];exact h1
  have B:ps.Nodup:=by rw[<- S.pre];exact S.nd.sublist (SO _ _)
  refine⟨u,T,?_⟩;rcases S.par y (X7 o) with k | k
  .exact .inl ⟨k,zeV B o L k⟩
  .obtain⟨c,e⟩:=zgO (n:=s.heap.objs.size+1) k;refine .inr ⟨.inl k,c,e,?_⟩;have q:=x.cell y c e;rw[zeW B o L (by show d.names.lookup y≠_;rw[k];decide)]at q;exact q
 .exact l.hok.fresh (Ts (x.above y c (WA h)))
 .unfold start;show _=N.length;rw[XZ,ZB,SA];lia
def zql{K:X4}{kV :X9}
     (lk:K.lookup f=some ⟨oc,od,.func (V0 name d h i a dV kV doc pm an g ct),T⟩) (L:U7 K g d=true) (S:zD N ps a)
  (len:∀vs H Q E,sp vs H Q E->vs.length=ps.length)
  (m:∀(A:WZ) (c:List Env) (s:X8) (H:Hp) (vs:AE) (Q:VK) (E:XK),xj k (A.deeper (R8 d a s.heap.objs.size f g))->sp vs H Q E ->
   ∃t,PSs (zbO CX P w K G base N d a f g A c s H E) i t/\t { nx:=λ_ l=>Q .non l,rt:=Q } (start N vs) H) :
  qm P w K G base CX (k+1) f (V0 name d h i a dV kV doc pm an g ct) ps sp:=by
 refine⟨len,λA c s H aa us vs Q E M B hb r D=>?_⟩;have hl:=len _ _ _ _ D;have KX:K.In s.heap:=B.mod.kin.keeps λb o e=>(B.bs b o e).1;have O:s.heap.NoLimit:=B.mod.nolimit.keeps λb o e=>(B.bs b o e).1;have p:∀y∈ps.zip us,a.names.lookup y.1=some .local\/(a.names.lookup y.1=some .cell/\((Sw (s.heap.objs.size+1) a.names []).lookup y.1).isSome=true):=λ⟨n,v⟩ hy=>by
  rcases S.par n (R6 hy).1 with q | q
  .exact .inl q
  .exact .inr ⟨q,SG _ _ _ (.inl q)⟩
 refine Pf M.depth (KX _ _ lk) rfl S.co S.gen rfl (PySem.W.codeRec_of KX L) (hb _ _ _ _ ?_);refine Rv S.kind p λab he s1 x=>?_;subst he;refine⟨O.keeps x.toInCall.keep,codeAny_func ?_⟩;refine fR (λt ht hq=>?_) (m A c s H vs Q E (M.deeper _) D);have I:Inv (zbO CX P w K G base N d a f g A c s H E) [] (start N vs) H s1:=zeX S M.hd B hl r x;refine WM (ht [] s1 (start N vs) H _ I hq) (λfl Y z=>?_) λe Y z=>z;have fin:∀{j:St} {l:Hp} {v:V} {u:X9},Inv (zbO CX P w K G base N d a f g A c s H E) [] j l Y->RelV v u->Q v l->CE c P w H s Q u Y :=
  λ{j l v u} J U q=>(eK v l J.os J.bare J.base J.hok U q)
 cases fl with
 | ret u =>
  revert z;refine gi λv j l J U q=>?_;exact fin J U q
 | next =>
  obtain⟨j,l,J,q⟩:=z;exact fin (v:=V.non) (u:=U1) J rfl q
 | brk =>
  obtain⟨_,_,_,q⟩:=z;exact WK q
 | cont =>
  obtain⟨_,_,_,q⟩:=z;exact WK q
section
variable {X:Cx}{x:Str}{p pos:Pos}{e:Expr}{es:List Expr}{t:TA}{id T:String}{r:AE->Hp->VK->Prop}
def tCB(r:AE->Hp->VK->Prop)(t:TA):TE:=fun c H Q=>t c H λb a=>r b a Q
def QG(j:jG X (.builtin id) r)(k:Gl X x)(l:X.mg x=none)(n:UU x=some (.builtin id))(i:PA X (e::es) t)(m:x ≠ "__name__":=by decide)(a:(x==("__debug__":Str))=false:=by decide)
  (he:Xh (e::es) X.env=(false,eval e X.env)::Xh es X.env:=by rfl) (b:(UV pos (Xh es X.env)).any (·.1)=false:=by rfl):PE X (.Call (.Name x p) (e::es) [] pos) (tCB r t):=by
 intro c s d H Q I h;refine Vy (QB I k l n ?_ m a);exact PyProof.Rows.callWith_builtin1 (thn (i pos c s d H _ I h) λu s1 ⟨v,f,g,q,o⟩=>j c s1 d f v u Q g q o) he b
def zk0(j:jG X (.type T) r)(k:Gl X x)(l:X.mg x=none)(n:UU x=some (.type T))(i:PA X (e::es) t)(m:x ≠ "__name__":=by decide)(a:(x==("__debug__":Str))=false:=by decide)
  (he:Xh (e::es) X.env=(false,eval e X.env)::Xh es X.env:=by rfl) (b:(UV pos (Xh es X.env)).any (·.1)=false:=by rfl):PE X (.Call (.Name x p) (e::es) [] pos) (tCB r t):=by
 intro c s d H Q I h;refine Vy (QB I k l n ?_ m a);exact VP (thn (i pos c s d H _ I h) λu s1 ⟨v,f,g,q,o⟩=>j c s1 d f v u Q g q o) he b
end
end L2
namespace HT
open PySem PyProof.Rows
section
variable {prog:Xu}{w:W9}{A:WZ}{E:X9->X8->Prop}{s:X8}
def sIx(n d:Nat):Option Int->Nat
 | none=>d
 | some v=>if v<0 then (v+(n:Int)).toNat else min v.toNat n
def zjX(n d k:Nat):sIx n d (some (k:Int))=min k n:=by
 show (if (k:Int)<0 then ((k:Int)+(n:Int)).toNat else min (k:Int).toNat n)=min k n;rw[bq "a",Rf]
end
end HT
namespace L2
open PySem PySem.Spec PyProof.Rows
abbrev TO:=St->Hp->(Option Int->Hp->Prop)->Prop
def PO(X:Cx)(e:Option Expr)(t:TO):Prop :=
 ∀(c:List (Addr×Obj)) (s:X8) (a:St) (H:Hp) (Q:Option Int->Hp->Prop),Inv X c a H s->t a H Q ->
  Xw (Xv X.prog X.w) X.A (evalPart e X.env) (λu d=>∃o b,Inv X c a b d/\IsPart u o/\Q o b) X.xe s
def zoN:TO:=λ_ H Q=>Q none H
def zqm(t:TE):TO:=fun b H Q=>t b H λx a=>∃i,x=.int i/\Q (some i) a
section
variable {X:Cx}{e:Expr}{te:TE}{lo hi:Option Expr}{tl th:TO}{pos p2:Pos}
def za3:PO X none zoN:=by
 intro a s b H Q I h;rw[evalPart_none];exact XR ⟨none,H,I,.none,h⟩
def zcT(h:PE X e te):PO X (some e) (zqm te):=by
 intro c s j H Q I d;rw[evalPart_some];refine thn (h c s j H _ I d) λu s1 ⟨x,a,b,g,f⟩=>?_;obtain⟨i,rfl,q⟩:=f;obtain⟨t,rfl⟩:=g;exact⟨some i,a,b,.int i t,q⟩
def SlR(X:Cx)(r:V->Option Int->Option Int->Hp->VK->Prop):Prop :=
 ∀(a:List (Addr×Obj)) (s:X8) (e:St) (H:Hp) (x:V) (v c d:X9) (lo hi:Option Int) (b:Addr) (Q:VK),Inv X a e H s->RelV x v->s.heap.IsSliceOf b c d .none->IsPart c lo->IsPart d hi->r x lo hi H Q ->
  ∃T id,PD (.type T) "__getitem__"=pure (some (.builtin id))/\s.TypeIs v T/\Xw (Xv X.prog X.w) X.A (OE v (.ref b)) (EP X a e Q) X.xe s
def tSl(r:V->Option Int->Option Int->Hp->VK->Prop)(te:TE)(tl th:TO):TE:=fun a H Q=>te a H λx b=>tl a b λl c=>th a c λu d=>r x l u d Q
def zdb(B:SlR X r)(he:PE X e te)(z:PO X lo tl)(E:PO X hi th):PE X (.Subscript e (.Slice lo hi none p2) pos) (tSl r te tl th):=by
 intro c s d H Q I h;refine Og (thn (he c s d H _ I h) λv s1 ⟨x,j,m,O,L⟩=>?_);refine wpAny_Slice (thn (z c s1 d j _ m L) λf U ⟨l,k,n,G,M⟩=>thn (E c U d k _ n M) λg a ⟨u,i,I3,J,N⟩=>?_);rw[evalPart_none];refine XR ?_;have o:Inv X c d i { a with heap:=a.heap.push { cls:=.type "slice",data:=.fields #[f,g,.none] } }:=I3.kept (t':=a.toks) λb ob q=>XY _ q;refine fS (λT id p D y=>?_) (B c { a with heap:=a.heap.push { cls:=.type "slice",data:=.fields #[f,g,.none] } } d i x v f g l u a.heap.objs.size Q o O (Heap.IsSliceOf.new ..) G J N);show Xw (Xv X.prog X.w) X.A (Rb e (.Slice lo hi none p2) v (.ref a.heap.objs.size)) (EP X c d Q) X.xe { a with heap:=a.heap.push { cls:=.type "slice",data:=.fields #[f,g,.none] } };exact tail_any (ops:=[.ref a.heap.objs.size,v]) D p y (by with_unfolding_all rfl)
def zei(xs:AE)(lo hi:Option Int):AE:=(xs.drop (HT.sIx xs.length 0 lo)).take (HT.sIx xs.length xs.length hi-HT.sIx xs.length 0 lo)
def zgP(xs)(lo hi):(zei xs lo hi).length<=xs.length:=by
 unfold zei;rw[XH,UM];lia
end
def ixN(n:Nat)(i:Int):Option Nat:=if 0<=i then (if i<n then some i.toNat else none) else if -(n:Int)<=i then some (i+n).toNat else none
def atI{α:Type}(xs:List α)(i:Int):Option α:=(ixN xs.length i).bind λj=>xs[j]?
def zjY(h:ixN n i=some j):seqIndex? i n=some j/\j<n/\-(n:Int)<=i/\i<n:=by
 unfold ixN at h;by_cases h0:0<=i
 .rw[bw h0]at h;by_cases h1:i<n
  .rw[bw h1]at h;have e:i.toNat=j:=Option.some.inj h;exact⟨by rw[O0 h0 h1,e],"a","a",h1⟩
  .rw[bq h1]at h;cases h
 .rw[bq h0]at h;by_cases h1:-(n:Int)<=i
  .rw[bw h1]at h;have e:(i+n).toNat=j:=Option.some.inj h;exact⟨by rw[Px "a" h1,e],"a",h1,"a"⟩
  .rw[bq h1]at h;cases h
def zcU(h:atI xs i=some v):∃j,seqIndex? i xs.length=some j/\xs[j]?=some v/\j<xs.length/\-(xs.length:Int)<=i/\i<xs.length:=by
 unfold atI at h;cases e:ixN xs.length i with
 | none=>rw[e]at h;cases h
 | some j =>
  rw[e]at h;obtain⟨h1,h2,a,b⟩:=zjY e;exact⟨j,h1,h,h2,a,b⟩
def JZ{j:Nat}(h:xs[j]?=some v):atI xs (j:Int)=some v:=by
 have a:j<xs.length:=(X6.mp h).1;have e:ixN xs.length (j:Int)=some j:=by
  unfold ixN;rw[bw "a",bw "a"];simp
 unfold atI;rw[e];exact h
def zoO(b:Expr):Prop:=∀o i,OZ b false o i=operate [o,i] (OE o i)
def IxR(X:Cx)(r:R2):Prop :=
 ∀(b a:Expr) (c:List (Addr×Obj)) (s:X8) (d:St) (H:Hp) (x y:V) (v u:X9) (Q:VK),Inv X c d H s->RelV x v->RelV y u->r x y H Q ->
  OZ a false v u=operate [v,u] (OE v u)->Xw (Xv X.prog X.w) X.A (Rb b a v u) (EP X c d Q) X.xe s
def MtR(X:Cx)(id:String)(r:V->AE->Hp->VK->Prop):Prop :=
 ∀(a:List (Addr×Obj)) (s:X8) (d:St) (H:Hp) (x:V) (c:AE) (v:X9) (b:List X9) (Q:VK),Inv X a d H s->RelV x v->Vals c b->r x c H Q ->
  Xw (Xv X.prog X.w) X.A (call (.builtin id) (v::b)) (EP X a d Q) X.xe s
section
variable {X:Cx}{a b:Expr}{ta tb:TE}{pos:Pos}
def zQ(i:IxR X r)(f:PE X a ta)(g:PE X b tb)(j:zoO b):PE X (.Subscript a b pos) (tOp r ta tb):=by
 intro e s n H Q I h;exact Og (zq8 f g I h λv u m x y c d k l q=>i a b e m n c x y v u Q d k l q (j _ _))
def zsT(K:X4):R2:=λx y H Q=>∃p a i v,x=.ref p/\y=.int i/\SqL K H p a/\atI a i=some v/\Q v H
def zsU(K:X4):R2:=λx y H Q=>∃p a i v,x=.ref p/\y=.int i/\SqT K H p a/\atI a i=some v/\Q v H
def ztZ:R2:=λx y H Q=>∃z i c,x=.str z/\y=.int i/\z.length<=Xz/\atI z.cps.toList i=some c/\Q (.str ⟨#[c]⟩) H
def zfH:IxR X (zsT X.K):=by
 intro f e g s m H x y v u Q I D E h l;revert h;refine gk λp N i z z0 z1 B he q=>?_;subst z0 z1;cases D;obtain⟨t,rfl⟩:=E;obtain⟨b,r,c,M⟩:=I.list B;refine gy (λj h1 h2 J n o=>?_) (zcU he);obtain⟨w,k,d⟩:=r.get h2;have A:=r.length;have L:=QF;have fin:EP X g m Q w s:=⟨z,H,I,d,q⟩;by_cases h0:0<=i
 .have a:i.toNat=j:=by
   rw[O0 h0 o]at h1;exact Option.some.inj h1
  exact item_listR c.isList h0 "a" (by rw[a];simpa using k) fin l
 .have a:(i+(b.toArray.size:Int)).toNat=j:=by
   rw[Px "a" n]at h1;rw[Xx,<- A];exact Option.some.inj h1
  exact Ps (x:=w) c.isList.typeIs slot_list_getitem.lookup
   (Pr (Q:=λr G=>r=w/\EP X g m Q r G) c.isList "a" (by rw[Xx]<;>lia) "a" (by rw[a];simpa using k) ⟨rfl,fin⟩) l
def jS:IxR X (zsU X.K):=by
 intro c b d s f H x y v u Q I o A h m;revert h;refine gk λp M i z z0 z1 l he q=>?_;subst z0 z1;cases o;obtain⟨t,rfl⟩:=A;obtain⟨n,r,e,L⟩:=I.tuple l;refine gy (λj h1 h2 D E G=>?_) (zcU he);obtain⟨w,g,a⟩:=r.get h2;have k:=r.length;have J:=QF;have fin:EP X d f Q w s:=⟨z,H,I,a,q⟩;exact Ps (x:=w) e.typeIs slot_tuple_getitem.lookup
  (getItem_tuple (j:=j) (Q:=λr B=>r=w/\EP X d f Q r B) e "a" "a" (by rw[Xx,<- k];exact h1) ↑g ⟨rfl,fin⟩) m
def zre:IxR X ztZ:=by
 intro b a o s B H x y v u Q I m n h l;revert h;refine fV λz i c z0 z1 w he q=>?_;subst z0 z1;obtain⟨t,rfl⟩:=m;obtain⟨A,rfl⟩:=n;refine gy (λj h1 h2 p f g=>?_) (zcU he);have k:z.cps.toList.length=z.length:=by simp[Str.length]
 rw[k]at h1 f g;have r:=QF;exact tail_any (Of s z t) slot_str_getitem.lookup (getItem_str (c:=c) (by
  have d:decide (i < -(2^63:Int))=false:=bf "a";have e:decide (i >= 2^63)=false:=bf "a";rw[d,e,Bool.or_false]) (by rw[h1];simpa using h2) ⟨.str ⟨#[c]⟩,H,I.tok _,⟨_,rfl⟩,q⟩) l
def ziA(a:List X9)(n j)(u):U0 (·.setIfInBounds j u) { cls:=.type "list",data:=.seq a.toArray n }={ cls:=.type "list",data:=.seq (a.set j u).toArray n }:=by
 simp[U0]
theorem Inv.lst{b:List (Addr×Obj)}{c:St}{H:Hp}{s:X8}{p:Addr}{xs:AE}(I:Inv X b c H s)(h:H p=some (.lst xs)) :
  ∃(a:List X9) (n:Nat),Vals xs a/\s.heap.get? p=some { cls:=.type "list",data:=.seq a.toArray n }/\xs.length<=Xz:=by
 refine gH (λz a n r e=>?_) (I.hok p _ h);exact⟨a,n,r,e,z⟩
def Inv.lstUpd{i:St}{a:List X9}(I:Inv X d i H s)(h:H p=some (.lst xs))
  (k:s.heap.get? p=some { cls:=.type "list",data:=.seq a.toArray n }) (g:f { cls:=.type "list",data:=.seq a.toArray n }={ cls:=.type "list",data:=.seq its'.toArray c }) (r:Vals ys its') (l:ys.length<=Xz) (t) :
  Inv X d i (upd H p (.lst ys)) { s with heap:=s.heap.update p f,toks:=t }:=by
 have e:(s.heap.update p f).get? p=some { cls:=.type "list",data:=.seq its'.toArray c }:=by
  rw[WG f k (by rw[g]<;>rfl),g]
 refine I.write (x:=p) (e:=p) (by rw[h];trivial) (.inl rfl) (λb u j q=>(VJ _ _ (Vd j)).trans q) ⟨_,e⟩ ?_;exact⟨l,its',c,r,e⟩
def zsV:V->V->V->Hp->(Hp->Prop)->Prop:=λo i v H Q=>∃p a k j,o=.ref p/\i=.int k/\H p=some (.lst a)/\ixN a.length k=some j/\Q (upd H p (.lst (a.set j v)))
def set_list:zsI X zsV:=by
 intro l s B H o i v G E u Q I y x z h;revert h;refine gk λp A k j z0 z1 g m q=>?_;subst z0 z1;cases y;obtain⟨t,rfl⟩:=x;refine fS (λa n r c w=>?_) (I.lst g);obtain⟨h1,h2,e,f⟩:=zjY m;have b:=r.length;have D:=QF;have d:Inv X l B (upd H p (.lst (A.set j v))) { s with heap:=s.heap.update p (U0 (·.setIfInBounds j u)) } :=
  I.lstUpd g c (ziA a n j u) (r.set z j) (by rw[Pj];exact w) s.toks
 by_cases h0:0<=k
 .have hk:k.toNat=j:=by
   rw[O0 h0 f]at h1;exact Option.some.inj h1
  exact PySem.W.ki_setAt c h0 "a" (by rw[Xx,<- b];exact f) (by rw[hk];exact⟨_,d,q⟩)
 .have hk:(k+(a.toArray.size:Int)).toNat=j:=by
   rw[Px "a" e]at h1;rw[Xx,<- b];exact Option.some.inj h1
  exact PySem.W.ki_setBack c "a" (by rw[Xx,<- b];exact e) "a" (by rw[hk];exact⟨_,d,q⟩)
def zfI(lo a)(n):(SY lo a none n).1=((HT.sIx n 0 lo:Nat):Int)/\(SY lo a none n).2.1=((HT.sIx n n a:Nat):Int)/\(SY lo a none n).2.2=1:=by
 refine⟨?_,?_,rfl⟩
 .cases lo with
  | none=>simp[SY,HT.sIx]
  | some i =>
   simp only[SY,HT.sIx,Option.getD_none,show (1:Int)>0 by decide,if_true];by_cases h:i<0
   .simp only[h,if_true]<;>lia
   .simp only[h,if_false]<;>lia
 .cases a with
  | none=>simp[SY,HT.sIx]
  | some i =>
   simp only[SY,HT.sIx,Option.getD_none,show (1:Int)>0 by decide,if_true];by_cases h:i<0
   .simp only[h,if_true]<;>lia
   .simp only[h,if_false]<;>lia
def zej(a:List X9)(lo b):slicePick a.toArray lo b none=((a.drop (HT.sIx a.length 0 lo)).take (HT.sIx a.length a.length b-HT.sIx a.length 0 lo)).toArray:=by
 obtain⟨h1,h2,c⟩:=zfI lo b a.toArray.size;unfold slicePick;rw[h1,h2,c];simp only[sliceRange_one,pick_run,Xx]<;>rfl
def zt0(K:X4):V->Option Int->Option Int->Hp->VK->Prop:=λx lo c H Q=>∃a b,x=.ref a/\SqL K H a b/\∀p,H p=none->Q (.ref p) (upd H p (.lst (zei b lo c)))
def zfJ:SlR X (zt0 X.K):=by
 intro p s z H x v w y lo e u Q I n g l m h;revert h;refine fS λa c z0 i q=>?_;subst z0;cases n;obtain⟨k,r,f,j⟩:=I.list i;have d:=r.length;refine⟨"list",_,slot_list_getitem.lookup,f.isList.typeIs,?_⟩;refine wpAny_getItem_list_slice f.isList g l m .none "s" ?_ (by rw[Xx]<;>lia);rw[zej,<- d];refine⟨.ref s.heap.objs.size,_,I.laid (t':=s.toks) (o:=.lst (zei c lo e)) (λb ob q=>XY _ q) (XQ _) ?_,rfl,q _ (I.hok.fresh (XQ _))⟩;exact⟨X5 (zgP c lo e) j,_,0,(r.drop (HT.sIx c.length 0 lo)).take (HT.sIx c.length c.length e-HT.sIx c.length 0 lo),Xg _ rfl⟩
def zfK:OpR X (Wi .NotIn) (λx y H Q=>∃i j,x=.str i/\y=.str j/\Q (.bl (!(!(Uc j i 0 j.length 1).isEmpty))) H):=by
 intro c s e H x y v u Q I a b h;revert h;refine fS λi j z0 z1 q=>?_;subst z0 z1;obtain⟨t,rfl⟩:=a;obtain⟨d,rfl⟩:=b;exact notIn_str ⟨.bl _,H,I,rfl,q⟩
def yD:jG X (.builtin "len") (λxs H Q=>∃p ys,xs=[.ref p]/\(SqL X.K H p ys\/SqT X.K H p ys)/\Q (.int ys.length) H):=by
 intro g s k H xs j Q I r h;obtain⟨p,ys,rfl,hq,q⟩:=h;obtain⟨u,rfl,f⟩:=vals1 r;cases f;have i:=QF;rcases hq with hq | hq
 .obtain⟨b,d,c,e⟩:=I.list hq;have a:=d.length;exact Calls.call_len_list c.isList (by simp only[Xx]<;>lia) ⟨.int ys.length,H,I.tok _,⟨s.toks+1,by rw[Xx,a]⟩,q⟩
 .obtain⟨b,d,c,e⟩:=I.tuple hq;have a:=d.length;exact len_tuple c (by simp only[Xx]<;>lia) ⟨.int ys.length,H,I.tok _,⟨s.toks+1,by rw[Xx,a]⟩,q⟩
def jB:jG X (.builtin "len") (λxs H Q=>∃z,xs=[.str z]/\z.length<=Xz/\Q (.int z.length) H):=by
 intro a s e H xs d Q I r h;obtain⟨z,rfl,c,q⟩:=h;obtain⟨u,rfl,t,rfl⟩:=vals1 r;have b:=QF;exact len_str "a" ⟨.int z.length,H,I.tok _,⟨_,rfl⟩,q⟩
def xE:jG X (.type "list") (λxs H Q=>∃p ys,xs=[.ref p]/\(SqL X.K H p ys\/SqT X.K H p ys)/\∀l,H l=none->Q (.ref l) (upd H l (.lst ys))):=by
 intro z s B H xs D Q I r h;revert h;refine fS λp ys z0 hq q=>?_;subst z0;obtain⟨u,rfl,A⟩:=vals1 r;cases A;have fin:∀(a:List X9),Vals ys a->ys.length<=Xz->∀(c:Heap) (d:Nat),(∀b y,s.heap.get? b=some y->c.get? b=some y) ->
   c.get? s.heap.objs.size=some { cls:=.type "list",dict:=none,data:=.seq a.toArray d,slots:=#[] }->EP X z B Q (.ref s.heap.objs.size) { s with heap:=c }:=λa f i c d j e =>
  ⟨.ref s.heap.objs.size,_,I.laid (t':=s.toks) j (XQ _) (show ji X.prog X.w _ c _ (.lst ys) from ⟨i,a,d,f,e⟩),rfl,q _ (I.hok.fresh (XQ _))⟩
 rcases hq with hq | hq
 .obtain⟨a,f,x,i⟩:=I.list hq;have g:=f.length;obtain⟨o,v,k,n,m⟩:=x.isList;exact call_list_seq p (.inl rfl) v k m (λc d j e=>fin a f i c d j e) (by simp only[Xx]<;>lia)
 .obtain⟨a,f,x,i⟩:=I.tuple hq;have g:=f.length;obtain⟨o,v,k,n,m⟩:=x;exact call_list_seq p (.inr rfl) v k m (λc d j e=>fin a f i c d j e) (by simp only[Xx]<;>lia)
def tyV(K:X4)(T:String)(x:V)(H:Hp):Prop:=match x with
 | .str _=>T="str"
 | .int _=>T="int"
 | .ref p=>(T="list"/\∃b,SqL K H p b)\/(T="tuple"/\∃o,K.lookup p=some o/\o.cls=.type "tuple"/\o.dict=none) \/
   (T="dict"/\((∃a,H p=some (.dK a))\/∃a,H p=some (.dT a)))\/(T="set"/\∃S n,H p=some (.set S n))
 | _=>False
def zmj{q:St}(I:Inv X j q H s)(r:RelV x v)(ty:tyV X.K T x H) :
  s.TypeIs v T/\∀a,v=.ref a->∃ob,s.heap.get? a=some ob/\ob.dict=none:=by
 cases x with
 | str z =>
  obtain⟨t,rfl⟩:=r;cases (show T="str" from ty);exact⟨Of s z t,λ_ e=>nomatch e⟩
 | int i =>
  obtain⟨t,rfl⟩:=r;cases (show T="int" from ty);exact⟨typeIs_int s i t,λ_ e=>nomatch e⟩
 | ref p =>
  cases r;rcases ty with ⟨rfl,u,l⟩ | ⟨rfl,o,hk,k,f⟩ | ⟨rfl,hk⟩ | ⟨rfl,S,n,hk⟩
  .obtain⟨m,_,h,_⟩:=I.list l;refine⟨h.isList.typeIs,λa e=>?_⟩;cases e;obtain⟨o,n,e,c,f,_⟩:=h;exact⟨o,e,f⟩
  .refine⟨⟨o,I.kIn p o hk,k⟩,λa e=>?_⟩;cases e;exact⟨o,I.kIn _ o hk,f⟩
  .have z:∃o,s.heap.get? p=some o/\o.ExactDict:=by
    rcases hk with ⟨g,hk⟩ | ⟨g,hk⟩
    .refine fY (λ_ _ _ _=>gi λo _ _ e b _=>?_) (I.hok p _ hk);exact⟨o,e,b⟩
    .refine fY (λ_ _ _ _=>gi λo _ _ e b _=>?_) (I.hok p _ hk);exact⟨o,e,b⟩
   obtain⟨o,e,b⟩:=z;refine⟨⟨o,e,b.1⟩,λa d=>?_⟩;cases d;exact⟨o,e,b.2.1⟩
  .refine fU (λo _ _ _=>fX λe b _=>?_) (I.hok p _ hk);refine⟨⟨o,e,b.1⟩,λa d=>?_⟩;cases d;exact⟨o,e,b.2.1⟩
 | _=>exact WK ty
def zt1(K:X4)(T:String)(r:V->AE->Hp->VK->Prop)(b:TE):TE:=fun c H Q=>b c H λx a=>tyV K T x a/\r x [] a Q
def tBM(K:X4)(T:String)(r:V->AE->Hp->VK->Prop)(d:TE)(t:TA):TE:=fun b H Q=>d b H λx a=>tyV K T x a/\t b a λe c=>r x e c Q
variable {o e:Expr}{es:List Expr}{to:TE}{t:TA}{name:Str}{apos cpos:Pos}{T id:String}{r:V->AE->Hp->VK->Prop}
def zrf(m:PlainAttrs T)(c:Slot T name id)(d:typeOf (.builtin id)=pure (.type "method_descriptor"))(k:MtR X id r)(l:PE X o to)
  (a:Ra o name X.env (eval o X.env)=eval o X.env:=by rfl) (b:(apos.endLine==cpos.line)=true:=by rfl):PE X (.Call (.Attribute o name apos) [] [] cpos) (zt1 X.K T r to):=by
 intro f s i H Q I h;refine wpAny_Call_method0_late a b (thn (l f s i H _ I h) λv s1 ⟨x,j,e,g,ty,n⟩=>?_);obtain⟨h1,h2⟩:=zmj e g ty;exact eK T id m c d h1 h2 (T2 rfl (PySem.evalArgs_none (k f s1 i j x [] v [] Q e g .nil n)))
def JK(A:PlainAttrs T)(f:Slot T name id)(i:typeOf (.builtin id)=pure (.type "method_descriptor"))(w:MtR X id r)(y:PE X o to)(u:PA X (e::es) t)
  (b:Ra o name X.env (eval o X.env)=eval o X.env:=by rfl)
  (d:((UV cpos (Xh (e::es) X.env)).all (λx=>!x.1)&&(backToKw cpos (NQ [] X.env)).all (λx=>x.1.isSome)
   && decide ((e::es).length+([]:List OC).length+(if ([]:List OC).isEmpty then 0 else 1)<30))=true:=by rfl)
  (c:(apos.endLine==cpos.line)=true:=by rfl) (z:Xh (e::es) X.env=(false,eval e X.env)::Xh es X.env:=by rfl) (a:(UV cpos (Xh es X.env)).any (·.1)=false:=by rfl) :
  PE X (.Call (.Attribute o name apos) (e::es) [] cpos) (tBM X.K T r to t):=by
 intro g s j H Q I h;refine Pq b d c rfl (thn (y g s j H _ I h) λv s1 ⟨x,n,k,m,ty,B⟩=>?_);obtain⟨h1,h2⟩:=zmj k m ty;refine eK T id A f i h1 h2 ?_;have l:=u cpos g s1 j n _ k B;rw[z]at l ⊢;refine T2 (by show (false || (UV cpos (Xh es X.env)).any (·.1))=false;rw[a]<;>rfl) (Tx ?_);exact thn l λJ G ⟨L,p,q,E,D⟩=>w g G j p x L v J Q q m E D
/- xs.append(e),list.index on a module's tuple .. are MtR facts of 06m -/
end
def MtM(X:Cx)(id:String)(r:V->AE->Hp->VK->Prop):Prop :=
 ∀(a:List (Addr×Obj)) (s:X8) (d:St) (H:Hp) (x:V) (c:AE) (v:X9) (b:List X9) (Q:VK),Inv X a d H s->RelV x v->Vals c b->r x c H Q ->
  Xw (Xv X.prog X.w) X.A (call (.builtin id) (v::b)) (EP X a d Q) X.xe s
theorem Vals.one:∀{x:V} {a:List X9},Vals [x] a->∃u,a=[u]/\RelV x u
 | _,_,.cons r .nil=>⟨_,rfl,r⟩
theorem Vals.zero:∀{a:List X9},Vals [] a->a=[]
 | _,.nil=>rfl
theorem Vals.reverse(h:Vals xs a):Vals xs.reverse a.reverse:=by
 induction h with
 | nil=>exact .nil
 | cons r t b=>rw[List.reverse_cons,List.reverse_cons];exact Vals.append b (.cons r .nil)
theorem Vals.rep(h:Vals xs a):∀k:Nat,Vals (W1 k xs).flatten (W1 k a).flatten
 | 0=>.nil
 | k+1=>by
  rw[VF,VF,WF,WF];exact Vals.append h (Vals.rep h k)
theorem foldl_rep(b):∀(k:Nat) (a:List X9),
  List.foldl (λd f=>d++f) a.toArray (W1 k b.toArray)=(a++(W1 k b).flatten).toArray
 | 0,a=>"s"
 | k+1,a=>by
  have e:a.toArray++b.toArray=(a++b).toArray:="s"
  have c:(a++b)++(W1 k b).flatten=a++(W1 (k+1) b).flatten:=by
   rw[VF,WF,Ww]
  rw[<- c,<- foldl_rep b k (a++b),<- e,VF,V6]
section
variable {X:Cx}{bz:List (Addr×Obj)}{σ:St}{H:Hp}{s:X8}{l b:Addr}{xs ys zs:AE}
def Inv.lset{a:List X9}(I:Inv X bz σ H s)(b:H l=some (.lst xs))
  (e:s.heap.get? l=some { cls:=.type "list",data:=.seq a.toArray n }) (d:f a.toArray=its'.toArray) (h:Vals ys its') (i:ys.length<=Xz) :
  Inv X bz σ (upd H l (.lst ys)) { s with heap:=s.heap.update l (U0 f),toks:=t' }:=by
 have q:=PySem.IsL.update e f;rw[d]at q;refine I.write (x:=l) (e:=l) (by rw[b];exact trivial) (.inl rfl) (λj u c g=>(VJ s.heap (U0 f) (Vd c)).trans g) ⟨_,q⟩ ?_;exact⟨i,its',_,h,q⟩
def Inv.lnew(I:Inv X bz σ H s)(b:Vals ys a)(hz:ys.length<=Xz) :
  Inv X bz σ (upd H s.heap.objs.size (.lst ys)) { s with heap:=s.heap.push { cls:=.type "list",data:=.seq a.toArray },toks:=t' } :=
 I.laid (λ_ _ q=>XY _ q) (XQ _) ⟨hz,a,0,b,Xg _ rfl⟩
theorem Inv.fresh(I:Inv X bz σ H s):H s.heap.objs.size=none:=I.hok.fresh (XQ _)
def Inv.lstM(I:Inv X bz σ H s)(b:H l=some (.lst xs)):xs.length<=Xz/\∃(a:List X9) (n:Nat),Vals xs a/\xs.length=a.length/\s.heap.get? l=some { cls:=.type "list",data:=.seq a.toArray n }:=by
 refine gH (λz a n r e=>?_) (I.hok l _ b);exact⟨z,a,n,r,r.length,e⟩
def zgQ(h:n<=Xz):Uq n=false:=by
 unfold Uq;exact bf "a"
end
section
variable {X:Cx}
def zoP:V->AE->Hp->VK->Prop:=λx b H Q=>∃l a y,x=.ref l/\b=[y]/\H l=some (.lst a)/\a.length<Xz/\Q .non (upd H l (.lst (a++[y])))
def zbP:MtM X "list.append" zoP:=by
 intro g s p H x m v k Q I f d h;revert h;refine fV λl o y z0 z1 b j q=>?_;subst z0 z1;cases f;obtain⟨u,rfl,c⟩:=d.one;refine gD (λz a n r i e=>?_) (I.lstM b);refine RK F.slot_list_append ⟨_,e,rfl⟩ F.entry_list_append (F.args_list_append_2 _ _) (PySem.list_append l a.toArray n u (by rw[Xx];lia)) ⟨e,?_⟩;refine⟨.non,_,I.lset (its':=a++[u]) b e "s" (r.append (.cons c .nil)) ?_,rfl,q⟩;rw[XZ,List.length_singleton];lia
def zoQ:V->AE->Hp->VK->Prop:=λx d H Q=>∃l b a c,x=.ref l/\d=[.ref b]/\H l=some (.lst a)/\H b=some (.lst c)/\a.length+c.length<=Xz/\Q .non (upd H l (.lst (a++c)))
def Yg:MtM X "list.extend" zoQ:=by
 intro A s N H x G v E Q I y w h;revert h;refine gz λl b J M z0 z1 g j D q=>?_;subst z0 z1;cases y;obtain⟨u,rfl,p⟩:=w.one;cases p;refine gD (λz c n r B e=>?_) (I.lstM g);refine gD (λL a m o k i=>?_) (I.lstM j);have f:c.toArray.size+a.toArray.size<=Xz:=by rw[Xx,Xx];lia
 have d:¬ (!c.toArray.isEmpty&&Uq (c.toArray.size+a.toArray.size))=true:=by
  rw[zgQ f,Bool.and_false];exact XJ
 refine RK F.slot_list_extend ⟨_,e,rfl⟩ F.entry_list_extend (F.args_list_extend_2 _ _)
  (AutoSeq1.list_extend_list_list_0 l c.toArray n b a.toArray m d (by rw[Xx];lia) "a") ⟨e,i,?_⟩
 refine⟨.non,_,I.lset (its':=c++a) g e "s" (r.append o) ?_,rfl,q⟩;rw[XZ];lia
def zmk:V->AE->Hp->VK->Prop:=λx b H Q=>∃l a,x=.ref l/\b=[]/\H l=some (.lst a)/\Q .non (upd H l (.lst a.reverse))
def ziB:MtM X "list.reverse" zmk:=by
 intro g s o H x k v j Q I f d h;revert h;refine fQ λl m z0 z1 c q=>?_;subst z0 z1;cases f;have b:=d.zero;subst b;refine gD (λz a n r i e=>?_) (I.lstM c);refine RK F.slot_list_reverse ⟨_,e,rfl⟩ F.entry_list_reverse (F.args_list_reverse_1 _) (AutoSeq1.list_reverse_list_0 l a.toArray n (by rw[Xx];lia)) ⟨e,?_⟩;refine⟨.non,_,I.lset (its':=a.reverse) c e "s" r.reverse ?_,rfl,q⟩;rw[Ul];lia
def zt2:R2:=λx y H Q=>∃l b a c,x=.ref l/\y=.ref b/\H l=some (.lst a)/\H b=some (.lst c)/\a.length+c.length<=Xz/\∀p,H p=none->Q (.ref p) (upd H p (.lst (a++c)))
def JI:OpR X (Ug .Add) zt2:=by
 intro p s J H x y v u Q I m o h;revert h;refine gz λl b D G z0 z1 i g A q=>?_;subst z0 z1;cases m;cases o;refine gD (λz c n r w e=>?_) (I.lstM i);refine gD (λE a B k j d=>?_) (I.lstM g);refine PySem.P.add_list e d ?_ (by rw[Xx,Xx];lia);have f:c.toArray++a.toArray=(c++a).toArray:="s"
 rw[f];exact⟨.ref _,_,I.lnew (t':=s.toks) (r.append k) (by rw[XZ];lia),rfl,q _ I.fresh⟩
def zt3:R2:=λx y H Q=>∃l k a,x=.ref l/\y=.int k/\H l=some (.lst a)/\-(2^63)<=k/\k<2^63/\a.length*k.toNat<=Xz /\
 ∀p,H p=none->Q (.ref p) (upd H p (.lst (W1 k.toNat a).flatten))
def len_rep{α:Type}(xs:List α)(k):(W1 k xs).flatten.length=k*xs.length:=by
 induction k with
 | zero=>simp
 | succ k a=>rw[VF,WF,XZ,a,N5,Nat.add_comm]
def ziC:OpR X (Ug .Mult) zt3:=by
 intro J s N H x y v u Q I D E h;revert h;refine gq λl k M z0 z1 A h1 h2 p q=>?_;subst z0 z1;cases D;obtain⟨t,rfl⟩:=E;refine gD (λz b n r B e=>?_) (I.lstM A);have g:b.toArray.size*k.toNat<=Xz:=by rw[Xx,<- B];exact p
 have d:¬ b.toArray.size*k.toNat>(2^63-1)/8:=by
  have:(Xz:Nat)<=(2^63-1)/8:="d"
  lia
 have f:¬ (!Builtin.List.listFitsIndex k)=true:=by
  rw[fitsIndex_both h1 h2];exact XJ
 have c:¬ Uq (b.toArray.size*k.toNat)=true:=by
  rw[zgQ g];exact XJ
 have i:List.foldl (λj o=>j++o) #[] (W1 (if b.toArray.isEmpty=true then 0 else k.toNat) b.toArray)=(W1 k.toNat b).flatten.toArray:=by
  have w:∀m:Nat,List.foldl (λj o=>j++o) #[] (W1 m b.toArray)=(W1 m b).flatten.toArray:=λm=>by
   have:=foldl_rep b m [];rw[List.nil_append]at this;exact this
  rw[w];cases b with
  | nil=>simp
  | cons a L=>rw[bq "s"]
 refine wpAny_binaryOp_repeat_ref (T:="list") (U:="int") "d" ⟨_,e,rfl⟩ (λG=>typeIs_int G k t) noFill_list_mul F.fills_int_mul F.slot_int_rmul repeat_list F.slot_int_index.lookup
  (RK F.slot_int_rmul (typeIs_int s k t) F.entry_int_rmul (F.args_int_rmul_2 _ _) (int___rmul___int_list k t l b.toArray n)
   ⟨e,rfl,⟨_,e,rfl⟩,RK F.slot_list_mul ⟨_,e,rfl⟩ F.entry_list_mul (F.args_list_mul_2 _ _) (AutoListH.list___mul___list_int_3 l b.toArray n k t f d c) ⟨e,?_⟩⟩)
 rw[i];exact⟨.ref _,_,I.lnew (t':=s.toks) (r.rep k.toNat) (by rw[len_rep,Pw];exact p),rfl,q _ I.fresh⟩
end
end L2
namespace Att
open PySem PySem.W PySem.Calls PyProof.Rows
def zcH:∀(c:List Int) (vs:List X9),WellAll P h vs (c.map WData.int)->OB vs c:=by
 intro c;induction c with
 | nil =>
  intro vs w;rw[N4]at w;cases w;exact .nil
 | cons n c d =>
  intro vs w;rw[Xs]at w;cases w with
  | cons a b =>
   cases a;exact .cons _ _ (d _ b)
def zk1{l:OpenLaw}(s:l.most=some n)
  (c:l.row.toRowW.claim.pre args=true) (m:WellAll P h e args) :
  ∃a vs b,e=[WU a]/\args=[WData.list (b.map WData.int)]/\h.get? a=some { cls:=.type "list",data:=.seq vs.toArray }/\OB vs b/\b.length<=n:=by
 have k:WShape.hasAll [] args [.list .int]=true:=(pre_splitW c).1;have o:l.pre.holds [] { args:=args }=true:=(pre_splitW c).2;obtain⟨d,r,rfl,h1,h2⟩:=hasAllW_cons k;obtain rfl:=hasAllW_nil h2;obtain⟨y,rfl,p⟩:=hasW_list h1;obtain⟨b,rfl⟩:=items_int p;have g:b.length<=n:=by
  unfold OpenLaw.pre at o;have i:(WTm.not (.lt (.lit (.int (n:Int))) (.len (.arg 0)))).holds [] { args:=[.list (b.map .int)] }=true:=by
   have i:=(holds_andW o).1;rw[s]at i;exact i
  have j:=condW_of i (w_not (w_lt w_lit (w_len_list (w_arg rfl))));rw[ZB]at j;refine Nat.le_of_not_lt λq=>?_;have v:(n:Int)<((b.length:Nat):Int):="a"
  first
   | (rw[br v]at j;exact absurd j "d")
   | (simp at j;lia)
 cases m with
 | cons w x =>
  cases x;cases w with
  | list u f=>exact⟨_,_,b,rfl,rfl,u,zcH b _ f,g⟩
def zk2(l:OpenLaw)(args):l.row.toRowW.claim.post args (.bool true) args=true :=
 postW_of (r:=l.row.toRowW) (X:=(true==true))
  (show WShape.has [] (.bool true) .bool=true by first | rfl | decide | simp[WShape.has,WShape.arms,WShape.armsAll])
  (show (WTm.eq .res (.lit (.bool true))).value [] { args:=args,res:=some (.bool true),after:=args }=some (.bool (true==true)) from w_eq_bool (w_res rfl) w_lit) rfl
end Att
namespace L2
open PySem PySem.Spec PyProof.Rows
theorem zeY:∀{vs:List X9} {a:List Int},OB vs a->Vals (a.map V.int) vs
 | _,_,.nil=>.nil
 | _,_,.cons n t h=>.cons ⟨t,rfl⟩ (zeY h)
def zrg(H:Hp):Prop:=∀b,H b=none\/∃o a,H b=some (.frz o (.lst a))
end L2
/- THE LAST THEOREM (shape;LID,My.* are yours):
   My.Adr: a structure of the addresses that your layer names (classes,functions);My.Txt K t: a structure (Prop) of the equations over K;
   My.txt_mk:{K} {implicit addresses ..} (e1:nsIn K XT "law"=some (some (.ref f))) (e2:K.lookup f=some ⟨oc,od,.func (fnOf "law" "law" params body scope dV kV doc pm an cdv ct),sl⟩) (e3:codeIn K cdv "law"=true) ..:∃t,My.Txt K t
set_option maxRecDepth 100000 in
set_option maxHeartbeats 0 in
theorem PySem.Challenge.cw_LID_holds : PySem.Challenge.rw_LID.Holds := by
 w_on;o_law;k_head;(case hw=>w_witness2);k_fill;refine L2.walk_of (l:=PySem.Challenge.rw_LID) (n:=63) (k:=40) (x:="script") (CX:=λw=>..) (sp:=λ_=>My.zt4) rfl "d" rfl ⟨rfl,"d","d"⟩ (λw h Y=>PySem.W.kIn_of Y) ?F ?S ?C
 case F =>
  intro w mg fa h KX G hmg
  have T:∃t,My.Txt (L2.KOf KX) t:=by
   dsimp only[L2.KOf]                          -- K must stand as «<heap const> w.params» for k_is;refine' My.txt_mk ?e1 ?e2 ?e3 ..;(case e1=>PySem.W.k_is)                    -- in the order: a name->its address->its object->its parts;(case e2=>PySem.W.k_is);..
  obtain⟨t,T⟩:=T
  have e0:=hmg.symm.trans (WS KX G T.law)
  cases e0                                       -- fa is the law's own address
  exact⟨_,λs u=>.of_eq rfl,λbase kb nb=>My.law_fn T kb nb⟩     -- if «.of_eq rfl» comes too early: refine' ⟨_,?b,λbase kb nb=>My.law_fn T kb nb⟩;exact λs u=>.of_eq rfl
 case S=>exact λw H a ns hl hO hS=>..
 case C=>exact ..
(the tactic k_is has no namespace: write k_is) -/
namespace L2
open PySem PySem.Spec PyProof.Rows
def yy(s:Stmt):NV:=match s with
 | .FunctionDef _ a _ _ _ _ _ _ _ _=>a
 | _=>{ posonlyargs:=[],args:=[],vararg:=none,kwonlyargs:=[],kw_defaults:=[],kwarg:=none,defaults:=[] }
def jw(s:Stmt):List Stmt:=match s with
 | .FunctionDef _ _ b _ _ _ _ _ _ _=>b
 | _=>[]
def zv(s:Stmt):Ve:=match s with
 | .FunctionDef _ _ _ _ _ _ a _ _ _=>a
 | _=>{ kind:=.function,names:=[],isGenerator:=false,isCoroutine:=false }
abbrev CX0:CXT:=λ_ _ _ _ _ _=>False
abbrev E0:XK:=λ_ _ _=>False
def zqn:Passes CX0 X E0:=λ_ _ _ _ _ _ _ h=>h.elim
structure Fun (K:X4)(x qual:Str)(st:Stmt)(f:Addr)(fd:XI):Prop where
 ex:∃(oc:X9) (od:Option Addr) (kV doc pm:X9) (an:Option Addr) (cdv ct:X9) (osl:Array (Option X9)),
  fd=V0 x qual (yy st) (jw st) (zv st) .none kV doc pm an cdv ct/\K.lookup f=some ⟨oc,od,.func fd,osl⟩/\U7 K cdv qual=true
 kp:VD K (.ref f)=true
section
variable {P:Xu}{w:W9}{K:X4}{mg:Str->Option X9}{base:Heap}
theorem cxK:(zbO CX P w K mg base N q sc f cd A o s H E).K=K:=rfl
theorem cxP:(zbO CX P w K mg base N q sc f cd A o s H E).prog=P:=rfl
theorem cxW:(zbO CX P w K mg base N q sc f cd A o s H E).w=w:=rfl
def Fun.ok{st:Stmt}(F:Fun K x b st f i)(S:zD N ps (zv st))(len:∀vs H Q E,sp vs H Q E->vs.length=ps.length)
  (d:∀(c:X9) (A:WZ) (a:List Env) (s:X8) (H:Hp) (vs:AE) (Q:VK) (E:XK),xj k (A.deeper (R8 b (zv st) s.heap.objs.size f c))->sp vs H Q E ->
   ∃t,PSs (zbO CX0 P w K mg base N b (zv st) f c A a s H E).nox (jw st) t/\t { nx:=λ_ j=>Q .non j,rt:=Q } (start N vs) H):qm P w K mg base CX0 (k+1) f i ps sp:=by
 refine fU (λr u kV doc=>gw λv o c p n z0 m e=>?_) F.ex;subst z0;refine zql m e S len λA a s H vs Q E l g=>?_;obtain⟨t,h,q⟩:=d c A a s H vs Q E l g;exact⟨t,h.nox,q⟩
def Fun.binds{st:Stmt}(F:Fun K x a st f i)
  (h:∀(kV doc e:X9) (c:Option Addr) (b d:X9) (g:List X9),g.length=ps.length->N8 (V0 x a (yy st) (jw st) (zv st) .none kV doc e c b d) ⟨g,[]⟩=pure (ps.zip g)):Binds K i ps []:=by
 refine fU (λm n kV doc=>gw λe c b d k z0 l j=>?_) F.ex;subst z0;exact .all (h kV doc e c b d)
def zml{st:Stmt}{kV :X9}(l:K.lookup f=some ⟨i,j,.func (V0 x a (yy st) (jw st) (zv st) .none kV doc h e b g),d⟩)
  (c:U7 K b a=true) (k:VD K (.ref f)=true):Fun K x a st f (V0 x a (yy st) (jw st) (zv st) .none kV doc h e b g):=⟨(er i j kV doc (eZ h e b g d rfl l c)),k⟩
end
section
variable {X:Cx}
def pv(i){pos:Pos}(b:X.N[i]?=some x:=by rfl)(d:Vis X.env.scope x:=by first | exact Wm rfl | exact RN (Wm rfl) | exact RN (RN rfl))(c:(x==("__debug__":Str))=false:=by decide)
  (a:(x==("__classdict__":Str))=false:=by decide):PE X (.Name x pos) (zsA i):=zq3 b d c a
end
def zap{B:Prop}(h:B):if false=true then A else B:=by
 rw[bq XJ];exact h
def zdc{B:Prop}(h:A):if true=true then A else B:=by
 rw[bw rfl];exact h
def QH{B:Prop} [Decidable c](h1:c->A)(h2:¬ c->B):if c then A else B:=by
 by_cases h:c
 .rw[bw h];exact h1 h
 .rw[bq h];exact h2 h
def zqo{B:Prop} [Decidable c](a:c)(h:B):if (!decide c)=true then A else B:=by
 rw[br a];exact zap h
def zx(H a:Hp):Prop:=∀b o,H b=some o->a b=some o
def zx.refl(H):zx H H:=λ_ _ h=>h
def zx.trans(a:zx H d)(b:zx d e):zx H e:=λc o h=>b c o (a c o h)
def zx.free(e:zx H a)(h:a l=Option.none):H l=Option.none:=by
 cases q:H l with
 | none=>rfl
 | some o =>
  rw[e l o q]at h;cases h
def zx.seq{K:X4}(e:zx H b)(h:SqL K H a xs):SqL K b a xs:=by
 rcases h with (h | ⟨o,h⟩) | h
 .exact .inl (.inl (e _ _ h))
 .exact .inl (.inr ⟨o,e _ _ h⟩)
 .exact .inr h
end L2
set_option maxHeartbeats 4000000
namespace L2
open PySem PySem.Spec PyProof.Rows
section
variable {X:Cx}
def ZP:OpR X (Ug .Mult) (rI NI λi j=>.int (i*j)):=opI λ_ _ _ _ _ _ _ a q=>mul_int q a
def jL(_ j:Int):Prop:=0<j/\j.natAbs.log2<9000
def zgR:OpR X (Ug .FloorDiv) (rI jL λi j=>.int (i/j)):=opI λi j _ _ _ _ _ a q=>by
 have h1:(0:Int)<j:=a.1;exact floordiv_int "a" (by rw[Int.fdiv_eq_ediv_of_nonneg i "a"];exact q) (.inl (PyProof.noPylong_of_log2 a.2))
def jL.small(h:0<j)(h':j<1073741824):jL i j:=by
 refine⟨h,?_⟩;have h0:j.natAbs≠0:="a"
 have:j.natAbs.log2<30:=(Nat.log2_lt h0).mpr "a";lia
def jL.big(h:0<j)(h':j.natAbs<2^8000):jL i j:=by
 refine⟨h,?_⟩;have h0:j.natAbs≠0:="a"
 have:j.natAbs.log2<8000:=(Nat.log2_lt h0).mpr h';lia
def zsW(h1:-(2^64)<j)(h2:j<2^64):NI i j:=IntMulOk.of_right (intBits_le_64 h1 h2)
def mulL(h1:-(2^64)<i)(h2:i<2^64):NI i j:=IntMulOk.of_left (intBits_le_64 h1 h2)
def zsX(h1:i.natAbs<2^8000)(h2:j.natAbs<2^8000):NI i j:=IntMulOk.of_le (m:=8000) (n:=8000) (intBits_le_iff.mpr h1) (intBits_le_iff.mpr h2) "d"
def zsY(T U:String):Option Bool:=if (PF T==PF U)=true then some true else if PySem.W.kitMeta U=true then (fastBuiltinMro T).map (·.contains (.type U)) else none
def zrh(K)(e:zsY T U=some b):Xb K (.type T) (.type U)=some b:=e
def zgS:jG X (.builtin "isinstance") (λxs H Q=>∃x T U b,xs=[x,.ty U]/\zbN X.K H x (.type T)/\zsY T U=some b/\Q (.bl b) H):=by
 intro f s j H xs g Q I r h;revert h;refine gn λx T U b z0 ty e q=>?_;subst z0;obtain⟨u,i,rfl,c,a⟩:=vals2 r;cases a;exact zkZ I c ty (zrh X.K e) λd=>⟨.bl b,H,I.tok d,rfl,q⟩
end
def ju{B:Prop}(e:b=true)(h:A):if b=true then A else B:=by
 rw[bw e];exact h
def qZ{B:Prop}(e:b=false)(h:B):if b=true then A else B:=by
 subst e;exact zap h
structure zh (K:X4)(mg:Str->Option X9)(x:Str)(st:Stmt)(ps:AD)(f:Addr)(fd:XI):Prop where
 F:Fun K x x st f fd
 g:mg x=some (.ref f)
 b:Binds K fd ps []
def Z5(h:0<=i)(e:xs[i.toNat]?=some v):atI xs i=some v:=by
 have:=JZ e;rwa [Uk h]at this
def zsZ(t u:TS):TS:=λD c H=>∃M:St->Hp->Prop,t { D with nx:=M } c H/\∀ a b,M a b->u D a b
def zad{st:Stmt}(h1:PS X st t)(h2:PSs X a u):PSs X (st::a) (zsZ t u):=by
 intro d s k H D I h;obtain⟨M,g,i⟩:=h;refine Vk (thn (h1 d s k H _ I g) λf s1 q=>?_);cases f with
 | next =>
  obtain⟨b,c,e,j⟩:=q;exact h2 d s1 b c D e (i b c j)
 | brk=>exact q
 | cont=>exact q
 | ret v=>exact q
def zc(h:H l=none):zx H (upd H l o):=λb u e=>by rw[zq (zj e h)];exact e
def Its(x:Str):It:=⟨λi _=>i<x.cps.size,λi H v a=>a=H/\∃c,x.cps[i]?=some c/\v=.str ⟨#[c]⟩,λi _=>i=x.cps.size⟩
def zgT{K:X4}(it)(x)(t)(n)
  (hn:["enumerate","zip","dict_itemiterator","dict_reverseitemiterator","odict_iterator","itertools.zip_longest","itertools.pairwise"].contains n=false)
  (W:∀A':WZ,A'.handled=none->Walks P w A' it [it] [it] x.cps.size (SignAt x) (λi h=>h.IsStrIter it n x t i))
  (S:∀(A:WZ) (i:Nat) (s:X8) (Q:X9->X8->Prop) (E:X9->X8->Prop),s.heap.IsStrIter it n x t i->Q (.ref it) s->Xw (Xv P w) A (NW (.ref it)) Q E s) :
  Turn P w K tg (Its x) [it] it (λi h=>h.IsStrIter it n x t i) where
 mem:="s"
 obj:=λi h st b hb=>by
  have e:b=it:=by simpa using hb
  subst e;obtain⟨o,e,c,d⟩:=st;exact⟨o,e,λv z=>by rw[d]at z;cases z⟩
 keep:=λi h h' st k=>by
  obtain⟨o,e,r⟩:=st;exact⟨o,k it "s" o e,r⟩
 item:=by
  intro X hP hw hK hc i bz s σ H E I hf st hg;subst hP hw hK;refine gj (λf0 f1 f2 f3 f4 f5=>?_) (hf it "s");refine(W X.A (I.ok.hd hc)).item i s _ _ hg st λv h' tk hv st' kk=>?_;revert hv;refine fZ λc u hx z0=>?_;subst z0;have I1:Inv X bz σ H { s with heap:=h',toks:=tk }:=I.turned (λb o hb e=>kk b o ↑hb e) f0 f1 f3 f4 f5;refine fT (λo e c1 d1=>?_) (id st');exact⟨_,rfl,zmd (s:={ s with heap:=h',toks:=tk }) e c1 d1 hn (eX (.str ⟨#[c]⟩) H I1 ⟨u,rfl⟩ ⟨rfl,c,hx,rfl⟩ st' (λb hb=>(hf b hb).1))⟩
 done:=by
  intro X hP hw hK hc i bz s σ H E I hf st hg;subst hP hw hK;refine gj (λf0 f1 f2 f3 f4 f5=>?_) (hf it "s");have e:i=x.cps.size:=hg;subst e;exact(W X.A (I.ok.hd hc)).done s _ E st λh' tk kk=>⟨rfl,I.turned (λb o hb e=>kk b o ↑hb e) f0 f1 f3 f4 f5⟩
 self:=λA i s Q E st h=>S A i s Q E st h
section
variable {X:Cx}{tg:Expr}
def zt5(b:TE):TI:=fun c H R=>b c H λx a=>∃z,x=.str z/\R (Its z) a
def zri(m:PE X l i):PI X tg l (zt5 i):=by
 intro f s r H R I h;refine thn (m f s r H _ I h) λv s1 ⟨x,c,a,p,n⟩=>?_;obtain⟨z,rfl,q⟩:=n;obtain⟨t,rfl⟩:=p;have g:∀b ∈ [s1.heap.objs.size],QC X f c b:=λb k=>by
  have e:b=s1.heap.objs.size:=by simpa using k
  subst e;exact a.fpOk (XQ _) (a.hok.fresh (XQ _))
 cases ha:z.cps.all (· < 128)
 .refine wpAny_pyIter_wide ha ?_;exact eH s1.heap.objs.size [s1.heap.objs.size] _ _ c rfl (a.kept (t':=s1.toks) λb o e=>XY _ e) (zgT _ z t "str_iterator" "d" (λj d=>Walks.strWide d _ z t) (λ_ _ _ _ _ st h=>wpAny_pyIter_striter_wide st h)) ⟨_,Xg _ rfl,rfl,rfl⟩ g q
 .refine wpAny_pyIter_ascii ha ?_;exact eH s1.heap.objs.size [s1.heap.objs.size] _ _ c rfl (a.kept (t':=s1.toks) λb o e=>XY _ e) (zgT _ z t "str_ascii_iterator" "d" (λj d=>Walks.strAscii d _ z t) (λ_ _ _ _ _ st h=>wpAny_pyIter_striter_ascii st h)) ⟨_,Xg _ rfl,rfl,rfl⟩ g q
end
def zoR{g:TG}{l:TS}{D:Ends}(Pv:Nat->St->Hp->Prop)(h0:Pv 0 a H)
  (q:∀i c a H,x.cps[i]?=some c->Pv i a H->g (.str ⟨#[c]⟩) a H fun f j=>l { D with nx:=Pv (i+1),ct:=Pv (i+1),bk:=D.nx } f j) (o:∀ a H,Pv x.cps.size a H->D.nx a H) :
  ∃W:Nat->Nat->St->Hp->Prop,(∃m,W 0 m a H)/\∀i m a H,W i m a H ->
   ((Its x).stop i H/\D.nx a H)\/((Its x).go i H/\∃N:St->Hp->Prop,(∀ d b,N d b->∃k,k<m/\W (i+1) k d b)/\∀v b,(Its x).yld i H v b->g v a b fun f j=>l { D with nx:=N,ct:=N,bk:=D.nx } f j):=by
 refine⟨λi m a H=>m=x.cps.size-i/\i<=x.cps.size/\Pv i a H,⟨x.cps.size,"s",W2 _,h0⟩,?_⟩;rintro i m a H ⟨rfl,s,p⟩;by_cases h:i<x.cps.size
 .refine .inr ⟨h,Pv (i+1),fun d b r=>⟨x.cps.size-(i+1),"a",rfl,h,r⟩,λv b y=>?_⟩;obtain⟨e,c,n,rfl⟩:=y;subst e;exact q i c a _ n p
 .have e:i=x.cps.size:="a"
  subst e;exact .inl ⟨rfl,o a H p⟩
mutual
inductive Rdv (K:X4)(H:Hp):V->Wh->Prop
 | non:Rdv K H .non .none
 | bl (b:Bool):Rdv K H (.bl b) (.bool b)
 | int (i:Int):Rdv K H (.int i) (.int i)
 | str (x:Str):Rdv K H (.str x) (.str x)
 | lst {a:Addr} {xs:AE} {ds:List Wh}:SqL K H a xs->xY K H xs ds->Rdv K H (.ref a) (.list ds)
 | tup {a:Addr} {xs:AE} {ds:List Wh}:SqT K H a xs->xY K H xs ds->Rdv K H (.ref a) (.tuple ds)
inductive xY (K:X4)(H:Hp):AE->List Wh->Prop
 | nil:xY K H [] []
 | cons {x:V} {d:Wh} {xs:AE} {ds:List Wh}:Rdv K H x d->xY K H xs ds->xY K H (x::xs) (d::ds)
end
section
variable {X:Cx}{bz:List (Addr×Obj)}{σ:St}{H:Hp}{s:X8}
def zk3(I:Inv X bz σ H s)(g:SqL X.K H a xs)(h:∀c,Vals xs c->∃as,N7 s.heap c b as):∀u,RelV (.ref a) u->∃as,Reads s.heap u (.list b) as:=by
 intro u r;cases r;obtain⟨i,k,p,l⟩:=I.list g;obtain⟨as,j⟩:=h _ k;obtain⟨o,f,d,n,e⟩:=p.isList;exact⟨_,.list f d e ↑j⟩
def zk4(I:Inv X bz σ H s)(g:SqT X.K H a xs)(h:∀c,Vals xs c->∃as,N7 s.heap c b as):∀u,RelV (.ref a) u->∃as,Reads s.heap u (.tuple b) as:=by
 intro u r;cases r;obtain⟨i,k,p,l⟩:=I.tuple g;obtain⟨as,j⟩:=h _ k;obtain⟨o,f,d,n,e⟩:=p;exact⟨_,.tuple f d e ↑j⟩
def ziD(h:∀u,RelV v u->∃as,Reads s.heap u d as)(t:∀a,Vals vs a->∃as,N7 s.heap a b as):∀a,Vals (v::vs) a->∃as,N7 s.heap a (d::b) as:=by
 intro a r;cases r with
 | cons c e =>
  obtain⟨as,f⟩:=h _ c;obtain⟨bs,g⟩:=t _ e;exact⟨_,.cons f g⟩
def Rdv.reads(I:Inv X bz σ H s)(h:Rdv X.K H v d):RelV v u->∃as,Reads s.heap u d as :=
 Rdv.rec (motive_1:=λv d _=>∀u,RelV v u->∃as,Reads s.heap u d as) (motive_2:=λf e _=>∀c,Vals f c->∃as,N7 s.heap c e as)
  (λu r=>by cases r;exact⟨_,.none⟩) (λb u r=>by cases r;exact⟨_,.bool b⟩) (λi u r=>by obtain⟨t,rfl⟩:=r;exact⟨_,.int i t⟩) (λx u r=>by obtain⟨t,rfl⟩:=r;exact⟨_,.str x t⟩)
  (λa _ h=>zk3 I a h) (λa _ h=>zk4 I a h) (λc r=>by cases r;exact⟨_,.nil⟩) (λ_ _ h t=>ziD h t) h u
structure zfL (x y:Wh):Prop where
 l1:x.canLay0=true
 l2:y.canLay0=true
 dp:x.depth<=64
def zoS(K:X4)(neg:Bool):R2:=λx y H Q=>∃a b,Rdv K H x a/\Rdv K H y b/\zfL a b/\Q (.bl (if neg then !PyData.eqv a b else WW a b)) H
def yS(k:X.A.units+64<VE):OpR X (Wi .Eq) (zoS X.K false):=by
 intro bz s σ H x y v u Q I f g h;revert h;refine fQ λi j a b c q=>?_;obtain⟨as,d⟩:=a.reads I f;obtain⟨bs,e⟩:=b.reads I g;have:=c.dp;exact SeqAt.compareEq_reads d e c.l1 c.l2 "a" ⟨.bl _,H,I,rfl,q⟩
def jT(k:X.A.units+64<VE):OpR X (Wi .NotEq) (zoS X.K true):=by
 intro bz s σ H x y v u Q I f g h;revert h;refine fQ λi j a b c q=>?_;obtain⟨as,d⟩:=a.reads I f;obtain⟨bs,e⟩:=b.reads I g;have:=c.dp;exact SeqAt.compareNe_reads d e c.l1 c.l2 "a" ⟨.bl _,H,I,rfl,q⟩
def zoT(K:X4)(neg:Bool):R2:=λx y H Q=>∃d a,Rdv K H x d/\Rdv K H y (.list a)/\d.canLay0=true/\Wv a=true/\d.depth<=60/\Q (.bl (if neg then !a.any (λz=>WW z d) else a.any λz=>WW z d)) H
def zdd(l:X.A.units+64<VE):OpR X (Wi .In) (zoT X.K false):=by
 intro bz s σ H x y v u Q I g i h;revert h;refine gu λd k b c c1 a j q=>?_;obtain⟨as,e⟩:=b.reads I g;obtain⟨bs,f⟩:=c.reads I i;exact SeqAt.in_list_reads f e a c1 "a" ⟨.bl _,H,I,rfl,q⟩
def zar(l:X.A.units+64<VE):OpR X (Wi .NotIn) (zoT X.K true):=by
 intro bz s σ H x y v u Q I g i h;revert h;refine gu λd k b c c1 a j q=>?_;obtain⟨as,e⟩:=b.reads I g;obtain⟨bs,f⟩:=c.reads I i;exact SeqAt.notIn_list_reads f e a c1 "a" ⟨.bl _,H,I,rfl,q⟩
end
def qI(X:Cx)(N:AD)(scope:Ve)(cl:List (Str×Addr))(C:Addr)(fp:List Addr)(bz:List (Addr×Obj))(s:X8)(H:Hp):Cx where
 prog:=X.prog
 w:=X.w
 K:=X.K
 mg:=X.mg
 base:=X.base
 A:=X.A
 N:=N
 s₀:=s
 H₀:=H
 env:=Th scope cl C X.env
 outer:=X.stack
 stack:=X.stack
 ex:=fp
 fn:=λ_=>false
 calm:=X.calm
 pn:=X.pn++bz
 xe:=λ_ _=>False
def pull(src:List (Option Nat))(a:St):St:=src.map λo=>match o with
 | some j=>(a[j]?).getD none
 | none=>none
structure yd (X:Cx)(N:AD)(src:List (Option Nat))(scope:Ve)(cl:List (Str×Addr)):Prop where
 kind:scope.kind=.function
 nocell:∀y∈scope.names,y.2 ≠ .cell
 names:∀y∈scope.names,y.2=.local->scope.names.lookup y.1=some .local
 clos:PB scope X.env=pure cl
 sub:∀x c,cl.lookup x=some c->X.env.cells.lookup x=some c
 has:∀x,((Vc scope X.env).names.lookup x=some .cell\/(Vc scope X.env).names.lookup x=some .free)->∃c,cl.lookup x=some c
 len:src.length=N.length
 pulls:∀(i j:Nat) (x:Str),N[i]?=some x->src[i]?=some (some j)->X.N[j]?=some x/\(X.env.kindOf x=some .cell\/X.env.kindOf x=some .free)/\((Vc scope X.env).names.lookup x=some .cell\/(Vc scope X.env).names.lookup x=some .free)
def zek(d:∀y∈a.names,y.2 ≠ .free):(Vc a b).names=a.names:=by
 show a.names.map _=a.names;refine map_eq_self λx c=>?_;obtain⟨n,k⟩:=x;have:(k==NameKind.free)=false:=by simpa using d _ c
 simp[this]
def yd.plain(kind:scope.kind=.function)(nocell:∀y∈scope.names,y.2 ≠ .cell)(nofree:∀y∈scope.names,y.2 ≠ .free)
  (names:∀y∈scope.names,y.2=.local->scope.names.lookup y.1=some .local) (len:src.length=N.length) (none:∀o∈src,o=none):yd X N src scope [] where
 kind:=kind
 nocell:=nocell
 names:=names
 clos:=closureFor_none nofree
 sub:=λx c h=>nomatch h
 has:=λx h=>by
  rw[zek nofree]at h;rcases h with h | h
  .exact absurd rfl (nocell _ (WA h))
  .exact absurd rfl (nofree _ (WA h))
 len:=len
 pulls:=λi j x _ h=>by
  have:=none _ (X7 h);cases this
def zaE(X:Cx)(a:List Expr)(t:TT):Prop :=
 ∀(d:List (Addr×Obj)) (s:X8) (b:St) (H:Hp) (Q:Bool->Hp->Prop),Inv X d b H s->t b H Q ->
  Xw (Xv X.prog X.w) X.A (forIn a true λc r=>if r=true then do let ok <- isTrue c X.env (eval c X.env);pure (VY ok) else pure (VY r)) (TP X d b Q) X.xe s
def zmm:TT:=λ_ H Q=>Q true H
def qp:zaE X [] zmm:=λ_ _ _ H _ I h=>wpAny_tests_nil ⟨H,I,h⟩
def qA(h:PT X c t):zaE X [c] t:=λa s d H Q I b=>wpAny_tests_one (h a s d H Q I b)
def xF(J:It)(g:TG)(r:TT)(s:TE)(Q:VK)(D:Addr)(j:St)(p:Hp):Prop :=
 ∃W:Nat->Nat->St->Hp->Prop,(∃m,W 0 m j p)/\∀i m f d,W i m f d ->
  (J.stop i d/\Q (.ref D) d)\/(J.go i d/\∃N:St->Hp->Prop,(∀ c e,N c e->∃o,o<m/\W (i+1) o c e) /\
   ∀x k,J.yld i d x k->g x f k fun a q=>r a q λb l=>if b=true then s a l λy n=>∃h,n D=some (.lst h)/\h.length<Xz/\N a (upd n D (.lst (h++[y]))) else N a l)
def QI(e:TI)(src:List (Option Nat))(g:TG)(c:TT)(d:TE):TE:=fun b H Q=>e b H λJ a=>∀D,a D=none->xF J g c d Q D (pull src b) (upd a D (.lst []))
def Un.but{C:Addr}(u:Un fs i H g h h1)(j:h.objs.size<=C)(f:Wg C h1 h2):Un fs i H g h h2:=by
 have d:∀b o,h.get? b=some o->b≠C:=λb o e=>Xi (Xq (XA e) j);refine⟨λb o e n c a=>(f.2 b (d b o e)).trans (u.keep b o e n c a),λb o e n c a=>?_,u.free,λb o e a=>?_,u.tups,u.frzs,u.tbls⟩
 .obtain⟨l,q⟩:=u.slot b o e n c a;exact⟨l,(f.2 b (d b o e)).trans q⟩
 .obtain⟨k,q⟩:=u.there b o e a;exact⟨k,(f.2 b (d b o e)).trans q⟩
def HOk.but(ok:HOk P w H h)(a:H C=none)(d:Wg C h h'):HOk P w H h':=λb ob e=>by
 refine(ok b ob e).stay (λc f hc q=>(d.2 c ?_).trans q) (λ_ q=>q) λ_ _ q=>q;rintro rfl;rcases hc with rfl | hc
 .rw[a]at e;cases e
 .rw[a]at hc;cases hc
section
variable {X:Cx}{tg iter elt:Expr}{ifs:List Expr}{scope:Ve}{pos:Pos}{N:AD}{src:List (Option Nat)}{cl:List (Str×Addr)}{wi:TI}{g:TG}{tc:TT}{te:TE}
def zaF{A:St}{C:Addr}(ok:yd X N src scope cl)(I:Inv X h A H s)(B:∀b∈fp,QC X h H b)(ho:∀b∈fp,∃o,s.heap.get? b=some o)
  (E:C=s.heap.objs.size+1) (k:∀b u,s.heap.get? b=some u->h1.get? b=some u) (hD:h1.get? s.heap.objs.size=some { cls:=.type "list",data:=.seq #[] })  (hn:h1.Ns C m) :
  Inv (qI X N scope cl C fp h s H) [] (pull src A) (upd H s.heap.objs.size (.lst [])) { s with heap:=h1,toks:=tk }:=by
 have lt:∀b o,s.heap.get? b=some o->b<s.heap.objs.size:=λb o e=>XA e;have U:∀b o,s.heap.get? b=some o->b≠C:=λb o e=>by rw[E];exact Xi (WC (lt b o e))
 have Y:∀b o,s.heap.get? b=some o->b≠s.heap.objs.size:=λb o e=>Xi (lt b o e);have O:∀b,s.heap.objs.size<=b->H b=none:=λb g=>I.hok.fresh g;have w:∀b,b≠X.env.locals->b ∉ X.fs->b ∉ frs X.stack:=λb h1 h2 z=>(XG.mp (I.stkSub b z)).elim h1 h2;have sub:=ok.sub;refine⟨⟨I.ok.mod,ok.kind,I.ok.glob,I.ok.blt,by rw[show (qI X N scope cl C fp h s H).env.locals=C from rfl,E];exact Wb _,λx y c d a=>I.ok.inj x y c (sub x c d) (sub y c a),ok.has,(λx c z _=>nomatch z),I.ok.hd,I.ok.frames,.inl rfl,λb g=>?_,I.bs,X5 I.ok.bsz I.sz,λb o e g=>?_,λb g hz=>?_,I.stack,I.stkFree⟩,rfl,I.bare,Un.laid k (XQ _) (O _ (XQ _)),⟨m,hn,λi x v d a M=>?_⟩,λx c e=>?_,?_,λx c e=>?_,λp hp=>?_,I.hok.laid k (XQ _) ⟨W2 _,[],0,.nil,hD⟩,?_⟩
 .obtain⟨o,e⟩:=ho b g;exact⟨U b o e,λx c z=>(B b g).2.2.2.2.1 x c (sub x c z)⟩
 .rcases(B b g).2.2.2.1 with z | z
  .exact I.ok.noex b o e z
  .exact absurd (Xq (XA (I.ok.bs b o e).1) z) (VX _)
 .exact w b (B b g).2.1 (B b g).2.2.1 hz
 .have T:i<src.length:=by
   have:=(X6.mp a).1;unfold pull at this;rw[ZB]at this;exact this
  unfold pull at a;rw[Xp,X0 T]at a;cases q:src[i] with
  | none=>rw[q]at a;cases a
  | some j =>
   rw[q]at a;have f:(A[j]?).getD none=some v:=Option.some.inj a;have D:A[j]?=some (some v):=by
    cases z:A[j]? with
    | none=>rw[z]at f;cases f
    | some o=>rw[z]at f;exact congrArg some f
   obtain⟨p1,p2,p3⟩:=ok.pulls i j x d (by rw[X0 T,q]);obtain⟨m',aa,hl⟩:=I.loc;obtain⟨u,r,l⟩:=hl j x v p1 D (by
    rcases p2 with z | z
    .exact .inr (.inl z)
    .exact .inr (.inr z))
   refine⟨u,r,.inr ⟨p3,?_⟩⟩;obtain⟨c,Q⟩:=ok.has x p3;refine⟨c,Q,?_⟩;rcases l with ⟨z,_⟩ | ⟨_,c',n,o,J,G⟩
   .rcases p2 with y | y<;>rw[z]at y<;>cases y
   .rw[sub x c Q]at n;cases n;exact⟨o,k _ o J,G⟩
 .obtain⟨v,o,d,a⟩:=I.cell x c (sub x c e);exact⟨v,o,k c o d,a⟩
 .show upd H s.heap.objs.size (.lst []) C=none;rw[E,zq (Vj _)];exact O _ (Wb _)
 .show upd H s.heap.objs.size (.lst []) c=none;obtain⟨v,o,d,a⟩:=I.cell x c (sub x c e);rw[zq (Y c o d)];exact I.jy x c (sub x c e)
 .have L:p∈X.pn++h:=by
   have:p∈(X.pn++h)++[]:=hp;simpa using this
  refine gc (λd a M D e5=>?_) (I.pin p L);refine⟨k _ _ d,?_,U _ _ d,w _ M D,e5⟩;show upd H s.heap.objs.size (.lst []) p.1=none;rw[zq (Y _ _ d)];exact a
 .unfold pull;rw[ZB];exact ok.len
def zk5(a:Y.calm=true)(hx:∀{x s},Y.xe x s->notedBy (Xv Y.prog Y.w) Y.A Y.env (λx s=>R (.error x) s) x s)(T:Turn Y.prog Y.w Y.K tg J fp it tn)(hg:PG Y tg g)(hc:zaE Y ifs tc)(he:PE Y elt te)
  (q:xF J g tc te Q D ab H0) (c:∀{k:Hp},(∀b∈fp,k b=none)->∀b∈fp,QC Y [] k b) (I0:Inv Y [] ab H0 s) (N:tn 0 s.heap) (ae:∀b∈fp,H0 b=none)
  (fin:∀f σ H s',Inv Y [] σ H s'->Q (.ref D) H->R (.ok f) s'):Uo (Xv Y.prog Y.w) Y.A (.compStart (.ListComp elt [⟨tg,iter,ifs,0⟩] scope pos) 0 (.ref it) (.ref D) Y.env) R s:=by
 obtain⟨W,⟨m0,w0⟩,aa⟩:=q;have v:Uo (Xv Y.prog Y.w) Y.A (.compLoop (.ListComp elt [⟨tg,iter,ifs,0⟩] scope pos) 0 (.ref it) (.ref D) Y.env) R s:=by
  refine codeAny_loop rfl (λn s'=>∃i h k,Inv Y [] h k s'/\tn i s'.heap/\(∀b∈fp,k b=none)/\W i n h k) ?_ m0 ⟨0,_,_,I0,N,ae,w0⟩;refine λn s3=>gb λi l H3 I3 O L w3=>?_;show Xw _ Y.A ((compTurn (.ListComp elt [⟨tg,iter,ifs,0⟩] scope pos) 0 (.ref it) (.ref D) Y.env).onRaise (λx=>do Oz x Y.env;theTreesLotGoes x)) _ _ s3;refine wpAny_noted ?_;rw[compTurn_list];rcases aa i n l H3 w3 with ⟨U,qn⟩ | ⟨go,N',hN,step⟩
  .refine Y1 (Tc (Y1 (thn (T.done Y rfl rfl rfl a i [] s3 l H3 _ I3 (c L) O U) λr s4 ⟨hr,I4⟩=>?_)));subst hr;exact XR (fin _ _ _ _ I4 qn)
  .refine Y1 (Tc (Y1 (thn (T.item Y rfl rfl rfl a i [] s3 l H3 _ I3 (c L) O go) λr s4 ⟨u,hr,h4⟩=>?_)));subst hr;dsimp only;refine Y1 (thn h4 λ_ s5 ⟨x,H5,I5,r5,y5,E,af⟩=>?_);have ac:=I5.pinned (c af) (T.obj _ _ E);refine Y1 (WM (hg _ s5 l H5 x u _ ac r5 (step x H5 y5)) (λ_ s6 ⟨p,H6,I6,q6⟩=>?_) λ_ _ z=>hx z);have O6:∀{I:X8} {j:St} {B:Hp},Inv Y ([]++zbK fp s5.heap) j B I->N' j B->∃m,m<n/\∃i h k,Inv Y [] h k I/\tn i I.heap/\(∀b∈fp,k b=none)/\W i m h k:=λ{I j B} G n7=>by
    obtain⟨m',hm,w7⟩:=hN j B n7;refine dY m' hm (dZ (i+1) j B G.unpinned (T.keep _ _ _ E λb hb o e=>(G.pin (b,o) (Xm _ (Xm _ (xX hb e)))).1) (λb hb=>?_) w7);obtain⟨o,e,d⟩:=T.obj _ _ E b hb;exact(G.pin (b,o) (Xm _ (Xm _ (xX hb e)))).2.1
   refine Y1 (WM (hc _ s6 p H6 _ I6 q6) (λb I ⟨B,G,q7⟩=>?_) λ_ _ z=>hx z);cases b with
   | false =>
    rw[bq XJ]at q7;exact XR ⟨rfl,O6 G q7⟩
   | true =>
    rw[bw rfl]at q7;refine Y1 (Y1 (WM (he _ I p B _ G q7) (λy s8 ⟨v8,H8,I8,r8,ys,ag,M,q8⟩=>?_) λ_ _ z=>hx z));refine Y1 (WM (zbP (X:=Y) _ s8 p H8 (.ref D) [v8] (.ref D) [y] (λ_ H9=>N' p H9) I8 rfl (.cons r8 .nil) (eB _ ys v8 rfl rfl ag M q8)) (λ_ s9 ⟨v9,H9,I9,_,q9⟩=>?_) λ_ _ z=>hx z);exact XR (XR ⟨rfl,O6 I9 q9⟩)
 exact Pp v (T.self _ 0 _ _ _ N v)
abbrev cY (X:Cx)(N:AD)(scope:Ve)(cl:List (Str×Addr))(C:Addr)(fp:List Addr)(bz:List (Addr×Obj))(s:X8)(H:Hp)(fn:Str->Bool)(xe:X9->X8->Prop):Cx:={ qI X N scope cl C fp bz s H with fn:=fn,xe:=xe }
def zoU(X:Cx)(N:AD)(scope:Ve)(d:List (Addr×Obj))(l:St)(use:Option (X9->Sem Unit))(R:X9->X8->Prop)(Q:VK):Prop:=∀{cl h a c C g i f j k e},C=a.heap.objs.size+1->Inv X d l c a->(∀b∈h,QC X d c b)->Inv (cY X N scope cl C h d a c j k) [] e g i->Q (.ref a.heap.objs.size) g->compPost (Xv X.prog X.w) X.A X.xe use R (.ref a.heap.objs.size) C (.ok f) i
def zmn:zoU X N scope e h none (EP X e h Q) Q:=by
 intro cl k q u C i r f v w s n j c a p;obtain⟨m,o,_⟩:=a.loc;refine⟨m,o,λl g=>⟨.ref q.heap.objs.size,i,?_,rfl,p⟩⟩;exact j.call' (s':={ r with heap:=l }) (ch:=k) a.os (Un.but a.base (by rw[n];exact Wb _) g) (HOk.but a.hok a.free g) a.bare λb d=>⟨(c b d).2.2.2.1,(c b d).2.1,(c b d).2.2.2.2.1,(c b d).2.2.2.2.2⟩
def zde{B:St}{a:X8}{C:Addr}(D:C=a.heap.objs.size+1)(l:X.calm=true)
  (hx:∀{x s},m x s->notedBy (Xv X.prog X.w) X.A (Th scope cl C X.env) (λx s=>R (.error x) s) x s) (O:PG (cY X N scope cl C fp j a i n m) tg g) (M:zaE (cY X N scope cl C fp j a i n m) ifs tc) (he:PE (cY X N scope cl C fp j a i n m) elt te) (L:Inv X j B i a) (T:Turn X.prog X.w X.K tg J fp it tn) (r:tn 0 a.heap) (q:∀b∈fp,QC X j i b)
  (q2:xF J g tc te Q a.heap.objs.size v (upd i a.heap.objs.size (.lst []))) (k:∀b u,a.heap.get? b=some u->h.get? b=some u) (own:∀x c,cl.lookup x=some c->X.env.cells.lookup x=some c\/C<=c)
  (I:(∀b∈fp,∃o,a.heap.get? b=some o)->Inv (cY X N scope cl C fp j a i n m) [] v (upd i a.heap.objs.size (.lst [])) { a with heap:=h,toks:=tk }) (fin:∀f B H G,Inv (cY X N scope cl C fp j a i n m) [] B H G->Q (.ref a.heap.objs.size) H->R (.ok f) G) :
  Uo (Xv X.prog X.w) X.A (.compStart (.ListComp elt [⟨tg,iter,ifs,0⟩] scope pos) 0 (.ref it) (.ref a.heap.objs.size) (Th scope cl C X.env)) R { a with heap:=h,toks:=tk }:=by
 have E:∀b∈fp,∃o,a.heap.get? b=some o:=λb d=>let ⟨o,e,_⟩:=T.obj 0 _ r b d;⟨o,e⟩
 have lt:∀b∈fp,b<a.heap.objs.size:=λb d=>let ⟨_,e⟩:=E b d;XA e
 refine zk5 (Y:=cY X N scope cl C fp j a i n m) l hx T O M he q2 (λ{H'} U b d=>(eF (U b d) ?_ (λz=>(XG.mp (L.stkSub b z)).elim (q b d).2.1 (q b d).2.2.1) (.inl d) (λx c z=>?_) (λp hp=>?_))) (I E) (T.keep 0 _ _ r λb _ o e=>k b o e) (λb d=>?_) fin
 .show b≠C;rw[D];exact Xi (WC (lt b d))
 .rcases own x c z with z | z
  .exact(q b d).2.2.2.2.1 x c z
  .rw[D]at z;exact T7 (Xq (WC (lt b d)) z)
 .have y:p∈X.pn++j:=by
   have:p∈(X.pn++j)++[]:=hp;simpa using this
  exact(q b d).2.2.2.2.2 p y
 .rw[zq (Xi (lt b d))];exact(q b d).1
def zmo{h:Heap}(d:Wg (h.push { cls:=.type "list",dict:=none,data:=.seq ([]:List X9).toArray }).objs.size ((h.push { cls:=.type "list",dict:=none,data:=.seq ([]:List X9).toArray }).push { cls:=.type "dict",data:=.dict #[] }) a):(h.push { cls:=.type "list",dict:=none,data:=.seq ([]:List X9).toArray }).objs.size=h.objs.size+1/\(∀b u,h.get? b=some u->a.get? b=some u)/\a.get? h.objs.size=some { cls:=.type "list",data:=.seq #[] }:=by
 generalize hP:h.push { cls:=.type "list",dict:=none,data:=.seq ([]:List X9).toArray }=P2 at d ⊢;have c:P2.objs.size=h.objs.size+1:=by rw[<- hP,U6]
 exact⟨c,λb u e=>(d.2 b (by rw[c];exact Xi (WC (XA e)))).trans (XY _ (hP ▸ XY _ e)),(d.2 _ (by rw[c];exact(Vj _).symm)).trans (XY _ (hP ▸ Xg _ rfl))⟩
section
variable {bz:List (Addr×Obj)}{σ:St}{H:Hp}{s:X8}{use:Option (X9->Sem Unit)}{R:X9->X8->Prop}{Q:VK}{p2:Pos}
def zgU(ok:yd X N src scope cl)(d:X.calm=true)(r:PI X tg iter wi)
  (q:∀C fp bz s H,PG (qI X N scope cl C fp bz s H) tg g) (p:∀C fp bz s H,zaE (qI X N scope cl C fp bz s H) ifs tc) (he:∀C fp bz s H,PE (qI X N scope cl C fp bz s H) elt te)
  (v:∀x,Wj iter X.env x=pure x) (I:Inv X bz σ H s) (h:QI wi src g tc te σ H Q) (fin:zoU X N scope bz σ use R Q):Xw (Xv X.prog X.w) X.A (Sl (.ListComp elt [⟨tg,iter,ifs,0⟩] scope pos) scope X.env p2 (newList []) false (eval iter X.env) use) R X.xe s:=by
 refine S9 (use:=use) rfl v ok.clos ok.kind ok.names (thn (r bz s σ H _ I h) λY s1 h1=>thn h1 λD O h2=>?_);revert h2;refine gp λM fp U J L e f T l i E=>?_;subst e;refine VR (Sc ok.nocell (by intro y B;simp at B) (λm a b=>?_) ok.kind);dsimp only at a b ⊢;obtain⟨j,k,o⟩:=zmo b;exact zde j d (λz=>z.elim) (q _ _ _ _ _) (p _ _ _ _ _) (he _ _ _ _ _) f T l i (E _ (f.hok.fresh (XQ _))) k (λx c z=>.inl (ok.sub x c z)) (λu=>zaF ok f i u j k o a) λ_ _ _ _ n G=>fin j f i n G
end
def zoV(ok:yd X N src scope cl)(a:X.calm=true)(e:PI X tg iter wi)
  (d:∀C fp b s H,PG (qI X N scope cl C fp b s H) tg g) (c:∀C fp b s H,zaE (qI X N scope cl C fp b s H) ifs tc) (he:∀C fp b s H,PE (qI X N scope cl C fp b s H) elt te)
  (f:∀x,Wj iter X.env x=pure x:=by intro _;rfl):PE X (.ListComp elt [⟨tg,iter,ifs,0⟩] scope pos) (QI wi src g tc te):=λ_ _ _ _ _ I h=>zgU ok a e d c he f I h zmn
end
section
variable {K:X4}{src:List (Option Nat)}{g:TG}{tc:TT}{te:TE}{Q:VK}{σ:St}{H:Hp}{D:Addr}
def qj(Pv:Nat->St->Hp->Prop)(h0:Pv 0 σ H)(o:∀i σ H,i<=xs.length->Pv i σ H->SqL K H a xs)
  (r:∀i x σ H,xs[i]?=some x->Pv i σ H->g x σ H fun c k=>tc c k λb f=>if b=true then te c f λy h=>∃ys,h D=some (.lst ys)/\ys.length<Xz/\Pv (i+1) c (upd h D (.lst (ys++[y]))) else Pv (i+1) c f)
  (l:∀ σ H,Pv xs.length σ H->Q (.ref D) H):xF (Itl K a) g tc te Q D σ H:=by
 refine⟨λi m σ H=>m=xs.length-i/\i<=xs.length/\Pv i σ H,⟨xs.length,"s",W2 _,h0⟩,?_⟩;rintro i m σ H ⟨rfl,n,p⟩;have q:=o i σ H n p;by_cases d:i<xs.length
 .refine .inr (fy ⟨xs,xs[i],q,by simp[d]⟩ (Pv (i+1)) (fun u j s=>⟨xs.length-(i+1),"a",rfl,d,s⟩) (λx j y=>?_));obtain⟨e,y⟩:=y;subst e;exact r i x σ _ (y xs q) p
 .have e:i=xs.length:="a"
  subst e;exact .inl ⟨⟨xs,q,XQ _⟩,l σ H p⟩
def ziE{lo:Int}(Pv:Nat->St->Hp->Prop)(h0:Pv 0 σ H)
  (l:∀i σ H,i<n->Pv i σ H->g (.int (lo+i)) σ H fun a j=>tc a j λb d=>if b=true then te a d λy f=>∃ys,f D=some (.lst ys)/\ys.length<Xz/\Pv (i+1) a (upd f D (.lst (ys++[y]))) else Pv (i+1) a d)
  (k:∀ σ H,Pv n σ H->Q (.ref D) H):xF (Itr lo n) g tc te Q D σ H:=by
 refine⟨λi m σ H=>m=n-i/\i<=n/\Pv i σ H,⟨n,"s",W2 _,h0⟩,?_⟩;rintro i m σ H ⟨rfl,r,p⟩;by_cases c:i<n
 .refine .inr (fy c (Pv (i+1)) (fun q h o=>⟨n-(i+1),"a",rfl,c,o⟩) (λx h y=>?_));obtain⟨e,y⟩:=y;subst e y;exact l i σ _ c p
 .have e:i=n:="a"
  subst e;exact .inl ⟨XQ _,k σ H p⟩
end
theorem za4{K:X4}:∀rs:AD,xY K H (rs.map V.str) (rs.map V1)
 | []=>.nil
 | t::r=>.cons (.str t) (za4 r)
section
variable {X:Cx}{K:X4}
def zbQ(d:X.K=K)(e:PE X a c)(he:∀whole,isTrue a X.env whole=(do let v <- whole;standAt a.pos;holding [v] (truthy v))) :
  PT X a (fun f H Q=>c f H λx b=>∃k,zrb K x b k/\Q k b):=by
 subst d;exact za2 e he
def zoW(a:X.K=K):IxR X (zsU K):=by
 subst a;exact jS
def QJ(a:X.K=K)(b:X.A.units+64<VE):OpR X (Wi .Eq) (zoS K false):=by
 subst a;exact yS b
def zgV(a:X.K=K)(b:X.A.units+64<VE):OpR X (Wi .NotEq) (zoS K true):=by
 subst a;exact jT b
def jC(a:X.K=K)(b:X.A.units+64<VE):OpR X (Wi .In) (zoT K false):=by
 subst a;exact zdd b
def Zo(a:X.K=K)(b:X.A.units+64<VE):OpR X (Wi .NotIn) (zoT K true):=by
 subst a;exact zar b
def zcV{k:Nat}{pos:Pos}(c:X.K=K)(d:X.calm=true)(h:PGs X a t)
  (e:(S2 a X.env).length=n:=by rfl) (b:(S2 a X.env).findIdx? (·.1)=none:=by rfl):PG X (.Tuple a k pos) (zsK K n t):=by
 subst c;exact JH d h e b
end
section
variable {fs ch:List Addr}{H:Hp}{h h':Heap}{a:Addr}{o:HO}
def Un.laidX(k:∀b u,b ∉ ch->h.get? b=some u->h'.get? b=some u)(hp:h.objs.size<=a)(hn:H a=none):Un fs ch H (upd H a o) h h' where
 keep:=λb u q _ _ hx=>k b u hx q
 slot:=λb u q _ _ hx=>⟨u.slots,k b u hx q⟩
 free:=λb u q n _=>by rw[zq (Xi (Xq (XA q) hp))];exact n
 there:=λb u q hx=>⟨u,k b u hx q⟩
 tups:=λb xs q=>by rw[zq (zj q hn)];exact q
 frzs:=λb u xs q=>by rw[zq (zj q hn)];exact q
 tbls:=λb ps q=>⟨#[],by rw[zq (zj q hn),q];simp⟩
def Un.keptX(k:∀b u,b ∉ ch->h.get? b=some u->h'.get? b=some u):Un fs ch H H h h' :=
 ⟨λb ob q _ _ a=>k b ob a q,λb ob q _ _ a=>⟨ob.slots,k b ob a q⟩,λ_ _ _ n _=>n,λb ob q a=>⟨ob,k b ob a q⟩,λ_ _ q=>q,λ_ _ _ q=>q,λ_ c q=>⟨#[],by rw[q];simp⟩⟩
def HOk.keptX(x:HOk P w H h)(k:∀b u,b ∉ ch->h.get? b=some u->h'.get? b=some u)(a:∀b∈ch,H b=none):HOk P w H h':=λb u e=>by
 refine(x b u e).stay (λc v hc q=>k c v (λz=>?_) q) (λ_ q=>q) λ_ _ q=>q;have n:=a c z;rcases hc with rfl | hc
 .rw[n]at e;cases e
 .rw[n]at hc;cases hc
def HOk.laidX(x:HOk P w H h)(k:∀b u,b ∉ ch->h.get? b=some u->h'.get? b=some u)(d:∀b∈ch,H b=none)(j:h.objs.size<=a)(f:ji P w (upd H a o) h' a o):HOk P w (upd H a o) h':=λb u e=>by
 have i:=x.fresh j;by_cases g:b=a
 .subst g;rw[zb]at e;cases e;exact f
 .rw[zq g]at e;refine(x b u e).stay (λc v hc q=>k c v (λz=>?_) q) (λc q=>by rw[zq (zj q i)];exact q) λc l q=>by rw[zq (zj q i)];exact q
  have n:=d c z;rcases hc with rfl | hc
  .rw[n]at e;cases e
  .rw[n]at hc;cases hc
end
section
variable {X:Cx}{bz:List (Addr×Obj)}{s:X8}{σ:St}{H:Hp}{E:X9->X8->Prop}{fp wr FP:List Addr}{elts:List Expr}{k:Nat}{pos:Pos}{e:Addr}{n i:Nat}{Pt:Nat->Array X9->Prop}{Sn:Nat->Heap->Prop}{Mid:Nat->Addr->Heap->Prop}{J:It}{tn:Nat->Heap->Prop}
def ziF(I:Inv X bz σ H s)(G:∀b∈fp,QC X bz H b)(ho:∀b∈fp,∃o,s.heap.get? b=some o)(p:∀b∈wr,b∈fp)(W:WalksT X.prog X.w X.A e FP wr n Pt Sn Mid)(hi:i<n)(st:Sn i s.heap)
  (y:∀T a,H T=none->Pt i a->∃vs,Vals vs a.toList/\vs.length<=Xz/\J.yld i H (.ref T) (upd H T (.tup vs))) (nx:∀g,Sn (i+1) g->tn (i+1) g) :
  Xw (Xv X.prog X.w) X.A (RO (.ref e)) (λr s1=>∃u,r=some u /\
   Xw (Xv X.prog X.w) X.A (R7 (.Tuple elts k pos) (.ref e) u) (λ_ O=>∃x z,Inv X bz σ z O/\RelV x u/\J.yld i H x z/\tn (i+1) O.heap/\∀b∈fp,z b=none) E s1) E s:=by
 refine W.item i s _ E hi st λT a U Q hP h Y L kk=>⟨.ref T,rfl,?_⟩;have M:H T=none:=I.hok.fresh h;refine fT (λvs hv hl hy=>?_) (y T a M hP);refine W.go elts k pos i T { s with heap:=U,toks:=Q } _ E L λg v q=>?_;have N:∀b o,b ∉ wr->s.heap.get? b=some o->g.get? b=some o:=λb o j e=>q b o j (kk b o j e);have l:NO g T a:=by
  obtain⟨o,B,c,m,d⟩:=Y;exact⟨o,q T o (W.apart i T _ L) B,c,m,d⟩
 have D:∀b∈wr,H b=none:=λb j=>(G b (p b j)).1;refine eX (.ref T) (upd H T (.tup vs)) ?_ rfl hy (nx _ v) (λb j=>?_)
 .exact I.call' (s':={ s with heap:=g,toks:=Q }) (ch:=wr) rfl (Un.laidX N h M) (HOk.laidX I.hok N D h ⟨hl,a.toList,hv,↑l⟩) I.bare λb j=>let f:=G b (p b j);⟨f.2.2.2.1,f.2.1,f.2.2.2.2.1,f.2.2.2.2.2⟩
 .obtain⟨o,B⟩:=ho b j;rw[zq (Xi (Xq (XA B) h))];exact(G b j).1
def ziG(I:Inv X bz σ H s)(d:∀b∈fp,QC X bz H b)(a:∀b∈wr,b∈fp)(W:WalksT X.prog X.w X.A e FP wr n Pt Sn Mid)(st:Sn n s.heap) :
  Xw (Xv X.prog X.w) X.A (RO (.ref e)) (λr s1=>r=none/\Inv X bz σ H s1) E s :=
 W.done s _ E st λh i g=>⟨rfl,I.call' (s':={ s with heap:=h,toks:=i }) (ch:=wr) rfl (Un.keptX g) (HOk.keptX I.hok g λb c=>(d b (a b c)).1) I.bare λb c=>let f:=d b (a b c);⟨f.2.2.2.1,f.2.1,f.2.2.2.2.1,f.2.2.2.2.2⟩⟩
end
def Zp{h:Heap}(e:h.get? b=some o)(d:o.data=.fields vs):∃o,h.get? b=some o/\∀v,o.data ≠ .cell v:=⟨o,e,λv z=>by rw[d]at z;cases z⟩
def Ite(K:X4)(l:Addr):It:=⟨λi H=>∃a,SqL K H l a/\i<a.length,λi H x b=>∃T,x=.ref T/\H T=none/\∀a,SqL K H l a->∃v,a[i]?=some v/\b=upd H T (.tup [.int i,v]),λi H=>∃a,SqL K H l a/\i=a.length⟩
def zk6{K:X4}(e it l)(hei:e≠it)(hle:l≠e)(hli:l≠it) :
  Turn P w K (.Tuple elts k pos) (Ite K l) [e,it] e (λi h=>(∃old,IsEnum h e it i old)/\h.IsListIter it l i) where
 mem:="s"
 obj:=λi h st b hb=>by
  obtain⟨⟨old,he⟩,o,e2,c,d⟩:=st;rcases XG.mp hb with rfl | hb
  .exact Zp he rfl
  .have z:b=it:=by simpa using hb
   subst z;exact Zp e2 d
 keep:=λi h h' st kk=>by
  obtain⟨⟨old,he⟩,o,e2,r⟩:=st;exact⟨⟨old,kk e "s" _ he⟩,o,kk it "s" o e2,r⟩
 item:=by
  intro X hP hw hK hc i bz s σ H E I hf st hg;subst hP hw hK;obtain⟨xs,hq,hlt⟩:=hg;refine fT (λits rv p hz=>?_) (I.list hq);have hl:=rv.length;obtain⟨⟨old,he⟩,o2,e2,c2,d2⟩:=id st;refine ziF (wr:=[e,it]) (J:=Ite X.K l) (tn:=λi h=>(∃old,IsEnum h e it i old)/\h.IsListIter it l i) I hf (λb hb=>?_) (λb hb=>hb) (WalksT.enumerate (I.ok.hd hc) e it l hei hle hli its.toArray) (by simp;lia) ⟨st.1,st.2,p.isList⟩ (λT vals hn hp=>?_) λh'' q=>⟨q.1,q.2.1⟩
  .rcases XG.mp hb with rfl | hb
   .exact⟨_,he⟩
   .have z:b=it:=by simpa using hb
    subst z;exact⟨_,e2⟩
  .obtain⟨t,x,hx,rfl⟩:=hp;have hx':its[i]?=some x:=by simpa using hx
   obtain⟨u,hu,ru⟩:=rv.get (i:=i) (x:=xs[i]) (by rw[X0 hlt]);rw[hu]at hx';cases hx';exact dX [.int i,xs[i]] (.cons ⟨t,rfl⟩ (.cons ru .nil)) (by show 2<=Xz;decide) (dX T rfl hn (λys hy=>⟨xs[i],by rw[I.list_inj hy hq,X0 hlt],rfl⟩))
 done:=by
  intro X hP hw hK hc i bz s σ H E I hf st hg;subst hP hw hK;obtain⟨xs,hq,rfl⟩:=hg;obtain⟨its,rv,p,hz⟩:=I.list hq;have hl:its.toArray.size=xs.length:=by simp[rv.length]
  refine ziG (fp:=[e,it]) (wr:=[e,it]) I hf (λb hb=>hb) (WalksT.enumerate (I.ok.hd hc) e it l hei hle hli its.toArray) ?_;rw[hl];exact⟨st.1,st.2,p.isList⟩
 self:=λA i s Q E st h=>by
  obtain⟨⟨old,he⟩,_⟩:=st;exact SN he h
def zoX(x:Str):It:=⟨λi _=>i<x.cps.size,λi H v a=>∃T c,v=.ref T/\H T=none/\x.cps[i]?=some c/\a=upd H T (.tup [.int i,.str ⟨#[c]⟩]),λi _=>i=x.cps.size⟩
def zdf{K:X4}(e it)(x)(t)(n)(hei:e≠it)
  (D:∀A:WZ,A.handled=none->Draws P w A it [it] x.cps.size (λi v=>∃c u,x.cps[i]?=some c/\v=.str ⟨#[c]⟩ u) (λi h=>h.IsStrIter it n x t i)) :
  Turn P w K (.Tuple elts k pos) (zoX x) [e,it] e (λi h=>(∃old,IsEnum h e it i old)/\h.IsStrIter it n x t i) where
 mem:="s"
 obj:=λi h st b hb=>by
  obtain⟨⟨old,he⟩,o,e2,c,d⟩:=st;rcases XG.mp hb with rfl | hb
  .exact Zp he rfl
  .have z:b=it:=by simpa using hb
   subst z;exact Zp e2 d
 keep:=λi h h' st kk=>by
  obtain⟨⟨old,he⟩,o,e2,r⟩:=st;exact⟨⟨old,kk e "s" _ he⟩,o,kk it "s" o e2,r⟩
 item:=by
  intro X hP hw hK hc i bz s σ H E I hf st hg;subst hP hw hK;obtain⟨⟨old,he⟩,o2,e2,c2,d2⟩:=id st;refine ziF (wr:=[e,it]) (J:=zoX x) (tn:=λi h=>(∃old,IsEnum h e it i old)/\h.IsStrIter it n x t i) I hf (λb hb=>?_) (λb hb=>hb) (WalksT.enumerateD (D X.A.in1 (I.ok.hd hc)) e hei ↑hei "s") hg st (λT vals hn hp=>?_) λh'' q=>q
  .rcases XG.mp hb with rfl | hb
   .exact⟨_,he⟩
   .have z:b=it:=by simpa using hb
    subst z;exact⟨_,e2⟩
  .obtain⟨t',v,⟨c,u,hx,rfl⟩,rfl⟩:=hp;exact fB [.int i,.str ⟨#[c]⟩] (.cons ⟨t',rfl⟩ (.cons ⟨u,rfl⟩ .nil)) (by show 2<=Xz;decide) T c rfl hn hx rfl
 done:=by
  intro X hP hw hK hc i bz s σ H E I hf st hg;subst hP hw hK;have z:i=x.cps.size:=hg;subst z;exact ziG (fp:=[e,it]) (wr:=[e,it]) I hf (λb hb=>hb) (WalksT.enumerateD (D X.A.in1 (I.ok.hd hc)) e hei ↑hei "s") st
 self:=λA i s Q E st h=>by
  obtain⟨⟨old,he⟩,_⟩:=st;exact SN he h
def Itz(K:X4)(l1 l2:Addr):It:=⟨λi H=>∃a b,SqL K H l1 a/\SqL K H l2 b/\i<a.length/\i<b.length,
 λi H x d=>∃T,x=.ref T/\H T=none/\∀a b,SqL K H l1 a->SqL K H l2 b->∃v c,a[i]?=some v/\b[i]?=some c/\d=upd H T (.tup [v,c]),λi H=>∃a b,SqL K H l1 a/\SqL K H l2 b/\i=min a.length b.length⟩
def zmp{K:X4}(z TI TO i1 i2 l1 l2)(D:ZipApart z TI TO i1 i2 l1 l2) :
  Turn P w K (.Tuple elts k pos) (Itz K l1 l2) [z,TI,TO,i1,i2] z (λi h=>IsZip h z TI TO .none/\IsPair h TI (.ref i1) (.ref i2)/\(∃a b,IsPair h TO a b)/\h.IsListIter i1 l1 i/\h.IsListIter i2 l2 i) where
 mem:="s"
 obj:=λi h st b hb=>by
  obtain⟨hz,hTI,⟨a,b',hTO⟩,⟨o1,e1,c1,d1⟩,⟨o2,e2,c2,d2⟩⟩:=st;simp only[XG,Vx,or_false]at hb;rcases hb with rfl | rfl | rfl | rfl | rfl
  .exact Zp hz rfl
  .exact⟨_,hTI,λv q=>by cases q⟩
  .exact⟨_,hTO,λv q=>by cases q⟩
  .exact Zp e1 d1
  .exact Zp e2 d2
 keep:=λi h h' st kk=>by
  obtain⟨hz,hTI,⟨a,b',hTO⟩,⟨o1,e1,r1⟩,⟨o2,e2,r2⟩⟩:=st;exact⟨kk z "s" _ hz,kk TI "s" _ hTI,⟨a,b',kk TO "s" _ hTO⟩,⟨o1,kk i1 "s" _ e1,r1⟩,⟨o2,kk i2 "s" _ e2,r2⟩⟩
 item:=by
  intro X hP hw hK hc i bz s σ H E I hf st hg;subst hP hw hK;revert hg;refine fQ λxs ys hq1 hq2 hlt1 hlt2=>?_;refine fT (λits1 rv1 p1 hz1=>?_) (I.list hq1);refine fT (λits2 rv2 p2 hz2=>?_) (I.list hq2);have g1:=rv1.length;have g2:=rv2.length;obtain⟨hz,hTI,⟨a,b',hTO⟩,⟨o1,e1,r1⟩,⟨o2,e2,r2⟩⟩:=id st;refine ziF (wr:=[z,TO,i1,i2]) (J:=Itz X.K l1 l2) (tn:=λi h=>IsZip h z TI TO .none/\IsPair h TI (.ref i1) (.ref i2)/\(∃a b,IsPair h TO a b)/\h.IsListIter i1 l1 i/\h.IsListIter i2 l2 i) I hf (λb hb=>?_) (λb hb=>?_) (WalksT.zip2 (I.ok.hd hc) z TI TO i1 i2 l1 l2 D its1.toArray its2.toArray) (by simp;lia) (fD st.1 st.2.1 st.2.2.1 st.2.2.2.1 st.2.2.2.2 p1.isList p2.isList) (λT vals hn hp=>?_) λh'' q=>⟨q.1,q.2.1,q.2.2.1,q.2.2.2.1,q.2.2.2.2.1⟩
  .simp only[XG,Vx,or_false]at hb;rcases hb with rfl | rfl | rfl | rfl | rfl
   .exact⟨_,hz⟩
   .exact⟨_,hTI⟩
   .exact⟨_,hTO⟩
   .exact⟨_,e1⟩
   .exact⟨_,e2⟩
  .simp only[XG,Vx,or_false]at hb ⊢;rcases hb with rfl | rfl | rfl | rfl<;>simp
  .obtain⟨x,y,hx,hy,rfl⟩:=hp;have hx':its1[i]?=some x:=by simpa using hx
   have hy':its2[i]?=some y:=by simpa using hy
   obtain⟨u,hu,ru⟩:=rv1.get (i:=i) (x:=xs[i]) (by rw[X0 hlt1]);obtain⟨u',hu',ru'⟩:=rv2.get (i:=i) (x:=ys[i]) (by rw[X0 hlt2]);rw[hu]at hx';rw[hu']at hy';cases hx';cases hy';exact dX [xs[i],ys[i]] (.cons ru (.cons ru' .nil)) (by show 2<=Xz;decide) (dX T rfl hn (λxs' ys' h1 h2=>⟨xs[i],ys[i],by rw[I.list_inj h1 hq1,X0 hlt1],by rw[I.list_inj h2 hq2,X0 hlt2],rfl⟩))
 done:=by
  intro X hP hw hK hc i bz s σ H E I hf st hg;subst hP hw hK;obtain⟨xs,ys,hq1,hq2,rfl⟩:=hg;obtain⟨its1,rv1,p1,hz1⟩:=I.list hq1;obtain⟨its2,rv2,p2,hz2⟩:=I.list hq2;have g1:min its1.toArray.size its2.toArray.size=min xs.length ys.length:=by simp[rv1.length,rv2.length]
  refine ziG (fp:=[z,TI,TO,i1,i2]) (wr:=[z,TO,i1,i2]) I hf (λb hb=>?_) (WalksT.zip2 (I.ok.hd hc) z TI TO i1 i2 l1 l2 D its1.toArray its2.toArray) ?_
  .simp only[XG,Vx,or_false]at hb ⊢;rcases hb with rfl | rfl | rfl | rfl<;>simp
  .rw[g1];exact fD st.1 st.2.1 st.2.2.1 st.2.2.2.1 st.2.2.2.2 p1.isList p2.isList
 self:=λA i s Q E st h=>wpAny_pyIter_zip st.1 h
section
variable {X:Cx}{elts:List Expr}{k:Nat}{tpos:Pos}
def zrj(K:X4)(b:TA):TI:=fun e H R=>b e H λc a=>∃l,c=[.ref l]/\(∃d,SqL K a l d)/\R (Ite K l) a
def JA(y:Gl X "enumerate")(z:X.mg "enumerate"=none)(x:PA X [a] o)(B:Xh [a] X.env=[(false,eval a X.env)]:=by rfl):PI X (.Tuple elts k tpos) (.Call (.Name "enumerate" p) [a] [] pos) (zrj X.K o):=by
 intro m s r H R I h;refine Call_ (QB I y z boot_enumerate (VP (thn (x pos m s r H _ I h) λT s1 ⟨U,j,f,L,J⟩=>?_) B rfl));obtain⟨l,rfl,⟨Y,A⟩,q⟩:=J;obtain⟨u,rfl,M⟩:=vals1 L;cases M;obtain⟨E,Q,n,N⟩:=f.list A;obtain⟨O,i,_⟩:=n.isList;have d:=XA i;refine call_enumerate_list n.isList λw he g D G=>?_;have v:Inv X m r j { s1 with heap:=w }:=f.kept (t':=s1.toks) G;refine SN he ?_;refine eH (s1.heap.objs.size+1) [s1.heap.objs.size+1,s1.heap.objs.size] _ _ j rfl v (zk6 (s1.heap.objs.size+1) s1.heap.objs.size l (Vj _) (Xi (WC d)) (Xi d)) ⟨⟨_,he⟩,g⟩ (λb hb=>?_) q;have c:s1.heap.objs.size<=b:=by
  rcases XG.mp hb with e | hb
  .rw[e];exact Wb _
  .have e:b=s1.heap.objs.size:=by simpa using hb
   rw[e];exact XQ _
 exact f.fpOk c (f.hok.fresh c)
def zrk(b:TA):TI:=fun d H R=>b d H λc a=>∃z,c=[.str z]/\R (zoX z) a
def zgW(w:Gl X "enumerate")(x:X.mg "enumerate"=none)(i:PA X [a] o)(y:Xh [a] X.env=[(false,eval a X.env)]:=by rfl):PI X (.Tuple elts k tpos) (.Call (.Name "enumerate" p) [a] [] pos) (zrk o):=by
 intro l s r H R I h;refine Call_ (QB I w x boot_enumerate (VP (thn (i pos l s r H _ I h) λJ s1 ⟨L,g,j,G,E⟩=>?_) y rfl));obtain⟨z,rfl,q⟩:=E;obtain⟨u,rfl,t,rfl⟩:=vals1 G;refine call_enumerate_str λv he c B D=>?_;have n:Inv X l r g { s1 with heap:=v }:=j.kept (t':=s1.toks) D;refine SN he ?_;have d:∀b ∈ [s1.heap.objs.size+1,s1.heap.objs.size],QC X l g b:=λb hb=>by
  have f:s1.heap.objs.size<=b:=by
   rcases XG.mp hb with e | hb
   .rw[e];exact Wb _
   .have e:b=s1.heap.objs.size:=by simpa using hb
    rw[e];exact XQ _
  exact j.fpOk f (j.hok.fresh f)
 unfold strIterType at c;by_cases i:z.cps.all (· < 128)=true
 .rw[bw i]at c;exact eH (s1.heap.objs.size+1) [s1.heap.objs.size+1,s1.heap.objs.size] _ _ g rfl n (zdf (s1.heap.objs.size+1) s1.heap.objs.size z t "str_ascii_iterator" (Vj _) (λA m=>Draws.strAscii m _ z t)) ⟨⟨_,he⟩,c⟩ d q
 .rw[bq i]at c;exact eH (s1.heap.objs.size+1) [s1.heap.objs.size+1,s1.heap.objs.size] _ _ g rfl n (zdf (s1.heap.objs.size+1) s1.heap.objs.size z t "str_iterator" (Vj _) (λA m=>Draws.strWide m _ z t)) ⟨⟨_,he⟩,c⟩ d q
def zt6(K:X4)(b:TA):TI:=fun f H R=>b f H λc a=>∃l1 l2,c=[.ref l1,.ref l2]/\(∃d,SqL K a l1 d)/\(∃e,SqL K a l2 e)/\R (Itz K l1 l2) a
def zrl{p pos:Pos}(T:Gl X "zip")(U:X.mg "zip"=none)(Q:PA X [a,b] G)(Y:Xh [a,b] X.env=[(false,eval a X.env),(false,eval b X.env)]:=by rfl)(f:Xh [b] X.env=[(false,eval b X.env)]:=by rfl) :
  PI X (.Tuple elts k tpos) (.Call (.Name "zip" p) [a,b] [] pos) (zt6 X.K G):=by
 intro x s J H R I h;refine Call_ (QB I T U boot_zip (VP (thn (Q pos x s J H _ I h) λus s1 ⟨vs,w,d,r1,q1⟩=>?_) (by rw[Y,f]) (by rw[f];rfl)));obtain⟨l1,l2,rfl,⟨xs,o⟩,⟨ys,r⟩,q⟩:=q1;refine fS (λu u' z0 ru v=>?_) (vals2 r1);subst z0;cases ru;cases v;obtain⟨A,af,D,ab⟩:=d.list o;obtain⟨B,ag,E,ac⟩:=d.list r;obtain⟨o1,m,_⟩:=D.isList;obtain⟨o2,n,_⟩:=E.isList;have ae:@LT.lt Nat _ l1 s1.heap.objs.size:=XA m;have lt2:@LT.lt Nat _ l2 s1.heap.objs.size:=XA n;refine call_zip_2 D.isList E.isList λM z g i j l aa kk=>?_;have L:Inv X x J w { s1 with heap:=M }:=d.kept (t':=s1.toks) kk;refine wpAny_pyIter_zip z ?_;generalize O:s1.heap.objs.size=N at *
 have c:ZipApart (N+4) (N+2) (N+3) N (N+1) l1 l2:=by
  constructor<;>first
   | exact Xi "a"
   | exact T7 "a"
 refine eH (N+4) [N+4,N+2,N+3,N,N+1] _ _ w rfl L (zmp (N+4) (N+2) (N+3) N (N+1) l1 l2 c) ⟨z,g,⟨_,_,i⟩,j,l⟩ (λb y=>?_) q;have e:s1.heap.objs.size<=b:=by
  rw[O];simp only[XG,Vx,or_false]at y;rcases y with rfl | rfl | rfl | rfl | rfl<;>lia
 exact d.fpOk e (d.hok.fresh e)
def zfM:jG X (.type "int") (λxs H Q=>∃x n,xs=[.str x]/\OQ x=some n/\x.length<=640/\Q (.int n) H):=by
 intro c s e H xs d Q I r h;revert h;refine fQ λx n z0 b a q=>?_;subst z0;obtain⟨u,rfl,t,rfl⟩:=vals1 r;exact PySem.W.KIN.call_text b a ⟨.int n,H,I.tok _,⟨_,rfl⟩,q⟩
def zfN:jG X (.type "str") (λxs H Q=>∃x,xs=[.str x]/\Q (.str x) H):=by
 intro a s c H xs b Q I r h;obtain⟨x,rfl,q⟩:=h;obtain⟨u,rfl,t,rfl⟩:=vals1 r;exact PySem.P.str_of_str ⟨.str x,H,I,⟨_,rfl⟩,q⟩
end
def xZ{K:X4}{g:TG}{k:TS}{D:Ends}(Pv:Nat->St->Hp->Prop)(h0:Pv 0 a H)(s:∀i a H,i<=xs.length->Pv i a H->SqL K H l xs)
  (u:∀i x T a H,xs[i]?=some x->H T=none->Pv i a H->g (.ref T) a (upd H T (.tup [.int i,x])) fun d h=>k { D with nx:=Pv (i+1),ct:=Pv (i+1),bk:=D.nx } d h) (o:∀ a H,Pv xs.length a H->D.nx a H) :
  ∃W:Nat->Nat->St->Hp->Prop,(∃m,W 0 m a H)/\∀i m a H,W i m a H ->
   ((Ite K l).stop i H/\D.nx a H)\/((Ite K l).go i H/\∃N:St->Hp->Prop,(∀ c b,N c b->∃j,j<m/\W (i+1) j c b)/\∀x b,(Ite K l).yld i H x b->g x a b fun d h=>k { D with nx:=N,ct:=N,bk:=D.nx } d h):=by
 refine⟨λi m a H=>m=xs.length-i/\i<=xs.length/\Pv i a H,⟨xs.length,"s",W2 _,h0⟩,?_⟩;rintro i m a H ⟨rfl,r,p⟩;have q:=s i a H r p;by_cases f:i<xs.length
 .refine .inr ⟨⟨xs,q,f⟩,Pv (i+1),fun c b z=>⟨xs.length-(i+1),"a",rfl,f,z⟩,λx b y=>?_⟩;revert y;refine fT λT z0 n y=>?_;subst z0;obtain⟨v,w,rfl⟩:=y xs q;exact u i v T a H w n p
 .have e:i=xs.length:="a"
  subst e;exact .inl ⟨⟨xs,q,rfl⟩,o a H p⟩
def zdg(Pv:Nat->St->Hp->Prop)(h0:Pv 0 a H)
  (u:∀i c T a H,x.cps[i]?=some c->H T=none->Pv i a H->g (.ref T) a (upd H T (.tup [.int i,.str ⟨#[c]⟩])) fun d o=>k d o λb h=>if b=true then l d h λy j=>∃ys,j D=some (.lst ys)/\ys.length<Xz/\Pv (i+1) d (upd j D (.lst (ys++[y]))) else Pv (i+1) d h)
  (s:∀ a H,Pv x.cps.size a H->Q (.ref D) H):xF (zoX x) g k l Q D a H:=by
 refine⟨λi m a H=>m=x.cps.size-i/\i<=x.cps.size/\Pv i a H,⟨x.cps.size,"s",W2 _,h0⟩,?_⟩;rintro i m a H ⟨rfl,A,p⟩;by_cases f:i<x.cps.size
 .refine .inr (fy f (Pv (i+1)) (fun z n w=>⟨x.cps.size-(i+1),"a",rfl,f,w⟩) (λv n y=>?_));revert y;refine fQ λT c z0 q r z1=>?_;subst z0 z1;exact u i c T a H r q p
 .have e:i=x.cps.size:="a"
  subst e;exact .inl ⟨rfl,s a H p⟩
def za5(look:Str->Option Addr):List (Str×Sh)->List (Str×Addr)->List (Str×Addr)
 | [],a=>a
 | (n,k)::r,a=>if k == .free then (match look n with
  | some c=>za5 look r ((n,c)::a)
  | none=>za5 look r a) else za5 look r a
theorem QK:∀(b:List (Str×Sh)) (a:List (Str×Addr)) (p:Str×Addr),p∈za5 look b a->p∈a\/look p.1=some p.2
 | [],a,p,h=>.inl h
 | (n,k)::r,a,p,h=>by
  unfold za5 at h;split at h
  .cases e:look n with
   | none =>
    rw[e]at h;exact QK r a p h
   | some c =>
    rw[e]at h;rcases QK r _ p h with h | h
    .rcases XG.mp h with h | h
     .subst h;exact .inr e
     .exact .inl h
    .exact .inr h
  .exact QK r a p h
def Yh{a:List (Str×Addr)}(h:(a.lookup x).isSome=true\/x=n):(Rm x ((n,c)::a)).isSome=true:=by
 rw[Ss];cases e:x==n with
 | true=>rfl
 | false =>
  rcases h with h | h
  .exact h
  .subst h;simp at e
def zgX(a)(b)(h:(b.lookup x).isSome=true\/((x,NameKind.free)∈a/\(look x).isSome=true)):((za5 look a b).lookup x).isSome=true:=by
 induction a generalizing b with
 | nil =>
  rcases h with h | h
  .exact h
  .cases h.1
 | cons y r d =>
  obtain⟨n,k⟩:=y;unfold za5;split
  .rename_i hk;cases e:look n with
   | none =>
    refine d b ?_;rcases h with h | ⟨h,h2⟩
    .exact .inl h
    .rcases XG.mp h with h | h
     .cases h;rw[e]at h2;cases h2
     .exact .inr ⟨h,h2⟩
   | some c =>
    refine d _ ?_;rcases h with h | ⟨h,h2⟩
    .exact .inl (Yh (.inl h))
    .rcases XG.mp h with h | h
     .cases h;exact .inl (Yh (.inr rfl))
     .exact .inr ⟨h,h2⟩
  .rename_i hk;refine d b ?_;rcases h with h | ⟨h,h2⟩
   .exact .inl h
   .rcases XG.mp h with h | h
    .cases h;exact absurd rfl hk
    .exact .inr ⟨h,h2⟩
def Qu(h:∀y∈e.names,y.2=.free->(d.cells.lookup y.1).isSome=true):PB e d=pure (za5 (λx=>d.cells.lookup x) e.names []):=by
 have v:∀(b:List (Str×Sh)) (f:List (Str×Addr)),(∀y∈b,y.2=.free->(d.cells.lookup y.1).isSome=true) ->
   (forIn b f λx l=>(match x with
    | (g,j)=>if (j == .free)=true then do let a <- cellOf d g;pure (VY ((g,a)::l)) else pure (VY l):Sem (ForInStep (List (Str×Addr)))))=(pure (za5 (λx=>d.cells.lookup x) b f):Sem _):=by
  intro b;induction b with
  | nil=>intro f _;rfl
  | cons y r s =>
   intro f q;obtain⟨n,k⟩:=y;have p:∀y∈r,y.2=.free->(d.cells.lookup y.1).isSome=true:=λy z=>q y (XS _ z);rw[List.forIn_cons];unfold za5;by_cases hk:(k==NameKind.free)=true
   .have o:k=.free:=by simpa using hk
    have A:=q (n,k) XU o;obtain⟨c,w⟩:=VW.mp A;have i:Rm n d.cells=some c:=w;have u:cellOf d n=pure c:=by
     unfold cellOf;rw[i]
    simp only[hk,if_true,u,i,pure_bind];exact s _ p
   .simp only[hk,Wc,if_false,pure_bind];exact s _ p
 simp only[PB];exact Eq.trans (congrArg (λm:Sem (List (Str×Addr))=>m >>= λl=>pure l) (v e.names [] h)) rfl
def ZQ(h:(x,k)∈(Vc b a).names)(hk:k=.cell\/k=.free):(x,Tb)∈b.names\/(x,NameKind.free)∈b.names:=by
 obtain⟨y,g,e⟩:=XE.mp h;obtain⟨n,d⟩:=y;by_cases c:(d==NameKind.free&&a.scope.kind == .function&&a.kindOf n==some .cell)=true
 .have f:(if (d==NameKind.free&&a.scope.kind == .function&&a.kindOf n==some .cell)=true then (n,Tb) else (n,d))=(x,k):=e;rw[bw c]at f;cases f;have c1:d=.free:=by
   have:=(WN.mp (WN.mp c).1).1;simpa using this
  subst c1;exact .inr g
 .have f:(if (d==NameKind.free&&a.scope.kind == .function&&a.kindOf n==some .cell)=true then (n,Tb) else (n,d))=(x,k):=e;rw[bq c]at f;cases f;rcases hk with rfl | rfl
  .exact .inl g
  .exact .inr g
open PySem PySem.Spec PyProof.Rows PySem.W
section
variable {α β:Type}{R:α->β->Prop}{us us':List α}{cs cs':List β}{i:Nat}{v:α}{c:β}
def zbR(h:Xk R us cs)(k:Xk R us' cs'):Xk R (us++us') (cs++cs'):=by
 induction h with
 | nil=>exact k
 | cons q _ a=>exact .cons q a
def Qv(h:Xk R us cs)(e:us[i]?=some v):∃c,cs[i]?=some c/\R v c:=by
 induction h generalizing i with
 | nil=>cases e
 | cons q _ a =>
  cases i with
  | zero =>
   cases e;exact⟨_,rfl,q⟩
  | succ i=>exact a (i:=i) e
def zrm(h:Xk R us cs)(e:v∈us):∃c∈cs,R v c:=by
 induction h with
 | nil=>cases e
 | cons q _ a =>
  rcases XG.mp e with rfl | e
  .exact⟨_,XU,q⟩
  .obtain⟨c,h,r⟩:=a e;exact⟨c,XS _ h,r⟩
end
def xG(H:Hp):AE->List (Int×Int)->Prop:=Xk λv p=>∃a,v=V.ref a/\H a=some (.tup [.int p.1,.int p.2])
def lt2(p q:Int×Int):Bool:=if p.1=q.1 then decide (p.2<q.2) else decide (p.1<q.1)
structure zL (h:Heap)(v:X9)(p:Int×Int):Prop where
 ex:∃a o n t u,v=.ref a/\h.get? a=some o/\o.cls=.type "tuple"/\o.data=.seq #[.int p.1 t,.int p.2 u] n
section
variable {X:Cx}{bz:List (Addr×Obj)}{σ:St}{H:Hp}{s:X8}
def xG.pairs(I:Inv X bz σ H s)(i:xG H d ps)(r:Vals d b):Xk (zL s.heap) b ps:=by
 induction i generalizing b with
 | nil =>
  cases r;exact .nil
 | cons q _ j =>
  obtain⟨a,e,h⟩:=q;subst e;cases r with
  | cons k l =>
   cases k;refine .cons ?_ (j l);obtain⟨c,m,u,_⟩:=I.tuple (SqT.of h);obtain⟨u1,v,rfl,⟨o,rfl⟩,⟨p,rfl⟩⟩:=vals2 m;obtain⟨ob,g,c1,n,f⟩:=u;exact⟨a,ob,n,o,p,rfl,g,c1,f⟩
end
theorem YU(k:∀b o,h.get? b=some o->h'.get? b=some o):∀{c:List X9} {ps:List (Int×Int)},Xk (zL h) c ps->Xk (zL h') c ps
 | _,_,.nil=>.nil
 | _,_,.cons ⟨a,o,n,t,u,e,d,r⟩ f=>.cons ⟨a,o,n,t,u,e,k _ _ d,r⟩ (YU k f)
theorem YV:∀{b:List X9} {ps:List (Int×Int)},Xk (zL h) b ps->∃fs:List X9,KatTups h b fs/\fs.length=b.length/\∀v∈fs,∃x t,v=Vo x t
 | _,_,.nil=>⟨[],.nil,rfl,λ_ z=>nomatch z⟩
 | _,_,.cons ⟨a,o,n,t,u,e,f,c,d⟩ g=>by
  obtain⟨fs,k,l,q⟩:=YV g;subst e;refine⟨.int _ t::fs,KatTups.cons f c d rfl k,by simp[l],λv hv=>?_⟩;rcases XG.mp hv with rfl | hv
  .exact⟨_,t,rfl⟩
  .exact q v hv
section
variable {prog:Xu}{w:W9}{A:WZ}{E:X9->X8->Prop}{s:X8}
def zjZ(r:zL s.heap v p)(f:zL s.heap i q)(h:C (lt2 p q) s):Xw (Xv prog w) A (keyLt' (tuples' true) v i) C E s:=by
 obtain⟨a,o,n,t,u,rfl,l,c1,k⟩:=r;obtain⟨z,G,D,x,y,rfl,c,j,b⟩:=f;refine kat_lt l k c b ?_;show KatLex prog w A true _ C [(Vo p.1 t,Vo q.1 x),(Vo p.2 u,Vo q.2 y)] 0 s;unfold lt2 at h;refine kat_cons (SeqAt.EqAt.int_int _ _ _ _ prog w _ _ (kat_go (λd=>kat_yes ?_) λd=>kat_no ?_))
 .have e:p.1=q.1:=by simpa using d
  rw[bw e]at h;refine kat_cons (SeqAt.EqAt.int_int _ _ _ _ prog w _ _ (kat_go (λg=>kat_yes (kat_nil ?_)) λg=>kat_no ?_))
  .have B:p.2=q.2:=by simpa using g
   have m:decide (p.2<q.2)=false:=bf "a";rw[m]at h;exact h
  .exact kat_one _ _ (lt_int h)
 .have e:¬ p.1=q.1:=by simpa using d
  rw[bq e]at h;exact oneLt_int h
end
section
variable {X:Cx}
def zgY:zsM X (zsT X.K):=by
 intro f s A H x y v u Q I n o h;revert h;refine gk λp G i z z0 z1 m he q=>?_;subst z0 z1;cases n;obtain⟨t,rfl⟩:=o;obtain⟨b,r,e,E⟩:=I.list m;refine gy (λj h1 h2 B g k=>?_) (zcU he);obtain⟨w,d,c⟩:=r.get h2;have l:=r.length;have D:=QF;have fin:EP X f A Q w s:=⟨z,H,I,c,q⟩;by_cases h0:0<=i
 .have a:i.toNat=j:=by
   rw[O0 h0 k]at h1;exact Option.some.inj h1
  exact wpAny_getItem_list e.isList h0 "a" (by rw[a];simpa using d) fin
 .have a:(i+(b.toArray.size:Int)).toNat=j:=by
   rw[Px "a" g]at h1;rw[Xx,<- l];exact Option.some.inj h1
  exact Pr e.isList "a" (by rw[Xx]<;>lia) "a" (by rw[a];simpa using d) fin
theorem zgZ:∀{b:List Int} {a:List X9},Vals (b.map V.int) a->OB a b
 | [],_,r=>by cases r;exact .nil
 | n::b,_,r=>by
  cases r with
  | cons c d =>
   obtain⟨t,rfl⟩:=c;exact .cons n t (zgZ d)
def zg0(i:X.calm=true):jG X (.builtin "sum") (λxs H Q=>∃(l:Addr) (a:List Int),xs=[.ref l]/\SqL X.K H l (a.map V.int)/\Q (.int a.sum) H):=by
 intro o s z H xs y Q I r h;obtain⟨l,a,rfl,j,q⟩:=h;obtain⟨u,rfl,m⟩:=vals1 r;cases m;obtain⟨b,n,k,v⟩:=I.list j;have e:OB b a:=zgZ n;obtain⟨c,d⟩:=e.allInts.items;refine sum_intListG (I.ok.hd i) (xs:=c) (d ▸ k.isList) λp x w hk=>?_;have f:a=c.toList.map (·.1):=by
  rw[<- nums_intItems,<- d];exact(show numsOf b.toArray.toList=a from e.numsOf).symm
 have g:preSum (numAt c) c.size=a.sum:=by
  rw[f,preSum_eq,Wd "s"]
 rw[g];exact⟨.int _,H,I.kept hk,⟨_,rfl⟩,q⟩
def zk7{bs:List Bool}(r:Vals (bs.map V.bl) a){i:Nat}(e:a[i]?=some v):∃b,bs[i]?=some b/\v=.bool b:=by
 have d:=r.length;rw[ZB]at d;have c:i<bs.length:=by
  have:=(X6.mp e).1;lia
 obtain⟨u,f,g⟩:=r.get (i:=i) (x:=.bl bs[i]) (by rw[Xp,X0 c];rfl);rw[f]at e;cases e;exact⟨bs[i],X0 c,g⟩
def zdh(m:X.calm=true):jG X (.builtin "any") (λxs H Q=>∃(l:Addr) (bs:List Bool),xs=[.ref l]/\SqL X.K H l (bs.map V.bl)/\Q (.bl (bs.any id)) H):=by
 intro y s J H xs G Q I r h;obtain⟨l,bs,rfl,n,q⟩:=h;obtain⟨u,rfl,p⟩:=vals1 r;cases p;obtain⟨a,j,o,B⟩:=I.list n;have d:=o.isList;have f:l<s.heap.objs.size:=let ⟨_,he,_⟩:=d;XA he
 have c:=j.length;rw[ZB]at c;refine call_any_walk (SQ d ?_);refine fE s.heap.objs.size [s.heap.objs.size,l] [s.heap.objs.size] a.toArray.size _ _ (λi=>(bs[i]?).getD false) rfl (Walks.list (A:=X.A.in1) (I.ok.hd m) _ l (Xi f) a.toArray) ⟨⟨_,Xg _ rfl,rfl,rfl⟩,d.push _⟩ (λi v D x w hP g=>?_) (λz E hk=>?_)
 .obtain⟨b,k,rfl⟩:=zk7 j (i:=i) (v:=v) ↑hP;simp only[k,Tq]at g;exact VS g
 .have e:((VU a.toArray.size).any λi=>(bs[i]?).getD false)=bs.any id:=by
   rw[Xx,<- c];exact LSm.range_any bs
  rw[e];exact⟨.bl _,H,I.kept (LSm.kept_iter hk),rfl,q⟩
end
mutual
inductive Rdn (N:Addr->Prop)(H:Hp):V->Wh->Prop
 | non:Rdn N H .non .none
 | bl (b:Bool):Rdn N H (.bl b) (.bool b)
 | int (i:Int):Rdn N H (.int i) (.int i)
 | str (x:Str):Rdn N H (.str x) (.str x)
 | lst {a:Addr} {xs:AE} {ds:List Wh}:N a->H a=some (.lst xs)->zJ N H xs ds->Rdn N H (.ref a) (.list ds)
 | tup {a:Addr} {xs:AE} {ds:List Wh}:H a=some (.tup xs)->zJ N H xs ds->Rdn N H (.ref a) (.tuple ds)
inductive zJ (N:Addr->Prop)(H:Hp):AE->List Wh->Prop
 | nil:zJ N H [] []
 | cons {x:V} {d:Wh} {xs:AE} {ds:List Wh}:Rdn N H x d->zJ N H xs ds->zJ N H (x::xs) (d::ds)
end
section
variable {K:X4}{N N':Addr->Prop}{H H':Hp}
def Rdn.rdv(h:Rdn N H v d):Rdv K H v d :=
 Rdn.rec (motive_1:=λv d _=>Rdv K H v d) (motive_2:=λc b _=>xY K H c b) .non .bl .int .str (λ_ h _ t=>.lst (SqL.of h) t) (λh _ t=>.tup (SqT.of h) t) .nil (λ_ _ a t=>.cons a t) h
def zJ.rdv(h:zJ N H vs b):xY K H vs b :=
 zJ.rec (motive_1:=λv d _=>Rdv K H v d) (motive_2:=λvs b _=>xY K H vs b) .non .bl .int .str (λ_ h _ t=>.lst (SqL.of h) t) (λh _ t=>.tup (SqT.of h) t) .nil (λ_ _ a t=>.cons a t) h
def Rdn.mono(s:zx H H')(i:∀a,N a->N' a)(h:Rdn N H v d):Rdn N' H' v d :=
 Rdn.rec (motive_1:=λv d _=>Rdn N' H' v d) (motive_2:=λc b _=>zJ N' H' c b) .non .bl .int .str (λn h _ t=>.lst (i _ n) (s _ _ h) t) (λh _ t=>.tup (s _ _ h) t) .nil (λ_ _ a t=>.cons a t) h
def zJ.mono(s:zx H H')(i:∀a,N a->N' a)(h:zJ N H vs b):zJ N' H' vs b :=
 zJ.rec (motive_1:=λv d _=>Rdn N' H' v d) (motive_2:=λvs b _=>zJ N' H' vs b) .non .bl .int .str (λn h _ t=>.lst (i _ n) (s _ _ h) t) (λh _ t=>.tup (s _ _ h) t) .nil (λ_ _ a t=>.cons a t) h
def zJ.into(e:H D=some (.lst c))(i:∀a,N a->a≠D)(h:zJ N H vs b):zJ N (upd H D o) vs b :=
 zJ.rec (motive_1:=λv d _=>Rdn N (upd H D o) v d) (motive_2:=λvs b _=>zJ N (upd H D o) vs b) .non .bl .int .str (λn h _ t=>.lst n (by rw[zq (i _ n)];exact h) t) (λh _ t=>.tup (by rw[zq (zeQ h e (by intro z;cases z))];exact h) t) .nil (λ_ _ a t=>.cons a t) h
def Rdn.keep(s:zx H H')(h:Rdn N H v d):Rdn N H' v d:=h.mono s λ_ n=>n
def zJ.keep(s:zx H H')(h:zJ N H vs a):zJ N H' vs a:=h.mono s λ_ n=>n
def zJ.append(h:zJ N H vs b)(k:zJ N H d c):zJ N H (vs++d) (b++c) :=
 zJ.rec (motive_1:=λ_ _ _=>True) (motive_2:=λvs b _=>zJ N H (vs++d) (b++c))
  trivial (λ_=>trivial) (λ_=>trivial) (λ_=>trivial) (λ_ _ _ _=>trivial) (λ_ _ _=>trivial) k (λa _ _ t=>.cons a t) h
def zJ.snoc(h:zJ N H vs a)(k:Rdn N H v d):zJ N H (vs++[v]) (a++[d]):=h.append (.cons k .nil)
def zJ.paired(h:zJ N H vs b):Xk (Rdn N H) vs b :=
 zJ.rec (motive_1:=λ_ _ _=>True) (motive_2:=λvs b _=>Xk (Rdn N H) vs b)
  trivial (λ_=>trivial) (λ_=>trivial) (λ_=>trivial) (λ_ _ _ _=>trivial) (λ_ _ _=>trivial) .nil (λa _ _ t=>.cons a t) h
theorem zJ.length(h:zJ N H vs a):vs.length=a.length:=Paired.length h.paired
def zJ.get{i:Nat}(h:zJ N H vs a)(e:vs[i]?=some v):∃d,a[i]?=some d/\Rdn N H v d:=Qv h.paired e
end
section
variable {K:X4}{g:TG}{tc:TT}{te:TE}{Q:VK}{σ0:St}{H1:Hp}{D:Addr}
def zoY(N:Addr->Prop)(c:St->Prop)(H:Hp)(o:Option Wh)(Y:St->V->Hp->Prop):Prop:=∀d y a b,o=some d->c a->zx H b->Rdn N b y d->Y a y b
def zrn(b:St->Prop)(H:Hp)(o:Option Wh)(Z:St->Hp->Prop):Prop:=∀ a c,o=none->b a->zx H c->Z a c
def qE(N)(c:List (Option Wh))(h)(E:H1 D=none)(L:∀a,N a->a≠D)(h0:h σ0)(n:c.length=xs.length)(hz:xs.length<=100000)
  (T:SqL K H1 a xs)
  (U:∀(i:Nat) (x:V) (o:Option Wh) (k:St) (H:Hp),xs[i]?=some x->c[i]?=some o->zx H1 H->H D≠none->h k->∀Y Z,zoY N h H o Y->zrn h H o Z ->
   g x k H fun f J=>tc f J λb r=>if b=true then te f r λy B=>Y f y B else Z f r)
  (M:∀ys j,zx H1 j->j D=some (.lst ys)->zJ N j ys (c.filterMap id)->Q (.ref D) j):xF (Itl K a) g tc te Q D σ0 (upd H1 D (.lst [])):=by
 refine qj (K:=K) (a:=a) (xs:=xs) (λi k j=>h k/\zx H1 j/\∃ys,j D=some (.lst ys)/\ys.length<=i/\zJ N j ys ((c.take i).filterMap id)) ⟨h0,zc E,[],zb,XQ _,.nil⟩ (λi k j _ ⟨_,s,_⟩=>s.seq T) ?_ ?_
 .refine λi x k H I=>fX λO s=>fT λys m A p=>?_;have u:i<xs.length:=(X6.mp I).1;obtain⟨o,G⟩:∃o,c[i]?=some o:=⟨c[i]'"a",X0 "a"⟩;have step:(c.take (i+1)).filterMap id=(c.take i).filterMap id++o.toList:=by
   rw[XC,G,List.filterMap_append];cases o<;>rfl
  refine U i x o k H I G s (by rw[m];exact λz=>nomatch z) O _ _ (λd y f B e l q v=>?_) (fun f r e l w=>?_)
  .subst e;refine eu ys (q _ _ m) (XM A (Xq u (X5 hz "d"))) l (λb ob e=>?_) (dX (ys++[y]) zb ?_ ?_)
   .rw[zq (zj e E)];exact q _ _ (s _ _ e)
   .rw[XZ];exact ON A 1
   .rw[step];exact zJ.into (q _ _ m) L (zJ.snoc (p.keep q) v)
  .subst e;refine⟨l,s.trans w,ys,w _ _ m,TQ A,?_⟩;rw[step];simpa using p.keep w
 .rintro k H ⟨_,s,ys,m,_,p⟩;rw[<- n,XF]at p;exact M ys H s m p
def ziH(Pv:Nat->St->Hp->Prop)(h0:Pv 0 σ0 H)(s:∀i c H,i<=xs.length->Pv i c H->SqL K H a xs)
  (u:∀i x T c H,xs[i]?=some x->H T=none->Pv i c H->g (.ref T) c (upd H T (.tup [.int i,x])) fun d l=>tc d l λb h=>if b=true then te d h λy j=>∃ys,j D=some (.lst ys)/\ys.length<Xz/\Pv (i+1) d (upd j D (.lst (ys++[y]))) else Pv (i+1) d h)
  (o:∀ c H,Pv xs.length c H->Q (.ref D) H):xF (Ite K a) g tc te Q D σ0 H:=by
 refine⟨λi m c H=>m=xs.length-i/\i<=xs.length/\Pv i c H,⟨xs.length,"s",W2 _,h0⟩,?_⟩;rintro i m c H ⟨rfl,r,p⟩;have q:=s i c H r p;by_cases f:i<xs.length
 .refine .inr (fy ⟨xs,q,f⟩ (Pv (i+1)) (fun A k z=>⟨xs.length-(i+1),"a",rfl,f,z⟩) (λx k y=>?_));revert y;refine fT λT z0 n y=>?_;subst z0;obtain⟨v,w,rfl⟩:=y xs q;exact u i v T c H w n p
 .have e:i=xs.length:="a"
  subst e;exact .inl ⟨⟨xs,q,rfl⟩,o c H p⟩
def yE{A B:St->Hp->Prop}(h:A (c.set i (some v)) H):xV i v c H fun a e=>zmm a e λb d=>if b=true then A a d else B a d:=by
 show if true=true then A (c.set i (some v)) H else B (c.set i (some v)) H
 exact zdc h
end
section
variable {X:Cx}
def zdi(h:IsPart v o):∃p:Option (Int×Tok),v=RQ p/\p.map (·.1)=o:=by
 cases h with
 | none=>exact⟨none,rfl,rfl⟩
 | int i t=>exact⟨some (i,t),rfl,rfl⟩
end
def JL:List X9:=[.type "ValueError",.type "Exception",.type "BaseException",.type "object"]
structure Fly (P:Xu)(w:W9)(outer:List Env)(H:Hp)(s:X8)(e C:Addr)(a0:X9)(B:Heap)(H':Hp)(s':X8):Prop where
 fly:N3 B outer e (.ref C) a0 s'.heap
 os:s'.os=s.os
 bare:SW s'.gens
 un:Un (frs outer) [] H H' s.heap s'.heap
 ok:HOk P w H' B
 kB:∀b o,s.heap.get? b=some o->H b=none->b ∉ frs outer->B.get? b=some o
 tB:∀b o,s.heap.get? b=some o->b ∉ frs outer->∃o',B.get? b=some o'
 new:s.heap.get? e=none
 free:H' e=none
def CXE(P:Xu)(w:W9):CXT:=λa H s E x d=>∃(e C:Addr) (c:X9) (B:Heap) (b:Hp),x=.ref e/\Fly P w a H s e C c B b d/\E (.ref C) none b
theorem zmq:∀{o:HO},ji P w H h a o->∃ob,h.get? a=some ob
 | .lst _,x=>by obtain⟨_,_,_,_,q⟩:=x;exact⟨_,q⟩
 | .tup _,x=>by obtain⟨_,_,_,ob,q,_⟩:=x;exact⟨ob,q⟩
 | .dK _,x=>by revert x;refine gE λ_ _ _ _ ob _ _ q _=>?_;exact⟨ob,q⟩
 | .dT _,x=>by revert x;refine gE λ_ _ _ _ ob _ _ q _=>?_;exact⟨ob,q⟩
 | .set _ _,x=>by revert x;refine fU λob _ _ _=>gr λq _=>?_;exact⟨ob,q⟩
 | .ins _ _ _,x=>by obtain⟨_,_,_,q,_⟩:=x;exact⟨_,q⟩
 | .own _,x=>x
 | .xd _,x=>by obtain⟨_,⟨ob,_,_,q,_⟩,_⟩:=x;exact⟨ob,q⟩
 | .met _ _,x=>⟨_,x⟩
 | .rng _ _,x=>by obtain⟨_,_,_,q⟩:=x;exact⟨_,q⟩
 | .frz _ _,x=>⟨_,x.1⟩
 | .tbl _,x=>⟨_,x⟩
 | .ext _,x=>x.2.1
section
variable {X:Cx}{bz:List (Addr×Obj)}{σ:St}{H H':Hp}{s s':X8}{e C:Addr}{a0:X9}{B h2:Heap}
def Inv.notLoc(I:Inv X bz σ H s)(q:X.s₀.heap.get? b=some o):b≠X.env.locals:=λz=>VX _ (Xq (z ▸ XA q) I.ok.above)
def Inv.notStk(I:Inv X bz σ H s)(q:X.s₀.heap.get? b=some o)(a:b ∉ X.fs):b ∉ frs X.stack:=λz=>by
 rcases XG.mp (I.stkSub b z) with r | r
 .exact I.notLoc q r
 .exact a r
def Inv.flies(I:Inv X bz σ H s)(j:X.ex=[])(F:N3 B X.outer e (.ref C) a0 h2)(up:s'.heap.UpToSlots h2)(os:s'.os=s.os)(i:SW s'.gens)(un:Un (frs X.stack) [] H H' s.heap s'.heap)(ok:HOk X.prog X.w H' B)
  (x:∀b o,s.heap.get? b=some o->H b=none->b ∉ frs X.stack->B.get? b=some o) (tB:∀b o,s.heap.get? b=some o->b ∉ frs X.stack->∃c,B.get? b=some c) (k:s.heap.get? e=none) (free:H' e=none) :
  Fly X.prog X.w X.outer X.H₀ X.s₀ e C a0 B H' { s' with heap:=h2 }:=by
 have f:∀b,b ∉ X.ex:=λb z=>by rw[j]at z;cases z
 have keep:∀b o,X.s₀.heap.get? b=some o->X.H₀ b=none->b ∉ X.fs->B.get? b=some o:=λb o q n a =>
  x b o (I.base.keep b o q n a (f b)) (I.base.free b o q n (f b)) (I.notStk q a)
 have d:∀b o,X.s₀.heap.get? b=some o->b ∉ X.fs->∃c,B.get? b=some c:=λb o q a=>by
  obtain⟨c,h⟩:=I.base.there b o q (f b);exact tB b c h (I.notStk q a)
 have g:∀b o,X.s₀.heap.get? b=some o->b∈X.fs->∃l,h2.get? b=some { o with slots:=l }:=λb o q a=>by
  obtain⟨_,Q,p,D⟩:=I.ok.funs.mem a;rw[q]at p;cases p;obtain⟨l,G⟩:=I.base.slot b o q (I.ok.frf b a) a (f b);obtain⟨O,J⟩:=un.any G (I.base.free b o q (I.ok.frf b a) (f b)) (λz=>nomatch z);obtain⟨m,L⟩:=up b _ J D;exact⟨m,L⟩
 refine⟨F,os.trans I.os,i,⟨λb o q n a _=>F.1 b o (keep b o q n a),λb o q _ a _=>g b o q a,λb o q n _=>?_,λb o q _=>?_,λb v q=>un.tups b v (I.base.tups b v q),λb o u q=>un.frzs b o u (I.base.frzs b o u q),λb E q=>?_⟩,ok,keep,d,?_,free⟩
 .obtain⟨c,h⟩:=I.base.there b o q (f b);exact un.free b c h (I.base.free b o q n (f b)) λz=>nomatch z
 .by_cases a:b∈X.fs
  .obtain⟨l,r⟩:=g b o q a;exact⟨_,r⟩
  .obtain⟨c,r⟩:=d b o q a;exact⟨c,F.1 b c r⟩
 .obtain⟨y,M⟩:=I.base.tbls b E q;obtain⟨A,N⟩:=un.tbls b _ M;exact⟨y++A,by rw[N,Rz]⟩
 .cases q:X.s₀.heap.get? e with
  | none=>rfl
  | some o =>
   obtain⟨c,h⟩:=I.base.there e o q (f e);rw[k]at h;cases h
structure yj (X:Cx)(E:XK):Prop where
 stk:X.stack=X.env::X.outer
 fr:X.env.frame=some X.env.locals
 ex:X.ex=[]
 xe:X.xe=λx s'=>Xw (Xv X.prog X.w) X.A (leaving X.env x) (λ_ s''=>CXE X.prog X.w X.outer X.H₀ X.s₀ E x s'') (λx' s''=>CXE X.prog X.w X.outer X.H₀ X.s₀ E x' s'') s'
def j9{K:X4}{e:Str->Option X9} :
  yj (zbO (CXE P w) P w K e base N c b f d A a s H E) E:=⟨rfl,rfl,rfl,rfl⟩
def zro:∀b∈l,∀a,b.frame=some a->a∈frs l:=λb he a c=>Vg.mpr ⟨b,he,c⟩
def yj.made(L:yj X E)(I:Inv X bz σ H s)(c:Heap.MadeExcOf s.heap h1 e (.ref C) vs)(h:E (.ref C) none H):X.xe (.ref e) { s with heap:=h1 }:=by
 rw[L.xe];have i:=I.stack;have d:∀a o,H a=some o->a ∉ frs X.stack:=λa o q z=>by
  rw[I.stkFree a z]at q;cases q
 have own:∀a b,H b=some (.own a)->b ∉ frs X.stack:=λa b q=>d b _ q;have fresh:H e=none:=by
  cases q:H e with
  | none=>rfl
  | some o =>
   obtain⟨f,g⟩:∃f,s.heap.get? e=some f:=by
    exact zmq (I.hok e o q)
   rw[c.new]at g;cases g
 refine wpAny_leaves_madeW (base:=PySem.W.hideAll s.heap (frs X.stack)) (L:=X.env.locals) (by rw[I.ok.frames,L.stk]) L.fr (λb o q=>PySem.W.of_hideAll _ q) (PySem.W.funFrames_hide (by rw[<- L.stk];exact i) (by rw[<- L.stk];exact zro)) c λl t j m n k=>?_;refine eZ e C _ _ H rfl (I.flies (s':={ s with heap:=h1 }) L.ex j k rfl I.bare (Un.kept c.keeps) ?_ (λb o q _ hb=>Tk _ q hb) (λb o q hb=>⟨o,Tk _ q hb⟩) c.new fresh) h;exact λa o q=>(I.hok a o q).stay (λb u hb r=>Tk _ r (by
  rcases hb with hb | hb
  .rw[hb];exact d a o q
  .exact own a b hb)) (λ_ r=>r) λ_ _ r=>r
def yj.passes(L:yj X E):Passes (CXE X.prog X.w) X E:=by
 intro bz σ H s x s' I h;obtain⟨e,C,a0,B,H',rfl,F,b⟩:=h;rw[L.xe];have a:=F.fly;rw[L.stk]at a;refine wpAny_leaves_onW (by rw[I.ok.frames,L.stk]) L.fr a λh2 c d=>?_;exact eZ e C a0 B H' rfl (I.flies L.ex c d F.os F.bare F.un F.ok F.kB F.tB F.new F.free) b
def yj.own(L:yj X E):NS (Xv X.prog X.w) X.A X.env X.xe:=by
 rw[L.xe];exact PassesOwn.leaving
end
structure qw (K:X4)(mg:Str->Option X9)(x:Str)(C:Addr):Prop where
 g:mg x=some (.ref C)
 q:WI K C JL "ValueError.__new__"=true
structure zqp (h:Heap)(C:Addr)(bm:List X9):Prop where
 ex:∃N nm qn bs hdct sn sub ab col dd k0 k1 k2 k3 k5 mN,h.get? C=some (excClassObj nm qn C N bs bm hdct sn sub ab col dd k0 k1 k2 k3 k5 "ValueError.__new__")/\h.Ns N mN/\mN "__init__"=none
 tl:OwnTail h JL bm
def zmr{K:X4}(d:K.In h)(f:WI K C JL "ValueError.__new__"=true):∃bm,zqp h C bm:=by
 unfold WI at f;split at f
 .rename_i dd cd sl look;split at f
  .rename_i C' bm k0 k1 k2 k3 n k5 em es;simp only[Vi,beq_iff_eq,V4]at f;obtain⟨⟨⟨⟨⟨rfl,rfl⟩,b⟩,e⟩,c⟩,a⟩:=f;obtain⟨p,bs,o,q,r,m,s,sub,j,g,k⟩:=cd;dsimp only at em b c a;subst em b;have i:sl=#[k0,k1,k2,k3,some (.builtin "ValueError.__new__"),k5]:=by
    obtain⟨l⟩:=sl;simp only at es;rw[es]
   subst i;exact⟨bm,(er q p r bs (er m s sub j (er g dd k0 k1 ⟨k2,k3,(ef k5 _ (d _ _ look) (.of_isNs (PySem.W.isNs_of_in d c)) (PySem.W.nsMap_none_of_in d c a))⟩))),PySem.W.tail_of_in d e⟩
  .cases f
 .cases f
section
variable {X:Cx}
def zrp(E:XK)(C:Addr)(t:TA):TS:=λ_ c H=>t c H λb a=>b.length<=Xz/\E (.ref C) none a
def zg1{y c pos:Pos}(L:yj X E)(O:qw X.K X.mg x C)(p:Gl X x)(o:X.calm=true)(n:PA X (f::b) t)
  (he:Xh (f::b) X.env=(false,eval f X.env)::Xh b X.env:=by rfl) (u:(UV c (Xh b X.env)).any (·.1)=false:=by rfl) (i:(x==("__debug__":Str))=false:=by decide) :
  PS X (.Raise (some (.Call (.Name x y) (f::b) [] c)) none pos) (zrp E C t):=by
 intro k s A H D I h;obtain⟨bm,⟨N,nm,z,bs,hdct,sn,sub,ab,col,dd,k0,k1,k2,k3,k5,mN,l,m,j⟩,T⟩:=zmr I.ok.mod.kin O.q;refine wpAny_Raise_call_subU (C:=C) (nm:=nm) (q:=z) (N:=N) (bs:=bs) (bm:=bm) (hdct:=hdct) (sn:=sn) (sub:=sub) (ab:=ab) (col:=col) (dd:=dd) (k0:=k0) (k1:=k1) (k2:=k2) (k3:=k3) (k5:=k5)
  Ru "d" Ru (mN:=mN) (T.hasType PySem.F.excBase_ValueError.hasBase) (I.ok.hd o) (by rw[he];show (false || (UV c (Xh b X.env)).any (·.1))=false;rw[u];rfl) j (xB I p O.g ⟨rfl,?_⟩ i)
 have a:=n c k s A H _ I h;rw[he]at a ⊢;refine Tx (thn a λM J ⟨Q,B,d,r,w,q⟩=>?_);exact eF rfl (by rw[<- r.length];exact w) (d.bk _ _ l) (m.keeps d.bk) (T.keeps d.bk) (λG e v=>L.made d v q)
def markX(X:Cx)(e:Addr):Cx:={ X with A:=X.A.mark (some (.ref e)),calm:=false,xe:=λ_ _=>False }
variable {bz:List (Addr×Obj)}{σ:St}{H:Hp}{s:X8}
def Cx.Ok.mark(ok:X.Ok)(e):(markX X e).Ok :=
 ⟨ok.mod,ok.kind,ok.glob,ok.blt,ok.above,ok.inj,ok.has,ok.cab,(λz=>nomatch z),ok.frames,ok.stk,ok.exf,ok.bs,ok.bsz,ok.noex,ok.exfs,ok.funs,ok.frf⟩
theorem Inv.mark(I:Inv X bz σ H s)(e):Inv (markX X e) bz σ H s:=⟨I.ok.mark e,I.os,I.bare,I.base,I.loc,I.cell,I.free,I.jy,I.pin,I.hok,I.len⟩
def Inv.unmark(I:Inv (markX X e) bz σ H s)(ok:X.Ok):Inv X bz σ H s:=⟨ok,I.os,I.bare,I.base,I.loc,I.cell,I.free,I.jy,I.pin,I.hok,I.len⟩
def zrq(e C:Addr)(h:Heap):Prop:=∃ob a,h.get? e=some ob/\ob.cls=.ref C/\ob.data=.fields a
def exO(e C:Addr):HO:=.ext (zrq e C)
def Inv.nameGoes(I:Inv X bz σ H s)(hN:X.N.Nodup)(L:X.N[j]?=some n)(hl:X.env.scope.names.lookup n=some .local)
  (h:∀s',Inv X bz (σ.set j none) H s'->Q () s'):Xw M A (do bindName X.env n .none;unbindBehindTheSuite X.env n pos) Q E s:=by
 obtain⟨m,O,x⟩:=id I.loc;refine wpAny_nameGoes_keeps hl O (by rw[I.ok.kind];rfl) λY v B D=>h _ ?_;have a:∀b o,b≠X.env.locals->s.heap.get? b=some o->Y.get? b=some o:=λb o g q=>(D.2 b g).trans q;refine gK (λoL _ _ aa _=>?_) (id O);have f:∀b o,X.s₀.heap.get? b=some o->b≠X.env.locals:=λb o q=>I.notLoc q;refine⟨I.ok,I.os,I.bare,⟨λb o q n g u=>a b o (f b o q) (I.base.keep b o q n g u),λb o q n g u=>?_,I.base.free,λb o q u=>?_,I.base.tups,I.base.frzs,I.base.tbls⟩,⟨_,B,λi y v' J w U=>?_⟩,λy c q=>?_,I.free,I.jy,λp hp=>?_,λb ob q=>?_,↑I.len⟩
 .obtain⟨sl,r⟩:=I.base.slot b o q n g u;exact⟨sl,a b _ (f b o q) r⟩
 .obtain⟨o',r⟩:=I.base.there b o q u;exact⟨o',a b _ (f b o q) r⟩
 .by_cases e:i=j
  .subst e;have l:i < σ.length:=by rw[I.len];exact(X6.mp L).1
   rw[SH l]at w;cases w
  .rw[Se (Vd e)]at w;obtain⟨u',r',z⟩:=x i y v' J w U;refine⟨u',r',?_⟩;rcases z with ⟨k,q⟩ | ⟨k,c,q,z⟩
   .refine .inl ⟨k,?_⟩;have ny:y≠n:=λq=>e (zc6 hN J (q ▸ L));simp[ny,q]
   .exact .inr ⟨k,c,q,z.sameBut D (I.cne y c q)⟩
 .obtain⟨G,z⟩:=I.cell y c q;exact⟨G,z.sameBut D (I.cne y c q)⟩
 .refine gc (λq n' T nf d=>?_) (I.pin p hp);exact⟨a p.1 _ T q,n',T,nf,d⟩
 .refine(I.hok b ob q).stay (λc G hc r=>a c G ?_ r) (λ_ r=>r) λ_ _ r=>r;rintro rfl;rcases hc with rfl | hc
  .rw[I.free]at q;cases q
  .rw[I.free]at hc;cases hc
def Fly.caught(I:Inv X bz σ l s1)(F:Fly X.prog X.w X.stack l s1 e C y B j s')(i:N3 B X.stack e (.ref C) y h)(up:s'.heap.UpToSlots h) :
  Inv X bz σ (upd j e (exO e C)) { s' with heap:=h }:=by
 have H:∀b o,s1.heap.get? b=some o->b≠e:=λb o q z=>by
  rw[z,F.new]at q;cases q
 have f:∀b u,j b=some u->b≠e:=λb u q=>zj q F.free;have d:∀b o,s1.heap.get? b=some o->l b=none->b∈frs X.stack->∃v,h.get? b=some { o with slots:=v }:=λb o q n a=>by
  obtain⟨_,D,g,J⟩:=I.stack.mem a;rw[q]at g;cases g;obtain⟨v,p⟩:=F.un.slot b o q n a (λz=>nomatch z);obtain⟨x,s⟩:=up b _ p J;exact⟨x,s⟩
 refine I.call' (ch:=[]) F.os ⟨λb o q n a _=>i.1 b o (F.kB b o q n a),λb o q n a _=>d b o q n a,λb o q n _=>?_,λb o q _=>?_,λb G q=>?_,λb o u q=>?_,λb L q=>?_⟩ (λb ob q=>?_) F.bare λb z=>nomatch z
 .rw[zq (H b o q)];exact F.un.free b o q n λz=>nomatch z
 .by_cases a:b∈frs X.stack
  .obtain⟨v,r⟩:=d b o q (I.stkFree b a) a;exact⟨_,r⟩
  .obtain⟨A,r⟩:=F.tB b o q a;exact⟨A,i.1 b A r⟩
 .have r:=F.un.tups b G q;rw[zq (f b _ r)];exact r
 .have r:=F.un.frzs b o u q;rw[zq (f b _ r)];exact r
 .obtain⟨m,r⟩:=F.un.tbls b L q;exact⟨m,by rw[zq (f b _ r)];exact r⟩
 .by_cases a:b=e
  .subst a;rw[zb]at q;cases q;refine fQ (λE T g p s _=>?_) i.first;exact⟨⟨E,T,g,p,s⟩,⟨E,g⟩,λg1 g2 ⟨D,Q,M,N,O⟩ k=>⟨D,Q,k _ M,N,O⟩⟩
  .rw[zq a]at q;refine(F.ok b ob q).stay (λc u _ r=>i.1 c u r) (λc r=>?_) λc G r=>?_
   .rw[zq (f c _ r)];exact r
   .rw[zq (f c _ r)];exact r
def zj0(O:zqp s.heap S bm)(he:s.heap.get? e=some j)(a:j.cls=.ref C)
  (l:PySem.W.Looks M s.heap (isSubtype (.ref C) (.ref S)) true) (o:Q true s):Xw M A (excMatches (.ref e) (.ref S)) Q E s:=by
 obtain⟨⟨N,D,G,bs,i,H,sub,p,k,r,v,w,x,y,z,B,c,u,n⟩,T⟩:=O;have m:=T.hasType PySem.F.excBase_ValueError.hasBase;obtain⟨h,g,d,t,os⟩:=s;have b:(WU S::bm).contains (.type "BaseException")=true:=by rw[List.contains_cons,m,Bool.or_true]
 have f:=tc_notTuple;unfold excMatches;repeat (first | (with_reducible refine VQ he ?_;rw[a]) | with_reducible refine VQ c ?_ | (with_reducible refine wpAny_isSubtype_exc c ?_;rw[b]) | wp_step)
 refine l A _ E _ (λ_ _ q=>q) ?_;rw[bw rfl];exact XR (XR (XR o))
end
def Fun.okX{K:X4}{st:Stmt}(F:Fun K x b st f h)(S:zD N ps (zv st))(len:∀vs H Q E,sp vs H Q E->vs.length=ps.length)
  (d:∀(c:X9) (A:WZ) (a:List Env) (s:X8) (H:Hp) (vs:AE) (Q:VK) (E:XK),xj k (A.deeper (R8 b (zv st) s.heap.objs.size f c))->sp vs H Q E ->
   ∃t,PSs (zbO (CXE P w) P w K i base N b (zv st) f c A a s H E) (jw st) t/\t { nx:=λ_ j=>Q .non j,rt:=Q } (start N vs) H):qm P w K i base (CXE P w) (k+1) f h ps sp:=by
 refine fU (λq r kV doc=>gw λu o c p n z0 m e=>?_) F.ex;subst z0;exact zql m e S len λA a s H vs Q E l g=>d c A a s H vs Q E l g
structure QL (K:X4)(C:Addr):Prop where
 ga:VC K (.ref C) "__getattribute__"=some (some (.builtin "BaseException.__getattribute__"))
 gh:VC K (.ref C) "__getattr__"=some none
 cl:VC K (.ref C) "__class__"=some (some (.builtin "object.__class__"))
 mb:Wq K C (.type "BaseException")=some true
 mo:Wq K C (.type "object")=some true
 ci:S7 K C=true
section
variable {prog:Xu}{w:W9}{A:WZ}{E:X9->X8->Prop}{K:X4}{e C:Addr}
def zel{os:Oa}(F:QL K C)(b:K.In h)(f:h.get? e=some o)(c:o.cls=.ref C)(i:R (.ok (.ret (.ref C))) ⟨h,g,d,t,os⟩) :
  Uo (Xv prog w) A (.call (.builtin "getset_descriptor.__get__") ⟨[.builtin "object.__class__",.ref e,.ref C],[]⟩) R ⟨h,g,d,t,os⟩:=by
 have a:(⟨h,g,d,t,os⟩:X8).TypeIs (.builtin "object.__class__") "getset_descriptor":=TJ;have lo:=Tj (M:=Xv prog w) b F.mo;rw[<- PySem.F.owner_object_class]at lo;refine Tw PySem.F.slot_gs_get.plain PySem.F.entry_gs_get (PySem.F.slot_gs_get.check _ _ _ _ _ _ _ _ a (PySem.F.args_gs_get _ _ _) ?_);repeat (any_goals (first | assumption | (with_reducible refine VQ f ?_;rw[c]) | wp_step))
 refine lo _ _ _ _ (λ_ _ z=>z) ?_;repeat (any_goals (first | assumption | wp_step))
 refine⟨Code.quiet_builtin _ "q",VL PySem.F.entry_object_class ?_⟩;repeat (any_goals (first | assumption | (with_reducible refine VQ f ?_;rw[c]) | wp_step))
def zcI{os:Oa}(F:QL K C)(a:K.In h)(c:h.get? e=some o)(b:o.cls=.ref C)(m:Q (.done (.ret (.ref C))) ⟨h,g,d,t,os⟩) :
  Xw (Xv prog w) A (UB.«object.__getattribute__» ⟨[.ref e,.str "__class__" tk],[]⟩) Q E ⟨h,g,d,t,os⟩:=by
 have f:(⟨h,g,d,t,os⟩:X8).TypeIs (.builtin "object.__class__") "getset_descriptor":=TJ;have j:=TJ;have k:=PySem.F.slot_gs_get.lookup;have l:=PySem.F.slot_gs_set.lookup;have i:=Sb (M:=Xv prog w) a F.cl;repeat (any_goals (first | assumption | (with_reducible refine VQ c ?_;rw[b]) | wp_step))
 refine i _ _ _ _ (λ_ _ z=>z) ?_;repeat (any_goals (first | assumption | (with_reducible refine VQ c ?_;rw[b]) | wp_step))
 refine zel F a c b ?_;repeat (any_goals (first | assumption | wp_step))
def zfO{os:Oa}(F:QL K C)(b:K.In h)(f:h.get? e=some o)(c:o.cls=.ref C)(m:Q () ⟨h,g,d,t,os⟩) :
  Xw M A (P1 "BaseException.__getattribute__" ⟨[.ref e,a],[]⟩) Q E ⟨h,g,d,t,os⟩:=by
 have i:builtinKind "BaseException.__getattribute__"=some .slot:="q"
 have k:splitId "BaseException.__getattribute__"=some ("BaseException","__getattribute__"):="q"
 have l:=PySem.F.args_bexc_ga (.ref e) a;have j:=Tj (M:=M) b F.mb;simp only[P1,i,k];refine Y1 ?_;unfold isInstance;repeat (first | (with_reducible refine VQ f ?_;rw[c]) | wp_step)
 refine j _ _ _ _ (λ_ _ z=>z) ?_;repeat (any_goals (first | assumption | wp_step))
def zdj{os:Oa}(F:QL K C)(a:K.In h)(c:h.get? e=some o)(b:o.cls=.ref C)(f:R (.ok (.ret (.ref C))) ⟨h,g,d,t,os⟩) :
  Uo (Xv prog w) A (.call (.builtin "BaseException.__getattribute__") ⟨[.ref e,.str "__class__" tk],[]⟩) R ⟨h,g,d,t,os⟩ :=
 Tw PySem.F.attr_ValueError.ga.plain PySem.F.entry_bexc_ga (zfO F a c b (zcI F a c b f))
def zdk{os:Oa}(F:QL K C)(a:K.In h)(c:h.get? e=some o)(b:o.cls=.ref C)(k:Q (some (.ref C)) ⟨h,g,d,t+1,os⟩) :
  Xw (Xv prog w) A (NH (.ref e) "__class__") Q E ⟨h,g,d,t,os⟩:=by
 have j:=PySem.F.attr_ValueError.ga.bind (.ref e);have f:(Ta "BaseException.__getattribute__" == Ta "object.__getattribute__")=false:="q"
 have i:(onTheHeap (WU C)&&Ta "BaseException.__getattribute__" == Ta "object.__getattribute__")=false:=by rw[f];rfl
 have l1:=Sb (M:=Xv prog w) a F.ga;have l2:=Sb (M:=Xv prog w) a F.gh;unfold NH getAttrBy? getAttrBy;repeat (any_goals (first | assumption | (with_reducible refine VQ c ?_;rw[b]) | wp_step))
 refine l1 _ _ _ _ (λ_ _ z=>z) ?_;repeat (any_goals (first | assumption | (with_reducible refine VQ c ?_;rw[b]) | wp_step))
 refine l2 _ _ _ _ (λ_ _ z=>z) ?_;repeat (any_goals (first | assumption | (with_reducible refine VQ c ?_;rw[b]) | wp_step))
 refine zdj F a c b ?_;repeat (any_goals (first | assumption | wp_step))
def zms(F:QL K C):PySem.W.KitX K (.ref e) (.ref C) (zrq e C) where
 ty:=λM h _ p=>by
  obtain⟨ob,vs,q1,q2,_⟩:=p;exact q2 ▸ (PySem.W.Looks.ld q1).andThen .now
 it:=λM h kin _=>by
  have ci:=F.ci;unfold S7 PySem.W.clsIn at ci;split at ci
  .rename_i c1 d1 cd1 sl1 lk;intro A1 Q1 E1 s1 k q;unfold isType loadHead;exact Y1 (wpAny_loadPart (k _ _ (kin _ _ lk)) (XR q))
  .cases ci
 ne:=λh tp dd its n sl kin htp=>by
  refine WY.mpr λq=>?_;have ec:C=tp:=Value.ref.inj (beq_iff_eq.mp q);subst ec;have ci:=F.ci;unfold S7 PySem.W.clsIn at ci;split at ci
  .rename_i c1 d1 cd1 sl1 lk;have z:=(kin _ _ lk).symm.trans htp;cases z
  .cases ci
 ca:=λ{prog w A E Q s} kin p k=>by
  obtain⟨ob,vs,q1,q2,_⟩:=p;obtain⟨h,g,d,t,os⟩:=s;exact zdk F kin q1 q2 k
def zmt:V->X9
 | .ref D=>.ref D
 | .ty n=>.type n
 | _=>.none
def qW(g:X.K=K):jG X (.builtin "isinstance") (λxs H Q=>∃e C c b,xs=[.ref e,c]/\H e=some (exO e C)/\QL K C/\((∃D,c=.ref D)\/∃n,c=.ty n)/\Xb K (.ref C) (zmt c)=some b/\Q (.bl b) H):=by
 intro m s v H xs o Q I r h;revert h;refine gz λe C c b z0 he F i hk q=>?_;subst z0;obtain⟨u,l,rfl,j,d⟩:=vals2 r;cases j;have p:zrq e C s.heap:=(I.hok e _ he).1;have a:=I.kIn;rw[g]at a;have f:l=zmt c:=by
  rcases i with ⟨D,rfl⟩ | ⟨n,rfl⟩
  .cases d;rfl
  .cases d;rfl
 subst f;exact VZ (zms F) a p hk (λz=>nomatch z) λk=>⟨.bl b,H,I.tok k,rfl,q⟩
end
theorem zg2{α:Type}(a):∀(n:Nat) (b:Array α),(W1 n a).foldl (·++·) b=b++((W1 n a.toList).flatten).toArray
 | 0,b=>"s"
 | n+1,b=>by
  rw[VF,V6,zg2 a n,VF,WF,Rz];congr 1;simp
def zs0:R2:=λx y H Q=>∃z k,x=.str z/\y=.int k/\1<=k/\k<=1000/\z.length<=1000/\∀a:Str,a.length=z.length*k.toNat->(∀c∈a.cps.toList,c∈z.cps.toList)->Q (.str a) H
section
variable {X:Cx}
def ziI:OpR X (Ug .Mult) zs0:=by
 intro w s G H x y v u Q I p r h;revert h;refine gu λz k z0 z1 B D o q=>?_;subst z0 z1;obtain⟨t,rfl⟩:=p;obtain⟨E,rfl⟩:=r;have f:z.length*k.toNat<=1000000:=by
  have:=RI o (show k.toNat<=1000 by lia);lia
 refine PySem.P.mul_str ?_ (λ_ _=>?_) (λ_ _=>?_) ?_
 .rw[bf (show ¬ k < -(2^63:Int) by lia),bf (show ¬ k >= 2^63 by lia)];rfl
 .have A:(z.length:Int)*k<=1000000:=by
   have e:((z.length*k.toNat:Nat):Int)=(z.length:Int)*k:=by
    rw[Int.natCast_mul,Uk "a"]
   lia
  have:=Int.le_ediv_of_mul_le (a:=(z.length:Int)) (b:=2^63-1) (c:=k) "a" "a";lia
 .exact bf (Oe.mpr (X5 f "d"))
 .rw[bq (show ¬ k<1 by lia)];by_cases c:(k==1 || z.length==0)=true
  .rw[bw c];refine⟨.str z,H,I,⟨_,rfl⟩,q z ?_ λ_ h=>h⟩;rw[Bool.or_eq_true,beq_iff_eq,beq_iff_eq]at c;rcases c with c | c
   .rw[c];simp
   .rw[c];simp
  .rw[bq c];have e:(⟨(W1 k.toNat z.cps).foldl (·++·) #[]⟩:Str)=⟨((W1 k.toNat z.cps.toList).flatten).toArray⟩:=by
    rw[zg2];simp
   have m:(⟨((W1 k.toNat z.cps.toList).flatten).toArray⟩:Str).length=z.length*k.toNat:=by
    show ((W1 k.toNat z.cps.toList).flatten).toArray.size=_;rw[Xx,len_rep,XX,Pw];rfl
   rw[e];refine⟨by rw[m];exact X5 f "d",⟨.str _,H,I.tok _,⟨_,rfl⟩,q _ m λd n=>?_⟩⟩;have i:d∈(W1 k.toNat z.cps.toList).flatten:=by simpa using n
   obtain⟨l,j,g⟩:=WD.mp i;rw[List.eq_of_mem_replicate j]at g;exact g
end
section
variable {X:Cx}{tg iter elt:Expr}{ifs:List Expr}{scope:Ve}{pos:Pos}{N:AD}{src:List (Option Nat)}{cl:List (Str×Addr)}{wi:TI}{g:TG}{tc:TT}{te:TE}
def zs1{D:Ends}(hN:X.N.Nodup)(A:X.N[i]?=some x)(l:X.env.scope.names.lookup x=some .local):zoU X N scope u H (some (assign (.Name x n) X.env)) (λ_ B=>∃ q r,Inv X u q r B/\D.nx q r) λv r=>xV i v H r D.nx:=by
 intro cl U E H2 C I L f fn xe aa Y k s h qn;refine fR (λm hm _=>?_) h.loc;have g:E.heap.objs.size<C:=by rw[Y];exact Sr _
 have O:Inv X u H I L:=k.call' (s':=L) (ch:=U) h.os h.base h.hok h.bare λb j=>⟨(s b j).2.2.2.1,(s b j).2.1,(s b j).2.2.2.2.1,(s b j).2.2.2.2.2⟩;have J:∀b o,E.heap.get? b=some o->b≠C:=λb o e=>Xi (Tr (XA e) g);have a:∀y c,X.env.cells.lookup y=some c->c≠C:=λy c e=>by
  obtain⟨_,o,T,_⟩:=k.cell y c e;exact J c o T
 have d:X.env.locals≠C:=Xi (Tr k.lt g);refine wpAny_assign_Name (zeR O hN A (.inl l) (v:=.ref E.heap.objs.size) rfl (λs5 M ⟨Q,G,w⟩=>?_) (.inr l));have na:Q≠C:=w.elim (λz=>by rw[z];exact d) (a _ _);exact⟨m,hm.sameBut G (Vd na),λh' sb=>⟨_,I,M.turned (t':=s5.toks) (it:=C) (λb o j e=>(sb.2 b j).trans e) h.free (Vd d) (.inr (X5 k.sz (Ts g))) a λp hp=>J _ _ (k.pin p hp).1,qn⟩⟩
def zmu{g:List (Addr×Obj)}(f:Tt (.ListComp elt [⟨tg,iter,ifs,0⟩] scope pos) (some (.Name x a)) c.line X.env=pure true)
  (h:Xw (Xv X.prog X.w) X.A (Sl (.ListComp elt [⟨tg,iter,ifs,0⟩] scope pos) scope X.env (firstIterPos [⟨tg,iter,ifs,0⟩] pos) (newList []) false (eval iter X.env) (some (assign (.Name x a) X.env))) (λ_ d=>∃ b e,Inv X g b e d/\D.nx b e) X.xe s):Xw (Xv X.prog X.w) X.A (exec (.Assign [.Name x a] (.ListComp elt [⟨tg,iter,ifs,0⟩] scope pos) c) X.env) (SP X g D) X.xe s:=by
 rw[exec_Assign_Name_used _ _ _ _ f];refine Y1 (Tc (Y1 ?_));unfold evalThenUse;exact Y1 (WM h (λ_ d ⟨b,e,i,j⟩=>XR (XR ⟨b,e,i,j⟩)) λ_ _ z=>z)
def zoZ{b a:Pos}(k:X.N.Nodup)(e:X.N[i]?=some x)(f:X.env.scope.names.lookup x=some .local)(ok:yd X N src scope cl)(c:X.calm=true)(n:PI X tg iter wi)
  (m:∀C fp d s H,PG (qI X N scope cl C fp d s H) tg g) (l:∀C fp d s H,zaE (qI X N scope cl C fp d s H) ifs tc) (he:∀C fp d s H,PE (qI X N scope cl C fp d s H) elt te)
  (o:∀x,Wj iter X.env x=pure x:=by intro _;rfl) (j:Tt (.ListComp elt [⟨tg,iter,ifs,0⟩] scope pos) (some (.Name x b)) a.line X.env=pure true:=by rfl) :
  PS X (.Assign [.Name x b] (.ListComp elt [⟨tg,iter,ifs,0⟩] scope pos) a) (zkT (QI wi src g tc te) (xV i)):=λ_ _ _ _ _ I h=>zmu j (zgU ok c n m l he o I h (zs1 k e f))
end
def yd.byRfl(g:a.kind=.function)(b:∀y∈a.names,y.2 ≠ .cell)(d:∀y∈a.names,y.2=.local->a.names.lookup y.1=some .local)
  (k:(a.names.all λy=>y.2 != .free || (X.env.cells.lookup y.1).isSome)=true) (len:src.length=N.length)
  (m:((N.zip src).all λq=>match q.2 with | none=>true | some j=>X.N[j]?==some q.1&&X.env.kindOf q.1==some .cell&&(Vc a X.env).names.lookup q.1==some .cell)=true):yd X N src a (za5 (λx=>X.env.cells.lookup x) a.names []):=by
 have f:∀y∈a.names,y.2=.free->(X.env.cells.lookup y.1).isSome=true:=λy l e=>by
  have z:=Ud.mp k y l;rw[e]at z;simpa using z
 refine⟨g,b,d,Qu f,λx c h=>?_,λx h=>?_,len,λi j x h1 h2=>?_⟩
 .rcases QK _ _ _ (WA h) with z | z
  .cases z
  .exact z
 .refine VW.mp (zgX _ _ (.inr ?_));have hm:(x,Tb)∈a.names\/(x,NameKind.free)∈a.names:=by
   rcases h with h | h
   .exact ZQ (WA h) (.inl rfl)
   .exact ZQ (WA h) (.inr rfl)
  rcases hm with hm | hm
  .exact absurd rfl (b _ hm)
  .exact⟨hm,f _ hm rfl⟩
 .have hm:(x,some j)∈N.zip src:=X7 (i:=i) (by rw[Rt];exact⟨h1,h2⟩);have z:=Ud.mp m _ hm;simp only[Vi,beq_iff_eq]at z;exact⟨z.1.1,.inl z.1.2,.inl z.2⟩
structure Jp (X:Cx)(N:AD)(src:List (Option Nat))(scope:Ve)(cl:List (Str×Addr))(y:Str):Prop where
 kind:scope.kind=.function
 one:∀n acc,Sw n scope.names acc=(y,n)::acc
 push:∀h,NR h scope.names=h.push { cls:=.type "cell",data:=.cell none }
 names:∀y∈scope.names,y.2=.local->scope.names.lookup y.1=some .local
 clos:PB scope X.env=pure cl
 sub:∀x c,cl.lookup x=some c->X.env.cells.lookup x=some c
 has:∀x,((Vc scope X.env).names.lookup x=some .cell\/(Vc scope X.env).names.lookup x=some .free)->x=y\/∃c,cl.lookup x=some c
 len:src.length=N.length
 pulls:∀(i j:Nat) (x:Str),N[i]?=some x->src[i]?=some (some j)->X.N[j]?=some x/\(X.env.kindOf x=some .cell\/X.env.kindOf x=some .free)/\((Vc scope X.env).names.lookup x=some .cell\/(Vc scope X.env).names.lookup x=some .free)
 pny:∀(i j:Nat) (x:Str),N[i]?=some x->src[i]?=some (some j)->x≠y
def Jp.has1(ok:Jp X N src a b y)(x)(h:(Vc a X.env).names.lookup x=some .cell\/(Vc a X.env).names.lookup x=some .free):∃c,Rm x ((y,C)::b)=some c:=by
 rw[Ss];cases q:x==y with
 | true=>exact⟨_,rfl⟩
 | false =>
  rcases ok.has x h with z | z
  .rw[z]at q;simp at q
  .exact z
def Jp.byRfl(g:a.kind=.function)(one:∀n d,Sw n a.names d=(y,n)::d)(k:∀h,NR h a.names=h.push { cls:=.type "cell",data:=.cell none })
  (only:∀z∈a.names,z.2=.cell->z.1=y) (b:∀y∈a.names,y.2=.local->a.names.lookup y.1=some .local)
  (m:(a.names.all λy=>y.2 != .free || (X.env.cells.lookup y.1).isSome)=true) (len:src.length=N.length)
  (p:((N.zip src).all λq=>match q.2 with | none=>true | some j=>X.N[j]?==some q.1&&X.env.kindOf q.1==some .cell&&(Vc a X.env).names.lookup q.1==some .cell&&q.1 != y)=true):Jp X N src a (za5 (λx=>X.env.cells.lookup x) a.names []) y:=by
 have f:∀y∈a.names,y.2=.free->(X.env.cells.lookup y.1).isSome=true:=λy o e=>by
  have z:=Ud.mp m y o;rw[e]at z;simpa using z
 have l:∀(i j:Nat) (x:Str),N[i]?=some x->src[i]?=some (some j)->(X.N[j]?=some x/\X.env.kindOf x=some .cell/\(Vc a X.env).names.lookup x=some .cell)/\x≠y:=λi j x h1 h2=>by
  have hm:(x,some j)∈N.zip src:=X7 (i:=i) (by rw[Rt];exact⟨h1,h2⟩);have z:=Ud.mp p _ hm;simp only[Vi,beq_iff_eq,bne_iff_ne]at z;exact⟨⟨z.1.1.1,z.1.1.2,z.1.2⟩,z.2⟩
 refine⟨g,one,k,b,Qu f,λx c h=>?_,λx h=>?_,len,λi j x h1 h2=>⟨(l i j x h1 h2).1.1,.inl (l i j x h1 h2).1.2.1,.inl (l i j x h1 h2).1.2.2⟩,λi j x h1 h2=>(l i j x h1 h2).2⟩
 .rcases QK _ _ _ (WA h) with z | z
  .cases z
  .exact z
 .have hm:(x,Tb)∈a.names\/(x,NameKind.free)∈a.names:=by
   rcases h with h | h
   .exact ZQ (WA h) (.inl rfl)
   .exact ZQ (WA h) (.inr rfl)
  rcases hm with hm | hm
  .exact .inl (only _ hm rfl)
  .exact .inr (VW.mp (zgX _ _ (.inr ⟨hm,f _ hm rfl⟩)))
def xH(X:Cx)(N:AD)(a:Ve)(c:List (Str×Addr))(y:Str)(C:Addr)(fp:List Addr)(b:List (Addr×Obj))(s:X8)(H:Hp):Cx :=
 { qI X N a ((y,C+1)::c) C fp b s H with fn:=λx=>decide (x=y) }
def zo0(one:∀n d,Sw n a.names d=(y,n)::d)(g:∀h,NR h a.names=h.push { cls:=.type "cell",data:=.cell none })
  (l:Q (newEnv a s.heap.objs.size b ((y,s.heap.objs.size+1)::j) c none .none (some e) RM) { s with heap:=(s.heap.push { cls:=.type "dict",data:=.dict #[] }).push { cls:=.type "cell",data:=.cell none } }) :
  Xw M A (OP a b j [] c none .none (some e)) Q E s:=by
 simp only[OP,Option.isSome_some,if_true];refine Y1 (wpAny_alloc ?_);refine Y1 (wpAny_layCells _ (λk f i=>by cases hkc:f==Tb<;>simp[hkc]) _ _ _ _ ?_);rw[g,one,show ({ s with heap:=s.heap.push { cls:=.type "dict",data:=.dict #[] } }:X8).heap.objs.size=s.heap.objs.size+1 from U6 ..];exact Y1 (XR (XR l))
section
variable {X:Cx}{tg iter elt:Expr}{ifs:List Expr}{scope:Ve}{pos:Pos}{N:AD}{src:List (Option Nat)}{cl:List (Str×Addr)}{wi:TI}{g:TG}{tc:TT}{te:TE}{y:Str}
def zg3{L:St}{C:Addr}(ok:Jp X N src scope cl y)(I:Inv X B L H s)(O:∀b∈fp,QC X B H b)(ho:∀b∈fp,∃o,s.heap.get? b=some o)
  (D:C=s.heap.objs.size+1) (k:∀b u,s.heap.get? b=some u->h1.get? b=some u) (hD:h1.get? s.heap.objs.size=some { cls:=.type "list",data:=.seq #[] })  (hn:h1.Ns C m) (Y:h1.IsCell (C+1) none) :
  Inv (xH X N scope cl y C fp B s H) [] (pull src L) (upd H s.heap.objs.size (.lst [])) { s with heap:=h1,toks:=tk }:=by
 have lt:∀b o,s.heap.get? b=some o->b<s.heap.objs.size:=λb o e=>XA e;have nC:∀b o,s.heap.get? b=some o->b≠C:=λb o e=>by rw[D];exact Xi (WC (lt b o e))
 have nD:∀b o,s.heap.get? b=some o->b≠s.heap.objs.size:=λb o e=>Xi (lt b o e);have U:∀b,s.heap.objs.size<=b->H b=none:=λb h=>I.hok.fresh h;have J:∀b,b≠X.env.locals->b ∉ X.fs->b ∉ frs X.stack:=λb h1 h2 z=>(XG.mp (I.stkSub b z)).elim h1 h2;have G:∀b o,s.heap.get? b=some o->b≠C+1:=λb o e=>by rw[D];exact Xi (WC (WC (lt b o e)))
 have own:∀x c,Rm x ((y,C+1)::cl)=some c->(x=y/\c=C+1)\/(x≠y/\X.env.cells.lookup x=some c):=λx c e=>by
  rw[Ss]at e;cases q:x==y with
  | true =>
   rw[q]at e;exact .inl ⟨↑q,(Option.some.inj e).symm⟩
  | false =>
   rw[q]at e;exact .inr ⟨↑q,ok.sub x c e⟩
 have n:∀x c,X.env.cells.lookup x=some c->c≠C+1:=λx c e=>by
  obtain⟨_,o,f,_⟩:=I.cell x c e;exact G c o f
 refine⟨⟨I.ok.mod,ok.kind,I.ok.glob,I.ok.blt,by rw[show (xH X N scope cl y C fp B s H).env.locals=C from rfl,D];exact Wb _,?inj,ok.has1,?cab,I.ok.hd,I.ok.frames,.inl rfl,λb h=>?_,I.bs,X5 I.ok.bsz I.sz,λb o e h=>?_,λb h hz=>?_,I.stack,I.stkFree⟩,rfl,I.bare,Un.laid k (XQ _) (U _ (XQ _)),⟨m,hn,λi x v f d e3=>?_⟩,λx c e=>?_,?_,λx c e=>?_,λp hp=>?_,I.hok.laid k (XQ _) ⟨W2 _,[],0,.nil,hD⟩,?_⟩
 case inj =>
  intro x Q c f d
  rcases own x c f with ⟨w,a⟩ | ⟨w,a⟩
  .rcases own Q c d with ⟨M,A⟩ | ⟨M,A⟩
   .rw[w,M]
   .exact absurd a (n Q c A)
  .rcases own Q c d with ⟨M,A⟩ | ⟨M,A⟩
   .exact absurd A (n x c a)
   .exact I.ok.inj x Q c a A
 case cab =>
  intro x c z e
  have zy:x=y:=bg z
  rcases own x c e with ⟨_,a⟩ | ⟨w,_⟩
  .rw[a,D];exact TQ (Wb _)
  .exact absurd zy w
 .obtain⟨o,e⟩:=ho b h;refine⟨nC b o e,λx c z=>?_⟩;rcases own x c z with ⟨_,a⟩ | ⟨_,a⟩
  .rw[a];exact Vd (G b o e)
  .exact(O b h).2.2.2.2.1 x c a
 .rcases(O b h).2.2.2.1 with z | z
  .exact I.ok.noex b o e z
  .exact absurd (Xq (XA (I.ok.bs b o e).1) z) (VX _)
 .exact J b (O b h).2.1 (O b h).2.2.1 hz
 .have hi:i<src.length:=by
   have:=(X6.mp d).1;unfold pull at this;rw[ZB]at this;exact this
  unfold pull at d;rw[Xp,X0 hi]at d;cases q:src[i] with
  | none=>rw[q]at d;cases d
  | some j =>
   rw[q]at d;have g:(L[j]?).getD none=some v:=Option.some.inj d;have T:L[j]?=some (some v):=by
    cases z:L[j]? with
    | none=>rw[z]at g;cases g
    | some o=>rw[z]at g;exact congrArg some g
   obtain⟨p1,p2,p3⟩:=ok.pulls i j x f (by rw[X0 hi,q]);obtain⟨m',ae,hl⟩:=I.loc;obtain⟨u,r,l⟩:=hl j x v p1 T (by
    rcases p2 with z | z
    .exact .inr (.inl z)
    .exact .inr (.inr z))
   refine⟨u,r,.inr ⟨p3,?_⟩⟩;obtain⟨c,hc⟩:=ok.has1 x p3;refine⟨c,hc,?_⟩;rcases l with ⟨z,_⟩ | ⟨_,c',E,o,ab,aa⟩
   .rcases p2 with y | y<;>rw[z]at y<;>cases y
   .rcases own x c hc with ⟨w,_⟩ | ⟨_,a⟩
    .exact absurd w (ok.pny i j x f (by rw[X0 hi,q]))
    .rw[a]at E;cases E;exact⟨o,k _ o ab,aa⟩
 .rcases own x c e with ⟨_,a⟩ | ⟨_,a⟩
  .rw[a];exact⟨_,Y⟩
  .obtain⟨v,o,f,d⟩:=I.cell x c a;exact⟨v,o,k c o f,d⟩
 .show upd H s.heap.objs.size (.lst []) C=none;rw[D,zq (Vj _)];exact U _ (Wb _)
 .show upd H s.heap.objs.size (.lst []) c=none;rcases own x c e with ⟨_,a⟩ | ⟨_,a⟩
  .rw[a,D,zq (T7 (WC (Sr _)))];exact U _ (TQ (Wb _))
  .obtain⟨v,o,f,d⟩:=I.cell x c a;rw[zq (nD c o f)];exact I.jy x c a
 .have ac:p∈X.pn++B:=by
   have:p∈(X.pn++B)++[]:=hp;simpa using this
  refine gc (λf d e3 T e5=>?_) (I.pin p ac);refine⟨k _ _ f,?_,nC _ _ f,J _ e3 T,e5⟩;show upd H s.heap.objs.size (.lst []) p.1=none;rw[zq (nD _ _ f)];exact d
 .unfold pull;rw[ZB];exact ok.len
section
variable {bz:List (Addr×Obj)}{σ:St}{H:Hp}{s:X8}{use:Option (X9->Sem Unit)}{R:X9->X8->Prop}{Q:VK}{p2:Pos}
def zk8(ok:Jp X N src scope cl y)(a:X.calm=true)(p:PI X tg iter wi)
  (o:∀C fp bz s H,PG (xH X N scope cl y C fp bz s H) tg g) (n:∀C fp bz s H,zaE (xH X N scope cl y C fp bz s H) ifs tc) (he:∀C fp bz s H,PE (xH X N scope cl y C fp bz s H) elt te)
  (v:∀x,Wj iter X.env x=pure x) (I:Inv X bz σ H s) (h:QI wi src g tc te σ H Q) (fin:zoU X N scope bz σ use R Q):Xw (Xv X.prog X.w) X.A (Sl (.ListComp elt [⟨tg,iter,ifs,0⟩] scope pos) scope X.env p2 (newList []) false (eval iter X.env) use) R X.xe s:=by
 refine S9 (use:=use) rfl v ok.clos ok.kind ok.names (thn (p bz s σ H _ I h) λO s1 h1=>thn h1 λB j h2=>?_);revert h2;refine gp λL fp M J G e d T k f D=>?_;subst e;refine VR (zo0 ok.one ok.push ?_);generalize hP:j.heap.push { cls:=.type "list",dict:=none,data:=.seq ([]:List X9).toArray }=P2;have i:P2.objs.size=j.heap.objs.size+1:=by rw[<- hP,U6]
 have l:(P2.push { cls:=.type "dict",data:=.dict #[] }).objs.size=P2.objs.size+1:=U6 ..;refine zde i a (λz=>z.elim) (o _ _ _ _ _) (n _ _ _ _ _) (he _ _ _ _ _) d T k f (D _ (d.hok.fresh (XQ _))) (λb u e=>?_) (λx c z=>?_) (λr=>zg3 (tk:=j.toks) ok d f r i (λb u e=>?_) ?_ ((Heap.Ns.new P2 _).push _) ?_) λ_ _ _ _ m E=>fin i d f m E
 .exact XY _ (XY _ (hP ▸ XY _ e))
 .show _\/P2.objs.size<=c;have z:Rm x ((y,P2.objs.size+1)::cl)=some c:=z;rw[Ss]at z;cases q:x==y with
  | true =>
   rw[q]at z;rw[<- Option.some.inj z];exact .inr (Wb _)
  | false =>
   rw[q]at z;exact .inl (ok.sub x c z)
 .exact XY _ (XY _ (hP ▸ XY _ e))
 .exact XY _ (XY _ (hP ▸ Xg _ rfl))
 .rw[<- l];exact⟨_,Xg _ rfl,rfl⟩
end
def zmv(ok:Jp X N src scope cl y)(a:X.calm=true)(e:PI X tg iter wi)
  (d:∀C fp b s H,PG (xH X N scope cl y C fp b s H) tg g) (c:∀C fp b s H,zaE (xH X N scope cl y C fp b s H) ifs tc) (he:∀C fp b s H,PE (xH X N scope cl y C fp b s H) elt te)
  (f:∀x,Wj iter X.env x=pure x:=by intro _;rfl):PE X (.ListComp elt [⟨tg,iter,ifs,0⟩] scope pos) (QI wi src g tc te):=λ_ _ _ _ _ I h=>zk8 ok a e d c he f I h zmn
end
section
variable {X:Cx}{K:X4}
def zeZ(a:X.K=K)(b:X.calm=true):jG X (.builtin "any") (λxs H Q=>∃(l:Addr) (bs:List Bool),xs=[.ref l]/\SqL K H l (bs.map V.bl)/\Q (.bl (bs.any id)) H):=by
 subst a;exact zdh b
def zg4(b:X.K=K)(c:PE X l a):PI X d l (zqh K a):=by
 subst b;exact zN c
end
def EF:XK:=λ_ _ _=>False
def zqq:Passes (CXE X.prog X.w) X EF:=by
 intro d g H s x f I h;obtain⟨e,C,c,B,b,rfl,F,a⟩:=h;exact a.elim
theorem ze0:∀{b:AD} {a:List X9},Vals (b.map V.str) a->StrsAre a b
 | [],_,.nil=>.nil
 | t::_,_,.cons ⟨k,e⟩ h=>by
  subst e;exact .cons t k (ze0 h)
section
variable {X:Cx}
def rJoin(K:X4):V->AE->Hp->VK->Prop:=λx b H Q=>∃(z:Str) (l:Addr) (a:AD),x=.str z/\b=[.ref l]/\SqL K H l (a.map V.str)/\(a.map (·.length)).sum+a.length*z.length<=16777216/\Q (.str (T1 z a)) H
def zo1:MtR X "str.join" (rJoin X.K):=by
 intro j s y H x w v o Q I g f h;revert h;refine fV λz l a z0 z1 d b q=>?_;subst z0 z1;obtain⟨n,rfl⟩:=g;obtain⟨u,rfl,r⟩:=f.one;cases r;obtain⟨e,c,p,m⟩:=I.list d;refine join_list (ys:=a) p.isList (by simpa using ze0 c) b λi k=>⟨.str (T1 z a),H,I.tok k,⟨i,?_⟩,q⟩;rw[show Txt.join z a=T1 z a from StrLaws.glued_eq_join z a]
end
def ziJ{α:Type}(d)(xs:List α):((VU xs.length).map λi=>xs.getD i d)=xs:=by
 refine List.ext_getElem "s" λi h1 h2=>?_;simp[h2]
def zj1(p):lt2 p p=false:=by
 unfold lt2;rw[bw rfl,bf "a"]
def zfP(h:p≠q):lt2 q p=!lt2 p q:=by
 unfold lt2;obtain⟨a,b⟩:=p;obtain⟨c,d⟩:=q;simp only;by_cases e:a=c
 .subst e;rw[bw rfl,bw rfl];have f:b≠d:=λz=>h (by rw[z]);by_cases l:b<d
  .rw[br l,bf "a"];rfl
  .rw[bf l,br "a"];rfl
 .rw[bq e,bq (λz=>e z.symm)];by_cases l:a<c
  .rw[br l,bf "a"];rfl
  .rw[bf l,br "a"];rfl
def ziK(h1:lt2 p q=true)(h2:lt2 q r=true):lt2 p r=true:=by
 unfold lt2 at *
 obtain⟨a,b⟩:=p;obtain⟨c,d⟩:=q;obtain⟨e,f⟩:=r;simp only at *
 by_cases h:a=c
 .subst h;rw[bw rfl,bu]at h1;by_cases g:a=e
  .subst g;rw[bw rfl,bu]at h2 ⊢;lia
  .rw[bq g]at h2 ⊢;exact h2
 .rw[bq h,bu]at h1;by_cases g:c=e
  .subst g;rw[bq h,bu];exact h1
  .rw[bq g,bu]at h2;rw[bq "a",bu];lia
def Up2(ps:List (Int×Int)):Prop:=ps.Pairwise λp q=>lt2 p q=true
end L2
namespace PySem.SeqAt
open L2 AutoSeq1 MeetsSeq MeetsSeq2 MeetsSeq3
def zaG(A:WZ)(s:X8)(y x:X9)(b:Bool):Prop:=∀(a:Xu) (w:W9) (E:X9->X8->Prop) (Q:X9->X8->Prop),Q (.bool b) s->Xw (Xv a w) A (richCompare .Lt y x) Q E s
def zaG.int_int(a)(t)(b)(u):zaG A s (.int a t) (.int b u) (decide (a<b)):=λc w E Q h=>wpAny_lt_int h
def ziL(l b)(x y f c)(t u k m)(n v)(dd g)(B j) :
  Meets (UB.«tuple.__lt__» ⟨[.ref l,.ref b],[]⟩)
   (λ_ R s=>s.heap.get? l=some { cls:=.type "tuple",dict:=dd,data:=.seq #[.int x t,.int y u] n,slots:=B }/\s.heap.get? b=some { cls:=.type "tuple",dict:=g,data:=.seq #[.int f k,.int c m] v,slots:=j } /\
    R (.ok (.ret (.bool (lt2 (x,y) (f,c))))) s) :=
 .of_wp λa w A R s h=>by
  obtain⟨r,g1,E,D,z⟩:=s;obtain⟨q,p,h⟩:=h;have G:=sub_tuple_tuple;wp_walk using V7 q,V7 p;refine EqAt.int_int x t f k a w _ _ ?_;unfold lt2 at h;by_cases e:x=f
  .have i:(x==f)=true:=by simpa using e
   rw[i];rw[bw e]at h;wp_walk;refine EqAt.int_int y u c m a w _ _ ?_;by_cases o:y=c
   .have d:(y==c)=true:=by simpa using o
    rw[d];rw[bf (by show ¬ y<c;lia)]at h;wp_walk;exact⟨_,rfl,h⟩
   .have d:(y==c)=false:=by simpa using o
    rw[d];simp only[Bool.not_false,if_true];refine Y1 (UI (Y1 (zaG.int_int y u c m a w _ _ ?_)));wp_walk;exact⟨_,rfl,h⟩
  .have i:(x==f)=false:=by simpa using e
   rw[i];rw[bq e]at h;simp only[Bool.not_false,if_true];refine Y1 (UI (Y1 (zaG.int_int x t f k a w _ _ ?_)));wp_walk;exact⟨_,rfl,h⟩
def zaG.pairs(D:zL s.heap v p)(f:zL s.heap o q)(B:A.units<VE):zaG A s v o (lt2 p q):=λm w E Q h=>by
 obtain⟨a,⟨y,z,k,H⟩,n,t,u,rfl,l,c1,j⟩:=D;obtain⟨r,⟨i,e,data2,g⟩,G,I,J,rfl,d,b,c⟩:=f;simp only at c1 j b c;subst c1 j b c;exact richCompare_meets_room (op:=.Lt) ⟨_,l,rfl⟩ ⟨_,d,rfl⟩ F.slot_tuple_lt F.entry_tuple_lt (F.args_tuple_lt_2 _ _) (ziL a r p.1 p.2 q.1 q.2 t u I J n G z e H g)
  ⟨l,d,show Oh (lt2 p q)≠Value.notImplemented/\Q (.bool (lt2 p q)) s from ⟨(λx=>nomatch x),h⟩⟩ B
def zas(d:zL h v p):∃as,Reads h v (.tuple [.int p.1,.int p.2]) as:=by
 obtain⟨a,o,n,t,u,rfl,c,c1,b⟩:=d;exact⟨_,.tuple c c1 b (.cons (.int _ _) (.cons (.int _ _) .nil))⟩
def ze1(p q:Int×Int):WW (.tuple [.int p.1,.int p.2]) (.tuple [.int q.1,.int q.2])=decide (p=q):=by
 obtain⟨a,b⟩:=p;obtain⟨c,d⟩:=q;show ((a==c)&&((b==d)&&true))=_;by_cases h1:a=c
 .by_cases h2:b=d
  .subst h1 h2;simp
  .simp[h2]
 .simp[h1]
end PySem.SeqAt
namespace L2
open PySem PySem.Spec PyProof.Rows PySem.W PySem.SeqAt
open PySem PySem.Spec PyProof.Rows
section
variable {κ:Type} [DecidableEq κ]
def qX(a:List (κ × V))(k:κ):Option V:=(a.find? λb=>decide (b.1=k)).map (·.2)
def putK(a:List (κ × V))(k:κ)(v:V):List (κ × V) :=
 if (a.any λb=>decide (b.1=k))=true then a.map (λb=>if b.1=k then (b.1,v) else b) else a++[(k,v)]
def j3{k:κ}(e:p.1=k):qX (p::r) k=some p.2:=by simp[qX,T0,e]
def j4{k:κ}(e:¬ p.1=k):qX (p::r) k=qX r k:=by simp[qX,T0,e]
theorem za6(k):∀a:List (κ × V),(a.any λb=>decide (b.1=k))=(qX a k).isSome
 | []=>rfl
 | p::r=>by
  rw[On];by_cases e:p.1=k
  .simp only[j3 e,br e,Bool.true_or,Option.isSome_some]
  .rw[j4 e,bf e,Bool.false_or];exact za6 k r
theorem zg5(k j)(y):∀a:List (κ × V),qX (a.map λb=>if b.1=k then (b.1,y) else b) j=(qX a j).map λx=>if j=k then y else x
 | []=>rfl
 | p::r=>by
  have c:=zg5 k j y r;rw[Xs];by_cases h:p.1=k
  .rw[bw h];by_cases e:p.1=j
   .rw[j3 (p:=(p.1,y)) e,j3 e,Ux,bw (e.symm.trans h)]
   .rw[j4 (p:=(p.1,y)) e,j4 e,c]
  .rw[bq h];by_cases e:p.1=j
   .rw[j3 (p:=p) e,j3 e,Ux,bq (λz=>h (e.trans z))]
   .rw[j4 (p:=p) e,j4 e,c]
theorem ze2(k j)(y):∀a:List (κ × V),qX a k=none->qX (a++[(k,y)]) j=if j=k then some y else qX a j
 | [],_=>by
  by_cases e:k=j
  .rw[bw e.symm];exact j3 (p:=(k,y)) e
  .rw[bq (λz=>e z.symm)];exact j4 (p:=(k,y)) e
 | p::r,b=>by
  rw[P0];have hk:¬ p.1=k:=λz=>by rw[j3 z]at b;cases b
  rw[j4 hk]at b;have c:=ze2 k j y r b;by_cases e:p.1=j
  .rw[j3 e,j3 e,bq (λz=>hk (e.trans z))]
  .rw[j4 e,j4 e,c]
def xJ(b)(k j:κ)(y):qX (putK b k y) j=if j=k then some y else qX b j:=by
 unfold putK;by_cases a:(b.any λd=>decide (d.1=k))=true
 .rw[bw a,zg5];rw[za6]at a;by_cases e:j=k
  .obtain⟨x,c⟩:=VW.mp a;rw[bw e,e,c,Ux,bw rfl]
  .rw[bq e];cases qX b j with
   | none=>rfl
   | some x=>rw[Ux,bq e]
 .rw[bq a];refine ze2 k j y b ?_;rw[za6]at a;cases q:qX b k with
  | none=>rfl
  | some x=>rw[q]at a;exact(a rfl).elim
def JB(a)(k:κ)(v):(putK a k v).length<=a.length+1:=by
 unfold putK;split
 .rw[ZB];lia
 .rw[XZ,Xf,TZ];lia
def zbI.isSome_eq(r:zbI o u):o.isSome=u.isSome:=by
 cases o with
 | none=>cases u with
  | none=>rfl
  | some _=>exact(show False from r).elim
 | some _=>cases u with
  | none=>exact(show False from r).elim
  | some _=>rfl
theorem zbI.getD(r:zbI o u)(a:RelV d d'):RelV (o.getD d) (u.getD d'):=by
 cases o with
 | none=>cases u with
  | none=>exact a
  | some _=>exact(show False from r).elim
 | some _=>cases u with
  | none=>exact(show False from r).elim
  | some _=>exact r
def KV.val(r:KV a vs)(k:κ):zbI (qX a k) (OA vs k):=by
 unfold KV at r;induction r with
 | nil=>exact T8
 | @cons p q g d h t f =>
  obtain⟨h1,h2⟩:=h;by_cases e:p.1=k
  .have c:q.1=k:=h1.symm.trans e;have b:OA (q::d) k=some q.2:=by simp[OA,T0,c]
   rw[j3 e,b];exact h2
  .have c:¬ q.1=k:=λz=>e (h1.trans z);have b:OA (q::d) k=OA d k:=by simp[OA,T0,c]
   rw[j4 e,b];exact f
theorem KV.any(r:KV a vs)(k:κ):(a.any λb=>decide (b.1=k))=vs.any λb=>decide (b.1=k):=by
 unfold KV at r;induction r with
 | nil=>rfl
 | cons h t c=>rw[On,On,c,h.1]
def KV.repl(r:KV b vs)(k:κ)(d:RelV y u) :
  KV (b.map λa=>if a.1=k then (a.1,y) else a) (vs.map λa=>if a.1=k then (a.1,u) else a):=by
 unfold KV at r ⊢;induction r with
 | nil=>exact .nil
 | @cons p q f g h t c =>
  rw[Xs,Xs];refine .cons ?_ c;obtain⟨h1,h2⟩:=h;by_cases e:p.1=k
  .rw[bw e,bw (h1.symm.trans e)];exact⟨h1,d⟩
  .rw[bq e,bq (λz=>e (h1.trans z))];exact⟨h1,h2⟩
def KV.put(r:KV a vs)(k:κ)(b:RelV y u):KV (putK a k y) (stored vs k u):=by
 unfold putK stored;rw[r.any k];by_cases e:(vs.any λc=>decide (c.1=k))=true
 .rw[bw e,bw e];exact r.repl k b
 .rw[bq e,bq e];exact Paired.snoc r ⟨rfl,b⟩
theorem KV.length{vs:List (κ × X9)}(r:KV a vs):a.length=vs.length:=Paired.length r
end
def zg6(r:RelV (kV k) u):(ql P w).is k u=true:=by
 cases k with
 | inl i=>obtain⟨t,e⟩:=(show ∃t,u=Vo i t from r);subst e;exact zgK P w i t
 | inr x=>obtain⟨t,e⟩:=(show ∃t,u=NU x t from r);subst e;exact zgL P w x t
theorem ze3:∀{ks:List Key} {a:List X9},Vals (ks.map kV) a->ItemsAre (ql P w) ks a
 | [],_,r=>by rw[N4]at r;cases r;exact .nil
 | k::ks,_,r=>by
  rw[Xs]at r;cases r with
  | cons h t=>exact .cons (zg6 h) (ze3 t)
abbrev KT (H:Hp):List (List Key×V)->List (List Key×Addr×X9)->Prop:=Xk λp q=>p.1=q.1/\H q.2.1=some (.tup (p.1.map kV))/\RelV p.2 q.2.2
def KT.val(r:KT H a xs)(k):zbI (qX a k) ((Oo xs k).map (·.2)):=by
 induction r with
 | nil=>exact T8
 | @cons p q g d h t f =>
  obtain⟨h1,_,h2⟩:=h;by_cases e:p.1=k
  .have c:q.1=k:=h1.symm.trans e;have b:Oo (q::d) k=some q.2:=by simp[Oo,T0,c]
   rw[j3 e,b];exact h2
  .have c:¬ q.1=k:=λz=>e (h1.trans z);have b:Oo (q::d) k=Oo d k:=by simp[Oo,T0,c]
   rw[j4 e,b];exact f
def KT.repl(r:KT H a xs)(k)(f:RelV y u) :
  KT H (a.map λb=>if b.1=k then (b.1,y) else b) (xs.map (putAt k u)):=by
 induction r with
 | nil=>exact .nil
 | @cons p q g i h t d =>
  rw[Xs,Xs];refine .cons ?_ d;obtain⟨h1,h2,c⟩:=h;unfold putAt;by_cases e:p.1=k
  .rw[bw e,bw (h1.symm.trans e)];exact⟨h1,h2,f⟩
  .rw[bq e,bq (λz=>e (h1.trans z))];exact⟨h1,h2,c⟩
def KT.put(r:KT H a xs)(k)(d:H b=some (.tup (k.map kV)))(c:RelV y u) :
  KT H (putK a k y) (Um xs k b u):=by
 have e:(a.any λf=>decide (f.1=k))=(Oo xs k).isSome:=by
  rw[za6,(r.val k).isSome_eq,Option.isSome_map]
 unfold putK Um;rw[e];by_cases q:(Oo xs k).isSome=true
 .rw[bw q,bw q];exact r.repl k c
 .rw[bq q,bq q];exact Paired.snoc r ⟨rfl,d,c⟩
def KT.keeps(r:KT H a xs)(d:∀b ys,H b=some (.tup ys)->c b=some (.tup ys)):KT c a xs :=
 Paired.mapP r λ_ _ z=>⟨z.1,d _ _ z.2.1,z.2.2⟩
section
variable {P:Xu}{w:W9}{H:Hp}{h:Heap}{a:Addr}
def zqr(ok:HOk P w H h)(e:Rd H a u):ji P w H h a u:=e.ok ok
def ze4(ok:HOk P w H h)(e:Rd H a (.dK b)):b.length<=Xz/\(a==Vz)=false/\∃vs,KV b vs/\h.DictOf (ql P w) a vs :=
 show ji P w H h a (.dK b) from zqr ok e
def zs3(ok:HOk P w H h)(e:H a=some (.dK b)):b.length<=Xz/\(a==Vz)=false/\∃vs,KV b vs/\h.DictOf (ql P w) a vs:=ze4 ok (.inl e)
def zbS(ok:HOk P w H h)(e:H a=some (.tup (ks.map kV))):(VO (ql P w)).is h ks a:=by
 refine gr (λ_=>fR λb r=>fT λo h1 h2=>gM λn c=>?_) (show ji P w H h a (.tup (ks.map kV)) from ok a _ e);exact⟨o,b.toArray,n,h1,h2,c,by simpa using ze3 r⟩
def ze5(ok:HOk P w H h)(e:Rd H a (.dT b)):b.length<=Xz/\(a==Vz)=false /\
  ∃xs,KT H b xs/\h.DictOfH (VO (ql P w)) a xs:=by
 refine fY (λz y xs r=>fV λo f d h1 h2 g i j=>?_) (show ji P w H h a (.dT b) from zqr ok e);refine fq z y xs r (eG o f d h1 h2 g i (λx hx=>?_) j);have all:∀{l:List (List Key×V)} {m:List (List Key×Addr×X9)},KT H l m->∀x∈m,(VO (ql P w)).is h x.1 x.2.1:=by
  intro l m q;induction q with
  | nil=>intro x hx;exact nomatch hx
  | @cons p q n s c t k =>
   intro x hx;rcases XG.mp hx with e | hx
   .subst e;exact zbS ok (by rw[<- c.1];exact c.2.1)
   .exact k x hx
 exact all r x hx
def zmw(ok:HOk P w H h)(e:H a=some (.dT b)):b.length<=Xz/\(a==Vz)=false /\
  ∃xs,KT H b xs/\h.DictOfH (VO (ql P w)) a xs:=ze5 ok (.inl e)
end
def zaH(H:Hp)(a:Addr)(y:V)(r:Option V):Prop :=
 (∃c k,Rd H a (.dK c)/\y=kV k/\r=qX c k)\/∃c k b,Rd H a (.dT c)/\y=.ref b/\H b=some (.tup (k.map kV))/\r=qX c k
def zk9(H:Hp)(a:Addr)(y v:V)(d:Hp):Prop :=
 (∃c k,H a=some (.dK c)/\y=kV k/\c.length<Xz/\d=upd H a (.dK (putK c k v))) \/
 ∃c k b,H a=some (.dT c)/\y=.ref b/\H b=some (.tup (k.map kV))/\c.length<Xz/\d=upd H a (.dT (putK c k v))
def zaH.t(e:H a=some (.dT c))(d:H b=some (.tup (k.map kV))):zaH H a (.ref b) (qX c k):=.inr ⟨c,k,b,.inl e,rfl,d,rfl⟩
def zk9.t(e:H a=some (.dT c))(d:H b=some (.tup (k.map kV)))(f:c.length<Xz) :
  zk9 H a (.ref b) v (upd H a (.dT (putK c k v))):=.inr (eB c k b e rfl d f rfl)
section
variable {X:Cx}{bz:List (Addr×Obj)}{σ:St}{H:Hp}{s:X8}{a:Addr}{y v:V}{u r:X9}{o:Option V}{A:WZ}{E:X9->X8->Prop}
def Inv.big(I:Inv X bz σ H s):Vz<s.heap.objs.size:=by
 have h:XT<s.heap.objs.size:=(I.mod.glob.keeps I.bk).lt;exact Tr "d" h
def zla(G:A.units+1<VE)(I:Inv X bz σ H s)(g:zaH H a y (some v))(r:RelV y u)(h:∀f s',Inv X bz σ H s'->RelV v f->Q f s') :
  Xw (Xv X.prog X.w) A (OE (.ref a) u) Q E s:=by
 rcases g with ⟨q,k,e,j,l⟩ | ⟨q,k,b,e,j,x,l⟩
 .subst j;refine fY (λz B J c i=>?_) (ze4 I.hok e);obtain⟨f,n,d⟩:=zbI.some_of (v:=v) (o:=OA J k) (by rw[l];exact c.val k);exact wpAny_getItem_of (zg6 r) i.mapOf n (h f _ (I.tok _) d)
 .subst j;cases (show u=WU b from r);refine fY (λz B L c i=>?_) (ze5 I.hok e);obtain⟨f,n,d⟩:=zbI.some_of (v:=v) (o:=(Oo L k).map (·.2)) (by rw[l];exact c.val k);obtain⟨p,D,m⟩:=Vr.mp n;refine wpAny_getItem_heap (S1 G) (zbS I.hok x) i D ?_;rw[m];exact h f _ (I.tok _) d
def zo2(p:A.units+1<VE)(I:Inv X bz σ H s)(g:zaH H a y o)(m:RelV y u)(h:∀s',Inv X bz σ H s'->Q (.bool (!o.isSome)) s') :
  Xw (Xv X.prog X.w) A (Wi .NotIn u (.ref a)) Q E s:=by
 rcases g with ⟨j,k,e,f,l⟩ | ⟨j,k,b,e,f,n,l⟩
 .subst f;refine fY (λz i r c d=>?_) (ze4 I.hok e);refine wpAny_notIn_of (zg6 m) i d.mapOf ?_;rw[<- (c.val k).isSome_eq,<- l];exact h _ (I.tok _)
 .subst f;cases (show u=WU b from m);refine fY (λz i v c d=>?_) (ze5 I.hok e);refine wpAny_notIn_heap (S1 p) (zbS I.hok n) i d ?_;have q:=(c.val k).isSome_eq;rw[Option.isSome_map]at q;rw[<- q,<- l];exact h _ (I.tok _)
def zfQ(I:Inv X bz σ H s)(g:Mut (H a))(f:Wg a s.heap h')(he:∃q,h'.get? a=some q)(c:ji X.prog X.w (upd H a ob) h' a ob) :
  Inv X bz σ (upd H a ob) { s with heap:=h',toks:=t' } :=
 I.write (x:=a) (e:=a) g (.inl rfl) (λb q d z=>(f.2 b d).trans z) he c
def zrr(z:b.length<=Xz)(e:(a==Vz)=false)(c:KV b vs)(dd:h'.DictOf (ql P w) a vs) :
  ji P w d h' a (.dK b):=⟨z,e,vs,c,dd⟩
def zlb(hu:A.units+1<VE)(I:Inv X bz σ H s)(g:zk9 H a y v G)(O:RelV y u)(N:RelV v r)(h:∀s',Inv X bz σ G s'->Q () s') :
  Xw (Xv X.prog X.w) A (setItem (.ref a) u r) Q E s:=by
 rcases g with ⟨d,k,e,o,l,n⟩ | ⟨d,k,b,e,o,J,l,n⟩
 .subst o n;refine fY (λz p vs f m=>?_) (zs3 I.hok e);have D:vs.length<=Xz:=by rw[<- f.length];exact z
  have x:(putK d k v).length<=Xz:=by have:=JB d k v;lia
  refine wpAny_setItem_pairs (hsz:=D) (zg6 O) m λM i B=>h _ ?_;have he:∃q,M.get? a=some q:=let ⟨q,_,_,j,_⟩:=i;⟨q,j⟩
  exact zfQ I (by rw[e];exact T8) B he (zrr x p (f.put k N) i)
 .subst o n;cases (show u=WU b from O);refine fY (λz p xs f m=>?_) (zmw I.hok e);have D:xs.length<=Xz:=by rw[<- Paired.length f];exact z
  have x:(putK d k v).length<=Xz:=by have:=JB d k v;lia
  refine wpAny_setItem_heap (hsz:=D) (S1 hu) (zbS I.hok J) m λM i B=>h _ ?_;revert i;refine gf λq U T j h2 Y h4 _ h5=>?_;refine zfQ I (by rw[e];exact T8) B ⟨q,j⟩ (fK x p _ ((f.put k J N).keeps λc ys L=>?_) q U T j h2 Y h4 h5);rw[zq (zeQ L e (λz=>nomatch z))];exact L
end
def zs4(i:Expr):Prop:=∀b a,OZ i false b a=operate [b,a] (OE b a)
def zo3{id:String}
  (m:PD (.type T) "__getitem__"=pure (some (.builtin id))) (n:zs4 a)
  (h:Xw (Xv prog w) A (eval b g) (λo e=>Xw (Xv prog w) A (eval a g) (λi c=>c.TypeIs o T/\Xw (Xv prog w) A (OE o i) Q E c) E e) E s) :
  Xw (Xv prog w) A (eval (.Subscript b a pos) g) Q E s:=by
 refine Og (WM h (λo e j=>WM j (λi c d=>?_) λ_ _ x=>x) λ_ _ x=>x);obtain⟨l,d⟩:=d;unfold Rb;refine Y1 ?_;rw[getitemInPython_of_ne l.not_modules];refine Y1 (S6 l m ?_);have fin:Xw (Xv prog w) A (OZ a false o i) (λr f=>Xw (Xv prog w) A (letTemporaryGo b o r >>= λ_=>pure r) Q E f) E c:=by
  rw[n o i];exact wpAny_operating (WM d (λr f k=>Y1 (wpAny_letTemporaryGo (XR k))) λ_ _ x=>x)
 first
  | exact XR (Y1 fin)
  | exact Y1 (XR (Y1 fin))
  | exact Y1 fin
def zg7{h:St}(I:Inv X f h H s)(g:zaH H a y o):s.TypeIs (.ref a) "dict":=by
 rcases g with ⟨d,k,e,_,_⟩ | ⟨d,k,b,e,_,_,_⟩
 .obtain⟨_,_,i,_,c⟩:=ze4 I.hok e;exact c.typeIs
 .obtain⟨_,_,j,_,c⟩:=ze5 I.hok e;exact c.typeIs
def zs5(e ty:TE):TE:=fun c H Q=>e c H λx d=>ty c d λy b=>∃a v,x=.ref a/\zaH b a y (some v)/\Q v b
def zo4(ty e:TE):TE:=fun c H Q=>ty c H λy d=>e c d λx b=>∃a o,x=.ref a/\zaH b a y o/\Q (.bl (!o.isSome)) b
def zs6(g ty h:TE):TS:=λD b H=>h b H λv d=>g b d λx e=>ty b e λy f=>∃a c,x=.ref a/\zk9 f a y v c/\D.nx b c
section
variable {X:Cx}{o i e value:Expr}{pos pos' tpos:Pos}{td ty tv:TE}
def zfR(q:X.A.units+1<VE)(n:PE X o td)(m:PE X i ty)(p:zs4 i):PE X (.Subscript o i pos) (zs5 td ty):=by
 intro d s e H Q I h;refine zo3 PySem.F.slot_dict_getitem.lookup p (thn (n d s e H _ I h) λu s1 ⟨x,f,k,z,r⟩=>thn (m d s1 e f _ k r) λD E ⟨y,j,c,B,a,v,l,g,w⟩=>?_);subst l;obtain rfl:u=WU a:=z;exact⟨zg7 c g,zla q c g B λJ G I3 b=>⟨v,j,I3,b,w⟩⟩
def zlc(n:X.A.units+1<VE)(l:PE X i ty)(m:PE X o td):PC X .NotIn i o (zo4 ty td):=by
 intro b s c H Q I h;refine thn (l b s c H _ I h) λz s1 ⟨y,d,f,w,q⟩=>thn (m b s1 c d _ f q) λu B ⟨x,e,j,v,a,p,k,g,r⟩=>?_;subst k;obtain rfl:u=WU a:=v;exact zo2 n j g w λD I3=>⟨.bl (!p.isSome),e,I3,rfl,r⟩
def zj2(w:X.A.units+1<VE)(p:PE X o td)(n:PE X i ty)(z:PE X value tv)(q:Tt value (some (.Subscript o i pos')) pos.line X.env=pure false) :
  PS X (.Assign [.Subscript o i pos'] value pos) (zs6 td ty tv):=by
 intro c s b H D I h;refine wpAny_Assign_Subscript (thn (z c s b H _ I h) λr s1 ⟨v,d,j,J,B⟩=>thn (p c s1 b d _ j B) λu N ⟨x,e,k,L,E⟩=>thn (n c N b e _ k E) λQ T ⟨y,O,I3,M,a,f,m,g,G⟩=>?_) q;subst m;obtain rfl:u=WU a:=L;exact zlb w I3 g M J λU l=>⟨b,f,l,G⟩
end
def zmx(h:Heap)(a:Vz<h.objs.size):ji P w H (h.push { cls:=.type "dict",data:=.dict #[] }) h.objs.size (.dT []) :=
 (fK (W2 _) (beq_eq_false_iff_ne.mpr (Vd (Xi a))) [] (.nil) _ (#[]) 0 (Xg _ rfl) ⟨rfl,rfl,rfl⟩ rfl rfl UH)
def zrs:TE:=λ_ H Q=>∀p,H p=none->Q (.ref p) (upd H p (.dT []))
section
variable {X:Cx}{pos:Pos}
def zmy:PE X (.Dict [] [] pos) zrs:=λb s c H Q I h =>
 wpAny_Dict_empty ⟨.ref s.heap.objs.size,_,I.laid (a:=s.heap.objs.size) (o:=.dT []) (t':=s.toks) (λ_ _ q=>XY _ q) (XQ _) (zmx s.heap I.big),rfl,h _ (I.hok.fresh (XQ _))⟩
end
structure M2 (X:Cx)(o:Expr)(m:Str)(apos:Pos)(e f:Expr)(cpos:Pos):Prop where
 base:Ra o m X.env (eval o X.env)=eval o X.env
 few:((UV cpos (Xh [e,f] X.env)).all (λx=>!x.1)&&(backToKw cpos (NQ [] X.env)).all (λx=>x.1.isSome)
  && decide (([e,f]:List Expr).length+([]:List OC).length+(if ([]:List OC).isEmpty then 0 else 1)<30))=true
 line:(apos.endLine==cpos.line)=true
 trees:UV cpos (Xh [e,f] X.env)=[(false,eval e X.env),(false,eval f X.env)]
def IsD(H:Hp)(a:Addr):Prop:=(∃b,Rd H a (.dK b))\/∃b,Rd H a (.dT b)
def zrt{i:St}(I:Inv X h i H s)(d:IsD H a) :
  s.TypeIs (.ref a) "dict"/\(∀b,WU a=.ref b->∃ob,s.heap.get? b=some ob/\ob.dict=none)/\(a==Vz)=false:=by
 rcases d with ⟨g,e⟩ | ⟨g,e⟩
 .refine fY (λ_ f j _ c=>?_) (ze4 I.hok e);refine⟨c.typeIs,λb q=>?_,f⟩;cases q;revert c;refine gi λob _ _ h1 h2 _=>?_;exact⟨ob,h1,h2.2.1⟩
 .refine fY (λ_ f k _ c=>?_) (ze5 I.hok e);refine⟨c.typeIs,λb q=>?_,f⟩;cases q;revert c;refine gi λob _ _ h1 h2 _=>?_;exact⟨ob,h1,h2.2.1⟩
section
variable {X:Cx}{bz:List (Addr×Obj)}{σ:St}{H:Hp}{s:X8}{a:Addr}{y d:V}{u r:X9}{o:Option V}{A:WZ}{E:X9->X8->Prop}
def zru(x:A.units+1<VE)(I:Inv X bz σ H s)(g:zaH H a y o)(p:RelV y u)(n:RelV d r)(h:∀q s',Inv X bz σ H s'->RelV (o.getD d) q->Q q s') :
  Xw (Xv X.prog X.w) A (call (.builtin "dict.get") [.ref a,u,r]) Q E s:=by
 rcases g with ⟨m,k,e,i,l⟩ | ⟨m,k,b,e,i,v,l⟩
 .subst i;refine fY (λz j D c f=>?_) (ze4 I.hok e);refine call_meetsIn Sz f.typeIs Po (PQ _ _ _) (meets_dict_get_default (ql X.prog X.w) a (zg6 p) j r) ⟨_,f.mapOf,h _ _ (I.tok _) ?_⟩;rw[l];exact(c.val k).getD n
 .subst i;cases (show u=WU b from p);refine fY (λz j B c f=>?_) (ze5 I.hok e);refine call_meetsIn Sz f.typeIs Po (PQ _ _ _) (meetsH_dict_get_default (VO (ql X.prog X.w)) a b j r) ⟨S1 x,(ef k B (zbS I.hok v) f (h _ _ (I.tok _) ?_))⟩;rw[l];exact(c.val k).getD n
end
def zrv(f ty g:TE):TE:=fun b H Q=>f b H λx c=>∃a,x=.ref a/\IsD c a/\ty b c λy e=>g b e λz d=>∃o,zaH d a y o/\Q (o.getD z) d
section
variable {X:Cx}{o e f:Expr}{apos cpos:Pos}{td ty tx:TE}
def zg8(B:X.A.units+1<VE)(w:PE X o td)(he:PE X e ty)(v:PE X f tx)(m:M2 X o "get" apos e f cpos):PE X (.Call (.Attribute o "get" apos) [e,f] [] cpos) (zrv td ty tx):=by
 intro b s i H Q I h;refine wpAny_Call_method m.base m.few m.line PP Sz PySem.F.type_dict_get (thn (w b s i H _ I h) λu s1 ⟨x,k,j,J,a,r,d,D⟩=>?_);subst r;obtain rfl:u=WU a:=J;obtain⟨O,T,_⟩:=zrt j d;refine⟨O,T,?_⟩;rw[m.trees];refine T2 rfl (Tx (UF (thn (he b s1 i k _ j D) λY N ⟨y,l,p,L,E⟩ =>
  UF (thn (v b N i l _ p E) λU s3 ⟨z,n,I3,M,ov,g,G⟩=>Ri ?_))))
 exact zru B I3 g L M λw' s4 q c=>⟨_,n,q,c,G⟩
end
def zld:PD (.type "list") "keys"=pure none:=by rw[S5,UA];kernel_rfl
def zlf:PD (.type "list") "__getattr__"=pure none:=by rw[S5,UA];kernel_rfl
def zdl:isSubtype (.type "AttributeError") (.type "AttributeError")=pure true:=by rw[OO];kernel_rfl
def zmz(a):ownMembersOf (.type "AttributeError") a=#[unsetMember,unsetMember]:=rfl
def ziM:((Manifest.find? "AttributeError").elim false λt=>t.mro.contains "StopIteration" || t.mro.contains "SystemExit")=false:="q"
section
variable {prog:Xu}{w:W9}{A:WZ}{E:X9->X8->Prop}{h:Heap}{g:Array Uh}{d:NN}{t:Nat}{os:Oa}{a:Addr}{its:Array X9}{n:Nat}
def zmA(l:h.get? a=some { cls:=.type "list",dict:=none,data:=.seq its n,slots:=#[] })(k:A.handled=none)
  (he:∀c j e,(∀b f,h.get? b=some f->c.get? b=some f)->(⟨c,g,d,j,os⟩:X8).TypeIs (.ref e) "AttributeError"->E (.ref e) ⟨c,g,d,j,os⟩) :
  Xw (Xv prog w) A (UB.«object.__getattribute__» ⟨[.ref a,.str "keys" tk],[]⟩) Q E ⟨h,g,d,t,os⟩:=by
 have q:(⟨h,g,d,t,os⟩:X8).TypeIs (.ref a) "list":=⟨_,l,rfl⟩;have o:=zld;have p:=zdl;repeat (any_goals (first | assumption | wp_step))
 unfold raiseAttrError;refine Y1 (wpAny_mkStr (Y1 ?_) "q");unfold newExc newTuple;refine Y1 (VR ?_);refine Y1 (m:=RG _ _) (OY (a:=U1) (by simp only[RG,ziM];rfl) ?_);rw[zmz];refine VR ?_;refine Y1 (wpAny_mkText ?_);refine Y1 ?_;unfold noteAttr lacksNameAndObj;repeat (any_goals (first | assumption | wp_step))
 unfold raiseNew;refine Y1 (wpAny_handled ?_);rw[k];refine Y1 (XR (NP ?_));dsimp only;refine he _ _ _ (λb f i=>?_) ?_
 .rw[(Wr ..).2 b (Xi ?_)]
  .exact XY _ (XY _ i)
  .rw[U6];exact WC (XA i)
 .refine⟨_,WG _ (Xg _ rfl) rfl,rfl⟩
def zo5(f:h.get? a=some { cls:=.type "list",dict:=none,data:=.seq its n,slots:=#[] })(k:A.handled=none)
  (he:∀c j e,(∀b i,h.get? b=some i->c.get? b=some i)->(⟨c,g,d,j,os⟩:X8).TypeIs (.ref e) "AttributeError"->R (.error (.ref e)) ⟨c,g,d,j,os⟩) :
  Uo (Xv prog w) A (.call (.builtin "list.__getattribute__") ⟨[.ref a,.str "keys" tk],[]⟩) R ⟨h,g,d,t,os⟩ :=
 Tw PySem.F.slot_list_getattribute.plain PySem.F.entry_list_ga (PySem.F.slot_list_getattribute.check _ _ _ _ _ _ _ _ (show (⟨h,g,d,t,os⟩:X8).TypeIs (.ref a) "list" from ⟨_,f,rfl⟩) (PySem.F.args_list_getattribute_2 _ _) (zmA f (by simp[k]) he))
def zs7(i:h.get? a=some { cls:=.type "list",dict:=none,data:=.seq its n,slots:=#[] })(l:A.handled=none)
  (he:∀c f e,(∀b j,h.get? b=some j->c.get? b=some j)->(⟨c,g,d,f,os⟩:X8).TypeIs (.ref e) "AttributeError"->E (.ref e) ⟨c,g,d,f,os⟩) :
  Xw (Xv prog w) A (getAttrBy (.ref a) (.str "keys" tk) false) Q E ⟨h,g,d,t,os⟩:=by
 have s:(⟨h,g,d,t,os⟩:X8).TypeIs (.ref a) "list":=⟨_,i,rfl⟩;have o:=PySem.F.slot_list_getattribute.lookup;have p:=PySem.F.slot_list_getattribute.bind (.ref a);have q:=zlf;have r:=zdl;repeat (any_goals (first | assumption | wp_step))
 refine zo5 i (by simp[l]) λc f e m k=>?_;repeat (any_goals (first | assumption | wp_step))
 exact he _ _ _ m k
def zo6(l:h.get? a=some { cls:=.type "list",dict:=none,data:=.seq its n,slots:=#[] })(j:A.handled=none)
  (k:∀c i,(∀b f,h.get? b=some f->c.get? b=some f)->Q none ⟨c,g,d,i,os⟩) :
  Xw (Xv prog w) A (NH (.ref a) "keys") Q E ⟨h,g,d,t,os⟩:=by
 have o:=zdl;unfold NH getAttrBy?;refine Y1 (wpAny_mkText (Y1 (Sk ?_)));refine zs7 (t:=t+1) l j λc i e m p=>?_;repeat (any_goals (first | assumption | wp_step))
 exact k _ _ m
def za7:NG table "dict.update.loop"=some UB.«dict.update.loop»:=entryFor_of_tree (by kernel_rfl)
def J0:plainId "dict.update.loop"=true:="q"
end
section
variable {prog:Xu}{w:W9}{A:WZ}{R:PK->X8->Prop}{I:Addr}{fp wr:List Addr}{G:Array Uh->Array Uh->Prop}{n:Nat}{P:Nat->X9->Prop}{St:Nat->X8->Prop}
abbrev KQ:=List Key×Addr×X9
def putAll(ks:List KQ):List KQ:=ks.foldl (λa q=>Um a q.1 q.2.1 q.2.2) []
def putAll_snoc(ks)(q):putAll (ks++[q])=Um (putAll ks) q.1 q.2.1 q.2.2:=by
 unfold putAll;rw[Re];rfl
def zci(xs:List KQ)(k)(a)(v):(Um xs k a v).length<=xs.length+1:=by
 unfold Um;split
 .rw[ZB];lia
 .rw[XZ];exact XQ _
def zdm(ks):(putAll ks).length<=ks.length:=by
 suffices h:∀(ks a:List KQ),(ks.foldl (λa q=>Um a q.1 q.2.1 q.2.2) a).length<=a.length+ks.length by
  have:=h ks [];simpa[putAll] using this
 intro ks;induction ks with
 | nil=>intro a;exact XQ _
 | cons q r b =>
  intro a;have h1:=b (Um a q.1 q.2.1 q.2.2);have h2:=zci a q.1 q.2.1 q.2.2;rw[V6,Xf];lia
def zfS(h:NO s.heap a #[x,y])(q:Q [x,y] s):Xw (Xv prog w) A (Pn (.ref a)) Q E s:=by
 obtain⟨o,h1,h2,n,b⟩:=h;have c:s.TypeIs (.ref a) "tuple":=⟨o,h1,h2⟩;unfold Pn;repeat (any_goals (first | assumption | wp_step))
 rw[b];exact XR (XR q)
theorem zcj(T:List Key->Addr->Prop):∀(d a:List KQ),(∀x∈a,T x.1 x.2.1)->(∀x∈d,T x.1 x.2.1)->∀x∈d.foldl (λa q=>Um a q.1 q.2.1 q.2.2) a,T x.1 x.2.1
 | [],_,b,_=>b
 | q::r,a,b,c=>by
  rw[V6];refine zcj T r _ (λx hx=>?_) λx hx=>c x (XS _ hx);unfold Um at hx;split at hx
  .obtain⟨y,f,rfl⟩:=XE.mp hx;have:=b y f;unfold putAt;split
   .exact this
   .exact this
  .rcases XV.mp hx with hx | hx
   .exact b x hx
   .have e:x=(q.1,q.2.1,q.2.2):=by simpa using hx
    subst e;exact c q XU
def ziN(W:WalksS prog w A.in1 I fp wr G n P St)(D)(J:D ∉ fp)(Y:h0.get? D=none)(ag:∀b∈wr,h0.get? b=none)(ks)(N:ks.length=n)(u:n<=Xz)(hu:A.units+1<VE)
  (M:∀q∈ks,(VO (ql prog w)).is h0 q.1 q.2.1) (hP:∀i v,P i v->∃H q,v=.ref H/\ks[i]?=some q/\NO h0 H #[.ref q.2.1,q.2.2]) :
  ∀(k i:Nat) (s:X8),n-i=k->i<=n->St i s->(∀b o,h0.get? b=some o->s.heap.get? b=some o)->s.heap.DictOfH (VO (ql prog w)) D (putAll (ks.take i)) ->
   (∀s',Moved (D::wr) G s s'->s'.heap.DictOfH (VO (ql prog w)) D (putAll ks)->R (.ok (.ret .none)) s') ->
   Uo (Xv prog w) A (.builtin "dict.update.loop" ⟨[.ref D,.ref I,Ua (i:Int),.none],[]⟩) R s:=by
 have aa:D ∉ wr:=λh=>J (W.sub _ h);have more:∀b∈wr,b∈D::wr:=λb u=>XS _ u;have r:∀{h:Heap} {H:Addr} {y:Array X9},(∀b o,h0.get? b=some o->h.get? b=some o)->NO h0 H y->NO h H y:=λl ⟨o,h1,h2,m,h3⟩=>⟨o,l _ _ h1,h2,m,h3⟩;have f:∀{h:Heap} {ka:Addr} {q:List Key},(∀b o,h0.get? b=some o->h.get? b=some o)->(VO (ql prog w)).is h0 q ka->(VO (ql prog w)).is h q ka:=λl ⟨o,y,m,h1,h2⟩=>⟨o,y,m,l _ _ h1,h2⟩;have c:∀{s s':X8} {y:List KQ},Moved wr G s s'->(∀b o,h0.get? b=some o->s'.heap.get? b=some o)->(∀x∈y,(VO (ql prog w)).is h0 x.1 x.2.1)->s.heap.DictOfH (VO (ql prog w)) D y->s'.heap.DictOfH (VO (ql prog w)) D y :=
  λg l hk ⟨o,es,ep,e1,e2,e3,e4,_,e6⟩=>(eG o es ep (g.heap D _ aa e1) e2 e3 e4 (λx U=>f l (hk x U)) e6)
 have d:∀{s s':X8},Moved wr G s s'->(∀b o,h0.get? b=some o->s.heap.get? b=some o)->∀b o,h0.get? b=some o->s'.heap.get? b=some o:=λg l b o e =>
  g.heap b o (λu=>by
   rw[ag b u]at e;cases e) (l b o e)
 have j:∀i,∀x∈putAll (ks.take i),(VO (ql prog w)).is h0 x.1 x.2.1:=λi=>zcj (λa b=>(VO (ql prog w)).is h0 a b) _ [] (λx U=>nomatch U) λx U=>M x (VM U);intro k;induction k with
 | zero =>
  intro i s hk hi E l hS hR;have af:i=n:="a"
  subst af;refine VL za7 ?_;rw[V2 J0 _];show Xw _ A.in1 (RO (.ref I) >>= _) _ _ s;refine Y1 (W.done s _ _ E λs' g=>?_);show Xw _ A.in1 (Qr D [] >>= λ_=>ret U1) _ _ s';refine Y1 (XR (XR (hR s' (g.mono more) ?_)));have:=c g (d g l) (j _) hS;rw[<- N,XF]at this;exact this
 | succ k ih =>
  intro i s hk hi E l hS hR;have O:i<n:="a"
  refine VL za7 ?_;rw[V2 J0 _];show Xw _ A.in1 (RO (.ref I) >>= _) _ _ s;refine Y1 (W.item i s _ _ O E λv s' ab T g=>?_);refine fS (λH q z0 hq ht=>?_) (hP i v ab);subst z0;have p:=d g l;have ac:=c g p (j _) hS;have l1:=zdm (ks.take i);have l2:(ks.take i).length<=n:=by
   rw[XH];lia
  have tk:ks.take (i+1)=ks.take i++[q]:=by
   rw[XC,hq];rfl
  refine Y1 (Wp (Y1 (wpAny_tryCatch (zfS (r p ht) ?_))));refine Wp (wpAny_dictSet_heap (show A.in1.units<VE from hu) (f p (M q (X7 hq))) ac (λh' ae B=>?_) "a");have ah:∀b o,h0.get? b=some o->h'.get? b=some o:=λb o e=>by
   rw[B.2 b (λz=>by
    rw[z,Y]at e;cases e)]
   exact p b o e
  have d2:h'.DictOfH (VO (ql prog w)) D (putAll (ks.take (i+1))):=by
   rw[tk,putAll_snoc];exact ae
  refine XR ⟨Ur J0 _,?_⟩;show Uo _ A (.builtin "dict.update.loop" ⟨[.ref D,.ref I,Ua ((i:Int)+1),.none],[]⟩) R _;rw[show ((i:Int)+1)=((i+1:Nat):Int) by lia];refine ih (i+1) _ "a" O (W.frame _ s' _ _ T (Vh _ _) λb u o e=>?_) ah d2 λai Q L=>?_
  .rw[B.2 b (λz=>J (by rw[<- z];exact u))];exact e
  .refine hR ai (Moved.trans W.gtrans ((g.mono more).then_heap (Vh _ _) λb o u e=>?_) Q) L;rw[B.2 b (λz=>u (by rw[z];exact XU))];exact e
end
def zs8(H:Hp)(v:V)(c:List Key×V):Prop:=∃a b,v=V.ref a/\H a=some (.tup [.ref b,c.2])/\H b=some (.tup (c.1.map kV))
def jM(H:Hp):AE->List (List Key×V)->Prop:=Xk (zs8 H)
def jM.mono(s:zx H d)(f:jM H vs c):jM d vs c:=by
 induction f with
 | nil=>exact .nil
 | cons q _ g =>
  obtain⟨a,b,e,h1,h2⟩:=q;exact .cons ⟨a,b,e,s _ _ h1,s _ _ h2⟩ g
def ZR(b:List (List Key×V)):List (List Key×V):=b.foldl (λa c=>putK a c.1 c.2) []
def KT.puts{ks:List KQ}{xs:List KQ}(e:KT H b ks)(r:KT H a xs):KT H (b.foldl (λa c=>putK a c.1 c.2) a) (ks.foldl (λa q=>Um a q.1 q.2.1 q.2.2) xs):=by
 induction e generalizing a xs with
 | nil=>exact r
 | cons q _ f =>
  obtain⟨h1,h2,d⟩:=q;rw[V6,V6];refine f ?_;rw[<- h1];exact r.put _ h2 d
def zo7(ok:HOk P w H h){ks:List KQ}(b:KT H a ks):∀x∈ks,(VO (ql P w)).is h x.1 x.2.1:=by
 induction b with
 | nil=>exact λx hx=>nomatch hx
 | cons q _ c =>
  intro x hx;rcases XG.mp hx with e | hx
  .subst e;exact zbS ok (by rw[<- q.1];exact q.2.1)
  .exact c x hx
def zo8(ok:HOk P w H h)(n:jM H vs d)(j:Vals vs c):∃ks:List KQ,KT H d ks/\ks.length=c.length/\(∀(i:Nat) (v:X9),c[i]?=some v->∃(f:Addr) (q:KQ),v=WU f/\ks[i]?=some q/\NO h f #[.ref q.2.1,q.2.2]):=by
 induction n generalizing c with
 | nil =>
  cases j;exact⟨[],.nil,rfl,λi v e=>by simp at e⟩
 | @cons x k G I q _ o =>
  revert q;refine fS λa b e h1 h2=>?_;cases j with
  | cons B z =>
  refine fT (λks p s y=>?_) (o z);subst e;cases B;obtain⟨_,G,r,D⟩:=(show ji P w H h a (.tup [.ref b,k.2]) from ok a _ h1);refine fS (λu E z0 A g=>?_) (vals2 r);subst z0;cases A;refine⟨(k.1,b,E)::ks,.cons ⟨rfl,h2,g⟩ p,by rw[Xf,Xf,s],λi v e=>?_⟩;cases i with
  | zero =>
   have l:WU a=v:=by simpa using e
   exact⟨a,_,l.symm,rfl,D⟩
  | succ i =>
   refine fS (λf q h1 h2 m=>?_) (y i v ↑e);exact⟨f,q,h1,↑h2,m⟩
section
variable {X:Cx}
set_option maxHeartbeats 8000000 in
theorem j5(hu:X.A.units+64<VE)(hh:X.A.handled=none):jG X (.type "dict") (λxs H Q=>∃l us g,xs=[.ref l]/\H l=some (.lst us)/\jM H us g/\∀d,H d=none->Q (.ref d) (upd H d (.dT (ZR g)))):=by
 intro bz s σ H xs ai Q I r h;revert h;refine gb λl us g z0 hl hp q=>?_;subst z0;obtain⟨u,rfl,ru⟩:=vals1 r;cases ru;refine gH (λhz m n rv e=>?_) (show ji X.prog X.w H s.heap l (.lst us) from I.hok l _ hl);obtain⟨ks,E,D,N⟩:=zo8 I.hok hp rv;have big:=I.big;have y:m.length<=Xz:=by
  rw[<- rv.length];exact hz
 have ae:=zo7 I.hok E;refine callType_codes (Q₁:=λT p=>T=.ref s.heap.objs.size/\p={ s with heap:=s.heap.push { cls:=.type "dict",data:=.dict #[] } }) PySem.F.kt_called_dict (PySem.F.kt_typeCall_dict_1 _) PySem.F.entry_dict_init (kt_code_dict_new _ ⟨rfl,rfl⟩) ?_;rintro T p ⟨rfl,rfl⟩;have f:(s.heap.push { cls:=.type "dict",data:=.dict #[] }).DictOfH (VO (ql X.prog X.w)) s.heap.objs.size []:=Heap.DictOfH.new s.heap;have e1:(s.heap.push { cls:=.type "dict",data:=.dict #[] }).get? l=some { cls:=.type "list",dict:=none,data:=.seq m.toArray n,slots:=#[] }:=XY _ e;refine⟨f.typeIs,PySem.F.args_dict_init_2 _ _,?_⟩;unfold UB.«dict.__init__»;refine Y1 ?_;unfold Qb;refine Y1 (Pe f.typeIs ?_);show Xw _ _ (pure (s.heap.objs.size,[WU l])) _ _ _;refine XR ?_;show Xw _ _ (Ub "dict.__init__" s.heap.objs.size (.ref l) [] .none) _ _ _;unfold Ub;have hT:Sj { s with heap:=s.heap.push { cls:=.type "dict",data:=.dict #[] } } (.ref l) "list":=⟨_,e1,rfl⟩;refine Y1 (RW hT ?_);rw[bw "d"];refine Y1 (zo6 e1 (by simp[hh]) λh2 t2 Y=>?_);rw[bw (show (none:Option X9).isNone=true from rfl)];have O:∀b j,s.heap.get? b=some j->h2.get? b=some j:=λb j z=>Y b j (XY _ z);have G:h2.IsList l m.toArray:=⟨_,Y _ _ e1,rfl,n,rfl⟩;refine Y1 (UI (Y1 (SQ G ?_)));have J:l<s.heap.objs.size:=XA e;have k:s.heap.objs.size<h2.objs.size:=by
  revert f;refine gK λo _ _ M _=>?_;exact XA (Y _ _ M)
 have L:l≠h2.objs.size:=Xi (Tr J k);have aa:s.heap.objs.size ∉ [h2.objs.size,l]:=by
  simp only[XG,Vx,or_false,not_or];exact⟨Xi k,T7 J⟩
 refine XR ⟨Ur J0 _,?_⟩;have ac:(h2.push { cls:=.type "list_iterator",data:=.fields #[.ref l,.int 0 0] }).DictOfH (VO (ql X.prog X.w)) s.heap.objs.size []:=by
  revert f;refine gf λo es ep M h3 h4 h5 _ h6=>?_;exact eG o es ep (XY _ (Y _ _ M)) h3 h4 h5 (λx hx=>nomatch hx) h6
 refine ziN (h0:=s.heap) ((Walks.list (by simp[hh]) h2.objs.size l L m.toArray).toS) s.heap.objs.size aa (Us (XQ _)) (λb hb=>?_) ks (by rw[D];simp) ↑y (by show X.A.units+1+1<VE;lia) ae (λi v hv=>N i v (by rw[<- hv];simp)) _ 0 _ rfl (W2 _)
  ⟨⟨_,Xg _ rfl,rfl,rfl⟩,G.push _⟩ (λb o z=>XY _ (O b o z)) ac ?_
 .have e:b=h2.objs.size:=by simpa using hb
  rw[e];exact Us (Ts k)
 .intro s' U ab;obtain⟨h',g',d',ah,ag⟩:=s';have eg:g'=s.gens:=U.gens;have ed:d'=s.drawn:=U.drawn;have eo:ag=s.os:=U.os;subst eg;subst ed;subst eo;have af:∀b j,s.heap.get? b=some j->h'.get? b=some j:=λb j z=>by
   have lt:=XA z;refine U.heap b j (λhb=>?_) (XY _ (O b j z));rcases XG.mp hb with e | hb
   .exact VX _ (e ▸ lt)
   .have e:b=h2.objs.size:=by simpa using hb
    rw[e]at lt;exact VX _ (Tr lt k)
  revert ab;refine gf λo es ep M h3 h4 h5 _ h6=>?_;have B:KT H (ZR g) (putAll ks):=KT.puts E .nil;have c:H s.heap.objs.size=none:=I.hok.fresh (XQ _);refine⟨rfl,.ref s.heap.objs.size,_,I.laid (a:=s.heap.objs.size) (o:=.dT (ZR g)) (t':=ah) af (XQ _) (fK ?_ (beq_eq_false_iff_ne.mpr (Vd (Xi big))) _ (KT.keeps B λb ys hb=>?_) o es ep M h3 h4 h5 h6),rfl,q _ c⟩
  .rw[Paired.length B];exact X5 (zdm ks) (by rw[D];exact y)
  .rw[zq (zj hb c)];exact hb
end
def u1{A:PySem.Around}(h:A.units+64<PySem.cLine):A.units+1<PySem.cLine:="a"
section
variable {K:X4}{g:TG}{tc:TT}{te:TE}{Q:VK}{σ0:St}{D:Addr}
def zmB(Pv:Nat->St->Hp->Prop)(he:xs.length=ys.length)(h0:Pv 0 σ0 H)(u:∀i a H,i<=xs.length->Pv i a H->SqL K H l1 xs/\SqL K H l2 ys)
  (w:∀i x y T a H,xs[i]?=some x->ys[i]?=some y->H T=none->Pv i a H->g (.ref T) a (upd H T (.tup [x,y])) fun c o=>tc c o λb k=>if b=true then te c k λy l=>∃zs,l D=some (.lst zs)/\zs.length<Xz/\Pv (i+1) c (upd l D (.lst (zs++[y]))) else Pv (i+1) c k)
  (r:∀ a H,Pv xs.length a H->Q (.ref D) H):xF (Itz K l1 l2) g tc te Q D σ0 H:=by
 refine⟨λi m a H=>m=xs.length-i/\i<=xs.length/\Pv i a H,⟨xs.length,"s",W2 _,h0⟩,?_⟩;rintro i m a H ⟨rfl,s,p⟩;obtain⟨h,j⟩:=u i a H s p;by_cases d:i<xs.length
 .refine .inr (fy ⟨xs,ys,h,j,d,"a"⟩ (Pv (i+1)) (fun E n A=>⟨xs.length-(i+1),"a",rfl,d,A⟩) (λx n y=>?_));revert y;refine fT λT z0 q y=>?_;subst z0;refine fS (λv B z f z0=>?_) (y xs ys h j);subst z0;exact w i v B T a H z f q p
 .have e:i=xs.length:="a"
  subst e;exact .inl ⟨⟨xs,ys,h,j,"a"⟩,r a H p⟩
end
theorem jM.into(z)(o)(hz:H z=some (.lst d)):∀{vs:AE} {c:List (List Key×V)},jM H vs c->jM (upd H z o) vs c
 | _,_,.nil=>.nil
 | _,_,.cons ⟨a,b,e,h1,h2⟩ t=>.cons ⟨a,b,e,by rw[zq (zeQ h1 hz (by intro y;cases y))];exact h1,by rw[zq (zeQ h2 hz (by intro y;cases y))];exact h2⟩ (jM.into z o hz t)
theorem jM.snoc(h:jM H vs a)(x:zs8 H v b):jM H (vs++[v]) (a++[b]):=Paired.snoc h x
theorem jM.length(h:jM H vs a):vs.length=a.length:=Paired.length h
theorem ze6:∀(ks:List (List Key)) (a:List (List Key×V)),(k∈ks\/qX a k=some v)->qX ((ks.map λx=>(x,v)).foldl (λa b=>putK a b.1 b.2) a) k=some v
 | [],a,h=>by
  rcases h with h | h
  .cases h
  .exact h
 | x::r,a,h=>by
  rw[Xs,V6];refine ze6 r _ ?_;rw[xJ];by_cases e:k=x
  .rw[bw e];exact .inr rfl
  .rw[bq e];rcases h with h | h
   .rcases XG.mp h with h | h
    .exact absurd h e
    .exact .inl h
   .exact .inr h
section
variable {prog:Xu}{w:W9}{A:WZ}{E:X9->X8->Prop}{s:X8}{d o a:Addr}{xs ys:List KQ}{k:List Key}{v:X9}
abbrev tk2 (prog:Xu)(w:W9):HeapKind prog w (List Key):=VO (ql prog w)
def ziO(J:A.units<VE)(c:(tk2 prog w).is s.heap k a)(I:s.heap.DictOfH (tk2 prog w) d xs)(hsz:xs.length<=Xz)
  (u:∀h',h'.DictOfH (tk2 prog w) d (Um xs k a v)->Wg d s.heap h'->Q () { s with heap:=h' }):Xw (Xv prog w) A (Om d (.ref a) ((tk2 prog w).hash k) v) Q E s:=by
 revert I;refine gf λob H r f B b he h i=>?_;unfold Om;refine Wp (Y1 (wpAny_dictFind_heap (knd:=tk2 prog w) J c f b he h i (λm=>?_) λj p D=>?_))
 .have n:=not_mem_keys_of_get m;have o:=atKey_none_of_get m;refine Y1 (UI (wpAny_updateDictKeys (hz:=by have e:=size_of_entries he;lia) f b (u _ (eG _ _ (r+1) (WG _ f (R1 (Tv b _))) (B.mapDictKeys _) (Tv b _) ?_ ?_ ?_) (Wr ..))))
  .rw[OX o];simp[he,S4]
  .rw[OX o];intro x hx;rcases XV.mp hx with hx | hx
   .exact(tk2 prog w).keeps (h x hx) f b (Wr ..)
   .have e:x=(k,a,v):=by simpa using hx
    subst e;exact(tk2 prog w).keeps c f b (Wr ..)
  .rw[OX o,XD,WE];refine⟨i,"s",λx hx y q e=>n ?_⟩;have G:y=k:=by simpa using q
   rw[<- G,<- e];exact hx
 .have g:=storedH_old (atKey_of_get i D) a v;refine Y1 (UI (Y1 (wpAny_updateDict f b (wpAny_point (u _ (eG _ _ r (WG _ f (R1 (Obj.data_mapDict b _))) (B.mapDict _) (Obj.data_mapDict b _) ?_ ?_ ?_) (Wr ..))))))
  .rw[g];have z:=modify_map_putAt (S4 (tk2 prog w)) (λe:Sv=>{ e with val:=v }) k v (λ_ _=>rfl) i D;rw[<- he]at z;obtain⟨l⟩:=H;simpa using z
  .rw[g];intro x hx;obtain⟨y,q,rfl⟩:=XE.mp hx;unfold putAt;split<;>exact(tk2 prog w).keeps (h y q) f b (Wr ..)
  .rw[g,keys_map_putAt];exact i
def HN(prog:Xu)(w:W9)(ys:List KQ):Prop:=(ys.map λq=>(tk2 prog w).hash q.1).Nodup
def ziP:PD (.type "tuple") "__eq__"=pure (some (.builtin "tuple.__eq__")):=by rw[S5,UA];kernel_rfl
def zg9(b:(tk2 prog w).is s.heap k a)(q:Q false s):Xw (Xv prog w) A (OM (.ref a)) Q E s:=by
 revert b;refine gi λob d n h1 h2 _=>?_;have c:s.TypeIs (.ref a) "tuple":=⟨ob,h1,h2⟩;unfold OM;refine Y1 (S6 c ziP (XR ?_));rw[show (some (Ta "tuple.__eq__")==some (Ta "object.__eq__"))=false by decide+kernel];exact q
def zlg{a:Array Sv}(he:a.toList=ys.map (S4 (tk2 prog w)))(b:HN prog w ys)(x):¬ (a.filter (λe=>e.hash==x)).size>1:=by
 have h1:(a.filter (λe=>e.hash==x)).size=(a.toList.filter (λe=>e.hash==x)).length:=by
  rw[<- Ox,XX]
 rw[h1,he];unfold HN at b;clear h1 he;induction ys with
 | nil=>simp
 | cons q r i =>
  rw[Xs,V8]at b;rw[Xs,V5];split
  .rename_i hq;have c:(tk2 prog w).hash q.1=x:=by simpa[S4] using hq
   have:(r.map (S4 (tk2 prog w))).filter (λe=>e.hash==x)=[]:=by
    rw[VI];intro e f g;obtain⟨y,h,rfl⟩:=XE.mp f;have d:(tk2 prog w).hash y.1=x:=by simpa[S4] using g
    exact b.1 (XE.mpr ⟨y,h,by rw[c,d]⟩)
   rw[this];simp
  .exact i b.2
def zlh{id:String}(l:s.heap.get? d=some ob)(k:ob.data=.dict c ep)(he:c.toList=ys.map (S4 (tk2 prog w)))(hk:∀x∈ys,(tk2 prog w).is s.heap x.1 x.2.1)(j:HN prog w ys)(h:Q c s) :
  Xw (Xv prog w) A (R4 id d) Q E s:=by
 unfold R4;refine Y1 (TM l k (Y1 ?_));rw[<- Ry];refine Tp _ (λa _ f=>f=s/\∀e∈a,e∈c.toList) _ ?_ ?_ _ _ ⟨rfl,λe he=>he⟩
 .rintro x a b f ⟨rfl,g⟩;have i:=g x XU;rw[he]at i;obtain⟨y,m,rfl⟩:=XE.mp i;refine Y1 (zg9 (hk y m) ?_);rw[bw (show (!false)=true from rfl),bq (zlg he j _)];exact XR ⟨rfl,λe he=>g e (XS _ he)⟩
 .rintro b f ⟨rfl,_⟩;exact XR h
def Zq(xs ys:List KQ):List KQ:=ys.foldl (λa q=>Um a q.1 q.2.1 q.2.2) xs
def zha(xs ys)(q):Zq xs (ys++[q])=Um (Zq xs ys) q.1 q.2.1 q.2.2:=by
 unfold Zq;rw[Re];rfl
theorem zdn(xs:List KQ):∀ys:List KQ,∀a:List KQ,(Zq a ys).length<=a.length+ys.length
 | [],a=>XQ _
 | q::r,a=>by
  have h1:=zdn xs r (Um a q.1 q.2.1 q.2.2);have h2:=zci a q.1 q.2.1 q.2.2;rw[Xf];show (Zq (Um a q.1 q.2.1 q.2.2) r).length<=_;lia
theorem za8:∀(ys a:List KQ),((a++ys).map (·.1)).Nodup->Zq a ys=a++ys
 | [],a,_=>(W5 a).symm
 | q::r,a,h=>by
  have b:Oo a q.1=none:=by
   unfold Oo;rw[List.find?_eq_none.mpr]
   .rfl
   .intro x c hk;rw[XD,Xs,WE]at h;exact h.2.2 x.1 (XE.mpr ⟨x,c,rfl⟩) q.1 XU (bg hk)
  show Zq (Um a q.1 q.2.1 q.2.2) r=_;rw[OX b,show ((q.1,q.2.1,q.2.2):KQ)=q from rfl,za8 r (a++[q]) ↑h];simp
def zo9(hu:A.units<VE)(z:d≠o)(ae:(o==Vz)=false)(hd:s.heap.DictOfH (tk2 prog w) d xs)(ho:s.heap.DictOfH (tk2 prog w) o ys)(hN:HN prog w ys)(hsz:xs.length+ys.length<=Xz)
  (O:∀h',h'.DictOfH (tk2 prog w) d (Zq xs ys)->Wg d s.heap h'->Q () { s with heap:=h' }):Xw (Xv prog w) A (Pm nm d o) Q E s:=by
 refine gf (λod U T j Y f J ak al=>?_) (id hd);refine gf (λoo a ai k aj c g B N=>?_) (id ho);have M:ys.length=a.size:=(size_of_entries g).symm;unfold Pm;rw[bq (show ¬ (d==o)=true by simpa using z)];unfold Builtin.Dict.showsAll;rw[bq (show ¬ (o==Vz)=true by rw[ae];exact XJ)];refine Y1 (XR (Y1 (TM k c ?_)));have v:Xw (Xv prog w) A (do
   let epoch <- dictEpoch o
   let l <- dictEntries o
   forIn [:l.size] Od λi (_:PUnit)=>(do
     let l' <- dictEntries o
     match l'[i]? with
      | some e=>do
       holding [e.key,e.val] (Om d e.key e.hash e.val)
       let ep' <- dictEpoch o
       if (ep' != epoch)=true then do
         (Rn (toString nm++toString ":source-changed-during-callback"):Sem PUnit)
         pure (VY Od)
        else pure (VY Od)
      | _=>do
       (Rn "internal:dict-merge":Sem PUnit)
       pure (VY Od):Sem (ForInStep PUnit))
   pure ()) Q E s:=by
  refine Y1 (wpAny_dictEpoch k c (Y1 (TM k c (Y1 ?_))));rw[Std.Legacy.Range.forIn_eq_forIn_range'];simp only[Std.Legacy.Range.size,Nat.sub_zero,Rx,Nat.div_one];refine Tp _ (λn _ s'=>∃h' i,s'={ s with heap:=h' }/\n=List.range' i (a.size-i)/\i<=a.size/\h'.DictOfH (tk2 prog w) d (Zq xs (ys.take i))/\Wg d s.heap h') _ ?_ ?_ _ _ (eX s.heap 0 rfl "s" (W2 _) hd (Heap.SameBut.refl _ _))
  .refine λx n b s'=>gx λh' i z0 G hi p m=>?_;subst z0;have ac:i<a.size:=by
    rcases T6 i a.size with h | h
    .exact h
    .rw[Nat.sub_eq_zero_of_le h]at G;simp at G
   obtain⟨rfl,H⟩:x=i/\n=List.range' (i+1) (a.size-(i+1)):=by
    rw[show a.size-i=(a.size-(i+1))+1 by lia,List.range'_succ]at G;injection G with h1 h2
    exact⟨h1,h2⟩
   have r:h'.get? o=some oo:=(m.2 o (Vd z)).trans k;obtain⟨q,hq⟩:∃q,ys[x]?=some q:=⟨_,X0 "a"⟩;refine Y1 (TM r c ?_);rw[entry_at g x,hq];have ab:=B q (X7 hq);have L:(tk2 prog w).is h' q.1 q.2.1:=(tk2 prog w).keeps ab j f m;have l1:=zdn xs (ys.take x) xs;have l2:(ys.take x).length<=ys.length:=by
    rw[XH];lia
   refine Y1 (Wp (ziO (s:={ s with heap:=h' }) hu L p "a" λy I u=>?_));have D:y.get? o=some oo:=(u.2 o (Vd z)).trans r;refine Y1 (wpAny_dictEpoch D c ?_);rw[bq "s"];refine XR (eX y (x+1) rfl H ac ?_ (m.trans u));rw[XC,hq];show y.DictOfH (tk2 prog w) d (Zq xs (ys.take x++[q]));rw[zha];exact I
  .rintro b s' ⟨h',i,rfl,G,hi,p,m⟩;have aa:i=a.size:=by
    rcases T6 i a.size with h | h
    .rw[show a.size-i=(a.size-(i+1))+1 by lia,List.range'_succ]at G;exact nomatch G
    .exact Nat.le_antisymm hi h
   rw[aa,<- M,XF]at p;exact XR (O h' p m)
 dsimp only;split
 .refine Y1 (TM j f ?_);split
  .rename_i ah;have af:xs=[]:=by
    have h0:U=#[]:=Array.isEmpty_iff.mp ah;rw[h0]at J;exact Ow.mp J.symm
   subst af;rw[za8 ys [] ↑N]at O;refine Y1 (zlh k c g B hN ?_);split
   .refine Y1 (wpAny_updateDictKeysTo j f (XR (O _ (eG _ _ (T+1) (WG _ j (R1 (Tv f _))) (Y.mapDictKeys _) (Tv f _) g (λx hx=>(tk2 prog w).keeps (B x hx) j f (Wr ..)) N) (Wr ..))) (by
     simp only[TZ,VT]at hsz;lia))
   .rename_i hne;have h0:a=#[]:=Array.isEmpty_iff.mp ↑hne;have ag:ys=[]:=by
     rw[h0]at g;exact Ow.mp g.symm
    subst ag;exact XR (O _ hd (Heap.SameBut.refl _ _))
  .exact v
 .exact v
end
def HH(i j:Nat):Int:=reduceHash (Builtin.Tuple.tupleHashOf [hashInt (i:Int),hashInt (j:Int)])
def YW(prog)(w)(i j):(tk2 prog w).hash [.inl ((i:Nat):Int),.inl ((j:Nat):Int)]=HH i j:=by
 show tupleKeyHash (ql prog w) [.inl ((i:Nat):Int),.inl ((j:Nat):Int)]=HH i j;unfold tupleKeyHash HH;rw[Xs,Xs,N4];have e:∀n:Nat,(ql prog w).hash (.inl ((n:Nat):Int))=hashInt ((n:Nat):Int):=λn=>by
  show zqY w (.inl ((n:Nat):Int))=_;unfold zqY;with_reducible rfl
 rw[e,e]
def zrw:(VU 64).all λn=>(VU 64).all λm=>decide (HH (n/8) (n%8)=HH (m/8) (m%8))==decide (n=m):="q"
def zhc(h1:i<8)(h2:j<8)(k:f<8)(l:g<8)(e:HH i j=HH f g):i=f/\j=g:=by
 have h:=zrw;rw[Ud]at h;have a:=h (8*i+j) (We.mpr "a");rw[Ud]at a;have b:=a (8*f+g) (We.mpr "a");rw[show (8*i+j)/8=i by lia,show (8*i+j)%8=j by lia,show (8*f+g)/8=f by lia,show (8*f+g)%8=g by lia,br e]at b;have c:decide (8*i+j=8*f+g)=true:=by simpa using b
 have d:=bg c;lia
def Small(ks:List (List Key)):Prop:=∀k∈ks,∃i j:Nat,i<8/\j<8/\k=[.inl ((i:Nat):Int),.inl ((j:Nat):Int)]
theorem zqs:∀{ys:List KQ},Small (ys.map (·.1))->(ys.map (·.1)).Nodup->HN prog w ys
 | [],_,_=>UH
 | q::r,d,c=>by
  rw[Xs,V8]at c;unfold HN;rw[Xs,V8];refine⟨λn=>?_,zqs (λk hk=>d k (XS _ hk)) c.2⟩;obtain⟨y,h,e⟩:=XE.mp n;obtain⟨i,j,h1,h2,f⟩:=d q.1 XU;obtain⟨o,p,l,m,g⟩:=d y.1 (XS _ (XE.mpr ⟨y,h,rfl⟩));rw[f,g,YW,YW]at e;obtain⟨a,b⟩:=zhc l m h1 h2 e;refine c.1 (XE.mpr ⟨y,h,?_⟩);rw[f,g,a,b]
theorem KT.keys:∀{a:List (List Key×V)} {xs:List KQ},KT H a xs->xs.map (·.1)=a.map (·.1)
 | _,_,.nil=>rfl
 | _,_,.cons ⟨h1,_,_⟩ t=>by rw[Xs,Xs,KT.keys t,h1]
def zmC{xs:List KQ}(r:KT H a xs)(c:Small (a.map (·.1)))(b:(xs.map (·.1)).Nodup):HN P w xs:=zqs (by rw[r.keys];exact c) b
def zaI(b more:List (List Key×V)):List (List Key×V):=more.foldl (λa c=>putK a c.1 c.2) b
theorem zdo:∀(more a:List (List Key×V)),(zaI a more).length<=a.length+more.length
 | [],a=>XQ _
 | kv::r,a=>by
  have h1:=zdo r (putK a kv.1 kv.2);have h2:=JB a kv.1 kv.2;show (zaI (putK a kv.1 kv.2) r).length<=_;rw[Xf];lia
section
variable {X:Cx}
def ziQ(hu:X.A.units+64<VE):MtR X "dict.update" (λx vs H Q=>∃d o a more,x=.ref d/\vs=[.ref o]/\d≠o/\H d=some (.dT a)/\H o=some (.dT more)/\Small (more.map (·.1))/\a.length+more.length<=Xz/\Q .non (upd H d (.dT (zaI a more)))):=by
 intro bz s σ H x vs v us Q I rx rv h;revert h;refine gk λd o a more z0 z1 n l=>gg λY y aa q=>?_;subst z0 z1;cases rx;obtain⟨u,rfl,ru⟩:=vals1 rv;cases ru;refine fY (λhz T D g j=>?_) (zmw I.hok l);refine fY (λab k f e b=>?_) (zmw I.hok Y);have O:HN X.prog X.w f:=by
  obtain⟨_,_,_,_,_,_,_,_,U⟩:=b;exact zmC e y U
 refine UL P9 j.typeIs PySem.F.entry_dict_update ?_ (PySem.F.args_dict_update_2 _ _);unfold UB.«dict.update»;refine Y1 ?_;unfold Qb;refine Y1 (Pe j.typeIs ?_);show Xw _ _ (pure (d,[WU o])) _ _ s;refine XR ?_;show Xw _ _ (Ub "dict.update" d (.ref o) [] .none) _ _ s;unfold Ub;refine Y1 (RW b.typeIs ?_);rw[bq "d"];refine Y1 ?_;unfold Builtin.Dict.merge;refine Y1 ?_;unfold Builtin.Dict.readDirectly;refine Y1 (PZ b.typeIs isSubtype_dict_dict ?_);simp only[Bool.not_true,Wc,if_false];refine Y1 (S6 b.typeIs PySem.F.slot_dict_iter.lookup (XR ?_));simp only[beq_self_eq_true,if_true];refine Y1 (XR ?_);have l1:D.length=a.length:=(Paired.length g).symm;have l2:f.length=more.length:=(Paired.length e).symm;refine zo9 (by show X.A.units+1<VE;lia) n k j b O "a" λh' m r=>?_;show Xw _ _ (Qr d [] >>= _) _ _ _;refine Y1 (XR (XR ⟨_,rfl,?_⟩));revert m;refine gf λob G E i J L M _ N=>?_;have p:KT H (zaI a more) (Zq D f):=KT.puts e g;have hl:=zdo more a;refine⟨.non,_,zfQ (t':=s.toks) (ob:=.dT (zaI a more)) I (by rw[l];exact T8) r ⟨ob,i⟩ (fK "a" T _ (p.keeps λc ys B=>?_) ob G E i J L M N),rfl,q⟩;rw[zq (zeQ B l (λz=>nomatch z))];exact B
def zhd:jG X (.type "str") (λxs H Q=>∃v z,xs=[v]/\(v=V.str z\/∃i:Int,v=V.int i/\i.natAbs.log2<1920/\z=toString i)/\Q (.str z) H):=by
 intro a s c H xs b Q I r h;obtain⟨v,z,rfl,h,q⟩:=h;rcases h with rfl | ⟨i,rfl,d,rfl⟩
 .exact zfN a s c H _ b Q I r ⟨z,rfl,q⟩
 .exact zfG a s c H _ b Q I r ⟨i,rfl,d,q⟩
def vals3(r:Vals [x,y,z] b):∃u v a,b=[u,v,a]/\RelV x u/\RelV y v/\RelV z a:=by
 cases r with
 | cons c d =>
  obtain⟨v,a,rfl,h1,h2⟩:=vals2 d;exact⟨_,v,a,rfl,c,h1,h2⟩
def mx3(i j k:Int):Int:=if j>i then (if k>j then k else j) else (if k>i then k else i)
def mn3(i j k:Int):Int:=if j<i then (if k<j then k else j) else (if k<i then k else i)
def zli(a:X.calm=true):jG X (.builtin "max") (λxs H Q=>∃i j k,xs=[.int i,.int j,.int k]/\Q (.int (mx3 i j k)) H):=by
 intro d s n H xs l Q I r h;obtain⟨i,j,k,rfl,q⟩:=h;obtain⟨u,v,m,rfl,⟨t,rfl⟩,⟨f,rfl⟩,⟨c,rfl⟩⟩:=vals3 r;refine max_three_ints (I.ok.hd a) λe g b=>⟨_,H,I.kept b,?_,q⟩;unfold mx3;split<;>split<;>exact⟨_,rfl⟩
def zlj(a:X.calm=true):jG X (.builtin "min") (λxs H Q=>∃i j k,xs=[.int i,.int j,.int k]/\Q (.int (mn3 i j k)) H):=by
 intro d s n H xs l Q I r h;obtain⟨i,j,k,rfl,q⟩:=h;obtain⟨u,v,m,rfl,⟨t,rfl⟩,⟨f,rfl⟩,⟨c,rfl⟩⟩:=vals3 r;refine min_three_ints (I.ok.hd a) λe g b=>⟨_,H,I.kept b,?_,q⟩;unfold mn3;split<;>split<;>exact⟨_,rfl⟩
end
open PySem
namespace ST
def run(a i:Nat):List Nat:=(VU (VA a i+1-i)).map (i + ·)
def walk(a:Nat):Nat->Nat->Nat->List Nat
 | 0,_,_=>[]
 | f+1,i,p=>run a i++walk a f (Va a i p).1 (Va a i p).2
def zpa(a i):1<=(run a i).length/\(run a i).length<=10:=by
 unfold run VA;rw[ZB,Vt];split<;>lia
theorem zdp(a):∀f i p,(walk a f i p).length<=10*f
 | 0,_,_=>XQ _
 | f+1,i,p=>by
  rw[walk,XZ];have:=(zpa a i).2;have:=zdp a f (Va a i p).1 (Va a i p).2;lia
def steps(t:Wx):Nat->RE->RE
 | 0,p=>p
 | n+1,p=>steps t n (t.advance p)
theorem zbT(t):∀n m p,steps t (n+m) p=steps t m (steps t n p)
 | 0,m,p=>by rw[VT];rfl
 | n+1,m,p=>by
  rw[show n+1+m=(n+m)+1 from by lia];exact zbT t n m (t.advance p)
theorem zbU(t)(i pt)(a):∀(d r j:Nat),d<=r->steps t d { j:=j,more:=r,i:=i,perturb:=pt,dummy:=a }={ j:=j+d,more:=r-d,i:=i,perturb:=pt,dummy:=a }
 | 0,r,j,_=>rfl
 | d+1,r,j,h=>by
  have e:t.advance { j:=j,more:=r,i:=i,perturb:=pt,dummy:=a }={ j:=j+1,more:=r-1,i:=i,perturb:=pt,dummy:=a }:=by
   unfold PY;rw[bw (by show r>0;lia)]
  show steps t d (t.advance _)=_;rw[e,zbU t i pt a d (r-1) (j+1) "a"];congr 1<;>lia
def zae(a i pt:Nat)(b:Option Nat):RE:={ j:=i,more:=VA a i-i,i:=i,perturb:=pt,dummy:=b }
def zbV(a i):i<=VA a i:=by
 unfold VA;split<;>lia
def ziR(t)(i pt)(a):steps t (run t.mask i).length (zae t.mask i pt a)=zae t.mask (Va t.mask i pt).1 (Va t.mask i pt).2 a:=by
 have b:(run t.mask i).length=(VA t.mask i-i)+1:=by
  unfold run;rw[ZB,Vt];have:=zbV t.mask i;lia
 rw[b,zbT];unfold zae;rw[zbU t i pt a _ _ _ (XQ _),SV];rw[steps,steps];unfold PY;rw[bq (by show ¬ 0>0;lia)]
theorem Zr(t):∀(f i pt:Nat) (a:Option Nat) (n:Nat) (j:Nat),(walk t.mask f i pt)[n]?=some j->(steps t n (zae t.mask i pt a)).j=j
 | 0,_,_,_,_,_,h=>by simp[walk]at h
 | f+1,i,pt,a,n,j,h=>by
  rw[walk]at h;by_cases b:n<(run t.mask i).length
  .rw[VH b]at h;unfold run at h;rw[Xp,List.getElem?_range (by unfold run at b;simpa using b)]at h;have c:(run t.mask i).length=(VA t.mask i-i)+1:=by
    unfold run;rw[ZB,Vt];have:=zbV t.mask i;lia
   unfold zae;rw[zbU t i pt a n _ _ "a"];exact Option.some.inj h
  .rw[Vq "a"]at h;have e:n=(run t.mask i).length+(n-(run t.mask i).length):="a"
   rw[e,zbT,ziR];exact Zr t f _ _ a _ j h
theorem zfT(t)(Vu)(h):∀(n F:Nat) (p:RE),(∀k,k<n->∃i,t.slot (steps t k p).j=.live i/\(Vu i==h)=false)->n<=F->TL t Vu h F p=TL t Vu h (F-n) (steps t n p)
 | 0,F,p,_,_=>rfl
 | n+1,F,p,hk,d=>by
  obtain⟨a,rfl⟩:∃a,F=a+1:=⟨F-1,"a"⟩;obtain⟨i,h1,h2⟩:=hk 0 "a";have b:t.slot p.j=.live i:=h1;rw[TL,b];show (if (Vu i==h)=true then _ else _)=_;rw[bq (by rw[h2];decide),zfT t Vu h n a (t.advance p) (λk c=>hk (k+1) "a") "a",Nat.add_sub_add_right];rfl
def Up(xs:Array Nat):Prop:=∀i j,i<j->j<xs.size->xs.getD i 0<xs.getD j 0
def zmD(U:Up xs)(j):∀(f lo a:Nat),a-lo<=f->lo<=a->a<=xs.size->(∀i,i<lo->xs.getD i 0<j)->(∀i,a<=i->i<xs.size->j<=xs.getD i 0) ->
  Vs xs j f lo a<=xs.size/\(∀i,i<Vs xs j f lo a->xs.getD i 0<j)/\(∀i,Vs xs j f lo a<=i->i<xs.size->j<=xs.getD i 0):=by
 intro f;induction f with
 | zero =>
  intro lo a n o d h1 h2;have:lo=a:="a"
  subst this;exact⟨d,h1,h2⟩
 | succ f m =>
  intro lo a n o d h1 h2;by_cases b:lo<a
  .have q:(lo+a)/2<a:="a"
   have p:lo<=(lo+a)/2:="a"
   have c:(lo+a)/2<xs.size:="a"
   have e:xs.getD ((lo+a)/2) j=xs.getD ((lo+a)/2) 0:=by
    simp[Array.getD,c]
   have l:Vs xs j (f+1) lo a=if xs.getD ((lo+a)/2) 0<j then Vs xs j f ((lo+a)/2+1) a else Vs xs j f lo ((lo+a)/2):=by
    rw[Vs,bw b];show (if xs.getD ((lo+a)/2) j<j then _ else _)=_;rw[e]
   by_cases g:xs.getD ((lo+a)/2) 0<j
   .rw[l,bw g];refine m ((lo+a)/2+1) a "a" "a" d (λi h=>?_) h2;by_cases he:i=(lo+a)/2
    .rw[he];exact g
    .exact Tr (U i ((lo+a)/2) "a" c) g
   .rw[l,bq g];refine m lo ((lo+a)/2) "a" "a" "a" h1 (λi h k=>?_);by_cases he:i=(lo+a)/2
    .rw[he];lia
    .have:=U ((lo+a)/2) i "a" k;lia
  .rw[Vs,bq b];have:lo=a:="a"
   subst this;exact⟨d,h1,h2⟩
def Yi(U:Up xs)(j):Xo xs j<=xs.size/\(∀i,i<Xo xs j->xs.getD i 0<j)/\(∀i,Xo xs j<=i->i<xs.size->j<=xs.getD i 0) :=
 zmD U j xs.size 0 xs.size "a" (W2 _) (XQ _) (λ_ h=>absurd h (TY _)) (λi h1 h2=>absurd h2 "a")
def Zs{xs:Array Nat}(h:i<xs.size):xs[i]?=some (xs.getD i 0):=by
 simp[Array.getD,h]
def Yj{t:Wx}(U:Up t.place)(a:i<t.place.size):t.slot (t.place.getD i 0)=.live i:=by
 have b:=Yi U (t.place.getD i 0);have e:Xo t.place (t.place.getD i 0)=i:=by
  rcases Rc (Xo t.place (t.place.getD i 0)) i with h | h | h
  .have h1:=b.2.2 _ (XQ _) "a";have h2:=U _ i h a;lia
  .exact h
  .have:=b.2.1 i h;lia
 unfold SetTable.slot;simp only[e,Zs a];rw[bw "s"]
def slot_of{t:Wx}(U:Up t.place)(f:t.dummies=#[])(j):(∃i,i<t.place.size/\t.place.getD i 0=j/\t.slot j=.live i)\/(t.slot j=.empty/\∀i,i<t.place.size->t.place.getD i 0≠j):=by
 by_cases h:∃i,i<t.place.size/\t.place.getD i 0=j
 .obtain⟨i,a,rfl⟩:=h;exact .inl ⟨i,a,rfl,Yj U a⟩
 .have d:∀i,i<t.place.size->t.place.getD i 0≠j:=λi a e=>h ⟨i,a,e⟩;refine .inr ⟨?_,d⟩;unfold SetTable.slot;have h1:¬ ((t.place[Xo t.place j]?==some j)=true):=λz=>by
   have b:t.place[Xo t.place j]?=some j:=by simpa using z
   have c:Xo t.place j<t.place.size:=by
    rcases T6 (Xo t.place j) t.place.size with q | q
    .exact q
    .rw[Wy q]at b;cases b
   rw[Zs c]at b;exact d _ c (Option.some.inj b)
  simp only[];rw[bq h1,f];rfl
def Reach(t:Wx)(h:Int)(j:Nat):Prop:=∃n:Nat,(walk t.mask (W3 t.mask) (XB h%(t.mask+1)) (XB h))[n]?=some j/\∀k:Nat,k<n->∀a,(walk t.mask (W3 t.mask) (XB h%(t.mask+1)) (XB h))[k]?=some a->∃i,i<t.place.size/\t.place.getD i 0=a
def za9(t:Wx)(h):t.probeStart h=zae t.mask (XB h%(t.mask+1)) (XB h) none:=rfl
theorem zhe(t):∀n p,(steps t n p).dummy=p.dummy
 | 0,_=>rfl
 | n+1,p=>by
  rw[steps,zhe t n];unfold PY;split<;>rfl
def zhf(U:Up t.place)(Vu)(B:i<t.place.size)(z:Vu i=h)(one:∀e,e<t.place.size->Vu e=h->e=i)(R:Reach t h (t.place.getD i 0)):∃v,t.probe Vu h (t.probeStart h)=some (.candidate (t.place.getD i 0) i v):=by
 obtain⟨n,y,hk⟩:=R;have x:=(X6.mp y).1;have J:=zdp t.mask (W3 t.mask) (XB h%(t.mask+1)) (XB h);have u:∀m:Nat,m<=n->(∀k,k<m->∃e,t.slot (steps t k (t.probeStart h)).j=.live e/\(Vu e==h)=false)\/∃f,f<m/\(∀k,k<f->∃e,t.slot (steps t k (t.probeStart h)).j=.live e/\(Vu e==h)=false)/\t.slot (steps t f (t.probeStart h)).j=.live i/\(steps t f (t.probeStart h)).j=t.place.getD i 0:=λm=>by
  induction m with
  | zero=>exact λ_=>.inl λk hk=>absurd hk (TY _)
  | succ m I =>
   intro E;rcases I "a" with h1 | ⟨f,a,b⟩
   .have H:∃q,(walk t.mask (W3 t.mask) (XB h%(t.mask+1)) (XB h))[m]?=some q:=⟨_,X0 "a"⟩;obtain⟨q,p⟩:=H;obtain⟨e,o,l⟩:=hk m "a" q p;have g:(steps t m (t.probeStart h)).j=q:=by
     rw[za9];exact Zr t _ _ _ none m q p
    have r:t.slot (steps t m (t.probeStart h)).j=.live e:=by
     rw[g,<- l];exact Yj U o
    by_cases he:Vu e=h
    .have:=one e o he;subst this;exact .inr ⟨m,"a",h1,r,by rw[g,l]⟩
    .refine .inl λk D=>?_;by_cases s:k=m
     .subst s;exact⟨e,r,↑he⟩
     .exact h1 k "a"
   .exact .inr ⟨f,"a",b⟩
 have fin:∀m:Nat,m<10*W3 t.mask->(∀k,k<m->∃e,t.slot (steps t k (t.probeStart h)).j=.live e/\(Vu e==h)=false)->t.slot (steps t m (t.probeStart h)).j=.live i->(steps t m (t.probeStart h)).j=t.place.getD i 0->∃v,t.probe Vu h (t.probeStart h)=some (.candidate (t.place.getD i 0) i v):=λm E G r g=>by
  unfold SetTable.probe;rw[zfT t Vu h m _ _ G "a"];obtain⟨w,A⟩:∃w,10*W3 t.mask-m=w+1:=⟨10*W3 t.mask-m-1,"a"⟩;rw[A,TL,r];simp only[];rw[bw ↑z,g];exact⟨_,rfl⟩
 rcases u n (XQ _) with h1 | ⟨f,a,b,c,d⟩
 .have g:(steps t n (t.probeStart h)).j=t.place.getD i 0:=by
   rw[za9];exact Zr t _ _ _ none n _ y
  exact fin n "a" h1 (by rw[g];exact Yj U B) g
 .exact fin f "a" b c d
def zfU(U:Up t.place)(z:t.dummies=#[])(Vu)(H:∀i,i<t.place.size->Vu i≠h)(he:∀i,i<t.place.size->t.place.getD i 0≠e)(D:e∈walk t.mask (W3 t.mask) (XB h%(t.mask+1)) (XB h)) :
  ∃j,t.probe Vu h (t.probeStart h)=some (.empty j none)/\t.slot j=.empty/\Reach t h j/\j∈walk t.mask (W3 t.mask) (XB h%(t.mask+1)) (XB h):=by
 obtain⟨N,u⟩:=Pd.mp D;have v:=(X6.mp u).1;have L:=zdp t.mask (W3 t.mask) (XB h%(t.mask+1)) (XB h);have r:∀m:Nat,m<=N+1->(∀k:Nat,k<m->∀f,(walk t.mask (W3 t.mask) (XB h%(t.mask+1)) (XB h))[k]?=some f->∃i,i<t.place.size/\t.place.getD i 0=f)\/∃g j:Nat,g<m/\(walk t.mask (W3 t.mask) (XB h%(t.mask+1)) (XB h))[g]?=some j/\t.slot j=.empty/\(∀k:Nat,k<g->∀f,(walk t.mask (W3 t.mask) (XB h%(t.mask+1)) (XB h))[k]?=some f->∃i,i<t.place.size/\t.place.getD i 0=f):=λm=>by
  induction m with
  | zero=>exact λ_=>.inl λk hk=>absurd hk (TY _)
  | succ m E =>
   intro J;rcases E "a" with h1 | ⟨g,j,a,b⟩
   .obtain⟨f,l⟩:∃f,(walk t.mask (W3 t.mask) (XB h%(t.mask+1)) (XB h))[m]?=some f:=⟨_,X0 "a"⟩;rcases slot_of U z f with ⟨i,o,p,_⟩ | ⟨I,_⟩
    .refine .inl λk A G n=>?_;by_cases q:k=m
     .subst q;rw[l]at n;exact⟨i,o,by rw[p];exact Option.some.inj n⟩
     .exact h1 k "a" G n
    .exact .inr (dW m f "a" l I h1)
   .exact .inr ⟨g,j,"a",b⟩
 rcases r (N+1) (XQ _) with h1 | ⟨g,j,a,b,c,d⟩
 .obtain⟨i,o,p⟩:=h1 N "a" e u;exact absurd p (he i o)
 .refine⟨j,?_,c,⟨g,b,d⟩,X7 b⟩;have x:(steps t g (t.probeStart h)).j=j:=by
   rw[za9];exact Zr t _ _ _ none g j b
  have B:∀k,k<g->∃w,t.slot (steps t k (t.probeStart h)).j=.live w/\(Vu w==h)=false:=λk hk=>by
   obtain⟨f,l⟩:∃f,(walk t.mask (W3 t.mask) (XB h%(t.mask+1)) (XB h))[k]?=some f:=⟨_,X0 "a"⟩;obtain⟨i,o,p⟩:=d k hk f l;refine⟨i,?_,by simpa using H i o⟩;have:(steps t k (t.probeStart h)).j=f:=by
    rw[za9];exact Zr t _ _ _ none k f l
   rw[this,<- p];exact Yj U o
  unfold SetTable.probe;rw[zfT t Vu h g _ _ B "a"];obtain⟨s,y⟩:∃s,10*W3 t.mask-g=s+1:=⟨10*W3 t.mask-g-1,"a"⟩;rw[y,TL,x,c];simp only[zhe];rfl
def orb(m:Nat):Nat->Nat->Nat
 | 0,i=>i
 | n+1,i=>orb m n ((i*5+1)%m)
def zlk(m:Nat):Nat->Nat->List Nat
 | 0,_=>[]
 | n+1,i=>i::zlk m n ((i*5+1)%m)
theorem zdq(m):∀(n i e:Nat),e∈zlk m n i->∃k,k<n/\orb m k i=e
 | 0,_,_,h=>nomatch h
 | n+1,i,e,h=>by
  rcases XG.mp h with rfl | h
  .exact⟨0,SU _,rfl⟩
  .obtain⟨k,hk,q⟩:=zdq m n _ e h;exact⟨k+1,"a",q⟩
theorem zcW(m):∀a b i,orb m (a+b) i=orb m b (orb m a i)
 | 0,b,i=>by rw[VT];rfl
 | a+1,b,i=>by
  rw[show a+1+b=(a+b)+1 from by lia];exact zcW m a b _
def full(h1:∀e,e<m->e∈zlk m m 0)(h2:orb m m 0=0)(f:i<m)(he:e<m):∃k,k<m+1/\orb m k i=e:=by
 obtain⟨a,g,c⟩:=zdq m m 0 i (h1 i f);obtain⟨b,h,d⟩:=zdq m m 0 e (h1 e he);rcases T6 b a with q | q
 .refine⟨m-a+b,"a",?_⟩;rw[<- c,<- zcW,show a+(m-a+b)=m+b from by lia,zcW,h2,d]
 .refine⟨b-a,"a",?_⟩;rw[<- c,<- zcW,show a+(b-a)=b from by lia,d]
def zqt:(∀e,e<8->e∈zlk 8 8 0)/\orb 8 8 0=0:="q"
def zmE:(∀e,e<32->e∈zlk 32 32 0)/\orb 32 32 0=0:="q"
def zj3:(∀e,e<128->e∈zlk 128 128 0)/\orb 128 128 0=0:="q"
def Yk(a:Nat):Nat->Nat->Nat->AA
 | 0,i,p=>(i,p)
 | n+1,i,p=>Yk a n (Va a i p).1 (Va a i p).2
theorem ze7(c):∀a b i p,Yk c (a+b) i p=Yk c b (Yk c a i p).1 (Yk c a i p).2
 | 0,b,i,p=>by rw[VT];rfl
 | a+1,b,i,p=>by
  rw[show a+1+b=(a+b)+1 from by lia];exact ze7 c a b _ _
theorem zj4(a):∀n i p,(Yk a n i p).2=p/32^n
 | 0,i,p=>by rw[Nat.pow_zero,Nat.div_one];rfl
 | n+1,i,p=>by
  rw[Yk,zj4 a n];show p/32/32^n=_;rw[Nat.div_div_eq_div_mul,N2,Pw]
theorem zhg(a):∀n i p,i<a+1->(Yk a n i p).1<a+1
 | 0,i,p,h=>h
 | n+1,i,p,h=>zhg a n _ _ (RJ _ (SU _))
theorem ze8(a):∀n i,(Yk a n i 0).1=orb (a+1) n i
 | 0,_=>rfl
 | n+1,i=>by
  have b:(Va a i 0).1=(i*5+1)%(a+1):=rfl;have c:(Va a i 0).2=0:=rfl;rw[Yk,b,c];exact ze8 a n _
theorem head_mem(a):∀(f n i p:Nat),n<f->(Yk a n i p).1∈walk a f i p
 | 0,_,_,_,h=>absurd h (TY _)
 | f+1,0,i,p,_=>by
  rw[walk];refine Xa _ ?_;unfold run;refine XE.mpr ⟨0,We.mpr ?_,"r"⟩;have:=zbV a i;lia
 | f+1,n+1,i,p,h=>by
  rw[walk];exact Xm _ (head_mem a f n _ _ "a")
def zhh(g:a=7\/a=31\/a=127)(h)(he:e<a+1):e∈walk a (W3 a) (XB h%(a+1)) (XB h):=by
 have f:XB h<2^64:=by
  unfold XB;have h1:=Wu h (show (2^64:Int)≠0 by decide);have h2:=WB h (show (0:Int)<2^64 by decide);lia
 have i:(Yk a 13 (XB h%(a+1)) (XB h)).2=0:=by
  rw[zj4];exact Nat.div_eq_of_lt (Tr f "d")
 have b:=zhg a 13 (XB h%(a+1)) (XB h) (RJ _ (SU _));obtain⟨k,hk,d⟩:∃k,k<a+1+1/\orb (a+1) k (Yk a 13 (XB h%(a+1)) (XB h)).1=e:=by
  rcases g with rfl | rfl | rfl
  .exact full zqt.1 zqt.2 b he
  .exact full zmE.1 zmE.2 b he
  .exact full zj3.1 zj3.2 b he
 have c:=head_mem a (W3 a) (13+k) (XB h%(a+1)) (XB h) (by unfold W3;lia);rw[ze7,i,ze8,d]at c;exact c
def QM(xs)(x:α):(Xe xs p x).toList=xs.toList.take p++x::xs.toList.drop p:=by
 unfold Xe;simp;rw[Wd (by rw[UM,XX];lia)]
def zmF(xs)(b:p<=xs.size)(x:α)(i):(Xe xs p x)[i]?=if i<p then xs[i]? else if i=p then some x else xs[i-1]?:=by
 have a:(xs.toList.take p).length=p:=by
  rw[XH,XX];lia
 rw[<- W6,QM];by_cases h1:i<p
 .rw[bw h1,VH "a",QP h1,W6]
 .rw[bq h1,Vq "a",a];by_cases h2:i=p
  .rw[bw h2,h2,SV];rfl
  .rw[bq h2,show i-p=(i-p-1)+1 from by lia,List.getElem?_cons_succ,List.getElem?_drop,W6];congr 1;lia
def j6(xs)(a:p<=xs.size)(x:α):(Xe xs p x).size=xs.size+1:=by
 rw[<- XX,QM,XZ,Xf,XH,UM,XX];lia
def Yl(xs)(a:p<=xs.size)(x i)(b:i<xs.size+1):(Xe xs p x).getD i 0=if i<p then xs.getD i 0 else if i=p then x else xs.getD (i-1) 0:=by
 have h:=zmF xs a x i;rw[Zs (by rw[j6 xs a x];exact b)]at h;by_cases h1:i<p
 .rw[bw h1]at h ⊢;rw[Zs "a"]at h;exact Option.some.inj h
 .rw[bq h1]at h ⊢;by_cases h2:i=p
  .rw[bw h2]at h ⊢;exact Option.some.inj h
  .rw[bq h2]at h ⊢;rw[Zs "a"]at h;exact Option.some.inj h
def zmG{t:Wx}(U:Up t.place)(l:t.dummies=#[])(he:∀i,i<t.place.size->t.place.getD i 0≠j):(t.put j).2=Xo t.place j/\(t.put j).1={ t with place:=Xe t.place (Xo t.place j) j }/\Up (Xe t.place (Xo t.place j) j):=by
 have b:=Yi U j;refine⟨rfl,?_,λa c f h=>?_⟩
 .unfold SetTable.put;simp only[l];rfl
 .rw[j6 _ b.1]at h;rw[Yl _ b.1 _ _ "a",Yl _ b.1 _ _ h];have lo:∀i,i<Xo t.place j->t.place.getD i 0<j:=b.2.1;have k:∀i,Xo t.place j<=i->i<t.place.size->j<t.place.getD i 0:=λi h1 h2=>by
   have:=b.2.2 i h1 h2;have:=he i h2;lia
  by_cases d:a<Xo t.place j
  .rw[bw d];by_cases c1:c<Xo t.place j
   .rw[bw c1];exact U a c f "a"
   .rw[bq c1];by_cases e:c=Xo t.place j
    .rw[bw e];exact lo a d
    .rw[bq e];have h1:=lo a d;have h2:=k (c-1) "a" "a";lia
  .have c1:¬ c<Xo t.place j:="a"
   have e:¬ c=Xo t.place j:="a"
   rw[bq d,bq c1,bq e];by_cases g:a=Xo t.place j
   .rw[bw g];exact k (c-1) "a" "a"
   .rw[bq g];exact U (a-1) (c-1) "a" "a"
def Reach.more(g:t'.mask=t.mask)(l:∀i,i<t.place.size->∃a,a<t'.place.size/\t'.place.getD a 0=t.place.getD i 0)(R:Reach t h j):Reach t' h j:=by
 obtain⟨n,h1,h2⟩:=R;unfold Reach;rw[g];refine⟨n,h1,λk hk m d=>?_⟩;obtain⟨i,f,e⟩:=h2 k hk m d;obtain⟨a,c,b⟩:=l i f;exact⟨a,c,b.trans e⟩
def zmH{t:Wx}(U:Up t.place)(j):∀i,i<t.place.size->∃a,a<(Xe t.place (Xo t.place j) j).size/\(Xe t.place (Xo t.place j) j).getD a 0=t.place.getD i 0:=λi c=>by
 have b:=Yi U j;by_cases h:i<Xo t.place j
 .refine⟨i,by rw[j6 _ b.1];lia,?_⟩;rw[Yl _ b.1 _ _ "a",bw h]
 .refine⟨i+1,by rw[j6 _ b.1];lia,?_⟩;rw[Yl _ b.1 _ _ "a",bq "a",bq "a",Rx]
theorem zj5(a)(owner):∀(f i p:Nat),SetTable.layClean.free a owner f i p=(walk a f i p).find? λj=>(owner.getD j (some 0)).isNone
 | 0,_,_=>rfl
 | f+1,i,p=>by
  rw[SetTable.layClean.free,walk,List.find?_append];unfold run;rw[List.find?_map];have e:((λj=>(owner.getD j (some 0)).isNone)∘λx=>i+x)=λk=>(owner.getD (i+k) (some 0)).isNone:=rfl;rw[e];cases h:(VU (VA a i+1-i)).find? λk=>(owner.getD (i+k) (some 0)).isNone with
  | some k=>rfl
  | none =>
   simp only[Option.map_none,Option.none_or];exact zj5 a owner f _ _
structure Own (mask:Nat)(hs:List Int)(owner:Array (Option Nat))(k:Nat):Prop where
 sz:owner.size=mask+1
 few:(owner.toList.countP λo=>o.isNone)+k=mask+1
 at_:∀i,i<k->∃j:Nat,owner[j]?=some (some i)/\∃n:Nat,(walk mask (W3 mask) (XB (hs.getD i 0)%(mask+1)) (XB (hs.getD i 0)))[n]?=some j/\∀m:Nat,m<n->∀j':Nat,(walk mask (W3 mask) (XB (hs.getD i 0)%(mask+1)) (XB (hs.getD i 0)))[m]?=some j'->∃o,owner[j']?=some (some o)
 lt:∀j i:Nat,owner[j]?=some (some i)->i<k
 inj:∀j j' i:Nat,owner[j]?=some (some i)->owner[j']?=some (some i)->j=j'
def Own.nil(a)(b):Own a b (Array.replicate (a+1) none) 0:=by
 refine⟨"s",by rw[Array.toList_replicate,List.countP_replicate];rfl,λi h=>absurd h (TY _),λj i h=>?_,λj c i h=>?_⟩
 .rw[P8]at h;split at h<;>cases h
 .rw[P8]at h;split at h<;>cases h
def count_set{l:List (Option Nat)}:∀{j:Nat} (k:Nat),l[j]?=some none->(l.set j (some k)).countP (λo=>o.isNone)+1=l.countP λo=>o.isNone:=by
 induction l with
 | nil=>exact λ_ h=>by simp at h
 | cons o r a =>
  intro j k h;cases j with
  | zero =>
   have:o=none:=by simpa using h
   subst this;simp[Vw]
  | succ j =>
   have:=a k ↑h;rw[List.set_cons_succ,Vw,Vw];lia
def zll{l:List (Option Nat)}(h:0<l.countP λo=>o.isNone):∃j:Nat,l[j]?=some none:=by
 obtain⟨o,c,b⟩:=List.countP_pos_iff.mp h;obtain⟨j,a⟩:=Pd.mp c;refine⟨j,?_⟩;rw[a];cases o with
 | none=>rfl
 | some _=>cases b
def getD_none{owner:Array (Option Nat)}:(owner.getD j (some 0)).isNone=true↔owner[j]?=some none:=by
 by_cases h:j<owner.size
 .have e:owner[j]?=some (owner.getD j (some 0)):=by simp[Array.getD,h]
  rw[e];cases owner.getD j (some 0)<;>simp
 .have e:owner.getD j (some 0)=some 0:=by simp[Array.getD,h]
  rw[e,Wy "a"];simp
theorem zfV(a):∀(f i p:Nat),i<a+1->∀j∈walk a f i p,j<a+1
 | 0,_,_,_,_,h=>nomatch h
 | f+1,i,p,c,j,h=>by
  rw[walk]at h;rcases XV.mp h with h | h
  .unfold run at h;obtain⟨k,hk,rfl⟩:=XE.mp h;have b:=We.mp hk;have:VA a i<=a:=by
    unfold VA;split<;>lia
   lia
  .exact zfV a f _ _ (RJ _ (SU _)) j h
def Own.step(J:d=7\/d=31\/d=127)(O:Own d g owner k)(hk:k<d+1):∃j,SetTable.layClean.free d owner (W3 d) (XB (g.getD k 0)%(d+1)) (XB (g.getD k 0))=some j/\Own d g (owner.setIfInBounds j (some k)) (k+1):=by
 obtain⟨e,he⟩:=zll (l:=owner.toList) (by have:=O.few;lia);rw[W6]at he;have I:e<owner.size:=by
  rcases T6 e owner.size with q | q
  .exact q
  .rw[Wy q]at he;cases he
 have M:=zhh J (g.getD k 0) (e:=e) (by have:=O.sz;lia);rw[zj5];cases A:(walk d (W3 d) (XB (g.getD k 0)%(d+1)) (XB (g.getD k 0))).find? λj=>(owner.getD j (some 0)).isNone with
 | none =>
  have:=List.find?_eq_none.mp A e M;exact absurd (getD_none.mpr he) this
 | some j =>
  refine⟨j,rfl,?_⟩;have y:owner[j]?=some none:=getD_none.mp (List.find?_some (p:=λj=>(owner.getD j (some 0)).isNone) A);have D:j<owner.size:=by
   rcases T6 j owner.size with q | q
   .exact q
   .rw[Wy q]at y;cases y
  have get:∀i:Nat,(owner.setIfInBounds j (some k))[i]?=if j=i then some (some k) else owner[i]?:=λi=>by
   rw[R3];by_cases h:j=i
   .rw[bw h,bw h];simp[D]
   .rw[bq h,bq h]
  have keep:∀(i o:Nat),owner[i]?=some (some o)->(owner.setIfInBounds j (some k))[i]?=some (some o):=λi o h=>by
   rw[get,bq (λz=>by rw[<- z,y]at h;cases h)];exact h
  refine⟨by rw[Array.size_setIfInBounds];exact O.sz,?_,λi Q=>?_,λr i h=>?_,λG H i h1 h2=>?_⟩
  .rw[Tu];have:=count_set (l:=owner.toList) (j:=j) k (by rw[W6];exact y);have:=O.few;lia
  .by_cases B:i=k
   .subst B;refine⟨j,by rw[get,bw rfl],?_⟩;refine gH (λ_ as bs u L=>?_) (List.find?_eq_some_iff_append.mp A);refine⟨as.length,by rw[u];simp,λm v r f=>?_⟩;rw[u,VH v]at f;have s:=X7 f;have x:=L r s;have E:r∈walk d (W3 d) (XB (g.getD i 0)%(d+1)) (XB (g.getD i 0)):=by
     rw[u];exact Xa _ s
    cases w:owner[r]? with
    | none =>
     have:=zfV d (W3 d) _ _ (RJ _ (SU _)) r E;rw[Vp.mpr ⟨by rw[O.sz];exact this,rfl⟩]at w;cases w
    | some o =>
     cases o with
     | none =>
      rw[getD_none.mpr w]at x;cases x
     | some o=>exact⟨o,keep r o w⟩
   .refine fW (λN a n b c=>?_) (O.at_ i "a");refine eV N (keep _ _ a) n b (λm v r f=>?_);obtain⟨o,w⟩:=c m v r f;exact⟨o,keep _ _ w⟩
  .rw[get]at h;split at h
   .have:k=i:=by simpa using h
    lia
   .have:=O.lt r i h;lia
  .rw[get]at h1 h2;split at h1<;>split at h2
   .lia
   .have:k=i:=by simpa using h1
    have:=O.lt H i h2;lia
   .have:k=i:=by simpa using h2
    have:=O.lt G i h1;lia
   .exact O.inj G H i h1 h2
theorem zhi(i:a=7\/a=31\/a=127)(c)(p:c.length<=a+1):∀(l done:List Int) (owner:Array (Option Nat)),c=done++l->Own a c owner done.length ->
  ∃b,l.foldl (λ(f:Option (Array (Option Nat)×Nat)) h=>do
   let (owner,k) <- f
   let j <- SetTable.layClean.free a owner (W3 a) (XB h%(a+1)) (XB h)
   pure (owner.setIfInBounds j (some k),k+1)) (some (owner,done.length))=some (b,c.length)/\Own a c b c.length
 | [],done,owner,e,O=>by
  rw[W5]at e;subst e;exact⟨owner,rfl,O⟩
 | h::r,done,owner,e,O=>by
  have o:c.getD done.length 0=h:=by
   rw[e];simp[List.getD]
  have d:done.length<a+1:=by
   have:c.length=done.length+(r.length+1):=by rw[e,XZ,Xf]
   lia
  obtain⟨j,g,m⟩:=O.step i d;rw[o]at g;obtain⟨b,h1,h2⟩:=zhi i c p r (done++[h]) (owner.setIfInBounds j (some done.length)) (by rw[e,Ww];rfl) (by rw[XZ];exact m);refine⟨b,?_,h2⟩;rw[XZ]at h1;rw[V6];have n:(do
   let (owner,k) <- (some (owner,done.length):Option (Array (Option Nat)×Nat))
   let j <- SetTable.layClean.free a owner (W3 a) (XB h%(a+1)) (XB h)
   pure (owner.setIfInBounds j (some k),k+1))=some (owner.setIfInBounds j (some done.length),done.length+1):=by
   show (SetTable.layClean.free a owner (W3 a) (XB h%(a+1)) (XB h)).bind _=_;rw[g];rfl
  rw[n];exact h1
def zrx(d:b=7\/b=31\/b=127)(a)(c:a.size<=b+1):∃owner,SetTable.layClean b a=some owner/\Own b a.toList owner a.size:=by
 obtain⟨owner,h1,h2⟩:=zhi d a.toList (by rw[XX];exact c) a.toList [] _ rfl (Own.nil b _);rw[XX]at h1 h2;refine⟨owner,?_,h2⟩;unfold SetTable.layClean;rw[<- Array.foldl_toList];exact congrArg (Option.map (·.1)) h1
def jb(a:Nat)(owner:Array (Option Nat)):AB:=(VU (a+1)).filterMap λj=>(owner.getD j none).map (j,·)
def Zt(sz:owner.size=c+1):(j,i)∈jb c owner↔owner[j]?=some (some i):=by
 unfold jb;rw[Vg];constructor
 .rintro⟨a,ha,h⟩;have d:a<owner.size:=by rw[sz];exact We.mp ha
  have e:owner[a]?=some (owner.getD a none):=by simp[Array.getD,d]
  cases ho:owner.getD a none with
  | none =>
   rw[ho]at h;cases h
  | some b =>
   rw[ho]at h;have f:(a,b)=(j,i):=Option.some.inj h;cases f;rw[e,ho]
 .intro h;have d:j<owner.size:=by
   rcases T6 j owner.size with q | q
   .exact q
   .rw[Wy q]at h;cases h
  have e:owner[j]?=some (owner.getD j none):=by simp[Array.getD,d]
  refine⟨j,We.mpr (by rw[<- sz];exact d),?_⟩;rw[e]at h;rw[Option.some.inj h];rfl
def zj6(c)(owner):(jb c owner).Pairwise λa b=>a.1<b.1:=by
 unfold jb;rw[List.pairwise_filterMap];refine List.pairwise_lt_range.imp λ{a b} f x d y e=>?_;cases h1:owner.getD a none with
 | none=>rw[h1]at d;cases d
 | some p =>
  cases h2:owner.getD b none with
  | none=>rw[h2]at e;cases e
  | some q =>
   rw[h1]at d;rw[h2]at e;have g:(a,p)=x:=Option.some.inj d;have h:(b,q)=y:=Option.some.inj e;rw[<- g,<- h];exact f
def zlm(O:Own c s owner k):((jb c owner).map (·.2)).Perm (VU k):=by
 have u:((jb c owner).map (·.2)).Nodup:=by
  refine V3.mpr ((zj6 c owner).imp_of_mem λ{a b} o p d e=>?_);obtain⟨f,g⟩:=a;obtain⟨h,m⟩:=b;have n:g=m:=e;subst n;have:=O.inj f h g ((Zt O.sz).mp o) ((Zt O.sz).mp p);have l:f<h:=d;lia
 refine(WV u List.nodup_range).mpr λi=>?_;rw[We,XE];constructor
 .rintro⟨⟨j,i'⟩,hm,rfl⟩;exact O.lt j _ ((Zt O.sz).mp hm)
 .intro q;obtain⟨j,r,_⟩:=O.at_ i q;exact⟨(j,i),(Zt O.sz).mpr r,rfl⟩
def zpb(G:mask=7\/mask=31\/mask=127)(finger moves)(led plain)(e)(E:e.size<=mask+1):∃place f,SetTable.laid mask finger moves led plain e=some ({ mask:=mask,place:=place,dummies:=#[],finger:=finger,led:=led,moves:=moves,plain:=plain },f) /\
  Up place/\place.size=e.size/\f.size=e.size/\f.toList.Perm (VU e.size)/\(∀i,i<place.size->place.getD i 0<mask+1) /\
  ∀i,i<place.size->Reach { mask:=mask,place:=place,dummies:=#[],finger:=finger,led:=led,moves:=moves,plain:=plain } (e.toList.getD (f.getD i 0) 0) (place.getD i 0):=by
 obtain⟨d,h1,O⟩:=zrx G e E;have perm:=zlm O;have up:=zj6 mask d;have z:(jb mask d).length=e.size:=by
  have:=perm.length_eq;rw[ZB,Vt]at this;exact this
 have p:∀i (h:i<(jb mask d).length),((jb mask d).map (·.1)).toArray.getD i 0=((jb mask d)[i]).1:=λi h=>by
  simp[Array.getD,h]
 have H:∀i (h:i<(jb mask d).length),((jb mask d).map (·.2)).toArray.getD i 0=((jb mask d)[i]).2:=λi h=>by
  simp[Array.getD,h]
 refine fL ((jb mask d).map (·.1)).toArray ((jb mask d).map (·.2)).toArray ?_ (λi j s D=>?_) (by simp[z]) (by simp[z]) perm (λi r=>?_) (λi r=>?_)
 .unfold SetTable.laid;rw[h1];rfl
 .have m:j<(jb mask d).length:=by simpa using D
  rw[p i "a",p j m];exact Tl.mp up i j "a" m s
 .have g:i<(jb mask d).length:=by simpa using r
  rw[p i g];have l:=UK g;have:=(Zt O.sz (j:=(jb mask d)[i].1) (i:=(jb mask d)[i].2)).mp l;rw[<- O.sz];rcases T6 (jb mask d)[i].1 d.size with q | q
  .exact q
  .rw[Wy q]at this;cases this
 .have g:i<(jb mask d).length:=by simpa using r
  rw[p i g,H i g];have l:=UK g;have v:=(Zt O.sz (j:=(jb mask d)[i].1) (i:=(jb mask d)[i].2)).mp l;refine fW (λI a n b c=>?_) (O.at_ _ (O.lt _ _ v));have A:=O.inj _ _ _ a v;rw[A]at b;refine⟨n,b,λk hk y m=>?_⟩;obtain⟨o,u⟩:=c k hk y m;obtain⟨x,w,B⟩:=R0 ((Zt O.sz).mpr u);refine⟨x,↑w,?_⟩;show ((jb mask d).map (·.1)).toArray.getD x 0=y;rw[p x w,B]
structure Good (t:Wx)(hs:Array Int):Prop where
 mask:t.mask=7\/t.mask=31\/t.mask=127
 sz:t.place.size=hs.size
 dum:t.dummies=#[]
 up:Up t.place
 le:∀i,i<t.place.size->t.place.getD i 0<t.mask+1
 room:t.place.size*5<t.mask*3
 reach:∀i,i<t.place.size->Reach t (hs.toList.getD i 0) (t.place.getD i 0)
def Good.free(G:Good t r):∃e,e<t.mask+1/\∀i,i<t.place.size->t.place.getD i 0≠e:=by
 refine VG λp=>?_;have all:∀e,e<t.mask+1->∃i,i<t.place.size/\t.place.getD i 0=e:=λe he=>VG λh2=>p ⟨e,he,λi c z=>h2 ⟨i,c,z⟩⟩;have y:=G.room;have f:∀e,e<t.mask+1->∃i,i<t.place.size/\e<=i:=λe=>by
  induction e with
  | zero=>exact λh=>let ⟨i,c,_⟩:=all 0 h;⟨i,c,W2 _⟩
  | succ e B =>
   intro h;obtain⟨i,c,n⟩:=all (e+1) h;obtain⟨A,o,j⟩:=all e "a";have cnt:∀d,d<=e+1->∃i,i<t.place.size/\t.place.getD i 0=d/\d<=i:=λd=>by
    induction d with
    | zero=>exact λ_=>let ⟨i,c,he⟩:=all 0 "a";⟨i,c,he,W2 _⟩
    | succ d g =>
     intro w;obtain⟨a,l,v,D⟩:=g "a";obtain⟨b,m,k⟩:=all (d+1) "a";have:a<b:=by
      rcases Rc a b with q | q | q
      .exact q
      .subst q;lia
      .have:=G.up b a q l;lia
     exact⟨b,m,k,"a"⟩
   obtain⟨x,s,_,u⟩:=cnt (e+1) (XQ _);exact⟨x,s,u⟩
 obtain⟨i,c,E⟩:=f t.mask "a";lia
def Good.found(G:Good t a)(Vu)(f:∀i,i<a.size->Vu i=a.toList.getD i 0)(j:a.toList.Nodup)(c:i<a.size):∃l,t.probe Vu (a.toList.getD i 0) (t.probeStart (a.toList.getD i 0))=some (.candidate (t.place.getD i 0) i l):=by
 have d:∀k (h:k<a.size),a.toList.getD k 0=a.toList[k]'(by rw[XX];exact h):=λk h=>by
  rw[XN,X0 (by rw[XX];exact h)];rfl
 refine zhf G.up Vu (by rw[G.sz];exact c) (f i c) (λg b e=>?_) (G.reach i (by rw[G.sz];exact c));rw[G.sz]at b;rw[f g b,d g b,d i c]at e;exact(List.getElem_inj j).mp e
def Good.missed(G:Good t b)(Vu)(g:∀i,i<b.size->Vu i=b.toList.getD i 0)(l:h ∉ b.toList):∃j,t.probe Vu h (t.probeStart h)=some (.empty j none)/\j<t.mask+1/\(∀i,i<t.place.size->t.place.getD i 0≠j)/\Reach t h j:=by
 obtain⟨e,he,k⟩:=G.free;have c:∀i,i<t.place.size->Vu i≠h:=λi a z=>by
  rw[G.sz]at a;rw[g i a,XN,X0 (by rw[XX];exact a)]at z;have m:b.toList[i]'(by rw[XX];exact a)=h:=z;exact l (m ▸ UK _)
 refine gF (λj h1 h2 d f=>?_) (zfU G.up G.dum Vu (h:=h) c k (zhh G.mask h he));refine⟨j,h1,zfV _ _ _ _ (RJ _ (SU _)) j f,λi a z=>?_,d⟩;rw[<- z,Yj G.up a]at h2;cases h2
theorem Good.put(G:Good t c)(o:j<t.mask+1)(he:∀i,i<t.place.size->t.place.getD i 0≠j)(R:Reach t h j)(e:(t.place.size+1)*5<t.mask*3):Good (t.put j).1 (Xe c (t.put j).2 h):=by
 obtain⟨n,m,U⟩:=zmG G.up G.dum he;have b:=Yi G.up j;rw[n,m];have bs:Xo t.place j<=c.size:=by rw[<- G.sz];exact b.1
 have d:∀i,(Xe c (Xo t.place j) h).toList.getD i 0=if i<Xo t.place j then c.toList.getD i 0 else if i=Xo t.place j then h else c.toList.getD (i-1) 0:=λi=>by
  rw[XN,W6,zmF c bs];split
  .rw[XN,W6]
  .split
   .rfl
   .rw[XN,W6]
 have more:∀{g:Int} {k:Nat},Reach t g k->Reach { t with place:=Xe t.place (Xo t.place j) j } g k:=λl=>Reach.more (t:=t) (t':={ t with place:=Xe t.place (Xo t.place j) j }) rfl (zmH G.up j) l;refine⟨G.mask,?_,G.dum,U,λi f=>?_,?_,λi f=>?_⟩
 .show (Xe t.place _ j).size=_;rw[j6 _ b.1,j6 _ bs,G.sz]
 .have a:i<t.place.size+1:=by
   have:=f;rw[show ({ t with place:=Xe t.place (Xo t.place j) j }:Wx).place=Xe t.place (Xo t.place j) j from rfl,j6 _ b.1]at this;exact this
  show (Xe t.place _ j).getD i 0<t.mask+1;rw[Yl _ b.1 _ _ a];split
  .exact G.le i "a"
  .split
   .exact o
   .exact G.le (i-1) "a"
 .show (Xe t.place _ j).size*5<t.mask*3;rw[j6 _ b.1];exact e
 .have a:i<t.place.size+1:=by
   have:=f;rw[show ({ t with place:=Xe t.place (Xo t.place j) j }:Wx).place=Xe t.place (Xo t.place j) j from rfl,j6 _ b.1]at this;exact this
  show Reach _ _ ((Xe t.place _ j).getD i 0);rw[d,Yl _ b.1 _ _ a];by_cases h1:i<Xo t.place j
  .rw[bw h1,bw h1];exact more (G.reach i "a")
  .rw[bq h1,bq h1];by_cases h2:i=Xo t.place j
   .rw[bw h2,bw h2];exact more R
   .rw[bq h2,bq h2];exact more (G.reach (i-1) "a")
def ziS(t:Wx)(b)(p:b.size=5\/b.size=19):∃t' a,t.relaid b (Ue b.size)=some (t',a)/\a.size=b.size/\a.toList.Perm (VU b.size)/\t'.led=t.led/\t'.plain=t.plain/\t'.place.size=b.size/\Good t' (a.map λi=>b.toList.getD i 0):=by
 have c:∀mask,(mask=7\/mask=31\/mask=127)->b.size<=mask+1->b.size*5<mask*3->S0 (Ue b.size)-1=mask->∃t' a,t.relaid b (Ue b.size)=some (t',a)/\a.size=b.size/\a.toList.Perm (VU b.size)/\t'.led=t.led/\t'.plain=t.plain/\t'.place.size=b.size/\Good t' (a.map λi=>b.toList.getD i 0):=λmask j o q k=>by
  refine gx (λplace a h1 h2 d g=>fX λl m n=>?_) (zpb j t.finger (t.movedTo mask) t.led t.plain b o);refine fL { mask:=mask,place:=place,dummies:=#[],finger:=t.finger,led:=t.led,moves:=t.movedTo mask,plain:=t.plain } a ?_ g l rfl rfl d ⟨j,?_,rfl,h2,m,?_,λi h=>?_⟩
  .unfold SetTable.relaid;rw[k];exact h1
  .show place.size=_;rw[U5,d,g]
  .show place.size*5<mask*3;rw[d];exact q
  .have f:i<a.size:=by
    have:i<place.size:=h;lia
   have e:(a.map λi=>b.toList.getD i 0).toList.getD i 0=b.toList.getD (a.getD i 0) 0:=by
    rw[XN,W6,Array.getElem?_map,Zs f];rfl
   rw[e];exact n i h
 rcases p with e | e
 .exact c 31 (.inr (.inl rfl)) "a" "a" (by rw[e];decide+kernel)
 .exact c 127 (.inr (.inr rfl)) "a" "a" (by rw[e];decide+kernel)
def qK(a:Array (Int×X9))(ep:Nat)(t:Wx):Obj:={ cls:=.type "set",dict:=none,data:=.set a ep t }
def kP(p:Int×Int):List Key:=[.inl p.1,.inl p.2]
def InB(p:Int×Int):Prop:=(0<=p.1/\p.1<8)/\(0<=p.2/\p.2<8)
def hP(prog:Xu)(w:W9)(p:Int×Int):Int:=(tk2 prog w).hash (kP p)
section
variable {prog:Xu}{w:W9}{A:WZ}{E:X9->X8->Prop}{s:X8}{a:Addr}{es:Array (Int×X9)}{ep:Nat}{t:Wx}
def zry(x:InB p)(y:InB q)(e:hP prog w p=hP prog w q):p=q:=by
 obtain⟨a,b⟩:=p;obtain⟨f,g⟩:=q;obtain⟨⟨h,m⟩,n,o⟩:=x;obtain⟨⟨r,s⟩,u,v⟩:=y;simp only at h m n o r s u v;obtain⟨i,rfl⟩:∃i:Nat,a=i:=⟨a.toNat,"a"⟩;obtain⟨j,rfl⟩:∃i:Nat,b=i:=⟨b.toNat,"a"⟩;obtain⟨k,rfl⟩:∃i:Nat,f=i:=⟨f.toNat,"a"⟩;obtain⟨l,rfl⟩:∃i:Nat,g=i:=⟨g.toNat,"a"⟩;unfold hP kP at e;rw[YW,YW]at e;obtain⟨c,d⟩:=zhc "a" "a" "a" "a" e;rw[c,d]
def Zu(h1:zL h (.ref x) p):(tk2 prog w).is h (kP p) x:=by
 obtain⟨b,o,n,t,u,e,a,c,d⟩:=h1;cases e;exact⟨o,#[.int p.1 t,.int p.2 u],n,a,c,d,.cons (zbH p.1 t) (.cons (zbH p.2 u) .nil)⟩
theorem Good.fits{a:Array Int}(G:Good t a):t.fits a.size=true:=by
 have h1:=G.sz;have h2:=G.room;unfold SetTable.fits Ol;rw[G.dum,h1];simp;lia
def Good.odd{a:Array Int}(G:Good t a):t.gaveWay=false:=by
 unfold SetTable.gaveWay;rcases G.mask with e | e | e<;>rw[e]<;>rfl
def JC(b:s.heap.get? a=some (qK es ep t))(G:Good t (es.map (·.1)))(q:Q (es,ep,t) s):Xw (Xv prog w) A (setState a) Q E s:=by
 refine SM b rfl ?_ q;have:=G.fits;rwa [U5]at this
def zfW(i)(a:i<(es.map (·.1)).size):(es[i]?.map (·.1)).getD 0=(es.map (·.1)).toList.getD i 0:=by
 rw[XN,W6,Array.getElem?_map]
def zem(g:s.heap.get? a=some (qK es ep t))(G:Good t (es.map (·.1)))(k:h ∉ (es.map (·.1)).toList)
  (d:∀j,j<t.mask+1->(∀i,i<t.place.size->t.place.getD i 0≠j)->Reach t h j->Q (.free j false) s):Xw (Xv prog w) A (QR a x h true (n+1) none) Q E s:=by
 obtain⟨j,e,h1,h2,c⟩:=G.missed (λi=>(es[i]?.map (·.1)).getD 0) zfW k;rw[QR];refine Y1 (JC g G ?_);dsimp only;rw[G.odd,bq XJ];generalize f:t.probe _ h _=m;have b:m=some (.empty j none):=f.symm.trans e;subst b;exact XR (d j h1 h2 c)
def ze9{d:Nat}(z:zL s.heap (.ref x) p)(q:Q false s):Xw (Xv prog w) A (SL 8 (.ref x)) Q E s:=by
 obtain⟨b,o,n,t,u,e,j,l,m⟩:=z;cases e;have y:s.TypeIs (.ref x) "tuple":=⟨o,j,l⟩;unfold SL;refine Y1 (RW y ?_);dsimp only;rw[bw "d"];refine Y1 (XR ?_);rw[bq "d"];refine Y1 (wpAny_seqItems j m ?_);dsimp only;refine Y1 ?_;rw[<- Ry];refine Tp _ (λc r h=>r.1=none/\h=s/\∀v∈c,∃i t,v=Vo i t) _ ?_ ?_ _ _ ⟨rfl,rfl,λv k=>?_⟩
 .rintro v c r h ⟨f,rfl,a⟩;obtain⟨i,t,rfl⟩:=a v XU;rw[show SL 7 (Vo i t)=pure false by unfold SL;rfl];refine Y1 (XR ?_);rw[bq XJ];exact XR ⟨rfl,rfl,λu g=>a u (XS _ g)⟩
 .rintro⟨r1,r2⟩ h ⟨f,rfl,_⟩;simp only at f;subst f;exact XR q
 .simp at k;rcases k with rfl | rfl
  .exact⟨_,_,rfl⟩
  .exact⟨_,_,rfl⟩
def zmI(i:zL s.heap (.ref x) p)(j:∀v∈l,∃b q,v=.ref b/\zL s.heap (.ref b) q)(q:Q false s):Xw (Xv prog w) A (searchCouldBeSeen (.ref x) l) Q E s:=by
 unfold searchCouldBeSeen;refine Y1 ?_;refine Tp _ (λc r g=>r.1=none/\g=s/\∀v∈c,∃b q,v=.ref b/\zL s.heap (.ref b) q) _ ?_ ?_ _ _ ⟨rfl,rfl,j⟩
 .rintro v c r g ⟨f,rfl,a⟩;refine fZ (λb k z0 h=>?_) (a v XU);subst z0;dsimp only;split
  .exact XR ⟨rfl,rfl,λu e=>a u (XS _ e)⟩
  .refine Y1 ((tk2 prog w).quiet (Zu i) ?_);rw[bq "d"];refine Y1 ((tk2 prog w).quiet (Zu h) ?_);rw[bq "d"];refine Y1 (ze9 (d:=0) i ?_);rw[bq XJ];refine Y1 (ze9 (d:=0) h ?_);rw[bq XJ];exact XR ⟨rfl,rfl,λu e=>a u (XS _ e)⟩
 .rintro⟨r1,r2⟩ g ⟨f,rfl,_⟩;simp only at f;subst f;exact XR q
def zmJ(y:zL s.heap (.ref x) p)(q:Q true s):Xw (Xv prog w) A (OW 8 (.ref x)) Q E s:=by
 obtain⟨b,o,n,t,u,e,h,k,l⟩:=y;cases e;have m:s.TypeIs (.ref x) "tuple":=⟨o,h,k⟩;unfold OW;refine Y1 (S6 m PySem.F.slot_tuple_hash.lookup ?_);dsimp only;refine Y1 (wpAny_seqItems h l ?_);dsimp only[Option.getD];refine Y1 ?_;rw[<- Ry];refine Tp _ (λc r g=>r.1=none/\g=s/\∀v∈c,∃i t,v=Vo i t) _ ?_ ?_ _ _ ⟨rfl,rfl,λv j=>?_⟩
 .rintro v c r g ⟨d,rfl,a⟩;obtain⟨i,t,rfl⟩:=a v XU;rw[show OW 7 (Vo i t)=pure true by unfold OW;rfl];refine Y1 (XR ?_);rw[bq "d"];exact XR ⟨rfl,rfl,λu f=>a u (XS _ f)⟩
 .rintro⟨r1,r2⟩ g ⟨d,rfl,_⟩;simp only at d;subst d;exact XR q
 .simp at j;rcases j with rfl | rfl
  .exact⟨_,_,rfl⟩
  .exact⟨_,_,rfl⟩
def zfX{i:Nat}(l:A.units<VE)(f:s.heap.get? a=some (qK es ep t))(G:Good t (es.map (·.1)))(z:(es.map (·.1)).toList.Nodup)
  (all:∀e∈es.toList,∃b q,e.2=WU b/\zL s.heap (.ref b) q) (d:es[i]?=some (h,.ref b)) (g:zL s.heap (.ref x) p) (k:zL s.heap (.ref b) p)
  (j:Q (.there none) s):Xw (Xv prog w) A (QR a (.ref x) h true (n+1) none) Q E s:=by
 have c:i<(es.map (·.1)).size:=by
  rw[U5];exact(Vp.mp d).1
 have o:(es.map (·.1)).toList.getD i 0=h:=by
  rw[<- zfW i c,d];rfl
 obtain⟨B,e⟩:=G.found (λi=>(es[i]?.map (·.1)).getD 0) zfW z c;rw[o]at e;rw[QR];refine Y1 (JC f G ?_);dsimp only;rw[G.odd,bq XJ];generalize u:t.probe _ h _=m;have r:m=some (.candidate (t.place.getD i 0) i B):=u.symm.trans e;subst r;dsimp only;have seen:∀v∈(es.filter (·.1==h)).toList.map (·.2),∃b q,v=WU b/\zL s.heap (.ref b) q:=λv y=>by
  obtain⟨e,he,rfl⟩:=XE.mp y;rw[Ox]at he;exact all e (XW.mp he).1
 rw[d];cases hl:t.led with
 | true =>
  rw[bq "d"];refine Y1 (Wp ((tk2 prog w).eqBool l (Zu k) (Zu g) ?_));refine Y1 (JC f G ?_);dsimp only;rw[br rfl,bw "d"];exact XR j
 | false =>
  rw[bw "d"];refine Y1 (zmI g seen ?_);rw[bq XJ];refine Y1 (Wp ((tk2 prog w).eqBool l (Zu k) (Zu g) ?_));refine Y1 (JC f G ?_);dsimp only;rw[br rfl,bw "d"];exact XR j
end
def zdr(f:Int×Int->Int)(q:Addr×(Int×Int)):Int×X9:=(f q.2,WU q.1)
structure zen (f:Int×Int->Int)(led:Bool)(h:Heap)(a:Addr)(ks:List (Addr×(Int×Int))):Prop where
 ex:∃es ep t,h.get? a=some (qK es ep t)/\es.toList=ks.map (zdr f)/\Good t (es.map (·.1))/\t.led=led/\t.plain=true
 nd:(ks.map (·.2)).Nodup
 cells:∀q∈ks,zL h (.ref q.1) q.2
 inb:∀q∈ks,InB q.2
def zL.up(H:zL h (.ref x) p)(j:Wg a h h')(i:h.get? a=some o)(g:o.cls=.type "set"):zL h' (.ref x) p:=by
 obtain⟨b,k,n,t,u,e,c,d,f⟩:=H;cases e;refine⟨x,k,n,t,u,rfl,?_,d,f⟩;rw[j.2 x λz=>?_]
 .exact c
 .subst z;rw[i]at c;cases c;rw[g]at d;exact absurd d "d"
section
variable {prog:Xu}{w:W9}{A:WZ}{E:X9->X8->Prop}{s:X8}{a:Addr}{es:Array (Int×X9)}{ep:Nat}{t:Wx}{ks:List (Addr×(Int×Int))}{f:Int×Int->Int}{led:Bool}
def YX(he:es.toList=ks.map (zdr f)):(es.map (·.1)).toList=ks.map λq=>f q.2:=by
 rw[UJ,he,Wf];rfl
def zln(inj:∀p q,InB p->InB q->f p=f q->p=q)(b:(ks.map (·.2)).Nodup)(a:∀q∈ks,InB q.2):(ks.map λq=>f q.2).Nodup:=by
 rw[Pz,V3]at b ⊢;refine b.imp_of_mem λ{x y} c d h e=>h (inj _ _ (a x c) (a y d) e)
def zhj(c:s.heap.get? a=some (qK es ep t))(hz:b.size<=64)
  (q:∀h',Wg a s.heap h'->h'.get? a=some (qK b (ep+1) t')->Q () { s with heap:=h' }):Xw (Xv prog w) A (storeSet a b t') Q E s:=by
 refine wpAny_storeSet_of (o:=qK es ep t) c rfl (q _ (Wr ..) ?_) (X5 hz (by rw[SZ];decide));have:=WG (Obj.putSet b t') c (by rw[putSet_of b t' (o:=qK es ep t) rfl];rfl);rw[putSet_of b t' (o:=qK es ep t) rfl]at this;exact this
theorem zhk{α:Type}(d)(xs:Array α):∀(l:List Nat),(∀i∈l,i<xs.size)->l.filterMap (λi=>xs[i]?)=l.map λi=>xs.toList.getD i d
 | [],_=>rfl
 | i::l,h=>by
  have a:=h i XU;rw[UZ,Xs,Vl a];dsimp only;rw[zhk d xs l λj b=>h j (XS _ b)];congr 1;rw[XN,W6,Vl a];rfl
def zfY(a:n=5\/n=19):¬ S0 (Ue n)>Xz:=by
 rw[SZ];rcases a with rfl | rfl
 .rw[show S0 (Ue 5)=32 by decide+kernel];lia
 .rw[show S0 (Ue 19)=128 by decide+kernel];lia
def zmK(v:s.heap.get? a=some (qK es ep t))(G:t.fits es.size=true)(u:es.size=5\/es.size=19)(he:es.toList=ks.map (zdr f))
  (q:∀(h':Heap) (c:Array (Int×X9)) (t':Wx) (k:List (Addr×(Int×Int))),Wg a s.heap h'->h'.get? a=some (qK c (ep+1) t')->c.toList=k.map (zdr f)->k.Perm ks->Good t' (c.map (·.1))->t'.led=t.led->t'.plain=t.plain->Q () { s with heap:=h' }):Xw (Xv prog w) A (setRelay a (Ue es.size)) Q E s:=by
 have j:(es.map (·.1)).size=es.size:=U5 ..;refine gx (λt' b p r l x=>fX λy z B=>?_) (ziS t (es.map (·.1)) (by rw[j];exact u));rw[j]at p r l z;have d:∀i∈b.toList,i<es.size:=λi h=>We.mp (l.mem_iff.mp h);have n:ks.length=es.size:=by
  rw[<- XX,he,ZB]
 have e:Addr×(Int×Int):=(0,(0,0));have m:(b.filterMap (es[·]?)).toList=(b.toList.map λi=>ks.getD i e).map (zdr f):=by
  rw[Array.toList_filterMap,zhk (zdr f e) es b.toList d,Wf];refine Wa λi h=>?_;have h1:=d i h;show es.toList.getD i _=zdr f (ks.getD i e);rw[he,XN,Xp,XN,X0 "a",Ux,Tq,Tq]
 have g:(b.filterMap (es[·]?)).size=es.size:=by
  rw[<- XX,m,ZB,ZB,XX,r]
 unfold setRelay;refine Y1 (SM (o:=qK es ep t) v rfl G ?_);dsimp only;rw[bq (zfY u),p];refine Y1 ?_;show Xw (Xv prog w) A (do
  let c:=b.filterMap (es[·]?)
  if c.size != es.size then Rn "internal:set-table-lost-an-element"
  pure (c,t')) _ _ _
 dsimp only;rw[g,bq "s"];refine XR ?_;dsimp only;refine zhj v (by rw[g];lia) λh' h1 h2=>q h' _ t' _ h1 h2 m ?_ ?_ x y
 .have:=l.map λi=>ks.getD i e;rw[<- n,ziJ]at this;exact this
 .have D:(b.filterMap (es[·]?)).map (·.1)=b.map λi=>(es.map (·.1)).toList.getD i 0:=by
   apply Array.toList_inj.mp;rw[YX m,UJ,Wf];refine Wa λi h=>?_;have h1:=d i h;show f (ks.getD i e).2=_;rw[YX he,XN,XN,Xp,X0 "a",Ux,Tq,Tq]
  rw[D];exact B
def zmL(inj:∀p q,InB p->InB q->f p=f q->p=q)(hu:A.units<VE)(S:zen f led s.heap a ks)(hx:zL s.heap (.ref x) p)(hb:InB p)(hn:p ∉ ks.map (·.2)->ks.length<63)
  (q:∀(b:Bool) (h':Heap) (d:List (Addr×(Int×Int))),Wg a s.heap h'->zen f led h' a d->(∀c,c∈d.map (·.2)↔c∈ks.map (·.2)\/c=p)->(∀c∈d,c∈ks\/c=(x,p))->Q b { s with heap:=h' }) :
  Xw (Xv prog w) A (setAddHashedIn a (.ref x) (f p) (n+1)) Q E s:=by
 obtain⟨⟨es,ep,t,I,he,G,hl,hp⟩,nd,hc,H⟩:=S;have ai:ks.length=es.size:=by
  rw[<- XX,he,ZB]
 generalize hh:f p=h;rw[setAddHashedIn];refine Y1 (JC I G ?_);dsimp only;rw[show byScan (.ref x) es=false by simp[byScan,Value.scannable],bq XJ];by_cases hm:p∈ks.map (·.2)
 .obtain⟨⟨b,p'⟩,hk,e⟩:=XE.mp hm;simp only at e;subst e;obtain⟨i,hi,ei⟩:=R0 hk;have eg:es[i]?=some (h,.ref b):=by
   rw[<- W6,he,Xp,X0 hi,ei,<- hh];rfl
  unfold setSearch;refine Y1 (zfX (n:=99999) hu I G (by rw[YX he];exact zln inj nd H) (λe ab=>?_) eg hx (hc _ hk) ?_)
  .rw[he]at ab;obtain⟨c,h1,rfl⟩:=XE.mp ab;exact⟨c.1,c.2,rfl,hc c h1⟩
  .refine XR (q false s.heap ks (Heap.SameBut.refl _ _) ⟨⟨es,ep,t,I,he,G,hl,hp⟩,nd,hc,H⟩ (λc=>⟨.inl,λz=>z.elim id λz=>z ▸ hm⟩) λc h1=>.inl h1)
 .have ag:=hn hm;have no:h ∉ (es.map (·.1)).toList:=λz=>by
   rw[YX he,<- hh]at z;obtain⟨c,h1,h2⟩:=XE.mp z;exact hm (XE.mpr ⟨c,h1,inj _ _ (H c h1) hb h2⟩)
  unfold setSearch;refine Y1 (zem (n:=99999) I G no λj h1 h2 h3=>?_);dsimp only;refine Y1 (JC I G ?_);obtain⟨f1,f2,f3⟩:=zmG G.up G.dum h2;have g:t.place.size=es.size:=by rw[G.sz,U5]
  have bs:Xo t.place j<=es.size:=by
   rw[<- g];exact(Yi G.up j).1
  generalize ah:Xo t.place j=pos at f1 f2 f3 bs;have o:(t.put j).1.plain=true:=by rw[f2];exact hp
  have B:(t.put j).1.led=led:=by rw[f2];exact hl
  have D:∃y,y=ks.take pos++(x,p)::ks.drop pos:=⟨_,rfl⟩;obtain⟨y,D⟩:=D;have aa:(Xe es pos (h,WU x)).toList=y.map (zdr f):=by
   rw[QM,he,D,XD,Xs,List.map_take,List.map_drop];simp only[zdr,hh]
  have m:(Xe es pos (h,WU x)).size=es.size+1:=j6 _ bs _;have pm:y.Perm ((x,p)::ks):=by
   rw[D];refine List.perm_middle.trans (List.Perm.cons _ ?_);rw[Xc]
  have l:(t.put j).1.fits (Xe es pos (h,WU x)).size=true:=by
   have hr:=G.room;have bp:pos<=t.place.size:=by rw[g];exact bs
   rw[m,f2];unfold SetTable.fits Ol;simp only[G.dum,j6 _ bp,g];rcases G.mask with e | e | e<;>simp[e]<;>rw[g,e]at hr<;>lia
  have fin:∀(h':Heap) (d:List (Addr×(Int×Int))) (k:Array (Int×X9)) (L:Nat) (J:Wx),Wg a s.heap h'->h'.get? a=some (qK k L J)->k.toList=d.map (zdr f)->d.Perm ((x,p)::ks)->Good J (k.map (·.1))->J.led=led->J.plain=true->Q true { s with heap:=h' }:=by
   intro h' d k L J hs hg M u hG N U;have Y:∀c,c∈d↔c=(x,p)\/c∈ks:=λc=>by rw[u.mem_iff,XG]
   refine q true h' d hs ⟨⟨k,L,J,hg,M,hG,N,U⟩,?_,λc r=>?_,λc r=>?_⟩ (λc=>?_) λc r=>(Y c).mp r |>.symm
   .rw[(u.map (·.2)).nodup_iff,Xs,V8];exact⟨hm,nd⟩
   .rcases(Y c).mp r with rfl | z
    .exact zL.up hx hs I rfl
    .exact zL.up (hc c z) hs I rfl
   .rcases(Y c).mp r with rfl | z
    .exact hb
    .exact H c z
   .rw[(u.map (·.2)).mem_iff,Xs,XG];exact Or.comm
  have eT:t.put j=((t.put j).1,pos):=by rw[<- f1]
  have fl:(t.put j).1.tooFull=decide ((es.size+1)*5 >= t.mask*3):=by
   have bp:pos<=t.place.size:=by rw[g];exact bs
   rw[f2];unfold SetTable.tooFull Ol;simp only[G.dum,j6 _ bp,g];rfl
  have gd:¬ (es.size+1)*5 >= t.mask*3->Good (t.put j).1 ((Xe es pos (h,WU x)).map (·.1)):=λhr=>by
   have:=G.put (h:=h) h1 h2 h3 (by rw[g];lia);rw[f1]at this;have e:(Xe es pos (h,WU x)).map (·.1)=Xe (es.map (·.1)) pos h:=by
    apply Array.toList_inj.mp;rw[UJ,QM,QM,UJ,XD,Xs,List.map_take,List.map_drop]
   rw[e];exact this
  have v:=G.room;have O:=G.mask;rw[g]at v;dsimp only;rw[eT];dsimp only;generalize t.put j=T at o B l fl gd;obtain⟨t1,p1⟩:=T;dsimp only at o B l fl gd ⊢;rw[o,bw rfl];refine Y1 (zmJ hx ?_);rw[bw rfl];refine Y1 (zhj I (by rw[m];lia) λh' hs hg=>?_);by_cases full:(es.size+1)*5 >= t.mask*3
  .rw[fl,br full,bw "d"];rw[<- m];refine Y1 (zmK (s:={ s with heap:=h' }) hg l (by rw[m];rcases O with e | e | e<;>rw[e]at full v<;>lia) aa λac k J d af ae M u hG N U=>?_);exact XR (fin ac d k _ J (hs.trans af) ae M (u.trans pm) hG (N.trans B) (U.trans o))
  .rw[fl,bf full,bq "d"];exact XR (fin h' y _ _ t1 hs hg aa pm (gd full) B o)
def zmM(e:A.units<VE)(S:zen (hP prog w) led s.heap a ks)(f:zL s.heap (.ref x) p)(h:InB p)(i:p ∉ ks.map (·.2)->ks.length<63)
  (q:∀(b:Bool) (h':Heap) (d:List (Addr×(Int×Int))),Wg a s.heap h'->zen (hP prog w) led h' a d->(∀c,c∈d.map (·.2)↔c∈ks.map (·.2)\/c=p)->(∀c∈d,c∈ks\/c=(x,p))->Q b { s with heap:=h',toks:=s.toks+3 }) :
  Xw (Xv prog w) A (setAdd a (.ref x)) Q E s:=by
 unfold setAdd;refine Wp (Y1 ((tk2 prog w).pyHash e (Zu f) ?_));show Xw (Xv prog w) A (setAddHashed a (.ref x) (hP prog w p)) Q E { s with toks:=s.toks+3 };unfold setAddHashed;refine Wp ?_;exact zmL (n:=99999) (s:={ s with toks:=s.toks+3 }) (λp q h1 h2 g=>zry h1 h2 g) e S f h i q
end
theorem zj7(next):∀(fuel k:Nat) (left:List α) (a:Array α),left.length=fuel->(pickOrder.go next fuel k left a).toList.Perm (a.toList++left)
 | 0,k,left,a,h=>by
  rw[Vv.mp h,W5];exact List.Perm.refl _
 | fuel+1,k,left,a,h=>by
  have b:next k%left.length<left.length:=RJ _ "a"
  rw[pickOrder.go,X0 b];dsimp only;refine(zj7 next fuel (k+1) _ _ (by rw[List.length_eraseIdx_of_lt b];lia)).trans ?_;rw[Array.toList_push,Ww];refine Pc _ ?_;have e:left=left.take (next k%left.length)++left[next k%left.length]::left.drop (next k%left.length+1):=by
   rw[<- Wt b,Xc]
  rw[List.eraseIdx_eq_take_drop_succ];have c:=@List.perm_middle _ left[next k%left.length] (left.take (next k%left.length)) (left.drop (next k%left.length+1));rw[<- e]at c;exact c.symm
def zlo(next)(xs:Array α):(P5 next xs).toList.Perm xs.toList:=by
 have h:=zj7 next xs.size 0 xs.toList #[] "s"
 rw[show (#[]:Array α).toList++xs.toList=xs.toList from rfl]at h;exact h
def yV:Slot "set_iterator" "__next__" "set_iterator.__next__" :=
 .of (owner:="set_iterator") (n:="__next__") (by rw[S5,UA];kernel_rfl) "q" "q" "q" (.inl "q") (by rw[OO];kernel_rfl)
def zba:NG table "set_iterator.__next__"=some UB.«set_iterator.__next__»:=entryFor_of_tree (by kernel_rfl)
def zds:Manifest.owners.lookup (String.ofList ['r','o','t','a','r','e','t','i','_','t','e','s'].reverse)=some Manifest.sig_set_iterator:=by kernel_rfl
def zck(a):argsOk "set_iterator.__next__" ⟨[a],[]⟩:=by
 unfold argsOk;rw[signature?_of (id:="set_iterator.__next__") (n:=['_','_','t','x','e','n','_','_']) (o:=['r','o','t','a','r','e','t','i','_','t','e','s']) (by kernel_rfl) zds];kernel_rfl
def zfZ:NG table "set.__iter__"=some UB.«frozenset.__iter__»:=entryFor_alias (id':="frozenset.__iter__") (by kernel_rfl) rfl "q" (by kernel_rfl)
def zdu(b i:Nat)(a:Addr)(n ep:Nat):Obj:={ cls:=.type "set_iterator",data:=.fields #[Ua b,Ua i,.ref a,Ua n,Ua ep] }
def slotAt(a:Bool)(t:Wx)(i:Nat):Nat:=if a then 0 else if i=0 then 0 else t.place.getD (i-1) 0+1
def Ym(w:W9)(a:Addr)(ep:Nat)(b:Array (Int×X9)):Array (Int×X9):=if w.params.followText "set-order" then P5 (w.params.setOrder a ep) b else b
def zbb(w)(a)(ep)(b):(Ym w a ep b).toList.Perm b.toList:=by
 unfold Ym;split
 .exact zlo _ _
 .exact List.Perm.refl _
section
variable {prog:Xu}{w:W9}{A:WZ}{E:X9->X8->Prop}{s:X8}{a:Addr}{es:Array (Int×X9)}{ep:Nat}{t:Wx}
def zf0(q:Q (w.params.followText "set-order") s):Xw (Xv prog w) A setsByText Q E s:=by
 unfold setsByText;exact Y1 (PX (XR q))
def below_at(U:Up t.place)(d:i<=t.place.size):Xo t.place (slotAt false t i)=i:=by
 obtain⟨c,a,b⟩:=Yi U (slotAt false t i);unfold slotAt at *
 simp only[Wc,if_false]at *
 by_cases h0:i=0
 .subst h0;rw[bw rfl]at *
  rcases Nat.eq_zero_or_pos (Xo t.place 0) with e | e
  .exact e
  .have:=a 0 e;lia
 .rw[bq h0]at *
  rcases Rc (Xo t.place (t.place.getD (i-1) 0+1)) i with e | e | e
  .have:=b (i-1) "a" "a";lia
  .exact e
  .have h1:=a i e;have h2:=U (i-1) i "a" "a";lia
def zj8(g:s.heap.get? a=some (qK es ep t))(G:Good t (es.map (·.1)))(f:t.led=!w.params.followText "set-order")(l:t.plain=true)(n:i<=es.size)
  (b:∀v,(Ym w a ep es)[i]?.map (·.2)=some v->Q (some (v,slotAt (w.params.followText "set-order") t (i+1))) s) (j:i=es.size->Q none s) :
  Xw (Xv prog w) A (setNext a (slotAt (w.params.followText "set-order") t i) i ep) Q E s:=by
 have m:t.place.size=es.size:=by rw[G.sz,U5]
 have d:(Ym w a ep es).size=es.size:=by
  rw[<- XX,(zbb w a ep es).length_eq,XX]
 unfold setNext;refine Y1 (JC g G ?_);dsimp only;refine Y1 (zf0 ?_);cases hb:w.params.followText "set-order" with
 | true =>
  rw[bw rfl];rw[hb]at b;rw[bq "s"];unfold setWalk;refine Y1 (Y1 (JC g G ?_));dsimp only;refine Y1 (zf0 ?_);rw[hb,bw rfl];refine Y1 (PX (XR (XR ?_)));have c:Ym w a ep es=P5 (w.params.setOrder a ep) es:=by
   unfold Ym;rw[hb,bw rfl]
  rw[c]at b d;show Q (Option.map _ (P5 (w.params.setOrder a ep) es)[i]?) s;by_cases h:i<es.size
  .have e:(P5 (w.params.setOrder a ep) es)[i]?=some (P5 (w.params.setOrder a ep) es)[i]:=Vl "a";rw[e]at b ⊢;exact b _ rfl
  .rw[Wy "a"];exact j "a"
 | false =>
  rw[bq XJ];rw[hb]at b f;have c:Ym w a ep es=es:=by
   unfold Ym;rw[hb,bq XJ]
  rw[c]at b;split
  .rename_i h;exact absurd h (by show ¬ ((!t.plain&&decide (es.size>1))=true);rw[l];exact XJ)
  refine Y1 ?_;show Xw _ _ (if (!t.led && !es.isEmpty)=true then Rn "set:maker-not-led" else pure ()) _ _ _;rw[f,bq "s"];refine XR ?_;rw[below_at G.up "a"];by_cases h:i<es.size
  .have e:es[i]?=some es[i]:=Vl h;have k:t.place[i]?=some (t.place.getD i 0):=Zs "a";rw[e]at b ⊢;rw[k];refine XR (b _ rfl)
  .rw[Wy "a"];exact XR (j "a")
end
def zfa:Slot "set_iterator" "__iter__" "set_iterator.__iter__" :=
 .of (owner:="set_iterator") (n:="__iter__") (by rw[S5,UA];kernel_rfl) "q" "q" "q" (.inl "q") (by rw[OO];kernel_rfl)
def ziT:NG table "set_iterator.__iter__"=some UB.«dict_keyiterator.__iter__»:=entryFor_alias (id':="dict_keyiterator.__iter__") (by kernel_rfl) rfl "q" (by kernel_rfl)
def zlp(a):argsOk "set_iterator.__iter__" ⟨[a],[]⟩:=by
 unfold argsOk;rw[signature?_of (id:="set_iterator.__iter__") (n:=['_','_','r','e','t','i','_','_']) (o:=['r','o','t','a','r','e','t','i','_','t','e','s']) (by kernel_rfl) zds];kernel_rfl
section
variable {prog:Xu}{w:W9}{A:WZ}{E:X9->X8->Prop}{s:X8}{a I:Addr}{es:Array (Int×X9)}{ep:Nat}{t:Wx}
def ziU{a :Nat}(x y:Nat):TX (·.setIfInBounds 1 (Ua y)) (TX (·.setIfInBounds 0 (Ua x)) (zdu b i a n ep))=zdu x y a n ep:=rfl
def zpc(b:s.heap.get? I=some (zdu (slotAt (w.params.followText "set-order") t i) i a es.size ep))(d:s.heap.get? a=some (qK es ep t))(G:Good t (es.map (·.1)))(f:t.led=!w.params.followText "set-order")(g:t.plain=true)(e:i<es.size)
  (q:∀v h',(Ym w a ep es)[i]?.map (·.2)=some v->h'.get? I=some (zdu (slotAt (w.params.followText "set-order") t (i+1)) (i+1) a es.size ep)->Wg I s.heap h'->Q (some v) { s with heap:=h' }) :
  Xw (Xv prog w) A (RO (.ref I)) Q E s:=by
 have c:s.TypeIs (.ref I) "set_iterator":=⟨_,b,rfl⟩;unfold RO;refine Y1 (Sk (PN (name:=Str.ofString "__next__") c yV (UL yV c zba ?_ (zck _))));unfold UB.«set_iterator.__next__»;refine Y1 (XR ?_);refine Y1 (wpAny_fieldsOf b rfl ?_);dsimp only[Ua];refine Y1 (RZ (o:=qK es ep t) d rfl ?_ ?_)
 .have:=G.fits;rwa [U5]at this
 rw[bq "s"];show Xw _ _ (setNext a (slotAt (w.params.followText "set-order") t i) i ep >>= _) _ _ _;refine Y1 (zj8 d G f g (Ts e) (λv h=>?_) λz=>absurd z "a");dsimp only;refine Y1 (RD b rfl (by simp[zdu]) ?_);have h1:=WG (TX (·.setIfInBounds 0 (Ua ((slotAt (w.params.followText "set-order") t (i+1):Nat):Int)))) b rfl;refine Y1 (RD h1 rfl (by simp[zdu,TX]) ?_);have h2:=WG (TX (·.setIfInBounds 1 (Ua ((i:Int)+1)))) h1 rfl;refine XR ⟨_,rfl,XR (q v _ h ?_ ((Wr ..).trans (Wr ..)))⟩;rw[show ((i:Int)+1)=((i+1:Nat):Int) by lia]at h2 ⊢;rw[ziU]at h2;exact h2
def zrz(g:A.handled=none)(c:s.heap.get? I=some (zdu (slotAt (w.params.followText "set-order") t es.size) es.size a es.size ep))(e:s.heap.get? a=some (qK es ep t))(G:Good t (es.map (·.1)))(h:t.led=!w.params.followText "set-order")(j:t.plain=true)
  (q:∀h',Heap.ExtBut I s.heap h'->Q none { s with heap:=h' }):Xw (Xv prog w) A (RO (.ref I)) Q E s:=by
 have d:s.TypeIs (.ref I) "set_iterator":=⟨_,c,rfl⟩;unfold RO;refine Y1 (Sk (PN (name:=Str.ofString "__next__") d yV (UL yV d zba ?_ (zck _))));unfold UB.«set_iterator.__next__»;refine Y1 (XR ?_);refine Y1 (wpAny_fieldsOf c rfl ?_);dsimp only[Ua];refine Y1 (RZ (o:=qK es ep t) e rfl ?_ ?_)
 .have:=G.fits;rwa [U5]at this
 rw[bq "s"];show Xw _ _ (setNext a (slotAt (w.params.followText "set-order") t es.size) es.size ep >>= _) _ _ _;refine Y1 (zj8 e G h j (XQ _) (λv f=>?_) λ_=>?_)
 .have i:(Ym w a ep es).size=es.size:=by
   rw[<- XX,(zbb w a ep es).length_eq,XX]
  rw[Wy "a"]at f;cases f
 dsimp only;refine Y1 (RD c rfl (by simp[zdu]) ?_);refine Y1 ?_;simp only[newExc,newTuple];refine Y1 (VR ?_ (by size_fits));refine Y1 (m:=RG _ _) (OY (a:=U1) (by first | rfl | (simp only[RG];rfl)) ?_);refine VR ?_ (by size_fits);simp only[raiseNew];refine Y1 (wpAny_handled ?_);rw[show A.in1.handled=none from g];refine Y1 (XR (NP ?_));refine Y1 (PZ (T:="StopIteration") (b:=true) ⟨_,Xg _ rfl,rfl⟩ isSubtype_stop ?_);exact XR (q _ (((Wr ..).extBut.push _).push _))
def zpd(d:s.heap.get? I=some (zdu b i a n ep))(q:Q (.ref I) s):Xw (Xv prog w) A (NW (.ref I)) Q E s:=by
 have c:s.TypeIs (.ref I) "set_iterator":=⟨_,d,rfl⟩;refine wpAny_pyIter_slot c zfa (UL zfa c ziT ?_ (zlp _));exact XR ⟨_,rfl,"set_iterator",_,c,yV.lookup,q⟩
def walks(hh:A.handled=none)(hne:a≠I)(G:Good t (es.map (·.1)))(hl:t.led=!w.params.followText "set-order")(hp:t.plain=true) :
  Walks prog w A I [I,a] [I] es.size (λi v=>(Ym w a ep es)[i]?.map (·.2)=some v) (λi h=>h.get? I=some (zdu (slotAt (w.params.followText "set-order") t i) i a es.size ep)/\h.get? a=some (qK es ep t)) where
 sub:=λb hb=>by simp at hb;simp[hb]
 frame:=λ_ _ _ st hk=>⟨hk I "s" _ st.1,hk a "s" _ st.2⟩
 item:=λi s Q E hi st hQ=>zpc st.1 st.2 G hl hp hi λv h' hv h1 hs=>hQ v h' s.toks hv ⟨h1,(hs.2 a hne).trans st.2⟩ λb o hb e=>(hs.2 b λz=>hb (by simp[z])).trans e
 done:=λs Q E st hQ=>zrz hh st.1 st.2 G hl hp λh' he=>hQ h' s.toks λb o hb e=>he b o (λz=>hb (by simp[z])) e
 self:=λ_ _ _ _ st hQ=>zpd st.1 hQ
def zhl:splitId "set.__len__"=some ("set","__len__"):="q"
def zhm(hh:A.handled=none)(ho:s.heap.get? a=some (qK es ep t))(G:Good t (es.map (·.1)))(hl:t.led=!w.params.followText "set-order")(hp:t.plain=true)(hn:es.size<=64)
  (q:∀vs h' tk,vs.Perm (es.toList.map (·.2))->(∀b o,s.heap.get? b=some o->h'.get? b=some o)->s.heap.objs.size<=h'.objs.size->Q vs { s with heap:=h',toks:=tk }):Xw (Xv prog w) A (collect (.ref a)) Q E s:=by
 have g:a<s.heap.objs.size:=XA ho;unfold collect;refine Y1 (wpAny_runValue (VL PySem.F.entry_proto_collect ?_));rw[V2 PySem.F.plain_proto_collect _];show Xw _ A.in1 (newList [] >>= λl=>O6 (.builtin "list.__iadd__" ⟨[l,.ref a],[]⟩)) _ _ s;refine Y1 (VR ?_);refine XR ⟨Ur PM _,VL PySem.F.entry_list_iadd ?_⟩;rw[V2 PM _];show Xw _ A.in1 (RR (.ref s.heap.objs.size) (.ref a) (.ref s.heap.objs.size)) _ _ _;generalize B:(s.heap.push { cls:=.type "list",data:=.seq ([]:List X9).toArray })=h1;have f:h1.get? a=some (qK es ep t):=by rw[<- B];exact XY _ ho
 have J:h1.get? s.heap.objs.size=some { cls:=.type "list",data:=.seq #[] }:=by rw[<- B];exact Xg _ rfl
 have Y:∀b o,s.heap.get? b=some o->h1.get? b=some o:=λb o e=>by rw[<- B];exact XY _ e
 have H:h1.objs.size=s.heap.objs.size+1:=by rw[<- B];exact U6 ..
 have M:Sj { s with heap:=h1 } (.ref a) "set":=⟨_,f,rfl⟩;have I:P7 (.ref s.heap.objs.size) (.ref a)=false:=by
  simp[P7];exact T7 g
 unfold RR;refine Y1 (RW M ?_);rw[bq (by rw[I];decide)];have O:t.fits es.size=true:=by
  have:=G.fits;rwa [U5]at this
 refine Y1 (wpAny_pyIter_slot M Pb (UL Pb M zfZ ?_ (PySem.F.args_set_iter_1 _)));unfold UB.«frozenset.__iter__» Builtin.Frozenset.slot0 slotArgs;simp only[List.isEmpty_nil,Bool.not_true,Wc,↓reduceIte,bind_assoc,TZ,bne_self_eq_false];unfold Builtin.Frozenset.addrOf Builtin.Frozenset.sizeOf;refine Y1 (XR ?_);dsimp only;refine Y1 (XR ?_);refine Y1 (Y1 (RZ (s:={ s with heap:=h1 }) (o:=qK es ep t) f rfl O (XR ?_)));unfold setDrawn;refine Y1 (Y1 (SM (s:={ s with heap:=h1 }) (o:=qK es ep t) f rfl O ?_));dsimp only;refine Y1 (zf0 (XR ?_));split
 .rename_i h;exact absurd h (by show ¬ ((!w.params.followText "set-order" && (!t.plain&&decide (es.size>1)))=true);rw[hp];simp)
 refine Y1 (XR ?_);unfold setEpoch;refine Y1 (Y1 (SM (s:={ s with heap:=h1 }) (o:=qK es ep t) f rfl O (XR ?_)));unfold newFields;refine Y1 (VR ?_);generalize y:h1.push { cls:=.type "set_iterator",data:=.fields (List.toArray [Ua 0,Ua 0,WU a,Ua ((es.size:Nat):Int),Ua ((ep:Nat):Int)]) }=h2;have x:h2.get? a=some (qK es ep t):=by rw[<- y];exact XY _ f
 have r:h2.get? s.heap.objs.size=some { cls:=.type "list",data:=.seq #[] }:=by rw[<- y];exact XY _ J
 have aa:∀b o,s.heap.get? b=some o->h2.get? b=some o:=λb o e=>by rw[<- y];exact XY _ (Y b o e)
 have n:h2.get? h1.objs.size=some (zdu 0 0 a es.size ep):=by rw[<- y];exact Xg _ rfl
 have N:Sj { s with heap:=h2 } (.ref h1.objs.size) "set_iterator":=⟨_,n,rfl⟩;have k:Sj { s with heap:=h2 } (.ref a) "set":=⟨_,x,rfl⟩;refine XR (e8 _ rfl "set_iterator" _ N yV.lookup ?_);refine Y1 (Wp ?_);unfold Builtin.List.listLengthHint;refine Y1 (S6 k PySem.F.slot_set_len.lookup ?_);dsimp only;rw[zhl];dsimp only;refine Y1 (PZ (b:=true) k sub_set_self ?_);rw[bq "d"];show Xw _ _ (typeOf (WU a) >>= _) _ _ _;refine Y1 (RW k ?_);show Xw _ _ (pure false) _ _ _;refine XR ?_;show Xw _ A.in1 (rule "list.extend.makes-room" >>= λ_=>Builtin.List.listTouch (.ref s.heap.objs.size) >>= λ_=>O6 (.builtin "list.extend.loop" ⟨[.ref s.heap.objs.size,.ref h1.objs.size,.ref s.heap.objs.size],[]⟩)) _ _ _;refine Y1 (UI (Y1 ?_));show Xw _ A.in1 (updateSeq s.heap.objs.size (·.push .none) >>= λ_=>updateSeq s.heap.objs.size (·.pop)) _ _ _;refine Y1 (wpAny_updateSeq r rfl ?_);have u:=WG (U0 (·.push U1)) r rfl;refine wpAny_updateSeq u rfl ?_;have v:=WG (U0 (·.pop)) u rfl;have j:∀b o,b≠s.heap.objs.size->h2.get? b=some o->((h2.update s.heap.objs.size (U0 (·.push U1))).update s.heap.objs.size (U0 (·.pop))).get? b=some o :=
  λb o m e=>(VJ _ _ (Vd m)).trans ((VJ _ _ (Vd m)).trans e)
 generalize (h2.update s.heap.objs.size (U0 (·.push U1))).update s.heap.objs.size (U0 (·.pop))=h4 at v j;have U:a≠h1.objs.size:=by
  rw[H];exact Xi (WC g)
 have L:s.heap.objs.size ∉ [h1.objs.size,a]:=by
  rw[H];simp only[XG,Vx,or_false,not_or];exact⟨Xi (Sr _),T7 g⟩
 have ac:slotAt (w.params.followText "set-order") t 0=0:=by
  unfold slotAt;split<;>rfl
 have ae:(Ym w a ep es).size=es.size:=by
  rw[<- XX,(zbb w a ep es).length_eq,XX]
 refine XR ⟨Ur PySem.F.plain_extend_loop _,codeAny_extend_loopS ((walks (A:=A.in1) (prog:=prog) (ep:=ep) hh U G hl hp).toS) (X5 hn (by rw[SZ];decide)) _ L _ es.size 0 _ _ _ rfl (W2 _)
  ⟨by rw[ac];exact j _ _ (by rw[H];exact Vj _) n,j _ _ (Xi g) x⟩ v (ItemsOf.nil _) λs' c c' D p d=>?_⟩
 show Xw _ A (load s.heap.objs.size >>= _) _ _ s';refine Y1 (wpAny_load p ?_);obtain⟨h',g',d',af,ab⟩:=s';have eg:g'=s.gens:=D.gens;have ed:d'=s.drawn:=D.drawn;have eo:ab=s.os:=D.os;subst eg;subst ed;subst eo;refine XR (q _ _ _ ?_ (λb o e=>?_) (Ts (XA p)))
 .have e:c.toList=(Ym w a ep es).toList.map (·.2):=by
   refine List.ext_getElem? λi=>?_;rw[W6,Xp,W6];by_cases hi:i<es.size
   .have T:i<c.size:=by rw[d.1];exact hi
    have e1:c[i]?=some c[i]:=Vl T;rw[e1];exact(d.2 i _ e1).symm
   .rw[Wy (by rw[d.1];lia),Wy "a"];rfl
  rw[e];exact(zbb w a ep es).map _
 .have m:b<s.heap.objs.size:=XA e;refine D.heap b o (λz=>?_) (j b o (Xi m) (aa b o e));rcases XG.mp z with z | z
  .exact VX _ (z ▸ m)
  .have z':b=h1.objs.size:=by simpa using z
   rw[z',H]at m;exact absurd m (Oe.mpr (Wb _))
end
end ST
open PySem PySem.Spec PyProof.Rows PySem.W
namespace ST
def zhn(prog:Xu)(w:W9)(d:Addr)(ks:List (Addr×(Int×Int))):HO:=.ext λh=>∃a b t,h.get? d=some (qK a b t)/\a.toList=ks.map (zdr (hP prog w))/\Good t (a.map (·.1))/\t.led=(!w.params.followText "set-order")/\t.plain=true
section
variable {prog:Xu}{w:W9}{A:WZ}{R:PK->X8->Prop}{I:Addr}{fp wr:List Addr}{G:Array Uh->Array Uh->Prop}{n:Nat}{P:Nat->X9->Prop}{St:Nat->X8->Prop}{led:Bool}
def zmN(W:WalksS prog w A.in1 I fp wr G n P St)(D)(M:D ∉ fp)(ai:h0.get? D=none)(ar:∀b∈wr,h0.get? b=none)(ps:List (Int×Int))(Y:ps.length=n)(hu:A.units+1<VE)
  (T:Addr->Int×Int->Prop) (hT:∀x p,T x p->zL h0 (.ref x) p) (ak:∀i v,P i v->∃x p,v=.ref x/\ps[i]?=some p/\T x p) (y:∀p∈ps,InB p) (ah:∀l:List (Int×Int),l.Nodup->(∀c∈l,c∈ps)->l.length<=63) :
  ∀(k i:Nat) (s:X8) (ks:List (Addr×(Int×Int))),n-i=k->i<=n->St i s->(∀b o,h0.get? b=some o->s.heap.get? b=some o)->zen (hP prog w) led s.heap D ks->(∀c,c∈ks.map (·.2)↔c∈ps.take i)->(∀q∈ks,T q.1 q.2) ->
   (∀s' r,Moved (D::wr) G s s'->zen (hP prog w) led s'.heap D r->(∀c,c∈r.map (·.2)↔c∈ps)->(∀q∈r,T q.1 q.2)->R (.ok (.ret .none)) s') ->
   Uo (Xv prog w) A (.builtin "set.update.loop" ⟨[.ref D,.ref I],[]⟩) R s:=by
 have aj:D ∉ wr:=λh=>M (W.sub _ h);have more:∀b∈wr,b∈D::wr:=λb y=>XS _ y;have d:∀{h:Heap} {x:Addr} {p:Int×Int},(∀b o,h0.get? b=some o->h.get? b=some o)->T x p->zL h (.ref x) p:=λE hx=>by
  obtain⟨b,o,m,t,u,e,e1,e2,e3⟩:=hT _ _ hx;exact⟨b,o,m,t,u,e,E _ _ e1,e2,e3⟩
 have a:∀{s s':X8},Moved wr G s s'->(∀b o,h0.get? b=some o->s.heap.get? b=some o)->∀b o,h0.get? b=some o->s'.heap.get? b=some o:=λj E b o e =>
  j.heap b o (λy=>by
   rw[ar b y]at e;cases e) (E b o e)
 have f:∀{s s':X8} {ks:List (Addr×(Int×Int))},Moved wr G s s'->(∀b o,h0.get? b=some o->s'.heap.get? b=some o)->(∀q∈ks,T q.1 q.2)->zen (hP prog w) led s.heap D ks->zen (hP prog w) led s'.heap D ks :=
  λj E hk ⟨⟨es,ep,t,e1,e2⟩,e3,_,e5⟩=>⟨⟨es,ep,t,j.heap D _ aj e1,e2⟩,e3,λq hq=>d E (hk q hq),e5⟩
 intro k;induction k with
 | zero =>
  intro i s ks hk hi J E hS B g hR;have an:i=n:="a"
  subst an;refine VL Ti ?_;rw[V2 UW _];show Xw _ A.in1 (RO (.ref I) >>= _) _ _ s;refine Y1 (W.done s _ _ J λs' j=>?_);refine XR (hR s' ks (j.mono more) (f j (a j E) g hS) (λc=>?_) g);rw[B c,<- Y,XF]
 | succ k ih =>
  intro i s ks hk hi J E hS B g hR;have aa:i<n:="a"
  refine VL Ti ?_;rw[V2 UW _];show Xw _ A.in1 (RO (.ref I) >>= _) _ _ s;refine Y1 (W.item i s _ _ aa J λv s' al af j=>?_);refine fS (λx p z0 hq hx=>?_) (ak i v al);subst z0;have L:=a j E;have N:=f j L g hS;have ae:p∈ps:=X7 hq;have tk:ps.take (i+1)=ps.take i++[p]:=by
   rw[XC,hq];rfl
  refine Y1 (Wp (zmM (show A.in1.units<VE from hu) N (d L hx) (y p ae) (λao=>?_) λb h' r H am ac aw=>?_))
  .have:=ah (p::ks.map (·.2)) (V8.mpr ⟨ao,N.nd⟩) λc hc=>by
    rcases XG.mp hc with rfl | hc
    .exact ae
    .exact VM ((B c).mp hc)
   rw[Xf,ZB]at this;lia
  have au:∀b o,h0.get? b=some o->h'.get? b=some o:=λb o e=>by
   rw[H.2 b (λz=>by
    rw[z,ai]at e;cases e)]
   exact L b o e
  refine XR ⟨Ur UW _,?_⟩;refine ih (i+1) _ r "a" aa (W.frame _ s' _ _ af (Vh _ _) λb y o e=>?_) au am (λc=>?_) (λq aq=>?_) λav ag ab O U Q=>?_
  .rw[H.2 b (λz=>M (by rw[<- z];exact y))];exact e
  .rw[ac c,B c,tk,XV,Xy]
  .rcases aw q aq with z | z
   .exact g q z
   .rw[z];exact hx
  .refine hR av ag (Moved.trans W.gtrans ((j.mono more).then_heap (Vh _ _) λb o y e=>?_) ab) O U Q;rw[H.2 b (λz=>y (by rw[z];exact XU))];exact e
end
section
variable {prog:Xu}{w:W9}{A:WZ}{E:X9->X8->Prop}{s:X8}
def zpe(a)(h:Q₁ (.ref s.heap.objs.size) { s with heap:=s.heap.push (qK #[] 0 (.fresh 0 0 (!w.params.followText "set-order"))) }) :
  Uo (Xv prog w) A (.call (.builtin "set.__new__") ⟨[.type "set",a],[]⟩) (wants Q₁ E) s:=by
 refine codeAny_of_tree ?_;show Xw _ A.in1 (do P1 "set.__new__" ⟨[.type "set",a],[]⟩;O6 (.builtin "set.__new__" ⟨[.type "set",a],[]⟩)) _ _ s;refine Y1 (OY (PySem.F.newCall_set_1 a) (XR ⟨Ur Pa _,VL PySem.F.entry_set_new ?_⟩));rw[V2 Pa _];unfold UB.«set.__new__» Builtin.Frozenset.newClass;have b:=sub_set_self;obtain⟨c,g,d,e,os⟩:=s;dsimp only;wp_walk;refine PX (XR ?_);dsimp only;simp only[newObj];refine Y1 (wpAny_alloc (XR ?_));exact XR h
def ziV(led):Good (.fresh 0 0 led) #[]:=⟨.inl rfl,rfl,rfl,λi j _ h=>absurd h (by simp[SetTable.fresh]),λi h=>absurd h (by simp[SetTable.fresh]),by simp[SetTable.fresh],λi h=>absurd h (by simp[SetTable.fresh])⟩
set_option maxHeartbeats 8000000 in
theorem zmO{ps:List (Int×Int)}{T:Addr->Int×Int->Prop}(hh:A.handled=none)(hu:A.units+64<VE)(hl:s.heap.IsList l d)(M:ps.length=d.size)
  (hT:∀x p,T x p->zL s.heap (.ref x) p) (ab:∀(i:Nat) (v:X9),d[i]?=some v->∃x p,v=WU x/\ps[i]?=some p/\T x p) (hb:∀p∈ps,InB p) (aa:∀l:List (Int×Int),l.Nodup->(∀c∈l,c∈ps)->l.length<=63)
  (h:∀(h':Heap) (tk:Nat) (ks:List (Addr×(Int×Int))),(∀b o,s.heap.get? b=some o->h'.get? b=some o)->zen (hP prog w) (!w.params.followText "set-order") h' s.heap.objs.size ks->(∀c,c∈ks.map (·.2)↔c∈ps)->(∀q∈ks,T q.1 q.2)->Q (.ref s.heap.objs.size) { s with heap:=h',toks:=tk }) :
  Xw (Xv prog w) A (call (.type "set") [.ref l]) Q E s:=by
 obtain⟨c,tl,al⟩:=PySem.F.called_set.mro;have ag:=PySem.F.called_set.made;have ao:=PySem.F.called_set.sub;refine RL (codeAny_of_tree ?_);show Xw _ _ (callAny (.type "set") _) _ _ _;refine XR ⟨Code.quiet_builtin _ "q",VL PySem.F.entry_type_call ?_⟩;rw[Around.under_plain (weight_type_call_type "set" [.ref l] []) rfl];have h1:=PySem.F.called_set.notType;have h2:=PySem.F.called_set.canCreate;have au:=PySem.F.typeCall_set_1 (.ref l);repeat (any_goals (first | assumption | wp_step))
 refine UT (zpe (.ref l) (E:=E) (Q₁:=λU j=>U=.ref s.heap.objs.size/\j={ s with heap:=s.heap.push (qK #[] 0 (.fresh 0 0 (!w.params.followText "set-order"))) }) ⟨rfl,rfl⟩) λr j hr=>?_;cases r with
 | error e=>exact hr
 | ok fl =>
  cases fl with
  | ret U =>
   obtain⟨rfl,rfl⟩:=hr;generalize ak:(!w.params.followText "set-order")=led at h ⊢;have hS:(s.heap.push (qK #[] 0 (.fresh 0 0 led))).get? s.heap.objs.size=some (qK #[] 0 (.fresh 0 0 led)):=Xg _ rfl;have H:Sj { s with heap:=s.heap.push (qK #[] 0 (.fresh 0 0 led)) } (.ref s.heap.objs.size) "set":=⟨_,hS,rfl⟩;have av:=PySem.F.called_set.init.lookup;have ar:=PySem.F.called_set.init.bind (.ref s.heap.objs.size);repeat (any_goals (first | assumption | wp_step))
   refine UT (Tw (R:=wants (λr k=>r=.none/\∃h' tk ks,k={ s with heap:=h',toks:=tk }/\zen (hP prog w) led h' s.heap.objs.size ks/\(∀c,c∈ks.map (·.2)↔c∈ps)/\(∀q∈ks,T q.1 q.2) /\
     (∀b o,s.heap.get? b=some o->h'.get? b=some o)) E) PySem.F.called_set.init.plain PySem.F.entry_set_init (check_set_init_1 H ?_)) λY k a=>?_
   .revert hl;refine fT λol O I=>gM λnl J=>?_;obtain⟨aq,D,ah,f⟩:=ol;simp only at I J;subst I;subst J;have g:(s.heap.push (qK #[] 0 (.fresh 0 0 led))).get? l=some { cls:=.type "list",dict:=D,data:=.seq d nl,slots:=f }:=XY _ O;have an:=PySem.F.sub_list_set;have am:=PySem.F.sub_list_frozenset;have aw:(PF "list" == PF "dict")=false:="d"
    have y:(s.heap.push (qK #[] 0 (.fresh 0 0 led))).IsList l d:=⟨_,g,rfl,nl,rfl⟩;unfold UB.«set.__init__» noKeywords Builtin.Frozenset.updateFrom;generalize hG:s.heap.push (qK #[] 0 (.fresh 0 0 led))=G at hS H g y ⊢;unfold qK at hS;generalize ac:NW=PI;wp_walk;subst ac;subst hG;refine SQ y ?_;refine Y1 (wpAny_runValue ?_);have L:l<s.heap.objs.size:=XA O;have zS:(s.heap.push (qK #[] 0 (.fresh 0 0 led))).objs.size=s.heap.objs.size+1:=U6 ..;have N:l≠(s.heap.push (qK #[] 0 (.fresh 0 0 led))).objs.size:=by
     rw[zS];exact Xi (WC L)
    have ae:s.heap.objs.size ∉ [(s.heap.push (qK #[] 0 (.fresh 0 0 led))).objs.size,l]:=by
     rw[zS];simp only[XG,Vx,or_false,not_or];exact⟨Xi (Sr _),T7 L⟩
    refine zmN (h0:=s.heap) (led:=led) ((Walks.list (by simp[hh]) (s.heap.push (qK #[] 0 (.fresh 0 0 led))).objs.size l N d).toS) s.heap.objs.size ae (Us (XQ _)) (λb hb=>?_) ps M (by show A.units+1+1+1<VE;lia) T hT ab hb aa (d.size-0) 0 _ [] rfl (W2 _)
     ⟨⟨_,Xg _ rfl,rfl,rfl⟩,(y.push _)⟩ (λb o z=>XY _ (XY _ z)) ⟨(eB (#[]) 0 (.fresh 0 0 led) (XY _ hS) rfl (by rw[Array.map_empty];exact ziV led) rfl rfl),UH,(λq z=>nomatch z),(λq z=>nomatch z)⟩ (λc=>"s") (λq z=>nomatch z) ?_
    .have e:b=(s.heap.push (qK #[] 0 (.fresh 0 0 led))).objs.size:=by simpa using hb
     rw[e,zS];exact Us (Wb _)
    .intro s' ks hm n B u;obtain⟨h',g',d',aj,ai⟩:=s';have eg:g'=s.gens:=hm.gens;have ed:d'=s.drawn:=hm.drawn;have eo:ai=s.os:=hm.os;subst eg;subst ed;subst eo;show Xw _ _ _ _ _ _;refine XR ?_;show Xw _ _ (ret U1) _ _ _;refine XR ⟨rfl,(eB h' aj ks rfl n B u (λb o e=>?_))⟩;have lt:=XA e;refine hm.heap b o (λz=>?_) (XY _ (XY _ e));rcases XG.mp z with z | z
     .exact VX _ (z ▸ lt)
     .have z':b=(s.heap.push (qK #[] 0 (.fresh 0 0 led))).objs.size:=by simpa using z
      rw[z',zS]at lt;exact absurd lt (Oe.mpr (Wb _))
   .cases Y with
    | error e=>exact a
    | ok m =>
     cases m with
     | ret r =>
      revert a;refine gr λz0=>fV λh' tk ks z1 n B u af=>?_;subst z0 z1;repeat (any_goals (first | assumption | wp_step))
      exact h _ _ _ af n B u
     | _=>exact a.elim
  | _=>exact hr.elim
end
def zdv{α q:Type}(f){l p:List q}(h:l.Perm p):∀ks:List α,p=ks.map f->∃g:List α,g.Perm ks/\l=g.map f:=by
 induction h with
 | nil=>exact λks e=>⟨ks,List.Perm.refl _,e⟩
 | cons x h s =>
  intro ks e;cases ks with
  | nil=>simp at e
  | cons k ks =>
   rw[Xs]at e;injection e with j i
   obtain⟨g,h1,h2⟩:=s ks i;exact⟨k::g,h1.cons k,by rw[Xs,j,h2]⟩
 | swap x y l =>
  intro ks e;match ks,e with
  | [],e=>simp at e
  | [k],e=>simp at e
  | k1::o::ks,e =>
   rw[Xs,Xs]at e;injection e with j i
   injection i with i r
   exact⟨o::k1::ks,List.Perm.swap k1 o ks,by rw[Xs,Xs,j,i,r]⟩
 | trans h1 h2 m n =>
  intro ks e;obtain⟨g,a,b⟩:=n ks e;obtain⟨is,c,d⟩:=m g b;exact⟨is,c.trans a,d⟩
section
variable {X:Cx}
def zlq(hu:X.A.units+64<VE)(hh:X.A.handled=none):jG X (.type "set") (λxs H Q=>∃l g ps,xs=[.ref l]/\SqL X.K H l g/\xG H g ps/\(∀p∈ps,InB p)/\(∀l:List (Int×Int),l.Nodup->(∀c∈l,c∈ps)->l.length<=63) /\
  ∀d ks,H d=none->(∀q∈ks,H q.1=some (.tup [.int q.2.1,.int q.2.2]))->(ks.map (·.2)).Nodup->(∀c,c∈ks.map (·.2)↔c∈ps)->Q (.ref d) (upd H d (zhn X.prog X.w d ks))):=by
 intro bz s σ H xs aa Q I r h;revert h;refine gf λl g ps z0 hq L hb z q=>?_;subst z0;obtain⟨u,rfl,ru⟩:=vals1 r;cases ru;obtain⟨b,M,pl,hz⟩:=I.list hq;have hp:=xG.pairs I L M;have B:b.length=ps.length:=Paired.length hp;have tw:∀{g:AE} {ps:List (Int×Int)} {b:List X9},xG H g ps->Vals g b->∀(i:Nat) (v:X9),b[i]?=some v->∃x p,v=WU x/\ps[i]?=some p/\H x=some (.tup [.int p.1,.int p.2]):=by
  intro g ps b h1;induction h1 generalizing b with
  | nil =>
   intro r i v e;cases r;simp at e
  | cons a t ih =>
   intro r i v e;obtain⟨x,rfl,D⟩:=a;cases r with
   | cons r1 r2 =>
    cases r1;cases i with
    | zero =>
     simp at e;exact⟨x,_,e.symm,rfl,D⟩
    | succ i =>
     refine fS (λy p h1 h2 U=>?_) (ih r2 i v ↑e);exact⟨y,p,h1,↑h2,U⟩
 refine zmO (T:=λx p=>H x=some (.tup [.int p.1,.int p.2])) hh hu pl.isList (by simp[B]) (λx p D=>?_) (λi v e=>tw L M i v ↑e) hb z λh' tk ks kk J hm hT=>?_
 .obtain⟨E,G,tp,_⟩:=I.tuple (SqT.of D);obtain⟨u1,u2,rfl,⟨t1,rfl⟩,⟨t2,rfl⟩⟩:=vals2 G;obtain⟨ob,O,c1,n,N⟩:=tp;exact⟨x,ob,n,t1,t2,rfl,O,c1,N⟩
 .have Y:H s.heap.objs.size=none:=I.hok.fresh (XQ _);refine gK (λo m t j f=>?_) J.ex;refine⟨.ref s.heap.objs.size,upd H s.heap.objs.size (zhn X.prog X.w s.heap.objs.size ks),I.laid (t':=tk) kk (XQ _) ⟨⟨o,m,t,j,f⟩,⟨_,j⟩,λh1 h2 ⟨o,m,t,j,f⟩ k=>⟨o,m,t,k _ j,f⟩⟩,rfl,q _ _ Y hT J.nd hm⟩
end
end ST
namespace GS
section
variable {prog:Xu}{w:W9}{A:WZ}{E:X9->X8->Prop}{s:X8}{rk:WL->Int}{κ:TB}{a0:Array WL}
def Rk(rk:WL->Int)(xs:Array WL)(i:Nat):Int:=match xs[i]? with
 | some p=>rk p
 | none=>0
def QN(h:xs[i]?=ys[j]?):Rk rk xs i=Rk rk ys j:=by
 unfold Rk;rw[h]
def Up(rk:WL->Int)(xs:Array WL)(lo a:Nat):Prop:=∀i j,lo<=i->i<=j->j<a->Rk rk xs i<=Rk rk xs j
def Tells(prog:Xu)(w:W9)(A:WZ)(s:X8)(κ:TB)(rk:WL->Int)(a0:Array WL):Prop :=
 ∀x∈a0.toList,∀y∈a0.toList,∀C:Bool->X8->Prop,C (decide (rk x<rk y)) s->Xw (Xv prog w) A (keyLt' κ x.1 y.1) C (λ_ _=>False) s
structure Ok (κ:TB)(a0:Array WL)(st:WO):Prop where
 perm:(W7 st).Perm a0
 kind:kindOf st=κ
 good:Tz st=none
theorem Ok.size{st:WO}(h:Ok κ a0 st):(W7 st).size=a0.size:=h.perm.size_eq
def Ok.at{st:WO}(h:Ok κ a0 st)(b:i<a0.size):∃x,(W7 st)[i]?=some x/\x∈a0.toList/\Rk rk (W7 st) i=rk x:=by
 have a:i<(W7 st).size:=by rw[h.size];exact b
 have e:(W7 st)[i]?=some (W7 st)[i]:=getElem?_pos _ i a;refine⟨(W7 st)[i],e,(UC.mp h.perm).mem_iff.mp "s",?_⟩;unfold Rk;rw[e]
def zmP{st:WO}(T:Tells prog w A s κ rk a0)(hk:kindOf st=κ)(e:x∈a0.toList)(f:y∈a0.toList)(h:Q (some (decide (rk x<rk y))) st):wpS (Xv prog w) A E s (lt' x y) Q st:=by
 rw[lt'_eq];refine Xr (RX ?_);rw[hk];refine Xr (P6 (Sk (WM (T x e y f (λb c=>c=s/\b=decide (rk x<rk y)) ⟨rfl,rfl⟩) (λb c a=>⟨a.1,?_⟩) λ_ _ d=>d.elim)));rw[a.2];exact Xj h
def jj{st:WO}(e:xs[i]?=some x)(h:Q x st):wpS (Xv prog w) A E s (elem' xs i) Q st:=by
 rw[elem'_eq,e];exact Xj h
def zdw{st:WO}(T:Tells prog w A s κ rk a0)(O:Ok κ a0 st)(c:i<a0.size)(d:j<a0.size)(h:Q (some (decide (Rk rk (W7 st) i<Rk rk (W7 st) j))) st):wpS (Xv prog w) A E s (ltAt' i j) Q st:=by
 obtain⟨x,a,e,g⟩:=O.at (rk:=rk) c;obtain⟨y,b,f,k⟩:=O.at (rk:=rk) d;rw[g,k]at h;rw[ltAt'_eq];refine Xr (RX ?_);exact Xr (jj a (Xr (jj b (zmP T O.kind e f h))))
structure Step (κ:TB)(a0:Array WL)(lo:Nat)(st st':WO):Prop where
 ok:Ok κ a0 st'
 pend:W4 st'=W4 st
 low:∀i:Nat,i<lo->(W7 st')[i]?=(W7 st)[i]?
def Step.refl{lo:Nat}{st:WO}(O:Ok κ a0 st):Step κ a0 lo st st:=⟨O,rfl,λ_ _=>rfl⟩
theorem Step.trans{lo:Nat}{st :WO}(x:Step κ a0 lo st b)(y:Step κ a0 lo b a):Step κ a0 lo st a:=⟨y.ok,y.pend.trans x.pend,λi c=>(y.low i c).trans (x.low i c)⟩
def zbW(a:j<=xs.size)(k):Rk rk (mirror xs i j ((j-i)/2)) k=if i<=k/\k<j then Rk rk xs (i+j-1-k) else Rk rk xs k:=by
 have e:=Ov (i:=i) a k;by_cases h1:i<=k/\k<j
 .rw[bw h1]at e ⊢;exact QN e
 .rw[bq h1]at e ⊢;exact QN e
def yk(b:j<=xs.size)(a:∀k,i<=k->k<j->Rk rk xs k=Rk rk xs (j-1))(k):Rk rk (mirror xs i j ((j-i)/2)) k=Rk rk xs k:=by
 rw[zbW b];split
 .rw[a _ "a" "a",a k "a" "a"]
 .rfl
theorem Step.mirror{lo :Nat}{st:WO}(x:Step κ a0 lo st a)(c:lo<=i)(b:j<=a0.size):Step κ a0 lo st (setArr a (mirror (W7 a) i j ((j-i)/2))):=by
 refine⟨⟨(mirror_perm _ _ _ _).trans x.ok.perm,x.ok.kind,x.ok.good⟩,x.pend,λk hk=>?_⟩;show (PyProof.Rows.mirror (W7 a) i j ((j-i)/2))[k]?=_;rw[Ov (by rw[x.ok.size];exact b),bq "a"];exact x.low k hk
def zj9{st:WO}(h:Q () (setArr st (mirror (W7 st) i j ((j-i)/2)))):wpS (Xv prog w) A E s (Si i j) Q st:=by
 rw[reverseSlice'_eq];exact Su h
def up1(lo a d:Nat):StateT WO Sem AscSt :=
 forIn [a:d] ((none,a):AscSt) λ_ c=>do
  let x <- ltAt' (lo+c.snd) (lo+c.snd-1)
  match x with
  | some b=>if b=true then pure (SS (none,c.snd)) else pure (VY (none,c.snd+1))
  | _=>pure (SS (some none,c.snd))
def zmQ(lo n a:Nat):StateT WO Sem (Option Nat):=do
 Si lo (lo+n)
 let c <- up1 lo n a
 match c.fst with
 | some r=>pure r
 | none=>pure (some c.snd)
def zka(lo n a:Nat):StateT WO Sem DescSt :=
 forIn [n:a] ((none,n,0):DescSt) λ_ c=>do
  let x <- ltAt' (lo+c.snd.fst) (lo+c.snd.fst-1)
  match x with
  | some b =>
   if b=true then
    if c.snd.snd>0 then do
     Si (lo+c.snd.fst-(c.snd.snd+1)) (lo+c.snd.fst)
     pure (VY (none,c.snd.fst+1,0))
    else pure (VY (none,c.snd.fst+1,0))
   else do
    let x <- ltAt' (lo+c.snd.fst-1) (lo+c.snd.fst)
    match x with
    | some b =>
     if b=true then pure (SS (none,c.snd.fst,c.snd.snd))
     else pure (VY (none,c.snd.fst+1,c.snd.snd+1))
    | _=>pure (SS (some none,c.snd.fst,c.snd.snd))
  | _=>pure (SS (some none,c.snd.fst,c.snd.snd))
def part2(lo n a:Nat):StateT WO Sem (Option Nat):=do
 liftM (rule "list.sort.descending-run")
 let c <- zka lo (n+1) a
 match c.fst with
 | some r=>pure r
 | none =>
  if c.snd.snd>0 then do
   Si (lo+c.snd.fst-(c.snd.snd+1)) (lo+c.snd.fst)
   zmQ lo c.snd.fst a
  else zmQ lo c.snd.fst a
theorem run_eq(lo a):countRun' lo a=(do
  let c <- up1 lo 1 a
  match c.fst with
  | some r=>pure r
  | none =>
   if (c.snd==a)=true then pure (some c.snd)
   else if c.snd>1 then do
    let x <- ltAt' lo (lo+c.snd-1)
    match x with
    | some b=>if b=true then pure (some c.snd) else do
      Si lo (lo+c.snd)
      part2 lo c.snd a
    | _=>pure none
   else part2 lo c.snd a):=by
 rw[countRun'_eq];unfold part2 zmQ zka up1;refine bind_congr λc=>?_;obtain⟨r,n⟩:=c;cases r with
 | some r=>rfl
 | none =>
  dsimp only;split
  .rfl
  .split
   .refine bind_congr λx=>?_;cases x with
    | none=>rfl
    | some b =>
     dsimp only;split
     .rfl
     .refine bind_congr λ_=>bind_congr λ_=>bind_congr λg=>?_;obtain⟨f,i,j⟩:=g;cases f with
      | some f=>rfl
      | none =>
       dsimp only;split
       .refine bind_congr λ_=>bind_congr λ_=>bind_congr λd=>?_;obtain⟨e,h⟩:=d;cases e<;>rfl
       .refine bind_congr λ_=>bind_congr λd=>?_;obtain⟨e,h⟩:=d;cases e<;>rfl
   .refine bind_congr λ_=>bind_congr λg=>?_;obtain⟨f,i,j⟩:=g;cases f with
    | some f=>rfl
    | none =>
     dsimp only;split
     .refine bind_congr λ_=>bind_congr λ_=>bind_congr λd=>?_;obtain⟨e,h⟩:=d;cases e<;>rfl
     .refine bind_congr λ_=>bind_congr λd=>?_;obtain⟨e,h⟩:=d;cases e<;>rfl
def Down(rk:WL->Int)(xs:Array WL)(lo n:Nat):Prop:=∀i j,i<=j->j<n->Rk rk xs (lo+j)<=Rk rk xs (lo+i)
def zqu{st:WO}{lo :Nat}(T:Tells prog w A s κ rk a0)(O:Ok κ a0 st)(y:lo+b<=a0.size)(u:1<=a)(g:a<=b)(q:Up rk (W7 st) lo (lo+a))
  (h:∀n,a<=n->n<=b->Up rk (W7 st) lo (lo+n)->(n=b\/Rk rk (W7 st) (lo+n)<Rk rk (W7 st) (lo+n-1))->Q (none,n) st):wpS (Xv prog w) A E s (up1 lo a b) Q st:=by
 unfold up1;refine RU (I:=λx c f=>f=st/\c=(none,x)/\Up rk (W7 st) lo (lo+x)) ?step ?fin ⟨rfl,rfl,q⟩
 case fin =>
  rintro c f ⟨rfl,rfl,e⟩
  rw[show max a b=b by lia]at e ⊢
  exact h b g (XQ _) e (.inl rfl)
 case step =>
  rintro x c f k r ⟨rfl,rfl,e⟩
  dsimp only
  refine Xr (zdw T O "a" "a" ?_)
  by_cases d:Rk rk (W7 f) (lo+x)<Rk rk (W7 f) (lo+x-1)
  .simp only[d,decide_true,if_true];exact Xj (h x k "a" e (.inr d))
  .simp only[d,decide_false,Wc,if_false];refine Xj ⟨rfl,rfl,λi j p m v=>?_⟩;by_cases o:j<lo+x
   .exact e i j p m o
   .obtain rfl:j=lo+x:="a"
    by_cases l:i=lo+x
    .subst l;exact Uv _
    .exact Vb (e i (lo+x-1) p "a" "a") (Int.not_lt.mp d)
def zmR{st:WO}{lo :Nat}(T:Tells prog w A s κ rk a0)(S:Step κ a0 lo d st)(p:lo+a<=a0.size)(h1:1<=n)(f:n<=a)(q:Down rk (W7 st) lo n)
  (h:∀m b,Step κ a0 lo d b->1<=m->m<=a->Up rk (W7 b) lo (lo+m)->Q (some m) b):wpS (Xv prog w) A E s (zmQ lo n a) Q st:=by
 unfold zmQ;refine Xr (zj9 ?_);have k:=S.mirror (i:=lo) (j:=lo+n) (XQ _) "a";refine Xr (zqu T k.ok p h1 f ?_ λm o e g _=>Xj (h m _ k "a" e g));intro i j r l u;have c:lo+n<=(W7 st).size:=by
  rw[S.ok.size];lia
 show Rk rk (mirror (W7 st) lo (lo+n) ((lo+n-lo)/2)) i<=Rk rk (mirror (W7 st) lo (lo+n) ((lo+n-lo)/2)) j;rw[zbW c,zbW c,bw "a",bw "a"];have:=q (lo+n-1-j) (lo+n-1-i) "a" "a";rw[show lo+(lo+n-1-j)=lo+(lo+n)-1-j by lia,show lo+(lo+n-1-i)=lo+(lo+n)-1-i by lia]at this;exact this
def zpf{st:WO}{lo :Nat}(T:Tells prog w A s κ rk a0)(S:Step κ a0 lo v st)(U:lo+b<=a0.size)(h1:1<=n)(H:n<=b)(N:Down rk (W7 st) lo n)
  (h:∀m q a,Step κ a0 lo v a->n<=m->m<=b->Down rk (W7 a) lo m->q+1<=m->(∀i,m-(q+1)<=i->i<m->Rk rk (W7 a) (lo+i)=Rk rk (W7 a) (lo+(m-1)))->Q (none,m,q) a):wpS (Xv prog w) A E s (zka lo n b) Q st:=by
 unfold zka;refine RU (I:=λx c a=>∃q,c=(none,x,q)/\Step κ a0 lo v a/\Down rk (W7 a) lo x/\q+1<=x /\
   (∀i,x-(q+1)<=i->i<x->Rk rk (W7 a) (lo+i)=Rk rk (W7 a) (lo+(x-1)))) ?step ?fin (eu 0 rfl S N "a" (λi h1 h2=>by congr 1;lia))
 case fin =>
  refine λc a=>gy λq z0 l d B he=>?_;subst z0
  rw[show max n b=b by lia]at d B he ⊢
  exact h b q a l H (XQ _) d B he
 case step =>
  refine λx c a D O=>gy λq z0 l d B he=>?_;subst z0
  dsimp only
  have J:lo+x<=(W7 a).size:=by
   rw[l.ok.size];lia
  refine Xr (zdw T l.ok "a" "a" ?_)
  by_cases e:Rk rk (W7 a) (lo+x)<Rk rk (W7 a) (lo+x-1)
  .simp only[e,decide_true,if_true];have g:∀L:Array WL,(∀k,Rk rk L k=Rk rk (W7 a) k)->Down rk L lo (x+1):=by
    intro L hk i j r M;rw[hk,hk];by_cases u:j<x
    .exact d i j r u
    .obtain rfl:j=x:="a"
     by_cases p:i=j
     .subst p;exact Uv _
     .have y:=d i (j-1) "a" "a";rw[show lo+(j-1)=lo+j-1 by lia]at y;exact Vb (T5 e) y
   by_cases z:q>0
   .rw[bw z];refine Xr (zj9 (Xj (eu 0 rfl (l.mirror "a" "a") (g _ (yk J λk Y k2=>?_)) "a" (λi h1 h2=>by congr 1;lia))));have y:=he (k-lo) "a" "a";rw[show lo+(k-lo)=k by lia,show lo+(x-1)=lo+x-1 by lia]at y;exact y
   .rw[bq z];exact Xj (eu 0 rfl l (g _ (λ_=>rfl)) "a" (λi h1 h2=>by congr 1;lia))
  .simp only[e,decide_false,Wc,if_false];refine Xr (zdw T l.ok "a" "a" ?_);by_cases f:Rk rk (W7 a) (lo+x-1)<Rk rk (W7 a) (lo+x)
   .simp only[f,decide_true,if_true];exact Xj (h x q a l D "a" d B he)
   .simp only[f,decide_false,Wc,if_false];have o:Rk rk (W7 a) (lo+x)=Rk rk (W7 a) (lo+(x-1)):=by
     rw[show lo+(x-1)=lo+x-1 by lia];lia
    refine Xj (eu (q+1) rfl l (λi j r M=>?_) "a" (λi h1 h2=>?_))
    .by_cases u:j<x
     .exact d i j r u
     .obtain rfl:j=x:="a"
      by_cases p:i=j
      .subst p;exact Uv _
      .rw[o];exact d i (j-1) "a" "a"
    .rw[show x+1-1=x by lia];by_cases G:i=x
     .subst G;rfl
     .rw[o];exact he i "a" "a"
def zkb{st:WO}{lo :Nat}(T:Tells prog w A s κ rk a0)(S:Step κ a0 lo g st)(p:lo+b<=a0.size)(r:n+1<=b)(y:Down rk (W7 st) lo (n+1))
  (h:∀m a,Step κ a0 lo g a->1<=m->m<=b->Up rk (W7 a) lo (lo+m)->Q (some m) a):wpS (Xv prog w) A E s (part2 lo n b) Q st:=by
 unfold part2;refine Xr (P6 (UI ⟨rfl,?_⟩));refine Xr (zpf T S p "a" r y λm q a l x c e z he=>?_);dsimp only;have f:lo+m<=(W7 a).size:=by
  rw[l.ok.size];lia
 by_cases d:q>0
 .rw[bw d];refine Xr (zj9 (zmR T (l.mirror "a" "a") p "a" c ?_ h));intro i j o v;show Rk rk (mirror (W7 a) _ _ _) (lo+j)<=Rk rk (mirror (W7 a) _ _ _) (lo+i);have same:∀k,lo+m-(q+1)<=k->k<lo+m->Rk rk (W7 a) k=Rk rk (W7 a) (lo+m-1):=λk B D=>by
   have u:=he (k-lo) "a" "a";rw[show lo+(k-lo)=k by lia,show lo+(m-1)=lo+m-1 by lia]at u;exact u
  rw[yk f same,yk f same];exact e i j o v
 .rw[bq d];exact zmR T l p "a" c e h
def zcl{st:WO}{lo:Nat}(T:Tells prog w A s κ rk a0)(O:Ok κ a0 st)(v:lo+b<=a0.size)(h1:1<=b)
  (h:∀m l,Step κ a0 lo st l->1<=m->m<=b->Up rk (W7 l) lo (lo+m)->Q (some m) l):wpS (Xv prog w) A E s (countRun' lo b) Q st:=by
 have S:=Step.refl (lo:=lo) O;rw[run_eq];refine Xr (zqu T O v (XQ 1) h1 (λi j I p y=>by
  obtain rfl:i=j:="a"
  exact Uv _) λn q r d x=>?_)
 dsimp only;by_cases g:n=b
 .rw[bw ↑g];exact Xj (h n st S q r d)
 .rw[bq ↑g];have f:Rk rk (W7 st) (lo+n)<Rk rk (W7 st) (lo+n-1):=x.resolve_left g;have u:lo+n<=(W7 st).size:=by
   rw[O.size];lia
  by_cases o:n>1
  .rw[bw o];refine Xr (zdw T O "a" "a" ?_);by_cases c:Rk rk (W7 st) lo<Rk rk (W7 st) (lo+n-1)
   .simp only[c,decide_true,if_true];exact Xj (h n st S q r d)
   .simp only[c,decide_false,Wc,if_false];have a:∀k,lo<=k->k<lo+n->Rk rk (W7 st) k=Rk rk (W7 st) (lo+n-1):=by
     intro k z D;have G:=d lo k (XQ _) z D;have H:=d k (lo+n-1) z "a" "a";lia
    refine Xr (zj9 (zkb T (S.mirror (XQ _) "a") v "a" ?_ h));intro i j p y;show Rk rk (mirror (W7 st) _ _ _) (lo+j)<=Rk rk (mirror (W7 st) _ _ _) (lo+i);rw[yk u a,yk u a];by_cases B:j<n
    .rw[a (lo+i) "a" "a",a (lo+j) "a" "a"];exact Uv _
    .obtain rfl:j=n:="a"
     by_cases e:i=j
     .subst e;exact Uv _
     .rw[a (lo+i) "a" "a"];exact T5 f
  .rw[bq o];obtain rfl:n=1:="a"
   refine zkb T S v "a" ?_ h;intro i j p y;by_cases e:i=j
   .subst e;exact Uv _
   .obtain rfl:i=0:="a"
    obtain rfl:j=1:="a"
    rw[Rx]at f;exact T5 f
def zfb(b:src<xs.size)(a:d<=src)(k):Rk rk (bubble xs src d) k=if k=src-d then Rk rk xs src else if src-d<k/\k<=src then Rk rk xs (k-1) else Rk rk xs k:=by
 have e:=getElem?_bubble b d a k;by_cases h1:k=src-d
 .rw[bw h1]at e ⊢;exact QN e
 .rw[bq h1]at e ⊢;by_cases h2:src-d<k/\k<=src
  .rw[bw h2]at e ⊢;exact QN e
  .rw[bq h2]at e ⊢;exact QN e
def zta{st:WO}{lo :Nat}(T:Tells prog w A s κ rk a0)(O:Ok κ a0 st)(hn:lo+n<=a0.size)(ab:ok<=n)(hs:Up rk (W7 st) lo (lo+ok))
  (h:∀e,Step κ a0 lo st e->Up rk (W7 e) lo (lo+n)->Q true e):wpS (Xv prog w) A E s (binarySort' lo n ok) Q st:=by
 rw[binarySort'_eq];refine Xr (NF (RU (I:=λk c e=>c=(none,())/\Step κ a0 lo st e/\Up rk (W7 e) lo (lo+min k n))
  (Q:=λc e=>c=(none,())/\Step κ a0 lo st e/\Up rk (W7 e) lo (lo+n)) ?step ?fin ?init) ?post)
 case post =>
  rintro c e ⟨rfl,p,g⟩
  exact Xj (h e p g)
 case init =>
  refine⟨rfl,Step.refl O,λi j z D U=>?_⟩
  by_cases h1:ok=0
  .obtain rfl:i=j:="a"
   exact Uv _
  .exact hs i j z D "a"
 case fin =>
  rintro c e ⟨N,p,g⟩
  refine⟨N,p,?_⟩
  rwa [show min (max (max ok 1) n) n=n by lia]at g
 case step =>
  rintro k c e M Y ⟨rfl,p,g⟩
  rw[show min k n=k by lia]at g
  have v:=p.ok
  have hk:lo+k<a0.size:="a"
  refine Xr (NF (RU (I:=λx c d=>d=e/\∃l r,c=(none,l,r)/\l<=r/\r<=k/\r-l<=k-x /\
    (∀i,i<l->Rk rk (W7 e) (lo+i)<=Rk rk (W7 e) (lo+k))/\(∀i,r<=i->i<k->Rk rk (W7 e) (lo+k)<Rk rk (W7 e) (lo+i)))
   (Q:=λc d=>d=e/\∃l r,c=(none,l,r)/\l<=k /\
    (∀i,i<l->Rk rk (W7 e) (lo+i)<=Rk rk (W7 e) (lo+k))/\(∀i,l<=i->i<k->Rk rk (W7 e) (lo+k)<Rk rk (W7 e) (lo+i))) ?istep ?ifin ?iinit) ?ipost)
  case iinit=>exact⟨rfl,(eK 0 k rfl "a" "a" "a" (λi z=>"a") (λi h1 h2=>"a"))⟩
  case ifin =>
   refine λc d=>gr λz0=>gu λl r z1 G u hm o m=>?_;subst z0 z1
   obtain rfl:l=r:="a"
   exact⟨rfl,(dW l l rfl u o m)⟩
  case istep =>
   refine λx c d _ ac=>gr λz0=>gu λl r z1 G u hm o m=>?_;subst z0 z1
   dsimp only
   by_cases y:l >= r
   .rw[bw y];obtain rfl:l=r:="a"
    exact Xj ⟨rfl,(dW l l rfl u o m)⟩
   .rw[bq y];refine Xr (zdw T v hk "a" ?_);by_cases f:Rk rk (W7 d) (lo+k)<Rk rk (W7 d) (lo+(l+r)/2)
    .simp only[f,decide_true,if_true];refine Xj ⟨rfl,(eK l ((l+r)/2) rfl "a" "a" "a" o (λi h1 h2=>?_))⟩;exact Int.lt_of_lt_of_le f (g _ _ "a" "a" "a")
    .simp only[f,decide_false,Wc,if_false];refine Xj ⟨rfl,(eK ((l+r)/2+1) r rfl "a" "a" "a" (λi h1=>?_) m)⟩;exact Vb (g (lo+i) (lo+(l+r)/2) "a" "a" "a") (Int.not_lt.mp f)
  case ipost =>
   refine λc d=>gr λz0=>fQ λl r z1 aa o m=>?_;subst z0 z1
   show wpS _ _ _ _ (do moveDown' (lo+k) (lo+l);pure (VY (none,()))) _ _
   rw[moveDown'_eq]
   have q:lo+k<(W7 d).size:=by
    rw[v.size];exact hk
   refine Xr (Su (Xj ⟨rfl,⟨⟨(bubble_perm _ _ _).trans v.perm,v.kind,v.good⟩,p.pend,λi z=>?_⟩,?_⟩))
   .show (bubble (W7 d) (lo+k) (lo+k-(lo+l)))[i]?=_;rw[getElem?_bubble q _ "a",bq "a",bq "a"];exact p.low i z
   .rw[show min (k+1) n=k+1 by lia];intro i j z D U;show Rk rk (bubble (W7 d) (lo+k) (lo+k-(lo+l))) i<=Rk rk (bubble (W7 d) (lo+k) (lo+k-(lo+l))) j;rw[zfb q "a",zfb q "a",show lo+k-(lo+k-(lo+l))=lo+l by lia];have up:∀a b,lo<=a->a<=b->b<lo+k->Rk rk (W7 d) a<=Rk rk (W7 d) b:=g;have H:∀a,lo<=a->a<lo+l->Rk rk (W7 d) a<=Rk rk (W7 d) (lo+k):=λa J L=>by
     have:=o (a-lo) "a";rwa [show lo+(a-lo)=a by lia]at this
    have B:∀a,lo+l<=a->a<lo+k->Rk rk (W7 d) (lo+k)<Rk rk (W7 d) a:=λa J L=>by
     have:=m (a-lo) "a" "a";rwa [show lo+(a-lo)=a by lia]at this
    repeat' split
    all_goals first
     | (exfalso;lia)
     | exact Uv _
     | exact H _ "a" "a"
     | exact T5 (B _ "a" "a")
     | exact up _ _ "a" "a" "a"
end
def gallop':Bool->WL->Array WL->Nat->Nat->Nat->StateT WO Sem (Option Nat):=sortPriv% PySem.Builtin.gallop
def mergeLo':Array WL->Array WL->StateT WO Sem (Array WL):=sortPriv% PySem.Builtin.mergeLo
def mergeHi':Array WL->Array WL->StateT WO Sem (Array WL):=sortPriv% PySem.Builtin.mergeHi
section
variable {rk:WL->Int}{aL bL oL:List WL}{ia ib:Nat}
def ext_toList(a:Array WL)(i j)(b:i<=j):(a.extract i j).toList=(a.toList.drop i).take (j-i):=by
 rw[OL,Rs]
def zkc(a:Array WL)(i):(a.extract i a.size).toList=a.toList.drop i:=by
 rw[OL,Rs,Wd];rw[UM,XX];exact XQ _
def zmS{a:Array WL}(h:a[i]?=some x):(a.toList.drop i).take 1=[x]:=by
 have b:i<a.toList.length:=by
  rw[XX];exact(Vp.mp h).1
 rw[Wt b,Uj,List.take_zero];have:a.toList[i]?=some x:=by rw[W6];exact h
 rw[X0 b]at this;rw[Option.some.inj this]
end
section
variable {prog:Xu}{w:W9}{A:WZ}{E:X9->X8->Prop}{s:X8}{rk:WL->Int}{κ:TB}{a0:Array WL}
structure Kept (st st':WO):Prop where
 arr:W7 st'=W7 st
 kind:kindOf st'=kindOf st
 pend:W4 st'=W4 st
 bad:Tz st'=Tz st
def setG':Nat->StateT WO Sem Unit:=sortPriv% PySem.Builtin.setMinGallop
def Kept.refl(st):Kept st st:=⟨rfl,rfl,rfl,rfl⟩
def zf1{st:WO}(k:Kept b st)(h:∀a,Kept b a->Q () a):wpS (Xv prog w) A E s (setG' g) Q st:=by
 have e:setG' g=modify λc=>SortSt.mk' (kindOf c) (W7 c) (W4 c) g (Tz c):=rfl;rw[e];exact Su (h _ ⟨k.arr,k.kind,k.pend,k.bad⟩)
def qB  [Decidable c]{st:WO}(h1:c->wpS (Xv prog w) A E s x Q st)(h2:¬ c->wpS (Xv prog w) A E s y Q st):wpS (Xv prog w) A E s (if c then x else y) Q st:=by
 by_cases a:c
 .rw[bw a];exact h1 a
 .rw[bq a];exact h2 a
def yp{a:Array WL}(h:i<a.size):∃x,a[i]?=some x/\x∈a.toList:=⟨a[i],getElem?_pos a i h,"s"⟩
set_option maxHeartbeats 8000000 in
theorem via{P:Prop}(h:∀G:Prop,(P->G)->G):P:=h P id
structure Key (P:Prop):Prop where
 get:P
def cut{R:Prop}(k:P)(h:Key P->R):R:=h ⟨k⟩
def zrA{lo:Nat}(u:Up rk xs lo a)(h1:lo<=i)(h2:i<=j)(d:j<a)(b:xs[i]?=some x)(c:xs[j]?=some y):rk x<=rk y:=by
 have:=u i j h1 h2 d;unfold Rk at this;rw[b,c]at this;exact this
def zkd{xs:Array WL}{i:Nat}(e:xs[i]?=some x):x∈xs.toList:=X7 (by rw[W6];exact e)
def ext_get{xs:Array WL}(h1:i<=j)(h2:j<=xs.size)(hk:k<j-i):(xs.extract i j)[k]?=xs[i+k]?:=by
 rw[Array.getElem?_extract,bw "a"]
def zdx{xs:Array WL}(h2:j<=xs.size):(xs.extract i j).size=j-i:=by
 rw[Array.size_extract];lia
def ext_mem{xs:Array WL}(a:j<=xs.size)(h:x∈(xs.extract i j).toList):∃k,i<=k/\k<j/\xs[k]?=some x:=by
 obtain⟨k,hk,e⟩:=R0 h;rw[XX,zdx a]at hk;refine⟨i+k,"a","a",?_⟩;rw[<- ext_get (xs:=xs) (i:=i) (j:=j) "a" a hk,<- e,Sa];exact getElem?_pos _ _ _
def ztb{st:WO}(h:∀b,b=a->Q ⟨⟩ b):wpS (Xv prog w) A E s (set a:StateT WO Sem PUnit) Q st:=by
 unfold wpS;rw[StateT.run_set];exact XR ⟨rfl,h _ rfl⟩
def xW:List (Nat×AA)->Nat->Nat->Prop
 | [],s,e=>s=e
 | r::l,s,e=>r.1=s/\1<=r.2.1/\xW l (s+r.2.1) e
theorem xK:∀{l1 l2:List (Nat×AA)} {s e:Nat},xW (l1++l2) s e ↔ ∃m,xW l1 s m/\xW l2 m e
 | [],l2,s,e=>⟨λh=>⟨s,rfl,h⟩,λ⟨m,h1,h2⟩=>by
  have e:s=m:=h1;subst e;exact h2⟩
 | r::l1,l2,s,e=>by
  constructor
  .rintro⟨h1,h2,h3⟩;obtain⟨m,a,b⟩:=xK.mp h3;exact⟨m,⟨h1,h2,a⟩,b⟩
  .rintro⟨m,⟨h1,h2,h3⟩,a⟩;exact⟨h1,h2,xK.mpr ⟨m,h3,a⟩⟩
theorem zdy:∀{l:List (Nat×AA)} {s e:Nat},xW l s e->s<=e/\l.length+s<=e/\∀r∈l,s<=r.1/\r.1+r.2.1<=e
 | [],s,e,h=>by
  have b:s=e:=h;subst b;exact⟨XQ _,"s",λr d=>nomatch d⟩
 | r::l,s,e,⟨h1,h2,c⟩=>by
  obtain⟨f,g,a⟩:=zdy c;refine⟨"a",by rw[Xf];lia,λq hq=>?_⟩;rcases XG.mp hq with rfl | hq
  .lia
  .have:=a q hq;lia
def ziW{p:List (Nat×AA)}(h:i+1<p.length):∃l1 a b l2,p=l1++a::b::l2/\l1.length=i/\p[i]?=some a/\p[i+1]?=some b:=by
 refine⟨p.take i,p[i],p[i+1],p.drop (i+2),?_,by rw[XH];lia,X0 "a",X0 h⟩;rw[<- Wt h,<- Wt "a",Xc]
theorem zcm(b):∀{l:List (Nat×AA)} {k s e:Nat},xW l s e->xW (l.modify k λr=>(r.1,r.2.1,b)) s e
 | [],k,s,e,h=>by
  cases k<;>exact h
 | r::l,0,s,e,⟨h1,h2,a⟩=>⟨h1,h2,a⟩
 | r::l,k+1,s,e,⟨h1,h2,a⟩=>⟨h1,h2,zcm b a⟩
def ite_le(c) [Decidable c](n):(if c then n-1 else n)<=n:=by
 split<;>lia
end
structure Wk {K:Type}(lt:K->K->Bool):Prop where
 tot:∀x y,lt x y=true->lt y x=false
 tr:∀x y z,lt y x=false->lt z y=false->lt z x=false
def rkK{K:Type}(lt:K->K->Bool)(ks:List K)(k:K):Int:=((ks.countP λq=>lt q k:Nat):Int)
theorem count_le{K:Type}{p q:K->Bool}:∀{ks:List K},(∀x∈ks,p x=true->q x=true)->ks.countP p<=ks.countP q
 | [],_=>XQ _
 | x::ks,h=>by
  have d:=count_le (ks:=ks) λy b=>h y (XS _ b);rw[Vw,Vw];have a:=h x XU;by_cases c:p x=true
  .rw[bw c,bw (a c)];lia
  .rw[bq c];lia
def zmT{K:Type}{p q:K->Bool}{ks:List K}(h:∀x∈ks,p x=true->q x=true)(b:∃x∈ks,p x=false/\q x=true):ks.countP p<ks.countP q:=by
 obtain⟨y,hy,h1,h2⟩:=b;induction ks with
 | nil=>cases hy
 | cons x ks a =>
  rw[Vw,Vw];have d:=h x XU;rcases XG.mp hy with rfl | hy
  .have a:=count_le (ks:=ks) λy hy=>h y (XS _ hy);rw[h1,h2,bq XJ,bw rfl];lia
  .have a:=a (λy hy=>h y (XS _ hy)) hy;by_cases c:p x=true
   .rw[bw c,bw (d c)];lia
   .rw[bq c];lia
def Wk.rank{K:Type}{lt:K->K->Bool}(W:Wk lt){ks:List K}{x y:K}(c:x∈ks):lt x y=decide (rkK lt ks x<rkK lt ks y):=by
 unfold rkK;cases h:lt x y with
 | true =>
  refine(br ?_).symm;have:=zmT (ks:=ks) (p:=λq=>lt q x) (q:=λq=>lt q y) (λq _ b=>?_) ⟨x,c,?_,h⟩
  .lia
  .cases hc:lt q y with
   | true=>rfl
   | false =>
    have:=W.tr x y q (W.tot x y h) hc;have a:lt q x=true:=b;rw[this]at a;cases a
  .cases hc:lt x x with
   | false=>rfl
   | true=>exact hc.symm.trans (W.tot x x hc)
 | false =>
  refine(bf ?_).symm;have:=count_le (ks:=ks) (p:=λq=>lt q y) (q:=λq=>lt q x) λq _ b=>by
   cases hc:lt q x with
   | true=>rfl
   | false =>
    have:=W.tr y x q h hc;have a:lt q y=true:=b;rw[this]at a;cases a
  lia
def zdz{xs:List α}{ys:List d}(hp:Xk R xs ys):(∀p∈xs.zip ys,R p.1 p.2)/\(xs.zip ys).map (·.1)=xs/\(xs.zip ys).map (·.2)=ys:=by
 induction hp with
 | nil=>exact⟨(λp h=>nomatch h),rfl,rfl⟩
 | cons h _ e =>
  obtain⟨a,b,c⟩:=e;refine⟨λp hp=>?_,by rw[List.zip_cons_cons,Xs,b],by rw[List.zip_cons_cons,Xs,c]⟩;rcases XG.mp hp with rfl | hp
  .exact h
  .exact a p hp
theorem zfc:∀{zs:List (α × a)},(∀p∈zs,R p.1 p.2)->Xk R (zs.map (·.1)) (zs.map (·.2))
 | [],_=>.nil
 | p::zs,h=>.cons (h p XU) (zfc λq b=>h q (XS _ b))
theorem Zv:∀{xs:List α} {ys:List a},Xk R xs ys->∀x∈xs,∃y∈ys,R x y
 | _,_,.nil,x,h=>nomatch h
 | _,_,.cons h t,x,hx=>by
  rcases XG.mp hx with rfl | hx
  .exact⟨_,XU,h⟩
  .obtain⟨y,h1,h2⟩:=Zv t x hx;exact⟨y,XS _ h1,h2⟩
def Tri{K:Type}(a:V->K->Prop)(RH:X9->K->Prop)(t:V×X9×K):Prop:=RelV t.1 t.2.1/\a t.1 t.2.2/\RH t.2.1 t.2.2
def zrB{K:Type}{d:V->K->Prop}{RH:X9->K->Prop}{ks:List K}(h1:Vals c a):Xk d c ks->Xk RH a ks->∃T:List (V×X9×K),(∀t∈T,Tri d RH t)/\T.map (·.1)=c/\T.map (·.2.1)=a/\T.map (·.2.2)=ks:=by
 induction h1 generalizing ks with
 | nil =>
  intro h2 b;cases h2;exact⟨[],(λt h=>nomatch h),rfl,rfl,rfl⟩
 | @cons u i c a g o f =>
  intro h2 b;cases h2 with
  | @cons _ k _ ks j m =>
   cases b with
   | cons l n =>
    refine gF (λT h1 h2 b e=>?_) (f m n);refine fF ((u,i,k)::T) (λt ht=>?_) (by rw[Xs,h2]) (by rw[Xs,b]) (by rw[Xs,e]);rcases XG.mp ht with rfl | ht
    .exact⟨g,j,l⟩
    .exact h1 t ht
theorem zho{K:Type}{d:V->K->Prop}{RH:X9->K->Prop}:∀{T:List (V×X9×K)},(∀t∈T,Tri d RH t)->Vals (T.map (·.1)) (T.map (·.2.1))/\Xk d (T.map (·.1)) (T.map (·.2.2))
 | [],_=>⟨.nil,.nil⟩
 | t::T,h=>by
  obtain⟨h1,h2⟩:=zho λx e=>h x (XS _ e);obtain⟨a,b,c⟩:=h t XU;exact⟨.cons a h1,.cons b h2⟩
def zmU:Wk lt2:=by
 refine⟨λx y h=>?_,λx y z h1 h2=>?_⟩
 .cases e:lt2 y x with
  | false=>rfl
  | true =>
   have:=ziK h e;rw[zj1]at this;cases this
 .cases e:lt2 z x with
  | false=>rfl
  | true =>
   by_cases a:x=y
   .subst a;rw[e]at h2;exact h2
   .have b:lt2 x y=true:=by
     have:=zfP (p:=x) (q:=y) a;rw[h1]at this;cases hh:lt2 x y with
     | true=>rfl
     | false =>
      rw[hh]at this;cases this
    have:=ziK e b;rw[this]at h2;exact h2
def zf2(h1:zL h v p)(h2:zL h v q):p=q:=by
 obtain⟨a,o,n,t,u,e,k,c1,i⟩:=h1;obtain⟨z,B,A,x,y,j,c,g,b⟩:=h2;subst e;cases j;rw[k]at c;cases c;rw[i]at b;obtain⟨m,r⟩:=p;obtain⟨s,w⟩:=q;injection b with b _
 have l:[Vo m t,Vo r u]=[Vo s x,Vo w y]:=congrArg Array.toList b;injection l with f d
 injection d with d _
 injection f with f _
 injection d with d _
 rw[f,d]
end GS
end L2
namespace PySem.SeqAt
open L2 AutoSeq1 MeetsSeq MeetsSeq2 MeetsSeq3
end PySem.SeqAt
namespace L2
open PySem PySem.Spec PyProof.Rows PySem.W PySem.SeqAt
end L2
namespace PySem.SeqAt
open L2 AutoSeq1 MeetsSeq MeetsSeq2 MeetsSeq3
def ltL:List (Int×Int)->List (Int×Int)->Bool
 | _,[]=>false
 | [],_::_=>true
 | p::r,q::t=>if p=q then ltL r t else lt2 p q
def zf3(ps):ltL ps []=false:=by cases ps<;>rfl
theorem zke:∀ps:List (Int×Int),ltL ps ps=false
 | []=>rfl
 | p::r=>by
  unfold ltL;rw[bw rfl];exact zke r
theorem zkf:∀{ps qs:List (Int×Int)},ps≠qs->ltL qs ps=!ltL ps qs
 | [],[],h=>absurd rfl h
 | [],q::t,_=>rfl
 | p::r,[],_=>rfl
 | p::r,q::t,h=>by
  unfold ltL;by_cases e:p=q
  .subst e;rw[bw rfl,bw rfl];exact zkf λz=>h (by rw[z])
  .rw[bq e,bq (Vd e)];exact zfP e
theorem ziX:∀{ps qs d:List (Int×Int)},ltL ps qs=true->ltL qs d=true->ltL ps d=true
 | ps,[],_,h,_=>by
  rw[zf3]at h;cases h
 | _,_::_,[],_,h=>by
  rw[zf3]at h;cases h
 | [],_::_,_::_,_,_=>rfl
 | p::r,q::t,x::y,h1,h2=>by
  unfold ltL at *
  by_cases b:p=q
  .subst b;rw[bw rfl]at h1;by_cases a:p=x
   .rw[bw a]at h2 ⊢;exact ziX h1 h2
   .rw[bq a]at h2 ⊢;exact h2
  .rw[bq b]at h1;by_cases a:q=x
   .subst a;rw[bq b];exact h1
   .rw[bq a]at h2;have c:=ziK h1 h2;rw[bq]
    .exact c
    .intro e;subst e;rw[zj1]at c;cases c
def ziY(h1:zL s.heap v p)(h2:zL s.heap a q)(d:A.units+10<VE):EqAt A s v a (decide (p=q)):=by
 obtain⟨as,b⟩:=zas h1;obtain⟨bs,c⟩:=zas h2;have:=eqAt_reads _ _ A s _ _ as bs b c rfl rfl (by show A.units+min 1 1<VE;lia);rw[ze1]at this;exact this
def zfd{xs:Array X9}(d:Xk (zL h) xs.toList ps)(g:i<xs.size):∃p r,ps.drop i=p::r/\ps.drop (i+1)=r/\zL h xs[i] p:=by
 have e:xs.toList.length=ps.length:=Paired.length d;rw[XX]at e;have h2:i<ps.length:="a"
 obtain⟨a,b,c⟩:=GS.zdz d;refine⟨ps[i],ps.drop (i+1),Wt h2,rfl,?_⟩;have f:i<(xs.toList.zip ps).length:=by
  rw[List.length_zip,XX];lia
 have:=a _ (UK f);rw[List.getElem_zip]at this;simpa using this
def zlr(l b)(c a)(n Y)(dd B)(sl E)(ps qs)(k) :
  ∀i:Nat,c.size-i=k->i<=c.size->i<=a.size->Meets (UB.«list.__eq__.loop» ⟨[.ref l,.ref b,Ua i,Ua 0],[]⟩)
   (λA R s=>s.heap.get? l=some { cls:=.type "list",dict:=dd,data:=.seq c n,slots:=sl }/\s.heap.get? b=some { cls:=.type "list",dict:=B,data:=.seq a Y,slots:=E } /\
    Xk (zL s.heap) c.toList ps/\Xk (zL s.heap) a.toList qs/\A.units+20<VE /\
    R (.ok (.ret (.bool (ltL (ps.drop i) (qs.drop i))))) s):=by
 induction k with
 | zero =>
  intro i hk h1 h2 f w A R s h;obtain⟨Q,g,d,tk,os⟩:=s;revert h;refine gj λy x m o G h=>?_;have l1:c.toList.length=ps.length:=Paired.length m;have l2:a.toList.length=qs.length:=Paired.length o;rw[XX]at l1 l2;wp_walk using V7 y,V7 x;have j:c[((i:Nat):Int).toNat]?=none:=by simp;lia
  rw[j];have D:ps.drop i=[]:=by simp;lia
  have e:ltL (ps.drop i) (qs.drop i)=decide (c.size<a.size):=by
   rw[D];by_cases T:i<qs.length
   .rw[Wt T];exact(br "a").symm
   .rw[List.drop_of_length_le "a"];exact(bf "a").symm
  rw[e]at h;wp_walk using V7 y,V7 x;exact h
 | succ k U =>
  intro i hk h1 h2 f w A R s h;obtain⟨Q,g,d,tk,os⟩:=s;revert h;refine gj λy x m o G h=>?_;have l1:c.toList.length=ps.length:=Paired.length m;have l2:a.toList.length=qs.length:=Paired.length o;rw[XX]at l1 l2;wp_walk using V7 y,V7 x;have z:i<c.size:="a"
  have j:c[((i:Nat):Int).toNat]?=some c[i]:=by simp[z]
  by_cases v:i<a.size
  .have u:a[((i:Nat):Int).toNat]?=some a[i]:=by simp[v]
   have O:((i:Int)+1)=((i+1:Nat):Int):=by push_cast;rfl
   refine fS (λp r J M H=>?_) (zfd m z);refine fS (λq t L N I=>?_) (zfd o v);rw[j,u];refine Y1 (ziY H I (by show A.units+1+10<VE;lia) f w _ _ ?_);rw[J,L]at h;unfold ltL at h;by_cases e:p=q
   .rw[bw e]at h;rw[br e];wp_walk;rw[O];exact⟨Ur plain_eq_loop _,VL entry_eq_loop (by
     rw[V2 plain_eq_loop _];exact U (i+1) "a" "a" "a" f w A R _ (eF y x m o G (by rw[M,N];exact h)))⟩
   .rw[bq e]at h;rw[bf e];simp only[Wc,if_false];refine Y1 (Rr y rfl (Y1 (Rr x rfl ?_)));rw[j,u];exact Y1 (zaG.pairs H I (by show A.units+1<VE;lia) f w _ _ (XR h))
  .have u:a[((i:Nat):Int).toNat]?=none:=by simp;lia
   rw[j,u];have D:qs.drop i=[]:=by simp;lia
   rw[D,zf3,show false=decide (c.size<a.size) from (bf "a").symm]at h;wp_walk using V7 y,V7 x;exact h
def ziZ(l b)(c a)(n j)(dd d)(k f)(ps qs) :
  Meets (UB.«list.__lt__» ⟨[.ref l,.ref b],[]⟩)
   (λA R s=>s.heap.get? l=some { cls:=.type "list",dict:=dd,data:=.seq c n,slots:=k }/\s.heap.get? b=some { cls:=.type "list",dict:=d,data:=.seq a j,slots:=f } /\
    Xk (zL s.heap) c.toList ps/\Xk (zL s.heap) a.toList qs/\A.units+20<VE/\R (.ok (.ret (.bool (ltL ps qs)))) s):=by
 intro e w A R s h;obtain⟨o,g1,v,u,r⟩:=s;revert h;refine gj λi g m p q h=>?_;have x:=sub_list_list;wp_walk using V7 i,V7 g;exact⟨Ur plain_eq_loop _,VL entry_eq_loop (by
  rw[V2 plain_eq_loop _];exact zlr l b c a n j dd d k f ps qs _ 0 rfl (W2 _) (W2 _) e w A R _ (eF i g m p q (↑h)))⟩
structure ListPairs (h:Heap)(v:X9)(ps:List (Int×Int)):Prop where
 ex:∃a o xs n,v=.ref a/\h.get? a=some o/\o.cls=.type "list"/\o.data=.seq xs n/\Xk (zL h) xs.toList ps
def zmV(x:ListPairs s.heap v ps)(g:ListPairs s.heap p qs)(G:A.units+30<VE)(h:C (ltL ps qs) s) :
  Xw (Xv prog w) A (PyProof.Rows.keyLt' PyProof.Rows.oneType' v p) C E s:=by
 obtain⟨a,⟨r,u,o,B⟩,D,n,rfl,e,c1,m,z⟩:=x;obtain⟨q,⟨l,d,data2,j⟩,k,y,rfl,f,b,c,i⟩:=g;simp only at c1 m b c;subst c1 m b c;rw[PyProof.Rows.keyLt'_oneType,PyProof.Rows.oneLt'_eq];simp only[if_true];refine Y1 (wpAny_cRoomFor "a" ?_);refine Y1 (wpAny_callSpecialIfBound?_slot (T:="list") ⟨_,e,rfl⟩ F.slot_list_lt ?_);refine RK F.slot_list_lt ⟨_,e,rfl⟩ F.entry_list_lt (F.args_list_lt_2 _ _) (ziZ a q D k n y u d B j ps qs) (eF e f z i "a" ?_);exact VS h
end PySem.SeqAt
namespace L2
open PySem PySem.Spec PyProof.Rows PySem.W PySem.SeqAt
namespace GS
def zrC:Wk ltL:=by
 refine⟨λx y h=>?_,λx y z h1 h2=>?_⟩
 .cases e:ltL y x with
  | false=>rfl
  | true =>
   have:=ziX h e;rw[zke]at this;cases this
 .cases e:ltL z x with
  | false=>rfl
  | true =>
   by_cases a:x=y
   .subst a;rw[e]at h2;exact h2
   .have b:ltL x y=true:=by
     have:=zkf (ps:=x) (qs:=y) a;rw[h1]at this;cases hh:ltL x y with
     | true=>rfl
     | false =>
      rw[hh]at this;cases this
    have:=ziX e b;rw[this]at h2;exact h2
def LstAt(H:Hp)(v:V)(ps:List (Int×Int)):Prop:=∃a b,v=V.ref a/\H a=some (.lst b)/\xG H b ps
def zls(d:Xk (zL h) vs ps):Xk (zL h) vs qs->ps=qs:=by
 induction d generalizing qs with
 | nil =>
  intro c;cases c;rfl
 | cons a _ e =>
  intro c;cases c with
  | cons b u=>rw[zf2 a b,e u]
def zmW(h1:ListPairs h v ps)(h2:ListPairs h v qs):ps=qs:=by
 obtain⟨a,o,r,n,e,j,c1,g,k⟩:=h1;obtain⟨m,q,l,p,i,c,f,b,d⟩:=h2;subst e;cases i;rw[j]at c;cases c;rw[g]at b;injection b with b _
 subst b;exact zls k d
def YU(k:∀b o,h.get? b=some o->h'.get? b=some o)(d:Xk (zL h) vs ps):Xk (zL h') vs ps:=by
 induction d with
 | nil=>exact .nil
 | cons q _ f =>
  obtain⟨a,o,n,t,u,e,c,r⟩:=q;exact .cons ⟨a,o,n,t,u,e,k _ _ c,r⟩ f
section
variable {X:Cx}{bz:List (Addr×Obj)}{σ:St}{H:Hp}{s:X8}
def zi0(I:Inv X bz σ H s){c:AE}(d:Xk (LstAt H) c ks)(r:Vals c b):Xk (ListPairs s.heap) b ks:=by
 induction d generalizing b with
 | nil =>
  cases r;exact .nil
 | cons q _ g =>
  obtain⟨a,m,e,h,f⟩:=q;subst e;cases r with
  | cons i j =>
   cases i;refine .cons ?_ (g j);obtain⟨z,b,n,k,l,e⟩:=I.lstM h;exact⟨a,_,b.toArray,n,rfl,e,rfl,rfl,by rw[Ou];exact xG.pairs I f k⟩
end
def zi1(f:Xk (ListPairs h) b ks):∀v∈b,∃a o,v=WU a/\h.get? a=some o/\o.cls=.type "list":=by
 induction f with
 | nil=>exact λv hv=>nomatch hv
 | cons q _ g =>
  intro v hv;rcases XG.mp hv with rfl | hv
  .obtain⟨a,o,i,n,e,d,c,_⟩:=q;exact⟨a,o,e,d,c⟩
  .exact g v hv
end GS
open PySem PySem.Spec PyProof.Rows
def HasDef(K:X4)(x:Str)(st:Stmt):Prop:=∃(f:Addr) (e:X9) (g b:Option Addr) (i:Array (Option X9)) (kV d h a c:X9),XO K XT x=some (some (.ref f))/\K.lookup f=some ⟨e,g,.func (V0 x x (yy st) (jw st) (zv st) .none kV d h b a c),i⟩/\U7 K a x=true/\VD K (.ref f)=true
def us0{P:List X9->Prop}(h:P []):∀b:List X9,b.length=0->P b:=by
 intro b e;cases b with
 | nil=>exact h
 | cons a t=>cases e
def usS{P:List X9->Prop}(h:∀a t,t.length=n->P (a::t)):∀b:List X9,b.length=n+1->P b:=by
 intro b e;cases b with
 | nil=>cases e
 | cons a t=>exact h a t (Nat.succ.inj e)
def us1{P:List X9->Prop}(h:∀a,P [a]):∀b:List X9,b.length=1->P b:=usS λa=>us0 (h a)
def us2{P:List X9->Prop}(h:∀a b,P [a,b]):∀c:List X9,c.length=2->P c:=usS λa=>us1 (h a)
def us3{P:List X9->Prop}(h:∀a b c,P [a,b,c]):∀d:List X9,d.length=3->P d:=usS λa=>us2 (h a)
def us4{P:List X9->Prop}(h:∀a b c d,P [a,b,c,d]):∀e:List X9,e.length=4->P e:=usS λa=>us3 (h a)
def HasDef.at{K:X4}{st:Stmt}(H:HasDef K x st)(X:K.In h)(G:h.Ns XT i)
  (n:∀(kV doc j:X9) (e:Option Addr) (b g:X9) (d:List X9),d.length=ps.length->N8 (V0 x x (yy st) (jw st) (zv st) .none kV doc j e b g) ⟨d,[]⟩=pure (ps.zip d):=by intro _ _ _ _ _ _;first | exact us1 λ_=>rfl | exact us2 λ_ _=>rfl | exact us3 λ_ _ _=>rfl | exact us4 λ_ _ _ _=>rfl):∃f m,zh K i x st ps f m:=by
 revert H;refine gI λf q r e s kV p j=>fQ λo g a l c k=>?_;have F:=zml (st:=st) l c k;exact⟨f,_,F,WS X G a,F.binds n⟩
open PySem PySem.W
def _root_.Zm.HD.at{K:X4}(H:Zm.HD K x ι)(X:K.In h)(G:h.Ns XT i)
  (n:∀(kV doc j:X9) (e:Option Addr) (b g:X9) (d:List X9),d.length=ps.length->N8 (V0 x x (yy (Zm.top ι)) (jw (Zm.top ι)) (zv (Zm.top ι)) .none kV doc j e b g) ⟨d,[]⟩=pure (ps.zip d):=by intro _ _ _ _ _ _;first | exact us1 λ_=>rfl | exact us2 λ_ _=>rfl | exact us3 λ_ _ _=>rfl | exact us4 λ_ _ _ _=>rfl):∃f m,zh K i x (Zm.top ι) ps f m:=HasDef.at (st:=Zm.top ι) H X G n
section
variable {X:Cx}
def ztc(K:X4)(S:Addr)(i:Nat)(sp:Sp)(f:TA)(g:TS):TS:=λD b H=>f b H λh d=>sp h d (λv a=>D.nx (b.set i (some v)) a)
 (λc _ a=>∃C,c=.ref C/\Wq K C (.ref S)=some true/\∀e,a e=none->g D b (upd a e (exO e C)))
def zpg{xp fp M ap aj hp pos:Pos}
  (c:X.stack=X.env::X.outer) (ac:X.env.frame=some X.env.locals) (F:qm X.prog X.w X.K X.mg X.base (CXE X.prog X.w) k fA fd ps sp) (hr:xj k X.A) (hg:Gl X f) (hm:X.mg f=some (.ref fA)) (hk:VD X.K (.ref fA)=true) (hb:Binds X.K fd ps [])
  (hN:X.N.Nodup) (hi:X.N[i]?=some x) (hx:Loc X.env.scope x) (hf:X.fn x=true\/X.env.scope.names.lookup x=some .local) (gS:Gl X T) (O:qw X.K X.mg T S)
  (ha:PA X.nox (E::o) ta) (hs:∀e,PSs (markX X e) (b0::b) ts)
  (he:Xh (E::o) X.env=(false,eval E X.env)::Xh o X.env:=by rfl) (af:(UV M (Xh o X.env)).any (·.1)=false:=by rfl) (ab:(f==("__debug__":Str))=false:=by decide) (aa:(T==("__debug__":Str))=false:=by decide)
  (ah:Tt (.Call (.Name f fp) (E::o) [] M) (some (.Name x xp)) ap.line X.env=pure false:=by rfl) :
  PS X (.Try [.Assign [.Name x xp] (.Call (.Name f fp) (E::o) [] M) ap] [.ExceptHandler (some (.Name T aj)) none (b0::b) hp] [] [] pos) (ztc X.K S i sp ta ts):=by
 intro Y s σ H D I h;refine wpAny_Try_except (Vk ?_);refine SR (Vy (xB I hg hm ?_ ab)) ah;refine UE (h₀:=X.base) I.ok.mod.kin hk (WM (ha M Y s σ H _ (I.wish _) h) (λQ s1 ⟨vs,H1,p,r,q⟩=>⟨p.kIn,?_⟩) λ_ _ z=>WK z) he af;have n:Inv X Y σ H1 s1:=p.unwish;have G:Q.length=ps.length:=by rw[<- r.length];exact F.len _ _ _ _ q
 have bt:=hb s1 Q n.kIn (by rw[W5];exact G);rw[W5]at bt;refine RL (UT (F.run X.A X.stack s1 H1 ⟨Q,[]⟩ Q vs _ _ hr n.env0 bt r q) λai s' J=>?_);cases ai with
 | ok fl =>
  cases fl with
  | ret u =>
   refine fS (λv H2 I2 rv q2=>?_) (n.after J);exact Ye I2 hN hi hx rv (λs3 I3=>VB (VB ⟨_,H2,I3,q2⟩)) hf
  | next=>exact WK J
  | brk=>exact WK J
  | cont=>exact WK J
 | error y =>
  revert J;refine gw λe C a0 B H' z0 L=>fT λC' ec ae ag=>?_;subst z0;cases ec;have ff:=L.fly;rw[c]at ff;refine Pi (by rw[n.ok.frames,c]) ac ff λh4 an ak=>?_;refine N1 an λh5 l al=>?_;have up:=ak.trans al;have U:=L.caught n (h:=h5) (by rw[c];exact l) up;refine Ot (O9 (xB (X:=markX X e) (U.mark e) gS O.g ?_ aa)) (by intro z;cases z);obtain⟨bm,OS⟩:=zmr U.kIn O.q;refine fQ (λoe aq q1 q2 q3 _=>?_) l.first;refine zj0 OS q1 q2 (Tj U.kIn ae) (codeAny_handlers_suite ?_);refine lands_againW l λh6 ao am=>?_;have I6:=L.caught n (h:=h6) (by rw[c];exact ao) (up.trans am);refine WM (hs e Y _ _ _ _ (I6.mark e) (ag e L.free)) (λfl s8 a=>?_) λ_ _ z=>z.elim;cases fl with
  | next =>
   obtain⟨m,d,j,a⟩:=a;exact⟨_,d,j.unmark I.ok,a⟩
  | brk =>
   obtain⟨m,d,j,a⟩:=a;exact⟨_,d,j.unmark I.ok,a⟩
  | cont =>
   obtain⟨m,d,j,a⟩:=a;exact⟨_,d,j.unmark I.ok,a⟩
  | ret u =>
   revert a;refine gi λv8 m d j r8 a=>?_;exact⟨v8,_,d,j.unmark I.ok,r8,a⟩
inductive Rd1 (σ:St)(i:Nat)(Q:VK)(H:Hp):Prop
 | mk (v:V) (h:σ[i]?=some (some v)) (q:Q v H):Rd1 σ i Q H
def tVS(i:Nat):TE:=fun a H Q=>Rd1 a i Q H
def pvS(i){pos:Pos}(c:X.N[i]?=some x:=by rfl)(f:Vis X.env.scope x:=by first | exact Wm rfl | exact RN (Wm rfl) | exact RN (RN rfl))(d:(x==("__debug__":Str))=false:=by decide)
  (a:(x==("__classdict__":Str))=false:=by decide):PE X (.Name x pos) (tVS i):=by
 intro b s g H Q I h;obtain⟨v,e,q⟩:=h;exact pv i c f d a b s g H Q I ⟨v,e,q⟩
def OpR.imp(h:OpR X f r)(k:∀x y H Q,a x y H Q->r x y H Q):OpR X f a:=λb s e H x y v u Q I c d z=>h b s e H x y v u Q I c d (k x y H Q z)
def IxR.imp(h:IxR X r)(k:∀x y H Q,c x y H Q->r x y H Q):IxR X c:=λb a d s i H x y v u Q I f g z e=>h b a d s i H x y v u Q I f g (k x y H Q z) e
inductive SI0 (g:Int->Int->V)(x y:V)(H:Hp)(Q:VK):Prop
 | mk (i j:Int) (hx:x=.int i) (hy:y=.int j) (q:Q (g i j) H):SI0 g x y H Q
inductive SI (C:Int->Int->Prop)(g:Int->Int->V)(x y:V)(H:Hp)(Q:VK):Prop
 | mk (i j:Int) (hx:x=.int i) (hy:y=.int j) (hc:C i j) (q:Q (g i j) H):SI C g x y H Q
def OpR.s0(h:OpR X f (rI0 g)):OpR X f (SI0 g):=h.imp λ_ _ _ _ ⟨i,j,a,b,q⟩=>⟨i,j,a,b,q⟩
def OpR.s1(h:OpR X f (rI C g)):OpR X f (SI C g):=h.imp λ_ _ _ _ ⟨i,j,a,b,c,q⟩=>⟨i,j,a,b,c,q⟩
def jt:OpR X (Ug .Add) (SI0 λi j=>.int (i+j)):=zfD.s0
def yQ:OpR X (Ug .Sub) (SI0 λi j=>.int (i-j)):=QD.s0
def qO:OpR X (Ug .Mod) (SI (λ_ j=>0<j) λi j=>.int (i%j)):=zbL.s1
def qF:OpR X (Ug .FloorDiv) (SI jL λi j=>.int (i/j)):=zgR.s1
def zi3:OpR X (Wi .Lt) (SI0 λi j=>.bl (decide (i<j))):=zsQ.s0
def Z6:OpR X (Wi .LtE) (SI0 λi j=>.bl (decide (i<=j))):=zsR.s0
def zf4:OpR X (Wi .Gt) (SI0 λi j=>.bl (decide (j<i))):=zqj.s0
inductive zrE (K:X4)(x y:V)(H:Hp)(Q:VK):Prop
 | mk (p:Addr) (xs:AE) (i:Int) (v:V) (hx:x=.ref p) (hy:y=.int i) (hq:SqL K H p xs) (he:atI xs i=some v) (q:Q v H):zrE K x y H Q
inductive zrF (K:X4)(x y:V)(H:Hp)(Q:VK):Prop
 | mk (p:Addr) (xs:AE) (i:Int) (v:V) (hx:x=.ref p) (hy:y=.int i) (hq:SqT K H p xs) (he:atI xs i=some v) (q:Q v H):zrF K x y H Q
inductive ztd (x y:V)(H:Hp)(Q:VK):Prop
 | mk (z:Str) (i:Int) (c:Nat) (hx:x=.str z) (hy:y=.int i) (hl:z.length<=Xz) (he:atI z.cps.toList i=some c) (q:Q (.str ⟨#[c]⟩) H):ztd x y H Q
def jk:IxR X (zrE X.K):=zfH.imp λ_ _ _ _ ⟨p,e,i,v,a,b,c,d,q⟩=>⟨p,e,i,v,a,b,c,d,q⟩
def qk:IxR X (zrF X.K):=jS.imp λ_ _ _ _ ⟨p,e,i,v,a,b,c,d,q⟩=>⟨p,e,i,v,a,b,c,d,q⟩
def zbc:IxR X ztd:=zre.imp λ_ _ _ _ ⟨z,i,c,a,b,d,e,q⟩=>⟨z,i,c,a,b,d,e,q⟩
def zbX{K:X4}(a:X.K=K):IxR X (zrE K):=a ▸ jk
def zhp{K:X4}(a:X.K=K):IxR X (zrF K):=a ▸ qk
inductive SB (x:V)(Q:Bool->Hp->Prop)(H:Hp):Prop
 | mk (k:Bool) (h:x=.bl k) (q:Q k H):SB x Q H
def zrG(t:TE):TT:=fun b H Q=>t b H λx a=>SB x Q a
def zI(A:OpR X (Wi op) r)(o:PE X a f)(p:PE X b g)(w:Td op b=false):PT X (.Compare a [op] [b] pos) (zrG (tOp r f g)):=by
 intro d s e H Q I h;refine SD (thn (o d s e H _ I h) λv s1 ⟨x,i,m,G,B⟩=>thn (p d s1 e i _ m B) λu M ⟨y,j,n,J,D⟩=>thn (A d M e j x y v u _ n G J D) λc N ⟨z,l,I3,L,E⟩=>?_) w;obtain⟨k,rfl,q⟩:=E;cases L;exact VS ⟨l,I3,q⟩
inductive zrH (K:X4)(xs:AE)(H:Hp)(Q:VK):Prop
 | mk (p:Addr) (ys:AE) (hx:xs=[.ref p]) (hq:SqL K H p ys\/SqT K H p ys) (q:Q (.int ys.length) H):zrH K xs H Q
def zH:jG X (.builtin "len") (zrH X.K):=λc s g H e d Q I r ⟨p,f,a,b,q⟩=>yD c s g H e d Q I r ⟨p,f,a,b,q⟩
def zdA{K:X4}(a:X.K=K):jG X (.builtin "len") (zrH K):=a ▸ zH
inductive zte (x:V)(vs:AE)(H:Hp)(Q:VK):Prop
 | mk (l:Addr) (xs:AE) (y:V) (hx:x=.ref l) (hv:vs=[y]) (hl:H l=some (.lst xs)) (hz:xs.length<Xz) (q:Q .non (upd H l (.lst (xs++[y])))):zte x vs H Q
def jU:MtM X "list.append" zte:=λe s k H x i v h Q I g f ⟨l,j,y,a,b,c,d,q⟩=>zbP e s k H x i v h Q I g f (eB l j y a b c d q)
end
section
variable {X:Cx}{k k0:Nat}{f:Addr}{fd:XI}{ps:AD}{sp:Sp}{x:Str}{st:Stmt}{p pos:Pos}{e:Expr}{es:List Expr}{t:TA}
def pc0(F:qm X.prog X.w X.K X.mg X.base CX0 k f fd ps sp)(i:xj k0 X.A)(D:zh X.K X.mg x st ps f fd)(d:PA X (e::es) t)(hk:k<=k0:=by decide)(h:Gl X x:=by rfl)
  (a:(x==("__debug__":Str))=false:=by decide) (he:Xh (e::es) X.env=(false,eval e X.env)::Xh es X.env:=by rfl) (c:(UV pos (Xh es X.env)).any (·.1)=false:=by rfl) :
  PE X (.Call (.Name x p) (e::es) [] pos) (zda sp [] E0 t):=zcS F (i.mono hk) h D.g D.F.kp D.b .nil zqn d a he c
def pcX(F:qm X.prog X.w X.K X.mg X.base (CXE X.prog X.w) k f fd ps sp)(i:xj k0 X.A)(D:zh X.K X.mg x st ps f fd)(d:PA X (e::es) t)(hk:k<=k0:=by decide)(h:Gl X x:=by rfl)
  (a:(x==("__debug__":Str))=false:=by decide) (he:Xh (e::es) X.env=(false,eval e X.env)::Xh es X.env:=by rfl) (c:(UV pos (Xh es X.env)).any (·.1)=false:=by rfl) :
  PE X (.Call (.Name x p) (e::es) [] pos) (zda sp [] EF t):=zcS F (i.mono hk) h D.g D.F.kp D.b .nil zqq d a he c
def pcL(L:yj X E)(F:qm X.prog X.w X.K X.mg X.base (CXE X.prog X.w) k f fd ps sp)(i:xj k0 X.A)(D:zh X.K X.mg x st ps f fd)(d:PA X (e::es) t)(hk:k<=k0:=by decide)(h:Gl X x:=by rfl)
  (a:(x==("__debug__":Str))=false:=by decide) (he:Xh (e::es) X.env=(false,eval e X.env)::Xh es X.env:=by rfl) (c:(UV pos (Xh es X.env)).any (·.1)=false:=by rfl) :
  PE X (.Call (.Name x p) (e::es) [] pos) (zda sp [] E t):=zcS F (i.mono hk) h D.g D.F.kp D.b .nil (yj.passes L) d a he c
end
def xo:0<=Xz:="d"
def sz_1:1<=Xz:="d"
def yL:2<=Xz:="d"
def zeo:3<=Xz:="d"
def ztf:4<=Xz:="d"
def zbY(h:Runs M Γ p t fs s e s'):s.toks<=s'.toks:=by
 induction h;all_goals first | exact XQ _ | assumption | (rename_i ih;exact X5 (Wb _) ih) | (rename_i ih1 ih2;exact X5 ih1 ih2)
def zi4(h:Wakes M Γ p g r s a s'):s.toks<=s'.toks:=by
 unfold Wakes at h;split at h
 .exact h.elim
 .split at h
  .obtain⟨_,_,h,_,_,rfl⟩:=h;have:=zbY h;exact this
  .obtain⟨_,rfl⟩:=h;exact XQ _
  .obtain⟨_,rfl⟩:=h;exact XQ _
 .obtain⟨_,_,h,_,_,rfl⟩:=h;have:=zbY h;exact this
 .obtain⟨_,rfl⟩:=h;exact XQ _
 .obtain⟨_,rfl⟩:=h;exact XQ _
def wp_toks(t)(n)(b:n<=s.toks)(h:Sem.wp M Γ t Q E p s):Sem.wp M Γ t (λa c s'=>Q a c s'/\n<=s'.toks) (λe c s'=>E e c s'/\n<=s'.toks) p s:=by
 induction t generalizing p s;all_goals rw[Sem.wp]at h ⊢
 all_goals first | exact⟨h,b⟩ | exact h.elim | (rename_i ih;exact ih _ b h) | (rename_i ih;exact ih _ (TQ b) h) | (rename_i ih;exact⟨h.1,ih _ b h.2⟩) | (rename_i ih;obtain⟨x,h1,h2⟩:=h;exact⟨x,h1,ih _ b h2⟩) | (rename_i ih;revert h;refine fZ λr s' h1 h2=>?_;exact⟨r,s',h1,ih _ (X5 b (zbY h1)) h2⟩) | (rename_i ih;revert h;refine fZ λr s' h1 h2=>?_;exact⟨r,s',h1,ih _ (X5 b (zi4 h1)) h2⟩)
def up(b:n<=s.toks)(h:Xw M A t (λa s'=>n<=s'.toks->Q a s') E s):Xw M A t Q E s:=by
 have h2:Xw M A t (λa s'=>(n<=s'.toks->Q a s')/\n<=s'.toks) (λe s'=>E e s'/\n<=s'.toks) s:=fun Γ p hΓ=>wp_toks t n b (h Γ p hΓ);exact WM h2 (λ_ _ z=>z.1 z.2) λ_ _ z=>z.1
def zbZ(d:n<=s.toks)(h:Xw M A t Q E s)(c:∀a s,Q a s->n<=s.toks->b a s):Xw M A t b E s:=up d (thn h c)
def PEt(n:Nat)(X:Cx)(e:Expr)(t:TE):Prop :=
 ∀(b:List (Addr×Obj)) (s:X8) (a:St) (H:Hp) (Q:VK),Inv X b a H s->n<=s.toks->t a H Q->Xw (Xv X.prog X.w) X.A (eval e X.env) (EP X b a Q) X.xe s
def PAt(n:Nat)(X:Cx)(c:List Expr)(t:TA):Prop :=
 ∀(pos:Pos) (b:List (Addr×Obj)) (s:X8) (a:St) (H:Hp) (Q:AE->Hp->Prop),Inv X b a H s->n<=s.toks->t a H Q->Xw (Xv X.prog X.w) X.A (Ob (UV pos (Xh c X.env))) (AP X b a Q) X.xe s
def PSt(n:Nat)(X:Cx)(st:Stmt)(t:TS):Prop :=
 ∀(a:List (Addr×Obj)) (s:X8) (b:St) (H:Hp) (D:Ends),Inv X a b H s->n<=s.toks->t D b H->Xw (Xv X.prog X.w) X.A (exec st X.env) (SP X a D) X.xe s
def zaJ(n:Nat)(X:Cx)(st:List Stmt)(t:TS):Prop :=
 ∀(a:List (Addr×Obj)) (s:X8) (b:St) (H:Hp) (D:Ends),Inv X a b H s->n<=s.toks->t D b H->Xw (Xv X.prog X.w) X.A (execs st X.env) (SP X a D) X.xe s
section
variable {X:Cx}{n:Nat}{e:Expr}{te:TE}{st:Stmt}{rest:List Stmt}{t u:TS}{pos:Pos}
def PE.at_(h:PE X e te):PEt n X e te:=λa s c H Q I _ b=>h a s c H Q I b
def PA.at_(h:PA X a b):PAt n X a b:=λpos c s e H Q I _ d=>h pos c s e H Q I d
def PS.at_(h:PS X st t):PSt n X st t:=λa s c H D I _ b=>h a s c H D I b
def PSs.at_(h:PSs X rest t):zaJ n X rest t:=λa s c H D I _ b=>h a s c H D I b
theorem zaJ.nox(h:zaJ n X.nox rest t):zaJ n X rest t:=λa s d H D I b c =>
 WM (h a s d H D (I.wish _) b c) (λ_ _ q=>q.unwish) λ_ _ z=>WK z
def zW(h1:PSt n X st t)(h2:zaJ n X rest u):zaJ n X (st::rest) (zsE t u):=by
 intro b s g H D I c h;refine Vk (zbZ c (h1 b s g H { D with nx:=u D } I c h) λf s1 q z=>?_);cases f with
 | next =>
  obtain⟨a,d,e,q⟩:=q;exact h2 b s1 a d D e z q
 | ret v=>exact q
 | brk=>exact q
 | cont=>exact q
def zdB(h1:PSt n X st t):zaJ n X [st] t:=by
 intro a s c H D I b h;refine Vk (thn (h1 a s c H D I b h) λf s1 q=>?_);cases f with
 | next=>exact VB q
 | ret v=>exact q
 | brk=>exact q
 | cont=>exact q
def zkg(he:PEt n X e te):PSt n X (.Return (some e) pos) (zsG te):=by
 intro d s a H D I f h;exact wpAny_Return_some (thn (he d s a H _ I f h) λv s1 ⟨x,b,c,i,g⟩=>⟨x,a,b,c,i,g⟩)
def zaf(g:X.N.Nodup)(k:X.N[i]?=some x)(o:Loc X.env.scope x)(he:PEt n X e te)(m:Tt e (some (.Name x a)) pos.line X.env=pure false:=by rfl)(j:X.fn x=true\/X.env.scope.names.lookup x=some .local:=by first | exact .inl rfl | exact .inr rfl | assumption) :
  PSt n X (.Assign [.Name x a] e pos) (zkT te (xV i)):=by
 intro f s r H D I l h;refine SR (thn (he f s r H _ I l h) λv s1 ⟨y,b,c,q,p⟩=>?_) m;exact Ye c g k o q (λu d=>⟨_,b,d,p⟩) j
def xM(l:PEt n X e te)(m:PAt n X a d)(o:Xh (e::a) X.env=(false,eval e X.env)::Xh a X.env:=by rfl):PAt n X (e::a) (zc9 te d):=by
 intro pos b s f H Q I c h;rw[o];show Xw _ _ (Ob ((false,eval e X.env)::UV pos (Xh a X.env))) _ _ s;refine UF (zbZ c (l b s f H _ I c h) λu s1 ⟨x,g,j,r,p⟩ z=>?_);exact thn (m pos b s1 f g _ j z p) λA y ⟨w,i,k,v,q⟩=>⟨x::w,i,k,.cons r v,q⟩
end
structure yM (n:Nat)(P:Xu)(w:W9)(K:X4)(mg:Str->Option X9)(base:Heap)(CX:CXT)(k:Nat)(f:Addr)(fd:XI)(ps:AD)(sp:Sp):Prop where
 len:∀vs H Q E,sp vs H Q E->vs.length=ps.length
 run:∀(A:WZ) (outer:List Env) (s:X8) (H:Hp) (args:Args) (us:List X9) (vs:AE) (Q:VK) (E:XK),n<=s.toks->xj k A->zmh P w K mg base A outer s H->OD s fd args (ps.zip us)->Vals vs us->sp vs H Q E ->
  Uo (Xv P w) A (.call (.ref f) args) (CR CX outer P w H s Q E) s
section
variable {X:Cx}{n k k0:Nat}{f:Addr}{fd:XI}{ps:AD}{sp:Sp}{x:Str}{st:Stmt}{p pos:Pos}{e:Expr}{es:List Expr}{t:TA}
def pct(F:yM n X.prog X.w X.K X.mg X.base CX0 k f fd ps sp)(T:xj k0 X.A)(D:zh X.K X.mg x st ps f fd)(N:PAt n X (e::es) t)(hk:k<=k0:=by decide)(O:Gl X x:=by rfl)
  (l:(x==("__debug__":Str))=false:=by decide) (he:Xh (e::es) X.env=(false,eval e X.env)::Xh es X.env:=by rfl) (m:(UV pos (Xh es X.env)).any (·.1)=false:=by rfl) :
  PEt n X (.Call (.Name x p) (e::es) [] pos) (zda sp [] E0 t):=by
 intro L s U H Q I E h;refine Vy (xB I O D.g ?_ l);refine UE (h₀:=X.base) I.ok.mod.kin D.F.kp (zbZ E (N pos L s U H _ I E h) λi s1 ⟨v,j,d,r,q⟩ z=>⟨d.kIn,?_⟩) he m;have G:sp v j Q E0:=by
  have J:sp (v++[]) j Q E0:=q;rw[W5]at J;exact J
 have a:i.length=ps.length:=by rw[<- r.length];exact F.len _ _ _ _ G
 have B:=D.b s1 i d.kIn (by rw[W5];exact a);rw[W5]at B;refine RL (UT (F.run X.A X.stack s1 j ⟨i,[]⟩ i v _ _ z (T.mono hk) d.env0 B r G) λo Y c=>?_);cases o with
 | error y=>exact WK c
 | ok M =>
  cases M with
  | ret u=>exact d.after c
  | next=>exact WK c
  | brk=>exact WK c
  | cont=>exact WK c
def ztg(F:qm X.prog X.w X.K X.mg X.base CX0 k f fd ps sp)(o:xj k0 X.A)(D:zh X.K X.mg x st ps f fd)(j:PAt n X (e::es) t)(hk:k<=k0:=by decide)(l:Gl X x:=by rfl)
  (a:(x==("__debug__":Str))=false:=by decide) (he:Xh (e::es) X.env=(false,eval e X.env)::Xh es X.env:=by rfl) (c:(UV pos (Xh es X.env)).any (·.1)=false:=by rfl) :
  PEt n X (.Call (.Name x p) (e::es) [] pos) (zda sp [] E0 t):=by
 intro i s u H Q I m h;refine Vy (xB I l D.g ?_ a);refine UE (h₀:=X.base) I.ok.mod.kin D.F.kp (thn (j pos i s u H _ I m h) λy s1 ⟨z,v,d,r,q⟩=>⟨d.kIn,?_⟩) he c;exact zmi F (o.mono hk) D.b .nil zqn d r q
end
section
variable {X:Cx}{tg iter elt:Expr}{ifs:List Expr}{scope:Ve}{pos:Pos}{N:AD}{src:List (Option Nat)}{cl:List (Str×Addr)}{wi:TI}{g:TG}{tc:TT}{te:TE}
def zmY(ok:yd X N src scope cl)(G:X.calm=true)(hi:PI X tg iter wi)
  (hg:∀C fp l s H,PG (qI X N scope cl C fp l s H) tg g) (hc:∀C fp l s H,zaE (qI X N scope cl C fp l s H) ifs tc) (he:∀C fp l s H,PEt n0 (qI X N scope cl C fp l s H) elt te)
  (hs:∀x,Wj iter X.env x=pure x:=by intro _;rfl):PEt n0 X (.ListComp elt [⟨tg,iter,ifs,0⟩] scope pos) (QI wi src g tc te):=by
 intro l s σ H Q I z0 h;rw[eval_ListComp];refine S9 (use:=none) rfl hs ok.clos ok.kind ok.names (zbZ z0 (hi l s σ H _ I h) λxv s1 h1 z1=>zbZ z1 h1 λav a h2 z2=>?_);revert h2;refine gp λit fp tn J D e I2 T ai Y q2=>?_;subst e;refine VR (Sc ok.nocell (by intro y hy;simp at hy) (λB q f=>?_) ok.kind);dsimp only at q f ⊢;generalize hP:a.heap.push { cls:=.type "list",dict:=none,data:=.seq ([]:List X9).toArray }=v at q f ⊢;have hC:v.objs.size=a.heap.objs.size+1:=by rw[<- hP,U6]
 have k:∀b u,a.heap.get? b=some u->B.get? b=some u:=λb u e=>by
  have lt:=XA e;exact(f.2 b (by rw[hC];exact Xi (WC lt))).trans (XY _ (hP ▸ XY _ e))
 have hD:B.get? a.heap.objs.size=some { cls:=.type "list",data:=.seq #[] }:=(f.2 _ (by rw[hC];exact(Vj _).symm)).trans (XY _ (hP ▸ Xg _ rfl));have ho:∀b∈fp,∃o,a.heap.get? b=some o:=λb j=>let ⟨o,e,_⟩:=T.obj 0 _ ai b j;⟨o,e⟩
 obtain⟨W,⟨m0,w0⟩,al⟩:=q2 a.heap.objs.size (I2.hok.fresh (XQ _));have I0:=zaF (tk:=a.toks+([]:List (Str×X9)).length) ok I2 Y ho hC k hD q;have ah:tn 0 B:=T.keep 0 _ _ ai λb _ o e=>k b o e;have an:∀b∈fp,upd D a.heap.objs.size (.lst []) b=none:=λb j=>by
  obtain⟨o,e⟩:=ho b j;rw[zq (Xi (XA e))];exact(Y b j).1
 have L:∀{E:Hp},(∀b∈fp,E b=none)->∀b∈fp,QC (qI X N scope cl v.objs.size fp l a D) [] E b:=λ{E} hn b j=>by
  obtain⟨o,e⟩:=ho b j;have lt:=XA e;refine eF (hn b j) ?_ (λz=>(XG.mp (I2.stkSub b z)).elim (Y b j).2.1 (Y b j).2.2.1) (.inl j) (λx c z=>(Y b j).2.2.2.2.1 x c (ok.sub x c z)) (λp hp=>?_)
  .show b≠v.objs.size;rw[hC];exact Xi (WC lt)
  .have ar:p∈X.pn++l:=by
    have:p∈(X.pn++l)++[]:=hp;simpa using this
   exact(Y b j).2.2.2.2.2 p ar
 have ac:∀M:X8,M={ a with heap:=B,toks:=a.toks+([]:List (Str×X9)).length } ->
   Uo (Xv X.prog X.w) X.A (.compLoop (.ListComp elt [⟨tg,iter,ifs,0⟩] scope pos) 0 (.ref it) (.ref a.heap.objs.size) (Th scope cl v.objs.size X.env))
    (compPost (Xv X.prog X.w) X.A X.xe none (EP X l σ Q) (.ref a.heap.objs.size) v.objs.size) M:=by
  rintro M rfl;refine codeAny_loop rfl (λn s'=>∃i O E,Inv (qI X N scope cl v.objs.size fp l a D) [] O E s'/\tn i s'.heap/\(∀b∈fp,E b=none)/\W i n O E/\n0<=s'.toks) ?_ m0 (eB 0 _ _ I0 ah an w0 (X5 z2 (Vh _ _)));refine λn s3=>fV λi aa H3 I3 aj af w3 z3=>?_;show Xw _ X.A ((compTurn (.ListComp elt [⟨tg,iter,ifs,0⟩] scope pos) 0 (.ref it) (.ref a.heap.objs.size) (Th scope cl v.objs.size X.env)).onRaise (λx=>do Oz x (Th scope cl v.objs.size X.env);theTreesLotGoes x)) _ _ s3;refine wpAny_noted ?_;rw[compTurn_list];rcases al i n aa H3 w3 with ⟨ak,qn⟩ | ⟨go,N',hN,step⟩
  .refine Y1 (Tc (Y1 (thn (T.done (qI X N scope cl v.objs.size fp l a D) rfl rfl rfl G i [] s3 aa H3 _ I3 (L af) aj ak) λr s4 ⟨hr,I4⟩=>?_)));subst hr;refine XR ?_;refine fR (λm hm _=>?_) I4.loc;refine⟨m,hm,λh' sb=>⟨.ref a.heap.objs.size,H3,?_,rfl,qn⟩⟩;have un:Un (frs X.stack) fp D H3 a.heap h':=Un.but I4.base (by show a.heap.objs.size<=v.objs.size;rw[hC];exact Wb _) sb;have aq:HOk X.prog X.w H3 h':=HOk.but I4.hok I4.free sb;exact I2.call' (s':={ s4 with heap:=h' }) (ch:=fp) I4.os un aq I4.bare λb j=>⟨(Y b j).2.2.2.1,(Y b j).2.1,(Y b j).2.2.2.2.1,(Y b j).2.2.2.2.2⟩
  .refine Y1 (Tc (Y1 (zbZ z3 (T.item (qI X N scope cl v.objs.size fp l a D) rfl rfl rfl G i [] s3 aa H3 _ I3 (L af) aj go) λr s4 ⟨u,hr,h4⟩ z4=>?_)));subst hr;dsimp only;refine Y1 (zbZ z4 h4 λ_ s5 ⟨x,H5,I5,r5,y5,ae,ao⟩ z5=>?_);have am:=I5.pinned (L ao) (T.obj _ _ ae);refine Y1 (up z5 (WM (hg v.objs.size fp l a D _ s5 aa H5 x u _ am r5 (step x H5 y5)) (λ_ s6 ⟨ab,H6,I6,q6⟩ z6=>?_) λ_ _ z=>WK z));have O6:∀{s7:X8} {U:St} {H7:Hp},Inv (qI X N scope cl v.objs.size fp l a D) ([]++zbK fp s5.heap) U H7 s7->N' U H7->n0<=s7.toks->∃m,m<n/\∃i O E,Inv (qI X N scope cl v.objs.size fp l a D) [] O E s7/\tn i s7.heap/\(∀b∈fp,E b=none)/\W i m O E/\n0<=s7.toks:=λ{s7 U H7} I7 n7 z7=>by
    obtain⟨m',hm,w7⟩:=hN U H7 n7;refine dY m' hm (eB (i+1) U H7 I7.unpinned (T.keep _ _ _ ae λb j o e=>(I7.pin (b,o) (Xm _ (Xm _ (xX j e)))).1) (λb j=>?_) w7 z7);obtain⟨o,e,d⟩:=T.obj _ _ ae b j;exact(I7.pin (b,o) (Xm _ (Xm _ (xX j e)))).2.1
   refine Y1 (up z6 (WM (hc v.objs.size fp l a D _ s6 ab H6 _ I6 q6) (λb s7 ⟨H7,I7,q7⟩ z7=>?_) λ_ _ z=>WK z));cases b with
   | false =>
    rw[bq XJ]at q7;exact XR ⟨rfl,O6 I7 q7 z7⟩
   | true =>
    rw[bw rfl]at q7;refine Y1 (Y1 (up z7 (WM (he v.objs.size fp l a D _ s7 ab H7 _ I7 z7 q7) (λy s8 ⟨v8,H8,I8,r8,ys,au,ag,q8⟩ z8=>?_) λ_ _ z=>WK z)));refine Y1 (up z8 (WM (zbP (X:=qI X N scope cl v.objs.size fp l a D) _ s8 ab H8 (.ref a.heap.objs.size) [v8] (.ref a.heap.objs.size) [y] (λ_ H9=>N' ab H9) I8 rfl (.cons r8 .nil) (eB _ ys v8 rfl rfl au ag q8)) (λ_ s9 ⟨v9,H9,I9,_,q9⟩ z9=>?_) λ_ _ z=>WK z));exact XR (XR ⟨rfl,O6 I9 q9 z9⟩)
 exact Pp (ac _ rfl) (T.self _ 0 _ _ _ ah (ac _ rfl))
end
def zth(b:TE)(y z:Str):TE:=fun c H Q=>b c H λx a=>∃t:Str,x=.str t/\t.length<=1000000/\Q (.str (Ut t y z)) a
def zkh{n0:Nat}{g :Str}{l c b j:Pos}{i:Nat}{n:Tok}(M:X.mg g=some (.str y n))(h1:n≠0)(h2:n<n0)(N:PEt n0 X o B)(v:(y==z)=false:=by decide+kernel)(T:z.length<=14:=by decide+kernel)(L:Gl X g:=by rfl)(r:(g==("__debug__":Str))=false:=by decide)
  (d:Ra o "replace" X.env (eval o X.env)=eval o X.env:=by rfl)
  (m:((UV b (Xh [.Name g l,.Constant (.str z) i j] X.env)).all (λx=>!x.1)&&(backToKw b (NQ [] X.env)).all (λx=>x.1.isSome)
   && decide (([.Name g l,.Constant (.str z) i j]:List Expr).length+([]:List OC).length+(if ([]:List OC).isEmpty then 0 else 1)<30))=true:=by rfl)
  (f:(c.endLine==b.line)=true:=by rfl) :
  PEt n0 X (.Call (.Attribute o "replace" c) [.Name g l,.Constant (.str z) i j] [] b) (zth B y z):=by
 intro E s σ H Q I A h;refine Pq d m f rfl (zbZ A (N E s σ H _ I A h) λu s1 ⟨x,D,w,Y,U⟩ p=>?_);obtain⟨t,rfl,ht,q⟩:=U;obtain⟨tk,rfl⟩:=Y;refine eK "str" "str.replace" F.plainAttrs_str F.slot_str_replace F.type_str_replace (Of _ _ _) (λa e=>by cases e) ?_;have O:Xh [.Name g l,.Constant (.str z) i j] X.env=[(false,eval (.Name g l) X.env),(false,eval (.Constant (.str z) i j) X.env)]:=rfl;rw[O];refine T2 rfl (Tx ?_);show Xw _ _ (Ob ((false,eval (.Name g l) X.env)::UV b [(false,eval (.Constant (.str z) i j) X.env)])) _ _ s1;refine UF (xB w L M ?_ r);show Xw _ _ (Ob ((false,eval (.Constant (.str z) i j) X.env)::UV b [])) _ _ _;refine UF (Calls.Constant_str ?_);refine Ri ?_;have G:s1.toks≠0:=λe=>by rw[e]at p;exact TY _ (Xq h2 p)
 have J:n≠s1.toks:=λe=>by rw[<- e]at p;exact VX _ (Xq h2 p)
 exact PySem.SC.replaceW h1 G J v "a" T λt' k=>⟨.str _,D,w.tok k,⟨_,rfl⟩,q⟩
def zmZ{K:X4}{kV :X9}
     (lk:K.lookup f=some ⟨oc,od,.func (V0 name d h i a dV kV doc pm an g ct),T⟩) (L:U7 K g d=true) (S:zD N ps a)
  (len:∀vs H Q E,sp vs H Q E->vs.length=ps.length)
  (m:∀(A:WZ) (c:List Env) (s:X8) (H:Hp) (vs:AE) (Q:VK) (E:XK),xj k (A.deeper (R8 d a s.heap.objs.size f g))->sp vs H Q E ->
   ∃t,zaJ n0 (zbO CX P w K G base N d a f g A c s H E) i t/\t { nx:=λ_ l=>Q .non l,rt:=Q } (start N vs) H) :
  yM n0 P w K G base CX (k+1) f (V0 name d h i a dV kV doc pm an g ct) ps sp:=by
 refine⟨len,λA c s H aa us vs Q E z0 M B hb r D=>?_⟩;have hl:=len _ _ _ _ D;have KX:K.In s.heap:=B.mod.kin.keeps λb o e=>(B.bs b o e).1;have O:s.heap.NoLimit:=B.mod.nolimit.keeps λb o e=>(B.bs b o e).1;have p:∀y∈ps.zip us,a.names.lookup y.1=some .local\/(a.names.lookup y.1=some .cell/\((Sw (s.heap.objs.size+1) a.names []).lookup y.1).isSome=true):=λ⟨n,v⟩ hy=>by
  rcases S.par n (R6 hy).1 with q | q
  .exact .inl q
  .exact .inr ⟨q,SG _ _ _ (.inl q)⟩
 refine Pf M.depth (KX _ _ lk) rfl S.co S.gen rfl (PySem.W.codeRec_of KX L) (hb _ _ _ _ ?_);refine up z0 (Rv S.kind p λab he s1 x z1=>?_);subst he;refine⟨O.keeps x.toInCall.keep,codeAny_func ?_⟩;refine fR (λt ht hq=>?_) (m A c s H vs Q E (M.deeper _) D);have I:Inv (zbO CX P w K G base N d a f g A c s H E) [] (start N vs) H s1:=zeX S M.hd B hl r x;refine WM (ht [] s1 (start N vs) H _ I z1 hq) (λfl Y z=>?_) λe Y z=>z;have fin:∀{j:St} {l:Hp} {v:V} {u:X9},Inv (zbO CX P w K G base N d a f g A c s H E) [] j l Y->RelV v u->Q v l->CE c P w H s Q u Y :=
  λ{j l v u} J U q=>(eK v l J.os J.bare J.base J.hok U q)
 cases fl with
 | ret u =>
  revert z;refine gi λv j l J U q=>?_;exact fin J U q
 | next =>
  obtain⟨j,l,J,q⟩:=z;exact fin (v:=V.non) (u:=U1) J rfl q
 | brk =>
  obtain⟨_,_,_,q⟩:=z;exact WK q
 | cont =>
  obtain⟨_,_,_,q⟩:=z;exact WK q
def zlt{K:X4}
  (z0:n0<=c.toks) (KX:K.In c.heap) (I:c.heap.Ns XT N) (g:c.heap.Ns RM mb) (ab:∀x:Str,x ≠ "__name__"->mb x=UU x) (G:c.heap.NoLimit) (hg:c.gens=#[])
  (T:c.heap.get? a=some { cls:=.type "list",data:=.seq vs.toArray }) (hi:OB vs O) (hl:O.length<=Xz) (hr:xj k SX)
  (F:∀i:Heap,K.In i->i.Ns XT N->yM n0 P w K N i CX k Y fd [x] sp) (y:∀(s:X8) (u:X9),OD s fd ⟨[u],[]⟩ [(x,u)])
  (ac:∀H:Hp,zrg H->SqL K H a (O.map V.int)->sp [.ref a] H (λv _=>v=.bl true) λ_ _ _=>False)
  (aa:∀H e j,CX [] H c (λ_ _ _=>False) e j->False) :
  Uo (Xv P w) SX (.call (.ref Y) ⟨[.ref a],[]⟩) (λr j=>r=.ok (.ret (.bool true))/\OldK c.heap j.heap/\j.os=c.os/\SW j.gens) c:=by
 have rv:=zeY hi;have M:=hi.length;have p:∀H:Hp,zrg H->SqL K H a (O.map V.int)->HOk P w H c.heap->(∀b,H b≠none->b=a)->(H a≠none->K.lookup a=none) ->
   Uo (Xv P w) SX (.call (.ref Y) ⟨[.ref a],[]⟩) (λr j=>r=.ok (.ret (.bool true))/\OldK c.heap j.heap/\j.os=c.os/\SW j.gens) c:=by
  intro H hO hS J hA hK;have f:∀{b:Addr} {o:Obj},c.heap.get? b=some o->H b=none->(zao c.heap H).get? b=some o:=λe n=>zl6 e n;have ae:∀{b:Addr} {o:Obj} {D:Array Sv} {B:Nat},c.heap.get? b=some o->o.data=.dict D B->H b=none:=λ{b o D B} e d=>by
   cases q:H b with
   | none=>rfl
   | some u =>
    have U:b=a:=hA b (by rw[q];simp);subst U;rw[T]at e;cases e;have d':Data.seq vs.toArray _=Data.dict D B:=d;cases d'
  have l:∀{b:Addr} {m:Str->Option X9},c.heap.Ns b m->(zao c.heap H).Ns b m:=λ{b m} ⟨o,D,B,e,d,r⟩=>⟨o,D,B,f e (ae e d),d,r⟩;have E:K.In (zao c.heap H):=λb o e=>f (KX b o e) (by
   cases q:H b with
   | none=>rfl
   | some u =>
    have U:b=a:=hA b (by rw[q];simp);subst U;rw[hK (by rw[q];simp)]at e;cases e)
  have hM:Mod K N (zao c.heap H):=⟨E,l I,⟨mb,l g,ab⟩,let ⟨mc,h1,h2⟩:=G;⟨mc,l h1,h2⟩⟩;have e0:zmh P w K N (zao c.heap H) SX [] c H:=⟨rfl,hM,λb o e=>zoK e,Nat.le_of_eq (zkS _ _),trivial,λb g=>absurd (show b∈([]:List Addr) from g) "s",J,.of_eq hg⟩;refine UT ((F _ E (l I)).run SX [] c H ⟨[.ref a],[]⟩ [.ref a] [.ref a] _ _ z0 hr e0 (y c (.ref a)) (.cons rfl .nil) (ac H hO hS)) λr j h=>?_;cases r with
  | error e=>exact(aa H e j h).elim
  | ok fl =>
   cases fl with
   | next=>exact WK h
   | brk=>exact WK h
   | cont=>exact WK h
   | ret u =>
    revert h;refine gu λv H' os A un L r' q=>?_;have q':v=.bl true:=q;subst q';obtain rfl:u=Oh true:=r';refine⟨rfl,OldK.of_keep λb o e=>?_,os,A⟩;cases q:H b with
    | none=>exact un.keep b o e q (by intro z;exact absurd (show b∈([]:List Addr) from z) "s") "s"
    | some u =>
     rcases hO b with z | ⟨ob,xs,z⟩
     .rw[q]at z;cases z
     .have z2:=un.frzs b ob _ z;obtain⟨e1,_⟩:=J b _ z;obtain⟨e2,_⟩:=L b _ z2;rw[e]at e1;cases e1;exact e2
 cases hk:K.lookup a with
 | some o =>
  have e:=KX a o hk;rw[T]at e;cases e;refine p (λ_=>none) (λ_=>.inl rfl) (.inr ⟨_,vs.toArray,_,hk,rfl,rfl,rfl,by rw[Xx,M];exact hl,↑rv⟩) (λb u z=>by have Q:(none:Option HO)=some u:=z;cases Q) (λb z=>absurd rfl z) λz=>absurd rfl z
 | none =>
  refine p (λb=>if b=a then some (.frz { cls:=.type "list",data:=.seq vs.toArray } (.lst (O.map V.int))) else none) (λb=>?_) (.inl (.inr ⟨{ cls:=.type "list",data:=.seq vs.toArray },bw rfl⟩)) (λb u z=>?_) (λb z=>?_) λ_=>hk
  .by_cases g:b=a
   .exact .inr ⟨_,_,bw g⟩
   .exact .inl (bq g)
  .by_cases g:b=a
   .have Q:=(bw g).symm.trans z;cases Q;subst g;exact⟨T,by rw[ZB];exact hl,vs,_,rv,T⟩
   .have Q:=(bq g).symm.trans z;cases Q
  .by_cases g:b=a
   .exact g
   .exact absurd (bq g) z
open PySem PySem.W PySem.Calls Att PyProof.Rows
abbrev zc5 (n0:Nat)(q:Xu)(loose:AD)(XP:(Str->Option X9)->Heap->Prop)(YP:W9->Heap->Prop)(r:RowW)(d:Oi)(kwd:List (Str×Expr))(run:X9->List X9->Sem X9):Prop :=
 ∀(w:W9) (s₀ s₁:X8) (mg mb:Str->Option X9),NY q loose r.records XP w s₀ mg mb s₁.heap->YP w s₁.heap->n0<=s₁.toks->∀(a:Addr) (o:Obj) (pm cd doc dV kV:X9),s₁.heap.get? a=some o ->
  o.data=.func { docDef d.name d.params d.body d.scope pm cd doc with defaults:=dV,kwdefaults:=kV }->s₁.heap.CodeRec cd d.name->Dflts mg s₁.heap d.params kwd dV kV->mg d.name=some (.ref a)->s₁.gens=#[] ->
  ∀(args:List WData) (vals:List X9) (as:List Addr),r.claim.pre args=true->P4 args=true->ReadsAllW r.records (PJ s₀.heap) s₁.heap vals args as->WellAll w.params s₁.heap vals args->(∀a∈as,(a==Vz)=false) ->
   Xw (Xv r.prog w) SX (run (.ref a) vals) (λv s'=>NJ r.claim (PJ s₀.heap) (Te s₀.heap) args s₁ (.ok (.ret v)) s')
    (λe s'=>NJ r.claim (PJ s₀.heap) (Te s₀.heap) args s₁ (.error e) s') s₁
def zf5{l:OpenLaw}{loose:AD}
  (U:l.most=some n) (v:d.params.defaults=[])
  (call:∀(w:W9) (c b:X8) (m A:Str->Option X9) (g:Addr) (o:Obj) (B k doc:X9) (a:Addr) (vs:List X9) (p:List Int),
   NY q loose [] XP w c m A b.heap->YP w b.heap->n0<=b.toks ->
   b.heap.get? g=some o->o.data=.func (docDef d.name d.params d.body d.scope B k doc)->b.heap.CodeRec k d.name->m d.name=some (.ref g) ->
   b.heap.get? a=some { cls:=.type "list",data:=.seq vs.toArray }->OB vs p->p.length<=n->b.gens=#[] ->
   Uo (Xv l.prog w) SX (.call (.ref g) ⟨[.ref a],[]⟩) (λr s=>r=.ok (.ret (.bool true))/\OldK b.heap s.heap/\s.os=b.os/\SW s.gens) b) :
  zc5 n0 q loose XP YP l.row.toRowW d [] (λf vs=>PySem.call f vs):=by
 intro w c b m A G Y z g o B k doc J kV ho N u E x O D I as j H aa y Q;obtain rfl:J=.none:=Dflts.none E v;obtain rfl:kV=.none:=Dflts.noKw E;refine fV (λa vs p z0 z1 i e h=>?_) (zk1 U j y);subst z0 z1;refine enter_call (UT (call w c b m A g o B k doc a vs p G Y z ho (fd_plain N) u x i e h O) λr s hq=>?_);obtain⟨rfl,h2,L,M⟩:=hq;exact⟨.inl (eB (.bool true) (.bool true) [] rfl (λ_=>rfl) (.bool true) (zk2 l _) (λ_=>⟨List.Pairwise.nil,λ_ T=>(nomatch T)⟩)),h2,L,M⟩
def zm0{l:Ph}{K:NX->X4}{CX:W9->CXT}{sp:W9->Sp}
  (hn:l.most=some n) (I:n<=Xz) (D:d.params.defaults=[]) (hr:xj k SX)
  (U:∀(w:W9) (h:Heap),YP w h->(K w.params).In h)
  (F:∀(w:W9) (j:Str->Option X9) (r:Addr) (h:Heap),(K w.params).In h->h.Ns XT j->j d.name=some (.ref r) ->
   ∃A:XI,(∀(s:X8) (u:X9),OD s A ⟨[u],[]⟩ [(x,u)]) /\
    ∀base:Heap,(K w.params).In base->base.Ns XT j->yM n0 l.prog w (K w.params) j base (CX w) k r A [x] (sp w))
  (J:∀(w:W9) (H:Hp) (a:Addr) (y:List Int),y.length<=n->zrg H->SqL (K w.params) H a (y.map V.int)->sp w [.ref a] H (λv _=>v=.bl true) λ_ _ _=>False)
  (B:∀(w:W9) (H:Hp) (s:X8) (e:X9) (s':X8),CX w [] H s (λ_ _ _=>False) e s'->False) :
  zc5 n0 q loose XP YP l.row.toRowW d [] (λf vs=>PySem.call f vs):=by
 refine zf5 hn D λw M p j mb r o pm cd doc a vs y G Y z ho hd aa E m i c hg=>?_;have L:=U w _ Y;obtain⟨A,hb,N⟩:=F w j r _ L G.T.g E;exact zlt z L G.T.g G.T.b G.T.builtins G.T.nolimit hg m i (X5 c I) hr N hb (λH O Q=>J w H a y c O Q) λH e s'=>B w H p e s'
def zdC{st:Stmt}(h1:PSt n X st t)(h2:zaJ n X a u):zaJ n X (st::a) (zsZ t u):=by
 intro c s j H D I d ⟨M,h,i⟩;refine Vk (zbZ d (h1 c s j H { D with nx:=M } I d h) λf s1 q z=>?_);cases f with
 | next =>
  obtain⟨b,e,g,q⟩:=q;exact h2 c s1 b e D g z (i _ _ q)
 | ret v=>exact q
 | brk=>exact q
 | cont=>exact q
def Fun.okT{K:X4}{st:Stmt}(F:Fun K x b st f i)(S:zD N ps (zv st))(len:∀vs H Q E,sp vs H Q E->vs.length=ps.length)
  (d:∀(c:X9) (A:WZ) (a:List Env) (s:X8) (H:Hp) (vs:AE) (Q:VK) (E:XK),xj k (A.deeper (R8 b (zv st) s.heap.objs.size f c))->sp vs H Q E ->
   ∃t,zaJ n0 (zbO CX0 P w K j base N b (zv st) f c A a s H E).nox (jw st) t/\t { nx:=λ_ l=>Q .non l,rt:=Q } (start N vs) H):yM n0 P w K j base CX0 (k+1) f i ps sp:=by
 refine fU (λu v kV doc=>gw λy p c r o z0 n e=>?_) F.ex;subst z0;refine zmZ n e S len λA a s H vs Q E m g=>?_;obtain⟨t,h,q⟩:=d c A a s H vs Q E m g;exact⟨t,h.nox,q⟩
section
variable {M:RP}{A:WZ}{E:X9->X8->Prop}{env:Env}{s:X8}
def zti(M:RP)(A:WZ)(E:X9->X8->Prop)(Q:X9->X8->Prop)(c:X9)(a:Env)(r:PK)(s':X8):Prop :=
 ∃m,s'.heap.Ns a.locals m/\∀b d,b.Ns a.locals d->Wg a.locals s'.heap b->match r with
  | .ok _=>Q c { s' with heap:=b }
  | .error x=>Xw M A (passOn "comprehension.variables-let-go" x a:Sem X9) (λ_ _=>False) E { s' with heap:=b }
def zph 
  (H:clausesOf e=g::gs) (J:∀x,Wj g.iter env x=pure x) (l:PB scope env=pure p)
  (hk:scope.kind=.function) (i:∀x∈scope.names,x.2=.local->scope.names.lookup x.1=some .local)
  (h:Xw M A d (λx s1=>Xw M A (NW x) (λit u=>Xw M A a (λb v =>
   Xw M A (OP scope env.globals p [] env.qual none .none (some env)) (λc w =>
    Uo M A (.compStart e 0 it b { c with scope:=Vc scope env }) (zti M A E Q b { c with scope:=Vc scope env }) w) E v) E u) E s1) E s) :
  Xw M A (Sl e scope env pos a false d none) Q E s:=by
 unfold Sl;rw[l,H];refine Y1 (WM h (λx s1 h1=>?_) λ_ _ z=>z);refine Y1 (Tc (Y1 (OY (J x) (Y1 (Wp ?_)))));refine WM h1 (λit u h2=>?_) λ_ _ z=>z;refine wpAny_standIf (Y1 (WM h2 (λb v D=>?_) λ_ _ z=>z));refine Y1 (XR (Y1 (WM D (λc w G=>?_) λ_ _ z=>z)));dsimp only;have own:∀x∈(scope.names.filter λy=>(y.2 == .local || y.2 == .cell)&&y.1 != (".0":Str)).reverse,x.2=.local->Env.kindOf { c with scope:=Vc scope env } x.1=some .local :=
  λx L I=>lookup_relabel_local (i x (XW.mp (To.mp L)).1 I)
 refine Wp (Y1 (Sk (Wp (wpAny_run (UT G λr B j=>?_)))));revert j;refine fR λm q j=>?_;cases r with
 | ok f=>exact Y1 (Wp (wpAny_comp_letGo (cenv:={ c with scope:=Vc scope env }) hk _ B m own q λk n i o=>XR (j k n i o)))
 | error x=>exact Y1 (Wp (wpAny_comp_letGo (cenv:={ c with scope:=Vc scope env }) hk _ B m own q λk n i o=>WM (j k n i o) (λ_ _ z=>z.elim) λ_ _ z=>z))
end
def zlu(x)(a)(c)(C)(b):Oz x (Th a c C b)=Oz x b:=rfl
def zhq(h:o.data=.fields a)(f:a[3]?=some x):TX (·.setIfInBounds 3 x) o=o:=by
 obtain⟨c,d,b,g⟩:=o;have e:b=.fields a:=h;subst e;show (⟨c,d,.fields (a.setIfInBounds 3 x),g⟩:Obj)=⟨c,d,.fields a,g⟩;have:a.setIfInBounds 3 x=a:=by
  refine Array.ext_getElem? λi=>?_;rw[R3];split
  .rename_i z;subst z;rw[bw (Vp.mp f).1,f]
  .rfl
 rw[this]
section
variable {M:RP}{A:WZ}{Ex:X9->X8->Prop}{s:X8}
def zi5(R:Oc base l e c j L s.heap)
  (h:∀h',Oc base l e c j L h'->(∀b,h'.get? b=s.heap.get? b)->Q () { s with heap:=h' }):Xw M A (setFlight (.ref e) (some L)) Q Ex s:=by
 revert R;refine gg λu v w=>gA λy z T x n he p m h1=>gc λr g d a f=>?_;have i:3<n.size:=(Vp.mp f).1;unfold setFlight;refine Y1 (wpAny_field he m h1 ?_);rw[bw (show (WU T != U1)=true from by simp)];refine RD d a i ?_;have same:∀b,(s.heap.update T (TX (·.setIfInBounds 3 (Ua L)))).get? b=s.heap.get? b:=λb=>by
  by_cases k:b=T
  .subst k;rw[WG _ d (Obj.isFreed_of_fields (Obj.data_mapFields a _)),d,zhq a f]
  .exact VJ _ _ (Vd k)
 refine h _ (e9 (λb o q=>(same b).trans (u b o q)) v (w.of_keeps λb o q _=>⟨o,(same b).trans q,rfl⟩) (eW y z T x n ((same e).trans he) p m h1 (fj r g ((same T).trans d) a f))) same
end
theorem zm1{h h' :Heap}(c:∀b,b≠C->h'.get? b=h.get? b)(bs:∀b,b≠C->a.get? b=B.get? b):∀{l:List Env},C ∉ frs l->h.FunFrames B l->h'.FunFrames a l
 | [],_,_=>trivial
 | env::r,g,⟨k,⟨L,o,e,n,q,d⟩,t⟩=>by
  have f:L≠C:=λz=>g (Vg.mpr ⟨env,XU,by rw[e,z]⟩);exact⟨k,⟨L,o,e,(bs L f).trans n,(c L f).trans q,d⟩,zm1 c bs (λz=>g (by
   obtain⟨v,j,i⟩:=Vg.mp z;exact Vg.mpr ⟨v,XS _ j,i⟩)) t⟩
section
variable {X:Cx}{bz ps:List (Addr×Obj)}{σ σ1:St}{H H' H1 H2:Hp}{s s1 s2 s':X8}{e C Cc:Addr}{a0:X9}{B:Heap}{E:XK}
def yj.held(L:yj X E)(J:Inv X bz σ H s)(R:Oc B X.stack e (.ref C) a0 X.env.locals s'.heap)(os:s'.os=s.os)(a:SW s'.gens)(un:Un (frs X.stack) [] H H' s.heap s'.heap)(ok:HOk X.prog X.w H' B)
  (i:∀b o,s.heap.get? b=some o->H b=none->b ∉ frs X.stack->B.get? b=some o) (tB:∀b o,s.heap.get? b=some o->b ∉ frs X.stack->∃j,B.get? b=some j) (c:s.heap.get? e=none) (free:H' e=none) (h:E (.ref C) none H') :
  X.xe (.ref e) s':=by
 rw[L.xe];show Xw _ _ (leaving X.env (.ref e)) _ _ s';unfold leaving;refine Y1 (wpAny_noteFrame_againW L.fr R.2.2.2 ?_);refine N1 R λk f up=>?_;obtain⟨g1,g2,d,g⟩:=f;rw[L.stk]at d;exact eZ e C a0 B H' rfl (J.flies L.ex ⟨g1,g2,d.2.2,g⟩ up os a un ok i tB c free) h
def Inv.stkIn(I:Inv X bz σ H s)(a:b∈frs X.stack):b<s.heap.objs.size:=by
 rcases XG.mp (I.stkSub b a) with r | r
 .rw[r];exact I.lt
 .obtain⟨_,o,q,_⟩:=I.ok.funs.mem r;obtain⟨d,c⟩:=I.base.there b o q λz=>I.ok.exfs b z r;exact XA c
variable {N:AD}{scope:Ve}{cl:List (Str×Addr)}{fp:List Addr}{x acc:X9}{Q:X9->X8->Prop}{E':X9->X8->Prop}
def zm2(L:yj X E)(I2:Inv X bz σ H2 s2)(U:∀b∈fp,QC X bz H2 b)(hC:s2.heap.objs.size<=C)(r:Inv (qI X N scope cl C fp bz s2 H2) ps σ1 H1 s1)(h:CXE X.prog X.w X.stack H1 s1 E x s') :
  Xw (Xv X.prog X.w) X.A (Oz x (Th scope cl C X.env)) (λ_ ag=>zti (Xv X.prog X.w) X.A X.xe Q acc (Th scope cl C X.env) (.error x) ag) E' s':=by
 revert h;refine gw λe Cc a0 B H' z0 F hE=>?_;subst z0;have ff:=F.fly;rw[zlu];rw[L.stk]at ff;refine Pi (by rw[I2.ok.frames,L.stk]) L.fr ff λh' hh up=>?_;rw[<- L.stk]at hh;obtain⟨m,⟨u,es,ep,l,hd,hk,hf⟩,_⟩:=r.loc;have l:s1.heap.get? C=some u:=l;have g:C ∉ frs X.stack:=λz=>VX _ (Xq (I2.stkIn z) hC);have fC:H1 C=none:=r.free;have Y:B.get? C=some u:=F.kB C u l fC g;have O:e≠C:=by
  rintro rfl;rw[F.new]at l;cases l
 revert hh;refine gg λk1 k2 k3=>gA λoe vs T oT ts he hc G h1=>gc λhn aa hT ab h3=>?_;have TC:T≠C:=by
  rintro rfl;rw[hn]at Y;cases Y
 refine⟨m,⟨u,es,ep,k1 C u Y,hd,hk,hf⟩,λd m' af i=>?_⟩;revert af;refine gb λc ak aj v d2 _ _=>?_;have v:d.get? C=some c:=v;have i:Wg C h' d:=i;have D:c.isFreed=false:=(Heap.get?_some_iff.mp v).2;have gB:(B.update C λ_=>c).get? C=some c:=WG (λ_=>c) Y D;have s:∀b,b≠C->(B.update C λ_=>c).get? b=B.get? b:=λb a=>VJ _ _ (Vd a);have gS:(s1.heap.update C λ_=>c).get? C=some c:=WG (λ_=>c) l D;have p:∀b,b≠C->(s1.heap.update C λ_=>c).get? b=s1.heap.get? b:=λb a=>VJ _ _ (Vd a);have ac:Oc (B.update C λ_=>c) X.stack e (.ref Cc) a0 X.env.locals d:=by
  refine e9 (λb o q=>?_) ((s e O).trans k2) (zm1 i.2 s g k3) (eW oe vs T oT ts ((i.2 e O).trans he) hc G h1 (fj ((s T TC).trans hn) aa ((i.2 T TC).trans hT) ab h3));by_cases a:b=C
  .rw[a]at q ⊢;rw[gB]at q;rw[v,q]
  .exact(i.2 b a).trans (k1 b o ((s b a).symm.trans q))
 show Xw _ _ (PySem.passOn "comprehension.variables-let-go" (.ref e) (Th scope cl C X.env):Sem X9) _ _ _;unfold PySem.passOn;refine Y1 (wpAny_field ((i.2 e O).trans he) G h1 ?_);rw[bq (show ¬ ((WU T==U1)=true) from by simp)];have fl:(Th scope cl C X.env).frame=some X.env.locals:=L.fr;rw[fl];refine Y1 (zi5 ac λf ae same=>NP ?_);have same:∀b,f.get? b=d.get? b:=same;have J:Inv X bz σ H1 { s1 with heap:=s1.heap.update C λ_=>c }:=I2.call' (s':={ s1 with heap:=s1.heap.update C λ_=>c }) (ch:=fp) r.os (Un.but r.base hC (.update ..)) (HOk.but r.hok fC (.update ..)) r.bare λb a=>⟨(U b a).2.2.2.1,(U b a).2.1,(U b a).2.2.2.2.1,(U b a).2.2.2.2.2⟩;have y:H' C=none:=F.un.free C u l fC λz=>nomatch z
 have H:∀b o,b≠C->B.get? b=some o->f.get? b=some o:=λb o a q=>(same b).trans ((i.2 b a).trans (k1 b o q));have I:∀b,b∈frs X.stack->∀(o:Obj) M,s'.heap.get? b=some { o with slots:=M }->∃ah,f.get? b=some { o with slots:=ah }:=λb a o M q=>by
  obtain⟨_,j,k,nf⟩:=F.fly.2.2.1.mem a;rw[q]at k;cases k;obtain⟨ai,q3⟩:=up b _ q nf;exact⟨ai,(same b).trans ((i.2 b λz=>g (z ▸ a)).trans q3)⟩
 refine L.held (s':={ s' with heap:=f }) J ae F.os F.bare ⟨λb o q n a _=>?_,λb o q n a _=>?_,λb o q n _=>?_,λb o q _=>?_,F.un.tups,F.un.frzs,F.un.tbls⟩ (HOk.but F.ok y (.update ..)) (λb o q n a=>?_) (λb o q a=>?_) ((p e O).trans F.new) F.free hE
 .by_cases z:b=C
  .rw[z]at q ⊢;have q:(s1.heap.update C λ_=>c).get? C=some o:=q;rw[gS]at q;exact(same C).trans (v.trans q)
  .exact H b o z (F.kB b o ((p b z).symm.trans q) n a)
 .have z:b≠C:=λz=>g (z ▸ a);obtain⟨M,q1⟩:=F.un.slot b o ((p b z).symm.trans q) n a λz=>nomatch z
  exact I b a o M q1
 .by_cases z:b=C
  .rw[z];exact y
  .exact F.un.free b o ((p b z).symm.trans q) n λz=>nomatch z
 .by_cases z:b=C
  .rw[z];exact⟨c,(same C).trans v⟩
  .by_cases a:b∈frs X.stack
   .obtain⟨_,j,k,nf⟩:=F.fly.2.2.1.mem a;obtain⟨M,q3⟩:=I b a j j.slots k;exact⟨_,q3⟩
   .obtain⟨j,k⟩:=F.tB b o ((p b z).symm.trans q) a;exact⟨j,H b j z k⟩
 .by_cases z:b=C
  .rw[z]at q ⊢;have q:(s1.heap.update C λ_=>c).get? C=some o:=q;rw[gS]at q;exact gB.trans q
  .exact(s b z).trans (F.kB b o ((p b z).symm.trans q) n a)
 .by_cases z:b=C
  .rw[z];exact⟨c,gB⟩
  .obtain⟨j,k⟩:=F.tB b o ((p b z).symm.trans q) a;exact⟨j,(s b z).trans k⟩
end
def zrI(X:Cx)(N:AD)(a:Ve)(e:List (Str×Addr))(C:Addr)(fp:List Addr)(d:List (Addr×Obj))(s:X8)(H:Hp)(E:XK)(x:X9)(s':X8):Prop :=
 ∃(f:List (Addr×Obj)) (b:St) (c:Hp) (s1:X8),Inv (qI X N a e C fp d s H) f b c s1/\CXE X.prog X.w X.stack c s1 E x s'
abbrev zaK (X:Cx)(N:AD)(scope:Ve)(cl:List (Str×Addr))(C:Addr)(fp:List Addr)(bz:List (Addr×Obj))(s:X8)(H:Hp)(E:XK):Cx:=(qI X N scope cl C fp bz s H).wish (zrI X N scope cl C fp bz s H E)
def zf6:Passes (CXE X.prog X.w) (zaK X N a f C fp e s H E) E :=
 λg b c s1 x h d z=>⟨g,b,c,s1,d.unwish,z⟩
section
variable {X:Cx}{tg iter elt:Expr}{ifs:List Expr}{scope:Ve}{pos:Pos}{N:AD}{src:List (Option Nat)}{cl:List (Str×Addr)}{wi:TI}{g:TG}{tc:TT}{te:TE}
def zm3(L:yj X E)(ok:yd X N src scope cl)(i:X.calm=true)(B:PI X tg iter wi)
  (A:∀C fp d s H,PG (zaK X N scope cl C fp d s H E) tg g) (w:∀C fp d s H,zaE (zaK X N scope cl C fp d s H E) ifs tc) (he:∀C fp d s H,PE (zaK X N scope cl C fp d s H E) elt te)
  (G:∀x,Wj iter X.env x=pure x:=by intro _;rfl):PE X (.ListComp elt [⟨tg,iter,ifs,0⟩] scope pos) (QI wi src g tc te):=by
 intro d s σ H Q I h;rw[eval_ListComp];refine zph rfl G ok.clos ok.kind ok.names (thn (B d s σ H _ I h) λxv s1 h1=>thn h1 λO s2 h2=>?_);revert h2;refine gp λit fp tn J H2 e j T o l U=>?_;subst e;refine VR (Sc ok.nocell (by intro y M;simp at M) (λp a b=>?_) ok.kind);dsimp only at a b ⊢;obtain⟨n,k,v⟩:=zmo b;exact zde n i (λ⟨ps,aa,H1,s1,q,z⟩=>zm2 L j l (by rw[n];exact Wb _) q z) (A _ _ _ _ _) (w _ _ _ _ _) (he _ _ _ _ _) j T o l (U _ (j.hok.fresh (XQ _))) k (λx c z=>.inl (ok.sub x c z)) (λD=>(zaF ok j l D n k v a).wish _) λf _ _ _ r Y=>let ⟨m,hm,g⟩:=zmn (f:=f) n j l r Y;⟨m,hm,λu _ _ sb=>g u sb⟩
def cP(a:scope.kind=.function:=by rfl)(b:∀y∈scope.names,y.2 ≠ .cell:=by decide+kernel)(c:∀y∈scope.names,y.2 ≠ .free:=by decide+kernel)(d:∀y∈scope.names,y.2=.local->scope.names.lookup y.1=some .local:=by decide+kernel)(e:src.length=N.length:=by rfl)(f:∀o∈src,o=none:=by decide):yd X N src scope []:=yd.plain a b c d e f
def cR(a:scope.kind=.function:=by rfl)(b:∀y∈scope.names,y.2 ≠ .cell:=by decide+kernel)(c:∀y∈scope.names,y.2=.local->scope.names.lookup y.1=some .local:=by decide+kernel)(d:(scope.names.all λy=>y.2 != .free || (X.env.cells.lookup y.1).isSome)=true:=by kernel_rfl)(e:src.length=N.length:=by rfl)
  (f:((N.zip src).all λq=>match q.2 with | none=>true | some j=>X.N[j]?==some q.1&&X.env.kindOf q.1==some .cell&&(Vc scope X.env).names.lookup q.1==some .cell)=true:=by kernel_rfl):yd X N src scope (za5 (λx=>X.env.cells.lookup x) scope.names []):=yd.byRfl a b c d e f
def c1{y:Str}(a:scope.kind=.function:=by rfl)(i:∀n g,Sw n scope.names g=(y,n)::g:=by intro _ _;rfl)(k:∀h,NR h scope.names=h.push { cls:=.type "cell",data:=.cell none }:=by intro _;rfl)(b:∀z∈scope.names,z.2=.cell->z.1=y:=by decide+kernel)(c:∀y∈scope.names,y.2=.local->scope.names.lookup y.1=some .local:=by decide+kernel)
  (d:(scope.names.all λy=>y.2 != .free || (X.env.cells.lookup y.1).isSome)=true:=by kernel_rfl) (e:src.length=N.length:=by rfl) (f:((N.zip src).all λq=>match q.2 with | none=>true | some j=>X.N[j]?==some q.1&&X.env.kindOf q.1==some .cell&&(Vc scope X.env).names.lookup q.1==some .cell&&q.1 != y)=true:=by kernel_rfl):Jp X N src scope (za5 (λx=>X.env.cells.lookup x) scope.names []) y:=Jp.byRfl a i k b c d e f
def pgN(i){x:Str}(h:decide X.N.Nodup=true:=by kernel_rfl)(b:X.N[i]?=some x:=by rfl)(c:Loc X.env.scope x:=by first | exact Wm rfl | exact RN rfl)(a:X.fn x=true\/X.env.scope.names.lookup x=some .local:=by first | exact .inl rfl | exact .inr rfl):PG X (.Name x pos) (xV i):=zfC (bg h) b c a
def pgq(i)(h:X.N.Nodup)(b:X.N[i]?=some x:=by rfl)(c:Loc X.env.scope x:=by first | exact Wm rfl | exact RN rfl)(a:X.fn x=true\/X.env.scope.names.lookup x=some .local:=by first | exact .inl rfl | exact .inr rfl):PG X (.Name x pos) (xV i):=zfC h b c a
def qz(i){a:Pos}(b:X.N.Nodup)(he:PE X e te)(d:X.N[i]?=some x:=by rfl)(g:Loc X.env.scope x:=by first | exact Wm rfl | exact RN rfl)(f:Tt e (some (.Name x a)) pos.line X.env=pure false:=by rfl)(c:X.fn x=true\/X.env.scope.names.lookup x=some .local:=by first | exact .inl rfl | exact .inr rfl):PS X (.Assign [.Name x a] e pos) (zkT te (xV i)):=qv b d g he f c
def pcm(N)(src)(ok:yd X N src scope cl)(e:PI X tg iter wi)(d:∀{C fp b s H},PG (qI X N scope cl C fp b s H) tg g)(c:∀{C fp b s H},zaE (qI X N scope cl C fp b s H) ifs tc)(he:∀{C fp b s H},PE (qI X N scope cl C fp b s H) elt te)
  (a:X.calm=true:=by rfl) (f:∀x,Wj iter X.env x=pure x:=by intro _;rfl):PE X (.ListComp elt [⟨tg,iter,ifs,0⟩] scope pos) (QI wi src g tc te):=zoV ok a e (λ_ _ _ _ _=>d) (λ_ _ _ _ _=>c) (λ_ _ _ _ _=>he) f
def zt7(N)(src)(ok:Jp X N src scope cl y)(e:PI X tg iter wi)(d:∀{C fp b s H},PG (xH X N scope cl y C fp b s H) tg g)(c:∀{C fp b s H},zaE (xH X N scope cl y C fp b s H) ifs tc)(he:∀{C fp b s H},PE (xH X N scope cl y C fp b s H) elt te)
  (a:X.calm=true:=by rfl) (f:∀x,Wj iter X.env x=pure x:=by intro _;rfl):PE X (.ListComp elt [⟨tg,iter,ifs,0⟩] scope pos) (QI wi src g tc te):=zmv ok a e (λ_ _ _ _ _=>d) (λ_ _ _ _ _=>c) (λ_ _ _ _ _=>he) f
def zt8(L:yj X E)(N)(src)(ok:yd X N src scope cl)(e:PI X tg iter wi)(d:∀{C fp b s H},PG (zaK X N scope cl C fp b s H E) tg g)(c:∀{C fp b s H},zaE (zaK X N scope cl C fp b s H E) ifs tc)(he:∀{C fp b s H},PE (zaK X N scope cl C fp b s H E) elt te)
  (a:X.calm=true:=by rfl) (f:∀x,Wj iter X.env x=pure x:=by intro _;rfl):PE X (.ListComp elt [⟨tg,iter,ifs,0⟩] scope pos) (QI wi src g tc te):=zm3 L ok a e (λ_ _ _ _ _=>d) (λ_ _ _ _ _=>c) (λ_ _ _ _ _=>he) f
def psC(i){b a:Pos}(j:X.N.Nodup)(N)(src)(ok:yd X N src scope cl)(m:PI X tg iter wi)(l:∀{C fp d s H},PG (qI X N scope cl C fp d s H) tg g)(k:∀{C fp d s H},zaE (qI X N scope cl C fp d s H) ifs tc)(he:∀{C fp d s H},PE (qI X N scope cl C fp d s H) elt te)
  (e:X.N[i]?=some x:=by rfl) (f:X.env.scope.names.lookup x=some .local:=by rfl) (c:X.calm=true:=by rfl) (n:∀x,Wj iter X.env x=pure x:=by intro _;rfl) (h:Tt (.ListComp elt [⟨tg,iter,ifs,0⟩] scope pos) (some (.Name x b)) a.line X.env=pure true:=by rfl) :
  PS X (.Assign [.Name x b] (.ListComp elt [⟨tg,iter,ifs,0⟩] scope pos) a) (zkT (QI wi src g tc te) (xV i)):=zoZ j e f ok c m (λ_ _ _ _ _=>l) (λ_ _ _ _ _=>k) (λ_ _ _ _ _=>he) n h
end
section
variable {X:Cx}{e:Expr}{te:TE}{x:Str}{p pos:Pos}{id T:String}{r:AE->Hp->VK->Prop}
def pb1(b:jG X (.builtin id) r)(d:X.mg x=none)(g:UU x=some (.builtin id))(he:PE X e te)(c:Gl X x:=by rfl)(f:x ≠ "__name__":=by decide)(a:(x==("__debug__":Str))=false:=by decide)(h1:Xh [e] X.env=(false,eval e X.env)::Xh [] X.env:=by rfl):PE X (.Call (.Name x p) [e] [] pos) (tCB r (zc9 te zmg)):=QG b c d g (za he zd h1) f a h1 rfl
def pb2(f:jG X (.builtin id) r)(h:X.mg x=none)(j:UU x=some (.builtin id))(he:PE X e te)(h2:PE X a d)(g:Gl X x:=by rfl)(i:x ≠ "__name__":=by decide)(b:(x==("__debug__":Str))=false:=by decide)(h1:Xh [e,a] X.env=(false,eval e X.env)::Xh [a] X.env:=by rfl)(c:Xh [a] X.env=(false,eval a X.env)::Xh [] X.env:=by rfl):PE X (.Call (.Name x p) [e,a] [] pos) (tCB r (zc9 te (zc9 d zmg))):=QG f g h j (za he (za h2 zd c) h1) i b h1 (by rw[c];rfl)
def pt1(b:jG X (.type T) r)(d:X.mg x=none)(g:UU x=some (.type T))(he:PE X e te)(c:Gl X x:=by rfl)(f:x ≠ "__name__":=by decide)(a:(x==("__debug__":Str))=false:=by decide)(h1:Xh [e] X.env=(false,eval e X.env)::Xh [] X.env:=by rfl):PE X (.Call (.Name x p) [e] [] pos) (tCB r (zc9 te zmg)):=zk0 b c d g (za he zd h1) f a h1 rfl
def pgx{K:X4}(O:qw K X.mg x C)(b:Gl X x:=by rfl)(a:(x==("__debug__":Str))=false:=by decide):PE X (.Name x pos) (tC (.ref C)):=jz b O.g rfl a
def prg{c:Expr}(a:X.mg "range"=none)(he:PE X e te)(b:Gl X "range":=by rfl)(h1:Xh [e] X.env=(false,eval e X.env)::Xh [] X.env:=by rfl):PI X c (.Call (.Name "range" p) [e] [] pos) (zqi (zc9 te zmg)):=zkV b a (za he zd h1) h1
end
def zfe(J:NS (Xv X.prog X.w) X.A X.env X.xe)(Y:PT X c Q)(U:zaJ n X e O):PSt n X (.While c e [] pos) (zmc Q O):=by
 intro p s σ H D I hn h;obtain⟨W,⟨m0,w0⟩,j⟩:=h;refine wpAny_While (codeAny_whileLoop (λk M=>∃ l y,Inv X p l y M/\n<=M.toks/\W k l y) ?_ m0 ⟨σ,H,I,hn,w0⟩);refine λk s1=>fS λd z T n1 w1=>?_;refine Vm J (zbZ n1 (Y p s1 d z _ T (j k d z w1)) λb s2 ⟨B,E,m⟩ L=>?_);cases b with
 | true =>
  obtain⟨N,G,m⟩:=m;rw[bw rfl];refine Vm J (zbZ L (U p s2 d B _ E L m) λf s3 o i=>?_);cases f with
  | next =>
   revert o;refine fZ λa g I3 u=>?_;obtain⟨r,q,x⟩:=G a g u;exact⟨r,q,a,g,I3,i,x⟩
  | cont =>
   revert o;refine fZ λa g I3 u=>?_;obtain⟨r,q,x⟩:=G a g u;exact⟨r,q,a,g,I3,i,x⟩
  | brk=>exact o
  | ret v=>exact o
 | false =>
  rw[bq XJ];exact VB ⟨d,B,E,m⟩
structure zrJ (K:X4)(x:Str)(st:Stmt)(f:Addr)(fd:XI):Prop where
 ex:∃(oc dv:X9) (od:Option Addr) (kV doc pm:X9) (an:Option Addr) (cdv ct:X9) (osl:Array (Option X9)),fd=V0 x x (yy st) (jw st) (zv st) dv kV doc pm an cdv ct/\K.lookup f=some ⟨oc,od,.func fd,osl⟩/\U7 K cdv x=true
 kp:VD K (.ref f)=true
structure zb0 (K:X4)(mg:Str->Option X9)(x:Str)(st:Stmt)(ps:AD)(v:Str)(f:Addr)(fd:XI):Prop where
 F:zrJ K x st f fd
 g:mg x=some (.ref f)
 b:Binds K fd ps []
 b1:∃t:Tok,Binds K fd ps [.str v t]
def zcX(K:X4)(x:Str)(st:Stmt)(v:Str):Prop:=∃(f c:Addr) (h:X9) (i d:Option Addr) (k:Array (Option X9)) (kV g j a e:X9) (b:Obj) (n:Nat) (t:Tok),XO K XT x=some (some (.ref f)) /\
 K.lookup f=some ⟨h,i,.func (V0 x x (yy st) (jw st) (zv st) (.ref c) kV g j d a e),k⟩/\U7 K a x=true/\VD K (.ref f)=true/\K.lookup c=some b/\b.data=.seq #[.str v t] n
theorem zcX.at{K:X4}{st:Stmt}(H:zcX K x st v)(X:K.In h)(G:h.Ns XT u)
  (y:∀(d:Addr) (kV doc j:X9) (e:Option Addr) (g i:X9) (t:Tok) (b:List X9),b.length=ps.length->∃k:Option (Array X9)->Sem (List (Str×X9)),N8 (V0 x x (yy st) (jw st) (zv st) (.ref d) kV doc j e g i) ⟨b,[]⟩=(seqItems? (.ref d) >>= k)/\k (some #[.str v t])=pure (ps.zip b))
  (q:∀(d:Addr) (kV doc j:X9) (e:Option Addr) (g i:X9) (t:Tok) (b:List X9),b.length+1=ps.length->∃k:Option (Array X9)->Sem (List (Str×X9)),N8 (V0 x x (yy st) (jw st) (zv st) (.ref d) kV doc j e g i) ⟨b,[]⟩=(seqItems? (.ref d) >>= k)/\k (some #[.str v t])=pure (ps.zip (b++[.str v t]))) :
  ∃f w,zb0 K u x st ps v f w:=by
 revert H;refine gI λf d z A e B kV p=>fU λj o i D=>gu λn t a l c k lt r=>?_;refine⟨f,_,⟨(er z _ A kV (er p j e o (ef i B rfl l c))),k⟩,WS X G a,λs b Y m=>?_,t,λs b Y m=>?_⟩
 .rw[W5]at m ⊢;obtain⟨k,h1,h2⟩:=y d kV p j e o i t b m;exact Os rfl (Y _ _ lt) r h1 h2
 .rw[XZ]at m;obtain⟨k,h1,h2⟩:=q d kV p j e o i t b m;exact Os rfl (Y _ _ lt) r h1 h2
def zrJ.okXT{K:X4}{st:Stmt}(F:zrJ K x st f g)(S:zD N ps (zv st))(len:∀vs H Q E,sp vs H Q E->vs.length=ps.length)
  (c:∀(b:X9) (A:WZ) (a:List Env) (s:X8) (H:Hp) (vs:AE) (Q:VK) (E:XK),xj k (A.deeper (R8 x (zv st) s.heap.objs.size f b))->sp vs H Q E ->
   ∃t,zaJ n0 (zbO (CXE P w) P w K h base N x (zv st) f b A a s H E) (jw st) t/\t { nx:=λ_ i=>Q .non i,rt:=Q } (start N vs) H):yM n0 P w K h base (CXE P w) (k+1) f g ps sp:=by
 refine gI (λq p r kV doc u n b=>fS λo m z0 l d=>?_) F.ex;subst z0;exact zmZ l d S len λA a s H vs Q E j e=>c b A a s H vs Q E j e
section
variable {X:Cx}{n:Nat}{t u:TS}{pos:Pos}
def zrK(o:PT X c k)(l:zaJ n X a t)(m:zaJ n X b u):PSt n X (.If c a b pos) (zsH k t u):=by
 intro e s f H D I p h;refine wpAny_If (zbZ p (o e s f H _ I h) λd s1 ⟨g,i,j⟩ z=>?_);cases d with
 | true=>exact l e s1 f g D i z j
 | false=>exact m e s1 f g D i z j
def zki{t:TA}(h:PAt n X d t):PEt n X (.Tuple d x1 pos) (zsS t):=by
 intro f s m H Q I i j;refine Oy (thn (h pos f s m H _ I i j) λk s1 ⟨l,a,c,r,z,q⟩=>⟨by rw[<- r.length];exact z,?_⟩);have g:a s1.heap.objs.size=none:=c.hok.fresh (XQ _);refine⟨.ref s1.heap.objs.size,upd a s1.heap.objs.size (.tup l),c.laid (t':=s1.toks) (λb u e=>XY _ e) (XQ _) ?_,rfl,q _ g⟩;exact⟨z,k,r,⟨_,Xg _ rfl,rfl,_,rfl⟩⟩
def zpi(he:PEt n X e c)(j:PG X a g)(l:swapsWithSole [a] e pos.line X.env=pure false:=by rfl)(m:swappedStores [a] e X.env=pure none:=by rfl)
  (h1:(S2 [a] X.env).map (·.2)=[assign a X.env]:=by rfl):PSt n X (.Assign [a] e pos) (zkT c g):=by
 intro b s d H D I k h;refine wpAny_Assign_stores (thn (he b s d H _ I k h) λv s1 ⟨x,f,i,p,o⟩=>?_) l m;rw[h1];exact thn (j b s1 d f x v _ i p o) λ_ r q=>q
def ztj(K:X4)(S:Addr)(i j:Nat)(sp:Sp)(dv:AE)(h:TA)(k:TS):TS:=λD f H=>h f H λl g=>sp (l++dv) g (λv d=>D.nx (f.set i (some v)) d)
 (λc _ d=>∃C,c=.ref C/\Wq K C (.ref S)=some true/\∀e,d e=none ->
  k { nx:=fun a b=>D.nx (a.set j none) b,rt:=D.rt,bk:=fun a b=>D.bk (a.set j none) b,ct:=fun a b=>D.ct (a.set j none) b } (f.set j (some (.ref e))) (upd d e (exO e C)))
def zpj{xp fp cp ap aj hp:Pos}
  (c:X.stack=X.env::X.outer) (ac:X.env.frame=some X.env.locals) (F:yM n X.prog X.w X.K X.mg X.base (CXE X.prog X.w) k fA fd ps sp) (hr:xj k X.A) (hg:Gl X f) (hm:X.mg f=some (.ref fA)) (hk:VD X.K (.ref fA)=true) (hb:∃Q,Vals dv Q/\Binds X.K fd ps Q)
  (J:X.N.Nodup) (hi:X.N[i]?=some x) (hx:Loc X.env.scope x) (hf:X.fn x=true\/X.env.scope.names.lookup x=some .local) (U:X.N[j]?=some y) (L:X.env.scope.names.lookup y=some .local) (gS:Gl X xS) (O:qw X.K X.mg xS S)
  (ha:PA X.nox (T::G) ta) (hs:∀e,PSs (markX X e) (b0::b) ts)
  (he:Xh (T::G) X.env=(false,eval T X.env)::Xh G X.env:=by rfl) (af:(UV cp (Xh G X.env)).any (·.1)=false:=by rfl) (ab:(f==("__debug__":Str))=false:=by decide) (aa:(xS==("__debug__":Str))=false:=by decide)
  (ah:Tt (.Call (.Name f fp) (T::G) [] cp) (some (.Name x xp)) ap.line X.env=pure false:=by rfl) :
  PSt n X (.Try [.Assign [.Name x xp] (.Call (.Name f fp) (T::G) [] cp) ap] [.ExceptHandler (some (.Name xS aj)) (some y) (b0::b) hp] [] [] pos) (ztj X.K S i j sp dv ta ts):=by
 intro bz s σ H D I hn h;obtain⟨Q,hd,hb⟩:=hb;refine wpAny_Try_except (Vk ?_);refine SR (Vy (xB I hg hm ?_ ab)) ah;refine UE (h₀:=X.base) I.ok.mod.kin hk (up hn (WM (ha cp bz s σ H _ (I.wish _) h) (λus s1 ⟨vs,H1,M,r,q⟩ n1=>⟨M.kIn,?_⟩) λ_ _ z=>WK z)) he af;have E:Inv X bz σ H1 s1:=M.unwish;have r2:Vals (vs++dv) (us++Q):=r.append hd;have Y:(us++Q).length=ps.length:=by rw[<- r2.length];exact F.len _ _ _ _ q
 have bt:=hb s1 us E.kIn Y;refine RL (UT (F.run X.A X.stack s1 H1 ⟨us,[]⟩ _ _ _ _ n1 hr E.env0 bt r2 q) λai s' hq=>?_);cases ai with
 | ok fl =>
  cases fl with
  | ret u =>
   refine fS (λv H2 I2 rv q2=>?_) (E.after hq);exact Ye I2 J hi hx rv (λs3 I3=>VB (VB ⟨_,H2,I3,q2⟩)) hf
  | next=>exact WK hq
  | brk=>exact WK hq
  | cont=>exact WK hq
 | error y =>
  revert hq;refine gw λe C a0 B H' z0 Fl=>fT λC' ec ae ag=>?_;subst z0;cases ec;have ff:=Fl.fly;rw[c]at ff;refine Pi (by rw[E.ok.frames,c]) ac ff λh4 an ak=>?_;refine N1 an λh5 o al=>?_;have up:=ak.trans al;have I5:=Fl.caught E (h:=h5) (by rw[c];exact o) up;refine Ot (O9 (xB (X:=markX X e) (I5.mark e) gS O.g ?_ aa)) (by intro z;cases z);obtain⟨bm,OS⟩:=zmr I5.kIn O.q;refine fQ (λoe aq q1 q2 q3 _=>?_) o.first;refine zj0 OS q1 q2 (Tj I5.kIn ae) (codeAny_handlers_suite_as ?_);refine lands_againW o λh6 ao am=>?_;have I6:=Fl.caught E (h:=h6) (by rw[c];exact ao) (up.trans am);refine Ye (X:=markX X e) (I6.mark e) J U (.inl L) (v:=.ref e) rfl (λs7 I7=>?_) (.inr L);refine WM (hs e bz s7 _ _ _ I7 (ag e Fl.free)) (λfl s8 a=>?_) λ_ _ z=>z.elim;cases fl with
  | next =>
   revert a;refine fZ λp d l a=>?_;exact(l.unmark I.ok).nameGoes J U L λs9 m=>⟨_,d,m,a⟩
  | brk =>
   revert a;refine fZ λp d l a=>?_;exact(l.unmark I.ok).nameGoes J U L λs9 m=>⟨_,d,m,a⟩
  | cont =>
   revert a;refine fZ λp d l a=>?_;exact(l.unmark I.ok).nameGoes J U L λs9 m=>⟨_,d,m,a⟩
  | ret u =>
   revert a;refine gi λv8 p d l r8 a=>?_;exact(l.unmark I.ok).nameGoes J U L λs9 m=>⟨v8,_,d,m,r8,a⟩
end
def zb0.bd{K:X4}{st:Stmt}(D:zb0 K d x st ps v f c):∃a,Vals [.str v] a/\Binds K c ps a :=
 let ⟨t,b⟩:=D.b1
 ⟨_,.cons ⟨t,rfl⟩ .nil,b⟩
def zi6(z:Str):Str:=⟨z.cps.toList.reverse.toArray⟩
def zpk(z):(⟨((TH none none (-1) z.length).filterMap (z.cps[·]?)).toArray⟩:Str)=zi6 z:=by
 unfold TH;show (⟨((sliceRange ((z.length:Int)-1) (-1) (-1)).filterMap (z.cps[·]?)).toArray⟩:Str)=_;rw[PySem.W.krv_sliceRange,PySem.W.krv_range,List.filterMap_reverse];have e:(VU z.length).filterMap (z.cps[·]?)=z.cps.toList:=PySem.W.krv_all z.cps;rw[e];rfl
section
variable {X:Cx}{e k:Expr}{te tk:TE}{pos p2:Pos}
def ztk(te tk:TE):TE:=fun a H Q=>te a H λx b=>zqm tk a b λo c=>o=some (-1)/\∃z,x=.str z/\z.length<=Xz/\Q (.str (zi6 z)) c
def zpl(he:PE X e te)(hk:PE X k tk):PE X (.Subscript e (.Slice none none (some k) p2) pos) (ztk te tk):=by
 intro c s d H Q I h;refine Og (thn (he c s d H _ I h) λv s1 ⟨x,m,B,r1,Y⟩=>?_);refine wpAny_Slice (thn (za3 c s1 d m (λo j=>o=none/\j=m) B ⟨rfl,rfl⟩) λvl s2 ⟨l,n,D,O,q2⟩=>?_);obtain⟨rfl,rfl⟩:=q2;refine thn (za3 c s2 d n (λo j=>o=none/\j=n) D ⟨rfl,rfl⟩) λvu s3 ⟨u,y,I3,U,q3⟩=>?_;obtain⟨rfl,rfl⟩:=q3;refine thn (zcT hk c s3 d y _ I3 Y) λvs a ⟨o,p,E,T,q4⟩=>?_;revert q4;refine gr λz0=>fT λz z1 N q=>?_;subst z0 z1;obtain⟨t,rfl⟩:=r1;obtain⟨f,rfl,J⟩:=zdi O;obtain⟨g,rfl,L⟩:=zdi U;obtain⟨i,rfl,r⟩:=zdi T;have G:Inv X c d p { a with heap:=a.heap.push { cls:=.type "slice",data:=.fields #[RQ f,RQ g,RQ i] } }:=E.kept (t':=a.toks) λb ob q=>XY _ q;show Xw (Xv X.prog X.w) X.A (Rb e (.Slice none none (some k) p2) (.str z t) (.ref a.heap.objs.size)) (EP X c d Q) X.xe { a with heap:=a.heap.push { cls:=.type "slice",data:=.fields #[RQ f,RQ g,RQ i] } };refine tail_any (ops:=[.str z t,.ref a.heap.objs.size]) (Of _ _ _) F.slot_str_getitem.lookup (wpAny_getItem_str_slice (l:=f) (u:=g) (st:=i) ⟨_,Xg _ rfl,rfl,rfl⟩ (by rw[r];rfl) ?_) (by with_unfolding_all rfl);have M:sliceMade z t f g i=Made.str ⟨((TH none none (-1) z.length).filterMap (z.cps[·]?)).toArray⟩:=by
  unfold sliceMade slicePicked;rw[J,L,r];rfl
 rw[M,zpk];refine⟨?_,(ef (.str (zi6 z)) p (G.tok _) ⟨_,rfl⟩ q)⟩;show z.cps.toList.reverse.toArray.size<=Xz;rw[Xx,Ul,XX];exact N
end
open PySem PySem.Spec PyProof.Rows PySem.W
section
variable {X:Cx}
def zt9{p pos:Pos}(hx:Passes CX X E0)(F:yM n X.prog X.w X.K X.mg X.base CX k f E ps sp)(Y:xj k0 X.A)(U:X.mg x=some (.ref f))(m:VD X.K (.ref f)=true)(j:∃b,Vals dv b/\Binds X.K E ps b)(N:PAt n X (e::c) t)(hk:k<=k0:=by decide)(T:Gl X x:=by rfl)
  (l:(x==("__debug__":Str))=false:=by decide) (he:Xh (e::c) X.env=(false,eval e X.env)::Xh c X.env:=by rfl) (o:(UV pos (Xh c X.env)).any (·.1)=false:=by rfl) :
  PEt n X (.Call (.Name x p) (e::c) [] pos) (zda sp dv E0 t):=by
 intro D s L H Q I G h;obtain⟨b,O,j⟩:=j;refine Vy (xB I T U ?_ l);refine UE (h₀:=X.base) I.ok.mod.kin m (zbZ G (N pos D s L H _ I G h) λi s1 ⟨vs,B,a,r,q⟩ z=>⟨a.kIn,?_⟩) he o;have J:Vals (vs++dv) (i++b):=r.append O;have d:(i++b).length=ps.length:=by rw[<- J.length];exact F.len _ _ _ _ q
 refine RL (UT (F.run X.A X.stack s1 B ⟨i,[]⟩ _ _ _ _ z (Y.mono hk) a.env0 (j s1 i a.kIn d) J q) λv s' g=>?_);cases v with
 | error y=>exact hx D L B s1 y s' a g
 | ok M =>
  cases M with
  | ret u=>exact a.after g
  | next=>exact WK g
  | brk=>exact WK g
  | cont=>exact WK g
end
namespace GS
section
variable {prog:Xu}{w:W9}{A:WZ}{E:X9->X8->Prop}{s:X8}{rk:WL->Int}{κ:TB}{a0:Array WL}
theorem Zw{g:Option j × e->StateT WO Sem α}
  (I:Nat->e->WO->Prop) (D:j->WO->Prop) (J:e->WO->Prop) (h0:I 0 k i)
  (step:∀x b st,x<n->I x b st->wpS (Xv prog w) A E s (f x (none,b)) (λc a=>match c with
   | .yield (none,d)=>I (x+1) d a
   | .done (none,d)=>J d a
   | .done (some r,_)=>D r a
   | _=>False) st)
  (fin:∀b st,I n b st->J b st)
  (o:∀r b st,D r st->wpS (Xv prog w) A E s (g (some r,b)) Q st) (p:∀b st,J b st->wpS (Xv prog w) A E s (g (none,b)) Q st):wpS (Xv prog w) A E s (forIn [:n] (none,k) f >>= g) Q i:=by
 refine Xr (NF (RU (I:=λx c st=>∃b,c=(none,b)/\I x b st) (Q:=λc st=>match c with | (none,b)=>J b st | (some r,_)=>D r st) ?_ ?_ ⟨k,rfl,h0⟩) ?_)
 .rintro x c st _ m ⟨b,rfl,l⟩;refine NF (step x b st m l) ?_;rintro(⟨_ | r,d⟩ | ⟨_ | r,d⟩) a h
  .exact h
  .exact h
  .exact⟨d,rfl,h⟩
  .exact h.elim
 .rintro c st ⟨b,rfl,h⟩;rw[show max 0 n=n by lia]at h;exact fin b st h
 .rintro⟨_ | r,b⟩ st h
  .exact p b st h
  .exact o r b st h
def Yn{st:WO}(T:Tells prog w A s κ rk a0)(hk:kindOf st=κ)(e:d∈a0.toList)
  (he:∀i,i<n->∃x,f[base+i]?=some x/\x∈a0.toList) (v:hint<n) (h:∀k,k<=n->Q (some k) st):wpS (Xv prog w) A E s (gallop' left d f base n hint) Q st:=by
 have one:∀{i:Nat} {j:Option Bool->WO->Prop},i<n->(∀b,j (some b) st)->wpS (Xv prog w) A E s (do
   let x <- elem' f (base+i)
   if left=true then lt' x d
    else do
     let r <- lt' d x
     pure (Option.map (λx=>!x) r)) j st:=by
  intro i j y q;obtain⟨x,u,p⟩:=he i y;refine Xr (jj u ?_);exact qB (λ_=>zmP T hk p e (q _)) λ_=>Xr (zmP T hk e p (Xj (q _)))
 refine Xr (one v λb=>?_);dsimp only;refine qB (λ_=>?_) λ_=>?_;all_goals
  refine Zw (λ_ _ a=>a=st) (λ_ _=>False) (λ_ a=>a=st) rfl ?_ (λ_ _ h=>h) (λ_ _ _ h=>h.elim) ?_
  .rintro x ⟨l,o⟩ st _ rfl;dsimp only;refine qB (λ_=>Xj rfl) λm=>?_;refine Xr (one "a" λb=>?_);dsimp only;exact qB (λ_=>Xj rfl) λ_=>Xj rfl
  .rintro⟨l,o⟩ st rfl;dsimp only;refine Zw (λ_ c a=>a=st/\c.2<=n) (λ_ _=>False) (λc a=>a=st/\c.2<=n) ⟨rfl,by dsimp only;lia⟩ ?_ (λ_ _ h=>h) (λ_ _ _ h=>h.elim) ?_
   .rintro x ⟨l,r⟩ st _ ⟨rfl,g⟩;dsimp only at g ⊢;refine qB (λ_=>Xj ⟨rfl,g⟩) λm=>?_;refine Xr (one "a" λb=>?_);dsimp only;exact qB (λ_=>Xj ⟨rfl,g⟩) λ_=>Xj ⟨rfl,by dsimp only;lia⟩
   .rintro⟨l,r⟩ st ⟨rfl,g⟩;exact Xj (h r g)
end
def I3(L:List WL)(a:Array WL)(X Y:List WL):Prop:=(a.toList++(X++Y)).Perm L
section
variable {L X X' Y:List WL}{out u a:Array WL}{i k:Nat}{x:WL}
def I3.swap(h:I3 L out X Y):I3 L out Y X:=(List.perm_append_comm.append_left _).trans h
def I3.mv(h:I3 L out X Y)(e:X.Perm (u.toList++X')):I3 L (out++u) X' Y:=by
 unfold I3 at h ⊢;rw[Wz,Ww,<- Ww u.toList];exact((e.symm.append_right _).append_left _).trans h
def I3.mvB(h:I3 L out Y X)(e:X.Perm (u.toList++X')):I3 L (out++u) Y X':=(h.swap.mv e).swap
def zhr(e:a[i]?=some x):(a.toList.drop i).Perm (#[x].toList++a.toList.drop (i+1)):=by
 have:=zmS e;have h:=Xc 1 (a.toList.drop i);rw[this,RC]at h;rw[<- h]
def zm4:(a.toList.drop i).Perm ((a.extract i (i+k)).toList++a.toList.drop (i+k)):=by
 rw[ext_toList _ _ _ (Vh _ _),PL,<- RC,Xc]
def zm5(h:k<=i):(a.toList.take i).Perm ((a.extract k i).reverse.toList++a.toList.take k):=by
 obtain⟨j,rfl⟩:=Nat.exists_eq_add_of_le h;rw[OK,ext_toList _ _ _ h,PL,List.take_add];exact TW.trans ((List.reverse_perm _).symm.append_right _)
def zhs(e:a[i-1]?=some x)(h:1<=i):(a.toList.take i).Perm (#[x].toList++a.toList.take (i-1)):=by
 have:=zmS e;have h2:=List.take_add (l:=a.toList) (i:=i-1) (j:=1);rw[this,Nat.sub_add_cancel h]at h2;rw[h2];exact TW
def J1{b:Array WL}(M:I3 L out (a.toList.drop i) (b.toList.drop j)):(out++a.extract i a.size++b.extract j b.size).toList.Perm L:=by
 rw[Wz,Wz,zkc,zkc,Ww];exact M
def J2{b:Array WL}(M:I3 L out (a.toList.take i) (b.toList.take j)):(a.extract 0 i++b.extract 0 j++out.reverse).toList.Perm L:=by
 rw[Wz,Wz,OK,ext_toList _ _ _ (W2 _),ext_toList _ _ _ (W2 _)];exact(TW.trans ((List.reverse_perm _).append_right _)).trans M
end
section
variable {prog:Xu}{w:W9}{A:WZ}{E:X9->X8->Prop}{s:X8}{rk:WL->Int}{κ:TB}{a0:Array WL}
structure Lo (st0:WO)(a b:Array WL)(n:Nat)(out:Array WL)(ia ib:Nat)(st:WO):Prop where
 m:I3 (a.toList++b.toList) out (a.toList.drop ia) (b.toList.drop ib)
 ha:ia+1<a.size
 hb:ib<b.size
 hn:n<=ia+ib
 k:Kept st0 st
def Yo{a:Array WL}{L:List WL}(b:∀x∈a.toList,x∈L)(h:j+n<=a.size)(i)(c:i<n):∃x,a[j+i]?=some x/\x∈L:=by
 obtain⟨x,e,m⟩:=yp (a:=a) (i:=j+i) "a";exact⟨x,e,b x m⟩
def zlv{d:WO}(T:Tells prog w A s κ rk a0)(hk:kindOf d=κ)(ma:∀x∈a.toList,x∈a0.toList)(mb:∀x∈b.toList,x∈a0.toList)
  (ha:0<a.size) (hb:0<b.size) (h:∀e aa,Kept d aa->e.toList.Perm (a.toList++b.toList)->Q e aa):wpS (Xv prog w) A E s (mergeLo' a b) Q d:=by
 refine Xr (P6 (UI ⟨rfl,?_⟩));refine fR (λb0 J _=>?_) (yp hb);refine Xr (jj J ?_);have M0:I3 (a.toList++b.toList) #[] (a.toList.drop 0) (b.toList.drop 0):=.refl _;have M1:I3 (a.toList++b.toList) #[b0] (a.toList.drop 0) (b.toList.drop 1):=M0.mvB (u:=#[b0]) (zhr J);dsimp -zeta only;refine qB (λhc=>Xj (h _ _ (Kept.refl _) (J1 M1))) λhc=>?_;refine qB (λL=>Xj (h _ _ (Kept.refl _) (J1 M1.swap))) λL=>?_;simp only[beq_iff_eq]at hc L;refine Xr (RX ?_);refine Zw (λx c st=>Lo d a b (x+1) c.1 c.2.1 c.2.2.1 st) (λr st=>r.toList.Perm (a.toList++b.toList)/\Kept d st) (λ_ _=>False) ⟨M1,by dsimp only;lia,by dsimp only;lia,by dsimp only;lia,Kept.refl _⟩ ?_ (λc st F=>absurd F.hn (by have:=F.ha;have:=F.hb;lia)) (λr c st F=>Xj (h _ _ F.2 F.1)) (λ_ _ F=>F.elim);rintro I ⟨e,j,l,mg⟩ ab _ F;dsimp -zeta only at F ⊢;refine Zw (λx c st=>Lo d a b (I+1+x) c.1 c.2.1 c.2.2.1 st) (λr st=>r.toList.Perm (a.toList++b.toList)/\Kept d st) (λc st=>Lo d a b (I+2) c.1 c.2.1 c.2.2.1 st) F ?_ (λc st F=>⟨F.m,F.ha,F.hb,by have:=F.hn;lia,F.k⟩) (λr c st F=>Xj F) ?_
 .clear F;rintro x ⟨e,j,l,ac,bc⟩ ab _ ⟨M,h1,h2,D,k⟩;dsimp -zeta only at M h1 h2 D k ⊢;refine fR (λy v my=>?_) (yp h2);refine fR (λz B mz=>?_) (yp (a:=a) (i:=j) "a");refine Xr (jj v (Xr (jj B (Xr (zmP T (k.kind.trans hk) (mb y my) (ma z mz) ?_)))));dsimp -zeta only;refine qB (λ_=>?_) λ_=>?_
  .have M2:=M.mvB (zhr v);refine Xr (jj v ?_);refine qB (λ_=>Xj ⟨J1 M2,k⟩) λhe=>?_;simp only[beq_iff_eq]at he;exact qB (λ_=>Xj ⟨M2,h1,by dsimp only;lia,by dsimp only;lia,k⟩) λ_=>Xj ⟨M2,h1,by dsimp only;lia,by dsimp only;lia,k⟩
  .have M2:=M.mv (zhr B);refine Xr (jj B ?_);refine qB (λ_=>Xj ⟨J1 M2.swap,k⟩) λhe=>?_;simp only[beq_iff_eq]at he;exact qB (λ_=>Xj ⟨M2,by dsimp only;lia,h2,by dsimp only;lia,k⟩) λ_=>Xj ⟨M2,by dsimp only;lia,h2,by dsimp only;lia,k⟩
 .clear F;rintro⟨e,j,l,ac,bc⟩ ab F;dsimp -zeta only at F ⊢;refine Xr (P6 (UI ⟨rfl,?_⟩));refine Zw (λx c st=>Lo d a b (I+2) c.1 c.2.1 c.2.2.1 st) (λr st=>r.toList.Perm (a.toList++b.toList)/\Kept d st) (λc st=>Lo d a b (I+2) c.1 c.2.1 c.2.2.1 st) F ?_ (λ_ _ F=>F) (λr c st F=>Xj F) ?_
  .clear F;rintro x ⟨e,j,l,mg,ac,bc⟩ ag _ ⟨M,h1,h2,D,k2⟩;dsimp -zeta only at M h1 h2 D k2 ⊢;refine fR (λy v my=>?_) (yp h2);refine' cut ?key1 λf=>qB (λaf=>?a1) λaf=>?b1
   case a1 =>
    generalize mg-1=Y
    revert Y
    exact f.get
   case b1=>exact f.get mg
   intro Y;dsimp -zeta only;refine Xr (zf1 k2 λq n=>?_);have O:kindOf q=κ:=n.kind.trans hk;refine Xr (jj v (Xr (Yn T O (mb y my) (Yo ma "a") "a" λk ah=>?_)));dsimp -zeta only;refine' cut ?key2 λf=>qB (λae=>?a2) λae=>?b2
   case a2 =>
    have M2:=M.mv (zm4 (a:=a) (i:=j) (k:=k))
    refine qB (λ_=>Xj ⟨J1 M2.swap,n⟩) λhe=>?_
    refine qB (λ_=>Xj ⟨J1 M2,n⟩) λG=>?_
    simp only[beq_iff_eq]at he G
    have F:Lo d a b (I+2) (e++a.extract j (j+k)) (j+k) l q:=⟨M2,"a",h2,"a",n⟩
    generalize e++a.extract j (j+k)=g at F ⊢
    generalize j+k=o at F ⊢
    revert F;revert o;revert g
    exact f.get
   case b2=>exact f.get e j ⟨M,h1,h2,D,n⟩
   clear M h1 D;rintro g o ⟨M,h1,_,D,_⟩;refine fR (λz B mz=>?_) (yp (a:=a) (i:=o) "a");have M3:=M.mvB (zhr v);refine Xr (jj v ?_);refine qB (λ_=>Xj ⟨J1 M3,n⟩) λhe=>?_;simp only[beq_iff_eq]at he;refine Xr (jj B (Xr (Yn T O (ma z mz) (Yo mb "a") "a" λU ai=>?_)));dsimp -zeta only;refine' cut ?key3 λf=>qB (λN=>?a3) λN=>?b3
   case a3 =>
    have M4:=M3.mvB (zm4 (a:=b) (i:=l+1) (k:=U))
    refine qB (λ_=>Xj ⟨J1 M4,n⟩) λG=>?_
    simp only[beq_iff_eq]at G
    have F:Lo d a b (I+2) (g.push y++b.extract (l+1) (l+1+U)) o (l+1+U) q:=⟨M4,h1,"a","a",n⟩
    generalize g.push y++b.extract (l+1) (l+1+U)=p at F ⊢
    generalize l+1+U=H at F ⊢
    revert F;revert H;revert p
    exact f.get
   case b3=>exact f.get (g.push y) (l+1) ⟨M3,h1,"a","a",n⟩
   rintro p H ⟨M,_,h2,D,_⟩;have M5:=M.mv (zhr B);refine Xr (jj B ?_);refine qB (λ_=>Xj ⟨J1 M5.swap,n⟩) λhe=>?_;simp only[beq_iff_eq]at he;have F:Lo d a b (I+2) (p.push z) (o+1) H q:=⟨M5,"a",h2,"a",n⟩;exact qB (λ_=>Xj F) λ_=>Xj F
  .rintro⟨e,j,l,mg,ac,bc⟩ ag F;dsimp -zeta only at F ⊢;exact Xr (zf1 F.k λq n=>Xj ⟨F.m,F.ha,F.hb,F.hn,n⟩)
structure Hi' (st0:WO)(a b:Array WL)(n:Nat)(out:Array WL)(na nb:Nat)(st:WO):Prop where
 m:I3 (a.toList++b.toList) out (a.toList.take na) (b.toList.take nb)
 ha:1<=na/\na<=a.size
 hb:2<=nb/\nb<=b.size
 hn:na+nb+n<=a.size+b.size
 k:Kept st0 st
def zlw{d:WO}(T:Tells prog w A s κ rk a0)(hk:kindOf d=κ)(ma:∀x∈a.toList,x∈a0.toList)(mb:∀x∈b.toList,x∈a0.toList)
  (ha:0<a.size) (hb:0<b.size) (h:∀e Y,Kept d Y->e.toList.Perm (a.toList++b.toList)->Q e Y):wpS (Xv prog w) A E s (mergeHi' a b) Q d:=by
 refine Xr (P6 (UI ⟨rfl,?_⟩));refine fR (λal J _=>?_) (yp (a:=a) (i:=a.size-1) "a");refine Xr (jj J ?_);have M0:I3 (a.toList++b.toList) #[] (a.toList.take a.size) (b.toList.take b.size):=by
  rw[<- XX,<- XX,XF,XF];exact .refl _
 have M1:I3 (a.toList++b.toList) #[al] (a.toList.take (a.size-1)) (b.toList.take b.size):=M0.mv (u:=#[al]) (zhs J ha);dsimp -zeta only;refine qB (λhc=>Xj (h _ _ (Kept.refl _) (J2 M1))) λhc=>?_;refine qB (λL=>Xj (h _ _ (Kept.refl _) (J2 M1.swap))) λL=>?_;simp only[beq_iff_eq]at hc L;refine Xr (RX ?_);refine Zw (λx c st=>Hi' d a b (x+1) c.2.2.1 c.1 c.2.1 st) (λr st=>r.toList.Perm (a.toList++b.toList)/\Kept d st) (λ_ _=>False) ⟨M1,by dsimp only;lia,by dsimp only;lia,by dsimp only;lia,Kept.refl _⟩ ?_ (λc st F=>absurd F.hn (by have:=F.ha;lia)) (λr c st F=>Xj (h _ _ F.2 F.1)) (λ_ _ F=>F.elim);rintro H ⟨q,l,e,mg⟩ aa _ F;dsimp -zeta only at F ⊢;refine Zw (λx c st=>Hi' d a b (H+1+x) c.2.2.1 c.1 c.2.1 st) (λr st=>r.toList.Perm (a.toList++b.toList)/\Kept d st) (λc st=>Hi' d a b (H+2) c.2.2.1 c.1 c.2.1 st) F ?_ (λc st F=>⟨F.m,F.ha,F.hb,by have:=F.hn;have:=F.ha;lia,F.k⟩) (λr c st F=>Xj F) ?_
 .clear F;rintro x ⟨q,l,e,ac,bc⟩ aa _ ⟨M,h1,h2,D,k⟩;dsimp -zeta only at M h1 h2 D k ⊢;refine fR (λy v my=>?_) (yp (a:=b) (i:=l-1) "a");refine fR (λz B mz=>?_) (yp (a:=a) (i:=q-1) "a");refine Xr (jj v (Xr (jj B (Xr (zmP T (k.kind.trans hk) (mb y my) (ma z mz) ?_)))));dsimp -zeta only;refine qB (λ_=>?_) λ_=>?_
  .have M2:=M.mv (zhs B h1.1);refine Xr (jj B ?_);refine qB (λ_=>Xj ⟨J2 M2,k⟩) λhe=>?_;simp only[beq_iff_eq]at he;exact qB (λ_=>Xj ⟨M2,by dsimp only;lia,h2,by dsimp only;lia,k⟩) λ_=>Xj ⟨M2,by dsimp only;lia,h2,by dsimp only;lia,k⟩
  .have M2:=M.mvB (zhs v "a");refine Xr (jj v ?_);refine qB (λ_=>Xj ⟨J2 M2.swap,k⟩) λhe=>?_;simp only[beq_iff_eq]at he;exact qB (λ_=>Xj ⟨M2,h1,by dsimp only;lia,by dsimp only;lia,k⟩) λ_=>Xj ⟨M2,h1,by dsimp only;lia,by dsimp only;lia,k⟩
 .clear F;rintro⟨q,l,e,ac,bc⟩ aa F;dsimp -zeta only at F ⊢;refine Xr (P6 (UI ⟨rfl,?_⟩));refine Zw (λx c st=>Hi' d a b (H+2) c.2.2.1 c.1 c.2.1 st) (λr st=>r.toList.Perm (a.toList++b.toList)/\Kept d st) (λc st=>Hi' d a b (H+2) c.2.2.1 c.1 c.2.1 st) F ?_ (λ_ _ F=>F) (λr c st F=>Xj F) ?_
  .clear F;rintro x ⟨q,l,e,mg,ac,bc⟩ aj _ ⟨M,h1,h2,D,k2⟩;dsimp -zeta only at M h1 h2 D k2 ⊢;refine fR (λy v my=>?_) (yp (a:=b) (i:=l-1) "a");refine' cut ?key1 λf=>qB (λai=>?a1) λai=>?b1
   case a1 =>
    generalize mg-1=U
    revert U
    exact f.get
   case b1=>exact f.get mg
   intro U;dsimp -zeta only;refine Xr (zf1 k2 λp j=>?_);have O:kindOf p=κ:=j.kind.trans hk;refine Xr (jj v (Xr (Yn T O (mb y my) (Yo ma "a") "a" λk ag=>?_)));dsimp -zeta only;refine' cut ?key2 λf=>qB (λaf=>?a2) λaf=>?b2
   case a2 =>
    have M2:=M.mv (zm5 (a:=a) ag)
    refine qB (λ_=>Xj ⟨J2 M2,j⟩) λhe=>?_
    simp only[beq_iff_eq]at he
    have F:Hi' d a b (H+2) (e++(a.extract k q).reverse) k l p:=⟨M2,"a",h2,"a",j⟩
    generalize e++(a.extract k q).reverse=g at F ⊢
    generalize q-k=dd
    revert F
    generalize k=n
    revert n;revert g;revert dd
    exact f.get
   case b2=>exact f.get (q-k) e q ⟨M,h1,h2,D,j⟩
   clear M h1 D;rintro dd g n ⟨M,h1,_,D,_⟩;refine fR (λz B mz=>?_) (yp (a:=a) (i:=n-1) "a");have M3:=M.mvB (zhs v "a");refine Xr (jj v ?_);refine qB (λ_=>Xj ⟨J2 M3.swap,j⟩) λhe=>?_;simp only[beq_iff_eq]at he;refine Xr (jj B (Xr (Yn T O (ma z mz) (Yo mb "a") "a" λI ah=>?_)));dsimp -zeta only;refine' cut ?key3 λf=>qB (λN=>?a3) λN=>?b3
   case a3 =>
    have M4:=M3.mvB (zm5 (a:=b) ah)
    refine qB (λ_=>Xj ⟨J2 M4.swap,j⟩) λab=>?_
    refine qB (λ_=>Xj ⟨J2 M4,j⟩) λae=>?_
    simp only[beq_iff_eq]at ab ae
    have F:Hi' d a b (H+2) (g.push y++(b.extract I (l-1)).reverse) n I p:=⟨M4,h1,"a","a",j⟩
    generalize g.push y++(b.extract I (l-1)).reverse=o at F ⊢
    generalize l-1-I=dd
    revert F
    generalize I=G
    revert G;revert o;revert dd
    exact f.get
   case b3=>exact f.get (l-1-I) (g.push y) (l-1) ⟨M3,h1,"a","a",j⟩
   rintro ak o G ⟨M,_,h2,D,_⟩;have M5:=M.mv (zhs B h1.1);refine Xr (jj B ?_);refine qB (λ_=>Xj ⟨J2 M5,j⟩) λhe=>?_;simp only[beq_iff_eq]at he;have F:Hi' d a b (H+2) (o.push z) (n-1) G p:=⟨M5,"a",h2,"a",j⟩;exact qB (λ_=>Xj F) λ_=>Xj F
  .rintro⟨q,l,e,mg,ac,bc⟩ aj F;dsimp -zeta only at F ⊢;exact Xr (zf1 F.k λp j=>Xj ⟨F.m,F.ha,F.hb,F.hn,j⟩)
theorem zff(sa)(l:List WL):∀(j:Nat) (b:Array WL) (P M S:List WL),b.toList=P++(M++S)->P.length=sa+j->M.length=l.length->((l.zipIdx j).foldl (λa (p:WL×Nat)=>a.setIfInBounds (sa+p.2) p.1) b).toList=P++(l++S):=by
 induction l with
 | nil=>
  intro j b P M S e _ d;rw[List.length_eq_zero_iff.mp d]at e;exact e
 | cons x l ih=>
  intro j b P M S e c d;obtain⟨m,M,rfl⟩:=List.exists_cons_of_length_eq_add_one d;rw[List.zipIdx_cons,V6,ih (j+1) (b.setIfInBounds (sa+j) x) (P++[x]) M S (by
   rw[Tu,e,<- c,O8 _ _ (XQ _),SV];simp) (by rw[XZ,c];rfl) (Nat.succ.inj d)]
  simp
def zlx{st:WO}(T:Tells prog w A s κ rk a0)(O:Ok κ a0 st)(e1:(W4 st)[i]?=some (sa,b,N))(e2:(W4 st)[i+1]?=some (sa+b,y,p2))(ab:1<=b)(ac:1<=y)(hz:sa+b+y<=a0.size)
  (h:∀o,Ok κ a0 o->W4 o=((W4 st).setIfInBounds i (sa,b+y,N)).eraseIdxIfInBounds (i+1)->Q true o):wpS (Xv prog w) A E s (mergeAt' i) Q st:=by
 have ae:=O.size;have u:∀x∈(W7 st).toList,x∈a0.toList:=λx v=>(UC.mp O.perm).mem_iff.mp v;obtain⟨b0,B,M⟩:=yp (a:=W7 st) (i:=sa+b) "a";refine Xr (RX ?_);rw[e1,e2];dsimp only;refine Xr (ztb λe f=>?_);have r:kindOf e=κ:=by rw[f];exact O.kind
 have ea:W7 e=W7 st:=by rw[f]
 have H:W4 e=((W4 st).setIfInBounds i (sa,b+y,N)).eraseIdxIfInBounds (i+1):=by rw[f]
 have D:Tz e=none:=by rw[f];exact O.good
 have U:Ok κ a0 e:=⟨by rw[ea];exact O.perm,r,D⟩;clear f;refine Xr (jj B (Xr (Yn T r (u b0 M) (Yo u "a") "a" λk hk=>?_)));dsimp only;refine qB (λI=>Xj (h e U H)) λI=>?_;simp only[beq_iff_eq]at I;obtain⟨al,z,L⟩:=yp (a:=W7 st) (i:=sa+k+(b-k)-1) "a";refine Xr (jj z (Xr (Yn T r (u al L) (Yo u "a") "a" λg aa=>?_)));dsimp only;refine qB (λI=>Xj (h e U H)) λJ=>?_;simp only[beq_iff_eq]at J;have Y:sa+b<=(W7 st).size:="a"
 have Y3:sa+b+g<=(W7 st).size:="a"
 have xm:∀x∈((W7 st).extract (sa+k) (sa+b)).toList,x∈a0.toList:=λx v=>by
  obtain⟨j,_,_,G⟩:=ext_mem Y v;exact u x (zkd G)
 have ym:∀x∈((W7 st).extract (sa+b) (sa+b+g)).toList,x∈a0.toList:=λx v=>by
  obtain⟨j,_,_,G⟩:=ext_mem Y3 v;exact u x (zkd G)
 have xz:0<((W7 st).extract (sa+k) (sa+b)).size:=by
  rw[zdx Y];lia
 have yz:0<((W7 st).extract (sa+b) (sa+b+g)).size:=by
  rw[zdx Y3];lia
 have ol:(W7 st).toList=(W7 st).toList.take (sa+k)++((((W7 st).extract (sa+k) (sa+b)).toList++((W7 st).extract (sa+b) (sa+b+g)).toList)++(W7 st).toList.drop (sa+b+g)):=by
  rw[ext_toList _ _ _ "a",ext_toList _ _ _ "a"];have d1:(W7 st).toList.drop (sa+b)=((W7 st).toList.drop (sa+k)).drop (b-k):=by
   rw[RC];congr 1;lia
  have d2:(W7 st).toList.drop (sa+b+g)=((W7 st).toList.drop (sa+b)).drop g:=by
   rw[RC]
  rw[d2,show sa+b+g-(sa+b)=g by lia,Ww,Xc,d1,show sa+b-(sa+k)=b-k by lia,Xc,Xc]
 have m:∀(merged:Array WL) (d:WO),Kept e d->merged.toList.Perm (((W7 st).extract (sa+k) (sa+b)).toList++((W7 st).extract (sa+b) (sa+b+g)).toList) ->
   wpS (Xv prog w) A E s (do
    modify λc=>setArr c (merged.toList.zipIdx.foldl (λa (p:WL×Nat)=>a.setIfInBounds (sa+k+p.2) p.1) (W7 c))
    let c <- get
    pure (Tz c).isNone) Q d:=λmerged d l q=>by
  refine Xr (Su (Xr (RX ?_)));rw[show (Tz (setArr d (merged.toList.zipIdx.foldl (λa (p:WL×Nat)=>a.setIfInBounds (sa+k+p.2) p.1) (W7 d)))).isNone=true by rw[show Tz (setArr d _)=Tz d from rfl,l.bad,D];rfl];refine Xj (h _ ⟨Array.Perm.trans ?_ O.perm,l.kind.trans r,l.bad.trans D⟩ (l.pend.trans H));rw[UC];have:=zff (sa+k) merged.toList 0 (W7 d) _ _ _ (by rw[l.arr,ea];exact ol) (by rw[XH,XX];lia) q.length_eq.symm;refine List.Perm.trans (.of_eq this) ?_;conv=>rhs;rw[ol]
  exact(q.append_right _).append_left _
 exact qB (λ_=>Xr (zlv T r xm ym xz yz λn d l q=>m n d l q)) λ_=>Xr (zlw T r xm ym xz yz λn d l q=>m n d l q)
def zht{st:WO}{lo:Nat}(T:Tells prog w A s κ rk a0)(O:Ok κ a0 st)(c:xW (W4 st).toList 0 lo)(x:i+1<(W4 st).size)(y:lo<=a0.size)
  (h:∀a,Ok κ a0 a->xW (W4 a).toList 0 lo->(W4 a).size+1=(W4 st).size->Q true a):wpS (Xv prog w) A E s (mergeAt' i) Q st:=by
 obtain⟨l1,⟨sa,d,z⟩,⟨H,e,G⟩,l2,g,v,q,r⟩:=ziW (p:=(W4 st).toList) (i:=i) (by rw[XX];exact x);rw[g]at c;obtain⟨m,B,⟨k,l,n,o,f⟩⟩:=xK.mp c;dsimp only at k l n o f;subst k;subst n;rw[W6]at q r;have D:=(zdy f).1;refine zlx T O q r l o "a" λa u j=>?_;have b:(W4 a).toList=l1++(sa,d+e,z)::l2:=by
  rw[j,Array.toList_eraseIdxIfInBounds,Tu,g,<- v];rw[O8 _ _ (XQ _),SV,List.set_cons_zero,List.eraseIdx_append_of_length_le "a",show l1.length+1-l1.length=1 by lia];rfl
 refine h a u ?_ ?_
 .rw[b];exact xK.mpr ⟨sa,B,rfl,by show 1<=d+e;lia,by rw[show sa+(d+e)=sa+d+e by lia];exact f⟩
 .rw[<- XX,b,<- XX,g];simp only[XZ,Xf];lia
def zpm(h:n<64):minRun' n n 0=n:=by
 cases n with
 | zero=>rfl
 | succ n =>
  show (if n+1<64 then n+1+0 else _)=_;rw[bw h]
def zrL{st:WO}(T:Tells prog w A s κ rk a0)(O:Ok κ a0 st)(hp:W4 st=#[])(h:∀v,Ok κ a0 v->(a0.size<64->Up rk (W7 v) 0 a0.size)->Q () v):wpS (Xv prog w) A E s sortRuns' Q st:=by
 rw[sortRuns'_eq];refine Xr (RX ?_);dsimp only;rw[O.size];obtain⟨p,N,G⟩:∃p,minRun' a0.size a0.size 0=p/\(a0.size<64->p=a0.size):=⟨_,rfl,zpm⟩;rw[N];refine Zw (λx lo st=>Ok κ a0 st/\xW (W4 st).toList 0 lo/\lo<=a0.size/\x<=lo/\(a0.size<64->(lo=0/\W4 st=#[])\/(lo=a0.size/\Up rk (W7 st) 0 a0.size/\(W4 st).size<=1))) (λ_ _=>False) (λlo st=>Ok κ a0 st/\xW (W4 st).toList 0 a0.size/\(a0.size<64->Up rk (W7 st) 0 a0.size/\(W4 st).size<=1)) ⟨O,by rw[hp];rfl,W2 _,XQ _,λ_=>.inl ⟨rfl,hp⟩⟩ ?_ ?_ (λ_ _ _ F=>F.elim) ?_
 .refine λx lo z hx=>gc λB e h1 h2 o=>?_;dsimp only;refine qB (λU=>?_) λU=>?_
  .obtain rfl:lo=a0.size:="a"
   refine Xj ⟨B,e,λc=>?_⟩;rcases o c with ⟨M,u⟩ | ⟨_,q⟩
   .exact⟨λi j _ _ q=>absurd q "a",by rw[u];exact W2 _⟩
   .exact q
  have o:a0.size<64->lo=0/\W4 z=#[]:=λc=>by
   rcases o c with q | ⟨q,_⟩
   .exact q
   .lia
  refine Xr (zcl T B "a" "a" λm l S m1 m2 D=>?_);dsimp only;refine' cut ?key λkey=>qB (λY=>?a) λY=>?b
  case a =>
   refine Xr (P6 (UI ⟨rfl,?_⟩))
   refine Xr (zta T S.ok "a" "a" D λf S3 H=>?_)
   rw[bq "d"]
   have F:Step κ a0 lo z f/\1<=min (a0.size-lo) p/\lo+min (a0.size-lo) p<=a0.size/\Up rk (W7 f) lo (lo+min (a0.size-lo) p)/\(a0.size<64->min (a0.size-lo) p=a0.size):=⟨S.trans S3,"a","a",H,λc=>by have:=G c;have:=o c;lia⟩
   clear S3 H
   generalize min (a0.size-lo) p=n at F ⊢
   revert F;revert n;revert f
   exact key.get
  case b=>exact key.get l m ⟨S,m1,"a",D,λc=>by have:=G c;have:=o c;lia⟩
  clear S m1 m2 D;refine λf n=>gc λS n1 n2 D hn=>?_;rw[<- S.pend]at e o;have L:=S.ok;clear S m l;have fin:∀d,Ok κ a0 d->xW (W4 d).toList 0 lo->(a0.size<64->W7 d=W7 f/\W4 d=#[])->Ok κ a0 (Py d ((W4 d).push (lo,n,0)))/\xW (W4 (Py d ((W4 d).push (lo,n,0)))).toList 0 (lo+n)/\lo+n<=a0.size/\x+1<=lo+n/\(a0.size<64->(lo+n=0/\W4 (Py d ((W4 d).push (lo,n,0)))=#[])\/(lo+n=a0.size/\Up rk (W7 (Py d ((W4 d).push (lo,n,0)))) 0 a0.size/\(W4 (Py d ((W4 d).push (lo,n,0)))).size<=1)):=λd k g k4=>by
   refine fj ⟨k.perm,k.kind,k.good⟩ ?_ n2 "a" (λc=>.inr ?_)
   .show xW ((W4 d).push (lo,n,0)).toList 0 (lo+n);rw[Array.toList_push];exact xK.mpr ⟨lo,g,rfl,n1,rfl⟩
   .obtain⟨M,u⟩:=k4 c;have q3:=(o c).1;have q4:=hn c;subst q3;refine⟨"a",?_,?_⟩
    .show Up rk (W7 d) 0 a0.size;rw[M];rw[VT,q4]at D;exact D
    .show ((W4 d).push (0,n,0)).size<=1;rw[u];exact XQ _
  refine Xr (RX ?_);cases hbk:(W4 f).back? with
  | none =>
   dsimp only;exact Xr (Su (Xj (fin f L e λc=>⟨rfl,(o c).2⟩)))
  | some r =>
   obtain⟨s1,k1,M⟩:=r;have big:¬ a0.size<64:=λc=>by
    rw[(o c).2]at hbk;cases hbk
   dsimp only;generalize power' a0.size (2*s1+k1) (2*s1+k1+k1+n) a0.size=pw;refine Zw (λ_ _ st=>Ok κ a0 st/\xW (W4 st).toList 0 lo) (λ_ _=>False) (λ_ st=>Ok κ a0 st/\xW (W4 st).toList 0 lo) ⟨L,e⟩ ?_ (λ_ _ F=>F) (λ_ _ _ F=>F.elim) ?_
   .rintro y ⟨⟩ d _ ⟨k,g⟩;refine Xr (RX ?_);by_cases hz:(W4 d).size>1
    .rw[bw hz,getElem?_pos (W4 d) ((W4 d).size-2) "a"];generalize (W4 d)[(W4 d).size-2]'"a"=r2;obtain⟨ac,ae,af⟩:=r2;dsimp only;refine qB (λ_=>Xj ⟨k,g⟩) λ_=>?_;refine Xr (zht T k g "a" h1 λag O5 aa _=>?_);rw[bq "d"];exact Xj ⟨O5,aa⟩
    .rw[bq hz];exact Xj ⟨k,g⟩
   .rintro⟨⟩ d ⟨k,g⟩;dsimp only;refine Xr (Su (Xr (Su (Xj (fin _ ⟨k.perm,k.kind,k.good⟩ ?_ λc=>absurd c big)))));show xW ((W4 d).modify ((W4 d).size-1) λr=>(r.1,r.2.1,pw)).toList 0 lo;rw[Array.toList_modify];exact zcm pw g
 .refine λlo st=>gc λB e M u q3=>?_;obtain rfl:lo=a0.size:="a"
  refine⟨B,e,λc=>?_⟩;rcases q3 c with ⟨q,q'⟩ | ⟨_,q⟩
  .exact⟨λi j _ _ q=>absurd q "a",by rw[q'];exact W2 _⟩
  .exact q
 .rintro lo z ⟨B,e,q⟩;dsimp only;have I:=(zdy e).2.1;rw[XX]at I;refine Zw (λx _ st=>Ok κ a0 st/\xW (W4 st).toList 0 a0.size/\(a0.size<64->Up rk (W7 st) 0 a0.size/\(W4 st).size<=1)) (λ_ _=>False) (λ_ st=>Ok κ a0 st/\(a0.size<64->Up rk (W7 st) 0 a0.size)) ⟨B,e,q⟩ ?_ (λ_ _ F=>⟨F.1,λc=>(F.2.2 c).1⟩) (λ_ _ _ F=>F.elim) (λ_ st F=>Xj (h st F.1 F.2));rintro x ⟨⟩ l hx ⟨O2,J,u⟩;refine Xr (RX ?_);refine qB (λh1=>Xj ⟨O2,λc=>(u c).1⟩) λh1=>?_;refine Xr (zht T O2 J ?_ (XQ _) λf L ab z3=>?_)
  .exact XM (ON (ite_le _ _) 1) (show (W4 l).size-2+1<(W4 l).size by lia)
  .rw[bq "d"];exact Xj ⟨L,ab,λc=>absurd (u c).2 "a"⟩
end
section
variable {prog:Xu}{w:W9}{A:WZ}{E:X9->X8->Prop}{s:X8}
def zm6(I:s.heap.get? a=some (T9 "list" vs.toArray n))(hz:vs.length<=Xz)(r:X9->Int)
  (hk:2<=vs.length->∀s':X8,(∀b o,b≠a->s.heap.get? b=some o->s'.heap.get? b=some o)->Xw (Xv prog w) A (keyKind' vs.toArray) (fun κ M=>M=s'/\Tells prog w A s' κ (λp=>r p.1) (PH vs)) (λ_ _=>False) s')
  (h:∀(ws:List X9) (h':Heap) (c:Nat),ws.Perm vs->(vs.length<64->ws.Pairwise (λx y=>r x<=r y))->(∀b o,b≠a->s.heap.get? b=some o->h'.get? b=some o)->h'.get? a=some (T9 "list" ws.toArray c)->P (.done (.ret .none)) { s with heap:=h' }) :
  Xw (Xv prog w) A (UB.«list.sort» ⟨[.ref a],[]⟩) P E s:=by
 have ac:a<s.heap.objs.size:=XA I;have G:=get?_update_seq I λ_=>(#[]:Array X9);generalize N:s.heap.update a (U0 λ_=>(#[]:Array X9))=v at G;have zX:v.objs.size=s.heap.objs.size:=by rw[<- N,Heap.size_update]
 have kX:∀b o,b≠a->s.heap.get? b=some o->v.get? b=some o:=λb o q e=>by
  rw[<- N,RY _ _ _ _ q];exact e
 obtain⟨H,L⟩:∃H,v.get? a=some (T9 "list" #[] H):=⟨_,G⟩;generalize U:(v.push (T9 "tuple" vs.toArray 0)).push (T9 "list" #[] 0)=Y;have l:Y.get? a=some (T9 "list" #[] H):=by
  rw[<- U];exact XY _ (XY _ L)
 have kY:∀b o,b≠a->s.heap.get? b=some o->Y.get? b=some o:=λb o q e=>by
  rw[<- U];exact XY _ (XY _ (kX b o q e))
 have g:∀(st:WO),(((W7 st).map (·.2)).toList.Perm vs)->(vs.length<64->((W7 st).map (·.2)).toList.Pairwise λx y=>r x<=r y)->Tz st=none ->
   Xw (Xv prog w) A (do
    let f:=(<- seqEpoch a) != H
    Builtin.List.listUpdate (.ref a) λ_=>(W7 st).map (·.2)
    if let some e:=Tz st then rule "list.sort.comparison-raised";throw e
    if f then rule "list.sort.modified";raiseError "ValueError" "list modified during sort"
    ret .none) P E { s with heap:=Y }:=by
  intro st m J hf;generalize ew:(W7 st).map (·.2)=wsA at m J;rw[hf];have D:wsA.size=vs.length:=by rw[<- XX,m.length_eq]
  have ab:=get?_update_seq l λ_=>wsA;refine Y1 (seqEpoch_at l rfl (Y1 (listUpdate_at l rfl ?_ (W2 _) (by rw[D];lia))));simp only[bne_self_eq_false,Wc,if_false];refine XR (h wsA.toList _ _ m J (λb o q e=>?_) ab);rw[RY _ _ _ _ q];exact kY b o q e
 rw[list_sort_plain];refine Y1 (listItems_at I rfl (Y1 (listUpdate_at I rfl ?_ (by rw[Xx];exact hz) (W2 _))));rw[N];refine Y1 (seqEpoch_at L rfl (Y1 (wpAny_newTuple (Y1 (Oj ?_ (W2 _))) hz)));show Xw (Xv prog w) A _ P E { s with heap:=(v.push (T9 "tuple" vs.toArray 0)).push (T9 "list" #[] 0) };rw[U];refine Wp ?_;dsimp only;have e2:((PH vs).map (·.2)).toList=vs:=by
  rw[UJ,UG];exact List.map_snd_zip (XQ _)
 by_cases k:vs.toArray.size<2
 .have B:vs.length<2:=by rw[Xx]at k;exact k
  rw[bw k,bw k];refine Y1 (XR ?_);rw[StateT.run_pure];refine Y1 (XR ?_);refine g (SortSt.mk' general' (PH vs) #[] 7 none) (by show ((PH vs).map (·.2)).toList.Perm vs;rw[e2]) (λ_=>by
   show ((PH vs).map (·.2)).toList.Pairwise _;rw[e2,Tl];intro i j hi hj aa;lia) rfl
 .have B:2<=vs.length:=by rw[Xx]at k;lia
  rw[bq k,bq k];refine Y1 (WM (hk B { s with heap:=Y } kY) (fun κ M ⟨e3,T⟩=>?_) λ_ _ x=>x.elim);subst e3;have run:=zrL (E:=E) (st:=SortSt.mk' κ (PH vs) #[] 7 none) (Q:=λ_ d=>(((W7 d).map (·.2)).toList.Perm vs)/\(vs.length<64->((W7 d).map (·.2)).toList.Pairwise λx y=>r x<=r y)/\Tz d=none) T ⟨Array.Perm.refl _,rfl,rfl⟩ rfl λd O L=>?_
  .unfold wpS at run;refine Y1 (WM run ?_ λ_ _ z=>z);rintro⟨⟨⟩,d⟩ s' ⟨rfl,m,J,hf⟩;exact g d m J hf
  .have pm:=UC.mp O.perm;have same:∀p∈(W7 d).toList,p.1=p.2:=λp m=>by
    have:=pm.mem_iff.mp m;rw[UG]at this;exact(RT this).1
   refine⟨?_,λc=>?_,O.good⟩
   .have:=pm.map (·.2);rw[UJ];rw[UG,List.map_snd_zip (XQ _)]at this;exact this
   .rw[UJ,V3,Tl];intro i j hi hj aa;have zs:=O.size;have zp:(PH vs).size=vs.length:=by rw[<- XX,UG,List.length_zip,Nat.min_self]
    rw[XX]at hi hj;have u:=zrA (L (by rw[zp];exact c)) (i:=i) (j:=j) (W2 _) "a" "a" (getElem?_pos _ i hi) (getElem?_pos _ j hj);have s1:=same (W7 d)[i] "s";have M:=same (W7 d)[j] "s";rw[Sa,Sa,<- s1,<- M];exact u
def zrM(u:s.heap.IsList l vs.toArray)(hz:vs.length<=Xz)(r:X9->Int)
  (hk:2<=vs.length->∀s':X8,(∀b o,s.heap.get? b=some o->s'.heap.get? b=some o)->Xw (Xv prog w) A.in1.in1 (keyKind' vs.toArray) (fun H G=>G=s'/\Tells prog w A.in1.in1 s' H (λp=>r p.1) (PH vs)) (λ_ _=>False) s')
  (h:∀(f:List X9) (h':Heap) (c:Nat),f.Perm vs->(vs.length<64->f.Pairwise (λx y=>r x<=r y))->(∀b o,s.heap.get? b=some o->h'.get? b=some o)->h'.get? (s.heap.objs.size+1)=some (T9 "list" f.toArray c)->Q (.ref (s.heap.objs.size+1)) { s with heap:=h' }) :
  Xw (Xv prog w) A (call (.builtin "sorted") [.ref l]) Q E s:=by
 generalize g:(s.heap.push (T9 "list" #[] 0)).update s.heap.objs.size (U0 (·++vs.toArray))=a;have n:a.objs.size=s.heap.objs.size+1:=by rw[<- g,Heap.size_update,U6]
 have B:∀b o,s.heap.get? b=some o->a.get? b=some o:=λb o e=>by
  have lt:=XA e;rw[<- g,RY _ _ _ _ (Xi lt)];exact XY _ e
 apply Rq kind_sorted plain_sorted entry_sorted (args_sorted1 _);unfold UB.«sorted»;refine Y1 (m:=checkCount "sorted" 1 1 _) (XR (Y1 (collect_list u ?_ hz)));rw[g];refine Y1 (Oj ?_ hz);show Xw _ _ _ _ _ { s with heap:=a.push (T9 "list" vs.toArray 0) };have d:(a.push (T9 "list" vs.toArray 0)).get? (s.heap.objs.size+1)=some (T9 "list" vs.toArray 0):=by
  rw[<- n];exact Xg _ rfl
 have i:∀b o,s.heap.get? b=some o->(a.push (T9 "list" vs.toArray 0)).get? b=some o:=λb o e=>XY _ (B b o e);have j:∀b o,s.heap.get? b=some o->b≠s.heap.objs.size+1:=λb o e=>Xi (WC (XA e));rw[n];refine Y1 (Wp (UL slot_list_sort ⟨_,d,rfl⟩ entry_list_sort (zm6 (s:={ s with heap:=a.push (T9 "list" vs.toArray 0) }) d hz r (λc s' k=>hk c s' λb o e=>k b o (j b o e) (i b o e)) ?_) (args_list_sort _)));intro f h' c v z D q;exact⟨_,rfl,XR ⟨_,rfl,h f h' c v z (λb o e=>D b o (j b o e) (i b o e)) q⟩⟩
end
section
variable {X:Cx}{bz:List (Addr×Obj)}{σ:St}{H:Hp}{s:X8}{K:Type}
def zm7(W:Wk lt){RH:Heap->X9->K->Prop}(fn:∀h v k n,RH h v k->RH h v n->k=n)(kp:∀h h' v k,(∀b o,h.get? b=some o->h'.get? b=some o)->RH h v k->RH h' v k)
       (I:Inv X bz σ H s) (hl:s.heap.IsList l f.toArray) (hz:Y.length<=1000000) (rv:Vals Y f) (hv:Xk RV Y ks) (E:Xk (RH s.heap) f ks)
  (O:∀s':X8,Xk (RH s'.heap) f ks->2<=f.length->Xw (Xv X.prog X.w) X.A.in1.in1 (keyKind' f.toArray) (fun κ s2=>s2=s'/\∀v v' k n,RH s'.heap v k->RH s'.heap v' n->∀C:Bool->X8->Prop,C (lt k n) s'->Xw (Xv X.prog X.w) X.A.in1.in1 (keyLt' κ v v') C (λ_ _=>False) s') (λ_ _=>False) s')
  (q:∀d D u,H d=none->Xk RV D u->u.Perm ks->(Y.length<64->u.Pairwise (λx y=>lt y x=false))->(D.Perm Y)->Q (.ref d) (upd H d (.lst D))) :
  Xw (Xv X.prog X.w) X.A (call (.builtin "sorted") [.ref l]) (EP X bz σ Q) X.xe s:=by
 classical
 have J:=rv.length;refine gF (λT hT e1 e2 e3=>?_) (zrB rv hv E);let r:X9->Int:=λv=>if h:∃k,RH s.heap v k then rkK lt ks h.choose else 0
 have i:∀{v:X9} {k:K},RH s.heap v k->r v=rkK lt ks k:=λ{v k} h=>by
  have m:∃k,RH s.heap v k:=⟨k,h⟩;show (if h:∃k,RH s.heap v k then rkK lt ks h.choose else 0)=_;rw[dif_pos m,fn _ _ _ _ m.choose_spec h]
 have z1:f.length<=Xz:=by
  rw[<- J,SZ];lia
 refine zrM (vs:=f) hl z1 r (λh2 s' U=>?_) λws h' c L hs U ha=>?_
 .have ab:Xk (RH s'.heap) f ks:=by
   obtain⟨a,b,c⟩:=zdz E;have:=zfc (R:=RH s'.heap) (zs:=f.zip ks) λp E=>kp _ _ _ _ U (a p E);rw[b,c]at this;exact this
  refine WM (O s' ab h2) (fun κ s2 ⟨e,hc⟩=>⟨e,λx m y M C hC=>?_⟩) λ_ _ z=>z;have mx:x.1∈f:=by
   rw[UG]at m;exact(RT m).2
  have my:y.1∈f:=by
   rw[UG]at M;exact(RT M).2
  obtain⟨k,k1,k2⟩:=Zv E x.1 mx;obtain⟨n,ae,N⟩:=Zv E y.1 my;refine hc x.1 y.1 k n (kp _ _ _ _ U k2) (kp _ _ _ _ U N) C ?_;have G:C (decide (r x.1<r y.1)) s':=hC;rw[i k2,i N,<- W.rank k1]at G;exact G
 .obtain⟨T',g,eT⟩:=ST.zdv (λt:V×X9×K=>t.2.1) L T e2.symm;have j:∀t∈T',Tri RV (RH s.heap) t:=λt ht=>hT t (g.mem_iff.mp ht);obtain⟨B,ac⟩:=zho j;rw[<- eT]at B;have hD:H (s.heap.objs.size+1)=none:=I.hok.fresh (Wb _);refine⟨.ref (s.heap.objs.size+1),upd H (s.heap.objs.size+1) (.lst (T'.map (·.1))),I.laid (t':=s.toks) U (Wb _) ⟨?_,ws,c,B,ha⟩,rfl,q _ _ _ hD ac (by rw[<- e3];exact g.map _) (λaa=>?_) (by rw[<- e1];exact g.map _)⟩
  .rw[B.length,L.length_eq];exact z1
  .have hs:=hs (by rw[<- J];exact aa);rw[eT,V3]at hs;rw[V3];refine hs.imp_of_mem λ{x y} m M h=>?_;obtain⟨_,_,h1⟩:=j x m;obtain⟨_,_,h2⟩:=j y M;rw[i h1,i h2]at h;have my:y.2.2∈ks:=by
    rw[<- e3];exact XE.mpr ⟨y,g.mem_iff.mp M,rfl⟩
   rw[W.rank my];exact bf "a"
end
section
variable {X:Cx}
def Jq:jG X (.builtin "sorted") (λxs H Q=>∃l f ps,xs=[.ref l]/\SqL X.K H l f/\xG H f ps/\f.length<=1000000 /\
  ∀d b c,H d=none->xG H b c->c.Perm ps->(f.length<64->c.Pairwise (λp q=>lt2 q p=false))->Q (.ref d) (upd H d (.lst b))):=by
 intro Y s σ H xs b Q I r h;revert h;refine fV λl f ps z0 E j J q=>?_;subst z0;obtain⟨u,rfl,U⟩:=vals1 r;cases U;obtain⟨L,m,O,_⟩:=I.list E;have D:=xG.pairs I j m;refine zm7 zmU (RH:=zL) (λh v k M=>zf2) (λh h' v k N ⟨a,o,n,t,u,e,w,r⟩=>⟨a,o,n,t,u,e,N _ _ w,r⟩) I O.isList J m j D (λs' g h2=>?_) λd b i A h1 h2 y _=>q d b i A h1 h2 y;obtain⟨fs,hk,B,hint⟩:=YV g;refine kat_kind (T:=.type "int") hk "a" (λv G=>?_) "d" ⟨rfl,λv v' k M h1 h2 C z=>?_⟩
 .obtain⟨x,t,rfl⟩:=hint v G;exact Looks.of_pure rfl
 .exact zjZ h1 h2 z
def zat(Y:X.A.units+64<VE):jG X (.builtin "sorted") (λxs H Q=>∃l g ks,xs=[.ref l]/\SqL X.K H l g/\Xk (LstAt H) g ks/\g.length<=1000000 /\
  ∀d b f,H d=none->Xk (LstAt H) b f->f.Perm ks->b.Perm g->Q (.ref d) (upd H d (.lst b))):=by
 intro O s σ H xs b Q I r h;revert h;refine fV λl g ks z0 D m G q=>?_;subst z0;obtain⟨u,rfl,N⟩:=vals1 r;cases N;obtain⟨J,w,M,_⟩:=I.list D;have B:=zi0 I m w;refine zm7 zrC (RH:=ListPairs) (λh v k L=>zmW) (λh U v k p ⟨a,o,xs,n,e,i,c,d,r⟩=>⟨a,o,xs,n,e,p _ _ i,c,d,YU p r⟩) I M.isList G w m B (λs' j h2=>?_) λd b f z h1 h2 _ x=>q d b f z h1 h2 x;refine kas_kind (T:=.type "list") h2 (λv E=>?_) "d" "d" ⟨rfl,λv v' k L h1 h2 C y=>?_⟩
 .obtain⟨a,o,rfl,i,c1⟩:=zi1 j v E;exact c1 ▸ (Looks.ld i).andThen .now
 .exact zmV h1 h2 (by show X.A.units+1+1+30<VE;lia) y
end
end GS
namespace ST
variable {X:Cx}
def zep(hh:X.A.handled=none):jG X (.builtin "sorted") (λxs H Q=>∃l ks,xs=[.ref l]/\H l=some (zhn X.prog X.w l ks)/\(∀q∈ks,H q.1=some (.tup [.int q.2.1,.int q.2.2]))/\(ks.map (·.2)).Nodup/\ks.length<64 /\
  ∀d U O,H d=none->xG H U O->O.Perm (ks.map (·.2))->Up2 O->Q (.ref d) (upd H d (.lst U))):=by
 intro bz s σ H xs U Q I r h;revert h;refine gu λl ks z0 hl hT ak aq q=>?_;subst z0;obtain⟨u,rfl,ru⟩:=vals1 r;cases ru;obtain⟨⟨es,ep,t,ho,he,G,ab,am⟩,_,_⟩:=(show ji X.prog X.w H s.heap l (zhn X.prog X.w l ks) from I.hok l _ hl);have aw:ks.length=es.size:=by
  rw[<- XX,he,ZB]
 apply Rq kind_sorted plain_sorted entry_sorted (args_sorted1 _);unfold UB.«sorted»;refine Y1 (m:=checkCount "sorted" 1 1 _) (XR (Y1 (zhm (by simp[hh]) ho G ab am "a" λf h1 tk ae ah aj=>?_)));have ao:es.toList.map (·.2)=ks.map λq=>WU q.1:=by
  rw[he,Wf];rfl
 rw[ao]at ae;obtain⟨g,z,hj⟩:=zdv (λq:Addr×(Int×Int)=>WU q.1) ae ks rfl;have aa:∀q∈g,H q.1=some (.tup [.int q.2.1,.int q.2.2]):=λq L=>hT q (z.mem_iff.mp L);have D:(g.map (·.2)).Nodup:=(z.map (·.2)).nodup_iff.mpr ak;have av:g.length=ks.length:=z.length_eq;have au:f.length=g.length:=by rw[hj,ZB]
 have rv:∀{g:List (Addr×(Int×Int))},Vals (g.map λq=>V.ref q.1) (g.map λq=>WU q.1):=λ{g}=>by
  induction g with
  | nil=>exact .nil
  | cons a t ih=>exact .cons rfl ih
 have ht:∀{g:List (Addr×(Int×Int))},(∀q∈g,H q.1=some (.tup [.int q.2.1,.int q.2.2]))->xG H (g.map λq=>V.ref q.1) (g.map (·.2)):=λ{g}=>by
  induction g with
  | nil=>exact λ_=>.nil
  | cons a t ih=>exact λh=>.cons ⟨a.1,rfl,h a XU⟩ (ih λq L=>h q (XS _ L))
 have j:Xk (zL s.heap) f (g.map (·.2)):=by
  rw[hj];exact xG.pairs I (ht aa) rv
 generalize af:g.map (·.2)=ps at j D;have ax:f.length=ps.length:=Paired.length j;have W:=GS.zmU;have ip:∀q:Addr×(Int×Int),H q.1=some (.tup [.int q.2.1,.int q.2.2])->zL s.heap (.ref q.1) q.2:=λq L=>by
  have:=xG.pairs I (.cons ⟨q.1,rfl,L⟩ .nil:xG H [V.ref q.1] [q.2]) (.cons rfl .nil:Vals [V.ref q.1] [WU q.1]);cases this with
  | cons h _=>exact h
 classical
 let r:X9->Int:=λv=>if h:∃k,zL s.heap v k then GS.rkK lt2 ps h.choose else 0
 have B:∀{v:X9} {k:Int×Int},zL s.heap v k->r v=GS.rkK lt2 ps k:=λ{v k} h=>by
  have M:∃k,zL s.heap v k:=⟨k,h⟩;show (if h:∃k,zL s.heap v k then GS.rkK lt2 ps h.choose else 0)=_;rw[dif_pos M,GS.zf2 M.choose_spec h]
 have small:f.length<=Xz:=by rw[SZ];lia
 refine Y1 (Oj ?_ small);have ac:(h1.push (T9 "list" f.toArray 0)).get? h1.objs.size=some (T9 "list" f.toArray 0):=Xg _ rfl;have kL:∀b o,s.heap.get? b=some o->(h1.push (T9 "list" f.toArray 0)).get? b=some o:=λb o e=>XY _ (ah b o e);have ne:∀b o,s.heap.get? b=some o->b≠h1.objs.size:=λb o e=>Xi (XA (ah b o e));show Xw _ _ _ _ _ { s with heap:=h1.push (T9 "list" f.toArray 0),toks:=tk };refine Y1 (Wp (UL slot_list_sort ⟨_,ac,rfl⟩ entry_list_sort (GS.zm6 (s:={ s with heap:=h1.push (T9 "list" f.toArray 0),toks:=tk }) ac small r (λh2 s' kk=>?_) ?_) (args_list_sort _)))
 .have al:=YU (λb o e=>kk b o (ne b o e) (kL b o e)) j;obtain⟨fs,hk,ar,hint⟩:=YV al;refine kat_kind (T:=.type "int") hk "a" (λv hv=>?_) "d" ⟨rfl,λx M y hy C hC=>?_⟩
  .obtain⟨x,t,rfl⟩:=hint v hv;exact Looks.of_pure rfl
  .have mx:x.1∈f:=by
    rw[UG]at M;exact(RT M).2
   have my:y.1∈f:=by
    rw[UG]at hy;exact(RT hy).2
   obtain⟨k,k1,k2⟩:=GS.Zv j x.1 mx;obtain⟨k',ay,ag⟩:=GS.Zv j y.1 my;have kp:∀{v:X9} {k:Int×Int},zL s.heap v k->zL s'.heap v k:=λ{v k} ⟨a,o,n,t,u,e,e1,r⟩=>⟨a,o,n,t,u,e,kk _ _ (ne _ _ e1) (kL _ _ e1),r⟩;have Y:C (decide (r x.1<r y.1)) s':=hC;rw[B k2,B ag,<- W.rank k1]at Y;exact zjZ (kp k2) (kp ag) Y
 .intro ws h' c E hs kk ha;have hs:=hs "a";obtain⟨p,i,ej⟩:=zdv (λq:Addr×(Int×Int)=>WU q.1) E g hj;have hD:H h1.objs.size=none:=I.hok.fresh aj;have J:∀q∈p,H q.1=some (.tup [.int q.2.1,.int q.2.2]):=λq L=>aa q (i.mem_iff.mp L);have ai:Vals (p.map λq=>V.ref q.1) ws:=by
   rw[ej];exact rv
  have N:(p.map (·.2)).Nodup:=(i.map (·.2)).nodup_iff.mpr (by rw[af];exact D);have an:Up2 (p.map (·.2)):=by
   unfold Up2;unfold Pz at N;rw[V3]at N ⊢;rw[ej,V3]at hs;refine(hs.and N).imp_of_mem λ{x y} M hy ⟨h1,h2⟩=>?_;rw[B (ip x (J x M)),B (ip y (J y hy))]at h1;have my:y.2∈ps:=by
    rw[<- af];exact XE.mpr ⟨y,i.mem_iff.mp hy,rfl⟩
   have e1:lt2 y.2 x.2=false:=by
    rw[W.rank my];exact bf "a"
   have e2:=zfP h2;rw[e1]at e2;cases hh:lt2 x.2 y.2 with
   | true=>rfl
   | false =>
    rw[hh]at e2;cases e2
  refine⟨_,rfl,XR (e8 _ rfl (.ref h1.objs.size) (upd H h1.objs.size (.lst (p.map λq=>V.ref q.1))) (I.laid (t':=tk) (λb o e=>kk b o (ne b o e) (kL b o e)) aj ⟨?_,_,c,ai,ha⟩) rfl (q _ _ _ hD (ht J) ((i.trans z).map _) an))⟩;rw[ai.length,E.length_eq];exact small
end ST
end L2
namespace Cells
def qh(p:Nat->Bool)(i:Nat):Nat->List Nat->AB
 | _,[]=>[]
 | j,c::r=>(if p c=true then [(i,j)] else [])++qh p i (j+1) r
def zK(p:Nat->Bool):Nat->List (List Nat)->AB
 | _,[]=>[]
 | i,t::r=>qh p i 0 t++zK p (i+1) r
theorem YY(p)(i):∀(j:Nat) (a b:List Nat),qh p i j (a++b)=qh p i j a++qh p i (j+a.length) b
 | j,[],b=>by simp[qh]
 | j,c::a,b=>by
  simp only[P0,qh,YY p i (j+1) a b,Xf,Ww];rw[show j+1+a.length=j+(a.length+1) by lia]
theorem YZ(p):∀(i:Nat) (a b:List (List Nat)),zK p i (a++b)=zK p i a++zK p (i+a.length) b
 | i,[],b=>by simp[zK]
 | i,t::a,b=>by
  simp only[P0,zK,YZ p (i+1) a b,Xf,Ww];rw[show i+1+a.length=i+(a.length+1) by lia]
def zaL{t:List Nat}(h:t[j]?=some c):qh p i 0 (t.take (j+1))=qh p i 0 (t.take j)++(if p c=true then [(i,j)] else []):=by
 rw[XC,h,YY];have a:(t.take j).length=j:=by
  have:=(X6.mp h).1;rw[XH];lia
 simp[qh,a]
def zaM{rs:List (List Nat)}(h:rs[i]?=some t):zK p 0 (rs.take (i+1))=zK p 0 (rs.take i)++qh p i 0 t:=by
 rw[XC,h,YZ];have a:(rs.take i).length=i:=by
  have:=(X6.mp h).1;rw[XH];lia
 simp[zK,a]
theorem jV(p)(i):∀(j:Nat) (t:List Nat),(qh p i j t).length<=t.length
 | j,[]=>by simp[qh]
 | j,c::r=>by
  have:=jV p i (j+1) r;simp only[qh,XZ,Xf];split<;>simp<;>lia
theorem jc(p):∀(i:Nat) (rs:List (List Nat)),(∀t∈rs,t.length<=8)->(zK p i rs).length<=8*rs.length
 | i,[],_=>by simp[zK]
 | i,t::r,h=>by
  have h1:=jV p i 0 t;have h2:=jc p (i+1) r λu a=>h u (XS _ a);have b:=h t XU;simp only[zK,XZ,Xf];lia
theorem Ze:∀{j:Nat} {t:List Nat} {x:AA},x∈qh p i j t->∃m c,x=(i,j+m)/\t[m]?=some c/\p c=true
 | j,[],x,h=>by simp[qh]at h
 | j,c::r,x,h=>by
  simp only[qh,XV]at h;rcases h with h | h
  .split at h
   .rename_i hp;have:x=(i,j):=by simpa using h
    exact⟨0,c,this,rfl,hp⟩
   .cases h
  .obtain⟨m,a,e,h1,h2⟩:=Ze h;exact⟨m+1,a,by rw[e,show j+1+m=j+(m+1) by lia],↑h1,h2⟩
def yW(h:x∈zK p i rs):∃k j t c,x=(i+k,j)/\rs[k]?=some t/\t[j]?=some c/\p c=true:=by
 induction rs generalizing i with
 | nil=>simp[zK]at h
 | cons t r b =>
  simp only[zK,XV]at h;rcases h with h | h
  .obtain⟨m,c,e,h1,h2⟩:=Ze h;exact⟨0,m,t,c,↑e,rfl,h1,h2⟩
  .refine gn (λk j u c e h1 h2 a=>?_) (b h);exact⟨k+1,j,u,c,by rw[e,show i+1+k=i+(k+1) by lia],↑h1,h2,a⟩
def sgn(rs:List (List Nat))(x:AA):Nat:=(rs.getD x.1 []).getD x.2 0
theorem zbd{q:Nat->Bool}(f):∀(j:Nat) (t:List Nat),(∀m c,t[m]?=some c->f (i,j+m)=q c)->(qh p i j t).filter f=qh (λc=>p c&&q c) i j t
 | j,[],_=>by simp[qh]
 | j,c::r,h=>by
  have g:=zbd (p:=p) (q:=q) (i:=i) f (j+1) r λm d e=>by
   have:=h (m+1) d ↑e;rw[show j+1+m=j+(m+1) by lia];exact this
  have h0:=h 0 c rfl;simp only[qh,WJ,g];congr 1;simp only[Nat.add_zero]at h0;by_cases a:p c=true
  .by_cases b:q c=true
   .simp[a,b,h0]
   .simp[a,b,h0]
  .simp[a]
theorem zbe{q:Nat->Bool}(f):∀(i:Nat) (rs:List (List Nat)),(∀k t m c,rs[k]?=some t->t[m]?=some c->f (i+k,m)=q c)->(zK p i rs).filter f=zK (λc=>p c&&q c) i rs
 | i,[],_=>by simp[zK]
 | i,t::r,h=>by
  have b:=zbe (p:=p) (q:=q) f (i+1) r λk u m c hk a=>by
   have:=h (k+1) u m c ↑hk a;rw[show i+1+k=i+(k+1) by lia];exact this
  simp only[zK,WJ,b];rw[zbd (p:=p) (q:=q) f 0 t λm c a=>by simpa using h 0 t m c rfl a]
def Y0(h:rs[i]?=some t)(h2:t[j]?=some c):sgn rs (i,j)=c:=by
 unfold sgn;simp[List.getD,h,h2]
def all_filter{q:Nat->Bool}(rs):(zK p 0 rs).filter (λx=>q (sgn rs x))=zK (λc=>p c&&q c) 0 rs :=
 zbe _ 0 rs λk t m c hk a=>by rw[show 0+k=k by lia,Y0 hk a]
def zcn(h:∀c,p c=q c)(i)(rs):zK p i rs=zK q i rs:=by
 rw[show p=q from funext h]
def near(x y:AA):Bool:=decide ((if (x.1:Int)-(y.1:Int)<0 then -((x.1:Int)-(y.1:Int)) else (x.1:Int)-(y.1:Int))<2)&&(decide ((if (x.2:Int)-(y.2:Int)<0 then -((x.2:Int)-(y.2:Int)) else (x.2:Int)-(y.2:Int))<2) && !decide (x=y))
def Yp(x y):near x y=true↔(x.1<=y.1+1/\y.1<=x.1+1)/\(x.2<=y.2+1/\y.2<=x.2+1)/\¬ x=y:=by
 unfold near;rw[Vi,Vi,decide_eq_true_iff,decide_eq_true_iff,V4,decide_eq_false_iff_not];constructor
 .rintro⟨h1,h2,h3⟩;refine⟨?_,?_,h3⟩
  .split at h1<;>lia
  .split at h2<;>lia
 .rintro⟨h1,h2,h3⟩;refine⟨?_,?_,h3⟩
  .split<;>lia
  .split<;>lia
def lex(a b:AA):Prop:=a.1<b.1\/(a.1=b.1/\a.2<b.2)
theorem zfg(p)(i):∀(j:Nat) (t:List Nat),(qh p i j t).Pairwise lex
 | j,[]=>by simp[qh]
 | j,c::r=>by
  simp only[qh];rw[OJ];refine⟨?_,zfg p i (j+1) r,λa d b g=>?_⟩
  .split<;>simp
  .split at d
   .have e:a=(i,j):=by simpa using d
    obtain⟨m,h,f,_,_⟩:=Ze g;subst e f;exact .inr ⟨rfl,by show j<j+1+m;lia⟩
   .cases d
theorem jH(p):∀(i:Nat) (rs:List (List Nat)),(zK p i rs).Pairwise lex
 | i,[]=>by simp[zK]
 | i,t::r=>by
  simp only[zK];rw[OJ];refine⟨zfg p i 0 t,jH p (i+1) r,λa f b g=>?_⟩;obtain⟨m,c,e,_,_⟩:=Ze f;obtain⟨k,j,u,h,d,_,_,_⟩:=yW g;subst e d;exact .inl (by show i<i+1+k;lia)
def zm8{rs:List (List Nat)}(h:∀r c,r<n->f (r,c)=false):(zK p 0 (rs.take n)).filter f=[]:=by
 rw[VI];intro x b;obtain⟨k,j,t,c,e,hk,_,_⟩:=yW b;have a:k<n:=by
  have:=(X6.mp hk).1;rw[XH]at this;lia
 subst e;rw[h _ _ "a"];exact XJ
def zly(h:∀r c,n<=r->f (r,c)=false):(zK p 0 (rs.take n)).filter f=(zK p 0 rs).filter f:=by
 by_cases d:n<=rs.length
 .have e:=Xc n rs;have a:zK p 0 rs=zK p 0 (rs.take n)++zK p (0+(rs.take n).length) (rs.drop n):=by rw[<- YZ,e]
  rw[a,WJ];have z:(zK p (0+(rs.take n).length) (rs.drop n)).filter f=[]:=by
   rw[VI];intro x b;obtain⟨k,j,t,c,e,hk,_,_⟩:=yW b;subst e;rw[XH,h _ _ "a"];exact XJ
  rw[z,W5]
 .rw[Wd "a"]
def zm9{t:List Nat}(h:∀c,c<n->f (i,c)=false):(qh p i 0 (t.take n)).filter f=[]:=by
 rw[VI];intro x d;obtain⟨m,c,e,a,_⟩:=Ze d;have b:m<n:=by
  have:=(X6.mp a).1;rw[XH]at this;lia
 subst e;rw[h _ "a"];exact XJ
def zlz(h:∀c,n<=c->f (i,c)=false):(qh p i 0 (t.take n)).filter f=(qh p i 0 t).filter f:=by
 by_cases g:n<=t.length
 .have e:=Xc n t;have a:qh p i 0 t=qh p i 0 (t.take n)++qh p i (0+(t.take n).length) (t.drop n):=by rw[<- YY,e]
  rw[a,WJ];have z:(qh p i (0+(t.take n).length) (t.drop n)).filter f=[]:=by
   rw[VI];intro x b;obtain⟨m,c,e,d,_⟩:=Ze b;subst e;rw[XH,h _ "a"];exact XJ
  rw[z,W5]
 .rw[Wd "a"]
end Cells
namespace Parts
abbrev C:=AA
structure Good (cl:C->List C)(done:List C)(gs:List (List C)):Prop where
 ne:∀g∈gs,g ≠ []
 nd:gs.flatten.Nodup
 from_:∀x∈gs.flatten,∃o∈done,x∈cl o
 cov:∀o∈done,cl o ≠ []->∃g∈gs,∀x∈cl o,x∈g
 con:∀g∈gs,∀S:C->Prop,(∀o∈done,(∃x∈cl o,S x)->∀x∈cl o,S x)->(∃x∈g,S x)->∀x∈g,S x
 srt:∀g∈gs,g.Pairwise Cells.lex
def Good.start(a):Good a [] []:=⟨(λ_ h=>nomatch h),UH,(λ_ h=>nomatch h),(λ_ h=>nomatch h),(λ_ h=>nomatch h),(λ_ h=>nomatch h)⟩
def Good.skip(G:Good a done gs)(h:a o=[]):Good a (done++[o]) gs:=by
 refine⟨G.ne,G.nd,λx b=>?_,λp hp c=>?_,λg f S d=>G.con g f S λp hp=>d p (Xa _ hp),G.srt⟩
 .obtain⟨p,hp,b⟩:=G.from_ x b;exact⟨p,Xa _ hp,b⟩
 .rcases XV.mp hp with hp | hp
  .exact G.cov p hp c
  .have e:p=o:=by simpa using hp
   subst e;exact absurd h c
def zb1{gs:List (List C)}(j:gs.flatten.Nodup):∀{g g':List C} {x:C},g∈gs->g'∈gs->x∈g->x∈g'->g=g':=by
 induction gs with
 | nil=>intro g g' x h;cases h
 | cons a r l =>
  rw[WF,WE]at j;obtain⟨_,h2,i⟩:=j;intro g g' x k c e b;rcases XG.mp k with f | g1
  .rcases XG.mp c with d | g2
   .rw[f,d]
   .exact absurd rfl (i x (f ▸ e) x (WD.mpr ⟨g',g2,b⟩))
  .rcases XG.mp c with d | g2
   .exact absurd rfl (i x (d ▸ b) x (WD.mpr ⟨g,g1,e⟩))
   .exact l h2 g1 g2 e b
theorem jn(p):∀gs:List (List C),(gs.filter p).flatten.Sublist gs.flatten
 | []=>List.Sublist.refl _
 | a::r=>by
  rw[V5,WF];split
  .rw[WF];exact List.Sublist.append (List.Sublist.refl _) (jn p r)
  .exact List.Sublist.trans (jn p r) (List.sublist_append_right _ _)
def meets(a g:List C):Bool:=!(g.filter λc=>a.any λx=>decide (x=c)).isEmpty
def Yq:meets a g=true ↔ ∃x∈g,x∈a:=by
 unfold meets;rw[V4,Rp];constructor
 .intro h;obtain⟨x,b⟩:=Uz _ h;rw[XW,WH]at b;obtain⟨h1,y,h2,d⟩:=b;have e:y=x:=bg d;subst e;exact⟨y,h1,h2⟩
 .rintro⟨x,h1,h2⟩ hn;have:x∈g.filter λc=>a.any λx=>decide (x=c):=XW.mpr ⟨h1,WH.mpr ⟨x,h2,br rfl⟩⟩;rw[hn]at this;cases this
def whole(w:List C):List (List C)->List C
 | []=>w
 | g::r=>whole (w++g.filter λc=>!(w.any λx=>decide (x=c))) r
def zbf(w:List C)(c):(w.any λx=>decide (x=c))=true↔c∈w:=by
 rw[WH];constructor
 .rintro⟨x,h1,h2⟩;have e:x=c:=bg h2;subst e;exact h1
 .intro h;exact⟨c,h,br rfl⟩
theorem zb2:∀{w:List C} {b:List (List C)},x∈whole w b↔x∈w\/∃m∈b,x∈m
 | w,[]=>by simp[whole]
 | w,g::r=>by
  rw[whole,zb2,XV,XW];constructor
  .rintro((h | ⟨h,_⟩) | ⟨m,hm,h⟩)
   .exact .inl h
   .exact .inr ⟨g,XU,h⟩
   .exact .inr ⟨m,XS _ hm,h⟩
  .rintro(h | ⟨m,hm,h⟩)
   .exact .inl (.inl h)
   .rcases XG.mp hm with rfl | hm
    .by_cases a:x∈w
     .exact .inl (.inl a)
     .refine .inl (.inr ⟨h,?_⟩);rw[V4,WY];exact λz=>a ((zbf w x).mp z)
    .exact .inr ⟨m,hm,h⟩
theorem QO:∀{w:List C} {i:List (List C)},w.Nodup->(∀m∈i,m.Nodup)->(whole w i).Nodup
 | w,[],h,_=>h
 | w,g::r,h,f=>by
  rw[whole];refine QO ?_ λm d=>f m (XS _ d);rw[WE];refine⟨h,(f g XU).sublist Xn,λa j b k e=>?_⟩;subst e;have c:=(XW.mp k).2;rw[(zbf w a).mpr j]at c;cases c
def Good.step(G:Good c done gs)(h:c o ≠ [])(N:(c o).Nodup)(D:d=gs.filter λg=>!((gs.filter (meets (c o))).any λm=>decide (m=g)))
  (E:w.Perm (whole (c o) (gs.filter (meets (c o))))) (O:w.Pairwise Cells.lex):Good c (done++[o]) (d++[w]):=by
 have n:∀g,g∈d↔g∈gs/\¬ ∃x∈g,x∈c o:=λg=>by
  rw[D,XW,V4,WY];constructor
  .rintro⟨h1,h2⟩;exact⟨h1,λj=>h2 (WH.mpr ⟨g,XW.mpr ⟨h1,Yq.mpr j⟩,br rfl⟩)⟩
  .rintro⟨h1,h2⟩;refine⟨h1,λj=>?_⟩;obtain⟨m,i,e⟩:=WH.mp j;have H:m=g:=bg e;subst H;exact h2 (Yq.mp (XW.mp i).2)
 have mw:∀x,x∈w↔x∈c o\/∃g∈gs,(∃y∈g,y∈c o)/\x∈g:=λx=>by
  rw[E.mem_iff,zb2];constructor
  .rintro(h1 | ⟨m,i,h1⟩)
   .exact .inl h1
   .obtain⟨h2,j⟩:=XW.mp i;exact .inr ⟨m,h2,Yq.mp j,h1⟩
  .rintro(h1 | ⟨g,h2,j,h1⟩)
   .exact .inl h1
   .exact .inr ⟨g,XW.mpr ⟨h2,Yq.mpr j⟩,h1⟩
 have J:∀g∈gs,g.Nodup:=λg hg=>G.nd.sublist (UO hg);have U:w.Nodup:=E.nodup_iff.mpr (QO N λm i=>J m (XW.mp i).1);refine⟨λg hg=>?_,?_,λx hx=>?_,λp hp u=>?_,λg hg S B=>?_,λg hg=>?_⟩
 .rcases XV.mp hg with hg | hg
  .exact G.ne g ((n g).mp hg).1
  .have e:g=w:=by simpa using hg
   subst e;obtain⟨x,hx⟩:=Uz _ h;exact T3 ((mw x).mpr (.inl hx))
 .rw[Vn,WE];refine⟨G.nd.sublist (by rw[D];exact jn _ gs),↑U,λa L b M e=>?_⟩;subst e;have s:a∈w:=by simpa using M
  obtain⟨g,hg,hx⟩:=WD.mp L;obtain⟨g1,g2⟩:=(n g).mp hg;rcases(mw a).mp s with h1 | ⟨m,q,T,r⟩
  .exact g2 ⟨a,hx,h1⟩
  .have e:=zb1 G.nd g1 q hx r;subst e;exact g2 T
 .rw[Vn]at hx;rcases XV.mp hx with hx | hx
  .obtain⟨g,hg,hx⟩:=WD.mp hx;obtain⟨p,hp,hx⟩:=G.from_ x (WD.mpr ⟨g,((n g).mp hg).1,hx⟩);exact⟨p,Xa _ hp,hx⟩
  .have l:x∈w:=by simpa using hx
   rcases(mw x).mp l with h1 | ⟨g,g1,_,I⟩
   .exact⟨o,"s",h1⟩
   .obtain⟨p,hp,hx⟩:=G.from_ x (WD.mpr ⟨g,g1,I⟩);exact⟨p,Xa _ hp,hx⟩
 .rcases XV.mp hp with hp | hp
  .obtain⟨g,hg,hx⟩:=G.cov p hp u;by_cases i:∃x∈g,x∈c o
   .exact⟨w,"s",λx l=>(mw x).mpr (.inr ⟨g,hg,i,hx x l⟩)⟩
   .exact⟨g,Xa _ ((n g).mpr ⟨hg,i⟩),hx⟩
  .have e:p=o:=by simpa using hp
   subst e;exact⟨w,"s",λx hx=>(mw x).mpr (.inl hx)⟩
 .have k:∀p∈done,(∃x∈c p,S x)->∀x∈c p,S x:=λp hp=>B p (Xa _ hp);rcases XV.mp hg with hg | hg
  .exact G.con g ((n g).mp hg).1 S k
  .have e:g=w:=by simpa using hg
   subst e;rintro⟨x,hx,sx⟩;have f:∀y∈c o,S y:=by
    refine B o "s" ?_;rcases(mw x).mp hx with h1 | ⟨m,q,⟨y,v,A⟩,r⟩
    .exact⟨x,h1,sx⟩
    .exact⟨y,A,G.con m q S k ⟨x,r,sx⟩ y v⟩
   intro z Q;rcases(mw z).mp Q with h1 | ⟨m,q,⟨y,v,A⟩,r⟩
   .exact f z h1
   .exact G.con m q S k ⟨y,v,f y A⟩ z r
 .rcases XV.mp hg with hg | hg
  .exact G.srt g ((n g).mp hg).1
  .have e:g=w:=by simpa using hg
   subst e;exact O
def Good.perm(G:Good c done gs)(h:gs'.Perm gs):Good c done gs':=by
 refine⟨λg a=>G.ne g (h.mem_iff.mp a),h.flatten.nodup_iff.mpr G.nd,λx b=>G.from_ x (h.flatten.mem_iff.mp b),λo e d=>?_,λg a=>G.con g (h.mem_iff.mp a),λg a=>G.srt g (h.mem_iff.mp a)⟩;obtain⟨g,a,b⟩:=G.cov o e d;exact⟨g,h.mem_iff.mpr a,b⟩
theorem Yr:∀{gs:List (List C)},(∀g∈gs,g ≠ [])->gs.length<=gs.flatten.length
 | [],_=>XQ _
 | g::r,h=>by
  have b:=Yr (gs:=r) λx a=>h x (XS _ a);have:1<=g.length:=Ui.mpr (h g XU);rw[WF,XZ,Xf];lia
theorem yF:∀{a b:List C},a.Nodup->(∀x∈a,x∈b)->a.length<=b.length
 | [],_,_,_=>W2 _
 | x::r,b,h,s=>by
  obtain⟨h1,h2⟩:=V8.mp h;have c:=s x XU;have f:=yF (a:=r) (b:=b.erase x) h2 λy d=>(List.mem_erase_of_ne (λ(e:y=x)=>h1 (by rw[<- e];exact d))).mpr (s y (XS _ d));rw[List.length_erase_of_mem c]at f;have:=US c;rw[Xf];lia
end Parts
namespace Choose
def ch:Nat->Nat->Nat
 | _,0=>1
 | 0,_+1=>0
 | n+1,k+1=>ch n k+ch n (k+1)
def zbg(n):ch n 0=1:=by cases n<;>rfl
theorem zcY:∀n k:Nat,(k+1)*ch n (k+1)+k*ch n k=n*ch n k
 | 0,0=>rfl
 | 0,k+1=>by
  show (k+1+1)*0+(k+1)*0=0*0;simp
 | n+1,0=>by
  have h:=zcY n 0;rw[zbg]at h ⊢;show (0+1)*(ch n 0+ch n (0+1))+0*1=(n+1)*1;rw[zbg];lia
 | n+1,j+1=>by
  have h1:=zcY n (j+1);have h2:=zcY n j;show (j+1+1)*(ch n (j+1)+ch n (j+1+1))+(j+1)*(ch n j+ch n (j+1))=(n+1)*(ch n j+ch n (j+1));generalize ch n (j+1+1)=C2 at *
  generalize ch n (j+1)=C1 at *
  generalize ch n j=C0 at *
  simp only[Nat.add_mul,Nat.mul_add,Nat.one_mul]at *
  lia
def zpn(h:k<n):(ch n k:Int)*((n:Int)-k)/((k:Int)+1)=ch n (k+1):=by
 have e:=zcY n k;have a:(ch n k:Int)*((n:Int)-k)=(ch n (k+1):Int)*((k:Int)+1):=by
  have:((k+1)*ch n (k+1)+k*ch n k:Int)=(n*ch n k:Int):=by exact_mod_cast e
  rw[Int.mul_sub,Pu (ch n k:Int) n,<- this,Pu (ch n (k+1):Int) ((k:Int)+1),Pu (ch n k:Int) (k:Int)];lia
 rw[a];exact Int.mul_ediv_cancel _ "a"
def zqv(n):∀k,ch n k<=2^n:=by
 induction n with
 | zero =>
  intro k;cases k with
  | zero=>decide
  | succ k =>
   show (0:Nat)<=2^0;decide
 | succ n a =>
  intro k;cases k with
  | zero =>
   rw[zbg];exact Nat.one_le_two_pow
  | succ k =>
   show ch n k+ch n (k+1)<=2^(n+1);rw[N2];have:=a k;have:=a (k+1);lia
end Choose
namespace K63
open PySem L2
variable {P:Xu}{w:W9}{K:X4}{mg:Str->Option X9}{base:Heap}{f:Addr}{fd:XI}{jaa jab jac jad jae jaf jag jah jai jaj:Addr}
abbrev top (i:Nat):Stmt:=Zm.top i
abbrev Y4:Stmt:=top 17
abbrev xN:Stmt:=top 18
abbrev ZS:Stmt:=top 19
abbrev Ys:Stmt:=top 20
abbrev qY:Stmt:=top 21
abbrev j7:Stmt:=top 22
abbrev jN:Stmt:=top 23
abbrev zbh:Stmt:=top 24
abbrev qx:Stmt:=top 25
abbrev qG:Stmt:=top 26
abbrev Y5:Stmt:=top 31
abbrev ZT:Stmt:=top 32
abbrev ZU:Stmt:=top 33
abbrev yG:Stmt:=top 34
abbrev Y6:Stmt:=top 35
abbrev zcZ:Stmt:=top 37
abbrev QS:Stmt:=top 38
abbrev zkj:Stmt:=top 39
abbrev yH:Stmt:=top 40
abbrev J3:Stmt:=top 41
abbrev ja:Stmt:=top 42
abbrev yq:Stmt:=top 45
abbrev x6:Stmt:=top 46
abbrev Zf:Stmt:=top 47
abbrev Jr:Stmt:=top 48
abbrev Zg:Stmt:=top 49
abbrev J4:Stmt:=top 50
abbrev zag:Stmt:=top 52
abbrev zbi:Stmt:=top 53
abbrev Js:Stmt:=top 55
abbrev zc0:Stmt:=top 56
abbrev yI:Stmt:=top 57
abbrev J5:Stmt:=top 58
abbrev zc1:Stmt:=top 59
abbrev Y7:Stmt:=top 61
abbrev jo:Stmt:=top 62
abbrev zbj:Stmt:=top 64
abbrev J6:Stmt:=top 65
abbrev zf7:Stmt:=top 66
abbrev Y8:Stmt:=top 69
abbrev Y9:Stmt:=top 70
abbrev Jt:Stmt:=top 71
abbrev zbk:Stmt:=top 72
abbrev Yt:Stmt:=top 73
abbrev Qa:Stmt:=top 76
abbrev ZV:Stmt:=top 77
abbrev Ju:Stmt:=top 78
abbrev J7:Stmt:=top 79
abbrev zcl:Stmt:=top 81
abbrev Jv:Stmt:=top 82
abbrev yc:Stmt:=top 84
abbrev JD:Stmt:=top 85
abbrev ZW:Stmt:=top 86
abbrev J8:Stmt:=top 87
abbrev ZX:Stmt:=top 88
abbrev Qc:Stmt:=top 90
abbrev zah:Stmt:=top 91
abbrev Qd:Stmt:=top 92
abbrev zhu:Stmt:=top 93
structure Txt (mg:Str->Option X9):Prop where
 zf8:mg "ValueError"=none
 zuC:mg "abs"=none
 zkk:mg "any"=none
 zdD:mg "dict"=none
 je:mg "enumerate"=none
 ztl:mg "int"=none
 qP:mg "isinstance"=none
 qQ:mg "len"=none
 zdE:mg "list"=none
 zna:mg "max"=none
 zkl:mg "min"=none
 xO:mg "range"=none
 ztm:mg "set"=none
 Zx:mg "sorted"=none
 ztn:mg "str"=none
 zqw:mg "sum"=none
 zpo:mg "tuple"=none
 zto:mg "zip"=none
 zqx:∃t,mg "ALL"=some (.str "all" t)
 zeq:∃t,mg "BOARD_SIGNS"=some (.str "?012345678#" t)
 J9:∃t,mg "CLEAR_SIGN"=some (.str "." t)/\t≠0/\t<448
 Z7:∃t,mg "CLOSED_SIGN"=some (.str "?" t)
 zer:∃t,mg "FIELD_SIGNS"=some (.str ".o#" t)
 QT:∃t,mg "LONGEST_SIDE"=some (.int 8 t)
 zdF:∃t,mg "MOST_OF_PART"=some (.int 14 t)
 zes:∃t,mg "MOST_STONES"=some (.int 64 t)
 zet:∃t,mg "MOST_THINGS"=some (.int 30 t)
 QU:∃t,mg "NO_CELL_SIGN"=some (.str "#" t)
 Za:∃t,mg "STONE_SIGN"=some (.str "o" t)/\t≠0/\t<448
def Mq(K:X4)(mg:Str->Option X9)(n:Str)(s:Stmt)(p:List Str):=∃f fd,zh K mg n s p f fd
structure Prog (K:X4)(mg:Str->Option X9):Prop where
 board_of:Mq K mg "board_of" Y4 ["rows","stones"]
 checked_rows:Mq K mg "checked_rows" xN ["rows","signs"]
 check_row:Mq K mg "check_row" ZS ["row","length","signs"]
 closed:Mq K mg "closed" Ys ["board"]
 open_cells:Mq K mg "open_cells" qY ["board"]
 around:Mq K mg "around" j7 ["board","cell"]
 number_at:Mq K mg "number_at" jN ["board","cell"]
 opened:Mq K mg "opened" zbh ["board","numbers"]
 cells_of:Mq K mg "cells_of" qx ["board"]
 sign_at:Mq K mg "sign_at" qG ["board","cell"]
 field_of:Mq K mg "field_of" Y5 ["rows"]
 stones_of:Mq K mg "stones_of" ZT ["field"]
 clears_of:Mq K mg "clears_of" ZU ["field"]
 cells_with:Mq K mg "cells_with" yG ["field","sign"]
 board_at:Mq K mg "board_at" Y6 ["field","cells"]
 parts:Mq K mg "parts" zcZ ["board"]
 joined:Mq K mg "joined" QS ["groups","cells"]
 far:Mq K mg "far" zkj ["board"]
 numbers_of:Mq K mg "numbers_of" yH ["board","part"]
 bare_wrong:Mq K mg "bare_wrong" J3 ["board"]
 closed_around:Mq K mg "closed_around" ja ["board","cell"]
 part_layings:Mq K mg "part_layings" yq ["board","part"]
 needs_at:Mq K mg "needs_at" x6 ["told","cell","rest"]
 may_fit:Mq K mg "may_fit" Zf ["needs","pick"]
 part_counts:Mq K mg "part_counts" Jr ["board","part"]
 counted:Mq K mg "counted" Zg ["found","greatest"]
 counted_at:Mq K mg "counted_at" J4 ["found","greatest","cell"]
 choices:Mq K mg "choices" zag ["n","k"]
 poured:Mq K mg "poured" zbi ["one","other"]
 near_counts:Mq K mg "near_counts" Js ["board"]
 count:Mq K mg "count" zc0 ["board"]
 counts_by_cell:Mq K mg "counts_by_cell" yI ["board"]
 all_poured:Mq K mg "all_poured" J5 ["lists"]
 dealt:Mq K mg "dealt" zc1 ["counts","cells","stones"]
 fraction:Mq K mg "fraction" Y7 ["top","bottom"]
 greatest_divisor:Mq K mg "greatest_divisor" jo ["number","bottom"]
 shares:Mq K mg "shares" zbj ["board"]
 some_count:Mq K mg "some_count" J6 ["board"]
 sure:Mq K mg "sure" zf7 ["board"]
 asked_by:Mq K mg "asked_by" Y8 ["board","thing"]
 known_of:Mq K mg "known_of" Y9 ["finding"]
 still_asked:Mq K mg "still_asked" Jt ["asked","known"]
 gained:Mq K mg "gained" zbk ["asked"]
 settled:Mq K mg "settled" Yt ["regions"]
 thoughts:Mq K mg "thoughts" Qa ["board"]
 all_steps:Mq K mg "all_steps" ZV ["board","things"]
 place_lists:Mq K mg "place_lists" Ju ["asked"]
 first_step:Mq K mg "first_step" J7 ["things","asked","lists","finding"]
 run:∃(f:Addr) (fd:XI),zb0 K mg "run" zcl ["field","first","way"] "sure" f fd
 found_clear:Mq K mg "found_clear" Jv ["board","way"]
 law_cell_at:Mq K mg "_law_cell_at" yc ["_law_script","_law_k"]
 law_mixed:Mq K mg "_law_mixed" JD ["_law_cell","_law_k"]
 law_field:Mq K mg "_law_field" ZW ["_law_script","_law_most"]
 law_corner:Mq K mg "_law_corner" J8 ["_law_script"]
 law_cells:Mq K mg "_law_cells" ZX ["_law_rows","_law_signs"]
 law_safe:Mq K mg "_law_safe" Qc ["_law_board"]
 law_due:Mq K mg "_law_due" zah ["_law_field_here","_law_clears","_law_first"]
 law_told:Mq K mg "_law_told" Qd ["_law_field_here","_law_first"]
def zf9(K:X4):Sp:=λc H Q _=>∃(a:Addr) (b:List Int) (k:Int),c=[.ref a,.int k]/\SqL K H a (b.map V.int)/\0<=k/\∀z:Int,Q (.int z) H
structure Row (NK:List Nat)(n:Nat)(t:Str):Prop where
 len:t.cps.size=n
 mem:∀c∈t.cps.toList,c∈NK
structure Rows (NK:List Nat)(rs:AD):Prop where
 lo:1<=rs.length
 hi:rs.length<=8
 ex:∃n,1<=n/\n<=8/\∀t∈rs,Row NK n t
def bd:Str:="?012345678#"
def zdG:zD ["_law_script","_law_k"] ["_law_script","_law_k"] (zv yc):=bh
def Zy(T:Txt mg)(D:zh K mg "_law_cell_at" yc ["_law_script","_law_k"] f fd):qm P w K mg base CX0 1 f fd ["_law_script","_law_k"] (zf9 K):=by
 refine D.F.ok zdG "l" (λj A d s H n Q E o h=>?_)
 .revert h;refine gb λa b i z0 e l k=>?_;subst z0;refine⟨_,(ze (qH (zI zi3 (pvS 1) (pb1 zH T.qQ Xl (pvS 0)) (zT _)) (zg (zF (zQ jk (pvS 0) (pvS 1) (λ_ _=>rfl)))) zV) (@zg _ _ _ (@zF _ _ _ _ zf))),?_⟩;ac_nf;refine⟨_,rfl,_,rfl,a,_,rfl,.inl e,_,_,rfl,rfl,_,rfl,?_⟩;refine QH (λc=>?_) (λc=>?_)
  .have g:i<((b.map V.int).length:Nat):=bg c;rw[ZB]at g;have m:i.toNat<b.length:="a"
   refine⟨_,rfl,_,rfl,a,_,i,.int b[i.toNat],rfl,rfl,e,Z5 l (by rw[Xp,X0 m];rfl),?_⟩;exact k _
  .exact k 0
structure qd (H:Hp)(p l:Addr)(rs:AD)(n:Int):Prop where
 tp:H p=some (.tup [.ref l,.int n])
 rw:H l=some (.lst (rs.map V.str))
def znb:∀c∈bd.cps.toList,c<1114112:="q"
def zpp(r:Row bd.cps.toList n t):Ws (.str t)=true:=by
 show t.cps.all (· < 0x110000)=true;rw[Array.all_eq_true'];intro c a;exact br (znb c (r.mem c (Sd.mpr a)))
def zhv{rs:AD}(h:∀t∈rs,Row bd.cps.toList n t):Wv (rs.map V1)=true:=by
 induction rs with
 | nil=>rfl
 | cons t r b =>
  show (Ws (.str t)&&Wv (r.map V1))=true;rw[zpp (h t XU),b λu a=>h u (XS _ a)];rfl
def Qe(rs:AD):Wl (rs.map V1)=0:=by
 induction rs with
 | nil=>rfl
 | cons t r a =>
  show max (PyData.depth (.str t)) (Wl (r.map V1))=0;rw[a];rfl
def Rows.cmp(R:Rows bd.cps.toList rs):zfL (.list (rs.map V1)) (.list (rs.map V1)):=by
 obtain⟨n,_,_,h⟩:=R.ex;refine⟨zhv h,zhv h,?_⟩;show Wl (rs.map V1)+1<=64;rw[Qe];decide
def bData(rs:AD)(n:Int):Wh:=.tuple [.list (rs.map V1),.int n]
def Rows.cmpB(R:Rows bd.cps.toList rs)(n):zfL (bData rs n) (bData rs n):=by
 have c:=R.cmp;have h1:Ws (bData rs n)=true:=by
  show (Ws (.list (rs.map V1))&&(Ws (.int n)&&true))=true;rw[c.l1];rfl
 refine⟨h1,h1,?_⟩;show max (Wl (rs.map V1)+1) (max 0 0)+1<=64;rw[Qe];decide
def qd.rdv(b:qd H p l rs n):Rdv K H (.ref p) (bData rs n):=.tup (SqT.of b.tp) (.cons (.lst (SqL.of b.rw) (za4 rs)) (.cons (.int n) .nil))
def Rows.mono(R:Rows s rs)(h:∀c∈s,c∈s'):Rows s' rs :=
 ⟨R.lo,R.hi,let ⟨n,a,b,q⟩:=R.ex;⟨n,a,b,λt d=>⟨(q t d).len,λc e=>h c ((q t d).mem c e)⟩⟩⟩
def qd.mono(b:qd H p l rs n)(s:zx H a):qd a p l rs n:=⟨s _ _ b.tp,s _ _ b.rw⟩
def codes(rs:AD):List (List Nat):=rs.map λt=>t.cps.toList
def qL{i:Nat}(h:rs[i]?=some t):(codes rs)[i]?=some t.cps.toList:=by
 unfold codes;rw[Xp,h];rfl
def Yu{i:Nat}(h:(codes rs)[i]?=some u):∃t,rs[i]?=some t/\u=t.cps.toList:=by
 unfold codes at h;rw[Xp]at h;cases e:rs[i]? with
 | none =>
  rw[e]at h;cases h
 | some t =>
  rw[e]at h;cases h;exact⟨t,rfl,rfl⟩
def jf(rs):(codes rs).length=rs.length:=by
 unfold codes;rw[ZB]
def Rows.short(R:Rows s rs):∀u∈codes rs,u.length<=8:=λu b=>by
 obtain⟨t,a,rfl⟩:=XE.mp b;obtain⟨n,_,c,q⟩:=R.ex;have:=(q t a).len;rw[XX];lia
def Rows.tlen{i:Nat}(R:Rows s rs)(h:rs[i]?=some t):t.length<=Xz:=by
 obtain⟨n,_,a,q⟩:=R.ex;have e:t.length=n:=(q t (X7 h)).len;rw[e];exact X5 a "d"
def xP(H:Hp)(v:V)(c:AA):Prop:=∃a,v=V.ref a/\H a=some (.tup [.int (c.1:Nat),.int (c.2:Nat)])
def Cel(H:Hp):AE->AB->Prop:=Xk (xP H)
def Cel.mono(s:zx H b)(c:Cel H vs cs):Cel b vs cs:=by
 induction c with
 | nil=>exact .nil
 | cons q _ d =>
  obtain⟨a,e,h⟩:=q;exact .cons ⟨a,e,s _ _ h⟩ d
theorem Cel.snoc(h:Cel H vs cs)(x:xP H v c):Cel H (vs++[v]) (cs++[c]):=Paired.snoc h x
def Cel.append(h:Cel H vs cs)(k:Cel H b a):Cel H (vs++b) (cs++a):=zbR h k
def Cel.into(z)(o)(hz:H z=some (.lst b))(c:Cel H vs cs):Cel (upd H z o) vs cs:=by
 induction c with
 | nil=>exact .nil
 | cons q _ d =>
  obtain⟨a,e,h⟩:=q;exact .cons ⟨a,e,by rw[zq (zeQ h hz (by intro y;cases y))];exact h⟩ d
theorem Cel.length(h:Cel H vs cs):vs.length=cs.length:=Paired.length h
theorem Cel.get:∀{vs:AE} {cs:AB} {i:Nat} {v:V},Cel H vs cs->vs[i]?=some v->∃c,cs[i]?=some c/\xP H v c
 | _,_,_,_,.nil,e=>by simp at e
 | _,_,0,_,.cons r _,e=>by
  simp at e;subst e;exact⟨_,rfl,r⟩
 | _,_,i+1,v,.cons _ t,e=>by
  obtain⟨c,h1,h2⟩:=Cel.get (i:=i) (v:=v) t ↑e;exact⟨c,↑h1,h2⟩
def zA(c:AA):Wh:=.tuple [.int (c.1:Nat),.int (c.2:Nat)]
def xP.rdv(h:xP H v c):Rdv K H v (zA c):=by
 obtain⟨a,rfl,h⟩:=h;exact .tup (SqT.of h) (.cons (.int _) (.cons (.int _) .nil))
def zlA(c d):zfL (zA c) (zA d):=⟨rfl,rfl,by show max 0 (max 0 0)+1<=64;decide⟩
def zfh(c d):WW (zA c) (zA d)=decide (c=d):=by
 obtain⟨a,b⟩:=c;obtain⟨x,y⟩:=d;show ((((a:Nat):Int)==((x:Nat):Int))&&((((b:Nat):Int)==((y:Nat):Int))&&true))=decide ((a,b)=(x,y));by_cases h1:a=x
 .by_cases h2:b=y
  .subst h1 h2;simp
  .have:¬ ((b:Int)=(y:Int)):="a"
   simp[h2,this]
 .have:¬ ((a:Int)=(x:Int)):="a"
  simp[h1,this]
def zb3(c k):(V.str ⟨#[c]⟩=V.str ⟨#[k]⟩)=(c=k):=by
 apply propext;constructor
 .intro h;have h2:(⟨#[c]⟩:Str)=⟨#[k]⟩:=V.str.inj h;have a:(#[c]:Array Nat)=#[k]:=congrArg Str.cps h2;simpa using a
 .rintro rfl;rfl
def YW:("#":Str)=⟨#[35]⟩:="q"
def zdH:("?":Str)=⟨#[63]⟩:="q"
def zU(c:Nat):Bool:=!decide (c=35)
def Zz(c:Nat):Bool:=decide (c=63)
def Qw(c:Nat):Bool:=zU c && !decide (c=63)
def zrN:Sp:=λb H Q _=>∃(p l c:Addr) (a:AD) (n:Int) (i j:Nat) (t:Str) (k:Nat),b=[.ref p,.ref c]/\qd H p l a n/\H c=some (.tup [.int (i:Nat),.int (j:Nat)])/\a[i]?=some t/\t.cps.toList[j]?=some k/\t.length<=Xz/\Q (.str ⟨#[k]⟩) H
def zga(p:Nat->Bool):Sp:=λf H Q _=>∃(a l:Addr) (c:AD) (n:Int),f=[.ref a]/\qd H a l c n/\Rows bd.cps.toList c /\
 ∀(d:Addr) (e:AE) (b:Hp),H d=none->b d=some (.lst e)->Cel b e (Cells.zK p 0 (codes c))->zx H b->Q (.ref d) b
def zpq(p:Nat->Bool):Sp:=λg H Q _=>∃(a l:Addr) (c:AD) (n:Int),g=[.ref a]/\qd H a l c n/\(∃f,Rows f c) /\
 ∀(d:Addr) (e:AE) (b:Hp),H d=none->b d=some (.lst e)->Cel b e (Cells.zK p 0 (codes c))->zx H b->Q (.ref d) b
def znc:Sp:=λb H Q _=>∃(p l c:Addr) (a:AD) (n:Int) (i j:Nat) (t:Str) (k:Nat),b=[.ref p,.ref c]/\qd H p l a n/\H c=some (.tup [.int (i:Nat),.int (j:Nat)])/\a[i]?=some t/\t.cps.toList[j]?=some k/\t.length<=Xz/\48<=k/\k<=56/\Q (.int ((k:Int)-48)) H
def int_sign(h1:48<=k)(h2:k<=56):OQ ⟨#[k]⟩=some ((k:Int)-48):=by
 have:∀k∈VU 57,48<=k->OQ ⟨#[k]⟩=some ((k:Int)-48):="q"
 exact this k (We.mpr "a") h1
def zi8:zD ["board","cell"] ["board","cell"] (zv qG):=bh
def ZA(D:zh K mg "sign_at" qG ["board","cell"] f fd):qm P w K mg base CX0 1 f fd ["board","cell"] zrN:=by
 refine D.F.ok zi8 "l" (λe A a s H u Q E x h=>?_)
 .revert h;refine gJ λp l c r n i j t k z0 b d g=>fX λm o q=>?_;subst z0;refine⟨_,(zg (zF (zQ zbc (zQ jk (zQ qk (pvS 0) zf (λ_ _=>rfl)) (zQ qk (pvS 1) zf (λ_ _=>rfl)) (λ_ _=>rfl)) (zQ qk (pvS 1) zf (λ_ _=>rfl)) (λ_ _=>rfl)))),?_⟩;ac_nf;exact⟨_,rfl,p,_,0,_,rfl,rfl,SqT.of b.tp,rfl,_,rfl,c,_,0,_,rfl,rfl,SqT.of d,rfl,l,_,_,_,rfl,rfl,SqL.of b.rw,JZ (v:=V.str t) (by rw[Xp,g];rfl),_,rfl,c,_,1,_,rfl,rfl,SqT.of d,rfl,t,_,k,rfl,rfl,o,JZ m,q⟩
def ZY:zD ["board","found","row","text"] ["board"] (zv qx):=bh
def zbl(T:Txt mg)(D:zh K mg "cells_of" qx ["board"] f fd):qm P w K mg base CX0 1 f fd ["board"] (zpq zU):=by
 refine D.F.ok ZY "l" (λak A aj s H vs Q E hr h=>?_)
 .obtain⟨a,l,rs,n,rfl,b,⟨sg,R⟩,q⟩:=h;refine⟨_,(@ze _ _ _ _ _ (@qv _ _ 1 _ _ _ _ ZY.nd rfl (Wm rfl) (@qa _ _ _ _ zd) "r" (.inr rfl)) (ze (qN Xd rfl (JA "r" T.je (za (zQ qk (pvS 0) zf (λ_ _=>rfl)) zd)) (JH rfl (zY (pgq 2 ZY.nd) (zY (pgq 3 ZY.nd) jR))) (zg (jA (JK WX U9 U8 Yg (pvS 1) (za (pcm ["column","sign","row"] [none,none,some 2] cR (zgW "r" T.je (za (pvS 3) zd)) (zcV (n:=2) (K:=K) "r" rfl (zY (pgN 0) (zY (pgN 1) jR))) (qA (zI zc7 (pvS 1) (jz (v:=.str "#") "r" T.QU.choose_spec (by exact⟨_,rfl⟩)) (zT _))) (qu (za (pvS 2) (za (pvS 0) zd)))) zd))))) (zg (zF (pvS 1))))),?_⟩;ac_nf;refine⟨xo,λd hd=>?_⟩;have s0:zx H (upd H d (.lst [])):=zc hd;refine⟨_,rfl,a,_,0,_,rfl,rfl,SqT.of (b.mono s0).tp,rfl,l,rfl,⟨_,SqL.of (b.mono s0).rw⟩,?_⟩;refine xZ (K:=K) (l:=l) (xs:=rs.map V.str) (λi N I=>∃(v2 v3:Option V) (B:AE),N=[some (.ref a),some (.ref d),v2,v3]/\zx H I/\I d=some (.lst B)/\Cel I B (Cells.zK zU 0 ((codes rs).take i)))
   (dZ _ _ [] rfl s0 zb (.nil)) (λi N I _ ⟨_,_,_,_,s1,_⟩=>SqL.of (b.mono s1).rw) ?_ ?_
  .refine λi x tt N H1 Y ah=>gb λv2 v3 B z0 s1 O r=>?_;subst z0;rw[Xp]at Y;cases e:rs[i]? with
   | none =>
    rw[e]at Y;cases Y
   | some t =>
    rw[e]at Y;cases Y;have al:i<rs.length:=(X6.mp e).1;have st:zx H1 (upd H1 tt (.tup [.int (i:Nat),.str t])):=zc ah;refine eO tt _ rfl (SqT.of zb) rfl _ _ rfl _ _ rfl rfl ?_;have U:upd H1 tt (.tup [.int (i:Nat),.str t]) d=some (.lst B):=st _ _ O;refine⟨_,rfl,.inl ⟨rfl,_,SqL.of U⟩,_,rfl,t,rfl,λz hz=>?_⟩;refine zdg (x:=t) (λj N I=>∃(u0 u1:Option V) (m:AE),N=[u0,u1,some (.int (i:Nat))]/\zx (upd H1 tt (.tup [.int (i:Nat),.str t])) I/\I z=some (.lst m)/\Cel I m (Cells.qh zU i 0 (t.cps.toList.take j)))
     (dZ _ _ [] rfl (zc hz) zb (.nil)) ?_ ?_
    .refine λj c t2 N J hc ag=>gb λu0 u1 m z0 s2 k g=>?_;subst z0;refine eO t2 _ rfl (SqT.of zb) rfl _ _ rfl _ _ rfl rfl ?_;refine⟨_,rfl,rfl,_,rfl,?_⟩;have af:t.cps.toList[j]?=some c:=by rw[W6];exact hc
     have L:zx J (upd J t2 (.tup [.int (j:Nat),.str ⟨#[c]⟩])):=zc ag;have step:=Cells.zaL (p:=zU) (i:=i) af;have ed:(!decide (V.str ⟨#[c]⟩=V.str "#"))=zU c:=by
      rw[YW];simp only[zb3];rfl
     rw[ed];by_cases hp:zU c=true
     .rw[hp]at step;refine ju hp ?_;refine⟨_,rfl,_,rfl,yL,λM ae=>?_⟩;have ai:z≠M:=zj (L _ _ k) ae;have s4:zx (upd J t2 (.tup [.int (j:Nat),.str ⟨#[c]⟩])) (upd (upd J t2 (.tup [.int (j:Nat),.str ⟨#[c]⟩])) M (.tup [.int (i:Nat),.int (j:Nat)])):=zc ae;have ab:m.length<=8:=by
       rw[g.length];refine X5 (Cells.jV _ _ _ _) ?_;have:=R.short _ (X7 (qL e));rw[XH];lia
      refine dX m (s4 _ _ (L _ _ k)) (XM ab "d") (dZ (some (.int (j:Nat))) (some (.str ⟨#[c]⟩)) (m++[.ref M]) rfl (λb' o G=>?_) zb ?_)
      .have hb:b'≠z:=λy=>by
        subst y;rw[hz]at G;cases G
       rw[zq hb];exact s4 _ _ (L _ _ (s2 _ _ G))
      .rw[step];have keep:∀x o,x≠z->upd (upd J t2 (.tup [.int (j:Nat),.str ⟨#[c]⟩])) M (.tup [.int (i:Nat),.int (j:Nat)]) x=some o->upd (upd (upd J t2 (.tup [.int (j:Nat),.str ⟨#[c]⟩])) M (.tup [.int (i:Nat),.int (j:Nat)])) z (.lst (m++[.ref M])) x=some o:=λx o Y G=>by
        rw[zq Y];exact G
       refine Cel.snoc ?_ ⟨M,rfl,keep _ _ ai.symm zb⟩;exact Cel.into z (.lst (m++[.ref M])) (s4 _ _ (L _ _ k)) (Cel.mono s4 (Cel.mono L g))
     .have ac:zU c=false:=by simpa using hp
      rw[ac]at step;refine qZ ac ?_;refine dZ (some (.int (j:Nat))) (some (.str ⟨#[c]⟩)) m rfl (s2.trans L) (L _ _ k) ?_;rw[step];simpa using Cel.mono L g
    .refine λN J=>gb λu0 u1 m z0 s2 k g=>?_;subst z0;have am:d≠z:=zj U hz;have aa:J d=some (.lst B):=s2 _ _ U;have full:t.cps.toList.take t.cps.size=t.cps.toList:=by
      rw[<- XX,XF]
     rw[full]at g;have step:=Cells.zaM (p:=zU) (qL e);have l1:B.length<=64:=by
      rw[r.length];refine X5 (Cells.jc _ _ _ λu hu=>R.short u (VM hu)) ?_;have:=R.hi;rw[XH,jf];lia
     have l2:m.length<=8:=by
      rw[g.length];exact X5 (Cells.jV _ _ _ _) (R.short _ (X7 (qL e)))
     refine eS d z B m rfl rfl aa k (X5 (Nat.add_le_add l1 l2) "d") ?_;refine dZ _ _ (B++m) rfl (λb' o G=>?_) zb ?_
     .have hb:b'≠d:=λy=>by
       subst y;rw[hd]at G;cases G
      rw[zq hb];exact s2 _ _ (st _ _ (s1 _ _ G))
     .rw[step];exact Cel.into d _ aa (Cel.append (Cel.mono s2 (Cel.mono st r)) g)
  .refine λN H1=>gb λv2 v3 B z0 s1 O r=>?_;subst z0;rw[ZB,<- jf,XF]at r;exact⟨_,rfl,q d B H1 hd O r s1⟩
def zco(T:Txt mg)(D:zh K mg "cells_of" qx ["board"] f fd):qm P w K mg base CX0 1 f fd ["board"] (zga zU):=(zbl T D).imp λ_ _ _ _ ⟨a,l,c,n,e,b,R,q⟩=>(fM a l c n e b ⟨_,R⟩ q)
def zpr(c):(zU c&&decide (c=63))=Zz c:=by
 unfold zU Zz;by_cases h:c=63
 .subst h;rfl
 .simp[h]
def zlB:zD ["board"] ["board"] (zv Ys):=bh
def Zh(T:Txt mg)(D:zh K mg "closed" Ys ["board"] f fd)(zB:zh K mg "cells_of" qx ["board"] f1 aa)(zw:zh K mg "sign_at" qG ["board","cell"] f2 ab) :
  qm P w K mg base CX0 2 f fd ["board"] (zga Zz):=by
 refine D.F.ok zlB "l" (λaf A ae s H vs Q E hr h=>?_)
 .revert h;refine gn λa l g n z0 b R q=>?_;subst z0;refine⟨_,(zg (zF (pcm ["cell","board"] [none,some 0] cR (zN (pc0 (zco T zB) hr zB (za (pvS 0) zd))) (pgN 0) (qA (zI xD (pc0 (ZA zw) hr zw (za (pvS 1) (za (pvS 0) zd))) (jz (v:=.str "?") "r" T.Z7.choose_spec (by exact⟨_,rfl⟩)) (zT _))) (pvS 0)))),?_⟩;ac_nf;refine⟨_,rfl,a,l,g,n,rfl,b,R,λd ws H1 hd G I s1=>(dX d rfl ⟨_,SqL.of G⟩ (λz Y=>?_))⟩;have nz:d≠z:=zj G Y;refine qj (K:=K) (a:=d) (xs:=ws) (λi σ O=>∃(u0:Option V) (r:AE),σ=[u0,some (.ref a)]/\zx H1 O/\O z=some (.lst r)/\Cel O r (((Cells.zK zU 0 (codes g)).take i).filter λx=>decide (Cells.sgn (codes g) x=63)))
   (dW _ [] rfl (zc Y) zb (.nil)) (λi σ O _ ⟨_,_,_,B,_⟩=>SqL.of (B _ _ G)) ?_ ?_
  .refine λi x σ H2 hx=>fQ λu0 r z0 B m e=>?_;subst z0;refine fW (λc L ca z0 J=>?_) (Cel.get (Cel.mono B I) hx);subst z0;refine gn (λk0 j u k ec M hj ag=>?_) (Cells.yW (X7 L));refine fR (λt ht z0=>?_) (Yu M);subst z0;rw[VT]at ec;subst ec;refine⟨_,rfl,_,rfl,a,l,ca,g,n,k0,j,t,k,rfl,(b.mono s1).mono B,J,ht,hj,R.tlen ht,rfl,_,rfl,?_⟩;have es:Cells.sgn (codes g) (k0,j)=k:=Cells.Y0 M hj;have step:((Cells.zK zU 0 (codes g)).take (i+1)).filter (λx=>decide (Cells.sgn (codes g) x=63))=((Cells.zK zU 0 (codes g)).take i).filter (λx=>decide (Cells.sgn (codes g) x=63))++(if decide (k=63)=true then [(k0,j)] else []):=by
    rw[XC,L,WJ];congr 1;show OV _ [(k0,j)]=_;rw[V5];try dsimp only
    rw[es];split<;>rfl
   have ed:decide (V.str ⟨#[k]⟩=V.str "?")=decide (k=63):=by
    rw[zdH];simp only[zb3]
   rw[ed];by_cases U:decide (k=63)=true
   .rw[bw U]at step;refine ju U ?_;have N:r.length<=64:=by
     rw[e.length];refine X5 (WP _ _) ?_;rw[XH];have h1:=Cells.jc zU 0 (codes g) R.short;have h2:=R.hi;rw[jf]at h1;lia
    refine⟨_,rfl,r,m,XM N "d",_,r++[.ref ca],rfl,λb' o e'=>?_,zb,?_⟩
    .have hb:b'≠z:=λy=>by
      subst y;rw[Y]at e';cases e'
     rw[zq hb];exact B _ _ e'
    .rw[step];exact Cel.into z _ m (Cel.snoc e ⟨ca,rfl,J⟩)
   .rw[bq U]at step;refine qZ ↑U ?_;refine dW _ r rfl B m ?_;rw[step];simpa using e
  .refine λσ H2=>fQ λu0 r z0 B m e=>?_;subst z0;rw[I.length,XF,Cells.all_filter (p:=zU) (q:=λk=>decide (k=63)) (codes g)]at e;have ac:H z=none:=s1.free Y;exact q z r H2 ac m (by rw[Cells.zcn (q:=Zz) zpr]at e;exact e) (s1.trans B)
def zeu:zD ["board"] ["board"] (zv qY):=bh
def yN(T:Txt mg)(D:zh K mg "open_cells" qY ["board"] f fd)(zB:zh K mg "cells_of" qx ["board"] f1 aa)(zw:zh K mg "sign_at" qG ["board","cell"] f2 ab) :
  qm P w K mg base CX0 2 f fd ["board"] (zga Qw):=by
 refine D.F.ok zeu "l" (λaf A ae s H vs Q E hr h=>?_)
 .revert h;refine gn λa l g n z0 b R q=>?_;subst z0;refine⟨_,(zg (zF (pcm ["cell","board"] [none,some 0] cR (zN (pc0 (zco T zB) hr zB (za (pvS 0) zd))) (pgN 0) (qA (zI zc7 (pc0 (ZA zw) hr zw (za (pvS 1) (za (pvS 0) zd))) (jz (v:=.str "?") "r" T.Z7.choose_spec (by exact⟨_,rfl⟩)) (zT _))) (pvS 0)))),?_⟩;ac_nf;refine⟨_,rfl,a,l,g,n,rfl,b,R,λd ws H1 hd G I s1=>(dX d rfl ⟨_,SqL.of G⟩ (λz Y=>?_))⟩;have nz:d≠z:=zj G Y;refine qj (K:=K) (a:=d) (xs:=ws) (λi σ O=>∃(u0:Option V) (r:AE),σ=[u0,some (.ref a)]/\zx H1 O/\O z=some (.lst r)/\Cel O r (((Cells.zK zU 0 (codes g)).take i).filter λx=>!decide (Cells.sgn (codes g) x=63)))
   (dW _ [] rfl (zc Y) zb (.nil)) (λi σ O _ ⟨_,_,_,B,_⟩=>SqL.of (B _ _ G)) ?_ ?_
  .refine λi x σ H2 hx=>fQ λu0 r z0 B m e=>?_;subst z0;refine fW (λc L ca z0 J=>?_) (Cel.get (Cel.mono B I) hx);subst z0;refine gn (λk0 j u k ec M hj ag=>?_) (Cells.yW (X7 L));refine fR (λt ht z0=>?_) (Yu M);subst z0;rw[VT]at ec;subst ec;refine⟨_,rfl,_,rfl,a,l,ca,g,n,k0,j,t,k,rfl,(b.mono s1).mono B,J,ht,hj,R.tlen ht,rfl,_,rfl,?_⟩;have es:Cells.sgn (codes g) (k0,j)=k:=Cells.Y0 M hj;have step:((Cells.zK zU 0 (codes g)).take (i+1)).filter (λx=>!decide (Cells.sgn (codes g) x=63))=((Cells.zK zU 0 (codes g)).take i).filter (λx=>!decide (Cells.sgn (codes g) x=63))++(if (!decide (k=63))=true then [(k0,j)] else []):=by
    rw[XC,L,WJ];congr 1;show OV _ [(k0,j)]=_;rw[V5];try dsimp only
    rw[es];split<;>rfl
   have ed:(!decide (V.str ⟨#[k]⟩=V.str "?"))=(!decide (k=63)):=by
    rw[zdH];simp only[zb3]
   rw[ed];by_cases U:(!decide (k=63))=true
   .rw[bw U]at step;refine ju U ?_;have N:r.length<=64:=by
     rw[e.length];refine X5 (WP _ _) ?_;rw[XH];have h1:=Cells.jc zU 0 (codes g) R.short;have h2:=R.hi;rw[jf]at h1;lia
    refine⟨_,rfl,r,m,XM N "d",_,r++[.ref ca],rfl,λb' o e'=>?_,zb,?_⟩
    .have hb:b'≠z:=λy=>by
      subst y;rw[Y]at e';cases e'
     rw[zq hb];exact B _ _ e'
    .rw[step];exact Cel.into z _ m (Cel.snoc e ⟨ca,rfl,J⟩)
   .rw[bq U]at step;refine qZ ↑U ?_;refine dW _ r rfl B m ?_;rw[step];simpa using e
  .refine λσ H2=>fQ λu0 r z0 B m e=>?_;subst z0;rw[I.length,XF,Cells.all_filter (p:=zU) (q:=λk=>(!decide (k=63))) (codes g)]at e;have ac:H z=none:=s1.free Y;exact q z r H2 ac m e (s1.trans B)
def zgb:zD ["board","cell"] ["board","cell"] (zv jN):=bh
def Qf(T:Txt mg)(D:zh K mg "number_at" jN ["board","cell"] f fd)(g:zh K mg "sign_at" qG ["board","cell"] o a):qm P w K mg base CX0 2 f fd ["board","cell"] znc:=by
 refine D.F.ok zgb "l" (λm A d s H G Q E y h=>?_)
 .revert h;refine gJ λp l c e n i j t k z0 b r u=>gc λv x z B q=>?_;subst z0;refine⟨_,(zg (zF (pt1 zfM T.ztl PyProof.Rows.boot_int (pc0 (ZA g) y g (za (pvS 0) (za (pvS 1) zd)))))),?_⟩;ac_nf;exact⟨_,rfl,_,rfl,p,l,c,e,n,i,j,t,k,rfl,b,r,u,v,x,⟨#[k]⟩,_,rfl,int_sign z B,(by show 1<=640;decide),q⟩
def zb4(h:k∈bd.cps.toList)(a:Qw k=true):48<=k/\k<=56:=by
 have:∀k∈bd.cps.toList,Qw k=true->48<=k/\k<=56:="q"
 exact this k h a
def Rows.openAt(R:Rows bd.cps.toList rs)(h:c∈Cells.zK p 0 (codes rs)):∃t k,rs[c.1]?=some t/\t.cps.toList[c.2]?=some k/\p k=true/\k∈bd.cps.toList/\t.length<=Xz:=by
 refine gn (λg j u k e a f b=>?_) (Cells.yW h);obtain⟨t,d,rfl⟩:=Yu a;rw[VT]at e;subst e;obtain⟨n,_,_,q⟩:=R.ex;exact⟨t,k,d,f,b,(q t (X7 d)).mem k (X7 f),R.tlen d⟩
def zE(rs:AD)(y:AA):AB:=(Cells.zK zU 0 (codes rs)).filter λx=>Cells.near x y
def znd:Sp:=λf H Q _=>∃(p l c:Addr) (b:AD) (n:Int) (i j:Nat),f=[.ref p,.ref c]/\qd H p l b n/\Rows bd.cps.toList b/\H c=some (.tup [.int (i:Nat),.int (j:Nat)])/\i<64/\j<64 /\
 ∀(d:Addr) (e:AE) (a:Hp),H d=none->a d=some (.lst e)->Cel a e (zE b (i,j))->zx H a->Q (.ref d) a
def zhw(i:Nat):(if (0:Int)>(i:Int)-1 then (0:Int) else (i:Int)-1)=((i-1:Nat):Int):=by
 split<;>lia
def zhx(i m:Nat):(if ((m:Nat):Int)<(i:Int)+2 then ((m:Nat):Int) else (i:Int)+2)=((min (i+2) m:Nat):Int):=by
 split<;>lia
def zhy{f:AA->Bool}{l:AB}(a):(l++(if a=true then [x] else [])).filter f=l.filter f++(if (a&&f x)=true then [x] else []):=by
 rw[WJ];congr 1;by_cases h:a=true
 .by_cases h2:f x=true
  .simp[h,h2]
  .simp[h,h2]
 .simp[h]
def Yv:zD ["board","cell","rows","found","row","column"] ["board","cell"] (zv j7):=bh
def Yw(T:Txt mg)(D:zh K mg "around" j7 ["board","cell"] f fd):qm P w K mg base CX0 1 f fd ["board","cell"] znd:=by
 refine D.F.ok Yv "l" (λav A aq s H vs Q E hr h=>?_)
 .revert h;refine fU λp l M e=>gq λn i j z0 b R B ar au q=>?_;subst z0;refine⟨_,(ze (qz 2 Yv.nd (zQ qk (pvS 0) zf (λ_ _=>rfl))) (@ze _ _ _ _ _ (@qv _ _ 3 _ _ _ _ Yv.nd rfl (Wm rfl) (@qa _ _ _ _ zd) "r" (.inr rfl)) (ze (qN Xd rfl (zbJ "r" T.xO (za (pb2 (zeS rfl) T.zna Sy (zC yQ (zQ qk (pvS 1) zf (λ_ _=>rfl)) zf) zf) (za (pb2 (zbM rfl) T.zkl TV (zC jt (zQ qk (pvS 1) zf (λ_ _=>rfl)) zf) (pb1 zH T.qQ Xl (pvS 2))) zd))) (pgq 4 Yv.nd) (zg (qN Xd rfl (zbJ "r" T.xO (za (pb2 (zeS rfl) T.zna Sy (zC yQ (zQ qk (pvS 1) zf (λ_ _=>rfl)) zf) zf) (za (pb2 (zbM rfl) T.zkl TV (zC jt (zQ qk (pvS 1) zf (λ_ _=>rfl)) zf) (pb1 jB T.qQ Xl (zQ jk (pvS 2) (pvS 4) (λ_ _=>rfl)))) zd))) (pgq 5 Yv.nd) (zg (qH (PW.pt (zl8 (zI zc7 (zQ zbc (zQ jk (pvS 2) (pvS 4) (λ_ _=>rfl)) (pvS 5) (λ_ _=>rfl)) (jz (v:=.str "#") "r" T.QU.choose_spec (by exact⟨_,rfl⟩)) (zT _)) (zjS (zI (jT hr.units) (qu (za (pvS 4) (za (pvS 5) zd))) (pvS 1) (zT _))))) (zg (jA (JK WX Wo Wn jU (pvS 3) (za (qu (za (pvS 4) (za (pvS 5) zd))) zd)))) zV))))) (zg (zF (pvS 3)))))),?_⟩;ac_nf;refine⟨_,rfl,p,_,0,_,rfl,rfl,SqT.of b.tp,rfl,?_⟩;refine⟨xo,λd hd=>?_⟩;have s0:zx H (upd H d (.lst [])):=zc hd;have r8:=R.hi;refine⟨_,rfl,M,_,0,_,rfl,rfl,SqT.of (s0 _ _ B),rfl,_,_,rfl,rfl,_,_,rfl,_,rfl,M,_,0,_,rfl,rfl,SqT.of (s0 _ _ B),rfl,_,_,rfl,rfl,_,rfl,l,_,rfl,.inl (SqL.of (b.mono s0).rw),_,_,rfl,((i-1:Nat):Int),((min (i+2) e.length:Nat):Int),?_,⟨"a","a","a","a"⟩,?_⟩
  .show [V.int (if (0:Int)>(i:Int)-1 then (0:Int) else (i:Int)-1),V.int (if (((e.map V.str).length:Nat):Int)<(i:Int)+2 then (((e.map V.str).length:Nat):Int) else (i:Int)+2)]=_;rw[ZB,zhw,zhx]
  refine j8 (lo:=((i-1:Nat):Int)) (λk σ O=>∃(v4 v5:Option V) (L:AE),σ=[some (.ref p),some (.ref M),some (.ref l),some (.ref d),v4,v5]/\zx H O/\O d=some (.lst L)/\Cel O L ((Cells.zK zU 0 ((codes e).take (i-1+k))).filter λx=>Cells.near x (i,j)))
   (dZ _ _ [] rfl s0 zb ?_) ?_ ?_
  .rw[Cells.zm8]
   .exact .nil
   .intro r c al;rw[WY,ne_eq,Cells.Yp];rintro⟨⟨_,h2⟩,_⟩;dsimp only at h2;lia
  .refine λk σ H1 hk=>gb λv4 v5 L z0 s1 Y J=>?_;subst z0;have am:i-1+k<e.length:="a"
   have U:((i-1:Nat):Int)+(k:Nat)=((i-1+k:Nat):Int):="a"
   rw[U];generalize ay:i-1+k=r at *
   obtain⟨t,ht⟩:∃t,e[r]?=some t:=⟨_,X0 am⟩;have ai:t.length<=Xz:=R.tlen ht;have a1:t.cps.toList.length<=8:=R.short _ (X7 (qL ht));have ab:atI (e.map V.str) ((r:Nat):Int)=some (V.str t):=JZ (by rw[Xp,ht];rfl);refine⟨_,rfl,M,_,1,_,rfl,rfl,SqT.of (s1 _ _ B),rfl,_,_,rfl,rfl,_,_,rfl,_,rfl,M,_,1,_,rfl,rfl,SqT.of (s1 _ _ B),rfl,_,_,rfl,rfl,_,rfl,_,rfl,l,_,_,_,rfl,rfl,SqL.of (b.mono s1).rw,ab,t,rfl,ai,_,_,rfl,((j-1:Nat):Int),((min (j+2) t.cps.size:Nat):Int),?_,⟨"a","a","a",?_⟩,?_⟩
   .show [V.int (if (0:Int)>(j:Int)-1 then (0:Int) else (j:Int)-1),V.int (if ((t.cps.size:Nat):Int)<(j:Int)+2 then ((t.cps.size:Nat):Int) else (j:Int)+2)]=_;rw[zhw,zhx]
   .lia
   have az:t.cps.toList.length=t.cps.size:=XX;refine j8 (lo:=((j-1:Nat):Int)) (λm σ O=>∃(v5:Option V) (L:AE),σ=[some (.ref p),some (.ref M),some (.ref l),some (.ref d),some (.int (r:Nat)),v5]/\zx H O/\O d=some (.lst L)/\Cel O L ((Cells.zK zU 0 ((codes e).take r)).filter (λx=>Cells.near x (i,j))++(Cells.qh zU r 0 (t.cps.toList.take (j-1+m))).filter λx=>Cells.near x (i,j)))
    (dW _ L rfl s1 Y ?_) ?_ ?_
   .rw[Cells.zm9 (t:=t.cps.toList),W5]
    .exact J
    .intro c aj;rw[WY,ne_eq,Cells.Yp];rintro⟨_,⟨_,h2⟩,_⟩;dsimp only at h2;lia
   .refine λm σ H2 hm=>fQ λv5 y z0 s2 G g=>?_;subst z0;have ax:j-1+m<t.cps.size:="a"
    have I:((j-1:Nat):Int)+(m:Nat)=((j-1+m:Nat):Int):="a"
    rw[I];generalize aw:j-1+m=c at *
    have z:j-1+(m+1)=c+1:="a"
    obtain⟨N,af⟩:∃N,t.cps.toList[c]?=some N:=⟨_,X0 "a"⟩;have step:=Cells.zaL (p:=zU) (i:=r) af;have a:(Cells.qh zU r 0 (t.cps.toList.take (c+1))).filter (λx=>Cells.near x (i,j))=(Cells.qh zU r 0 (t.cps.toList.take c)).filter (λx=>Cells.near x (i,j))++(if (zU N&&Cells.near (r,c) (i,j))=true then [(r,c)] else []):=by
     rw[step,zhy]
    have nr:Cells.near (r,c) (i,j)=!decide ((r,c)=(i,j)):=by
     rw[V9,Cells.Yp];simp only[V4,decide_eq_false_iff_not];constructor
     .exact λh=>h.2.2
     .intro h;refine⟨⟨?_,?_⟩,⟨?_,?_⟩,h⟩<;>(try dsimp only)<;>lia
    refine⟨_,rfl,_,rfl,l,_,_,_,rfl,rfl,SqL.of (b.mono s2).rw,ab,_,rfl,t,_,N,rfl,rfl,ai,JZ af,rfl,_,rfl,?_⟩;have ed:(!decide (V.str ⟨#[N]⟩=V.str "#"))=zU N:=by
     rw[YW];simp only[zb3];rfl
    rw[ed];by_cases hp:zU N=true
    .refine ju hp ?_;refine⟨_,rfl,_,rfl,yL,λtp an=>?_⟩;have s3:zx H2 (upd H2 tp (.tup [.int (r:Nat),.int (c:Nat)])):=zc an;have ae:=s3 _ _ (s2 _ _ B);refine⟨_,rfl,_,_,xP.rdv (c:=(r,c)) ⟨tp,rfl,zb⟩,xP.rdv (c:=(i,j)) ⟨M,rfl,ae⟩,zlA _ _,_,rfl,?_⟩;have ee:(if true=true then !PyData.eqv (zA (r,c)) (zA (i,j)) else WW (zA (r,c)) (zA (i,j)))=Cells.near (r,c) (i,j):=by
      rw[zfh,nr];rfl
     rw[ee];rw[hp,Bool.true_and]at a;by_cases hn:Cells.near (r,c) (i,j)=true
     .refine ju hn ?_;rw[bw hn]at a;have aa:=s3 _ _ G;refine⟨_,rfl,.inl ⟨rfl,_,SqL.of aa⟩,_,rfl,_,rfl,yL,λtq ao=>?_⟩;have s4:zx (upd H2 tp (.tup [.int (r:Nat),.int (c:Nat)])) (upd (upd H2 tp (.tup [.int (r:Nat),.int (c:Nat)])) tq (.tup [.int (r:Nat),.int (c:Nat)])):=zc ao;have ag:y.length<=128:=by
       rw[g.length,XZ];have h1:=WP (λx=>Cells.near x (i,j)) (Cells.zK zU 0 ((codes e).take r));have h2:=WP (λx=>Cells.near x (i,j)) (Cells.qh zU r 0 (t.cps.toList.take c));have h3:=Cells.jc zU 0 ((codes e).take r) λu hu=>R.short u (VM hu);have h4:=Cells.jV zU r 0 (t.cps.toList.take c);rw[XH,jf]at h3;rw[XH]at h4;lia
      refine⟨d,_,_,rfl,rfl,s4 _ _ aa,XM ag "d",?_⟩;refine dW _ (y++[.ref tq]) rfl (λb' o e'=>?_) zb ?_
      .rw[zq (zj e' hd)];exact s4 _ _ (s3 _ _ (s2 _ _ e'))
      .rw[z,a,<- Ww];exact Cel.into d _ (s4 _ _ aa) (Cel.snoc (Cel.mono s4 (Cel.mono s3 g)) ⟨tq,rfl,zb⟩)
     .have ak:Cells.near (r,c) (i,j)=false:=by simpa using hn
      refine qZ ak ?_;rw[bq hn,W5]at a;refine dW _ y rfl (s2.trans s3) (s3 _ _ G) ?_;rw[z,a];exact Cel.mono s3 g
    .have ah:zU N=false:=by simpa using hp
     refine qZ ah ?_;refine zap ?_;rw[ah,Bool.false_and,bq XJ,W5]at a;refine dW _ y rfl s2 G ?_;rw[z,a];exact g
   .refine λσ H2=>fQ λv5 y z0 s2 G g=>?_;subst z0;refine dZ _ _ y rfl s2 G ?_;have full:(Cells.qh zU r 0 (t.cps.toList.take (j-1+(((min (j+2) t.cps.size:Nat):Int)-((j-1:Nat):Int)).toNat))).filter (λx=>Cells.near x (i,j))=(Cells.qh zU r 0 t.cps.toList).filter λx=>Cells.near x (i,j):=by
     by_cases ac:t.cps.size<=j-1+(((min (j+2) t.cps.size:Nat):Int)-((j-1:Nat):Int)).toNat
     .rw[Wd "a"]
     .refine Cells.zlz λc aj=>?_;rw[WY,ne_eq,Cells.Yp];rintro⟨_,⟨h2,_⟩,_⟩;dsimp only at h2;lia
    rw[full]at g;have e1:i-1+(k+1)=r+1:="a"
    rw[e1,Cells.zaM (qL ht),WJ];exact g
  .refine λσ H1=>gb λv4 v5 L z0 s1 Y J=>?_;subst z0;have full:(Cells.zK zU 0 ((codes e).take (i-1+(((min (i+2) e.length:Nat):Int)-((i-1:Nat):Int)).toNat))).filter (λx=>Cells.near x (i,j))=zE e (i,j):=by
    by_cases ac:e.length<=i-1+(((min (i+2) e.length:Nat):Int)-((i-1:Nat):Int)).toNat
    .rw[Wd (by rw[jf];lia)];rfl
    .refine Cells.zly λr c al=>?_;rw[WY,ne_eq,Cells.Yp];rintro⟨⟨h2,_⟩,_⟩;dsimp only at h2;lia
   rw[full]at J;exact⟨_,rfl,q d L H1 hd Y J s1⟩
def xP.rdn(h:xP H v c):Rdn N H v (zA c):=by
 obtain⟨a,rfl,h⟩:=h;exact .tup h (.cons (.int _) (.cons (.int _) .nil))
theorem Cel.rdn(a:Cel H vs cs):zJ N H vs (cs.map zA):=by
 induction a with
 | nil=>exact .nil
 | cons h _ b =>
  exact .cons (xP.rdn h) b
def Rdn.celR(h:Rdn N H v (zA c)):xP H v c:=by
 cases h with
 | tup h t =>
  cases t with
  | cons a t =>
   cases a;cases t with
   | cons b t =>
    cases b;cases t;exact⟨_,rfl,h⟩
theorem zJ.cel:∀{cs:AB} {vs:AE},zJ N H vs (cs.map zA)->Cel H vs cs
 | [],_,h=>by cases h;exact .nil
 | c::r,_,h=>by
  cases h with
  | cons a t=>exact .cons (Rdn.celR a) (zJ.cel t)
theorem zJ.bools:∀{bs:List Bool} {vs:AE},zJ N H vs (bs.map Uu)->vs=bs.map V.bl
 | [],_,h=>by cases h;rfl
 | b::r,_,h=>by
  cases h with
  | cons a t =>
   cases a;rw[zJ.bools t];rfl
theorem qy{α:Type}(p)(g:α->Wh):∀cs:List α,(cs.map λx=>if p x=true then some (g x) else none).filterMap id=(cs.filter p).map g
 | []=>rfl
 | c::r=>by
  rw[Xs,UZ,V5];by_cases h:p c=true
  .rw[bw h,bw h];show g c::_=g c::_;rw[qy p g r]
  .rw[bq h,bq h];exact qy p g r
theorem Yx{α:Type}(g:α->Wh):∀cs:List α,(cs.map λx=>some (g x)).filterMap id=cs.map g
 | []=>rfl
 | c::r=>by
  rw[Xs,UZ];show g c::_=g c::_;rw[Yx g r]
def yf{α b:Type}{g:α->b}{cs:List α}{i:Nat}{c:α}{o:b}(h:cs[i]?=some c)(a:(cs.map g)[i]?=some o):o=g c:=by
 rw[Xp,h]at a;exact(Option.some.inj a).symm
def clA(rs:AD)(c:AA):AB:=(zE rs c).filter λx=>decide (Cells.sgn (codes rs) x=63)
def zP(rs:AD):AB:=Cells.zK Zz 0 (codes rs)
def qD(rs:AD):AB:=Cells.zK Qw 0 (codes rs)
def xQ(rs:AD):AB:=(zP rs).filter λc=>!((qD rs).map λo=>(zE rs o).any λz=>decide (z=c)).any id
def Qx(rs:AD):AB:=((qD rs).filter λo=>(clA rs o).isEmpty).filter λo=>!decide (Cells.sgn (codes rs) o=48)
def jg(R:Rows bd.cps.toList rs):(Cells.zK p 0 (codes rs)).length<=64:=by
 have h1:=Cells.jc p 0 (codes rs) R.short;have h2:=R.hi;rw[jf]at h1;lia
def Jw(R:Rows bd.cps.toList rs)(c):(zE rs c).length<=64:=X5 (WP _ _) (jg R)
def qi(h:c∈Cells.zK p 0 (codes rs)):∃t k,rs[c.1]?=some t/\t.cps.toList[c.2]?=some k/\p k=true/\Cells.sgn (codes rs) c=k:=by
 refine gn (λg j u k d a e b=>?_) (Cells.yW h);obtain⟨t,f,rfl⟩:=Yu a;rw[VT]at d;subst d;exact⟨t,k,f,e,b,Cells.Y0 a e⟩
def yT{c:AA}(R:Rows bd.cps.toList rs)(h1:rs[c.1]?=some t)(h2:t.cps.toList[c.2]?=some k):c.1<64/\c.2<64:=by
 have a:=(X6.mp h1).1;have b:=(X6.mp h2).1;have e:=R.hi;have f:=R.short _ (X7 (qL h1));lia
def zkm{i j:Nat}(R:Rows bd.cps.toList rs)(h1:rs[i]?=some t)(h2:t.cps.toList[j]?=some k):k∈bd.cps.toList:=by
 obtain⟨n,_,_,h⟩:=R.ex;exact(h t (X7 h1)).mem k (X7 h2)
def zqy:Sp:=λg H Q _=>∃(p l e:Addr) (b:AD) (n:Int) (c:AA),g=[.ref p,.ref e]/\qd H p l b n/\Rows bd.cps.toList b/\H e=some (.tup [.int (c.1:Nat),.int (c.2:Nat)])/\c.1<64/\c.2<64 /\
 ∀(d:Addr) (f:AE) (a:Hp),H d=none->a d=some (.lst f)->Cel a f (clA b c)->zx H a->Q (.ref d) a
def zqz(g:AD->AB):Sp:=λf H Q _=>∃(a l:Addr) (c:AD) (n:Int),f=[.ref a]/\qd H a l c n/\Rows bd.cps.toList c /\
 ∀(d:Addr) (e:AE) (b:Hp),H d=none->b d=some (.lst e)->Cel b e (g c)->zx H b->Q (.ref d) b
def zb5:zD ["board","cell"] ["board","cell"] (zv ja):=bh
def yJ(T:Txt mg)(D:zh K mg "closed_around" ja ["board","cell"] f fd)(zR:zh K mg "around" j7 ["board","cell"] f1 I)(zw:zh K mg "sign_at" qG ["board","cell"] f2 J) :
  qm P w K mg base CX0 2 f fd ["board","cell"] zqy:=by
 refine D.F.ok zb5 "l" (λaa A N s H vs Q E hr h=>?_)
 .revert h;refine gC λp l ca r n c z0 b R L=>fX λci cj q=>?_;subst z0;refine⟨_,(zg (zF (pcm ["place","board"] [none,some 0] cR (zN (pc0 (Yw T zR) hr zR (za (pvS 0) (za (pvS 1) zd)))) (pgN 0) (qA (zI xD (pc0 (ZA zw) hr zw (za (pvS 1) (za (pvS 0) zd))) (jz (v:=.str "?") "r" T.Z7.choose_spec (by exact⟨_,rfl⟩)) (zT _))) (pvS 0)))),?_⟩;ac_nf;refine⟨_,rfl,_,rfl,p,l,ca,r,n,c.1,c.2,rfl,b,R,L,ci,cj,λd ws H1 hd i e s1=>(dX d rfl ⟨_,SqL.of i⟩ (λz hz=>?_))⟩;refine qE (K:=K) (a:=d) (xs:=ws) (λa=>a≠z) ((zE r c).map λx=>if decide (Cells.sgn (codes r) x=63)=true then some (zA x) else none) (fun σ=>∃u0,σ=[u0,some (.ref p)]) hz (λ_ h=>h) ⟨_,rfl⟩ (by rw[ZB];exact e.length.symm) (by rw[e.length];exact X5 (Jw R c) "d") (SqL.of i) ?_ ?_
  .rintro k x o σ U hx ho u _ ⟨u0,rfl⟩ Y Z O no;obtain⟨y,hy,r1⟩:=Cel.get e hx;have g:=yf hy ho;refine fQ (λt G ht hj _ es=>?_) (qi (XW.mp (X7 hy)).1);obtain⟨ya,rfl,m⟩:=r1;refine⟨_,rfl,_,rfl,p,l,ya,r,n,y.1,y.2,t,G,rfl,(b.mono s1).mono u,u _ _ m,ht,hj,R.tlen ht,rfl,_,rfl,?_⟩;have ed:decide (V.str ⟨#[G]⟩=V.str "?")=decide (G=63):=by
    rw[zdH];simp only[zb3]
   rw[ed];rw[es]at g;by_cases B:G=63
   .rw[br B];rw[bw (br B)]at g;exact zdc ⟨_,rfl,O _ _ _ _ g ⟨_,rfl⟩ (zx.refl _) (xP.rdn ⟨ya,rfl,u _ _ m⟩)⟩
   .rw[bf B];rw[bq (by rw[bf B];exact XJ)]at g;exact zap (no _ _ g ⟨_,rfl⟩ (zx.refl _))
  .rintro ys U u M j;rw[qy]at j;exact q z ys U (s1.free hz) M (zJ.cel j) (s1.trans u)
def zbm(cs:AB):Wv (cs.map zA)=true:=by
 induction cs with
 | nil=>rfl
 | cons c r a =>
  show (Ws (zA c)&&Wv (r.map zA))=true;rw[a];rfl
def zi9(cs:AB):Wl (cs.map zA)<=1:=by
 induction cs with
 | nil=>exact W2 _
 | cons c r a =>
  show max (PyData.depth (zA c)) (Wl (r.map zA))<=1;have:PyData.depth (zA c)=1:=rfl;lia
def zdI(cs a:AB):zfL (.list (cs.map zA)) (.list (a.map zA)):=⟨zbm cs,zbm a,by
 show Wl (cs.map zA)+1<=64;have:=zi9 cs;lia⟩
def ZC(cs:AB)(c):(cs.map zA).any (λz=>WW z (zA c))=cs.any λz=>decide (z=c):=by
 rw[T4];congr 1;funext z;exact zfh z c
def eq_nil(cs:AB):WW (.list (cs.map zA)) (.list [])=cs.isEmpty:=by
 cases cs<;>rfl
def zne:zD ["board","told"] ["board"] (zv zkj):=bh
def znf(T:Txt mg)(D:zh K mg "far" zkj ["board"] f fd)(zR:zh K mg "around" j7 ["board","cell"] f1 al)(zw:zh K mg "sign_at" qG ["board","cell"] f2 am)
  (zB:zh K mg "cells_of" qx ["board"] f3 an) (qJ:zh K mg "closed" Ys ["board"] f4 ao) (zG:zh K mg "open_cells" qY ["board"] f5 aq):qm P w K mg base CX0 3 f fd ["board"] (zqz xQ):=by
 refine D.F.ok zne "l" (λa4 A a1 s H vs Q E hr h=>?_)
 .revert h;refine gn λa l g n z0 b R q=>?_;subst z0;refine⟨_,(ze (qz 1 zne.nd (pcm ["cell","board"] [none,some 0] cR (zN (pc0 (yN T zG zB zw) hr zG (za (pvS 0) zd))) (pgN 0) qp (pc0 (Yw T zR) hr zR (za (pvS 1) (za (pvS 0) zd))))) (zg (zF (zt7 ["cell","told"] [none,some 1] (c1 (y:="cell")) (zN (pc0 (Zh T qJ zB zw) hr qJ (za (pvS 0) zd))) (pgN 0) (qA (zaD (zbQ (K:=K) "r" (pb1 (zeZ (K:=K) "r" "r") T.zkk TU (pcm ["near","cell"] [none,some 0] cR (zg4 (K:=K) "r" (pvS 1)) (pgN 0) qp (ZN (jC (K:=K) "r" hr.units) (pvS 1) (pvS 0) "r"))) (λ_=>rfl)))) (pvS 0))))),?_⟩;ac_nf;refine⟨_,rfl,a,l,g,n,rfl,b,R,λd ws H1 hd aa u s1=>(dX d rfl ⟨_,SqL.of aa⟩ (λz hz=>?_))⟩;have b1:=b.mono s1;refine qE (K:=K) (a:=d) (xs:=ws) (λa=>a≠z) ((qD g).map λo=>some (.list ((zE g o).map zA))) (fun r=>∃I,r=[I,some (.ref a)]) hz (λ_ h=>h) ⟨_,rfl⟩ (by rw[ZB];exact u.length.symm) (by rw[u.length];exact X5 (jg R) "d") (SqL.of aa) ?_ ?_
  .rintro k x o r H2 hx ho N az ⟨I,rfl⟩ Y Z L no;obtain⟨y,hy,r1⟩:=Cel.get u hx;have M:=yf hy ho;refine fQ (λt sg ht hj _ es=>?_) (qi (X7 hy));obtain⟨J,rfl,i⟩:=r1;obtain⟨l1,l2⟩:=yT R ht hj;refine yE ⟨_,rfl,_,rfl,a,l,J,g,n,y.1,y.2,rfl,b1.mono N,R,N _ _ i,l1,l2,λd2 a6 H3 au ab ar O=>?_⟩;refine L _ _ _ _ M ⟨_,rfl⟩ O (.lst (λe=>az (e ▸ au)) ab (Cel.rdn ar))
  .rintro ys H2 N ax G;rw[Yx]at G;have b2:=b1.mono N;refine⟨_,rfl,a,l,g,n,rfl,b2,R,λd3 a2 H3 ab ac B O=>(dX d3 rfl ⟨_,SqL.of ac⟩ (λz3 ah=>?_))⟩;have ai:=O _ _ ax;have aw:=G.keep O;refine qE (K:=K) (a:=d3) (xs:=a2) (λa=>a≠z3) ((zP g).map λc=>if (!((qD g).map λo=>(zE g o).any λz=>decide (z=c)).any id)=true then some (zA c) else none) (fun r=>∃I,r=[I,some (.ref z)]) ah (λ_ h=>h) ⟨_,rfl⟩ (by rw[ZB];exact B.length.symm) (by rw[B.length];exact X5 (jg R) "d") (SqL.of ac) ?_ ?_
   .rintro k x o r H4 hx ho U _ ⟨I,rfl⟩ Y Z L no;obtain⟨y,hy,r1⟩:=Cel.get B hx;have M:=yf hy ho;have r2:xP H4 x y:=by
     obtain⟨J,e,i⟩:=r1;exact⟨J,e,U _ _ i⟩
    refine⟨_,rfl,z,rfl,⟨_,SqL.of (U _ _ ai)⟩,λz5 ay=>?_⟩;have ag:ys.length=(qD g).length:=by rw[G.length,ZB]
    refine qE (K:=K) (a:=z) (xs:=ys) (λa=>a≠z5) ((qD g).map λo=>some (.bool ((zE g o).any λz=>decide (z=y)))) (fun r=>∃I,r=[I,some x]) ay (λ_ h=>h) ⟨_,rfl⟩ (by rw[ZB];exact ag.symm) (by rw[ag];exact X5 (jg R) "d") (SqL.of (U _ _ ai)) ?_ ?_
    .rintro m v o2 r H5 hv av s5 _ ⟨u1,rfl⟩ Y2 Z2 aj a5;obtain⟨dv,j,rv⟩:=aw.get hv;rw[Xp]at j;cases eoc:(qD g)[m]? with
     | none=>rw[eoc]at j;cases j
     | some oc =>
      rw[eoc]at j;cases j;have ak:=yf eoc av;have r3:xP H5 x y:=by
       obtain⟨J,e,i⟩:=r2;exact⟨J,e,s5 _ _ i⟩
      refine yE ⟨_,rfl,_,rfl,zA y,(zE g oc).map zA,r3.rdv,(((rv.keep U).keep s5).rdv),rfl,zbm _,(by show 1<=60;decide),?_⟩;have ei:(if false=true then !((zE g oc).map zA).any (λz=>WW z (zA y)) else ((zE g oc).map zA).any λz=>WW z (zA y))=(zE g oc).any λz=>decide (z=y):=ZC _ _;rw[ei];exact aj _ _ _ _ ak ⟨_,rfl⟩ (zx.refl _) (.bl _)
    .rintro a7 H5 s5 p af;rw[Yx,show ((qD g).map λo=>Uu ((zE g o).any λz=>decide (z=y)))=((qD g).map λo=>(zE g o).any λz=>decide (z=y)).map Uu by rw[Wf];rfl]at af;rw[zJ.bools af]at p;refine fu z5 _ rfl (SqL.of p) _ rfl ?_;by_cases hp:(!((qD g).map λo=>(zE g o).any λz=>decide (z=y)).any id)=true
     .rw[bw hp]at M;refine ju hp ⟨_,rfl,L _ _ _ _ M ⟨_,rfl⟩ s5 (xP.rdn ?_)⟩;obtain⟨J,e,i⟩:=r2;exact⟨J,e,s5 _ _ i⟩
     .rw[bq hp]at M;exact qZ ↑hp (no _ _ M ⟨_,rfl⟩ s5)
   .rintro a3 H4 U p ae;rw[qy]at ae;exact q z3 a3 H4 (s1.free (N.free (O.free ah))) p (zJ.cel ae) (((s1.trans N).trans O).trans U)
def zau:zD ["board","bare"] ["board"] (zv J3):=bh
def zav(T:Txt mg)(D:zh K mg "bare_wrong" J3 ["board"] f fd)(zR:zh K mg "around" j7 ["board","cell"] f1 aa)(zw:zh K mg "sign_at" qG ["board","cell"] f2 ab)
  (zB:zh K mg "cells_of" qx ["board"] f3 ac) (zM:zh K mg "closed_around" ja ["board","cell"] f4 ae) (zG:zh K mg "open_cells" qY ["board"] f5 af) (qf:zh K mg "number_at" jN ["board","cell"] f6 ag):qm P w K mg base CX0 3 f fd ["board"] (zqz Qx):=by
 refine D.F.ok zau "l" (λam A ak s H vs Q E hr h=>?_)
 .revert h;refine gn λa l c n z0 b R q=>?_;subst z0;refine⟨_,(ze (psC 1 zau.nd ["cell","board"] [none,some 0] cR (zN (pc0 (yN T zG zB zw) hr zG (za (pvS 0) zd))) (pgN 0) (qA (zI (QJ (K:=K) "r" hr.units) (pc0 (yJ T zM zR zw) hr zM (za (pvS 1) (za (pvS 0) zd))) (@qa _ _ _ _ zd) (zT _))) (pvS 0)) (zg (zF (pcm ["cell","board"] [none,some 0] cR (zN (pvS 1)) (pgN 0) (qA (zI zc7 (pc0 (Qf T qf zw) hr qf (za (pvS 1) (za (pvS 0) zd))) zf (zT _))) (pvS 0))))),?_⟩;ac_nf;refine⟨_,rfl,a,l,c,n,rfl,b,R,λd ws H1 hd B r s1=>(dX d rfl ⟨_,SqL.of B⟩ (λz hz=>?_))⟩;have b1:=b.mono s1;refine qE (K:=K) (a:=d) (xs:=ws) (λa=>a≠z) ((qD c).map λo=>if (clA c o).isEmpty=true then some (zA o) else none) (fun σ=>∃U,σ=[U,some (.ref a)]) hz (λ_ h=>h) ⟨_,rfl⟩ (by rw[ZB];exact r.length.symm) (by rw[r.length];exact X5 (jg R) "d") (SqL.of B) ?_ ?_
  .rintro k x o σ H2 hx ho u ao ⟨U,rfl⟩ Y Z v no;obtain⟨y,L,r1⟩:=Cel.get r hx;have m:=yf L ho;refine fQ (λt sg J hj _ es=>?_) (qi (X7 L));obtain⟨ya,rfl,i⟩:=r1;obtain⟨l1,l2⟩:=yT R J hj;refine⟨_,rfl,_,rfl,a,l,ya,c,n,y,rfl,b1.mono u,R,u _ _ i,l1,l2,λd2 aq H3 an ah g s3=>⟨xo,λe he=>?_⟩⟩;have j:=zc (o:=.lst []) he;refine dW (.list ((clA c y).map zA)) (.list []) (.lst (SqL.of (j _ _ ah)) (zJ.rdv (N:=λ_=>True) (Cel.rdn (Cel.mono j g)))) (.lst (SqL.of zb) .nil) (zdI _ []) ⟨_,rfl,?_⟩;have ee:(if false=true then !PyData.eqv (.list ((clA c y).map zA)) (.list []) else WW (.list ((clA c y).map zA)) (.list []))=(clA c y).isEmpty:=eq_nil _;rw[ee];by_cases p:(clA c y).isEmpty=true
   .rw[bw p]at m;exact ju p ⟨_,rfl,v _ _ _ _ m ⟨_,rfl⟩ (s3.trans j) (xP.rdn ⟨ya,rfl,j _ _ (s3 _ _ (u _ _ i))⟩)⟩
   .rw[bq p]at m;exact qZ ↑p (no _ _ m ⟨_,rfl⟩ (s3.trans j))
  .rintro ys H2 u M G;rw[qy]at G;have g:=zJ.cel G;have b2:=b1.mono u;refine⟨_,rfl,z,rfl,⟨_,SqL.of M⟩,λz3 O=>?_⟩;refine qE (K:=K) (a:=z) (xs:=ys) (λa=>a≠z3) (((qD c).filter λo=>(clA c o).isEmpty).map λo=>if (!decide (Cells.sgn (codes c) o=48))=true then some (zA o) else none) (fun σ=>∃U,σ=[U,some (.ref a)]) O (λ_ h=>h) ⟨_,rfl⟩ (by rw[ZB];exact g.length.symm) (by rw[g.length];exact X5 (WP _ _) (X5 (jg R) "d")) (SqL.of M) ?_ ?_
   .rintro k x o σ H4 hx ho j _ ⟨U,rfl⟩ Y Z v no;obtain⟨y,L,r1⟩:=Cel.get g hx;have m:=yf L ho;refine fQ (λt sg J hj ai es=>?_) (qi (XW.mp (X7 L)).1);obtain⟨ya,rfl,i⟩:=r1;obtain⟨k1,k2⟩:=zb4 (zkm R J hj) ai;refine⟨_,rfl,_,rfl,a,l,ya,c,n,y.1,y.2,t,sg,rfl,b2.mono j,j _ _ i,J,hj,R.tlen J,k1,k2,rfl,_,rfl,?_⟩;have ed:(!decide (V.int ((sg:Int)-48)=V.int 0))=!decide (Cells.sgn (codes c) y=48):=by
     rw[es,zfE];congr 1;by_cases h:sg=48
     .rw[br h,h];rfl
     .rw[bf h];simp only[beq_eq_false_iff_ne,ne_eq];lia
    rw[ed];by_cases p:(!decide (Cells.sgn (codes c) y=48))=true
    .rw[bw p]at m;exact ju p ⟨_,rfl,v _ _ _ _ m ⟨_,rfl⟩ (zx.refl _) (xP.rdn ⟨ya,rfl,j _ _ i⟩)⟩
    .rw[bq p]at m;exact qZ ↑p (no _ _ m ⟨_,rfl⟩ (zx.refl _))
   .rintro al H4 j aj I;rw[qy]at I;exact q z3 al H4 (s1.free (u.free O)) aj (zJ.cel I) ((s1.trans u).trans j)
def zcJ(a:Cel H vs cs):xY K H vs (cs.map zA):=by
 induction a with
 | nil=>exact .nil
 | cons h _ b =>
  exact .cons (xP.rdv h) b
def zb6(cs:AB):Wv (cs.map zA)=true:=by
 induction cs with
 | nil=>rfl
 | cons c r a =>
  show (Ws (zA c)&&Wv (r.map zA))=true;rw[a];rfl
def zhz(cs:AB):Wl (cs.map zA)<=1:=by
 induction cs with
 | nil=>exact W2 _
 | cons c r a =>
  show max (PyData.depth (zA c)) (Wl (r.map zA))<=1;have:PyData.depth (zA c)=1:=rfl;lia
def zja(cs a:AB):zfL (.list (cs.map zA)) (.list (a.map zA)):=⟨zb6 cs,zb6 a,by
 show Wl (cs.map zA)+1<=64;have:=zhz cs;lia⟩
def toI(c:AA):Int×Int:=(((c.1:Nat):Int),((c.2:Nat):Int))
def ofI(p:Int×Int):AA:=(p.1.toNat,p.2.toNat)
def zqA(c):ofI (toI c)=c:=rfl
def zkn:lt2 (toI c) (toI d)=true↔Cells.lex c d:=by
 obtain⟨a,b⟩:=c;obtain⟨x,y⟩:=d;unfold lt2 Cells.lex;show (if ((a:Nat):Int)=((x:Nat):Int) then decide (((b:Nat):Int)<((y:Nat):Int)) else decide (((a:Nat):Int)<((x:Nat):Int)))=true↔a<x\/(a=x/\b<y);by_cases e:a=x
 .rw[bw "a",bu];lia
 .rw[bq "a",bu];lia
def Cel.tup2(b:Cel H vs cs):xG H vs (cs.map toI):=by
 induction b with
 | nil=>exact .nil
 | cons q _ c =>
  obtain⟨a,e,h⟩:=q;exact .cons ⟨a,e,h⟩ c
theorem jD:∀{cs:AB} {vs:AE},xG H vs (cs.map toI)->Cel H vs cs
 | [],_,.nil=>.nil
 | _::_,_,.cons ⟨a,e,h⟩ t=>.cons ⟨a,e,h⟩ (jD t)
def zbn{cs:AB}(h:ps.Perm (cs.map toI)):∃a:AB,ps=a.map toI/\a.Perm cs:=by
 refine⟨ps.map ofI,?_,?_⟩
 .rw[Wf];refine(Sf ps).symm.trans (Wa λp b=>?_);obtain⟨c,_,rfl⟩:=XE.mp (h.mem_iff.mp b);rfl
 .have:=h.map ofI;rw[Wf]at this;have e:cs.map (ofI∘toI)=cs:=(Wa λc _=>zqA c).trans (Sf cs);rwa [e]at this
def zrO{cs:AB}(h:Up2 (cs.map toI)):cs.Pairwise Cells.lex:=by
 unfold Up2 at h;rw[V3]at h;exact h.imp λz=>zkn.mp z
def qq{cs:AB}(h:cs.Pairwise Cells.lex):cs.Nodup:=h.imp λ{a b} z e=>by
 subst e;unfold Cells.lex at z;lia
def zlC(H:Hp)(v:V)(g:AB):Prop:=∃a b,v=V.ref a/\H a=some (.lst b)/\Cel H b g
def x8(H:Hp):AE->List AB->Prop:=Xk (zlC H)
theorem zlC.mono(s:zx H b)(h:zlC H v g):zlC b v g:=by
 obtain⟨a,c,e,h1,h2⟩:=h;exact⟨a,c,e,s _ _ h1,h2.mono s⟩
theorem x8.mono(s:zx H a)(b:x8 H vs gs):x8 a vs gs:=by
 induction b with
 | nil=>exact .nil
 | cons h _ c =>
  exact .cons (h.mono s) c
theorem x8.get:∀{vs:AE} {gs:List AB} {i:Nat} {v:V},x8 H vs gs->vs[i]?=some v->∃g,gs[i]?=some g/\zlC H v g
 | _,_,_,_,.nil,e=>by simp at e
 | _,_,0,_,.cons r _,e=>by
  simp at e;subst e;exact⟨_,rfl,r⟩
 | _,_,i+1,v,.cons _ t,e=>by
  obtain⟨c,h1,h2⟩:=x8.get (i:=i) (v:=v) t ↑e;exact⟨c,↑h1,h2⟩
theorem x8.length(h:x8 H vs gs):vs.length=gs.length:=Paired.length h
theorem x8.snoc(h:x8 H vs gs)(x:zlC H v g):x8 H (vs++[v]) (gs++[g]):=Paired.snoc h x
def lD(g:AB):Wh:=.list (g.map zA)
theorem zfi(h:∀c,p c=true->q c=false)(i):∀(j:Nat) (t:List Nat),(Cells.qh p i j t).length+(Cells.qh q i j t).length<=t.length
 | _,[]=>XQ _
 | j,c::r=>by
  have b:=zfi h i (j+1) r;rw[Cells.qh,Cells.qh,XZ,XZ,Xf];by_cases a:p c=true
  .rw[bw a,bq (by rw[h c a];exact XJ)];simp only[Xf,TZ];lia
  .rw[bq a];split<;>simp only[Xf,TZ]<;>lia
theorem zfj(h:∀c,p c=true->q c=false):∀(i:Nat) (rs:List (List Nat)),(∀t∈rs,t.length<=8)->(Cells.zK p i rs).length+(Cells.zK q i rs).length<=8*rs.length
 | _,[],_=>XQ _
 | i,t::r,a=>by
  have d:=zfj h (i+1) r λu b=>a u (XS _ b);have h1:=zfi h i 0 t;have h2:=a t XU;rw[Cells.zK,Cells.zK,XZ,XZ,Xf];lia
def zb7(R:Rows bd.cps.toList rs):(qD rs).length+(zP rs).length<=64:=by
 have:=zfj (p:=Qw) (q:=Zz) (λc a=>by
  unfold Qw at a;rw[Vi,V4]at a;exact a.2) 0 (codes rs) R.short
 have h2:=R.hi;rw[jf]at this;unfold qD zP;lia
theorem zbo:∀{j m:Nat} {t:List Nat} {c:Nat},t[m]?=some c->p c=true->(i,j+m)∈Cells.qh p i j t
 | j,m,[],c,h,_=>by simp at h
 | j,0,d::r,c,h,a=>by
  have e:d=c:=by simpa using h
  subst e;rw[Cells.qh,bw a];exact Xa _ XU
 | j,m+1,d::r,c,h,a=>by
  rw[Cells.qh];refine Xm _ ?_;have:=zbo (i:=i) (j:=j+1) (m:=m) (t:=r) (c:=c) ↑h a;rwa [show j+1+m=j+(m+1) by lia]at this
theorem Zb:∀{i m:Nat} {rs:List (List Nat)} {t:List Nat} {j c:Nat},rs[m]?=some t->t[j]?=some c->p c=true->(i+m,j)∈Cells.zK p i rs
 | i,m,[],t,j,c,h,_,_=>by simp at h
 | i,0,d::r,t,j,c,h,a,b=>by
  have e:d=t:=by simpa using h
  subst e;rw[Cells.zK];refine Xa _ ?_;have:=zbo (i:=i) (j:=0) a b;rwa [show 0+j=j by lia]at this
 | i,m+1,d::r,t,j,c,h,a,b=>by
  rw[Cells.zK];refine Xm _ ?_;have:=Zb (i:=i+1) (m:=m) (rs:=r) (t:=t) (j:=j) (c:=c) ↑h a b;rwa [show i+1+m=i+(m+1) by lia]at this
def Zi(rs)(c):(clA rs c).Nodup:=((qq (Cells.jH _ 0 (codes rs))).sublist Xn).sublist Xn
def xR(h:x∈clA rs c):x∈zP rs:=by
 unfold clA at h;obtain⟨h1,h2⟩:=XW.mp h;obtain⟨t,k,d,b,_,e⟩:=qi (XW.mp h1).1;have a:k=63:=by
  have:=bg h2;lia
 subst a;have:=Zb (p:=Zz) (i:=0) (qL d) b "d";rwa [VT]at this
def head_mem{g:AB}(h:g ≠ []):g.headD (0,0)∈g:=by
 cases g with
 | nil=>exact absurd rfl h
 | cons a r=>exact XU
def zbp(rs:AD)(part:AB):AB:=(qD rs).filter λo=>((zE rs o).map λz=>part.any λx=>decide (x=z)).any id
def zrP:Sp:=λh H Q _=>∃(a l e:Addr) (c:AD) (n:Int) (f:AE) (part:AB),h=[.ref a,.ref e]/\qd H a l c n/\Rows bd.cps.toList c/\H e=some (.lst f)/\Cel H f part /\
 ∀(d:Addr) (g:AE) (b:Hp),H d=none->b d=some (.lst g)->Cel b g (zbp c part)->zx H b->Q (.ref d) b
def zew:zD ["board","part"] ["board","part"] (zv yH):=bh
def zex(T:Txt mg)(D:zh K mg "numbers_of" yH ["board","part"] f fd)(zR:zh K mg "around" j7 ["board","cell"] f1 ab)(zw:zh K mg "sign_at" qG ["board","cell"] f2 ac)
  (zB:zh K mg "cells_of" qx ["board"] f3 ae) (zG:zh K mg "open_cells" qY ["board"] f5 af):qm P w K mg base CX0 3 f fd ["board","part"] zrP:=by
 refine D.F.ok zew "l" (λao A al s H vs Q E hr h=>?_)
 .revert h;refine fU λa l pa e=>gf λn ps part z0 b R ah ai q=>?_;subst z0;refine⟨_,(zg (zF (pcm ["cell","part","board"] [none,some 1,some 0] cR (zN (pc0 (yN T zG zB zw) hr zG (za (pvS 0) zd))) (pgN 0) (qA (zbQ (K:=K) "r" (pb1 (zeZ (K:=K) "r" "r") T.zkk TU (pcm ["place","part"] [none,some 1] cR (zg4 (K:=K) "r" (pc0 (Yw T zR) hr zR (za (pvS 2) (za (pvS 0) zd)))) (pgN 0) qp (ZN (jC (K:=K) "r" hr.units) (pvS 0) (pvS 1) "r"))) (λ_=>rfl))) (pvS 0)))),?_⟩;ac_nf;refine⟨_,rfl,a,l,e,n,rfl,b,R,λd ws H1 hd r g s1=>(dX d rfl ⟨_,SqL.of r⟩ (λz hz=>?_))⟩;have b1:=b.mono s1;refine qE (K:=K) (a:=d) (xs:=ws) (λa=>a≠z) ((qD e).map λo=>if (((zE e o).map λz=>part.any λx=>decide (x=z)).any id)=true then some (zA o) else none) (fun M=>∃u0,M=[u0,some (.ref pa),some (.ref a)]) hz (λ_ h=>h) ⟨_,rfl⟩ (by rw[ZB];exact g.length.symm) (by rw[g.length];exact X5 (jg R) "d") (SqL.of r) ?_ ?_
  .rintro k x o M H2 hx ho j ar ⟨u0,rfl⟩ Y Z an no;obtain⟨y,hy,r1⟩:=Cel.get g hx;have O:=yf hy ho;refine fQ (λt sg ht hj _ es=>?_) (qi (X7 hy));revert r1;refine fR λya z0 I=>?_;subst z0;obtain⟨l1,l2⟩:=yT R ht hj;refine⟨_,rfl,_,rfl,a,l,ya,e,n,y.1,y.2,rfl,b1.mono j,R,j _ _ I,l1,l2,λd2 am H3 aq u i s3=>(dX d2 rfl ⟨_,SqL.of u⟩ (λz5 ak=>?_))⟩;refine qE (K:=K) (a:=d2) (xs:=am) (λa=>a≠z5) ((zE e y).map λc=>some (.bool (part.any λx=>decide (x=c)))) (fun M=>∃u0,M=[u0,some (.ref pa)]) ak (λ_ h=>h) ⟨_,rfl⟩ (by rw[ZB];exact i.length.symm) (by rw[i.length];exact X5 (Jw R y) "d") (SqL.of u) ?_ ?_
   .rintro m v o2 M H5 hv ag p _ ⟨u1,rfl⟩ Y2 Z2 L au;obtain⟨c,hc,rc⟩:=Cel.get (Cel.mono p i) hv;have aa:=yf hc ag;have sA:=((s1.trans j).trans s3).trans p;refine yE ⟨_,rfl,_,rfl,zA c,part.map zA,rc.rdv,.lst (SqL.of (sA _ _ ah)) (zJ.rdv (N:=λ_=>True) (Cel.rdn (Cel.mono sA ai))),rfl,zbm _,(by show 1<=60;decide),?_⟩;have ei:(if false=true then !(part.map zA).any (λz=>WW z (zA c)) else (part.map zA).any λz=>WW z (zA c))=part.any λz=>decide (z=c):=ZC _ _;rw[ei];exact L _ _ _ _ aa ⟨_,rfl⟩ (zx.refl _) (.bl _)
   .rintro av H5 p J G;rw[Yx,show ((zE e y).map λc=>Uu (part.any λx=>decide (x=c)))=((zE e y).map λc=>part.any λx=>decide (x=c)).map Uu by rw[Wf];rfl]at G;rw[zJ.bools G]at J;refine fu z5 _ rfl (SqL.of J) _ rfl ?_;by_cases U:(((zE e y).map λz=>part.any λx=>decide (x=z)).any id)=true
    .rw[bw U]at O;exact ju U ⟨_,rfl,an _ _ _ _ O ⟨_,rfl⟩ (s3.trans p) (xP.rdn ⟨ya,rfl,p _ _ (s3 _ _ (j _ _ I))⟩)⟩
    .rw[bq U]at O;exact qZ ↑U (no _ _ O ⟨_,rfl⟩ (s3.trans p))
  .rintro ys H2 j aj B;rw[qy]at B;exact q z ys H2 (s1.free hz) aj (zJ.cel B) (s1.trans j)
def zps{b:AB}(p:a.Perm b)(c:a.Pairwise Cells.lex)(d:b.Pairwise Cells.lex):a=b:=p.eq_of_pairwise (λx y _ _ h1 h2=>by
 unfold Cells.lex at h1 h2;lia) c d
def zdJ{i:AA->AB}{done:AB}{A B:List AB}(k:Parts.Good i done A)(g:Parts.Good i done B)(l:a∈A)(m:b∈B)(h:∃x∈a,x∈b):∀x∈a,x∈b :=
 k.con a l (· ∈ b) (λo n ⟨x,j,f⟩=>by
  obtain⟨p,d,c⟩:=g.cov o n (T3 j);have e:=Parts.zb1 g.nd d m (c x j) f;subst e;exact c) h
def zng{l:AA->AB}{done:AB}{A B:List AB}(a:Parts.Good l done A)(d:Parts.Good l done B):∀g∈A,g∈B:=λg c=>by
 obtain⟨x,k⟩:=Uz _ (a.ne g c);obtain⟨o,m,j⟩:=a.from_ x (WD.mpr ⟨g,c,k⟩);obtain⟨b,h,f⟩:=d.cov o m (T3 j);have i:=f x j;have e:g=b:=zps ((WV (qq (a.srt g c)) (qq (d.srt b h))).mpr λy=>⟨zdJ a d c h ⟨x,k,i⟩ y,zdJ d a h c ⟨x,i,k⟩ y⟩) (a.srt g c) (d.srt b h);rw[e];exact h
def zjb{a:AA->AB}{done:AB}{gs:List AB}(G:Parts.Good a done gs)(h:a o ≠ [])(c:(a o).Nodup){w:AB}(d:w.Pairwise Cells.lex)(j:∀x,x∈w↔x∈a o\/∃g∈gs,Parts.meets (a o) g=true/\x∈g):Parts.Good a (done++[o]) ((gs.filter λg=>!Parts.meets (a o) g)++[w]):=by
 refine G.step h c ?_ ?_ d
 .refine U3 λg i=>?_;congr 1;rw[V9,WH];constructor
  .exact λz=>⟨g,XW.mpr ⟨i,z⟩,br rfl⟩
  .rintro⟨m,b,e⟩;have f:m=g:=bg e;subst f;exact(XW.mp b).2
 .refine(WV (qq d) (Parts.QO c λm b=>G.nd.sublist (UO (XW.mp b).1))).mpr λx=>?_;rw[j,Parts.zb2];constructor
  .rintro(z | ⟨g,h1,h2,h3⟩)
   .exact .inl z
   .exact .inr ⟨g,XW.mpr ⟨h1,h2⟩,h3⟩
  .rintro(z | ⟨g,h1,h3⟩)
   .exact .inl z
   .exact .inr ⟨g,(XW.mp h1).1,(XW.mp h1).2,h3⟩
def zlD(cs g:AB):(cs.map λc=>g.any λz=>decide (z=c)).any id=Parts.meets cs g:=by
 rw[V9,Parts.Yq,T4,WH];constructor
 .rintro⟨c,h1,h2⟩;have a:(g.any λz=>decide (z=c))=true:=h2;obtain⟨z,b,d⟩:=WH.mp a;have e:z=c:=bg d;subst e;exact⟨z,b,h1⟩
 .rintro⟨x,h1,h2⟩;refine⟨x,h2,?_⟩;show (g.any λz=>decide (z=x))=true;exact WH.mpr ⟨x,h1,br rfl⟩
def ZZ(p:AB->Bool):AE->List AB->AE
 | v::vs,g::gs=>if p g=true then v::ZZ p vs gs else ZZ p vs gs
 | _,_=>[]
theorem Yy(p):∀(vs:AE) (gs:List AB),(ZZ p vs gs).Sublist vs
 | [],_=>Tn _
 | _::_,[]=>Tn _
 | v::vs,g::gs=>by
  rw[ZZ];split
  .exact(Yy p vs gs).cons_cons v
  .exact(Yy p vs gs).cons v
theorem zaN(p):∀{vs:AE} {gs:List AB},x8 H vs gs->x8 H (ZZ p vs gs) (gs.filter p)
 | _,_,.nil=>.nil
 | _,_,.cons (a:=v) (b:=g) h t=>by
  rw[ZZ,V5];by_cases c:p g=true
  .rw[bw c,bw c];exact .cons h (zaN p t)
  .rw[bq c,bq c];exact zaN p t
def zjc(p){vs:AE}{gs:List AB}(h1:vs[i]?=some v)(h2:gs[i]?=some g):ZZ p (vs.take (i+1)) (gs.take (i+1))=ZZ p (vs.take i) (gs.take i)++if p g=true then [v] else []:=by
 induction vs generalizing gs i with
 | nil=>cases h1
 | cons w vs a =>
  cases gs with
  | nil=>cases h2
  | cons k gs =>
   cases i with
   | zero =>
    cases h1;cases h2;simp[ZZ]
   | succ i =>
    rw[Uj,Uj,Uj,Uj,ZZ,ZZ,a h1 h2];split<;>rfl
def zgc{m:List (Int×Int)}{l:AB}(h:∀c∈m,c∈l.map toI):m=(m.map ofI).map toI:=by
 rw[Wf];refine(Sf m).symm.trans (Wa λc a=>?_);obtain⟨x,_,rfl⟩:=XE.mp (h c a);rfl
def znh:Sp:=λl H Q _=>∃(e j:Addr) (i k:AE) (c:List AB) (a B:AB),l=[.ref e,.ref j]/\H e=some (.lst i)/\x8 H i c/\H j=some (.lst k)/\Cel H k a/\a.Nodup/\c.flatten.Nodup/\(∀x∈a,x∈B)/\(∀x∈c.flatten,x∈B)/\(∀x∈B,x.1<8/\x.2<8)/\B.length<=63/\c.length<=63 /\
 (a=[]->∀b,zx H b->Q (.ref e) b) /\
 (a ≠ []->∀(d h:Addr) (f:AE) (w:AB) (b:Hp),H d=none->H h=none->b d=some (.lst (f++[.ref h]))->f.Sublist i->x8 b (f++[.ref h]) ((c.filter λg=>!Parts.meets a g)++[w])->w.Pairwise Cells.lex->(∀x,x∈w↔x∈a\/∃g∈c,Parts.meets a g=true/\x∈g)->zx H b->Q (.ref d) b)
def zai:zD ["groups","cells","apart","together","group"] ["groups","cells"] (zv QS):=bh
def zlE(T:Txt mg)(D:zh K mg "joined" QS ["groups","cells"] f fd):qm P w K mg base CX0 1 f fd ["groups","cells"] znh:=by
 refine D.F.ok zai "l" (λaJ A aG s H vs Q E hr h=>?_)
 .revert h;refine fU λga ca ws us=>fV λk d B z0 av hG M=>gc λhC a8 a9 cB=>gj λgB B8 aj al q1 q2=>?_;subst z0;have ak:d.length<=63:=X5 (Parts.yF a8 cB) aj;have ab:k.flatten.length<=63:=X5 (Parts.yF a9 gB) aj;refine⟨_,(ze (qH (zI (yS hr.units) (pvS 1) (@qa _ _ _ _ zd) (zT _)) (zg (zF (pvS 0))) zV) (@ze _ _ _ _ _ (@qv _ _ 2 _ _ _ _ zai.nd rfl (Wm rfl) (@qa _ _ _ _ zd) "r" (.inr rfl)) (ze (qz 3 zai.nd (pt1 xE T.zdE UR (pvS 1))) (ze (qN Xd rfl (zN (pvS 0)) (pgq 4 zai.nd) (zg (qH (za2 (pb1 (zdh rfl) T.zkk TU (pcm ["cell","group"] [none,some 4] cR (zN (pvS 1)) (pgN 0) qp (ZN (jC (K:=K) "r" hr.units) (pvS 0) (pvS 1) "r"))) (λ_=>rfl)) (zg (jA (JK WX U9 U8 Yg (pvS 3) (za (pvS 4) zd)))) (zg (jA (JK WX Wo Wn jU (pvS 2) (za (pvS 4) zd))))))) (zg (zF (zC JI (pvS 2) (qa (za (pb1 (ST.zep hr.hd) T.Zx VV (pt1 (ST.zlq hr.units hr.hd) T.ztm PyProof.Rows.boot_set (pvS 3))) zd))))))))),?_⟩;ac_nf;refine⟨_,rfl,xo,λe he=>?_⟩;have s1:zx H (upd H e (.lst [])):=zc he;refine dW (lD d) (.list []) (.lst (SqL.of (s1 _ _ M)) (zcJ (hC.mono s1))) (.lst (SqL.of zb) .nil) (zdI _ []) ⟨_,rfl,?_⟩;have en:(if false=true then !PyData.eqv (lD d) (.list []) else WW (lD d) (.list []))=d.isEmpty:=by
   show WW _ _=_;exact eq_nil d
  rw[en];by_cases aa:d=[]
  .rw[show d.isEmpty=true by rw[aa];rfl];exact zdc ⟨_,rfl,q1 aa _ s1⟩
  rw[show d.isEmpty=false by rw[Rp];exact aa];refine zap ?_;generalize upd H e (.lst [])=H1 at *
  refine⟨xo,λap aq=>?_⟩;have s2:=s1.trans (zc (o:=.lst []) aq);have ao:upd H1 ap (.lst []) ap=some (.lst []):=zb;have ar:=s1.free aq;generalize upd H1 ap (.lst [])=H2 at *
  refine⟨_,rfl,ca,_,rfl,.inl (SqL.of (s2 _ _ M)),λtg ai=>?_⟩;have z3:=zc (o:=.lst us) ai;have s3:=s2.trans z3;have aB:=z3 _ _ ao;have aE:upd H2 tg (.lst us) tg=some (.lst us):=zb;have az:=s2.free ai;have a5:ap≠tg:=zj ao ai;generalize upd H2 tg (.lst us)=H3 at *
  refine⟨_,rfl,ga,rfl,⟨_,SqL.of (s3 _ _ av)⟩,?_⟩;refine yi (K:=K) (a:=ga) (xs:=ws) (λi σ H'=>∃(ut:AE) (v4:Option V),σ=[some (.ref ga),some (.ref ca),some (.ref ap),some (.ref tg),v4]/\zx H H'/\H' ap=some (.lst (ZZ (λg=>!Parts.meets d g) (ws.take i) (k.take i)))/\H' tg=some (.lst ut)/\Cel H ut (d++((k.take i).filter (Parts.meets d)).flatten))
   (eX us _ rfl s3 aB aE (↑hC)) (λi σ H' _ ⟨_,_,_,z,_⟩=>SqL.of (z _ _ av)) ?_ ?_
  .refine λi x σ H4 hx=>gx λut v4 z0 s4 J ag n=>?_;subst z0;refine fR (λg hg=>fS λam ug z0 ac af=>?_) (x8.get hG hx);subst z0;have gm:=X7 hg;have tk:(k.take (i+1)).filter (Parts.meets d)=(k.take i).filter (Parts.meets d)++if Parts.meets d g=true then [g] else []:=by
    rw[XC,hg,WJ];congr 1;show [g].filter _=_;rw[V5];rfl
   have pk:=zjc (λg=>!Parts.meets d g) hx hg;refine⟨_,rfl,ca,rfl,⟨_,SqL.of (s4 _ _ M)⟩,λz hz=>?_⟩;refine qE (K:=K) (a:=ca) (xs:=us) (λa=>a≠z) (d.map λc=>some (.bool (g.any λz=>decide (z=c)))) (fun σ=>∃u0,σ=[u0,some (.ref am)]) hz (λ_ h=>h) ⟨_,rfl⟩ (by rw[ZB];exact hC.length.symm) (by rw[hC.length];exact X5 ak "d") (SqL.of (s4 _ _ M)) ?_ ?_
   .rintro m v o σ H5 hv ho O _ ⟨u1,rfl⟩ Y Z aH no;have r:=s4.trans O;obtain⟨c,L,rc⟩:=Cel.get (hC.mono r) hv;have eo:=yf L ho;refine yE ⟨_,rfl,_,rfl,zA c,g.map zA,rc.rdv,.lst (SqL.of (r _ _ ac)) (zcJ (af.mono r)),rfl,zbm _,(by show 1<=60;decide),?_⟩;have ei:(if false=true then !(g.map zA).any (λz=>WW z (zA c)) else (g.map zA).any λz=>WW z (zA c))=g.any λz=>decide (z=c):=ZC _ _;rw[ei];exact aH _ _ _ _ eo ⟨_,rfl⟩ (zx.refl _) (.bl _)
   .rintro ys H5 O a4 ay;rw[Yx,show (d.map λc=>Uu (g.any λz=>decide (z=c)))=(d.map λc=>g.any λz=>decide (z=c)).map Uu by rw[Wf];rfl]at ay;rw[zJ.bools ay]at a4;refine fu z _ rfl (SqL.of a4) _ rfl ?_;rw[zlD];have r:=s4.trans O;have u:=O _ _ J;have ah:=O _ _ ag;have an:∀(q:AB->Bool) (j:Nat),(((k.take j).filter q).flatten).length<=63:=λq j=>by
     refine X5 (UQ ?_) ab;refine List.Sublist.trans (Parts.jn q (k.take j)) ?_;have e2:k=k.take j++k.drop j:=(Xc j k).symm;conv=>rhs;rw[e2,Vn]
     exact S8 _ _
    by_cases hp:Parts.meets d g=true
    .refine ju hp ?_;refine⟨_,rfl,.inl ⟨rfl,_,SqL.of ah⟩,_,rfl,tg,am,ut,ug,rfl,rfl,ah,r _ _ ac,?_,?_⟩
     .rw[n.length,af.length,XZ];have a1:=an (Parts.meets d) i;have a2:g.length<=63:=X5 (UQ (UO gm)) ab;exact X5 (show _<=200 by lia) "d"
     .refine eX (ut++ug) _ rfl (λb o eb=>?_) ?_ zb ?_
      .rw[zq (zj eb az)];exact r _ _ eb
      .rw[zq a5,pk,hp];simpa using u
      .rw[tk,bw hp,Vn,<- Ww];simpa using Cel.append n af
    .have ax:=WY.mpr hp;refine qZ ax ?_;refine⟨_,rfl,.inl ⟨rfl,_,SqL.of u⟩,_,rfl,ap,_,_,rfl,rfl,u,?_,?_⟩
     .refine XM (UQ ((Yy _ _ _).trans (SO _ _))) ?_;rw[hG.length];exact XM al "d"
     .refine eX ut _ rfl (λb o eb=>?_) ?_ ?_ ?_
      .rw[zq (zj eb ar)];exact r _ _ eb
      .rw[zb,pk,ax];rfl
      .rw[zq (Vd a5)];exact ah
      .rw[tk,bq hp,W5];exact n
  .refine λσ H4=>gx λut v4 z0 s4 J ag n=>?_;subst z0;rw[XF,hG.length,XF]at J;rw[hG.length,XF]at n;generalize hl:d++(k.filter (Parts.meets d)).flatten=l at n;have lB:∀x∈l,x∈B:=λx hx=>by
    rw[<- hl]at hx;rcases XV.mp hx with hx | hx
    .exact cB x hx
    .exact gB x ((Parts.jn _ k).subset hx)
   refine⟨_,rfl,_,rfl,tg,ut,_,rfl,SqL.of ag,Cel.tup2 (n.mono s4),(λp hp=>?_),(λm hm hs=>?_),λds I aC hT G ae=>?_⟩
   .obtain⟨x,hx,rfl⟩:=XE.mp hp;have:=B8 x (lB x hx);unfold ST.InB toI;show (0<=((x.1:Nat):Int)/\((x.1:Nat):Int)<8)/\(0<=((x.2:Nat):Int)/\((x.2:Nat):Int)<8);lia
   .have h1:=zgc hs;have h2:(m.map ofI).Nodup:=by
     rw[h1]at hm;unfold Pz at hm ⊢;rw[V3]at hm;exact hm.imp λz e=>z (by rw[e])
    have h3:=Parts.yF (b:=B) h2 λx hx=>by
     obtain⟨c,L,rfl⟩:=XE.mp hx;obtain⟨y,hy,rfl⟩:=XE.mp (hs c L);exact lB y hy
    rw[ZB]at h3;lia
   have z5:=zc (o:=ST.zhn P w ds I) aC;have N:∀c∈I.map (·.2),c∈l.map toI:=λc L=>(ae c).mp L;have kl:I.length<=63:=by
    have h1:=zgc N;have h2:((I.map (·.2)).map ofI).Nodup:=by
     rw[h1]at G;unfold Pz at G ⊢;rw[V3]at G;exact G.imp λz e=>z (by rw[e])
    have h3:=Parts.yF (b:=B) h2 λx hx=>by
     obtain⟨c,L,rfl⟩:=XE.mp hx;obtain⟨y,hy,rfl⟩:=XE.mp (N c L);exact lB y hy
    rw[ZB,ZB]at h3;lia
   have au:upd H4 ds (ST.zhn P w ds I) ds=some (ST.zhn P w ds I):=zb;have O:=s4.trans z5;have u:=z5 _ _ J;have aA:∀q∈I,upd H4 ds (ST.zhn P w ds I) q.1=some (.tup [.int q.2.1,.int q.2.2]):=λq hq=>z5 _ _ (hT q hq);refine eK ds I rfl au aA G "a" (λwa a6 aK a3 ht a7 aF=>?_);rw[zgc N]at a7;refine fR (λwc z0 aI=>?_) (zbn a7);subst z0;have z6:=zc (o:=.lst a6) a3;refine⟨sz_1,λp1 aD=>?_⟩;have z7:=zc (o:=.lst [V.ref wa]) aD;have U:=z6.trans z7;refine eS ap p1 _ [.ref wa] rfl rfl (U _ _ u) zb ?_ (λk2 aw=>?_)
   .have a1:(ZZ (λg=>!Parts.meets d g) ws k).length<=63:=X5 (UQ (Yy _ _ _)) (by rw[hG.length];exact al);exact X5 (show _+1<=200 by lia) "d"
   .have z8:=zc (o:=.lst (ZZ (λg=>!Parts.meets d g) ws k++[.ref wa])) aw;have s8:=O.trans (U.trans z8);refine q2 aa k2 wa _ wc _ ((O.trans U).free aw) (O.free a3) zb (Yy _ _ _) ?_ (zrO aF) (λx=>?_) s8
    .exact x8.snoc ((zaN _ hG).mono s8) (ef wa a6 rfl (z8 _ _ (z7 _ _ zb)) (Cel.mono (U.trans z8) (jD ht)))
    .rw[aI.mem_iff,XE];have hx:(∃a,a∈I.map (·.2)/\ofI a=x)↔x∈l:=by
      constructor
      .rintro⟨c,L,rfl⟩;obtain⟨y,hy,rfl⟩:=XE.mp (N c L);exact hy
      .intro h;exact⟨toI x,(ae _).mpr (XE.mpr ⟨x,h,rfl⟩),rfl⟩
     rw[hx,<- hl,XV,WD];constructor
     .rintro(h | ⟨g,h1,h2⟩)
      .exact .inl h
      .exact .inr ⟨g,(XW.mp h1).1,(XW.mp h1).2,h2⟩
     .rintro(h | ⟨g,h1,h2,h3⟩)
      .exact .inl h
      .exact .inr ⟨g,XW.mpr ⟨h1,h2⟩,h3⟩
def zpt:Sp:=λf H Q _=>∃(p l:Addr) (b:AD) (n:Int),f=[.ref p]/\qd H p l b n/\Rows bd.cps.toList b /\
 ∀(d:Addr) (e:AE) (c:List AB) (a:Hp),H d=none->a d=some (.lst e)->x8 a e c->Parts.Good (clA b) (qD b) c->zx H a->Q (.ref d) a
def zje(R:Rows bd.cps.toList rs)(h:x∈zP rs):x.1<8/\x.2<8:=by
 obtain⟨t,k,c,d,_,_⟩:=qi h;have a:=(X6.mp c).1;have b:=(X6.mp d).1;have e:=R.hi;have g:=R.short _ (X7 (qL c));lia
def zni(h:x8 H b gs):Xk (GS.LstAt H) b (gs.map (Tf toI)):=by
 induction h with
 | nil=>exact .nil
 | cons r _ c =>
  obtain⟨a,d,e,h1,h2⟩:=r;exact .cons ⟨a,d,e,h1,h2.tup2⟩ c
def znj:∀{gs:List AB} {b:AE},Xk (GS.LstAt H) b (gs.map (Tf toI))->x8 H b gs:=by
 intro gs;induction gs with
 | nil =>
  intro b h;cases h;exact .nil
 | cons g r c =>
  intro b h;cases h with
  | cons q t =>
   obtain⟨a,d,e,h1,h2⟩:=q;exact .cons ⟨a,d,e,h1,jD h2⟩ (c t)
def zhA(h:ks.Perm (gs.map (Tf toI))):∃a:List AB,ks=a.map (Tf toI)/\a.Perm gs:=by
 have b:∀g:AB,(g.map toI).map ofI=g:=λg=>by
  rw[Wf];exact(Wa λc _=>zqA c).trans (Sf g)
 refine⟨ks.map (Tf ofI),?_,?_⟩
 .rw[Wf];refine(Sf ks).symm.trans (Wa λp d=>?_);obtain⟨c,_,rfl⟩:=XE.mp (h.mem_iff.mp d);show c.map toI=((c.map toI).map ofI).map toI;rw[b]
 .have:=h.map (Tf ofI);rw[Wf]at this;have e:gs.map (Tf ofI∘Tf toI)=gs:=(Wa λc _=>b c).trans (Sf gs);rwa [e]at this
def zbq:zD ["board","found","cell"] ["board"] (zv zcZ):=bh
def zhB(T:Txt mg)(D:zh K mg "parts" zcZ ["board"] f fd)(zR:zh K mg "around" j7 ["board","cell"] f1 ac)(zw:zh K mg "sign_at" qG ["board","cell"] f2 ae)
  (zB:zh K mg "cells_of" qx ["board"] f3 af) (zG:zh K mg "open_cells" qY ["board"] f4 ag) (zM:zh K mg "closed_around" ja ["board","cell"] f5 ah) (Yz:zh K mg "joined" QS ["groups","cells"] f6 ai):qm P w K mg base CX0 3 f fd ["board"] zpt:=by
 refine D.F.ok zbq "l" (λaz A ar s H vs Q E hr h=>?_)
 .revert h;refine gn λp l e n z0 b R q=>?_;subst z0;refine⟨_,(@ze _ _ _ _ _ (@qv _ _ 1 _ _ _ _ zbq.nd rfl (Wm rfl) (@qa _ _ _ _ zd) "r" (.inr rfl)) (ze (qN Xd rfl (zN (pc0 (yN T zG zB zw) hr zG (za (pvS 0) zd))) (pgq 2 zbq.nd) (zg (qz 1 zbq.nd (pc0 (zlE T Yz) hr Yz (za (pvS 1) (za (pc0 (yJ T zM zR zw) hr zM (za (pvS 0) (za (pvS 2) zd))) zd)))))) (zg (zF (pb1 (GS.zat hr.units) T.Zx VV (pvS 1)))))),?_⟩;ac_nf;refine⟨xo,λY ao=>?_⟩;have s0:zx H (upd H Y (.lst [])):=zc ao;have O:upd H Y (.lst []) Y=some (.lst []):=zb;generalize upd H Y (.lst [])=H0 at *
  refine⟨_,rfl,p,l,e,n,rfl,b.mono s0,R,λdc wc H1 a2 ab v s1=>(dX dc rfl ⟨_,SqL.of ab⟩ ?_)⟩;have B:=s0.trans s1;have b1:=b.mono B;have v:Cel H1 wc (qD e):=v;have a5:=zb7 R;refine yi (K:=K) (a:=dc) (xs:=wc) (λi σ L=>∃(k:Addr) (J:AE) (m:List AB) (v2:Option V),σ=[some (.ref p),some (.ref k),v2]/\zx H1 L/\L k=some (.lst J)/\x8 L J m/\Parts.Good (clA e) ((qD e).take i) m)
   (eY Y [] [] _ rfl (zx.refl _) (s1 _ _ O) (.nil) (Parts.Good.start _)) (λi σ L _ ⟨_,_,_,_,_,z,_⟩=>SqL.of (z _ _ ab)) ?_ ?_
  .refine λi x σ H2 y=>gk λk J m v2 z0 I hk M G=>?_;subst z0;refine fW (λc hc ca z0 am=>?_) (Cel.get (Cel.mono I v) y);subst z0;have cm:=X7 hc;refine fQ (λt sg ht hj _ es=>?_) (qi cm);obtain⟨l1,l2⟩:=yT R ht hj;have tk:(qD e).take (i+1)=(qD e).take i++[c]:=by
    rw[XC,hc];rfl
   have j:(zP e).length<=63:=by
    have:=US cm;lia
   have gB:∀x∈m.flatten,x∈zP e:=λx y=>by
    obtain⟨o,_,h2⟩:=G.from_ x y;exact xR h2
   refine⟨_,rfl,_,rfl,_,rfl,p,l,ca,e,n,c,rfl,(b1.mono I),R,am,l1,l2,λd au H3 hd an al u=>?_⟩;have a6:=B.trans (I.trans u);refine fE k d J au m (clA e c) (zP e) rfl (u _ _ hk) (M.mono u) an (fj al (Zi e c) G.nd (λx y=>xR y) (eF gB (λx y=>zje R y) j (X5 (Parts.Yr G.ne) (X5 (Parts.yF G.nd gB) j)) (λaw L s'=>?_) (λaq d2 wa va a7 L a1 a3 N ay ak ax U s'=>?_)))
   .refine eY k J m _ rfl (I.trans (u.trans s')) (s' _ _ (u _ _ hk)) ((M.mono u).mono s') ?_;rw[tk];exact G.skip aw
   .refine eY d2 _ _ _ rfl (I.trans (u.trans s')) N ak ?_;rw[tk];exact zjb G aq (Zi e c) ax U
  .refine λσ H2=>gk λk J m v2 z0 I hk M G=>?_;subst z0;rw[v.length,XF]at G;have aj:∀x∈m.flatten,x∈zP e:=λx y=>by
    obtain⟨o,_,h2⟩:=G.from_ x y;exact xR h2
   have wl:m.length<=63:=by
    cases m with
    | nil=>exact W2 _
    | cons g r =>
     have m1:=head_mem (G.ne g XU);obtain⟨o,ho,_⟩:=G.from_ _ (WD.mpr ⟨g,XU,m1⟩);have:=US ho;have h3:=X5 (Parts.Yr G.ne) (Parts.yF (b:=zP e) G.nd aj);lia
   refine⟨_,rfl,k,J,_,rfl,SqL.of hk,zni M,(by rw[M.length];lia),λd aa a4 hd hl av _=>?_⟩;have u:=zc (o:=.lst aa) hd;obtain⟨ds,rfl,pg⟩:=zhA av;exact q d aa ds _ ((B.trans I).free hd) zb ((znj hl).mono u) (G.perm pg) ((B.trans I).trans u)
def pD(p:Int×Int):Wh:=.tuple [.int p.1,.int p.2]
def znk(p q):WW (pD p) (pD q)=decide (p=q):=PySem.SeqAt.ze1 p q
def PR(H:Hp)(v:V)(p:Int×Int):Prop:=∃a,v=V.ref a/\H a=some (.tup [.int p.1,.int p.2])
def PR.mono(s:zx H b)(h:PR H v p):PR b v p:=let ⟨a,e,h⟩:=h;⟨a,e,s _ _ h⟩
def YA(s:zx H a)(c:xG H b ps):xG a b ps:=by
 induction c with
 | nil=>exact .nil
 | cons h _ d =>
  exact .cons (PR.mono s h) d
def zhC(h:xG H a ps):a.length=ps.length:=Paired.length h
def PR.rdv(h:PR H v p):Rdv K H v (pD p):=by
 obtain⟨a,rfl,h⟩:=h;exact .tup (SqT.of h) (.cons (.int _) (.cons (.int _) .nil))
def znl(b:xG H a ps):xY K H a (ps.map pD):=by
 induction b with
 | nil=>exact .nil
 | cons h _ c =>
  exact .cons (PR.rdv h) c
theorem znm:∀ps:List (Int×Int),Wv (ps.map pD)=true
 | []=>rfl
 | p::r=>by
  show (Ws (pD p)&&Wv (r.map pD))=true;rw[znm r];rfl
def zrQ(ps:List (Int×Int))(p):(ps.map pD).any (λz=>WW z (pD p))=ps.any λz=>decide (z=p):=by
 rw[T4];congr 1;funext z;exact znk z p
def zrR(ps:List (Int×Int))(c):(ps.map pD).any (λz=>WW z (zA c))=ps.any λz=>decide (z=toI c):=zrQ ps (toI c)
def zaO{H:Hp}(h:H a=some o)(hz:H z=some c)(b:o≠c):a≠z:=λe=>by
 subst e;rw[h]at hz;exact b (Option.some.inj hz)
def zpu(hz:H z=some (.lst ys))(h:PR H v p):PR (upd H z (.lst b)) v p:=by
 obtain⟨a,e,h⟩:=h;refine⟨a,e,?_⟩;rw[zq (zaO h hz (λz=>nomatch z))];exact h
def YB(hz:H z=some (.lst ys))(c:xG H b ps):xG (upd H z (.lst a)) b ps:=by
 induction c with
 | nil=>exact .nil
 | cons h _ d =>
  exact .cons (zpu hz h) d
def yh(N:Addr->Prop)(H:Hp):AE->List (List (Int×Int))->Prop:=Xk λv k=>∃a b,v=V.ref a/\N a/\H a=some (.lst b)/\xG H b k
def jq(s:zx H b)(d:yh N H c ks):yh N b c ks:=by
 induction d with
 | nil=>exact .nil
 | cons q _ f =>
  obtain⟨a,g,e,n,h,t⟩:=q;exact .cons ⟨a,g,e,n,s _ _ h,YA s t⟩ f
def zaP(w:∀a,N a->M a)(c:yh N H b ks):yh M H b ks:=by
 induction c with
 | nil=>exact .nil
 | cons q _ d =>
  obtain⟨a,f,e,n,h,t⟩:=q;exact .cons ⟨a,f,e,w a n,h,t⟩ d
def ZD(hz:H z=some (.lst ys))(w:∀a,N a->a≠z)(d:yh N H c ks):yh N (upd H z (.lst b)) c ks:=by
 induction d with
 | nil=>exact .nil
 | cons q _ f =>
  revert q;refine fQ λa g e n h t=>?_;exact .cons ⟨a,g,e,n,by rw[zq (w a n)];exact h,YB hz t⟩ f
def zaj(h:yh N H c ks)(k:yh N H b a):yh N H (c++b) (ks++a):=zbR h k
def jh(h:yh N H a ks):a.length=ks.length:=Paired.length h
def zbr{i:Nat}(h:yh N H c ks)(e:c[i]?=some v):∃k a b,ks[i]?=some k/\v=V.ref a/\N a/\H a=some (.lst b)/\xG H b k:=by
 refine fR (λk h1=>gO λa b h2=>?_) (Qv h e);exact⟨k,a,b,h1,h2⟩
def zlF(c:yh N H b ks):Xk (GS.LstAt H) b ks:=by
 induction c with
 | nil=>exact .nil
 | cons q _ d =>
  obtain⟨a,f,e,_,h,t⟩:=q;exact .cons ⟨a,f,e,h,t⟩ d
def znn{c:AE}(f:Xk (GS.LstAt H) c ks)(n:∀v∈c,∃a,v=V.ref a/\N a):yh N H c ks:=by
 induction f with
 | nil=>exact .nil
 | cons q _ i =>
  obtain⟨a,k,e,h,t⟩:=q;obtain⟨b,d,j⟩:=n _ XU;subst e;cases d;exact .cons ⟨_,k,rfl,j,h,t⟩ (i λv g=>n v (XS _ g))
def zlG(h:yh N H c ks)(e:v∈c):∃a b,v=V.ref a/\N a/\H a=some (.lst b):=by
 refine fR (λk _=>fQ λa b h1 h2 d _=>?_) (zrm h e);exact⟨a,b,h1,h2,d⟩
def zhD(h:xG H c ps)(k:xG H b a):xG H (c++b) (ps++a):=zbR h k
def Z8(rs:AD)(c:AA):Int:=((Cells.sgn (codes rs) c:Nat):Int)-48
abbrev TN:=Int×AB
def zhE(H:Hp)(v:V)(t:TN):Prop:=∃a b c,v=V.ref a/\H a=some (.tup [.int t.1,.ref b])/\H b=some (.lst c)/\Cel H c t.2
def inC(a b:AB):Nat:=(b.filter λc=>decide (c∈a)).length
def zhF(c H:Hp)(b:AB)(v:V)(t:TN):Prop:=∃a d e,v=V.ref a/\H a=some (.tup [.int (t.1-((inC b t.2:Nat):Int)),.int t.1,.ref d])/\c d=some (.lst e)/\Cel c e t.2
def zlH(s:zx H b){vs:AE}(g:Xk (zhE H) vs c):Xk (zhE b) vs c:=Paired.imp' (λ_ _ ⟨a,h,i,e,h1,d,f⟩=>(dZ a h i e (s _ _ h1) (s _ _ d) (f.mono s))) g
def zak{f :Hp}(z:zx d f)(s:zx H c){vs:AE}(h:Xk (zhF d H b) vs g):Xk (zhF f c b) vs g:=Paired.imp' (λ_ _ ⟨a,k,l,e,h1,i,j⟩=>(dZ a k l e (s _ _ h1) (z _ _ i) (j.mono z))) h
def InB(a p:AB)(t:TN):Prop:=t.1-((inC a t.2:Nat):Int)<=((inC t.2 p:Nat):Int)/\((inC t.2 p:Nat):Int)<=t.1
structure Ned (ts us:List TN)(c:AA):Prop where
 s:∀u∈us,u∈ts
 a:∀t∈ts,c∈t.2->t∈us
def zko(cs:AB)(c):(cs.any λz=>decide (z=c))=decide (c∈cs):=by
 rw[V9,WH,bu];constructor
 .rintro⟨x,h1,h2⟩;rw[<- bg h2];exact h1
 .exact λh=>⟨c,h,br rfl⟩
def zhG(g:AB)(c):(if false=true then !(g.map zA).any (λz=>WW z (zA c)) else (g.map zA).any λz=>WW z (zA c))=decide (c∈g):=(ZC _ _).trans (zko _ _)
def zpv:Sp:=λm H Q _=>∃(h f g:Addr) (k i:AE) (e:List TN) (a:AB) (c:AA),m=[.ref h,.ref f,.ref g]/\H h=some (.lst k)/\Xk (zhE H) k e/\e.length<=64/\(∀t∈e,t.2.length<=64)/\H f=some (.tup [.int (c.1:Nat),.int (c.2:Nat)])/\H g=some (.lst i)/\Cel H i a /\
 ∀(d:Addr) (l:AE) (j:List TN) (b:Hp),b d=some (.lst l)->Xk (zhF b b a) l j->Ned e j c->zx H b->Q (.ref d) b
def ztq:Sp:=λg H Q _=>∃(d e:Addr) (un up:AE) (f:List TN) (a p:AB),g=[.ref d,.ref e]/\H d=some (.lst un)/\Xk (zhF H H a) un f/\H e=some (.lst up)/\Cel H up p/\p.length<=64 /\
 ∀(b:Bool) (c:Hp),(b=true ↔ ∀t∈f,InB a p t)->zx H c->Q (.bl b) c
def JE:zD ["told","cell","rest","needs","number","near","left"] ["told","cell","rest"] (zv x6):=bh
def zhH(T:Txt mg)(D:zh K mg "needs_at" x6 ["told","cell","rest"] f fd):qm P w K mg base CX0 1 f fd ["told","cell","rest"] zpv:=by
 refine D.F.ok JE "l" (λaq A al s H vs Q E hr h=>?_)
 .revert h;refine fU λta ca ra ut=>gk λur ts g c z0 aa hT ol=>gc λtl af ai ag q=>?_;subst z0;refine⟨_,(@ze _ _ _ _ _ (@qv _ _ 3 _ _ _ _ JE.nd rfl (Wm rfl) (@qa _ _ _ _ zd) "r" (.inr rfl)) (ze (qN Xd rfl (zN (pvS 0)) (JH rfl (zY (pgq 4 JE.nd) (zY (pgq 5 JE.nd) jR))) (zg (qH (zI (zdd hr.units) (pvS 1) (pvS 5) "r") (ze (qz 6 JE.nd (pb1 zH T.qQ Xl (pcm ["place","rest"] [none,some 2] cR (zN (pvS 5)) (pgN 0) (qA (zI (jC (K:=K) "r" hr.units) (pvS 0) (pvS 1) "r")) (pvS 0)))) (zg (jA (JK WX Wo Wn jU (pvS 3) (za (qu (za (zC yQ (pvS 4) (pvS 6)) (za (pvS 4) (za (pvS 5) zd)))) zd))))) zV))) (zg (zF (pvS 3))))),?_⟩;ac_nf;refine⟨xo,λd hd=>?_⟩;have s0:=zc (o:=.lst []) hd;refine⟨_,rfl,ta,rfl,⟨_,SqL.of (s0 _ _ aa)⟩,?_⟩;refine yi (K:=K) (a:=ta) (xs:=ut) (λi M H'=>∃(l:AE) (L:List TN) (v4 v5 v6:Option V),M=[some (.ref ta),some (.ref ca),some (.ref ra),some (.ref d),v4,v5,v6]/\zx H H'/\H' d=some (.lst l)/\l.length<=i/\Xk (zhF H H' g) l L/\Ned (ts.take i) L c)
   (eH [] [] _ _ _ rfl s0 zb (XQ _) (.nil) ⟨(λ_ h=>nomatch h),λ_ h=>nomatch h⟩) (λi M H' _ ⟨_,_,_,_,_,_,z,_⟩=>SqL.of (z _ _ aa)) ?_ ?_
  .refine λi x M H1 hx=>gp λl L v4 v5 v6 z0 s1 k ul hN J=>?_;subst z0;refine gG (λt ht a na wn z0 ae r p=>?_) (Qv hT hx);subst z0;have tm:=X7 ht;have ha:=s1 _ _ ae;have G:=s1 _ _ r;have n:=p.mono s1;have il:=(X6.mp ht).1;rw[XC,ht];refine eO a _ rfl (SqT.of ha) rfl _ _ rfl _ _ rfl rfl ?_;refine⟨_,rfl,_,rfl,zA c,t.2.map zA,xP.rdv ⟨ca,rfl,s1 _ _ af⟩,.lst (SqL.of G) (zcJ n),rfl,zbm _,(by show 1<=60;decide),_,rfl,QH (λar=>?_) λy=>(eH l L _ _ _ rfl s1 k "a" hN ⟨(λu hu=>Xa _ (J.s u hu)),λt' ht' j=>?_⟩)⟩
   case refine_2 =>
    rcases XV.mp ht' with ht' | ht'
    .exact J.a t' ht' j
    .rw[zhG]at y;rw[Xy.mp ht']at j;exact absurd (br j) y
   refine⟨_,rfl,na,rfl,⟨_,SqL.of G⟩,λz hz=>?_⟩;refine qE (K:=K) (a:=na) (xs:=wn) (λa=>a≠z) (t.2.map λx=>if decide (x∈g)=true then some (zA x) else none) (fun M=>∃u0,M=[u0,some (.ref ra)]) hz (λ_ h=>h) ⟨_,rfl⟩ (by rw[ZB];exact n.length.symm) (by rw[n.length];exact X5 (tl t tm) "d") (SqL.of G) ?_ ?_
   .rintro m v u M H2 hv hu N _ ⟨u1,rfl⟩ Y Z ao no;obtain⟨e,he,rc⟩:=Cel.get (n.mono N) hv;have eo:=yf he hu;refine⟨_,rfl,_,rfl,zA e,g.map zA,rc.rdv,.lst (SqL.of (N _ _ (s1 _ _ ai))) (zcJ ((ag.mono s1).mono N)),rfl,zbm _,(by show 1<=60;decide),_,rfl,?_⟩;rw[zhG];by_cases hp:decide (e∈g)=true
    .rw[bw hp]at eo;exact ju hp ⟨_,rfl,ao _ _ _ _ eo ⟨_,rfl⟩ (zx.refl _) rc.rdn⟩
    .rw[bq hp]at eo;exact qZ (WY.mpr hp) (no _ _ eo ⟨_,rfl⟩ (zx.refl _))
   rintro ys H2 N aj U;rw[qy]at U;have yl:ys.length=inC g t.2:=(zJ.cel U).length;have B:=N _ _ k;refine⟨z,ys,rfl,.inl (SqL.of aj),?_⟩;rw[yl];refine⟨_,rfl,.inl ⟨rfl,_,SqL.of B⟩,_,rfl,_,rfl,_,_,rfl,rfl,_,rfl,_,rfl,zeo,λtt I=>?_⟩;have z3:=zc (o:=.tup [.int (t.1-((inC g t.2:Nat):Int)),.int t.1,.ref na]) I;have am:=N.trans z3;have ah:=z3 _ _ B;have nt:tt≠d:=λe=>by
    subst e;rw[B]at I;cases I
   have up:∀b o,b≠d->H1 b=some o->upd (upd H2 tt (.tup [.int (t.1-((inC g t.2:Nat):Int)),.int t.1,.ref na])) d (.lst (l++[.ref tt])) b=some o:=λb o nb e=>by
    rw[zq nb];exact am _ _ e
   refine⟨d,l,_,rfl,rfl,ah,XM (show l.length<=64 by lia) "d",l++[.ref tt],L++[t],_,_,_,rfl,λb e' h'=>up b e' (zj h' hd) (s1 _ _ h'),zb,by rw[XZ];exact Sq ul,Paired.snoc (Paired.imp' (λ_ _ ⟨a',ak,an,e',O,ab,ac⟩=>(dZ a' ak an e' (up _ _ (zaO O k (by intro q;cases q)) O) ab ac)) hN) (dZ tt na wn rfl (by rw[zq nt,zb]) r p),λu hu=>?_,λt' ht' j=>?_⟩
   .exact(XV.mp hu).elim (λh=>Xa _ (J.s u h)) (Xm _)
   .exact(XV.mp ht').elim (λh=>Xa _ (J.a t' h j)) (Xm _)
  .refine λM H1=>gp λl L v4 v5 v6 z0 s1 k _ hN J=>?_;subst z0;rw[Paired.length hT,XF]at J;exact⟨_,rfl,q d l L H1 k (zak s1 (zx.refl _) hN) J s1⟩
def Qg:zD ["needs","pick","least","most","near"] ["needs","pick"] (zv Zf):=bh
def zjf(T:Txt mg)(D:zh K mg "may_fit" Zf ["needs","pick"] f fd):qm P w K mg base CX0 1 f fd ["needs","pick"] ztq:=by
 refine D.F.ok Qg "l" (λab A M s H vs Q E hr h=>?_)
 .revert h;refine fU λy B un up=>gq λus b p z0 k hN l c pl q=>?_;subst z0;refine⟨_,(ze (qN Xd rfl (zN (pvS 0)) (JH rfl (zY (pgq 2 Qg.nd) (zY (pgq 3 Qg.nd) (zY (pgq 4 Qg.nd) jR)))) (zg (qH (zaD (QE Z6 Z6 (pvS 2) (pb1 zH T.qQ Xl (pcm ["cell","near"] [none,some 4] cR (zN (pvS 1)) (pgN 0) (qA (zI (jC (K:=K) "r" hr.units) (pvS 0) (pvS 1) "r")) (pvS 0))) (pvS 3))) (@zg _ _ _ (@zF _ _ _ _ za1)) zV))) (@zg _ _ _ (@zF _ _ _ _ za1))),?_⟩;ac_nf;refine⟨_,rfl,y,rfl,⟨_,SqL.of k⟩,?_⟩;refine yi (K:=K) (a:=y) (xs:=un) (λi d H'=>∃(N O U:Option V),d=[some (.ref y),some (.ref B),N,O,U]/\zx H H'/\∀t∈us.take i,InB b p t) (fN _ _ _ rfl (zx.refl _) (λ_ h=>nomatch h)) (λi d H' _ ⟨_,_,_,_,z,_⟩=>SqL.of (z _ _ k)) ?_ ?_
  .refine λi x d H1 hx=>gi λN O U z0 s1 ok=>?_;subst z0;refine gG (λt ht a ra wn z0 ha J I=>?_) (Qv (zak s1 s1 hN) hx);subst z0;have tm:=X7 ht;rw[XC,ht];refine fP a _ rfl (SqT.of ha) rfl _ _ rfl (fG _ _ rfl (ef _ _ rfl rfl ?_));refine⟨_,rfl,_,rfl,B,rfl,⟨_,SqL.of (s1 _ _ l)⟩,λz hz=>?_⟩;refine qE (K:=K) (a:=B) (xs:=up) (λa=>a≠z) (p.map λx=>if decide (x∈t.2)=true then some (zA x) else none) (fun d=>∃u0,d=[u0,some (.ref ra)]) hz (λ_ h=>h) ⟨_,rfl⟩ (by rw[ZB];exact c.length.symm) (by rw[c.length];exact X5 pl "d") (SqL.of (s1 _ _ l)) ?_ ?_
   .rintro m v u d G hv hu g _ ⟨u1,rfl⟩ Y Z aa no;obtain⟨e,he,rc⟩:=Cel.get ((c.mono s1).mono g) hv;have o:=yf he hu;refine⟨_,rfl,_,rfl,zA e,t.2.map zA,rc.rdv,.lst (SqL.of (g _ _ J)) (zcJ (I.mono g)),rfl,zbm _,(by show 1<=60;decide),_,rfl,?_⟩;rw[zhG];by_cases r:decide (e∈t.2)=true
    .rw[bw r]at o;exact ju r ⟨_,rfl,aa _ _ _ _ o ⟨_,rfl⟩ (zx.refl _) rc.rdn⟩
    .rw[bq r]at o;exact qZ (WY.mpr r) (no _ _ o ⟨_,rfl⟩ (zx.refl _))
   rintro ys G g L n;rw[qy]at n;have yl:ys.length=inC t.2 p:=(zJ.cel n).length;refine⟨z,ys,rfl,.inl (SqL.of L),?_⟩;rw[yl];have j:¬ (t.1-((inC b t.2:Nat):Int)<=((inC t.2 p:Nat):Int)/\((inC t.2 p:Nat):Int)<=t.1)->Q (.bl false) G:=λe=>q false G ⟨(λz=>nomatch z),λz=>absurd (z t tm) e⟩ (s1.trans g);refine⟨_,_,rfl,rfl,_,rfl,?_⟩;by_cases h1:t.1-((inC b t.2:Nat):Int)<=((inC t.2 p:Nat):Int)
   .rw[br h1];refine zdc ⟨_,rfl,_,_,rfl,rfl,_,rfl,?_⟩;by_cases h2:((inC t.2 p:Nat):Int)<=t.1
    .rw[br h2];refine zap (fN _ _ _ rfl (s1.trans g) (λt' ht'=>?_));rcases XV.mp ht' with ht' | ht'
     .exact ok t' ht'
     .rw[Xy.mp ht'];exact⟨h1,h2⟩
    .rw[bf h2];exact zdc (j λz=>h2 z.2)
   .rw[bf h1];refine zap (dY _ rfl ?_);exact zdc (j λz=>h1 z.1)
  .refine λd H1=>gi λN O U z0 s1 ok=>?_;subst z0;rw[Paired.length hN,XF]at ok;exact q true H1 ⟨λ_=>ok,λ_=>rfl⟩ s1
def toL(q:AB):List (Int×Int):=q.map toI
def zpw(rs:AD)(part q:AB):Prop:=∀o∈zbp rs part,((inC (zE rs o) q:Nat):Int)=Z8 rs o
abbrev zpx (rs:AD)(part:AB)(L:AA->Bool):Prop:=zpw rs part (part.filter L)
structure zkp (rs:AD)(part:AB)(L:AA->Bool)(ks:List (List (Int×Int))):Prop where
 own:toL (part.filter L)∈ks
 all:∀k∈ks,∃q,k=toL q/\q.Sublist part/\zpw rs part q
 few:ks.length<=16384
def zkp.len(h:zkp rs part L ks):∀k∈ks,k.length<=part.length:=λk hk=>by
 obtain⟨q,rfl,s,_⟩:=h.all k hk;unfold toL;rw[ZB];exact s.length_le
def zud(i:Addr):Sp:=λj H Q E=>∃(a l g:Addr) (e:AD) (n:Int) (c:AE) (part:AB) (L:AA->Bool),j=[.ref a,.ref g]/\qd H a l e n/\Rows bd.cps.toList e/\H g=some (.lst c)/\Cel H c part/\part.Nodup/\part.length<=64/\zpx e part L/\(14<part.length->∀b,zx H b->E (.ref i) none b)/\(part.length<=14 ->
 ∀(d:Addr) (h:AE) (f:List (List (Int×Int))) (b:Hp),H d=none->b d=some (.lst h)->yh (λa=>H a=none/\a≠d) b h f->zkp e part L f->zx H b->Q (.ref d) b)
structure Pre (rs:AD)(part:AB)(i:Nat)(q:AB):Prop where
 s:q.Sublist (part.take i)
 f:∀o∈zbp rs part,(∀x∈part.drop i,x ∉ zE rs o)->((inC (zE rs o) q:Nat):Int)=Z8 rs o
def zno(h:o∈zbp rs part):∃x∈part,x∈zE rs o:=by
 unfold zbp at h;obtain⟨b,d,a⟩:=WH.mp (XW.mp h).2;obtain⟨z,c,rfl⟩:=XE.mp d;obtain⟨x,f,e⟩:=WH.mp a;rw[<- bg e]at c;exact⟨x,f,c⟩
def Pre.nil(rs)(part):Pre rs part 0 []:=⟨Tn _,λo b h=>by
 obtain⟨x,c,a⟩:=zno b;exact absurd a (h x c)⟩
def znp(h:∀x∈a,x ∉ b):inC a b=0:=by
 unfold inC;rw[Vv,VI];intro x c e;exact h x (bg e) c
def Pre.step(g:part[i]?=some c)(n:Ned ((zbp rs part).map λo=>(Z8 rs o,zE rs o)) m c)(h:Pre rs part i q\/∃p,Pre rs part i p/\q=p++[c])(ok:∀t∈m,InB (part.drop (i+1)) q t):Pre rs part (i+1) q:=by
 have e:part.drop i=c::part.drop (i+1):=by
  have r:=(X6.mp g).1;rw[Wt r,(X6.mp g).2]
 constructor
 .rw[XC,g];rcases h with h | ⟨p,h,rfl⟩
  .exact h.s.trans (S8 _ _)
  .exact List.Sublist.append h.s (List.Sublist.refl _)
 .intro o j l;by_cases k:c∈zE rs o
  .have b:=ok _ (n.a _ (XE.mpr ⟨o,j,rfl⟩) k);unfold InB at b;have z:inC (part.drop (i+1)) (zE rs o)=0:=znp l;have u:Z8 rs o-((inC (part.drop (i+1)) (zE rs o):Nat):Int)<=((inC (zE rs o) q:Nat):Int):=b.1;have v:((inC (zE rs o) q:Nat):Int)<=Z8 rs o:=b.2;lia
  .have d:∀x∈part.drop i,x ∉ zE rs o:=λx hx'=>by
    rw[e]at hx';rcases XG.mp hx' with rfl | hx'
    .exact k
    .exact l x hx'
   rcases h with h | ⟨p,h,rfl⟩
   .exact h.f o j d
   .rw[<- h.f o j d];unfold inC;rw[WJ,V5,bq ↑k,List.filter_nil,W5]
def zlI(rs)(c):(zE rs c).Nodup:=(qq (Cells.jH _ 0 (codes rs))).sublist Xn
def zpy(A x y):inC A (x++y)=inC A x+inC A y:=by
 unfold inC;rw[WJ,XZ]
def zpz(g:part.Nodup)(h:zpx rs part L)(i):∀t∈(zbp rs part).map (λo=>(Z8 rs o,zE rs o)),t.1-((inC (part.drop i) t.2:Nat):Int)<=((inC t.2 ((part.take i).filter L):Nat):Int)/\((inC t.2 ((part.take i).filter L):Nat):Int)<=t.1:=λt f=>by
 obtain⟨o,d,rfl⟩:=XE.mp f;have e:=h o d;have c:part.filter L=(part.take i).filter L++(part.drop i).filter L:=by rw[<- WJ,Xc]
 rw[c,zpy]at e;have l:inC (zE rs o) ((part.drop i).filter L)<=inC (part.drop i) (zE rs o):=by
  have a:inC (zE rs o) ((part.drop i).filter L)<=inC (zE rs o) (part.drop i):=(List.filter_sublist.filter _).length_le;have b:inC (zE rs o) (part.drop i)=inC (part.drop i) (zE rs o):=UY ((WV ((g.sublist (List.drop_sublist _ _)).sublist Xn) ((zlI rs o).sublist Xn)).mpr λx=>by
   rw[XW,XW,bu,bu];exact And.comm)
  lia
 show Z8 rs o-_<=_/\_<=Z8 rs o;show Z8 rs o-((inC (part.drop i) (zE rs o):Nat):Int)<=((inC (zE rs o) ((part.take i).filter L):Nat):Int)/\((inC (zE rs o) ((part.take i).filter L):Nat):Int)<=Z8 rs o;lia
def tD2(rs:AD)(c:AA):Wh:=.tuple [.int (Z8 rs c),.list ((zE rs c).map zA)]
def znq(h:Rdn N H v (tD2 rs c)):zhE H v (Z8 rs c,zE rs c):=by
 unfold tD2 at h;generalize a:(zE rs c).map zA=ds at h;cases h with
 | tup h t =>
  cases t with
  | cons b t =>
   cases b;cases t with
   | cons d t =>
    cases t;cases d with
    | lst n h1 h2 =>
     subst a;exact dZ _ _ _ rfl h h1 (zJ.cel h2)
theorem zfk:∀{cs:AB} {vs:AE},zJ N H vs (cs.map (tD2 rs))->Xk (zhE H) vs (cs.map λo=>(Z8 rs o,zE rs o))
 | [],_,.nil=>.nil
 | _::_,_,.cons h t=>.cons (znq h) (zfk t)
def Qh{A B:Hp->Prop}(h:A H):zmm c H λb a=>if b=true then A a else B a:=by
 show if true=true then A H else B H
 rw[bw rfl];exact h
def znr{F:List AB}{j:Nat}(h:(F.map toL)[j]?=some k):∃q,F[j]?=some q/\k=toL q:=by
 rw[Xp]at h;cases e:F[j]? with
 | none=>rw[e]at h;cases h
 | some q =>
  rw[e]at h;cases h;exact⟨q,rfl,rfl⟩
def zhI(xs)(i)(a:i<xs.length):zei xs (some (((i:Nat):Int)+1)) none=xs.drop (i+1):=by
 have e:HT.sIx xs.length 0 (some (((i:Nat):Int)+1))=i+1:=by
  have:=HT.zjX xs.length 0 (i+1);rw[Pg]at this;rw[show (((i:Nat):Int)+1)=((i:Nat):Int)+((1:Nat):Int) from rfl,this];lia
 unfold zei;rw[e];show (xs.drop (i+1)).take (xs.length-(i+1))=_;rw[Wd (by rw[UM];lia)]
theorem zhJ:∀{a:AE} {cs:AB} (i:Nat),Cel H a cs->Cel H (a.drop i) (cs.drop i)
 | _,_,0,h=>h
 | _,_,i+1,.nil=>.nil
 | _,_,i+1,.cons _ t=>zhJ i t
def qV:zD ["board","part","told","found","place","cell","needs","grown"] ["board","part"] (zv yq):=bh
def Qy(b6:qw K mg "TooGreat" jaj)(T:Txt mg)(D:zh K mg "part_layings" yq ["board","part"] f fd)(zR:zh K mg "around" j7 ["board","cell"] f1 aN)(zw:zh K mg "sign_at" qG ["board","cell"] f2 aO)
  (zB:zh K mg "cells_of" qx ["board"] f3 aP) (zG:zh K mg "open_cells" qY ["board"] f4 aQ) (qf:zh K mg "number_at" jN ["board","cell"] f5 aR) (jE:zh K mg "numbers_of" yH ["board","part"] f6 aS)
  (yr:zh K mg "needs_at" x6 ["told","cell","rest"] f7 aT) (yX:zh K mg "may_fit" Zf ["needs","pick"] f8 aU):qm P w K mg base (CXE P w) 4 f fd ["board","part"] (zud jaj):=by
 refine D.F.okX qV "l" (λbG A b8 s H vs Q E hr h=>?_)
 .revert h;refine fU λa l pa G=>gk λn B part L z0 b R ay=>gj λak b9 bI aV qg q=>?_;subst z0;have ul:=ak.length;refine⟨_,(ze (qH (zI zf4 (pb1 zH T.qQ Xl (pvS 1)) (jz (v:=.int 14) "r" T.zdF.choose_spec (by exact⟨_,rfl⟩)) (zT _)) (zg (zg1 j9 b6 "r" rfl (@za _ _ _ _ _ jQ zd rfl))) zV) (ze (psC 2 qV.nd ["cell","board"] [none,some 0] cR (zN (pc0 (zex T jE zR zw zB zG) hr jE (za (pvS 0) (za (pvS 1) zd)))) (pgN 0) qp (qu (za (pc0 (Qf T qf zw) hr qf (za (pvS 1) (za (pvS 0) zd))) (za (pc0 (Yw T zR) hr zR (za (pvS 1) (za (pvS 0) zd))) zd)))) (@ze _ _ _ _ _ (@qv _ _ 3 _ _ _ _ qV.nd rfl (Wm rfl) (@qa _ _ _ _ (@za _ _ _ _ _ (@qa _ _ _ _ zd) zd rfl)) "r" (.inr rfl)) (ze (qN (yj.own j9) rfl (JA "r" T.je (za (pvS 1) zd)) (JH rfl (zY (pgq 4 qV.nd) (zY (pgq 5 qV.nd) jR))) (ze (qz 6 qV.nd (pc0 (zhH T yr) hr yr (za (pvS 2) (za (pvS 5) (za (zdb zfJ (pvS 1) (zcT (zC jt (pvS 4) zf)) za3) zd))))) (ze (qz 7 qV.nd (zC JI (pvS 3) (pcm ["pick","cell"] [none,some 5] cR (zN (pvS 3)) (pgN 0) qp (zC JI (pvS 0) (qa (za (pvS 1) zd)))))) (zg (psC 3 qV.nd ["pick","needs"] [none,some 6] cR (zN (pvS 7)) (pgN 0) (qA (zbQ (K:=K) "r" (pc0 (zjf T yX) hr yX (za (pvS 1) (za (pvS 0) zd))) (λ_=>rfl))) (pvS 0)))))) (zg (zF (pb1 (GS.zat hr.units) T.Zx VV (pvS 3)))))))),?_⟩;ac_nf;refine⟨_,rfl,pa,B,rfl,.inl (SqL.of ay),_,_,rfl,rfl,_,rfl,?_⟩;by_cases aX:14<part.length
  .exact ju (br "a") ⟨sz_1,qg aX H (zx.refl _)⟩
  have pl:part.length<=14:="a"
  have q:=q pl;refine qZ (bf "a") ?_;refine⟨_,rfl,_,rfl,a,l,pa,G,n,B,part,rfl,b,R,ay,ak,λd ws H1 hd aB av s1=>(dX d rfl ⟨_,SqL.of aB⟩ (λz hz=>?_))⟩;have b1:=b.mono s1;have nl:(zbp G part).length<=64:=X5 (WP _ _) (jg (p:=Qw) R);refine qE (K:=K) (a:=d) (xs:=ws) (λa=>a≠z) ((zbp G part).map λc=>some (tD2 G c)) (fun σ=>∃u0,σ=[u0,some (.ref a)]) hz (λ_ h=>h) ⟨_,rfl⟩ (by rw[ZB];exact av.length.symm) (by rw[av.length];exact X5 nl "d") (SqL.of aB) ?_ ?_
  .rintro k x o σ H2 hx ho s2 b4 ⟨u0,rfl⟩ Y Z bD no;obtain⟨y,hy,r1⟩:=Cel.get av hx;have eo:=yf hy ho;have yo:y∈qD G:=(XW.mp (X7 hy)).1;refine fQ (λt sg ht hj bo es=>?_) (qi yo);obtain⟨ya,rfl,b0⟩:=r1;obtain⟨l1,l2⟩:=yT R ht hj;obtain⟨o1,o2⟩:=zb4 (zkm R ht hj) bo;have b2:=b1.mono s2;have au:=s2 _ _ b0;refine yE ⟨_,rfl,_,rfl,a,l,ya,G,n,y.1,y.2,t,sg,rfl,b2,au,ht,hj,R.tlen ht,o1,o2,_,rfl,_,rfl,a,l,ya,G,n,y.1,y.2,rfl,b2,R,au,l1,l2,λd2 bJ H3 bi bj bc s3=>⟨yL,λtt a2=>?_⟩⟩;have s4:=zc (o:=.tup [.int (((sg:Nat):Int)-48),.ref d2]) a2;have en:Z8 G y=((sg:Nat):Int)-48:=by
    unfold Z8;rw[es]
   refine bD _ _ _ _ eo ⟨_,rfl⟩ (s3.trans s4) (.tup zb (.cons ?_ (.cons (.lst (λe=>b4 (e ▸ bi)) (s4 _ _ bj) (Cel.rdn (bc.mono s4))) .nil)));rw[en];exact .int _
  rintro ut H2 s2 b3 aG;rw[Yx]at aG;have hT:=zfk aG;have ai:=s1.trans s2;refine⟨xo,λe0 aC=>⟨sz_1,λf0 bm=>?_⟩⟩;have y1:=zc (o:=.lst []) aC;have y2:=zc (o:=.lst [.ref e0]) bm;have aK:=y1.trans y2;have aY:yh (λa=>H2 a=none) (upd (upd H2 e0 (.lst [])) f0 (.lst [.ref e0])) [.ref e0] ([[]]:List (List (Int×Int))):=.cons (dW e0 [] rfl aC (y2 _ _ zb) (.nil)) .nil;have bn:upd (upd H2 e0 (.lst [])) f0 (.lst [.ref e0]) f0=some (.lst [.ref e0]):=zb;generalize upd (upd H2 e0 (.lst [])) f0 (.lst [.ref e0])=H3 at *
  have af:=ai _ _ ay;refine⟨_,rfl,pa,rfl,⟨_,SqL.of (aK _ _ af)⟩,?_⟩;refine xZ (K:=K) (l:=pa) (xs:=B) (λi σ J=>∃(fa:Addr) (fs:AE) (v4 v5 v6 v7:Option V) (F:List AB),σ=[some (.ref a),some (.ref pa),some (.ref z),some (.ref fa),v4,v5,v6,v7]/\zx H2 J/\J fa=some (.lst fs)/\yh (λa=>H2 a=none) J fs (F.map toL)/\(part.take i).filter L∈F/\(∀q∈F,Pre G part i q)/\F.length<=2^i)
   (er f0 _ _ _ (eU _ _ [[]] rfl aK bn aY XU (λq hq=>by rw[Xy.mp hq];exact Pre.nil G part) (XQ _))) (λi σ J _ ⟨_,_,_,_,_,_,_,_,y,_⟩=>SqL.of (y _ _ af)) ?_ ?_
  .refine λi x tt σ H4 hx a2=>fU λfa fs v4 v5=>gq λv6 v7 F z0 s4 ax hL own pr gl=>?_;subst z0;have dp:∀q∈F,q.length<=i:=λq hq=>X5 (pr q hq).s.length_le (by rw[XH];lia);refine fW (λc hc u z0 be=>?_) (Cel.get ((ak.mono ai).mono s4) hx);subst z0;have il:=(X6.mp hx).1;have z5:=zc (o:=.tup [.int (i:Nat),.ref u]) a2;refine eO tt _ rfl (SqT.of zb) rfl _ _ rfl _ _ rfl rfl ?_;have s5:=s4.trans z5;have ar:=z5 _ _ be;have aD:=z5 _ _ ax;have aZ:=jq z5 hL;generalize upd H4 tt (.tup [.int (i:Nat),.ref u])=H5 at *
   refine⟨_,rfl,_,rfl,_,rfl,_,rfl,_,_,rfl,rfl,_,rfl,pa,B,rfl,SqL.of (s5 _ _ af),λx1 bx=>?_⟩;have e1:=zhI B i il;rw[e1]at *
   have z6:=zc (o:=.lst (B.drop (i+1))) bx;have s6:=s5.trans z6;refine er z u x1 ut (eY (B.drop (i+1)) ((zbp G part).map λo=>(Z8 G o,zE G o)) (part.drop (i+1)) c rfl (s6 _ _ b3) (zlH s6 hT) (by rw[ZB];exact nl) (fj (λt ht=>?_) (z6 _ _ ar) zb (zhJ _ ((ak.mono ai).mono s6)) (λnd un us H6 bE hN Nd s7=>?_)))
   .obtain⟨o,_,rfl⟩:=XE.mp ht;exact Jw R o
   have aq:=z6.trans s7;have aI:=s5.trans aq;have ac:=aq _ _ aD;have a8:=jq aq aZ;have aA:=aq _ _ ar;have b5:i<=13:="a"
   have fl:fs.length<=8192:=by
    rw[jh hL,ZB];exact X5 gl (U4 "d" b5)
   refine⟨_,rfl,_,rfl,fa,rfl,⟨_,SqL.of ac⟩,λy hy=>?_⟩;refine qj (K:=K) (a:=fa) (xs:=fs) (λj r J=>∃(u0:Option V) (m:AE),r=[u0,some (.ref u)]/\zx H6 J/\J y=some (.lst m)/\yh (λa=>H6 a=none/\a≠y) J m (((F.take j).map (·++[c])).map toL))
    (dW _ [] rfl (zc hy) zb (.nil)) (λj r J _ ⟨_,_,_,z,_⟩=>SqL.of (z _ _ ac)) ?_ ?_
   .refine λj v r H7 hv=>fQ λu0 m z0 U am N=>?_;subst z0;refine fV (λk a1 w1 hk z0 an ab t1=>?_) (zbr a8 hv);subst z0;refine fR (λq1 O z0=>?_) (znr hk);subst z0;have kd:=dp q1 (X7 O);have wl:w1.length=q1.length:=(zhC t1).trans (ZB _);have tj:((F.take (j+1)).map (·++[c])).map toL=((F.take j).map (·++[c])).map toL++[toL q1++[toI c]]:=by
     rw[XC,O,XD,XD];simp[toL]
    rw[tj];unfold xV;refine Qh ?_;refine⟨_,rfl,_,rfl,sz_1,λt2 bt=>?_⟩;have y5:=zc (o:=.lst [.ref u]) bt;refine eS a1 t2 w1 [.ref u] rfl rfl (y5 _ _ (U _ _ ab)) zb (X5 (show w1.length+1<=100 by lia) "d") (λt3 al=>?_);have y6:=zc (o:=.lst (w1++[.ref u])) al;have aj:=y5.trans y6;have h6:upd (upd H7 t2 (.lst [.ref u])) t3 (.lst (w1++[.ref u])) t3=some (.lst (w1++[.ref u])):=zb;have tz:t3≠y:=λe=>by
     subst e;rw[y5 _ _ am]at al;cases al
    have n4:=y5.free al;have n3:=U.free n4;have c1:xG (upd (upd H7 t2 (.lst [.ref u])) t3 (.lst (w1++[.ref u]))) [.ref u] [toI c]:=.cons ⟨u,rfl,aj _ _ (U _ _ aA)⟩ .nil;have bC:=zhD (YA (U.trans aj) t1) c1;generalize upd (upd H7 t2 (.lst [.ref u])) t3 (.lst (w1++[.ref u]))=H8 at *
    have a4:=aj _ _ am;have yl:m.length<=8192:=by
     rw[jh N,ZB,ZB,XH];have:=jh hL;rw[ZB]at this;lia
    refine fB m a4 (XM yl "d") _ (m++[.ref t3]) rfl (λb' o e=>?_) zb (zaj (ZD a4 (λa h=>h.2) (jq aj N)) (.cons (dW t3 (w1++[.ref u]) rfl ⟨n3,tz⟩ (by rw[zq tz];exact h6) (YB a4 bC)) .nil));rw[zq (zj e hy)];exact aj _ _ (U _ _ e)
   refine λr H7=>fQ λu0 m z0 U am N=>?_;subst z0;have aW:fs.length=F.length:=(jh hL).trans (ZB _);rw[aW,XF]at N;have yl:m.length<=8192:=by
    rw[jh N,ZB,ZB];lia
   refine eS fa y fs m rfl rfl (U _ _ ac) am (X5 (Nat.add_le_add fl yl) "d") (λg hg=>?_);have y9:=zc (o:=.lst (fs++m)) hg;have bA:=aI.trans U;have bB:=bA.trans y9;have aE:upd H7 g (.lst (fs++m)) g=some (.lst (fs++m)):=zb;have a9:yh (λa=>H2 a=none) (upd H7 g (.lst (fs++m))) (fs++m) ((F++F.map (·++[c])).map toL):=by
    rw[XD];exact zaj (jq (U.trans y9) a8) (jq y9 (zaP (λa h=>aI.free h.1) N))
   have aF:=(U.trans y9) _ _ bE;have ba:=zak (U.trans y9) (U.trans y9) hN;have bH:(fs++m).length<=16384:=by
    rw[XZ];lia
   have aM:∀q∈F++F.map (·++[c]),q.length<=i+1:=λq hq=>by
    rcases XV.mp hq with hq | hq
    .have:=dp q hq;lia
    .obtain⟨p',ae,rfl⟩:=XE.mp hq;have:=dp p' ae;rw[XZ];show p'.length+1<=i+1;lia
   have stp:∀q∈F++F.map (·++[c]),(∀t∈us,InB (part.drop (i+1)) q t)->Pre G part (i+1) q:=λq hq ok=>by
    refine Pre.step hc Nd ?_ ok;rcases XV.mp hq with hq | hq
    .exact .inl (pr q hq)
    .obtain⟨p',ae,rfl⟩:=XE.mp hq;exact .inr ⟨p',pr p' ae,rfl⟩
   have sl:(F++F.map (·++[c])).length<=2^(i+1):=by
    rw[XZ,ZB,N2];lia
   have ow:(part.take (i+1)).filter L∈F++F.map (·++[c]):=by
    rw[XC,hc,WJ];cases hl:L c with
    | true =>
     refine Xm _ (XE.mpr ⟨_,own,?_⟩);simp[hl]
    | false =>
     refine Xa _ ?_;simpa[hl] using own
   generalize fs++m=gs at *
   generalize F++F.map (·++[c])=S at *
   generalize upd H7 g (.lst gs)=H8 at *
   refine⟨_,rfl,g,rfl,⟨_,SqL.of aE⟩,λy2 a3=>?_⟩;refine qj (K:=K) (a:=g) (xs:=gs) (λj r J=>∃(u0:Option V) (m:AE),r=[u0,some (.ref nd)]/\zx H8 J/\J y2=some (.lst m)/\∃F2:List AB,yh (λa=>H2 a=none/\a≠y2) J m (F2.map toL)/\(∀q∈F2,Pre G part (i+1) q)/\F2.length<=j/\((part.take (i+1)).filter L∈S.take j->(part.take (i+1)).filter L∈F2))
    (dW _ [] rfl (zc a3) zb (fF [] (.nil) (λ_ h=>nomatch h) (XQ _) (λh=>h))) (λj r J _ ⟨_,_,_,z,_⟩=>SqL.of (z _ _ aE)) ?_ ?_
   .refine λj v r H9 hv=>fQ λu0 m z0 s9 a5=>gF λF2 aa ao ag ah=>?_;subst z0;refine fV (λk a1 w1 hk z0 an ab t1=>?_) (zbr a9 hv);subst z0;refine fR (λq1 O z0=>?_) (znr hk);subst z0;have jl:=(X6.mp hv).1;refine⟨_,rfl,_,rfl,nd,a1,un,w1,us,part.drop (i+1),q1,rfl,s9 _ _ aF,zak s9 s9 ba,s9 _ _ ab,(jD t1).mono s9,X5 (aM q1 (X7 O)) "a",λbb bF hb I=>(dY _ rfl ?_)⟩;have M:=I _ _ a5;have yl:m.length<=16384:=by
     rw[jh aa,ZB];lia
    have tk:S.take (j+1)=S.take j++[q1]:=by
     rw[XC,O];rfl
    cases bb with
    | true =>
     have az:a1≠y2:=zj ab a3;refine ju rfl ⟨_,rfl,m,M,XM yl "d",_,m++[.ref a1],rfl,λb' o e=>?_,zb,F2++[q1],?_,λq hq=>?_,by rw[XZ];exact Sq ag,λh=>?_⟩
     .rw[zq (zj e a3)];exact I _ _ (s9 _ _ e)
     .rw[XD];exact zaj (ZD M (λa h=>h.2) (jq I aa)) (.cons (dW a1 w1 rfl ⟨an,az⟩ (by rw[zq az];exact I _ _ (s9 _ _ ab)) (YB M (YA (s9.trans I) t1))) .nil)
     .rcases XV.mp hq with hq | hq
      .exact ao q hq
      .rw[Xy.mp hq];exact stp q1 (X7 O) (hb.mp rfl)
     .rw[tk]at h;rcases XV.mp h with h | h
      .exact Xa _ (ah h)
      .exact Xm _ h
    | false =>
     refine qZ rfl (dW _ m rfl (s9.trans I) M (fF F2 (jq I aa) ao (TQ ag) (λh=>?_)));rw[tk]at h;rcases XV.mp h with h | h
     .exact ah h
     .have e:=Xy.mp h;have:=hb.mpr (by rw[<- e];exact λt ht=>zpz b9 aV (i+1) t (Nd.s t ht));cases this
   .refine λr H9=>fQ λu0 m z0 s9 a5=>gF λF2 aa ao ag ah=>?_;subst z0;have a7:gs.length=S.length:=(jh a9).trans (ZB _);rw[a7,XF]at ah;rw[a7]at ag;exact er y2 m _ _ (eU _ _ F2 rfl (bB.trans s9) a5 (zaP (λa h=>h.1) aa) (ah ow) ao (X5 ag sl))
  .refine λσ H4=>fU λfa fs v4 v5=>gq λv6 v7 F z0 s4 ax hL own pr gl=>?_;subst z0;rw[ul]at own pr gl;rw[XF]at own;have fl:fs.length<=16384:=by
    rw[jh hL,ZB];exact X5 gl (U4 "d" pl)
   refine⟨_,rfl,fa,fs,_,rfl,SqL.of ax,zlF hL,"a",λd' aJ b7 aw ae a6 bv=>?_⟩;have y5:=zc (o:=.lst aJ) aw;have aH:=ai.trans s4;refine q d' aJ b7 _ (aH.free aw) zb (jq y5 (znn ae λv hv=>?_)) ⟨a6.mem_iff.mpr (XE.mpr ⟨_,own,rfl⟩),λk hk=>?_,?_⟩ (aH.trans y5)
   .obtain⟨a1,wa,e,na,ha⟩:=zlG hL (bv.mem_iff.mp hv);exact⟨a1,e,ai.free na,zj ha aw⟩
   .obtain⟨q',bp,rfl⟩:=XE.mp (a6.mem_iff.mp hk);have z:=pr q' bp;exact⟨q',rfl,by have:=z.s;rwa [XF]at this,λo ho=>z.f o ho (by rw[List.drop_length];exact λ_ h=>nomatch h)⟩
   .rw[a6.length_eq,<- jh hL];exact fl
abbrev iL (xs:List Int):AE:=xs.map V.int
def ints_get{i:Nat}(h:(iL xs)[i]?=some v):∃x,xs[i]?=some x/\v=.int x:=by
 rw[Xp]at h;cases e:xs[i]? with
 | none=>rw[e]at h;cases h
 | some x =>
  rw[e]at h;cases h;exact⟨x,rfl,rfl⟩
def zkq{i:Nat}(h:xs[i]?=some x):(iL xs)[i]?=some (.int x):=by
 rw[Xp,h];rfl
def zns{n:Nat}{k:Int}(h0:0<=k)(h1:k<n):ixN n k=some k.toNat:=by
 unfold ixN;rw[bw h0,bw h1]
def zpA(xs)(z):iL (xs++[z])=iL xs++[.int z]:=by
 show Tf V.int (xs++[z])=_;rw[XD];rfl
structure Cn (g e:Nat)(xs:List Int):Prop where
 l:xs.length=g+1
 b:∀x∈xs,0<=x/\x<=2^e
abbrev yg (xs:List Int)(k:Nat):Prop:=1<=xs.getD k 0
def zkr(n m):¬ yg (W1 n 0) m:=λh=>by
 have h:1<=(W1 n (0:Int)).getD m 0:=h;rw[XN,PU]at h;split at h<;>simp at h
def get_set(xs:List Int)(i k)(v):(xs.set i v).getD k 0=if i=k/\i<xs.length then v else xs.getD k 0:=by
 rw[XN,XN,List.getElem?_set];by_cases e:i=k
 .subst e;by_cases h:i<xs.length
  .simp[h]
  .simp[h]
 .simp[e]
def yp{xs:List Int}(h:i<xs.length):xs[i]?=some (xs.getD i 0):=by
 rw[XN,X0 h];rfl
def get_mem{xs:List Int}(h:i<xs.length):xs.getD i 0∈xs:=X7 (yp h)
def zgd{x:Int}(h0:0<=x)(h:x<=2^e)(he:e<=7000):x.natAbs<2^8000:=by
 have a:(2:Nat)^e<=2^7000:=U4 "d" he;have b:(2:Nat)^7000<2^8000:=OI "d" "d";have c:((x.natAbs:Nat):Int)<=((2^e:Nat):Int):=by
  rw[Int.natAbs_of_nonneg h0,Int.natCast_pow];exact h
 exact XM (X5 (N0.mp c) a) b
def ztr:Sp:=λh H Q _=>∃(e:Addr) (f:AE) (a:List (List (Int×Int))) (N:Addr->Prop) (g:Nat),h=[.ref e,.int (g:Nat)]/\H e=some (.lst f)/\yh N H f a/\(∀k∈a,k.length<=g)/\g<=64/\a.length<=16384 /\
 ∀(d:Addr) (b:List Int) (c:Hp),H d=none->c d=some (.lst (iL b))->Cn g 14 b->(∀k∈a,yg b k.length)->(∀m,yg b m->∃k∈a,k.length=m)->zx H c->Q (.ref d) c
structure zuf (rs:AD)(part:AB)(L:AA->Bool)(xs:List Int):Prop where
 c:Cn part.length 14 xs
 own:yg xs (part.filter L).length
 all:∀m,yg xs m->∃q,q.Sublist part/\zpw rs part q/\q.length=m
def zug(h:Addr):Sp:=λi H Q E=>∃(a l f:Addr) (e:AD) (n:Int) (c:AE) (part:AB) (L:AA->Bool),i=[.ref a,.ref f]/\qd H a l e n/\Rows bd.cps.toList e/\H f=some (.lst c)/\Cel H c part/\part.Nodup/\part.length<=64/\zpx e part L/\(14<part.length->∀b,zx H b->E (.ref h) none b)/\(part.length<=14 ->
 ∀(d:Addr) (g:List Int) (b:Hp),H d=none->b d=some (.lst (iL g))->zuf e part L g->zx H b->Q (.ref d) b)
def zhK(n):(W1 n [V.int 0]).flatten=iL (W1 n 0):=by
 induction n with
 | zero=>rfl
 | succ n a =>
  rw[VF,WF,a];rfl
def znt(K:X4):Sp:=λo H Q _=>∃(a b:Addr) (c f:List Int) (g h d e:Nat),o=[.ref a,.ref b]/\SqL K H a (iL c)/\SqL K H b (iL f)/\Cn g d c/\Cn h e f/\g<=64/\h<=64/\d<=3000/\e<=3000 /\
 ∀(l:Addr) (k:List Int) (n:Hp),H l=none->n l=some (.lst (iL k))->Cn (g+h) (d+e+13) k->(∀i j,yg c i->yg f j->yg k (i+j))->(∀m,yg k m->∃i j,yg c i/\yg f j/\i+j=m)->zx H n->Q (.ref l) n
structure zdK (xs ys:List Int)(g h:Nat)(M:Int)(i j:Nat)(zs:List Int):Prop where
 l:zs.length=g+h+1
 b:∀z∈zs,0<=z/\z<=(((i*ys.length+j:Nat)):Int)*M
 k:∀a c,(a<i\/(a=i/\c<j))->yg xs a->yg ys c->yg zs (a+c)
 u:∀m,yg zs m->∃a c,yg xs a/\yg ys c/\a+c=m
section
variable {xs ys zs:List Int}{g h i j:Nat}{M:Int}
def zdK.start:zdK xs ys g h M 0 0 (W1 (g+h+1) 0):=⟨SA ..,λz d=>by
 rw[(List.mem_replicate.mp d).2];simp,(λa c e=>"a"),λm b=>absurd b (zkr _ m)⟩
def zdK.row(I:zdK xs ys g h M i ys.length zs):zdK xs ys g h M (i+1) 0 zs:=⟨I.l,λz d=>by
 have:=I.b z d;rw[N5,Nat.add_zero];exact this,λa c f h1 h2=>I.k a c (by
  by_cases e:a=i
  .refine .inr ⟨e,?_⟩;by_cases q:c<ys.length
   .exact q
   .have z:ys.getD c 0=0:=by
     rw[XN,Sx "a"];rfl
    have h2:1<=ys.getD c 0:=h2;lia
  .exact .inl "a") h1 h2,I.u⟩
def zdK.step(I:zdK xs ys g h M i j zs)(n:xs[i]?=some x)(r:ys[j]?=some y)(v:0<=x)(A:0<=y)(u:x*y<=M)(B:0<=M)(lt:i+j<zs.length):zdK xs ys g h M i (j+1) (zs.set (i+j) (zs.getD (i+j) 0+x*y)):=by
 have p:0<=x*y:=Int.mul_nonneg v A;have E:=I.b _ (get_mem lt);have e:(((i*ys.length+(j+1):Nat)):Int)*M=(((i*ys.length+j:Nat)):Int)*M+M:=by
  rw[<- Nat.add_assoc,Pg,Int.add_mul];simp
 refine⟨by rw[Pj];exact I.l,λz f=>?_,λa c D h1 h2=>?_,λm d=>?_⟩
 .rw[e];rcases Ro f with f | rfl
  .have:=I.b z f;lia
  .lia
 .show 1<=_;rw[get_set];by_cases q:a=i/\c=j
  .obtain⟨rfl,rfl⟩:=q;rw[bw ⟨rfl,lt⟩];have h1:1<=xs.getD a 0:=h1;have h2:1<=ys.getD c 0:=h2;rw[XN,n]at h1;rw[XN,r]at h2;have h1:1<=x:=h1;have h2:1<=y:=h2;have:=RA h1 h2 "d" "a";lia
  .have:=I.k a c "a" h1 h2;split
   .rename_i w;have this:1<=zs.getD (a+c) 0:=this;rw[<- w.1]at this;lia
   .exact this
 .have d:1<=(zs.set (i+j) (zs.getD (i+j) 0+x*y)).getD m 0:=d;rw[get_set]at d;by_cases q:i+j=m
  .subst q;by_cases o:1<=zs.getD (i+j) 0
   .exact I.u _ o
   rw[bw ⟨rfl,lt⟩]at d;have s:1<=x*y:="a"
   have G:x≠0:=λe=>by rw[e,Int.zero_mul]at s;lia
   have H:y≠0:=λe=>by rw[e,NZ]at s;lia
   refine⟨i,j,?_,?_,rfl⟩
   .show 1<=xs.getD i 0;rw[XN,n];show 1<=x;lia
   .show 1<=ys.getD j 0;rw[XN,r];show 1<=y;lia
  .rw[bq λz=>q z.1]at d;exact I.u _ d
end
abbrev It:=List Int×AA
def ItR(H:Hp)(v:V)(t:It):Prop:=∃a,v=V.ref a/\H a=some (.lst (iL t.1))
def YC(s:zx H b){d:AE}(f:Xk (ItR H) d c):Xk (ItR b) d c:=Paired.imp' (λ_ _ ⟨a,e,h⟩=>⟨a,e,s _ _ h⟩) f
def Split(b:List It)(m:Nat):Prop:=∃a:List Nat,Xk (λ(t:It) k=>yg t.1 k) b a/\a.sum=m
abbrev Qi (ts:List It):Nat:=(ts.map λt=>t.2.1).sum
abbrev sumK (ts:List It):Nat:=(ts.map λt=>t.2.2).sum
def zrS:Sp:=λg H Q _=>∃(e:Addr) (f:AE) (a:List It),g=[.ref e]/\H e=some (.lst f)/\Xk (ItR H) f a/\(∀t∈a,Cn t.2.1 14 t.1/\yg t.1 t.2.2)/\Qi a<=64/\a.length<=64 /\
 ∀(d:Addr) (b:List Int) (c:Hp),H d=none->c d=some (.lst (iL b))->Cn (Qi a) (27*a.length) b->yg b (sumK a)->(∀m,yg b m->Split a m)->zx H c->Q (.ref d) c
def chV(n k:Int):Int:=if 0<=k/\k<=n then ((Choose.ch n.toNat k.toNat:Nat):Int) else 0
theorem znu:∀(n k:Nat),k<=n->1<=Choose.ch n k
 | n,0,_=>by rw[Choose.zbg];exact XQ _
 | n+1,k+1,h=>by
  have:=znu n k "a";show 1<=Choose.ch n k+Choose.ch n (k+1);lia
def zqB(n k):0<=chV n k:=by
 unfold chV;split<;>lia
def zts(h0:0<=k)(h:k<=n):1<=chV n k:=by
 unfold chV;rw[bw ⟨h0,h⟩];have:=znu n.toNat k.toNat "a";lia
def zpB(h:n<=64):(chV n k).natAbs<2^8000:=by
 have h1:(2:Nat)^64<2^8000:=OI "d" "d";have a:(0:Nat)<2^8000:=XM (W2 _) h1;unfold chV;split
 .rw[Int.natAbs_natCast];exact XM (X5 (Choose.zqv _ _) (U4 "d" (show n.toNat<=64 by lia))) h1
 .exact a
def ztt:Sp:=λa H Q _=>∃(n k:Int),a=[.int n,.int k]/\n<=64/\Q (.int (chV n k)) H
def zqC(xs:List Int)(m st:Int):Prop:=∃k:Nat,yg xs k/\0<=st-(k:Int)/\st-(k:Int)<=m
def ztu(h:chV n k≠0):0<=k/\k<=n:=by
 unfold chV at h;split at h
 .assumption
 .exact absurd rfl h
theorem zhL:∀{zs:List Int},(∀z∈zs,z=0)->zs.sum=0
 | [],_=>rfl
 | z::r,h=>by
  rw[UN,h z XU,zhL λy a=>h y (XS _ a)];rfl
def zpC:Sp:=λd H Q _=>∃(c:Addr) (a:List Int) (m st:Int) (g e:Nat),d=[.ref c,.int m,.int st]/\H c=some (.lst (iL a))/\Cn g e a/\e<=7000/\g<=140/\m<=64 /\
 ∀(v:Int) (b:Hp),0<=v->v<=2^(e+72)->(∀k:Nat,yg a k->0<=st-k->st-k<=m->v≠0)->(v≠0->zqC a m st)->zx H b->Q (.int v) b
def zrT(h:n<=64):chV n k<=2^64:=by
 unfold chV;split
 .have a:=X5 (Choose.zqv n.toNat k.toNat) (U4 (n:=2) "d" (show n.toNat<=64 by lia));show _<=((18446744073709551616:Nat):Int);exact N0.mpr a
 .decide
theorem znv:∀{zs:List Int},(∀z∈zs,z<=M)->zs.sum<=(zs.length:Nat)*M
 | [],_=>"s"
 | z::r,h=>by
  have a:=znv λy c=>h y (XS _ c);have b:=h z XU;rw[UN,Xf,Pg,Int.add_mul];simp;lia
theorem zge:∀{zs:List Int},(∀z∈zs,0<=z)->0<=zs.sum/\∀k,yg zs k->1<=zs.sum
 | [],_=>⟨Uv _,λk h=>by
  have h:(1:Int)<=0:=h;lia⟩
 | z::r,h=>by
  obtain⟨a,b⟩:=zge λy c=>h y (XS _ c);have d:=h z XU;rw[UN];refine⟨"a",λk hk=>?_⟩;match k,hk with
  | 0,hk =>
   have hk:1<=z:=hk;lia
  | k+1,hk =>
   have:=b k hk;lia
def zaQ:zD ["found","greatest","counts","laying"] ["found","greatest"] (zv Zg):=bh
def zaR(T:Txt mg)(D:zh K mg "counted" Zg ["found","greatest"] f fd):qm P w K mg base CX0 1 f fd ["found","greatest"] ztr:=by
 refine D.F.ok zaQ "l" (λae A ac s H vs Q E hr h=>?_)
 .revert h;refine gA λI us L N g z0 u hL hk=>fX λaf ag q=>?_;subst z0;refine⟨_,(@ze _ _ _ _ _ (@qv _ _ 2 _ _ _ _ zaQ.nd rfl (Wm rfl) (@zC _ _ _ _ _ _ _ _ ziC (@qa _ _ _ _ (@za _ _ _ _ _ zf zd rfl)) (zC jt (pvS 1) zf)) "r" (.inr rfl)) (ze (qN Xd rfl (zN (pvS 0)) (pgq 3 zaQ.nd) (zg (zjU (pvS 2) (pb1 zH T.qQ Xl (pvS 3)) zgY zf zmb set_list))) (zg (zF (pvS 2))))),?_⟩;ac_nf;refine⟨sz_1,λl0 ab=>?_⟩;have s0:zx H (upd H l0 (.lst [.int 0])):=zc ab;refine⟨_,rfl,_,_,rfl,rfl,l0,_,_,rfl,rfl,zb,"a","a",?_,λp hp=>?_⟩
  .exact X5 (show 1*((g:Int)+1).toNat<=120 by lia) "d"
  rw[show ((g:Int)+1).toNat=g+1 by lia,zhK];have s1:=s0.trans (zc (o:=.lst (iL (W1 (g+1) 0))) hp);have G:H p=none:=s0.free hp;refine⟨_,rfl,I,rfl,⟨_,SqL.of (s1 _ _ u)⟩,?_⟩;refine yi (K:=K) (a:=I) (xs:=us) (λi Y H'=>∃(v3:Option V) (xs:List Int),Y=[some (.ref I),some (.int (g:Nat)),some (.ref p),v3]/\zx H H'/\H' p=some (.lst (iL xs))/\xs.length=g+1/\(∀x∈xs,0<=x/\x<=(i:Int))/\(∀k∈L.take i,yg xs k.length)/\∀m,yg xs m->∃k∈L.take i,k.length=m)
   (fL _ _ rfl s1 zb (SA ..) (λx d=>by rw[(List.mem_replicate.mp d).2];lia) (λ_ h=>nomatch h) (λm n=>absurd n (zkr _ m))) (λi Y H' _ ⟨_,_,_,y,_⟩=>SqL.of (y _ _ u)) ?_ ?_
  .refine λi v Y H1 hv=>gx λv3 xs z0 M b xl=>fX λr O U=>?_;subst z0;refine fV (λk a1 j l z0 _ aa t1=>?_) (zbr hL hv);subst z0;have kl:=hk k (X7 l);have wl:=zhC t1;refine⟨_,rfl,_,rfl,a1,j,rfl,.inl (SqL.of (M _ _ aa)),p,_,_,_,rfl,rfl,SqL.of b,Z5 "a" (zkq (yp (i:=j.length) "a")),_,_,rfl,rfl,p,_,_,_,rfl,rfl,b,zns "a" (by rw[ZB];lia),?_⟩;have m0:=r _ (get_mem (xs:=xs) (i:=j.length) "a");refine fL _ (xs.set j.length (xs.getD j.length 0+1)) rfl (λc o e=>?_) ?_ (by rw[Pj];exact xl) (λx d=>?_) (λJ B=>?_) (λm n=>?_)
   .rw[zq (zj e G)];exact M _ _ e
   .rw[zb];show some (HO.lst ((Tf V.int _).set _ (V.int _)))=_;rw[<- List.map_set];rfl
   .rcases Ro d with d | rfl
    .have:=r x d;lia
    .lia
   .show 1<=_;rw[get_set];rw[XC,l]at B;split
    .lia
    .rename_i hn;rcases XV.mp B with h | h
     .exact O J h
     .have e:J=k:=Xy.mp h;exact absurd ⟨by rw[e];exact wl,"a"⟩ hn
   .rw[XC,l];have n:1<=(xs.set j.length (xs.getD j.length 0+1)).getD m 0:=n;rw[get_set]at n;by_cases e:j.length=m
    .exact⟨k,XV.mpr (.inr (Xy.mpr rfl)),by rw[<- e];exact wl.symm⟩
    .rw[bq λz=>e z.1]at n;obtain⟨J,h1,h2⟩:=U m n;exact⟨J,XV.mpr (.inl h1),h2⟩
  .refine λY H1=>gx λv3 xs z0 M b xl=>fX λr O U=>?_;subst z0;rw[jh hL]at r;rw[jh hL,XF]at O U;exact⟨_,rfl,q p xs H1 G b ⟨xl,λx d=>⟨(r x d).1,Vb (r x d).2 (by show ((L.length:Nat):Int)<=16384;lia)⟩⟩ O U M⟩
def zdL:zD ["board","part"] ["board","part"] (zv Jr):=bh
def zdM(U:qw K mg "TooGreat" jaj)(T:Txt mg)(D:zh K mg "part_counts" Jr ["board","part"] f fd)(zR:zh K mg "around" j7 ["board","cell"] f1 r)(zw:zh K mg "sign_at" qG ["board","cell"] f2 u)
  (zB:zh K mg "cells_of" qx ["board"] f3 v) (zG:zh K mg "open_cells" qY ["board"] f4 x) (qf:zh K mg "number_at" jN ["board","cell"] f5 y) (jE:zh K mg "numbers_of" yH ["board","part"] f6 B)
  (yr:zh K mg "needs_at" x6 ["told","cell","rest"] f7 G) (yX:zh K mg "may_fit" Zf ["needs","pick"] f8 I) (jr:zh K mg "part_layings" yq ["board","part"] f9 J) (jI:zh K mg "counted" Zg ["found","greatest"] p i):qm P w K mg base (CXE P w) 5 f fd ["board","part"] (zug jaj):=by
 refine D.F.okX zdL "l" (λac A Y s H vs Q E hr h=>?_)
 .revert h;refine fU λa l pa rs=>gk λn g part L z0 b R j=>gj λc ab aa M qg q=>?_;subst z0;refine⟨_,(zg (zF (pc0 (zaR T jI) hr jI (za (pcL j9 (Qy U T jr zR zw zB zG qf jE yr yX) hr jr (za (pvS 0) (za (pvS 1) zd))) (za (pb1 zH T.qQ Xl (pvS 1)) zd))))),?_⟩;ac_nf;refine⟨_,rfl,_,rfl,a,l,pa,rs,n,g,part,L,rfl,b,R,j,c,ab,aa,M,qg,λpl d ws ks H1 hd N hL o s1=>?_⟩;refine⟨_,rfl,pa,g,rfl,.inl (SqL.of (s1 _ _ j)),d,ws,ks,_,g.length,rfl,N,hL,λk hk=>?_,?_,o.few,λe xs H2 he O cn hk hu s2=>?_⟩
  .rw[c.length];exact o.len k hk
  .rw[c.length];lia
  .rw[c.length]at cn;have z:=hk _ o.own;unfold toL at z;rw[ZB]at z;refine q pl e xs H2 (s1.free he) O ⟨cn,z,λm hm=>?_⟩ (s1.trans s2);obtain⟨k,h1,h2⟩:=hu m hm;obtain⟨q',rfl,h3,h4⟩:=o.all k h1;unfold toL at h2;rw[ZB]at h2;exact⟨q',h3,h4,h2⟩
def Zj:zD ["one","other","counts","i","many","j","more"] ["one","other"] (zv zbi):=bh
def zfl(T:Txt mg)(D:zh K mg "poured" zbi ["one","other"] f fd):qm P w K mg base CX0 1 f fd ["one","other"] (znt K):=by
 refine D.F.ok Zj "l" (λah A ag s H vs Q E hr h=>?_)
 .revert h;refine fU λa b xs n=>gk λg U d e z0 ha hb cx=>gj λcy g1 g2 d1 e1 q=>?_;subst z0;have xl:=cx.l;have yl:=cy.l;refine⟨_,(@ze _ _ _ _ _ (@qv _ _ 2 _ _ _ _ Zj.nd rfl (Wm rfl) (@zC _ _ _ _ _ _ _ _ ziC (@qa _ _ _ _ (@za _ _ _ _ _ zf zd rfl)) (zC yQ (zC jt (pb1 zH T.qQ Xl (pvS 0)) (pb1 zH T.qQ Xl (pvS 1))) zf)) "r" (.inr rfl)) (ze (qN Xd rfl (JA "r" T.je (za (pvS 0) zd)) (JH rfl (zY (pgq 3 Zj.nd) (zY (pgq 4 Zj.nd) jR))) (zg (qN Xd rfl (JA "r" T.je (za (pvS 1) zd)) (JH rfl (zY (pgq 5 Zj.nd) (zY (pgq 6 Zj.nd) jR))) (zg (zjU (pvS 2) (zC jt (pvS 3) (pvS 5)) zgY (zC ZP (pvS 4) (pvS 6)) zmb set_list))))) (zg (zF (pvS 2))))),?_⟩;ac_nf;refine⟨sz_1,λl0 ac=>?_⟩;have s0:zx H (upd H l0 (.lst [.int 0])):=zc ac;refine⟨_,rfl,a,_,rfl,.inl (s0.seq ha),_,rfl,b,_,rfl,.inl (s0.seq hb),_,_,rfl,rfl,_,_,rfl,rfl,l0,_,_,rfl,rfl,zb,?_,?_,?_,λp hp=>?_⟩
  .rw[ZB,ZB];lia
  .rw[ZB,ZB];lia
  .rw[ZB,ZB];exact X5 (show 1*((xs.length:Int)+(n.length:Int)-1).toNat<=140 by lia) "d"
  have en:(((iL xs).length:Nat)+((iL n).length:Nat)-1:Int).toNat=g+U+1:=by
   rw[ZB,ZB];lia
  rw[en,zhK];have s1:zx H (upd (upd H l0 (.lst [.int 0])) p (.lst (iL (W1 (g+U+1) 0)))):=s0.trans (zc hp);have Y:H p=none:=s0.free hp;have M0:(0:Int)<=2^(d+e):=T5 (OU "d");refine⟨_,rfl,a,rfl,⟨_,s1.seq ha⟩,?_⟩;refine xZ (K:=K) (l:=a) (xs:=iL xs) (λi r B=>∃(v3 v4 L M:Option V) (m:List Int),r=[some (.ref a),some (.ref b),some (.ref p),v3,v4,L,M]/\zx H B/\B p=some (.lst (iL m))/\zdK xs n g U (2^(d+e)) i 0 m)
   (er _ _ _ _ (fF _ rfl s1 zb zdK.start)) (λi r B _ ⟨_,_,_,_,_,_,s,_⟩=>s.seq ha) ?_ ?_
  .refine λi v t r H1 hv ht=>gP λv3 v4 L M m=>gg λz0 s2 G I0=>?_;subst z0;refine fR (λx hx z0=>?_) (ints_get hv);subst z0;have st:zx H1 (upd H1 t (.tup [.int (i:Nat),.int x])):=zc ht;refine eO t _ rfl (SqT.of zb) rfl _ _ rfl _ _ rfl rfl ?_;refine⟨_,rfl,b,rfl,⟨_,(s2.trans st).seq hb⟩,?_⟩;refine xZ (K:=K) (l:=b) (xs:=iL n) (λj r B=>∃(L M:Option V) (m:List Int),r=[some (.ref a),some (.ref b),some (.ref p),some (.int (i:Nat)),some (.int x),L,M]/\zx H B/\B p=some (.lst (iL m))/\zdK xs n g U (2^(d+e)) i j m)
    (dZ _ _ m rfl (s2.trans st) (st _ _ G) I0) (λj r B _ ⟨_,_,_,_,s,_⟩=>s.seq hb) ?_ ?_
   .refine λj v t2 r H2 af ae=>gb λL M m z0 s3 J I=>?_;subst z0;refine fR (λy hy z0=>?_) (ints_get af);subst z0;have ab:zx H2 (upd H2 t2 (.tup [.int (j:Nat),.int y])):=zc ae;have aa:=ab _ _ J;have hi:i<xs.length:=(X6.mp hx).1;have hj:j<n.length:=(X6.mp hy).1;have O:((i:Int)+(j:Int)).toNat=i+j:="a"
    have bx:=cx.b x (X7 hx);have N:=cy.b y (X7 hy);have zl:=I.l;refine eO t2 _ rfl (SqT.of zb) rfl _ _ rfl _ _ rfl rfl ?_;refine⟨_,rfl,_,rfl,_,rfl,_,_,rfl,rfl,p,_,_,_,rfl,rfl,SqL.of aa,Z5 "a" (by rw[O];exact zkq (yp "a")),?_⟩;refine⟨_,rfl,_,rfl,_,_,rfl,rfl,zsX (zgd bx.1 bx.2 "a") (zgd N.1 N.2 "a"),_,_,rfl,rfl,p,_,_,_,rfl,rfl,aa,zns "a" (by rw[ZB];lia),?_⟩;refine dZ _ _ (m.set (i+j) (m.getD (i+j) 0+x*y)) rfl (λc o e=>?_) ?_ ?_
    .rw[zq (zj e Y)];exact ab _ _ (s3 _ _ e)
    .rw[zb,O];show some (HO.lst ((Tf V.int _).set _ (V.int _)))=_;rw[<- List.map_set]
    .have xy:x*y<=2^(d+e):=by
      rw[OT];exact RA bx.2 N.2 N.1 (T5 (OU "d"))
     exact I.step hx hy bx.1 N.1 xy M0 "a"
   .refine λr H2=>gb λL M m z0 s3 J I=>?_;subst z0;rw[ZB]at I;exact er _ _ _ _ (fF m rfl s3 J I.row)
  .refine λr H1=>gP λv3 v4 L M m=>gg λz0 s2 G I=>?_;subst z0;rw[ZB]at I;refine⟨_,rfl,q p m H1 Y G ⟨I.l,λz hz=>⟨(I.b z hz).1,?_⟩⟩ (λi j h1 h2=>I.k i j (.inl ?_) h1 h2) I.u s2⟩
   .have:=(I.b z hz).2;have k:(((xs.length*n.length+0:Nat)):Int)<=2^13:=by
     have:xs.length*n.length<=65*65:=RI "a" "a";show _<=(8192:Int);lia
    rw[OT,Pu];exact Vb this (Sm k M0)
   .by_cases h:i<xs.length
    .exact h
    .have:xs.getD i 0=0:=by
      rw[XN,Sx "a"];rfl
     have h1:1<=xs.getD i 0:=h1;lia
def nearF(rs:AD)(c x:AA):Bool:=(zE rs c).any λz=>decide (z=x)
def yY:nearF rs o x=true↔x∈zE rs o:=Parts.zbf _ _
def znw(h:x∈zP rs):Cells.sgn (codes rs) x=63:=by
 obtain⟨t,k,c,b,hk,a⟩:=qi h;have:k=63:=by
  unfold Zz at hk;simpa using hk
 rw[a,this]
def xT(a:x∈zP rs):nearF rs o x=true↔x∈clA rs o:=by
 rw[yY];constructor
 .exact λh=>XW.mpr ⟨h,br (znw a)⟩
 .exact λh=>(XW.mp h).1
def zgf:o∈zbp rs g↔o∈qD rs/\∃x∈g,nearF rs o x=true:=by
 unfold zbp;rw[XW,T4,WH];refine and_congr_right λ_=>?_;constructor
 .rintro⟨z,hz,h⟩;have a:(g.any λx=>decide (x=z))=true:=h;exact⟨z,(Parts.zbf _ _).mp a,yY.mpr hz⟩
 .rintro⟨x,hx,h⟩;exact⟨x,yY.mp h,(Parts.zbf _ _).mpr hx⟩
section
variable {rs:AD}{gs:List AB}(G:Parts.Good (clA rs) (qD rs) gs)
include G
theorem Qj:∀c∈gs.flatten,c∈zP rs:=λc a=>by
 obtain⟨o,_,h⟩:=G.from_ c a;exact xR h
theorem zpD(f:g∈gs)(j:o∈zbp rs g)(k:x∈zP rs)(i:nearF rs o x=true):x∈g:=by
 obtain⟨h1,y,h,h2⟩:=zgf.mp j;have d:=Qj G y (WD.mpr ⟨g,f,h⟩);have b:=(xT d).mp h2;obtain⟨l,c,a⟩:=G.cov o h1 (T3 b);have e:=Parts.zb1 G.nd c f (a y b) h;rw[<- e];exact a x ((xT k).mp i)
theorem QV(R:Rows bd.cps.toList rs):gs.flatten.length<=64:=by
 have h1:=Parts.yF G.nd (Qj G);have h2:=zb7 R;lia
end
def znx{gs:List AB}(G:Parts.Good (clA rs) (qD rs) gs):c∈gs.flatten↔c∈zP rs/\∃o∈qD rs,nearF rs o c=true:=by
 constructor
 .intro h;obtain⟨o,e,b⟩:=G.from_ c h;have d:=xR b;exact⟨d,o,e,(xT d).mpr b⟩
 .rintro⟨d,o,e,hn⟩;have b:=(xT d).mp hn;obtain⟨g,f,a⟩:=G.cov o e (T3 b);exact WD.mpr ⟨g,f,a c b⟩
def zhM:(Qx rs).isEmpty=true ↔ ∀o∈qD rs,clA rs o=[]->Z8 rs o=0:=by
 rw[P3];unfold Qx Z8;rw[VI];constructor
 .intro h o a b;have:=h o (XW.mpr ⟨a,by rw[b];rfl⟩);rw[V4,Bool.not_eq_false]at this;rw[bg this];rfl
 .intro h o a;obtain⟨h1,h2⟩:=XW.mp a;have:=h o h1 (P3.mp h2);rw[V4,Bool.not_eq_false];exact br "a"
def zks(a:c∈xQ rs)(b:o∈qD rs):nearF rs o c=false:=by
 unfold xQ at a;have h:=(XW.mp a).2;rw[V4,T4,Rj]at h;exact WY.mpr (h o b)
def zhN(h:c∈xQ rs):c∈zP rs:=(XW.mp h).1
def jW(rs):(zP rs).Nodup:=qq (Cells.jH _ 0 (codes rs))
def zb8(rs):(xQ rs).Nodup:=(jW rs).sublist Xn
section
variable {rs:AD}{gs:List AB}(G:Parts.Good (clA rs) (qD rs) gs)
include G
theorem zc2:c∈xQ rs↔c∈zP rs/\c ∉ gs.flatten:=by
 rw[znx G];constructor
 .intro h;refine⟨zhN h,?_⟩;rintro⟨_,o,b,a⟩;rw[zks h b]at a;cases a
 .rintro⟨h1,h2⟩;unfold xQ;refine XW.mpr ⟨h1,?_⟩;rw[V4,T4,Rj];intro o b a;exact h2 ⟨h1,o,b,a⟩
end
def Big(rs:AD):Prop:=∃a,Parts.Good (clA rs) (qD rs) a/\∃g∈a,14<g.length
def zny(h:(zP rs).length<=14):¬ Big rs:=λ⟨d,G,g,a,b⟩=>by
 have:=Parts.yF (qq (G.srt g a)) λx c=>Qj G x (WD.mpr ⟨g,a,c⟩);lia
structure Lay (rs:AD)(n:Int)(L:AA->Bool):Prop where
 a:(((zP rs).countP L:Nat):Int)=n
 o:∀o∈qD rs,(((clA rs o).countP L:Nat):Int)=Z8 rs o
section
variable {rs:AD}{n:Int}{L:AA->Bool}{gs:List AB}(G:Parts.Good (clA rs) (qD rs) gs)(hL:Lay rs n L)
include G hL
theorem znz(a:g∈gs):zpx rs g L:=λo c=>by
 rw[<- hL.o o (zgf.mp c).1,WR];congr 1;unfold inC;rw[UD];refine UY ((WV ((qq (G.srt g a)).sublist Xn) ((Zi rs o).sublist Xn)).mpr λx=>?_);rw[XW,XW,Vi,bu];constructor
 .rintro⟨h1,h2,h3⟩;exact⟨(xT (Qj G x (WD.mpr ⟨g,a,h1⟩))).mp (yY.mpr h2),h3⟩
 .rintro⟨h1,h3⟩;have d:=xR h1;have b:=(xT d).mpr h1;exact⟨zpD G a c d b,yY.mp b,h3⟩
theorem zgg:(Qx rs).isEmpty=true:=zhM.mpr λo b a=>by
 rw[<- hL.o o b,a];rfl
theorem zcq:(((gs.map λg=>(g.filter L).length).sum:Nat):Int)+(((xQ rs).filter L).length:Nat)=n:=by
 have i:(zP rs).Perm (gs.flatten++xQ rs):=(WV (jW rs) (WE.mpr ⟨G.nd,zb8 rs,λa c b d e=>((zc2 G).mp d).2 (e ▸ c)⟩)).mpr λx=>by
  rw[XV,zc2 G];constructor
  .intro h;by_cases z:x∈gs.flatten
   .exact .inl z
   .exact .inr ⟨h,z⟩
  .exact λh=>h.elim (Qj G x) λz=>z.1
 have e:∀l:List AB,l.flatten.countP L=(l.map λg=>(g.filter L).length).sum:=λl=>by
  induction l with
  | nil=>rfl
  | cons g r f=>rw[WF,List.countP_append,f,Xs,UN,WR]
 rw[<- hL.a,i.countP_eq,List.countP_append,e,WR (l:=xQ rs)];lia
end
def zkt(gs:List AB):(gs.map λg=>g.length).sum=gs.flatten.length:=by
 rw[Oq]
def zjg(h:a<=b):(2:Int)^a<=2^b:=by
 have:=U4 (n:=2) "d" h;have z:=N0.mpr this;simpa using z
abbrev zjh (rs:AD)(g q:AB):Prop:=q.Sublist g/\zpw rs g q
def AllP(rs:AD)(g:AB)(t:It):Prop:=∀m,yg t.1 m->∃q,zjh rs g q/\q.length=m
structure zhO (rs:AD)(L:AA->Bool)(gs:List AB)(ts:List It):Prop where
 al:Xk (AllP rs) gs ts
 g:ts.map (λt=>t.2.1)=gs.map λg=>g.length
 k:ts.map (λt=>t.2.2)=gs.map λg=>(g.filter L).length
 ok:∀t∈ts,Cn t.2.1 14 t.1/\yg t.1 t.2.2
theorem zhO.snoc{gs:List AB}{g:AB}(h:zhO rs L (gs.take j) b)(d:gs[j]?=some g)(c:Cn g.length 14 xs)(k:yg xs (g.filter L).length)(a:∀m,yg xs m->∃q,zjh rs g q/\q.length=m):zhO rs L (gs.take (j+1)) (b++[(xs,g.length,(g.filter L).length)]):=by
 rw[XC,d];refine⟨Paired.snoc h.al a,?_,?_,λt ht=>?_⟩
 .rw[XD,XD,h.g];rfl
 .rw[XD,XD,h.k];rfl
 .rcases XV.mp ht with ht | ht
  .exact h.ok t ht
  .rw[Xy.mp ht];exact⟨c,k⟩
theorem zdN:∀{b:AE} {c:List It},(∀v∈b,v≠V.ref z)->Xk (ItR H) b c->Xk (ItR (upd H z (.lst ys))) b c
 | _,_,_,.nil=>.nil
 | _,_,n,.cons ⟨a,e,h⟩ t=>.cons ⟨a,e,by rw[zq λq=>n _ XU (by rw[e,q])];exact h⟩ (zdN (λv d=>n v (XS _ d)) t)
def zrU(f:Addr):Sp:=λh H Q E=>∃(p l:Addr) (b:AD) (n:Int) (L:AA->Bool),h=[.ref p]/\qd H p l b n/\Rows bd.cps.toList b/\Lay b n L/\(Big b->∀a,zx H a->E (.ref f) none a) /\
 ∀(d:Addr) (c:List AB) (e:List Int) (a:Hp),(∀g∈c,g.length<=14)->a d=some (.lst (iL e))->Parts.Good (clA b) (qD b) c->Cn c.flatten.length (27*c.length) e->yg e (c.map λg=>(g.filter L).length).sum->zx H a->Q (.ref d) a
def zgh(d:Addr):Sp:=λe H Q E=>∃(p l:Addr) (a:AD) (n:Int) (L:AA->Bool),e=[.ref p]/\qd H p l a n/\Rows bd.cps.toList a/\Lay a n L/\(Big a->∀b,zx H b->E (.ref d) none b)/\∀(v:Int) (b:Hp) (c:List AB),Parts.Good (clA a) (qD a) c->(∀g∈c,g.length<=14)->1<=v->v<=2^2000->zx H b->Q (.int v) b
def Jx:zD ["lists","counts","others"] ["lists"] (zv J5):=bh
def Z9(T:Txt mg)(Z:Prog K mg)(D:zh K mg "all_poured" J5 ["lists"] f fd):qm P w K mg base CX0 2 f fd ["lists"] zrS:=by
 obtain⟨ac,ab,QW⟩:=Z.poured;have U:=zfl (P:=P) (w:=w) (base:=base) T QW;refine D.F.ok Jx "l" (λaa A N s H vs Q E hr h=>?_)
 .revert h;refine gq λB us g z0 p z ok sg tl q=>?_;subst z0;refine⟨_,(@ze _ _ _ _ _ (@qv _ _ 1 _ _ _ _ Jx.nd rfl (Wm rfl) (@qa _ _ _ _ (@za _ _ _ _ _ zf zd rfl)) "r" (.inr rfl)) (ze (qN Xd rfl (zN (pvS 0)) (pgq 2 Jx.nd) (zg (qz 1 Jx.nd (pc0 U hr QW (za (pvS 1) (za (pvS 2) zd)))))) (zg (zF (pvS 1))))),?_⟩;ac_nf;refine⟨sz_1,λc0 o=>?_⟩;have s0:zx H (upd H c0 (.lst [.int 1])):=zc o;refine⟨_,rfl,B,rfl,⟨_,SqL.of (s0 _ _ p)⟩,?_⟩;refine yi (K:=K) (a:=B) (xs:=us) (λi G I=>∃(c:Addr) (O:Option V) (k:List Int),G=[some (.ref B),some (.ref c),O]/\zx H I/\H c=none/\I c=some (.lst (iL k))/\Cn (Qi (g.take i)) (27*i) k/\yg k (sumK (g.take i))/\∀m,yg k m->Split (g.take i) m)
   (eU c0 _ [1] rfl s0 o zb ⟨rfl,λx z=>by rw[Xy.mp z];decide⟩ (by show (1:Int)<=1;decide) (λm M=>⟨[],.nil,by cases m with | zero=>rfl | succ m=>exact absurd M (by show ¬ (1:Int)<=0;decide)⟩)) (λi G I _ ⟨_,_,_,_,y,_⟩=>SqL.of (y _ _ p)) ?_ ?_
  .refine λi v G Y hv=>gq λc O k z0 s1 hc l n u j=>?_;subst z0;refine fW (λt r a1 z0 J=>?_) (Qv z hv);subst z0;have il:=(X6.mp r).1;obtain⟨ct,kt⟩:=ok t (X7 r);have eg:Qi (g.take (i+1))=Qi (g.take i)+t.2.1:=by
    unfold Qi;rw[XC,r,XD,Uw];rfl
   have ek:sumK (g.take (i+1))=sumK (g.take i)+t.2.2:=by
    unfold sumK;rw[XC,r,XD,Uw];rfl
   have gl:Qi (g.take (i+1))<=Qi g:=by
    have e:Qi g=Qi (g.take (i+1))+Qi (g.drop (i+1)):=by
     unfold Qi;rw[<- Uw,<- XD,Xc]
    lia
   refine⟨_,rfl,_,rfl,c,a1,k,t.1,Qi (g.take i),t.2.1,27*i,14,rfl,SqL.of l,SqL.of (s1 _ _ J),n,ct,"a","a","a","a",λd ys H2 hd L cy ky uy s2=>(eU d _ ys rfl (s1.trans s2) (s1.free hd) L ?_ ?_ (λm M=>?_))⟩
   .rw[eg,show 27*(i+1)=27*i+14+13 by lia];exact cy
   .rw[ek];exact ky _ _ u kt
   .obtain⟨a,b,h1,h2,rfl⟩:=uy m M;obtain⟨ms,h3,rfl⟩:=j a h1;refine⟨ms++[b],?_,by rw[Uw];rfl⟩;rw[XC,r];exact Paired.snoc h3 h2
  .refine λG Y=>gq λc O k z0 s1 hc l n u j=>?_;subst z0;rw[Paired.length z]at n u j;rw[XF]at n u j;exact⟨_,rfl,q c k Y hc l n u j s1⟩
def zdO:zD ["board"] ["board"] (zv Js):=bh
def zdP(ag:qw K mg "TooGreat" jaj)(T:Txt mg)(Z:Prog K mg)(D:zh K mg "near_counts" Js ["board"] f fd):qm P w K mg base (CXE P w) 6 f fd ["board"] (zrU jaj):=by
 obtain⟨QX,YD,zR⟩:=Z.around;obtain⟨yZ,yt,zw⟩:=Z.sign_at;obtain⟨yu,jO,zB⟩:=Z.cells_of;obtain⟨Qk,Yb,zG⟩:=Z.open_cells;obtain⟨QY,Ql,qf⟩:=Z.number_at;obtain⟨aq,an,jE⟩:=Z.numbers_of;obtain⟨av,au,yr⟩:=Z.needs_at;obtain⟨ay,aw,yX⟩:=Z.may_fit;obtain⟨am,al,jr⟩:=Z.part_layings;obtain⟨az,ax,jI⟩:=Z.counted;obtain⟨a5,a2,Jy⟩:=Z.part_counts;obtain⟨yR,yK,zM⟩:=Z.closed_around;obtain⟨a3,a1,Yz⟩:=Z.joined;obtain⟨a6,a4,ac⟩:=Z.parts;obtain⟨ar,ao,jX⟩:=Z.all_poured;refine D.F.okX zdO "l" (λai A ah s H vs Q E hr h=>?_)
 .revert h;refine gp λp l rs n L z0 b R hL qg q=>?_;subst z0;refine⟨_,(zg (zF (pc0 (Z9 T Z jX) hr jX (za (zt8 j9 ["part","board"] [none,some 0] cR (zN (pc0 (zhB T ac zR zw zB zG zM Yz) hr ac (za (pvS 0) zd))) (pgN 0) qp (zcS (zdM ag T Jy zR zw zB zG qf jE yr yX jr jI) (hr.mono "d") "r" Jy.g Jy.F.kp Jy.b .nil zf6 (za (pvS 1) (za (pvS 0) zd)))) zd)))),?_⟩;ac_nf;refine⟨_,rfl,p,l,rs,n,rfl,b,R,λd ws M H1 hd aa hG G s1=>(dX d rfl ⟨_,SqL.of aa⟩ (λz hz=>?_))⟩;have aj:M.length<=64:=X5 (Parts.Yr G.ne) (QV G R);refine qj (K:=K) (a:=d) (xs:=ws) (λj J H'=>∃(u0:Option V) (I:AE) (B:List It),J=[u0,some (.ref p)]/\zx H1 H'/\H' z=some (.lst I)/\(∀v∈I,v≠V.ref z)/\Xk (ItR H') I B/\zhO rs L (M.take j) B/\∀g∈M.take j,g.length<=14)
   (eU _ [] [] rfl (zc hz) zb (λ_ h=>nomatch h) (.nil) ⟨.nil,rfl,rfl,λ_ h=>nomatch h⟩ (λ_ h=>nomatch h)) (λj J H' _ ⟨_,_,_,_,y,_⟩=>SqL.of (y _ _ aa)) ?_ ?_
  .refine λj v J H2 hv=>gq λu0 I B z0 Y u nz r i x=>?_;subst z0;refine fR (λg hg=>fS λga ug z0 af ae=>?_) (x8.get (hG.mono Y) hv);subst z0;have gm:=X7 hg;have il:=(X6.mp hg).1;unfold xV;refine Qh ?_;refine⟨_,rfl,_,rfl,p,l,ga,rs,n,ug,g,L,rfl,(b.mono s1).mono Y,R,af,ae,qq (G.srt g gm),X5 (UQ (UO gm)) (QV G R),znz G hL gm,λN H3 U=>qg ⟨M,G,g,gm,N⟩ H3 ((s1.trans Y).trans U),λN e xs H3 he O cp U=>?_⟩;have ez:e≠z:=λy=>by
    subst y;rw[u]at he;cases he
   have yl:I.length=j:=by
    rw[Paired.length r,<- ZB (f:=λt:It=>t.2.1),i.g,ZB,XH];lia
   refine dX _ (U _ _ u) (XM (show I.length<=64 by lia) "d") (eU _ (I++[.ref e]) (B++[(xs,g.length,(g.filter L).length)]) rfl (λb o e'=>?_) zb (λv hv=>?_) ?_ (i.snoc hg cp.c cp.own (λm hm=>let ⟨q',h1,h2,h3⟩:=cp.all m hm;⟨q',⟨h1,h2⟩,h3⟩)) (λg' ab=>?_))
   .rw[zq (zj e' hz)];exact U _ _ (Y _ _ e')
   .rcases XV.mp hv with hv | hv
    .exact nz v hv
    .rw[Xy.mp hv];exact λq=>ez (V.ref.inj q)
   .exact Paired.snoc (zdN nz (YC U r)) ⟨e,rfl,by rw[zq ez];exact O⟩
   .rw[XC,hg]at ab;rcases XV.mp ab with h | h
    .exact x g' h
    .rw[Xy.mp h];exact N
  refine λJ H2=>gq λu0 I B z0 Y u _ r i x=>?_;subst z0;rw[hG.length,XF]at i x;have eg:Qi B=M.flatten.length:=by
   unfold Qi;rw[i.g,zkt]
  have ek:sumK B=(M.map λg=>(g.filter L).length).sum:=by
   unfold sumK;rw[i.k]
  have tl:B.length=M.length:=by
   have:=congrArg List.length i.g;rwa [ZB,ZB]at this
  have ak:=QV G R;refine eU z I B rfl u r i.ok "a" "a" (λe zs H3 he O cz hk _ U=>?_);rw[eg,tl]at cz;rw[ek]at hk;exact q e M zs H3 x O G cz hk (s1.trans (Y.trans U))
def Qm:zD ["n","k","found","step"] ["n","k"] (zv zag):=bh
def zjl(T:Txt mg)(D:zh K mg "choices" zag ["n","k"] f fd):qm P w K mg base CX0 1 f fd ["n","k"] ztt:=by
 refine D.F.ok Qm "l" (λj A d s H o Q E r h=>?_)
 .revert h;refine fS λn k z0 u q=>?_;subst z0;refine⟨_,(ze (qH (zaD (QE Z6 Z6 zf (pvS 1) (pvS 0))) (@zg _ _ _ (@zF _ _ _ _ zf)) zV) (@ze _ _ _ _ _ (@qv _ _ 2 _ _ _ _ Qm.nd rfl (Wm rfl) zf "r" (.inr rfl)) (ze (qN Xd rfl (prg T.xO (pvS 1)) (pgq 3 Qm.nd) (zg (qz 2 Qm.nd (zC qF (zC ZP (pvS 2) (zC yQ (pvS 0) (pvS 3))) (zC jt (pvS 3) zf))))) (zg (zF (pvS 2)))))),?_⟩;ac_nf;refine⟨_,rfl,_,_,rfl,rfl,_,rfl,?_⟩;unfold chV at q;refine QH (λc=>?_) (λc=>?_)
  .have b:(0:Int)<=k:=bg c;refine⟨_,rfl,_,_,rfl,rfl,_,rfl,?_⟩;by_cases c:k<=n
   .rw[bw ⟨b,c⟩]at q;rw[br c];refine zap ?_;refine⟨_,rfl,k,rfl,"a","a",?_⟩;refine j8 (lo:=0) (n:=k.toNat) (λi g a=>∃v,g=[some (.int n),some (.int k),some (.int (Choose.ch n.toNat i)),v]/\a=H) ⟨_,by rw[Choose.zbg];rfl,rfl⟩ ?_ ?_
    .rintro i g a p ⟨v,rfl,rfl⟩;refine⟨_,rfl,_,rfl,_,rfl,_,_,rfl,rfl,_,_,rfl,rfl,zsW "a" "a",_,rfl,_,_,rfl,rfl,_,_,rfl,rfl,jL.small "a" "a",?_⟩;refine⟨some (.int (0+(i:Int))),?_,rfl⟩;have e:=Choose.zpn (n:=n.toNat) (k:=i) "a";have l:((n.toNat:Nat):Int)=n:=Uk "a";rw[l]at e;have m:(Choose.ch n.toNat i:Int)*(n-(0+(i:Int)))/(0+(i:Int)+1)=Choose.ch n.toNat (i+1):=by
      rw[RS];exact e
     show [_,_,some (V.int ((Choose.ch n.toNat i:Int)*(n-(0+(i:Int)))/(0+(i:Int)+1))),_]=_;rw[m]
    .rintro g a ⟨v,rfl,rfl⟩;exact⟨_,rfl,q⟩
   .rw[bq (λh=>c h.2)]at q;rw[bf c];exact zdc q
  .have b:¬ (0:Int)<=k:=λz=>c (br z);rw[bq (λh=>b h.1)]at q;exact⟨_,rfl,zdc q⟩
def znF:zD ["counts","cells","stones"] ["counts","cells","stones"] (zv zc1):=bh
def zdR(T:Txt mg)(Z:Prog K mg)(D:zh K mg "dealt" zc1 ["counts","cells","stones"] f fd):qm P w K mg base CX0 2 f fd ["counts","cells","stones"] zpC:=by
 obtain⟨ae,ac,v⟩:=Z.choices;have aa:=zjl (P:=P) (w:=w) (base:=base) T v;refine D.F.ok znF "l" (λab A U s H vs Q E hr h=>?_)
 .revert h;refine gC λc xs m st g e z0 hc cx e7=>fX λgl O q=>?_;subst z0;have xl:=cx.l;refine⟨_,(zg (zF (pb1 (zg0 rfl) T.zqw O7 (pcm ["k","many","cells","stones"] [none,none,some 1,some 2] cR (JA "r" T.je (za (pvS 0) zd)) (zcV (n:=2) (K:=K) "r" rfl (zY (pgN 0) (zY (pgN 1) jR))) qp (zC ZP (pvS 1) (pc0 aa hr v (za (pvS 2) (za (zC yQ (pvS 3) (pvS 0)) zd)))))))),?_⟩;ac_nf;refine⟨_,rfl,c,rfl,⟨_,SqL.of hc⟩,λz hz=>?_⟩;refine ziH (K:=K) (a:=c) (xs:=iL xs) (λi L M=>∃(Y u1:Option V) (d:List Int),L=[Y,u1,some (.int m),some (.int st)]/\zx H M/\M z=some (.lst (iL d))/\d.length=i/\(∀y∈d,0<=y)/\(∀y∈d,y<=2^(e+64))/\(∀k,k<i->yg xs k->0<=st-(k:Int)->st-(k:Int)<=m->yg d k)/\∀y∈d,y≠0->zqC xs m st) (eU _ _ [] rfl (zc hz) zb rfl (λ_ h=>nomatch h) (λ_ h=>nomatch h) ⟨(λk h=>"a"),λ_ h=>nomatch h⟩) (λi L M _ ⟨_,_,_,_,u,_⟩=>SqL.of (u _ _ hc)) ?_ ?_
  .refine λi x tt L H3 hx N=>fV λY u1 d z0 u p J=>gg λI zm zk zu=>?_;subst z0;refine fR (λy r z0=>?_) (ints_get hx);subst z0;have il:=(X6.mp r).1;have j:=cx.b y (X7 r);have s4:=zc (o:=.tup [.int ((i:Nat):Int),.int y]) N;refine eO tt _ rfl (SqT.of zb) rfl _ _ rfl _ _ rfl rfl ?_;unfold zmm;refine zdc ⟨_,rfl,_,rfl,_,rfl,_,rfl,_,_,rfl,rfl,m,_,rfl,O,_,_,rfl,rfl,zsX (zgd j.1 j.2 e7) (zpB O),_,s4 _ _ p,?_,_,_,d++[y*chV m (st-(i:Int))],rfl,λb' o e'=>?_,?_,by rw[XZ,J];rfl,λx hx=>?_,λx hx=>?_,λk hk h1 h2 B=>?_,λx hx G=>?_⟩
   .rw[ZB];exact Xq (show d.length<150 by lia) "d"
   .rw[zq (zj e' hz)];exact s4 _ _ (u _ _ e')
   .rw[zb,zpA]
   .rcases XV.mp hx with hx | hx
    .exact I x hx
    .rw[Xy.mp hx];exact Int.mul_nonneg j.1 (zqB _ _)
   .rcases XV.mp hx with hx | hx
    .exact zm x hx
    .rw[Xy.mp hx,OT];exact RA j.2 (zrT O) (zqB _ _) (T5 (OU "d"))
   .show 1<=_;rw[XN];by_cases ki:k<i
    .rw[VH "a",<- XN];exact zk k ki h1 h2 B
    .have:k=i:="a"
     subst this;rw[Vq "a",J,SV];have h1:1<=xs.getD k 0:=h1;rw[XN,r]at h1;have h1:1<=y:=h1;have:=RA h1 (zts h2 B) "d" "a";show 1<=y*chV m (st-(k:Int));lia
   .rcases XV.mp hx with hx | hx
    .exact zu x hx G
    .rw[Xy.mp hx]at G;have ny:y≠0:=λe=>G (by rw[e,Int.zero_mul]);have nc:chV m (st-(i:Int))≠0:=λe=>G (by rw[e,NZ]);refine⟨i,?_,ztu nc⟩;show 1<=xs.getD i 0;rw[XN,r];show 1<=y;lia
  .refine λL H3=>fV λY u1 d z0 u p J=>gg λI zm zk zu=>?_;subst z0;refine ef z _ rfl (SqL.of p) (q _ _ (zge I).1 ?_ (λk h1 h2 B=>?_) (λne=>?_) u)
   .have a:=znv zm;rw[J,ZB]at a;have M0:(0:Int)<=2^(e+64):=T5 (OU "d");have b:((xs.length:Nat):Int)*2^(e+64)<=2^8*2^(e+64):=Sm (by show _<=(256:Int);lia) M0;rw[<- OT,show 8+(e+64)=e+72 by lia]at b;exact Vb a b
   have kl:k<xs.length:=by
    by_cases h:k<xs.length
    .exact h
    .have e:xs.getD k 0=0:=by
      rw[XN,Sx "a"];rfl
     have h1:1<=xs.getD k 0:=h1;lia
   .have:=(zge I).2 k (zk k (by rw[ZB];exact kl) h1 h2 B);lia
   .refine VG λno=>ne (zhL λy r=>VG λh=>no (zu y r h))
def zhQ:zD ["board","near"] ["board"] (zv zc0):=bh
def zhR(y:qw K mg "TooGreat" jaj)(T:Txt mg)(Z:Prog K mg)(D:zh K mg "count" zc0 ["board"] f fd):qm P w K mg base (CXE P w) 7 f fd ["board"] (zgh jaj):=by
 obtain⟨QX,YD,zR⟩:=Z.around;obtain⟨yZ,yt,zw⟩:=Z.sign_at;obtain⟨yu,jO,zB⟩:=Z.cells_of;obtain⟨ag,af,qJ⟩:=Z.closed;obtain⟨Qk,Yb,zG⟩:=Z.open_cells;obtain⟨QY,Ql,qf⟩:=Z.number_at;obtain⟨yR,yK,zM⟩:=Z.closed_around;obtain⟨ao,an,j⟩:=Z.far;obtain⟨ai,ah,xU⟩:=Z.bare_wrong;obtain⟨al,aj,i⟩:=Z.near_counts;obtain⟨am,ak,U⟩:=Z.dealt;refine D.F.okX zhQ "l" (λaa A B s H vs Q E d h=>?_)
 .revert h;refine gp λp l a n L z0 b R m qg q=>?_;subst z0;refine⟨_,(ze (qz 1 zhQ.nd (pcL j9 (zdP y T Z i) d i (za (pvS 0) zd))) (ze (qH (zI (jT d.units) (pc0 (zav T xU zR zw zB zM zG qf) d xU (za (pvS 0) zd)) (@qa _ _ _ _ zd) (zT _)) (@zg _ _ _ (@zF _ _ _ _ zf)) zV) (zg (zF (pc0 (zdR T Z U) d U (za (pvS 1) (za (pb1 zH T.qQ Xl (pc0 (znf T j zR zw zB qJ zG) d j (za (pvS 0) zd))) (za (zQ qk (pvS 0) zf (λ_ _=>rfl)) zd)))))))),?_⟩;ac_nf;refine⟨_,rfl,p,l,a,n,L,rfl,b,R,m,qg,λd1 gs zs H1 z M G cz hk s1=>?_⟩;refine⟨_,rfl,p,l,a,n,rfl,b.mono s1,R,λd2 w2 H2 ae O r s2=>⟨xo,λe he=>?_⟩⟩;have k:=zc (o:=.lst []) he;refine dW (.list ((Qx a).map zA)) (.list []) (.lst (SqL.of (k _ _ O)) (zJ.rdv (N:=λ_=>True) (Cel.rdn (Cel.mono k r)))) (.lst (SqL.of zb) .nil) (zdI _ []) ⟨_,rfl,?_⟩;have ee:(if true=true then !PyData.eqv (.list ((Qx a).map zA)) (.list []) else WW (.list ((Qx a).map zA)) (.list []))=!(Qx a).isEmpty:=congrArg (λb=>!b) (eq_nil _);rw[ee,zgg G m];have g:=(s1.trans s2).trans k;have c:=k _ _ (s2 _ _ M);generalize upd H2 e (.lst [])=H3 at *
  refine zap ?_;have Y:=b.mono g;refine⟨_,rfl,_,rfl,p,l,a,n,rfl,Y,R,λd4 J H4 _ x u I=>⟨d4,_,rfl,.inl (SqL.of x),?_⟩⟩;have hl:=u.length;have ac:(xQ a).length<=64:=X5 (WP _ _) (jg (p:=Zz) R);have ab:=QV G R;have gl:=Parts.Yr G.ne;have en:=zcq G m;have fl:=WP L (xQ a);exact⟨_,rfl,p,_,1,_,rfl,rfl,SqT.of (Y.mono I).tp,rfl,d1,zs,(J.length:Nat),n,_,_,rfl,I _ _ c,cz,"a","a","a",λv H' v0 vm hv _ s'=>q v H' gs G z (by have:=hv _ hk "a" "a";lia) (Vb vm (zjg "a")) ((g.trans I).trans s')⟩
theorem zdS:∀{gs:List AB} {b:List It} {m:Nat},Xk (AllP rs) gs b->Split b m->∃qs,Xk (zjh rs) gs qs/\(qs.map List.length).sum=m
 | [],_,m,.nil,⟨f,h,e⟩=>by
  cases h;exact⟨[],.nil,e⟩
 | g::gs,_,m,.cons a t,⟨f,h,e⟩=>by
  cases h with
  | cons k ks =>
   rename_i k0 ms0;obtain⟨qs,h1,h2⟩:=zdS t ⟨ms0,ks,rfl⟩;obtain⟨q,c,d⟩:=a _ k;refine⟨q::qs,.cons c h1,?_⟩;rw[Xs,UN,h2,d,<- e,UN]
def zgl(h:Xk (zjh rs) gs qs):qs.flatten.Sublist gs.flatten:=by
 induction h with
 | nil=>exact List.Sublist.refl _
 | cons a _ b =>
  rw[WF,WF];exact List.Sublist.append a.1 b
def zrX(h:Xk (zjh rs) gs qs):gs.flatten.Nodup->∀g∈gs,∃q,zjh rs g q/\∀x∈g,x∈qs.flatten↔x∈q:=by
 induction h with
 | nil=>exact λ_ _ h=>nomatch h
 | cons a t d =>
  rename_i g0 e gs0 qs0;intro c g hg;rw[WF,WE]at c;have f:=(zgl t).subset;rcases XG.mp hg with rfl | hg
  .refine⟨e,a,λx b=>?_⟩;rw[WF,XV];exact⟨λh=>h.elim id λh=>absurd rfl (c.2.2 x b x (f h)),.inl⟩
  .obtain⟨q,h1,h2⟩:=d c.2.1 g hg;refine⟨q,h1,λx b=>?_⟩;rw[WF,XV,<- h2 x b];exact⟨λh=>h.elim (λh=>absurd rfl (c.2.2 x (a.1.subset h) x (WD.mpr ⟨g,hg,b⟩))) id,.inr⟩
def zrY{A T:AB}(a:A.Nodup)(b:T.Nodup)(s:∀x∈T,x∈A):A.countP (λx=>decide (x∈T))=T.length:=by
 rw[WR];refine UY ((WV (a.sublist Xn) b).mpr λx=>?_);rw[XW,bu];exact⟨λh=>h.2,λh=>⟨s x h,h⟩⟩
def zpG(qs:List AB)(F:AB)(x:AA):Bool:=decide (x∈qs.flatten++F)
def znJ{gs :List AB}(G:Parts.Good (clA rs) (qD rs) gs)(A:Lay rs n L)(w:gs'.Perm gs)(l:Xk (zjh rs) gs' qs)(E:F.Nodup)(s:∀x∈F,x∈xQ rs)
  (u:(((qs.map List.length).sum+F.length:Nat):Int)=n):Lay rs n (zpG qs F):=by
 have v:=w.flatten;have f:gs'.flatten.Nodup:=v.nodup_iff.mpr G.nd;have sub:∀x∈qs.flatten,x∈gs.flatten:=λx c=>v.mem_iff.mp ((zgl l).subset c);have r:(qs.flatten++F).Nodup:=WE.mpr ⟨f.sublist (zgl l),E,λa B b D e=>((zc2 G).mp (s b D)).2 (e ▸ sub a B)⟩;constructor
 .show (((zP rs).countP λx=>decide (x∈qs.flatten++F):Nat):Int)=n;rw[zrY (jW rs) r λx c=>(XV.mp c).elim (λh=>Qj G x (sub x h)) λh=>zhN (s x h),XZ,Oq];exact u
 .intro o j;by_cases i:clA rs o=[]
  .rw[i];exact(zhM.mp (zgg G A) o j i).symm
  .obtain⟨g,k,d⟩:=G.cov o j i;obtain⟨q,h1,h2⟩:=zrX l f g (w.mem_iff.mpr k);obtain⟨y,m⟩:=Uz _ i;have p:=xR m;have H:o∈zbp rs g:=zgf.mpr ⟨j,y,d y m,(xT p).mpr m⟩;rw[<- h1.2 o H,WR];congr 1;refine UY ((WV ((Zi rs o).sublist Xn) (((qq (G.srt g k)).sublist h1.1).sublist Xn)).mpr λx=>?_);rw[XW,XW,bu];unfold zpG;rw[bu,XV];constructor
   .rintro⟨c,h | h⟩
    .exact⟨(h2 x (d x c)).mp h,(XW.mp c).1⟩
    .have a:=zks (s x h) j;rw[(xT (xR c)).mpr c]at a;cases a
   .rintro⟨c,hn⟩;have z:=h1.1.subset c;have I:=Qj G x (WD.mpr ⟨g,k,z⟩);exact⟨(xT I).mp (yY.mpr hn),.inl ((h2 x z).mpr c)⟩
def znK{A:AB}(a:A.Nodup)(h:k<=A.length):∃F:AB,F.Nodup/\(∀x∈F,x∈A)/\F.length=k:=⟨A.take k,a.sublist (SO _ _),λ_ h=>VM h,by rw[XH];lia⟩
def znL{A:AB}(d:A.Nodup)(a:c∈A)(h:k+1<=A.length):∃F:AB,F.Nodup/\(∀x∈F,x∈A)/\F.length=k+1/\c∈F:=by
 have p:=List.perm_cons_erase a;have nd2:=p.nodup_iff.mp d;have l:=p.length_eq;rw[Xf]at l;refine⟨c::(A.erase c).take k,nd2.sublist ((SO _ _).cons_cons c),λx b=>p.mem_iff.mpr (XG.mpr ((XG.mp b).imp id VM)),?_,XU⟩;rw[Xf,XH];lia
abbrev KV1:=List (List Key×V)
def qR(c:AA):List Key:=[.inl ((c.1:Nat):Int),.inl ((c.2:Nat):Int)]
def QZ(h:qR c=qR d):c=d:=by
 unfold qR at h;obtain⟨a,b⟩:=c;obtain⟨x,y⟩:=d;simp only[List.cons.injEq,Sum.inl.injEq,and_true]at h;obtain⟨h1,h2⟩:=h;have e:a=x:="a"
 have f:b=y:="a"
 rw[e,f]
def zeB(c:AA)(k:List (Int×Int)):Bool:=k.any λz=>decide (z=toI c)
def zpH:Sp:=λj H Q _=>∃(h f:Addr) (i:AE) (a:List (List (Int×Int))) (N:Addr->Prop) (g:Nat) (c:AA),j=[.ref h,.int (g:Nat),.ref f]/\H h=some (.lst i)/\yh N H i a/\(∀k∈a,k.length<=g)/\g<=64/\a.length<=16384/\H f=some (.tup [.int (c.1:Nat),.int (c.2:Nat)]) /\
 ∀(d:Addr) (b:List Int) (e:Hp),H d=none->e d=some (.lst (iL b))->Cn g 14 b->(∀k∈a,zeB c k=true->yg b k.length)->(∀m,yg b m->∃k∈a,zeB c k=true/\k.length=m)->zx H e->Q (.ref d) e
def zku(c)(q):zeB c (toL q)=decide (c∈q):=by
 unfold zeB toL;rw[T4,V9,WH,bu];constructor
 .rintro⟨x,hx,h⟩;have f:toI x=toI c:=bg h;have:x=c:=by
   unfold toI at f;obtain⟨a,b⟩:=x;obtain⟨d,e⟩:=c;simp only[QQ]at f;have g:a=d:="a"
   have i:b=e:="a"
   rw[g,i]
  rw[<- this];exact hx
 .intro h;exact⟨c,h,br rfl⟩
def zdT(rs:AD)(L:AA->Bool)(z:Addr)(H:Hp)(v:V)(g:AB):Prop:=∃a d c,v=V.ref a/\a≠z/\H a=some (.lst d)/\yh (λb=>b≠z) H d c/\zkp rs g L c
def Z0(s:zx H b){c:AE}(d:Xk (zdT rs L z H) c gs):Xk (zdT rs L z b) c gs:=Paired.imp' (λ_ _ ⟨a,g,f,e,n,h,l,p⟩=>(eB a g f e n (s _ _ h) (jq s l) p)) d
def zhT(hz:H z=some (.lst xs)){b:AE}(c:Xk (zdT rs L z H) b gs):Xk (zdT rs L z (upd H z (.lst ys))) b gs:=Paired.imp' (λ_ _ ⟨a,f,d,e,n,h,l,p⟩=>(eB a f d e n (by rw[zq n];exact h) (ZD hz (λ_ h=>h) l) p)) c
theorem zgm:∀{b:List α} {a:List c} (i:Nat),Xk R b a->Xk R (b.take i) (a.take i)
 | _,_,0,_=>.nil
 | _,_,_+1,.nil=>.nil
 | _,_,i+1,.cons h t=>.cons h (zgm i t)
theorem zgn:∀{b:List α} {a:List c} (i:Nat),Xk R b a->Xk R (b.drop i) (a.drop i)
 | _,_,0,h=>h
 | _,_,_+1,.nil=>.nil
 | _,_,i+1,.cons _ t=>zgn i t
def zkv(a)(k:List Key)(v):(putK a k v).length<=a.length+1:=by
 unfold putK;split
 .rw[ZB];exact Wb _
 .rw[XZ];exact XQ _
def znM(l):(ZR l).length<=l.length:=by
 have:∀(l a:List (List Key×V)),(l.foldl (λa b=>putK a b.1 b.2) a).length<=a.length+l.length:=λl=>by
  induction l with
  | nil=>exact λa=>XQ _
  | cons x r c =>
   intro a;rw[V6,Xf];have h1:=c (putK a x.1 x.2);have h2:=zkv a x.1 x.2;lia
 have:=this l [];rw[TZ,VT]at this;exact this
def zrZ(xs)(h:i<=xs.length):zei xs none (some ((i:Nat):Int))=xs.take i:=by
 unfold zei;rw[HT.zjX,Nat.min_eq_left h];show (xs.drop 0).take (i-0)=_;rw[List.drop_zero,Nat.sub_zero]
def OkV(rs:AD)(n:Int)(L:AA->Bool)(a:List (List Key×V))(c:AA):Prop:=∃v:Int,qX a (qR c)=some (V.int v)/\0<=v/\v<=2^2000/\(L c=true->v≠0)/\(v≠0->∃M,Lay rs n M/\M c=true)
def znN:Sp:=λf H Q _=>∃(p l:Addr) (a:AD) (n:Int) (L:AA->Bool),f=[.ref p]/\qd H p l a n/\Rows bd.cps.toList a/\¬ Big a/\Lay a n L /\
 ∀(d:Addr) (b:List (List Key×V)) (e:Hp),H d=none->e d=some (.dT b)->(∀c∈zP a,OkV a n L b c)->zx H e->Q (.ref d) e
def zeC:zD ["found","greatest","cell"] ["found","greatest","cell"] (zv J4):=bh
def zeD(T:Txt mg)(D:zh K mg "counted_at" J4 ["found","greatest","cell"] f fd)(jI:zh K mg "counted" Zg ["found","greatest"] f1 O):qm P w K mg base CX0 2 f fd ["found","greatest","cell"] zpH:=by
 refine D.F.ok zeC "l" (λah A ag s H vs Q E hr h=>?_)
 .revert h;refine fU λM ca us G=>fV λN g c z0 x hL hk=>gg λU kl Y q=>?_;subst z0;refine⟨_,(zg (zF (pc0 (zaR T jI) hr jI (za (pcm ["laying","cell"] [none,some 2] cR (zN (pvS 0)) (pgN 0) (qA (zI (jC (K:=K) "r" hr.units) (pvS 1) (pvS 0) "r")) (pvS 0)) (za (pvS 1) zd))))),?_⟩;ac_nf;refine⟨_,rfl,M,rfl,⟨_,SqL.of x⟩,λz hz=>?_⟩;refine qj (K:=K) (a:=M) (xs:=us) (λj p I=>∃(u0:Option V) (n:AE),p=[u0,some (.ref ca)]/\zx H I/\I z=some (.lst n)/\yh (λa=>a≠z) I n ((G.take j).filter (zeB c)))
   (dW _ [] rfl (zc hz) zb (.nil)) (λj p I _ ⟨_,_,_,y,_⟩=>SqL.of (y _ _ x)) ?_ ?_
  .refine λj v p H1 hv=>fQ λu0 n z0 s1 l i=>?_;subst z0;refine fV (λk L wa B z0 _ r t1=>?_) (zbr hL hv);subst z0;have jl:j<G.length:=(X6.mp B).1;have J:(G.take (j+1)).filter (zeB c)=(G.take j).filter (zeB c)++if zeB c k=true then [k] else []:=by
    rw[XC,B,WJ];congr 1;show OV _ [k]=_;rw[V5];split<;>rfl
   refine⟨_,rfl,_,rfl,zA c,k.map pD,.tup (SqT.of (s1 _ _ Y)) (.cons (.int _) (.cons (.int _) .nil)),.lst (SqL.of (s1 _ _ r)) (znl (YA s1 t1)),rfl,znm _,(by show 1<=60;decide),_,rfl,?_⟩;have ei:(if false=true then !(k.map pD).any (λz=>WW z (zA c)) else (k.map pD).any λz=>WW z (zA c))=zeB c k:=zrR k c;rw[ei];by_cases u:zeB c k=true
   .rw[bw u]at J;refine ju u ?_;have yl:n.length<=16384:=by
     rw[jh i];refine X5 (WP _ _) ?_;rw[XH];lia
    refine⟨_,rfl,n,l,XM yl "d",_,n++[.ref L],rfl,λb o e=>?_,zb,?_⟩
    .rw[zq (zj e hz)];exact s1 _ _ e
    .rw[J];have nz:L≠z:=zj r hz;exact zaj (ZD l (λ_ h=>h) i) (.cons (dW L wa rfl nz (by rw[zq nz];exact s1 _ _ r) (YB l (YA s1 t1))) .nil)
   .rw[bq u,W5]at J;refine qZ (WY.mpr u) ?_;exact dW _ n rfl s1 l (by rw[J];exact i)
  refine λp H1=>fQ λu0 n z0 s1 l i=>?_;subst z0;rw[jh hL,XF]at i;refine⟨_,rfl,z,n,_,_,g,rfl,l,i,λk ab=>hk k (XW.mp ab).1,U,X5 (WP _ _) kl,λd xs H2 hd aa cn ac af s2=>?_⟩;exact q d xs H2 (s1.free hd) aa cn (λk ae u=>ac k (XW.mpr ⟨ae,u⟩)) (λm hm=>let ⟨k,h1,h2⟩:=af m hm;⟨k,(XW.mp h1).1,(XW.mp h1).2,h2⟩) (s1.trans s2)
def qc:zD ["board","pieces","found","counts","rest","at_far","told","place","part","others","cell","near"] ["board"] (zv yI):=bh
def zbu(c6:qw K mg "TooGreat" jaj)(T:Txt mg)(Z:Prog K mg)(D:zh K mg "counts_by_cell" yI ["board"] f fd):qm P w K mg base CX0 7 f fd ["board"] znN:=by
 obtain⟨QX,YD,zR⟩:=Z.around;obtain⟨yZ,yt,zw⟩:=Z.sign_at;obtain⟨yu,jO,zB⟩:=Z.cells_of;obtain⟨d0,dz,qJ⟩:=Z.closed;obtain⟨Qk,Yb,zG⟩:=Z.open_cells;obtain⟨QY,Ql,qf⟩:=Z.number_at;obtain⟨d9,d6,jE⟩:=Z.numbers_of;obtain⟨dD,dC,yr⟩:=Z.needs_at;obtain⟨dH,dE,yX⟩:=Z.may_fit;obtain⟨d3,d2,jr⟩:=Z.part_layings;obtain⟨dI,dF,jI⟩:=Z.counted;obtain⟨dS,dP,bW⟩:=Z.counted_at;obtain⟨yR,yK,zM⟩:=Z.closed_around;obtain⟨dM,dJ,Yz⟩:=Z.joined;obtain⟨dQ,dN,bV⟩:=Z.parts;obtain⟨dV,dU,bX⟩:=Z.far;obtain⟨dB,d4,xU⟩:=Z.bare_wrong;obtain⟨dL,dG,QW⟩:=Z.poured;obtain⟨dA,d8,jX⟩:=Z.all_poured;obtain⟨dR,dO,Qn⟩:=Z.dealt;refine D.F.ok qc "l" (λdj A c9 s H vs Q E hr h=>?_)
 .revert h;refine gp λp l r n L z0 b R nB hL q=>?_;subst z0;have sm:∀u,Parts.Good (clA r) (qD r) u->∀g∈u,g.length<=14:=λu G g hg=>Oe.mp λz=>nB ⟨u,G,g,hg,z⟩;have cg:(zP r).length<=64:=jg R;refine⟨_,(ze (qz 1 qc.nd (pc0 (zhB T bV zR zw zB zG zM Yz) hr bV (za (pvS 0) zd))) (ze (psC 2 qc.nd ["part","board"] [none,some 0] cR (zN (pvS 1)) (pgN 0) qp (pcX (Qy c6 T jr zR zw zB zG qf jE yr yX) hr jr (za (pvS 1) (za (pvS 0) zd)))) (ze (qH (zI (jT hr.units) (pc0 (zav T xU zR zw zB zM zG qf) hr xU (za (pvS 0) zd)) (@qa _ _ _ _ zd) (zT _)) (zg (zF (pt1 (j5 hr.units hr.hd) T.zdD UP (pcm ["cell"] [none] cP (zN (pc0 (Zh T qJ zB zw) hr qJ (za (pvS 0) zd))) (pgN 0) qp (qu (za (pvS 0) (@za _ _ _ _ _ zf zd rfl))))))) zV) (ze (psC 3 qc.nd ["part","some"] [none,none] cP (zrl "r" T.zto (za (pvS 1) (za (pvS 2) zd))) (zcV (n:=2) (K:=K) "r" rfl (zY (pgN 0) (zY (pgN 1) jR))) qp (pc0 (zaR T jI) hr jI (za (pvS 1) (za (pb1 (zdA (K:=K) "r") T.qQ Xl (pvS 0)) zd)))) (ze (qz 4 qc.nd (pc0 (znf T bX zR zw zB qJ zG) hr bX (za (pvS 0) zd))) (ze (qz 5 qc.nd (pc0 (zdR T Z Qn) hr Qn (za (pc0 (Z9 T Z jX) hr jX (za (pvS 3) zd)) (za (zC yQ (pb1 zH T.qQ Xl (pvS 4)) zf) (za (zC yQ (zQ qk (pvS 0) zf (λ_ _=>rfl)) zf) zd))))) (ze (qz 6 qc.nd (pt1 (j5 hr.units hr.hd) T.zdD UP (pcm ["cell","at_far"] [none,some 5] cR (zN (pvS 4)) (pgN 0) qp (qu (za (pvS 0) (za (pvS 1) zd)))))) (ze (qN Xd rfl (JA "r" T.je (za (pvS 1) zd)) (JH rfl (zY (pgq 7 qc.nd) (zY (pgq 8 qc.nd) jR))) (ze (qz 9 qc.nd (pc0 (Z9 T Z jX) hr jX (za (zC JI (zdb zfJ (pvS 3) za3 (zcT (pvS 7))) (zdb zfJ (pvS 3) (zcT (zC jt (pvS 7) zf)) za3)) zd))) (zg (qN Xd rfl (zN (pvS 8)) (pgq 10 qc.nd) (ze (qz 11 qc.nd (pc0 (zfl T QW) hr QW (za (pvS 9) (za (pc0 (zeD T bW jI) hr bW (za (zQ jk (pvS 2) (pvS 7) (λ_ _=>rfl)) (za (pb1 zH T.qQ Xl (pvS 8)) (za (pvS 10) zd)))) zd)))) (zg (zj2 (u1 hr.units) (pvS 6) (pvS 10) (pc0 (zdR T Z Qn) hr Qn (za (pvS 11) (za (pb1 zH T.qQ Xl (pvS 4)) (za (zQ qk (pvS 0) zf (λ_ _=>rfl)) zd)))) rfl))))))) (zg (zF (pvS 6))))))))))),?_⟩;ac_nf;refine⟨_,rfl,p,l,r,n,rfl,b,R,λd1 w1 u H1 dq bc hG G s1=>?_⟩;have bj:=QV G R;have dc:u.length<=64:=X5 (Parts.Yr G.ne) bj;refine⟨_,rfl,d1,rfl,⟨_,SqL.of bc⟩,λz hz=>?_⟩;refine qj (K:=K) (a:=d1) (xs:=w1) (λj ae O=>∃(u0:Option V) (ys:AE),ae=[u0,some (.ref p)]/\zx H1 O/\O z=some (.lst ys)/\Xk (zdT r L z O) ys (u.take j))
   (dW _ [] rfl (zc hz) zb (.nil)) (λj ae O _ ⟨_,_,_,y,_⟩=>SqL.of (y _ _ bc)) ?_ ?_
  .refine λj v ae H2 hv=>fQ λu0 ys z0 s2 aj bF=>?_;subst z0;refine fR (λg hg=>fS λga ug z0 ax an=>?_) (x8.get (hG.mono s2) hv);subst z0;have gm:=X7 hg;have il:=(X6.mp hg).1;unfold xV;refine Qh ?_;refine⟨_,rfl,_,rfl,p,l,ga,r,n,ug,g,L,rfl,(b.mono s1).mono s2,R,ax,an,qq (G.srt g gm),X5 (sm u G g gm) "d",znz G hL gm,(λh=>absurd h (by have:=sm u G g gm;lia)),λ_ e we ks H3 he cw cp ly s3=>?_⟩;have ez:e≠z:=λy=>by
    subst y;rw[aj]at he;cases he
   have nz:∀a,(H2 a=none/\a≠e)->a≠z:=λa h y=>by
    subst y;rw[aj]at h;cases h.1
   have t1:u.take (j+1)=u.take j++[g]:=by
    rw[XC,hg];rfl
   refine fB _ (s3 _ _ aj) ?_ _ (ys++[.ref e]) rfl (λb' o e'=>?_) zb ?_
   .rw[show ys.length=(u.take j).length from Paired.length bF,XH];exact XM (show _<=64 by lia) "d"
   .rw[zq (zj e' hz)];exact s3 _ _ (s2 _ _ e')
   .rw[t1];exact Paired.snoc (zhT (s3 _ _ aj) (Z0 s3 bF)) (eB e we ks rfl ez (by rw[zq ez];exact cw) (ZD (s3 _ _ aj) (λ_ h=>h) (zaP nz cp)) ly)
  refine λae H2=>fQ λu0 ys z0 s2 aj aA=>?_;subst z0;rw[hG.length,XF]at aA;have bJ:=s1.trans s2;have cj:=hG.mono s2;have bx:=s2 _ _ bc;refine⟨_,rfl,p,l,r,n,rfl,b.mono bJ,R,λd w2 H3 hd cv aO s3=>⟨xo,λe he=>?_⟩⟩;have s4:=zc (o:=.lst []) he;refine dW (.list ((Qx r).map zA)) (.list []) (.lst (SqL.of (s4 _ _ cv)) (zJ.rdv (N:=λ_=>True) (Cel.rdn (Cel.mono s4 aO)))) (.lst (SqL.of zb) .nil) (zdI _ []) ⟨_,rfl,?_⟩;have ee:(if true=true then !PyData.eqv (.list ((Qx r).map zA)) (.list []) else WW (.list ((Qx r).map zA)) (.list []))=!(Qx r).isEmpty:=by
   show (!PyData.eqv _ _)=_;rw[eq_nil]
  rw[ee];have a5:=s3.trans s4;have bK:=bJ.trans a5;have b4:=b.mono bK;have au:=a5 _ _ bx;have aX:=a5 _ _ aj;have bn:=cj.mono a5;have bm:=Z0 a5 aA;generalize upd H3 e (.lst [])=H4 at *
  rw[zgg G hL];refine zap ?_;refine⟨_,rfl,_,rfl,d1,z,rfl,⟨_,SqL.of au⟩,⟨_,SqL.of aX⟩,λt0 bC=>?_⟩;refine zmB (K:=K) (l1:=d1) (l2:=z) (xs:=w1) (ys:=ys) (λj ae O=>∃(u0 u1:Option V) (B:AE) (J:List It),ae=[u0,u1]/\zx H4 O/\O t0=some (.lst B)/\(∀v∈B,v≠V.ref t0)/\Xk (ItR O) B J/\zhO r L (u.take j) J) (hG.length.trans (Paired.length aA).symm)
   (eS _ _ [] [] rfl (zc bC) zb (λ_ h=>nomatch h) (.nil) ⟨.nil,rfl,rfl,λ_ h=>nomatch h⟩) (λj ae O _ ⟨_,_,_,_,_,y,_⟩=>⟨SqL.of (y _ _ au),SqL.of (y _ _ aX)⟩) ?_ ?_
  .refine λj v v' tt ae H5 hv c0 ay=>gz λu0 u1 B J z0 s5 aC nt ar I=>?_;subst z0;refine fR (λg hg=>fS λga ug z0 ax an=>?_) (x8.get (bn.mono s5) hv);subst z0;refine fR (λg' ao=>fV λfa wf ks z0 fz aV aN ly=>?_) (Qv (Z0 s5 bm) c0);subst z0;rw[hg]at ao;cases ao;have gm:=X7 hg;have il:=(X6.mp hg).1;have z6:=zc (o:=.tup [V.ref ga,V.ref fa]) ay;refine eO tt _ rfl (SqT.of zb) rfl _ _ rfl _ _ rfl rfl ?_;have bD:=z6 _ _ aC;have b5:=z6 _ _ ax;have b2:=z6 _ _ aV;have bp:=jq z6 aN;have cD:=s5.trans z6;have ck:=YC z6 ar;generalize upd H5 tt (.tup [V.ref ga,V.ref fa])=H6 at *
   refine Qh ?_;have dk:B.length=j:=by
    rw[Paired.length ar,<- ZB (f:=λt:It=>t.2.1),I.g,ZB,XH];lia
   refine⟨_,rfl,_,rfl,ga,_,rfl,.inl (SqL.of b5),fa,wf,ks,_,ug.length,rfl,b2,bp,λk hk=>?_,?_,ly.few,λe7 xs H7 b1 cU cn cx cy s7=>?_⟩
   .rw[an.length];exact ly.len k hk
   .rw[an.length];have:=sm u G g gm;lia
   .rw[an.length]at cn;have et:e7≠t0:=λy=>by
     subst y;rw[bD]at b1;cases b1
    have aW:=cx _ ly.own;unfold toL at aW;rw[ZB]at aW;refine dX _ (s7 _ _ bD) (XM (show B.length<=64 by lia) "d") (eS _ _ (B++[.ref e7]) _ rfl (λb' o e'=>?_) zb (λv hv=>?_) (Paired.snoc (zdN nt (YC s7 ck)) ⟨e7,rfl,by rw[zq et];exact cU⟩) (I.snoc hg cn aW λm hm=>?_))
    .rw[zq (zj e' bC)];exact s7 _ _ (cD _ _ e')
    .rcases XV.mp hv with hv | hv
     .exact nt v hv
     .rw[Xy.mp hv];exact λq=>et (V.ref.inj q)
    .obtain⟨k,h1,h2⟩:=cy m hm;obtain⟨q',rfl,h3,h4⟩:=ly.all k h1;unfold toL at h2;rw[ZB]at h2;exact⟨q',⟨h3,h4⟩,h2⟩
  refine λae H5=>gz λu0 u1 B J z0 s5 aC _ ar I=>?_;subst z0;rw[hG.length,XF]at I;have tl:J.length=u.length:=by
   have:=congrArg List.length I.g;rwa [ZB,ZB]at this
  have eg:Qi J=u.flatten.length:=by
   unfold Qi;rw[I.g,zkt]
  have en:=zcq G hL;have ek:sumK J=(u.map λg=>(g.filter L).length).sum:=by
   unfold sumK;rw[I.k]
  rw[<- ek]at en;have dn:=WP L (xQ r);have aY:=bK.trans s5;refine⟨_,rfl,p,l,r,n,rfl,b.mono aY,R,λd5 w5 H6 dr bY bt s6=>?_⟩;have wl:=bt.length;have dm:(xQ r).length<=64:=X5 (WP _ _) cg;refine⟨_,rfl,t0,B,J,rfl,s6 _ _ aC,YC s6 ar,I.ok,"a","a",λd7 zs H7 dt cV cz kz cW s7=>?_⟩;have b7:=((b.mono aY).mono s6).mono s7;refine⟨_,rfl,d5,_,rfl,.inl (SqL.of (s7 _ _ bY)),_,_,rfl,rfl,_,rfl,p,_,1,_,rfl,rfl,SqT.of b7.tp,rfl,_,_,rfl,rfl,d7,zs,_,_,_,_,rfl,cV,cz,"a","a","a",λval H8 cH cJ cI cL s8=>?_⟩;have bb:=s7.trans s8;have aE:=s6.trans bb;have cA:=aY.trans aE;have av:=bb _ _ bY;have bv:=bt.mono bb;have be:∀c∈xQ r,L c=true->val≠0:=λc Y lc=>by
   have pos:=US (XW.mpr ⟨Y,lc⟩);exact cI _ kz "a" "a"
  have bi:∀c∈xQ r,val≠0->∃M,Lay r n M/\M c=true:=λc Y nv=>by
   obtain⟨k,hk,k0,k1⟩:=cL nv;obtain⟨qs,h1,h2⟩:=zdS I.al (cW k hk);obtain⟨F,nF,sF,lF,cF⟩:=znL (zb8 r) Y (k:=(n-1-(k:Int)).toNat) "a";refine⟨_,znJ G hL (List.Perm.refl _) h1 nF sF "a",?_⟩;unfold zpG;exact br (Xm _ cF)
  have bQ:val<=2^2000:=Vb cJ (zjg "a");refine⟨_,rfl,d5,rfl,⟨_,SqL.of av⟩,λy hy=>?_⟩;refine qj (K:=K) (a:=d5) (xs:=w5) (λi σ O=>(∃u0,σ=[u0,some (.int val)])/\zx H8 O/\∃ys,O y=some (.lst ys)/\jM O ys (((xQ r).take i).map λc=>(qR c,V.int val))) (fq ⟨_,rfl⟩ (zc hy) [] zb (.nil)) (λi σ O _ ⟨_,s6,_⟩=>SqL.of (s6 _ _ av)) ?_ ?_
  .rintro i x σ di hx ⟨⟨u0,rfl⟩,bP,a9,bG,bA⟩;refine fW (λc cu ca z0 aB=>?_) (Cel.get (Cel.mono bP bv) hx);subst z0;refine yE ⟨_,rfl,_,rfl,yL,λp hp=>?_⟩;have a6:=zc (o:=.tup [.ref ca,.int val]) hp;have b6:a9.length<=64:=by
    rw[bA.length,ZB,XH];lia
   refine eu a9 (a6 _ _ bG) (XM b6 "d") ⟨_,rfl⟩ (λb' o e'=>?_) (dY (a9++[.ref p]) zb ?_)
   .rw[zq (zj e' hy)];exact a6 _ _ (bP _ _ e')
   .rw[XC,cu,XD];exact jM.into y _ (a6 _ _ bG) (jM.snoc (bA.mono a6) (ef p ca rfl zb (a6 _ _ aB)))
  refine λσ H9=>fY λ_ s9 a9 c4 bB=>?_;rw[bv.length,XF]at bB;refine dZ y a9 _ rfl c4 bB (λdd aQ=>?_);have bR:=zc (o:=.dT (ZR ((xQ r).map λc=>(qR c,V.int val)))) aQ;have aR:upd H9 dd (.dT (ZR ((xQ r).map λc=>(qR c,V.int val)))) dd=some (.dT (ZR ((xQ r).map λc=>(qR c,V.int val)))):=zb;have c7:(ZR ((xQ r).map λc=>(qR c,V.int val))).length<=64:=by
   have:=znM ((xQ r).map λc=>(qR c,V.int val));rw[ZB]at this;lia
  have c8:∀c∈xQ r,OkV r n L (ZR ((xQ r).map λc=>(qR c,V.int val))) c:=λc Y=>by
   have:=ze6 (v:=V.int val) (k:=qR c) ((xQ r).map qR) [] (.inl (XE.mpr ⟨c,Y,rfl⟩));rw[Wf]at this;exact eu val this cH bQ (be c Y) (bi c Y)
  generalize ZR ((xQ r).map λc=>(qR c,V.int val))=kvs0 at *
  generalize upd H9 dd (.dT kvs0)=H10 at *
  have aD:=s5.trans (aE.trans s9);have aZ:=cA.trans s9;have cc:H dd=none:=aZ.free aQ;have aH:=aD _ _ au;have c5:=aD _ _ aX;have aM:=bn.mono aD;have ci:=Z0 aD bm;have bE:=(aE.trans s9) _ _ aC;have bo:=YC (aE.trans s9) ar;have b0:=s9 _ _ av;have b9:=b.mono aZ;refine⟨_,rfl,d1,rfl,⟨_,SqL.of (bR _ _ aH)⟩,?_⟩;refine xZ (K:=K) (l:=d1) (xs:=w1) (λi σ O=>∃(U:List (List Key×V)) (v7 v8 v9 a7 a8:Option V),σ=[some (.ref p),some (.ref d1),some (.ref z),some (.ref t0),some (.ref d5),some (.int val),some (.ref dd),v7,v8,v9,a7,a8]/\zx H9 O/\O dd=some (.dT U)/\U.length<=64+(u.take i).flatten.length/\(∀c,c∈xQ r\/c∈(u.take i).flatten->OkV r n L U c))
   (fk kvs0 _ _ _ _ _ rfl bR aR (↑c7) (λc Y=>Y.elim (c8 c) (λh=>by simp at h))) (λi σ O _ ⟨_,_,_,_,_,_,_,y,_⟩=>SqL.of (y _ _ aH)) ?_ ?_
  .refine λi v tt σ aK hv ay=>gC λU v7 v8 v9 a7 a8 z0 az aa kl kv=>?_;subst z0;refine fR (λg hg=>fS λga ug z0 ax an=>?_) (x8.get (aM.mono az) hv);subst z0;have gm:=X7 hg;have il:=(X6.mp hg).1;have dp:=sm u G g gm;have tk:(u.take (i+1)).flatten=(u.take i).flatten++g:=by
    rw[XC,hg,Vn];congr 1;simp
   obtain⟨t,ht⟩:∃t,J[i]?=some t:=⟨_,X0 "a"⟩;have tk2:t.2.2=(g.filter L).length:=by
    have z1:=congrArg (λl:List Nat=>l[i]?) I.k;simp only[Xp,ht,hg,Ux,Option.some.injEq]at z1;exact z1
   have aF:∀f:It->Nat,((J.take i++J.drop (i+1)).map f).sum+f t=(J.map f).sum:=λf=>by
    have e1:J=J.take i++t::J.drop (i+1):=by
     have e:=(Xc i J).symm;rw[Wt "a"]at e;have e2:J[i]'"a"=t:=by
      rw[X0 "a"]at ht;exact Option.some.inj ht
     rwa [e2]at e
    conv=>rhs;rw[e1]
    rw[XD,XD,Uw,Uw,Xs,UN];lia
   have cG:Qi (J.take i++J.drop (i+1))+t.2.1=Qi J:=aF λt=>t.2.1;have cK:sumK (J.take i++J.drop (i+1))+t.2.2=sumK J:=aF λt=>t.2.2;have ol:(J.take i++J.drop (i+1)).length<=63:=by
    rw[XZ,XH,UM];lia
   have dy:tt≠dd:=λy=>by
    subst y;rw[aa]at ay;cases ay
   have bS:=zc (o:=.tup [.int (i:Nat),V.ref ga]) ay;refine eO tt _ rfl (SqT.of zb) rfl _ _ rfl _ _ rfl rfl ?_;have ba:=az.trans bS;have aS:=bS _ _ aa;generalize upd aK tt (.tup [.int (i:Nat),V.ref ga])=H12 at *
   have cl:=Paired.length bo;refine⟨_,rfl,_,rfl,_,rfl,t0,B,rfl,SqL.of (ba _ _ bE),λc1 cr=>?_⟩;have bT:=zc (o:=.lst (zei B none (some ((i:Nat):Int)))) cr;refine⟨_,rfl,_,rfl,_,_,rfl,rfl,_,rfl,t0,B,rfl,SqL.of (bT _ _ (ba _ _ bE)),λc2 ct=>?_⟩;have bU:=zc (o:=.lst (zei B (some (((i:Nat):Int)+1)) none)) ct;rw[zrZ B (show i<=B.length by lia),zhI B i "a"]at *
   refine eS c1 c2 _ _ rfl rfl (bU _ _ zb) zb ?_ (λc3 aO=>?_)
   .rw[XH,UM];exact X5 (show _<=128 by lia) "d"
   have cO:=zc (o:=.lst (B.take i++B.drop (i+1))) aO;have a3:=bT.trans (bU.trans cO);have bM:=ba.trans a3;have aw:=a3 _ _ aS;have aG:=YC bM bo;have aP:upd (upd (upd H12 c1 (.lst (B.take i))) c2 (.lst (B.drop (i+1)))) c3 (.lst (B.take i++B.drop (i+1))) c3=some (.lst (B.take i++B.drop (i+1))):=zb;generalize upd (upd (upd H12 c1 (.lst (B.take i))) c2 (.lst (B.drop (i+1)))) c3 (.lst (B.take i++B.drop (i+1)))=H15 at *
   refine eU c3 _ (J.take i++J.drop (i+1)) rfl aP (zbR (zgm i aG) (zgn (i+1) aG)) (λt ht=>I.ok t ((XV.mp ht).elim VM List.mem_of_mem_drop)) "a" "a" (λoa zo de b8 cS co ko cX bN=>?_);have aI:=bM.trans bN;have aT:=bN _ _ aw;have bI:oa≠dd:=λy=>by
    subst y;rw[aw]at b8;cases b8
   have ak:H9 ga=some (.lst ug):=by
    obtain⟨g',ao,ce,cE,e',aq,_⟩:=x8.get aM hv;cases e';have:=az _ _ aq;rw[ax]at this;cases this;exact aq
   have af:Cel H9 ug g:=by
    obtain⟨g',ao,ce,cE,e',aq,cf⟩:=x8.get aM hv;cases e';rw[hg]at ao;cases ao;rw[ak]at aq;cases aq;exact cf
   have zl:i<ys.length:=by
    rw[show ys.length=u.length from Paired.length aA];exact il
   refine fR (λg2 b3=>fV λfa wf ks cd fz aV aN ly=>?_) (Qv ci (X0 zl));rw[hg]at b3;cases b3;refine⟨_,rfl,ga,rfl,⟨_,SqL.of (aI _ _ ak)⟩,?_⟩;refine yi (K:=K) (a:=ga) (xs:=ug) (λj σ O=>∃(U:List (List Key×V)) (a7 a8:Option V),σ=[some (.ref p),some (.ref d1),some (.ref z),some (.ref t0),some (.ref d5),some (.int val),some (.ref dd),some (.int (i:Nat)),some (.ref ga),some (.ref oa),a7,a8]/\zx H9 O/\O oa=some (.lst (iL zo))/\O dd=some (.dT U)/\U.length<=64+(u.take i).flatten.length+j/\(∀c,c∈xQ r\/c∈(u.take i).flatten\/c∈g.take j->OkV r n L U c))
    (eG U _ _ rfl aI cS aT "a" (λc Y=>kv c (Y.elim .inl λh=>h.elim .inr λh=>by simp at h))) (λj σ O _ ⟨_,_,_,_,y,_⟩=>SqL.of (y _ _ ak)) ?_ ?_
   .refine λj x σ cb hx=>gf λag cM cN z0 ab ai ah bH am=>?_;subst z0;refine fW (λc Y ca z0 aB=>?_) (Cel.get (af.mono ab) hx);subst z0;have cm:=X7 Y;have jl:=(X6.mp Y).1;refine⟨_,rfl,_,rfl,_,rfl,z,_,_,_,rfl,rfl,SqL.of (ab _ _ c5),Z5 "a" (by rw[Rf];exact X0 zl),_,rfl,ga,_,rfl,.inl (SqL.of (ab _ _ ak)),_,rfl,?_⟩;rw[cd];refine er fa ca wf ks (eU _ ug.length c rfl (ab _ _ aV) (jq ab aN) (λk hk=>?_) ?_ ly.few ⟨aB,λea xa df du cT bZ cZ da bO=>?_⟩)
    .rw[af.length];exact ly.len k hk
    .rw[af.length];lia
    rw[af.length]at bZ;refine er oa ea zo xa (eY _ _ _ _ rfl (SqL.of (bO _ _ ai)) (SqL.of cT) co (eF bZ "a" "a" "a" "a" (λna zn dg dv cQ cn kn db cB=>?_)));have a4:=bO.trans cB;have aJ:=ab.trans a4;have dw:(u.take i).flatten.length<=64:=by
     have e:u.flatten=(u.take i).flatten++(u.drop i).flatten:=by rw[<- Vn,Xc]
     rw[e,XZ]at bj;lia
    refine⟨_,rfl,_,rfl,d5,_,rfl,.inl (SqL.of (aJ _ _ b0)),_,rfl,p,_,1,_,rfl,rfl,SqT.of (b9.mono aJ).tp,rfl,na,zn,_,_,_,_,rfl,cQ,cn,"a","a","a",λv dh v0 vm vk vu cC=>?_⟩;have vl:L c=true->v≠0:=λlc=>by
     have hk:=cZ _ ly.own (by rw[zku,br (XW.mpr ⟨cm,lc⟩)]);unfold toL at hk;rw[ZB]at hk;exact vk _ (kn _ _ ko hk) "a" "a"
    have vw:v≠0->∃M,Lay r n M/\M c=true:=λnv=>by
     obtain⟨k,hk,k0,k1⟩:=vu nv;obtain⟨a,b',ha,hb,rfl⟩:=db k hk;obtain⟨qs,h1,h2⟩:=zdS (zbR (zgm i I.al) (zgn (i+1) I.al)) (cX a ha);obtain⟨k',h3,h4,h5⟩:=da b' hb;obtain⟨q',rfl,h6,h7⟩:=ly.all k' h3;rw[zku,bu]at h4;unfold toL at h5;rw[ZB]at h5;obtain⟨F,nF,sF,lF⟩:=znK (zb8 r) (k:=(n-((a+b':Nat):Int)).toNat) "a";refine⟨_,znJ G hL (gs':=(u.take i++u.drop (i+1))++[g]) ?_ (Paired.snoc h1 ⟨h6,h7⟩) nF sF ?_,?_⟩
     .have e1:u=u.take i++g::u.drop (i+1):=by
       have e:=(Xc i u).symm;rw[Wt il,(X6.mp hg).2]at e;exact e
      conv=>rhs;rw[e1]
      rw[Ww];exact Pc _ (TW.trans (List.Perm.refl _))
     .rw[XD,Uw,h2];show ((a+(q'.length+0)+F.length:Nat):Int)=n;lia
     .unfold zpG;refine br (Xa _ ?_);rw[Vn];exact Xm _ (WD.mpr ⟨q',Xy.mpr rfl,h4⟩)
    have ac:=a4.trans cC;have aU:=ac _ _ ah;refine⟨_,rfl,_,rfl,dd,_,rfl,zk9.t (k:=qR c) aU (ac _ _ aB) (XM (show ag.length<=200 by lia) "d"),?_⟩;refine eG (putK ag (qR c) (V.int v)) _ _ rfl (λb' o e'=>?_) ?_ zb ?_ (λc' cq=>?_)
    .rw[zq (zj e' aQ)];exact ac _ _ (ab _ _ e')
    .rw[zq bI];exact ac _ _ ai
    .have:=zkv ag (qR c) (V.int v);lia
    .by_cases ec:c'=c
     .subst ec;exact eu v (by rw[xJ,bw rfl]) v0 (Vb vm (zjg "a")) vl vw
     .obtain⟨v',a1,a2⟩:=am c' (cq.elim .inl λh=>h.elim (λh=>.inr (.inl h)) λh=>by
       rw[XC,Y]at h;rcases XV.mp h with h | h
       .exact .inr (.inr h)
       .exact absurd (Xy.mp h) ec)
      exact⟨v',by rw[xJ,bq λz=>ec (QZ z)];exact a1,a2⟩
   refine λσ cb=>gf λag cM cN z0 ab ai ah bH am=>?_;subst z0;have ul:ug.length=g.length:=af.length;refine fk ag _ _ _ _ _ rfl ab ah ?_ (λc Y=>?_)
   .rw[tk,XZ];lia
   .rw[tk]at Y;rw[ul,XF]at am;exact am c (Y.elim .inl λh=>(XV.mp h).elim (λh=>.inr (.inl h)) λh=>.inr (.inr h))
  refine λσ aK=>gC λU v7 v8 v9 a7 a8 z0 az aa kl kv=>?_;subst z0;rw[hG.length,XF]at kv;refine⟨_,rfl,q dd U aK cc aa (λc Y=>kv c ?_) (aZ.trans az)⟩;by_cases hm:c∈u.flatten
  .exact .inr hm
  .exact .inl ((zc2 G).mpr ⟨Y,hm⟩)
def zkw(a b):VN b (a%b)=VN a b:=by
 have h:=Int.emod_add_mul_ediv a b;apply Nat.dvd_antisymm
 .apply Int.dvd_gcd
  .have h1:((VN b (a%b):Nat):Int) ∣ b:=So ..;have h2:((VN b (a%b):Nat):Int) ∣ a%b:=SK ..;have c:=Int.dvd_add h2 (Int.dvd_trans h1 (Int.dvd_mul_right b (a/b)));rw[h]at c;exact c
  .exact So ..
 .apply Int.dvd_gcd
  .exact SK ..
  .have h1:((VN a b:Nat):Int) ∣ b:=SK ..;have h2:((VN a b:Nat):Int) ∣ a:=So ..;have e:a%b=a-b*(a/b):="a"
   rw[e];exact Int.dvd_sub h2 (Int.dvd_trans h1 (Int.dvd_mul_right ..))
def zpJ(a)(h:0<=a):((VN a 0:Nat):Int)=a:=by
 rw[Int.gcd_zero_right];lia
def zkx(h:0<b):0<((VN a b:Nat):Int):=by
 have:0<VN a b:=Int.gcd_pos_of_ne_zero_right a "a";lia
def zr0(h:0<b):((VN a b:Nat):Int)<=b:=Int.le_of_dvd h (SK ..)
def zup:Sp:=λa H Q _=>∃(n b:Int),a=[.int n,.int b]/\0<b/\Q (.int (VN n b:Nat)) H
def zuq:Sp:=λa H Q _=>∃(n b:Int),a=[.int n,.int b]/\0<b/\b.natAbs<2^8000/\∀p,H p=none->Q (.ref p) (upd H p (.tup [.int (n/(VN n b:Nat)),.int (b/(VN n b:Nat))]))
def qU:zD ["number","bottom","divisor","rest","next_rest"] ["number","bottom"] (zv jo):=bh
def zaq(D:zh K mg "greatest_divisor" jo ["number","bottom"] f fd):qm P w K mg base CX0 1 f fd ["number","bottom"] zup:=by
 refine D.F.ok qU "l" (λo A g s H y Q E I h=>?_)
 .revert h;refine fS λn b z0 i k=>?_;subst z0;refine⟨_,(ze (qz 2 qU.nd (pvS 1)) (ze (qz 3 qU.nd (zC qO (pvS 0) (pvS 1))) (ze (zgM Xd (zI zc7 (pvS 3) zf (zT _)) (ze (qz 4 qU.nd (zC qO (pvS 2) (pvS 3))) (ze (qz 2 qU.nd (pvS 3)) (zg (qz 3 qU.nd (pvS 4)))))) (zg (zF (pvS 2)))))),?_⟩;ac_nf;refine⟨_,rfl,_,rfl,_,rfl,_,_,rfl,rfl,i,?_⟩;refine⟨λm l a=>∃(d r:Int) (x:Option V),l=[some (.int n),some (.int b),some (.int d),some (.int r),x]/\a=H/\0<d/\0<=r/\VN d r=VN n b/\m=r.toNat,(eS _ b (n%b) none rfl rfl i (Wu n "a") (zkw n b) rfl),?_⟩;refine λm l a=>gf λd r x z0 z1 G u j z2=>?_;subst z0 z1 z2;refine⟨_,rfl,rfl,_,rfl,?_⟩;by_cases c:r=0
  .subst c;refine zqo rfl ?_;refine⟨_,rfl,?_⟩;have e:((VN n b:Nat):Int)=d:=by rw[<- j];exact zpJ d "a"
   rw[<- e];exact k
  .have e:(!decide (V.int r=V.int 0))=true:=by
    have z:¬ V.int r=V.int 0:=λz=>c (V.int.inj z);rw[bf z];rfl
   refine ju e ?_;refine⟨fun B a=>∃v,v<r.toNat/\_,λ_ _ h=>h,?_⟩;refine⟨_,rfl,_,rfl,_,_,rfl,rfl,(show (0:Int)<r by lia),_,rfl,_,rfl,?_⟩;have p:=WB d (show (0:Int)<r by lia);have q:=Wu d (show r≠0 from c);refine dY (d%r).toNat "a" (eG r (d%r) (some (.int (d%r))) rfl rfl "a" q ?_ rfl);rw[zkw d r];exact j
def zcr:zD ["top","bottom","divisor"] ["top","bottom"] (zv Y7):=bh
def zhU(D:zh K mg "fraction" Y7 ["top","bottom"] f fd)(j:zh K mg "greatest_divisor" jo ["number","bottom"] m c):qm P w K mg base CX0 2 f fd ["top","bottom"] zuq:=by
 refine D.F.ok zcr "l" (λl A e s H p Q E o h=>?_)
 .revert h;refine fQ λn b z0 d q k=>?_;subst z0;refine⟨_,(ze (qz 2 zcr.nd (pc0 (zaq j) o j (za (pvS 0) (za (pvS 1) zd)))) (zg (zF (qu (za (zC qF (pvS 0) (pvS 2)) (za (zC qF (pvS 1) (pvS 2)) zd)))))),?_⟩;ac_nf;have g:=zkx (a:=n) d;have g1:=zr0 (a:=n) d;have i:((VN n b:Nat):Int).natAbs<2^8000:=by
   lia
  refine⟨_,rfl,_,rfl,n,b,rfl,d,?_⟩;refine⟨_,rfl,_,rfl,_,_,rfl,rfl,jL.big g i,_,rfl,_,rfl,_,_,rfl,rfl,jL.big g i,yL,?_⟩;exact k
def znO{φ:List Key->V->Prop}{c:List (List Key×V)}(h:∀b∈c,φ b.1 b.2)(h0:∀k v,qX a k=some v->φ k v):∀k v,qX (c.foldl (λa b=>putK a b.1 b.2) a) k=some v->φ k v:=by
 induction c generalizing a with
 | nil=>exact h0
 | cons b r f =>
  refine f (λx d=>h x (XS _ d)) λk v e=>?_;rw[xJ]at e;split at e
  .rename_i ek;cases e;rw[ek];exact h b XU
  .exact h0 k v e
def znP{b:List (List Key×V)}(h:(∃c∈b,c.1=k)\/(qX a k).isSome=true):(qX (b.foldl (λa c=>putK a c.1 c.2) a) k).isSome=true:=by
 induction b generalizing a with
 | nil =>
  rcases h with ⟨_,h,_⟩ | h
  .cases h
  .exact h
 | cons c r f =>
  refine f ?_;rcases h with ⟨x,hx,e⟩ | h
  .rcases XG.mp hx with d | hx
   .subst d;refine .inr ?_;rw[xJ,bw e.symm];rfl
   .exact .inl ⟨x,hx,e⟩
  .refine .inr ?_;rw[xJ];split
   .rfl
   .exact h
def frT(n b:Int):HO:=.tup [.int (n/(VN n b:Nat)),.int (b/(VN n b:Nat))]
def ShV(rs:AD)(n:Int)(L:AA->Bool)(H:Hp)(e:Int)(c:AA)(v:V):Prop:=∃t a,v=.ref t/\H t=some (frT a e)/\0<=a/\(L c=true->a≠0)/\(a≠0->∃M,Lay rs n M/\M c=true)
def zlO(rs:AD)(n:Int)(L:AA->Bool)(H:Hp)(e:Int)(k:List Key)(v:V):Prop:=∀c,k=qR c->ShV rs n L H e c v
def zlO.mono(s:∀t vs,H t=some (.tup vs)->b t=some (.tup vs))(h:zlO rs n L H e k v):zlO rs n L b e k v:=λc i=>by
 refine fS (λt a d f g=>?_) (h c i);exact ef t a d (s _ _ f) g
def zr1:Sp:=λc H Q _=>∃(p l:Addr) (a:AD) (n:Int) (L:AA->Bool),c=[.ref p]/\qd H p l a n/\Rows bd.cps.toList a/\¬ Big a/\Lay a n L/\∀(v:Int) (b:Hp),1<=v->v<=2^2000->zx H b->Q (.int v) b
def znQ:Sp:=λg H Q _=>∃(p l:Addr) (a:AD) (n:Int) (L:AA->Bool),g=[.ref p]/\qd H p l a n/\Rows bd.cps.toList a/\¬ Big a/\Lay a n L/\∀(d:Addr) (e:Int) (b:List (List Key×V)) (f:Hp),1<=e->f d=some (.dT b)->(∀c∈zP a,∃v,qX b (qR c)=some v/\ShV a n L f e c v)->zx H f->Q (.ref d) f
def zr2:Sp:=λh H Q _=>∃(p l:Addr) (a:AD) (n:Int) (L:AA->Bool),h=[.ref p]/\qd H p l a n/\Rows bd.cps.toList a/\¬ Big a/\Lay a n L/\∀(t e g:Addr) (f:AE) (d:AB) (b:Hp),H e=none->b t=some (.tup [.ref e,.ref g])->b e=some (.lst f)->Cel b f d->d.Sublist (zP a)->(∀c∈d,L c=false)->(∀c∈zP a,c ∉ d->∃M,Lay a n M/\M c=true)->zx H b->Q (.ref t) b
def zpK(d:0<b)(h:a/(VN a b:Nat)=0):a=0:=by
 obtain⟨x,c⟩:((VN a b:Nat):Int) ∣ a:=So ..;have e:=zkx (a:=a) d;generalize ((VN a b:Nat):Int)=g at *
 rw[c,Int.mul_ediv_cancel_left _ "a"]at h;rw[c,h,NZ]
def zpL(c:0<b)(h:a=0):a/(VN a b:Nat)=0/\b/(VN a b:Nat)=1:=by
 subst h;have e:((VN 0 b:Nat):Int)=b:=by
  rw[Int.gcd_zero_left];lia
 rw[e,Int.zero_ediv,Int.ediv_self "a"];exact⟨rfl,rfl⟩
def znR(hz:H z=some (.lst ys))(d:Cel H ys cs)(b:H a=some (.tup [.int (c.1:Nat),.int (c.2:Nat)])):Cel (upd H z (.lst (ys++[.ref a]))) (ys++[.ref a]) (cs++[c]) :=
 jD (by
  rw[XD];exact YB hz (zhD (Cel.tup2 d) (.cons ⟨a,rfl,b⟩ .nil)))
def zr3(a b x y):(if false=true then !PyData.eqv (pD (a,b)) (pD (x,y)) else WW (pD (a,b)) (pD (x,y)))=decide (a=x/\b=y):=by
 rw[bq XJ,znk];exact decide_eq_decide.mpr (by rw[QQ])
def znS(p q):zfL (pD p) (pD q):=⟨rfl,rfl,by show 1<=64;decide⟩
def zax:zD ["board","every"] ["board"] (zv J6):=bh
def zeE(c:qw K mg "TooGreat" jaj)(T:Txt mg)(Z:Prog K mg)(D:zh K mg "some_count" J6 ["board"] f fd):qm P w K mg base CX0 8 f fd ["board"] zr1:=by
 obtain⟨z,y,a⟩:=Z.count;have  e:qm P w K mg base (CXE P w) 7 _ _ ["board"] (zgh jaj):=zhR c T Z a;refine D.F.ok zax "l" (λj A d s H x Q E m h=>?_)
 .revert h;refine gp λp l g n L z0 B R o k q=>?_;subst z0;refine⟨_,(ze (qz 1 zax.nd (pcX e m a (za (pvS 0) zd))) (ze (qH (zI xD (pvS 1) zf (zT _)) (zg xC) zV) (zg (zF (pvS 1))))),?_⟩;ac_nf;exact⟨_,rfl,p,l,g,n,L,rfl,B,R,k,(λb=>absurd b o),λv i _ _ _ r u s1=>⟨_,rfl,rfl,_,rfl,qZ (bf λh=>by have:=V.int.inj h;lia) ⟨_,rfl,q v i r u s1⟩⟩⟩
def zb9:zD ["board","every","at_cells"] ["board"] (zv zbj):=bh
def zlP(af:qw K mg "TooGreat" jaj)(T:Txt mg)(Z:Prog K mg)(D:zh K mg "shares" zbj ["board"] f fd):qm P w K mg base CX0 9 f fd ["board"] znQ:=by
 obtain⟨aF,aE,ah⟩:=Z.some_count;obtain⟨aD,aC,YE⟩:=Z.counts_by_cell;obtain⟨a9,a8,qJ⟩:=Z.closed;obtain⟨yu,jO,zB⟩:=Z.cells_of;obtain⟨yZ,yt,zw⟩:=Z.sign_at;obtain⟨aH,aG,ai⟩:=Z.fraction;obtain⟨aB,aA,jY⟩:=Z.greatest_divisor;refine D.F.ok zb9 "l" (λa4 A a1 s H N Q E O h=>?_)
 .revert h;refine gp λp l I n L z0 B R sm hL q=>?_;subst z0;refine⟨_,(ze (qz 1 zb9.nd (pc0 (zeE af T Z ah) O ah (za (pvS 0) zd))) (ze (qz 2 zb9.nd (pc0 (zbu af T Z YE) O YE (za (pvS 0) zd))) (zg (zF (pt1 (j5 O.units O.hd) T.zdD UP (pcm ["cell","every","at_cells"] [none,some 1,some 2] cR (zN (pc0 (Zh T qJ zB zw) O qJ (za (pvS 0) zd))) (pgN 0) qp (qu (za (pvS 0) (za (pc0 (zhU ai jY) O ai (za (zfR (u1 O.units) (pvS 2) (pvS 0) (λ_ _=>rfl)) (za (pvS 1) zd))) zd))))))))),?_⟩;ac_nf;refine⟨_,rfl,p,l,I,n,L,rfl,B,R,sm,hL,λJ H1 aj an s1=>?_⟩;refine⟨_,rfl,p,l,I,n,L,rfl,B.mono s1,R,sm,hL,λda a7 H2 a6 a3 az s2=>?_⟩;have ag:=s1.trans s2;have ak:J.natAbs<2^8000:=zgd "a" an "d";refine⟨_,rfl,p,l,I,n,rfl,B.mono ag,R,λd5 w5 H5 a5 M aq s5=>(dX d5 rfl ⟨_,SqL.of M⟩ (λy hy=>?_))⟩;have ac:Cel H5 w5 (zP I):=aq;have sl:(zP I).length<=64:=jg (p:=Zz) R;refine qj (K:=K) (a:=d5) (xs:=w5) (λi σ H'=>(∃u0,σ=[u0,some (.int J),some (.ref da)])/\zx H5 H'/\∃u b,H' y=some (.lst u)/\jM H' u b/\b.map (·.1)=((zP I).take i).map qR/\∀kv∈b,zlO I n L H' J kv.1 kv.2) (fH ⟨_,rfl⟩ (zc hy) (dW [] [] zb (.nil) rfl (λ_ h=>nomatch h))) (λi σ H' _ ⟨_,s6,_⟩=>SqL.of (s6 _ _ M)) ?_ ?_
  .rintro i x σ H6 hx ⟨⟨u0,rfl⟩,s6,u,b,Y,G,m,U⟩;refine fW (λc ab ca z0 aa=>?_) (Cel.get (Cel.mono s6 ac) hx);subst z0;have g:=zaH.t (k:=qR c) ((s5.trans s6) _ _ a3) aa;refine gF (λav ao a0 am al=>?_) (az c (X7 ab));rw[ao]at g;have kl:b.length<=64:=by
    have:=congrArg List.length m;rw[ZB,ZB,XH]at this;lia
   refine yE ⟨_,rfl,_,rfl,_,rfl,da,_,rfl,g,_,rfl,_,_,rfl,"a",ak,λft aw=>⟨yL,λp1 ay=>?_⟩⟩;have s7:=zc (o:=frT av J) aw;have au:upd H6 ft (frT av J) ft=some (frT av J):=zb;have s8:=zc (o:=.tup [.ref ca,.ref ft]) ay;have r:=s7.trans s8;have ae:u.length<=64:=by
    rw[G.length];exact kl
   have j:=r _ _ Y;have up:∀{H8:Hp},H8 y=some (.lst u)->∀t N,H8 t=some (.tup N)->upd H8 y (.lst (u++[.ref p1])) t=some (.tup N):=λj t N e=>by
    rw[zq (zaO e j (by intro z;cases z))];exact e
   refine eu u j (XM ae "d") ⟨_,rfl⟩ (λb' o e'=>?_) (dW (u++[.ref p1]) (b++[(qR c,.ref ft)]) zb ?_ ?_ (λkv ax=>?_))
   .rw[zq (zj e' hy)];exact r _ _ (s6 _ _ e')
   .exact jM.into y _ j (jM.snoc (G.mono r) (ef p1 ca rfl zb (r _ _ aa)))
   .rw[XD,m,XC,ab,XD];rfl
   .rcases XV.mp ax with h | h
    .exact(U kv h).mono λt N e=>up j t N (r _ _ e)
    .rw[Xy.mp h];intro d ed;rw[<- QZ ed];exact dW ft av rfl (up j _ _ (s8 _ _ au)) a0 al
  .refine λσ H6=>fX λ_ s6=>fQ λu b Y G m U=>?_;rw[ac.length,XF]at m;refine dZ y u _ rfl Y G (λdd ar=>?_);have a2:=ag.trans (s5.trans s6);have s7:=zc (o:=.dT (ZR b)) ar;refine q dd J _ _ aj zb (λc hc=>?_) (a2.trans s7);have h1:(qX (ZR b) (qR c)).isSome=true:=znP (.inl (by
    have:qR c∈b.map (·.1):=by
     rw[m];exact XE.mpr ⟨c,hc,rfl⟩
    obtain⟨kv,h2,h3⟩:=XE.mp this;exact⟨kv,h2,h3⟩))
   obtain⟨v,hv⟩:=VW.mp h1;exact⟨v,hv,zlO.mono (λt N e=>s7 _ _ e) (znO (φ:=zlO I n L H6 J) U (λ_ _ h=>by cases h) _ _ hv) c rfl⟩
def zc3:zD ["board","told","clears","stones"] ["board"] (zv zf7):=bh
def zpO(ay:qw K mg "TooGreat" jaj)(T:Txt mg)(Z:Prog K mg)(D:zh K mg "sure" zf7 ["board"] f fd):qm P w K mg base CX0 10 f fd ["board"] zr2:=by
 obtain⟨aB,aA,aq⟩:=Z.shares;obtain⟨a9,a8,qJ⟩:=Z.closed;obtain⟨yu,jO,zB⟩:=Z.cells_of;obtain⟨yZ,yt,zw⟩:=Z.sign_at;refine D.F.ok zc3 "l" (λa3 A az s H vs Q E hr h=>?_)
 .revert h;refine gp λp l m n L z0 B R sm hL q=>?_;subst z0;have sl:(zP m).length<=64:=jg (p:=Zz) R;refine⟨_,(ze (qz 1 zc3.nd (pc0 (zlP ay T Z aq) hr aq (za (pvS 0) zd))) (ze (psC 2 zc3.nd ["cell","told"] [none,some 1] cR (zN (pc0 (Zh T qJ zB zw) hr qJ (za (pvS 0) zd))) (pgN 0) (qA (zI (QJ (K:=K) "r" hr.units) (zfR (u1 hr.units) (pvS 1) (pvS 0) (λ_ _=>rfl)) (@qu _ _ _ _ _ (@za _ _ _ _ _ zf (@za _ _ _ _ _ zf zd rfl) rfl)) (zT _))) (pvS 0)) (ze (psC 3 zc3.nd ["cell","told"] [none,some 1] cR (zN (pc0 (Zh T qJ zB zw) hr qJ (za (pvS 0) zd))) (pgN 0) (qA (zI (QJ (K:=K) "r" hr.units) (zfR (u1 hr.units) (pvS 1) (pvS 0) (λ_ _=>rfl)) (@qu _ _ _ _ _ (@za _ _ _ _ _ zf (@za _ _ _ _ _ zf zd rfl) rfl)) (zT _))) (pvS 0)) (zg (zF (qu (za (pvS 2) (za (pvS 3) zd)))))))),?_⟩;ac_nf;refine⟨_,rfl,p,l,m,n,L,rfl,B,R,sm,hL,λdd ev a7 H1 a4 ar Y s1=>?_⟩;refine⟨_,rfl,p,l,m,n,rfl,B.mono s1,R,λd2 w2 H2 a5 O aw s2=>(dX d2 rfl ⟨_,SqL.of O⟩ (λy hy=>?_))⟩;have ag:Cel H2 w2 (zP m):=aw;refine qj (K:=K) (a:=d2) (xs:=w2) (λi J N=>∃(u0:Option V) (b:AE) (G:AB),J=[u0,some (.ref dd)]/\zx H2 N/\N y=some (.lst b)/\Cel N b G/\G.Sublist ((zP m).take i)/\(∀c∈G,L c=false)/\∀c∈(zP m).take i,c ∉ G->∃M,Lay m n M/\M c=true) (eU _ [] [] rfl (zc hy) zb (.nil) (Tn _) (λ_ h=>nomatch h) (λ_ h=>nomatch h)) (λi J N _ ⟨_,_,_,_,u,_⟩=>SqL.of (u _ _ O)) ?_ ?_
  .refine λi x J H3 hx=>gq λu0 b G z0 s3 ab e sb nl ul=>?_;subst z0;refine fW (λc j ca z0 I=>?_) (Cel.get (Cel.mono s3 ag) hx);subst z0;have an:=s2.trans s3;refine fR (λv hv=>gx λt a z0 ht a0 al au=>?_) (Y c (X7 j));subst z0;have g:=zaH.t (k:=qR c) (an _ _ ar) I;rw[hv]at g;have yl:b.length<=64:=by
    rw[e.length];have:=sb.length_le;rw[XH]at this;lia
   refine⟨_,rfl,_,rfl,dd,_,rfl,g,yL,λtq aa=>?_⟩;have r:=zc (o:=.tup [.int 0,.int 1]) aa;have ae:=an.trans r;refine dW (pD _) (pD (0,1)) (PR.rdv (p:=(a/(VN a ev:Nat),ev/(VN a ev:Nat))) ⟨t,rfl,ae _ _ ht⟩) (PR.rdv ⟨tq,rfl,zb⟩) (znS _ _) ⟨_,rfl,?_⟩;rw[zr3,XC,j];have ac:=r _ _ ab;refine QH (λhp=>?_) λhn=>(eU _ b G rfl (s3.trans r) ac (e.mono r) (sb.trans (S8 _ _)) nl (λd hd nd=>?_))
   case refine_2 =>
    rcases XV.mp hd with hd | hd
    .exact ul d hd nd
    .rw[Xy.mp hd];exact au λz=>hn (br (zpL "a" z))
   have av:=zpK (a:=a) "a" (bg hp).1;refine⟨_,rfl,b,ac,XM yl "d",_,b++[.ref ca],G++[c],rfl,λb' o e'=>?_,zb,znR ac (e.mono r) (r _ _ I),List.Sublist.append sb (List.Sublist.refl _),λd hd=>?_,λd hd nd=>?_⟩
   .rw[zq (zj e' hy)];exact r _ _ (s3 _ _ e')
   .rcases XV.mp hd with hd | hd
    .exact nl d hd
    .rw[Xy.mp hd];exact WY.mpr λz=>al z av
   .rcases XV.mp hd with hd | hd
    .exact ul d hd λz=>nd (Xa _ z)
    .exact absurd (Xm _ hd) nd
  refine λJ H3=>gq λu0 b G z0 s3 ab e sb nl ul=>?_;subst z0;rw[ag.length,XF]at sb ul;have am:=s1.trans (s2.trans s3);have yn:H y=none:=(s1.trans s2).free hy;refine⟨_,rfl,p,l,m,n,rfl,B.mono am,R,λd4 w4 H4 a6 U ax r=>(dX d4 rfl ⟨_,SqL.of U⟩ (λz ai=>?_))⟩;have ah:Cel H4 w4 (zP m):=ax;have ae:=(s2.trans s3).trans r;refine qj (K:=K) (a:=d4) (xs:=w4) (λi J N=>∃(u0:Option V) (b:AE),J=[u0,some (.ref dd)]/\zx H4 N/\N z=some (.lst b)/\b.length<=i) ⟨_,[],rfl,zc ai,zb,XQ _⟩ (λi J N _ ⟨_,_,_,u,_⟩=>SqL.of (u _ _ U)) ?_ ?_
  .refine λi x J H5 hx=>fQ λu0 zs z0 s5 aj zl=>?_;subst z0;refine fW (λc j ca z0 I=>?_) (Cel.get (Cel.mono s5 ah) hx);subst z0;have il:=(X6.mp j).1;have ao:=ae.trans s5;refine fR (λv hv=>fQ λt a z0 ht a0 al=>?_) (Y c (X7 j));subst z0;have g:=zaH.t (k:=qR c) (ao _ _ ar) I;rw[hv]at g;refine⟨_,rfl,_,rfl,dd,_,rfl,g,yL,λtq aa=>?_⟩;have u:=zc (o:=.tup [.int 1,.int 1]) aa;have a1:=ao.trans u;have ak:=u _ _ aj;refine dW (pD _) (pD (1,1)) (PR.rdv (p:=(a/(VN a ev:Nat),ev/(VN a ev:Nat))) ⟨t,rfl,a1 _ _ ht⟩) (PR.rdv ⟨tq,rfl,zb⟩) (znS _ _) ⟨_,rfl,QH (λ_=>?_) λ_=>(dW _ zs rfl (s5.trans u) ak "a")⟩;refine⟨_,rfl,zs,ak,XM (show zs.length<=64 by lia) "d",_,zs++[.ref ca],rfl,λb' o e'=>?_,zb,by rw[XZ];exact Sq zl⟩;rw[zq (zj e' ai)];exact u _ _ (s5 _ _ e')
  .refine λJ H5=>fQ λu0 zs z0 s5 aj _=>?_;subst z0;have a2:=r.trans s5;refine⟨_,rfl,_,rfl,yL,λt ht=>?_⟩;have u:=zc (o:=.tup [.ref y,.ref z]) ht;have af:=a2.trans u;exact q t y z b G _ yn zb (af _ _ ab) (e.mono af) sb nl ul (am.trans af)
def zhW{b:KV1}(h:qX b k=some v):(k,v)∈b:=by
 unfold qX at h;cases e:b.find? (λa=>decide (a.1=k)) with
 | none =>
  rw[e]at h;cases h
 | some a =>
  rw[e]at h;have h1:a.2=v:=by simpa using h
  have h2:a.1=k:=bg (show decide (a.1=k)=true from List.find?_some (p:=λ(a:List Key×V)=>decide (a.1=k)) e);have c:=List.mem_of_find?_eq_some e;rw[<- h1,<- h2];exact c
def zdV(a:KV1)(k)(v):(k∈a.map (·.1)/\(putK a k v).map (·.1)=a.map (·.1))\/(¬ k∈a.map (·.1)/\(putK a k v).map (·.1)=a.map (·.1)++[k]):=by
 unfold putK;by_cases h:(a.any λb=>decide (b.1=k))=true
 .refine .inl ⟨?_,?_⟩
  .obtain⟨b,h1,h2⟩:=WH.mp h;exact XE.mpr ⟨b,h1,bg h2⟩
  .rw[bw h,Wf];refine Wa λb _=>?_;show (if b.1=k then (b.1,v) else b).1=b.1;split<;>rfl
 .refine .inr ⟨λc=>?_,?_⟩
  .obtain⟨b,h1,h2⟩:=XE.mp c;exact h (WH.mpr ⟨b,h1,br h2⟩)
  .rw[bq h,XD];rfl
def zr5{c:KV1}(k)(v)(h:(c.map (·.1)).Nodup):((putK c k v).map (·.1)).Nodup:=by
 rcases zdV c k v with ⟨_,e⟩ | ⟨i,e⟩
 .rw[e];exact h
 .rw[e,WE];refine⟨h,"s",λa f b g z=>i ?_⟩;have d:b=k:=by simpa using g
  rw[<- d,<- z];exact f
theorem zkz:∀(ps a:KV1),(a.map (·.1)).Nodup->((ps.foldl (λa b=>putK a b.1 b.2) a).map (·.1)).Nodup
 | [],_,h=>h
 | p::r,a,h=>zkz r _ (zr5 p.1 p.2 h)
theorem zfn:∀(ps a:KV1) (k:List Key),k∈(ps.foldl (λa b=>putK a b.1 b.2) a).map (·.1)->k∈a.map (·.1)\/k∈ps.map (·.1)
 | [],_,_,h=>.inl h
 | p::r,a,k,h=>by
  rcases zfn r _ k h with h | h
  .rcases zdV a p.1 p.2 with ⟨_,e⟩ | ⟨_,e⟩
   .rw[e]at h;exact .inl h
   .rw[e]at h;rcases XV.mp h with h | h
    .exact .inl h
    .exact .inr (by
      have:k=p.1:=by simpa using h
      rw[this];exact XU)
  .exact .inr (XS _ h)
theorem zhX:∀(ps a:KV1),(ps.foldl (λa b=>putK a b.1 b.2) a).length<=a.length+ps.length
 | [],_=>XQ _
 | p::r,a=>by
  have h1:=zhX r (putK a p.1 p.2);have h2:=JB a p.1 p.2;rw[V6,Xf];lia
theorem zfo:∀(b a:KV1) (k:List Key),(b.map (·.1)).Nodup->qX (zaI a b) k=(qX b k).or (qX a k)
 | [],a,k,_=>rfl
 | kv::r,a,k,c=>by
  rw[Xs,V8]at c;show qX (zaI (putK a kv.1 kv.2) r) k=_;rw[zfo r _ k c.2,xJ];by_cases e:kv.1=k
  .rw[j3 e,bw e.symm];have:qX r k=none:=by
    cases hr:qX r k with
    | none=>rfl
    | some v=>exact absurd (XE.mpr ⟨(k,v),zhW hr,by rw[e]⟩) c.1
   rw[this];rfl
  .rw[j4 e,bq (λz=>e z.symm)]
def Z1(cs:AB)(v:V):KV1:=ZR (cs.map λc=>(qR c,v))
theorem zdW(v)(x):∀(cs:AB) (a:KV1),qX ((cs.map λc=>(qR c,v)).foldl (λa b=>putK a b.1 b.2) a) (qR x)=if x∈cs then some v else qX a (qR x)
 | [],a=>"s"
 | c::r,a=>by
  rw[Xs,V6,zdW v x r,xJ];by_cases h:x∈r
  .rw[bw h,bw (XS _ h)]
  .rw[bq h];by_cases e:x=c
   .subst e;rw[bw rfl,bw XU]
   .rw[bq (λz=>e (QZ z)),bq (λz=>by rcases XG.mp z with z | z;exact e z;exact h z)]
def zhY(h:∀c∈cs,c.1<8/\c.2<8):L2.Small ((Z1 cs v).map (·.1)):=λk hk=>by
 rcases zfn _ [] k hk with h1 | h1
 .exact nomatch h1
 .rw[Wf]at h1;obtain⟨c,a,rfl⟩:=XE.mp h1;exact⟨c.1,c.2,(h c a).1,(h c a).2,rfl⟩
def zfp(cs)(v):(Z1 cs v).length<=cs.length:=by
 have:=zhX (cs.map λc=>(qR c,v)) [];rw[ZB]at this;unfold Z1 ZR;simpa using this
structure x9 (H:Hp)(fa fc fs:Addr)(us ws:AE)(cl st:AB):Prop where
 tp:H fa=some (.tup [.ref fc,.ref fs])
 h1:H fc=some (.lst us)
 h2:H fs=some (.lst ws)
 c1:Cel H us cl
 c2:Cel H ws st
theorem x9.mono{f:AE}(x:x9 H c d fs e f b st)(s:zx H a):x9 a c d fs e f b st:=⟨s _ _ x.tp,s _ _ x.h1,s _ _ x.h2,x.c1.mono s,x.c2.mono s⟩
structure ztD (cl st:AB):Prop where
 b1:∀c∈cl,c.1<8/\c.2<8
 b2:∀c∈st,c.1<8/\c.2<8
 l1:cl.length<=64
 l2:st.length<=64
def zkA(a:KV1)(b st:AB):Prop:=∀c,qX a (qR c)=if c∈st then some (V.int 1) else if c∈b then some (V.int 0) else none
def zkB:Sp:=λh H Q _=>∃(e f fs:Addr) (g i:AE) (c st:AB),h=[.ref e]/\x9 H e f fs g i c st/\ztD c st /\
 ∀(d:Addr) (a:KV1) (b:Hp),H d=none->b d=some (.dT a)->zkA a c st->zx H b->Q (.ref d) b
def zca(st cs:AB):List Int:=cs.map λc=>if c∈st then 1 else 0
def jy(a st cs:AB):AB:=cs.filter λc=>!(decide (c∈st) || decide (c∈a))
def zkC:Sp:=λj H Q _=>∃(t g f:Addr) (d:Int) (h:AE) (c e st:AB) (b:KV1),j=[.ref t,.ref f]/\H t=some (.tup [.int d,.ref g])/\H g=some (.lst h)/\Cel H h c/\c.length<=64/\H f=some (.dT b)/\zkA b e st /\
 ∀(r l2:Addr) (i:AE) (a:Hp),H r=none->H l2=none->a r=some (.tup [.int (d-(zca st c).sum),.ref l2])->a l2=some (.lst i)->Cel a i (jy e st c)->zx H a->Q (.ref r) a
def zcs:zD ["finding","known"] ["finding"] (zv Y9):=bh
def zhZ(T:Txt mg)(D:zh K mg "known_of" Y9 ["finding"] f fd):qm P w K mg base CX0 1 f fd ["finding"] zkB:=by
 refine D.F.ok zcs "l" (λag A ae s H vs Q E U h=>?_)
 .revert h;refine fU λfa fc fs us=>gb λws j st z0 X Fi q=>?_;subst z0;refine⟨_,(ze (qz 1 zcs.nd (pt1 (j5 U.units U.hd) T.zdD UP (pcm ["cell"] [none] cP (zN (zQ jS (pv 0) zf (λ_ _=>rfl))) (pgN 0) qp (qu (za (pv 0) (@za _ _ _ _ _ zf zd rfl)))))) (ze (jA (JK PP P9 PySem.F.type_dict_update (ziQ U.units) (pv 1) (za (pt1 (j5 U.units U.hd) T.zdD UP (pcm ["cell"] [none] cP (zN (zQ jS (pv 0) zf (λ_ _=>rfl))) (pgN 0) qp (qu (za (pv 0) (@za _ _ _ _ _ zf zd rfl))))) zd))) (zg (zF (pv 1))))),?_⟩;ac_nf;refine fm _ rfl fa _ 0 _ rfl rfl (SqT.of X.tp) rfl fc rfl ⟨_,SqL.of X.h1⟩ (λy hy=>?_);have l1:=Fi.l1;have l2:=Fi.l2;refine qj (K:=K) (a:=fc) (xs:=us) (λi v r=>(∃u0,v=[u0])/\zx H r/\∃g,r y=some (.lst g)/\jM r g ((j.take i).map λc=>(qR c,V.int 0))) ⟨⟨_,rfl⟩,zc hy,[],zb,.nil⟩ (λi v r _ ⟨_,u,_⟩=>SqL.of (u _ _ X.h1)) ?_ ?_
  .rintro i x v H6 hx ⟨⟨u0,rfl⟩,u,g,m,l⟩;refine fW (λc G I z0 B=>?_) (Cel.get (Cel.mono u X.c1) hx);subst z0;refine yE (dX _ rfl yL (λp hp=>?_));have n:=zc (o:=.tup [.ref I,.int 0]) hp;have k:g.length<=64:=by
    rw[l.length,ZB,XH];lia
   refine eu g (n _ _ m) (XM k "d") ⟨_,rfl⟩ (λb' o J=>?_) (dY (g++[.ref p]) zb ?_)
   .rw[zq (zj J hy)];exact n _ _ (u _ _ J)
   .rw[XC,G,XD];exact jM.into y _ (n _ _ m) (jM.snoc (l.mono n) ⟨p,I,rfl,zb,n _ _ B⟩)
  refine λv H1=>fY λ_ s1 g ab N=>?_;rw[X.c1.length,XF]at N;refine dZ y g _ rfl ab N (λd hd=>?_);have z2:=zc (o:=.dT (Z1 j (.int 0))) hd;have M:upd H1 d (.dT (Z1 j (.int 0))) d=some (.dT (Z1 j (.int 0))):=zb;have s2:=s1.trans z2;have X2:=X.mono s2;have L:=s1.free hd;show _;refine dX _ rfl (.inr (.inr (.inl ⟨rfl,.inr ⟨_,zb⟩⟩))) (fm _ rfl fa _ 1 _ rfl rfl (SqT.of X2.tp) rfl fs rfl ⟨_,SqL.of X2.h2⟩ (λy2 Y=>?_));refine qj (K:=K) (a:=fs) (xs:=ws) (λi v r=>(∃u0,v=[u0])/\zx (upd H1 d (.dT (Z1 j (.int 0)))) r/\∃g,r y2=some (.lst g)/\jM r g ((st.take i).map λc=>(qR c,V.int 1))) (fq ⟨_,rfl⟩ (zc Y) [] zb (.nil)) (λi v r _ ⟨_,u,_⟩=>SqL.of (u _ _ X2.h2)) ?_ ?_
  .rintro i x v H6 hx ⟨⟨u0,rfl⟩,u,g,m,l⟩;refine fW (λc G I z0 B=>?_) (Cel.get (Cel.mono u X2.c2) hx);subst z0;refine yE (dX _ rfl yL (λp hp=>?_));have n:=zc (o:=.tup [.ref I,.int 1]) hp;have k:g.length<=64:=by
    rw[l.length,ZB,XH];lia
   refine eu g (n _ _ m) (XM k "d") ⟨_,rfl⟩ (λb' o J=>?_) (dY (g++[.ref p]) zb ?_)
   .rw[zq (zj J Y)];exact n _ _ (u _ _ J)
   .rw[XC,G,XD];exact jM.into y2 _ (n _ _ m) (jM.snoc (l.mono n) ⟨p,I,rfl,zb,n _ _ B⟩)
  refine λv H3=>fY λ_ s3 af ac O=>?_;rw[X.c2.length,XF]at O;refine dZ y2 af _ rfl ac O (λd2 z=>?_);have z4:=zc (o:=.dT (Z1 st (.int 1))) z;have ne:d≠d2:=zj (s3 _ _ M) z;have aa:=z4 _ _ (s3 _ _ M);refine eY d d2 (Z1 j (.int 0)) (Z1 st (.int 1)) rfl rfl ne aa (e9 zb (zhY Fi.b2) ?_ (dY _ rfl ?_))
  .have a1:=zfp j (.int 0);have a2:=zfp st (.int 1);exact X5 (show _<=128 by lia) "d"
  .refine q d _ _ L zb (λc=>?_) λb o e=>?_
   .rw[zfo (Z1 st (.int 1)) (Z1 j (.int 0)) (qR c) (zkz _ [] UH)];have e1:qX (Z1 st (.int 1)) (qR c)=if c∈st then some (V.int 1) else none:=zdW _ c st []
    have e2:qX (Z1 j (.int 0)) (qR c)=if c∈j then some (V.int 0) else none:=zdW _ c j []
    rw[e1,e2];by_cases h1:c∈st
    .rw[bw h1,bw h1];rfl
    .rw[bq h1,bq h1];rfl
   .rw[zq (zj e L)];exact z4 _ _ (s3 _ _ (s2 _ _ e))
def Q0:zD ["asked","known","lying"] ["asked","known"] (zv Jt):=bh
def zdX(T:Txt mg)(D:zh K mg "still_asked" Jt ["asked","known"] f fd):qm P w K mg base CX0 1 f fd ["asked","known"] zkC:=by
 refine D.F.ok Q0 "l" (λah A af s H vs Q E hr h=>?_)
 .revert h;refine gJ λt I G a0 us p j st b z0 ht g d=>gg λU l hK q=>?_;subst z0;refine⟨_,(ze (qz 2 Q0.nd (pb1 (zg0 rfl) T.zqw O7 (pcm ["cell","known"] [none,some 1] cR (zN (zQ jS (pv 0) zf (λ_ _=>rfl))) (pgN 0) qp (zg8 (u1 hr.units) (pv 1) (pv 0) zf ⟨rfl,rfl,rfl,rfl⟩)))) (zg (zF (qu (za (zC QD (zQ jS (pv 0) zf (λ_ _=>rfl)) (pv 2)) (za (pcm ["cell","known"] [none,some 1] cR (zN (zQ jS (pv 0) zf (λ_ _=>rfl))) (pgN 0) (qA (zq4 (zlc (u1 hr.units) (pv 0) (pv 1)))) (pv 0)) zd)))))),?_⟩;ac_nf;refine fm _ rfl t _ 1 _ rfl rfl (SqT.of ht) rfl I rfl ⟨_,SqL.of g⟩ (λy hy=>?_);refine qj (K:=K) (a:=I) (xs:=us) (λi m O=>(∃L,m=[L,some (.ref G)])/\zx H O/\O y=some (.lst ((zca st (p.take i)).map V.int))) ⟨⟨_,rfl⟩,zc hy,zb⟩ (λi m O _ ⟨_,n,_⟩=>SqL.of (n _ _ g)) ?_ ?_
  .rintro i x m H6 hx ⟨⟨L,rfl⟩,n,ac⟩;refine fW (λc ab ca z0 e=>?_) (Cel.get (Cel.mono n d) hx);subst z0;refine yE (dY _ rfl (dX G rfl (.inr ⟨b,.inl (n _ _ l)⟩) (eV _ rfl (qX b (qR c)) (zaH.t (k:=qR c) (n _ _ l) e) ?_)));have eg:(qX b (qR c)).getD (V.int 0)=V.int (if c∈st then 1 else 0):=by
    rw[hK c];by_cases h1:c∈st
    .rw[bw h1,bw h1];rfl
    .rw[bq h1,bq h1];by_cases h2:c∈j
     .rw[bw h2];rfl
     .rw[bq h2];rfl
   rw[eg];refine eu _ ac ?_ ⟨_,rfl⟩ (λb' o e'=>?_) ?_
   .unfold zca;rw[ZB,ZB,XH];exact XM (show _<=64 by lia) "d"
   .rw[zq (zj e' hy)];exact n _ _ e'
   .rw[zb,XC,ab];unfold zca;rw[XD,XD];rfl
  refine λm H1=>fX λ_ s1 B=>?_;rw[d.length,XF]at B;refine ef y _ rfl (SqL.of B) ?_;refine eE _ rfl t _ 0 _ rfl rfl (SqT.of (s1 _ _ ht)) rfl (e8 _ rfl _ _ rfl rfl (fm _ rfl t _ 1 _ rfl rfl (SqT.of (s1 _ _ ht)) rfl I rfl ⟨_,SqL.of (s1 _ _ g)⟩ (λz hz=>?_)));refine qE (K:=K) (a:=I) (xs:=us) (λa=>a≠z) (p.map λc=>if (!(decide (c∈st) || decide (c∈j)))=true then some (zA c) else none) (fun m=>∃L,m=[L,some (.ref G)]) hz (λ_ h=>h) ⟨_,rfl⟩ (by rw[ZB];exact d.length.symm) (by rw[d.length];exact X5 U "d") (SqL.of (s1 _ _ g)) ?_ ?_
  .rintro k x o m H2 hx ho J _ ⟨L,rfl⟩ Y Z ag no;obtain⟨c,hc,r1⟩:=Cel.get (Cel.mono (s1.trans J) d) hx;have M:=yf hc ho;obtain⟨ca,rfl,e⟩:=r1;refine eV _ rfl _ rfl (fu G (qX b (qR c)) rfl (zaH.t (k:=qR c) (J _ _ (s1 _ _ l)) e) _ rfl ?_);have ei:(!(qX b (qR c)).isSome)=!(decide (c∈st) || decide (c∈j)):=by
    rw[hK c];by_cases h1:c∈st
    .rw[bw h1,br h1];rfl
    .rw[bq h1,bf h1];by_cases h2:c∈j
     .rw[bw h2,br h2];rfl
     .rw[bq h2,bf h2];rfl
   rw[ei];by_cases N:(!(decide (c∈st) || decide (c∈j)))=true
   .rw[bw N]at M;exact ju N ⟨_,rfl,ag _ _ _ _ M ⟨_,rfl⟩ (zx.refl _) (xP.rdn ⟨ca,rfl,e⟩)⟩
   .rw[bq N]at M;exact qZ (WY.mpr N) (no _ _ M ⟨_,rfl⟩ (zx.refl _))
  .rintro ys H2 J ae u;rw[qy]at u;have aa:Cel H2 ys (jy j st p):=zJ.cel u;refine⟨yL,λr v=>?_⟩;have z3:=zc (o:=.tup [.int (a0-(zca st p).sum),.ref z]) v;exact q r z ys _ ((s1.trans J).free v) (s1.free hz) zb (z3 _ _ ae) (aa.mono z3) ((s1.trans J).trans z3)
def zlR(H:Hp)(v:V):Option AA->Prop
 | none=>v=V.str "all"
 | some c=>xP H v c
theorem zlR.mono(s:zx H b):∀{th:Option AA},zlR H v th->zlR b v th
 | none,h=>h
 | some _,⟨a,e,h⟩=>⟨a,e,s _ _ h⟩
def ztE(rs:AD)(n:Int):Option AA->Int
 | none=>n
 | some c=>((Cells.sgn (codes rs) c:Nat):Int)-48
def zr6(rs:AD):Option AA->AB
 | none=>zP rs
 | some c=>clA rs c
def zkD:Sp:=λe H Q _=>∃(p l:Addr) (b:AD) (n:Int) (v:V) (th:Option AA),e=[.ref p,v]/\qd H p l b n/\Rows bd.cps.toList b/\zlR H v th/\(∀c,th=some c->c∈qD b) /\
 ∀(t l2:Addr) (d:AE) (a:Hp),H t=none->H l2=none->a t=some (.tup [.int (ztE b n th),.ref l2])->a l2=some (.lst d)->Cel a d (zr6 b th)->zx H a->Q (.ref t) a
abbrev Rg:=AB×Int×Int
def RgR(H:Hp)(v:V)(g:Rg):Prop:=∃t l a,v=V.ref t/\H t=some (.tup [.ref l,.int g.2.1,.int g.2.2])/\H l=some (.lst a)/\Cel H a g.1
def zh0(H:Hp):AE->List Rg->Prop:=Xk (RgR H)
theorem zh0.get:∀{vs:AE} {gs:List Rg} {i:Nat} {v:V},zh0 H vs gs->vs[i]?=some v->∃g,gs[i]?=some g/\RgR H v g
 | _,_,_,_,.nil,e=>by simp at e
 | _,_,0,_,.cons r _,e=>by
  simp at e;subst e;exact⟨_,rfl,r⟩
 | _,_,i+1,v,.cons _ t,e=>by
  obtain⟨c,h1,h2⟩:=zh0.get (i:=i) (v:=v) t ↑e;exact⟨c,↑h1,h2⟩
def qS(gs:List Rg):AB:=gs.flatMap λg=>if g.2.2=0 then g.1 else []
def qT(gs:List Rg):AB:=gs.flatMap λg=>if g.2.1=((g.1.length:Nat):Int) then g.1 else []
theorem zdY(p:Rg->Bool):∀gs:List Rg,(gs.flatMap λg=>if p g=true then g.1 else []).Sublist (gs.flatMap λg=>g.1)
 | []=>List.Sublist.refl _
 | g::r=>by
  rw[TK,TK];refine List.Sublist.append ?_ (zdY p r);split
  .exact List.Sublist.refl _
  .exact Tn _
def Qo(gs):(qS gs).Sublist (gs.flatMap λg=>g.1):=by
 have:=zdY (λg=>decide (g.2.2=0)) gs;simpa[qS] using this
def Qp(gs):(qT gs).Sublist (gs.flatMap λg=>g.1):=by
 have:=zdY (λg=>decide (g.2.1=((g.1.length:Nat):Int))) gs;simpa[qT] using this
def zfq{α:Type}(f:Rg->List α){gs:List Rg}(h:gs[i]?=some g):(gs.take (i+1)).flatMap f=(gs.take i).flatMap f++f g:=by
 rw[XC,h,UX];simp
def zlS:Sp:=λj H Q _=>∃(r:Addr) (f:AE) (b:List Rg),j=[.ref r]/\H r=some (.lst f)/\zh0 H f b/\(b.flatMap λg=>g.1).Nodup/\(b.flatMap λg=>g.1).length<64 /\
 ∀(t c d:Addr) (h i:AE) (c1 e:AB) (a:Hp),H t=none->H c=none->H d=none->c≠d->a t=some (.tup [.ref c,.ref d])->a c=some (.lst h)->a d=some (.lst i)->Cel a h c1->Cel a i e ->
  c1.Perm (qS b)->e.Perm (qT b)->c1.Pairwise Cells.lex->e.Pairwise Cells.lex->zx H a->Q (.ref t) a
def zgp{cs:AB}(f:cs.Nodup)(h:(cs.map toI).Pairwise λp q=>lt2 q p=false):cs.Pairwise Cells.lex:=by
 rw[V3]at h;refine(h.and f).imp λ{c d} ⟨a,g⟩=>?_;have b:¬ Cells.lex d c:=λz=>by
  rw[zkn.mpr z]at a;cases a
 have e:¬ (c.1=d.1/\c.2=d.2):=λz=>g (Prod.ext z.1 z.2);unfold Cells.lex at *
 lia
def zh1:zD ["board","thing"] ["board","thing"] (zv Y8):=bh
def zh2(T:Txt mg)(D:zh K mg "asked_by" Y8 ["board","thing"] f fd)(zR:zh K mg "around" j7 ["board","cell"] f1 B)(zw:zh K mg "sign_at" qG ["board","cell"] f2 G)(zB:zh K mg "cells_of" qx ["board"] f3 I)
  (qJ:zh K mg "closed" Ys ["board"] f4 J) (qf:zh K mg "number_at" jN ["board","cell"] f5 L) (zM:zh K mg "closed_around" ja ["board","cell"] f6 M):qm P w K mg base CX0 3 f fd ["board","thing"] zkD:=by
 refine D.F.ok zh1 "l" (λae A Y s H vs Q E y h=>?_)
 .revert h;refine fU λp l m n=>gu λv th z0 b R x O q=>?_;subst z0;refine⟨_,(ze (qH (ZO (yS y.units) (pv 1) (jz (v:=.str "all") "r" T.zqx.choose_spec (by exact⟨_,rfl⟩)) (zT _)) (zg (zF (qu (za (zQ jS (pv 0) zf (λ_ _=>rfl)) (za (pc0 (Zh T qJ zB zw) y qJ (za (pv 0) zd)) zd))))) zV) (zg (zF (qu (za (pc0 (Qf T qf zw) y qf (za (pv 0) (za (pv 1) zd))) (za (pc0 (yJ T zM zR zw) y zM (za (pv 0) (za (pv 1) zd))) zd)))))),?_⟩;ac_nf;cases th with
  | none =>
   have ev:v=V.str "all":=x;subst ev;refine fh _ rfl (.str "all") (.str "all") (.str _) (.str _) ⟨"q","q","q"⟩ (dY _ rfl (ju "q" ?_));refine eE _ rfl p _ 1 _ rfl rfl (SqT.of b.tp) rfl (dY _ rfl (fM p l m n rfl b R (λd ws H1 N g a s1=>⟨yL,λt u=>?_⟩)));have j:=zc (o:=.tup [.int n,.ref d]) u;exact q t d ws _ (s1.free u) N zb (j _ _ g) (a.mono j) (s1.trans j)
  | some c =>
   obtain⟨z,rfl,e⟩:=x;have hc:=O c rfl;refine gx (λt0 k i hk U r ac=>?_) (R.openAt hc);obtain⟨k1,k2⟩:=zb4 r U;obtain⟨aa,ab⟩:=yT R i hk;have es:Cells.sgn (codes m) c=k:=Cells.Y0 (qL i) hk;refine fh _ rfl (zA c) (.str "all") (xP.rdv ⟨z,rfl,e⟩) (.str _) ⟨rfl,"q",by show max 0 (max 0 0)+1<=64;decide⟩ (dY _ rfl (qZ rfl ?_));refine eV _ rfl _ rfl (er p l z m (eW n c.1 c.2 t0 k rfl b e i (fj hk ac k1 k2 (eV _ rfl _ rfl (fk p l z m n c rfl b R e (fH aa ab (λd ws H1 N g a s1=>⟨yL,λt u=>?_⟩)))))));have j:=zc (o:=.tup [.int ((k:Int)-48),.ref d]) u;refine q t d ws _ (s1.free u) N ?_ (j _ _ g) (a.mono j) (s1.trans j);rw[zb];show some (HO.tup [.int ((k:Int)-48),.ref d])=some (.tup [.int (((Cells.sgn (codes m) c:Nat):Int)-48),.ref d]);rw[es]
def Ja:zD ["regions","clears","stones","cells","least","most"] ["regions"] (zv Yt):=bh
def zjn(T:Txt mg)(D:zh K mg "settled" Yt ["regions"] f fd):qm P w K mg base CX0 1 f fd ["regions"] zlS:=by
 refine D.F.ok Ja "l" (λa4 A av s H vs Q E hr h=>?_)
 .revert h;refine gf λr us c z0 aj ae ag v q=>?_;subst z0;have lc:∀i,(qS (c.take i)).length<64:=λi=>XM (X5 (Qo (c.take i)).length_le (by
   have:c=c.take i++c.drop i:=(Xc i c).symm;conv=>rhs;rw[this,UX,XZ]
   exact Vh _ _)) v
  have ls:∀i,(qT (c.take i)).length<64:=λi=>XM (X5 (Qp (c.take i)).length_le (by
   have:c=c.take i++c.drop i:=(Xc i c).symm;conv=>rhs;rw[this,UX,XZ]
   exact Vh _ _)) v
  have lg:∀{g:Rg},g∈c->g.1.length<64:=λ{g} hg=>XM (by
   obtain⟨i,hi⟩:=R9 hg;obtain⟨hl,e⟩:=X6.mp hi;have e1:c=c.take i++g::c.drop (i+1):=by
    rw[<- e,List.getElem_cons_drop,Xc]
   rw[e1,UX,TK,XZ,XZ];lia) v
  refine⟨_,(@ze _ _ _ _ _ (@qv _ _ 1 _ _ _ _ Ja.nd rfl (Wm rfl) (@qa _ _ _ _ zd) "r" (.inr rfl)) (@ze _ _ _ _ _ (@qv _ _ 2 _ _ _ _ Ja.nd rfl (Wm rfl) (@qa _ _ _ _ zd) "r" (.inr rfl)) (ze (qN Xd rfl (zN (pv 0)) (JH rfl (zY (pgq 3 Ja.nd) (zY (pgq 4 Ja.nd) (zY (pgq 5 Ja.nd) jR)))) (zad (qH (ZO xD (pv 5) zf (zT _)) (zg (jA (JK WX U9 U8 Yg (pv 1) (za (pv 3) zd)))) zV) (zg (qH (ZO xD (pv 4) (pb1 yD T.qQ Xl (pv 3)) (zT _)) (zg (jA (JK WX U9 U8 Yg (pv 2) (za (pv 3) zd)))) zV)))) (zg (zF (qu (za (pb1 GS.Jq T.Zx VV (pv 1)) (za (pb1 GS.Jq T.Zx VV (pv 2)) zd)))))))),?_⟩;ac_nf;refine⟨xo,λp O=>⟨xo,λG U=>?_⟩⟩;have z1:=zc (o:=.lst []) O;have z2:=zc (o:=.lst []) U;have al:p≠G:=zj (show upd H p (.lst []) p=some (.lst []) from zb) U;have f2:=z1.free U;have s0:=z1.trans z2;refine dY _ rfl (dX r rfl ⟨_,SqL.of (s0 _ _ aj)⟩ ?_);refine yi (K:=K) (a:=r) (xs:=us) (λi σ m=>∃(v3 v4 v5:Option V) (M I:AE),σ=[some (.ref r),some (.ref p),some (.ref G),v3,v4,v5]/\zx H m/\m p=some (.lst M)/\m G=some (.lst I)/\Cel m M (qS (c.take i))/\Cel m I (qT (c.take i)))
   (eH _ _ _ [] [] rfl s0 (z2 _ _ zb) zb (.nil) (.nil)) (λi σ m _ ⟨_,_,_,_,_,_,s',_⟩=>SqL.of (s' _ _ aj)) ?_ ?_
  .refine λi x σ H1 hx=>gp λv3 v4 v5 M I z0 s1 h1 h2 d j=>?_;subst z0;refine gG (λg hg t l ws z0 ao Y ac=>?_) (zh0.get ae hx);subst z0;have ht:=s1 _ _ ao;have hl:=s1 _ _ Y;have J:=ac.mono s1;have au:l≠p:=zj Y O;have a6:l≠G:=zj Y f2;have gm:=X7 hg;have a5:=lg gm;have e1:qS (c.take (i+1))=qS (c.take i)++(if g.2.2=0 then g.1 else []):=zfq _ hg;have e2:qT (c.take (i+1))=qT (c.take i)++(if g.2.1=((g.1.length:Nat):Int) then g.1 else []):=zfq _ hg;have az:=lc i;have a3:=ls i;refine fP t _ rfl (SqT.of ht) rfl _ _ rfl (fG _ _ rfl (ef _ _ rfl rfl ?_));refine⟨fun an m=>∃(B:AE),an=[some (.ref r),some (.ref p),some (.ref G),some (.ref l),some (.int g.2.1),some (.int g.2.2)]/\zx H m/\m p=some (.lst B)/\m G=some (.lst I)/\Cel m B (qS (c.take (i+1)))/\Cel m I (qT (c.take i))/\m l=some (.lst ws)/\Cel m ws g.1,?_,?_⟩
   .refine dX _ rfl rfl (dY _ rfl (QH (λhp=>?_) (λhp=>?_)))
    .have k:g.2.2=0:=V.int.inj (bg hp);rw[bw k]at e1;refine dX _ rfl (.inl ⟨rfl,_,SqL.of h1⟩) (eE _ rfl p l M ws rfl rfl h1 hl ⟨?_,(eu (M++ws) rfl (λb o e=>?_) zb ?_ (e9 ?_ (Cel.into p _ h1 j) ?_ (Cel.into p _ h1 J)))⟩)
     .rw[d.length,J.length];exact X5 (show _<=200 by lia) "d"
     .rw[zq (zj e O)];exact s1 _ _ e
     .rw[zq (Vd al)];exact h2
     .rw[e1];exact Cel.into p _ h1 (Cel.append d J)
     .rw[zq au];exact hl
    .have k:¬ g.2.2=0:=λz=>hp (br (by rw[z]));rw[bq k,W5]at e1;exact eu M rfl s1 h1 h2 (e9 (by rw[e1];exact d) j hl J)
   .refine λan H2=>gy λB z0 s2 aa u=>gg λL y af n=>?_;subst z0;refine eV _ rfl _ rfl (dW l _ rfl (.inl (SqL.of af)) rfl (dY _ rfl (QH (λhp=>?_) (λhp=>?_))))
    .have k:g.2.1=((g.1.length:Nat):Int):=by
      have:=V.int.inj (bg hp);rw[n.length]at this;exact this
     rw[bw k]at e2;refine dX _ rfl (.inl ⟨rfl,_,SqL.of u⟩) (eE _ rfl G l I ws rfl rfl u af ⟨?_,(eH _ _ _ B (I++ws) rfl (λb o e=>?_) ?_ zb (Cel.into G _ u L) ?_)⟩)
     .rw[y.length,n.length];exact X5 (show _<=200 by lia) "d"
     .rw[zq (zj e f2)];exact s2 _ _ e
     .rw[zq al];exact aa
     .rw[e2];exact Cel.into G _ u (Cel.append y n)
    .have k:¬ g.2.1=((g.1.length:Nat):Int):=λz=>hp (br (by rw[z,n.length]));rw[bq k,W5]at e2;exact eH _ _ _ B I rfl s2 aa u L (by rw[e2];exact y)
  .refine λσ H1=>gp λv3 v4 v5 M I z0 s1 h1 h2 d j=>?_;subst z0;have gl:us.length=c.length:=Paired.length ae;rw[gl,XF]at d j;have n1:(qS c).Nodup:=ag.sublist (Qo c);have n2:(qT c).Nodup:=ag.sublist (Qp c);have m1:(qS c).length<64:=XM (Qo c).length_le v;have m2:(qT c).length<64:=XM (Qp c).length_le v;refine dY _ rfl (eB p M _ rfl (SqL.of h1) (Cel.tup2 d) (by rw[d.length];lia) (λa1 u1 p1 ab aq ax ay=>?_));refine fR (λq1 z0 ah=>?_) (zbn ax);subst z0;have z3:=zc (o:=.lst u1) ab;refine dY _ rfl (eB G I _ rfl (SqL.of (z3 _ _ h2)) (Cel.tup2 (j.mono z3)) (by rw[j.length];lia) (λa2 u2 p2 N ar aw ak=>?_));obtain⟨q2,rfl,ai⟩:=zbn aw;have z4:=zc (o:=.lst u2) N;have na:a1≠a2:=zj (show upd H1 a1 (.lst u1) a1=some (.lst u1) from zb) N;refine⟨yL,λt ht=>?_⟩;have z5:=zc (o:=.tup [.ref a1,.ref a2]) ht;have am:=(s1.trans z3).trans z4;exact q t a1 a2 u1 u2 q1 q2 _ (am.free ht) (s1.free ab) ((s1.trans z3).free N) na zb (z5 _ _ (z4 _ _ zb)) (z5 _ _ zb) (Cel.mono ((z3.trans z4).trans z5) (jD aq)) (Cel.mono (z4.trans z5) (jD ar)) ah ai (zgp (ah.nodup_iff.mpr n1) (ay (by rw[d.length];exact m1))) (zgp (ai.nodup_iff.mpr n2) (ak (by rw[j.length];exact m2))) (am.trans z5)
def Two.both(A B:AB):AB:=A.filter λc=>decide (c∈B)
def Two.alone(A B:AB):AB:=A.filter λc=>!decide (c∈B)
def zcb(A B:AB)(a b:Int):Int:=mx3 0 (a-((Two.alone A B).length:Nat)) (b-((Two.alone B A).length:Nat))
def zcc(A B:AB)(a b:Int):Int:=mn3 ((Two.both A B).length:Nat) a b
def zlT(A B:AB)(a b:Int):List Rg:=[(Two.both A B,zcb A B a b,zcc A B a b),(Two.alone A B,a-zcc A B a b,a-zcb A B a b),(Two.alone B A,b-zcc A B a b,b-zcb A B a b)]
abbrev Ak:=Int×AB
def AkV(H:Hp)(v:V)(k:Ak):Prop:=∃(t l:Addr) (a:AE),v=V.ref t/\H t=some (.tup [.int k.1,.ref l])/\H l=some (.lst a)/\Cel H a k.2
def ak1(ks:List Ak):Ak:=ks.getD 0 (0,[])
def ak2(ks:List Ak):Ak:=ks.getD 1 (0,[])
def gsU(ks:List Ak):List Rg:=zlT (ak1 ks).2 (ak2 ks).2 (ak1 ks).1 (ak2 ks).1
def ztF(ks:List Ak):Prop:=zcb (ak1 ks).2 (ak2 ks).2 (ak1 ks).1 (ak2 ks).1<=zcc (ak1 ks).2 (ak2 ks).2 (ak1 ks).1 (ak2 ks).1
def zfr:Sp:=λl H Q _=>∃(g:Addr) (h:AE) (b:List Ak),l=[.ref g]/\H g=some (.lst h)/\Xk (AkV H) h b/\(b.length=1\/b.length=2)/\(∃S:AB,S.length<=63/\∀k∈b,k.2.Nodup/\∀c∈k.2,c∈S) /\
 ztF b/\∀(t d e:Addr) (i j:AE) (c1 f:AB) (a:Hp),H d=none->H e=none->d≠e->a t=some (.tup [.ref d,.ref e])->a d=some (.lst i)->a e=some (.lst j)->Cel a i c1->Cel a j f->c1.Perm (qS (gsU b))->f.Perm (qT (gsU b))->c1.Pairwise Cells.lex->f.Pairwise Cells.lex->zx H a->Q (.ref t) a
def zpP(A B):(A.filter λc=>!decide (c∈Two.both A B))=Two.alone A B:=by
 unfold Two.alone Two.both;refine U3 λx a=>?_;congr 1;rw[decide_eq_decide,XW,bu];exact⟨λh=>h.2,λh=>⟨a,h⟩⟩
def znU(A B):(B.filter λc=>!decide (c∈Two.both A B))=Two.alone B A:=by
 unfold Two.alone Two.both;refine U3 λx a=>?_;congr 1;rw[decide_eq_decide,XW,bu];exact⟨λh=>h.1,λh=>⟨h,a⟩⟩
def zjo(a:Cel H vs cs):xY K H vs (cs.map zA):=by
 induction a with
 | nil=>exact .nil
 | cons h _ b=>exact .cons (xP.rdv h) b
def zh3(g:AB)(c):(if true=true then !(g.map zA).any (λz=>WW z (zA c)) else (g.map zA).any λz=>WW z (zA c))=!decide (c∈g):=congrArg (λb=>!b) ((ZC _ _).trans (zko _ _))
def znV{b:AB}(p:a.Perm b)(c:a.Pairwise Cells.lex)(d:b.Pairwise Cells.lex):a=b:=p.eq_of_pairwise (λx y _ _ h1 h2=>by
 unfold Cells.lex at h1 h2;lia) c d
def zut{A:Hp->Addr->Prop}{G:Hp->Addr->Prop}{R:Prop}(k:∀H t,A H t->G H t)(h:(∀H t,A H t->G H t)->R):R:=h k
def xh:zD ["asked","one","other","both","one_alone","other_alone","least","most"] ["asked"] (zv zbk):=bh
def zlU(T:Txt mg)(D:zh K mg "gained" zbk ["asked"] f fd)(aA:zh K mg "settled" Yt ["regions"] f1 aB):qm P w K mg base CX0 2 f fd ["asked"] zfr:=by
 refine D.F.ok xh "l" (λaQ A aN s H vs Q E hr h=>?_)
 .obtain⟨la,ls,ks,rfl,I,hP,az,⟨S,aj,a1⟩,ac,q0⟩:=h;refine⟨_,(ze (qz 1 xh.nd (zQ zfH (pv 0) zf (λ_ _=>rfl))) (ze (qz 2 xh.nd (zma (ZO xD (pb1 yD T.qQ Xl (pv 0)) zf (zT _)) (zQ zfH (pv 0) zf (λ_ _=>rfl)) (@qu _ _ _ _ _ (@za _ _ _ _ _ zf (@za _ _ _ _ _ (@qa _ _ _ _ zd) zd rfl) rfl)))) (ze (qz 3 xh.nd (pcm ["cell","other"] [none,some 2] cR (zN (zQ jS (pv 1) zf (λ_ _=>rfl))) (pgN 0) (qA (ZO (jC (K:=K) "r" hr.units) (pv 0) (zQ (zoW (K:=K) "r") (pv 1) zf (λ_ _=>rfl)) "r")) (pv 0))) (ze (psC 4 xh.nd ["cell","both"] [none,some 3] cR (zN (zQ jS (pv 1) zf (λ_ _=>rfl))) (pgN 0) (qA (ZO (Zo (K:=K) "r" hr.units) (pv 0) (pv 1) "r")) (pv 0)) (ze (psC 5 xh.nd ["cell","both"] [none,some 3] cR (zN (zQ jS (pv 2) zf (λ_ _=>rfl))) (pgN 0) (qA (ZO (Zo (K:=K) "r" hr.units) (pv 0) (pv 1) "r")) (pv 0)) (ze (qz 6 xh.nd (QG (zli rfl) "r" T.zna Sy (@za _ _ _ _ _ zf (za (zC QD (zQ jS (pv 1) zf (λ_ _=>rfl)) (pb1 yD T.qQ Xl (pv 4))) (za (zC QD (zQ jS (pv 2) zf (λ_ _=>rfl)) (pb1 yD T.qQ Xl (pv 5))) zd)) rfl))) (ze (qz 7 xh.nd (QG (zlj rfl) "r" T.zkl TV (za (pb1 yD T.qQ Xl (pv 3)) (za (zQ jS (pv 1) zf (λ_ _=>rfl)) (za (zQ jS (pv 2) zf (λ_ _=>rfl)) zd))))) (ze (qH (ZO zqj (pv 6) (pv 7) (zT _)) (zg xC) zV) (zg (zF (pc0 (zjn T aA) hr aA (za (qa (za (qu (za (pv 3) (za (pv 6) (za (pv 7) zd)))) (za (qu (za (pv 4) (za (zC QD (zQ jS (pv 1) zf (λ_ _=>rfl)) (pv 7)) (za (zC QD (zQ jS (pv 1) zf (λ_ _=>rfl)) (pv 6)) zd)))) (za (qu (za (pv 5) (za (zC QD (zQ jS (pv 2) zf (λ_ _=>rfl)) (pv 7)) (za (zC QD (zQ jS (pv 2) zf (λ_ _=>rfl)) (pv 6)) zd)))) zd)))) zd)))))))))))),?_⟩;ac_nf;refine GS.via λGG v=>?_;obtain⟨g,l1,us,a,A,ai,ag,ax,nA,sA,J⟩:∃(g l1:Addr) (us:AE) (a:Int) (A:AB),H g=some (.tup [.int a,.ref l1])/\H l1=some (.lst us)/\Cel H us A/\A.Nodup/\(∀c∈A,c∈S)/\((ls=[.ref g]/\ks=[(a,A)])\/∃(d l2:Addr) (N:AE) (b:Int) (B:AB),ls=[.ref g,.ref d]/\ks=[(a,A),(b,B)]/\H d=some (.tup [.int b,.ref l2])/\H l2=some (.lst N)/\Cel H N B/\B.Nodup/\∀c∈B,c∈S):=by
   cases hP with
   | nil=>rcases az with h | h<;>cases h
   | cons x xs =>
    revert x;refine gb λg l1 us z0 h1 h2 h3=>?_;subst z0;have n1:=a1 _ XU;refine eH g l1 us _ _ h1 h2 h3 n1.1 n1.2 ?_;cases xs with
    | nil=>exact .inl ⟨rfl,rfl⟩
    | cons y ys =>
     revert y;refine gb λd l2 N z0 g1 g2 g3=>?_;subst z0;cases ys with
     | nil =>
      have n2:=a1 _ (XS _ XU);exact .inr (eW d l2 N _ _ rfl rfl g1 g2 (fH g3 n2.1 n2.2))
     | cons z zs =>
      rcases az with h | h<;>simp at h
  refine v ?_;clear v GG;have a4:atI ls 0=some (.ref g):=by
   rcases J with ⟨rfl,_⟩ | ⟨_,_,_,_,_,rfl,_⟩<;>rfl
  refine eE _ rfl la _ _ (.ref g) rfl rfl (SqL.of I) a4 ?_;refine' zut (A:=λ(H:Hp) (d:Addr)=>∃(l2:Addr) (b:Int) (N:AE) (B:AB),H g=some (.tup [.int a,.ref l1])/\H l1=some (.lst us)/\Cel H us A/\H d=some (.tup [.int b,.ref l2])/\H l2=some (.lst N)/\Cel H N B/\B.Nodup/\(∀c∈B,c∈S)/\zcb A B a b<=zcc A B a b/\∀(t d1 d2:Addr) (w1 w2:AE) (c1 c2:AB) (H':Hp),H d1=none->H d2=none->d1≠d2->H' t=some (.tup [.ref d1,.ref d2])->H' d1=some (.lst w1)->H' d2=some (.lst w2)->Cel H' w1 c1->Cel H' w2 c2->c1.Perm (qS (zlT A B a b))->c2.Perm (qT (zlT A B a b))->c1.Pairwise Cells.lex->c2.Pairwise Cells.lex->zx H H'->Q (.ref t) H') ?rest (λa8=>?tail)
  case tail =>
   have ao:=J
   rcases ao with ⟨al,ak⟩ | ⟨d,l2,N,b,B,al,ak,i,G,hB,nB,sB⟩
   .have m:H la=some (.lst [.ref g]):=by rw[<- al];exact I
    have q1:=q0;have x1:=ac;rw[ak]at q1 x1;refine fh _ rfl la _ rfl (.inl (SqL.of m)) rfl (dY _ rfl (qZ (by show decide (V.int ((1:Nat):Int)=V.int 2)=false;decide) ⟨xo,λU aF=>⟨yL,λd i=>?_⟩⟩));have z1:=zc (o:=.lst []) aF;have z2:=zc (o:=.tup [.int 0,.ref U]) i;have s2:=z1.trans z2;have an:upd (upd H U (.lst [])) d (.tup [.int 0,.ref U]) U=some (.lst []):=z2 _ _ zb;have L:upd (upd H U (.lst [])) d (.tup [.int 0,.ref U]) d=some (.tup [.int 0,.ref U]):=zb;clear z1 z2;revert s2 an L;generalize upd (upd H U (.lst [])) d (.tup [.int 0,.ref U])=H2;intro s2 an L;exact a8 H2 d (eY U 0 [] [] (s2 _ _ ai) (s2 _ _ ag) (ax.mono s2) L (eF an (.nil) UH (λ_ h=>nomatch h) x1 (λt d1 d2 w1 w2 c1 c2 H' f1 f2 f3 g1 g2 g3 g4 g5 g6 g7 g8 g9 s'=>q1 t d1 d2 w1 w2 c1 c2 H' (s2.free f1) (s2.free f2) f3 g1 g2 g3 g4 g5 g6 g7 g8 g9 (s2.trans s'))))
   .have m:H la=some (.lst [.ref g,.ref d]):=by rw[<- al];exact I
    have q1:=q0;have x1:=ac;rw[ak]at q1 x1;refine fh _ rfl la _ rfl (.inl (SqL.of m)) rfl (dY _ rfl (ju (by show decide (V.int ((2:Nat):Int)=V.int 2)=true;decide) (eE _ rfl la _ _ (.ref d) rfl rfl (SqL.of m) rfl ?_)));exact a8 H d (eY l2 b N B ai ag ax i (eF G hB nB sB x1 q1))
  intro H d hh;refine GS.via λGG v=>?_;revert hh;refine gk λl2 b N B aq aa hA i=>gj λG hB nB sB hg q=>?_;refine v ?_;have lA:A.length<=63:=X5 (nA.length_le_of_subset sA) aj;have lB:B.length<=63:=X5 (nB.length_le_of_subset sB) aj;clear v GG;refine fm _ rfl g _ 1 _ rfl rfl (SqT.of aq) rfl l1 rfl ⟨_,SqL.of aa⟩ (λz hz=>?_);refine qE (K:=K) (a:=l1) (xs:=us) (λa=>a≠z) (A.map λc=>if decide (c∈B)=true then some (zA c) else none) (fun σ=>∃u0,σ=[u0,some (.ref d)]) hz (λ_ h=>h) ⟨_,rfl⟩ (by rw[ZB];exact hA.length.symm) (by rw[hA.length];exact X5 lA "d") (SqL.of aa) ?_ ?_
  .rintro k x o σ H4 hx ho u _ ⟨u0,rfl⟩ Y Z O no;obtain⟨c,hc,rc⟩:=Cel.get (Cel.mono u hA) hx;have l:=yf hc ho;refine dY _ rfl (eE _ rfl d _ 1 _ rfl rfl (SqT.of (u _ _ i)) rfl (eK (zA c) (B.map zA) rc.rdv (.lst (SqL.of (u _ _ G)) (zjo (hB.mono u))) rfl (zbm _) (by show 1<=60;decide) (dY _ rfl ?_)));rw[zhG];by_cases n:decide (c∈B)=true
   .rw[bw n]at l;exact ju n ⟨_,rfl,O _ _ _ _ l ⟨_,rfl⟩ (zx.refl _) rc.rdn⟩
   .rw[bq n]at l;exact qZ (WY.mpr n) (no _ _ l ⟨_,rfl⟩ (zx.refl _))
  rintro yb H3 s3 ar ab;rw[qy]at ab;have am:Cel H3 yb (Two.both A B):=zJ.cel ab;refine fm _ rfl g _ 1 _ rfl rfl (SqT.of (s3 _ _ aq)) rfl l1 rfl ⟨_,SqL.of (s3 _ _ aa)⟩ (λo1 aH=>?_);refine qE (K:=K) (a:=l1) (xs:=us) (λa=>a≠o1) (A.map λc=>if (!decide (c∈Two.both A B))=true then some (zA c) else none) (fun σ=>∃u0,σ=[u0,some (.ref z)]) aH (λ_ h=>h) ⟨_,rfl⟩ (by rw[ZB];exact hA.length.symm) (by rw[hA.length];exact X5 lA "d") (SqL.of (s3 _ _ aa)) ?_ ?_
  .rintro k x o σ H4 hx ho u _ ⟨u0,rfl⟩ Y Z O no;obtain⟨c,hc,rc⟩:=Cel.get (Cel.mono (s3.trans u) hA) hx;have l:=yf hc ho;refine eV _ rfl _ rfl (eK (zA c) ((Two.both A B).map zA) rc.rdv (.lst (SqL.of (u _ _ ar)) (zjo (am.mono u))) rfl (zbm _) (by show 1<=60;decide) (dY _ rfl ?_));rw[zh3];by_cases n:(!decide (c∈Two.both A B))=true
   .rw[bw n]at l;exact ju n ⟨_,rfl,O _ _ _ _ l ⟨_,rfl⟩ (zx.refl _) rc.rdn⟩
   .rw[bq n]at l;exact qZ (WY.mpr n) (no _ _ l ⟨_,rfl⟩ (zx.refl _))
  rintro yo H4 u aJ a5;rw[qy,zpP]at a5;have aC:Cel H4 yo (Two.alone A B):=zJ.cel a5;have M:=s3.trans u;refine fm _ rfl d _ 1 _ rfl rfl (SqT.of (M _ _ i)) rfl l2 rfl ⟨_,SqL.of (M _ _ G)⟩ (λo2 aI=>?_);refine qE (K:=K) (a:=l2) (xs:=N) (λa=>a≠o2) (B.map λc=>if (!decide (c∈Two.both A B))=true then some (zA c) else none) (fun σ=>∃u0,σ=[u0,some (.ref z)]) aI (λ_ h=>h) ⟨_,rfl⟩ (by rw[ZB];exact hB.length.symm) (by rw[hB.length];exact X5 lB "d") (SqL.of (M _ _ G)) ?_ ?_
  .rintro k x o σ H5 hx ho s5 _ ⟨u0,rfl⟩ Y Z O no;obtain⟨c,hc,rc⟩:=Cel.get (Cel.mono (M.trans s5) hB) hx;have l:=yf hc ho;refine eV _ rfl _ rfl (eK (zA c) ((Two.both A B).map zA) rc.rdv (.lst (SqL.of (s5 _ _ (u _ _ ar))) (zjo (am.mono (u.trans s5)))) rfl (zbm _) (by show 1<=60;decide) (dY _ rfl ?_));rw[zh3];by_cases n:(!decide (c∈Two.both A B))=true
   .rw[bw n]at l;exact ju n ⟨_,rfl,O _ _ _ _ l ⟨_,rfl⟩ (zx.refl _) rc.rdn⟩
   .rw[bq n]at l;exact qZ (WY.mpr n) (no _ _ l ⟨_,rfl⟩ (zx.refl _))
  rintro y2 H5 s5 a3 a6;rw[qy,znU]at a6;have ay:Cel H5 y2 (Two.alone B A):=zJ.cel a6;have au:=M.trans s5;have ah:=s5 _ _ aJ;have a7:=s5 _ _ (u _ _ ar);have ae:=am.mono (u.trans s5);have r:=au _ _ i;have p:=au _ _ aq;have af:=aC.mono s5;refine eE _ rfl g _ 0 _ rfl rfl (SqT.of p) rfl (e8 _ rfl o1 _ rfl (.inl (SqL.of ah)) (ef _ _ rfl rfl (eE _ rfl d _ 0 _ rfl rfl (SqT.of r) rfl (e8 _ rfl o2 _ rfl (.inl (SqL.of a3)) (ef _ _ rfl rfl (fJ _ _ _ rfl ?_))))));refine e8 _ rfl z _ rfl (.inl (SqL.of a7)) (eE _ rfl g _ 0 _ rfl rfl (SqT.of p) rfl (eE _ rfl d _ 0 _ rfl rfl (SqT.of r) rfl (fJ _ _ _ rfl ?_)));refine eV _ rfl _ rfl (fu _ _ rfl rfl _ rfl ?_);have eL:mx3 0 (a-((yo.length:Nat):Int)) (b-((y2.length:Nat):Int))=zcb A B a b:=by
   unfold zcb;rw[af.length,ay.length]
  have eM:mn3 ((yb.length:Nat):Int) a b=zcc A B a b:=by
   unfold zcc;rw[ae.length]
  rw[eL,eM];refine qZ (bf "a") ?_;have q':=q;unfold zlT at q';generalize zcb A B a b=lo at *
  generalize zcc A B a b=hi at *
  refine eV _ rfl _ rfl (dX _ rfl zeo (λr1 aK=>?_));have y1:=zc (o:=.tup [.ref z,.int lo,.int hi]) aK;have x1:upd H5 r1 (.tup [.ref z,.int lo,.int hi]) r1=some (.tup [.ref z,.int lo,.int hi]):=zb;refine dY _ rfl (eE _ rfl g _ 0 _ rfl rfl (SqT.of (y1 _ _ p)) rfl (e8 _ rfl _ _ rfl rfl (eE _ rfl g _ 0 _ rfl rfl (SqT.of (y1 _ _ p)) rfl (fh _ rfl _ _ rfl rfl zeo (λr2 ao=>?_)))));have a9:=zc (o:=.tup [.ref o1,.int (a-hi),.int (a-lo)]) ao;have av:=y1.trans a9;refine dY _ rfl (eE _ rfl d _ 0 _ rfl rfl (SqT.of (av _ _ r)) rfl (e8 _ rfl _ _ rfl rfl (eE _ rfl d _ 0 _ rfl rfl (SqT.of (av _ _ r)) rfl (fh _ rfl _ _ rfl rfl zeo (λr3 ab=>⟨zeo,λrl aM=>?_⟩)))));have y3:=zc (o:=.tup [.ref o2,.int (b-hi),.int (b-lo)]) ab;have y4:=zc (o:=.lst [.ref r1,.ref r2,.ref r3]) aM;have aw:=y3.trans y4;have j:=av.trans aw;have mB:∀{x:AA},x∈Two.both A B->x∈A/\x∈B:=λh=>⟨(XW.mp h).1,bg (XW.mp h).2⟩;have mA:∀{x:AA} {A B:AB},x∈Two.alone A B->x∈A/\x ∉ B:=λ{x A B} h=>⟨(XW.mp h).1,by
   have:=(XW.mp h).2;simpa using this⟩
  have a2:(Two.both A B++(Two.alone A B++(Two.alone B A++[]))).Nodup:=by
   rw[W5,WE,WE];refine⟨nA.sublist Xn,⟨nA.sublist Xn,nB.sublist Xn,λx hx y hy e=>?_⟩,λx hx y hy e=>?_⟩
   .subst e;exact(mA hx).2 (mA hy).1
   .subst e;rcases XV.mp hy with hy | hy
    .exact(mA hy).2 (mB hx).2
    .exact(mA hy).2 (mB hx).1
  refine eG rl _ [(Two.both A B,lo,hi),(Two.alone A B,a-hi,a-lo),(Two.alone B A,b-hi,b-lo)] rfl zb (.cons (dZ r1 z yb rfl (aw _ _ (a9 _ _ x1)) (j _ _ a7) (ae.mono j)) (.cons (dZ r2 o1 yo rfl (aw _ _ zb) (j _ _ ah) (af.mono j)) (.cons (dZ r3 o2 y2 rfl (y4 _ _ zb) (j _ _ a3) (ay.mono j)) .nil))) a2 ?_ (λt d1 d2 w1 w2 c1 c2 H6 ht aD aE aG h1 h2 h3 k1 k2 p1 p2 aO aP s6=>?_)
  .refine XM (X5 (a2.length_le_of_subset (l₂:=S) λx hx=>?_) aj) "d";rw[W5]at hx;rcases XV.mp hx with hx | hx
   .exact sA x (mB hx).1
   .exact(XV.mp hx).elim (λh=>sA x (mA h).1) λh=>sB x (mA h).1
  .have sZ:=au.trans j;exact q' t d1 d2 w1 w2 c1 c2 H6 (sZ.free aD) (sZ.free aE) aG h1 h2 h3 k1 k2 p1 p2 aO aP (sZ.trans s6)
def take_snoc{α:Type}{l:List α}{x:α}(h:l[i]?=some x):l.take (i+1)=l.take i++[x]:=by
 rw[XC,h];rfl
def zfs(a st:AB)(k:Ak):Ak:=(k.1-(zca st k.2).sum,jy a st k.2)
theorem zft(b:∀c∈a,p c=false)(d:∀c∈st,p c=true):∀cs:AB,((cs.countP p:Nat):Int)=(zca st cs).sum+(((jy a st cs).countP p:Nat):Int)
 | []=>rfl
 | c::r=>by
  have g:=zft b d r;have f:(zca st (c::r)).sum=(if c∈st then 1 else 0)+(zca st r).sum:=by
   show (((c::r).map _).sum:Int)=_;rw[Xs,UN];rfl
  have e:jy a st (c::r)=if (!(decide (c∈st) || decide (c∈a)))=true then c::jy a st r else jy a st r:=by
   unfold jy;rw[V5]
  rw[Vw,f,e];by_cases h1:c∈st
  .rw[d c h1,bw h1,br h1];show ((r.countP p+1:Nat):Int)=1+(zca st r).sum+(((jy a st r).countP p:Nat):Int);lia
  .rw[bq h1,bf h1];by_cases h2:c∈a
   .rw[b c h2,br h2];show ((r.countP p+0:Nat):Int)=0+(zca st r).sum+(((jy a st r).countP p:Nat):Int);lia
   .rw[bf h2];show ((r.countP p+(if p c=true then 1 else 0):Nat):Int)=0+(zca st r).sum+(((c::jy a st r).countP p:Nat):Int);rw[Vw];lia
def zh4:c∈jy a st cs↔c∈cs/\c ∉ st/\c ∉ a:=by
 unfold jy;rw[XW];simp
def zlV(p:AA->Bool)(gs:List Rg):Prop:=∀g∈gs,g.2.1<=((g.1.countP p:Nat):Int)/\((g.1.countP p:Nat):Int)<=g.2.2
def zlV.clear(h:zlV p gs)(b:c∈qS gs):p c=false:=by
 obtain⟨g,d,a⟩:=PV.mp b;split at a
 .rename_i e;have:=(h g d).2;exact WY.mpr (List.countP_eq_zero.mp "a" c a)
 .cases a
def zlV.stone(h:zlV p gs)(b:c∈qT gs):p c=true:=by
 obtain⟨g,d,a⟩:=PV.mp b;split at a
 .rename_i e;have:=(h g d).1;have:=TR (p:=p) (l:=g.1);exact List.countP_eq_length.mp "a" c a
 .cases a
def zqE(e:A.Nodup)(f:B.Nodup)(k:((A.countP p:Nat):Int)=a)(m:((B.countP p:Nat):Int)=b):zlV p (zlT A B a b)/\zcb A B a b<=zcc A B a b:=by
 have h:A.countP p=(Two.both A B).countP p+(Two.alone A B).countP p:=SF A p _;have i:B.countP p=(Two.both B A).countP p+(Two.alone B A).countP p:=SF B p _;have j:(Two.both B A).countP p=(Two.both A B).countP p:=List.Perm.countP_eq _ ((WV (f.sublist Xn) (e.sublist Xn)).mpr λc=>by
  rw[XW,XW,bu,bu];exact And.comm)
 have l1:=TR (p:=p) (l:=Two.both A B);have l2:=TR (p:=p) (l:=Two.alone A B);have n:=TR (p:=p) (l:=Two.alone B A);have lo:zcb A B a b<=(((Two.both A B).countP p:Nat):Int):=by
  unfold zcb mx3;repeat' split
  all_goals lia
 have d:(((Two.both A B).countP p:Nat):Int)<=zcc A B a b:=by
  unfold zcc mn3;repeat' split
  all_goals lia
 refine⟨λg hg=>?_,Vb lo d⟩;rcases XG.mp hg with rfl | hg
 .exact⟨lo,d⟩
 .rcases XG.mp hg with rfl | hg
  .show a-zcc A B a b<=(((Two.alone A B).countP p:Nat):Int)/\(((Two.alone A B).countP p:Nat):Int)<=a-zcb A B a b;lia
  .rw[Xy.mp hg];show b-zcc A B a b<=(((Two.alone B A).countP p:Nat):Int)/\(((Two.alone B A).countP p:Nat):Int)<=b-zcb A B a b;lia
structure Q2 (As:List Ak)(L:AA->Bool)(cl st:AB):Prop where
 no:∀c∈cl,L c=false
 ye:∀c∈st,L c=true
 ct:∀k∈As,((k.2.countP L:Nat):Int)=k.1
def Q2.ap(h:Q2 b L a st):∀c∈a,c ∉ st:=λc d e=>by
 have:=h.ye c e;rw[h.no c d]at this;cases this
def znW(rs):(zP rs).Pairwise Cells.lex:=Cells.jH _ 0 (codes rs)
def zr8(rs)(c):clA rs c=(zP rs).filter λx=>Cells.near x c:=by
 unfold clA zE zP;have e:(Cells.zK zU 0 (codes rs)).filter (λx=>decide (Cells.sgn (codes rs) x=63))=Cells.zK Zz 0 (codes rs):=by
  rw[Cells.all_filter (p:=zU) (q:=λk=>decide (k=63)) (codes rs)];refine Cells.zcn (λk=>?_) 0 _;unfold Zz zU;by_cases h:k=63
  .subst h;rfl
  .rw[bf h,Bool.and_false]
 rw[<- e,UD,UD];exact U3 λx _=>Bool.and_comm _ _
def zby:(zr6 rs a).Sublist (zP rs):=by
 cases a with
 | none=>exact List.Sublist.refl _
 | some c =>
  show (clA rs c).Sublist (zP rs);rw[zr8];exact Xn
abbrev Tg:=Option AA
def akT(rs:AD)(n:Int)(a:Tg):Ak:=(ztE rs n a,zr6 rs a)
def jv(rs:AD)(n:Int)(a:List Tg):List Ak:=a.map (akT rs n)
abbrev zct (rs:AD)(n:Int)(cl st:AB)(ths:List Tg):List Ak:=ths.map λtg=>zfs cl st (akT rs n tg)
abbrev gsT (rs:AD)(n:Int)(cl st:AB)(ths:List Tg):List Rg:=gsU (zct rs n cl st ths)
def zpQ(c d:List Tg):Prop:=(∃a∈c,d=[a])\/∃a b,a∈c/\b∈c/\a≠b/\d=[a,b]
def zgq(rs)(n)(a st)(b):(zfs a st (akT rs n b)).2.Nodup:=((jW rs).sublist zby).sublist Xn
def Q2.ok{f:List Tg}(h:Q2 (jv rs n e) L c st)(o:zpQ e f):zlV L (gsT rs n c st f)/\ztF (zct rs n c st f):=by
 have d:∀a∈e,(((zfs c st (akT rs n a)).2.countP L:Nat):Int)=(zfs c st (akT rs n a)).1:=λa g=>by
  have:=zft h.no h.ye (akT rs n a).2;have:=h.ct _ (XE.mpr ⟨a,g,rfl⟩);show _=(akT rs n a).1-(zca st (akT rs n a).2).sum;show (((jy c st (akT rs n a).2).countP L:Nat):Int)=_;lia
 rcases o with ⟨a,g,rfl⟩ | ⟨a,b,g,i,_,rfl⟩
 .exact zqE (zgq rs n c st a) (UH (α:=AA)) (d a g) rfl
 .exact zqE (zgq rs n c st a) (zgq rs n c st b) (d a g) (d b i)
def zkE{f:AB}(o:zpQ i e)(h:c∈(gsT rs n f st e).flatMap λg=>g.1):c∈zP rs/\c ∉ st/\c ∉ f:=by
 have one:∀a,c∈(zfs f st (akT rs n a)).2->c∈zP rs/\c ∉ st/\c ∉ f:=λa h=>let z:=zh4.mp h;⟨zby.subset z.1,z.2⟩
 have d:∀{A B:AB} {a b:Int},c∈(zlT A B a b).flatMap (λg=>g.1)->c∈A\/c∈B:=λ{A B a b} h=>by
  have j:c∈Two.both A B++(Two.alone A B++(Two.alone B A++[])):=h;rw[W5,XV,XV]at j;rcases j with h | h | h
  .exact .inl (XW.mp h).1
  .exact .inl (XW.mp h).1
  .exact .inr (XW.mp h).1
 rcases o with ⟨a,k,rfl⟩ | ⟨a,b,k,l,_,rfl⟩
 .rcases d h with z | z
  .exact one a z
  .cases z
 .exact(d h).elim (one a) (one b)
abbrev nlI (t:List Nat):List Int:=t.map λx=>((x:Nat):Int)
def PlR(N:Addr->Prop)(H:Hp)(v:V)(t:List Nat):Prop:=∃a,v=V.ref a/\N a/\H a=some (.lst (iL (nlI t)))
abbrev NT:Addr->Prop:=λ_=>True
section
variable {N:Addr->Prop}{H H':Hp}{us:AE}{ts:List (List Nat)}{z:Addr}{ys ys':AE}
def JF(s:zx H H')(h:Xk (PlR N H) us ts):Xk (PlR N H') us ts:=Paired.imp' (λ_ _ ⟨a,e,n,h⟩=>⟨a,e,n,s _ _ h⟩) h
def zkF(h:Xk (PlR N H) us ts):Xk (PlR NT H) us ts:=Paired.imp' (λ_ _ ⟨a,e,_,h⟩=>⟨a,e,trivial,h⟩) h
def zh5(h:Xk (PlR (· ≠ z) H) us ts):Xk (PlR (· ≠ z) (upd H z (.lst ys'))) us ts:=Paired.imp' (λ_ _ ⟨a,e,n,h⟩=>⟨a,e,n,by rw[zq n];exact h⟩) h
def zdZ(s:zx H H')(h:Xk (AkV H) us ks):Xk (AkV H') us ks:=Paired.imp' (λ_ _ ⟨t,l,b,e,h1,h2,a⟩=>(dZ t l b e (s _ _ h1) (s _ _ h2) (a.mono s))) h
def znX(h:Xk (AkV H) us ks){i:Nat}(e:ks[i]?=some k):∃v,us[i]?=some v/\AkV H v k:=by
 have l:=Paired.length h;have b:=(X6.mp e).1;obtain⟨v,a⟩:∃v,us[i]?=some v:=⟨_,X0 "a"⟩;obtain⟨c,hk,r⟩:=Qv h a;rw[e]at hk;cases hk;exact⟨v,a,r⟩
end
def zd0(ks:List Ak)(i j:Nat):Bool:=((ks.getD i (0,[])).2).any λc=>decide (c∈(ks.getD j (0,[])).2)
def zh6(ks:List Ak)(i m:Nat):List (List Nat):=((VU m).filter λj=>zd0 ks i (i+1+j)).map λj=>[i,i+1+j]
def Zc(ks:List Ak)(i:Nat):List (List Nat):=(VU i).flatMap λi=>zh6 ks i (ks.length-(i+1))
def zeF(ks:List Ak):List (List Nat):=(VU ks.length).map (λi=>[i])++Zc ks ks.length
def znY(ks)(i m):(zh6 ks i m).length<=m:=by
 unfold zh6;rw[ZB];have:=WP (λj=>zd0 ks i (i+1+j)) (VU m);rwa [Vt]at this
theorem pairs_len(ks):∀i,(Zc ks i).length<=i*ks.length
 | 0=>W2 _
 | i+1=>by
  unfold Zc;rw[R5,UX,XZ];have a:=pairs_len ks i;unfold Zc at a;have b:=znY ks i (ks.length-(i+1));rw[TK,List.flatMap_nil,W5,N5];lia
def zr9(ks)(h:ks.length<=32):(zeF ks).length<=1056:=by
 unfold zeF;rw[XZ,ZB,Vt];have a:=pairs_len ks ks.length;have b:ks.length*ks.length<=32*32:=RI h h;lia
def zkG:Sp:=λg H Q _=>∃(c:Addr) (e:AE) (b:List Ak),g=[.ref c]/\H c=some (.lst e)/\Xk (AkV H) e b/\b.length<=32/\(∀k∈b,k.2.length<=64) /\
 ∀(d:Addr) (f:AE) (a:Hp),a d=some (.lst f)->Xk (PlR NT a) f (zeF b)->zx H a->Q (.ref d) a
def jJ:zD ["asked","singles","pairs","place","one","other"] ["asked"] (zv Ju):=bh
def zd1(T:Txt mg)(D:zh K mg "place_lists" Ju ["asked"] f fd):qm P w K mg base CX0 1 f fd ["asked"] zkG:=by
 refine D.F.ok jJ "l" (λa1 A az s H vs Q E hr h=>?_)
 .revert h;refine gf λY I y z0 J hA al ay q=>?_;subst z0;refine⟨_,(ze (psC 1 jJ.nd ["place"] [none] cP (prg T.xO (pb1 zH T.qQ Xl (pvS 0))) (pgN 0) qp (qa (za (pvS 0) zd))) (@ze _ _ _ _ _ (@qv _ _ 2 _ _ _ _ jJ.nd rfl (Wm rfl) (@qa _ _ _ _ zd) "r" (.inr rfl)) (ze (qN Xd rfl (JA "r" T.je (za (pvS 0) zd)) (JH rfl (zY (pgq 3 jJ.nd) (zY (pgq 4 jJ.nd) jR))) (zg (qN Xd rfl (zbJ "r" T.xO (za (zC jt (pvS 3) zf) (za (pb1 zH T.qQ Xl (pvS 0)) zd))) (pgq 5 jJ.nd) (zg (qH (za2 (pb1 (zdh rfl) T.zkk TU (pcm ["cell","asked","other"] [none,some 0,some 5] cR (zN (zQ qk (pvS 4) zf (λ_ _=>rfl))) (pgN 0) qp (ZN (jC (K:=K) "r" hr.units) (pvS 0) (zQ (zhp (K:=K) "r") (zQ (zbX (K:=K) "r") (pvS 1) (pvS 2) (λ_ _=>rfl)) zf (λ_ _=>rfl)) "r"))) (λ_=>rfl)) (zg (jA (JK WX Wo Wn jU (pvS 2) (za (qa (za (pvS 3) (za (pvS 5) zd))) zd)))) zV))))) (zg (zF (zC JI (pvS 1) (pvS 2))))))),?_⟩;ac_nf;have ll:I.length=y.length:=Paired.length hA;refine⟨_,rfl,Y,_,rfl,.inl (SqL.of J),_,rfl,"a","a",λsg ak=>?_⟩;rw[show (((I.length:Nat):Int)).toNat=I.length by lia];refine ziE (lo:=0) (n:=I.length) (λi p u=>∃(u0:Option V) (M:AE),p=[u0]/\zx H u/\u sg=some (.lst M)/\Xk (PlR (· ≠ sg) u) M ((VU i).map λi=>[i])) ⟨none,[],rfl,zc ak,zb,.nil⟩ ?_ ?_
  .refine λi p H1 hi=>fQ λu0 M z0 s1 O hP=>?_;subst z0;rw[RS];unfold xV;refine Qh ?_;refine⟨_,rfl,sz_1,λx N=>?_⟩;have y2:=zc (o:=.lst [V.int (i:Nat)]) N;have nx:x≠sg:=λe=>by
    rw[e,O]at N;cases N
   have yl:M.length=i:=by rw[Paired.length hP,ZB,Vt]
   refine fB M (y2 _ _ O) (Xq (show M.length<100 by lia) "d") _ (M++[.ref x]) rfl (λb o e=>?_) zb ?_
   .rw[zq (zj e ak)];exact y2 _ _ (s1 _ _ e)
   .rw[R5,XD];refine Paired.snoc (zh5 (JF y2 hP)) ⟨x,rfl,nx,?_⟩;rw[zq nx];exact zb
  refine λp H1=>fQ λu0 M z0 s1 O hS=>?_;subst z0;refine⟨xo,λpz aj=>?_⟩;have y2:=zc (o:=.lst []) aj;refine⟨_,rfl,Y,rfl,⟨_,SqL.of (y2 _ _ (s1 _ _ J))⟩,?_⟩;refine xZ (K:=K) (l:=Y) (xs:=I) (λi σ u=>∃(w3 w4 w5:Option V) (g:AE),σ=[some (.ref Y),some (.ref sg),some (.ref pz),w3,w4,w5]/\zx H1 u/\u pz=some (.lst g)/\Xk (PlR (· ≠ pz) u) g (Zc y i))
   (fM _ _ _ [] rfl y2 zb (.nil)) (λi σ u _ ⟨_,_,_,_,_,s',_⟩=>SqL.of (s' _ _ (s1 _ _ J))) ?_ ?_
  .refine λi x tt σ H2 N av=>gn λw3 w4 w5 g z0 s2 ab G=>?_;subst z0;refine gG (λk1 ag t1 l1 u1 z0 ar ai ae=>?_) (Qv hA N);subst z0;have i1:i<I.length:=(X6.mp N).1;have y3:=zc (o:=.tup [.int (i:Nat),.ref t1]) av;have s3:=s2.trans y3;have ax:=y3 _ _ ab;have an:=JF y3 G;refine eO tt _ rfl (SqT.of zb) rfl _ _ rfl _ _ rfl rfl ?_;generalize upd H2 tt (.tup [.int (i:Nat),.ref t1])=H3 at *
   refine⟨_,rfl,_,_,rfl,rfl,_,rfl,Y,_,rfl,.inl (SqL.of (s3 _ _ (s1 _ _ J))),((i+1:Nat):Int),((I.length:Nat):Int),rfl,⟨"a","a","a","a"⟩,?_⟩;rw[show (((I.length:Nat):Int)-((i+1:Nat):Int)).toNat=I.length-(i+1) by lia];refine j8 (lo:=((i+1:Nat):Int)) (n:=I.length-(i+1)) (λm σ u=>∃(w5:Option V) (g:AE),σ=[some (.ref Y),some (.ref sg),some (.ref pz),some (.int (i:Nat)),some (.ref t1),w5]/\zx H1 u/\u pz=some (.lst g)/\Xk (PlR (· ≠ pz) u) g (Zc y i++zh6 y i m))
    (dW _ g rfl s3 ax (by show Xk _ g (Zc y i++[]);rw[W5];exact an)) ?_ ?_
   .refine λm σ H4 hm=>fQ λw5 g z0 s4 ac G=>?_;subst z0;obtain⟨j,hj,af⟩:∃j:Nat,((i+1:Nat):Int)+((m:Nat):Int)=((j:Nat):Int)/\j=i+1+m:=⟨i+1+m,"a",rfl⟩;rw[hj];have jl:j<I.length:="a"
    obtain⟨k2,ah⟩:∃k,y[j]?=some k:=⟨_,X0 "a"⟩;refine gG (λv2 aw t2 l2 u2 z0 au aq ao=>?_) (znX hA ah);subst z0;have aa:=s1.trans s4;refine⟨_,rfl,t1,_,1,_,rfl,rfl,SqT.of (aa _ _ ar),rfl,l1,rfl,⟨_,SqL.of (aa _ _ ai)⟩,λz hz=>?_⟩;have a2:=ay k1 (X7 ag);refine qj (K:=K) (a:=l1) (xs:=u1) (λr p u=>∃(u0:Option V),p=[u0,some (.ref Y),some (.int (j:Nat))]/\zx H4 u/\u z=some (.lst (((k1.2.take r).map λc=>decide (c∈k2.2)).map V.bl))) ⟨_,rfl,zc hz,zb⟩ (λr p u _ ⟨_,_,s',_⟩=>SqL.of (s' _ _ (aa _ _ ai))) ?_ ?_
    .refine λr v p H5 hv=>fT λu0 z0 s5 U=>?_;subst z0;have L:=aa.trans s5;refine fR (λc hc rc=>?_) (Cel.get (Cel.mono L ae) hv);unfold xV;refine Qh ?_;refine⟨_,rfl,_,rfl,_,rfl,Y,_,_,_,rfl,rfl,SqL.of (L _ _ J),JZ aw,t2,_,1,_,rfl,rfl,SqT.of (L _ _ au),rfl,zA c,k2.2.map zA,rc.rdv,.lst (SqL.of (L _ _ aq)) (zjo (ao.mono L)),rfl,zbm _,(by show 1<=60;decide),?_⟩;rw[zhG];refine dX _ U ?_ (dX _ rfl (λb o e=>?_) ?_)
     .rw[ZB,ZB,XH];exact Xq (show min r k1.2.length<100 by lia) "d"
     .rw[zq (zj e hz)];exact s5 _ _ e
     .rw[zb,take_snoc hc,XD,XD];rfl
    refine λp H5=>fT λu0 z0 s5 U=>?_;subst z0;rw[ae.length,XF]at U;have em:((k1.2.map λc=>decide (c∈k2.2)).any id)=zd0 y i j:=by
     unfold zd0;rw[XN,XN,ag,ah,T4];rfl
    refine fu z _ rfl (SqL.of U) _ rfl ?_;rw[em];have e1:zh6 y i (m+1)=zh6 y i m++if zd0 y i j=true then [[i,j]] else []:=by
     unfold zh6;rw[R5,WJ,XD,V5,<- af];split
     .rw[List.filter_nil,Xs,<- af];rfl
     .rfl
    rw[e1];have B:=s5 _ _ ac;by_cases hm:zd0 y i j=true
    .refine ju hm ?_;refine⟨_,rfl,.inl ⟨rfl,_,SqL.of B⟩,_,rfl,_,rfl,yL,λx N=>?_⟩;have y6:=zc (o:=.lst [V.int (i:Nat),.int (j:Nat)]) N;have nx:x≠pz:=λe=>by
      rw[e,B]at N;cases N
     have zl:g.length<=2000:=by
      have a:=Paired.length G;have b:=znY y i m;have c:=pairs_len y i;have d:i*y.length<=32*32:=RI "a" al;rw[XZ]at a;lia
     refine⟨pz,_,_,rfl,rfl,y6 _ _ B,XM zl "d",some (.int (j:Nat)),g++[.ref x],rfl,λb o e=>?_,zb,?_⟩
     .rw[zq (zj e aj)];exact y6 _ _ (s5 _ _ (s4 _ _ e))
     .rw[bw hm,<- Ww];refine Paired.snoc (zh5 (JF (s5.trans y6) G)) ⟨x,rfl,nx,?_⟩;rw[zq nx];exact zb
    .refine qZ (WY.mpr hm) ?_;rw[bq hm,W5];exact dW (some (.int (j:Nat))) g rfl (s4.trans s5) B (JF s5 G)
   .refine λσ H4=>fQ λw5 g z0 s4 ac G=>?_;subst z0;refine fM _ _ _ g rfl s4 ac ?_;unfold Zc at *
    rw[R5,UX,TK,List.flatMap_nil,W5];rw[ll]at G;exact G
  .refine λσ H2=>gn λw3 w4 w5 g z0 s2 ab G=>?_;subst z0;rw[ll]at G;have am:=JF s2 hS;have yl:M.length<=32:=by rw[Paired.length hS,ZB,Vt];lia
   have zl:g.length<=1056:=by
    have:=zr9 y al;unfold zeF at this;rw[XZ]at this;rw[Paired.length G];lia
   refine⟨_,rfl,_,rfl,sg,pz,_,_,rfl,rfl,s2 _ _ O,ab,X5 (show M.length+g.length<=2000 by lia) "d",λd hd=>?_⟩;have y5:=zc (o:=.lst (M++g)) hd;refine q d _ _ zb ?_ (s1.trans (s2.trans y5));unfold zeF;rw[<- ll];exact zbR (zkF (JF y5 am)) (zkF (JF y5 (by rw[ll];exact G)))
def zsa:t∈zeF ks↔(∃i,i<ks.length/\t=[i])\/∃i j,i<j/\j<ks.length/\zd0 ks i j=true/\t=[i,j]:=by
 unfold zeF Zc zh6;rw[XV,XE,PV];constructor
 .rintro(⟨i,hi,e⟩ | ⟨i,hi,h⟩)
  .exact .inl ⟨i,We.mp hi,e.symm⟩
  .obtain⟨m,a,e⟩:=XE.mp h;obtain⟨h1,h2⟩:=XW.mp a;have:=We.mp h1;exact .inr ⟨i,i+1+m,"a","a",h2,e.symm⟩
 .rintro(⟨i,hi,e⟩ | ⟨i,j,hij,hj,a,e⟩)
  .exact .inl ⟨i,We.mpr hi,e.symm⟩
  .refine .inr ⟨i,We.mpr "a",XE.mpr ⟨j-(i+1),XW.mpr ⟨We.mpr "a",?_⟩,?_⟩⟩
   .rw[show i+1+(j-(i+1))=j by lia];exact a
   .rw[show i+1+(j-(i+1))=j by lia,e]
theorem zqF{α b:Type}{f:α->Option b}{y:b}{t:α}:∀{l:List α} {i:Nat},(∀t∈l.take i,f t=none)->l[i]?=some t->f t=some y->l.findSome? f=some y
 | [],_,_,h,_=>nomatch h
 | a::r,0,_,h,e=>by
  cases h;rw[Op,e]
 | a::r,i+1,h0,h,e=>by
  rw[Op,h0 a XU];exact zqF (λt c=>h0 t (XS _ c)) h e
def stp(rs:AD)(n:Int)(a:List Tg)(b st:AB)(t:List Nat):Option (AB×AB) :=
 if qS (gsT rs n b st (t.map λi=>a.getD i none))=[]/\qT (gsT rs n b st (t.map λi=>a.getD i none))=[] then none else some (qS (gsT rs n b st (t.map λi=>a.getD i none)),qT (gsT rs n b st (t.map λi=>a.getD i none)))
def nxF(rs:AD)(n:Int)(a:List Tg)(b st:AB):Option (AB×AB):=(zeF (jv rs n a)).findSome? (stp rs n a b st)
def AkN(N:Addr->Prop)(H:Hp)(v:V)(k:Ak):Prop:=∃(t l:Addr) (a:AE),v=V.ref t/\N t/\N l/\H t=some (.tup [.int k.1,.ref l])/\H l=some (.lst a)/\Cel H a k.2
def zqG{a:AE}(h:Xk (AkN N H) a ks):Xk (AkV H) a ks:=Paired.imp' (λ_ _ ⟨t,l,c,e,_,_,h1,h2,b⟩=>(dZ t l c e h1 h2 b)) h
def Cel.one(s:∀b o,b≠d->H b=some o->c b=some o)(f:H d=some (.lst xs))(g:Cel H vs cs):Cel c vs cs:=by
 induction g with
 | nil=>exact .nil
 | cons q _ i =>
  obtain⟨a,e,h⟩:=q;exact .cons ⟨a,e,s a _ (λz=>by rw[z,f]at h;cases h) h⟩ i
def zh7(j:H y=some (.lst a))(s:∀b o,b≠y->H b=some o->c b=some o){g:AE}(h:Xk (AkN (· ≠ y) H) g ks):Xk (AkN (· ≠ y) c) g ks :=
 Paired.imp' (λ_ _ ⟨t,l,k,e,d,f,h1,h2,i⟩=>(eG t l k e d f (s _ _ d h1) (s _ _ f h2) (Cel.one s j i))) h
theorem zpR:∀c1 a:AB,WW (.tuple [.list (c1.map zA),.list (a.map zA)]) (.tuple [.list [],.list []])=decide (c1=[]/\a=[])
 | [],[]=>"q"
 | [],c::r=>rfl
 | c::r,d=>rfl
structure zkH (H:Hp)(th la pl fa fc fs:Addr)(ths ls us u w':AE)(tgs:List Tg)(ks:List Ak)(cl st:AB):Prop where
 h1:H th=some (.lst ths)
 tl:ths.length=tgs.length
 h2:H la=some (.lst ls)
 k:Xk (AkV H) ls ks
 h3:H pl=some (.lst us)
 p:Xk (PlR NT H) us (zeF ks)
 f:x9 H fa fc fs u w' cl st
 fi:ztD cl st
structure Q3 (rs:AD)(n:Int)(tgs:List Tg)(cl st:AB)(ths:List Tg)(c1 c2:AB):Prop where
 o:zpQ tgs ths
 p1:c1.Perm (qS (gsT rs n cl st ths))
 p2:c2.Perm (qT (gsT rs n cl st ths))
 x1:c1.Pairwise Cells.lex
 x2:c2.Pairwise Cells.lex
 ne:¬ (c1=[]/\c2=[])
 nx:nxF rs n tgs cl st=some (qS (gsT rs n cl st ths),qT (gsT rs n cl st ths))
structure zbz (N:Addr->Prop)(H:Hp)(r tl d1 d2:Addr)(w1 w2:AE)(c1 c2:AB):Prop where
 tp:H r=some (.tup [.ref tl,.ref d1,.ref d2])
 h1:H d1=some (.lst w1)
 h2:H d2=some (.lst w2)
 e1:Cel H w1 c1
 e2:Cel H w2 c2
 n1:N d1
 n2:N d2
def zkI:Sp:=λv H Q _=>∃(th i j h m fs:Addr) (f o s u w:AE) (d:AD) (n:Int) (b:List Tg) (e st:AB) (L:AA->Bool),v=[.ref th,.ref i,.ref j,.ref h]/\zkH H th i j h m fs f o s u w b (jv d n b) e st/\(zP d).length<=63/\b.length<=32/\b.Nodup/\Q2 (jv d n b) L e st /\
 (nxF d n b e st=none->∀c,zx H c->Q .non c) /\
 ∀(q:List Tg) (c1 g:AB) (r p k l:Addr) (x y:AE) (c:Hp),Q3 d n b e st q c1 g->zbz (λa=>H a=none) c r p k l x y c1 g->zx H c->Q (.ref r) c
def yO:zD ["things","asked","lists","finding","known","left","places","told"] ["things","asked","lists","finding"] (zv J7):=bh
def zeG(T:Txt mg)(Z:Prog K mg)(D:zh K mg "first_step" J7 ["things","asked","lists","finding"] f fd):qm P w K mg base CX0 3 f fd ["things","asked","lists","finding"] zkI:=by
 obtain⟨aT,aS,a1⟩:=Z.known_of;obtain⟨aR,aQ,az⟩:=Z.still_asked;obtain⟨aV,aU,aE⟩:=Z.settled;obtain⟨aX,aW,a2⟩:=Z.gained;have aG:=zhZ (P:=P) (w:=w) (base:=base) T a1;have aF:=zdX (P:=P) (w:=w) (base:=base) T az;have aH:=zlU (P:=P) (w:=w) (base:=base) T a2 aE;refine D.F.ok yO "l" (λaJ A aA s H vs Q E hr h=>?_)
 .revert h;refine gI λth la pl fa fc fs ay ls=>gJ λus u w' J n d M st L z0 X ax aO=>gg λtn tr qn qs=>?_;subst z0;refine⟨_,(ze (qz 4 yO.nd (pc0 aG hr a1 (za (pvS 3) zd))) (ze (qz 5 yO.nd (pcm ["some","known"] [none,some 4] cR (zN (pvS 1)) (pgN 0) qp (pc0 aF hr az (za (pvS 0) (za (pvS 1) zd))))) (ze (qN Xd rfl (zN (pvS 2)) (pgq 6 yO.nd) (ze (qz 7 yO.nd (pc0 aH hr a2 (za (pcm ["place","left"] [none,some 5] cR (zN (pvS 6)) (pgN 0) qp (zQ (zbX (K:=K) "r") (pvS 1) (pvS 0) (λ_ _=>rfl))) zd))) (zg (qH (zI (jT hr.units) (pvS 7) (@qu _ _ _ _ _ (@za _ _ _ _ _ (@qa _ _ _ _ zd) (@za _ _ _ _ _ (@qa _ _ _ _ zd) zd rfl) rfl)) (zT _)) (zg (zF (qu (za (pcm ["place","things"] [none,some 0] cR (zN (pvS 6)) (pgN 0) qp (zQ (zbX (K:=K) "r") (pvS 1) (pvS 0) (λ_ _=>rfl))) (za (zQ qk (pvS 7) zf (λ_ _=>rfl)) (za (zQ qk (pvS 7) zf (λ_ _=>rfl)) zd)))))) zV)))) (@zg _ _ _ (@zF _ _ _ _ Zn))))),?_⟩;ac_nf;refine⟨_,rfl,fa,fc,fs,u,w',M,st,rfl,X.f,X.fi,λkd a9 H1 aM aI hK s1=>?_⟩;refine⟨_,rfl,la,rfl,⟨_,SqL.of (s1 _ _ X.h2)⟩,λy hy=>?_⟩;refine qj (K:=K) (a:=la) (xs:=ls) (λi σ G=>(∃u0,σ=[u0,some (.ref kd)])/\zx H1 G/\∃ys,G y=some (.lst ys)/\Xk (AkN (· ≠ y) G) ys (zct J n M st (d.take i))) (fq ⟨_,rfl⟩ (zc hy) [] zb (.nil)) (λi σ G _ ⟨_,s',_⟩=>SqL.of (s' _ _ (s1 _ _ X.h2))) ?_ ?_
  .rintro i x σ H2 hx ⟨⟨u0,rfl⟩,s2,ys,U,hP⟩;have B:=s1.trans s2;refine gG (λk hk t l us3 z0 ht hl hc=>?_) (Qv X.k hx);subst z0;unfold jv at hk;rw[Xp]at hk;refine fR (λtg hg z0=>?_) (Vr.mp hk);subst z0;refine yE ⟨_,rfl,_,rfl,t,l,kd,_,us3,_,M,st,a9,rfl,B _ _ ht,B _ _ hl,hc.mono B,X5 zby.length_le (X5 ax "d"),s2 _ _ aI,hK,λr l2 aC H4 aN an ab a7 a3 Y=>?_⟩;have ah:=Y _ _ U;have au:r≠y:=zaO ab ah (by intro q;cases q);have ar:l2≠y:=λz=>by
    rw[z,U]at an;cases an
   have aD:ys.length<=32:=by
    rw[Paired.length hP,ZB,XH];lia
   refine eu ys ah (XM aD "d") ⟨_,rfl⟩ (λb o e'=>?_) (dY (ys++[.ref r]) zb ?_)
   .rw[zq (zj e' hy)];exact Y _ _ (s2 _ _ e')
   .rw[take_snoc hg,zct,XD];have kk:∀b o,b≠y->H4 b=some o->upd H4 y (.lst (ys++[.ref r])) b=some o:=λb o nb e=>by
     rw[zq nb];exact e
    exact Paired.snoc (zh7 U (λb o nb e=>by rw[zq nb];exact Y _ _ e) hP) (eG r l2 aC rfl au ar (kk _ _ au ab) (kk _ _ ar a7) (Cel.into y _ ah a3))
  refine λσ H2=>fY λ_ s2 ys U hP=>?_;rw[Paired.length X.k,jv,ZB,XF]at hP;have hV:=zqG hP;have B:=s1.trans s2;refine⟨_,rfl,pl,rfl,⟨_,SqL.of (B _ _ X.h3)⟩,?_⟩;refine yi (K:=K) (a:=pl) (xs:=us) (λi σ G=>∃(w6 w7:Option V),σ=[some (.ref th),some (.ref la),some (.ref pl),some (.ref fa),some (.ref kd),some (.ref y),w6,w7]/\zx H2 G/\∀t∈(zeF (jv J n d)).take i,stp J n d M st t=none)
   (ef _ _ rfl (zx.refl _) (λ_ h=>nomatch h)) (λi σ G _ ⟨_,_,_,s',_⟩=>SqL.of (s' _ _ (B _ _ X.h3))) ?_ ?_
  .refine λi x σ H3 hx=>fS λw6 w7 z0 s3 no=>?_;subst z0;refine fR (λt N=>fT λta z0 _ aq=>?_) (Qv X.p hx);subst z0;have po:=zsa.mp (X7 N);have ai:=B.trans s3;have ac:=ai _ _ aq;have kl:(jv J n d).length=d.length:=ZB _;rw[kl]at po;have gm:∀j,j<d.length->d[j]?=some (d.getD j none)/\d.getD j none∈d:=λj hj=>by
    have e:d[j]?=some (d.getD j none):=by
     rw[XN,X0 hj];rfl
    exact⟨e,X7 e⟩
   have tb:∀j∈t,j<d.length:=λj hj=>by
    rcases po with ⟨i,hi,rfl⟩ | ⟨i,j',al,am,_,rfl⟩
    .rw[Xy.mp hj];exact hi
    .rcases XG.mp hj with rfl | hj
     .lia
     .rw[Xy.mp hj];exact am
   have aB:t.length=1\/t.length=2:=by
    rcases po with ⟨i,hi,rfl⟩ | ⟨i,j',al,am,_,rfl⟩
    .exact .inl rfl
    .exact .inr rfl
   have to:zpQ d (t.map λi=>d.getD i none):=by
    rcases po with ⟨i,hi,rfl⟩ | ⟨i,j,al,hj,_,rfl⟩
    .exact .inl ⟨_,(gm i hi).2,rfl⟩
    .refine .inr ⟨_,_,(gm i "a").2,(gm j hj).2,λe=>?_,rfl⟩;have a:=(gm i "a").1;rw[e,<- (gm j hj).1]at a;have:=(List.getElem?_inj "a" tn).mp a;lia
   refine⟨_,rfl,ta,rfl,⟨_,SqL.of ac⟩,λg hg=>?_⟩;refine qj (K:=K) (a:=ta) (xs:=iL (nlI t)) (λr m G=>∃(u0:Option V) (gv:AE),m=[u0,some (.ref y)]/\zx H3 G/\G g=some (.lst gv)/\Xk (AkV H3) gv (zct J n M st ((t.take r).map λi=>d.getD i none))) (dW _ [] rfl (zc hg) zb (.nil)) (λr m G _ ⟨_,_,_,s',_⟩=>SqL.of (s' _ _ ac)) ?_ ?_
   .refine λr v m H4 hv=>fQ λu0 gv z0 Y af hG=>?_;subst z0;refine fR (λx0 O z0=>?_) (ints_get hv);subst z0;rw[Xp]at O;refine fR (λj hj z0=>?_) (Vr.mp O);subst z0;have jm:=tb j (X7 hj);have ek:(zct J n M st d)[j]?=some (zfs M st (akT J n (d.getD j none))):=by
     rw[Xp,(gm j jm).1];rfl
    refine fR (λv2 ag r2=>?_) (znX (zdZ s3 hV) ek);unfold xV;refine Qh ?_;have r1:r<t.length:=(X6.mp hj).1;refine⟨_,rfl,_,rfl,y,_,_,_,rfl,rfl,SqL.of (Y _ _ (s3 _ _ U)),JZ ag,_,af,?_,_,gv++[v2],rfl,λb o e=>?_,zb,?_⟩
    .rw[Paired.length hG,ZB,ZB,XH];exact Xq (show min r t.length<100 by lia) "d"
    .rw[zq (zj e hg)];exact Y _ _ e
    .rw[take_snoc hj,XD,zct,XD];exact Paired.snoc hG r2
   refine λm H4=>fQ λu0 gv z0 Y af hG=>?_;subst z0;rw[ZB,ZB,XF]at hG;have av:=ai.trans Y;refine eU g gv (zct J n M st (t.map λi=>d.getD i none)) rfl af (zdZ Y hG) (by rw[ZB,ZB];exact aB) ⟨zP J,ax,λk hk=>?_⟩ (tr.ok to).2 (λtt d1 d2 w1 w2 c1 c2 H5 f1 f2 aK k1 k2 k3 g1 g2 p1 p2 x1 x2 s5=>?_)
   .obtain⟨tg,_,rfl⟩:=XE.mp hk;exact⟨zgq J n M st tg,λc hc=>zby.subset (zh4.mp hc).1⟩
   refine⟨_,rfl,xo,λe1 a4=>⟨xo,λe2 a5=>⟨yL,λe3 a6=>?_⟩⟩⟩;have y1:=zc (o:=.lst []) a4;have y2:=zc (o:=.lst []) a5;have y3:=zc (o:=.tup [.ref e1,.ref e2]) a6;have I:=y1.trans (y2.trans y3);have aw:=s5.trans I;refine dW (.tuple [.list (c1.map zA),.list (c2.map zA)]) (.tuple [.list [],.list []]) (.tup (SqT.of (I _ _ k1)) (.cons (.lst (SqL.of (I _ _ k2)) (zjo (g1.mono I))) (.cons (.lst (SqL.of (I _ _ k3)) (zjo (g2.mono I))) .nil))) (.tup (SqT.of zb) (.cons (.lst (SqL.of (y3 _ _ (y2 _ _ zb))) .nil) (.cons (.lst (SqL.of (y3 _ _ zb)) .nil) .nil))) ⟨?_,rfl,?_⟩ ⟨_,rfl,?_⟩
   .show (Wv (c1.map zA)&&(Wv (c2.map zA)&&true))=true;rw[zbm,zbm];rfl
   .show max (Wl (c1.map zA)+1) (max (Wl (c2.map zA)+1) 0)+1<=64;have a:=zi9 c1;have b:=zi9 c2;lia
   rw[bw rfl,zpR];by_cases he:c1=[]/\c2=[]
   .refine qZ (by rw[br he];rfl) (ef _ _ rfl (s3.trans (Y.trans aw)) (λt' ht'=>?_));rw[XC,N]at ht';rcases XV.mp ht' with ht' | ht'
    .exact no t' ht'
    .rw[Xy.mp ht'];exact bw ⟨List.nil_perm.mp (he.1 ▸ p1),List.nil_perm.mp (he.2 ▸ p2)⟩
   .refine ju (by rw[bf he];rfl) ?_;have nx:nxF J n d M st=some (qS (gsT J n M st (t.map λi=>d.getD i none)),qT (gsT J n M st (t.map λi=>d.getD i none))):=zqF no N (bq λ(z:qS _=[]/\qT _=[])=>he ⟨List.perm_nil.mp (z.1 ▸ p1),List.perm_nil.mp (z.2 ▸ p2)⟩);generalize upd (upd (upd H5 e1 (.lst [])) e2 (.lst [])) e3 (.tup [.ref e1,.ref e2])=H6 at *
    have aj:=ai.trans (Y.trans aw);have ae:=aj _ _ aq;refine⟨_,rfl,ta,rfl,⟨_,SqL.of ae⟩,λtl N=>?_⟩;refine qj (K:=K) (a:=ta) (xs:=iL (nlI t)) (λr m G=>∃(u0:Option V) (tv:AE),m=[u0,some (.ref th)]/\zx H6 G/\G tl=some (.lst tv)/\tv.length<=r) (dW _ [] rfl (zc N) zb (XQ _)) (λr m G _ ⟨_,_,_,s',_⟩=>SqL.of (s' _ _ ae)) ?_ ?_
    .refine λr v m H7 hv=>fQ λu0 tv z0 s7 ao hT=>?_;subst z0;obtain⟨x0,O,rfl⟩:=ints_get hv;rw[Xp]at O;obtain⟨j,hj,rfl⟩:=Vr.mp O;have jm:=tb j (X7 hj);have aP:=X.tl;obtain⟨v2,ag⟩:∃v,ay[j]?=some v:=⟨_,X0 "a"⟩;unfold xV;refine Qh ?_;have r1:r<t.length:=(X6.mp hj).1;refine⟨_,rfl,_,rfl,th,_,_,_,rfl,rfl,SqL.of (s7 _ _ (aj _ _ X.h1)),JZ ag,_,ao,XM (show tv.length<=100 by lia) "d",_,tv++[v2],rfl,λb o e=>?_,zb,by rw[XZ];exact Sq hT⟩;rw[zq (zj e N)];exact s7 _ _ e
    refine λm H7=>fQ λu0 tv z0 s7 ao hT=>?_;subst z0;have ak:=I.trans s7;refine⟨_,rfl,tt,_,0,_,rfl,rfl,SqT.of (ak _ _ k1),rfl,_,rfl,tt,_,1,_,rfl,rfl,SqT.of (ak _ _ k1),rfl,zeo,λr a8=>?_⟩;have y8:=zc (o:=.tup [.ref tl,.ref d1,.ref d2]) a8;have aa:=ak.trans y8;exact qs _ c1 c2 r tl d1 d2 w1 w2 _ ⟨to,p1,p2,x1,x2,he,nx⟩ ⟨zb,aa _ _ k2,aa _ _ k3,g1.mono aa,g2.mono aa,av.free f1,av.free f2⟩ (aj.trans (s7.trans y8))
  .refine λσ H3=>fS λw6 w7 z0 s3 no=>?_;subst z0;rw[Paired.length X.p,XF]at no;exact qn (List.findSome?_eq_none_iff.mpr no) H3 (B.trans s3)
def sub(rs:AD)(l:AB):AB:=(zP rs).filter λc=>decide (c∈l)
def zh9(rs:AD)(n:Int)(b:List Tg):Nat->AB->AB->AB×AB
 | 0,a,st=>(a,st)
 | m+1,a,st=>match nxF rs n b a st with
  | none=>(a,st)
  | some x=>zh9 rs n b m (sub rs (a++x.1)) (sub rs (st++x.2))
structure Fnd (rs:AD)(n:Int)(tgs:List Tg)(cl st:AB):Prop where
 tr:∀L,Q2 (jv rs n tgs) L [] []->Q2 (jv rs n tgs) L cl st
 x1:cl.Pairwise Cells.lex
 x2:st.Pairwise Cells.lex
 s1:∀c∈cl,c∈zP rs
 s2:∀c∈st,c∈zP rs
structure Way (rs:AD)(n:Int)(tgs:List Tg)(m:Nat)(cl st:AB):Prop extends Fnd rs n tgs cl st where
 lt:(zP rs).length<cl.length+st.length+m
 out:zh9 rs n tgs m cl st=zh9 rs n tgs 64 [] []
def zjq{cs:AB}(n:cs.Nodup)(h:∀c∈cs,c∈zP rs):cs.length<=(zP rs).length:=n.length_le_of_subset (λc a=>h c a:cs ⊆ zP rs)
section
variable {rs:AD}{n:Int}{tgs ths:List Tg}{m:Nat}{cl st c1 c2 q1 q2:AB}{L:AA->Bool}
def Fnd.len(W:Fnd rs n tgs cl st)(h:Q2 (jv rs n tgs) L [] []):cl.length+st.length<=(zP rs).length:=by
 rw[<- XZ];refine zjq (WE.mpr ⟨qq W.x1,qq W.x2,λa d b f e=>?_⟩) λc g=>(XV.mp g).elim (W.s1 c) (W.s2 c);subst e;exact(W.tr L h).ap a d f
def Q3.g1(o:Q3 rs n tgs cl st ths c1 c2):∀c∈c1,c∈zP rs/\c ∉ st/\c ∉ cl:=λc a=>zkE o.o ((Qo _).subset (o.p1.mem_iff.mp a))
def Q3.g2(o:Q3 rs n tgs cl st ths c1 c2):∀c∈c2,c∈zP rs/\c ∉ st/\c ∉ cl:=λc a=>zkE o.o ((Qp _).subset (o.p2.mem_iff.mp a))
def zia{b:AB}(f:a.Pairwise Cells.lex)(g:b.Pairwise Cells.lex)(h:∀c∈b,c ∉ a):(a++b).Nodup:=WE.mpr ⟨qq f,qq g,λc i d j e=>by
 subst e;exact h c j i⟩
def Fnd.nd1(W:Fnd rs n tgs cl st)(o:Q3 rs n tgs cl st ths c1 c2):(cl++c1).Nodup:=zia W.x1 o.x1 λc a=>(o.g1 c a).2.2
def Fnd.nd2(W:Fnd rs n tgs cl st)(o:Q3 rs n tgs cl st ths c1 c2):(st++c2).Nodup:=zia W.x2 o.x2 λc a=>(o.g2 c a).2.1
def Fnd.l1(W:Fnd rs n tgs cl st)(o:Q3 rs n tgs cl st ths c1 c2):cl.length+c1.length<=(zP rs).length:=by
 rw[<- XZ];exact zjq (W.nd1 o) λc a=>(XV.mp a).elim (W.s1 c) λz=>(o.g1 c z).1
def Fnd.l2(W:Fnd rs n tgs cl st)(o:Q3 rs n tgs cl st ths c1 c2):st.length+c2.length<=(zP rs).length:=by
 rw[<- XZ];exact zjq (W.nd2 o) λc a=>(XV.mp a).elim (W.s2 c) λz=>(o.g2 c z).1
def sub_eq{l d:AB}(x:q.Pairwise Cells.lex)(s:∀c∈q,c∈zP rs)(e:q.Perm (l++c1))(p:c1.Perm d):q=sub rs (l++d):=znV ((WV (qq x) ((jW rs).sublist Xn)).mpr λc=>by
 rw[XW,bu,XV,<- p.mem_iff,<- XV,<- e.mem_iff];exact⟨λh=>⟨s c h,h⟩,λh=>h.2⟩) x ((znW rs).sublist Xn)
def Way.next(W:Way rs n tgs m cl st)(h:Q2 (jv rs n tgs) L [] [])(o:Q3 rs n tgs cl st ths c1 c2)(b:q1.Perm (cl++c1))(d:q2.Perm (st++c2))(u1:(q1.map toI).Pairwise λp q=>lt2 q p=false)(i:(q2.map toI).Pairwise λp q=>lt2 q p=false):∃e,e<m/\Way rs n tgs e q1 q2:=by
 have F:Fnd rs n tgs q1 q2:=by
  refine⟨λL h=>?_,zgp (b.nodup_iff.mpr (W.nd1 o)) u1,zgp (d.nodup_iff.mpr (W.nd2 o)) i,λc a=>(XV.mp (b.mem_iff.mp a)).elim (W.s1 c) λz=>(o.g1 c z).1,λc a=>(XV.mp (d.mem_iff.mp a)).elim (W.s2 c) λz=>(o.g2 c z).1⟩;have t:=W.tr L h;have r:=(t.ok o.o).1;exact⟨λc a=>(XV.mp (b.mem_iff.mp a)).elim (t.no c) λz=>r.clear (o.p1.mem_iff.mp z),λc a=>(XV.mp (d.mem_iff.mp a)).elim (t.ye c) λz=>r.stone (o.p2.mem_iff.mp z),t.ct⟩
 have lt:=W.lt;have l:=W.len h;cases m with
 | zero=>lia
 | succ m =>
  refine⟨m,"a",F,?_,?_⟩
  .have f:=b.length_eq;have g:=d.length_eq;rw[XZ]at f g;have j:1<=c1.length+c2.length:=by
    by_cases z:c1.length+c2.length=0
    .exact absurd ⟨Vv.mp "a",Vv.mp "a"⟩ o.ne
    .lia
   lia
  .rw[<- W.out];conv=>rhs;unfold zh9
   rw[o.nx,sub_eq F.x1 F.s1 b o.p1,sub_eq F.x2 F.s2 d o.p2]
def Way.fin(W:Way rs n tgs m cl st)(h:nxF rs n tgs cl st=none):zh9 rs n tgs 64 [] []=(cl,st):=by
 rw[<- W.out];cases m with
 | zero=>rfl
 | succ m =>
  unfold zh9;rw[h]
end
theorem zbz.into{c1:AB}(a:H d=some (.lst b))(x:zbz (· ≠ d) H r g e f h i c1 c):zbz (· ≠ d) (upd H d (.lst ys)) r g e f h i c1 c :=
 ⟨by rw[zq (zaO x.tp a (by intro q;cases q))];exact x.tp,by rw[zq x.n1];exact x.h1,by rw[zq x.n2];exact x.h2,Cel.into d _ a x.e1,Cel.into d _ a x.e2,x.n1,x.n2⟩
def zbz.imp{f:AE}{c1:AB}(s:∀a,N a->M a)(x:zbz N H r e c d f g c1 b):zbz M H r e c d f g c1 b:=⟨x.tp,x.h1,x.h2,x.e1,x.e2,s _ x.n1,s _ x.n2⟩
def NxV(H:Hp)(sa:Addr)(rs:AD)(n:Int)(a:List Tg)(c st:AB)(v:V):Prop:=(v=.non/\nxF rs n a c st=none)\/∃(g:List Tg) (c1 b:AB) (r f d e:Addr) (h i:AE),Q3 rs n a c st g c1 b/\v=.ref r/\zbz (· ≠ sa) H r f d e h i c1 b
def zuv{R:Prop}{G:V->Hp->Prop}(A:V->Hp->Prop)(h:(∀v H,A v H->G v H)->R)(k:∀v H,A v H->G v H):R:=h k
def zn1:Sp:=λj H Q _=>∃(p l th:Addr) (b:AD) (n:Int) (d:AE) (a:List Tg) (L:AA->Bool),j=[.ref p,.ref th]/\qd H p l b n/\Rows bd.cps.toList b/\H th=some (.lst d)/\Xk (zlR H) d a/\a.length<=32/\a.Nodup/\(∀c,some c∈a->c∈qD b)/\(zP b).length<=63/\Q2 (jv b n a) L [] [] /\
 ∀(t sa g h fs:Addr) (i k:AE) (f st:AB) (e:Hp),e t=some (.tup [.ref sa,.ref g])->x9 e g h fs i k f st->H h=none->Fnd b n a f st->zh9 b n a 64 [] []=(f,st)->zx H e->Q (.ref t) e
def zcu(R:Rows bd.cps.toList rs)(h:c∈zP rs):c.1<8/\c.2<8:=by
 obtain⟨t,k,g,hk,_,_⟩:=qi h;have a:=R.hi;obtain⟨m,_,i,f⟩:=R.ex;have e:=(f t (X7 g)).len;have b:=(X6.mp g).1;have d:=(X6.mp hk).1;rw[XX]at d;lia
def jF:zD ["board","things","asked","lists","steps","finding","step"] ["board","things"] (zv ZV):=bh
def zgr(T:Txt mg)(Z:Prog K mg)(D:zh K mg "all_steps" ZV ["board","things"] f fd):qm P w K mg base CX0 4 f fd ["board","things"] zn1:=by
 obtain⟨QX,YD,zR⟩:=Z.around;obtain⟨yZ,yt,zw⟩:=Z.sign_at;obtain⟨yu,jO,zB⟩:=Z.cells_of;obtain⟨b8,b7,qJ⟩:=Z.closed;obtain⟨QY,Ql,qf⟩:=Z.number_at;obtain⟨yR,yK,zM⟩:=Z.closed_around;obtain⟨bE,bD,aN⟩:=Z.asked_by;obtain⟨bA,b9,aK⟩:=Z.place_lists;obtain⟨bC,bB,Qq⟩:=Z.first_step;have bx:=zh2 (P:=P) (w:=w) (base:=base) T aN zR zw zB qJ qf zM;have bv:=zd1 (P:=P) (w:=w) (base:=base) T aK;have aM:=zeG (P:=P) (w:=w) (base:=base) T Z Qq;refine D.F.ok jF "l" (λb3 A bb s H vs Q E hr h=>?_)
 .revert h;refine fU λp l th U=>gk λn ag g L z0 B R an=>gc λhT aI tn aT=>fX λav ab q=>?_;subst z0;refine⟨_,(ze (psC 2 jF.nd ["thing","board"] [none,some 0] cR (zN (pvS 1)) (pgN 0) qp (pc0 bx hr aN (za (pvS 1) (za (pvS 0) zd)))) (ze (qz 3 jF.nd (pc0 bv hr aK (za (pvS 2) zd))) (@ze _ _ _ _ _ (@qv _ _ 4 _ _ _ _ jF.nd rfl (Wm rfl) (@qa _ _ _ _ zd) "r" (.inr rfl)) (@ze _ _ _ _ _ (@qv _ _ 5 _ _ _ _ jF.nd rfl (Wm rfl) (@qu _ _ _ _ _ (@za _ _ _ _ _ (@qa _ _ _ _ zd) (@za _ _ _ _ _ (@qa _ _ _ _ zd) zd rfl) rfl)) "r" (.inr rfl)) (ze (qz 6 jF.nd (pc0 aM hr Qq (za (pvS 1) (za (pvS 2) (za (pvS 3) (za (pvS 5) zd)))))) (ze (zgM Xd (zI zoL (pvS 6) Zn (zT _)) (ze (jA (JK WX Wo Wn jU (pvS 4) (za (pvS 6) zd))) (ze (qz 5 jF.nd (qu (za (pb1 GS.Jq T.Zx VV (zC JI (zQ qk (pvS 5) zf (λ_ _=>rfl)) (zQ qk (pvS 6) zf (λ_ _=>rfl)))) (za (pb1 GS.Jq T.Zx VV (zC JI (zQ qk (pvS 5) zf (λ_ _=>rfl)) (zQ qk (pvS 6) zf (λ_ _=>rfl)))) zd)))) (zg (qz 6 jF.nd (pc0 aM hr Qq (za (pvS 1) (za (pvS 2) (za (pvS 3) (za (pvS 5) zd)))))))))) (zg (zF (qu (za (pvS 4) (za (pvS 5) zd))))))))))),?_⟩;ac_nf;have kl:(jv U n g).length=g.length:=by
   unfold jv;rw[ZB]
  refine⟨_,rfl,th,rfl,⟨_,SqL.of an⟩,λla a6=>?_⟩;refine qj (K:=K) (a:=th) (xs:=ag) (λi σ H'=>∃(u0:Option V) (ys:AE),σ=[u0,some (.ref p)]/\zx H H'/\H' la=some (.lst ys)/\Xk (AkN (· ≠ la) H') ys (jv U n (g.take i))) (dW _ [] rfl (zc a6) zb (.nil)) (λi σ H' _ ⟨_,_,_,s',_⟩=>SqL.of (s' _ _ an)) ?_ ?_
  .refine λi x σ H2 hx=>fQ λu0 ys z0 s2 aq hP=>?_;subst z0;obtain⟨tg,aC,aV⟩:=Qv hT hx;have ho:∀c,tg=some c->c∈qD U:=λc e=>aT c (by rw[<- e];exact X7 aC);unfold xV;refine Qh ?_;refine⟨_,rfl,_,rfl,p,l,U,n,x,tg,rfl,B.mono s2,R,aV.mono s2,ho,λt l2 us3 H3 f1 f2 aB aS b0 s3=>?_⟩;have ar:=s3 _ _ aq;have n1:t≠la:=zaO aB ar (by intro q;cases q);have n2:l2≠la:=λz=>by
    rw[z,aq]at f2;cases f2
   have yl:ys.length<=32:=by
    rw[Paired.length hP];unfold jv;rw[ZB,XH];lia
   refine fB ys ar (XM yl "d") _ (ys++[.ref t]) rfl (λb o e'=>?_) zb ?_
   .rw[zq (zj e' a6)];exact s3 _ _ (s2 _ _ e')
   .unfold jv at *
    rw[take_snoc aC,XD];refine Paired.snoc (zh7 aq (λb o nb e=>by rw[zq nb];exact s3 _ _ e) hP) (eG t l2 us3 rfl n1 n2 ?_ ?_ (Cel.into la _ ar b0))
    .rw[zq n1];exact aB
    .rw[zq n2];exact aS
  refine λσ H2=>fQ λu0 ys z0 s2 al hP=>?_;subst z0;rw[Paired.length hT,XF]at hP;have hV:=zqG hP;have aZ:∀k∈jv U n g,k.2.length<=64:=λk hk=>by
   obtain⟨tg,_,rfl⟩:=XE.mp hk;exact X5 zby.length_le (X5 av "d")
  refine⟨_,rfl,la,ys,jv U n g,rfl,al,hV,"a",aZ,λpl us H3 b1 aU s3=>?_⟩;refine⟨xo,λsa aA=>⟨xo,λj aj=>⟨xo,λG ax=>⟨yL,λN b2=>?_⟩⟩⟩⟩;have y1:=zc (o:=.lst []) aA;have y2:=zc (o:=.lst []) aj;have y3:=zc (o:=.lst []) ax;have y4:=zc (o:=.tup [.ref j,.ref G]) b2;have b4:=s2.trans (s3.trans (y1.trans (y2.trans (y3.trans y4))));have n1:j≠sa:=λe=>by
   rw[e,zb]at aj;cases aj
  have n2:G≠sa:=λe=>by
   rw[e,y2 _ _ zb]at ax;cases ax
  have F0:x9 (upd (upd (upd (upd H3 sa (.lst [])) j (.lst [])) G (.lst [])) N (.tup [.ref j,.ref G])) N j G [] [] [] []:=⟨zb,y4 _ _ (y3 _ _ zb),y4 _ _ zb,.nil,.nil⟩;have am:(upd (upd (upd (upd H3 sa (.lst [])) j (.lst [])) G (.lst [])) N (.tup [.ref j,.ref G])) sa=some (.lst []):=y4 _ _ (y3 _ _ (y2 _ _ zb));have aH:zx H3 (upd (upd (upd (upd H3 sa (.lst [])) j (.lst [])) G (.lst [])) N (.tup [.ref j,.ref G])):=y1.trans (y2.trans (y3.trans y4));generalize upd (upd (upd (upd H3 sa (.lst [])) j (.lst [])) G (.lst [])) N (.tup [.ref j,.ref G])=H4 at *
  have first:∀(Hc:Hp) (fa fc fs:Addr) (u w':AE) (cl st:AB),zx H3 Hc->x9 Hc fa fc fs u w' cl st->Fnd U n g cl st->zkH Hc th la pl fa fc fs ag ys us u w' g (jv U n g) cl st:=by
   intro Hc fa fc fs u w' cl st sc F W;have bi:=s2.trans (s3.trans sc);have aG:=s3.trans sc;have wl:=W.len ab;exact⟨bi _ _ an,Paired.length hT,aG _ _ al,zdZ aG hV,sc _ _ b1,JF sc aU,F,⟨λc hc=>zcu R (W.s1 c hc),λc hc=>zcu R (W.s2 c hc),"a","a"⟩⟩
  have ai:∀{Hc:Hp} {Y:AE} {d:Addr},Hc sa=some (.lst Y)->Hc d=none->d≠sa:=λh f e=>by
   rw[e,h]at f;cases f
  have W0:Way U n g 64 [] []:=⟨⟨λ_ h=>h,.nil,.nil,(λ_ h=>nomatch h),λ_ h=>nomatch h⟩,by show _<0+0+64;lia,rfl⟩;refine' zuv (λv H5=>NxV H5 sa U n g [] [] v/\zx H4 H5) (λgo=>?gTail) ?gRest
  case gTail =>
   refine⟨_,rfl,_,rfl,_,rfl,_,rfl,th,la,pl,N,j,G,ag,ys,us,[],[],U,n,g,[],[],L,rfl,first H4 N j G [] [] [] [] aH F0 W0.toFnd,av,aI,tn,ab,?gN,λts c1 c2 r tl d1 d2 w1 w2 H' ok hx s'=>?gS⟩
   case gS =>
    have hv:NxV H' sa U n g [] [] (.ref r):=.inr (er ts c1 c2 r (eZ tl d1 d2 w1 w2 ok rfl (hx.imp λ_=>ai am)))
    clear hx
    revert hv
    generalize V.ref r=v
    intro hv
    exact go v H' ⟨hv,s'⟩
   case gN=>exact λnx H' s'=>go _ _ ⟨.inl ⟨rfl,nx⟩,s'⟩
  rintro v H5 ⟨hv,au⟩;refine⟨λm σ H'=>∃(fa fc fs:Addr) (Y u w':AE) (cl st:AB) (v:V),σ=[some (.ref p),some (.ref th),some (.ref la),some (.ref pl),some (.ref sa),some (.ref fa),some v]/\zx H3 H'/\H' sa=some (.lst Y)/\Y.length<=cl.length+st.length/\x9 H' fa fc fs u w' cl st/\fc≠sa/\fs≠sa/\H3 fc=none/\Way U n g m cl st/\NxV H' sa U n g cl st v,(er 64 N j G (fk [] [] [] [] [] v rfl (aH.trans au) (au _ _ am) (XQ _) (eF (F0.mono au) n1 n2 (y1.free aj) W0 hv))),?_⟩;intro m σ H6 hh;refine GS.via λGG ay=>?_;revert hh;refine gJ λfa fc fs Y u w' cl st v z0 s6 J b5=>gj λF nc ns nf W hv=>?_;subst z0;have wl:=W.len ab;rcases hv with ⟨rfl,nx⟩ | ⟨ts,c1,c2,r,tl,d1,d2,w1,w2,ok,rfl,hx⟩
  .refine ay ⟨_,rfl,rfl,_,rfl,?_⟩;refine qZ "d" ?_;refine⟨_,rfl,_,rfl,yL,λtt aY=>?_⟩;have y:=zc (o:=.tup [.ref sa,.ref fa]) aY;exact q tt sa fa fc fs u w' cl st _ zb (F.mono y) ((s2.trans s3).free nf) W.toFnd (W.fin nx) (s2.trans (s3.trans (s6.trans y)))
  .refine ay ⟨_,rfl,rfl,_,rfl,?_⟩;refine ju (by rw[bf (λz=>nomatch z)];rfl) ?_;refine dY _ (fun bF H' h=>h) ?_;refine⟨_,rfl,.inl ⟨rfl,_,SqL.of J⟩,_,rfl,sa,_,_,rfl,rfl,J,XM (show Y.length<=63 by lia) "d",?_⟩;have F7:x9 (upd H6 sa (.lst (Y++[.ref r]))) fa fc fs u w' cl st:=⟨by rw[zq (zaO F.tp J (by intro q;cases q))];exact F.tp,by rw[zq nc];exact F.h1,by rw[zq ns];exact F.h2,Cel.into sa _ J F.c1,Cel.into sa _ J F.c2⟩;have O:zbz (· ≠ sa) (upd H6 sa (.lst (Y++[.ref r]))) r tl d1 d2 w1 w2 c1 c2:=hx.into J;have s7:zx H3 (upd H6 sa (.lst (Y++[.ref r]))):=λb o e=>by
    rw[zq (zj e aA)];exact s6 _ _ e
   have ae:upd H6 sa (.lst (Y++[.ref r])) sa=some (.lst (Y++[.ref r])):=zb;generalize upd H6 sa (.lst (Y++[.ref r]))=H7 at *
   have m1:=W.l1 ok;have m2:=W.l2 ok;have a1:=F7.c1.length;have a2:=F7.c2.length;have a3:=O.e1.length;have a4:=O.e2.length;refine⟨_,rfl,fa,_,0,_,rfl,rfl,SqT.of F7.tp,rfl,_,rfl,r,_,1,_,rfl,rfl,SqT.of O.tp,rfl,fc,d1,_,_,rfl,rfl,F7.h1,O.h1,X5 (show u.length+w1.length<=100 by lia) "d",λx hx=>?_⟩;have y1:=zc (o:=.lst (u++w1)) hx;refine eB x _ _ rfl (SqL.of zb) (Cel.tup2 ((F7.c1.append O.e1).mono y1)) (by rw[XZ];lia) (λI u1 z1 ac aW bc up1=>?_);refine fR (λq1 z0 a8=>?_) (zbn bc);subst z0;have y2:=zc (o:=.lst u1) ac;have ah:=y1.trans y2;refine⟨_,rfl,fa,_,1,_,rfl,rfl,SqT.of (ah _ _ F7.tp),rfl,_,rfl,r,_,2,_,rfl,rfl,SqT.of (ah _ _ O.tp),rfl,fs,d2,_,_,rfl,rfl,ah _ _ F7.h2,ah _ _ O.h2,X5 (show w'.length+w2.length<=100 by lia) "d",λx' ao=>?_⟩;have y3:=zc (o:=.lst (w'++w2)) ao;have aw:=ah.trans y3;refine eB x' _ _ rfl (SqL.of zb) (Cel.tup2 ((F7.c2.append O.e2).mono aw)) (by rw[XZ];lia) (λM u2 z2 ak aX be bn=>?_);refine fR (λq2 z0 a9=>?_) (zbn be);subst z0;have y4:=zc (o:=.lst u2) ak;have bt:=aw.trans y4;refine⟨yL,λaa az=>?_⟩;have y5:=zc (o:=.tup [.ref I,.ref M]) az;have aJ:=bt.trans y5;have a5:=(y3.trans (y4.trans y5)) _ _ (zb (H:=upd H7 x (.lst (u++w1))) (a:=I) (o:=.lst u1));have F8:x9 _ aa I M u1 u2 q1 q2:=⟨zb,a5,y5 _ _ zb,Cel.mono (y2.trans (y3.trans (y4.trans y5))) (jD aW),Cel.mono (y4.trans y5) (jD aX)⟩;have aD:I≠sa:=ai (y1 _ _ ae) ac;have aF:M≠sa:=ai (aw _ _ ae) ak;refine fR (λm' a7 W8=>?_) (W.next ab ok a8 a9 (up1 (by rw[XZ];lia)) (bn (by rw[XZ];lia)));have af:=aJ _ _ ae;have aE:=(s7.trans y1).free ac;have s8:=s7.trans aJ;generalize upd (upd (upd (upd (upd H7 x (.lst (u++w1))) I (.lst u1)) x' (.lst (w'++w2))) M (.lst u2)) aa (.tup [.ref I,.ref M])=H8 at *
   have k1:=a8.length_eq;have k2:=a9.length_eq;rw[XZ]at k1 k2;have k3:1<=c1.length+c2.length:=by
    by_cases z:c1.length+c2.length=0
    .exact absurd ⟨Vv.mp "a",Vv.mp "a"⟩ ok.ne
    .lia
   have b6:=W8.len ab;refine⟨_,rfl,_,rfl,_,rfl,_,rfl,th,la,pl,aa,I,M,ag,ys,us,u1,u2,U,n,g,q1,q2,L,rfl,first H8 aa I M u1 u2 q1 q2 s8 F8 W8.toFnd,av,aI,tn,W8.tr L ab,λnx H9 s9=>?_,λbm aO aP r' bj aQ aR bo bp H9 ba ao s9=>?_⟩
   .exact dY m' a7 (er aa I M (Y++[.ref r]) (eW u1 u2 q1 q2 (.non) rfl (s8.trans s9) (s9 _ _ af) (by rw[XZ];show Y.length+1<=_;lia) (eF (F8.mono s9) aD aF aE W8 (.inl ⟨rfl,nx⟩))))
   .exact dY m' a7 (er aa I M (Y++[.ref r]) (eW u1 u2 q1 q2 (.ref r') rfl (s8.trans s9) (s9 _ _ af) (by rw[XZ];show Y.length+1<=_;lia) (eF (F8.mono s9) aD aF aE W8 (.inr (er bm aO aP r' (eZ bj aQ aR bo bp ba rfl (ao.imp λ_=>ai af)))))))
def nbC(rs:AD):AB:=(qD rs).filter λo=>!(clA rs o).isEmpty
def zcv(rs:AD):List (Option AA):=(nbC rs).map some++[none]
def Lay.tr(h:Lay rs n L):Q2 (jv rs n (zcv rs)) L [] []:=by
 refine⟨(λ_ z=>nomatch z),(λ_ z=>nomatch z),λk hk=>?_⟩;obtain⟨c,ht,rfl⟩:=XE.mp hk;rcases XV.mp ht with ht | ht
 .obtain⟨o,b,rfl⟩:=XE.mp ht;exact h.o o (XW.mp b).1
 .rw[Xy.mp ht];exact h.a
def Big.all(B:Big rs){gs:List AB}(G:Parts.Good (clA rs) (qD rs) gs)(h:∀g∈gs,g.length<=14):False:=by
 obtain⟨b,a,g,d,c⟩:=B;have:=h g (zng a G g d);lia
def zeJ(rs:AD):Prop:=30<(nbC rs).length\/Big rs
def thF(rs:AD)(n:Int):AB×AB:=zh9 rs n (zcv rs) 64 [] []
def zjs(f:Addr):Sp:=λh H Q E=>∃(p l:Addr) (a:AD) (n:Int) (L:AA->Bool),h=[.ref p]/\qd H p l a n/\Rows bd.cps.toList a/\(zP a).length<=63/\Lay a n L/\(zeJ a->∀b,zx H b->E (.ref f) none b) /\
 ∀(t sa d e fs:Addr) (g i:AE) (c st:AB) (b:Hp),¬ zeJ a->b t=some (.tup [.ref sa,.ref d])->x9 b d e fs g i c st->H e=none->Fnd a n (zcv a) c st->thF a n=(c,st)->zx H b->Q (.ref t) b
def zn3:∀c,some c∈zcv rs->c∈qD rs:=λc hc=>by
 rcases XV.mp hc with hc | hc
 .obtain⟨o,a,e⟩:=XE.mp hc;cases e;exact(XW.mp a).1
 .cases Xy.mp hc
def zsf(rs):(zcv rs).Nodup:=by
 refine WE.mpr ⟨?_,V8.mpr ⟨(λh=>nomatch h),.nil⟩,λa d b c e=>?_⟩
 .exact List.Pairwise.map _ (λ_ _ h z=>h (Option.some.inj z)) ((qq (Cells.jH Qw 0 (codes rs))).sublist Xn)
 .obtain⟨o,_,rfl⟩:=XE.mp d;rw[<- e]at c;cases Xy.mp c
def zn4(h:Cel H vs cs):Xk (zlR H) vs (cs.map some):=by
 induction h with
 | nil=>exact .nil
 | cons r _ a=>exact .cons r a
def zcw:zD ["board","cells"] ["board"] (zv Qa):=bh
def zcx(U:qw K mg "TooGreat" jaj)(T:Txt mg)(Z:Prog K mg)(D:zh K mg "thoughts" Qa ["board"] f fd):qm P w K mg base (CXE P w) 8 f fd ["board"] (zjs jaj):=by
 obtain⟨QX,YD,zR⟩:=Z.around;obtain⟨yZ,yt,zw⟩:=Z.sign_at;obtain⟨yu,jO,zB⟩:=Z.cells_of;obtain⟨Qk,Yb,zG⟩:=Z.open_cells;obtain⟨yR,yK,zM⟩:=Z.closed_around;obtain⟨ay,ax,ab⟩:=Z.count;obtain⟨a1,az,ac⟩:=Z.all_steps;have al:=yJ (P:=P) (w:=w) (base:=base) T zM zR zw;have an:=yN (P:=P) (w:=w) (base:=base) T zG zB zw;have  am:qm P w K mg base (CXE P w) 7 _ _ ["board"] (zgh jaj):=zhR U T Z ab;have ao:=zgr (P:=P) (w:=w) (base:=base) T Z ac;refine D.F.okX zcw "l" (λaq A ah s H vs Q E J h=>?_)
 .revert h;refine gA λp l c n L z0 B R ai=>fX λhL qg q=>?_;subst z0;refine⟨_,(ze (psC 1 zcw.nd ["cell","board"] [none,some 0] cR (zN (pc0 an J zG (za (pvS 0) zd))) (pgN 0) (qA (zI (zgV (K:=K) "r" J.units) (pc0 al J zM (za (pvS 1) (za (pvS 0) zd))) (@qa _ _ _ _ zd) (zT _))) (pvS 0)) (ze (qH (zI zf4 (pb1 zH T.qQ Xl (pvS 1)) (jz (v:=.int 30) "r" T.zet.choose_spec (by exact⟨_,rfl⟩)) (zT _)) (zg (zg1 j9 U "r" rfl (@za _ _ _ _ _ jQ zd rfl))) zV) (ze (qH (zI xD (pcL j9 am J ab (za (pvS 0) zd)) zf (zT _)) (zg xC) zV) (zg (zF (pc0 ao J ac (za (pvS 0) (za (zC JI (pvS 1) (qa (za (jz (v:=.str "all") "r" T.zqx.choose_spec (by exact⟨_,rfl⟩)) zd))) zd)))))))),?_⟩;ac_nf;refine⟨_,rfl,p,l,c,n,rfl,B,R,λd ws H1 hd I m s1=>(dX d rfl ⟨_,SqL.of I⟩ (λz hz=>?_))⟩;have b1:=B.mono s1;refine qE (K:=K) (a:=d) (xs:=ws) (λa=>a≠z) ((qD c).map λo=>if (!(clA c o).isEmpty)=true then some (zA o) else none) (fun σ=>∃u0,σ=[u0,some (.ref p)]) hz (λ_ h=>h) ⟨_,rfl⟩ (by rw[ZB];exact m.length.symm) (by rw[m.length];exact X5 (jg R) "d") (SqL.of I) ?_ ?_
  .rintro k x o σ H2 hx ho s2 au ⟨u0,rfl⟩ Y Z ak no;obtain⟨y,hy,r1⟩:=Cel.get m hx;have eo:=yf hy ho;refine fQ (λt sg ht hj _ es=>?_) (qi (X7 hy));obtain⟨ya,rfl,N⟩:=r1;obtain⟨l1,l2⟩:=yT R ht hj;refine⟨_,rfl,_,rfl,p,l,ya,c,n,y,rfl,b1.mono s2,R,s2 _ _ N,l1,l2,λd2 aw H3 ar ae i j=>⟨xo,λe he=>?_⟩⟩;have s4:=zc (o:=.lst []) he;refine dW (.list ((clA c y).map zA)) (.list []) (.lst (SqL.of (s4 _ _ ae)) (zjo (i.mono s4))) (.lst (SqL.of zb) .nil) (zdI _ []) ⟨_,rfl,?_⟩;have ee:(if true=true then !PyData.eqv (.list ((clA c y).map zA)) (.list []) else WW (.list ((clA c y).map zA)) (.list []))=!(clA c y).isEmpty:=congrArg (λb=>!b) (eq_nil _);rw[ee];by_cases hp:(!(clA c y).isEmpty)=true
   .rw[bw hp]at eo;exact ju hp ⟨_,rfl,ak _ _ _ _ eo ⟨_,rfl⟩ (j.trans s4) (xP.rdn ⟨ya,rfl,s4 _ _ (j _ _ (s2 _ _ N))⟩)⟩
   .rw[bq hp]at eo;exact qZ (WY.mpr hp) (no _ _ eo ⟨_,rfl⟩ (j.trans s4))
  rintro ys H2 s2 O M;rw[qy]at M;have i:Cel H2 ys (nbC c):=zJ.cel M;have g:=s1.trans s2;have B2:=B.mono g;have yl:ys.length=(nbC c).length:=i.length;refine⟨_,rfl,z,_,rfl,.inl (SqL.of O),_,_,rfl,rfl,_,rfl,?_⟩;by_cases u:30<(nbC c).length
  .exact ju (br "a") ⟨sz_1,qg (.inl u) H2 g⟩
  refine qZ (bf "a") ?_;refine⟨_,rfl,p,l,c,n,L,rfl,B2,R,hL,(λb H3 j=>qg (.inr b) H3 (g.trans j)),λv H3 gs G ag v1 _ j=>?_⟩;have nB:¬ zeJ c:=λb=>b.elim u λb=>b.all G ag;have av:=g.trans j;refine⟨rfl,_,rfl,?_⟩;refine qZ (bf λe=>by have:=V.int.inj e;lia) ?_;refine⟨_,rfl,_,rfl,sz_1,λx hx=>?_⟩;have y4:=zc (o:=.lst [V.str "all"]) hx;refine eS z x _ _ rfl rfl (y4 _ _ (j _ _ O)) zb (X5 (show ys.length+1<=40 by lia) "d") (λth af=>?_);have y5:=zc (o:=.lst (ys++[V.str "all"])) af;have aa:=j.trans (y4.trans y5);have r:=g.trans aa;refine er p l th c (eY n (ys++[V.str "all"]) (zcv c) L rfl (B.mono r) R zb (fD (Paired.snoc (zn4 (i.mono aa)) rfl) ?_ (zsf c) zn3 ai hL.tr (λt sa fa fc fs us aj cl st H' k1 k2 k3 k4 k5 s'=>q t sa fa fc fs us aj cl st H' nB k1 k2 (r.free k3) k4 k5 (r.trans s'))))
  .unfold zcv;rw[XZ,ZB];show (nbC c).length+1<=32;lia
def fdS:Str:=".o#"
def zpV:Sp:=λa H Q _=>∃(c k:Int),a=[.int c,.int k]/\0<=k/\k<=1000000/\∀z:Int,Q (.int z) H
def Row.more{NK:List Nat}(r:Row NK n t)(h:c∈NK):Row NK (n+1) (t++⟨#[c]⟩):=by
 have e:(t++(⟨#[c]⟩:Str)).cps=t.cps++#[c]:=rfl;refine⟨?_,λd hd=>?_⟩
 .rw[e,SJ,r.len];rfl
 .rw[e,Wz]at hd;rcases XV.mp hd with hd | hd
  .exact r.mem d hd
  .have z:d=c:=by simpa using hd
   rw[z];exact h
def Qs:zD ["_law_cell","_law_k","_law_drawn"] ["_law_cell","_law_k"] (zv JD):=bh
def zgt(D:zh K mg "_law_mixed" JD ["_law_cell","_law_k"] f fd):qm P w K mg base CX0 1 f fd ["_law_cell","_law_k"] zpV:=by
 refine D.F.ok Qs "l" (λb A a s H g Q E o h=>?_)
 .revert h;refine fQ λc i z0 h0 h1 k=>?_;subst z0;refine⟨_,(ze (qz 2 Qs.nd (zC zbL (zC zfD (zC zfD (zC zbL (pv 0) zf) (@zC _ _ _ _ _ _ _ _ ZP zf (pv 1))) zf) zf)) (ze (qz 2 Qs.nd (zC zbL (zC ZP (zC zbL (zC ZP (pv 2) (pv 2)) zf) zf) zf)) (zg (zF (zC zgR (zC zbL (zC ZP (pv 2) (zC zfD (pv 2) zf)) zf) zf))))),?_⟩;ac_nf;refine fh _ rfl _ _ rfl rfl (by show (0:Int)<2147483629;decide) (fh _ rfl _ _ rfl rfl (mulL "d" "d") (ef _ _ rfl rfl (ef _ _ rfl rfl (dW _ _ rfl rfl (by show (0:Int)<2147483647;decide) ?_))));have j:=Wu (c%2147483629+7919*i+11) (show (2147483647:Int)≠0 by decide);have l:=WB (c%2147483629+7919*i+11) (show (0:Int)<2147483647 by decide);generalize (c%2147483629+7919*i+11)%2147483647=d at *
  refine eV _ rfl _ rfl (fO _ _ rfl rfl (mulL "a" "a") _ _ rfl rfl (by show (0:Int)<2147483647;decide) (fO _ _ rfl rfl (zsW "d" "d") _ _ rfl rfl (by show (0:Int)<2147483587;decide) ?_));have m:=Wu (d*d%2147483647*48271) (show (2147483587:Int)≠0 by decide);have n:=WB (d*d%2147483647*48271) (show (0:Int)<2147483587 by decide);generalize d*d%2147483647*48271%2147483587=e at *
  exact eV _ rfl _ rfl (ef _ _ rfl rfl (fO _ _ rfl rfl (mulL "a" "a") _ _ rfl rfl (by show (0:Int)<2147483563;decide) (dW _ _ rfl rfl (jL.small "d" "d") (k _))))
def bs:Str:="?012345678#"
def Sg(z:Str):Prop:=∀c∈z.cps.toList,(!(!(Uc z ⟨#[c]⟩ 0 z.length 1).isEmpty))=false
def ztH:Sg bs:=by
 unfold Sg;decide+kernel
def zjt:Sp:=λa H Q _=>∃(t:Str) (n:Nat) (z:Str),a=[.str t,.int n,.str z]/\Sg z/\1<=n/\n<=8/\Row z.cps.toList n t/\Q .non H
def zlW:Sp:=λc H Q _=>∃(a:Addr) (b:AD) (z:Str),c=[.ref a,.str z]/\Sg z/\H a=some (.lst (b.map V.str))/\Rows z.cps.toList b/\∀l,H l=none->Q (.ref l) (upd H l (.lst (b.map V.str)))
def zpW:Sp:=λc H Q _=>∃(a:Addr) (b:AD) (n:Int),c=[.ref a,.int n]/\H a=some (.lst (b.map V.str))/\Rows bs.cps.toList b/\0<=n/\n<=64 /\
 ∀l p,H l=none->H p=none->p≠l->Q (.ref p) (upd (upd H l (.lst (b.map V.str))) p (.tup [.ref l,.int n]))
def zbB:zD ["row","length","signs","sign"] ["row","length","signs"] (zv ZS):=bh
def zgu(T:Txt mg)(D:zh K mg "check_row" ZS ["row","length","signs"] f fd):qm P w K mg base CX0 1 f fd ["row","length","signs"] zjt:=by
 refine D.F.ok zbB "l" (λm A g s H r Q E u h=>?_)
 .revert h;refine gf λt n z z0 q y p a k=>?_;subst z0;refine⟨_,(ze (qH (zaD (QE Z6 Z6 zf (pb1 jB T.qQ Xl (pvS 0)) (jz (v:=.int 8) "r" T.QT.choose_spec (by exact⟨_,rfl⟩)))) (zg xC) zV) (ze (qH (zI zc7 (pb1 jB T.qQ Xl (pvS 0)) (pvS 1) (zT _)) (zg xC) zV) (zg (qN Xd rfl (zri (pvS 0)) (pgq 3 zbB.nd) (zg (qH (zI zfK (pvS 3) (pvS 2) "r") (zg xC) zV)))))),?_⟩;ac_nf;have b:t.length<=Xz:=by
   have e:t.length=n:=a.len;rw[e];exact X5 p "d"
  refine⟨_,rfl,t,rfl,b,_,_,rfl,rfl,_,rfl,?_⟩;have e:t.length=n:=a.len;refine QH (λc=>?_) (λc=>absurd (br (show (1:Int)<=(t.length:Nat) by lia)) c);refine⟨_,_,rfl,rfl,_,rfl,?_⟩;have l:decide (((t.length:Nat):Int)<=8)=true:=br "a";rw[l];refine zap ?_;refine⟨_,rfl,t,rfl,b,_,rfl,rfl,_,rfl,zqo (by rw[e]) ?_⟩;refine⟨_,rfl,t,rfl,?_⟩;refine zoR (x:=t) (λ_ j d=>∃v,j=[some (.str t),some (.int n),some (.str z),v]/\d=H) ⟨_,rfl,rfl⟩ ?_ ?_
  .rintro i c j d o ⟨v,rfl,rfl⟩;refine⟨_,rfl,_,rfl,_,_,rfl,rfl,_,rfl,?_⟩;rw[q c (a.mem c (X7 (by rw[W6];exact o)))];exact zap ⟨_,rfl,rfl⟩
  .rintro j d ⟨v,rfl,rfl⟩;exact k
def Qz:zD ["rows","signs","row"] ["rows","signs"] (zv xN):=bh
def QA(T:Txt mg)(Z:Prog K mg)(D:zh K mg "checked_rows" xN ["rows","signs"] f fd):qm P w K mg base CX0 2 f fd ["rows","signs"] zlW:=by
 obtain⟨O,N,o⟩:=Z.check_row;refine D.F.ok Qz "l" (λB A r s H M Q E G h=>?_)
 .revert h;refine fV λa g z z0 L l R k=>?_;subst z0;refine⟨_,(ze (qH (zaD (QE Z6 Z6 zf (pb1 zH T.qQ Xl (pvS 0)) (jz (v:=.int 8) "r" T.QT.choose_spec (by exact⟨_,rfl⟩)))) (zg xC) zV) (ze (qN Xd rfl (zN (pvS 0)) (pgq 2 Qz.nd) (zg (jA (pc0 (zgu T o) G o (za (pvS 2) (za (pb1 jB T.qQ Xl (zQ jk (pvS 0) zf (λ_ _=>rfl))) (za (pvS 1) zd))))))) (zg (zF (pt1 xE T.zdE UR (pvS 0)))))),?_⟩;ac_nf;obtain⟨J,U,n,I,u,d⟩:=R;refine⟨_,rfl,a,_,rfl,.inl (SqL.of l),_,_,rfl,rfl,_,rfl,?_⟩;rw[ZB];refine QH (λc=>?_) (λc=>absurd (br (show (1:Int)<=(g.length:Nat) by lia)) c);refine⟨_,_,rfl,rfl,_,rfl,?_⟩;have y:decide (((g.length:Nat):Int)<=8)=true:=br "a";rw[y];refine zap ?_;refine⟨_,rfl,a,rfl,⟨_,SqL.of l⟩,?_⟩;refine yi (K:=K) (a:=a) (xs:=g.map V.str) (λ_ q p=>∃v,q=[some (.ref a),some (.str z),v]/\p=H) ⟨_,rfl,rfl⟩ (λi q p _ ⟨_,_,e⟩=>by rw[e];exact SqL.of l) ?_ ?_
  .refine λi x q p m=>fR λv z0 z1=>?_;subst z0 z1;rw[Xp]at m;cases e:g[i]? with
   | none =>
    rw[e]at m;cases m
   | some t =>
    rw[e]at m;cases m;obtain⟨j,b,rfl⟩:∃j b,g=j::b:=by
     cases g with
     | nil=>exact absurd J "d"
     | cons j b=>exact⟨j,b,rfl⟩
    have h0:j.length=n:=(d j XU).len;refine⟨_,rfl,_,rfl,a,_,0,_,rfl,rfl,SqL.of l,Z5 "d" rfl,j,rfl,?_,_,rfl,t,n,z,?_,L,I,u,d t (X7 e),?_⟩
    .rw[h0];exact X5 u "d"
    .rw[h0];rfl
    .exact⟨_,rfl,rfl⟩
  .rintro q p ⟨v,rfl,rfl⟩;exact⟨_,rfl,a,_,rfl,.inl (SqL.of l),k⟩
def zcA:zD ["rows","stones","own_rows"] ["rows","stones"] (zv Y4):=bh
def zic(T:Txt mg)(Z:Prog K mg)(D:zh K mg "board_of" Y4 ["rows","stones"] f fd):qm P w K mg base CX0 3 f fd ["rows","stones"] zpW:=by
 obtain⟨B,y,i⟩:=Z.checked_rows;refine D.F.ok zcA "l" (λj A e s H x Q E q h=>?_)
 .revert h;refine gf λa g n z0 m R r u k=>?_;subst z0;refine⟨_,(ze (qz 2 zcA.nd (pc0 (QA T Z i) q i (za (pvS 0) (za (jz (v:=.str "?012345678#") "r" T.zeq.choose_spec (by exact⟨_,rfl⟩)) zd)))) (ze (qH (zaD (QE Z6 Z6 zf (pvS 1) (jz (v:=.int 64) "r" T.zes.choose_spec (by exact⟨_,rfl⟩)))) (zg xC) zV) (zg (zF (qu (za (pvS 2) (za (pvS 1) zd))))))),?_⟩;ac_nf;refine⟨_,rfl,a,g,bs,rfl,ztH,m,R,λl o=>?_⟩;refine⟨_,rfl,_,_,rfl,rfl,_,rfl,?_⟩;refine QH (λc=>?_) (λc=>absurd (br r) c);refine⟨_,_,rfl,rfl,_,rfl,?_⟩;rw[br u];refine zap ?_;refine⟨_,rfl,_,rfl,yL,λp d=>?_⟩;have b:p≠l:=λz=>by rw[z,zb]at d;cases d
  rw[zq b]at d;exact k l p o d b
def zsg:Sp:=λf H Q _=>∃(l:Addr) (b:AD) (k:Nat),f=[.ref l,.str ⟨#[k]⟩]/\H l=some (.lst (b.map V.str))/\Rows fdS.cps.toList b /\
 ∀(d:Addr) (e:AE) (a:Hp),H d=none->a d=some (.lst e)->Cel a e (Cells.zK (λc=>zU c&&decide (c=k)) 0 (codes b))->zx H a->Q (.ref d) a
def zn5:Sp:=λf H Q _=>∃(l:Addr) (b:AD),f=[.ref l]/\H l=some (.lst (b.map V.str))/\Rows fdS.cps.toList b /\
 ∀(d:Addr) (e:AE) (a:Hp),H d=none->a d=some (.lst e)->Cel a e (Cells.zK (λc=>zU c&&decide (c=111)) 0 (codes b))->zx H a->Q (.ref d) a
def zid:("o":Str)=⟨#[111]⟩:="q"
def zaA:zD ["field","sign","seen"] ["field","sign"] (zv yG):=bh
def zaB(T:Txt mg)(D:zh K mg "cells_with" yG ["field","sign"] f fd)(zB:zh K mg "cells_of" qx ["board"] f1 aa)(zw:zh K mg "sign_at" qG ["board","cell"] f2 ab) :
  qm P w K mg base CX0 2 f fd ["field","sign"] zsg:=by
 refine D.F.ok zaA "l" (λae A ac s H vs Q E hr h=>?_)
 .revert h;refine gb λl g n z0 hl R q=>?_;subst z0;refine⟨_,(ze (qz 2 zaA.nd (qu (za (pvS 0) (@za _ _ _ _ _ zf zd rfl)))) (zg (zF (pcm ["cell","sign","seen"] [none,some 1,some 2] cR (zN (pc0 (zbl T zB) hr zB (za (pvS 2) zd))) (pgN 0) (qA (zI xD (pc0 (ZA zw) hr zw (za (pvS 2) (za (pvS 0) zd))) (pvS 1) (zT _))) (pvS 0))))),?_⟩;ac_nf;refine⟨_,rfl,yL,λa ha=>?_⟩;have G:zx H (upd H a (.tup [.ref l,.int 0])):=zc ha;have b:qd (upd H a (.tup [.ref l,.int 0])) a l g 0:=⟨zb,G _ _ hl⟩;refine⟨_,rfl,a,l,g,0,rfl,b,⟨_,R⟩,λd ws H1 hd B I s1=>(dX d rfl ⟨_,SqL.of B⟩ (λz Y=>?_))⟩;have nz:d≠z:=zj B Y;refine qj (K:=K) (a:=d) (xs:=ws) (λi σ O=>∃(u0:Option V) (r:AE),σ=[u0,some (.str ⟨#[n]⟩),some (.ref a)]/\zx H1 O/\O z=some (.lst r)/\Cel O r (((Cells.zK zU 0 (codes g)).take i).filter λx=>decide (Cells.sgn (codes g) x=n)))
   (dW _ [] rfl (zc Y) zb (.nil)) (λi σ O _ ⟨_,_,_,v,_⟩=>SqL.of (v _ _ B)) ?_ ?_
  .refine λi x σ H2 hx=>fQ λu0 r z0 v m e=>?_;subst z0;refine fW (λc L ca z0 J=>?_) (Cel.get (Cel.mono v I) hx);subst z0;refine gn (λk0 j u k ec M hj af=>?_) (Cells.yW (X7 L));refine fR (λt ht z0=>?_) (Yu M);subst z0;rw[VT]at ec;subst ec;refine⟨_,rfl,_,rfl,a,l,ca,g,0,k0,j,t,k,rfl,(b.mono s1).mono v,J,ht,hj,R.tlen ht,_,rfl,rfl,_,rfl,?_⟩;have es:Cells.sgn (codes g) (k0,j)=k:=Cells.Y0 M hj;have step:((Cells.zK zU 0 (codes g)).take (i+1)).filter (λx=>decide (Cells.sgn (codes g) x=n))=((Cells.zK zU 0 (codes g)).take i).filter (λx=>decide (Cells.sgn (codes g) x=n))++(if decide (k=n)=true then [(k0,j)] else []):=by
    rw[XC,L,WJ];congr 1;show OV _ [(k0,j)]=_;rw[V5];try dsimp only
    rw[es];split<;>rfl
   have ed:decide (V.str ⟨#[k]⟩=V.str ⟨#[n]⟩)=decide (k=n):=by
    simp only[zb3]
   rw[ed];by_cases U:decide (k=n)=true
   .rw[bw U]at step;refine ju U ?_;have N:r.length<=64:=by
     rw[e.length];refine X5 (WP _ _) ?_;rw[XH];have h1:=Cells.jc zU 0 (codes g) R.short;have h2:=R.hi;rw[jf]at h1;lia
    refine⟨_,rfl,r,m,XM N "d",_,r++[.ref ca],rfl,λb' o e'=>?_,zb,?_⟩
    .have hb:b'≠z:=λy=>by
      subst y;rw[Y]at e';cases e'
     rw[zq hb];exact v _ _ e'
    .rw[step];exact Cel.into z _ m (Cel.snoc e ⟨ca,rfl,J⟩)
   .rw[bq U]at step;refine qZ ↑U ?_;refine dW _ r rfl v m ?_;rw[step];simpa using e
  .refine λσ H2=>fQ λu0 r z0 v m e=>?_;subst z0;rw[I.length,XF,Cells.all_filter (p:=zU) (q:=λk=>decide (k=n)) (codes g)]at e;exact q z r H2 ((G.trans s1).free Y) m e ((G.trans s1).trans v)
def zgv:zD ["field"] ["field"] (zv ZT):=bh
def zgw(T:Txt mg)(D:zh K mg "stones_of" ZT ["field"] f fd)(e:zh K mg "cells_with" yG ["field","sign"] j a)(r:zh K mg "cells_of" qx ["board"] k b)(u:zh K mg "sign_at" qG ["board","cell"] m c) :
  qm P w K mg base CX0 3 f fd ["field"] zn5:=by
 refine D.F.ok zgv "l" (λi A d s H p Q E o h=>?_)
 .revert h;refine fQ λl g z0 n R q=>?_;subst z0;refine⟨_,(zg (zF (pc0 (zaB T e r u) o e (za (pvS 0) (za (jz (v:=.str "o") "r" T.Za.choose_spec.1 (by exact⟨_,rfl⟩)) zd))))),?_⟩;ac_nf;exact⟨_,rfl,l,g,111,by rw[zid];rfl,n,R,q⟩
def mw(a h0:Int):Int:=if a/(1+h0%8)<8 then a/(1+h0%8) else 8
def ztI(f:8<=a):1<=mw a h0/\mw a h0<=8/\(1+h0%8)*mw a h0<=a:=by
 have d:=Wu h0 (show (8:Int)≠0 by decide);have e:=WB h0 (show (0:Int)<8 by decide);have b:0<1+h0%8:="a"
 have g:1+h0%8<=8:="a"
 unfold mw;generalize 1+h0%8=k at *
 by_cases c:a/k<8
 .rw[bw c];refine⟨(Pl b).mpr "a","a",Int.mul_ediv_self_le "a"⟩
 .rw[bq c];have:=(Pl b).mp (show 8<=a/k by lia);exact⟨"d","d","a"⟩
def fz(a:Str):Str:=(("o":Str)++a)++("#":Str)
def zpY(a):(fz a).cps.size=a.length+2:=by
 have e:(fz a).cps=(("o":Str).cps++a.cps)++("#":Str).cps:=rfl;rw[e,SJ,SJ];show 1+a.cps.size+1=a.cps.size+2;lia
def zsh(g:∀c∈a.cps.toList,c∈((".":Str)).cps.toList):∀c∈(fz a).cps.toList,c∈fdS.cps.toList:=by
 intro c hc;have e:(fz a).cps.toList=(("o":Str).cps.toList++a.cps.toList)++("#":Str).cps.toList:=by
  have e:(fz a).cps=(("o":Str).cps++a.cps)++("#":Str).cps:=rfl;rw[e,Wz,Wz]
 rw[e]at hc;have b:∀c∈("o":Str).cps.toList,c∈fdS.cps.toList:="q"
 have d:∀c∈(".":Str).cps.toList,c∈fdS.cps.toList:="q"
 have f:∀c∈("#":Str).cps.toList,c∈fdS.cps.toList:="q"
 rcases XV.mp hc with hc | hc
 .rcases XV.mp hc with hc | hc
  .exact b c hc
  .exact d c (g c hc)
 .exact f c hc
def zpZ(K:X4):Sp:=λf H Q _=>∃(a:Addr) (e:List Int) (b:Int),f=[.ref a,.int b]/\SqL K H a (e.map V.int)/\8<=b/\b<=64 /\
 ∀(l:Addr) (c:AD) (d:Hp),H l=none->d l=some (.lst (c.map V.str))->zx H d->Rows fdS.cps.toList c->(∀t∈c,((c.length*t.cps.size:Nat):Int)<=b)->Q (.ref l) d
def qo:zD ["_law_script","_law_most","_law_high","_law_wide","_law_signs","_law_rows","_law_row","_law_own","_law_text","_law_column","_law_place","_law_drawn"] ["_law_script","_law_most"] (zv ZW):=bh
def zgx(T:Txt mg)(D:zh K mg "_law_field" ZW ["_law_script","_law_most"] f fd)(M:zh K mg "_law_cell_at" yc ["_law_script","_law_k"] f1 aa)(Z3:zh K mg "_law_mixed" JD ["_law_cell","_law_k"] f2 ae) :
  qm P w K mg base CX0 2 f fd ["_law_script","_law_most"] (zpZ K):=by
 have zZ:qm P w K mg base CX0 1 f1 aa ["_law_script","_law_k"] (zf9 K):=Zy T M;refine D.F.ok qo "l" (λah A ag s H vs Q E G h=>?_)
 .revert h;refine fV λa I m z0 Y m8 ak k=>?_;subst z0;refine⟨_,(@ze _ _ _ _ _ (@qv _ _ 2 _ _ _ _ qo.nd rfl (Wm rfl) (@zC _ _ _ _ _ _ _ _ jt zf (zC qO (pc0 zZ G M (za (pvS 0) (@za _ _ _ _ _ zf zd rfl))) zf)) "r" (.inr rfl)) (@ze _ _ _ _ _ (@qv _ _ 3 _ _ _ _ qo.nd rfl (Wm rfl) (@zC _ _ _ _ _ _ _ _ jt zf (zC qO (pc0 zZ G M (za (pvS 0) (@za _ _ _ _ _ zf zd rfl))) (QG (zbM rfl) "r" T.zkl TV (@za _ _ _ _ _ zf (za (zC qF (pvS 1) (pvS 2)) zd) rfl)))) "r" (.inr rfl)) (@ze _ _ _ _ _ (@qv _ _ 4 _ _ _ _ qo.nd rfl (Wm rfl) (@zC _ _ _ _ _ _ _ _ YT (@zC _ _ _ _ _ _ _ _ YT jQ (@zC _ _ _ _ _ _ _ _ ziI jQ (@zC _ _ _ _ _ _ _ _ jt zf (zC qO (zC qF (pc0 zZ G M (za (pvS 0) (@za _ _ _ _ _ zf zd rfl))) zf) zf)))) jQ) "r" (.inr rfl)) (@ze _ _ _ _ _ (@qv _ _ 5 _ _ _ _ qo.nd rfl (Wm rfl) (@qa _ _ _ _ zd) "r" (.inr rfl)) (ze (qN Xd rfl (prg T.xO (pvS 2)) (pgq 6 qo.nd) (ze (qz 7 qo.nd (pc0 zZ G M (za (pvS 0) (@za _ _ _ _ _ (@zC _ _ _ _ _ _ _ _ jt zf (pvS 6)) zd rfl)))) (@ze _ _ _ _ _ (@qv _ _ 8 _ _ _ _ qo.nd rfl (Wm rfl) jQ "r" (.inr rfl)) (ze (qN Xd rfl (prg T.xO (pvS 3)) (pgq 9 qo.nd) (@ze _ _ _ _ _ (@qv _ _ 10 _ _ _ _ qo.nd rfl (Wm rfl) (@zC _ _ _ _ _ _ _ _ jt (@zC _ _ _ _ _ _ _ _ ZP zf (pvS 6)) (pvS 9)) "r" (.inr rfl)) (ze (qz 11 qo.nd (pc0 (zgt Z3) G Z3 (za (pc0 zZ G M (za (pvS 0) (@za _ _ _ _ _ (@zC _ _ _ _ _ _ _ _ jt zf (zC qO (pvS 10) zf)) zd rfl))) (za (pvS 10) zd)))) (zad (qH (zI xD (zC qO (zC qF (pc0 zZ G M (za (pvS 0) (@za _ _ _ _ _ zf zd rfl))) zf) zf) zf (zT _)) (ze (qz 11 qo.nd (pvS 7)) (zg (qz 7 qo.nd (zC qF (pvS 7) (pb1 jB T.qQ Xl (pvS 4)))))) (zg (qH (zI zf4 (zC qO (zC qF (pvS 11) zf) zf) zf (zT _)) (zg (qz 11 qo.nd (zC qO (pvS 11) (zC yQ (pb1 jB T.qQ Xl (pvS 4)) zf)))) zV))) (zg (qz 8 qo.nd (zC YT (pvS 8) (zQ zbc (pvS 4) (zC qO (pvS 11) (pb1 jB T.qQ Xl (pvS 4))) (λ_ _=>rfl))))))))) (zg (jA (JK WX Wo Wn jU (pvS 5) (za (pvS 8) zd)))))))) (zg (zF (pvS 5)))))))),?_⟩;ac_nf;refine⟨_,rfl,a,I,_,rfl,Y,"d",λh0=>⟨_,_,rfl,rfl,(by show (0:Int)<8;decide),_,_,rfl,rfl,?_⟩⟩;have e1:=Wu h0 (show (8:Int)≠0 by decide);have e2:=WB h0 (show (0:Int)<8 by decide);refine fX (λw1 w2 w3=>?_) (ztI (h0:=h0) m8);refine⟨_,rfl,a,I,_,rfl,Y,"d",λx=>⟨_,rfl,_,rfl,_,_,rfl,rfl,jL.small (by show (0:Int)<1+h0%8;lia) (by show 1+h0%8<(1073741824:Int);lia),_,_,rfl,_,_,rfl,rfl,(by show (0:Int)<mw m h0;lia),_,_,rfl,rfl,?_⟩⟩;have e3:=Wu x (show mw m h0≠0 by lia);have e4:=WB x (show (0:Int)<mw m h0 by lia);refine⟨_,rfl,a,I,_,rfl,Y,"d",λU=>?_⟩;have e5:=Wu (U/16) (show (5:Int)≠0 by decide);have e6:=WB (U/16) (show (0:Int)<5 by decide);refine⟨_,_,rfl,rfl,jL.small "d" "d",_,_,rfl,rfl,(by show (0:Int)<5;decide),_,_,rfl,rfl,".",_,rfl,rfl,(by show (1:Int)<=1+U/16%5;lia),(by show 1+U/16%5<=(1000:Int);lia),"d",λg dl dm=>?_⟩;have ai:g.length=(1+U/16%5).toNat:=by
   rw[dl];show 1*(1+U/16%5).toNat=_;lia
  have zs:=zpY g;have zm:=zsh dm;have z1:3<=(fz g).cps.size:="a"
  have z2:(fz g).cps.size<=7:="a"
  refine fO _ _ rfl rfl ?_ _ _ rfl rfl ?_ ?_
  .exact X5 (show ("o":Str).length+g.length<=100 by show 1+g.length<=100;lia) "d"
  .refine X5 (show (("o":Str)++g).length+("#":Str).length<=100 from ?_) "d";have:(("o":Str)++g).length=1+g.length:=by
    show (("o":Str).cps++g.cps).size=_;rw[SJ];rfl
   rw[this];show 1+g.length+1<=100;lia
  refine⟨xo,λl hl=>?_⟩;have s0:zx H (upd H l (.lst [])):=zc hl;refine⟨_,rfl,1+h0%8,rfl,"a","a",?_⟩;refine j8 (lo:=0) (n:=(1+h0%8).toNat) (λi N O=>∃(v6 v7 v8 L q r:Option V) (J:AD),N=[some (.ref a),some (.int m),some (.int (1+h0%8)),some (.int (1+x%mw m h0)),some (.str (fz g)),some (.ref l),v6,v7,v8,L,q,r]/\zx H O/\O l=some (.lst (J.map V.str))/\J.length=i/\∀t∈J,Row (fz g).cps.toList (1+x%mw m h0).toNat t)
   (fE _ _ _ _ _ _ [] rfl s0 zb rfl (λ_ h=>nomatch h)) ?_ ?_
  .refine λi N H1 hi=>fU λv6 v7 v8 L=>fV λq r J z0 s1 y v p=>?_;subst z0;refine⟨_,rfl,_,rfl,_,_,rfl,rfl,a,I,_,rfl,s1.seq Y,"a",λown=>?_⟩;refine⟨_,rfl,1+x%mw m h0,rfl,"a","a",?_⟩;refine j8 (lo:=0) (n:=(1+x%mw m h0).toNat) (λj N O=>∃(L q r:Option V) (o:Int) (t:Str),N=[some (.ref a),some (.int m),some (.int (1+h0%8)),some (.int (1+x%mw m h0)),some (.str (fz g)),some (.ref l),some (.int (0+i)),some (.int o),some (.str t),L,q,r]/\O=H1/\Row (fz g).cps.toList j t)
    (eZ _ _ _ own _ rfl rfl ⟨rfl,λ_ h=>nomatch h⟩) ?_ ?_
   .refine λj N H2 hj=>gw λL q r o t z0 z1 B=>?_;subst z0 z1;refine⟨_,rfl,_,_,rfl,rfl,mulL "d" "d",_,rfl,_,_,rfl,rfl,?_⟩;have af:(0:Int)<=8*(0+i)+(0+j):="a"
    have aj:8*(0+(i:Int))+(0+j)<=1000:="a"
    have q0:=Wu (8*(0+(i:Int))+(0+j)) (show (59:Int)≠0 by decide);refine⟨_,rfl,_,rfl,_,_,rfl,rfl,(by show (0:Int)<59;decide),_,_,rfl,rfl,a,I,_,rfl,s1.seq Y,"a",λc=>⟨_,rfl,_,_,rfl,af,"a",λd=>?_⟩⟩;refine⟨fun ac O=>∃(o d:Int),ac=[some (.ref a),some (.int m),some (.int (1+h0%8)),some (.int (1+x%mw m h0)),some (.str (fz g)),some (.ref l),some (.int (0+i)),some (.int o),some (.str t),some (.int (0+j)),some (.int (8*(0+i)+(0+j))),some (.int d)]/\O=H2,?_,?_⟩
    .refine⟨_,rfl,a,I,_,rfl,s1.seq Y,"d",λc0=>⟨_,_,rfl,rfl,jL.small "d" "d",_,_,rfl,rfl,(by show (0:Int)<2;decide),rfl,_,rfl,QH (λ_=>?_) (λ_=>?_)⟩⟩
     .refine⟨_,rfl,_,rfl,_,rfl,fz g,rfl,?_,_,_,rfl,rfl,?_,?_⟩
      .exact X5 z2 "d"
      .exact jL.small (by show (0:Int)<((fz g).cps.size:Nat);lia) (by show (((fz g).cps.size:Nat):Int)<1073741824;lia)
      .exact fG _ _ rfl rfl
     .refine⟨_,rfl,_,_,rfl,rfl,jL.small "d" "d",_,_,rfl,rfl,(by show (0:Int)<3;decide),_,_,rfl,rfl,_,rfl,QH (λ_=>?_) (λ_=>?_)⟩
      .refine⟨_,rfl,_,rfl,fz g,rfl,X5 z2 "d",_,_,rfl,rfl,_,_,rfl,rfl,(by show (0:Int)<((fz g).cps.size:Nat)-1;lia),?_⟩;exact fG _ _ rfl rfl
      .exact fG _ _ rfl rfl
    refine λac H3=>fZ λo' d' z0 z1=>?_;subst z0 z1;have m0:=Wu d' (show (((fz g).cps.size:Nat):Int)≠0 by lia);have m1:=WB d' (show (0:Int)<(((fz g).cps.size:Nat):Int) by lia);have ab:(d'%(((fz g).cps.size:Nat):Int)).toNat<(fz g).cps.toList.length:=by
     rw[XX];lia
    refine⟨_,rfl,_,rfl,_,rfl,_,rfl,fz g,rfl,X5 z2 "d",_,_,rfl,rfl,(by show (0:Int)<((fz g).cps.size:Nat);lia),fz g,_,(fz g).cps.toList[(d'%(((fz g).cps.size:Nat):Int)).toNat],rfl,rfl,X5 z2 "d",Z5 m0 (X0 ab),t,_,rfl,rfl,?_,?_⟩
    .have e5:t.length=j:=B.len;rw[e5];show j+1<=Xz;exact X5 (show j+1<=80 by lia) "d"
    .exact eZ _ _ _ o' _ rfl rfl (B.more (UK ab))
   .refine λN H2=>gw λL q r o t z0 z1 B=>?_;subst z0 z1;refine⟨_,rfl,.inl ⟨rfl,_,SqL.of y⟩,_,rfl,l,_,_,rfl,rfl,y,?_,?_⟩
    .rw[ZB,v];exact Xq (show i<9 by lia) "d"
    .refine fE _ _ _ _ _ _ (J++[t]) rfl (λb o e=>?_) ?_ ?_ ?_
     .rw[zq (zj e hl)];exact s1 b o e
     .rw[zb,XD];rfl
     .rw[XZ,v];rfl
     .intro u hu;rcases XV.mp hu with hu | hu
      .exact p u hu
      .have e6:u=t:=by simpa using hu
       rw[e6];exact B
  .refine λN H1=>fU λv6 v7 v8 L=>fV λq r J z0 s1 y v p=>?_;subst z0;refine⟨_,rfl,k l J H1 hl y s1 ⟨"a","a",(1+x%mw m h0).toNat,"a","a",λt ht=>⟨(p t ht).len,λc hc=>zm c ((p t ht).mem c hc)⟩⟩ λt ht=>?_⟩;rw[(p t ht).len,v];have a1:(((1+h0%8).toNat*(1+x%mw m h0).toNat:Nat):Int)=(1+h0%8)*(1+x%mw m h0):=by
    rw[Int.natCast_mul,Uk "a",Uk "a"]
   rw[a1];exact Vb (Int.mul_le_mul_of_nonneg_left (show 1+x%mw m h0<=mw m h0 by lia) "a") w3
def pIn(z:Str)(k:Nat):Bool:=!(Uc z ⟨#[k]⟩ 0 z.length 1).isEmpty
def zn6:Sp:=λf H Q _=>∃(l:Addr) (b:AD) (z:Str) (e:List Nat),f=[.ref l,.str z]/\H l=some (.lst (b.map V.str))/\Rows e b /\
 ∀(d:Addr) (c:AE) (a:Hp),H d=none->a d=some (.lst c)->Cel a c (Cells.zK (pIn z) 0 (codes b))->zx H a->Q (.ref d) a
def zqL{j:Nat}(h:xs[j]?=some v):atI xs (0+(j:Int))=some v:=by
 rw[RS];exact JZ h
def Zd:zD ["_law_rows","_law_signs","_law_found","_law_row","_law_column"] ["_law_rows","_law_signs"] (zv ZX):=bh
def zgy(T:Txt mg)(D:zh K mg "_law_cells" ZX ["_law_rows","_law_signs"] f fd):qm P w K mg base CX0 1 f fd ["_law_rows","_law_signs"] zn6:=by
 refine D.F.ok Zd "l" (λaf A ae s H vs Q E hr h=>?_)
 .revert h;refine gn λl b z sg z0 hl R q=>?_;subst z0;refine⟨_,(@ze _ _ _ _ _ (@qv _ _ 2 _ _ _ _ Zd.nd rfl (Wm rfl) (@qa _ _ _ _ zd) "r" (.inr rfl)) (ze (qN Xd rfl (prg T.xO (pb1 zH T.qQ Xl (pvS 0))) (pgq 3 Zd.nd) (zg (qN Xd rfl (prg T.xO (pb1 jB T.qQ Xl (zQ jk (pvS 0) zf (λ_ _=>rfl)))) (pgq 4 Zd.nd) (zg (qH (zI zkX (zQ zbc (zQ jk (pvS 0) (pvS 3) (λ_ _=>rfl)) (pvS 4) (λ_ _=>rfl)) (pvS 1) "r") (zg (jA (JK WX Wo Wn jU (pvS 2) (za (qu (za (pvS 3) (za (pvS 4) zd))) zd)))) zV))))) (zg (zF (pvS 2))))),?_⟩;ac_nf;refine⟨xo,λd U=>?_⟩;have s0:zx H (upd H d (.lst [])):=zc U;refine fT (λB w1 w8 m=>?_) R.ex;have ah:=R.lo;have ag:=R.hi;refine⟨_,rfl,l,_,rfl,.inl (SqL.of (s0 _ _ hl)),_,rfl,"a",?_,?_⟩
  .rw[ZB];lia
  refine j8 (lo:=0) (n:=(((b.map V.str).length:Nat):Int).toNat) (λi G r=>∃(v3 y:Option V) (a:AE),G=[some (.ref l),some (.str z),some (.ref d),v3,y]/\zx H r/\r d=some (.lst a)/\Cel r a (Cells.zK (pIn z) 0 ((codes b).take i)))
   (dZ _ _ [] rfl s0 zb (.nil)) ?_ ?_
  .refine λi G H1 hi=>gb λv3 y a z0 s1 v k=>?_;subst z0;have Y:i<b.length:=by
    rw[ZB]at hi;lia
   obtain⟨t,L⟩:∃t,b[i]?=some t:=⟨_,X0 Y⟩;obtain⟨N,x⟩:∃t,b[0]?=some t:=⟨_,X0 "a"⟩;have tl:t.length=B:=(m t (X7 L)).len;have J:N.length=B:=(m N (X7 x)).len;refine⟨_,rfl,l,_,0,V.str N,rfl,rfl,SqL.of (s1 _ _ hl),Z5 "d" (by rw[Xp];exact congrArg _ x),N,rfl,R.tlen x,_,rfl,"a",?_,?_⟩
   .rw[J];lia
   rw[J];refine j8 (lo:=0) (n:=((B:Nat):Int).toNat) (λj G r=>∃(y:Option V) (a:AE),G=[some (.ref l),some (.str z),some (.ref d),some (.int (0+i)),y]/\zx H r/\r d=some (.lst a)/\Cel r a (Cells.zK (pIn z) 0 ((codes b).take i)++Cells.qh (pIn z) i 0 (t.cps.toList.take j)))
    (dW _ a rfl s1 v (by simpa[Cells.qh] using k)) ?_ ?_
   .refine λj G O hj=>fQ λy a z0 I g e=>?_;subst z0;have aa:j<t.cps.toList.length:=by
     have:t.cps.size=B:=tl;rw[XX];lia
    obtain⟨c,hc⟩:∃c,t.cps.toList[j]?=some c:=⟨_,X0 aa⟩;have ab:atI (b.map V.str) (0+(i:Int))=some (V.str t):=zqL (by rw[Xp,L];rfl);have st:=Cells.zaL (p:=pIn z) (i:=i) hc;have len:a.length<=64:=by
     rw[e.length,XZ];have h1:=Cells.jc (pIn z) 0 ((codes b).take i) λu hu=>R.short u (VM hu);have h2:=Cells.jV (pIn z) i 0 (t.cps.toList.take j);rw[XH,jf]at h1;rw[XH]at h2;lia
    refine⟨_,rfl,_,rfl,l,_,_,_,rfl,rfl,SqL.of (I _ _ hl),ab,_,rfl,t,_,c,rfl,rfl,R.tlen L,zqL hc,_,rfl,_,_,rfl,rfl,_,rfl,?_⟩;refine QH (λkd=>?_) (λkd=>?_)
    .rw[bw (show pIn z c=true from kd)]at st;refine⟨_,rfl,.inl ⟨rfl,_,SqL.of g⟩,_,rfl,_,rfl,yL,λtp ac=>?_⟩;have M:zx O (upd O tp (.tup [.int (0+i),.int (0+j)])):=zc ac;refine⟨d,_,_,rfl,rfl,M _ _ g,XM len "d",?_⟩;refine dW _ (a++[.ref tp]) rfl (λb' o e'=>?_) zb ?_
     .rw[zq (zj e' U)];exact M _ _ (I _ _ e')
     .rw[st,<- Ww];refine Cel.into d _ (M _ _ g) (Cel.snoc (Cel.mono M e) ⟨tp,rfl,?_⟩);rw[zb,RS,RS]
    .rw[bq (show ¬ pIn z c=true from kd),W5]at st;refine dW _ a rfl I g ?_;rw[st];exact e
   .refine λG O=>fQ λy a z0 I g e=>?_;subst z0;have full:t.cps.toList.take ((B:Nat):Int).toNat=t.cps.toList:=by
     have:t.cps.size=B:=tl;rw[show (((B:Nat):Int)).toNat=t.cps.toList.length by rw[XX];lia,XF]
    rw[full]at e;exact dZ _ _ a rfl I g (by rw[Cells.zaM (qL L)];exact e)
  .refine λG H1=>gb λv3 y a z0 s1 v k=>?_;subst z0;have full:(codes b).take (((b.map V.str).length:Nat):Int).toNat=codes b:=by
    rw[show ((((b.map V.str).length:Nat):Int)).toNat=(codes b).length by rw[ZB,jf];lia,XF]
   rw[full]at k;exact⟨_,rfl,q d a H1 U v k s1⟩
def dig(a:KV1)(c:AA)(k:Nat):Nat:=match qX a (qR c) with
 | some (.int v)=>48+v.toNat
 | _=>k
structure Nums (cs:AB)(N:Nat)(kvs:KV1):Prop where
 vals:∀kv∈kvs,∃c∈cs,∃v:Nat,v<=8/\kv.1=qR c/\kv.2=V.int (v:Nat)
 nd:(kvs.map (·.1)).Nodup
 len:kvs.length<=N
def Nums.at(h:Nums cs N a)(c):qX a (qR c)=none\/∃v:Nat,v<=8/\c∈cs/\qX a (qR c)=some (V.int (v:Nat)):=by
 cases e:qX a (qR c) with
 | none=>exact .inl rfl
 | some v =>
  refine fR (λk i=>fT λn j d f=>?_) (h.vals _ (zhW e));have g:=QZ d;subst g;have b:v=V.int (n:Nat):=f;subst b;exact .inr ⟨n,j,i,rfl⟩
def Nums.nil(cs)(N):Nums cs N []:=⟨(λ_ h=>nomatch h),UH,W2 _⟩
def zp0{a:KV1}(h:b∈putK a k v):b∈a\/b=(k,v):=by
 unfold putK at h;split at h
 .obtain⟨x,c,e⟩:=XE.mp h;by_cases hk:x.1=k
  .rw[bw hk]at e;exact .inr (by rw[<- e,hk])
  .rw[bq hk]at e;exact .inl (by rw[<- e];exact c)
 .rcases XV.mp h with h | h
  .exact .inl h
  .exact .inr ↑h
def Nums.put(h:Nums cs N d){w:V}(hk:∃c∈cs,∃v:Nat,v<=8/\k=qR c/\w=V.int (v:Nat)):Nums cs (N+1) (putK d k w):=by
 refine⟨λm f=>?_,?_,?_⟩
 .rcases zp0 f with h1 | h1
  .exact h.vals m h1
  .subst h1;exact hk
 .rcases zdV d k w with ⟨_,e⟩ | ⟨l,e⟩
  .rw[e];exact h.nd
  .rw[e,WE];refine⟨h.nd,"s",λa i b j e=>l ?_⟩;have g:b=k:=by simpa using j
   rw[<- g,<- e];exact i
 .have:=JB d k w;have:=h.len;lia
def jZ(a:KV1)(i:Nat)(t:List Nat):List Nat:=t.mapIdx λj c=>dig a (i,j) c
def zp1(a:KV1)(i:Nat)(t:Str):Str:=⟨(jZ a i t.cps.toList).toArray⟩
def zcB(a:KV1)(rs:AD):AD:=rs.mapIdx λi t=>zp1 a i t
def zcd(a)(i)(t):(zp1 a i t).cps.toList=jZ a i t.cps.toList:=by
 show (jZ a i t.cps.toList).toArray.toList=_;rw[Ou]
def zkJ{b:Str}(h:a.cps.toList=b.cps.toList):a=b:=by
 obtain⟨⟨x⟩⟩:=a;obtain⟨⟨y⟩⟩:=b;have:x=y:=h;rw[this]
def zd5(h:rs[i]?=some t):(zcB a rs)[i]?=some (zp1 a i t):=by
 unfold zcB;rw[OH,h];rfl
def Zk(a)(rs):(zcB a rs).length=rs.length:=by
 unfold zcB;rw[Vf]
def zce(h:t[j]?=some c):(jZ a i t)[j]?=some (dig a (i,j) c):=by
 unfold jZ;rw[OH,h];rfl
def zsi:∀v:Nat,v<=8->48+v∈bd.cps.toList:="q"
def Rows.put(h:Nums cs N a)(R:Rows bd.cps.toList rs):Rows bd.cps.toList (zcB a rs):=by
 obtain⟨n,s,w,p⟩:=R.ex;refine⟨by rw[Zk];exact R.lo,by rw[Zk];exact R.hi,n,s,w,λt q=>?_⟩;obtain⟨i,b⟩:=R9 q;cases e:rs[i]? with
 | none =>
  have h0:=Uy.mp e;rw[Uy.mpr (by rw[Zk];exact h0)]at b;cases b
 | some u =>
  rw[zd5 e]at b;have o:=Option.some.inj b;subst o;have l:=p u (X7 e);refine⟨?_,λc g=>?_⟩
  .rw[<- XX,zcd];unfold jZ;rw[Vf,XX];exact l.len
  .rw[zcd]at g;obtain⟨j,d⟩:=R9 g;cases e2:u.cps.toList[j]? with
   | none =>
    have h0:=Uy.mp e2;rw[Uy.mpr (by unfold jZ;rw[Vf];exact h0)]at d;cases d
   | some k =>
    rw[zce e2]at d;have m:=Option.some.inj d;subst m;unfold dig;rcases h.at (i,j) with f | ⟨v,r,_,f⟩
    .rw[f];exact l.mem k (X7 e2)
    .rw[f];exact zsi v r
def zn7:Sp:=λf H Q _=>∃(p l d:Addr) (c:AD) (n:Int) (e:AB) (N:Nat) (a:KV1),f=[.ref p,.ref d]/\qd H p l c n/\Rows bd.cps.toList c/\H d=some (.dT a)/\Nums e N a /\
 ∀(q l2:Addr) (b:Hp),H q=none->H l2=none->qd b q l2 (zcB a c) n->zx H b->Q (.ref q) b
theorem join_ones:∀cs:List Nat,(T1 "" (cs.map λc=>(⟨#[c]⟩:Str))).cps.toList=cs
 | []=>rfl
 | [c]=>rfl
 | c::e::r=>by
  have h:(T1 "" ((c::e::r).map λc=>(⟨#[c]⟩:Str))).cps=#[c]++("":Str).cps++(T1 "" ((e::r).map λc=>(⟨#[c]⟩:Str))).cps:=rfl;rw[h,Wz,Wz,join_ones (e::r)];rfl
def zlX(a)(i)(t):T1 "" ((jZ a i t.cps.toList).map λc=>(⟨#[c]⟩:Str))=zp1 a i t:=zkJ (by rw[join_ones,zcd])
def zsj:∀d:Nat,d<=8->((toString (d:Int):String):Str)=⟨#[48+d]⟩:="q"
theorem zie:∀cs:List Nat,((cs.map λc=>(⟨#[c]⟩:Str)).map (·.length)).sum=cs.length
 | []=>rfl
 | c::r=>by
  rw[Xs,Xs,UN,zie r,Xf];show 1+r.length=_;lia
def YF:zD ["board","numbers","rows","row","text","signs"] ["board","numbers"] (zv zbh):=bh
def zlY(T:Txt mg)(D:zh K mg "opened" zbh ["board","numbers"] f fd):qm P w K mg base CX0 1 f fd ["board","numbers"] zn7:=by
 refine D.F.ok YF "l" (λak A ah s H vs Q E hr h=>?_)
 .revert h;refine fU λp l d G=>gz λn cs N a z0 b R hd hN q=>?_;subst z0;refine⟨_,(@ze _ _ _ _ _ (@qv _ _ 2 _ _ _ _ YF.nd rfl (Wm rfl) (@qa _ _ _ _ zd) "r" (.inr rfl)) (ze (qN Xd rfl (JA "r" T.je (za (zQ qk (pvS 0) zf (λ_ _=>rfl)) zd)) (JH rfl (zY (pgq 3 YF.nd) (zY (pgq 4 YF.nd) jR))) (ze (psC 5 YF.nd ["column","sign","numbers","row"] [none,none,some 1,some 3] cR (zgW "r" T.je (za (pvS 4) zd)) (zcV (n:=2) (K:=K) "r" rfl (zY (pgN 0) (zY (pgN 1) jR))) qp (pt1 zhd T.ztn PyProof.Rows.boot_str (zg8 (u1 hr.units) (pvS 2) (qu (za (pvS 3) (za (pvS 0) zd))) (pvS 1) ⟨rfl,rfl,rfl,rfl⟩))) (zg (jA (JK WX Wo Wn jU (pvS 2) (@za _ _ _ _ _ (@JK _ _ _ _ _ _ _ _ _ _ _ _ PySem.F.plainAttrs_str PySem.F.slot_str_join PySem.F.type_str_join zo1 jQ (za (pvS 5) zd) "r" "r" "r" "r" "r") zd rfl)))))) (zg (zF (qu (za (pvS 2) (za (zQ qk (pvS 0) zf (λ_ _=>rfl)) zd))))))),?_⟩;ac_nf;refine⟨xo,λB u=>?_⟩;have s0:zx H (upd H B (.lst [])):=zc u;have am:=R.hi;refine⟨_,rfl,p,_,0,_,rfl,rfl,SqT.of (b.mono s0).tp,rfl,l,rfl,⟨_,SqL.of (b.mono s0).rw⟩,?_⟩;refine xZ (K:=K) (l:=l) (xs:=G.map V.str) (λi r y=>∃(v3 v4 v5:Option V),r=[some (.ref p),some (.ref d),some (.ref B),v3,v4,v5]/\zx H y/\y B=some (.lst (((zcB a G).take i).map V.str)))
   (fN _ _ _ rfl s0 zb) (λi r y _ ⟨_,_,_,_,s1,_⟩=>SqL.of (b.mono s1).rw) ?_ ?_
  .refine λi x tt r H1 hx af=>gi λv3 v4 v5 z0 s1 g=>?_;subst z0;rw[Xp]at hx;cases e:G[i]? with
   | none =>
    rw[e]at hx;cases hx
   | some t =>
    rw[e]at hx;cases hx;have aj:t.cps.toList.length<=8:=R.short _ (X7 (qL e));have al:i<G.length:=(X6.mp e).1;have st:zx H1 (upd H1 tt (.tup [.int (i:Nat),.str t])):=zc af;refine eO tt _ rfl (SqT.of zb) rfl _ _ rfl _ _ rfl rfl ?_;have s2:=s1.trans st;have O:=st _ _ g;generalize upd H1 tt (.tup [.int (i:Nat),.str t])=H2 at *
    refine⟨_,rfl,t,rfl,λz hz=>?_⟩;refine zdg (x:=t) (λj r y=>∃(u0 u1:Option V),r=[u0,u1,some (.ref d),some (.int (i:Nat))]/\zx H2 y/\y z=some (.lst (((jZ a i t.cps.toList).take j).map λc=>V.str ⟨#[c]⟩))) (ef _ _ rfl (zc hz) zb) ?_ ?_
    .refine λj c t2 r J hc ae=>fS λu0 u1 z0 I m=>?_;subst z0;have ac:t.cps.toList[j]?=some c:=by rw[W6];exact hc
     refine eO t2 _ rfl (SqT.of zb) rfl _ _ rfl _ _ rfl rfl ?_;have s4:zx J (upd J t2 (.tup [.int (j:Nat),.str ⟨#[c]⟩])):=zc ae;have U:=s4 _ _ (I _ _ (s2 _ _ hd));have ag:=s4 _ _ m;have ai:=I.trans s4;generalize upd J t2 (.tup [.int (j:Nat),.str ⟨#[c]⟩])=H4 at *
     unfold zmm;refine zdc ⟨_,rfl,d,rfl,.inr ⟨a,.inl U⟩,_,rfl,_,rfl,yL,λtp aa=>⟨_,rfl,qX a (qR (i,j)),?_,?_⟩⟩
     .exact zaH.t (k:=qR (i,j)) (zc aa _ _ U) zb
     have s5:=zc (o:=.tup [.int (i:Nat),.int (j:Nat)]) aa;have fin:∀k:Nat,k=dig a (i,j) c->∃ys,upd H4 tp (.tup [.int (i:Nat),.int (j:Nat)]) z=some (.lst ys)/\ys.length<Xz/\∃(u0 u1:Option V),[some (V.int (j:Nat)),some (V.str ⟨#[c]⟩),some (.ref d),some (.int (i:Nat))]=[u0,u1,some (.ref d),some (.int (i:Nat))]/\zx H2 (upd (upd H4 tp (.tup [.int (i:Nat),.int (j:Nat)])) z (.lst (ys++[V.str ⟨#[k]⟩])))/\upd (upd H4 tp (.tup [.int (i:Nat),.int (j:Nat)])) z (.lst (ys++[V.str ⟨#[k]⟩])) z=some (.lst (((jZ a i t.cps.toList).take (j+1)).map λc=>V.str ⟨#[c]⟩)):=λk hk=>by
      refine dX _ (s5 _ _ ag) ?_ (ef _ _ rfl (λb' o L=>?_) ?_)
      .rw[ZB,XH];unfold jZ;rw[Vf];exact XM (show _<=8 by lia) "d"
      .rw[zq (zj L hz)];exact s5 _ _ (ai _ _ L)
      .rw[zb,take_snoc (zce ac),XD,hk];rfl
     rcases hN.at (i,j) with M | ⟨v,hv,_,M⟩
     .rw[M];exact ef _ _ rfl (.inl rfl) (fin c (by unfold dig;rw[M]))
     .rw[M];refine ef _ ⟨#[48+v]⟩ rfl (.inr ⟨(v:Nat),rfl,?_,(zsj v hv).symm⟩) (fin (48+v) (by unfold dig;rw[M];rfl));have:∀v:Nat,v<=8->((v:Nat):Int).natAbs.log2<1920:="q"
      exact this v hv
    .refine λr J=>fS λu0 u1 z0 I m=>?_;subst z0;have ez:(jZ a i t.cps.toList).take t.cps.size=jZ a i t.cps.toList:=Wd (by unfold jZ;rw[Vf,XX];exact XQ _);rw[ez]at m;have ab:J z=some (.lst (((jZ a i t.cps.toList).map λc=>(⟨#[c]⟩:Str)).map V.str)):=by
      rw[m,Wf];rfl
     have pl:(jZ a i t.cps.toList).length<=8:=by
      unfold jZ;rw[Vf];exact aj
     refine⟨_,rfl,.inl ⟨rfl,_,SqL.of (I _ _ O)⟩,rfl,_,rfl,"",z,_,rfl,rfl,SqL.of ab,?_,B,_,_,rfl,rfl,I _ _ O,?_,?_⟩
     .rw[zie,ZB];have:("":Str).length=0:=rfl;rw[this];lia
     .rw[ZB,XH,Zk];exact XM (show _<=8 by lia) "d"
     .rw[zlX];refine fN _ _ _ rfl (λb' o L=>?_) ?_
      .rw[zq (zj L u)];exact I _ _ (s2 _ _ L)
      .rw[zb,take_snoc (zd5 e),XD];rfl
  .refine λr H1=>gi λv3 v4 v5 z0 s1 g=>?_;subst z0;rw[ZB,<- Zk a G,XF]at g;refine⟨_,rfl,_,rfl,p,_,1,_,rfl,rfl,SqT.of (b.mono s1).tp,rfl,yL,λq2 Y=>?_⟩;have s2:=zc (o:=.tup [.ref B,.int n]) Y;exact q q2 B _ (s1.free Y) u ⟨zb,s2 _ _ g⟩ (s1.trans s2)
def swC(c d k:Nat):Nat:=if k=c then d else k
def zkK{l:List Nat}(h:c ∉ l):l.map (swC c d)=l:=by
 induction l with
 | nil=>rfl
 | cons a r b =>
  rw[Xs,b λz=>h (XS _ z)];unfold swC;rw[bq λz:a=c=>h (z ▸ XU)]
def zp2(c d)(ps:AD)(h:∀p∈ps,c ∉ p.cps.toList):(T1 ⟨#[c]⟩ ps).cps.toList.map (swC c d)=(T1 ⟨#[d]⟩ ps).cps.toList:=by
 induction ps with
 | nil=>rfl
 | cons p r b =>
  cases r with
  | nil=>exact zkK (h p XU)
  | cons q r =>
   have b:=b λa g=>h a (XS _ g);have e:∀z:Str,(T1 z (p::q::r)).cps.toList=p.cps.toList++z.cps.toList++(T1 z (q::r)).cps.toList:=λz=>by
    have e:(T1 z (p::q::r)).cps=p.cps++z.cps++(T1 z (q::r)).cps:=rfl;rw[e,Wz,Wz]
   rw[e,e,XD,XD,b,zkK (h p XU)];have f:(⟨#[c]⟩:Str).cps.toList.map (swC c d)=(⟨#[d]⟩:Str).cps.toList:=by
    show [swC c d c]=[d];unfold swC;rw[bw rfl]
   rw[f]
def Q4(x)(c d):(Ut x ⟨#[c]⟩ ⟨#[d]⟩).cps.toList=x.cps.toList.map (swC c d):=by
 rw[StrLaws.replace_one,<- zp2 c d _ (StrLaws.split_free x c),StrLaws.join_split]
def Q5(k:Nat):Nat:=if k=35 then 35 else 63
def zao(t:Str):Str:=⟨(t.cps.toList.map Q5).toArray⟩
def Yc(rs:AD):AD:=rs.map zao
def zgz:(".":Str)=⟨#[46]⟩:="q"
def zfu:∀k∈fdS.cps.toList,swC 111 63 (swC 46 63 k)=Q5 k/\Q5 k∈bs.cps.toList:="q"
def zif(t):(zao t).cps.toList=t.cps.toList.map Q5:=rfl
def zsk(r:Row fdS.cps.toList n t):Ut (Ut t "." "?") "o" "?"=zao t:=by
 apply zkJ;rw[zgz,zid,zdH,Q4,Q4,zif,Wf];exact Wa λk hk=>(zfu k (r.mem k hk)).1
def zp3(r:Row fdS.cps.toList n t):Row bs.cps.toList n (zao t):=by
 refine⟨?_,λc a=>?_⟩
 .show (t.cps.toList.map Q5).toArray.size=n;rw[Xx,ZB,XX];exact r.len
 .rw[zif]at a;obtain⟨k,hk,rfl⟩:=XE.mp a;exact(zfu k (r.mem k hk)).2
def zd6(R:Rows fdS.cps.toList rs):Rows bs.cps.toList (Yc rs):=by
 obtain⟨e,f,n,c,d,h⟩:=R;refine⟨?_,?_,n,c,d,λt a=>?_⟩
 .unfold Yc;rw[ZB];exact e
 .unfold Yc;rw[ZB];exact f
 .obtain⟨u,b,rfl⟩:=XE.mp a;exact zp3 (h u b)
def zd7(R:Rows b rs):(Cells.zK p 0 (codes rs)).length<=64:=by
 have h1:=Cells.jc p 0 (codes rs) λu a=>R.short u a;have h2:=R.hi;rw[jf]at h1;lia
def zqM:∀c∈bs.cps.toList,c∈bd.cps.toList:="q"
def stC(rs:AD):AB:=Cells.zK (λc=>zU c&&decide (c=111)) 0 (codes rs)
def YG(rs:AD)(c:AA):Nat:=((stC rs).filter λx=>Cells.near x c).length
def zn8{l:AB}(h:l.Nodup)(c):(l.filter λx=>Cells.near x c).length<=8:=by
 obtain⟨i,j⟩:=c;refine((h.sublist Xn).length_le_of_subset (l₂:=[(i-1,j-1),(i-1,j),(i-1,j+1),(i,j-1),(i,j+1),(i+1,j-1),(i+1,j),(i+1,j+1)]) λx g=>?_);obtain⟨a,b⟩:=x;obtain⟨⟨h1,h2⟩,⟨d,e⟩,f⟩:=(Cells.Yp _ _).mp (XW.mp g).2;simp only[QQ]at h1 h2 d e f;simp only[XG,QQ,Vx,or_false];lia
def zlZ(p)(gs):(Cells.zK p 0 gs).Nodup:=(Cells.jH p 0 gs).imp λ{a b} h e=>by
 subst e;rcases h with h | h<;>lia
def zd8(rs)(c):YG rs c<=8:=zn8 (zlZ _ _) c
theorem zkL(i):∀(j:Nat) (t:List Nat),Cells.qh zU i j (t.map Q5)=Cells.qh zU i j t
 | _,[]=>rfl
 | j,k::r=>by
  have e:zU (Q5 k)=zU k:=by
   unfold zU Q5;by_cases h:k=35
   .rw[bw h,h]
   .rw[bq h,bf h];rfl
  simp only[Xs,Cells.qh,e,zkL i (j+1) r]
theorem zgA:∀(i:Nat) (rs:AD),Cells.zK zU i (codes (Yc rs))=Cells.zK zU i (codes rs)
 | _,[]=>rfl
 | i,t::r=>by
  have e:codes (Yc (t::r))=t.cps.toList.map Q5::codes (Yc r):=rfl;have a:codes (t::r)=t.cps.toList::codes r:=rfl;rw[e,a];simp only[Cells.zK,zkL,zgA (i+1) r]
def zig(rs):(Cells.zK zU 0 (codes rs)).filter (λx=>decide (x∈stC rs))=stC rs:=by
 unfold stC;rw[<- Cells.all_filter (p:=zU) (q:=λk=>decide (k=111)) (codes rs)];refine U3 λx a=>?_;rw[V9,bu,XW];exact⟨λh=>h.2,λh=>⟨a,h⟩⟩
def zd9(rs)(c):((zE (Yc rs) c).filter λx=>decide (x∈stC rs)).length=YG rs c:=by
 unfold zE YG;rw[zgA,UD];conv=>rhs;rw[<- zig rs,UD]
 congr 1;refine U3 λx _=>?_;exact Bool.and_comm _ _
def zeK(rs:AD)(cs:AB):KV1:=cs.foldl (λa c=>putK a (qR c) (V.int (YG rs c:Nat))) []
def zl0(rs)(cs)(c):zeK rs (cs++[c])=putK (zeK rs cs) (qR c) (V.int (YG rs c:Nat)):=by
 unfold zeK;rw[Re];rfl
def zl1{cs':AB}(rs)(d:Nums cs N b)(h:∀c∈cs',c∈cs):Nums cs (N+cs'.length) (cs'.foldl (λa c=>putK a (qR c) (V.int (YG rs c:Nat))) b):=by
 induction cs' generalizing N b with
 | nil=>exact d
 | cons c r f =>
  have:=f (d.put (w:=V.int (YG rs c:Nat)) ⟨c,h c XU,YG rs c,zd8 rs c,rfl,rfl⟩) λx e=>h x (XS _ e);rw[Xf,Nat.add_comm r.length 1,<- Nat.add_assoc];exact this
def zju(rs)(cs):Nums cs cs.length (zeK rs cs):=by
 have:=zl1 rs (Nums.nil cs 0) (cs':=cs) λ_ h=>h;rw[VT]at this;exact this
def zn9(rs)(cs):(zeK rs cs).length<=cs.length:=(zju rs cs).len
def qM(rs:AD)(cs:AB):AD:=zcB (zeK rs cs) (Yc rs)
def zcf:Sp:=λf H Q _=>∃(l c:Addr) (b:AD) (e:AE) (a:AB),f=[.ref l,.ref c]/\H l=some (.lst (b.map V.str))/\Rows fdS.cps.toList b/\H c=some (.lst e)/\Cel H e a/\a.length<=64/\(∀x∈a,x.1<8/\x.2<8) /\
 ∀(p l2:Addr) (d:Hp),H p=none->H l2=none->qd d p l2 (qM b a) ((stC b).length:Nat)->zx H d->Q (.ref p) d
def JG:zD ["field","cells","stones","hidden","numbers","cell"] ["field","cells"] (zv Y6):=bh
def zcC(T:Txt mg)(Z:Prog K mg)(D:zh K mg "board_at" Y6 ["field","cells"] f fd):yM 448 P w K mg base CX0 4 f fd ["field","cells"] zcf:=by
 obtain⟨aM,aK,ar⟩:=Z.stones_of;obtain⟨aJ,aI,jd⟩:=Z.cells_with;obtain⟨yu,jO,zB⟩:=Z.cells_of;obtain⟨yZ,yt,zw⟩:=Z.sign_at;obtain⟨aO,aN,au⟩:=Z.board_of;obtain⟨QX,YD,zR⟩:=Z.around;obtain⟨aQ,aP,av⟩:=Z.opened;refine D.F.okT JG "l" (λaF A a9 s H vs Q E hr h=>?_)
 .revert h;refine gA λl c g ws cs z0 hl R hc=>gg λhw aE a2 q=>?_;subst z0;refine⟨_,(zW (PS.at_ (qz 2 JG.nd (pc0 (zgw T ar jd zB zw) hr ar (za (pvS 0) zd)))) (zW (zaf (i:=3) JG.nd rfl (Wm rfl) (ztg (zic T Z au) hr au (xM (zmY (N:=["text"]) (src:=[none]) (yd.plain rfl "q" "q" "q" rfl "d") rfl (zN (pvS 0)) (λ_ _ _ _ _=>(zfC (i:=0) (by show Pz (["text"]:AD);decide+kernel) rfl (Wm rfl))) (λ_ _ _ _ _=>qp) (λ_ _ _ _ _=>(zkh T.Za.choose_spec.1 T.Za.choose_spec.2.1 T.Za.choose_spec.2.2 (zkh T.J9.choose_spec.1 T.J9.choose_spec.2.1 T.J9.choose_spec.2.2 (PE.at_ (pvS 0)))))) (xM (PE.at_ (pb1 zH T.qQ Xl (pvS 2))) (PA.at_ zd))))) (PSs.at_ (@ze _ _ _ _ _ (@qv _ _ 4 _ _ _ _ JG.nd rfl (Wm rfl) zmy "r" (.inr rfl)) (ze (qN Xd rfl (zN (pvS 1)) (pgq 5 JG.nd) (zg (zj2 (u1 hr.units) (pvS 4) (pvS 5) (pb1 zH T.qQ Xl (pcm ["place","stones"] [none,some 2] cR (zN (pc0 (Yw T zR) hr zR (za (pvS 3) (za (pvS 5) zd)))) (pgN 0) (qA (zI (jC (K:=K) "r" hr.units) (pvS 0) (pvS 1) "r")) (pvS 0))) rfl))) (zg (zF (pc0 (zlY T av) hr av (za (pvS 3) (za (pvS 4) zd)))))))))),?_⟩;ac_nf;refine⟨_,rfl,l,g,rfl,hl,R,λd M H1 hd ai O s1=>?_⟩;have O:Cel H1 M (stC g):=O;have am:=s1 _ _ hl;have aB:=O.length;have aD:(stC g).length<=64:=zd7 R;refine fT (λn n1 n8 an=>?_) R.ex;refine⟨_,rfl,l,rfl,⟨_,SqL.of am⟩,λy hy=>?_⟩;refine qj (K:=K) (a:=l) (xs:=g.map V.str) (λi I H'=>(∃u0,I=[u0])/\zx H1 H'/\H' y=some (.lst (((g.take i).map zao).map V.str))) ⟨⟨_,rfl⟩,zc hy,zb⟩ (λi I H' _ ⟨_,s6,_⟩=>SqL.of (s6 _ _ am)) ?_ ?_
  .rintro i x I H' hx ⟨⟨u0,rfl⟩,s6,U⟩;rw[Xp]at hx;obtain⟨t,ht,rfl⟩:=Vr.mp hx;have r:=an t (X7 ht);have i8:i<g.length:=(X6.mp ht).1;have tl:t.length=n:=r.len;have aH:(Ut t "." "?").length=n:=by
    rw[<- tl];have e:(Ut t "." "?").cps.toList.length=t.cps.toList.length:=by
     rw[zgz,zdH,Q4,ZB]
    exact e
   refine yE ⟨_,rfl,t,rfl,"a",_,rfl,"a",?_⟩;rw[zsk r];refine eu _ U (XM (show _<=8 from ?_) "d") ⟨_,rfl⟩ (λb o e=>?_) ?_
   .rw[ZB,ZB,XH];have:=R.hi;lia
   .rw[zq (zj e hy)];exact s6 _ _ e
   .rw[zb,XC,ht,XD,XD];rfl
  .refine λI H6=>fX λ_ s6 U=>?_;rw[ZB,XF]at U;refine⟨_,rfl,d,_,rfl,.inl (SqL.of (s6 _ _ ai)),y,Yc g,_,rfl,U,zd6 R,"a","a",λlb p a4 hp a6=>?_⟩;have z1:=zc (o:=.lst ((Yc g).map V.str)) a4;have a5:upd H6 lb (.lst ((Yc g).map V.str)) p=none:=by
    rw[zq a6];exact hp
   have z2:=zc (o:=.tup [.ref lb,.int (M.length:Nat)]) a5;have BH:qd (upd (upd H6 lb (.lst ((Yc g).map V.str))) p (.tup [.ref lb,.int (M.length:Nat)])) p lb (Yc g) (M.length:Nat):=⟨zb,z2 _ _ zb⟩;have aA:=z1.trans z2;generalize upd (upd H6 lb (.lst ((Yc g).map V.str))) p (.tup [.ref lb,.int (M.length:Nat)])=H8 at *
   have aq:=s6.trans aA;have aa:=s1.trans aq;intro dn ak;have z9:=zc (o:=.dT []) ak;have Rh:Rows bd.cps.toList (Yc g):=(zd6 R).mono zqM;refine⟨_,rfl,c,rfl,⟨_,SqL.of (z9 _ _ (aa _ _ hc))⟩,?_⟩;refine yi (K:=K) (a:=c) (xs:=ws) (λi I H'=>∃v,I=[some (.ref l),some (.ref c),some (.ref d),some (.ref p),some (.ref dn),v]/\zx H8 H'/\H' dn=some (.dT (zeK g (cs.take i)))) ⟨_,rfl,z9,zb⟩ (λi I H' _ ⟨_,_,B,_⟩=>SqL.of (B _ _ (aa _ _ hc))) ?_ ?_
   .refine λi x I ay hx=>fT λv z0 B j=>?_;subst z0;refine fW (λk hk ca z0 ah=>?_) (Cel.get (hw.mono (aa.trans B)) hx);subst z0;obtain⟨k1,k2⟩:=a2 k (X7 hk);refine⟨_,rfl,_,rfl,p,lb,ca,Yc g,_,k.1,k.2,rfl,BH.mono B,Rh,ah,"a","a",λda wa ag aG aw ax ab=>(dX da rfl ⟨_,SqL.of aw⟩ (λz hz=>?_))⟩;have wl:=ax.length;have a1:=Jw Rh k;have ae:=aq.trans (B.trans ab);refine qE (K:=K) (a:=da) (xs:=wa) (λa=>a≠z) ((zE (Yc g) k).map λx=>if decide (x∈stC g)=true then some (zA x) else none) (fun I=>∃u0,I=[u0,some (.ref d)]) hz (λ_ h=>h) ⟨_,rfl⟩ (by rw[ZB];exact wl.symm) (by rw[wl];exact X5 a1 "d") (SqL.of aw) ?_ ?_
    .rintro m x o I az hx ho L _ ⟨u0,rfl⟩ Y Z aC no;obtain⟨y2,a8,r2⟩:=Cel.get (ax.mono L) hx;have eo:=yf a8 ho;have aj:=(ae.trans L) _ _ ai;refine⟨_,rfl,_,rfl,zA y2,(stC g).map zA,xP.rdv r2,.lst (SqL.of aj) (zcJ (O.mono (ae.trans L))),rfl,zb6 _,(by show 1<=60;decide),_,rfl,?_⟩;have ei:(if false=true then !((stC g).map zA).any (λz=>WW z (zA y2)) else ((stC g).map zA).any λz=>WW z (zA y2))=decide (y2∈stC g):=by
      rw[bq XJ,ZC,V9,WH,bu];constructor
      .rintro⟨u,hu,e⟩;rw[<- bg e];exact hu
      .exact λh=>⟨y2,h,br rfl⟩
     by_cases hh:decide (y2∈stC g)=true
     .rw[bw hh]at eo;exact ju (ei.trans hh) ⟨_,rfl,aC _ _ _ _ eo ⟨_,rfl⟩ (zx.refl _) (xP.rdn r2)⟩
     .rw[bq hh]at eo;exact qZ (ei.trans (WY.mpr hh)) (no _ _ eo ⟨_,rfl⟩ (zx.refl _))
    .rintro ys az L ao ac;rw[qy]at ac;have yl:=(zJ.cel ac).length;rw[zd9]at yl;have G:=ab.trans L;have al:=zn9 g (cs.take i);rw[XH]at al;refine⟨z,_,rfl,.inl (SqL.of ao),_,rfl,_,rfl,dn,_,rfl,zk9.t (k:=qR k) (G _ _ j) (G _ _ ah) (XM (show _<=64 by lia) "d"),?_⟩;refine dX _ rfl (λb o e=>?_) ?_
     .rw[zq (zj e ak)];exact G _ _ (B _ _ e)
     .rw[zb,XC,hk,yl];exact congrArg (λz=>some (HO.dT z)) (zl0 g _ k).symm
   .rintro I ay ⟨v,rfl,B,j⟩;rw[hw.length,XF]at j;refine⟨_,rfl,_,rfl,p,lb,dn,Yc g,_,cs,_,_,rfl,BH.mono B,Rh,j,zju g cs,λq2 l2 ag a7 a3 af ab=>?_⟩;rw[aB]at af;have J:=aa.trans B;exact q q2 l2 ag (J.free a7) (J.free a3) af (J.trans ab)
def zoa:Sp:=λf H Q _=>∃(l:Addr) (b:AD),f=[.ref l]/\H l=some (.lst (b.map V.str))/\Rows fdS.cps.toList b /\
 ∀(d:Addr) (e:AE) (a:Hp),H d=none->a d=some (.lst e)->Cel a e (Cells.zK (λc=>zU c&&decide (c=46)) 0 (codes b))->zx H a->Q (.ref d) a
def zgC:zD ["field"] ["field"] (zv ZU):=bh
def zgD(T:Txt mg)(D:zh K mg "clears_of" ZU ["field"] f fd)(e:zh K mg "cells_with" yG ["field","sign"] j a)(r:zh K mg "cells_of" qx ["board"] k b)(u:zh K mg "sign_at" qG ["board","cell"] m c) :
  qm P w K mg base CX0 3 f fd ["field"] zoa:=by
 refine D.F.ok zgC "l" (λi A d s H p Q E o h=>?_)
 .revert h;refine fQ λl g z0 n R q=>?_;subst z0;refine⟨_,(zg (zF (pc0 (zaB T e r u) o e (za (pvS 0) (za (jz (v:=.str ".") "r" T.J9.choose_spec.1 (by exact⟨_,rfl⟩)) zd))))),?_⟩;ac_nf;exact⟨_,rfl,l,g,46,by rw[zgz];rfl,n,R,q⟩
def zp5:∀k∈fdS.cps.toList,pIn "." k=(zU k&&decide (k=46)):="q"
theorem zii(i):∀(j:Nat) (t:List Nat),(∀k∈t,p k=q k)->Cells.qh p i j t=Cells.qh q i j t
 | _,[],_=>rfl
 | j,c::r,h=>by
  simp only[Cells.qh,h c XU,zii i (j+1) r λk hk=>h k (XS _ hk)]
theorem zij:∀(i:Nat) (gs:List (List Nat)),(∀t∈gs,∀k∈t,p k=q k)->Cells.zK p i gs=Cells.zK q i gs
 | _,[],_=>rfl
 | i,t::r,h=>by
  simp only[Cells.zK,zii i 0 t (h t XU),zij (i+1) r λu a=>h u (XS _ a)]
def zob(R:Rows a rs)(b:t∈codes rs)(hk:k∈t):k∈a:=by
 obtain⟨u,c,rfl⟩:=XE.mp b;obtain⟨n,_,_,h⟩:=R.ex;exact(h u c).mem k hk
def jK(rs:AD):AB:=Cells.zK (λc=>zU c&&decide (c=46)) 0 (codes rs)
def zl2(R:Rows fdS.cps.toList rs):Cells.zK (pIn ".") 0 (codes rs)=jK rs:=zij 0 _ λt a k hk=>zp5 k (zob R a hk)
def zoc(rs)(c)(cs:AB)(b:KV1):qX (cs.foldl (λa c=>putK a (qR c) (V.int (YG rs c:Nat))) b) (qR c)=if c∈cs then some (V.int (YG rs c:Nat)) else qX b (qR c):=by
 induction cs generalizing b with
 | nil=>rw[bq (λh=>nomatch h)];rfl
 | cons d r f =>
  rw[V6,f];by_cases h:c∈r
  .rw[bw h,bw (XS _ h)]
  .rw[bq h,xJ];by_cases e:c=d
   .subst e;rw[bw rfl,bw XU]
   .rw[bq λz=>e (QZ z),bq λz=>(XG.mp z).elim e h]
def ztK(rs)(cs)(c):qX (zeK rs cs) (qR c)=if c∈cs then some (V.int (YG rs c:Nat)) else none:=zoc rs c cs []
def ztL(rs)(cs)(c)(k):dig (zeK rs cs) c k=if c∈cs then 48+YG rs c else k:=by
 unfold dig;rw[ztK];by_cases h:c∈cs
 .rw[bw h,bw h];show 48+((YG rs c:Nat):Int).toNat=_;rw[Rf]
 .rw[bq h,bq h]
def zod(rs:AD)(cs:AB)(i:Nat)(t:Str):List Nat:=jZ (zeK rs cs) i (t.cps.toList.map Q5)
def zoe(rs)(cs)(i)(t):(zod rs cs i t).length=t.cps.toList.length:=by
 unfold zod jZ;rw[Vf,ZB]
def zgE(h:t.cps.toList[j]?=some k):(zod rs cs i t)[j]?=some (if (i,j)∈cs then 48+YG rs (i,j) else Q5 k):=by
 rw[<- ztL];exact zce (by rw[Xp,h];rfl)
def zof(rs)(cs):(qM rs cs).length=rs.length:=by
 unfold qM Yc;rw[Zk,ZB]
def zgF{i:Nat}(h:rs[i]?=some t):(qM rs cs)[i]?=some ⟨(zod rs cs i t).toArray⟩:=by
 have h2:(Yc rs)[i]?=some (zao t):=by
  unfold Yc;rw[Xp,h];rfl
 exact zd5 h2
def ztM(cs:AB)(c):(cs.map zA).any (λz=>WW z (zA c))=decide (c∈cs):=by
 rw[ZC,V9,WH,bu];constructor
 .rintro⟨u,hu,e⟩;rw[<- bg e];exact hu
 .exact λh=>⟨c,h,br rfl⟩
def zkM{b:AB}(c:a.Pairwise Cells.lex)(d:b.Pairwise Cells.lex)(h:∀x,x∈a↔x∈b):a=b :=
 ((WV (qq c) (qq d)).mpr h).eq_of_pairwise (λx y _ _ h1 h2=>by
  unfold Cells.lex at h1 h2;lia) c d
def Jz:(i,j)∈Cells.zK p 0 (codes (qM rs cs)) ↔ ∃t k,rs[i]?=some t/\t.cps.toList[j]?=some k/\p (if (i,j)∈cs then 48+YG rs (i,j) else Q5 k)=true:=by
 constructor
 .intro h;refine fQ (λu c h1 h2 b _=>?_) (qi h);have d:i<rs.length:=by
   rw[<- zof rs cs];exact(X6.mp h1).1
  obtain⟨t,a⟩:∃t,rs[i]?=some t:=⟨_,X0 d⟩;have h1:(qM rs cs)[i]?=some u:=h1;have h2:u.cps.toList[j]?=some c:=h2;rw[zgF a]at h1;cases h1;have h2:(zod rs cs i t)[j]?=some c:=h2;have e:j<t.cps.toList.length:=by
   rw[<- zoe rs cs i t];exact(X6.mp h2).1
  obtain⟨k,hk⟩:∃k,t.cps.toList[j]?=some k:=⟨_,X0 e⟩;rw[zgE hk]at h2;cases h2;exact⟨t,k,a,hk,b⟩
 .refine fS λt k a hk hp=>?_;have:=Zb (i:=0) (qL (zgF (cs:=cs) a)) (zgE (rs:=rs) (cs:=cs) (i:=i) hk) hp;rwa [VT]at this
def Yd:(i,j)∈Cells.zK p 0 (codes rs) ↔ ∃t k,rs[i]?=some t/\t.cps.toList[j]?=some k/\p k=true:=by
 constructor
 .intro h;refine fQ (λu c h1 h2 a _=>?_) (qi h);exact⟨u,c,h1,h2,a⟩
 .rintro⟨t,k,ht,hk,hp⟩;have:=Zb (i:=0) (qL ht) hk hp;rwa [VT]at this
def zog:∀v:Nat,v<=8->Qw (48+v)=true/\zU (48+v)=true:="q"
def zoh(k):Qw (Q5 k)=false:=by
 unfold Q5;by_cases h:k=35
 .rw[bw h];decide
 .rw[bq h];decide
def zik(k):zU (Q5 k)=zU k:=by
 unfold zU Q5;by_cases h:k=35
 .rw[bw h,h]
 .rw[bq h,bf h];rfl
section
variable {rs:AD}{cs:AB}(hsub:∀x∈cs,x∈jK rs)
include hsub
theorem zbC(x):x∈Cells.zK Qw 0 (codes (qM rs cs))↔x∈cs:=by
 obtain⟨i,j⟩:=x;rw[Jz];constructor
 .refine fS λt k _ _ h=>?_;by_cases e:(i,j)∈cs
  .exact e
  .rw[bq e,zoh]at h;cases h
 .intro h;refine fS (λt k h1 h2 _=>?_) (Yd.mp (hsub _ h));exact⟨t,k,h1,h2,by rw[bw h];exact(zog _ (zd8 rs (i,j))).1⟩
theorem Zl:Cells.zK zU 0 (codes (qM rs cs))=Cells.zK zU 0 (codes rs):=by
 refine zkM (Cells.jH _ _ _) (Cells.jH _ _ _) λx=>?_;obtain⟨i,j⟩:=x;rw[Jz,Yd];constructor
 .refine fS λt k h1 h2 h=>?_;by_cases e:(i,j)∈cs
  .refine fS (λc b g1 g2 a=>?_) (Yd.mp (hsub _ e));rw[h1]at g1;cases g1;rw[h2]at g2;cases g2;exact⟨t,k,h1,h2,(WN.mp a).1⟩
  .rw[bq e,zik]at h;exact⟨t,k,h1,h2,h⟩
 .refine fS λt k h1 h2 h=>?_;refine⟨t,k,h1,h2,?_⟩;by_cases e:(i,j)∈cs
  .rw[bw e];exact(zog _ (zd8 rs (i,j))).2
  .rw[bq e,zik];exact h
theorem zil(h:x∈stC rs):x∈Cells.zK Zz 0 (codes (qM rs cs)):=by
 obtain⟨i,j⟩:=x;obtain⟨t,k,h1,h2,c⟩:=Yd.mp h;have a:k=111:=bg (WN.mp c).2;refine Jz.mpr ⟨t,k,h1,h2,?_⟩;have d:¬ (i,j)∈cs:=λe=>by
  obtain⟨l,g,g1,g2,b⟩:=Yd.mp (hsub _ e);rw[h1]at g1;cases g1;rw[h2]at g2;cases g2;have f:k=46:=bg (WN.mp b).2;lia
 rw[bq d,a];decide
theorem zjv(c):((zE (qM rs cs) c).filter λx=>decide (x∈stC rs)).length=YG rs c:=by
 rw[<- zd9];unfold zE;rw[Zl hsub,zgA]
theorem zeb(h:c∈cs):∃t,(qM rs cs)[c.1]?=some t/\t.cps.toList[c.2]?=some (48+YG rs c):=by
 obtain⟨i,j⟩:=c;refine fS (λt k h1 h2 _=>?_) (Yd.mp (hsub _ h));refine⟨_,zgF h1,?_⟩;have:=zgE (rs:=rs) (cs:=cs) (i:=i) h2;rw[bw h]at this;exact this
end
def zbD(R:Rows fdS.cps.toList rs):Rows bd.cps.toList (qM rs cs):=Rows.put (zju rs cs) ((zd6 R).mono zqM)
def zcg(R:Rows fdS.cps.toList rs)(h:x∈jK rs):x.1<8/\x.2<8:=by
 refine fS (λt k h1 h2 _=>?_) (qi h);have a:=(X6.mp h1).1;have b:=(X6.mp h2).1;have e:=R.hi;have f:=R.short _ (X7 (qL h1));lia
def zeM(rs:AD)(c:AA):Bool:=decide (c∈stC rs)
def zoi:∀v:Nat,v<=8->Zz (48+v)=false:="q"
def Few(rs:AD):Prop:=(Cells.zK zU 0 (codes rs)).length<=12
section
variable {rs:AD}{cs:AB}(hsub:∀x∈cs,x∈jK rs)
include hsub
theorem zkN:Lay (qM rs cs) ((stC rs).length:Nat) (zeM rs):=by
 constructor
 .have e:(zP (qM rs cs)).filter (zeM rs)=stC rs:=by
   refine zkM ((Cells.jH _ 0 _).sublist Xn) (Cells.jH _ 0 _) λx=>?_;rw[XW];exact⟨λh=>bg h.2,λh=>⟨zil hsub h,br h⟩⟩
  rw[WR,e]
 .intro o d;have c:=(zbC hsub o).mp d;obtain⟨t,h1,h2⟩:=zeb hsub c;have b:Cells.sgn (codes (qM rs cs)) o=48+YG rs o:=Cells.Y0 (qL h1) h2;have e:((clA (qM rs cs) o).filter (zeM rs))=(zE (qM rs cs) o).filter (zeM rs):=by
   unfold clA;rw[UD];refine U3 λx f=>?_;rw[V9,Vi];refine⟨λh=>h.1,λh=>⟨h,?_⟩⟩;exact br (znw (zil hsub (bg h)))
  unfold Z8;have a:((zE (qM rs cs) o).filter (zeM rs)).length=YG rs o:=zjv hsub o;rw[b,WR,e,a];lia
theorem zim(R:Rows fdS.cps.toList rs)(h1:x∈zP (qM rs cs))(h2:zeM rs x=false):x∈jK rs/\x ∉ cs:=by
 obtain⟨i,j⟩:=x;refine fS (λt k b hk a=>?_) (Jz.mp h1);have c:(i,j) ∉ cs:=λe=>by
  rw[bw e,zoi _ (zd8 rs (i,j))]at a;cases a
 refine⟨?_,c⟩;obtain⟨n,_,_,g⟩:=R.ex;have f:=(g t (X7 b)).mem k (X7 hk);have d:∀k∈fdS.cps.toList,k=46\/k=111\/k=35:="q"
 rcases d k f with e | e | e
 .exact Yd.mpr ⟨t,k,b,hk,by rw[e];decide⟩
 .exact absurd (Yd.mpr ⟨t,k,b,hk,by rw[e];decide⟩) (of_decide_eq_false h2)
 .rw[bq c,e]at a;cases a
theorem Few.shut(t:Few rs):(zP (qM rs cs)).length<=12:=by
 refine X5 ((jW (qM rs cs)).length_le_of_subset λx b=>?_) t;rw[<- Zl hsub];obtain⟨i,j⟩:=x;refine fS (λt k h1 h2 a=>?_) (Jz.mp b);refine Jz.mpr ⟨t,k,h1,h2,?_⟩;have:(if (i,j)∈cs then 48+YG rs (i,j) else Q5 k)=63:=bg a;rw[this];rfl
end
theorem zin:∀{i:Nat} {gs:List (List Nat)},(∀t∈gs,(Cells.qh p 0 0 t).length<=m)->(Cells.zK p i gs).length<=m*gs.length
 | _,[],_=>W2 _
 | i,t::r,h=>by
  have h1:=zin (i:=i+1) λu b=>h u (XS _ b);have h2:=h t XU;have e:∀(i a j:Nat) (t:List Nat),(Cells.qh p i j t).length=(Cells.qh p a j t).length:=λi a j t=>by
   induction t generalizing j with
   | nil=>rfl
   | cons c r d =>
    rw[Cells.qh,Cells.qh,XZ,XZ,d];split<;>rfl
  rw[Cells.zK,XZ,Xf,e i 0,Nat.mul_succ];lia
def zsm(R:Rows fdS.cps.toList rs)(h:∀t∈rs,((rs.length*t.cps.size:Nat):Int)<=12):Few rs:=by
 obtain⟨n,_,d,a⟩:=R.ex;have:=zin (p:=zU) (m:=n) (i:=0) (gs:=codes rs) λt b=>by
  obtain⟨u,c,rfl⟩:=XE.mp b;have:=Cells.jV zU 0 0 u.cps.toList;exact X5 this (Nat.le_of_eq (by rw[XX];exact(a u c).len))
 unfold Few;rw[jf]at this;have lo:=R.lo;cases rs with
 | nil=>exact absurd lo "d"
 | cons t r =>
  have h1:=h t XU;rw[(a t XU).len,Pw]at h1;lia
structure Drw (rs:AD)(cs:AB):Prop where
 sub:∀x∈cs,x∈jK rs
 nd:cs.Nodup
def Drw.one(h:c∈jK rs):Drw rs [c]:=⟨λx a=>by rw[Xy.mp a];exact h,List.pairwise_singleton _ _⟩
def Drw.more(R:Rows fdS.cps.toList rs)(d:Drw rs cs)(n:fs.Nodup)(f:∀c∈fs,c∈zP (qM rs cs)/\zeM rs c=false):Drw rs (cs++fs):=by
 refine⟨λx j=>?_,WE.mpr ⟨d.nd,n,λa i b g e=>?_⟩⟩
 .rcases XV.mp j with h | h
  .exact d.sub x h
  .exact(zim d.sub R (f x h).1 (f x h).2).1
 .subst e;exact(zim d.sub R (f a g).1 (f a g).2).2 i
def Drw.len(d:Drw rs cs):cs.length<=(jK rs).length:=d.nd.length_le_of_subset d.sub
section
variable {rs:AD}{cs ds:AB}(hsub:∀x∈ds,x∈jK rs)(hcd:∀x∈cs,x∈ds)
include hsub hcd
theorem zfv(h:x∈zP (qM rs ds)):x∈zP (qM rs cs):=by
 obtain⟨i,j⟩:=x;refine fS (λt k c hk a=>?_) (Jz.mp h);have b:(i,j) ∉ ds:=λe=>by
  rw[bw e,zoi _ (zd8 rs (i,j))]at a;cases a
 rw[bq b]at a;exact Jz.mpr ⟨t,k,c,hk,by rw[bq λe=>b (hcd _ e)];exact a⟩
def zsn(rs:AD)(ds:AB)(L:AA->Bool)(x:AA):Bool:=L x&&decide (x∈zP (qM rs ds))
theorem zoj(L):(clA (qM rs cs) o).countP (zsn rs ds L)=(clA (qM rs ds) o).countP L:=by
 rw[WR,WR];refine UY ((WV ((Zi _ o).sublist Xn) ((Zi _ o).sublist Xn)).mpr λx=>?_);have b:∀x∈cs,x∈jK rs:=λx f=>hsub x (hcd x f);rw[XW,XW];constructor
 .rintro⟨h1,h2⟩;obtain⟨d,e⟩:=WN.mp h2;have c:=bg e;have a:x∈zE (qM rs cs) o:=(XW.mp h1).1;refine⟨(xT c).mp (yY.mpr ?_),d⟩;unfold zE at a ⊢;rw[Zl b]at a;rw[Zl hsub];exact a
 .rintro⟨h1,h2⟩;have c:x∈zP (qM rs ds):=xR h1;have a:x∈zE (qM rs ds) o:=(XW.mp h1).1;refine⟨(xT (zfv hsub hcd c)).mp (yY.mpr ?_),WN.mpr ⟨h2,br c⟩⟩;unfold zE at a ⊢;rw[Zl hsub]at a;rw[Zl b];exact a
theorem zok(h:Lay (qM rs ds) n L):Lay (qM rs cs) n (zsn rs ds L):=by
 have b:∀x∈cs,x∈jK rs:=λx i=>hsub x (hcd x i);constructor
 .rw[<- h.a,WR,WR];congr 1;refine UY ((WV ((jW _).sublist Xn) ((jW _).sublist Xn)).mpr λx=>?_);rw[XW,XW];constructor
  .rintro⟨_,h2⟩;obtain⟨c,d⟩:=WN.mp h2;exact⟨bg d,c⟩
  .rintro⟨h1,h2⟩;exact⟨zfv hsub hcd h1,WN.mpr ⟨h2,br h1⟩⟩
 .intro o g;have e:=(zbC b o).mp g;have f:=hcd o e;rw[zoj hsub hcd,h.o o ((zbC hsub o).mpr f)];obtain⟨t,h1,h2⟩:=zeb b e;obtain⟨j,c,d⟩:=zeb hsub f;unfold Z8;rw[Cells.Y0 (qL h1) h2,Cells.Y0 (qL c) d]
theorem zjw(a:∀x∈zP (qM rs ds),∃L,Lay (qM rs ds) n L/\L x=true)(h:c∈zP (qM rs cs))(l:∀L,Lay (qM rs cs) n L->L c=false):c∈ds:=by
 refine VG λf=>?_;have d:c∈zP (qM rs ds):=by
  obtain⟨i,j⟩:=c;refine fS (λt k m hk b=>?_) (Jz.mp h);rw[bq λe=>f (hcd _ e)]at b;exact Jz.mpr ⟨t,k,m,hk,by rw[bq f];exact b⟩
 obtain⟨L,g,o⟩:=a c d;have:=l _ (zok hsub hcd g);unfold zsn at this;rw[o,br d]at this;cases this
end
abbrev stN (rs:AD):Int:=((stC rs).length:Nat)
def nxt(rs:AD)(cs:AB):AB:=(thF (qM rs cs) (stN rs)).1
def FcR(rs:AD)(n:Int)(w:Str)(fs:AB):Prop:=(w="thoughts"/\¬ zeJ rs/\fs=(thF rs n).1/\∀M,Lay rs n M->∀x∈fs,M x=false)\/(w="sure"/\∀x∈zP rs,x ∉ fs->∃M,Lay rs n M/\M x=true)
structure Fs (rs:AD)(w:Str)(cs fs:AB):Prop where
 nd:fs.Nodup
 f:∀x∈fs,x∈zP (qM rs cs)/\zeM rs x=false
 r:FcR (qM rs cs) (stN rs) w fs
inductive JJ (rs:AD)(w:Str):AB->Option (Str×AB)->Prop
 | end_ {cs:AB}:(jK rs).length<=cs.length->JJ rs w cs (some ("end",cs))
 | big {cs:AB}:¬ (jK rs).length<=cs.length->w="thoughts"->zeJ (qM rs cs)->JJ rs w cs none
 | stuck {cs:AB}:¬ (jK rs).length<=cs.length->Fs rs w cs []->JJ rs w cs (some ("stuck",cs))
 | step {cs fs:AB} {r:Option (Str×AB)}:¬ (jK rs).length<=cs.length->Fs rs w cs fs->fs ≠ []->JJ rs w (cs++fs) r->JJ rs w cs r
def Fs.th(h:Fs rs "thoughts" cs fs):¬ zeJ (qM rs cs)/\fs=nxt rs cs/\∀M,Lay (qM rs cs) (stN rs) M->∀x∈fs,M x=false:=by
 rcases h.r with h | ⟨h,_⟩
 .exact h.2
 .exact absurd h "d"
def Fs.su(h:Fs rs "sure" cs fs):∀x∈zP (qM rs cs),x ∉ fs->∃M,Lay (qM rs cs) (stN rs) M/\M x=true:=by
 rcases h.r with ⟨h,_⟩ | h
 .exact absurd h "d"
 .exact h.2
def zgG(h:JJ rs "thoughts" cs r):JJ rs "thoughts" cs g->r=g:=by
 induction h with
 | end_ e =>
  intro a;cases a with
  | end_=>rfl
  | big k=>exact absurd e k
  | stuck k=>exact absurd e k
  | step k=>exact absurd e k
 | big k _ b =>
  intro a;cases a with
  | end_ e=>exact absurd e k
  | big=>rfl
  | stuck _ f=>exact absurd b f.th.1
  | step _ f=>exact absurd b f.th.1
 | stuck k f =>
  intro a;cases a with
  | end_ e=>exact absurd e k
  | big _ _ b=>exact absurd b f.th.1
  | stuck=>rfl
  | step _ c d=>exact absurd (c.th.2.1.trans f.th.2.1.symm) d
 | step k f d _ i =>
  intro a;cases a with
  | end_ e=>exact absurd e k
  | big _ _ b=>exact absurd b f.th.1
  | stuck _ c=>exact absurd (f.th.2.1.trans c.th.2.1.symm) d
  | step _ c _ a =>
   rw[c.th.2.1,<- f.th.2.1]at a;exact i a
def zkO{w:Str}(R:Rows fdS.cps.toList rs)(h:JJ rs w cs r):Drw rs cs->∀i g,r=some (i,g)->Drw rs g/\(∀x∈cs,x∈g)/\((i="end"/\(jK rs).length<=g.length)\/(i="stuck"/\¬ (jK rs).length<=g.length/\Fs rs w g [])):=by
 induction h with
 | end_ e =>
  intro d i g z;cases z;exact⟨d,λ_ h=>h,.inl ⟨rfl,e⟩⟩
 | big=>exact λ_ _ _ z=>nomatch z
 | stuck k f =>
  intro d i g z;cases z;exact⟨d,λ_ h=>h,.inr ⟨rfl,k,f⟩⟩
 | step k f m _ l =>
  intro d i g z;obtain⟨a,b,c⟩:=l (d.more R f.nd f.f) i g z;exact⟨a,λx j=>b x (Xa _ j),c⟩
def zso(R:Rows fdS.cps.toList rs)(g:Drw rs b)(c:∀x∈zP (qM rs b),∃M,Lay (qM rs b) (stN rs) M/\M x=true)(h:JJ rs "thoughts" cs r):(∀x∈cs,x∈b)->∀w a,r=some (w,a)->∀x∈a,x∈b:=by
 induction h with
 | end_ =>
  intro d w a z;cases z;exact d
 | big=>exact λ_ _ _ z=>nomatch z
 | stuck =>
  intro d w a z;cases z;exact d
 | step k f j _ i =>
  intro d w a z;refine i (λx hx=>?_) w a z;rcases XV.mp hx with hx | hx
  .exact d x hx
  .exact zjw g.sub d c (f.f x hx).1 λM e=>f.th.2.2 M e x hx
def zol{w:Str}(R:Rows fdS.cps.toList rs)(j:c∈jK rs)(h:JJ rs "thoughts" [c] (some (w,i)))(h':JJ rs "sure" [c] (some (l,g))):(∀x∈i,x∈g)/\(l="end"\/w="stuck"):=by
 obtain⟨d,_,m⟩:=zkO R h (Drw.one j) _ _ rfl;obtain⟨a,p,n⟩:=zkO R h' (Drw.one j) _ _ rfl;rcases n with ⟨rfl,e⟩ | ⟨rfl,k,f⟩
 .refine⟨λx b=>?_,.inl rfl⟩;refine VG λq=>?_;have:=(V8.mpr ⟨q,a.nd⟩).length_le_of_subset (l₂:=jK rs) λy o=>(XG.mp o).elim (λz=>z ▸ d.sub x b) (a.sub y);rw[Xf]at this;lia
 .have s:=zso R a (λx b=>f.su x b (λz=>nomatch z)) h p _ _ rfl;refine⟨s,.inr ?_⟩;rcases m with ⟨rfl,e⟩ | ⟨rfl,_⟩
  .exact absurd (X5 e (d.nd.length_le_of_subset s)) k
  .rfl
def zfw(R:Rows fdS.cps.toList rs)(d:∀x∈cs,x∈jK rs)(e:c∈cs):(zP (qM rs cs)).length<=63:=by
 have a:=zb7 (zbD (cs:=cs) R);have b:0<(qD (qM rs cs)).length:=US ((zbC d c).mpr e);lia
structure Facts (K:X4)(C SE C1 C2 C3 C4 C5 C6 C7 C8 C9:Addr)(b1 b2:Bool):Prop where
 fd:QL K C
 mro:Wq K C (.ref SE)=some true
 k1:Xb K (.ref C) (.ref C1)=some b1
 k2:Xb K (.ref C) (.ref C2)=some b2
 k3:Xb K (.ref C) (.ref C3)=some false
 k4:Xb K (.ref C) (.ref C4)=some false
 k5:Xb K (.ref C) (.ref C5)=some false
 k6:Xb K (.ref C) (.ref C6)=some false
 k7:Xb K (.ref C) (.ref C7)=some false
 k8:Xb K (.ref C) (.ref C8)=some false
 k9:Xb K (.ref C) (.ref C9)=some false
 kv:Xb K (.ref C) (.type "ValueError")=some true
def zp6:UU "ValueError"=some (.type "ValueError"):=by with_unfolding_all rfl
def zuz(g:Addr):Sp:=λh H Q E=>∃(p l:Addr) (a:AD) (n:Int) (L:AA->Bool) (w:Str),h=[.ref p,.str w]/\(w="thoughts"\/(w="sure"/\¬ Big a))/\qd H p l a n/\Rows bd.cps.toList a/\(zP a).length<=63/\Lay a n L/\(w="thoughts"->zeJ a->∀b,zx H b->E (.ref g) none b) /\
 ∀(d:Addr) (f:AE) (e:AB) (b:Hp),H d=none->b d=some (.lst f)->Cel b f e->e.Nodup->(∀c∈e,c∈zP a/\L c=false)->FcR a n w e->zx H b->Q (.ref d) b
def zec:zD ["board","way"] ["board","way"] (zv Jv):=bh
def zed(d:qw K mg "TooGreat" jaj)(T:Txt mg)(Z:Prog K mg)(D:zh K mg "found_clear" Jv ["board","way"] f fd):qm P w K mg base (CXE P w) 11 f fd ["board","way"] (zuz jaj):=by
 obtain⟨ae,ac,g⟩:=Z.sure;obtain⟨ab,aa,I⟩:=Z.thoughts;refine D.F.okX zec "l" (λJ A x s H vs Q E z h=>?_)
 .revert h;refine gC λp l i n L wy z0 iw B R=>gg λy k qg q=>?_;subst z0;refine⟨_,(ze (qH (zI xD (pvS 1) jQ (zT _)) (zg (zF (zQ qk (zQ qk (pcL j9 (zcx d T Z I) z I (za (pvS 0) zd)) zf (λ_ _=>rfl)) zf (λ_ _=>rfl)))) zV) (zg (zF (zQ qk (pc0 (zpO d T Z g) z g (za (pvS 0) zd)) zf (λ_ _=>rfl))))),?_⟩;ac_nf;refine⟨_,rfl,rfl,_,rfl,?_⟩;rcases iw with rfl | ⟨rfl,v⟩
  .refine ju "q" ⟨_,rfl,p,l,i,n,L,rfl,B,R,y,k,qg rfl,λt sa Y fc fs us ws N st j v u F r W e s1=>?_⟩;exact⟨t,_,1,_,rfl,rfl,SqT.of u,rfl,Y,_,0,_,rfl,rfl,SqT.of F.tp,rfl,q fc us N j r F.h1 F.c1 (qq W.x1) (λc a=>⟨W.s1 c a,(W.tr L k.tr).no c a⟩) (.inl ⟨rfl,v,by rw[e],λM hM=>(W.tr M hM.tr).no⟩) s1⟩
  .refine qZ "q" ⟨_,rfl,p,l,i,n,L,rfl,B,R,v,k,λt U d2 w1 O j o u b m G hf hu s1=>?_⟩;exact⟨t,_,0,_,rfl,rfl,SqT.of u,rfl,q U w1 O j o b m ((jW i).sublist G) (λc a=>⟨G.subset a,hf c a⟩) (.inr ⟨rfl,hu⟩) s1⟩
def zsp(H:zcX K "run" zcl "sure")(X:K.In h)(G:h.Ns XT mg):∃f fd,zb0 K mg "run" zcl ["field","first","way"] "sure" f fd:=by
 refine H.at X G (λl kV doc k i d j t g e=>?_) (λl kV doc k i d j t g e=>?_)
 .match g,e with
  | [a,b,c],_=>exact⟨_,rfl,rfl⟩
 .match g,e with
  | [a,b],_=>exact⟨_,rfl,rfl⟩
def zon(R:Rows fdS.cps.toList rs):(jK rs).length<=64:=zd7 R
structure zbE (H:Hp)(t r p lb:Addr)(ws:AE)(rs:AD)(w:Str)(cs:AB):Prop where
 tp:H t=some (.tup [.str w,.ref r,.ref p])
 rw:H r=some (.lst ws)
 cel:Cel H ws cs
 bd:qd H p lb (qM rs cs) ((stC rs).length:Nat)
def zoo(h:Addr):Sp:=λi H Q E=>∃(l e:Addr) (a:AD) (c:AA) (d:Str),i=[.ref l,.ref e,.str d]/\(d="thoughts"\/(d="sure"/\Few a))/\H l=some (.lst (a.map V.str))/\Rows fdS.cps.toList a/\H e=some (.tup [.int (c.1:Nat),.int (c.2:Nat)])/\c∈jK a /\
 (JJ a d [c] none->∀b,zx H b->E (.ref h) none b) /\
 ∀w f,JJ a d [c] (some (w,f))->∀(t r p g:Addr) (j:AE) (b:Hp),H t=none->H r=none->H p=none->H g=none->zbE b t r p g j a w f->zx H b->Q (.ref t) b
def cell_in{cs:AB}(h:c∈cs):(if true=true then !(cs.map zA).any (λz=>WW z (zA c)) else (cs.map zA).any λz=>WW z (zA c))=false:=by
 rw[bw rfl,ztM,br h];rfl
def zan(cs:AB):(if false=true then !PyData.eqv (.list (cs.map zA)) (.list []) else WW (.list (cs.map zA)) (.list []))=decide (cs=[]):=by
 rw[bq XJ];cases cs with
 | nil=>rfl
 | cons a r=>rfl
def zgH(h:H a=some (.tup [.int (c.1:Nat),.int (c.2:Nat)])):Cel H [.ref a] [c]:=.cons ⟨a,rfl,h⟩ .nil
def zch:zD ["field","first","way","clear","row","board","found"] ["field","first","way"] (zv zcl):=bh
def zop(ay:qw K mg "TooGreat" jaj)(T:Txt mg)(Z:Prog K mg)(D:zb0 K mg "run" zcl ["field","first","way"] "sure" f fd):yM 448 P w K mg base (CXE P w) 12 f fd ["field","first","way"] (zoo jaj):=by
 obtain⟨aC,aB,ao⟩:=Z.clears_of;obtain⟨a8,a7,jd⟩:=Z.cells_with;obtain⟨yu,jO,zB⟩:=Z.cells_of;obtain⟨yZ,yt,zw⟩:=Z.sign_at;obtain⟨a3,Q6,yw⟩:=Z.board_at;obtain⟨a9,aA,an⟩:=Z.found_clear;have Jb:yM 448 P w K mg base CX0 4 a3 Q6 ["field","cells"] zcf:=zcC T Z yw;refine D.F.okXT zch "l" (λa5 A a1 s H vs Q E Y h=>?_)
 .revert h;refine gA λl ca a c wy z0 iw hl R=>gg λN hc qe q=>?_;subst z0;refine⟨_,(zW (PS.at_ (qz 3 zch.nd (pc0 (zgD T ao jd zB zw) Y ao (za (pvS 0) zd)))) (zW (PS.at_ (qH (zI (zar Y.units) (pvS 1) (pvS 3) "r") (zg xC) zV)) (zW (PS.at_ (qz 4 zch.nd (qa (za (pvS 1) zd)))) (zW (zaf (i:=5) zch.nd rfl (Wm rfl) (pct Jb Y yw (PA.at_ (za (pvS 0) (za (pvS 4) zd))))) (zW (zfe (yj.own j9) (zI zi3 (pb1 zH T.qQ Xl (pvS 4)) (pb1 zH T.qQ Xl (pvS 3)) (zT _)) (zW (PS.at_ (qz 6 zch.nd (pcL j9 (zed ay T Z an) Y an (za (pvS 5) (za (pvS 2) zd))))) (zW (PS.at_ (qH (zI (yS Y.units) (pvS 6) (@qa _ _ _ _ zd) (zT _)) (@zg _ _ _ (@zF _ _ _ _ (@qu _ _ _ _ _ (@za _ _ _ _ _ jQ (za (pvS 4) (za (pvS 5) zd)) rfl)))) zV)) (zW (PS.at_ (jA (JK WX U9 U8 Yg (pvS 4) (za (pvS 6) zd)))) (zdB (zaf (i:=5) zch.nd rfl (Wm rfl) (pct Jb Y yw (PA.at_ (za (pvS 0) (za (pvS 4) zd)))))))))) (PSs.at_ (@zg _ _ _ (@zF _ _ _ _ (@qu _ _ _ _ _ (@za _ _ _ _ _ jQ (za (pvS 4) (za (pvS 5) zd)) rfl)))))))))),?_⟩;ac_nf;refine⟨_,rfl,l,a,rfl,hl,R,λd wd H1 hd ai y s1=>?_⟩;have y:Cel H1 wd (jK a):=y;have ar:=zon R;refine⟨_,rfl,_,rfl,zA c,(jK a).map zA,xP.rdv ⟨ca,rfl,s1 _ _ N⟩,.lst (SqL.of ai) (zcJ y),rfl,zb6 _,(by show 1<=60;decide),_,rfl,qZ (cell_in hc) ?_⟩;refine⟨_,rfl,sz_1,λr B=>?_⟩;have z2:=zc (o:=.lst [.ref ca]) B;have W0:=Drw.one hc;refine⟨_,rfl,_,rfl,l,r,a,_,[c],rfl,(s1.trans z2) _ _ hl,R,zb,zgH ((s1.trans z2) _ _ N),(by show 1<=64;decide),λx hx=>zcg R (W0.sub x hx),λp M H3 hp av B3 s3=>?_⟩;have am:=z2.trans s3;refine⟨λm σ H'=>∃(g:AB) (j:AE) (p M:Addr) (v:Option V),σ=[some (.ref l),some (.ref ca),some (.str wy),some (.ref d),some (.ref r),some (.ref p),v]/\zx H1 H'/\H' r=some (.lst j)/\Cel H' j g/\qd H' p M (qM a g) ((stC a).length:Nat)/\H1 p=none/\H1 M=none/\Drw a g/\c∈g/\(jK a).length<g.length+m/\∀z,JJ a wy g z->JJ a wy [c] z,(fk 65 [c] _ p M none rfl am (s3 _ _ zb) (zgH ((s1.trans am) _ _ N)) (fD B3 (z2.free hp) (z2.free av) W0 (Xy.mpr rfl) (by show _<1+65;lia) (λ_ h=>h))),?_⟩;refine λm σ H4=>gA λg j p M v z0 s4 G u=>gc λB4 ak L W=>fX λab hm ww=>?_;subst z0;have k:=s1.trans s4;have au:=s4 _ _ ai;have wl:=u.length;have dl:=y.length;have cl:=W.len;refine⟨_,rfl,r,_,rfl,.inl (SqL.of G),_,rfl,d,_,rfl,.inl (SqL.of au),_,_,rfl,rfl,_,rfl,?_⟩;by_cases hz:(jK a).length<=g.length
  .refine qZ (bf "a") ?_;refine⟨_,rfl,_,rfl,zeo,λt ht=>?_⟩;have z5:=zc (o:=.tup [.str "end",.ref r,.ref p]) ht;exact q _ _ (ww _ (.end_ hz)) t r p M j _ (k.free ht) (s1.free B) (s1.free ak) (s1.free L) ⟨zb,z5 _ _ G,u.mono z5,B4.mono z5⟩ (k.trans z5)
  .refine ju (br "a") ?_;refine⟨fun aD H'=>∃m',m'<m/\_,λ_ _ h=>h,?_⟩;have RB:Rows bd.cps.toList (qM a g):=zbD R;refine⟨_,rfl,_,rfl,p,M,qM a g,_,zeM a,wy,rfl,iw.imp id (λh=>⟨h.1,zny (X5 (h.2.shut W.sub) "d")⟩),B4,RB,zfw R W.sub ab,zkN W.sub,(λe bt H5 s5=>qe (ww _ (.big hz e bt)) H5 (k.trans s5)),λfo U fs H5 a6 aq ae nd hf fr s5=>?_⟩;have ac:Fs a wy g fs:=⟨nd,hf,fr⟩;refine⟨_,rfl,xo,λn0 aw=>?_⟩;have z6:=zc (o:=.lst []) aw;have n:=s5.trans z6;refine dW (.list (fs.map zA)) (.list []) (.lst (SqL.of (z6 _ _ aq)) (zcJ (ae.mono z6))) (.lst (SqL.of zb) .nil) (zja _ []) ⟨_,rfl,?_⟩;by_cases he:fs=[]
   .refine ju ((zan _).trans (br he)) ?_;refine⟨_,rfl,_,rfl,zeo,λt ht=>?_⟩;have z7:=zc (o:=.tup [.str "stuck",.ref r,.ref p]) ht;have J:=n.trans z7;exact q _ _ (ww _ (.stuck hz (he ▸ ac))) t r p M j _ ((k.trans n).free ht) (s1.free B) (s1.free ak) (s1.free L) ⟨zb,J _ _ G,u.mono J,B4.mono J⟩ (k.trans J)
   .refine qZ ((zan _).trans (bf he)) ?_;have W':=W.more R nd hf;have aa:(g++fs).length<=64:=X5 W'.len ar;have lp:=Ui.mpr he;have O:=n _ _ G;have af:=ae.mono z6;have aj:=z6 _ _ aq;have ah:=u.mono n;have a2:=s4.trans n;generalize upd H5 n0 (.lst [])=H6 at *
    refine⟨_,rfl,.inl ⟨rfl,_,SqL.of O⟩,_,rfl,r,fo,j,U,rfl,rfl,O,aj,?_,?_⟩
    .have:=af.length;rw[XZ]at aa;exact X5 (show j.length+U.length<=64 by lia) "d"
    have ag:=Cel.into r (.lst (j++U)) O (ah.append af);have al:upd H6 r (.lst (j++U)) r=some (.lst (j++U)):=zb;have I:zx H1 (upd H6 r (.lst (j++U))):=λb o e=>by
     rw[zq (zj e B)];exact a2 _ _ e
    generalize upd H6 r (.lst (j++U))=H7 at *
    refine⟨_,rfl,_,rfl,l,r,a,_,_,rfl,(s1.trans I) _ _ hl,R,al,ag,aa,λx hx=>zcg R (W'.sub x hx),λp2 az H8 ax a4 B8 s8=>?_⟩;refine dY (m-1) "a" (eW (g++fs) _ p2 az _ rfl (I.trans s8) (s8 _ _ al) (ag.mono s8) (fD B8 (I.free ax) (I.free a4) W' (Xa _ ab) ?_ (λz h=>ww _ (.step hz ac he h))));rw[XZ];lia
def zsq:Sp:=λh H Q _=>∃(p g:Addr) (b:AD) (n:Int) (L:AA->Bool),h=[.ref p]/\qd H p g b n/\Rows bd.cps.toList b/\(zP b).length<=63/\Lay b n L/\(zeJ b->∀a,zx H a->Q .non a) /\
 ∀(d:Addr) (f:AE) (e:AB) (a:Hp),H d=none->a d=some (.lst f)->Cel a f e->e.Nodup->(∀c∈e,c∈zP b/\L c=false)->FcR b n "thoughts" e->zx H a->Q (.ref d) a
def zqS:Sp:=λi H Q _=>∃(l e d:Addr) (a:AD) (c:AA) (g:AE),i=[.ref l,.ref e,.ref d]/\H l=some (.lst (a.map V.str))/\Rows fdS.cps.toList a/\H e=some (.lst g)/\Cel H g (jK a)/\H d=some (.tup [.int (c.1:Nat),.int (c.2:Nat)])/\c∈jK a /\
 (JJ a "thoughts" [c] none->∀b,zx H b->Q .non b)/\∀w f,JJ a "thoughts" [c] (some (w,f))->∀(t r p h:Addr) (j:AE) (b:Hp),zbE b t r p h j a w f->zx H b->Q (.ref t) b
def Z4:zD ["_law_board","_law_found"] ["_law_board"] (zv Qc):=bh
def ziq(q:qw K mg "TooGreat" jaj)(T:Txt mg)(FT:Wq K jaj (.ref jaj)=some true)(Z:Prog K mg)(D:zh K mg "_law_safe" Qc ["_law_board"] f fd):qm P w K mg base CX0 11 f fd ["_law_board"] zsq:=by
 obtain⟨ac,ab,v⟩:=Z.thoughts;refine D.F.ok Z4 "l" (λaa A I s H vs Q E hr h=>?_)
 .revert h;refine gA λp Y d n L z0 B R J=>fX λN qb qs=>?_;subst z0;refine⟨_,(@ze _ _ _ _ _ (@qv _ _ 1 _ _ _ _ Z4.nd rfl (Wm rfl) Zn "r" (.inr rfl)) (zad (zpg (i:=1) rfl rfl (zcx q T Z v) (hr.mono "d") "r" v.g v.F.kp v.b Z4.nd rfl (Wm rfl) (RN rfl) "r" q (za (pvS 0) zd) (λ_=>(@zg _ _ _ (@qv _ _ 1 _ _ _ _ Z4.nd rfl (Wm rfl) Zn "r" (.inr rfl))))) (ze (qH (zI zfF (pvS 1) Zn (zT _)) (@zg _ _ _ (@zF _ _ _ _ Zn)) zV) (zg (zF (pt1 xE T.zdE UR (zQ qk (zQ qk (pvS 1) zf (λ_ _=>rfl)) zf (λ_ _=>rfl)))))))),?_⟩;ac_nf;refine⟨fun j r=>(zeJ d/\j=[some (.ref p),some .non]/\zx H r)\/(∃(t sa k m fs:Addr) (l u:AE) (a st:AB),j=[some (.ref p),some (.ref t)]/\zx H r/\r t=some (.tup [.ref sa,.ref k])/\x9 r k m fs l u a st/\Fnd d n (zcv d) a st/\thF d n=(a,st)/\¬ zeJ d),?_,?_⟩
  .exact⟨_,rfl,p,Y,d,n,L,rfl,B,R,J,N,λbt x s1=>(dX jaj rfl FT (λe he=>.inl ⟨bt,rfl,s1.trans (zc he)⟩)),λt sa k m fs l u a st x G y F _ W e s1=>.inr (er t sa k m (eW fs l u a st rfl s1 y F (fH W e G)))⟩
  .rintro j x (⟨Bg,rfl,s1⟩ | ⟨t,sa,k,m,fs,l,u,a,st,rfl,s1,y,F,W,e,G⟩)
   .exact⟨_,rfl,rfl,_,rfl,ju (br rfl) (qb Bg x s1)⟩
   .refine⟨_,rfl,rfl,_,rfl,qZ (bf λz=>nomatch z) ?_⟩;refine⟨_,rfl,t,_,1,_,rfl,rfl,SqT.of y,rfl,k,_,0,_,rfl,rfl,SqT.of F.tp,rfl,m,_,rfl,.inl (SqL.of F.h1),λz U=>?_⟩;have zz:=zc (o:=.lst l) U;exact qs z l a _ (s1.free U) zb (F.c1.mono zz) (qq W.x1) (λc O=>⟨W.s1 c O,(W.tr L N.tr).no c O⟩) (.inl ⟨rfl,G,by rw[e],λM hM=>(W.tr M hM.tr).no⟩) (s1.trans zz)
def Qt:zD ["_law_field_here","_law_clears","_law_first","_law_row","_law_safe_here"] ["_law_field_here","_law_clears","_law_first"] (zv zah):=bh
def zjy(am:qw K mg "TooGreat" jaj)(T:Txt mg)(FT:Wq K jaj (.ref jaj)=some true)(Z:Prog K mg)(D:zh K mg "_law_due" zah ["_law_field_here","_law_clears","_law_first"] f fd):yM 448 P w K mg base CX0 12 f fd ["_law_field_here","_law_clears","_law_first"] zqS:=by
 obtain⟨av,au,ac⟩:=Z.law_safe;obtain⟨aq,Q6,yw⟩:=Z.board_at;have Jb:yM 448 P w K mg base CX0 4 aq Q6 ["field","cells"] zcf:=zcC T Z yw;refine D.F.okT Qt "l" (λar A an s H vs Q E U h=>?_)
 .revert h;refine gC λl cl ca j c wc z0 hl R ai=>gc λah ag hc qn q=>?_;subst z0;refine⟨_,(zW (PS.at_ (qz 3 Qt.nd (qa (za (pvS 2) zd)))) (zW (zfe Xd (zI zi3 (pb1 zH T.qQ Xl (pvS 3)) (pb1 zH T.qQ Xl (pvS 1)) (zT _)) (zW (zaf (i:=4) Qt.nd rfl (Wm rfl) (ztg (ziq am T FT Z ac) U ac (xM (pct Jb U yw (PA.at_ (za (pvS 0) (za (pt1 xE T.zdE UR (pvS 3)) zd)))) (PA.at_ zd)))) (zW (PS.at_ (qH (zI zfF (pvS 4) Zn (zT _)) (@zg _ _ _ (@zF _ _ _ _ Zn)) zV)) (zW (zrK (zI (yS U.units) (pvS 4) (@qa _ _ _ _ zd) (zT _)) (zdB (zkg (zki (xM (PE.at_ jQ) (xM (PE.at_ (pvS 3)) (xM (pct Jb U yw (PA.at_ (za (pvS 0) (za (pvS 3) zd)))) (PA.at_ zd))))))) (PSs.at_ zV)) (PSs.at_ (zg (qz 3 Qt.nd (zC JI (pvS 3) (pvS 4))))))))) (zdB (zkg (zki (xM (PE.at_ jQ) (xM (PE.at_ (pvS 3)) (xM (pct Jb U yw (PA.at_ (za (pvS 0) (za (pvS 3) zd)))) (PA.at_ zd))))))))),?_⟩;ac_nf;have L:=zon R;refine⟨_,rfl,sz_1,λr ak=>?_⟩;have z2:=zc (o:=.lst [.ref ca]) ak;refine⟨λm σ H'=>∃(a:AB) (k:AE) (r:Addr) (v:Option V),σ=[some (.ref l),some (.ref cl),some (.ref ca),some (.ref r),v]/\zx H H'/\H' r=some (.lst k)/\Cel H' k a/\Drw j a/\c∈a/\(jK j).length<a.length+m/\∀z,JJ j "thoughts" a z->JJ j "thoughts" [c] z,(eW 65 [c] _ r none rfl z2 zb (zgH (z2 _ _ ag)) (e9 (Drw.one hc) (Xy.mpr rfl) (by show _<1+65;lia) (λ_ h=>h))),?_⟩;refine λm σ H4=>gk λa k r v z0 u e b=>gg λW J hm ww=>?_;subst z0;have wl:=b.length;have dl:=ah.length;have ae:=W.len;have B:a.length<=64:=X5 ae L;have sm:∀x∈a,x.1<8/\x.2<8:=λx hx=>zcg R (W.sub x hx);refine⟨_,rfl,r,_,rfl,.inl (SqL.of e),_,rfl,cl,_,rfl,.inl (SqL.of (u _ _ ai)),_,_,rfl,rfl,_,rfl,?_⟩;by_cases hz:(jK j).length<=a.length
  .refine qZ (bf "a") ?_;refine⟨_,rfl,_,rfl,_,rfl,l,r,j,k,a,rfl,u _ _ hl,R,e,b,B,sm,λp Y H5 hp O B5 s5=>⟨zeo,λt ht=>?_⟩⟩;have z6:=zc (o:=.tup [.str "end",.ref r,.ref p]) ht;exact q _ _ (ww _ (.end_ hz)) t r p Y k _ ⟨zb,(s5.trans z6) _ _ e,b.mono (s5.trans z6),B5.mono z6⟩ (u.trans (s5.trans z6))
  .refine ju (br "a") ?_;refine⟨fun aw H'=>∃m',m'<m/\_,λ_ _ h=>h,?_⟩;have RB:Rows bd.cps.toList (qM j a):=zbD R;refine⟨_,rfl,_,rfl,r,_,rfl,.inl (SqL.of e),λy hy=>?_⟩;have z5:=zc (o:=.lst k) hy;refine eW l y j k a rfl ((u.trans z5) _ _ hl) R zb (e9 (b.mono z5) B sm (λp Y H6 hp O B6 s6=>?_));have aa:=z5.trans s6;refine eW p Y (qM j a) _ (zeM j) rfl B6 RB (zfw R W.sub J) (fH (zkN W.sub) (λBg H7 s7=>?_) (λd w1 fs H7 hd N G nd hf fr s7=>?_))
   .exact⟨_,rfl,rfl,_,rfl,ju (br rfl) (qn (ww _ (.big hz rfl Bg)) H7 (u.trans (aa.trans s7)))⟩
   have M:Fs j "thoughts" a fs:=⟨nd,hf,fr⟩;have ao:=aa.trans s7;refine⟨_,rfl,rfl,_,rfl,qZ (bf λz=>nomatch z) ?_⟩;refine⟨_,rfl,xo,λn0 aj=>?_⟩;have z8:=zc (o:=.lst []) aj;have g:=ao.trans z8;refine dW (.list (fs.map zA)) (.list []) (.lst (SqL.of (z8 _ _ N)) (zcJ (G.mono z8))) (.lst (SqL.of zb) .nil) (zja _ []) ⟨_,rfl,?_⟩;by_cases he:fs=[]
   .refine ju ((zan _).trans (br he)) ?_;refine⟨_,rfl,_,rfl,_,rfl,l,r,j,k,a,rfl,(u.trans g) _ _ hl,R,g _ _ e,b.mono g,B,sm,λp Y H9 hp O B9 s9=>⟨zeo,λt ht=>?_⟩⟩;have ab:=zc (o:=.tup [.str "stuck",.ref r,.ref p]) ht;have n:=g.trans (s9.trans ab);exact q _ _ (ww _ (.stuck hz (he ▸ M))) t r p Y k _ ⟨zb,n _ _ e,b.mono n,B9.mono ab⟩ (u.trans n)
   .refine qZ ((zan _).trans (bf he)) ?_;have W':=W.more R nd hf;have I:(a++fs).length<=64:=X5 W'.len L;have lp:=Ui.mpr he;have af:=G.mono z8;refine⟨_,rfl,_,rfl,r,d,k,w1,rfl,rfl,g _ _ e,z8 _ _ N,?_,λr2 al=>?_⟩
    .have:=G.length;rw[XZ]at I;exact X5 (show k.length+w1.length<=64 by lia) "d"
    have z9:=zc (o:=.lst (k++w1)) al;refine eE (m-1) "a" (a++fs) _ r2 _ rfl (u.trans (g.trans z9)) zb (((b.mono g).append af).mono z9) (e9 W' (Xa _ J) ?_ (λz h=>ww _ (.step hz M he h)));rw[XZ];lia
def ztO:AE:=[.bl true,.bl true,.bl false,.bl false,.bl false,.bl false,.bl false,.bl false,.bl false,.bl false]
def zor:Sp:=λh H Q _=>∃(l e:Addr) (d:AD) (c:AA),h=[.ref l,.ref e]/\H l=some (.lst (d.map V.str))/\Rows fdS.cps.toList d/\H e=some (.tup [.int (c.1:Nat),.int (c.2:Nat)])/\c∈jK d /\
 (JJ d "thoughts" [c] none->∀(t b:Addr) (a:Hp),a t=some (.tup [.non,.ref b])->a b=some (.lst ztO)->zx H a->Q (.ref t) a) /\
 ∀w f,JJ d "thoughts" [c] (some (w,f))->∀(t u r p g b:Addr) (i:AE) (a:Hp),a t=some (.tup [.ref u,.ref b])->a b=some (.lst [])->zbE a u r p g i d w f->zx H a->Q (.ref t) a
theorem zbE.mono(s:zx H a){w:Str}(A:zbE H t r p b c rs w cs):zbE a t r p b c rs w cs:=⟨s _ _ A.tp,s _ _ A.rw,A.cel.mono s,A.bd.mono s⟩
def yx:zD ["_law_field_here","_law_first","_law_some","_law_found","e"] ["_law_field_here","_law_first"] (zv Qd):=bh
def zir(L:qw K mg "TooGreat" jaj)(T:Txt mg)(an:qw K mg "StoneError" jai)(ai:qw K mg "NoLaying" jad)(af:qw K mg "NoBoard" jaa)(ah:qw K mg "NoCount" jac)(ag:qw K mg "NoCell" jab)(am:qw K mg "NoText" jah)(ak:qw K mg "NoRow" jaf)(aj:qw K mg "NoNumber" jae)(al:qw K mg "NoTable" jag)
  (F:Facts K jaj jai jaj jad jaa jac jab jah jaf jae jag true false) (Z:Prog K mg) (D:zh K mg "_law_told" Qd ["_law_field_here","_law_first"] f fd):yM 448 P w K mg base CX0 13 f fd ["_law_field_here","_law_first"] zor:=by
 obtain⟨ar,aq,k⟩:=Z.run;have au:yM 448 P w K mg base (CXE P w) 12 ar aq ["field","first","way"] (zoo jaj):=zop L T Z k;refine D.F.okT yx "l" (λav A ao s H vs Q E hr h=>?_)
 .revert h;refine gk λl Y N c z0 hl R aa=>fX λhc qn q=>?_;subst z0;refine⟨_,(zW (PS.at_ (@qv _ _ 2 _ _ _ _ yx.nd rfl (Wm rfl) (@qa _ _ _ _ zd) "r" (.inr rfl))) (zW (PS.at_ (@qv _ _ 3 _ _ _ _ yx.nd rfl (Wm rfl) Zn "r" (.inr rfl))) (zdC (zpj (i:=3) (j:=4) (dv:=[]) rfl rfl au (hr.mono "d") "r" k.g k.F.kp ⟨[],.nil,k.b⟩ yx.nd rfl (Wm rfl) (RN rfl) rfl rfl "r" an (za (pvS 0) (za (pvS 1) (@za _ _ _ _ _ jQ zd rfl))) (λeN=>(ze (qz 2 yx.nd (qa (za (pb2 (qW (K:=K) "r") T.qP WQ (pvS 4) (pgx L)) (za (pb2 (qW (K:=K) "r") T.qP WQ (pvS 4) (zjR (v:=.ty "ValueError") "r" T.zf8 zp6 "r")) (za (pb2 (qW (K:=K) "r") T.qP WQ (pvS 4) (pgx af)) (za (pb2 (qW (K:=K) "r") T.qP WQ (pvS 4) (pgx ah)) zd)))))) (ze (qz 2 yx.nd (zC JI (pvS 2) (qa (za (pb2 (qW (K:=K) "r") T.qP WQ (pvS 4) (pgx ai)) (za (pb2 (qW (K:=K) "r") T.qP WQ (pvS 4) (pgx ag)) (za (pb2 (qW (K:=K) "r") T.qP WQ (pvS 4) (pgx am)) (za (pb2 (qW (K:=K) "r") T.qP WQ (pvS 4) (pgx ak)) zd))))))) (zg (qz 2 yx.nd (zC JI (pvS 2) (qa (za (pb2 (qW (K:=K) "r") T.qP WQ (pvS 4) (pgx aj)) (za (pb2 (qW (K:=K) "r") T.qP WQ (pvS 4) (pgx al)) zd)))))))))) (PSs.at_ (zg (zF (qu (za (pvS 3) (za (pvS 2) zd))))))))),?_⟩;ac_nf;refine⟨xo,λb hb=>?_⟩;have z1:=zc (o:=.lst []) hb;refine⟨fun x z=>(JJ N "thoughts" [c] none/\∃B,x=[some (.ref l),some (.ref Y),some (.ref B),some .non,none]/\zx H z/\z B=some (.lst ztO)) \/
   (∃w y u r p M O,JJ N "thoughts" [c] (some (w,y))/\x=[some (.ref l),some (.ref Y),some (.ref b),some (.ref u),none]/\zx H z/\z b=some (.lst [])/\zbE z u r p M O N w y),?_,?_⟩
  .refine⟨_,rfl,_,rfl,l,Y,N,c,_,rfl,.inl rfl,z1 _ _ hl,R,z1 _ _ aa,hc,λhn U s1=>(dX jaj rfl F.mro (λe he=>?_)),λw y hw u r p M O U hu hr hp aw A s1=>.inr (fE w y u r p M O hw rfl (z1.trans s1) (s1 _ _ zb) A)⟩;have m:=zc (o:=exO e jaj) he;have s2:=z1.trans (s1.trans m);have a:upd U e (exO e jaj) e=some (exO e jaj):=zb;generalize upd U e (exO e jaj)=H2 at *
   refine⟨_,rfl,e,_,_,_,rfl,a,F.fd,.inl ⟨_,rfl⟩,F.k1,_,rfl,e,_,_,_,rfl,a,F.fd,.inr ⟨_,rfl⟩,F.kv,_,rfl,e,_,_,_,rfl,a,F.fd,.inl ⟨_,rfl⟩,F.k3,_,rfl,e,_,_,_,rfl,a,F.fd,.inl ⟨_,rfl⟩,F.k4,ztf,λd1 ab=>?_⟩;have z3:=zc (o:=.lst [.bl true,.bl true,.bl false,.bl false]) ab;have d:=z3 _ _ a;refine⟨_,rfl,_,rfl,e,_,_,_,rfl,d,F.fd,.inl ⟨_,rfl⟩,F.k2,_,rfl,e,_,_,_,rfl,d,F.fd,.inl ⟨_,rfl⟩,F.k5,_,rfl,e,_,_,_,rfl,d,F.fd,.inl ⟨_,rfl⟩,F.k6,_,rfl,e,_,_,_,rfl,d,F.fd,.inl ⟨_,rfl⟩,F.k7,ztf,λd2 G=>(eS d1 d2 _ _ rfl rfl (zc G _ _ zb) zb (by show 8<=Xz;decide) (λd3 ac=>?_))⟩;have z4:=zc (o:=.lst [.bl false,.bl false,.bl false,.bl false]) G;have z5:=zc (o:=.lst ([.bl true,.bl true,.bl false,.bl false]++[.bl false,.bl false,.bl false,.bl false])) ac;have J:=z5 _ _ (z4 _ _ d);refine⟨_,rfl,_,rfl,e,_,_,_,rfl,J,F.fd,.inl ⟨_,rfl⟩,F.k8,_,rfl,e,_,_,_,rfl,J,F.fd,.inl ⟨_,rfl⟩,F.k9,yL,λd4 I=>(eS d3 d4 _ _ rfl rfl (zc I _ _ zb) zb (by show 10<=Xz;decide) (λd5 ae=>?_))⟩;exact .inl ⟨hn,(dX d5 rfl (s2.trans (z3.trans (z4.trans (z5.trans ((zc I).trans (zc ae)))))) zb)⟩
  .rintro x U (⟨hn,B,rfl,s1,n⟩ | ⟨w,y,u,r,p,M,O,hw,rfl,s1,n,A⟩)
   .refine⟨_,rfl,_,rfl,yL,λt ht=>?_⟩;have m:=zc (o:=.tup [.non,.ref B]) ht;exact qn hn t B _ zb (m _ _ n) (s1.trans m)
   .refine⟨_,rfl,_,rfl,yL,λt ht=>?_⟩;have m:=zc (o:=.tup [.ref u,.ref b]) ht;exact q w y hw t u r p M b O _ zb (m _ _ n) (A.mono m) (s1.trans m)
structure Crn (B:Nat->Prop)(n:Nat)(t:Str):Prop where
 r:Row fdS.cps.toList n t
 e:∃k∈t.cps.toList,k≠46
 u:(∀k∈t.cps.toList,k≠46)\/∀j k,t.cps.toList[j]?=some k->(k=46↔B j)
def zp8(r:Row a n t):Row a n (zi6 t):=by
 refine⟨?_,λc b=>r.mem c (To.mp b)⟩;show t.cps.toList.reverse.toArray.size=n;rw[Xx,Ul,XX];exact r.len
def Crn.rev(c:Crn B n t):Crn (λj=>B (n-1-j)) n (zi6 t):=by
 refine⟨zp8 c.r,let ⟨k,hk,h⟩:=c.e;⟨k,To.mpr hk,h⟩,c.u.imp (λh k hk=>h k (To.mp hk)) λh j k hk=>?_⟩;have hk:t.cps.toList.reverse[j]?=some k:=hk;have b:t.cps.toList.length=n:=by
  rw[XX];exact c.r.len
 have a:=(X6.mp hk).1;rw[Ul]at a;rw[List.getElem?_reverse a,b]at hk;exact h _ k hk
def zou(rs:AD):Prop:=∀x∈jK rs,∀y∈jK rs,(x.1,y.2)∈jK rs
def Crn.cross(h:∀t∈rs,Crn B n t):zou rs:=by
 rintro⟨i,j⟩ c ⟨i',j'⟩ hy;have get:∀{i j:Nat},(i,j)∈jK rs->∃t,rs[i]?=some t/\t.cps.toList[j]?=some 46:=λ{i j} c=>by
  obtain⟨t,k,h1,h2,m⟩:=Yd.mp c;rw[bg (WN.mp m).2]at h2;exact⟨t,h1,h2⟩
 obtain⟨t,g,q⟩:=get c;obtain⟨u,u1,d⟩:=get hy;have e:=h t (X7 g);have f:=h u (X7 u1);have p:=f.u.resolve_left λz=>z 46 (X7 d) rfl;have o:=e.u.resolve_left λz=>z 46 (X7 q) rfl;have l:=(p j' 46 d).mp rfl;have s:=(X6.mp d).1;have v:u.cps.toList.length=n:=by
  rw[XX];exact f.r.len
 have lt:t.cps.toList.length=n:=by
  rw[XX];exact e.r.len
 have b:j'<t.cps.toList.length:="a"
 have hk:=X0 b;have a:=(o j' _ hk).mpr l;rw[a]at hk;exact Yd.mpr ⟨t,46,g,hk,"d"⟩
def zov(K:X4):Sp:=λe H Q _=>∃(a:Addr) (d:List Int),e=[.ref a]/\SqL K H a (d.map V.int) /\
 ∀(l:Addr) (c:AD) (b:Hp),H l=none->b l=some (.lst (c.map V.str))->zx H b->Rows fdS.cps.toList c->zou c->Q (.ref l) b
def zfx:Str:="ooo#"
def zp9:∀k∈zfx.cps.toList,k∈fdS.cps.toList/\k≠46:="q"
def qt:zD ["_law_script","_law_high","_law_wide","_law_own","_law_rows","_law_row","_law_text","_law_column","_law_sign"] ["_law_script"] (zv J8):=bh
def zeN(T:Txt mg)(D:zh K mg "_law_corner" J8 ["_law_script"] f fd)(zO:zh K mg "_law_cell_at" yc ["_law_script","_law_k"] f1 ac):qm P w K mg base CX0 2 f fd ["_law_script"] (zov K):=by
 have zZ:qm P w K mg base CX0 1 f1 ac ["_law_script","_law_k"] (zf9 K):=Zy T zO;refine D.F.ok qt "l" (λan A am s H vs Q E hr h=>?_)
 .revert h;refine fS λa ns z0 hS k=>?_;subst z0;refine⟨_,(@ze _ _ _ _ _ (@qv _ _ 1 _ _ _ _ qt.nd rfl (Wm rfl) (@zC _ _ _ _ _ _ _ _ jt zf (zC qO (zC qF (pc0 zZ hr zO (za (pvS 0) (@za _ _ _ _ _ zf zd rfl))) zf) zf)) "r" (.inr rfl)) (@ze _ _ _ _ _ (@qv _ _ 2 _ _ _ _ qt.nd rfl (Wm rfl) (@zC _ _ _ _ _ _ _ _ jt zf (zC qO (zC qF (pc0 zZ hr zO (za (pvS 0) (@za _ _ _ _ _ zf zd rfl))) zf) zf)) "r" (.inr rfl)) (ze (qz 3 qt.nd (pc0 zZ hr zO (za (pvS 0) (@za _ _ _ _ _ zf zd rfl)))) (@ze _ _ _ _ _ (@qv _ _ 4 _ _ _ _ qt.nd rfl (Wm rfl) (@qa _ _ _ _ zd) "r" (.inr rfl)) (ze (qN Xd rfl (prg T.xO (pvS 1)) (pgq 5 qt.nd) (@ze _ _ _ _ _ (@qv _ _ 6 _ _ _ _ qt.nd rfl (Wm rfl) jQ "r" (.inr rfl)) (ze (qN Xd rfl (prg T.xO (pvS 2)) (pgq 7 qt.nd) (@ze _ _ _ _ _ (@qv _ _ 8 _ _ _ _ qt.nd rfl (Wm rfl) jQ "r" (.inr rfl)) (zad (qH (PW.pt (zjT (zI xD (pvS 5) (zC yQ (pvS 1) zf) (zT _)) (zl7 (zI xD (pvS 7) (zC yQ (pvS 2) zf) (zT _))))) (@ze _ _ _ _ _ (@qv _ _ 8 _ _ _ _ qt.nd rfl (Wm rfl) (@zQ _ _ _ _ _ _ _ zbc jQ (zC qO (pvS 3) zf) (λ_ _=>rfl)) "r" (.inr rfl)) (zg (qz 3 qt.nd (zC qF (pvS 3) zf)))) zV) (zg (qz 6 qt.nd (zC YT (pvS 6) (pvS 8))))))) (zg (jA (JK WX Wo Wn jU (pvS 4) (za (pvS 6) zd))))))) (zad (qH (zI xD (zC qO (zC qF (pc0 zZ hr zO (za (pvS 0) (@za _ _ _ _ _ zf zd rfl))) zf) zf) zf (zT _)) (zg (jA (zrf WX PySem.F.slot_list_reverse PySem.F.type_list_reverse ziB (pvS 4)))) zV) (zad (qH (zI xD (zC qO (zC qF (pc0 zZ hr zO (za (pvS 0) (@za _ _ _ _ _ zf zd rfl))) zf) zf) zf (zT _)) (zg (psC 4 qt.nd ["_law_row"] [none] cP (zN (pvS 4)) (pgN 0) qp (zpl (pvS 0) (zme ziy zf)))) zV) (zg (zF (pvS 4)))))))))),?_⟩;ac_nf;refine⟨_,rfl,a,ns,_,rfl,hS,"d",λh0=>⟨_,_,rfl,rfl,jL.small "d" "d",_,_,rfl,rfl,(by show (0:Int)<4;decide),_,_,rfl,rfl,?_⟩⟩;have e1:=Wu (h0/8) (show (4:Int)≠0 by decide);have e2:=WB (h0/8) (show (0:Int)<4 by decide);refine⟨_,rfl,a,ns,_,rfl,hS,"d",λw0=>⟨_,_,rfl,rfl,jL.small "d" "d",_,_,rfl,rfl,(by show (0:Int)<4;decide),_,_,rfl,rfl,?_⟩⟩;have e3:=Wu (w0/32) (show (4:Int)≠0 by decide);have e4:=WB (w0/32) (show (0:Int)<4 by decide);generalize h0/8%4=hh at *
  generalize w0/32%4=ww at *
  have w8:(5+ww).toNat<=8:="a"
  have h8:(5+hh).toNat<=8:="a"
  refine⟨_,rfl,a,ns,_,rfl,hS,"d",λo0=>⟨xo,λl O=>?_⟩⟩;have s0:zx H (upd H l (.lst [])):=zc O;refine⟨_,rfl,5+hh,rfl,"a","a",?_⟩;refine j8 (lo:=0) (n:=(5+hh).toNat) (λi y q=>∃(v5 v6 M N:Option V) (o:Int) (m:AD),y=[some (.ref a),some (.int (5+hh)),some (.int (5+ww)),some (.int o),some (.ref l),v5,v6,M,N]/\zx H q/\q l=some (.lst (m.map V.str))/\m.length=i/\∀t∈m,Crn (λj=>j+1≠(5+ww).toNat) (5+ww).toNat t)
   (fk _ _ _ _ o0 [] rfl s0 zb rfl (λ_ h=>nomatch h)) ?_ ?_
  .refine λi y H1 hi=>gC λv5 v6 M N o1 m z0 s1 v g d=>?_;subst z0;refine⟨_,rfl,5+ww,rfl,"a","a",?_⟩;refine j8 (lo:=0) (n:=(5+ww).toNat) (λj y q=>∃(M N:Option V) (o:Int) (t:Str),y=[some (.ref a),some (.int (5+hh)),some (.int (5+ww)),some (.int o),some (.ref l),some (.int (0+i)),some (.str t),M,N]/\q=H1/\Row fdS.cps.toList j t/\(j=(5+ww).toNat->∃k∈t.cps.toList,k≠46)/\(0+(i:Int)=5+hh-1->∀k∈t.cps.toList,k≠46)/\(¬ 0+(i:Int)=5+hh-1->∀j k,t.cps.toList[j]?=some k->(k=46↔j+1≠(5+ww).toNat)))
    (eS _ _ o1 _ rfl rfl ⟨rfl,λ_ h=>nomatch h⟩ (λe=>absurd e "a") (λ_ _ h=>nomatch h) (λ_ j k h=>nomatch h)) ?_ ?_
   .refine λj y H2 hj=>gz λM N o t z0 z1 I _ Y aa=>?_;subst z0 z1;refine⟨fun p q=>∃(o c:Int) (k:Nat),p=[some (.ref a),some (.int (5+hh)),some (.int (5+ww)),some (.int o),some (.ref l),some (.int (0+i)),some (.str t),some (.int (0+j)),some (.str ⟨#[k]⟩)]/\q=H2/\k∈fdS.cps.toList/\(j+1=(5+ww).toNat->k≠46)/\(0+(i:Int)=5+hh-1->k≠46)/\(¬ 0+(i:Int)=5+hh-1->(k=46↔j+1≠(5+ww).toNat)),?_,?_⟩
    .have ab:∃(c:Nat),atI zfx.cps.toList (o%4)=some c/\c∈zfx.cps.toList:=by
      have m0:=Wu o (show (4:Int)≠0 by decide);have m1:=WB o (show (0:Int)<4 by decide);have af:(o%4).toNat<zfx.cps.toList.length:=by
       show (o%4).toNat<4;lia
      exact⟨_,Z5 m0 (X0 af),UK af⟩
     revert ab;refine fR λc hc ag=>?_;obtain⟨ae,G⟩:=zp9 c ag;refine⟨_,rfl,_,rfl,_,_,rfl,rfl,rfl,_,rfl,?_⟩;by_cases hA:(0+(i:Int))=5+hh-1
     .refine ju (br (by rw[hA])) (zdc ?_);exact⟨_,rfl,_,_,rfl,rfl,(by show (0:Int)<4;decide),zfx,_,c,rfl,rfl,"d",hc,_,rfl,_,_,rfl,rfl,jL.small "d" "d",_,0,c,rfl,rfl,ae,λ_=>G,λ_=>G,λz=>absurd hA z⟩
     .refine qZ (bf λz=>hA (V.int.inj z)) ?_;refine⟨_,rfl,_,rfl,_,_,rfl,rfl,rfl,_,rfl,?_⟩;by_cases hB:(0+(j:Int))=5+ww-1
      .refine ju (br (by rw[hB])) ?_;exact⟨_,rfl,_,_,rfl,rfl,(by show (0:Int)<4;decide),zfx,_,c,rfl,rfl,"d",hc,_,rfl,_,_,rfl,rfl,jL.small "d" "d",_,0,c,rfl,rfl,ae,λ_=>G,λ_=>G,λ_=>⟨λz=>absurd z G,λz=>absurd (show j+1=(5+ww).toNat by lia) z⟩⟩
      .refine qZ (bf λz=>hB (V.int.inj z)) ?_;exact eG o 0 46 (by rw[<- zgz];rfl) rfl "q" (λz=>absurd z "a") (λz=>absurd z hA) (λ_=>⟨λ_=>"a",λ_=>rfl⟩)
    refine λp H3=>gf λo' c kk z0 z1 hk aj ak al=>?_;subst z0 z1;refine⟨_,rfl,_,rfl,t,_,rfl,rfl,?_,?_⟩
    .have e5:t.length=j:=I.len;rw[e5];show j+1<=Xz;exact X5 hj (X5 w8 "d")
    .have e:(t++(⟨#[kk]⟩:Str)).cps.toList=t.cps.toList++[kk]:=by
      have e:(t++(⟨#[kk]⟩:Str)).cps=t.cps++#[kk]:=rfl;rw[e,Wz]
     have el:t.cps.toList.length=j:=by
      rw[XX];exact I.len
     refine eS _ _ o' _ rfl rfl (I.more hk) (λz=>⟨kk,?_,aj z⟩) (λz k hk=>?_) (λz j' k hk=>?_)
     .rw[e];exact Xm _ XU
     .rw[e]at hk;rcases XV.mp hk with h | h
      .exact Y z k h
      .rw[Xy.mp h];exact ak z
     .rw[e]at hk;by_cases ao:j'<j
      .rw[VH "a"]at hk;exact aa z j' k hk
      .have O:=(X6.mp hk).1;rw[XZ]at O;have e2:j'=j:=by
        have:[kk].length=1:=rfl;lia
       subst e2;rw[Vq "a",el,SV]at hk;cases hk;exact al z
   .refine λy H2=>gz λM N o t z0 z1 I ah Y aa=>?_;subst z0 z1;refine⟨_,rfl,.inl ⟨rfl,_,SqL.of v⟩,_,rfl,l,_,_,rfl,rfl,v,?_,?_⟩
    .rw[ZB,g];exact Xq hi (X5 h8 "d")
    .refine fk _ _ _ _ o (m++[t]) rfl (λb o e=>?_) ?_ ?_ ?_
     .rw[zq (zj e O)];exact s1 b o e
     .rw[zb,XD];rfl
     .rw[XZ,g];rfl
     .intro u hu;rcases XV.mp hu with hu | hu
      .exact d u hu
      .rw[Xy.mp hu];exact⟨I,ah rfl,(Decidable.em _).imp Y aa⟩
  .refine λy H1=>gC λv5 v6 M N o1 m z0 s1 v g d=>?_;subst z0;refine⟨fun p q=>∃(m:AD),p=[some (.ref a),some (.int (5+hh)),some (.int (5+ww)),some (.int o1),some (.ref l),v5,v6,M,N]/\zx H q/\q l=some (.lst (m.map V.str))/\m.length=(5+hh).toNat/\∀t∈m,Crn (λj=>j+1≠(5+ww).toNat) (5+ww).toNat t,?_,?_⟩
   .refine⟨_,rfl,a,ns,_,rfl,s1.seq hS,"d",λc0=>⟨_,_,rfl,rfl,jL.small "d" "d",_,_,rfl,rfl,(by show (0:Int)<2;decide),rfl,_,rfl,QH (λ_=>?_) (λ_=>(eu m rfl s1 v g d))⟩⟩;refine⟨_,rfl,.inl ⟨rfl,_,SqL.of v⟩,l,_,rfl,rfl,v,m.reverse,rfl,λb o e=>?_,?_,?_,λt J=>d t (To.mp J)⟩
    .rw[zq (zj e O)];exact s1 b o e
    .rw[zb,List.map_reverse]
    .rw[Ul,g]
   refine λp H2=>gy λm z0 s2 U g d=>?_;subst z0;refine⟨fun p q=>∃(l:Addr) (m:AD) (B:Nat->Prop),p=[some (.ref a),some (.int (5+hh)),some (.int (5+ww)),some (.int o1),some (.ref l),v5,v6,M,N]/\zx H q/\H l=none/\q l=some (.lst (m.map V.str))/\m.length=(5+hh).toNat/\∀t∈m,Crn B (5+ww).toNat t,?_,?_⟩
   .refine⟨_,rfl,a,ns,_,rfl,s2.seq hS,"d",λc0=>⟨_,_,rfl,rfl,jL.small "d" "d",_,_,rfl,rfl,(by show (0:Int)<2;decide),rfl,_,rfl,QH (λ_=>?_) (λ_=>(eG l m _ rfl s2 O U g d))⟩⟩;refine⟨_,rfl,l,rfl,⟨_,SqL.of U⟩,λz hz=>?_⟩;refine qj (K:=K) (a:=l) (xs:=m.map V.str) (λi y q=>(∃u0,y=[u0])/\zx H2 q/\q z=some (.lst (((m.take i).map zi6).map V.str))) ⟨⟨_,rfl⟩,zc hz,zb⟩ (λi y q _ ⟨_,s6,_⟩=>SqL.of (s6 _ _ U)) ?_ ?_
    .rintro i x y H3 hx ⟨⟨u0,rfl⟩,s3,L⟩;rw[Xp]at hx;obtain⟨t,J,rfl⟩:=Vr.mp hx;have i8:i<m.length:=(X6.mp J).1;have tl:t.length=(5+ww).toNat:=(d t (X7 J)).r.len;refine yE ⟨_,rfl,1,rfl,_,rfl,rfl,t,rfl,X5 (show t.length<=64 by lia) "d",_,L,XM (show _<=8 from ?_) "d",⟨_,rfl⟩,λb o e=>?_,?_⟩
     .rw[ZB,ZB,XH];lia
     .rw[zq (zj e hz)];exact s3 _ _ e
     .rw[zb,XC,J,XD,XD];rfl
    .refine λy H3=>fX λ_ s3 L=>?_;rw[ZB,XF]at L;exact⟨z,m.map zi6,_,rfl,s2.trans s3,s2.free hz,L,by rw[ZB,g],λt J=>by
      obtain⟨u,hu,rfl⟩:=XE.mp J;exact(d u hu).rev⟩
   refine λp H3=>gf λl m _ z0 s3 O ai g d=>?_;subst z0;refine⟨_,rfl,k l m H3 O ai s3 ⟨"a","a",(5+ww).toNat,"a","a",λt J=>(d t J).r⟩ (Crn.cross d)⟩
def ztP:Sg fdS:=by
 unfold Sg;decide+kernel
def zl3:Sp:=λc H Q _=>∃(a:Addr) (b:AD),c=[.ref a]/\H a=some (.lst (b.map V.str))/\Rows fdS.cps.toList b/\∀l,H l=none->Q (.ref l) (upd H l (.lst (b.map V.str)))
def zkP(K:X4):Sp:=λd H Q _=>∃(a:Addr) (b:List Int),d=[.ref a]/\SqL K H a (b.map V.int)/\b.length<=63/\∀c,Q (.bl true) c
theorem zgI:∀bs:List Bool,xY K H (bs.map V.bl) (bs.map Uu)
 | []=>.nil
 | b::r=>.cons (.bl b) (zgI r)
def zqa:List Bool:=[true,true,false,false,false,false,false,false,false,false]
def zow:∀c∈fdS.cps.toList,c<1114112:="q"
def zox(R:Rows fdS.cps.toList rs):zfL (.list (rs.map V1)) (.list (rs.map V1)):=by
 obtain⟨n,_,_,h⟩:=R.ex;have a:Wv (rs.map V1)=true:=by
  clear R;induction rs with
  | nil=>rfl
  | cons t r e =>
   show (Ws (.str t)&&Wv (r.map V1))=true;rw[e λu d=>h u (XS _ d),Bool.and_true];show t.cps.all (· < 0x110000)=true;rw[Array.all_eq_true'];intro c b;exact br (zow c ((h t XU).mem c (Sd.mpr b)))
 refine⟨a,a,?_⟩;show Wl (rs.map V1)+1<=64;rw[Qe];decide
def zqb(h:JJ rs c cs r):∀w a,r=some (w,a)->Ws (.str w)=true:=by
 induction h with
 | end_ =>
  intro w a z;cases z;decide+kernel
 | big=>exact λ_ _ z=>nomatch z
 | stuck =>
  intro w a z;cases z;decide+kernel
 | step _ _ _ _ b=>exact b
def zoy(h:JJ rs b cs r):b="sure"->r≠none:=by
 induction h with
 | end_=>exact λ_ z=>nomatch z
 | big _ e =>
  intro a;rw[e]at a;exact absurd a "d"
 | stuck=>exact λ_ z=>nomatch z
 | step _ _ _ _ c=>exact c
def rD(rs:AD)(w:Str)(cs:AB):Wh:=.tuple [.str w,.list (cs.map zA),bData (qM rs cs) ((stC rs).length:Nat)]
theorem zbE.rdv{w:Str}(A:zbE H t r p a b rs w cs):Rdv K H (.ref t) (rD rs w cs):=.tup (SqT.of A.tp) (.cons (.str w) (.cons (.lst (SqL.of A.rw) (zcJ A.cel)) (.cons (qd.rdv A.bd) .nil)))
def zoz(R:Rows fdS.cps.toList rs){w:Str}(a:Ws (.str w)=true)(cs):zfL (rD rs w cs) (rD rs w cs):=by
 have c:=(zbD (cs:=cs) R).cmpB ((stC rs).length:Nat);have h1:Ws (rD rs w cs)=true:=by
  show (Ws (.str w)&&(Wv (cs.map zA)&&(Ws (bData (qM rs cs) ((stC rs).length:Nat))&&true)))=true;rw[c.l1,zb6,a];rfl
 refine⟨h1,h1,?_⟩;show max 0 (max (Wl (cs.map zA)+1) (max (PyData.depth (bData (qM rs cs) ((stC rs).length:Nat))) 0))+1<=64;have:=zhz cs;have e:PyData.depth (bData (qM rs cs) ((stC rs).length:Nat))=max (Wl ((qM rs cs).map V1)+1) (max 0 0)+1:=rfl;rw[e,Qe];lia
def zc4(h:Ws d=true):(if true=true then !PyData.eqv d d else WW d d)=false:=by
 rw[bw rfl,SeqAt.eqv_refl _ h];rfl
def zqc(h:Ws d=true):(if false=true then !PyData.eqv d d else WW d d)=true:=SeqAt.eqv_refl _ h
def zis:zD ["rows"] ["rows"] (zv Y5):=bh
def zit(T:Txt mg)(Z:Prog K mg)(D:zh K mg "field_of" Y5 ["rows"] f fd):qm P w K mg base CX0 3 f fd ["rows"] zl3:=by
 obtain⟨m,l,d⟩:=Z.checked_rows;refine D.F.ok zis "l" (λe A b s H j Q E i h=>?_)
 .revert h;refine fQ λa c z0 g R k=>?_;subst z0;refine⟨_,(zg (zF (pc0 (QA T Z d) i d (za (pvS 0) (za (jz (v:=.str ".o#") "r" T.zer.choose_spec (by exact⟨_,rfl⟩)) zd))))),?_⟩;ac_nf;exact⟨_,rfl,a,c,fdS,rfl,ztP,g,R,k⟩
def zoA(h:xs ≠ []):∃v,atI xs (-1)=some v/\v∈xs:=by
 have a:=Ui.mpr h;refine⟨xs[xs.length-1],?_,UK _⟩;unfold atI ixN;rw[bq "d",bw "a"];show xs[((xs.length:Int) + -1).toNat]?=_;rw[show ((xs.length:Int) + -1).toNat=xs.length-1 by lia];exact X0 _
def ziW{v1:V}(z):∃v,atI [v0,v1] (z%2)=some v/\(v=v0\/v=v1):=by
 have a:=Wu z (show (2:Int)≠0 by decide);have b:=WB z (show (0:Int)<2 by decide);rcases(show z%2=0\/z%2=1 by lia) with e | e
 .exact⟨v0,by rw[e];rfl,.inl rfl⟩
 .exact⟨v1,by rw[e];rfl,.inr rfl⟩
def Jc:zD ["_law_script","_law_pick","_law_rows","_law_clears","_law_first","_law_field_here","_law_due_here","_law_found","_law_some","_law_other"] ["_law_script"] (zv zhu):=bh
def zss(T:Txt mg)(bi:qw K mg "StoneError" jai)(al:qw K mg "TooGreat" jaj)(aZ:qw K mg "NoLaying" jad)(aW:qw K mg "NoBoard" jaa)(aY:qw K mg "NoCount" jac)(aX:qw K mg "NoCell" jab)(be:qw K mg "NoText" jah)(bb:qw K mg "NoRow" jaf)(ba:qw K mg "NoNumber" jae)(bc:qw K mg "NoTable" jag)
  (FG:Facts K jaj jai jaj jad jaa jac jab jah jaf jae jag true false) (FT:Wq K jaj (.ref jaj)=some true) (Z:Prog K mg) (D:zh K mg "law" zhu ["_law_script"] f fd):yM 448 P w K mg base CX0 14 f fd ["_law_script"] (zkP K):=by
 obtain⟨bv,bx,zO⟩:=Z.law_cell_at;obtain⟨bG,bK,Z3⟩:=Z.law_mixed;obtain⟨bH,bM,aF⟩:=Z.law_field;obtain⟨bN,bF,aE⟩:=Z.law_corner;obtain⟨bI,bO,aG⟩:=Z.law_cells;obtain⟨bP,bJ,aH⟩:=Z.field_of;obtain⟨b5,b1,aJ⟩:=Z.law_due;obtain⟨b2,b0,aI⟩:=Z.law_told;obtain⟨b7,b4,ae⟩:=Z.run;have zZ:qm P w K mg base CX0 1 bv bx ["_law_script","_law_k"] (zf9 K):=Zy T zO;have b6:yM 448 P w K mg base CX0 12 b5 b1 ["_law_field_here","_law_clears","_law_first"] zqS:=zjy al T FT Z aJ;have b3:yM 448 P w K mg base CX0 13 b2 b0 ["_law_field_here","_law_first"] zor:=zir al T bi aZ aW aY aX be bb ba bc FG Z aI;have b8:yM 448 P w K mg base (CXE P w) 12 b7 b4 ["field","first","way"] (zoo jaj):=zop al T Z ae;refine D.F.okT Jc "l" (λbA A bj s H vs Q E q h=>?_)
 .revert h;refine fQ λa ns z0 hS b9 k=>?_;subst z0;refine⟨_,(zW (PS.at_ (qz 1 Jc.nd (pc0 zZ q zO (za (pvS 0) (@za _ _ _ _ _ zf zd rfl))))) (zW (PS.at_ (qz 2 Jc.nd (pc0 (zgx T aF zO Z3) q aF (za (pvS 0) (@za _ _ _ _ _ zf zd rfl))))) (zdC (PS.at_ (qH (zI xD (zC qO (pvS 1) zf) zf (zT _)) (zg (qz 2 Jc.nd (pc0 (zeN T aE zO) q aE (za (pvS 0) zd)))) zV)) (zW (PS.at_ (qz 3 Jc.nd (pc0 (zgy T aG) q aG (za (pvS 2) (@za _ _ _ _ _ jQ zd rfl))))) (zW (PS.at_ (qH (zI (yS q.units) (pvS 3) (@qa _ _ _ _ zd) (zT _)) (@zg _ _ _ (@zF _ _ _ _ za1)) zV)) (zW (PS.at_ (qz 4 Jc.nd (zQ jk (pvS 3) (zC qO (zC qF (pvS 1) zf) (pb1 zH T.qQ Xl (pvS 3))) (λ_ _=>rfl)))) (zdC (PS.at_ (qH (PW.pt (zl8 (zI xD (zC qO (pvS 1) zf) zf (zT _)) (zjS (zI zf4 (zC qO (zC qF (pvS 1) zf) zf) zf (zT _))))) (ze (qz 4 Jc.nd (zQ jk (qa (za (zQ jk (pvS 3) zf (λ_ _=>rfl)) (za (zQ jk (pvS 3) (zme ziy zf) (λ_ _=>rfl)) zd))) (zC qO (zC qF (pc0 zZ q zO (za (pvS 0) (@za _ _ _ _ _ zf zd rfl))) zf) zf) (λ_ _=>rfl))) (zg (qH (zI zc7 (zC qO (zC qF (pc0 zZ q zO (za (pvS 0) (@za _ _ _ _ _ zf zd rfl))) zf) zf) (zC qO (zC qF (pc0 zZ q zO (za (pvS 0) (@za _ _ _ _ _ zf zd rfl))) zf) zf) (zT _)) (zg (qz 4 Jc.nd (qu (za (zQ qk (pvS 4) zf (λ_ _=>rfl)) (za (zC yQ (zC jt (zQ qk (zQ jk (pvS 3) zf (λ_ _=>rfl)) zf (λ_ _=>rfl)) (zQ qk (zQ jk (pvS 3) (zme ziy zf) (λ_ _=>rfl)) zf (λ_ _=>rfl))) (zQ qk (pvS 4) zf (λ_ _=>rfl))) zd))))) zV))) zV)) (zW (PS.at_ (qz 5 Jc.nd (pc0 (zit T Z aH) q aH (za (pt1 xE T.zdE UR (pvS 2)) zd)))) (zW (zaf (i:=6) Jc.nd rfl (Wm rfl) (pct b6 q aJ (PA.at_ (za (pvS 5) (za (pvS 3) (za (pvS 4) zd)))))) (zW (zpi (pct b3 q aI (PA.at_ (za (pvS 5) (za (pvS 4) zd)))) (JH rfl (zY (pgq 7 Jc.nd) (zY (pgq 8 Jc.nd) jR)))) (zW (PS.at_ (qH (zI zfF (pvS 6) Zn (zT _)) (zg (zF (zq5 (ZN zfF (pvS 7) Zn (zT _)) (zl9 (ZN (yS q.units) (pvS 8) (@zC _ _ _ _ _ _ _ _ JI (@qa _ _ _ _ (@za _ _ _ _ _ za1 (@za _ _ _ _ _ za1 zd rfl) rfl)) (@zC _ _ _ _ _ _ _ _ ziC (@qa _ _ _ _ (@za _ _ _ _ _ za1 zd rfl)) zf)) (zT _)))))) zV)) (zW (PS.at_ (qH (PW.pt (zjT (zI (jT q.units) (pvS 8) (@qa _ _ _ _ zd) (zT _)) (zjT (zaD (za2 (pb2 zgS T.qP WQ (pvS 7) (zjR (v:=.ty "tuple") "r" T.zpo PyProof.Rows.boot_tuple "r")) (λ_=>rfl))) (zjT (zI (jT q.units) (pvS 7) (pvS 6) (zT _)) (zl7 (zI (jT q.units) (pvS 5) (pvS 2) (zT _))))))) (@zg _ _ _ (@zF _ _ _ _ za1)) zV)) (zW (PS.at_ (qH (zI xD (zC qO (pvS 1) zf) zf (zT _)) (@zg _ _ _ (@zF _ _ _ _ za1)) zV)) (zW (zaf (i:=9) Jc.nd rfl (RN rfl) (zt9 zqq b8 q ae.g ae.F.kp ae.bd (PA.at_ (za (pvS 5) (za (pvS 4) zd))))) (PSs.at_ (ze (qH (zI (jT q.units) (pcm ["_law_cell","_law_other"] [none,some 9] cR (zN (zQ qk (pvS 7) zf (λ_ _=>rfl))) (pgN 0) (qA (zI (Zo (K:=K) "r" q.units) (pvS 0) (zQ (zhp (K:=K) "r") (pvS 1) zf (λ_ _=>rfl)) "r")) (pvS 0)) (@qa _ _ _ _ zd) (zT _)) (@zg _ _ _ (@zF _ _ _ _ za1)) zV) (zg (zF (zsC (ZN xD (zQ qk (pvS 9) zf (λ_ _=>rfl)) jQ (zT _)) (zl9 (ZN xD (zQ qk (pvS 7) zf (λ_ _=>rfl)) jQ (zT _)))))))))))))))))))))),?_⟩;ac_nf;refine⟨_,rfl,a,ns,_,rfl,hS,"d",λpk=>?_⟩;refine⟨_,rfl,a,ns,12,rfl,hS,"d","d",λl j H1 _ a6 s1 R hm=>?_⟩;refine⟨fun n H'=>∃(l:Addr) (j:AD),n=[some (.ref a),some (.int pk),some (.ref l),none,none,none,none,none,none,none]/\zx H H'/\H' l=some (.lst (j.map V.str))/\Rows fdS.cps.toList j/\(pk%4≠1->Few j)/\(pk%4=1->zou j),?_,?_⟩
  .refine⟨_,rfl,_,_,rfl,rfl,(by show (0:Int)<4;decide),rfl,_,rfl,?_⟩;by_cases h1:pk%4=1
   .exact ju (br (by rw[h1])) ⟨_,rfl,a,ns,rfl,s1.seq hS,λl2 bm H2 _ N s2 R2 cr=>(eK l2 bm rfl (s1.trans s2) N R2 (λz=>absurd h1 z) (λ_=>cr))⟩
   .exact qZ (bf λz=>h1 (V.int.inj z)) (eK l j rfl s1 a6 R (λ_=>zsm R hm) (λz=>absurd z h1))
  clear hm R a6 s1;refine λn H2=>gu λl j z0 s2 N R aM cr=>?_;subst z0;refine⟨_,rfl,l,j,".",_,rfl,N,R,λdc I H3 _ am m s3=>?_⟩;rw[zl2 R]at m;have wl:=m.length;refine⟨_,rfl,xo,λe0 a2=>?_⟩;have z4:=zc (o:=.lst []) a2;refine dW (.list ((jK j).map zA)) (.list []) (.lst (SqL.of (z4 _ _ am)) (zcJ (m.mono z4))) (.lst (SqL.of zb) .nil) (zja _ []) ⟨_,rfl,?_⟩;by_cases O:jK j=[]
  .exact ju ((zan _).trans (br O)) (k _)
  refine qZ ((zan _).trans (bf O)) ?_;have G:=z4 _ _ am;have m:=m.mono z4;have s4:=s2.trans (s3.trans z4);have hl:=(s3.trans z4) _ _ N;generalize upd H3 e0 (.lst [])=H4 at *
  clear z4 s2 s3 N am a2;have lp:=Ui.mpr O;have bp:I ≠ []:=λe=>by
   rw[e]at wl;have:(jK j).length=0:=wl.symm;lia
  have m0:=Wu (pk/4) (show ((I.length:Nat):Int)≠0 by lia);have m1:=WB (pk/4) (show (0:Int)<((I.length:Nat):Int) by lia);have ai:(pk/4%((I.length:Nat):Int)).toNat<I.length:="a"
  refine fW (λc ay Y hv L=>?_) (Cel.get m (X0 ai));refine⟨_,rfl,_,rfl,_,_,rfl,rfl,jL.small "d" "d",_,rfl,dc,_,rfl,.inl (SqL.of G),_,_,rfl,rfl,(by show (0:Int)<((I.length:Nat):Int);lia),dc,I,_,_,rfl,rfl,SqL.of G,Z5 m0 (X0 ai),?_⟩;rw[hv];have hc:=X7 ay;refine⟨fun n H'=>∃(Y:Addr) (c:AA),n=[some (.ref a),some (.int pk),some (.ref l),some (.ref dc),some (.ref Y),none,none,none,none,none]/\zx H4 H'/\H' Y=some (.tup [.int (c.1:Nat),.int (c.2:Nat)])/\c∈jK j,?_,?_⟩
  .refine⟨_,rfl,_,_,rfl,rfl,(by show (0:Int)<4;decide),rfl,_,rfl,?_⟩;by_cases h1:pk%4=1
   .refine ju (br (by rw[h1])) ?_;refine⟨_,rfl,_,_,rfl,rfl,jL.small "d" "d",_,_,rfl,rfl,(by show (0:Int)<3;decide),_,_,rfl,rfl,_,rfl,QH (λ_=>?_) (λ_=>(dW Y c rfl (zx.refl _) L hc))⟩;obtain⟨v0,a7⟩:∃v0,I[0]?=some v0:=⟨_,X0 (show 0<I.length by lia)⟩;refine fR (λv1 a8 aQ=>?_) (zoA bp);refine fW (λc0 aa a0 z0 au=>?_) (Cel.get m a7);subst z0;obtain⟨i1,aO,e1⟩:=List.mem_iff_getElem.mp aQ;refine fW (λc1 ab a1 e2 av=>?_) (Cel.get m (X0 aO));rw[e1]at e2;subst e2;have aa:=X7 aa;have ab:=X7 ab;have ao:atI I 0=some (.ref a0):=Z5 "d" a7;refine⟨_,rfl,dc,I,0,_,rfl,rfl,SqL.of G,ao,_,rfl,1,rfl,dc,I,_,_,rfl,rfl,SqL.of G,a8,yL,λy hy=>?_⟩;have z5:=zc (o:=.lst [.ref a0,.ref a1]) hy;have af:=z5 _ _ G;refine⟨_,rfl,a,ns,_,rfl,(s4.trans z5).seq hS,"d",λg0=>?_⟩;refine fR (λv hv ho=>?_) (ziW (v0:=V.ref a0) (v1:=V.ref a1) (g0/128));refine⟨_,_,rfl,rfl,jL.small "d" "d",_,_,rfl,rfl,(by show (0:Int)<2;decide),y,_,_,v,rfl,rfl,SqL.of zb,hv,?_⟩;have bo:∃(b:Addr) (d:AA),v=.ref b/\upd H4 y (.lst [.ref a0,.ref a1]) b=some (.tup [.int (d.1:Nat),.int (d.2:Nat)])/\d∈jK j/\∃d'∈jK j,(c0.2:Int)+(c1.2:Int)-(d.2:Int)=(d'.2:Int):=by
     rcases ho with e | e
     .exact dW a0 c0 e (z5 _ _ au) aa (dY c1 ab "a")
     .exact dW a1 c1 e (z5 _ _ av) ab (dY c0 aa "a")
    revert bo;refine fQ λb d z0 hb hd=>fR λd' aN ed=>?_;subst z0;refine⟨_,rfl,a,ns,_,rfl,(s4.trans z5).seq hS,"d",λg1=>⟨_,_,rfl,rfl,jL.small "d" "d",_,_,rfl,rfl,(by show (0:Int)<2;decide),?_⟩⟩;refine⟨_,rfl,a,ns,_,rfl,(s4.trans z5).seq hS,"d",λg2=>⟨_,_,rfl,rfl,jL.small "d" "d",_,_,rfl,rfl,(by show (0:Int)<2;decide),rfl,_,rfl,QH (λ_=>?_) (λ_=>(dW b d rfl z5 hb hd))⟩⟩;refine⟨_,rfl,b,_,0,_,rfl,rfl,SqT.of hb,rfl,_,rfl,dc,I,0,_,rfl,rfl,SqL.of af,ao,a0,_,1,_,rfl,rfl,SqT.of (z5 _ _ au),rfl,_,rfl,1,rfl,dc,I,_,_,rfl,rfl,SqL.of af,a8,a1,_,1,_,rfl,rfl,SqT.of (z5 _ _ av),rfl,_,_,rfl,rfl,_,rfl,b,_,1,_,rfl,rfl,SqT.of hb,rfl,_,_,rfl,rfl,yL,λt ht=>?_⟩;refine dW t (d.1,d'.2) rfl (z5.trans (zc ht)) ?_ (cr h1 d hd d' aN);rw[zb,ed]
   .exact qZ (bf λz=>h1 (V.int.inj z)) (zap (dW Y c rfl (zx.refl _) L hc))
  clear hc L hv ay ai m0 m1 cr;refine λn H5=>fQ λY c z0 s5 L hc=>?_;subst z0;refine⟨_,rfl,l,_,rfl,.inl (SqL.of (s5 _ _ hl)),λh0 a5=>(dW h0 j rfl zb R (λfo a3=>?_))⟩;have z6:=(zc (o:=.lst (j.map V.str)) a5).trans (zc (o:=.lst (j.map V.str)) a3);have B:upd (upd H5 h0 (.lst (j.map V.str))) fo (.lst (j.map V.str)) fo=some (.lst (j.map V.str)):=zb;have aP:=z6 _ _ (s5 _ _ hl);have az:=z6 _ _ (s5 _ _ G);have ax:=(m.mono s5).mono z6;have J:=z6 _ _ L;generalize upd (upd H5 h0 (.lst (j.map V.str))) fo (.lst (j.map V.str))=H6 at *
  clear a3 a5 z6 s5 s4 hl G m L;have rl:Ws (.list (j.map V1))=true:=(zox R).l1;refine⟨_,rfl,_,rfl,_,rfl,fo,dc,Y,j,c,I,rfl,B,R,az,ax,J,hc,λhn H7 s7=>?_,λwd cs hw t r p lb ws H7 A7 s7=>?_⟩
  .refine⟨_,rfl,_,rfl,fo,Y,j,c,rfl,s7 _ _ B,R,s7 _ _ J,hc,λ_ t b H9 ht hb U=>?_,λw cs hw=>absurd (zgG hn hw) (by intro z;cases z)⟩;refine eO t _ rfl (SqT.of ht) rfl _ _ rfl _ _ rfl rfl ?_;refine⟨_,rfl,rfl,_,rfl,ju (br rfl) ?_⟩;refine⟨_,rfl,rfl,_,rfl,ju (br rfl) ?_⟩;refine⟨_,rfl,yL,λx1 aj=>⟨sz_1,λx2 aA=>(eU x2 8 _ rfl rfl zb "d" "d" (by show 8<=Xz;decide) (λx3 aB=>(eS x1 x3 _ _ rfl rfl (zc aB _ _ (zc aA _ _ zb)) zb (by show 10<=Xz;decide) (λx4 aU=>?_))))⟩⟩;have z:=(zc (o:=.lst [.bl true,.bl true]) aj).trans ((zc aA).trans ((zc aB).trans (zc (o:=.lst ([V.bl true,V.bl true]++(W1 (Int.toNat 8) [V.bl false]).flatten)) aU)));refine dW (.list (zqa.map Uu)) (.list (zqa.map Uu)) (.lst (SqL.of (z _ _ hb)) (zgI zqa)) (.lst (SqL.of zb) (zgI zqa)) ⟨rfl,rfl,"d"⟩ ?_;rw[zqc rfl];exact k _
  .refine⟨_,rfl,_,rfl,fo,Y,j,c,rfl,s7 _ _ B,R,s7 _ _ J,hc,λhn=>absurd (zgG hn hw) (by intro z;cases z),λw' bB aS t2 u r2 p2 bC b bt H9 aR hb A9 U=>?_⟩;have ew:=Option.some.inj (zgG hw aS);cases ew;have a9:=zqb hw _ _ rfl;have ac:=s7.trans U;refine eO t2 _ rfl (SqT.of aR) rfl _ _ rfl _ _ rfl rfl ?_;refine⟨_,rfl,rfl,_,rfl,qZ (bf λz=>nomatch z) ?_⟩;refine⟨_,rfl,xo,λx1 aj=>?_⟩;have z:=zc (o:=.lst []) aj;refine dW (.list []) (.list []) (.lst (SqL.of (z _ _ hb)) .nil) (.lst (SqL.of zb) .nil) ⟨rfl,rfl,"d"⟩ ⟨_,rfl,qZ (zc4 rfl) ?_⟩;have ag:=A9.mono z;refine⟨_,rfl,_,"tuple","tuple",true,rfl,.tup ag.tp,"q",true,rfl,zap ?_⟩;refine⟨_,rfl,_,rfl,rD j wd cs,rD j wd cs,ag.rdv,(A7.mono (U.trans z)).rdv,zoz R a9 cs,_,rfl,qZ (zc4 (zoz R a9 cs).l1) ?_⟩;refine⟨_,rfl,_,rfl,.list (j.map V1),.list (j.map V1),.lst (SqL.of ((ac.trans z) _ _ B)) (za4 j),.lst (SqL.of ((ac.trans z) _ _ aP)) (za4 j),zox R,_,rfl,qZ (zc4 rl) ?_⟩;refine⟨_,rfl,_,_,rfl,rfl,(by show (0:Int)<4;decide),rfl,_,rfl,?_⟩;by_cases h1:pk%4=1
   .exact ju (br (by rw[h1])) (k _)
   refine qZ (bf λz=>h1 (V.int.inj z)) ?_;have ar:=aM h1;have a4:=(ac.trans z) _ _ B;have aw:=(ac.trans z) _ _ J;generalize upd H9 x1 (.lst [])=H10 at *
   refine⟨_,rfl,_,rfl,fo,Y,j,c,_,rfl,.inr ⟨rfl,ar⟩,a4,R,aw,hc,λhn=>absurd rfl (zoy hn rfl),λw3 ds aT t3 r3 p3 bD bE aK _ _ _ _ an bn=>?_⟩;obtain⟨sb,aq⟩:=zol R hc hw aT;have M:=ag.mono bn;refine⟨_,rfl,u,_,1,_,rfl,rfl,SqT.of M.tp,rfl,r2,rfl,⟨_,SqL.of M.rw⟩,λy hy=>?_⟩;refine qj (K:=K) (a:=r2) (xs:=bt) (λi n H'=>∃u0,n=[u0,some (.ref t3)]/\zx aK H'/\H' y=some (.lst [])) ⟨_,rfl,zc hy,zb⟩ (λi n H' _ ⟨_,_,U,_⟩=>SqL.of (U _ _ M.rw)) ?_ ?_
   .refine λi x n H9 hx=>fT λu0 z0 U ak=>?_;subst z0;obtain⟨d,hd,rd⟩:=Cel.get (M.cel.mono U) hx;have ah:=an.mono U;exact⟨_,rfl,_,rfl,t3,_,1,_,rfl,rfl,SqT.of ah.tp,rfl,zA d,ds.map zA,xP.rdv rd,.lst (SqL.of ah.rw) (zcJ ah.cel),rfl,zb6 _,(by show 1<=60;decide),_,rfl,qZ (cell_in (sb d (X7 hd))) ⟨_,rfl,U,ak⟩⟩
   refine λn H9=>fT λu0 z0 U ak=>?_;subst z0;refine⟨xo,λy0 aV=>?_⟩;have aD:=zc (o:=.lst []) aV;refine dW (.list []) (.list []) (.lst (SqL.of (aD _ _ ak)) .nil) (.lst (SqL.of zb) .nil) ⟨rfl,rfl,"d"⟩ ⟨_,rfl,qZ (zc4 rfl) ?_⟩;have aC:=U.trans aD;refine⟨_,rfl,t3,_,0,_,rfl,rfl,SqT.of (an.mono aC).tp,rfl,rfl,_,rfl,?_⟩;by_cases e:w3="end"
   .exact ju (br (by rw[e])) (k _)
   .refine qZ (bf λz=>e (V.str.inj z)) ⟨_,rfl,u,_,0,_,rfl,rfl,SqT.of (M.mono aC).tp,rfl,rfl,?_⟩;rw[br (congrArg V.str (aq.resolve_left e))];exact k _
def all_mk{l:Ph}(X:K.In h)(G:h.Ns XT mg)(n:mg "law"=some (.ref fa))(A:Zm.Facts K):∃fd:XI,(∀(s:X8) (v:X9),OD s fd ⟨[v],[]⟩ [("_law_script",v)])/\∀base:Heap,K.In base->base.Ns XT mg->yM 448 l.prog w K mg base CX0 14 fa fd ["_law_script"] (zkP K):=by
 obtain⟨YH,xq,ZE,aH,JM,aI,ZF,aJ,YI,Q7,YJ,ZG,ZH,JN,YK,aS,aK,ba,JO,JP,yP,xr,YL,Q8,Jd,Q9,JQ,aP,aM,Je,aT,yC,JR,aU,YM,jP,aN,JS,aZ,YN,YO,Jf,aO,aQ,YQ,ZI,Jg,JT,bb,Jh,Ji,ZJ,ZK,JU,ZL,YR,aR,YS,bc,JV,be,bi,aX,ZM,bj,JW,bm,aY,bn,bo,aV,bp,aG,bt,bv,aW,bx,⟨_,b0⟩,⟨_,Jj⟩,⟨_,JX,g,b⟩,⟨_,Jk⟩,⟨_,Jl⟩,⟨_,xw⟩,⟨_,xx⟩,⟨_,Jm⟩,⟨_,Jo⟩,⟨_,xA⟩,⟨_,JY,i,d⟩,⟨jai,jaj,jad,jaa,jac,jab,jah,jaf,jae,jag,I,J,a6,a3,a5,a4,H,a8,a7,E,al,am,ag,ac,af,ae,ak,ai,ah,aj,ao,o,A,B,a9,aA,aB,aC,aD,aE,p,q,r,u,x,y,z,aF⟩⟩:=A;revert bc;refine gI λf oc od an sl kV dc pm=>fQ λcd ct a l0 c k=>?_;have e:=n.symm.trans (WS X G a);cases e;have T:Txt mg:=⟨WT X G JV,WT X G be,WT X G bi,WT X G aX,WT X G ZM,WT X G bj,WT X G JW,WT X G bm,WT X G aY,WT X G bn,WT X G bo,WT X G aV,WT X G bp,WT X G aG,WT X G bt,WT X G bv,WT X G aW,WT X G bx,⟨_,WS X G b0⟩,⟨_,WS X G Jj⟩,⟨_,WS X G JX,g,b⟩,⟨_,WS X G Jk⟩,⟨_,WS X G Jl⟩,⟨_,WS X G xw⟩,⟨_,WS X G xx⟩,⟨_,WS X G Jm⟩,⟨_,WS X G Jo⟩,⟨_,WS X G xA⟩,⟨_,WS X G JY,i,d⟩⟩;have Z:Prog K mg:=⟨YH.at X G,xq.at X G,ZE.at X G,aH.at X G,JM.at X G,aI.at X G,ZF.at X G,aJ.at X G,YI.at X G,Q7.at X G,YJ.at X G,ZG.at X G,ZH.at X G,JN.at X G,YK.at X G,aS.at X G,aK.at X G,ba.at X G,JO.at X G,JP.at X G,yP.at X G,xr.at X G,YL.at X G,Q8.at X G,Jd.at X G,Q9.at X G,JQ.at X G,aP.at X G,aM.at X G,Je.at X G,aT.at X G,yC.at X G,JR.at X G,aU.at X G,YM.at X G,jP.at X G,aN.at X G,JS.at X G,aZ.at X G,YN.at X G,YO.at X G,Jf.at X G,aO.at X G,aQ.at X G,YQ.at X G,ZI.at X G,Jg.at X G,JT.at X G,zsp bb X G,Jh.at X G,Ji.at X G,ZJ.at X G,ZK.at X G,JU.at X G,ZL.at X G,YR.at X G,aR.at X G,YS.at X G⟩;have F:=zml (st:=zhu) l0 c k;have D:zh K mg "law" zhu ["_law_script"] _ _:=⟨F,WS X G a,F.binds (ps:=["_law_script"]) (λ_ _ _ _ _ _=>us1 λ_=>rfl)⟩;have a1:qw K mg "StoneError" jai:=⟨WS X G I,al⟩;have a2:qw K mg "TooGreat" jaj:=⟨WS X G J,am⟩;have av:qw K mg "NoLaying" jad:=⟨WS X G a6,ag⟩;have aq:qw K mg "NoBoard" jaa:=⟨WS X G a3,ac⟩;have au:qw K mg "NoCount" jac:=⟨WS X G a5,af⟩;have ar:qw K mg "NoCell" jab:=⟨WS X G a4,ae⟩;have az:qw K mg "NoText" jah:=⟨WS X G H,ak⟩;have ax:qw K mg "NoRow" jaf:=⟨WS X G a8,ai⟩;have aw:qw K mg "NoNumber" jae:=⟨WS X G a7,ah⟩;have ay:qw K mg "NoTable" jag:=⟨WS X G E,aj⟩;have FG:Facts K jaj jai jaj jad jaa jac jab jah jaf jae jag true false:=⟨⟨ao,o,A,B,a9,aA⟩,aB,aC,aD,aE,p,q,r,u,x,y,z⟩;have FT:Wq K jaj (.ref jaj)=some true:=aF;exact⟨_,λs v=>.of_eq rfl,λbase _ _=>zss T a1 a2 av aq au ar az ax aw ay FG FT Z D⟩
def walk{l:Ph}{K:NX->X4}(j:l.most=some 63)(b:d.params.defaults=[])
  (g:∀(w:W9) (h:Heap),YP w h->(K w.params).In h)
  (F:∀(w:W9) (mg:Str->Option X9) (c:Addr) (h:Heap),(K w.params).In h->h.Ns XT mg->mg d.name=some (.ref c) ->
   ∃fd:XI,(∀(s:X8) (u:X9),OD s fd ⟨[u],[]⟩ [("_law_script",u)])/\∀base:Heap,(K w.params).In base->base.Ns XT mg->yM 448 l.prog w (K w.params) mg base CX0 14 c fd ["_law_script"] (zkP (K w.params))) :
  zc5 448 q loose XP YP l.row.toRowW d [] (λf vs=>PySem.call f vs) :=
 L2.zm0 (n:=63) (k:=14) (x:="_law_script") (CX:=λ_=>CX0) (sp:=λw=>zkP (K w.params)) j "d" b ⟨rfl,"d","d"⟩ g F (λ_ _ a m i _ e=>⟨a,m,rfl,e,i,λ_=>rfl⟩) λ_ _ _ _ _ z=>z
end K63
open PySem PySem.W PyProof.Rows
set_option maxRecDepth 100000 in
set_option maxHeartbeats 0 in
theorem PySem.Challenge.cw_stonelay_k63_runs_by_thoughts_holds : PySem.Challenge.rw_stonelay_k63_runs_by_thoughts.Holds := by
 refine Zm.early λ{q XP YP d K} hdf hY hn F=>?_;refine K63.walk (l:=PySem.Challenge.rw_stonelay_k63_runs_by_thoughts) rfl hdf hY λw mg fa h KX G hmg=>?_;rw[hn]at hmg;exact K63.all_mk KX G hmg (F w)