import PyProof.Rows.All
import KE.IntBitsLaws
import KE.KDictOf
import KE.KDictSum
import KE.KIntText
import KE.KSortTup
import KE.LcSums
import KE.RegKIsAll
import KE.KNestM
import KE.KPairComp
import KE.KRevSl
import Lean
import PySem.Challenge.RW_stonelay_k64_whole_runs_by_what_is_sure
open PySem renaming wpAny_bind->ZB,Value->Y1,Shared->X8,mainGlobals->XY,wpAny_pure->XT,FuncData->XM,sizeLine->Xz,model->Xw,wpAny->Xu,Program->Xr,boot_len->Xf,World->Xe,wpAny_mono->Xa,starEach->W4,Around->W1,Paired->WU,mem_of_lookup->WK,wpAny_holding->WA,SetTable->Wt,wpAny_passesOwn->Wg,PyData->Wf,foldedSetIterable->We,wpAny_loadPart'->V8,wpAny_newObj_type->V2,compareOp->VO,wpAny_loadPart_at->VL,tupleKind->VI,wpAny_execs_nil->VF,codeAny_builtin->VE,relabel->Vx,Scope->Vr,sysModules->Vh,wpAny_execs_cons->Vg,wpAny_Call_Name_kw->Vc,wpAny_standAt->U9,cLine->U7,wpAny_truthy_bool->U3,Spec->U1,compEnvC->UX,codeAny_mono->UT,codeAny->UJ,backTo->UI,Builtin->UD,wpAny_rule->Uu,plainId_quiet->Ut,GenState->Um,binaryOp->Ul,treeTable->Uj,wpAny_call_entry->Ue,rawInt->T9,comprehension->TU,builtinLookup_eq_fast->TQ,wpAny_newFunctionEnv->Tu,codeAny_call_builtin->Tt,bootBuiltins->Tr,NameKind->Tb,wpAny_attempt->S9,wpAny_comprehension_free->S7,assignEach->SX,swapsWith->SQ,sizeLine_eq->SO,sliceBounds->SN,callerA->SM,wpAny_Assign_Name->SD,wpAny_pyIter_list->SA,wpAny_pyIter_enum->Sz,wpAny_setState_of->Sy,ofAClassStatement->Sx,codeAny_compStart_list->Sr,cellsFrom->Se,wpAny_comp_letGo->Sc,storedH->Sb,Model->R5,again->R4,letOwnedTupleGo->RU,typeLookup_type->RS,wpAny_setEntries_of->RR,partValue->RL,pyNext->RK,builtinsNs->RJ,call_meets->RI,closureFor->RG,newFunctionEnv->RD,firstArgMember->RC,wpAny_setField->Rz,tupleKind_room_in1->Rw,wpAny_newFunctionEnv_cells->Rr,wpAny_of_eq->Ri,wpAny_assign_Name->Rf,Result->QP,behindInMarks->Qr,attributeBase->P9,setSearchFrom->P7,Comprehension->P6,noteFrame->PU,pickOrder->PQ,checkBuiltinCall->PM,wpAny_forIn_list->PJ,wpAny_askSetting->PH,wpAny_callSpecial?_slot->PB,classAt->Px,wpAny_call->Pu,seqIndex_neg->Ps,wpAny_typeOf->Pq,wpAny_getItem_list_neg->Pm,wpAny_Call_method_late->Pl,theTreesLotGoes->Pe,wpAny_specialOf->Pd,wpAny_looks_onW->Pc,codeAny_call_function->O8,exec_Assign_Name_used->O6,codeAny_handlers_test->O0,seqIndex_of->OX,subscripted->OW,hashByValue->OV,intText?->OQ,isSubtype_type->OP,lookup_relabel_local->OK,getItem->OE,BindsTo->OD,Keyword->OC,valueAt->OA,PassesOwn->Oy,codeAny_forLoop_any->Ox,wpAny_Tuple_spliced->Ow,wpAny_handleBy_cons->Oq,compTurn_list->Oo,wpAny_newList->Oj,DefRec->Oh,assign->Og,pyIter->Of,typeLookup->Od,typeIs_str->Ob,spliced->N8,OsState->N7,bindArgs->N5,ReadsAll->N4,codeAny_loop->N1,wpAny_landsW->NZ,Params->NW,Arguments->NV,atKey->NT,unsupported->NS,keywordEach->NR,wpAny_noted->NQ,wpAny_throw->NP,Drawn->NN,bindL->NM,bindC->NL,IntMulOk->NI,getAttr?->NH,entryFor->NG
open List renaming length_map->X9,mem_of_getElem?->X7,getElem?_eq_getElem->X2,getElem?_eq_some_iff->XZ,mem_cons_of_mem->XW,mem_cons_self->XV,length_append->XR,mem_filter->XQ,mem_append->XO,mem_cons->XJ,length_take->XG,mem_append_right->XD,take_length->XC,size_toArray->XB,mem_map->XA,take_add_one->Xv,getElem?_map->Xo,length_cons->Xk,map_append->Xj,map_cons->Xh,map_congr_left->Xc,Nodup->W6,filter_append->W5,mem_append_left->W2,append_assoc->WY,append_nil->WX,length_filter_le->WW,replicate->WV,getD_eq_getElem?_getD->WS,take_append_drop->WO,drop_eq_getElem_cons->WF,any_eq_true->WE,all_eq_true->WD,filter_cons->WC,flatten_cons->Wy,mem_flatten->Ww,take_of_length_le->Wu,map_map->Ws,flatten_append->Wo,filter_sublist->Wi,range->Wh,length_range->Wc,nodup_append->Wb,sublist_flatten_of_mem->V9,foldl_cons->V7,countP_cons->V5,perm_ext_iff_of_nodup->V3,pairwise_map->V1,mem_of_mem_take->V0,getElem?_append_left->VY,filter_eq_nil_iff->VR,mem_range->VH,getElem?_append_right->VG,replicate_succ->VA,nodup_cons->Vv,not_mem_nil->Vs,pairwise_iff_getElem->Vj,length_drop->Vf,lookup_cons->Ve,mem_filterMap->Vd,length_mapIdx->Vb,filter_congr->U2,filterMap_cons->UW,countP_eq_zero->UV,getElem_mem->UP,ne_nil_of_mem->UL,isEmpty_eq_false_iff->UG,exists_mem_of_ne_nil->UF,getElem?_eq_none_iff->UE,countP_congr->Ux,length_reverse->Ur,take_succ_cons->Uo,nodup_nil->Ui,mem_reverse->Ud,mem_flatMap->Uc,length_eq_zero_iff->Ua,mem_singleton->T5,filter_filter->T3,length_pos_of_mem->T0,find?_cons->TY,length_nil->TW,perm_append_comm->TN,take_sublist->TM,foldl_append->TL,map->Tx,pairwise_append->Ts,any_map->Tn,getElem?_zip_eq_some->Tj,getElem?_range->Tg,getElem_of_mem->Tf,reverse_append->Te,length_pos_iff->Td,sublist_append_left->S1,getElem?_drop->SV,ext_getElem?->Sv,getElem?_set_self->Ss,drop_eq_nil_of_le->So,getElem?_eq_none->Si,map_take->R8,lookup->R3,map_id->R1,getElem?_set_ne->R0,mem_of_mem_drop->RX,of_mem_zip->RT,pairwise_cons->Ru,extract_eq_take_drop->Rn,sublist_append_right->Rj,any_eq_false->Re,reverse_cons->Rb,drop_sublist->QR,reverse_perm->QQ,getElem?_take_of_lt->PZ,isEmpty_iff->PN,cons_append->PL,getElem?_cons_succ->PC,filter_map->Pa,length_singleton->O7,mem_iff_getElem?->O5,pairwise_reverse->O2,filter->OU,drop_drop->OO,reverse_reverse->OL,getElem?_mapIdx->OI,getElem?_of_mem->OH,countP_pos_iff->Ov,toList_toArray->Os,any_cons->On,map_drop->Ol,map_nil->N2
open Array renaming length_toList->X6,getElem?_toList->Xy,toList_append->Xb,getElem?_eq_none->WI,getElem?_eq_some_iff->V4,size_map->Vn,getElem?_eq_getElem->Vi,toList_reverse->U5,getElem?_setIfInBounds->UY,toList_map->UO,size_reverse->UM,perm_iff_toList_perm->UK,getElem_toList->Uv,size_extract->T4,size_setIfInBounds->S6,toList_push->Sw,size_append->Su,getElem?_extract->Sm,mem_toList_iff->RZ,append_assoc->Rx,toList_setIfInBounds->Rp,getElem?_replicate->PY,getElem?_reverse->Pi,toList_extract->OM,toList_modify->Ot
open PySem.W renaming Frag->X5,nsIn->XU,kitOne->Xg,mg_none_of->WT,mg_of->WR,excIn->WG,mroIn->Wn,fnOf->VV,kia_one->VP,findIn->Vy,hashAt->Vq,keepIn->Vp,codeIn->U6,callWith_K->T6,cellsFrom_some->T2,openEnds->TB,hideAll_get->Ti,looks_mroIn->Th,isClsIn->SY,looks_findIn->RY,methodObj->Rg,instObj->Pf,OpenLaw->Pb,lookIn->OT,Ground->NX,GoodWG->NJ
open PySem.Heap renaming get?_push_of_some->X4,lt_size->XH,get?_push_size->Xl,get?_update_self->Wm,SameBut->VU,get?_update_other->VB,size_push->Vo,get?_none_of_le->Uw,get?_update_ne->RQ,HeldW->N9,FlyingW->N0
open Nat renaming le_trans->X0,le_refl->XX,lt_of_le_of_lt->Xx,lt_of_lt_of_le->Xs,ne_of_lt->Xm,zero_le->WZ,lt_succ_of_lt->WH,le_succ->Wl,lt_irrefl->Wj,zero_add->VD,succ_ne_self->Vt,pow_le_pow_right->U4,ne_of_gt->UB,le_succ_of_le->Uz,le_add_right->Uf,pow_succ->T7,not_lt_zero->TV,le_of_lt->Tq,lt_trans->Tp,sub_self->To,lt_of_lt_of_eq->SS,lt_or_ge->SJ,succ_pos->SH,lt_succ_self->Sd,mod_lt->RE,add_sub_cancel->Rv,lt_trichotomy->Ra,add_sub_cancel_left->Py,mul_comm->Pr,add_zero->Pp,one_le_iff_ne_zero->Ph,add_le_add_right->ON,pow_lt_pow_right->OJ
open Bool renaming false_ne_true->XS,and_eq_true_iff->W7,eq_false_iff->WP,eq_iff_iff->WJ,not_eq_true'->Wx,false_eq_true->Wq,and_eq_true->VC,and_true->S8,false_and->SG,and_comm->R6,and_assoc->Ry,true_and->P1,and_false->OR
open Or renaming inl->XI,inr->UH
open PySem.SetTable renaming bits->XF,below->Xq,insertAt->Xi,turns->W9,runEnd->Vu,leap->U8,grown->Uh,sizeAbove->SU,Probe->RA,advance->PK,fill->Om
open PyProof.Rows renaming wpS_bind->XE,wpS_pure->Xp,arrOf->Xn,Keyed->Xd,boot_isinstance->WQ,SortSt->WM,pendingOf->WL,wpS_forRange->VT,callWith_type1->VJ,boot_list->US,wpS_mono->Uk,pairsOf_toList->Ug,seqObj->T8,SortKind->Tz,boot_sorted->S2,wpS_modify->SW,AllBare->SL,failedOf->SK,boot_dict->Sl,boot_min->Sh,boot_any->Sf,wpS_get->Sa,reverseSlice'->R7,envOfC->RW,mem_zip_self->RP,listItems_at->Rl,subscriptTail->Qb,wpS_lift->PV,subscriptTail_builtinR->Pn,boot_max->OZ,boot_set->OY,IntsAre->OB,pairsOf->Oz,getElem?_mirror_all->Ou,Subscript_->Oc,IsTup->NO,signs->NK
open PySem.PyData renaming eqv->W8,canLay0->Wp,canLayAll0->Wd,depthAll->V6,str->VW,bool->UC
open PySem.PassesOwn renaming never->W3
open PySem.Value renaming ref->WN,int->Vl,none->U0,builtin->P8,type->Pw,bool->Oe,str->NU
open False renaming elim->WB
open PySem.F renaming plainAttrs_list->Wz,slot_list_append->VN,type_list_append->VM,typeOf_object_class->TH,slot_list_extend->S5,type_list_extend->S4,slot_dict_get->Sk,excBase_ValueError->Rq,args_dict_get_3->PF,plain_list_iadd->Pz,entry_dict_get->Pk,slot_set_iter->O4,plain_set_new->O3
open Int renaming emod_lt_of_pos->Wv,emod_nonneg->Wr,gcd->VX,le_of_lt->VS,toNat_of_nonneg->Vz,le_trans->Vw,le_refl->UR,toNat_natCast->UA,gcd_dvd_right->TJ,gcd_dvd_left->Tk,mul_ediv_cancel_left->SZ,natCast_nonneg->SR,neg_le_neg->SF,add_zero->RO,zero_add->RN,natAbs_natCast->Rt,mul_zero->Po,le_ediv_iff_mul_le->Pg,natCast_add->O9,ediv_self->Oi,not_lt->Oa,mul_comm->NY
open Option renaming isSome_iff_exists->Wa,map_some->TX,getD_some->Tl,map_eq_some_iff->Sq
open PySem.Around renaming under_plainId->VZ
open List.Sublist renaming length_le->VQ
open PySem.SetTable.below renaming go->Vm
open ForInStep renaming yield->Vk
open Ne renaming symm->Va
open PySem.Obj renaming mapSeq->UZ,mapFields->TR
open PyProof.Rows.F renaming plain_set_update_loop->UU,entry_set_update_loop->Tc
open PySem.NameKind renaming cell->UQ
open PySem.Calls renaming spliced_cons->UN,callWith_builtin->T1,evalArgs_plain->Tv,Name_function_global->Rs,call_function_entry->Rm,spliced_nil->Rc
open PySem.Txt renaming replace->Uy
open PySem.Builtin.List renaming listTooLong->Us,listExtendWith->RM,listSameRef->PX
open PySem.Heap.SameBut renaming update->Uq
open PySem.Builtin.Str renaming occurrences->Ub,strSliceIndices->TF
open PySem.Str renaming join->TZ
open PySem.SetTable.probe renaming go->TK
open True renaming intro->Tw
open PySem.ExcName renaming means->Ta
open List.Perm renaming append_left->Sj
open PySem.Shared renaming TypeIs->R9
open Classical renaming byContradiction->Ro
open Prod.mk renaming injEq->P0
open PySem.W.WData renaming layableAll->PP
open PySem.Builtin.Dict renaming updateFrom->PD,pairItems->Pj
open Sum renaming inl->OG,inr->OF
open PySem.BindsTo renaming of_defaults->Op
open PySem.W.Hook renaming obs->N6
open PySem.W.RowW renaming records->N3
set_option Elab.async false
set_option linter.all false
set_option maxRecDepth 100000
theorem bq {c:Prop}{h:Decidable c}(n:¬c){α:Sort _}{t e:α}:ite c t e=e:=if_neg n
theorem bw {c:Prop}{h:Decidable c}(n:c){α:Sort _}{t e:α}:ite c t e=t:=if_pos n
theorem br {p:Prop}[Decidable p](h:p):decide p=true:=decide_eq_true h
theorem bu {p:Prop}[Decidable p]:(decide p=true)=p:=decide_eq_true_eq
theorem bf {p:Prop}[Decidable p](h:¬p):decide p=false:=decide_eq_false h
theorem bh {p:Prop}[Decidable p](h:decide p=true):p:=of_decide_eq_true h
namespace JN
open PySem PySem.W
def sel:List Nat->Nat->List Stmt->List Stmt
 | _,_,[]=>[]
 | ns,i,x::xs=>match ns.contains i with
  | true=>sel ns (i+1) xs
  | false=>x::sel ns (i+1) xs
section
open PySem.Calls PyProof.Rows
abbrev zcJ (n0:Nat)(q:Xr)(loose:List Str)(XP:(Str->Option Y1)->Heap->Prop)(YP:Xe->Heap->Prop)(r:RowW)(d:Oh)(kwd:List (Str×Expr))(run:Y1->List Y1->Sem Y1):Prop :=
 ∀(w:Xe) (s₀ s₁:X8) (mg mb:Str->Option Y1),NX q loose r.records XP w s₀ mg mb s₁.heap->YP w s₁.heap->n0<=s₁.toks->∀(a:Addr) (o:Obj) (pm cd doc dV kV:Y1),s₁.heap.get? a=some o ->
  o.data=.func { docDef d.name d.params d.body d.scope pm cd doc with defaults:=dV,kwdefaults:=kV }->s₁.heap.CodeRec cd d.name->Dflts mg s₁.heap d.params kwd dV kV->mg d.name=some (.ref a)->s₁.gens=#[] ->
  ∀(args:List WData) (vals:List Y1) (as:List Addr),r.claim.pre args=true->PP args=true->ReadsAllW r.records (Px s₀.heap) s₁.heap vals args as->WellAll w.params s₁.heap vals args->(∀a∈as,(a==Vh)=false) ->
   Xu (Xw r.prog w) SM (run (.ref a) vals) (λv s'=>NJ r.claim (Px s₀.heap) (Ta s₀.heap) args s₁ (.ok (.ret v)) s')
    (λe s'=>NJ r.claim (Px s₀.heap) (Ta s₀.heap) args s₁ (.error e) s') s₁
theorem zjP {n0:Nat}{r:RowW}{run:Y1->List Y1->Sem Y1}{tree:List Y1->Sem Fin}{q:Xr}{loose defs kps:List Str}{writes:Bool}{Xt:X8->Bool}{XP:(Str->Option Y1)->Heap->Prop}{α:Type}{Yf:X8->α}{Ya:Xe->α}{YP:Xe->Heap->Prop}{N:Nat}
  (left:LeftO r.prog q loose Xt (λs=>(Yf s,decide (n0<=s.toks))) (λw=>(Ya w,true)) N) (hY:∀w s,Yf s=Ya w->YP w s.heap) (hYk:∀w h h',YP w h->(∀b o,h.get? b=some o->h'.get? b=some o)->YP w h') (hX:∀s,Xt s=true->XP (s.heap.nsMap XY) s.heap) (hXk:∀mg h h',XP mg h->(∀b o,h.get? b=some o->h'.get? b=some o)->XP mg h')
  (hRf:∀s,Xt s=true->RecFacts r.records s.heap) (hwr:(!writes || r.records.isEmpty)=true) (ok:(chainsOk q&&opensWell r.prog&&(frees r&&r.within.isEmpty))=true) (hb:r.prog.bare) (hw:r.promised)
  (ht:∀vs (w:Xe) (s:X8) mg f (Q:Fin->X8->Prop) (E:Y1->X8->Prop),s.heap.Ns XY mg->mg r.name=some f->Xu (Xw r.prog w) SM (run f vs) (λv s'=>Q (.done (.ret v)) s') E s->Xu (Xw r.prog w) SM (tree vs) Q E s)
  (pin:∀w s,s.heap.isNs XY=true->NX q loose [] XP w s (s.heap.nsMap XY) (s.heap.nsMap RJ) s.heap->∀n∈defs,isTheDefsW r.prog s.heap n)
  (call:∀(w:Xe) (s₀ s₁:X8) (mg mb:Str->Option Y1),NX q loose r.records XP w s₀ mg mb s₁.heap->YP w s₁.heap->n0<=s₁.toks->∀(args:List WData) (vs:List Y1) (as:List Addr),
   r.claim.pre args=true->PP args=true->Laid r.records w s₀ s₁ args vs as->Vh<s₀.heap.objs.size->∃f,mg r.name=some f /\
    Xu (Xw r.prog w) SM (run f vs) (λv s'=>NJ r.claim (Px s₀.heap) (Ta s₀.heap) args s₁ (.ok (.ret v)) s')
     (λe s'=>NJ r.claim (Px s₀.heap) (Ta s₀.heap) args s₁ (.error e) s') s₁):r.claim.HoldsOpenBy (λvs=>⟨tree vs,.builtin "claim.caller" {},default,[]⟩) defs kps writes:=by
 obtain⟨ok,k5⟩:=W7.mp ok;obtain⟨hch,o1⟩:=W7.mp ok;obtain⟨k5,k6⟩:=W7.mp k5;obtain⟨hsame,hu,ha,hap,hm⟩:=frees_parts k5;refine⟨⟨hb,o1,by show r.makers.map _=[];rw[hm];rfl⟩,hw.witness,λw=>⟨(left.behind hX hch w).1,λs' hs'=>?_⟩⟩;obtain⟨s₀,hf,hg0,s,hT,hz,hgens,hg,G00,y⟩:=(left.behind (XP:=λmg h=>XP mg h/\RecFacts r.records h) (λs hs=>⟨hX s hs,hRf s hs⟩) hch w).2 s' hs';have G0:NX q loose [] XP w s (s.heap.nsMap XY) (s.heap.nsMap RJ) s.heap:=⟨G00.T,G00.B,G00.D,G00.TE,G00.TD,G00.W,G00.X.1,G00.cls,G00.has,G00.apart,G00.once,G00.K⟩;have RF:=G00.X.2;have hT':=hT;refine⟨s₀,hf,hg0,s,hT,pin w s hg G0,RF.1,RF.2.1,?_⟩;have hgens:s.gens=#[]:=Array.eq_empty_of_size_eq_zero (beq_iff_eq.mp hgens);have G:NX q loose r.records XP w s _ _ s.heap:=RF.ground G0;refine ClaimW.callFrom_of_specG (c:=r.claim) hz hgens λargs hpre hlay ord hord=>?_;obtain⟨⟨vs,s₁⟩,hlaid⟩:=Wa.mp (layAllW_isSome (P:=w.params) (ord:=ord) G.has args r.args s (pre_splitW hpre).1);have keeps:=layAllW_keeps _ _ _ hlaid;have hal:=layAllW_rest _ _ _ hlaid;obtain⟨as,hrd,hin,hold⟩:=reads_layAllW hord _ _ _ hlaid hlay s₁.heap (λ_ _ e=>e);have L:Laid r.records w s s₁ args vs as:=⟨⟨ord,hord,hlaid⟩,hrd,hin,hold,keeps,hal.1.trans hgens,hal.2.2.1⟩;have G₁:=G.keeps hXk keeps;obtain⟨f,hf,h⟩:=call w s s₁ _ _ G₁ (hYk _ _ _ (hY w s (congrArg Prod.fst y)) keeps) (X0 (bh (congrArg Prod.snd y)) (layAllW_grows _ _ _ hlaid).toks) args vs as hpre hlay L G.low;have hi:=ident_freeW hu ha hap;have hwi:r.claim.within=[]:=PN.mp k6;exact⟨vs,s₁,hlaid,ht vs w s₁ _ f _ _ G₁.T.g hf (Xa h (λv s' g=>⟨_,rfl,have z:=g.laid (c:=r.claim) hsame hwi hi L;⟨z.1,z.2.1,z.2.2,λq=>⟨namesKept_of hT' hg kps keeps g.2.1.old,noTable hwr q⟩⟩⟩) λe s' g=>have z:=g.laid (c:=r.claim) hsame hwi hi L;⟨z.1,z.2.1,z.2.2,λq=>⟨namesKept_of hT' hg kps keeps g.2.1.old,noTable hwr q⟩⟩)⟩
theorem zgb {n0:Nat}{r:OpenRow}{q:Xr}{loose:List Str}{Xt:X8->Bool}{XP:(Str->Option Y1)->Heap->Prop}{α:Type}{Yf:X8->α}{Ya:Xe->α}{YP:Xe->Heap->Prop}{d:Oh}{kwd:List (Str×Expr)}{N:Nat}
  (left:LeftO r.prog q loose Xt (λs=>(Yf s,decide (n0<=s.toks))) (λw=>(Ya w,true)) N) (hY:∀w s,Yf s=Ya w->YP w s.heap) (hYk:∀w h h',YP w h->(∀b o,h.get? b=some o->h'.get? b=some o)->YP w h')
  (hX:∀s,Xt s=true->XP (s.heap.nsMap XY) s.heap) (hXk:∀mg h h',XP mg h->(∀b o,h.get? b=some o->h'.get? b=some o)->XP mg h')
  (hdef:defOf q r.name=some (d,kwd)) (hp:r.prog.theDef r.name=some (d.params,d.body,d.scope)) (hk:kwWritten? d.params.kwonlyargs d.params.kw_defaults=some kwd) (hRf:∀s,Xt s=true->RecFacts r.records s.heap) (hwr:(!r.writes || r.records.isEmpty)=true)
  (k1:r.wellSaid=true) (ok:(chainsOk q&&opensWell r.prog&&(frees r.toRowW&&r.within.isEmpty))=true) (hb:r.prog.bare) (hw:r.toRowW.promised)
  (call:zcJ n0 q loose XP YP r.toRowW d kwd λf vs=>PySem.call f vs):r.Holds:=by
 refine⟨k1,hw,zjP (r:=r.toRowW) (run:=λf vs=>PySem.call f vs) (tree:=λvs=>do match <- nsGet mainNs r.name with
   | some f=>do ret (<- PySem.call f vs)
   | none=>NS "claim.caller:no-such-global") left hY hYk hX hXk hRf hwr ok hb hw
  (λvs w s mg f Q E hg hf h=>ZB (wpAny_nsGet hg (by rw[hf];exact ZB (Xa h (λ_ _ x=>XT x) λ_ _ x=>x))))
  (λw s hg G n hn=>?_) λw s₀ s₁ mg mb G Y z args vs as hpre hlay L low=>?_⟩
 .obtain rfl:n=r.name:=by split at hn<;>simp_all
  exact pinned_of_view hg G hdef hp hk
 .obtain⟨a,o,pm,cd,doc,dV,kV,h1,h2,h3,h4,h5⟩:=G.fn hdef;exact⟨.ref a,h1,call w s₀ s₁ mg mb G Y z a o pm cd doc dV kV h2 h3 h4 h5 (defOf_name hdef ▸ h1) L.gens args vs as hpre hlay L.reads L.well (L.low low)⟩
theorem zhF {n0:Nat}{loose:List PySem.Str}{r:OpenRow}{q:Xr}{H:Hook}{d:Oh}{kwd:List (PySem.Str×Expr)}{N:Nat}(left:LeftO r.prog q loose (λs=>xlAt q [] s&&recOk (N3 r.toRowW) s) (λs=>(N6 H s,decide (n0<=s.toks))) (λw=>(Hook.val H w,true)) N)
  (hdef:defOf q r.name=some (d,kwd)) (hp:r.prog.theDef r.name=some (d.params,d.body,d.scope)) (hk:kwWritten? d.params.kwonlyargs d.params.kw_defaults=some kwd) (hwr:(!r.writes || r.records.isEmpty)=true)
  (k1:r.wellSaid=true) (ok:(chainsOk q&&opensWell r.prog&&(frees r.toRowW&&r.within.isEmpty))=true) (hb:r.prog.bare) (hw:r.toRowW.promised)
  (call:zcJ n0 q loose (XL q []) (Hook.says H) r.toRowW d kwd λf vs=>PySem.call f vs):r.Holds :=
 zgb (q:=q) (loose:=loose) (Xt:=λs=>xlAt q [] s&&recOk (N3 r.toRowW) s) (XP:=XL q []) (Yf:=N6 H) (Ya:=Hook.val H) (YP:=Hook.says H) (N:=N) left (Hook.of H) (Hook.keeps H) (λs e=>xl_of s (W7.mp e).1) XL.keeps hdef hp hk
  (λs e=>recFacts_of (W7.mp e).2) hwr k1 ok hb hw call
end
def top (i:Nat):Stmt:=PySem.Challenge.pw_stonelay_k64_whole_runs_by_what_is_sure.main.body.getD i (.Pass ⟨0,0,0,0⟩)
def yg (s:Stmt):NV:=match s with
 | .FunctionDef _ a _ _ _ _ _ _ _ _=>a
 | _=>{ posonlyargs:=[],args:=[],vararg:=none,kwonlyargs:=[],kw_defaults:=[],kwarg:=none,defaults:=[] }
def jr (s:Stmt):List Stmt:=match s with
 | .FunctionDef _ _ b _ _ _ _ _ _ _=>b
 | _=>[]
def ze (s:Stmt):Vr:=match s with
 | .FunctionDef _ _ _ _ _ _ sc _ _ _=>sc
 | _=>{ kind:=.function,names:=[],isGenerator:=false,isCoroutine:=false }
def HD (K:X5)(x:Str)(i:Nat):Prop:=∃(f:Addr) (oc:Y1) (od an:Option Addr) (sl:Array (Option Y1)) (kV dc pm cd ct:Y1),XU K XY x=some (some (.ref f))/\K.lookup f=some ⟨oc,od,.func (VV x x (yg (top i)) (jr (top i)) (ze (top i)) .none kV dc pm an cd ct),sl⟩/\U6 K cd x=true/\Vp K (.ref f)=true
def HDD (K:X5)(x:Str)(i:Nat)(v:Str):Prop:=∃(f td:Addr) (oc:Y1) (od an:Option Addr) (sl:Array (Option Y1)) (kV dc pm cd ct:Y1) (ot:Obj) (n:Nat) (t:Tok),XU K XY x=some (some (.ref f))/\K.lookup f=some ⟨oc,od,.func (VV x x (yg (top i)) (jr (top i)) (ze (top i)) (.ref td) kV dc pm an cd ct),sl⟩/\U6 K cd x=true/\Vp K (.ref f)=true/\K.lookup td=some ot/\ot.data=.seq #[.str v t] n
def Jj:List Y1:=[.type "ValueError",.type "Exception",.type "BaseException",.type "object"]
structure Facts (K:X5):Prop where
 Ye:HD K "board_of" 17
 yI:HD K "checked_rows" 18
 J4:HD K "check_row" 19
 zat:HD K "closed" 20
 Jk:HD K "open_cells" 21
 zau:HD K "around" 22
 J5:HD K "number_at" 23
 zav:HD K "opened" 24
 Yg:HD K "cells_of" 25
 Qv:HD K "sign_at" 26
 Yh:HD K "field_of" 31
 J6:HD K "stones_of" 32
 J7:HD K "clears_of" 33
 Jl:HD K "cells_with" 34
 Yi:HD K "board_at" 35
 zcn:HD K "parts" 37
 zaw:HD K "joined" 38
 ziI:HD K "far" 39
 Jm:HD K "numbers_of" 40
 Jo:HD K "bare_wrong" 41
 yt:HD K "closed_around" 42
 yJ:HD K "part_layings" 45
 Yj:HD K "needs_at" 46
 Qw:HD K "may_fit" 47
 xA:HD K "part_counts" 48
 Qx:HD K "counted" 49
 Jp:HD K "counted_at" 50
 Qy:HD K "choices" 52
 zax:HD K "poured" 53
 xB:HD K "near_counts" 55
 zco:HD K "count" 56
 yh:HD K "counts_by_cell" 57
 Jq:HD K "all_poured" 58
 zcp:HD K "dealt" 59
 Yk:HD K "fraction" 61
 jH:HD K "greatest_divisor" 62
 zay:HD K "shares" 64
 Jr:HD K "some_count" 65
 zfg:HD K "sure" 66
 Yl:HD K "asked_by" 69
 Ym:HD K "known_of" 70
 xC:HD K "still_asked" 71
 zaz:HD K "gained" 72
 Qz:HD K "settled" 73
 Yn:HD K "thoughts" 76
 J8:HD K "all_steps" 77
 xD:HD K "place_lists" 78
 Js:HD K "first_step" 79
 ziJ:HDD K "run" 81 "sure"
 xE:HD K "found_clear" 82
 xF:HD K "_law_cell_at" 84
 J9:HD K "_law_mixed" 85
 Za:HD K "_law_field" 86
 Jt:HD K "_law_corner" 87
 Zb:HD K "_law_cells" 88
 Yo:HD K "_law_safe" 90
 QA:HD K "_law_due" 91
 Yp:HD K "_law_told" 92
 ziK:HD K "law" 93
 Ju:XU K XY "ValueError"=some none
 ziL:XU K XY "abs"=some none
 ziM:XU K XY "any"=some none
 zfh:XU K XY "dict"=some none
 Zc:XU K XY "enumerate"=some none
 ziN:XU K XY "int"=some none
 Jv:XU K XY "isinstance"=some none
 ziO:XU K XY "len"=some none
 zfi:XU K XY "list"=some none
 ziP:XU K XY "max"=some none
 ziQ:XU K XY "min"=some none
 zcq:XU K XY "range"=some none
 ziR:XU K XY "set"=some none
 zaA:XU K XY "sorted"=some none
 ziS:XU K XY "str"=some none
 ziT:XU K XY "sum"=some none
 zcr:XU K XY "tuple"=some none
 ziU:XU K XY "zip"=some none
 ziV:∃t,XU K XY "ALL"=some (some (.str "all" t))
 xG:∃t,XU K XY "BOARD_SIGNS"=some (some (.str "?012345678#" t))
 Jw:∃t,XU K XY "CLEAR_SIGN"=some (some (.str "." t))/\t≠0/\t<448
 xH:∃t,XU K XY "CLOSED_SIGN"=some (some (.str "?" t))
 xJ:∃t,XU K XY "FIELD_SIGNS"=some (some (.str ".o#" t))
 yK:∃t,XU K XY "LONGEST_SIDE"=some (some (.int 8 t))
 yL:∃t,XU K XY "MOST_OF_PART"=some (some (.int 14 t))
 xK:∃t,XU K XY "MOST_STONES"=some (some (.int 64 t))
 xM:∃t,XU K XY "MOST_THINGS"=some (some (.int 30 t))
 yM:∃t,XU K XY "NO_CELL_SIGN"=some (some (.str "#" t))
 Jx:∃t,XU K XY "STONE_SIGN"=some (some (.str "o" t))/\t≠0/\t<448
 cls:∃jai jaj jad jaa jac jab jah jaf jae jag:Addr,XU K XY "StoneError"=some (some (.ref jai))/\XU K XY "TooGreat"=some (some (.ref jaj))/\XU K XY "NoLaying"=some (some (.ref jad))/\XU K XY "NoBoard"=some (some (.ref jaa))/\XU K XY "NoCount"=some (some (.ref jac))/\XU K XY "NoCell"=some (some (.ref jab))/\XU K XY "NoText"=some (some (.ref jah))/\XU K XY "NoRow"=some (some (.ref jaf))/\XU K XY "NoNumber"=some (some (.ref jae))/\XU K XY "NoTable"=some (some (.ref jag))/\WG K jai Jj "ValueError.__new__"=true/\WG K jaj Jj "ValueError.__new__"=true/\WG K jad Jj "ValueError.__new__"=true/\WG K jaa Jj "ValueError.__new__"=true/\WG K jac Jj "ValueError.__new__"=true/\WG K jab Jj "ValueError.__new__"=true/\WG K jah Jj "ValueError.__new__"=true/\WG K jaf Jj "ValueError.__new__"=true/\WG K jae Jj "ValueError.__new__"=true/\WG K jag Jj "ValueError.__new__"=true/\Vy K (.ref jaj) "__getattribute__"=some (some (.builtin "BaseException.__getattribute__"))/\Vy K (.ref jaj) "__getattr__"=some none/\Vy K (.ref jaj) "__class__"=some (some (.builtin "object.__class__"))/\Wn K jaj (.type "BaseException")=some true/\Wn K jaj (.type "object")=some true/\SY K jaj=true/\Wn K jaj (.ref jai)=some true/\Xg K (.ref jaj) (.ref jaj)=some true/\Xg K (.ref jaj) (.ref jad)=some false/\Xg K (.ref jaj) (.ref jaa)=some false/\Xg K (.ref jaj) (.ref jac)=some false/\Xg K (.ref jaj) (.ref jab)=some false/\Xg K (.ref jaj) (.ref jah)=some false/\Xg K (.ref jaj) (.ref jaf)=some false/\Xg K (.ref jaj) (.ref jae)=some false/\Xg K (.ref jaj) (.ref jag)=some false/\Xg K (.ref jaj) (.type "ValueError")=some true/\Wn K jaj (.ref jaj)=some true
end JN
def JN.ob:List PySem.Str:="StoneError" :: "NoBoard" :: "NoCount" :: "TooGreat" :: "NoLaying" :: "NoCell" :: "NoText" :: "NoRow" :: "NoNumber" :: "NoTable" :: "CLOSED_SIGN" :: "NO_CELL_SIGN" :: "BOARD_SIGNS" :: "LONGEST_SIDE" :: "MOST_STONES" :: "board_of" :: "checked_rows" :: "check_row" :: "closed" :: "open_cells" :: "around" :: "number_at" :: "opened" :: "cells_of" :: "sign_at" :: "CLEAR_SIGN" :: "STONE_SIGN" :: "FIELD_SIGNS" :: "field_of" :: "stones_of" :: "clears_of" :: "cells_with" :: "board_at" :: "parts" :: "joined" :: "far" :: "numbers_of" :: "bare_wrong" :: "closed_around" :: "MOST_OF_PART" :: "part_layings" :: "needs_at" :: "may_fit" :: "part_counts" :: "counted" :: "counted_at" :: "choices" :: "poured" :: "near_counts" :: "count" :: "counts_by_cell" :: "all_poured" :: "dealt" :: "fraction" :: "greatest_divisor" :: "shares" :: "some_count" :: "sure" :: "ALL" :: "asked_by" :: "known_of" :: "still_asked" :: "gained" :: "settled" :: "MOST_THINGS" :: "thoughts" :: "all_steps" :: "place_lists" :: "first_step" :: "run" :: "found_clear" :: "_law_cell_at" :: "_law_mixed" :: "_law_field" :: "_law_corner" :: "_law_cells" :: "_law_near" :: "_law_safe" :: "_law_due" :: "_law_told" :: []
noncomputable def JN.view:PySem.Program:={ PySem.Challenge.rw_stonelay_k64_whole_runs_by_what_is_sure.prog with main:={ PySem.Challenge.rw_stonelay_k64_whole_runs_by_what_is_sure.prog.main with body:=PySem.Challenge.rw_stonelay_k64_whole_runs_by_what_is_sure.prog.main.body.drop 93 } }
theorem JN.keep (H:PySem.W.Hook){P:Prop}(h:P):P:=h
local macro_rules | `(tactic| o_head $H)=>`(tactic| refine JN.keep $H ?_)
open PySem PySem.W PyProof.Rows in
set_option maxRecDepth 100000 in
set_option maxHeartbeats 0 in
theorem JN.pre (h:PySem.Challenge.rw_stonelay_k64_whole_runs_by_what_is_sure.row.Holds):PySem.Challenge.rw_stonelay_k64_whole_runs_by_what_is_sure.row.Holds:=by
 k_head;exact h
namespace JN
open PySem PySem.W
def as:List Addr:=[2,3,15,22,23,24,25,28,35,36,37,40,47,48,49,52,59,60,61,64,71,72,73,76,83,84,85,88,95,96,97,100,107,108,109,112,119,120,121,124,131,132,133,136,138,139,141,142,143,145,146,148,149,150,152,153,155,156,157,160,161,162,165,166,167,169,170,172,173,174,176,177,179,180,181,184,185,186,189,190,191,193,194,196,197,198,200,201,203,204,205,207,208,210,211,212,214,215,217,218,219,222,223,224,227,228,229,231,232,234,235,236,239,240,241,244,245,246,249,250,251,254,255,256,259,260,261,264,265,266,269,270,271,274,275,276,278,279,281,282,283,285,286,288,289,290,293,294,295,297,298,300,301,302,304,305,307,308,309,312,313,314,316,317,319,320,321,324,325,326,328,329,331,332,333,336,337,338,340,341,343,344,345,347,348,350,351,352,355,356,357,359,360,362,363,364,367,368,369,371,372,374,375,376,379,380,381,384,385,386,389,390,391,393,394,396,397,398,401,402,403,406,407,408,411,412,413,416,417,418,419,421,422,424,425,426,428,429,431,432,433,435,436,438,439,440,442,443,445,446,447,449,450,452,453,454,457,458,459,461,462,464,465,473,475,476,478,479,480,482,483,485,486,487,489,490,492,493,494,497,498]
theorem cut {E:Option X8}{as:List Addr}{K:Frag}(n:Nat)(a:E.map (λs=>(as.take n).map s.heap.get?)=some ((K.take n).map λp=>some p.2))(b:E.map (λs=>(as.drop n).map s.heap.get?)=some ((K.drop n).map λp=>some p.2)):E.map (λs=>as.map s.heap.get?)=some (K.map λp=>some p.2):=by
 cases E with
 | none=>cases a
 | some s =>
  have e:=congr (congrArg HAppend.hAppend (Option.some.inj a)) (Option.some.inj b);rw[<- Xj,<- Xj,WO,WO]at e;exact congrArg some e
theorem hook {K:NW->Frag}{as:List Addr}{e:∀P,as=(K P).map (·.1)}{w:Xe}{E:Option X8}(h:E.map (λs=>as.map s.heap.get?)=some ((K w.params).map λp=>some p.2)):E.map (N6 (kHook K as e))=some (Hook.val (kHook K as e) w):=h
theorem he (P:NW):as=(pre.heap_1 P).map (·.1):=by kernel_rfl
noncomputable abbrev OS:=openSeen view ob (importedModules PySem.Challenge.rw_stonelay_k64_whole_runs_by_what_is_sure.row.prog.main.body) (λs=>xlAt view [] s&&recOk (N3 PySem.Challenge.rw_stonelay_k64_whole_runs_by_what_is_sure.row.toRowW) s) true
set_option maxRecDepth 100000
set_option maxHeartbeats 0
theorem sa (w:Xe):(TB Uj PySem.Challenge.rw_stonelay_k64_whole_runs_by_what_is_sure.row.prog w 8234).map (λs=>(OS s,decide (448<=s.toks)))=some (openGood view ob,true):=by kernel_rfl
theorem h0 (w:Xe):(TB Uj PySem.Challenge.rw_stonelay_k64_whole_runs_by_what_is_sure.row.prog w 8234).map (λs=>(as.take 95).map s.heap.get?)=some (((pre.heap_1 w.params).take 95).map λp=>some p.2):=by kernel_rfl
theorem h1 (w:Xe):(TB Uj PySem.Challenge.rw_stonelay_k64_whole_runs_by_what_is_sure.row.prog w 8234).map (λs=>((as.drop 95).take 95).map s.heap.get?)=some ((((pre.heap_1 w.params).drop 95).take 95).map λp=>some p.2):=by kernel_rfl
theorem h2 (w:Xe):(TB Uj PySem.Challenge.rw_stonelay_k64_whole_runs_by_what_is_sure.row.prog w 8234).map (λs=>((as.drop 95).drop 95).map s.heap.get?)=some ((((pre.heap_1 w.params).drop 95).drop 95).map λp=>some p.2):=by kernel_rfl
theorem lift {w:Xe}{α:Type}{Y:X8->α}{y:α}(h:(TB Uj PySem.Challenge.rw_stonelay_k64_whole_runs_by_what_is_sure.row.prog w 8234).map Y=some y):(TB Uj PySem.Challenge.rw_stonelay_k64_whole_runs_by_what_is_sure.row.prog w 8234).map (λs=>(OS s,(Y s,decide (448<=s.toks))))=some (openGood view ob,(y,true)):=by
 have a:=sa w;generalize TB Uj PySem.Challenge.rw_stonelay_k64_whole_runs_by_what_is_sure.row.prog w 8234=E at a h ⊢;cases E with
 | none=>cases a
 | some s =>
  have a:=Option.some.inj a;have h:=Option.some.inj h;exact congrArg some (Prod.ext (congrArg (·.1) a) (Prod.ext h (congrArg (·.2) a)))
theorem hk (w:Xe):(TB Uj PySem.Challenge.rw_stonelay_k64_whole_runs_by_what_is_sure.row.prog w 8234).map (λs=>as.map s.heap.get?)=some ((pre.heap_1 w.params).map λp=>some p.2):=(cut (E:=TB Uj PySem.Challenge.rw_stonelay_k64_whole_runs_by_what_is_sure.row.prog w 8234) (as:=as) (K:=(pre.heap_1 w.params)) 95 (h0 w) (cut (E:=TB Uj PySem.Challenge.rw_stonelay_k64_whole_runs_by_what_is_sure.row.prog w 8234) (as:=(as.drop 95)) (K:=((pre.heap_1 w.params).drop 95)) 95 (h1 w) (h2 w)))
theorem lf (w:Xe):(TB Uj PySem.Challenge.rw_stonelay_k64_whole_runs_by_what_is_sure.row.prog w 8234).map (λs=>(OS s,(N6 (kHook pre.heap_1 as he) s,decide (448<=s.toks))))=some (openGood view ob,(Hook.val (kHook pre.heap_1 as he) w,true)):=lift (Y:=N6 (kHook pre.heap_1 as he)) (y:=Hook.val (kHook pre.heap_1 as he) w) (hook (K:=pre.heap_1) (as:=as) (e:=he) (E:=TB Uj PySem.Challenge.rw_stonelay_k64_whole_runs_by_what_is_sure.row.prog w 8234) (hk w))
end JN
local macro_rules | `(tactic| o_head $H)=>`(tactic| (refine' JN.zhF (n0:=448) (loose:=JN.ob) (q:=JN.view) (H:=PySem.W.kHook JN.pre.heap_1 JN.as JN.he) (N:=8234) JN.lf (by rfl) (by rfl) (by rfl) (by rfl) (by first | assumption | decide+kernel) (by decide+kernel) ⟨rfl,rfl,rfl,rfl,rfl,by decide+kernel⟩ ?_ ?_))
open PySem PySem.W PyProof.Rows in
set_option maxRecDepth 100000 in
set_option maxHeartbeats 0 in
theorem JN.look:PySem.Challenge.rw_stonelay_k64_whole_runs_by_what_is_sure.wellSaid=true:=by kernel_rfl
open PySem PySem.W PyProof.Rows in
set_option maxRecDepth 100000 in
set_option maxHeartbeats 0 in
theorem JN.early (h:∀{q:Xr} {XP:(Str->Option Y1)->Heap->Prop} {YP:Xe->Heap->Prop} {d:Oh} {K:NW->X5},d.params.defaults=[]->(∀(w:Xe) (h:Heap),YP w h->(K w.params).In h)->d.name="law"->(∀w:Xe,JN.Facts (K w.params))->JN.zcJ 448 q JN.ob XP YP PySem.Challenge.rw_stonelay_k64_whole_runs_by_what_is_sure.row.toRowW d [] (λf vs=>PySem.call f vs)):PySem.Challenge.rw_stonelay_k64_whole_runs_by_what_is_sure.Holds:=by
 w_on;refine holds_law JN.look λsaid=>?_;o_head trivial;w_witness2;k_fill;refine h rfl (λw h Y=>PySem.W.kIn_of Y) rfl λw=>?_;constructor;all_goals first | k_is | exact⟨_,_,_,_,_,_,_,_,_,_,by k_is,by k_is,by k_is,by k_is⟩ | exact⟨_,by k_is,by decide,by decide⟩ | exact⟨_,_,_,_,_,_,_,_,_,_,_,_,_,_,by k_is,by k_is,by k_is,by k_is,by k_is,rfl⟩ | exact⟨_,by k_is⟩ | exact⟨_,_,_,_,_,_,_,_,_,_,by k_is,by k_is,by k_is,by k_is,by k_is,by k_is,by k_is,by k_is,by k_is,by k_is,by k_exc,by k_exc,by k_exc,by k_exc,by k_exc,by k_exc,by k_exc,by k_exc,by k_exc,by k_exc,by k_is,by k_is,by k_is,by k_is,by k_is,by k_is,by k_is,by kit_is,by kit_is,by kit_is,by kit_is,by kit_is,by kit_is,by kit_is,by kit_is,by kit_is,by kit_is,by k_is⟩
noncomputable section
section
variable{α β γ δ ε ζ η θ ι κ μ ν ξ:Sort _}
theorem dB {p:α->β->Prop}(a:α)(b:β)(h:p a b):∃a,∃b,p a b:=⟨a,b,h⟩
theorem dD {p:α->β->γ->δ->Prop}(a:α)(b:β)(c:γ)(d:δ)(h:p a b c d):∃a,∃b,∃c,∃d,p a b c d:=⟨a,b,c,d,h⟩
theorem dF {p q r:Prop}(h:p)(A:q)(B:r):p/\q/\r:=⟨h,A,B⟩
theorem dG {p:α->β->Prop}{a b}(h:p a b):∃a,∃b,p a b:=⟨_,_,h⟩
theorem dH {p q r:α->β->Prop}{s:α->β->γ->δ->Prop}{t u v:α->β->γ->δ->ε->ζ->Prop}{b c d e f}(a:α)(h:p a b)(A:q a b)(B:r a b)(C:s a b c d)(D:t a b c d e f)(E:u a b c d e f)(F:v a b c d e f):∃a,∃b,p a b/\q a b/\r a b/\∃c,∃d,s a b c d/\∃e,∃f,t a b c d e f/\u a b c d e f/\v a b c d e f:=⟨a,_,h,A,B,_,_,C,_,_,D,E,F⟩
theorem dI {p q r s:α->β->Prop}(a:α)(b:β)(h:p a b)(A:q a b)(B:r a b)(C:s a b):∃a,∃b,p a b/\q a b/\r a b/\s a b:=⟨a,b,h,A,B,C⟩
theorem dJ {p q r s t:α->Prop}(a:α)(h:p a)(A:q a)(B:r a)(C:s a)(D:t a):∃a,p a/\q a/\r a/\s a/\t a:=⟨a,h,A,B,C,D⟩
theorem dM {p q r s t u:Prop}(h:p)(A:q)(B:r)(C:s)(D:t)(E:u):p/\q/\r/\s/\t/\u:=⟨h,A,B,C,D,E⟩
theorem dN {p q r s:Prop}(h:p)(A:q)(B:r)(C:s):p/\q/\r/\s:=⟨h,A,B,C⟩
theorem dO {p q r s t u:α->β->Prop}{a b}(h:p a b)(A:q a b)(B:r a b)(C:s a b)(D:t a b)(E:u a b):∃a,∃b,p a b/\q a b/\r a b/\s a b/\t a b/\u a b:=⟨_,_,h,A,B,C,D,E⟩
theorem dP {p q r s t:Prop}(h:p)(A:q)(B:r)(C:s)(D:t):p/\q/\r/\s/\t:=⟨h,A,B,C,D⟩
theorem dQ {p:α->β->Prop}{b}(a:α)(h:p a b):∃a,∃b,p a b:=⟨a,_,h⟩
theorem dR {p q r:α->β->Prop}{b}(a:α)(h:p a b)(A:q a b)(B:r a b):∃a,∃b,p a b/\q a b/\r a b:=⟨a,_,h,A,B⟩
theorem dS {p:α->β->γ->δ->Prop}{a b c d}(h:p a b c d):∃a,∃b,∃c,∃d,p a b c d:=⟨_,_,_,_,h⟩
theorem dU {p:α->β->γ->δ->ε->ζ->Prop}{a b c d e f}(h:p a b c d e f):∃a,∃b,∃c,∃d,∃e,∃f,p a b c d e f:=⟨_,_,_,_,_,_,h⟩
theorem dW {p q r s t u v w:Prop}(h:p)(A:q)(B:r)(C:s)(D:t)(E:u)(F:v)(G:w):p/\q/\r/\s/\t/\u/\v/\w:=⟨h,A,B,C,D,E,F,G⟩
theorem dX {p q r s t u:α->Prop}(a:α)(h:p a)(A:q a)(B:r a)(C:s a)(D:t a)(E:u a):∃a,p a/\q a/\r a/\s a/\t a/\u a:=⟨a,h,A,B,C,D,E⟩
theorem dY {p:Prop}{q r s t u:α->β->γ->δ->ε->Prop}{a b c d e}(h:p)(A:q a b c d e)(B:r a b c d e)(C:s a b c d e)(D:t a b c d e)(E:u a b c d e):p/\∃a,∃b,∃c,∃d,∃e,q a b c d e/\r a b c d e/\s a b c d e/\t a b c d e/\u a b c d e:=⟨h,_,_,_,_,_,A,B,C,D,E⟩
theorem dZ {p q r s t:α->β->γ->δ->ε->Prop}{a b c d e}(h:p a b c d e)(A:q a b c d e)(B:r a b c d e)(C:s a b c d e)(D:t a b c d e):∃a,∃b,∃c,∃d,∃e,p a b c d e/\q a b c d e/\r a b c d e/\s a b c d e/\t a b c d e:=⟨_,_,_,_,_,h,A,B,C,D⟩
theorem d8 {p q r s t:α->Prop}{a}(h:p a)(A:q a)(B:r a)(C:s a)(D:t a):∃a,p a/\q a/\r a/\s a/\t a:=⟨_,h,A,B,C,D⟩
theorem d9 {p q r:α->β->Prop}{a b}(h:p a b)(A:q a b)(B:r a b):∃a,∃b,p a b/\q a b/\r a b:=⟨_,_,h,A,B⟩
theorem eB {p:α->β->γ->δ->Prop}{Z:Prop}(k:∀a,∀b,∀c,∀d,p a b c d->Z):(∃a,∃b,∃c,∃d,p a b c d)->Z:=λ⟨a,b,c,d,h⟩=>k a b c d h
theorem eE {p q:α->Prop}{Z:Prop}(k:∀a,p a->q a->Z):(∃a,p a/\q a)->Z:=λ⟨a,h,A⟩=>k a h A
theorem eF {p q r:Prop}{Z:Prop}(k:p->q->r->Z):(p/\q/\r)->Z:=λ⟨h,A,B⟩=>k h A B
theorem eH {p q r s t:Prop}{Z:Prop}(k:p->q->r->s->t->Z):(p/\q/\r/\s/\t)->Z:=λ⟨h,A,B,C,D⟩=>k h A B C D
theorem eK {p q r s t u:Prop}{Z:Prop}(k:p->q->r->s->t->u->Z):(p/\q/\r/\s/\t/\u)->Z:=λ⟨h,A,B,C,D,E⟩=>k h A B C D E
theorem eL {p q r s t:α->β->γ->Prop}{Z:Prop}(k:∀a,∀b,∀c,p a b c->q a b c->r a b c->s a b c->t a b c->Z):(∃a,∃b,∃c,p a b c/\q a b c/\r a b c/\s a b c/\t a b c)->Z:=λ⟨a,b,c,h,A,B,C,D⟩=>k a b c h A B C D
theorem eO {p q r s t:α->β->Prop}{Z:Prop}(k:∀a,∀b,p a b->q a b->r a b->s a b->t a b->Z):(∃a,∃b,p a b/\q a b/\r a b/\s a b/\t a b)->Z:=λ⟨a,b,h,A,B,C,D⟩=>k a b h A B C D
theorem eS {p:α->β->γ->δ->ε->Prop}{Z:Prop}(k:∀a,∀b,∀c,∀d,∀e,p a b c d e->Z):(∃a,∃b,∃c,∃d,∃e,p a b c d e)->Z:=λ⟨a,b,c,d,e,h⟩=>k a b c d e h
theorem eU {p q r s:α->β->Prop}{Z:Prop}(k:∀a,∀b,p a b->q a b->r a b->s a b->Z):(∃a,∃b,p a b/\q a b/\r a b/\s a b)->Z:=λ⟨a,b,h,A,B,C⟩=>k a b h A B C
theorem eV {p:α->β->γ->Prop}{Z:Prop}(k:∀a,∀b,∀c,p a b c->Z):(∃a,∃b,∃c,p a b c)->Z:=λ⟨a,b,c,h⟩=>k a b c h
theorem eW {p q:Prop}{Z:Prop}(k:p->q->Z):(p/\q)->Z:=λ⟨h,A⟩=>k h A
theorem eX {p q:α->β->γ->Prop}{Z:Prop}(k:∀a,∀b,∀c,p a b c->q a b c->Z):(∃a,∃b,∃c,p a b c/\q a b c)->Z:=λ⟨a,b,c,h,A⟩=>k a b c h A
theorem eY {p q:Prop}{r s:α->Prop}{Z:Prop}(k:p->q->∀a,r a->s a->Z):(p/\q/\∃a,r a/\s a)->Z:=λ⟨h,A,a,B,C⟩=>k h A a B C
theorem eZ {p q r:α->β->Prop}{Z:Prop}(k:∀a,∀b,p a b->q a b->r a b->Z):(∃a,∃b,p a b/\q a b/\r a b)->Z:=λ⟨a,b,h,A,B⟩=>k a b h A B
theorem e8 {p:α->β->γ->δ->ε->ζ->η->θ->Prop}{Z:Prop}(k:∀a,∀b,∀c,∀d,∀e,∀f,∀g,∀i,p a b c d e f g i->Z):(∃a,∃b,∃c,∃d,∃e,∃f,∃g,∃i,p a b c d e f g i)->Z:=λ⟨a,b,c,d,e,f,g,i,h⟩=>k a b c d e f g i h
theorem e9 {p q r s:α->β->γ->Prop}{Z:Prop}(k:∀a,∀b,∀c,p a b c->q a b c->r a b c->s a b c->Z):(∃a,∃b,∃c,p a b c/\q a b c/\r a b c/\s a b c)->Z:=λ⟨a,b,c,h,A,B,C⟩=>k a b c h A B C
theorem fc {p q:α->β->γ->δ->Prop}{Z:Prop}(k:∀a,∀b,∀c,∀d,p a b c d->q a b c d->Z):(∃a,∃b,∃c,∃d,p a b c d/\q a b c d)->Z:=λ⟨a,b,c,d,h,A⟩=>k a b c d h A
theorem fh {p q r s t u:α->β->γ->δ->Prop}{Z:Prop}(k:∀a,∀b,∀c,∀d,p a b c d->q a b c d->r a b c d->s a b c d->t a b c d->u a b c d->Z):(∃a,∃b,∃c,∃d,p a b c d/\q a b c d/\r a b c d/\s a b c d/\t a b c d/\u a b c d)->Z:=λ⟨a,b,c,d,h,A,B,C,D,E⟩=>k a b c d h A B C D E
theorem fj {p q r s:α->β->γ->δ->Prop}{Z:Prop}(k:∀a,∀b,∀c,∀d,p a b c d->q a b c d->r a b c d->s a b c d->Z):(∃a,∃b,∃c,∃d,p a b c d/\q a b c d/\r a b c d/\s a b c d)->Z:=λ⟨a,b,c,d,h,A,B,C⟩=>k a b c d h A B C
theorem fk {p:α->β->Prop}{Z:Prop}(k:∀a,∀b,p a b->Z):(∃a,∃b,p a b)->Z:=λ⟨a,b,h⟩=>k a b h
theorem fm {p q r s:Prop}{Z:Prop}(k:p->q->r->s->Z):(p/\q/\r/\s)->Z:=λ⟨h,A,B,C⟩=>k h A B C
theorem fq {p:α->Prop}{Z:Prop}(k:∀a,p a->Z):(∃a,p a)->Z:=λ⟨a,h⟩=>k a h
end
abbrev AE:=List PySem.Str
abbrev  AA:=Nat×Nat
abbrev AD:=List AA
namespace L2
open PySem PySem.Spec PyProof.Rows
abbrev Key:=Sum Int Str
def zep:Key->Y1->Bool
 | .inl k,v=>Value.isInt k v
 | .inr x,v=>Value.isStrOf x v
def zpF (w:Xe):Key->Int
 | .inl k=>hashInt k
 | .inr x=>hashStr w x
theorem jt:∀{k:Key} {v:Y1},zep k v=true->(∃i t,k=OG i/\v=Vl i t)\/(∃x t,k=OF x/\v=NU x t)
 | .inl i,v,h=>by
  obtain⟨t,e⟩:=Value.isInt_shape (k:=i) (v:=v) h;exact .inl ⟨i,t,rfl,e⟩
 | .inr x,v,h=>by
  obtain⟨t,e⟩:=Value.isStrOf_shape (x:=x) (v:=v) h;exact .inr ⟨x,t,rfl,e⟩
def zbl (i:Int)(t:Tok):zep (.inl i) (.int i t)=true:=by simp[zep,Value.isInt]
def zjQ (x:Str)(t:Tok):zep (.inr x) (.str x t)=true:=by simp[zep,Value.isStrOf]
def zpG (a b:Int):decide ((OG a:Key)=OG b)=(a==b):=by
 by_cases e:a=b
 .subst e;simp
 .have h:¬ (OG a:Key)=OG b:=λq=>e (Sum.inl.inj q);rw[bf h];exact(beq_eq_false_iff_ne.mpr e).symm
def zpH (a b:Str):decide ((OF a:Key)=OF b)=decide (a=b):=by
 by_cases e:a=b
 .subst e;simp
 .have h:¬ (OF a:Key)=OF b:=λq=>e (Sum.inr.inj q);rw[bf h,bf e]
def zpI (a:Int)(b:Str):decide ((OG a:Key)=OF b)=false:=bf (λq=>nomatch q)
def zpJ (a:Str)(b:Int):decide ((OF a:Key)=OG b)=false:=bf (λq=>nomatch q)
def qa (prog:Xr)(w:Xe):PySem.KeyKind prog w Key where
 is:=zep
 hash:=zpF w
 inj:=λv a b ha hb=>by
  rcases jt ha with ⟨i,t,rfl,rfl⟩ | ⟨x,t,rfl,rfl⟩
  .rcases jt hb with ⟨j,u,rfl,e⟩ | ⟨y,u,rfl,e⟩
   .injection e with e1 _;rw[e1]
   .exact nomatch e
  .rcases jt hb with ⟨j,u,rfl,e⟩ | ⟨y,u,rfl,e⟩
   .exact nomatch e
   .injection e with e1 _;rw[e1]
 byValue:=λk v h=>by
  rcases jt h with ⟨i,t,rfl,rfl⟩ | ⟨x,t,rfl,rfl⟩<;>rfl
 pyHash:=λhv h=>by
  rcases jt hv with ⟨i,t,rfl,rfl⟩ | ⟨x,t,rfl,rfl⟩
  .exact wpAny_pyHash_int h
  .exact wpAny_pyHash_str h
 eqBool:=λhu hv h=>by
  rcases jt hu with ⟨i,t,rfl,rfl⟩ | ⟨x,t,rfl,rfl⟩
  .rcases jt hv with ⟨j,u,rfl,rfl⟩ | ⟨y,u,rfl,rfl⟩
   .rw[zpG]at h;exact wpAny_eqBool_int h
   .rw[zpI]at h;exact SeqAt.EqAt.int_str i t y u _ _ _ _ h
  .rcases jt hv with ⟨j,u,rfl,rfl⟩ | ⟨y,u,rfl,rfl⟩
   .rw[zpJ]at h;exact SeqAt.EqAt.str_int x t j u _ _ _ _ h
   .rw[zpH]at h;exact wpAny_eqBool_str h
 «strs»:=λk x t v h=>by
  rcases jt h with ⟨i,u,rfl,e⟩ | ⟨y,u,rfl,e⟩
  .exact nomatch e
  .injection e with e1 _
   subst e1;cases v<;>rfl
def zgc (prog:Xr)(w:Xe)(i:Int)(t:Tok):(qa prog w).is (.inl i) (.int i t)=true:=zbl i t
def zgd (prog:Xr)(w:Xe)(x:Str)(t:Tok):(qa prog w).is (.inr x) (.str x t)=true:=zjQ x t
inductive V where
 | non | bl (b:Bool) | int (i:Int) | str (x:Str) | byt (b:Array UInt8) | flt (b:UInt64) | ref (a:Addr) | ty (n:String)
 deriving DecidableEq
abbrev AF:=List V
def RelV:V->Y1->Prop
 | .non,u=>u=U0
 | .bl b,u=>u=Oe b
 | .int i,u=>∃t,u=Vl i t
 | .str x,u=>∃t,u=NU x t
 | .byt b,u=>∃t,u=Value.bytes b t
 | .flt b,u=>∃t,u=Value.float b t
 | .ref a,u=>u=WN a
 | .ty n,u=>u=Pw n
abbrev Vals:AF->List Y1->Prop:=WU RelV
theorem Vals.length {xs:AF}{a:List Y1}(r:Vals xs a):xs.length=a.length:=Paired.length r
theorem Vals.get:∀{xs:AF} {a:List Y1} {i:Nat} {x:V},Vals xs a->xs[i]?=some x->∃u,a[i]?=some u/\RelV x u
 | _,_,_,_,.nil,e=>by simp at e
 | _,_,0,_,.cons r _,e=>by simp at e;subst e;exact⟨_,rfl,r⟩
 | _,_,i+1,x,.cons _ t,e=>by
  obtain⟨u,h1,h2⟩:=Vals.get (i:=i) (x:=x) t (by simpa using e);exact⟨u,by simpa using h1,h2⟩
theorem Vals.set {x:V}{u:Y1}(r:RelV x u):∀{xs:AF} {a:List Y1} (i:Nat),Vals xs a->Vals (xs.set i x) (a.set i u)
 | _,_,_,.nil=>.nil
 | _,_,0,.cons _ t=>.cons r t
 | _,_,i+1,.cons q t=>.cons q (Vals.set r i t)
theorem Vals.append:∀{xs ys:AF} {a b:List Y1},Vals xs a->Vals ys b->Vals (xs++ys) (a++b)
 | _,_,_,_,.nil,s=>s
 | _,_,_,_,.cons r t,s=>.cons r (Vals.append t s)
theorem Vals.take:∀{xs:AF} {a:List Y1} (n:Nat),Vals xs a->Vals (xs.take n) (a.take n)
 | _,_,0,_=>.nil
 | _,_,_+1,.nil=>.nil
 | _,_,n+1,.cons r t=>.cons r (Vals.take n t)
theorem Vals.drop:∀{xs:AF} {a:List Y1} (n:Nat),Vals xs a->Vals (xs.drop n) (a.drop n)
 | _,_,0,r=>r
 | _,_,_+1,.nil=>.nil
 | _,_,n+1,.cons _ t=>Vals.drop n t
def zbm:Option V->Option Y1->Prop
 | some v,some u=>RelV v u
 | none,none=>True
 | _,_=>False
def KV {a:Type}:List (a × V)->List (a × Y1)->Prop:=WU λ(p:a × V) (q:a × Y1)=>p.1=q.1/\RelV p.2 q.2
def kV:Key->V
 | .inl i=>.int i
 | .inr x=>.str x
inductive HO where
  | lst (xs:AF)
  | tup (xs:AF)
  | dK (kvs:List (Key×V)) | dT (kvs:List (List Key×V))
  | set (S:Int->Bool) (n:Nat)
  | ins (C dx:Addr) (fs:List (Str×V))
  | own (x:Addr)
  | xd (fs:List (Str×V))
  | met (f x:Addr)
  | rng (lo hi:Int)
  | frz (o:Obj) (u:HO)
  | tbl (ps:Array Y1)
  | ext (φ:Heap->Prop)
abbrev Hp:=Addr->Option HO
def upd (H:Hp)(a:Addr)(o:HO):Hp:=λb=>if b=a then some o else H b
def zc {H:Hp}{a:Addr}{o:HO}:upd H a o a=some o:=by unfold upd;rw[bw rfl]
def zo {H:Hp}{a b:Addr}{o:HO}(h:b≠a):upd H a o b=H b:=by unfold upd;rw[bq h]
def zeq {H:Hp}{a b:Addr}{o u:HO}(h:H a=some o)(h':H b=some u)(d:o≠u):a≠b:=by
 intro e;subst e;rw[h]at h';exact d (Option.some.inj h')
def zk {H:Hp}{a b:Addr}{o:HO}(h:H a=some o)(h':H b=none):a≠b:=by
 intro e;subst e;rw[h]at h';cases h'
section
variable (P:Xr)(w:Xe)
def jd (H:Hp)(h:Heap)(a:Addr):HO->Prop
 | .lst xs=>xs.length<=Xz/\∃(b:List Y1) (n:Nat),Vals xs b/\h.get? a=some { cls:=.type "list",data:=.seq b.toArray n }
 | .tup xs=>xs.length<=Xz/\∃b:List Y1,Vals xs b/\NO h a b.toArray
 | .dK c=>c.length<=Xz/\(a==Vh)=false/\∃j,KV c j/\h.DictOf (qa P w) a j
 | .dT c=>c.length<=Xz/\(a==Vh)=false/\∃xs:List (List Key×Addr×Y1),
   WU (λ(p:List Key×V) (q:List Key×Addr×Y1)=>p.1=q.1/\H q.2.1=some (.tup (p.1.map kV))/\RelV p.2 q.2.2) c xs /\
   ∃o i k,h.get? a=some o/\o.ExactDict/\o.data=.dict i k/\i.toList=xs.map (entryOfKey (VI (qa P w)))/\(xs.map (·.1)).Nodup
 | .set S n=>h.SetOf (intKind P w) a S n
 | .ins C e fs=>H e=some (.own a)/\fs.length<=1000/\e≠a/\h.get? a=some (Pf C e) /\
   ∃d,h.Ns1 e d/\(∀f,zbm (fs.lookup f) (d f))/\PySem.Within d (fs.map (·.1))
 | .own _=>∃o,h.get? a=some o
 | .xd fs=>∃d,h.Ns1 a d/\∀f,zbm (fs.lookup f) (d f)
 | .rng lo l=>∃t u v,h.get? a=some { cls:=.type "range",data:=.fields #[.int lo t,.int l u,.int 1 v] }
 | .frz o u=>h.get? a=some o/\jd H h a u
 | .tbl m=>h.get? a=some { cls:=.none,data:=.fields m }
 | .met f x=>h.get? a=some (Rg (.ref f) (.ref x))
 | .ext g=>g h/\(∃o,h.get? a=some o)/\∀h1 h2:Heap,g h1->(∀o,h1.get? a=some o->h2.get? a=some o)->g h2
def HOk (H:Hp)(h:Heap):Prop:=∀a o,H a=some o->jd P w H h a o
end
section
variable {P:Xr}{w:Xe}{H H':Hp}{h h':Heap}{a:Addr}{o:HO}
theorem jd.lt (x:jd P w H h a o):a<h.objs.size:=by
 cases o with
 | lst c=>obtain⟨_,_,_,_,e⟩:=x;exact XH e
 | tup c=>obtain⟨_,_,_,p⟩:=x;exact p.lt
 | dK b=>revert x;refine eY λ_ _ _ _=>eX λo _ _ e _=>?_;exact XH e
 | dT b=>revert x;refine eY λ_ _ _ _=>eX λo _ _ e _=>?_;exact XH e
 | set S n=>revert x;refine fc λo _ _ _ e _=>?_;exact XH e
 | ins C d fs=>obtain⟨_,_,_,e,_⟩:=x;exact XH e
 | own y=>obtain⟨_,e⟩:=x;exact XH e
 | xd fs=>obtain⟨_,⟨_,_,_,e,_⟩,_⟩:=x;exact XH e
 | rng lo g=>obtain⟨_,_,_,e⟩:=x;exact XH e
 | frz ob u=>obtain⟨e,_⟩:=x;exact XH e
 | tbl i=>exact XH (show h.get? a=some _ from x)
 | met f y=>exact XH (show h.get? a=some _ from x)
 | ext j=>obtain⟨_,⟨_,e⟩,_⟩:=x;exact XH e
theorem Paired.mapP {α c:Type}{F G:α->c->Prop}:∀{l₁:List α} {l₂:List c},WU F l₁ l₂->(∀a b,F a b->G a b)->WU G l₁ l₂
 | _,_,.nil,_=>.nil
 | _,_,.cons r t,f=>.cons (f _ _ r) (Paired.mapP t f)
def jd.stay (x:jd P w H h a o)(k:∀b u,(b=a\/H b=some (.own a))->h.get? b=some u->h'.get? b=some u)
  (D:∀b,H b=some (.own a)->H' b=some (.own a)) (E:∀b xs,H b=some (.tup xs)->H' b=some (.tup xs)):jd P w H' h' a o:=by
 induction o with
 | lst xs=>obtain⟨z,j,n,r,e⟩:=x;exact⟨z,j,n,r,k _ _ (.inl rfl) e⟩
 | tup xs=>obtain⟨z,j,r,ob,e,c⟩:=x;exact⟨z,j,r,ob,k _ _ (.inl rfl) e,c⟩
 | dK l=>revert x;refine eY λz y J r=>eX λob i g e c=>?_;exact⟨z,y,J,r,ob,i,g,k _ _ (.inl rfl) e,c⟩
 | dT l =>
  revert x;refine eY λz y xs r=>eX λob i g e c=>?_;exact⟨z,y,xs,Paired.mapP r λp q z=>⟨z.1,E _ _ z.2.1,z.2.2⟩,ob,i,g,k _ _ (.inl rfl) e,c⟩
 | set S n=>revert x;refine fc λob i g t e c=>?_;exact⟨ob,i,g,t,k _ _ (.inl rfl) e,c⟩
 | ins C L fs =>
  obtain⟨d,z,I,e,m,⟨s,i,g,B,c⟩,r⟩:=x;exact⟨D _ d,z,I,k _ _ (.inl rfl) e,m,⟨s,i,g,k _ _ (.inr d) B,c⟩,r⟩
 | own y=>obtain⟨ob,e⟩:=x;exact⟨ob,k _ _ (.inl rfl) e⟩
 | xd fs=>obtain⟨m,⟨s,i,g,e,c⟩,r⟩:=x;exact⟨m,⟨s,i,g,k _ _ (.inl rfl) e,c⟩,r⟩
 | rng lo M=>obtain⟨t,u,v,e⟩:=x;exact⟨t,u,v,k _ _ (.inl rfl) e⟩
 | frz ob u G=>obtain⟨e,q⟩:=x;exact⟨k _ _ (.inl rfl) e,G q⟩
 | tbl A =>
  have e:h.get? a=some { cls:=.none,data:=.fields A }:=x;show h'.get? a=some { cls:=.none,data:=.fields A };exact k a _ (.inl rfl) e
 | met f y =>
  have e:h.get? a=some (Rg (.ref f) (.ref y)):=x;show h'.get? a=some (Rg (.ref f) (.ref y));exact k a _ (.inl rfl) e
 | ext N=>obtain⟨p,⟨o,e⟩,st⟩:=x;exact⟨st _ _ p λo q=>k _ _ (.inl rfl) q,⟨o,k _ _ (.inl rfl) e⟩,st⟩
theorem HOk.lt (x:HOk P w H h)(e:H a=some o):a<h.objs.size:=(x a o e).lt
def HOk.fresh (x:HOk P w H h)(e:h.objs.size<=a):H a=none:=by
 cases q:H a with
 | none=>rfl
 | some u=>exact absurd (Xs (x.lt q) e) (Wj _)
def HOk.kept (x:HOk P w H h)(k:∀b u,h.get? b=some u->h'.get? b=some u):HOk P w H h':=λa o e =>
 (x a o e).stay (λb u _ q=>k b u q) (λ_ q=>q) λ_ _ q=>q
def HOk.laid (x:HOk P w H h)(k:∀b u,h.get? b=some u->h'.get? b=some u)(i:h.objs.size<=a)(d:jd P w (upd H a o) h' a o):HOk P w (upd H a o) h':=λb u e=>by
 have g:=x.fresh i;by_cases f:b=a
 .subst f;rw[zc]at e;cases e;exact d
 .rw[zo f]at e;exact(x b u e).stay (λc v _ q=>k c v q) (λc q=>by rw[zo (zk q g)];exact q) λc j q=>by rw[zo (zk q g)];exact q
end
def Rd (H:Hp)(a:Addr)(u:HO):Prop:=H a=some u\/∃o,H a=some (.frz o u)
def Rd.ok {P:Xr}{w:Xe}{H:Hp}{h:Heap}{a:Addr}{u:HO}(r:Rd H a u)(x:HOk P w H h):jd P w H h a u:=by
 rcases r with r | ⟨o,r⟩
 .exact x a u r
 .obtain⟨_,q⟩:=x a _ r;exact q
def Mut:Option HO->Prop
 | some (.lst _)=>True
 | some (.dK _)=>True
 | some (.dT _)=>True
 | some (.set _ _)=>True
 | some (.ins _ _ _)=>True
 | some (.ext _)=>True
 | _=>False
section
variable {P:Xr}{w:Xe}{H:Hp}{h h':Heap}{x e:Addr}{o':HO}
def HOk.write (ok:HOk P w H h)(i:Mut (H x))(he:e=x\/H e=some (.own x))(k:∀b u,b≠e->h.get? b=some u->h'.get? b=some u)(l:∃u,h'.get? e=some u)
  (m:jd P w (upd H x o') h' x o'):HOk P w (upd H x o') h':=λb u q=>by
 have d:∀c y,H c=some (.own y)->c≠x:=λc y r z=>by subst z;rw[r]at i;exact i
 have f:∀c j,H c=some (.tup j)->c≠x:=λc j r z=>by subst z;rw[r]at i;exact i
 by_cases g:b=x
 .subst g;rw[zc]at q;cases q;exact m
 .rw[zo g]at q;by_cases a:b=e
  .have n:H b=some (.own x):=by
    rcases he with z | z
    .exact absurd (a.trans z) g
    .rw[a];exact z
   rw[q]at n;cases n;obtain⟨v,o⟩:=l;exact⟨v,by rw[a];exact o⟩
  .refine(ok b u q).stay (λc v hc r=>k c v ?_ r) (λc r=>by rw[zo (d c b r)];exact r) λc j r=>by rw[zo (f c j r)];exact r
   rcases hc with rfl | hc
   .exact a
   .rintro rfl;rcases he with z | z
    .exact d c b hc z
    .rw[hc]at z;cases z;exact g rfl
end
structure Un (fs ex:List Addr)(H H':Hp)(h h':Heap):Prop where
 keep:∀b o,h.get? b=some o->H b=none->b ∉ fs->b ∉ ex->h'.get? b=some o
 slot:∀b o,h.get? b=some o->H b=none->b∈fs->b ∉ ex->∃sl,h'.get? b=some { o with slots:=sl }
 free:∀b o,h.get? b=some o->H b=none->b ∉ ex->H' b=none
 there:∀b o,h.get? b=some o->b ∉ ex->∃o',h'.get? b=some o'
 tups:∀b xs,H b=some (.tup xs)->H' b=some (.tup xs)
 frzs:∀b o u,H b=some (.frz o u)->H' b=some (.frz o u)
 tbls:∀b ps,H b=some (.tbl ps)->∃more,H' b=some (.tbl (ps++more))
section
variable {fs fs' ex ex':List Addr}{H H1 H2:Hp}{h h1 h2 h':Heap}{a x e:Addr}{o:HO}
def Un.any (u:Un fs ex H H1 h h1){b:Addr}{ob:Obj}(q:h.get? b=some ob)(n:H b=none)(c:b ∉ ex):∃d,h1.get? b=some { ob with slots:=d }:=by
 by_cases a:b∈fs
 .exact u.slot b ob q n a c
 .exact⟨ob.slots,u.keep b ob q n a c⟩
def Un.kept (k:∀b u,h.get? b=some u->h'.get? b=some u):Un fs ex H H h h' :=
 ⟨λb ob q _ _ _=>k b ob q,λb ob q _ _ _=>⟨ob.slots,k b ob q⟩,λ_ _ _ n _=>n,λb ob q _=>⟨ob,k b ob q⟩,λ_ _ q=>q,λ_ _ _ q=>q,λ_ a q=>⟨#[],by rw[q];simp⟩⟩
def Un.refl:Un fs ex H H h h:=Un.kept λ_ _ q=>q
def Un.laid (k:∀b u,h.get? b=some u->h'.get? b=some u)(hp:h.objs.size<=a)(hn:H a=none):Un fs ex H (upd H a o) h h' where
 keep:=λb u q _ _ _=>k b u q
 slot:=λb u q _ _ _=>⟨u.slots,k b u q⟩
 free:=λb u q n _=>by rw[zo (Xm (Xs (XH q) hp))];exact n
 there:=λb u q _=>⟨u,k b u q⟩
 tups:=λb xs q=>by rw[zo (zk q hn)];exact q
 frzs:=λb u xs q=>by rw[zo (zk q hn)];exact q
 tbls:=λb ps q=>⟨#[],by rw[zo (zk q hn),q];simp⟩
def Un.write (c:Mut (H x))(he:e=x\/H e=some (.own x))(k:∀b u,b≠e->h.get? b=some u->h'.get? b=some u)(d:∃u,h'.get? e=some u):Un fs ex H (upd H x o) h h':=by
 have i:∀b,H b=none->b≠x:=λb n z=>by subst z;rw[n]at c;exact c
 have g:∀b,H b=none->b≠e:=λb n z=>by
  subst z;rcases he with r | r
  .exact i b n r
  .rw[n]at r;cases r
 have f:∀b u,H b=some u->¬ Mut (some u)->b≠x:=λb u q j z=>by subst z;rw[q]at c;exact j c
 refine⟨λb u q n _ _=>k b u (g b n) q,λb u q n _ _=>⟨u.slots,k b u (g b n) q⟩,λb u q n _=>by rw[zo (i b n)];exact n,λb u q _=>?_,λb l q=>by rw[zo (f b _ q λz=>z)];exact q,λb u l q=>by rw[zo (f b _ q λz=>z)];exact q,λb m q=>⟨#[],by rw[zo (f b _ q λz=>z),q];simp⟩⟩
 by_cases a:b=e
 .subst a;exact d
 .exact⟨u,k b u a q⟩
end
def trk (h:Heap)(H:Hp):List Addr:=(Wh h.objs.size).filter λa=>(H a).isSome
def QV (h:Heap)(H:Hp):Heap:=PySem.W.hideAll h (trk h H)
def zjR (h:Heap)(H:Hp):(QV h H).objs.size=h.objs.size:=PySem.W.hideAll_size _ _
def zk1 {h:Heap}{H:Hp}{b:Addr}{o:Obj}(e:h.get? b=some o)(n:H b=none):(QV h H).get? b=some o :=
 Ti _ e λa=>by
  have q:(H b).isSome=true:=(XQ.mp a).2;rw[n]at q;simp at q
def znz {h:Heap}{H:Hp}{b:Addr}{o:Obj}(e:(QV h H).get? b=some o):h.get? b=some o/\H b=none:=by
 have a:h.get? b=some o:=PySem.W.of_hideAll (trk h H) e;refine⟨a,?_⟩;cases q:H b with
 | none=>rfl
 | some x =>
  have c:b∈trk h H:=XQ.mpr ⟨VH.mpr (XH a),by simp[q]⟩;have z:(QV h H).get? b=none:=PySem.W.hideAll_none (trk h H) c;rw[z]at e;cases e
structure Mod (K:X5)(mg:Str->Option Y1)(base:Heap):Prop where
 kin:K.In base
 glob:base.Ns XY mg
 blt:∃mb,base.Ns RJ mb/\∀x:Str,x ≠ "__name__"->mb x=Tr x
 nolimit:base.NoLimit
structure Cx where
 prog:Xr
 w:Xe
 K:X5
 mg:Str->Option Y1
 base:Heap
 A:W1
 N:AE
 s₀:X8
 H₀:Hp
 env:Env
 outer:List Env
 stack:List Env
 ex:List Addr
 fn:Str->Bool
 calm:Bool
 pn:List (Addr×Obj)
 xe:Y1->X8->Prop
def frs (l:List Env):List Addr:=l.filterMap (·.frame)
abbrev Cx.fs (X:Cx):List Addr:=frs X.outer
def Vis (a:Vr)(x:Str):Prop:=a.names.lookup x=some .local\/a.names.lookup x=some .cell\/a.names.lookup x=some .free
def Loc (a:Vr)(x:Str):Prop:=a.names.lookup x=some .local\/a.names.lookup x=some .cell
def Look (a:Env)(h:Heap)(m:Str->Option Y1)(x:Str)(u:Y1):Prop :=
 (a.kindOf x=some .local/\m x=some u)\/((a.kindOf x=some .cell\/a.kindOf x=some .free)/\∃c,a.cells.lookup x=some c/\h.IsCell c (some u))
structure Cx.Ok (X:Cx):Prop where
 mod:Mod X.K X.mg X.base
 kind:X.env.scope.kind=.function
 glob:X.env.globals=XY
 blt:X.env.builtins=RJ
 above:X.s₀.heap.objs.size<=X.env.locals
 inj:∀x y c,X.env.cells.lookup x=some c->X.env.cells.lookup y=some c->x=y
 has:∀x,(X.env.kindOf x=some .cell\/X.env.kindOf x=some .free)->∃c,X.env.cells.lookup x=some c
 cab:∀x c,X.fn x=true->X.env.cells.lookup x=some c->X.s₀.heap.objs.size<=c
 hd:X.calm=true->X.A.handled=none
 frames:X.A.frames=some X.stack
 stk:X.stack=X.outer\/(X.stack=X.env::X.outer/\X.env.frame=some X.env.locals)
 exf:∀b∈X.ex,b≠X.env.locals/\∀x c,X.env.cells.lookup x=some c->c≠b
 bs:∀b o,X.base.get? b=some o->X.s₀.heap.get? b=some o/\X.H₀ b=none
 bsz:X.base.objs.size<=X.s₀.heap.objs.size
 noex:∀b o,X.base.get? b=some o->b ∉ X.ex
 exfs:∀b∈X.ex,b ∉ X.fs
 funs:X.s₀.heap.FunFrames X.base X.outer
 frf:∀b∈X.fs,X.H₀ b=none
structure Inv (X:Cx)(bQ:List (Addr×Obj))(σ:List (Option V))(H:Hp)(s:X8):Prop where
 ok:X.Ok
 os:s.os=X.s₀.os
 bare:SL s.gens
 base:Un X.fs X.ex X.H₀ H X.s₀.heap s.heap
 loc:∃m,s.heap.Ns X.env.locals m/\∀(i:Nat) (x:Str) (v:V),X.N[i]?=some x->σ[i]?=some (some v)->Vis X.env.scope x->∃u,RelV v u/\Look X.env s.heap m x u
 cell:∀x c,X.env.cells.lookup x=some c->∃v,s.heap.IsCell c v
 free:H X.env.locals=none
 freeC:∀x c,X.env.cells.lookup x=some c->H c=none
 pin:∀p∈X.pn++bQ,s.heap.get? p.1=some p.2/\H p.1=none/\p.1≠X.env.locals/\p.1 ∉ X.fs/\∀v,p.2.data ≠ .cell v
 hok:HOk X.prog X.w H s.heap
 len:σ.length=X.N.length
section
variable {X:Cx}{bQ:List (Addr×Obj)}{σ:List (Option V)}{H H':Hp}{s:X8}{h':Heap}
def Cx.Ok.nofr (ok:X.Ok){b:Addr}{o:Obj}(e:X.base.get? b=some o):b ∉ X.fs:=λa=>by
 have:=(ok.funs.mem a).1;rw[e]at this;cases this
theorem Inv.bs (I:Inv X bQ σ H s):∀b o,X.base.get? b=some o->s.heap.get? b=some o/\H b=none:=λb o e =>
 ⟨I.base.keep b o (I.ok.bs b o e).1 (I.ok.bs b o e).2 (I.ok.nofr e) (I.ok.noex b o e),I.base.free b o (I.ok.bs b o e).1 (I.ok.bs b o e).2 (I.ok.noex b o e)⟩
def Inv.bk (I:Inv X bQ σ H s):∀b o,X.base.get? b=some o->s.heap.get? b=some o:=λb o e=>(I.bs b o e).1
theorem Inv.mod (I:Inv X bQ σ H s):Mod X.K X.mg X.base:=I.ok.mod
def Inv.kIn (I:Inv X bQ σ H s):X.K.In s.heap:=I.ok.mod.kin.keeps I.bk
theorem Inv.lt (I:Inv X bQ σ H s):X.env.locals<s.heap.objs.size:=let ⟨_,hn,_⟩:=I.loc;hn.lt
def Inv.sz (I:Inv X bQ σ H s):X.s₀.heap.objs.size<=s.heap.objs.size:=X0 I.ok.above (Tq I.lt)
def Inv.nofs (I:Inv X bQ σ H s){a:Addr}(h:s.heap.objs.size<=a):a ∉ X.fs:=λb=>by
 obtain⟨_,o,c,_⟩:=I.ok.funs.mem b;exact absurd (Xs (XH c) (X0 I.sz h)) (Wj _)
def Inv.cne (I:Inv X bQ σ H s):∀x c,X.env.cells.lookup x=some c->c≠X.env.locals:=λx c e z=>by
 obtain⟨v,o,f,d⟩:=I.cell x c e;obtain⟨m,⟨i,h,g,b,a,_⟩,_⟩:=I.loc;rw[z,b]at f;cases f;rw[a]at d;cases d
theorem Inv.funs (I:Inv X bQ σ H s):s.heap.FunFrames X.base X.outer:=by
 have all:∀(l:List Env),(∀b∈frs l,b∈X.fs)->X.s₀.heap.FunFrames X.base l->s.heap.FunFrames X.base l:=by
  intro l;induction l with
  | nil=>intro _ _;trivial
  | cons g r n =>
   intro f i;obtain⟨hk,⟨L,o,d,j,k,h⟩,m⟩:=i;have a:L∈X.fs:=f L (by unfold frs;rw[UW,d];exact XV);obtain⟨p,e⟩:=I.base.slot L o k (I.ok.frf L a) a λz=>I.ok.exfs L z a;exact⟨hk,⟨L,_,d,j,e,h⟩,n (λb c=>f b (by unfold frs;rw[UW,d];exact XW _ c)) m⟩
 exact all X.outer (λ_ c=>c) I.ok.funs
theorem Inv.stack (I:Inv X bQ σ H s):s.heap.FunFrames X.base X.stack:=by
 rcases I.ok.stk with e | ⟨e,a⟩
 .rw[e];exact I.funs
 .rw[e];obtain⟨m,b,_⟩:=I.loc;refine .cons (by rw[I.ok.kind];decide) a b ?_ I.funs;exact Uw (X0 I.ok.bsz I.ok.above)
def Inv.stkSub (I:Inv X bQ σ H s):∀b∈frs X.stack,b∈X.env.locals::X.fs:=λb a=>by
 rcases I.ok.stk with e | ⟨e,c⟩
 .rw[e]at a;exact XW _ a
 .rw[e]at a;unfold frs at a;rw[UW,c]at a;exact a
def Inv.stkFree (I:Inv X bQ σ H s):∀b∈frs X.stack,H b=none:=λb hb=>by
 rcases XJ.mp (I.stkSub b hb) with e | hb
 .rw[e];exact I.free
 .obtain⟨_,o,a,_⟩:=I.ok.funs.mem hb;exact I.base.free b o a (I.ok.frf b hb) λz=>I.ok.exfs b z hb
def Inv.step {g':Array Um}{t':Nat}{d':NN}{ch:List Addr}(I:Inv X bQ σ H s)
  (g:∀b∈ch,(b∈X.ex\/X.s₀.heap.objs.size<=b)/\b≠X.env.locals/\(∀x c,X.env.cells.lookup x=some c->c≠b)/\∀p∈X.pn++bQ,p.1≠b)
  (keep:∀b o,b≠X.env.locals->b ∉ X.fs->b ∉ ch->s.heap.get? b=some o->H b=none->h'.get? b=some o)
  (A:∀b o,b≠X.env.locals->b∈X.fs->b ∉ ch->s.heap.get? b=some o->H b=none->∃sl,h'.get? b=some { o with slots:=sl }) (free:∀b o,b ∉ ch->s.heap.get? b=some o->H b=none->H' b=none)
  (E:∀b o,b ∉ ch->s.heap.get? b=some o->∃N,h'.get? b=some N)
  (Q:∀b B,H b=some (.tup B)->H' b=some (.tup B)) (L:∀b o u,H b=some (.frz o u)->H' b=some (.frz o u)) (O:∀b U,H b=some (.tbl U)->∃more,H' b=some (.tbl (U++more)))
  (ns:∀m,s.heap.Ns X.env.locals m->h'.Ns X.env.locals m) (aa:HOk X.prog X.w H' h') (hg:SL g') :
  Inv X bQ σ H' { s with heap:=h',gens:=g',drawn:=d',toks:=t' }:=by
 have M:∀b o,X.s₀.heap.get? b=some o->b≠X.env.locals:=λb o e=>Xm (Xs (XH e) I.ok.above);have y:∀b o,X.s₀.heap.get? b=some o->b ∉ X.ex->b ∉ ch:=λb o e a D=>by
  rcases(g b D).1 with z | z
  .exact a z
  .exact absurd (Xs (XH e) z) (Wj _)
 have f:∀x c,X.env.cells.lookup x=some c->∀v,s.heap.IsCell c v->h'.IsCell c v:=λx c e v ⟨o,G,Y⟩=>by
  have h:c ∉ ch:=λz=>(g c z).2.2.1 x c e rfl;by_cases hc:c∈X.fs
  .obtain⟨sl,q⟩:=A c o (I.cne x c e) hc h G (I.freeC x c e);exact⟨_,q,Y⟩
  .exact⟨o,keep c o (I.cne x c e) hc h G (I.freeC x c e),Y⟩
 refine⟨I.ok,I.os,hg,⟨λb o e n D a=>?_,λb o e n D a=>?_,λb o e n a=>?_,λb o e a=>?_,λb B e=>Q b B (I.base.tups b B e),λb o B e=>L b o B (I.base.frzs b o B e),λb U e=>?_⟩,?_,λx c e=>?_,?_,λx c e=>?_,λp hp=>?_,aa,I.len⟩
 .exact keep b o (M b o e) D (y b o e a) (I.base.keep b o e n D a) (I.base.free b o e n a)
 .obtain⟨sl,j⟩:=I.base.slot b o e n D a;obtain⟨ab,J⟩:=A b _ (M b o e) D (y b o e a) j (I.base.free b o e n a);exact⟨ab,J⟩
 .obtain⟨N,j⟩:=I.base.there b o e a;exact free b N (y b o e a) j (I.base.free b o e n a)
 .obtain⟨N,j⟩:=I.base.there b o e a;exact E b N (y b o e a) j
 .obtain⟨m1,j⟩:=I.base.tbls b U e;obtain⟨m2,J⟩:=O b _ j;exact⟨m1++m2,by rw[J,Rx]⟩
 .obtain⟨m,hn,hl⟩:=I.loc;refine⟨m,ns m hn,λi x v j J e3=>?_⟩;obtain⟨u,r,l⟩:=hl i x v j J e3;refine⟨u,r,?_⟩;rcases l with l | ⟨k,c,e,z⟩
  .exact .inl l
  .exact .inr ⟨k,c,e,f x c e _ z⟩
 .obtain⟨v,z⟩:=I.cell x c e;exact⟨v,f x c e v z⟩
 .obtain⟨m,⟨o,_,_,G,_⟩,_⟩:=I.loc;exact free _ o (λz=>(g _ z).2.1 rfl) G I.free
 .obtain⟨v,o,G,Y⟩:=I.cell x c e;exact free c o (λz=>(g c z).2.2.1 x c e rfl) G (I.freeC x c e)
 .obtain⟨e,n,ne,nf,d⟩:=I.pin p hp;have h:p.1 ∉ ch:=λz=>(g p.1 z).2.2.2 p hp rfl;exact⟨keep p.1 p.2 ne nf h e n,free p.1 p.2 h e n,ne,nf,d⟩
def Inv.un {t':Nat}(I:Inv X bQ σ H s)(u:Un X.fs [] H H' s.heap h')(g:HOk X.prog X.w H' h'):Inv X bQ σ H' { s with heap:=h',toks:=t' }:=by
 obtain⟨m,⟨o,p,l,h,r⟩,_⟩:=id I.loc;obtain⟨x,i⟩:=u.any h I.free (by simp);exact I.step (g':=s.gens) (d':=s.drawn) (ch:=[]) (λ_ z=>nomatch z) (λb o _ f _ e n=>u.keep b o e n f (by simp)) (λb o _ f _ e n=>u.slot b o e n f (by simp)) (λb o _ e n=>u.free b o e n (by simp)) (λb o _ e=>u.there b o e (by simp)) u.tups u.frzs u.tbls (λq j=>by
  obtain⟨v,d,c,a,k⟩:=j;rw[h]at a;cases a;exact⟨_,d,c,i,k⟩) g I.bare
def Inv.call {g':Array Um}{t':Nat}{d':NN}{ch:List Addr}(I:Inv X bQ σ H s)(u:Un (frs X.stack) ch H H' s.heap h')(j:HOk X.prog X.w H' h')(q:SL g')
  (d:∀b∈ch,(b∈X.ex\/X.s₀.heap.objs.size<=b)/\b≠X.env.locals/\(∀x c,X.env.cells.lookup x=some c->c≠b)/\∀p∈X.pn++bQ,p.1≠b) :
  Inv X bQ σ H' { s with heap:=h',gens:=g',drawn:=d',toks:=t' }:=by
 obtain⟨m,⟨o,B,A,k,r⟩,_⟩:=id I.loc;obtain⟨G,i⟩:=u.any k I.free λz=>(d _ z).2.1 rfl;exact I.step (ch:=ch) d (λb o i l a e n=>u.keep b o e n (λz=>(XJ.mp (I.stkSub b z)).elim i l) a) (λb o _ _ a e n=>u.any e n a) (λb o a e n=>u.free b o e n a) (λb o a e=>u.there b o e a) u.tups u.frzs u.tbls (λD v=>by
  obtain⟨E,h,g,f,y⟩:=v;rw[k]at f;cases f;exact⟨_,h,g,i,y⟩) j q
def Inv.turned {t':Nat}{it:Addr}(I:Inv X bQ σ H s)(k:∀b o,b≠it->s.heap.get? b=some o->h'.get? b=some o)(w:H it=none)(f:it≠X.env.locals)
  (h1:it∈X.ex\/X.s₀.heap.objs.size<=it) (h2:∀x c,X.env.cells.lookup x=some c->c≠it) (i:∀p∈X.pn++bQ,p.1≠it):Inv X bQ σ H { s with heap:=h',toks:=t' }:=by
 have d:∀b u,H b=some u->b≠it:=λb u e z=>by rw[z,w]at e;cases e
 refine I.step (g':=s.gens) (d':=s.drawn) (ch:=[it]) (λb j=>?_) (λb o _ _ a e _=>k b o (λz=>a (by simp[z])) e) (λb o _ _ a e _=>⟨o.slots,k b o (λz=>a (by simp[z])) e⟩) (λ_ _ _ _ n=>n)
  (λb o a e=>⟨o,k b o (λz=>a (by simp[z])) e⟩) (λ_ _ e=>e) (λ_ _ _ e=>e) (λb A e=>⟨#[],by rw[e];simp⟩) (λm l=>?_) (λb u e=>?_) I.bare
 .have e:b=it:=by simpa using j
  subst e;exact⟨h1,f,h2,i⟩
 .obtain⟨o,h,g,y,r⟩:=l;exact⟨o,h,g,k _ o (Va f) y,r⟩
 .refine(I.hok b u e).stay (λc v a q=>k c v ?_ q) (λ_ q=>q) λ_ _ q=>q;rcases a with z | z
  .rw[z];exact d b u e
  .exact d c _ z
def Inv.tok (I:Inv X bQ σ H s)(t:Nat):Inv X bQ σ H { s with toks:=t }:=I.un (h':=s.heap) (t':=t) Un.refl I.hok
theorem Inv.kept {t':Nat}(I:Inv X bQ σ H s)(k:∀b u,s.heap.get? b=some u->h'.get? b=some u):Inv X bQ σ H { s with heap:=h',toks:=t' }:=I.un (Un.kept k) (I.hok.kept k)
theorem Inv.laid {a:Addr}{o:HO}{t':Nat}(I:Inv X bQ σ H s)(k:∀b u,s.heap.get? b=some u->h'.get? b=some u)(c:s.heap.objs.size<=a)(d:jd X.prog X.w (upd H a o) h' a o) :
  Inv X bQ σ (upd H a o) { s with heap:=h',toks:=t' }:=I.un (Un.laid k c (I.hok.fresh c)) (I.hok.laid k c d)
theorem Inv.write {x e:Addr}{o:HO}{t':Nat}(I:Inv X bQ σ H s)(d:Mut (H x))(he:e=x\/H e=some (.own x))(k:∀b u,b≠e->s.heap.get? b=some u->h'.get? b=some u)(a:∃u,h'.get? e=some u)
  (c:jd X.prog X.w (upd H x o) h' x o):Inv X bQ σ (upd H x o) { s with heap:=h',toks:=t' }:=I.un (Un.write d he k a) (I.hok.write d he k a c)
def Inv.pins_of {a:List (Addr×Obj)}(I:Inv X bQ σ H s)(h:∀p∈a,s.heap.get? p.1=some p.2/\H p.1=none/\p.1≠X.env.locals/\p.1 ∉ X.fs/\∀v,p.2.data ≠ .cell v):Inv X a σ H s :=
 ⟨I.ok,I.os,I.bare,I.base,I.loc,I.cell,I.free,I.freeC,λp b=>(XO.mp b).elim (λz=>I.pin p (W2 _ z)) (h p),I.hok,I.len⟩
def zcK {N:AE}(e:N.Nodup){i j:Nat}{x:Str}(a:N[i]?=some x)(b:N[j]?=some x):i=j:=by
 obtain⟨h1,c⟩:=XZ.mp a;obtain⟨h2,d⟩:=XZ.mp b;exact(List.getElem_inj e).mp (c.trans d.symm)
def zbn {M:R5}{A:W1}{E:Y1->X8->Prop}{i:Nat}{x:Str}{v:V}{u:Y1}{Q:Unit->X8->Prop}(I:Inv X bQ σ H s)(hN:X.N.Nodup)(hi:X.N[i]?=some x)(B:Loc X.env.scope x)(r:RelV v u)
  (h:∀s',Inv X bQ (σ.set i (some v)) H s'->(∃a,VU a s.heap s'.heap/\(a=X.env.locals\/X.env.cells.lookup x=some a))->Q () s') (hf:X.fn x=true\/X.env.scope.names.lookup x=some .local:=by first | exact .inl rfl | exact .inr rfl | assumption):Xu M A (storeName X.env x u) Q E s:=by
 obtain⟨m,hn,hl⟩:=id I.loc;have ab:(X.env.scope.kind == .class || (X.env.scope.kind == .module&&X.env.locals != X.env.globals))=false:=by rw[I.ok.kind];rfl
 have J:i < σ.length:=by rw[I.len];exact(XZ.mp hi).1
 have cne:=I.cne;have l:∀{a:Addr} {h':Heap},(∃o,s.heap.get? a=some o/\H a=none)->VU a s.heap h'->HOk X.prog X.w H h':=λ{a h'} ha f b ob e=>by
  obtain⟨_,_,D⟩:=ha;refine(I.hok b ob e).stay (λc w' hc q=>(f.2 c ?_).trans q) (λ_ q=>q) λ_ _ q=>q;rintro rfl;rcases hc with rfl | hc
  .rw[D]at e;cases e
  .rw[D]at hc;cases hc
 rcases B with hk | hk
 .refine wpAny_storeName_local hk hn (λh' af f=>?_) ab;obtain⟨oL,_,_,ag,_⟩:=id hn;refine h _ ⟨I.ok,I.os,I.bare,⟨λb o e n L B=>?_,λb o e n L B=>?_,I.base.free,λb o e B=>?_,I.base.tups,I.base.frzs,I.base.tbls⟩,⟨_,af,λj y v' g G e3=>?_⟩,λy c e=>?_,I.free,I.freeC,λp hp=>?_,l ⟨oL,ag,I.free⟩ f,by simpa using I.len⟩ ⟨_,f,.inl rfl⟩
  .exact(f.2 b (Xm (Xs (XH e) I.ok.above))).trans (I.base.keep b o e n L B)
  .obtain⟨sl,g⟩:=I.base.slot b o e n L B;exact⟨sl,(f.2 b (Xm (Xs (XH e) I.ok.above))).trans g⟩
  .obtain⟨o',g⟩:=I.base.there b o e B;exact⟨o',(f.2 b (Xm (Xs (XH e) I.ok.above))).trans g⟩
  .by_cases U:j=i
   .subst U;rw[hi]at g;cases g;rw[Ss J]at G;cases G;exact⟨u,r,.inl ⟨hk,by simp⟩⟩
   .rw[R0 (Va U)]at G;obtain⟨u',r',q⟩:=hl j y v' g G e3;refine⟨u',r',?_⟩;rcases q with ⟨k,e⟩ | ⟨k,c,e,z⟩
    .refine .inl ⟨k,?_⟩;have:y≠x:=λe=>U (zcK hN g (e ▸ hi));simp[this,e]
    .exact .inr ⟨k,c,e,z.sameBut f (cne y c e)⟩
  .obtain⟨w',z⟩:=I.cell y c e;exact⟨w',z.sameBut f (cne y c e)⟩
  .obtain⟨e,n,ne,nf,d⟩:=I.pin p hp;exact⟨(f.2 p.1 ne).trans e,n,ne,nf,d⟩
 .have O:X.fn x=true:=by
   rcases hf with z | z
   .exact z
   .rw[z]at hk;cases hk
  obtain⟨c,hc⟩:=I.ok.has x (.inl hk);obtain⟨w',z⟩:=I.cell x c hc;refine wpAny_storeName_cell I.ok.kind hk hc z (λh' Y f=>?_);obtain⟨oc,ac,ae⟩:=id z;refine h { s with heap:=h' } ⟨I.ok,I.os,I.bare,⟨λb o e n L B=>?_,λb o e n L B=>?_,I.base.free,λb o e B=>?_,I.base.tups,I.base.frzs,I.base.tbls⟩,⟨m,hn.sameBut f (Va (cne x c hc)),λj y v' g G e3=>?_⟩,λy c' e=>?_,I.free,I.freeC,λp hp=>?_,l ⟨oc,ac,I.freeC x c hc⟩ f,by simpa using I.len⟩ ⟨c,f,.inr hc⟩
  .exact(f.2 b (Xm (Xs (XH e) (I.ok.cab x c O hc)))).trans (I.base.keep b o e n L B)
  .obtain⟨sl,g⟩:=I.base.slot b o e n L B;exact⟨sl,(f.2 b (Xm (Xs (XH e) (I.ok.cab x c O hc)))).trans g⟩
  .obtain⟨o',g⟩:=I.base.there b o e B;exact⟨o',(f.2 b (Xm (Xs (XH e) (I.ok.cab x c O hc)))).trans g⟩
  .by_cases U:j=i
   .subst U;rw[hi]at g;cases g;rw[Ss J]at G;cases G;exact⟨u,r,.inr ⟨.inl hk,c,hc,Y⟩⟩
   .rw[R0 (Va U)]at G;obtain⟨u',r',q⟩:=hl j y v' g G e3;refine⟨u',r',?_⟩;rcases q with q | ⟨k,c',e,z'⟩
    .exact .inl q
    .refine .inr ⟨k,c',e,z'.sameBut f ?_⟩;rintro rfl;exact U (zcK hN g (I.ok.inj _ _ _ e hc ▸ hi))
  .by_cases aa:c'=c
   .subst aa;exact⟨_,Y⟩
   .obtain⟨w2,z2⟩:=I.cell y c' e;exact⟨w2,z2.sameBut f aa⟩
  .obtain⟨e,n,ne,nf,d⟩:=I.pin p hp;refine⟨(f.2 p.1 ?_).trans e,n,ne,nf,d⟩;intro q;rw[q,ac]at e;have q':oc=p.2:=Option.some.inj e;exact d w' (by rw[<- q'];exact ae)
def ZE {M:R5}{A:W1}{E:Y1->X8->Prop}{i:Nat}{x:Str}{v:V}{u:Y1}{Q:Unit->X8->Prop}(I:Inv X bQ σ H s)(b:X.N.Nodup)(d:X.N[i]?=some x)(e:Loc X.env.scope x)(r:RelV v u)
  (h:∀s',Inv X bQ (σ.set i (some v)) H s'->Q () s') (c:X.fn x=true\/X.env.scope.names.lookup x=some .local:=by first | exact .inl rfl | exact .inr rfl | assumption):Xu M A (storeName X.env x u) Q E s :=
 zbn I b d e r (λs' a _=>h s' a) c
def Inv.call' {s':X8}{ch:List Addr}(I:Inv X bQ σ H s)(g:s'.os=s.os)(u:Un (frs X.stack) ch H H' s.heap s'.heap)(d:HOk X.prog X.w H' s'.heap)(f:SL s'.gens)
  (a:∀b∈ch,(b∈X.ex\/X.s₀.heap.objs.size<=b)/\b≠X.env.locals/\(∀x c,X.env.cells.lookup x=some c->c≠b)/\∀p∈X.pn++bQ,p.1≠b):Inv X bQ σ H' s':=by
 obtain⟨h',g',d',t',h⟩:=s';have e:h=s.os:=g;subst e;exact I.call (g':=g') (t':=t') (d':=d') u d f a
end
abbrev XK:=Y1->Option Addr->Hp->Prop
abbrev St:=List (Option V)
abbrev VK:=V->Hp->Prop
abbrev TE:=St->Hp->VK->Prop
abbrev TT:=St->Hp->(Bool->Hp->Prop)->Prop
abbrev TA:=St->Hp->(AF->Hp->Prop)->Prop
structure Ends where
 nx:St->Hp->Prop
 rt:VK
 bk:St->Hp->Prop:=λ_ _=>False
 ct:St->Hp->Prop:=λ_ _=>False
abbrev TS:=Ends->St->Hp->Prop
def EP (X:Cx)(b:List (Addr×Obj))(c:St)(Q:VK)(u:Y1)(s':X8):Prop:=∃v a,Inv X b c a s'/\RelV v u/\Q v a
def TP (X:Cx)(c:List (Addr×Obj))(d:St)(Q:Bool->Hp->Prop)(b:Bool)(s':X8):Prop:=∃a,Inv X c d a s'/\Q b a
def AP (X:Cx)(c:List (Addr×Obj))(e:St)(Q:AF->Hp->Prop)(d:List Y1)(s':X8):Prop:=∃b a,Inv X c e a s'/\Vals b d/\Q b a
def SP (X:Cx)(c:List (Addr×Obj))(D:Ends)(f:Flow)(s':X8):Prop :=
 match f with
 | .next=>∃ a b,Inv X c a b s'/\D.nx a b
 | .brk=>∃ a b,Inv X c a b s'/\D.bk a b
 | .cont=>∃ a b,Inv X c a b s'/\D.ct a b
 | .ret u=>∃v a b,Inv X c a b s'/\RelV v u/\D.rt v b
def PE (X:Cx)(e:Expr)(t:TE):Prop :=
 ∀(b:List (Addr×Obj)) (s:X8) (a:St) (H:Hp) (Q:VK),Inv X b a H s->t a H Q->Xu (Xw X.prog X.w) X.A (eval e X.env) (EP X b a Q) X.xe s
def PT (X:Cx)(e:Expr)(t:TT):Prop :=
 ∀(b:List (Addr×Obj)) (s:X8) (a:St) (H:Hp) (Q:Bool->Hp->Prop),Inv X b a H s->t a H Q->Xu (Xw X.prog X.w) X.A (isTrue e X.env (eval e X.env)) (TP X b a Q) X.xe s
def PW (X:Cx)(e:Expr)(t:TT):Prop :=
 ∀(whole:Sem Y1) (b:List (Addr×Obj)) (s:X8) (a:St) (H:Hp) (Q:Bool->Hp->Prop),Inv X b a H s->t a H Q->Xu (Xw X.prog X.w) X.A (isTrue e X.env whole) (TP X b a Q) X.xe s
def PW.pt {X:Cx}{e:Expr}{t:TT}(h:PW X e t):PT X e t:=h _
def PA (X:Cx)(c:List Expr)(t:TA):Prop :=
 ∀(pos:Pos) (b:List (Addr×Obj)) (s:X8) (a:St) (H:Hp) (Q:AF->Hp->Prop),Inv X b a H s->t a H Q->Xu (Xw X.prog X.w) X.A (N8 (UI pos (W4 c X.env))) (AP X b a Q) X.xe s
def PS (X:Cx)(st:Stmt)(t:TS):Prop :=
 ∀(a:List (Addr×Obj)) (s:X8) (b:St) (H:Hp) (D:Ends),Inv X a b H s->t D b H->Xu (Xw X.prog X.w) X.A (exec st X.env) (SP X a D) X.xe s
def PSs (X:Cx)(st:List Stmt)(t:TS):Prop :=
 ∀(a:List (Addr×Obj)) (s:X8) (b:St) (H:Hp) (D:Ends),Inv X a b H s->t D b H->Xu (Xw X.prog X.w) X.A (execs st X.env) (SP X a D) X.xe s
def thn {α:Type}{t:Sem α}{Q b:α->X8->Prop}{M:R5}{A:W1}{E:Y1->X8->Prop}{s:X8}(h:Xu M A t Q E s)(c:∀a s,Q a s->b a s):Xu M A t b E s:=Xa h c λ_ _ x=>x
section
variable {X:Cx}
def zrk (i:Nat):TE:=fun a H Q=>∃v,a[i]?=some (some v)/\Q v H
def tC (v:V):TE:=λ_ H Q=>Q v H
def zpK {i:Nat}{x:Str}{pos:Pos}(k:X.N[i]?=some x)(q:Vis X.env.scope x)(f:(x==("__debug__":Str))=false:=by decide)(d:(x==("__classdict__":Str))=false:=by decide):PE X (.Name x pos) (zrk i):=by
 intro j s w H Q I h;obtain⟨v,e,h⟩:=h;obtain⟨m,p,n⟩:=I.loc;obtain⟨u,r,l⟩:=n i x v k e q;have b:EP X j w Q u s:=⟨v,H,I,r,h⟩;rcases l with ⟨hk,o⟩ | ⟨hk,c,g,a⟩
 .exact wpAny_Name (wpAny_loadName_local I.ok.kind hk p o b) f
 .rcases hk with hk | hk
  .exact wpAny_Name (wpAny_loadName_cell I.ok.kind hk g a b) f
  .exact wpAny_Name (wpAny_loadName_free I.ok.kind hk g a b d) f
def zh {i j pos}:PE X (.Constant (.int i) j pos) (tC (.int i)):=λ_ _ _ H _ I h=>wpAny_Constant_int ⟨.int i,H,I.tok _,⟨_,rfl⟩,h⟩
def zaB {b j pos}:PE X (.Constant (.bool b) j pos) (tC (.bl b)):=λ_ _ _ H _ I h=>Constant_bool ⟨.bl b,H,I,rfl,h⟩
def Zu {j pos}:PE X (.Constant .none j pos) (tC .non):=λ_ _ _ H _ I h=>Constant_none ⟨.non,H,I,rfl,h⟩
def jZ {x j pos}:PE X (.Constant (.str x) j pos) (tC (.str x)):=λ_ _ _ H _ I h=>Calls.Constant_str ⟨.str x,H,I.tok _,⟨_,rfl⟩,h⟩
def Gl (X:Cx)(x:Str):Prop:=X.env.kindOf x=some .globalImplicit
def xN {E:Y1->X8->Prop}{a:List (Addr×Obj)}{s:X8}{e:St}{H:Hp}{x:Str}{u:Y1}{pos:Pos}{Q:Y1->X8->Prop}(I:Inv X a e H s)(c:Gl X x)(d:X.mg x=some u)(h:Q u s)
  (b:(x==("__debug__":Str))=false:=by decide):Xu (Xw X.prog X.w) X.A (eval (.Name x pos) X.env) Q E s :=
 Rs I.ok.kind c (Calls.loadGlobal_global (by rw[I.ok.glob];exact I.mod.glob.keeps I.bk) d h) b
def YZ {E:Y1->X8->Prop}{a:List (Addr×Obj)}{s:X8}{g:St}{H:Hp}{x:Str}{u:Y1}{pos:Pos}{Q:Y1->X8->Prop}(I:Inv X a g H s)(c:Gl X x)(d:X.mg x=none)(f:Tr x=some u)(h:Q u s)
  (e:x ≠ "__name__":=by decide) (b:(x==("__debug__":Str))=false:=by decide):Xu (Xw X.prog X.w) X.A (eval (.Name x pos) X.env) Q E s:=by
 obtain⟨i,h1,h2⟩:=I.mod.blt;exact Rs I.ok.kind c (Calls.loadGlobal_builtin (by rw[I.ok.glob];exact I.mod.glob.keeps I.bk) d (by rw[I.ok.blt];exact h1.keeps I.bk) ((h2 x e).trans f) h) b
def qG {x:Str}{v:V}{u:Y1}{pos:Pos}(b:Gl X x)(c:X.mg x=some u)(r:RelV v u)(a:(x==("__debug__":Str))=false:=by decide):PE X (.Name x pos) (tC v) :=
 λ_ _ _ H _ I h=>xN I b c ⟨v,H,I,r,h⟩ a
def ziW {x:Str}{v:V}{u:Y1}{pos:Pos}(b:Gl X x)(c:X.mg x=none)(e:Tr x=some u)(r:RelV v u)(d:x ≠ "__name__":=by decide)(a:(x==("__debug__":Str))=false:=by decide):PE X (.Name x pos) (tC v) :=
 λ_ _ _ H _ I h=>YZ I b c e ⟨v,H,I,r,h⟩ d a
variable {a b:Expr}{ta tb:TE}{pos:Pos}
variable {tA tB':TT}{rest:List Expr}
def zsB (t u:TT):TT:=fun b H Q=>t b H λc a=>if c=true then u b a Q else Q false a
def tOr (t u:TT):TT:=fun b H Q=>t b H λc a=>if c=true then Q true a else u b a Q
def zsC (t:TT):TT:=fun b H Q=>t b H λc a=>Q (!c) a
def ziX (d:PT X a tA):PW X (.BoolOp .And [a] pos) tA:=by
 intro g b s f H Q I h;refine isTrue_and (thn (d b s f H Q I h) λc s1 e=>?_);cases c with
 | true=>exact isTrue_and_nil e
 | false=>exact e
def zhG (d:PT X a tA):PW X (.BoolOp .Or [a] pos) tA:=by
 intro g b s f H Q I h;refine isTrue_or (thn (d b s f H Q I h) λc s1 e=>?_);cases c with
 | false=>exact isTrue_or_nil e
 | true=>exact e
def zk2 (j:PT X a tA)(k:PW X (.BoolOp .And (b::rest) pos) tB'):PW X (.BoolOp .And (a::b::rest) pos) (zsB tA tB'):=by
 intro l f s i H Q I h;refine isTrue_and (thn (j f s i H _ I h) λc s1 ⟨d,e,g⟩=>?_);cases c with
 | true=>exact k l f s1 i d Q e g
 | false=>exact⟨d,e,g⟩
def zge (j:PT X a tA)(k:PW X (.BoolOp .Or (b::rest) pos) tB'):PW X (.BoolOp .Or (a::b::rest) pos) (tOr tA tB'):=by
 intro l f s i H Q I h;refine isTrue_or (thn (j f s i H _ I h) λc s1 ⟨d,e,g⟩=>?_);cases c with
 | true=>exact⟨d,e,g⟩
 | false=>exact k l f s1 i d Q e g
def zai (e:PT X a tA):PT X (.UnaryOp .Not a pos) (zsC tA):=by
 intro d s f H Q I h;exact isTrue_not (e d s f H (λc b=>Q (!c) b) I h)
def zrl (ta tb:TE):TE:=fun b H Q=>ta b H λx a=>∃c,x=.bl c/\if c=true then tb b a Q else Q (.bl false) a
def zpL {op}{t:TE}(h:PE X a t):PE X (.BoolOp op [a] pos) t:=λb s d H Q I c=>BoolOp_one (h b s d H Q I c)
def zpM (j:PE X a ta)(k:PE X (.BoolOp .And (b::rest) pos) tb):PE X (.BoolOp .And (a::b::rest) pos) (zrl ta tb):=by
 intro g s i H Q I h;refine BoolOp_and (thn (j g s i H _ I h) λv s1 ⟨x,e,f,l,d⟩=>?_);obtain⟨c,rfl,d⟩:=d;cases l;refine U3 ?_;cases c with
 | true=>exact k g s1 i e Q f d
 | false=>exact⟨.bl false,e,f,rfl,d⟩
end
def SqL (K:X5)(H:Hp)(a:Addr)(xs:AF):Prop :=
 Rd H a (.lst xs) \/
  ∃(o:Obj) (b:Array Y1) (n:Nat),K.lookup a=some o/\o.cls=.type "list"/\o.dict=none/\o.data=.seq b n/\b.size<=Xz/\Vals xs b.toList
def SqT (K:X5)(H:Hp)(a:Addr)(xs:AF):Prop :=
 Rd H a (.tup xs) \/
  ∃(o:Obj) (b:Array Y1) (n:Nat),K.lookup a=some o/\o.cls=.type "tuple"/\o.data=.seq b n/\b.size<=Xz/\Vals xs b.toList
def zsD:Y1->Option V
 | .none=>some .non
 | .bool b=>some (.bl b)
 | .int i _=>some (.int i)
 | .str x _=>some (.str x)
 | .bytes b _=>some (.byt b)
 | .float b _=>some (.flt b)
 | .ref a=>some (.ref a)
 | .type n=>some (.ty n)
 | _=>none
def RelV.abs {x:V}{u:Y1}(r:RelV x u):zsD u=some x:=by
 cases x with
 | non=>cases r;rfl
 | bl _=>cases r;rfl
 | int _=>obtain⟨t,rfl⟩:=r;rfl
 | str _=>obtain⟨t,rfl⟩:=r;rfl
 | byt _=>obtain⟨t,rfl⟩:=r;rfl
 | flt _=>obtain⟨t,rfl⟩:=r;rfl
 | ref _=>cases r;rfl
 | ty _=>cases r;rfl
theorem RelV.inj {x y:V}{u:Y1}(r:RelV x u)(q:RelV y u):x=y:=Option.some.inj (r.abs.symm.trans q.abs)
theorem Vals.inj:∀{xs ys:AF} {a:List Y1},Vals xs a->Vals ys a->xs=ys
 | _,_,_,.nil,.nil=>rfl
 | _,_,_,.cons r t,.cons b t'=>by rw[r.inj b,Vals.inj t t']
section
variable {X:Cx}{bQ:List (Addr×Obj)}{σ:St}{H:Hp}{s:X8}{a:Addr}{xs ys:AF}
def SqL.of {K:X5}(h:H a=some (.lst xs)):SqL K H a xs:=.inl (.inl h)
def SqT.of {K:X5}(h:H a=some (.tup xs)):SqT K H a xs:=.inl (.inl h)
def Inv.list (I:Inv X bQ σ H s)(h:SqL X.K H a xs):∃b:List Y1,Vals xs b/\PlainL s.heap a b.toArray/\xs.length<=Xz:=by
 rcases h with h | ⟨o,b,n,hk,c,d,f,g,r⟩
 .obtain⟨z,b,n,r,e⟩:=h.ok I.hok;exact⟨b,r,⟨_,n,e,rfl,rfl,rfl⟩,z⟩
 .refine⟨b.toList,r,⟨o,n,I.kIn a o hk,c,d,by simpa using f⟩,?_⟩;have e:=r.length;simp only[X6]at e;lia
def Inv.tuple (I:Inv X bQ σ H s)(h:SqT X.K H a xs):∃b:List Y1,Vals xs b/\NO s.heap a b.toArray/\xs.length<=Xz:=by
 rcases h with h | ⟨o,b,n,hk,c,d,f,r⟩
 .obtain⟨z,b,r,p⟩:=h.ok I.hok;exact⟨b,r,p,z⟩
 .refine⟨b.toList,r,⟨o,I.kIn a o hk,c,n,by simpa using d⟩,?_⟩;have e:=r.length;simp only[X6]at e;lia
def Inv.list_inj (I:Inv X bQ σ H s)(h:SqL X.K H a xs)(h':SqL X.K H a ys):xs=ys:=by
 obtain⟨c,r,⟨o,n,e,_,_,d⟩,_⟩:=I.list h;obtain⟨b,j,⟨l,k,g,_,_,f⟩,_⟩:=I.list h';rw[e]at g;cases g;rw[d]at f;injection f with i _
 have:c=b:=by simpa using congrArg Array.toList i
 subst this;exact r.inj j
end
abbrev Cx.wish (X:Cx)(E:Y1->X8->Prop):Cx:={ X with xe:=E }
abbrev Cx.nox (X:Cx):Cx:=X.wish λ_ _=>False
theorem Cx.Ok.wish {X:Cx}(ok:X.Ok)(E:Y1->X8->Prop):(X.wish E).Ok :=
 ⟨ok.mod,ok.kind,ok.glob,ok.blt,ok.above,ok.inj,ok.has,ok.cab,ok.hd,ok.frames,ok.stk,ok.exf,ok.bs,ok.bsz,ok.noex,ok.exfs,ok.funs,ok.frf⟩
def Cx.Ok.unwish {X:Cx}{E:Y1->X8->Prop}(ok:(X.wish E).Ok):X.Ok :=
 ⟨ok.mod,ok.kind,ok.glob,ok.blt,ok.above,ok.inj,ok.has,ok.cab,ok.hd,ok.frames,ok.stk,ok.exf,ok.bs,ok.bsz,ok.noex,ok.exfs,ok.funs,ok.frf⟩
section
variable {X:Cx}{bQ:List (Addr×Obj)}{σ:St}{H:Hp}{s:X8}{E:Y1->X8->Prop}
theorem Inv.wish (I:Inv X bQ σ H s)(E:Y1->X8->Prop):Inv (X.wish E) bQ σ H s:=⟨I.ok.wish E,I.os,I.bare,I.base,I.loc,I.cell,I.free,I.freeC,I.pin,I.hok,I.len⟩
theorem Inv.unwish (I:Inv (X.wish E) bQ σ H s):Inv X bQ σ H s:=⟨I.ok.unwish,I.os,I.bare,I.base,I.loc,I.cell,I.free,I.freeC,I.pin,I.hok,I.len⟩
theorem SP.unwish {D:Ends}{f:Flow}{s':X8}(h:SP (X.wish E) bQ D f s'):SP X bQ D f s':=by
 cases f with
 | next=>obtain⟨a,b,I,q⟩:=h;exact⟨a,b,I.unwish,q⟩
 | brk=>obtain⟨a,b,I,q⟩:=h;exact⟨a,b,I.unwish,q⟩
 | cont=>obtain⟨a,b,I,q⟩:=h;exact⟨a,b,I.unwish,q⟩
 | ret u=>obtain⟨v,a,b,I,r,q⟩:=h;exact⟨v,a,b,I.unwish,r,q⟩
theorem PSs.nox {st:List Stmt}{t:TS}(h:PSs X.nox st t):PSs X st t:=λbQ s σ H D I a =>
 Xa (h bQ s σ H D (I.wish _) a) (λ_ _ q=>q.unwish) λ_ _ z=>WB z
end
section
variable {X:Cx}{st:Stmt}{rest:List Stmt}{t u:TS}{e:Expr}{te:TE}{pos:Pos}
def zrm:TS:=λD a H=>D.nx a H
def zrn (t u:TS):TS:=λD a H=>t { D with nx:=u D } a H
def qc:PSs X [] zrm:=λ_ _ a H _ I h=>VF ⟨a,H,I,h⟩
def zf (h1:PS X st t)(h2:PSs X rest u):PSs X (st::rest) (zrn t u):=by
 intro b s e H D I h;refine Vg (thn (h1 b s e H { D with nx:=u D } I h) λf s1 q=>?_);cases f with
 | next =>
  obtain⟨a,c,d,q⟩:=q;exact h2 b s1 a c D d q
 | ret v=>exact q
 | brk=>exact q
 | cont=>exact q
def zg (h1:PS X st t):PSs X [st] t:=by
 intro a s b H D I h;refine Vg (thn (h1 a s b H D I h) λf s1 q=>?_);cases f with
 | next=>exact VF q
 | ret v=>exact q
 | brk=>exact q
 | cont=>exact q
def Inv.quiet {a:List (Addr×Obj)}{b:St}{H:Hp}{s:X8}(I:Inv X a b H s):interactive X.env=false:=by simp[interactive,I.ok.kind]
def zro (te:TE):TS:=λD a H=>te a H λ_ b=>D.nx a b
def yu (he:PE X e te)(f:SQ e none pos.line X.env=pure false:=by rfl):PS X (.Expr e pos) (zro te):=by
 intro d s a H D I h;exact wpAny_Expr_any (thn (he d s a H _ I h) λv s1 ⟨x,b,c,i,g⟩=>⟨a,b,c,g⟩) I.quiet f
def zrp (te:TE):TS:=λD a H=>te a H D.rt
def zK (he:PE X e te):PS X (.Return (some e) pos) (zrp te):=by
 intro d s a H D I h;exact wpAny_Return_some (thn (he d s a H _ I h) λv s1 ⟨x,b,c,g,f⟩=>⟨x,a,b,c,g,f⟩)
def zrq (c:TT)(t u:TS):TS:=λD a H=>c a H λb d=>if b=true then t D a d else u D a d
def qL {c:Expr}{a b:List Stmt}{k:TT}(n:PT X c k)(l:PSs X a t)(m:PSs X b u):PS X (.If c a b pos) (zrq k t u):=by
 intro e s f H D I h;refine wpAny_If (thn (n e s f H _ I h) λd s1 ⟨g,i,j⟩=>?_);cases d with
 | true=>exact l e s1 f g D i j
 | false=>exact m e s1 f g D i j
def zpN:TS:=λ_ _ _=>False
def Y0:PS X st zpN:=λ_ _ _ _ _ _ h=>h.elim
end
abbrev TG:=V->St->Hp->(St->Hp->Prop)->Prop
abbrev TGs:=AF->St->Hp->(St->Hp->Prop)->Prop
def PG (X:Cx)(a:Expr)(t:TG):Prop :=
 ∀(d:List (Addr×Obj)) (s:X8) (e:St) (H:Hp) (v:V) (u:Y1) (Q:St->Hp->Prop),Inv X d e H s->RelV v u->t v e H Q ->
  Xu (Xw X.prog X.w) X.A (Og a X.env u) (λ_ f=>∃ b c,Inv X d b c f/\Q b c) X.xe s
def PGs (X:Cx)(h:List Expr)(t:TGs):Prop :=
 ∀(c:List (Addr×Obj)) (s:X8) (f:St) (H:Hp) (e:AF) (d:List Y1) (Q:St->Hp->Prop),Inv X c f H s->Vals e d->t e f H Q ->
  Xu (Xw X.prog X.w) X.A (assignInOrder ((SX h X.env).map (·.2)) d) (λ_ g=>∃ a b,Inv X c a b g/\Q a b) X.xe s
abbrev zpO:=V->V->V->Hp->(Hp->Prop)->Prop
def zrr (X:Cx)(t:zpO):Prop :=
 ∀(b:List (Addr×Obj)) (s:X8) (e:St) (H:Hp) (o i v:V) (d c u:Y1) (Q:Hp->Prop),Inv X b e H s->RelV o d->RelV i c->RelV v u->t o i v H Q ->
  Xu (Xw X.prog X.w) X.A (setItem d c u) (λ_ f=>∃a,Inv X b e a f/\Q a) X.xe s
abbrev TIp:=V->V->Hp->VK->Prop
def PIp (X:Cx)(op:Operator)(t:TIp):Prop :=
 ∀(a:List (Addr×Obj)) (s:X8) (b:St) (H:Hp) (x y:V) (v u:Y1) (Q:VK),Inv X a b H s->RelV x v->RelV y u->t x y H Q ->
  Xu (Xw X.prog X.w) X.A (inplaceOp op v u) (EP X a b Q) X.xe s
section
variable {X:Cx}{pos:Pos}
def Q0 (i:Nat):TG:=λv a H Q=>Q (a.set i (some v)) H
def zv {i:Nat}{x:Str}(b:X.N.Nodup)(d:X.N[i]?=some x)(e:Loc X.env.scope x)(c:X.fn x=true\/X.env.scope.names.lookup x=some .local:=by first | exact .inl rfl | exact .inr rfl | assumption):PG X (.Name x pos) (Q0 i):=by
 intro f s j H v u Q I r h;exact Rf (ZE I b d e r (λg a=>⟨_,H,a,h⟩) c)
def zsE:TGs:=λa b H Q=>a=[]/\Q b H
def zrs (t:TG)(u:TGs):TGs:=λc d H Q=>∃v r,c=v::r/\t v d H fun a b=>u r a b Q
def yi:PGs X [] zsE:=by
 intro b s a H d c Q I r h;obtain⟨e,h⟩:=h;subst e;cases r;exact assignInOrder_nil ⟨a,H,I,h⟩
def qf {e:Expr}{a:List Expr}{t:TG}{u:TGs}(h1:PG X e t)(h2:PGs X a u)
  (i:(SX (e::a) X.env).map (·.2)=Og e X.env::(SX a X.env).map (·.2):=by rfl):PGs X (e::a) (zrs t u):=by
 intro c s l H o m Q I r h;obtain⟨v,n,g,h⟩:=h;subst g;cases r with
 | cons r k =>
  rw[i];refine assignInOrder_cons (thn (h1 c s l H _ _ _ I r h) λ_ s1 ⟨b,d,f,j⟩=>?_);exact h2 c s1 b d _ _ Q f k j
def zrt (K:X5)(n:Nat)(t:TGs):TG:=λv c H Q=>∃a b,v=.ref a/\SqT K H a b/\b.length=n/\t b c H Q
def Zv {c:List Expr}{k:Nat}{t:TGs}{n:Nat}(q:X.calm=true)(h:PGs X c t)
  (x:(SX c X.env).length=n:=by rfl) (d:(SX c X.env).findIdx? (·.1)=none:=by rfl):PG X (.Tuple c k pos) (zrt X.K n t):=by
 intro g s j H v u Q I r f;obtain⟨a,D,m,y,w,f⟩:=f;subst m;cases r;obtain⟨B,i,z,E⟩:=I.tuple y;refine assign_Tuple_tuple (I.ok.hd q) z (by simp[x,<- w,i.length]) d λp A=>?_;have l:Inv X g j H { s with heap:=p }:=I.kept (t':=s.toks) λb o e=>A b o (Xm (XH e)) e;exact h g _ j H D _ Q l (by simpa using i) f
def zk3 (c:TE)(g:TG):TS:=λD a H=>c a H λx b=>g x a b D.nx
def zx {i:Nat}{x:Str}{e:Expr}{b:TE}{a:Pos}(j:X.N.Nodup)(l:X.N[i]?=some x)(n:Loc X.env.scope x)(he:PE X e b)(m:SQ e (some (.Name x a)) pos.line X.env=pure false:=by rfl)(k:X.fn x=true\/X.env.scope.names.lookup x=some .local:=by first | exact .inl rfl | exact .inr rfl | assumption) :
  PS X (.Assign [.Name x a] e pos) (zk3 b (Q0 i)):=by
 intro g s q H D I h;refine SD (thn (he g s q H _ I h) λv s1 ⟨y,c,d,p,o⟩=>?_) m;exact ZE d j l n p (λr f=>⟨_,c,f,o⟩) k
def zru (n m l:TE)(a:V->V->Hp->VK->Prop)(d:TIp)(b:zpO):TS:=λD c H=>n c H λo e=>m c e λi f=>a o i f λx g=>l c g λy h=>d x y h λz j=>b o i z j λk=>D.nx c k
def zrv (X:Cx)(t:V->V->Hp->VK->Prop):Prop :=
 ∀(a:List (Addr×Obj)) (s:X8) (d:St) (H:Hp) (o i:V) (c b:Y1) (Q:VK),Inv X a d H s->RelV o c->RelV i b->t o i H Q ->
  Xu (Xw X.prog X.w) X.A (OE c b) (EP X a d Q) X.xe s
def ziY {o i e:Expr}{u r q:TE}{b:V->V->Hp->VK->Prop}{k:TIp}{c:zpO}{op:Operator}{l:Pos}(ho:PE X o u)(hi:PE X i r)(Y:zrv X b)(he:PE X e q)(hp:PIp X op k)(hs:zrr X c)
  (U:∀f d a,augStore i f d a=(do holding [a,f,d] (setItem f d a);release [a,f,d] [];pure .next):=by intros;rfl):PS X (.AugAssign (.Subscript o i l) op e pos) (zru u r q b k c):=by
 intro j s g H D I h;refine wpAny_AugAssign_SubscriptAny (thn (ho j s g H _ I h) λf s1 ⟨w,y,J,n,q1⟩=>?_) U;refine thn (hi j s1 g y _ J q1) λd s2 ⟨x,z,L,p,q2⟩=>?_;refine thn (Y j s2 g z w x f d _ L n p q2) λm s3 ⟨x3,A,M,r3,q3⟩=>?_;refine thn (he j s3 g A _ M q3) λv s4 ⟨x4,B,N,r4,q4⟩=>?_;refine thn (hp j s4 g B x3 x4 m v _ N r3 r4 q4) λa s5 ⟨x5,E,O,r5,q5⟩=>?_;exact thn (hs j s5 g E w x x5 f d a _ O n p r5 q5) λ_ s6 ⟨G,Q,q6⟩=>⟨g,G,Q,q6⟩
def ipI (f:Int->Int->Int):TIp:=λx y H Q=>∃i j,x=.int i/\y=.int j/\Q (.int (f i j)) H
def zk4:PIp X .Add (ipI λi j=>i+j):=by
 intro e s g H x y v u Q I c d h;obtain⟨i,j,a,b,q⟩:=h;subst a;subst b;obtain⟨t,rfl⟩:=c;obtain⟨f,rfl⟩:=d;exact iadd_int ⟨.int _,H,I.tok _,⟨_,rfl⟩,q⟩
def zk5 (c:TT)(h:TS):TS:=λD a H=>∃W:Nat->St->Hp->Prop,(∃m,W m a H)/\∀m a H,W m a H ->
 c a H λb f=>if b=true then ∃N:St->Hp->Prop,(∀ d e,N d e->∃g,g<m/\W g d e)/\h { D with nx:=N,ct:=N,bk:=D.nx } a f else D.nx a f
def zk6 {c:Expr}{e:List Stmt}{L:TT}{J:TS}(G:Oy (Xw X.prog X.w) X.A X.env X.xe)(Q:PT X c L)(O:PSs X e J):PS X (.While c e [] pos) (zk5 L J):=by
 intro o s σ H D I h;obtain⟨W,⟨U,w0⟩,i⟩:=h;refine wpAny_While (codeAny_whileLoop (λn Y=>∃ j x,Inv X o j x Y/\W n j x) ?_ U ⟨σ,H,I,w0⟩);rintro n s1 ⟨d,y,M,w1⟩;refine Wg G (thn (Q o s1 d y _ M (i n d y w1)) λb s2 ⟨z,B,k⟩=>?_);cases b with
 | true =>
  obtain⟨N,E,k⟩:=k;rw[bw rfl];refine Wg G (thn (O o s2 d z _ B k) λf s3 l=>?_);cases f with
  | next =>
   obtain⟨a,g,m,r⟩:=l;obtain⟨q,p,u⟩:=E a g r;exact⟨q,p,a,g,m,u⟩
  | cont =>
   obtain⟨a,g,m,r⟩:=l;obtain⟨q,p,u⟩:=E a g r;exact⟨q,p,a,g,m,u⟩
  | brk=>exact l
  | ret v=>exact l
 | false =>
  rw[bq XS];exact VF ⟨d,z,B,k⟩
end
structure It where
 go:Nat->Hp->Prop
 yld:Nat->Hp->V->Hp->Prop
 stop:Nat->Hp->Prop
def Yq (X:Cx)(a:List (Addr×Obj))(H:Hp)(b:Addr):Prop :=
 H b=none/\b≠X.env.locals/\b ∉ X.fs/\(b∈X.ex\/X.s₀.heap.objs.size<=b)/\(∀x c,X.env.cells.lookup x=some c->c≠b)/\∀p∈X.pn++a,p.1≠b
def Inv.fpOk {X:Cx}{f:List (Addr×Obj)}{i:St}{H d:Hp}{s:X8}{b:Addr}(I:Inv X f i H s)(a:s.heap.objs.size<=b)(g:d b=none):Yq X f d b:=by
 refine⟨g,UB (Xs I.lt a),I.nofs a,.inr (X0 I.sz a),λx c e z=>?_,λp h z=>?_⟩
 .obtain⟨v,q⟩:=I.cell x c e;exact absurd (Xs q.lt (by rw[z];exact a)) (Wj _)
 .exact absurd (Xs (XH (I.pin p h).1) (by rw[z];exact a)) (Wj _)
structure Turn (P:Xr)(w:Xe)(K:X5)(tg:Expr)(J:It)(fp:List Addr)(it:Addr)(tn:Nat->Heap->Prop):Prop where
 mem:it∈fp
 obj:∀i h,tn i h->∀b∈fp,∃o,h.get? b=some o/\∀v,o.data ≠ .cell v
 keep:∀i h h',tn i h->(∀b∈fp,∀o,h.get? b=some o->h'.get? b=some o)->tn i h'
 item:∀(X:Cx),X.prog=P->X.w=w->X.K=K->X.calm=true->∀(i:Nat) (bQ:List (Addr×Obj)) (s:X8) (σ:St) (H:Hp) (E:Y1->X8->Prop),Inv X bQ σ H s->(∀b∈fp,Yq X bQ H b)->tn i s.heap->J.go i H ->
  Xu (Xw P w) X.A (RK (.ref it)) (λr s1=>∃u,r=some u /\
   Xu (Xw P w) X.A (RU tg (.ref it) u) (λ_ s2=>∃x H',Inv X bQ σ H' s2/\RelV x u/\J.yld i H x H'/\tn (i+1) s2.heap/\∀b∈fp,H' b=none) E s1) E s
 done:∀(X:Cx),X.prog=P->X.w=w->X.K=K->X.calm=true->∀(i:Nat) (bQ:List (Addr×Obj)) (s:X8) (σ:St) (H:Hp) (E:Y1->X8->Prop),Inv X bQ σ H s->(∀b∈fp,Yq X bQ H b)->tn i s.heap->J.stop i H ->
  Xu (Xw P w) X.A (RK (.ref it)) (λr s1=>r=none/\Inv X bQ σ H s1) E s
 self:∀(A:W1) (i:Nat) (s:X8) (Q:Y1->X8->Prop) (E:Y1->X8->Prop),tn i s.heap->Q (.ref it) s->Xu (Xw P w) A (Of (.ref it)) Q E s
abbrev TI:=St->Hp->(It->Hp->Prop)->Prop
def PIE (X:Cx)(d:List (Addr×Obj))(j:St)(i:Expr)(R:It->Hp->Prop)(c:Y1)(g:X8):Prop :=
 ∃(f:Addr) (e:List Addr) (h:Nat->Heap->Prop) (J:It) (a:Hp),c=.ref f/\Inv X d j a g/\Turn X.prog X.w X.K i J e f h/\h 0 g.heap/\(∀b∈e,Yq X d a b)/\R J a
def PI (X:Cx)(d a:Expr)(e:TI):Prop :=
 ∀(c:List (Addr×Obj)) (s:X8) (b:St) (H:Hp) (R:It->Hp->Prop),Inv X c b H s->e b H R ->
  Xu (Xw X.prog X.w) X.A (eval a X.env) (λv s1=>Xu (Xw X.prog X.w) X.A (Of v) (PIE X c b d R) X.xe s1) X.xe s
def zk7 {M:R5}{A:W1}{E:Y1->X8->Prop}{s:X8}{b:Expr}{it:Addr}{u:Y1}{o:Obj}{n:String}{vs:Array Y1}{Q:Unit->X8->Prop}(f:s.heap.get? it=some o)(c:o.cls=.type n)(d:o.data=.fields vs)
    (e:["enumerate","zip","dict_itemiterator","dict_reverseitemiterator","odict_iterator","itertools.zip_longest","itertools.pairwise"].contains n=false) (a:Q () s):Xu M A (RU b (.ref it) u) Q E s:=by
  unfold RU;cases b<;>first
    | exact XT a
    | (cases u<;>first
        | exact XT a
        | (refine ZB (wpAny_load f ?_)
           rw[c,d]
           show Xu M A (if (["enumerate","zip","dict_itemiterator","dict_reverseitemiterator","odict_iterator","itertools.zip_longest","itertools.pairwise"].contains n&&vs[0]?==some (T9 _))=true then _ else _) Q E s
           rw[bq (by intro h;rw[e,SG]at h;cases h)]
           exact XT a))
def Itl (K:X5)(a:Addr):It :=
 ⟨λi H=>∃b x,SqL K H a b/\b[i]?=some x,λi H x c=>c=H/\∀b,SqL K H a b->b[i]?=some x,λi H=>∃b,SqL K H a b/\b.length<=i⟩
def Itr (lo:Int)(n:Nat):It:=⟨λi _=>i<n,λi H x a=>a=H/\x=.int (lo+i),λi _=>n<=i⟩
def zjS {P:Xr}{w:Xe}{K:X5}{tg:Expr}(a it:Addr):Turn P w K tg (Itl K a) [it] it (λi h=>h.IsListIter it a i) where
 mem:=by simp
 obj:=λi h st b hb=>by
  have e:b=it:=by simpa using hb
  subst e;obtain⟨o,e,c,d⟩:=st;exact⟨o,e,λv z=>by rw[d]at z;cases z⟩
 keep:=λi h h' st k=>st.at λo e=>k it (by simp) o e
 item:=by
  intro X hP hw hK hc i bQ s σ H E I hf st hg;subst hP hw hK;obtain⟨xs,x,hq,hx⟩:=hg;obtain⟨its,rv,p,hz⟩:=I.list hq;obtain⟨u,hu,ru⟩:=rv.get hx;obtain⟨f0,f1,f2,f3,f4,f5⟩:=hf it (by simp);refine wpAny_pyNext_list_item st p.isList (x:=u) (by simpa using hu) λh' st' sb=>?_;have I1:Inv X bQ σ H { s with heap:=h' }:=I.turned (t':=s.toks) (λb o hb e=>(sb.2 b hb).trans e) f0 f1 f3 f4 f5;obtain⟨o,e,c,d⟩:=id st';exact⟨u,rfl,zk7 (s:={ s with heap:=h' }) e c d (by decide) ⟨x,H,I1,ru,⟨rfl,λys hy=>by rw[I.list_inj hy hq];exact hx⟩,st',λb hb=>(hf b hb).1⟩⟩
 done:=by
  intro X hP hw hK hc i bQ s σ H E I hf st hg;subst hP hw hK;obtain⟨xs,hq,hx⟩:=hg;obtain⟨its,rv,p,hz⟩:=I.list hq;obtain⟨f0,f1,f2,f3,f4,f5⟩:=hf it (by simp);have hl:=rv.length;exact wpAny_pyNext_list_end (I.ok.hd hc) st p.isList (by simp;lia) λh' eb=>⟨rfl,I.turned (t':=s.toks) (λb o hb e=>eb b o hb e) f0 f1 f3 f4 f5⟩
 self:=λ_ _ _ _ _ st h=>wpAny_pyIter_listiter st h
def zhH {P:Xr}{w:Xe}{K:X5}{tg:Expr}(it:Addr)(lo:Int)(n:Nat):Turn P w K tg (Itr lo n) [it] it (λi h=>IsRangeIter h it (lo+(i:Nat)*1) ((n:Int)-(i:Nat)) 1) where
 mem:=by simp
 obj:=λi h st b hb=>by
  have e:b=it:=by simpa using hb
  subst e;exact⟨_,st,λv z=>by
   have z':Data.fields _=Data.cell v:=z;cases z'⟩
 keep:=λi h h' st k=>k it (by simp) _ st
 item:=by
  intro X hP hw hK hc i bQ s σ H E I hf st hg;subst hP hw hK;obtain⟨f0,f1,f2,f3,f4,f5⟩:=hf it (by simp);have W:=Walks.range (prog:=X.prog) (w:=X.w) (I.ok.hd hc) it lo 1 n;refine W.item i s _ _ hg st λv h' tk hv st' kk=>?_;obtain⟨t,rfl⟩:=hv;have I1:Inv X bQ σ H { s with heap:=h',toks:=tk }:=I.turned (λb o hb e=>kk b o (by simpa using hb) e) f0 f1 f3 f4 f5;refine⟨_,rfl,zk7 (s:={ s with heap:=h',toks:=tk }) (n:="range_iterator") st' rfl rfl (by decide) ⟨.int (lo+i),H,I1,⟨t,?_⟩,⟨rfl,rfl⟩,st',λb hb=>(hf b hb).1⟩⟩;rw[Int.mul_one]
 done:=by
  intro X hP hw hK hc i bQ s σ H E I hf st hg;subst hP hw hK;obtain⟨f0,f1,f2,f3,f4,f5⟩:=hf it (by simp);exact wpAny_pyNext_range_end (I.ok.hd hc) st (by have:n<=i:=hg;lia) λh' eb=>⟨rfl,I.turned (t':=s.toks) (λb o hb e=>eb b o hb e) f0 f1 f3 f4 f5⟩
 self:=λ_ _ _ _ _ st h=>wpAny_pyIter_rangeiter st h
section
variable {X:Cx}{tg:Expr}
def zo6 (K:X5)(tl:TE):TI:=fun d H R=>tl d H λx b=>∃a,x=.ref a/\(∃c,SqL K b a c)/\R (Itl K a) b
def zR {l:Expr}{tl:TE}(i:PE X l tl):PI X tg l (zo6 X.K tl):=by
 intro f s r H R I h;refine thn (i f s r H _ I h) λv s1 ⟨x,d,c,n,m⟩=>?_;obtain⟨a,e,⟨y,j⟩,q⟩:=m;subst e;cases n;obtain⟨k,w,p,u⟩:=c.list j;refine SA p.isList ?_;refine⟨s1.heap.objs.size,[s1.heap.objs.size],_,_,d,rfl,c.kept (t':=s1.toks) λb o e=>X4 _ e,zjS a _,⟨_,Xl _ rfl,rfl,rfl⟩,λb g=>?_,q⟩;have e:b=s1.heap.objs.size:=by simpa using g
 subst e;exact c.fpOk (XX _) (c.hok.fresh (XX _))
def zgf {d:List (Addr×Obj)}{f:St}{H:Hp}{s:X8}{R:It->Hp->Prop}{E:Y1->X8->Prop}{lo a:Int}{t u v:Tok}{tk:Nat}(I:Inv X d f H s)(h1:-(2^62)<=lo)(h2:lo<2^62)(i:-(2^62)<=a)(j:a<2^62)
  (q:R (Itr lo (a-lo).toNat) H):Xu (Xw X.prog X.w) X.A (Of (.ref s.heap.objs.size)) (PIE X d f tg R) E { s with heap:=s.heap.push { cls:=.type "range",data:=.fields #[.int lo t,.int a u,.int 1 v] },toks:=tk }:=by
 refine wpAny_pyIter_range (IsRange.new ..) (small_one h1 h2 i j) ?_;have c:Inv X d f H { s with heap:=s.heap.push { cls:=.type "range",data:=.fields #[.int lo t,.int a u,.int 1 v] },toks:=tk }:=I.kept λb o e=>X4 _ e;refine dB (s.heap.push { cls:=.type "range",data:=.fields #[.int lo t,.int a u,.int 1 v] }).objs.size [(s.heap.push { cls:=.type "range",data:=.fields #[.int lo t,.int a u,.int 1 v] }).objs.size] (dG (dX H rfl (c.kept (t':=tk) λb o e=>X4 _ e) (zhH _ lo (a-lo).toNat) ?_ (λb k=>?_) q))
 .have g:lo+((0:Nat):Int)*1=lo:=by simp
  have h:(((a-lo).toNat:Nat):Int)-((0:Nat):Int)=Builtin.Range.rangeSize lo a 1:=by rw[rangeSize_one];split<;>lia
  show IsRangeIter _ _ (lo+((0:Nat):Int)*1) ((((a-lo).toNat:Nat):Int)-((0:Nat):Int)) 1;rw[g,h];exact Xl _ rfl
 .have e:b=(s.heap.push { cls:=.type "range",data:=.fields #[.int lo t,.int a u,.int 1 v] }).objs.size:=by simpa using k
  subst e;exact c.fpOk (XX _) (c.hok.fresh (XX _))
def zrw (b:TA):TI:=fun d H R=>b d H λc a=>∃j:Int,c=[.int j]/\-(2^62)<=j/\j<2^62/\R (Itr 0 j.toNat) a
def zrx (b:TA):TI:=fun d H R=>b d H λc a=>∃i j:Int,c=[.int i,.int j]/\(-(2^62)<=i/\i<2^62/\-(2^62)<=j/\j<2^62)/\R (Itr i (j-i).toNat) a
def yD {a:Expr}{c:TA}{p pos:Pos}(i:Gl X "range")(k:X.mg "range"=none)(g:PA X [a] c)(l:W4 [a] X.env=[(false,eval a X.env)]:=by rfl):PI X tg (.Call (.Name "range" p) [a] [] pos) (zrw c):=by
 intro f s u H R I h;refine Call_ (YZ I i k boot_range (VJ (thn (g pos f s u H _ I h) λw s1 ⟨x,v,d,n,b⟩=>?_) l rfl));obtain⟨j,e,b,m,q⟩:=b;subst e;cases n with
 | cons r o =>
  cases o;obtain⟨t,rfl⟩:=r;exact call_range_1 (zgf d (by lia) (by lia) b m (by simpa using q))
def zer {a b:Expr}{g:TA}{p pos:Pos}(n:Gl X "range")(o:X.mg "range"=none)(m:PA X [a,b] g)(u:W4 [a,b] X.env=[(false,eval a X.env),(false,eval b X.env)]:=by rfl)(c:W4 [b] X.env=[(false,eval b X.env)]:=by rfl) :
  PI X tg (.Call (.Name "range" p) [a,b] [] pos) (zrx g):=by
 intro l s A H R I h;refine Call_ (YZ I n o boot_range (VJ (thn (m pos l s A H _ I h) λE s1 ⟨G,B,k,z,d⟩=>?_) (by rw[u,c]) (by rw[c];rfl)));obtain⟨i,j,e,⟨d,v,w,x⟩,q⟩:=d;subst e;cases z with
 | cons r f =>
  cases f with
  | cons y f =>
   cases f;obtain⟨t,rfl⟩:=r;obtain⟨D,rfl⟩:=y;exact call_range_2 (zgf k d v w x q)
def zry (k:TI)(g:TG)(j:TS):TS:=λD a H=>k a H λJ f=>∃W:Nat->Nat->St->Hp->Prop,(∃m,W 0 m a f)/\∀i m a H,W i m a H ->
 (J.stop i H/\D.nx a H)\/(J.go i H/\∃N:St->Hp->Prop,(∀ c b,N c b->∃e,e<m/\W (i+1) e c b)/\∀x b,J.yld i H x b->g x a b fun d h=>j { D with nx:=N,ct:=N,bk:=D.nx } d h)
def Y4 (fp:List Addr)(h:Heap):List (Addr×Obj):=fp.filterMap λb=>(h.get? b).map λo=>(b,o)
def jx {fp:List Addr}{h:Heap}{b:Addr}{o:Obj}(a:b∈fp)(e:h.get? b=some o):(b,o)∈Y4 fp h:=Vd.mpr ⟨b,a,by rw[e];rfl⟩
def zjT {fp:List Addr}{h:Heap}{p:Addr×Obj}(d:p∈Y4 fp h):p.1∈fp/\h.get? p.1=some p.2:=by
 obtain⟨b,c,e⟩:=Vd.mp d;cases q:h.get? b with
 | none=>rw[q]at e;cases e
 | some o =>
  rw[q]at e;have a:(b,o)=p:=Option.some.inj e;subst a;exact⟨c,q⟩
def Inv.pinned {a:List (Addr×Obj)}{g:St}{H:Hp}{s:X8}{fp:List Addr}(I:Inv X a g H s)(k:∀b∈fp,Yq X a H b)(l:∀b∈fp,∃o,s.heap.get? b=some o/\∀v,o.data ≠ .cell v):Inv X (a++Y4 fp s.heap) g H s :=
 I.pins_of λp m=>(XO.mp m).elim (λz=>I.pin p (XD _ z)) λz=>by
  obtain⟨f,e⟩:=zjT z;obtain⟨h,i,j,_⟩:=k p.1 f;obtain⟨o,c,d⟩:=l p.1 f;rw[e]at c;cases c;exact⟨e,h,i,j,d⟩
def Inv.unpinned {a d:List (Addr×Obj)}{b:St}{H:Hp}{s:X8}(I:Inv X (a++d) b H s):Inv X a b H s:=I.pins_of λp c=>I.pin p (XD _ (W2 _ c))
def qS {l:Expr}{B:List Stmt}{wi:TI}{g:TG}{tb:TS}{pos:Pos}(Q:Oy (Xw X.prog X.w) X.A X.env X.xe)(hc:X.calm=true)(hi:PI X tg l wi)(hg:PG X tg g)(k:PSs X B tb)
  (hs:∀x,We l X.env x=pure x:=by intro _;rfl):PS X (.For tg l B [] pos) (zry wi g tb):=by
 intro G s σ H D I h;refine wpAny_For (thn (hi G s σ H _ I h) λv s1 h1=>thn h1 λah s2 h2=>?_) hs;obtain⟨it,M,tn,J,H2,e,I2,T,af,f2,W,⟨m0,w0⟩,ab⟩:=h2;subst e;have p:∀{z:Hp},(∀b∈M,z b=none)->∀b∈M,Yq X G z b:=λhn b k=>⟨hn b k,(f2 b k).2⟩;refine Ox (λn s'=>∃i q z,Inv X G q z s'/\tn i s'.heap/\(∀b∈M,z b=none)/\W i n q z) ?_ m0 ⟨0,σ,H2,I2,af,λb k=>(f2 b k).1,w0⟩;refine λn s3=>e9 λi y H3 I3 Y O w3=>?_;rcases ab i n y H3 w3 with ⟨aa,qn⟩ | ⟨go,N,hN,step⟩
 .refine Wg Q (thn (T.done X rfl rfl rfl hc i G s3 y H3 X.xe I3 (p O) Y aa) λr s4 ⟨hr,I4⟩=>?_);subst hr;exact VF ⟨y,H3,I4,qn⟩
 .refine Wg Q (thn (T.item X rfl rfl rfl hc i G s3 y H3 X.xe I3 (p O) Y go) λr s4 ⟨u,hr,h4⟩=>?_);subst hr;refine Wg Q (thn h4 λ_ s5 ⟨x,H5,I5,r5,y5,L,ae⟩=>?_);have ac:=I5.pinned (p ae) (T.obj _ _ L);refine Wg Q (thn (hg _ s5 y H5 x u _ ac r5 (step x H5 y5)) λ_ s6 ⟨ag,H6,I6,q6⟩=>?_);refine Wg Q (thn (k _ s6 ag H6 _ I6 q6) λf s7 E=>?_);have R4:∀{a:St} {c:Hp},Inv X (G++Y4 M s5.heap) a c s7->N a c->∃m,m<n/\∃i q z,Inv X G q z s7/\tn i s7.heap/\(∀b∈M,z b=none)/\W i m q z:=λ{a c} j U=>by
   obtain⟨m',hm,w7⟩:=hN a c U;refine⟨m',hm,i+1,a,c,j.unpinned,T.keep _ _ _ L λb k o e=>(j.pin (b,o) (XD _ (XD _ (jx k e)))).1,λb k=>?_,w7⟩;obtain⟨o,e,d⟩:=T.obj _ _ L b k;exact(j.pin (b,o) (XD _ (XD _ (jx k e)))).2.1
  cases f with
  | next=>obtain⟨a,c,j,U⟩:=E;exact R4 j U
  | cont=>obtain⟨a,c,j,U⟩:=E;exact R4 j U
  | brk=>obtain⟨a,c,j,E⟩:=E;exact⟨a,c,j.unpinned,E⟩
  | ret v=>obtain⟨x7,a,c,j,r7,E⟩:=E;exact⟨x7,a,c,j.unpinned,r7,E⟩
end
def yN {K:X5}{a:Addr}{xs:AF}{g:TG}{l:TS}{D:Ends}{b:St}{H:Hp}(Pv:Nat->St->Hp->Prop)(h0:Pv 0 b H)(r:∀i b H,i<=xs.length->Pv i b H->SqL K H a xs)
  (s:∀i x b H,xs[i]?=some x->Pv i b H->g x b H fun f j=>l { D with nx:=Pv (i+1),ct:=Pv (i+1),bk:=D.nx } f j) (n:∀ b H,Pv xs.length b H->D.nx b H) :
  ∃W:Nat->Nat->St->Hp->Prop,(∃m,W 0 m b H)/\∀i m b H,W i m b H ->
   ((Itl K a).stop i H/\D.nx b H)\/((Itl K a).go i H/\∃N:St->Hp->Prop,(∀ d c,N d c->∃k,k<m/\W (i+1) k d c)/\∀x c,(Itl K a).yld i H x c->g x b c fun f j=>l { D with nx:=N,ct:=N,bk:=D.nx } f j):=by
 refine⟨λi m b H=>m=xs.length-i/\i<=xs.length/\Pv i b H,⟨xs.length,by simp,WZ _,h0⟩,?_⟩;rintro i m b H ⟨rfl,o,p⟩;have q:=r i b H o p;by_cases h:i<xs.length
 .refine .inr ⟨⟨xs,xs[i],q,by simp[h]⟩,Pv (i+1),fun d c u=>⟨xs.length-(i+1),by lia,rfl,h,u⟩,λx c y=>?_⟩;obtain⟨e,y⟩:=y;subst e;exact s i x b _ (y xs q) p
 .have e:i=xs.length:=by lia
  subst e;exact .inl ⟨⟨xs,q,XX _⟩,n b H p⟩
def jC {lo:Int}{n:Nat}{g:TG}{k:TS}{D:Ends}{a:St}{H:Hp}(Pv:Nat->St->Hp->Prop)(h0:Pv 0 a H)
  (o:∀i a H,i<n->Pv i a H->g (.int (lo+i)) a H fun f h=>k { D with nx:=Pv (i+1),ct:=Pv (i+1),bk:=D.nx } f h) (l:∀ a H,Pv n a H->D.nx a H) :
  ∃W:Nat->Nat->St->Hp->Prop,(∃m,W 0 m a H)/\∀i m a H,W i m a H ->
   ((Itr lo n).stop i H/\D.nx a H)\/((Itr lo n).go i H/\∃N:St->Hp->Prop,(∀ d b,N d b->∃j,j<m/\W (i+1) j d b)/\∀x b,(Itr lo n).yld i H x b->g x a b fun f h=>k { D with nx:=N,ct:=N,bk:=D.nx } f h):=by
 refine⟨λi m a H=>m=n-i/\i<=n/\Pv i a H,⟨n,by simp,WZ _,h0⟩,?_⟩;rintro i m a H ⟨rfl,r,p⟩;by_cases c:i<n
 .refine .inr ⟨c,Pv (i+1),fun d b q=>⟨n-(i+1),by lia,rfl,c,q⟩,λx b y=>?_⟩;obtain⟨e,y⟩:=y;subst e y;exact o i a _ c p
 .have e:i=n:=by lia
  subst e;exact .inl ⟨XX _,l a H p⟩
abbrev R2:=V->V->Hp->VK->Prop
def OpR (X:Cx)(f:Y1->Y1->Sem Y1)(r:R2):Prop :=
 ∀(a:List (Addr×Obj)) (s:X8) (b:St) (H:Hp) (x y:V) (v u:Y1) (Q:VK),Inv X a b H s->RelV x v->RelV y u->r x y H Q ->
  Xu (Xw X.prog X.w) X.A (f v u) (EP X a b Q) X.xe s
def UnR (X:Cx)(f:Y1->Sem Y1)(r:V->Hp->VK->Prop):Prop :=
 ∀(a:List (Addr×Obj)) (s:X8) (b:St) (H:Hp) (x:V) (v:Y1) (Q:VK),Inv X a b H s->RelV x v->r x H Q ->
  Xu (Xw X.prog X.w) X.A (f v) (EP X a b Q) X.xe s
def j3 (X:Cx)(f:Y1)(r:AF->Hp->VK->Prop):Prop :=
 ∀(a:List (Addr×Obj)) (s:X8) (d:St) (H:Hp) (c:AF) (b:List Y1) (Q:VK),Inv X a d H s->Vals c b->r c H Q ->
  Xu (Xw X.prog X.w) X.A (call f b) (EP X a d Q) X.xe s
def zsF (X:Cx)(r:V->Hp->(Bool->Hp->Prop)->Prop):Prop :=
 ∀(a:List (Addr×Obj)) (s:X8) (b:St) (H:Hp) (x:V) (v:Y1) (Q:Bool->Hp->Prop),Inv X a b H s->RelV x v->r x H Q ->
  Xu (Xw X.prog X.w) X.A (truthy v) (TP X a b Q) X.xe s
def tOp (r:R2)(d e:TE):TE:=fun a H Q=>d a H λx b=>e a b λy c=>r x y c Q
def tUn (r:V->Hp->VK->Prop)(b:TE):TE:=fun c H Q=>b c H λx a=>r x a Q
def rI (C:Int->Int->Prop)(g:Int->Int->V):R2:=λx y H Q=>∃i j,x=.int i/\y=.int j/\C i j/\Q (g i j) H
def rI0 (g:Int->Int->V):R2:=λx y H Q=>∃i j,x=.int i/\y=.int j/\Q (g i j) H
def rU (g:Int->V):V->Hp->VK->Prop:=λx H Q=>∃i,x=.int i/\Q (g i) H
section
variable {X:Cx}{a b c:Expr}{ta tb tc:TE}{pos:Pos}
def zpP (n:PE X a ta)(o:PE X b tb){i:List (Addr×Obj)}{s:X8}{d:St}{H:Hp}{R:V->V->Hp->Prop}(I:Inv X i d H s)
  (h:ta d H λx k=>tb d k λy c=>R x y c) {Q:Y1->X8->Prop} {f:Y1->Y1->Sem Y1}
  (p:∀v u j x y c,Inv X i d c j->RelV x v->RelV y u->R x y c->Xu (Xw X.prog X.w) X.A (f v u) Q X.xe j) :
  Xu (Xw X.prog X.w) X.A (eval a X.env) (λv e=>Xu (Xw X.prog X.w) X.A (eval b X.env) (λu g=>Xu (Xw X.prog X.w) X.A (f v u) Q X.xe g) X.xe e) X.xe s:=by
 refine thn (n i s d H _ I h) λv s1 ⟨x,k,l,z,q⟩=>?_;refine thn (o i s1 d k _ l q) λu j ⟨y,c,m,B,r⟩=>?_;exact p v u j x y c m z B r
def zC {op:Operator}{r:R2}(i:OpR X (Ul op) r)(f:PE X a ta)(g:PE X b tb):PE X (.BinOp a op b pos) (tOp r ta tb):=by
 intro e s m H Q I h;exact wpAny_BinOp (zpP f g I h λv u l x y c d j k q=>i e l m c x y v u Q d j k q)
def zk8 {op:UnaryOp}{r:V->Hp->VK->Prop}(g:UnR X (unaryOp op) r)(f:PE X a ta):PE X (.UnaryOp op a pos) (tUn r ta):=by
 intro b s c H Q I h;exact UnaryOp_ (thn (f b s c H _ I h) λv s1 ⟨x,d,e,j,i⟩=>g b s1 c d x v Q e j i)
def opI {f:Y1->Y1->Sem Y1}{C:Int->Int->Prop}{g:Int->Int->Int}
  (rule:∀(i j:Int) (t u:Tok) (s:X8) (Q:Y1->X8->Prop) (E:Y1->X8->Prop),C i j->Q (.int (g i j) s.toks) { s with toks:=s.toks+1 }->Xu (Xw X.prog X.w) X.A (f (.int i t) (.int j u)) Q E s) :
  OpR X f (rI C λi j=>.int (g i j)):=by
 intro e s k H x y v u Q I b c h;obtain⟨i,j,rfl,rfl,a,q⟩:=h;obtain⟨t,rfl⟩:=b;obtain⟨d,rfl⟩:=c;exact rule i j t d s _ _ a ⟨.int (g i j),H,I.tok _,⟨_,rfl⟩,q⟩
def zrz {f:Y1->Y1->Sem Y1}{g:Int->Int->Int}
  (rule:∀(i j:Int) (t u:Tok) (s:X8) (Q:Y1->X8->Prop) (E:Y1->X8->Prop),Q (.int (g i j) s.toks) { s with toks:=s.toks+1 }->Xu (Xw X.prog X.w) X.A (f (.int i t) (.int j u)) Q E s) :
  OpR X f (rI0 λi j=>.int (g i j)):=by
 intro d s e H x y v u Q I a b h;obtain⟨i,j,rfl,rfl,q⟩:=h;obtain⟨t,rfl⟩:=a;obtain⟨c,rfl⟩:=b;exact rule i j t c s _ _ ⟨.int (g i j),H,I.tok _,⟨_,rfl⟩,q⟩
def zpQ {f:Y1->Y1->Sem Y1}{g:Int->Int->Bool}
  (rule:∀(i j:Int) (t u:Tok) (s:X8) (Q:Y1->X8->Prop) (E:Y1->X8->Prop),Q (.bool (g i j)) s->Xu (Xw X.prog X.w) X.A (f (.int i t) (.int j u)) Q E s) :
  OpR X f (rI0 λi j=>.bl (g i j)):=by
 intro d s e H x y v u Q I a b h;obtain⟨i,j,rfl,rfl,q⟩:=h;obtain⟨t,rfl⟩:=a;obtain⟨c,rfl⟩:=b;exact rule i j t c s _ _ ⟨.bl (g i j),H,I,rfl,q⟩
def zpR:OpR X (Ul .Add) (rI0 λi j=>.int (i+j)):=zrz λ_ _ _ _ _ _ _ q=>add_int q
def zpS:OpR X (Ul .Sub) (rI0 λi j=>.int (i-j)):=zrz λ_ _ _ _ _ _ _ q=>sub_int q
def zpT:OpR X (Ul .Mod) (rI (λ_ j=>0<j) λi j=>.int (i%j)):=opI λi j _ _ _ _ _ a q=>by
 have h1:(0:Int)<j:=a;exact mod_int' (by lia) (by rw[Int.fmod_eq_emod_of_nonneg i (by lia)];exact q)
def unI {f:Y1->Sem Y1}{g:Int->Int}
  (rule:∀(i:Int) (t:Tok) (s:X8) (Q:Y1->X8->Prop) (E:Y1->X8->Prop),Q (.int (g i) s.toks) { s with toks:=s.toks+1 }->Xu (Xw X.prog X.w) X.A (f (.int i t)) Q E s) :
  UnR X f (rU λi=>.int (g i)):=by
 intro b s c H x v Q I a h;obtain⟨i,rfl,q⟩:=h;obtain⟨t,rfl⟩:=a;exact rule i t s _ _ ⟨.int (g i),H,I.tok _,⟨_,rfl⟩,q⟩
def zhI:UnR X (unaryOp .USub) (rU λi=>.int (-i)):=unI λ_ _ _ _ _ q=>neg_int q
def zrA:V->V->Bool
 | .non,.non=>true | .non,.int _=>true | .int _,.non=>true | .non,.bl _=>true | .bl _,.non=>true | .non,.str _=>true | .str _,.non=>true
 | .int _,.int _=>true | .bl _,.bl _=>true | .str _,.str _=>true | .byt _,.byt _=>true
 | .int _,.str _=>true | .str _,.int _=>true | .bl _,.str _=>true | .str _,.bl _=>true
 | _,_=>false
def rEq:R2:=λx y H Q=>zrA x y=true/\Q (.bl (decide (x=y))) H
def rNe:R2:=λx y H Q=>zrA x y=true/\Q (.bl (!decide (x=y))) H
def zfj {i j:Int}:decide (V.int i=V.int j)=(i==j):=by
 rw[WJ];simp
def zk9 {i j:Bool}:decide (V.bl i=V.bl j)=(i==j):=by
 rw[WJ];simp
def ziZ {i j:Str}:decide (V.str i=V.str j)=(i==j):=by
 rw[WJ];simp
def zi0 {i j:Array UInt8}:decide (V.byt i=V.byt j)=(i.toList==j.toList):=by
 rw[WJ];cases i;cases j;simp
def qt {a:List (Addr×Obj)}{c:St}{H:Hp}{s:X8}{Q:VK}{k b:Bool}(I:Inv X a c H s)(q:Q (.bl k) H)(e:k=b):EP X a c Q (.bool b) s:=by
 subst e;exact⟨.bl k,H,I,rfl,q⟩
def ZF:OpR X (VO .Eq) rEq:=by
 intro e s f H x y v u Q I d a h;obtain⟨c,q⟩:=h;cases x with
 | non =>
  cases d;cases y with
  | non=>cases a;exact PySem.EqNone.eq_none_none (qt I q (by simp))
  | bl j=>cases a;exact PySem.EqNone.eq_none_bool (qt I q (by simp))
  | int j=>obtain⟨b,rfl⟩:=a;exact PySem.EqNone.eq_none_int (qt I q (by simp))
  | str j=>obtain⟨b,rfl⟩:=a;exact PySem.EqNone.eq_none_str (qt I q (by simp))
  | _=>exact absurd (show false=true from c) XS
 | bl i =>
  cases d;cases y with
  | non=>cases a;exact PySem.EqNone.eq_bool_none (qt I q (by simp))
  | bl j=>cases a;exact eq_bool (qt I q zk9)
  | str j=>obtain⟨b,rfl⟩:=a;exact PySem.EqMixed.eq_bool_str (qt I q (by simp))
  | _=>exact absurd (show false=true from c) XS
 | int i =>
  obtain⟨t,rfl⟩:=d;cases y with
  | non=>cases a;exact PySem.EqNone.eq_int_none (qt I q (by simp))
  | int j=>obtain⟨b,rfl⟩:=a;exact eq_int (qt I q zfj)
  | str j=>obtain⟨b,rfl⟩:=a;exact PySem.EqMixed.eq_int_str (qt I q (by simp))
  | _=>exact absurd (show false=true from c) XS
 | str i =>
  obtain⟨t,rfl⟩:=d;cases y with
  | non=>cases a;exact PySem.EqNone.eq_str_none (qt I q (by simp))
  | bl j=>cases a;exact PySem.EqMixed.eq_str_bool (qt I q (by simp))
  | int j=>obtain⟨b,rfl⟩:=a;exact PySem.EqMixed.eq_str_int (qt I q (by simp))
  | str j=>obtain⟨b,rfl⟩:=a;exact eq_str (qt I q ziZ)
  | _=>exact absurd (show false=true from c) XS
 | byt i =>
  obtain⟨t,rfl⟩:=d;cases y with
  | byt j=>obtain⟨b,rfl⟩:=a;exact PySem.W.eq_bytes (qt I q zi0)
  | _=>exact absurd (show false=true from c) XS
 | _=>cases y<;>exact absurd (show false=true from c) XS
def zcL:OpR X (VO .NotEq) rNe:=by
 intro e s f H x y v u Q I d a h;obtain⟨c,q⟩:=h;cases x with
 | non =>
  cases d;cases y with
  | non=>cases a;exact PySem.EqNone.ne_none_none (qt I q (by simp))
  | bl j=>cases a;exact PySem.EqNone.ne_none_bool (qt I q (by simp))
  | int j=>obtain⟨b,rfl⟩:=a;exact PySem.EqNone.ne_none_int (qt I q (by simp))
  | str j=>obtain⟨b,rfl⟩:=a;exact PySem.EqNone.ne_none_str (qt I q (by simp))
  | _=>exact absurd (show false=true from c) XS
 | bl i =>
  cases d;cases y with
  | non=>cases a;exact PySem.EqNone.ne_bool_none (qt I q (by simp))
  | bl j=>cases a;exact ne_bool (qt I q (congrArg not zk9))
  | str j=>obtain⟨b,rfl⟩:=a;exact PySem.EqMixed.ne_bool_str (qt I q (by simp))
  | _=>exact absurd (show false=true from c) XS
 | int i =>
  obtain⟨t,rfl⟩:=d;cases y with
  | non=>cases a;exact PySem.EqNone.ne_int_none (qt I q (by simp))
  | int j=>obtain⟨b,rfl⟩:=a;exact ne_int (qt I q (congrArg not zfj))
  | str j=>obtain⟨b,rfl⟩:=a;exact PySem.EqMixed.ne_int_str (qt I q (by simp))
  | _=>exact absurd (show false=true from c) XS
 | str i =>
  obtain⟨t,rfl⟩:=d;cases y with
  | non=>cases a;exact PySem.EqNone.ne_str_none (qt I q (by simp))
  | bl j=>cases a;exact PySem.EqMixed.ne_str_bool (qt I q (by simp))
  | int j=>obtain⟨b,rfl⟩:=a;exact PySem.EqMixed.ne_str_int (qt I q (by simp))
  | str j=>obtain⟨b,rfl⟩:=a;exact ne_str (qt I q (congrArg not ziZ))
  | _=>exact absurd (show false=true from c) XS
 | byt i =>
  obtain⟨t,rfl⟩:=d;cases y with
  | byt j=>obtain⟨b,rfl⟩:=a;exact PySem.W.ne_bytes (qt I q (congrArg not zi0))
  | _=>exact absurd (show false=true from c) XS
 | _=>cases y<;>exact absurd (show false=true from c) XS
def zrB:OpR X (VO .Lt) (rI0 λi j=>.bl (decide (i<j))):=zpQ λ_ _ _ _ _ _ _ q=>lt_int q
def zrC:OpR X (VO .LtE) (rI0 λi j=>.bl (decide (i<=j))):=zpQ λ_ _ _ _ _ _ _ q=>le_int q
def zrD:OpR X (VO .Gt) (rI0 λi j=>.bl (decide (j<i))):=zpQ λ_ _ _ _ _ _ _ q=>gt_int q
def zjU:OpR X (VO .In) (λx y H Q=>∃i j,x=.str i/\y=.str j/\Q (.bl (!(Ub j i 0 j.length 1).isEmpty)) H):=by
 intro c s e H x y v u Q I a b h;obtain⟨i,j,rfl,rfl,q⟩:=h;obtain⟨t,rfl⟩:=a;obtain⟨d,rfl⟩:=b;exact in_str (qt I q rfl)
def zfk:OpR X (VO .Is) (λx y H Q=>y=.non/\Q (.bl (decide (x=.non))) H):=by
 intro c s d H x y v u Q I a b h;obtain⟨rfl,q⟩:=h;cases b;refine is_none_gen (qt I q ?_);cases x<;>first
  | (cases a;rfl)
  | (obtain⟨t,rfl⟩:=a;rfl)
def znA:OpR X (VO .IsNot) (λx y H Q=>y=.non/\Q (.bl (!decide (x=.non))) H):=by
 intro c s d H x y v u Q I a b h;obtain⟨rfl,q⟩:=h;cases b;refine isnot_none_gen (qt I q ?_);cases x<;>first
  | (cases a;rfl)
  | (obtain⟨t,rfl⟩:=a;rfl)
def zU (b:Expr){op:CmpOp}(h:op ≠ .In:=by decide)(h2:op ≠ .NotIn:=by decide):Qr op b=false:=by
 have a:(op==CmpOp.In)=false:=by cases op<;>first | rfl | exact absurd rfl h
 have c:(op==CmpOp.NotIn)=false:=by cases op<;>first | rfl | exact absurd rfl h2
 cases b<;>simp[Qr,a,c]
def zaC {op:CmpOp}{r:R2}(j:OpR X (VO op) r)(f:PE X a ta)(g:PE X b tb)(i:Qr op b=false):PE X (.Compare a [op] [b] pos) (tOp r ta tb):=by
 intro e s n H Q I h;exact wpAny_Compare1 (zpP f g I h λv u m x y c d k l q=>j e m n c x y v u Q d k l q) i
def zrE (t:TE):TT:=fun b H Q=>t b H λx a=>∃k,x=.bl k/\Q k a
def zpU (r f:R2)(ta tb tc:TE):TE:=fun a H Q=>ta a H λx c=>tb a c λy d=>r x y d λz b=>∃k,z=.bl k /\
 (if k=true then tc a b λg e=>f y g e Q else Q (.bl false) b)
def Y5 {op f:CmpOp}{r o:R2}(ho:OpR X (VO op) r)(j:OpR X (VO f) o)(N:PE X a ta)(O:PE X b tb)(U:PE X c tc)
  (Y:lastMarks [op,f] [b,c]=false:=by with_unfolding_all rfl):PT X (.Compare a [op,f] [b,c] pos) (zrE (zpU r o ta tb tc)):=by
 intro g s i H Q I h;refine isTrue_chain (thn (N g s i H _ I h) λv s1 ⟨x,q,D,r1,q1⟩=>test_link (thn (O g s1 i q _ D q1) λu s2 ⟨y,w,E,p,q2⟩ =>
  thn (ho g s2 i w x y v u _ E r1 p q2) λd s3 ⟨z,l,m,r3,k,e,n⟩=>?_)) Y
 subst e;cases r3;refine U3 ?_;cases k with
 | false =>
  obtain⟨k',L,q'⟩:=n;cases L;exact ite_ff ⟨l,m,q'⟩
 | true =>
  refine ite_tt (test_last (thn (U g s3 i l _ m n) λw' s4 ⟨z',A,G,r4,q4⟩=>thn (j g s4 i A y z' u w' _ G p r4 q4) λd' s5 ⟨z2,B,J,r5,k2,M,q5⟩=>?_));subst M;cases r5;exact U3 ⟨B,J,q5⟩
def zpV (K:X5)(x:V)(H:Hp)(k:Bool):Prop :=
 match x with
 | .non=>k=false
 | .bl b=>k=b
 | .int i=>k=(i != 0)
 | .str y=>y.length<=Xz/\k=((y.length:Int) != 0)
 | .byt y=>y.size<=Xz/\k=((y.size:Int) != 0)
 | .ref p=>(∃c,SqL K H p c/\k=!c.isEmpty)\/(∃c,SqT K H p c/\k=!c.isEmpty)\/∃a,H p=some (.dK a)/\k=!a.isEmpty
 | _=>False
def zhJ {b:Type}{a:List (b × V)}{vs:List (b × Y1)}(r:KV a vs):(!vs.isEmpty)=!a.isEmpty:=by
 cases r<;>rfl
def zcM {xs:AF}{a:List Y1}(r:Vals xs a):(!a.toArray.isEmpty)=!xs.isEmpty:=by
 cases r<;>simp
def Y6:(Xz:Nat)<2^63:=by rw[SO];decide
def zpW:zsF X (λx H Q=>∃k,zpV X.K x H k/\Q k H):=by
 intro B s G H x v Q I g h;obtain⟨k,e,q⟩:=h;have D:=Y6;have E:Xz=16777216:=SO;cases x with
 | non =>
  cases g;have a:k=false:=e;subst a;exact truthy_none ⟨H,I,q⟩
 | bl b =>
  cases g;have a:k=b:=e;subst a;exact U3 ⟨H,I,q⟩
 | int i =>
  obtain⟨t,rfl⟩:=g;have a:k=(i != 0):=e;subst a;exact PySem.P.truthy_int ⟨H,I,q⟩
 | str y =>
  obtain⟨t,rfl⟩:=g;obtain⟨A,a⟩:y.length<=Xz/\k=((y.length:Int) != 0):=e;subst a;exact PySem.P.truthy_str (by lia) ⟨H,I.tok _,q⟩
 | byt y =>
  obtain⟨t,rfl⟩:=g;obtain⟨A,a⟩:y.size<=Xz/\k=((y.size:Int) != 0):=e;subst a;exact PySem.W.truthy_bytes (by lia) ⟨H,I.tok _,q⟩
 | ref p =>
  cases g;have a:(∃f,SqL X.K H p f/\k=!f.isEmpty)\/(∃f,SqT X.K H p f/\k=!f.isEmpty)\/∃c,H p=some (.dK c)/\k=!c.isEmpty:=e;rcases a with ⟨f,j,a⟩ | ⟨f,j,a⟩ | ⟨c,j,a⟩
  .subst a;obtain⟨n,r,o,u⟩:=I.list j;have d:=r.length;exact wpAny_truthy_list o.isList (by simp only[XB];lia) ⟨H,I.tok _,by rw[zcM r];exact q⟩
  .subst a;obtain⟨n,r,o,u⟩:=I.tuple j;have d:=r.length;exact truthy_tuple o (by simp only[XB];lia) ⟨H,I.tok _,by rw[zcM r];exact q⟩
  .subst a;obtain⟨u,z,l,r,m⟩:c.length<=Xz/\(p==Vh)=false/\∃l,KV c l/\s.heap.DictOf (qa X.prog X.w) p l:=I.hok p _ j;have d:c.length=l.length:=Paired.length r;exact wpAny_truthy_dict z m (by lia) ⟨H,I.tok _,by rw[zhJ r];exact q⟩
 | _=>exact(show False from e).elim
def zcN (g:PE X a ta)(he:∀whole,isTrue a X.env whole=(do let v <- whole;standAt a.pos;holding [v] (truthy v))) :
  PT X a (fun b H Q=>ta b H λx c=>∃k,zpV X.K x c k/\Q k c):=by
 intro d s b H Q I h;exact isTrue_plain (thn (g d s b H _ I h) λv s1 ⟨x,e,f,j,i⟩=>zpW d s1 b e x v Q f j i) (he _)
def Yr:OpR X (Ul .Add) (λx y H Q=>∃i j,x=.str i/\y=.str j/\i.length+j.length<=Xz/\Q (.str (i++j)) H):=by
 intro e s g H x y v u Q I b c h;obtain⟨i,j,rfl,rfl,a,q⟩:=h;obtain⟨t,rfl⟩:=b;obtain⟨d,rfl⟩:=c;exact add_str (λd f=>⟨.str (i++j),H,I.tok _,⟨_,rfl⟩,q⟩) a
def vals1 {x:V}{a:List Y1}(r:Vals [x] a):∃u,a=[u]/\RelV x u:=by
 cases r with
 | cons b c=>cases c;exact⟨_,rfl,b⟩
def vals2 {x y:V}{a:List Y1}(r:Vals [x,y] a):∃u b,a=[u,b]/\RelV x u/\RelV y b:=by
 cases r with
 | cons c d =>
  cases d with
  | cons e f=>cases f;exact⟨_,_,rfl,c,e⟩
def zes (b:X.calm=true):j3 X (.builtin "max") (λxs H Q=>∃i j,xs=[.int i,.int j]/\Q (.int (if j>i then j else i)) H):=by
 intro c s m H xs g Q I r h;obtain⟨i,j,rfl,q⟩:=h;obtain⟨u,l,rfl,⟨t,rfl⟩,⟨e,rfl⟩⟩:=vals2 r;refine max_two_ints (I.ok.hd b) λd f k=>⟨_,H,I.kept k,?_,q⟩;by_cases a:j>i
 .rw[bw a,bw a];exact⟨_,rfl⟩
 .rw[bq a,bq a];exact⟨_,rfl⟩
def zbo (b:X.calm=true):j3 X (.builtin "min") (λxs H Q=>∃i j,xs=[.int i,.int j]/\Q (.int (if j<i then j else i)) H):=by
 intro c s m H xs g Q I r h;obtain⟨i,j,rfl,q⟩:=h;obtain⟨u,l,rfl,⟨t,rfl⟩,⟨e,rfl⟩⟩:=vals2 r;refine min_two_ints (I.ok.hd b) λd f k=>⟨_,H,I.kept k,?_,q⟩;by_cases a:j<i
 .rw[bw a,bw a];exact⟨_,rfl⟩
 .rw[bq a,bq a];exact⟨_,rfl⟩
def zfl:j3 X (.type "str") (λxs H Q=>∃i,xs=[.int i]/\i.natAbs.log2<1920/\Q (.str (toString i)) H):=by
 intro b s d H xs c Q I r h;obtain⟨i,rfl,a,q⟩:=h;obtain⟨u,rfl,t,rfl⟩:=vals1 r;exact PySem.P.str_of_int a ⟨.str _,H,I.tok _,⟨_,rfl⟩,q⟩
end
structure zpX (h:Heap)(x dx C:Addr)(mA:Str->Option Y1):Prop where
 obj:h.get? x=some (Pf C dx)
 ns:h.Ns1 dx mA
 ne:dx≠x
def zjV {h:Heap}{c:Addr}{f:Str->Option Y1}(n:h.Ns1 c f):∃g,h.get? c=some g/\∀name,OT name g=some (f name):=by
 obtain⟨o,d,p,l,j,hk,_,k⟩:=n;refine⟨o,l,λname=>?_⟩;have e:=k name;unfold nsFind findBy at e;rw[<- Array.find?_toList]at e;unfold OT;rw[j];dsimp only;split
 .rename_i y q;rw[q]at e;exact congrArg some e
 .rename_i q;rw[q]at e;have a:d.toList.any (·.refKey)=false:=by
   rw[Re];intro y m;obtain⟨z,t,b⟩:=hk y (RZ.mp m);simp[DictEntry.refKey,b]
  have i:¬ d.toList.any (·.refKey)=true:=by rw[a];exact XS
  rw[bq i];exact congrArg some e
def zpX.look {h:Heap}{x b C:Addr}{c:Str->Option Y1}(I:zpX h x b C c):∃a,PySem.W.InstAt h x (Pf C b) C (some a)/\∀name,OT name a=some (c name) :=
 let ⟨a,ho,hl⟩:=zjV I.ns
 ⟨a,⟨I.obj,rfl,rfl,ho⟩,hl⟩
def zbm.some_of {v:V}{o:Option Y1}(r:zbm (some v) o):∃u,o=some u/\RelV v u:=by
 cases o with
 | none=>exact(show False from r).elim
 | some u=>exact⟨u,rfl,r⟩
section
variable {P:Xr}{w:Xe}{H H':Hp}{h h':Heap}{a C dx:Addr}{fs fs':List (Str×V)}
def znB (c:HOk P w H h)(e:H a=some (.ins C dx fs)):∃b,zpX h a dx C b/\(∀f,zbm (fs.lookup f) (b f))/\PySem.Within b (fs.map (·.1))/\fs.length<=1000/\H dx=some (.own a):=by
 obtain⟨d,z,g,ob,b,n,r,q⟩:=(show jd P w H h a (.ins C dx fs) from c a _ e);exact⟨b,⟨ob,n,g⟩,r,q,z,d⟩
end
structure Cls (K:X5)(C:Addr):Prop where
 pg:PySem.W.plainGet K C Str.empty=true
 hd:PySem.W.hasDictIn K C=true
 po:PySem.W.plainOver K C=true
 sa:Vy K (.ref C) "__setattr__"=some (some (.builtin "object.__setattr__"))
def Cls.get {K:X5}{C:Addr}(c:Cls K C)(f:Str):PySem.W.plainGet K C f=true:=c.pg
section
variable {X:Cx}{bQ:List (Addr×Obj)}{σ:St}{H:Hp}{s:X8}{A:W1}{E:Y1->X8->Prop}{Q:Y1->X8->Prop}{c:Y1}{b:Bool}
inductive zbp (K:X5)(H:Hp):V->Y1->Prop where
 | non:zbp K H .non (.type "NoneType")
 | bl (x:Bool):zbp K H (.bl x) (.type "bool")
 | int (i:Int):zbp K H (.int i) (.type "int")
 | str (x:Str):zbp K H (.str x) (.type "str")
 | flt (x:UInt64):zbp K H (.flt x) (.type "float")
 | lst {a:Addr} {xs:AF} (e:H a=some (.lst xs)):zbp K H (.ref a) (.type "list")
 | frz {a:Addr} {o:Obj} {xs:AF} (e:H a=some (.frz o (.lst xs))):zbp K H (.ref a) (.type "list")
 | tup {a:Addr} {xs:AF} (e:H a=some (.tup xs)):zbp K H (.ref a) (.type "tuple")
 | dK {a:Addr} {kvs:List (Key×V)} (e:H a=some (.dK kvs)):zbp K H (.ref a) (.type "dict")
 | dT {a:Addr} {kvs:List (List Key×V)} (e:H a=some (.dT kvs)):zbp K H (.ref a) (.type "dict")
 | ins {a C dx:Addr} {fs:List (Str×V)} (e:H a=some (.ins C dx fs)) (cl:Cls K C) (ha:Vy K (.ref C) "__class__"=some (some (.builtin "object.__class__")))
   (hn:PySem.W.specialIn K (.builtin "object.__class__") "__get__"=some (some (.builtin "getset_descriptor.__get__"))) (htk:PySem.W.takesIn K (.builtin "object.__class__")=some true)
   (hm:Wn K C (.type "object")=some true):zbp K H (.ref a) (.ref C)
def zjW {x:V}{u t:Y1}(I:Inv X bQ σ H s)(f:RelV x u)(ty:zbp X.K H x t)(e:Xg X.K t c=some b)(h:∀tk,Q (.bool b) { s with toks:=tk }) :
  Xu (Xw X.prog X.w) A (call (.builtin "isinstance") [u,c]) Q E s:=by
 cases ty with
 | non=>cases (show u=U0 from f);exact VP PySem.W.kitx_none I.kIn Tw e (λz=>nomatch z) h
 | bl y=>cases (show u=Oe y from f);exact VP PySem.W.kitx_bool I.kIn Tw e (λz=>nomatch z) h
 | int i=>obtain⟨t,q⟩:=(show ∃t,u=Vl i t from f);cases q;exact VP PySem.W.kitx_int I.kIn Tw e (λz=>nomatch z) h
 | str y=>obtain⟨t,q⟩:=(show ∃t,u=NU y t from f);cases q;exact VP PySem.W.kitx_str I.kIn Tw e (λz=>nomatch z) h
 | flt y=>obtain⟨t,q⟩:=(show ∃t,u=Value.float y t from f);cases q;exact VP PySem.W.kitx_float I.kIn Tw e (λz=>nomatch z) h
 | @lst a j d =>
  cases (show u=WN a from f);obtain⟨_,_,n,_,h1⟩:=(show jd X.prog X.w H s.heap a (.lst j) from I.hok a _ d);exact VP PySem.W.kitx_list I.kIn ⟨_,h1,rfl⟩ e (λz=>nomatch z) h
 | @frz a ob j d =>
  cases (show u=WN a from f);obtain⟨_,_,_,n,_,h1⟩:=(show jd X.prog X.w H s.heap a (.frz ob (.lst j)) from I.hok a _ d);exact VP PySem.W.kitx_list I.kIn ⟨_,h1,rfl⟩ e (λz=>nomatch z) h
 | @tup a j d =>
  cases (show u=WN a from f);obtain⟨_,_,_,p⟩:=(show jd X.prog X.w H s.heap a (.tup j) from I.hok a _ d);obtain⟨o,h1,h2,_⟩:=p;exact VP PySem.W.kitx_tuple I.kIn ⟨o,h1,h2⟩ e (λz=>nomatch z) h
 | @dK a g d =>
  cases (show u=WN a from f);obtain⟨_,_,N,_,p⟩:=(show jd X.prog X.w H s.heap a (.dK g) from I.hok a _ d);obtain⟨o,r,m,h1,h2,_⟩:=p;exact VP PySem.W.kitx_dict I.kIn ⟨o,h1,h2.1⟩ e (λz=>nomatch z) h
 | @dT a g d =>
  cases (show u=WN a from f);refine eY (λ_ _ j _=>eV λo r m=>eF λh1 h2 _=>?_) (show jd X.prog X.w H s.heap a (.dT g) from I.hok a _ d);exact VP PySem.W.kitx_dict I.kIn ⟨o,h1,h2.1⟩ e (λz=>nomatch z) h
 | @ins a C G fs d l v D k B =>
  cases (show u=WN a from f);obtain⟨L,O,_⟩:=znB I.hok d;obtain⟨M,J,_⟩:=O.look;exact VP (PySem.W.kitx_own (l.get _) l.hd v D k B) I.kIn J e (λz=>nomatch z) h
end
structure xh (k:Nat)(A:W1):Prop where
 hd:A.handled=none
 dp:A.depth+3*k+5<recursionLimit
 un:A.units+16*k+200<U7
def xh.mono {j k:Nat}{A:W1}(r:xh k A)(h:j<=k):xh j A:=⟨r.hd,by have:=r.dp;lia,by have:=r.un;lia⟩
theorem xh.deeper {k:Nat}{A:W1}(r:xh (k+1) A)(a:Env):xh k (A.deeper a) :=
 ⟨r.hd,by have:=r.dp;show A.depth+1+3*k+5<_;lia,by have:=r.un;show A.units+3+16*k+200<_;lia⟩
theorem xh.depth {k:Nat}{A:W1}(r:xh k A):A.depth<recursionLimit:=by have:=r.dp;lia
theorem xh.units {k:Nat}{A:W1}(r:xh k A):A.units+64<U7:=by have:=r.un;lia
def zsG:TA:=λ_ H Q=>Q [] H
def zo7 (d:TE)(e:TA):TA:=fun a H Q=>d a H λx b=>e a b λf c=>Q (x::f) c
section
variable {X:Cx}{e:Expr}{es:List Expr}{te:TE}{t:TA}{pos:Pos}
def zb:PA X [] zsG:=λ_ _ _ _ H Q I h=>Rc ⟨[],H,I,.nil,h⟩
def za (i:PE X e te)(j:PA X es t)(k:W4 (e::es) X.env=(false,eval e X.env)::W4 es X.env:=by rfl):PA X (e::es) (zo7 te t):=by
 intro pos a s b H Q I h;rw[k];show Xu _ _ (N8 ((false,eval e X.env)::UI pos (W4 es X.env))) _ _ s;refine UN (thn (i a s b H _ I h) λu s1 ⟨x,c,f,n,l⟩=>?_);exact thn (j pos a s1 b c _ f l) λr q ⟨p,d,g,o,m⟩=>⟨x::p,d,g,.cons n o,m⟩
def zrF (t:TA):TE:=fun c H Q=>t c H λb a=>b.length<=Xz/\∀p,a p=none->Q (.ref p) (upd a p (.tup b))
def zsH (t:TA):TE:=fun c H Q=>t c H λb a=>b.length<=Xz/\∀p,a p=none->Q (.ref p) (upd a p (.lst b))
def jy {x1}(h:PA X es t):PE X (.Tuple es x1 pos) (zrF t):=by
 intro d s k H Q I g;refine Ow (thn (h pos d s k H _ I g) λi s1 ⟨j,a,c,r,z,q⟩=>⟨by rw[<- r.length];exact z,?_⟩);have f:a s1.heap.objs.size=none:=c.hok.fresh (XX _);refine⟨.ref s1.heap.objs.size,upd a s1.heap.objs.size (.tup j),c.laid (t':=s1.toks) (λb u e=>X4 _ e) (XX _) ?_,rfl,q _ f⟩;exact⟨z,i,r,⟨_,Xl _ rfl,rfl,_,rfl⟩⟩
def qo (h:PA X es t):PE X (.List es pos) (zsH t):=by
 intro d s k H Q I g;refine wpAny_List_spliced (thn (h pos d s k H _ I g) λi s1 ⟨j,a,c,r,z,q⟩=>⟨by rw[<- r.length];exact z,?_⟩);have f:a s1.heap.objs.size=none:=c.hok.fresh (XX _);refine⟨.ref s1.heap.objs.size,upd a s1.heap.objs.size (.lst j),c.laid (t':=s1.toks) (λb u e=>X4 _ e) (XX _) ?_,rfl,q _ f⟩;exact⟨z,i,0,r,Xl _ rfl⟩
end
abbrev Sp:=AF->Hp->VK->XK->Prop
abbrev CXT:=List Env->Hp->X8->XK->Y1->X8->Prop
structure zla (P:Xr)(w:Xe)(K:X5)(mg:Str->Option Y1)(base:Heap)(A:W1)(outer:List Env)(s:X8)(H:Hp):Prop where
 frames:A.frames=some outer
 mod:Mod K mg base
 bs:∀b o,base.get? b=some o->s.heap.get? b=some o/\H b=none
 bsz:base.objs.size<=s.heap.objs.size
 funs:s.heap.FunFrames base outer
 frf:∀b∈frs outer,H b=none
 hok:HOk P w H s.heap
 bare:SL s.gens
def CE (a:List Env)(P:Xr)(w:Xe)(H:Hp)(s:X8)(Q:VK)(u:Y1)(s':X8):Prop :=
 ∃v b,s'.os=s.os/\SL s'.gens/\Un (frs a) [] H b s.heap s'.heap/\HOk P w b s'.heap/\RelV v u/\Q v b
def CR (CX:CXT)(a:List Env)(P:Xr)(w:Xe)(H:Hp)(s:X8)(Q:VK)(E:XK)(r:QP)(s':X8):Prop :=
 match r with
 | .ok (.ret u)=>CE a P w H s Q u s'
 | .ok _=>False
 | .error e=>CX a H s E e s'
structure qz (P:Xr)(w:Xe)(K:X5)(mg:Str->Option Y1)(base:Heap)(CX:CXT)(k:Nat)(f:Addr)(fd:XM)(ps:AE)(sp:Sp):Prop where
 len:∀vs H Q E,sp vs H Q E->vs.length=ps.length
 run:∀(A:W1) (outer:List Env) (s:X8) (H:Hp) (args:Args) (us:List Y1) (vs:AF) (Q:VK) (E:XK),xh k A->zla P w K mg base A outer s H->OD s fd args (ps.zip us)->Vals vs us->sp vs H Q E ->
  UJ (Xw P w) A (.call (.ref f) args) (CR CX outer P w H s Q E) s
def qz.imp {P:Xr}{w:Xe}{K:X5}{e:Str->Option Y1}{base:Heap}{CX:CXT}{k:Nat}{f:Addr}{d:XM}{ps:AE}{sp c:Sp}(F:qz P w K e base CX k f d ps sp)
  (h:∀vs H Q E,c vs H Q E->sp vs H Q E):qz P w K e base CX k f d ps c :=
 ⟨λvs H Q E q=>F.len vs H Q E (h _ _ _ _ q),λA a s H b m vs Q E i he g l j=>F.run A a s H b m vs Q E i he g l (h _ _ _ _ j)⟩
section
variable {X:Cx}{bQ:List (Addr×Obj)}{σ:St}{H:Hp}{s s':X8}
def Inv.env0 (I:Inv X bQ σ H s):zla X.prog X.w X.K X.mg X.base X.A X.stack s H :=
 ⟨I.ok.frames,I.ok.mod,I.bs,X0 I.ok.bsz I.sz,I.stack,I.stkFree,I.hok,I.bare⟩
def Inv.after {Q:VK}{u:Y1}(I:Inv X bQ σ H s)(h:CE X.stack X.prog X.w H s Q u s'):EP X bQ σ Q u s':=by
 obtain⟨v,f,os,a,un,c,r,q⟩:=h;obtain⟨i,g,d,t,e⟩:=s';obtain rfl:e=s.os:=os;exact⟨v,f,I.call (h':=i) (g':=g) (d':=d) (t':=t) (ch:=[]) un c a (λb z=>absurd z (by simp)),r,q⟩
end
def zgg (sp:Sp)(a:AF)(E:XK)(t:TA):TE:=fun d H Q=>t d H λc b=>sp (c++a) b Q E
def Binds (K:X5)(c:XM)(ps:AE)(b:List Y1):Prop :=
 ∀(s:X8) (a:List Y1),K.In s.heap->(a++b).length=ps.length->OD s c ⟨a,[]⟩ (ps.zip (a++b))
def Binds.all {K:X5}{b:XM}{ps:AE}(h:∀a:List Y1,a.length=ps.length->N5 b ⟨a,[]⟩=pure (ps.zip a)):Binds K b ps []:=λs a _ c=>by
 rw[WX]at c ⊢;exact .of_eq (h a c)
def Passes (CX:CXT)(X:Cx)(E:XK):Prop:=∀(b:List (Addr×Obj)) (c:St) (H:Hp) (s:X8) (e:Y1) (a:X8),Inv X b c H s->CX X.stack H s E e a->X.xe e a
section
variable {X:Cx}{CX:CXT}{k:Nat}{f C:Addr}{fd:XM}{ps:AE}{sp:Sp}{dvs:AF}{ds:List Y1}{E:XK}{x m:Str}{p pos apos:Pos}{e o:Expr}{es:List Expr}{ta:TE}{t:TA}
def zlb {c:List (Addr×Obj)}{d:St}{H:Hp}{s:X8}{Q:VK}{a:List Y1}{vs:AF}(F:qz X.prog X.w X.K X.mg X.base CX k f fd ps sp)(n:xh k X.A)(j:Binds X.K fd ps ds)(l:Vals dvs ds)(o:Passes CX X E)
  (I:Inv X c d H s) (r:Vals vs a) (h:sp (vs++dvs) H Q E):Xu (Xw X.prog X.w) X.A (call (.ref f) a) (EP X c d Q) X.xe s:=by
 have g:Vals (vs++dvs) (a++ds):=r.append l;have m:(a++ds).length=ps.length:=by rw[<- g.length];exact F.len _ _ _ _ h
 refine Pu (UT (F.run X.A X.stack s H ⟨a,[]⟩ (a++ds) (vs++dvs) Q E n I.env0 (j s a I.kIn m) g h) λr p b=>?_);cases r with
 | error e=>exact o c d H s e p I b
 | ok i =>
  cases i with
  | ret u=>exact I.after b
  | next=>exact WB b
  | brk=>exact WB b
  | cont=>exact WB b
def zcs (F:qz X.prog X.w X.K X.mg X.base CX k f fd ps sp)(n:xh k X.A)(l:Gl X x)(m:X.mg x=some (.ref f))(hk:Vp X.K (.ref f)=true)(i:Binds X.K fd ps ds)(j:Vals dvs ds)(o:Passes CX X E)
  (g:PA X (e::es) t) (a:(x==("__debug__":Str))=false:=by decide) (he:W4 (e::es) X.env=(false,eval e X.env)::W4 es X.env:=by rfl) (b:(UI pos (W4 es X.env)).any (·.1)=false:=by rfl) :
  PE X (.Call (.Name x p) (e::es) [] pos) (zgg sp dvs E t):=by
 intro d s u H Q I h;refine Vc (xN I l m ?_ a);refine T6 (h₀:=X.base) I.ok.mod.kin hk (thn (g pos d s u H _ I h) λy s1 ⟨z,v,c,r,q⟩=>⟨c.kIn,?_⟩) he b;exact zlb F n i j o c r q
end
structure zD (N P:AE)(sc:Vr):Prop where
 kind:sc.kind=.function
 co:sc.isCoroutine=false
 gen:sc.isGenerator=false
 nd:N.Nodup
 pre:N.take P.length=P
 par:∀x∈P,sc.names.lookup x=some .local\/sc.names.lookup x=some .cell
 nofree:∀y∈sc.names,y.2 ≠ .free
def bz {N P:AE}{c:Vr}(k:c.kind=.function:=by rfl)(a:c.isCoroutine=false:=by rfl)(b:c.isGenerator=false:=by rfl)(p:N.take P.length=P:=by rfl)(h:(N.Nodup)/\(∀x∈P,c.names.lookup x=some .local\/c.names.lookup x=some .cell)/\∀y∈c.names,y.2 ≠ .free:=by decide+kernel):zD N P c:=⟨k,a,b,h.1,p,h.2.1,h.2.2⟩
theorem zet {kindOf:Str->Option Tb}{x:Str}:∀{binds:List (Str×Y1)} {m:Str->Option Y1},(∀v,(x,v) ∉ binds)->NM kindOf binds m x=m x
 | [],_,_=>rfl
 | (n,v)::r,m,h=>by
  unfold NM;rw[zet λw a=>h w (XW _ a)];split
  .have:x≠n:=by rintro rfl;exact h v XV
   simp[this]
  .rfl
theorem zeu {kindOf:Str->Option Tb}{x:Str}:∀{binds:List (Str×Y1)} {m:Str->Option Y1},(∀v,(x,v) ∉ binds)->NL kindOf binds m x=m x
 | [],_,_=>rfl
 | (n,v)::r,m,h=>by
  unfold NL;rw[zeu λw a=>h w (XW _ a)];split
  .rfl
  .have:x≠n:=by rintro rfl;exact h v XV
   simp[this]
theorem zew {kindOf:Str->Option Tb}{x:Str}{v:Y1}:∀{P:AE} {vs:List Y1} {i:Nat} {m:Str->Option Y1},P.Nodup->P[i]?=some x->vs[i]?=some v->kindOf x=some .local ->
  NM kindOf (P.zip vs) m x=some v
 | [],_,_,_,_,h,_,_=>by simp at h
 | _::_,[],_,_,_,_,h,_=>by simp at h
 | p::P,w::vs,0,m,a,h1,h2,hk=>by
  simp at h1 h2;subst h1;subst h2;show NM kindOf ((p,w)::P.zip vs) m p=_;unfold NM;rw[zet λv b=>(Vv.mp a).1 (RT b).1,bw hk];simp
 | p::P,w::vs,i+1,m,a,h1,h2,hk=>by
  show NM kindOf ((p,w)::P.zip vs) m x=_;unfold NM;exact zew (i:=i) (Vv.mp a).2 (by simpa using h1) (by simpa using h2) hk
theorem zex {kindOf:Str->Option Tb}{x:Str}{v:Y1}:∀{P:AE} {vs:List Y1} {i:Nat} {m:Str->Option Y1},P.Nodup->P[i]?=some x->vs[i]?=some v->kindOf x≠some .local ->
  NL kindOf (P.zip vs) m x=some v
 | [],_,_,_,_,h,_,_=>by simp at h
 | _::_,[],_,_,_,_,h,_=>by simp at h
 | p::P,w::vs,0,m,a,h1,h2,hk=>by
  simp at h1 h2;subst h1;subst h2;show NL kindOf ((p,w)::P.zip vs) m p=_;unfold NL;rw[zeu λv b=>(Vv.mp a).1 (RT b).1,bq hk];simp
 | p::P,w::vs,i+1,m,a,h1,h2,hk=>by
  show NL kindOf ((p,w)::P.zip vs) m x=_;unfold NL;exact zex (i:=i) (Vv.mp a).2 (by simpa using h1) (by simpa using h2) hk
def start (N:AE)(vs:AF):St:=vs.map some++WV (N.length-vs.length) none
def zbq (CX:CXT)(P:Xr)(w:Xe)(K:X5)(mg:Str->Option Y1)(base:Heap)(N:AE)(qual:Str)(scope:Vr)(f:Addr)(cd:Y1)(A:W1)(outer:List Env)(s:X8)(H:Hp)(E:XK):Cx where
 prog:=P
 w:=w
 K:=K
 mg:=mg
 base:=base
 A:=A.deeper (RW qual scope s.heap.objs.size f cd)
 N:=N
 s₀:=s
 H₀:=H
 env:=RW qual scope s.heap.objs.size f cd
 outer:=outer
 stack:=RW qual scope s.heap.objs.size f cd::outer
 ex:=[]
 calm:=true
 fn:=λ_=>true
 pn:=[]
 xe:=λe s'=>Xu (Xw P w) (A.deeper (RW qual scope s.heap.objs.size f cd)) (leaving (RW qual scope s.heap.objs.size f cd) e) (λ_ s''=>CX outer H s E e s'') (λe' s''=>CX outer H s E e' s'') s'
def zgh {a:Vr}{n:Nat}{x:Str}(h:a.names.lookup x=some .cell):∃c,(Se n a.names []).lookup x=some c:=by
 have q:=T2 a.names n [] (.inl h);exact Wa.mp q
def zey {CX:CXT}{P:Xr}{w:Xe}{K:X5}{I:Str->Option Y1}{base:Heap}{N ps:AE}{j:Str}{d:Vr}{f:Addr}{D:Y1}{A:W1}{g:List Env}{s s1:X8}{H:Hp}{E:XK}{J:List Y1}{vs:AF}
  (S:zD N ps d) (O:A.handled=none) (l:zla P w K I base A g s H) (hl:vs.length=ps.length) (r:Vals vs J)
  (x:InCallC s s.heap.objs.size (NM (RW j d s.heap.objs.size f D).kindOf (ps.zip J) λ_=>none) (Se (s.heap.objs.size+1) d.names []) (NL (RW j d s.heap.objs.size f D).kindOf (ps.zip J) λ_=>none) s1) :
  Inv (zbq CX P w K I base N j d f D A g s H E) [] (start N vs) H s1:=by
 have Q:ps.length<=N.length:=by have:=congrArg List.length S.pre;rw[XG]at this;lia
 obtain⟨h1,tk,rfl,hk⟩:=x.done;have m:∀b:Addr,b ∉ (zbq CX P w K I base N j d f D A g s H E).ex:=λb z=>absurd (show b∈([]:List Addr) from z) (by simp);refine⟨⟨l.mod,S.kind,rfl,rfl,XX _,λy z c h1 h2=>?_,λy hy=>?_,λy c _ h=>?_,λ_=>O,Around.frames_deeper l.frames,.inr ⟨rfl,rfl⟩,λb z=>absurd z (m b),l.bs,l.bsz,λb _ _=>m b,λb z=>absurd z (m b),l.funs,l.frf⟩,rfl,l.bare,Un.kept hk,⟨_,x.toInCall.ns,λi y v h1 h2 Y=>?_⟩,λy c h=>⟨_,x.cell y c h⟩,l.hok.fresh (XX _),λy c h=>?_,λp o=>absurd (show p∈([]:List (Addr×Obj)) from o) (by simp),l.hok.kept hk,?_⟩
 .exact name_of_addr x.apart (WK h1) (WK h2)
 .have hy:d.names.lookup y=some .cell\/d.names.lookup y=some .free:=hy;rcases hy with hy | hy
  .exact zgh hy
  .exact absurd rfl (S.nofree _ (WK hy))
 .exact Tq (x.above y c (WK h))
 .have G:i<vs.length:=by
   unfold start at h2;by_cases G:i<vs.length
   .exact G
   .rw[VG (by simpa using G)]at h2;rw[List.getElem?_replicate]at h2;split at h2<;>cases h2
  have M:vs[i]?=some v:=by
   unfold start at h2;rw[VY (by simpa using G),Xo]at h2;cases e:vs[i]? with
   | none=>rw[e]at h2;cases h2
   | some a=>rw[e]at h2;cases h2;rfl
  obtain⟨u,L,U⟩:=r.get M;have o:ps[i]?=some y:=by
   rw[<- S.pre,PZ (by lia)];exact h1
  have B:ps.Nodup:=by rw[<- S.pre];exact S.nd.sublist (TM _ _)
  refine⟨u,U,?_⟩;rcases S.par y (X7 o) with k | k
  .exact .inl ⟨k,zew B o L k⟩
  .obtain⟨c,e⟩:=zgh (n:=s.heap.objs.size+1) k;refine .inr ⟨.inl k,c,e,?_⟩;have q:=x.cell y c e;rw[zex B o L (by show d.names.lookup y≠_;rw[k];decide)]at q;exact q
 .exact l.hok.fresh (Tq (x.above y c (WK h)))
 .unfold start;show _=N.length;rw[XR,X9,List.length_replicate];lia
def zo8 {CX:CXT}{P:Xr}{w:Xe}{K:X5}{L:Str->Option Y1}{base:Heap}{k:Nat}{f:Addr}{name d:Str}{h:NV}{i:List Stmt}{a:Vr}{dV kV doc pm g ct oc:Y1}{an od:Option Addr}
  {Y:Array (Option Y1)} {N ps:AE} {sp:Sp} (lk:K.lookup f=some ⟨oc,od,.func (VV name d h i a dV kV doc pm an g ct),Y⟩) (M:U6 K g d=true) (S:zD N ps a)
  (len:∀vs H Q E,sp vs H Q E->vs.length=ps.length)
  (m:∀(A:W1) (c:List Env) (s:X8) (H:Hp) (vs:AF) (Q:VK) (E:XK),xh k (A.deeper (RW d a s.heap.objs.size f g))->sp vs H Q E ->
   ∃t,PSs (zbq CX P w K L base N d a f g A c s H E) i t/\t { nx:=λ_ l=>Q .non l,rt:=Q } (start N vs) H) :
  qz P w K L base CX (k+1) f (VV name d h i a dV kV doc pm an g ct) ps sp:=by
 refine⟨len,λA c s H aa us vs Q E O B hb r G=>?_⟩;have hl:=len _ _ _ _ G;have KX:K.In s.heap:=B.mod.kin.keeps λb o e=>(B.bs b o e).1;have U:s.heap.NoLimit:=B.mod.nolimit.keeps λb o e=>(B.bs b o e).1;have p:∀y∈ps.zip us,a.names.lookup y.1=some .local\/(a.names.lookup y.1=some .cell/\((Se (s.heap.objs.size+1) a.names []).lookup y.1).isSome=true):=λ⟨n,v⟩ hy=>by
  rcases S.par n (RT hy).1 with q | q
  .exact .inl q
  .exact .inr ⟨q,T2 _ _ _ (.inl q)⟩
 refine O8 O.depth (KX _ _ lk) rfl S.co S.gen rfl (PySem.W.codeRec_of KX M) (hb _ _ _ _ ?_);refine Rr S.kind p λab he s1 x=>?_;subst he;refine⟨U.keeps x.toInCall.keep,codeAny_func ?_⟩;obtain⟨t,ht,hq⟩:=m A c s H vs Q E (O.deeper _) G;have I:Inv (zbq CX P w K L base N d a f g A c s H E) [] (start N vs) H s1:=zey S O.hd B hl r x;refine Xa (ht [] s1 (start N vs) H _ I hq) (λfl s' z=>?_) λe s' z=>z;have D:∀{j:St} {l:Hp} {v:V} {u:Y1},Inv (zbq CX P w K L base N d a f g A c s H E) [] j l s'->RelV v u->Q v l->CE c P w H s Q u s' :=
  λ{j l v u} J rv q=>⟨v,l,J.os,J.bare,J.base,J.hok,rv,q⟩
 cases fl with
 | ret u =>
  obtain⟨v,j,l,J,rv,q⟩:=z;exact D J rv q
 | next =>
  obtain⟨j,l,J,q⟩:=z;exact D (v:=V.non) (u:=U0) J rfl q
 | brk =>
  obtain⟨_,_,_,q⟩:=z;exact WB q
 | cont =>
  obtain⟨_,_,_,q⟩:=z;exact WB q
section
variable {X:Cx}{x:Str}{p pos:Pos}{e:Expr}{es:List Expr}{t:TA}{id T:String}{r:AF->Hp->VK->Prop}
def tCB (r:AF->Hp->VK->Prop)(t:TA):TE:=fun c H Q=>t c H λb a=>r b a Q
def zB (j:j3 X (.builtin id) r)(k:Gl X x)(l:X.mg x=none)(n:Tr x=some (.builtin id))(i:PA X (e::es) t)(m:x ≠ "__name__":=by decide)(a:(x==("__debug__":Str))=false:=by decide)
  (he:W4 (e::es) X.env=(false,eval e X.env)::W4 es X.env:=by rfl) (b:(UI pos (W4 es X.env)).any (·.1)=false:=by rfl):PE X (.Call (.Name x p) (e::es) [] pos) (tCB r t):=by
 intro c s d H Q I h;refine Vc (YZ I k l n ?_ m a);exact PyProof.Rows.callWith_builtin1 (thn (i pos c s d H _ I h) λu s1 ⟨v,f,g,q,o⟩=>j c s1 d f v u Q g q o) he b
def jq (j:j3 X (.type T) r)(k:Gl X x)(l:X.mg x=none)(n:Tr x=some (.type T))(i:PA X (e::es) t)(m:x ≠ "__name__":=by decide)(a:(x==("__debug__":Str))=false:=by decide)
  (he:W4 (e::es) X.env=(false,eval e X.env)::W4 es X.env:=by rfl) (b:(UI pos (W4 es X.env)).any (·.1)=false:=by rfl):PE X (.Call (.Name x p) (e::es) [] pos) (tCB r t):=by
 intro c s d H Q I h;refine Vc (YZ I k l n ?_ m a);exact VJ (thn (i pos c s d H _ I h) λu s1 ⟨v,f,g,q,o⟩=>j c s1 d f v u Q g q o) he b
end
end L2
namespace HT
open PySem PyProof.Rows
section
variable {prog:Xr}{w:Xe}{A:W1}{E:Y1->X8->Prop}{s:X8}
def sIx (n d:Nat):Option Int->Nat
 | none=>d
 | some v=>if v<0 then (v+(n:Int)).toNat else min v.toNat n
def zi1 (n d k:Nat):sIx n d (some (k:Int))=min k n:=by
 show (if (k:Int)<0 then ((k:Int)+(n:Int)).toNat else min (k:Int).toNat n)=min k n;rw[bq (by lia),UA]
end
end HT
namespace L2
open PySem PySem.Spec PyProof.Rows
abbrev TO:=St->Hp->(Option Int->Hp->Prop)->Prop
def PO (X:Cx)(e:Option Expr)(t:TO):Prop :=
 ∀(c:List (Addr×Obj)) (s:X8) (a:St) (H:Hp) (Q:Option Int->Hp->Prop),Inv X c a H s->t a H Q ->
  Xu (Xw X.prog X.w) X.A (evalPart e X.env) (λu d=>∃o b,Inv X c a b d/\IsPart u o/\Q o b) X.xe s
def znC:TO:=λ_ H Q=>Q none H
def zo9 (t:TE):TO:=fun b H Q=>t b H λx a=>∃i,x=.int i/\Q (some i) a
section
variable {X:Cx}{e:Expr}{te:TE}{lo hi:Option Expr}{tl th:TO}{pos p2:Pos}
def zaD:PO X none znC:=by
 intro a s b H Q I h;rw[evalPart_none];exact XT ⟨none,H,I,.none,h⟩
def zct (h:PE X e te):PO X (some e) (zo9 te):=by
 intro c s j H Q I d;rw[evalPart_some];refine thn (h c s j H _ I d) λu s1 ⟨x,a,b,g,f⟩=>?_;obtain⟨i,rfl,q⟩:=f;obtain⟨t,rfl⟩:=g;exact⟨some i,a,b,.int i t,q⟩
def SlR (X:Cx)(r:V->Option Int->Option Int->Hp->VK->Prop):Prop :=
 ∀(a:List (Addr×Obj)) (s:X8) (e:St) (H:Hp) (x:V) (v c d:Y1) (lo hi:Option Int) (b:Addr) (Q:VK),Inv X a e H s->RelV x v->s.heap.IsSliceOf b c d .none->IsPart c lo->IsPart d hi->r x lo hi H Q ->
  ∃T id,Od (.type T) "__getitem__"=pure (some (.builtin id))/\s.TypeIs v T/\Xu (Xw X.prog X.w) X.A (OE v (.ref b)) (EP X a e Q) X.xe s
def tSl (r:V->Option Int->Option Int->Hp->VK->Prop)(te:TE)(tl th:TO):TE:=fun a H Q=>te a H λx b=>tl a b λl c=>th a c λu d=>r x l u d Q
def zcO {r:V->Option Int->Option Int->Hp->VK->Prop}(D:SlR X r)(he:PE X e te)(B:PO X lo tl)(G:PO X hi th):PE X (.Subscript e (.Slice lo hi none p2) pos) (tSl r te tl th):=by
 intro c s d H Q I h;refine Oc (thn (he c s d H _ I h) λv s1 ⟨x,j,m,U,M⟩=>?_);refine wpAny_Slice (thn (B c s1 d j _ m M) λf Y ⟨l,k,n,J,N⟩=>thn (G c Y d k _ n N) λg a ⟨u,i,o,L,O⟩=>?_);rw[evalPart_none];refine XT ?_;have p:Inv X c d i { a with heap:=a.heap.push { cls:=.type "slice",data:=.fields #[f,g,.none] } }:=o.kept (t':=a.toks) λb ob q=>X4 _ q;refine eZ (λT id y E z=>?_) (D c { a with heap:=a.heap.push { cls:=.type "slice",data:=.fields #[f,g,.none] } } d i x v f g l u a.heap.objs.size Q p U (Heap.IsSliceOf.new ..) J L O);show Xu (Xw X.prog X.w) X.A (Qb e (.Slice lo hi none p2) v (.ref a.heap.objs.size)) (EP X c d Q) X.xe { a with heap:=a.heap.push { cls:=.type "slice",data:=.fields #[f,g,.none] } };exact tail_any (ops:=[.ref a.heap.objs.size,v]) E y z (by with_unfolding_all rfl)
def zd3 (xs:AF)(lo hi:Option Int):AF:=(xs.drop (HT.sIx xs.length 0 lo)).take (HT.sIx xs.length xs.length hi-HT.sIx xs.length 0 lo)
def zgi (xs:AF)(lo hi:Option Int):(zd3 xs lo hi).length<=xs.length:=by
 unfold zd3;rw[XG,Vf];lia
end
def ixN (n:Nat)(i:Int):Option Nat:=if 0<=i then (if i<n then some i.toNat else none) else if -(n:Int)<=i then some (i+n).toNat else none
def atI {α:Type}(xs:List α)(i:Int):Option α:=(ixN xs.length i).bind λj=>xs[j]?
def zi2 {n:Nat}{i:Int}{j:Nat}(h:ixN n i=some j):seqIndex? i n=some j/\j<n/\-(n:Int)<=i/\i<n:=by
 unfold ixN at h;by_cases h0:0<=i
 .rw[bw h0]at h;by_cases h1:i<n
  .rw[bw h1]at h;have e:i.toNat=j:=Option.some.inj h;exact⟨by rw[OX h0 h1,e],by lia,by lia,h1⟩
  .rw[bq h1]at h;cases h
 .rw[bq h0]at h;by_cases h1:-(n:Int)<=i
  .rw[bw h1]at h;have e:(i+n).toNat=j:=Option.some.inj h;exact⟨by rw[Ps (by lia) h1,e],by lia,h1,by lia⟩
  .rw[bq h1]at h;cases h
def zcu {α:Type}{xs:List α}{i:Int}{v:α}(h:atI xs i=some v):∃j,seqIndex? i xs.length=some j/\xs[j]?=some v/\j<xs.length/\-(xs.length:Int)<=i/\i<xs.length:=by
 unfold atI at h;cases e:ixN xs.length i with
 | none=>rw[e]at h;cases h
 | some j =>
  rw[e]at h;obtain⟨h1,h2,a,b⟩:=zi2 e;exact⟨j,h1,h,h2,a,b⟩
def QB {α:Type}{xs:List α}{j:Nat}{v:α}(h:xs[j]?=some v):atI xs (j:Int)=some v:=by
 have a:j<xs.length:=(XZ.mp h).1;have e:ixN xs.length (j:Int)=some j:=by
  unfold ixN;rw[bw (by lia),bw (by lia)];simp
 unfold atI;rw[e];exact h
def znD (b:Expr):Prop:=∀o i,OW b false o i=operate [o,i] (OE o i)
def IxR (X:Cx)(r:R2):Prop :=
 ∀(b a:Expr) (c:List (Addr×Obj)) (s:X8) (d:St) (H:Hp) (x y:V) (v u:Y1) (Q:VK),Inv X c d H s->RelV x v->RelV y u->r x y H Q ->
  OW a false v u=operate [v,u] (OE v u)->Xu (Xw X.prog X.w) X.A (Qb b a v u) (EP X c d Q) X.xe s
def MtR (X:Cx)(id:String)(r:V->AF->Hp->VK->Prop):Prop :=
 ∀(a:List (Addr×Obj)) (s:X8) (d:St) (H:Hp) (x:V) (c:AF) (v:Y1) (b:List Y1) (Q:VK),Inv X a d H s->RelV x v->Vals c b->r x c H Q ->
  Xu (Xw X.prog X.w) X.A (call (.builtin id) (v::b)) (EP X a d Q) X.xe s
section
variable {X:Cx}{a b:Expr}{ta tb:TE}{pos:Pos}
def qu {r:R2}(i:IxR X r)(f:PE X a ta)(g:PE X b tb)(j:znD b):PE X (.Subscript a b pos) (tOp r ta tb):=by
 intro e s n H Q I h;exact Oc (zpP f g I h λv u m x y c d k l q=>i a b e m n c x y v u Q d k l q (j _ _))
def zrG (K:X5):R2:=λx y H Q=>∃p a i v,x=.ref p/\y=.int i/\SqL K H p a/\atI a i=some v/\Q v H
def zsI (K:X5):R2:=λx y H Q=>∃p a i v,x=.ref p/\y=.int i/\SqT K H p a/\atI a i=some v/\Q v H
def zsJ:R2:=λx y H Q=>∃z i c,x=.str z/\y=.int i/\z.length<=Xz/\atI z.cps.toList i=some c/\Q (.str ⟨#[c]⟩) H
def znE:IxR X (zrG X.K):=by
 intro g f k s n H x y v u Q I E G h m;obtain⟨p,O,i,z,rfl,rfl,D,he,q⟩:=h;cases E;obtain⟨t,rfl⟩:=G;obtain⟨c,r,d,N⟩:=I.list D;obtain⟨j,h1,h2,L,o,A⟩:=zcu he;obtain⟨w,l,e⟩:=r.get h2;have B:=r.length;have M:=Y6;have a:EP X k n Q w s:=⟨z,H,I,e,q⟩;by_cases h0:0<=i
 .have b:i.toNat=j:=by
   rw[OX h0 A]at h1;exact Option.some.inj h1
  exact item_listR d.isList h0 (by lia) (by rw[b];simpa using l) a m
 .have b:(i+(c.toArray.size:Int)).toNat=j:=by
   rw[Ps (by lia) o]at h1;rw[XB,<- B];exact Option.some.inj h1
  exact Pn (x:=w) d.isList.typeIs slot_list_getitem.lookup
   (Pm (Q:=λr J=>r=w/\EP X k n Q r J) d.isList (by lia) (by rw[XB]<;>lia) (by lia) (by rw[b];simpa using l) ⟨rfl,a⟩) m
def zpY:IxR X (zsI X.K):=by
 intro d c e s g H x y v u Q I A B h n;obtain⟨p,N,i,z,rfl,rfl,m,he,q⟩:=h;cases A;obtain⟨t,rfl⟩:=B;obtain⟨o,r,f,M⟩:=I.tuple m;obtain⟨j,h1,h2,E,G,J⟩:=zcu he;obtain⟨w,k,b⟩:=r.get h2;have l:=r.length;have L:=Y6;have a:EP X e g Q w s:=⟨z,H,I,b,q⟩;exact Pn (x:=w) f.typeIs slot_tuple_getitem.lookup
  (getItem_tuple (j:=j) (Q:=λr D=>r=w/\EP X e g Q r D) f (by lia) (by lia) (by rw[XB,<- l];exact h1) (by simpa using k) ⟨rfl,a⟩) n
def zpZ:IxR X zsJ:=by
 intro b a o s B H x y v u Q I m n h l;obtain⟨z,i,c,rfl,rfl,w,he,q⟩:=h;obtain⟨t,rfl⟩:=m;obtain⟨A,rfl⟩:=n;obtain⟨j,h1,h2,p,f,g⟩:=zcu he;have k:z.cps.toList.length=z.length:=by simp[Str.length]
 rw[k]at h1 f g;have r:=Y6;exact tail_any (Ob s z t) slot_str_getitem.lookup (getItem_str (c:=c) (by
  have d:decide (i < -(2^63:Int))=false:=bf (by lia);have e:decide (i >= 2^63)=false:=bf (by lia);rw[d,e,Bool.or_false]) (by rw[h1];simpa using h2) ⟨.str ⟨#[c]⟩,H,I.tok _,⟨_,rfl⟩,q⟩) l
def zhK (a:List Y1)(n j:Nat)(u:Y1):UZ (·.setIfInBounds j u) { cls:=.type "list",data:=.seq a.toArray n }={ cls:=.type "list",data:=.seq (a.set j u).toArray n }:=by
 simp[UZ]
theorem Inv.lst {b:List (Addr×Obj)}{c:St}{H:Hp}{s:X8}{p:Addr}{xs:AF}(I:Inv X b c H s)(h:H p=some (.lst xs)) :
  ∃(a:List Y1) (n:Nat),Vals xs a/\s.heap.get? p=some { cls:=.type "list",data:=.seq a.toArray n }/\xs.length<=Xz:=by
 obtain⟨z,a,n,r,e⟩:=I.hok p _ h;exact⟨a,n,r,e,z⟩
def Inv.lstUpd {d:List (Addr×Obj)}{i:St}{H:Hp}{s:X8}{p:Addr}{xs ys:AF}{a its':List Y1}{n c:Nat}{f:Obj->Obj}(I:Inv X d i H s)(h:H p=some (.lst xs))
  (k:s.heap.get? p=some { cls:=.type "list",data:=.seq a.toArray n }) (g:f { cls:=.type "list",data:=.seq a.toArray n }={ cls:=.type "list",data:=.seq its'.toArray c }) (r:Vals ys its') (l:ys.length<=Xz) (t:Nat) :
  Inv X d i (upd H p (.lst ys)) { s with heap:=s.heap.update p f,toks:=t }:=by
 have e:(s.heap.update p f).get? p=some { cls:=.type "list",data:=.seq its'.toArray c }:=by
  rw[Wm f k (by rw[g]<;>rfl),g]
 refine I.write (x:=p) (e:=p) (by rw[h];trivial) (.inl rfl) (λb u j q=>(VB _ _ (Va j)).trans q) ⟨_,e⟩ ?_;exact⟨l,its',c,r,e⟩
def zrH:V->V->V->Hp->(Hp->Prop)->Prop:=λo i v H Q=>∃p a k j,o=.ref p/\i=.int k/\H p=some (.lst a)/\ixN a.length k=some j/\Q (upd H p (.lst (a.set j v)))
def set_list:zrr X zrH:=by
 intro l s B H o i v G E u Q I y x z h;obtain⟨p,A,k,j,rfl,rfl,g,m,q⟩:=h;cases y;obtain⟨t,rfl⟩:=x;obtain⟨a,n,r,c,w⟩:=I.lst g;obtain⟨h1,h2,e,f⟩:=zi2 m;have b:=r.length;have D:=Y6;have d:Inv X l B (upd H p (.lst (A.set j v))) { s with heap:=s.heap.update p (UZ (·.setIfInBounds j u)) } :=
  I.lstUpd g c (zhK a n j u) (r.set z j) (by rw[List.length_set];exact w) s.toks
 by_cases h0:0<=k
 .have hk:k.toNat=j:=by
   rw[OX h0 f]at h1;exact Option.some.inj h1
  exact PySem.W.ki_setAt c h0 (by lia) (by rw[XB,<- b];exact f) (by rw[hk];exact⟨_,d,q⟩)
 .have hk:(k+(a.toArray.size:Int)).toNat=j:=by
   rw[Ps (by lia) e]at h1;rw[XB,<- b];exact Option.some.inj h1
  exact PySem.W.ki_setBack c (by lia) (by rw[XB,<- b];exact e) (by lia) (by rw[hk];exact⟨_,d,q⟩)
def zfm (lo a:Option Int)(n:Nat):(SN lo a none n).1=((HT.sIx n 0 lo:Nat):Int)/\(SN lo a none n).2.1=((HT.sIx n n a:Nat):Int)/\(SN lo a none n).2.2=1:=by
 refine⟨?_,?_,rfl⟩
 .cases lo with
  | none=>simp[SN,HT.sIx]
  | some i =>
   simp only[SN,HT.sIx,Option.getD_none,show (1:Int)>0 by decide,if_true];by_cases h:i<0
   .simp only[h,if_true]<;>lia
   .simp only[h,if_false]<;>lia
 .cases a with
  | none=>simp[SN,HT.sIx]
  | some i =>
   simp only[SN,HT.sIx,Option.getD_none,show (1:Int)>0 by decide,if_true];by_cases h:i<0
   .simp only[h,if_true]<;>lia
   .simp only[h,if_false]<;>lia
def zd4 (a:List Y1)(lo b:Option Int):slicePick a.toArray lo b none=((a.drop (HT.sIx a.length 0 lo)).take (HT.sIx a.length a.length b-HT.sIx a.length 0 lo)).toArray:=by
 obtain⟨h1,h2,c⟩:=zfm lo b a.toArray.size;unfold slicePick;rw[h1,h2,c];simp only[sliceRange_one,pick_run,XB]<;>rfl
def zsK (K:X5):V->Option Int->Option Int->Hp->VK->Prop:=λx lo c H Q=>∃a b,x=.ref a/\SqL K H a b/\∀p,H p=none->Q (.ref p) (upd H p (.lst (zd3 b lo c)))
def zfn:SlR X (zsK X.K):=by
 intro p s z H x v w y lo e u Q I n g l m h;obtain⟨a,c,rfl,i,q⟩:=h;cases n;obtain⟨k,r,f,j⟩:=I.list i;have d:=r.length;refine⟨"list",_,slot_list_getitem.lookup,f.isList.typeIs,?_⟩;refine wpAny_getItem_list_slice f.isList g l m .none (by simp) ?_ (by rw[XB]<;>lia);rw[zd4,<- d];refine⟨.ref s.heap.objs.size,_,I.laid (t':=s.toks) (o:=.lst (zd3 c lo e)) (λb ob q=>X4 _ q) (XX _) ?_,rfl,q _ (I.hok.fresh (XX _))⟩;exact⟨X0 (zgi c lo e) j,_,0,(r.drop (HT.sIx c.length 0 lo)).take (HT.sIx c.length c.length e-HT.sIx c.length 0 lo),Xl _ rfl⟩
def zfo:OpR X (VO .NotIn) (λx y H Q=>∃i j,x=.str i/\y=.str j/\Q (.bl (!(!(Ub j i 0 j.length 1).isEmpty))) H):=by
 intro c s e H x y v u Q I a b h;obtain⟨i,j,rfl,rfl,q⟩:=h;obtain⟨t,rfl⟩:=a;obtain⟨d,rfl⟩:=b;exact notIn_str ⟨.bl _,H,I,rfl,q⟩
def zfp:j3 X (.builtin "len") (λxs H Q=>∃p ys,xs=[.ref p]/\(SqL X.K H p ys\/SqT X.K H p ys)/\Q (.int ys.length) H):=by
 intro g s k H xs j Q I r h;obtain⟨p,ys,rfl,hq,q⟩:=h;obtain⟨u,rfl,f⟩:=vals1 r;cases f;have i:=Y6;rcases hq with hq | hq
 .obtain⟨b,d,c,e⟩:=I.list hq;have a:=d.length;exact Calls.call_len_list c.isList (by simp only[XB]<;>lia) ⟨.int ys.length,H,I.tok _,⟨s.toks+1,by rw[XB,a]⟩,q⟩
 .obtain⟨b,d,c,e⟩:=I.tuple hq;have a:=d.length;exact len_tuple c (by simp only[XB]<;>lia) ⟨.int ys.length,H,I.tok _,⟨s.toks+1,by rw[XB,a]⟩,q⟩
def ju:j3 X (.builtin "len") (λxs H Q=>∃z,xs=[.str z]/\z.length<=Xz/\Q (.int z.length) H):=by
 intro a s e H xs d Q I r h;obtain⟨z,rfl,c,q⟩:=h;obtain⟨u,rfl,t,rfl⟩:=vals1 r;have b:=Y6;exact len_str (by lia) ⟨.int z.length,H,I.tok _,⟨_,rfl⟩,q⟩
def yO:j3 X (.type "list") (λxs H Q=>∃p ys,xs=[.ref p]/\(SqL X.K H p ys\/SqT X.K H p ys)/\∀l,H l=none->Q (.ref l) (upd H l (.lst ys))):=by
 intro A s D H xs E Q I r h;obtain⟨p,ys,rfl,hq,q⟩:=h;obtain⟨u,rfl,B⟩:=vals1 r;cases B;have g:∀(a:List Y1),Vals ys a->ys.length<=Xz->∀(c:Heap) (d:Nat),(∀b z,s.heap.get? b=some z->c.get? b=some z) ->
   c.get? s.heap.objs.size=some { cls:=.type "list",dict:=none,data:=.seq a.toArray d,slots:=#[] }->EP X A D Q (.ref s.heap.objs.size) { s with heap:=c }:=λa f j c d k e =>
  ⟨.ref s.heap.objs.size,_,I.laid (t':=s.toks) k (XX _) (show jd X.prog X.w _ c _ (.lst ys) from ⟨j,a,d,f,e⟩),rfl,q _ (I.hok.fresh (XX _))⟩
 rcases hq with hq | hq
 .obtain⟨a,f,y,j⟩:=I.list hq;have i:=f.length;obtain⟨o,x,m,n,v⟩:=y.isList;exact call_list_seq p (.inl rfl) x m v (λc d k e=>g a f j c d k e) (by simp only[XB]<;>lia)
 .obtain⟨a,f,y,j⟩:=I.tuple hq;have i:=f.length;obtain⟨o,x,m,n,v⟩:=y;exact call_list_seq p (.inr rfl) x m v (λc d k e=>g a f j c d k e) (by simp only[XB]<;>lia)
def tyV (K:X5)(T:String)(x:V)(H:Hp):Prop:=match x with
 | .str _=>T="str"
 | .int _=>T="int"
 | .ref p=>(T="list"/\∃b,SqL K H p b)\/(T="tuple"/\∃o,K.lookup p=some o/\o.cls=.type "tuple"/\o.dict=none) \/
   (T="dict"/\((∃a,H p=some (.dK a))\/∃a,H p=some (.dT a)))\/(T="set"/\∃S n,H p=some (.set S n))
 | _=>False
def zlc {j:List (Addr×Obj)}{q:St}{H:Hp}{s:X8}{T:String}{x:V}{v:Y1}(I:Inv X j q H s)(r:RelV x v)(ty:tyV X.K T x H) :
  s.TypeIs v T/\∀a,v=.ref a->∃ob,s.heap.get? a=some ob/\ob.dict=none:=by
 cases x with
 | str z =>
  obtain⟨t,rfl⟩:=r;cases (show T="str" from ty);exact⟨Ob s z t,λ_ e=>nomatch e⟩
 | int i =>
  obtain⟨t,rfl⟩:=r;cases (show T="int" from ty);exact⟨typeIs_int s i t,λ_ e=>nomatch e⟩
 | ref p =>
  cases r;rcases ty with ⟨rfl,u,l⟩ | ⟨rfl,o,hk,k,f⟩ | ⟨rfl,hk⟩ | ⟨rfl,S,n,hk⟩
  .obtain⟨m,_,h,_⟩:=I.list l;refine⟨h.isList.typeIs,λa e=>?_⟩;cases e;obtain⟨o,n,e,c,f,_⟩:=h;exact⟨o,e,f⟩
  .refine⟨⟨o,I.kIn p o hk,k⟩,λa e=>?_⟩;cases e;exact⟨o,I.kIn _ o hk,f⟩
  .have z:∃o,s.heap.get? p=some o/\o.ExactDict:=by
    rcases hk with ⟨g,hk⟩ | ⟨g,hk⟩
    .refine eY (λ_ _ _ _=>eV λo _ _=>eF λe b _=>?_) (I.hok p _ hk);exact⟨o,e,b⟩
    .refine eY (λ_ _ _ _=>eV λo _ _=>eF λe b _=>?_) (I.hok p _ hk);exact⟨o,e,b⟩
   obtain⟨o,e,b⟩:=z;refine⟨⟨o,e,b.1⟩,λa d=>?_⟩;cases d;exact⟨o,e,b.2.1⟩
  .refine eB (λo _ _ _=>eF λe b _=>?_) (I.hok p _ hk);refine⟨⟨o,e,b.1⟩,λa d=>?_⟩;cases d;exact⟨o,e,b.2.1⟩
 | _=>exact WB ty
def zsL (K:X5)(T:String)(r:V->AF->Hp->VK->Prop)(b:TE):TE:=fun c H Q=>b c H λx a=>tyV K T x a/\r x [] a Q
def tBM (K:X5)(T:String)(r:V->AF->Hp->VK->Prop)(d:TE)(t:TA):TE:=fun b H Q=>d b H λx a=>tyV K T x a/\t b a λe c=>r x e c Q
variable {o e:Expr}{es:List Expr}{to:TE}{t:TA}{name:Str}{apos cpos:Pos}{T id:String}{r:V->AF->Hp->VK->Prop}
def zp0 (m:PlainAttrs T)(c:Slot T name id)(d:typeOf (.builtin id)=pure (.type "method_descriptor"))(k:MtR X id r)(l:PE X o to)
  (a:P9 o name X.env (eval o X.env)=eval o X.env:=by rfl) (b:(apos.endLine==cpos.line)=true:=by rfl):PE X (.Call (.Attribute o name apos) [] [] cpos) (zsL X.K T r to):=by
 intro f s i H Q I h;refine wpAny_Call_method0_late a b (thn (l f s i H _ I h) λv s1 ⟨x,j,e,g,ty,n⟩=>?_);obtain⟨h1,h2⟩:=zlc e g ty;exact⟨T,id,m,c,d,h1,h2,T1 rfl (PySem.evalArgs_none (k f s1 i j x [] v [] Q e g .nil n))⟩
def Y7 (A:PlainAttrs T)(f:Slot T name id)(i:typeOf (.builtin id)=pure (.type "method_descriptor"))(w:MtR X id r)(y:PE X o to)(u:PA X (e::es) t)
  (b:P9 o name X.env (eval o X.env)=eval o X.env:=by rfl)
  (d:((UI cpos (W4 (e::es) X.env)).all (λx=>!x.1)&&(backToKw cpos (NR [] X.env)).all (λx=>x.1.isSome)
   && decide ((e::es).length+([]:List OC).length+(if ([]:List OC).isEmpty then 0 else 1)<30))=true:=by rfl)
  (c:(apos.endLine==cpos.line)=true:=by rfl) (z:W4 (e::es) X.env=(false,eval e X.env)::W4 es X.env:=by rfl) (a:(UI cpos (W4 es X.env)).any (·.1)=false:=by rfl) :
  PE X (.Call (.Attribute o name apos) (e::es) [] cpos) (tBM X.K T r to t):=by
 intro g s j H Q I h;refine Pl b d c rfl (thn (y g s j H _ I h) λv s1 ⟨x,n,k,m,ty,B⟩=>?_);obtain⟨h1,h2⟩:=zlc k m ty;refine⟨T,id,A,f,i,h1,h2,?_⟩;have l:=u cpos g s1 j n _ k B;rw[z]at l ⊢;refine T1 (by show (false || (UI cpos (W4 es X.env)).any (·.1))=false;rw[a]<;>rfl) (Tv ?_);exact thn l λJ G ⟨L,p,q,E,D⟩=>w g G j p x L v J Q q m E D
/- xs.append(e),list.index on a module's tuple .. are MtR facts of 06m -/
end
def MtM (X:Cx)(id:String)(r:V->AF->Hp->VK->Prop):Prop :=
 ∀(a:List (Addr×Obj)) (s:X8) (d:St) (H:Hp) (x:V) (c:AF) (v:Y1) (b:List Y1) (Q:VK),Inv X a d H s->RelV x v->Vals c b->r x c H Q ->
  Xu (Xw X.prog X.w) X.A (call (.builtin id) (v::b)) (EP X a d Q) X.xe s
theorem Vals.one:∀{x:V} {a:List Y1},Vals [x] a->∃u,a=[u]/\RelV x u
 | _,_,.cons r .nil=>⟨_,rfl,r⟩
theorem Vals.zero:∀{a:List Y1},Vals [] a->a=[]
 | _,.nil=>rfl
theorem Vals.reverse {xs:AF}{a:List Y1}(h:Vals xs a):Vals xs.reverse a.reverse:=by
 induction h with
 | nil=>exact .nil
 | cons r t b=>rw[Rb,Rb];exact Vals.append b (.cons r .nil)
theorem Vals.rep {xs:AF}{a:List Y1}(h:Vals xs a):∀k:Nat,Vals (WV k xs).flatten (WV k a).flatten
 | 0=>.nil
 | k+1=>by
  rw[VA,VA,Wy,Wy];exact Vals.append h (Vals.rep h k)
theorem foldl_rep (a:List Y1):∀(k:Nat) (acc:List Y1),
  List.foldl (λc d=>c++d) acc.toArray (WV k a.toArray)=(acc++(WV k a).flatten).toArray
 | 0,acc=>by simp
 | k+1,acc=>by
  have e:acc.toArray++a.toArray=(acc++a).toArray:=by simp
  have b:(acc++a)++(WV k a).flatten=acc++(WV (k+1) a).flatten:=by
   rw[VA,Wy,WY]
  rw[<- b,<- foldl_rep a k (acc++a),<- e,VA,V7]
section
variable {X:Cx}{bQ:List (Addr×Obj)}{σ:St}{H:Hp}{s:X8}{l b:Addr}{xs ys zs:AF}
def Inv.lset {a its':List Y1}{n:Nat}{f:Array Y1->Array Y1}{t':Nat}(I:Inv X bQ σ H s)(b:H l=some (.lst xs))
  (e:s.heap.get? l=some { cls:=.type "list",data:=.seq a.toArray n }) (d:f a.toArray=its'.toArray) (h:Vals ys its') (i:ys.length<=Xz) :
  Inv X bQ σ (upd H l (.lst ys)) { s with heap:=s.heap.update l (UZ f),toks:=t' }:=by
 have q:=PySem.IsL.update e f;rw[d]at q;refine I.write (x:=l) (e:=l) (by rw[b];exact trivial) (.inl rfl) (λj u c g=>(VB s.heap (UZ f) (Va c)).trans g) ⟨_,q⟩ ?_;exact⟨i,its',_,h,q⟩
def Inv.lnew {a:List Y1}{t':Nat}(I:Inv X bQ σ H s)(b:Vals ys a)(c:ys.length<=Xz) :
  Inv X bQ σ (upd H s.heap.objs.size (.lst ys)) { s with heap:=s.heap.push { cls:=.type "list",data:=.seq a.toArray },toks:=t' } :=
 I.laid (λ_ _ q=>X4 _ q) (XX _) ⟨c,a,0,b,Xl _ rfl⟩
theorem Inv.fresh (I:Inv X bQ σ H s):H s.heap.objs.size=none:=I.hok.fresh (XX _)
def Inv.lstM (I:Inv X bQ σ H s)(b:H l=some (.lst xs)):xs.length<=Xz/\∃(a:List Y1) (n:Nat),Vals xs a/\xs.length=a.length/\s.heap.get? l=some { cls:=.type "list",data:=.seq a.toArray n }:=by
 obtain⟨z,a,n,r,e⟩:=I.hok l _ b;exact⟨z,a,n,r,r.length,e⟩
def zgj {n:Nat}(h:n<=Xz):Us n=false:=by
 unfold Us;exact bf (by lia)
end
section
variable {X:Cx}
def znF:V->AF->Hp->VK->Prop:=λx b H Q=>∃l a y,x=.ref l/\b=[y]/\H l=some (.lst a)/\a.length<Xz/\Q .non (upd H l (.lst (a++[y])))
def QC:MtM X "list.append" znF:=by
 intro g s p H x m v k Q I f d h;obtain⟨l,o,y,rfl,rfl,b,j,q⟩:=h;cases f;obtain⟨u,rfl,c⟩:=d.one;obtain⟨z,a,n,r,i,e⟩:=I.lstM b;refine RI F.slot_list_append ⟨_,e,rfl⟩ F.entry_list_append (F.args_list_append_2 _ _) (PySem.list_append l a.toArray n u (by rw[XB];lia)) ⟨e,?_⟩;refine⟨.non,_,I.lset (its':=a++[u]) b e (by simp) (r.append (.cons c .nil)) ?_,rfl,q⟩;rw[XR,O7];lia
def znG:V->AF->Hp->VK->Prop:=λx d H Q=>∃l b a c,x=.ref l/\d=[.ref b]/\H l=some (.lst a)/\H b=some (.lst c)/\a.length+c.length<=Xz/\Q .non (upd H l (.lst (a++c)))
def zbr:MtM X "list.extend" znG:=by
 intro A s N H x G v E Q I y w h;obtain⟨l,b,J,M,rfl,rfl,g,j,D,q⟩:=h;cases y;obtain⟨u,rfl,p⟩:=w.one;cases p;obtain⟨z,c,n,r,B,e⟩:=I.lstM g;obtain⟨L,a,m,o,k,i⟩:=I.lstM j;have f:c.toArray.size+a.toArray.size<=Xz:=by rw[XB,XB];lia
 have d:¬ (!c.toArray.isEmpty&&Us (c.toArray.size+a.toArray.size))=true:=by
  rw[zgj f,OR];exact XS
 refine RI F.slot_list_extend ⟨_,e,rfl⟩ F.entry_list_extend (F.args_list_extend_2 _ _)
  (AutoSeq1.list_extend_list_list_0 l c.toArray n b a.toArray m d (by rw[XB];lia) (by lia)) ⟨e,i,?_⟩
 refine⟨.non,_,I.lset (its':=c++a) g e (by simp) (r.append o) ?_,rfl,q⟩;rw[XR];lia
def zld:V->AF->Hp->VK->Prop:=λx b H Q=>∃l a,x=.ref l/\b=[]/\H l=some (.lst a)/\Q .non (upd H l (.lst a.reverse))
def zhL:MtM X "list.reverse" zld:=by
 intro g s o H x k v j Q I f d h;obtain⟨l,m,rfl,rfl,c,q⟩:=h;cases f;have b:=d.zero;subst b;obtain⟨z,a,n,r,i,e⟩:=I.lstM c;refine RI F.slot_list_reverse ⟨_,e,rfl⟩ F.entry_list_reverse (F.args_list_reverse_1 _) (AutoSeq1.list_reverse_list_0 l a.toArray n (by rw[XB];lia)) ⟨e,?_⟩;refine⟨.non,_,I.lset (its':=a.reverse) c e (by simp) r.reverse ?_,rfl,q⟩;rw[Ur];lia
def zsM:R2:=λx y H Q=>∃l b a c,x=.ref l/\y=.ref b/\H l=some (.lst a)/\H b=some (.lst c)/\a.length+c.length<=Xz/\∀p,H p=none->Q (.ref p) (upd H p (.lst (a++c)))
def Y8:OpR X (Ul .Add) zsM:=by
 intro p s J H x y v u Q I m o h;revert h;refine fh λl b D G z0 z1 i g A q=>?_;subst z0 z1;cases m;cases o;obtain⟨z,c,n,r,w,e⟩:=I.lstM i;obtain⟨E,a,B,k,j,d⟩:=I.lstM g;refine PySem.P.add_list e d ?_ (by rw[XB,XB];lia);have f:c.toArray++a.toArray=(c++a).toArray:=by simp
 rw[f];exact⟨.ref _,_,I.lnew (t':=s.toks) (r.append k) (by rw[XR];lia),rfl,q _ I.fresh⟩
def zsN:R2:=λx y H Q=>∃l k a,x=.ref l/\y=.int k/\H l=some (.lst a)/\-(2^63)<=k/\k<2^63/\a.length*k.toNat<=Xz /\
 ∀p,H p=none->Q (.ref p) (upd H p (.lst (WV k.toNat a).flatten))
def len_rep {α:Type}(xs:List α)(k:Nat):(WV k xs).flatten.length=k*xs.length:=by
 induction k with
 | zero=>simp
 | succ k a=>rw[VA,Wy,XR,a,Nat.succ_mul,Nat.add_comm]
def zhM:OpR X (Ul .Mult) zsN:=by
 intro J s N H x y v u Q I D E h;revert h;refine eL λl k M z0 z1 A h1=>eF λh2 p q=>?_;subst z0 z1;cases D;obtain⟨t,rfl⟩:=E;obtain⟨z,b,n,r,B,e⟩:=I.lstM A;have g:b.toArray.size*k.toNat<=Xz:=by rw[XB,<- B];exact p
 have d:¬ b.toArray.size*k.toNat>(2^63-1)/8:=by
  have:(Xz:Nat)<=(2^63-1)/8:=by decide
  lia
 have f:¬ (!Builtin.List.listFitsIndex k)=true:=by
  rw[fitsIndex_both h1 h2];exact XS
 have c:¬ Us (b.toArray.size*k.toNat)=true:=by
  rw[zgj g];exact XS
 have i:List.foldl (λj o=>j++o) #[] (WV (if b.toArray.isEmpty=true then 0 else k.toNat) b.toArray)=(WV k.toNat b).flatten.toArray:=by
  have w:∀m:Nat,List.foldl (λj o=>j++o) #[] (WV m b.toArray)=(WV m b).flatten.toArray:=λm=>by
   have:=foldl_rep b m [];rw[List.nil_append]at this;exact this
  rw[w];cases b with
  | nil=>simp
  | cons a L=>rw[bq (by simp)]
 refine wpAny_binaryOp_repeat_ref (T:="list") (U:="int") (by decide) ⟨_,e,rfl⟩ (λG=>typeIs_int G k t) noFill_list_mul F.fills_int_mul F.slot_int_rmul repeat_list F.slot_int_index.lookup
  (RI F.slot_int_rmul (typeIs_int s k t) F.entry_int_rmul (F.args_int_rmul_2 _ _) (int___rmul___int_list k t l b.toArray n)
   ⟨e,rfl,⟨_,e,rfl⟩,RI F.slot_list_mul ⟨_,e,rfl⟩ F.entry_list_mul (F.args_list_mul_2 _ _) (AutoListH.list___mul___list_int_3 l b.toArray n k t f d c) ⟨e,?_⟩⟩)
 rw[i];exact⟨.ref _,_,I.lnew (t':=s.toks) (r.rep k.toNat) (by rw[len_rep,Pr];exact p),rfl,q _ I.fresh⟩
end
end L2
namespace Att
open PySem PySem.W PySem.Calls PyProof.Rows
def zcg {P:NW}{h:Heap}:∀(c:List Int) (vs:List Y1),WellAll P h vs (c.map WData.int)->OB vs c:=by
 intro c;induction c with
 | nil =>
  intro vs w;rw[N2]at w;cases w;exact .nil
 | cons n c d =>
  intro vs w;rw[Xh]at w;cases w with
  | cons a b =>
   cases a;exact .cons _ _ (d _ b)
def zjX {l:OpenLaw}{n:Nat}(s:l.most=some n){P:NW}{h:Heap}{args:List WData}{e:List Y1}
  (c:l.row.toRowW.claim.pre args=true) (m:WellAll P h e args) :
  ∃a vs b,e=[WN a]/\args=[WData.list (b.map WData.int)]/\h.get? a=some { cls:=.type "list",data:=.seq vs.toArray }/\OB vs b/\b.length<=n:=by
 have k:WShape.hasAll [] args [.list .int]=true:=(pre_splitW c).1;have o:l.pre.holds [] { args:=args }=true:=(pre_splitW c).2;obtain⟨d,r,rfl,h1,h2⟩:=hasAllW_cons k;obtain rfl:=hasAllW_nil h2;obtain⟨y,rfl,p⟩:=hasW_list h1;obtain⟨b,rfl⟩:=items_int p;have g:b.length<=n:=by
  unfold OpenLaw.pre at o;have i:(WTm.not (.lt (.lit (.int (n:Int))) (.len (.arg 0)))).holds [] { args:=[.list (b.map .int)] }=true:=by
   have i:=(holds_andW o).1;rw[s]at i;exact i
  have j:=condW_of i (w_not (w_lt w_lit (w_len_list (w_arg rfl))));rw[X9]at j;refine Nat.le_of_not_lt λq=>?_;have v:(n:Int)<((b.length:Nat):Int):=by lia
  first
   | (rw[br v]at j;exact absurd j (by decide))
   | (simp at j;lia)
 cases m with
 | cons w x =>
  cases x;cases w with
  | list u f=>exact⟨_,_,b,rfl,rfl,u,zcg b _ f,g⟩
def zjY (l:OpenLaw)(args:List WData):l.row.toRowW.claim.post args (.bool true) args=true :=
 postW_of (r:=l.row.toRowW) (X:=(true==true))
  (show WShape.has [] (.bool true) .bool=true by first | rfl | decide | simp[WShape.has,WShape.arms,WShape.armsAll])
  (show (WTm.eq .res (.lit (.bool true))).value [] { args:=args,res:=some (.bool true),after:=args }=some (.bool (true==true)) from w_eq_bool (w_res rfl) w_lit) rfl
end Att
namespace L2
open PySem PySem.Spec PyProof.Rows
theorem zez:∀{vs:List Y1} {a:List Int},OB vs a->Vals (a.map V.int) vs
 | _,_,.nil=>.nil
 | _,_,.cons n t h=>.cons ⟨t,rfl⟩ (zez h)
def zp1 (H:Hp):Prop:=∀b,H b=none\/∃o a,H b=some (.frz o (.lst a))
end L2
/- THE LAST THEOREM (shape;LID,My.* are yours):
   My.Adr: a structure of the addresses that your layer names (classes,functions);My.Txt K t: a structure (Prop) of the equations over K;
   My.txt_mk:{K} {implicit addresses ..} (e1:nsIn K XY "law"=some (some (.ref f))) (e2:K.lookup f=some ⟨oc,od,.func (fnOf "law" "law" params body scope dV kV doc pm an cdv ct),sl⟩) (e3:codeIn K cdv "law"=true) ..:∃t,My.Txt K t
set_option maxRecDepth 100000 in
set_option maxHeartbeats 0 in
theorem PySem.Challenge.cw_LID_holds : PySem.Challenge.rw_LID.Holds := by
 w_on;o_law;k_head;(case hw=>w_witness2);k_fill;refine L2.walk_of (l:=PySem.Challenge.rw_LID) (n:=63) (k:=40) (x:="script") (CX:=λw=>..) (sp:=λ_=>My.zsO) rfl (by decide) rfl ⟨rfl,by decide,by decide⟩ (λw h Y=>PySem.W.kIn_of Y) ?F ?S ?C
 case F =>
  intro w mg fa h KX G hmg
  have T:∃t,My.Txt (L2.KOf KX) t:=by
   dsimp only[L2.KOf]                          -- K must stand as «<heap const> w.params» for k_is;refine' My.txt_mk ?e1 ?e2 ?e3 ..;(case e1=>PySem.W.k_is)                    -- in the order: a name->its address->its object->its parts;(case e2=>PySem.W.k_is);..
  obtain⟨t,T⟩:=T
  have e0:=hmg.symm.trans (WR KX G T.law)
  cases e0                                       -- fa is the law's own address
  exact⟨_,λs u=>.of_eq rfl,λbase kb nb=>My.law_fn T kb nb⟩     -- if «.of_eq rfl» comes too early: refine' ⟨_,?b,λbase kb nb=>My.law_fn T kb nb⟩;exact λs u=>.of_eq rfl
 case S=>exact λw H a ns hl hO hS=>..
 case C=>exact ..
(the tactic k_is has no namespace: write k_is) -/
namespace L2
open PySem PySem.Spec PyProof.Rows
def yg (s:Stmt):NV:=match s with
 | .FunctionDef _ a _ _ _ _ _ _ _ _=>a
 | _=>{ posonlyargs:=[],args:=[],vararg:=none,kwonlyargs:=[],kw_defaults:=[],kwarg:=none,defaults:=[] }
def jr (s:Stmt):List Stmt:=match s with
 | .FunctionDef _ _ b _ _ _ _ _ _ _=>b
 | _=>[]
def ze (s:Stmt):Vr:=match s with
 | .FunctionDef _ _ _ _ _ _ a _ _ _=>a
 | _=>{ kind:=.function,names:=[],isGenerator:=false,isCoroutine:=false }
abbrev CX0:CXT:=λ_ _ _ _ _ _=>False
abbrev E0:XK:=λ_ _ _=>False
def zpa {X:Cx}:Passes CX0 X E0:=λ_ _ _ _ _ _ _ h=>h.elim
structure Fun (K:X5)(x qual:Str)(st:Stmt)(f:Addr)(fd:XM):Prop where
 ex:∃(oc:Y1) (od:Option Addr) (kV doc pm:Y1) (an:Option Addr) (cdv ct:Y1) (osl:Array (Option Y1)),
  fd=VV x qual (yg st) (jr st) (ze st) .none kV doc pm an cdv ct/\K.lookup f=some ⟨oc,od,.func fd,osl⟩/\U6 K cdv qual=true
 kp:Vp K (.ref f)=true
section
variable {P:Xr}{w:Xe}{K:X5}{mg:Str->Option Y1}{base:Heap}
theorem cxK {CX P w K mg base N q sc f cd A o s H E}:(zbq CX P w K mg base N q sc f cd A o s H E).K=K:=rfl
theorem cxP {CX P w K mg base N q sc f cd A o s H E}:(zbq CX P w K mg base N q sc f cd A o s H E).prog=P:=rfl
theorem cxW {CX P w K mg base N q sc f cd A o s H E}:(zbq CX P w K mg base N q sc f cd A o s H E).w=w:=rfl
def Fun.ok {x b:Str}{st:Stmt}{f:Addr}{i:XM}{N ps:AE}{k:Nat}{sp:Sp}(F:Fun K x b st f i)(S:zD N ps (ze st))(len:∀vs H Q E,sp vs H Q E->vs.length=ps.length)
  (d:∀(c:Y1) (A:W1) (a:List Env) (s:X8) (H:Hp) (vs:AF) (Q:VK) (E:XK),xh k (A.deeper (RW b (ze st) s.heap.objs.size f c))->sp vs H Q E ->
   ∃t,PSs (zbq CX0 P w K mg base N b (ze st) f c A a s H E).nox (jr st) t/\t { nx:=λ_ j=>Q .non j,rt:=Q } (start N vs) H):qz P w K mg base CX0 (k+1) f i ps sp:=by
 obtain⟨r,u,kV,doc,v,o,c,p,n,rfl,m,e⟩:=F.ex;refine zo8 m e S len λA a s H vs Q E l g=>?_;obtain⟨t,h,q⟩:=d c A a s H vs Q E l g;exact⟨t,h.nox,q⟩
def Fun.binds {x a:Str}{st:Stmt}{f:Addr}{i:XM}{ps:AE}(F:Fun K x a st f i)
  (h:∀(kV doc e:Y1) (c:Option Addr) (b d:Y1) (g:List Y1),g.length=ps.length->N5 (VV x a (yg st) (jr st) (ze st) .none kV doc e c b d) ⟨g,[]⟩=pure (ps.zip g)):Binds K i ps []:=by
 obtain⟨m,n,kV,doc,e,c,b,d,k,rfl,l,j⟩:=F.ex;exact .all (h kV doc e c b d)
def zlf {x a:Str}{st:Stmt}{f:Addr}{i:Y1}{j e:Option Addr}{d:Array (Option Y1)}{kV doc h b g:Y1}(l:K.lookup f=some ⟨i,j,.func (VV x a (yg st) (jr st) (ze st) .none kV doc h e b g),d⟩)
  (c:U6 K b a=true) (k:Vp K (.ref f)=true):Fun K x a st f (VV x a (yg st) (jr st) (ze st) .none kV doc h e b g):=⟨⟨i,j,kV,doc,h,e,b,g,d,rfl,l,c⟩,k⟩
end
section
variable {X:Cx}
def pv (i:Nat){x:Str}{pos:Pos}(b:X.N[i]?=some x:=by rfl)(d:Vis X.env.scope x:=by first | exact XI rfl | exact UH (XI rfl) | exact UH (UH rfl))(c:(x==("__debug__":Str))=false:=by decide)
  (a:(x==("__classdict__":Str))=false:=by decide):PE X (.Name x pos) (zrk i):=zpK b d c a
end
def QW {A B:Prop}(h:B):if false=true then A else B:=by
 rw[bq XS];exact h
def zbs {A B:Prop}(h:A):if true=true then A else B:=by
 rw[bw rfl];exact h
def zch {c A B:Prop} [Decidable c](h1:c->A)(h2:¬ c->B):if c then A else B:=by
 by_cases h:c
 .rw[bw h];exact h1 h
 .rw[bq h];exact h2 h
def zpb {c A B:Prop} [Decidable c](a:c)(h:B):if (!decide c)=true then A else B:=by
 rw[br a];exact QW h
def zu (H a:Hp):Prop:=∀b o,H b=some o->a b=some o
def zu.refl (H:Hp):zu H H:=λ_ _ h=>h
def zu.trans {H d e:Hp}(a:zu H d)(b:zu d e):zu H e:=λc o h=>b c o (a c o h)
def zu.free {H a:Hp}(e:zu H a){l:Addr}(h:a l=Option.none):H l=Option.none:=by
 cases q:H l with
 | none=>rfl
 | some o =>
  rw[e l o q]at h;cases h
def zu.seq {K:X5}{H b:Hp}{a:Addr}{xs:AF}(e:zu H b)(h:SqL K H a xs):SqL K b a xs:=by
 rcases h with (h | ⟨o,h⟩) | h
 .exact .inl (.inl (e _ _ h))
 .exact .inl (.inr ⟨o,e _ _ h⟩)
 .exact .inr h
end L2
set_option maxHeartbeats 4000000
namespace L2
open PySem PySem.Spec PyProof.Rows
section
variable {X:Cx}
def Zd:OpR X (Ul .Mult) (rI NI λi j=>.int (i*j)):=opI λ_ _ _ _ _ _ _ a q=>mul_int q a
def jE (_ j:Int):Prop:=0<j/\j.natAbs.log2<9000
def zlg:OpR X (Ul .FloorDiv) (rI jE λi j=>.int (i/j)):=opI λi j _ _ _ _ _ a q=>by
 have h1:(0:Int)<j:=a.1;exact floordiv_int (by lia) (by rw[Int.fdiv_eq_ediv_of_nonneg i (by lia)];exact q) (.inl (PyProof.noPylong_of_log2 a.2))
def jE.small {i j:Int}(h:0<j)(h':j<1073741824):jE i j:=by
 refine⟨h,?_⟩;have h0:j.natAbs≠0:=by lia
 have:j.natAbs.log2<30:=(Nat.log2_lt h0).mpr (by lia);lia
def jE.big {i j:Int}(h:0<j)(h':j.natAbs<2^8000):jE i j:=by
 refine⟨h,?_⟩;have h0:j.natAbs≠0:=by lia
 have:j.natAbs.log2<8000:=(Nat.log2_lt h0).mpr h';lia
def zrI {i j:Int}(h1:-(2^64)<j)(h2:j<2^64):NI i j:=IntMulOk.of_right (intBits_le_64 h1 h2)
def mulL {i j:Int}(h1:-(2^64)<i)(h2:i<2^64):NI i j:=IntMulOk.of_left (intBits_le_64 h1 h2)
def zrJ {i j:Int}(h1:i.natAbs<2^8000)(h2:j.natAbs<2^8000):NI i j:=IntMulOk.of_le (m:=8000) (n:=8000) (intBits_le_iff.mpr h1) (intBits_le_iff.mpr h2) (by decide)
def zrK (T U:String):Option Bool:=if (Pw T==Pw U)=true then some true else if PySem.W.kitMeta U=true then (fastBuiltinMro T).map (·.contains (.type U)) else none
def zp2 (K:X5){T U:String}{b:Bool}(e:zrK T U=some b):Xg K (.type T) (.type U)=some b:=e
def zgk:j3 X (.builtin "isinstance") (λxs H Q=>∃x T U b,xs=[x,.ty U]/\zbp X.K H x (.type T)/\zrK T U=some b/\Q (.bl b) H):=by
 intro f s j H xs g Q I r h;obtain⟨x,T,U,b,rfl,ty,e,q⟩:=h;obtain⟨u,i,rfl,c,a⟩:=vals2 r;cases a;exact zjW I c ty (zp2 X.K e) λd=>⟨.bl b,H,I.tok d,rfl,q⟩
end
def jX {b:Bool}{A B:Prop}(e:b=true)(h:A):if b=true then A else B:=by
 rw[bw e];exact h
def jA {b:Bool}{A B:Prop}(e:b=false)(h:B):if b=true then A else B:=by
 subst e;exact QW h
structure zj (K:X5)(mg:Str->Option Y1)(x:Str)(st:Stmt)(ps:AE)(f:Addr)(fd:XM):Prop where
 F:Fun K x x st f fd
 g:mg x=some (.ref f)
 b:Binds K fd ps []
def Zw {α:Type}{xs:List α}{i:Int}{v:α}(h:0<=i)(e:xs[i.toNat]?=some v):atI xs i=some v:=by
 have:=QB e;rwa [Vz h]at this
def zrL (t u:TS):TS:=λD c H=>∃M:St->Hp->Prop,t { D with nx:=M } c H/\∀ a b,M a b->u D a b
def zaE {X:Cx}{st:Stmt}{a:List Stmt}{t u:TS}(h1:PS X st t)(h2:PSs X a u):PSs X (st::a) (zrL t u):=by
 intro d s k H D I h;obtain⟨M,g,i⟩:=h;refine Vg (thn (h1 d s k H _ I g) λf s1 q=>?_);cases f with
 | next =>
  obtain⟨b,c,e,j⟩:=q;exact h2 d s1 b c D e (i b c j)
 | brk=>exact q
 | cont=>exact q
 | ret v=>exact q
def zd {H:Hp}{l:Addr}{o:HO}(h:H l=none):zu H (upd H l o):=λb u e=>by rw[zo (zk e h)];exact e
def Its (x:Str):It:=⟨λi _=>i<x.cps.size,λi H v a=>a=H/\∃c,x.cps[i]?=some c/\v=.str ⟨#[c]⟩,λi _=>i=x.cps.size⟩
def zgl {P:Xr}{w:Xe}{K:X5}{tg:Expr}(it:Addr)(x:Str)(t:Tok)(n:String)
  (hn:["enumerate","zip","dict_itemiterator","dict_reverseitemiterator","odict_iterator","itertools.zip_longest","itertools.pairwise"].contains n=false)
  (W:∀A':W1,A'.handled=none->Walks P w A' it [it] [it] x.cps.size (SignAt x) (λi h=>h.IsStrIter it n x t i))
  (S:∀(A:W1) (i:Nat) (s:X8) (Q:Y1->X8->Prop) (E:Y1->X8->Prop),s.heap.IsStrIter it n x t i->Q (.ref it) s->Xu (Xw P w) A (Of (.ref it)) Q E s) :
  Turn P w K tg (Its x) [it] it (λi h=>h.IsStrIter it n x t i) where
 mem:=by simp
 obj:=λi h st b hb=>by
  have e:b=it:=by simpa using hb
  subst e;obtain⟨o,e,c,d⟩:=st;exact⟨o,e,λv z=>by rw[d]at z;cases z⟩
 keep:=λi h h' st k=>by
  obtain⟨o,e,r⟩:=st;exact⟨o,k it (by simp) o e,r⟩
 item:=by
  intro X hP hw hK hc i bQ s σ H E I hf st hg;subst hP hw hK;obtain⟨f0,f1,f2,f3,f4,f5⟩:=hf it (by simp);refine(W X.A (I.ok.hd hc)).item i s _ _ hg st λv h' tk hv st' kk=>?_;obtain⟨c,u,hx,rfl⟩:=hv;have I1:Inv X bQ σ H { s with heap:=h',toks:=tk }:=I.turned (λb o hb e=>kk b o (by simpa using hb) e) f0 f1 f3 f4 f5;obtain⟨o,e,c1,d1⟩:=id st';exact⟨_,rfl,zk7 (s:={ s with heap:=h',toks:=tk }) e c1 d1 hn ⟨.str ⟨#[c]⟩,H,I1,⟨u,rfl⟩,⟨rfl,c,hx,rfl⟩,st',λb hb=>(hf b hb).1⟩⟩
 done:=by
  intro X hP hw hK hc i bQ s σ H E I hf st hg;subst hP hw hK;obtain⟨f0,f1,f2,f3,f4,f5⟩:=hf it (by simp);have e:i=x.cps.size:=hg;subst e;exact(W X.A (I.ok.hd hc)).done s _ E st λh' tk kk=>⟨rfl,I.turned (λb o hb e=>kk b o (by simpa using hb) e) f0 f1 f3 f4 f5⟩
 self:=λA i s Q E st h=>S A i s Q E st h
section
variable {X:Cx}{tg:Expr}
def zsP (tl:TE):TI:=fun b H R=>tl b H λx a=>∃z,x=.str z/\R (Its z) a
def zp3 {l:Expr}{tl:TE}(k:PE X l tl):PI X tg l (zsP tl):=by
 intro f s p H R I h;refine thn (k f s p H _ I h) λv s1 ⟨x,c,a,n,m⟩=>?_;obtain⟨z,rfl,q⟩:=m;obtain⟨t,rfl⟩:=n;have g:∀b ∈ [s1.heap.objs.size],Yq X f c b:=λb j=>by
  have e:b=s1.heap.objs.size:=by simpa using j
  subst e;exact a.fpOk (XX _) (a.hok.fresh (XX _))
 cases ha:z.cps.all (· < 128)
 .refine wpAny_pyIter_wide ha ?_;exact⟨s1.heap.objs.size,[s1.heap.objs.size],_,_,c,rfl,a.kept (t':=s1.toks) λb o e=>X4 _ e,zgl _ z t "str_iterator" (by decide) (λi d=>Walks.strWide d _ z t) (λ_ _ _ _ _ st h=>wpAny_pyIter_striter_wide st h),⟨_,Xl _ rfl,rfl,rfl⟩,g,q⟩
 .refine wpAny_pyIter_ascii ha ?_;exact⟨s1.heap.objs.size,[s1.heap.objs.size],_,_,c,rfl,a.kept (t':=s1.toks) λb o e=>X4 _ e,zgl _ z t "str_ascii_iterator" (by decide) (λi d=>Walks.strAscii d _ z t) (λ_ _ _ _ _ st h=>wpAny_pyIter_striter_ascii st h),⟨_,Xl _ rfl,rfl,rfl⟩,g,q⟩
end
def znH {x:Str}{g:TG}{l:TS}{D:Ends}{a:St}{H:Hp}(Pv:Nat->St->Hp->Prop)(h0:Pv 0 a H)
  (q:∀i c a H,x.cps[i]?=some c->Pv i a H->g (.str ⟨#[c]⟩) a H fun f j=>l { D with nx:=Pv (i+1),ct:=Pv (i+1),bk:=D.nx } f j) (o:∀ a H,Pv x.cps.size a H->D.nx a H) :
  ∃W:Nat->Nat->St->Hp->Prop,(∃m,W 0 m a H)/\∀i m a H,W i m a H ->
   ((Its x).stop i H/\D.nx a H)\/((Its x).go i H/\∃N:St->Hp->Prop,(∀ d b,N d b->∃k,k<m/\W (i+1) k d b)/\∀v b,(Its x).yld i H v b->g v a b fun f j=>l { D with nx:=N,ct:=N,bk:=D.nx } f j):=by
 refine⟨λi m a H=>m=x.cps.size-i/\i<=x.cps.size/\Pv i a H,⟨x.cps.size,by simp,WZ _,h0⟩,?_⟩;rintro i m a H ⟨rfl,s,p⟩;by_cases h:i<x.cps.size
 .refine .inr ⟨h,Pv (i+1),fun d b r=>⟨x.cps.size-(i+1),by lia,rfl,h,r⟩,λv b y=>?_⟩;obtain⟨e,c,n,rfl⟩:=y;subst e;exact q i c a _ n p
 .have e:i=x.cps.size:=by lia
  subst e;exact .inl ⟨rfl,o a H p⟩
mutual
inductive Rdv (K:X5)(H:Hp):V->Wf->Prop
 | non:Rdv K H .non .none
 | bl (b:Bool):Rdv K H (.bl b) (.bool b)
 | int (i:Int):Rdv K H (.int i) (.int i)
 | str (x:Str):Rdv K H (.str x) (.str x)
 | lst {a:Addr} {xs:AF} {ds:List Wf}:SqL K H a xs->Je K H xs ds->Rdv K H (.ref a) (.list ds)
 | tup {a:Addr} {xs:AF} {ds:List Wf}:SqT K H a xs->Je K H xs ds->Rdv K H (.ref a) (.tuple ds)
inductive Je (K:X5)(H:Hp):AF->List Wf->Prop
 | nil:Je K H [] []
 | cons {x:V} {d:Wf} {xs:AF} {ds:List Wf}:Rdv K H x d->Je K H xs ds->Je K H (x::xs) (d::ds)
end
section
variable {X:Cx}{bQ:List (Addr×Obj)}{σ:St}{H:Hp}{s:X8}
def zjZ {a:Addr}{xs:AF}{b:List Wf}(I:Inv X bQ σ H s)(g:SqL X.K H a xs)(h:∀c,Vals xs c->∃as,N4 s.heap c b as):∀u,RelV (.ref a) u->∃as,Reads s.heap u (.list b) as:=by
 intro u r;cases r;obtain⟨i,k,p,l⟩:=I.list g;obtain⟨as,j⟩:=h _ k;obtain⟨o,f,d,n,e⟩:=p.isList;exact⟨_,.list f d e (by simpa using j)⟩
def zj0 {a:Addr}{xs:AF}{b:List Wf}(I:Inv X bQ σ H s)(g:SqT X.K H a xs)(h:∀c,Vals xs c->∃as,N4 s.heap c b as):∀u,RelV (.ref a) u->∃as,Reads s.heap u (.tuple b) as:=by
 intro u r;cases r;obtain⟨i,k,p,l⟩:=I.tuple g;obtain⟨as,j⟩:=h _ k;obtain⟨o,f,d,n,e⟩:=p;exact⟨_,.tuple f d e (by simpa using j)⟩
def zhN {v:V}{vs:AF}{d:Wf}{b:List Wf}(h:∀u,RelV v u->∃as,Reads s.heap u d as)(t:∀a,Vals vs a->∃as,N4 s.heap a b as):∀a,Vals (v::vs) a->∃as,N4 s.heap a (d::b) as:=by
 intro a r;cases r with
 | cons c e =>
  obtain⟨as,f⟩:=h _ c;obtain⟨bs,g⟩:=t _ e;exact⟨_,.cons f g⟩
def Rdv.reads (I:Inv X bQ σ H s){v:V}{d:Wf}{u:Y1}(h:Rdv X.K H v d):RelV v u->∃as,Reads s.heap u d as :=
 Rdv.rec (motive_1:=λv d _=>∀u,RelV v u->∃as,Reads s.heap u d as) (motive_2:=λf e _=>∀c,Vals f c->∃as,N4 s.heap c e as)
  (λu r=>by cases r;exact⟨_,.none⟩) (λb u r=>by cases r;exact⟨_,.bool b⟩) (λi u r=>by obtain⟨t,rfl⟩:=r;exact⟨_,.int i t⟩) (λx u r=>by obtain⟨t,rfl⟩:=r;exact⟨_,.str x t⟩)
  (λa _ h=>zjZ I a h) (λa _ h=>zj0 I a h) (λc r=>by cases r;exact⟨_,.nil⟩) (λ_ _ h t=>zhN h t) h u
structure zfq (x y:Wf):Prop where
 l1:x.canLay0=true
 l2:y.canLay0=true
 dp:x.depth<=64
def zp4 (K:X5)(neg:Bool):R2:=λx y H Q=>∃a b,Rdv K H x a/\Rdv K H y b/\zfq a b/\Q (.bl (if neg then !PyData.eqv a b else W8 a b)) H
def xo (k:X.A.units+64<U7):OpR X (VO .Eq) (zp4 X.K false):=by
 intro bQ s σ H x y v u Q I f g h;obtain⟨i,j,a,b,c,q⟩:=h;obtain⟨as,d⟩:=a.reads I f;obtain⟨bs,e⟩:=b.reads I g;have:=c.dp;exact SeqAt.compareEq_reads d e c.l1 c.l2 (by lia) ⟨.bl _,H,I,rfl,q⟩
def yx (k:X.A.units+64<U7):OpR X (VO .NotEq) (zp4 X.K true):=by
 intro bQ s σ H x y v u Q I f g h;obtain⟨i,j,a,b,c,q⟩:=h;obtain⟨as,d⟩:=a.reads I f;obtain⟨bs,e⟩:=b.reads I g;have:=c.dp;exact SeqAt.compareNe_reads d e c.l1 c.l2 (by lia) ⟨.bl _,H,I,rfl,q⟩
def zp5 (K:X5)(neg:Bool):R2:=λx y H Q=>∃d a,Rdv K H x d/\Rdv K H y (.list a)/\d.canLay0=true/\Wd a=true/\d.depth<=60/\Q (.bl (if neg then !a.any (λz=>W8 z d) else a.any λz=>W8 z d)) H
def zcP (m:X.A.units+64<U7):OpR X (VO .In) (zp5 X.K false):=by
 intro bQ s σ H x y v u Q I i j h;obtain⟨d,l,c,e,a,b,k,q⟩:=h;obtain⟨as,f⟩:=c.reads I i;obtain⟨bs,g⟩:=e.reads I j;exact SeqAt.in_list_reads g f b a (by lia) ⟨.bl _,H,I,rfl,q⟩
def zd5 (m:X.A.units+64<U7):OpR X (VO .NotIn) (zp5 X.K true):=by
 intro bQ s σ H x y v u Q I i j h;obtain⟨d,l,c,e,a,b,k,q⟩:=h;obtain⟨as,f⟩:=c.reads I i;obtain⟨bs,g⟩:=e.reads I j;exact SeqAt.notIn_list_reads g f b a (by lia) ⟨.bl _,H,I,rfl,q⟩
end
def qM (X:Cx)(N:AE)(scope:Vr)(cl:List (Str×Addr))(C:Addr)(fp:List Addr)(bQ:List (Addr×Obj))(s:X8)(H:Hp):Cx where
 prog:=X.prog
 w:=X.w
 K:=X.K
 mg:=X.mg
 base:=X.base
 A:=X.A
 N:=N
 s₀:=s
 H₀:=H
 env:=UX scope cl C X.env
 outer:=X.stack
 stack:=X.stack
 ex:=fp
 fn:=λ_=>false
 calm:=X.calm
 pn:=X.pn++bQ
 xe:=λ_ _=>False
def pull (src:List (Option Nat))(a:St):St:=src.map λo=>match o with
 | some j=>(a[j]?).getD none
 | none=>none
structure zV (X:Cx)(N:AE)(src:List (Option Nat))(scope:Vr)(cl:List (Str×Addr)):Prop where
 kind:scope.kind=.function
 nocell:∀y∈scope.names,y.2 ≠ .cell
 names:∀y∈scope.names,y.2=.local->scope.names.lookup y.1=some .local
 clos:RG scope X.env=pure cl
 sub:∀x c,cl.lookup x=some c->X.env.cells.lookup x=some c
 has:∀x,((Vx scope X.env).names.lookup x=some .cell\/(Vx scope X.env).names.lookup x=some .free)->∃c,cl.lookup x=some c
 len:src.length=N.length
 pulls:∀(i j:Nat) (x:Str),N[i]?=some x->src[i]?=some (some j)->X.N[j]?=some x/\(X.env.kindOf x=some .cell\/X.env.kindOf x=some .free)/\((Vx scope X.env).names.lookup x=some .cell\/(Vx scope X.env).names.lookup x=some .free)
def zd6 {a:Vr}{b:Env}(d:∀y∈a.names,y.2 ≠ .free):(Vx a b).names=a.names:=by
 show a.names.map _=a.names;refine map_eq_self λx c=>?_;obtain⟨n,k⟩:=x;have:(k==NameKind.free)=false:=by simpa using d _ c
 simp[this]
def zV.plain {X:Cx}{N:AE}{src:List (Option Nat)}{scope:Vr}(kind:scope.kind=.function)(nocell:∀y∈scope.names,y.2 ≠ .cell)(nofree:∀y∈scope.names,y.2 ≠ .free)
  (names:∀y∈scope.names,y.2=.local->scope.names.lookup y.1=some .local) (len:src.length=N.length) (none:∀o∈src,o=none):zV X N src scope [] where
 kind:=kind
 nocell:=nocell
 names:=names
 clos:=closureFor_none nofree
 sub:=λx c h=>nomatch h
 has:=λx h=>by
  rw[zd6 nofree]at h;rcases h with h | h
  .exact absurd rfl (nocell _ (WK h))
  .exact absurd rfl (nofree _ (WK h))
 len:=len
 pulls:=λi j x _ h=>by
  have:=none _ (X7 h);cases this
def zci (X:Cx)(a:List Expr)(t:TT):Prop :=
 ∀(d:List (Addr×Obj)) (s:X8) (b:St) (H:Hp) (Q:Bool->Hp->Prop),Inv X d b H s->t b H Q ->
  Xu (Xw X.prog X.w) X.A (forIn a true λc r=>if r=true then do let ok <- isTrue c X.env (eval c X.env);pure (Vk ok) else pure (Vk r)) (TP X d b Q) X.xe s
def zlh:TT:=λ_ H Q=>Q true H
def qV {X:Cx}:zci X [] zlh:=λ_ _ _ H _ I h=>wpAny_tests_nil ⟨H,I,h⟩
def qN {X:Cx}{c:Expr}{t:TT}(h:PT X c t):zci X [c] t:=λa s d H Q I b=>wpAny_tests_one (h a s d H Q I b)
def xX (J:It)(g:TG)(r:TT)(s:TE)(Q:VK)(D:Addr)(j:St)(p:Hp):Prop :=
 ∃W:Nat->Nat->St->Hp->Prop,(∃m,W 0 m j p)/\∀i m f d,W i m f d ->
  (J.stop i d/\Q (.ref D) d)\/(J.go i d/\∃N:St->Hp->Prop,(∀ c e,N c e->∃o,o<m/\W (i+1) o c e) /\
   ∀x k,J.yld i d x k->g x f k fun a q=>r a q λb l=>if b=true then s a l λy n=>∃h,n D=some (.lst h)/\h.length<Xz/\N a (upd n D (.lst (h++[y]))) else N a l)
def zbZ (e:TI)(src:List (Option Nat))(g:TG)(c:TT)(d:TE):TE:=fun b H Q=>e b H λJ a=>∀D,a D=none->xX J g c d Q D (pull src b) (upd a D (.lst []))
def Un.but {fs i:List Addr}{H g:Hp}{h h1 h2:Heap}{C:Addr}(u:Un fs i H g h h1)(j:h.objs.size<=C)(f:VU C h1 h2):Un fs i H g h h2:=by
 have d:∀b o,h.get? b=some o->b≠C:=λb o e=>Xm (Xs (XH e) j);refine⟨λb o e n c a=>(f.2 b (d b o e)).trans (u.keep b o e n c a),λb o e n c a=>?_,u.free,λb o e a=>?_,u.tups,u.frzs,u.tbls⟩
 .obtain⟨l,q⟩:=u.slot b o e n c a;exact⟨l,(f.2 b (d b o e)).trans q⟩
 .obtain⟨k,q⟩:=u.there b o e a;exact⟨k,(f.2 b (d b o e)).trans q⟩
def HOk.but {P:Xr}{w:Xe}{H:Hp}{h h':Heap}{C:Addr}(ok:HOk P w H h)(a:H C=none)(d:VU C h h'):HOk P w H h':=λb ob e=>by
 refine(ok b ob e).stay (λc f hc q=>(d.2 c ?_).trans q) (λ_ q=>q) λ_ _ q=>q;rintro rfl;rcases hc with rfl | hc
 .rw[a]at e;cases e
 .rw[a]at hc;cases hc
section
variable {X:Cx}{tg iter elt:Expr}{ifs:List Expr}{scope:Vr}{pos:Pos}{N:AE}{src:List (Option Nat)}{cl:List (Str×Addr)}{wi:TI}{g:TG}{tc:TT}{te:TE}
def Ys {h:List (Addr×Obj)}{A:St}{H:Hp}{s:X8}{fp:List Addr}{h1:Heap}{C:Addr}{tk:Nat}(ok:zV X N src scope cl)(I:Inv X h A H s)(B:∀b∈fp,Yq X h H b)(ho:∀b∈fp,∃o,s.heap.get? b=some o)
  (E:C=s.heap.objs.size+1) (k:∀b u,s.heap.get? b=some u->h1.get? b=some u) (hD:h1.get? s.heap.objs.size=some { cls:=.type "list",data:=.seq #[] }) {m:Str->Option Y1} (hn:h1.Ns C m) :
  Inv (qM X N scope cl C fp h s H) [] (pull src A) (upd H s.heap.objs.size (.lst [])) { s with heap:=h1,toks:=tk }:=by
 have lt:∀b o,s.heap.get? b=some o->b<s.heap.objs.size:=λb o e=>XH e;have Y:∀b o,s.heap.get? b=some o->b≠C:=λb o e=>by rw[E];exact Xm (WH (lt b o e))
 have nD:∀b o,s.heap.get? b=some o->b≠s.heap.objs.size:=λb o e=>Xm (lt b o e);have O:∀b,s.heap.objs.size<=b->H b=none:=λb g=>I.hok.fresh g;have w:∀b,b≠X.env.locals->b ∉ X.fs->b ∉ frs X.stack:=λb h1 h2 z=>(XJ.mp (I.stkSub b z)).elim h1 h2;have sub:=ok.sub;refine⟨⟨I.ok.mod,ok.kind,I.ok.glob,I.ok.blt,by rw[show (qM X N scope cl C fp h s H).env.locals=C from rfl,E];exact Wl _,λx y c d a=>I.ok.inj x y c (sub x c d) (sub y c a),ok.has,(λx c z _=>nomatch z),I.ok.hd,I.ok.frames,.inl rfl,λb g=>?_,I.bs,X0 I.ok.bsz I.sz,λb o e g=>?_,λb g hz=>?_,I.stack,I.stkFree⟩,rfl,I.bare,Un.laid k (XX _) (O _ (XX _)),⟨m,hn,λi x v d a M=>?_⟩,λx c e=>?_,?_,λx c e=>?_,λp hp=>?_,I.hok.laid k (XX _) ⟨WZ _,[],0,.nil,hD⟩,?_⟩
 .obtain⟨o,e⟩:=ho b g;exact⟨Y b o e,λx c z=>(B b g).2.2.2.2.1 x c (sub x c z)⟩
 .rcases(B b g).2.2.2.1 with z | z
  .exact I.ok.noex b o e z
  .exact absurd (Xs (XH (I.ok.bs b o e).1) z) (Wj _)
 .exact w b (B b g).2.1 (B b g).2.2.1 hz
 .have U:i<src.length:=by
   have:=(XZ.mp a).1;unfold pull at this;rw[X9]at this;exact this
  unfold pull at a;rw[Xo,X2 U]at a;cases q:src[i] with
  | none=>rw[q]at a;cases a
  | some j =>
   rw[q]at a;have f:(A[j]?).getD none=some v:=Option.some.inj a;have D:A[j]?=some (some v):=by
    cases z:A[j]? with
    | none=>rw[z]at f;cases f
    | some o=>rw[z]at f;exact congrArg some f
   obtain⟨p1,p2,p3⟩:=ok.pulls i j x d (by rw[X2 U,q]);obtain⟨m',aa,hl⟩:=I.loc;obtain⟨u,r,l⟩:=hl j x v p1 D (by
    rcases p2 with z | z
    .exact .inr (.inl z)
    .exact .inr (.inr z))
   refine⟨u,r,.inr ⟨p3,?_⟩⟩;obtain⟨c,Q⟩:=ok.has x p3;refine⟨c,Q,?_⟩;rcases l with ⟨z,_⟩ | ⟨_,c',n,o,J,G⟩
   .rcases p2 with y | y<;>rw[z]at y<;>cases y
   .rw[sub x c Q]at n;cases n;exact⟨o,k _ o J,G⟩
 .obtain⟨v,o,d,a⟩:=I.cell x c (sub x c e);exact⟨v,o,k c o d,a⟩
 .show upd H s.heap.objs.size (.lst []) C=none;rw[E,zo (Vt _)];exact O _ (Wl _)
 .show upd H s.heap.objs.size (.lst []) c=none;obtain⟨v,o,d,a⟩:=I.cell x c (sub x c e);rw[zo (nD c o d)];exact I.freeC x c (sub x c e)
 .have L:p∈X.pn++h:=by
   have:p∈(X.pn++h)++[]:=hp;simpa using this
  obtain⟨d,a,M,D,e5⟩:=I.pin p L;refine⟨k _ _ d,?_,Y _ _ d,w _ M D,e5⟩;show upd H s.heap.objs.size (.lst []) p.1=none;rw[zo (nD _ _ d)];exact a
 .unfold pull;rw[X9];exact ok.len
def zj1 {Y:Cx}{D it:Addr}{fp:List Addr}{tn:Nat->Heap->Prop}{J:It}{ab:St}{H0:Hp}{s:X8}{Q:VK}{R:QP->X8->Prop}(a:Y.calm=true)(hx:∀{x s},Y.xe x s->notedBy (Xw Y.prog Y.w) Y.A Y.env (λx s=>R (.error x) s) x s)(T:Turn Y.prog Y.w Y.K tg J fp it tn)(hg:PG Y tg g)(hc:zci Y ifs tc)(he:PE Y elt te)
  (q:xX J g tc te Q D ab H0) (c:∀{k:Hp},(∀b∈fp,k b=none)->∀b∈fp,Yq Y [] k b) (I0:Inv Y [] ab H0 s) (N:tn 0 s.heap) (af:∀b∈fp,H0 b=none)
  (ae:∀f σ H s',Inv Y [] σ H s'->Q (.ref D) H->R (.ok f) s'):UJ (Xw Y.prog Y.w) Y.A (.compStart (.ListComp elt [⟨tg,iter,ifs,0⟩] scope pos) 0 (.ref it) (.ref D) Y.env) R s:=by
 obtain⟨W,⟨m0,w0⟩,aa⟩:=q;have v:UJ (Xw Y.prog Y.w) Y.A (.compLoop (.ListComp elt [⟨tg,iter,ifs,0⟩] scope pos) 0 (.ref it) (.ref D) Y.env) R s:=by
  refine N1 rfl (λn s'=>∃i h k,Inv Y [] h k s'/\tn i s'.heap/\(∀b∈fp,k b=none)/\W i n h k) ?_ m0 ⟨0,_,_,I0,N,af,w0⟩;refine λn s3=>e9 λi l H3 I3 O L w3=>?_;show Xu _ Y.A ((compTurn (.ListComp elt [⟨tg,iter,ifs,0⟩] scope pos) 0 (.ref it) (.ref D) Y.env).onRaise (λx=>do PU x Y.env;Pe x)) _ _ s3;refine NQ ?_;rw[Oo];rcases aa i n l H3 w3 with ⟨U,qn⟩ | ⟨go,N',hN,step⟩
  .refine ZB (U9 (ZB (thn (T.done Y rfl rfl rfl a i [] s3 l H3 _ I3 (c L) O U) λr s4 ⟨hr,I4⟩=>?_)));subst hr;exact XT (ae _ _ _ _ I4 qn)
  .refine ZB (U9 (ZB (thn (T.item Y rfl rfl rfl a i [] s3 l H3 _ I3 (c L) O go) λr s4 ⟨u,hr,h4⟩=>?_)));subst hr;dsimp only;refine ZB (thn h4 λ_ s5 ⟨x,H5,I5,r5,y5,E,ag⟩=>?_);have ac:=I5.pinned (c ag) (T.obj _ _ E);refine ZB (Xa (hg _ s5 l H5 x u _ ac r5 (step x H5 y5)) (λ_ s6 ⟨p,H6,I6,q6⟩=>?_) λ_ _ z=>hx z);have R4:∀{I:X8} {j:St} {B:Hp},Inv Y ([]++Y4 fp s5.heap) j B I->N' j B->∃m,m<n/\∃i h k,Inv Y [] h k I/\tn i I.heap/\(∀b∈fp,k b=none)/\W i m h k:=λ{I j B} G n7=>by
    obtain⟨m',hm,w7⟩:=hN j B n7;refine⟨m',hm,i+1,j,B,G.unpinned,T.keep _ _ _ E λb hb o e=>(G.pin (b,o) (XD _ (XD _ (jx hb e)))).1,λb hb=>?_,w7⟩;obtain⟨o,e,d⟩:=T.obj _ _ E b hb;exact(G.pin (b,o) (XD _ (XD _ (jx hb e)))).2.1
   refine ZB (Xa (hc _ s6 p H6 _ I6 q6) (λb I ⟨B,G,q7⟩=>?_) λ_ _ z=>hx z);cases b with
   | false =>
    rw[bq XS]at q7;exact XT ⟨rfl,R4 G q7⟩
   | true =>
    rw[bw rfl]at q7;refine ZB (ZB (Xa (he _ I p B _ G q7) (λy s8 ⟨v8,H8,I8,r8,ys,ah,M,q8⟩=>?_) λ_ _ z=>hx z));refine ZB (Xa (QC (X:=Y) _ s8 p H8 (.ref D) [v8] (.ref D) [y] (λ_ H9=>N' p H9) I8 rfl (.cons r8 .nil) ⟨_,ys,v8,rfl,rfl,ah,M,q8⟩) (λ_ s9 ⟨v9,H9,I9,_,q9⟩=>?_) λ_ _ z=>hx z);exact XT (XT ⟨rfl,R4 I9 q9⟩)
 exact Sr v (T.self _ 0 _ _ _ N v)
abbrev cY (X:Cx)(N:AE)(scope:Vr)(cl:List (Str×Addr))(C:Addr)(fp:List Addr)(bQ:List (Addr×Obj))(s:X8)(H:Hp)(fn:Str->Bool)(xe:Y1->X8->Prop):Cx:={ qM X N scope cl C fp bQ s H with fn:=fn,xe:=xe }
def znI (X:Cx)(N:AE)(scope:Vr)(d:List (Addr×Obj))(l:St)(use:Option (Y1->Sem Unit))(R:Y1->X8->Prop)(Q:VK):Prop:=∀{cl h a c C g i f j k e},C=a.heap.objs.size+1->Inv X d l c a->(∀b∈h,Yq X d c b)->Inv (cY X N scope cl C h d a c j k) [] e g i->Q (.ref a.heap.objs.size) g->compPost (Xw X.prog X.w) X.A X.xe use R (.ref a.heap.objs.size) C (.ok f) i
def zli {e:List (Addr×Obj)}{h:St}{Q:VK}:znI X N scope e h none (EP X e h Q) Q:=by
 intro cl k q u C i r f v w s n j c a p;obtain⟨m,o,_⟩:=a.loc;refine⟨m,o,λl g=>⟨.ref q.heap.objs.size,i,?_,rfl,p⟩⟩;exact j.call' (s':={ r with heap:=l }) (ch:=k) a.os (Un.but a.base (by rw[n];exact Wl _) g) (HOk.but a.hok a.free g) a.bare λb d=>⟨(c b d).2.2.2.1,(c b d).2.1,(c b d).2.2.2.2.1,(c b d).2.2.2.2.2⟩
def zcQ {j:List (Addr×Obj)}{D:St}{i:Hp}{a:X8}{R:QP->X8->Prop}{Q:VK}{it C:Addr}{fp:List Addr}{tn:Nat->Heap->Prop}{J:It}{h:Heap}{tk:Nat}{n:Str->Bool}{m:Y1->X8->Prop}{v:St}(E:C=a.heap.objs.size+1)(l:X.calm=true)
  (hx:∀{x s},m x s->notedBy (Xw X.prog X.w) X.A (UX scope cl C X.env) (λx s=>R (.error x) s) x s) (U:PG (cY X N scope cl C fp j a i n m) tg g) (O:zci (cY X N scope cl C fp j a i n m) ifs tc) (he:PE (cY X N scope cl C fp j a i n m) elt te) (M:Inv X j D i a) (T:Turn X.prog X.w X.K tg J fp it tn) (r:tn 0 a.heap) (q:∀b∈fp,Yq X j i b)
  (q2:xX J g tc te Q a.heap.objs.size v (upd i a.heap.objs.size (.lst []))) (k:∀b u,a.heap.get? b=some u->h.get? b=some u) (own:∀x c,cl.lookup x=some c->X.env.cells.lookup x=some c\/C<=c)
  (L:(∀b∈fp,∃o,a.heap.get? b=some o)->Inv (cY X N scope cl C fp j a i n m) [] v (upd i a.heap.objs.size (.lst [])) { a with heap:=h,toks:=tk }) (y:∀f D H I,Inv (cY X N scope cl C fp j a i n m) [] D H I->Q (.ref a.heap.objs.size) H->R (.ok f) I) :
  UJ (Xw X.prog X.w) X.A (.compStart (.ListComp elt [⟨tg,iter,ifs,0⟩] scope pos) 0 (.ref it) (.ref a.heap.objs.size) (UX scope cl C X.env)) R { a with heap:=h,toks:=tk }:=by
 have G:∀b∈fp,∃o,a.heap.get? b=some o:=λb d=>let ⟨o,e,_⟩:=T.obj 0 _ r b d;⟨o,e⟩
 have lt:∀b∈fp,b<a.heap.objs.size:=λb d=>let ⟨_,e⟩:=G b d;XH e
 refine zj1 (Y:=cY X N scope cl C fp j a i n m) l hx T U O he q2 (λ{H'} hn b d=>⟨hn b d,?_,λz=>(XJ.mp (M.stkSub b z)).elim (q b d).2.1 (q b d).2.2.1,.inl d,λx c z=>?_,λp hp=>?_⟩) (L G) (T.keep 0 _ _ r λb _ o e=>k b o e) (λb d=>?_) y
 .show b≠C;rw[E];exact Xm (WH (lt b d))
 .rcases own x c z with z | z
  .exact(q b d).2.2.2.2.1 x c z
  .rw[E]at z;exact UB (Xs (WH (lt b d)) z)
 .have B:p∈X.pn++j:=by
   have:p∈(X.pn++j)++[]:=hp;simpa using this
  exact(q b d).2.2.2.2.2 p B
 .rw[zo (Xm (lt b d))];exact(q b d).1
def zlj {h a:Heap}(d:VU (h.push { cls:=.type "list",dict:=none,data:=.seq ([]:List Y1).toArray }).objs.size ((h.push { cls:=.type "list",dict:=none,data:=.seq ([]:List Y1).toArray }).push { cls:=.type "dict",data:=.dict #[] }) a):(h.push { cls:=.type "list",dict:=none,data:=.seq ([]:List Y1).toArray }).objs.size=h.objs.size+1/\(∀b u,h.get? b=some u->a.get? b=some u)/\a.get? h.objs.size=some { cls:=.type "list",data:=.seq #[] }:=by
 generalize hP:h.push { cls:=.type "list",dict:=none,data:=.seq ([]:List Y1).toArray }=P2 at d ⊢;have c:P2.objs.size=h.objs.size+1:=by rw[<- hP,Vo]
 exact⟨c,λb u e=>(d.2 b (by rw[c];exact Xm (WH (XH e)))).trans (X4 _ (hP ▸ X4 _ e)),(d.2 _ (by rw[c];exact(Vt _).symm)).trans (X4 _ (hP ▸ Xl _ rfl))⟩
section
variable {bQ:List (Addr×Obj)}{σ:St}{H:Hp}{s:X8}{use:Option (Y1->Sem Unit)}{R:Y1->X8->Prop}{Q:VK}{p2:Pos}
def zgm (ok:zV X N src scope cl)(d:X.calm=true)(u:PI X tg iter wi)
  (r:∀C fp bQ s H,PG (qM X N scope cl C fp bQ s H) tg g) (q:∀C fp bQ s H,zci (qM X N scope cl C fp bQ s H) ifs tc) (he:∀C fp bQ s H,PE (qM X N scope cl C fp bQ s H) elt te)
  (B:∀x,We iter X.env x=pure x) (I:Inv X bQ σ H s) (h:zbZ wi src g tc te σ H Q) (j:znI X N scope bQ σ use R Q):Xu (Xw X.prog X.w) X.A (TU (.ListComp elt [⟨tg,iter,ifs,0⟩] scope pos) scope X.env p2 (newList []) false (eval iter X.env) use) R X.xe s:=by
 refine S7 (use:=use) rfl B ok.clos ok.kind ok.names (thn (u bQ s σ H _ I h) λxv s1 h1=>thn h1 λE U h2=>?_);revert h2;refine eS λO fp Y J M=>eK λe f T m i G=>?_;subst e;refine V2 (Tu ok.nocell (by intro y D;simp at D) (λn a b=>?_) ok.kind);dsimp only at a b ⊢;obtain⟨l,k,p⟩:=zlj b;exact zcQ l d (λz=>z.elim) (r _ _ _ _ _) (q _ _ _ _ _) (he _ _ _ _ _) f T m i (G _ (f.hok.fresh (XX _))) k (λx c z=>.inl (ok.sub x c z)) (λv=>Ys ok f i v l k p a) λ_ _ _ _ o L=>j l f i o L
end
def qJ (ok:zV X N src scope cl)(a:X.calm=true)(e:PI X tg iter wi)
  (d:∀C fp b s H,PG (qM X N scope cl C fp b s H) tg g) (c:∀C fp b s H,zci (qM X N scope cl C fp b s H) ifs tc) (he:∀C fp b s H,PE (qM X N scope cl C fp b s H) elt te)
  (f:∀x,We iter X.env x=pure x:=by intro _;rfl):PE X (.ListComp elt [⟨tg,iter,ifs,0⟩] scope pos) (zbZ wi src g tc te):=λ_ _ _ _ _ I h=>zgm ok a e d c he f I h zli
end
section
variable {K:X5}{src:List (Option Nat)}{g:TG}{tc:TT}{te:TE}{Q:VK}{σ:St}{H:Hp}{D:Addr}
def qw {a:Addr}{xs:AF}(Pv:Nat->St->Hp->Prop)(h0:Pv 0 σ H)(o:∀i σ H,i<=xs.length->Pv i σ H->SqL K H a xs)
  (r:∀i x σ H,xs[i]?=some x->Pv i σ H->g x σ H fun c k=>tc c k λb f=>if b=true then te c f λy h=>∃ys,h D=some (.lst ys)/\ys.length<Xz/\Pv (i+1) c (upd h D (.lst (ys++[y]))) else Pv (i+1) c f)
  (l:∀ σ H,Pv xs.length σ H->Q (.ref D) H):xX (Itl K a) g tc te Q D σ H:=by
 refine⟨λi m σ H=>m=xs.length-i/\i<=xs.length/\Pv i σ H,⟨xs.length,by simp,WZ _,h0⟩,?_⟩;rintro i m σ H ⟨rfl,n,p⟩;have q:=o i σ H n p;by_cases d:i<xs.length
 .refine .inr ⟨⟨xs,xs[i],q,by simp[d]⟩,Pv (i+1),fun u j s=>⟨xs.length-(i+1),by lia,rfl,d,s⟩,λx j y=>?_⟩;obtain⟨e,y⟩:=y;subst e;exact r i x σ _ (y xs q) p
 .have e:i=xs.length:=by lia
  subst e;exact .inl ⟨⟨xs,q,XX _⟩,l σ H p⟩
end
theorem zaF {K:X5}{H:Hp}:∀rs:AE,Je K H (rs.map V.str) (rs.map VW)
 | []=>.nil
 | t::r=>.cons (.str t) (zaF r)
section
variable {X:Cx}{K:X5}
def zbt {a:Expr}{c:TE}(d:X.K=K)(e:PE X a c)(he:∀whole,isTrue a X.env whole=(do let v <- whole;standAt a.pos;holding [v] (truthy v))) :
  PT X a (fun f H Q=>c f H λx b=>∃k,zpV K x b k/\Q k b):=by
 subst d;exact zcN e he
def Y9 (a:X.K=K)(b:X.A.units+64<U7):OpR X (VO .Eq) (zp4 K false):=by
 subst a;exact xo b
def jF (a:X.K=K)(b:X.A.units+64<U7):OpR X (VO .In) (zp5 K false):=by
 subst a;exact zcP b
def zcv {a:List Expr}{k:Nat}{t:TGs}{n:Nat}{pos:Pos}(c:X.K=K)(d:X.calm=true)(h:PGs X a t)
  (e:(SX a X.env).length=n:=by rfl) (b:(SX a X.env).findIdx? (·.1)=none:=by rfl):PG X (.Tuple a k pos) (zrt K n t):=by
 subst c;exact Zv d h e b
end
section
variable {fs ch:List Addr}{H:Hp}{h h':Heap}{a:Addr}{o:HO}
def Un.laidX (k:∀b u,b ∉ ch->h.get? b=some u->h'.get? b=some u)(hp:h.objs.size<=a)(hn:H a=none):Un fs ch H (upd H a o) h h' where
 keep:=λb u q _ _ hx=>k b u hx q
 slot:=λb u q _ _ hx=>⟨u.slots,k b u hx q⟩
 free:=λb u q n _=>by rw[zo (Xm (Xs (XH q) hp))];exact n
 there:=λb u q hx=>⟨u,k b u hx q⟩
 tups:=λb xs q=>by rw[zo (zk q hn)];exact q
 frzs:=λb u xs q=>by rw[zo (zk q hn)];exact q
 tbls:=λb ps q=>⟨#[],by rw[zo (zk q hn),q];simp⟩
def Un.keptX (k:∀b u,b ∉ ch->h.get? b=some u->h'.get? b=some u):Un fs ch H H h h' :=
 ⟨λb ob q _ _ a=>k b ob a q,λb ob q _ _ a=>⟨ob.slots,k b ob a q⟩,λ_ _ _ n _=>n,λb ob q a=>⟨ob,k b ob a q⟩,λ_ _ q=>q,λ_ _ _ q=>q,λ_ c q=>⟨#[],by rw[q];simp⟩⟩
def HOk.keptX {P:Xr}{w:Xe}(x:HOk P w H h)(k:∀b u,b ∉ ch->h.get? b=some u->h'.get? b=some u)(a:∀b∈ch,H b=none):HOk P w H h':=λb u e=>by
 refine(x b u e).stay (λc v hc q=>k c v (λz=>?_) q) (λ_ q=>q) λ_ _ q=>q;have n:=a c z;rcases hc with rfl | hc
 .rw[n]at e;cases e
 .rw[n]at hc;cases hc
def HOk.laidX {P:Xr}{w:Xe}(x:HOk P w H h)(k:∀b u,b ∉ ch->h.get? b=some u->h'.get? b=some u)(d:∀b∈ch,H b=none)(j:h.objs.size<=a)(f:jd P w (upd H a o) h' a o):HOk P w (upd H a o) h':=λb u e=>by
 have i:=x.fresh j;by_cases g:b=a
 .subst g;rw[zc]at e;cases e;exact f
 .rw[zo g]at e;refine(x b u e).stay (λc v hc q=>k c v (λz=>?_) q) (λc q=>by rw[zo (zk q i)];exact q) λc l q=>by rw[zo (zk q i)];exact q
  have n:=d c z;rcases hc with rfl | hc
  .rw[n]at e;cases e
  .rw[n]at hc;cases hc
end
section
variable {X:Cx}{bQ:List (Addr×Obj)}{s:X8}{σ:St}{H:Hp}{E:Y1->X8->Prop}{fp wr FP:List Addr}{elts:List Expr}{k:Nat}{pos:Pos}{e:Addr}{n i:Nat}{Pt:Nat->Array Y1->Prop}{Sn:Nat->Heap->Prop}{Mid:Nat->Addr->Heap->Prop}{J:It}{tn:Nat->Heap->Prop}
def zhO (I:Inv X bQ σ H s)(G:∀b∈fp,Yq X bQ H b)(ho:∀b∈fp,∃o,s.heap.get? b=some o)(p:∀b∈wr,b∈fp)(W:WalksT X.prog X.w X.A e FP wr n Pt Sn Mid)(hi:i<n)(st:Sn i s.heap)
  (y:∀T a,H T=none->Pt i a->∃vs,Vals vs a.toList/\vs.length<=Xz/\J.yld i H (.ref T) (upd H T (.tup vs))) (nx:∀g,Sn (i+1) g->tn (i+1) g) :
  Xu (Xw X.prog X.w) X.A (RK (.ref e)) (λr s1=>∃u,r=some u /\
   Xu (Xw X.prog X.w) X.A (RU (.Tuple elts k pos) (.ref e) u) (λ_ O=>∃x z,Inv X bQ σ z O/\RelV x u/\J.yld i H x z/\tn (i+1) O.heap/\∀b∈fp,z b=none) E s1) E s:=by
 refine W.item i s _ E hi st λT a U Q hP h Y L kk=>⟨.ref T,rfl,?_⟩;have M:H T=none:=I.hok.fresh h;obtain⟨vs,hv,hl,hy⟩:=y T a M hP;refine W.go elts k pos i T { s with heap:=U,toks:=Q } _ E L λg v q=>?_;have N:∀b o,b ∉ wr->s.heap.get? b=some o->g.get? b=some o:=λb o j e=>q b o j (kk b o j e);have l:NO g T a:=by
  obtain⟨o,B,c,m,d⟩:=Y;exact⟨o,q T o (W.apart i T _ L) B,c,m,d⟩
 have D:∀b∈wr,H b=none:=λb j=>(G b (p b j)).1;refine⟨.ref T,upd H T (.tup vs),?_,rfl,hy,nx _ v,λb j=>?_⟩
 .exact I.call' (s':={ s with heap:=g,toks:=Q }) (ch:=wr) rfl (Un.laidX N h M) (HOk.laidX I.hok N D h ⟨hl,a.toList,hv,by simpa using l⟩) I.bare λb j=>let f:=G b (p b j);⟨f.2.2.2.1,f.2.1,f.2.2.2.2.1,f.2.2.2.2.2⟩
 .obtain⟨o,B⟩:=ho b j;rw[zo (Xm (Xs (XH B) h))];exact(G b j).1
def zhP (I:Inv X bQ σ H s)(d:∀b∈fp,Yq X bQ H b)(a:∀b∈wr,b∈fp)(W:WalksT X.prog X.w X.A e FP wr n Pt Sn Mid)(st:Sn n s.heap) :
  Xu (Xw X.prog X.w) X.A (RK (.ref e)) (λr s1=>r=none/\Inv X bQ σ H s1) E s :=
 W.done s _ E st λh i g=>⟨rfl,I.call' (s':={ s with heap:=h,toks:=i }) (ch:=wr) rfl (Un.keptX g) (HOk.keptX I.hok g λb c=>(d b (a b c)).1) I.bare λb c=>let f:=d b (a b c);⟨f.2.2.2.1,f.2.1,f.2.2.2.2.1,f.2.2.2.2.2⟩⟩
end
def JO {h:Heap}{b:Addr}{o:Obj}{vs:Array Y1}(e:h.get? b=some o)(d:o.data=.fields vs):∃o,h.get? b=some o/\∀v,o.data ≠ .cell v:=⟨o,e,λv z=>by rw[d]at z;cases z⟩
def Ite (K:X5)(l:Addr):It:=⟨λi H=>∃a,SqL K H l a/\i<a.length,λi H x b=>∃T,x=.ref T/\H T=none/\∀a,SqL K H l a->∃v,a[i]?=some v/\b=upd H T (.tup [.int i,v]),λi H=>∃a,SqL K H l a/\i=a.length⟩
def zj2 {P:Xr}{w:Xe}{K:X5}{elts:List Expr}{k:Nat}{pos:Pos}(e it l:Addr)(hei:e≠it)(hle:l≠e)(hli:l≠it) :
  Turn P w K (.Tuple elts k pos) (Ite K l) [e,it] e (λi h=>(∃old,IsEnum h e it i old)/\h.IsListIter it l i) where
 mem:=by simp
 obj:=λi h st b hb=>by
  obtain⟨⟨old,he⟩,o,e2,c,d⟩:=st;rcases XJ.mp hb with rfl | hb
  .exact JO he rfl
  .have z:b=it:=by simpa using hb
   subst z;exact JO e2 d
 keep:=λi h h' st kk=>by
  obtain⟨⟨old,he⟩,o,e2,r⟩:=st;exact⟨⟨old,kk e (by simp) _ he⟩,o,kk it (by simp) o e2,r⟩
 item:=by
  intro X hP hw hK hc i bQ s σ H E I hf st hg;subst hP hw hK;obtain⟨xs,hq,hlt⟩:=hg;obtain⟨its,rv,p,hz⟩:=I.list hq;have hl:=rv.length;obtain⟨⟨old,he⟩,o2,e2,c2,d2⟩:=id st;refine zhO (wr:=[e,it]) (J:=Ite X.K l) (tn:=λi h=>(∃old,IsEnum h e it i old)/\h.IsListIter it l i) I hf (λb hb=>?_) (λb hb=>hb) (WalksT.enumerate (I.ok.hd hc) e it l hei hle hli its.toArray) (by simp;lia) ⟨st.1,st.2,p.isList⟩ (λT vals hn hp=>?_) λh'' q=>⟨q.1,q.2.1⟩
  .rcases XJ.mp hb with rfl | hb
   .exact⟨_,he⟩
   .have z:b=it:=by simpa using hb
    subst z;exact⟨_,e2⟩
  .obtain⟨t,x,hx,rfl⟩:=hp;have hx':its[i]?=some x:=by simpa using hx
   obtain⟨u,hu,ru⟩:=rv.get (i:=i) (x:=xs[i]) (by rw[X2 hlt]);rw[hu]at hx';cases hx';exact⟨[.int i,xs[i]],.cons ⟨t,rfl⟩ (.cons ru .nil),(by show 2<=Xz;decide),T,rfl,hn,λys hy=>⟨xs[i],by rw[I.list_inj hy hq,X2 hlt],rfl⟩⟩
 done:=by
  intro X hP hw hK hc i bQ s σ H E I hf st hg;subst hP hw hK;obtain⟨xs,hq,rfl⟩:=hg;obtain⟨its,rv,p,hz⟩:=I.list hq;have hl:its.toArray.size=xs.length:=by simp[rv.length]
  refine zhP (fp:=[e,it]) (wr:=[e,it]) I hf (λb hb=>hb) (WalksT.enumerate (I.ok.hd hc) e it l hei hle hli its.toArray) ?_;rw[hl];exact⟨st.1,st.2,p.isList⟩
 self:=λA i s Q E st h=>by
  obtain⟨⟨old,he⟩,_⟩:=st;exact Sz he h
def znJ (x:Str):It:=⟨λi _=>i<x.cps.size,λi H v a=>∃T c,v=.ref T/\H T=none/\x.cps[i]?=some c/\a=upd H T (.tup [.int i,.str ⟨#[c]⟩]),λi _=>i=x.cps.size⟩
def zcR {P:Xr}{w:Xe}{K:X5}{elts:List Expr}{k:Nat}{pos:Pos}(e it:Addr)(x:Str)(t:Tok)(n:String)(hei:e≠it)
  (D:∀A:W1,A.handled=none->Draws P w A it [it] x.cps.size (λi v=>∃c u,x.cps[i]?=some c/\v=.str ⟨#[c]⟩ u) (λi h=>h.IsStrIter it n x t i)) :
  Turn P w K (.Tuple elts k pos) (znJ x) [e,it] e (λi h=>(∃old,IsEnum h e it i old)/\h.IsStrIter it n x t i) where
 mem:=by simp
 obj:=λi h st b hb=>by
  obtain⟨⟨old,he⟩,o,e2,c,d⟩:=st;rcases XJ.mp hb with rfl | hb
  .exact JO he rfl
  .have z:b=it:=by simpa using hb
   subst z;exact JO e2 d
 keep:=λi h h' st kk=>by
  obtain⟨⟨old,he⟩,o,e2,r⟩:=st;exact⟨⟨old,kk e (by simp) _ he⟩,o,kk it (by simp) o e2,r⟩
 item:=by
  intro X hP hw hK hc i bQ s σ H E I hf st hg;subst hP hw hK;obtain⟨⟨old,he⟩,o2,e2,c2,d2⟩:=id st;refine zhO (wr:=[e,it]) (J:=znJ x) (tn:=λi h=>(∃old,IsEnum h e it i old)/\h.IsStrIter it n x t i) I hf (λb hb=>?_) (λb hb=>hb) (WalksT.enumerateD (D X.A.in1 (I.ok.hd hc)) e hei (by simpa using hei) (by simp)) hg st (λT vals hn hp=>?_) λh'' q=>q
  .rcases XJ.mp hb with rfl | hb
   .exact⟨_,he⟩
   .have z:b=it:=by simpa using hb
    subst z;exact⟨_,e2⟩
  .obtain⟨t',v,⟨c,u,hx,rfl⟩,rfl⟩:=hp;exact⟨[.int i,.str ⟨#[c]⟩],.cons ⟨t',rfl⟩ (.cons ⟨u,rfl⟩ .nil),(by show 2<=Xz;decide),T,c,rfl,hn,hx,rfl⟩
 done:=by
  intro X hP hw hK hc i bQ s σ H E I hf st hg;subst hP hw hK;have z:i=x.cps.size:=hg;subst z;exact zhP (fp:=[e,it]) (wr:=[e,it]) I hf (λb hb=>hb) (WalksT.enumerateD (D X.A.in1 (I.ok.hd hc)) e hei (by simpa using hei) (by simp)) st
 self:=λA i s Q E st h=>by
  obtain⟨⟨old,he⟩,_⟩:=st;exact Sz he h
def Itz (K:X5)(l1 l2:Addr):It:=⟨λi H=>∃a b,SqL K H l1 a/\SqL K H l2 b/\i<a.length/\i<b.length,
 λi H x d=>∃T,x=.ref T/\H T=none/\∀a b,SqL K H l1 a->SqL K H l2 b->∃v c,a[i]?=some v/\b[i]?=some c/\d=upd H T (.tup [v,c]),λi H=>∃a b,SqL K H l1 a/\SqL K H l2 b/\i=min a.length b.length⟩
def zlk {P:Xr}{w:Xe}{K:X5}{elts:List Expr}{k:Nat}{pos:Pos}(z TI TO i1 i2 l1 l2:Addr)(D:ZipApart z TI TO i1 i2 l1 l2) :
  Turn P w K (.Tuple elts k pos) (Itz K l1 l2) [z,TI,TO,i1,i2] z (λi h=>IsZip h z TI TO .none/\IsPair h TI (.ref i1) (.ref i2)/\(∃a b,IsPair h TO a b)/\h.IsListIter i1 l1 i/\h.IsListIter i2 l2 i) where
 mem:=by simp
 obj:=λi h st b hb=>by
  obtain⟨hz,hTI,⟨a,b',hTO⟩,⟨o1,e1,c1,d1⟩,⟨o2,e2,c2,d2⟩⟩:=st;simp only[XJ,Vs,or_false]at hb;rcases hb with rfl | rfl | rfl | rfl | rfl
  .exact JO hz rfl
  .exact⟨_,hTI,λv q=>by cases q⟩
  .exact⟨_,hTO,λv q=>by cases q⟩
  .exact JO e1 d1
  .exact JO e2 d2
 keep:=λi h h' st kk=>by
  obtain⟨hz,hTI,⟨a,b',hTO⟩,⟨o1,e1,r1⟩,⟨o2,e2,r2⟩⟩:=st;exact⟨kk z (by simp) _ hz,kk TI (by simp) _ hTI,⟨a,b',kk TO (by simp) _ hTO⟩,⟨o1,kk i1 (by simp) _ e1,r1⟩,⟨o2,kk i2 (by simp) _ e2,r2⟩⟩
 item:=by
  intro X hP hw hK hc i bQ s σ H E I hf st hg;subst hP hw hK;revert hg;refine eU λxs ys hq1 hq2 hlt1 hlt2=>?_;obtain⟨its1,rv1,p1,hz1⟩:=I.list hq1;obtain⟨its2,rv2,p2,hz2⟩:=I.list hq2;have g1:=rv1.length;have g2:=rv2.length;obtain⟨hz,hTI,⟨a,b',hTO⟩,⟨o1,e1,r1⟩,⟨o2,e2,r2⟩⟩:=id st;refine zhO (wr:=[z,TO,i1,i2]) (J:=Itz X.K l1 l2) (tn:=λi h=>IsZip h z TI TO .none/\IsPair h TI (.ref i1) (.ref i2)/\(∃a b,IsPair h TO a b)/\h.IsListIter i1 l1 i/\h.IsListIter i2 l2 i) I hf (λb hb=>?_) (λb hb=>?_) (WalksT.zip2 (I.ok.hd hc) z TI TO i1 i2 l1 l2 D its1.toArray its2.toArray) (by simp;lia) ⟨st.1,st.2.1,st.2.2.1,st.2.2.2.1,st.2.2.2.2,p1.isList,p2.isList⟩ (λT vals hn hp=>?_) λh'' q=>⟨q.1,q.2.1,q.2.2.1,q.2.2.2.1,q.2.2.2.2.1⟩
  .simp only[XJ,Vs,or_false]at hb;rcases hb with rfl | rfl | rfl | rfl | rfl
   .exact⟨_,hz⟩
   .exact⟨_,hTI⟩
   .exact⟨_,hTO⟩
   .exact⟨_,e1⟩
   .exact⟨_,e2⟩
  .simp only[XJ,Vs,or_false]at hb ⊢;rcases hb with rfl | rfl | rfl | rfl<;>simp
  .obtain⟨x,y,hx,hy,rfl⟩:=hp;have hx':its1[i]?=some x:=by simpa using hx
   have hy':its2[i]?=some y:=by simpa using hy
   obtain⟨u,hu,ru⟩:=rv1.get (i:=i) (x:=xs[i]) (by rw[X2 hlt1]);obtain⟨u',hu',ru'⟩:=rv2.get (i:=i) (x:=ys[i]) (by rw[X2 hlt2]);rw[hu]at hx';rw[hu']at hy';cases hx';cases hy';exact⟨[xs[i],ys[i]],.cons ru (.cons ru' .nil),(by show 2<=Xz;decide),T,rfl,hn,λxs' ys' h1 h2=>⟨xs[i],ys[i],by rw[I.list_inj h1 hq1,X2 hlt1],by rw[I.list_inj h2 hq2,X2 hlt2],rfl⟩⟩
 done:=by
  intro X hP hw hK hc i bQ s σ H E I hf st hg;subst hP hw hK;obtain⟨xs,ys,hq1,hq2,rfl⟩:=hg;obtain⟨its1,rv1,p1,hz1⟩:=I.list hq1;obtain⟨its2,rv2,p2,hz2⟩:=I.list hq2;have g1:min its1.toArray.size its2.toArray.size=min xs.length ys.length:=by simp[rv1.length,rv2.length]
  refine zhP (fp:=[z,TI,TO,i1,i2]) (wr:=[z,TO,i1,i2]) I hf (λb hb=>?_) (WalksT.zip2 (I.ok.hd hc) z TI TO i1 i2 l1 l2 D its1.toArray its2.toArray) ?_
  .simp only[XJ,Vs,or_false]at hb ⊢;rcases hb with rfl | rfl | rfl | rfl<;>simp
  .rw[g1];exact⟨st.1,st.2.1,st.2.2.1,st.2.2.2.1,st.2.2.2.2,p1.isList,p2.isList⟩
 self:=λA i s Q E st h=>wpAny_pyIter_zip st.1 h
section
variable {X:Cx}{elts:List Expr}{k:Nat}{tpos:Pos}
def zp6 (K:X5)(b:TA):TI:=fun e H R=>b e H λc a=>∃l,c=[.ref l]/\(∃d,SqL K a l d)/\R (Ite K l) a
def JP {a:Expr}{o:TA}{p pos:Pos}(y:Gl X "enumerate")(z:X.mg "enumerate"=none)(x:PA X [a] o)(B:W4 [a] X.env=[(false,eval a X.env)]:=by rfl):PI X (.Tuple elts k tpos) (.Call (.Name "enumerate" p) [a] [] pos) (zp6 X.K o):=by
 intro m s r H R I h;refine Call_ (YZ I y z boot_enumerate (VJ (thn (x pos m s r H _ I h) λU s1 ⟨Y,j,f,L,J⟩=>?_) B rfl));obtain⟨l,rfl,⟨xs,A⟩,q⟩:=J;obtain⟨u,rfl,M⟩:=vals1 L;cases M;obtain⟨E,Q,n,N⟩:=f.list A;obtain⟨O,i,_⟩:=n.isList;have d:=XH i;refine call_enumerate_list n.isList λw he g D G=>?_;have v:Inv X m r j { s1 with heap:=w }:=f.kept (t':=s1.toks) G;refine Sz he ?_;refine⟨s1.heap.objs.size+1,[s1.heap.objs.size+1,s1.heap.objs.size],_,_,j,rfl,v,zj2 (s1.heap.objs.size+1) s1.heap.objs.size l (Vt _) (Xm (WH d)) (Xm d),⟨⟨_,he⟩,g⟩,λb hb=>?_,q⟩;have c:s1.heap.objs.size<=b:=by
  rcases XJ.mp hb with e | hb
  .rw[e];exact Wl _
  .have e:b=s1.heap.objs.size:=by simpa using hb
   rw[e];exact XX _
 exact f.fpOk c (f.hok.fresh c)
def zp7 (b:TA):TI:=fun d H R=>b d H λc a=>∃z,c=[.str z]/\R (znJ z) a
def zgn {a:Expr}{o:TA}{p pos:Pos}(w:Gl X "enumerate")(x:X.mg "enumerate"=none)(i:PA X [a] o)(y:W4 [a] X.env=[(false,eval a X.env)]:=by rfl):PI X (.Tuple elts k tpos) (.Call (.Name "enumerate" p) [a] [] pos) (zp7 o):=by
 intro l s r H R I h;refine Call_ (YZ I w x boot_enumerate (VJ (thn (i pos l s r H _ I h) λJ s1 ⟨L,g,j,G,E⟩=>?_) y rfl));obtain⟨z,rfl,q⟩:=E;obtain⟨u,rfl,t,rfl⟩:=vals1 G;refine call_enumerate_str λv he c B D=>?_;have n:Inv X l r g { s1 with heap:=v }:=j.kept (t':=s1.toks) D;refine Sz he ?_;have d:∀b ∈ [s1.heap.objs.size+1,s1.heap.objs.size],Yq X l g b:=λb hb=>by
  have f:s1.heap.objs.size<=b:=by
   rcases XJ.mp hb with e | hb
   .rw[e];exact Wl _
   .have e:b=s1.heap.objs.size:=by simpa using hb
    rw[e];exact XX _
  exact j.fpOk f (j.hok.fresh f)
 unfold strIterType at c;by_cases i:z.cps.all (· < 128)=true
 .rw[bw i]at c;exact⟨s1.heap.objs.size+1,[s1.heap.objs.size+1,s1.heap.objs.size],_,_,g,rfl,n,zcR (s1.heap.objs.size+1) s1.heap.objs.size z t "str_ascii_iterator" (Vt _) (λA m=>Draws.strAscii m _ z t),⟨⟨_,he⟩,c⟩,d,q⟩
 .rw[bq i]at c;exact⟨s1.heap.objs.size+1,[s1.heap.objs.size+1,s1.heap.objs.size],_,_,g,rfl,n,zcR (s1.heap.objs.size+1) s1.heap.objs.size z t "str_iterator" (Vt _) (λA m=>Draws.strWide m _ z t),⟨⟨_,he⟩,c⟩,d,q⟩
def zsQ (K:X5)(d:TA):TI:=fun h H R=>d h H λe a=>∃b c,e=[.ref b,.ref c]/\(∃f,SqL K a b f)/\(∃g,SqL K a c g)/\R (Itz K b c) a
def zp8 {a b:Expr}{L:TA}{p pos:Pos}(hg:Gl X "zip")(hm:X.mg "zip"=none)(Y:PA X [a,b] L)(hs:W4 [a,b] X.env=[(false,eval a X.env),(false,eval b X.env)]:=by rfl)(f:W4 [b] X.env=[(false,eval b X.env)]:=by rfl) :
  PI X (.Tuple elts k tpos) (.Call (.Name "zip" p) [a,b] [] pos) (zsQ X.K L):=by
 intro z s M H R I h;refine Call_ (YZ I hg hm boot_zip (VJ (thn (Y pos z s M H _ I h) λus s1 ⟨vs,y,d,r1,q1⟩=>?_) (by rw[hs,f]) (by rw[f];rfl)));obtain⟨v,w,rfl,⟨xs,o⟩,⟨ys,r⟩,q⟩:=q1;obtain⟨u,u',rfl,ru,x⟩:=vals2 r1;cases ru;cases x;obtain⟨D,af,G,ab⟩:=d.list o;obtain⟨E,ag,J,ac⟩:=d.list r;obtain⟨o1,m,_⟩:=G.isList;obtain⟨o2,n,_⟩:=J.isList;have ae:@LT.lt Nat _ v s1.heap.objs.size:=XH m;have lt2:@LT.lt Nat _ w s1.heap.objs.size:=XH n;refine call_zip_2 G.isList J.isList λQ B g i j l aa kk=>?_;have O:Inv X z M y { s1 with heap:=Q }:=d.kept (t':=s1.toks) kk;refine wpAny_pyIter_zip B ?_;generalize U:s1.heap.objs.size=N at *
 have c:ZipApart (N+4) (N+2) (N+3) N (N+1) v w:=by
  constructor<;>first
   | exact Xm (by lia)
   | exact UB (by lia)
 refine⟨N+4,[N+4,N+2,N+3,N,N+1],_,_,y,rfl,O,zlk (N+4) (N+2) (N+3) N (N+1) v w c,⟨B,g,⟨_,_,i⟩,j,l⟩,λb A=>?_,q⟩;have e:s1.heap.objs.size<=b:=by
  rw[U];simp only[XJ,Vs,or_false]at A;rcases A with rfl | rfl | rfl | rfl | rfl<;>lia
 exact d.fpOk e (d.hok.fresh e)
def zfr:j3 X (.type "int") (λxs H Q=>∃x n,xs=[.str x]/\OQ x=some n/\x.length<=640/\Q (.int n) H):=by
 intro c s e H xs d Q I r h;obtain⟨x,n,rfl,b,a,q⟩:=h;obtain⟨u,rfl,t,rfl⟩:=vals1 r;exact PySem.W.KIN.call_text b a ⟨.int n,H,I.tok _,⟨_,rfl⟩,q⟩
def zfs:j3 X (.type "str") (λxs H Q=>∃x,xs=[.str x]/\Q (.str x) H):=by
 intro a s c H xs b Q I r h;obtain⟨x,rfl,q⟩:=h;obtain⟨u,rfl,t,rfl⟩:=vals1 r;exact PySem.P.str_of_str ⟨.str x,H,I,⟨_,rfl⟩,q⟩
end
def JJ {K:X5}{l:Addr}{xs:AF}{g:TG}{k:TS}{D:Ends}{a:St}{H:Hp}(Pv:Nat->St->Hp->Prop)(h0:Pv 0 a H)(s:∀i a H,i<=xs.length->Pv i a H->SqL K H l xs)
  (u:∀i x T a H,xs[i]?=some x->H T=none->Pv i a H->g (.ref T) a (upd H T (.tup [.int i,x])) fun d h=>k { D with nx:=Pv (i+1),ct:=Pv (i+1),bk:=D.nx } d h) (o:∀ a H,Pv xs.length a H->D.nx a H) :
  ∃W:Nat->Nat->St->Hp->Prop,(∃m,W 0 m a H)/\∀i m a H,W i m a H ->
   ((Ite K l).stop i H/\D.nx a H)\/((Ite K l).go i H/\∃N:St->Hp->Prop,(∀ c b,N c b->∃j,j<m/\W (i+1) j c b)/\∀x b,(Ite K l).yld i H x b->g x a b fun d h=>k { D with nx:=N,ct:=N,bk:=D.nx } d h):=by
 refine⟨λi m a H=>m=xs.length-i/\i<=xs.length/\Pv i a H,⟨xs.length,by simp,WZ _,h0⟩,?_⟩;rintro i m a H ⟨rfl,r,p⟩;have q:=s i a H r p;by_cases f:i<xs.length
 .refine .inr ⟨⟨xs,q,f⟩,Pv (i+1),fun c b z=>⟨xs.length-(i+1),by lia,rfl,f,z⟩,λx b y=>?_⟩;obtain⟨T,rfl,n,y⟩:=y;obtain⟨v,w,rfl⟩:=y xs q;exact u i v T a H w n p
 .have e:i=xs.length:=by lia
  subst e;exact .inl ⟨⟨xs,q,rfl⟩,o a H p⟩
def zcS {g:TG}{k:TT}{l:TE}{Q:VK}{a:St}{H:Hp}{D:Addr}{x:Str}(Pv:Nat->St->Hp->Prop)(h0:Pv 0 a H)
  (u:∀i c T a H,x.cps[i]?=some c->H T=none->Pv i a H->g (.ref T) a (upd H T (.tup [.int i,.str ⟨#[c]⟩])) fun d o=>k d o λb h=>if b=true then l d h λy j=>∃ys,j D=some (.lst ys)/\ys.length<Xz/\Pv (i+1) d (upd j D (.lst (ys++[y]))) else Pv (i+1) d h)
  (s:∀ a H,Pv x.cps.size a H->Q (.ref D) H):xX (znJ x) g k l Q D a H:=by
 refine⟨λi m a H=>m=x.cps.size-i/\i<=x.cps.size/\Pv i a H,⟨x.cps.size,by simp,WZ _,h0⟩,?_⟩;rintro i m a H ⟨rfl,A,p⟩;by_cases f:i<x.cps.size
 .refine .inr ⟨f,Pv (i+1),fun z n w=>⟨x.cps.size-(i+1),by lia,rfl,f,w⟩,λv n y=>?_⟩;obtain⟨T,c,rfl,q,r,rfl⟩:=y;exact u i c T a H r q p
 .have e:i=x.cps.size:=by lia
  subst e;exact .inl ⟨rfl,s a H p⟩
def zbu (look:Str->Option Addr):List (Str×Tb)->List (Str×Addr)->List (Str×Addr)
 | [],acc=>acc
 | (n,k)::r,acc=>if k == .free then (match look n with
  | some c=>zbu look r ((n,c)::acc)
  | none=>zbu look r acc) else zbu look r acc
theorem ZG {look:Str->Option Addr}:∀(a:List (Str×Tb)) (acc:List (Str×Addr)) (p:Str×Addr),p∈zbu look a acc->p∈acc\/look p.1=some p.2
 | [],acc,p,h=>.inl h
 | (n,k)::r,acc,p,h=>by
  unfold zbu at h;split at h
  .cases e:look n with
   | none =>
    rw[e]at h;exact ZG r acc p h
   | some c =>
    rw[e]at h;rcases ZG r _ p h with h | h
    .rcases XJ.mp h with h | h
     .subst h;exact .inr e
     .exact .inl h
    .exact .inr h
  .exact ZG r acc p h
def ZH {x n:Str}{c:Addr}{acc:List (Str×Addr)}(h:(acc.lookup x).isSome=true\/x=n):(R3 x ((n,c)::acc)).isSome=true:=by
 rw[Ve];cases e:x==n with
 | true=>rfl
 | false =>
  rcases h with h | h
  .exact h
  .subst h;simp at e
def zcT {look:Str->Option Addr}{x:Str}(a:List (Str×Tb))(acc:List (Str×Addr))(h:(acc.lookup x).isSome=true\/((x,NameKind.free)∈a/\(look x).isSome=true)):((zbu look a acc).lookup x).isSome=true:=by
 induction a generalizing acc with
 | nil =>
  rcases h with h | h
  .exact h
  .cases h.1
 | cons y r b =>
  obtain⟨n,k⟩:=y;unfold zbu;split
  .rename_i hk;cases e:look n with
   | none =>
    refine b acc ?_;rcases h with h | ⟨h,h2⟩
    .exact .inl h
    .rcases XJ.mp h with h | h
     .cases h;rw[e]at h2;cases h2
     .exact .inr ⟨h,h2⟩
   | some c =>
    refine b _ ?_;rcases h with h | ⟨h,h2⟩
    .exact .inl (ZH (.inl h))
    .rcases XJ.mp h with h | h
     .cases h;exact .inl (ZH (.inr rfl))
     .exact .inr ⟨h,h2⟩
  .rename_i hk;refine b acc ?_;rcases h with h | ⟨h,h2⟩
   .exact .inl h
   .rcases XJ.mp h with h | h
    .cases h;exact absurd rfl hk
    .exact .inr ⟨h,h2⟩
def Jf {e:Vr}{d:Env}(h:∀y∈e.names,y.2=.free->(d.cells.lookup y.1).isSome=true):RG e d=pure (zbu (λx=>d.cells.lookup x) e.names []):=by
 have v:∀(b:List (Str×Tb)) (f:List (Str×Addr)),(∀y∈b,y.2=.free->(d.cells.lookup y.1).isSome=true) ->
   (forIn b f λx l=>(match x with
    | (g,j)=>if (j == .free)=true then do let a <- cellOf d g;pure (Vk ((g,a)::l)) else pure (Vk l):Sem (ForInStep (List (Str×Addr)))))=(pure (zbu (λx=>d.cells.lookup x) b f):Sem _):=by
  intro b;induction b with
  | nil=>intro f _;rfl
  | cons y r s =>
   intro f q;obtain⟨n,k⟩:=y;have p:∀y∈r,y.2=.free->(d.cells.lookup y.1).isSome=true:=λy z=>q y (XW _ z);rw[List.forIn_cons];unfold zbu;by_cases hk:(k==NameKind.free)=true
   .have o:k=.free:=by simpa using hk
    have A:=q (n,k) XV o;obtain⟨c,w⟩:=Wa.mp A;have i:R3 n d.cells=some c:=w;have u:cellOf d n=pure c:=by
     unfold cellOf;rw[i]
    simp only[hk,if_true,u,i,pure_bind];exact s _ p
   .simp only[hk,Wq,if_false,pure_bind];exact s _ p
 simp only[RG];exact Eq.trans (congrArg (λm:Sem (List (Str×Addr))=>m >>= λl=>pure l) (v e.names [] h)) rfl
def yE {b:Vr}{a:Env}{x:Str}{k:Tb}(h:(x,k)∈(Vx b a).names)(hk:k=.cell\/k=.free):(x,UQ)∈b.names\/(x,NameKind.free)∈b.names:=by
 obtain⟨y,g,e⟩:=XA.mp h;obtain⟨n,d⟩:=y;by_cases c:(d==NameKind.free&&a.scope.kind == .function&&a.kindOf n==some .cell)=true
 .have f:(if (d==NameKind.free&&a.scope.kind == .function&&a.kindOf n==some .cell)=true then (n,UQ) else (n,d))=(x,k):=e;rw[bw c]at f;cases f;have i:d=.free:=by
   have:=(W7.mp (W7.mp c).1).1;simpa using this
  subst i;exact .inr g
 .have f:(if (d==NameKind.free&&a.scope.kind == .function&&a.kindOf n==some .cell)=true then (n,UQ) else (n,d))=(x,k):=e;rw[bq c]at f;cases f;rcases hk with rfl | rfl
  .exact .inl g
  .exact .inr g
def zft {d:Vr}{a:Env}{x:Str}(hk:a.scope.kind=.function)(l:a.kindOf x=some .cell)(h:d.names.lookup x=some .free):(Vx d a).names.lookup x=some .cell:=by
 have i:∀b:List (Str×Tb),b.lookup x=some .free->(b.map λ(n,k)=>if (k==NameKind.free&&a.scope.kind == .function&&a.kindOf n==some .cell)=true then (n,UQ) else (n,k)).lookup x=some .cell:=by
  intro b;induction b with
  | nil=>intro h;cases h
  | cons y r g =>
   obtain⟨n,k⟩:=y;intro h;show R3 x ((if (k==NameKind.free&&a.scope.kind == .function&&a.kindOf n==some .cell)=true then (n,UQ) else (n,k))::_)=_;rw[Ve]at h;cases e:x==n with
   | true =>
    rw[e]at h;have f:k=.free:=Option.some.inj h;have j:x=n:=by simpa using e
    subst f j;rw[bw (by rw[hk,l];rfl),Ve,beq_self_eq_true]
   | false =>
    rw[e]at h;by_cases c:(k==NameKind.free&&a.scope.kind == .function&&a.kindOf n==some .cell)=true
    .rw[bw c,Ve,e];exact g h
    .rw[bq c,Ve,e];exact g h
 exact i d.names h
theorem zV.free {X:Cx}{N:AE}{src:List (Option Nat)}{a:Vr}{O:List (Str×Tb)}{XN:AE}(u:X.env.scope.names=O)(s:X.env.scope.kind=.function)(r:∃n,X.env.cells=Se n O [])(v:X.N=XN)
  (f:a.kind=.function) (b:∀y∈a.names,y.2 ≠ .cell) (d:∀y∈a.names,y.2=.local->a.names.lookup y.1=some .local) (p:∀y∈a.names,y.2=.free->O.lookup y.1=some .cell) (len:src.length=N.length)
  (B:∀q∈N.zip src,q.2=none\/(∃j∈Wh XN.length,q.2=some j/\XN[j]?=some q.1/\O.lookup q.1=some .cell/\a.names.lookup q.1=some .free)):zV X N src a (zbu (λx=>X.env.cells.lookup x) a.names []):=by
 have g:∀y∈a.names,y.2=.free->(X.env.cells.lookup y.1).isSome=true:=λy A e=>by
  obtain⟨n,w⟩:=r;rw[w];exact T2 O n [] (.inl (p y A e))
 refine⟨f,b,d,Jf g,λx c h=>?_,λx h=>?_,len,λi j x h1 h2=>?_⟩
 .rcases ZG _ _ _ (WK h) with z | z
  .cases z
  .exact z
 .refine Wa.mp (zcT _ _ (.inr ?_));have hm:(x,UQ)∈a.names\/(x,NameKind.free)∈a.names:=by
   rcases h with h | h
   .exact yE (WK h) (.inl rfl)
   .exact yE (WK h) (.inr rfl)
  rcases hm with hm | hm
  .exact absurd rfl (b _ hm)
  .exact⟨hm,g _ hm rfl⟩
 .have hm:(x,some j)∈N.zip src:=by
   refine X7 (i:=i) ?_;rw[Tj];exact⟨h1,h2⟩
  rcases B _ hm with z | ⟨D,_,e,l,m,o⟩
  .cases z
  .cases e;have k:X.env.kindOf x=some .cell:=by
    show X.env.scope.names.lookup x=some .cell;rw[u];exact m
   exact⟨by rw[v];exact l,.inl k,.inl (zft s k o)⟩
open PySem PySem.Spec PyProof.Rows PySem.W
section
variable {α β:Type}{R:α->β->Prop}{us us':List α}{cs cs':List β}{i:Nat}{v:α}{c:β}
def zcU (h:WU R us cs)(k:WU R us' cs'):WU R (us++us') (cs++cs'):=by
 induction h with
 | nil=>exact k
 | cons q _ a=>exact .cons q a
def zgo (h:WU R us cs)(e:us[i]?=some v):∃c,cs[i]?=some c/\R v c:=by
 induction h generalizing i with
 | nil=>cases e
 | cons q _ a =>
  cases i with
  | zero =>
   cases e;exact⟨_,rfl,q⟩
  | succ i=>exact a (i:=i) e
def zll (h:WU R us cs)(e:v∈us):∃c∈cs,R v c:=by
 induction h with
 | nil=>cases e
 | cons q _ a =>
  rcases XJ.mp e with rfl | e
  .exact⟨_,XV,q⟩
  .obtain⟨c,h,r⟩:=a e;exact⟨c,XW _ h,r⟩
end
def xY (H:Hp):AF->List (Int×Int)->Prop:=WU λv p=>∃a,v=V.ref a/\H a=some (.tup [.int p.1,.int p.2])
def lt2 (p q:Int×Int):Bool:=if p.1=q.1 then decide (p.2<q.2) else decide (p.1<q.1)
structure zF (h:Heap)(v:Y1)(p:Int×Int):Prop where
 ex:∃a o n t u,v=.ref a/\h.get? a=some o/\o.cls=.type "tuple"/\o.data=.seq #[.int p.1 t,.int p.2 u] n
section
variable {X:Cx}{bQ:List (Addr×Obj)}{σ:St}{H:Hp}{s:X8}
def xY.pairs (I:Inv X bQ σ H s){d:AF}{ps:List (Int×Int)}{b:List Y1}(j:xY H d ps)(r:Vals d b):WU (zF s.heap) b ps:=by
 induction j generalizing b with
 | nil =>
  cases r;exact .nil
 | cons q _ k =>
  obtain⟨a,e,h⟩:=q;subst e;cases r with
  | cons l m =>
   cases l;refine .cons ?_ (k m);obtain⟨c,o,v,_⟩:=I.tuple (SqT.of h);obtain⟨u1,w,rfl,⟨p,rfl⟩,⟨u,rfl⟩⟩:=vals2 o;obtain⟨ob,i,f,n,g⟩:=v;exact⟨a,ob,n,p,u,rfl,i,f,g⟩
end
theorem Yt {h h':Heap}(k:∀b o,h.get? b=some o->h'.get? b=some o):∀{c:List Y1} {ps:List (Int×Int)},WU (zF h) c ps->WU (zF h') c ps
 | _,_,.nil=>.nil
 | _,_,.cons ⟨a,o,n,t,u,e,d,r⟩ tl=>.cons ⟨a,o,n,t,u,e,k _ _ d,r⟩ (Yt k tl)
theorem zaG {h:Heap}:∀{b:List Y1} {ps:List (Int×Int)},WU (zF h) b ps->∃fs:List Y1,KatTups h b fs/\fs.length=b.length/\∀v∈fs,∃x t,v=Vl x t
 | _,_,.nil=>⟨[],.nil,rfl,λ_ z=>nomatch z⟩
 | _,_,.cons ⟨a,o,n,t,u,e,f,c,d⟩ tl=>by
  obtain⟨fs,k,l,q⟩:=zaG tl;subst e;refine⟨.int _ t::fs,KatTups.cons f c d rfl k,by simp[l],λv hv=>?_⟩;rcases XJ.mp hv with rfl | hv
  .exact⟨_,t,rfl⟩
  .exact q v hv
section
variable {prog:Xr}{w:Xe}{A:W1}{E:Y1->X8->Prop}{s:X8}
def znK {v i:Y1}{p q:Int×Int}{C:Bool->X8->Prop}(r:zF s.heap v p)(f:zF s.heap i q)(h:C (lt2 p q) s):Xu (Xw prog w) A (keyLt' (tuples' true) v i) C E s:=by
 obtain⟨a,o,n,t,u,rfl,l,B,k⟩:=r;obtain⟨z,H,G,x,y,rfl,c,j,b⟩:=f;refine kat_lt l k c b ?_;show KatLex prog w A true _ C [(Vl p.1 t,Vl q.1 x),(Vl p.2 u,Vl q.2 y)] 0 s;unfold lt2 at h;refine kat_cons (SeqAt.EqAt.int_int _ _ _ _ prog w _ _ (kat_go (λd=>kat_yes ?_) λd=>kat_no ?_))
 .have e:p.1=q.1:=by simpa using d
  rw[bw e]at h;refine kat_cons (SeqAt.EqAt.int_int _ _ _ _ prog w _ _ (kat_go (λg=>kat_yes (kat_nil ?_)) λg=>kat_no ?_))
  .have D:p.2=q.2:=by simpa using g
   have m:decide (p.2<q.2)=false:=bf (by lia);rw[m]at h;exact h
  .exact kat_one _ _ (lt_int h)
 .have e:¬ p.1=q.1:=by simpa using d
  rw[bq e]at h;exact oneLt_int h
end
section
variable {X:Cx}
def zgp:zrv X (zrG X.K):=by
 intro g s B H x y v u Q I o A h;obtain⟨p,J,i,z,rfl,rfl,n,he,q⟩:=h;cases o;obtain⟨t,rfl⟩:=A;obtain⟨c,r,f,G⟩:=I.list n;obtain⟨j,h1,h2,D,k,l⟩:=zcu he;obtain⟨w,e,d⟩:=r.get h2;have m:=r.length;have E:=Y6;have a:EP X g B Q w s:=⟨z,H,I,d,q⟩;by_cases h0:0<=i
 .have b:i.toNat=j:=by
   rw[OX h0 l]at h1;exact Option.some.inj h1
  exact wpAny_getItem_list f.isList h0 (by lia) (by rw[b];simpa using e) a
 .have b:(i+(c.toArray.size:Int)).toNat=j:=by
   rw[Ps (by lia) k]at h1;rw[XB,<- m];exact Option.some.inj h1
  exact Pm f.isList (by lia) (by rw[XB]<;>lia) (by lia) (by rw[b];simpa using e) a
theorem zgq:∀{b:List Int} {a:List Y1},Vals (b.map V.int) a->OB a b
 | [],_,r=>by cases r;exact .nil
 | n::b,_,r=>by
  cases r with
  | cons c d =>
   obtain⟨t,rfl⟩:=c;exact .cons n t (zgq d)
def zlm (i:X.calm=true):j3 X (.builtin "sum") (λxs H Q=>∃(l:Addr) (a:List Int),xs=[.ref l]/\SqL X.K H l (a.map V.int)/\Q (.int a.sum) H):=by
 intro o s z H xs y Q I r h;obtain⟨l,a,rfl,j,q⟩:=h;obtain⟨u,rfl,m⟩:=vals1 r;cases m;obtain⟨b,n,k,v⟩:=I.list j;have e:OB b a:=zgq n;obtain⟨c,d⟩:=e.allInts.items;refine sum_intListG (I.ok.hd i) (xs:=c) (d ▸ k.isList) λp x w hk=>?_;have f:a=c.toList.map (·.1):=by
  rw[<- nums_intItems,<- d];exact(show numsOf b.toArray.toList=a from e.numsOf).symm
 have g:preSum (numAt c) c.size=a.sum:=by
  rw[f,preSum_eq,Wu (by simp)]
 rw[g];exact⟨.int _,H,I.kept hk,⟨_,rfl⟩,q⟩
def zj3 {bs:List Bool}{a:List Y1}(r:Vals (bs.map V.bl) a){i:Nat}{v:Y1}(e:a[i]?=some v):∃b,bs[i]?=some b/\v=.bool b:=by
 have d:=r.length;rw[X9]at d;have c:i<bs.length:=by
  have:=(XZ.mp e).1;lia
 obtain⟨u,f,g⟩:=r.get (i:=i) (x:=.bl bs[i]) (by rw[Xo,X2 c];rfl);rw[f]at e;cases e;exact⟨bs[i],X2 c,g⟩
def zgr (m:X.calm=true):j3 X (.builtin "any") (λxs H Q=>∃(l:Addr) (bs:List Bool),xs=[.ref l]/\SqL X.K H l (bs.map V.bl)/\Q (.bl (bs.any id)) H):=by
 intro y s J H xs G Q I r h;obtain⟨l,bs,rfl,n,q⟩:=h;obtain⟨u,rfl,p⟩:=vals1 r;cases p;obtain⟨a,j,o,B⟩:=I.list n;have d:=o.isList;have f:l<s.heap.objs.size:=let ⟨_,he,_⟩:=d;XH he
 have c:=j.length;rw[X9]at c;refine call_any_walk (SA d ?_);refine dD s.heap.objs.size [s.heap.objs.size,l] [s.heap.objs.size] a.toArray.size (dG (dJ (λi=>(bs[i]?).getD false) rfl (Walks.list (A:=X.A.in1) (I.ok.hd m) _ l (Xm f) a.toArray) ⟨⟨_,Xl _ rfl,rfl,rfl⟩,d.push _⟩ (λi v D x w hP g=>?_) (λz E hk=>?_)))
 .obtain⟨b,k,rfl⟩:=zj3 j (i:=i) (v:=v) (by simpa using hP);simp only[k,Tl]at g;exact U3 g
 .have e:((Wh a.toArray.size).any λi=>(bs[i]?).getD false)=bs.any id:=by
   rw[XB,<- c];exact LSm.range_any bs
  rw[e];exact⟨.bl _,H,I.kept (LSm.kept_iter hk),rfl,q⟩
end
mutual
inductive Rdn (N:Addr->Prop)(H:Hp):V->Wf->Prop
 | non:Rdn N H .non .none
 | bl (b:Bool):Rdn N H (.bl b) (.bool b)
 | int (i:Int):Rdn N H (.int i) (.int i)
 | str (x:Str):Rdn N H (.str x) (.str x)
 | lst {a:Addr} {xs:AF} {ds:List Wf}:N a->H a=some (.lst xs)->zH N H xs ds->Rdn N H (.ref a) (.list ds)
 | tup {a:Addr} {xs:AF} {ds:List Wf}:H a=some (.tup xs)->zH N H xs ds->Rdn N H (.ref a) (.tuple ds)
inductive zH (N:Addr->Prop)(H:Hp):AF->List Wf->Prop
 | nil:zH N H [] []
 | cons {x:V} {d:Wf} {xs:AF} {ds:List Wf}:Rdn N H x d->zH N H xs ds->zH N H (x::xs) (d::ds)
end
section
variable {K:X5}{N N':Addr->Prop}{H H':Hp}
def Rdn.rdv {v:V}{d:Wf}(h:Rdn N H v d):Rdv K H v d :=
 Rdn.rec (motive_1:=λv d _=>Rdv K H v d) (motive_2:=λc b _=>Je K H c b) .non .bl .int .str (λ_ h _ t=>.lst (SqL.of h) t) (λh _ t=>.tup (SqT.of h) t) .nil (λ_ _ a t=>.cons a t) h
def zH.rdv {vs:AF}{b:List Wf}(h:zH N H vs b):Je K H vs b :=
 zH.rec (motive_1:=λv d _=>Rdv K H v d) (motive_2:=λvs b _=>Je K H vs b) .non .bl .int .str (λ_ h _ t=>.lst (SqL.of h) t) (λh _ t=>.tup (SqT.of h) t) .nil (λ_ _ a t=>.cons a t) h
def Rdn.mono (s:zu H H')(i:∀a,N a->N' a){v:V}{d:Wf}(h:Rdn N H v d):Rdn N' H' v d :=
 Rdn.rec (motive_1:=λv d _=>Rdn N' H' v d) (motive_2:=λc b _=>zH N' H' c b) .non .bl .int .str (λn h _ t=>.lst (i _ n) (s _ _ h) t) (λh _ t=>.tup (s _ _ h) t) .nil (λ_ _ a t=>.cons a t) h
def zH.mono (s:zu H H')(i:∀a,N a->N' a){vs:AF}{b:List Wf}(h:zH N H vs b):zH N' H' vs b :=
 zH.rec (motive_1:=λv d _=>Rdn N' H' v d) (motive_2:=λvs b _=>zH N' H' vs b) .non .bl .int .str (λn h _ t=>.lst (i _ n) (s _ _ h) t) (λh _ t=>.tup (s _ _ h) t) .nil (λ_ _ a t=>.cons a t) h
def zH.into {D:Addr}{o:HO}{c:AF}(e:H D=some (.lst c))(i:∀a,N a->a≠D){vs:AF}{b:List Wf}(h:zH N H vs b):zH N (upd H D o) vs b :=
 zH.rec (motive_1:=λv d _=>Rdn N (upd H D o) v d) (motive_2:=λvs b _=>zH N (upd H D o) vs b) .non .bl .int .str (λn h _ t=>.lst n (by rw[zo (i _ n)];exact h) t) (λh _ t=>.tup (by rw[zo (zeq h e (by intro z;cases z))];exact h) t) .nil (λ_ _ a t=>.cons a t) h
def Rdn.keep (s:zu H H'){v:V}{d:Wf}(h:Rdn N H v d):Rdn N H' v d:=h.mono s λ_ n=>n
def zH.keep (s:zu H H'){vs:AF}{a:List Wf}(h:zH N H vs a):zH N H' vs a:=h.mono s λ_ n=>n
def zH.append {vs d:AF}{b c:List Wf}(h:zH N H vs b)(k:zH N H d c):zH N H (vs++d) (b++c) :=
 zH.rec (motive_1:=λ_ _ _=>True) (motive_2:=λvs b _=>zH N H (vs++d) (b++c))
  trivial (λ_=>trivial) (λ_=>trivial) (λ_=>trivial) (λ_ _ _ _=>trivial) (λ_ _ _=>trivial) k (λa _ _ t=>.cons a t) h
def zH.snoc {vs:AF}{a:List Wf}{v:V}{d:Wf}(h:zH N H vs a)(k:Rdn N H v d):zH N H (vs++[v]) (a++[d]):=h.append (.cons k .nil)
def zH.paired {vs:AF}{b:List Wf}(h:zH N H vs b):WU (Rdn N H) vs b :=
 zH.rec (motive_1:=λ_ _ _=>True) (motive_2:=λvs b _=>WU (Rdn N H) vs b)
  trivial (λ_=>trivial) (λ_=>trivial) (λ_=>trivial) (λ_ _ _ _=>trivial) (λ_ _ _=>trivial) .nil (λa _ _ t=>.cons a t) h
theorem zH.length {vs:AF}{a:List Wf}(h:zH N H vs a):vs.length=a.length:=Paired.length h.paired
def zH.get {vs:AF}{a:List Wf}{i:Nat}{v:V}(h:zH N H vs a)(e:vs[i]?=some v):∃d,a[i]?=some d/\Rdn N H v d:=zgo h.paired e
end
section
variable {K:X5}{g:TG}{tc:TT}{te:TE}{Q:VK}{σ0:St}{H1:Hp}{D:Addr}
def znL (N:Addr->Prop)(c:St->Prop)(H:Hp)(o:Option Wf)(Y:St->V->Hp->Prop):Prop:=∀d y a b,o=some d->c a->zu H b->Rdn N b y d->Y a y b
def zp9 (b:St->Prop)(H:Hp)(o:Option Wf)(Z:St->Hp->Prop):Prop:=∀ a c,o=none->b a->zu H c->Z a c
def jg {a:Addr}{xs:AF}(N:Addr->Prop)(c:List (Option Wf))(h:St->Prop)(E:H1 D=none)(L:∀a,N a->a≠D)(h0:h σ0)(n:c.length=xs.length)(hz:xs.length<=100000)
  (U:SqL K H1 a xs)
  (hs:∀(i:Nat) (x:V) (o:Option Wf) (k:St) (H:Hp),xs[i]?=some x->c[i]?=some o->zu H1 H->H D≠none->h k->∀Y Z,znL N h H o Y->zp9 h H o Z ->
   g x k H fun f J=>tc f J λb r=>if b=true then te f r λy B=>Y f y B else Z f r)
  (M:∀ys j,zu H1 j->j D=some (.lst ys)->zH N j ys (c.filterMap id)->Q (.ref D) j):xX (Itl K a) g tc te Q D σ0 (upd H1 D (.lst [])):=by
 refine qw (K:=K) (a:=a) (xs:=xs) (λi k j=>h k/\zu H1 j/\∃ys,j D=some (.lst ys)/\ys.length<=i/\zH N j ys ((c.take i).filterMap id)) ⟨h0,zd E,[],zc,XX _,.nil⟩ (λi k j _ ⟨_,s,_⟩=>s.seq U) ?_ ?_
 .rintro i x k H I ⟨O,s,ys,m,A,p⟩;have u:i<xs.length:=(XZ.mp I).1;obtain⟨o,G⟩:∃o,c[i]?=some o:=⟨c[i]'(by lia),X2 (by lia)⟩;have step:(c.take (i+1)).filterMap id=(c.take i).filterMap id++o.toList:=by
   rw[Xv,G,List.filterMap_append];cases o<;>rfl
  refine hs i x o k H I G s (by rw[m];exact λz=>nomatch z) O _ _ (λd y f B e l q v=>?_) (fun f r e l w=>?_)
  .subst e;refine⟨ys,q _ _ m,Xx A (Xs u (X0 hz (by decide))),l,λb ob e=>?_,ys++[y],zc,?_,?_⟩
   .rw[zo (zk e E)];exact q _ _ (s _ _ e)
   .rw[XR];exact ON A 1
   .rw[step];exact zH.into (q _ _ m) L (zH.snoc (p.keep q) v)
  .subst e;refine⟨l,s.trans w,ys,w _ _ m,Uz A,?_⟩;rw[step];simpa using p.keep w
 .rintro k H ⟨_,s,ys,m,_,p⟩;rw[<- n,XC]at p;exact M ys H s m p
def zhQ {a:Addr}{xs:AF}(Pv:Nat->St->Hp->Prop){H:Hp}(h0:Pv 0 σ0 H)(s:∀i c H,i<=xs.length->Pv i c H->SqL K H a xs)
  (u:∀i x T c H,xs[i]?=some x->H T=none->Pv i c H->g (.ref T) c (upd H T (.tup [.int i,x])) fun d l=>tc d l λb h=>if b=true then te d h λy j=>∃ys,j D=some (.lst ys)/\ys.length<Xz/\Pv (i+1) d (upd j D (.lst (ys++[y]))) else Pv (i+1) d h)
  (o:∀ c H,Pv xs.length c H->Q (.ref D) H):xX (Ite K a) g tc te Q D σ0 H:=by
 refine⟨λi m c H=>m=xs.length-i/\i<=xs.length/\Pv i c H,⟨xs.length,by simp,WZ _,h0⟩,?_⟩;rintro i m c H ⟨rfl,r,p⟩;have q:=s i c H r p;by_cases f:i<xs.length
 .refine .inr ⟨⟨xs,q,f⟩,Pv (i+1),fun A k z=>⟨xs.length-(i+1),by lia,rfl,f,z⟩,λx k y=>?_⟩;obtain⟨T,rfl,n,y⟩:=y;obtain⟨v,w,rfl⟩:=y xs q;exact u i v T c H w n p
 .have e:i=xs.length:=by lia
  subst e;exact .inl ⟨⟨xs,q,rfl⟩,o c H p⟩
def xO {i:Nat}{v:V}{c:St}{H:Hp}{A B:St->Hp->Prop}(h:A (c.set i (some v)) H):Q0 i v c H fun a e=>zlh a e λb d=>if b=true then A a d else B a d:=by
 show if true=true then A (c.set i (some v)) H else B (c.set i (some v)) H
 exact zbs h
def zln {X:Cx}{e:Expr}:PE X e (λ_ _ _=>False):=λ_ _ _ _ _ _ h=>h.elim
end
section
variable {X:Cx}
def zcV {v:Y1}{o:Option Int}(h:IsPart v o):∃p:Option (Int×Tok),v=RL p/\p.map (·.1)=o:=by
 cases h with
 | none=>exact⟨none,rfl,rfl⟩
 | int i t=>exact⟨some (i,t),rfl,rfl⟩
end
def Jj:List Y1:=[.type "ValueError",.type "Exception",.type "BaseException",.type "object"]
structure Fly (P:Xr)(w:Xe)(outer:List Env)(H:Hp)(s:X8)(e C:Addr)(a0:Y1)(B:Heap)(H':Hp)(s':X8):Prop where
 fly:N0 B outer e (.ref C) a0 s'.heap
 os:s'.os=s.os
 bare:SL s'.gens
 un:Un (frs outer) [] H H' s.heap s'.heap
 ok:HOk P w H' B
 kB:∀b o,s.heap.get? b=some o->H b=none->b ∉ frs outer->B.get? b=some o
 tB:∀b o,s.heap.get? b=some o->b ∉ frs outer->∃o',B.get? b=some o'
 new:s.heap.get? e=none
 free:H' e=none
def CXE (P:Xr)(w:Xe):CXT:=λa H s E x d=>∃(e C:Addr) (c:Y1) (B:Heap) (b:Hp),x=.ref e/\Fly P w a H s e C c B b d/\E (.ref C) none b
theorem zlo {P:Xr}{w:Xe}{H:Hp}{h:Heap}{a:Addr}:∀{o:HO},jd P w H h a o->∃ob,h.get? a=some ob
 | .lst _,x=>by obtain⟨_,_,_,_,q⟩:=x;exact⟨_,q⟩
 | .tup _,x=>by obtain⟨_,_,_,ob,q,_⟩:=x;exact⟨ob,q⟩
 | .dK _,x=>by revert x;refine eY λ_ _ _ _=>eX λob _ _ q _=>?_;exact⟨ob,q⟩
 | .dT _,x=>by revert x;refine eY λ_ _ _ _=>eX λob _ _ q _=>?_;exact⟨ob,q⟩
 | .set _ _,x=>by revert x;refine fc λob _ _ _ q _=>?_;exact⟨ob,q⟩
 | .ins _ _ _,x=>by obtain⟨_,_,_,q,_⟩:=x;exact⟨_,q⟩
 | .own _,x=>x
 | .xd _,x=>by obtain⟨_,⟨ob,_,_,q,_⟩,_⟩:=x;exact⟨ob,q⟩
 | .met _ _,x=>⟨_,x⟩
 | .rng _ _,x=>by obtain⟨_,_,_,q⟩:=x;exact⟨_,q⟩
 | .frz _ _,x=>⟨_,x.1⟩
 | .tbl _,x=>⟨_,x⟩
 | .ext _,x=>x.2.1
section
variable {X:Cx}{bQ:List (Addr×Obj)}{σ:St}{H H':Hp}{s s':X8}{e C:Addr}{a0:Y1}{B h2:Heap}
def Inv.notLoc (I:Inv X bQ σ H s){b:Addr}{o:Obj}(q:X.s₀.heap.get? b=some o):b≠X.env.locals:=λz=>Wj _ (Xs (z ▸ XH q) I.ok.above)
def Inv.notStk (I:Inv X bQ σ H s){b:Addr}{o:Obj}(q:X.s₀.heap.get? b=some o)(a:b ∉ X.fs):b ∉ frs X.stack:=λz=>by
 rcases XJ.mp (I.stkSub b z) with r | r
 .exact I.notLoc q r
 .exact a r
def Inv.flies (I:Inv X bQ σ H s)(j:X.ex=[])(F:N0 B X.outer e (.ref C) a0 h2)(up:s'.heap.UpToSlots h2)(os:s'.os=s.os)(i:SL s'.gens)(un:Un (frs X.stack) [] H H' s.heap s'.heap)(ok:HOk X.prog X.w H' B)
  (x:∀b o,s.heap.get? b=some o->H b=none->b ∉ frs X.stack->B.get? b=some o) (Q:∀b o,s.heap.get? b=some o->b ∉ frs X.stack->∃c,B.get? b=some c) (k:s.heap.get? e=none) (free:H' e=none) :
  Fly X.prog X.w X.outer X.H₀ X.s₀ e C a0 B H' { s' with heap:=h2 }:=by
 have f:∀b,b ∉ X.ex:=λb z=>by rw[j]at z;cases z
 have keep:∀b o,X.s₀.heap.get? b=some o->X.H₀ b=none->b ∉ X.fs->B.get? b=some o:=λb o q n a =>
  x b o (I.base.keep b o q n a (f b)) (I.base.free b o q n (f b)) (I.notStk q a)
 have d:∀b o,X.s₀.heap.get? b=some o->b ∉ X.fs->∃c,B.get? b=some c:=λb o q a=>by
  obtain⟨c,h⟩:=I.base.there b o q (f b);exact Q b c h (I.notStk q a)
 have g:∀b o,X.s₀.heap.get? b=some o->b∈X.fs->∃l,h2.get? b=some { o with slots:=l }:=λb o q a=>by
  obtain⟨_,U,p,D⟩:=I.ok.funs.mem a;rw[q]at p;cases p;obtain⟨l,G⟩:=I.base.slot b o q (I.ok.frf b a) a (f b);obtain⟨O,J⟩:=un.any G (I.base.free b o q (I.ok.frf b a) (f b)) (λz=>nomatch z);obtain⟨m,L⟩:=up b _ J D;exact⟨m,L⟩
 refine⟨F,os.trans I.os,i,⟨λb o q n a _=>F.1 b o (keep b o q n a),λb o q _ a _=>g b o q a,λb o q n _=>?_,λb o q _=>?_,λb v q=>un.tups b v (I.base.tups b v q),λb o u q=>un.frzs b o u (I.base.frzs b o u q),λb E q=>?_⟩,ok,keep,d,?_,free⟩
 .obtain⟨c,h⟩:=I.base.there b o q (f b);exact un.free b c h (I.base.free b o q n (f b)) λz=>nomatch z
 .by_cases a:b∈X.fs
  .obtain⟨l,r⟩:=g b o q a;exact⟨_,r⟩
  .obtain⟨c,r⟩:=d b o q a;exact⟨c,F.1 b c r⟩
 .obtain⟨y,M⟩:=I.base.tbls b E q;obtain⟨A,N⟩:=un.tbls b _ M;exact⟨y++A,by rw[N,Rx]⟩
 .cases q:X.s₀.heap.get? e with
  | none=>rfl
  | some o =>
   obtain⟨c,h⟩:=I.base.there e o q (f e);rw[k]at h;cases h
structure jI (X:Cx)(E:XK):Prop where
 stk:X.stack=X.env::X.outer
 fr:X.env.frame=some X.env.locals
 ex:X.ex=[]
 xe:X.xe=λx s'=>Xu (Xw X.prog X.w) X.A (leaving X.env x) (λ_ s''=>CXE X.prog X.w X.outer X.H₀ X.s₀ E x s'') (λx' s''=>CXE X.prog X.w X.outer X.H₀ X.s₀ E x' s'') s'
def qx {P:Xr}{w:Xe}{K:X5}{e:Str->Option Y1}{base:Heap}{N:AE}{c:Str}{b:Vr}{f:Addr}{d:Y1}{A:W1}{a:List Env}{s:X8}{H:Hp}{E:XK} :
  jI (zbq (CXE P w) P w K e base N c b f d A a s H E) E:=⟨rfl,rfl,rfl,rfl⟩
def zqa {l:List Env}:∀b∈l,∀a,b.frame=some a->a∈frs l:=λb he a c=>Vd.mpr ⟨b,he,c⟩
def jI.made {E:XK}(L:jI X E)(I:Inv X bQ σ H s){h1:Heap}{vs:List Y1}(c:Heap.MadeExcOf s.heap h1 e (.ref C) vs)(h:E (.ref C) none H):X.xe (.ref e) { s with heap:=h1 }:=by
 rw[L.xe];have i:=I.stack;have d:∀a o,H a=some o->a ∉ frs X.stack:=λa o q z=>by
  rw[I.stkFree a z]at q;cases q
 have own:∀a b,H b=some (.own a)->b ∉ frs X.stack:=λa b q=>d b _ q;have fresh:H e=none:=by
  cases q:H e with
  | none=>rfl
  | some o =>
   obtain⟨f,g⟩:∃f,s.heap.get? e=some f:=by
    exact zlo (I.hok e o q)
   rw[c.new]at g;cases g
 refine wpAny_leaves_madeW (base:=PySem.W.hideAll s.heap (frs X.stack)) (L:=X.env.locals) (by rw[I.ok.frames,L.stk]) L.fr (λb o q=>PySem.W.of_hideAll _ q) (PySem.W.funFrames_hide (by rw[<- L.stk];exact i) (by rw[<- L.stk];exact zqa)) c λl t j m n k=>?_;refine⟨e,C,_,_,H,rfl,I.flies (s':={ s with heap:=h1 }) L.ex j k rfl I.bare (Un.kept c.keeps) ?_ (λb o q _ hb=>Ti _ q hb) (λb o q hb=>⟨o,Ti _ q hb⟩) c.new fresh,h⟩;exact λa o q=>(I.hok a o q).stay (λb u hb r=>Ti _ r (by
  rcases hb with hb | hb
  .rw[hb];exact d a o q
  .exact own a b hb)) (λ_ r=>r) λ_ _ r=>r
def jI.passes {E:XK}(L:jI X E):Passes (CXE X.prog X.w) X E:=by
 intro bQ σ H s x s' I h;obtain⟨e,C,a0,B,H',rfl,F,b⟩:=h;rw[L.xe];have a:=F.fly;rw[L.stk]at a;refine wpAny_leaves_onW (by rw[I.ok.frames,L.stk]) L.fr a λh2 c d=>?_;exact⟨e,C,a0,B,H',rfl,I.flies L.ex c d F.os F.bare F.un F.ok F.kB F.tB F.new F.free,b⟩
def jI.own {E:XK}(L:jI X E):Oy (Xw X.prog X.w) X.A X.env X.xe:=by
 rw[L.xe];exact PassesOwn.leaving
end
structure qi (K:X5)(mg:Str->Option Y1)(x:Str)(C:Addr):Prop where
 g:mg x=some (.ref C)
 q:WG K C Jj "ValueError.__new__"=true
structure zpc (h:Heap)(C:Addr)(bm:List Y1):Prop where
 ex:∃N nm qn bs hdct sn sub ab col dd k0 k1 k2 k3 k5 mN,h.get? C=some (excClassObj nm qn C N bs bm hdct sn sub ab col dd k0 k1 k2 k3 k5 "ValueError.__new__")/\h.Ns N mN/\mN "__init__"=none
 tl:OwnTail h Jj bm
def zlp {K:X5}{h:Heap}{C:Addr}(d:K.In h)(f:WG K C Jj "ValueError.__new__"=true):∃bm,zpc h C bm:=by
 unfold WG at f;split at f
 .rename_i dd cd sl look;split at f
  .rename_i C' bm k0 k1 k2 k3 n k5 em es;simp only[VC,beq_iff_eq,Wx]at f;obtain⟨⟨⟨⟨⟨rfl,rfl⟩,b⟩,e⟩,c⟩,a⟩:=f;obtain⟨p,bs,o,q,r,m,s,sub,j,g,k⟩:=cd;dsimp only at em b c a;subst em b;have i:sl=#[k0,k1,k2,k3,some (.builtin "ValueError.__new__"),k5]:=by
    obtain⟨l⟩:=sl;simp only at es;rw[es]
   subst i;exact⟨bm,(dD q p r bs (dD m s sub j (dD g dd k0 k1 (dB k2 k3 (dR k5 (d _ _ look) (.of_isNs (PySem.W.isNs_of_in d c)) (PySem.W.nsMap_none_of_in d c a)))))),PySem.W.tail_of_in d e⟩
  .cases f
 .cases f
section
variable {X:Cx}
def zqb (E:XK)(C:Addr)(t:TA):TS:=λ_ c H=>t c H λb a=>b.length<=Xz/\E (.ref C) none a
def zcW {x:Str}{C:Addr}{y c pos:Pos}{f:Expr}{b:List Expr}{t:TA}{E:XK}(L:jI X E)(O:qi X.K X.mg x C)(p:Gl X x)(o:X.calm=true)(n:PA X (f::b) t)
  (he:W4 (f::b) X.env=(false,eval f X.env)::W4 b X.env:=by rfl) (u:(UI c (W4 b X.env)).any (·.1)=false:=by rfl) (i:(x==("__debug__":Str))=false:=by decide) :
  PS X (.Raise (some (.Call (.Name x y) (f::b) [] c)) none pos) (zqb E C t):=by
 intro k s A H D I h;obtain⟨bm,⟨N,nm,z,bs,hdct,sn,sub,ab,col,dd,k0,k1,k2,k3,k5,mN,l,m,j⟩,T⟩:=zlp I.ok.mod.kin O.q;refine wpAny_Raise_call_subU (C:=C) (nm:=nm) (q:=z) (N:=N) (bs:=bs) (bm:=bm) (hdct:=hdct) (sn:=sn) (sub:=sub) (ab:=ab) (col:=col) (dd:=dd) (k0:=k0) (k1:=k1) (k2:=k2) (k3:=k3) (k5:=k5)
  Rq (by decide) Rq (mN:=mN) (T.hasType PySem.F.excBase_ValueError.hasBase) (I.ok.hd o) (by rw[he];show (false || (UI c (W4 b X.env)).any (·.1))=false;rw[u];rfl) j (xN I p O.g ⟨rfl,?_⟩ i)
 have a:=n c k s A H _ I h;rw[he]at a ⊢;refine Tv (thn a λM J ⟨Q,B,d,r,w,q⟩=>?_);exact⟨rfl,by rw[<- r.length];exact w,d.bk _ _ l,m.keeps d.bk,T.keeps d.bk,λG e v=>L.made d v q⟩
def markX (X:Cx)(e:Addr):Cx:={ X with A:=X.A.mark (some (.ref e)),calm:=false,xe:=λ_ _=>False }
variable {bQ:List (Addr×Obj)}{σ:St}{H:Hp}{s:X8}
def Cx.Ok.mark (ok:X.Ok)(e:Addr):(markX X e).Ok :=
 ⟨ok.mod,ok.kind,ok.glob,ok.blt,ok.above,ok.inj,ok.has,ok.cab,(λz=>nomatch z),ok.frames,ok.stk,ok.exf,ok.bs,ok.bsz,ok.noex,ok.exfs,ok.funs,ok.frf⟩
theorem Inv.mark (I:Inv X bQ σ H s)(e:Addr):Inv (markX X e) bQ σ H s:=⟨I.ok.mark e,I.os,I.bare,I.base,I.loc,I.cell,I.free,I.freeC,I.pin,I.hok,I.len⟩
def Inv.unmark {e:Addr}(I:Inv (markX X e) bQ σ H s)(ok:X.Ok):Inv X bQ σ H s:=⟨ok,I.os,I.bare,I.base,I.loc,I.cell,I.free,I.freeC,I.pin,I.hok,I.len⟩
def zqc (e C:Addr)(h:Heap):Prop:=∃ob a,h.get? e=some ob/\ob.cls=.ref C/\ob.data=.fields a
def exO (e C:Addr):HO:=.ext (zqc e C)
def Inv.nameGoes {M:R5}{A:W1}{E:Y1->X8->Prop}{j:Nat}{n:Str}{pos:Pos}{Q:Unit->X8->Prop}(I:Inv X bQ σ H s)(hN:X.N.Nodup)(L:X.N[j]?=some n)(hl:X.env.scope.names.lookup n=some .local)
  (h:∀s',Inv X bQ (σ.set j none) H s'->Q () s'):Xu M A (do bindName X.env n .none;unbindBehindTheSuite X.env n pos) Q E s:=by
 obtain⟨m,O,x⟩:=id I.loc;refine wpAny_nameGoes_keeps hl O (by rw[I.ok.kind];rfl) λh' v B D=>h _ ?_;have a:∀b o,b≠X.env.locals->s.heap.get? b=some o->h'.get? b=some o:=λb o g q=>(D.2 b g).trans q;obtain⟨oL,_,_,aa,_⟩:=id O;have f:∀b o,X.s₀.heap.get? b=some o->b≠X.env.locals:=λb o q=>I.notLoc q;refine⟨I.ok,I.os,I.bare,⟨λb o q n g u=>a b o (f b o q) (I.base.keep b o q n g u),λb o q n g u=>?_,I.base.free,λb o q u=>?_,I.base.tups,I.base.frzs,I.base.tbls⟩,⟨_,B,λi y v' J w Y=>?_⟩,λy c q=>?_,I.free,I.freeC,λp hp=>?_,λb ob q=>?_,by simpa using I.len⟩
 .obtain⟨sl,r⟩:=I.base.slot b o q n g u;exact⟨sl,a b _ (f b o q) r⟩
 .obtain⟨o',r⟩:=I.base.there b o q u;exact⟨o',a b _ (f b o q) r⟩
 .by_cases e:i=j
  .subst e;have l:i < σ.length:=by rw[I.len];exact(XZ.mp L).1
   rw[Ss l]at w;cases w
  .rw[R0 (Va e)]at w;obtain⟨u',r',z⟩:=x i y v' J w Y;refine⟨u',r',?_⟩;rcases z with ⟨k,q⟩ | ⟨k,c,q,z⟩
   .refine .inl ⟨k,?_⟩;have ny:y≠n:=λq=>e (zcK hN J (q ▸ L));simp[ny,q]
   .exact .inr ⟨k,c,q,z.sameBut D (I.cne y c q)⟩
 .obtain⟨G,z⟩:=I.cell y c q;exact⟨G,z.sameBut D (I.cne y c q)⟩
 .obtain⟨q,n',U,nf,d⟩:=I.pin p hp;exact⟨a p.1 _ U q,n',U,nf,d⟩
 .refine(I.hok b ob q).stay (λc G hc r=>a c G ?_ r) (λ_ r=>r) λ_ _ r=>r;rintro rfl;rcases hc with rfl | hc
  .rw[I.free]at q;cases q
  .rw[I.free]at hc;cases hc
def Fly.caught {l j:Hp}{s1 s':X8}{e C:Addr}{y:Y1}{B h:Heap}(I:Inv X bQ σ l s1)(F:Fly X.prog X.w X.stack l s1 e C y B j s')(i:N0 B X.stack e (.ref C) y h)(up:s'.heap.UpToSlots h) :
  Inv X bQ σ (upd j e (exO e C)) { s' with heap:=h }:=by
 have H:∀b o,s1.heap.get? b=some o->b≠e:=λb o q z=>by
  rw[z,F.new]at q;cases q
 have f:∀b u,j b=some u->b≠e:=λb u q=>zk q F.free;have d:∀b o,s1.heap.get? b=some o->l b=none->b∈frs X.stack->∃v,h.get? b=some { o with slots:=v }:=λb o q n a=>by
  obtain⟨_,D,g,J⟩:=I.stack.mem a;rw[q]at g;cases g;obtain⟨v,p⟩:=F.un.slot b o q n a (λz=>nomatch z);obtain⟨x,s⟩:=up b _ p J;exact⟨x,s⟩
 refine I.call' (ch:=[]) F.os ⟨λb o q n a _=>i.1 b o (F.kB b o q n a),λb o q n a _=>d b o q n a,λb o q n _=>?_,λb o q _=>?_,λb G q=>?_,λb o u q=>?_,λb L q=>?_⟩ (λb ob q=>?_) F.bare λb z=>nomatch z
 .rw[zo (H b o q)];exact F.un.free b o q n λz=>nomatch z
 .by_cases a:b∈frs X.stack
  .obtain⟨v,r⟩:=d b o q (I.stkFree b a) a;exact⟨_,r⟩
  .obtain⟨A,r⟩:=F.tB b o q a;exact⟨A,i.1 b A r⟩
 .have r:=F.un.tups b G q;rw[zo (f b _ r)];exact r
 .have r:=F.un.frzs b o u q;rw[zo (f b _ r)];exact r
 .obtain⟨m,r⟩:=F.un.tbls b L q;exact⟨m,by rw[zo (f b _ r)];exact r⟩
 .by_cases a:b=e
  .subst a;rw[zc]at q;cases q;obtain⟨E,U,g,p,s,_⟩:=i.first;exact⟨⟨E,U,g,p,s⟩,⟨E,g⟩,λY g2 ⟨D,Q,M,N,O⟩ k=>⟨D,Q,k _ M,N,O⟩⟩
  .rw[zo a]at q;refine(F.ok b ob q).stay (λc u _ r=>i.1 c u r) (λc r=>?_) λc G r=>?_
   .rw[zo (f c _ r)];exact r
   .rw[zo (f c _ r)];exact r
def zi3 {M:R5}{A:W1}{E:Y1->X8->Prop}{s:X8}{S e C:Addr}{bm:List Y1}{j:Obj}{Q:Bool->X8->Prop}(O:zpc s.heap S bm)(he:s.heap.get? e=some j)(a:j.cls=.ref C)
  (l:PySem.W.Looks M s.heap (isSubtype (.ref C) (.ref S)) true) (o:Q true s):Xu M A (excMatches (.ref e) (.ref S)) Q E s:=by
 obtain⟨⟨N,D,G,bs,i,H,sub,p,k,r,v,w,x,y,z,B,c,u,n⟩,T⟩:=O;have m:=T.hasType PySem.F.excBase_ValueError.hasBase;obtain⟨h,g,d,t,os⟩:=s;have b:(WN S::bm).contains (.type "BaseException")=true:=by rw[List.contains_cons,m,Bool.or_true]
 have f:=tc_notTuple;unfold excMatches;repeat (first | (with_reducible refine VL he ?_;rw[a]) | with_reducible refine VL c ?_ | (with_reducible refine wpAny_isSubtype_exc c ?_;rw[b]) | wp_step)
 refine l A _ E _ (λ_ _ q=>q) ?_;rw[bw rfl];exact XT (XT (XT o))
end
def Fun.okX {P:Xr}{w:Xe}{K:X5}{i:Str->Option Y1}{base:Heap}{x b:Str}{st:Stmt}{f:Addr}{h:XM}{N ps:AE}{k:Nat}{sp:Sp}(F:Fun K x b st f h)(S:zD N ps (ze st))(len:∀vs H Q E,sp vs H Q E->vs.length=ps.length)
  (d:∀(c:Y1) (A:W1) (a:List Env) (s:X8) (H:Hp) (vs:AF) (Q:VK) (E:XK),xh k (A.deeper (RW b (ze st) s.heap.objs.size f c))->sp vs H Q E ->
   ∃t,PSs (zbq (CXE P w) P w K i base N b (ze st) f c A a s H E) (jr st) t/\t { nx:=λ_ j=>Q .non j,rt:=Q } (start N vs) H):qz P w K i base (CXE P w) (k+1) f h ps sp:=by
 obtain⟨q,r,kV,doc,u,o,c,p,n,rfl,m,e⟩:=F.ex;exact zo8 m e S len λA a s H vs Q E l g=>d c A a s H vs Q E l g
structure Qa (K:X5)(C:Addr):Prop where
 ga:Vy K (.ref C) "__getattribute__"=some (some (.builtin "BaseException.__getattribute__"))
 gh:Vy K (.ref C) "__getattr__"=some none
 cl:Vy K (.ref C) "__class__"=some (some (.builtin "object.__class__"))
 mb:Wn K C (.type "BaseException")=some true
 mo:Wn K C (.type "object")=some true
 ci:SY K C=true
section
variable {prog:Xr}{w:Xe}{A:W1}{E:Y1->X8->Prop}{K:X5}{e C:Addr}
def zd7 {R:QP->X8->Prop}{h:Heap}{g:Array Um}{d:NN}{t:Nat}{os:N7}(F:Qa K C)(b:K.In h){o:Obj}(f:h.get? e=some o)(c:o.cls=.ref C)(i:R (.ok (.ret (.ref C))) ⟨h,g,d,t,os⟩) :
  UJ (Xw prog w) A (.call (.builtin "getset_descriptor.__get__") ⟨[.builtin "object.__class__",.ref e,.ref C],[]⟩) R ⟨h,g,d,t,os⟩:=by
 have a:(⟨h,g,d,t,os⟩:X8).TypeIs (.builtin "object.__class__") "getset_descriptor":=TH;have lo:=Th (M:=Xw prog w) b F.mo;rw[<- PySem.F.owner_object_class]at lo;refine Tt PySem.F.slot_gs_get.plain PySem.F.entry_gs_get (PySem.F.slot_gs_get.check _ _ _ _ _ _ _ _ a (PySem.F.args_gs_get _ _ _) ?_);repeat (any_goals (first | assumption | (with_reducible refine VL f ?_;rw[c]) | wp_step))
 refine lo _ _ _ _ (λ_ _ z=>z) ?_;repeat (any_goals (first | assumption | wp_step))
 refine⟨Code.quiet_builtin _ (by decide+kernel),VE PySem.F.entry_object_class ?_⟩;repeat (any_goals (first | assumption | (with_reducible refine VL f ?_;rw[c]) | wp_step))
def zcj {tk:Tok}{Q:Fin->X8->Prop}{h:Heap}{g:Array Um}{d:NN}{t:Nat}{os:N7}(F:Qa K C)(a:K.In h){o:Obj}(c:h.get? e=some o)(b:o.cls=.ref C)(m:Q (.done (.ret (.ref C))) ⟨h,g,d,t,os⟩) :
  Xu (Xw prog w) A (UD.«object.__getattribute__» ⟨[.ref e,.str "__class__" tk],[]⟩) Q E ⟨h,g,d,t,os⟩:=by
 have f:(⟨h,g,d,t,os⟩:X8).TypeIs (.builtin "object.__class__") "getset_descriptor":=TH;have j:=TH;have k:=PySem.F.slot_gs_get.lookup;have l:=PySem.F.slot_gs_set.lookup;have i:=RY (M:=Xw prog w) a F.cl;repeat (any_goals (first | assumption | (with_reducible refine VL c ?_;rw[b]) | wp_step))
 refine i _ _ _ _ (λ_ _ z=>z) ?_;repeat (any_goals (first | assumption | (with_reducible refine VL c ?_;rw[b]) | wp_step))
 refine zd7 F a c b ?_;repeat (any_goals (first | assumption | wp_step))
def zfu {M:R5}{a:Y1}{Q:Unit->X8->Prop}{h:Heap}{g:Array Um}{d:NN}{t:Nat}{os:N7}(F:Qa K C)(b:K.In h){o:Obj}(f:h.get? e=some o)(c:o.cls=.ref C)(m:Q () ⟨h,g,d,t,os⟩) :
  Xu M A (PM "BaseException.__getattribute__" ⟨[.ref e,a],[]⟩) Q E ⟨h,g,d,t,os⟩:=by
 have i:builtinKind "BaseException.__getattribute__"=some .slot:=by decide+kernel
 have k:splitId "BaseException.__getattribute__"=some ("BaseException","__getattribute__"):=by decide+kernel
 have l:=PySem.F.args_bexc_ga (.ref e) a;have j:=Th (M:=M) b F.mb;simp only[PM,i,k];refine ZB ?_;unfold isInstance;repeat (first | (with_reducible refine VL f ?_;rw[c]) | wp_step)
 refine j _ _ _ _ (λ_ _ z=>z) ?_;repeat (any_goals (first | assumption | wp_step))
def zcX {tk:Tok}{R:QP->X8->Prop}{h:Heap}{g:Array Um}{d:NN}{t:Nat}{os:N7}(F:Qa K C)(a:K.In h){o:Obj}(c:h.get? e=some o)(b:o.cls=.ref C)(f:R (.ok (.ret (.ref C))) ⟨h,g,d,t,os⟩) :
  UJ (Xw prog w) A (.call (.builtin "BaseException.__getattribute__") ⟨[.ref e,.str "__class__" tk],[]⟩) R ⟨h,g,d,t,os⟩ :=
 Tt PySem.F.attr_ValueError.ga.plain PySem.F.entry_bexc_ga (zfu F a c b (zcj F a c b f))
def zcY {Q:Option Y1->X8->Prop}{h:Heap}{g:Array Um}{d:NN}{t:Nat}{os:N7}(F:Qa K C)(a:K.In h){o:Obj}(c:h.get? e=some o)(b:o.cls=.ref C)(m:Q (some (.ref C)) ⟨h,g,d,t+1,os⟩) :
  Xu (Xw prog w) A (NH (.ref e) "__class__") Q E ⟨h,g,d,t,os⟩:=by
 have l:=PySem.F.attr_ValueError.ga.bind (.ref e);have f:(P8 "BaseException.__getattribute__" == P8 "object.__getattribute__")=false:=by decide+kernel
 have i:(onTheHeap (WN C)&&P8 "BaseException.__getattribute__" == P8 "object.__getattribute__")=false:=by rw[f];rfl
 have j:=RY (M:=Xw prog w) a F.ga;have k:=RY (M:=Xw prog w) a F.gh;unfold NH getAttrBy? getAttrBy;repeat (any_goals (first | assumption | (with_reducible refine VL c ?_;rw[b]) | wp_step))
 refine j _ _ _ _ (λ_ _ z=>z) ?_;repeat (any_goals (first | assumption | (with_reducible refine VL c ?_;rw[b]) | wp_step))
 refine k _ _ _ _ (λ_ _ z=>z) ?_;repeat (any_goals (first | assumption | (with_reducible refine VL c ?_;rw[b]) | wp_step))
 refine zcX F a c b ?_;repeat (any_goals (first | assumption | wp_step))
def zlq (F:Qa K C):PySem.W.KitX K (.ref e) (.ref C) (zqc e C) where
 ty:=λM h _ p=>by
  obtain⟨ob,vs,q1,q2,_⟩:=p;exact q2 ▸ (PySem.W.Looks.ld q1).andThen .now
 it:=λM h kin _=>by
  have ci:=F.ci;unfold SY PySem.W.clsIn at ci;split at ci
  .rename_i c1 d1 cd1 sl1 lk;intro A1 Q1 E1 s1 k q;unfold isType loadHead;exact ZB (wpAny_loadPart (k _ _ (kin _ _ lk)) (XT q))
  .cases ci
 ne:=λh tp dd its n sl kin htp=>by
  refine WP.mpr λq=>?_;have ec:C=tp:=Value.ref.inj (beq_iff_eq.mp q);subst ec;have ci:=F.ci;unfold SY PySem.W.clsIn at ci;split at ci
  .rename_i c1 d1 cd1 sl1 lk;have z:=(kin _ _ lk).symm.trans htp;cases z
  .cases ci
 ca:=λ{prog w A E Q s} kin p k=>by
  obtain⟨ob,vs,q1,q2,_⟩:=p;obtain⟨h,g,d,t,os⟩:=s;exact zcY F kin q1 q2 k
def zlr:V->Y1
 | .ref D=>.ref D
 | .ty n=>.type n
 | _=>.none
def qK {X:Cx}(g:X.K=K):j3 X (.builtin "isinstance") (λxs H Q=>∃e C c b,xs=[.ref e,c]/\H e=some (exO e C)/\Qa K C/\((∃D,c=.ref D)\/∃n,c=.ty n)/\Xg K (.ref C) (zlr c)=some b/\Q (.bl b) H):=by
 intro m s v H xs o Q I r h;obtain⟨e,C,c,b,rfl,he,F,i,hk,q⟩:=h;obtain⟨u,l,rfl,j,d⟩:=vals2 r;cases j;have p:zqc e C s.heap:=(I.hok e _ he).1;have a:=I.kIn;rw[g]at a;have f:l=zlr c:=by
  rcases i with ⟨D,rfl⟩ | ⟨n,rfl⟩
  .cases d;rfl
  .cases d;rfl
 subst f;exact VP (zlq F) a p hk (λz=>nomatch z) λk=>⟨.bl b,H,I.tok k,rfl,q⟩
end
theorem zgs {α:Type}(a:Array α):∀(n:Nat) (acc:Array α),(WV n a).foldl (·++·) acc=acc++((WV n a.toList).flatten).toArray
 | 0,acc=>by simp
 | n+1,acc=>by
  rw[VA,V7,zgs a n,VA,Wy,Rx];congr 1;simp
def zrM:R2:=λx y H Q=>∃z k,x=.str z/\y=.int k/\1<=k/\k<=1000/\z.length<=1000/\∀a:Str,a.length=z.length*k.toNat->(∀c∈a.cps.toList,c∈z.cps.toList)->Q (.str a) H
section
variable {X:Cx}
def zhR:OpR X (Ul .Mult) zrM:=by
 intro w s G H x y v u Q I p r h;obtain⟨z,k,rfl,rfl,B,D,o,q⟩:=h;obtain⟨t,rfl⟩:=p;obtain⟨E,rfl⟩:=r;have f:z.length*k.toNat<=1000000:=by
  have:=Nat.mul_le_mul o (show k.toNat<=1000 by lia);lia
 refine PySem.P.mul_str ?_ (λ_ _=>?_) (λ_ _=>?_) ?_
 .rw[bf (show ¬ k < -(2^63:Int) by lia),bf (show ¬ k >= 2^63 by lia)];rfl
 .have A:(z.length:Int)*k<=1000000:=by
   have e:((z.length*k.toNat:Nat):Int)=(z.length:Int)*k:=by
    rw[Int.natCast_mul,Vz (by lia)]
   lia
  have:=Int.le_ediv_of_mul_le (a:=(z.length:Int)) (b:=2^63-1) (c:=k) (by lia) (by lia);lia
 .exact bf (Nat.not_lt.mpr (X0 f (by decide)))
 .rw[bq (show ¬ k<1 by lia)];by_cases c:(k==1 || z.length==0)=true
  .rw[bw c];refine⟨.str z,H,I,⟨_,rfl⟩,q z ?_ λ_ h=>h⟩;rw[Bool.or_eq_true,beq_iff_eq,beq_iff_eq]at c;rcases c with c | c
   .rw[c];simp
   .rw[c];simp
  .rw[bq c];have e:(⟨(WV k.toNat z.cps).foldl (·++·) #[]⟩:Str)=⟨((WV k.toNat z.cps.toList).flatten).toArray⟩:=by
    rw[zgs];simp
   have m:(⟨((WV k.toNat z.cps.toList).flatten).toArray⟩:Str).length=z.length*k.toNat:=by
    show ((WV k.toNat z.cps.toList).flatten).toArray.size=_;rw[XB,len_rep,X6,Pr];rfl
   rw[e];refine⟨by rw[m];exact X0 f (by decide),⟨.str _,H,I.tok _,⟨_,rfl⟩,q _ m λd n=>?_⟩⟩;have i:d∈(WV k.toNat z.cps.toList).flatten:=by simpa using n
   obtain⟨l,j,g⟩:=Ww.mp i;rw[List.eq_of_mem_replicate j]at g;exact g
end
section
variable {X:Cx}{tg iter elt:Expr}{ifs:List Expr}{scope:Vr}{pos:Pos}{N:AE}{src:List (Option Nat)}{cl:List (Str×Addr)}{wi:TI}{g:TG}{tc:TT}{te:TE}
def zrN {u:List (Addr×Obj)}{H:St}{D:Ends}{i:Nat}{x:Str}{n:Pos}(hN:X.N.Nodup)(A:X.N[i]?=some x)(l:X.env.scope.names.lookup x=some .local):znI X N scope u H (some (Og (.Name x n) X.env)) (λ_ B=>∃ q r,Inv X u q r B/\D.nx q r) λv r=>Q0 i v H r D.nx:=by
 intro cl Y E H2 C I L f fn xe aa hC k s h qn;obtain⟨m,hm,_⟩:=h.loc;have g:E.heap.objs.size<C:=by rw[hC];exact Sd _
 have O:Inv X u H I L:=k.call' (s':=L) (ch:=Y) h.os h.base h.hok h.bare λb j=>⟨(s b j).2.2.2.1,(s b j).2.1,(s b j).2.2.2.2.1,(s b j).2.2.2.2.2⟩;have J:∀b o,E.heap.get? b=some o->b≠C:=λb o e=>Xm (Tp (XH e) g);have a:∀y c,X.env.cells.lookup y=some c->c≠C:=λy c e=>by
  obtain⟨_,o,U,_⟩:=k.cell y c e;exact J c o U
 have d:X.env.locals≠C:=Xm (Tp k.lt g);refine Rf (zbn O hN A (.inl l) (v:=.ref E.heap.objs.size) rfl (λs5 M ⟨Q,G,w⟩=>?_) (.inr l));have na:Q≠C:=w.elim (λz=>by rw[z];exact d) (a _ _);exact⟨m,hm.sameBut G (Va na),λh' sb=>⟨_,I,M.turned (t':=s5.toks) (it:=C) (λb o j e=>(sb.2 b j).trans e) h.free (Va d) (.inr (X0 k.sz (Tq g))) a λp hp=>J _ _ (k.pin p hp).1,qn⟩⟩
def zls {g:List (Addr×Obj)}{s:X8}{x:Str}{a c:Pos}{D:Ends}(f:SQ (.ListComp elt [⟨tg,iter,ifs,0⟩] scope pos) (some (.Name x a)) c.line X.env=pure true)
  (h:Xu (Xw X.prog X.w) X.A (TU (.ListComp elt [⟨tg,iter,ifs,0⟩] scope pos) scope X.env (firstIterPos [⟨tg,iter,ifs,0⟩] pos) (newList []) false (eval iter X.env) (some (Og (.Name x a) X.env))) (λ_ d=>∃ b e,Inv X g b e d/\D.nx b e) X.xe s):Xu (Xw X.prog X.w) X.A (exec (.Assign [.Name x a] (.ListComp elt [⟨tg,iter,ifs,0⟩] scope pos) c) X.env) (SP X g D) X.xe s:=by
 rw[O6 _ _ _ _ f];refine ZB (U9 (ZB ?_));unfold evalThenUse;exact ZB (Xa h (λ_ d ⟨b,e,i,j⟩=>XT (XT ⟨b,e,i,j⟩)) λ_ _ z=>z)
def Ze {i:Nat}{x:Str}{b a:Pos}(k:X.N.Nodup)(e:X.N[i]?=some x)(f:X.env.scope.names.lookup x=some .local)(ok:zV X N src scope cl)(c:X.calm=true)(n:PI X tg iter wi)
  (m:∀C fp d s H,PG (qM X N scope cl C fp d s H) tg g) (l:∀C fp d s H,zci (qM X N scope cl C fp d s H) ifs tc) (he:∀C fp d s H,PE (qM X N scope cl C fp d s H) elt te)
  (o:∀x,We iter X.env x=pure x:=by intro _;rfl) (j:SQ (.ListComp elt [⟨tg,iter,ifs,0⟩] scope pos) (some (.Name x b)) a.line X.env=pure true:=by rfl) :
  PS X (.Assign [.Name x b] (.ListComp elt [⟨tg,iter,ifs,0⟩] scope pos) a) (zk3 (zbZ wi src g tc te) (Q0 i)):=λ_ _ _ _ _ I h=>zls j (zgm ok c n m l he o I h (zrN k e f))
end
def zV.byRfl {X:Cx}{N:AE}{src:List (Option Nat)}{a:Vr}(g:a.kind=.function)(b:∀y∈a.names,y.2 ≠ .cell)(d:∀y∈a.names,y.2=.local->a.names.lookup y.1=some .local)
  (k:(a.names.all λy=>y.2 != .free || (X.env.cells.lookup y.1).isSome)=true) (len:src.length=N.length)
  (m:((N.zip src).all λq=>match q.2 with | none=>true | some j=>X.N[j]?==some q.1&&X.env.kindOf q.1==some .cell&&(Vx a X.env).names.lookup q.1==some .cell)=true):zV X N src a (zbu (λx=>X.env.cells.lookup x) a.names []):=by
 have f:∀y∈a.names,y.2=.free->(X.env.cells.lookup y.1).isSome=true:=λy l e=>by
  have z:=WD.mp k y l;rw[e]at z;simpa using z
 refine⟨g,b,d,Jf f,λx c h=>?_,λx h=>?_,len,λi j x h1 h2=>?_⟩
 .rcases ZG _ _ _ (WK h) with z | z
  .cases z
  .exact z
 .refine Wa.mp (zcT _ _ (.inr ?_));have hm:(x,UQ)∈a.names\/(x,NameKind.free)∈a.names:=by
   rcases h with h | h
   .exact yE (WK h) (.inl rfl)
   .exact yE (WK h) (.inr rfl)
  rcases hm with hm | hm
  .exact absurd rfl (b _ hm)
  .exact⟨hm,f _ hm rfl⟩
 .have hm:(x,some j)∈N.zip src:=X7 (i:=i) (by rw[Tj];exact⟨h1,h2⟩);have z:=WD.mp m _ hm;simp only[VC,beq_iff_eq]at z;exact⟨z.1.1,.inl z.1.2,.inl z.2⟩
structure Zf (X:Cx)(N:AE)(src:List (Option Nat))(scope:Vr)(cl:List (Str×Addr))(y:Str):Prop where
 kind:scope.kind=.function
 one:∀n acc,Se n scope.names acc=(y,n)::acc
 push:∀h,pushCells h scope.names=h.push { cls:=.type "cell",data:=.cell none }
 names:∀y∈scope.names,y.2=.local->scope.names.lookup y.1=some .local
 clos:RG scope X.env=pure cl
 sub:∀x c,cl.lookup x=some c->X.env.cells.lookup x=some c
 has:∀x,((Vx scope X.env).names.lookup x=some .cell\/(Vx scope X.env).names.lookup x=some .free)->x=y\/∃c,cl.lookup x=some c
 len:src.length=N.length
 pulls:∀(i j:Nat) (x:Str),N[i]?=some x->src[i]?=some (some j)->X.N[j]?=some x/\(X.env.kindOf x=some .cell\/X.env.kindOf x=some .free)/\((Vx scope X.env).names.lookup x=some .cell\/(Vx scope X.env).names.lookup x=some .free)
 pny:∀(i j:Nat) (x:Str),N[i]?=some x->src[i]?=some (some j)->x≠y
def Zf.has1 {X:Cx}{N:AE}{src:List (Option Nat)}{a:Vr}{b:List (Str×Addr)}{y:Str}{C:Addr}(ok:Zf X N src a b y)(x:Str)(h:(Vx a X.env).names.lookup x=some .cell\/(Vx a X.env).names.lookup x=some .free):∃c,R3 x ((y,C)::b)=some c:=by
 rw[Ve];cases q:x==y with
 | true=>exact⟨_,rfl⟩
 | false =>
  rcases ok.has x h with z | z
  .rw[z]at q;simp at q
  .exact z
def Zf.byRfl {X:Cx}{N:AE}{src:List (Option Nat)}{a:Vr}{y:Str}(f:a.kind=.function)(one:∀n acc,Se n a.names acc=(y,n)::acc)(g:∀h,pushCells h a.names=h.push { cls:=.type "cell",data:=.cell none })
  (only:∀z∈a.names,z.2=.cell->z.1=y) (b:∀y∈a.names,y.2=.local->a.names.lookup y.1=some .local)
  (l:(a.names.all λy=>y.2 != .free || (X.env.cells.lookup y.1).isSome)=true) (len:src.length=N.length)
  (o:((N.zip src).all λq=>match q.2 with | none=>true | some j=>X.N[j]?==some q.1&&X.env.kindOf q.1==some .cell&&(Vx a X.env).names.lookup q.1==some .cell&&q.1 != y)=true):Zf X N src a (zbu (λx=>X.env.cells.lookup x) a.names []) y:=by
 have d:∀y∈a.names,y.2=.free->(X.env.cells.lookup y.1).isSome=true:=λy m e=>by
  have z:=WD.mp l y m;rw[e]at z;simpa using z
 have k:∀(i j:Nat) (x:Str),N[i]?=some x->src[i]?=some (some j)->(X.N[j]?=some x/\X.env.kindOf x=some .cell/\(Vx a X.env).names.lookup x=some .cell)/\x≠y:=λi j x h1 h2=>by
  have hm:(x,some j)∈N.zip src:=X7 (i:=i) (by rw[Tj];exact⟨h1,h2⟩);have z:=WD.mp o _ hm;simp only[VC,beq_iff_eq,bne_iff_ne]at z;exact⟨⟨z.1.1.1,z.1.1.2,z.1.2⟩,z.2⟩
 refine⟨f,one,g,b,Jf d,λx c h=>?_,λx h=>?_,len,λi j x h1 h2=>⟨(k i j x h1 h2).1.1,.inl (k i j x h1 h2).1.2.1,.inl (k i j x h1 h2).1.2.2⟩,λi j x h1 h2=>(k i j x h1 h2).2⟩
 .rcases ZG _ _ _ (WK h) with z | z
  .cases z
  .exact z
 .have hm:(x,UQ)∈a.names\/(x,NameKind.free)∈a.names:=by
   rcases h with h | h
   .exact yE (WK h) (.inl rfl)
   .exact yE (WK h) (.inr rfl)
  rcases hm with hm | hm
  .exact .inl (only _ hm rfl)
  .exact .inr (Wa.mp (zcT _ _ (.inr ⟨hm,d _ hm rfl⟩)))
def Zg (X:Cx)(N:AE)(a:Vr)(c:List (Str×Addr))(y:Str)(C:Addr)(fp:List Addr)(b:List (Addr×Obj))(s:X8)(H:Hp):Cx :=
 { qM X N a ((y,C+1)::c) C fp b s H with fn:=λx=>decide (x=y) }
def znM {M:R5}{A:W1}{E:Y1->X8->Prop}{s:X8}{a:Vr}{b:Addr}{i:List (Str×Addr)}{c:Str}{d:Env}{y:Str}{Q:Env->X8->Prop}(one:∀n acc,Se n a.names acc=(y,n)::acc)(f:∀h,pushCells h a.names=h.push { cls:=.type "cell",data:=.cell none })
  (k:Q (newEnv a s.heap.objs.size b ((y,s.heap.objs.size+1)::i) c none .none (some d) RJ) { s with heap:=(s.heap.push { cls:=.type "dict",data:=.dict #[] }).push { cls:=.type "cell",data:=.cell none } }) :
  Xu M A (RD a b i [] c none .none (some d)) Q E s:=by
 simp only[RD,Option.isSome_some,if_true];refine ZB (wpAny_alloc ?_);refine ZB (wpAny_layCells _ (λj e g=>by cases hkc:e==UQ<;>simp[hkc]) _ _ _ _ ?_);rw[f,one,show ({ s with heap:=s.heap.push { cls:=.type "dict",data:=.dict #[] } }:X8).heap.objs.size=s.heap.objs.size+1 from Vo ..];exact ZB (XT (XT k))
section
variable {X:Cx}{tg iter elt:Expr}{ifs:List Expr}{scope:Vr}{pos:Pos}{N:AE}{src:List (Option Nat)}{cl:List (Str×Addr)}{wi:TI}{g:TG}{tc:TT}{te:TE}{y:Str}
def zgt {B:List (Addr×Obj)}{L:St}{H:Hp}{s:X8}{fp:List Addr}{h1:Heap}{C:Addr}{tk:Nat}(ok:Zf X N src scope cl y)(I:Inv X B L H s)(O:∀b∈fp,Yq X B H b)(ho:∀b∈fp,∃o,s.heap.get? b=some o)
  (D:C=s.heap.objs.size+1) (k:∀b u,s.heap.get? b=some u->h1.get? b=some u) (hD:h1.get? s.heap.objs.size=some { cls:=.type "list",data:=.seq #[] }) {m:Str->Option Y1} (hn:h1.Ns C m) (aa:h1.IsCell (C+1) none) :
  Inv (Zg X N scope cl y C fp B s H) [] (pull src L) (upd H s.heap.objs.size (.lst [])) { s with heap:=h1,toks:=tk }:=by
 have lt:∀b o,s.heap.get? b=some o->b<s.heap.objs.size:=λb o e=>XH e;have nC:∀b o,s.heap.get? b=some o->b≠C:=λb o e=>by rw[D];exact Xm (WH (lt b o e))
 have nD:∀b o,s.heap.get? b=some o->b≠s.heap.objs.size:=λb o e=>Xm (lt b o e);have Y:∀b,s.heap.objs.size<=b->H b=none:=λb h=>I.hok.fresh h;have J:∀b,b≠X.env.locals->b ∉ X.fs->b ∉ frs X.stack:=λb h1 h2 z=>(XJ.mp (I.stkSub b z)).elim h1 h2;have G:∀b o,s.heap.get? b=some o->b≠C+1:=λb o e=>by rw[D];exact Xm (WH (WH (lt b o e)))
 have own:∀x c,R3 x ((y,C+1)::cl)=some c->(x=y/\c=C+1)\/(x≠y/\X.env.cells.lookup x=some c):=λx c e=>by
  rw[Ve]at e;cases q:x==y with
  | true =>
   rw[q]at e;exact .inl ⟨by simpa using q,(Option.some.inj e).symm⟩
  | false =>
   rw[q]at e;exact .inr ⟨by simpa using q,ok.sub x c e⟩
 have n:∀x c,X.env.cells.lookup x=some c->c≠C+1:=λx c e=>by
  obtain⟨_,o,f,_⟩:=I.cell x c e;exact G c o f
 refine⟨⟨I.ok.mod,ok.kind,I.ok.glob,I.ok.blt,by rw[show (Zg X N scope cl y C fp B s H).env.locals=C from rfl,D];exact Wl _,?inj,ok.has1,?cab,I.ok.hd,I.ok.frames,.inl rfl,λb h=>?_,I.bs,X0 I.ok.bsz I.sz,λb o e h=>?_,λb h hz=>?_,I.stack,I.stkFree⟩,rfl,I.bare,Un.laid k (XX _) (Y _ (XX _)),⟨m,hn,λi x v f d e3=>?_⟩,λx c e=>?_,?_,λx c e=>?_,λp hp=>?_,I.hok.laid k (XX _) ⟨WZ _,[],0,.nil,hD⟩,?_⟩
 case inj =>
  intro x Q c f d
  rcases own x c f with ⟨w,a⟩ | ⟨w,a⟩
  .rcases own Q c d with ⟨M,A⟩ | ⟨M,A⟩
   .rw[w,M]
   .exact absurd a (n Q c A)
  .rcases own Q c d with ⟨M,A⟩ | ⟨M,A⟩
   .exact absurd A (n x c a)
   .exact I.ok.inj x Q c a A
 case cab =>
  intro x c z e
  have zy:x=y:=bh z
  rcases own x c e with ⟨_,a⟩ | ⟨w,_⟩
  .rw[a,D];exact Uz (Wl _)
  .exact absurd zy w
 .obtain⟨o,e⟩:=ho b h;refine⟨nC b o e,λx c z=>?_⟩;rcases own x c z with ⟨_,a⟩ | ⟨_,a⟩
  .rw[a];exact Va (G b o e)
  .exact(O b h).2.2.2.2.1 x c a
 .rcases(O b h).2.2.2.1 with z | z
  .exact I.ok.noex b o e z
  .exact absurd (Xs (XH (I.ok.bs b o e).1) z) (Wj _)
 .exact J b (O b h).2.1 (O b h).2.2.1 hz
 .have hi:i<src.length:=by
   have:=(XZ.mp d).1;unfold pull at this;rw[X9]at this;exact this
  unfold pull at d;rw[Xo,X2 hi]at d;cases q:src[i] with
  | none=>rw[q]at d;cases d
  | some j =>
   rw[q]at d;have g:(L[j]?).getD none=some v:=Option.some.inj d;have U:L[j]?=some (some v):=by
    cases z:L[j]? with
    | none=>rw[z]at g;cases g
    | some o=>rw[z]at g;exact congrArg some g
   obtain⟨p1,p2,p3⟩:=ok.pulls i j x f (by rw[X2 hi,q]);obtain⟨m',af,hl⟩:=I.loc;obtain⟨u,r,l⟩:=hl j x v p1 U (by
    rcases p2 with z | z
    .exact .inr (.inl z)
    .exact .inr (.inr z))
   refine⟨u,r,.inr ⟨p3,?_⟩⟩;obtain⟨c,hc⟩:=ok.has1 x p3;refine⟨c,hc,?_⟩;rcases l with ⟨z,_⟩ | ⟨_,c',E,o,ac,ab⟩
   .rcases p2 with y | y<;>rw[z]at y<;>cases y
   .rcases own x c hc with ⟨w,_⟩ | ⟨_,a⟩
    .exact absurd w (ok.pny i j x f (by rw[X2 hi,q]))
    .rw[a]at E;cases E;exact⟨o,k _ o ac,ab⟩
 .rcases own x c e with ⟨_,a⟩ | ⟨_,a⟩
  .rw[a];exact⟨_,aa⟩
  .obtain⟨v,o,f,d⟩:=I.cell x c a;exact⟨v,o,k c o f,d⟩
 .show upd H s.heap.objs.size (.lst []) C=none;rw[D,zo (Vt _)];exact Y _ (Wl _)
 .show upd H s.heap.objs.size (.lst []) c=none;rcases own x c e with ⟨_,a⟩ | ⟨_,a⟩
  .rw[a,D,zo (UB (WH (Sd _)))];exact Y _ (Uz (Wl _))
  .obtain⟨v,o,f,d⟩:=I.cell x c a;rw[zo (nD c o f)];exact I.freeC x c a
 .have ae:p∈X.pn++B:=by
   have:p∈(X.pn++B)++[]:=hp;simpa using this
  obtain⟨f,d,e3,U,e5⟩:=I.pin p ae;refine⟨k _ _ f,?_,nC _ _ f,J _ e3 U,e5⟩;show upd H s.heap.objs.size (.lst []) p.1=none;rw[zo (nD _ _ f)];exact d
 .unfold pull;rw[X9];exact ok.len
section
variable {bQ:List (Addr×Obj)}{σ:St}{H:Hp}{s:X8}{use:Option (Y1->Sem Unit)}{R:Y1->X8->Prop}{Q:VK}{p2:Pos}
def zj4 (ok:Zf X N src scope cl y)(a:X.calm=true)(r:PI X tg iter wi)
  (p:∀C fp bQ s H,PG (Zg X N scope cl y C fp bQ s H) tg g) (o:∀C fp bQ s H,zci (Zg X N scope cl y C fp bQ s H) ifs tc) (he:∀C fp bQ s H,PE (Zg X N scope cl y C fp bQ s H) elt te)
  (B:∀x,We iter X.env x=pure x) (I:Inv X bQ σ H s) (h:zbZ wi src g tc te σ H Q) (i:znI X N scope bQ σ use R Q):Xu (Xw X.prog X.w) X.A (TU (.ListComp elt [⟨tg,iter,ifs,0⟩] scope pos) scope X.env p2 (newList []) false (eval iter X.env) use) R X.xe s:=by
 refine S7 (use:=use) rfl B ok.clos ok.kind ok.names (thn (r bQ s σ H _ I h) λU s1 h1=>thn h1 λD k h2=>?_);revert h2;refine eS λM fp O J L=>eK λe d T l f E=>?_;subst e;refine V2 (znM ok.one ok.push ?_);generalize hP:k.heap.push { cls:=.type "list",dict:=none,data:=.seq ([]:List Y1).toArray }=P2;have j:P2.objs.size=k.heap.objs.size+1:=by rw[<- hP,Vo]
 have m:(P2.push { cls:=.type "dict",data:=.dict #[] }).objs.size=P2.objs.size+1:=Vo ..;refine zcQ j a (λz=>z.elim) (p _ _ _ _ _) (o _ _ _ _ _) (he _ _ _ _ _) d T l f (E _ (d.hok.fresh (XX _))) (λb u e=>?_) (λx c z=>?_) (λv=>zgt (tk:=k.toks) ok d f v j (λb u e=>?_) ?_ ((Heap.Ns.new P2 _).push _) ?_) λ_ _ _ _ n G=>i j d f n G
 .exact X4 _ (X4 _ (hP ▸ X4 _ e))
 .show _\/P2.objs.size<=c;have z:R3 x ((y,P2.objs.size+1)::cl)=some c:=z;rw[Ve]at z;cases q:x==y with
  | true =>
   rw[q]at z;rw[<- Option.some.inj z];exact .inr (Wl _)
  | false =>
   rw[q]at z;exact .inl (ok.sub x c z)
 .exact X4 _ (X4 _ (hP ▸ X4 _ e))
 .exact X4 _ (X4 _ (hP ▸ Xl _ rfl))
 .rw[<- m];exact⟨_,Xl _ rfl,rfl⟩
end
def zlt (ok:Zf X N src scope cl y)(a:X.calm=true)(e:PI X tg iter wi)
  (d:∀C fp b s H,PG (Zg X N scope cl y C fp b s H) tg g) (c:∀C fp b s H,zci (Zg X N scope cl y C fp b s H) ifs tc) (he:∀C fp b s H,PE (Zg X N scope cl y C fp b s H) elt te)
  (f:∀x,We iter X.env x=pure x:=by intro _;rfl):PE X (.ListComp elt [⟨tg,iter,ifs,0⟩] scope pos) (zbZ wi src g tc te):=λ_ _ _ _ _ I h=>zj4 ok a e d c he f I h zli
end
section
variable {X:Cx}{K:X5}
def zeA (a:X.K=K)(b:X.calm=true):j3 X (.builtin "any") (λxs H Q=>∃(l:Addr) (bs:List Bool),xs=[.ref l]/\SqL K H l (bs.map V.bl)/\Q (.bl (bs.any id)) H):=by
 subst a;exact zgr b
def zgu {c l:Expr}{tl:TE}(a:X.K=K)(b:PE X l tl):PI X c l (zo6 K tl):=by
 subst a;exact zR b
end
theorem zeB:∀{b:AE} {a:List Y1},Vals (b.map V.str) a->StrsAre a b
 | [],_,.nil=>.nil
 | t::_,_,.cons ⟨k,e⟩ h=>by
  subst e;exact .cons t k (zeB h)
section
variable {X:Cx}
def rJoin (K:X5):V->AF->Hp->VK->Prop:=λx b H Q=>∃(z:Str) (l:Addr) (a:AE),x=.str z/\b=[.ref l]/\SqL K H l (a.map V.str)/\(a.map (·.length)).sum+a.length*z.length<=16777216/\Q (.str (TZ z a)) H
def znN:MtR X "str.join" (rJoin X.K):=by
 intro j s y H x w v o Q I g f h;obtain⟨z,l,a,rfl,rfl,d,b,q⟩:=h;obtain⟨n,rfl⟩:=g;obtain⟨u,rfl,r⟩:=f.one;cases r;obtain⟨e,c,p,m⟩:=I.list d;refine join_list (ys:=a) p.isList (by simpa using zeB c) b λi k=>⟨.str (TZ z a),H,I.tok k,⟨i,?_⟩,q⟩;rw[show Txt.join z a=TZ z a from StrLaws.glued_eq_join z a]
end
def zhS {α:Type}(d:α)(xs:List α):((Wh xs.length).map λi=>xs.getD i d)=xs:=by
 refine List.ext_getElem (by simp) λi h1 h2=>?_;simp[h2]
def zi4 (p:Int×Int):lt2 p p=false:=by
 unfold lt2;rw[bw rfl,bf (by lia)]
def zcw {p q:Int×Int}(h:p≠q):lt2 q p=!lt2 p q:=by
 unfold lt2;obtain⟨a,b⟩:=p;obtain⟨c,d⟩:=q;simp only;by_cases e:a=c
 .subst e;rw[bw rfl,bw rfl];have f:b≠d:=λz=>h (by rw[z]);by_cases l:b<d
  .rw[br l,bf (by lia)];rfl
  .rw[bf l,br (by lia)];rfl
 .rw[bq e,bq (λz=>e z.symm)];by_cases l:a<c
  .rw[br l,bf (by lia)];rfl
  .rw[bf l,br (by lia)];rfl
def zhT {p q r:Int×Int}(h1:lt2 p q=true)(h2:lt2 q r=true):lt2 p r=true:=by
 unfold lt2 at *
 obtain⟨a,b⟩:=p;obtain⟨c,d⟩:=q;obtain⟨e,f⟩:=r;simp only at *
 by_cases h:a=c
 .subst h;rw[bw rfl,bu]at h1;by_cases g:a=e
  .subst g;rw[bw rfl,bu]at h2 ⊢;lia
  .rw[bq g]at h2 ⊢;exact h2
 .rw[bq h,bu]at h1;by_cases g:c=e
  .subst g;rw[bq h,bu];exact h1
  .rw[bq g,bu]at h2;rw[bq (by lia),bu];lia
def Up2 (ps:List (Int×Int)):Prop:=ps.Pairwise λp q=>lt2 p q=true
end L2
namespace PySem.SeqAt
open L2 AutoSeq1 MeetsSeq MeetsSeq2 MeetsSeq3
def zaj (A:W1)(s:X8)(y x:Y1)(b:Bool):Prop:=∀(a:Xr) (w:Xe) (E:Y1->X8->Prop) (Q:Y1->X8->Prop),Q (.bool b) s->Xu (Xw a w) A (richCompare .Lt y x) Q E s
def zaj.int_int {A:W1}{s:X8}(a:Int)(t:Tok)(b:Int)(u:Tok):zaj A s (.int a t) (.int b u) (decide (a<b)):=λc w E Q h=>wpAny_lt_int h
def zhU (l b:Addr)(x y f c:Int)(t u k m:Tok)(n v:Nat)(dd g:Option Addr)(B j:Array (Option Y1)) :
  Meets (UD.«tuple.__lt__» ⟨[.ref l,.ref b],[]⟩)
   (λ_ R s=>s.heap.get? l=some { cls:=.type "tuple",dict:=dd,data:=.seq #[.int x t,.int y u] n,slots:=B }/\s.heap.get? b=some { cls:=.type "tuple",dict:=g,data:=.seq #[.int f k,.int c m] v,slots:=j } /\
    R (.ok (.ret (.bool (lt2 (x,y) (f,c))))) s) :=
 .of_wp λa w A R s h=>by
  obtain⟨r,H,E,D,z⟩:=s;obtain⟨q,p,h⟩:=h;have G:=sub_tuple_tuple;wp_walk using V8 q,V8 p;refine EqAt.int_int x t f k a w _ _ ?_;unfold lt2 at h;by_cases e:x=f
  .have i:(x==f)=true:=by simpa using e
   rw[i];rw[bw e]at h;wp_walk;refine EqAt.int_int y u c m a w _ _ ?_;by_cases o:y=c
   .have d:(y==c)=true:=by simpa using o
    rw[d];rw[bf (by show ¬ y<c;lia)]at h;wp_walk;exact⟨_,rfl,h⟩
   .have d:(y==c)=false:=by simpa using o
    rw[d];simp only[Bool.not_false,if_true];refine ZB (Uu (ZB (zaj.int_int y u c m a w _ _ ?_)));wp_walk;exact⟨_,rfl,h⟩
  .have i:(x==f)=false:=by simpa using e
   rw[i];rw[bq e]at h;simp only[Bool.not_false,if_true];refine ZB (Uu (ZB (zaj.int_int x t f k a w _ _ ?_)));wp_walk;exact⟨_,rfl,h⟩
def zaj.pairs {A:W1}{s:X8}{v r:Y1}{p q:Int×Int}(G:zF s.heap v p)(f:zF s.heap r q)(D:A.units<U7):zaj A s v r (lt2 p q):=λo w E Q h=>by
 obtain⟨a,⟨z,B,l,I⟩,n,t,u,rfl,m,i,k⟩:=G;obtain⟨y,⟨j,e,data2,g⟩,H,J,L,rfl,d,b,c⟩:=f;simp only at i k b c;subst i k b c;exact richCompare_meets_room (op:=.Lt) ⟨_,m,rfl⟩ ⟨_,d,rfl⟩ F.slot_tuple_lt F.entry_tuple_lt (F.args_tuple_lt_2 _ _) (zhU a y p.1 p.2 q.1 q.2 t u J L n H B e I g)
  ⟨m,d,show Oe (lt2 p q)≠Value.notImplemented/\Q (.bool (lt2 p q)) s from ⟨(λx=>nomatch x),h⟩⟩ D
def Q2 {h:Heap}{v:Y1}{p:Int×Int}(e:zF h v p):∃as,Reads h v (.tuple [.int p.1,.int p.2]) as:=by
 obtain⟨a,o,n,t,u,rfl,d,b,c⟩:=e;exact⟨_,.tuple d b c (.cons (.int _ _) (.cons (.int _ _) .nil))⟩
def zeC (p q:Int×Int):W8 (.tuple [.int p.1,.int p.2]) (.tuple [.int q.1,.int q.2])=decide (p=q):=by
 obtain⟨a,b⟩:=p;obtain⟨c,d⟩:=q;show ((a==c)&&((b==d)&&true))=_;by_cases h1:a=c
 .by_cases h2:b=d
  .subst h1 h2;simp
  .simp[h2]
 .simp[h1]
end PySem.SeqAt
namespace L2
open PySem PySem.Spec PyProof.Rows PySem.W PySem.SeqAt
open PySem PySem.Spec PyProof.Rows
section
variable {κ:Type} [DecidableEq κ]
def jB (a:List (κ × V))(k:κ):Option V:=(a.find? λb=>decide (b.1=k)).map (·.2)
def putK (a:List (κ × V))(k:κ)(v:V):List (κ × V) :=
 if (a.any λb=>decide (b.1=k))=true then a.map (λb=>if b.1=k then (b.1,v) else b) else a++[(k,v)]
def j4 {p:κ × V}{r:List (κ × V)}{k:κ}(e:p.1=k):jB (p::r) k=some p.2:=by simp[jB,TY,e]
def j5 {p:κ × V}{r:List (κ × V)}{k:κ}(e:¬ p.1=k):jB (p::r) k=jB r k:=by simp[jB,TY,e]
theorem zaH (k:κ):∀a:List (κ × V),(a.any λb=>decide (b.1=k))=(jB a k).isSome
 | []=>rfl
 | p::r=>by
  rw[On];by_cases e:p.1=k
  .simp only[j4 e,br e,Bool.true_or,Option.isSome_some]
  .rw[j5 e,bf e,Bool.false_or];exact zaH k r
theorem zgv (k j:κ)(y:V):∀a:List (κ × V),jB (a.map λb=>if b.1=k then (b.1,y) else b) j=(jB a j).map λx=>if j=k then y else x
 | []=>rfl
 | p::r=>by
  have c:=zgv k j y r;rw[Xh];by_cases h:p.1=k
  .rw[bw h];by_cases e:p.1=j
   .rw[j4 (p:=(p.1,y)) e,j4 e,TX,bw (e.symm.trans h)]
   .rw[j5 (p:=(p.1,y)) e,j5 e,c]
  .rw[bq h];by_cases e:p.1=j
   .rw[j4 (p:=p) e,j4 e,TX,bq (λz=>h (e.trans z))]
   .rw[j5 (p:=p) e,j5 e,c]
theorem zeD (k j:κ)(y:V):∀a:List (κ × V),jB a k=none->jB (a++[(k,y)]) j=if j=k then some y else jB a j
 | [],_=>by
  by_cases e:k=j
  .rw[bw e.symm];exact j4 (p:=(k,y)) e
  .rw[bq (λz=>e z.symm)];exact j5 (p:=(k,y)) e
 | p::r,b=>by
  rw[PL];have hk:¬ p.1=k:=λz=>by rw[j4 z]at b;cases b
  rw[j5 hk]at b;have c:=zeD k j y r b;by_cases e:p.1=j
  .rw[j4 e,j4 e,bq (λz=>hk (e.trans z))]
  .rw[j5 e,j5 e,c]
def ZI (b:List (κ × V))(k j:κ)(y:V):jB (putK b k y) j=if j=k then some y else jB b j:=by
 unfold putK;by_cases a:(b.any λd=>decide (d.1=k))=true
 .rw[bw a,zgv];rw[zaH]at a;by_cases e:j=k
  .obtain⟨x,c⟩:=Wa.mp a;rw[bw e,e,c,TX,bw rfl]
  .rw[bq e];cases jB b j with
   | none=>rfl
   | some x=>rw[TX,bq e]
 .rw[bq a];refine zeD k j y b ?_;rw[zaH]at a;cases q:jB b k with
  | none=>rfl
  | some x=>rw[q]at a;exact(a rfl).elim
def Qc (a:List (κ × V))(k:κ)(v:V):(putK a k v).length<=a.length+1:=by
 unfold putK;split
 .rw[X9];lia
 .rw[XR,Xk,TW];lia
def zbm.isSome_eq {o:Option V}{u:Option Y1}(r:zbm o u):o.isSome=u.isSome:=by
 cases o with
 | none=>cases u with
  | none=>rfl
  | some _=>exact(show False from r).elim
 | some _=>cases u with
  | none=>exact(show False from r).elim
  | some _=>rfl
theorem zbm.getD {o:Option V}{u:Option Y1}{d:V}{d':Y1}(r:zbm o u)(a:RelV d d'):RelV (o.getD d) (u.getD d'):=by
 cases o with
 | none=>cases u with
  | none=>exact a
  | some _=>exact(show False from r).elim
 | some _=>cases u with
  | none=>exact(show False from r).elim
  | some _=>exact r
def KV.val {a:List (κ × V)}{vs:List (κ × Y1)}(r:KV a vs)(k:κ):zbm (jB a k) (OA vs k):=by
 unfold KV at r;induction r with
 | nil=>exact Tw
 | @cons p q g d h t f =>
  obtain⟨h1,h2⟩:=h;by_cases e:p.1=k
  .have c:q.1=k:=h1.symm.trans e;have b:OA (q::d) k=some q.2:=by simp[OA,TY,c]
   rw[j4 e,b];exact h2
  .have c:¬ q.1=k:=λz=>e (h1.trans z);have b:OA (q::d) k=OA d k:=by simp[OA,TY,c]
   rw[j5 e,b];exact f
theorem KV.any {a:List (κ × V)}{vs:List (κ × Y1)}(r:KV a vs)(k:κ):(a.any λb=>decide (b.1=k))=vs.any λb=>decide (b.1=k):=by
 unfold KV at r;induction r with
 | nil=>rfl
 | cons h t c=>rw[On,On,c,h.1]
def KV.repl {b:List (κ × V)}{vs:List (κ × Y1)}(r:KV b vs)(k:κ){y:V}{u:Y1}(d:RelV y u) :
  KV (b.map λa=>if a.1=k then (a.1,y) else a) (vs.map λa=>if a.1=k then (a.1,u) else a):=by
 unfold KV at r ⊢;induction r with
 | nil=>exact .nil
 | @cons p q f g h t c =>
  rw[Xh,Xh];refine .cons ?_ c;obtain⟨h1,h2⟩:=h;by_cases e:p.1=k
  .rw[bw e,bw (h1.symm.trans e)];exact⟨h1,d⟩
  .rw[bq e,bq (λz=>e (h1.trans z))];exact⟨h1,h2⟩
def KV.put {a:List (κ × V)}{vs:List (κ × Y1)}(r:KV a vs)(k:κ){y:V}{u:Y1}(b:RelV y u):KV (putK a k y) (stored vs k u):=by
 unfold putK stored;rw[r.any k];by_cases e:(vs.any λc=>decide (c.1=k))=true
 .rw[bw e,bw e];exact r.repl k b
 .rw[bq e,bq e];exact Paired.snoc r ⟨rfl,b⟩
theorem KV.length {a:List (κ × V)}{vs:List (κ × Y1)}(r:KV a vs):a.length=vs.length:=Paired.length r
end
def zi5 {P:Xr}{w:Xe}{k:Key}{u:Y1}(r:RelV (kV k) u):(qa P w).is k u=true:=by
 cases k with
 | inl i=>obtain⟨t,e⟩:=(show ∃t,u=Vl i t from r);subst e;exact zgc P w i t
 | inr x=>obtain⟨t,e⟩:=(show ∃t,u=NU x t from r);subst e;exact zgd P w x t
theorem zeE {P:Xr}{w:Xe}:∀{ks:List Key} {a:List Y1},Vals (ks.map kV) a->ItemsAre (qa P w) ks a
 | [],_,r=>by rw[N2]at r;cases r;exact .nil
 | k::ks,_,r=>by
  rw[Xh]at r;cases r with
  | cons h t=>exact .cons (zi5 h) (zeE t)
abbrev KT (H:Hp):List (List Key×V)->List (List Key×Addr×Y1)->Prop:=WU λp q=>p.1=q.1/\H q.2.1=some (.tup (p.1.map kV))/\RelV p.2 q.2.2
def KT.val {H:Hp}{a:List (List Key×V)}{xs:List (List Key×Addr×Y1)}(r:KT H a xs)(k:List Key):zbm (jB a k) ((NT xs k).map (·.2)):=by
 induction r with
 | nil=>exact Tw
 | @cons p q g d h t f =>
  obtain⟨h1,_,h2⟩:=h;by_cases e:p.1=k
  .have c:q.1=k:=h1.symm.trans e;have b:NT (q::d) k=some q.2:=by simp[NT,TY,c]
   rw[j4 e,b];exact h2
  .have c:¬ q.1=k:=λz=>e (h1.trans z);have b:NT (q::d) k=NT d k:=by simp[NT,TY,c]
   rw[j5 e,b];exact f
def KT.repl {H:Hp}{a:List (List Key×V)}{xs:List (List Key×Addr×Y1)}(r:KT H a xs)(k:List Key){y:V}{u:Y1}(f:RelV y u) :
  KT H (a.map λb=>if b.1=k then (b.1,y) else b) (xs.map (putAt k u)):=by
 induction r with
 | nil=>exact .nil
 | @cons p q g i h t d =>
  rw[Xh,Xh];refine .cons ?_ d;obtain⟨h1,h2,c⟩:=h;unfold putAt;by_cases e:p.1=k
  .rw[bw e,bw (h1.symm.trans e)];exact⟨h1,h2,f⟩
  .rw[bq e,bq (λz=>e (h1.trans z))];exact⟨h1,h2,c⟩
def KT.put {H:Hp}{a:List (List Key×V)}{xs:List (List Key×Addr×Y1)}(r:KT H a xs)(k:List Key){b:Addr}{y:V}{u:Y1}(d:H b=some (.tup (k.map kV)))(c:RelV y u) :
  KT H (putK a k y) (Sb xs k b u):=by
 have e:(a.any λf=>decide (f.1=k))=(NT xs k).isSome:=by
  rw[zaH,(r.val k).isSome_eq,Option.isSome_map]
 unfold putK Sb;rw[e];by_cases q:(NT xs k).isSome=true
 .rw[bw q,bw q];exact r.repl k c
 .rw[bq q,bq q];exact Paired.snoc r ⟨rfl,d,c⟩
def KT.keeps {H c:Hp}{a:List (List Key×V)}{xs:List (List Key×Addr×Y1)}(r:KT H a xs)(d:∀b ys,H b=some (.tup ys)->c b=some (.tup ys)):KT c a xs :=
 Paired.mapP r λ_ _ z=>⟨z.1,d _ _ z.2.1,z.2.2⟩
section
variable {P:Xr}{w:Xe}{H:Hp}{h:Heap}{a:Addr}
def zpd {u:HO}(ok:HOk P w H h)(e:Rd H a u):jd P w H h a u:=e.ok ok
def zgw {b:List (Key×V)}(ok:HOk P w H h)(e:Rd H a (.dK b)):b.length<=Xz/\(a==Vh)=false/\∃vs,KV b vs/\h.DictOf (qa P w) a vs :=
 show jd P w H h a (.dK b) from zpd ok e
def zrO {b:List (Key×V)}(ok:HOk P w H h)(e:H a=some (.dK b)):b.length<=Xz/\(a==Vh)=false/\∃vs,KV b vs/\h.DictOf (qa P w) a vs:=zgw ok (.inl e)
def zcZ {ks:List Key}(ok:HOk P w H h)(e:H a=some (.tup (ks.map kV))):(VI (qa P w)).is h ks a:=by
 obtain⟨_,b,r,o,h1,h2,n,c⟩:=(show jd P w H h a (.tup (ks.map kV)) from ok a _ e);exact⟨o,b.toArray,n,h1,h2,c,by simpa using zeE r⟩
def zgx {b:List (List Key×V)}(ok:HOk P w H h)(e:Rd H a (.dT b)):b.length<=Xz/\(a==Vh)=false /\
  ∃xs,KT H b xs/\h.DictOfH (VI (qa P w)) a xs:=by
 refine eY (λz y xs r=>eL λo f d h1 h2 g i j=>?_) (show jd P w H h a (.dT b) from zpd ok e);refine⟨z,y,xs,r,o,f,d,h1,h2,g,i,λx hx=>?_,j⟩;have all:∀{l:List (List Key×V)} {m:List (List Key×Addr×Y1)},KT H l m->∀x∈m,(VI (qa P w)).is h x.1 x.2.1:=by
  intro l m q;induction q with
  | nil=>intro x hx;exact nomatch hx
  | @cons p q n s c t k =>
   intro x hx;rcases XJ.mp hx with e | hx
   .subst e;exact zcZ ok (by rw[<- c.1];exact c.2.1)
   .exact k x hx
 exact all r x hx
def zrP {b:List (List Key×V)}(ok:HOk P w H h)(e:H a=some (.dT b)):b.length<=Xz/\(a==Vh)=false /\
  ∃xs,KT H b xs/\h.DictOfH (VI (qa P w)) a xs:=zgx ok (.inl e)
end
def zc0 (H:Hp)(a:Addr)(y:V)(r:Option V):Prop :=
 (∃c k,Rd H a (.dK c)/\y=kV k/\r=jB c k)\/∃c k b,Rd H a (.dT c)/\y=.ref b/\H b=some (.tup (k.map kV))/\r=jB c k
def zj5 (H:Hp)(a:Addr)(y v:V)(d:Hp):Prop :=
 (∃c k,H a=some (.dK c)/\y=kV k/\c.length<Xz/\d=upd H a (.dK (putK c k v))) \/
 ∃c k b,H a=some (.dT c)/\y=.ref b/\H b=some (.tup (k.map kV))/\c.length<Xz/\d=upd H a (.dT (putK c k v))
def zc0.t {H:Hp}{a b:Addr}{c:List (List Key×V)}{k:List Key}(e:H a=some (.dT c))(d:H b=some (.tup (k.map kV))):zc0 H a (.ref b) (jB c k):=.inr ⟨c,k,b,.inl e,rfl,d,rfl⟩
def zj5.t {H:Hp}{a b:Addr}{c:List (List Key×V)}{k:List Key}{v:V}(e:H a=some (.dT c))(d:H b=some (.tup (k.map kV)))(f:c.length<Xz) :
  zj5 H a (.ref b) v (upd H a (.dT (putK c k v))):=.inr ⟨c,k,b,e,rfl,d,f,rfl⟩
section
variable {X:Cx}{bQ:List (Addr×Obj)}{σ:St}{H:Hp}{s:X8}{a:Addr}{y v:V}{u r:Y1}{o:Option V}{A:W1}{E:Y1->X8->Prop}
def Inv.big (I:Inv X bQ σ H s):Vh<s.heap.objs.size:=by
 have h:XY<s.heap.objs.size:=(I.mod.glob.keeps I.bk).lt;exact Tp (by decide) h
def zj6 {Q:Y1->X8->Prop}(G:A.units+1<U7)(I:Inv X bQ σ H s)(g:zc0 H a y (some v))(r:RelV y u)(h:∀f s',Inv X bQ σ H s'->RelV v f->Q f s') :
  Xu (Xw X.prog X.w) A (OE (.ref a) u) Q E s:=by
 rcases g with ⟨q,k,e,j,l⟩ | ⟨q,k,b,e,j,x,l⟩
 .subst j;obtain⟨z,B,J,c,i⟩:=zgw I.hok e;obtain⟨f,n,d⟩:=zbm.some_of (v:=v) (o:=OA J k) (by rw[l];exact c.val k);exact wpAny_getItem_of (zi5 r) i.mapOf n (h f _ (I.tok _) d)
 .subst j;cases (show u=WN b from r);obtain⟨z,B,L,c,i⟩:=zgx I.hok e;obtain⟨f,n,d⟩:=zbm.some_of (v:=v) (o:=(NT L k).map (·.2)) (by rw[l];exact c.val k);obtain⟨p,D,m⟩:=Sq.mp n;refine wpAny_getItem_heap (Rw G) (zcZ I.hok x) i D ?_;rw[m];exact h f _ (I.tok _) d
def zi6 {h':Heap}{t':Nat}{ob:HO}(I:Inv X bQ σ H s)(g:Mut (H a))(f:VU a s.heap h')(he:∃q,h'.get? a=some q)(c:jd X.prog X.w (upd H a ob) h' a ob) :
  Inv X bQ σ (upd H a ob) { s with heap:=h',toks:=t' } :=
 I.write (x:=a) (e:=a) g (.inl rfl) (λb q d z=>(f.2 b d).trans z) he c
def zqd {P:Xr}{w:Xe}{d:Hp}{h':Heap}{b:List (Key×V)}{vs:List (Key×Y1)}(z:b.length<=Xz)(e:(a==Vh)=false)(c:KV b vs)(dd:h'.DictOf (qa P w) a vs) :
  jd P w d h' a (.dK b):=⟨z,e,vs,c,dd⟩
def zj7 {G:Hp}{Q:Unit->X8->Prop}(hu:A.units+1<U7)(I:Inv X bQ σ H s)(g:zj5 H a y v G)(O:RelV y u)(N:RelV v r)(h:∀s',Inv X bQ σ G s'->Q () s') :
  Xu (Xw X.prog X.w) A (setItem (.ref a) u r) Q E s:=by
 rcases g with ⟨d,k,e,o,l,n⟩ | ⟨d,k,b,e,o,J,l,n⟩
 .subst o n;obtain⟨z,p,vs,f,m⟩:=zrO I.hok e;have D:vs.length<=Xz:=by rw[<- f.length];exact z
  have x:(putK d k v).length<=Xz:=by have:=Qc d k v;lia
  refine wpAny_setItem_pairs (hsz:=D) (zi5 O) m λM i B=>h _ ?_;have he:∃q,M.get? a=some q:=let ⟨q,_,_,j,_⟩:=i;⟨q,j⟩
  exact zi6 I (by rw[e];exact Tw) B he (zqd x p (f.put k N) i)
 .subst o n;cases (show u=WN b from O);obtain⟨z,p,xs,f,m⟩:=zrP I.hok e;have D:xs.length<=Xz:=by rw[<- Paired.length f];exact z
  have x:(putK d k v).length<=Xz:=by have:=Qc d k v;lia
  refine wpAny_setItem_heap (hsz:=D) (Rw hu) (zcZ I.hok J) m λM i B=>h _ ?_;revert i;refine eV λq Y U=>eK λj h2 h3 h4 _ h5=>?_;refine zi6 I (by rw[e];exact Tw) B ⟨q,j⟩ ⟨x,p,_,(f.put k J N).keeps λc ys L=>?_,q,Y,U,j,h2,h3,h4,h5⟩;rw[zo (zeq L e (λz=>nomatch z))];exact L
end
def zrQ (i:Expr):Prop:=∀b a,OW i false b a=operate [b,a] (OE b a)
def znO {prog:Xr}{w:Xe}{A:W1}{E:Y1->X8->Prop}{s:X8}{g:Env}{b a:Expr}{pos:Pos}{T id:String}{Q:Y1->X8->Prop}
  (n:Od (.type T) "__getitem__"=pure (some (.builtin id))) (p:zrQ a)
  (h:Xu (Xw prog w) A (eval b g) (λo e=>Xu (Xw prog w) A (eval a g) (λi c=>c.TypeIs o T/\Xu (Xw prog w) A (OE o i) Q E c) E e) E s) :
  Xu (Xw prog w) A (eval (.Subscript b a pos) g) Q E s:=by
 refine Oc (Xa h (λo e k=>Xa k (λi c d=>?_) λ_ _ x=>x) λ_ _ x=>x);obtain⟨m,d⟩:=d;unfold Qb;refine ZB ?_;rw[getitemInPython_of_ne m.not_modules];refine ZB (Pd m n ?_);have j:Xu (Xw prog w) A (OW a false o i) (λr f=>Xu (Xw prog w) A (letTemporaryGo b o r >>= λ_=>pure r) Q E f) E c:=by
  rw[p o i];exact wpAny_operating (Xa d (λr f l=>ZB (wpAny_letTemporaryGo (XT l))) λ_ _ x=>x)
 first
  | exact XT (ZB j)
  | exact ZB (XT (ZB j))
  | exact ZB j
def zgy {X:Cx}{f:List (Addr×Obj)}{h:St}{H:Hp}{s:X8}{a:Addr}{y:V}{o:Option V}(I:Inv X f h H s)(g:zc0 H a y o):s.TypeIs (.ref a) "dict":=by
 rcases g with ⟨d,k,e,_,_⟩ | ⟨d,k,b,e,_,_,_⟩
 .obtain⟨_,_,i,_,c⟩:=zgw I.hok e;exact c.typeIs
 .obtain⟨_,_,j,_,c⟩:=zgx I.hok e;exact c.typeIs
def zrR (e ty:TE):TE:=fun c H Q=>e c H λx d=>ty c d λy b=>∃a v,x=.ref a/\zc0 b a y (some v)/\Q v b
def zrS (g ty h:TE):TS:=λD b H=>h b H λv d=>g b d λx e=>ty b e λy f=>∃a c,x=.ref a/\zj5 f a y v c/\D.nx b c
section
variable {X:Cx}{o i e value:Expr}{pos pos' tpos:Pos}{td ty tv:TE}
def zfv (r:X.A.units+1<U7)(p:PE X o td)(n:PE X i ty)(q:zrQ i):PE X (.Subscript o i pos) (zrR td ty):=by
 intro d s e H Q I h;refine znO PySem.F.slot_dict_getitem.lookup q (thn (p d s e H _ I h) λu s1 ⟨x,f,k,B,w⟩=>thn (n d s1 e f _ k w) λE G ⟨y,j,c,D,a,v,m,g,z⟩=>?_);subst m;obtain rfl:u=WN a:=B;exact⟨zgy c g,zj6 r c g D λL J l b=>⟨v,j,l,b,z⟩⟩
def zi7 (z:X.A.units+1<U7)(q:PE X o td)(p:PE X i ty)(B:PE X value tv)(w:SQ value (some (.Subscript o i pos')) pos.line X.env=pure false) :
  PS X (.Assign [.Subscript o i pos'] value pos) (zrS td ty tv):=by
 intro c s b H D I h;refine wpAny_Assign_Subscript (thn (B c s b H _ I h) λr s1 ⟨v,d,j,L,E⟩=>thn (q c s1 b d _ j E) λu O ⟨x,e,k,M,G⟩=>thn (p c O b e _ k G) λU Y ⟨y,Q,l,N,a,f,n,g,J⟩=>?_) w;subst n;obtain rfl:u=WN a:=M;exact zj7 z l g N L λs4 m=>⟨b,f,m,J⟩
end
def zlu {P:Xr}{w:Xe}{H:Hp}(h:Heap)(a:Vh<h.objs.size):jd P w H (h.push { cls:=.type "dict",data:=.dict #[] }) h.objs.size (.dT []) :=
 ⟨WZ _,beq_eq_false_iff_ne.mpr (Va (Xm a)),[],.nil,_,#[],0,Xl _ rfl,⟨rfl,rfl,rfl⟩,rfl,rfl,Ui⟩
def zqe:TE:=λ_ H Q=>∀p,H p=none->Q (.ref p) (upd H p (.dT []))
section
variable {X:Cx}{pos:Pos}
def zlv:PE X (.Dict [] [] pos) zqe:=λb s c H Q I h =>
 wpAny_Dict_empty ⟨.ref s.heap.objs.size,_,I.laid (a:=s.heap.objs.size) (o:=.dT []) (t':=s.toks) (λ_ _ q=>X4 _ q) (XX _) (zlu s.heap I.big),rfl,h _ (I.hok.fresh (XX _))⟩
end
structure M2 (X:Cx)(o:Expr)(m:Str)(apos:Pos)(e f:Expr)(cpos:Pos):Prop where
 base:P9 o m X.env (eval o X.env)=eval o X.env
 few:((UI cpos (W4 [e,f] X.env)).all (λx=>!x.1)&&(backToKw cpos (NR [] X.env)).all (λx=>x.1.isSome)
  && decide (([e,f]:List Expr).length+([]:List OC).length+(if ([]:List OC).isEmpty then 0 else 1)<30))=true
 line:(apos.endLine==cpos.line)=true
 trees:UI cpos (W4 [e,f] X.env)=[(false,eval e X.env),(false,eval f X.env)]
def IsD (H:Hp)(a:Addr):Prop:=(∃b,Rd H a (.dK b))\/∃b,Rd H a (.dT b)
def zqf {X:Cx}{h:List (Addr×Obj)}{i:St}{H:Hp}{s:X8}{a:Addr}(I:Inv X h i H s)(d:IsD H a) :
  s.TypeIs (.ref a) "dict"/\(∀b,WN a=.ref b->∃ob,s.heap.get? b=some ob/\ob.dict=none)/\(a==Vh)=false:=by
 rcases d with ⟨g,e⟩ | ⟨g,e⟩
 .obtain⟨_,f,j,_,c⟩:=zgw I.hok e;refine⟨c.typeIs,λb q=>?_,f⟩;cases q;obtain⟨ob,_,_,h1,h2,_⟩:=c;exact⟨ob,h1,h2.2.1⟩
 .obtain⟨_,f,k,_,c⟩:=zgx I.hok e;refine⟨c.typeIs,λb q=>?_,f⟩;cases q;obtain⟨ob,_,_,h1,h2,_⟩:=c;exact⟨ob,h1,h2.2.1⟩
section
variable {X:Cx}{bQ:List (Addr×Obj)}{σ:St}{H:Hp}{s:X8}{a:Addr}{y d:V}{u r:Y1}{o:Option V}{A:W1}{E:Y1->X8->Prop}
def zqg {Q:Y1->X8->Prop}(x:A.units+1<U7)(I:Inv X bQ σ H s)(g:zc0 H a y o)(p:RelV y u)(n:RelV d r)(h:∀q s',Inv X bQ σ H s'->RelV (o.getD d) q->Q q s') :
  Xu (Xw X.prog X.w) A (call (.builtin "dict.get") [.ref a,u,r]) Q E s:=by
 rcases g with ⟨m,k,e,i,l⟩ | ⟨m,k,b,e,i,v,l⟩
 .subst i;obtain⟨z,j,D,c,f⟩:=zgw I.hok e;refine call_meetsIn Sk f.typeIs Pk (PF _ _ _) (meets_dict_get_default (qa X.prog X.w) a (zi5 p) j r) ⟨_,f.mapOf,h _ _ (I.tok _) ?_⟩;rw[l];exact(c.val k).getD n
 .subst i;cases (show u=WN b from p);obtain⟨z,j,B,c,f⟩:=zgx I.hok e;refine call_meetsIn Sk f.typeIs Pk (PF _ _ _) (meetsH_dict_get_default (VI (qa X.prog X.w)) a b j r) ⟨Rw x,k,B,zcZ I.hok v,f,h _ _ (I.tok _) ?_⟩;rw[l];exact(c.val k).getD n
end
def zqh (f ty g:TE):TE:=fun b H Q=>f b H λx c=>∃a,x=.ref a/\IsD c a/\ty b c λy e=>g b e λz d=>∃o,zc0 d a y o/\Q (o.getD z) d
section
variable {X:Cx}{o e f:Expr}{apos cpos:Pos}{td ty tx:TE}
def zlw (D:X.A.units+1<U7)(B:PE X o td)(he:PE X e ty)(w:PE X f tx)(m:M2 X o "get" apos e f cpos):PE X (.Call (.Attribute o "get" apos) [e,f] [] cpos) (zqh td ty tx):=by
 intro b s i H Q I h;refine wpAny_Call_method m.base m.few m.line PySem.F.plainAttrs_dict Sk PySem.F.type_dict_get (thn (B b s i H _ I h) λu s1 ⟨x,k,j,L,a,v,d,E⟩=>?_);subst v;obtain rfl:u=WN a:=L;obtain⟨U,Y,_⟩:=zqf j d;refine⟨U,Y,?_⟩;rw[m.trees];refine T1 rfl (Tv (UN (thn (he b s1 i k _ j E) λiv O ⟨y,l,p,M,G⟩ =>
  UN (thn (w b O i l _ p G) λfv s3 ⟨z,n,q,N,ov,g,J⟩=>Rc ?_))))
 exact zqg D q g M N λw' s4 r c=>⟨_,n,r,c,J⟩
end
def zj8:Od (.type "list") "keys"=pure none:=by rw[RS,TQ];kernel_rfl
def zj9:Od (.type "list") "__getattr__"=pure none:=by rw[RS,TQ];kernel_rfl
def zc1:isSubtype (.type "AttributeError") (.type "AttributeError")=pure true:=by rw[OP];kernel_rfl
def zlx (a:List Y1):ownMembersOf (.type "AttributeError") a=#[unsetMember,unsetMember]:=rfl
def zhV:((Manifest.find? "AttributeError").elim false λt=>t.mro.contains "StopIteration" || t.mro.contains "SystemExit")=false:=by decide+kernel
section
variable {prog:Xr}{w:Xe}{A:W1}{E:Y1->X8->Prop}{h:Heap}{g:Array Um}{d:NN}{t:Nat}{os:N7}{a:Addr}{its:Array Y1}{n:Nat}
def zly {tk:Tok}{Q:Fin->X8->Prop}(l:h.get? a=some { cls:=.type "list",dict:=none,data:=.seq its n,slots:=#[] })(k:A.handled=none)
  (he:∀c j e,(∀b f,h.get? b=some f->c.get? b=some f)->(⟨c,g,d,j,os⟩:X8).TypeIs (.ref e) "AttributeError"->E (.ref e) ⟨c,g,d,j,os⟩) :
  Xu (Xw prog w) A (UD.«object.__getattribute__» ⟨[.ref a,.str "keys" tk],[]⟩) Q E ⟨h,g,d,t,os⟩:=by
 have q:(⟨h,g,d,t,os⟩:X8).TypeIs (.ref a) "list":=⟨_,l,rfl⟩;have o:=zj8;have p:=zc1;repeat (any_goals (first | assumption | wp_step))
 unfold raiseAttrError;refine ZB (wpAny_mkStr (ZB ?_) (by decide+kernel));unfold newExc newTuple;refine ZB (V2 ?_);refine ZB (m:=RC _ _) (Ri (a:=U0) (by simp only[RC,zhV];rfl) ?_);rw[zlx];refine V2 ?_;refine ZB (wpAny_mkText ?_);refine ZB ?_;unfold noteAttr lacksNameAndObj;repeat (any_goals (first | assumption | wp_step))
 unfold raiseNew;refine ZB (wpAny_handled ?_);rw[k];refine ZB (XT (NP ?_));dsimp only;refine he _ _ _ (λb f i=>?_) ?_
 .rw[(Uq ..).2 b (Xm ?_)]
  .exact X4 _ (X4 _ i)
  .rw[Vo];exact WH (XH i)
 .refine⟨_,Wm _ (Xl _ rfl) rfl,rfl⟩
def znP {tk:Tok}{R:QP->X8->Prop}(f:h.get? a=some { cls:=.type "list",dict:=none,data:=.seq its n,slots:=#[] })(k:A.handled=none)
  (he:∀c j e,(∀b i,h.get? b=some i->c.get? b=some i)->(⟨c,g,d,j,os⟩:X8).TypeIs (.ref e) "AttributeError"->R (.error (.ref e)) ⟨c,g,d,j,os⟩) :
  UJ (Xw prog w) A (.call (.builtin "list.__getattribute__") ⟨[.ref a,.str "keys" tk],[]⟩) R ⟨h,g,d,t,os⟩ :=
 Tt PySem.F.slot_list_getattribute.plain PySem.F.entry_list_ga (PySem.F.slot_list_getattribute.check _ _ _ _ _ _ _ _ (show (⟨h,g,d,t,os⟩:X8).TypeIs (.ref a) "list" from ⟨_,f,rfl⟩) (PySem.F.args_list_getattribute_2 _ _) (zly f (by simp[k]) he))
def zrT {tk:Tok}{Q:Y1->X8->Prop}(i:h.get? a=some { cls:=.type "list",dict:=none,data:=.seq its n,slots:=#[] })(l:A.handled=none)
  (he:∀c f e,(∀b j,h.get? b=some j->c.get? b=some j)->(⟨c,g,d,f,os⟩:X8).TypeIs (.ref e) "AttributeError"->E (.ref e) ⟨c,g,d,f,os⟩) :
  Xu (Xw prog w) A (getAttrBy (.ref a) (.str "keys" tk) false) Q E ⟨h,g,d,t,os⟩:=by
 have s:(⟨h,g,d,t,os⟩:X8).TypeIs (.ref a) "list":=⟨_,i,rfl⟩;have o:=PySem.F.slot_list_getattribute.lookup;have p:=PySem.F.slot_list_getattribute.bind (.ref a);have q:=zj9;have r:=zc1;repeat (any_goals (first | assumption | wp_step))
 refine znP i (by simp[l]) λc f e m k=>?_;repeat (any_goals (first | assumption | wp_step))
 exact he _ _ _ m k
def znQ {Q:Option Y1->X8->Prop}(l:h.get? a=some { cls:=.type "list",dict:=none,data:=.seq its n,slots:=#[] })(j:A.handled=none)
  (k:∀c i,(∀b f,h.get? b=some f->c.get? b=some f)->Q none ⟨c,g,d,i,os⟩) :
  Xu (Xw prog w) A (NH (.ref a) "keys") Q E ⟨h,g,d,t,os⟩:=by
 have o:=zc1;unfold NH getAttrBy?;refine ZB (wpAny_mkText (ZB (S9 ?_)));refine zrT (t:=t+1) l j λc i e m p=>?_;repeat (any_goals (first | assumption | wp_step))
 exact k _ _ m
def zaI:NG table "dict.update.loop"=some UD.«dict.update.loop»:=entryFor_of_tree (by kernel_rfl)
def Jy:plainId "dict.update.loop"=true:=by decide+kernel
end
section
variable {prog:Xr}{w:Xe}{A:W1}{R:QP->X8->Prop}{I:Addr}{fp wr:List Addr}{G:Array Um->Array Um->Prop}{n:Nat}{P:Nat->Y1->Prop}{St:Nat->X8->Prop}
abbrev KQ:=List Key×Addr×Y1
def putAll (ks:List KQ):List KQ:=ks.foldl (λa q=>Sb a q.1 q.2.1 q.2.2) []
def putAll_snoc (ks:List KQ)(q:KQ):putAll (ks++[q])=Sb (putAll ks) q.1 q.2.1 q.2.2:=by
 unfold putAll;rw[TL];rfl
def zgz (xs:List KQ)(k:List Key)(a:Addr)(v:Y1):(Sb xs k a v).length<=xs.length+1:=by
 unfold Sb;split
 .rw[X9];lia
 .rw[XR];exact XX _
def zc2 (ks:List KQ):(putAll ks).length<=ks.length:=by
 suffices h:∀(ks a:List KQ),(ks.foldl (λa q=>Sb a q.1 q.2.1 q.2.2) a).length<=a.length+ks.length by
  have:=h ks [];simpa[putAll] using this
 intro ks;induction ks with
 | nil=>intro a;exact XX _
 | cons q r b =>
  intro a;have h1:=b (Sb a q.1 q.2.1 q.2.2);have h2:=zgz a q.1 q.2.1 q.2.2;rw[V7,Xk];lia
def zfw {A:W1}{E:Y1->X8->Prop}{s:X8}{a:Addr}{x y:Y1}{Q:List Y1->X8->Prop}(h:NO s.heap a #[x,y])(q:Q [x,y] s):Xu (Xw prog w) A (Pj (.ref a)) Q E s:=by
 obtain⟨o,h1,h2,n,b⟩:=h;have c:s.TypeIs (.ref a) "tuple":=⟨o,h1,h2⟩;unfold Pj;repeat (any_goals (first | assumption | wp_step))
 rw[b];exact XT (XT q)
theorem zb0 (T:List Key->Addr->Prop):∀(c acc:List KQ),(∀x∈acc,T x.1 x.2.1)->(∀x∈c,T x.1 x.2.1)->∀x∈c.foldl (λacc q=>Sb acc q.1 q.2.1 q.2.2) acc,T x.1 x.2.1
 | [],_,a,_=>a
 | q::r,acc,a,b=>by
  rw[V7];refine zb0 T r _ (λx hx=>?_) λx hx=>b x (XW _ hx);unfold Sb at hx;split at hx
  .obtain⟨y,d,rfl⟩:=XA.mp hx;have:=a y d;unfold putAt;split
   .exact this
   .exact this
  .rcases XO.mp hx with hx | hx
   .exact a x hx
   .have e:x=(q.1,q.2.1,q.2.2):=by simpa using hx
    subst e;exact b q XV
def zhW {h0:Heap}(W:WalksS prog w A.in1 I fp wr G n P St)(D:Addr)(J:D ∉ fp)(aa:h0.get? D=none)(ah:∀b∈wr,h0.get? b=none)(ks:List KQ)(N:ks.length=n)(u:n<=Xz)(hu:A.units+1<U7)
  (M:∀q∈ks,(VI (qa prog w)).is h0 q.1 q.2.1) (hP:∀i v,P i v->∃H q,v=.ref H/\ks[i]?=some q/\NO h0 H #[.ref q.2.1,q.2.2]) :
  ∀(k i:Nat) (s:X8),n-i=k->i<=n->St i s->(∀b o,h0.get? b=some o->s.heap.get? b=some o)->s.heap.DictOfH (VI (qa prog w)) D (putAll (ks.take i)) ->
   (∀s',Moved (D::wr) G s s'->s'.heap.DictOfH (VI (qa prog w)) D (putAll ks)->R (.ok (.ret .none)) s') ->
   UJ (Xw prog w) A (.builtin "dict.update.loop" ⟨[.ref D,.ref I,T9 (i:Int),.none],[]⟩) R s:=by
 have ab:D ∉ wr:=λh=>J (W.sub _ h);have more:∀b∈wr,b∈D::wr:=λb u=>XW _ u;have r:∀{h:Heap} {H:Addr} {y:Array Y1},(∀b o,h0.get? b=some o->h.get? b=some o)->NO h0 H y->NO h H y:=λl ⟨o,h1,h2,m,h3⟩=>⟨o,l _ _ h1,h2,m,h3⟩;have f:∀{h:Heap} {ka:Addr} {q:List Key},(∀b o,h0.get? b=some o->h.get? b=some o)->(VI (qa prog w)).is h0 q ka->(VI (qa prog w)).is h q ka:=λl ⟨o,y,m,h1,h2⟩=>⟨o,y,m,l _ _ h1,h2⟩;have c:∀{s s':X8} {y:List KQ},Moved wr G s s'->(∀b o,h0.get? b=some o->s'.heap.get? b=some o)->(∀x∈y,(VI (qa prog w)).is h0 x.1 x.2.1)->s.heap.DictOfH (VI (qa prog w)) D y->s'.heap.DictOfH (VI (qa prog w)) D y :=
  λg l hk ⟨o,es,ep,e1,e2,e3,e4,_,e6⟩=>⟨o,es,ep,g.heap D _ ab e1,e2,e3,e4,λx Y=>f l (hk x Y),e6⟩
 have d:∀{s s':X8},Moved wr G s s'->(∀b o,h0.get? b=some o->s.heap.get? b=some o)->∀b o,h0.get? b=some o->s'.heap.get? b=some o:=λg l b o e =>
  g.heap b o (λu=>by
   rw[ah b u]at e;cases e) (l b o e)
 have j:∀i,∀x∈putAll (ks.take i),(VI (qa prog w)).is h0 x.1 x.2.1:=λi=>zb0 (λa b=>(VI (qa prog w)).is h0 a b) _ [] (λx Y=>nomatch Y) λx Y=>M x (V0 Y);intro k;induction k with
 | zero =>
  intro i s hk hi E l hS hR;have ag:i=n:=by lia
  subst ag;refine VE zaI ?_;rw[VZ Jy _];show Xu _ A.in1 (RK (.ref I) >>= _) _ _ s;refine ZB (W.done s _ _ E λs' g=>?_);show Xu _ A.in1 (Builtin.Dict.addKeywords D [] >>= λ_=>ret U0) _ _ s';refine ZB (XT (XT (hR s' (g.mono more) ?_)));have:=c g (d g l) (j _) hS;rw[<- N,XC]at this;exact this
 | succ k ih =>
  intro i s hk hi E l hS hR;have O:i<n:=by lia
  refine VE zaI ?_;rw[VZ Jy _];show Xu _ A.in1 (RK (.ref I) >>= _) _ _ s;refine ZB (W.item i s _ _ O E λv s' ac U g=>?_);obtain⟨H,q,rfl,hq,ht⟩:=hP i v ac;have p:=d g l;have ae:=c g p (j _) hS;have l1:=zc2 (ks.take i);have l2:(ks.take i).length<=n:=by
   rw[XG];lia
  have tk:ks.take (i+1)=ks.take i++[q]:=by
   rw[Xv,hq];rfl
  refine ZB (WA (ZB (wpAny_tryCatch (zfw (r p ht) ?_))));refine WA (wpAny_dictSet_heap (show A.in1.units<U7 from hu) (f p (M q (X7 hq))) ae (λh' af B=>?_) (by lia));have ai:∀b o,h0.get? b=some o->h'.get? b=some o:=λb o e=>by
   rw[B.2 b (λz=>by
    rw[z,aa]at e;cases e)]
   exact p b o e
  have d2:h'.DictOfH (VI (qa prog w)) D (putAll (ks.take (i+1))):=by
   rw[tk,putAll_snoc];exact af
  refine XT ⟨Ut Jy _,?_⟩;show UJ _ A (.builtin "dict.update.loop" ⟨[.ref D,.ref I,T9 ((i:Int)+1),.none],[]⟩) R _;rw[show ((i:Int)+1)=((i+1:Nat):Int) by lia];refine ih (i+1) _ (by lia) O (W.frame _ s' _ _ U (Uf _ _) λb u o e=>?_) ai d2 λaj Q L=>?_
  .rw[B.2 b (λz=>J (by rw[<- z];exact u))];exact e
  .refine hR aj (Moved.trans W.gtrans ((g.mono more).then_heap (Uf _ _) λb o u e=>?_) Q) L;rw[B.2 b (λz=>u (by rw[z];exact XV))];exact e
end
def zrU (H:Hp)(v:V)(c:List Key×V):Prop:=∃a b,v=V.ref a/\H a=some (.tup [.ref b,c.2])/\H b=some (.tup (c.1.map kV))
def j6 (H:Hp):AF->List (List Key×V)->Prop:=WU (zrU H)
def j6.mono {H d:Hp}(s:zu H d){vs:AF}{c:List (List Key×V)}(f:j6 H vs c):j6 d vs c:=by
 induction f with
 | nil=>exact .nil
 | cons q _ g =>
  obtain⟨a,b,e,h1,h2⟩:=q;exact .cons ⟨a,b,e,s _ _ h1,s _ _ h2⟩ g
def YS (b:List (List Key×V)):List (List Key×V):=b.foldl (λa c=>putK a c.1 c.2) []
def KT.puts {H:Hp}{a:List (List Key×V)}{ks:List KQ}{acc:List (List Key×V)}{xs:List KQ}(d:KT H a ks)(r:KT H acc xs):KT H (a.foldl (λacc b=>putK acc b.1 b.2) acc) (ks.foldl (λacc q=>Sb acc q.1 q.2.1 q.2.2) xs):=by
 induction d generalizing acc xs with
 | nil=>exact r
 | cons q _ e =>
  obtain⟨h1,h2,c⟩:=q;rw[V7,V7];refine e ?_;rw[<- h1];exact r.put _ h2 c
def znR {P:Xr}{w:Xe}{H:Hp}{h:Heap}(ok:HOk P w H h){a:List (List Key×V)}{ks:List KQ}(b:KT H a ks):∀x∈ks,(VI (qa P w)).is h x.1 x.2.1:=by
 induction b with
 | nil=>exact λx hx=>nomatch hx
 | cons q _ c =>
  intro x hx;rcases XJ.mp hx with e | hx
  .subst e;exact zcZ ok (by rw[<- q.1];exact q.2.1)
  .exact c x hx
def znS {P:Xr}{w:Xe}{H:Hp}{h:Heap}(ok:HOk P w H h){vs:AF}{d:List (List Key×V)}{c:List Y1}(n:j6 H vs d)(j:Vals vs c):∃ks:List KQ,KT H d ks/\ks.length=c.length/\(∀(i:Nat) (v:Y1),c[i]?=some v->∃(f:Addr) (q:KQ),v=WN f/\ks[i]?=some q/\NO h f #[.ref q.2.1,q.2.2]):=by
 induction n generalizing c with
 | nil =>
  cases j;exact⟨[],.nil,rfl,λi v e=>by simp at e⟩
 | @cons x k G I q _ o =>
  obtain⟨a,b,e,h1,h2⟩:=q;cases j with
  | cons B z =>
  obtain⟨ks,p,s,y⟩:=o z;subst e;cases B;obtain⟨_,G,r,D⟩:=(show jd P w H h a (.tup [.ref b,k.2]) from ok a _ h1);obtain⟨u,E,rfl,A,g⟩:=vals2 r;cases A;refine⟨(k.1,b,E)::ks,.cons ⟨rfl,h2,g⟩ p,by rw[Xk,Xk,s],λi v e=>?_⟩;cases i with
  | zero =>
   have l:WN a=v:=by simpa using e
   exact⟨a,_,l.symm,rfl,D⟩
  | succ i =>
   obtain⟨f,q,h1,h2,m⟩:=y i v (by simpa using e);exact⟨f,q,h1,by simpa using h2,m⟩
section
variable {X:Cx}
set_option maxHeartbeats 8000000 in
theorem Jg (hu:X.A.units+64<U7)(hh:X.A.handled=none):j3 X (.type "dict") (λxs H Q=>∃l us g,xs=[.ref l]/\H l=some (.lst us)/\j6 H us g/\∀d,H d=none->Q (.ref d) (upd H d (.dT (YS g)))):=by
 intro bQ s σ H xs ai Q I r h;obtain⟨l,us,g,rfl,hl,hp,q⟩:=h;obtain⟨u,rfl,ru⟩:=vals1 r;cases ru;obtain⟨hz,m,n,rv,e⟩:=(show jd X.prog X.w H s.heap l (.lst us) from I.hok l _ hl);obtain⟨ks,E,D,N⟩:=znS I.hok hp rv;have big:=I.big;have y:m.length<=Xz:=by
  rw[<- rv.length];exact hz
 have ae:=znR I.hok E;refine callType_codes (Q₁:=λU p=>U=.ref s.heap.objs.size/\p={ s with heap:=s.heap.push { cls:=.type "dict",data:=.dict #[] } }) PySem.F.kt_called_dict (PySem.F.kt_typeCall_dict_1 _) PySem.F.entry_dict_init (kt_code_dict_new _ ⟨rfl,rfl⟩) ?_;rintro U p ⟨rfl,rfl⟩;have f:(s.heap.push { cls:=.type "dict",data:=.dict #[] }).DictOfH (VI (qa X.prog X.w)) s.heap.objs.size []:=Heap.DictOfH.new s.heap;have e1:(s.heap.push { cls:=.type "dict",data:=.dict #[] }).get? l=some { cls:=.type "list",dict:=none,data:=.seq m.toArray n,slots:=#[] }:=X4 _ e;refine⟨f.typeIs,PySem.F.args_dict_init_2 _ _,?_⟩;unfold UD.«dict.__init__»;refine ZB ?_;unfold Builtin.Dict.selfAndRest;refine ZB (wpAny_notOrdered_dict f.typeIs ?_);show Xu _ _ (pure (s.heap.objs.size,[WN l])) _ _ _;refine XT ?_;show Xu _ _ (PD "dict.__init__" s.heap.objs.size (.ref l) [] .none) _ _ _;unfold PD;have hT:R9 { s with heap:=s.heap.push { cls:=.type "dict",data:=.dict #[] } } (.ref l) "list":=⟨_,e1,rfl⟩;refine ZB (Pq hT ?_);rw[bw (by decide)];refine ZB (znQ e1 (by simp[hh]) λh2 t2 kp=>?_);rw[bw (show (none:Option Y1).isNone=true from rfl)];have O:∀b j,s.heap.get? b=some j->h2.get? b=some j:=λb j z=>kp b j (X4 _ z);have G:h2.IsList l m.toArray:=⟨_,kp _ _ e1,rfl,n,rfl⟩;refine ZB (Uu (ZB (SA G ?_)));have J:l<s.heap.objs.size:=XH e;have k:s.heap.objs.size<h2.objs.size:=by
  obtain⟨o,_,_,M,_⟩:=f;exact XH (kp _ _ M)
 have L:l≠h2.objs.size:=Xm (Tp J k);have aa:s.heap.objs.size ∉ [h2.objs.size,l]:=by
  simp only[XJ,Vs,or_false,not_or];exact⟨Xm k,UB J⟩
 refine XT ⟨Ut Jy _,?_⟩;have ac:(h2.push { cls:=.type "list_iterator",data:=.fields #[.ref l,.int 0 0] }).DictOfH (VI (qa X.prog X.w)) s.heap.objs.size []:=by
  obtain⟨o,es,ep,M,h3,h4,h5,_,h6⟩:=f;exact⟨o,es,ep,X4 _ (kp _ _ M),h3,h4,h5,(λx hx=>nomatch hx),h6⟩
 refine zhW (h0:=s.heap) ((Walks.list (by simp[hh]) h2.objs.size l L m.toArray).toS) s.heap.objs.size aa (Uw (XX _)) (λb hb=>?_) ks (by rw[D];simp) (by simpa using y) (by show X.A.units+1+1<U7;lia) ae (λi v hv=>N i v (by rw[<- hv];simp)) _ 0 _ rfl (WZ _)
  ⟨⟨_,Xl _ rfl,rfl,rfl⟩,G.push _⟩ (λb o z=>X4 _ (O b o z)) ac ?_
 .have e:b=h2.objs.size:=by simpa using hb
  rw[e];exact Uw (Tq k)
 .intro s' Y ab;obtain⟨h',g',d',ah,ag⟩:=s';have eg:g'=s.gens:=Y.gens;have ed:d'=s.drawn:=Y.drawn;have eo:ag=s.os:=Y.os;subst eg;subst ed;subst eo;have af:∀b j,s.heap.get? b=some j->h'.get? b=some j:=λb j z=>by
   have lt:=XH z;refine Y.heap b j (λhb=>?_) (X4 _ (O b j z));rcases XJ.mp hb with e | hb
   .exact Wj _ (e ▸ lt)
   .have e:b=h2.objs.size:=by simpa using hb
    rw[e]at lt;exact Wj _ (Tp lt k)
  obtain⟨o,es,ep,M,h3,h4,h5,_,h6⟩:=ab;have B:KT H (YS g) (putAll ks):=KT.puts E .nil;have c:H s.heap.objs.size=none:=I.hok.fresh (XX _);refine⟨rfl,.ref s.heap.objs.size,_,I.laid (a:=s.heap.objs.size) (o:=.dT (YS g)) (t':=ah) af (XX _) ⟨?_,beq_eq_false_iff_ne.mpr (Va (Xm big)),_,KT.keeps B λb ys hb=>?_,o,es,ep,M,h3,h4,h5,h6⟩,rfl,q _ c⟩
  .rw[Paired.length B];exact X0 (zc2 ks) (by rw[D];exact y)
  .rw[zo (zk hb c)];exact hb
end
def u1 {A:PySem.Around}(h:A.units+64<PySem.cLine):A.units+1<PySem.cLine:=by lia
section
variable {K:X5}{g:TG}{tc:TT}{te:TE}{Q:VK}{σ0:St}{D:Addr}
def zlz {l1 l2:Addr}{xs ys:AF}(Pv:Nat->St->Hp->Prop){H:Hp}(he:xs.length=ys.length)(h0:Pv 0 σ0 H)(u:∀i a H,i<=xs.length->Pv i a H->SqL K H l1 xs/\SqL K H l2 ys)
  (w:∀i x y T a H,xs[i]?=some x->ys[i]?=some y->H T=none->Pv i a H->g (.ref T) a (upd H T (.tup [x,y])) fun c o=>tc c o λb k=>if b=true then te c k λy l=>∃zs,l D=some (.lst zs)/\zs.length<Xz/\Pv (i+1) c (upd l D (.lst (zs++[y]))) else Pv (i+1) c k)
  (r:∀ a H,Pv xs.length a H->Q (.ref D) H):xX (Itz K l1 l2) g tc te Q D σ0 H:=by
 refine⟨λi m a H=>m=xs.length-i/\i<=xs.length/\Pv i a H,⟨xs.length,by simp,WZ _,h0⟩,?_⟩;rintro i m a H ⟨rfl,s,p⟩;obtain⟨h,j⟩:=u i a H s p;by_cases d:i<xs.length
 .refine .inr ⟨⟨xs,ys,h,j,d,by lia⟩,Pv (i+1),fun E n A=>⟨xs.length-(i+1),by lia,rfl,d,A⟩,λx n y=>?_⟩;obtain⟨T,rfl,q,y⟩:=y;obtain⟨v,B,z,f,rfl⟩:=y xs ys h j;exact w i v B T a H z f q p
 .have e:i=xs.length:=by lia
  subst e;exact .inl ⟨⟨xs,ys,h,j,by lia⟩,r a H p⟩
end
theorem j6.into {H:Hp}(z:Addr)(o:HO){f:AF}(d:H z=some (.lst f)):∀{vs:AF} {c:List (List Key×V)},j6 H vs c->j6 (upd H z o) vs c
 | _,_,.nil=>.nil
 | _,_,.cons ⟨a,b,e,h1,h2⟩ t=>.cons ⟨a,b,e,by rw[zo (zeq h1 d (by intro y;cases y))];exact h1,by rw[zo (zeq h2 d (by intro y;cases y))];exact h2⟩ (j6.into z o d t)
theorem j6.snoc {H:Hp}{vs:AF}{a:List (List Key×V)}{v:V}{b:List Key×V}(h:j6 H vs a)(x:zrU H v b):j6 H (vs++[v]) (a++[b]):=Paired.snoc h x
theorem j6.length {H:Hp}{vs:AF}{a:List (List Key×V)}(h:j6 H vs a):vs.length=a.length:=Paired.length h
theorem zbv {v:V}{k:List Key}:∀(ks:List (List Key)) (acc:List (List Key×V)),(k∈ks\/jB acc k=some v)->jB ((ks.map λx=>(x,v)).foldl (λacc a=>putK acc a.1 a.2) acc) k=some v
 | [],acc,h=>by
  rcases h with h | h
  .cases h
  .exact h
 | x::r,acc,h=>by
  rw[Xh,V7];refine zbv r _ ?_;rw[ZI];by_cases e:k=x
  .rw[bw e];exact .inr rfl
  .rw[bq e];rcases h with h | h
   .rcases XJ.mp h with h | h
    .exact absurd h e
    .exact .inl h
   .exact .inr h
section
variable {prog:Xr}{w:Xe}{A:W1}{E:Y1->X8->Prop}{s:X8}{d o a:Addr}{xs ys:List KQ}{k:List Key}{v:Y1}
abbrev tk2 (prog:Xr)(w:Xe):HeapKind prog w (List Key):=VI (qa prog w)
end
def HH (i j:Nat):Int:=reduceHash (Builtin.Tuple.tupleHashOf [hashInt (i:Int),hashInt (j:Int)])
def zaJ (prog:Xr)(w:Xe)(i j:Nat):(tk2 prog w).hash [.inl ((i:Nat):Int),.inl ((j:Nat):Int)]=HH i j:=by
 show tupleKeyHash (qa prog w) [.inl ((i:Nat):Int),.inl ((j:Nat):Int)]=HH i j;unfold tupleKeyHash HH;rw[Xh,Xh,N2];have e:∀n:Nat,(qa prog w).hash (.inl ((n:Nat):Int))=hashInt ((n:Nat):Int):=λn=>by
  show zpF w (.inl ((n:Nat):Int))=_;unfold zpF;with_reducible rfl
 rw[e,e]
def zqi:(Wh 64).all λn=>(Wh 64).all λm=>decide (HH (n/8) (n%8)=HH (m/8) (m%8))==decide (n=m):=by decide+kernel
def zlA {i j f g:Nat}(h1:i<8)(h2:j<8)(k:f<8)(l:g<8)(e:HH i j=HH f g):i=f/\j=g:=by
 have h:=zqi;rw[WD]at h;have a:=h (8*i+j) (VH.mpr (by lia));rw[WD]at a;have b:=a (8*f+g) (VH.mpr (by lia));rw[show (8*i+j)/8=i by lia,show (8*i+j)%8=j by lia,show (8*f+g)/8=f by lia,show (8*f+g)%8=g by lia,br e]at b;have c:decide (8*i+j=8*f+g)=true:=by simpa using b
 have d:=bh c;lia
section
variable {X:Cx}
def zgA:j3 X (.type "str") (λxs H Q=>∃v z,xs=[v]/\(v=V.str z\/∃i:Int,v=V.int i/\i.natAbs.log2<1920/\z=toString i)/\Q (.str z) H):=by
 intro a s c H xs b Q I r h;obtain⟨v,z,rfl,h,q⟩:=h;rcases h with rfl | ⟨i,rfl,d,rfl⟩
 .exact zfs a s c H _ b Q I r ⟨z,rfl,q⟩
 .exact zfl a s c H _ b Q I r ⟨i,rfl,d,q⟩
end
open PySem
namespace ST
def run (a i:Nat):List Nat:=(Wh (Vu a i+1-i)).map (i + ·)
def walk (a:Nat):Nat->Nat->Nat->List Nat
 | 0,_,_=>[]
 | f+1,i,p=>run a i++walk a f (U8 a i p).1 (U8 a i p).2
def znT (a i:Nat):1<=(run a i).length/\(run a i).length<=10:=by
 unfold run Vu;rw[X9,Wc];split<;>lia
theorem zc3 (a:Nat):∀f i p,(walk a f i p).length<=10*f
 | 0,_,_=>XX _
 | f+1,i,p=>by
  rw[walk,XR];have:=(znT a i).2;have:=zc3 a f (U8 a i p).1 (U8 a i p).2;lia
def steps (t:Wt):Nat->RA->RA
 | 0,p=>p
 | n+1,p=>steps t n (t.advance p)
theorem zbw (t:Wt):∀n m p,steps t (n+m) p=steps t m (steps t n p)
 | 0,m,p=>by rw[VD];rfl
 | n+1,m,p=>by
  rw[show n+1+m=(n+m)+1 from by lia];exact zbw t n m (t.advance p)
theorem zbx (t:Wt)(i pt:Nat)(a:Option Nat):∀(d r j:Nat),d<=r->steps t d { j:=j,more:=r,i:=i,perturb:=pt,dummy:=a }={ j:=j+d,more:=r-d,i:=i,perturb:=pt,dummy:=a }
 | 0,r,j,_=>rfl
 | d+1,r,j,h=>by
  have e:t.advance { j:=j,more:=r,i:=i,perturb:=pt,dummy:=a }={ j:=j+1,more:=r-1,i:=i,perturb:=pt,dummy:=a }:=by
   unfold PK;rw[bw (by show r>0;lia)]
  show steps t d (t.advance _)=_;rw[e,zbx t i pt a d (r-1) (j+1) (by lia)];congr 1<;>lia
def QD (a i pt:Nat)(b:Option Nat):RA:={ j:=i,more:=Vu a i-i,i:=i,perturb:=pt,dummy:=b }
def zby (a i:Nat):i<=Vu a i:=by
 unfold Vu;split<;>lia
def zhX (t:Wt)(i pt:Nat)(a:Option Nat):steps t (run t.mask i).length (QD t.mask i pt a)=QD t.mask (U8 t.mask i pt).1 (U8 t.mask i pt).2 a:=by
 have b:(run t.mask i).length=(Vu t.mask i-i)+1:=by
  unfold run;rw[X9,Wc];have:=zby t.mask i;lia
 rw[b,zbw];unfold QD;rw[zbx t i pt a _ _ _ (XX _),To];rw[steps,steps];unfold PK;rw[bq (by show ¬ 0>0;lia)]
theorem JQ (t:Wt):∀(f i pt:Nat) (a:Option Nat) (n:Nat) (j:Nat),(walk t.mask f i pt)[n]?=some j->(steps t n (QD t.mask i pt a)).j=j
 | 0,_,_,_,_,_,h=>by simp[walk]at h
 | f+1,i,pt,a,n,j,h=>by
  rw[walk]at h;by_cases b:n<(run t.mask i).length
  .rw[VY b]at h;unfold run at h;rw[Xo,Tg (by unfold run at b;simpa using b)]at h;have c:(run t.mask i).length=(Vu t.mask i-i)+1:=by
    unfold run;rw[X9,Wc];have:=zby t.mask i;lia
   unfold QD;rw[zbx t i pt a n _ _ (by lia)];exact Option.some.inj h
  .rw[VG (by lia)]at h;have e:n=(run t.mask i).length+(n-(run t.mask i).length):=by lia
   rw[e,zbw,zhX];exact JQ t f _ _ a _ j h
theorem zfx (t:Wt)(Vq:Nat->Int)(h:Int):∀(n F:Nat) (p:RA),(∀k,k<n->∃i,t.slot (steps t k p).j=.live i/\(Vq i==h)=false)->n<=F->TK t Vq h F p=TK t Vq h (F-n) (steps t n p)
 | 0,F,p,_,_=>rfl
 | n+1,F,p,hk,d=>by
  obtain⟨a,rfl⟩:∃a,F=a+1:=⟨F-1,by lia⟩;obtain⟨i,h1,h2⟩:=hk 0 (by lia);have b:t.slot p.j=.live i:=h1;rw[TK,b];show (if (Vq i==h)=true then _ else _)=_;rw[bq (by rw[h2];decide),zfx t Vq h n a (t.advance p) (λk c=>hk (k+1) (by lia)) (by lia),Nat.add_sub_add_right];rfl
def Up (xs:Array Nat):Prop:=∀i j,i<j->j<xs.size->xs.getD i 0<xs.getD j 0
def zlB {xs:Array Nat}(U:Up xs)(j:Nat):∀(f lo a:Nat),a-lo<=f->lo<=a->a<=xs.size->(∀i,i<lo->xs.getD i 0<j)->(∀i,a<=i->i<xs.size->j<=xs.getD i 0) ->
  Vm xs j f lo a<=xs.size/\(∀i,i<Vm xs j f lo a->xs.getD i 0<j)/\(∀i,Vm xs j f lo a<=i->i<xs.size->j<=xs.getD i 0):=by
 intro f;induction f with
 | zero =>
  intro lo a n o d h1 h2;have:lo=a:=by lia
  subst this;exact⟨d,h1,h2⟩
 | succ f m =>
  intro lo a n o d h1 h2;by_cases b:lo<a
  .have q:(lo+a)/2<a:=by lia
   have p:lo<=(lo+a)/2:=by lia
   have c:(lo+a)/2<xs.size:=by lia
   have e:xs.getD ((lo+a)/2) j=xs.getD ((lo+a)/2) 0:=by
    simp[Array.getD,c]
   have l:Vm xs j (f+1) lo a=if xs.getD ((lo+a)/2) 0<j then Vm xs j f ((lo+a)/2+1) a else Vm xs j f lo ((lo+a)/2):=by
    rw[Vm,bw b];show (if xs.getD ((lo+a)/2) j<j then _ else _)=_;rw[e]
   by_cases g:xs.getD ((lo+a)/2) 0<j
   .rw[l,bw g];refine m ((lo+a)/2+1) a (by lia) (by lia) d (λi h=>?_) h2;by_cases he:i=(lo+a)/2
    .rw[he];exact g
    .exact Tp (U i ((lo+a)/2) (by lia) c) g
   .rw[l,bq g];refine m lo ((lo+a)/2) (by lia) (by lia) (by lia) h1 (λi h k=>?_);by_cases he:i=(lo+a)/2
    .rw[he];lia
    .have:=U ((lo+a)/2) i (by lia) k;lia
  .rw[Vm,bq b];have:lo=a:=by lia
   subst this;exact⟨d,h1,h2⟩
def ZJ {xs:Array Nat}(U:Up xs)(j:Nat):Xq xs j<=xs.size/\(∀i,i<Xq xs j->xs.getD i 0<j)/\(∀i,Xq xs j<=i->i<xs.size->j<=xs.getD i 0) :=
 zlB U j xs.size 0 xs.size (by lia) (WZ _) (XX _) (λ_ h=>absurd h (TV _)) (λi h1 h2=>absurd h2 (by lia))
def JR {xs:Array Nat}{i:Nat}(h:i<xs.size):xs[i]?=some (xs.getD i 0):=by
 simp[Array.getD,h]
def ZK {t:Wt}(U:Up t.place){i:Nat}(a:i<t.place.size):t.slot (t.place.getD i 0)=.live i:=by
 have b:=ZJ U (t.place.getD i 0);have e:Xq t.place (t.place.getD i 0)=i:=by
  rcases Ra (Xq t.place (t.place.getD i 0)) i with h | h | h
  .have h1:=b.2.2 _ (XX _) (by lia);have h2:=U _ i h a;lia
  .exact h
  .have:=b.2.1 i h;lia
 unfold SetTable.slot;simp only[e,JR a];rw[bw (by simp)]
def slot_of {t:Wt}(U:Up t.place)(f:t.dummies=#[])(j:Nat):(∃i,i<t.place.size/\t.place.getD i 0=j/\t.slot j=.live i)\/(t.slot j=.empty/\∀i,i<t.place.size->t.place.getD i 0≠j):=by
 by_cases h:∃i,i<t.place.size/\t.place.getD i 0=j
 .obtain⟨i,a,rfl⟩:=h;exact .inl ⟨i,a,rfl,ZK U a⟩
 .have d:∀i,i<t.place.size->t.place.getD i 0≠j:=λi a e=>h ⟨i,a,e⟩;refine .inr ⟨?_,d⟩;unfold SetTable.slot;have h1:¬ ((t.place[Xq t.place j]?==some j)=true):=λz=>by
   have b:t.place[Xq t.place j]?=some j:=by simpa using z
   have c:Xq t.place j<t.place.size:=by
    rcases SJ (Xq t.place j) t.place.size with q | q
    .exact q
    .rw[WI q]at b;cases b
   rw[JR c]at b;exact d _ c (Option.some.inj b)
  simp only[];rw[bq h1,f];rfl
def Reach (t:Wt)(h:Int)(j:Nat):Prop:=∃n:Nat,(walk t.mask (W9 t.mask) (XF h%(t.mask+1)) (XF h))[n]?=some j/\∀k:Nat,k<n->∀a,(walk t.mask (W9 t.mask) (XF h%(t.mask+1)) (XF h))[k]?=some a->∃i,i<t.place.size/\t.place.getD i 0=a
def zaK (t:Wt)(h:Int):t.probeStart h=QD t.mask (XF h%(t.mask+1)) (XF h) none:=rfl
theorem zgB (t:Wt):∀n p,(steps t n p).dummy=p.dummy
 | 0,_=>rfl
 | n+1,p=>by
  rw[steps,zgB t n];unfold PK;split<;>rfl
def zgC {t:Wt}(U:Up t.place)(Vq:Nat->Int){h:Int}{i:Nat}(D:i<t.place.size)(A:Vq i=h)(one:∀e,e<t.place.size->Vq e=h->e=i)(R:Reach t h (t.place.getD i 0)):∃w,t.probe Vq h (t.probeStart h)=some (.candidate (t.place.getD i 0) i w):=by
 obtain⟨n,z,hk⟩:=R;have y:=(XZ.mp z).1;have L:=zc3 t.mask (W9 t.mask) (XF h%(t.mask+1)) (XF h);have v:∀m:Nat,m<=n->(∀k,k<m->∃e,t.slot (steps t k (t.probeStart h)).j=.live e/\(Vq e==h)=false)\/∃f,f<m/\(∀k,k<f->∃e,t.slot (steps t k (t.probeStart h)).j=.live e/\(Vq e==h)=false)/\t.slot (steps t f (t.probeStart h)).j=.live i/\(steps t f (t.probeStart h)).j=t.place.getD i 0:=λm=>by
  induction m with
  | zero=>exact λ_=>.inl λk hk=>absurd hk (TV _)
  | succ m J =>
   intro G;rcases J (by lia) with h1 | ⟨f,a,b⟩
   .have I:∃r,(walk t.mask (W9 t.mask) (XF h%(t.mask+1)) (XF h))[m]?=some r:=⟨_,X2 (by lia)⟩;obtain⟨r,q⟩:=I;obtain⟨e,p,l⟩:=hk m (by lia) r q;have g:(steps t m (t.probeStart h)).j=r:=by
     rw[zaK];exact JQ t _ _ _ none m r q
    have s:t.slot (steps t m (t.probeStart h)).j=.live e:=by
     rw[g,<- l];exact ZK U p
    by_cases he:Vq e=h
    .have:=one e p he;subst this;exact .inr ⟨m,by lia,h1,s,by rw[g,l]⟩
    .refine .inl λk E=>?_;by_cases u:k=m
     .subst u;exact⟨e,s,by simpa using he⟩
     .exact h1 k (by lia)
   .exact .inr ⟨f,by lia,b⟩
 have o:∀m:Nat,m<10*W9 t.mask->(∀k,k<m->∃e,t.slot (steps t k (t.probeStart h)).j=.live e/\(Vq e==h)=false)->t.slot (steps t m (t.probeStart h)).j=.live i->(steps t m (t.probeStart h)).j=t.place.getD i 0->∃w,t.probe Vq h (t.probeStart h)=some (.candidate (t.place.getD i 0) i w):=λm G H s g=>by
  unfold SetTable.probe;rw[zfx t Vq h m _ _ H (by lia)];obtain⟨x,B⟩:∃x,10*W9 t.mask-m=x+1:=⟨10*W9 t.mask-m-1,by lia⟩;rw[B,TK,s];simp only[];rw[bw (by simpa using A),g];exact⟨_,rfl⟩
 rcases v n (XX _) with h1 | ⟨f,a,b,c,d⟩
 .have g:(steps t n (t.probeStart h)).j=t.place.getD i 0:=by
   rw[zaK];exact JQ t _ _ _ none n _ z
  exact o n (by lia) h1 (by rw[g];exact ZK U D) g
 .exact o f (by lia) b c d
def zfy {t:Wt}(U:Up t.place)(z:t.dummies=#[])(Vq:Nat->Int){h:Int}(H:∀i,i<t.place.size->Vq i≠h){e:Nat}(he:∀i,i<t.place.size->t.place.getD i 0≠e)(D:e∈walk t.mask (W9 t.mask) (XF h%(t.mask+1)) (XF h)) :
  ∃j,t.probe Vq h (t.probeStart h)=some (.empty j none)/\t.slot j=.empty/\Reach t h j/\j∈walk t.mask (W9 t.mask) (XF h%(t.mask+1)) (XF h):=by
 obtain⟨N,u⟩:=O5.mp D;have v:=(XZ.mp u).1;have L:=zc3 t.mask (W9 t.mask) (XF h%(t.mask+1)) (XF h);have r:∀m:Nat,m<=N+1->(∀k:Nat,k<m->∀f,(walk t.mask (W9 t.mask) (XF h%(t.mask+1)) (XF h))[k]?=some f->∃i,i<t.place.size/\t.place.getD i 0=f)\/∃g j:Nat,g<m/\(walk t.mask (W9 t.mask) (XF h%(t.mask+1)) (XF h))[g]?=some j/\t.slot j=.empty/\(∀k:Nat,k<g->∀f,(walk t.mask (W9 t.mask) (XF h%(t.mask+1)) (XF h))[k]?=some f->∃i,i<t.place.size/\t.place.getD i 0=f):=λm=>by
  induction m with
  | zero=>exact λ_=>.inl λk hk=>absurd hk (TV _)
  | succ m E =>
   intro J;rcases E (by lia) with h1 | ⟨g,j,a,b⟩
   .obtain⟨f,l⟩:∃f,(walk t.mask (W9 t.mask) (XF h%(t.mask+1)) (XF h))[m]?=some f:=⟨_,X2 (by lia)⟩;rcases slot_of U z f with ⟨i,o,p,_⟩ | ⟨I,_⟩
    .refine .inl λk A G n=>?_;by_cases q:k=m
     .subst q;rw[l]at n;exact⟨i,o,by rw[p];exact Option.some.inj n⟩
     .exact h1 k (by lia) G n
    .exact .inr ⟨m,f,by lia,l,I,h1⟩
   .exact .inr ⟨g,j,by lia,b⟩
 rcases r (N+1) (XX _) with h1 | ⟨g,j,a,b,c,d⟩
 .obtain⟨i,o,p⟩:=h1 N (by lia) e u;exact absurd p (he i o)
 .refine⟨j,?_,c,⟨g,b,d⟩,X7 b⟩;have x:(steps t g (t.probeStart h)).j=j:=by
   rw[zaK];exact JQ t _ _ _ none g j b
  have B:∀k,k<g->∃w,t.slot (steps t k (t.probeStart h)).j=.live w/\(Vq w==h)=false:=λk hk=>by
   obtain⟨f,l⟩:∃f,(walk t.mask (W9 t.mask) (XF h%(t.mask+1)) (XF h))[k]?=some f:=⟨_,X2 (by lia)⟩;obtain⟨i,o,p⟩:=d k hk f l;refine⟨i,?_,by simpa using H i o⟩;have:(steps t k (t.probeStart h)).j=f:=by
    rw[zaK];exact JQ t _ _ _ none k f l
   rw[this,<- p];exact ZK U o
  unfold SetTable.probe;rw[zfx t Vq h g _ _ B (by lia)];obtain⟨s,y⟩:∃s,10*W9 t.mask-g=s+1:=⟨10*W9 t.mask-g-1,by lia⟩;rw[y,TK,x,c];simp only[zgB];rfl
def orb (m:Nat):Nat->Nat->Nat
 | 0,i=>i
 | n+1,i=>orb m n ((i*5+1)%m)
def zka (m:Nat):Nat->Nat->List Nat
 | 0,_=>[]
 | n+1,i=>i::zka m n ((i*5+1)%m)
theorem zc4 (m:Nat):∀(n i e:Nat),e∈zka m n i->∃k,k<n/\orb m k i=e
 | 0,_,_,h=>nomatch h
 | n+1,i,e,h=>by
  rcases XJ.mp h with rfl | h
  .exact⟨0,SH _,rfl⟩
  .obtain⟨k,hk,q⟩:=zc4 m n _ e h;exact⟨k+1,by lia,q⟩
theorem zcx (m:Nat):∀a b i,orb m (a+b) i=orb m b (orb m a i)
 | 0,b,i=>by rw[VD];rfl
 | a+1,b,i=>by
  rw[show a+1+b=(a+b)+1 from by lia];exact zcx m a b _
def full {m:Nat}(h1:∀e,e<m->e∈zka m m 0)(h2:orb m m 0=0){i e:Nat}(f:i<m)(he:e<m):∃k,k<m+1/\orb m k i=e:=by
 obtain⟨a,g,c⟩:=zc4 m m 0 i (h1 i f);obtain⟨b,h,d⟩:=zc4 m m 0 e (h1 e he);rcases SJ b a with q | q
 .refine⟨m-a+b,by lia,?_⟩;rw[<- c,<- zcx,show a+(m-a+b)=m+b from by lia,zcx,h2,d]
 .refine⟨b-a,by lia,?_⟩;rw[<- c,<- zcx,show a+(b-a)=b from by lia,d]
def zpe:(∀e,e<8->e∈zka 8 8 0)/\orb 8 8 0=0:=by decide+kernel
def zlC:(∀e,e<32->e∈zka 32 32 0)/\orb 32 32 0=0:=by decide+kernel
def zi8:(∀e,e<128->e∈zka 128 128 0)/\orb 128 128 0=0:=by decide+kernel
def ZL (a:Nat):Nat->Nat->Nat->AA
 | 0,i,p=>(i,p)
 | n+1,i,p=>ZL a n (U8 a i p).1 (U8 a i p).2
theorem zeF (c:Nat):∀a b i p,ZL c (a+b) i p=ZL c b (ZL c a i p).1 (ZL c a i p).2
 | 0,b,i,p=>by rw[VD];rfl
 | a+1,b,i,p=>by
  rw[show a+1+b=(a+b)+1 from by lia];exact zeF c a b _ _
theorem zi9 (a:Nat):∀n i p,(ZL a n i p).2=p/32^n
 | 0,i,p=>by rw[Nat.pow_zero,Nat.div_one];rfl
 | n+1,i,p=>by
  rw[ZL,zi9 a n];show p/32/32^n=_;rw[Nat.div_div_eq_div_mul,T7,Pr]
theorem zgD (a:Nat):∀n i p,i<a+1->(ZL a n i p).1<a+1
 | 0,i,p,h=>h
 | n+1,i,p,h=>zgD a n _ _ (RE _ (SH _))
theorem zeG (a:Nat):∀n i,(ZL a n i 0).1=orb (a+1) n i
 | 0,_=>rfl
 | n+1,i=>by
  have b:(U8 a i 0).1=(i*5+1)%(a+1):=rfl;have c:(U8 a i 0).2=0:=rfl;rw[ZL,b,c];exact zeG a n _
theorem head_mem (a:Nat):∀(f n i p:Nat),n<f->(ZL a n i p).1∈walk a f i p
 | 0,_,_,_,h=>absurd h (TV _)
 | f+1,0,i,p,_=>by
  rw[walk];refine W2 _ ?_;unfold run;refine XA.mpr ⟨0,VH.mpr ?_,by rfl⟩;have:=zby a i;lia
 | f+1,n+1,i,p,h=>by
  rw[walk];exact XD _ (head_mem a f n _ _ (by lia))
def zgE {a:Nat}(g:a=7\/a=31\/a=127)(h:Int){e:Nat}(he:e<a+1):e∈walk a (W9 a) (XF h%(a+1)) (XF h):=by
 have f:XF h<2^64:=by
  unfold XF;have h1:=Wr h (show (2^64:Int)≠0 by decide);have h2:=Wv h (show (0:Int)<2^64 by decide);lia
 have i:(ZL a 13 (XF h%(a+1)) (XF h)).2=0:=by
  rw[zi9];exact Nat.div_eq_of_lt (Tp f (by decide))
 have b:=zgD a 13 (XF h%(a+1)) (XF h) (RE _ (SH _));obtain⟨k,hk,d⟩:∃k,k<a+1+1/\orb (a+1) k (ZL a 13 (XF h%(a+1)) (XF h)).1=e:=by
  rcases g with rfl | rfl | rfl
  .exact full zpe.1 zpe.2 b he
  .exact full zlC.1 zlC.2 b he
  .exact full zi8.1 zi8.2 b he
 have c:=head_mem a (W9 a) (13+k) (XF h%(a+1)) (XF h) (by unfold W9;lia);rw[zeF,i,zeG,d]at c;exact c
def Qd {α:Type}(xs:Array α){p:Nat}(x:α):(Xi xs p x).toList=xs.toList.take p++x::xs.toList.drop p:=by
 unfold Xi;simp;rw[Wu (by rw[Vf,X6];lia)]
def zlD {α:Type}(xs:Array α){p:Nat}(b:p<=xs.size)(x:α)(i:Nat):(Xi xs p x)[i]?=if i<p then xs[i]? else if i=p then some x else xs[i-1]?:=by
 have a:(xs.toList.take p).length=p:=by
  rw[XG,X6];lia
 rw[<- Xy,Qd];by_cases h1:i<p
 .rw[bw h1,VY (by lia),PZ h1,Xy]
 .rw[bq h1,VG (by lia),a];by_cases h2:i=p
  .rw[bw h2,h2,To];rfl
  .rw[bq h2,show i-p=(i-p-1)+1 from by lia,PC,SV,Xy];congr 1;lia
def jQ {α:Type}(xs:Array α){p:Nat}(a:p<=xs.size)(x:α):(Xi xs p x).size=xs.size+1:=by
 rw[<- X6,Qd,XR,Xk,XG,Vf,X6];lia
def ZM (xs:Array Nat){p:Nat}(a:p<=xs.size)(x i:Nat)(b:i<xs.size+1):(Xi xs p x).getD i 0=if i<p then xs.getD i 0 else if i=p then x else xs.getD (i-1) 0:=by
 have h:=zlD xs a x i;rw[JR (by rw[jQ xs a x];exact b)]at h;by_cases h1:i<p
 .rw[bw h1]at h ⊢;rw[JR (by lia)]at h;exact Option.some.inj h
 .rw[bq h1]at h ⊢;by_cases h2:i=p
  .rw[bw h2]at h ⊢;exact Option.some.inj h
  .rw[bq h2]at h ⊢;rw[JR (by lia)]at h;exact Option.some.inj h
def zlE {t:Wt}(U:Up t.place)(m:t.dummies=#[]){j:Nat}(he:∀i,i<t.place.size->t.place.getD i 0≠j):(t.put j).2=Xq t.place j/\(t.put j).1={ t with place:=Xi t.place (Xq t.place j) j }/\Up (Xi t.place (Xq t.place j) j):=by
 have b:=ZJ U j;refine⟨rfl,?_,λa c g k=>?_⟩
 .unfold SetTable.put;simp only[m];rfl
 .rw[jQ _ b.1]at k;rw[ZM _ b.1 _ _ (by lia),ZM _ b.1 _ _ k];have lo:∀i,i<Xq t.place j->t.place.getD i 0<j:=b.2.1;have l:∀i,Xq t.place j<=i->i<t.place.size->j<t.place.getD i 0:=λi h1 h2=>by
   have:=b.2.2 i h1 h2;have:=he i h2;lia
  by_cases d:a<Xq t.place j
  .rw[bw d];by_cases e:c<Xq t.place j
   .rw[bw e];exact U a c g (by lia)
   .rw[bq e];by_cases f:c=Xq t.place j
    .rw[bw f];exact lo a d
    .rw[bq f];have h1:=lo a d;have h2:=l (c-1) (by lia) (by lia);lia
  .have e:¬ c<Xq t.place j:=by lia
   have f:¬ c=Xq t.place j:=by lia
   rw[bq d,bq e,bq f];by_cases h:a=Xq t.place j
   .rw[bw h];exact l (c-1) (by lia) (by lia)
   .rw[bq h];exact U (a-1) (c-1) (by lia) (by lia)
def Reach.more {t t':Wt}(g:t'.mask=t.mask)(l:∀i,i<t.place.size->∃a,a<t'.place.size/\t'.place.getD a 0=t.place.getD i 0){h:Int}{j:Nat}(R:Reach t h j):Reach t' h j:=by
 obtain⟨n,h1,h2⟩:=R;unfold Reach;rw[g];refine⟨n,h1,λk hk m d=>?_⟩;obtain⟨i,f,e⟩:=h2 k hk m d;obtain⟨a,c,b⟩:=l i f;exact⟨a,c,b.trans e⟩
def zlF {t:Wt}(U:Up t.place)(j:Nat):∀i,i<t.place.size->∃a,a<(Xi t.place (Xq t.place j) j).size/\(Xi t.place (Xq t.place j) j).getD a 0=t.place.getD i 0:=λi c=>by
 have b:=ZJ U j;by_cases h:i<Xq t.place j
 .refine⟨i,by rw[jQ _ b.1];lia,?_⟩;rw[ZM _ b.1 _ _ (by lia),bw h]
 .refine⟨i+1,by rw[jQ _ b.1];lia,?_⟩;rw[ZM _ b.1 _ _ (by lia),bq (by lia),bq (by lia),Rv]
theorem zja (a:Nat)(owner:Array (Option Nat)):∀(f i p:Nat),SetTable.layClean.free a owner f i p=(walk a f i p).find? λj=>(owner.getD j (some 0)).isNone
 | 0,_,_=>rfl
 | f+1,i,p=>by
  rw[SetTable.layClean.free,walk,List.find?_append];unfold run;rw[List.find?_map];have e:((λj=>(owner.getD j (some 0)).isNone)∘λx=>i+x)=λk=>(owner.getD (i+k) (some 0)).isNone:=rfl;rw[e];cases h:(Wh (Vu a i+1-i)).find? λk=>(owner.getD (i+k) (some 0)).isNone with
  | some k=>rfl
  | none =>
   simp only[Option.map_none,Option.none_or];exact zja a owner f _ _
structure Own (mask:Nat)(hs:List Int)(owner:Array (Option Nat))(k:Nat):Prop where
 sz:owner.size=mask+1
 few:(owner.toList.countP λo=>o.isNone)+k=mask+1
 at_:∀i,i<k->∃j:Nat,owner[j]?=some (some i)/\∃n:Nat,(walk mask (W9 mask) (XF (hs.getD i 0)%(mask+1)) (XF (hs.getD i 0)))[n]?=some j/\∀m:Nat,m<n->∀j':Nat,(walk mask (W9 mask) (XF (hs.getD i 0)%(mask+1)) (XF (hs.getD i 0)))[m]?=some j'->∃o,owner[j']?=some (some o)
 lt:∀j i:Nat,owner[j]?=some (some i)->i<k
 inj:∀j j' i:Nat,owner[j]?=some (some i)->owner[j']?=some (some i)->j=j'
def Own.nil (a:Nat)(b:List Int):Own a b (Array.replicate (a+1) none) 0:=by
 refine⟨by simp,by rw[Array.toList_replicate,List.countP_replicate];rfl,λi h=>absurd h (TV _),λj i h=>?_,λj c i h=>?_⟩
 .rw[PY]at h;split at h<;>cases h
 .rw[PY]at h;split at h<;>cases h
def count_set {l:List (Option Nat)}:∀{j:Nat} (k:Nat),l[j]?=some none->(l.set j (some k)).countP (λo=>o.isNone)+1=l.countP λo=>o.isNone:=by
 induction l with
 | nil=>exact λ_ h=>by simp at h
 | cons o r a =>
  intro j k h;cases j with
  | zero =>
   have:o=none:=by simpa using h
   subst this;simp[V5]
  | succ j =>
   have:=a k (by simpa using h);rw[List.set_cons_succ,V5,V5];lia
def zkb {l:List (Option Nat)}(h:0<l.countP λo=>o.isNone):∃j:Nat,l[j]?=some none:=by
 obtain⟨o,c,b⟩:=Ov.mp h;obtain⟨j,a⟩:=O5.mp c;refine⟨j,?_⟩;rw[a];cases o with
 | none=>rfl
 | some _=>cases b
def getD_none {owner:Array (Option Nat)}{j:Nat}:(owner.getD j (some 0)).isNone=true↔owner[j]?=some none:=by
 by_cases h:j<owner.size
 .have e:owner[j]?=some (owner.getD j (some 0)):=by simp[Array.getD,h]
  rw[e];cases owner.getD j (some 0)<;>simp
 .have e:owner.getD j (some 0)=some 0:=by simp[Array.getD,h]
  rw[e,WI (by lia)];simp
theorem zfz (a:Nat):∀(f i p:Nat),i<a+1->∀j∈walk a f i p,j<a+1
 | 0,_,_,_,_,h=>nomatch h
 | f+1,i,p,c,j,h=>by
  rw[walk]at h;rcases XO.mp h with h | h
  .unfold run at h;obtain⟨k,hk,rfl⟩:=XA.mp h;have b:=VH.mp hk;have:Vu a i<=a:=by
    unfold Vu;split<;>lia
   lia
  .exact zfz a f _ _ (RE _ (SH _)) j h
def Own.step {d:Nat}(J:d=7\/d=31\/d=127){g:List Int}{owner:Array (Option Nat)}{k:Nat}(O:Own d g owner k)(hk:k<d+1):∃j,SetTable.layClean.free d owner (W9 d) (XF (g.getD k 0)%(d+1)) (XF (g.getD k 0))=some j/\Own d g (owner.setIfInBounds j (some k)) (k+1):=by
 obtain⟨e,he⟩:=zkb (l:=owner.toList) (by have:=O.few;lia);rw[Xy]at he;have I:e<owner.size:=by
  rcases SJ e owner.size with q | q
  .exact q
  .rw[WI q]at he;cases he
 have M:=zgE J (g.getD k 0) (e:=e) (by have:=O.sz;lia);rw[zja];cases A:(walk d (W9 d) (XF (g.getD k 0)%(d+1)) (XF (g.getD k 0))).find? λj=>(owner.getD j (some 0)).isNone with
 | none =>
  have:=List.find?_eq_none.mp A e M;exact absurd (getD_none.mpr he) this
 | some j =>
  refine⟨j,rfl,?_⟩;have y:owner[j]?=some none:=getD_none.mp (List.find?_some (p:=λj=>(owner.getD j (some 0)).isNone) A);have D:j<owner.size:=by
   rcases SJ j owner.size with q | q
   .exact q
   .rw[WI q]at y;cases y
  have get:∀i:Nat,(owner.setIfInBounds j (some k))[i]?=if j=i then some (some k) else owner[i]?:=λi=>by
   rw[UY];by_cases h:j=i
   .rw[bw h,bw h];simp[D]
   .rw[bq h,bq h]
  have keep:∀(i o:Nat),owner[i]?=some (some o)->(owner.setIfInBounds j (some k))[i]?=some (some o):=λi o h=>by
   rw[get,bq (λz=>by rw[<- z,y]at h;cases h)];exact h
  refine⟨by rw[S6];exact O.sz,?_,λi Q=>?_,λr i h=>?_,λG H i h1 h2=>?_⟩
  .rw[Rp];have:=count_set (l:=owner.toList) (j:=j) k (by rw[Xy];exact y);have:=O.few;lia
  .by_cases B:i=k
   .subst B;refine⟨j,by rw[get,bw rfl],?_⟩;obtain⟨_,as,bs,u,L⟩:=List.find?_eq_some_iff_append.mp A;refine⟨as.length,by rw[u];simp,λm v r f=>?_⟩;rw[u,VY v]at f;have s:=X7 f;have x:=L r s;have E:r∈walk d (W9 d) (XF (g.getD i 0)%(d+1)) (XF (g.getD i 0)):=by
     rw[u];exact W2 _ s
    cases w:owner[r]? with
    | none =>
     have:=zfz d (W9 d) _ _ (RE _ (SH _)) r E;rw[V4.mpr ⟨by rw[O.sz];exact this,rfl⟩]at w;cases w
    | some o =>
     cases o with
     | none =>
      rw[getD_none.mpr w]at x;cases x
     | some o=>exact⟨o,keep r o w⟩
   .obtain⟨N,a,n,b,c⟩:=O.at_ i (by lia);refine⟨N,keep _ _ a,n,b,λm v r f=>?_⟩;obtain⟨o,w⟩:=c m v r f;exact⟨o,keep _ _ w⟩
  .rw[get]at h;split at h
   .have:k=i:=by simpa using h
    lia
   .have:=O.lt r i h;lia
  .rw[get]at h1 h2;split at h1<;>split at h2
   .lia
   .have:k=i:=by simpa using h1
    have:=O.lt H i h2;lia
   .have:k=i:=by simpa using h2
    have:=O.lt G i h1;lia
   .exact O.inj G H i h1 h2
theorem zgF {a:Nat}(g:a=7\/a=31\/a=127)(c:List Int)(o:c.length<=a+1):∀(l done:List Int) (owner:Array (Option Nat)),c=done++l->Own a c owner done.length ->
  ∃b,l.foldl (λ(acc:Option (Array (Option Nat)×Nat)) h=>do
   let (owner,k) <- acc
   let j <- SetTable.layClean.free a owner (W9 a) (XF h%(a+1)) (XF h)
   pure (owner.setIfInBounds j (some k),k+1)) (some (owner,done.length))=some (b,c.length)/\Own a c b c.length
 | [],done,owner,e,O=>by
  rw[WX]at e;subst e;exact⟨owner,rfl,O⟩
 | h::r,done,owner,e,O=>by
  have n:c.getD done.length 0=h:=by
   rw[e];simp[List.getD]
  have d:done.length<a+1:=by
   have:c.length=done.length+(r.length+1):=by rw[e,XR,Xk]
   lia
  obtain⟨j,f,i⟩:=O.step g d;rw[n]at f;obtain⟨b,h1,h2⟩:=zgF g c o r (done++[h]) (owner.setIfInBounds j (some done.length)) (by rw[e,WY];rfl) (by rw[XR];exact i);refine⟨b,?_,h2⟩;rw[XR]at h1;rw[V7];have m:(do
   let (owner,k) <- (some (owner,done.length):Option (Array (Option Nat)×Nat))
   let j <- SetTable.layClean.free a owner (W9 a) (XF h%(a+1)) (XF h)
   pure (owner.setIfInBounds j (some k),k+1))=some (owner.setIfInBounds j (some done.length),done.length+1):=by
   show (SetTable.layClean.free a owner (W9 a) (XF h%(a+1)) (XF h)).bind _=_;rw[f];rfl
  rw[m];exact h1
def zqj {b:Nat}(d:b=7\/b=31\/b=127)(a:Array Int)(c:a.size<=b+1):∃owner,SetTable.layClean b a=some owner/\Own b a.toList owner a.size:=by
 obtain⟨owner,h1,h2⟩:=zgF d a.toList (by rw[X6];exact c) a.toList [] _ rfl (Own.nil b _);rw[X6]at h1 h2;refine⟨owner,?_,h2⟩;unfold SetTable.layClean;rw[<- Array.foldl_toList];exact congrArg (Option.map (·.1)) h1
def qZ (a:Nat)(owner:Array (Option Nat)):AD:=(Wh (a+1)).filterMap λj=>(owner.getD j none).map (j,·)
def JS {c:Nat}{owner:Array (Option Nat)}(sz:owner.size=c+1){j i:Nat}:(j,i)∈qZ c owner↔owner[j]?=some (some i):=by
 unfold qZ;rw[Vd];constructor
 .rintro⟨a,ha,h⟩;have d:a<owner.size:=by rw[sz];exact VH.mp ha
  have e:owner[a]?=some (owner.getD a none):=by simp[Array.getD,d]
  cases ho:owner.getD a none with
  | none =>
   rw[ho]at h;cases h
  | some b =>
   rw[ho]at h;have f:(a,b)=(j,i):=Option.some.inj h;cases f;rw[e,ho]
 .intro h;have d:j<owner.size:=by
   rcases SJ j owner.size with q | q
   .exact q
   .rw[WI q]at h;cases h
  have e:owner[j]?=some (owner.getD j none):=by simp[Array.getD,d]
  refine⟨j,VH.mpr (by rw[<- sz];exact d),?_⟩;rw[e]at h;rw[Option.some.inj h];rfl
def zjb (c:Nat)(owner:Array (Option Nat)):(qZ c owner).Pairwise λa b=>a.1<b.1:=by
 unfold qZ;rw[List.pairwise_filterMap];refine List.pairwise_lt_range.imp λ{a b} f x d y e=>?_;cases h1:owner.getD a none with
 | none=>rw[h1]at d;cases d
 | some p =>
  cases h2:owner.getD b none with
  | none=>rw[h2]at e;cases e
  | some q =>
   rw[h1]at d;rw[h2]at e;have g:(a,p)=x:=Option.some.inj d;have h:(b,q)=y:=Option.some.inj e;rw[<- g,<- h];exact f
def zkc {c:Nat}{s:List Int}{owner:Array (Option Nat)}{k:Nat}(O:Own c s owner k):((qZ c owner).map (·.2)).Perm (Wh k):=by
 have u:((qZ c owner).map (·.2)).Nodup:=by
  refine V1.mpr ((zjb c owner).imp_of_mem λ{a b} o p d e=>?_);obtain⟨f,g⟩:=a;obtain⟨h,m⟩:=b;have n:g=m:=e;subst n;have:=O.inj f h g ((JS O.sz).mp o) ((JS O.sz).mp p);have l:f<h:=d;lia
 refine(V3 u List.nodup_range).mpr λi=>?_;rw[VH,XA];constructor
 .rintro⟨⟨j,i'⟩,hm,rfl⟩;exact O.lt j _ ((JS O.sz).mp hm)
 .intro q;obtain⟨j,r,_⟩:=O.at_ i q;exact⟨(j,i),(JS O.sz).mpr r,rfl⟩
def znU {mask:Nat}(G:mask=7\/mask=31\/mask=127)(finger moves:Nat)(led plain:Bool)(e:Array Int)(E:e.size<=mask+1):∃place f,SetTable.laid mask finger moves led plain e=some ({ mask:=mask,place:=place,dummies:=#[],finger:=finger,led:=led,moves:=moves,plain:=plain },f) /\
  Up place/\place.size=e.size/\f.size=e.size/\f.toList.Perm (Wh e.size)/\(∀i,i<place.size->place.getD i 0<mask+1) /\
  ∀i,i<place.size->Reach { mask:=mask,place:=place,dummies:=#[],finger:=finger,led:=led,moves:=moves,plain:=plain } (e.toList.getD (f.getD i 0) 0) (place.getD i 0):=by
 obtain⟨d,h1,O⟩:=zqj G e E;have perm:=zkc O;have up:=zjb mask d;have z:(qZ mask d).length=e.size:=by
  have:=perm.length_eq;rw[X9,Wc]at this;exact this
 have p:∀i (h:i<(qZ mask d).length),((qZ mask d).map (·.1)).toArray.getD i 0=((qZ mask d)[i]).1:=λi h=>by
  simp[Array.getD,h]
 have H:∀i (h:i<(qZ mask d).length),((qZ mask d).map (·.2)).toArray.getD i 0=((qZ mask d)[i]).2:=λi h=>by
  simp[Array.getD,h]
 refine⟨((qZ mask d).map (·.1)).toArray,((qZ mask d).map (·.2)).toArray,?_,λi j s D=>?_,by simp[z],by simp[z],perm,λi r=>?_,λi r=>?_⟩
 .unfold SetTable.laid;rw[h1];rfl
 .have m:j<(qZ mask d).length:=by simpa using D
  rw[p i (by lia),p j m];exact Vj.mp up i j (by lia) m s
 .have g:i<(qZ mask d).length:=by simpa using r
  rw[p i g];have l:=UP g;have:=(JS O.sz (j:=(qZ mask d)[i].1) (i:=(qZ mask d)[i].2)).mp l;rw[<- O.sz];rcases SJ (qZ mask d)[i].1 d.size with q | q
  .exact q
  .rw[WI q]at this;cases this
 .have g:i<(qZ mask d).length:=by simpa using r
  rw[p i g,H i g];have l:=UP g;have v:=(JS O.sz (j:=(qZ mask d)[i].1) (i:=(qZ mask d)[i].2)).mp l;obtain⟨I,a,n,b,c⟩:=O.at_ _ (O.lt _ _ v);have A:=O.inj _ _ _ a v;rw[A]at b;refine⟨n,b,λk hk y m=>?_⟩;obtain⟨o,u⟩:=c k hk y m;obtain⟨x,w,B⟩:=Tf ((JS O.sz).mpr u);refine⟨x,by simpa using w,?_⟩;show ((qZ mask d).map (·.1)).toArray.getD x 0=y;rw[p x w,B]
structure Good (t:Wt)(hs:Array Int):Prop where
 mask:t.mask=7\/t.mask=31\/t.mask=127
 sz:t.place.size=hs.size
 dum:t.dummies=#[]
 up:Up t.place
 le:∀i,i<t.place.size->t.place.getD i 0<t.mask+1
 room:t.place.size*5<t.mask*3
 reach:∀i,i<t.place.size->Reach t (hs.toList.getD i 0) (t.place.getD i 0)
def Good.free {t:Wt}{r:Array Int}(G:Good t r):∃e,e<t.mask+1/\∀i,i<t.place.size->t.place.getD i 0≠e:=by
 refine Ro λp=>?_;have all:∀e,e<t.mask+1->∃i,i<t.place.size/\t.place.getD i 0=e:=λe he=>Ro λh2=>p ⟨e,he,λi c z=>h2 ⟨i,c,z⟩⟩;have y:=G.room;have f:∀e,e<t.mask+1->∃i,i<t.place.size/\e<=i:=λe=>by
  induction e with
  | zero=>exact λh=>let ⟨i,c,_⟩:=all 0 h;⟨i,c,WZ _⟩
  | succ e B =>
   intro h;obtain⟨i,c,n⟩:=all (e+1) h;obtain⟨A,o,j⟩:=all e (by lia);have cnt:∀d,d<=e+1->∃i,i<t.place.size/\t.place.getD i 0=d/\d<=i:=λd=>by
    induction d with
    | zero=>exact λ_=>let ⟨i,c,he⟩:=all 0 (by lia);⟨i,c,he,WZ _⟩
    | succ d g =>
     intro w;obtain⟨a,l,v,D⟩:=g (by lia);obtain⟨b,m,k⟩:=all (d+1) (by lia);have:a<b:=by
      rcases Ra a b with q | q | q
      .exact q
      .subst q;lia
      .have:=G.up b a q l;lia
     exact⟨b,m,k,by lia⟩
   obtain⟨x,s,_,u⟩:=cnt (e+1) (XX _);exact⟨x,s,u⟩
 obtain⟨i,c,E⟩:=f t.mask (by lia);lia
def Good.found {t:Wt}{a:Array Int}(G:Good t a)(Vq:Nat->Int)(f:∀i,i<a.size->Vq i=a.toList.getD i 0)(j:a.toList.Nodup){i:Nat}(c:i<a.size):∃l,t.probe Vq (a.toList.getD i 0) (t.probeStart (a.toList.getD i 0))=some (.candidate (t.place.getD i 0) i l):=by
 have d:∀k (h:k<a.size),a.toList.getD k 0=a.toList[k]'(by rw[X6];exact h):=λk h=>by
  rw[WS,X2 (by rw[X6];exact h)];rfl
 refine zgC G.up Vq (by rw[G.sz];exact c) (f i c) (λg b e=>?_) (G.reach i (by rw[G.sz];exact c));rw[G.sz]at b;rw[f g b,d g b,d i c]at e;exact(List.getElem_inj j).mp e
def Good.missed {t:Wt}{b:Array Int}(G:Good t b)(Vq:Nat->Int)(g:∀i,i<b.size->Vq i=b.toList.getD i 0){h:Int}(l:h ∉ b.toList):∃j,t.probe Vq h (t.probeStart h)=some (.empty j none)/\j<t.mask+1/\(∀i,i<t.place.size->t.place.getD i 0≠j)/\Reach t h j:=by
 obtain⟨e,he,k⟩:=G.free;have c:∀i,i<t.place.size->Vq i≠h:=λi a z=>by
  rw[G.sz]at a;rw[g i a,WS,X2 (by rw[X6];exact a)]at z;have m:b.toList[i]'(by rw[X6];exact a)=h:=z;exact l (m ▸ UP _)
 obtain⟨j,h1,h2,d,f⟩:=zfy G.up G.dum Vq (h:=h) c k (zgE G.mask h he);refine⟨j,h1,zfz _ _ _ _ (RE _ (SH _)) j f,λi a z=>?_,d⟩;rw[<- z,ZK G.up a]at h2;cases h2
theorem Good.put {t:Wt}{c:Array Int}(G:Good t c){h:Int}{j:Nat}(o:j<t.mask+1)(he:∀i,i<t.place.size->t.place.getD i 0≠j)(R:Reach t h j)(e:(t.place.size+1)*5<t.mask*3):Good (t.put j).1 (Xi c (t.put j).2 h):=by
 obtain⟨n,m,U⟩:=zlE G.up G.dum he;have b:=ZJ G.up j;rw[n,m];have bs:Xq t.place j<=c.size:=by rw[<- G.sz];exact b.1
 have d:∀i,(Xi c (Xq t.place j) h).toList.getD i 0=if i<Xq t.place j then c.toList.getD i 0 else if i=Xq t.place j then h else c.toList.getD (i-1) 0:=λi=>by
  rw[WS,Xy,zlD c bs];split
  .rw[WS,Xy]
  .split
   .rfl
   .rw[WS,Xy]
 have more:∀{g:Int} {k:Nat},Reach t g k->Reach { t with place:=Xi t.place (Xq t.place j) j } g k:=λl=>Reach.more (t:=t) (t':={ t with place:=Xi t.place (Xq t.place j) j }) rfl (zlF G.up j) l;refine⟨G.mask,?_,G.dum,U,λi f=>?_,?_,λi f=>?_⟩
 .show (Xi t.place _ j).size=_;rw[jQ _ b.1,jQ _ bs,G.sz]
 .have a:i<t.place.size+1:=by
   have:=f;rw[show ({ t with place:=Xi t.place (Xq t.place j) j }:Wt).place=Xi t.place (Xq t.place j) j from rfl,jQ _ b.1]at this;exact this
  show (Xi t.place _ j).getD i 0<t.mask+1;rw[ZM _ b.1 _ _ a];split
  .exact G.le i (by lia)
  .split
   .exact o
   .exact G.le (i-1) (by lia)
 .show (Xi t.place _ j).size*5<t.mask*3;rw[jQ _ b.1];exact e
 .have a:i<t.place.size+1:=by
   have:=f;rw[show ({ t with place:=Xi t.place (Xq t.place j) j }:Wt).place=Xi t.place (Xq t.place j) j from rfl,jQ _ b.1]at this;exact this
  show Reach _ _ ((Xi t.place _ j).getD i 0);rw[d,ZM _ b.1 _ _ a];by_cases h1:i<Xq t.place j
  .rw[bw h1,bw h1];exact more (G.reach i (by lia))
  .rw[bq h1,bq h1];by_cases h2:i=Xq t.place j
   .rw[bw h2,bw h2];exact more R
   .rw[bq h2,bq h2];exact more (G.reach (i-1) (by lia))
def zhY (t:Wt)(b:Array Int)(p:b.size=5\/b.size=19):∃t' a,t.relaid b (Uh b.size)=some (t',a)/\a.size=b.size/\a.toList.Perm (Wh b.size)/\t'.led=t.led/\t'.plain=t.plain/\t'.place.size=b.size/\Good t' (a.map λi=>b.toList.getD i 0):=by
 have c:∀mask,(mask=7\/mask=31\/mask=127)->b.size<=mask+1->b.size*5<mask*3->SU (Uh b.size)-1=mask->∃t' a,t.relaid b (Uh b.size)=some (t',a)/\a.size=b.size/\a.toList.Perm (Wh b.size)/\t'.led=t.led/\t'.plain=t.plain/\t'.place.size=b.size/\Good t' (a.map λi=>b.toList.getD i 0):=λmask j o q k=>by
  refine eO (λplace a h1 h2 d g=>eF λl m n=>?_) (znU j t.finger (t.movedTo mask) t.led t.plain b o);refine⟨{ mask:=mask,place:=place,dummies:=#[],finger:=t.finger,led:=t.led,moves:=t.movedTo mask,plain:=t.plain },a,?_,g,l,rfl,rfl,d,j,?_,rfl,h2,m,?_,λi h=>?_⟩
  .unfold SetTable.relaid;rw[k];exact h1
  .show place.size=_;rw[Vn,d,g]
  .show place.size*5<mask*3;rw[d];exact q
  .have f:i<a.size:=by
    have:i<place.size:=h;lia
   have e:(a.map λi=>b.toList.getD i 0).toList.getD i 0=b.toList.getD (a.getD i 0) 0:=by
    rw[WS,Xy,Array.getElem?_map,JR f];rfl
   rw[e];exact n i h
 rcases p with e | e
 .exact c 31 (.inr (.inl rfl)) (by lia) (by lia) (by rw[e];decide+kernel)
 .exact c 127 (.inr (.inr rfl)) (by lia) (by lia) (by rw[e];decide+kernel)
def qy (a:Array (Int×Y1))(ep:Nat)(t:Wt):Obj:={ cls:=.type "set",dict:=none,data:=.set a ep t }
def kP (p:Int×Int):List Key:=[.inl p.1,.inl p.2]
def InB (p:Int×Int):Prop:=(0<=p.1/\p.1<8)/\(0<=p.2/\p.2<8)
def hP (prog:Xr)(w:Xe)(p:Int×Int):Int:=(tk2 prog w).hash (kP p)
section
variable {prog:Xr}{w:Xe}{A:W1}{E:Y1->X8->Prop}{s:X8}{a:Addr}{es:Array (Int×Y1)}{ep:Nat}{t:Wt}
def zqk {p q:Int×Int}(x:InB p)(y:InB q)(e:hP prog w p=hP prog w q):p=q:=by
 obtain⟨a,b⟩:=p;obtain⟨f,g⟩:=q;obtain⟨⟨h,m⟩,n,o⟩:=x;obtain⟨⟨r,s⟩,u,v⟩:=y;simp only at h m n o r s u v;obtain⟨i,rfl⟩:∃i:Nat,a=i:=⟨a.toNat,by lia⟩;obtain⟨j,rfl⟩:∃i:Nat,b=i:=⟨b.toNat,by lia⟩;obtain⟨k,rfl⟩:∃i:Nat,f=i:=⟨f.toNat,by lia⟩;obtain⟨l,rfl⟩:∃i:Nat,g=i:=⟨g.toNat,by lia⟩;unfold hP kP at e;rw[zaJ,zaJ]at e;obtain⟨c,d⟩:=zlA (by lia) (by lia) (by lia) (by lia) e;rw[c,d]
def JT {h:Heap}{x:Addr}{p:Int×Int}(h1:zF h (.ref x) p):(tk2 prog w).is h (kP p) x:=by
 obtain⟨b,o,n,t,u,e,a,c,d⟩:=h1;cases e;exact⟨o,#[.int p.1 t,.int p.2 u],n,a,c,d,.cons (zbl p.1 t) (.cons (zbl p.2 u) .nil)⟩
theorem Good.fits {a:Array Int}(G:Good t a):t.fits a.size=true:=by
 have h1:=G.sz;have h2:=G.room;unfold SetTable.fits Om;rw[G.dum,h1];simp;lia
def Good.odd {a:Array Int}(G:Good t a):t.gaveWay=false:=by
 unfold SetTable.gaveWay;rcases G.mask with e | e | e<;>rw[e]<;>rfl
def xZ {Q:Array (Int×Y1)×Nat×Wt->X8->Prop}(b:s.heap.get? a=some (qy es ep t))(G:Good t (es.map (·.1)))(q:Q (es,ep,t) s):Xu (Xw prog w) A (setState a) Q E s:=by
 refine Sy b rfl ?_ q;have:=G.fits;rwa [Vn]at this
def zfA (i:Nat)(a:i<(es.map (·.1)).size):(es[i]?.map (·.1)).getD 0=(es.map (·.1)).toList.getD i 0:=by
 rw[WS,Xy,Array.getElem?_map]
def zd8 {n:Nat}{h:Int}{x:Y1}{Q:SetFound->X8->Prop}(g:s.heap.get? a=some (qy es ep t))(G:Good t (es.map (·.1)))(k:h ∉ (es.map (·.1)).toList)
  (d:∀j,j<t.mask+1->(∀i,i<t.place.size->t.place.getD i 0≠j)->Reach t h j->Q (.free j false) s):Xu (Xw prog w) A (P7 a x h true (n+1) none) Q E s:=by
 obtain⟨j,e,h1,h2,c⟩:=G.missed (λi=>(es[i]?.map (·.1)).getD 0) zfA k;rw[P7];refine ZB (xZ g G ?_);dsimp only;rw[G.odd,bq XS];generalize f:t.probe _ h _=m;have b:m=some (.empty j none):=f.symm.trans e;subst b;exact XT (d j h1 h2 c)
def zeH {d:Nat}{x:Addr}{p:Int×Int}{Q:Bool->X8->Prop}(z:zF s.heap (.ref x) p)(q:Q false s):Xu (Xw prog w) A (Sx 8 (.ref x)) Q E s:=by
 obtain⟨b,o,n,t,u,e,j,l,m⟩:=z;cases e;have y:s.TypeIs (.ref x) "tuple":=⟨o,j,l⟩;unfold Sx;refine ZB (Pq y ?_);dsimp only;rw[bw (by decide)];refine ZB (XT ?_);rw[bq (by decide)];refine ZB (wpAny_seqItems j m ?_);dsimp only;refine ZB ?_;rw[<- Array.forIn_toList];refine PJ _ (λc r h=>r.1=none/\h=s/\∀v∈c,∃i t,v=Vl i t) _ ?_ ?_ _ _ ⟨rfl,rfl,λv k=>?_⟩
 .rintro v c r h ⟨f,rfl,a⟩;obtain⟨i,t,rfl⟩:=a v XV;rw[show Sx 7 (Vl i t)=pure false by unfold Sx;rfl];refine ZB (XT ?_);rw[bq XS];exact XT ⟨rfl,rfl,λu g=>a u (XW _ g)⟩
 .rintro⟨r1,r2⟩ h ⟨f,rfl,_⟩;simp only at f;subst f;exact XT q
 .simp at k;rcases k with rfl | rfl
  .exact⟨_,_,rfl⟩
  .exact⟨_,_,rfl⟩
def zlG {x:Addr}{p:Int×Int}{l:List Y1}{Q:Bool->X8->Prop}(i:zF s.heap (.ref x) p)(j:∀v∈l,∃b q,v=.ref b/\zF s.heap (.ref b) q)(q:Q false s):Xu (Xw prog w) A (searchCouldBeSeen (.ref x) l) Q E s:=by
 unfold searchCouldBeSeen;refine ZB ?_;refine PJ _ (λc r g=>r.1=none/\g=s/\∀v∈c,∃b q,v=.ref b/\zF s.heap (.ref b) q) _ ?_ ?_ _ _ ⟨rfl,rfl,j⟩
 .rintro v c r g ⟨f,rfl,a⟩;obtain⟨b,k,rfl,h⟩:=a v XV;dsimp only;split
  .exact XT ⟨rfl,rfl,λu e=>a u (XW _ e)⟩
  .refine ZB ((tk2 prog w).quiet (JT i) ?_);rw[bq (by decide)];refine ZB ((tk2 prog w).quiet (JT h) ?_);rw[bq (by decide)];refine ZB (zeH (d:=0) i ?_);rw[bq XS];refine ZB (zeH (d:=0) h ?_);rw[bq XS];exact XT ⟨rfl,rfl,λu e=>a u (XW _ e)⟩
 .rintro⟨r1,r2⟩ g ⟨f,rfl,_⟩;simp only at f;subst f;exact XT q
def zlH {x:Addr}{p:Int×Int}{Q:Bool->X8->Prop}(y:zF s.heap (.ref x) p)(q:Q true s):Xu (Xw prog w) A (OV 8 (.ref x)) Q E s:=by
 obtain⟨b,o,n,t,u,e,h,k,l⟩:=y;cases e;have m:s.TypeIs (.ref x) "tuple":=⟨o,h,k⟩;unfold OV;refine ZB (Pd m PySem.F.slot_tuple_hash.lookup ?_);dsimp only;refine ZB (wpAny_seqItems h l ?_);dsimp only[Option.getD];refine ZB ?_;rw[<- Array.forIn_toList];refine PJ _ (λc r g=>r.1=none/\g=s/\∀v∈c,∃i t,v=Vl i t) _ ?_ ?_ _ _ ⟨rfl,rfl,λv j=>?_⟩
 .rintro v c r g ⟨d,rfl,a⟩;obtain⟨i,t,rfl⟩:=a v XV;rw[show OV 7 (Vl i t)=pure true by unfold OV;rfl];refine ZB (XT ?_);rw[bq (by decide)];exact XT ⟨rfl,rfl,λu f=>a u (XW _ f)⟩
 .rintro⟨r1,r2⟩ g ⟨d,rfl,_⟩;simp only at d;subst d;exact XT q
 .simp at j;rcases j with rfl | rfl
  .exact⟨_,_,rfl⟩
  .exact⟨_,_,rfl⟩
def zfB {n:Nat}{h:Int}{x b:Addr}{p:Int×Int}{i:Nat}{Q:SetFound->X8->Prop}(l:A.units<U7)(f:s.heap.get? a=some (qy es ep t))(G:Good t (es.map (·.1)))(z:(es.map (·.1)).toList.Nodup)
  (all:∀e∈es.toList,∃b q,e.2=WN b/\zF s.heap (.ref b) q) (d:es[i]?=some (h,.ref b)) (g:zF s.heap (.ref x) p) (k:zF s.heap (.ref b) p)
  (j:Q (.there none) s):Xu (Xw prog w) A (P7 a (.ref x) h true (n+1) none) Q E s:=by
 have c:i<(es.map (·.1)).size:=by
  rw[Vn];exact(V4.mp d).1
 have o:(es.map (·.1)).toList.getD i 0=h:=by
  rw[<- zfA i c,d];rfl
 obtain⟨B,e⟩:=G.found (λi=>(es[i]?.map (·.1)).getD 0) zfA z c;rw[o]at e;rw[P7];refine ZB (xZ f G ?_);dsimp only;rw[G.odd,bq XS];generalize u:t.probe _ h _=m;have r:m=some (.candidate (t.place.getD i 0) i B):=u.symm.trans e;subst r;dsimp only;have seen:∀v∈(es.filter (·.1==h)).toList.map (·.2),∃b q,v=WN b/\zF s.heap (.ref b) q:=λv y=>by
  obtain⟨e,he,rfl⟩:=XA.mp y;rw[Array.toList_filter]at he;exact all e (XQ.mp he).1
 rw[d];cases hl:t.led with
 | true =>
  rw[bq (by decide)];refine ZB (WA ((tk2 prog w).eqBool l (JT k) (JT g) ?_));refine ZB (xZ f G ?_);dsimp only;rw[br rfl,bw (by decide)];exact XT j
 | false =>
  rw[bw (by decide)];refine ZB (zlG g seen ?_);rw[bq XS];refine ZB (WA ((tk2 prog w).eqBool l (JT k) (JT g) ?_));refine ZB (xZ f G ?_);dsimp only;rw[br rfl,bw (by decide)];exact XT j
end
def zc5 (f:Int×Int->Int)(q:Addr×(Int×Int)):Int×Y1:=(f q.2,WN q.1)
structure zd9 (f:Int×Int->Int)(led:Bool)(h:Heap)(a:Addr)(ks:List (Addr×(Int×Int))):Prop where
 ex:∃es ep t,h.get? a=some (qy es ep t)/\es.toList=ks.map (zc5 f)/\Good t (es.map (·.1))/\t.led=led/\t.plain=true
 nd:(ks.map (·.2)).Nodup
 cells:∀q∈ks,zF h (.ref q.1) q.2
 inb:∀q∈ks,InB q.2
def zF.up {h h':Heap}{x:Addr}{p:Int×Int}(H:zF h (.ref x) p){a:Addr}(j:VU a h h'){o:Obj}(i:h.get? a=some o)(g:o.cls=.type "set"):zF h' (.ref x) p:=by
 obtain⟨b,k,n,t,u,e,c,d,f⟩:=H;cases e;refine⟨x,k,n,t,u,rfl,?_,d,f⟩;rw[j.2 x λz=>?_]
 .exact c
 .subst z;rw[i]at c;cases c;rw[g]at d;exact absurd d (by decide)
section
variable {prog:Xr}{w:Xe}{A:W1}{E:Y1->X8->Prop}{s:X8}{a:Addr}{es:Array (Int×Y1)}{ep:Nat}{t:Wt}{ks:List (Addr×(Int×Int))}{f:Int×Int->Int}{led:Bool}
def Yu (he:es.toList=ks.map (zc5 f)):(es.map (·.1)).toList=ks.map λq=>f q.2:=by
 rw[UO,he,Ws];rfl
def zkd (inj:∀p q,InB p->InB q->f p=f q->p=q)(b:(ks.map (·.2)).Nodup)(a:∀q∈ks,InB q.2):(ks.map λq=>f q.2).Nodup:=by
 rw[W6,V1]at b ⊢;refine b.imp_of_mem λ{x y} c d h e=>h (inj _ _ (a x c) (a y d) e)
def zgG {b:Array (Int×Y1)}{t':Wt}{Q:Unit->X8->Prop}(c:s.heap.get? a=some (qy es ep t))(d:b.size<=64)
  (q:∀h',VU a s.heap h'->h'.get? a=some (qy b (ep+1) t')->Q () { s with heap:=h' }):Xu (Xw prog w) A (storeSet a b t') Q E s:=by
 refine wpAny_storeSet_of (o:=qy es ep t) c rfl (q _ (Uq ..) ?_) (X0 d (by rw[SO];decide));have:=Wm (Obj.putSet b t') c (by rw[putSet_of b t' (o:=qy es ep t) rfl];rfl);rw[putSet_of b t' (o:=qy es ep t) rfl]at this;exact this
theorem zgH {α:Type}(d:α)(xs:Array α):∀(l:List Nat),(∀i∈l,i<xs.size)->l.filterMap (λi=>xs[i]?)=l.map λi=>xs.toList.getD i d
 | [],_=>rfl
 | i::l,h=>by
  have a:=h i XV;rw[UW,Xh,Vi a];dsimp only;rw[zgH d xs l λj b=>h j (XW _ b)];congr 1;rw[WS,Xy,Vi a];rfl
def zfC {n:Nat}(a:n=5\/n=19):¬ SU (Uh n)>Xz:=by
 rw[SO];rcases a with rfl | rfl
 .rw[show SU (Uh 5)=32 by decide+kernel];lia
 .rw[show SU (Uh 19)=128 by decide+kernel];lia
def zlI {Q:Unit->X8->Prop}(v:s.heap.get? a=some (qy es ep t))(G:t.fits es.size=true)(u:es.size=5\/es.size=19)(he:es.toList=ks.map (zc5 f))
  (q:∀(h':Heap) (c:Array (Int×Y1)) (t':Wt) (k:List (Addr×(Int×Int))),VU a s.heap h'->h'.get? a=some (qy c (ep+1) t')->c.toList=k.map (zc5 f)->k.Perm ks->Good t' (c.map (·.1))->t'.led=t.led->t'.plain=t.plain->Q () { s with heap:=h' }):Xu (Xw prog w) A (setRelay a (Uh es.size)) Q E s:=by
 have j:(es.map (·.1)).size=es.size:=Vn ..;obtain⟨t',b,p,r,l,x,y,z,B⟩:=zhY t (es.map (·.1)) (by rw[j];exact u);rw[j]at p r l z;have d:∀i∈b.toList,i<es.size:=λi h=>VH.mp (l.mem_iff.mp h);have n:ks.length=es.size:=by
  rw[<- X6,he,X9]
 have e:Addr×(Int×Int):=(0,(0,0));have m:(b.filterMap (es[·]?)).toList=(b.toList.map λi=>ks.getD i e).map (zc5 f):=by
  rw[Array.toList_filterMap,zgH (zc5 f e) es b.toList d,Ws];refine Xc λi h=>?_;have h1:=d i h;show es.toList.getD i _=zc5 f (ks.getD i e);rw[he,WS,Xo,WS,X2 (by lia),TX,Tl,Tl]
 have g:(b.filterMap (es[·]?)).size=es.size:=by
  rw[<- X6,m,X9,X9,X6,r]
 unfold setRelay;refine ZB (Sy (o:=qy es ep t) v rfl G ?_);dsimp only;rw[bq (zfC u),p];refine ZB ?_;show Xu (Xw prog w) A (do
  let c:=b.filterMap (es[·]?)
  if c.size != es.size then NS "internal:set-table-lost-an-element"
  pure (c,t')) _ _ _
 dsimp only;rw[g,bq (by simp)];refine XT ?_;dsimp only;refine zgG v (by rw[g];lia) λh' h1 h2=>q h' _ t' _ h1 h2 m ?_ ?_ x y
 .have:=l.map λi=>ks.getD i e;rw[<- n,zhS]at this;exact this
 .have D:(b.filterMap (es[·]?)).map (·.1)=b.map λi=>(es.map (·.1)).toList.getD i 0:=by
   apply Array.toList_inj.mp;rw[Yu m,UO,Ws];refine Xc λi h=>?_;have h1:=d i h;show f (ks.getD i e).2=_;rw[Yu he,WS,WS,Xo,X2 (by lia),TX,Tl,Tl]
  rw[D];exact B
def zlJ {n:Nat}{x:Addr}{p:Int×Int}{Q:Bool->X8->Prop}(inj:∀p q,InB p->InB q->f p=f q->p=q)(hu:A.units<U7)(S:zd9 f led s.heap a ks)(hx:zF s.heap (.ref x) p)(hb:InB p)(hn:p ∉ ks.map (·.2)->ks.length<63)
  (q:∀(b:Bool) (h':Heap) (d:List (Addr×(Int×Int))),VU a s.heap h'->zd9 f led h' a d->(∀c,c∈d.map (·.2)↔c∈ks.map (·.2)\/c=p)->(∀c∈d,c∈ks\/c=(x,p))->Q b { s with heap:=h' }) :
  Xu (Xw prog w) A (setAddHashedIn a (.ref x) (f p) (n+1)) Q E s:=by
 obtain⟨⟨es,ep,t,I,he,G,hl,hp⟩,nd,hc,H⟩:=S;have aj:ks.length=es.size:=by
  rw[<- X6,he,X9]
 generalize hh:f p=h;rw[setAddHashedIn];refine ZB (xZ I G ?_);dsimp only;rw[show byScan (.ref x) es=false by simp[byScan,Value.scannable],bq XS];by_cases hm:p∈ks.map (·.2)
 .obtain⟨⟨b,p'⟩,hk,e⟩:=XA.mp hm;simp only at e;subst e;obtain⟨i,hi,ei⟩:=Tf hk;have eg:es[i]?=some (h,.ref b):=by
   rw[<- Xy,he,Xo,X2 hi,ei,<- hh];rfl
  unfold setSearch;refine ZB (zfB (n:=99999) hu I G (by rw[Yu he];exact zkd inj nd H) (λe ac=>?_) eg hx (hc _ hk) ?_)
  .rw[he]at ac;obtain⟨c,h1,rfl⟩:=XA.mp ac;exact⟨c.1,c.2,rfl,hc c h1⟩
  .refine XT (q false s.heap ks (Heap.SameBut.refl _ _) ⟨⟨es,ep,t,I,he,G,hl,hp⟩,nd,hc,H⟩ (λc=>⟨.inl,λz=>z.elim id λz=>z ▸ hm⟩) λc h1=>.inl h1)
 .have ah:=hn hm;have no:h ∉ (es.map (·.1)).toList:=λz=>by
   rw[Yu he,<- hh]at z;obtain⟨c,h1,h2⟩:=XA.mp z;exact hm (XA.mpr ⟨c,h1,inj _ _ (H c h1) hb h2⟩)
  unfold setSearch;refine ZB (zd8 (n:=99999) I G no λj h1 h2 h3=>?_);dsimp only;refine ZB (xZ I G ?_);obtain⟨f1,f2,f3⟩:=zlE G.up G.dum h2;have g:t.place.size=es.size:=by rw[G.sz,Vn]
  have bs:Xq t.place j<=es.size:=by
   rw[<- g];exact(ZJ G.up j).1
  generalize ai:Xq t.place j=pos at f1 f2 f3 bs;have o:(t.put j).1.plain=true:=by rw[f2];exact hp
  have B:(t.put j).1.led=led:=by rw[f2];exact hl
  have D:∃y,y=ks.take pos++(x,p)::ks.drop pos:=⟨_,rfl⟩;obtain⟨y,D⟩:=D;have ab:(Xi es pos (h,WN x)).toList=y.map (zc5 f):=by
   rw[Qd,he,D,Xj,Xh,R8,Ol];simp only[zc5,hh]
  have m:(Xi es pos (h,WN x)).size=es.size+1:=jQ _ bs _;have pm:y.Perm ((x,p)::ks):=by
   rw[D];refine List.perm_middle.trans (List.Perm.cons _ ?_);rw[WO]
  have l:(t.put j).1.fits (Xi es pos (h,WN x)).size=true:=by
   have hr:=G.room;have bp:pos<=t.place.size:=by rw[g];exact bs
   rw[m,f2];unfold SetTable.fits Om;simp only[G.dum,jQ _ bp,g];rcases G.mask with e | e | e<;>simp[e]<;>rw[g,e]at hr<;>lia
  have aa:∀(h':Heap) (d:List (Addr×(Int×Int))) (k:Array (Int×Y1)) (L:Nat) (J:Wt),VU a s.heap h'->h'.get? a=some (qy k L J)->k.toList=d.map (zc5 f)->d.Perm ((x,p)::ks)->Good J (k.map (·.1))->J.led=led->J.plain=true->Q true { s with heap:=h' }:=by
   intro h' d k L J hs hg M u hG N U;have Y:∀c,c∈d↔c=(x,p)\/c∈ks:=λc=>by rw[u.mem_iff,XJ]
   refine q true h' d hs ⟨⟨k,L,J,hg,M,hG,N,U⟩,?_,λc r=>?_,λc r=>?_⟩ (λc=>?_) λc r=>(Y c).mp r |>.symm
   .rw[(u.map (·.2)).nodup_iff,Xh,Vv];exact⟨hm,nd⟩
   .rcases(Y c).mp r with rfl | z
    .exact zF.up hx hs I rfl
    .exact zF.up (hc c z) hs I rfl
   .rcases(Y c).mp r with rfl | z
    .exact hb
    .exact H c z
   .rw[(u.map (·.2)).mem_iff,Xh,XJ];exact Or.comm
  have eT:t.put j=((t.put j).1,pos):=by rw[<- f1]
  have fl:(t.put j).1.tooFull=decide ((es.size+1)*5 >= t.mask*3):=by
   have bp:pos<=t.place.size:=by rw[g];exact bs
   rw[f2];unfold SetTable.tooFull Om;simp only[G.dum,jQ _ bp,g];rfl
  have gd:¬ (es.size+1)*5 >= t.mask*3->Good (t.put j).1 ((Xi es pos (h,WN x)).map (·.1)):=λhr=>by
   have:=G.put (h:=h) h1 h2 h3 (by rw[g];lia);rw[f1]at this;have e:(Xi es pos (h,WN x)).map (·.1)=Xi (es.map (·.1)) pos h:=by
    apply Array.toList_inj.mp;rw[UO,Qd,Qd,UO,Xj,Xh,R8,Ol]
   rw[e];exact this
  have v:=G.room;have O:=G.mask;rw[g]at v;dsimp only;rw[eT];dsimp only;generalize t.put j=T at o B l fl gd;obtain⟨t1,p1⟩:=T;dsimp only at o B l fl gd ⊢;rw[o,bw rfl];refine ZB (zlH hx ?_);rw[bw rfl];refine ZB (zgG I (by rw[m];lia) λh' hs hg=>?_);by_cases full:(es.size+1)*5 >= t.mask*3
  .rw[fl,br full,bw (by decide)];rw[<- m];refine ZB (zlI (s:={ s with heap:=h' }) hg l (by rw[m];rcases O with e | e | e<;>rw[e]at full v<;>lia) ab λae k J d ag af M u hG N U=>?_);exact XT (aa ae d k _ J (hs.trans ag) af M (u.trans pm) hG (N.trans B) (U.trans o))
  .rw[fl,bf full,bq (by decide)];exact XT (aa h' y _ _ t1 hs hg ab pm (gd full) B o)
def zlK {x:Addr}{p:Int×Int}{Q:Bool->X8->Prop}(e:A.units<U7)(S:zd9 (hP prog w) led s.heap a ks)(f:zF s.heap (.ref x) p)(h:InB p)(i:p ∉ ks.map (·.2)->ks.length<63)
  (q:∀(b:Bool) (h':Heap) (d:List (Addr×(Int×Int))),VU a s.heap h'->zd9 (hP prog w) led h' a d->(∀c,c∈d.map (·.2)↔c∈ks.map (·.2)\/c=p)->(∀c∈d,c∈ks\/c=(x,p))->Q b { s with heap:=h',toks:=s.toks+3 }) :
  Xu (Xw prog w) A (setAdd a (.ref x)) Q E s:=by
 unfold setAdd;refine WA (ZB ((tk2 prog w).pyHash e (JT f) ?_));show Xu (Xw prog w) A (setAddHashed a (.ref x) (hP prog w p)) Q E { s with toks:=s.toks+3 };unfold setAddHashed;refine WA ?_;exact zlJ (n:=99999) (s:={ s with toks:=s.toks+3 }) (λp q h1 h2 g=>zqk h1 h2 g) e S f h i q
end
theorem zjc {α:Type}(next:Nat->Nat):∀(fuel k:Nat) (left:List α) (a:Array α),left.length=fuel->(pickOrder.go next fuel k left a).toList.Perm (a.toList++left)
 | 0,k,left,a,h=>by
  rw[Ua.mp h,WX];exact List.Perm.refl _
 | fuel+1,k,left,a,h=>by
  have b:next k%left.length<left.length:=RE _ (by lia)
  rw[pickOrder.go,X2 b];dsimp only;refine(zjc next fuel (k+1) _ _ (by rw[List.length_eraseIdx_of_lt b];lia)).trans ?_;rw[Sw,WY];refine Sj _ ?_;have e:left=left.take (next k%left.length)++left[next k%left.length]::left.drop (next k%left.length+1):=by
   rw[<- WF b,WO]
  rw[List.eraseIdx_eq_take_drop_succ];have c:=@List.perm_middle _ left[next k%left.length] (left.take (next k%left.length)) (left.drop (next k%left.length+1));rw[<- e]at c;exact c.symm
def zke {α:Type}(next:Nat->Nat)(xs:Array α):(PQ next xs).toList.Perm xs.toList:=by
 have h:=zjc next xs.size 0 xs.toList #[] (by simp)
 rw[show (#[]:Array α).toList++xs.toList=xs.toList from rfl]at h;exact h
def yF:Slot "set_iterator" "__next__" "set_iterator.__next__" :=
 .of (owner:="set_iterator") (n:="__next__") (by rw[RS,TQ];kernel_rfl) (by decide+kernel) (by decide+kernel) (by decide+kernel) (.inl (by decide+kernel)) (by rw[OP];kernel_rfl)
def zaL:NG table "set_iterator.__next__"=some UD.«set_iterator.__next__»:=entryFor_of_tree (by kernel_rfl)
def zc6:Manifest.owners.lookup (String.ofList ['r','o','t','a','r','e','t','i','_','t','e','s'].reverse)=some Manifest.sig_set_iterator:=by kernel_rfl
def zb1 (a:Y1):argsOk "set_iterator.__next__" ⟨[a],[]⟩:=by
 unfold argsOk;rw[signature?_of (id:="set_iterator.__next__") (n:=['_','_','t','x','e','n','_','_']) (o:=['r','o','t','a','r','e','t','i','_','t','e','s']) (by kernel_rfl) zc6];kernel_rfl
def zfD:NG table "set.__iter__"=some UD.«frozenset.__iter__»:=entryFor_alias (id':="frozenset.__iter__") (by kernel_rfl) rfl (by decide+kernel) (by kernel_rfl)
def zc7 (b i:Nat)(a:Addr)(n ep:Nat):Obj:={ cls:=.type "set_iterator",data:=.fields #[T9 b,T9 i,.ref a,T9 n,T9 ep] }
def slotAt (a:Bool)(t:Wt)(i:Nat):Nat:=if a then 0 else if i=0 then 0 else t.place.getD (i-1) 0+1
def ZN (w:Xe)(a:Addr)(ep:Nat)(b:Array (Int×Y1)):Array (Int×Y1):=if w.params.followText "set-order" then PQ (w.params.setOrder a ep) b else b
def zaM (w:Xe)(a:Addr)(ep:Nat)(b:Array (Int×Y1)):(ZN w a ep b).toList.Perm b.toList:=by
 unfold ZN;split
 .exact zke _ _
 .exact List.Perm.refl _
section
variable {prog:Xr}{w:Xe}{A:W1}{E:Y1->X8->Prop}{s:X8}{a:Addr}{es:Array (Int×Y1)}{ep:Nat}{t:Wt}
def zfE {Q:Bool->X8->Prop}(q:Q (w.params.followText "set-order") s):Xu (Xw prog w) A setsByText Q E s:=by
 unfold setsByText;exact ZB (PH (XT q))
def below_at {t:Wt}(U:Up t.place){i:Nat}(d:i<=t.place.size):Xq t.place (slotAt false t i)=i:=by
 obtain⟨c,a,b⟩:=ZJ U (slotAt false t i);unfold slotAt at *
 simp only[Wq,if_false]at *
 by_cases h0:i=0
 .subst h0;rw[bw rfl]at *
  rcases Nat.eq_zero_or_pos (Xq t.place 0) with e | e
  .exact e
  .have:=a 0 e;lia
 .rw[bq h0]at *
  rcases Ra (Xq t.place (t.place.getD (i-1) 0+1)) i with e | e | e
  .have:=b (i-1) (by lia) (by lia);lia
  .exact e
  .have h1:=a i e;have h2:=U (i-1) i (by lia) (by lia);lia
def zjd {i:Nat}{Q:Option (Y1×Nat)->X8->Prop}(g:s.heap.get? a=some (qy es ep t))(G:Good t (es.map (·.1)))(f:t.led=!w.params.followText "set-order")(l:t.plain=true)(n:i<=es.size)
  (b:∀v,(ZN w a ep es)[i]?.map (·.2)=some v->Q (some (v,slotAt (w.params.followText "set-order") t (i+1))) s) (j:i=es.size->Q none s) :
  Xu (Xw prog w) A (setNext a (slotAt (w.params.followText "set-order") t i) i ep) Q E s:=by
 have m:t.place.size=es.size:=by rw[G.sz,Vn]
 have d:(ZN w a ep es).size=es.size:=by
  rw[<- X6,(zaM w a ep es).length_eq,X6]
 unfold setNext;refine ZB (xZ g G ?_);dsimp only;refine ZB (zfE ?_);cases hb:w.params.followText "set-order" with
 | true =>
  rw[bw rfl];rw[hb]at b;rw[bq (by simp)];unfold setWalk;refine ZB (ZB (xZ g G ?_));dsimp only;refine ZB (zfE ?_);rw[hb,bw rfl];refine ZB (PH (XT (XT ?_)));have c:ZN w a ep es=PQ (w.params.setOrder a ep) es:=by
   unfold ZN;rw[hb,bw rfl]
  rw[c]at b d;show Q (Option.map _ (PQ (w.params.setOrder a ep) es)[i]?) s;by_cases h:i<es.size
  .have e:(PQ (w.params.setOrder a ep) es)[i]?=some (PQ (w.params.setOrder a ep) es)[i]:=Vi (by lia);rw[e]at b ⊢;exact b _ rfl
  .rw[WI (by lia)];exact j (by lia)
 | false =>
  rw[bq XS];rw[hb]at b f;have c:ZN w a ep es=es:=by
   unfold ZN;rw[hb,bq XS]
  rw[c]at b;split
  .rename_i h;exact absurd h (by show ¬ ((!t.plain&&decide (es.size>1))=true);rw[l];exact XS)
  refine ZB ?_;show Xu _ _ (if (!t.led && !es.isEmpty)=true then NS "set:maker-not-led" else pure ()) _ _ _;rw[f,bq (by simp)];refine XT ?_;rw[below_at G.up (by lia)];by_cases h:i<es.size
  .have e:es[i]?=some es[i]:=Vi h;have k:t.place[i]?=some (t.place.getD i 0):=JR (by lia);rw[e]at b ⊢;rw[k];refine XT (b _ rfl)
  .rw[WI (by lia)];exact XT (j (by lia))
end
def zeI:Slot "set_iterator" "__iter__" "set_iterator.__iter__" :=
 .of (owner:="set_iterator") (n:="__iter__") (by rw[RS,TQ];kernel_rfl) (by decide+kernel) (by decide+kernel) (by decide+kernel) (.inl (by decide+kernel)) (by rw[OP];kernel_rfl)
def zhZ:NG table "set_iterator.__iter__"=some UD.«dict_keyiterator.__iter__»:=entryFor_alias (id':="dict_keyiterator.__iter__") (by kernel_rfl) rfl (by decide+kernel) (by kernel_rfl)
def zkf (a:Y1):argsOk "set_iterator.__iter__" ⟨[a],[]⟩:=by
 unfold argsOk;rw[signature?_of (id:="set_iterator.__iter__") (n:=['_','_','r','e','t','i','_','_']) (o:=['r','o','t','a','r','e','t','i','_','t','e','s']) (by kernel_rfl) zc6];kernel_rfl
section
variable {prog:Xr}{w:Xe}{A:W1}{E:Y1->X8->Prop}{s:X8}{a I:Addr}{es:Array (Int×Y1)}{ep:Nat}{t:Wt}
def zh0 {b i a n ep:Nat}(x y:Nat):TR (·.setIfInBounds 1 (T9 y)) (TR (·.setIfInBounds 0 (T9 x)) (zc7 b i a n ep))=zc7 x y a n ep:=rfl
def znV {i:Nat}{Q:Option Y1->X8->Prop}(b:s.heap.get? I=some (zc7 (slotAt (w.params.followText "set-order") t i) i a es.size ep))(d:s.heap.get? a=some (qy es ep t))(G:Good t (es.map (·.1)))(f:t.led=!w.params.followText "set-order")(g:t.plain=true)(e:i<es.size)
  (q:∀v h',(ZN w a ep es)[i]?.map (·.2)=some v->h'.get? I=some (zc7 (slotAt (w.params.followText "set-order") t (i+1)) (i+1) a es.size ep)->VU I s.heap h'->Q (some v) { s with heap:=h' }) :
  Xu (Xw prog w) A (RK (.ref I)) Q E s:=by
 have c:s.TypeIs (.ref I) "set_iterator":=⟨_,b,rfl⟩;unfold RK;refine ZB (S9 (PB (name:=Str.ofString "__next__") c yF (Ue yF c zaL ?_ (zb1 _))));unfold UD.«set_iterator.__next__»;refine ZB (XT ?_);refine ZB (wpAny_fieldsOf b rfl ?_);dsimp only[T9];refine ZB (RR (o:=qy es ep t) d rfl ?_ ?_)
 .have:=G.fits;rwa [Vn]at this
 rw[bq (by simp)];show Xu _ _ (setNext a (slotAt (w.params.followText "set-order") t i) i ep >>= _) _ _ _;refine ZB (zjd d G f g (Tq e) (λv h=>?_) λz=>absurd z (by lia));dsimp only;refine ZB (Rz b rfl (by simp[zc7]) ?_);have h1:=Wm (TR (·.setIfInBounds 0 (T9 ((slotAt (w.params.followText "set-order") t (i+1):Nat):Int)))) b rfl;refine ZB (Rz h1 rfl (by simp[zc7,TR]) ?_);have h2:=Wm (TR (·.setIfInBounds 1 (T9 ((i:Int)+1)))) h1 rfl;refine XT ⟨_,rfl,XT (q v _ h ?_ ((Uq ..).trans (Uq ..)))⟩;rw[show ((i:Int)+1)=((i+1:Nat):Int) by lia]at h2 ⊢;rw[zh0]at h2;exact h2
def zql {Q:Option Y1->X8->Prop}(g:A.handled=none)(c:s.heap.get? I=some (zc7 (slotAt (w.params.followText "set-order") t es.size) es.size a es.size ep))(e:s.heap.get? a=some (qy es ep t))(G:Good t (es.map (·.1)))(h:t.led=!w.params.followText "set-order")(j:t.plain=true)
  (q:∀h',Heap.ExtBut I s.heap h'->Q none { s with heap:=h' }):Xu (Xw prog w) A (RK (.ref I)) Q E s:=by
 have d:s.TypeIs (.ref I) "set_iterator":=⟨_,c,rfl⟩;unfold RK;refine ZB (S9 (PB (name:=Str.ofString "__next__") d yF (Ue yF d zaL ?_ (zb1 _))));unfold UD.«set_iterator.__next__»;refine ZB (XT ?_);refine ZB (wpAny_fieldsOf c rfl ?_);dsimp only[T9];refine ZB (RR (o:=qy es ep t) e rfl ?_ ?_)
 .have:=G.fits;rwa [Vn]at this
 rw[bq (by simp)];show Xu _ _ (setNext a (slotAt (w.params.followText "set-order") t es.size) es.size ep >>= _) _ _ _;refine ZB (zjd e G h j (XX _) (λv f=>?_) λ_=>?_)
 .have i:(ZN w a ep es).size=es.size:=by
   rw[<- X6,(zaM w a ep es).length_eq,X6]
  rw[WI (by lia)]at f;cases f
 dsimp only;refine ZB (Rz c rfl (by simp[zc7]) ?_);refine ZB ?_;simp only[newExc,newTuple];refine ZB (V2 ?_ (by size_fits));refine ZB (m:=RC _ _) (Ri (a:=U0) (by first | rfl | (simp only[RC];rfl)) ?_);refine V2 ?_ (by size_fits);simp only[raiseNew];refine ZB (wpAny_handled ?_);rw[show A.in1.handled=none from g];refine ZB (XT (NP ?_));refine ZB (wpAny_isInstance (T:="StopIteration") (b:=true) ⟨_,Xl _ rfl,rfl⟩ isSubtype_stop ?_);exact XT (q _ (((Uq ..).extBut.push _).push _))
def znW {b i n:Nat}{Q:Y1->X8->Prop}(d:s.heap.get? I=some (zc7 b i a n ep))(q:Q (.ref I) s):Xu (Xw prog w) A (Of (.ref I)) Q E s:=by
 have c:s.TypeIs (.ref I) "set_iterator":=⟨_,d,rfl⟩;refine wpAny_pyIter_slot c zeI (Ue zeI c zhZ ?_ (zkf _));exact XT ⟨_,rfl,"set_iterator",_,c,yF.lookup,q⟩
def walks (hh:A.handled=none)(hne:a≠I)(G:Good t (es.map (·.1)))(hl:t.led=!w.params.followText "set-order")(hp:t.plain=true) :
  Walks prog w A I [I,a] [I] es.size (λi v=>(ZN w a ep es)[i]?.map (·.2)=some v) (λi h=>h.get? I=some (zc7 (slotAt (w.params.followText "set-order") t i) i a es.size ep)/\h.get? a=some (qy es ep t)) where
 sub:=λb hb=>by simp at hb;simp[hb]
 frame:=λ_ _ _ st hk=>⟨hk I (by simp) _ st.1,hk a (by simp) _ st.2⟩
 item:=λi s Q E hi st hQ=>znV st.1 st.2 G hl hp hi λv h' hv h1 hs=>hQ v h' s.toks hv ⟨h1,(hs.2 a hne).trans st.2⟩ λb o hb e=>(hs.2 b λz=>hb (by simp[z])).trans e
 done:=λs Q E st hQ=>zql hh st.1 st.2 G hl hp λh' he=>hQ h' s.toks λb o hb e=>he b o (λz=>hb (by simp[z])) e
 self:=λ_ _ _ _ st hQ=>znW st.1 hQ
def zgI:splitId "set.__len__"=some ("set","__len__"):=by decide+kernel
def zgJ {Q:List Y1->X8->Prop}(hh:A.handled=none)(ho:s.heap.get? a=some (qy es ep t))(G:Good t (es.map (·.1)))(hl:t.led=!w.params.followText "set-order")(hp:t.plain=true)(hn:es.size<=64)
  (q:∀vs h' tk,vs.Perm (es.toList.map (·.2))->(∀b o,s.heap.get? b=some o->h'.get? b=some o)->s.heap.objs.size<=h'.objs.size->Q vs { s with heap:=h',toks:=tk }):Xu (Xw prog w) A (collect (.ref a)) Q E s:=by
 have g:a<s.heap.objs.size:=XH ho;unfold collect;refine ZB (wpAny_runValue (VE PySem.F.entry_proto_collect ?_));rw[VZ PySem.F.plain_proto_collect _];show Xu _ A.in1 (newList [] >>= λl=>R4 (.builtin "list.__iadd__" ⟨[l,.ref a],[]⟩)) _ _ s;refine ZB (V2 ?_);refine XT ⟨Ut Pz _,VE PySem.F.entry_list_iadd ?_⟩;rw[VZ Pz _];show Xu _ A.in1 (RM (.ref s.heap.objs.size) (.ref a) (.ref s.heap.objs.size)) _ _ _;generalize B:(s.heap.push { cls:=.type "list",data:=.seq ([]:List Y1).toArray })=h1;have f:h1.get? a=some (qy es ep t):=by rw[<- B];exact X4 _ ho
 have J:h1.get? s.heap.objs.size=some { cls:=.type "list",data:=.seq #[] }:=by rw[<- B];exact Xl _ rfl
 have aa:∀b o,s.heap.get? b=some o->h1.get? b=some o:=λb o e=>by rw[<- B];exact X4 _ e
 have H:h1.objs.size=s.heap.objs.size+1:=by rw[<- B];exact Vo ..
 have M:R9 { s with heap:=h1 } (.ref a) "set":=⟨_,f,rfl⟩;have I:PX (.ref s.heap.objs.size) (.ref a)=false:=by
  simp[PX];exact UB g
 unfold RM;refine ZB (Pq M ?_);rw[bq (by rw[I];decide)];have O:t.fits es.size=true:=by
  have:=G.fits;rwa [Vn]at this
 refine ZB (wpAny_pyIter_slot M O4 (Ue O4 M zfD ?_ (PySem.F.args_set_iter_1 _)));unfold UD.«frozenset.__iter__» Builtin.Frozenset.slot0 slotArgs;simp only[List.isEmpty_nil,Bool.not_true,Wq,↓reduceIte,bind_assoc,TW,bne_self_eq_false];unfold Builtin.Frozenset.addrOf Builtin.Frozenset.sizeOf;refine ZB (XT ?_);dsimp only;refine ZB (XT ?_);refine ZB (ZB (RR (s:={ s with heap:=h1 }) (o:=qy es ep t) f rfl O (XT ?_)));unfold setDrawn;refine ZB (ZB (Sy (s:={ s with heap:=h1 }) (o:=qy es ep t) f rfl O ?_));dsimp only;refine ZB (zfE (XT ?_));split
 .rename_i h;exact absurd h (by show ¬ ((!w.params.followText "set-order" && (!t.plain&&decide (es.size>1)))=true);rw[hp];simp)
 refine ZB (XT ?_);unfold setEpoch;refine ZB (ZB (Sy (s:={ s with heap:=h1 }) (o:=qy es ep t) f rfl O (XT ?_)));unfold newFields;refine ZB (V2 ?_);generalize y:h1.push { cls:=.type "set_iterator",data:=.fields (List.toArray [T9 0,T9 0,WN a,T9 ((es.size:Nat):Int),T9 ((ep:Nat):Int)]) }=h2;have x:h2.get? a=some (qy es ep t):=by rw[<- y];exact X4 _ f
 have r:h2.get? s.heap.objs.size=some { cls:=.type "list",data:=.seq #[] }:=by rw[<- y];exact X4 _ J
 have ab:∀b o,s.heap.get? b=some o->h2.get? b=some o:=λb o e=>by rw[<- y];exact X4 _ (aa b o e)
 have n:h2.get? h1.objs.size=some (zc7 0 0 a es.size ep):=by rw[<- y];exact Xl _ rfl
 have N:R9 { s with heap:=h2 } (.ref h1.objs.size) "set_iterator":=⟨_,n,rfl⟩;have k:R9 { s with heap:=h2 } (.ref a) "set":=⟨_,x,rfl⟩;refine XT ⟨_,rfl,(dR "set_iterator" N yF.lookup ?_)⟩;refine ZB (WA ?_);unfold Builtin.List.listLengthHint;refine ZB (Pd k PySem.F.slot_set_len.lookup ?_);dsimp only;rw[zgI];dsimp only;refine ZB (wpAny_isInstance (b:=true) k sub_set_self ?_);rw[bq (by decide)];show Xu _ _ (typeOf (WN a) >>= _) _ _ _;refine ZB (Pq k ?_);show Xu _ _ (pure false) _ _ _;refine XT ?_;show Xu _ A.in1 (rule "list.extend.makes-room" >>= λ_=>Builtin.List.listTouch (.ref s.heap.objs.size) >>= λ_=>R4 (.builtin "list.extend.loop" ⟨[.ref s.heap.objs.size,.ref h1.objs.size,.ref s.heap.objs.size],[]⟩)) _ _ _;refine ZB (Uu (ZB ?_));show Xu _ A.in1 (updateSeq s.heap.objs.size (·.push .none) >>= λ_=>updateSeq s.heap.objs.size (·.pop)) _ _ _;refine ZB (wpAny_updateSeq r rfl ?_);have u:=Wm (UZ (·.push U0)) r rfl;refine wpAny_updateSeq u rfl ?_;have v:=Wm (UZ (·.pop)) u rfl;have j:∀b o,b≠s.heap.objs.size->h2.get? b=some o->((h2.update s.heap.objs.size (UZ (·.push U0))).update s.heap.objs.size (UZ (·.pop))).get? b=some o :=
  λb o m e=>(VB _ _ (Va m)).trans ((VB _ _ (Va m)).trans e)
 generalize (h2.update s.heap.objs.size (UZ (·.push U0))).update s.heap.objs.size (UZ (·.pop))=h4 at v j;have Y:a≠h1.objs.size:=by
  rw[H];exact Xm (WH g)
 have L:s.heap.objs.size ∉ [h1.objs.size,a]:=by
  rw[H];simp only[XJ,Vs,or_false,not_or];exact⟨Xm (Sd _),UB g⟩
 have ae:slotAt (w.params.followText "set-order") t 0=0:=by
  unfold slotAt;split<;>rfl
 have af:(ZN w a ep es).size=es.size:=by
  rw[<- X6,(zaM w a ep es).length_eq,X6]
 refine XT ⟨Ut PySem.F.plain_extend_loop _,codeAny_extend_loopS ((walks (A:=A.in1) (prog:=prog) (ep:=ep) hh Y G hl hp).toS) (X0 hn (by rw[SO];decide)) _ L _ es.size 0 _ _ _ rfl (WZ _)
  ⟨by rw[ae];exact j _ _ (by rw[H];exact Vt _) n,j _ _ (Xm g) x⟩ v (ItemsOf.nil _) λs' c c' D p d=>?_⟩
 show Xu _ A (load s.heap.objs.size >>= _) _ _ s';refine ZB (wpAny_load p ?_);obtain⟨h',g',d',ag,ac⟩:=s';have eg:g'=s.gens:=D.gens;have ed:d'=s.drawn:=D.drawn;have eo:ac=s.os:=D.os;subst eg;subst ed;subst eo;refine XT (q _ _ _ ?_ (λb o e=>?_) (Tq (XH p)))
 .have e:c.toList=(ZN w a ep es).toList.map (·.2):=by
   refine Sv λi=>?_;rw[Xy,Xo,Xy];by_cases hi:i<es.size
   .have U:i<c.size:=by rw[d.1];exact hi
    have e1:c[i]?=some c[i]:=Vi U;rw[e1];exact(d.2 i _ e1).symm
   .rw[WI (by rw[d.1];lia),WI (by lia)];rfl
  rw[e];exact(zaM w a ep es).map _
 .have m:b<s.heap.objs.size:=XH e;refine D.heap b o (λz=>?_) (j b o (Xm m) (ab b o e));rcases XJ.mp z with z | z
  .exact Wj _ (z ▸ m)
  .have z':b=h1.objs.size:=by simpa using z
   rw[z',H]at m;exact absurd m (Nat.not_lt.mpr (Wl _))
end
end ST
open PySem PySem.Spec PyProof.Rows PySem.W
namespace ST
def zc8 (prog:Xr)(w:Xe)(d:Addr)(ks:List (Addr×(Int×Int))):HO:=.ext λh=>∃a b t,h.get? d=some (qy a b t)/\a.toList=ks.map (zc5 (hP prog w))/\Good t (a.map (·.1))/\t.led=(!w.params.followText "set-order")/\t.plain=true
section
variable {prog:Xr}{w:Xe}{A:W1}{R:QP->X8->Prop}{I:Addr}{fp wr:List Addr}{G:Array Um->Array Um->Prop}{n:Nat}{P:Nat->Y1->Prop}{St:Nat->X8->Prop}{led:Bool}
def zlL {h0:Heap}(W:WalksS prog w A.in1 I fp wr G n P St)(D:Addr)(M:D ∉ fp)(ah:h0.get? D=none)(ap:∀b∈wr,h0.get? b=none)(ps:List (Int×Int))(Y:ps.length=n)(hu:A.units+1<U7)
  (T:Addr->Int×Int->Prop) (hT:∀x p,T x p->zF h0 (.ref x) p) (aj:∀i v,P i v->∃x p,v=.ref x/\ps[i]?=some p/\T x p) (y:∀p∈ps,InB p) (few:∀l:List (Int×Int),l.Nodup->(∀c∈l,c∈ps)->l.length<=63) :
  ∀(k i:Nat) (s:X8) (ks:List (Addr×(Int×Int))),n-i=k->i<=n->St i s->(∀b o,h0.get? b=some o->s.heap.get? b=some o)->zd9 (hP prog w) led s.heap D ks->(∀c,c∈ks.map (·.2)↔c∈ps.take i)->(∀q∈ks,T q.1 q.2) ->
   (∀s' r,Moved (D::wr) G s s'->zd9 (hP prog w) led s'.heap D r->(∀c,c∈r.map (·.2)↔c∈ps)->(∀q∈r,T q.1 q.2)->R (.ok (.ret .none)) s') ->
   UJ (Xw prog w) A (.builtin "set.update.loop" ⟨[.ref D,.ref I],[]⟩) R s:=by
 have ai:D ∉ wr:=λh=>M (W.sub _ h);have more:∀b∈wr,b∈D::wr:=λb y=>XW _ y;have d:∀{h:Heap} {x:Addr} {p:Int×Int},(∀b o,h0.get? b=some o->h.get? b=some o)->T x p->zF h (.ref x) p:=λE hx=>by
  obtain⟨b,o,m,t,u,e,e1,e2,e3⟩:=hT _ _ hx;exact⟨b,o,m,t,u,e,E _ _ e1,e2,e3⟩
 have a:∀{s s':X8},Moved wr G s s'->(∀b o,h0.get? b=some o->s.heap.get? b=some o)->∀b o,h0.get? b=some o->s'.heap.get? b=some o:=λj E b o e =>
  j.heap b o (λy=>by
   rw[ap b y]at e;cases e) (E b o e)
 have f:∀{s s':X8} {ks:List (Addr×(Int×Int))},Moved wr G s s'->(∀b o,h0.get? b=some o->s'.heap.get? b=some o)->(∀q∈ks,T q.1 q.2)->zd9 (hP prog w) led s.heap D ks->zd9 (hP prog w) led s'.heap D ks :=
  λj E hk ⟨⟨es,ep,t,e1,e2⟩,e3,_,e5⟩=>⟨⟨es,ep,t,j.heap D _ ai e1,e2⟩,e3,λq hq=>d E (hk q hq),e5⟩
 intro k;induction k with
 | zero =>
  intro i s ks hk hi J E hS B g hR;have am:i=n:=by lia
  subst am;refine VE Tc ?_;rw[VZ UU _];show Xu _ A.in1 (RK (.ref I) >>= _) _ _ s;refine ZB (W.done s _ _ J λs' j=>?_);refine XT (hR s' ks (j.mono more) (f j (a j E) g hS) (λc=>?_) g);rw[B c,<- Y,XC]
 | succ k ih =>
  intro i s ks hk hi J E hS B g hR;have aa:i<n:=by lia
  refine VE Tc ?_;rw[VZ UU _];show Xu _ A.in1 (RK (.ref I) >>= _) _ _ s;refine ZB (W.item i s _ _ aa J λv s' ak af j=>?_);obtain⟨x,p,rfl,hq,hx⟩:=aj i v ak;have L:=a j E;have N:=f j L g hS;have ae:p∈ps:=X7 hq;have tk:ps.take (i+1)=ps.take i++[p]:=by
   rw[Xv,hq];rfl
  refine ZB (WA (zlK (show A.in1.units<U7 from hu) N (d L hx) (y p ae) (λan=>?_) λb h' r H al ac au=>?_))
  .have:=few (p::ks.map (·.2)) (Vv.mpr ⟨an,N.nd⟩) λc hc=>by
    rcases XJ.mp hc with rfl | hc
    .exact ae
    .exact V0 ((B c).mp hc)
   rw[Xk,X9]at this;lia
  have aq:∀b o,h0.get? b=some o->h'.get? b=some o:=λb o e=>by
   rw[H.2 b (λz=>by
    rw[z,ah]at e;cases e)]
   exact L b o e
  refine XT ⟨Ut UU _,?_⟩;refine ih (i+1) _ r (by lia) aa (W.frame _ s' _ _ af (Uf _ _) λb y o e=>?_) aq al (λc=>?_) (λq ao=>?_) λar ag ab O U Q=>?_
  .rw[H.2 b (λz=>M (by rw[<- z];exact y))];exact e
  .rw[ac c,B c,tk,XO,T5]
  .rcases au q ao with z | z
   .exact g q z
   .rw[z];exact hx
  .refine hR ar ag (Moved.trans W.gtrans ((j.mono more).then_heap (Uf _ _) λb o y e=>?_) ab) O U Q;rw[H.2 b (λz=>y (by rw[z];exact XV))];exact e
end
section
variable {prog:Xr}{w:Xe}{A:W1}{E:Y1->X8->Prop}{s:X8}
def znX (a:Y1){Q₁:Y1->X8->Prop}(h:Q₁ (.ref s.heap.objs.size) { s with heap:=s.heap.push (qy #[] 0 (.fresh 0 0 (!w.params.followText "set-order"))) }) :
  UJ (Xw prog w) A (.call (.builtin "set.__new__") ⟨[.type "set",a],[]⟩) (wants Q₁ E) s:=by
 refine codeAny_of_tree ?_;show Xu _ A.in1 (do PM "set.__new__" ⟨[.type "set",a],[]⟩;R4 (.builtin "set.__new__" ⟨[.type "set",a],[]⟩)) _ _ s;refine ZB (Ri (PySem.F.newCall_set_1 a) (XT ⟨Ut O3 _,VE PySem.F.entry_set_new ?_⟩));rw[VZ O3 _];unfold UD.«set.__new__» Builtin.Frozenset.newClass;have b:=sub_set_self;obtain⟨c,g,d,e,os⟩:=s;dsimp only;wp_walk;refine PH (XT ?_);dsimp only;simp only[newObj];refine ZB (wpAny_alloc (XT ?_));exact XT h
def zh1 (led:Bool):Good (.fresh 0 0 led) #[]:=⟨.inl rfl,rfl,rfl,λi j _ h=>absurd h (by simp[SetTable.fresh]),λi h=>absurd h (by simp[SetTable.fresh]),by simp[SetTable.fresh],λi h=>absurd h (by simp[SetTable.fresh])⟩
set_option maxHeartbeats 8000000 in
theorem zlM {l:Addr}{d:Array Y1}{ps:List (Int×Int)}{T:Addr->Int×Int->Prop}{Q:Y1->X8->Prop}(hh:A.handled=none)(hu:A.units+64<U7)(hl:s.heap.IsList l d)(M:ps.length=d.size)
  (hT:∀x p,T x p->zF s.heap (.ref x) p) (aa:∀(i:Nat) (v:Y1),d[i]?=some v->∃x p,v=WN x/\ps[i]?=some p/\T x p) (hb:∀p∈ps,InB p) (few:∀l:List (Int×Int),l.Nodup->(∀c∈l,c∈ps)->l.length<=63)
  (h:∀(h':Heap) (tk:Nat) (ks:List (Addr×(Int×Int))),(∀b o,s.heap.get? b=some o->h'.get? b=some o)->zd9 (hP prog w) (!w.params.followText "set-order") h' s.heap.objs.size ks->(∀c,c∈ks.map (·.2)↔c∈ps)->(∀q∈ks,T q.1 q.2)->Q (.ref s.heap.objs.size) { s with heap:=h',toks:=tk }) :
  Xu (Xw prog w) A (call (.type "set") [.ref l]) Q E s:=by
 obtain⟨c,tl,ak⟩:=PySem.F.called_set.mro;have af:=PySem.F.called_set.made;have an:=PySem.F.called_set.sub;refine Pu (codeAny_of_tree ?_);show Xu _ _ (callAny (.type "set") _) _ _ _;refine XT ⟨Code.quiet_builtin _ (by decide+kernel),VE PySem.F.entry_type_call ?_⟩;rw[Around.under_plain (weight_type_call_type "set" [.ref l] []) rfl];have h1:=PySem.F.called_set.notType;have h2:=PySem.F.called_set.canCreate;have aq:=PySem.F.typeCall_set_1 (.ref l);repeat (any_goals (first | assumption | wp_step))
 refine UT (znX (.ref l) (E:=E) (Q₁:=λU j=>U=.ref s.heap.objs.size/\j={ s with heap:=s.heap.push (qy #[] 0 (.fresh 0 0 (!w.params.followText "set-order"))) }) ⟨rfl,rfl⟩) λr j hr=>?_;cases r with
 | error e=>exact hr
 | ok fl =>
  cases fl with
  | ret U =>
   obtain⟨rfl,rfl⟩:=hr;generalize aj:(!w.params.followText "set-order")=led at h ⊢;have hS:(s.heap.push (qy #[] 0 (.fresh 0 0 led))).get? s.heap.objs.size=some (qy #[] 0 (.fresh 0 0 led)):=Xl _ rfl;have H:R9 { s with heap:=s.heap.push (qy #[] 0 (.fresh 0 0 led)) } (.ref s.heap.objs.size) "set":=⟨_,hS,rfl⟩;have ar:=PySem.F.called_set.init.lookup;have ap:=PySem.F.called_set.init.bind (.ref s.heap.objs.size);repeat (any_goals (first | assumption | wp_step))
   refine UT (Tt (R:=wants (λr k=>r=.none/\∃h' tk ks,k={ s with heap:=h',toks:=tk }/\zd9 (hP prog w) led h' s.heap.objs.size ks/\(∀c,c∈ks.map (·.2)↔c∈ps)/\(∀q∈ks,T q.1 q.2) /\
     (∀b o,s.heap.get? b=some o->h'.get? b=some o)) E) PySem.F.called_set.init.plain PySem.F.entry_set_init (check_set_init_1 H ?_)) λY k a=>?_
   .obtain⟨ol,O,I,nl,J⟩:=hl;obtain⟨ao,D,ag,f⟩:=ol;simp only at I J;subst I;subst J;have g:(s.heap.push (qy #[] 0 (.fresh 0 0 led))).get? l=some { cls:=.type "list",dict:=D,data:=.seq d nl,slots:=f }:=X4 _ O;have am:=PySem.F.sub_list_set;have al:=PySem.F.sub_list_frozenset;have au:(Pw "list" == Pw "dict")=false:=by decide
    have y:(s.heap.push (qy #[] 0 (.fresh 0 0 led))).IsList l d:=⟨_,g,rfl,nl,rfl⟩;unfold UD.«set.__init__» noKeywords Builtin.Frozenset.updateFrom;generalize hG:s.heap.push (qy #[] 0 (.fresh 0 0 led))=G at hS H g y ⊢;unfold qy at hS;generalize ab:Of=PI;wp_walk;subst ab;subst hG;refine SA y ?_;refine ZB (wpAny_runValue ?_);have L:l<s.heap.objs.size:=XH O;have zS:(s.heap.push (qy #[] 0 (.fresh 0 0 led))).objs.size=s.heap.objs.size+1:=Vo ..;have N:l≠(s.heap.push (qy #[] 0 (.fresh 0 0 led))).objs.size:=by
     rw[zS];exact Xm (WH L)
    have ac:s.heap.objs.size ∉ [(s.heap.push (qy #[] 0 (.fresh 0 0 led))).objs.size,l]:=by
     rw[zS];simp only[XJ,Vs,or_false,not_or];exact⟨Xm (Sd _),UB L⟩
    refine zlL (h0:=s.heap) (led:=led) ((Walks.list (by simp[hh]) (s.heap.push (qy #[] 0 (.fresh 0 0 led))).objs.size l N d).toS) s.heap.objs.size ac (Uw (XX _)) (λb hb=>?_) ps M (by show A.units+1+1+1<U7;lia) T hT aa hb few (d.size-0) 0 _ [] rfl (WZ _)
     ⟨⟨_,Xl _ rfl,rfl,rfl⟩,(y.push _)⟩ (λb o z=>X4 _ (X4 _ z)) ⟨⟨#[],0,.fresh 0 0 led,X4 _ hS,rfl,(by rw[Array.map_empty];exact zh1 led),rfl,rfl⟩,Ui,(λq z=>nomatch z),(λq z=>nomatch z)⟩ (λc=>by simp) (λq z=>nomatch z) ?_
    .have e:b=(s.heap.push (qy #[] 0 (.fresh 0 0 led))).objs.size:=by simpa using hb
     rw[e,zS];exact Uw (Wl _)
    .intro s' ks hm n B u;obtain⟨h',g',d',ai,ah⟩:=s';have eg:g'=s.gens:=hm.gens;have ed:d'=s.drawn:=hm.drawn;have eo:ah=s.os:=hm.os;subst eg;subst ed;subst eo;show Xu _ _ _ _ _ _;refine XT ?_;show Xu _ _ (ret U0) _ _ _;refine XT ⟨rfl,h',ai,ks,rfl,n,B,u,λb o e=>?_⟩;have lt:=XH e;refine hm.heap b o (λz=>?_) (X4 _ (X4 _ e));rcases XJ.mp z with z | z
     .exact Wj _ (z ▸ lt)
     .have z':b=(s.heap.push (qy #[] 0 (.fresh 0 0 led))).objs.size:=by simpa using z
      rw[z',zS]at lt;exact absurd lt (Nat.not_lt.mpr (Wl _))
   .cases Y with
    | error e=>exact a
    | ok m =>
     cases m with
     | ret r =>
      revert a;refine eW λz0=>eL λh' tk ks z1 n B u ae=>?_;subst z0 z1;repeat (any_goals (first | assumption | wp_step))
      exact h _ _ _ ae n B u
     | _=>exact a.elim
  | _=>exact hr.elim
end
def zc9 {α q:Type}(f:α->q){l p:List q}(h:l.Perm p):∀ks:List α,p=ks.map f->∃g:List α,g.Perm ks/\l=g.map f:=by
 induction h with
 | nil=>exact λks e=>⟨ks,List.Perm.refl _,e⟩
 | cons x h s =>
  intro ks e;cases ks with
  | nil=>simp at e
  | cons k ks =>
   rw[Xh]at e;injection e with j i
   obtain⟨g,h1,h2⟩:=s ks i;exact⟨k::g,h1.cons k,by rw[Xh,j,h2]⟩
 | swap x y l =>
  intro ks e;match ks,e with
  | [],e=>simp at e
  | [k],e=>simp at e
  | k1::o::ks,e =>
   rw[Xh,Xh]at e;injection e with j i
   injection i with i r
   exact⟨o::k1::ks,List.Perm.swap k1 o ks,by rw[Xh,Xh,j,i,r]⟩
 | trans h1 h2 m n =>
  intro ks e;obtain⟨g,a,b⟩:=n ks e;obtain⟨is,c,d⟩:=m g b;exact⟨is,c.trans a,d⟩
section
variable {X:Cx}
def zeJ (hu:X.A.units+64<U7)(hh:X.A.handled=none):j3 X (.type "set") (λxs H Q=>∃l g ps,xs=[.ref l]/\SqL X.K H l g/\xY H g ps/\(∀p∈ps,InB p)/\(∀l:List (Int×Int),l.Nodup->(∀c∈l,c∈ps)->l.length<=63) /\
  ∀d ks,H d=none->(∀q∈ks,H q.1=some (.tup [.int q.2.1,.int q.2.2]))->(ks.map (·.2)).Nodup->(∀c,c∈ks.map (·.2)↔c∈ps)->Q (.ref d) (upd H d (zc8 X.prog X.w d ks))):=by
 intro bQ s σ H xs aa Q I r h;revert h;refine eV λl g ps=>eK λz0 hq J hb few q=>?_;subst z0;obtain⟨u,rfl,ru⟩:=vals1 r;cases ru;obtain⟨b,L,pl,hz⟩:=I.list hq;have hp:=xY.pairs I J L;have z:b.length=ps.length:=Paired.length hp;have tw:∀{g:AF} {ps:List (Int×Int)} {b:List Y1},xY H g ps->Vals g b->∀(i:Nat) (v:Y1),b[i]?=some v->∃x p,v=WN x/\ps[i]?=some p/\H x=some (.tup [.int p.1,.int p.2]):=by
  intro g ps b h1;induction h1 generalizing b with
  | nil =>
   intro r i v e;cases r;simp at e
  | cons a t ih =>
   intro r i v e;obtain⟨x,rfl,B⟩:=a;cases r with
   | cons r1 r2 =>
    cases r1;cases i with
    | zero =>
     simp at e;exact⟨x,_,e.symm,rfl,B⟩
    | succ i =>
     obtain⟨y,p,h1,h2,U⟩:=ih r2 i v (by simpa using e);exact⟨y,p,h1,by simpa using h2,U⟩
 refine zlM (T:=λx p=>H x=some (.tup [.int p.1,.int p.2])) hh hu pl.isList (by simp[z]) (λx p B=>?_) (λi v e=>tw J L i v (by simpa using e)) hb few λh' tk ks kk G hm hT=>?_
 .obtain⟨D,E,tp,_⟩:=I.tuple (SqT.of B);obtain⟨u1,u2,rfl,⟨t1,rfl⟩,⟨t2,rfl⟩⟩:=vals2 E;obtain⟨ob,O,M,n,N⟩:=tp;exact⟨x,ob,n,t1,t2,rfl,O,M,N⟩
 .have Y:H s.heap.objs.size=none:=I.hok.fresh (XX _);obtain⟨o,m,t,j,f⟩:=G.ex;refine⟨.ref s.heap.objs.size,upd H s.heap.objs.size (zc8 X.prog X.w s.heap.objs.size ks),I.laid (t':=tk) kk (XX _) ⟨⟨o,m,t,j,f⟩,⟨_,j⟩,λh1 h2 ⟨o,m,t,j,f⟩ k=>⟨o,m,t,k _ j,f⟩⟩,rfl,q _ _ Y hT G.nd hm⟩
end
end ST
namespace GS
section
variable {prog:Xr}{w:Xe}{A:W1}{E:Y1->X8->Prop}{s:X8}{rk:Xd->Int}{κ:Tz}{a0:Array Xd}
def Rk (rk:Xd->Int)(xs:Array Xd)(i:Nat):Int:=match xs[i]? with
 | some p=>rk p
 | none=>0
def JU {xs ys:Array Xd}{i j:Nat}(h:xs[i]?=ys[j]?):Rk rk xs i=Rk rk ys j:=by
 unfold Rk;rw[h]
def Up (rk:Xd->Int)(xs:Array Xd)(lo a:Nat):Prop:=∀i j,lo<=i->i<=j->j<a->Rk rk xs i<=Rk rk xs j
def Tells (prog:Xr)(w:Xe)(A:W1)(s:X8)(κ:Tz)(rk:Xd->Int)(a0:Array Xd):Prop :=
 ∀x∈a0.toList,∀y∈a0.toList,∀C:Bool->X8->Prop,C (decide (rk x<rk y)) s->Xu (Xw prog w) A (keyLt' κ x.1 y.1) C (λ_ _=>False) s
structure Ok (κ:Tz)(a0:Array Xd)(st:WM):Prop where
 perm:(Xn st).Perm a0
 kind:kindOf st=κ
 good:SK st=none
theorem Ok.size {st:WM}(h:Ok κ a0 st):(Xn st).size=a0.size:=h.perm.size_eq
def Ok.at {st:WM}(h:Ok κ a0 st){i:Nat}(b:i<a0.size):∃x,(Xn st)[i]?=some x/\x∈a0.toList/\Rk rk (Xn st) i=rk x:=by
 have a:i<(Xn st).size:=by rw[h.size];exact b
 have e:(Xn st)[i]?=some (Xn st)[i]:=getElem?_pos _ i a;refine⟨(Xn st)[i],e,(UK.mp h.perm).mem_iff.mp (by simp),?_⟩;unfold Rk;rw[e]
def zlN {st:WM}{x y:Xd}{Q:Option Bool->WM->Prop}(T:Tells prog w A s κ rk a0)(hk:kindOf st=κ)(e:x∈a0.toList)(f:y∈a0.toList)(h:Q (some (decide (rk x<rk y))) st):wpS (Xw prog w) A E s (lt' x y) Q st:=by
 rw[lt'_eq];refine XE (Sa ?_);rw[hk];refine XE (PV (S9 (Xa (T x e y f (λb c=>c=s/\b=decide (rk x<rk y)) ⟨rfl,rfl⟩) (λb c a=>⟨a.1,?_⟩) λ_ _ d=>d.elim)));rw[a.2];exact Xp h
def jj {st:WM}{xs:Array Xd}{i:Nat}{x:Xd}{Q:Xd->WM->Prop}(e:xs[i]?=some x)(h:Q x st):wpS (Xw prog w) A E s (elem' xs i) Q st:=by
 rw[elem'_eq,e];exact Xp h
def zda {st:WM}{i j:Nat}{Q:Option Bool->WM->Prop}(T:Tells prog w A s κ rk a0)(O:Ok κ a0 st)(c:i<a0.size)(d:j<a0.size)(h:Q (some (decide (Rk rk (Xn st) i<Rk rk (Xn st) j))) st):wpS (Xw prog w) A E s (ltAt' i j) Q st:=by
 obtain⟨x,a,e,g⟩:=O.at (rk:=rk) c;obtain⟨y,b,f,k⟩:=O.at (rk:=rk) d;rw[g,k]at h;rw[ltAt'_eq];refine XE (Sa ?_);exact XE (jj a (XE (jj b (zlN T O.kind e f h))))
structure Step (κ:Tz)(a0:Array Xd)(lo:Nat)(st st':WM):Prop where
 ok:Ok κ a0 st'
 pend:WL st'=WL st
 low:∀i:Nat,i<lo->(Xn st')[i]?=(Xn st)[i]?
def Step.refl {lo:Nat}{st:WM}(O:Ok κ a0 st):Step κ a0 lo st st:=⟨O,rfl,λ_ _=>rfl⟩
def zbz {xs:Array Xd}{i j:Nat}(a:j<=xs.size)(k:Nat):Rk rk (mirror xs i j ((j-i)/2)) k=if i<=k/\k<j then Rk rk xs (i+j-1-k) else Rk rk xs k:=by
 have e:=Ou (i:=i) a k;by_cases h1:i<=k/\k<j
 .rw[bw h1]at e ⊢;exact JU e
 .rw[bq h1]at e ⊢;exact JU e
def j7 {xs:Array Xd}{i j:Nat}(b:j<=xs.size)(a:∀k,i<=k->k<j->Rk rk xs k=Rk rk xs (j-1))(k:Nat):Rk rk (mirror xs i j ((j-i)/2)) k=Rk rk xs k:=by
 rw[zbz b];split
 .rw[a _ (by lia) (by lia),a k (by lia) (by lia)]
 .rfl
theorem Step.mirror {lo i j:Nat}{st a:WM}(x:Step κ a0 lo st a)(c:lo<=i)(b:j<=a0.size):Step κ a0 lo st (setArr a (mirror (Xn a) i j ((j-i)/2))):=by
 refine⟨⟨(mirror_perm _ _ _ _).trans x.ok.perm,x.ok.kind,x.ok.good⟩,x.pend,λk hk=>?_⟩;show (PyProof.Rows.mirror (Xn a) i j ((j-i)/2))[k]?=_;rw[Ou (by rw[x.ok.size];exact b),bq (by lia)];exact x.low k hk
def zje {st:WM}{i j:Nat}{Q:Unit->WM->Prop}(h:Q () (setArr st (mirror (Xn st) i j ((j-i)/2)))):wpS (Xw prog w) A E s (R7 i j) Q st:=by
 rw[reverseSlice'_eq];exact SW h
def up1 (lo a d:Nat):StateT WM Sem AscSt :=
 forIn [a:d] ((none,a):AscSt) λ_ c=>do
  let x <- ltAt' (lo+c.snd) (lo+c.snd-1)
  match x with
  | some b=>if b=true then pure (ForInStep.done (none,c.snd)) else pure (Vk (none,c.snd+1))
  | _=>pure (ForInStep.done (some none,c.snd))
def zlO (lo n a:Nat):StateT WM Sem (Option Nat):=do
 R7 lo (lo+n)
 let c <- up1 lo n a
 match c.fst with
 | some r=>pure r
 | none=>pure (some c.snd)
def zjf (lo n a:Nat):StateT WM Sem DescSt :=
 forIn [n:a] ((none,n,0):DescSt) λ_ c=>do
  let x <- ltAt' (lo+c.snd.fst) (lo+c.snd.fst-1)
  match x with
  | some b =>
   if b=true then
    if c.snd.snd>0 then do
     R7 (lo+c.snd.fst-(c.snd.snd+1)) (lo+c.snd.fst)
     pure (Vk (none,c.snd.fst+1,0))
    else pure (Vk (none,c.snd.fst+1,0))
   else do
    let x <- ltAt' (lo+c.snd.fst-1) (lo+c.snd.fst)
    match x with
    | some b =>
     if b=true then pure (ForInStep.done (none,c.snd.fst,c.snd.snd))
     else pure (Vk (none,c.snd.fst+1,c.snd.snd+1))
    | _=>pure (ForInStep.done (some none,c.snd.fst,c.snd.snd))
  | _=>pure (ForInStep.done (some none,c.snd.fst,c.snd.snd))
def part2 (lo n a:Nat):StateT WM Sem (Option Nat):=do
 liftM (rule "list.sort.descending-run")
 let c <- zjf lo (n+1) a
 match c.fst with
 | some r=>pure r
 | none =>
  if c.snd.snd>0 then do
   R7 (lo+c.snd.fst-(c.snd.snd+1)) (lo+c.snd.fst)
   zlO lo c.snd.fst a
  else zlO lo c.snd.fst a
theorem run_eq (lo a:Nat):countRun' lo a=(do
  let c <- up1 lo 1 a
  match c.fst with
  | some r=>pure r
  | none =>
   if (c.snd==a)=true then pure (some c.snd)
   else if c.snd>1 then do
    let x <- ltAt' lo (lo+c.snd-1)
    match x with
    | some b=>if b=true then pure (some c.snd) else do
      R7 lo (lo+c.snd)
      part2 lo c.snd a
    | _=>pure none
   else part2 lo c.snd a):=by
 rw[countRun'_eq];unfold part2 zlO zjf up1;refine bind_congr λc=>?_;obtain⟨r,n⟩:=c;cases r with
 | some r=>rfl
 | none =>
  dsimp only;split
  .rfl
  .split
   .refine bind_congr λx=>?_;cases x with
    | none=>rfl
    | some b =>
     dsimp only;split
     .rfl
     .refine bind_congr λ_=>bind_congr λ_=>bind_congr λg=>?_;obtain⟨f,i,j⟩:=g;cases f with
      | some f=>rfl
      | none =>
       dsimp only;split
       .refine bind_congr λ_=>bind_congr λ_=>bind_congr λd=>?_;obtain⟨e,h⟩:=d;cases e<;>rfl
       .refine bind_congr λ_=>bind_congr λd=>?_;obtain⟨e,h⟩:=d;cases e<;>rfl
   .refine bind_congr λ_=>bind_congr λg=>?_;obtain⟨f,i,j⟩:=g;cases f with
    | some f=>rfl
    | none =>
     dsimp only;split
     .refine bind_congr λ_=>bind_congr λ_=>bind_congr λd=>?_;obtain⟨e,h⟩:=d;cases e<;>rfl
     .refine bind_congr λ_=>bind_congr λd=>?_;obtain⟨e,h⟩:=d;cases e<;>rfl
def Down (rk:Xd->Int)(xs:Array Xd)(lo n:Nat):Prop:=∀i j,i<=j->j<n->Rk rk xs (lo+j)<=Rk rk xs (lo+i)
def zpf {st:WM}{lo a b:Nat}{Q:AscSt->WM->Prop}(T:Tells prog w A s κ rk a0)(O:Ok κ a0 st)(y:lo+b<=a0.size)(u:1<=a)(g:a<=b)(q:Up rk (Xn st) lo (lo+a))
  (h:∀n,a<=n->n<=b->Up rk (Xn st) lo (lo+n)->(n=b\/Rk rk (Xn st) (lo+n)<Rk rk (Xn st) (lo+n-1))->Q (none,n) st):wpS (Xw prog w) A E s (up1 lo a b) Q st:=by
 unfold up1;refine VT (I:=λx c f=>f=st/\c=(none,x)/\Up rk (Xn st) lo (lo+x)) ?step ?fin ⟨rfl,rfl,q⟩
 case fin =>
  rintro c f ⟨rfl,rfl,e⟩
  rw[show max a b=b by lia]at e ⊢
  exact h b g (XX _) e (.inl rfl)
 case step =>
  rintro x c f k r ⟨rfl,rfl,e⟩
  dsimp only
  refine XE (zda T O (by lia) (by lia) ?_)
  by_cases d:Rk rk (Xn f) (lo+x)<Rk rk (Xn f) (lo+x-1)
  .simp only[d,decide_true,if_true];exact Xp (h x k (by lia) e (.inr d))
  .simp only[d,decide_false,Wq,if_false];refine Xp ⟨rfl,rfl,λi j p m v=>?_⟩;by_cases o:j<lo+x
   .exact e i j p m o
   .obtain rfl:j=lo+x:=by lia
    by_cases l:i=lo+x
    .subst l;exact UR _
    .exact Vw (e i (lo+x-1) p (by lia) (by lia)) (Oa.mp d)
def zlP {d st:WM}{lo n a:Nat}{Q:Option Nat->WM->Prop}(T:Tells prog w A s κ rk a0)(S:Step κ a0 lo d st)(p:lo+a<=a0.size)(h1:1<=n)(f:n<=a)(q:Down rk (Xn st) lo n)
  (h:∀m b,Step κ a0 lo d b->1<=m->m<=a->Up rk (Xn b) lo (lo+m)->Q (some m) b):wpS (Xw prog w) A E s (zlO lo n a) Q st:=by
 unfold zlO;refine XE (zje ?_);have k:=S.mirror (i:=lo) (j:=lo+n) (XX _) (by lia);refine XE (zpf T k.ok p h1 f ?_ λm o e g _=>Xp (h m _ k (by lia) e g));intro i j r l u;have c:lo+n<=(Xn st).size:=by
  rw[S.ok.size];lia
 show Rk rk (mirror (Xn st) lo (lo+n) ((lo+n-lo)/2)) i<=Rk rk (mirror (Xn st) lo (lo+n) ((lo+n-lo)/2)) j;rw[zbz c,zbz c,bw (by lia),bw (by lia)];have:=q (lo+n-1-j) (lo+n-1-i) (by lia) (by lia);rw[show lo+(lo+n-1-j)=lo+(lo+n)-1-j by lia,show lo+(lo+n-1-i)=lo+(lo+n)-1-i by lia]at this;exact this
def znY {v st:WM}{lo n b:Nat}{Q:DescSt->WM->Prop}(T:Tells prog w A s κ rk a0)(S:Step κ a0 lo v st)(U:lo+b<=a0.size)(h1:1<=n)(H:n<=b)(N:Down rk (Xn st) lo n)
  (h:∀m q a,Step κ a0 lo v a->n<=m->m<=b->Down rk (Xn a) lo m->q+1<=m->(∀i,m-(q+1)<=i->i<m->Rk rk (Xn a) (lo+i)=Rk rk (Xn a) (lo+(m-1)))->Q (none,m,q) a):wpS (Xw prog w) A E s (zjf lo n b) Q st:=by
 unfold zjf;refine VT (I:=λx c a=>∃q,c=(none,x,q)/\Step κ a0 lo v a/\Down rk (Xn a) lo x/\q+1<=x /\
   (∀i,x-(q+1)<=i->i<x->Rk rk (Xn a) (lo+i)=Rk rk (Xn a) (lo+(x-1)))) ?step ?fin ⟨0,rfl,S,N,by lia,λi h1 h2=>by congr 1;lia⟩
 case fin =>
  rintro c a ⟨q,rfl,l,d,B,he⟩
  rw[show max n b=b by lia]at d B he ⊢
  exact h b q a l H (XX _) d B he
 case step =>
  refine λx c a D O=>fq λq=>eH λz0 l d B he=>?_;subst z0
  dsimp only
  have J:lo+x<=(Xn a).size:=by
   rw[l.ok.size];lia
  refine XE (zda T l.ok (by lia) (by lia) ?_)
  by_cases e:Rk rk (Xn a) (lo+x)<Rk rk (Xn a) (lo+x-1)
  .simp only[e,decide_true,if_true];have g:∀L:Array Xd,(∀k,Rk rk L k=Rk rk (Xn a) k)->Down rk L lo (x+1):=by
    intro L hk i j r M;rw[hk,hk];by_cases u:j<x
    .exact d i j r u
    .obtain rfl:j=x:=by lia
     by_cases p:i=j
     .subst p;exact UR _
     .have y:=d i (j-1) (by lia) (by lia);rw[show lo+(j-1)=lo+j-1 by lia]at y;exact Vw (VS e) y
   by_cases z:q>0
   .rw[bw z];refine XE (zje (Xp ⟨0,rfl,l.mirror (by lia) (by lia),g _ (j7 J λk Y k2=>?_),by lia,λi h1 h2=>by congr 1;lia⟩));have y:=he (k-lo) (by lia) (by lia);rw[show lo+(k-lo)=k by lia,show lo+(x-1)=lo+x-1 by lia]at y;exact y
   .rw[bq z];exact Xp ⟨0,rfl,l,g _ (λ_=>rfl),by lia,λi h1 h2=>by congr 1;lia⟩
  .simp only[e,decide_false,Wq,if_false];refine XE (zda T l.ok (by lia) (by lia) ?_);by_cases f:Rk rk (Xn a) (lo+x-1)<Rk rk (Xn a) (lo+x)
   .simp only[f,decide_true,if_true];exact Xp (h x q a l D (by lia) d B he)
   .simp only[f,decide_false,Wq,if_false];have o:Rk rk (Xn a) (lo+x)=Rk rk (Xn a) (lo+(x-1)):=by
     rw[show lo+(x-1)=lo+x-1 by lia];lia
    refine Xp ⟨q+1,rfl,l,λi j r M=>?_,by lia,λi h1 h2=>?_⟩
    .by_cases u:j<x
     .exact d i j r u
     .obtain rfl:j=x:=by lia
      by_cases p:i=j
      .subst p;exact UR _
      .rw[o];exact d i (j-1) (by lia) (by lia)
    .rw[show x+1-1=x by lia];by_cases G:i=x
     .subst G;rfl
     .rw[o];exact he i (by lia) (by lia)
def zjg {g st:WM}{lo n b:Nat}{Q:Option Nat->WM->Prop}(T:Tells prog w A s κ rk a0)(S:Step κ a0 lo g st)(p:lo+b<=a0.size)(r:n+1<=b)(y:Down rk (Xn st) lo (n+1))
  (h:∀m a,Step κ a0 lo g a->1<=m->m<=b->Up rk (Xn a) lo (lo+m)->Q (some m) a):wpS (Xw prog w) A E s (part2 lo n b) Q st:=by
 unfold part2;refine XE (PV (Uu ⟨rfl,?_⟩));refine XE (znY T S p (by lia) r y λm q a l x c e z he=>?_);dsimp only;have f:lo+m<=(Xn a).size:=by
  rw[l.ok.size];lia
 by_cases d:q>0
 .rw[bw d];refine XE (zje (zlP T (l.mirror (by lia) (by lia)) p (by lia) c ?_ h));intro i j o v;show Rk rk (mirror (Xn a) _ _ _) (lo+j)<=Rk rk (mirror (Xn a) _ _ _) (lo+i);have same:∀k,lo+m-(q+1)<=k->k<lo+m->Rk rk (Xn a) k=Rk rk (Xn a) (lo+m-1):=λk B D=>by
   have u:=he (k-lo) (by lia) (by lia);rw[show lo+(k-lo)=k by lia,show lo+(m-1)=lo+m-1 by lia]at u;exact u
  rw[j7 f same,j7 f same];exact e i j o v
 .rw[bq d];exact zlP T l p (by lia) c e h
def zb2 {st:WM}{lo b:Nat}{Q:Option Nat->WM->Prop}(T:Tells prog w A s κ rk a0)(O:Ok κ a0 st)(v:lo+b<=a0.size)(h1:1<=b)
  (h:∀m l,Step κ a0 lo st l->1<=m->m<=b->Up rk (Xn l) lo (lo+m)->Q (some m) l):wpS (Xw prog w) A E s (countRun' lo b) Q st:=by
 have S:=Step.refl (lo:=lo) O;rw[run_eq];refine XE (zpf T O v (XX 1) h1 (λi j I p y=>by
  obtain rfl:i=j:=by lia
  exact UR _) λn q r d x=>?_)
 dsimp only;by_cases g:n=b
 .rw[bw (by simpa using g)];exact Xp (h n st S q r d)
 .rw[bq (by simpa using g)];have f:Rk rk (Xn st) (lo+n)<Rk rk (Xn st) (lo+n-1):=x.resolve_left g;have u:lo+n<=(Xn st).size:=by
   rw[O.size];lia
  by_cases o:n>1
  .rw[bw o];refine XE (zda T O (by lia) (by lia) ?_);by_cases c:Rk rk (Xn st) lo<Rk rk (Xn st) (lo+n-1)
   .simp only[c,decide_true,if_true];exact Xp (h n st S q r d)
   .simp only[c,decide_false,Wq,if_false];have a:∀k,lo<=k->k<lo+n->Rk rk (Xn st) k=Rk rk (Xn st) (lo+n-1):=by
     intro k z D;have G:=d lo k (XX _) z D;have H:=d k (lo+n-1) z (by lia) (by lia);lia
    refine XE (zje (zjg T (S.mirror (XX _) (by lia)) v (by lia) ?_ h));intro i j p y;show Rk rk (mirror (Xn st) _ _ _) (lo+j)<=Rk rk (mirror (Xn st) _ _ _) (lo+i);rw[j7 u a,j7 u a];by_cases B:j<n
    .rw[a (lo+i) (by lia) (by lia),a (lo+j) (by lia) (by lia)];exact UR _
    .obtain rfl:j=n:=by lia
     by_cases e:i=j
     .subst e;exact UR _
     .rw[a (lo+i) (by lia) (by lia)];exact VS f
  .rw[bq o];obtain rfl:n=1:=by lia
   refine zjg T S v (by lia) ?_ h;intro i j p y;by_cases e:i=j
   .subst e;exact UR _
   .obtain rfl:i=0:=by lia
    obtain rfl:j=1:=by lia
    rw[Rv]at f;exact VS f
def zeK {xs:Array Xd}{src d:Nat}(b:src<xs.size)(a:d<=src)(k:Nat):Rk rk (bubble xs src d) k=if k=src-d then Rk rk xs src else if src-d<k/\k<=src then Rk rk xs (k-1) else Rk rk xs k:=by
 have e:=getElem?_bubble b d a k;by_cases h1:k=src-d
 .rw[bw h1]at e ⊢;exact JU e
 .rw[bq h1]at e ⊢;by_cases h2:src-d<k/\k<=src
  .rw[bw h2]at e ⊢;exact JU e
  .rw[bq h2]at e ⊢;exact JU e
def zrW {st:WM}{lo n ok:Nat}{Q:Bool->WM->Prop}(T:Tells prog w A s κ rk a0)(O:Ok κ a0 st)(hn:lo+n<=a0.size)(ab:ok<=n)(hs:Up rk (Xn st) lo (lo+ok))
  (h:∀e,Step κ a0 lo st e->Up rk (Xn e) lo (lo+n)->Q true e):wpS (Xw prog w) A E s (binarySort' lo n ok) Q st:=by
 rw[binarySort'_eq];refine XE (Uk (VT (I:=λk c e=>c=(none,())/\Step κ a0 lo st e/\Up rk (Xn e) lo (lo+min k n))
  (Q:=λc e=>c=(none,())/\Step κ a0 lo st e/\Up rk (Xn e) lo (lo+n)) ?step ?fin ?init) ?post)
 case post =>
  rintro c e ⟨rfl,p,g⟩
  exact Xp (h e p g)
 case init =>
  refine⟨rfl,Step.refl O,λi j z D U=>?_⟩
  by_cases h1:ok=0
  .obtain rfl:i=j:=by lia
   exact UR _
  .exact hs i j z D (by lia)
 case fin =>
  rintro c e ⟨N,p,g⟩
  refine⟨N,p,?_⟩
  rwa [show min (max (max ok 1) n) n=n by lia]at g
 case step =>
  rintro k c e M Y ⟨rfl,p,g⟩
  rw[show min k n=k by lia]at g
  have v:=p.ok
  have hk:lo+k<a0.size:=by lia
  refine XE (Uk (VT (I:=λx c d=>d=e/\∃l r,c=(none,l,r)/\l<=r/\r<=k/\r-l<=k-x /\
    (∀i,i<l->Rk rk (Xn e) (lo+i)<=Rk rk (Xn e) (lo+k))/\(∀i,r<=i->i<k->Rk rk (Xn e) (lo+k)<Rk rk (Xn e) (lo+i)))
   (Q:=λc d=>d=e/\∃l r,c=(none,l,r)/\l<=k /\
    (∀i,i<l->Rk rk (Xn e) (lo+i)<=Rk rk (Xn e) (lo+k))/\(∀i,l<=i->i<k->Rk rk (Xn e) (lo+k)<Rk rk (Xn e) (lo+i))) ?istep ?ifin ?iinit) ?ipost)
  case iinit=>exact⟨rfl,0,k,rfl,by lia,by lia,by lia,λi z=>by lia,λi h1 h2=>by lia⟩
  case ifin =>
   refine λc d=>eW λz0=>fk λl r=>eK λz1 G u hm o m=>?_;subst z0 z1
   obtain rfl:l=r:=by lia
   exact⟨rfl,l,l,rfl,u,o,m⟩
  case istep =>
   refine λx c d _ ac=>eW λz0=>fk λl r=>eK λz1 G u hm o m=>?_;subst z0 z1
   dsimp only
   by_cases y:l >= r
   .rw[bw y];obtain rfl:l=r:=by lia
    exact Xp ⟨rfl,l,l,rfl,u,o,m⟩
   .rw[bq y];refine XE (zda T v hk (by lia) ?_);by_cases f:Rk rk (Xn d) (lo+k)<Rk rk (Xn d) (lo+(l+r)/2)
    .simp only[f,decide_true,if_true];refine Xp ⟨rfl,l,(l+r)/2,rfl,by lia,by lia,by lia,o,λi h1 h2=>?_⟩;exact Int.lt_of_lt_of_le f (g _ _ (by lia) (by lia) (by lia))
    .simp only[f,decide_false,Wq,if_false];refine Xp ⟨rfl,(l+r)/2+1,r,rfl,by lia,by lia,by lia,λi h1=>?_,m⟩;exact Vw (g (lo+i) (lo+(l+r)/2) (by lia) (by lia) (by lia)) (Oa.mp f)
  case ipost =>
   refine λc d=>eW λz0=>eU λl r z1 aa o m=>?_;subst z0 z1
   show wpS _ _ _ _ (do moveDown' (lo+k) (lo+l);pure (Vk (none,()))) _ _
   rw[moveDown'_eq]
   have q:lo+k<(Xn d).size:=by
    rw[v.size];exact hk
   refine XE (SW (Xp ⟨rfl,⟨⟨(bubble_perm _ _ _).trans v.perm,v.kind,v.good⟩,p.pend,λi z=>?_⟩,?_⟩))
   .show (bubble (Xn d) (lo+k) (lo+k-(lo+l)))[i]?=_;rw[getElem?_bubble q _ (by lia),bq (by lia),bq (by lia)];exact p.low i z
   .rw[show min (k+1) n=k+1 by lia];intro i j z D U;show Rk rk (bubble (Xn d) (lo+k) (lo+k-(lo+l))) i<=Rk rk (bubble (Xn d) (lo+k) (lo+k-(lo+l))) j;rw[zeK q (by lia),zeK q (by lia),show lo+k-(lo+k-(lo+l))=lo+l by lia];have up:∀a b,lo<=a->a<=b->b<lo+k->Rk rk (Xn d) a<=Rk rk (Xn d) b:=g;have H:∀a,lo<=a->a<lo+l->Rk rk (Xn d) a<=Rk rk (Xn d) (lo+k):=λa J L=>by
     have:=o (a-lo) (by lia);rwa [show lo+(a-lo)=a by lia]at this
    have B:∀a,lo+l<=a->a<lo+k->Rk rk (Xn d) (lo+k)<Rk rk (Xn d) a:=λa J L=>by
     have:=m (a-lo) (by lia) (by lia);rwa [show lo+(a-lo)=a by lia]at this
    repeat' split
    all_goals first
     | (exfalso;lia)
     | exact UR _
     | exact H _ (by lia) (by lia)
     | exact VS (B _ (by lia) (by lia))
     | exact up _ _ (by lia) (by lia) (by lia)
def gallop':Bool->Xd->Array Xd->Nat->Nat->Nat->StateT WM Sem (Option Nat):=sortPriv% PySem.Builtin.gallop
def mergeLo':Array Xd->Array Xd->StateT WM Sem (Array Xd):=sortPriv% PySem.Builtin.mergeLo
def mergeHi':Array Xd->Array Xd->StateT WM Sem (Array Xd):=sortPriv% PySem.Builtin.mergeHi
def bey (rk:Xd->Int)(left:Bool)(a x:Xd):Bool:=if left then decide (rk x<rk a) else !decide (rk a<rk x)
def zgK {st:WM}{left:Bool}{z:Xd}{J:Array Xd}{base n hint:Nat}{Q:Option Nat->WM->Prop}(T:Tells prog w A s κ rk a0)(hk:kindOf st=κ)(D:z∈a0.toList)(b:Nat->Bool)
  (he:∀i,i<n->∃x,J[base+i]?=some x/\x∈a0.toList/\b i=bey rk left z x) (mono:∀i j,i<=j->j<n->b j=true->b i=true) (hh:hint<n)
  (h:∀k,k<=n->(∀i,i<k->b i=true)->(∀i,k<=i->i<n->b i=false)->Q (some k) st):wpS (Xw prog w) A E s (gallop' left z J base n hint) Q st:=by
 have one:∀{i:Nat} {O:Option Bool->WM->Prop},i<n->O (some (b i)) st->wpS (Xw prog w) A E s (do
   let x <- elem' J (base+i)
   if left=true then lt' x z
    else do
     let r <- lt' z x
     pure (Option.map (λx=>!x) r)) O st:=by
  intro i O y G;obtain⟨x,e1,Y,L⟩:=he i y;refine XE (jj e1 ?_);unfold bey at L;cases left with
  | true =>
   rw[bw rfl]at L ⊢;rw[L]at G;exact zlN T hk Y D G
  | false =>
   rw[bq XS]at L ⊢;rw[L]at G;exact XE (zlN T hk D Y (Xp G))
 have H:∀{f:Nat->Option (Option Nat)×AA->StateT WM Sem (ForInStep (Option (Option Nat)×AA))} {g:Option (Option Nat)×AA->StateT WM Sem (Option Nat)},
   (∀x l r (R:ForInStep (Option (Option Nat)×AA)->WM->Prop),l >= r->R (.done (none,l,r)) st->wpS (Xw prog w) A E s (f x (none,l,r)) R st) ->
   (∀x l r (R:ForInStep (Option (Option Nat)×AA)->WM->Prop),l<r->r<=n->R (.yield (if b (l+(r-l)/2)=true then (none,l+(r-l)/2+1,r) else (none,l,l+(r-l)/2))) st->wpS (Xw prog w) A E s (f x (none,l,r)) R st) ->
   (∀l r,Q (some r) st->wpS (Xw prog w) A E s (g (none,l,r)) Q st) ->
   ∀(lo y:Nat),lo<=y->y<=n->(∀i,i<lo->b i=true)->(∀i,y<=i->i<n->b i=false)->wpS (Xw prog w) A E s (forIn [:n] ((none,lo,y):Option (Option Nat)×AA) f >>= g) Q st:=by
  intro f g f1 f2 g1 lo y h1 h2 h3 h4;refine XE (Uk (VT (I:=λx c a=>a=st/\∃l r,c=(none,l,r)/\l<=r/\r<=n/\r-l<=n-x/\(∀i,i<l->b i=true)/\(∀i,r<=i->i<n->b i=false))
   (Q:=λc a=>a=st/\∃l,c=(none,l,l)/\l<=n/\(∀i,i<l->b i=true)/\(∀i,l<=i->i<n->b i=false)) ?step ?fin ⟨rfl,lo,y,rfl,h1,h2,by lia,h3,h4⟩) ?post)
  case fin =>
   rintro c a ⟨rfl,l,r,rfl,q,e,p,m,B⟩
   obtain rfl:l=r:=by lia
   exact⟨rfl,l,rfl,e,m,B⟩
  case post =>
   rintro c a ⟨rfl,l,rfl,e,m,B⟩
   exact g1 l l (h l e m B)
  case step =>
   refine λx c a _ hx=>eW λz0=>fk λl r=>eK λz1 q e p m B=>?_;subst z0 z1
   by_cases d:l >= r
   .obtain rfl:l=r:=by lia
    exact f1 x l l _ d ⟨rfl,l,rfl,e,m,B⟩
   .refine f2 x l r _ (by lia) e ?_;cases hb:b (l+(r-l)/2) with
    | true =>
     rw[bw rfl];exact⟨rfl,l+(r-l)/2+1,r,rfl,by lia,e,by lia,λi y=>mono i _ (by lia) (by lia) hb,B⟩
    | false =>
     rw[bq XS];refine⟨rfl,l,l+(r-l)/2,rfl,by lia,by lia,by lia,m,λi N M=>?_⟩;cases v:b i with
     | false=>rfl
     | true =>
      have:=mono _ i N M v;rw[hb]at this;cases this
 refine XE (one hh ?_);dsimp only;cases hb:b hint with
 | true =>
  rw[bw rfl];refine XE (Uk (VT (I:=λx c a=>a=st/\∃l o,c=(none,l,o)/\l<o/\hint+l<n/\b (hint+l)=true/\x+1<=o)
   (Q:=λc a=>a=st/\∃l o,c=(none,l,o)/\l<o/\hint+l<n/\b (hint+l)=true/\(o >= n-hint\/(hint+o<n/\b (hint+o)=false))) ?step ?fin ⟨rfl,0,1,rfl,by lia,hh,hb,by lia⟩) ?post)
  case fin =>
   rintro c a ⟨rfl,l,o,rfl,q,e,p,m⟩
   exact⟨rfl,l,o,rfl,q,e,p,.inl (by lia)⟩
  case step =>
   refine λx c a _ hx=>eW λz0=>eO λl o z1 q e p m=>?_;subst z0 z1
   dsimp only
   by_cases d:o >= n-hint
   .rw[bw d];exact Xp ⟨rfl,l,o,rfl,q,e,p,.inl d⟩
   .rw[bq d];refine XE (one (by lia) ?_);dsimp only;cases hbo:b (hint+o) with
    | false =>
     rw[bw (by decide)];exact Xp ⟨rfl,l,o,rfl,q,e,p,.inr ⟨by lia,hbo⟩⟩
    | true =>
     rw[bq (by decide)];exact Xp ⟨rfl,o,2*o+1,rfl,by lia,by lia,hbo,by lia⟩
  case post =>
   refine λc a=>eW λz0=>eO λl o z1 q e p m=>?_;subst z0 z1
   refine H (λx l r R d u=>?_) (λx l r R U hr u=>?_) (λl r G=>Xp G) (hint+l+1) (hint+min o (n-hint)) (by lia) (by lia) (λi y=>mono i (hint+l) (by lia) e p) λi N M=>?_
   .dsimp only;rw[bw d];exact Xp u
   .dsimp only;rw[bq (by lia)];refine XE (one (by lia) ?_);dsimp only;cases hbm:b (l+(r-l)/2) with
    | true =>
     rw[hbm,bw rfl]at u;rw[bw rfl];exact Xp u
    | false =>
     rw[hbm,bq XS]at u;rw[bq XS];exact Xp u
   .rcases m with m | ⟨m,B⟩
    .lia
    .cases v:b i with
     | false=>rfl
     | true =>
      have:=mono _ i (show hint+o<=i by lia) M v;rw[B]at this;cases this
 | false =>
  rw[bq XS];refine XE (Uk (VT (I:=λx c a=>a=st/\∃l o,c=(none,l,o)/\l<o/\l<=hint/\b (hint-l)=false/\x+1<=o)
   (Q:=λc a=>a=st/\∃l o,c=(none,l,o)/\l<o/\l<=hint/\b (hint-l)=false/\(o >= hint+1\/(o<=hint/\b (hint-o)=true))) ?step ?fin ⟨rfl,0,1,rfl,by lia,by lia,hb,by lia⟩) ?post)
  case fin =>
   rintro c a ⟨rfl,l,o,rfl,q,e,p,m⟩
   exact⟨rfl,l,o,rfl,q,e,p,.inl (by lia)⟩
  case step =>
   refine λx c a _ hx=>eW λz0=>eO λl o z1 q e p m=>?_;subst z0 z1
   dsimp only
   by_cases d:o >= hint+1
   .rw[bw d];exact Xp ⟨rfl,l,o,rfl,q,e,p,.inl d⟩
   .rw[bq d];refine XE (one (by lia) ?_);dsimp only;cases hbo:b (hint-o) with
    | true =>
     rw[bw rfl];exact Xp ⟨rfl,l,o,rfl,q,e,p,.inr ⟨by lia,hbo⟩⟩
    | false =>
     rw[bq (by decide)];exact Xp ⟨rfl,o,2*o+1,rfl,by lia,by lia,hbo,by lia⟩
  case post =>
   refine λc a=>eW λz0=>eO λl o z1 q e p m=>?_;subst z0 z1
   refine H (λx l r R d u=>?_) (λx l r R U hr u=>?_) (λl r G=>Xp G) (hint+1-min o (hint+1)) (hint-l) (by lia) (by lia) (λi y=>?_) λi N M=>?_
   .dsimp only;rw[bw d];exact Xp u
   .dsimp only;rw[bq (by lia)];refine XE (one (by lia) ?_);dsimp only;cases hbm:b (l+(r-l)/2) with
    | true =>
     rw[hbm,bw rfl]at u;rw[bw rfl];exact Xp u
    | false =>
     rw[hbm,bq XS]at u;rw[bq XS];exact Xp u
   .rcases m with m | ⟨m,B⟩
    .lia
    .exact mono i (hint-o) (by lia) (by lia) B
   .cases v:b i with
    | false=>rfl
    | true =>
     have:=mono _ i N M v;rw[p]at this;cases this
end
structure MI (rk:Xd->Int)(aL bL:List Xd)(ia ib:Nat)(oL:List Xd):Prop where
 perm:oL.Perm (aL.take ia++bL.take ib)
 srt:oL.Pairwise λx y=>rk x<=rk y
 la:∀x∈oL,∀y∈aL.drop ia,rk x<=rk y
 lb:∀x∈oL,∀y∈bL.drop ib,rk x<=rk y
section
variable {rk:Xd->Int}{aL bL oL:List Xd}{ia ib:Nat}
def MI.swap (M:MI rk aL bL ia ib oL):MI rk bL aL ib ia oL:=⟨M.perm.trans TN,M.srt,M.lb,M.la⟩
def zkg (l:List Xd)(i k:Nat):l.take (i+k)=l.take i++(l.drop i).take k:=by
 rw[List.take_add]
def MI.takeA (M:MI rk aL bL ia ib oL)(sa:aL.Pairwise λx y=>rk x<=rk y)(k:Nat)(h:∀x∈(aL.drop ia).take k,∀y∈bL.drop ib,rk x<=rk y):MI rk aL bL (ia+k) ib (oL++(aL.drop ia).take k):=by
 have b:(aL.drop ia).Pairwise λx y=>rk x<=rk y:=sa.sublist (QR _ _);have c:(aL.drop ia).drop k=aL.drop (ia+k):=OO;refine⟨?_,?_,λx hx y a=>?_,λx hx y a=>?_⟩
 .rw[zkg,WY];refine(M.perm.append_right _).trans ?_;rw[WY];exact Sj _ TN
 .rw[Ts];exact⟨M.srt,b.sublist (TM _ _),λx hx y a=>M.la x hx y (V0 a)⟩
 .rw[<- c]at a;rcases XO.mp hx with hx | hx
  .exact M.la x hx y (RX a)
  .have:=b;rw[<- WO k (aL.drop ia),Ts]at this;exact this.2.2 x hx y a
 .rcases XO.mp hx with hx | hx
  .exact M.lb x hx y a
  .exact h x hx y a
def MI.takeB (M:MI rk aL bL ia ib oL)(a:bL.Pairwise λx y=>rk x<=rk y)(k:Nat)(h:∀x∈(bL.drop ib).take k,∀y∈aL.drop ia,rk x<=rk y):MI rk aL bL ia (ib+k) (oL++(bL.drop ib).take k):=(M.swap.takeA a k h).swap
def Mg (rk:Xd->Int)(aL bL oL:List Xd):Prop:=oL.Perm (aL++bL)/\oL.Pairwise λx y=>rk x<=rk y
def MI.all (M:MI rk aL bL ia ib oL)(a:aL.length<=ia)(b:bL.length<=ib):Mg rk aL bL oL:=by
 have:=M.perm;rw[Wu a,Wu b]at this;exact⟨this,M.srt⟩
def MI.doneB (M:MI rk aL bL ia ib oL)(sa:aL.Pairwise λx y=>rk x<=rk y)(a:bL.length<=ib):Mg rk aL bL (oL++aL.drop ia):=by
 have:=M.takeA sa (aL.drop ia).length (λx _ y b=>by
  rw[So a]at b;cases b)
 rw[XC]at this;exact this.all (by rw[Vf];lia) a
def MI.lastA (M:MI rk aL bL ia ib oL)(sa:aL.Pairwise λx y=>rk x<=rk y)(c:bL.Pairwise λx y=>rk x<=rk y)(h:∀x∈bL,∀y∈aL.drop ia,rk x<=rk y):Mg rk aL bL (oL++bL.drop ib++aL.drop ia):=by
 have M2:=M.takeB c (bL.drop ib).length (λx a y b=>h x (RX (V0 a)) y b);rw[XC]at M2;exact M2.doneB sa (by rw[Vf];lia)
def ext_toList (a:Array Xd)(i j:Nat)(b:i<=j):(a.extract i j).toList=(a.toList.drop i).take (j-i):=by
 rw[OM,Rn]
def zaN (a:Array Xd)(i:Nat):(a.extract i a.size).toList=a.toList.drop i:=by
 rw[OM,Rn,Wu];rw[Vf,X6];exact XX _
def zlQ {a:Array Xd}{i:Nat}{x:Xd}(h:a[i]?=some x):(a.toList.drop i).take 1=[x]:=by
 have b:i<a.toList.length:=by
  rw[X6];exact(V4.mp h).1
 rw[WF b,Uo,List.take_zero];have:a.toList[i]?=some x:=by rw[Xy];exact h
 rw[X2 b]at this;rw[Option.some.inj this]
end
section
variable {prog:Xr}{w:Xe}{A:W1}{E:Y1->X8->Prop}{s:X8}{rk:Xd->Int}{κ:Tz}{a0:Array Xd}
structure Kept (st st':WM):Prop where
 arr:Xn st'=Xn st
 kind:kindOf st'=kindOf st
 pend:WL st'=WL st
 bad:SK st'=SK st
def setG':Nat->StateT WM Sem Unit:=sortPriv% PySem.Builtin.setMinGallop
def Kept.refl (st:WM):Kept st st:=⟨rfl,rfl,rfl,rfl⟩
def zfF {b st:WM}{g:Nat}{Q:Unit->WM->Prop}(k:Kept b st)(h:∀a,Kept b a->Q () a):wpS (Xw prog w) A E s (setG' g) Q st:=by
 have e:setG' g=modify λc=>SortSt.mk' (kindOf c) (Xn c) (WL c) g (SK c):=rfl;rw[e];exact SW (h _ ⟨k.arr,k.kind,k.pend,k.bad⟩)
def qA {α:Type}{c:Prop} [Decidable c]{x y:StateT WM Sem α}{Q:α->WM->Prop}{st:WM}(h1:c->wpS (Xw prog w) A E s x Q st)(h2:¬ c->wpS (Xw prog w) A E s y Q st):wpS (Xw prog w) A E s (if c then x else y) Q st:=by
 by_cases a:c
 .rw[bw a];exact h1 a
 .rw[bq a];exact h2 a
def jz {a:Array Xd}{i:Nat}(h:i<a.size):∃x,a[i]?=some x/\x∈a.toList:=⟨a[i],getElem?_pos a i h,by simp⟩
def Zh {a:Array Xd}(sa:a.toList.Pairwise λx y=>rk x<=rk y){i:Nat}{x:Xd}(e:a[i]?=some x):∀y∈a.toList.drop i,rk x<=rk y:=by
 have b:i<a.toList.length:=by
  rw[X6];exact(V4.mp e).1
 have c:a.toList[i]?=some x:=by rw[Xy];exact e
 rw[X2 b]at c;have d:=Option.some.inj c;have f:=sa.sublist (QR i a.toList);rw[WF b,d,Ru]at f;rw[WF b,d];intro y hy;rcases XJ.mp hy with rfl | hy
 .exact UR _
 .exact f.1 y hy
def Qe {a b c:Array Xd}{f d:Nat}(M:MI rk a.toList b.toList f d c.toList)(sa:a.toList.Pairwise λx y=>rk x<=rk y)(e:b.size<=d):Mg rk a.toList b.toList (c++a.extract f a.size++b.extract d b.size).toList:=by
 rw[Xb,Xb,zaN,zaN,So (as:=b.toList) (by rw[X6];exact e),WX];exact M.doneB sa (by rw[X6];exact e)
def Qf {a b d:Array Xd}{c g:Nat}(M:MI rk a.toList b.toList c g d.toList)(sa:a.toList.Pairwise λx y=>rk x<=rk y)(k:b.toList.Pairwise λx y=>rk x<=rk y)(i:∀x∈b.toList,∀y,a[a.size-1]?=some y->rk x<=rk y)(l:c+1=a.size):Mg rk a.toList b.toList (d++b.extract g b.size++a.extract c a.size).toList:=by
 rw[Xb,Xb,zaN,zaN];refine M.lastA sa k λx j y f=>?_;have e:c<a.toList.length:=by rw[X6];lia
 rw[WF e,So (by rw[X6];lia)]at f;have h:y=a.toList[c]:=by simpa using f
 refine i x j y ?_;rw[show a.size-1=c by lia,<- Xy,X2 e,h]
def zkh (a:Array Xd)(x:Xd):(a.push x).toList=a.toList++[x]:=Sw ..
def MI.oneB {a b c:Array Xd}{d f:Nat}{x:Xd}(M:MI rk a.toList b.toList d f c.toList)(k:b.toList.Pairwise λx y=>rk x<=rk y)(e:b[f]?=some x)(h:∀y∈a.toList.drop d,rk x<=rk y):MI rk a.toList b.toList d (f+1) (c.push x).toList:=by
 rw[zkh,<- zlQ e];refine M.takeB k 1 λz g y j=>?_;rw[zlQ e]at g;have i:z=x:=by simpa using g
 rw[i];exact h y j
def MI.oneA {a b c:Array Xd}{d f:Nat}{x:Xd}(M:MI rk a.toList b.toList d f c.toList)(sa:a.toList.Pairwise λx y=>rk x<=rk y)(e:a[d]?=some x)(h:∀y∈b.toList.drop f,rk x<=rk y):MI rk a.toList b.toList (d+1) f (c.push x).toList:=(MI.oneB M.swap sa e h).swap
def MI.someA {a b f:Array Xd}{c g k:Nat}{y:Xd}(M:MI rk a.toList b.toList c g f.toList)(sa:a.toList.Pairwise λx y=>rk x<=rk y)(o:b.toList.Pairwise λx y=>rk x<=rk y)(e:b[g]?=some y)(h:∀i x,i<k->a[c+i]?=some x->rk x<=rk y):MI rk a.toList b.toList (c+k) g (f++a.extract c (c+k)).toList:=by
 rw[Xb,ext_toList _ _ _ (Uf _ _),Py];refine M.takeA sa k λx m z n=>Vw ?_ (Zh o e z n);obtain⟨i,j,l⟩:=Tf m;have d:i<k:=by
  rw[XG]at j;lia
 refine h i x d ?_;have:((a.toList.drop c).take k)[i]?=some x:=by rw[X2 j,l]
 rw[List.getElem?_take,bw d,SV,Xy]at this;exact this
def MI.someB {a b d:Array Xd}{f c k:Nat}{y:Xd}(M:MI rk a.toList b.toList f c d.toList)(sa:a.toList.Pairwise λx y=>rk x<=rk y)(g:b.toList.Pairwise λx y=>rk x<=rk y)(e:a[f]?=some y)(h:∀i x,i<k->b[c+i]?=some x->rk x<=rk y):MI rk a.toList b.toList f (c+k) (d++b.extract c (c+k)).toList:=(MI.someA M.swap g sa e h).swap
def zbA {st:WM}{b:Xd}{a:Array Xd}{base n hint:Nat}{Q:Option Nat->WM->Prop}(T:Tells prog w A s κ rk a0)(hk:kindOf st=κ)(c:b∈a0.toList)(z:∀x∈a.toList,x∈a0.toList)(up:∀i j x y,base<=i->i<=j->j<base+n->a[i]?=some x->a[j]?=some y->rk x<=rk y)(B:base+n<=a.size)(r:hint<n)
  (h:∀k,k<=n->(∀i x,i<k->a[base+i]?=some x->rk x<=rk b)->(∀i x,k<=i->i<n->a[base+i]?=some x->rk b<rk x)->Q (some k) st):wpS (Xw prog w) A E s (gallop' false b a base n hint) Q st:=by
 have he:∀i,i<n->∃x,a[base+i]?=some x/\x∈a.toList:=λi f=>jz (by lia);refine zgK T hk c (λi=>match a[base+i]? with | some x=>bey rk false b x | none=>false) (λi f=>?_) (λi j u v d=>?_) r λk o h1 h2=>h k o (λi x f e=>?_) λi x g l e=>?_
 .obtain⟨x,e,m⟩:=he i f;refine⟨x,e,z x m,?_⟩;try dsimp only
  rw[e]
 .obtain⟨x,p,_⟩:=he i (by lia);obtain⟨y,q,_⟩:=he j v;try dsimp only at d ⊢
  rw[q]at d;rw[p];have:=up (base+i) (base+j) x y (by lia) (by lia) (by lia) p q;unfold bey at d ⊢;simp only[Wq,if_false,Wx,decide_eq_false_iff_not]at d ⊢;lia
 .have:=h1 i f;try dsimp only at this
  rw[e]at this;unfold bey at this;simp only[Wq,if_false,Wx,decide_eq_false_iff_not]at this;lia
 .have:=h2 i g l;try dsimp only at this
  rw[e]at this;unfold bey at this;simp only[Wq,if_false,Bool.not_eq_false',bu]at this;exact this
def zbB {st:WM}{b:Xd}{a:Array Xd}{base n hint:Nat}{Q:Option Nat->WM->Prop}(T:Tells prog w A s κ rk a0)(hk:kindOf st=κ)(c:b∈a0.toList)(z:∀x∈a.toList,x∈a0.toList)(up:∀i j x y,base<=i->i<=j->j<base+n->a[i]?=some x->a[j]?=some y->rk x<=rk y)(B:base+n<=a.size)(r:hint<n)
  (h:∀k,k<=n->(∀i x,i<k->a[base+i]?=some x->rk x<rk b)->(∀i x,k<=i->i<n->a[base+i]?=some x->rk b<=rk x)->Q (some k) st):wpS (Xw prog w) A E s (gallop' true b a base n hint) Q st:=by
 have he:∀i,i<n->∃x,a[base+i]?=some x/\x∈a.toList:=λi f=>jz (by lia);refine zgK T hk c (λi=>match a[base+i]? with | some x=>bey rk true b x | none=>false) (λi f=>?_) (λi j u v d=>?_) r λk o h1 h2=>h k o (λi x f e=>?_) λi x g l e=>?_
 .obtain⟨x,e,m⟩:=he i f;refine⟨x,e,z x m,?_⟩;try dsimp only
  rw[e]
 .obtain⟨x,p,_⟩:=he i (by lia);obtain⟨y,q,_⟩:=he j v;try dsimp only at d ⊢
  rw[q]at d;rw[p];have:=up (base+i) (base+j) x y (by lia) (by lia) (by lia) p q;unfold bey at d ⊢;simp only[if_true,bu]at d ⊢;lia
 .have:=h1 i f;try dsimp only at this
  rw[e]at this;unfold bey at this;simp only[if_true,bu]at this;exact this
 .have:=h2 i g l;try dsimp only at this
  rw[e]at this;unfold bey at this;simp only[if_true,decide_eq_false_iff_not]at this;lia
def zjh {a:Array Xd}(sa:a.toList.Pairwise λx y=>rk x<=rk y){i j:Nat}{x y:Xd}(d:i<=j)(c:a[i]?=some x)(b:a[j]?=some y):rk x<=rk y:=by
 refine Zh sa c y ?_;have e:j<a.toList.length:=by
  rw[X6];exact(V4.mp b).1
 refine X7 (i:=j-i) ?_;rw[SV,Xy,show i+(j-i)=j by lia];exact b
set_option maxHeartbeats 8000000 in
theorem via {P:Prop}(h:∀G:Prop,(P->G)->G):P:=h P id
structure Key (P:Prop):Prop where
 get:P
def cut {P R:Prop}(k:P)(h:Key P->R):R:=h ⟨k⟩
def zki {p:WM}{a b:Array Xd}{Q:Array Xd->WM->Prop}(T:Tells prog w A s κ rk a0)(hk:kindOf p=κ)(ma:∀x∈a.toList,x∈a0.toList)(mb:∀x∈b.toList,x∈a0.toList)(sa:a.toList.Pairwise λx y=>rk x<=rk y)(O:b.toList.Pairwise λx y=>rk x<=rk y)
  (ha:0<a.size) (hb:0<b.size) (h0:∀x y,b[0]?=some x->y∈a.toList->rk x<=rk y) (au:∀x∈b.toList,∀y,a[a.size-1]?=some y->rk x<rk y)
  (h:∀d l,Kept p l->Mg rk a.toList b.toList d.toList->Q d l):wpS (Xw prog w) A E s (mergeLo' a b) Q p:=by
 have hl:∀x∈b.toList,∀y,a[a.size-1]?=some y->rk x<=rk y:=λx hx y hy=>VS (au x hx y hy);refine XE (PV (Uu ⟨rfl,?_⟩));obtain⟨b0,ah,_⟩:=jz hb;refine XE (jj ah ?_);have M0:MI rk a.toList b.toList 0 0 (#[]:Array Xd).toList:=⟨by simp,List.Pairwise.nil,(λx hx=>nomatch hx),(λx hx=>nomatch hx)⟩;have M1:MI rk a.toList b.toList 0 1 (#[b0]:Array Xd).toList:=MI.oneB M0 O ah λy hy=>h0 b0 y ah (by simpa using hy);dsimp -zeta only;refine qA (λhc=>Xp (h _ _ (Kept.refl _) (Qe M1 sa (by rw[show 1=b.size by simpa using hc];exact XX _)))) λhc=>?_;refine qA (λak=>Xp (h _ _ (Kept.refl _) (Qf M1 sa O hl (by simpa using ak)))) λak=>?_;have az:1<b.size:=by
  have:¬ 1=b.size:=by simpa using hc
  lia
 have ay:0+1<a.size:=by
  have:¬ 0+1=a.size:=by simpa using ak
  lia
 refine XE (Sa ?_);refine XE (Uk (VT (I:=λx c l=>∃d f g mg,c=(none,d,f,g,mg)/\MI rk a.toList b.toList f g d.toList/\f+1<a.size/\g<b.size/\x+1<=f+g/\Kept p l)
  (Q:=λc l=>∃m,c.1=some m/\Mg rk a.toList b.toList m.toList/\Kept p l) ?step ?fin ⟨_,0,1,_,rfl,M1,ay,az,by lia,Kept.refl _⟩) ?post)
 case fin =>
  rintro c l ⟨d,f,g,mg,rfl,M,h1,h2,h3,k⟩
  lia
 case post =>
  rintro⟨c1,c2⟩ l ⟨m,e,hM,k⟩
  dsimp only at e ⊢
  subst e
  exact Xp (h _ _ k hM)
 case step =>
  intro x0 c ao _ aB hI
  refine via λG n=>?_
  obtain⟨d,f,g,mg,rfl,M,h1,h2,h3,k1⟩:=hI
  refine n ?_
  clear n
  have a6:kindOf ao=κ:=k1.kind.trans hk
  dsimp -zeta only
  refine XE (Uk (VT (I:=λx c l=>l=ao/\∃d f g D H,c=(none,d,f,g,D,H)/\MI rk a.toList b.toList f g d.toList/\f+1<a.size/\g<b.size/\x0+1+x<=f+g)
   (Q:=λc l=>l=ao/\((∃m,c.1=some m/\Mg rk a.toList b.toList m.toList)\/∃d f g D H,c=(none,d,f,g,D,H)/\MI rk a.toList b.toList f g d.toList/\f+1<a.size/\g<b.size/\x0+2<=f+g)) ?step1 ?fin1 (dY rfl rfl M h1 h2 (by lia))) ?post1)
  case fin1 =>
   refine λc l=>eW λz0=>eS λd f g D H=>eH λz1 M h1 h2 h3=>?_;subst z0 z1
   exact⟨rfl,.inr ⟨d,f,g,D,H,rfl,M,h1,h2,by lia⟩⟩
  case step1 =>
   intro x c l _ hx hI
   refine via λG n=>?_
   obtain⟨rfl,d,f,g,D,H,rfl,M,h1,h2,h3⟩:=hI
   obtain⟨y,ey,my⟩:=jz h2
   obtain⟨z,r,mz⟩:=jz (a:=a) (i:=f) (by lia)
   refine n ?_
   clear n
   dsimp -zeta only
   refine XE (jj ey (XE (jj r (XE (zlN T a6 (mb y my) (ma z mz) ?_)))))
   dsimp -zeta only
   refine qA (λam=>?_) λam=>?_
   .have aa:rk y<rk z:=bh am;have M2:=MI.oneB M O ey λv hv=>Vw (VS aa) (Zh sa r v hv);refine XE (jj ey ?_);refine qA (λhe=>Xp ⟨rfl,.inl ⟨_,rfl,Qe M2 sa (by rw[show g+1=b.size by simpa using he];exact XX _)⟩⟩) λhe=>?_;have af:g+1<b.size:=by
     have:¬ g+1=b.size:=by simpa using he
     lia
    exact qA (λ_=>Xp ⟨rfl,.inr ⟨_,_,_,_,_,rfl,M2,h1,af,by lia⟩⟩) λ_=>Xp ⟨rfl,_,_,_,_,_,rfl,M2,h1,af,by lia⟩
   .have aa:¬ rk y<rk z:=λq=>am (br q);have M2:=MI.oneA M sa r λv hv=>Vw (Oa.mp aa) (Zh O ey v hv);refine XE (jj r ?_);refine qA (λhe=>Xp ⟨rfl,.inl ⟨_,rfl,Qf M2 sa O hl (by simpa using he)⟩⟩) λhe=>?_;have Y:f+1+1<a.size:=by
     have:¬ f+1+1=a.size:=by simpa using he
     lia
    exact qA (λ_=>Xp ⟨rfl,.inr ⟨_,_,_,_,_,rfl,M2,Y,h2,by lia⟩⟩) λ_=>Xp ⟨rfl,_,_,_,_,_,rfl,M2,Y,h2,by lia⟩
  case post1 =>
   intro c l hI
   refine via λG n=>?_
   rcases hI with ⟨rfl,a4 | ⟨d,f,g,D,H,rfl,M,h1,h2,h3⟩⟩
   all_goals (refine n ?_;clear n)
   .obtain⟨m,e,hM⟩:=a4;obtain⟨c1,c2⟩:=c;dsimp only at e ⊢;subst e;exact Xp ⟨m,rfl,hM,k1⟩
   dsimp -zeta only
   refine XE (PV (Uu ⟨rfl,?_⟩))
   refine XE (Uk (VT (I:=λx c B=>∃d f g mg D H,c=(none,d,f,g,mg,D,H)/\MI rk a.toList b.toList f g d.toList/\f+1<a.size/\g<b.size/\x0+2<=f+g/\Kept p B)
    (Q:=λc B=>(∃m,c.1=some m/\Mg rk a.toList b.toList m.toList/\Kept p B)\/∃d f g mg D H,c=(none,d,f,g,mg,D,H)/\MI rk a.toList b.toList f g d.toList/\f+1<a.size/\g<b.size/\x0+2<=f+g/\Kept p B) ?step2 ?fin2 (dS (dO rfl M h1 h2 h3 k1))) ?post2)
   case fin2 =>
    rintro c B hc
    exact .inr hc
   case post2 =>
    rintro c B (⟨m,e,hM,k2⟩ | ⟨d,f,g,mg,D,H,rfl,M,h1,h2,h3,k2⟩)
    .obtain⟨c1,c2⟩:=c;dsimp only at e ⊢;subst e;exact Xp ⟨m,rfl,hM,k2⟩
    .dsimp -zeta only;exact XE (zfF k2 λaw k3=>Xp ⟨_,_,_,_,rfl,M,h1,h2,by lia,k3⟩)
   case step2 =>
    intro x c B _ hx hI
    refine via λG n=>?_
    obtain⟨d,f,g,mg,D,H,rfl,M,h1,h2,h3,k2⟩:=hI
    obtain⟨y,ey,my⟩:=jz h2
    refine n ?_
    clear n
    dsimp -zeta only
    refine' cut ?key1 λo=>qA (λa7=>?a1) λa7=>?b1
    case a1 =>
     generalize mg-1=av
     revert av
     exact o.get
    case b1=>exact o.get mg
    intro av
    dsimp -zeta only
    refine XE (zfF k2 λaw k3=>?_)
    have ar:kindOf aw=κ:=k3.kind.trans hk
    refine XE (jj ey (XE (zbA T ar (mb y my) ma (λi j u v _ al _ eu J=>zjh sa al eu J) (by lia) (by lia) λk a9 g1 g2=>?_)))
    dsimp -zeta only
    refine' cut ?key2 λo=>qA (λa5=>?a2) λa5=>?b2
    case a2 =>
     have M2:=MI.someA M sa O ey g1
     refine qA (λhe=>Xp (.inl ⟨_,rfl,Qf M2 sa O hl (by simpa using he),k3⟩)) λhe=>?_
     have aC:¬ f+k+1=a.size:=by simpa using he
     have kl:f+k<a.size:=by
      refine Nat.lt_of_not_le λa8=>?_;obtain⟨v,J,mv⟩:=jz (a:=a) (i:=a.size-1) (by lia);have q1:=g1 (a.size-1-f) v (by lia) (by rw[show f+(a.size-1-f)=a.size-1 by lia];exact J);have q2:=au y my v J;lia
     refine qA (λap=>absurd (show f+k=a.size by simpa using ap) (by lia)) λap=>?_
     have ai:f+k+1<a.size:=by lia
     have aj:x0+2<=f+k+g:=by lia
     have ab:∀z,a[f+k]?=some z->rk y<=rk z:=λz r=>VS (g2 k z (XX _) (by lia) r)
     generalize d++a.extract f (f+k)=ag at M2 ⊢
     generalize f+k=N at M2 ai aj ab ⊢
     revert ab;revert aj;revert ai;revert M2;revert N;revert ag
     exact o.get
    case b2=>exact o.get d f M h1 h3 λz r=>VS (g2 0 z (by lia) (by lia) (by simpa using r))
    intro ag N M2 ai aj ab
    refine via λG n=>?_
    obtain⟨z,r,mz⟩:=jz (a:=a) (i:=N) (by lia)
    refine n ?_
    clear n
    have M3:=MI.oneB M2 O ey λv hv=>Vw (ab z r) (Zh sa r v hv)
    refine XE (jj ey ?_)
    refine qA (λhe=>Xp (.inl ⟨_,rfl,Qe M3 sa (by rw[show g+1=b.size by simpa using he];exact XX _),k3⟩)) λhe=>?_
    have af:g+1<b.size:=by
     have:¬ g+1=b.size:=by simpa using he
     lia
    refine XE (jj r (XE (zbB T ar (ma z mz) mb (λi j u v _ al _ eu J=>zjh O al eu J) (by lia) (by lia) λk' aA g3 g4=>?_)))
    dsimp -zeta only
    refine' cut ?key3 λo=>qA (λaq=>?a3) λaq=>?b3
    case a3 =>
     have M4:=MI.someB M3 sa O r λi u hi eu=>VS (g3 i u hi eu)
     refine qA (λhe=>Xp (.inl ⟨_,rfl,Qe M4 sa (by rw[show g+1+k'=b.size by simpa using he];exact XX _),k3⟩)) λhe=>?_
     have L:g+1+k'<b.size:=by
      have:¬ g+1+k'=b.size:=by simpa using he
      lia
     have ae:∀v,b[g+1+k']?=some v->rk z<=rk v:=λv J=>g4 k' v (XX _) (by lia) J
     have U:x0+2<=N+(g+1+k'):=by lia
     generalize ag.push y++b.extract (g+1) (g+1+k')=ax at M4 ⊢
     generalize g+1+k'=an at M4 L ae U ⊢
     revert U;revert ae;revert L;revert M4;revert an;revert ax
     exact o.get
    case b3=>exact o.get (ag.push y) (g+1) M3 af (λv J=>g4 0 v (by lia) (by lia) (by simpa using J)) (by lia)
    intro ax an M4 L ae U
    refine via λG n=>?_
    obtain⟨v,J,mv⟩:=jz (a:=b) (i:=an) L
    refine n ?_
    clear n
    have M5:=MI.oneA M4 sa r λu hu=>Vw (ae v J) (Zh O J u hu)
    refine XE (jj r ?_)
    refine qA (λhe=>Xp (.inl ⟨_,rfl,Qf M5 sa O hl (by simpa using he),k3⟩)) λhe=>?_
    have Y:N+1+1<a.size:=by
     have:¬ N+1+1=a.size:=by simpa using he
     lia
    exact qA (λ_=>Xp (.inr ⟨_,_,_,_,_,_,rfl,M5,Y,L,by lia,k3⟩)) λ_=>Xp ⟨_,_,_,_,_,_,rfl,M5,Y,L,by lia,k3⟩
end
def neg (rk:Xd->Int):Xd->Int:=λx=>- rk x
def zcy {a:Array Xd}{j:Nat}(h:j<a.size):a.reverse[j]?=a[a.size-1-j]?:=by
 rw[Pi h]
def Hi (rk:Xd->Int)(a b:Array Xd)(d e:Nat)(c:Array Xd):Prop:=MI (neg rk) a.reverse.toList b.reverse.toList (a.size-d) (b.size-e) c.toList
section
variable {rk:Xd->Int}{a b out:Array Xd}{na nb:Nat}
def Yv (sa:a.toList.Pairwise λx y=>rk x<=rk y):a.reverse.toList.Pairwise λx y=>neg rk x<=neg rk y:=by
 rw[U5,O2];exact sa.imp λh=>SF h
def zdb {i:Nat}{x:Xd}(h1:1<=i)(h2:i<=a.size)(e:a[i-1]?=some x):a.reverse[a.size-i]?=some x:=by
 rw[zcy (by lia),show a.size-1-(a.size-i)=i-1 by lia];exact e
theorem Hi.oneA {x y:Xd}(M:Hi rk a b na nb out)(sa:a.toList.Pairwise λx y=>rk x<=rk y)(i:b.toList.Pairwise λx y=>rk x<=rk y)(h1:1<=na)(h2:na<=a.size)(e:1<=nb)(f:nb<=b.size)(c:a[na-1]?=some x)(d:b[nb-1]?=some y)(h:rk y<=rk x):Hi rk a b (na-1) nb (out.push x):=by
 have:=MI.oneA (rk:=neg rk) M (Yv sa) (zdb h1 h2 c) λv g=>Vw (SF h) (Zh (Yv i) (zdb e f d) v g);unfold Hi;rw[show a.size-(na-1)=a.size-na+1 by lia];exact this
theorem Hi.oneB {x y:Xd}(M:Hi rk a b na nb out)(sa:a.toList.Pairwise λx y=>rk x<=rk y)(i:b.toList.Pairwise λx y=>rk x<=rk y)(h1:1<=na)(h2:na<=a.size)(e:1<=nb)(f:nb<=b.size)(c:a[na-1]?=some x)(d:b[nb-1]?=some y)(h:rk x<=rk y):Hi rk a b na (nb-1) (out.push y):=by
 have:=MI.oneB (rk:=neg rk) M (Yv i) (zdb e f d) λv g=>Vw (SF h) (Zh (Yv sa) (zdb h1 h2 c) v g);unfold Hi;rw[show b.size-(nb-1)=b.size-nb+1 by lia];exact this
def znZ {i j:Nat}(h1:i<=j)(h2:j<=a.size):(a.extract i j).reverse=a.reverse.extract (a.size-j) (a.size-j+(j-i)):=by
 apply Array.ext_getElem?;intro k;by_cases hk:k<j-i
 .rw[Pi (by rw[T4];lia),Sm,Sm,T4];rw[bw (by lia),bw (by rw[UM];lia),zcy (by lia)];congr 1;lia
 .rw[WI (by rw[UM,T4];lia),WI (by rw[T4,UM];lia)]
theorem Hi.someA {i:Nat}{y:Xd}(M:Hi rk a b na nb out)(sa:a.toList.Pairwise λx y=>rk x<=rk y)(g:b.toList.Pairwise λx y=>rk x<=rk y)(h1:i<=na)(h2:na<=a.size)(e:1<=nb)(f:nb<=b.size)(d:b[nb-1]?=some y)(h:∀j x,i<=j->j<na->a[j]?=some x->rk y<=rk x):Hi rk a b i nb (out++(a.extract i na).reverse):=by
 have:=MI.someA (rk:=neg rk) (k:=na-i) M (Yv sa) (Yv g) (zdb e f d) λj x l c=>SF (h (na-1-j) x (by lia) (by lia) (by
  rw[zcy (by lia)]at c;rw[<- c];congr 1;lia))
 unfold Hi;rw[znZ h1 h2,show a.size-i=a.size-na+(na-i) by lia];exact this
def Hi.someB {i:Nat}{y:Xd}(M:Hi rk a b na nb out)(sa:a.toList.Pairwise λx y=>rk x<=rk y)(f:b.toList.Pairwise λx y=>rk x<=rk y)(h1:i<=nb)(h2:nb<=b.size)(d:1<=na)(e:na<=a.size)(c:a[na-1]?=some y)(h:∀j x,i<=j->j<nb->b[j]?=some x->rk y<=rk x):Hi rk a b na i (out++(b.extract i nb).reverse):=(Hi.someA (a:=b) (b:=a) M.swap f sa h1 h2 d e c h).swap
def zlS {c:List Xd}(h:Mg (neg rk) b.reverse.toList a.reverse.toList c):Mg rk a.toList b.toList c.reverse:=by
 obtain⟨p,q⟩:=h;rw[U5,U5]at p;refine⟨?_,?_⟩
 .refine(QQ _).trans (p.trans (TN.trans ?_));exact List.Perm.append (QQ _) (QQ _)
 .rw[O2];refine q.imp λ{x y} h=>?_;have d:- rk x<=- rk y:=h;lia
def zcz {i:Nat}(h:i<=a.size):(a.reverse.extract (a.size-i) a.reverse.size).toList.reverse=(a.extract 0 i).toList:=by
 rw[zaN,U5,ext_toList _ _ _ (WZ _),List.drop_zero,Nat.sub_zero];have:=List.reverse_take (l:=a.toList) (i:=i);rw[X6]at this;rw[<- this,OL]
def Hi.done (M:Hi rk a b 0 nb out)(d:b.toList.Pairwise λx y=>rk x<=rk y)(h:nb<=b.size):Mg rk a.toList b.toList (a.extract 0 0++b.extract 0 nb++out.reverse).toList:=by
 have h1:=Qe (rk:=neg rk) (a:=b.reverse) (b:=a.reverse) M.swap (Yv d) (by rw[UM];lia);have h2:=zlS h1;rw[Xb,Xb,Te,Te,zcz h]at h2;have c:=zcz (a:=a) (i:=0) (WZ _);rw[c]at h2;rw[Xb,Xb,U5,WY];exact h2
def Hi.first (M:Hi rk a b na 1 out)(sa:a.toList.Pairwise λx y=>rk x<=rk y)(f:b.toList.Pairwise λx y=>rk x<=rk y)(g:0<b.size)(h:na<=a.size)(h0:∀x y,b[0]?=some x->y∈a.toList->rk x<rk y):Mg rk a.toList b.toList (b.extract 0 1++a.extract 0 na++out.reverse).toList:=by
 have h1:=Qf (rk:=neg rk) (a:=b.reverse) (b:=a.reverse) M.swap (Yv f) (Yv sa) (λx e y d=>by
  rw[UM,zcy (by lia),show b.size-1-(b.size-1)=0 by lia]at d;have c:x∈a.toList:=by simpa using e
  exact SF (VS (h0 y x d c))) (by rw[UM];lia)
 have h2:=zlS h1;rw[Xb,Xb,Te,Te,zcz h,zcz (by lia)]at h2;rw[Xb,Xb,U5,WY];exact h2
end
section
variable {prog:Xr}{w:Xe}{A:W1}{E:Y1->X8->Prop}{s:X8}{rk:Xd->Int}{κ:Tz}{a0:Array Xd}
set_option maxHeartbeats 8000000 in
theorem zkj {p:WM}{a b:Array Xd}{Q:Array Xd->WM->Prop}(T:Tells prog w A s κ rk a0)(hk:kindOf p=κ)(ma:∀x∈a.toList,x∈a0.toList)(mb:∀x∈b.toList,x∈a0.toList)(sa:a.toList.Pairwise λx y=>rk x<=rk y)(r:b.toList.Pairwise λx y=>rk x<=rk y)
  (ha:0<a.size) (hb:0<b.size) (h0:∀x y,b[0]?=some x->y∈a.toList->rk x<rk y) (hl:∀x∈b.toList,∀y,a[a.size-1]?=some y->rk x<rk y)
  (h:∀d l,Kept p l->Mg rk a.toList b.toList d.toList->Q d l):wpS (Xw prog w) A E s (mergeHi' a b) Q p:=by
 refine XE (PV (Uu ⟨rfl,?_⟩));obtain⟨z0,aj,_⟩:=jz (a:=a) (i:=a.size-1) (by lia);obtain⟨y0,a7,aE⟩:=jz (a:=b) (i:=b.size-1) (by lia);refine XE (jj aj ?_);have M0:Hi rk a b a.size b.size #[]:=by
  unfold Hi;rw[To,To];exact⟨by simp,List.Pairwise.nil,(λx hx=>nomatch hx),(λx hx=>nomatch hx)⟩
 have M1:Hi rk a b (a.size-1) b.size #[z0]:=M0.oneA sa r (by lia) (XX _) (by lia) (XX _) aj a7 (VS (hl y0 aE z0 aj));dsimp -zeta only;refine qA (λhc=>Xp (h _ _ (Kept.refl _) ?_)) λhc=>?_
 .have e:a.size-1=0:=by simpa using hc
  rw[e]at M1 ⊢;exact M1.done r (XX _)
 refine qA (λam=>Xp (h _ _ (Kept.refl _) ?_)) λam=>?_
 .have e:b.size=1:=by simpa using am
  rw[e]at M1 ⊢;exact M1.first sa r hb (by lia) h0
 have a8:1<=a.size-1:=by
  have:¬ a.size-1=0:=by simpa using hc
  lia
 have a9:1<b.size:=by
  have:¬ b.size=1:=by simpa using am
  lia
 refine XE (Sa ?_);refine XE (Uk (VT (I:=λx c l=>∃g f d mg,c=(none,g,f,d,mg)/\Hi rk a b g f d/\1<=g/\g<a.size/\1<f/\f<=b.size/\g+f+x+1<=a.size+b.size/\Kept p l)
  (Q:=λc l=>∃m,c.1=some m/\Mg rk a.toList b.toList m.toList/\Kept p l) ?step ?fin ⟨_,_,_,_,rfl,M1,a8,by lia,a9,XX _,by lia,Kept.refl _⟩) ?post)
 case fin =>
  rintro c l ⟨g,f,d,mg,rfl,M,h1,h2,h3,n,h5,k⟩
  lia
 case post =>
  rintro⟨c1,c2⟩ l ⟨m,e,hM,k⟩
  dsimp only at e ⊢
  subst e
  exact Xp (h _ _ k hM)
 case step =>
  intro x0 c au _ aH hI
  refine via λG L=>?_
  obtain⟨g,f,d,mg,rfl,M,h1,h2,h3,n,h5,k1⟩:=hI
  refine L ?_
  clear L
  have aC:kindOf au=κ:=k1.kind.trans hk
  dsimp -zeta only
  refine XE (Uk (VT (I:=λx c l=>l=au/\∃g f d O U,c=(none,g,f,d,O,U)/\Hi rk a b g f d/\1<=g/\g<a.size/\1<f/\f<=b.size/\g+f+x0+1+x<=a.size+b.size)
   (Q:=λc l=>l=au/\((∃m,c.1=some m/\Mg rk a.toList b.toList m.toList)\/∃g f d O U,c=(none,g,f,d,O,U)/\Hi rk a b g f d/\1<=g/\g<a.size/\1<f/\f<=b.size/\g+f+x0+2<=a.size+b.size)) ?step1 ?fin1 (dY rfl rfl M h1 h2 (dF h3 n (by lia)))) ?post1)
  case fin1 =>
   refine λc l=>eW λz0=>eS λg f d O U=>eH λz1 M h1 h2=>eF λh3 n h5=>?_;subst z0 z1
   exact⟨rfl,.inr ⟨g,f,d,O,U,rfl,M,h1,h2,h3,n,by lia⟩⟩
  case step1 =>
   intro x c l _ hx hI
   refine via λG L=>?_
   obtain⟨rfl,g,f,d,O,U,rfl,M,h1,h2,h3,n,h5⟩:=hI
   obtain⟨y,ey,my⟩:=jz (a:=b) (i:=f-1) (by lia)
   obtain⟨z,B,mz⟩:=jz (a:=a) (i:=g-1) (by lia)
   refine L ?_
   clear L
   dsimp -zeta only
   refine XE (jj ey (XE (jj B (XE (zlN T aC (mb y my) (ma z mz) ?_)))))
   dsimp -zeta only
   refine qA (λaq=>?_) λaq=>?_
   .have ae:rk y<rk z:=bh aq;have M2:=M.oneA sa r h1 (by lia) (by lia) n B ey (VS ae);refine XE (jj B ?_);refine qA (λhe=>Xp ⟨rfl,.inl ⟨_,rfl,?_⟩⟩) λhe=>?_
    .have e:g-1=0:=by simpa using he
     rw[e]at M2 ⊢;exact M2.done r n
    have hn:1<=g-1:=by
     have:¬ g-1=0:=by simpa using he
     lia
    exact qA (λ_=>Xp ⟨rfl,.inr (dZ rfl M2 hn (by lia) (dF h3 n (by lia)))⟩) λ_=>Xp (dY rfl rfl M2 hn (by lia) (dF h3 n (by lia)))
   .have ae:¬ rk y<rk z:=λq=>aq (br q);have M2:=M.oneB sa r h1 (by lia) (by lia) n B ey (Oa.mp ae);refine XE (jj ey ?_);refine qA (λhe=>Xp ⟨rfl,.inl ⟨_,rfl,?_⟩⟩) λhe=>?_
    .have e:f-1=1:=by simpa using he
     rw[e]at M2 ⊢;exact M2.first sa r hb (by lia) h0
    have hn:1<f-1:=by
     have:¬ f-1=1:=by simpa using he
     lia
    exact qA (λ_=>Xp ⟨rfl,.inr ⟨_,_,_,_,_,rfl,M2,h1,h2,hn,by lia,by lia⟩⟩) λ_=>Xp (dY rfl rfl M2 h1 h2 (dF hn (by lia) (by lia)))
  case post1 =>
   intro c l hI
   refine via λG L=>?_
   rcases hI with ⟨rfl,aA | ⟨g,f,d,O,U,rfl,M,h1,h2,h3,n,h5⟩⟩
   all_goals (refine L ?_;clear L)
   .obtain⟨m,e,hM⟩:=aA;obtain⟨c1,c2⟩:=c;dsimp only at e ⊢;subst e;exact Xp ⟨m,rfl,hM,k1⟩
   dsimp -zeta only
   refine XE (PV (Uu ⟨rfl,?_⟩))
   refine XE (Uk (VT (I:=λx c J=>∃g f d mg O U,c=(none,g,f,d,mg,O,U)/\Hi rk a b g f d/\1<=g/\g<a.size/\1<f/\f<=b.size/\g+f+x0+2<=a.size+b.size/\Kept p J)
    (Q:=λc J=>(∃m,c.1=some m/\Mg rk a.toList b.toList m.toList/\Kept p J)\/∃g f d mg O U,c=(none,g,f,d,mg,O,U)/\Hi rk a b g f d/\1<=g/\g<a.size/\1<f/\f<=b.size/\g+f+x0+2<=a.size+b.size/\Kept p J) ?step2 ?fin2 (dU (dW rfl M h1 h2 h3 n h5 k1))) ?post2)
   case fin2 =>
    rintro c J hc
    exact .inr hc
   case post2 =>
    rintro c J (⟨m,e,hM,k2⟩ | ⟨g,f,d,mg,O,U,rfl,M,h1,h2,h3,n,h5,k2⟩)
    .obtain⟨c1,c2⟩:=c;dsimp only at e ⊢;subst e;exact Xp ⟨m,rfl,hM,k2⟩
    .dsimp -zeta only;exact XE (zfF k2 λa5 k3=>Xp (dS (dW rfl M h1 h2 h3 n (by lia) k3)))
   case step2 =>
    intro x c J _ hx hI
    refine via λG L=>?_
    obtain⟨g,f,d,mg,O,U,rfl,M,h1,h2,h3,n,h5,k2⟩:=hI
    obtain⟨y,ey,my⟩:=jz (a:=b) (i:=f-1) (by lia)
    refine L ?_
    clear L
    dsimp -zeta only
    refine' cut ?key1 λo=>qA (λaD=>?a1) λaD=>?b1
    case a1 =>
     generalize mg-1=a4
     revert a4
     exact o.get
    case b1=>exact o.get mg
    intro a4
    dsimp -zeta only
    refine XE (zfF k2 λa5 k3=>?_)
    have ax:kindOf a5=κ:=k3.kind.trans hk
    refine XE (jj ey (XE (zbA T ax (mb y my) ma (λi j u v _ an _ eu Y=>zjh sa an eu Y) (by lia) (by lia) λk aF g1 g2=>?_)))
    dsimp -zeta only
    refine' cut ?key2 λo=>qA (λaB=>?a2) λaB=>?b2
    case a2 =>
     have M2:=M.someA sa r (i:=k) (by lia) (by lia) (by lia) n ey λj u ao ap eu=>VS (g2 j u ao ap (by simpa using eu))
     refine qA (λhe=>Xp (.inl ⟨_,rfl,(by
      have e:k=0:=by simpa using he
      rw[e]at M2 ⊢;exact M2.done r n),k3⟩)) λhe=>?_
     have aa:1<=k:=by
      have:¬ k=0:=by simpa using he
      lia
     have ak:k<a.size:=by lia
     have al:k+f+x0+2<=a.size+b.size:=by lia
     have ag:∀z,a[k-1]?=some z->rk z<=rk y:=λz B=>g1 (k-1) z (by lia) (by simpa using B)
     generalize d++(a.extract k g).reverse=ai at M2 ⊢
     generalize g-k=kk
     generalize k=H at M2 aa ak al ag ⊢
     revert ag;revert al;revert ak;revert aa;revert M2;revert H;revert kk;revert ai
     exact o.get
    case b2=>exact o.get d (g-k) g M h1 h2 h5 λz B=>g1 (g-1) z (by lia) (by simpa using B)
    intro ai kk H M2 aa ak al ag
    refine via λG L=>?_
    obtain⟨z,B,mz⟩:=jz (a:=a) (i:=H-1) (by lia)
    refine L ?_
    clear L
    have M3:=M2.oneB sa r aa (by lia) (by lia) n B ey (ag z B)
    refine XE (jj ey ?_)
    refine qA (λhe=>Xp (.inl ⟨_,rfl,(by
     have e:f-1=1:=by simpa using he
     rw[e]at M3 ⊢;exact M3.first sa r hb (by lia) h0),k3⟩)) λhe=>?_
    have hn:1<f-1:=by
     have:¬ f-1=1:=by simpa using he
     lia
    refine XE (jj B (XE (zbB T ax (ma z mz) mb (λi j u v _ an _ eu Y=>zjh r an eu Y) (by lia) (by lia) λN aG g3 g4=>?_)))
    dsimp -zeta only
    refine' cut ?key3 λo=>qA (λaw=>?a3) λaw=>?b3
    case a3 =>
     have M4:=M3.someB sa r (i:=N) (by lia) (by lia) aa (by lia) B λj u ao ap eu=>g4 j u ao ap (by simpa using eu)
     refine qA (λhe=>Xp (.inl ⟨_,rfl,(by
      have e:N=1:=by simpa using he
      rw[e]at M4 ⊢;exact M4.first sa r hb (by lia) h0),k3⟩)) λhe=>?_
     have aI:1<=N:=by
      refine Ph.mpr λhz=>?_;obtain⟨v,Y,mv⟩:=jz (a:=b) (i:=0) hb;have q1:=g4 0 v (by lia) (by lia) (by simpa using Y);have q2:=h0 v z Y mz;lia
     refine qA (λav=>absurd (show N=0 by simpa using av) (by lia)) λav=>?_
     have af:1<N:=by
      have:¬ N=1:=by simpa using he
      lia
     have D:N<=b.size:=by lia
     have ab:H+N+x0+2<=a.size+b.size:=by lia
     have ah:∀v,b[N-1]?=some v->rk v<=rk z:=λv Y=>VS (g3 (N-1) v (by lia) (by simpa using Y))
     generalize ai.push y++(b.extract N (f-1)).reverse=a6 at M4 ⊢
     generalize f-1-N=az
     generalize N=ar at M4 af D ab ah ⊢
     revert ah;revert ab;revert D;revert af;revert M4;revert ar;revert az;revert a6
     exact o.get
    case b3=>exact o.get (ai.push y) (f-1-N) (f-1) M3 hn (by lia) (by lia) λv Y=>VS (g3 (f-1-1) v (by lia) (by simpa using Y))
    intro a6 az ar M4 af D ab ah
    obtain⟨v,Y,mv⟩:=jz (a:=b) (i:=ar-1) (by lia)
    have M5:=M4.oneA sa r aa (by lia) (by lia) D B Y (ah v Y)
    refine XE (jj B ?_)
    refine qA (λhe=>Xp (.inl ⟨_,rfl,(by
     have e:H-1=0:=by simpa using he
     rw[e]at M5 ⊢;exact M5.done r D),k3⟩)) λhe=>?_
    have ay:1<=H-1:=by
     have:¬ H-1=0:=by simpa using he
     lia
    exact qA (λ_=>Xp (.inr (dU (dW rfl M5 ay (by lia) af D (by lia) k3)))) λ_=>Xp (dU (dW rfl M5 ay (by lia) af D (by lia) k3))
theorem zeL (sa:Nat):∀(l:List Xd) (j:Nat) (b:Array Xd),((l.zipIdx j).foldl (λa (p:Xd×Nat)=>a.setIfInBounds (sa+p.2) p.1) b).size=b.size
 | [],_,_=>rfl
 | x::l,j,b=>by
  rw[List.zipIdx_cons,V7,zeL sa l (j+1)];exact S6
def zn0 (sa:Nat):∀(l:List Xd) (j:Nat) (b:Array Xd) (i:Nat),sa+j+l.length<=b.size->((l.zipIdx j).foldl (λa (p:Xd×Nat)=>a.setIfInBounds (sa+p.2) p.1) b)[i]?=if sa+j<=i/\i<sa+j+l.length then l[i-(sa+j)]? else b[i]?:=by
 intro l;induction l with
 | nil =>
  intro j b i h;rw[bq (by simp only[TW];lia)];rfl
 | cons x l c =>
  intro j b i h;rw[Xk]at h;rw[List.zipIdx_cons,V7,c (j+1) _ i (by rw[S6];lia),Xk];by_cases h1:sa+(j+1)<=i/\i<sa+(j+1)+l.length
  .rw[bw h1,bw (by lia),show i-(sa+j)=(i-(sa+(j+1)))+1 by lia,PC]
  .rw[bq h1];by_cases h2:i=sa+j
   .subst h2;rw[bw (by lia),To,List.getElem?_cons_zero];show (b.setIfInBounds (sa+j) x)[sa+j]?=some x;rw[UY,bw rfl,bw (by lia)]
   .rw[bq (by lia)];show (b.setIfInBounds (sa+j) x)[i]?=b[i]?;rw[UY,bq (λe=>h2 e.symm)]
def xq {xs:Array Xd}{lo a:Nat}(u:Up rk xs lo a){i j:Nat}{x y:Xd}(h1:lo<=i)(h2:i<=j)(d:j<a)(b:xs[i]?=some x)(c:xs[j]?=some y):rk x<=rk y:=by
 have:=u i j h1 h2 d;unfold Rk at this;rw[b,c]at this;exact this
def zpg {xs:Array Xd}{lo b:Nat}(f:b<=xs.size)(h:∀i j x y,lo<=i->i<=j->j<b->xs[i]?=some x->xs[j]?=some y->rk x<=rk y):Up rk xs lo b:=λi j h1 h2 e=>by
 obtain⟨x,c,_⟩:=jz (a:=xs) (i:=i) (by lia);obtain⟨y,d,_⟩:=jz (a:=xs) (i:=j) (by lia);unfold Rk;rw[c,d];exact h i j x y h1 h2 e c d
def zji {xs:Array Xd}{i:Nat}{x:Xd}(e:xs[i]?=some x):x∈xs.toList:=X7 (by rw[Xy];exact e)
def ext_get {xs:Array Xd}{i j k:Nat}(h1:i<=j)(h2:j<=xs.size)(hk:k<j-i):(xs.extract i j)[k]?=xs[i+k]?:=by
 rw[Sm,bw (by lia)]
def zaO {xs:Array Xd}{i j:Nat}(h2:j<=xs.size):(xs.extract i j).size=j-i:=by
 rw[T4];lia
def zlT {xs:Array Xd}{lo b i j:Nat}(u:Up rk xs lo b)(h1:lo<=i)(h2:j<=b)(a:j<=xs.size):(xs.extract i j).toList.Pairwise λx y=>rk x<=rk y:=by
 rw[Vj];intro m n c d g;rw[X6,zaO a]at c d;have e:=ext_get (xs:=xs) (i:=i) (j:=j) (k:=m) (by lia) a c;have f:=ext_get (xs:=xs) (i:=i) (j:=j) (k:=n) (by lia) a d;refine xq u (i:=i+m) (j:=i+n) (by lia) (by lia) (by lia) ?_ ?_
 .rw[<- e,Uv];exact getElem?_pos _ _ _
 .rw[<- f,Uv];exact getElem?_pos _ _ _
def ext_mem {xs:Array Xd}{i j:Nat}{x:Xd}(a:j<=xs.size)(h:x∈(xs.extract i j).toList):∃k,i<=k/\k<j/\xs[k]?=some x:=by
 obtain⟨k,hk,e⟩:=Tf h;rw[X6,zaO a]at hk;refine⟨i+k,by lia,by lia,?_⟩;rw[<- ext_get (xs:=xs) (i:=i) (j:=j) (by lia) a hk,<- e,Uv];exact getElem?_pos _ _ _
def zrX {st a:WM}{Q:PUnit->WM->Prop}(h:∀b,b=a->Q ⟨⟩ b):wpS (Xw prog w) A E s (set a:StateT WM Sem PUnit) Q st:=by
 unfold wpS;rw[StateT.run_set];exact XT ⟨rfl,h _ rfl⟩
set_option maxHeartbeats 8000000 in
theorem zkk {st:WM}{i sa b p1 J p2:Nat}{Q:Bool->WM->Prop}(T:Tells prog w A s κ rk a0)(O:Ok κ a0 st)(e1:(WL st)[i]?=some (sa,b,p1))(e2:(WL st)[i+1]?=some (sa+b,J,p2))(ap:1<=b)(aq:1<=J)(hz:sa+b+J<=a0.size)(u1:Up rk (Xn st) sa (sa+b))(u2:Up rk (Xn st) (sa+b) (sa+b+J))
  (h:∀B,Ok κ a0 B->WL B=((WL st).setIfInBounds i (sa,b+J,p1)).eraseIdxIfInBounds (i+1)->Up rk (Xn B) sa (sa+b+J)->(∀j:Nat,(j<sa\/sa+b+J<=j)->(Xn B)[j]?=(Xn st)[j]?)->Q true B):wpS (Xw prog w) A E s (mergeAt' i) Q st:=by
 have ai:=O.size;have mX:∀x∈(Xn st).toList,x∈a0.toList:=λx hx=>(UK.mp O.perm).mem_iff.mp hx;obtain⟨b0,r,ak⟩:=jz (a:=Xn st) (i:=sa+b) (by lia);refine XE (Sa ?_);rw[e1,e2];dsimp only;refine XE (zrX λn M=>?_);have k1:kindOf n=κ:=by rw[M];exact O.kind
 have ea:Xn n=Xn st:=by rw[M]
 have ep:WL n=((WL st).setIfInBounds i (sa,b+J,p1)).eraseIdxIfInBounds (i+1):=by rw[M]
 have ef:SK n=none:=by rw[M];exact O.good
 have O1:Ok κ a0 n:=⟨by rw[ea];exact O.perm,k1,ef⟩;refine XE (jj r (XE (zbA T k1 (mX b0 ak) mX (λp q u v h1 h2 I G H=>xq u1 h1 h2 I G H) (by show sa+b<=(Xn st).size;lia) (by lia) λk hk g1 g2=>?_)));dsimp only;refine qA (λhc=>Xp (h n O1 ep (zpg (by rw[ea];lia) λp q u v h1 h2 I G H=>?_) λj _=>by rw[ea])) λhc=>?_
 .have ek:k=b:=by
   have:b-k=0:=by simpa using hc
   lia
  rw[ea]at G H;by_cases c1:q<sa+b
  .exact xq u1 h1 h2 c1 G H
  .by_cases c2:p<sa+b
   .have q1:=g1 (p-sa) u (by lia) (by rw[show sa+(p-sa)=p by lia];exact G);have q2:=xq u2 (XX _) (by lia) I r H;lia
   .exact xq u2 (by lia) h2 I G H
 have ao:k<b:=by
  have:¬ b-k=0:=by simpa using hc
  lia
 obtain⟨al,ae,aj⟩:=jz (a:=Xn st) (i:=sa+k+(b-k)-1) (by lia);have o:(Xn st)[sa+b-1]?=some al:=by
  rw[<- ae];congr 1;lia
 refine XE (jj ae (XE (zbB T k1 (mX al aj) mX (λp q u v h1 h2 I G H=>xq u2 h1 h2 I G H) (by show sa+b+J<=(Xn st).size;lia) (by lia) λg an g3 g4=>?_)));dsimp only;have am:rk b0<rk al:=g2 (b-1) al (by lia) (by lia) (by rw[show sa+(b-1)=sa+b-1 by lia];exact o);have au:1<=g:=by
  refine Ph.mpr λar=>?_;have:=g4 0 b0 (by lia) (by lia) (by simpa using r);lia
 refine qA (λhc=>absurd (show g=0 by simpa using hc) (by lia)) λ_=>?_;have X3:sa+b<=(Xn st).size:=by lia
 have Y3:sa+b+g<=(Xn st).size:=by lia
 have xs:=zlT (i:=sa+k) (j:=sa+b) u1 (by lia) (XX _) X3;have ys:=zlT (i:=sa+b) (j:=sa+b+g) u2 (XX _) (by lia) Y3;have xm:∀x∈((Xn st).extract (sa+k) (sa+b)).toList,x∈a0.toList:=λx hx=>by
  obtain⟨j,_,_,ej⟩:=ext_mem X3 hx;exact mX x (zji ej)
 have ym:∀x∈((Xn st).extract (sa+b) (sa+b+g)).toList,x∈a0.toList:=λx hx=>by
  obtain⟨j,_,_,ej⟩:=ext_mem Y3 hx;exact mX x (zji ej)
 have xz:((Xn st).extract (sa+k) (sa+b)).size=b-k:=by
  rw[zaO X3];lia
 have yz:((Xn st).extract (sa+b) (sa+b+g)).size=g:=by
  rw[zaO Y3];lia
 have first:∀x y,((Xn st).extract (sa+b) (sa+b+g))[0]?=some x->y∈((Xn st).extract (sa+k) (sa+b)).toList->rk x<rk y:=λx y ex my=>by
  rw[ext_get (by lia) Y3 (by lia),Pp,r]at ex;cases ex;obtain⟨j,j1,j2,ej⟩:=ext_mem X3 my;exact g2 (j-sa) y (by lia) (by lia) (by rw[show sa+(j-sa)=j by lia];exact ej)
 have Y:∀x∈((Xn st).extract (sa+b) (sa+b+g)).toList,∀y,((Xn st).extract (sa+k) (sa+b))[((Xn st).extract (sa+k) (sa+b)).size-1]?=some y->rk x<rk y:=λx mx y ey=>by
  rw[xz,ext_get (by lia) X3 (by lia),show sa+k+(b-k-1)=sa+b-1 by lia,o]at ey;cases ey;obtain⟨j,j1,j2,ej⟩:=ext_mem Y3 mx;exact g3 (j-(sa+b)) x (by lia) (by rw[show sa+b+(j-(sa+b))=j by lia];exact ej)
 have aa:∀(merged:Array Xd) (f:WM),Kept n f->Mg rk ((Xn st).extract (sa+k) (sa+b)).toList ((Xn st).extract (sa+b) (sa+b+g)).toList merged.toList ->
   Q true (setArr f (merged.toList.zipIdx.foldl (λa (p:Xd×Nat)=>a.setIfInBounds (sa+k+p.2) p.1) (Xn f))):=λmerged f D U=>by
  have ab:Xn f=Xn st:=D.arr.trans ea;have ml:merged.toList.length=b-k+g:=by
   rw[U.1.length_eq,XR,X6,X6,xz,yz]
  have at_:∀j:Nat,(merged.toList.zipIdx.foldl (λa (p:Xd×Nat)=>a.setIfInBounds (sa+k+p.2) p.1) (Xn f))[j]?=if sa+k<=j/\j<sa+b+g then merged.toList[j-(sa+k)]? else (Xn st)[j]?:=λj=>by
   have:=zn0 (sa+k) merged.toList 0 (Xn f) j (by rw[ab,ml];lia);rw[this,ab,Pp,ml];by_cases c:sa+k<=j/\j<sa+b+g
   .rw[bw c,bw (by lia)]
   .rw[bq c,bq (by lia)]
  have zA:=zeL (sa+k) merged.toList 0 (Xn f);generalize hN:merged.toList.zipIdx.foldl (λa (p:Xd×Nat)=>a.setIfInBounds (sa+k+p.2) p.1) (Xn f)=N at at_ zA ⊢;have zN:N.size=a0.size:=by
   rw[zA,ab,ai]
  have nl:N.toList=(Xn st).toList.take (sa+k)++merged.toList++(Xn st).toList.drop (sa+b+g):=by
   refine Sv λj=>?_;rw[Xy,at_ j];by_cases c1:j<sa+k
   .rw[bq (by lia),WY,VY (by rw[XG,X6];lia),List.getElem?_take,bw c1,Xy]
   .rw[WY,VG (by rw[XG,X6];lia),XG,X6,show min (sa+k) (Xn st).size=sa+k by lia];by_cases c2:j<sa+b+g
    .rw[bw ⟨by lia,c2⟩,VY (by rw[ml];lia)]
    .rw[bq (by lia),VG (by rw[ml];lia),SV,Xy,ml];congr 1;lia
  have ol:(Xn st).toList=(Xn st).toList.take (sa+k)++(((Xn st).extract (sa+k) (sa+b)).toList++((Xn st).extract (sa+b) (sa+b+g)).toList)++(Xn st).toList.drop (sa+b+g):=by
   rw[ext_toList _ _ _ (by lia),ext_toList _ _ _ (by lia)];have d1:(Xn st).toList.drop (sa+b)=((Xn st).toList.drop (sa+k)).drop (b-k):=by
    rw[OO];congr 1;lia
   have d2:(Xn st).toList.drop (sa+b+g)=((Xn st).toList.drop (sa+b)).drop g:=by
    rw[OO]
   rw[d2,show sa+b+g-(sa+b)=g by lia,WY,WY,WO,d1,show sa+b-(sa+k)=b-k by lia,WO,WO]
  refine h _ ⟨?_,D.kind.trans k1,D.bad.trans ef⟩ (D.pend.trans ep) (zpg (by show _<=N.size;lia) λp q u v h1 h2 I G H=>?_) λj hj=>?_
  .refine Array.Perm.trans ?_ O.perm;rw[UK];show N.toList.Perm _;have pm:=List.Perm.append_right ((Xn st).toList.drop (sa+b+g)) (Sj ((Xn st).toList.take (sa+k)) U.1);rw[<- ol,<- nl]at pm;exact pm
  .have l:N[p]?=some u:=G;have d:N[q]?=some v:=H;rw[at_]at l d;have ag:∀{j:Nat} {x:Xd},sa+k<=j->j<sa+b+g->merged.toList[j-(sa+k)]?=some x->(∃m,sa+k<=m/\m<sa+b/\(Xn st)[m]?=some x)\/∃m,sa+b<=m/\m<sa+b+g/\(Xn st)[m]?=some x:=λ_ _ e=>by
    rcases XO.mp (U.1.mem_iff.mp (X7 e)) with z | z
    .exact .inl (ext_mem X3 z)
    .exact .inr (ext_mem Y3 z)
   by_cases c1:p<sa+k
   .rw[bq (by lia)]at l;by_cases c2:q<sa+k
    .rw[bq (by lia)]at d;exact xq u1 h1 h2 (by lia) l d
    .have af:∀{m:Nat} {x:Xd},sa+b<=m->m<sa+b+J->(Xn st)[m]?=some x->rk u<=rk x:=λm1 m2 L=>by
      have q1:=g1 (p-sa) u (by lia) (by rw[show sa+(p-sa)=p by lia];exact l);exact Vw q1 (xq u2 (XX _) m1 m2 r L)
     by_cases c3:q<sa+b+g
     .rw[bw ⟨by lia,c3⟩]at d;rcases ag (by lia) c3 d with ⟨m,m1,m2,L⟩ | ⟨m,m1,m2,L⟩
      .exact xq u1 h1 (by lia) m2 l L
      .exact af m1 (by lia) L
     .rw[bq (by lia)]at d;exact af (by lia) I d
   .by_cases c4:p<sa+b+g
    .rw[bw ⟨by lia,c4⟩]at l;by_cases c3:q<sa+b+g
     .rw[bw ⟨by lia,c3⟩]at d;by_cases ah:p=q
      .subst ah;rw[l]at d;cases d;exact UR _
      .have sp:=U.2;rw[Vj]at sp;obtain⟨a1,a2⟩:=XZ.mp l;obtain⟨b1,b2⟩:=XZ.mp d;have:=sp _ _ a1 b1 (by lia);rw[a2,b2]at this;exact this
     .rw[bq (by lia)]at d;have q4:=g4 (q-(sa+b)) v (by lia) (by lia) (by rw[show sa+b+(q-(sa+b))=q by lia];exact d);rcases ag (by lia) c4 l with ⟨m,m1,m2,L⟩ | ⟨m,m1,m2,L⟩
      .exact Vw (xq u1 (by lia) (by lia) (by lia) L o) q4
      .exact xq u2 m1 (by lia) I L d
    .rw[bq (by lia)]at l d;exact xq u2 (by lia) h2 I l d
  .show N[j]?=_;rw[at_,bq (by lia)]
 refine qA (λ_=>?_) λ_=>?_
 .refine XE (zki T k1 xm ym xs ys (SS (show 0<b-k by lia) xz.symm) (SS (show 0<g by lia) yz.symm) (λx y ex my=>VS (first x y ex my)) Y λac f D U=>?_);refine XE (SW (XE (Sa ?_)));rw[show (SK f).isNone=true by rw[D.bad,ef];rfl];exact Xp (aa ac f D U)
 .refine XE (zkj T k1 xm ym xs ys (SS (show 0<b-k by lia) xz.symm) (SS (show 0<g by lia) yz.symm) first Y λac f D U=>?_);refine XE (SW (XE (Sa ?_)));rw[show (SK f).isNone=true by rw[D.bad,ef];rfl];exact Xp (aa ac f D U)
def Q3:List (Nat×AA)->Nat->Nat->Prop
 | [],s,e=>s=e
 | r::l,s,e=>r.1=s/\1<=r.2.1/\Q3 l (s+r.2.1) e
theorem yP:∀{l1 l2:List (Nat×AA)} {s e:Nat},Q3 (l1++l2) s e ↔ ∃m,Q3 l1 s m/\Q3 l2 m e
 | [],l2,s,e=>⟨λh=>⟨s,rfl,h⟩,λ⟨m,h1,h2⟩=>by
  have e:s=m:=h1;subst e;exact h2⟩
 | r::l1,l2,s,e=>by
  constructor
  .rintro⟨h1,h2,h3⟩;obtain⟨m,a,b⟩:=yP.mp h3;exact⟨m,⟨h1,h2,a⟩,b⟩
  .rintro⟨m,⟨h1,h2,h3⟩,a⟩;exact⟨h1,h2,yP.mpr ⟨m,h3,a⟩⟩
theorem Qg:∀{l:List (Nat×AA)} {s e:Nat},Q3 l s e->s<=e/\l.length+s<=e/\∀r∈l,s<=r.1/\r.1+r.2.1<=e
 | [],s,e,h=>by
  have b:s=e:=h;subst b;exact⟨XX _,by simp,λr d=>nomatch d⟩
 | r::l,s,e,⟨h1,h2,c⟩=>by
  obtain⟨f,g,a⟩:=Qg c;refine⟨by lia,by rw[Xk];lia,λq hq=>?_⟩;rcases XJ.mp hq with rfl | hq
  .lia
  .have:=a q hq;lia
structure PI (rk:Xd->Int)(κ:Tz)(a0:Array Xd)(lo:Nat)(st:WM):Prop where
 ok:Ok κ a0 st
 til:Q3 (WL st).toList 0 lo
 up:∀r∈(WL st).toList,Up rk (Xn st) r.1 (r.1+r.2.1)
def zcA {xs ys:Array Xd}{lo a:Nat}(u:Up rk xs lo a)(h:∀j:Nat,lo<=j->j<a->ys[j]?=xs[j]?):Up rk ys lo a:=λi j h1 h2 b=>by
 rw[JU (h i h1 (by lia)),JU (h j (by lia) b)];exact u i j h1 h2 b
def zh2 {p:List (Nat×AA)}{i:Nat}(h:i+1<p.length):∃l1 a b l2,p=l1++a::b::l2/\l1.length=i/\p[i]?=some a/\p[i+1]?=some b:=by
 refine⟨p.take i,p[i],p[i+1],p.drop (i+2),?_,by rw[XG];lia,X2 (by lia),X2 h⟩;rw[<- WF h,<- WF (by lia),WO]
def zgL {st:WM}{lo i:Nat}{Q:Bool->WM->Prop}(T:Tells prog w A s κ rk a0)(P:PI rk κ a0 lo st)(M:i+1<(WL st).size)(N:lo<=a0.size)
  (h:∀a,PI rk κ a0 lo a->(WL a).size+1=(WL st).size->(∀j:Nat,lo<=j->(Xn a)[j]?=(Xn st)[j]?)->Q true a):wpS (Xw prog w) A E s (mergeAt' i) Q st:=by
 obtain⟨n,⟨sa,c,B⟩,⟨sb,d,U⟩,O,f,L,y,z⟩:=zh2 (p:=(WL st).toList) (i:=i) (by rw[X6];exact M);have g:=P.til;rw[f]at g;obtain⟨m,D,⟨q,u,v,x,k⟩⟩:=yP.mp g;dsimp only at q u v x k;subst q;subst v;rw[Xy]at y z;have u1:=P.up (sa,c,B) (by rw[f];simp);have G:=P.up (sa+c,d,U) (by rw[f];simp);dsimp only at u1 G;obtain⟨Y,b2,I⟩:=Qg k;obtain⟨c1,c2,J⟩:=Qg D;refine zkk T P.ok y z u x (by lia) u1 G λa H l o b=>?_;have e:(WL a).toList=n++(sa,c+d,B)::O:=by
  rw[l,Array.toList_eraseIdxIfInBounds,Rp,f,<- L];rw[List.set_append_right _ _ (XX _),To,List.set_cons_zero,List.eraseIdx_append_of_length_le (by lia),show n.length+1-n.length=1 by lia];rfl
 refine h a ⟨H,?_,λr hr=>?_⟩ ?_ λj hj=>b j (by lia)
 .rw[e];exact yP.mpr ⟨sa,D,rfl,by show 1<=c+d;lia,by rw[show sa+(c+d)=sa+c+d by lia];exact k⟩
 .rw[e]at hr;rcases XO.mp hr with hr | hr
  .have:=J r hr;exact zcA (P.up r (by rw[f];exact W2 _ hr)) λj h1 h2=>b j (by lia)
  .rcases XJ.mp hr with rfl | hr
   .show Up rk (Xn a) sa (sa+(c+d));rw[show sa+(c+d)=sa+c+d by lia];exact o
   .have:=I r hr;exact zcA (P.up r (by rw[f];simp[hr])) λj h1 h2=>b j (by lia)
 .rw[<- X6,e,<- X6,f];simp only[XR,Xk];lia
def PI.step {lo a:Nat}{st b:WM}(P:PI rk κ a0 lo st)(S:Step κ a0 a st b)(h:lo<=a):PI rk κ a0 lo b:=by
 refine⟨S.ok,by rw[S.pend];exact P.til,λr c=>?_⟩;rw[S.pend]at c;have:=(Qg P.til).2.2 r c;exact zcA (P.up r c) λj h1 h2=>S.low j (by lia)
theorem zb3 (b:Nat):∀{l:List (Nat×AA)} {k s e:Nat},Q3 l s e->Q3 (l.modify k λr=>(r.1,r.2.1,b)) s e
 | [],k,s,e,h=>by
  cases k<;>exact h
 | r::l,0,s,e,⟨h1,h2,a⟩=>⟨h1,h2,a⟩
 | r::l,k+1,s,e,⟨h1,h2,a⟩=>⟨h1,h2,zb3 b a⟩
theorem zeM {a:Nat}:∀{l:List (Nat×AA)} {k:Nat} {r:Nat×AA},r∈l.modify k (λr=>(r.1,r.2.1,a))->∃q∈l,q.1=r.1/\q.2.1=r.2.1
 | [],k,r,h=>by
  cases k<;>cases h
 | q::l,0,r,h=>by
  rcases XJ.mp h with rfl | h
  .exact⟨q,XV,rfl,rfl⟩
  .exact⟨r,XW _ h,rfl,rfl⟩
 | q::l,k+1,r,h=>by
  rcases XJ.mp h with rfl | h
  .exact⟨r,XV,rfl,rfl⟩
  .obtain⟨b,h1,h2⟩:=zeM h;exact⟨b,XW _ h1,h2⟩
def ite_le (c:Prop) [Decidable c](n:Nat):(if c then n-1 else n)<=n:=by
 split<;>lia
def zqm {st:WM}{Q:Unit->WM->Prop}(T:Tells prog w A s κ rk a0)(O:Ok κ a0 st)(hp:WL st=#[])(h:∀d,Ok κ a0 d->Up rk (Xn d) 0 a0.size->Q () d):wpS (Xw prog w) A E s sortRuns' Q st:=by
 rw[sortRuns'_eq];refine XE (Sa ?_);dsimp only;rw[O.size];generalize minRun' a0.size a0.size 0=mr;refine XE (Uk (VT (I:=λx c d=>∃lo,c=(none,lo)/\PI rk κ a0 lo d/\lo<=a0.size/\x<=lo)
  (Q:=λc d=>c=(none,a0.size)/\PI rk κ a0 a0.size d) ?step ?fin ⟨0,rfl,⟨O,by rw[hp];rfl,λr z=>by rw[hp]at z;cases z⟩,WZ _,XX _⟩) ?post)
 case fin =>
  rintro c d ⟨lo,rfl,P,h1,h2⟩
  obtain rfl:lo=a0.size:=by lia
  exact⟨rfl,P⟩
 case step =>
  refine λx c N _ hx=>fq λlo=>fm λz0 P h1 h2=>?_;subst z0
  dsimp only
  refine qA (λJ=>?_) λJ=>?_
  .obtain rfl:lo=a0.size:=by lia
   exact Xp ⟨rfl,P⟩
  refine XE (zb2 T P.ok (by lia) (by lia) λm b S m1 m2 hu=>?_)
  dsimp only
  have g:=P.step S (XX _)
  refine qA (λL=>?_) λL=>?_
  refine XE (PV (Uu ⟨rfl,?_⟩))
  refine XE (zrW T S.ok (by lia) (by lia) hu λo S3 k=>?_)
  rw[bq (by decide)]
  have P3:=g.step S3 (XX _)
  have H:1<=min (a0.size-lo) mr:=by lia
  have G:lo+min (a0.size-lo) mr<=a0.size:=by lia
  clear g S3
  generalize min (a0.size-lo) mr=n at k H G ⊢
  rotate_left
  have P3:=g
  have k:=hu
  have H:=m1
  have G:lo+m<=a0.size:=by lia
  clear g
  generalize m=n at k H G ⊢
  generalize b=o at P3 k ⊢
  rotate_left
  all_goals
   refine XE (Sa ?_)
   have fin:∀a,PI rk κ a0 lo a->Up rk (Xn a) lo (lo+n)->PI rk κ a0 (lo+n) (setPending a ((WL a).push (lo,n,0))):=λa f v=>by
    refine⟨⟨f.ok.perm,f.ok.kind,f.ok.good⟩,?_,λr z=>?_⟩
    .show Q3 ((WL a).push (lo,n,0)).toList 0 (lo+n);rw[Sw];exact yP.mpr ⟨lo,f.til,rfl,H,rfl⟩
    .have hr':r∈((WL a).push (lo,n,0)).toList:=z;rw[Sw]at hr';rcases XO.mp hr' with hr' | hr'
     .exact f.up r hr'
     .have er:r=(lo,n,0):=by simpa using hr'
      subst er;exact v
   cases aa:(WL o).back? with
   | none =>
    dsimp only;exact XE (SW (Xp ⟨lo+n,rfl,fin o P3 k,G,by lia⟩))
   | some r =>
    obtain⟨s1,M,q1⟩:=r;dsimp only;generalize power' a0.size (2*s1+M) (2*s1+M+M+n) a0.size=pw;refine XE (Uk (VT (I:=λ_ c a=>c=(none,())/\PI rk κ a0 lo a/\Up rk (Xn a) lo (lo+n)) (Q:=λc a=>c=(none,())/\PI rk κ a0 lo a/\Up rk (Xn a) lo (lo+n)) ?_ (λ_ _ hh=>hh) ⟨rfl,P3,k⟩) ?_)
    .rintro y c a _ _ ⟨rfl,f,v⟩;refine XE (Sa ?_);by_cases B:(WL a).size>1
     .rw[bw B,getElem?_pos (WL a) ((WL a).size-2) (by lia)];generalize (WL a)[(WL a).size-2]'(by lia)=r2;obtain⟨ab,ac,ae⟩:=r2;dsimp only;refine qA (λ_=>Xp ⟨rfl,f,v⟩) λ_=>?_;refine XE (zgL T f (by lia) h1 λaf P5 _ Y=>?_);rw[bq (by decide)];exact Xp ⟨rfl,P5,zcA v λj j1 _=>Y j j1⟩
     .rw[bq B];exact Xp ⟨rfl,f,v⟩
    .rintro c a ⟨rfl,f,v⟩;dsimp only;refine XE (SW (XE (SW (Xp ⟨lo+n,rfl,fin _ ⟨⟨f.ok.perm,f.ok.kind,f.ok.good⟩,?_,λr z=>?_⟩ v,G,by lia⟩))))
     .show Q3 ((WL a).modify ((WL a).size-1) λr=>(r.1,r.2.1,pw)).toList 0 lo;rw[Ot];exact zb3 pw f.til
     .have hr':r∈((WL a).modify ((WL a).size-1) λr=>(r.1,r.2.1,pw)).toList:=z;rw[Ot]at hr';obtain⟨q,hq,e1,e2⟩:=zeM hr';have:=f.up q hq;rw[e1,e2]at this;exact this
 case post =>
  rintro c N ⟨rfl,P⟩
  dsimp only
  have D:=(Qg P.til).2.1
  rw[X6]at D
  refine XE (Uk (VT (I:=λx c b=>c=(none,())/\PI rk κ a0 a0.size b/\((WL b).size+x<=a0.size\/(WL b).size<=1)) (Q:=λc b=>c=(none,())/\PI rk κ a0 a0.size b/\(WL b).size<=1) ?step2 ?fin2 ⟨rfl,P,.inl (by lia)⟩) ?post2)
  case fin2 =>
   rintro c b ⟨rfl,g,B⟩
   exact⟨rfl,g,by lia⟩
  case step2 =>
   rintro x c b _ hx ⟨rfl,g,B⟩
   refine XE (Sa ?_)
   refine qA (λh1=>Xp ⟨rfl,g,h1⟩) λh1=>?_
   refine XE (zgL T g ?_ (XX _) λo P3 z3 _=>?_)
   .exact Xx (ON (ite_le _ _) 1) (show (WL b).size-2+1<(WL b).size by lia)
   .rw[bq (by decide)];exact Xp ⟨rfl,P3,by lia⟩
  case post2 =>
   rintro c b ⟨rfl,g,B⟩
   dsimp only
   refine Xp (h b g.ok ?_)
   have p:=g.til
   have up:=g.up
   have zl:(WL b).toList.length<=1:=by rw[X6];exact B
   cases hl:(WL b).toList with
   | nil =>
    rw[hl]at p;have e:0=a0.size:=p;exact λi j _ _ h3=>absurd h3 (by lia)
   | cons r l =>
    rw[hl]at p zl up;obtain rfl:l=[]:=Ua.mp (by rw[Xk]at zl;lia);obtain⟨t1,t2,t3⟩:=p;have U:0+r.2.1=a0.size:=t3;have u:=up r XV;rw[t1,U]at u;exact u
end
structure Wk {K:Type}(lt:K->K->Bool):Prop where
 tot:∀x y,lt x y=true->lt y x=false
 tr:∀x y z,lt y x=false->lt z y=false->lt z x=false
def rkK {K:Type}(lt:K->K->Bool)(ks:List K)(k:K):Int:=((ks.countP λq=>lt q k:Nat):Int)
theorem count_le {K:Type}{p q:K->Bool}:∀{ks:List K},(∀x∈ks,p x=true->q x=true)->ks.countP p<=ks.countP q
 | [],_=>XX _
 | x::ks,h=>by
  have d:=count_le (ks:=ks) λy b=>h y (XW _ b);rw[V5,V5];have a:=h x XV;by_cases c:p x=true
  .rw[bw c,bw (a c)];lia
  .rw[bq c];lia
def zlU {K:Type}{p q:K->Bool}{ks:List K}(h:∀x∈ks,p x=true->q x=true)(b:∃x∈ks,p x=false/\q x=true):ks.countP p<ks.countP q:=by
 obtain⟨y,hy,h1,h2⟩:=b;induction ks with
 | nil=>cases hy
 | cons x ks a =>
  rw[V5,V5];have d:=h x XV;rcases XJ.mp hy with rfl | hy
  .have a:=count_le (ks:=ks) λy hy=>h y (XW _ hy);rw[h1,h2,bq XS,bw rfl];lia
  .have a:=a (λy hy=>h y (XW _ hy)) hy;by_cases c:p x=true
   .rw[bw c,bw (d c)];lia
   .rw[bq c];lia
def Wk.rank {K:Type}{lt:K->K->Bool}(W:Wk lt){ks:List K}{x y:K}(c:x∈ks):lt x y=decide (rkK lt ks x<rkK lt ks y):=by
 unfold rkK;cases h:lt x y with
 | true =>
  refine(br ?_).symm;have:=zlU (ks:=ks) (p:=λq=>lt q x) (q:=λq=>lt q y) (λq _ b=>?_) ⟨x,c,?_,h⟩
  .lia
  .cases hc:lt q y with
   | true=>rfl
   | false =>
    have:=W.tr x y q (W.tot x y h) hc;have a:lt q x=true:=b;rw[this]at a;cases a
  .cases hc:lt x x with
   | false=>rfl
   | true=>exact hc.symm.trans (W.tot x x hc)
 | false =>
  refine(bf ?_).symm;have:=count_le (ks:=ks) (p:=λq=>lt q y) (q:=λq=>lt q x) λq _ b=>by
   cases hc:lt q x with
   | true=>rfl
   | false =>
    have:=W.tr y x q h hc;have a:lt q y=true:=b;rw[this]at a;cases a
  lia
section
variable {prog:Xr}{w:Xe}{A:W1}{E:Y1->X8->Prop}{s:X8}
def zeN {a:Addr}{vs:List Y1}{n:Nat}{P:PySem.Fin->X8->Prop}(I:s.heap.get? a=some (T8 "list" vs.toArray n))(hz:vs.length<=Xz)(r:Y1->Int)
  (hk:2<=vs.length->∀s':X8,(∀b o,b≠a->s.heap.get? b=some o->s'.heap.get? b=some o)->Xu (Xw prog w) A (keyKind' vs.toArray) (fun κ M=>M=s'/\Tells prog w A s' κ (λp=>r p.1) (Oz vs)) (λ_ _=>False) s')
  (h:∀(ws:List Y1) (h':Heap) (c:Nat),ws.Perm vs->ws.Pairwise (λx y=>r x<=r y)->(∀b o,b≠a->s.heap.get? b=some o->h'.get? b=some o)->h'.get? a=some (T8 "list" ws.toArray c)->P (.done (.ret .none)) { s with heap:=h' }) :
  Xu (Xw prog w) A (UD.«list.sort» ⟨[.ref a],[]⟩) P E s:=by
 have ac:a<s.heap.objs.size:=XH I;have G:=get?_update_seq I λ_=>(#[]:Array Y1);generalize N:s.heap.update a (UZ λ_=>(#[]:Array Y1))=v at G;have zX:v.objs.size=s.heap.objs.size:=by rw[<- N,Heap.size_update]
 have kX:∀b o,b≠a->s.heap.get? b=some o->v.get? b=some o:=λb o q e=>by
  rw[<- N,RQ _ _ _ _ q];exact e
 obtain⟨H,L⟩:∃H,v.get? a=some (T8 "list" #[] H):=⟨_,G⟩;generalize U:(v.push (T8 "tuple" vs.toArray 0)).push (T8 "list" #[] 0)=Y;have l:Y.get? a=some (T8 "list" #[] H):=by
  rw[<- U];exact X4 _ (X4 _ L)
 have kY:∀b o,b≠a->s.heap.get? b=some o->Y.get? b=some o:=λb o q e=>by
  rw[<- U];exact X4 _ (X4 _ (kX b o q e))
 have g:∀(st:WM),(((Xn st).map (·.2)).toList.Perm vs)->(((Xn st).map (·.2)).toList.Pairwise λx y=>r x<=r y)->SK st=none ->
   Xu (Xw prog w) A (do
    let f:=(<- seqEpoch a) != H
    Builtin.List.listUpdate (.ref a) λ_=>(Xn st).map (·.2)
    if let some e:=SK st then rule "list.sort.comparison-raised";throw e
    if f then rule "list.sort.modified";raiseError "ValueError" "list modified during sort"
    ret .none) P E { s with heap:=Y }:=by
  intro st m J hf;generalize ew:(Xn st).map (·.2)=wsA at m J;rw[hf];have D:wsA.size=vs.length:=by rw[<- X6,m.length_eq]
  have ab:=get?_update_seq l λ_=>wsA;refine ZB (seqEpoch_at l rfl (ZB (listUpdate_at l rfl ?_ (WZ _) (by rw[D];lia))));simp only[bne_self_eq_false,Wq,if_false];refine XT (h wsA.toList _ _ m J (λb o q e=>?_) ab);rw[RQ _ _ _ _ q];exact kY b o q e
 rw[list_sort_plain];refine ZB (listItems_at I rfl (ZB (listUpdate_at I rfl ?_ (by rw[XB];exact hz) (WZ _))));rw[N];refine ZB (seqEpoch_at L rfl (ZB (wpAny_newTuple (ZB (Oj ?_ (WZ _))) hz)));show Xu (Xw prog w) A _ P E { s with heap:=(v.push (T8 "tuple" vs.toArray 0)).push (T8 "list" #[] 0) };rw[U];refine WA ?_;dsimp only;have e2:((Oz vs).map (·.2)).toList=vs:=by
  rw[UO,Ug];exact List.map_snd_zip (XX _)
 by_cases k:vs.toArray.size<2
 .have B:vs.length<2:=by rw[XB]at k;exact k
  rw[bw k,bw k];refine ZB (XT ?_);rw[StateT.run_pure];refine ZB (XT ?_);refine g (SortSt.mk' general' (Oz vs) #[] 7 none) (by show ((Oz vs).map (·.2)).toList.Perm vs;rw[e2]) (by
   show ((Oz vs).map (·.2)).toList.Pairwise _;rw[e2,Vj];intro i j hi hj aa;lia) rfl
 .have B:2<=vs.length:=by rw[XB]at k;lia
  rw[bq k,bq k];refine ZB (Xa (hk B { s with heap:=Y } kY) (fun κ M ⟨e3,T⟩=>?_) λ_ _ x=>x.elim);subst e3;have run:=zqm (E:=E) (st:=SortSt.mk' κ (Oz vs) #[] 7 none) (Q:=λ_ d=>(((Xn d).map (·.2)).toList.Perm vs)/\(((Xn d).map (·.2)).toList.Pairwise λx y=>r x<=r y)/\SK d=none) T ⟨Array.Perm.refl _,rfl,rfl⟩ rfl λd O L=>?_
  .unfold wpS at run;refine ZB (Xa run ?_ λ_ _ z=>z);rintro⟨⟨⟩,d⟩ s' ⟨rfl,m,J,hf⟩;exact g d m J hf
  .have pm:=UK.mp O.perm;have same:∀p∈(Xn d).toList,p.1=p.2:=λp m=>by
    have:=pm.mem_iff.mp m;rw[Ug]at this;exact(RP this).1
   refine⟨?_,?_,O.good⟩
   .have:=pm.map (·.2);rw[UO];rw[Ug,List.map_snd_zip (XX _)]at this;exact this
   .rw[UO,V1,Vj];intro i j hi hj aa;have zs:=O.size;rw[X6]at hi hj;have u:=xq L (i:=i) (j:=j) (WZ _) (by lia) (by lia) (getElem?_pos _ i hi) (getElem?_pos _ j hj);have s1:=same (Xn d)[i] (by simp);have M:=same (Xn d)[j] (by simp);rw[Uv,Uv,<- s1,<- M];exact u
def zkl {l:Addr}{vs:List Y1}{Q:Y1->X8->Prop}(v:s.heap.IsList l vs.toArray)(i:vs.length<=Xz)(r:Y1->Int)
  (hk:2<=vs.length->∀s':X8,(∀b o,s.heap.get? b=some o->s'.heap.get? b=some o)->Xu (Xw prog w) A.in1.in1 (keyKind' vs.toArray) (fun I H=>H=s'/\Tells prog w A.in1.in1 s' I (λp=>r p.1) (Oz vs)) (λ_ _=>False) s')
  (h:∀(f:List Y1) (h':Heap) (c:Nat),f.Perm vs->f.Pairwise (λx y=>r x<=r y)->(∀b o,s.heap.get? b=some o->h'.get? b=some o)->h'.get? (s.heap.objs.size+1)=some (T8 "list" f.toArray c)->Q (.ref (s.heap.objs.size+1)) { s with heap:=h' }) :
  Xu (Xw prog w) A (call (.builtin "sorted") [.ref l]) Q E s:=by
 generalize g:(s.heap.push (T8 "list" #[] 0)).update s.heap.objs.size (UZ (·++vs.toArray))=a;have q:a.objs.size=s.heap.objs.size+1:=by rw[<- g,Heap.size_update,Vo]
 have D:∀b o,s.heap.get? b=some o->a.get? b=some o:=λb o e=>by
  have lt:=XH e;rw[<- g,RQ _ _ _ _ (Xm lt)];exact X4 _ e
 apply Rm kind_sorted plain_sorted entry_sorted (args_sorted1 _);unfold UD.«sorted»;refine ZB (m:=checkCount "sorted" 1 1 _) (XT (ZB (collect_list v ?_ i)));rw[g];refine ZB (Oj ?_ i);show Xu _ _ _ _ _ { s with heap:=a.push (T8 "list" vs.toArray 0) };have d:(a.push (T8 "list" vs.toArray 0)).get? (s.heap.objs.size+1)=some (T8 "list" vs.toArray 0):=by
  rw[<- q];exact Xl _ rfl
 have j:∀b o,s.heap.get? b=some o->(a.push (T8 "list" vs.toArray 0)).get? b=some o:=λb o e=>X4 _ (D b o e);have n:∀b o,s.heap.get? b=some o->b≠s.heap.objs.size+1:=λb o e=>Xm (WH (XH e));rw[q];refine ZB (WA (Ue slot_list_sort ⟨_,d,rfl⟩ entry_list_sort (zeN (s:={ s with heap:=a.push (T8 "list" vs.toArray 0) }) d i r (λc s' k=>hk c s' λb o e=>k b o (n b o e) (j b o e)) ?_) (args_list_sort _)));intro f h' c z B G u;exact⟨_,rfl,XT ⟨_,rfl,h f h' c z B (λb o e=>G b o (n b o e) (j b o e)) u⟩⟩
end
def zdc {α d:Type}{R:α->d->Prop}{xs:List α}{ys:List d}(hp:WU R xs ys):(∀p∈xs.zip ys,R p.1 p.2)/\(xs.zip ys).map (·.1)=xs/\(xs.zip ys).map (·.2)=ys:=by
 induction hp with
 | nil=>exact⟨(λp h=>nomatch h),rfl,rfl⟩
 | cons h _ e =>
  obtain⟨a,b,c⟩:=e;refine⟨λp hp=>?_,by rw[List.zip_cons_cons,Xh,b],by rw[List.zip_cons_cons,Xh,c]⟩;rcases XJ.mp hp with rfl | hp
  .exact h
  .exact a p hp
theorem zeO {α a:Type}{R:α->a->Prop}:∀{zs:List (α × a)},(∀p∈zs,R p.1 p.2)->WU R (zs.map (·.1)) (zs.map (·.2))
 | [],_=>.nil
 | p::zs,h=>.cons (h p XV) (zeO λq b=>h q (XW _ b))
theorem JV {α a:Type}{R:α->a->Prop}:∀{xs:List α} {ys:List a},WU R xs ys->∀x∈xs,∃y∈ys,R x y
 | _,_,.nil,x,h=>nomatch h
 | _,_,.cons h t,x,hx=>by
  rcases XJ.mp hx with rfl | hx
  .exact⟨_,XV,h⟩
  .obtain⟨y,h1,h2⟩:=JV t x hx;exact⟨y,XW _ h1,h2⟩
def Tri {K:Type}(a:V->K->Prop)(RH:Y1->K->Prop)(t:V×Y1×K):Prop:=RelV t.1 t.2.1/\a t.1 t.2.2/\RH t.2.1 t.2.2
def zqn {K:Type}{d:V->K->Prop}{RH:Y1->K->Prop}{c:AF}{a:List Y1}{ks:List K}(h1:Vals c a):WU d c ks->WU RH a ks->∃T:List (V×Y1×K),(∀t∈T,Tri d RH t)/\T.map (·.1)=c/\T.map (·.2.1)=a/\T.map (·.2.2)=ks:=by
 induction h1 generalizing ks with
 | nil =>
  intro h2 b;cases h2;exact⟨[],(λt h=>nomatch h),rfl,rfl,rfl⟩
 | @cons u i c a g o f =>
  intro h2 b;cases h2 with
  | @cons _ k _ ks j m =>
   cases b with
   | cons l n =>
    obtain⟨T,h1,h2,b,e⟩:=f m n;refine⟨(u,i,k)::T,λt ht=>?_,by rw[Xh,h2],by rw[Xh,b],by rw[Xh,e]⟩;rcases XJ.mp ht with rfl | ht
    .exact⟨g,j,l⟩
    .exact h1 t ht
theorem zgM {K:Type}{d:V->K->Prop}{RH:Y1->K->Prop}:∀{T:List (V×Y1×K)},(∀t∈T,Tri d RH t)->Vals (T.map (·.1)) (T.map (·.2.1))/\WU d (T.map (·.1)) (T.map (·.2.2))
 | [],_=>⟨.nil,.nil⟩
 | t::T,h=>by
  obtain⟨h1,h2⟩:=zgM λx e=>h x (XW _ e);obtain⟨a,b,c⟩:=h t XV;exact⟨.cons a h1,.cons b h2⟩
section
variable {X:Cx}{bQ:List (Addr×Obj)}{σ:St}{H:Hp}{s:X8}{K:Type}
def zkm {lt:K->K->Bool}(W:Wk lt){Y:V->K->Prop}{RH:Heap->Y1->K->Prop}(fn:∀h v k n,RH h v k->RH h v n->k=n)(kp:∀h h' v k,(∀b o,h.get? b=some o->h'.get? b=some o)->RH h v k->RH h' v k)
  {l:Addr} {U:AF} {f:List Y1} {ks:List K} {Q:VK} (I:Inv X bQ σ H s) (hl:s.heap.IsList l f.toArray) (hz:U.length<=1000000) (rv:Vals U f) (hv:WU Y U ks) (E:WU (RH s.heap) f ks)
  (N:∀s':X8,WU (RH s'.heap) f ks->2<=f.length->Xu (Xw X.prog X.w) X.A.in1.in1 (keyKind' f.toArray) (fun κ s2=>s2=s'/\∀v v' k n,RH s'.heap v k->RH s'.heap v' n->∀C:Bool->X8->Prop,C (lt k n) s'->Xu (Xw X.prog X.w) X.A.in1.in1 (keyLt' κ v v') C (λ_ _=>False) s') (λ_ _=>False) s')
  (q:∀d D u,H d=none->WU Y D u->u.Perm ks->u.Pairwise (λx y=>lt y x=false)->(D.Perm U)->Q (.ref d) (upd H d (.lst D))) :
  Xu (Xw X.prog X.w) X.A (call (.builtin "sorted") [.ref l]) (EP X bQ σ Q) X.xe s:=by
 classical
 have aa:=rv.length;obtain⟨T,hT,e1,e2,e3⟩:=zqn rv hv E;let r:Y1->Int:=λv=>if h:∃k,RH s.heap v k then rkK lt ks h.choose else 0
 have i:∀{v:Y1} {k:K},RH s.heap v k->r v=rkK lt ks k:=λ{v k} h=>by
  have m:∃k,RH s.heap v k:=⟨k,h⟩;show (if h:∃k,RH s.heap v k then rkK lt ks h.choose else 0)=_;rw[dif_pos m,fn _ _ _ _ m.choose_spec h]
 have z1:f.length<=Xz:=by
  rw[<- aa,SO];lia
 refine zkl (vs:=f) hl z1 r (λh2 s' O=>?_) λws h' c J hs O ha=>?_
 .have ab:WU (RH s'.heap) f ks:=by
   obtain⟨a,b,c⟩:=zdc E;have:=zeO (R:=RH s'.heap) (zs:=f.zip ks) λp E=>kp _ _ _ _ O (a p E);rw[b,c]at this;exact this
  refine Xa (N s' ab h2) (fun κ s2 ⟨e,hc⟩=>⟨e,λx m y L C hC=>?_⟩) λ_ _ z=>z;have mx:x.1∈f:=by
   rw[Ug]at m;exact(RP m).2
  have my:y.1∈f:=by
   rw[Ug]at L;exact(RP L).2
  obtain⟨k,k1,k2⟩:=JV E x.1 mx;obtain⟨n,ae,M⟩:=JV E y.1 my;refine hc x.1 y.1 k n (kp _ _ _ _ O k2) (kp _ _ _ _ O M) C ?_;have G:C (decide (r x.1<r y.1)) s':=hC;rw[i k2,i M,<- W.rank k1]at G;exact G
 .obtain⟨T',g,eT⟩:=ST.zc9 (λt:V×Y1×K=>t.2.1) J T e2.symm;have j:∀t∈T',Tri Y (RH s.heap) t:=λt ht=>hT t (g.mem_iff.mp ht);obtain⟨B,ac⟩:=zgM j;rw[<- eT]at B;have hD:H (s.heap.objs.size+1)=none:=I.hok.fresh (Wl _);refine⟨.ref (s.heap.objs.size+1),upd H (s.heap.objs.size+1) (.lst (T'.map (·.1))),I.laid (t':=s.toks) O (Wl _) ⟨?_,ws,c,B,ha⟩,rfl,q _ _ _ hD ac (by rw[<- e3];exact g.map _) ?_ (by rw[<- e1];exact g.map _)⟩
  .rw[B.length,J.length_eq];exact z1
  .rw[eT,V1]at hs;rw[V1];refine hs.imp_of_mem λ{x y} m L h=>?_;obtain⟨_,_,h1⟩:=j x m;obtain⟨_,_,h2⟩:=j y L;rw[i h1,i h2]at h;have my:y.2.2∈ks:=by
    rw[<- e3];exact XA.mpr ⟨y,g.mem_iff.mp L,rfl⟩
   rw[W.rank my];exact bf (by lia)
end
def zqo:Wk lt2:=by
 refine⟨λx y h=>?_,λx y z h1 h2=>?_⟩
 .cases e:lt2 y x with
  | false=>rfl
  | true =>
   have:=zhT h e;rw[zi4]at this;cases this
 .cases e:lt2 z x with
  | false=>rfl
  | true =>
   by_cases a:x=y
   .subst a;rw[e]at h2;exact h2
   .have b:lt2 x y=true:=by
     have:=zcw (p:=x) (q:=y) a;rw[h1]at this;cases hh:lt2 x y with
     | true=>rfl
     | false =>
      rw[hh]at this;cases this
    have:=zhT e b;rw[this]at h2;exact h2
def zjj {h:Heap}{v:Y1}{p q:Int×Int}(h1:zF h v p)(h2:zF h v q):p=q:=by
 obtain⟨a,o,n,t,u,e,k,A,i⟩:=h1;obtain⟨z,D,B,x,y,j,c,g,b⟩:=h2;subst e;cases j;rw[k]at c;cases c;rw[i]at b;obtain⟨m,r⟩:=p;obtain⟨s,w⟩:=q;injection b with b _
 have l:[Vl m t,Vl r u]=[Vl s x,Vl w y]:=congrArg Array.toList b;injection l with f d
 injection d with d _
 injection f with f _
 injection d with d _
 rw[f,d]
end GS
end L2
namespace PySem.SeqAt
open L2 AutoSeq1 MeetsSeq MeetsSeq2 MeetsSeq3
end PySem.SeqAt
namespace L2
open PySem PySem.Spec PyProof.Rows PySem.W PySem.SeqAt
end L2
namespace PySem.SeqAt
open L2 AutoSeq1 MeetsSeq MeetsSeq2 MeetsSeq3
def ltL:List (Int×Int)->List (Int×Int)->Bool
 | _,[]=>false
 | [],_::_=>true
 | p::r,q::t=>if p=q then ltL r t else lt2 p q
def zfH (ps:List (Int×Int)):ltL ps []=false:=by cases ps<;>rfl
theorem zjk:∀ps:List (Int×Int),ltL ps ps=false
 | []=>rfl
 | p::r=>by
  unfold ltL;rw[bw rfl];exact zjk r
theorem zjl:∀{ps qs:List (Int×Int)},ps≠qs->ltL qs ps=!ltL ps qs
 | [],[],h=>absurd rfl h
 | [],q::t,_=>rfl
 | p::r,[],_=>rfl
 | p::r,q::t,h=>by
  unfold ltL;by_cases e:p=q
  .subst e;rw[bw rfl,bw rfl];exact zjl λz=>h (by rw[z])
  .rw[bq e,bq (Va e)];exact zcw e
theorem zh3:∀{ps qs d:List (Int×Int)},ltL ps qs=true->ltL qs d=true->ltL ps d=true
 | ps,[],_,h,_=>by
  rw[zfH]at h;cases h
 | _,_::_,[],_,h=>by
  rw[zfH]at h;cases h
 | [],_::_,_::_,_,_=>rfl
 | p::r,q::t,x::y,h1,h2=>by
  unfold ltL at *
  by_cases b:p=q
  .subst b;rw[bw rfl]at h1;by_cases a:p=x
   .rw[bw a]at h2 ⊢;exact zh3 h1 h2
   .rw[bq a]at h2 ⊢;exact h2
  .rw[bq b]at h1;by_cases a:q=x
   .subst a;rw[bq b];exact h1
   .rw[bq a]at h2;have c:=zhT h1 h2;rw[bq]
    .exact c
    .intro e;subst e;rw[zi4]at c;cases c
def zh4 {A:W1}{s:X8}{v a:Y1}{p q:Int×Int}(h1:zF s.heap v p)(h2:zF s.heap a q)(d:A.units+10<U7):EqAt A s v a (decide (p=q)):=by
 obtain⟨as,b⟩:=Q2 h1;obtain⟨bs,c⟩:=Q2 h2;have:=eqAt_reads _ _ A s _ _ as bs b c rfl rfl (by show A.units+min 1 1<U7;lia);rw[zeC]at this;exact this
def ZO {h:Heap}{xs:Array Y1}{ps:List (Int×Int)}(d:WU (zF h) xs.toList ps){i:Nat}(g:i<xs.size):∃p r,ps.drop i=p::r/\ps.drop (i+1)=r/\zF h xs[i] p:=by
 have e:xs.toList.length=ps.length:=Paired.length d;rw[X6]at e;have h2:i<ps.length:=by lia
 obtain⟨a,b,c⟩:=GS.zdc d;refine⟨ps[i],ps.drop (i+1),WF h2,rfl,?_⟩;have f:i<(xs.toList.zip ps).length:=by
  rw[List.length_zip,X6];lia
 have:=a _ (UP f);rw[List.getElem_zip]at this;simpa using this
def zkn (l b:Addr)(c a:Array Y1)(n n2:Nat)(dd B:Option Addr)(sl H:Array (Option Y1))(ps qs:List (Int×Int))(k:Nat) :
  ∀i:Nat,c.size-i=k->i<=c.size->i<=a.size->Meets (UD.«list.__eq__.loop» ⟨[.ref l,.ref b,T9 i,T9 0],[]⟩)
   (λA R s=>s.heap.get? l=some { cls:=.type "list",dict:=dd,data:=.seq c n,slots:=sl }/\s.heap.get? b=some { cls:=.type "list",dict:=B,data:=.seq a n2,slots:=H } /\
    WU (zF s.heap) c.toList ps/\WU (zF s.heap) a.toList qs/\A.units+20<U7 /\
    R (.ok (.ret (.bool (ltL (ps.drop i) (qs.drop i))))) s):=by
 induction k with
 | zero =>
  intro i hk h1 h2 f w A R s h;obtain⟨Y,g,d,tk,os⟩:=s;obtain⟨y,x,m,o,I,h⟩:=h;have E:c.toList.length=ps.length:=Paired.length m;have G:a.toList.length=qs.length:=Paired.length o;rw[X6]at E G;wp_walk using V8 y,V8 x;have j:c[((i:Nat):Int).toNat]?=none:=by simp;lia
  rw[j];have D:ps.drop i=[]:=by simp;lia
  have e:ltL (ps.drop i) (qs.drop i)=decide (c.size<a.size):=by
   rw[D];by_cases hq:i<qs.length
   .rw[WF hq];exact(br (by lia)).symm
   .rw[List.drop_of_length_le (by lia)];exact(bf (by lia)).symm
  rw[e]at h;wp_walk using V8 y,V8 x;exact h
 | succ k ih =>
  intro i hk h1 h2 f w A R s h;obtain⟨Y,g,d,tk,os⟩:=s;obtain⟨y,x,m,o,I,h⟩:=h;have E:c.toList.length=ps.length:=Paired.length m;have G:a.toList.length=qs.length:=Paired.length o;rw[X6]at E G;wp_walk using V8 y,V8 x;have z:i<c.size:=by lia
  have j:c[((i:Nat):Int).toNat]?=some c[i]:=by simp[z]
  by_cases v:i<a.size
  .have u:a[((i:Nat):Int).toNat]?=some a[i]:=by simp[v]
   have U:((i:Int)+1)=((i+1:Nat):Int):=by push_cast;rfl
   obtain⟨p,r,M,O,J⟩:=ZO m z;obtain⟨q,t,N,Q,L⟩:=ZO o v;rw[j,u];refine ZB (zh4 J L (by show A.units+1+10<U7;lia) f w _ _ ?_);rw[M,N]at h;unfold ltL at h;by_cases e:p=q
   .rw[bw e]at h;rw[br e];wp_walk;rw[U];exact⟨Ut plain_eq_loop _,VE entry_eq_loop (by
     rw[VZ plain_eq_loop _];exact ih (i+1) (by lia) (by lia) (by lia) f w A R _ ⟨y,x,m,o,I,by rw[O,Q];exact h⟩)⟩
   .rw[bq e]at h;rw[bf e];simp only[Wq,if_false];refine ZB (Rl y rfl (ZB (Rl x rfl ?_)));rw[j,u];exact ZB (zaj.pairs J L (by show A.units+1<U7;lia) f w _ _ (XT h))
  .have u:a[((i:Nat):Int).toNat]?=none:=by simp;lia
   rw[j,u];have D:qs.drop i=[]:=by simp;lia
   rw[D,zfH,show false=decide (c.size<a.size) from (bf (by lia)).symm]at h;wp_walk using V8 y,V8 x;exact h
def zh5 (l b:Addr)(c a:Array Y1)(n j:Nat)(dd d:Option Addr)(k f:Array (Option Y1))(ps qs:List (Int×Int)) :
  Meets (UD.«list.__lt__» ⟨[.ref l,.ref b],[]⟩)
   (λA R s=>s.heap.get? l=some { cls:=.type "list",dict:=dd,data:=.seq c n,slots:=k }/\s.heap.get? b=some { cls:=.type "list",dict:=d,data:=.seq a j,slots:=f } /\
    WU (zF s.heap) c.toList ps/\WU (zF s.heap) a.toList qs/\A.units+20<U7/\R (.ok (.ret (.bool (ltL ps qs)))) s):=by
 intro e w A R s h;obtain⟨o,y,v,u,r⟩:=s;obtain⟨i,g,m,p,q,h⟩:=h;have x:=sub_list_list;wp_walk using V8 i,V8 g;exact⟨Ut plain_eq_loop _,VE entry_eq_loop (by
  rw[VZ plain_eq_loop _];exact zkn l b c a n j dd d k f ps qs _ 0 rfl (WZ _) (WZ _) e w A R _ ⟨i,g,m,p,q,by simpa using h⟩)⟩
structure ListPairs (h:Heap)(v:Y1)(ps:List (Int×Int)):Prop where
 ex:∃a o xs n,v=.ref a/\h.get? a=some o/\o.cls=.type "list"/\o.data=.seq xs n/\WU (zF h) xs.toList ps
def zlV {prog:Xr}{w:Xe}{A:W1}{E:Y1->X8->Prop}{s:X8}{v q:Y1}{ps qs:List (Int×Int)}{C:Bool->X8->Prop}(y:ListPairs s.heap v ps)(g:ListPairs s.heap q qs)(H:A.units+30<U7)(h:C (ltL ps qs) s) :
  Xu (Xw prog w) A (PyProof.Rows.keyLt' PyProof.Rows.oneType' v q) C E s:=by
 obtain⟨a,⟨u,x,p,D⟩,G,n,rfl,e,l,o,B⟩:=y;obtain⟨r,⟨m,d,data2,j⟩,k,z,rfl,f,b,c,i⟩:=g;simp only at l o b c;subst l o b c;rw[PyProof.Rows.keyLt'_oneType,PyProof.Rows.oneLt'_eq];simp only[if_true];refine ZB (wpAny_cRoomFor (by lia) ?_);refine ZB (wpAny_callSpecialIfBound?_slot (T:="list") ⟨_,e,rfl⟩ F.slot_list_lt ?_);refine RI F.slot_list_lt ⟨_,e,rfl⟩ F.entry_list_lt (F.args_list_lt_2 _ _) (zh5 a r G k n z x d D j ps qs) ⟨e,f,B,i,(by lia),?_⟩;exact U3 h
end PySem.SeqAt
namespace L2
open PySem PySem.Spec PyProof.Rows PySem.W PySem.SeqAt
namespace GS
def zqp:Wk ltL:=by
 refine⟨λx y h=>?_,λx y z h1 h2=>?_⟩
 .cases e:ltL y x with
  | false=>rfl
  | true =>
   have:=zh3 h e;rw[zjk]at this;cases this
 .cases e:ltL z x with
  | false=>rfl
  | true =>
   by_cases a:x=y
   .subst a;rw[e]at h2;exact h2
   .have b:ltL x y=true:=by
     have:=zjl (ps:=x) (qs:=y) a;rw[h1]at this;cases hh:ltL x y with
     | true=>rfl
     | false =>
      rw[hh]at this;cases this
    have:=zh3 e b;rw[this]at h2;exact h2
def LstAt (H:Hp)(v:V)(ps:List (Int×Int)):Prop:=∃a b,v=V.ref a/\H a=some (.lst b)/\xY H b ps
def zko {h:Heap}{vs:List Y1}{ps qs:List (Int×Int)}(d:WU (zF h) vs ps):WU (zF h) vs qs->ps=qs:=by
 induction d generalizing qs with
 | nil =>
  intro c;cases c;rfl
 | cons a _ e =>
  intro c;cases c with
  | cons b u=>rw[zjj a b,e u]
def zlW {h:Heap}{v:Y1}{ps qs:List (Int×Int)}(h1:ListPairs h v ps)(h2:ListPairs h v qs):ps=qs:=by
 obtain⟨a,o,s,n,e,j,p,g,k⟩:=h1;obtain⟨m,r,l,q,i,c,f,b,d⟩:=h2;subst e;cases i;rw[j]at c;cases c;rw[g]at b;injection b with b _
 subst b;exact zko k d
def Yt {h h':Heap}(k:∀b o,h.get? b=some o->h'.get? b=some o){vs:List Y1}{ps:List (Int×Int)}(d:WU (zF h) vs ps):WU (zF h') vs ps:=by
 induction d with
 | nil=>exact .nil
 | cons q _ f =>
  obtain⟨a,o,n,t,u,e,c,r⟩:=q;exact .cons ⟨a,o,n,t,u,e,k _ _ c,r⟩ f
section
variable {X:Cx}{bQ:List (Addr×Obj)}{σ:St}{H:Hp}{s:X8}
def zh6 (I:Inv X bQ σ H s){c:AF}{ks:List (List (Int×Int))}{b:List Y1}(d:WU (LstAt H) c ks)(r:Vals c b):WU (ListPairs s.heap) b ks:=by
 induction d generalizing b with
 | nil =>
  cases r;exact .nil
 | cons q _ g =>
  obtain⟨a,m,e,h,f⟩:=q;subst e;cases r with
  | cons i j =>
   cases i;refine .cons ?_ (g j);obtain⟨z,b,n,k,l,e⟩:=I.lstM h;exact⟨a,_,b.toArray,n,rfl,e,rfl,rfl,by rw[Os];exact xY.pairs I f k⟩
end
def zh7 {h:Heap}{b:List Y1}{ks:List (List (Int×Int))}(f:WU (ListPairs h) b ks):∀v∈b,∃a o,v=WN a/\h.get? a=some o/\o.cls=.type "list":=by
 induction f with
 | nil=>exact λv hv=>nomatch hv
 | cons q _ g =>
  intro v hv;rcases XJ.mp hv with rfl | hv
  .obtain⟨a,o,i,n,e,d,c,_⟩:=q;exact⟨a,o,e,d,c⟩
  .exact g v hv
section
variable {X:Cx}
def Q4 (hu:X.A.units+64<U7):j3 X (.builtin "sorted") (λxs H Q=>∃l g ks,xs=[.ref l]/\SqL X.K H l g/\WU (LstAt H) g ks/\g.length<=1000000 /\
  ∀d b f,H d=none->WU (LstAt H) b f->f.Perm ks->f.Pairwise (λp q=>ltL q p=false)->b.Perm g->Q (.ref d) (upd H d (.lst b))):=by
 intro bQ s σ H xs b Q I r h;obtain⟨l,g,ks,rfl,J,m,M,q⟩:=h;obtain⟨u,rfl,Y⟩:=vals1 r;cases Y;obtain⟨N,x,U,_⟩:=I.list J;have G:=zh6 I m x;refine zkm zqp (RH:=ListPairs) (λh v k O=>zlW) (λh h' v k w ⟨a,o,xs,n,e,i,c,d,r⟩=>⟨a,o,xs,n,e,w _ _ i,c,d,Yt w r⟩) I U.isList M x m G (λs' j h2=>?_) λd b f E h1 h2 z B=>q d b f E h1 h2 z B;refine kas_kind (T:=.type "list") h2 (λv L=>?_) (by decide) (by decide) ⟨rfl,λv v' k O h1 h2 C D=>?_⟩
 .obtain⟨a,o,rfl,i,y⟩:=zh7 j v L;exact y ▸ (Looks.ld i).andThen .now
 .exact zlV h1 h2 (by show X.A.units+1+1+30<U7;lia) D
end
end GS
open PySem PySem.Spec PyProof.Rows
def HasDef (K:X5)(x:Str)(st:Stmt):Prop:=∃(f:Addr) (e:Y1) (g b:Option Addr) (i:Array (Option Y1)) (kV d h a c:Y1),XU K XY x=some (some (.ref f))/\K.lookup f=some ⟨e,g,.func (VV x x (yg st) (jr st) (ze st) .none kV d h b a c),i⟩/\U6 K a x=true/\Vp K (.ref f)=true
def us0 {P:List Y1->Prop}(h:P []):∀b:List Y1,b.length=0->P b:=by
 intro b e;cases b with
 | nil=>exact h
 | cons a t=>cases e
def usS {n:Nat}{P:List Y1->Prop}(h:∀a t,t.length=n->P (a::t)):∀b:List Y1,b.length=n+1->P b:=by
 intro b e;cases b with
 | nil=>cases e
 | cons a t=>exact h a t (Nat.succ.inj e)
def us1 {P:List Y1->Prop}(h:∀a,P [a]):∀b:List Y1,b.length=1->P b:=usS λa=>us0 (h a)
def us2 {P:List Y1->Prop}(h:∀a b,P [a,b]):∀c:List Y1,c.length=2->P c:=usS λa=>us1 (h a)
def us3 {P:List Y1->Prop}(h:∀a b c,P [a,b,c]):∀d:List Y1,d.length=3->P d:=usS λa=>us2 (h a)
def us4 {P:List Y1->Prop}(h:∀a b c d,P [a,b,c,d]):∀e:List Y1,e.length=4->P e:=usS λa=>us3 (h a)
def HasDef.at {K:X5}{h:Heap}{i:Str->Option Y1}{x:Str}{st:Stmt}{ps:AE}(H:HasDef K x st)(X:K.In h)(G:h.Ns XY i)
  (n:∀(kV doc j:Y1) (e:Option Addr) (b g:Y1) (d:List Y1),d.length=ps.length->N5 (VV x x (yg st) (jr st) (ze st) .none kV doc j e b g) ⟨d,[]⟩=pure (ps.zip d):=by intro _ _ _ _ _ _;first | exact us1 λ_=>rfl | exact us2 λ_ _=>rfl | exact us3 λ_ _ _=>rfl | exact us4 λ_ _ _ _=>rfl):∃f m,zj K i x st ps f m:=by
 obtain⟨f,q,r,e,s,kV,p,j,o,g,a,l,c,k⟩:=H;have F:=zlf (st:=st) l c k;exact⟨f,_,F,WR X G a,F.binds n⟩
open PySem PySem.W
open PySem PySem.Spec PyProof.Rows PySem.W
namespace ST
variable {X:Cx}
def zea (hh:X.A.handled=none):j3 X (.builtin "sorted") (λxs H Q=>∃l ks,xs=[.ref l]/\H l=some (zc8 X.prog X.w l ks)/\(∀q∈ks,H q.1=some (.tup [.int q.2.1,.int q.2.2]))/\(ks.map (·.2)).Nodup/\ks.length<64 /\
  ∀d U O,H d=none->xY H U O->O.Perm (ks.map (·.2))->Up2 O->Q (.ref d) (upd H d (.lst U))):=by
 intro bQ s σ H xs U Q I r h;obtain⟨l,ks,rfl,hl,hT,ak,ap,q⟩:=h;obtain⟨u,rfl,ru⟩:=vals1 r;cases ru;obtain⟨⟨es,ep,t,ho,he,G,ab,am⟩,_,_⟩:=(show jd X.prog X.w H s.heap l (zc8 X.prog X.w l ks) from I.hok l _ hl);have av:ks.length=es.size:=by
  rw[<- X6,he,X9]
 apply Rm kind_sorted plain_sorted entry_sorted (args_sorted1 _);unfold UD.«sorted»;refine ZB (m:=checkCount "sorted" 1 1 _) (XT (ZB (zgJ (by simp[hh]) ho G ab am (by lia) λf h1 tk ae ah aj=>?_)));have ao:es.toList.map (·.2)=ks.map λq=>WN q.1:=by
  rw[he,Ws];rfl
 rw[ao]at ae;obtain⟨g,z,hj⟩:=zc9 (λq:Addr×(Int×Int)=>WN q.1) ae ks rfl;have aa:∀q∈g,H q.1=some (.tup [.int q.2.1,.int q.2.2]):=λq L=>hT q (z.mem_iff.mp L);have D:(g.map (·.2)).Nodup:=(z.map (·.2)).nodup_iff.mpr ak;have au:g.length=ks.length:=z.length_eq;have ar:f.length=g.length:=by rw[hj,X9]
 have rv:∀{g:List (Addr×(Int×Int))},Vals (g.map λq=>V.ref q.1) (g.map λq=>WN q.1):=λ{g}=>by
  induction g with
  | nil=>exact .nil
  | cons a t ih=>exact .cons rfl ih
 have ht:∀{g:List (Addr×(Int×Int))},(∀q∈g,H q.1=some (.tup [.int q.2.1,.int q.2.2]))->xY H (g.map λq=>V.ref q.1) (g.map (·.2)):=λ{g}=>by
  induction g with
  | nil=>exact λ_=>.nil
  | cons a t ih=>exact λh=>.cons ⟨a.1,rfl,h a XV⟩ (ih λq L=>h q (XW _ L))
 have j:WU (zF s.heap) f (g.map (·.2)):=by
  rw[hj];exact xY.pairs I (ht aa) rv
 generalize af:g.map (·.2)=ps at j D;have aw:f.length=ps.length:=Paired.length j;have W:=GS.zqo;have ip:∀q:Addr×(Int×Int),H q.1=some (.tup [.int q.2.1,.int q.2.2])->zF s.heap (.ref q.1) q.2:=λq L=>by
  have:=xY.pairs I (.cons ⟨q.1,rfl,L⟩ .nil:xY H [V.ref q.1] [q.2]) (.cons rfl .nil:Vals [V.ref q.1] [WN q.1]);cases this with
  | cons h _=>exact h
 classical
 let r:Y1->Int:=λv=>if h:∃k,zF s.heap v k then GS.rkK lt2 ps h.choose else 0
 have B:∀{v:Y1} {k:Int×Int},zF s.heap v k->r v=GS.rkK lt2 ps k:=λ{v k} h=>by
  have M:∃k,zF s.heap v k:=⟨k,h⟩;show (if h:∃k,zF s.heap v k then GS.rkK lt2 ps h.choose else 0)=_;rw[dif_pos M,GS.zjj M.choose_spec h]
 have small:f.length<=Xz:=by rw[SO];lia
 refine ZB (Oj ?_ small);have ac:(h1.push (T8 "list" f.toArray 0)).get? h1.objs.size=some (T8 "list" f.toArray 0):=Xl _ rfl;have kL:∀b o,s.heap.get? b=some o->(h1.push (T8 "list" f.toArray 0)).get? b=some o:=λb o e=>X4 _ (ah b o e);have ne:∀b o,s.heap.get? b=some o->b≠h1.objs.size:=λb o e=>Xm (XH (ah b o e));show Xu _ _ _ _ _ { s with heap:=h1.push (T8 "list" f.toArray 0),toks:=tk };refine ZB (WA (Ue slot_list_sort ⟨_,ac,rfl⟩ entry_list_sort (GS.zeN (s:={ s with heap:=h1.push (T8 "list" f.toArray 0),toks:=tk }) ac small r (λh2 s' kk=>?_) ?_) (args_list_sort _)))
 .have al:=Yt (λb o e=>kk b o (ne b o e) (kL b o e)) j;obtain⟨fs,hk,aq,hint⟩:=zaG al;refine kat_kind (T:=.type "int") hk (by lia) (λv hv=>?_) (by decide) ⟨rfl,λx M y hy C hC=>?_⟩
  .obtain⟨x,t,rfl⟩:=hint v hv;exact Looks.of_pure rfl
  .have mx:x.1∈f:=by
    rw[Ug]at M;exact(RP M).2
   have my:y.1∈f:=by
    rw[Ug]at hy;exact(RP hy).2
   obtain⟨k,k1,k2⟩:=GS.JV j x.1 mx;obtain⟨k',ax,ag⟩:=GS.JV j y.1 my;have kp:∀{v:Y1} {k:Int×Int},zF s.heap v k->zF s'.heap v k:=λ{v k} ⟨a,o,n,t,u,e,e1,r⟩=>⟨a,o,n,t,u,e,kk _ _ (ne _ _ e1) (kL _ _ e1),r⟩;have Y:C (decide (r x.1<r y.1)) s':=hC;rw[B k2,B ag,<- W.rank k1]at Y;exact znK (kp k2) (kp ag) Y
 .intro ws h' c E hs kk ha;obtain⟨p,i,ej⟩:=zc9 (λq:Addr×(Int×Int)=>WN q.1) E g hj;have hD:H h1.objs.size=none:=I.hok.fresh aj;have J:∀q∈p,H q.1=some (.tup [.int q.2.1,.int q.2.2]):=λq L=>aa q (i.mem_iff.mp L);have ai:Vals (p.map λq=>V.ref q.1) ws:=by
   rw[ej];exact rv
  have N:(p.map (·.2)).Nodup:=(i.map (·.2)).nodup_iff.mpr (by rw[af];exact D);have an:Up2 (p.map (·.2)):=by
   unfold Up2;unfold W6 at N;rw[V1]at N ⊢;rw[ej,V1]at hs;refine(hs.and N).imp_of_mem λ{x y} M hy ⟨h1,h2⟩=>?_;rw[B (ip x (J x M)),B (ip y (J y hy))]at h1;have my:y.2∈ps:=by
    rw[<- af];exact XA.mpr ⟨y,i.mem_iff.mp hy,rfl⟩
   have e1:lt2 y.2 x.2=false:=by
    rw[W.rank my];exact bf (by lia)
   have e2:=zcw h2;rw[e1]at e2;cases hh:lt2 x.2 y.2 with
   | true=>rfl
   | false =>
    rw[hh]at e2;cases e2
  refine⟨_,rfl,XT ⟨_,rfl,.ref h1.objs.size,upd H h1.objs.size (.lst (p.map λq=>V.ref q.1)),I.laid (t':=tk) (λb o e=>kk b o (ne b o e) (kL b o e)) aj ⟨?_,_,c,ai,ha⟩,rfl,q _ _ _ hD (ht J) ((i.trans z).map _) an⟩⟩;rw[ai.length,E.length_eq];exact small
end ST
section
variable {X:Cx}
def zrY (K:X5)(S:Addr)(i:Nat)(sp:Sp)(f:TA)(g:TS):TS:=λD b H=>f b H λh d=>sp h d (λv a=>D.nx (b.set i (some v)) a)
 (λc _ a=>∃C,c=.ref C/\Wn K C (.ref S)=some true/\∀e,a e=none->g D b (upd a e (exO e C)))
def zn1 {k i:Nat}{x f U:Str}{fA S:Addr}{fd:XM}{ps:AE}{sp:Sp}{ta:TA}{ts:TS}{E:Expr}{o:List Expr}{xp fp M ap aj hp pos:Pos}{b0:Stmt}{b:List Stmt}
  (c:X.stack=X.env::X.outer) (ac:X.env.frame=some X.env.locals) (F:qz X.prog X.w X.K X.mg X.base (CXE X.prog X.w) k fA fd ps sp) (hr:xh k X.A) (hg:Gl X f) (hm:X.mg f=some (.ref fA)) (hk:Vp X.K (.ref fA)=true) (hb:Binds X.K fd ps [])
  (hN:X.N.Nodup) (hi:X.N[i]?=some x) (hx:Loc X.env.scope x) (hf:X.fn x=true\/X.env.scope.names.lookup x=some .local) (gS:Gl X U) (O:qi X.K X.mg U S)
  (ha:PA X.nox (E::o) ta) (hs:∀e,PSs (markX X e) (b0::b) ts)
  (he:W4 (E::o) X.env=(false,eval E X.env)::W4 o X.env:=by rfl) (af:(UI M (W4 o X.env)).any (·.1)=false:=by rfl) (ab:(f==("__debug__":Str))=false:=by decide) (aa:(U==("__debug__":Str))=false:=by decide)
  (ah:SQ (.Call (.Name f fp) (E::o) [] M) (some (.Name x xp)) ap.line X.env=pure false:=by rfl) :
  PS X (.Try [.Assign [.Name x xp] (.Call (.Name f fp) (E::o) [] M) ap] [.ExceptHandler (some (.Name U aj)) none (b0::b) hp] [] [] pos) (zrY X.K S i sp ta ts):=by
 intro bQ s σ H D I h;refine wpAny_Try_except (Vg ?_);refine SD (Vc (xN I hg hm ?_ ab)) ah;refine T6 (h₀:=X.base) I.ok.mod.kin hk (Xa (ha M bQ s σ H _ (I.wish _) h) (λQ s1 ⟨vs,H1,p,r,q⟩=>⟨p.kIn,?_⟩) λ_ _ z=>WB z) he af;have n:Inv X bQ σ H1 s1:=p.unwish;have G:Q.length=ps.length:=by rw[<- r.length];exact F.len _ _ _ _ q
 have bt:=hb s1 Q n.kIn (by rw[WX];exact G);rw[WX]at bt;refine Pu (UT (F.run X.A X.stack s1 H1 ⟨Q,[]⟩ Q vs _ _ hr n.env0 bt r q) λai s' J=>?_);cases ai with
 | ok fl =>
  cases fl with
  | ret u =>
   refine eZ (λv H2 I2 rv q2=>?_) (n.after J);exact ZE I2 hN hi hx rv (λs3 I3=>VF (VF ⟨_,H2,I3,q2⟩)) hf
  | next=>exact WB J
  | brk=>exact WB J
  | cont=>exact WB J
 | error y =>
  revert J;refine eS λe C a0 B H'=>eF λz0 L=>fq λC'=>eF λec ae ag=>?_;subst z0;cases ec;have ff:=L.fly;rw[c]at ff;refine Pc (by rw[n.ok.frames,c]) ac ff λh4 an ak=>?_;refine NZ an λh5 l al=>?_;have up:=ak.trans al;have Y:=L.caught n (h:=h5) (by rw[c];exact l) up;refine Oq (O0 (xN (X:=markX X e) (Y.mark e) gS O.g ?_ aa)) (by intro z;cases z);obtain⟨bm,OS⟩:=zlp Y.kIn O.q;refine eU (λoe aq q1 q2 q3 _=>?_) l.first;refine zi3 OS q1 q2 (Th Y.kIn ae) (codeAny_handlers_suite ?_);refine lands_againW l λh6 ao am=>?_;have I6:=L.caught n (h:=h6) (by rw[c];exact ao) (up.trans am);refine Xa (hs e bQ _ _ _ _ (I6.mark e) (ag e L.free)) (λfl s8 a=>?_) λ_ _ z=>z.elim;cases fl with
  | next =>
   obtain⟨m,d,j,a⟩:=a;exact⟨_,d,j.unmark I.ok,a⟩
  | brk =>
   obtain⟨m,d,j,a⟩:=a;exact⟨_,d,j.unmark I.ok,a⟩
  | cont =>
   obtain⟨m,d,j,a⟩:=a;exact⟨_,d,j.unmark I.ok,a⟩
  | ret u =>
   obtain⟨v8,m,d,j,r8,a⟩:=a;exact⟨v8,_,d,j.unmark I.ok,r8,a⟩
inductive Rd1 (σ:St)(i:Nat)(Q:VK)(H:Hp):Prop
 | mk (v:V) (h:σ[i]?=some (some v)) (q:Q v H):Rd1 σ i Q H
def tVS (i:Nat):TE:=fun a H Q=>Rd1 a i Q H
def pvS (i:Nat){x:Str}{pos:Pos}(c:X.N[i]?=some x:=by rfl)(f:Vis X.env.scope x:=by first | exact XI rfl | exact UH (XI rfl) | exact UH (UH rfl))(d:(x==("__debug__":Str))=false:=by decide)
  (a:(x==("__classdict__":Str))=false:=by decide):PE X (.Name x pos) (tVS i):=by
 intro b s g H Q I h;obtain⟨v,e,q⟩:=h;exact pv i c f d a b s g H Q I ⟨v,e,q⟩
def OpR.imp {f:Y1->Y1->Sem Y1}{r a:R2}(h:OpR X f r)(k:∀x y H Q,a x y H Q->r x y H Q):OpR X f a:=λb s e H x y v u Q I c d z=>h b s e H x y v u Q I c d (k x y H Q z)
def IxR.imp {r c:R2}(h:IxR X r)(k:∀x y H Q,c x y H Q->r x y H Q):IxR X c:=λb a d s i H x y v u Q I f g z e=>h b a d s i H x y v u Q I f g (k x y H Q z) e
inductive SI0 (g:Int->Int->V)(x y:V)(H:Hp)(Q:VK):Prop
 | mk (i j:Int) (hx:x=.int i) (hy:y=.int j) (q:Q (g i j) H):SI0 g x y H Q
inductive SI (C:Int->Int->Prop)(g:Int->Int->V)(x y:V)(H:Hp)(Q:VK):Prop
 | mk (i j:Int) (hx:x=.int i) (hy:y=.int j) (hc:C i j) (q:Q (g i j) H):SI C g x y H Q
def OpR.s0 {f:Y1->Y1->Sem Y1}{g:Int->Int->V}(h:OpR X f (rI0 g)):OpR X f (SI0 g):=h.imp λ_ _ _ _ ⟨i,j,a,b,q⟩=>⟨i,j,a,b,q⟩
def OpR.s1 {f:Y1->Y1->Sem Y1}{C:Int->Int->Prop}{g:Int->Int->V}(h:OpR X f (rI C g)):OpR X f (SI C g):=h.imp λ_ _ _ _ ⟨i,j,a,b,c,q⟩=>⟨i,j,a,b,c,q⟩
def qP:OpR X (Ul .Add) (SI0 λi j=>.int (i+j)):=zpR.s0
def yv:OpR X (Ul .Sub) (SI0 λi j=>.int (i-j)):=zpS.s0
def qp:OpR X (Ul .Mod) (SI (λ_ j=>0<j) λi j=>.int (i%j)):=zpT.s1
def qq:OpR X (Ul .FloorDiv) (SI jE λi j=>.int (i/j)):=zlg.s1
def zh9:OpR X (VO .Lt) (SI0 λi j=>.bl (decide (i<j))):=zrB.s0
def Zx:OpR X (VO .LtE) (SI0 λi j=>.bl (decide (i<=j))):=zrC.s0
def zia:OpR X (VO .Gt) (SI0 λi j=>.bl (decide (j<i))):=zrD.s0
inductive zrZ (K:X5)(x y:V)(H:Hp)(Q:VK):Prop
 | mk (p:Addr) (xs:AF) (i:Int) (v:V) (hx:x=.ref p) (hy:y=.int i) (hq:SqL K H p xs) (he:atI xs i=some v) (q:Q v H):zrZ K x y H Q
inductive zr0 (K:X5)(x y:V)(H:Hp)(Q:VK):Prop
 | mk (p:Addr) (xs:AF) (i:Int) (v:V) (hx:x=.ref p) (hy:y=.int i) (hq:SqT K H p xs) (he:atI xs i=some v) (q:Q v H):zr0 K x y H Q
inductive zr1 (x y:V)(H:Hp)(Q:VK):Prop
 | mk (z:Str) (i:Int) (c:Nat) (hx:x=.str z) (hy:y=.int i) (hl:z.length<=Xz) (he:atI z.cps.toList i=some c) (q:Q (.str ⟨#[c]⟩) H):zr1 x y H Q
def qW:IxR X (zrZ X.K):=znE.imp λ_ _ _ _ ⟨p,e,i,v,a,b,c,d,q⟩=>⟨p,e,i,v,a,b,c,d,q⟩
def qB:IxR X (zr0 X.K):=zpY.imp λ_ _ _ _ ⟨p,e,i,v,a,b,c,d,q⟩=>⟨p,e,i,v,a,b,c,d,q⟩
def zaP:IxR X zr1:=zpZ.imp λ_ _ _ _ ⟨z,i,c,a,b,d,e,q⟩=>⟨z,i,c,a,b,d,e,q⟩
inductive SB (x:V)(Q:Bool->Hp->Prop)(H:Hp):Prop
 | mk (k:Bool) (h:x=.bl k) (q:Q k H):SB x Q H
def zqr (t:TE):TT:=fun b H Q=>t b H λx a=>SB x Q a
def zG {op:CmpOp}{r:R2}{a b:Expr}{f g:TE}{pos:Pos}(B:OpR X (VO op) r)(p:PE X a f)(w:PE X b g)(A:Qr op b=false):PT X (.Compare a [op] [b] pos) (zqr (tOp r f g)):=by
 intro d s e H Q I h;refine wpAny_isTrue_Compare1 (thn (p d s e H _ I h) λv s1 ⟨x,i,m,J,D⟩=>thn (w d s1 e i _ m D) λu N ⟨y,j,n,L,E⟩=>thn (B d N e j x y v u _ n J L E) λc O ⟨z,l,o,M,G⟩=>?_) A;obtain⟨k,rfl,q⟩:=G;cases M;exact U3 ⟨l,o,q⟩
inductive zqs (K:X5)(xs:AF)(H:Hp)(Q:VK):Prop
 | mk (p:Addr) (ys:AF) (hx:xs=[.ref p]) (hq:SqL K H p ys\/SqT K H p ys) (q:Q (.int ys.length) H):zqs K xs H Q
def zE:j3 X (.builtin "len") (zqs X.K):=λc s g H e d Q I r ⟨p,f,a,b,q⟩=>zfp c s g H e d Q I r ⟨p,f,a,b,q⟩
def zdd {K:X5}(a:X.K=K):j3 X (.builtin "len") (zqs K):=a ▸ zE
inductive zr2 (x:V)(vs:AF)(H:Hp)(Q:VK):Prop
 | mk (l:Addr) (xs:AF) (y:V) (hx:x=.ref l) (hv:vs=[y]) (hl:H l=some (.lst xs)) (hz:xs.length<Xz) (q:Q .non (upd H l (.lst (xs++[y])))):zr2 x vs H Q
def yy:MtM X "list.append" zr2:=λe s k H x i v h Q I g f ⟨l,j,y,a,b,c,d,q⟩=>QC e s k H x i v h Q I g f ⟨l,j,y,a,b,c,d,q⟩
end
section
variable {X:Cx}{k k0:Nat}{f:Addr}{fd:XM}{ps:AE}{sp:Sp}{x:Str}{st:Stmt}{p pos:Pos}{e:Expr}{es:List Expr}{t:TA}
def pc0 (F:qz X.prog X.w X.K X.mg X.base CX0 k f fd ps sp)(i:xh k0 X.A)(D:zj X.K X.mg x st ps f fd)(d:PA X (e::es) t)(hk:k<=k0:=by decide)(h:Gl X x:=by rfl)
  (a:(x==("__debug__":Str))=false:=by decide) (he:W4 (e::es) X.env=(false,eval e X.env)::W4 es X.env:=by rfl) (c:(UI pos (W4 es X.env)).any (·.1)=false:=by rfl) :
  PE X (.Call (.Name x p) (e::es) [] pos) (zgg sp [] E0 t):=zcs F (i.mono hk) h D.g D.F.kp D.b .nil zpa d a he c
def pcL {E:XK}(L:jI X E)(F:qz X.prog X.w X.K X.mg X.base (CXE X.prog X.w) k f fd ps sp)(i:xh k0 X.A)(D:zj X.K X.mg x st ps f fd)(d:PA X (e::es) t)(hk:k<=k0:=by decide)(h:Gl X x:=by rfl)
  (a:(x==("__debug__":Str))=false:=by decide) (he:W4 (e::es) X.env=(false,eval e X.env)::W4 es X.env:=by rfl) (c:(UI pos (W4 es X.env)).any (·.1)=false:=by rfl) :
  PE X (.Call (.Name x p) (e::es) [] pos) (zgg sp [] E t):=zcs F (i.mono hk) h D.g D.F.kp D.b .nil (jI.passes L) d a he c
end
def ZP:0<=Xz:=by decide
def sz_1:1<=Xz:=by decide
def J2:2<=Xz:=by decide
def zlY:3<=Xz:=by decide
def zr3:4<=Xz:=by decide
def zbC {M:R5}{Γ:PySem.Ctx}{p:Pos}{t:Sem Fin}{fs:List Frame}{s s':X8}{e:End}(h:Runs M Γ p t fs s e s'):s.toks<=s'.toks:=by
 induction h;all_goals first | exact XX _ | assumption | (rename_i ih;exact X0 (Wl _) ih) | (rename_i ih1 ih2;exact X0 ih1 ih2)
def zib {M:R5}{Γ:PySem.Ctx}{p:Pos}{g:Nat}{r:Resume}{s s':X8}{a:GenResult}(h:Wakes M Γ p g r s a s'):s.toks<=s'.toks:=by
 unfold Wakes at h;split at h
 .exact h.elim
 .split at h
  .obtain⟨_,_,h,_,_,rfl⟩:=h;have:=zbC h;exact this
  .obtain⟨_,rfl⟩:=h;exact XX _
  .obtain⟨_,rfl⟩:=h;exact XX _
 .obtain⟨_,_,h,_,_,rfl⟩:=h;have:=zbC h;exact this
 .obtain⟨_,rfl⟩:=h;exact XX _
 .obtain⟨_,rfl⟩:=h;exact XX _
def wp_toks {α:Type}{M:R5}{Γ:PySem.Ctx}(t:Sem α){Q:α->Pos->X8->Prop}{E:Y1->Pos->X8->Prop}{p:Pos}{s:X8}(n:Nat)(b:n<=s.toks)(h:Sem.wp M Γ t Q E p s):Sem.wp M Γ t (λa c s'=>Q a c s'/\n<=s'.toks) (λe c s'=>E e c s'/\n<=s'.toks) p s:=by
 induction t generalizing p s;all_goals rw[Sem.wp]at h ⊢
 all_goals first | exact⟨h,b⟩ | exact h.elim | (rename_i ih;exact ih _ b h) | (rename_i ih;exact ih _ (Uz b) h) | (rename_i ih;exact⟨h.1,ih _ b h.2⟩) | (rename_i ih;obtain⟨x,h1,h2⟩:=h;exact⟨x,h1,ih _ b h2⟩) | (rename_i ih;obtain⟨r,s',h1,h2⟩:=h;exact⟨r,s',h1,ih _ (X0 b (zbC h1)) h2⟩) | (rename_i ih;obtain⟨r,s',h1,h2⟩:=h;exact⟨r,s',h1,ih _ (X0 b (zib h1)) h2⟩)
def up {α:Type}{M:R5}{A:W1}{t:Sem α}{Q:α->X8->Prop}{E:Y1->X8->Prop}{s:X8}{n:Nat}(b:n<=s.toks)(h:Xu M A t (λa s'=>n<=s'.toks->Q a s') E s):Xu M A t Q E s:=by
 have h2:Xu M A t (λa s'=>(n<=s'.toks->Q a s')/\n<=s'.toks) (λe s'=>E e s'/\n<=s'.toks) s:=fun Γ p hΓ=>wp_toks t n b (h Γ p hΓ);exact Xa h2 (λ_ _ z=>z.1 z.2) λ_ _ z=>z.1
def YY {α:Type}{t:Sem α}{Q b:α->X8->Prop}{M:R5}{A:W1}{E:Y1->X8->Prop}{s:X8}{n:Nat}(d:n<=s.toks)(h:Xu M A t Q E s)(c:∀a s,Q a s->n<=s.toks->b a s):Xu M A t b E s:=up d (thn h c)
def PEt (n:Nat)(X:Cx)(e:Expr)(t:TE):Prop :=
 ∀(b:List (Addr×Obj)) (s:X8) (a:St) (H:Hp) (Q:VK),Inv X b a H s->n<=s.toks->t a H Q->Xu (Xw X.prog X.w) X.A (eval e X.env) (EP X b a Q) X.xe s
def PAt (n:Nat)(X:Cx)(c:List Expr)(t:TA):Prop :=
 ∀(pos:Pos) (b:List (Addr×Obj)) (s:X8) (a:St) (H:Hp) (Q:AF->Hp->Prop),Inv X b a H s->n<=s.toks->t a H Q->Xu (Xw X.prog X.w) X.A (N8 (UI pos (W4 c X.env))) (AP X b a Q) X.xe s
def PSt (n:Nat)(X:Cx)(st:Stmt)(t:TS):Prop :=
 ∀(a:List (Addr×Obj)) (s:X8) (b:St) (H:Hp) (D:Ends),Inv X a b H s->n<=s.toks->t D b H->Xu (Xw X.prog X.w) X.A (exec st X.env) (SP X a D) X.xe s
def QX (n:Nat)(X:Cx)(st:List Stmt)(t:TS):Prop :=
 ∀(a:List (Addr×Obj)) (s:X8) (b:St) (H:Hp) (D:Ends),Inv X a b H s->n<=s.toks->t D b H->Xu (Xw X.prog X.w) X.A (execs st X.env) (SP X a D) X.xe s
section
variable {X:Cx}{n:Nat}{e:Expr}{te:TE}{st:Stmt}{rest:List Stmt}{t u:TS}{pos:Pos}
def PE.at_ (h:PE X e te):PEt n X e te:=λa s c H Q I _ b=>h a s c H Q I b
def PA.at_ {a:List Expr}{b:TA}(h:PA X a b):PAt n X a b:=λpos c s e H Q I _ d=>h pos c s e H Q I d
def PS.at_ (h:PS X st t):PSt n X st t:=λa s c H D I _ b=>h a s c H D I b
def PSs.at_ (h:PSs X rest t):QX n X rest t:=λa s c H D I _ b=>h a s c H D I b
theorem QX.nox (h:QX n X.nox rest t):QX n X rest t:=λa s d H D I b c =>
 Xa (h a s d H D (I.wish _) b c) (λ_ _ q=>q.unwish) λ_ _ z=>WB z
def zT (h1:PSt n X st t)(h2:QX n X rest u):QX n X (st::rest) (zrn t u):=by
 intro b s g H D I c h;refine Vg (YY c (h1 b s g H { D with nx:=u D } I c h) λf s1 q z=>?_);cases f with
 | next =>
  obtain⟨a,d,e,q⟩:=q;exact h2 b s1 a d D e z q
 | ret v=>exact q
 | brk=>exact q
 | cont=>exact q
def zde (h1:PSt n X st t):QX n X [st] t:=by
 intro a s c H D I b h;refine Vg (thn (h1 a s c H D I b h) λf s1 q=>?_);cases f with
 | next=>exact VF q
 | ret v=>exact q
 | brk=>exact q
 | cont=>exact q
def zjm (he:PEt n X e te):PSt n X (.Return (some e) pos) (zrp te):=by
 intro d s a H D I f h;exact wpAny_Return_some (thn (he d s a H _ I f h) λv s1 ⟨x,b,c,i,g⟩=>⟨x,a,b,c,i,g⟩)
def zaQ {i:Nat}{x:Str}{a:Pos}(g:X.N.Nodup)(k:X.N[i]?=some x)(o:Loc X.env.scope x)(he:PEt n X e te)(m:SQ e (some (.Name x a)) pos.line X.env=pure false:=by rfl)(j:X.fn x=true\/X.env.scope.names.lookup x=some .local:=by first | exact .inl rfl | exact .inr rfl | assumption) :
  PSt n X (.Assign [.Name x a] e pos) (zk3 te (Q0 i)):=by
 intro f s r H D I l h;refine SD (thn (he f s r H _ I l h) λv s1 ⟨y,b,c,q,p⟩=>?_) m;exact ZE c g k o q (λu d=>⟨_,b,d,p⟩) j
def yQ {a:List Expr}{d:TA}(l:PEt n X e te)(m:PAt n X a d)(o:W4 (e::a) X.env=(false,eval e X.env)::W4 a X.env:=by rfl):PAt n X (e::a) (zo7 te d):=by
 intro pos b s f H Q I c h;rw[o];show Xu _ _ (N8 ((false,eval e X.env)::UI pos (W4 a X.env))) _ _ s;refine UN (YY c (l b s f H _ I c h) λu s1 ⟨x,g,j,r,p⟩ z=>?_);exact thn (m pos b s1 f g _ j z p) λA y ⟨w,i,k,v,q⟩=>⟨x::w,i,k,.cons r v,q⟩
end
structure yR (n:Nat)(P:Xr)(w:Xe)(K:X5)(mg:Str->Option Y1)(base:Heap)(CX:CXT)(k:Nat)(f:Addr)(fd:XM)(ps:AE)(sp:Sp):Prop where
 len:∀vs H Q E,sp vs H Q E->vs.length=ps.length
 run:∀(A:W1) (outer:List Env) (s:X8) (H:Hp) (args:Args) (us:List Y1) (vs:AF) (Q:VK) (E:XK),n<=s.toks->xh k A->zla P w K mg base A outer s H->OD s fd args (ps.zip us)->Vals vs us->sp vs H Q E ->
  UJ (Xw P w) A (.call (.ref f) args) (CR CX outer P w H s Q E) s
section
variable {X:Cx}{n k k0:Nat}{f:Addr}{fd:XM}{ps:AE}{sp:Sp}{x:Str}{st:Stmt}{p pos:Pos}{e:Expr}{es:List Expr}{t:TA}
def pct (F:yR n X.prog X.w X.K X.mg X.base CX0 k f fd ps sp)(U:xh k0 X.A)(D:zj X.K X.mg x st ps f fd)(N:PAt n X (e::es) t)(hk:k<=k0:=by decide)(O:Gl X x:=by rfl)
  (l:(x==("__debug__":Str))=false:=by decide) (he:W4 (e::es) X.env=(false,eval e X.env)::W4 es X.env:=by rfl) (m:(UI pos (W4 es X.env)).any (·.1)=false:=by rfl) :
  PEt n X (.Call (.Name x p) (e::es) [] pos) (zgg sp [] E0 t):=by
 intro L s Y H Q I E h;refine Vc (xN I O D.g ?_ l);refine T6 (h₀:=X.base) I.ok.mod.kin D.F.kp (YY E (N pos L s Y H _ I E h) λi s1 ⟨v,j,d,r,q⟩ z=>⟨d.kIn,?_⟩) he m;have G:sp v j Q E0:=by
  have J:sp (v++[]) j Q E0:=q;rw[WX]at J;exact J
 have a:i.length=ps.length:=by rw[<- r.length];exact F.len _ _ _ _ G
 have B:=D.b s1 i d.kIn (by rw[WX];exact a);rw[WX]at B;refine Pu (UT (F.run X.A X.stack s1 j ⟨i,[]⟩ i v _ _ z (U.mono hk) d.env0 B r G) λo s' c=>?_);cases o with
 | error y=>exact WB c
 | ok M =>
  cases M with
  | ret u=>exact d.after c
  | next=>exact WB c
  | brk=>exact WB c
  | cont=>exact WB c
def zr4 (F:qz X.prog X.w X.K X.mg X.base CX0 k f fd ps sp)(o:xh k0 X.A)(D:zj X.K X.mg x st ps f fd)(j:PAt n X (e::es) t)(hk:k<=k0:=by decide)(l:Gl X x:=by rfl)
  (a:(x==("__debug__":Str))=false:=by decide) (he:W4 (e::es) X.env=(false,eval e X.env)::W4 es X.env:=by rfl) (c:(UI pos (W4 es X.env)).any (·.1)=false:=by rfl) :
  PEt n X (.Call (.Name x p) (e::es) [] pos) (zgg sp [] E0 t):=by
 intro i s u H Q I m h;refine Vc (xN I l D.g ?_ a);refine T6 (h₀:=X.base) I.ok.mod.kin D.F.kp (thn (j pos i s u H _ I m h) λy s1 ⟨z,v,d,r,q⟩=>⟨d.kIn,?_⟩) he c;exact zlb F (o.mono hk) D.b .nil zpa d r q
end
section
variable {X:Cx}{tg iter elt:Expr}{ifs:List Expr}{scope:Vr}{pos:Pos}{N:AE}{src:List (Option Nat)}{cl:List (Str×Addr)}{wi:TI}{g:TG}{tc:TT}{te:TE}
def zlZ {n0:Nat}(ok:zV X N src scope cl)(G:X.calm=true)(hi:PI X tg iter wi)
  (hg:∀C fp l s H,PG (qM X N scope cl C fp l s H) tg g) (hc:∀C fp l s H,zci (qM X N scope cl C fp l s H) ifs tc) (he:∀C fp l s H,PEt n0 (qM X N scope cl C fp l s H) elt te)
  (hs:∀x,We iter X.env x=pure x:=by intro _;rfl):PEt n0 X (.ListComp elt [⟨tg,iter,ifs,0⟩] scope pos) (zbZ wi src g tc te):=by
 intro l s σ H Q I z0 h;rw[eval_ListComp];refine S7 (use:=none) rfl hs ok.clos ok.kind ok.names (YY z0 (hi l s σ H _ I h) λxv s1 h1 z1=>YY z1 h1 λau a h2 z2=>?_);revert h2;refine eS λit fp tn J D=>eK λe I2 T ai Y q2=>?_;subst e;refine V2 (Tu ok.nocell (by intro y hy;simp at hy) (λB q f=>?_) ok.kind);dsimp only at q f ⊢;generalize hP:a.heap.push { cls:=.type "list",dict:=none,data:=.seq ([]:List Y1).toArray }=v at q f ⊢;have hC:v.objs.size=a.heap.objs.size+1:=by rw[<- hP,Vo]
 have k:∀b u,a.heap.get? b=some u->B.get? b=some u:=λb u e=>by
  have lt:=XH e;exact(f.2 b (by rw[hC];exact Xm (WH lt))).trans (X4 _ (hP ▸ X4 _ e))
 have hD:B.get? a.heap.objs.size=some { cls:=.type "list",data:=.seq #[] }:=(f.2 _ (by rw[hC];exact(Vt _).symm)).trans (X4 _ (hP ▸ Xl _ rfl));have ho:∀b∈fp,∃o,a.heap.get? b=some o:=λb j=>let ⟨o,e,_⟩:=T.obj 0 _ ai b j;⟨o,e⟩
 obtain⟨W,⟨m0,w0⟩,al⟩:=q2 a.heap.objs.size (I2.hok.fresh (XX _));have I0:=Ys (tk:=a.toks+([]:List (Str×Y1)).length) ok I2 Y ho hC k hD q;have ah:tn 0 B:=T.keep 0 _ _ ai λb _ o e=>k b o e;have an:∀b∈fp,upd D a.heap.objs.size (.lst []) b=none:=λb j=>by
  obtain⟨o,e⟩:=ho b j;rw[zo (Xm (XH e))];exact(Y b j).1
 have L:∀{E:Hp},(∀b∈fp,E b=none)->∀b∈fp,Yq (qM X N scope cl v.objs.size fp l a D) [] E b:=λ{E} hn b j=>by
  obtain⟨o,e⟩:=ho b j;have lt:=XH e;refine⟨hn b j,?_,λz=>(XJ.mp (I2.stkSub b z)).elim (Y b j).2.1 (Y b j).2.2.1,.inl j,λx c z=>(Y b j).2.2.2.2.1 x c (ok.sub x c z),λp hp=>?_⟩
  .show b≠v.objs.size;rw[hC];exact Xm (WH lt)
  .have aq:p∈X.pn++l:=by
    have:p∈(X.pn++l)++[]:=hp;simpa using this
   exact(Y b j).2.2.2.2.2 p aq
 have ac:∀M:X8,M={ a with heap:=B,toks:=a.toks+([]:List (Str×Y1)).length } ->
   UJ (Xw X.prog X.w) X.A (.compLoop (.ListComp elt [⟨tg,iter,ifs,0⟩] scope pos) 0 (.ref it) (.ref a.heap.objs.size) (UX scope cl v.objs.size X.env))
    (compPost (Xw X.prog X.w) X.A X.xe none (EP X l σ Q) (.ref a.heap.objs.size) v.objs.size) M:=by
  rintro M rfl;refine N1 rfl (λn s'=>∃i O E,Inv (qM X N scope cl v.objs.size fp l a D) [] O E s'/\tn i s'.heap/\(∀b∈fp,E b=none)/\W i n O E/\n0<=s'.toks) ?_ m0 ⟨0,_,_,I0,ah,an,w0,X0 z2 (Uf _ _)⟩;refine λn s3=>eL λi aa H3 I3 aj af w3 z3=>?_;show Xu _ X.A ((compTurn (.ListComp elt [⟨tg,iter,ifs,0⟩] scope pos) 0 (.ref it) (.ref a.heap.objs.size) (UX scope cl v.objs.size X.env)).onRaise (λx=>do PU x (UX scope cl v.objs.size X.env);Pe x)) _ _ s3;refine NQ ?_;rw[Oo];rcases al i n aa H3 w3 with ⟨ak,qn⟩ | ⟨go,N',hN,step⟩
  .refine ZB (U9 (ZB (thn (T.done (qM X N scope cl v.objs.size fp l a D) rfl rfl rfl G i [] s3 aa H3 _ I3 (L af) aj ak) λr s4 ⟨hr,I4⟩=>?_)));subst hr;refine XT ?_;obtain⟨m,hm,_⟩:=I4.loc;refine⟨m,hm,λh' sb=>⟨.ref a.heap.objs.size,H3,?_,rfl,qn⟩⟩;have un:Un (frs X.stack) fp D H3 a.heap h':=Un.but I4.base (by show a.heap.objs.size<=v.objs.size;rw[hC];exact Wl _) sb;have ap:HOk X.prog X.w H3 h':=HOk.but I4.hok I4.free sb;exact I2.call' (s':={ s4 with heap:=h' }) (ch:=fp) I4.os un ap I4.bare λb j=>⟨(Y b j).2.2.2.1,(Y b j).2.1,(Y b j).2.2.2.2.1,(Y b j).2.2.2.2.2⟩
  .refine ZB (U9 (ZB (YY z3 (T.item (qM X N scope cl v.objs.size fp l a D) rfl rfl rfl G i [] s3 aa H3 _ I3 (L af) aj go) λr s4 ⟨u,hr,h4⟩ z4=>?_)));subst hr;dsimp only;refine ZB (YY z4 h4 λ_ s5 ⟨x,H5,I5,r5,y5,ae,ao⟩ z5=>?_);have am:=I5.pinned (L ao) (T.obj _ _ ae);refine ZB (up z5 (Xa (hg v.objs.size fp l a D _ s5 aa H5 x u _ am r5 (step x H5 y5)) (λ_ s6 ⟨ab,H6,I6,q6⟩ z6=>?_) λ_ _ z=>WB z));have R4:∀{s7:X8} {U:St} {H7:Hp},Inv (qM X N scope cl v.objs.size fp l a D) ([]++Y4 fp s5.heap) U H7 s7->N' U H7->n0<=s7.toks->∃m,m<n/\∃i O E,Inv (qM X N scope cl v.objs.size fp l a D) [] O E s7/\tn i s7.heap/\(∀b∈fp,E b=none)/\W i m O E/\n0<=s7.toks:=λ{s7 U H7} I7 n7 z7=>by
    obtain⟨m',hm,w7⟩:=hN U H7 n7;refine⟨m',hm,i+1,U,H7,I7.unpinned,T.keep _ _ _ ae λb j o e=>(I7.pin (b,o) (XD _ (XD _ (jx j e)))).1,λb j=>?_,w7,z7⟩;obtain⟨o,e,d⟩:=T.obj _ _ ae b j;exact(I7.pin (b,o) (XD _ (XD _ (jx j e)))).2.1
   refine ZB (up z6 (Xa (hc v.objs.size fp l a D _ s6 ab H6 _ I6 q6) (λb s7 ⟨H7,I7,q7⟩ z7=>?_) λ_ _ z=>WB z));cases b with
   | false =>
    rw[bq XS]at q7;exact XT ⟨rfl,R4 I7 q7 z7⟩
   | true =>
    rw[bw rfl]at q7;refine ZB (ZB (up z7 (Xa (he v.objs.size fp l a D _ s7 ab H7 _ I7 z7 q7) (λy s8 ⟨v8,H8,I8,r8,ys,ar,ag,q8⟩ z8=>?_) λ_ _ z=>WB z)));refine ZB (up z8 (Xa (QC (X:=qM X N scope cl v.objs.size fp l a D) _ s8 ab H8 (.ref a.heap.objs.size) [v8] (.ref a.heap.objs.size) [y] (λ_ H9=>N' ab H9) I8 rfl (.cons r8 .nil) ⟨_,ys,v8,rfl,rfl,ar,ag,q8⟩) (λ_ s9 ⟨v9,H9,I9,_,q9⟩ z9=>?_) λ_ _ z=>WB z));exact XT (XT ⟨rfl,R4 I9 q9 z9⟩)
 exact Sr (ac _ rfl) (T.self _ 0 _ _ _ ah (ac _ rfl))
end
def zr5 (b:TE)(y z:Str):TE:=fun c H Q=>b c H λx a=>∃t:Str,x=.str t/\t.length<=1000000/\Q (.str (Uy t y z)) a
def zjn {X:Cx}{n0:Nat}{o:Expr}{B:TE}{g y z:Str}{l c b j:Pos}{i:Nat}{n:Tok}(M:X.mg g=some (.str y n))(h1:n≠0)(h2:n<n0)(N:PEt n0 X o B)(v:(y==z)=false:=by decide+kernel)(U:z.length<=14:=by decide+kernel)(L:Gl X g:=by rfl)(r:(g==("__debug__":Str))=false:=by decide)
  (d:P9 o "replace" X.env (eval o X.env)=eval o X.env:=by rfl)
  (m:((UI b (W4 [.Name g l,.Constant (.str z) i j] X.env)).all (λx=>!x.1)&&(backToKw b (NR [] X.env)).all (λx=>x.1.isSome)
   && decide (([.Name g l,.Constant (.str z) i j]:List Expr).length+([]:List OC).length+(if ([]:List OC).isEmpty then 0 else 1)<30))=true:=by rfl)
  (f:(c.endLine==b.line)=true:=by rfl) :
  PEt n0 X (.Call (.Attribute o "replace" c) [.Name g l,.Constant (.str z) i j] [] b) (zr5 B y z):=by
 intro E s σ H Q I A h;refine Pl d m f rfl (YY A (N E s σ H _ I A h) λu s1 ⟨x,D,w,r1,Y⟩ p=>?_);obtain⟨t,rfl,ht,q⟩:=Y;obtain⟨tk,rfl⟩:=r1;refine dB "str" "str.replace" (dM F.plainAttrs_str F.slot_str_replace F.type_str_replace (Ob _ _ _) (λa e=>by cases e) ?_);have O:W4 [.Name g l,.Constant (.str z) i j] X.env=[(false,eval (.Name g l) X.env),(false,eval (.Constant (.str z) i j) X.env)]:=rfl;rw[O];refine T1 rfl (Tv ?_);show Xu _ _ (N8 ((false,eval (.Name g l) X.env)::UI b [(false,eval (.Constant (.str z) i j) X.env)])) _ _ s1;refine UN (xN w L M ?_ r);show Xu _ _ (N8 ((false,eval (.Constant (.str z) i j) X.env)::UI b [])) _ _ _;refine UN (Calls.Constant_str ?_);refine Rc ?_;have G:s1.toks≠0:=λe=>by rw[e]at p;exact TV _ (Xs h2 p)
 have J:n≠s1.toks:=λe=>by rw[<- e]at p;exact Wj _ (Xs h2 p)
 exact PySem.SC.replaceW h1 G J v (by lia) U λt' k=>⟨.str _,D,w.tok k,⟨_,rfl⟩,q⟩
def zl0 {n0:Nat}{CX:CXT}{P:Xr}{w:Xe}{K:X5}{L:Str->Option Y1}{base:Heap}{k:Nat}{f:Addr}{name d:Str}{h:NV}{i:List Stmt}{a:Vr}{dV kV doc pm g ct oc:Y1}{an od:Option Addr}
  {Y:Array (Option Y1)} {N ps:AE} {sp:Sp} (lk:K.lookup f=some ⟨oc,od,.func (VV name d h i a dV kV doc pm an g ct),Y⟩) (M:U6 K g d=true) (S:zD N ps a)
  (len:∀vs H Q E,sp vs H Q E->vs.length=ps.length)
  (m:∀(A:W1) (c:List Env) (s:X8) (H:Hp) (vs:AF) (Q:VK) (E:XK),xh k (A.deeper (RW d a s.heap.objs.size f g))->sp vs H Q E ->
   ∃t,QX n0 (zbq CX P w K L base N d a f g A c s H E) i t/\t { nx:=λ_ l=>Q .non l,rt:=Q } (start N vs) H) :
  yR n0 P w K L base CX (k+1) f (VV name d h i a dV kV doc pm an g ct) ps sp:=by
 refine⟨len,λA c s H aa us vs Q E z0 O B hb r G=>?_⟩;have hl:=len _ _ _ _ G;have KX:K.In s.heap:=B.mod.kin.keeps λb o e=>(B.bs b o e).1;have U:s.heap.NoLimit:=B.mod.nolimit.keeps λb o e=>(B.bs b o e).1;have p:∀y∈ps.zip us,a.names.lookup y.1=some .local\/(a.names.lookup y.1=some .cell/\((Se (s.heap.objs.size+1) a.names []).lookup y.1).isSome=true):=λ⟨n,v⟩ hy=>by
  rcases S.par n (RT hy).1 with q | q
  .exact .inl q
  .exact .inr ⟨q,T2 _ _ _ (.inl q)⟩
 refine O8 O.depth (KX _ _ lk) rfl S.co S.gen rfl (PySem.W.codeRec_of KX M) (hb _ _ _ _ ?_);refine up z0 (Rr S.kind p λab he s1 x z1=>?_);subst he;refine⟨U.keeps x.toInCall.keep,codeAny_func ?_⟩;obtain⟨t,ht,hq⟩:=m A c s H vs Q E (O.deeper _) G;have I:Inv (zbq CX P w K L base N d a f g A c s H E) [] (start N vs) H s1:=zey S O.hd B hl r x;refine Xa (ht [] s1 (start N vs) H _ I z1 hq) (λfl s' z=>?_) λe s' z=>z;have D:∀{j:St} {l:Hp} {v:V} {u:Y1},Inv (zbq CX P w K L base N d a f g A c s H E) [] j l s'->RelV v u->Q v l->CE c P w H s Q u s' :=
  λ{j l v u} J rv q=>⟨v,l,J.os,J.bare,J.base,J.hok,rv,q⟩
 cases fl with
 | ret u =>
  obtain⟨v,j,l,J,rv,q⟩:=z;exact D J rv q
 | next =>
  obtain⟨j,l,J,q⟩:=z;exact D (v:=V.non) (u:=U0) J rfl q
 | brk =>
  obtain⟨_,_,_,q⟩:=z;exact WB q
 | cont =>
  obtain⟨_,_,_,q⟩:=z;exact WB q
def zkp {n0:Nat}{P:Xr}{w:Xe}{K:X5}{N mb:Str->Option Y1}{CX:CXT}{k:Nat}{fa a:Addr}{fd:XM}{x:Str}{sp:Sp}{c:X8}{vs:List Y1}{O:List Int}
  (z0:n0<=c.toks) (KX:K.In c.heap) (I:c.heap.Ns XY N) (g:c.heap.Ns RJ mb) (ab:∀x:Str,x ≠ "__name__"->mb x=Tr x) (G:c.heap.NoLimit) (hg:c.gens=#[])
  (U:c.heap.get? a=some { cls:=.type "list",data:=.seq vs.toArray }) (hi:OB vs O) (hl:O.length<=Xz) (hr:xh k SM)
  (F:∀i:Heap,K.In i->i.Ns XY N->yR n0 P w K N i CX k fa fd [x] sp) (y:∀(s:X8) (u:Y1),OD s fd ⟨[u],[]⟩ [(x,u)])
  (ac:∀H:Hp,zp1 H->SqL K H a (O.map V.int)->sp [.ref a] H (λv _=>v=.bl true) λ_ _ _=>False)
  (aa:∀H e j,CX [] H c (λ_ _ _=>False) e j->False) :
  UJ (Xw P w) SM (.call (.ref fa) ⟨[.ref a],[]⟩) (λr j=>r=.ok (.ret (.bool true))/\OldK c.heap j.heap/\j.os=c.os/\SL j.gens) c:=by
 have rv:=zez hi;have M:=hi.length;have p:∀H:Hp,zp1 H->SqL K H a (O.map V.int)->HOk P w H c.heap->(∀b,H b≠none->b=a)->(H a≠none->K.lookup a=none) ->
   UJ (Xw P w) SM (.call (.ref fa) ⟨[.ref a],[]⟩) (λr j=>r=.ok (.ret (.bool true))/\OldK c.heap j.heap/\j.os=c.os/\SL j.gens) c:=by
  intro H hO hS J hA hK;have f:∀{b:Addr} {o:Obj},c.heap.get? b=some o->H b=none->(QV c.heap H).get? b=some o:=λe n=>zk1 e n;have ae:∀{b:Addr} {o:Obj} {D:Array DictEntry} {B:Nat},c.heap.get? b=some o->o.data=.dict D B->H b=none:=λ{b o D B} e d=>by
   cases q:H b with
   | none=>rfl
   | some u =>
    have Y:b=a:=hA b (by rw[q];simp);subst Y;rw[U]at e;cases e;have d':Data.seq vs.toArray _=Data.dict D B:=d;cases d'
  have l:∀{b:Addr} {m:Str->Option Y1},c.heap.Ns b m->(QV c.heap H).Ns b m:=λ{b m} ⟨o,D,B,e,d,r⟩=>⟨o,D,B,f e (ae e d),d,r⟩;have E:K.In (QV c.heap H):=λb o e=>f (KX b o e) (by
   cases q:H b with
   | none=>rfl
   | some u =>
    have Y:b=a:=hA b (by rw[q];simp);subst Y;rw[hK (by rw[q];simp)]at e;cases e)
  have hM:Mod K N (QV c.heap H):=⟨E,l I,⟨mb,l g,ab⟩,let ⟨mc,h1,h2⟩:=G;⟨mc,l h1,h2⟩⟩;have e0:zla P w K N (QV c.heap H) SM [] c H:=⟨rfl,hM,λb o e=>znz e,Nat.le_of_eq (zjR _ _),trivial,λb g=>absurd (show b∈([]:List Addr) from g) (by simp),J,.of_eq hg⟩;refine UT ((F _ E (l I)).run SM [] c H ⟨[.ref a],[]⟩ [.ref a] [.ref a] _ _ z0 hr e0 (y c (.ref a)) (.cons rfl .nil) (ac H hO hS)) λr j h=>?_;cases r with
  | error e=>exact(aa H e j h).elim
  | ok fl =>
   cases fl with
   | next=>exact WB h
   | brk=>exact WB h
   | cont=>exact WB h
   | ret u =>
    obtain⟨v,H',os,A,un,L,r',q⟩:=h;have q':v=.bl true:=q;subst q';obtain rfl:u=Oe true:=r';refine⟨rfl,OldK.of_keep λb o e=>?_,os,A⟩;cases q:H b with
    | none=>exact un.keep b o e q (by intro z;exact absurd (show b∈([]:List Addr) from z) (by simp)) (by simp)
    | some u =>
     rcases hO b with z | ⟨ob,xs,z⟩
     .rw[q]at z;cases z
     .have z2:=un.frzs b ob _ z;obtain⟨e1,_⟩:=J b _ z;obtain⟨e2,_⟩:=L b _ z2;rw[e]at e1;cases e1;exact e2
 cases hk:K.lookup a with
 | some o =>
  have e:=KX a o hk;rw[U]at e;cases e;refine p (λ_=>none) (λ_=>.inl rfl) (.inr ⟨_,vs.toArray,_,hk,rfl,rfl,rfl,by rw[XB,M];exact hl,by simpa using rv⟩) (λb u z=>by have Q:(none:Option HO)=some u:=z;cases Q) (λb z=>absurd rfl z) λz=>absurd rfl z
 | none =>
  refine p (λb=>if b=a then some (.frz { cls:=.type "list",data:=.seq vs.toArray } (.lst (O.map V.int))) else none) (λb=>?_) (.inl (.inr ⟨{ cls:=.type "list",data:=.seq vs.toArray },bw rfl⟩)) (λb u z=>?_) (λb z=>?_) λ_=>hk
  .by_cases g:b=a
   .exact .inr ⟨_,_,bw g⟩
   .exact .inl (bq g)
  .by_cases g:b=a
   .have Q:=(bw g).symm.trans z;cases Q;subst g;exact⟨U,by rw[X9];exact hl,vs,_,rv,U⟩
   .have Q:=(bq g).symm.trans z;cases Q
  .by_cases g:b=a
   .exact g
   .exact absurd (bq g) z
open PySem PySem.W PySem.Calls Att PyProof.Rows
abbrev zcJ (n0:Nat)(q:Xr)(loose:AE)(XP:(Str->Option Y1)->Heap->Prop)(YP:Xe->Heap->Prop)(r:RowW)(d:Oh)(kwd:List (Str×Expr))(run:Y1->List Y1->Sem Y1):Prop :=
 ∀(w:Xe) (s₀ s₁:X8) (mg mb:Str->Option Y1),NX q loose r.records XP w s₀ mg mb s₁.heap->YP w s₁.heap->n0<=s₁.toks->∀(a:Addr) (o:Obj) (pm cd doc dV kV:Y1),s₁.heap.get? a=some o ->
  o.data=.func { docDef d.name d.params d.body d.scope pm cd doc with defaults:=dV,kwdefaults:=kV }->s₁.heap.CodeRec cd d.name->Dflts mg s₁.heap d.params kwd dV kV->mg d.name=some (.ref a)->s₁.gens=#[] ->
  ∀(args:List WData) (vals:List Y1) (as:List Addr),r.claim.pre args=true->PP args=true->ReadsAllW r.records (Px s₀.heap) s₁.heap vals args as->WellAll w.params s₁.heap vals args->(∀a∈as,(a==Vh)=false) ->
   Xu (Xw r.prog w) SM (run (.ref a) vals) (λv s'=>NJ r.claim (Px s₀.heap) (Ta s₀.heap) args s₁ (.ok (.ret v)) s')
    (λe s'=>NJ r.claim (Px s₀.heap) (Ta s₀.heap) args s₁ (.error e) s') s₁
def zfI {n0:Nat}{l:OpenLaw}{n:Nat}{q:Xr}{loose:AE}{XP:(Str->Option Y1)->Heap->Prop}{YP:Xe->Heap->Prop}{d:Oh}
  (hn:l.most=some n) (v:d.params.defaults=[])
  (call:∀(w:Xe) (c b:X8) (m A:Str->Option Y1) (g:Addr) (o:Obj) (B k doc:Y1) (a:Addr) (vs:List Y1) (p:List Int),
   NX q loose [] XP w c m A b.heap->YP w b.heap->n0<=b.toks ->
   b.heap.get? g=some o->o.data=.func (docDef d.name d.params d.body d.scope B k doc)->b.heap.CodeRec k d.name->m d.name=some (.ref g) ->
   b.heap.get? a=some { cls:=.type "list",data:=.seq vs.toArray }->OB vs p->p.length<=n->b.gens=#[] ->
   UJ (Xw l.prog w) SM (.call (.ref g) ⟨[.ref a],[]⟩) (λr s=>r=.ok (.ret (.bool true))/\OldK b.heap s.heap/\s.os=b.os/\SL s.gens) b) :
  zcJ n0 q loose XP YP l.row.toRowW d [] (λf vs=>PySem.call f vs):=by
 intro w c b m A G Y z g o B k doc J kV ho N u E x O D I as j H aa y Q;obtain rfl:J=.none:=Dflts.none E v;obtain rfl:kV=.none:=Dflts.noKw E;obtain⟨a,vs,p,rfl,rfl,i,e,h⟩:=zjX hn j y;refine enter_call (UT (call w c b m A g o B k doc a vs p G Y z ho (fd_plain N) u x i e h O) λr s hq=>?_);obtain⟨rfl,h2,L,M⟩:=hq;exact⟨.inl ⟨.bool true,.bool true,[],rfl,λ_=>rfl,.bool true,zjY l _,λ_=>⟨List.Pairwise.nil,λ_ U=>(nomatch U)⟩⟩,h2,L,M⟩
def zl1 {n0:Nat}{l:Pb}{n k:Nat}{q:Xr}{loose:AE}{XP:(Str->Option Y1)->Heap->Prop}{YP:Xe->Heap->Prop}{d:Oh}{K:NW->X5}{CX:Xe->CXT}{sp:Xe->Sp}{x:Str}
  (hn:l.most=some n) (I:n<=Xz) (D:d.params.defaults=[]) (hr:xh k SM)
  (U:∀(w:Xe) (h:Heap),YP w h->(K w.params).In h)
  (F:∀(w:Xe) (j:Str->Option Y1) (r:Addr) (h:Heap),(K w.params).In h->h.Ns XY j->j d.name=some (.ref r) ->
   ∃A:XM,(∀(s:X8) (u:Y1),OD s A ⟨[u],[]⟩ [(x,u)]) /\
    ∀base:Heap,(K w.params).In base->base.Ns XY j->yR n0 l.prog w (K w.params) j base (CX w) k r A [x] (sp w))
  (J:∀(w:Xe) (H:Hp) (a:Addr) (y:List Int),y.length<=n->zp1 H->SqL (K w.params) H a (y.map V.int)->sp w [.ref a] H (λv _=>v=.bl true) λ_ _ _=>False)
  (B:∀(w:Xe) (H:Hp) (s:X8) (e:Y1) (s':X8),CX w [] H s (λ_ _ _=>False) e s'->False) :
  zcJ n0 q loose XP YP l.row.toRowW d [] (λf vs=>PySem.call f vs):=by
 refine zfI hn D λw M p j mb r o pm cd doc a vs y G Y z ho hd aa E m i c hg=>?_;have L:=U w _ Y;obtain⟨A,hb,N⟩:=F w j r _ L G.T.g E;exact zkp z L G.T.g G.T.b G.T.builtins G.T.nolimit hg m i (X0 c I) hr N hb (λH O Q=>J w H a y c O Q) λH e s'=>B w H p e s'
def zdf {X:Cx}{n:Nat}{st:Stmt}{a:List Stmt}{t u:TS}(h1:PSt n X st t)(h2:QX n X a u):QX n X (st::a) (zrL t u):=by
 intro c s j H D I d ⟨M,h,i⟩;refine Vg (YY d (h1 c s j H { D with nx:=M } I d h) λf s1 q z=>?_);cases f with
 | next =>
  obtain⟨b,e,g,q⟩:=q;exact h2 c s1 b e D g z (i _ _ q)
 | ret v=>exact q
 | brk=>exact q
 | cont=>exact q
def Fun.okT {n0:Nat}{P:Xr}{w:Xe}{K:X5}{j:Str->Option Y1}{base:Heap}{x b:Str}{st:Stmt}{f:Addr}{i:XM}{N ps:AE}{k:Nat}{sp:Sp}(F:Fun K x b st f i)(S:zD N ps (ze st))(len:∀vs H Q E,sp vs H Q E->vs.length=ps.length)
  (d:∀(c:Y1) (A:W1) (a:List Env) (s:X8) (H:Hp) (vs:AF) (Q:VK) (E:XK),xh k (A.deeper (RW b (ze st) s.heap.objs.size f c))->sp vs H Q E ->
   ∃t,QX n0 (zbq CX0 P w K j base N b (ze st) f c A a s H E).nox (jr st) t/\t { nx:=λ_ l=>Q .non l,rt:=Q } (start N vs) H):yR n0 P w K j base CX0 (k+1) f i ps sp:=by
 obtain⟨u,v,kV,doc,y,p,c,r,o,rfl,n,e⟩:=F.ex;refine zl0 n e S len λA a s H vs Q E m g=>?_;obtain⟨t,h,q⟩:=d c A a s H vs Q E m g;exact⟨t,h.nox,q⟩
section
variable {M:R5}{A:W1}{E:Y1->X8->Prop}{env:Env}{s:X8}
def zqt (M:R5)(A:W1)(E:Y1->X8->Prop)(Q:Y1->X8->Prop)(acc:Y1)(a:Env)(r:QP)(s':X8):Prop :=
 ∃m,s'.heap.Ns a.locals m/\∀b c,b.Ns a.locals c->VU a.locals s'.heap b->match r with
  | .ok _=>Q acc { s' with heap:=b }
  | .error x=>Xu M A (passOn "comprehension.variables-let-go" x a:Sem Y1) (λ_ _=>False) E { s' with heap:=b }
def zn2 {e:Expr}{scope:Vr}{pos:Pos}{a c:Sem Y1}{g:P6}{gs:List P6}{o:List (Str×Addr)}{Q:Y1->X8->Prop}
  (G:clausesOf e=g::gs) (I:∀x,We g.iter env x=pure x) (k:RG scope env=pure o)
  (hk:scope.kind=.function) (d:∀x∈scope.names,x.2=.local->scope.names.lookup x.1=some .local)
  (h:Xu M A c (λx s1=>Xu M A (Of x) (λit q=>Xu M A a (λacc u =>
   Xu M A (RD scope env.globals o [] env.qual none .none (some env)) (λb v =>
    UJ M A (.compStart e 0 it acc { b with scope:=Vx scope env }) (zqt M A E Q acc { b with scope:=Vx scope env }) v) E u) E q) E s1) E s) :
  Xu M A (TU e scope env pos a false c none) Q E s:=by
 unfold TU;rw[k,G];refine ZB (Xa h (λx s1 h1=>?_) λ_ _ z=>z);refine ZB (U9 (ZB (Ri (I x) (ZB (WA ?_)))));refine Xa h1 (λit q h2=>?_) λ_ _ z=>z;refine wpAny_standIf (ZB (Xa h2 (λacc u B=>?_) λ_ _ z=>z));refine ZB (XT (ZB (Xa B (λb v D=>?_) λ_ _ z=>z)));dsimp only;have own:∀x∈(scope.names.filter λy=>(y.2 == .local || y.2 == .cell)&&y.1 != (".0":Str)).reverse,x.2=.local->Env.kindOf { b with scope:=Vx scope env } x.1=some .local :=
  λx J H=>OK (d x (XQ.mp (Ud.mp J)).1 H)
 refine WA (ZB (S9 (WA (wpAny_run (UT D λr w i=>?_)))));obtain⟨m,p,i⟩:=i;cases r with
 | ok f=>exact ZB (WA (Sc (cenv:={ b with scope:=Vx scope env }) hk _ w m own p λj l d n=>XT (i j l d n)))
 | error x=>exact ZB (WA (Sc (cenv:={ b with scope:=Vx scope env }) hk _ w m own p λj l d n=>Xa (i j l d n) (λ_ _ z=>z.elim) λ_ _ z=>z))
end
def zkq (x:Y1)(a:Vr)(c:List (Str×Addr))(C:Addr)(b:Env):PU x (UX a c C b)=PU x b:=rfl
def zgN {o:Obj}{a:Array Y1}{x:Y1}(h:o.data=.fields a)(f:a[3]?=some x):TR (·.setIfInBounds 3 x) o=o:=by
 obtain⟨c,d,b,g⟩:=o;have e:b=.fields a:=h;subst e;show (⟨c,d,.fields (a.setIfInBounds 3 x),g⟩:Obj)=⟨c,d,.fields a,g⟩;have:a.setIfInBounds 3 x=a:=by
  refine Array.ext_getElem? λi=>?_;rw[UY];split
  .rename_i z;subst z;rw[bw (V4.mp f).1,f]
  .rfl
 rw[this]
section
variable {M:R5}{A:W1}{Ex:Y1->X8->Prop}{s:X8}
def zic {base:Heap}{l:List Env}{e L:Addr}{c j:Y1}{Q:Unit->X8->Prop}(R:N9 base l e c j L s.heap)
  (h:∀h',N9 base l e c j L h'->(∀b,h'.get? b=s.heap.get? b)->Q () { s with heap:=h' }):Xu M A (setFlight (.ref e) (some L)) Q Ex s:=by
 revert R;refine fm λu v w=>eS λy z T x n=>eH λhe p m h1=>eH λr g d a f=>?_;have i:3<n.size:=(V4.mp f).1;unfold setFlight;refine ZB (wpAny_field he m h1 ?_);rw[bw (show (WN T != U0)=true from by simp)];refine Rz d a i ?_;have same:∀b,(s.heap.update T (TR (·.setIfInBounds 3 (T9 L)))).get? b=s.heap.get? b:=λb=>by
  by_cases k:b=T
  .subst k;rw[Wm _ d (Obj.isFreed_of_fields (Obj.data_mapFields a _)),d,zgN a f]
  .exact VB _ _ (Va k)
 refine h _ ⟨λb o q=>(same b).trans (u b o q),v,w.of_keeps λb o q _=>⟨o,(same b).trans q,rfl⟩,y,z,T,x,n,(same e).trans he,p,m,h1,r,g,(same T).trans d,a,f⟩ same
end
theorem zl2 {h h' B a:Heap}{C:Addr}(c:∀b,b≠C->h'.get? b=h.get? b)(bs:∀b,b≠C->a.get? b=B.get? b):∀{l:List Env},C ∉ frs l->h.FunFrames B l->h'.FunFrames a l
 | [],_,_=>trivial
 | env::r,g,⟨k,⟨L,o,e,n,q,d⟩,t⟩=>by
  have f:L≠C:=λz=>g (Vd.mpr ⟨env,XV,by rw[e,z]⟩);exact⟨k,⟨L,o,e,(bs L f).trans n,(c L f).trans q,d⟩,zl2 c bs (λz=>g (by
   obtain⟨v,j,i⟩:=Vd.mp z;exact Vd.mpr ⟨v,XW _ j,i⟩)) t⟩
section
variable {X:Cx}{bQ ps:List (Addr×Obj)}{σ σ1:St}{H H' H1 H2:Hp}{s s1 s2 s':X8}{e C Cc:Addr}{a0:Y1}{B:Heap}{E:XK}
def jI.held (L:jI X E)(J:Inv X bQ σ H s)(R:N9 B X.stack e (.ref C) a0 X.env.locals s'.heap)(os:s'.os=s.os)(a:SL s'.gens)(un:Un (frs X.stack) [] H H' s.heap s'.heap)(ok:HOk X.prog X.w H' B)
  (k:∀b o,s.heap.get? b=some o->H b=none->b ∉ frs X.stack->B.get? b=some o) (m:∀b o,s.heap.get? b=some o->b ∉ frs X.stack->∃l,B.get? b=some l) (c:s.heap.get? e=none) (free:H' e=none) (j:E (.ref C) none H') :
  X.xe (.ref e) s':=by
 rw[L.xe];show Xu _ _ (leaving X.env (.ref e)) _ _ s';unfold leaving;refine ZB (wpAny_noteFrame_againW L.fr R.2.2.2 ?_);refine NZ R λn f up=>?_;obtain⟨g,h,d,i⟩:=f;rw[L.stk]at d;exact⟨e,C,a0,B,H',rfl,J.flies L.ex ⟨g,h,d.2.2,i⟩ up os a un ok k m c free,j⟩
def Inv.stkIn (I:Inv X bQ σ H s){b:Addr}(a:b∈frs X.stack):b<s.heap.objs.size:=by
 rcases XJ.mp (I.stkSub b a) with r | r
 .rw[r];exact I.lt
 .obtain⟨_,o,q,_⟩:=I.ok.funs.mem r;obtain⟨d,c⟩:=I.base.there b o q λz=>I.ok.exfs b z r;exact XH c
variable {N:AE}{scope:Vr}{cl:List (Str×Addr)}{fp:List Addr}{x acc:Y1}{Q:Y1->X8->Prop}{E':Y1->X8->Prop}
def zgO (L:jI X E)(I2:Inv X bQ σ H2 s2)(U:∀b∈fp,Yq X bQ H2 b)(hC:s2.heap.objs.size<=C)(r:Inv (qM X N scope cl C fp bQ s2 H2) ps σ1 H1 s1)(h:CXE X.prog X.w X.stack H1 s1 E x s') :
  Xu (Xw X.prog X.w) X.A (PU x (UX scope cl C X.env)) (λ_ ag=>zqt (Xw X.prog X.w) X.A X.xe Q acc (UX scope cl C X.env) (.error x) ag) E' s':=by
 obtain⟨e,Cc,a0,B,H',rfl,F,hE⟩:=h;have ff:=F.fly;rw[zkq];rw[L.stk]at ff;refine Pc (by rw[I2.ok.frames,L.stk]) L.fr ff λh' hh up=>?_;rw[<- L.stk]at hh;obtain⟨m,⟨u,es,ep,l,hd,hk,hf⟩,_⟩:=r.loc;have l:s1.heap.get? C=some u:=l;have g:C ∉ frs X.stack:=λz=>Wj _ (Xs (I2.stkIn z) hC);have fC:H1 C=none:=r.free;have Y:B.get? C=some u:=F.kB C u l fC g;have O:e≠C:=by
  rintro rfl;rw[F.new]at l;cases l
 revert hh;refine fm λk1 k2 k3=>eS λoe vs T oT ts=>eH λhe hc G h1=>eH λhn aa hT ab h3=>?_;have TC:T≠C:=by
  rintro rfl;rw[hn]at Y;cases Y
 refine⟨m,⟨u,es,ep,k1 C u Y,hd,hk,hf⟩,λd m' af i=>?_⟩;obtain⟨c,ak,aj,v,d2,_,_⟩:=af;have v:d.get? C=some c:=v;have i:VU C h' d:=i;have D:c.isFreed=false:=(Heap.get?_some_iff.mp v).2;have gB:(B.update C λ_=>c).get? C=some c:=Wm (λ_=>c) Y D;have s:∀b,b≠C->(B.update C λ_=>c).get? b=B.get? b:=λb a=>VB _ _ (Va a);have gS:(s1.heap.update C λ_=>c).get? C=some c:=Wm (λ_=>c) l D;have p:∀b,b≠C->(s1.heap.update C λ_=>c).get? b=s1.heap.get? b:=λb a=>VB _ _ (Va a);have ac:N9 (B.update C λ_=>c) X.stack e (.ref Cc) a0 X.env.locals d:=by
  refine⟨λb o q=>?_,(s e O).trans k2,zl2 i.2 s g k3,oe,vs,T,oT,ts,(i.2 e O).trans he,hc,G,h1,(s T TC).trans hn,aa,(i.2 T TC).trans hT,ab,h3⟩;by_cases a:b=C
  .rw[a]at q ⊢;rw[gB]at q;rw[v,q]
  .exact(i.2 b a).trans (k1 b o ((s b a).symm.trans q))
 show Xu _ _ (PySem.passOn "comprehension.variables-let-go" (.ref e) (UX scope cl C X.env):Sem Y1) _ _ _;unfold PySem.passOn;refine ZB (wpAny_field ((i.2 e O).trans he) G h1 ?_);rw[bq (show ¬ ((WN T==U0)=true) from by simp)];have fl:(UX scope cl C X.env).frame=some X.env.locals:=L.fr;rw[fl];refine ZB (zic ac λf ae same=>NP ?_);have same:∀b,f.get? b=d.get? b:=same;have J:Inv X bQ σ H1 { s1 with heap:=s1.heap.update C λ_=>c }:=I2.call' (s':={ s1 with heap:=s1.heap.update C λ_=>c }) (ch:=fp) r.os (Un.but r.base hC (.update ..)) (HOk.but r.hok fC (.update ..)) r.bare λb a=>⟨(U b a).2.2.2.1,(U b a).2.1,(U b a).2.2.2.2.1,(U b a).2.2.2.2.2⟩;have y:H' C=none:=F.un.free C u l fC λz=>nomatch z
 have H:∀b o,b≠C->B.get? b=some o->f.get? b=some o:=λb o a q=>(same b).trans ((i.2 b a).trans (k1 b o q));have I:∀b,b∈frs X.stack->∀(o:Obj) M,s'.heap.get? b=some { o with slots:=M }->∃ah,f.get? b=some { o with slots:=ah }:=λb a o M q=>by
  obtain⟨_,j,k,nf⟩:=F.fly.2.2.1.mem a;rw[q]at k;cases k;obtain⟨ai,q3⟩:=up b _ q nf;exact⟨ai,(same b).trans ((i.2 b λz=>g (z ▸ a)).trans q3)⟩
 refine L.held (s':={ s' with heap:=f }) J ae F.os F.bare ⟨λb o q n a _=>?_,λb o q n a _=>?_,λb o q n _=>?_,λb o q _=>?_,F.un.tups,F.un.frzs,F.un.tbls⟩ (HOk.but F.ok y (.update ..)) (λb o q n a=>?_) (λb o q a=>?_) ((p e O).trans F.new) F.free hE
 .by_cases z:b=C
  .rw[z]at q ⊢;have q:(s1.heap.update C λ_=>c).get? C=some o:=q;rw[gS]at q;exact(same C).trans (v.trans q)
  .exact H b o z (F.kB b o ((p b z).symm.trans q) n a)
 .have z:b≠C:=λz=>g (z ▸ a);obtain⟨M,q1⟩:=F.un.slot b o ((p b z).symm.trans q) n a λz=>nomatch z
  exact I b a o M q1
 .by_cases z:b=C
  .rw[z];exact y
  .exact F.un.free b o ((p b z).symm.trans q) n λz=>nomatch z
 .by_cases z:b=C
  .rw[z];exact⟨c,(same C).trans v⟩
  .by_cases a:b∈frs X.stack
   .obtain⟨_,j,k,nf⟩:=F.fly.2.2.1.mem a;obtain⟨M,q3⟩:=I b a j j.slots k;exact⟨_,q3⟩
   .obtain⟨j,k⟩:=F.tB b o ((p b z).symm.trans q) a;exact⟨j,H b j z k⟩
 .by_cases z:b=C
  .rw[z]at q ⊢;have q:(s1.heap.update C λ_=>c).get? C=some o:=q;rw[gS]at q;exact gB.trans q
  .exact(s b z).trans (F.kB b o ((p b z).symm.trans q) n a)
 .by_cases z:b=C
  .rw[z];exact⟨c,gB⟩
  .obtain⟨j,k⟩:=F.tB b o ((p b z).symm.trans q) a;exact⟨j,(s b z).trans k⟩
end
def zid (X:Cx)(N:AE)(a:Vr)(e:List (Str×Addr))(C:Addr)(fp:List Addr)(d:List (Addr×Obj))(s:X8)(H:Hp)(E:XK)(x:Y1)(s':X8):Prop :=
 ∃(f:List (Addr×Obj)) (b:St) (c:Hp) (s1:X8),Inv (qM X N a e C fp d s H) f b c s1/\CXE X.prog X.w X.stack c s1 E x s'
abbrev yS (X:Cx)(N:AE)(scope:Vr)(cl:List (Str×Addr))(C:Addr)(fp:List Addr)(bQ:List (Addr×Obj))(s:X8)(H:Hp)(E:XK):Cx:=(qM X N scope cl C fp bQ s H).wish (zid X N scope cl C fp bQ s H E)
def zaR {X:Cx}{N:AE}{a:Vr}{f:List (Str×Addr)}{C:Addr}{fp:List Addr}{e:List (Addr×Obj)}{s:X8}{H:Hp}{E:XK}:Passes (CXE X.prog X.w) (yS X N a f C fp e s H E) E :=
 λg b c s1 x h d z=>⟨g,b,c,s1,d.unwish,z⟩
section
variable {X:Cx}{tg iter elt:Expr}{ifs:List Expr}{scope:Vr}{pos:Pos}{N:AE}{src:List (Option Nat)}{cl:List (Str×Addr)}{wi:TI}{g:TG}{tc:TT}{te:TE}
def zl3 {E:XK}(L:jI X E)(ok:zV X N src scope cl)(i:X.calm=true)(B:PI X tg iter wi)
  (A:∀C fp d s H,PG (yS X N scope cl C fp d s H E) tg g) (w:∀C fp d s H,zci (yS X N scope cl C fp d s H E) ifs tc) (he:∀C fp d s H,PE (yS X N scope cl C fp d s H E) elt te)
  (G:∀x,We iter X.env x=pure x:=by intro _;rfl):PE X (.ListComp elt [⟨tg,iter,ifs,0⟩] scope pos) (zbZ wi src g tc te):=by
 intro d s σ H Q I h;rw[eval_ListComp];refine zn2 rfl G ok.clos ok.kind ok.names (thn (B d s σ H _ I h) λxv s1 h1=>thn h1 λO s2 h2=>?_);revert h2;refine eS λit fp tn J H2=>eK λe j T o l U=>?_;subst e;refine V2 (Tu ok.nocell (by intro y M;simp at M) (λp a b=>?_) ok.kind);dsimp only at a b ⊢;obtain⟨n,k,v⟩:=zlj b;exact zcQ n i (λ⟨ps,aa,H1,s1,q,z⟩=>zgO L j l (by rw[n];exact Wl _) q z) (A _ _ _ _ _) (w _ _ _ _ _) (he _ _ _ _ _) j T o l (U _ (j.hok.fresh (XX _))) k (λx c z=>.inl (ok.sub x c z)) (λD=>(Ys ok j l D n k v a).wish _) λf _ _ _ r Y=>let ⟨m,hm,g⟩:=zli (f:=f) n j l r Y;⟨m,hm,λu _ _ sb=>g u sb⟩
end
section
variable {M:R5}{A:W1}{E:Y1->X8->Prop}{env:Env}{s:X8}
def zqu (M:R5)(A:W1)(E:Y1->X8->Prop)(u:Y1->Sem Unit)(Q:Y1->X8->Prop)(acc:Y1)(b:Env)(r:QP)(s':X8):Prop :=
 match r with
 | .ok _=>Xu M A (u acc) (λ_ a=>∃m,a.heap.Ns b.locals m/\∀c,VU b.locals a.heap c->Q .none { a with heap:=c }) E s'
 | .error x=>zqt M A E Q acc b (.error x) s'
def zl4 {e:Expr}{scope:Vr}{pos:Pos}{a d:Sem Y1}{g:P6}{gs:List P6}{v:List (Str×Addr)}{u:Y1->Sem Unit}{Q:Y1->X8->Prop}
  (J:clausesOf e=g::gs) (L:∀x,We g.iter env x=pure x) (l:RG scope env=pure v)
  (hk:scope.kind=.function) (o:∀x∈scope.names,x.2=.local->scope.names.lookup x.1=some .local)
  (h:Xu M A d (λx s1=>Xu M A (Of x) (λit B=>Xu M A a (λacc D =>
   Xu M A (RD scope env.globals v [] env.qual none .none (some env)) (λc G =>
    UJ M A (.compStart e 0 it acc { c with scope:=Vx scope env }) (zqu M A E u Q acc { c with scope:=Vx scope env }) G) E D) E B) E s1) E s) :
  Xu M A (TU e scope env pos a false d (some u)) Q E s:=by
 unfold TU;rw[l,J];refine ZB (Xa h (λx s1 h1=>?_) λ_ _ z=>z);refine ZB (U9 (ZB (Ri (L x) (ZB (WA ?_)))));refine Xa h1 (λit B h2=>?_) λ_ _ z=>z;refine wpAny_standIf (ZB (Xa h2 (λacc D H=>?_) λ_ _ z=>z));refine ZB (XT (ZB (Xa H (λc G I=>?_) λ_ _ z=>z)));dsimp only;have own:∀x∈(scope.names.filter λy=>(y.2 == .local || y.2 == .cell)&&y.1 != (".0":Str)).reverse,x.2=.local->Env.kindOf { c with scope:=Vx scope env } x.1=some .local :=
  λx p i=>OK (o x (XQ.mp (Ud.mp p)).1 i)
 refine WA (ZB (S9 (WA (wpAny_run (UT I λr N j=>?_)))));cases r with
 | ok f =>
  refine ZB (Uu (ZB (WA (Xa j (λ_ O b=>?_) λ_ _ z=>z))));obtain⟨m,n,b⟩:=b;refine ZB (Sc (cenv:={ c with scope:=Vx scope env }) hk _ O m (λx p i=>?_) n λk w _ q=>XT (b k q));rcases XO.mp p with z | z
  .exact own x (RX z) i
  .exact own x (V0 z) i
 | error x =>
  obtain⟨m,n,j⟩:=j;exact ZB (WA (Sc (cenv:={ c with scope:=Vx scope env }) hk _ N m own n λk w o q=>Xa (j k w o q) (λ_ _ z=>z.elim) λ_ _ z=>z))
end
section
variable {X:Cx}{tg iter elt:Expr}{ifs:List Expr}{scope:Vr}{pos:Pos}{N:AE}{src:List (Option Nat)}{cl:List (Str×Addr)}{wi:TI}{g:TG}{tc:TT}{te:TE}
def zl5 {i:Nat}{x:Str}{U am:Pos}{E:XK}(hN:X.N.Nodup)(a3:X.N[i]?=some x)(aq:X.env.scope.names.lookup x=some .local)(L:jI X E)(ok:zV X N src scope cl)(ab:X.calm=true)(hi:PI X tg iter wi)
  (hg:∀C fp j s H,PG (yS X N scope cl C fp j s H E) tg g) (hc:∀C fp j s H,zci (yS X N scope cl C fp j s H E) ifs tc) (he:∀C fp j s H,PE (yS X N scope cl C fp j s H E) elt te)
  (hs:∀x,We iter X.env x=pure x:=by intro _;rfl) (a6:SQ (.ListComp elt [⟨tg,iter,ifs,0⟩] scope pos) (some (.Name x U)) am.line X.env=pure true:=by rfl) :
  PS X (.Assign [.Name x U] (.ListComp elt [⟨tg,iter,ifs,0⟩] scope pos) am) (zk3 (zbZ wi src g tc te) (Q0 i)):=by
 intro j s σ H D I h;rw[O6 _ _ _ _ a6];refine ZB (U9 (ZB ?_));unfold evalThenUse;refine ZB (Xa (Q:=λ_ O=>∃ a l,Inv X j a l O/\D.nx a l) ?_ (λ_ O ⟨a,l,I',q'⟩=>XT (XT ⟨a,l,I',q'⟩)) λ_ _ z=>z);refine zl4 (u:=Og (.Name x U) X.env) rfl hs ok.clos ok.kind ok.names (thn (hi j s σ H _ I h) λxv s1 h1=>thn h1 λa9 f h2=>?_);revert h2;refine eS λit fp tn J H2=>eK λe I2 T au f2 q2=>?_;subst e;refine V2 (Tu ok.nocell (by intro y hy;simp at hy) (λaa M G=>?_) ok.kind);dsimp only at M G ⊢;generalize hP:f.heap.push { cls:=.type "list",dict:=none,data:=.seq ([]:List Y1).toArray }=q at M G ⊢;have hC:q.objs.size=f.heap.objs.size+1:=by rw[<- hP,Vo]
 have k:∀b u,f.heap.get? b=some u->aa.get? b=some u:=λb u e=>by
  have lt:=XH e;exact(G.2 b (by rw[hC];exact Xm (WH lt))).trans (X4 _ (hP ▸ X4 _ e))
 have hD:aa.get? f.heap.objs.size=some { cls:=.type "list",data:=.seq #[] }:=(G.2 _ (by rw[hC];exact(Vt _).symm)).trans (X4 _ (hP ▸ Xl _ rfl));have ho:∀b∈fp,∃o,f.heap.get? b=some o:=λb B=>let ⟨o,e,_⟩:=T.obj 0 _ au b B;⟨o,e⟩
 obtain⟨W,⟨m0,w0⟩,ax⟩:=q2 f.heap.objs.size (I2.hok.fresh (XX _));have I0:=(Ys (tk:=f.toks+([]:List (Str×Y1)).length) ok I2 f2 ho hC k hD M).wish (zid X N scope cl q.objs.size fp j f H2 E);have ar:tn 0 aa:=T.keep 0 _ _ au λb _ o e=>k b o e;have az:∀b∈fp,upd H2 f.heap.objs.size (.lst []) b=none:=λb B=>by
  obtain⟨o,e⟩:=ho b B;rw[zo (Xm (XH e))];exact(f2 b B).1
 have ae:∀{l:Hp},(∀b∈fp,l b=none)->∀b∈fp,Yq (yS X N scope cl q.objs.size fp j f H2 E) [] l b:=λ{l} hn b B=>by
  obtain⟨o,e⟩:=ho b B;have lt:=XH e;refine⟨hn b B,?_,λz=>(XJ.mp (I2.stkSub b z)).elim (f2 b B).2.1 (f2 b B).2.2.1,.inl B,λx c z=>(f2 b B).2.2.2.2.1 x c (ok.sub x c z),λp hp=>?_⟩
  .show b≠q.objs.size;rw[hC];exact Xm (WH lt)
  .have a4:p∈X.pn++j:=by
    have:p∈(X.pn++j)++[]:=hp;simpa using this
   exact(f2 b B).2.2.2.2.2 p a4
 have ai:∀{x':Y1} {s':X8},zid X N scope cl q.objs.size fp j f H2 E x' s'->notedBy (Xw X.prog X.w) X.A (UX scope cl q.objs.size X.env) (λx' s'=>zqu (Xw X.prog X.w) X.A X.xe (Og (.Name x U) X.env) (λ_ O=>∃ a l,Inv X j a l O/\D.nx a l) (.ref f.heap.objs.size) (UX scope cl q.objs.size X.env) (.error x') s') x' s':=λ{x' s'} ⟨ps,aA,H1,s1,I1,z⟩=>zgO (Q:=λ_ O=>∃ a l,Inv X j a l O/\D.nx a l) (acc:=.ref f.heap.objs.size) L I2 f2 (by rw[hC];exact Wl _) I1 z;have al:∀af:X8,af={ f with heap:=aa,toks:=f.toks+([]:List (Str×Y1)).length } ->
   UJ (Xw X.prog X.w) X.A (.compLoop (.ListComp elt [⟨tg,iter,ifs,0⟩] scope pos) 0 (.ref it) (.ref f.heap.objs.size) (UX scope cl q.objs.size X.env))
    (zqu (Xw X.prog X.w) X.A X.xe (Og (.Name x U) X.env) (λ_ O=>∃ a l,Inv X j a l O/\D.nx a l) (.ref f.heap.objs.size) (UX scope cl q.objs.size X.env)) af:=by
  rintro af rfl;refine N1 rfl (λn s'=>∃i a l,Inv (yS X N scope cl q.objs.size fp j f H2 E) [] a l s'/\tn i s'.heap/\(∀b∈fp,l b=none)/\W i n a l) ?_ m0 ⟨0,_,_,I0,ar,az,w0⟩;refine λn s3=>e9 λi aj H3 I3 av ao w3=>?_;show Xu _ X.A ((compTurn (.ListComp elt [⟨tg,iter,ifs,0⟩] scope pos) 0 (.ref it) (.ref f.heap.objs.size) (UX scope cl q.objs.size X.env)).onRaise (λx=>do PU x (UX scope cl q.objs.size X.env);Pe x)) _ _ s3;refine NQ ?_;rw[Oo];rcases ax i n aj H3 w3 with ⟨aw,qn⟩ | ⟨go,N',hN,step⟩
  .refine ZB (U9 (ZB (thn (T.done (yS X N scope cl q.objs.size fp j f H2 E) rfl rfl rfl ab i [] s3 aj H3 _ I3 (ae ao) av aw) λr s4 ⟨hr,I4⟩=>?_)));subst hr;refine XT ?_;obtain⟨m,hm,_⟩:=I4.loc;have ah:f.heap.objs.size<=q.objs.size:=by rw[hC];exact Wl _
   have IX:Inv X j σ H3 s4:=I2.call' (s':=s4) (ch:=fp) I4.os I4.base I4.hok I4.bare λb B=>⟨(f2 b B).2.2.2.1,(f2 b B).2.1,(f2 b B).2.2.2.2.1,(f2 b B).2.2.2.2.2⟩;have Y:∀y c,X.env.cells.lookup y=some c->c≠q.objs.size:=λy c e z=>by
    obtain⟨_,o,e1,_⟩:=I2.cell y c e;have:=XH e1;rw[z]at this;exact Wj _ (Xs this ah)
   have ac:X.env.locals≠q.objs.size:=λz=>by
    have:=I2.lt;rw[z]at this;exact Wj _ (Xs this ah)
   refine Rf (zbn IX hN a3 (.inl aq) (v:=.ref f.heap.objs.size) rfl (λs5 I5 ⟨a5,a8,a2⟩=>?_) (.inr aq));have na:a5≠q.objs.size:=by
    rcases a2 with z | z
    .rw[z];exact ac
    .exact Y _ _ z
   refine⟨m,hm.sameBut a8 (Va na),λh' sb=>⟨_,H3,?_,qn⟩⟩;exact I5.turned (t':=s5.toks) (it:=q.objs.size) (λb o B e=>(sb.2 b B).trans e) I4.free (Va ac) (.inr (X0 I2.sz ah)) Y λp hp z=>by
    obtain⟨e1,_⟩:=I2.pin p hp;have:=XH e1;rw[z]at this;exact Wj _ (Xs this ah)
  .refine ZB (U9 (ZB (thn (T.item (yS X N scope cl q.objs.size fp j f H2 E) rfl rfl rfl ab i [] s3 aj H3 _ I3 (ae ao) av go) λr s4 ⟨u,hr,h4⟩=>?_)));subst hr;dsimp only;refine ZB (thn h4 λ_ s5 ⟨x,H5,I5,r5,y5,an,a1⟩=>?_);have ay:=I5.pinned (ae a1) (T.obj _ _ an);refine ZB (Xa (hg q.objs.size fp j f H2 _ s5 aj H5 x u _ ay r5 (step x H5 y5)) (λ_ s6 ⟨ak,H6,I6,q6⟩=>?_) λ_ _ z=>ai z);have R4:∀{s7:X8} {ag:St} {H7:Hp},Inv (yS X N scope cl q.objs.size fp j f H2 E) ([]++Y4 fp s5.heap) ag H7 s7->N' ag H7->∃m,m<n/\∃i a l,Inv (yS X N scope cl q.objs.size fp j f H2 E) [] a l s7/\tn i s7.heap/\(∀b∈fp,l b=none)/\W i m a l:=λ{s7 ag H7} I7 n7=>by
    obtain⟨m',hm,w7⟩:=hN ag H7 n7;refine⟨m',hm,i+1,ag,H7,I7.unpinned,T.keep _ _ _ an λb B o e=>(I7.pin (b,o) (XD _ (XD _ (jx B e)))).1,λb B=>?_,w7⟩;obtain⟨o,e,d⟩:=T.obj _ _ an b B;exact(I7.pin (b,o) (XD _ (XD _ (jx B e)))).2.1
   refine ZB (Xa (hc q.objs.size fp j f H2 _ s6 ak H6 _ I6 q6) (λb s7 ⟨H7,I7,q7⟩=>?_) λ_ _ z=>ai z);cases b with
   | false =>
    rw[bq XS]at q7;exact XT ⟨rfl,R4 I7 q7⟩
   | true =>
    rw[bw rfl]at q7;refine ZB (ZB (Xa (he q.objs.size fp j f H2 _ s7 ak H7 _ I7 q7) (λy s8 ⟨v8,H8,I8,r8,ys,a7,ap,q8⟩=>?_) λ_ _ z=>ai z));refine ZB (Xa (QC (X:=yS X N scope cl q.objs.size fp j f H2 E) _ s8 ak H8 (.ref f.heap.objs.size) [v8] (.ref f.heap.objs.size) [y] (λ_ H9=>N' ak H9) I8 rfl (.cons r8 .nil) ⟨_,ys,v8,rfl,rfl,a7,ap,q8⟩) (λ_ s9 ⟨v9,H9,I9,_,q9⟩=>?_) λ_ _ z=>ai z);exact XT (XT ⟨rfl,R4 I9 q9⟩)
 exact Sr (al _ rfl) (T.self _ 0 _ _ _ ar (al _ rfl))
end
def zeP {X:Cx}{pos:Pos}{n:Nat}{c:Expr}{e:List Stmt}{U:TT}{Q:TS}(L:Oy (Xw X.prog X.w) X.A X.env X.xe)(hc:PT X c U)(hb:QX n X e Q):PSt n X (.While c e [] pos) (zk5 U Q):=by
 intro q s σ H D I hn h;obtain⟨W,⟨m0,w0⟩,j⟩:=h;refine wpAny_While (codeAny_whileLoop (λk O=>∃ l z,Inv X q l z O/\n<=O.toks/\W k l z) ?_ m0 ⟨σ,H,I,hn,w0⟩);rintro k s1 ⟨d,B,Y,n1,w1⟩;refine Wg L (YY n1 (hc q s1 d B _ Y (j k d B w1)) λb s2 ⟨E,G,m⟩ M=>?_);cases b with
 | true =>
  obtain⟨N,J,m⟩:=m;rw[bw rfl];refine Wg L (YY M (hb q s2 d E _ G M m) λf s3 o i=>?_);cases f with
  | next =>
   obtain⟨a,g,p,x⟩:=o;obtain⟨u,r,y⟩:=J a g x;exact⟨u,r,a,g,p,i,y⟩
  | cont =>
   obtain⟨a,g,p,x⟩:=o;obtain⟨u,r,y⟩:=J a g x;exact⟨u,r,a,g,p,i,y⟩
  | brk=>exact o
  | ret v=>exact o
 | false =>
  rw[bq XS];exact VF ⟨d,E,G,m⟩
structure zqv (K:X5)(x:Str)(st:Stmt)(f:Addr)(fd:XM):Prop where
 ex:∃(oc dv:Y1) (od:Option Addr) (kV doc pm:Y1) (an:Option Addr) (cdv ct:Y1) (osl:Array (Option Y1)),fd=VV x x (yg st) (jr st) (ze st) dv kV doc pm an cdv ct/\K.lookup f=some ⟨oc,od,.func fd,osl⟩/\U6 K cdv x=true
 kp:Vp K (.ref f)=true
structure zbD (K:X5)(mg:Str->Option Y1)(x:Str)(st:Stmt)(ps:AE)(v:Str)(f:Addr)(fd:XM):Prop where
 F:zqv K x st f fd
 g:mg x=some (.ref f)
 b:Binds K fd ps []
 b1:∃t:Tok,Binds K fd ps [.str v t]
def zcB (K:X5)(x:Str)(st:Stmt)(v:Str):Prop:=∃(f c:Addr) (h:Y1) (i d:Option Addr) (k:Array (Option Y1)) (kV g j a e:Y1) (b:Obj) (n:Nat) (t:Tok),XU K XY x=some (some (.ref f)) /\
 K.lookup f=some ⟨h,i,.func (VV x x (yg st) (jr st) (ze st) (.ref c) kV g j d a e),k⟩/\U6 K a x=true/\Vp K (.ref f)=true/\K.lookup c=some b/\b.data=.seq #[.str v t] n
theorem zcB.at {K:X5}{h:Heap}{u:Str->Option Y1}{x v:Str}{st:Stmt}{ps:AE}(H:zcB K x st v)(X:K.In h)(G:h.Ns XY u)
  (y:∀(d:Addr) (kV doc j:Y1) (e:Option Addr) (g i:Y1) (t:Tok) (b:List Y1),b.length=ps.length->∃k:Option (Array Y1)->Sem (List (Str×Y1)),N5 (VV x x (yg st) (jr st) (ze st) (.ref d) kV doc j e g i) ⟨b,[]⟩=(seqItems? (.ref d) >>= k)/\k (some #[.str v t])=pure (ps.zip b))
  (q:∀(d:Addr) (kV doc j:Y1) (e:Option Addr) (g i:Y1) (t:Tok) (b:List Y1),b.length+1=ps.length->∃k:Option (Array Y1)->Sem (List (Str×Y1)),N5 (VV x x (yg st) (jr st) (ze st) (.ref d) kV doc j e g i) ⟨b,[]⟩=(seqItems? (.ref d) >>= k)/\k (some #[.str v t])=pure (ps.zip (b++[.str v t]))) :
  ∃f w,zbD K u x st ps v f w:=by
 revert H;refine e8 λf d z A e B kV p=>eB λj o i D=>fk λn t=>eK λa l c k lt r=>?_;refine⟨f,_,⟨⟨z,_,A,kV,p,j,e,o,i,B,rfl,l,c⟩,k⟩,WR X G a,λs b Y m=>?_,t,λs b Y m=>?_⟩
 .rw[WX]at m ⊢;obtain⟨k,h1,h2⟩:=y d kV p j e o i t b m;exact Op rfl (Y _ _ lt) r h1 h2
 .rw[XR]at m;obtain⟨k,h1,h2⟩:=q d kV p j e o i t b m;exact Op rfl (Y _ _ lt) r h1 h2
def zqv.okXT {n0:Nat}{P:Xr}{w:Xe}{K:X5}{h:Str->Option Y1}{base:Heap}{x:Str}{st:Stmt}{f:Addr}{g:XM}{N ps:AE}{k:Nat}{sp:Sp}(F:zqv K x st f g)(S:zD N ps (ze st))(len:∀vs H Q E,sp vs H Q E->vs.length=ps.length)
  (c:∀(b:Y1) (A:W1) (a:List Env) (s:X8) (H:Hp) (vs:AF) (Q:VK) (E:XK),xh k (A.deeper (RW x (ze st) s.heap.objs.size f b))->sp vs H Q E ->
   ∃t,QX n0 (zbq (CXE P w) P w K h base N x (ze st) f b A a s H E) (jr st) t/\t { nx:=λ_ i=>Q .non i,rt:=Q } (start N vs) H):yR n0 P w K h base (CXE P w) (k+1) f g ps sp:=by
 refine e8 (λq p r kV doc u n b=>eZ λo m z0 l d=>?_) F.ex;subst z0;exact zl0 l d S len λA a s H vs Q E j e=>c b A a s H vs Q E j e
section
variable {X:Cx}{n:Nat}{t u:TS}{pos:Pos}
def zqw {c:Expr}{a b:List Stmt}{k:TT}(o:PT X c k)(l:QX n X a t)(m:QX n X b u):PSt n X (.If c a b pos) (zrq k t u):=by
 intro e s f H D I p h;refine wpAny_If (YY p (o e s f H _ I h) λd s1 ⟨g,i,j⟩ z=>?_);cases d with
 | true=>exact l e s1 f g D i z j
 | false=>exact m e s1 f g D i z j
def zjo {x1}{d:List Expr}{t:TA}(h:PAt n X d t):PEt n X (.Tuple d x1 pos) (zrF t):=by
 intro f s m H Q I i j;refine Ow (thn (h pos f s m H _ I i j) λk s1 ⟨l,a,c,r,z,q⟩=>⟨by rw[<- r.length];exact z,?_⟩);have g:a s1.heap.objs.size=none:=c.hok.fresh (XX _);refine⟨.ref s1.heap.objs.size,upd a s1.heap.objs.size (.tup l),c.laid (t':=s1.toks) (λb u e=>X4 _ e) (XX _) ?_,rfl,q _ g⟩;exact⟨z,k,r,⟨_,Xl _ rfl,rfl,_,rfl⟩⟩
def zn3 {a e:Expr}{c:TE}{g:TG}(he:PEt n X e c)(j:PG X a g)(l:swapsWithSole [a] e pos.line X.env=pure false:=by rfl)(m:swappedStores [a] e X.env=pure none:=by rfl)
  (h1:(SX [a] X.env).map (·.2)=[Og a X.env]:=by rfl):PSt n X (.Assign [a] e pos) (zk3 c g):=by
 intro b s d H D I k h;refine wpAny_Assign_stores (thn (he b s d H _ I k h) λv s1 ⟨x,f,i,p,o⟩=>?_) l m;rw[h1];exact thn (j b s1 d f x v _ i p o) λ_ r q=>q
def zn4 {n0:Nat}{tg:Expr}{l:Expr}{B:List Stmt}{wi:TI}{g:TG}{tb:TS}{pos:Pos}(Q:Oy (Xw X.prog X.w) X.A X.env X.xe)(hc:X.calm=true)(hi:PI X tg l wi)(hg:PG X tg g)(k:QX n0 X B tb)
  (hs:∀x,We l X.env x=pure x:=by intro _;rfl):PSt n0 X (.For tg l B [] pos) (zry wi g tb):=by
 intro G s σ H D I af h;refine wpAny_For (YY af (hi G s σ H _ I h) λv s1 h1 z1=>YY z1 h1 λai s2 h2 z2=>?_) hs;obtain⟨it,M,tn,J,H2,e,I2,T,ag,f2,W,⟨m0,w0⟩,ab⟩:=h2;subst e;have p:∀{z:Hp},(∀b∈M,z b=none)->∀b∈M,Yq X G z b:=λhn b k=>⟨hn b k,(f2 b k).2⟩;refine Ox (λn s'=>∃i q z,Inv X G q z s'/\tn i s'.heap/\(∀b∈M,z b=none)/\W i n q z/\n0<=s'.toks) ?_ m0 ⟨0,σ,H2,I2,ag,λb k=>(f2 b k).1,w0,z2⟩;refine λn s3=>eL λi y H3 I3 Y O w3 z3=>?_;rcases ab i n y H3 w3 with ⟨aa,qn⟩ | ⟨go,N,hN,step⟩
 .refine Wg Q (thn (T.done X rfl rfl rfl hc i G s3 y H3 X.xe I3 (p O) Y aa) λr s4 ⟨hr,I4⟩=>?_);subst hr;exact VF ⟨y,H3,I4,qn⟩
 .refine Wg Q (YY z3 (T.item X rfl rfl rfl hc i G s3 y H3 X.xe I3 (p O) Y go) λr s4 ⟨u,hr,h4⟩ z4=>?_);subst hr;refine Wg Q (YY z4 h4 λ_ s5 ⟨x,H5,I5,r5,y5,L,ae⟩ z5=>?_);have ac:=I5.pinned (p ae) (T.obj _ _ L);refine Wg Q (YY z5 (hg _ s5 y H5 x u _ ac r5 (step x H5 y5)) λ_ s6 ⟨ah,H6,I6,q6⟩ z6=>?_);refine Wg Q (YY z6 (k _ s6 ah H6 _ I6 z6 q6) λf s7 E z7=>?_);have R4:∀{a:St} {c:Hp},Inv X (G++Y4 M s5.heap) a c s7->N a c->∃m,m<n/\∃i q z,Inv X G q z s7/\tn i s7.heap/\(∀b∈M,z b=none)/\W i m q z/\n0<=s7.toks:=λ{a c} j U=>by
   obtain⟨m',hm,w7⟩:=hN a c U;refine⟨m',hm,i+1,a,c,j.unpinned,T.keep _ _ _ L λb k o e=>(j.pin (b,o) (XD _ (XD _ (jx k e)))).1,λb k=>?_,w7,z7⟩;obtain⟨o,e,d⟩:=T.obj _ _ L b k;exact(j.pin (b,o) (XD _ (XD _ (jx k e)))).2.1
  cases f with
  | next=>obtain⟨a,c,j,U⟩:=E;exact R4 j U
  | cont=>obtain⟨a,c,j,U⟩:=E;exact R4 j U
  | brk=>obtain⟨a,c,j,E⟩:=E;exact⟨a,c,j.unpinned,E⟩
  | ret v=>revert E;refine eV λx7 a c=>eF λj r7 E=>?_;exact⟨x7,a,c,j.unpinned,r7,E⟩
def zr6 (K:X5)(S:Addr)(i j:Nat)(sp:Sp)(dv:AF)(h:TA)(k:TS):TS:=λD f H=>h f H λl g=>sp (l++dv) g (λv d=>D.nx (f.set i (some v)) d)
 (λc _ d=>∃C,c=.ref C/\Wn K C (.ref S)=some true/\∀e,d e=none ->
  k { nx:=fun a b=>D.nx (a.set j none) b,rt:=D.rt,bk:=fun a b=>D.bk (a.set j none) b,ct:=fun a b=>D.ct (a.set j none) b } (f.set j (some (.ref e))) (upd d e (exO e C)))
def zn5 {k i j:Nat}{x y f xS:Str}{fA S:Addr}{fd:XM}{ps:AE}{sp:Sp}{dv:AF}{ta:TA}{ts:TS}{U:Expr}{G:List Expr}{xp fp cp ap ak hp:Pos}{b0:Stmt}{b:List Stmt}
  (c:X.stack=X.env::X.outer) (ae:X.env.frame=some X.env.locals) (F:yR n X.prog X.w X.K X.mg X.base (CXE X.prog X.w) k fA fd ps sp) (hr:xh k X.A) (hg:Gl X f) (hm:X.mg f=some (.ref fA)) (hk:Vp X.K (.ref fA)=true) (hb:∃Q,Vals dv Q/\Binds X.K fd ps Q)
  (J:X.N.Nodup) (hi:X.N[i]?=some x) (hx:Loc X.env.scope x) (hf:X.fn x=true\/X.env.scope.names.lookup x=some .local) (Y:X.N[j]?=some y) (L:X.env.scope.names.lookup y=some .local) (gS:Gl X xS) (O:qi X.K X.mg xS S)
  (ha:PA X.nox (U::G) ta) (hs:∀e,PSs (markX X e) (b0::b) ts)
  (he:W4 (U::G) X.env=(false,eval U X.env)::W4 G X.env:=by rfl) (ag:(UI cp (W4 G X.env)).any (·.1)=false:=by rfl) (ac:(f==("__debug__":Str))=false:=by decide) (ab:(xS==("__debug__":Str))=false:=by decide)
  (ai:SQ (.Call (.Name f fp) (U::G) [] cp) (some (.Name x xp)) ap.line X.env=pure false:=by rfl) :
  PSt n X (.Try [.Assign [.Name x xp] (.Call (.Name f fp) (U::G) [] cp) ap] [.ExceptHandler (some (.Name xS ak)) (some y) (b0::b) hp] [] [] pos) (zr6 X.K S i j sp dv ta ts):=by
 intro bQ s σ H D I hn h;obtain⟨Q,hd,hb⟩:=hb;refine wpAny_Try_except (Vg ?_);refine SD (Vc (xN I hg hm ?_ ac)) ai;refine T6 (h₀:=X.base) I.ok.mod.kin hk (up hn (Xa (ha cp bQ s σ H _ (I.wish _) h) (λus s1 ⟨vs,H1,M,r,q⟩ n1=>⟨M.kIn,?_⟩) λ_ _ z=>WB z)) he ag;have E:Inv X bQ σ H1 s1:=M.unwish;have r2:Vals (vs++dv) (us++Q):=r.append hd;have aa:(us++Q).length=ps.length:=by rw[<- r2.length];exact F.len _ _ _ _ q
 have bt:=hb s1 us E.kIn aa;refine Pu (UT (F.run X.A X.stack s1 H1 ⟨us,[]⟩ _ _ _ _ n1 hr E.env0 bt r2 q) λaj s' hq=>?_);cases aj with
 | ok fl =>
  cases fl with
  | ret u =>
   refine eZ (λv H2 I2 rv q2=>?_) (E.after hq);exact ZE I2 J hi hx rv (λs3 I3=>VF (VF ⟨_,H2,I3,q2⟩)) hf
  | next=>exact WB hq
  | brk=>exact WB hq
  | cont=>exact WB hq
 | error y =>
  revert hq;refine eS λe C a0 B H'=>eF λz0 Fl=>fq λC'=>eF λec af ah=>?_;subst z0;cases ec;have ff:=Fl.fly;rw[c]at ff;refine Pc (by rw[E.ok.frames,c]) ae ff λh4 ao al=>?_;refine NZ ao λh5 o am=>?_;have up:=al.trans am;have I5:=Fl.caught E (h:=h5) (by rw[c];exact o) up;refine Oq (O0 (xN (X:=markX X e) (I5.mark e) gS O.g ?_ ab)) (by intro z;cases z);obtain⟨bm,OS⟩:=zlp I5.kIn O.q;refine eU (λoe ar q1 q2 q3 _=>?_) o.first;refine zi3 OS q1 q2 (Th I5.kIn af) (codeAny_handlers_suite_as ?_);refine lands_againW o λh6 aq an=>?_;have I6:=Fl.caught E (h:=h6) (by rw[c];exact aq) (up.trans an);refine ZE (X:=markX X e) (I6.mark e) J Y (.inl L) (v:=.ref e) rfl (λs7 I7=>?_) (.inr L);refine Xa (hs e bQ s7 _ _ _ I7 (ah e Fl.free)) (λfl s8 a=>?_) λ_ _ z=>z.elim;cases fl with
  | next =>
   obtain⟨p,d,l,a⟩:=a;exact(l.unmark I.ok).nameGoes J Y L λs9 m=>⟨_,d,m,a⟩
  | brk =>
   obtain⟨p,d,l,a⟩:=a;exact(l.unmark I.ok).nameGoes J Y L λs9 m=>⟨_,d,m,a⟩
  | cont =>
   obtain⟨p,d,l,a⟩:=a;exact(l.unmark I.ok).nameGoes J Y L λs9 m=>⟨_,d,m,a⟩
  | ret u =>
   revert a;refine eV λv8 p d=>eF λl r8 a=>?_;exact(l.unmark I.ok).nameGoes J Y L λs9 m=>⟨v8,_,d,m,r8,a⟩
end
def zbD.bd {K:X5}{d:Str->Option Y1}{x:Str}{st:Stmt}{ps:AE}{v:Str}{f:Addr}{c:XM}(D:zbD K d x st ps v f c):∃a,Vals [.str v] a/\Binds K c ps a :=
 let ⟨t,b⟩:=D.b1
 ⟨_,.cons ⟨t,rfl⟩ .nil,b⟩
def ST.call_lenS {X:Cx}:j3 X (.builtin "len") (λxs H Q=>∃l ks,xs=[.ref l]/\H l=some (ST.zc8 X.prog X.w l ks)/\ks.length<=1000/\Q (.int (ks.length:Nat)) H):=by
 intro g s k H xs j Q I r h;obtain⟨l,ks,rfl,d,hk,q⟩:=h;obtain⟨u,rfl,f⟩:=vals1 r;cases f;obtain⟨⟨c,i,t,e,he,G,_,_⟩,_,_⟩:=(show jd X.prog X.w H s.heap l (ST.zc8 X.prog X.w l ks) from I.hok l _ d);have a:ks.length=c.size:=by
  rw[<- X6,he,X9]
 have b:=G.fits;rw[Vn]at b;exact call_len_set e ⟨rfl,rfl,rfl⟩ rfl b (by lia) ⟨.int (ks.length:Nat),H,I.tok _,⟨s.toks+1,by rw[a]⟩,q⟩
def zie (z:Str):Str:=⟨z.cps.toList.reverse.toArray⟩
def zn6 (z:Str):(⟨((TF none none (-1) z.length).filterMap (z.cps[·]?)).toArray⟩:Str)=zie z:=by
 unfold TF;show (⟨((sliceRange ((z.length:Int)-1) (-1) (-1)).filterMap (z.cps[·]?)).toArray⟩:Str)=_;rw[PySem.W.krv_sliceRange,PySem.W.krv_range,List.filterMap_reverse];have e:(Wh z.length).filterMap (z.cps[·]?)=z.cps.toList:=PySem.W.krv_all z.cps;rw[e];rfl
section
variable {X:Cx}{e k:Expr}{te tk:TE}{pos p2:Pos}
def zr7 (te tk:TE):TE:=fun a H Q=>te a H λx b=>zo9 tk a b λo c=>o=some (-1)/\∃z,x=.str z/\z.length<=Xz/\Q (.str (zie z)) c
def zn7 (he:PE X e te)(hk:PE X k tk):PE X (.Subscript e (.Slice none none (some k) p2) pos) (zr7 te tk):=by
 intro c s d H Q I h;refine Oc (thn (he c s d H _ I h) λv s1 ⟨x,m,B,r1,q1⟩=>?_);refine wpAny_Slice (thn (zaD c s1 d m (λo j=>o=none/\j=m) B ⟨rfl,rfl⟩) λvl s2 ⟨l,n,D,U,q2⟩=>?_);obtain⟨rfl,rfl⟩:=q2;refine thn (zaD c s2 d n (λo j=>o=none/\j=n) D ⟨rfl,rfl⟩) λvu s3 ⟨u,y,E,pu,q3⟩=>?_;obtain⟨rfl,rfl⟩:=q3;refine thn (zct hk c s3 d y _ E q1) λvs a ⟨o,p,G,Y,q4⟩=>?_;obtain⟨rfl,z,rfl,O,q⟩:=q4;obtain⟨t,rfl⟩:=r1;obtain⟨f,rfl,L⟩:=zcV U;obtain⟨g,rfl,M⟩:=zcV pu;obtain⟨i,rfl,r⟩:=zcV Y;have J:Inv X c d p { a with heap:=a.heap.push { cls:=.type "slice",data:=.fields #[RL f,RL g,RL i] } }:=G.kept (t':=a.toks) λb ob q=>X4 _ q;show Xu (Xw X.prog X.w) X.A (Qb e (.Slice none none (some k) p2) (.str z t) (.ref a.heap.objs.size)) (EP X c d Q) X.xe { a with heap:=a.heap.push { cls:=.type "slice",data:=.fields #[RL f,RL g,RL i] } };refine tail_any (ops:=[.str z t,.ref a.heap.objs.size]) (Ob _ _ _) F.slot_str_getitem.lookup (wpAny_getItem_str_slice (l:=f) (u:=g) (st:=i) ⟨_,Xl _ rfl,rfl,rfl⟩ (by rw[r];rfl) ?_) (by with_unfolding_all rfl);have N:sliceMade z t f g i=Made.str ⟨((TF none none (-1) z.length).filterMap (z.cps[·]?)).toArray⟩:=by
  unfold sliceMade slicePicked;rw[L,M,r];rfl
 rw[N,zn6];refine⟨?_,.str (zie z),p,J.tok _,⟨_,rfl⟩,q⟩;show z.cps.toList.reverse.toArray.size<=Xz;rw[XB,Ur,X6];exact O
end
end L2
namespace Cells
def zW (p:Nat->Bool)(i:Nat):Nat->List Nat->AD
 | _,[]=>[]
 | j,c::r=>(if p c=true then [(i,j)] else [])++zW p i (j+1) r
def zI (p:Nat->Bool):Nat->List (List Nat)->AD
 | _,[]=>[]
 | i,t::r=>zW p i 0 t++zI p (i+1) r
theorem Yw (p:Nat->Bool)(i:Nat):∀(j:Nat) (a b:List Nat),zW p i j (a++b)=zW p i j a++zW p i (j+a.length) b
 | j,[],b=>by simp[zW]
 | j,c::a,b=>by
  simp only[PL,zW,Yw p i (j+1) a b,Xk,WY];rw[show j+1+a.length=j+(a.length+1) by lia]
theorem Yx (p:Nat->Bool):∀(i:Nat) (a b:List (List Nat)),zI p i (a++b)=zI p i a++zI p (i+a.length) b
 | i,[],b=>by simp[zI]
 | i,t::a,b=>by
  simp only[PL,zI,Yx p (i+1) a b,Xk,WY];rw[show i+1+a.length=i+(a.length+1) by lia]
def zak {p:Nat->Bool}{i j c:Nat}{t:List Nat}(h:t[j]?=some c):zW p i 0 (t.take (j+1))=zW p i 0 (t.take j)++(if p c=true then [(i,j)] else []):=by
 rw[Xv,h,Yw];have a:(t.take j).length=j:=by
  have:=(XZ.mp h).1;rw[XG];lia
 simp[zW,a]
def zal {p:Nat->Bool}{i:Nat}{t:List Nat}{rs:List (List Nat)}(h:rs[i]?=some t):zI p 0 (rs.take (i+1))=zI p 0 (rs.take i)++zW p i 0 t:=by
 rw[Xv,h,Yx];have a:(rs.take i).length=i:=by
  have:=(XZ.mp h).1;rw[XG];lia
 simp[zI,a]
theorem jv (p:Nat->Bool)(i:Nat):∀(j:Nat) (t:List Nat),(zW p i j t).length<=t.length
 | j,[]=>by simp[zW]
 | j,c::r=>by
  have:=jv p i (j+1) r;simp only[zW,XR,Xk];split<;>simp<;>lia
theorem ja (p:Nat->Bool):∀(i:Nat) (rs:List (List Nat)),(∀t∈rs,t.length<=8)->(zI p i rs).length<=8*rs.length
 | i,[],_=>by simp[zI]
 | i,t::r,h=>by
  have h1:=jv p i 0 t;have h2:=ja p (i+1) r λu a=>h u (XW _ a);have b:=h t XV;simp only[zI,XR,Xk];lia
theorem JK {p:Nat->Bool}{i:Nat}:∀{j:Nat} {t:List Nat} {x:AA},x∈zW p i j t->∃m c,x=(i,j+m)/\t[m]?=some c/\p c=true
 | j,[],x,h=>by simp[zW]at h
 | j,c::r,x,h=>by
  simp only[zW,XO]at h;rcases h with h | h
  .split at h
   .rename_i hp;have:x=(i,j):=by simpa using h
    exact⟨0,c,this,rfl,hp⟩
   .cases h
  .obtain⟨m,a,e,h1,h2⟩:=JK h;exact⟨m+1,a,by rw[e,show j+1+m=j+(m+1) by lia],by simpa using h1,h2⟩
def xr {p:Nat->Bool}{i:Nat}{rs:List (List Nat)}{x:AA}(h:x∈zI p i rs):∃k j t c,x=(i+k,j)/\rs[k]?=some t/\t[j]?=some c/\p c=true:=by
 induction rs generalizing i with
 | nil=>simp[zI]at h
 | cons t r b =>
  simp only[zI,XO]at h;rcases h with h | h
  .obtain⟨m,c,e,h1,h2⟩:=JK h;exact⟨0,m,t,c,by simpa using e,rfl,h1,h2⟩
  .obtain⟨k,j,u,c,e,h1,h2,a⟩:=b h;exact⟨k+1,j,u,c,by rw[e,show i+1+k=i+(k+1) by lia],by simpa using h1,h2,a⟩
def sgn (rs:List (List Nat))(x:AA):Nat:=(rs.getD x.1 []).getD x.2 0
theorem zaS {p q:Nat->Bool}{i:Nat}(f:AA->Bool):∀(j:Nat) (t:List Nat),(∀m c,t[m]?=some c->f (i,j+m)=q c)->(zW p i j t).filter f=zW (λc=>p c&&q c) i j t
 | j,[],_=>by simp[zW]
 | j,c::r,h=>by
  have g:=zaS (p:=p) (q:=q) (i:=i) f (j+1) r λm d e=>by
   have:=h (m+1) d (by simpa using e);rw[show j+1+m=j+(m+1) by lia];exact this
  have h0:=h 0 c rfl;simp only[zW,W5,g];congr 1;simp only[Pp]at h0;by_cases a:p c=true
  .by_cases b:q c=true
   .simp[a,b,h0]
   .simp[a,b,h0]
  .simp[a]
theorem zaT {p q:Nat->Bool}(f:AA->Bool):∀(i:Nat) (rs:List (List Nat)),(∀k t m c,rs[k]?=some t->t[m]?=some c->f (i+k,m)=q c)->(zI p i rs).filter f=zI (λc=>p c&&q c) i rs
 | i,[],_=>by simp[zI]
 | i,t::r,h=>by
  have b:=zaT (p:=p) (q:=q) f (i+1) r λk u m c hk a=>by
   have:=h (k+1) u m c (by simpa using hk) a;rw[show i+1+k=i+(k+1) by lia];exact this
  simp only[zI,W5,b];rw[zaS (p:=p) (q:=q) f 0 t λm c a=>by simpa using h 0 t m c rfl a]
def zbE {rs:List (List Nat)}{i j:Nat}{t:List Nat}{c:Nat}(h:rs[i]?=some t)(h2:t[j]?=some c):sgn rs (i,j)=c:=by
 unfold sgn;simp[List.getD,h,h2]
def all_filter {p q:Nat->Bool}(rs:List (List Nat)):(zI p 0 rs).filter (λx=>q (sgn rs x))=zI (λc=>p c&&q c) 0 rs :=
 zaT _ 0 rs λk t m c hk a=>by rw[show 0+k=k by lia,zbE hk a]
def zgP {p q:Nat->Bool}(h:∀c,p c=q c)(i:Nat)(rs:List (List Nat)):zI p i rs=zI q i rs:=by
 rw[show p=q from funext h]
def near (x y:AA):Bool:=decide ((if (x.1:Int)-(y.1:Int)<0 then -((x.1:Int)-(y.1:Int)) else (x.1:Int)-(y.1:Int))<2)&&(decide ((if (x.2:Int)-(y.2:Int)<0 then -((x.2:Int)-(y.2:Int)) else (x.2:Int)-(y.2:Int))<2) && !decide (x=y))
def ZQ (x y:AA):near x y=true↔(x.1<=y.1+1/\y.1<=x.1+1)/\(x.2<=y.2+1/\y.2<=x.2+1)/\¬ x=y:=by
 unfold near;rw[VC,VC,decide_eq_true_iff,decide_eq_true_iff,Wx,decide_eq_false_iff_not];constructor
 .rintro⟨h1,h2,h3⟩;refine⟨?_,?_,h3⟩
  .split at h1<;>lia
  .split at h2<;>lia
 .rintro⟨h1,h2,h3⟩;refine⟨?_,?_,h3⟩
  .split<;>lia
  .split<;>lia
def lex (a b:AA):Prop:=a.1<b.1\/(a.1=b.1/\a.2<b.2)
theorem zeQ (p:Nat->Bool)(i:Nat):∀(j:Nat) (t:List Nat),(zW p i j t).Pairwise lex
 | j,[]=>by simp[zW]
 | j,c::r=>by
  simp only[zW];rw[Ts];refine⟨?_,zeQ p i (j+1) r,λa d b g=>?_⟩
  .split<;>simp
  .split at d
   .have e:a=(i,j):=by simpa using d
    obtain⟨m,h,f,_,_⟩:=JK g;subst e f;exact .inr ⟨rfl,by show j<j+1+m;lia⟩
   .cases d
theorem yj (p:Nat->Bool):∀(i:Nat) (rs:List (List Nat)),(zI p i rs).Pairwise lex
 | i,[]=>by simp[zI]
 | i,t::r=>by
  simp only[zI];rw[Ts];refine⟨zeQ p i 0 t,yj p (i+1) r,λa f b g=>?_⟩;obtain⟨m,c,e,_,_⟩:=JK f;obtain⟨k,j,u,h,d,_,_,_⟩:=xr g;subst e d;exact .inl (by show i<i+1+k;lia)
def zl6 {p:Nat->Bool}{f:AA->Bool}{n:Nat}{rs:List (List Nat)}(h:∀r c,r<n->f (r,c)=false):(zI p 0 (rs.take n)).filter f=[]:=by
 rw[VR];intro x b;obtain⟨k,j,t,c,e,hk,_,_⟩:=xr b;have a:k<n:=by
  have:=(XZ.mp hk).1;rw[XG]at this;lia
 subst e;rw[h _ _ (by lia)];exact XS
def zkr {p:Nat->Bool}{f:AA->Bool}{n:Nat}{rs:List (List Nat)}(h:∀r c,n<=r->f (r,c)=false):(zI p 0 (rs.take n)).filter f=(zI p 0 rs).filter f:=by
 by_cases d:n<=rs.length
 .have e:=WO n rs;have a:zI p 0 rs=zI p 0 (rs.take n)++zI p (0+(rs.take n).length) (rs.drop n):=by rw[<- Yx,e]
  rw[a,W5];have z:(zI p (0+(rs.take n).length) (rs.drop n)).filter f=[]:=by
   rw[VR];intro x b;obtain⟨k,j,t,c,e,hk,_,_⟩:=xr b;subst e;rw[XG,h _ _ (by lia)];exact XS
  rw[z,WX]
 .rw[Wu (by lia)]
def zl7 {p:Nat->Bool}{f:AA->Bool}{i n:Nat}{t:List Nat}(h:∀c,c<n->f (i,c)=false):(zW p i 0 (t.take n)).filter f=[]:=by
 rw[VR];intro x d;obtain⟨m,c,e,a,_⟩:=JK d;have b:m<n:=by
  have:=(XZ.mp a).1;rw[XG]at this;lia
 subst e;rw[h _ (by lia)];exact XS
def zks {p:Nat->Bool}{f:AA->Bool}{i n:Nat}{t:List Nat}(h:∀c,n<=c->f (i,c)=false):(zW p i 0 (t.take n)).filter f=(zW p i 0 t).filter f:=by
 by_cases g:n<=t.length
 .have e:=WO n t;have a:zW p i 0 t=zW p i 0 (t.take n)++zW p i (0+(t.take n).length) (t.drop n):=by rw[<- Yw,e]
  rw[a,W5];have z:(zW p i (0+(t.take n).length) (t.drop n)).filter f=[]:=by
   rw[VR];intro x b;obtain⟨m,c,e,d,_⟩:=JK b;subst e;rw[XG,h _ (by lia)];exact XS
  rw[z,WX]
 .rw[Wu (by lia)]
end Cells
namespace Parts
abbrev C:=AA
structure Good (cl:C->List C)(done:List C)(gs:List (List C)):Prop where
 ne:∀g∈gs,g ≠ []
 nd:gs.flatten.Nodup
 from_:∀x∈gs.flatten,∃o∈done,x∈cl o
 cov:∀o∈done,cl o ≠ []->∃g∈gs,∀x∈cl o,x∈g
 con:∀g∈gs,∀S:C->Prop,(∀o∈done,(∃x∈cl o,S x)->∀x∈cl o,S x)->(∃x∈g,S x)->∀x∈g,S x
 srt:∀g∈gs,g.Pairwise Cells.lex
def Good.start (a:C->List C):Good a [] []:=⟨(λ_ h=>nomatch h),Ui,(λ_ h=>nomatch h),(λ_ h=>nomatch h),(λ_ h=>nomatch h),(λ_ h=>nomatch h)⟩
def Good.skip {a:C->List C}{done:List C}{gs:List (List C)}(G:Good a done gs){o:C}(h:a o=[]):Good a (done++[o]) gs:=by
 refine⟨G.ne,G.nd,λx b=>?_,λp hp c=>?_,λg f S d=>G.con g f S λp hp=>d p (W2 _ hp),G.srt⟩
 .obtain⟨p,hp,b⟩:=G.from_ x b;exact⟨p,W2 _ hp,b⟩
 .rcases XO.mp hp with hp | hp
  .exact G.cov p hp c
  .have e:p=o:=by simpa using hp
   subst e;exact absurd h c
def zbF {gs:List (List C)}(j:gs.flatten.Nodup):∀{g g':List C} {x:C},g∈gs->g'∈gs->x∈g->x∈g'->g=g':=by
 induction gs with
 | nil=>intro g g' x h;cases h
 | cons a r l =>
  rw[Wy,Wb]at j;obtain⟨_,h2,i⟩:=j;intro g g' x k c e b;rcases XJ.mp k with f | g1
  .rcases XJ.mp c with d | g2
   .rw[f,d]
   .exact absurd rfl (i x (f ▸ e) x (Ww.mpr ⟨g',g2,b⟩))
  .rcases XJ.mp c with d | g2
   .exact absurd rfl (i x (d ▸ b) x (Ww.mpr ⟨g,g1,e⟩))
   .exact l h2 g1 g2 e b
theorem jk (p:List C->Bool):∀gs:List (List C),(gs.filter p).flatten.Sublist gs.flatten
 | []=>List.Sublist.refl _
 | a::r=>by
  rw[WC,Wy];split
  .rw[Wy];exact List.Sublist.append (List.Sublist.refl _) (jk p r)
  .exact List.Sublist.trans (jk p r) (Rj _ _)
def meets (a g:List C):Bool:=!(g.filter λc=>a.any λx=>decide (x=c)).isEmpty
def ZR {a g:List C}:meets a g=true ↔ ∃x∈g,x∈a:=by
 unfold meets;rw[Wx,UG];constructor
 .intro h;obtain⟨x,b⟩:=UF _ h;rw[XQ,WE]at b;obtain⟨h1,y,h2,d⟩:=b;have e:y=x:=bh d;subst e;exact⟨y,h1,h2⟩
 .rintro⟨x,h1,h2⟩ hn;have:x∈g.filter λc=>a.any λx=>decide (x=c):=XQ.mpr ⟨h1,WE.mpr ⟨x,h2,br rfl⟩⟩;rw[hn]at this;cases this
def whole (w:List C):List (List C)->List C
 | []=>w
 | g::r=>whole (w++g.filter λc=>!(w.any λx=>decide (x=c))) r
def zaU (w:List C)(c:C):(w.any λx=>decide (x=c))=true↔c∈w:=by
 rw[WE];constructor
 .rintro⟨x,h1,h2⟩;have e:x=c:=bh h2;subst e;exact h1
 .intro h;exact⟨c,h,br rfl⟩
theorem zbG {x:C}:∀{w:List C} {b:List (List C)},x∈whole w b↔x∈w\/∃m∈b,x∈m
 | w,[]=>by simp[whole]
 | w,g::r=>by
  rw[whole,zbG,XO,XQ];constructor
  .rintro((h | ⟨h,_⟩) | ⟨m,hm,h⟩)
   .exact .inl h
   .exact .inr ⟨g,XV,h⟩
   .exact .inr ⟨m,XW _ hm,h⟩
  .rintro(h | ⟨m,hm,h⟩)
   .exact .inl (.inl h)
   .rcases XJ.mp hm with rfl | hm
    .by_cases a:x∈w
     .exact .inl (.inl a)
     .refine .inl (.inr ⟨h,?_⟩);rw[Wx,WP];exact λz=>a ((zaU w x).mp z)
    .exact .inr ⟨m,hm,h⟩
theorem Qh:∀{w:List C} {i:List (List C)},w.Nodup->(∀m∈i,m.Nodup)->(whole w i).Nodup
 | w,[],h,_=>h
 | w,g::r,h,f=>by
  rw[whole];refine Qh ?_ λm d=>f m (XW _ d);rw[Wb];refine⟨h,(f g XV).sublist Wi,λa j b k e=>?_⟩;subst e;have c:=(XQ.mp k).2;rw[(zaU w a).mpr j]at c;cases c
def Good.step {c:C->List C}{done:List C}{gs:List (List C)}(G:Good c done gs){o:C}(h:c o ≠ [])(Q:(c o).Nodup){d:List (List C)}{w:List C}(H:d=gs.filter λg=>!((gs.filter (meets (c o))).any λm=>decide (m=g)))
  (I:w.Perm (whole (c o) (gs.filter (meets (c o))))) (U:w.Pairwise Cells.lex):Good c (done++[o]) (d++[w]):=by
 have n:∀g,g∈d↔g∈gs/\¬ ∃x∈g,x∈c o:=λg=>by
  rw[H,XQ,Wx,WP];constructor
  .rintro⟨h1,h2⟩;exact⟨h1,λj=>h2 (WE.mpr ⟨g,XQ.mpr ⟨h1,ZR.mpr j⟩,br rfl⟩)⟩
  .rintro⟨h1,h2⟩;refine⟨h1,λj=>?_⟩;obtain⟨m,i,e⟩:=WE.mp j;have J:m=g:=bh e;subst J;exact h2 (ZR.mp (XQ.mp i).2)
 have mw:∀x,x∈w↔x∈c o\/∃g∈gs,(∃y∈g,y∈c o)/\x∈g:=λx=>by
  rw[I.mem_iff,zbG];constructor
  .rintro(h1 | ⟨m,i,h1⟩)
   .exact .inl h1
   .obtain⟨h2,j⟩:=XQ.mp i;exact .inr ⟨m,h2,ZR.mp j,h1⟩
  .rintro(h1 | ⟨g,h2,j,h1⟩)
   .exact .inl h1
   .exact .inr ⟨g,XQ.mpr ⟨h2,ZR.mpr j⟩,h1⟩
 have M:∀g∈gs,g.Nodup:=λg hg=>G.nd.sublist (V9 hg);have wn:w.Nodup:=I.nodup_iff.mpr (Qh Q λm i=>M m (XQ.mp i).1);refine⟨λg hg=>?_,?_,λx hx=>?_,λp hp v=>?_,λg hg S E=>?_,λg hg=>?_⟩
 .rcases XO.mp hg with hg | hg
  .exact G.ne g ((n g).mp hg).1
  .have e:g=w:=by simpa using hg
   subst e;obtain⟨x,hx⟩:=UF _ h;exact UL ((mw x).mpr (.inl hx))
 .rw[Wo,Wb];refine⟨G.nd.sublist (by rw[H];exact jk _ gs),by simpa using wn,λa N b O e=>?_⟩;subst e;have u:a∈w:=by simpa using O
  obtain⟨g,hg,hx⟩:=Ww.mp N;obtain⟨s,D⟩:=(n g).mp hg;rcases(mw a).mp u with h1 | ⟨m,q,m2,r⟩
  .exact D ⟨a,hx,h1⟩
  .have e:=zbF G.nd s q hx r;subst e;exact D m2
 .rw[Wo]at hx;rcases XO.mp hx with hx | hx
  .obtain⟨g,hg,hx⟩:=Ww.mp hx;obtain⟨p,hp,hx⟩:=G.from_ x (Ww.mpr ⟨g,((n g).mp hg).1,hx⟩);exact⟨p,W2 _ hp,hx⟩
  .have l:x∈w:=by simpa using hx
   rcases(mw x).mp l with h1 | ⟨g,s,_,L⟩
   .exact⟨o,by simp,h1⟩
   .obtain⟨p,hp,hx⟩:=G.from_ x (Ww.mpr ⟨g,s,L⟩);exact⟨p,W2 _ hp,hx⟩
 .rcases XO.mp hp with hp | hp
  .obtain⟨g,hg,hx⟩:=G.cov p hp v;by_cases i:∃x∈g,x∈c o
   .exact⟨w,by simp,λx l=>(mw x).mpr (.inr ⟨g,hg,i,hx x l⟩)⟩
   .exact⟨g,W2 _ ((n g).mpr ⟨hg,i⟩),hx⟩
  .have e:p=o:=by simpa using hp
   subst e;exact⟨w,by simp,λx hx=>(mw x).mpr (.inl hx)⟩
 .have k:∀p∈done,(∃x∈c p,S x)->∀x∈c p,S x:=λp hp=>E p (W2 _ hp);rcases XO.mp hg with hg | hg
  .exact G.con g ((n g).mp hg).1 S k
  .have e:g=w:=by simpa using hg
   subst e;rintro⟨x,hx,sx⟩;have f:∀y∈c o,S y:=by
    refine E o (by simp) ?_;rcases(mw x).mp hx with h1 | ⟨m,q,⟨y,A,B⟩,r⟩
    .exact⟨x,h1,sx⟩
    .exact⟨y,B,G.con m q S k ⟨x,r,sx⟩ y A⟩
   intro z Y;rcases(mw z).mp Y with h1 | ⟨m,q,⟨y,A,B⟩,r⟩
   .exact f z h1
   .exact G.con m q S k ⟨y,A,f y B⟩ z r
 .rcases XO.mp hg with hg | hg
  .exact G.srt g ((n g).mp hg).1
  .have e:g=w:=by simpa using hg
   subst e;exact U
def Good.perm {d:C->List C}{done:List C}{gs b:List (List C)}(G:Good d done gs)(h:b.Perm gs):Good d done b:=by
 refine⟨λg a=>G.ne g (h.mem_iff.mp a),h.flatten.nodup_iff.mpr G.nd,λx c=>G.from_ x (h.flatten.mem_iff.mp c),λo f e=>?_,λg a=>G.con g (h.mem_iff.mp a),λg a=>G.srt g (h.mem_iff.mp a)⟩;obtain⟨g,a,c⟩:=G.cov o f e;exact⟨g,h.mem_iff.mpr a,c⟩
theorem Qi:∀{gs:List (List C)},(∀g∈gs,g ≠ [])->gs.length<=gs.flatten.length
 | [],_=>XX _
 | g::r,h=>by
  have b:=Qi (gs:=r) λx a=>h x (XW _ a);have:1<=g.length:=Td.mpr (h g XV);rw[Wy,XR,Xk];lia
theorem yG:∀{a b:List C},a.Nodup->(∀x∈a,x∈b)->a.length<=b.length
 | [],_,_,_=>WZ _
 | x::r,b,h,s=>by
  obtain⟨h1,h2⟩:=Vv.mp h;have c:=s x XV;have f:=yG (a:=r) (b:=b.erase x) h2 λy d=>(List.mem_erase_of_ne (λ(e:y=x)=>h1 (by rw[<- e];exact d))).mpr (s y (XW _ d));rw[List.length_erase_of_mem c]at f;have:=T0 c;rw[Xk];lia
end Parts
namespace Subs
variable {α:Type}
def step (S:List (List α))(c:α):List (List α):=S++S.map (·++[c])
def subs (cs:List α):List (List α):=cs.foldl step [[]]
def pick:List α->Nat->List α
 | [],_=>[]
 | c::r,b=>(if b%2=1 then [c] else [])++pick r (b/2)
def zkt (cs:List α)(c:α):subs (cs++[c])=step (subs cs) c:=by
 unfold subs;rw[TL];rfl
theorem zjp:∀(cs:List α) (c:α) (b:Nat),b<2^cs.length->pick (cs++[c]) b=pick cs b
 | [],c,b,h=>by
  have:b=0:=by
   simp at h;lia
  subst this;rfl
 | d::r,c,b,h=>by
  show _++pick (r++[c]) (b/2)=_++pick r (b/2);rw[zjp r c (b/2) (by
   rw[Xk,T7]at h;lia)]
theorem zjq:∀(cs:List α) (c:α) (b:Nat),b<2^cs.length->pick (cs++[c]) (2^cs.length+b)=pick cs b++[c]
 | [],c,b,h=>by
  have:b=0:=by
   simp at h;lia
  subst this;rfl
 | d::r,c,b,h=>by
  rw[Xk,T7]at h;show (if (2^(r.length+1)+b)%2=1 then [d] else [])++pick (r++[c]) ((2^(r.length+1)+b)/2)=((if b%2=1 then [d] else [])++pick r (b/2))++[c];have a:(2^(r.length+1)+b)%2=b%2:=by
   rw[T7];lia
  have e:(2^(r.length+1)+b)/2=2^r.length+b/2:=by
   rw[T7];lia
  rw[a,e,zjq r c (b/2) (by lia),WY]
def zbH (cs:List α):subs cs=(Wh (2^cs.length)).map (pick cs):=by
 rw[<- OL cs];induction cs.reverse with
 | nil=>rfl
 | cons c r d =>
  rw[Rb,zkt,d,XR,O7,T7,Nat.mul_two,List.range_add,Xj,Ws];unfold step;rw[Ws];congr 1
  .refine Xc λb a=>?_;exact(zjp _ _ _ (VH.mp a)).symm
  .refine Xc λb a=>?_;exact(zjq _ _ _ (VH.mp a)).symm
end Subs
namespace Grow
variable {α β:Type}
def cnt (near:β->α->Bool)(o:β)(p:List α):Nat:=(p.filter (near o)).length
def zdg (near:β->α->Bool)(a:β->Int)(b:List α)(o:β)(p:List α):Bool:=decide (a o-((cnt near o b:Nat):Int)<=((cnt near o p:Nat):Int))&&decide (((cnt near o p:Nat):Int)<=a o)
def chk (near:β->α->Bool)(b:β->Int)(O:List β)(c:α)(a:List α)(p:List α):Bool:=(O.filter λo=>near o c).all λo=>zdg near b a o p
def grow (near:β->α->Bool)(b:β->Int)(O:List β):List (List α)->List α->List (List α)
 | F,[]=>F
 | F,c::a=>grow near b O ((Subs.step F c).filter (chk near b O c a)) a
def good (near:β->α->Bool)(b:β->Int)(O:List β)(done a:List α)(p:List α):Bool:=(O.filter λo=>done.any (near o)).all λo=>zdg near b a o p
def cnt_cons (near:β->α->Bool)(o:β)(c:α)(r:List α):cnt near o (c::r)=cnt near o r+if near o c=true then 1 else 0:=by
 unfold cnt;rw[WC];split<;>rfl
def zgQ (near:β->α->Bool)(o:β)(p:List α)(c:α):cnt near o (p++[c])=cnt near o p+if near o c=true then 1 else 0:=by
 unfold cnt;rw[W5,XR];congr 1;rw[WC];split<;>rfl
def yw {near:β->α->Bool}{b:β->Int}{a:List α}{o:β}{p:List α}:zdg near b a o p=true↔b o-((cnt near o a:Nat):Int)<=((cnt near o p:Nat):Int)/\((cnt near o p:Nat):Int)<=b o:=by
 unfold zdg;rw[VC,bu,bu]
def zjr {near:β->α->Bool}{b:β->Int}{O:List β}{c:α}{a p:List α}:chk near b O c a p=true ↔ ∀o∈O,near o c=true->zdg near b a o p=true:=by
 unfold chk;rw[WD];exact⟨λh o d e=>h o (XQ.mpr ⟨d,e⟩),λh o d=>h o (XQ.mp d).1 (XQ.mp d).2⟩
def Qj {near:β->α->Bool}{b:β->Int}{O:List β}{done a p:List α}:good near b O done a p=true ↔ ∀o∈O,done.any (near o)=true->zdg near b a o p=true:=by
 unfold good;rw[WD];exact⟨λh o c d=>h o (XQ.mpr ⟨c,d⟩),λh o c=>h o (XQ.mp c).1 (XQ.mp c).2⟩
def ZS (near:β->α->Bool)(o:β)(done:List α)(c:α):(done++[c]).any (near o)=true↔done.any (near o)=true\/near o c=true:=by
 rw[List.any_append,Bool.or_eq_true];simp
def zn8 (near:β->α->Bool)(b:β->Int)(O:List β)(done a:List α)(c:α)(p:List α):(good near b O done (c::a) p&&chk near b O c a p)=good near b O (done++[c]) a p:=by
 rw[WJ,VC,Qj,zjr,Qj];constructor
 .rintro⟨h1,h2⟩ o d f;by_cases e:near o c=true
  .exact h2 o d e
  .have:=h1 o d (((ZS near o done c).mp f).resolve_right e);rw[yw,cnt_cons,bq e]at this;exact yw.mpr this
 .intro h;refine⟨λo d f=>?_,λo d e=>h o d ((ZS near o done c).mpr (.inr e))⟩;have:=yw.mp (h o d ((ZS near o done c).mpr (.inl f)));rw[yw,cnt_cons];split<;>lia
def zn9 (near:β->α->Bool)(d:β->Int)(O:List β)(done a:List α)(c:α)(p:List α):(good near d O done (c::a) p&&chk near d O c a (p++[c]))=good near d O (done++[c]) a (p++[c]):=by
 rw[WJ,VC,Qj,zjr,Qj];constructor
 .rintro⟨h1,h2⟩ o e f;by_cases b:near o c=true
  .exact h2 o e b
  .have:=h1 o e (((ZS near o done c).mp f).resolve_right b);rw[yw,cnt_cons,bq b]at this;rw[yw,zgQ,bq b];exact this
 .intro h;refine⟨λo e f=>?_,λo e b=>h o e ((ZS near o done c).mpr (.inr b))⟩;have:=yw.mp (h o e ((ZS near o done c).mpr (.inl f)));rw[zgQ]at this;rw[yw,cnt_cons];split at this<;>rename_i b
  .rw[bw b];lia
  .rw[bq b];lia
def zku (near:β->α->Bool)(b:β->Int)(O:List β)(done a:List α)(c:α)(S:List (List α)):(Subs.step (S.filter (good near b O done (c::a))) c).filter (chk near b O c a)=(Subs.step S c).filter (good near b O (done++[c]) a):=by
 unfold Subs.step;rw[W5,W5];congr 1
 .rw[T3];refine U2 λp _=>?_;rw[<- zn8,R6]
 .rw[Pa,Pa,T3];congr 1;refine U2 λp _=>?_;show (chk near b O c a (p++[c])&&good near b O done (c::a) p)=good near b O (done++[c]) a (p++[c]);rw[<- zn9,R6]
theorem zeR (near:β->α->Bool)(a:β->Int)(O:List β):∀(b done:List α) (S:List (List α)),grow near a O (S.filter (good near a O done b)) b=(b.foldl Subs.step S).filter (good near a O (done++b) [])
 | [],done,S=>by
  rw[WX];rfl
 | c::r,done,S=>by
  show grow near a O ((Subs.step (S.filter (good near a O done (c::r))) c).filter (chk near a O c r)) r=_;rw[zku,zeR near a O r (done++[c]) (Subs.step S c),WY];rfl
def fits (near:β->α->Bool)(a:β->Int)(O:List β)(part:List α)(p:List α):Bool:=(O.filter λo=>part.any (near o)).all λo=>decide (((cnt near o p:Nat):Int)=a o)
def zoa (near:β->α->Bool)(a:β->Int)(O:List β)(part:List α):grow near a O [[]] part=(Subs.subs part).filter (fits near a O part):=by
 have h:=zeR near a O part [] [[]];have e:([[]]:List (List α)).filter (good near a O [] part)=[[]]:=by
  have:good near a O [] part []=true:=Qj.mpr λo _ b=>by simp at b
  rw[WC,bw this];rfl
 rw[e]at h;rw[h];show (Subs.subs part).filter _=_;refine U2 λp _=>?_;rw[List.nil_append];unfold good fits;congr 1;funext o;rw[WJ,yw,bu];show a o-((0:Nat):Int)<=_/\_↔_;lia
end Grow
namespace Cnt
variable {α:Type}
def Jh (g:Nat)(ks:List (List α)):List Int:=(Wh (g+1)).map λn=>((ks.countP λk=>decide (k.length=n):Nat):Int)
def zaV (g:Nat)(ks:List (List α)):(Jh g ks).length=g+1:=by
 unfold Jh;rw[X9,Wc]
def zl8 (g:Nat):Jh g ([]:List (List α))=WV (g+1) 0:=by
 unfold Jh;refine List.eq_replicate_iff.mpr ⟨by rw[X9,Wc],λb a=>?_⟩;obtain⟨n,_,rfl⟩:=XA.mp a;rfl
def zdh {g n:Nat}(ks:List (List α))(h:n<=g):(Jh g ks)[n]?=some ((ks.countP λk=>decide (k.length=n):Nat):Int):=by
 unfold Jh;rw[Xo,Tg (by lia)];rfl
def zkv {g:Nat}(ks:List (List α)){k:List α}(h:k.length<=g):Jh g (ks++[k])=(Jh g ks).set k.length (((ks.countP λx=>decide (x.length=k.length):Nat):Int)+1):=by
 refine Sv λn=>?_;rw[List.getElem?_set];by_cases b:n<=g
 .rw[zdh _ b,zdh _ b,zaV,List.countP_append];by_cases e:k.length=n
  .rw[bw e,bw (by lia)];subst e;simp
  .rw[bq e];simp[e]
 .have a:∀c:List (List α),(Jh g c)[n]?=none:=λc=>Si (by rw[zaV];lia);rw[a,a,zaV,bq (by lia)]
def zbI {g:Nat}{as bs:List (List α)}(h:as.Perm bs):Jh g as=Jh g bs:=by
 unfold Jh;refine Xc λn _=>?_;rw[h.countP_eq]
end Cnt
namespace Pour
def S (h:Nat->Int):Nat->Int
 | 0=>0
 | n+1=>S h n+h n
def F (xs:List Int)(i:Nat):Int:=(xs[i]?).getD 0
def hk (xs ys:List Int)(k i:Nat):Int:=if i<=k then F xs i*F ys (k-i) else 0
def Zy (xs ys:List Int):List Int:=(Wh (xs.length+ys.length-1)).map λk=>S (hk xs ys k) xs.length
def part (xs ys:List Int)(i j k:Nat):Int:=S (hk xs ys k) i+(if i<=k/\k-i<j then F xs i*F ys (k-i) else 0)
def st (xs ys:List Int)(i j:Nat):List Int:=(Wh (xs.length+ys.length-1)).map (part xs ys i j)
def zdi {xs:List Int}{i:Nat}(h:xs.length<=i):F xs i=0:=by
 unfold F;rw[Si h];rfl
def zob {xs:List Int}{i:Nat}{x:Int}(h:xs[i]?=some x):F xs i=x:=by
 unfold F;rw[h];rfl
theorem Zi {f g:Nat->Int}:∀n,(∀i,i<n->f i=g i)->S f n=S g n
 | 0,_=>rfl
 | n+1,h=>by
  show S f n+f n=S g n+g n;rw[Zi n λi a=>h i (by lia),h n (by lia)]
theorem zl9 {f:Nat->Int}{n:Nat}:∀m,(∀i,n<=i->i<n+m->f i=0)->S f (n+m)=S f n
 | 0,_=>rfl
 | m+1,h=>by
  show S f (n+m)+f (n+m)=S f n;rw[zl9 m λi h1 h2=>h i h1 (by lia),h (n+m) (by lia) (by lia),RO]
def zoc {f:Nat->Int}{n m:Nat}(a:n<=m)(h:∀i,n<=i->i<m->f i=0):S f m=S f n:=by
 obtain⟨d,rfl⟩:∃d,m=n+d:=⟨m-n,by lia⟩;exact zl9 d h
def zqx (xs ys:List Int)(k:Nat):S (hk xs ys k) xs.length=S (λi=>F xs i*F ys (k-i)) (k+1):=by
 have a:S (λi=>F xs i*F ys (k-i)) (k+1)=S (hk xs ys k) (k+1):=Zi _ λi b=>by
  unfold hk;rw[bw (by lia)]
 rw[a];by_cases c:xs.length<=k+1
 .refine(zoc c λi h1 _=>?_).symm;unfold hk;rw[zdi h1];split<;>simp
 .refine zoc (by lia) λi h1 _=>?_;unfold hk;rw[bq (by lia)]
def zif (xs ys:List Int)(i j:Nat):(st xs ys i j).length=xs.length+ys.length-1:=by
 unfold st;rw[X9,Wc]
def zig {xs ys:List Int}{i j k:Nat}(h:k<xs.length+ys.length-1):(st xs ys i j)[k]?=some (part xs ys i j k):=by
 unfold st;rw[Xo,Tg h];rfl
def zma (xs ys:List Int):st xs ys 0 0=WV (xs.length+ys.length-1) 0:=by
 unfold st;have e:∀k,part xs ys 0 0 k=0:=λk=>by
  unfold part;rw[bq (by lia)];rfl
 refine(Xc (g:=λ_=>(0:Int)) λk _=>e k).trans ?_;rw[List.map_const',Wc]
def zmb (xs ys:List Int)(i k:Nat):part xs ys i ys.length k=part xs ys (i+1) 0 k:=by
 unfold part;rw[bq (show ¬ (i+1<=k/\k-(i+1)<0) by lia),RO];show _=S (hk xs ys k) i+hk xs ys k i;congr 1;unfold hk;by_cases c:i<=k
 .by_cases d:k-i<ys.length
  .rw[bw ⟨c,d⟩,bw c]
  .rw[bq (λz=>d z.2),bw c,zdi (show ys.length<=k-i by lia),Po]
 .rw[bq (λz=>c z.1),bq c]
def zqy (xs ys:List Int)(i:Nat):st xs ys i ys.length=st xs ys (i+1) 0:=by
 unfold st;exact Xc λk _=>zmb xs ys i k
def zod {xs ys:List Int}{i j:Nat}{x y:Int}(a:xs[i]?=some x)(b:ys[j]?=some y):(st xs ys i j).set (i+j) (part xs ys i j (i+j)+x*y)=st xs ys i (j+1):=by
 have h:i<xs.length:=(XZ.mp a).1;have l:j<ys.length:=(XZ.mp b).1;apply Sv;intro k;rw[List.getElem?_set];by_cases c:k<xs.length+ys.length-1
 .rw[zig c,zig c];by_cases e:i+j=k
  .subst e;rw[bw rfl,bw (by rw[zif];exact c)];congr 1;unfold part;rw[bq (by lia),bw (by lia),RO,zob a,Py,zob b]
  .rw[bq e];congr 1;unfold part;congr 1;by_cases d:i<=k/\k-i<j
   .rw[bw d,bw (by lia)]
   .rw[bq d,bq (by lia)]
 .have g:∀f,(st xs ys i f)[k]?=none:=λf=>Si (by rw[zif];lia);rw[g,g];by_cases e:i+j=k
  .lia
  .rw[bq e]
def zqz (xs ys:List Int):st xs ys xs.length 0=Zy xs ys:=by
 unfold st Zy;refine Xc λk _=>?_;unfold part;rw[bq (by lia),RO]
end Pour
namespace Choose
def ch:Nat->Nat->Nat
 | _,0=>1
 | 0,_+1=>0
 | n+1,k+1=>ch n k+ch n (k+1)
def QE (n:Nat):ch n 0=1:=by cases n<;>rfl
theorem zbJ:∀(n k:Nat),n<k->ch n k=0
 | 0,0,h=>absurd h (by lia)
 | 0,k+1,_=>rfl
 | n+1,0,h=>absurd h (by lia)
 | n+1,k+1,h=>by
  show ch n k+ch n (k+1)=0;rw[zbJ n k (by lia),zbJ n (k+1) (by lia)]
theorem zcC:∀n k:Nat,(k+1)*ch n (k+1)+k*ch n k=n*ch n k
 | 0,0=>rfl
 | 0,k+1=>by
  show (k+1+1)*0+(k+1)*0=0*0;simp
 | n+1,0=>by
  have h:=zcC n 0;rw[QE]at h ⊢;show (0+1)*(ch n 0+ch n (0+1))+0*1=(n+1)*1;rw[QE];lia
 | n+1,j+1=>by
  have h1:=zcC n (j+1);have h2:=zcC n j;show (j+1+1)*(ch n (j+1)+ch n (j+1+1))+(j+1)*(ch n j+ch n (j+1))=(n+1)*(ch n j+ch n (j+1));generalize ch n (j+1+1)=C2 at *
  generalize ch n (j+1)=C1 at *
  generalize ch n j=C0 at *
  simp only[Nat.add_mul,Nat.mul_add,Nat.one_mul]at *
  lia
def zoe {n k:Nat}(h:k<n):(ch n k:Int)*((n:Int)-k)/((k:Int)+1)=ch n (k+1):=by
 have e:=zcC n k;have a:(ch n k:Int)*((n:Int)-k)=(ch n (k+1):Int)*((k:Int)+1):=by
  have:((k+1)*ch n (k+1)+k*ch n k:Int)=(n*ch n k:Int):=by exact_mod_cast e
  rw[Int.mul_sub,NY (ch n k:Int) n,<- this,NY (ch n (k+1):Int) ((k:Int)+1),NY (ch n k:Int) (k:Int)];lia
 rw[a];exact Int.mul_ediv_cancel _ (by lia)
def zr8 (n:Nat):∀k,ch n k<=2^n:=by
 induction n with
 | zero =>
  intro k;cases k with
  | zero=>decide
  | succ k =>
   show (0:Nat)<=2^0;decide
 | succ n a =>
  intro k;cases k with
  | zero =>
   rw[QE];exact Nat.one_le_two_pow
  | succ k =>
   show ch n k+ch n (k+1)<=2^(n+1);rw[T7];have:=a k;have:=a (k+1);lia
end Choose
namespace Tally
open Subs
variable {α:Type}
theorem zaW:∀(B:List α) (a:List (List α)),B.foldl step a=(subs B).flatMap λb=>a.map (·++b)
 | [],a=>by simp[subs]
 | c::r,a=>by
  have e:subs (c::r)=(subs r).flatMap λb=>[b,c::b]:=by
   show r.foldl step (step [[]] c)=_;rw[zaW r];rfl
  show r.foldl step (step a c)=_;rw[zaW r,e,List.flatMap_assoc];congr 1;funext b;show (a++a.map (·++[c])).map (·++b)=a.map (·++b)++(a.map (·++(c::b))++[]);rw[Xj,WX,Ws];congr 1;refine Xc λx _=>?_;show x++[c]++b=_;rw[WY];rfl
def zbK (c:α)(r:List α):subs (c::r)=(subs r).flatMap λb=>[b,c::b]:=by
 show r.foldl step (step [[]] c)=_;rw[zaW r];rfl
def zaX (A B:List α):subs (A++B)=(subs B).flatMap λb=>(subs A).map (·++b):=by
 unfold subs;rw[TL];exact zaW B _
theorem zeS (c:α)(p:List α->Bool):∀L:List (List α),(L.flatMap λb=>[b,c::b]).countP p=L.countP p+L.countP λS=>p (c::S)
 | []=>rfl
 | b::L=>by
  have a:=zeS c p L;rw[List.flatMap_cons,List.countP_append,a,V5 (l:=L),V5 (l:=L),V5,V5,List.countP_nil];lia
def count_cons (c:α)(r:List α)(p:List α->Bool):(subs (c::r)).countP p=(subs r).countP p+(subs r).countP λS=>p (c::S):=by
 rw[zbK,zeS]
def Inv (p:List α->Bool):Prop:=∀a b,a.Perm b->p a=p b
theorem Inv.cons {p:List α->Bool}(h:Inv p)(c:α):Inv λS=>p (c::S):=λ_ _ e=>h _ _ (e.cons c)
def zih {cs a:List α}(e:cs.Perm a):∀{p:List α->Bool},Inv p->(subs cs).countP p=(subs a).countP p:=by
 induction e with
 | nil=>intro p _;rfl
 | cons c _ b =>
  intro p h;rw[count_cons,count_cons,b h,b (h.cons c)]
 | swap x y l =>
  intro p h;rw[count_cons,count_cons,count_cons,count_cons,count_cons,count_cons];have:(subs l).countP (λS=>p (y::x::S))=(subs l).countP λS=>p (x::y::S):=Ux λS _=>by rw[h _ _ (List.Perm.swap x y S)]
  lia
 | trans _ _ d f =>
  intro p h;exact(d h).trans (f h)
def T (cs:List α)(p:List α->Bool)(k:Nat):Nat:=(subs cs).countP λS=>decide (S.length=k)&&p S
def zfJ {cs c:List α}(e:cs.Perm c){p:List α->Bool}(h:Inv p)(k:Nat):T cs p k=T c p k:=zih e λa b e=>by rw[h a b e,e.length_eq]
def zof {cs:List α}{p q:List α->Bool}(h:∀S∈subs cs,p S=q S)(k:Nat):T cs p k=T cs q k:=Ux λS a=>by rw[h S a]
theorem zph (f g:Nat->Int):∀n,Pour.S (λi=>f i+g i) n=Pour.S f n+Pour.S g n
 | 0=>rfl
 | n+1=>by
  show Pour.S (λi=>f i+g i) n+(f n+g n)=Pour.S f n+f n+(Pour.S g n+g n);rw[zph f g n];lia
theorem zmc:∀n,Pour.S (λ_=>0) n=0
 | 0=>rfl
 | n+1=>by
  show Pour.S (λ_=>0) n+0=0;rw[zmc n];rfl
theorem zgR (j:Nat)(x:Int):∀n,Pour.S (λi=>if i=j then x else 0) n=if j<n then x else 0
 | 0=>rfl
 | n+1=>by
  show Pour.S (λi=>if i=j then x else 0) n+(if n=j then x else 0)=_;rw[zgR j x n];by_cases h:n=j
  .rw[bq (by lia),bw h,bw (by lia),RN]
  .rw[bq h,RO];by_cases h2:j<n
   .rw[bw h2,bw (by lia)]
   .rw[bq h2,bq (by lia)]
def zgS (q:List α->Bool)(f:Nat->Nat)(k:Nat):∀L:List (List α),(((L.map λb=>if (q b&&decide (b.length<=k))=true then f (k-b.length) else 0).sum:Nat):Int)=Pour.S (λi=>(f i:Int)*((L.countP λb=>decide (b.length=k-i)&&q b:Nat):Int)) (k+1):=by
 intro L;induction L with
 | nil =>
  have:Pour.S (λi=>(f i:Int)*((([]:List (List α)).countP λb=>decide (b.length=k-i)&&q b:Nat):Int)) (k+1)=Pour.S (λ_=>0) (k+1):=Pour.Zi _ λi _=>by
   show (f i:Int)*0=0;lia
  rw[this,zmc];rfl
 | cons b L h =>
  rw[Xh,List.sum_cons,O9,h];have e:Pour.S (λi=>(f i:Int)*(((b::L).countP λb=>decide (b.length=k-i)&&q b:Nat):Int)) (k+1)=Pour.S (λi=>(f i:Int)*((L.countP λb=>decide (b.length=k-i)&&q b:Nat):Int)+if i=k-b.length then (if (q b&&decide (b.length<=k))=true then (f (k-b.length):Int) else 0) else 0) (k+1):=Pour.Zi _ λi j=>by
   rw[V5];by_cases c:q b=true
   .by_cases g:b.length<=k
    .by_cases a:i=k-b.length
     .have h1:b.length=k-i:=by lia
      have h2:k-i<=k:=by lia
      simp only[c,h1,h2,decide_true,S8,if_true,bw a];rw[show k-(k-i)=i by lia,bw rfl,O9,Int.mul_add];lia
     .have h1:¬b.length=k-i:=by lia
      simp only[c,h1,decide_false,S8,bq a];simp
    .have h1:¬b.length=k-i:=by lia
     simp[c,h1,g]
   .have d:q b=false:=WP.mpr c;simp[d]
  rw[e,zph,zgR,bw (show k-b.length<k+1 by lia),Int.add_comm];congr 1;split<;>rfl
def zmd {A B:List α}{P f pB:List α->Bool}(h:∀a∈subs A,∀b∈subs B,P (a++b)=(f a&&pB b))(k:Nat):(T (A++B) P k:Int)=Pour.S (λi=>(T A f i:Int)*(T B pB (k-i):Int)) (k+1):=by
 unfold T;rw[zaX,List.countP_flatMap];have e:(subs B).map (List.countP (λS=>decide (S.length=k)&&P S)∘λb=>(subs A).map (·++b))=(subs B).map λb=>if (pB b&&decide (b.length<=k))=true then (T A f) (k-b.length) else 0:=by
  refine Xc λb j=>?_;show List.countP _ ((subs A).map (·++b))=_;rw[List.countP_map];by_cases d:(pB b&&decide (b.length<=k))=true
  .rw[bw d];obtain⟨h1,h2⟩:=W7.mp d;have h2:=bh h2;refine Ux λa g=>?_;show (decide ((a++b).length=k)&&P (a++b))=true↔(decide (a.length=k-b.length)&&f a)=true;rw[h a g b j,h1,S8,XR,show (decide (a.length+b.length=k))=decide (a.length=k-b.length) from decide_eq_decide.mpr (by lia)]
  .rw[bq d];refine UV.mpr λa g c=>d ?_;have c:(decide ((a++b).length=k)&&P (a++b))=true:=c;rw[h a g b j]at c;obtain⟨h1,h2⟩:=W7.mp c;have h1:=bh h1;rw[XR]at h1;rw[(W7.mp h2).2,br (by lia)];rfl
 rw[e,zgS];rfl
def yT {cs S:List α}(h:S∈subs cs):S.Sublist cs:=by
 revert S;induction cs with
 | nil=>intro S h;simp[subs]at h;subst h;exact List.Sublist.refl _
 | cons c r d =>
  intro S h;rw[zbK]at h;obtain⟨b,a,h⟩:=Uc.mp h;have:=d a;simp at h;rcases h with rfl | rfl
  .exact this.cons c
  .exact this.cons_cons c
def zog {cs:List α}:∀{S:List α},S.Sublist cs->S∈subs cs:=by
 induction cs with
 | nil=>intro S h;cases h;simp[subs]
 | cons c r a =>
  intro S h;rw[zbK];cases h with
  | cons _ h=>exact Uc.mpr ⟨S,a h,by simp⟩
  | cons_cons _ h=>exact Uc.mpr ⟨_,a h,by simp⟩
def zdj {cs:List α}{p:List α->Bool}{k:Nat}(h:cs.length<k):T cs p k=0:=by
 refine UV.mpr λS a b=>?_;have h1:=bh (W7.mp b).1;have h2:=(yT a).length_le;lia
def tl (cs:List α)(p:List α->Bool):List Int:=(Wh (cs.length+1)).map λk=>(T cs p k:Int)
def j8 (cs:List α)(p:List α->Bool):(tl cs p).length=cs.length+1:=by
 unfold tl;rw[X9,Wc]
def zkw (cs:List α)(p:List α->Bool)(i:Nat):Pour.F (tl cs p) i=(T cs p i:Int):=by
 by_cases h:i<cs.length+1
 .refine Pour.zob ?_;unfold tl;rw[Xo,Tg h];rfl
 .rw[Pour.zdi (by rw[j8];lia),zdj (by lia)];rfl
def zoh {A B:List α}{P c pB:List α->Bool}(h:∀a∈subs A,∀b∈subs B,P (a++b)=(c a&&pB b)):Pour.Zy (tl A c) (tl B pB)=tl (A++B) P:=by
 unfold Pour.Zy;rw[j8,j8];show _=(Wh ((A++B).length+1)).map λk=>(T (A++B) P k:Int);rw[XR,show A.length+1+(B.length+1)-1=A.length+B.length+1 by lia];refine Xc λk _=>?_;have e:=Pour.zqx (tl A c) (tl B pB) k;rw[j8]at e;rw[e,zmd h];exact Pour.Zi _ λi _=>by rw[zkw,zkw]
def zme {cs:List α}{p q:List α->Bool}(h:∀S∈subs cs,p S=q S):tl cs p=tl cs q:=by
 unfold tl;refine Xc λk _=>by rw[zof h]
theorem zgT:∀(cs:List α) (k:Nat),T cs (λ_=>true) k=Choose.ch cs.length k
 | [],0=>rfl
 | [],k+1=>rfl
 | c::r,0=>by
  have e:=zgT r 0;unfold T at e ⊢;rw[count_cons,e,Choose.QE,Choose.QE];have:(subs r).countP (λS=>decide ((c::S).length=0)&&true)=0:=UV.mpr λS _ d=>by simp at d
  rw[this]
 | c::r,k+1=>by
  have a:=zgT r k;have b:=zgT r (k+1);unfold T at a b ⊢;rw[count_cons,b];have:(subs r).countP (λS=>decide ((c::S).length=k+1)&&true)=(subs r).countP λS=>decide (S.length=k)&&true:=Ux λS _=>by
   rw[Xk,show decide (S.length+1=k+1)=decide (S.length=k) from decide_eq_decide.mpr (by lia)]
  rw[this,a];show _=Choose.ch r.length k+Choose.ch r.length (k+1);lia
def zqA [DecidableEq α]{cs:List α}{c:α}(f:c∈cs)(m:cs.Nodup)(k:Nat):T cs (λS=>decide (c∈S)) k=if k=0 then 0 else Choose.ch (cs.length-1) (k-1):=by
 have g:cs.Perm (c::cs.erase c):=List.perm_cons_erase f;have l:c ∉ cs.erase c:=λh=>by
  have:=g.nodup_iff.mp m;exact(Vv.mp this).1 h
 rw[zfJ g (λa b e=>decide_eq_decide.mpr e.mem_iff)];unfold T;rw[count_cons];have z:(subs (cs.erase c)).countP (λS=>decide (S.length=k)&&decide (c∈S))=0:=UV.mpr λS j d=>by
  have h1:=bh (W7.mp d).2;exact l ((yT j).subset h1)
 rw[z,VD];have i:(cs.erase c).length=cs.length-1:=by rw[List.length_erase,bw f]
 cases k with
 | zero =>
  rw[bw rfl];exact UV.mpr λS _ d=>by simp at d
 | succ k =>
  rw[bq (by lia),<- i,Rv,<- zgT];unfold T;refine Ux λS _=>?_;rw[Xk,show decide (S.length+1=k+1)=decide (S.length=k) from decide_eq_decide.mpr (by lia)];show (_&&decide (c∈c::S))=true↔_;rw[br XV]
variable {α:Type}
structure Loc (U:List α)(p:List α->Bool)(g:List α):Prop where
 l:∀a b,(∀c∈a,c∈U/\c ∉ g)->p (a++b)=p b
 r:∀a b,(∀c∈b,c∈U/\c ∉ g)->p (a++b)=p a
def yk (a:List α->List α->Bool)(gs:List (List α))(S:List α):Bool:=gs.all λg=>a g S
def zdk (a:List α->List α->Bool)(as bs:List (List α))(S:List α):yk a (as++bs) S=(yk a as S&&yk a bs S):=List.all_append
def zii {a:List α->List α->Bool}{gs:List (List α)}{S b:List α}(h:∀g∈gs,a g S=a g b):yk a gs S=yk a gs b:=by
 unfold yk;induction gs with
 | nil=>rfl
 | cons g r d =>
  rw[List.all_cons,List.all_cons,h g XV,d λx c=>h x (XW _ c)]
def zdl {U:List α}{d:List α->List α->Bool}{done:List (List α)}{g:List α}{q:List α->Bool}(s:(done.flatten++g).Nodup)(f:∀c∈done.flatten++g,c∈U)(o:∀x∈done,Loc U (d x) x)(p:Loc U q g) :
  Pour.Zy (tl done.flatten (yk d done)) (tl g q)=tl (done.flatten++g) λS=>yk d done S&&q S:=by
 obtain⟨_,_,j⟩:=Wb.mp s;refine zoh λa m b n=>?_;have sa:=(yT m).subset;have k:=(yT n).subset;rw[p.l a b λc e=>⟨f c (W2 _ (sa e)),λh=>j c (sa e) c h rfl⟩];congr 1;exact zii λx i=>(o x i).r a b λc e=>⟨f c (XD _ (k e)),λh=>j c (Ww.mpr ⟨x,i,h⟩) c (k e) rfl⟩
def zoi {U:List α}{a:List α->List α->Bool}:∀(gs done:List (List α)),(done++gs).flatten.Nodup->(∀c∈(done++gs).flatten,c∈U)->(∀g∈done++gs,Loc U (a g) g)->(gs.map λg=>tl g (a g)).foldl Pour.Zy (tl done.flatten (yk a done))=tl (done++gs).flatten (yk a (done++gs)):=by
 intro gs;induction gs with
 | nil =>
  intro done _ _ _;rw[WX];rfl
 | cons g r i =>
  intro done d h b;have e:done++g::r=(done++[g])++r:=by rw[WY];rfl
  rw[e]at d h b ⊢;have f:(done++[g]).flatten=done.flatten++g:=by rw[Wo];simp
  have j:(done.flatten++g).Nodup:=by
   rw[Wo,f]at d;exact(Wb.mp d).1
  have i:=i (done++[g]) d h b;rw[<- i,Xh,V7,f];congr 1;rw[zdl j (λc k=>h c (by rw[Wo,f];exact W2 _ k)) (λx l=>b x (by simp[l])) (b g (by simp))];refine zme λS _=>?_;rw[zdk];congr 1;show a g S=(a g S&&true);rw[S8]
def zij {U:List α}{a:List α->List α->Bool}{gs:List (List α)}(e:gs.flatten.Nodup)(d:∀c∈gs.flatten,c∈U)(b:∀g∈gs,Loc U (a g) g):(gs.map λg=>tl g (a g)).foldl Pour.Zy [1]=tl gs.flatten (yk a gs):=zoi gs [] e d b
def chZ (n:Nat)(k:Int):Int:=if k<0 then 0 else (Choose.ch n k.toNat:Nat)
def dl (xs:List Int)(m:Nat)(s:Int):Int:=Pour.S (λk=>Pour.F xs k*chZ m (s-(k:Nat))) xs.length
def zmf (g:Nat->Int){a b:Nat}(c:∀i,a<=i->g i=0)(d:∀i,b<=i->g i=0):Pour.S g a=Pour.S g b:=by
 by_cases h:a<=b
 .exact(Pour.zoc h λi h1 _=>c i h1).symm
 .exact Pour.zoc (by lia) λi h1 _=>d i h1
def zpi {A c:List α}{P d:List α->Bool}(h:∀a∈subs A,∀b∈subs c,P (a++b)=d a)(s:Nat):dl (tl A d) c.length (s:Nat)=(T (A++c) P s:Int):=by
 rw[zmd (pB:=λ_=>true) (λa f b g=>by rw[h a f b g,S8]) s];unfold dl;rw[j8];rw[zmf (λk=>Pour.F (tl A d) k*chZ c.length ((s:Int)-(k:Nat))) (a:=A.length+1) (b:=s+1) (λi e=>by rw[zkw,zdj (by lia)];simp) (λi e=>by
  unfold chZ;rw[bw (by lia),Po])]
 refine Pour.Zi _ λi e=>?_;show Pour.F (tl A d) i*chZ c.length ((s:Int)-(i:Nat))=_;rw[zkw,zgT];unfold chZ;rw[bq (by lia),show ((s:Int)-(i:Nat)).toNat=s-i by lia]
def zoj [DecidableEq α]{A d:List α}{P f:List α->Bool}{c:α}(j:c∈d)(l:d.Nodup)(h:∀a∈subs A,∀b∈subs d,P (a++b)=(f a&&decide (c∈b)))(s:Nat):dl (tl A f) (d.length-1) ((s:Nat)-1)=(T (A++d) P s:Int):=by
 rw[zmd h s];unfold dl;rw[j8];rw[zmf (λk=>Pour.F (tl A f) k*chZ (d.length-1) ((s:Int)-1-(k:Nat))) (a:=A.length+1) (b:=s+1) (λi g=>by rw[zkw,zdj (by lia)];simp) (λi g=>by
  unfold chZ;rw[bw (by lia),Po])]
 refine Pour.Zi _ λi g=>?_;show Pour.F (tl A f) i*chZ (d.length-1) ((s:Int)-1-(i:Nat))=_;rw[zkw,zqA j l];unfold chZ;by_cases e:s-i=0
 .rw[bw (by lia),bw e];rfl
 .rw[bq (by lia),bq e,show ((s:Int)-1-(i:Nat)).toNat=s-i-1 by lia]
def zcD {cs:List α}{p:List α->Bool}(h:∀S∈subs cs,p S=false)(k:Nat):T cs p k=0:=UV.mpr λS b a=>by
 rw[h S b,OR]at a;cases a
def zjs (cs:List α)(p:List α->Bool):Cnt.Jh cs.length ((subs cs).filter p)=tl cs p:=by
 unfold Cnt.Jh tl T;refine Xc λk _=>?_;rw[List.countP_filter]
def zgU {b:Type}(g:Nat)(f:List α->List b)(a:∀k,(f k).length=k.length)(ks:List (List α)):Cnt.Jh g (ks.map f)=Cnt.Jh g ks:=by
 unfold Cnt.Jh;refine Xc λn _=>?_;rw[List.countP_map];congr 1;refine Ux λk _=>?_;show decide ((f k).length=n)=true↔_;rw[a]
variable {α β:Type}
end Tally
namespace K64
open PySem L2
variable {P:Xr}{w:Xe}{K:X5}{mg:Str->Option Y1}{base:Heap}{f:Addr}{fd:XM}{jaa jab jac jad jae jaf jag jah jai jaj:Addr}
abbrev top (i:Nat):Stmt:=JN.top i
abbrev Yy:Stmt:=top 17
abbrev yU:Stmt:=top 18
abbrev Zj:Stmt:=top 19
abbrev ZT:Stmt:=top 20
abbrev jb:Stmt:=top 21
abbrev yV:Stmt:=top 22
abbrev x6:Stmt:=top 23
abbrev Qk:Stmt:=top 24
abbrev qv:Stmt:=top 25
abbrev qH:Stmt:=top 26
abbrev Yz:Stmt:=top 31
abbrev Zk:Stmt:=top 32
abbrev Zl:Stmt:=top 33
abbrev jJ:Stmt:=top 34
abbrev JW:Stmt:=top 35
abbrev zcE:Stmt:=top 37
abbrev ZU:Stmt:=top 38
abbrev zgV:Stmt:=top 39
abbrev yW:Stmt:=top 40
abbrev yp:Stmt:=top 41
abbrev qT:Stmt:=top 42
abbrev jm:Stmt:=top 45
abbrev JX:Stmt:=top 46
abbrev ZV:Stmt:=top 47
abbrev xP:Stmt:=top 48
abbrev ZW:Stmt:=top 49
abbrev yX:Stmt:=top 50
abbrev QF:Stmt:=top 52
abbrev zaY:Stmt:=top 53
abbrev yr:Stmt:=top 55
abbrev zcF:Stmt:=top 56
abbrev jh:Stmt:=top 57
abbrev Jz:Stmt:=top 58
abbrev zaZ:Stmt:=top 59
abbrev YA:Stmt:=top 61
abbrev jn:Stmt:=top 62
abbrev Ql:Stmt:=top 64
abbrev JA:Stmt:=top 65
abbrev zbL:Stmt:=top 66
abbrev zdm:Stmt:=top 69
abbrev zdn:Stmt:=top 70
abbrev Q5:Stmt:=top 71
abbrev zgW:Stmt:=top 72
abbrev zeT:Stmt:=top 73
abbrev zdo:Stmt:=top 76
abbrev zb4:Stmt:=top 77
abbrev Q6:Stmt:=top 78
abbrev za0:Stmt:=top 79
abbrev zb2:Stmt:=top 81
abbrev xQ:Stmt:=top 82
abbrev jR:Stmt:=top 84
abbrev x8:Stmt:=top 85
abbrev Zm:Stmt:=top 86
abbrev JB:Stmt:=top 87
abbrev Zn:Stmt:=top 88
abbrev YB:Stmt:=top 90
abbrev QG:Stmt:=top 91
abbrev YC:Stmt:=top 92
abbrev zeU:Stmt:=top 93
structure Txt (mg:Str->Option Y1):Prop where
 zfK:mg "ValueError"=none
 zs4:mg "abs"=none
 zmg:mg "any"=none
 zik:mg "dict"=none
 jw:mg "enumerate"=none
 zr9:mg "int"=none
 qC:mg "isinstance"=none
 qX:mg "len"=none
 zdp:mg "list"=none
 zpj:mg "max"=none
 zmh:mg "min"=none
 xR:mg "range"=none
 zpk:mg "set"=none
 zdq:mg "sorted"=none
 zsa:mg "str"=none
 zsb:mg "sum"=none
 zok:mg "tuple"=none
 zsc:mg "zip"=none
 zs5:∃t,mg "ALL"=some (.str "all" t)
 zeb:∃t,mg "BOARD_SIGNS"=some (.str "?012345678#" t)
 JC:∃t,mg "CLEAR_SIGN"=some (.str "." t)/\t≠0/\t<448
 Zz:∃t,mg "CLOSED_SIGN"=some (.str "?" t)
 zec:∃t,mg "FIELD_SIGNS"=some (.str ".o#" t)
 Qm:∃t,mg "LONGEST_SIDE"=some (.int 8 t)
 zdr:∃t,mg "MOST_OF_PART"=some (.int 14 t)
 zed:∃t,mg "MOST_STONES"=some (.int 64 t)
 zns:∃t,mg "MOST_THINGS"=some (.int 30 t)
 Qn:∃t,mg "NO_CELL_SIGN"=some (.str "#" t)
 JD:∃t,mg "STONE_SIGN"=some (.str "o" t)/\t≠0/\t<448
def Mq (K:X5)(mg:Str->Option Y1)(n:Str)(s:Stmt)(p:List Str):=∃f fd,zj K mg n s p f fd
structure Prog (K:X5)(mg:Str->Option Y1):Prop where
 board_of:Mq K mg "board_of" Yy ["rows","stones"]
 checked_rows:Mq K mg "checked_rows" yU ["rows","signs"]
 check_row:Mq K mg "check_row" Zj ["row","length","signs"]
 closed:Mq K mg "closed" ZT ["board"]
 open_cells:Mq K mg "open_cells" jb ["board"]
 around:Mq K mg "around" yV ["board","cell"]
 number_at:Mq K mg "number_at" x6 ["board","cell"]
 opened:Mq K mg "opened" Qk ["board","numbers"]
 cells_of:Mq K mg "cells_of" qv ["board"]
 sign_at:Mq K mg "sign_at" qH ["board","cell"]
 field_of:Mq K mg "field_of" Yz ["rows"]
 stones_of:Mq K mg "stones_of" Zk ["field"]
 clears_of:Mq K mg "clears_of" Zl ["field"]
 cells_with:Mq K mg "cells_with" jJ ["field","sign"]
 board_at:Mq K mg "board_at" JW ["field","cells"]
 parts:Mq K mg "parts" zcE ["board"]
 joined:Mq K mg "joined" ZU ["groups","cells"]
 far:Mq K mg "far" zgV ["board"]
 numbers_of:Mq K mg "numbers_of" yW ["board","part"]
 bare_wrong:Mq K mg "bare_wrong" yp ["board"]
 closed_around:Mq K mg "closed_around" qT ["board","cell"]
 part_layings:Mq K mg "part_layings" jm ["board","part"]
 needs_at:Mq K mg "needs_at" JX ["told","cell","rest"]
 may_fit:Mq K mg "may_fit" ZV ["needs","pick"]
 part_counts:Mq K mg "part_counts" xP ["board","part"]
 counted:Mq K mg "counted" ZW ["found","greatest"]
 counted_at:Mq K mg "counted_at" yX ["found","greatest","cell"]
 choices:Mq K mg "choices" QF ["n","k"]
 poured:Mq K mg "poured" zaY ["one","other"]
 near_counts:Mq K mg "near_counts" yr ["board"]
 count:Mq K mg "count" zcF ["board"]
 counts_by_cell:Mq K mg "counts_by_cell" jh ["board"]
 all_poured:Mq K mg "all_poured" Jz ["lists"]
 dealt:Mq K mg "dealt" zaZ ["counts","cells","stones"]
 fraction:Mq K mg "fraction" YA ["top","bottom"]
 greatest_divisor:Mq K mg "greatest_divisor" jn ["number","bottom"]
 shares:Mq K mg "shares" Ql ["board"]
 some_count:Mq K mg "some_count" JA ["board"]
 sure:Mq K mg "sure" zbL ["board"]
 asked_by:Mq K mg "asked_by" zdm ["board","thing"]
 known_of:Mq K mg "known_of" zdn ["finding"]
 still_asked:Mq K mg "still_asked" Q5 ["asked","known"]
 gained:Mq K mg "gained" zgW ["asked"]
 settled:Mq K mg "settled" zeT ["regions"]
 thoughts:Mq K mg "thoughts" zdo ["board"]
 all_steps:Mq K mg "all_steps" zb4 ["board","things"]
 place_lists:Mq K mg "place_lists" Q6 ["asked"]
 first_step:Mq K mg "first_step" za0 ["things","asked","lists","finding"]
 run:∃(f:Addr) (fd:XM),zbD K mg "run" zb2 ["field","first","way"] "sure" f fd
 found_clear:Mq K mg "found_clear" xQ ["board","way"]
 law_cell_at:Mq K mg "_law_cell_at" jR ["_law_script","_law_k"]
 law_mixed:Mq K mg "_law_mixed" x8 ["_law_cell","_law_k"]
 law_field:Mq K mg "_law_field" Zm ["_law_script","_law_most"]
 law_corner:Mq K mg "_law_corner" JB ["_law_script"]
 law_cells:Mq K mg "_law_cells" Zn ["_law_rows","_law_signs"]
 law_safe:Mq K mg "_law_safe" YB ["_law_board"]
 law_due:Mq K mg "_law_due" QG ["_law_field_here","_law_clears","_law_first"]
 law_told:Mq K mg "_law_told" YC ["_law_field_here","_law_first"]
def zfL (K:X5):Sp:=λc H Q _=>∃(a:Addr) (b:List Int) (k:Int),c=[.ref a,.int k]/\SqL K H a (b.map V.int)/\0<=k/\∀z:Int,Q (.int z) H
structure Row (NK:List Nat)(n:Nat)(t:Str):Prop where
 len:t.cps.size=n
 mem:∀c∈t.cps.toList,c∈NK
structure Rows (NK:List Nat)(rs:AE):Prop where
 lo:1<=rs.length
 hi:rs.length<=8
 ex:∃n,1<=n/\n<=8/\∀t∈rs,Row NK n t
def bd:Str:="?012345678#"
def zds:zD ["_law_script","_law_k"] ["_law_script","_law_k"] (ze jR):=bz
def JY (T:Txt mg)(D:zj K mg "_law_cell_at" jR ["_law_script","_law_k"] f fd):qz P w K mg base CX0 1 f fd ["_law_script","_law_k"] (zfL K):=by
 refine D.F.ok zds (λn H Q E h=>?_) (λj A d s H n Q E o h=>?_)
 .obtain⟨a,b,i,rfl,_⟩:=h;rfl
 .obtain⟨a,b,i,rfl,e,l,k⟩:=h;refine⟨_,(zf (qL (zG zh9 (pvS 1) (zB zE (by rfl) T.qX Xf (za (pvS 0) zb)) (zU _)) (zg (zK (qu qW (pvS 0) (pvS 1) (λ_ _=>rfl)))) qc) (@zg _ _ _ (@zK _ _ _ _ zh))),?_⟩;(try dsimp only[cxK,cxP,cxW]);refine⟨_,rfl,_,rfl,a,_,rfl,.inl e,_,_,rfl,rfl,_,rfl,?_⟩;refine zch (λc=>?_) (λc=>?_)
  .have g:i<((b.map V.int).length:Nat):=bh c;rw[X9]at g;have m:i.toNat<b.length:=by lia
   refine⟨_,rfl,_,rfl,a,_,i,.int b[i.toNat],rfl,rfl,e,Zw l (by rw[Xo,X2 m];rfl),?_⟩;exact k _
  .exact k 0
structure qh (H:Hp)(p l:Addr)(rs:AE)(n:Int):Prop where
 tp:H p=some (.tup [.ref l,.int n])
 rw:H l=some (.lst (rs.map V.str))
def zmi:∀c∈bd.cps.toList,c<1114112:=by decide+kernel
def zol {n:Nat}{t:Str}(r:Row bd.cps.toList n t):Wp (.str t)=true:=by
 show t.cps.all (· < 0x110000)=true;rw[Array.all_eq_true'];intro c a;exact br (zmi c (r.mem c (RZ.mpr a)))
def zgX {rs:AE}{n:Nat}(h:∀t∈rs,Row bd.cps.toList n t):Wd (rs.map VW)=true:=by
 induction rs with
 | nil=>rfl
 | cons t r b =>
  show (Wp (.str t)&&Wd (r.map VW))=true;rw[zol (h t XV),b λu a=>h u (XW _ a)];rfl
def YD (rs:AE):V6 (rs.map VW)=0:=by
 induction rs with
 | nil=>rfl
 | cons t r a =>
  show max (PyData.depth (.str t)) (V6 (r.map VW))=0;rw[a];rfl
def Rows.cmp {rs:AE}(R:Rows bd.cps.toList rs):zfq (.list (rs.map VW)) (.list (rs.map VW)):=by
 obtain⟨n,_,_,h⟩:=R.ex;refine⟨zgX h,zgX h,?_⟩;show V6 (rs.map VW)+1<=64;rw[YD];decide
def bData (rs:AE)(n:Int):Wf:=.tuple [.list (rs.map VW),.int n]
def Rows.cmpB {rs:AE}(R:Rows bd.cps.toList rs)(n:Int):zfq (bData rs n) (bData rs n):=by
 have c:=R.cmp;have h1:Wp (bData rs n)=true:=by
  show (Wp (.list (rs.map VW))&&(Wp (.int n)&&true))=true;rw[c.l1];rfl
 refine⟨h1,h1,?_⟩;show max (V6 (rs.map VW)+1) (max 0 0)+1<=64;rw[YD];decide
def qh.rdv {K:X5}{H:Hp}{p l:Addr}{rs:AE}{n:Int}(b:qh H p l rs n):Rdv K H (.ref p) (bData rs n):=.tup (SqT.of b.tp) (.cons (.lst (SqL.of b.rw) (zaF rs)) (.cons (.int n) .nil))
def Rows.mono {s s':List Nat}{rs:AE}(R:Rows s rs)(h:∀c∈s,c∈s'):Rows s' rs :=
 ⟨R.lo,R.hi,let ⟨n,a,b,q⟩:=R.ex;⟨n,a,b,λt d=>⟨(q t d).len,λc e=>h c ((q t d).mem c e)⟩⟩⟩
def qh.mono {H a:Hp}{p l:Addr}{rs:AE}{n:Int}(b:qh H p l rs n)(s:zu H a):qh a p l rs n:=⟨s _ _ b.tp,s _ _ b.rw⟩
def codes (rs:AE):List (List Nat):=rs.map λt=>t.cps.toList
def qQ {rs:AE}{i:Nat}{t:Str}(h:rs[i]?=some t):(codes rs)[i]?=some t.cps.toList:=by
 unfold codes;rw[Xo,h];rfl
def QH {rs:AE}{i:Nat}{u:List Nat}(h:(codes rs)[i]?=some u):∃t,rs[i]?=some t/\u=t.cps.toList:=by
 unfold codes at h;rw[Xo]at h;cases e:rs[i]? with
 | none =>
  rw[e]at h;cases h
 | some t =>
  rw[e]at h;cases h;exact⟨t,rfl,rfl⟩
def qR (rs:AE):(codes rs).length=rs.length:=by
 unfold codes;rw[X9]
def Rows.short {s:List Nat}{rs:AE}(R:Rows s rs):∀u∈codes rs,u.length<=8:=λu b=>by
 obtain⟨t,a,rfl⟩:=XA.mp b;obtain⟨n,_,c,q⟩:=R.ex;have:=(q t a).len;rw[X6];lia
def Rows.tlen {s:List Nat}{rs:AE}{i:Nat}{t:Str}(R:Rows s rs)(h:rs[i]?=some t):t.length<=Xz:=by
 obtain⟨n,_,a,q⟩:=R.ex;have e:t.length=n:=(q t (X7 h)).len;rw[e];exact X0 a (by decide)
def Ji (H:Hp)(v:V)(c:AA):Prop:=∃a,v=V.ref a/\H a=some (.tup [.int (c.1:Nat),.int (c.2:Nat)])
def Cel (H:Hp):AF->AD->Prop:=WU (Ji H)
def Cel.mono {H b:Hp}(s:zu H b){vs:AF}{cs:AD}(c:Cel H vs cs):Cel b vs cs:=by
 induction c with
 | nil=>exact .nil
 | cons q _ d =>
  obtain⟨a,e,h⟩:=q;exact .cons ⟨a,e,s _ _ h⟩ d
theorem Cel.snoc {H:Hp}{vs:AF}{cs:AD}{v:V}{c:AA}(h:Cel H vs cs)(x:Ji H v c):Cel H (vs++[v]) (cs++[c]):=Paired.snoc h x
def Cel.append {H:Hp}{vs b:AF}{cs a:AD}(h:Cel H vs cs)(k:Cel H b a):Cel H (vs++b) (cs++a):=zcU h k
def Cel.into {H:Hp}(z:Addr)(o:HO){b:AF}(d:H z=some (.lst b)){vs:AF}{cs:AD}(c:Cel H vs cs):Cel (upd H z o) vs cs:=by
 induction c with
 | nil=>exact .nil
 | cons q _ f =>
  obtain⟨a,e,h⟩:=q;exact .cons ⟨a,e,by rw[zo (zeq h d (by intro y;cases y))];exact h⟩ f
theorem Cel.length {H:Hp}{vs:AF}{cs:AD}(h:Cel H vs cs):vs.length=cs.length:=Paired.length h
theorem Cel.get {H:Hp}:∀{vs:AF} {cs:AD} {i:Nat} {v:V},Cel H vs cs->vs[i]?=some v->∃c,cs[i]?=some c/\Ji H v c
 | _,_,_,_,.nil,e=>by simp at e
 | _,_,0,_,.cons r _,e=>by
  simp at e;subst e;exact⟨_,rfl,r⟩
 | _,_,i+1,v,.cons _ t,e=>by
  obtain⟨c,h1,h2⟩:=Cel.get (i:=i) (v:=v) t (by simpa using e);exact⟨c,by simpa using h1,h2⟩
def zp (c:AA):Wf:=.tuple [.int (c.1:Nat),.int (c.2:Nat)]
def Ji.rdv {K:X5}{H:Hp}{v:V}{c:AA}(h:Ji H v c):Rdv K H v (zp c):=by
 obtain⟨a,rfl,h⟩:=h;exact .tup (SqT.of h) (.cons (.int _) (.cons (.int _) .nil))
def zkx (c d:AA):zfq (zp c) (zp d):=⟨rfl,rfl,by show max 0 (max 0 0)+1<=64;decide⟩
def zeV (c d:AA):W8 (zp c) (zp d)=decide (c=d):=by
 obtain⟨a,b⟩:=c;obtain⟨x,y⟩:=d;show ((((a:Nat):Int)==((x:Nat):Int))&&((((b:Nat):Int)==((y:Nat):Int))&&true))=decide ((a,b)=(x,y));by_cases h1:a=x
 .by_cases h2:b=y
  .subst h1 h2;simp
  .have:¬ ((b:Int)=(y:Int)):=by lia
   simp[h2,this]
 .have:¬ ((a:Int)=(x:Int)):=by lia
  simp[h1,this]
def zbM (c k:Nat):(V.str ⟨#[c]⟩=V.str ⟨#[k]⟩)=(c=k):=by
 apply propext;constructor
 .intro h;have h2:(⟨#[c]⟩:Str)=⟨#[k]⟩:=V.str.inj h;have a:(#[c]:Array Nat)=#[k]:=congrArg Str.cps h2;simpa using a
 .rintro rfl;rfl
def zaJ:("#":Str)=⟨#[35]⟩:=by decide+kernel
def zdu:("?":Str)=⟨#[63]⟩:=by decide+kernel
def zO (c:Nat):Bool:=!decide (c=35)
def Zo (c:Nat):Bool:=decide (c=63)
def Q7 (c:Nat):Bool:=zO c && !decide (c=63)
def zqB:Sp:=λb H Q _=>∃(p l c:Addr) (a:AE) (n:Int) (i j:Nat) (t:Str) (k:Nat),b=[.ref p,.ref c]/\qh H p l a n/\H c=some (.tup [.int (i:Nat),.int (j:Nat)])/\a[i]?=some t/\t.cps.toList[j]?=some k/\t.length<=Xz/\Q (.str ⟨#[k]⟩) H
def zil (p:Nat->Bool):Sp:=λf H Q _=>∃(a l:Addr) (c:AE) (n:Int),f=[.ref a]/\qh H a l c n/\Rows bd.cps.toList c /\
 ∀(d:Addr) (e:AF) (b:Hp),H d=none->b d=some (.lst e)->Cel b e (Cells.zI p 0 (codes c))->zu H b->Q (.ref d) b
def zom (p:Nat->Bool):Sp:=λg H Q _=>∃(a l:Addr) (c:AE) (n:Int),g=[.ref a]/\qh H a l c n/\(∃f,Rows f c) /\
 ∀(d:Addr) (e:AF) (b:Hp),H d=none->b d=some (.lst e)->Cel b e (Cells.zI p 0 (codes c))->zu H b->Q (.ref d) b
def zmj:Sp:=λb H Q _=>∃(p l c:Addr) (a:AE) (n:Int) (i j:Nat) (t:Str) (k:Nat),b=[.ref p,.ref c]/\qh H p l a n/\H c=some (.tup [.int (i:Nat),.int (j:Nat)])/\a[i]?=some t/\t.cps.toList[j]?=some k/\t.length<=Xz/\48<=k/\k<=56/\Q (.int ((k:Int)-48)) H
def int_sign {k:Nat}(h1:48<=k)(h2:k<=56):OQ ⟨#[k]⟩=some ((k:Int)-48):=by
 have:∀k∈Wh 57,48<=k->OQ ⟨#[k]⟩=some ((k:Int)-48):=by decide+kernel
 exact this k (VH.mpr (by lia)) h1
def zim:zD ["board","cell"] ["board","cell"] (ze qH):=bz
def JZ (D:zj K mg "sign_at" qH ["board","cell"] f fd):qz P w K mg base CX0 1 f fd ["board","cell"] zqB:=by
 refine D.F.ok zim (λu H Q E h=>?_) (λe A a s H u Q E x h=>?_)
 .revert h;refine e8 λp l c r n i j t=>eE λk z0 _=>?_;subst z0;rfl
 .revert h;refine eB λp l c r=>eS λn i j t k=>eH λz0 b d g=>eF λm o q=>?_;subst z0;refine⟨_,(zg (zK (qu zaP (qu qW (qu qB (pvS 0) zh (λ_ _=>rfl)) (qu qB (pvS 1) zh (λ_ _=>rfl)) (λ_ _=>rfl)) (qu qB (pvS 1) zh (λ_ _=>rfl)) (λ_ _=>rfl)))),?_⟩;(try dsimp only[cxK,cxP,cxW]);exact⟨_,rfl,p,_,0,_,rfl,rfl,SqT.of b.tp,rfl,_,rfl,c,_,0,_,rfl,rfl,SqT.of d,rfl,l,_,_,_,rfl,rfl,SqL.of b.rw,QB (v:=V.str t) (by rw[Xo,g];rfl),_,rfl,c,_,1,_,rfl,rfl,SqT.of d,rfl,t,_,k,rfl,rfl,o,QB m,q⟩
def Zp:zD ["board","found","row","text"] ["board"] (ze qv):=bz
def za1 (T:Txt mg)(D:zj K mg "cells_of" qv ["board"] f fd):qz P w K mg base CX0 1 f fd ["board"] (zom zO):=by
 refine D.F.ok Zp (λvs H Q E h=>?_) (λal A ak s H vs Q E hr h=>?_)
 .obtain⟨a,l,rs,n,rfl,_⟩:=h;rfl
 .obtain⟨a,l,rs,n,rfl,b,⟨sg,R⟩,q⟩:=h;refine⟨_,(@zf _ _ _ _ _ (@zx _ _ 1 _ _ _ _ Zp.nd rfl (XI rfl) (@qo _ _ _ _ zb) (by rfl) (.inr rfl)) (zf (qS W3 rfl (JP (by rfl) T.jw (za (qu qB (pvS 0) zh (λ_ _=>rfl)) zb)) (Zv rfl (qf (zv (i:=2) Zp.nd rfl (UH rfl)) (qf (zv (i:=3) Zp.nd rfl (XI rfl)) yi))) (zg (yu (Y7 Wz S5 S4 zbr (pvS 1) (za (qJ (N:=["column","sign","row"]) (src:=[none,none,some 2]) (zV.free (O:=(ze qv).names) (XN:=["board","found","row","text"]) rfl rfl ⟨_,rfl⟩ rfl rfl (by decide+kernel) (by decide+kernel) (by decide+kernel) rfl (by decide+kernel)) rfl (zgn (by rfl) T.jw (za (pvS 3) zb)) (λ_ _ _ _ _=>(zcv (n:=2) (K:=K) (by rfl) rfl (qf (zv (i:=0) (by show W6 (["column","sign","row"]:AE);decide+kernel) rfl (XI rfl)) (qf (zv (i:=1) (by show W6 (["column","sign","row"]:AE);decide+kernel) rfl (XI rfl)) yi)))) (λ_ _ _ _ _=>(qN (zG zcL (pvS 1) (qG (v:=.str "#") (by rfl) T.Qn.choose_spec (by exact⟨_,rfl⟩)) (zU _)))) (λ_ _ _ _ _=>(jy (za (pvS 2) (za (pvS 0) zb))))) zb))))) (zg (zK (pvS 1))))),?_⟩;(try dsimp only[cxK,cxP,cxW]);refine⟨ZP,λd hd=>?_⟩;have s0:zu H (upd H d (.lst [])):=zd hd;refine⟨_,rfl,a,_,0,_,rfl,rfl,SqT.of (b.mono s0).tp,rfl,l,rfl,⟨_,SqL.of (b.mono s0).rw⟩,?_⟩;refine JJ (K:=K) (l:=l) (xs:=rs.map V.str) (λi U I=>∃(v2 v3:Option V) (B:AF),U=[some (.ref a),some (.ref d),v2,v3]/\zu H I/\I d=some (.lst B)/\Cel I B (Cells.zI zO 0 ((codes rs).take i)))
   ⟨_,_,[],rfl,s0,zc,.nil⟩ (λi U I _ ⟨_,_,_,_,s1,_⟩=>SqL.of (b.mono s1).rw) ?_ ?_
  .refine λi x tt U H1 hx ai=>e9 λv2 v3 B z0 s1 Y r=>?_;subst z0;rw[Xo]at hx;cases e:rs[i]? with
   | none =>
    rw[e]at hx;cases hx
   | some t =>
    rw[e]at hx;cases hx;have am:i<rs.length:=(XZ.mp e).1;have st:zu H1 (upd H1 tt (.tup [.int (i:Nat),.str t])):=zd ai;refine dH tt rfl (SqT.of zc) rfl rfl rfl rfl ?_;have aa:upd H1 tt (.tup [.int (i:Nat),.str t]) d=some (.lst B):=st _ _ Y;refine⟨_,rfl,.inl ⟨rfl,_,SqL.of aa⟩,_,rfl,t,rfl,λz hz=>?_⟩;refine zcS (x:=t) (λj U I=>∃(u0 u1:Option V) (m:AF),U=[u0,u1,some (.int (i:Nat))]/\zu (upd H1 tt (.tup [.int (i:Nat),.str t])) I/\I z=some (.lst m)/\Cel I m (Cells.zW zO i 0 (t.cps.toList.take j)))
     ⟨_,_,[],rfl,zd hz,zc,.nil⟩ ?_ ?_
    .refine λj c t2 U J hc ah=>e9 λu0 u1 m z0 s2 k g=>?_;subst z0;refine dH t2 rfl (SqT.of zc) rfl rfl rfl rfl ?_;refine⟨_,rfl,rfl,_,rfl,?_⟩;have ag:t.cps.toList[j]?=some c:=by rw[Xy];exact hc
     have L:zu J (upd J t2 (.tup [.int (j:Nat),.str ⟨#[c]⟩])):=zd ah;have step:=Cells.zak (p:=zO) (i:=i) ag;have ed:(!decide (V.str ⟨#[c]⟩=V.str "#"))=zO c:=by
      rw[zaJ];simp only[zbM];rfl
     rw[ed];by_cases hp:zO c=true
     .rw[hp]at step;refine jX hp ?_;refine⟨_,rfl,_,rfl,J2,λM af=>?_⟩;have aj:z≠M:=zk (L _ _ k) af;have s4:zu (upd J t2 (.tup [.int (j:Nat),.str ⟨#[c]⟩])) (upd (upd J t2 (.tup [.int (j:Nat),.str ⟨#[c]⟩])) M (.tup [.int (i:Nat),.int (j:Nat)])):=zd af;have ac:m.length<=8:=by
       rw[g.length];refine X0 (Cells.jv _ _ _ _) ?_;have:=R.short _ (X7 (qQ e));rw[XG];lia
      refine⟨m,(dF (s4 _ _ (L _ _ k)) (Xx ac (by decide)) (dB (some (.int (j:Nat))) (some (.str ⟨#[c]⟩)) ⟨m++[.ref M],(dN rfl (λb' o G=>?_) zc ?_)⟩))⟩
      .have hb:b'≠z:=λy=>by
        subst y;rw[hz]at G;cases G
       rw[zo hb];exact s4 _ _ (L _ _ (s2 _ _ G))
      .rw[step];have keep:∀x o,x≠z->upd (upd J t2 (.tup [.int (j:Nat),.str ⟨#[c]⟩])) M (.tup [.int (i:Nat),.int (j:Nat)]) x=some o->upd (upd (upd J t2 (.tup [.int (j:Nat),.str ⟨#[c]⟩])) M (.tup [.int (i:Nat),.int (j:Nat)])) z (.lst (m++[.ref M])) x=some o:=λx o hx G=>by
        rw[zo hx];exact G
       refine Cel.snoc ?_ ⟨M,rfl,keep _ _ aj.symm zc⟩;exact Cel.into z (.lst (m++[.ref M])) (s4 _ _ (L _ _ k)) (Cel.mono s4 (Cel.mono L g))
     .have ae:zO c=false:=by simpa using hp
      rw[ae]at step;refine jA ae ?_;refine⟨some (.int (j:Nat)),some (.str ⟨#[c]⟩),m,rfl,s2.trans L,L _ _ k,?_⟩;rw[step];simpa using Cel.mono L g
    .refine λU J=>e9 λu0 u1 m z0 s2 k g=>?_;subst z0;have an:d≠z:=zk aa hz;have ab:J d=some (.lst B):=s2 _ _ aa;have full:t.cps.toList.take t.cps.size=t.cps.toList:=by
      rw[<- X6,XC]
     rw[full]at g;have step:=Cells.zal (p:=zO) (qQ e);have l1:B.length<=64:=by
      rw[r.length];refine X0 (Cells.ja _ _ _ λu hu=>R.short u (V0 hu)) ?_;have:=R.hi;rw[XG,qR];lia
     have l2:m.length<=8:=by
      rw[g.length];exact X0 (Cells.jv _ _ _ _) (R.short _ (X7 (qQ e)))
     refine dD d z B m (dM rfl rfl ab k (X0 (Nat.add_le_add l1 l2) (by decide)) ?_);refine⟨_,_,B++m,rfl,λb' o G=>?_,zc,?_⟩
     .have hb:b'≠d:=λy=>by
       subst y;rw[hd]at G;cases G
      rw[zo hb];exact s2 _ _ (st _ _ (s1 _ _ G))
     .rw[step];exact Cel.into d _ ab (Cel.append (Cel.mono s2 (Cel.mono st r)) g)
  .rintro U H1 ⟨v2,v3,B,rfl,s1,Y,r⟩;rw[X9,<- qR,XC]at r;exact⟨_,rfl,q d B H1 hd Y r s1⟩
def zb5 (T:Txt mg)(D:zj K mg "cells_of" qv ["board"] f fd):qz P w K mg base CX0 1 f fd ["board"] (zil zO):=(za1 T D).imp λ_ _ _ _ ⟨a,l,c,n,e,b,R,q⟩=>⟨a,l,c,n,e,b,⟨_,R⟩,q⟩
def zon (c:Nat):(zO c&&decide (c=63))=Zo c:=by
 unfold zO Zo;by_cases h:c=63
 .subst h;rfl
 .simp[h]
def zky:zD ["board"] ["board"] (ze ZT):=bz
def ZX {f1 f2:Addr}{aa ab:XM}(T:Txt mg)(D:zj K mg "closed" ZT ["board"] f fd)(zw:zj K mg "cells_of" qv ["board"] f1 aa)(zq:zj K mg "sign_at" qH ["board","cell"] f2 ab) :
  qz P w K mg base CX0 2 f fd ["board"] (zil Zo):=by
 refine D.F.ok zky (λvs H Q E h=>?_) (λaf A ae s H vs Q E hr h=>?_)
 .obtain⟨a,l,g,n,rfl,_⟩:=h;rfl
 .revert h;refine fj λa l g n z0 b R q=>?_;subst z0;refine⟨_,(zg (zK (qJ (N:=["cell","board"]) (src:=[none,some 0]) (zV.free (O:=(ze ZT).names) (XN:=["board"]) rfl rfl ⟨_,rfl⟩ rfl rfl (by decide+kernel) (by decide+kernel) (by decide+kernel) rfl (by decide+kernel)) rfl (zR (pc0 (zb5 T zw) hr zw (za (pvS 0) zb))) (λ_ _ _ _ _=>(zv (i:=0) (by show W6 (["cell","board"]:AE);decide+kernel) rfl (XI rfl))) (λ_ _ _ _ _=>(qN (zG ZF (pc0 (JZ zq) hr zq (za (pvS 1) (za (pvS 0) zb))) (qG (v:=.str "?") (by rfl) T.Zz.choose_spec (by exact⟨_,rfl⟩)) (zU _)))) (λ_ _ _ _ _=>(pvS 0))))),?_⟩;(try dsimp only[cxK,cxP,cxW]);refine⟨_,rfl,a,l,g,n,rfl,b,R,λd ws H1 hd G I s1=>⟨d,rfl,⟨_,SqL.of G⟩,λz hz=>?_⟩⟩;have nz:d≠z:=zk G hz;refine qw (K:=K) (a:=d) (xs:=ws) (λi σ Y=>∃(u0:Option V) (r:AF),σ=[u0,some (.ref a)]/\zu H1 Y/\Y z=some (.lst r)/\Cel Y r (((Cells.zI zO 0 (codes g)).take i).filter λx=>decide (Cells.sgn (codes g) x=63)))
   ⟨_,[],rfl,zd hz,zc,.nil⟩ (λi σ Y _ ⟨_,_,_,B,_⟩=>SqL.of (B _ _ G)) ?_ ?_
  .refine λi x σ H2 hx=>eU λu0 r z0 B m e=>?_;subst z0;obtain⟨c,L,ca,rfl,J⟩:=Cel.get (Cel.mono B I) hx;refine fj (λk0 j u k ec M hj ag=>?_) (Cells.xr (X7 L));obtain⟨t,ht,rfl⟩:=QH M;rw[VD]at ec;subst ec;refine⟨_,rfl,_,rfl,a,l,ca,g,n,k0,j,t,k,rfl,(b.mono s1).mono B,J,ht,hj,R.tlen ht,rfl,_,rfl,?_⟩;have es:Cells.sgn (codes g) (k0,j)=k:=Cells.zbE M hj;have step:((Cells.zI zO 0 (codes g)).take (i+1)).filter (λx=>decide (Cells.sgn (codes g) x=63))=((Cells.zI zO 0 (codes g)).take i).filter (λx=>decide (Cells.sgn (codes g) x=63))++(if decide (k=63)=true then [(k0,j)] else []):=by
    rw[Xv,L,W5];congr 1;show OU _ [(k0,j)]=_;rw[WC];try dsimp only
    rw[es];split<;>rfl
   have ed:decide (V.str ⟨#[k]⟩=V.str "?")=decide (k=63):=by
    rw[zdu];simp only[zbM]
   rw[ed];by_cases hp:decide (k=63)=true
   .rw[bw hp]at step;refine jX hp ?_;have U:r.length<=64:=by
     rw[e.length];refine X0 (WW _ _) ?_;rw[XG];have h1:=Cells.ja zO 0 (codes g) R.short;have h2:=R.hi;rw[qR]at h1;lia
    refine⟨_,rfl,r,m,Xx U (by decide),_,r++[.ref ca],rfl,λb' o e'=>?_,zc,?_⟩
    .have hb:b'≠z:=λy=>by
      subst y;rw[hz]at e';cases e'
     rw[zo hb];exact B _ _ e'
    .rw[step];exact Cel.into z _ m (Cel.snoc e ⟨ca,rfl,J⟩)
   .rw[bq hp]at step;refine jA (by simpa using hp) ?_;refine⟨_,r,rfl,B,m,?_⟩;rw[step];simpa using e
  .rintro σ H2 ⟨u0,r,rfl,B,m,e⟩;rw[I.length,XC,Cells.all_filter (p:=zO) (q:=λk=>decide (k=63)) (codes g)]at e;have ac:H z=none:=s1.free hz;exact q z r H2 ac m (by rw[Cells.zgP (q:=Zo) zon]at e;exact e) (s1.trans B)
def zee:zD ["board"] ["board"] (ze jb):=bz
def xT {f1 f2:Addr}{aa ab:XM}(T:Txt mg)(D:zj K mg "open_cells" jb ["board"] f fd)(zw:zj K mg "cells_of" qv ["board"] f1 aa)(zq:zj K mg "sign_at" qH ["board","cell"] f2 ab) :
  qz P w K mg base CX0 2 f fd ["board"] (zil Q7):=by
 refine D.F.ok zee (λvs H Q E h=>?_) (λaf A ae s H vs Q E hr h=>?_)
 .obtain⟨a,l,g,n,rfl,_⟩:=h;rfl
 .revert h;refine fj λa l g n z0 b R q=>?_;subst z0;refine⟨_,(zg (zK (qJ (N:=["cell","board"]) (src:=[none,some 0]) (zV.free (O:=(ze jb).names) (XN:=["board"]) rfl rfl ⟨_,rfl⟩ rfl rfl (by decide+kernel) (by decide+kernel) (by decide+kernel) rfl (by decide+kernel)) rfl (zR (pc0 (zb5 T zw) hr zw (za (pvS 0) zb))) (λ_ _ _ _ _=>(zv (i:=0) (by show W6 (["cell","board"]:AE);decide+kernel) rfl (XI rfl))) (λ_ _ _ _ _=>(qN (zG zcL (pc0 (JZ zq) hr zq (za (pvS 1) (za (pvS 0) zb))) (qG (v:=.str "?") (by rfl) T.Zz.choose_spec (by exact⟨_,rfl⟩)) (zU _)))) (λ_ _ _ _ _=>(pvS 0))))),?_⟩;(try dsimp only[cxK,cxP,cxW]);refine⟨_,rfl,a,l,g,n,rfl,b,R,λd ws H1 hd G I s1=>⟨d,rfl,⟨_,SqL.of G⟩,λz hz=>?_⟩⟩;have nz:d≠z:=zk G hz;refine qw (K:=K) (a:=d) (xs:=ws) (λi σ Y=>∃(u0:Option V) (r:AF),σ=[u0,some (.ref a)]/\zu H1 Y/\Y z=some (.lst r)/\Cel Y r (((Cells.zI zO 0 (codes g)).take i).filter λx=>!decide (Cells.sgn (codes g) x=63)))
   ⟨_,[],rfl,zd hz,zc,.nil⟩ (λi σ Y _ ⟨_,_,_,B,_⟩=>SqL.of (B _ _ G)) ?_ ?_
  .refine λi x σ H2 hx=>eU λu0 r z0 B m e=>?_;subst z0;obtain⟨c,L,ca,rfl,J⟩:=Cel.get (Cel.mono B I) hx;refine fj (λk0 j u k ec M hj ag=>?_) (Cells.xr (X7 L));obtain⟨t,ht,rfl⟩:=QH M;rw[VD]at ec;subst ec;refine⟨_,rfl,_,rfl,a,l,ca,g,n,k0,j,t,k,rfl,(b.mono s1).mono B,J,ht,hj,R.tlen ht,rfl,_,rfl,?_⟩;have es:Cells.sgn (codes g) (k0,j)=k:=Cells.zbE M hj;have step:((Cells.zI zO 0 (codes g)).take (i+1)).filter (λx=>!decide (Cells.sgn (codes g) x=63))=((Cells.zI zO 0 (codes g)).take i).filter (λx=>!decide (Cells.sgn (codes g) x=63))++(if (!decide (k=63))=true then [(k0,j)] else []):=by
    rw[Xv,L,W5];congr 1;show OU _ [(k0,j)]=_;rw[WC];try dsimp only
    rw[es];split<;>rfl
   have ed:(!decide (V.str ⟨#[k]⟩=V.str "?"))=(!decide (k=63)):=by
    rw[zdu];simp only[zbM]
   rw[ed];by_cases hp:(!decide (k=63))=true
   .rw[bw hp]at step;refine jX hp ?_;have U:r.length<=64:=by
     rw[e.length];refine X0 (WW _ _) ?_;rw[XG];have h1:=Cells.ja zO 0 (codes g) R.short;have h2:=R.hi;rw[qR]at h1;lia
    refine⟨_,rfl,r,m,Xx U (by decide),_,r++[.ref ca],rfl,λb' o e'=>?_,zc,?_⟩
    .have hb:b'≠z:=λy=>by
      subst y;rw[hz]at e';cases e'
     rw[zo hb];exact B _ _ e'
    .rw[step];exact Cel.into z _ m (Cel.snoc e ⟨ca,rfl,J⟩)
   .rw[bq hp]at step;refine jA (by simpa using hp) ?_;refine⟨_,r,rfl,B,m,?_⟩;rw[step];simpa using e
  .rintro σ H2 ⟨u0,r,rfl,B,m,e⟩;rw[I.length,XC,Cells.all_filter (p:=zO) (q:=λk=>(!decide (k=63))) (codes g)]at e;have ac:H z=none:=s1.free hz;exact q z r H2 ac m e (s1.trans B)
def zfM:zD ["board","cell"] ["board","cell"] (ze x6):=bz
def za2 {o:Addr}{a:XM}(T:Txt mg)(D:zj K mg "number_at" x6 ["board","cell"] f fd)(g:zj K mg "sign_at" qH ["board","cell"] o a):qz P w K mg base CX0 2 f fd ["board","cell"] zmj:=by
 refine D.F.ok zfM (λG H Q E h=>?_) (λm A d s H G Q E y h=>?_)
 .revert h;refine e8 λp l c e n i j t=>eE λk z0 _=>?_;subst z0;rfl
 .revert h;refine eB λp l c e=>eS λn i j t k=>eH λz0 b r u=>eH λv x z B q=>?_;subst z0;refine⟨_,(zg (zK (jq zfr (by rfl) T.zr9 PyProof.Rows.boot_int (za (pc0 (JZ g) y g (za (pvS 0) (za (pvS 1) zb))) zb)))),?_⟩;(try dsimp only[cxK,cxP,cxW]);exact⟨_,rfl,_,rfl,p,l,c,e,n,i,j,t,k,rfl,b,r,u,v,x,⟨#[k]⟩,_,rfl,int_sign z B,(by show 1<=640;decide),q⟩
def zeW {k:Nat}(h:k∈bd.cps.toList)(a:Q7 k=true):48<=k/\k<=56:=by
 have:∀k∈bd.cps.toList,Q7 k=true->48<=k/\k<=56:=by decide+kernel
 exact this k h a
def zM (rs:AE)(y:AA):AD:=(Cells.zI zO 0 (codes rs)).filter λx=>Cells.near x y
def zmk:Sp:=λf H Q _=>∃(p l c:Addr) (b:AE) (n:Int) (i j:Nat),f=[.ref p,.ref c]/\qh H p l b n/\Rows bd.cps.toList b/\H c=some (.tup [.int (i:Nat),.int (j:Nat)])/\i<64/\j<64 /\
 ∀(d:Addr) (e:AF) (a:Hp),H d=none->a d=some (.lst e)->Cel a e (zM b (i,j))->zu H a->Q (.ref d) a
def zgY (i:Nat):(if (0:Int)>(i:Int)-1 then (0:Int) else (i:Int)-1)=((i-1:Nat):Int):=by
 split<;>lia
def zgZ (i m:Nat):(if ((m:Nat):Int)<(i:Int)+2 then ((m:Nat):Int) else (i:Int)+2)=((min (i+2) m:Nat):Int):=by
 split<;>lia
def zg0 {f:AA->Bool}{l:AD}{x:AA}(a:Bool):(l++(if a=true then [x] else [])).filter f=l.filter f++(if (a&&f x)=true then [x] else []):=by
 rw[W5];congr 1;by_cases h:a=true
 .by_cases h2:f x=true
  .simp[h,h2]
  .simp[h,h2]
 .simp[h]
def ZY:zD ["board","cell","rows","found","row","column"] ["board","cell"] (ze yV):=bz
def ZZ (T:Txt mg)(D:zj K mg "around" yV ["board","cell"] f fd):qz P w K mg base CX0 1 f fd ["board","cell"] zmk:=by
 refine D.F.ok ZY (λvs H Q E h=>?_) (λau A ap s H vs Q E hr h=>?_)
 .revert h;refine eB λp l M e=>eX λn i j z0 _=>?_;subst z0;rfl
 .revert h;refine eB λp l M e=>eL λn i j z0 b R B=>eF λaq ar q=>?_;subst z0;refine⟨_,(zf (zx (i:=2) ZY.nd rfl (XI rfl) (qu qB (pvS 0) zh (λ_ _=>rfl))) (@zf _ _ _ _ _ (@zx _ _ 3 _ _ _ _ ZY.nd rfl (XI rfl) (@qo _ _ _ _ zb) (by rfl) (.inr rfl)) (zf (qS W3 rfl (zer (by rfl) T.xR (za (zB (zes rfl) (by rfl) T.zpj OZ (za (zC yv (qu qB (pvS 1) zh (λ_ _=>rfl)) zh) (@za _ _ _ _ _ zh zb rfl))) (za (zB (zbo rfl) (by rfl) T.zmh Sh (za (zC qP (qu qB (pvS 1) zh (λ_ _=>rfl)) zh) (za (zB zE (by rfl) T.qX Xf (za (pvS 2) zb)) zb))) zb))) (zv (i:=4) ZY.nd rfl (XI rfl)) (zg (qS W3 rfl (zer (by rfl) T.xR (za (zB (zes rfl) (by rfl) T.zpj OZ (za (zC yv (qu qB (pvS 1) zh (λ_ _=>rfl)) zh) (@za _ _ _ _ _ zh zb rfl))) (za (zB (zbo rfl) (by rfl) T.zmh Sh (za (zC qP (qu qB (pvS 1) zh (λ_ _=>rfl)) zh) (za (zB ju (by rfl) T.qX Xf (za (qu qW (pvS 2) (pvS 4) (λ_ _=>rfl)) zb)) zb))) zb))) (zv (i:=5) ZY.nd rfl (XI rfl)) (zg (qL (PW.pt (zk2 (zG zcL (qu zaP (qu qW (pvS 2) (pvS 4) (λ_ _=>rfl)) (pvS 5) (λ_ _=>rfl)) (qG (v:=.str "#") (by rfl) T.Qn.choose_spec (by exact⟨_,rfl⟩)) (zU _)) (ziX (zG (yx hr.units) (jy (za (pvS 4) (za (pvS 5) zb))) (pvS 1) (zU _))))) (zg (yu (Y7 Wz VN VM yy (pvS 3) (za (jy (za (pvS 4) (za (pvS 5) zb))) zb)))) qc))))) (zg (zK (pvS 3)))))),?_⟩;(try dsimp only[cxK,cxP,cxW]);refine⟨_,rfl,p,_,0,_,rfl,rfl,SqT.of b.tp,rfl,?_⟩;refine⟨ZP,λd hd=>?_⟩;have s0:zu H (upd H d (.lst [])):=zd hd;have r8:=R.hi;refine⟨_,rfl,M,_,0,_,rfl,rfl,SqT.of (s0 _ _ B),rfl,_,_,rfl,rfl,_,_,rfl,_,rfl,M,_,0,_,rfl,rfl,SqT.of (s0 _ _ B),rfl,_,_,rfl,rfl,_,rfl,l,_,rfl,.inl (SqL.of (b.mono s0).rw),_,_,rfl,((i-1:Nat):Int),((min (i+2) e.length:Nat):Int),?_,⟨by lia,by lia,by lia,by lia⟩,?_⟩
  .show [V.int (if (0:Int)>(i:Int)-1 then (0:Int) else (i:Int)-1),V.int (if (((e.map V.str).length:Nat):Int)<(i:Int)+2 then (((e.map V.str).length:Nat):Int) else (i:Int)+2)]=_;rw[X9,zgY,zgZ]
  refine jC (lo:=((i-1:Nat):Int)) (λk σ O=>∃(v4 v5:Option V) (L:AF),σ=[some (.ref p),some (.ref M),some (.ref l),some (.ref d),v4,v5]/\zu H O/\O d=some (.lst L)/\Cel O L ((Cells.zI zO 0 ((codes e).take (i-1+k))).filter λx=>Cells.near x (i,j)))
   ⟨_,_,[],rfl,s0,zc,?_⟩ ?_ ?_
  .rw[Cells.zl6]
   .exact .nil
   .intro r c al;rw[WP,ne_eq,Cells.ZQ];rintro⟨⟨_,h2⟩,_⟩;dsimp only at h2;lia
  .refine λk σ H1 hk=>e9 λv4 v5 L z0 s1 Y J=>?_;subst z0;have am:i-1+k<e.length:=by lia
   have U:((i-1:Nat):Int)+(k:Nat)=((i-1+k:Nat):Int):=by lia
   rw[U];generalize ax:i-1+k=r at *
   obtain⟨t,ht⟩:∃t,e[r]?=some t:=⟨_,X2 am⟩;have ai:t.length<=Xz:=R.tlen ht;have az:t.cps.toList.length<=8:=R.short _ (X7 (qQ ht));have ab:atI (e.map V.str) ((r:Nat):Int)=some (V.str t):=QB (by rw[Xo,ht];rfl);refine⟨_,rfl,M,_,1,_,rfl,rfl,SqT.of (s1 _ _ B),rfl,_,_,rfl,rfl,_,_,rfl,_,rfl,M,_,1,_,rfl,rfl,SqT.of (s1 _ _ B),rfl,_,_,rfl,rfl,_,rfl,_,rfl,l,_,_,_,rfl,rfl,SqL.of (b.mono s1).rw,ab,t,rfl,ai,_,_,rfl,((j-1:Nat):Int),((min (j+2) t.cps.size:Nat):Int),?_,⟨by lia,by lia,by lia,?_⟩,?_⟩
   .show [V.int (if (0:Int)>(j:Int)-1 then (0:Int) else (j:Int)-1),V.int (if ((t.cps.size:Nat):Int)<(j:Int)+2 then ((t.cps.size:Nat):Int) else (j:Int)+2)]=_;rw[zgY,zgZ]
   .lia
   have ay:t.cps.toList.length=t.cps.size:=X6;refine jC (lo:=((j-1:Nat):Int)) (λm σ O=>∃(v5:Option V) (L:AF),σ=[some (.ref p),some (.ref M),some (.ref l),some (.ref d),some (.int (r:Nat)),v5]/\zu H O/\O d=some (.lst L)/\Cel O L ((Cells.zI zO 0 ((codes e).take r)).filter (λx=>Cells.near x (i,j))++(Cells.zW zO r 0 (t.cps.toList.take (j-1+m))).filter λx=>Cells.near x (i,j)))
    ⟨_,L,rfl,s1,Y,?_⟩ ?_ ?_
   .rw[Cells.zl7 (t:=t.cps.toList),WX]
    .exact J
    .intro c aj;rw[WP,ne_eq,Cells.ZQ];rintro⟨_,⟨_,h2⟩,_⟩;dsimp only at h2;lia
   .refine λm σ H2 hm=>eU λv5 y z0 s2 G g=>?_;subst z0;have aw:j-1+m<t.cps.size:=by lia
    have I:((j-1:Nat):Int)+(m:Nat)=((j-1+m:Nat):Int):=by lia
    rw[I];generalize av:j-1+m=c at *
    have z:j-1+(m+1)=c+1:=by lia
    obtain⟨N,af⟩:∃N,t.cps.toList[c]?=some N:=⟨_,X2 (by lia)⟩;have step:=Cells.zak (p:=zO) (i:=r) af;have a:(Cells.zW zO r 0 (t.cps.toList.take (c+1))).filter (λx=>Cells.near x (i,j))=(Cells.zW zO r 0 (t.cps.toList.take c)).filter (λx=>Cells.near x (i,j))++(if (zO N&&Cells.near (r,c) (i,j))=true then [(r,c)] else []):=by
     rw[step,zg0]
    have nr:Cells.near (r,c) (i,j)=!decide ((r,c)=(i,j)):=by
     rw[WJ,Cells.ZQ];simp only[Wx,decide_eq_false_iff_not];constructor
     .exact λh=>h.2.2
     .intro h;refine⟨⟨?_,?_⟩,⟨?_,?_⟩,h⟩<;>(try dsimp only)<;>lia
    refine⟨_,rfl,_,rfl,l,_,_,_,rfl,rfl,SqL.of (b.mono s2).rw,ab,_,rfl,t,_,N,rfl,rfl,ai,QB af,rfl,_,rfl,?_⟩;have ed:(!decide (V.str ⟨#[N]⟩=V.str "#"))=zO N:=by
     rw[zaJ];simp only[zbM];rfl
    rw[ed];by_cases hp:zO N=true
    .refine jX hp ?_;refine⟨_,rfl,_,rfl,J2,λtp an=>?_⟩;have s3:zu H2 (upd H2 tp (.tup [.int (r:Nat),.int (c:Nat)])):=zd an;have ae:=s3 _ _ (s2 _ _ B);refine⟨_,rfl,_,_,Ji.rdv (c:=(r,c)) ⟨tp,rfl,zc⟩,Ji.rdv (c:=(i,j)) ⟨M,rfl,ae⟩,zkx _ _,_,rfl,?_⟩;have ee:(if true=true then !PyData.eqv (zp (r,c)) (zp (i,j)) else W8 (zp (r,c)) (zp (i,j)))=Cells.near (r,c) (i,j):=by
      rw[zeV,nr];rfl
     rw[ee];rw[hp,P1]at a;by_cases hn:Cells.near (r,c) (i,j)=true
     .refine jX hn ?_;rw[bw hn]at a;have aa:=s3 _ _ G;refine⟨_,rfl,.inl ⟨rfl,_,SqL.of aa⟩,_,rfl,_,rfl,J2,λtq ao=>?_⟩;have s4:zu (upd H2 tp (.tup [.int (r:Nat),.int (c:Nat)])) (upd (upd H2 tp (.tup [.int (r:Nat),.int (c:Nat)])) tq (.tup [.int (r:Nat),.int (c:Nat)])):=zd ao;have ag:y.length<=128:=by
       rw[g.length,XR];have h1:=WW (λx=>Cells.near x (i,j)) (Cells.zI zO 0 ((codes e).take r));have h2:=WW (λx=>Cells.near x (i,j)) (Cells.zW zO r 0 (t.cps.toList.take c));have h3:=Cells.ja zO 0 ((codes e).take r) λu hu=>R.short u (V0 hu);have h4:=Cells.jv zO r 0 (t.cps.toList.take c);rw[XG,qR]at h3;rw[XG]at h4;lia
      refine⟨d,_,_,rfl,rfl,s4 _ _ aa,Xx ag (by decide),?_⟩;refine⟨_,y++[.ref tq],rfl,λb' o e'=>?_,zc,?_⟩
      .rw[zo (zk e' hd)];exact s4 _ _ (s3 _ _ (s2 _ _ e'))
      .rw[z,a,<- WY];exact Cel.into d _ (s4 _ _ aa) (Cel.snoc (Cel.mono s4 (Cel.mono s3 g)) ⟨tq,rfl,zc⟩)
     .have ak:Cells.near (r,c) (i,j)=false:=by simpa using hn
      refine jA ak ?_;rw[bq hn,WX]at a;refine⟨_,y,rfl,s2.trans s3,s3 _ _ G,?_⟩;rw[z,a];exact Cel.mono s3 g
    .have ah:zO N=false:=by simpa using hp
     refine jA ah ?_;refine QW ?_;rw[ah,SG,bq XS,WX]at a;refine⟨_,y,rfl,s2,G,?_⟩;rw[z,a];exact g
   .refine λσ H2=>eU λv5 y z0 s2 G g=>?_;subst z0;refine⟨_,_,y,rfl,s2,G,?_⟩;have full:(Cells.zW zO r 0 (t.cps.toList.take (j-1+(((min (j+2) t.cps.size:Nat):Int)-((j-1:Nat):Int)).toNat))).filter (λx=>Cells.near x (i,j))=(Cells.zW zO r 0 t.cps.toList).filter λx=>Cells.near x (i,j):=by
     by_cases ac:t.cps.size<=j-1+(((min (j+2) t.cps.size:Nat):Int)-((j-1:Nat):Int)).toNat
     .rw[Wu (by lia)]
     .refine Cells.zks λc aj=>?_;rw[WP,ne_eq,Cells.ZQ];rintro⟨_,⟨h2,_⟩,_⟩;dsimp only at h2;lia
    rw[full]at g;have e1:i-1+(k+1)=r+1:=by lia
    rw[e1,Cells.zal (qQ ht),W5];exact g
  .rintro σ H1 ⟨v4,v5,L,rfl,s1,Y,J⟩;have full:(Cells.zI zO 0 ((codes e).take (i-1+(((min (i+2) e.length:Nat):Int)-((i-1:Nat):Int)).toNat))).filter (λx=>Cells.near x (i,j))=zM e (i,j):=by
    by_cases ac:e.length<=i-1+(((min (i+2) e.length:Nat):Int)-((i-1:Nat):Int)).toNat
    .rw[Wu (by rw[qR];lia)];rfl
    .refine Cells.zkr λr c al=>?_;rw[WP,ne_eq,Cells.ZQ];rintro⟨⟨h2,_⟩,_⟩;dsimp only at h2;lia
   rw[full]at J;exact⟨_,rfl,q d L H1 hd Y J s1⟩
def Ji.rdn {N:Addr->Prop}{H:Hp}{v:V}{c:AA}(h:Ji H v c):Rdn N H v (zp c):=by
 obtain⟨a,rfl,h⟩:=h;exact .tup h (.cons (.int _) (.cons (.int _) .nil))
theorem Cel.rdn {N:Addr->Prop}{H:Hp}{vs:AF}{cs:AD}(a:Cel H vs cs):zH N H vs (cs.map zp):=by
 induction a with
 | nil=>exact .nil
 | cons h _ b =>
  exact .cons (Ji.rdn h) b
def Rdn.celR {N:Addr->Prop}{H:Hp}{v:V}{c:AA}(h:Rdn N H v (zp c)):Ji H v c:=by
 cases h with
 | tup h t =>
  cases t with
  | cons a t =>
   cases a;cases t with
   | cons b t =>
    cases b;cases t;exact⟨_,rfl,h⟩
theorem zH.cel {N:Addr->Prop}{H:Hp}:∀{cs:AD} {vs:AF},zH N H vs (cs.map zp)->Cel H vs cs
 | [],_,h=>by cases h;exact .nil
 | c::r,_,h=>by
  cases h with
  | cons a t=>exact .cons (Rdn.celR a) (zH.cel t)
theorem zH.bools {N:Addr->Prop}{H:Hp}:∀{bs:List Bool} {vs:AF},zH N H vs (bs.map UC)->vs=bs.map V.bl
 | [],_,h=>by cases h;rfl
 | b::r,_,h=>by
  cases h with
  | cons a t =>
   cases a;rw[zH.bools t];rfl
theorem je {α:Type}(p:α->Bool)(g:α->Wf):∀cs:List α,(cs.map λx=>if p x=true then some (g x) else none).filterMap id=(cs.filter p).map g
 | []=>rfl
 | c::r=>by
  rw[Xh,UW,WC];by_cases h:p c=true
  .rw[bw h,bw h];show g c::_=g c::_;rw[je p g r]
  .rw[bq h,bq h];exact je p g r
theorem Z0 {α:Type}(g:α->Wf):∀cs:List α,(cs.map λx=>some (g x)).filterMap id=cs.map g
 | []=>rfl
 | c::r=>by
  rw[Xh,UW];show g c::_=g c::_;rw[Z0 g r]
def xu {α b:Type}{g:α->b}{cs:List α}{i:Nat}{c:α}{o:b}(h:cs[i]?=some c)(a:(cs.map g)[i]?=some o):o=g c:=by
 rw[Xo,h]at a;exact(Option.some.inj a).symm
def clA (rs:AE)(c:AA):AD:=(zM rs c).filter λx=>decide (Cells.sgn (codes rs) x=63)
def qk (rs:AE):AD:=Cells.zI Zo 0 (codes rs)
def zY (rs:AE):AD:=Cells.zI Q7 0 (codes rs)
def yq (rs:AE):AD:=(qk rs).filter λc=>!((zY rs).map λo=>(zM rs o).any λz=>decide (z=c)).any id
def jV (rs:AE):AD:=((zY rs).filter λo=>(clA rs o).isEmpty).filter λo=>!decide (Cells.sgn (codes rs) o=48)
def ji {p:Nat->Bool}{rs:AE}(R:Rows bd.cps.toList rs):(Cells.zI p 0 (codes rs)).length<=64:=by
 have h1:=Cells.ja p 0 (codes rs) R.short;have h2:=R.hi;rw[qR]at h1;lia
def xU {rs:AE}(R:Rows bd.cps.toList rs)(c:AA):(zM rs c).length<=64:=X0 (WW _ _) (ji R)
def ql {p:Nat->Bool}{rs:AE}{c:AA}(h:c∈Cells.zI p 0 (codes rs)):∃t k,rs[c.1]?=some t/\t.cps.toList[c.2]?=some k/\p k=true/\Cells.sgn (codes rs) c=k:=by
 obtain⟨g,j,u,k,d,a,e,b⟩:=Cells.xr h;obtain⟨t,f,rfl⟩:=QH a;rw[VD]at d;subst d;exact⟨t,k,f,e,b,Cells.zbE a e⟩
def J0 {rs:AE}{c:AA}{t:Str}{k:Nat}(R:Rows bd.cps.toList rs)(h1:rs[c.1]?=some t)(h2:t.cps.toList[c.2]?=some k):c.1<64/\c.2<64:=by
 have a:=(XZ.mp h1).1;have b:=(XZ.mp h2).1;have e:=R.hi;have f:=R.short _ (X7 (qQ h1));lia
def zjt {rs:AE}{i j:Nat}{t:Str}{k:Nat}(R:Rows bd.cps.toList rs)(h1:rs[i]?=some t)(h2:t.cps.toList[j]?=some k):k∈bd.cps.toList:=by
 obtain⟨n,_,_,h⟩:=R.ex;exact(h t (X7 h1)).mem k (X7 h2)
def zsd:Sp:=λg H Q _=>∃(p l e:Addr) (b:AE) (n:Int) (c:AA),g=[.ref p,.ref e]/\qh H p l b n/\Rows bd.cps.toList b/\H e=some (.tup [.int (c.1:Nat),.int (c.2:Nat)])/\c.1<64/\c.2<64 /\
 ∀(d:Addr) (f:AF) (a:Hp),H d=none->a d=some (.lst f)->Cel a f (clA b c)->zu H a->Q (.ref d) a
def zpl (g:AE->AD):Sp:=λf H Q _=>∃(a l:Addr) (c:AE) (n:Int),f=[.ref a]/\qh H a l c n/\Rows bd.cps.toList c /\
 ∀(d:Addr) (e:AF) (b:Hp),H d=none->b d=some (.lst e)->Cel b e (g c)->zu H b->Q (.ref d) b
def zbN:zD ["board","cell"] ["board","cell"] (ze qT):=bz
def Z1 {f1 f2:Addr}{J L:XM}(T:Txt mg)(D:zj K mg "closed_around" qT ["board","cell"] f fd)(zZ:zj K mg "around" yV ["board","cell"] f1 J)(zq:zj K mg "sign_at" qH ["board","cell"] f2 L) :
  qz P w K mg base CX0 2 f fd ["board","cell"] zsd:=by
 refine D.F.ok zbN (λvs H Q E h=>?_) (λac A aa s H vs Q E hr h=>?_)
 .revert h;refine eB λp l ca u=>fk λn c=>eW λz0 _=>?_;subst z0;rfl
 .revert h;refine eB λp l ca u=>eO λn c z0 b R M=>eF λci cj q=>?_;subst z0;refine⟨_,(zg (zK (qJ (N:=["place","board"]) (src:=[none,some 0]) (zV.free (O:=(ze qT).names) (XN:=["board","cell"]) rfl rfl ⟨_,rfl⟩ rfl rfl (by decide+kernel) (by decide+kernel) (by decide+kernel) rfl (by decide+kernel)) rfl (zR (pc0 (ZZ T zZ) hr zZ (za (pvS 0) (za (pvS 1) zb)))) (λ_ _ _ _ _=>(zv (i:=0) (by show W6 (["place","board"]:AE);decide+kernel) rfl (XI rfl))) (λ_ _ _ _ _=>(qN (zG ZF (pc0 (JZ zq) hr zq (za (pvS 1) (za (pvS 0) zb))) (qG (v:=.str "?") (by rfl) T.Zz.choose_spec (by exact⟨_,rfl⟩)) (zU _)))) (λ_ _ _ _ _=>(pvS 0))))),?_⟩;(try dsimp only[cxK,cxP,cxW]);refine⟨_,rfl,_,rfl,p,l,ca,u,n,c.1,c.2,rfl,b,R,M,ci,cj,λd ws H1 hd j e s1=>⟨d,rfl,⟨_,SqL.of j⟩,λz hz=>?_⟩⟩;refine jg (K:=K) (a:=d) (xs:=ws) (λa=>a≠z) ((zM u c).map λx=>if decide (Cells.sgn (codes u) x=63)=true then some (zp x) else none) (fun σ=>∃u0,σ=[u0,some (.ref p)]) hz (λ_ h=>h) ⟨_,rfl⟩ (by rw[X9];exact e.length.symm) (by rw[e.length];exact X0 (xU R c) (by decide)) (SqL.of j) ?_ ?_
  .rintro k x o σ H2 hx ho B _ ⟨u0,rfl⟩ Y Z ab no;obtain⟨y,hy,r1⟩:=Cel.get e hx;have g:=xu hy ho;obtain⟨t,I,ht,hj,_,es⟩:=ql (XQ.mp (X7 hy)).1;obtain⟨ya,rfl,r⟩:=r1;refine⟨_,rfl,_,rfl,p,l,ya,u,n,y.1,y.2,t,I,rfl,(b.mono s1).mono B,B _ _ r,ht,hj,R.tlen ht,rfl,_,rfl,?_⟩;have ed:decide (V.str ⟨#[I]⟩=V.str "?")=decide (I=63):=by
    rw[zdu];simp only[zbM]
   rw[ed];rw[es]at g;by_cases G:I=63
   .rw[br G];rw[bw (br G)]at g;exact zbs ⟨_,rfl,ab _ _ _ _ g ⟨_,rfl⟩ (zu.refl _) (Ji.rdn ⟨ya,rfl,B _ _ r⟩)⟩
   .rw[bf G];rw[bq (by rw[bf G];exact XS)]at g;exact QW (no _ _ g ⟨_,rfl⟩ (zu.refl _))
  .rintro ys H2 B U m;rw[je]at m;exact q z ys H2 (s1.free hz) U (zH.cel m) (s1.trans B)
def zg1 (cs:AD):Wd (cs.map zp)=true:=by
 induction cs with
 | nil=>rfl
 | cons c r a =>
  show (Wp (zp c)&&Wd (r.map zp))=true;rw[a];rfl
def zqC (cs:AD):V6 (cs.map zp)<=1:=by
 induction cs with
 | nil=>exact WZ _
 | cons c r a =>
  show max (PyData.depth (zp c)) (V6 (r.map zp))<=1;have:PyData.depth (zp c)=1:=rfl;lia
def zfN (cs a:AD):zfq (.list (cs.map zp)) (.list (a.map zp)):=⟨zg1 cs,zg1 a,by
 show V6 (cs.map zp)+1<=64;have:=zqC cs;lia⟩
def x9 (cs:AD)(c:AA):(cs.map zp).any (λz=>W8 z (zp c))=cs.any λz=>decide (z=c):=by
 rw[Tn];congr 1;funext z;exact zeV z c
def eq_nil (cs:AD):W8 (.list (cs.map zp)) (.list [])=cs.isEmpty:=by
 cases cs<;>rfl
def zml:zD ["board","told"] ["board"] (ze zgV):=bz
def zmm {f1 f2 f3 f4 f5:Addr}{al am an ao ap:XM}(T:Txt mg)(D:zj K mg "far" zgV ["board"] f fd)(zZ:zj K mg "around" yV ["board","cell"] f1 al)(zq:zj K mg "sign_at" qH ["board","cell"] f2 am)
  (zw:zj K mg "cells_of" qv ["board"] f3 an) (qY:zj K mg "closed" ZT ["board"] f4 ao) (zL:zj K mg "open_cells" jb ["board"] f5 ap):qz P w K mg base CX0 3 f fd ["board"] (zpl yq):=by
 refine D.F.ok zml (λvs H Q E h=>?_) (λa3 A az s H vs Q E hr h=>?_)
 .obtain⟨a,l,g,n,rfl,_⟩:=h;rfl
 .revert h;refine fj λa l g n z0 b R q=>?_;subst z0;refine⟨_,(zf (zx (i:=1) zml.nd rfl (UH rfl) (qJ (N:=["cell","board"]) (src:=[none,some 0]) (zV.free (O:=(ze zgV).names) (XN:=["board","told"]) rfl rfl ⟨_,rfl⟩ rfl rfl (by decide+kernel) (by decide+kernel) (by decide+kernel) rfl (by decide+kernel)) rfl (zR (pc0 (xT T zL zw zq) hr zL (za (pvS 0) zb))) (λ_ _ _ _ _=>(zv (i:=0) (by show W6 (["cell","board"]:AE);decide+kernel) rfl (XI rfl))) (λ_ _ _ _ _=>qV) (λ_ _ _ _ _=>(pc0 (ZZ T zZ) hr zZ (za (pvS 1) (za (pvS 0) zb)))))) (zg (zK (zlt (N:=["cell","told"]) (src:=[none,some 1]) (Zf.byRfl (y:="cell") rfl (λ_ _=>rfl) (λ_=>rfl) (by decide+kernel) (by decide+kernel) (by rfl) rfl (by rfl)) rfl (zR (pc0 (ZX T qY zw zq) hr qY (za (pvS 0) zb))) (λ_ _ _ _ _=>(zv (i:=0) (by show W6 (["cell","told"]:AE);decide+kernel) rfl (UH rfl))) (λ_ _ _ _ _=>(qN (zai (zbt (K:=K) (by rfl) (zB (zeA (K:=K) (by rfl) (by rfl)) (by rfl) T.zmg Sf (za (qJ (N:=["near","cell"]) (src:=[none,some 0]) (zV.byRfl rfl (by decide+kernel) (by decide+kernel) (by rfl) rfl (by rfl)) (by rfl) (zgu (K:=K) (by rfl) (pvS 1)) (λ_ _ _ _ _=>(zv (i:=0) (by show W6 (["near","cell"]:AE);decide+kernel) rfl (XI rfl))) (λ_ _ _ _ _=>qV) (λ_ _ _ _ _=>(zaC (jF (K:=K) (by rfl) hr.units) (pvS 1) (pvS 0) (by rfl)))) zb)) (λ_=>rfl))))) (λ_ _ _ _ _=>(pvS 0)))))),?_⟩;(try dsimp only[cxK,cxP,cxW]);refine⟨_,rfl,a,l,g,n,rfl,b,R,λd ws H1 hd aa B s1=>⟨d,rfl,⟨_,SqL.of aa⟩,λz hz=>?_⟩⟩;have b1:=b.mono s1;refine jg (K:=K) (a:=d) (xs:=ws) (λa=>a≠z) ((zY g).map λo=>some (.list ((zM g o).map zp))) (fun u=>∃J,u=[J,some (.ref a)]) hz (λ_ h=>h) ⟨_,rfl⟩ (by rw[X9];exact B.length.symm) (by rw[B.length];exact X0 (ji R) (by decide)) (SqL.of aa) ?_ ?_
  .rintro k x o u H2 hx ho s2 ay ⟨J,rfl⟩ Y Z M no;obtain⟨y,hy,r1⟩:=Cel.get B hx;have U:=xu hy ho;obtain⟨t,sg,ht,hj,_,es⟩:=ql (X7 hy);obtain⟨L,rfl,j⟩:=r1;obtain⟨l1,l2⟩:=J0 R ht hj;refine xO ⟨_,rfl,_,rfl,a,l,L,g,n,y.1,y.2,rfl,b1.mono s2,R,s2 _ _ j,l1,l2,λd2 a5 H3 ar ab aq s3=>?_⟩;refine M _ _ _ _ U ⟨_,rfl⟩ s3 (.lst (λe=>ay (e ▸ ar)) ab (Cel.rdn aq))
  .rintro ys H2 s2 aw I;rw[Z0]at I;have b2:=b1.mono s2;refine⟨_,rfl,a,l,g,n,rfl,b2,R,λd3 a1 H3 ab ac G s3=>⟨d3,rfl,⟨_,SqL.of ac⟩,λz3 ah=>?_⟩⟩;have ai:=s3 _ _ aw;have av:=I.keep s3;refine jg (K:=K) (a:=d3) (xs:=a1) (λa=>a≠z3) ((qk g).map λc=>if (!((zY g).map λo=>(zM g o).any λz=>decide (z=c)).any id)=true then some (zp c) else none) (fun u=>∃J,u=[J,some (.ref z)]) ah (λ_ h=>h) ⟨_,rfl⟩ (by rw[X9];exact G.length.symm) (by rw[G.length];exact X0 (ji R) (by decide)) (SqL.of ac) ?_ ?_
   .rintro k x o u H4 hx ho s4 _ ⟨J,rfl⟩ Y Z M no;obtain⟨y,hy,r1⟩:=Cel.get G hx;have U:=xu hy ho;have r2:Ji H4 x y:=by
     obtain⟨L,e,j⟩:=r1;exact⟨L,e,s4 _ _ j⟩
    refine⟨_,rfl,z,rfl,⟨_,SqL.of (s4 _ _ ai)⟩,λz5 ax=>?_⟩;have ag:ys.length=(zY g).length:=by rw[I.length,X9]
    refine jg (K:=K) (a:=z) (xs:=ys) (λa=>a≠z5) ((zY g).map λo=>some (.bool ((zM g o).any λz=>decide (z=y)))) (fun u=>∃J,u=[J,some x]) ax (λ_ h=>h) ⟨_,rfl⟩ (by rw[X9];exact ag.symm) (by rw[ag];exact X0 (ji R) (by decide)) (SqL.of (s4 _ _ ai)) ?_ ?_
    .rintro m v o2 u H5 hv au s5 _ ⟨u1,rfl⟩ Y2 Z2 aj a4;obtain⟨dv,p,rv⟩:=av.get hv;rw[Xo]at p;cases eoc:(zY g)[m]? with
     | none=>rw[eoc]at p;cases p
     | some oc =>
      rw[eoc]at p;cases p;have ak:=xu eoc au;have r3:Ji H5 x y:=by
       obtain⟨L,e,j⟩:=r2;exact⟨L,e,s5 _ _ j⟩
      refine xO ⟨_,rfl,_,rfl,zp y,(zM g oc).map zp,r3.rdv,(((rv.keep s4).keep s5).rdv),rfl,zg1 _,(by show 1<=60;decide),?_⟩;have ei:(if false=true then !((zM g oc).map zp).any (λz=>W8 z (zp y)) else ((zM g oc).map zp).any λz=>W8 z (zp y))=(zM g oc).any λz=>decide (z=y):=x9 _ _;rw[ei];exact aj _ _ _ _ ak ⟨_,rfl⟩ (zu.refl _) (.bl _)
    .rintro a6 H5 s5 r af;rw[Z0,show ((zY g).map λo=>UC ((zM g o).any λz=>decide (z=y)))=((zY g).map λo=>(zM g o).any λz=>decide (z=y)).map UC by rw[Ws];rfl]at af;rw[zH.bools af]at r;refine⟨z5,_,rfl,SqL.of r,_,rfl,?_⟩;by_cases hp:(!((zY g).map λo=>(zM g o).any λz=>decide (z=y)).any id)=true
     .rw[bw hp]at U;refine jX hp ⟨_,rfl,M _ _ _ _ U ⟨_,rfl⟩ s5 (Ji.rdn ?_)⟩;obtain⟨L,e,j⟩:=r2;exact⟨L,e,s5 _ _ j⟩
     .rw[bq hp]at U;exact jA (by simpa using hp) (no _ _ U ⟨_,rfl⟩ s5)
   .rintro a2 H4 s4 r ae;rw[je]at ae;exact q z3 a2 H4 (s1.free (s2.free (s3.free ah))) r (zH.cel ae) (((s1.trans s2).trans s3).trans s4)
def Q8:zD ["board","bare"] ["board"] (ze yp):=bz
def Q9 {f1 f2 f3 f4 f5 f6:Addr}{ab ac ae af ag ah:XM}(T:Txt mg)(D:zj K mg "bare_wrong" yp ["board"] f fd)(zZ:zj K mg "around" yV ["board","cell"] f1 ab)(zq:zj K mg "sign_at" qH ["board","cell"] f2 ac)
  (zw:zj K mg "cells_of" qv ["board"] f3 ae) (qd:zj K mg "closed_around" qT ["board","cell"] f4 af) (zL:zj K mg "open_cells" jb ["board"] f5 ag) (jf:zj K mg "number_at" x6 ["board","cell"] f6 ah):qz P w K mg base CX0 3 f fd ["board"] (zpl jV):=by
 refine D.F.ok Q8 (λvs H Q E h=>?_) (λan A al s H vs Q E hr h=>?_)
 .obtain⟨a,l,c,n,rfl,_⟩:=h;rfl
 .revert h;refine fj λa l c n z0 b R q=>?_;subst z0;refine⟨_,(zf (Ze (i:=1) Q8.nd rfl rfl (N:=["cell","board"]) (src:=[none,some 0]) (zV.free (O:=(ze yp).names) (XN:=["board","bare"]) rfl rfl ⟨_,rfl⟩ rfl rfl (by decide+kernel) (by decide+kernel) (by decide+kernel) rfl (by decide+kernel)) rfl (zR (pc0 (xT T zL zw zq) hr zL (za (pvS 0) zb))) (λ_ _ _ _ _=>(zv (i:=0) (by show W6 (["cell","board"]:AE);decide+kernel) rfl (XI rfl))) (λ_ _ _ _ _=>(qN (zG (Y9 (K:=K) (by rfl) hr.units) (pc0 (Z1 T qd zZ zq) hr qd (za (pvS 1) (za (pvS 0) zb))) (@qo _ _ _ _ zb) (zU _)))) (λ_ _ _ _ _=>(pvS 0))) (zg (zK (qJ (N:=["cell","board"]) (src:=[none,some 0]) (zV.free (O:=(ze yp).names) (XN:=["board","bare"]) rfl rfl ⟨_,rfl⟩ rfl rfl (by decide+kernel) (by decide+kernel) (by decide+kernel) rfl (by decide+kernel)) rfl (zR (pvS 1)) (λ_ _ _ _ _=>(zv (i:=0) (by show W6 (["cell","board"]:AE);decide+kernel) rfl (XI rfl))) (λ_ _ _ _ _=>(qN (zG zcL (pc0 (za2 T jf zq) hr jf (za (pvS 1) (za (pvS 0) zb))) zh (zU _)))) (λ_ _ _ _ _=>(pvS 0)))))),?_⟩;(try dsimp only[cxK,cxP,cxW]);refine⟨_,rfl,a,l,c,n,rfl,b,R,λd ws H1 hd G u s1=>⟨d,rfl,⟨_,SqL.of G⟩,λz hz=>?_⟩⟩;have b1:=b.mono s1;refine jg (K:=K) (a:=d) (xs:=ws) (λa=>a≠z) ((zY c).map λo=>if (clA c o).isEmpty=true then some (zp o) else none) (fun σ=>∃u0,σ=[u0,some (.ref a)]) hz (λ_ h=>h) ⟨_,rfl⟩ (by rw[X9];exact u.length.symm) (by rw[u.length];exact X0 (ji R) (by decide)) (SqL.of G) ?_ ?_
  .rintro k x o σ H2 hx ho v ap ⟨u0,rfl⟩ Y Z B no;obtain⟨y,M,r1⟩:=Cel.get u hx;have p:=xu M ho;obtain⟨t,sg,L,hj,_,es⟩:=ql (X7 M);obtain⟨ya,rfl,j⟩:=r1;obtain⟨l1,l2⟩:=J0 R L hj;refine⟨_,rfl,_,rfl,a,l,ya,c,n,y,rfl,b1.mono v,R,v _ _ j,l1,l2,λd2 aq H3 ao ai g s3=>⟨ZP,λe he=>?_⟩⟩;have m:=zd (o:=.lst []) he;refine⟨.list ((clA c y).map zp),.list [],.lst (SqL.of (m _ _ ai)) (zH.rdv (N:=λ_=>True) (Cel.rdn (Cel.mono m g))),.lst (SqL.of zc) .nil,zfN _ [],_,rfl,?_⟩;have ee:(if false=true then !PyData.eqv (.list ((clA c y).map zp)) (.list []) else W8 (.list ((clA c y).map zp)) (.list []))=(clA c y).isEmpty:=eq_nil _;rw[ee];by_cases r:(clA c y).isEmpty=true
   .rw[bw r]at p;exact jX r ⟨_,rfl,B _ _ _ _ p ⟨_,rfl⟩ (s3.trans m) (Ji.rdn ⟨ya,rfl,m _ _ (s3 _ _ (v _ _ j))⟩)⟩
   .rw[bq r]at p;exact jA (by simpa using r) (no _ _ p ⟨_,rfl⟩ (s3.trans m))
  .rintro ys H2 v U I;rw[je]at I;have g:=zH.cel I;have b2:=b1.mono v;refine⟨_,rfl,z,rfl,⟨_,SqL.of U⟩,λz3 aa=>?_⟩;refine jg (K:=K) (a:=z) (xs:=ys) (λa=>a≠z3) (((zY c).filter λo=>(clA c o).isEmpty).map λo=>if (!decide (Cells.sgn (codes c) o=48))=true then some (zp o) else none) (fun σ=>∃u0,σ=[u0,some (.ref a)]) aa (λ_ h=>h) ⟨_,rfl⟩ (by rw[X9];exact g.length.symm) (by rw[g.length];exact X0 (WW _ _) (X0 (ji R) (by decide))) (SqL.of U) ?_ ?_
   .rintro k x o σ H4 hx ho m _ ⟨u0,rfl⟩ Y Z B no;obtain⟨y,M,r1⟩:=Cel.get g hx;have p:=xu M ho;obtain⟨t,sg,L,hj,aj,es⟩:=ql (XQ.mp (X7 M)).1;obtain⟨ya,rfl,j⟩:=r1;obtain⟨k1,k2⟩:=zeW (zjt R L hj) aj;refine⟨_,rfl,_,rfl,a,l,ya,c,n,y.1,y.2,t,sg,rfl,b2.mono m,m _ _ j,L,hj,R.tlen L,k1,k2,rfl,_,rfl,?_⟩;have ed:(!decide (V.int ((sg:Int)-48)=V.int 0))=!decide (Cells.sgn (codes c) y=48):=by
     rw[es,zfj];congr 1;by_cases h:sg=48
     .rw[br h,h];rfl
     .rw[bf h];simp only[beq_eq_false_iff_ne,ne_eq];lia
    rw[ed];by_cases r:(!decide (Cells.sgn (codes c) y=48))=true
    .rw[bw r]at p;exact jX r ⟨_,rfl,B _ _ _ _ p ⟨_,rfl⟩ (zu.refl _) (Ji.rdn ⟨ya,rfl,m _ _ j⟩)⟩
    .rw[bq r]at p;exact jA (by simpa using r) (no _ _ p ⟨_,rfl⟩ (zu.refl _))
   .rintro am H4 m ak J;rw[je]at J;exact q z3 am H4 (s1.free (v.free aa)) ak (zH.cel J) ((s1.trans v).trans m)
def zck {K:X5}{H:Hp}{vs:AF}{cs:AD}(a:Cel H vs cs):Je K H vs (cs.map zp):=by
 induction a with
 | nil=>exact .nil
 | cons h _ b =>
  exact .cons (Ji.rdv h) b
def zbO (cs:AD):Wd (cs.map zp)=true:=by
 induction cs with
 | nil=>rfl
 | cons c r a =>
  show (Wp (zp c)&&Wd (r.map zp))=true;rw[a];rfl
def zg2 (cs:AD):V6 (cs.map zp)<=1:=by
 induction cs with
 | nil=>exact WZ _
 | cons c r a =>
  show max (PyData.depth (zp c)) (V6 (r.map zp))<=1;have:PyData.depth (zp c)=1:=rfl;lia
def zin (cs a:AD):zfq (.list (cs.map zp)) (.list (a.map zp)):=⟨zbO cs,zbO a,by
 show V6 (cs.map zp)+1<=64;have:=zg2 cs;lia⟩
def toI (c:AA):Int×Int:=(((c.1:Nat):Int),((c.2:Nat):Int))
def ofI (p:Int×Int):AA:=(p.1.toNat,p.2.toNat)
def zju (c:AA):ofI (toI c)=c:=rfl
def zjv {c d:AA}(h:toI c=toI d):c=d:=by rw[<- zju c,h,zju]
def zoo {c d:AA}:lt2 (toI c) (toI d)=true↔Cells.lex c d:=by
 obtain⟨a,b⟩:=c;obtain⟨x,y⟩:=d;unfold lt2 Cells.lex;show (if ((a:Nat):Int)=((x:Nat):Int) then decide (((b:Nat):Int)<((y:Nat):Int)) else decide (((a:Nat):Int)<((x:Nat):Int)))=true↔a<x\/(a=x/\b<y);by_cases e:a=x
 .rw[bw (by lia),bu];lia
 .rw[bq (by lia),bu];lia
def Cel.tup2 {H:Hp}{vs:AF}{cs:AD}(b:Cel H vs cs):xY H vs (cs.map toI):=by
 induction b with
 | nil=>exact .nil
 | cons q _ c =>
  obtain⟨a,e,h⟩:=q;exact .cons ⟨a,e,h⟩ c
theorem Ja {H:Hp}:∀{cs:AD} {vs:AF},xY H vs (cs.map toI)->Cel H vs cs
 | [],_,.nil=>.nil
 | _::_,_,.cons ⟨a,e,h⟩ t=>.cons ⟨a,e,h⟩ (Ja t)
def zop {ps:List (Int×Int)}{cs:AD}(h:ps.Perm (cs.map toI)):∃a:AD,ps=a.map toI/\a.Perm cs:=by
 refine⟨ps.map ofI,?_,?_⟩
 .rw[Ws];refine(R1 ps).symm.trans (Xc λp b=>?_);obtain⟨c,_,rfl⟩:=XA.mp (h.mem_iff.mp b);rfl
 .have:=h.map ofI;rw[Ws]at this;have e:cs.map (ofI∘toI)=cs:=(Xc λc _=>zju c).trans (R1 cs);rwa [e]at this
def zqD {cs:AD}(h:Up2 (cs.map toI)):cs.Pairwise Cells.lex:=by
 unfold Up2 at h;rw[V1]at h;exact h.imp λz=>zoo.mp z
def jS {cs:AD}(h:cs.Pairwise Cells.lex):cs.Nodup:=h.imp λ{a b} z e=>by
 subst e;unfold Cells.lex at z;lia
def zmn {cs:AD}(h:cs.Nodup):(cs.map toI).Nodup:=by
 unfold W6 at h ⊢;rw[V1];exact h.imp λz e=>z (zjv e)
def zkz (H:Hp)(v:V)(g:AD):Prop:=∃a b,v=V.ref a/\H a=some (.lst b)/\Cel H b g
def yC (H:Hp):AF->List AD->Prop:=WU (zkz H)
theorem zkz.mono {H b:Hp}{v:V}{g:AD}(s:zu H b)(h:zkz H v g):zkz b v g:=by
 obtain⟨a,c,e,h1,h2⟩:=h;exact⟨a,c,e,s _ _ h1,h2.mono s⟩
theorem yC.mono {H a:Hp}(s:zu H a){vs:AF}{gs:List AD}(b:yC H vs gs):yC a vs gs:=by
 induction b with
 | nil=>exact .nil
 | cons h _ c =>
  exact .cons (h.mono s) c
theorem yC.get {H:Hp}:∀{vs:AF} {gs:List AD} {i:Nat} {v:V},yC H vs gs->vs[i]?=some v->∃g,gs[i]?=some g/\zkz H v g
 | _,_,_,_,.nil,e=>by simp at e
 | _,_,0,_,.cons r _,e=>by
  simp at e;subst e;exact⟨_,rfl,r⟩
 | _,_,i+1,v,.cons _ t,e=>by
  obtain⟨c,h1,h2⟩:=yC.get (i:=i) (v:=v) t (by simpa using e);exact⟨c,by simpa using h1,h2⟩
theorem yC.length {H:Hp}{vs:AF}{gs:List AD}(h:yC H vs gs):vs.length=gs.length:=Paired.length h
theorem yC.snoc {H:Hp}{vs:AF}{gs:List AD}{v:V}{g:AD}(h:yC H vs gs)(x:zkz H v g):yC H (vs++[v]) (gs++[g]):=Paired.snoc h x
def lD (g:AD):Wf:=.list (g.map zp)
theorem zeX {p q:Nat->Bool}(h:∀c,p c=true->q c=false)(i:Nat):∀(j:Nat) (t:List Nat),(Cells.zW p i j t).length+(Cells.zW q i j t).length<=t.length
 | _,[]=>XX _
 | j,c::r=>by
  have b:=zeX h i (j+1) r;rw[Cells.zW,Cells.zW,XR,XR,Xk];by_cases a:p c=true
  .rw[bw a,bq (by rw[h c a];exact XS)];simp only[Xk,TW];lia
  .rw[bq a];split<;>simp only[Xk,TW]<;>lia
theorem zeY {p q:Nat->Bool}(h:∀c,p c=true->q c=false):∀(i:Nat) (rs:List (List Nat)),(∀t∈rs,t.length<=8)->(Cells.zI p i rs).length+(Cells.zI q i rs).length<=8*rs.length
 | _,[],_=>XX _
 | i,t::r,a=>by
  have d:=zeY h (i+1) r λu b=>a u (XW _ b);have h1:=zeX h i 0 t;have h2:=a t XV;rw[Cells.zI,Cells.zI,XR,XR,Xk];lia
def zeZ {rs:AE}(R:Rows bd.cps.toList rs):(zY rs).length+(qk rs).length<=64:=by
 have:=zeY (p:=Q7) (q:=Zo) (λc a=>by
  unfold Q7 at a;rw[VC,Wx]at a;exact a.2) 0 (codes rs) R.short
 have h2:=R.hi;rw[qR]at this;unfold zY qk;lia
theorem za3 {p:Nat->Bool}{i:Nat}:∀{j m:Nat} {t:List Nat} {c:Nat},t[m]?=some c->p c=true->(i,j+m)∈Cells.zW p i j t
 | j,m,[],c,h,_=>by simp at h
 | j,0,d::r,c,h,a=>by
  have e:d=c:=by simpa using h
  subst e;rw[Cells.zW,bw a];exact W2 _ XV
 | j,m+1,d::r,c,h,a=>by
  rw[Cells.zW];refine XD _ ?_;have:=za3 (i:=i) (j:=j+1) (m:=m) (t:=r) (c:=c) (by simpa using h) a;rwa [show j+1+m=j+(m+1) by lia]at this
theorem JE {p:Nat->Bool}:∀{i m:Nat} {rs:List (List Nat)} {t:List Nat} {j c:Nat},rs[m]?=some t->t[j]?=some c->p c=true->(i+m,j)∈Cells.zI p i rs
 | i,m,[],t,j,c,h,_,_=>by simp at h
 | i,0,d::r,t,j,c,h,a,b=>by
  have e:d=t:=by simpa using h
  subst e;rw[Cells.zI];refine W2 _ ?_;have:=za3 (i:=i) (j:=0) a b;rwa [show 0+j=j by lia]at this
 | i,m+1,d::r,t,j,c,h,a,b=>by
  rw[Cells.zI];refine XD _ ?_;have:=JE (i:=i+1) (m:=m) (rs:=r) (t:=t) (j:=j) (c:=c) (by simpa using h) a b;rwa [show i+1+m=i+(m+1) by lia]at this
def ze0 (rs:AE)(c:AA):(clA rs c).Nodup:=((jS (Cells.yj _ 0 (codes rs))).sublist Wi).sublist Wi
def Z3 {rs:AE}{c x:AA}(h:x∈clA rs c):x∈qk rs:=by
 unfold clA at h;obtain⟨h1,h2⟩:=XQ.mp h;obtain⟨t,k,d,b,_,e⟩:=ql (XQ.mp h1).1;have a:k=63:=by
  have:=bh h2;lia
 subst a;have:=JE (p:=Zo) (i:=0) (qQ d) b (by decide);rwa [VD]at this
def heads (gs:List AD):List (Int×Int):=gs.map λg=>toI (g.headD (0,0))
def head_mem {g:AD}(h:g ≠ []):g.headD (0,0)∈g:=by
 cases g with
 | nil=>exact absurd rfl h
 | cons a r=>exact XV
theorem zb6:∀{gs:List AD},(∀g∈gs,g ≠ [])->gs.flatten.Nodup->(heads gs).Nodup
 | [],_,_=>Ui
 | g::r,h,d=>by
  rw[Wy,Wb]at d;obtain⟨_,h2,i⟩:=d;unfold heads;rw[Xh,Vv];refine⟨λj=>?_,zb6 (λx k=>h x (XW _ k)) h2⟩;obtain⟨b,a,e⟩:=XA.mp j;have f:=zjv e;have l:=head_mem (h g XV);have c:=head_mem (h b (XW _ a));rw[f]at c;exact i _ l _ (Ww.mpr ⟨b,a,c⟩) rfl
def JF (rs:AE)(part:AD):AD:=(zY rs).filter λo=>((zM rs o).map λz=>part.any λx=>decide (x=z)).any id
def zqE:Sp:=λh H Q _=>∃(a l e:Addr) (c:AE) (n:Int) (f:AF) (part:AD),h=[.ref a,.ref e]/\qh H a l c n/\Rows bd.cps.toList c/\H e=some (.lst f)/\Cel H f part /\
 ∀(d:Addr) (g:AF) (b:Hp),H d=none->b d=some (.lst g)->Cel b g (JF c part)->zu H b->Q (.ref d) b
def zef:zD ["board","part"] ["board","part"] (ze yW):=bz
def zeg {f1 f2 f3 f5:Addr}{ab ac ae af:XM}(T:Txt mg)(D:zj K mg "numbers_of" yW ["board","part"] f fd)(zZ:zj K mg "around" yV ["board","cell"] f1 ab)(zq:zj K mg "sign_at" qH ["board","cell"] f2 ac)
  (zw:zj K mg "cells_of" qv ["board"] f3 ae) (zL:zj K mg "open_cells" jb ["board"] f5 af):qz P w K mg base CX0 3 f fd ["board","part"] zqE:=by
 refine D.F.ok zef (λvs H Q E h=>?_) (λao A al s H vs Q E hr h=>?_)
 .revert h;refine eB λa l pa e=>eX λn ps part z0 _=>?_;subst z0;rfl
 .revert h;refine eB λa l pa e=>eV λn ps part=>eK λz0 b R ah ai q=>?_;subst z0;refine⟨_,(zg (zK (qJ (N:=["cell","part","board"]) (src:=[none,some 1,some 0]) (zV.free (O:=(ze yW).names) (XN:=["board","part"]) rfl rfl ⟨_,rfl⟩ rfl rfl (by decide+kernel) (by decide+kernel) (by decide+kernel) rfl (by decide+kernel)) rfl (zR (pc0 (xT T zL zw zq) hr zL (za (pvS 0) zb))) (λ_ _ _ _ _=>(zv (i:=0) (by show W6 (["cell","part","board"]:AE);decide+kernel) rfl (XI rfl))) (λ_ _ _ _ _=>(qN (zbt (K:=K) (by rfl) (zB (zeA (K:=K) (by rfl) (by rfl)) (by rfl) T.zmg Sf (za (qJ (N:=["place","part"]) (src:=[none,some 1]) (zV.byRfl rfl (by decide+kernel) (by decide+kernel) (by rfl) rfl (by rfl)) (by rfl) (zgu (K:=K) (by rfl) (pc0 (ZZ T zZ) hr zZ (za (pvS 2) (za (pvS 0) zb)))) (λ_ _ _ _ _=>(zv (i:=0) (by show W6 (["place","part"]:AE);decide+kernel) rfl (XI rfl))) (λ_ _ _ _ _=>qV) (λ_ _ _ _ _=>(zaC (jF (K:=K) (by rfl) hr.units) (pvS 0) (pvS 1) (by rfl)))) zb)) (λ_=>rfl)))) (λ_ _ _ _ _=>(pvS 0))))),?_⟩;(try dsimp only[cxK,cxP,cxW]);refine⟨_,rfl,a,l,e,n,rfl,b,R,λd ws H1 hd u g s1=>⟨d,rfl,⟨_,SqL.of u⟩,λz hz=>?_⟩⟩;have b1:=b.mono s1;refine jg (K:=K) (a:=d) (xs:=ws) (λa=>a≠z) ((zY e).map λo=>if (((zM e o).map λz=>part.any λx=>decide (x=z)).any id)=true then some (zp o) else none) (fun U=>∃u0,U=[u0,some (.ref pa),some (.ref a)]) hz (λ_ h=>h) ⟨_,rfl⟩ (by rw[X9];exact g.length.symm) (by rw[g.length];exact X0 (ji R) (by decide)) (SqL.of u) ?_ ?_
  .rintro k x o U H2 hx ho p aq ⟨u0,rfl⟩ Y Z an no;obtain⟨y,hy,r1⟩:=Cel.get g hx;have eo:=xu hy ho;obtain⟨t,sg,ht,hj,_,es⟩:=ql (X7 hy);obtain⟨ya,rfl,J⟩:=r1;obtain⟨l1,l2⟩:=J0 R ht hj;refine⟨_,rfl,_,rfl,a,l,ya,e,n,y.1,y.2,rfl,b1.mono p,R,p _ _ J,l1,l2,λd2 am H3 ap B j s3=>⟨d2,rfl,⟨_,SqL.of B⟩,λz5 ak=>?_⟩⟩;refine jg (K:=K) (a:=d2) (xs:=am) (λa=>a≠z5) ((zM e y).map λc=>some (.bool (part.any λx=>decide (x=c)))) (fun U=>∃u0,U=[u0,some (.ref pa)]) ak (λ_ h=>h) ⟨_,rfl⟩ (by rw[X9];exact j.length.symm) (by rw[j.length];exact X0 (xU R y) (by decide)) (SqL.of B) ?_ ?_
   .rintro m v o2 U H5 hv ag r _ ⟨u1,rfl⟩ Y2 Z2 M ar;obtain⟨c,hc,rc⟩:=Cel.get (Cel.mono r j) hv;have aa:=xu hc ag;have sA:=((s1.trans p).trans s3).trans r;refine xO ⟨_,rfl,_,rfl,zp c,part.map zp,rc.rdv,.lst (SqL.of (sA _ _ ah)) (zH.rdv (N:=λ_=>True) (Cel.rdn (Cel.mono sA ai))),rfl,zg1 _,(by show 1<=60;decide),?_⟩;have ei:(if false=true then !(part.map zp).any (λz=>W8 z (zp c)) else (part.map zp).any λz=>W8 z (zp c))=part.any λz=>decide (z=c):=x9 _ _;rw[ei];exact M _ _ _ _ aa ⟨_,rfl⟩ (zu.refl _) (.bl _)
   .rintro au H5 r L I;rw[Z0,show ((zM e y).map λc=>UC (part.any λx=>decide (x=c)))=((zM e y).map λc=>part.any λx=>decide (x=c)).map UC by rw[Ws];rfl]at I;rw[zH.bools I]at L;refine⟨z5,_,rfl,SqL.of L,_,rfl,?_⟩;by_cases hp:(((zM e y).map λz=>part.any λx=>decide (x=z)).any id)=true
    .rw[bw hp]at eo;exact jX hp ⟨_,rfl,an _ _ _ _ eo ⟨_,rfl⟩ (s3.trans r) (Ji.rdn ⟨ya,rfl,r _ _ (s3 _ _ (p _ _ J))⟩)⟩
    .rw[bq hp]at eo;exact jA (by simpa using hp) (no _ _ eo ⟨_,rfl⟩ (s3.trans r))
  .rintro ys H2 p aj G;rw[je]at G;exact q z ys H2 (s1.free hz) aj (zH.cel G) (s1.trans p)
def zoq {a b:AD}(p:a.Perm b)(c:a.Pairwise Cells.lex)(d:b.Pairwise Cells.lex):a=b:=p.eq_of_pairwise (λx y _ _ h1 h2=>by
 unfold Cells.lex at h1 h2;lia) c d
def zdv {i:AA->AD}{done:AD}{A B:List AD}(k:Parts.Good i done A)(g:Parts.Good i done B){a b:AD}(l:a∈A)(m:b∈B)(h:∃x∈a,x∈b):∀x∈a,x∈b :=
 k.con a l (· ∈ b) (λo n ⟨x,j,f⟩=>by
  obtain⟨p,d,c⟩:=g.cov o n (UL j);have e:=Parts.zbF g.nd d m (c x j) f;subst e;exact c) h
def zmo {l:AA->AD}{done:AD}{A B:List AD}(a:Parts.Good l done A)(d:Parts.Good l done B):∀g∈A,g∈B:=λg c=>by
 obtain⟨x,k⟩:=UF _ (a.ne g c);obtain⟨o,m,j⟩:=a.from_ x (Ww.mpr ⟨g,c,k⟩);obtain⟨b,h,f⟩:=d.cov o m (UL j);have i:=f x j;have e:g=b:=zoq ((V3 (jS (a.srt g c)) (jS (d.srt b h))).mpr λy=>⟨zdv a d c h ⟨x,k,i⟩ y,zdv d a h c ⟨x,i,k⟩ y⟩) (a.srt g c) (d.srt b h);rw[e];exact h
def zio {a:AA->AD}{done:AD}{gs:List AD}{o:AA}(G:Parts.Good a done gs)(h:a o ≠ [])(c:(a o).Nodup){w:AD}(d:w.Pairwise Cells.lex)(j:∀x,x∈w↔x∈a o\/∃g∈gs,Parts.meets (a o) g=true/\x∈g):Parts.Good a (done++[o]) ((gs.filter λg=>!Parts.meets (a o) g)++[w]):=by
 refine G.step h c ?_ ?_ d
 .refine U2 λg i=>?_;congr 1;rw[WJ,WE];constructor
  .exact λz=>⟨g,XQ.mpr ⟨i,z⟩,br rfl⟩
  .rintro⟨m,b,e⟩;have f:m=g:=bh e;subst f;exact(XQ.mp b).2
 .refine(V3 (jS d) (Parts.Qh c λm b=>G.nd.sublist (V9 (XQ.mp b).1))).mpr λx=>?_;rw[j,Parts.zbG];constructor
  .rintro(z | ⟨g,h1,h2,h3⟩)
   .exact .inl z
   .exact .inr ⟨g,XQ.mpr ⟨h1,h2⟩,h3⟩
  .rintro(z | ⟨g,h1,h3⟩)
   .exact .inl z
   .exact .inr ⟨g,(XQ.mp h1).1,(XQ.mp h1).2,h3⟩
def zkA (cs g:AD):(cs.map λc=>g.any λz=>decide (z=c)).any id=Parts.meets cs g:=by
 rw[WJ,Parts.ZR,Tn,WE];constructor
 .rintro⟨c,h1,h2⟩;have a:(g.any λz=>decide (z=c))=true:=h2;obtain⟨z,b,d⟩:=WE.mp a;have e:z=c:=bh d;subst e;exact⟨z,b,h1⟩
 .rintro⟨x,h1,h2⟩;refine⟨x,h2,?_⟩;show (g.any λz=>decide (z=x))=true;exact WE.mpr ⟨x,h1,br rfl⟩
def Zq (p:AD->Bool):AF->List AD->AF
 | v::vs,g::gs=>if p g=true then v::Zq p vs gs else Zq p vs gs
 | _,_=>[]
theorem Z4 (p:AD->Bool):∀(vs:AF) (gs:List AD),(Zq p vs gs).Sublist vs
 | [],_=>List.nil_sublist _
 | _::_,[]=>List.nil_sublist _
 | v::vs,g::gs=>by
  rw[Zq];split
  .exact(Z4 p vs gs).cons_cons v
  .exact(Z4 p vs gs).cons v
theorem zam {H:Hp}(p:AD->Bool):∀{vs:AF} {gs:List AD},yC H vs gs->yC H (Zq p vs gs) (gs.filter p)
 | _,_,.nil=>.nil
 | _,_,.cons (a:=v) (b:=g) h t=>by
  rw[Zq,WC];by_cases c:p g=true
  .rw[bw c,bw c];exact .cons h (zam p t)
  .rw[bq c,bq c];exact zam p t
def ziq (p:AD->Bool){vs:AF}{gs:List AD}{i:Nat}{v:V}{g:AD}(h1:vs[i]?=some v)(h2:gs[i]?=some g):Zq p (vs.take (i+1)) (gs.take (i+1))=Zq p (vs.take i) (gs.take i)++if p g=true then [v] else []:=by
 induction vs generalizing gs i with
 | nil=>cases h1
 | cons w vs a =>
  cases gs with
  | nil=>cases h2
  | cons k gs =>
   cases i with
   | zero =>
    cases h1;cases h2;simp[Zq]
   | succ i =>
    rw[Uo,Uo,Uo,Uo,Zq,Zq,a h1 h2];split<;>rfl
def zfO {m:List (Int×Int)}{l:AD}(h:∀c∈m,c∈l.map toI):m=(m.map ofI).map toI:=by
 rw[Ws];refine(R1 m).symm.trans (Xc λc a=>?_);obtain⟨x,_,rfl⟩:=XA.mp (h c a);rfl
def zmp:Sp:=λl H Q _=>∃(e j:Addr) (i k:AF) (c:List AD) (a B:AD),l=[.ref e,.ref j]/\H e=some (.lst i)/\yC H i c/\H j=some (.lst k)/\Cel H k a/\a.Nodup/\c.flatten.Nodup/\(∀x∈a,x∈B)/\(∀x∈c.flatten,x∈B)/\(∀x∈B,x.1<8/\x.2<8)/\B.length<=63/\c.length<=63 /\
 (a=[]->∀b,zu H b->Q (.ref e) b) /\
 (a ≠ []->∀(d h:Addr) (f:AF) (w:AD) (b:Hp),H d=none->H h=none->b d=some (.lst (f++[.ref h]))->f.Sublist i->yC b (f++[.ref h]) ((c.filter λg=>!Parts.meets a g)++[w])->w.Pairwise Cells.lex->(∀x,x∈w↔x∈a\/∃g∈c,Parts.meets a g=true/\x∈g)->zu H b->Q (.ref d) b)
def QI:zD ["groups","cells","apart","together","group"] ["groups","cells"] (ze ZU):=bz
def zkB (T:Txt mg)(D:zj K mg "joined" ZU ["groups","cells"] f fd):qz P w K mg base CX0 1 f fd ["groups","cells"] zmp:=by
 refine D.F.ok QI (λvs H Q E h=>?_) (λaK A aI s H vs Q E hr h=>?_)
 .revert h;refine eB λga ca ws us=>eX λk d B z0 _=>?_;subst z0;rfl
 .revert h;refine eB λga ca ws us=>eL λk d B z0 ax hG M=>eH λhC aA aB cB=>eK λgB B8 al an q1 q2=>?_;subst z0;have am:d.length<=63:=X0 (Parts.yG aA cB) al;have ae:k.flatten.length<=63:=X0 (Parts.yG aB gB) al;refine⟨_,(zf (qL (zG (xo hr.units) (pvS 1) (@qo _ _ _ _ zb) (zU _)) (zg (zK (pvS 0))) qc) (@zf _ _ _ _ _ (@zx _ _ 2 _ _ _ _ QI.nd rfl (XI rfl) (@qo _ _ _ _ zb) (by rfl) (.inr rfl)) (zf (zx (i:=3) QI.nd rfl (XI rfl) (jq yO (by rfl) T.zdp US (za (pvS 1) zb))) (zf (qS W3 rfl (zR (pvS 0)) (zv (i:=4) QI.nd rfl (UH rfl)) (zg (qL (zcN (zB (zgr rfl) (by rfl) T.zmg Sf (za (qJ (N:=["cell","group"]) (src:=[none,some 4]) (zV.free (O:=(ze ZU).names) (XN:=["groups","cells","apart","together","group"]) rfl rfl ⟨_,rfl⟩ rfl rfl (by decide+kernel) (by decide+kernel) (by decide+kernel) rfl (by decide+kernel)) rfl (zR (pvS 1)) (λ_ _ _ _ _=>(zv (i:=0) (by show W6 (["cell","group"]:AE);decide+kernel) rfl (XI rfl))) (λ_ _ _ _ _=>qV) (λ_ _ _ _ _=>(zaC (jF (K:=K) (by rfl) hr.units) (pvS 0) (pvS 1) (by rfl)))) zb)) (λ_=>rfl)) (zg (yu (Y7 Wz S5 S4 zbr (pvS 3) (za (pvS 4) zb)))) (zg (yu (Y7 Wz VN VM yy (pvS 2) (za (pvS 4) zb))))))) (zg (zK (zC Y8 (pvS 2) (qo (za (zB (ST.zea hr.hd) (by rfl) T.zdq S2 (za (jq (ST.zeJ hr.units hr.hd) (by rfl) T.zpk OY (za (pvS 3) zb)) zb)) zb))))))))),?_⟩;(try dsimp only[cxK,cxP,cxW]);refine⟨_,rfl,ZP,λe he=>?_⟩;have s1:zu H (upd H e (.lst [])):=zd he;refine dI (lD d) (.list []) (.lst (SqL.of (s1 _ _ M)) (zck (hC.mono s1))) (.lst (SqL.of zc) .nil) (zfN _ []) ⟨_,rfl,?_⟩;have en:(if false=true then !PyData.eqv (lD d) (.list []) else W8 (lD d) (.list []))=d.isEmpty:=by
   show W8 _ _=_;exact eq_nil d
  rw[en];by_cases ac:d=[]
  .rw[show d.isEmpty=true by rw[ac];rfl];exact zbs ⟨_,rfl,q1 ac _ s1⟩
  rw[show d.isEmpty=false by rw[UG];exact ac];refine QW ?_;generalize upd H e (.lst [])=H1 at *
  refine⟨ZP,λap au=>?_⟩;have s2:=s1.trans (zd (o:=.lst []) au);have ar:upd H1 ap (.lst []) ap=some (.lst []):=zc;have av:=s1.free au;generalize upd H1 ap (.lst [])=H2 at *
  refine⟨_,rfl,ca,_,rfl,.inl (SqL.of (s2 _ _ M)),λtg ak=>?_⟩;have z3:=zd (o:=.lst us) ak;have s3:=s2.trans z3;have aD:=z3 _ _ ar;have aG:upd H2 tg (.lst us) tg=some (.lst us):=zc;have a4:=s2.free ak;have a7:ap≠tg:=zk ar ak;generalize upd H2 tg (.lst us)=H3 at *
  refine⟨_,rfl,ga,rfl,⟨_,SqL.of (s3 _ _ ax)⟩,?_⟩;refine yN (K:=K) (a:=ga) (xs:=ws) (λi σ H'=>∃(ut:AF) (v4:Option V),σ=[some (.ref ga),some (.ref ca),some (.ref ap),some (.ref tg),v4]/\zu H H'/\H' ap=some (.lst (Zq (λg=>!Parts.meets d g) (ws.take i) (k.take i)))/\H' tg=some (.lst ut)/\Cel H ut (d++((k.take i).filter (Parts.meets d)).flatten))
   ⟨us,_,rfl,s3,aD,aG,by simpa using hC⟩ (λi σ H' _ ⟨_,_,_,z,_⟩=>SqL.of (z _ _ ax)) ?_ ?_
  .refine λi x σ H4 hx=>eO λut v4 z0 s4 J ai n=>?_;subst z0;refine eE (λg hg=>eZ λao ug z0 af ah=>?_) (yC.get hG hx);subst z0;have gm:=X7 hg;have tk:(k.take (i+1)).filter (Parts.meets d)=(k.take i).filter (Parts.meets d)++if Parts.meets d g=true then [g] else []:=by
    rw[Xv,hg,W5];congr 1;show [g].filter _=_;rw[WC];rfl
   have pk:=ziq (λg=>!Parts.meets d g) hx hg;refine⟨_,rfl,ca,rfl,⟨_,SqL.of (s4 _ _ M)⟩,λz hz=>?_⟩;refine jg (K:=K) (a:=ca) (xs:=us) (λa=>a≠z) (d.map λc=>some (.bool (g.any λz=>decide (z=c)))) (fun σ=>∃u0,σ=[u0,some (.ref ao)]) hz (λ_ h=>h) ⟨_,rfl⟩ (by rw[X9];exact hC.length.symm) (by rw[hC.length];exact X0 am (by decide)) (SqL.of (s4 _ _ M)) ?_ ?_
   .rintro m v o σ H5 hv ho s5 _ ⟨u1,rfl⟩ Y Z aJ no;have r:=s4.trans s5;obtain⟨c,L,rc⟩:=Cel.get (hC.mono r) hv;have eo:=xu L ho;refine xO ⟨_,rfl,_,rfl,zp c,g.map zp,rc.rdv,.lst (SqL.of (r _ _ af)) (zck (ah.mono r)),rfl,zg1 _,(by show 1<=60;decide),?_⟩;have ei:(if false=true then !(g.map zp).any (λz=>W8 z (zp c)) else (g.map zp).any λz=>W8 z (zp c))=g.any λz=>decide (z=c):=x9 _ _;rw[ei];exact aJ _ _ _ _ eo ⟨_,rfl⟩ (zu.refl _) (.bl _)
   .rintro ys H5 s5 a6 a3;rw[Z0,show (d.map λc=>UC (g.any λz=>decide (z=c)))=(d.map λc=>g.any λz=>decide (z=c)).map UC by rw[Ws];rfl]at a3;rw[zH.bools a3]at a6;refine dR z rfl (SqL.of a6) ⟨_,rfl,?_⟩;rw[zkA];have r:=s4.trans s5;have u:=s5 _ _ J;have aj:=s5 _ _ ai;have aq:∀(q:AD->Bool) (j:Nat),(((k.take j).filter q).flatten).length<=63:=λq j=>by
     refine X0 (VQ ?_) ae;refine List.Sublist.trans (Parts.jk q (k.take j)) ?_;have e2:k=k.take j++k.drop j:=(WO j k).symm;conv=>rhs;rw[e2,Wo]
     exact S1 _ _
    by_cases hp:Parts.meets d g=true
    .refine jX hp ?_;refine⟨_,rfl,.inl ⟨rfl,_,SqL.of aj⟩,_,rfl,tg,ao,ut,ug,rfl,rfl,aj,r _ _ af,?_,?_⟩
     .rw[n.length,ah.length,XR];have a1:=aq (Parts.meets d) i;have a2:g.length<=63:=X0 (VQ (V9 gm)) ae;exact X0 (show _<=200 by lia) (by decide)
     .refine⟨ut++ug,_,rfl,λb o eb=>?_,?_,zc,?_⟩
      .rw[zo (zk eb a4)];exact r _ _ eb
      .rw[zo a7,pk,hp];simpa using u
      .rw[tk,bw hp,Wo,<- WY];simpa using Cel.append n ah
    .have az:=WP.mpr hp;refine jA az ?_;refine⟨_,rfl,.inl ⟨rfl,_,SqL.of u⟩,_,rfl,ap,_,_,rfl,rfl,u,?_,?_⟩
     .refine Xx (VQ ((Z4 _ _ _).trans (TM _ _))) ?_;rw[hG.length];exact Xx an (by decide)
     .refine⟨ut,_,rfl,λb o eb=>?_,?_,?_,?_⟩
      .rw[zo (zk eb av)];exact r _ _ eb
      .rw[zc,pk,az];rfl
      .rw[zo (Va a7)];exact aj
      .rw[tk,bq hp,WX];exact n
  .refine λσ H4=>eO λut v4 z0 s4 J ai n=>?_;subst z0;rw[XC,hG.length,XC]at J;rw[hG.length,XC]at n;generalize hl:d++(k.filter (Parts.meets d)).flatten=l at n;have lB:∀x∈l,x∈B:=λx hx=>by
    rw[<- hl]at hx;rcases XO.mp hx with hx | hx
    .exact cB x hx
    .exact gB x ((Parts.jk _ k).subset hx)
   refine⟨_,rfl,_,rfl,tg,ut,_,rfl,SqL.of ai,Cel.tup2 (n.mono s4),(λp hp=>?_),(λm hm hs=>?_),λds I aE hT G ag=>?_⟩
   .obtain⟨x,hx,rfl⟩:=XA.mp hp;have:=B8 x (lB x hx);unfold ST.InB toI;show (0<=((x.1:Nat):Int)/\((x.1:Nat):Int)<8)/\(0<=((x.2:Nat):Int)/\((x.2:Nat):Int)<8);lia
   .have h1:=zfO hs;have h2:(m.map ofI).Nodup:=by
     rw[h1]at hm;unfold W6 at hm ⊢;rw[V1]at hm;exact hm.imp λz e=>z (by rw[e])
    have h3:=Parts.yG (b:=B) h2 λx hx=>by
     obtain⟨c,L,rfl⟩:=XA.mp hx;obtain⟨y,hy,rfl⟩:=XA.mp (hs c L);exact lB y hy
    rw[X9]at h3;lia
   have z5:=zd (o:=ST.zc8 P w ds I) aE;have U:∀c∈I.map (·.2),c∈l.map toI:=λc L=>(ag c).mp L;have kl:I.length<=63:=by
    have h1:=zfO U;have h2:((I.map (·.2)).map ofI).Nodup:=by
     rw[h1]at G;unfold W6 at G ⊢;rw[V1]at G;exact G.imp λz e=>z (by rw[e])
    have h3:=Parts.yG (b:=B) h2 λx hx=>by
     obtain⟨c,L,rfl⟩:=XA.mp hx;obtain⟨y,hy,rfl⟩:=XA.mp (U c L);exact lB y hy
    rw[X9,X9]at h3;lia
   have aw:upd H4 ds (ST.zc8 P w ds I) ds=some (ST.zc8 P w ds I):=zc;have s5:=s4.trans z5;have u:=z5 _ _ J;have aC:∀q∈I,upd H4 ds (ST.zc8 P w ds I) q.1=some (.tup [.int q.2.1,.int q.2.2]):=λq hq=>z5 _ _ (hT q hq);refine dB ds I (dM rfl aw aC G (by lia) (λwa a8 aM a5 ht a9 aH=>?_));rw[zfO U]at a9;obtain⟨wc,rfl,aa⟩:=zop a9;have z6:=zd (o:=.lst a8) a5;refine⟨sz_1,λp1 aF=>?_⟩;have z7:=zd (o:=.lst [V.ref wa]) aF;have ab:=z6.trans z7;refine dB ap p1 ⟨_,(dX [.ref wa] rfl rfl (ab _ _ u) zc ?_ (λk2 ay=>?_))⟩
   .have a1:(Zq (λg=>!Parts.meets d g) ws k).length<=63:=X0 (VQ (Z4 _ _ _)) (by rw[hG.length];exact an);exact X0 (show _+1<=200 by lia) (by decide)
   .have z8:=zd (o:=.lst (Zq (λg=>!Parts.meets d g) ws k++[.ref wa])) ay;have s8:=s5.trans (ab.trans z8);refine q2 ac k2 wa _ wc _ ((s5.trans ab).free ay) (s5.free a5) zc (Z4 _ _ _) ?_ (zqD aH) (λx=>?_) s8
    .exact yC.snoc ((zam _ hG).mono s8) ⟨wa,a8,rfl,z8 _ _ (z7 _ _ zc),Cel.mono (ab.trans z8) (Ja ht)⟩
    .rw[aa.mem_iff,XA];have hx:(∃a,a∈I.map (·.2)/\ofI a=x)↔x∈l:=by
      constructor
      .rintro⟨c,L,rfl⟩;obtain⟨y,hy,rfl⟩:=XA.mp (U c L);exact hy
      .intro h;exact⟨toI x,(ag _).mpr (XA.mpr ⟨x,h,rfl⟩),rfl⟩
     rw[hx,<- hl,XO,Ww];constructor
     .rintro(h | ⟨g,h1,h2⟩)
      .exact .inl h
      .exact .inr ⟨g,(XQ.mp h1).1,(XQ.mp h1).2,h2⟩
     .rintro(h | ⟨g,h1,h2,h3⟩)
      .exact .inl h
      .exact .inr ⟨g,XQ.mpr ⟨h1,h2⟩,h3⟩
def zor:Sp:=λg H Q _=>∃(p l:Addr) (c:AE) (n:Int),g=[.ref p]/\qh H p l c n/\Rows bd.cps.toList c /\
 ∀(d:Addr) (e:AF) (f:List AD) (b:Hp),H d=none->b d=some (.lst e)->yC b e f->e.Nodup->(∀v∈e,∃a,v=V.ref a/\H a=none/\a≠d)->Parts.Good (clA c) (zY c) f->Up2 (heads f)->zu H b->Q (.ref d) b
def zir {rs:AE}(R:Rows bd.cps.toList rs){x:AA}(h:x∈qk rs):x.1<8/\x.2<8:=by
 obtain⟨t,k,c,d,_,_⟩:=ql h;have a:=(XZ.mp c).1;have b:=(XZ.mp d).1;have e:=R.hi;have g:=R.short _ (X7 (qQ c));lia
theorem yC.some {H:Hp}{c:AF}{gs:List AD}(h:yC H c gs):∀v∈c,∃a b,v=V.ref a/\H a=some (.lst b):=by
 intro v d;obtain⟨_,_,a,b,e,h1,_⟩:=zll h d;exact⟨a,b,e,h1⟩
def zmq {H:Hp}{b:AF}{gs:List AD}(h:yC H b gs):WU (GS.LstAt H) b (gs.map (Tx toI)):=by
 induction h with
 | nil=>exact .nil
 | cons r _ c =>
  obtain⟨a,d,e,h1,h2⟩:=r;exact .cons ⟨a,d,e,h1,h2.tup2⟩ c
def zmr {H:Hp}:∀{gs:List AD} {b:AF},WU (GS.LstAt H) b (gs.map (Tx toI))->yC H b gs:=by
 intro gs;induction gs with
 | nil =>
  intro b h;cases h;exact .nil
 | cons g r c =>
  intro b h;cases h with
  | cons q t =>
   obtain⟨a,d,e,h1,h2⟩:=q;exact .cons ⟨a,d,e,h1,Ja h2⟩ (c t)
def zg3 {ks:List (List (Int×Int))}{gs:List AD}(h:ks.Perm (gs.map (Tx toI))):∃a:List AD,ks=a.map (Tx toI)/\a.Perm gs:=by
 have b:∀g:AD,(g.map toI).map ofI=g:=λg=>by
  rw[Ws];exact(Xc λc _=>zju c).trans (R1 g)
 refine⟨ks.map (Tx ofI),?_,?_⟩
 .rw[Ws];refine(R1 ks).symm.trans (Xc λp d=>?_);obtain⟨c,_,rfl⟩:=XA.mp (h.mem_iff.mp d);show c.map toI=((c.map toI).map ofI).map toI;rw[b]
 .have:=h.map (Tx ofI);rw[Ws]at this;have e:gs.map (Tx ofI∘Tx toI)=gs:=(Xc λc _=>b c).trans (R1 gs);rwa [e]at this
def zms {gs:List AD}(h:(gs.map (Tx toI)).Pairwise (λp q=>PySem.SeqAt.ltL q p=false))(j:∀g∈gs,g ≠ [])(u:(heads gs).Nodup):Up2 (heads gs):=by
 induction gs with
 | nil=>exact List.Pairwise.nil
 | cons g r n =>
  rw[Xh,Ru]at h;have d:toI (g.headD (0,0)) ∉ heads r/\(heads r).Nodup:=Vv.mp u;refine Ru.mpr ⟨λp l=>?_,n h.2 (λx m=>j x (XW _ m)) d.2⟩;obtain⟨f,c,rfl⟩:=XA.mp l;have a:=h.1 _ (XA.mpr ⟨f,c,rfl⟩);have i:toI (g.headD (0,0))≠toI (f.headD (0,0)):=λe=>d.1 (e ▸ l);have o:=j g XV;have s:=j f (XW _ c);cases g with
  | nil=>exact absurd rfl o
  | cons x v =>
   cases f with
   | nil=>exact absurd rfl s
   | cons y w =>
    have b:toI x≠toI y:=i;show lt2 (toI x) (toI y)=true;have k:(if toI y=toI x then PySem.SeqAt.ltL (w.map toI) (v.map toI) else lt2 (toI y) (toI x))=false:=a;rw[bq (Va b)]at k;have:=zcw b;rw[k]at this;cases hh:lt2 (toI x) (toI y) with
    | true=>rfl
    | false =>
     rw[hh]at this;cases this
def za4:zD ["board","found","cell"] ["board"] (ze zcE):=bz
def zg4 {f1 f2 f3 f4 f5 f6:Addr}{ai aj ak al am an:XM}(T:Txt mg)(D:zj K mg "parts" zcE ["board"] f fd)(zZ:zj K mg "around" yV ["board","cell"] f1 ai)(zq:zj K mg "sign_at" qH ["board","cell"] f2 aj)
  (zw:zj K mg "cells_of" qv ["board"] f3 ak) (zL:zj K mg "open_cells" jb ["board"] f4 al) (qd:zj K mg "closed_around" qT ["board","cell"] f5 am) (Z5:zj K mg "joined" ZU ["groups","cells"] f6 an):qz P w K mg base CX0 3 f fd ["board"] zor:=by
 refine D.F.ok za4 (λvs H Q E h=>?_) (λa5 A ax s H vs Q E hr h=>?_)
 .obtain⟨p,l,j,n,rfl,_⟩:=h;rfl
 .revert h;refine fj λp l j n z0 b R q=>?_;subst z0;refine⟨_,(@zf _ _ _ _ _ (@zx _ _ 1 _ _ _ _ za4.nd rfl (XI rfl) (@qo _ _ _ _ zb) (by rfl) (.inr rfl)) (zf (qS W3 rfl (zR (pc0 (xT T zL zw zq) hr zL (za (pvS 0) zb))) (zv (i:=2) za4.nd rfl (XI rfl)) (zg (zx (i:=1) za4.nd rfl (XI rfl) (pc0 (zkB T Z5) hr Z5 (za (pvS 1) (za (pc0 (Z1 T qd zZ zq) hr qd (za (pvS 0) (za (pvS 2) zb))) zb)))))) (zg (zK (zB (GS.Q4 hr.units) (by rfl) T.zdq S2 (za (pvS 1) zb)))))),?_⟩;(try dsimp only[cxK,cxP,cxW]);refine⟨ZP,λk0 av=>?_⟩;have s0:zu H (upd H k0 (.lst [])):=zd av;have ac:upd H k0 (.lst []) k0=some (.lst []):=zc;generalize upd H k0 (.lst [])=H0 at *
  refine⟨_,rfl,p,l,j,n,rfl,b.mono s0,R,λdc wc H1 a7 ah J s1=>⟨dc,rfl,⟨_,SqL.of ah⟩,?_⟩⟩;have M:=s0.trans s1;have b1:=b.mono M;have J:Cel H1 wc (zY j):=J;have a9:=zeZ R;refine yN (K:=K) (a:=dc) (xs:=wc) (λi σ H'=>∃(k:Addr) (U:AF) (I:List AD) (v2:Option V),σ=[some (.ref p),some (.ref k),v2]/\zu H1 H'/\H' k=some (.lst U)/\yC H' U I/\U.Nodup/\(∀v∈U,∃a,v=V.ref a/\H a=none)/\Parts.Good (clA j) ((zY j).take i) I)
   ⟨k0,[],[],_,rfl,zu.refl _,s1 _ _ ac,.nil,Ui,(λv h=>nomatch h),Parts.Good.start _⟩ (λi σ H' _ ⟨_,_,_,_,_,z,_⟩=>SqL.of (z _ _ ah)) ?_ ?_
  .refine λi x σ H2 L=>eB λk U I v2=>eH λz0 Y hk hG=>eF λO m G=>?_;subst z0;refine eE (λc hc=>eE λca z0 ar=>?_) (Cel.get (Cel.mono Y J) L);subst z0;have cm:=X7 hc;refine eU (λt sg ht hj _ es=>?_) (ql cm);obtain⟨l1,l2⟩:=J0 R ht hj;have tk:(zY j).take (i+1)=(zY j).take i++[c]:=by
    rw[Xv,hc];rfl
   have y:(qk j).length<=63:=by
    have:=T0 cm;lia
   have gB:∀x∈I.flatten,x∈qk j:=λx L=>by
    obtain⟨o,_,h2⟩:=G.from_ x L;exact Z3 h2
   refine⟨_,rfl,_,rfl,_,rfl,p,l,ca,j,n,c,rfl,(b1.mono Y),R,ar,l1,l2,λd az H3 hd au aq B=>?_⟩;have ay:=M.trans (Y.trans B);refine dD k d U az (dB I (clA j c) (dJ (qk j) rfl (B _ _ hk) (hG.mono B) au (dP aq (ze0 j c) G.nd (λx L=>Z3 L) (dM gB (λx L=>zir R L) y (X0 (Parts.Qi G.ne) (X0 (Parts.yG G.nd gB) y)) (λa2 H' s'=>?_) (λaw d2 wa va aA H' a6 ag ab u ap a3 ae s'=>?_)))))
   .refine⟨k,U,I,_,rfl,Y.trans (B.trans s'),s' _ _ (B _ _ hk),(hG.mono B).mono s',O,m,?_⟩;rw[tk];exact G.skip a2
   .refine⟨d2,(dG (d8 rfl (Y.trans (B.trans s')) ab ap (dF ?_ (λv hv=>?_) ?_)))⟩
    .rw[Wb];refine⟨O.sublist u,by simp,λa ha b hb e=>?_⟩;have aa:b=V.ref wa:=by simpa using hb
     subst e;obtain⟨a',N,e1,e2⟩:=yC.some (hG.mono B) a (u.subset ha);rw[aa]at e1;injection e1 with e1
     rw[<- e1,ag]at e2;cases e2
    .rcases XO.mp hv with hv | hv
     .exact m v (u.subset hv)
     .have aa:v=V.ref wa:=by simpa using hv
      exact⟨wa,aa,ay.free ag⟩
    .rw[tk];exact zio G aw (ze0 j c) a3 ae
  .refine λσ H2=>eB λk U I v2=>eH λz0 Y hk hG=>eF λO m G=>?_;subst z0;rw[J.length,XC]at G;have ao:∀x∈I.flatten,x∈qk j:=λx L=>by
    obtain⟨o,_,h2⟩:=G.from_ x L;exact Z3 h2
   have wl:I.length<=63:=by
    cases I with
    | nil=>exact WZ _
    | cons g r =>
     have m1:=head_mem (G.ne g XV);obtain⟨o,ho,_⟩:=G.from_ _ (Ww.mpr ⟨g,XV,m1⟩);have:=T0 ho;have h3:=X0 (Parts.Qi G.ne) (Parts.yG (b:=qk j) G.nd ao);lia
   refine⟨_,rfl,k,U,_,rfl,SqL.of hk,zmq hG,(by rw[hG.length];lia),λd N a8 hd hl a1 a4 pw=>?_⟩;have B:=zd (o:=.lst N) hd;obtain⟨ds,rfl,pg⟩:=zg3 a1;have G':=G.perm pg;refine q d N ds _ ((M.trans Y).free hd) zc ((zmr hl).mono B) (pw.nodup_iff.mpr O) (λv hv=>?_) G' (zms a4 G'.ne (zb6 G'.ne G'.nd)) ((M.trans Y).trans B);have af:=pw.mem_iff.mp hv;obtain⟨a,e1,e2⟩:=m v af;obtain⟨a',N,e3,e4⟩:=yC.some hG v af;refine⟨a,e1,e2,λz=>?_⟩;rw[e1]at e3;injection e3 with e3
   rw[<- e3,z,hd]at e4;cases e4
def pD (p:Int×Int):Wf:=.tuple [.int p.1,.int p.2]
def zmt (p q:Int×Int):W8 (pD p) (pD q)=decide (p=q):=PySem.SeqAt.zeC p q
def PR (H:Hp)(v:V)(p:Int×Int):Prop:=∃a,v=V.ref a/\H a=some (.tup [.int p.1,.int p.2])
def PR.mono {H b:Hp}(s:zu H b){v:V}{p:Int×Int}(h:PR H v p):PR b v p:=let ⟨a,e,h⟩:=h;⟨a,e,s _ _ h⟩
def Z6 {H a:Hp}(s:zu H a){b:AF}{ps:List (Int×Int)}(c:xY H b ps):xY a b ps:=by
 induction c with
 | nil=>exact .nil
 | cons h _ d =>
  exact .cons (PR.mono s h) d
def zg5 {H:Hp}{a:AF}{ps:List (Int×Int)}(h:xY H a ps):a.length=ps.length:=Paired.length h
def PR.rdv {K:X5}{H:Hp}{v:V}{p:Int×Int}(h:PR H v p):Rdv K H v (pD p):=by
 obtain⟨a,rfl,h⟩:=h;exact .tup (SqT.of h) (.cons (.int _) (.cons (.int _) .nil))
def zmu {K:X5}{H:Hp}{a:AF}{ps:List (Int×Int)}(b:xY H a ps):Je K H a (ps.map pD):=by
 induction b with
 | nil=>exact .nil
 | cons h _ c =>
  exact .cons (PR.rdv h) c
theorem zmv:∀ps:List (Int×Int),Wd (ps.map pD)=true
 | []=>rfl
 | p::r=>by
  show (Wp (pD p)&&Wd (r.map pD))=true;rw[zmv r];rfl
def zqF (ps:List (Int×Int))(p:Int×Int):(ps.map pD).any (λz=>W8 z (pD p))=ps.any λz=>decide (z=p):=by
 rw[Tn];congr 1;funext z;exact zmt z p
def zqG (ps:List (Int×Int))(c:AA):(ps.map pD).any (λz=>W8 z (zp c))=ps.any λz=>decide (z=toI c):=zqF ps (toI c)
def zqH {H:Hp}{a z:Addr}{o d:HO}(h:H a=some o)(c:H z=some d)(b:o≠d):a≠z:=λe=>by
 subst e;rw[h]at c;exact b (Option.some.inj c)
def zos {H:Hp}{z:Addr}{ys b:AF}(c:H z=some (.lst ys)){v:V}{p:Int×Int}(h:PR H v p):PR (upd H z (.lst b)) v p:=by
 obtain⟨a,e,h⟩:=h;refine⟨a,e,?_⟩;rw[zo (zqH h c (λz=>nomatch z))];exact h
def Z7 {H:Hp}{z:Addr}{ys a:AF}(d:H z=some (.lst ys)){b:AF}{ps:List (Int×Int)}(c:xY H b ps):xY (upd H z (.lst a)) b ps:=by
 induction c with
 | nil=>exact .nil
 | cons h _ e =>
  exact .cons (zos d h) e
def jW (N:Addr->Prop)(H:Hp):AF->List (List (Int×Int))->Prop:=WU λv k=>∃a b,v=V.ref a/\N a/\H a=some (.lst b)/\xY H b k
def jo {N:Addr->Prop}{H b:Hp}(s:zu H b){c:AF}{ks:List (List (Int×Int))}(d:jW N H c ks):jW N b c ks:=by
 induction d with
 | nil=>exact .nil
 | cons q _ f =>
  obtain⟨a,g,e,n,h,t⟩:=q;exact .cons ⟨a,g,e,n,s _ _ h,Z6 s t⟩ f
def zan {N M:Addr->Prop}{H:Hp}(w:∀a,N a->M a){b:AF}{ks:List (List (Int×Int))}(c:jW N H b ks):jW M H b ks:=by
 induction c with
 | nil=>exact .nil
 | cons q _ d =>
  obtain⟨a,f,e,n,h,t⟩:=q;exact .cons ⟨a,f,e,w a n,h,t⟩ d
def J1 {N:Addr->Prop}{H:Hp}{z:Addr}{ys b:AF}(f:H z=some (.lst ys))(w:∀a,N a->a≠z){c:AF}{ks:List (List (Int×Int))}(d:jW N H c ks):jW N (upd H z (.lst b)) c ks:=by
 induction d with
 | nil=>exact .nil
 | cons q _ g =>
  obtain⟨a,i,e,n,h,t⟩:=q;exact .cons ⟨a,i,e,n,by rw[zo (w a n)];exact h,Z7 f t⟩ g
def QJ {N:Addr->Prop}{H:Hp}{c:AF}{ks:List (List (Int×Int))}{b:AF}{a:List (List (Int×Int))}(h:jW N H c ks)(k:jW N H b a):jW N H (c++b) (ks++a):=zcU h k
def jT {N:Addr->Prop}{H:Hp}{a:AF}{ks:List (List (Int×Int))}(h:jW N H a ks):a.length=ks.length:=Paired.length h
def za5 {N:Addr->Prop}{H:Hp}{c:AF}{ks:List (List (Int×Int))}{i:Nat}{v:V}(h:jW N H c ks)(e:c[i]?=some v):∃k a b,ks[i]?=some k/\v=V.ref a/\N a/\H a=some (.lst b)/\xY H b k:=by
 obtain⟨k,h1,a,b,h2⟩:=zgo h e;exact⟨k,a,b,h1,h2⟩
def zkD {N:Addr->Prop}{H:Hp}{b:AF}{ks:List (List (Int×Int))}(c:jW N H b ks):WU (GS.LstAt H) b ks:=by
 induction c with
 | nil=>exact .nil
 | cons q _ d =>
  obtain⟨a,f,e,_,h,t⟩:=q;exact .cons ⟨a,f,e,h,t⟩ d
def zmw {N:Addr->Prop}{H:Hp}{c:AF}{ks:List (List (Int×Int))}(f:WU (GS.LstAt H) c ks)(n:∀v∈c,∃a,v=V.ref a/\N a):jW N H c ks:=by
 induction f with
 | nil=>exact .nil
 | cons q _ i =>
  obtain⟨a,k,e,h,t⟩:=q;obtain⟨b,d,j⟩:=n _ XV;subst e;cases d;exact .cons ⟨_,k,rfl,j,h,t⟩ (i λv g=>n v (XW _ g))
def QK {N:Addr->Prop}{H:Hp}{c:AF}{ks:List (List (Int×Int))}{v:V}(h:jW N H c ks)(e:v∈c):∃a b,v=V.ref a/\N a/\H a=some (.lst b):=by
 obtain⟨k,_,a,b,h1,h2,d,_⟩:=zll h e;exact⟨a,b,h1,h2,d⟩
def zg6 {H:Hp}{c:AF}{ps:List (Int×Int)}{b:AF}{a:List (Int×Int)}(h:xY H c ps)(k:xY H b a):xY H (c++b) (ps++a):=zcU h k
def nearF (rs:AE)(c x:AA):Bool:=(zM rs c).any λz=>decide (z=x)
def jK (rs:AE)(c:AA):Int:=((Cells.sgn (codes rs) c:Nat):Int)-48
def zkE (rs:AE)(c:AA):(zM rs c).Nodup:=(jS (Cells.yj _ 0 (codes rs))).sublist Wi
def zmx {rs:AE}{o:AA}{q:AD}(b:q.Nodup):((zM rs o).filter λx=>q.any λz=>decide (z=x)).length=Grow.cnt (nearF rs) o q:=by
 unfold Grow.cnt;refine List.Perm.length_eq ((V3 ((zkE rs o).sublist Wi) (b.sublist Wi)).mpr λx=>?_);rw[XQ,XQ];unfold nearF;rw[WE,WE];constructor
 .rintro⟨h1,y,hy,e⟩;have a:y=x:=bh e;subst a;exact⟨hy,y,h1,br rfl⟩
 .rintro⟨h1,y,hy,e⟩;have a:y=x:=bh e;subst a;exact⟨hy,y,h1,br rfl⟩
def zg7 (H:Hp)(rs:AE)(v:V)(o:AA):Prop:=∃a b c,v=V.ref a/\H a=some (.tup [.int (jK rs o),.ref b])/\H b=some (.lst c)/\Cel H c (zM rs o)
def zg8 (H:Hp)(rs:AE)(b:AD)(v:V)(o:AA):Prop:=∃a c d,v=V.ref a/\H a=some (.tup [.int (jK rs o-((Grow.cnt (nearF rs) o b:Nat):Int)),.int (jK rs o),.ref c])/\H c=some (.lst d)/\Cel H d (zM rs o)
def zkF {H b:Hp}(s:zu H b){rs:AE}{vs:AF}{cs:AD}(f:WU (zg7 H rs) vs cs):WU (zg7 b rs) vs cs:=by
 induction f with
 | nil=>exact .nil
 | cons q _ g =>
  obtain⟨a,h,i,e,h1,c,d⟩:=q;exact .cons ⟨a,h,i,e,s _ _ h1,s _ _ c,d.mono s⟩ g
def zbP {H c:Hp}(s:zu H c){rs:AE}{b:AD}{vs:AF}{cs:AD}(g:WU (zg8 H rs b) vs cs):WU (zg8 c rs b) vs cs:=by
 induction g with
 | nil=>exact .nil
 | cons q _ h =>
  obtain⟨a,i,j,e,h1,d,f⟩:=q;exact .cons ⟨a,i,j,e,s _ _ h1,s _ _ d,f.mono s⟩ h
def ZO {α a:Type}{R:α->a->Prop}{vs:List α}{cs:List a}{i:Nat}{v:α}(h:WU R vs cs)(e:vs[i]?=some v):∃c,cs[i]?=some c/\R v c:=zgo h e
def zis {α b:Type}{R:α->b->Prop}{c:List α}{cs:List b}{a:List α}{cs':List b}(h:WU R c cs)(k:WU R a cs'):WU R (c++a) (cs++cs'):=zcU h k
def ze2 (H e:Hp)(rs:AE)(b:AD)(v:V)(o:AA):Prop:=∃a c d,v=V.ref a/\e a=some (.tup [.int (jK rs o-((Grow.cnt (nearF rs) o b:Nat):Int)),.int (jK rs o),.ref c])/\H c=some (.lst d)/\Cel H d (zM rs o)
def zit {H c d:Hp}(s:zu c d){rs:AE}{b:AD}{vs:AF}{cs:AD}(h:WU (ze2 H c rs b) vs cs):WU (ze2 H d rs b) vs cs:=by
 induction h with
 | nil=>exact .nil
 | cons q _ i =>
  obtain⟨a,j,k,e,h1,f,g⟩:=q;exact .cons ⟨a,j,k,e,s _ _ h1,f,g⟩ i
theorem zdw {H c:Hp}{z:Addr}{ys f:AF}(d:c z=some (.lst ys)){rs:AE}{b:AD}:∀{vs:AF} {cs:AD},WU (ze2 H c rs b) vs cs->WU (ze2 H (upd c z (.lst f)) rs b) vs cs
 | _,_,.nil=>.nil
 | _,_,.cons ⟨a,i,k,e,h1,g,h⟩ t=>.cons ⟨a,i,k,e,by
   have j:a≠z:=λe=>by
    subst e;rw[h1]at d;cases d
   rw[zo j];exact h1,g,h⟩ (zdw d t)
def ziu {H c:Hp}(s:zu H c){rs:AE}{b:AD}{vs:AF}{cs:AD}(g:WU (ze2 H c rs b) vs cs):WU (zg8 c rs b) vs cs:=by
 induction g with
 | nil=>exact .nil
 | cons q _ h =>
  obtain⟨a,i,j,e,h1,d,f⟩:=q;exact .cons ⟨a,i,j,e,h1,s _ _ d,f.mono s⟩ h
def zot:Sp:=λl H Q _=>∃(h f g:Addr) (j i:AF) (e:AE) (O a:AD) (c:AA),l=[.ref h,.ref f,.ref g]/\H h=some (.lst j)/\WU (zg7 H e) j O/\O.length<=64/\Rows bd.cps.toList e/\H f=some (.tup [.int (c.1:Nat),.int (c.2:Nat)])/\H g=some (.lst i)/\Cel H i a/\a.Nodup /\
 ∀(d:Addr) (k:AF) (b:Hp),b d=some (.lst k)->WU (zg8 b e a) k (O.filter λo=>nearF e o c)->zu H b->Q (.ref d) b
def zsg:Sp:=λf H Q _=>∃(d e:Addr) (un up:AF) (b:AE) (a O q:AD),f=[.ref d,.ref e]/\H d=some (.lst un)/\WU (zg8 H b a) un O/\H e=some (.lst up)/\Cel H up q/\q.length<=64 /\
 ∀c:Hp,zu H c->Q (.bl (O.all λo=>Grow.zdg (nearF b) (jK b) a o q)) c
def Jb:zD ["told","cell","rest","needs","number","near","left"] ["told","cell","rest"] (ze JX):=bz
def zg9 (T:Txt mg)(D:zj K mg "needs_at" JX ["told","cell","rest"] f fd):qz P w K mg base CX0 1 f fd ["told","cell","rest"] zot:=by
 refine D.F.ok Jb (λvs H Q E h=>?_) (λan A aj s H vs Q E hr h=>?_)
 .revert h;refine e8 λta ca ra ut ur j O g=>eE λc z0 _=>?_;subst z0;rfl
 .revert h;refine eB λta ca ra ut=>eS λur j O g c=>eH λz0 ab hT ol=>eK λR af ah ag ak q=>?_;subst z0;refine⟨_,(@zf _ _ _ _ _ (@zx _ _ 3 _ _ _ _ Jb.nd rfl (XI rfl) (@qo _ _ _ _ zb) (by rfl) (.inr rfl)) (zf (qS W3 rfl (zR (pvS 0)) (Zv rfl (qf (zv (i:=4) Jb.nd rfl (XI rfl)) (qf (zv (i:=5) Jb.nd rfl (XI rfl)) yi))) (zg (qL (zG (zcP hr.units) (pvS 1) (pvS 5) (by rfl)) (zf (zx (i:=6) Jb.nd rfl (XI rfl) (zB zE (by rfl) T.qX Xf (za (qJ (N:=["place","rest"]) (src:=[none,some 2]) (zV.free (O:=(ze JX).names) (XN:=["told","cell","rest","needs","number","near","left"]) rfl rfl ⟨_,rfl⟩ rfl rfl (by decide+kernel) (by decide+kernel) (by decide+kernel) rfl (by decide+kernel)) rfl (zR (pvS 5)) (λ_ _ _ _ _=>(zv (i:=0) (by show W6 (["place","rest"]:AE);decide+kernel) rfl (XI rfl))) (λ_ _ _ _ _=>(qN (zG (jF (K:=K) (by rfl) hr.units) (pvS 0) (pvS 1) (by rfl)))) (λ_ _ _ _ _=>(pvS 0))) zb))) (zg (yu (Y7 Wz VN VM yy (pvS 3) (za (jy (za (zC yv (pvS 4) (pvS 6)) (za (pvS 4) (za (pvS 5) zb)))) zb))))) qc))) (zg (zK (pvS 3))))),?_⟩;(try dsimp only[cxK,cxP,cxW]);refine⟨ZP,λd hd=>?_⟩;have s0:=zd (o:=.lst []) hd;refine⟨_,rfl,ta,rfl,⟨_,SqL.of (s0 _ _ ab)⟩,?_⟩;refine yN (K:=K) (a:=ta) (xs:=ut) (λi J H'=>∃(p:AF) (v4 v5 v6:Option V),J=[some (.ref ta),some (.ref ca),some (.ref ra),some (.ref d),v4,v5,v6]/\zu H H'/\H' d=some (.lst p)/\WU (ze2 H H' j g) p ((O.take i).filter λo=>nearF j o c))
   ⟨[],_,_,_,rfl,s0,zc,.nil⟩ (λi J H' _ ⟨_,_,_,_,_,z,_⟩=>SqL.of (z _ _ ab)) ?_ ?_
  .refine λi x J H1 hx=>fj λp v4 v5 v6 z0 s1 l L=>?_;subst z0;refine eE (λo ho=>e9 λa na wn z0 ae y r=>?_) (ZO hT hx);subst z0;have ha:=s1 _ _ ae;have G:=s1 _ _ y;have k:=r.mono s1;have tk:O.take (i+1)=O.take i++[o]:=by
    rw[Xv,ho];rfl
   refine dH a rfl (SqT.of ha) rfl rfl rfl rfl ?_;refine⟨_,rfl,_,rfl,zp c,(zM j o).map zp,Ji.rdv ⟨ca,rfl,s1 _ _ af⟩,.lst (SqL.of G) (zck k),rfl,zg1 _,(by show 1<=60;decide),_,rfl,?_⟩;have ei:(if false=true then !((zM j o).map zp).any (λz=>W8 z (zp c)) else ((zM j o).map zp).any λz=>W8 z (zp c))=nearF j o c:=x9 _ _;rw[ei,tk,W5];by_cases n:nearF j o c=true
   .have ef:[o].filter (λo=>nearF j o c)=[o]:=by
     rw[WC,bw n];rfl
    rw[ef];refine jX n ⟨_,rfl,na,rfl,⟨_,SqL.of G⟩,λz hz=>?_⟩;refine jg (K:=K) (a:=na) (xs:=wn) (λa=>a≠z) ((zM j o).map λx=>if (g.any λz=>decide (z=x))=true then some (zp x) else none) (fun J=>∃u0,J=[u0,some (.ref ra)]) hz (λ_ h=>h) ⟨_,rfl⟩ (by rw[X9];exact k.length.symm) (by rw[k.length];exact X0 (xU R o) (by decide)) (SqL.of G) ?_ ?_
    .rintro m v u J H2 hv hu M _ ⟨u1,rfl⟩ Y Z am no;obtain⟨e,he,rc⟩:=Cel.get (k.mono M) hv;have eo:=xu he hu;refine⟨_,rfl,_,rfl,zp e,g.map zp,rc.rdv,.lst (SqL.of (M _ _ (s1 _ _ ah))) (zck ((ag.mono s1).mono M)),rfl,zg1 _,(by show 1<=60;decide),_,rfl,?_⟩;have ei:(if false=true then !(g.map zp).any (λz=>W8 z (zp e)) else (g.map zp).any λz=>W8 z (zp e))=g.any λz=>decide (z=e):=x9 _ _;rw[ei];by_cases n:(g.any λz=>decide (z=e))=true
     .rw[bw n]at eo;exact jX n ⟨_,rfl,am _ _ _ _ eo ⟨_,rfl⟩ (zu.refl _) rc.rdn⟩
     .rw[bq n]at eo;exact jA (WP.mpr n) (no _ _ eo ⟨_,rfl⟩ (zu.refl _))
    rintro ys H2 M ai aa;have er:((zM j o).map λx=>if (g.any λz=>decide (z=x))=true then some (zp x) else none).filterMap id=((zM j o).filter λx=>g.any λz=>decide (z=x)).map zp:=je _ _ _;rw[er]at aa;have yl:ys.length=Grow.cnt (nearF j) o g:=(zH.cel aa).length.trans (zmx ak);have B:=M _ _ l;refine⟨z,ys,rfl,.inl (SqL.of ai),?_⟩;rw[yl];refine⟨_,rfl,.inl ⟨rfl,_,SqL.of B⟩,_,rfl,_,rfl,_,_,rfl,rfl,_,rfl,_,rfl,zlY,λtt I=>?_⟩;have z3:=zd (o:=.tup [.int (jK j o-((Grow.cnt (nearF j) o g:Nat):Int)),.int (jK j o),.ref na]) I;have ac:=M.trans z3;have al:p.length<=64:=by
     rw[Paired.length L];refine X0 (WW _ _) ?_;rw[XG];lia
    have U:=z3 _ _ B;refine⟨d,p,_,rfl,rfl,U,Xx al (by decide),p++[.ref tt],_,_,_,rfl,λb e' h'=>?_,zc,zis (zdw U (zit ac L)) (.cons ⟨tt,na,wn,rfl,?_,y,r⟩ .nil)⟩
    .rw[zo (zk h' hd)];exact ac _ _ (s1 _ _ h')
    .have ne:tt≠d:=λe=>by
      subst e;rw[B]at I;cases I
     rw[zo ne,zc]
   .have ef:[o].filter (λo=>nearF j o c)=[]:=by
     rw[WC,bq n];rfl
    rw[ef,WX];exact jA (WP.mpr n) ⟨p,_,_,_,rfl,s1,l,L⟩
  .rintro J H1 ⟨p,v4,v5,v6,rfl,s1,l,L⟩;rw[Paired.length hT,XC]at L;exact⟨_,rfl,q d p H1 l (ziu s1 L) s1⟩
def YE:zD ["needs","pick","least","most","near"] ["needs","pick"] (ze ZV):=bz
def ziv (T:Txt mg)(D:zj K mg "may_fit" ZV ["needs","pick"] f fd):qz P w K mg base CX0 1 f fd ["needs","pick"] zsg:=by
 refine D.F.ok YE (λvs H Q E h=>?_) (λae A ab s H vs Q E hr h=>?_)
 .revert h;refine e8 λJ L un up b c O p=>eW λz0 _=>?_;subst z0;rfl
 .revert h;refine e8 λJ L un up b c O p=>eH λz0 n hN r=>eF λg pl q=>?_;subst z0;refine⟨_,(zf (qS W3 rfl (zR (pvS 0)) (Zv rfl (qf (zv (i:=2) YE.nd rfl (XI rfl)) (qf (zv (i:=3) YE.nd rfl (XI rfl)) (qf (zv (i:=4) YE.nd rfl (UH rfl)) yi)))) (zg (qL (zai (Y5 Zx Zx (pvS 2) (zB zE (by rfl) T.qX Xf (za (qJ (N:=["cell","near"]) (src:=[none,some 4]) (zV.free (O:=(ze ZV).names) (XN:=["needs","pick","least","most","near"]) rfl rfl ⟨_,rfl⟩ rfl rfl (by decide+kernel) (by decide+kernel) (by decide+kernel) rfl (by decide+kernel)) rfl (zR (pvS 1)) (λ_ _ _ _ _=>(zv (i:=0) (by show W6 (["cell","near"]:AE);decide+kernel) rfl (XI rfl))) (λ_ _ _ _ _=>(qN (zG (jF (K:=K) (by rfl) hr.units) (pvS 0) (pvS 1) (by rfl)))) (λ_ _ _ _ _=>(pvS 0))) zb)) (pvS 3))) (@zg _ _ _ (@zK _ _ _ _ zaB)) qc))) (@zg _ _ _ (@zK _ _ _ _ zaB))),?_⟩;(try dsimp only[cxK,cxP,cxW]);refine⟨_,rfl,J,rfl,⟨_,SqL.of n⟩,?_⟩;refine yN (K:=K) (a:=J) (xs:=un) (λi j H'=>∃(v2 v3 v4:Option V),j=[some (.ref J),some (.ref L),v2,v3,v4]/\zu H H'/\∀o∈O.take i,Grow.zdg (nearF b) (jK b) c o p=true)
   ⟨_,_,_,rfl,zu.refl _,λo G=>by simp at G⟩ (λi j H' _ ⟨_,_,_,_,z,_⟩=>SqL.of (z _ _ n)) ?_ ?_
  .refine λi x j H1 hx=>eV λv2 v3 v4=>eF λz0 s1 d=>?_;subst z0;refine eE (λo G=>e9 λa ra wn z0 ha U M=>?_) (ZO (zbP s1 hN) hx);subst z0;refine⟨a,_,rfl,SqT.of ha,rfl,_,_,rfl,(dG ⟨rfl,(d9 rfl rfl ?_)⟩)⟩;refine⟨_,rfl,_,rfl,L,rfl,⟨_,SqL.of (s1 _ _ r)⟩,λz hz=>?_⟩;refine jg (K:=K) (a:=L) (xs:=up) (λa=>a≠z) (p.map λx=>if nearF b o x=true then some (zp x) else none) (fun j=>∃u0,j=[u0,some (.ref ra)]) hz (λ_ h=>h) ⟨_,rfl⟩ (by rw[X9];exact g.length.symm) (by rw[g.length];exact X0 pl (by decide)) (SqL.of (s1 _ _ r)) ?_ ?_
   .rintro m v u j H2 hv hu k _ ⟨u1,rfl⟩ Y Z ac no;obtain⟨e,he,rc⟩:=Cel.get ((g.mono s1).mono k) hv;have B:=xu he hu;refine⟨_,rfl,_,rfl,zp e,(zM b o).map zp,rc.rdv,.lst (SqL.of (k _ _ U)) (zck (M.mono k)),rfl,zg1 _,(by show 1<=60;decide),_,rfl,?_⟩;have ei:(if false=true then !((zM b o).map zp).any (λz=>W8 z (zp e)) else ((zM b o).map zp).any λz=>W8 z (zp e))=nearF b o e:=x9 _ _;rw[ei];by_cases I:nearF b o e=true
    .rw[bw I]at B;exact jX I ⟨_,rfl,ac _ _ _ _ B ⟨_,rfl⟩ (zu.refl _) rc.rdn⟩
    .rw[bq I]at B;exact jA (WP.mpr I) (no _ _ B ⟨_,rfl⟩ (zu.refl _))
   rintro ys H2 k aa y;have er:(p.map λx=>if nearF b o x=true then some (zp x) else none).filterMap id=(p.filter (nearF b o)).map zp:=je _ _ _;rw[er]at y;have yl:ys.length=Grow.cnt (nearF b) o p:=(zH.cel y).length;refine⟨z,ys,rfl,.inl (SqL.of aa),?_⟩;rw[yl];have om:=X7 G;have tk:O.take (i+1)=O.take i++[o]:=by
    rw[Xv,G];rfl
   have l:Grow.zdg (nearF b) (jK b) c o p=false->Q (.bl false) H2:=λe=>by
    have e2:(O.all λo=>Grow.zdg (nearF b) (jK b) c o p)=false:=WP.mpr λz=>by
     have:=WD.mp z o om;rw[e]at this;cases this
    rw[e2]at q;exact q _ (s1.trans k)
   refine⟨_,_,rfl,rfl,_,rfl,?_⟩;by_cases h1:jK b o-((Grow.cnt (nearF b) o c:Nat):Int)<=((Grow.cnt (nearF b) o p:Nat):Int)
   .rw[br h1];refine zbs ⟨_,rfl,_,_,rfl,rfl,_,rfl,?_⟩;by_cases h2:((Grow.cnt (nearF b) o p:Nat):Int)<=jK b o
    .rw[br h2];refine QW ⟨_,_,_,rfl,s1.trans k,λo' ho'=>?_⟩;rw[tk]at ho';rcases XO.mp ho' with ho' | ho'
     .exact d o' ho'
     .have e:o'=o:=by simpa using ho'
      rw[e];exact Grow.yw.mpr ⟨h1,h2⟩
    .rw[bf h2];exact zbs (l (WP.mpr λz=>h2 (Grow.yw.mp z).2))
   .rw[bf h1];refine QW ⟨_,rfl,?_⟩;exact zbs (l (WP.mpr λz=>h1 (Grow.yw.mp z).1))
  .rintro j H1 ⟨v2,v3,v4,rfl,s1,d⟩;rw[Paired.length hN,XC]at d;have e:(O.all λo=>Grow.zdg (nearF b) (jK b) c o p)=true:=WD.mpr d;rw[e]at q;exact q H1 s1
def toL (q:AD):List (Int×Int):=q.map toI
def zsT (i:Addr):Sp:=λj H Q E=>∃(a l h:Addr) (c:AE) (n:Int) (e:AF) (part:AD),j=[.ref a,.ref h]/\qh H a l c n/\Rows bd.cps.toList c/\H h=some (.lst e)/\Cel H e part/\part.Nodup/\part.length<=64/\(14<part.length->∀b,zu H b->E (.ref i) none b)/\(part.length<=14 ->
 ∀(d:Addr) (g:AF) (f:List (List (Int×Int))) (b:Hp),H d=none->b d=some (.lst g)->jW (λa=>H a=none/\a≠d) b g f->g.Nodup->f.Perm (((Subs.subs part).filter (Grow.fits (nearF c) (jK c) (JF c part) part)).map toL)->f.Pairwise (λp q=>PySem.SeqAt.ltL q p=false)->zu H b->Q (.ref d) b)
def jL (rs:AE)(part:AD):Nat->List AD
 | 0=>[[]]
 | i+1=>match part[i]? with
  | some c=>(Subs.step (jL rs part i) c).filter (Grow.chk (nearF rs) (jK rs) (JF rs part) c (part.drop (i+1)))
  | none=>jL rs part i
def zdx {rs:AE}{part:AD}{i:Nat}{c:AA}(h:part[i]?=some c):jL rs part (i+1)=(Subs.step (jL rs part i) c).filter (Grow.chk (nearF rs) (jK rs) (JF rs part) c (part.drop (i+1))):=by
 show (match part[i]? with | some c=>_ | none=>_)=_;rw[h]
theorem zdy {rs:AE}{part:AD}:∀(k i:Nat),part.length-i=k->i<=part.length->Grow.grow (nearF rs) (jK rs) (JF rs part) (jL rs part i) (part.drop i)=jL rs part part.length
 | 0,i,h,b=>by
  have e:i=part.length:=by lia
  subst e;rw[List.drop_length];rfl
 | k+1,i,h,b=>by
  have a:i<part.length:=by lia
  rw[WF a];show Grow.grow _ _ _ ((Subs.step (jL rs part i) part[i]).filter _) (part.drop (i+1))=_;rw[<- zdx (X2 a)];exact zdy k (i+1) (by lia) (by lia)
def ze3 (rs:AE)(part:AD):jL rs part part.length=(Subs.subs part).filter (Grow.fits (nearF rs) (jK rs) (JF rs part) part):=by
 rw[<- Grow.zoa];exact(zdy (rs:=rs) (part:=part) part.length 0 (by lia) (WZ _)).symm
theorem QL (rs:AE)(part:AD):∀i,(jL rs part i).length<=2^i
 | 0=>XX _
 | i+1=>by
  have a:=QL rs part i;show (match part[i]? with | some c=>_ | none=>_:List AD).length<=_;rw[T7];split
  .refine X0 (WW _ _) ?_;unfold Subs.step;rw[XR,X9];lia
  .lia
theorem zdz (rs:AE)(part:AD):∀i,∀q∈jL rs part i,q.length<=i
 | 0,q,h=>by
  have e:q=[]:=by simpa[jL] using h
  rw[e];exact XX _
 | i+1,q,h=>by
  have a:=zdz rs part i;cases e:part[i]? with
  | none =>
   have b:jL rs part (i+1)=jL rs part i:=by
    show (match part[i]? with | some c=>_ | none=>_)=_;rw[e]
   rw[b]at h;exact Uz (a q h)
  | some c =>
   rw[zdx e]at h;have h:=(XQ.mp h).1;rcases XO.mp h with h | h
   .exact Uz (a q h)
   .obtain⟨p,d,rfl⟩:=XA.mp h;rw[XR];exact Nat.succ_le_succ (a p d)
def tD2 (rs:AE)(c:AA):Wf:=.tuple [.int (jK rs c),.list ((zM rs c).map zp)]
def zmy {N:Addr->Prop}{H:Hp}{rs:AE}{v:V}{c:AA}(h:Rdn N H v (tD2 rs c)):zg7 H rs v c:=by
 unfold tD2 at h;generalize a:(zM rs c).map zp=ds at h;cases h with
 | tup h t =>
  cases t with
  | cons b t =>
   cases b;cases t with
   | cons d t =>
    cases t;cases d with
    | lst n h1 h2 =>
     subst a;exact⟨_,_,_,rfl,h,h1,zH.cel h2⟩
theorem ze4 {N:Addr->Prop}{H:Hp}{rs:AE}:∀{cs:AD} {vs:AF},zH N H vs (cs.map (tD2 rs))->WU (zg7 H rs) vs cs
 | [],_,.nil=>.nil
 | _::_,_,.cons h t=>.cons (zmy h) (ze4 t)
def zfP {c:St}{H:Hp}{A B:Hp->Prop}(h:A H):zlh c H λb a=>if b=true then A a else B a:=by
 show if true=true then A H else B H
 rw[bw rfl];exact h
def zmz {F:List AD}{j:Nat}{k:List (Int×Int)}(h:(F.map toL)[j]?=some k):∃q,F[j]?=some q/\k=toL q:=by
 rw[Xo]at h;cases e:F[j]? with
 | none=>rw[e]at h;cases h
 | some q =>
  rw[e]at h;cases h;exact⟨q,rfl,rfl⟩
def zha (xs:AF)(i:Nat)(a:i<xs.length):zd3 xs (some (((i:Nat):Int)+1)) none=xs.drop (i+1):=by
 have e:HT.sIx xs.length 0 (some (((i:Nat):Int)+1))=i+1:=by
  have:=HT.zi1 xs.length 0 (i+1);rw[O9]at this;rw[show (((i:Nat):Int)+1)=((i:Nat):Int)+((1:Nat):Int) from rfl,this];lia
 unfold zd3;rw[e];show (xs.drop (i+1)).take (xs.length-(i+1))=_;rw[Wu (by rw[Vf];lia)]
theorem zhb {H:Hp}:∀{a:AF} {cs:AD} (i:Nat),Cel H a cs->Cel H (a.drop i) (cs.drop i)
 | _,_,0,h=>h
 | _,_,i+1,.nil=>.nil
 | _,_,i+1,.cons _ t=>zhb i t
def qF:zD ["board","part","told","found","place","cell","needs","grown"] ["board","part"] (ze jm):=bz
def YT {jaj:Addr}(T:Txt mg)(Z:Prog K mg)(bo:qi K mg "TooGreat" jaj){f:Addr}{fd:XM}(D:zj K mg "part_layings" jm ["board","part"] f fd):qz P w K mg base (CXE P w) 4 f fd ["board","part"] (zsT jaj):=by
 obtain⟨bD,QM,zZ⟩:=Z.around;obtain⟨yH,j9,zq⟩:=Z.sign_at;obtain⟨yb,jG,zw⟩:=Z.cells_of;obtain⟨YF,ZA,zL⟩:=Z.open_cells;obtain⟨Qo,YG,jf⟩:=Z.number_at;obtain⟨bE,bF,JG⟩:=Z.numbers_of;obtain⟨bH,bG,YH⟩:=Z.needs_at;obtain⟨bJ,bI,QN⟩:=Z.may_fit;refine D.F.okX qF (λvs H Q E h=>?_) (λb8 A bt s H vs Q E hr h=>?_)
 .revert h;refine eB λa l pa rs=>eX λn I part z0 _=>?_;subst z0;rfl
 .revert h;refine eB λa l pa rs=>eL λn I part z0 b R a2=>eH λai bv bA qg q=>?_;subst z0;have ul:=ai.length;refine⟨_,(zf (qL (zG zia (zB zE (by rfl) T.qX Xf (za (pvS 1) zb)) (qG (v:=.int 14) (by rfl) T.zdr.choose_spec (by exact⟨_,rfl⟩)) (zU _)) (zg (zcW qx bo (by rfl) rfl (@za _ _ _ _ _ jZ zb rfl))) qc) (zf (Ze (i:=2) qF.nd rfl rfl (N:=["cell","board"]) (src:=[none,some 0]) (zV.free (O:=(ze jm).names) (XN:=["board","part","told","found","place","cell","needs","grown"]) rfl rfl ⟨_,rfl⟩ rfl rfl (by decide+kernel) (by decide+kernel) (by decide+kernel) rfl (by decide+kernel)) rfl (zR (pc0 (zeg T JG zZ zq zw zL) hr JG (za (pvS 0) (za (pvS 1) zb)))) (λ_ _ _ _ _=>(zv (i:=0) (by show W6 (["cell","board"]:AE);decide+kernel) rfl (XI rfl))) (λ_ _ _ _ _=>qV) (λ_ _ _ _ _=>(jy (za (pc0 (za2 T jf zq) hr jf (za (pvS 1) (za (pvS 0) zb))) (za (pc0 (ZZ T zZ) hr zZ (za (pvS 1) (za (pvS 0) zb))) zb))))) (@zf _ _ _ _ _ (@zx _ _ 3 _ _ _ _ qF.nd rfl (XI rfl) (@qo _ _ _ _ (@za _ _ _ _ _ (@qo _ _ _ _ zb) zb rfl)) (by rfl) (.inr rfl)) (zf (qS (jI.own qx) rfl (JP (by rfl) T.jw (za (pvS 1) zb)) (Zv rfl (qf (zv (i:=4) qF.nd rfl (XI rfl)) (qf (zv (i:=5) qF.nd rfl (UH rfl)) yi))) (zf (zx (i:=6) qF.nd rfl (UH rfl) (pc0 (zg9 T YH) hr YH (za (pvS 2) (za (pvS 5) (za (zcO zfn (pvS 1) (zct (zC qP (pvS 4) zh)) zaD) zb))))) (zf (zx (i:=7) qF.nd rfl (XI rfl) (zC Y8 (pvS 3) (qJ (N:=["pick","cell"]) (src:=[none,some 5]) (zV.free (O:=(ze jm).names) (XN:=["board","part","told","found","place","cell","needs","grown"]) rfl rfl ⟨_,rfl⟩ rfl rfl (by decide+kernel) (by decide+kernel) (by decide+kernel) rfl (by decide+kernel)) rfl (zR (pvS 3)) (λ_ _ _ _ _=>(zv (i:=0) (by show W6 (["pick","cell"]:AE);decide+kernel) rfl (XI rfl))) (λ_ _ _ _ _=>qV) (λ_ _ _ _ _=>(zC Y8 (pvS 0) (qo (za (pvS 1) zb))))))) (zg (Ze (i:=3) qF.nd rfl rfl (N:=["pick","needs"]) (src:=[none,some 6]) (zV.free (O:=(ze jm).names) (XN:=["board","part","told","found","place","cell","needs","grown"]) rfl rfl ⟨_,rfl⟩ rfl rfl (by decide+kernel) (by decide+kernel) (by decide+kernel) rfl (by decide+kernel)) rfl (zR (pvS 7)) (λ_ _ _ _ _=>(zv (i:=0) (by show W6 (["pick","needs"]:AE);decide+kernel) rfl (XI rfl))) (λ_ _ _ _ _=>(qN (zbt (K:=K) (by rfl) (pc0 (ziv T QN) hr QN (za (pvS 1) (za (pvS 0) zb))) (λ_=>rfl)))) (λ_ _ _ _ _=>(pvS 0))))))) (zg (zK (zB (GS.Q4 hr.units) (by rfl) T.zdq S2 (za (pvS 3) zb)))))))),?_⟩;(try dsimp only[cxK,cxP,cxW]);refine⟨_,rfl,pa,I,rfl,.inl (SqL.of a2),_,_,rfl,rfl,_,rfl,?_⟩;by_cases aR:14<part.length
  .exact jX (br (by lia)) ⟨sz_1,qg aR H (zu.refl _)⟩
  have pl:part.length<=14:=by lia
  have q:=q pl;refine jA (bf (by lia)) ?_;refine⟨_,rfl,_,rfl,a,l,pa,rs,n,I,part,rfl,b,R,a2,ai,λd ws H1 hd aC au s1=>⟨d,rfl,⟨_,SqL.of aC⟩,λz hz=>?_⟩⟩;have b1:=b.mono s1;have nl:(JF rs part).length<=64:=X0 (WW _ _) (ji (p:=Q7) R);refine jg (K:=K) (a:=d) (xs:=ws) (λa=>a≠z) ((JF rs part).map λc=>some (tD2 rs c)) (fun σ=>∃u0,σ=[u0,some (.ref a)]) hz (λ_ h=>h) ⟨_,rfl⟩ (by rw[X9];exact au.length.symm) (by rw[au.length];exact X0 nl (by decide)) (SqL.of aC) ?_ ?_
  .rintro k x o σ H2 hx ho s2 bm ⟨u0,rfl⟩ Y Z b4 no;obtain⟨y,hy,r1⟩:=Cel.get au hx;have eo:=xu hy ho;have yo:y∈zY rs:=(XQ.mp (X7 hy)).1;obtain⟨t,sg,ht,hj,bb,es⟩:=ql yo;obtain⟨ya,rfl,bi⟩:=r1;obtain⟨l1,l2⟩:=J0 R ht hj;obtain⟨o1,o2⟩:=zeW (zjt R ht hj) bb;have b2:=b1.mono s2;have ap:=s2 _ _ bi;refine xO ⟨_,rfl,_,rfl,a,l,ya,rs,n,y.1,y.2,t,sg,rfl,b2,ap,ht,hj,R.tlen ht,o1,o2,_,rfl,_,rfl,a,l,ya,rs,n,y.1,y.2,rfl,b2,R,ap,l1,l2,λd2 bC H3 aX aY aV s3=>⟨J2,λtt a3=>?_⟩⟩;have s4:=zd (o:=.tup [.int (((sg:Nat):Int)-48),.ref d2]) a3;have en:jK rs y=((sg:Nat):Int)-48:=by
    unfold jK;rw[es]
   refine b4 _ _ _ _ eo ⟨_,rfl⟩ (s3.trans s4) (.tup zc (.cons ?_ (.cons (.lst (λe=>bm (e ▸ aX)) (s4 _ _ aY) (Cel.rdn (aV.mono s4))) .nil)));rw[en];exact .int _
  rintro ut H2 s2 bj aH;rw[Z0]at aH;have hT:=ze4 aH;have ag:=s1.trans s2;refine⟨ZP,λe0 aD=>⟨sz_1,λf0 aZ=>?_⟩⟩;have y1:=zd (o:=.lst []) aD;have y2:=zd (o:=.lst [.ref e0]) aZ;have aN:=y1.trans y2;have aS:jW (λa=>H2 a=none) (upd (upd H2 e0 (.lst [])) f0 (.lst [.ref e0])) [.ref e0] ([[]]:List (List (Int×Int))):=.cons ⟨e0,[],rfl,aD,y2 _ _ zc,.nil⟩ .nil;have ba:upd (upd H2 e0 (.lst [])) f0 (.lst [.ref e0]) f0=some (.lst [.ref e0]):=zc;generalize upd (upd H2 e0 (.lst [])) f0 (.lst [.ref e0])=H3 at *
  have af:=ag _ _ a2;refine⟨_,rfl,pa,rfl,⟨_,SqL.of (aN _ _ af)⟩,?_⟩;refine JJ (K:=K) (l:=pa) (xs:=I) (λi σ L=>∃(fa:Addr) (fs:AF) (v4 v5 v6 v7:Option V),σ=[some (.ref a),some (.ref pa),some (.ref z),some (.ref fa),v4,v5,v6,v7]/\zu H2 L/\L fa=some (.lst fs)/\jW (λa=>H2 a=none) L fs ((jL rs part i).map toL)/\fs.Nodup)
   ⟨f0,_,_,_,_,_,rfl,aN,ba,aS,by simp⟩ (λi σ L _ ⟨_,_,_,_,_,_,_,y,_⟩=>SqL.of (y _ _ af)) ?_ ?_
  .refine λi x tt σ H4 hx a3=>eB λfa fs v4 v5=>eO λv6 v7 z0 s4 aw hL ax=>?_;subst z0;refine eE (λc hc=>eE λB z0 aW=>?_) (Cel.get ((ai.mono ag).mono s4) hx);subst z0;have il:=(XZ.mp hx).1;have z5:=zd (o:=.tup [.int (i:Nat),.ref B]) a3;refine dH tt rfl (SqT.of zc) rfl rfl rfl rfl ?_;have s5:=s4.trans z5;have ao:=z5 _ _ aW;have aE:=z5 _ _ aw;have aT:=jo z5 hL;generalize upd H4 tt (.tup [.int (i:Nat),.ref B])=H5 at *
   refine⟨_,rfl,_,rfl,_,rfl,_,rfl,_,_,rfl,rfl,_,rfl,pa,I,rfl,SqL.of (s5 _ _ af),λx1 bg=>?_⟩;have e1:=zha I i il;rw[e1]at *
   have z6:=zd (o:=.lst (I.drop (i+1))) bg;have s6:=s5.trans z6;refine dD z B x1 ut (dD (I.drop (i+1)) rs (JF rs part) (part.drop (i+1)) (dJ c rfl (s6 _ _ bj) (zkF s6 hT) nl (dM R (z6 _ _ ao) zc (zhb _ ((ai.mono ag).mono s6)) (bv.sublist (QR _ _)) (λnd un H6 b6 hN s7=>?_))));have am:=z6.trans s7;have aK:=s5.trans am;have ae:=am _ _ aE;have ar:=jo am aT;have aB:=am _ _ ao;have bn:i<=13:=by lia
   have fl:fs.length<=8192:=by
    rw[jT hL,X9];exact X0 (QL rs part i) (U4 (by decide) bn)
   have dp:=zdz rs part i;have eG:=zdx (rs:=rs) hc;have gl:=QL rs part i;generalize jL rs part i=F at *
   refine⟨_,rfl,_,rfl,fa,rfl,⟨_,SqL.of ae⟩,λy hy=>?_⟩;refine qw (K:=K) (a:=fa) (xs:=fs) (λj r L=>∃(u0:Option V) (m:AF),r=[u0,some (.ref B)]/\zu H6 L/\L y=some (.lst m)/\jW (λa=>H6 a=none/\a≠y) L m (((F.take j).map (·++[c])).map toL)/\m.Nodup)
    ⟨_,[],rfl,zd hy,zc,.nil,Ui⟩ (λj r L _ ⟨_,_,_,z,_⟩=>SqL.of (z _ _ ae)) ?_ ?_
   .refine λj v r H7 hv=>eO λu0 m z0 s8 al G a8=>?_;subst z0;refine eL (λk a1 w1 hk z0 an ac t1=>?_) (za5 ar hv);subst z0;obtain⟨q1,U,rfl⟩:=zmz hk;have kd:=dp q1 (X7 U);have wl:w1.length=q1.length:=(zg5 t1).trans (X9 _);have tj:((F.take (j+1)).map (·++[c])).map toL=((F.take j).map (·++[c])).map toL++[toL q1++[toI c]]:=by
     rw[Xv,U,Xj,Xj];simp[toL]
    rw[tj];unfold Q0;refine zfP ?_;refine⟨_,rfl,_,rfl,sz_1,λt2 be=>?_⟩;have y5:=zd (o:=.lst [.ref B]) be;refine dD a1 t2 w1 [.ref B] (dM rfl rfl (y5 _ _ (s8 _ _ ac)) zc (X0 (show w1.length+1<=100 by lia) (by decide)) (λt3 ak=>?_));have y6:=zd (o:=.lst (w1++[.ref B])) ak;have ah:=y5.trans y6;have h6:upd (upd H7 t2 (.lst [.ref B])) t3 (.lst (w1++[.ref B])) t3=some (.lst (w1++[.ref B])):=zc;have tz:t3≠y:=λe=>by
     subst e;rw[y5 _ _ al]at ak;cases ak
    have n4:=y5.free ak;have n3:=s8.free n4;have c1:xY (upd (upd H7 t2 (.lst [.ref B])) t3 (.lst (w1++[.ref B]))) [.ref B] [toI c]:=.cons ⟨B,rfl,ah _ _ (s8 _ _ aB)⟩ .nil;have b3:=zg6 (Z6 (s8.trans ah) t1) c1;generalize upd (upd H7 t2 (.lst [.ref B])) t3 (.lst (w1++[.ref B]))=H8 at *
    have a6:=ah _ _ al;have yl:m.length<=8192:=by
     rw[jT G,X9,X9,XG];have:=jT hL;rw[X9]at this;lia
    refine⟨m,a6,Xx yl (by decide),_,m++[.ref t3],rfl,λb' o e=>?_,zc,QJ (J1 a6 (λa h=>h.2) (jo ah G)) (.cons ⟨t3,w1++[.ref B],rfl,⟨n3,tz⟩,by rw[zo tz];exact h6,Z7 a6 b3⟩ .nil),?_⟩
    .rw[zo (zk e hy)];exact ah _ _ (s8 _ _ e)
    .refine Wb.mpr ⟨a8,by simp,λu hu u' a4 e=>?_⟩;obtain⟨b',wb,rfl,_,hb⟩:=QK G hu;have e2:u'=.ref t3:=by simpa using a4
     rw[e2]at e;cases e;rw[hb]at n4;cases n4
   refine λr H7=>eO λu0 m z0 s8 al G a8=>?_;subst z0;have aP:fs.length=F.length:=(jT hL).trans (X9 _);rw[aP,XC]at G;have yl:m.length<=8192:=by
    rw[jT G,X9,X9];lia
   refine dD fa y fs m (dM rfl rfl (s8 _ _ ae) al (X0 (Nat.add_le_add fl yl) (by decide)) (λg hg=>?_));have y9:=zd (o:=.lst (fs++m)) hg;have bx:=aK.trans s8;have b0:=bx.trans y9;have aF:upd H7 g (.lst (fs++m)) g=some (.lst (fs++m)):=zc;have a9:jW (λa=>H2 a=none) (upd H7 g (.lst (fs++m))) (fs++m) ((Subs.step F c).map toL):=by
    unfold Subs.step;rw[Xj];exact QJ (jo (s8.trans y9) ar) (jo y9 (zan (λa h=>aK.free h.1) G))
   have aQ:(fs++m).Nodup:=by
    refine Wb.mpr ⟨ax,a8,λu hu u' a4 e=>?_⟩;obtain⟨b',wb,rfl,_,hb⟩:=QK ar hu;obtain⟨b2,bB,rfl,aA,_⟩:=QK G a4;cases e;rw[hb]at aA;cases aA.1
   have aG:=(s8.trans y9) _ _ b6;have aU:=zbP (s8.trans y9) hN;have b9:(fs++m).length<=16384:=by
    rw[XR];lia
   have aO:∀q∈Subs.step F c,q.length<=64:=λq hq=>by
    rcases XO.mp hq with hq | hq
    .have:=dp q hq;lia
    .obtain⟨p',ay,rfl⟩:=XA.mp hq;have:=dp p' ay;rw[XR];show p'.length+1<=64;lia
   generalize fs++m=gs at *
   generalize Subs.step F c=S at *
   generalize upd H7 g (.lst gs)=H8 at *
   refine⟨_,rfl,g,rfl,⟨_,SqL.of aF⟩,λy2 a5=>?_⟩;refine qw (K:=K) (a:=g) (xs:=gs) (λj r L=>∃(u0:Option V) (m:AF),r=[u0,some (.ref nd)]/\zu H8 L/\L y2=some (.lst m)/\jW (λa=>H2 a=none/\a≠y2) L m (((S.take j).filter (Grow.chk (nearF rs) (jK rs) (JF rs part) c (part.drop (i+1)))).map toL)/\m.Sublist (gs.take j))
    ⟨_,[],rfl,zd a5,zc,.nil,List.Sublist.slnil⟩ (λj r L _ ⟨_,_,_,z,_⟩=>SqL.of (z _ _ aF)) ?_ ?_
   .refine λj v r H9 hv=>eO λu0 m z0 s9 a7 ab aa=>?_;subst z0;refine eL (λk a1 w1 hk z0 an ac t1=>?_) (za5 a9 hv);subst z0;obtain⟨q1,U,rfl⟩:=zmz hk;have tf:gs.take (j+1)=gs.take j++[.ref a1]:=by
     rw[Xv,hv];rfl
    refine⟨_,rfl,_,rfl,nd,a1,un,w1,rs,part.drop (i+1),_,q1,rfl,s9 _ _ aG,zbP s9 aU,s9 _ _ ac,(Ja t1).mono s9,aO q1 (X7 U),λb7 J=>⟨_,rfl,?_⟩⟩;rw[tf];have M:=J _ _ a7;show if Grow.chk (nearF rs) (jK rs) (JF rs part) c (part.drop (i+1)) q1=true then _ else _
    by_cases aj:Grow.chk (nearF rs) (jK rs) (JF rs part) c (part.drop (i+1)) q1=true
    .have e1:((S.take (j+1)).filter (Grow.chk (nearF rs) (jK rs) (JF rs part) c (part.drop (i+1)))).map toL=((S.take j).filter (Grow.chk (nearF rs) (jK rs) (JF rs part) c (part.drop (i+1)))).map toL++[toL q1]:=by
      rw[Xv,U,W5,Xj];simp[aj]
     rw[e1];have az:a1≠y2:=zk ac a5;have yl:m.length<=16384:=by
      have:=aa.length_le;rw[XG]at this;lia
     refine jX aj ⟨_,rfl,m,M,Xx yl (by decide),_,m++[.ref a1],rfl,λb' o e=>?_,zc,QJ (J1 M (λa h=>h.2) (jo J ab)) (.cons ⟨a1,w1,rfl,⟨an,az⟩,by rw[zo az];exact J _ _ (s9 _ _ ac),Z7 M (Z6 (s9.trans J) t1)⟩ .nil),List.Sublist.append aa (List.Sublist.refl _)⟩;rw[zo (zk e a5)];exact J _ _ (s9 _ _ e)
    .have e1:((S.take (j+1)).filter (Grow.chk (nearF rs) (jK rs) (JF rs part) c (part.drop (i+1)))).map toL=((S.take j).filter (Grow.chk (nearF rs) (jK rs) (JF rs part) c (part.drop (i+1)))).map toL:=by
      rw[Xv,U,W5,Xj];simp[aj]
     rw[e1];exact jA (WP.mpr aj) ⟨_,m,rfl,s9.trans J,M,jo J ab,aa.trans (S1 _ _)⟩
   .refine λr H9=>eO λu0 m z0 s9 a7 ab aa=>?_;subst z0;have aq:gs.length=S.length:=(jT a9).trans (X9 _);rw[aq,XC,<- eG]at ab;rw[aq,<- aq,XC]at aa;exact dB y2 m (dS (dP rfl (b0.trans s9) a7 (zan (λa h=>h.1) ab) (aQ.sublist aa)))
  .refine λσ H4=>eB λfa fs v4 v5=>eO λv6 v7 z0 s4 aw hL ax=>?_;subst z0;have gl:=QL rs part part.length;rw[ul,ze3]at hL;rw[ze3]at gl;have fl:fs.length<=16384:=by
    rw[jT hL,X9];exact X0 gl (U4 (by decide) pl)
   refine⟨_,rfl,fa,fs,_,rfl,SqL.of aw,zkD hL,by lia,λd' aM bp av ay b5 bc aI=>?_⟩;have y5:=zd (o:=.lst aM) av;have aJ:=ag.trans s4;refine q d' aM bp _ (aJ.free av) zc (jo y5 (zmw ay λv hv=>?_)) (aI.nodup_iff.mpr ax) b5 bc (aJ.trans y5);obtain⟨a1,wa,e,na,ha⟩:=QK hL (aI.mem_iff.mp hv);exact⟨a1,e,ag.free na,zk ha av⟩
abbrev iL (xs:List Int):AF:=xs.map V.int
def ints_get {xs:List Int}{i:Nat}{v:V}(h:(iL xs)[i]?=some v):∃x,xs[i]?=some x/\v=.int x:=by
 rw[Xo]at h;cases e:xs[i]? with
 | none=>rw[e]at h;cases h
 | some x =>
  rw[e]at h;cases h;exact⟨x,rfl,rfl⟩
def zjw {xs:List Int}{i:Nat}{x:Int}(h:xs[i]?=some x):(iL xs)[i]?=some (.int x):=by
 rw[Xo,h];rfl
def zmA {n:Nat}{k:Int}(h0:0<=k)(h1:k<n):ixN n k=some k.toNat:=by
 unfold ixN;rw[bw h0,bw h1]
def zou (xs:List Int)(z:Int):iL (xs++[z])=iL xs++[.int z]:=by
 show Tx V.int (xs++[z])=_;rw[Xj];rfl
def zcl (c:AA)(k:List (Int×Int)):Bool:=k.any λz=>decide (z=toI c)
def YI (rs:AE)(part:AD):List (List (Int×Int)):=((Subs.subs part).filter (Grow.fits (nearF rs) (jK rs) (JF rs part) part)).map toL
def zsh:Sp:=λf H Q _=>∃(c:Addr) (e:AF) (b:List (List (Int×Int))) (N:Addr->Prop) (g:Nat),f=[.ref c,.int (g:Nat)]/\H c=some (.lst e)/\jW N H e b/\(∀k∈b,k.length<=g)/\g<=64 /\
 ∀(d:Addr) (a:Hp),H d=none->a d=some (.lst (iL (Cnt.Jh g b)))->zu H a->Q (.ref d) a
def zov:Sp:=λi H Q _=>∃(f e:Addr) (h:AF) (a:List (List (Int×Int))) (N:Addr->Prop) (g:Nat) (c:AA),i=[.ref f,.int (g:Nat),.ref e]/\H f=some (.lst h)/\jW N H h a/\(∀k∈a,k.length<=g)/\g<=64/\a.length<=16384/\H e=some (.tup [.int (c.1:Nat),.int (c.2:Nat)]) /\
 ∀(d:Addr) (b:Hp),H d=none->b d=some (.lst (iL (Cnt.Jh g (a.filter (zcl c)))))->zu H b->Q (.ref d) b
def zsV (g:Addr):Sp:=λh H Q E=>∃(a l f:Addr) (e:AE) (n:Int) (c:AF) (part:AD),h=[.ref a,.ref f]/\qh H a l e n/\Rows bd.cps.toList e/\H f=some (.lst c)/\Cel H c part/\part.Nodup/\part.length<=64/\(14<part.length->∀b,zu H b->E (.ref g) none b)/\(part.length<=14 ->
 ∀(d:Addr) (b:Hp),H d=none->b d=some (.lst (iL (Cnt.Jh part.length (YI e part))))->zu H b->Q (.ref d) b)
def zhc (n:Nat):(WV n [V.int 0]).flatten=iL (WV n 0):=by
 induction n with
 | zero=>rfl
 | succ n a =>
  rw[VA,Wy,a];rfl
theorem zhd {α:Type}:∀(cs:List α) (b:Nat),(Subs.pick cs b).length<=cs.length
 | [],_=>WZ _
 | c::r,b=>by
  have:=zhd r (b/2);show ((if b%2=1 then [c] else [])++Subs.pick r (b/2)).length<=r.length+1;rw[XR];split
  .show 1+_<=_;lia
  .show 0+_<=_;lia
def zmB {α:Type}{cs q:List α}(h:q∈Subs.subs cs):q.length<=cs.length:=by
 rw[Subs.zbH]at h;obtain⟨b,_,rfl⟩:=XA.mp h;exact zhd cs b
def zdC {rs:AE}{part:AD}{k:List (Int×Int)}(h:k∈YI rs part):k.length<=part.length:=by
 obtain⟨a,h1,rfl⟩:=XA.mp h;show (a.map toI).length<=_;rw[X9];exact zmB (XQ.mp h1).1
def zkG {rs:AE}{part:AD}(h:part.length<=14):(YI rs part).length<=16384:=by
 unfold YI;rw[X9];refine X0 (WW _ _) ?_;rw[Subs.zbH,X9,Wc];exact X0 (U4 (by decide) h) (by decide)
def zao:zD ["found","greatest","counts","laying"] ["found","greatest"] (ze ZW):=bz
def zap (T:Txt mg)(D:zj K mg "counted" ZW ["found","greatest"] f fd):qz P w K mg base CX0 1 f fd ["found","greatest"] zsh:=by
 refine D.F.ok zao (λvs H Q E h=>?_) (λaa A I s H vs Q E hr h=>?_)
 .obtain⟨m,Y,G,N,g,rfl,_⟩:=h;rfl
 .revert h;refine eS λm Y G N g=>eK λz0 d M hk ab q=>?_;subst z0;refine⟨_,(@zf _ _ _ _ _ (@zx _ _ 2 _ _ _ _ zao.nd rfl (XI rfl) (@zC _ _ _ _ _ _ _ _ zhM (@qo _ _ _ _ (@za _ _ _ _ _ zh zb rfl)) (zC qP (pvS 1) zh)) (by rfl) (.inr rfl)) (zf (qS W3 rfl (zR (pvS 0)) (zv (i:=3) zao.nd rfl (XI rfl)) (zg (ziY (pvS 2) (zB zE (by rfl) T.qX Xf (za (pvS 3) zb)) zgp zh zk4 set_list))) (zg (zK (pvS 2))))),?_⟩;(try dsimp only[cxK,cxP,cxW]);refine⟨sz_1,λU B=>?_⟩;have s0:zu H (upd H U (.lst [.int 0])):=zd B;refine⟨_,rfl,_,_,rfl,rfl,U,_,_,rfl,rfl,zc,by lia,by lia,?_,λp O=>?_⟩
  .exact X0 (show 1*((g:Int)+1).toNat<=120 by lia) (by decide)
  rw[show ((g:Int)+1).toNat=g+1 by lia,zhc,<- Cnt.zl8 (α:=Int×Int)];have s1:=s0.trans (zd (o:=.lst (iL (Cnt.Jh g ([]:List (List (Int×Int)))))) O);have l:H p=none:=s0.free O;refine⟨_,rfl,m,rfl,⟨_,SqL.of (s1 _ _ d)⟩,?_⟩;refine yN (K:=K) (a:=m) (xs:=Y) (λi u x=>∃J,u=[some (.ref m),some (.int (g:Nat)),some (.ref p),J]/\zu H x/\x p=some (.lst (iL (Cnt.Jh g (G.take i)))))
   ⟨_,rfl,s1,zc⟩ (λi u x _ ⟨_,_,y,_⟩=>SqL.of (y _ _ d)) ?_ ?_
  .rintro i v u L hv ⟨J,rfl,r,b⟩;refine eL (λk a1 wa j z0 _ z t1=>?_) (za5 M hv);subst z0;have kl:=hk k (X7 j);have wl:=zg5 t1;refine⟨_,rfl,_,rfl,a1,wa,rfl,.inl (SqL.of (r _ _ z)),p,_,_,_,rfl,rfl,SqL.of b,Zw (by lia) (zjw (Cnt.zdh (n:=wa.length) _ (by lia))),_,_,rfl,rfl,p,_,_,_,rfl,rfl,b,zmA (by lia) (by rw[X9,Cnt.zaV];lia),?_⟩;refine⟨_,rfl,λc o e=>?_,?_⟩
   .rw[zo (zk e l)];exact r _ _ e
   .rw[zc,Xv,j];show _=some (HO.lst (iL (Cnt.Jh g (G.take i++[k]))));rw[Cnt.zkv _ kl,wl];show some (HO.lst ((Tx V.int _).set _ (V.int _)))=_;rw[<- List.map_set];rfl
  .rintro u L ⟨J,rfl,r,b⟩;rw[jT M,XC]at b;exact⟨_,rfl,q p L l b r⟩
def zdD:zD ["board","part"] ["board","part"] (ze xP):=bz
def zdE {jaj:Addr}(T:Txt mg)(Z:Prog K mg)(p:qi K mg "TooGreat" jaj){f:Addr}{fd:XM}(D:zj K mg "part_counts" xP ["board","part"] f fd):qz P w K mg base (CXE P w) 5 f fd ["board","part"] (zsV jaj):=by
 obtain⟨Qp,YU,B⟩:=Z.part_layings;obtain⟨ab,aa,z⟩:=Z.counted;refine D.F.okX zdD (λY H Q E h=>?_) (λJ A r s H Y Q E y h=>?_)
 .revert h;refine eB λa l v G=>eX λn g part z0 _=>?_;subst z0;rfl
 .revert h;refine eB λa l v G=>eL λn g part z0 b R j=>eH λc x u O q=>?_;subst z0;refine⟨_,(zg (zK (pc0 (zap T z) y z (za (pcL qx (YT T Z p B) y B (za (pvS 0) (za (pvS 1) zb))) (za (zB zE (by rfl) T.qX Xf (za (pvS 1) zb)) zb))))),?_⟩;(try dsimp only[cxK,cxP,cxW]);refine⟨_,rfl,_,rfl,a,l,v,G,n,g,part,rfl,b,R,j,c,x,u,O,λN d ws M H1 hd o L _ m _ s1=>?_⟩;refine⟨_,rfl,v,g,rfl,.inl (SqL.of (s1 _ _ j)),d,ws,M,_,g.length,rfl,o,L,λk hk=>?_,?_,λe I he i U=>?_⟩
  .rw[c.length];exact zdC (m.mem_iff.mp hk)
  .rw[c.length];lia
  .rw[c.length,Cnt.zbI m]at i;exact q N e I (s1.free he) i (s1.trans U)
def jc (rs:AE)(g S:AD):Bool:=Grow.fits (nearF rs) (jK rs) (JF rs g) g S
def QO {rs:AE}{o x:AA}:nearF rs o x=true↔x∈zM rs o:=Parts.zaU _ _
def zqI {rs:AE}{x:AA}(h:x∈qk rs):Cells.sgn (codes rs) x=63:=by
 obtain⟨t,k,c,b,hk,a⟩:=ql h;have:k=63:=by
  unfold Zo at hk;simpa using hk
 rw[a,this]
def YJ {rs:AE}{o x:AA}(a:x∈qk rs):nearF rs o x=true↔x∈clA rs o:=by
 rw[QO];constructor
 .exact λh=>XQ.mpr ⟨h,br (zqI a)⟩
 .exact λh=>(XQ.mp h).1
def zfQ {rs:AE}{g:AD}{o:AA}:o∈JF rs g↔o∈zY rs/\∃x∈g,nearF rs o x=true:=by
 unfold JF;rw[XQ,Tn,WE];refine and_congr_right λ_=>?_;constructor
 .rintro⟨z,hz,h⟩;have a:(g.any λx=>decide (x=z))=true:=h;exact⟨z,(Parts.zaU _ _).mp a,QO.mpr hz⟩
 .rintro⟨x,hx,h⟩;exact⟨x,QO.mp h,(Parts.zaU _ _).mpr hx⟩
section
variable {rs:AE}{gs:List AD}(G:Parts.Good (clA rs) (zY rs) gs)
include G
theorem yY:∀c∈gs.flatten,c∈qk rs:=λc a=>by
 obtain⟨o,_,h⟩:=G.from_ c a;exact Z3 h
theorem zow {g:AD}(f:g∈gs){o x:AA}(j:o∈JF rs g)(k:x∈qk rs)(i:nearF rs o x=true):x∈g:=by
 obtain⟨h1,y,h,h2⟩:=zfQ.mp j;have d:=yY G y (Ww.mpr ⟨g,f,h⟩);have b:=(YJ d).mp h2;obtain⟨l,c,a⟩:=G.cov o h1 (UL b);have e:=Parts.zbF G.nd c f (a y b) h;rw[<- e];exact a x ((YJ k).mp i)
theorem zjx {g:AD}(d:g∈gs){o:AA}(f:o∈JF rs g){a:AD}(h:∀c∈a,c∈qk rs/\c ∉ g):Grow.cnt (nearF rs) o a=0:=by
 unfold Grow.cnt;rw[Ua,VR];intro c b e;exact(h c b).2 (zow G d f (h c b).1 e)
theorem za8 {g:AD}(i:g∈gs):Tally.Loc (qk rs) (jc rs g) g:=by
 have e:∀S f:AD,(∀o∈JF rs g,Grow.cnt (nearF rs) o S=Grow.cnt (nearF rs) o f)->jc rs g S=jc rs g f:=λS f h=>by
  unfold jc Grow.fits;rw[WJ,WD,WD];constructor
  .intro k o c;have:=k o c;rwa [h o (XQ.mp c).1]at this
  .intro k o c;have:=k o c;rwa [<- h o (XQ.mp c).1]at this
 have d:∀(o:AA) (a b:AD),Grow.cnt (nearF rs) o (a++b)=Grow.cnt (nearF rs) o a+Grow.cnt (nearF rs) o b:=λo a b=>by
  unfold Grow.cnt;rw[W5,XR]
 refine⟨λa b h=>e _ _ λo c=>?_,λa b h=>e _ _ λo c=>?_⟩
 .rw[d,zjx G i c h,VD]
 .rw[d,zjx G i c h,Pp]
theorem zhe:(gs.map λg=>Tally.tl g (jc rs g)).foldl Pour.Zy [1]=Tally.tl gs.flatten (Tally.yk (jc rs) gs):=Tally.zij G.nd (yY G) λg a=>za8 G a
theorem zkH (i:Nat):((gs.take i).map λg=>Tally.tl g (jc rs g)).foldl Pour.Zy [1]=Tally.tl (gs.take i).flatten (Tally.yk (jc rs) (gs.take i)):=by
 have sub:(gs.take i).flatten.Sublist gs.flatten:=by
  have e:gs.flatten=(gs.take i).flatten++(gs.drop i).flatten:=by rw[<- Wo,WO]
  rw[e];exact S1 _ _
 exact Tally.zij (G.nd.sublist sub) (λc a=>yY G c (sub.subset a)) λg b=>za8 G (V0 b)
theorem Z8 (R:Rows bd.cps.toList rs):gs.flatten.length<=64:=by
 have h1:=Parts.yG G.nd (yY G);have h2:=zeZ R;lia
end
def ze7 (rs:AE)(part:AD):Cnt.Jh part.length (YI rs part)=Tally.tl part (jc rs part):=by
 unfold YI;rw[Tally.zgU part.length toL (λk=>X9 _)];exact Tally.zjs part _
def zkI (xs:List Int):Prop:=∀z∈xs,z.natAbs<2^8000
def zjy {cs:AD}{p:AD->Bool}{k:Nat}(h:cs.length<=64):Tally.T cs p k<=2^64:=by
 refine X0 List.countP_le_length ?_;rw[Subs.zbH,X9,Wc];exact U4 (by decide) h
def YK {cs:AD}{p:AD->Bool}(h:cs.length<=64):zkI (Tally.tl cs p):=λz a=>by
 unfold Tally.tl at a;obtain⟨k,_,rfl⟩:=XA.mp a;rw[Rt];exact Xx (zjy h) (OJ (by decide) (by decide))
def Z9 (rs:AE)(S:AD):Bool:=((zY rs).filter λo=>!(clA rs o).isEmpty).all λo=>decide (((Grow.cnt (nearF rs) o S:Nat):Int)=jK rs o)
def JH {rs:AE}{S:AD}:Z9 rs S=true ↔ ∀o∈zY rs,clA rs o ≠ []->((Grow.cnt (nearF rs) o S:Nat):Int)=jK rs o:=by
 unfold Z9;rw[WD];constructor
 .intro h o a b;exact bh (h o (XQ.mpr ⟨a,by rw[Wx];exact UG.mpr b⟩))
 .intro h o a;obtain⟨h1,h2⟩:=XQ.mp a;rw[Wx]at h2;exact br (h o h1 (UG.mp h2))
def zbQ {rs:AE}{gs:List AD}(G:Parts.Good (clA rs) (zY rs) gs)(S:AD):Tally.yk (jc rs) gs S=Z9 rs S:=by
 rw[WJ,JH];unfold Tally.yk jc Grow.fits;rw[WD];constructor
 .intro h o d i;obtain⟨x,b⟩:=UF _ i;obtain⟨g,e,a⟩:=G.cov o d i;have c:nearF rs o x=true:=(YJ (Z3 b)).mpr b;have:=h g e;rw[WD]at this;exact bh (this o (XQ.mpr ⟨zfQ.mpr ⟨d,x,a x b,c⟩,WE.mpr ⟨x,a x b,c⟩⟩))
 .intro h g e;rw[WD];intro o d;obtain⟨h1,x,b,c⟩:=zfQ.mp (XQ.mp d).1;have f:=yY G x (Ww.mpr ⟨g,e,b⟩);exact br (h o h1 (UL ((YJ f).mp c)))
def zmC {rs:AE}{gs:List AD}(G:Parts.Good (clA rs) (zY rs) gs){c:AA}:c∈gs.flatten↔c∈qk rs/\∃o∈zY rs,nearF rs o c=true:=by
 constructor
 .intro h;obtain⟨o,e,b⟩:=G.from_ c h;have d:=Z3 b;exact⟨d,o,e,(YJ d).mpr b⟩
 .rintro⟨d,o,e,hn⟩;have b:=(YJ d).mp hn;obtain⟨g,f,a⟩:=G.cov o e (UL b);exact Ww.mpr ⟨g,f,a c b⟩
def jM (rs:AE)(S:AD):Bool:=(zY rs).all λo=>decide (((Grow.cnt (nearF rs) o S:Nat):Int)=jK rs o)
def YL {rs:AE}{S:AD}:jM rs S=true ↔ ∀o∈zY rs,((Grow.cnt (nearF rs) o S:Nat):Int)=jK rs o:=by
 unfold jM;rw[WD];exact⟨λh o a=>bh (h o a),λh o a=>br (h o a)⟩
def zdG (rs:AE):Tally.Inv (jM rs):=λa b e=>by
 rw[WJ,YL,YL];have:∀o,Grow.cnt (nearF rs) o a=Grow.cnt (nearF rs) o b:=λo=>(e.filter _).length_eq;constructor
 .intro h o c;rw[<- this o];exact h o c
 .intro h o c;rw[this o];exact h o c
def zmD {rs:AE}:(jV rs).isEmpty=true ↔ ∀o∈zY rs,clA rs o=[]->jK rs o=0:=by
 rw[PN];unfold jV jK;rw[VR];constructor
 .intro h o a b;have:=h o (XQ.mpr ⟨a,by rw[b];rfl⟩);rw[Wx,Bool.not_eq_false]at this;rw[bh this];rfl
 .intro h o a;obtain⟨h1,h2⟩:=XQ.mp a;have:=h o h1 (PN.mp h2);rw[Wx,Bool.not_eq_false];exact br (by lia)
def za9 {rs:AE}{S:AD}(d:∀c∈S,c∈qk rs):jM rs S=((jV rs).isEmpty&&Z9 rs S):=by
 have z:∀o,clA rs o=[]->Grow.cnt (nearF rs) o S=0:=λo a=>by
  unfold Grow.cnt;rw[Ua,VR];intro c b e;have:=(YJ (d c b)).mp e;rw[a]at this;cases this
 rw[WJ,VC,YL,zmD,JH];constructor
 .intro h;refine⟨λo a b=>?_,λo a _=>h o a⟩;rw[<- h o a,z o b];rfl
 .rintro⟨h1,h2⟩ o a;by_cases b:clA rs o=[]
  .rw[z o b,h1 o a b];rfl
  .exact h2 o a b
def zjz {rs:AE}{c o:AA}(a:c∈yq rs)(b:o∈zY rs):nearF rs o c=false:=by
 unfold yq at a;have h:=(XQ.mp a).2;rw[Wx,Tn,Re]at h;exact WP.mpr (h o b)
def zdH {rs:AE}{a b:AD}(i:∀c∈b,c∈yq rs):Z9 rs (a++b)=Z9 rs a:=by
 have e:∀o∈zY rs,Grow.cnt (nearF rs) o (a++b)=Grow.cnt (nearF rs) o a:=λo d=>by
  unfold Grow.cnt;rw[W5,XR];have:b.filter (nearF rs o)=[]:=VR.mpr λc f g=>by
   rw[zjz (i c f) d]at g;cases g
  rw[this];rfl
 rw[WJ,JH,JH];constructor
 .intro h o d f;rw[<- e o d];exact h o d f
 .intro h o d f;rw[e o d];exact h o d f
def zba {rs:AE}{c:AA}(h:c∈yq rs):c∈qk rs:=(XQ.mp h).1
def zaq (rs:AE):(qk rs).Nodup:=jS (Cells.yj _ 0 (codes rs))
def ze8 (rs:AE):(yq rs).Nodup:=(zaq rs).sublist Wi
section
variable {rs:AE}{gs:List AD}(G:Parts.Good (clA rs) (zY rs) gs)
include G
theorem zbb {c:AA}:c∈yq rs↔c∈qk rs/\c ∉ gs.flatten:=by
 rw[zmC G];constructor
 .intro h;refine⟨zba h,?_⟩;rintro⟨_,o,b,a⟩;rw[zjz h b]at a;cases a
 .rintro⟨h1,h2⟩;unfold yq;refine XQ.mpr ⟨h1,?_⟩;rw[Wx,Tn,Re];intro o b a;exact h2 ⟨h1,o,b,a⟩
theorem zbR:(qk rs).Perm (gs.flatten++yq rs):=by
 refine(V3 (zaq rs) (Wb.mpr ⟨G.nd,ze8 rs,λa f b g e=>?_⟩)).mpr λc=>?_
 .subst e;exact((zbb G).mp g).2 f
 .rw[XO,zbb G];constructor
  .intro h;by_cases d:c∈gs.flatten
   .exact .inl d
   .exact .inr ⟨h,d⟩
  .rintro(h | h)
   .exact yY G c h
   .exact h.1
theorem count_is (s:Nat):(if (jV rs).isEmpty=true then Tally.dl (Tally.tl gs.flatten (Tally.yk (jc rs) gs)) (yq rs).length ((s:Nat):Int) else 0)=((Tally.T (qk rs) (jM rs) s:Nat):Int):=by
 rw[Tally.zfJ (zbR G) (zdG rs)];have f:∀a∈Subs.subs gs.flatten,∀b∈Subs.subs (yq rs),jM rs (a++b)=((jV rs).isEmpty&&Tally.yk (jc rs) gs a):=λa e b i=>by
  have sa:=(Tally.yT e).subset;have k:=(Tally.yT i).subset;rw[za9 λc j=>(XO.mp j).elim (λh=>yY G c (sa h)) λh=>zba (k h),zdH λc j=>k j,zbQ G]
 cases i:(jV rs).isEmpty with
 | true =>
  rw[bw rfl];refine Tally.zpi (λa e b d=>?_) s;rw[f a e b d,i,P1]
 | false =>
  rw[bq (by decide),Tally.zcD λS g=>?_]
  .rfl
  .rw[Tally.zaX]at g;obtain⟨b,d,g⟩:=Uc.mp g;obtain⟨a,e,rfl⟩:=XA.mp g;rw[f a e b d,i,SG]
theorem zmE (c:AA):Tally.Inv λS=>jM rs S&&decide (c∈S):=λa b e=>by
 show (jM rs a&&decide (c∈a))=(jM rs b&&decide (c∈b));rw[zdG rs a b e,show decide (c∈a)=decide (c∈b) from decide_eq_decide.mpr e.mem_iff]
theorem zqJ {c:AA}(f:c∈yq rs)(s:Nat):(if (jV rs).isEmpty=true then Tally.dl (Tally.tl gs.flatten (Tally.yk (jc rs) gs)) ((yq rs).length-1) (((s:Nat):Int)-1) else 0)=((Tally.T (qk rs) (λS=>jM rs S&&decide (c∈S)) s:Nat):Int):=by
 rw[Tally.zfJ (zbR G) (zmE G c)];have i:∀a∈Subs.subs gs.flatten,∀b∈Subs.subs (yq rs),(jM rs (a++b)&&decide (c∈a++b))=((jV rs).isEmpty&&(Tally.yk (jc rs) gs a&&decide (c∈b))):=λa g b k=>by
  have sa:=(Tally.yT g).subset;have l:=(Tally.yT k).subset;have e:decide (c∈a++b)=decide (c∈b):=decide_eq_decide.mpr ⟨λh=>(XO.mp h).elim (λh=>absurd (sa h) ((zbb G).mp f).2) id,λh=>XD _ h⟩;rw[za9 λc f=>(XO.mp f).elim (λh=>yY G c (sa h)) λh=>zba (l h),zdH λc f=>l f,zbQ G,e,Ry]
 cases k:(jV rs).isEmpty with
 | true =>
  rw[bw rfl];refine Tally.zoj f (ze8 rs) (λa g b d=>?_) s;rw[i a g b d,k,P1];exact congrArg _ (decide_eq_decide.mpr Iff.rfl)
 | false =>
  rw[bq (by decide),Tally.zcD λS j=>?_]
  .rfl
  .rw[Tally.zaX]at j;obtain⟨b,d,j⟩:=Uc.mp j;obtain⟨a,g,rfl⟩:=XA.mp j;rw[i a g b d,k,SG]
end
def zfR (A B:List AD)(g:AD):(A++g::B).flatten.Perm ((A++B).flatten++g):=by
 rw[Wo,Wo,Wy,WY];exact(TN (l₁:=g) (l₂:=B.flatten)).append_left _
def zjA {rs:AE}{A B:List AD}{g:AD}(G:Parts.Good (clA rs) (zY rs) (A++g::B)){c:AA}(i:c∈g):Pour.Zy (Tally.tl (A++B).flatten (Tally.yk (jc rs) (A++B))) (Tally.tl g λS=>jc rs g S&&decide (c∈S))=Tally.tl ((A++B).flatten++g) λS=>Tally.yk (jc rs) (A++B) S&&(jc rs g S&&decide (c∈S)):=by
 have j:=zfR A B g;have o:((A++B).flatten++g).Nodup:=j.nodup_iff.mp G.nd;have n:∀x∈(A++B).flatten++g,x∈qk rs:=λx d=>yY G x (j.mem_iff.mpr d);have f:g∈A++g::B:=by simp
 have e:∀x∈A++B,x∈A++g::B:=λx d=>by
  rcases XO.mp d with h | h
  .exact W2 _ h
  .exact XD _ (XW _ h)
 have L:=za8 G f;have m:Tally.Loc (qk rs) (λS=>jc rs g S&&decide (c∈S)) g:=by
  refine⟨λa b h=>?_,λa b h=>?_⟩
  .show (jc rs g (a++b)&&decide (c∈a++b))=(jc rs g b&&decide (c∈b));rw[L.l a b h,show decide (c∈a++b)=decide (c∈b) from decide_eq_decide.mpr ⟨λk=>(XO.mp k).elim (λk=>absurd i (h c k).2) id,λk=>XD _ k⟩]
  .show (jc rs g (a++b)&&decide (c∈a++b))=(jc rs g a&&decide (c∈a));rw[L.r a b h,show decide (c∈a++b)=decide (c∈a) from decide_eq_decide.mpr ⟨λk=>(XO.mp k).elim id λk=>absurd i (h c k).2,λk=>W2 _ k⟩]
 exact Tally.zdl o n (λx d=>za8 G (e x d)) m
def zox {rs:AE}{A B:List AD}{g:AD}(G:Parts.Good (clA rs) (zY rs) (A++g::B)){c:AA}(f:c∈g)(s:Nat) :
  (if (jV rs).isEmpty=true then Tally.dl (Pour.Zy (Tally.tl (A++B).flatten (Tally.yk (jc rs) (A++B))) (Tally.tl g λS=>jc rs g S&&decide (c∈S))) (yq rs).length ((s:Nat):Int) else 0)=((Tally.T (qk rs) (λS=>jM rs S&&decide (c∈S)) s:Nat):Int):=by
 have o:=zfR A B g;have q:∀x∈(A++B).flatten++g,x∈qk rs:=λx r=>yY G x (o.mem_iff.mpr r);have m:g∈A++g::B:=by simp
 rw[zjA G f];have hP:(qk rs).Perm ((A++B).flatten++g++yq rs):=(zbR G).trans (o.append_right _);rw[Tally.zfJ hP (zmE G c)];have j:∀a∈Subs.subs ((A++B).flatten++g),∀b∈Subs.subs (yq rs),(jM rs (a++b)&&decide (c∈a++b))=((jV rs).isEmpty&&(Tally.yk (jc rs) (A++B) a&&(jc rs g a&&decide (c∈a)))):=λa i b l=>by
  have sa:=(Tally.yT i).subset;have n:=(Tally.yT l).subset;have e:decide (c∈a++b)=decide (c∈a):=decide_eq_decide.mpr ⟨λh=>(XO.mp h).elim id λh=>absurd (Ww.mpr ⟨g,m,f⟩) ((zbb G).mp (n h)).2,λh=>W2 _ h⟩;have p:Tally.yk (jc rs) (A++g::B) a=(Tally.yk (jc rs) (A++B) a&&jc rs g a):=by
   rw[Tally.zdk,Tally.zdk];show (_&&(jc rs g a&&Tally.yk (jc rs) B a))=_;rw[R6 (jc rs g a),Ry]
  rw[za9 λc f=>(XO.mp f).elim (λh=>q c (sa h)) λh=>zba (n h),zdH λc f=>n f,<- zbQ G,p,e,Ry,Ry]
 cases l:(jV rs).isEmpty with
 | true =>
  rw[bw rfl];refine Tally.zpi (λa i b d=>?_) s;show (jM rs (a++b)&&decide (c∈a++b))=_;rw[j a i b d,l,P1]
 | false =>
  rw[bq (by decide),Tally.zcD λS k=>?_]
  .rfl
  .rw[Tally.zaX]at k;obtain⟨b,d,k⟩:=Uc.mp k;obtain⟨a,i,rfl⟩:=XA.mp k;rw[j a i b d,l,SG]
def zqK (K:X5):Sp:=λf H Q _=>∃(a b:Addr) (c d:List Int),f=[.ref a,.ref b]/\SqL K H a (iL c)/\SqL K H b (iL d)/\1<=c.length/\c.length<=70/\1<=d.length/\d.length<=70/\zkI c/\zkI d /\
 ∀(l:Addr) (e:Hp),H l=none->e l=some (.lst (iL (Pour.Zy c d)))->zu H e->Q (.ref l) e
def xj (H:Hp):AF->List (List Int)->Prop:=WU λv b=>∃a,v=V.ref a/\H a=some (.lst (iL b))
def xw {H c:Hp}(s:zu H c){d:AF}{b:List (List Int)}(f:xj H d b):xj c d b:=by
 induction f with
 | nil=>exact .nil
 | cons q _ g =>
  obtain⟨a,e,h⟩:=q;exact .cons ⟨a,e,s _ _ h⟩ g
def QS {H:Hp}{b:AF}{a:List (List Int)}(h:xj H b a):b.length=a.length:=Paired.length h
def zmF {H:Hp}{c:AF}{b:List (List Int)}{i:Nat}{v:V}(h:xj H c b)(e:c[i]?=some v):∃xs a,b[i]?=some xs/\v=V.ref a/\H a=some (.lst (iL xs)):=by
 obtain⟨S,h1,a,h2⟩:=zgo h e;exact⟨S,a,h1,h2⟩
structure ziw (xss:List (List Int)):Prop where
 one:∀xs∈xss,1<=xs.length/\xs.length<=70/\zkI xs
 acc:∀i,1<=((xss.take i).foldl Pour.Zy [1]).length/\((xss.take i).foldl Pour.Zy [1]).length<=70/\zkI ((xss.take i).foldl Pour.Zy [1])
def zqL:Sp:=λf H Q _=>∃(c:Addr) (e:AF) (a:List (List Int)),f=[.ref c]/\H c=some (.lst e)/\xj H e a/\ziw a /\
 ∀(d:Addr) (b:Hp),H d=none->b d=some (.lst (iL (a.foldl Pour.Zy [1])))->zu H b->Q (.ref d) b
def tls (rs:AE)(gs:List AD):List (List Int):=gs.map λg=>Tally.tl g (jc rs g)
def zmG {rs:AE}(R:Rows bd.cps.toList rs){gs:List AD}(G:Parts.Good (clA rs) (zY rs) gs):ziw (tls rs gs):=by
 have a:=Z8 G R;refine⟨λh f=>?_,λi=>?_⟩
 .obtain⟨g,d,rfl⟩:=XA.mp f;have c:g.length<=64:=X0 (VQ (V9 d)) a;rw[Tally.j8];exact⟨by lia,by lia,YK c⟩
 .unfold tls;rw[<- R8,zkH G i];have b:(gs.take i).flatten.length<=64:=by
   have e:gs.flatten=(gs.take i).flatten++(gs.drop i).flatten:=by rw[<- Wo,WO]
   rw[e,XR]at a;lia
  rw[Tally.j8];exact⟨by lia,by lia,YK b⟩
def zqM (e:Addr):Sp:=λf H Q E=>∃(p l:Addr) (b:AE) (n:Int),f=[.ref p]/\qh H p l b n/\Rows bd.cps.toList b/\(∀a,Parts.Good (clA b) (zY b) a->(∃g∈a,14<g.length)->∀c,zu H c->E (.ref e) none c) /\
 ∀(d:Addr) (a:List AD) (c:Hp),H d=none->(∀g∈a,g.length<=14)->Parts.Good (clA b) (zY b) a->Up2 (heads a)->c d=some (.lst (iL (Tally.tl a.flatten (Tally.yk (jc b) a))))->zu H c->Q (.ref d) c
def JL:zD ["one","other","counts","i","many","j","more"] ["one","other"] (ze zaY):=bz
def ze9 (T:Txt mg)(D:zj K mg "poured" zaY ["one","other"] f fd):qz P w K mg base CX0 1 f fd ["one","other"] (zqK K):=by
 refine D.F.ok JL (λvs H Q E h=>?_) (λae A ac s H vs Q E hr h=>?_)
 .obtain⟨a,b,xs,k,rfl,_⟩:=h;rfl
 .revert h;refine eB λa b xs k=>eH λz0 O U x1=>eK λx2 y1 y2 bx bY q=>?_;subst z0;refine⟨_,(@zf _ _ _ _ _ (@zx _ _ 2 _ _ _ _ JL.nd rfl (XI rfl) (@zC _ _ _ _ _ _ _ _ zhM (@qo _ _ _ _ (@za _ _ _ _ _ zh zb rfl)) (zC yv (zC qP (zB zE (by rfl) T.qX Xf (za (pvS 0) zb)) (zB zE (by rfl) T.qX Xf (za (pvS 1) zb))) zh)) (by rfl) (.inr rfl)) (zf (qS W3 rfl (JP (by rfl) T.jw (za (pvS 0) zb)) (Zv rfl (qf (zv (i:=3) JL.nd rfl (XI rfl)) (qf (zv (i:=4) JL.nd rfl (XI rfl)) yi))) (zg (qS W3 rfl (JP (by rfl) T.jw (za (pvS 1) zb)) (Zv rfl (qf (zv (i:=5) JL.nd rfl (XI rfl)) (qf (zv (i:=6) JL.nd rfl (XI rfl)) yi))) (zg (ziY (pvS 2) (zC qP (pvS 3) (pvS 5)) zgp (zC Zd (pvS 4) (pvS 6)) zk4 set_list))))) (zg (zK (pvS 2))))),?_⟩;(try dsimp only[cxK,cxP,cxW]);refine⟨sz_1,λl0 Y=>?_⟩;have s0:zu H (upd H l0 (.lst [.int 0])):=zd Y;refine⟨_,rfl,a,_,rfl,.inl (s0.seq O),_,rfl,b,_,rfl,.inl (s0.seq U),_,_,rfl,rfl,_,_,rfl,rfl,l0,_,_,rfl,rfl,zc,?_,?_,?_,λp hp=>?_⟩
  .rw[X9,X9];lia
  .rw[X9,X9];lia
  .rw[X9,X9];exact X0 (show 1*((xs.length:Int)+(k.length:Int)-1).toNat<=140 by lia) (by decide)
  have en:(((iL xs).length:Nat)+((iL k).length:Nat)-1:Int).toNat=xs.length+k.length-1:=by
   rw[X9,X9];lia
  rw[en,zhc,<- Pour.zma];have s1:zu H (upd (upd H l0 (.lst [.int 0])) p (.lst (iL (Pour.st xs k 0 0)))):=s0.trans (zd hp);have G:H p=none:=s0.free hp;refine⟨_,rfl,a,rfl,⟨_,s1.seq O⟩,?_⟩;refine JJ (K:=K) (l:=a) (xs:=iL xs) (λi m n=>∃v3 v4 r u,m=[some (.ref a),some (.ref b),some (.ref p),v3,v4,r,u]/\zu H n/\n p=some (.lst (iL (Pour.st xs k i 0))))
   ⟨_,_,_,_,rfl,s1,zc⟩ (λi m n _ ⟨_,_,_,_,_,s,_⟩=>s.seq O) ?_ ?_
  .refine λi v t m L hv ht=>eB λv3 v4 r u=>eF λz0 M d=>?_;subst z0;obtain⟨x,hx,rfl⟩:=ints_get hv;have st:zu L (upd L t (.tup [.int (i:Nat),.int x])):=zd ht;refine dH t rfl (SqT.of zc) rfl rfl rfl rfl ?_;refine⟨_,rfl,b,rfl,⟨_,(M.trans st).seq U⟩,?_⟩;refine JJ (K:=K) (l:=b) (xs:=iL k) (λj m n=>∃r u,m=[some (.ref a),some (.ref b),some (.ref p),some (.int (i:Nat)),some (.int x),r,u]/\zu H n/\n p=some (.lst (iL (Pour.st xs k i j))))
    ⟨_,_,rfl,M.trans st,st _ _ d⟩ (λj m n _ ⟨_,_,_,s,_⟩=>s.seq U) ?_ ?_
   .refine λj v t2 m N ab aa=>eZ λr u z0 s3 g=>?_;subst z0;obtain⟨y,hy,rfl⟩:=ints_get ab;have J:zu N (upd N t2 (.tup [.int (j:Nat),.int y])):=zd aa;have I:=J _ _ g;have hi:i<xs.length:=(XZ.mp hx).1;have hj:j<k.length:=(XZ.mp hy).1;have B:((i:Int)+(j:Int)).toNat=i+j:=by lia
    refine dH t2 rfl (SqT.of zc) rfl rfl rfl rfl ?_;refine⟨_,rfl,_,rfl,_,rfl,_,_,rfl,rfl,p,_,_,_,rfl,rfl,SqL.of I,Zw (by lia) (by rw[B];exact zjw (Pour.zig (by lia))),?_⟩;refine⟨_,rfl,_,rfl,_,_,rfl,rfl,zrJ (bx _ (X7 hx)) (bY _ (X7 hy)),_,_,rfl,rfl,p,_,_,_,rfl,rfl,I,zmA (by lia) (by rw[X9,Pour.zif];lia),?_⟩;refine⟨_,_,rfl,λc o e=>?_,?_⟩
    .have hc:c≠p:=λz=>by
      subst z;rw[G]at e;cases e
     rw[zo hc];exact J _ _ (s3 _ _ e)
    .rw[zc,B,<- Pour.zod hx hy];show some (HO.lst ((Tx V.int _).set _ (V.int _)))=_;rw[<- List.map_set]
   .rintro m N ⟨r,u,rfl,s3,g⟩;rw[X9,Pour.zqy]at g;exact⟨_,_,_,_,rfl,s3,g⟩
  .rintro m L ⟨v3,v4,r,u,rfl,M,d⟩;rw[X9,Pour.zqz]at d;exact⟨_,rfl,q p L G d M⟩
def xV:zD ["lists","counts","others"] ["lists"] (ze Jz):=bz
def ZC (T:Txt mg)(Z:Prog K mg)(D:zj K mg "all_poured" Jz ["lists"] f fd):qz P w K mg base CX0 2 f fd ["lists"] zqL:=by
 obtain⟨ab,aa,z⟩:=Z.poured;refine D.F.ok xV (λvs H Q E h=>?_) (λM A r s H vs Q E O h=>?_)
 .obtain⟨l,J,k,rfl,_⟩:=h;rfl
 .revert h;refine eL λl J k z0 g I ok q=>?_;subst z0;refine⟨_,(@zf _ _ _ _ _ (@zx _ _ 1 _ _ _ _ xV.nd rfl (XI rfl) (@qo _ _ _ _ (@za _ _ _ _ _ zh zb rfl)) (by rfl) (.inr rfl)) (zf (qS W3 rfl (zR (pvS 0)) (zv (i:=2) xV.nd rfl (XI rfl)) (zg (zx (i:=1) xV.nd rfl (XI rfl) (pc0 (ze9 T z) O z (za (pvS 1) (za (pvS 2) zb)))))) (zg (zK (pvS 1))))),?_⟩;(try dsimp only[cxK,cxP,cxW]);refine⟨sz_1,λB e=>?_⟩;have s0:zu H (upd H B (.lst [.int 1])):=zd e;refine⟨_,rfl,l,rfl,⟨_,SqL.of (s0 _ _ g)⟩,?_⟩;refine yN (K:=K) (a:=l) (xs:=J) (λi m n=>∃(c:Addr) (u:Option V),m=[some (.ref l),some (.ref c),u]/\zu H n/\H c=none/\n c=some (.lst (iL ((k.take i).foldl Pour.Zy [1]))))
   ⟨B,_,rfl,s0,e,zc⟩ (λi m n _ ⟨_,_,_,y,_⟩=>SqL.of (y _ _ g)) ?_ ?_
  .rintro i v m x U ⟨c,u,rfl,s1,G,b⟩;obtain⟨xs,L,j,rfl,o⟩:=zmF I U;obtain⟨Y,o2,o3⟩:=ok.one xs (X7 j);obtain⟨p1,p2,p3⟩:=ok.acc i;refine⟨_,rfl,_,rfl,c,L,_,xs,rfl,SqL.of b,SqL.of (s1 _ _ o),p1,p2,Y,o2,p3,o3,λd H2 N p s2=>?_⟩;refine⟨d,_,rfl,s1.trans s2,s1.free N,?_⟩;rw[p,Xv,j,TL];rfl
  .rintro m x ⟨c,u,rfl,s1,G,b⟩;rw[QS I,XC]at b;exact⟨_,rfl,q c x G b s1⟩
def zdI:zD ["board"] ["board"] (ze yr):=bz
def zdJ {jaj:Addr}(T:Txt mg)(Z:Prog K mg)(ai:qi K mg "TooGreat" jaj)(D:zj K mg "near_counts" yr ["board"] f fd):qz P w K mg base (CXE P w) 6 f fd ["board"] (zqM jaj):=by
 obtain⟨am,QM,zZ⟩:=Z.around;obtain⟨yH,j9,zq⟩:=Z.sign_at;obtain⟨yb,jG,zw⟩:=Z.cells_of;obtain⟨YF,ZA,zL⟩:=Z.open_cells;obtain⟨Qo,YG,jf⟩:=Z.number_at;obtain⟨an,ao,JG⟩:=Z.numbers_of;obtain⟨aq,ap,YH⟩:=Z.needs_at;obtain⟨av,ar,QN⟩:=Z.may_fit;obtain⟨Qp,YU,qO⟩:=Z.part_layings;obtain⟨aw,au,jU⟩:=Z.counted;obtain⟨a4,a1,xW⟩:=Z.part_counts;obtain⟨YV,Yb,qd⟩:=Z.closed_around;obtain⟨a2,az,Z5⟩:=Z.joined;obtain⟨a5,a3,af⟩:=Z.parts;obtain⟨ay,ax,jN⟩:=Z.all_poured;refine D.F.okX zdI (λvs H Q E h=>?_) (λak A aj s H vs Q E hr h=>?_)
 .obtain⟨p,l,r,n,rfl,_⟩:=h;rfl
 .revert h;refine eB λp l r n=>eH λz0 b R qg q=>?_;subst z0;refine⟨_,(zg (zK (pc0 (ZC T Z jN) hr jN (za (zl3 qx (N:=["part","board"]) (src:=[none,some 0]) (zV.free (O:=(ze yr).names) (XN:=["board"]) rfl rfl ⟨_,rfl⟩ rfl rfl (by decide+kernel) (by decide+kernel) (by decide+kernel) rfl (by decide+kernel)) rfl (zR (pc0 (zg4 T af zZ zq zw zL qd Z5) hr af (za (pvS 0) zb))) (λ_ _ _ _ _=>(zv (i:=0) (by show W6 (["part","board"]:AE);decide+kernel) rfl (XI rfl))) (λ_ _ _ _ _=>qV) (λ_ _ _ _ _=>(zcs (zdE T Z ai xW) (hr.mono (by decide)) (by rfl) xW.g xW.F.kp xW.b .nil zaR (za (pvS 1) (za (pvS 0) zb))))) zb)))),?_⟩;(try dsimp only[cxK,cxP,cxW]);refine⟨_,rfl,p,l,r,n,rfl,b,R,λd ws c H1 hd ab hG _ _ G up s1=>⟨d,rfl,⟨_,SqL.of ab⟩,λz hz=>?_⟩⟩;have al:c.length<=64:=X0 (Parts.Qi G.ne) (Z8 G R);refine qw (K:=K) (a:=d) (xs:=ws) (λj B H'=>∃(u0:Option V) (I:AF),B=[u0,some (.ref p)]/\zu H1 H'/\H' z=some (.lst I)/\(∀v∈I,∀a,v=V.ref a->a≠z)/\(∀g∈c.take j,g.length<=14)/\xj H' I (tls r (c.take j)))
   ⟨_,[],rfl,zd hz,zc,(λ_ h=>nomatch h),(λ_ h=>nomatch h),.nil⟩ (λj B H' _ ⟨_,_,_,y,_⟩=>SqL.of (y _ _ ab)) ?_ ?_
  .refine λj v B H2 hv=>fk λu0 I=>eK λz0 Y u nz x m=>?_;subst z0;refine eE (λg hg=>eZ λga ug z0 ah ag=>?_) (yC.get (hG.mono Y) hv);subst z0;have gm:=X7 hg;have il:=(XZ.mp hg).1;have aa:g.length<=64:=X0 (VQ (V9 gm)) (Z8 G R);unfold Q0;refine zfP ?_;refine⟨_,rfl,_,rfl,p,l,ga,r,n,ug,g,rfl,(b.mono s1).mono Y,R,ah,ag,jS (G.srt g gm),aa,λJ U L=>qg c G ⟨g,gm,J⟩ U ((s1.trans Y).trans L),λJ e U he k L=>?_⟩;rw[ze7]at k;have ez:e≠z:=λy=>by
    subst y;rw[u]at he;cases he
   refine⟨_,(dF (L _ _ u) ?_ ⟨_,(dX (I++[.ref e]) rfl (λb o e'=>?_) zc (λv hv a ea=>?_) (λg' ac=>?_) ?_)⟩)⟩
   .rw[QS m];unfold tls;rw[X9,XG];exact Xx (show _<=64 by lia) (by decide)
   .rw[zo (zk e' hz)];exact L _ _ (Y _ _ e')
   .rcases XO.mp hv with hv | hv
    .exact nz v hv a ea
    .have:v=V.ref e:=by simpa using hv
     rw[this]at ea;cases ea;exact ez
   .rw[Xv,hg]at ac;rcases XO.mp ac with y | y
    .exact x g' y
    .have y:g'=g:=by simpa using y
     rw[y];exact J
   .have t1:tls r (c.take (j+1))=tls r (c.take j)++[Tally.tl g (jc r g)]:=by
     unfold tls;rw[Xv,hg,Xj];rfl
    rw[t1];have into:∀{us:AF} {M:List (List Int)},xj U us M->(∀v∈us,∀a,v=V.ref a->a≠z)->xj (upd U z (.lst (I++[.ref e]))) us M:=by
     intro us M h;induction h with
     | nil=>exact λ_=>.nil
     | cons h t ih =>
      intro nz;obtain⟨a,rfl,ha⟩:=h;exact .cons ⟨a,rfl,by rw[zo (nz _ XV a rfl)];exact ha⟩ (ih λv hv=>nz v (XW _ hv))
    exact Paired.snoc (into (xw L m) nz) ⟨e,rfl,by rw[zo ez];exact k⟩
  rintro B H2 ⟨u0,I,rfl,Y,u,_,x,m⟩;rw[hG.length,XC]at m x;refine⟨z,I,tls r c,rfl,u,m,zmG R G,λe U he k L=>?_⟩;have ae:=s1.trans Y;rw[show (tls r c).foldl Pour.Zy [1]=Tally.tl c.flatten (Tally.yk (jc r) c) from zhe G]at k;exact q e c U (ae.free he) x G up k (ae.trans L)
def chV (n k:Int):Int:=if 0<=k/\k<=n then ((Choose.ch n.toNat k.toNat:Nat):Int) else 0
def zoz (m:Nat)(k:Int):chV (m:Nat) k=Tally.chZ m k:=by
 unfold chV Tally.chZ;rw[UA];by_cases h0:k<0
 .rw[bq (by lia),bw h0]
 .rw[bq h0];by_cases h1:k<=(m:Int)
  .rw[bw ⟨by lia,h1⟩]
  .rw[bq (by lia),Choose.zbJ m k.toNat (by lia)];rfl
def zoA {n k:Int}(h:n<=64):(chV n k).natAbs<2^8000:=by
 have h1:(2:Nat)^64<2^8000:=OJ (by decide) (by decide);have a:(0:Nat)<2^8000:=Xx (WZ _) h1;unfold chV;split
 .rw[Rt];exact Xx (X0 (Choose.zr8 _ _) (U4 (by decide) (show n.toNat<=64 by lia))) h1
 .exact a
def dlV (xs:List Int)(m st:Int):Int:=Pour.S (λk=>Pour.F xs k*chV m (st-(k:Nat))) xs.length
def zfT (xs:List Int)(m:Nat)(st:Int):dlV xs (m:Nat) st=Tally.dl xs m st:=by
 unfold dlV Tally.dl;exact Pour.Zi _ λi _=>by rw[zoz]
theorem zpm (h:Nat->Int):∀n,((Wh n).map h).sum=Pour.S h n
 | 0=>rfl
 | n+1=>by
  rw[List.range_succ,Xj,List.sum_append,zpm h n];show _+(h n+0)=Pour.S h n+h n;lia
def zsW:Sp:=λa H Q _=>∃(n k:Int),a=[.int n,.int k]/\n<=64/\Q (.int (chV n k)) H
def zoB:Sp:=λd H Q _=>∃(c:Addr) (a:List Int) (m st:Int),d=[.ref c,.int m,.int st]/\H c=some (.lst (iL a))/\zkI a/\a.length<=150/\m<=64/\∀b,zu H b->Q (.int (dlV a m st)) b
def yc (rs:AE)(n:Int):Int:=((Tally.T (qk rs) (jM rs) n.toNat:Nat):Int)
def zoC (d:Addr):Sp:=λe H Q E=>∃(p l:Addr) (a:AE) (n:Int),e=[.ref p]/\qh H p l a n/\Rows bd.cps.toList a/\(∀c,Parts.Good (clA a) (zY a) c->(∃g∈c,14<g.length)->∀b,zu H b->E (.ref d) none b)/\0<=n/\∀c,Parts.Good (clA a) (zY a) c->(∀g∈c,g.length<=14)->∀b,zu H b->Q (.int (yc a n)) b
def YM:zD ["n","k","found","step"] ["n","k"] (ze QF):=bz
def zix (T:Txt mg)(D:zj K mg "choices" QF ["n","k"] f fd):qz P w K mg base CX0 1 f fd ["n","k"] zsW:=by
 refine D.F.ok YM (λo H Q E h=>?_) (λj A d s H o Q E r h=>?_)
 .obtain⟨n,k,rfl,_⟩:=h;rfl
 .obtain⟨n,k,rfl,u,q⟩:=h;refine⟨_,(zf (qL (zai (Y5 Zx Zx zh (pvS 1) (pvS 0))) (@zg _ _ _ (@zK _ _ _ _ zh)) qc) (@zf _ _ _ _ _ (@zx _ _ 2 _ _ _ _ YM.nd rfl (XI rfl) zh (by rfl) (.inr rfl)) (zf (qS W3 rfl (yD (by rfl) T.xR (za (pvS 1) zb)) (zv (i:=3) YM.nd rfl (XI rfl)) (zg (zx (i:=2) YM.nd rfl (XI rfl) (zC qq (zC Zd (pvS 2) (zC yv (pvS 0) (pvS 3))) (zC qP (pvS 3) zh))))) (zg (zK (pvS 2)))))),?_⟩;(try dsimp only[cxK,cxP,cxW]);refine⟨_,rfl,_,_,rfl,rfl,_,rfl,?_⟩;unfold chV at q;refine zch (λc=>?_) (λc=>?_)
  .have b:(0:Int)<=k:=bh c;refine⟨_,rfl,_,_,rfl,rfl,_,rfl,?_⟩;by_cases c:k<=n
   .rw[bw ⟨b,c⟩]at q;rw[br c];refine QW ?_;refine⟨_,rfl,k,rfl,by lia,by lia,?_⟩;refine jC (lo:=0) (n:=k.toNat) (λi g a=>∃v,g=[some (.int n),some (.int k),some (.int (Choose.ch n.toNat i)),v]/\a=H) ⟨_,by rw[Choose.QE];rfl,rfl⟩ ?_ ?_
    .rintro i g a p ⟨v,rfl,rfl⟩;refine⟨_,rfl,_,rfl,_,rfl,_,_,rfl,rfl,_,_,rfl,rfl,zrI (by lia) (by lia),_,rfl,_,_,rfl,rfl,_,_,rfl,rfl,jE.small (by lia) (by lia),?_⟩;refine⟨some (.int (0+(i:Int))),?_,rfl⟩;have e:=Choose.zoe (n:=n.toNat) (k:=i) (by lia);have l:((n.toNat:Nat):Int)=n:=Vz (by lia);rw[l]at e;have m:(Choose.ch n.toNat i:Int)*(n-(0+(i:Int)))/(0+(i:Int)+1)=Choose.ch n.toNat (i+1):=by
      rw[RN];exact e
     show [_,_,some (V.int ((Choose.ch n.toNat i:Int)*(n-(0+(i:Int)))/(0+(i:Int)+1))),_]=_;rw[m]
    .rintro g a ⟨v,rfl,rfl⟩;exact⟨_,rfl,q⟩
   .rw[bq (λh=>c h.2)]at q;rw[bf c];exact zbs q
  .have b:¬ (0:Int)<=k:=λz=>c (br z);rw[bq (λh=>b h.1)]at q;exact⟨_,rfl,zbs q⟩
def zmL:zD ["counts","cells","stones"] ["counts","cells","stones"] (ze zaZ):=bz
def zdK (T:Txt mg)(Z:Prog K mg)(D:zj K mg "dealt" zaZ ["counts","cells","stones"] f fd):qz P w K mg base CX0 2 f fd ["counts","cells","stones"] zoB:=by
 obtain⟨ab,aa,e⟩:=Z.choices;refine D.F.ok zmL (λvs H Q E h=>?_) (λU A r s H vs Q E Y h=>?_)
 .obtain⟨c,xs,m,st,rfl,_⟩:=h;rfl
 .revert h;refine fh λc xs m st z0 v M xl G q=>?_;subst z0;refine⟨_,(zg (zK (zB (zlm rfl) (by rfl) T.zsb PyProof.Rows.boot_sum (za (qJ (N:=["k","many","cells","stones"]) (src:=[none,none,some 1,some 2]) (zV.free (O:=(ze zaZ).names) (XN:=["counts","cells","stones"]) rfl rfl ⟨_,rfl⟩ rfl rfl (by decide+kernel) (by decide+kernel) (by decide+kernel) rfl (by decide+kernel)) rfl (JP (by rfl) T.jw (za (pvS 0) zb)) (λ_ _ _ _ _=>(zcv (n:=2) (K:=K) (by rfl) rfl (qf (zv (i:=0) (by show W6 (["k","many","cells","stones"]:AE);decide+kernel) rfl (XI rfl)) (qf (zv (i:=1) (by show W6 (["k","many","cells","stones"]:AE);decide+kernel) rfl (XI rfl)) yi)))) (λ_ _ _ _ _=>qV) (λ_ _ _ _ _=>(zC Zd (pvS 1) (pc0 (zix T e) Y e (za (pvS 2) (za (zC yv (pvS 3) (pvS 0)) zb)))))) zb)))),?_⟩;(try dsimp only[cxK,cxP,cxW]);refine⟨_,rfl,c,rfl,⟨_,SqL.of v⟩,λz B=>?_⟩;refine zhQ (K:=K) (a:=c) (xs:=iL xs) (λi g j=>(∃J u1,g=[J,u1,some (.int m),some (.int st)])/\zu H j/\j z=some (.lst (iL ((Wh i).map λk=>Pour.F xs k*chV m (st-(k:Nat)))))) ⟨⟨_,_,rfl⟩,zd B,zc⟩ (λi g j _ ⟨_,d,_⟩=>SqL.of (d _ _ v)) ?_ ?_
  .rintro i x tt g L hx l ⟨⟨J,u1,rfl⟩,d,b⟩;obtain⟨y,p,rfl⟩:=ints_get hx;have il:=(XZ.mp p).1;have I:=zd (o:=.tup [.int ((i:Nat):Int),.int y]) l;refine dH tt rfl (SqT.of zc) rfl rfl rfl rfl ?_;unfold zlh;refine zbs ⟨_,rfl,_,rfl,_,rfl,_,rfl,_,_,rfl,rfl,m,_,rfl,G,_,_,rfl,rfl,zrJ (M y (X7 p)) (zoA G),_,I _ _ b,?_,⟨_,_,rfl⟩,λb' o u=>?_,?_⟩
   .rw[X9,X9,Wc];exact Xs (show i<150 by lia) (by decide)
   .rw[zo (zk u B)];exact I _ _ (d _ _ u)
   .rw[zc,List.range_succ,Xj];show _=some (HO.lst (iL (_++[Pour.F xs i*chV m (st-(i:Nat))])));rw[zou,Pour.zob p]
  .rintro g L ⟨_,d,b⟩;refine⟨z,_,rfl,SqL.of b,?_⟩;rw[X9,zpm];exact q _ d
def zhf:zD ["board","near"] ["board"] (ze zcF):=bz
def zmM {jaj:Addr}(T:Txt mg)(Z:Prog K mg)(y:qi K mg "TooGreat" jaj)(D:zj K mg "count" zcF ["board"] f fd):qz P w K mg base (CXE P w) 7 f fd ["board"] (zoC jaj):=by
 obtain⟨af,QM,zZ⟩:=Z.around;obtain⟨yH,j9,zq⟩:=Z.sign_at;obtain⟨yb,jG,zw⟩:=Z.cells_of;obtain⟨ah,ag,qY⟩:=Z.closed;obtain⟨YF,ZA,zL⟩:=Z.open_cells;obtain⟨Qo,YG,jf⟩:=Z.number_at;obtain⟨YV,Yb,qd⟩:=Z.closed_around;obtain⟨ap,ao,k⟩:=Z.far;obtain⟨aj,ai,yZ⟩:=Z.bare_wrong;obtain⟨am,ak,j⟩:=Z.near_counts;obtain⟨an,al,O⟩:=Z.dealt;refine D.F.okX zhf (λvs H Q E h=>?_) (λaa A B s H vs Q E g h=>?_)
 .obtain⟨p,l,a,n,rfl,_⟩:=h;rfl
 .revert h;refine fh λp l a n z0 b R qg n0 q=>?_;subst z0;refine⟨_,(zf (zx (i:=1) zhf.nd rfl (XI rfl) (pcL qx (zdJ T Z y j) g j (za (pvS 0) zb))) (zf (qL (zG (yx g.units) (pc0 (Q9 T yZ zZ zq zw qd zL jf) g yZ (za (pvS 0) zb)) (@qo _ _ _ _ zb) (zU _)) (@zg _ _ _ (@zK _ _ _ _ zh)) qc) (zg (zK (pc0 (zdK T Z O) g O (za (pvS 1) (za (zB zE (by rfl) T.qX Xf (za (pc0 (zmm T k zZ zq zw qY zL) g k (za (pvS 0) zb)) zb)) (za (qu qB (pvS 0) zh (λ_ _=>rfl)) zb)))))))),?_⟩;(try dsimp only[cxK,cxP,cxW]);refine⟨_,rfl,p,l,a,n,rfl,b,R,qg,λd1 gs H1 ac z G up L s1=>?_⟩;have q:=q gs G z;refine⟨_,rfl,p,l,a,n,rfl,b.mono s1,R,λd2 w2 H2 ae M u s2=>⟨ZP,λe he=>?_⟩⟩;have m:=zd (o:=.lst []) he;have Y:=count_is G n.toNat;rw[Vz n0]at Y;unfold yc at q;rw[<- Y]at q;refine⟨.list ((jV a).map zp),.list [],.lst (SqL.of (m _ _ M)) (zH.rdv (N:=λ_=>True) (Cel.rdn (Cel.mono m u))),.lst (SqL.of zc) .nil,zfN _ [],_,rfl,?_⟩;have ee:(if true=true then !PyData.eqv (.list ((jV a).map zp)) (.list []) else W8 (.list ((jV a).map zp)) (.list []))=!(jV a).isEmpty:=by
   show (!PyData.eqv _ _)=_;rw[eq_nil]
  rw[ee];have c:=(s1.trans s2).trans m;have d:=m _ _ (s2 _ _ L);generalize upd H2 e (.lst [])=H3 at *
  cases hb:(jV a).isEmpty with
  | false =>
   rw[hb,bq XS]at q;exact zbs (q _ c)
  | true =>
   rw[hb,bw rfl]at q;refine QW ?_;have U:=b.mono c;refine⟨_,rfl,_,rfl,p,l,a,n,rfl,U,R,λd4 J H4 _ x v I=>⟨d4,_,rfl,.inl (SqL.of x),?_⟩⟩;have hl:=v.length;have ab:(yq a).length<=64:=X0 (WW _ _) (ji (p:=Zo) R);have r:=Z8 G R;refine⟨_,rfl,p,_,1,_,rfl,rfl,SqT.of (U.mono I).tp,rfl,d1,_,(J.length:Nat),n,rfl,I _ _ d,YK r,by rw[Tally.j8];lia,by lia,λH' s'=>?_⟩;rw[hl,zfT];exact q _ ((c.trans I).trans s')
def zej:zD ["found","greatest","cell"] ["found","greatest","cell"] (ze yX):=bz
def zek {f1:Addr}{U:XM}(T:Txt mg)(D:zj K mg "counted_at" yX ["found","greatest","cell"] f fd)(jU:zj K mg "counted" ZW ["found","greatest"] f1 U):qz P w K mg base CX0 2 f fd ["found","greatest","cell"] zov:=by
 refine D.F.ok zej (λvs H Q E h=>?_) (λaf A ae s H vs Q E hr h=>?_)
 .revert h;refine eB λM ca us B=>eX λN g c z0 _=>?_;subst z0;rfl
 .revert h;refine eB λM ca us B=>eL λN g c z0 u hL hk=>fm λY kl aa q=>?_;subst z0;refine⟨_,(zg (zK (pc0 (zap T jU) hr jU (za (qJ (N:=["laying","cell"]) (src:=[none,some 2]) (zV.free (O:=(ze yX).names) (XN:=["found","greatest","cell"]) rfl rfl ⟨_,rfl⟩ rfl rfl (by decide+kernel) (by decide+kernel) (by decide+kernel) rfl (by decide+kernel)) rfl (zR (pvS 0)) (λ_ _ _ _ _=>(zv (i:=0) (by show W6 (["laying","cell"]:AE);decide+kernel) rfl (XI rfl))) (λ_ _ _ _ _=>(qN (zG (jF (K:=K) (by rfl) hr.units) (pvS 1) (pvS 0) (by rfl)))) (λ_ _ _ _ _=>(pvS 0))) (za (pvS 1) zb))))),?_⟩;(try dsimp only[cxK,cxP,cxW]);refine⟨_,rfl,M,rfl,⟨_,SqL.of u⟩,λz hz=>?_⟩;refine qw (K:=K) (a:=M) (xs:=us) (λj p G=>∃(u0:Option V) (n:AF),p=[u0,some (.ref ca)]/\zu H G/\G z=some (.lst n)/\jW (λa=>a≠z) G n ((B.take j).filter (zcl c)))
   ⟨_,[],rfl,zd hz,zc,.nil⟩ (λj p G _ ⟨_,_,_,y,_⟩=>SqL.of (y _ _ u)) ?_ ?_
  .refine λj v p H1 hv=>eU λu0 n z0 s1 m l=>?_;subst z0;refine eL (λk L wa x z0 _ r t1=>?_) (za5 hL hv);subst z0;have jl:j<B.length:=(XZ.mp x).1;have I:(B.take (j+1)).filter (zcl c)=(B.take j).filter (zcl c)++if zcl c k=true then [k] else []:=by
    rw[Xv,x,W5];congr 1;show OU _ [k]=_;rw[WC];split<;>rfl
   refine⟨_,rfl,_,rfl,zp c,k.map pD,.tup (SqT.of (s1 _ _ aa)) (.cons (.int _) (.cons (.int _) .nil)),.lst (SqL.of (s1 _ _ r)) (zmu (Z6 s1 t1)),rfl,zmv _,(by show 1<=60;decide),_,rfl,?_⟩;have ei:(if false=true then !(k.map pD).any (λz=>W8 z (zp c)) else (k.map pD).any λz=>W8 z (zp c))=zcl c k:=zqG k c;rw[ei];by_cases J:zcl c k=true
   .rw[bw J]at I;refine jX J ?_;have yl:n.length<=16384:=by
     rw[jT l];refine X0 (WW _ _) ?_;rw[XG];lia
    refine⟨_,rfl,n,m,Xx yl (by decide),_,n++[.ref L],rfl,λb o e=>?_,zc,?_⟩
    .rw[zo (zk e hz)];exact s1 _ _ e
    .rw[I];have nz:L≠z:=zk r hz;exact QJ (J1 m (λ_ h=>h) l) (.cons ⟨L,wa,rfl,nz,by rw[zo nz];exact s1 _ _ r,Z7 m (Z6 s1 t1)⟩ .nil)
   .rw[bq J,WX]at I;refine jA (WP.mpr J) ?_;exact⟨_,n,rfl,s1,m,by rw[I];exact l⟩
  rintro p H1 ⟨u0,n,rfl,s1,m,l⟩;rw[jT hL,XC]at l;refine⟨_,rfl,z,n,_,_,g,rfl,m,l,λk ac=>hk k (XQ.mp ac).1,Y,λd H2 hd ab s2=>?_⟩;exact q d H2 (s1.free hd) ab (s1.trans s2)
abbrev KV1:=List (List Key×V)
def qU (c:AA):List Key:=[.inl ((c.1:Nat):Int),.inl ((c.2:Nat):Int)]
def zbd {c d:AA}(h:qU c=qU d):c=d:=by
 unfold qU at h;obtain⟨a,b⟩:=c;obtain⟨x,y⟩:=d;simp only[List.cons.injEq,Sum.inl.injEq,and_true]at h;obtain⟨h1,h2⟩:=h;have e:a=x:=by lia
 have f:b=y:=by lia
 rw[e,f]
def qI (rs:AE)(n:Int)(c:AA):Int:=((Tally.T (qk rs) (λS=>jM rs S&&decide (c∈S)) n.toNat:Nat):Int)
def ziy {rs:AE}{n:Int}{c:AA}(h:(jV rs).isEmpty=false):qI rs n c=0:=by
 unfold qI;rw[Tally.zcD λS a=>?_]
 .rfl
 .rw[za9 λc b=>(Tally.yT a).subset b,h];rfl
def zoE (c:AA)(q:AD):zcl c (toL q)=decide (c∈q):=by
 unfold zcl toL;rw[Tn,WJ,WE,bu];constructor
 .rintro⟨x,hx,h⟩;have f:toI x=toI c:=bh h;have:x=c:=by
   unfold toI at f;obtain⟨a,b⟩:=x;obtain⟨d,e⟩:=c;simp only[P0]at f;have g:a=d:=by lia
   have i:b=e:=by lia
   rw[g,i]
  rw[<- this];exact hx
 .intro h;exact⟨c,h,br rfl⟩
def zfV (rs:AE)(g:AD)(c:AA):Cnt.Jh g.length ((YI rs g).filter (zcl c))=Tally.tl g λS=>jc rs g S&&decide (c∈S):=by
 unfold YI;rw[Pa,Tally.zgU g.length toL (λk=>X9 _),T3];have e:(λa=>(zcl c∘toL) a&&Grow.fits (nearF rs) (jK rs) (JF rs g) g a)=λS=>jc rs g S&&decide (c∈S):=by
  funext S;show (zcl c (toL S)&&jc rs g S)=_;rw[zoE,R6]
 rw[e];exact Tally.zjs g _
def Qs {A B:List AD}(h:A.Sublist B):A.flatten.Sublist B.flatten:=by
 induction h with
 | slnil=>exact List.Sublist.refl _
 | cons a _ b=>rw[Wy];exact List.Sublist.trans b (Rj _ _)
 | cons_cons a _ b=>rw[Wy,Wy];exact List.Sublist.append (List.Sublist.refl _) b
def zjB {rs:AE}{gs A:List AD}(G:Parts.Good (clA rs) (zY rs) gs)(h:A.Sublist gs):(tls rs A).foldl Pour.Zy [1]=Tally.tl A.flatten (Tally.yk (jc rs) A) :=
 Tally.zij (G.nd.sublist (Qs h)) (λc a=>yY G c ((Qs h).subset a)) λg b=>za8 G (h.subset b)
def zqP {rs:AE}(R:Rows bd.cps.toList rs){gs A:List AD}(G:Parts.Good (clA rs) (zY rs) gs)(h:A.Sublist gs):ziw (tls rs A):=by
 have a:=Z8 G R;refine⟨λj f=>?_,λi=>?_⟩
 .obtain⟨g,d,rfl⟩:=XA.mp f;have c:g.length<=64:=X0 (VQ (V9 (h.subset d))) a;rw[Tally.j8];exact⟨by lia,by lia,YK c⟩
 .have h2:=(TM i A).trans h;have e:(tls rs A).take i=tls rs (A.take i):=by
   unfold tls;rw[R8]
  have b:(A.take i).flatten.length<=64:=X0 (Qs h2).length_le a;rw[e,zjB G h2,Tally.j8];exact⟨by lia,by lia,YK b⟩
def zmQ (rs:AE)(z:Addr)(H:Hp)(v:V)(g:AD):Prop:=∃a d c,v=V.ref a/\a≠z/\H a=some (.lst d)/\jW (λb=>b≠z) H d c/\c.Perm (YI rs g)
def zbT (rs:AE)(z:Addr)(H:Hp):AF->List AD->Prop:=WU (zmQ rs z H)
def Zr {rs:AE}{z:Addr}{H b:Hp}(s:zu H b){c:AF}{gs:List AD}(d:zbT rs z H c gs):zbT rs z b c gs:=by
 induction d with
 | nil=>exact .nil
 | cons q _ f =>
  obtain⟨a,i,g,e,n,h,l,p⟩:=q;exact .cons ⟨a,i,g,e,n,s _ _ h,jo s l,p⟩ f
def zhh {rs:AE}{z:Addr}{H:Hp}{xs ys:AF}(d:H z=some (.lst xs)){b:AF}{gs:List AD}(c:zbT rs z H b gs):zbT rs z (upd H z (.lst ys)) b gs:=by
 induction c with
 | nil=>exact .nil
 | cons q _ f =>
  obtain⟨a,i,g,e,n,h,l,p⟩:=q;exact .cons ⟨a,i,g,e,n,by rw[zo n];exact h,J1 d (λ_ h=>h) l,p⟩ f
def zfb {rs:AE}{z:Addr}{H:Hp}{a:AF}{gs:List AD}{i:Nat}{v:V}(h:zbT rs z H a gs)(e:a[i]?=some v):∃g,gs[i]?=some g/\zmQ rs z H v g:=zgo h e
def ziz {H:Hp}{z:Addr}{o:HO}{b:AF}{ks:List (List Int)}(c:xj H b ks)(n:∀v∈b,v≠V.ref z):xj (upd H z o) b ks:=by
 induction c with
 | nil=>exact .nil
 | cons q _ f =>
  obtain⟨a,e,h⟩:=q;exact .cons ⟨a,e,by rw[zo λy=>n _ XV (by rw[e,y])];exact h⟩ (f λv d=>n v (XW _ d))
theorem zdM {H:Hp}:∀{b:AF} {a:List (List Int)} (i:Nat),xj H b a->xj H (b.take i) (a.take i)
 | _,_,0,_=>.nil
 | _,_,_+1,.nil=>.nil
 | _,_,i+1,.cons h t=>.cons h (zdM i t)
theorem zdN {H:Hp}:∀{b:AF} {a:List (List Int)} (i:Nat),xj H b a->xj H (b.drop i) (a.drop i)
 | _,_,0,h=>h
 | _,_,_+1,.nil=>.nil
 | _,_,i+1,.cons _ t=>zdN i t
def zkL {H:Hp}{d:AF}{c:List (List Int)}{b:AF}{a:List (List Int)}(h:xj H d c)(k:xj H b a):xj H (d++b) (c++a):=zcU h k
def zjC (a:List (List Key×V))(k:List Key)(v:V):(putK a k v).length<=a.length+1:=by
 unfold putK;split
 .rw[X9];exact Wl _
 .rw[XR];exact XX _
def zmR (l:List (List Key×V)):(YS l).length<=l.length:=by
 have:∀(l a:List (List Key×V)),(l.foldl (λa b=>putK a b.1 b.2) a).length<=a.length+l.length:=λl=>by
  induction l with
  | nil=>exact λa=>XX _
  | cons x r c =>
   intro a;rw[V7,Xk];have h1:=c (putK a x.1 x.2);have h2:=zjC a x.1 x.2;lia
 have:=this l [];rw[TW,VD]at this;exact this
def zqQ (xs:AF){i:Nat}(h:i<=xs.length):zd3 xs none (some ((i:Nat):Int))=xs.take i:=by
 unfold zd3;rw[HT.zi1,Nat.min_eq_left h];show (xs.drop 0).take (i-0)=_;rw[List.drop_zero,Nat.sub_zero]
def zmS (h:Addr):Sp:=λi H Q E=>∃(p l:Addr) (a:AE) (n:Int),i=[.ref p]/\qh H p l a n/\Rows bd.cps.toList a/\(∀e,Parts.Good (clA a) (zY a) e->(∃g∈e,14<g.length)->∀b,zu H b->E (.ref h) none b)/\0<=n /\
 ∀e,Parts.Good (clA a) (zY a) e->(∀g∈e,g.length<=14)->∀(d:Addr) (f:List (List Key×V)) (b:Hp),H d=none->b d=some (.dT f)->(∀c∈qk a,jB f (qU c)=some (V.int (qI a n c)))->zu H b->Q (.ref d) b
def zQ:zD ["board","pieces","found","counts","rest","at_far","told","place","part","others","cell","near"] ["board"] (ze jh):=bz
def zbe {jaj:Addr}(T:Txt mg)(Z:Prog K mg)(c5:qi K mg "TooGreat" jaj)(D:zj K mg "counts_by_cell" jh ["board"] f fd):qz P w K mg base (CXE P w) 7 f fd ["board"] (zmS jaj):=by
 obtain⟨cV,QM,zZ⟩:=Z.around;obtain⟨yH,j9,zq⟩:=Z.sign_at;obtain⟨yb,jG,zw⟩:=Z.cells_of;obtain⟨df,da,qY⟩:=Z.closed;obtain⟨YF,ZA,zL⟩:=Z.open_cells;obtain⟨Qo,YG,jf⟩:=Z.number_at;obtain⟨cW,cX,JG⟩:=Z.numbers_of;obtain⟨db,cZ,YH⟩:=Z.needs_at;obtain⟨dg,dc,QN⟩:=Z.may_fit;obtain⟨Qp,YU,qO⟩:=Z.part_layings;obtain⟨dh,de,jU⟩:=Z.counted;obtain⟨dy,dv,bW⟩:=Z.counted_at;obtain⟨YV,Yb,qd⟩:=Z.closed_around;obtain⟨dr,dp,Z5⟩:=Z.joined;obtain⟨dz,dt,bV⟩:=Z.parts;obtain⟨d2,d0,bX⟩:=Z.far;obtain⟨dm,dj,yZ⟩:=Z.bare_wrong;obtain⟨dq,dn,Qq⟩:=Z.poured;obtain⟨dk,di,jN⟩:=Z.all_poured;obtain⟨dw,du,YN⟩:=Z.dealt;refine D.F.okX zQ (λvs H Q E h=>?_) (λcN A c8 s H vs Q E hr h=>?_)
 .revert h;refine fc λp l r n z0 _=>?_;subst z0;rfl
 .revert h;refine fh λp l r n z0 b R qg n0 q=>?_;subst z0;have cn:(qk r).length<=64:=ji R;refine⟨_,(zf (zx (i:=1) zQ.nd rfl (XI rfl) (pc0 (zg4 T bV zZ zq zw zL qd Z5) hr bV (za (pvS 0) zb))) (zf (zl5 (i:=2) zQ.nd rfl rfl qx (N:=["part","board"]) (src:=[none,some 0]) (zV.free (O:=(ze jh).names) (XN:=["board","pieces","found","counts","rest","at_far","told","place","part","others","cell","near"]) rfl rfl ⟨_,rfl⟩ rfl rfl (by decide+kernel) (by decide+kernel) (by decide+kernel) rfl (by decide+kernel)) rfl (zR (pvS 1)) (λ_ _ _ _ _=>(zv (i:=0) (by show W6 (["part","board"]:AE);decide+kernel) rfl (XI rfl))) (λ_ _ _ _ _=>qV) (λ_ _ _ _ _=>(zcs (YT T Z c5 qO) (hr.mono (by decide)) (by rfl) qO.g qO.F.kp qO.b .nil zaR (za (pvS 1) (za (pvS 0) zb))))) (zf (qL (zG (yx hr.units) (pc0 (Q9 T yZ zZ zq zw qd zL jf) hr yZ (za (pvS 0) zb)) (@qo _ _ _ _ zb) (zU _)) (zg (zK (jq (Jg hr.units hr.hd) (by rfl) T.zik Sl (za (qJ (N:=["cell"]) (src:=[none]) (zV.plain rfl (by decide+kernel) (by decide+kernel) (by decide+kernel) rfl (by decide)) rfl (zR (pc0 (ZX T qY zw zq) hr qY (za (pvS 0) zb))) (λ_ _ _ _ _=>(zv (i:=0) (by show W6 (["cell"]:AE);decide+kernel) rfl (XI rfl))) (λ_ _ _ _ _=>qV) (λ_ _ _ _ _=>(jy (za (pvS 0) (@za _ _ _ _ _ zh zb rfl))))) zb)))) qc) (zf (Ze (i:=3) zQ.nd rfl rfl (N:=["part","some"]) (src:=[none,none]) (zV.plain rfl (by decide+kernel) (by decide+kernel) (by decide+kernel) rfl (by decide)) rfl (zp8 (by rfl) T.zsc (za (pvS 1) (za (pvS 2) zb))) (λ_ _ _ _ _=>(zcv (n:=2) (K:=K) (by rfl) rfl (qf (zv (i:=0) (by show W6 (["part","some"]:AE);decide+kernel) rfl (XI rfl)) (qf (zv (i:=1) (by show W6 (["part","some"]:AE);decide+kernel) rfl (XI rfl)) yi)))) (λ_ _ _ _ _=>qV) (λ_ _ _ _ _=>(pc0 (zap T jU) hr jU (za (pvS 1) (za (zB (zdd (K:=K) (by rfl)) (by rfl) T.qX Xf (za (pvS 0) zb)) zb))))) (zf (zx (i:=4) zQ.nd rfl (XI rfl) (pc0 (zmm T bX zZ zq zw qY zL) hr bX (za (pvS 0) zb))) (zf (zx (i:=5) zQ.nd rfl (UH rfl) (pc0 (zdK T Z YN) hr YN (za (pc0 (ZC T Z jN) hr jN (za (pvS 3) zb)) (za (zC yv (zB zE (by rfl) T.qX Xf (za (pvS 4) zb)) zh) (za (zC yv (qu qB (pvS 0) zh (λ_ _=>rfl)) zh) zb))))) (zf (zx (i:=6) zQ.nd rfl (XI rfl) (jq (Jg hr.units hr.hd) (by rfl) T.zik Sl (za (qJ (N:=["cell","at_far"]) (src:=[none,some 5]) (zV.free (O:=(ze jh).names) (XN:=["board","pieces","found","counts","rest","at_far","told","place","part","others","cell","near"]) rfl rfl ⟨_,rfl⟩ rfl rfl (by decide+kernel) (by decide+kernel) (by decide+kernel) rfl (by decide+kernel)) rfl (zR (pvS 4)) (λ_ _ _ _ _=>(zv (i:=0) (by show W6 (["cell","at_far"]:AE);decide+kernel) rfl (XI rfl))) (λ_ _ _ _ _=>qV) (λ_ _ _ _ _=>(jy (za (pvS 0) (za (pvS 1) zb))))) zb))) (zf (qS (jI.own qx) rfl (JP (by rfl) T.jw (za (pvS 1) zb)) (Zv rfl (qf (zv (i:=7) zQ.nd rfl (XI rfl)) (qf (zv (i:=8) zQ.nd rfl (XI rfl)) yi))) (zf (zx (i:=9) zQ.nd rfl (XI rfl) (pc0 (ZC T Z jN) hr jN (za (zC Y8 (zcO zfn (pvS 3) zaD (zct (pvS 7))) (zcO zfn (pvS 3) (zct (zC qP (pvS 7) zh)) zaD)) zb))) (zg (qS (jI.own qx) rfl (zR (pvS 8)) (zv (i:=10) zQ.nd rfl (XI rfl)) (zf (zx (i:=11) zQ.nd rfl (XI rfl) (pc0 (ze9 T Qq) hr Qq (za (pvS 9) (za (pc0 (zek T bW jU) hr bW (za (qu qW (pvS 2) (pvS 7) (λ_ _=>rfl)) (za (zB zE (by rfl) T.qX Xf (za (pvS 8) zb)) (za (pvS 10) zb)))) zb)))) (zg (zi7 (u1 hr.units) (pvS 6) (pvS 10) (pc0 (zdK T Z YN) hr YN (za (pvS 11) (za (zB zE (by rfl) T.qX Xf (za (pvS 4) zb)) (za (qu qB (pvS 0) zh (λ_ _=>rfl)) zb)))) rfl))))))) (zg (zK (pvS 6))))))))))),?_⟩;(try dsimp only[cxK,cxP,cxW]);refine⟨_,rfl,p,l,r,n,rfl,b,R,λd1 w1 m H1 cP bj hG _ _ G up s1=>?_⟩;have al:=Z8 G R;have aI:m.length<=64:=X0 (Parts.Qi G.ne) al;refine⟨_,rfl,d1,rfl,⟨_,SqL.of bj⟩,λz hz=>?_⟩;refine qw (K:=K) (a:=d1) (xs:=w1) (λj aa u=>∃(u0:Option V) (ys:AF),aa=[u0,some (.ref p)]/\zu H1 u/\u z=some (.lst ys)/\(∀g∈m.take j,g.length<=14)/\zbT r z u ys (m.take j))
   ⟨_,[],rfl,zd hz,zc,(λ_ h=>nomatch h),.nil⟩ (λj aa u _ ⟨_,_,_,y,_⟩=>SqL.of (y _ _ bj)) ?_ ?_
  .refine λj v aa H2 hv=>eO λu0 ys z0 s2 ai au bH=>?_;subst z0;refine eE (λg hg=>eZ λga ug z0 a1 ao=>?_) (yC.get (hG.mono s2) hv);subst z0;have gm:=X7 hg;have il:=(XZ.mp hg).1;unfold Q0;refine zfP ?_;refine⟨_,rfl,_,rfl,p,l,ga,r,n,ug,g,rfl,(b.mono s1).mono s2,R,a1,ao,jS (G.srt g gm),X0 (VQ (V9 gm)) al,λav H3 s3=>qg m G ⟨g,gm,av⟩ H3 ((s1.trans s2).trans s3),λav e we ks H3 he cx hL _ cy _ s3=>?_⟩;have ez:e≠z:=λy=>by
    subst y;rw[ai]at he;cases he
   have nz:∀a,(H2 a=none/\a≠e)->a≠z:=λa h y=>by
    subst y;rw[ai]at h;cases h.1
   have t1:m.take (j+1)=m.take j++[g]:=by
    rw[Xv,hg];rfl
   refine⟨_,s3 _ _ ai,?_,_,ys++[.ref e],rfl,λb' o e'=>?_,zc,λg' M=>?_,?_⟩
   .rw[show ys.length=(m.take j).length from Paired.length bH,XG];exact Xx (show _<=64 by lia) (by decide)
   .rw[zo (zk e' hz)];exact s3 _ _ (s2 _ _ e')
   .rw[t1]at M;rcases XO.mp M with y | y
    .exact au g' y
    .have y:g'=g:=by simpa using y
     rw[y];exact av
   .rw[t1];exact Paired.snoc (zhh (s3 _ _ ai) (Zr s3 bH)) ⟨e,we,ks,rfl,ez,by rw[zo ez];exact cx,J1 (s3 _ _ ai) (λ_ h=>h) (zan nz hL),cy⟩
  refine λaa H2=>eO λu0 ys z0 s2 ai au aC=>?_;subst z0;rw[hG.length,XC]at aC au;have q:=q m G au;have bK:=s1.trans s2;have cp:=hG.mono s2;have b3:=s2 _ _ bj;refine⟨_,rfl,p,l,r,n,rfl,b.mono bK,R,λd w2 H3 hd cv aT s3=>⟨ZP,λe he=>?_⟩⟩;have s4:=zd (o:=.lst []) he;refine dI (.list ((jV r).map zp)) (.list []) (.lst (SqL.of (s4 _ _ cv)) (zH.rdv (N:=λ_=>True) (Cel.rdn (Cel.mono s4 aT)))) (.lst (SqL.of zc) .nil) (zfN _ []) ⟨_,rfl,?_⟩;have ee:(if true=true then !PyData.eqv (.list ((jV r).map zp)) (.list []) else W8 (.list ((jV r).map zp)) (.list []))=!(jV r).isEmpty:=by
   show (!PyData.eqv _ _)=_;rw[eq_nil]
  rw[ee];have a7:=s3.trans s4;have aF:=bK.trans a7;have b4:=b.mono aF;have ax:=a7 _ _ b3;have bb:=a7 _ _ ai;have bv:=cp.mono a7;have bt:=Zr a7 aC;generalize upd H3 e (.lst [])=H4 at *
  cases hb:(jV r).isEmpty with
  | false =>
   refine zbs ?_;refine⟨_,rfl,p,l,r,n,rfl,b4,R,λd5 w5 H5 cw aM aD s5=>⟨d5,(dF rfl ⟨_,SqL.of aM⟩ (λy hy=>?_))⟩⟩;have b2:Cel H5 w5 (qk r):=aD;refine qw (K:=K) (a:=d5) (xs:=w5) (λi σ u=>(∃u0,σ=[u0])/\zu H5 u/\∃ys,u y=some (.lst ys)/\j6 u ys (((qk r).take i).map λc=>(qU c,V.int 0))) ⟨⟨_,rfl⟩,zd hy,[],zc,.nil⟩ (λi σ u _ ⟨_,s6,_⟩=>SqL.of (s6 _ _ aM)) ?_ ?_
   .rintro i x σ H6 hx ⟨⟨u0,rfl⟩,s6,ys,ah,ac⟩;obtain⟨c,aV,ca,rfl,an⟩:=Cel.get (Cel.mono s6 b2) hx;refine xO ⟨_,rfl,J2,λp hp=>?_⟩;have s7:=zd (o:=.tup [.ref ca,.int 0]) hp;have a2:ys.length<=64:=by
     rw[ac.length,X9,XG];lia
    refine⟨ys,s7 _ _ ah,Xx a2 (by decide),⟨_,rfl⟩,λb' o e'=>?_,ys++[.ref p],zc,?_⟩
    .rw[zo (zk e' hy)];exact s7 _ _ (s6 _ _ e')
    .rw[Xv,aV,Xj];exact j6.into y _ (s7 _ _ ah) (j6.snoc (ac.mono s7) ⟨p,ca,rfl,zc,s7 _ _ an⟩)
   .refine λσ H6=>eY λ_ s6 ys ah ac=>?_;rw[b2.length,XC]at ac;refine dB y ys ⟨_,(dN rfl ah ac (λdd aq=>?_))⟩;refine q dd _ _ ((aF.trans (s5.trans s6)).free aq) zc (λc J=>?_) ((aF.trans (s5.trans s6)).trans (zd aq));rw[ziy hb];have:=zbv (v:=V.int 0) (k:=qU c) ((qk r).map qU) [] (.inl (XA.mpr ⟨c,J,rfl⟩));rw[Ws]at this;exact this
  | true =>
   refine QW ?_;refine⟨_,rfl,_,rfl,d1,z,rfl,⟨_,SqL.of ax⟩,⟨_,SqL.of bb⟩,λt0 bE=>?_⟩;refine zlz (K:=K) (l1:=d1) (l2:=z) (xs:=w1) (ys:=ys) (λj aa u=>∃(u0 u1:Option V) (B:AF),aa=[u0,u1]/\zu H4 u/\u t0=some (.lst B)/\(∀v∈B,v≠V.ref t0)/\xj u B (tls r (m.take j))) (hG.length.trans (Paired.length aC).symm)
    ⟨_,_,[],rfl,zd bE,zc,(λ_ h=>nomatch h),.nil⟩ (λj aa u _ ⟨_,_,_,_,y,_⟩=>⟨SqL.of (y _ _ ax),SqL.of (y _ _ bb)⟩) ?_ ?_
   .refine λj v v' tt aa H5 hv cz a3=>eL λu0 u1 B z0 s5 aE nt am=>?_;subst z0;refine eE (λg hg=>eZ λga ug z0 a1 ao=>?_) (yC.get (bv.mono s5) hv);subst z0;refine eE (λg' M=>eL λfa wf ks z0 fz ba aS ar=>?_) (zfb (Zr s5 bt) cz);subst z0;rw[hg]at M;cases M;have gm:=X7 hg;have il:=(XZ.mp hg).1;have z6:=zd (o:=.tup [V.ref ga,V.ref fa]) a3;refine dH tt rfl (SqT.of zc) rfl rfl rfl rfl ?_;have bF:=z6 _ _ aE;have bB:=z6 _ _ a1;have b8:=z6 _ _ ba;have b0:=jo z6 aS;have cC:=s5.trans z6;have cq:=xw z6 am;generalize upd H5 tt (.tup [V.ref ga,V.ref fa])=H6 at *
    refine zfP ?_;refine⟨_,rfl,_,rfl,ga,_,rfl,.inl (SqL.of bB),fa,wf,ks,_,ug.length,rfl,b8,b0,λk hk=>?_,?_,λe7 H7 b6 cb s7=>?_⟩
    .rw[ao.length];exact zdC (ar.mem_iff.mp hk)
    .rw[ao.length];have:=au g gm;lia
    .rw[ao.length,Cnt.zbI ar,ze7]at cb;have et:e7≠t0:=λy=>by
      subst y;rw[bF]at b6;cases b6
     have t1:tls r (m.take (j+1))=tls r (m.take j)++[Tally.tl g (jc r g)]:=by
      unfold tls;rw[Xv,hg,Xj];rfl
     refine⟨_,(dF (s7 _ _ bF) ?_ (dG (dJ (B++[.ref e7]) rfl (λb' o e'=>?_) zc (λv hv=>?_) ?_)))⟩
     .rw[QS am];unfold tls;rw[X9,XG];exact Xx (show _<=64 by lia) (by decide)
     .rw[zo (zk e' bE)];exact s7 _ _ (cC _ _ e')
     .rcases XO.mp hv with hv | hv
      .exact nt v hv
      .have:v=V.ref e7:=by simpa using hv
       rw[this];intro y;cases y;exact et rfl
     .rw[t1];exact Paired.snoc (ziz (xw s7 cq) nt) ⟨e7,rfl,by rw[zo et];exact cb⟩
   refine λaa H5=>eL λu0 u1 B z0 s5 aE _ am=>?_;subst z0;rw[hG.length,XC]at am;have bc:=aF.trans s5;refine⟨_,rfl,p,l,r,n,rfl,b.mono bc,R,λd5 w5 H6 cw cc aD s6=>?_⟩;have wl:=aD.length;have cO:(yq r).length<=64:=X0 (WW _ _) cn;refine⟨_,rfl,t0,B,tls r m,rfl,s6 _ _ aE,xw s6 am,zmG R G,λd7 H7 cQ cd s7=>?_⟩;rw[show (tls r m).foldl Pour.Zy [1]=Tally.tl m.flatten (Tally.yk (jc r) m) from zhe G]at cd;have b7:=((b.mono bc).mono s6).mono s7;refine⟨_,rfl,d5,_,rfl,.inl (SqL.of (s7 _ _ cc)),_,_,rfl,rfl,_,rfl,p,_,1,_,rfl,rfl,SqT.of b7.tp,rfl,_,_,rfl,rfl,d7,_,_,_,rfl,cd,YK al,by rw[Tally.j8];lia,by lia,λH8 s8=>?_⟩;have bi:=s7.trans s8;have aH:=s6.trans bi;have c9:=bc.trans aH;have ay:=bi _ _ cc;have b1:=aD.mono bi;have bo:∀c∈yq r,dlV (Tally.tl m.flatten (Tally.yk (jc r) m)) (((w5.length:Nat):Int)-1) (n-1)=qI r n c:=λc J=>by
    have pos:=T0 J;have ci:=zqJ G J n.toNat;rw[hb,bw rfl,Vz n0]at ci;unfold qI;rw[<- ci,wl,show (((yq r).length:Nat):Int)-1=(((yq r).length-1:Nat):Int) by lia,zfT]
   generalize dlV (Tally.tl m.flatten (Tally.yk (jc r) m)) (((w5.length:Nat):Int)-1) (n-1)=val at *
   refine⟨_,rfl,d5,rfl,⟨_,SqL.of ay⟩,λy hy=>?_⟩;refine qw (K:=K) (a:=d5) (xs:=w5) (λi σ u=>(∃u0,σ=[u0,some (.int val)])/\zu H8 u/\∃ys,u y=some (.lst ys)/\j6 u ys (((yq r).take i).map λc=>(qU c,V.int val))) ⟨⟨_,rfl⟩,zd hy,[],zc,.nil⟩ (λi σ u _ ⟨_,s6,_⟩=>SqL.of (s6 _ _ ay)) ?_ ?_
   .rintro i x σ cM hx ⟨⟨u0,rfl⟩,bP,aB,ah,ac⟩;obtain⟨c,aV,ca,rfl,an⟩:=Cel.get (Cel.mono bP b1) hx;refine xO ⟨_,rfl,_,rfl,J2,λp hp=>?_⟩;have a8:=zd (o:=.tup [.ref ca,.int val]) hp;have a2:aB.length<=64:=by
     rw[ac.length,X9,XG];lia
    refine⟨aB,a8 _ _ ah,Xx a2 (by decide),⟨_,rfl⟩,λb' o e'=>?_,aB++[.ref p],zc,?_⟩
    .rw[zo (zk e' hy)];exact a8 _ _ (bP _ _ e')
    .rw[Xv,aV,Xj];exact j6.into y _ (a8 _ _ ah) (j6.snoc (ac.mono a8) ⟨p,ca,rfl,zc,a8 _ _ an⟩)
   refine λσ H9=>eY λ_ s9 aB c0 bD=>?_;rw[b1.length,XC]at bD;refine dB y aB ⟨_,(dN rfl c0 bD (λdd aq=>?_))⟩;have bR:=zd (o:=.dT (YS ((yq r).map λc=>(qU c,V.int val)))) aq;have aW:upd H9 dd (.dT (YS ((yq r).map λc=>(qU c,V.int val)))) dd=some (.dT (YS ((yq r).map λc=>(qU c,V.int val)))):=zc;have c6:(YS ((yq r).map λc=>(qU c,V.int val))).length<=64:=by
    have:=zmR ((yq r).map λc=>(qU c,V.int val));rw[X9]at this;lia
   have c7:∀c∈yq r,jB (YS ((yq r).map λc=>(qU c,V.int val))) (qU c)=some (V.int (qI r n c)):=λc J=>by
    have:=zbv (v:=V.int val) (k:=qU c) ((yq r).map qU) [] (.inl (XA.mpr ⟨c,J,rfl⟩));rw[Ws]at this;rw[<- bo c J];exact this
   generalize YS ((yq r).map λc=>(qU c,V.int val))=kvs0 at *
   generalize upd H9 dd (.dT kvs0)=H10 at *
   have aG:=s5.trans (aH.trans s9);have be:=c9.trans s9;have cf:H dd=none:=be.free aq;have aK:=aG _ _ ax;have c4:=aG _ _ bb;have aR:=bv.mono aG;have co:=Zr aG bt;have bG:=(aH.trans s9) _ _ aE;have bx:=xw (aH.trans s9) am;have b5:=s9 _ _ ay;have b9:=b.mono be;refine⟨_,rfl,d1,rfl,⟨_,SqL.of (bR _ _ aK)⟩,?_⟩;refine JJ (K:=K) (l:=d1) (xs:=w1) (λi σ u=>∃(I:List (List Key×V)) (v7 v8 v9 a9 aA:Option V),σ=[some (.ref p),some (.ref d1),some (.ref z),some (.ref t0),some (.ref d5),some (.int val),some (.ref dd),v7,v8,v9,a9,aA]/\zu H9 u/\u dd=some (.dT I)/\I.length<=64+(m.take i).flatten.length/\(∀c,c∈yq r\/c∈(m.take i).flatten->jB I (qU c)=some (V.int (qI r n c))))
    ⟨kvs0,(dZ rfl bR aW (by simpa using c6) (λc J=>J.elim (c7 c) (λh=>by simp at h)))⟩ (λi σ u _ ⟨_,_,_,_,_,_,_,y,_⟩=>SqL.of (y _ _ aK)) ?_ ?_
   .refine λi v tt σ aP hv a3=>eB λI v7 v8 v9=>eO λa9 aA z0 a4 L kl kv=>?_;subst z0;refine eE (λg hg=>eZ λga ug z0 a1 ao=>?_) (yC.get (aR.mono a4) hv);subst z0;have gm:=X7 hg;have il:=(XZ.mp hg).1;have av:=au g gm;have aQ:m=m.take i++g::m.drop (i+1):=by
     have e1:=(WO i m).symm;rw[WF il]at e1;have e2:m[i]=g:=by
      rw[X2 il]at hg;exact Option.some.inj hg
     rwa [e2]at e1
    have tk:(m.take (i+1)).flatten=(m.take i).flatten++g:=by
     rw[Xv,hg,Wo];congr 1;simp
    have AB:(m.take i++m.drop (i+1)).Sublist m:=by
     conv=>rhs;rw[aQ]
     exact List.Sublist.append (List.Sublist.refl _) (List.sublist_cons_self _ _)
    have cU:tt≠dd:=λy=>by
     subst y;rw[L]at a3;cases a3
    have bS:=zd (o:=.tup [.int (i:Nat),V.ref ga]) a3;refine dH tt rfl (SqT.of zc) rfl rfl rfl rfl ?_;have bg:=a4.trans bS;have aX:=bS _ _ L;generalize upd aP tt (.tup [.int (i:Nat),V.ref ga])=H12 at *
    have cl:=QS bx;have tlen:(tls r m).length=m.length:=X9 _;refine⟨_,rfl,_,rfl,_,rfl,t0,B,rfl,SqL.of (bg _ _ bG),λc1 ct=>?_⟩;have bT:=zd (o:=.lst (zd3 B none (some ((i:Nat):Int)))) ct;refine⟨_,rfl,_,rfl,_,_,rfl,rfl,_,rfl,t0,B,rfl,SqL.of (bT _ _ (bg _ _ bG)),λc2 cu=>?_⟩;have bU:=zd (o:=.lst (zd3 B (some (((i:Nat):Int)+1)) none)) cu;rw[zqQ B (show i<=B.length by lia),zha B i (by lia)]at *
    refine dB c1 c2 (dO rfl rfl (bU _ _ zc) zc ?_ (λc3 aT=>?_))
    .rw[XG,Vf];exact X0 (show _<=128 by lia) (by decide)
    have cG:=zd (o:=.lst (B.take i++B.drop (i+1))) aT;have a5:=bT.trans (bU.trans cG);have bM:=bg.trans a5;have az:=a5 _ _ aX;have aJ:=xw bM bx;have et:tls r (m.take i++m.drop (i+1))=(tls r m).take i++(tls r m).drop (i+1):=by
     unfold tls;rw[Xj,R8,Ol]
    have aU:upd (upd (upd H12 c1 (.lst (B.take i))) c2 (.lst (B.drop (i+1)))) c3 (.lst (B.take i++B.drop (i+1))) c3=some (.lst (B.take i++B.drop (i+1))):=zc;generalize upd (upd (upd H12 c1 (.lst (B.take i))) c2 (.lst (B.drop (i+1)))) c3 (.lst (B.take i++B.drop (i+1)))=H15 at *
    refine dQ c3 (dJ (tls r (m.take i++m.drop (i+1))) rfl aU (by rw[et];exact zkL (zdM i aJ) (zdN (i+1) aJ)) (zqP R G AB) (λoa cI bC bY bN=>?_));rw[zjB G AB]at bY;have aN:=bM.trans bN;have aY:=bN _ _ az;have bJ:oa≠dd:=λy=>by
     subst y;rw[az]at bC;cases bC
    have bp:(m.take i++m.drop (i+1)).flatten.length<=64:=X0 (Qs AB).length_le al;have aj:H9 ga=some (.lst ug):=by
     obtain⟨g',M,cj,cD,e',aw,_⟩:=yC.get aR hv;cases e';have:=a4 _ _ aw;rw[a1]at this;cases this;exact aw
    have ab:Cel H9 ug g:=by
     obtain⟨g',M,cj,cD,e',aw,ck⟩:=yC.get aR hv;cases e';rw[hg]at M;cases M;rw[aj]at aw;cases aw;exact ck
    have zl:i<ys.length:=by
     rw[show ys.length=m.length from Paired.length aC];exact il
    refine eE (λg2 bA=>eL λfa wf ks cg fz ba aS ar=>?_) (zfb co (X2 zl));rw[hg]at bA;cases bA;refine⟨_,rfl,ga,rfl,⟨_,SqL.of (aN _ _ aj)⟩,?_⟩;refine yN (K:=K) (a:=ga) (xs:=ug) (λj σ u=>∃(I:List (List Key×V)) (a9 aA:Option V),σ=[some (.ref p),some (.ref d1),some (.ref z),some (.ref t0),some (.ref d5),some (.int val),some (.ref dd),some (.int (i:Nat)),some (.ref ga),some (.ref oa),a9,aA]/\zu H9 u/\u oa=some (.lst (iL (Tally.tl (m.take i++m.drop (i+1)).flatten (Tally.yk (jc r) (m.take i++m.drop (i+1))))))/\u dd=some (.dT I)/\I.length<=64+(m.take i).flatten.length+j/\(∀c,c∈yq r\/c∈(m.take i).flatten\/c∈g.take j->jB I (qU c)=some (V.int (qI r n c))))
     ⟨I,(dO rfl aN bY aY (by lia) (λc J=>kv c (J.elim .inl λh=>h.elim .inr λh=>by simp at h)))⟩ (λj σ u _ ⟨_,_,_,_,y,_⟩=>SqL.of (y _ _ aj)) ?_ ?_
    .refine λj x σ ce hx=>eV λae cE cF=>eK λz0 U ag af bI ak=>?_;subst z0;refine eE (λc J=>eE λca z0 an=>?_) (Cel.get (ab.mono U) hx);subst z0;have cm:=X7 J;have jl:=(XZ.mp J).1;have Gi:Parts.Good (clA r) (zY r) (m.take i++g::m.drop (i+1)):=by
      rw[<- aQ];exact G
     have ap:=zox Gi cm n.toNat;rw[hb,bw rfl,Vz n0]at ap;refine⟨_,rfl,_,rfl,_,rfl,z,_,_,_,rfl,rfl,SqL.of (U _ _ c4),Zw (by lia) (by rw[UA];exact X2 zl),_,rfl,ga,_,rfl,.inl (SqL.of (U _ _ aj)),_,rfl,?_⟩;rw[cg];refine dD fa ca wf ks ⟨_,(dB ug.length c (dW rfl (U _ _ ba) (jo U aS) (λk hk=>?_) ?_ ?_ an (λea cJ cR bZ bO=>?_)))⟩
     .rw[ab.length];exact zdC (ar.mem_iff.mp hk)
     .rw[ab.length];lia
     .rw[ar.length_eq];exact zkG av
     rw[ab.length,Cnt.zbI (ar.filter _),zfV]at bZ;have aI:g.length<=64:=by lia
     refine dB oa ea (dG (dP rfl (SqL.of (bO _ _ ag)) (SqL.of bZ) ?_ (dM ?_ ?_ ?_ (YK bp) (YK aI) (λna cK cS cH cA=>?_))))
     .rw[Tally.j8];lia
     .rw[Tally.j8];lia
     .rw[Tally.j8];lia
     .rw[Tally.j8];lia
     have a6:=bO.trans cA;have aO:=U.trans a6;have cT:(m.take i).flatten.length<=64:=X0 (Qs (TM i m)).length_le al;have bm:((m.take i++m.drop (i+1)).flatten++g).length<=64:=by
      rw[<- (zfR _ _ _).length_eq,<- aQ];exact al
     have bn:=zjA Gi cm;refine⟨_,rfl,_,rfl,d5,_,rfl,.inl (SqL.of (aO _ _ b5)),_,rfl,p,_,1,_,rfl,rfl,SqT.of (b9.mono aO).tp,rfl,na,_,_,_,rfl,cH,by rw[bn];exact YK bm,by rw[bn,Tally.j8];lia,by lia,λcL cB=>?_⟩;have Y:=a6.trans cB;have aZ:=Y _ _ af;have ev:dlV (Pour.Zy (Tally.tl (m.take i++m.drop (i+1)).flatten (Tally.yk (jc r) (m.take i++m.drop (i+1)))) (Tally.tl g λS=>jc r g S&&decide (c∈S))) (w5.length:Nat) n=qI r n c:=by
      unfold qI;rw[zfT,wl,ap]
     rw[ev];refine⟨_,rfl,_,rfl,dd,_,rfl,zj5.t (k:=qU c) aZ (Y _ _ an) (Xx (show ae.length<=200 by lia) (by decide)),?_⟩;refine⟨putK ae (qU c) (V.int (qI r n c)),(dO rfl (λb' o e'=>?_) ?_ zc ?_ (λc' cr=>?_))⟩
     .rw[zo (zk e' aq)];exact Y _ _ (U _ _ e')
     .rw[zo bJ];exact Y _ _ ag
     .have:=zjC ae (qU c) (V.int (qI r n c));lia
     .rw[ZI];by_cases ec:qU c'=qU c
      .rw[bw ec,zbd ec]
      .rw[bq ec];refine ak c' (cr.elim .inl λh=>h.elim (λh=>.inr (.inl h)) λh=>?_);rw[Xv,J]at h;rcases XO.mp h with h | h
       .exact .inr (.inr h)
       .have:c'=c:=by simpa using h
        exact absurd (by rw[this]) ec
    refine λσ ce=>eV λae cE cF=>eK λz0 U ag af bI ak=>?_;subst z0;have ul:ug.length=g.length:=ab.length;refine⟨ae,(dZ rfl U af ?_ (λc J=>?_))⟩
    .rw[tk,XR];lia
    .rw[tk]at J;rw[ul,XC]at ak;exact ak c (J.elim .inl λh=>(XO.mp h).elim (λh=>.inr (.inl h)) λh=>.inr (.inr h))
   refine λσ aP=>eB λI v7 v8 v9=>eO λa9 aA z0 a4 L kl kv=>?_;subst z0;rw[hG.length,XC]at kv;refine⟨_,rfl,q dd I aP cf L (λc J=>kv c ?_) (be.trans a4)⟩;by_cases hm:c∈m.flatten
   .exact .inr hm
   .exact .inl ((zbb G).mpr ⟨J,hm⟩)
def zjD (a b:Int):VX b (a%b)=VX a b:=by
 have h:=Int.emod_add_mul_ediv a b;apply Nat.dvd_antisymm
 .apply Int.dvd_gcd
  .have h1:((VX b (a%b):Nat):Int) ∣ b:=Tk ..;have h2:((VX b (a%b):Nat):Int) ∣ a%b:=TJ ..;have c:=Int.dvd_add h2 (Int.dvd_trans h1 (Int.dvd_mul_right b (a/b)));rw[h]at c;exact c
  .exact Tk ..
 .apply Int.dvd_gcd
  .exact TJ ..
  .have h1:((VX a b:Nat):Int) ∣ b:=TJ ..;have h2:((VX a b:Nat):Int) ∣ a:=Tk ..;have e:a%b=a-b*(a/b):=by lia
   rw[e];exact Int.dvd_sub h2 (Int.dvd_trans h1 (Int.dvd_mul_right ..))
def zoG (a:Int)(h:0<=a):((VX a 0:Nat):Int)=a:=by
 rw[Int.gcd_zero_right];lia
def zfW {a b:Int}(h:0<b):0<((VX a b:Nat):Int):=by
 have:0<VX a b:=Int.gcd_pos_of_ne_zero_right a (by lia);lia
def zqR {a b:Int}(h:0<b):((VX a b:Nat):Int)<=b:=Int.le_of_dvd h (TJ ..)
def zsY:Sp:=λa H Q _=>∃(n b:Int),a=[.int n,.int b]/\0<b/\Q (.int (VX n b:Nat)) H
def zsZ:Sp:=λa H Q _=>∃(n b:Int),a=[.int n,.int b]/\0<b/\b.natAbs<2^70/\∀p,H p=none->Q (.ref p) (upd H p (.tup [.int (n/(VX n b:Nat)),.int (b/(VX n b:Nat))]))
def qE:zD ["number","bottom","divisor","rest","next_rest"] ["number","bottom"] (ze jn):=bz
def QY (D:zj K mg "greatest_divisor" jn ["number","bottom"] f fd):qz P w K mg base CX0 1 f fd ["number","bottom"] zsY:=by
 refine D.F.ok qE (λB H Q E h=>?_) (λu A g s H B Q E J h=>?_)
 .obtain⟨n,b,rfl,_⟩:=h;rfl
 .obtain⟨n,b,rfl,j,k⟩:=h;refine⟨_,(zf (zx (i:=2) qE.nd rfl (XI rfl) (pvS 1)) (zf (zx (i:=3) qE.nd rfl (XI rfl) (zC qp (pvS 0) (pvS 1))) (zf (zk6 W3 (zG zcL (pvS 3) zh (zU _)) (zf (zx (i:=4) qE.nd rfl (XI rfl) (zC qp (pvS 2) (pvS 3))) (zf (zx (i:=2) qE.nd rfl (XI rfl) (pvS 3)) (zg (zx (i:=3) qE.nd rfl (XI rfl) (pvS 4)))))) (zg (zK (pvS 2)))))),?_⟩;(try dsimp only[cxK,cxP,cxW]);refine⟨_,rfl,_,rfl,_,rfl,_,_,rfl,rfl,j,?_⟩;refine⟨λm o a=>∃(d r:Int) (x:Option V),o=[some (.int n),some (.int b),some (.int d),some (.int r),x]/\a=H/\0<d/\0<=r/\VX d r=VX n b/\m=r.toNat,⟨_,b,n%b,none,rfl,rfl,j,Wr n (by lia),zjD n b,rfl⟩,?_⟩;refine λm o a=>eV λd r x=>eK λz0 z1 I v l z2=>?_;subst z0 z1 z2;refine⟨_,rfl,rfl,_,rfl,?_⟩;by_cases c:r=0
  .subst c;refine zpb rfl ?_;refine⟨_,rfl,?_⟩;have e:((VX n b:Nat):Int)=d:=by rw[<- l];exact zoG d (by lia)
   rw[<- e];exact k
  .have e:(!decide (V.int r=V.int 0))=true:=by
    have z:¬ V.int r=V.int 0:=λz=>c (V.int.inj z);rw[bf z];rfl
   refine jX e ?_;refine⟨fun G a=>∃y,y<r.toNat/\_,λ_ _ h=>h,?_⟩;refine⟨_,rfl,_,rfl,_,_,rfl,rfl,(show (0:Int)<r by lia),_,rfl,_,rfl,?_⟩;have p:=Wv d (show (0:Int)<r by lia);have q:=Wr d (show r≠0 from c);refine⟨(d%r).toNat,by lia,r,d%r,some (.int (d%r)),rfl,rfl,by lia,q,?_,rfl⟩;rw[zjD d r];exact l
def zb8:zD ["top","bottom","divisor"] ["top","bottom"] (ze YA):=bz
def zhi {p:Addr}{c:XM}(D:zj K mg "fraction" YA ["top","bottom"] f fd)(m:zj K mg "greatest_divisor" jn ["number","bottom"] p c):qz P w K mg base CX0 2 f fd ["top","bottom"] zsZ:=by
 refine D.F.ok zb8 (λr H Q E h=>?_) (λo A g s H r Q E q h=>?_)
 .obtain⟨n,b,rfl,_⟩:=h;rfl
 .obtain⟨n,b,rfl,d,v,k⟩:=h;refine⟨_,(zf (zx (i:=2) zb8.nd rfl (XI rfl) (pc0 (QY m) q m (za (pvS 0) (za (pvS 1) zb)))) (zg (zK (jy (za (zC qq (pvS 0) (pvS 2)) (za (zC qq (pvS 1) (pvS 2)) zb)))))),?_⟩;(try dsimp only[cxK,cxP,cxW]);have j:=zfW (a:=n) d;have u:=zqR (a:=n) d;have l:((VX n b:Nat):Int).natAbs<2^8000:=by
   have e:2^70<=2^8000:=U4 (by decide) (by decide);lia
  refine⟨_,rfl,_,rfl,n,b,rfl,d,?_⟩;refine⟨_,rfl,_,rfl,_,_,rfl,rfl,jE.big j l,_,rfl,_,rfl,_,_,rfl,rfl,jE.big j l,J2,?_⟩;exact k
def zmT {φ:List Key->V->Prop}{b acc:List (List Key×V)}(h:∀a∈b,φ a.1 a.2)(h0:∀k v,jB acc k=some v->φ k v):∀k v,jB (b.foldl (λacc a=>putK acc a.1 a.2) acc) k=some v->φ k v:=by
 induction b generalizing acc with
 | nil=>exact h0
 | cons a r d =>
  refine d (λx c=>h x (XW _ c)) λk v e=>?_;rw[ZI]at e;split at e
  .rename_i ek;cases e;rw[ek];exact h a XV
  .exact h0 k v e
def zmU {k:List Key}{a acc:List (List Key×V)}(h:(∃b∈a,b.1=k)\/(jB acc k).isSome=true):(jB (a.foldl (λacc b=>putK acc b.1 b.2) acc) k).isSome=true:=by
 induction a generalizing acc with
 | nil =>
  rcases h with ⟨_,h,_⟩ | h
  .cases h
  .exact h
 | cons b r d =>
  refine d ?_;rcases h with ⟨x,hx,e⟩ | h
  .rcases XJ.mp hx with c | hx
   .subst c;refine .inr ?_;rw[ZI,bw e.symm];rfl
   .exact .inl ⟨x,hx,e⟩
  .refine .inr ?_;rw[ZI];split
   .rfl
   .exact h
def frT (n b:Int):HO:=.tup [.int (n/(VX n b:Nat)),.int (b/(VX n b:Nat))]
def zhj (H:Hp)(rs:AE)(n:Int)(k:List Key)(v:V):Prop:=∀c,k=qU c->∃t,v=.ref t/\H t=some (frT (qI rs n c) (yc rs n))
def zhj.mono {H a:Hp}(s:zu H a){rs:AE}{n:Int}{k:List Key}{v:V}(h:zhj H rs n k v):zhj a rs n k v:=λc e=>by
 obtain⟨t,b,d⟩:=h c e;exact⟨t,b,s _ _ d⟩
def zmV {H:Hp}{rs:AE}{n:Int}{c:AA}{t:Addr}(h:H t=some (frT (qI rs n c) (yc rs n))):zhj H rs n (qU c) (.ref t):=λd e=>by
 rw[<- zbd e];exact⟨t,rfl,h⟩
def zqS (d C:Addr):Sp:=λe H Q E=>∃(p l:Addr) (a:AE) (n:Int),e=[.ref p]/\qh H p l a n/\Rows bd.cps.toList a/\(∀c,Parts.Good (clA a) (zY a) c->(∃g∈c,14<g.length)->∀b,zu H b->E (.ref d) none b)/\0<=n/\∀c,Parts.Good (clA a) (zY a) c->(∀g∈c,g.length<=14)->(yc a n≠0->∀b,zu H b->Q (.int (yc a n)) b)/\(yc a n=0->∀b,zu H b->E (.ref C) none b)
def zmW (h C:Addr):Sp:=λi H Q E=>∃(p l:Addr) (a:AE) (n:Int),i=[.ref p]/\qh H p l a n/\Rows bd.cps.toList a/\(∀e,Parts.Good (clA a) (zY a) e->(∃g∈e,14<g.length)->∀b,zu H b->E (.ref h) none b)/\0<=n/\∀e,Parts.Good (clA a) (zY a) e->(∀g∈e,g.length<=14) ->
 (yc a n≠0->∀(d:Addr) (f:List (List Key×V)) (b:Hp),H d=none->b d=some (.dT f)->(∀c∈qk a,∃t,jB f (qU c)=some (.ref t)/\b t=some (frT (qI a n c) (yc a n)))->zu H b->Q (.ref d) b)/\(yc a n=0->∀b,zu H b->E (.ref C) none b)
def clS (rs:AE)(n:Int):AD:=(qk rs).filter λc=>decide (qI rs n c=0)
def stS (rs:AE)(n:Int):AD:=(qk rs).filter λc=>decide (qI rs n c=yc rs n)
def zqT (i C:Addr):Sp:=λj H Q E=>∃(p l:Addr) (b:AE) (n:Int),j=[.ref p]/\qh H p l b n/\Rows bd.cps.toList b/\(∀c,Parts.Good (clA b) (zY b) c->(∃g∈c,14<g.length)->∀a,zu H a->E (.ref i) none a)/\0<=n/\∀c,Parts.Good (clA b) (zY b) c->(∀g∈c,g.length<=14) ->
 (yc b n≠0->∀(t d e:Addr) (f h:AF) (a:Hp),H t=none->H d=none->H e=none->d≠e->a t=some (.tup [.ref d,.ref e])->a d=some (.lst f)->a e=some (.lst h)->Cel a f (clS b n)->Cel a h (stS b n)->zu H a->Q (.ref t) a)/\(yc b n=0->∀a,zu H a->E (.ref C) none a)
def zdO (rs:AE)(R:Rows bd.cps.toList rs)(n:Int):0<=yc rs n/\(yc rs n).natAbs<2^70:=by
 have:=zjy (cs:=qk rs) (p:=jM rs) (k:=n.toNat) (ji (p:=Zo) R);unfold yc;refine⟨SR _,?_⟩;rw[Rt];exact Xx this (by decide)
def zkM (rs:AE)(n:Int)(c:AA):0<=qI rs n c:=SR _
def zoH {a b:Int}(i:0<=a)(d:0<b):(a/(VX a b:Nat)=0/\b/(VX a b:Nat)=1)↔a=0:=by
 constructor
 .rintro⟨h,_⟩;obtain⟨x,c⟩:((VX a b:Nat):Int) ∣ a:=Tk ..;have f:=zfW (a:=a) d;generalize ((VX a b:Nat):Int)=g at *
  rw[c,SZ _ (by lia)]at h;rw[c,h,Po]
 .intro h;subst h;have e:((VX 0 b:Nat):Int)=b:=by
   rw[Int.gcd_zero_left];lia
  rw[e];exact⟨Int.zero_ediv _,Oi (by lia)⟩
def zqU {a b:Int}(f:0<b):(a/(VX a b:Nat)=1/\b/(VX a b:Nat)=1)↔a=b:=by
 have i:=zfW (a:=a) f;constructor
 .rintro⟨h1,h2⟩;obtain⟨x,c⟩:((VX a b:Nat):Int) ∣ a:=Tk ..;obtain⟨y,d⟩:((VX a b:Nat):Int) ∣ b:=TJ ..;generalize ((VX a b:Nat):Int)=g at *
  rw[c,SZ _ (by lia)]at h1;rw[d,SZ _ (by lia)]at h2;rw[c,d,h1,h2]
 .intro h;subst h;have e:((VX a a:Nat):Int)=a:=by
   rw[Int.gcd_self];lia
  rw[e];exact⟨Oi (by lia),Oi (by lia)⟩
def zac:zD ["board","every"] ["board"] (ze JA):=bz
def zel (T:Txt mg)(g:qi K mg "TooGreat" jaj)(d:qi K mg "NoLaying" jad)(Z:Prog K mg)(D:zj K mg "some_count" JA ["board"] f fd):qz P w K mg base (CXE P w) 8 f fd ["board"] (zqS jaj jad):=by
 obtain⟨I,J,a⟩:=Z.count;refine D.F.okX zac (λz H Q E h=>?_) (λo A j s H z Q E v h=>?_)
 .revert h;refine fc λp l k n z0 _=>?_;subst z0;rfl
 .revert h;refine fh λp l k n z0 B R r x y=>?_;subst z0;refine⟨_,(zf (zx (i:=1) zac.nd rfl (XI rfl) (pcL qx (zmM T Z g a) v a (za (pvS 0) zb))) (zf (qL (zG ZF (pvS 1) zh (zU _)) (zg (zcW qx d (by rfl) rfl (@za _ _ _ _ _ jZ zb rfl))) qc) (zg (zK (pvS 1))))),?_⟩;(try dsimp only[cxK,cxP,cxW]);refine⟨_,rfl,p,l,k,n,rfl,B,R,r,x,λu G c m s1=>?_⟩;obtain⟨q,e⟩:=y u G c;by_cases b:yc k n=0
  .exact⟨_,rfl,rfl,_,rfl,jX (br (by rw[b])) ⟨sz_1,e b m s1⟩⟩
  .exact⟨_,rfl,rfl,_,rfl,jA (bf λh=>b (V.int.inj h)) ⟨_,rfl,q b m s1⟩⟩
def zbU:zD ["board","every","at_cells"] ["board"] (ze Ql):=bz
def zkN (T:Txt mg)(ah:qi K mg "TooGreat" jaj)(av:qi K mg "NoLaying" jad)(Z:Prog K mg)(D:zj K mg "shares" Ql ["board"] f fd):qz P w K mg base (CXE P w) 9 f fd ["board"] (zmW jaj jad):=by
 obtain⟨aB,aA,ak⟩:=Z.some_count;obtain⟨a9,a8,Yc⟩:=Z.counts_by_cell;obtain⟨a5,a4,qY⟩:=Z.closed;obtain⟨yb,jG,zw⟩:=Z.cells_of;obtain⟨yH,j9,zq⟩:=Z.sign_at;obtain⟨aD,aC,al⟩:=Z.fraction;obtain⟨a7,a6,jO⟩:=Z.greatest_divisor;refine D.F.okX zbU (λvs H Q E h=>?_) (λay A aw s H vs Q E L h=>?_)
 .revert h;refine fc λp l b n z0 _=>?_;subst z0;rfl
 .revert h;refine fh λp l b n z0 B R eg n0 qe=>?_;subst z0;obtain⟨az,am⟩:=zdO b R n;refine⟨_,(zf (zx (i:=1) zbU.nd rfl (UH rfl) (pcL qx (zel T ah av Z ak) L ak (za (pvS 0) zb))) (zf (zx (i:=2) zbU.nd rfl (UH rfl) (pcL qx (zbe T Z ah Yc) L Yc (za (pvS 0) zb))) (zg (zK (jq (Jg L.units L.hd) (by rfl) T.zik Sl (za (qJ (N:=["cell","every","at_cells"]) (src:=[none,some 1,some 2]) (zV.free (O:=(ze Ql).names) (XN:=["board","every","at_cells"]) rfl rfl ⟨_,rfl⟩ rfl rfl (by decide+kernel) (by decide+kernel) (by decide+kernel) rfl (by decide+kernel)) rfl (zR (pc0 (ZX T qY zw zq) L qY (za (pvS 0) zb))) (λ_ _ _ _ _=>(zv (i:=0) (by show W6 (["cell","every","at_cells"]:AE);decide+kernel) rfl (XI rfl))) (λ_ _ _ _ _=>qV) (λ_ _ _ _ _=>(jy (za (pvS 0) (za (pc0 (zhi al jO) L al (za (zfv (u1 L.units) (pvS 2) (pvS 0) (λ_ _=>rfl)) (za (pvS 1) zb))) zb))))) zb)))))),?_⟩;(try dsimp only[cxK,cxP,cxW]);refine⟨_,rfl,p,l,b,n,rfl,B,R,eg,n0,λgs G aa=>⟨λhz H1 s1=>?_,(qe gs G aa).2⟩⟩;have q:=(qe gs G aa).1;refine⟨_,rfl,p,l,b,n,rfl,B.mono s1,R,(λgs G bg H2 s2=>eg gs G bg H2 (s1.trans s2)),n0,λ_ _ _ da a3 H2 a2 ax au s2=>?_⟩;have ai:=s1.trans s2;refine⟨_,rfl,p,l,b,n,rfl,B.mono ai,R,λd5 w5 H5 a1 J an s5=>⟨d5,rfl,⟨_,SqL.of J⟩,λy hy=>?_⟩⟩;have ae:Cel H5 w5 (qk b):=an;have sl:(qk b).length<=64:=ji (p:=Zo) R;refine qw (K:=K) (a:=d5) (xs:=w5) (λi σ H'=>(∃u0,σ=[u0,some (.int (yc b n)),some (.ref da)])/\zu H5 H'/\∃u e,H' y=some (.lst u)/\j6 H' u e/\e.map (·.1)=((qk b).take i).map qU/\∀kv∈e,zhj H' b n kv.1 kv.2) ⟨⟨_,rfl⟩,zd hy,[],[],zc,.nil,rfl,(λ_ h=>nomatch h)⟩ (λi σ H' _ ⟨_,s6,_⟩=>SqL.of (s6 _ _ J)) ?_ ?_
  .rintro i x σ H6 hx ⟨⟨u0,rfl⟩,s6,u,e,U,r,j,M⟩;refine eE (λc ac=>eE λca z0 ab=>?_) (Cel.get (Cel.mono s6 ae) hx);subst z0;have g:=zc0.t (k:=qU c) ((s5.trans s6) _ _ ax) ab;rw[au c (X7 ac)]at g;have kl:e.length<=64:=by
    have:=congrArg List.length j;rw[X9,X9,XG]at this;lia
   refine xO ⟨_,rfl,_,rfl,_,rfl,da,_,rfl,g,_,rfl,_,_,rfl,by lia,am,λI ap=>⟨J2,λp1 ar=>?_⟩⟩;have s7:=zd (o:=frT (qI b n c) (yc b n)) ap;have ao:upd H6 I (frT (qI b n c) (yc b n)) I=some (frT (qI b n c) (yc b n)):=zc;have s8:=zd (o:=.tup [.ref ca,.ref I]) ar;have m:=s7.trans s8;have ag:u.length<=64:=by
    rw[r.length];exact kl
   have Y:=m _ _ U;refine dJ u Y (Xx ag (by decide)) ⟨_,rfl⟩ (λb' o e'=>?_) (dI (u++[.ref p1]) (e++[(qU c,.ref I)]) zc ?_ ?_ (λkv aq=>?_))
   .rw[zo (zk e' hy)];exact m _ _ (s6 _ _ e')
   .exact j6.into y _ Y (j6.snoc (r.mono m) ⟨p1,ca,rfl,zc,m _ _ ab⟩)
   .rw[Xj,j,Xv,ac,Xj];rfl
   .have st:∀{k v},zhj (upd (upd H6 I (frT (qI b n c) (yc b n))) p1 (.tup [.ref ca,.ref I])) b n k v->zhj (upd (upd (upd H6 I (frT (qI b n c) (yc b n))) p1 (.tup [.ref ca,.ref I])) y (.lst (u++[.ref p1]))) b n k v:=λ{k v} h d ek=>by
     obtain⟨t,e1,e2⟩:=h d ek;refine⟨t,e1,?_⟩;rw[zo (zeq e2 Y (by intro z;cases z))];exact e2
    rcases XO.mp aq with h | h
    .exact st ((M kv h).mono m)
    .rw[T5.mp h];exact st (zmV (s8 _ _ ao))
  .rintro σ H6 ⟨_,s6,u,e,U,r,j,M⟩;rw[ae.length,XC]at j;refine⟨y,u,_,rfl,U,r,λdd af=>?_⟩;have aj:=ai.trans (s5.trans s6);have s7:=zd (o:=.dT (YS e)) af;refine q hz dd _ _ (aj.free af) zc (λc hc=>?_) (aj.trans s7);have h1:(jB (YS e) (qU c)).isSome=true:=zmU (.inl (by
    have:qU c∈e.map (·.1):=by
     rw[j];exact XA.mpr ⟨c,hc,rfl⟩
    obtain⟨kv,h2,h3⟩:=XA.mp this;exact⟨kv,h2,h3⟩))
   obtain⟨v,hv⟩:=Wa.mp h1;obtain⟨t,e1,e2⟩:=zmT (φ:=zhj H6 b n) M (λ_ _ h=>by cases h) _ _ hv c rfl;exact⟨t,by rw[hv,e1],s7 _ _ e2⟩
def frP (n b:Int):Int×Int:=(n/(VX n b:Nat),b/(VX n b:Nat))
def zhk {H:Hp}{z:Addr}{ys:AF}{cs:AD}{a:Addr}{c:AA}(e:H z=some (.lst ys))(d:Cel H ys cs)(b:H a=some (.tup [.int (c.1:Nat),.int (c.2:Nat)])):Cel (upd H z (.lst (ys++[.ref a]))) (ys++[.ref a]) (cs++[c]) :=
 Ja (by
  rw[Xj];exact Z7 e (zg6 (Cel.tup2 d) (.cons ⟨a,rfl,b⟩ .nil)))
def zmX (a b x y:Int):(if false=true then !PyData.eqv (pD (a,b)) (pD (x,y)) else W8 (pD (a,b)) (pD (x,y)))=decide (a=x/\b=y):=by
 rw[bq XS,zmt];exact decide_eq_decide.mpr (by rw[P0])
def zqW {a b:Int}(c:0<=a)(d:0<b):(if false=true then !PyData.eqv (pD (frP a b)) (pD (0,1)) else W8 (pD (frP a b)) (pD (0,1)))=decide (a=0):=(zmX _ _ 0 1).trans (decide_eq_decide.mpr (zoH c d))
def zqX {a b:Int}(c:0<b):(if false=true then !PyData.eqv (pD (frP a b)) (pD (1,1)) else W8 (pD (frP a b)) (pD (1,1)))=decide (a=b):=(zmX _ _ 1 1).trans (decide_eq_decide.mpr (zqU c))
def zmY (p q:Int×Int):zfq (pD p) (pD q):=⟨rfl,rfl,by show 1<=64;decide⟩
def zcG:zD ["board","told","clears","stones"] ["board"] (ze zbL):=bz
def zjG (T:Txt mg)(az:qi K mg "TooGreat" jaj)(ay:qi K mg "NoLaying" jad)(Z:Prog K mg)(D:zj K mg "sure" zbL ["board"] f fd):qz P w K mg base (CXE P w) 10 f fd ["board"] (zqT jaj jad):=by
 obtain⟨aD,aC,au⟩:=Z.shares;obtain⟨aB,aA,qY⟩:=Z.closed;obtain⟨yb,jG,zw⟩:=Z.cells_of;obtain⟨yH,j9,zq⟩:=Z.sign_at;refine D.F.okX zcG (λvs H Q E h=>?_) (λa3 A a1 s H vs Q E hr h=>?_)
 .revert h;refine fc λp l b n z0 _=>?_;subst z0;rfl
 .revert h;refine fh λp l b n z0 B R eg n0 qe=>?_;subst z0;obtain⟨a4,a5⟩:=zdO b R n;have sl:(qk b).length<=64:=ji (p:=Zo) R;refine⟨_,(zf (zx (i:=1) zcG.nd rfl (UH rfl) (pcL qx (zkN T az ay Z au) hr au (za (pvS 0) zb))) (zf (Ze (i:=2) zcG.nd rfl rfl (N:=["cell","told"]) (src:=[none,some 1]) (zV.free (O:=(ze zbL).names) (XN:=["board","told","clears","stones"]) rfl rfl ⟨_,rfl⟩ rfl rfl (by decide+kernel) (by decide+kernel) (by decide+kernel) rfl (by decide+kernel)) rfl (zR (pc0 (ZX T qY zw zq) hr qY (za (pvS 0) zb))) (λ_ _ _ _ _=>(zv (i:=0) (by show W6 (["cell","told"]:AE);decide+kernel) rfl (XI rfl))) (λ_ _ _ _ _=>(qN (zG (Y9 (K:=K) (by rfl) hr.units) (zfv (u1 hr.units) (pvS 1) (pvS 0) (λ_ _=>rfl)) (@jy _ _ _ _ _ (@za _ _ _ _ _ zh (@za _ _ _ _ _ zh zb rfl) rfl)) (zU _)))) (λ_ _ _ _ _=>(pvS 0))) (zf (Ze (i:=3) zcG.nd rfl rfl (N:=["cell","told"]) (src:=[none,some 1]) (zV.free (O:=(ze zbL).names) (XN:=["board","told","clears","stones"]) rfl rfl ⟨_,rfl⟩ rfl rfl (by decide+kernel) (by decide+kernel) (by decide+kernel) rfl (by decide+kernel)) rfl (zR (pc0 (ZX T qY zw zq) hr qY (za (pvS 0) zb))) (λ_ _ _ _ _=>(zv (i:=0) (by show W6 (["cell","told"]:AE);decide+kernel) rfl (XI rfl))) (λ_ _ _ _ _=>(qN (zG (Y9 (K:=K) (by rfl) hr.units) (zfv (u1 hr.units) (pvS 1) (pvS 0) (λ_ _=>rfl)) (@jy _ _ _ _ _ (@za _ _ _ _ _ zh (@za _ _ _ _ _ zh zb rfl) rfl)) (zU _)))) (λ_ _ _ _ _=>(pvS 0))) (zg (zK (jy (za (pvS 2) (za (pvS 3) zb)))))))),?_⟩;(try dsimp only[cxK,cxP,cxW]);refine⟨_,rfl,p,l,b,n,rfl,B,R,eg,n0,λgs G al=>⟨λhz dd a9 H1 a8 av ae s1=>?_,(qe gs G al).2⟩⟩;have q:=(qe gs G al).1;have bp:0<yc b n:=by lia
  refine⟨_,rfl,p,l,b,n,rfl,B.mono s1,R,λd2 w2 H2 a6 ab aw s2=>⟨d2,rfl,⟨_,SqL.of ab⟩,λy hy=>?_⟩⟩;have am:Cel H2 w2 (qk b):=aw;refine qw (K:=K) (a:=d2) (xs:=w2) (λi Y L=>∃u0 u,Y=[u0,some (.ref dd)]/\zu H2 L/\L y=some (.lst u)/\Cel L u (((qk b).take i).filter λc=>decide (qI b n c=0))) ⟨_,[],rfl,zd hy,zc,.nil⟩ (λi Y L _ ⟨_,_,_,d,_⟩=>SqL.of (d _ _ ab)) ?_ ?_
  .refine λi x Y H3 hx=>eU λu0 u z0 s3 U j=>?_;subst z0;obtain⟨c,I,ca,rfl,v⟩:=Cel.get (Cel.mono s3 am) hx;have ao:=s2.trans s3;obtain⟨t,hv,ht⟩:=ae c (X7 I);have g:=zc0.t (k:=qU c) (ao _ _ av) v;rw[hv]at g;have yl:u.length<=64:=by
    rw[j.length];refine X0 (WW _ _) ?_;rw[XG];lia
   refine⟨_,rfl,_,rfl,dd,_,rfl,g,J2,λtq af=>?_⟩;have r:=zd (o:=.tup [.int 0,.int 1]) af;have ak:=ao.trans r;refine dI (pD _) (pD (0,1)) (PR.rdv (p:=frP (qI b n c) (yc b n)) ⟨t,rfl,ak _ _ ht⟩) (PR.rdv ⟨tq,rfl,zc⟩) (zmY _ _) ⟨_,rfl,?_⟩;rw[Xv,I,W5];have ee:=zqW (zkM b n c) bp;have ag:=r _ _ U;by_cases M:qI b n c=0
   .have ef:[c].filter (λc=>decide (qI b n c=0))=[c]:=by
     rw[WC,bw (br M)];rfl
    refine jX (ee.trans (br M)) ⟨_,rfl,u,ag,Xx yl (by decide),_,u++[.ref ca],rfl,λb' o e'=>?_,zc,?_⟩
    .rw[zo (zk e' hy)];exact r _ _ (s3 _ _ e')
    .show Cel _ _ (_++[c].filter _);rw[ef];exact zhk ag (j.mono r) (r _ _ v)
   .have ef:[c].filter (λc=>decide (qI b n c=0))=[]:=by
     rw[WC,bq (by rw[bf M];decide)];rfl
    refine jA (ee.trans (bf M)) ⟨_,u,rfl,s3.trans r,ag,?_⟩;show Cel _ _ (_++[c].filter _);rw[ef,WX];exact j.mono r
  .rintro Y H3 ⟨u0,u,rfl,s3,U,j⟩;rw[am.length,XC]at j;have aj:=s1.trans (s2.trans s3);have yn:H y=none:=(s1.trans s2).free hy;refine⟨_,rfl,p,l,b,n,rfl,B.mono aj,R,λd4 w4 H4 a7 ac ax r=>⟨d4,rfl,⟨_,SqL.of ac⟩,λz J=>?_⟩⟩;have aa:Cel H4 w4 (qk b):=ax;have ak:=(s2.trans s3).trans r;refine qw (K:=K) (a:=d4) (xs:=w4) (λi Y L=>∃u0 u,Y=[u0,some (.ref dd)]/\zu H4 L/\L z=some (.lst u)/\Cel L u (((qk b).take i).filter λc=>decide (qI b n c=yc b n))) ⟨_,[],rfl,zd J,zc,.nil⟩ (λi Y L _ ⟨_,_,_,d,_⟩=>SqL.of (d _ _ ac)) ?_ ?_
   .refine λi x Y H5 hx=>eU λu0 zs z0 s5 ah m=>?_;subst z0;obtain⟨c,I,ca,rfl,v⟩:=Cel.get (Cel.mono s5 aa) hx;have ap:=ak.trans s5;obtain⟨t,hv,ht⟩:=ae c (X7 I);have g:=zc0.t (k:=qU c) (ap _ _ av) v;rw[hv]at g;have yl:zs.length<=64:=by
     rw[m.length];refine X0 (WW _ _) ?_;rw[XG];lia
    refine⟨_,rfl,_,rfl,dd,_,rfl,g,J2,λtq af=>?_⟩;have d:=zd (o:=.tup [.int 1,.int 1]) af;have a2:=ap.trans d;refine dI (pD _) (pD (1,1)) (PR.rdv (p:=frP (qI b n c) (yc b n)) ⟨t,rfl,a2 _ _ ht⟩) (PR.rdv ⟨tq,rfl,zc⟩) (zmY _ _) ⟨_,rfl,?_⟩;rw[Xv,I,W5];have ee:=zqX (a:=qI b n c) bp;have ai:=d _ _ ah;by_cases M:qI b n c=yc b n
    .have ef:[c].filter (λc=>decide (qI b n c=yc b n))=[c]:=by
      rw[WC,bw (br M)];rfl
     refine jX (ee.trans (br M)) ⟨_,rfl,zs,ai,Xx yl (by decide),_,zs++[.ref ca],rfl,λb' o e'=>?_,zc,?_⟩
     .rw[zo (zk e' J)];exact d _ _ (s5 _ _ e')
     .show Cel _ _ (_++[c].filter _);rw[ef];exact zhk ai (m.mono d) (d _ _ v)
    .have ef:[c].filter (λc=>decide (qI b n c=yc b n))=[]:=by
      rw[WC,bq (by rw[bf M];decide)];rfl
     refine jA (ee.trans (bf M)) ⟨_,zs,rfl,s5.trans d,ai,?_⟩;show Cel _ _ (_++[c].filter _);rw[ef,WX];exact m.mono d
   .rintro Y H5 ⟨u0,zs,rfl,s5,ah,m⟩;rw[aa.length,XC]at m;have aq:=r.trans s5;refine⟨_,rfl,_,rfl,J2,λt ht=>?_⟩;have d:=zd (o:=.tup [.ref y,.ref z]) ht;have ar:=aq.trans d;have an:=aj.trans aq;refine q hz t y z u zs _ (an.free ht) yn ((aj.trans r).free J) (λe=>?_) zc (ar _ _ U) (d _ _ ah) (j.mono ar) (m.mono d) (an.trans d);subst e;rw[r _ _ U]at J;cases J
def fdS:Str:=".o#"
def zoJ:Sp:=λa H Q _=>∃(c k:Int),a=[.int c,.int k]/\0<=k/\k<=1000000/\∀z:Int,Q (.int z) H
def Row.more {NK:List Nat}{n:Nat}{t:Str}{c:Nat}(r:Row NK n t)(h:c∈NK):Row NK (n+1) (t++⟨#[c]⟩):=by
 have e:(t++(⟨#[c]⟩:Str)).cps=t.cps++#[c]:=rfl;refine⟨?_,λd hd=>?_⟩
 .rw[e,Su,r.len];rfl
 .rw[e,Xb]at hd;rcases XO.mp hd with hd | hd
  .exact r.mem d hd
  .have z:d=c:=by simpa using hd
   rw[z];exact h
def YO:zD ["_law_cell","_law_k","_law_drawn"] ["_law_cell","_law_k"] (ze x8):=bz
def zfX (D:zj K mg "_law_mixed" x8 ["_law_cell","_law_k"] f fd):qz P w K mg base CX0 1 f fd ["_law_cell","_law_k"] zoJ:=by
 refine D.F.ok YO (λg H Q E h=>?_) (λb A a s H g Q E o h=>?_)
 .obtain⟨c,i,rfl,_⟩:=h;rfl
 .obtain⟨c,i,rfl,h0,h1,k⟩:=h;refine⟨_,(zf (zx (i:=2) YO.nd rfl (XI rfl) (zC qp (zC qP (zC qP (zC qp (pvS 0) zh) (@zC _ _ _ _ _ _ _ _ Zd zh (pvS 1))) zh) zh)) (zf (zx (i:=2) YO.nd rfl (XI rfl) (zC qp (zC Zd (zC qp (zC Zd (pvS 2) (pvS 2)) zh) zh) zh)) (zg (zK (zC qq (zC qp (zC Zd (pvS 2) (zC qP (pvS 2) zh)) zh) zh))))),?_⟩;(try dsimp only[cxK,cxP,cxW]);refine⟨_,rfl,_,_,rfl,rfl,(by show (0:Int)<2147483629;decide),_,rfl,_,_,rfl,rfl,mulL (by decide) (by decide),_,_,rfl,rfl,_,_,rfl,rfl,_,_,rfl,rfl,(by show (0:Int)<2147483647;decide),?_⟩;have j:=Wr (c%2147483629+7919*i+11) (show (2147483647:Int)≠0 by decide);have l:=Wv (c%2147483629+7919*i+11) (show (0:Int)<2147483647 by decide);generalize (c%2147483629+7919*i+11)%2147483647=d at *
  refine⟨_,rfl,_,rfl,_,_,rfl,rfl,mulL (by lia) (by lia),_,_,rfl,rfl,(by show (0:Int)<2147483647;decide),_,_,rfl,rfl,zrI (by decide) (by decide),_,_,rfl,rfl,(by show (0:Int)<2147483587;decide),?_⟩;have m:=Wr (d*d%2147483647*48271) (show (2147483587:Int)≠0 by decide);have n:=Wv (d*d%2147483647*48271) (show (0:Int)<2147483587 by decide);generalize d*d%2147483647*48271%2147483587=e at *
  exact⟨_,rfl,_,rfl,_,_,rfl,rfl,_,_,rfl,rfl,mulL (by lia) (by lia),_,_,rfl,rfl,(by show (0:Int)<2147483563;decide),_,_,rfl,rfl,jE.small (by decide) (by decide),k _⟩
def bs:Str:="?012345678#"
def Sg (z:Str):Prop:=∀c∈z.cps.toList,(!(!(Ub z ⟨#[c]⟩ 0 z.length 1).isEmpty))=false
def zsq:Sg bs:=by
 unfold Sg;decide+kernel
def ziB:Sp:=λa H Q _=>∃(t:Str) (n:Nat) (z:Str),a=[.str t,.int n,.str z]/\Sg z/\1<=n/\n<=8/\Row z.cps.toList n t/\Q .non H
def zkP:Sp:=λc H Q _=>∃(a:Addr) (b:AE) (z:Str),c=[.ref a,.str z]/\Sg z/\H a=some (.lst (b.map V.str))/\Rows z.cps.toList b/\∀l,H l=none->Q (.ref l) (upd H l (.lst (b.map V.str)))
def zoK:Sp:=λc H Q _=>∃(a:Addr) (b:AE) (n:Int),c=[.ref a,.int n]/\H a=some (.lst (b.map V.str))/\Rows bs.cps.toList b/\0<=n/\n<=64 /\
 ∀l p,H l=none->H p=none->p≠l->Q (.ref p) (upd (upd H l (.lst (b.map V.str))) p (.tup [.ref l,.int n]))
def zbh:zD ["row","length","signs","sign"] ["row","length","signs"] (ze Zj):=bz
def zfY (T:Txt mg)(D:zj K mg "check_row" Zj ["row","length","signs"] f fd):qz P w K mg base CX0 1 f fd ["row","length","signs"] ziB:=by
 refine D.F.ok zbh (λr H Q E h=>?_) (λm A g s H r Q E u h=>?_)
 .obtain⟨t,n,z,rfl,_⟩:=h;rfl
 .obtain⟨t,n,z,rfl,q,y,p,a,k⟩:=h;refine⟨_,(zf (qL (zai (Y5 Zx Zx zh (zB ju (by rfl) T.qX Xf (za (pvS 0) zb)) (qG (v:=.int 8) (by rfl) T.Qm.choose_spec (by exact⟨_,rfl⟩)))) (zg Y0) qc) (zf (qL (zG zcL (zB ju (by rfl) T.qX Xf (za (pvS 0) zb)) (pvS 1) (zU _)) (zg Y0) qc) (zg (qS W3 rfl (zp3 (pvS 0)) (zv (i:=3) zbh.nd rfl (XI rfl)) (zg (qL (zG zfo (pvS 3) (pvS 2) (by rfl)) (zg Y0) qc)))))),?_⟩;(try dsimp only[cxK,cxP,cxW]);have b:t.length<=Xz:=by
   have e:t.length=n:=a.len;rw[e];exact X0 p (by decide)
  refine⟨_,rfl,t,rfl,b,_,_,rfl,rfl,_,rfl,?_⟩;have e:t.length=n:=a.len;refine zch (λc=>?_) (λc=>absurd (br (show (1:Int)<=(t.length:Nat) by lia)) c);refine⟨_,_,rfl,rfl,_,rfl,?_⟩;have l:decide (((t.length:Nat):Int)<=8)=true:=br (by lia);rw[l];refine QW ?_;refine⟨_,rfl,t,rfl,b,_,rfl,rfl,_,rfl,zpb (by rw[e]) ?_⟩;refine⟨_,rfl,t,rfl,?_⟩;refine znH (x:=t) (λ_ j d=>∃v,j=[some (.str t),some (.int n),some (.str z),v]/\d=H) ⟨_,rfl,rfl⟩ ?_ ?_
  .rintro i c j d o ⟨v,rfl,rfl⟩;refine⟨_,rfl,_,rfl,_,_,rfl,rfl,_,rfl,?_⟩;rw[q c (a.mem c (X7 (by rw[Xy];exact o)))];exact QW ⟨_,rfl,rfl⟩
  .rintro j d ⟨v,rfl,rfl⟩;exact k
def YW:zD ["rows","signs","row"] ["rows","signs"] (ze yU):=bz
def YX (T:Txt mg)(Z:Prog K mg)(D:zj K mg "checked_rows" yU ["rows","signs"] f fd):qz P w K mg base CX0 2 f fd ["rows","signs"] zkP:=by
 obtain⟨O,N,o⟩:=Z.check_row;refine D.F.ok YW (λM H Q E h=>?_) (λB A r s H M Q E G h=>?_)
 .obtain⟨a,g,z,rfl,_⟩:=h;rfl
 .revert h;refine eL λa g z z0 L l R k=>?_;subst z0;refine⟨_,(zf (qL (zai (Y5 Zx Zx zh (zB zE (by rfl) T.qX Xf (za (pvS 0) zb)) (qG (v:=.int 8) (by rfl) T.Qm.choose_spec (by exact⟨_,rfl⟩)))) (zg Y0) qc) (zf (qS W3 rfl (zR (pvS 0)) (zv (i:=2) YW.nd rfl (XI rfl)) (zg (yu (pc0 (zfY T o) G o (za (pvS 2) (za (zB ju (by rfl) T.qX Xf (za (qu qW (pvS 0) zh (λ_ _=>rfl)) zb)) (za (pvS 1) zb))))))) (zg (zK (jq yO (by rfl) T.zdp US (za (pvS 0) zb)))))),?_⟩;(try dsimp only[cxK,cxP,cxW]);obtain⟨J,U,n,I,u,d⟩:=R;refine⟨_,rfl,a,_,rfl,.inl (SqL.of l),_,_,rfl,rfl,_,rfl,?_⟩;rw[X9];refine zch (λc=>?_) (λc=>absurd (br (show (1:Int)<=(g.length:Nat) by lia)) c);refine⟨_,_,rfl,rfl,_,rfl,?_⟩;have y:decide (((g.length:Nat):Int)<=8)=true:=br (by lia);rw[y];refine QW ?_;refine⟨_,rfl,a,rfl,⟨_,SqL.of l⟩,?_⟩;refine yN (K:=K) (a:=a) (xs:=g.map V.str) (λ_ q p=>∃v,q=[some (.ref a),some (.str z),v]/\p=H) ⟨_,rfl,rfl⟩ (λi q p _ ⟨_,_,e⟩=>by rw[e];exact SqL.of l) ?_ ?_
  .rintro i x q p m ⟨v,rfl,rfl⟩;rw[Xo]at m;cases e:g[i]? with
   | none =>
    rw[e]at m;cases m
   | some t =>
    rw[e]at m;cases m;obtain⟨j,b,rfl⟩:∃j b,g=j::b:=by
     cases g with
     | nil=>exact absurd J (by decide)
     | cons j b=>exact⟨j,b,rfl⟩
    have h0:j.length=n:=(d j XV).len;refine⟨_,rfl,_,rfl,a,_,0,_,rfl,rfl,SqL.of l,Zw (by decide) rfl,j,rfl,?_,_,rfl,t,n,z,?_,L,I,u,d t (X7 e),?_⟩
    .rw[h0];exact X0 u (by decide)
    .rw[h0];rfl
    .exact⟨_,rfl,rfl⟩
  .rintro q p ⟨v,rfl,rfl⟩;exact⟨_,rfl,a,_,rfl,.inl (SqL.of l),k⟩
def zca:zD ["rows","stones","own_rows"] ["rows","stones"] (ze Yy):=bz
def zhm (T:Txt mg)(Z:Prog K mg)(D:zj K mg "board_of" Yy ["rows","stones"] f fd):qz P w K mg base CX0 3 f fd ["rows","stones"] zoK:=by
 obtain⟨G,B,j⟩:=Z.checked_rows;refine D.F.ok zca (λy H Q E h=>?_) (λm A e s H y Q E r h=>?_)
 .obtain⟨a,g,n,rfl,_⟩:=h;rfl
 .revert h;refine eV λa g n=>eK λz0 o R u x k=>?_;subst z0;refine⟨_,(zf (zx (i:=2) zca.nd rfl (XI rfl) (pc0 (YX T Z j) r j (za (pvS 0) (za (qG (v:=.str "?012345678#") (by rfl) T.zeb.choose_spec (by exact⟨_,rfl⟩)) zb)))) (zf (qL (zai (Y5 Zx Zx zh (pvS 1) (qG (v:=.int 64) (by rfl) T.zed.choose_spec (by exact⟨_,rfl⟩)))) (zg Y0) qc) (zg (zK (jy (za (pvS 2) (za (pvS 1) zb))))))),?_⟩;(try dsimp only[cxK,cxP,cxW]);refine⟨_,rfl,a,g,bs,rfl,zsq,o,R,λl q=>?_⟩;refine⟨_,rfl,_,_,rfl,rfl,_,rfl,?_⟩;refine zch (λc=>?_) (λc=>absurd (br u) c);refine⟨_,_,rfl,rfl,_,rfl,?_⟩;rw[br x];refine QW ?_;refine⟨_,rfl,_,rfl,J2,λp d=>?_⟩;have b:p≠l:=λz=>by rw[z,zc]at d;cases d
  rw[zo b]at d;exact k l p q d b
def zqY:Sp:=λf H Q _=>∃(l:Addr) (b:AE) (k:Nat),f=[.ref l,.str ⟨#[k]⟩]/\H l=some (.lst (b.map V.str))/\Rows fdS.cps.toList b /\
 ∀(d:Addr) (e:AF) (a:Hp),H d=none->a d=some (.lst e)->Cel a e (Cells.zI (λc=>zO c&&decide (c=k)) 0 (codes b))->zu H a->Q (.ref d) a
def zmZ:Sp:=λf H Q _=>∃(l:Addr) (b:AE),f=[.ref l]/\H l=some (.lst (b.map V.str))/\Rows fdS.cps.toList b /\
 ∀(d:Addr) (e:AF) (a:Hp),H d=none->a d=some (.lst e)->Cel a e (Cells.zI (λc=>zO c&&decide (c=111)) 0 (codes b))->zu H a->Q (.ref d) a
def zhn:("o":Str)=⟨#[111]⟩:=by decide+kernel
def zad:zD ["field","sign","seen"] ["field","sign"] (ze jJ):=bz
def zae {f1 f2:Addr}{aa ab:XM}(T:Txt mg)(D:zj K mg "cells_with" jJ ["field","sign"] f fd)(zw:zj K mg "cells_of" qv ["board"] f1 aa)(zq:zj K mg "sign_at" qH ["board","cell"] f2 ab) :
  qz P w K mg base CX0 2 f fd ["field","sign"] zqY:=by
 refine D.F.ok zad (λvs H Q E h=>?_) (λae A ac s H vs Q E hr h=>?_)
 .obtain⟨l,g,k,rfl,_⟩:=h;rfl
 .revert h;refine e9 λl g n z0 hl R q=>?_;subst z0;refine⟨_,(zf (zx (i:=2) zad.nd rfl (UH rfl) (jy (za (pvS 0) (@za _ _ _ _ _ zh zb rfl)))) (zg (zK (qJ (N:=["cell","sign","seen"]) (src:=[none,some 1,some 2]) (zV.free (O:=(ze jJ).names) (XN:=["field","sign","seen"]) rfl rfl ⟨_,rfl⟩ rfl rfl (by decide+kernel) (by decide+kernel) (by decide+kernel) rfl (by decide+kernel)) rfl (zR (pc0 (za1 T zw) hr zw (za (pvS 2) zb))) (λ_ _ _ _ _=>(zv (i:=0) (by show W6 (["cell","sign","seen"]:AE);decide+kernel) rfl (XI rfl))) (λ_ _ _ _ _=>(qN (zG ZF (pc0 (JZ zq) hr zq (za (pvS 2) (za (pvS 0) zb))) (pvS 1) (zU _)))) (λ_ _ _ _ _=>(pvS 0)))))),?_⟩;(try dsimp only[cxK,cxP,cxW]);refine⟨_,rfl,J2,λa ha=>?_⟩;have G:zu H (upd H a (.tup [.ref l,.int 0])):=zd ha;have b:qh (upd H a (.tup [.ref l,.int 0])) a l g 0:=⟨zc,G _ _ hl⟩;refine⟨_,rfl,a,l,g,0,rfl,b,⟨_,R⟩,λd ws H1 hd B I s1=>⟨d,rfl,⟨_,SqL.of B⟩,λz hz=>?_⟩⟩;have nz:d≠z:=zk B hz;refine qw (K:=K) (a:=d) (xs:=ws) (λi σ Y=>∃(u0:Option V) (r:AF),σ=[u0,some (.str ⟨#[n]⟩),some (.ref a)]/\zu H1 Y/\Y z=some (.lst r)/\Cel Y r (((Cells.zI zO 0 (codes g)).take i).filter λx=>decide (Cells.sgn (codes g) x=n)))
   ⟨_,[],rfl,zd hz,zc,.nil⟩ (λi σ Y _ ⟨_,_,_,v,_⟩=>SqL.of (v _ _ B)) ?_ ?_
  .refine λi x σ H2 hx=>eU λu0 r z0 v m e=>?_;subst z0;obtain⟨c,L,ca,rfl,J⟩:=Cel.get (Cel.mono v I) hx;refine fj (λk0 j u k ec M hj af=>?_) (Cells.xr (X7 L));obtain⟨t,ht,rfl⟩:=QH M;rw[VD]at ec;subst ec;refine⟨_,rfl,_,rfl,a,l,ca,g,0,k0,j,t,k,rfl,(b.mono s1).mono v,J,ht,hj,R.tlen ht,_,rfl,rfl,_,rfl,?_⟩;have es:Cells.sgn (codes g) (k0,j)=k:=Cells.zbE M hj;have step:((Cells.zI zO 0 (codes g)).take (i+1)).filter (λx=>decide (Cells.sgn (codes g) x=n))=((Cells.zI zO 0 (codes g)).take i).filter (λx=>decide (Cells.sgn (codes g) x=n))++(if decide (k=n)=true then [(k0,j)] else []):=by
    rw[Xv,L,W5];congr 1;show OU _ [(k0,j)]=_;rw[WC];try dsimp only
    rw[es];split<;>rfl
   have ed:decide (V.str ⟨#[k]⟩=V.str ⟨#[n]⟩)=decide (k=n):=by
    simp only[zbM]
   rw[ed];by_cases hp:decide (k=n)=true
   .rw[bw hp]at step;refine jX hp ?_;have U:r.length<=64:=by
     rw[e.length];refine X0 (WW _ _) ?_;rw[XG];have h1:=Cells.ja zO 0 (codes g) R.short;have h2:=R.hi;rw[qR]at h1;lia
    refine⟨_,rfl,r,m,Xx U (by decide),_,r++[.ref ca],rfl,λb' o e'=>?_,zc,?_⟩
    .have hb:b'≠z:=λy=>by
      subst y;rw[hz]at e';cases e'
     rw[zo hb];exact v _ _ e'
    .rw[step];exact Cel.into z _ m (Cel.snoc e ⟨ca,rfl,J⟩)
   .rw[bq hp]at step;refine jA (by simpa using hp) ?_;refine⟨_,r,rfl,v,m,?_⟩;rw[step];simpa using e
  .rintro σ H2 ⟨u0,r,rfl,v,m,e⟩;rw[I.length,XC,Cells.all_filter (p:=zO) (q:=λk=>decide (k=n)) (codes g)]at e;exact q z r H2 ((G.trans s1).free hz) m e ((G.trans s1).trans v)
def zfZ:zD ["field"] ["field"] (ze Zk):=bz
def zbi {j k m:Addr}{a b c:XM}(T:Txt mg)(D:zj K mg "stones_of" Zk ["field"] f fd)(e:zj K mg "cells_with" jJ ["field","sign"] j a)(u:zj K mg "cells_of" qv ["board"] k b)(r:zj K mg "sign_at" qH ["board","cell"] m c) :
  qz P w K mg base CX0 3 f fd ["field"] zmZ:=by
 refine D.F.ok zfZ (λp H Q E h=>?_) (λi A d s H p Q E o h=>?_)
 .obtain⟨l,g,rfl,_⟩:=h;rfl
 .obtain⟨l,g,rfl,n,R,q⟩:=h;refine⟨_,(zg (zK (pc0 (zae T e u r) o e (za (pvS 0) (za (qG (v:=.str "o") (by rfl) T.JD.choose_spec.1 (by exact⟨_,rfl⟩)) zb))))),?_⟩;(try dsimp only[cxK,cxP,cxW]);exact⟨_,rfl,l,g,111,by rw[zhn];rfl,n,R,q⟩
def mw (a h0:Int):Int:=if a/(1+h0%8)<8 then a/(1+h0%8) else 8
def zsr {a h0:Int}(f:8<=a):1<=mw a h0/\mw a h0<=8/\(1+h0%8)*mw a h0<=a:=by
 have d:=Wr h0 (show (8:Int)≠0 by decide);have e:=Wv h0 (show (0:Int)<8 by decide);have b:0<1+h0%8:=by lia
 have g:1+h0%8<=8:=by lia
 unfold mw;generalize 1+h0%8=k at *
 by_cases c:a/k<8
 .rw[bw c];refine⟨(Pg b).mpr (by lia),by lia,Int.mul_ediv_self_le (by lia)⟩
 .rw[bq c];have:=(Pg b).mp (show 8<=a/k by lia);exact⟨by decide,by decide,by lia⟩
def fz (a:Str):Str:=(("o":Str)++a)++("#":Str)
def zoM (a:Str):(fz a).cps.size=a.length+2:=by
 have e:(fz a).cps=(("o":Str).cps++a.cps)++("#":Str).cps:=rfl;rw[e,Su,Su];show 1+a.cps.size+1=a.cps.size+2;lia
def zqZ {a:Str}(g:∀c∈a.cps.toList,c∈((".":Str)).cps.toList):∀c∈(fz a).cps.toList,c∈fdS.cps.toList:=by
 intro c hc;have e:(fz a).cps.toList=(("o":Str).cps.toList++a.cps.toList)++("#":Str).cps.toList:=by
  have e:(fz a).cps=(("o":Str).cps++a.cps)++("#":Str).cps:=rfl;rw[e,Xb,Xb]
 rw[e]at hc;have b:∀c∈("o":Str).cps.toList,c∈fdS.cps.toList:=by decide+kernel
 have d:∀c∈(".":Str).cps.toList,c∈fdS.cps.toList:=by decide+kernel
 have f:∀c∈("#":Str).cps.toList,c∈fdS.cps.toList:=by decide+kernel
 rcases XO.mp hc with hc | hc
 .rcases XO.mp hc with hc | hc
  .exact b c hc
  .exact d c (g c hc)
 .exact f c hc
def zoN (K:X5):Sp:=λf H Q _=>∃(a:Addr) (e:List Int) (b:Int),f=[.ref a,.int b]/\SqL K H a (e.map V.int)/\8<=b/\b<=64 /\
 ∀(l:Addr) (c:AE) (d:Hp),H l=none->d l=some (.lst (c.map V.str))->zu H d->Rows fdS.cps.toList c->(∀t∈c,((c.length*t.cps.size:Nat):Int)<=b)->Q (.ref l) d
def qj:zD ["_law_script","_law_most","_law_high","_law_wide","_law_signs","_law_rows","_law_row","_law_own","_law_text","_law_column","_law_place","_law_drawn"] ["_law_script","_law_most"] (ze Zm):=bz
def zf0 {f1 f2:Addr}{aa ae:XM}(T:Txt mg)(D:zj K mg "_law_field" Zm ["_law_script","_law_most"] f fd)(M:zj K mg "_law_cell_at" jR ["_law_script","_law_k"] f1 aa)(Zs:zj K mg "_law_mixed" x8 ["_law_cell","_law_k"] f2 ae) :
  qz P w K mg base CX0 2 f fd ["_law_script","_law_most"] (zoN K):=by
 have zP:qz P w K mg base CX0 1 f1 aa ["_law_script","_law_k"] (zfL K):=JY T M;refine D.F.ok qj (λvs H Q E h=>?_) (λah A ag s H vs Q E G h=>?_)
 .obtain⟨a,I,z,rfl,_⟩:=h;rfl
 .revert h;refine eL λa I m z0 Y m8 ak k=>?_;subst z0;refine⟨_,(@zf _ _ _ _ _ (@zx _ _ 2 _ _ _ _ qj.nd rfl (XI rfl) (@zC _ _ _ _ _ _ _ _ qP zh (zC qp (pc0 zP G M (za (pvS 0) (@za _ _ _ _ _ zh zb rfl))) zh)) (by rfl) (.inr rfl)) (@zf _ _ _ _ _ (@zx _ _ 3 _ _ _ _ qj.nd rfl (XI rfl) (@zC _ _ _ _ _ _ _ _ qP zh (zC qp (pc0 zP G M (za (pvS 0) (@za _ _ _ _ _ zh zb rfl))) (zB (zbo rfl) (by rfl) T.zmh Sh (@za _ _ _ _ _ zh (za (zC qq (pvS 1) (pvS 2)) zb) rfl)))) (by rfl) (.inr rfl)) (@zf _ _ _ _ _ (@zx _ _ 4 _ _ _ _ qj.nd rfl (XI rfl) (@zC _ _ _ _ _ _ _ _ Yr (@zC _ _ _ _ _ _ _ _ Yr jZ (@zC _ _ _ _ _ _ _ _ zhR jZ (@zC _ _ _ _ _ _ _ _ qP zh (zC qp (zC qq (pc0 zP G M (za (pvS 0) (@za _ _ _ _ _ zh zb rfl))) zh) zh)))) jZ) (by rfl) (.inr rfl)) (@zf _ _ _ _ _ (@zx _ _ 5 _ _ _ _ qj.nd rfl (XI rfl) (@qo _ _ _ _ zb) (by rfl) (.inr rfl)) (zf (qS W3 rfl (yD (by rfl) T.xR (za (pvS 2) zb)) (zv (i:=6) qj.nd rfl (XI rfl)) (zf (zx (i:=7) qj.nd rfl (XI rfl) (pc0 zP G M (za (pvS 0) (@za _ _ _ _ _ (@zC _ _ _ _ _ _ _ _ qP zh (pvS 6)) zb rfl)))) (@zf _ _ _ _ _ (@zx _ _ 8 _ _ _ _ qj.nd rfl (XI rfl) jZ (by rfl) (.inr rfl)) (zf (qS W3 rfl (yD (by rfl) T.xR (za (pvS 3) zb)) (zv (i:=9) qj.nd rfl (XI rfl)) (@zf _ _ _ _ _ (@zx _ _ 10 _ _ _ _ qj.nd rfl (XI rfl) (@zC _ _ _ _ _ _ _ _ qP (@zC _ _ _ _ _ _ _ _ Zd zh (pvS 6)) (pvS 9)) (by rfl) (.inr rfl)) (zf (zx (i:=11) qj.nd rfl (XI rfl) (pc0 (zfX Zs) G Zs (za (pc0 zP G M (za (pvS 0) (@za _ _ _ _ _ (@zC _ _ _ _ _ _ _ _ qP zh (zC qp (pvS 10) zh)) zb rfl))) (za (pvS 10) zb)))) (zaE (qL (zG ZF (zC qp (zC qq (pc0 zP G M (za (pvS 0) (@za _ _ _ _ _ zh zb rfl))) zh) zh) zh (zU _)) (zf (zx (i:=11) qj.nd rfl (XI rfl) (pvS 7)) (zg (zx (i:=7) qj.nd rfl (XI rfl) (zC qq (pvS 7) (zB ju (by rfl) T.qX Xf (za (pvS 4) zb)))))) (zg (qL (zG zia (zC qp (zC qq (pvS 11) zh) zh) zh (zU _)) (zg (zx (i:=11) qj.nd rfl (XI rfl) (zC qp (pvS 11) (zC yv (zB ju (by rfl) T.qX Xf (za (pvS 4) zb)) zh)))) qc))) (zg (zx (i:=8) qj.nd rfl (XI rfl) (zC Yr (pvS 8) (qu zaP (pvS 4) (zC qp (pvS 11) (zB ju (by rfl) T.qX Xf (za (pvS 4) zb))) (λ_ _=>rfl))))))))) (zg (yu (Y7 Wz VN VM yy (pvS 5) (za (pvS 8) zb)))))))) (zg (zK (pvS 5)))))))),?_⟩;(try dsimp only[cxK,cxP,cxW]);refine⟨_,rfl,a,I,_,rfl,Y,by decide,λh0=>⟨_,_,rfl,rfl,(by show (0:Int)<8;decide),_,_,rfl,rfl,?_⟩⟩;have e1:=Wr h0 (show (8:Int)≠0 by decide);have e2:=Wv h0 (show (0:Int)<8 by decide);obtain⟨w1,w2,w3⟩:=zsr (h0:=h0) m8;refine⟨_,rfl,a,I,_,rfl,Y,by decide,λx=>⟨_,rfl,_,rfl,_,_,rfl,rfl,jE.small (by show (0:Int)<1+h0%8;lia) (by show 1+h0%8<(1073741824:Int);lia),_,_,rfl,_,_,rfl,rfl,(by show (0:Int)<mw m h0;lia),_,_,rfl,rfl,?_⟩⟩;have e3:=Wr x (show mw m h0≠0 by lia);have e4:=Wv x (show (0:Int)<mw m h0 by lia);refine⟨_,rfl,a,I,_,rfl,Y,by decide,λU=>?_⟩;have e5:=Wr (U/16) (show (5:Int)≠0 by decide);have e6:=Wv (U/16) (show (0:Int)<5 by decide);refine⟨_,_,rfl,rfl,jE.small (by decide) (by decide),_,_,rfl,rfl,(by show (0:Int)<5;decide),_,_,rfl,rfl,".",_,rfl,rfl,(by show (1:Int)<=1+U/16%5;lia),(by show 1+U/16%5<=(1000:Int);lia),by decide,λg dl dm=>?_⟩;have ai:g.length=(1+U/16%5).toNat:=by
   rw[dl];show 1*(1+U/16%5).toNat=_;lia
  have zs:=zoM g;have zm:=zqZ dm;have z1:3<=(fz g).cps.size:=by lia
  have z2:(fz g).cps.size<=7:=by lia
  refine dG ⟨rfl,rfl,?_,_,_,(dN rfl rfl ?_ ?_)⟩
  .exact X0 (show ("o":Str).length+g.length<=100 by show 1+g.length<=100;lia) (by decide)
  .refine X0 (show (("o":Str)++g).length+("#":Str).length<=100 from ?_) (by decide);have:(("o":Str)++g).length=1+g.length:=by
    show (("o":Str).cps++g.cps).size=_;rw[Su];rfl
   rw[this];show 1+g.length+1<=100;lia
  refine⟨ZP,λl hl=>?_⟩;have s0:zu H (upd H l (.lst [])):=zd hl;refine⟨_,rfl,1+h0%8,rfl,by lia,by lia,?_⟩;refine jC (lo:=0) (n:=(1+h0%8).toNat) (λi N O=>∃(v6 v7 v8 L q r:Option V) (J:AE),N=[some (.ref a),some (.int m),some (.int (1+h0%8)),some (.int (1+x%mw m h0)),some (.str (fz g)),some (.ref l),v6,v7,v8,L,q,r]/\zu H O/\O l=some (.lst (J.map V.str))/\J.length=i/\∀t∈J,Row (fz g).cps.toList (1+x%mw m h0).toNat t)
   (dU (dJ [] rfl s0 zc rfl (λ_ h=>nomatch h))) ?_ ?_
  .refine λi N H1 hi=>eB λv6 v7 v8 L=>eL λq r J z0 s1 y v p=>?_;subst z0;refine⟨_,rfl,_,rfl,_,_,rfl,rfl,a,I,_,rfl,s1.seq Y,by lia,λown=>?_⟩;refine⟨_,rfl,1+x%mw m h0,rfl,by lia,by lia,?_⟩;refine jC (lo:=0) (n:=(1+x%mw m h0).toNat) (λj N O=>∃(L q r:Option V) (o:Int) (t:Str),N=[some (.ref a),some (.int m),some (.int (1+h0%8)),some (.int (1+x%mw m h0)),some (.str (fz g)),some (.ref l),some (.int (0+i)),some (.int o),some (.str t),L,q,r]/\O=H1/\Row (fz g).cps.toList j t)
    ⟨_,_,_,own,_,rfl,rfl,⟨rfl,λ_ h=>nomatch h⟩⟩ ?_ ?_
   .refine λj N H2 hj=>eS λL q r o t=>eF λz0 z1 B=>?_;subst z0 z1;refine⟨_,rfl,_,_,rfl,rfl,mulL (by decide) (by decide),_,rfl,_,_,rfl,rfl,?_⟩;have af:(0:Int)<=8*(0+i)+(0+j):=by lia
    have aj:8*(0+(i:Int))+(0+j)<=1000:=by lia
    have q0:=Wr (8*(0+(i:Int))+(0+j)) (show (59:Int)≠0 by decide);refine⟨_,rfl,_,rfl,_,_,rfl,rfl,(by show (0:Int)<59;decide),_,_,rfl,rfl,a,I,_,rfl,s1.seq Y,by lia,λc=>⟨_,rfl,_,_,rfl,af,by lia,λd=>?_⟩⟩;refine⟨fun ac O=>∃(o d:Int),ac=[some (.ref a),some (.int m),some (.int (1+h0%8)),some (.int (1+x%mw m h0)),some (.str (fz g)),some (.ref l),some (.int (0+i)),some (.int o),some (.str t),some (.int (0+j)),some (.int (8*(0+i)+(0+j))),some (.int d)]/\O=H2,?_,?_⟩
    .refine⟨_,rfl,a,I,_,rfl,s1.seq Y,by decide,λc0=>⟨_,_,rfl,rfl,jE.small (by decide) (by decide),_,_,rfl,rfl,(by show (0:Int)<2;decide),rfl,_,rfl,zch (λ_=>?_) (λ_=>?_)⟩⟩
     .refine⟨_,rfl,_,rfl,_,rfl,fz g,rfl,?_,_,_,rfl,rfl,?_,?_⟩
      .exact X0 z2 (by decide)
      .exact jE.small (by show (0:Int)<((fz g).cps.size:Nat);lia) (by show (((fz g).cps.size:Nat):Int)<1073741824;lia)
      .exact⟨_,_,rfl,rfl⟩
     .refine⟨_,rfl,_,_,rfl,rfl,jE.small (by decide) (by decide),_,_,rfl,rfl,(by show (0:Int)<3;decide),_,_,rfl,rfl,_,rfl,zch (λ_=>?_) (λ_=>?_)⟩
      .refine⟨_,rfl,_,rfl,fz g,rfl,X0 z2 (by decide),_,_,rfl,rfl,_,_,rfl,rfl,(by show (0:Int)<((fz g).cps.size:Nat)-1;lia),?_⟩;exact⟨_,_,rfl,rfl⟩
      .exact⟨_,_,rfl,rfl⟩
    rintro ac H3 ⟨o',d',rfl,rfl⟩;have m0:=Wr d' (show (((fz g).cps.size:Nat):Int)≠0 by lia);have m1:=Wv d' (show (0:Int)<(((fz g).cps.size:Nat):Int) by lia);have ab:(d'%(((fz g).cps.size:Nat):Int)).toNat<(fz g).cps.toList.length:=by
     rw[X6];lia
    refine⟨_,rfl,_,rfl,_,rfl,_,rfl,fz g,rfl,X0 z2 (by decide),_,_,rfl,rfl,(by show (0:Int)<((fz g).cps.size:Nat);lia),fz g,_,(fz g).cps.toList[(d'%(((fz g).cps.size:Nat):Int)).toNat],rfl,rfl,X0 z2 (by decide),Zw m0 (X2 ab),t,_,rfl,rfl,?_,?_⟩
    .have e5:t.length=j:=B.len;rw[e5];show j+1<=Xz;exact X0 (show j+1<=80 by lia) (by decide)
    .exact dG ⟨_,(dR o' rfl rfl (B.more (UP ab)))⟩
   .refine λN H2=>eS λL q r o t=>eF λz0 z1 B=>?_;subst z0 z1;refine⟨_,rfl,.inl ⟨rfl,_,SqL.of y⟩,_,rfl,l,_,_,rfl,rfl,y,?_,?_⟩
    .rw[X9,v];exact Xs (show i<9 by lia) (by decide)
    .refine dU (dJ (J++[t]) rfl (λb o e=>?_) ?_ ?_ ?_)
     .rw[zo (zk e hl)];exact s1 b o e
     .rw[zc,Xj];rfl
     .rw[XR,v];rfl
     .intro u hu;rcases XO.mp hu with hu | hu
      .exact p u hu
      .have e6:u=t:=by simpa using hu
       rw[e6];exact B
  .refine λN H1=>eB λv6 v7 v8 L=>eL λq r J z0 s1 y v p=>?_;subst z0;refine⟨_,rfl,k l J H1 hl y s1 ⟨by lia,by lia,(1+x%mw m h0).toNat,by lia,by lia,λt ht=>⟨(p t ht).len,λc hc=>zm c ((p t ht).mem c hc)⟩⟩ λt ht=>?_⟩;rw[(p t ht).len,v];have a1:(((1+h0%8).toNat*(1+x%mw m h0).toNat:Nat):Int)=(1+h0%8)*(1+x%mw m h0):=by
    rw[Int.natCast_mul,Vz (by lia),Vz (by lia)]
   rw[a1];exact Vw (Int.mul_le_mul_of_nonneg_left (show 1+x%mw m h0<=mw m h0 by lia) (by lia)) w3
def pIn (z:Str)(k:Nat):Bool:=!(Ub z ⟨#[k]⟩ 0 z.length 1).isEmpty
def zm0:Sp:=λf H Q _=>∃(l:Addr) (b:AE) (z:Str) (e:List Nat),f=[.ref l,.str z]/\H l=some (.lst (b.map V.str))/\Rows e b /\
 ∀(d:Addr) (c:AF) (a:Hp),H d=none->a d=some (.lst c)->Cel a c (Cells.zI (pIn z) 0 (codes b))->zu H a->Q (.ref d) a
def zpr {α:Type}{xs:List α}{j:Nat}{v:α}(h:xs[j]?=some v):atI xs (0+(j:Int))=some v:=by
 rw[RN];exact QB h
def JI:zD ["_law_rows","_law_signs","_law_found","_law_row","_law_column"] ["_law_rows","_law_signs"] (ze Zn):=bz
def zf1 (T:Txt mg)(D:zj K mg "_law_cells" Zn ["_law_rows","_law_signs"] f fd):qz P w K mg base CX0 1 f fd ["_law_rows","_law_signs"] zm0:=by
 refine D.F.ok JI (λvs H Q E h=>?_) (λaf A ae s H vs Q E hr h=>?_)
 .obtain⟨l,b,z,sg,rfl,_⟩:=h;rfl
 .revert h;refine fj λl b z sg z0 hl R q=>?_;subst z0;refine⟨_,(@zf _ _ _ _ _ (@zx _ _ 2 _ _ _ _ JI.nd rfl (XI rfl) (@qo _ _ _ _ zb) (by rfl) (.inr rfl)) (zf (qS W3 rfl (yD (by rfl) T.xR (za (zB zE (by rfl) T.qX Xf (za (pvS 0) zb)) zb)) (zv (i:=3) JI.nd rfl (XI rfl)) (zg (qS W3 rfl (yD (by rfl) T.xR (za (zB ju (by rfl) T.qX Xf (za (qu qW (pvS 0) zh (λ_ _=>rfl)) zb)) zb)) (zv (i:=4) JI.nd rfl (XI rfl)) (zg (qL (zG zjU (qu zaP (qu qW (pvS 0) (pvS 3) (λ_ _=>rfl)) (pvS 4) (λ_ _=>rfl)) (pvS 1) (by rfl)) (zg (yu (Y7 Wz VN VM yy (pvS 2) (za (jy (za (pvS 3) (za (pvS 4) zb))) zb)))) qc))))) (zg (zK (pvS 2))))),?_⟩;(try dsimp only[cxK,cxP,cxW]);refine⟨ZP,λd U=>?_⟩;have s0:zu H (upd H d (.lst [])):=zd U;obtain⟨B,w1,w8,m⟩:=R.ex;have ah:=R.lo;have ag:=R.hi;refine⟨_,rfl,l,_,rfl,.inl (SqL.of (s0 _ _ hl)),_,rfl,by lia,?_,?_⟩
  .rw[X9];lia
  refine jC (lo:=0) (n:=(((b.map V.str).length:Nat):Int).toNat) (λi G r=>∃(v3 y:Option V) (a:AF),G=[some (.ref l),some (.str z),some (.ref d),v3,y]/\zu H r/\r d=some (.lst a)/\Cel r a (Cells.zI (pIn z) 0 ((codes b).take i)))
   ⟨_,_,[],rfl,s0,zc,.nil⟩ ?_ ?_
  .refine λi G H1 hi=>e9 λv3 y a z0 s1 v k=>?_;subst z0;have Y:i<b.length:=by
    rw[X9]at hi;lia
   obtain⟨t,L⟩:∃t,b[i]?=some t:=⟨_,X2 Y⟩;obtain⟨N,x⟩:∃t,b[0]?=some t:=⟨_,X2 (by lia)⟩;have tl:t.length=B:=(m t (X7 L)).len;have J:N.length=B:=(m N (X7 x)).len;refine⟨_,rfl,l,_,0,V.str N,rfl,rfl,SqL.of (s1 _ _ hl),Zw (by decide) (by rw[Xo];exact congrArg _ x),N,rfl,R.tlen x,_,rfl,by lia,?_,?_⟩
   .rw[J];lia
   rw[J];refine jC (lo:=0) (n:=((B:Nat):Int).toNat) (λj G r=>∃(y:Option V) (a:AF),G=[some (.ref l),some (.str z),some (.ref d),some (.int (0+i)),y]/\zu H r/\r d=some (.lst a)/\Cel r a (Cells.zI (pIn z) 0 ((codes b).take i)++Cells.zW (pIn z) i 0 (t.cps.toList.take j)))
    ⟨_,a,rfl,s1,v,by simpa[Cells.zW] using k⟩ ?_ ?_
   .refine λj G O hj=>eU λy a z0 I g e=>?_;subst z0;have aa:j<t.cps.toList.length:=by
     have:t.cps.size=B:=tl;rw[X6];lia
    obtain⟨c,hc⟩:∃c,t.cps.toList[j]?=some c:=⟨_,X2 aa⟩;have ab:atI (b.map V.str) (0+(i:Int))=some (V.str t):=zpr (by rw[Xo,L];rfl);have st:=Cells.zak (p:=pIn z) (i:=i) hc;have len:a.length<=64:=by
     rw[e.length,XR];have h1:=Cells.ja (pIn z) 0 ((codes b).take i) λu hu=>R.short u (V0 hu);have h2:=Cells.jv (pIn z) i 0 (t.cps.toList.take j);rw[XG,qR]at h1;rw[XG]at h2;lia
    refine⟨_,rfl,_,rfl,l,_,_,_,rfl,rfl,SqL.of (I _ _ hl),ab,_,rfl,t,_,c,rfl,rfl,R.tlen L,zpr hc,_,rfl,_,_,rfl,rfl,_,rfl,?_⟩;refine zch (λkd=>?_) (λkd=>?_)
    .rw[bw (show pIn z c=true from kd)]at st;refine⟨_,rfl,.inl ⟨rfl,_,SqL.of g⟩,_,rfl,_,rfl,J2,λtp ac=>?_⟩;have M:zu O (upd O tp (.tup [.int (0+i),.int (0+j)])):=zd ac;refine⟨d,_,_,rfl,rfl,M _ _ g,Xx len (by decide),?_⟩;refine⟨_,a++[.ref tp],rfl,λb' o e'=>?_,zc,?_⟩
     .rw[zo (zk e' U)];exact M _ _ (I _ _ e')
     .rw[st,<- WY];refine Cel.into d _ (M _ _ g) (Cel.snoc (Cel.mono M e) ⟨tp,rfl,?_⟩);rw[zc,RN,RN]
    .rw[bq (show ¬ pIn z c=true from kd),WX]at st;refine⟨_,a,rfl,I,g,?_⟩;rw[st];exact e
   .refine λG O=>eU λy a z0 I g e=>?_;subst z0;have full:t.cps.toList.take ((B:Nat):Int).toNat=t.cps.toList:=by
     have:t.cps.size=B:=tl;rw[show (((B:Nat):Int)).toNat=t.cps.toList.length by rw[X6];lia,XC]
    rw[full]at e;exact⟨_,_,a,rfl,I,g,by rw[Cells.zal (qQ L)];exact e⟩
  .rintro G H1 ⟨v3,y,a,rfl,s1,v,k⟩;have full:(codes b).take (((b.map V.str).length:Nat):Int).toNat=codes b:=by
    rw[show ((((b.map V.str).length:Nat):Int)).toNat=(codes b).length by rw[X9,qR];lia,XC]
   rw[full]at k;exact⟨_,rfl,q d a H1 U v k s1⟩
def dig (a:KV1)(c:AA)(k:Nat):Nat:=match jB a (qU c) with
 | some (.int v)=>48+v.toNat
 | _=>k
structure Nums (cs:AD)(N:Nat)(kvs:KV1):Prop where
 vals:∀kv∈kvs,∃c∈cs,∃v:Nat,v<=8/\kv.1=qU c/\kv.2=V.int (v:Nat)
 nd:(kvs.map (·.1)).Nodup
 len:kvs.length<=N
def zm1 {b:KV1}{k:List Key}{v:V}(h:jB b k=some v):(k,v)∈b:=by
 unfold jB at h;cases e:b.find? (λa=>decide (a.1=k)) with
 | none =>
  rw[e]at h;cases h
 | some a =>
  rw[e]at h;have h1:a.2=v:=by simpa using h
  have h2:a.1=k:=bh (show decide (a.1=k)=true from List.find?_some (p:=λ(a:List Key×V)=>decide (a.1=k)) e);have c:=List.mem_of_find?_eq_some e;rw[<- h1,<- h2];exact c
def Nums.at {cs:AD}{N:Nat}{a:KV1}(h:Nums cs N a)(c:AA):jB a (qU c)=none\/∃v:Nat,v<=8/\c∈cs/\jB a (qU c)=some (V.int (v:Nat)):=by
 cases e:jB a (qU c) with
 | none=>exact .inl rfl
 | some v =>
  obtain⟨k,i,n,j,d,f⟩:=h.vals _ (zm1 e);have g:=zbd d;subst g;have b:v=V.int (n:Nat):=f;subst b;exact .inr ⟨n,j,i,rfl⟩
def Nums.nil (cs:AD)(N:Nat):Nums cs N []:=⟨(λ_ h=>nomatch h),Ui,WZ _⟩
def zm2 (a:KV1)(k:List Key)(v:V):(k∈a.map (·.1)/\(putK a k v).map (·.1)=a.map (·.1))\/(¬ k∈a.map (·.1)/\(putK a k v).map (·.1)=a.map (·.1)++[k]):=by
 unfold putK;by_cases h:(a.any λb=>decide (b.1=k))=true
 .refine .inl ⟨?_,?_⟩
  .obtain⟨b,h1,h2⟩:=WE.mp h;exact XA.mpr ⟨b,h1,bh h2⟩
  .rw[bw h,Ws];refine Xc λb _=>?_;show (if b.1=k then (b.1,v) else b).1=b.1;split<;>rfl
 .refine .inr ⟨λc=>?_,?_⟩
  .obtain⟨b,h1,h2⟩:=XA.mp c;exact h (WE.mpr ⟨b,h1,br h2⟩)
  .rw[bq h,Xj];rfl
def zoO {a:KV1}{k:List Key}{v:V}{b:List Key×V}(h:b∈putK a k v):b∈a\/b=(k,v):=by
 unfold putK at h;split at h
 .obtain⟨x,c,e⟩:=XA.mp h;by_cases hk:x.1=k
  .rw[bw hk]at e;exact .inr (by rw[<- e,hk])
  .rw[bq hk]at e;exact .inl (by rw[<- e];exact c)
 .rcases XO.mp h with h | h
  .exact .inl h
  .exact .inr (by simpa using h)
def Nums.put {cs:AD}{N:Nat}{d:KV1}(h:Nums cs N d){k:List Key}{w:V}(hk:∃c∈cs,∃v:Nat,v<=8/\k=qU c/\w=V.int (v:Nat)):Nums cs (N+1) (putK d k w):=by
 refine⟨λm f=>?_,?_,?_⟩
 .rcases zoO f with h1 | h1
  .exact h.vals m h1
  .subst h1;exact hk
 .rcases zm2 d k w with ⟨_,e⟩ | ⟨l,e⟩
  .rw[e];exact h.nd
  .rw[e,Wb];refine⟨h.nd,by simp,λa i b j e=>l ?_⟩;have g:b=k:=by simpa using j
   rw[<- g,<- e];exact i
 .have:=Qc d k w;have:=h.len;lia
def jP (a:KV1)(i:Nat)(t:List Nat):List Nat:=t.mapIdx λj c=>dig a (i,j) c
def zoP (a:KV1)(i:Nat)(t:Str):Str:=⟨(jP a i t.cps.toList).toArray⟩
def zcb (a:KV1)(rs:AE):AE:=rs.mapIdx λi t=>zoP a i t
def zbV (a:KV1)(i:Nat)(t:Str):(zoP a i t).cps.toList=jP a i t.cps.toList:=by
 show (jP a i t.cps.toList).toArray.toList=_;rw[Os]
def zjH {a b:Str}(h:a.cps.toList=b.cps.toList):a=b:=by
 obtain⟨⟨x⟩⟩:=a;obtain⟨⟨y⟩⟩:=b;have:x=y:=h;rw[this]
def zdR {a:KV1}{rs:AE}{i:Nat}{t:Str}(h:rs[i]?=some t):(zcb a rs)[i]?=some (zoP a i t):=by
 unfold zcb;rw[OI,h];rfl
def JM (a:KV1)(rs:AE):(zcb a rs).length=rs.length:=by
 unfold zcb;rw[Vb]
def zbW {a:KV1}{i j c:Nat}{t:List Nat}(h:t[j]?=some c):(jP a i t)[j]?=some (dig a (i,j) c):=by
 unfold jP;rw[OI,h];rfl
def zq0:∀v:Nat,v<=8->48+v∈bd.cps.toList:=by decide+kernel
def Rows.put {cs:AD}{N:Nat}{a:KV1}(h:Nums cs N a){rs:AE}(R:Rows bd.cps.toList rs):Rows bd.cps.toList (zcb a rs):=by
 obtain⟨n,s,w,p⟩:=R.ex;refine⟨by rw[JM];exact R.lo,by rw[JM];exact R.hi,n,s,w,λt q=>?_⟩;obtain⟨i,b⟩:=OH q;cases e:rs[i]? with
 | none =>
  have h0:=UE.mp e;rw[UE.mpr (by rw[JM];exact h0)]at b;cases b
 | some u =>
  rw[zdR e]at b;have o:=Option.some.inj b;subst o;have l:=p u (X7 e);refine⟨?_,λc g=>?_⟩
  .rw[<- X6,zbV];unfold jP;rw[Vb,X6];exact l.len
  .rw[zbV]at g;obtain⟨j,d⟩:=OH g;cases e2:u.cps.toList[j]? with
   | none =>
    have h0:=UE.mp e2;rw[UE.mpr (by unfold jP;rw[Vb];exact h0)]at d;cases d
   | some k =>
    rw[zbW e2]at d;have m:=Option.some.inj d;subst m;unfold dig;rcases h.at (i,j) with f | ⟨v,r,_,f⟩
    .rw[f];exact l.mem k (X7 e2)
    .rw[f];exact zq0 v r
def zm3:Sp:=λg H Q _=>∃(p l d:Addr) (c:AE) (n:Int) (f:AD) (N:Nat) (a:KV1),g=[.ref p,.ref d]/\qh H p l c n/\Rows bd.cps.toList c/\H d=some (.dT a)/\Nums f N a /\
 ∀(q e:Addr) (b:Hp),H q=none->H e=none->qh b q e (zcb a c) n->zu H b->Q (.ref q) b
theorem join_ones:∀cs:List Nat,(TZ "" (cs.map λc=>(⟨#[c]⟩:Str))).cps.toList=cs
 | []=>rfl
 | [c]=>rfl
 | c::e::r=>by
  have h:(TZ "" ((c::e::r).map λc=>(⟨#[c]⟩:Str))).cps=#[c]++("":Str).cps++(TZ "" ((e::r).map λc=>(⟨#[c]⟩:Str))).cps:=rfl;rw[h,Xb,Xb,join_ones (e::r)];rfl
def zkQ (a:KV1)(i:Nat)(t:Str):TZ "" ((jP a i t.cps.toList).map λc=>(⟨#[c]⟩:Str))=zoP a i t:=zjH (by rw[join_ones,zbV])
def zq1:∀d:Nat,d<=8->((toString (d:Int):String):Str)=⟨#[48+d]⟩:=by decide+kernel
theorem zho:∀cs:List Nat,((cs.map λc=>(⟨#[c]⟩:Str)).map (·.length)).sum=cs.length
 | []=>rfl
 | c::r=>by
  rw[Xh,Xh,List.sum_cons,zho r,Xk];show 1+r.length=_;lia
def take_snoc {α:Type}{xs:List α}{i:Nat}{x:α}(h:xs[i]?=some x):xs.take (i+1)=xs.take i++[x]:=by
 rw[Xv,h];rfl
def Yd:zD ["board","numbers","rows","row","text","signs"] ["board","numbers"] (ze Qk):=bz
def zkR (T:Txt mg)(D:zj K mg "opened" Qk ["board","numbers"] f fd):qz P w K mg base CX0 1 f fd ["board","numbers"] zm3:=by
 refine D.F.ok Yd (λvs H Q E h=>?_) (λam A aj s H vs Q E hr h=>?_)
 .revert h;refine e8 λp l d G n cs N a=>eW λz0 _=>?_;subst z0;rfl
 .revert h;refine e8 λp l d G n cs N a=>eK λz0 b R hd hN q=>?_;subst z0;refine⟨_,(@zf _ _ _ _ _ (@zx _ _ 2 _ _ _ _ Yd.nd rfl (XI rfl) (@qo _ _ _ _ zb) (by rfl) (.inr rfl)) (zf (qS W3 rfl (JP (by rfl) T.jw (za (qu qB (pvS 0) zh (λ_ _=>rfl)) zb)) (Zv rfl (qf (zv (i:=3) Yd.nd rfl (UH rfl)) (qf (zv (i:=4) Yd.nd rfl (XI rfl)) yi))) (zf (Ze (i:=5) Yd.nd rfl rfl (N:=["column","sign","numbers","row"]) (src:=[none,none,some 1,some 3]) (zV.free (O:=(ze Qk).names) (XN:=["board","numbers","rows","row","text","signs"]) rfl rfl ⟨_,rfl⟩ rfl rfl (by decide+kernel) (by decide+kernel) (by decide+kernel) rfl (by decide+kernel)) rfl (zgn (by rfl) T.jw (za (pvS 4) zb)) (λ_ _ _ _ _=>(zcv (n:=2) (K:=K) (by rfl) rfl (qf (zv (i:=0) (by show W6 (["column","sign","numbers","row"]:AE);decide+kernel) rfl (XI rfl)) (qf (zv (i:=1) (by show W6 (["column","sign","numbers","row"]:AE);decide+kernel) rfl (XI rfl)) yi)))) (λ_ _ _ _ _=>qV) (λ_ _ _ _ _=>(jq zgA (by rfl) T.zsa PyProof.Rows.boot_str (za (zlw (u1 hr.units) (pvS 2) (jy (za (pvS 3) (za (pvS 0) zb))) (pvS 1) ⟨rfl,rfl,rfl,rfl⟩) zb)))) (zg (yu (Y7 Wz VN VM yy (pvS 2) (@za _ _ _ _ _ (@Y7 _ _ _ _ _ _ _ _ _ _ _ _ PySem.F.plainAttrs_str PySem.F.slot_str_join PySem.F.type_str_join znN jZ (za (pvS 5) zb) (by rfl) (by rfl) (by rfl) (by rfl) (by rfl)) zb rfl)))))) (zg (zK (jy (za (pvS 2) (za (qu qB (pvS 0) zh (λ_ _=>rfl)) zb))))))),?_⟩;(try dsimp only[cxK,cxP,cxW]);refine⟨ZP,λB u=>?_⟩;have s0:zu H (upd H B (.lst [])):=zd u;have ao:=R.hi;refine⟨_,rfl,p,_,0,_,rfl,rfl,SqT.of (b.mono s0).tp,rfl,l,rfl,⟨_,SqL.of (b.mono s0).rw⟩,?_⟩;refine JJ (K:=K) (l:=l) (xs:=G.map V.str) (λi r y=>∃(v3 v4 v5:Option V),r=[some (.ref p),some (.ref d),some (.ref B),v3,v4,v5]/\zu H y/\y B=some (.lst (((zcb a G).take i).map V.str)))
   ⟨_,_,_,rfl,s0,zc⟩ (λi r y _ ⟨_,_,_,_,s1,_⟩=>SqL.of (b.mono s1).rw) ?_ ?_
  .refine λi x tt r H1 hx ah=>eV λv3 v4 v5=>eF λz0 s1 g=>?_;subst z0;rw[Xo]at hx;cases e:G[i]? with
   | none =>
    rw[e]at hx;cases hx
   | some t =>
    rw[e]at hx;cases hx;have al:t.cps.toList.length<=8:=R.short _ (X7 (qQ e));have an:i<G.length:=(XZ.mp e).1;have st:zu H1 (upd H1 tt (.tup [.int (i:Nat),.str t])):=zd ah;refine dH tt rfl (SqT.of zc) rfl rfl rfl rfl ?_;have s2:=s1.trans st;have Y:=st _ _ g;generalize upd H1 tt (.tup [.int (i:Nat),.str t])=H2 at *
    refine⟨_,rfl,t,rfl,λz hz=>?_⟩;refine zcS (x:=t) (λj r y=>∃(u0 u1:Option V),r=[u0,u1,some (.ref d),some (.int (i:Nat))]/\zu H2 y/\y z=some (.lst (((jP a i t.cps.toList).take j).map λc=>V.str ⟨#[c]⟩))) ⟨_,_,rfl,zd hz,zc⟩ ?_ ?_
    .refine λj c t2 r J hc ag=>eZ λu0 u1 z0 I m=>?_;subst z0;have af:t.cps.toList[j]?=some c:=by rw[Xy];exact hc
     refine dH t2 rfl (SqT.of zc) rfl rfl rfl rfl ?_;have s4:zu J (upd J t2 (.tup [.int (j:Nat),.str ⟨#[c]⟩])):=zd ag;have aa:=s4 _ _ (I _ _ (s2 _ _ hd));have ai:=s4 _ _ m;have ak:=I.trans s4;generalize upd J t2 (.tup [.int (j:Nat),.str ⟨#[c]⟩])=H4 at *
     unfold zlh;refine zbs ⟨_,rfl,d,rfl,.inr ⟨a,.inl aa⟩,_,rfl,_,rfl,J2,λtp ac=>⟨_,rfl,jB a (qU (i,j)),?_,?_⟩⟩
     .exact zc0.t (k:=qU (i,j)) (zd ac _ _ aa) zc
     have s5:=zd (o:=.tup [.int (i:Nat),.int (j:Nat)]) ac;have U:∀k:Nat,k=dig a (i,j) c->∃ys,upd H4 tp (.tup [.int (i:Nat),.int (j:Nat)]) z=some (.lst ys)/\ys.length<Xz/\∃(u0 u1:Option V),[some (V.int (j:Nat)),some (V.str ⟨#[c]⟩),some (.ref d),some (.int (i:Nat))]=[u0,u1,some (.ref d),some (.int (i:Nat))]/\zu H2 (upd (upd H4 tp (.tup [.int (i:Nat),.int (j:Nat)])) z (.lst (ys++[V.str ⟨#[k]⟩])))/\upd (upd H4 tp (.tup [.int (i:Nat),.int (j:Nat)])) z (.lst (ys++[V.str ⟨#[k]⟩])) z=some (.lst (((jP a i t.cps.toList).take (j+1)).map λc=>V.str ⟨#[c]⟩)):=λk hk=>by
      refine⟨_,(dF (s5 _ _ ai) ?_ (d9 rfl (λb' o L=>?_) ?_))⟩
      .rw[X9,XG];unfold jP;rw[Vb];exact Xx (show _<=8 by lia) (by decide)
      .rw[zo (zk L hz)];exact s5 _ _ (ak _ _ L)
      .rw[zc,take_snoc (zbW af),Xj,hk];rfl
     rcases hN.at (i,j) with M | ⟨v,hv,_,M⟩
     .rw[M];exact⟨_,_,rfl,.inl rfl,U c (by unfold dig;rw[M])⟩
     .rw[M];refine⟨_,⟨#[48+v]⟩,rfl,.inr ⟨(v:Nat),rfl,?_,(zq1 v hv).symm⟩,U (48+v) (by unfold dig;rw[M];rfl)⟩;have:∀v:Nat,v<=8->((v:Nat):Int).natAbs.log2<1920:=by decide+kernel
      exact this v hv
    .refine λr J=>eZ λu0 u1 z0 I m=>?_;subst z0;have ez:(jP a i t.cps.toList).take t.cps.size=jP a i t.cps.toList:=Wu (by unfold jP;rw[Vb,X6];exact XX _);rw[ez]at m;have ae:J z=some (.lst (((jP a i t.cps.toList).map λc=>(⟨#[c]⟩:Str)).map V.str)):=by
      rw[m,Ws];rfl
     have pl:(jP a i t.cps.toList).length<=8:=by
      unfold jP;rw[Vb];exact al
     refine⟨_,rfl,.inl ⟨rfl,_,SqL.of (I _ _ Y)⟩,rfl,_,rfl,"",z,_,rfl,rfl,SqL.of ae,?_,B,_,_,rfl,rfl,I _ _ Y,?_,?_⟩
     .rw[zho,X9];have:("":Str).length=0:=rfl;rw[this];lia
     .rw[X9,XG,JM];exact Xx (show _<=8 by lia) (by decide)
     .rw[zkQ];refine⟨_,_,_,rfl,λb' o L=>?_,?_⟩
      .rw[zo (zk L u)];exact I _ _ (s2 _ _ L)
      .rw[zc,take_snoc (zdR e),Xj];rfl
  .rintro r H1 ⟨v3,v4,v5,rfl,s1,g⟩;rw[X9,<- JM a G,XC]at g;refine⟨_,rfl,_,rfl,p,_,1,_,rfl,rfl,SqT.of (b.mono s1).tp,rfl,J2,λq2 ab=>?_⟩;have s2:=zd (o:=.tup [.ref B,.int n]) ab;exact q q2 B _ (s1.free ab) u ⟨zc,s2 _ _ g⟩ (s1.trans s2)
def swC (c d k:Nat):Nat:=if k=c then d else k
def zjI {c d:Nat}{l:List Nat}(h:c ∉ l):l.map (swC c d)=l:=by
 induction l with
 | nil=>rfl
 | cons a r b =>
  rw[Xh,b λz=>h (XW _ z)];unfold swC;rw[bq λz:a=c=>h (z ▸ XV)]
def zoQ (c d:Nat)(ps:AE)(h:∀p∈ps,c ∉ p.cps.toList):(TZ ⟨#[c]⟩ ps).cps.toList.map (swC c d)=(TZ ⟨#[d]⟩ ps).cps.toList:=by
 induction ps with
 | nil=>rfl
 | cons p r b =>
  cases r with
  | nil=>exact zjI (h p XV)
  | cons q r =>
   have b:=b λa g=>h a (XW _ g);have e:∀z:Str,(TZ z (p::q::r)).cps.toList=p.cps.toList++z.cps.toList++(TZ z (q::r)).cps.toList:=λz=>by
    have e:(TZ z (p::q::r)).cps=p.cps++z.cps++(TZ z (q::r)).cps:=rfl;rw[e,Xb,Xb]
   rw[e,e,Xj,Xj,b,zjI (h p XV)];have f:(⟨#[c]⟩:Str).cps.toList.map (swC c d)=(⟨#[d]⟩:Str).cps.toList:=by
    show [swC c d c]=[d];unfold swC;rw[bw rfl]
   rw[f]
def Qt (x:Str)(c d:Nat):(Uy x ⟨#[c]⟩ ⟨#[d]⟩).cps.toList=x.cps.toList.map (swC c d):=by
 rw[StrLaws.replace_one,<- zoQ c d _ (StrLaws.split_free x c),StrLaws.join_split]
def QZ (k:Nat):Nat:=if k=35 then 35 else 63
def QV (t:Str):Str:=⟨(t.cps.toList.map QZ).toArray⟩
def ZD (rs:AE):AE:=rs.map QV
def zf2:(".":Str)=⟨#[46]⟩:=by decide+kernel
def zfc:∀k∈fdS.cps.toList,swC 111 63 (swC 46 63 k)=QZ k/\QZ k∈bs.cps.toList:=by decide+kernel
def zhp (t:Str):(QV t).cps.toList=t.cps.toList.map QZ:=rfl
def zq2 {n:Nat}{t:Str}(r:Row fdS.cps.toList n t):Uy (Uy t "." "?") "o" "?"=QV t:=by
 apply zjH;rw[zf2,zhn,zdu,Qt,Qt,zhp,Ws];exact Xc λk hk=>(zfc k (r.mem k hk)).1
def zoR {n:Nat}{t:Str}(r:Row fdS.cps.toList n t):Row bs.cps.toList n (QV t):=by
 refine⟨?_,λc a=>?_⟩
 .show (t.cps.toList.map QZ).toArray.size=n;rw[XB,X9,X6];exact r.len
 .rw[zhp]at a;obtain⟨k,hk,rfl⟩:=XA.mp a;exact(zfc k (r.mem k hk)).2
def zdS {rs:AE}(R:Rows fdS.cps.toList rs):Rows bs.cps.toList (ZD rs):=by
 obtain⟨e,f,n,c,d,h⟩:=R;refine⟨?_,?_,n,c,d,λt a=>?_⟩
 .unfold ZD;rw[X9];exact e
 .unfold ZD;rw[X9];exact f
 .obtain⟨u,b,rfl⟩:=XA.mp a;exact zoR (h u b)
def zdT {b:List Nat}{p:Nat->Bool}{rs:AE}(R:Rows b rs):(Cells.zI p 0 (codes rs)).length<=64:=by
 have h1:=Cells.ja p 0 (codes rs) λu a=>R.short u a;have h2:=R.hi;rw[qR]at h1;lia
def zps:∀c∈bs.cps.toList,c∈bd.cps.toList:=by decide+kernel
def stC (rs:AE):AD:=Cells.zI (λc=>zO c&&decide (c=111)) 0 (codes rs)
def YQ (rs:AE)(c:AA):Nat:=((stC rs).filter λx=>Cells.near x c).length
def zm4 {l:AD}(h:l.Nodup)(c:AA):(l.filter λx=>Cells.near x c).length<=8:=by
 obtain⟨i,j⟩:=c;refine((h.sublist Wi).length_le_of_subset (l₂:=[(i-1,j-1),(i-1,j),(i-1,j+1),(i,j-1),(i,j+1),(i+1,j-1),(i+1,j),(i+1,j+1)]) λx g=>?_);obtain⟨a,b⟩:=x;obtain⟨⟨h1,h2⟩,⟨d,e⟩,f⟩:=(Cells.ZQ _ _).mp (XQ.mp g).2;simp only[P0]at h1 h2 d e f;simp only[XJ,P0,Vs,or_false];lia
def zkS (p:Nat->Bool)(gs:List (List Nat)):(Cells.zI p 0 gs).Nodup:=(Cells.yj p 0 gs).imp λ{a b} h e=>by
 subst e;rcases h with h | h<;>lia
def zf3 (rs:AE)(c:AA):YQ rs c<=8:=zm4 (zkS _ _) c
theorem zjJ (i:Nat):∀(j:Nat) (t:List Nat),Cells.zW zO i j (t.map QZ)=Cells.zW zO i j t
 | _,[]=>rfl
 | j,k::r=>by
  have e:zO (QZ k)=zO k:=by
   unfold zO QZ;by_cases h:k=35
   .rw[bw h,h]
   .rw[bq h,bf h];rfl
  simp only[Xh,Cells.zW,e,zjJ i (j+1) r]
theorem zjK:∀(i:Nat) (rs:AE),Cells.zI zO i (codes (ZD rs))=Cells.zI zO i (codes rs)
 | _,[]=>rfl
 | i,t::r=>by
  have e:codes (ZD (t::r))=t.cps.toList.map QZ::codes (ZD r):=rfl;have a:codes (t::r)=t.cps.toList::codes r:=rfl;rw[e,a];simp only[Cells.zI,zjJ,zjK (i+1) r]
def zhq (rs:AE):(Cells.zI zO 0 (codes rs)).filter (λx=>decide (x∈stC rs))=stC rs:=by
 unfold stC;rw[<- Cells.all_filter (p:=zO) (q:=λk=>decide (k=111)) (codes rs)];refine U2 λx a=>?_;rw[WJ,bu,XQ];exact⟨λh=>h.2,λh=>⟨a,h⟩⟩
def ziC (rs:AE)(c:AA):((zM (ZD rs) c).filter λx=>decide (x∈stC rs)).length=YQ rs c:=by
 unfold zM YQ;rw[zjK,T3];conv=>rhs;rw[<- zhq rs,T3]
 congr 1;refine U2 λx _=>?_;exact R6 _ _
def zem (rs:AE)(cs:AD):KV1:=cs.foldl (λa c=>putK a (qU c) (V.int (YQ rs c:Nat))) []
def zkT (rs:AE)(cs:AD)(c:AA):zem rs (cs++[c])=putK (zem rs cs) (qU c) (V.int (YQ rs c:Nat)):=by
 unfold zem;rw[TL];rfl
def zkU {cs cs':AD}(rs:AE){N:Nat}{acc:KV1}(b:Nums cs N acc)(h:∀c∈cs',c∈cs):Nums cs (N+cs'.length) (cs'.foldl (λa c=>putK a (qU c) (V.int (YQ rs c:Nat))) acc):=by
 induction cs' generalizing N acc with
 | nil=>exact b
 | cons c r e =>
  have:=e (b.put (w:=V.int (YQ rs c:Nat)) ⟨c,h c XV,YQ rs c,zf3 rs c,rfl,rfl⟩) λx d=>h x (XW _ d);rw[Xk,Nat.add_comm r.length 1,<- Nat.add_assoc];exact this
def ziD (rs:AE)(cs:AD):Nums cs cs.length (zem rs cs):=by
 have:=zkU rs (Nums.nil cs 0) (cs':=cs) λ_ h=>h;rw[VD]at this;exact this
def zm5 (rs:AE)(cs:AD):(zem rs cs).length<=cs.length:=(ziD rs cs).len
def jY (rs:AE)(cs:AD):AE:=zcb (zem rs cs) (ZD rs)
def zbX:Sp:=λg H Q _=>∃(l c:Addr) (b:AE) (f:AF) (a:AD),g=[.ref l,.ref c]/\H l=some (.lst (b.map V.str))/\Rows fdS.cps.toList b/\H c=some (.lst f)/\Cel H f a/\a.length<=64/\(∀x∈a,x.1<8/\x.2<8) /\
 ∀(p e:Addr) (d:Hp),H p=none->H e=none->qh d p e (jY b a) ((stC b).length:Nat)->zu H d->Q (.ref p) d
def Jc:zD ["field","cells","stones","hidden","numbers","cell"] ["field","cells"] (ze JW):=bz
def zcc (T:Txt mg)(Z:Prog K mg)(D:zj K mg "board_at" JW ["field","cells"] f fd):yR 448 P w K mg base CX0 4 f fd ["field","cells"] zbX:=by
 obtain⟨aM,aK,Jd⟩:=Z.stones_of;obtain⟨aJ,aI,qD⟩:=Z.cells_with;obtain⟨yb,jG,zw⟩:=Z.cells_of;obtain⟨yH,j9,zq⟩:=Z.sign_at;obtain⟨aO,aN,ar⟩:=Z.board_of;obtain⟨aH,QM,zZ⟩:=Z.around;obtain⟨aQ,aP,au⟩:=Z.opened;refine D.F.okT Jc (λvs H Q E h=>?_) (λaE A a8 s H vs Q E hr h=>?_)
 .revert h;refine eB λl c g ws=>eE λcs z0 _=>?_;subst z0;rfl
 .revert h;refine eS λl c g ws cs=>eH λz0 hl R hc=>fm λhw aD a1 q=>?_;subst z0;refine⟨_,(zT (PS.at_ (zx (i:=2) Jc.nd rfl (UH rfl) (pc0 (zbi T Jd qD zw zq) hr Jd (za (pvS 0) zb)))) (zT (zaQ (i:=3) Jc.nd rfl (XI rfl) (zr4 (zhm T Z ar) hr ar (yQ (zlZ (N:=["text"]) (src:=[none]) (zV.plain rfl (by decide+kernel) (by decide+kernel) (by decide+kernel) rfl (by decide)) rfl (zR (pvS 0)) (λ_ _ _ _ _=>(zv (i:=0) (by show W6 (["text"]:AE);decide+kernel) rfl (XI rfl))) (λ_ _ _ _ _=>qV) (λ_ _ _ _ _=>(zjn T.JD.choose_spec.1 T.JD.choose_spec.2.1 T.JD.choose_spec.2.2 (zjn T.JC.choose_spec.1 T.JC.choose_spec.2.1 T.JC.choose_spec.2.2 (PE.at_ (pvS 0)))))) (yQ (PE.at_ (zB zE (by rfl) T.qX Xf (za (pvS 2) zb))) (PA.at_ zb))))) (PSs.at_ (@zf _ _ _ _ _ (@zx _ _ 4 _ _ _ _ Jc.nd rfl (XI rfl) zlv (by rfl) (.inr rfl)) (zf (qS W3 rfl (zR (pvS 1)) (zv (i:=5) Jc.nd rfl (XI rfl)) (zg (zi7 (u1 hr.units) (pvS 4) (pvS 5) (zB zE (by rfl) T.qX Xf (za (qJ (N:=["place","stones"]) (src:=[none,some 2]) (zV.free (O:=(ze JW).names) (XN:=["field","cells","stones","hidden","numbers","cell"]) rfl rfl ⟨_,rfl⟩ rfl rfl (by decide+kernel) (by decide+kernel) (by decide+kernel) rfl (by decide+kernel)) rfl (zR (pc0 (ZZ T zZ) hr zZ (za (pvS 3) (za (pvS 5) zb)))) (λ_ _ _ _ _=>(zv (i:=0) (by show W6 (["place","stones"]:AE);decide+kernel) rfl (XI rfl))) (λ_ _ _ _ _=>(qN (zG (jF (K:=K) (by rfl) hr.units) (pvS 0) (pvS 1) (by rfl)))) (λ_ _ _ _ _=>(pvS 0))) zb)) rfl))) (zg (zK (pc0 (zkR T au) hr au (za (pvS 3) (za (pvS 4) zb)))))))))),?_⟩;(try dsimp only[cxK,cxP,cxW]);refine⟨_,rfl,l,g,rfl,hl,R,λd M H1 hd aj U s1=>?_⟩;have U:Cel H1 M (stC g):=U;have an:=s1 _ _ hl;have aA:=U.length;have aC:(stC g).length<=64:=zdT R;obtain⟨n,n1,n8,ao⟩:=R.ex;refine⟨_,rfl,l,rfl,⟨_,SqL.of an⟩,λy hy=>?_⟩;refine qw (K:=K) (a:=l) (xs:=g.map V.str) (λi I H'=>(∃u0,I=[u0])/\zu H1 H'/\H' y=some (.lst (((g.take i).map QV).map V.str))) ⟨⟨_,rfl⟩,zd hy,zc⟩ (λi I H' _ ⟨_,s6,_⟩=>SqL.of (s6 _ _ an)) ?_ ?_
  .rintro i x I H' hx ⟨⟨u0,rfl⟩,s6,aa⟩;rw[Xo]at hx;obtain⟨t,ht,rfl⟩:=Sq.mp hx;have r:=ao t (X7 ht);have i8:i<g.length:=(XZ.mp ht).1;have tl:t.length=n:=r.len;have aG:(Uy t "." "?").length=n:=by
    rw[<- tl];have e:(Uy t "." "?").cps.toList.length=t.cps.toList.length:=by
     rw[zf2,zdu,Qt,X9]
    exact e
   refine xO ⟨_,rfl,t,rfl,by lia,_,rfl,by lia,?_⟩;rw[zq2 r];refine⟨_,aa,Xx (show _<=8 from ?_) (by decide),⟨_,rfl⟩,λb o e=>?_,?_⟩
   .rw[X9,X9,XG];have:=R.hi;lia
   .rw[zo (zk e hy)];exact s6 _ _ e
   .rw[zc,Xv,ht,Xj,Xj];rfl
  .rintro I H6 ⟨_,s6,aa⟩;rw[X9,XC]at aa;refine⟨_,rfl,d,_,rfl,.inl (SqL.of (s6 _ _ aj)),y,ZD g,_,rfl,aa,zdS R,by lia,by lia,λlb p a3 hp a5=>?_⟩;have z1:=zd (o:=.lst ((ZD g).map V.str)) a3;have a4:upd H6 lb (.lst ((ZD g).map V.str)) p=none:=by
    rw[zo a5];exact hp
   have z2:=zd (o:=.tup [.ref lb,.int (M.length:Nat)]) a4;have BH:qh (upd (upd H6 lb (.lst ((ZD g).map V.str))) p (.tup [.ref lb,.int (M.length:Nat)])) p lb (ZD g) (M.length:Nat):=⟨zc,z2 _ _ zc⟩;have a9:=z1.trans z2;generalize upd (upd H6 lb (.lst ((ZD g).map V.str))) p (.tup [.ref lb,.int (M.length:Nat)])=H8 at *
   have aq:=s6.trans a9;have ab:=s1.trans aq;intro dn al;have z9:=zd (o:=.dT []) al;have Rh:Rows bd.cps.toList (ZD g):=(zdS R).mono zps;refine⟨_,rfl,c,rfl,⟨_,SqL.of (z9 _ _ (ab _ _ hc))⟩,?_⟩;refine yN (K:=K) (a:=c) (xs:=ws) (λi I H'=>∃v,I=[some (.ref l),some (.ref c),some (.ref d),some (.ref p),some (.ref dn),v]/\zu H8 H'/\H' dn=some (.dT (zem g (cs.take i)))) ⟨_,rfl,z9,zc⟩ (λi I H' _ ⟨_,_,B,_⟩=>SqL.of (B _ _ (ab _ _ hc))) ?_ ?_
   .rintro i x I ax hx ⟨v,rfl,B,j⟩;refine eE (λk hk=>eE λca z0 ai=>?_) (Cel.get (hw.mono (ab.trans B)) hx);subst z0;obtain⟨k1,k2⟩:=a1 k (X7 hk);refine⟨_,rfl,_,rfl,p,lb,ca,ZD g,_,k.1,k.2,rfl,BH.mono B,Rh,ai,by lia,by lia,λda wa ah aF av aw ac=>⟨da,rfl,⟨_,SqL.of av⟩,λz hz=>?_⟩⟩;have wl:=aw.length;have az:=xU Rh k;have af:=aq.trans (B.trans ac);refine jg (K:=K) (a:=da) (xs:=wa) (λa=>a≠z) ((zM (ZD g) k).map λx=>if decide (x∈stC g)=true then some (zp x) else none) (fun I=>∃u0,I=[u0,some (.ref d)]) hz (λ_ h=>h) ⟨_,rfl⟩ (by rw[X9];exact wl.symm) (by rw[wl];exact X0 az (by decide)) (SqL.of av) ?_ ?_
    .rintro m x o I ay hx ho L _ ⟨u0,rfl⟩ Y Z aB no;obtain⟨y2,a7,r2⟩:=Cel.get (aw.mono L) hx;have eo:=xu a7 ho;have ak:=(af.trans L) _ _ aj;refine⟨_,rfl,_,rfl,zp y2,(stC g).map zp,Ji.rdv r2,.lst (SqL.of ak) (zck (U.mono (af.trans L))),rfl,zbO _,(by show 1<=60;decide),_,rfl,?_⟩;have ei:(if false=true then !((stC g).map zp).any (λz=>W8 z (zp y2)) else ((stC g).map zp).any λz=>W8 z (zp y2))=decide (y2∈stC g):=by
      rw[bq XS,x9,WJ,WE,bu];constructor
      .rintro⟨u,hu,e⟩;rw[<- bh e];exact hu
      .exact λh=>⟨y2,h,br rfl⟩
     by_cases hh:decide (y2∈stC g)=true
     .rw[bw hh]at eo;exact jX (ei.trans hh) ⟨_,rfl,aB _ _ _ _ eo ⟨_,rfl⟩ (zu.refl _) (Ji.rdn r2)⟩
     .rw[bq hh]at eo;exact jA (ei.trans (WP.mpr hh)) (no _ _ eo ⟨_,rfl⟩ (zu.refl _))
    .rintro ys ay L ap ae;rw[je]at ae;have yl:=(zH.cel ae).length;rw[ziC]at yl;have G:=ac.trans L;have am:=zm5 g (cs.take i);rw[XG]at am;refine⟨z,_,rfl,.inl (SqL.of ap),_,rfl,_,rfl,dn,_,rfl,zj5.t (k:=qU k) (G _ _ j) (G _ _ ai) (Xx (show _<=64 by lia) (by decide)),?_⟩;refine⟨_,rfl,λb o e=>?_,?_⟩
     .rw[zo (zk e al)];exact G _ _ (B _ _ e)
     .rw[zc,Xv,hk,yl];exact congrArg (λz=>some (HO.dT z)) (zkT g _ k).symm
   .rintro I ax ⟨v,rfl,B,j⟩;rw[hw.length,XC]at j;refine⟨_,rfl,_,rfl,p,lb,dn,ZD g,_,cs,_,_,rfl,BH.mono B,Rh,j,ziD g cs,λq2 l2 ah a6 a2 ag ac=>?_⟩;rw[aA]at ag;have J:=ab.trans B;exact q q2 l2 ah (J.free a6) (J.free a2) ag (J.trans ac)
def zm6:Sp:=λf H Q _=>∃(l:Addr) (b:AE),f=[.ref l]/\H l=some (.lst (b.map V.str))/\Rows fdS.cps.toList b /\
 ∀(d:Addr) (e:AF) (a:Hp),H d=none->a d=some (.lst e)->Cel a e (Cells.zI (λc=>zO c&&decide (c=46)) 0 (codes b))->zu H a->Q (.ref d) a
def zf5:zD ["field"] ["field"] (ze Zl):=bz
def zf6 {j k m:Addr}{a b c:XM}(T:Txt mg)(D:zj K mg "clears_of" Zl ["field"] f fd)(e:zj K mg "cells_with" jJ ["field","sign"] j a)(u:zj K mg "cells_of" qv ["board"] k b)(r:zj K mg "sign_at" qH ["board","cell"] m c) :
  qz P w K mg base CX0 3 f fd ["field"] zm6:=by
 refine D.F.ok zf5 (λp H Q E h=>?_) (λi A d s H p Q E o h=>?_)
 .obtain⟨l,g,rfl,_⟩:=h;rfl
 .obtain⟨l,g,rfl,n,R,q⟩:=h;refine⟨_,(zg (zK (pc0 (zae T e u r) o e (za (pvS 0) (za (qG (v:=.str ".") (by rfl) T.JC.choose_spec.1 (by exact⟨_,rfl⟩)) zb))))),?_⟩;(try dsimp only[cxK,cxP,cxW]);exact⟨_,rfl,l,g,46,by rw[zf2];rfl,n,R,q⟩
def zq4 {K:X5}{h:Heap}{mg:Str->Option Y1}(H:zcB K "run" zb2 "sure")(X:K.In h)(G:h.Ns XY mg):∃f fd,zbD K mg "run" zb2 ["field","first","way"] "sure" f fd:=by
 refine H.at X G (λl kV doc k i d j t g e=>?_) (λl kV doc k i d j t g e=>?_)
 .match g,e with
  | [a,b,c],_=>exact⟨_,rfl,rfl⟩
 .match g,e with
  | [a,b],_=>exact⟨_,rfl,rfl⟩
def zs1 (f C:Addr):Sp:=λh H Q E=>∃(p l:Addr) (b:AE) (n:Int),h=[.ref p,.str "sure"]/\qh H p l b n/\Rows bd.cps.toList b/\(∀c,Parts.Good (clA b) (zY b) c->(∃g∈c,14<g.length)->∀a,zu H a->E (.ref f) none a)/\0<=n/\∀c,Parts.Good (clA b) (zY b) c->(∀g∈c,g.length<=14) ->
 (yc b n≠0->∀(d:Addr) (e:AF) (a:Hp),H d=none->a d=some (.lst e)->Cel a e (clS b n)->zu H a->Q (.ref d) a)/\(yc b n=0->∀a,zu H a->E (.ref C) none a)
def zdV:zD ["board","way"] ["board","way"] (ze xQ):=bz
def zdW (T:Txt mg)(j:qi K mg "TooGreat" jaj)(i:qi K mg "NoLaying" jad)(Z:Prog K mg)(D:zj K mg "found_clear" xQ ["board","way"] f fd):qz P w K mg base (CXE P w) 11 f fd ["board","way"] (zs1 jaj jad):=by
 obtain⟨aa,Y,c⟩:=Z.sure;refine D.F.okX zdV (λO H Q E h=>?_) (λv A k s H O Q E L h=>?_)
 .revert h;refine fc λp l r n z0 _=>?_;subst z0;rfl
 .revert h;refine fh λp l r n z0 B R y N q=>?_;subst z0;refine⟨_,(zf (qL (zG ZF (pvS 1) jZ (zU _)) (zg (zK (qu qW (qu qW zln zh (λ_ _=>rfl)) zh (λ_ _=>rfl)))) qc) (zg (zK (qu qB (pcL qx (zjG T j i Z c) L c (za (pvS 0) zb)) zh (λ_ _=>rfl))))),?_⟩;(try dsimp only[cxK,cxP,cxW]);refine⟨_,rfl,rfl,_,rfl,jA (by decide+kernel) ?_⟩;refine⟨_,rfl,p,l,r,n,rfl,B,R,y,N,λm G a=>⟨λM t x d2 U w2 u ht e I J g b o d z s1=>?_,(q m G a).2⟩⟩;exact⟨t,_,0,_,rfl,rfl,SqT.of g,rfl,(q m G a).1 M x U u e b d s1⟩
def zoT:∀k∈fdS.cps.toList,pIn "." k=(zO k&&decide (k=46)):=by decide+kernel
theorem zht {p q:Nat->Bool}(i:Nat):∀(j:Nat) (t:List Nat),(∀k∈t,p k=q k)->Cells.zW p i j t=Cells.zW q i j t
 | _,[],_=>rfl
 | j,c::r,h=>by
  simp only[Cells.zW,h c XV,zht i (j+1) r λk hk=>h k (XW _ hk)]
theorem zhu {p q:Nat->Bool}:∀(i:Nat) (gs:List (List Nat)),(∀t∈gs,∀k∈t,p k=q k)->Cells.zI p i gs=Cells.zI q i gs
 | _,[],_=>rfl
 | i,t::r,h=>by
  simp only[Cells.zI,zht i 0 t (h t XV),zhu (i+1) r λu a=>h u (XW _ a)]
def zm7 {rs:AE}{a:List Nat}(R:Rows a rs){t:List Nat}(b:t∈codes rs){k:Nat}(hk:k∈t):k∈a:=by
 obtain⟨u,c,rfl⟩:=XA.mp b;obtain⟨n,_,_,h⟩:=R.ex;exact(h u c).mem k hk
def jD (rs:AE):AD:=Cells.zI (λc=>zO c&&decide (c=46)) 0 (codes rs)
def zkV {rs:AE}(R:Rows fdS.cps.toList rs):Cells.zI (pIn ".") 0 (codes rs)=jD rs:=zhu 0 _ λt a k hk=>zoT k (zm7 R a hk)
def zm8 (rs:AE)(c:AA)(cs:AD)(acc:KV1):jB (cs.foldl (λa c=>putK a (qU c) (V.int (YQ rs c:Nat))) acc) (qU c)=if c∈cs then some (V.int (YQ rs c:Nat)) else jB acc (qU c):=by
 induction cs generalizing acc with
 | nil=>rw[bq (λh=>nomatch h)];rfl
 | cons d r b =>
  rw[V7,b];by_cases h:c∈r
  .rw[bw h,bw (XW _ h)]
  .rw[bq h,ZI];by_cases e:c=d
   .subst e;rw[bw rfl,bw XV]
   .rw[bq λz=>e (zbd z),bq λz=>(XJ.mp z).elim e h]
def zst (rs:AE)(cs:AD)(c:AA):jB (zem rs cs) (qU c)=if c∈cs then some (V.int (YQ rs c:Nat)) else none:=zm8 rs c cs []
def zsu (rs:AE)(cs:AD)(c:AA)(k:Nat):dig (zem rs cs) c k=if c∈cs then 48+YQ rs c else k:=by
 unfold dig;rw[zst];by_cases h:c∈cs
 .rw[bw h,bw h];show 48+((YQ rs c:Nat):Int).toNat=_;rw[UA]
 .rw[bq h,bq h]
def zm9 (rs:AE)(cs:AD)(i:Nat)(t:Str):List Nat:=jP (zem rs cs) i (t.cps.toList.map QZ)
def zna (rs:AE)(cs:AD)(i:Nat)(t:Str):(zm9 rs cs i t).length=t.cps.toList.length:=by
 unfold zm9 jP;rw[Vb,X9]
def zf7 {rs:AE}{cs:AD}{i j k:Nat}{t:Str}(h:t.cps.toList[j]?=some k):(zm9 rs cs i t)[j]?=some (if (i,j)∈cs then 48+YQ rs (i,j) else QZ k):=by
 rw[<- zsu];exact zbW (by rw[Xo,h];rfl)
def znb (rs:AE)(cs:AD):(jY rs cs).length=rs.length:=by
 unfold jY ZD;rw[JM,X9]
def zf8 {rs:AE}{cs:AD}{i:Nat}{t:Str}(h:rs[i]?=some t):(jY rs cs)[i]?=some ⟨(zm9 rs cs i t).toArray⟩:=by
 have h2:(ZD rs)[i]?=some (QV t):=by
  unfold ZD;rw[Xo,h];rfl
 exact zdR h2
def zpw (cs:AD)(c:AA):(cs.map zp).any (λz=>W8 z (zp c))=decide (c∈cs):=by
 rw[x9,WJ,WE,bu];constructor
 .rintro⟨u,hu,e⟩;rw[<- bh e];exact hu
 .exact λh=>⟨c,h,br rfl⟩
def zq6 (cs:AD)(c:AA):(if false=true then !(cs.map zp).any (λz=>W8 z (zp c)) else (cs.map zp).any λz=>W8 z (zp c))=decide (c∈cs):=zpw cs c
def zjL {a b:AD}(c:a.Pairwise Cells.lex)(d:b.Pairwise Cells.lex)(h:∀x,x∈a↔x∈b):a=b :=
 ((V3 (jS c) (jS d)).mpr h).eq_of_pairwise (λx y _ _ h1 h2=>by
  unfold Cells.lex at h1 h2;lia) c d
def zcH {p:Nat->Bool}{rs:AE}{cs:AD}{i j:Nat}:(i,j)∈Cells.zI p 0 (codes (jY rs cs)) ↔ ∃t k,rs[i]?=some t/\t.cps.toList[j]?=some k/\p (if (i,j)∈cs then 48+YQ rs (i,j) else QZ k)=true:=by
 constructor
 .intro h;obtain⟨u,c,h1,h2,b,_⟩:=ql h;have d:i<rs.length:=by
   rw[<- znb rs cs];exact(XZ.mp h1).1
  obtain⟨t,a⟩:∃t,rs[i]?=some t:=⟨_,X2 d⟩;have h1:(jY rs cs)[i]?=some u:=h1;have h2:u.cps.toList[j]?=some c:=h2;rw[zf8 a]at h1;cases h1;have h2:(zm9 rs cs i t)[j]?=some c:=h2;have e:j<t.cps.toList.length:=by
   rw[<- zna rs cs i t];exact(XZ.mp h2).1
  obtain⟨k,hk⟩:∃k,t.cps.toList[j]?=some k:=⟨_,X2 e⟩;rw[zf7 hk]at h2;cases h2;exact⟨t,k,a,hk,b⟩
 .rintro⟨t,k,a,hk,hp⟩;have:=JE (i:=0) (qQ (zf8 (cs:=cs) a)) (zf7 (rs:=rs) (cs:=cs) (i:=i) hk) hp;rwa [VD]at this
def xg {p:Nat->Bool}{rs:AE}{i j:Nat}:(i,j)∈Cells.zI p 0 (codes rs) ↔ ∃t k,rs[i]?=some t/\t.cps.toList[j]?=some k/\p k=true:=by
 constructor
 .intro h;obtain⟨u,c,h1,h2,a,_⟩:=ql h;exact⟨u,c,h1,h2,a⟩
 .rintro⟨t,k,ht,hk,hp⟩;have:=JE (i:=0) (qQ ht) hk hp;rwa [VD]at this
def znc:∀v:Nat,v<=8->Q7 (48+v)=true/\zO (48+v)=true:=by decide+kernel
def znd (k:Nat):Q7 (QZ k)=false:=by
 unfold QZ;by_cases h:k=35
 .rw[bw h];decide
 .rw[bq h];decide
def zhv (k:Nat):zO (QZ k)=zO k:=by
 unfold zO QZ;by_cases h:k=35
 .rw[bw h,h]
 .rw[bq h,bf h];rfl
section
variable {rs:AE}{cs:AD}(hsub:∀x∈cs,x∈jD rs)
include hsub
theorem zne (x:AA):x∈Cells.zI Q7 0 (codes (jY rs cs))↔x∈cs:=by
 obtain⟨i,j⟩:=x;rw[zcH];constructor
 .rintro⟨t,k,_,_,h⟩;by_cases e:(i,j)∈cs
  .exact e
  .rw[bq e,znd]at h;cases h
 .intro h;obtain⟨t,k,h1,h2,_⟩:=xg.mp (hsub _ h);exact⟨t,k,h1,h2,by rw[bw h];exact(znc _ (zf3 rs (i,j))).1⟩
theorem zkW:Cells.zI zO 0 (codes (jY rs cs))=Cells.zI zO 0 (codes rs):=by
 refine zjL (Cells.yj _ _ _) (Cells.yj _ _ _) λx=>?_;obtain⟨i,j⟩:=x;rw[zcH,xg];constructor
 .rintro⟨t,k,h1,h2,h⟩;by_cases e:(i,j)∈cs
  .obtain⟨f,d,a,b,c⟩:=xg.mp (hsub _ e);rw[h1]at a;cases a;rw[h2]at b;cases b;exact⟨t,k,h1,h2,(W7.mp c).1⟩
  .rw[bq e,zhv]at h;exact⟨t,k,h1,h2,h⟩
 .rintro⟨t,k,h1,h2,h⟩;refine⟨t,k,h1,h2,?_⟩;by_cases e:(i,j)∈cs
  .rw[bw e];exact(znc _ (zf3 rs (i,j))).2
  .rw[bq e,zhv];exact h
theorem znf {x:AA}(h:x∈stC rs):x∈Cells.zI Zo 0 (codes (jY rs cs)):=by
 obtain⟨i,j⟩:=x;obtain⟨t,k,h1,h2,f⟩:=xg.mp h;have c:k=111:=bh (W7.mp f).2;refine zcH.mpr ⟨t,k,h1,h2,?_⟩;have g:¬ (i,j)∈cs:=λe=>by
  obtain⟨n,m,a,b,d⟩:=xg.mp (hsub _ e);rw[h1]at a;cases a;rw[h2]at b;cases b;have l:k=46:=bh (W7.mp d).2;lia
 rw[bq g,c];decide
theorem zng {c:AA}(h:c∈cs):∃t,(jY rs cs)[c.1]?=some t/\t.cps.toList[c.2]?=some (48+YQ rs c):=by
 obtain⟨i,j⟩:=c;obtain⟨t,k,h1,h2,_⟩:=xg.mp (hsub _ h);refine⟨_,zf8 h1,?_⟩;have:=zf7 (rs:=rs) (cs:=cs) (i:=i) h2;rw[bw h]at this;exact this
end
def zdX {rs:AE}{cs:AD}(R:Rows fdS.cps.toList rs):Rows bd.cps.toList (jY rs cs):=Rows.put (ziD rs cs) ((zdS R).mono zps)
def QT {rs:AE}(R:Rows fdS.cps.toList rs){x:AA}(h:x∈jD rs):x.1<8/\x.2<8:=by
 obtain⟨t,k,h1,h2,_⟩:=ql h;have a:=(XZ.mp h1).1;have b:=(XZ.mp h2).1;have e:=R.hi;have f:=R.short _ (X7 (qQ h1));lia
def Big (rs:AE):Prop:=∃a,Parts.Good (clA rs) (zY rs) a/\∃g∈a,14<g.length
def Big.all {rs:AE}(B:Big rs){gs:List AD}(G:Parts.Good (clA rs) (zY rs) gs)(h:∀g∈gs,g.length<=14):False:=by
 obtain⟨b,a,g,d,c⟩:=B;have:=h g (zmo a G g d);lia
section
variable {rs:AE}{cs:AD}(hsub:∀x∈cs,x∈jD rs)
include hsub
theorem zoU {c:AA}(h:c∈cs):Cells.sgn (codes (jY rs cs)) c=48+YQ rs c:=by
 obtain⟨t,h1,h2⟩:=zng hsub h;exact Cells.zbE (qQ h1) h2
theorem zfd:jM (jY rs cs) (stC rs)=true:=by
 refine YL.mpr λo c=>?_;have b:=(zne hsub o).mp c;unfold jK;rw[zoU hsub b];have e:Grow.cnt (nearF (jY rs cs)) o (stC rs)=YQ rs o:=by
  unfold Grow.cnt YQ;congr 1;refine U2 λx d=>?_;rw[WJ,QO];unfold zM;rw[zkW hsub,XQ];refine⟨λh=>h.2,λh=>⟨?_,h⟩⟩;obtain⟨i,j⟩:=x;obtain⟨t,k,h1,h2,a⟩:=xg.mp d;exact xg.mpr ⟨t,k,h1,h2,(W7.mp a).1⟩
 rw[e];lia
theorem zoV:(stC rs).Sublist (qk (jY rs cs)):=by
 have e:(qk (jY rs cs)).filter (λx=>decide (x∈stC rs))=stC rs:=by
  refine zjL ((Cells.yj _ 0 _).sublist Wi) (Cells.yj _ 0 _) λx=>?_;rw[XQ,bu];exact⟨λh=>h.2,λh=>⟨znf hsub h,h⟩⟩
 rw[<- e];exact Wi
theorem znh {p:AD->Bool}(h:p (stC rs)=true):Tally.T (qk (jY rs cs)) p (stC rs).length≠0:=by
 unfold Tally.T;refine UB (Ov.mpr ⟨stC rs,Tally.zog (zoV hsub),?_⟩);rw[h,br rfl];rfl
theorem zjM:yc (jY rs cs) ((stC rs).length:Nat)≠0:=λe=>znh hsub (zfd hsub) (by
 unfold yc at e;rw[UA]at e;lia)
theorem zq7 {c:AA}(h:c∈stC rs):qI (jY rs cs) ((stC rs).length:Nat) c≠0:=λe=>znh hsub (p:=λS=>jM (jY rs cs) S&&decide (c∈S)) (by
 rw[zfd hsub,br h];rfl) (by
 unfold qI at e;rw[UA]at e;lia)
end
def nxt (rs:AE)(cs:AD):AD:=clS (jY rs cs) ((stC rs).length:Nat)
def zq8:∀v:Nat,v<=8->Zo (48+v)=false:=by decide+kernel
def zni {rs:AE}{cs:AD}(R:Rows fdS.cps.toList rs)(a:∀x∈cs,x∈jD rs){x:AA}(h:x∈nxt rs cs):x∈jD rs/\x ∉ cs:=by
 obtain⟨h1,h2⟩:=XQ.mp h;obtain⟨i,j⟩:=x;obtain⟨t,k,c,hk,b⟩:=zcH.mp h1;have d:(i,j) ∉ cs:=λe=>by
  rw[bw e,zq8 _ (zf3 rs (i,j))]at b;cases b
 refine⟨?_,d⟩;obtain⟨n,_,_,l⟩:=R.ex;have g:=(l t (X7 c)).mem k (X7 hk);have f:∀k∈fdS.cps.toList,k=46\/k=111\/k=35:=by decide+kernel
 rcases f k g with e | e | e
 .exact xg.mpr ⟨t,k,c,hk,by rw[e];decide⟩
 .exact absurd (bh h2) (zq7 a (xg.mpr ⟨t,k,c,hk,by rw[e];decide⟩))
 .rw[bq d,e]at b;cases b
def zkX (rs:AE)(cs:AD):(nxt rs cs).Nodup:=(zaq _).sublist Wi
structure Drw (rs:AE)(cs:AD):Prop where
 sub:∀x∈cs,x∈jD rs
 nd:cs.Nodup
def Drw.one {rs:AE}{c:AA}(h:c∈jD rs):Drw rs [c]:=⟨λx a=>by rw[T5.mp a];exact h,List.pairwise_singleton _ _⟩
def Drw.more {rs:AE}{cs:AD}(R:Rows fdS.cps.toList rs)(d:Drw rs cs):Drw rs (cs++nxt rs cs):=by
 refine⟨λx g=>?_,Wb.mpr ⟨d.nd,zkX rs cs,λa c b f e=>?_⟩⟩
 .rcases XO.mp g with h | h
  .exact d.sub x h
  .exact(zni R d.sub h).1
 .subst e;exact(zni R d.sub f).2 c
def Drw.len {rs:AE}{cs:AD}(d:Drw rs cs):cs.length<=(jD rs).length:=d.nd.length_le_of_subset d.sub
open Classical in
def J3 (rs:AE):Nat->AD->Option (Str×AD)
 | 0,cs=>some ("end",cs)
 | m+1,cs=>if (jD rs).length<=cs.length then some ("end",cs) else if Big (jY rs cs) then none else if nxt rs cs=[] then some ("stuck",cs) else J3 rs m (cs++nxt rs cs)
theorem zhw {rs:AE}(R:Rows fdS.cps.toList rs):∀{m:Nat} {cs:AD} {w:Str} {cs':AD},Drw rs cs->J3 rs m cs=some (w,cs')->Drw rs cs'
 | 0,cs,w,cs',d,h=>by
  cases h;exact d
 | m+1,cs,w,cs',d,h=>by
  unfold J3 at h;split at h
  .cases h;exact d
  .split at h
   .cases h
   .split at h
    .cases h;exact d
    .exact zhw R (d.more R) h
structure Way (rs:AE)(c:AA)(m:Nat)(cs:AD):Prop where
 d:Drw rs cs
 lt:(jD rs).length<cs.length+m
 out:J3 rs m cs=J3 rs 65 [c]
section
variable {rs:AE}{c:AA}{m:Nat}{cs:AD}
def Way.start (a:(jD rs).length<=64)(h:c∈jD rs):Way rs c 65 [c]:=⟨Drw.one h,by
 show (jD rs).length<1+65;lia,rfl⟩
def Way.ends (W:Way rs c m cs)(h:(jD rs).length<=cs.length):J3 rs 65 [c]=some (("end":Str),cs):=by
 rw[<- W.out];cases m with
 | zero=>rfl
 | succ m =>
  unfold J3;rw[bw h]
variable (W:Way rs c m cs)(h:¬ (jD rs).length<=cs.length)
include W h
theorem Way.great (B:Big (jY rs cs)):J3 rs 65 [c]=none:=by
 rw[<- W.out];cases m with
 | zero=>exact absurd W.lt (by lia)
 | succ m =>
  unfold J3;rw[bq h,bw B]
variable (B:¬ Big (jY rs cs))
include B
theorem Way.stuck (e:nxt rs cs=[]):J3 rs 65 [c]=some (("stuck":Str),cs):=by
 rw[<- W.out];cases m with
 | zero=>exact absurd W.lt (by lia)
 | succ m =>
  unfold J3;rw[bq h,bq B,bw e]
theorem Way.step (R:Rows fdS.cps.toList rs)(e:nxt rs cs ≠ []):∃a,a<m/\Way rs c a (cs++nxt rs cs):=by
 cases m with
 | zero=>exact absurd W.lt (by lia)
 | succ m =>
  refine⟨m,by lia,W.d.more R,?_,?_⟩
  .have:=W.lt;have:=Td.mpr e;rw[XR];lia
  .rw[<- W.out];conv=>rhs;unfold J3
   rw[bq h,bq B,bq e]
end
def znj {rs:AE}(R:Rows fdS.cps.toList rs):(jD rs).length<=64:=zdT R
structure zag (H:Hp)(t r p lb:Addr)(ws:AF)(rs:AE)(w:Str)(cs:AD):Prop where
 tp:H t=some (.tup [.str w,.ref r,.ref p])
 rw:H r=some (.lst ws)
 cel:Cel H ws cs
 bd:qh H p lb (jY rs cs) ((stC rs).length:Nat)
def zpx (g:Addr):Sp:=λh H Q E=>∃(l d:Addr) (b:AE) (c:AA),h=[.ref l,.ref d,.str "sure"]/\H l=some (.lst (b.map V.str))/\Rows fdS.cps.toList b/\H d=some (.tup [.int (c.1:Nat),.int (c.2:Nat)])/\c∈jD b /\
 (J3 b 65 [c]=none->∀a,zu H a->E (.ref g) none a) /\
 ∀w e,J3 b 65 [c]=some (w,e)->∀(t r p f:Addr) (i:AF) (a:Hp),H t=none->H r=none->H p=none->H f=none->zag a t r p f i b w e->zu H a->Q (.ref t) a
def cell_in {cs:AD}{c:AA}(h:c∈cs):(if true=true then !(cs.map zp).any (λz=>W8 z (zp c)) else (cs.map zp).any λz=>W8 z (zp c))=false:=by
 rw[bw rfl,zpw,br h];rfl
def QU (cs:AD):(if false=true then !PyData.eqv (.list (cs.map zp)) (.list []) else W8 (.list (cs.map zp)) (.list []))=decide (cs=[]):=by
 rw[bq XS];cases cs with
 | nil=>rfl
 | cons a r=>rfl
def zf9 {H:Hp}{a:Addr}{c:AA}(h:H a=some (.tup [.int (c.1:Nat),.int (c.2:Nat)])):Cel H [.ref a] [c]:=.cons ⟨a,rfl,h⟩ .nil
def zbY:zD ["field","first","way","clear","row","board","found"] ["field","first","way"] (ze zb2):=bz
def zq9 (T:Txt mg)(az:qi K mg "TooGreat" jaj)(ay:qi K mg "NoLaying" jad)(ax:qi K mg "NoCell" jab)(Z:Prog K mg)(D:zbD K mg "run" zb2 ["field","first","way"] "sure" f fd):yR 448 P w K mg base (CXE P w) 12 f fd ["field","first","way"] (zpx jaj):=by
 obtain⟨aD,aC,an⟩:=Z.clears_of;obtain⟨a9,a8,qD⟩:=Z.cells_with;obtain⟨yb,jG,zw⟩:=Z.cells_of;obtain⟨yH,j9,zq⟩:=Z.sign_at;obtain⟨a4,Qu,ye⟩:=Z.board_at;obtain⟨aB,aA,am⟩:=Z.found_clear;have xx:yR 448 P w K mg base CX0 4 a4 Qu ["field","cells"] zbX:=zcc T Z ye;refine D.F.okXT zbY (λvs H Q E h=>?_) (λa6 A a2 s H vs Q E hr h=>?_)
 .revert h;refine fc λl ca a c z0 _=>?_;subst z0;rfl
 .revert h;refine eB λl ca a c=>eH λz0 hl R Y=>eF λhc qe q=>?_;subst z0;refine⟨_,(zT (PS.at_ (zx (i:=3) zbY.nd rfl (XI rfl) (pc0 (zf6 T an qD zw zq) hr an (za (pvS 0) zb)))) (zT (PS.at_ (qL (zG (zd5 hr.units) (pvS 1) (pvS 3) (by rfl)) (zg (zcW qx ax (by rfl) rfl (@za _ _ _ _ _ jZ zb rfl))) qc)) (zT (PS.at_ (zx (i:=4) zbY.nd rfl (XI rfl) (qo (za (pvS 1) zb)))) (zT (zaQ (i:=5) zbY.nd rfl (XI rfl) (pct xx hr ye (PA.at_ (za (pvS 0) (za (pvS 4) zb))))) (zT (zeP (jI.own qx) (zG zh9 (zB zE (by rfl) T.qX Xf (za (pvS 4) zb)) (zB zE (by rfl) T.qX Xf (za (pvS 3) zb)) (zU _)) (zT (PS.at_ (zx (i:=6) zbY.nd rfl (XI rfl) (pcL qx (zdW T az ay Z am) hr am (za (pvS 5) (za (pvS 2) zb))))) (zT (PS.at_ (qL (zG (xo hr.units) (pvS 6) (@qo _ _ _ _ zb) (zU _)) (@zg _ _ _ (@zK _ _ _ _ (@jy _ _ _ _ _ (@za _ _ _ _ _ jZ (za (pvS 4) (za (pvS 5) zb)) rfl)))) qc)) (zT (PS.at_ (yu (Y7 Wz S5 S4 zbr (pvS 4) (za (pvS 6) zb)))) (zde (zaQ (i:=5) zbY.nd rfl (XI rfl) (pct xx hr ye (PA.at_ (za (pvS 0) (za (pvS 4) zb)))))))))) (PSs.at_ (@zg _ _ _ (@zK _ _ _ _ (@jy _ _ _ _ _ (@za _ _ _ _ _ jZ (za (pvS 4) (za (pvS 5) zb)) rfl)))))))))),?_⟩;(try dsimp only[cxK,cxP,cxW]);refine⟨_,rfl,l,a,rfl,hl,R,λd wd H1 hd ah z s1=>?_⟩;have z:Cel H1 wd (jD a):=z;have ac:=znj R;refine⟨_,rfl,_,rfl,zp c,(jD a).map zp,Ji.rdv ⟨ca,rfl,s1 _ _ Y⟩,.lst (SqL.of ah) (zck z),rfl,zbO _,(by show 1<=60;decide),_,rfl,jA (cell_in hc) ?_⟩;refine⟨_,rfl,sz_1,λr I=>?_⟩;have z2:=zd (o:=.lst [.ref ca]) I;have W0:=Way.start ac hc;refine⟨_,rfl,_,rfl,l,r,a,_,[c],rfl,(s1.trans z2) _ _ hl,R,zc,zf9 ((s1.trans z2) _ _ Y),(by show 1<=64;decide),λx hx=>QT R (W0.d.sub x hx),λp O H3 hp ar B3 s3=>?_⟩;have al:=z2.trans s3;refine⟨λm σ H'=>∃(g:AD) (j:AF) (p O:Addr) (v:Option V),σ=[some (.ref l),some (.ref ca),some (.str "sure"),some (.ref d),some (.ref r),some (.ref p),v]/\zu H1 H'/\H' r=some (.lst j)/\Cel H' j g/\qh H' p O (jY a g) ((stC a).length:Nat)/\H1 p=none/\H1 O=none/\Way a c m g,(dB 65 [c] ⟨_,(dB p O (dJ none rfl al (s3 _ _ zc) (zf9 ((s1.trans al) _ _ Y)) (dN B3 (z2.free hp) (z2.free ar) W0)))⟩),?_⟩;refine λm σ H4=>eS λg j p O v=>eH λz0 s4 J u=>fm λB4 aj N W=>?_;subst z0;have k:=s1.trans s4;have aq:=s4 _ _ ah;have wl:=u.length;have dl:=z.length;have cl:=W.d.len;refine⟨_,rfl,r,_,rfl,.inl (SqL.of J),_,rfl,d,_,rfl,.inl (SqL.of aq),_,_,rfl,rfl,_,rfl,?_⟩;by_cases hz:(jD a).length<=g.length
  .refine jA (bf (by lia)) ?_;refine⟨_,rfl,_,rfl,zlY,λt ht=>?_⟩;have z5:=zd (o:=.tup [.str "end",.ref r,.ref p]) ht;exact q _ _ (W.ends hz) t r p O j _ (k.free ht) (s1.free I) (s1.free aj) (s1.free N) ⟨zc,z5 _ _ J,u.mono z5,B4.mono z5⟩ (k.trans z5)
  .refine jX (br (by lia)) ?_;refine⟨fun aE H'=>∃m',m'<m/\_,λ_ _ h=>h,?_⟩;have RB:Rows bd.cps.toList (jY a g):=zdX R;refine⟨_,rfl,_,rfl,p,O,jY a g,_,rfl,B4,RB,λgs G bg H5 s5=>?_,SR _,λgs G ap=>?_⟩
   .exact qe (W.great hz ⟨gs,G,bg⟩) H5 (k.trans s5)
   have nB:¬ Big (jY a g):=λB=>B.all G ap;refine⟨λ_ fo U H5 a7 ao y s5=>?_,λe=>absurd e (zjM W.d.sub)⟩;have y:Cel H5 U (nxt a g):=y;refine⟨_,rfl,ZP,λn0 av=>?_⟩;have z6:=zd (o:=.lst []) av;have n:=s5.trans z6;refine dI (.list ((nxt a g).map zp)) (.list []) (.lst (SqL.of (z6 _ _ ao)) (zck (y.mono z6))) (.lst (SqL.of zc) .nil) (zin _ []) ⟨_,rfl,?_⟩;by_cases he:nxt a g=[]
   .refine jX ((QU _).trans (br he)) ?_;refine⟨_,rfl,_,rfl,zlY,λt ht=>?_⟩;have z7:=zd (o:=.tup [.str "stuck",.ref r,.ref p]) ht;have M:=n.trans z7;exact q _ _ (W.stuck hz nB he) t r p O j _ ((k.trans n).free ht) (s1.free I) (s1.free aj) (s1.free N) ⟨zc,M _ _ J,u.mono M,B4.mono M⟩ (k.trans M)
   .refine jA ((QU _).trans (bf he)) ?_;obtain⟨m',au,W'⟩:=W.step hz nB R he;have ab:(g++nxt a g).length<=64:=X0 W'.d.len ac;have aa:=n _ _ J;have ae:=y.mono z6;have ai:=z6 _ _ ao;have ag:=u.mono n;have a3:=s4.trans n;generalize upd H5 n0 (.lst [])=H6 at *
    refine⟨_,rfl,.inl ⟨rfl,_,SqL.of aa⟩,_,rfl,r,fo,j,U,rfl,rfl,aa,ai,?_,?_⟩
    .have:=ae.length;rw[XR]at ab;exact X0 (show j.length+U.length<=64 by lia) (by decide)
    have af:=Cel.into r (.lst (j++U)) aa (ag.append ae);have ak:upd H6 r (.lst (j++U)) r=some (.lst (j++U)):=zc;have L:zu H1 (upd H6 r (.lst (j++U))):=λb o e=>by
     rw[zo (zk e I)];exact a3 _ _ e
    generalize upd H6 r (.lst (j++U))=H7 at *
    refine⟨_,rfl,_,rfl,l,r,a,_,_,rfl,(s1.trans L) _ _ hl,R,ak,af,ab,λx hx=>QT R (W'.d.sub x hx),λp2 a1 H8 aw a5 B8 s8=>?_⟩;exact⟨m',au,(dQ (g++nxt a g) (dB p2 a1 (d8 rfl (L.trans s8) (s8 _ _ ak) (af.mono s8) (dN B8 (L.free aw) (L.free a5) W'))))⟩
def zra:Sp:=λf H Q _=>∃(p e:Addr) (b:AE) (n:Int),f=[.ref p]/\qh H p e b n/\Rows bd.cps.toList b/\0<=n/\yc b n≠0/\(Big b->∀a,zu H a->Q .non a) /\
 (¬ Big b->∀(d:Addr) (c:AF) (a:Hp),H d=none->a d=some (.lst c)->Cel a c (clS b n)->zu H a->Q (.ref d) a)
def zpz:Sp:=λi H Q _=>∃(l e d:Addr) (a:AE) (c:AA) (g:AF),i=[.ref l,.ref e,.ref d]/\H l=some (.lst (a.map V.str))/\Rows fdS.cps.toList a/\H e=some (.lst g)/\Cel H g (jD a)/\H d=some (.tup [.int (c.1:Nat),.int (c.2:Nat)])/\c∈jD a /\
 (J3 a 65 [c]=none->∀b,zu H b->Q .non b)/\∀w f,J3 a 65 [c]=some (w,f)->∀(t r p h:Addr) (j:AF) (b:Hp),zag b t r p h j a w f->zu H b->Q (.ref t) b
def Zt:zD ["_law_board","_law_found"] ["_law_board"] (ze YB):=bz
def zhx (T:Txt mg)(q:qi K mg "TooGreat" jaj)(I:qi K mg "NoLaying" jad)(Y:Wn K jaj (.ref jaj)=some true)(Z:Prog K mg)(D:zj K mg "_law_safe" YB ["_law_board"] f fd):qz P w K mg base CX0 11 f fd ["_law_board"] zra:=by
 obtain⟨ac,ab,a⟩:=Z.sure;refine D.F.ok Zt (λvs H Q E h=>?_) (λaa A J s H vs Q E hr h=>?_)
 .obtain⟨p,N,r,n,rfl,_⟩:=h;rfl
 .revert h;refine eB λp N r n=>eH λz0 B R n0=>eF λcz qb qs=>?_;subst z0;refine⟨_,(@zf _ _ _ _ _ (@zx _ _ 1 _ _ _ _ Zt.nd rfl (XI rfl) Zu (by rfl) (.inr rfl)) (zaE (zn1 (i:=1) rfl rfl (zjG T q I Z a) (hr.mono (by decide)) (by rfl) a.g a.F.kp a.b Zt.nd rfl (XI rfl) (UH rfl) (by rfl) q (za (pvS 0) zb) (λ_=>(@zg _ _ _ (@zx _ _ 1 _ _ _ _ Zt.nd rfl (XI rfl) Zu (by rfl) (.inr rfl))))) (zf (qL (zG zfk (pvS 1) Zu (zU _)) (@zg _ _ _ (@zK _ _ _ _ Zu)) qc) (zg (zK (jq yO (by rfl) T.zdp US (za (qu qB (pvS 1) zh (λ_ _=>rfl)) zb))))))),?_⟩;(try dsimp only[cxK,cxP,cxW]);refine⟨fun k m=>(Big r/\k=[some (.ref p),some .non]/\zu H m)\/(∃(t l u:Addr) (j:AF),k=[some (.ref p),some (.ref t)]/\zu H m/\m t=some (.tup [.ref l,.ref u])/\m l=some (.lst j)/\Cel m j (clS r n)/\¬ Big r),?_,?_⟩
  .exact⟨_,rfl,p,N,r,n,rfl,B,R,λL G bg v s1=>⟨jaj,rfl,Y,λe he=>.inl ⟨⟨L,G,bg⟩,rfl,s1.trans (zd he)⟩⟩,n0,λL G x=>⟨λ_ t l u j w2 v _ _ _ _ y d _ c _ s1=>.inr ⟨t,l,u,j,rfl,s1,y,d,c,λB=>B.all G x⟩,λe=>absurd e cz⟩⟩
  .rintro k v (⟨U,rfl,s1⟩ | ⟨t,l,u,j,rfl,s1,ht,d,c,nB⟩)
   .exact⟨_,rfl,rfl,_,rfl,jX (br rfl) (qb U v s1)⟩
   .refine⟨_,rfl,rfl,_,rfl,jA (bf λz=>nomatch z) ?_⟩;refine⟨_,rfl,t,_,0,_,rfl,rfl,SqT.of ht,rfl,l,_,rfl,.inl (SqL.of d),λz M=>?_⟩;have O:=zd (o:=.lst j) M;exact qs nB z j _ (s1.free M) zc (c.mono O) (s1.trans O)
def YR:zD ["_law_field_here","_law_clears","_law_first","_law_row","_law_safe_here"] ["_law_field_here","_law_clears","_law_first"] (ze QG):=bz
def ziE (T:Txt mg)(am:qi K mg "TooGreat" jaj)(al:qi K mg "NoLaying" jad)(FT:Wn K jaj (.ref jaj)=some true)(Z:Prog K mg)(D:zj K mg "_law_due" QG ["_law_field_here","_law_clears","_law_first"] f fd):yR 448 P w K mg base CX0 12 f fd ["_law_field_here","_law_clears","_law_first"] zpz:=by
 obtain⟨au,ar,aa⟩:=Z.law_safe;obtain⟨ap,Qu,ye⟩:=Z.board_at;have xx:yR 448 P w K mg base CX0 4 ap Qu ["field","cells"] zbX:=zcc T Z ye;refine D.F.okT YR (λvs H Q E h=>?_) (λaq A an s H vs Q E N h=>?_)
 .revert h;refine eB λl cl ca j=>fk λc wc=>eW λz0 _=>?_;subst z0;rfl
 .revert h;refine eB λl cl ca j=>eO λc wc z0 hl R ag=>eH λaf ae hc qn q=>?_;subst z0;refine⟨_,(zT (PS.at_ (zx (i:=3) YR.nd rfl (XI rfl) (qo (za (pvS 2) zb)))) (zT (zeP W3 (zG zh9 (zB zE (by rfl) T.qX Xf (za (pvS 3) zb)) (zB zE (by rfl) T.qX Xf (za (pvS 1) zb)) (zU _)) (zT (zaQ (i:=4) YR.nd rfl (XI rfl) (zr4 (zhx T am al FT Z aa) N aa (yQ (pct xx N ye (PA.at_ (za (pvS 0) (za (jq yO (by rfl) T.zdp US (za (pvS 3) zb)) zb)))) (PA.at_ zb)))) (zT (PS.at_ (qL (zG zfk (pvS 4) Zu (zU _)) (@zg _ _ _ (@zK _ _ _ _ Zu)) qc)) (zT (zqw (zG (xo N.units) (pvS 4) (@qo _ _ _ _ zb) (zU _)) (zde (zjm (zjo (yQ (PE.at_ jZ) (yQ (PE.at_ (pvS 3)) (yQ (pct xx N ye (PA.at_ (za (pvS 0) (za (pvS 3) zb)))) (PA.at_ zb))))))) (PSs.at_ qc)) (PSs.at_ (zg (zx (i:=3) YR.nd rfl (XI rfl) (zC Y8 (pvS 3) (pvS 4))))))))) (zde (zjm (zjo (yQ (PE.at_ jZ) (yQ (PE.at_ (pvS 3)) (yQ (pct xx N ye (PA.at_ (za (pvS 0) (za (pvS 3) zb)))) (PA.at_ zb))))))))),?_⟩;(try dsimp only[cxK,cxP,cxW]);have I:=znj R;refine⟨_,rfl,sz_1,λr aj=>?_⟩;have z2:=zd (o:=.lst [.ref ca]) aj;refine⟨λm σ H'=>∃(a:AD) (k:AF) (r:Addr) (v:Option V),σ=[some (.ref l),some (.ref cl),some (.ref ca),some (.ref r),v]/\zu H H'/\H' r=some (.lst k)/\Cel H' k a/\Way j c m a,⟨65,[c],_,r,none,rfl,z2,zc,zf9 (z2 _ _ ae),Way.start I hc⟩,?_⟩;refine λm σ H4=>eB λa k r v=>eH λz0 B e b W=>?_;subst z0;have wl:=b.length;have dl:=af.length;have ab:=W.d.len;have G:a.length<=64:=X0 ab I;have sm:∀x∈a,x.1<8/\x.2<8:=λx hx=>QT R (W.d.sub x hx);refine⟨_,rfl,r,_,rfl,.inl (SqL.of e),_,rfl,cl,_,rfl,.inl (SqL.of (B _ _ ag)),_,_,rfl,rfl,_,rfl,?_⟩;by_cases hz:(jD j).length<=a.length
  .refine jA (bf (by lia)) ?_;refine⟨_,rfl,_,rfl,_,rfl,l,r,j,k,a,rfl,B _ _ hl,R,e,b,G,sm,λp O H5 hp M B5 s5=>⟨zlY,λt ht=>?_⟩⟩;have z6:=zd (o:=.tup [.str "end",.ref r,.ref p]) ht;exact q _ _ (W.ends hz) t r p O k _ ⟨zc,(s5.trans z6) _ _ e,b.mono (s5.trans z6),B5.mono z6⟩ (B.trans (s5.trans z6))
  .refine jX (br (by lia)) ?_;refine⟨fun av H'=>∃m',m'<m/\_,λ_ _ h=>h,?_⟩;have RB:Rows bd.cps.toList (jY j a):=zdX R;refine⟨_,rfl,_,rfl,r,_,rfl,.inl (SqL.of e),λy hy=>?_⟩;have z5:=zd (o:=.lst k) hy;refine dD l y j k (dJ a rfl ((B.trans z5) _ _ hl) R zc (dN (b.mono z5) G sm (λp O H6 hp M B6 s6=>?_)));have U:=z5.trans s6;refine dB p O (dQ (jY j a) (dP rfl B6 RB (SR _) (dF (zjM W.d.sub) (λBg H7 s7=>?_) (λnB d w1 H7 hd L n s7=>?_))))
   .exact⟨_,rfl,rfl,_,rfl,jX (br rfl) (qn (W.great hz Bg) H7 (B.trans (U.trans s7)))⟩
   have n:Cel H7 w1 (nxt j a):=n;have ao:=U.trans s7;refine⟨_,rfl,rfl,_,rfl,jA (bf λz=>nomatch z) ?_⟩;refine⟨_,rfl,ZP,λn0 ai=>?_⟩;have z8:=zd (o:=.lst []) ai;have g:=ao.trans z8;refine dI (.list ((nxt j a).map zp)) (.list []) (.lst (SqL.of (z8 _ _ L)) (zck (n.mono z8))) (.lst (SqL.of zc) .nil) (zin _ []) ⟨_,rfl,?_⟩;by_cases he:nxt j a=[]
   .refine jX ((QU _).trans (br he)) ?_;refine⟨_,rfl,_,rfl,_,rfl,l,r,j,k,a,rfl,(B.trans g) _ _ hl,R,g _ _ e,b.mono g,G,sm,λp O H9 hp M B9 s9=>⟨zlY,λt ht=>?_⟩⟩;have Y:=zd (o:=.tup [.str "stuck",.ref r,.ref p]) ht;have u:=g.trans (s9.trans Y);exact q _ _ (W.stuck hz nB he) t r p O k _ ⟨zc,u _ _ e,b.mono u,B9.mono Y⟩ (B.trans u)
   .refine jA ((QU _).trans (bf he)) ?_;obtain⟨m',ah,W'⟩:=W.step hz nB R he;have J:(a++nxt j a).length<=64:=X0 W'.d.len I;have ac:=n.mono z8;refine⟨_,rfl,_,rfl,r,d,k,w1,rfl,rfl,g _ _ e,z8 _ _ L,?_,λr2 ak=>?_⟩
    .have:=n.length;rw[XR]at J;exact X0 (show k.length+w1.length<=64 by lia) (by decide)
    have z9:=zd (o:=.lst (k++w1)) ak;exact⟨m',ah,(dQ (a++nxt j a) (dQ r2 (dP rfl (B.trans (g.trans z9)) zc (((b.mono g).append ac).mono z9) W')))⟩
structure Facts (K:X5)(C SE C1 C2 C3 C4 C5 C6 C7 C8 C9:Addr)(b1 b2:Bool):Prop where
 fd:Qa K C
 mro:Wn K C (.ref SE)=some true
 k1:Xg K (.ref C) (.ref C1)=some b1
 k2:Xg K (.ref C) (.ref C2)=some b2
 k3:Xg K (.ref C) (.ref C3)=some false
 k4:Xg K (.ref C) (.ref C4)=some false
 k5:Xg K (.ref C) (.ref C5)=some false
 k6:Xg K (.ref C) (.ref C6)=some false
 k7:Xg K (.ref C) (.ref C7)=some false
 k8:Xg K (.ref C) (.ref C8)=some false
 k9:Xg K (.ref C) (.ref C9)=some false
 kv:Xg K (.ref C) (.type "ValueError")=some true
def zoX:Tr "ValueError"=some (.type "ValueError"):=by with_unfolding_all rfl
def zsw:AF:=[.bl true,.bl true,.bl false,.bl false,.bl false,.bl false,.bl false,.bl false,.bl false,.bl false]
def znl:Sp:=λh H Q _=>∃(l e:Addr) (d:AE) (c:AA),h=[.ref l,.ref e]/\H l=some (.lst (d.map V.str))/\Rows fdS.cps.toList d/\H e=some (.tup [.int (c.1:Nat),.int (c.2:Nat)])/\c∈jD d /\
 (J3 d 65 [c]=none->∀(t b:Addr) (a:Hp),a t=some (.tup [.non,.ref b])->a b=some (.lst zsw)->zu H a->Q (.ref t) a) /\
 ∀w f,J3 d 65 [c]=some (w,f)->∀(t u r p g b:Addr) (i:AF) (a:Hp),a t=some (.tup [.ref u,.ref b])->a b=some (.lst [])->zag a u r p g i d w f->zu H a->Q (.ref t) a
theorem zag.mono {H a:Hp}(s:zu H a){t r p b:Addr}{c:AF}{rs:AE}{w:Str}{cs:AD}(A:zag H t r p b c rs w cs):zag a t r p b c rs w cs:=⟨s _ _ A.tp,s _ _ A.rw,A.cel.mono s,A.bd.mono s⟩
def yf:zD ["_law_field_here","_law_first","_law_some","_law_found","e"] ["_law_field_here","_law_first"] (ze YC):=bz
def zhy (T:Txt mg)(al:qi K mg "StoneError" jai)(N:qi K mg "TooGreat" jaj)(M:qi K mg "NoLaying" jad)(af:qi K mg "NoBoard" jaa)(ag:qi K mg "NoCount" jac)(L:qi K mg "NoCell" jab)(ak:qi K mg "NoText" jah)(ai:qi K mg "NoRow" jaf)(ah:qi K mg "NoNumber" jae)(aj:qi K mg "NoTable" jag)
  (F:Facts K jaj jai jaj jad jaa jac jab jah jaf jae jag true false) (Z:Prog K mg) (D:zj K mg "_law_told" YC ["_law_field_here","_law_first"] f fd):yR 448 P w K mg base CX0 13 f fd ["_law_field_here","_law_first"] znl:=by
 obtain⟨ao,an,k⟩:=Z.run;have ap:yR 448 P w K mg base (CXE P w) 12 ao an ["field","first","way"] (zpx jaj):=zq9 T N M L Z k;refine D.F.okT yf (λvs H Q E h=>?_) (λaq A am s H vs Q E hr h=>?_)
 .revert h;refine fc λl ca U c z0 _=>?_;subst z0;rfl
 .revert h;refine eB λl ca U c=>eH λz0 hl R aa=>eF λhc qn q=>?_;subst z0;refine⟨_,(zT (PS.at_ (@zx _ _ 2 _ _ _ _ yf.nd rfl (XI rfl) (@qo _ _ _ _ zb) (by rfl) (.inr rfl))) (zT (PS.at_ (@zx _ _ 3 _ _ _ _ yf.nd rfl (XI rfl) Zu (by rfl) (.inr rfl))) (zdf (zn5 (i:=3) (j:=4) (dv:=[.str "sure"]) rfl rfl ap (hr.mono (by decide)) (by rfl) k.g k.F.kp k.bd yf.nd rfl (XI rfl) (UH rfl) rfl rfl (by rfl) al (za (pvS 0) (za (pvS 1) zb)) (λeN=>(zf (zx (i:=2) yf.nd rfl (XI rfl) (qo (za (zB (qK (K:=K) (by rfl)) (by rfl) T.qC WQ (za (pvS 4) (za (qG (v:=.ref jaj) (by rfl) N.g (by exact rfl)) zb))) (za (zB (qK (K:=K) (by rfl)) (by rfl) T.qC WQ (za (pvS 4) (za (ziW (v:=.ty "ValueError") (by rfl) T.zfK zoX (by rfl)) zb))) (za (zB (qK (K:=K) (by rfl)) (by rfl) T.qC WQ (za (pvS 4) (za (qG (v:=.ref jaa) (by rfl) af.g (by exact rfl)) zb))) (za (zB (qK (K:=K) (by rfl)) (by rfl) T.qC WQ (za (pvS 4) (za (qG (v:=.ref jac) (by rfl) ag.g (by exact rfl)) zb))) zb)))))) (zf (zx (i:=2) yf.nd rfl (XI rfl) (zC Y8 (pvS 2) (qo (za (zB (qK (K:=K) (by rfl)) (by rfl) T.qC WQ (za (pvS 4) (za (qG (v:=.ref jad) (by rfl) M.g (by exact rfl)) zb))) (za (zB (qK (K:=K) (by rfl)) (by rfl) T.qC WQ (za (pvS 4) (za (qG (v:=.ref jab) (by rfl) L.g (by exact rfl)) zb))) (za (zB (qK (K:=K) (by rfl)) (by rfl) T.qC WQ (za (pvS 4) (za (qG (v:=.ref jah) (by rfl) ak.g (by exact rfl)) zb))) (za (zB (qK (K:=K) (by rfl)) (by rfl) T.qC WQ (za (pvS 4) (za (qG (v:=.ref jaf) (by rfl) ai.g (by exact rfl)) zb))) zb))))))) (zg (zx (i:=2) yf.nd rfl (XI rfl) (zC Y8 (pvS 2) (qo (za (zB (qK (K:=K) (by rfl)) (by rfl) T.qC WQ (za (pvS 4) (za (qG (v:=.ref jae) (by rfl) ah.g (by exact rfl)) zb))) (za (zB (qK (K:=K) (by rfl)) (by rfl) T.qC WQ (za (pvS 4) (za (qG (v:=.ref jag) (by rfl) aj.g (by exact rfl)) zb))) zb)))))))))) (PSs.at_ (zg (zK (jy (za (pvS 3) (za (pvS 2) zb))))))))),?_⟩;(try dsimp only[cxK,cxP,cxW]);refine⟨ZP,λb hb=>?_⟩;have z1:=zd (o:=.lst []) hb;refine⟨fun x z=>(J3 U 65 [c]=none/\∃B,x=[some (.ref l),some (.ref ca),some (.ref B),some .non,none]/\zu H z/\z B=some (.lst zsw)) \/
   (∃w y u r p O Y,J3 U 65 [c]=some (w,y)/\x=[some (.ref l),some (.ref ca),some (.ref b),some (.ref u),none]/\zu H z/\z b=some (.lst [])/\zag z u r p O Y U w y),?_,?_⟩
  .refine⟨_,rfl,_,rfl,l,ca,U,c,rfl,z1 _ _ hl,R,z1 _ _ aa,hc,λhn H1 s1=>⟨jaj,(dF rfl F.mro (λe he=>?_))⟩,λw y hw u r p O Y H1 hu hr hp ar A s1=>.inr (dD w y u r (dB p O (dJ Y hw rfl (z1.trans s1) (s1 _ _ zc) A)))⟩;have m:=zd (o:=exO e jaj) he;have s2:=z1.trans (s1.trans m);have a:upd H1 e (exO e jaj) e=some (exO e jaj):=zc;generalize upd H1 e (exO e jaj)=H2 at *
   refine⟨_,rfl,e,_,_,_,rfl,a,F.fd,.inl ⟨_,rfl⟩,F.k1,_,rfl,e,_,_,_,rfl,a,F.fd,.inr ⟨_,rfl⟩,F.kv,_,rfl,e,_,_,_,rfl,a,F.fd,.inl ⟨_,rfl⟩,F.k3,_,rfl,e,_,_,_,rfl,a,F.fd,.inl ⟨_,rfl⟩,F.k4,zr3,λd1 ab=>?_⟩;have z3:=zd (o:=.lst [.bl true,.bl true,.bl false,.bl false]) ab;have d:=z3 _ _ a;refine⟨_,rfl,_,rfl,e,_,_,_,rfl,d,F.fd,.inl ⟨_,rfl⟩,F.k2,_,rfl,e,_,_,_,rfl,d,F.fd,.inl ⟨_,rfl⟩,F.k5,_,rfl,e,_,_,_,rfl,d,F.fd,.inl ⟨_,rfl⟩,F.k6,_,rfl,e,_,_,_,rfl,d,F.fd,.inl ⟨_,rfl⟩,F.k7,zr3,λd2 G=>(dB d1 d2 (dO rfl rfl (zd G _ _ zc) zc (by show 8<=Xz;decide) (λd3 ac=>?_)))⟩;have z4:=zd (o:=.lst [.bl false,.bl false,.bl false,.bl false]) G;have z5:=zd (o:=.lst ([.bl true,.bl true,.bl false,.bl false]++[.bl false,.bl false,.bl false,.bl false])) ac;have J:=z5 _ _ (z4 _ _ d);refine⟨_,rfl,_,rfl,e,_,_,_,rfl,J,F.fd,.inl ⟨_,rfl⟩,F.k8,_,rfl,e,_,_,_,rfl,J,F.fd,.inl ⟨_,rfl⟩,F.k9,J2,λd4 I=>(dB d3 d4 (dO rfl rfl (zd I _ _ zc) zc (by show 10<=Xz;decide) (λd5 ae=>?_)))⟩;exact .inl ⟨hn,d5,rfl,s2.trans (z3.trans (z4.trans (z5.trans ((zd I).trans (zd ae))))),zc⟩
  .rintro x H1 (⟨hn,B,rfl,s1,n⟩ | ⟨w,y,u,r,p,O,Y,hw,rfl,s1,n,A⟩)
   .refine⟨_,rfl,_,rfl,J2,λt ht=>?_⟩;have m:=zd (o:=.tup [.non,.ref B]) ht;exact qn hn t B _ zc (m _ _ n) (s1.trans m)
   .refine⟨_,rfl,_,rfl,J2,λt ht=>?_⟩;have m:=zd (o:=.tup [.ref u,.ref b]) ht;exact q w y hw t u r p O b Y _ zc (m _ _ n) (A.mono m) (s1.trans m)
structure Crn (B:Nat->Prop)(n:Nat)(t:Str):Prop where
 r:Row fdS.cps.toList n t
 e:∃k∈t.cps.toList,k≠46
 u:(∀k∈t.cps.toList,k≠46)\/∀j k,t.cps.toList[j]?=some k->(k=46↔B j)
def zoY {a:List Nat}{n:Nat}{t:Str}(r:Row a n t):Row a n (zie t):=by
 refine⟨?_,λc b=>r.mem c (Ud.mp b)⟩;show t.cps.toList.reverse.toArray.size=n;rw[XB,Ur,X6];exact r.len
def Crn.rev {B:Nat->Prop}{n:Nat}{t:Str}(c:Crn B n t):Crn (λj=>B (n-1-j)) n (zie t):=by
 refine⟨zoY c.r,let ⟨k,hk,h⟩:=c.e;⟨k,Ud.mpr hk,h⟩,c.u.imp (λh k hk=>h k (Ud.mp hk)) λh j k hk=>?_⟩;have hk:t.cps.toList.reverse[j]?=some k:=hk;have b:t.cps.toList.length=n:=by
  rw[X6];exact c.r.len
 have a:=(XZ.mp hk).1;rw[Ur]at a;rw[List.getElem?_reverse a,b]at hk;exact h _ k hk
def znm (rs:AE):Prop:=∀x∈jD rs,∀y∈jD rs,(x.1,y.2)∈jD rs
def Crn.cross {B:Nat->Prop}{rs:AE}{n:Nat}(h:∀t∈rs,Crn B n t):znm rs:=by
 rintro⟨i,j⟩ c ⟨i',j'⟩ hy;have get:∀{i j:Nat},(i,j)∈jD rs->∃t,rs[i]?=some t/\t.cps.toList[j]?=some 46:=λ{i j} c=>by
  obtain⟨t,k,h1,h2,m⟩:=xg.mp c;rw[bh (W7.mp m).2]at h2;exact⟨t,h1,h2⟩
 obtain⟨t,g,q⟩:=get c;obtain⟨u,u1,d⟩:=get hy;have e:=h t (X7 g);have f:=h u (X7 u1);have p:=f.u.resolve_left λz=>z 46 (X7 d) rfl;have o:=e.u.resolve_left λz=>z 46 (X7 q) rfl;have l:=(p j' 46 d).mp rfl;have s:=(XZ.mp d).1;have v:u.cps.toList.length=n:=by
  rw[X6];exact f.r.len
 have lt:t.cps.toList.length=n:=by
  rw[X6];exact e.r.len
 have b:j'<t.cps.toList.length:=by lia
 have hk:=X2 b;have a:=(o j' _ hk).mpr l;rw[a]at hk;exact xg.mpr ⟨t,46,g,hk,by decide⟩
theorem zhz {p:Nat->Bool}{i:Nat}:∀{j:Nat} {t:List Nat},(∃k∈t,p k=false)->(Cells.zW p i j t).length+1<=t.length
 | j,[],⟨k,hk,_⟩=>nomatch hk
 | j,c::r,⟨k,hk,b⟩=>by
  rw[Cells.zW,XR,Xk];by_cases a:p c=true
  .have hk:k∈r:=(XJ.mp hk).resolve_left λe=>by rw[e,a]at b;cases b
   have:=zhz (i:=i) (j:=j+1) ⟨k,hk,b⟩;rw[bw a];show 1+_+1<=_;lia
  .have:=Cells.jv p i (j+1) r;rw[bq a];show 0+_+1<=_;lia
theorem zdZ {p:Nat->Bool}{m:Nat}:∀{i:Nat} {gs:List (List Nat)},(∀t∈gs,(Cells.zW p 0 0 t).length<=m)->(Cells.zI p i gs).length<=m*gs.length
 | _,[],_=>WZ _
 | i,t::r,h=>by
  have h1:=zdZ (i:=i+1) λu b=>h u (XW _ b);have h2:=h t XV;have e:∀(i a j:Nat) (t:List Nat),(Cells.zW p i j t).length=(Cells.zW p a j t).length:=λi a j t=>by
   induction t generalizing j with
   | nil=>rfl
   | cons c r d =>
    rw[Cells.zW,Cells.zW,XR,XR,d];split<;>rfl
  rw[Cells.zI,XR,Xk,e i 0,Nat.mul_succ];lia
def Crn.few {B:Nat->Prop}{rs:AE}{n:Nat}(f:rs.length<=8)(g:n<=8)(h:∀t∈rs,Crn B n t):(jD rs).length<=63:=by
 have:=zdZ (p:=λc=>zO c&&decide (c=46)) (m:=7) (i:=0) (gs:=codes rs) λt d=>by
  obtain⟨u,b,rfl⟩:=XA.mp d;obtain⟨k,hk,a⟩:=(h u b).e;have:=zhz (p:=λc=>zO c&&decide (c=46)) (i:=0) (j:=0) ⟨k,hk,by rw[bf a,OR]⟩;have e:u.cps.toList.length=n:=by
   rw[X6];exact(h u b).r.len
  lia
 unfold jD;rw[qR]at this;lia
def zrd {rs:AE}(R:Rows fdS.cps.toList rs)(h:∀t∈rs,((rs.length*t.cps.size:Nat):Int)<=20):(jD rs).length<=63:=by
 obtain⟨n,_,e,a⟩:=R.ex;have:=zdZ (p:=λc=>zO c&&decide (c=46)) (m:=n) (i:=0) (gs:=codes rs) λt b=>by
  obtain⟨u,d,rfl⟩:=XA.mp b;have:=Cells.jv (λc=>zO c&&decide (c=46)) 0 0 u.cps.toList;exact X0 this (Nat.le_of_eq (by rw[X6];exact(a u d).len))
 unfold jD;rw[qR]at this;have lo:=R.lo;cases rs with
 | nil=>exact absurd lo (by decide)
 | cons t r =>
  have h1:=h t XV;rw[(a t XV).len,Pr]at h1;lia
def znn (K:X5):Sp:=λe H Q _=>∃(a:Addr) (d:List Int),e=[.ref a]/\SqL K H a (d.map V.int) /\
 ∀(l:Addr) (b:AE) (c:Hp),H l=none->c l=some (.lst (b.map V.str))->zu H c->Rows fdS.cps.toList b->(jD b).length<=63->znm b->Q (.ref l) c
def zfe:Str:="ooo#"
def zoZ:∀k∈zfe.cps.toList,k∈fdS.cps.toList/\k≠46:=by decide+kernel
def qm:zD ["_law_script","_law_high","_law_wide","_law_own","_law_rows","_law_row","_law_text","_law_column","_law_sign"] ["_law_script"] (ze JB):=bz
def zen {f1:Addr}{ae:XM}(T:Txt mg)(D:zj K mg "_law_corner" JB ["_law_script"] f fd)(zJ:zj K mg "_law_cell_at" jR ["_law_script","_law_k"] f1 ae):qz P w K mg base CX0 2 f fd ["_law_script"] (znn K):=by
 have zP:qz P w K mg base CX0 1 f1 ae ["_law_script","_law_k"] (zfL K):=JY T zJ;refine D.F.ok qm (λvs H Q E h=>?_) (λao A an s H vs Q E hr h=>?_)
 .obtain⟨a,ns,rfl,_⟩:=h;rfl
 .obtain⟨a,ns,rfl,hS,k⟩:=h;refine⟨_,(@zf _ _ _ _ _ (@zx _ _ 1 _ _ _ _ qm.nd rfl (XI rfl) (@zC _ _ _ _ _ _ _ _ qP zh (zC qp (zC qq (pc0 zP hr zJ (za (pvS 0) (@za _ _ _ _ _ zh zb rfl))) zh) zh)) (by rfl) (.inr rfl)) (@zf _ _ _ _ _ (@zx _ _ 2 _ _ _ _ qm.nd rfl (XI rfl) (@zC _ _ _ _ _ _ _ _ qP zh (zC qp (zC qq (pc0 zP hr zJ (za (pvS 0) (@za _ _ _ _ _ zh zb rfl))) zh) zh)) (by rfl) (.inr rfl)) (zf (zx (i:=3) qm.nd rfl (XI rfl) (pc0 zP hr zJ (za (pvS 0) (@za _ _ _ _ _ zh zb rfl)))) (@zf _ _ _ _ _ (@zx _ _ 4 _ _ _ _ qm.nd rfl (XI rfl) (@qo _ _ _ _ zb) (by rfl) (.inr rfl)) (zf (qS W3 rfl (yD (by rfl) T.xR (za (pvS 1) zb)) (zv (i:=5) qm.nd rfl (XI rfl)) (@zf _ _ _ _ _ (@zx _ _ 6 _ _ _ _ qm.nd rfl (XI rfl) jZ (by rfl) (.inr rfl)) (zf (qS W3 rfl (yD (by rfl) T.xR (za (pvS 2) zb)) (zv (i:=7) qm.nd rfl (XI rfl)) (@zf _ _ _ _ _ (@zx _ _ 8 _ _ _ _ qm.nd rfl (XI rfl) jZ (by rfl) (.inr rfl)) (zaE (qL (PW.pt (zge (zG ZF (pvS 5) (zC yv (pvS 1) zh) (zU _)) (zhG (zG ZF (pvS 7) (zC yv (pvS 2) zh) (zU _))))) (@zf _ _ _ _ _ (@zx _ _ 8 _ _ _ _ qm.nd rfl (XI rfl) (@qu _ _ _ _ _ _ _ zaP jZ (zC qp (pvS 3) zh) (λ_ _=>rfl)) (by rfl) (.inr rfl)) (zg (zx (i:=3) qm.nd rfl (XI rfl) (zC qq (pvS 3) zh)))) qc) (zg (zx (i:=6) qm.nd rfl (XI rfl) (zC Yr (pvS 6) (pvS 8))))))) (zg (yu (Y7 Wz VN VM yy (pvS 4) (za (pvS 6) zb))))))) (zaE (qL (zG ZF (zC qp (zC qq (pc0 zP hr zJ (za (pvS 0) (@za _ _ _ _ _ zh zb rfl))) zh) zh) zh (zU _)) (zg (yu (zp0 Wz PySem.F.slot_list_reverse PySem.F.type_list_reverse zhL (pvS 4)))) qc) (zaE (qL (zG ZF (zC qp (zC qq (pc0 zP hr zJ (za (pvS 0) (@za _ _ _ _ _ zh zb rfl))) zh) zh) zh (zU _)) (zg (Ze (i:=4) qm.nd rfl rfl (N:=["_law_row"]) (src:=[none]) (zV.plain rfl (by decide+kernel) (by decide+kernel) (by decide+kernel) rfl (by decide)) rfl (zR (pvS 4)) (λ_ _ _ _ _=>(zv (i:=0) (by show W6 (["_law_row"]:AE);decide+kernel) rfl (XI rfl))) (λ_ _ _ _ _=>qV) (λ_ _ _ _ _=>(zn7 (pvS 0) (zk8 zhI zh))))) qc) (zg (zK (pvS 4)))))))))),?_⟩;(try dsimp only[cxK,cxP,cxW]);refine⟨_,rfl,a,ns,_,rfl,hS,by decide,λh0=>⟨_,_,rfl,rfl,jE.small (by decide) (by decide),_,_,rfl,rfl,(by show (0:Int)<4;decide),_,_,rfl,rfl,?_⟩⟩;have e1:=Wr (h0/8) (show (4:Int)≠0 by decide);have e2:=Wv (h0/8) (show (0:Int)<4 by decide);refine⟨_,rfl,a,ns,_,rfl,hS,by decide,λw0=>⟨_,_,rfl,rfl,jE.small (by decide) (by decide),_,_,rfl,rfl,(by show (0:Int)<4;decide),_,_,rfl,rfl,?_⟩⟩;have e3:=Wr (w0/32) (show (4:Int)≠0 by decide);have e4:=Wv (w0/32) (show (0:Int)<4 by decide);generalize h0/8%4=hh at *
  generalize w0/32%4=ww at *
  have w8:(5+ww).toNat<=8:=by lia
  have h8:(5+hh).toNat<=8:=by lia
  refine⟨_,rfl,a,ns,_,rfl,hS,by decide,λo0=>⟨ZP,λl U=>?_⟩⟩;have s0:zu H (upd H l (.lst [])):=zd U;refine⟨_,rfl,5+hh,rfl,by lia,by lia,?_⟩;refine jC (lo:=0) (n:=(5+hh).toNat) (λi y q=>∃(v5 v6 M O:Option V) (o:Int) (m:AE),y=[some (.ref a),some (.int (5+hh)),some (.int (5+ww)),some (.int o),some (.ref l),v5,v6,M,O]/\zu H q/\q l=some (.lst (m.map V.str))/\m.length=i/\∀t∈m,Crn (λj=>j+1≠(5+ww).toNat) (5+ww).toNat t)
   (dS (dB o0 [] (dP rfl s0 zc rfl (λ_ h=>nomatch h)))) ?_ ?_
  .refine λi y H1 hi=>eB λv5 v6 M O=>eO λo1 m z0 s1 v g d=>?_;subst z0;refine⟨_,rfl,5+ww,rfl,by lia,by lia,?_⟩;refine jC (lo:=0) (n:=(5+ww).toNat) (λj y q=>∃(M O:Option V) (o:Int) (t:Str),y=[some (.ref a),some (.int (5+hh)),some (.int (5+ww)),some (.int o),some (.ref l),some (.int (0+i)),some (.str t),M,O]/\q=H1/\Row fdS.cps.toList j t/\(j=(5+ww).toNat->∃k∈t.cps.toList,k≠46)/\(0+(i:Int)=5+hh-1->∀k∈t.cps.toList,k≠46)/\(¬ 0+(i:Int)=5+hh-1->∀j k,t.cps.toList[j]?=some k->(k=46↔j+1≠(5+ww).toNat)))
    (dG (dQ o1 (dM rfl rfl ⟨rfl,λ_ h=>nomatch h⟩ (λe=>absurd e (by lia)) (λ_ _ h=>nomatch h) (λ_ j k h=>nomatch h)))) ?_ ?_
   .refine λj y H2 hj=>fh λM O o t z0 z1 I _ aa ab=>?_;subst z0 z1;refine⟨fun p q=>∃(o c:Int) (k:Nat),p=[some (.ref a),some (.int (5+hh)),some (.int (5+ww)),some (.int o),some (.ref l),some (.int (0+i)),some (.str t),some (.int (0+j)),some (.str ⟨#[k]⟩)]/\q=H2/\k∈fdS.cps.toList/\(j+1=(5+ww).toNat->k≠46)/\(0+(i:Int)=5+hh-1->k≠46)/\(¬ 0+(i:Int)=5+hh-1->(k=46↔j+1≠(5+ww).toNat)),?_,?_⟩
    .have ac:∃(c:Nat),atI zfe.cps.toList (o%4)=some c/\c∈zfe.cps.toList:=by
      have m0:=Wr o (show (4:Int)≠0 by decide);have m1:=Wv o (show (0:Int)<4 by decide);have ag:(o%4).toNat<zfe.cps.toList.length:=by
       show (o%4).toNat<4;lia
      exact⟨_,Zw m0 (X2 ag),UP ag⟩
     obtain⟨c,hc,ah⟩:=ac;obtain⟨af,G⟩:=zoZ c ah;refine⟨_,rfl,_,rfl,_,_,rfl,rfl,rfl,_,rfl,?_⟩;by_cases hA:(0+(i:Int))=5+hh-1
     .refine jX (br (by rw[hA])) (zbs ?_);exact⟨_,rfl,_,_,rfl,rfl,(by show (0:Int)<4;decide),zfe,_,c,rfl,rfl,(by decide),hc,_,rfl,_,_,rfl,rfl,jE.small (by decide) (by decide),_,0,c,rfl,rfl,af,λ_=>G,λ_=>G,λz=>absurd hA z⟩
     .refine jA (bf λz=>hA (V.int.inj z)) ?_;refine⟨_,rfl,_,rfl,_,_,rfl,rfl,rfl,_,rfl,?_⟩;by_cases hB:(0+(j:Int))=5+ww-1
      .refine jX (br (by rw[hB])) ?_;exact⟨_,rfl,_,_,rfl,rfl,(by show (0:Int)<4;decide),zfe,_,c,rfl,rfl,(by decide),hc,_,rfl,_,_,rfl,rfl,jE.small (by decide) (by decide),_,0,c,rfl,rfl,af,λ_=>G,λ_=>G,λ_=>⟨λz=>absurd z G,λz=>absurd (show j+1=(5+ww).toNat by lia) z⟩⟩
      .refine jA (bf λz=>hB (V.int.inj z)) ?_;exact dB o 0 (dX 46 (by rw[<- zf2];rfl) rfl (by decide+kernel) (λz=>absurd z (by lia)) (λz=>absurd z hA) (λ_=>⟨λ_=>by lia,λ_=>rfl⟩))
    refine λp H3=>eV λo' c kk=>eK λz0 z1 hk ak al am=>?_;subst z0 z1;refine⟨_,rfl,_,rfl,t,_,rfl,rfl,?_,?_⟩
    .have e5:t.length=j:=I.len;rw[e5];show j+1<=Xz;exact X0 hj (X0 w8 (by decide))
    .have e:(t++(⟨#[kk]⟩:Str)).cps.toList=t.cps.toList++[kk]:=by
      have e:(t++(⟨#[kk]⟩:Str)).cps=t.cps++#[kk]:=rfl;rw[e,Xb]
     have el:t.cps.toList.length=j:=by
      rw[X6];exact I.len
     refine dG (dQ o' (dM rfl rfl (I.more hk) (λz=>⟨kk,?_,ak z⟩) (λz k hk=>?_) (λz j' k hk=>?_)))
     .rw[e];exact XD _ XV
     .rw[e]at hk;rcases XO.mp hk with h | h
      .exact aa z k h
      .rw[T5.mp h];exact al z
     .rw[e]at hk;by_cases ap:j'<j
      .rw[VY (by lia)]at hk;exact ab z j' k hk
      .have U:=(XZ.mp hk).1;rw[XR]at U;have e2:j'=j:=by
        have:[kk].length=1:=rfl;lia
       subst e2;rw[VG (by lia),el,To]at hk;cases hk;exact am z
   .refine λy H2=>fh λM O o t z0 z1 I ai aa ab=>?_;subst z0 z1;refine⟨_,rfl,.inl ⟨rfl,_,SqL.of v⟩,_,rfl,l,_,_,rfl,rfl,v,?_,?_⟩
    .rw[X9,g];exact Xs hi (X0 h8 (by decide))
    .refine dS (dB o (m++[t]) (dP rfl (λb o e=>?_) ?_ ?_ ?_))
     .rw[zo (zk e U)];exact s1 b o e
     .rw[zc,Xj];rfl
     .rw[XR,g];rfl
     .intro u hu;rcases XO.mp hu with hu | hu
      .exact d u hu
      .rw[T5.mp hu];exact⟨I,ai rfl,(Decidable.em _).imp aa ab⟩
  .refine λy H1=>eB λv5 v6 M O=>eO λo1 m z0 s1 v g d=>?_;subst z0;refine⟨fun p q=>∃(m:AE),p=[some (.ref a),some (.int (5+hh)),some (.int (5+ww)),some (.int o1),some (.ref l),v5,v6,M,O]/\zu H q/\q l=some (.lst (m.map V.str))/\m.length=(5+hh).toNat/\∀t∈m,Crn (λj=>j+1≠(5+ww).toNat) (5+ww).toNat t,?_,?_⟩
   .refine⟨_,rfl,a,ns,_,rfl,s1.seq hS,by decide,λc0=>⟨_,_,rfl,rfl,jE.small (by decide) (by decide),_,_,rfl,rfl,(by show (0:Int)<2;decide),rfl,_,rfl,zch (λ_=>?_) (λ_=>⟨m,rfl,s1,v,g,d⟩)⟩⟩;refine⟨_,rfl,.inl ⟨rfl,_,SqL.of v⟩,l,_,rfl,rfl,v,m.reverse,rfl,λb o e=>?_,?_,?_,λt J=>d t (Ud.mp J)⟩
    .rw[zo (zk e U)];exact s1 b o e
    .rw[zc,List.map_reverse]
    .rw[Ur,g]
   rintro p H2 ⟨m,rfl,s2,Y,g,d⟩;refine⟨fun p q=>∃(l:Addr) (m:AE) (B:Nat->Prop),p=[some (.ref a),some (.int (5+hh)),some (.int (5+ww)),some (.int o1),some (.ref l),v5,v6,M,O]/\zu H q/\H l=none/\q l=some (.lst (m.map V.str))/\m.length=(5+hh).toNat/\∀t∈m,Crn B (5+ww).toNat t,?_,?_⟩
   .refine⟨_,rfl,a,ns,_,rfl,s2.seq hS,by decide,λc0=>⟨_,_,rfl,rfl,jE.small (by decide) (by decide),_,_,rfl,rfl,(by show (0:Int)<2;decide),rfl,_,rfl,zch (λ_=>?_) (λ_=>⟨l,m,_,rfl,s2,U,Y,g,d⟩)⟩⟩;refine⟨_,rfl,l,rfl,⟨_,SqL.of Y⟩,λz hz=>?_⟩;refine qw (K:=K) (a:=l) (xs:=m.map V.str) (λi y q=>(∃u0,y=[u0])/\zu H2 q/\q z=some (.lst (((m.take i).map zie).map V.str))) ⟨⟨_,rfl⟩,zd hz,zc⟩ (λi y q _ ⟨_,s6,_⟩=>SqL.of (s6 _ _ Y)) ?_ ?_
    .rintro i x y H3 hx ⟨⟨u0,rfl⟩,s3,L⟩;rw[Xo]at hx;obtain⟨t,J,rfl⟩:=Sq.mp hx;have i8:i<m.length:=(XZ.mp J).1;have tl:t.length=(5+ww).toNat:=(d t (X7 J)).r.len;refine xO ⟨_,rfl,1,rfl,_,rfl,rfl,t,rfl,X0 (show t.length<=64 by lia) (by decide),_,L,Xx (show _<=8 from ?_) (by decide),⟨_,rfl⟩,λb o e=>?_,?_⟩
     .rw[X9,X9,XG];lia
     .rw[zo (zk e hz)];exact s3 _ _ e
     .rw[zc,Xv,J,Xj,Xj];rfl
    .rintro y H3 ⟨_,s3,L⟩;rw[X9,XC]at L;exact⟨z,m.map zie,_,rfl,s2.trans s3,s2.free hz,L,by rw[X9,g],λt J=>by
      obtain⟨u,hu,rfl⟩:=XA.mp J;exact(d u hu).rev⟩
   rintro p H3 ⟨l,m,_,rfl,s3,U,aj,g,d⟩;refine⟨_,rfl,k l m H3 U aj s3 ⟨by lia,by lia,(5+ww).toNat,by lia,by lia,λt J=>(d t J).r⟩ (Crn.few (n:=(5+ww).toNat) (by lia) (by lia) d) (Crn.cross d)⟩
def zsz:Sg fdS:=by
 unfold Sg;decide+kernel
def zkY:Sp:=λc H Q _=>∃(a:Addr) (b:AE),c=[.ref a]/\H a=some (.lst (b.map V.str))/\Rows fdS.cps.toList b/\∀l,H l=none->Q (.ref l) (upd H l (.lst (b.map V.str)))
def zjO (K:X5):Sp:=λd H Q _=>∃(a:Addr) (b:List Int),d=[.ref a]/\SqL K H a (b.map V.int)/\b.length<=63/\∀c,Q (.bl true) c
theorem zga {K:X5}{H:Hp}:∀bs:List Bool,Je K H (bs.map V.bl) (bs.map UC)
 | []=>.nil
 | b::r=>.cons (.bl b) (zga r)
def zo0:List Bool:=[true,true,false,false,false,false,false,false,false,false]
def zno:∀c∈fdS.cps.toList,c<1114112:=by decide+kernel
def znp {rs:AE}(R:Rows fdS.cps.toList rs):zfq (.list (rs.map VW)) (.list (rs.map VW)):=by
 obtain⟨n,_,_,h⟩:=R.ex;have a:Wd (rs.map VW)=true:=by
  clear R;induction rs with
  | nil=>rfl
  | cons t r e =>
   show (Wp (.str t)&&Wd (r.map VW))=true;rw[e λu d=>h u (XW _ d),S8];show t.cps.all (· < 0x110000)=true;rw[Array.all_eq_true'];intro c b;exact br (zno c ((h t XV).mem c (RZ.mpr b)))
 refine⟨a,a,?_⟩;show V6 (rs.map VW)+1<=64;rw[YD];decide
theorem zhA {rs:AE}:∀{m:Nat} {cs:AD} {w:Str} {cs':AD},J3 rs m cs=some (w,cs')->Wp (.str w)=true
 | 0,cs,w,cs',h=>by
  cases h;decide+kernel
 | m+1,cs,w,cs',h=>by
  unfold J3 at h;split at h
  .cases h;decide+kernel
  .split at h
   .cases h
   .split at h
    .cases h;decide+kernel
    .exact zhA h
def rD (rs:AE)(w:Str)(cs:AD):Wf:=.tuple [.str w,.list (cs.map zp),bData (jY rs cs) ((stC rs).length:Nat)]
theorem zag.rdv {K:X5}{H:Hp}{t r p a:Addr}{b:AF}{rs:AE}{w:Str}{cs:AD}(A:zag H t r p a b rs w cs):Rdv K H (.ref t) (rD rs w cs):=.tup (SqT.of A.tp) (.cons (.str w) (.cons (.lst (SqL.of A.rw) (zck A.cel)) (.cons (qh.rdv A.bd) .nil)))
def znq {rs:AE}(R:Rows fdS.cps.toList rs){w:Str}(a:Wp (.str w)=true)(cs:AD):zfq (rD rs w cs) (rD rs w cs):=by
 have c:=(zdX (cs:=cs) R).cmpB ((stC rs).length:Nat);have h1:Wp (rD rs w cs)=true:=by
  show (Wp (.str w)&&(Wd (cs.map zp)&&(Wp (bData (jY rs cs) ((stC rs).length:Nat))&&true)))=true;rw[c.l1,zbO,a];rfl
 refine⟨h1,h1,?_⟩;show max 0 (max (V6 (cs.map zp)+1) (max (PyData.depth (bData (jY rs cs) ((stC rs).length:Nat))) 0))+1<=64;have:=zg2 cs;have e:PyData.depth (bData (jY rs cs) ((stC rs).length:Nat))=max (V6 ((jY rs cs).map VW)+1) (max 0 0)+1:=rfl;rw[e,YD];lia
def zcI {d:Wf}(h:Wp d=true):(if true=true then !PyData.eqv d d else W8 d d)=false:=by
 rw[bw rfl,SeqAt.eqv_refl _ h];rfl
def zo1 {d:Wf}(h:Wp d=true):(if false=true then !PyData.eqv d d else W8 d d)=true:=SeqAt.eqv_refl _ h
def znr {α:Type}{xs:List α}(h:xs ≠ []):∃v,atI xs (-1)=some v/\v∈xs:=by
 have a:=Td.mpr h;refine⟨xs[xs.length-1],?_,UP _⟩;unfold atI ixN;rw[bq (by decide),bw (by lia)];show xs[((xs.length:Int) + -1).toNat]?=_;rw[show ((xs.length:Int) + -1).toNat=xs.length-1 by lia];exact X2 _
def zh2 {v0 v1:V}(z:Int):∃v,atI [v0,v1] (z%2)=some v/\(v=v0\/v=v1):=by
 have a:=Wr z (show (2:Int)≠0 by decide);have b:=Wv z (show (0:Int)<2 by decide);rcases(show z%2=0\/z%2=1 by lia) with e | e
 .exact⟨v0,by rw[e];rfl,.inl rfl⟩
 .exact⟨v1,by rw[e];rfl,.inr rfl⟩
def zhB:zD ["rows"] ["rows"] (ze Yz):=bz
def zhC (T:Txt mg)(Z:Prog K mg)(D:zj K mg "field_of" Yz ["rows"] f fd):qz P w K mg base CX0 3 f fd ["rows"] zkY:=by
 obtain⟨m,l,d⟩:=Z.checked_rows;refine D.F.ok zhB (λj H Q E h=>?_) (λe A b s H j Q E i h=>?_)
 .obtain⟨a,c,rfl,_⟩:=h;rfl
 .obtain⟨a,c,rfl,g,R,k⟩:=h;refine⟨_,(zg (zK (pc0 (YX T Z d) i d (za (pvS 0) (za (qG (v:=.str ".o#") (by rfl) T.zec.choose_spec (by exact⟨_,rfl⟩)) zb))))),?_⟩;(try dsimp only[cxK,cxP,cxW]);exact⟨_,rfl,a,c,fdS,rfl,zsz,g,R,k⟩
def xy:zD ["_law_script","_law_pick","_law_rows","_law_clears","_law_first","_law_field_here","_law_due_here","_law_turn","_law_found","_law_some"] ["_law_script"] (ze zeU):=bz
def zre (T:Txt mg)(be:qi K mg "StoneError" jai)(aA:qi K mg "TooGreat" jaj)(a9:qi K mg "NoLaying" jad)(aW:qi K mg "NoBoard" jaa)(aY:qi K mg "NoCount" jac)(aX:qi K mg "NoCell" jab)(bc:qi K mg "NoText" jah)(ba:qi K mg "NoRow" jaf)(aZ:qi K mg "NoNumber" jae)(bb:qi K mg "NoTable" jag)
  (FG:Facts K jaj jai jaj jad jaa jac jab jah jaf jae jag true false) (FT:Wn K jaj (.ref jaj)=some true) (Z:Prog K mg) (D:zj K mg "law" zeU ["_law_script"] f fd):yR 448 P w K mg base CX0 14 f fd ["_law_script"] (zjO K):=by
 obtain⟨bt,bp,zJ⟩:=Z.law_cell_at;obtain⟨bH,bD,Zs⟩:=Z.law_mixed;obtain⟨bI,bE,aH⟩:=Z.law_field;obtain⟨bF,bC,aG⟩:=Z.law_corner;obtain⟨bJ,bG,aI⟩:=Z.law_cells;obtain⟨bM,bK,aJ⟩:=Z.field_of;obtain⟨b3,bx,aM⟩:=Z.law_due;obtain⟨b0,bv,aK⟩:=Z.law_told;obtain⟨bB,bA,Jd⟩:=Z.stones_of;obtain⟨b9,b8,qD⟩:=Z.cells_with;obtain⟨yb,jG,zw⟩:=Z.cells_of;obtain⟨yH,j9,zq⟩:=Z.sign_at;have zP:qz P w K mg base CX0 1 bt bp ["_law_script","_law_k"] (zfL K):=JY T zJ;have b2:yR 448 P w K mg base CX0 12 b3 bx ["_law_field_here","_law_clears","_law_first"] zpz:=ziE T aA a9 FT Z aM;have b1:yR 448 P w K mg base CX0 13 b0 bv ["_law_field_here","_law_first"] znl:=zhy T be aA a9 aW aY aX bc ba aZ bb FG Z aK;refine D.F.okT xy (λvs H Q E h=>?_) (λb5 A bi s H vs Q E I h=>?_)
 .obtain⟨a,ns,rfl,_⟩:=h;rfl
 .obtain⟨a,ns,rfl,hS,b4,k⟩:=h;refine⟨_,(zT (PS.at_ (zx (i:=1) xy.nd rfl (XI rfl) (pc0 zP I zJ (za (pvS 0) (@za _ _ _ _ _ zh zb rfl))))) (zT (PS.at_ (zx (i:=2) xy.nd rfl (XI rfl) (pc0 (zf0 T aH zJ Zs) I aH (za (pvS 0) (@za _ _ _ _ _ zh zb rfl))))) (zdf (PS.at_ (qL (zG ZF (zC qp (pvS 1) zh) zh (zU _)) (zg (zx (i:=2) xy.nd rfl (XI rfl) (pc0 (zen T aG zJ) I aG (za (pvS 0) zb)))) qc)) (zT (PS.at_ (zx (i:=3) xy.nd rfl (XI rfl) (pc0 (zf1 T aI) I aI (za (pvS 2) (@za _ _ _ _ _ jZ zb rfl))))) (zT (PS.at_ (qL (zG (xo I.units) (pvS 3) (@qo _ _ _ _ zb) (zU _)) (@zg _ _ _ (@zK _ _ _ _ zaB)) qc)) (zT (PS.at_ (zx (i:=4) xy.nd rfl (XI rfl) (qu qW (pvS 3) (zC qp (zC qq (pvS 1) zh) (zB zE (by rfl) T.qX Xf (za (pvS 3) zb))) (λ_ _=>rfl)))) (zdf (PS.at_ (qL (PW.pt (zk2 (zG ZF (zC qp (pvS 1) zh) zh (zU _)) (ziX (zG zia (zC qp (zC qq (pvS 1) zh) zh) zh (zU _))))) (zf (zx (i:=4) xy.nd rfl (XI rfl) (qu qW (qo (za (qu qW (pvS 3) zh (λ_ _=>rfl)) (za (qu qW (pvS 3) (zk8 zhI zh) (λ_ _=>rfl)) zb))) (zC qp (zC qq (pc0 zP I zJ (za (pvS 0) (@za _ _ _ _ _ zh zb rfl))) zh) zh) (λ_ _=>rfl))) (zg (qL (zG zcL (zC qp (zC qq (pc0 zP I zJ (za (pvS 0) (@za _ _ _ _ _ zh zb rfl))) zh) zh) (zC qp (zC qq (pc0 zP I zJ (za (pvS 0) (@za _ _ _ _ _ zh zb rfl))) zh) zh) (zU _)) (zg (zx (i:=4) xy.nd rfl (XI rfl) (jy (za (qu qB (pvS 4) zh (λ_ _=>rfl)) (za (zC yv (zC qP (qu qB (qu qW (pvS 3) zh (λ_ _=>rfl)) zh (λ_ _=>rfl)) (qu qB (qu qW (pvS 3) (zk8 zhI zh) (λ_ _=>rfl)) zh (λ_ _=>rfl))) (qu qB (pvS 4) zh (λ_ _=>rfl))) zb))))) qc))) qc)) (zT (PS.at_ (zx (i:=5) xy.nd rfl (UH rfl) (pc0 (zhC T Z aJ) I aJ (za (jq yO (by rfl) T.zdp US (za (pvS 2) zb)) zb)))) (zT (zaQ (i:=6) xy.nd rfl (XI rfl) (pct b2 I aM (PA.at_ (za (pvS 5) (za (pvS 3) (za (pvS 4) zb)))))) (zT (zn4 W3 rfl (yD (by rfl) T.xR (@za _ _ _ _ _ zh zb rfl)) (zv (i:=7) xy.nd rfl (XI rfl)) (zT (zn3 (pct b1 I aK (PA.at_ (za (pvS 5) (za (pvS 4) zb)))) (Zv rfl (qf (zv (i:=8) xy.nd rfl (XI rfl)) (qf (zv (i:=9) xy.nd rfl (XI rfl)) yi)))) (PSs.at_ (zg (qL (zG zfk (pvS 6) Zu (zU _)) (zg (qL (PW.pt (zge (zG znA (pvS 8) Zu (zU _)) (zhG (zG (yx I.units) (pvS 9) (@zC _ _ _ _ _ _ _ _ Y8 (@qo _ _ _ _ (@za _ _ _ _ _ zaB (@za _ _ _ _ _ zaB zb rfl) rfl)) (@zC _ _ _ _ _ _ _ _ zhM (@qo _ _ _ _ (@za _ _ _ _ _ zaB zb rfl)) zh)) (zU _))))) (@zg _ _ _ (@zK _ _ _ _ zaB)) qc)) (zg (qL (PW.pt (zge (zG (yx I.units) (pvS 9) (@qo _ _ _ _ zb) (zU _)) (zge (zai (zcN (zB zgk (by rfl) T.qC WQ (za (pvS 8) (za (ziW (v:=.ty "tuple") (by rfl) T.zok PyProof.Rows.boot_tuple (by rfl)) zb))) (λ_=>rfl))) (zge (zG (yx I.units) (pvS 8) (pvS 6) (zU _)) (zhG (zG (yx I.units) (pvS 5) (pvS 2) (zU _))))))) (@zg _ _ _ (@zK _ _ _ _ zaB)) qc))))))) (PSs.at_ (zf (qL (zG zfk (pvS 6) Zu (zU _)) (@zg _ _ _ (@zK _ _ _ _ zaB)) qc) (zg (zK (zpM (zaC (xo I.units) (qJ (N:=["_law_cell","_law_field_here"]) (src:=[none,some 5]) (zV.free (O:=(ze zeU).names) (XN:=["_law_script","_law_pick","_law_rows","_law_clears","_law_first","_law_field_here","_law_due_here","_law_turn","_law_found","_law_some"]) rfl rfl ⟨_,rfl⟩ rfl rfl (by decide+kernel) (by decide+kernel) (by decide+kernel) rfl (by decide+kernel)) rfl (zR (qu qB (pvS 8) zh (λ_ _=>rfl))) (λ_ _ _ _ _=>(zv (i:=0) (by show W6 (["_law_cell","_law_field_here"]:AE);decide+kernel) rfl (XI rfl))) (λ_ _ _ _ _=>(qN (zG (jF (K:=K) (by rfl) I.units) (pvS 0) (pc0 (zbi T Jd qD zw zq) I Jd (za (pvS 1) zb)) (by rfl)))) (λ_ _ _ _ _=>(pvS 0))) (@qo _ _ _ _ zb) (zU _)) (zpL (zaC ZF (zB ST.call_lenS (by rfl) T.qX Xf (za (jq (ST.zeJ I.units I.hd) (by rfl) T.zpk OY (za (qu qB (pvS 8) zh (λ_ _=>rfl)) zb)) zb)) (zB zE (by rfl) T.qX Xf (za (qu qB (pvS 8) zh (λ_ _=>rfl)) zb)) (zU _)))))))))))))))))),?_⟩;(try dsimp only[cxK,cxP,cxW]);refine⟨_,rfl,a,ns,_,rfl,hS,by decide,λpk=>?_⟩;refine⟨_,rfl,a,ns,20,rfl,hS,by decide,by decide,λl g H1 _ a2 s1 R hm=>?_⟩;refine⟨fun G Y=>∃(l:Addr) (g:AE),G=[some (.ref a),some (.int pk),some (.ref l),none,none,none,none,none,none,none]/\zu H Y/\Y l=some (.lst (g.map V.str))/\Rows fdS.cps.toList g/\(jD g).length<=63/\(pk%4=1->znm g),?_,?_⟩
  .refine⟨_,rfl,_,_,rfl,rfl,(by show (0:Int)<4;decide),rfl,_,rfl,?_⟩;by_cases h1:pk%4=1
   .exact jX (br (by rw[h1])) ⟨_,rfl,a,ns,rfl,s1.seq hS,λl2 bj H2 _ ac s2 R2 f2 cr=>⟨l2,bj,rfl,s1.trans s2,ac,R2,f2,λ_=>cr⟩⟩
   .exact jA (bf λz=>h1 (V.int.inj z)) ⟨l,g,rfl,s1,a2,R,zrd R hm,λz=>absurd z h1⟩
  clear hm R a2 s1;refine λG H2=>fk λl g=>eK λz0 s2 ac R few cr=>?_;subst z0;refine⟨_,rfl,l,g,".",_,rfl,ac,R,λdc U H3 _ ao B s3=>?_⟩;rw[zkV R]at B;have wl:=B.length;refine⟨_,rfl,ZP,λe0 ax=>?_⟩;have z4:=zd (o:=.lst []) ax;refine dI (.list ((jD g).map zp)) (.list []) (.lst (SqL.of (z4 _ _ ao)) (zck (B.mono z4))) (.lst (SqL.of zc) .nil) (zin _ []) ⟨_,rfl,?_⟩;by_cases ae:jD g=[]
  .exact jX ((QU _).trans (br ae)) (k _)
  refine jA ((QU _).trans (bf ae)) ?_;have M:=z4 _ _ ao;have B:=B.mono z4;have s4:=s2.trans (s3.trans z4);have hl:=(s3.trans z4) _ _ ac;generalize upd H3 e0 (.lst [])=H4 at *
  clear z4 s2 s3 ac ao ax;have lp:=Td.mpr ae;have bo:U ≠ []:=λe=>by
   rw[e]at wl;have:(jD g).length=0:=wl.symm;lia
  have m0:=Wr (pk/4) (show ((U.length:Nat):Int)≠0 by lia);have m1:=Wv (pk/4) (show (0:Int)<((U.length:Nat):Int) by lia);have ak:(pk/4%((U.length:Nat):Int)).toNat<U.length:=by lia
  refine eE (λc av=>eE λca hv aa=>?_) (Cel.get B (X2 ak));refine⟨_,rfl,_,rfl,_,_,rfl,rfl,jE.small (by decide) (by decide),_,rfl,dc,_,rfl,.inl (SqL.of M),_,_,rfl,rfl,(by show (0:Int)<((U.length:Nat):Int);lia),dc,U,_,_,rfl,rfl,SqL.of M,Zw m0 (X2 ak),?_⟩;rw[hv];have hc:=X7 av;refine⟨fun G Y=>∃(ca:Addr) (c:AA),G=[some (.ref a),some (.int pk),some (.ref l),some (.ref dc),some (.ref ca),none,none,none,none,none]/\zu H4 Y/\Y ca=some (.tup [.int (c.1:Nat),.int (c.2:Nat)])/\c∈jD g,?_,?_⟩
  .refine⟨_,rfl,_,_,rfl,rfl,(by show (0:Int)<4;decide),rfl,_,rfl,?_⟩;by_cases h1:pk%4=1
   .refine jX (br (by rw[h1])) ?_;refine⟨_,rfl,_,_,rfl,rfl,jE.small (by decide) (by decide),_,_,rfl,rfl,(by show (0:Int)<3;decide),_,_,rfl,rfl,_,rfl,zch (λ_=>?_) (λ_=>⟨ca,c,rfl,zu.refl _,aa,hc⟩)⟩;obtain⟨v0,a4⟩:∃v0,U[0]?=some v0:=⟨_,X2 (show 0<U.length by lia)⟩;obtain⟨v1,a5,aQ⟩:=znr bo;refine eE (λc0 af=>eE λa0 z0 aq=>?_) (Cel.get B a4);subst z0;obtain⟨i1,aO,e1⟩:=List.mem_iff_getElem.mp aQ;refine eE (λc1 ag=>eE λa1 e2 ar=>?_) (Cel.get B (X2 aO));rw[e1]at e2;subst e2;have af:=X7 af;have ag:=X7 ag;have ap:atI U 0=some (.ref a0):=Zw (by decide) a4;refine⟨_,rfl,dc,U,0,_,rfl,rfl,SqL.of M,ap,_,rfl,1,rfl,dc,U,_,_,rfl,rfl,SqL.of M,a5,J2,λy hy=>?_⟩;have z5:=zd (o:=.lst [.ref a0,.ref a1]) hy;have ai:=z5 _ _ M;refine⟨_,rfl,a,ns,_,rfl,(s4.trans z5).seq hS,by decide,λg0=>?_⟩;obtain⟨v,hv,ho⟩:=zh2 (v0:=V.ref a0) (v1:=V.ref a1) (g0/128);refine⟨_,_,rfl,rfl,jE.small (by decide) (by decide),_,_,rfl,rfl,(by show (0:Int)<2;decide),y,_,_,v,rfl,rfl,SqL.of zc,hv,?_⟩;have bm:∃(b:Addr) (d:AA),v=.ref b/\upd H4 y (.lst [.ref a0,.ref a1]) b=some (.tup [.int (d.1:Nat),.int (d.2:Nat)])/\d∈jD g/\∃d'∈jD g,(c0.2:Int)+(c1.2:Int)-(d.2:Int)=(d'.2:Int):=by
     rcases ho with e | e
     .exact⟨a0,c0,e,z5 _ _ aq,af,c1,ag,by lia⟩
     .exact⟨a1,c1,e,z5 _ _ ar,ag,c0,af,by lia⟩
    revert bm;refine eU λb d z0 hb hd=>eE λd' aN ed=>?_;subst z0;refine⟨_,rfl,a,ns,_,rfl,(s4.trans z5).seq hS,by decide,λg1=>⟨_,_,rfl,rfl,jE.small (by decide) (by decide),_,_,rfl,rfl,(by show (0:Int)<2;decide),?_⟩⟩;refine⟨_,rfl,a,ns,_,rfl,(s4.trans z5).seq hS,by decide,λg2=>⟨_,_,rfl,rfl,jE.small (by decide) (by decide),_,_,rfl,rfl,(by show (0:Int)<2;decide),rfl,_,rfl,zch (λ_=>?_) (λ_=>⟨b,d,rfl,z5,hb,hd⟩)⟩⟩;refine⟨_,rfl,b,_,0,_,rfl,rfl,SqT.of hb,rfl,_,rfl,dc,U,0,_,rfl,rfl,SqL.of ai,ap,a0,_,1,_,rfl,rfl,SqT.of (z5 _ _ aq),rfl,_,rfl,1,rfl,dc,U,_,_,rfl,rfl,SqL.of ai,a5,a1,_,1,_,rfl,rfl,SqT.of (z5 _ _ ar),rfl,_,_,rfl,rfl,_,rfl,b,_,1,_,rfl,rfl,SqT.of hb,rfl,_,_,rfl,rfl,J2,λt ht=>?_⟩;refine⟨t,(d.1,d'.2),rfl,z5.trans (zd ht),?_,cr h1 d hd d' aN⟩;rw[zc,ed]
   .exact jA (bf λz=>h1 (V.int.inj z)) (QW ⟨ca,c,rfl,zu.refl _,aa,hc⟩)
  clear hc aa hv av ak m0 m1 cr;refine λG H5=>eU λca c z0 s5 aa hc=>?_;subst z0;refine⟨_,rfl,l,_,rfl,.inl (SqL.of (s5 _ _ hl)),λh0 az=>(dI h0 g rfl zc R (λfo ay=>?_))⟩;have z6:=(zd (o:=.lst (g.map V.str)) az).trans (zd (o:=.lst (g.map V.str)) ay);have J:upd (upd H5 h0 (.lst (g.map V.str))) fo (.lst (g.map V.str)) fo=some (.lst (g.map V.str)):=zc;have aP:=z6 _ _ (s5 _ _ hl);have aw:=z6 _ _ (s5 _ _ M);have au:=(B.mono s5).mono z6;have ab:=z6 _ _ aa;generalize upd (upd H5 h0 (.lst (g.map V.str))) fo (.lst (g.map V.str))=H6 at *
  clear ay az z6 s5 s4 hl M B aa;have rl:Wp (.list (g.map VW))=true:=(znp R).l1;refine⟨_,rfl,_,rfl,_,rfl,fo,dc,ca,g,c,U,rfl,J,R,aw,au,ab,hc,λhn H7 s7=>?_,λwd cs hw t r p lb ws H7 A7 s7=>?_⟩
  .refine⟨2,(dN rfl (by decide) (by decide) ?_)⟩;refine jC (lo:=0) (n:=2) (λi σ Y=>∃(v7 v8 v9:Option V),σ=[some (.ref a),some (.int pk),some (.ref l),some (.ref dc),some (.ref ca),some (.ref fo),some .non,v7,v8,v9]/\zu H7 Y) ⟨_,_,_,rfl,zu.refl _⟩ ?_ ?_
   .refine λi σ H8 hi=>eX λv7 v8 v9 z0 s8=>?_;subst z0;have L:=s7.trans s8;refine⟨_,rfl,_,rfl,fo,ca,g,c,rfl,L _ _ J,R,L _ _ ab,hc,λ_ t b H9 ht hb s9=>?_,λw cs hw=>absurd (hn.symm.trans hw) (by intro z;cases z)⟩;refine dH t rfl (SqT.of ht) rfl rfl rfl rfl ?_;refine⟨_,rfl,rfl,_,rfl,jX (br rfl) ?_⟩;refine⟨_,rfl,rfl,_,rfl,jA (by rw[br rfl];rfl) ?_⟩;refine⟨_,rfl,J2,λx1 al=>⟨sz_1,λx2 a7=>(dB x2 8 (d8 rfl rfl zc (by decide) (dF (by decide) (by show 8<=Xz;decide) (λx3 a8=>(dB x1 x3 (dO rfl rfl (zd a8 _ _ (zd a7 _ _ zc)) zc (by show 10<=Xz;decide) (λx4 aU=>?_)))))))⟩⟩;have z:=(zd (o:=.lst [.bl true,.bl true]) al).trans ((zd a7).trans ((zd a8).trans (zd (o:=.lst ([V.bl true,V.bl true]++(WV (Int.toNat 8) [V.bl false]).flatten)) aU)));refine dI (.list (zo0.map UC)) (.list (zo0.map UC)) (.lst (SqL.of (z _ _ hb)) (zga zo0)) (.lst (SqL.of zc) (zga zo0)) ⟨rfl,rfl,by decide⟩ ⟨_,rfl,jA (zcI rfl) ?_⟩;exact⟨_,_,_,rfl,s8.trans (s9.trans z)⟩
   .rintro σ H8 ⟨v7,v8,v9,rfl,s8⟩;exact⟨_,rfl,rfl,_,rfl,jX (br rfl) (k _)⟩
  .have dw:=zhw R (Drw.one hc) hw;have a6:=zhA hw;refine⟨2,(dN rfl (by decide) (by decide) ?_)⟩;refine jC (lo:=0) (n:=2) (λi σ Y=>∃(v7 v9:Option V) (u r p lb:Addr) (ws:AF) (v8:Option V),σ=[some (.ref a),some (.int pk),some (.ref l),some (.ref dc),some (.ref ca),some (.ref fo),some (.ref t),v7,v8,v9]/\zu H7 Y/\(0<i->v8=some (.ref u)/\zag Y u r p lb ws g wd cs)) (dG (dD 0 0 0 0 (dR [] rfl (zu.refl _) (λz=>absurd z (by decide))))) ?_ ?_
   .refine λi σ H8 hi=>e8 λv7 v9 _ _ _ _ _ v8=>eF λz0 s8 _=>?_;subst z0;have L:=s7.trans s8;refine⟨_,rfl,_,rfl,fo,ca,g,c,rfl,L _ _ J,R,L _ _ ab,hc,λhn=>absurd (hn.symm.trans hw) (by intro z;cases z),λw' b6 aT t2 u r2 p2 aB b ah H9 aS hb A9 s9=>?_⟩;have ew:=Option.some.inj (hw.symm.trans aT);cases ew;have aD:=L.trans s9;refine dH t2 rfl (SqT.of aS) rfl rfl rfl rfl ?_;refine⟨_,rfl,rfl,_,rfl,jA (bf λz=>nomatch z) ?_⟩;refine⟨_,rfl,ZP,λx1 al=>?_⟩;have z:=zd (o:=.lst []) al;refine dI (.list []) (.list []) (.lst (SqL.of (z _ _ hb)) .nil) (.lst (SqL.of zc) .nil) ⟨rfl,rfl,by decide⟩ ⟨_,rfl,jA (zcI rfl) ?_⟩;have m:=A9.mono z;refine⟨_,rfl,_,"tuple","tuple",true,rfl,.tup m.tp,(by decide+kernel),true,rfl,QW ?_⟩;refine⟨_,rfl,_,rfl,rD g wd cs,rD g wd cs,m.rdv,(A7.mono (s8.trans (s9.trans z))).rdv,znq R a6 cs,_,rfl,jA (zcI (znq R a6 cs).l1) ?_⟩;refine⟨_,rfl,_,rfl,.list (g.map VW),.list (g.map VW),.lst (SqL.of ((aD.trans z) _ _ J)) (zaF g),.lst (SqL.of ((aD.trans z) _ _ aP)) (zaF g),znp R,_,rfl,jA (zcI rl) ?_⟩;exact dG (dD u r2 p2 aB (dR ah rfl (s8.trans (s9.trans z)) (λ_=>⟨rfl,m⟩)))
   .refine λσ H8=>e8 λv7 v9 u r2 p2 aB ah v8=>eF λz0 s8 hu=>?_;subst z0;obtain⟨rfl,A8⟩:=hu (by decide);have L:=s7.trans s8;refine⟨_,rfl,rfl,_,rfl,jA (bf λz=>nomatch z) ?_⟩;refine⟨_,rfl,u,_,1,_,rfl,rfl,SqT.of A8.tp,rfl,r2,rfl,⟨_,SqL.of A8.rw⟩,λy hy=>?_⟩;refine qw (K:=K) (a:=r2) (xs:=ah) (λi G Y=>∃u0,G=[u0,some (.ref fo)]/\zu H8 Y/\Y y=some (.lst [])) ⟨_,rfl,zd hy,zc⟩ (λi G Y _ ⟨_,_,s9,_⟩=>SqL.of (s9 _ _ A8.rw)) ?_ ?_
    .rintro i x G H9 hx ⟨u0,rfl,s9,am⟩;obtain⟨d,hd,rd⟩:=Cel.get (A8.cel.mono s9) hx;refine⟨_,rfl,_,rfl,fo,g,rfl,(L.trans s9) _ _ J,R,λsa wa aj _ aR ka an=>?_⟩;have ka:Cel aj wa (stC g):=ka;have bg:d ∉ stC g:=λhs=>by
      obtain⟨i,j⟩:=d;obtain⟨t1,k1,q1,q2,q3⟩:=xg.mp (dw.sub _ (X7 hd));obtain⟨t2,k2,g1,g2,g3⟩:=xg.mp hs;rw[q1]at g1;cases g1;rw[q2]at g2;cases g2;have:=bh (W7.mp q3).2;have:=bh (W7.mp g3).2;lia
     have aC:Ji aj x d:=let ⟨ya,e,h⟩:=rd;⟨ya,e,an _ _ h⟩
     exact dB (zp d) ((stC g).map zp) (dM (Ji.rdv aC) (.lst (SqL.of aR) (zck ka)) rfl (zbO _) (by show 1<=60;decide) ⟨_,rfl,jA ((zq6 _ d).trans (bf bg)) ⟨_,rfl,s9.trans an,an _ _ am⟩⟩)
    rintro G H9 ⟨u0,rfl,s9,am⟩;refine⟨ZP,λy0 aV=>?_⟩;have aE:=zd (o:=.lst []) aV;refine dI (.list []) (.list []) (.lst (SqL.of (aE _ _ am)) .nil) (.lst (SqL.of zc) .nil) ⟨rfl,rfl,by decide⟩ ⟨_,rfl,jX (zo1 rfl) ?_⟩;have m:=A8.mono (s9.trans aE);generalize upd H9 y0 (.lst [])=aj at *
    refine⟨_,rfl,u,_,1,_,rfl,rfl,SqT.of m.tp,rfl,r2,ah,cs.map toI,rfl,SqL.of m.rw,m.cel.tup2,λp hp=>?_,λq nd hq=>?_,λd ks hd b7 nd a3=>?_⟩
    .obtain⟨x,hx,rfl⟩:=XA.mp hp;have:=QT R (dw.sub x hx);unfold toI ST.InB;lia
    .have:=nd.length_le_of_subset hq;rw[X9]at this;have:=dw.len;lia
    have kl:ks.length=cs.length:=by
     have e:=((V3 nd (zmn dw.nd)).mpr a3).length_eq;rw[X9,X9]at e;exact e
    have cl:=dw.len;have bn:=m.cel.length;have aF:=zd (o:=ST.zc8 P w d ks) hd;refine dI d ks rfl zc (by lia) ⟨_,rfl,u,_,1,_,rfl,rfl,SqT.of (aF _ _ m.tp),rfl,r2,_,rfl,.inl (SqL.of (aF _ _ m.rw)),rfl,?_⟩;rw[kl,bn,br rfl];exact k _
def all_mk {l:Pb}{w:Xe}{K:X5}{h:Heap}{mg:Str->Option Y1}{fa:Addr}{L:Tok}{M:Tok}{j:Tok}{N:Tok}{O:Tok}{Q:Tok}{U:Tok}{Y:Tok}{aa:Tok}{ab:Tok}{m:Tok}{jai:Addr}{jaj:Addr}{jad:Addr}{jaa:Addr}{jac:Addr}{jab:Addr}{jah:Addr}{jaf:Addr}{jae:Addr}{jag:Addr}(X:K.In h)(G:h.Ns XY mg)(n:mg "law"=some (.ref fa))
  (Ye:HasDef K "board_of" Yy)
  (yI:HasDef K "checked_rows" yU)
  (J4:HasDef K "check_row" Zj)
  (aG:HasDef K "closed" ZT)
  (Jk:HasDef K "open_cells" jb)
  (aH:HasDef K "around" yV)
  (J5:HasDef K "number_at" x6)
  (aI:HasDef K "opened" Qk)
  (Yg:HasDef K "cells_of" qv)
  (Qv:HasDef K "sign_at" qH)
  (Yh:HasDef K "field_of" Yz)
  (J6:HasDef K "stones_of" Zk)
  (J7:HasDef K "clears_of" Zl)
  (Jl:HasDef K "cells_with" jJ)
  (Yi:HasDef K "board_at" JW)
  (aO:HasDef K "parts" zcE)
  (aJ:HasDef K "joined" ZU)
  (aW:HasDef K "far" zgV)
  (Jm:HasDef K "numbers_of" yW)
  (Jo:HasDef K "bare_wrong" yp)
  (yt:HasDef K "closed_around" qT)
  (yJ:HasDef K "part_layings" jm)
  (Yj:HasDef K "needs_at" JX)
  (Qw:HasDef K "may_fit" ZV)
  (xA:HasDef K "part_counts" xP)
  (Qx:HasDef K "counted" ZW)
  (Jp:HasDef K "counted_at" yX)
  (Qy:HasDef K "choices" QF)
  (aK:HasDef K "poured" zaY)
  (xB:HasDef K "near_counts" yr)
  (aP:HasDef K "count" zcF)
  (yh:HasDef K "counts_by_cell" jh)
  (Jq:HasDef K "all_poured" Jz)
  (aQ:HasDef K "dealt" zaZ)
  (Yk:HasDef K "fraction" YA)
  (jH:HasDef K "greatest_divisor" jn)
  (aM:HasDef K "shares" Ql)
  (Jr:HasDef K "some_count" JA)
  (aT:HasDef K "sure" zbL)
  (Yl:HasDef K "asked_by" zdm)
  (Ym:HasDef K "known_of" zdn)
  (xC:HasDef K "still_asked" Q5)
  (aN:HasDef K "gained" zgW)
  (Qz:HasDef K "settled" zeT)
  (Yn:HasDef K "thoughts" zdo)
  (J8:HasDef K "all_steps" zb4)
  (xD:HasDef K "place_lists" Q6)
  (Js:HasDef K "first_step" za0)
  (aX:zcB K "run" zb2 "sure")
  (xE:HasDef K "found_clear" xQ)
  (xF:HasDef K "_law_cell_at" jR)
  (J9:HasDef K "_law_mixed" x8)
  (Za:HasDef K "_law_field" Zm)
  (Jt:HasDef K "_law_corner" JB)
  (Zb:HasDef K "_law_cells" Zn)
  (Yo:HasDef K "_law_safe" YB)
  (QA:HasDef K "_law_due" QG)
  (Yp:HasDef K "_law_told" YC)
  (aY:HasDef K "law" zeU)
  (Ju:XU K XY "ValueError"=some none)
  (aZ:XU K XY "abs"=some none)
  (ba:XU K XY "any"=some none)
  (aU:XU K XY "dict"=some none)
  (Zc:XU K XY "enumerate"=some none)
  (bb:XU K XY "int"=some none)
  (Jv:XU K XY "isinstance"=some none)
  (bc:XU K XY "len"=some none)
  (aV:XU K XY "list"=some none)
  (be:XU K XY "max"=some none)
  (bg:XU K XY "min"=some none)
  (aR:XU K XY "range"=some none)
  (bi:XU K XY "set"=some none)
  (aF:XU K XY "sorted"=some none)
  (bj:XU K XY "str"=some none)
  (bm:XU K XY "sum"=some none)
  (aS:XU K XY "tuple"=some none)
  (bn:XU K XY "zip"=some none)
  (bo:XU K XY "ALL"=some (some (.str "all" L)))
  (xG:XU K XY "BOARD_SIGNS"=some (some (.str "?012345678#" M)))
  (Jw:XU K XY "CLEAR_SIGN"=some (some (.str "." j)))
  (g:j≠0) (b:j<448)
  (xH:XU K XY "CLOSED_SIGN"=some (some (.str "?" N)))
  (xJ:XU K XY "FIELD_SIGNS"=some (some (.str ".o#" O)))
  (yK:XU K XY "LONGEST_SIDE"=some (some (.int 8 Q)))
  (yL:XU K XY "MOST_OF_PART"=some (some (.int 14 U)))
  (xK:XU K XY "MOST_STONES"=some (some (.int 64 Y)))
  (xM:XU K XY "MOST_THINGS"=some (some (.int 30 aa)))
  (yM:XU K XY "NO_CELL_SIGN"=some (some (.str "#" ab)))
  (Jx:XU K XY "STONE_SIGN"=some (some (.str "o" m)))
  (i:m≠0) (d:m<448)
  (I:XU K XY "StoneError"=some (some (.ref jai)))
  (al:WG K jai Jj "ValueError.__new__"=true)
  (J:XU K XY "TooGreat"=some (some (.ref jaj)))
  (am:WG K jaj Jj "ValueError.__new__"=true)
  (a5:XU K XY "NoLaying"=some (some (.ref jad)))
  (ag:WG K jad Jj "ValueError.__new__"=true)
  (a2:XU K XY "NoBoard"=some (some (.ref jaa)))
  (ac:WG K jaa Jj "ValueError.__new__"=true)
  (a4:XU K XY "NoCount"=some (some (.ref jac)))
  (af:WG K jac Jj "ValueError.__new__"=true)
  (a3:XU K XY "NoCell"=some (some (.ref jab)))
  (ae:WG K jab Jj "ValueError.__new__"=true)
  (H:XU K XY "NoText"=some (some (.ref jah)))
  (ak:WG K jah Jj "ValueError.__new__"=true)
  (a7:XU K XY "NoRow"=some (some (.ref jaf)))
  (ai:WG K jaf Jj "ValueError.__new__"=true)
  (a6:XU K XY "NoNumber"=some (some (.ref jae)))
  (ah:WG K jae Jj "ValueError.__new__"=true)
  (E:XU K XY "NoTable"=some (some (.ref jag)))
  (aj:WG K jag Jj "ValueError.__new__"=true)
  (ao:Vy K (.ref jaj) "__getattribute__"=some (some (.builtin "BaseException.__getattribute__")))
  (o:Vy K (.ref jaj) "__getattr__"=some none)
  (A:Vy K (.ref jaj) "__class__"=some (some (.builtin "object.__class__")))
  (B:Wn K jaj (.type "BaseException")=some true)
  (a8:Wn K jaj (.type "object")=some true)
  (a9:SY K jaj=true)
  (aA:Wn K jaj (.ref jai)=some true)
  (aB:Xg K (.ref jaj) (.ref jaj)=some true)
  (aC:Xg K (.ref jaj) (.ref jad)=some false)
  (aD:Xg K (.ref jaj) (.ref jaa)=some false)
  (p:Xg K (.ref jaj) (.ref jac)=some false)
  (q:Xg K (.ref jaj) (.ref jab)=some false)
  (r:Xg K (.ref jaj) (.ref jah)=some false)
  (u:Xg K (.ref jaj) (.ref jaf)=some false)
  (x:Xg K (.ref jaj) (.ref jae)=some false)
  (y:Xg K (.ref jaj) (.ref jag)=some false)
  (z:Xg K (.ref jaj) (.type "ValueError")=some true)
  (aE:Wn K jaj (.ref jaj)=some true) :
  ∃fd:XM,(∀(s:X8) (v:Y1),OD s fd ⟨[v],[]⟩ [("_law_script",v)])/\∀base:Heap,K.In base->base.Ns XY mg->yR 448 l.prog w K mg base CX0 14 fa fd ["_law_script"] (zjO K):=by
 revert aY;refine e8 λf oc od an sl kV dc pm=>eU λcd ct a l0 c k=>?_;have e:=n.symm.trans (WR X G a);cases e;have T:Txt mg:=⟨WT X G Ju,WT X G aZ,WT X G ba,WT X G aU,WT X G Zc,WT X G bb,WT X G Jv,WT X G bc,WT X G aV,WT X G be,WT X G bg,WT X G aR,WT X G bi,WT X G aF,WT X G bj,WT X G bm,WT X G aS,WT X G bn,⟨_,WR X G bo⟩,⟨_,WR X G xG⟩,⟨_,WR X G Jw,g,b⟩,⟨_,WR X G xH⟩,⟨_,WR X G xJ⟩,⟨_,WR X G yK⟩,⟨_,WR X G yL⟩,⟨_,WR X G xK⟩,⟨_,WR X G xM⟩,⟨_,WR X G yM⟩,⟨_,WR X G Jx,i,d⟩⟩;have Z:Prog K mg:=⟨Ye.at X G,yI.at X G,J4.at X G,aG.at X G,Jk.at X G,aH.at X G,J5.at X G,aI.at X G,Yg.at X G,Qv.at X G,Yh.at X G,J6.at X G,J7.at X G,Jl.at X G,Yi.at X G,aO.at X G,aJ.at X G,aW.at X G,Jm.at X G,Jo.at X G,yt.at X G,yJ.at X G,Yj.at X G,Qw.at X G,xA.at X G,Qx.at X G,Jp.at X G,Qy.at X G,aK.at X G,xB.at X G,aP.at X G,yh.at X G,Jq.at X G,aQ.at X G,Yk.at X G,jH.at X G,aM.at X G,Jr.at X G,aT.at X G,Yl.at X G,Ym.at X G,xC.at X G,aN.at X G,Qz.at X G,Yn.at X G,J8.at X G,xD.at X G,Js.at X G,zq4 aX X G,xE.at X G,xF.at X G,J9.at X G,Za.at X G,Jt.at X G,Zb.at X G,Yo.at X G,QA.at X G,Yp.at X G⟩;have F:=zlf (st:=zeU) l0 c k;have D:zj K mg "law" zeU ["_law_script"] _ _:=⟨F,WR X G a,F.binds (ps:=["_law_script"]) (λ_ _ _ _ _ _=>us1 λ_=>rfl)⟩;have az:qi K mg "StoneError" jai:=⟨WR X G I,al⟩;have a1:qi K mg "TooGreat" jaj:=⟨WR X G J,am⟩;have au:qi K mg "NoLaying" jad:=⟨WR X G a5,ag⟩;have ap:qi K mg "NoBoard" jaa:=⟨WR X G a2,ac⟩;have ar:qi K mg "NoCount" jac:=⟨WR X G a4,af⟩;have aq:qi K mg "NoCell" jab:=⟨WR X G a3,ae⟩;have ay:qi K mg "NoText" jah:=⟨WR X G H,ak⟩;have aw:qi K mg "NoRow" jaf:=⟨WR X G a7,ai⟩;have av:qi K mg "NoNumber" jae:=⟨WR X G a6,ah⟩;have ax:qi K mg "NoTable" jag:=⟨WR X G E,aj⟩;have FG:Facts K jaj jai jaj jad jaa jac jab jah jaf jae jag true false:=⟨⟨ao,o,A,B,a8,a9⟩,aA,aB,aC,aD,p,q,r,u,x,y,z⟩;have FT:Wn K jaj (.ref jaj)=some true:=aE;exact⟨_,λs v=>.of_eq rfl,λbase _ _=>zre T az a1 au ap ar aq ay aw av ax FG FT Z D⟩
def walk {l:Pb}{q:Xr}{loose:AE}{XP:(Str->Option Y1)->Heap->Prop}{YP:Xe->Heap->Prop}{d:Oh}{K:NW->X5}(j:l.most=some 63)(b:d.params.defaults=[])
  (g:∀(w:Xe) (h:Heap),YP w h->(K w.params).In h)
  (F:∀(w:Xe) (mg:Str->Option Y1) (c:Addr) (h:Heap),(K w.params).In h->h.Ns XY mg->mg d.name=some (.ref c) ->
   ∃fd:XM,(∀(s:X8) (u:Y1),OD s fd ⟨[u],[]⟩ [("_law_script",u)])/\∀base:Heap,(K w.params).In base->base.Ns XY mg->yR 448 l.prog w (K w.params) mg base CX0 14 c fd ["_law_script"] (zjO (K w.params))) :
  zcJ 448 q loose XP YP l.row.toRowW d [] (λf vs=>PySem.call f vs) :=
 L2.zl1 (n:=63) (k:=14) (x:="_law_script") (CX:=λ_=>CX0) (sp:=λw=>zjO (K w.params)) j (by decide) b ⟨rfl,by decide,by decide⟩ g F (λ_ _ a m i _ e=>⟨a,m,rfl,e,i,λ_=>rfl⟩) λ_ _ _ _ _ z=>z
end K64
open PySem PySem.W PyProof.Rows
set_option maxRecDepth 100000 in
set_option maxHeartbeats 0 in
theorem PySem.Challenge.cw_stonelay_k64_whole_runs_by_what_is_sure_holds : PySem.Challenge.rw_stonelay_k64_whole_runs_by_what_is_sure.Holds := by
 refine JN.early λ{q XP YP d K} hdf hY hn F=>?_;refine K64.walk (l:=PySem.Challenge.rw_stonelay_k64_whole_runs_by_what_is_sure) rfl hdf hY λw mg fa h KX G hmg=>?_;rw[hn]at hmg;refine L2.GS.via λGG hGG=>?_;obtain⟨Ye,yI,J4,zat,Jk,zau,J5,zav,Yg,Qv,Yh,J6,J7,Jl,Yi,zcn,zaw,ziI,Jm,Jo,yt,yJ,Yj,Qw,xA,Qx,Jp,Qy,zax,xB,zco,yh,Jq,zcp,Yk,jH,zay,Jr,zfg,Yl,Ym,xC,zaz,Qz,Yn,J8,xD,Js,ziJ,xE,xF,J9,Za,Jt,Zb,Yo,QA,Yp,ziK,Ju,ziL,ziM,zfh,Zc,ziN,Jv,ziO,zfi,ziP,ziQ,zcq,ziR,zaA,ziS,ziT,zcr,ziU,⟨_,ziV⟩,⟨_,xG⟩,⟨_,Jw,tz_CLEAR_SIGN,tl_CLEAR_SIGN⟩,⟨_,xH⟩,⟨_,xJ⟩,⟨_,yK⟩,⟨_,yL⟩,⟨_,xK⟩,⟨_,xM⟩,⟨_,yM⟩,⟨_,Jx,tz_STONE_SIGN,tl_STONE_SIGN⟩,⟨_,_,_,_,_,_,_,_,_,_,jaC,jaD,jax,jau,jaw,jav,jaB,jaz,jay,jaA,jaX,jaY,jaS,jaP,jaR,jaQ,jaW,jaU,jaT,jaV,jaZ,ja0,ja8,ja9,jba,jbb,jbc,jbd,jbe,jbf,ja1,ja2,ja3,ja4,ja5,ja6,ja7,jbg⟩⟩:=F w;refine hGG ?_;exact K64.all_mk KX G hmg Ye yI J4 zat Jk zau J5 zav Yg Qv Yh J6 J7 Jl Yi zcn zaw ziI Jm Jo yt yJ Yj Qw xA Qx Jp Qy zax xB zco yh Jq zcp Yk jH zay Jr zfg Yl Ym xC zaz Qz Yn J8 xD Js ziJ xE xF J9 Za Jt Zb Yo QA Yp ziK Ju ziL ziM zfh Zc ziN Jv ziO zfi ziP ziQ zcq ziR zaA ziS ziT zcr ziU ziV xG Jw tz_CLEAR_SIGN tl_CLEAR_SIGN xH xJ yK yL xK xM yM Jx tz_STONE_SIGN tl_STONE_SIGN jaC jaX jaD jaY jax jaS jau jaP jaw jaR jav jaQ jaB jaW jaz jaU jay jaT jaA jaV jaZ ja0 ja8 ja9 jba jbb jbc jbd jbe jbf ja1 ja2 ja3 ja4 ja5 ja6 ja7 jbg