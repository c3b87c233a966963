import PyProof.Rows.All
import Wide.All
import OpenK.AllK
import Wide.FinOn
import Lean
import PyProof.EqAt
import PyProof.EqKinds
import PyProof.TupleCall
import PySem.Challenge.RW_leastterms_k86_smooth_forms_looked_over
noncomputable section
set_option Elab.async false
set_option compiler.extract_closed false
set_option linter.all false
set_option autoImplicit true
set_option relaxedAutoImplicit true
set_option maxRecDepth 100000
open PySem renaming wpAny_bind->aa,Value->ae,Addr->af,Shared->ag,wpAny_pure->aj,wpAny->am,model->av,starEach->aD,Program->aH,World->aP,Expr->aQ,Heap->aT,Around->aW,bootBuiltins->a9,wpAny_field->be,rawInt->bj,wpAny_newObj_type->bt,wpAny_setField_rec->bu,mainGlobals->bD,mem_of_lookup->bE,wpAny_callSpecial?_slot->bF,wpAny_call_entry->bJ,cellsFrom->bW,wpAny_holding->cb,Comprehension->cq,compareOp->cw,Scope->cF,Builtin->cQ,Paired->cS,NameKind->cZ,importedModules->da,Stmt->dh,binaryOp->dj,wpAny_rule->dk,foldedSetIterable->dD,wpAny_mono->dF,FuncData->dG,PyData->dP,wpAny_truthy_bool->dQ,IsPair->d0,wpAny_seqItems->en,wpAny_askSetting->eH,wpAny_setField->eJ,codeAny_mono->eS,wpAny_passesOwn->eV,wpAny_with_toks->eZ,wpAny_attempt->fh,wpAny_setState_of->fv,sizeLine_eq->fD,Arguments->fE,Keyword->fF,wpAny_execs_nil->fO,wpAny_Call_Name_kw->fP,call_meets->fQ,codeAny_builtin->fV,IsZip->fZ,IsPart->f9,wpAny_execs_cons->ge,wpAny_standAt->gg,OsState->gm,wpAny_binaryOp_repeat_ref->gC,wpAny_typeOf->gF,IsEnum->gK,assignEach->gO,typeIs_int->gP,wpAny_pyIter_list->gZ,swapsWithSole->ic,swappedStores->ie,wpAny_onRaise->ij,wpAny_isInstance->io,BindsTo->iq,ElemsOf->iw,Params->iA,Model->iC,wpAny_Name->iD,wpAny_call->iE,codeAny_of_tree->iI,pushCells_keeps->iK,wpAny_updateSeq_pair->iL,wpAny_setEntries_of->iR,wpAny_newTuple->iY,isSubtype_type->i3,wpAny_letGo->jb,concat_meets->jf,wpAny_newFunctionEnv_cells->jn,plainId_quiet->ju,wpAny_sequenceKey->jy,wpAny_pyIter_slot->jA,fits_of_scanBound->jB,noFill_tuple_add->jM,SetTable->jS,PassesOwn->j0,wpAny_updateSeq->j7,wpAny_Call_method_late->kg,wpAny_of_eq->ki,wpAny_isTrue_Compare1->ku,codeAny_call_function->kA,intText?->kE,isSubtype_stop->kG,builtinLookup_eq_fast->kL,wpAny_loadName_local->kP,typeIs_str->kS,codeAny_call_builtin->kT,seq_tuple_add->k8,evalPart_none->lc,wpAny_loadName_cell->lm,wpAny_loadName_free->lp,wpAny_pyIter_tuple->lN,pushCells->lO,seqIndex_of->mr,GenState->my,seqSlot_of->mE
open PySem.Heap renaming get?_push_of_some->ah,get?_push_size->aE,lt_size->aG,get?_update_other->br,get?_update_self->bA,size_push->bZ,SameBut->cM,size_update->ik,get?_none_of_le->iB,ExtBut->ja
open PySem.W renaming Frag->ai,kitOne->aJ,mg_none_of->bC,fnOf->bI,boot_heap->cu,mg_of->cC,InstAt->cJ,findIn->du,keepIn->dB,kla_fn->dO,codeIn->ee,exmOne->eL,cellsFrom_some->fW,nsIn->gJ,specialIn->gX,mroIn->ig,noTabs->iW,tabIn->jq,methodObj->jw,FnAt->jO,takesIn->j4,kia_one->j5,kla_obj->j6,tabObj->kF,ofPys->le,excIn->lh,recFacts_of->ll,callWith_K->lG,codeRec_of->lH,OpenLaw->lK,ofPy->lL,SharedT->lY,kitx_none->l9,kitx_bool->ma,kitx_list->md,kitx_dict->me,plainGet->mz,instObj->mM,kitAny->mS,CodeHd->mT,xl_of->m9,clsIn->ng,isFn->nu,XL->nG
open False renaming elim->ak
open List renaming getElem?_eq_some_iff->al,replicate->ao,mem_cons_of_mem->aq,length_append->ar,getElem?_eq_getElem->au,mem_cons->aw,size_toArray->az,mem_of_getElem?->aC,all_eq_true->aF,mem_cons_self->aI,getElem?_append_left->aK,length_map->aM,mem_append->aN,not_mem_nil->aR,getD_eq_getElem?_getD->aS,append_assoc->aY,getElem?_eq_none_iff->aZ,getElem?_append_right->a5,getElem?_set_ne->a8,getElem?_set_self->ba,mem_map->bb,range->bd,getElem?_map->bh,mem_append_right->bo,length_cons->bv,mem_filter->bw,length_filter_le->bB,length_take->bG,mem_range->bK,append_nil->bM,length_drop->bN,pairwise_append->bO,take_append_drop->bT,mem_of_mem_take->cf,nodup_cons->cj,contains_iff_mem->cm,map_cons->cn,getElem_mem->cr,mem_of_mem_drop->cy,length_set->cB,perm_append_comm->cG,take_sublist->cH,flatMap_cons->cI,mem_append_left->cK,pairwise_cons->cN,map_map->cO,take_of_length_le->cP,replicate_succ->cT,drop_sublist->cV,map_inj_left->cW,mem_singleton->de,length_eq_zero_iff->dg,filterMap_cons->dE,filter_cons->dI,take_length->dM,flatten_cons->dR,nil_append->dU,map_append->dW,set_set->d6,drop_drop->ei,drop_eq_getElem_cons->er,pairwise_iff_getElem->eu,find?_cons->eB,drop_append_of_le_length->eE,getElem?_replicate->eF,map_congr_left->eG,lookup_cons->eI,mem_flatMap->eN,drop_of_length_le->eQ,length_singleton->e8,nodup_append->fu,length_range->fw,length_take_le'->fC,take_succ->fH,getElem?_take_of_lt->fL,mem_reverse->fM,foldl_cons->fT,take_take->gc,set_append_right->gd,length_eraseIdx_of_lt->gj,length_nil->gz,forIn_cons->gA,lt_irrefl->gQ,eraseIdx_cons_succ->gW,reverse_cons->gY,cons_append->il,length_replicate->ir,getElem?_toArray->iu,of_mem_zip->iF,map_nil->iG,mem_iff_getElem->iH,flatMap_append->iS,mem_filterMap->je,getElem?_take->jh,getElem?_take_eq_none->jt,lt_trans->jv,extract_eq_take_drop->jH,getElem_inj->jK,any_eq_true->jN,zipIdx_cons->jP,all_eq_not_any_not->jZ,not_lt->ko,map_id->kq,filter_eq_nil_iff->kr,forIn_nil->kC,nodup_nil->kH,drop_zero->kK,any_cons->lf,all_cons->lj,getElem?_range->lq,filter_eq_self->lr,getElem_of_mem->lv,length_reverse->lA,length_take_le->lB,all_map->lQ,getElem?_drop->lR,set_cons_zero->lS,filter_append->lW,map_id'->lX,getElem_take->mi,getElem_drop->mj,reverse_perm->ml,ext_getElem?->mm,length->mq,le_antisymm->mF,getElem_map->mG,isEmpty_iff->mH,flatMap_nil->mI,map_flatMap->mJ,zipIdx_nil->mP,drop_take->mU,drop_left->mV,take_left->mW,take_zero->mY,take_add->nj
open Nat renaming le_refl->ay,le_trans->aU,lt_of_lt_of_le->aV,ne_of_lt->bi,lt_irrefl->bP,add_sub_cancel_left->bU,zero_le->cz,lt_succ_self->cD,lt_succ_of_lt->cU,succ_pos->cY,ne_of_gt->dq,zero_max->dL,le_succ->ez,le_of_lt->fK,min_eq_left->fU,le_add_right->gf,lt_of_le_of_lt->gG,sub_self->gL,le_of_ble_eq_true->iy,mul_le_mul->i6,not_lt->jG,zero_add->jR,add_assoc->li,succ_mul->lV,le_of_succ_le->l7,min_le_right->mB
open PyProof.Rows renaming wpS_bind->aA,wpS_pure->aL,KeyKind->aX,Keyed->a7,envOfC->bg,slot_tuple_getitem->bz,SortSt->b9,wpS_forRange->cE,wpS_mono->dm,callWith_type1->eR,StrsAre->fx,wpS_modify->fA,AllBare->f8,wpS_get->gq,entry_tuple_getitem->iQ,slicePart_none->iU,wpS_lift->iZ,args_tuple_getitem->jg,KK_mirror_equal->j8,subscriptTail_builtinR->j9,wpS_reverse->km,Call_->kM,Subscript_->kR,tupleItemsOf_->k9,KeysOf->lz,SortedToK->lT,IntsAre->lZ
open Array renaming length_toList->aB,getElem?_eq_getElem->aO,toList_append->bH,size_push->bX,getElem?_toList->c8,getElem?_eq_some_iff->d7,perm_iff_toList_perm->d8,toList_push->eD,size_append->f6,getElem?_setIfInBounds_self->hU,getElem_toList->iN,toList_setIfInBounds->js,size_setIfInBounds->jQ,getElem?_eq_none->kn,mk->kN,toList_extract->kX,toList_reverse->kY,append_assoc->lE,toList->lF,map->m8
open PySem.PyData renaming eqv->a0,list->d9,eqvAll->fk,tuple->gH,canLay0->iV,int->jo,depth->lP,canLayAll0->l8,depthAll->mO
open Bool renaming and_eq_true->a6,false_ne_true->bQ,eq_iff_iff->dS,false_eq_true->ef,and_eq_true_iff->fy,or_eq_true->fS,not_eq_true'->fY,not_not->jV,not_true->nt
open Ne renaming symm->bq
open PySem.Builtin.SmallTypes renaming nextOf->bL,ownedTupleIsFree->ck,ownedTupleHandOut->dJ
open PySem.Challenge renaming pw_leastterms_k86_smooth_forms_looked_over->bR,rw_leastterms_k86_smooth_forms_looked_over->bS
open Option.some renaming inj->bV
open PySem.Builtin.Str renaming occurrences->cg
open PySem.Builtin.Tuple renaming tupleExact->ci,tupleItemsOf->gh,tupleTooMany->gk,tupleIsExact->jr
open PySem.Value renaming none->cx,ref->db,isStrOf->fe,builtin->gi,isInt->g9,isStrOf_shape->iP,str->jc,type->jC,notImplemented->kW,int->lD
open PySem.Obj renaming data_mapFields->cA,isFreed_of_fields->c9,mapSeq->dN,mapFields->fi,cls_mapFields->jz,putSet->kZ
open PySem.Builtin.Slice renaming slicePlaces->cR,sliceApplied->fg,sliceAdjust->gu,sliceFields->jD
open PySem.NameKind renaming free->cX,cell->dr
open PySem.Builtin.List renaming listTooLong->dH,listLengthHint->jj,listExtendWith->jk,listSameRef->jT
open PySem.Heap.SameBut renaming update->dZ
open PySem.F renaming slot_int_rmul->eo,slot_str_ascii_iterator_next->eC,slot_enumerate_next->e9,slot_tuple_iterator_next->fj,called_set->fN,slot_tuple_mul->fX,args_tuple_add_2->gE,entry_tuple_add->gR,plainAttrs_list->gT,args_int_rmul_2->gU,slot_tuple_add->hG,slot_int_index->hV,entry_int_rmul->h9,args_str_ascii_iterator_next_1->im,fills_int_mul->ix,entry_str_ascii_iterator_next->iz,slot_zip_next->iM,args_tuple_iterator_next_1->iX,entry_tuple_iterator_next->ji,excBase_ValueError->jp,slot_dict_getitem->jE,args_tuple_mul_2->jU,args_enumerate_next_1->jW,slot_tuple_rmul->jX,entry_tuple_mul->jY,plainAttrs_str->kj,entry_enumerate_next->kl,slot_list_append->kB,slot_enumerate_iter->kI,slot_list_extend->kJ,slot_list_pop->lJ,attr_ValueError->l5,args_zip_next_1->mh,plain_list_iadd->mn,entry_zip_next->mD
open PySem.SetTable renaming below->eM,grown->fJ,fits->nr
open PyProof.Rows.F renaming plain_set_update_loop->eU,entry_set_update_loop->gM
open List.Perm renaming append_left->fc,refl->fG
open Int renaming toNat_natCast->fq,emod_lt_of_pos->gN,emod_nonneg->iO,fdiv_eq_ediv_of_nonneg->jm
open List.Pairwise renaming nil->ft
open True renaming intro->fz
open PySem.Around renaming under_plainId->fB,frames_deeper->kQ
open ForInStep renaming yield->fR
open PyProof.Rows.KeyOrd renaming kle_of_klt->f7,kle_trans->ip
open Sum renaming inl->gp,inr->jJ
open PySem.Calls renaming spliced_cons->gD,evalArgs_plain->hJ,Constant_str->jd,Name_function_global->jl,spliced_nil->jx,callWith_builtin->kh
open PySem.SetTable.below renaming go->g7
open Option renaming map_eq_some_iff->g8,map_some->iJ,none->i7,isSome_iff_exists->jL,getD_none->mC
open PySem.Builtin.ObjectAttr renaming bindTo->jF
open Classical renaming byContradiction->jI
open PySem.Builtin renaming bitAnd->kw,bitXor->kz
open Prod renaming ext->kO
open PySem.Txt renaming join->kU,slice->m7
open PySem.Paired renaming length->k7
open PySem.Code renaming compLoop->lg,compStart->mR
open PySem.EntryCells renaming newEntry->lu
open PySem.W.Hook renaming keeps->lC,obs->ms,val->mw,of->mL
open PySem.Heap.IsSliceOf renaming new->lI
open PySem.pickOrder renaming go->lU
open PySem.W.XL renaming keeps->mx
open PySem.Str renaming ofString->mK
open Array.Perm renaming refl->mQ
open PySem.Builtin.Frozenset renaming updateFrom->mX,newClass->nk,addrOf->ny,sizeOf->nB,slot0->nD
open PySem.W.WData renaming int->mZ
open PySem.Shared renaming TypeIs->nq
open PySem.SeqAt renaming shaped->nv
open PySem.W.OpenRow renaming toRowW->nE
open Prod.mk renaming inj->nF
namespace K86
open PySem PySem.W
def ty (i:Nat):dh:=bR.main.body.getD i (.Pass ⟨0,0,0,0⟩)
noncomputable def Qv:aH:={ bR with main:={ bR.main with body:=[ty 1,ty 2,ty 3,ty 4,ty 5,ty 6,ty 7,ty 8,ty 9,ty 10,ty 12,ty 13,ty 14,ty 16,ty 17,ty 18,ty 19,ty 20,ty 21,ty 23,ty 24,ty 25,ty 26,ty 27,ty 28,ty 29,ty 30,ty 31,ty 33,ty 34,ty 35,ty 36,ty 37,ty 38,ty 40,ty 41,ty 42,ty 43,ty 44,ty 46,ty 47,ty 48,ty 49,ty 50,ty 51,ty 52,ty 54,ty 55,ty 56,ty 57,ty 58,ty 59,ty 60,ty 61,ty 62,ty 63,ty 64,ty 65,ty 66,ty 67,ty 68,ty 69,ty 70,ty 71,ty 72,ty 73,ty 74,ty 75] } }
def Lv:List PySem.Str:=[mK "SWITCHES_BY_POINTS"]
noncomputable def Xv:ag → Bool:=fun s=>PySem.W.xlAt Qv [] s&&PySem.W.recOk (PySem.W.RowW.records (nE bS.row)) s
theorem bY {α β γ:Type} {x:Option α} {f:α → β} {g:α → γ} {b:β} {c:γ} (h1:x.map f=some b) (h2:x.map g=some c):x.map (fun s=>(f s,g s))=some (b,c):=by
  cases x with
  | none=>cases h1
  | some s=>
    have e1:f s=b:=bV h1
    have e2:g s=c:=bV h2
    show some (f s,g s)=_
    rw [e1,e2]
end K86
section
open PySem PySem.W PyProof.Rows
set_option maxRecDepth 100000 in
theorem K86.ws:bS.wellSaid=true:=by kernel_rfl
local macro_rules|`(tactic| o_head $H)=>`(tactic| skip)
set_option maxRecDepth 100000 in
set_option maxHeartbeats 0 in
theorem K86.hp:False → bS.Holds:=by
  intro ff
  w_on;refine PySem.W.holds_law K86.ws fun said=>?_;k_head
  all_goals exact ff.elim
end

namespace DLT
open PySem PySem.W
noncomputable def oB (tb:String → Option cQ) (p:aH) (w:aP) (m:Nat) (an:Option ae):Nat → lY → Thread → Option lY
  | 0,_,_=>none
  | k+1,a,th=>match through th with
    | true=>some a
    | false=>match stepOk m an th with
      | false=>none
      | true=>match stepT (denote tb) p w a th with
        | some (b,OC)=>oB tb p w m an k b OC
        | none=>none
theorem oH {tb:String → Option cQ} {p:aH} {w:aP} {m:Nat} {an:Option ae}:∀ {k:Nat} {a z:lY} {th:Thread},oB tb p w m an k a th=some z → topRun tb p w m an k a.abs th=some z.abs
  | 0,_,_,_,H=>by cases H
  | k+1,a,z,th,H=>by
    unfold oB at H
    unfold topRun
    cases e1:through th with
    | true=>rw [e1] at H;cases H;rfl
    | false=>
      rw [e1] at H
      cases e2:stepOk m an th with
      | false=>rw [e2] at H;cases H
      | true=>
        rw [e2] at H
        cases e3:stepT (denote tb) p w a th with
        | none=>rw [e3] at H;cases H
        | some q=>obtain ⟨b,OC⟩:=q;rw [e3] at H;rw [stepT_spec e3];exact oH H
def oI:Nat → BT → List Obj → BT
  | _,T,[]=>T
  | i,T,o::os=>oI (i+1) (T.ins i o) os
noncomputable def oC (P:iA):BT:=oI 0 .nil (cu P).objs.toList
theorem boot_abs:∀ P:iA,absHeap (oC P) (cu P).objs.size (cu P).life=cu P:=fun P=>by kernel_rfl
noncomputable def Fe (P:iA) (os:gm):lY:=⟨oC P,(cu P).objs.size,(cu P).life,kN [],boot_drawn,boot_toks,os⟩
noncomputable def s0 (P:iA) (os:gm):ag:=⟨cu P,kN [],boot_drawn,boot_toks,os⟩
theorem oM (P:iA) (os:gm):(Fe P os).abs=s0 P os:=by
  unfold Fe s0 SharedT.abs
  rw [boot_abs P]
theorem oJ:∀ P:iA,((cu P).isNs bD&&(kN []:Array my).size==0,(cu P).objs.size,(cu P).nsMap bD "__annotations__")=(true,11,some (.ref 6)):=fun P=>by kernel_rfl
noncomputable def chk (p:aH) (h:aT) (s:ag):Bool:=staticsOk (da p.main.body) h s.heap&&namesBound p s.heap&&gensDone s&&laidKept h s.heap
theorem oE {p:aH} {w:aP} {P:iA} {os:gm} {N:Nat} {α:Type} {f:ag → α} {a:α} (h:(oB treeTable p w 11 (some (.ref 6)) N (Fe P os) (topStub p)).map (fun s=>(chk p (cu P) s.abs,f s.abs))=some (true,a)):(topFrom treeTable p w N (s0 P os)).map f=some a:=by
  obtain ⟨s,e,e'⟩:=g8.mp h
  have r:=oH e
  rw [oM] at r
  obtain ⟨z1,z2,z3⟩:_ ∧ _ ∧ _:=by simpa only [Prod.mk.injEq] using oJ P
  obtain ⟨c1,c2⟩:=nF e'
  unfold topFrom
  show Option.map f (match (cu P).isNs bD&&(kN []:Array my).size==0 with
    | true=>(topRun treeTable p w (cu P).objs.size ((cu P).nsMap bD "__annotations__") N (s0 P os) (topStub p)).bind fun n_=>match chk p (cu P) n_ with
      | true=>some n_
      | false=>none
    | false=>none)=some a
  rw [z1,z2,z3,r]
  show Option.map f (match chk p (cu P) s.abs with
      | true=>some s.abs
      | false=>none)=some a
  rw [c1]
  exact congrArg some c2
theorem oO {α β γ δ:Type} {x:Option α} {f:α → β×γ} {g:α → δ} {b:β} {c:γ} {d:δ} (h1:x.map (fun s=>((f s).1,g s))=some (b,d)) (h2:x.map (fun s=>(f s).2)=some c):x.map (fun s=>(f s,g s))=some ((b,c),d):=by
  cases x with
  | none=>cases h1
  | some s=>
    obtain ⟨e1,e3⟩:=nF (bV h1)
    have e2:(f s).2=c:=bV h2
    exact congrArg some (kO (kO e1 e2) e3)
noncomputable abbrev R (p:aH) (N:Nat) (w:aP) (P:iA) (os:gm):Option lY:=oB treeTable p w 11 (some (.ref 6)) N (Fe P os) (topStub p)
theorem left_of {p q:aH} {loose:List Str} {Xt:ag → Bool} {α:Type} {Yf:ag → α} {Ya:aP → α} {N:Nat} {g0:Bool} (row:String) (e:opening p=plainProg p.main.scope.names) (hN:Nat.ble 600 N=true) (fm:∀ s,fenceModules? p s=some s)
    (ha:∀ (v:Bool) (w:aP) (os:gm),(R p N (w.withFollow row v) w.params os).map (fun s=>(chk p (cu w.params) s.abs,((openSeen q loose (da p.main.body) Xt g0 s.abs).1,Yf s.abs)))=some (true,(openGood q loose).1,Ya (w.withFollow row v)))
    (hb:∀ (v:Bool) (w:aP) (os:gm),(R p N (w.withFollow row v) w.params os).map (fun s=>(chk p (cu w.params) s.abs,(openSeen q loose (da p.main.body) Xt g0 s.abs).2))=some (true,(openGood q loose).2)):
    LeftO p q loose Xt Yf Ya N g0:=LeftO.of_split row fun w=>by
  obtain ⟨⟨h,gs,d,k,os⟩,x,y⟩:=g8.mp (boot_open e hN fm w)
  obtain ⟨rfl,rfl,rfl,rfl⟩:h=cu w.params ∧ gs=kN [] ∧ d=boot_drawn ∧ k=boot_toks:=by simpa using y
  rw [x]
  have go (v:Bool):(topFrom treeTable p (w.withFollow row v) N (s0 w.params os)).map (fun s=>(openSeen q loose (da p.main.body) Xt g0 s,Yf s))=some (openGood q loose,Ya (w.withFollow row v)):=
    oO (f:=fun s=>openSeen q loose (da p.main.body) Xt g0 s) (g:=Yf) (oE (f:=fun s=>((openSeen q loose (da p.main.body) Xt g0 s).1,Yf s)) (ha v w os)) (oE (f:=fun s=>(openSeen q loose (da p.main.body) Xt g0 s).2) (hb v w os))
  exact congrArg some (kO (go false) (go true))
end DLT

namespace K86
open PySem PySem.W
noncomputable abbrev As:List af:=[2,3,15,22,23,24,25,28,35,36,37,40,47,48,49,52,59,60,61,64,71,72,73,76,83,84,85,88,95,96,97,100,107,108,109,112,119,120,121,124,131,132,133,136,138,139,141,142,143,145,146,148,149,150,153,154,155,156,158,159,161,162,163,166,167,168,170,171,173,174,175,177,178,180,181,182,185,186,187,190,191,192,195,196,197,200,201,202,204,205,207,208,209,212,213,214,216,217,219,220,221,223,224,226,227,228,231,232,233,236,237,238,241,242,243,246,247,248,250,251,253,254,255,258,259,260,263,264,265,268,269,270,273,274,275,278,279,280,283,284,285,288,289,290,291,294,295,296,299,300,301,304,305,306,308,309,311,312,313,316,317,318,321,322,323,325,326,328,329,330,332,333,335,336,337,339,340,342,343,344,346,347,349,350,351,353,354,356,357,358,360,361,363,364,365,367,368,370,371,372,375,376,377,380,381,382,385,386,387,390,391,392,395,396,397,400,401,402,405,406,407,409,410,412,413,414,417,418,419,421,422,424,425,426,429,430,431,434,435,436,438,439,441,442,443,446,447,448,451,452]
noncomputable def Hk:PySem.W.Hook:=PySem.W.kmHook K86.hp.heap_1 K86.As (fun _=>by kernel_rfl) [281,449]
abbrev Pg:aH:=bS.row.prog
set_option maxRecDepth 100000 in
theorem la1:∀ (w:aP) (os:gm),(DLT.R Pg 7698 (w.withFollow "special-get-raises" false) w.params os).map (fun s=>(DLT.chk Pg (cu w.params) s.abs,((openSeen Qv Lv (da Pg.main.body) Xv true s.abs).1,(Hk.obs s.abs,decide (0<s.abs.toks)))))=some (true,((openGood Qv Lv).1,(Hk.val (w.withFollow "special-get-raises" false),true))):=fun w os=>by kernel_rfl
set_option maxRecDepth 100000 in
theorem la2:∀ (w:aP) (os:gm),(DLT.R Pg 7698 (w.withFollow "special-get-raises" false) w.params os).map (fun s=>(DLT.chk Pg (cu w.params) s.abs,(openSeen Qv Lv (da Pg.main.body) Xv true s.abs).2))=some (true,(openGood Qv Lv).2):=fun w os=>by kernel_rfl
set_option maxRecDepth 100000 in
theorem lb1:∀ (w:aP) (os:gm),(DLT.R Pg 7698 (w.withFollow "special-get-raises" true) w.params os).map (fun s=>(DLT.chk Pg (cu w.params) s.abs,((openSeen Qv Lv (da Pg.main.body) Xv true s.abs).1,(Hk.obs s.abs,decide (0<s.abs.toks)))))=some (true,((openGood Qv Lv).1,(Hk.val (w.withFollow "special-get-raises" true),true))):=fun w os=>by kernel_rfl
set_option maxRecDepth 100000 in
theorem lb2:∀ (w:aP) (os:gm),(DLT.R Pg 7698 (w.withFollow "special-get-raises" true) w.params os).map (fun s=>(DLT.chk Pg (cu w.params) s.abs,(openSeen Qv Lv (da Pg.main.body) Xv true s.abs).2))=some (true,(openGood Qv Lv).2):=fun w os=>by kernel_rfl
theorem lw:PySem.W.LeftO Pg Qv Lv Xv (fun s=>(Hk.obs s,decide (0<s.toks))) (fun w=>(Hk.val w,true)) 7698:=DLT.left_of "special-get-raises" rfl rfl (fun _=>rfl) (fun v=>match v with|false=>la1|true=>lb1) (fun v=>match v with|false=>la2|true=>lb2)
end K86

-- JO: your OI module here, as the last of OB rows
namespace L2
open PySem PySem.Spec PyProof.Rows
abbrev Key:=Sum Int Str
def zR:Key->ae->Bool
 | .inl k,v=>g9 k v
 | .inr x,v=>fe x v
def QG (w:aP):Key->Int
 | .inl k=>hashInt k
 | .inr x=>hashStr w x
theorem xf:∀ {k:Key} {v:ae},zR k v=true->(∃ i t,k=gp i/\v=lD i t)\/(∃ x t,k=jJ x/\v=jc x t)
 | .inl i,v,h=>by
  obtain ⟨t,e⟩:=Value.isInt_shape (k:=i) (v:=v) h
  exact .inl ⟨i,t,rfl,e⟩
 | .inr x,v,h=>by
  obtain ⟨t,e⟩:=iP (x:=x) (v:=v) h
  exact .inr ⟨x,t,rfl,e⟩
theorem X7 (i:Int) (t:Tok):zR (.inl i) (.int i t)=true:=by simp [zR,g9]
theorem X0 (x:Str) (t:Tok):zR (.inr x) (.str x t)=true:=by simp [zR,fe]
theorem SH (a b:Int):decide ((gp a:Key)=gp b)=(a==b):=by
 by_cases e:a=b
 ·subst e;simp
 ·have h:¬ (gp a:Key)=gp b:=fun q=>e (Sum.inl.inj q)
  rw [decide_eq_false h]
  exact (beq_eq_false_iff_ne.mpr e).symm
theorem Sw (a b:Str):decide ((jJ a:Key)=jJ b)=decide (a=b):=by
 by_cases e:a=b
 ·subst e;simp
 ·have h:¬ (jJ a:Key)=jJ b:=fun q=>e (Sum.inr.inj q)
  rw [decide_eq_false h,decide_eq_false e]
theorem Sd (a:Int) (b:Str):decide ((gp a:Key)=jJ b)=false:=decide_eq_false (fun q=>nomatch q)
theorem RQ (a:Str) (b:Int):decide ((jJ a:Key)=gp b)=false:=decide_eq_false (fun q=>nomatch q)
noncomputable def t_ (prog:aH) (w:aP):PySem.KeyKind prog w Key where
 is:=zR
 hash:=QG w
 inj:=fun v a b ha hb=>by
  rcases xf ha with ⟨i,t,rfl,rfl⟩|⟨x,t,rfl,rfl⟩
  ·rcases xf hb with ⟨j,u,rfl,e⟩|⟨y,u,rfl,e⟩
   ·injection e with e1 _;rw [e1]
   ·exact nomatch e
  ·rcases xf hb with ⟨j,u,rfl,e⟩|⟨y,u,rfl,e⟩
   ·exact nomatch e
   ·injection e with e1 _;rw [e1]
 byValue:=fun k v h=>by
  rcases xf h with ⟨i,t,rfl,rfl⟩|⟨x,t,rfl,rfl⟩<;>rfl
 pyHash:=fun hv h=>by
  rcases xf hv with ⟨i,t,rfl,rfl⟩|⟨x,t,rfl,rfl⟩
  ·exact wpAny_pyHash_int h
  ·exact wpAny_pyHash_str h
 eqBool:=fun hu hv h=>by
  rcases xf hu with ⟨i,t,rfl,rfl⟩|⟨x,t,rfl,rfl⟩
  ·rcases xf hv with ⟨j,u,rfl,rfl⟩|⟨y,u,rfl,rfl⟩
   ·rw [SH] at h;exact wpAny_eqBool_int h
   ·rw [Sd] at h;exact SeqAt.EqAt.int_str i t y u _ _ _ _ h
  ·rcases xf hv with ⟨j,u,rfl,rfl⟩|⟨y,u,rfl,rfl⟩
   ·rw [RQ] at h;exact SeqAt.EqAt.str_int x t j u _ _ _ _ h
   ·rw [Sw] at h;exact wpAny_eqBool_str h
 «strs»:=fun k x t v h=>by
  rcases xf h with ⟨i,u,rfl,e⟩|⟨y,u,rfl,e⟩
  ·exact nomatch e
  ·injection e with e1 _
   subst e1
   cases v<;>rfl
theorem YW (prog:aH) (w:aP) (i:Int) (t:Tok):(t_ prog w).is (.inl i) (.int i t)=true:=X7 i t
theorem Zd (prog:aH) (w:aP) (x:Str) (t:Tok):(t_ prog w).is (.inr x) (.str x t)=true:=X0 x t
inductive V where
 | non|bl (b:Bool)|int (i:Int)|str (x:Str)|byt (b:Array UInt8)|flt (b:UInt64)|ref (a:af)|ty (n:String)
 deriving DecidableEq
noncomputable def RelV:V->ae->Prop
 | .non,u=>u=cx
 | .bl b,u=>u=Value.bool b
 | .int i,u=>∃ t,u=lD i t
 | .str x,u=>∃ t,u=jc x t
 | .byt b,u=>∃ t,u=Value.bytes b t
 | .flt b,u=>∃ t,u=Value.float b t
 | .ref a,u=>u=db a
 | .ty n,u=>u=jC n
abbrev nK:List V->List ae->Prop:=cS RelV
theorem nK.length {xs:List V} {us:List ae} (r:nK xs us):xs.length=us.length:=k7 r
theorem nK.get:∀ {xs:List V} {us:List ae} {i:Nat} {x:V},nK xs us->xs[i]?=some x->∃ u,us[i]?=some u/\RelV x u
 | _,_,_,_,.nil,e=>by simp at e
 | _,_,0,_,.cons r _,e=>by simp at e;subst e;exact ⟨_,rfl,r⟩
 | _,_,i+1,x,.cons _ t,e=>by
  obtain ⟨u,h1,h2⟩:=nK.get (i:=i) (x:=x) t (by simpa using e)
  exact ⟨u,by simpa using h1,h2⟩
theorem nK.set {x:V} {u:ae} (r:RelV x u):∀ {xs:List V} {us:List ae} (i:Nat),nK xs us->nK (xs.set i x) (us.set i u)
 | _,_,_,.nil=>.nil
 | _,_,0,.cons _ t=>.cons r t
 | _,_,i+1,.cons q t=>.cons q (nK.set r i t)
theorem nK.append:∀ {xs ys:List V} {us ws:List ae},nK xs us->nK ys ws->nK (xs++ys) (us++ws)
 | _,_,_,_,.nil,s=>s
 | _,_,_,_,.cons r t,s=>.cons r (nK.append t s)
theorem nK.take:∀ {xs:List V} {us:List ae} (n:Nat),nK xs us->nK (xs.take n) (us.take n)
 | _,_,0,_=>.nil
 | _,_,_+1,.nil=>.nil
 | _,_,n+1,.cons r t=>.cons r (nK.take n t)
theorem nK.drop:∀ {xs:List V} {us:List ae} (n:Nat),nK xs us->nK (xs.drop n) (us.drop n)
 | _,_,0,r=>r
 | _,_,_+1,.nil=>.nil
 | _,_,n+1,.cons _ t=>nK.drop n t
noncomputable def oi:Option V->Option ae->Prop
 | some v,some u=>RelV v u
 | none,none=>True
 | _,_=>False
noncomputable def KV {κ:Type}:List (κ×V)->List (κ×ae)->Prop:=cS fun (p:κ×V) (q:κ×ae)=>p.1=q.1/\RelV p.2 q.2
def kV:Key->V
 | .inl i=>.int i
 | .inr x=>.str x
inductive HO where
 | lst (xs:List V)
 | tup (xs:List V)
 | dK (l_:List (Key×V))|dT (l_:List (List Key×V))
 | set (S:Int->Bool) (n:Nat)
 | ins (C dx:af) (fs:List (Str×V))
 | own (x:af)
 | xd (fs:List (Str×V))
 | met (f x:af)
 | rng (lo hi:Int)
 | frz (o:Obj) (u:HO)
 | tbl (ps:Array ae)
 | ext (φ:aT->Prop)
abbrev Hp:=af->Option HO
def upd (H:Hp) (a:af) (o:HO):Hp:=fun b=>if b=a then some o else H b
theorem qR {H:Hp} {a:af} {o:HO}:upd H a o a=some o:=by unfold upd;rw [if_pos rfl]
theorem o7 {H:Hp} {a b:af} {o:HO} (h:b≠a):upd H a o b=H b:=by unfold upd;rw [if_neg h]
theorem VT:upd (upd H a o) a u=upd H a u:=by
 funext b;unfold upd;split<;>rfl
theorem QS {H:Hp} {a b:af} {o u:HO} (h:H a=some o) (h':H b=some u) (d:o≠u):a≠b:=by
 intro e;subst e;rw [h] at h';exact d (bV h')
theorem qU {H:Hp} {a b:af} {o:HO} (h:H a=some o) (h':H b=none):a≠b:=by
 intro e;subst e;rw [h] at h';cases h'
noncomputable def n6 (h:aT) (a:af) (items:Array ae):Prop:=∃ o,h.get? a=some o/\o.cls=.type "tuple"/\(∃ n,o.data=.seq items n)/\o.dict=none
theorem n6.tup {h:aT} {a:af} {items:Array ae} (x:n6 h a items):IsTup h a items:=let ⟨o,e,c,d,_⟩:=x;⟨o,e,c,d⟩
theorem n6.new (h:aT) (items:Array ae):n6 (h.push { cls:=.type "tuple",data:=.seq items }) h.objs.size items:=⟨_,aE _ rfl,rfl,⟨_,rfl⟩,rfl⟩
section
variable (P:aH) (w:aP)
noncomputable def nV (H:Hp) (h:aT) (a:af):HO->Prop
 | .lst xs=>xs.length<=sizeLine/\∃ (f_:List ae) (n:Nat),nK xs f_/\h.get? a=some { cls:=.type "list",data:=.seq f_.toArray n }
 | .tup xs=>xs.length<=sizeLine/\∃ f_:List ae,nK xs f_/\n6 h a f_.toArray
 | .dK l_=>l_.length<=sizeLine/\(a==sysModules)=false/\∃ vs,KV l_ vs/\h.DictOf (t_ P w) a vs
 | .dT l_=>l_.length<=sizeLine/\(a==sysModules)=false/\∃ xs:List (List Key×af×ae),
   cS (fun (p:List Key×V) (q:List Key×af×ae)=>p.1=q.1/\H q.2.1=some (.tup (p.1.map kV))/\RelV p.2 q.2.2) l_ xs/\
   ∃ o es ep,h.get? a=some o/\o.ExactDict/\o.data=.dict es ep/\es.toList=xs.map (entryOfKey (tupleKind (t_ P w)))/\(xs.map (·.1)).Nodup
 | .set S n=>h.SetOf (intKind P w) a S n
 | .ins C dx fs=>H dx=some (.own a)/\fs.length<=1000/\dx≠a/\h.get? a=some (mM C dx)/\
   ∃ mA,h.Ns1 dx mA/\(∀ f,oi (fs.lookup f) (mA f))/\PySem.Within mA (fs.map (·.1))
 | .own _=>∃ o,h.get? a=some o
 | .xd fs=>∃ mA,h.Ns1 a mA/\∀ f,oi (fs.lookup f) (mA f)
 | .rng lo hi=>∃ t u v,h.get? a=some { cls:=.type "range",data:=.fields #[.int lo t,.int hi u,.int 1 v] }
 | .frz o u=>h.get? a=some o/\nV H h a u
 | .tbl ps=>h.get? a=some { cls:=.none,data:=.fields ps }
 | .met f x=>h.get? a=some (jw (.ref f) (.ref x))
 | .ext φ=>φ h/\(∃ o,h.get? a=some o)/\∀ h1 h2:aT,φ h1->(∀ o,h1.get? a=some o->h2.get? a=some o)->φ h2
def HOk (H:Hp) (h:aT):Prop:=∀ a o,H a=some o->nV P w H h a o
end
section
variable {P:aH} {w:aP} {H H':Hp} {h h':aT} {a:af} {o:HO}
theorem nV.lt (x:nV P w H h a o):a<h.objs.size:=by
 cases o with
 | lst xs=>obtain ⟨_,_,_,_,e⟩:=x;exact aG e
 | tup xs=>obtain ⟨_,_,_,p⟩:=x;exact (n6.tup p).lt
 | dK l_=>obtain ⟨_,_,_,_,o,_,_,e,_⟩:=x;exact aG e
 | dT l_=>obtain ⟨_,_,_,_,o,_,_,e,_⟩:=x;exact aG e
 | set S n=>obtain ⟨o,_,_,_,e,_⟩:=x;exact aG e
 | ins C dx fs=>obtain ⟨_,_,_,e,_⟩:=x;exact aG e
 | own y=>obtain ⟨_,e⟩:=x;exact aG e
 | xd fs=>obtain ⟨_,⟨_,_,_,e,_⟩,_⟩:=x;exact aG e
 | rng lo hi=>obtain ⟨_,_,_,e⟩:=x;exact aG e
 | frz ob u=>obtain ⟨e,_⟩:=x;exact aG e
 | tbl ps=>exact aG (show h.get? a=some _ from x)
 | met f y=>exact aG (show h.get? a=some _ from x)
 | ext φ=>obtain ⟨_,⟨_,e⟩,_⟩:=x;exact aG e
theorem Paired.mapP {α β:Type} {F G:α->β->Prop}:∀ {CG:List α} {CF:List β},cS F CG CF->(∀ a b,F a b->G a b)->cS G CG CF
 | _,_,.nil,_=>.nil
 | _,_,.cons r t,f=>.cons (f _ _ r) (Paired.mapP t f)
theorem nV.stay (x:nV P w H h a o) (k:∀ b u,(b=a\/H b=some (.own a))->h.get? b=some u->h'.get? b=some u)
  (ho:∀ b,H b=some (.own a)->H' b=some (.own a)) (ht:∀ b xs,H b=some (.tup xs)->H' b=some (.tup xs)):nV P w H' h' a o:=by
 induction o with
 | lst xs=>obtain ⟨z,f_,n,r,e⟩:=x;exact ⟨z,f_,n,r,k _ _ (.inl rfl) e⟩
 | tup xs=>obtain ⟨z,f_,r,ob,e,c⟩:=x;exact ⟨z,f_,r,ob,k _ _ (.inl rfl) e,c⟩
 | dK l_=>obtain ⟨z,y,vs,r,ob,es,ep,e,c⟩:=x;exact ⟨z,y,vs,r,ob,es,ep,k _ _ (.inl rfl) e,c⟩
 | dT l_=>
  obtain ⟨z,y,xs,r,ob,es,ep,e,c⟩:=x
  exact ⟨z,y,xs,Paired.mapP r fun p q z=>⟨z.1,ht _ _ z.2.1,z.2.2⟩,ob,es,ep,k _ _ (.inl rfl) e,c⟩
 | set S n=>obtain ⟨ob,es,ep,t,e,c⟩:=x;exact ⟨ob,es,ep,t,k _ _ (.inl rfl) e,c⟩
 | ins C dx fs=>
  obtain ⟨d,z,ne,e,mA,⟨od,es,ep,e2,c⟩,r⟩:=x
  exact ⟨ho _ d,z,ne,k _ _ (.inl rfl) e,mA,⟨od,es,ep,k _ _ (.inr d) e2,c⟩,r⟩
 | own y=>obtain ⟨ob,e⟩:=x;exact ⟨ob,k _ _ (.inl rfl) e⟩
 | xd fs=>obtain ⟨mA,⟨od,es,ep,e,c⟩,r⟩:=x;exact ⟨mA,⟨od,es,ep,k _ _ (.inl rfl) e,c⟩,r⟩
 | rng lo hi=>obtain ⟨t,u,v,e⟩:=x;exact ⟨t,u,v,k _ _ (.inl rfl) e⟩
 | frz ob u ih=>obtain ⟨e,q⟩:=x;exact ⟨k _ _ (.inl rfl) e,ih q⟩
 | tbl ps=>
  have e:h.get? a=some { cls:=.none,data:=.fields ps }:=x
  show h'.get? a=some { cls:=.none,data:=.fields ps }
  exact k a _ (.inl rfl) e
 | met f y=>
  have e:h.get? a=some (jw (.ref f) (.ref y)):=x
  show h'.get? a=some (jw (.ref f) (.ref y))
  exact k a _ (.inl rfl) e
 | ext φ=>obtain ⟨p,⟨o,e⟩,st⟩:=x;exact ⟨st _ _ p fun o q=>k _ _ (.inl rfl) q,⟨o,k _ _ (.inl rfl) e⟩,st⟩
theorem HOk.lt (x:HOk P w H h) (e:H a=some o):a<h.objs.size:=(x a o e).lt
theorem HOk.fresh (x:HOk P w H h) (e:h.objs.size<=a):H a=none:=by
 cases q:H a with
 | none=>rfl
 | some u=>exact absurd (aV (x.lt q) e) (bP _)
theorem HOk.kept (x:HOk P w H h) (k:∀ b u,h.get? b=some u->h'.get? b=some u):HOk P w H h':=fun a o e=>
 (x a o e).stay (fun b u _ q=>k b u q) (fun _ q=>q) fun _ _ q=>q
theorem HOk.laid (x:HOk P w H h) (k:∀ b u,h.get? b=some u->h'.get? b=some u) (hp:h.objs.size<=a) (new:nV P w (upd H a o) h' a o):HOk P w (upd H a o) h':=fun b u e=>by
 have hn:=x.fresh hp
 by_cases hb:b=a
 ·subst hb;rw [qR] at e;cases e;exact new
 ·rw [o7 hb] at e
  exact (x b u e).stay (fun c v _ q=>k c v q) (fun c q=>by rw [o7 (qU q hn)];exact q) fun c xs q=>by rw [o7 (qU q hn)];exact q
end
def Rd (H:Hp) (a:af) (u:HO):Prop:=H a=some u \/ ∃ o,H a=some (.frz o u)
theorem Rd.of (h:H a=some u):Rd H a u:=.inl h
theorem Rd.ok (r:Rd H a u) (x:HOk P w H h):nV P w H h a u:=by
 rcases r with r|⟨o,r⟩
 ·exact x a u r
 ·obtain ⟨_,q⟩:=x a _ r
  exact q
noncomputable def Dx:Option HO->Prop
 | some (.lst _)=>True
 | some (.dK _)=>True
 | some (.dT _)=>True
 | some (.set _ _)=>True
 | some (.ins _ _ _)=>True
 | some (.ext _)=>True
 | _=>False
section
variable {P:aH} {w:aP} {H:Hp} {h h':aT} {x e:af} {o':HO}
theorem HOk.write (ok:HOk P w H h) (mu:Dx (H x)) (he:e=x\/H e=some (.own x)) (k:∀ b u,b≠e->h.get? b=some u->h'.get? b=some u) (AZ:∃ u,h'.get? e=some u)
  (new:nV P w (upd H x o') h' x o'):HOk P w (upd H x o') h':=fun b u q=>by
 have Cs:∀ c y,H c=some (.own y)->c≠x:=fun c y r z=>by subst z;rw [r] at mu;exact mu
 have H8:∀ c xs,H c=some (.tup xs)->c≠x:=fun c xs r z=>by subst z;rw [r] at mu;exact mu
 by_cases hb:b=x
 ·subst hb;rw [qR] at q;cases q;exact new
 ·rw [o7 hb] at q
  by_cases zy:b=e
  ·have q':H b=some (.own x):=by
    rcases he with z|z
    ·exact absurd (zy.trans z) hb
    ·rw [zy];exact z
   rw [q] at q';cases q'
   obtain ⟨v,hv⟩:=AZ
   exact ⟨v,by rw [zy];exact hv⟩
  ·refine (ok b u q).stay (fun c v hc r=>k c v ?_ r) (fun c r=>by rw [o7 (Cs c b r)];exact r) fun c xs r=>by rw [o7 (H8 c xs r)];exact r
   rcases hc with rfl|hc
   ·exact zy
   ·rintro rfl
    rcases he with z|z
    ·exact Cs c b hc z
    ·rw [hc] at z;cases z;exact hb rfl
end
structure Un (fs ex:List af) (H H':Hp) (h h':aT):Prop where
 keep:∀ b o,h.get? b=some o->H b=none->b∉fs->b∉ex->h'.get? b=some o
 slot:∀ b o,h.get? b=some o->H b=none->b∈fs->b∉ex->∃ sl,h'.get? b=some { o with slots:=sl }
 free:∀ b o,h.get? b=some o->H b=none->b∉ex->H' b=none
 there:∀ b o,h.get? b=some o->b∉ex->∃ o',h'.get? b=some o'
 tups:∀ b xs,H b=some (.tup xs)->H' b=some (.tup xs)
 frzs:∀ b o u,H b=some (.frz o u)->H' b=some (.frz o u)
 tbls:∀ b ps,H b=some (.tbl ps)->∃ more,H' b=some (.tbl (ps++more))
section
variable {fs ex:List af} {H H1 H2:Hp} {h h1 h2 h':aT} {a x e:af} {o:HO}
theorem Un.any (u:Un fs ex H H1 h h1) {b:af} {ob:Obj} (q:h.get? b=some ob) (n:H b=none) (hx:b∉ex):∃ sl,h1.get? b=some { ob with slots:=sl }:=by
 by_cases hb:b∈fs
 ·exact u.slot b ob q n hb hx
 ·exact ⟨ob.slots,u.keep b ob q n hb hx⟩
theorem Un.trans (a:Un fs ex H H1 h h1) (b:Un fs ex H1 H2 h1 h2):Un fs ex H H2 h h2 where
 keep:=fun c ob q n hc hx=>b.keep c ob (a.keep c ob q n hc hx) (a.free c ob q n hx) hc hx
 slot:=fun c ob q n hc hx=>by
  obtain ⟨sl,e1⟩:=a.slot c ob q n hc hx
  obtain ⟨uV,e2⟩:=b.slot c _ e1 (a.free c ob q n hx) hc hx
  exact ⟨uV,e2⟩
 free:=fun c ob q n hx=>by
  obtain ⟨o',e1⟩:=a.there c ob q hx
  exact b.free c o' e1 (a.free c ob q n hx) hx
 there:=fun c ob q hx=>by
  obtain ⟨o',e1⟩:=a.there c ob q hx
  exact b.there c o' e1 hx
 tups:=fun c xs q=>b.tups c xs (a.tups c xs q)
 frzs:=fun c ob xs q=>b.frzs c ob xs (a.frzs c ob xs q)
 tbls:=fun c ps q=>by
  obtain ⟨m1,e1⟩:=a.tbls c ps q
  obtain ⟨m2,e2⟩:=b.tbls c _ e1
  exact ⟨m1++m2,by rw [e2,lE]⟩
theorem Un.kept (k:∀ b u,h.get? b=some u->h'.get? b=some u):Un fs ex H H h h':=
 ⟨fun b ob q _ _ _=>k b ob q,fun b ob q _ _ _=>⟨ob.slots,k b ob q⟩,fun _ _ _ n _=>n,fun b ob q _=>⟨ob,k b ob q⟩,fun _ _ q=>q,fun _ _ _ q=>q,fun _ ps q=>⟨#[],by rw [q];simp⟩⟩
theorem Un.refl:Un fs ex H H h h:=Un.kept fun _ _ q=>q
theorem Un.laid (k:∀ b u,h.get? b=some u->h'.get? b=some u) (hp:h.objs.size<=a) (hn:H a=none):Un fs ex H (upd H a o) h h' where
 keep:=fun b u q _ _ _=>k b u q
 slot:=fun b u q _ _ _=>⟨u.slots,k b u q⟩
 free:=fun b u q n _=>by rw [o7 (bi (aV (aG q) hp))];exact n
 there:=fun b u q _=>⟨u,k b u q⟩
 tups:=fun b xs q=>by rw [o7 (qU q hn)];exact q
 frzs:=fun b u xs q=>by rw [o7 (qU q hn)];exact q
 tbls:=fun b ps q=>⟨#[],by rw [o7 (qU q hn),q];simp⟩
theorem Un.write (mu:Dx (H x)) (he:e=x\/H e=some (.own x)) (k:∀ b u,b≠e->h.get? b=some u->h'.get? b=some u) (AZ:∃ u,h'.get? e=some u):Un fs ex H (upd H x o) h h':=by
 have hx:∀ b,H b=none->b≠x:=fun b n z=>by subst z;rw [n] at mu;exact mu
 have hb:∀ b,H b=none->b≠e:=fun b n z=>by
  subst z
  rcases he with r|r
  ·exact hx b n r
  ·rw [n] at r;cases r
 have hm:∀ b u,H b=some u->¬ Dx (some u)->b≠x:=fun b u q nm z=>by subst z;rw [q] at mu;exact nm mu
 refine ⟨fun b u q n _ _=>k b u (hb b n) q,fun b u q n _ _=>⟨u.slots,k b u (hb b n) q⟩,fun b u q n _=>by rw [o7 (hx b n)];exact n,fun b u q _=>?_,
  fun b xs q=>by rw [o7 (hm b _ q fun z=>z)];exact q,fun b u xs q=>by rw [o7 (hm b _ q fun z=>z)];exact q,fun b ps q=>⟨#[],by rw [o7 (hm b _ q fun z=>z),q];simp⟩⟩
 by_cases zy:b=e
 ·subst zy;exact AZ
 ·exact ⟨u,k b u zy q⟩
end
def E7 (h:aT) (H:Hp):List af:=(bd h.objs.size).filter fun a=>(H a).isSome
def wx (h:aT) (H:Hp):aT:=PySem.W.hideAll h (E7 h H)
theorem XT (h:aT) (H:Hp):(wx h H).objs.size=h.objs.size:=PySem.W.hideAll_size _ _
theorem We (e:h.get? b=some o) (n:H b=none):(wx h H).get? b=some o:=
 PySem.W.hideAll_get _ e fun hm=>by
  have q:(H b).isSome=true:=(bw.mp hm).2
  rw [n] at q;simp at q
theorem UL (e:(wx h H).get? b=some o):h.get? b=some o/\H b=none:=by
 have e':h.get? b=some o:=PySem.W.of_hideAll (E7 h H) e
 refine ⟨e',?_⟩
 cases q:H b with
 | none=>rfl
 | some x=>
  have hm:b∈E7 h H:=bw.mpr ⟨bK.mpr (aG e'),by simp [q]⟩
  have z:(wx h H).get? b=none:=PySem.W.hideAll_none (E7 h H) hm
  rw [z] at e;cases e
noncomputable def VJ (g h:aT) (L:af):List (af×Obj):=(bd h.objs.size).filterMap fun a=>if a=L\/(g.get? a).isSome=true then none else (h.get? a).map fun o=>(a,o)
def pA (g h:aT) (L d:af):List (af×Obj):=(VJ g h L).filter fun p=>decide (p.1≠d)
structure Mod (K:ai) (mg:Str->Option ae) (base:aT):Prop where
 kin:K.In base
 glob:base.Ns bD mg
 blt:∃ mb,base.Ns builtinsNs mb/\∀ x:Str,x ≠ "__name__"->mb x=a9 x
 nolimit:base.NoLimit
structure Cx where
 prog:aH
 w:aP
 K:ai
 mg:Str->Option ae
 base:aT
 A:aW
 N:List Str
 s₀:ag
 H₀:Hp
 env:Env
 outer:List Env
 stack:List Env
 ex:List af
 fn:Str->Bool
 calm:Bool
 pn:List (af×Obj)
 xe:ae->ag->Prop
def ql (l:List Env):List af:=l.filterMap (·.frame)
abbrev Cx.fs (X:Cx):List af:=ql X.outer
noncomputable def sI (sc:cF) (x:Str):Prop:=sc.names.lookup x=some .local\/sc.names.lookup x=some .cell\/sc.names.lookup x=some .free
noncomputable def Loc (sc:cF) (x:Str):Prop:=sc.names.lookup x=some .local\/sc.names.lookup x=some .cell
noncomputable def QB (env:Env) (h:aT) (m:Str->Option ae) (x:Str) (u:ae):Prop:=
 (env.kindOf x=some .local/\m x=some u)\/((env.kindOf x=some .cell\/env.kindOf x=some .free)/\∃ c,env.cells.lookup x=some c/\h.IsCell c (some u))
structure Cx.Ok (X:Cx):Prop where
 mod:Mod X.K X.mg X.base
 kind:X.env.scope.kind=.function
 glob:X.env.globals=bD
 blt:X.env.builtins=builtinsNs
 above:X.s₀.heap.objs.size<=X.env.locals
 inj:∀ x y c,X.env.cells.lookup x=some c->X.env.cells.lookup y=some c->x=y
 has:∀ x,(X.env.kindOf x=some .cell\/X.env.kindOf x=some .free)->∃ c,X.env.cells.lookup x=some c
 cab:∀ x c,X.fn x=true->X.env.cells.lookup x=some c->X.s₀.heap.objs.size<=c
 hd:X.calm=true->X.A.handled=none
 frames:X.A.frames=some X.stack
 stk:X.stack=X.outer\/(X.stack=X.env::X.outer/\X.env.frame=some X.env.locals)
 exf:∀ b∈X.ex,b≠X.env.locals/\∀ x c,X.env.cells.lookup x=some c->c≠b
 bs:∀ b o,X.base.get? b=some o->X.s₀.heap.get? b=some o/\X.H₀ b=none
 bsz:X.base.objs.size<=X.s₀.heap.objs.size
 noex:∀ b o,X.base.get? b=some o->b∉X.ex
 exfs:∀ b∈X.ex,b∉X.fs
 funs:X.s₀.heap.FunFrames X.base X.outer
 frf:∀ b∈X.fs,X.H₀ b=none
structure Inv (X:Cx) (pins:List (af×Obj)) (σ:List (Option V)) (H:Hp) (s:ag):Prop where
 ok:X.Ok
 os:s.os=X.s₀.os
 bare:f8 s.gens
 base:Un X.fs X.ex X.H₀ H X.s₀.heap s.heap
 loc:∃ m,s.heap.Ns X.env.locals m/\∀ (i:Nat) (x:Str) (v:V),X.N[i]?=some x->σ[i]?=some (some v)->sI X.env.scope x->∃ u,RelV v u/\QB X.env s.heap m x u
 cell:∀ x c,X.env.cells.lookup x=some c->∃ v,s.heap.IsCell c v
 free:H X.env.locals=none
 freeC:∀ x c,X.env.cells.lookup x=some c->H c=none
 pin:∀ p∈X.pn++pins,s.heap.get? p.1=some p.2/\H p.1=none/\p.1≠X.env.locals/\p.1∉X.fs/\∀ v,p.2.data ≠ .cell v
 hok:HOk X.prog X.w H s.heap
 len:σ.length=X.N.length
 tk:0<s.toks
section
variable {X:Cx} {pins:List (af×Obj)} {σ:List (Option V)} {H H':Hp} {s:ag} {h':aT}
theorem Cx.Ok.nofr (ok:X.Ok) (e:X.base.get? b=some o):b∉X.fs:=fun hb=>by
 have:=(ok.funs.mem hb).1
 rw [e] at this;cases this
theorem Inv.bs (I:Inv X pins σ H s):∀ b o,X.base.get? b=some o->s.heap.get? b=some o/\H b=none:=fun b o e=>
 ⟨I.base.keep b o (I.ok.bs b o e).1 (I.ok.bs b o e).2 (I.ok.nofr e) (I.ok.noex b o e),I.base.free b o (I.ok.bs b o e).1 (I.ok.bs b o e).2 (I.ok.noex b o e)⟩
theorem Inv.bk (I:Inv X pins σ H s):∀ b o,X.base.get? b=some o->s.heap.get? b=some o:=fun b o e=>(I.bs b o e).1
theorem Inv.mod (I:Inv X pins σ H s):Mod X.K X.mg X.base:=I.ok.mod
theorem Inv.kIn (I:Inv X pins σ H s):X.K.In s.heap:=I.ok.mod.kin.keeps I.bk
theorem Inv.nolimit (I:Inv X pins σ H s):s.heap.NoLimit:=I.ok.mod.nolimit.keeps I.bk
theorem Inv.fr (I:Inv X pins σ H s):∃ m,Fr X.base X.env.locals s.heap m:=
 let ⟨m,hn,_⟩:=I.loc
 ⟨m,hn,I.bk,aU I.ok.bsz I.ok.above⟩
theorem Inv.lt (I:Inv X pins σ H s):X.env.locals<s.heap.objs.size:=let ⟨_,hn,_⟩:=I.loc;hn.lt
theorem Inv.sz (I:Inv X pins σ H s):X.s₀.heap.objs.size<=s.heap.objs.size:=aU I.ok.above (fK I.lt)
theorem Inv.nofs (I:Inv X pins σ H s) (h:s.heap.objs.size<=a):a∉X.fs:=fun hb=>by
 obtain ⟨_,o,ho,_⟩:=I.ok.funs.mem hb
 exact absurd (aV (aG ho) (aU I.sz h)) (bP _)
theorem Inv.cne (I:Inv X pins σ H s):∀ x c,X.env.cells.lookup x=some c->c≠X.env.locals:=fun x c e z=>by
 obtain ⟨v,o,ho,hd⟩:=I.cell x c e
 obtain ⟨m,⟨o',es,ep,tG,Fz,_⟩,_⟩:=I.loc
 rw [z,tG] at ho;cases ho;rw [Fz] at hd;cases hd
theorem Inv.funs (I:Inv X pins σ H s):s.heap.FunFrames X.base X.outer:=by
 have all:∀ (l:List Env),(∀ b∈ql l,b∈X.fs)->X.s₀.heap.FunFrames X.base l->s.heap.FunFrames X.base l:=by
  intro l
  induction l with
  | nil=>intro _ _;trivial
  | cons env r ih=>
   intro hs hl
   obtain ⟨hk,⟨L,o,hf,hn,ho,hd⟩,hr⟩:=hl
   have hL:L∈X.fs:=hs L (by unfold ql;rw [dE,hf];exact aI)
   obtain ⟨sl,e⟩:=I.base.slot L o ho (I.ok.frf L hL) hL fun z=>I.ok.exfs L z hL
   exact ⟨hk,⟨L,_,hf,hn,e,hd⟩,ih (fun b hb=>hs b (by unfold ql;rw [dE,hf];exact aq _ hb)) hr⟩
 exact all X.outer (fun _ hb=>hb) I.ok.funs
theorem Inv.stack (I:Inv X pins σ H s):s.heap.FunFrames X.base X.stack:=by
 rcases I.ok.stk with e|⟨e,hf⟩
 ·rw [e];exact I.funs
 ·rw [e]
  obtain ⟨m,hn,_⟩:=I.loc
  refine .cons (by rw [I.ok.kind];decide) hf hn ?_ I.funs
  exact iB (aU I.ok.bsz I.ok.above)
theorem Inv.stkSub (I:Inv X pins σ H s):∀ b∈ql X.stack,b∈X.env.locals::X.fs:=fun b hb=>by
 rcases I.ok.stk with e|⟨e,hf⟩
 ·rw [e] at hb;exact aq _ hb
 ·rw [e] at hb
  unfold ql at hb
  rw [dE,hf] at hb
  exact hb
theorem Inv.stkFree (I:Inv X pins σ H s):∀ b∈ql X.stack,H b=none:=fun b hb=>by
 rcases aw.mp (I.stkSub b hb) with e|hb
 ·rw [e];exact I.free
 ·obtain ⟨_,o,ho,_⟩:=I.ok.funs.mem hb
  exact I.base.free b o ho (I.ok.frf b hb) fun z=>I.ok.exfs b z hb
theorem Inv.step {g':Array my} {t':Nat} {d':Drawn} {ch:List af} (I:Inv X pins σ H s)
  (wM:∀ b∈ch,(b∈X.ex\/X.s₀.heap.objs.size<=b)/\b≠X.env.locals/\(∀ x c,X.env.cells.lookup x=some c->c≠b)/\∀ p∈X.pn++pins,p.1≠b)
  (keep:∀ b o,b≠X.env.locals->b∉X.fs->b∉ch->s.heap.get? b=some o->H b=none->h'.get? b=some o)
  (slot:∀ b o,b≠X.env.locals->b∈X.fs->b∉ch->s.heap.get? b=some o->H b=none->∃ sl,h'.get? b=some { o with slots:=sl }) (free:∀ b o,b∉ch->s.heap.get? b=some o->H b=none->H' b=none)
  (there:∀ b o,b∉ch->s.heap.get? b=some o->∃ o',h'.get? b=some o')
  (tups:∀ b xs,H b=some (.tup xs)->H' b=some (.tup xs)) (frzs:∀ b o u,H b=some (.frz o u)->H' b=some (.frz o u)) (tbls:∀ b ps,H b=some (.tbl ps)->∃ more,H' b=some (.tbl (ps++more)))
  (ns:∀ m,s.heap.Ns X.env.locals m->h'.Ns X.env.locals m) (hok:HOk X.prog X.w H' h') (hg:f8 g') (ht:0<t'):
  Inv X pins σ H' { s with heap:=h',gens:=g',drawn:=d',toks:=t' }:=by
 have AS:∀ b o,X.s₀.heap.get? b=some o->b≠X.env.locals:=fun b o e=>bi (aV (aG e) I.ok.above)
 have Fi:∀ b o,X.s₀.heap.get? b=some o->b∉X.ex->b∉ch:=fun b o e hx hb=>by
  rcases (wM b hb).1 with z|z
  ·exact hx z
  ·exact absurd (aV (aG e) z) (bP _)
 have cellK:∀ x c,X.env.cells.lookup x=some c->∀ v,s.heap.IsCell c v->h'.IsCell c v:=fun x c e v ⟨o,ho,hd⟩=>by
  have Cz:c∉ch:=fun z=>(wM c z).2.2.1 x c e rfl
  by_cases hc:c∈X.fs
  ·obtain ⟨sl,q⟩:=slot c o (I.cne x c e) hc Cz ho (I.freeC x c e)
   exact ⟨_,q,hd⟩
  ·exact ⟨o,keep c o (I.cne x c e) hc Cz ho (I.freeC x c e),hd⟩
 refine ⟨I.ok,I.os,hg,⟨fun b o e n hb hx=>?_,fun b o e n hb hx=>?_,fun b o e n hx=>?_,fun b o e hx=>?_,fun b xs e=>tups b xs (I.base.tups b xs e),fun b o xs e=>frzs b o xs (I.base.frzs b o xs e),fun b ps e=>?_⟩,?_,fun x c e=>?_,?_,fun x c e=>?_,fun p hp=>?_,hok,I.len,ht⟩
 ·exact keep b o (AS b o e) hb (Fi b o e hx) (I.base.keep b o e n hb hx) (I.base.free b o e n hx)
 ·obtain ⟨sl,e1⟩:=I.base.slot b o e n hb hx
  obtain ⟨uV,e2⟩:=slot b _ (AS b o e) hb (Fi b o e hx) e1 (I.base.free b o e n hx)
  exact ⟨uV,e2⟩
 ·obtain ⟨o',e1⟩:=I.base.there b o e hx
  exact free b o' (Fi b o e hx) e1 (I.base.free b o e n hx)
 ·obtain ⟨o',e1⟩:=I.base.there b o e hx
  exact there b o' (Fi b o e hx) e1
 ·obtain ⟨m1,e1⟩:=I.base.tbls b ps e
  obtain ⟨m2,e2⟩:=tbls b _ e1
  exact ⟨m1++m2,by rw [e2,lE]⟩
 ·obtain ⟨m,hn,hl⟩:=I.loc
  refine ⟨m,ns m hn,fun i x v e1 e2 e3=>?_⟩
  obtain ⟨u,r,l⟩:=hl i x v e1 e2 e3
  refine ⟨u,r,?_⟩
  rcases l with l|⟨k,c,e,z⟩
  ·exact .inl l
  ·exact .inr ⟨k,c,e,cellK x c e _ z⟩
 ·obtain ⟨v,z⟩:=I.cell x c e
  exact ⟨v,cellK x c e v z⟩
 ·obtain ⟨m,⟨o,_,_,ho,_⟩,_⟩:=I.loc
  exact free _ o (fun z=>(wM _ z).2.1 rfl) ho I.free
 ·obtain ⟨v,o,ho,hd⟩:=I.cell x c e
  exact free c o (fun z=>(wM c z).2.2.1 x c e rfl) ho (I.freeC x c e)
 ·obtain ⟨e,n,ne,nf,d⟩:=I.pin p hp
  have Cz:p.1∉ch:=fun z=>(wM p.1 z).2.2.2 p hp rfl
  exact ⟨keep p.1 p.2 ne nf Cz e n,free p.1 p.2 Cz e n,ne,nf,d⟩
theorem Inv.un {t':Nat} (I:Inv X pins σ H s) (u:Un X.fs [] H H' s.heap h') (hok:HOk X.prog X.w H' h') (ht:0<t':=by first|exact cY _|exact Inv.tk ‹_›|assumption|omega):Inv X pins σ H' { s with heap:=h',toks:=t' }:=by
 obtain ⟨m,⟨o,es,ep,ho,r⟩,_⟩:=id I.loc
 obtain ⟨sl,hL⟩:=u.any ho I.free (by simp)
 exact I.step (g':=s.gens) (d':=s.drawn) (ch:=[]) (fun _ z=>nomatch z) (fun b o _ hb _ e n=>u.keep b o e n hb (by simp)) (fun b o _ hb _ e n=>u.slot b o e n hb (by simp)) (fun b o _ e n=>u.free b o e n (by simp)) (fun b o _ e=>u.there b o e (by simp)) u.tups u.frzs u.tbls (fun m' hm=>by
  obtain ⟨o',es',JC,tG,r'⟩:=hm
  rw [ho] at tG;cases tG
  exact ⟨_,es',JC,hL,r'⟩) hok I.bare ht
theorem Inv.call {g':Array my} {t':Nat} {d':Drawn} {ch:List af} (I:Inv X pins σ H s) (u:Un (ql X.stack) ch H H' s.heap h') (hok:HOk X.prog X.w H' h') (hg:f8 g')
  (wM:∀ b∈ch,(b∈X.ex\/X.s₀.heap.objs.size<=b)/\b≠X.env.locals/\(∀ x c,X.env.cells.lookup x=some c->c≠b)/\∀ p∈X.pn++pins,p.1≠b) (ht:0<t':=by first|exact cY _|exact Inv.tk ‹_›|assumption|omega):
  Inv X pins σ H' { s with heap:=h',gens:=g',drawn:=d',toks:=t' }:=by
 obtain ⟨m,⟨o,es,ep,ho,r⟩,_⟩:=id I.loc
 obtain ⟨sl,hL⟩:=u.any ho I.free fun z=>(wM _ z).2.1 rfl
 exact I.step (ch:=ch) wM (fun b o hL hb hc e n=>u.keep b o e n (fun z=>(aw.mp (I.stkSub b z)).elim hL hb) hc) (fun b o _ _ hc e n=>u.any e n hc) (fun b o hc e n=>u.free b o e n hc) (fun b o hc e=>u.there b o e hc) u.tups u.frzs u.tbls (fun m' hm=>by
  obtain ⟨o',es',JC,tG,r'⟩:=hm
  rw [ho] at tG;cases tG
  exact ⟨_,es',JC,hL,r'⟩) hok hg ht
theorem Inv.turned {t':Nat} {it:af} (I:Inv X pins σ H s) (k:∀ b o,b≠it->s.heap.get? b=some o->h'.get? b=some o) (hn:H it=none) (hL:it≠X.env.locals)
  (h1:it∈X.ex\/X.s₀.heap.objs.size<=it) (h2:∀ x c,X.env.cells.lookup x=some c->c≠it) (h3:∀ p∈X.pn++pins,p.1≠it) (ht:0<t':=by first|exact cY _|exact Inv.tk ‹_›|assumption|omega):Inv X pins σ H { s with heap:=h',toks:=t' }:=by
 have Cw:∀ b u,H b=some u->b≠it:=fun b u e z=>by rw [z,hn] at e;cases e
 refine I.step (g':=s.gens) (d':=s.drawn) (ch:=[it]) (fun b hb=>?_) (fun b o _ _ hc e _=>k b o (fun z=>hc (by simp [z])) e) (fun b o _ _ hc e _=>⟨o.slots,k b o (fun z=>hc (by simp [z])) e⟩) (fun _ _ _ _ n=>n)
  (fun b o hc e=>⟨o,k b o (fun z=>hc (by simp [z])) e⟩) (fun _ _ e=>e) (fun _ _ _ e=>e) (fun b ps e=>⟨#[],by rw [e];simp⟩) (fun m hm=>?_) (fun b u e=>?_) I.bare ht
 ·have e:b=it:=by simpa using hb
  subst e
  exact ⟨h1,hL,h2,h3⟩
 ·obtain ⟨o,es,ep,ho,r⟩:=hm
  exact ⟨o,es,ep,k _ o (bq hL) ho,r⟩
 ·refine (I.hok b u e).stay (fun c v hc q=>k c v ?_ q) (fun _ q=>q) fun _ _ q=>q
  rcases hc with z|z
  ·rw [z];exact Cw b u e
  ·exact Cw c _ z
theorem Inv.tok (I:Inv X pins σ H s) (t:Nat) (ht:0<t:=by first|exact cY _|exact Inv.tk ‹_›|assumption|omega):Inv X pins σ H { s with toks:=t }:=I.un (h':=s.heap) (t':=t) Un.refl I.hok
theorem Inv.kept (I:Inv X pins σ H s) (k:∀ b u,s.heap.get? b=some u->h'.get? b=some u) (ht:0<t':=by first|exact cY _|exact Inv.tk ‹_›|assumption|omega):Inv X pins σ H { s with heap:=h',toks:=t' }:=I.un (Un.kept k) (I.hok.kept k)
theorem Inv.laid {a:af} {o:HO} {t':Nat} (I:Inv X pins σ H s) (k:∀ b u,s.heap.get? b=some u->h'.get? b=some u) (hp:s.heap.objs.size<=a) (new:nV X.prog X.w (upd H a o) h' a o) (ht:0<t':=by first|exact cY _|exact Inv.tk ‹_›|assumption|omega):
  Inv X pins σ (upd H a o) { s with heap:=h',toks:=t' }:=I.un (Un.laid k hp (I.hok.fresh hp)) (I.hok.laid k hp new)
theorem Inv.write (I:Inv X pins σ H s) (mu:Dx (H x)) (he:e=x\/H e=some (.own x)) (k:∀ b u,b≠e->s.heap.get? b=some u->h'.get? b=some u) (AZ:∃ u,h'.get? e=some u)
  (new:nV X.prog X.w (upd H x o) h' x o) (ht:0<t':=by first|exact cY _|exact Inv.tk ‹_›|assumption|omega):Inv X pins σ (upd H x o) { s with heap:=h',toks:=t' }:=I.un (Un.write mu he k AZ) (I.hok.write mu he k AZ new)
theorem Inv.weak (I:Inv X pins σ H s) (hl:σ'.length=σ.length) (w:∀ (i:Nat) v,σ'[i]?=some (some v)->σ[i]?=some (some v)):Inv X pins σ' H s:=
 ⟨I.ok,I.os,I.bare,I.base,let ⟨m,hn,rA⟩:=I.loc;⟨m,hn,fun i x v e1 e2 e3=>rA i x v e1 (w i v e2) e3⟩,I.cell,I.free,I.freeC,I.pin,I.hok,hl.trans I.len,I.tk⟩
theorem Inv.pins_of (I:Inv X pins σ H s) (h:∀ p∈Co,s.heap.get? p.1=some p.2/\H p.1=none/\p.1≠X.env.locals/\p.1∉X.fs/\∀ v,p.2.data ≠ .cell v):Inv X Co σ H s:=
 ⟨I.ok,I.os,I.bare,I.base,I.loc,I.cell,I.free,I.freeC,fun p hp=>(aN.mp hp).elim (fun z=>I.pin p (cK _ z)) (h p),I.hok,I.len,I.tk⟩
theorem GX {N:List Str} (hN:N.Nodup) {i j:Nat} {x:Str} (a:N[i]?=some x) (b:N[j]?=some x):i=j:=by
 obtain ⟨h1,e1⟩:=al.mp a
 obtain ⟨h2,e2⟩:=al.mp b
 exact (jK hN).mp (e1.trans e2.symm)
theorem Nr {M:iC} {A:aW} {E:ae->ag->Prop} {i:Nat} {x:Str} {v:V} {u:ae} {Q:Unit->ag->Prop} (I:Inv X pins σ H s) (hN:X.N.Nodup) (hi:X.N[i]?=some x) (hx:Loc X.env.scope x) (r:RelV v u)
  (h:∀ s',Inv X pins (σ.set i (some v)) H s'->(∃ a,cM a s.heap s'.heap/\(a=X.env.locals\/X.env.cells.lookup x=some a))->Q () s') (hf:X.fn x=true\/X.env.scope.names.lookup x=some .local:=by first|exact .inl rfl|exact .inr rfl|assumption):am M A (storeName X.env x u) Q E s:=by
 obtain ⟨m,hn,hl⟩:=id I.loc
 have ui:(X.env.scope.kind == .class||(X.env.scope.kind == .module&&X.env.locals !=X.env.globals))=false:=by rw [I.ok.kind];rfl
 have C5:i<σ.length:=by rw [I.len];exact (al.mp hi).1
 have cne:=I.cne
 have tracked:∀ {a:af} {h':aT},(∃ o,s.heap.get? a=some o/\H a=none)->cM a s.heap h'->HOk X.prog X.w H h':=fun {a h'} ha hs b ob e=>by
  obtain ⟨_,_,pR⟩:=ha
  refine (I.hok b ob e).stay (fun c w' hc q=>(hs.2 c ?_).trans q) (fun _ q=>q) fun _ _ q=>q
  rintro rfl
  rcases hc with rfl|hc
  ·rw [pR] at e;cases e
  ·rw [pR] at hc;cases hc
 rcases hx with hk|hk
 ·refine wpAny_storeName_local hk hn (fun h' wL hs=>?_) ui
  obtain ⟨oL,_,_,hoL,_⟩:=id hn
  refine h _ ⟨I.ok,I.os,I.bare,⟨fun b o e n hb hx=>?_,fun b o e n hb hx=>?_,I.base.free,fun b o e hx=>?_,I.base.tups,I.base.frzs,I.base.tbls⟩,⟨_,wL,fun j y v' e1 e2 e3=>?_⟩,fun y c e=>?_,I.free,I.freeC,fun p hp=>?_,tracked ⟨oL,hoL,I.free⟩ hs,by simpa using I.len,cY _⟩ ⟨_,hs,.inl rfl⟩
  ·exact (hs.2 b (bi (aV (aG e) I.ok.above))).trans (I.base.keep b o e n hb hx)
  ·obtain ⟨sl,e1⟩:=I.base.slot b o e n hb hx
   exact ⟨sl,(hs.2 b (bi (aV (aG e) I.ok.above))).trans e1⟩
  ·obtain ⟨o',e1⟩:=I.base.there b o e hx
   exact ⟨o',(hs.2 b (bi (aV (aG e) I.ok.above))).trans e1⟩
  ·by_cases hj:j=i
   ·subst hj
    rw [hi] at e1;cases e1
    rw [ba C5] at e2
    cases e2
    exact ⟨u,r,.inl ⟨hk,by simp⟩⟩
   ·rw [a8 (bq hj)] at e2
    obtain ⟨u',r',q⟩:=hl j y v' e1 e2 e3
    refine ⟨u',r',?_⟩
    rcases q with ⟨k,e⟩|⟨k,c,e,z⟩
    ·refine .inl ⟨k,?_⟩
     have:y≠x:=fun e=>hj (GX hN e1 (e▸hi))
     simp [this,e]
    ·exact .inr ⟨k,c,e,z.sameBut hs (cne y c e)⟩
  ·obtain ⟨w',z⟩:=I.cell y c e
   exact ⟨w',z.sameBut hs (cne y c e)⟩
  ·obtain ⟨e,n,ne,nf,d⟩:=I.pin p hp
   exact ⟨(hs.2 p.1 ne).trans e,n,ne,nf,d⟩
 ·have AX:X.fn x=true:=by
   rcases hf with z|z
   ·exact z
   ·rw [z] at hk;cases hk
  obtain ⟨c,hc⟩:=I.ok.has x (.inl hk)
  obtain ⟨w',z⟩:=I.cell x c hc
  refine wpAny_storeName_cell I.ok.kind hk hc z (fun h' zw hs=>?_)
  obtain ⟨oc,Fs,IM⟩:=id z
  refine h { s with heap:=h' } ⟨I.ok,I.os,I.bare,⟨fun b o e n hb hx=>?_,fun b o e n hb hx=>?_,I.base.free,fun b o e hx=>?_,I.base.tups,I.base.frzs,I.base.tbls⟩,⟨m,hn.sameBut hs (bq (cne x c hc)),fun j y v' e1 e2 e3=>?_⟩,fun y c' e=>?_,I.free,I.freeC,fun p hp=>?_,tracked ⟨oc,Fs,I.freeC x c hc⟩ hs,by simpa using I.len,I.tk⟩ ⟨c,hs,.inr hc⟩
  ·exact (hs.2 b (bi (aV (aG e) (I.ok.cab x c AX hc)))).trans (I.base.keep b o e n hb hx)
  ·obtain ⟨sl,e1⟩:=I.base.slot b o e n hb hx
   exact ⟨sl,(hs.2 b (bi (aV (aG e) (I.ok.cab x c AX hc)))).trans e1⟩
  ·obtain ⟨o',e1⟩:=I.base.there b o e hx
   exact ⟨o',(hs.2 b (bi (aV (aG e) (I.ok.cab x c AX hc)))).trans e1⟩
  ·by_cases hj:j=i
   ·subst hj
    rw [hi] at e1;cases e1
    rw [ba C5] at e2
    cases e2
    exact ⟨u,r,.inr ⟨.inl hk,c,hc,zw⟩⟩
   ·rw [a8 (bq hj)] at e2
    obtain ⟨u',r',q⟩:=hl j y v' e1 e2 e3
    refine ⟨u',r',?_⟩
    rcases q with q|⟨k,c',e,z'⟩
    ·exact .inl q
    ·refine .inr ⟨k,c',e,z'.sameBut hs ?_⟩
     rintro rfl
     exact hj (GX hN e1 (I.ok.inj _ _ _ e hc▸hi))
  ·by_cases wt:c'=c
   ·subst wt;exact ⟨_,zw⟩
   ·obtain ⟨w2,z2⟩:=I.cell y c' e
    exact ⟨w2,z2.sameBut hs wt⟩
  ·obtain ⟨e,n,ne,nf,d⟩:=I.pin p hp
   refine ⟨(hs.2 p.1 ?_).trans e,n,ne,nf,d⟩
   intro q
   rw [q,Fs] at e
   have q':oc=p.2:=bV e
   exact d w' (by rw [<- q'];exact IM)
theorem Ez (I:Inv X pins σ H s) (hN:X.N.Nodup) (hi:X.N[i]?=some x) (hx:Loc X.env.scope x) (r:RelV v u)
  (h:∀ s',Inv X pins (σ.set i (some v)) H s'->Q () s') (hf:X.fn x=true\/X.env.scope.names.lookup x=some .local:=by first|exact .inl rfl|exact .inr rfl|assumption):am M A (storeName X.env x u) Q E s:=
 Nr I hN hi hx r (fun s' I' _=>h s' I') hf
theorem Inv.call' (I:Inv X pins σ H s) (ho:s'.os=s.os) (u:Un (ql X.stack) ch H H' s.heap s'.heap) (hok:HOk X.prog X.w H' s'.heap) (hg:f8 s'.gens)
  (wM:∀ b∈ch,(b∈X.ex\/X.s₀.heap.objs.size<=b)/\b≠X.env.locals/\(∀ x c,X.env.cells.lookup x=some c->c≠b)/\∀ p∈X.pn++pins,p.1≠b) (ht:0<s'.toks:=by first|exact cY _|exact Inv.tk ‹_›|assumption|omega):Inv X pins σ H' s':=by
 obtain ⟨h',g',d',t',o'⟩:=s'
 have e:o'=s.os:=ho
 subst e
 exact I.call (g':=g') (t':=t') (d':=d') u hok hg wM
end
abbrev XK:=ae->Option af->Hp->Prop
abbrev St:=List (Option V)
abbrev VK:=V->Hp->Prop
abbrev TE:=St->Hp->VK->Prop
abbrev TT:=St->Hp->(Bool->Hp->Prop)->Prop
abbrev TA:=St->Hp->(List V->Hp->Prop)->Prop
structure vO where
 nx:St->Hp->Prop
 rt:VK
 bk:St->Hp->Prop:=fun _ _=>False
 ct:St->Hp->Prop:=fun _ _=>False
abbrev TS:=vO->St->Hp->Prop
noncomputable def EP (X:Cx) (pins:List (af×Obj)) (σ:St) (Q:VK) (u:ae) (s':ag):Prop:=∃ v H',Inv X pins σ H' s'/\RelV v u/\Q v H'
noncomputable def TP (X:Cx) (pins:List (af×Obj)) (σ:St) (Q:Bool->Hp->Prop) (b:Bool) (s':ag):Prop:=∃ H',Inv X pins σ H' s'/\Q b H'
noncomputable def AP (X:Cx) (pins:List (af×Obj)) (σ:St) (Q:List V->Hp->Prop) (us:List ae) (s':ag):Prop:=∃ vs H',Inv X pins σ H' s'/\nK vs us/\Q vs H'
noncomputable def SP (X:Cx) (pins:List (af×Obj)) (D:vO) (f:Flow) (s':ag):Prop:=
 match f with
 | .next=>∃ σ' H',Inv X pins σ' H' s'/\D.nx σ' H'
 | .brk=>∃ σ' H',Inv X pins σ' H' s'/\D.bk σ' H'
 | .cont=>∃ σ' H',Inv X pins σ' H' s'/\D.ct σ' H'
 | .ret u=>∃ v σ' H',Inv X pins σ' H' s'/\RelV v u/\D.rt v H'
noncomputable def PE (X:Cx) (e:aQ) (t:TE):Prop:=
 ∀ (pins:List (af×Obj)) (s:ag) (σ:St) (H:Hp) (Q:VK),Inv X pins σ H s->t σ H Q->am (av X.prog X.w) X.A (eval e X.env) (EP X pins σ Q) X.xe s
noncomputable def PT (X:Cx) (e:aQ) (t:TT):Prop:=
 ∀ (pins:List (af×Obj)) (s:ag) (σ:St) (H:Hp) (Q:Bool->Hp->Prop),Inv X pins σ H s->t σ H Q->am (av X.prog X.w) X.A (isTrue e X.env (eval e X.env)) (TP X pins σ Q) X.xe s
noncomputable def PW (X:Cx) (e:aQ) (t:TT):Prop:=
 ∀ (whole:Sem ae) (pins:List (af×Obj)) (s:ag) (σ:St) (H:Hp) (Q:Bool->Hp->Prop),Inv X pins σ H s->t σ H Q->am (av X.prog X.w) X.A (isTrue e X.env whole) (TP X pins σ Q) X.xe s
theorem PW.pt (h:PW X e t):PT X e t:=h _
noncomputable def PA (X:Cx) (es:List aQ) (t:TA):Prop:=
 ∀ (pos:Pos) (pins:List (af×Obj)) (s:ag) (σ:St) (H:Hp) (Q:List V->Hp->Prop),Inv X pins σ H s->t σ H Q->am (av X.prog X.w) X.A (spliced (backTo pos (aD es X.env))) (AP X pins σ Q) X.xe s
noncomputable def PS (X:Cx) (st:dh) (t:TS):Prop:=
 ∀ (pins:List (af×Obj)) (s:ag) (σ:St) (H:Hp) (D:vO),Inv X pins σ H s->t D σ H->am (av X.prog X.w) X.A (exec st X.env) (SP X pins D) X.xe s
noncomputable def qY (X:Cx) (st:List dh) (t:TS):Prop:=
 ∀ (pins:List (af×Obj)) (s:ag) (σ:St) (H:Hp) (D:vO),Inv X pins σ H s->t D σ H->am (av X.prog X.w) X.A (execs st X.env) (SP X pins D) X.xe s
theorem oV {α:Type} {t:Sem α} {Q Q':α->ag->Prop} {M:iC} {A:aW} {E:ae->ag->Prop} {s:ag} (h:am M A t Q E s) (hQ:∀ a s,Q a s->Q' a s):am M A t Q' E s:=dF h hQ fun _ _ x=>x
section
variable {X:Cx}
theorem bin {a b:aQ} {ta tb:TE} (ha:PE X a ta) (hb:PE X b tb) {pins:List (af×Obj)} {s:ag} {σ:St} {H:Hp} {R:V->V->Hp->Prop} (I:Inv X pins σ H s) (h:ta σ H fun x H1=>tb σ H1 fun y H2=>R x y H2)
  {α:Type} {Q:α->ag->Prop} {f:ae->ae->Sem α}
  (hf:∀ v u s2 x y H2,Inv X pins σ H2 s2->RelV x v->RelV y u->R x y H2->am (av X.prog X.w) X.A (f v u) Q X.xe s2):
  am (av X.prog X.w) X.A (eval a X.env) (fun v n_=>am (av X.prog X.w) X.A (eval b X.env) (fun u sj=>am (av X.prog X.w) X.A (f v u) Q X.xe sj) X.xe n_) X.xe s:=by
 refine oV (ha pins s σ H _ I h) fun v s1 ⟨x,H1,I1,r1,q1⟩=>?_
 refine oV (hb pins s1 σ H1 _ I1 q1) fun u s2 ⟨y,H2,I2,r2,q2⟩=>?_
 exact hf v u s2 x y H2 I2 r1 r2 q2
def JW (i:Nat):TE:=fun σ H Q=>∃ v,σ[i]?=some (some v)/\Q v H
def tC (v:V):TE:=fun _ H Q=>Q v H
theorem Gi (hN:X.N[i]?=some x) (hv:sI X.env.scope x) (hd:(x==("__debug__":Str))=false:=by decide) (pY:(x==("__classdict__":Str))=false:=by decide):PE X (.Name x pos) (JW i):=by
 intro pins s σ H Q I h
 obtain ⟨v,e,h⟩:=h
 obtain ⟨m,hn,hl⟩:=I.loc
 obtain ⟨u,r,l⟩:=hl i x v hN e hv
 have fin:EP X pins σ Q u s:=⟨v,H,I,r,h⟩
 rcases l with ⟨hk,hm⟩|⟨hk,c,hc,qP⟩
 ·exact iD (kP I.ok.kind hk hn hm fin) hd
 ·rcases hk with hk|hk
  ·exact iD (lm I.ok.kind hk hc qP fin) hd
  ·exact iD (lp I.ok.kind hk hc qP fin pY) hd
theorem Lk:PE X (.Constant (.int i) j pos) (tC (.int i)):=fun _ _ _ H _ I h=>wpAny_Constant_int ⟨.int i,H,I.tok _,⟨_,rfl⟩,h⟩
theorem QV:PE X (.Constant (.bool b) j pos) (tC (.bl b)):=fun _ _ _ H _ I h=>Constant_bool ⟨.bl b,H,I,rfl,h⟩
theorem Gk:PE X (.Constant .none j pos) (tC .non):=fun _ _ _ H _ I h=>Constant_none ⟨.non,H,I,rfl,h⟩
theorem Lw:PE X (.Constant (.str x) j pos) (tC (.str x)):=fun _ _ _ H _ I h=>jd ⟨.str x,H,I.tok _,⟨_,rfl⟩,h⟩
def Gl (X:Cx) (x:Str):Prop:=X.env.kindOf x=some .globalImplicit
theorem Bz (I:Inv X pins σ H s) (hg:Gl X x) (hm:X.mg x=some u) (h:Q u s)
  (hd:(x==("__debug__":Str))=false:=by decide):am (av X.prog X.w) X.A (eval (.Name x pos) X.env) Q E s:=
 jl I.ok.kind hg (Calls.loadGlobal_global (by rw [I.ok.glob];exact I.mod.glob.keeps I.bk) hm h) hd
theorem zZ (I:Inv X pins σ H s) (hg:Gl X x) (hm:X.mg x=none) (hv:a9 x=some u) (h:Q u s)
  (hn:x ≠ "__name__":=by decide) (hd:(x==("__debug__":Str))=false:=by decide):am (av X.prog X.w) X.A (eval (.Name x pos) X.env) Q E s:=by
 obtain ⟨mb,h1,h2⟩:=I.mod.blt
 exact jl I.ok.kind hg (Calls.loadGlobal_builtin (by rw [I.ok.glob];exact I.mod.glob.keeps I.bk) hm (by rw [I.ok.blt];exact h1.keeps I.bk) ((h2 x hn).trans hv) h) hd
theorem BB (hg:Gl X x) (hm:X.mg x=some u) (r:RelV v u) (hd:(x==("__debug__":Str))=false:=by decide):PE X (.Name x pos) (tC v):=
 fun _ _ _ H _ I h=>Bz I hg hm ⟨v,H,I,r,h⟩ hd
theorem El (hg:Gl X x) (hm:X.mg x=none) (hv:a9 x=some u) (r:RelV v u) (hn:x ≠ "__name__":=by decide) (hd:(x==("__debug__":Str))=false:=by decide):PE X (.Name x pos) (tC v):=
 fun _ _ _ H _ I h=>zZ I hg hm hv ⟨v,H,I,r,h⟩ hn hd
variable {a b:aQ} {ta tb:TE} {pos:Pos}
noncomputable def PC (X:Cx) (op:CmpOp) (a b:aQ) (t:TE):Prop:=
 ∀ (pins:List (af×Obj)) (s:ag) (σ:St) (H:Hp) (Q:VK),Inv X pins σ H s->t σ H Q->
  am (av X.prog X.w) X.A (eval a X.env) (fun v n_=>am (av X.prog X.w) X.A (eval b X.env) (fun u sj=>am (av X.prog X.w) X.A (cw op v u) (EP X pins σ Q) X.xe sj) X.xe n_) X.xe s
theorem Mr (b:aQ) (h:op ≠ .In) (h2:op ≠ .NotIn):behindInMarks op b=false:=by
 have e1:(op==CmpOp.In)=false:=by cases op<;>first|rfl|exact absurd rfl h
 have e2:(op==CmpOp.NotIn)=false:=by cases op<;>first|rfl|exact absurd rfl h2
 cases b<;>simp [behindInMarks,e1,e2]
def tB (t:TE):TT:=fun σ H Q=>t σ H fun x H1=>∃ c,x=.bl c/\Q c H1
theorem SK (h:PC X op a b t) (h1:behindInMarks op b=false:=by first|exact Mr _ (by decide) (by decide)|rfl):PE X (.Compare a [op] [b] pos) t:=fun pins s σ H Q I hw=>wpAny_Compare1 (h pins s σ H Q I hw) h1
theorem RB {op:CmpOp} {t:TE} (h:PC X op a b t) (h1:behindInMarks op b=false:=by first|exact Mr _ (by decide) (by decide)|rfl):PT X (.Compare a [op] [b] pos) (tB t):=by
 intro pins s σ H Q I hw
 refine ku (oV (h pins s σ H _ I hw) fun v s1 h1=>oV h1 fun u s2 h2=>oV h2 fun c s3 ⟨x,H1,I1,r1,q1⟩=>?_) h1
 obtain ⟨d,rfl,q⟩:=q1
 cases r1
 exact dQ ⟨H1,I1,q⟩
variable {tA E_:TT} {pA:List aQ}
noncomputable def Qg (t u:TT):TT:=fun σ H Q=>t σ H fun c H1=>if c=true then u σ H1 Q else Q false H1
noncomputable def tOr (t u:TT):TT:=fun σ H Q=>t σ H fun c H1=>if c=true then Q true H1 else u σ H1 Q
def Qh (t:TT):TT:=fun σ H Q=>t σ H fun c H1=>Q (!c) H1
theorem Vp (ha:PT X a tA):PW X (.BoolOp .And [a] pos) tA:=by
 intro wh pins s σ H Q I h
 refine isTrue_and (oV (ha pins s σ H Q I h) fun c s1 e=>?_)
 cases c with
 | true=>exact isTrue_and_nil e
 | false=>exact e
theorem Tz (ha:PT X a tA):PW X (.BoolOp .Or [a] pos) tA:=by
 intro wh pins s σ H Q I h
 refine isTrue_or (oV (ha pins s σ H Q I h) fun c s1 e=>?_)
 cases c with
 | false=>exact isTrue_or_nil e
 | true=>exact e
theorem SY (ha:PT X a tA) (hb:PW X (.BoolOp .And (b::pA) pos) E_):PW X (.BoolOp .And (a::b::pA) pos) (Qg tA E_):=by
 intro wh pins s σ H Q I h
 refine isTrue_and (oV (ha pins s σ H _ I h) fun c s1 ⟨H1,I1,q1⟩=>?_)
 cases c with
 | true=>exact hb wh pins s1 σ H1 Q I1 q1
 | false=>exact ⟨H1,I1,q1⟩
theorem QT (ha:PT X a tA) (hb:PW X (.BoolOp .Or (b::pA) pos) E_):PW X (.BoolOp .Or (a::b::pA) pos) (tOr tA E_):=by
 intro wh pins s σ H Q I h
 refine isTrue_or (oV (ha pins s σ H _ I h) fun c s1 ⟨H1,I1,q1⟩=>?_)
 cases c with
 | true=>exact ⟨H1,I1,q1⟩
 | false=>exact hb wh pins s1 σ H1 Q I1 q1
theorem Rx (ha:PT X a tA):PT X (.UnaryOp .Not a pos) (Qh tA):=by
 intro pins s σ H Q I h
 exact isTrue_not (ha pins s σ H (fun c H1=>Q (!c) H1) I h)
noncomputable def Rn (ta tb:TE):TE:=fun σ H Q=>ta σ H fun x H1=>∃ c,x=.bl c/\if c=true then tb σ H1 Q else Q (.bl false) H1
noncomputable def Qe (ta tb:TE):TE:=fun σ H Q=>ta σ H fun x H1=>∃ c,x=.bl c/\if c=true then Q (.bl true) H1 else tb σ H1 Q
def Q0 (ta:TE):TE:=fun σ H Q=>ta σ H fun x H1=>∃ c,x=.bl c/\Q (.bl (!c)) H1
theorem RV (h:PE X a t):PE X (.BoolOp op [a] pos) t:=fun pins s σ H Q I hw=>BoolOp_one (h pins s σ H Q I hw)
theorem So (ha:PE X a ta) (hb:PE X (.BoolOp .And (b::pA) pos) tb):PE X (.BoolOp .And (a::b::pA) pos) (Rn ta tb):=by
 intro pins s σ H Q I h
 refine BoolOp_and (oV (ha pins s σ H _ I h) fun v s1 ⟨x,H1,I1,r1,q1⟩=>?_)
 obtain ⟨c,rfl,q1⟩:=q1
 cases r1
 refine dQ ?_
 cases c with
 | true=>exact hb pins s1 σ H1 Q I1 q1
 | false=>exact ⟨.bl false,H1,I1,rfl,q1⟩
theorem QK (ha:PE X a ta) (hb:PE X (.BoolOp .Or (b::pA) pos) tb):PE X (.BoolOp .Or (a::b::pA) pos) (Qe ta tb):=by
 intro pins s σ H Q I h
 refine BoolOp_or (oV (ha pins s σ H _ I h) fun v s1 ⟨x,H1,I1,r1,q1⟩=>?_)
 obtain ⟨c,rfl,q1⟩:=q1
 cases r1
 refine dQ ?_
 cases c with
 | false=>exact hb pins s1 σ H1 Q I1 q1
 | true=>exact ⟨.bl true,H1,I1,rfl,q1⟩
theorem RD (ha:PE X a ta):PE X (.UnaryOp .Not a pos) (Q0 ta):=by
 intro pins s σ H Q I h
 refine UnaryOp_ (oV (ha pins s σ H _ I h) fun v s1 ⟨x,H1,I1,r1,q1⟩=>?_)
 obtain ⟨c,rfl,q1⟩:=q1
 cases r1
 exact not_of (dQ ⟨.bl (!c),H1,I1,rfl,q1⟩)
end
noncomputable def pV (K:ai) (H:Hp) (a:af) (xs:List V):Prop:=
 Rd H a (.lst xs) \/
  ∃ (o:Obj) (f_:Array ae) (n:Nat),K.lookup a=some o/\o.cls=.type "list"/\o.dict=none/\o.data=.seq f_ n/\f_.size<=sizeLine/\nK xs f_.toList
noncomputable def qu (K:ai) (H:Hp) (a:af) (xs:List V):Prop:=
 Rd H a (.tup xs) \/
  ∃ (o:Obj) (f_:Array ae) (n:Nat),K.lookup a=some o/\o.cls=.type "tuple"/\o.data=.seq f_ n/\f_.size<=sizeLine/\nK xs f_.toList
noncomputable def Qo:ae->Option V
 | .none=>some .non
 | .bool b=>some (.bl b)
 | .int i _=>some (.int i)
 | .str x _=>some (.str x)
 | .bytes b _=>some (.byt b)
 | .float b _=>some (.flt b)
 | .ref a=>some (.ref a)
 | .type n=>some (.ty n)
 | _=>none
theorem RelV.abs (r:RelV x u):Qo u=some x:=by
 cases x with
 | non=>cases r;rfl
 | bl _=>cases r;rfl
 | int _=>obtain ⟨t,rfl⟩:=r;rfl
 | str _=>obtain ⟨t,rfl⟩:=r;rfl
 | byt _=>obtain ⟨t,rfl⟩:=r;rfl
 | flt _=>obtain ⟨t,rfl⟩:=r;rfl
 | ref _=>cases r;rfl
 | ty _=>cases r;rfl
theorem RelV.inj (r:RelV x u) (q:RelV y u):x=y:=bV (r.abs.symm.trans q.abs)
theorem nK.inj:∀ {xs ys:List V} {us:List ae},nK xs us->nK ys us->xs=ys
 | _,_,_,.nil,.nil=>rfl
 | _,_,_,.cons r t,.cons r' t'=>by rw [r.inj r',nK.inj t t']
section
variable {X:Cx} {pins:List (af×Obj)} {σ:St} {H:Hp} {s:ag} {a:af} {xs ys:List V}
theorem pV.of {K:ai} (h:H a=some (.lst xs)):pV K H a xs:=.inl (.inl h)
theorem qu.of {K:ai} (h:H a=some (.tup xs)):qu K H a xs:=.inl (.inl h)
theorem Inv.list (I:Inv X pins σ H s) (h:pV X.K H a xs):∃ f_:List ae,nK xs f_/\PlainL s.heap a f_.toArray/\xs.length<=sizeLine:=by
 rcases h with h|⟨o,f_,n,hk,hc,hd,hs,hz,r⟩
 ·obtain ⟨z,f_,n,r,e⟩:=h.ok I.hok
  exact ⟨f_,r,⟨_,n,e,rfl,rfl,rfl⟩,z⟩
 ·refine ⟨f_.toList,r,⟨o,n,I.kIn a o hk,hc,hd,by simpa using hs⟩,?_⟩
  have e:=r.length
  simp only [aB] at e
  omega
theorem Inv.tuple (I:Inv X pins σ H s) (h:qu X.K H a xs):∃ f_:List ae,nK xs f_/\IsTup s.heap a f_.toArray/\xs.length<=sizeLine:=by
 rcases h with h|⟨o,f_,n,hk,hc,hs,hz,r⟩
 ·obtain ⟨z,f_,r,p⟩:=h.ok I.hok
  exact ⟨f_,r,p.tup,z⟩
 ·refine ⟨f_.toList,r,⟨o,I.kIn a o hk,hc,n,by simpa using hs⟩,?_⟩
  have e:=r.length
  simp only [aB] at e
  omega
theorem Inv.list_inj (I:Inv X pins σ H s) (h:pV X.K H a xs) (h':pV X.K H a ys):xs=ys:=by
 obtain ⟨f_,r,⟨o,n,e,_,_,d⟩,_⟩:=I.list h
 obtain ⟨its',r',⟨o',n',e',_,_,d'⟩,_⟩:=I.list h'
 rw [e] at e';cases e'
 rw [d] at d'
 injection d' with d1 _
 have:f_=its':=by simpa using congrArg lF d1
 subst this
 exact r.inj r'
theorem Inv.tuple_inj (I:Inv X pins σ H s) (h:qu X.K H a xs) (h':qu X.K H a ys):xs=ys:=by
 obtain ⟨f_,r,⟨o,e,_,n,d⟩,_⟩:=I.tuple h
 obtain ⟨its',r',⟨o',e',_,n',d'⟩,_⟩:=I.tuple h'
 rw [e] at e';cases e'
 rw [d] at d'
 injection d' with d1 _
 have:f_=its':=by simpa using congrArg lF d1
 subst this
 exact r.inj r'
end
abbrev Cx.wish (X:Cx) (E:ae->ag->Prop):Cx:={ X with xe:=E }
abbrev Cx.nox (X:Cx):Cx:=X.wish fun _ _=>False
theorem Cx.Ok.wish {X:Cx} (ok:X.Ok) (E:ae->ag->Prop):(X.wish E).Ok:=
 ⟨ok.mod,ok.kind,ok.glob,ok.blt,ok.above,ok.inj,ok.has,ok.cab,ok.hd,ok.frames,ok.stk,ok.exf,ok.bs,ok.bsz,ok.noex,ok.exfs,ok.funs,ok.frf⟩
theorem Cx.Ok.unwish {X:Cx} {E:ae->ag->Prop} (ok:(X.wish E).Ok):X.Ok:=
 ⟨ok.mod,ok.kind,ok.glob,ok.blt,ok.above,ok.inj,ok.has,ok.cab,ok.hd,ok.frames,ok.stk,ok.exf,ok.bs,ok.bsz,ok.noex,ok.exfs,ok.funs,ok.frf⟩
section
variable {X:Cx} {pins:List (af×Obj)} {σ:St} {H:Hp} {s:ag} {E:ae->ag->Prop}
theorem Inv.wish (I:Inv X pins σ H s) (E:ae->ag->Prop):Inv (X.wish E) pins σ H s:=⟨I.ok.wish E,I.os,I.bare,I.base,I.loc,I.cell,I.free,I.freeC,I.pin,I.hok,I.len,I.tk⟩
theorem Inv.unwish (I:Inv (X.wish E) pins σ H s):Inv X pins σ H s:=⟨I.ok.unwish,I.os,I.bare,I.base,I.loc,I.cell,I.free,I.freeC,I.pin,I.hok,I.len,I.tk⟩
theorem SP.unwish {D:vO} {f:Flow} {s':ag} (h:SP (X.wish E) pins D f s'):SP X pins D f s':=by
 cases f with
 | next=>obtain ⟨σ',H',I,q⟩:=h;exact ⟨σ',H',I.unwish,q⟩
 | brk=>obtain ⟨σ',H',I,q⟩:=h;exact ⟨σ',H',I.unwish,q⟩
 | cont=>obtain ⟨σ',H',I,q⟩:=h;exact ⟨σ',H',I.unwish,q⟩
 | ret u=>obtain ⟨v,σ',H',I,r,q⟩:=h;exact ⟨v,σ',H',I.unwish,r,q⟩
theorem PE.nox (h:PE X.nox e t):PE X e t:=fun pins s σ H Q I hw=>
 dF (h pins s σ H Q (I.wish _) hw) (fun _ _ ⟨v,H',I',r,q⟩=>⟨v,H',I'.unwish,r,q⟩) fun _ _ z=>ak z
theorem PT.nox (h:PT X.nox e t):PT X e t:=fun pins s σ H Q I hw=>
 dF (h pins s σ H Q (I.wish _) hw) (fun _ _ ⟨H',I',q⟩=>⟨H',I'.unwish,q⟩) fun _ _ z=>ak z
theorem qY.nox {st:List dh} {t:TS} (h:qY X.nox st t):qY X st t:=fun pins s σ H D I hw=>
 dF (h pins s σ H D (I.wish _) hw) (fun _ _ q=>q.unwish) fun _ _ z=>ak z
end
section
variable {X:Cx} {st:dh} {pA:List dh} {t u:TS} {e:aQ} {te:TE} {pos:Pos}
def Kq:TS:=fun D σ H=>D.nx σ H
def Qi (t u:TS):TS:=fun D σ H=>t { D with nx:=u D } σ H
theorem L4:qY X [] Kq:=fun _ _ σ H _ I h=>fO ⟨σ,H,I,h⟩
theorem MC (h1:PS X st t) (h2:qY X pA u):qY X (st::pA) (Qi t u):=by
 intro pins s σ H D I h
 refine ge (oV (h1 pins s σ H { D with nx:=u D } I h) fun f s1 q=>?_)
 cases f with
 | next=>
  obtain ⟨σ',H',I',q⟩:=q
  exact h2 pins s1 σ' H' D I' q
 | ret v=>exact q
 | brk=>exact q
 | cont=>exact q
theorem Uj (h1:PS X st t):qY X [st] t:=by
 intro pins s σ H D I h
 refine ge (oV (h1 pins s σ H D I h) fun f s1 q=>?_)
 cases f with
 | next=>exact fO q
 | ret v=>exact q
 | brk=>exact q
 | cont=>exact q
theorem Uo:PS X (.Pass pos) Kq:=fun _ _ σ H _ I h=>wpAny_Pass ⟨σ,H,I,h⟩
theorem Inv.quiet {pins:List (af×Obj)} {σ:St} {H:Hp} {s:ag} (I:Inv X pins σ H s):interactive X.env=false:=by simp [interactive,I.ok.kind]
def Q6 (te:TE):TS:=fun D σ H=>te σ H fun _ H1=>D.nx σ H1
theorem Vv (he:PE X e te) (hs:swapsWith e none pos.line X.env=pure false:=by rfl):PS X (.Expr e pos) (Q6 te):=by
 intro pins s σ H D I h
 exact wpAny_Expr_any (oV (he pins s σ H _ I h) fun v s1 ⟨x,H1,I1,r1,q1⟩=>⟨σ,H1,I1,q1⟩) I.quiet hs
def QJ (te:TE):TS:=fun D σ H=>te σ H D.rt
theorem Sa (he:PE X e te):PS X (.Return (some e) pos) (QJ te):=by
 intro pins s σ H D I h
 exact wpAny_Return_some (oV (he pins s σ H _ I h) fun v s1 ⟨x,H1,I1,r1,q1⟩=>⟨x,σ,H1,I1,r1,q1⟩)
noncomputable def Qn (c:TT) (t u:TS):TS:=fun D σ H=>c σ H fun b H1=>if b=true then t D σ H1 else u D σ H1
theorem Rj {c:aQ} {a b:List dh} {tc:TT} (hc:PT X c tc) (ha:qY X a t) (hb:qY X b u):PS X (.If c a b pos) (Qn tc t u):=by
 intro pins s σ H D I h
 refine wpAny_If (oV (hc pins s σ H _ I h) fun d s1 ⟨H1,I1,q1⟩=>?_)
 cases d with
 | true=>exact ha pins s1 σ H1 D I1 q1
 | false=>exact hb pins s1 σ H1 D I1 q1
def RN:TS:=fun _ _ _=>False
theorem X3:qY X sts RN:=fun _ _ _ _ _ _ h=>h.elim
end
abbrev TG:=V->St->Hp->(St->Hp->Prop)->Prop
abbrev A5:=List V->St->Hp->(St->Hp->Prop)->Prop
noncomputable def PG (X:Cx) (target:aQ) (t:TG):Prop:=
 ∀ (pins:List (af×Obj)) (s:ag) (σ:St) (H:Hp) (v:V) (u:ae) (Q:St->Hp->Prop),Inv X pins σ H s->RelV v u->t v σ H Q->
  am (av X.prog X.w) X.A (assign target X.env u) (fun _ s'=>∃ σ' H',Inv X pins σ' H' s'/\Q σ' H') X.xe s
noncomputable def FJ (X:Cx) (ts:List aQ) (t:A5):Prop:=
 ∀ (pins:List (af×Obj)) (s:ag) (σ:St) (H:Hp) (vs:List V) (us:List ae) (Q:St->Hp->Prop),Inv X pins σ H s->nK vs us->t vs σ H Q->
  am (av X.prog X.w) X.A (assignInOrder ((gO ts X.env).map (·.2)) us) (fun _ s'=>∃ σ' H',Inv X pins σ' H' s'/\Q σ' H') X.xe s
abbrev FY:=V->V->V->Hp->(Hp->Prop)->Prop
noncomputable def J0 (X:Cx) (t:FY):Prop:=
 ∀ (pins:List (af×Obj)) (s:ag) (σ:St) (H:Hp) (o i v:V) (ov iv u:ae) (Q:Hp->Prop),Inv X pins σ H s->RelV o ov->RelV i iv->RelV v u->t o i v H Q->
  am (av X.prog X.w) X.A (setItem ov iv u) (fun _ s'=>∃ H',Inv X pins σ H' s'/\Q H') X.xe s
section
variable {X:Cx} {pos:Pos}
def Be (i:Nat):TG:=fun v σ H Q=>Q (σ.set i (some v)) H
theorem Ep (hN:X.N.Nodup) (hi:X.N[i]?=some x) (hx:Loc X.env.scope x) (hf:X.fn x=true\/X.env.scope.names.lookup x=some .local:=by first|exact .inl rfl|exact .inr rfl|assumption):PG X (.Name x pos) (Be i):=by
 intro pins s σ H v u Q I r h
 exact wpAny_assign_Name (Ez I hN hi hx r (fun s' I'=>⟨_,H,I',h⟩) hf)
def J5:A5:=fun vs σ H Q=>vs=[]/\Q σ H
noncomputable def Gf (t:TG) (u:A5):A5:=fun vs σ H Q=>∃ v r,vs=v::r/\t v σ H fun σ' H'=>u r σ' H' Q
theorem UT:FJ X [] J5:=by
 intro pins s σ H vs us Q I r h
 obtain ⟨e,h⟩:=h
 subst e
 cases r
 exact assignInOrder_nil ⟨σ,H,I,h⟩
theorem MP {e:aQ} {es:List aQ} {t:TG} {u:A5} (h1:PG X e t) (h2:FJ X es u)
  (hs:(gO (e::es) X.env).map (·.2)=assign e X.env::(gO es X.env).map (·.2):=by rfl):FJ X (e::es) (Gf t u):=by
 intro pins s σ H vs us Q I r h
 obtain ⟨v,vr,e1,h⟩:=h
 subst e1
 cases r with
 | cons r rr=>
  rw [hs]
  refine assignInOrder_cons (oV (h1 pins s σ H _ _ _ I r h) fun _ s1 ⟨pI,H1,I1,q1⟩=>?_)
  exact h2 pins s1 pI H1 _ _ Q I1 rr q1
noncomputable def J6 (K:ai) (n:Nat) (t:A5):TG:=fun v σ H Q=>∃ a xs,v=.ref a/\qu K H a xs/\xs.length=n/\t xs σ H Q
theorem TF (hc:X.calm=true) (h:FJ X es t)
  (hn:(gO es X.env).length=n:=by rfl) (rz:(gO es X.env).findIdx? (·.1)=none:=by rfl):PG X (.Tuple es k pos) (J6 X.K n t):=by
 intro pins s σ H v u Q I r hw
 obtain ⟨a,xs,e1,hq,hl,hw⟩:=hw
 subst e1
 cases r
 obtain ⟨f_,rv,ht,hz⟩:=I.tuple hq
 refine assign_Tuple_tuple (I.ok.hd hc) ht (by simp [hn,<- hl,rv.length]) rz fun h' hx=>?_
 have I1:Inv X pins σ H { s with heap:=h' }:=I.kept (t':=s.toks) fun b o e=>hx b o (bi (aG e)) e
 exact h pins _ σ H xs _ Q I1 (by simpa using rv) hw
noncomputable def vT (to ti:TE) (t:FY):TG:=fun v σ H Q=>to σ H fun o H1=>ti σ H1 fun i H2=>t o i v H2 fun H3=>Q σ H3
theorem Ru {o i:aQ} {to ti:TE} {t:FY} (ho:PE X o to) (hi:PE X i ti) (hs:J0 X t)
  (ha:∀ v,assign (.Subscript o i pos) X.env v=(do
   let ov <- holding [v] (eval o X.env)
   let iv <- holding [v,ov] (eval i X.env)
   standAt pos
   holding [v,ov,iv] (setItem ov iv v)
   release [v,ov,iv] []):=by intro _;rfl):PG X (.Subscript o i pos) (vT to ti t):=by
 intro pins s σ H v u Q I r h
 rw [ha]
 refine aa (cb (oV (ho pins s σ H _ I h) fun ov s1 ⟨x,H1,I1,r1,q1⟩=>?_))
 refine aa (cb (oV (hi pins s1 σ H1 _ I1 q1) fun iv s2 ⟨y,H2,I2,r2,q2⟩=>?_))
 refine aa (gg (aa (cb (oV (hs pins s2 σ H2 x y v ov iv u _ I2 r1 r2 r q2) fun _ s3 ⟨H3,I3,q3⟩=>?_))))
 exact wpAny_release ⟨σ,H3,I3,q3⟩
def J3 (te:TE) (g:TG):TS:=fun D σ H=>te σ H fun x H1=>g x σ H1 D.nx
theorem La {tg e:aQ} {te:TE} {g:TG} (he:PE X e te) (hg:PG X tg g) (hs:ic [tg] e pos.line X.env=pure false:=by rfl) (hw:ie [tg] e X.env=pure none:=by rfl)
  (h1:(gO [tg] X.env).map (·.2)=[assign tg X.env]:=by rfl):PS X (.Assign [tg] e pos) (J3 te g):=by
 intro pins s σ H D I h
 refine wpAny_Assign_stores (oV (he pins s σ H _ I h) fun v s1 ⟨x,H1,I1,r1,q1⟩=>?_) hs hw
 rw [h1]
 exact oV (hg pins s1 σ H1 x v _ I1 r1 q1) fun _ s2 q=>q
theorem K_ {i:Nat} {x:Str} {e:aQ} {te:TE} {pos':Pos} (hN:X.N.Nodup) (hi:X.N[i]?=some x) (hx:Loc X.env.scope x) (he:PE X e te) (hs:swapsWith e (some (.Name x pos')) pos.line X.env=pure false:=by rfl) (hf:X.fn x=true\/X.env.scope.names.lookup x=some .local:=by first|exact .inl rfl|exact .inr rfl|assumption):
  PS X (.Assign [.Name x pos'] e pos) (J3 te (Be i)):=by
 intro pins s σ H D I h
 refine wpAny_Assign_Name (oV (he pins s σ H _ I h) fun v s1 ⟨y,H1,I1,r1,q1⟩=>?_) hs
 exact Ez I1 hN hi hx r1 (fun s2 I2=>⟨_,H1,I2,q1⟩) hf
end
section
variable {X:Cx} {pos:Pos}
noncomputable def RL (c:TT) (tb:TS):TS:=fun D σ H=>∃ W:Nat->St->Hp->Prop,(∃ m,W m σ H)/\∀ m σ H,W m σ H->
 c σ H fun b H1=>if b=true then ∃ N:St->Hp->Prop,(∀ σ' H',N σ' H'->∃ m',m'<m/\W m' σ' H')/\tb { D with nx:=N,ct:=N,bk:=D.nx } σ H1 else D.nx σ H1
theorem WD {c:aQ} {body:List dh} {tc:TT} {tb:TS} (hp:j0 (av X.prog X.w) X.A X.env X.xe) (hc:PT X c tc) (hb:qY X body tb):PS X (.While c body [] pos) (RL tc tb):=by
 intro pins s σ H D I h
 obtain ⟨W,⟨m0,w0⟩,turn⟩:=h
 refine wpAny_While (codeAny_whileLoop (fun n s'=>∃ σ' H',Inv X pins σ' H' s'/\W n σ' H') ?_ m0 ⟨σ,H,I,w0⟩)
 rintro n s1 ⟨pI,H1,I1,w1⟩
 refine eV hp (oV (hc pins s1 pI H1 _ I1 (turn n pI H1 w1)) fun b s2 ⟨H2,I2,q2⟩=>?_)
 cases b with
 | true=>
  obtain ⟨N,hN,q2⟩:=q2
  rw [if_pos rfl]
  refine eV hp (oV (hb pins s2 pI H2 _ I2 q2) fun f s3 q3=>?_)
  cases f with
  | next=>
   obtain ⟨qT,H3,I3,n3⟩:=q3
   obtain ⟨m',hm,w3⟩:=hN qT H3 n3
   exact ⟨m',hm,qT,H3,I3,w3⟩
  | cont=>
   obtain ⟨qT,H3,I3,n3⟩:=q3
   obtain ⟨m',hm,w3⟩:=hN qT H3 n3
   exact ⟨m',hm,qT,H3,I3,w3⟩
  | brk=>exact q3
  | ret v=>exact q3
 | false=>
  rw [if_neg bQ]
  exact fO ⟨pI,H2,I2,q2⟩
end
structure It where
 go:Nat->Hp->Prop
 yld:Nat->Hp->V->Hp->Prop
 stop:Nat->Hp->Prop
noncomputable def tu (X:Cx) (pins:List (af×Obj)) (H:Hp) (b:af):Prop:=
 H b=none/\b≠X.env.locals/\b∉X.fs/\(b∈X.ex\/X.s₀.heap.objs.size<=b)/\(∀ x c,X.env.cells.lookup x=some c->c≠b)/\∀ p∈X.pn++pins,p.1≠b
theorem Inv.fpOk (I:Inv X pins σ H s) (hb:s.heap.objs.size<=b) (hn:H' b=none):tu X pins H' b:=by
 refine ⟨hn,dq (aV I.lt hb),I.nofs hb,.inr (aU I.sz hb),fun x c e z=>?_,fun p hp z=>?_⟩
 ·obtain ⟨v,q⟩:=I.cell x c e
  exact absurd (aV q.lt (by rw [z];exact hb)) (bP _)
 ·exact absurd (aV (aG (I.pin p hp).1) (by rw [z];exact hb)) (bP _)
structure vS (P:aH) (w:aP) (K:ai) (tg:aQ) (J:It) (fp:List af) (it:af) (tn:Nat->aT->Prop):Prop where
 mem:it∈fp
 obj:∀ i h,tn i h->∀ b∈fp,∃ o,h.get? b=some o/\∀ v,o.data ≠ .cell v
 keep:∀ i h h',tn i h->(∀ b∈fp,∀ o,h.get? b=some o->h'.get? b=some o)->tn i h'
 item:∀ (X:Cx),X.prog=P->X.w=w->X.K=K->X.calm=true->∀ (i:Nat) (pins:List (af×Obj)) (s:ag) (σ:St) (H:Hp) (E:ae->ag->Prop),Inv X pins σ H s->(∀ b∈fp,tu X pins H b)->tn i s.heap->J.go i H->
  am (av P w) X.A (pyNext (.ref it)) (fun r s1=>∃ u,r=some u/\
   am (av P w) X.A (letOwnedTupleGo tg (.ref it) u) (fun _ s2=>∃ x H',Inv X pins σ H' s2/\RelV x u/\J.yld i H x H'/\tn (i+1) s2.heap/\∀ b∈fp,H' b=none) E s1) E s
 done:∀ (X:Cx),X.prog=P->X.w=w->X.K=K->X.calm=true->∀ (i:Nat) (pins:List (af×Obj)) (s:ag) (σ:St) (H:Hp) (E:ae->ag->Prop),Inv X pins σ H s->(∀ b∈fp,tu X pins H b)->tn i s.heap->J.stop i H->
  am (av P w) X.A (pyNext (.ref it)) (fun r s1=>r=none/\Inv X pins σ H s1) E s
 self:∀ (A:aW) (i:Nat) (s:ag) (Q:ae->ag->Prop) (E:ae->ag->Prop),tn i s.heap->Q (.ref it) s->am (av P w) A (pyIter (.ref it)) Q E s
abbrev TI:=St->Hp->(It->Hp->Prop)->Prop
noncomputable def P6 (X:Cx) (pins:List (af×Obj)) (σ:St) (tg:aQ) (R:It->Hp->Prop) (CJ:ae) (s2:ag):Prop:=
 ∃ (it:af) (fp:List af) (tn:Nat->aT->Prop) (J:It) (H':Hp),CJ=.ref it/\Inv X pins σ H' s2/\vS X.prog X.w X.K tg J fp it tn/\tn 0 s2.heap/\(∀ b∈fp,tu X pins H' b)/\R J H'
noncomputable def PI (X:Cx) (tg iter:aQ) (wi:TI):Prop:=
 ∀ (pins:List (af×Obj)) (s:ag) (σ:St) (H:Hp) (R:It->Hp->Prop),Inv X pins σ H s->wi σ H R->
  am (av X.prog X.w) X.A (eval iter X.env) (fun v s1=>am (av X.prog X.w) X.A (pyIter v) (P6 X pins σ tg R) X.xe s1) X.xe s
theorem DW (ho:s.heap.get? it=some o) (hc:o.cls=.type n) (hd:o.data=.fields vs)
  (hn:["enumerate", "zip", "dict_itemiterator", "dict_reverseitemiterator", "odict_iterator", "itertools.zip_longest", "itertools.pairwise"].contains n=false) (hQ:Q () s):am M A (letOwnedTupleGo tg (.ref it) u) Q E s:=by
 unfold letOwnedTupleGo
 cases tg<;>first
  | exact aj hQ
  | (cases u<;>first
    | exact aj hQ
    | (refine aa (wpAny_load ho ?_)
       rw [hc,hd]
       show am M A (if (["enumerate", "zip", "dict_itemiterator", "dict_reverseitemiterator", "odict_iterator", "itertools.zip_longest", "itertools.pairwise"].contains n&&vs[0]?==some (bj _))=true then _ else _) Q E s
       rw [if_neg (by intro h;rw [hn,Bool.false_and] at h;cases h)]
       exact aj hQ))
noncomputable def FO (K:ai) (a:af):It:=
 ⟨fun i H=>∃ xs x,pV K H a xs/\xs[i]?=some x,fun i H x H'=>H'=H/\∀ xs,pV K H a xs->xs[i]?=some x,fun i H=>∃ xs,pV K H a xs/\xs.length<=i⟩
noncomputable def JK (K:ai) (a:af):It:=
 ⟨fun i H=>∃ xs x,qu K H a xs/\xs[i]?=some x,fun i H x H'=>H'=H/\∀ xs,qu K H a xs->xs[i]?=some x,fun i H=>∃ xs,qu K H a xs/\xs.length<=i⟩
noncomputable def FN (lo:Int) (n:Nat):It:=⟨fun i _=>i<n,fun i H x H'=>H'=H/\x=.int (lo+i),fun i _=>n<=i⟩
theorem Nv {P:aH} {w:aP} {K:ai} {tg:aQ} (a it:af):vS P w K tg (FO K a) [it] it (fun i h=>h.IsListIter it a i) where
 mem:=by simp
 obj:=fun i h st b hb=>by
  have e:b=it:=by simpa using hb
  subst e
  obtain ⟨o,e,c,d⟩:=st
  exact ⟨o,e,fun v z=>by rw [d] at z;cases z⟩
 keep:=fun i h h' st k=>st.at fun o e=>k it (by simp) o e
 item:=by
  intro X hP hw hK hc i pins s σ H E I hf st hg
  subst hP hw hK
  obtain ⟨xs,x,hq,hx⟩:=hg
  obtain ⟨f_,rv,p,hz⟩:=I.list hq
  obtain ⟨u,hu,ru⟩:=rv.get hx
  obtain ⟨f0,f1,f2,f3,f4,f5⟩:=hf it (by simp)
  refine wpAny_pyNext_list_item st p.isList (x:=u) (by simpa using hu) fun h' i_ sb=>?_
  have I1:Inv X pins σ H { s with heap:=h' }:=I.turned (t':=s.toks) (fun b o hb e=>(sb.2 b hb).trans e) f0 f1 f3 f4 f5
  obtain ⟨o,e,c,d⟩:=id i_
  exact ⟨u,rfl,DW (s:={ s with heap:=h' }) e c d (by decide) ⟨x,H,I1,ru,⟨rfl,fun ys hy=>by rw [I.list_inj hy hq];exact hx⟩,i_,fun b hb=>(hf b hb).1⟩⟩
 done:=by
  intro X hP hw hK hc i pins s σ H E I hf st hg
  subst hP hw hK
  obtain ⟨xs,hq,hx⟩:=hg
  obtain ⟨f_,rv,p,hz⟩:=I.list hq
  obtain ⟨f0,f1,f2,f3,f4,f5⟩:=hf it (by simp)
  have hl:=rv.length
  exact wpAny_pyNext_list_end (I.ok.hd hc) st p.isList (by simp;omega) fun h' eb=>⟨rfl,I.turned (t':=s.toks) (fun b o hb e=>eb b o hb e) f0 f1 f3 f4 f5⟩
 self:=fun _ _ _ _ _ st h=>wpAny_pyIter_listiter st h
theorem Yl {P:aH} {w:aP} {K:ai} {tg:aQ} (a it:af):vS P w K tg (JK K a) [it] it (fun i h=>h.IsTupleIter it a i) where
 mem:=by simp
 obj:=fun i h st b hb=>by
  have e:b=it:=by simpa using hb
  subst e
  obtain ⟨o,e,c,d⟩:=st
  exact ⟨o,e,fun v z=>by rw [d] at z;cases z⟩
 keep:=fun i h h' st k=>st.at fun o e=>k it (by simp) o e
 item:=by
  intro X hP hw hK hc i pins s σ H E I hf st hg
  subst hP hw hK
  obtain ⟨xs,x,hq,hx⟩:=hg
  obtain ⟨f_,rv,p,hz⟩:=I.tuple hq
  obtain ⟨u,hu,ru⟩:=rv.get hx
  obtain ⟨f0,f1,f2,f3,f4,f5⟩:=hf it (by simp)
  refine wpAny_pyNext_tuple_item st (show s.heap.IsTuple a f_.toArray from p) (x:=u) (by simpa using hu) fun h' i_ sb=>?_
  have I1:Inv X pins σ H { s with heap:=h' }:=I.turned (t':=s.toks) (fun b o hb e=>(sb.2 b hb).trans e) f0 f1 f3 f4 f5
  obtain ⟨o,e,c,d⟩:=id i_
  exact ⟨u,rfl,DW (s:={ s with heap:=h' }) e c d (by decide) ⟨x,H,I1,ru,⟨rfl,fun ys hy=>by rw [I.tuple_inj hy hq];exact hx⟩,i_,fun b hb=>(hf b hb).1⟩⟩
 done:=by
  intro X hP hw hK hc i pins s σ H E I hf st hg
  subst hP hw hK
  obtain ⟨xs,hq,hx⟩:=hg
  obtain ⟨f_,rv,p,hz⟩:=I.tuple hq
  obtain ⟨f0,f1,f2,f3,f4,f5⟩:=hf it (by simp)
  have hl:=rv.length
  exact wpAny_pyNext_tuple_end (I.ok.hd hc) st (show s.heap.IsTuple a f_.toArray from p) (by simp;omega) fun h' eb=>⟨rfl,I.turned (t':=s.toks) (fun b o hb e=>eb b o hb e) f0 f1 f3 f4 f5⟩
 self:=fun _ _ _ _ _ st h=>wpAny_pyIter_tupleiter st h
theorem YS {P:aH} {w:aP} {K:ai} {tg:aQ} (it:af) (lo:Int) (n:Nat):vS P w K tg (FN lo n) [it] it (fun i h=>IsRangeIter h it (lo+(i:Nat)*1) ((n:Int)-(i:Nat)) 1) where
 mem:=by simp
 obj:=fun i h st b hb=>by
  have e:b=it:=by simpa using hb
  subst e
  exact ⟨_,st,fun v z=>by
   have z':Data.fields _=Data.cell v:=z
   cases z'⟩
 keep:=fun i h h' st k=>k it (by simp) _ st
 item:=by
  intro X hP hw hK hc i pins s σ H E I hf st hg
  subst hP hw hK
  obtain ⟨f0,f1,f2,f3,f4,f5⟩:=hf it (by simp)
  have W:=Walks.range (prog:=X.prog) (w:=X.w) (I.ok.hd hc) it lo 1 n
  refine eZ I.tk (W.item i s _ _ hg st fun v h' tk hv i_ kk pM=>?_)
  have pM:0<tk:=pM
  obtain ⟨t,rfl⟩:=hv
  have I1:Inv X pins σ H { s with heap:=h',toks:=tk }:=I.turned (fun b o hb e=>kk b o (by simpa using hb) e) f0 f1 f3 f4 f5
  refine ⟨_,rfl,DW (s:={ s with heap:=h',toks:=tk }) (n := "range_iterator") i_ rfl rfl (by decide) ⟨.int (lo+i),H,I1,⟨t,?_⟩,⟨rfl,rfl⟩,i_,fun b hb=>(hf b hb).1⟩⟩
  rw [Int.mul_one]
 done:=by
  intro X hP hw hK hc i pins s σ H E I hf st hg
  subst hP hw hK
  obtain ⟨f0,f1,f2,f3,f4,f5⟩:=hf it (by simp)
  exact wpAny_pyNext_range_end (I.ok.hd hc) st (by have:n<=i:=hg;omega) fun h' eb=>⟨rfl,I.turned (t':=s.toks) (fun b o hb e=>eb b o hb e) f0 f1 f3 f4 f5⟩
 self:=fun _ _ _ _ _ st h=>wpAny_pyIter_rangeiter st h
section
variable {X:Cx} {tg:aQ}
theorem WU {pins:List (af×Obj)} {σ:St} {H:Hp} {s:ag} {R:It->Hp->Prop} {E:ae->ag->Prop} {lo hi:Int} {t u v:Tok} {tk:Nat} (I:Inv X pins σ H s) (h1:-(2 ^ 62)<=lo) (h2:lo<2 ^ 62) (h3:-(2 ^ 62)<=hi) (h4:hi<2 ^ 62)
  (q:R (FN lo (hi-lo).toNat) H) (pM:0<tk):am (av X.prog X.w) X.A (pyIter (.ref s.heap.objs.size)) (P6 X pins σ tg R) E { s with heap:=s.heap.push { cls:=.type "range",data:=.fields #[.int lo t,.int hi u,.int 1 v] },toks:=tk }:=by
 refine wpAny_pyIter_range (IsRange.new ..) (small_one h1 h2 h3 h4) ?_
 have I1:Inv X pins σ H { s with heap:=s.heap.push { cls:=.type "range",data:=.fields #[.int lo t,.int hi u,.int 1 v] },toks:=tk }:=I.kept fun b o e=>ah _ e
 refine ⟨(s.heap.push { cls:=.type "range",data:=.fields #[.int lo t,.int hi u,.int 1 v] }).objs.size,[(s.heap.push { cls:=.type "range",data:=.fields #[.int lo t,.int hi u,.int 1 v] }).objs.size],_,_,H,rfl,
  I1.kept (t':=tk) fun b o e=>ah _ e,YS _ lo (hi-lo).toNat,?_,fun b hb=>?_,q⟩
 ·have e1:lo+((0:Nat):Int)*1=lo:=by simp
  have e2:(((hi-lo).toNat:Nat):Int)-((0:Nat):Int)=Builtin.Range.rangeSize lo hi 1:=by rw [rangeSize_one];split<;>omega
  show IsRangeIter _ _ (lo+((0:Nat):Int)*1) ((((hi-lo).toNat:Nat):Int)-((0:Nat):Int)) 1
  rw [e1,e2]
  exact aE _ rfl
 ·have e:b=(s.heap.push { cls:=.type "range",data:=.fields #[.int lo t,.int hi u,.int 1 v] }).objs.size:=by simpa using hb
  subst e
  exact I1.fpOk (ay _) (I1.hok.fresh (ay _))
noncomputable def Rb (ta:TA):TI:=fun σ H R=>ta σ H fun vs H1=>∃ j:Int,vs=[.int j]/\-(2 ^ 62)<=j/\j<2 ^ 62/\R (FN 0 j.toNat) H1
theorem XX {a:aQ} {ta:TA} {p pos:Pos} (hg:Gl X "range") (hm:X.mg "range" = none) (ha:PA X [a] ta) (hs:aD [a] X.env=[(false,eval a X.env)]:=by rfl):PI X tg (.Call (.Name "range" p) [a] [] pos) (Rb ta):=by
 intro pins s σ H R I h
 refine kM (zZ I hg hm boot_range (eR (oV (ha pos pins s σ H _ I h) fun us s1 ⟨vs,H1,I1,r1,q1⟩=>?_) hs rfl))
 obtain ⟨j,e,q1,q2,q⟩:=q1
 subst e
 cases r1 with
 | cons r rr=>
  cases rr
  obtain ⟨t,rfl⟩:=r
  exact call_range_1 (WU I1 (by omega) (by omega) q1 q2 (by simpa using q) (by first|exact cY _|exact I1.tk))
noncomputable def Qm (wi:TI) (g:TG) (tb:TS):TS:=fun D σ H=>wi σ H fun J H1=>∃ W:Nat->Nat->St->Hp->Prop,(∃ m,W 0 m σ H1)/\∀ i m σ H,W i m σ H->
 (J.stop i H/\D.nx σ H)\/(J.go i H/\∃ N:St->Hp->Prop,(∀ σ' H',N σ' H'->∃ m',m'<m/\W (i+1) m' σ' H')/\∀ x H',J.yld i H x H'->g x σ H' fun rD H2=>tb { D with nx:=N,ct:=N,bk:=D.nx } rD H2)
noncomputable def Bu (fp:List af) (h:aT):List (af×Obj):=fp.filterMap fun b=>(h.get? b).map fun o=>(b,o)
theorem EJ (hb:b∈fp) (e:h.get? b=some o):(b,o)∈Bu fp h:=je.mpr ⟨b,hb,by rw [e];rfl⟩
theorem XJ (hp:p∈Bu fp h):p.1∈fp/\h.get? p.1=some p.2:=by
 obtain ⟨b,hb,e⟩:=je.mp hp
 cases q:h.get? b with
 | none=>rw [q] at e;cases e
 | some o=>
  rw [q] at e
  have e':(b,o)=p:=bV e
  subst e'
  exact ⟨hb,q⟩
theorem Inv.pinned (I:Inv X pins σ H s) (hf:∀ b∈fp,tu X pins H b) (ho:∀ b∈fp,∃ o,s.heap.get? b=some o/\∀ v,o.data ≠ .cell v):Inv X (pins++Bu fp s.heap) σ H s:=
 I.pins_of fun p hp=>(aN.mp hp).elim (fun z=>I.pin p (bo _ z)) fun z=>by
  obtain ⟨hb,e⟩:=XJ z
  obtain ⟨f0,f1,f2,_⟩:=hf p.1 hb
  obtain ⟨o,e',d⟩:=ho p.1 hb
  rw [e] at e';cases e'
  exact ⟨e,f0,f1,f2,d⟩
theorem Inv.unpinned (I:Inv X (pins++pl) σ H s):Inv X pins σ H s:=I.pins_of fun p hp=>I.pin p (bo _ (cK _ hp))
theorem RH (hp:j0 (av X.prog X.w) X.A X.env X.xe) (hc:X.calm=true) (hi:PI X tg iter wi) (hg:PG X tg g) (hb:qY X body tb)
  (hs:∀ x,dD iter X.env x=pure x:=by intro _;rfl):PS X (.For tg iter body [] pos) (Qm wi g tb):=by
 intro pins s σ H D I h
 refine wpAny_For (oV (hi pins s σ H _ I h) fun v s1 h1=>oV h1 fun CJ s2 h2=>?_) hs
 obtain ⟨it,fp,tn,J,H2,e,I2,T,pB,f2,W,⟨m0,w0⟩,turn⟩:=h2
 subst e
 -- what stays true of the yV objects through the loop
 have ub:∀ {H':Hp},(∀ b∈fp,H' b=none)->∀ b∈fp,tu X pins H' b:=fun hn b hb=>⟨hn b hb,(f2 b hb).2⟩
 refine codeAny_forLoop_any (fun n s'=>∃ i σ' H',Inv X pins σ' H' s'/\tn i s'.heap/\(∀ b∈fp,H' b=none)/\W i n σ' H') ?_ m0 ⟨0,σ,H2,I2,pB,fun b hb=>(f2 b hb).1,w0⟩
 rintro n s3 ⟨i,qT,H3,I3,o9,FH,w3⟩
 rcases turn i n qT H3 w3 with ⟨stop,qn⟩|⟨go,N,hN,step⟩
 ·refine eV hp (oV (T.done X rfl rfl rfl hc i pins s3 qT H3 X.xe I3 (ub FH) o9 stop) fun r s4 ⟨hr,I4⟩=>?_)
  subst hr
  exact fO ⟨qT,H3,I4,qn⟩
 ·refine eV hp (oV (T.item X rfl rfl rfl hc i pins s3 qT H3 X.xe I3 (ub FH) o9 go) fun r s4 ⟨u,hr,h4⟩=>?_)
  subst hr
  refine eV hp (oV h4 fun _ s5 ⟨x,H5,I5,r5,y5,Fb,fr5⟩=>?_)
  have I5':=I5.pinned (ub fr5) (T.obj _ _ Fb)
  refine eV hp (oV (hg _ s5 qT H5 x u _ I5' r5 (step x H5 y5)) fun _ s6 ⟨JP,H6,I6,q6⟩=>?_)
  refine eV hp (oV (hb _ s6 JP H6 _ I6 q6) fun f s7 q7=>?_)
  have again:∀ {vL:St} {H7:Hp},Inv X (pins++Bu fp s5.heap) vL H7 s7->N vL H7->∃ m,m<n/\∃ i σ' H',Inv X pins σ' H' s7/\tn i s7.heap/\(∀ b∈fp,H' b=none)/\W i m σ' H':=fun {vL H7} I7 n7=>by
   obtain ⟨m',hm,w7⟩:=hN vL H7 n7
   refine ⟨m',hm,i+1,vL,H7,I7.unpinned,T.keep _ _ _ Fb fun b hb o e=>(I7.pin (b,o) (bo _ (bo _ (EJ hb e)))).1,fun b hb=>?_,w7⟩
   obtain ⟨o,e,d⟩:=T.obj _ _ Fb b hb
   exact (I7.pin (b,o) (bo _ (bo _ (EJ hb e)))).2.1
  cases f with
  | next=>obtain ⟨vL,H7,I7,n7⟩:=q7;exact again I7 n7
  | cont=>obtain ⟨vL,H7,I7,n7⟩:=q7;exact again I7 n7
  | brk=>obtain ⟨vL,H7,I7,q7⟩:=q7;exact ⟨vL,H7,I7.unpinned,q7⟩
  | ret v=>obtain ⟨x7,vL,H7,I7,r7,q7⟩:=q7;exact ⟨x7,vL,H7,I7.unpinned,r7,q7⟩
end
abbrev R2:=V->V->Hp->VK->Prop
noncomputable def pH (X:Cx) (f:ae->ae->Sem ae) (r:R2):Prop:=
 ∀ (pins:List (af×Obj)) (s:ag) (σ:St) (H:Hp) (x y:V) (v u:ae) (Q:VK),Inv X pins σ H s->RelV x v->RelV y u->r x y H Q->
  am (av X.prog X.w) X.A (f v u) (EP X pins σ Q) X.xe s
noncomputable def JI (X:Cx) (f:ae->Sem ae) (r:V->Hp->VK->Prop):Prop:=
 ∀ (pins:List (af×Obj)) (s:ag) (σ:St) (H:Hp) (x:V) (v:ae) (Q:VK),Inv X pins σ H s->RelV x v->r x H Q->
  am (av X.prog X.w) X.A (f v) (EP X pins σ Q) X.xe s
noncomputable def nU (X:Cx) (f:ae) (r:List V->Hp->VK->Prop):Prop:=
 ∀ (pins:List (af×Obj)) (s:ag) (σ:St) (H:Hp) (xs:List V) (us:List ae) (Q:VK),Inv X pins σ H s->nK xs us->r xs H Q->
  am (av X.prog X.w) X.A (call f us) (EP X pins σ Q) X.xe s
noncomputable def Qx (X:Cx) (r:V->Hp->(Bool->Hp->Prop)->Prop):Prop:=
 ∀ (pins:List (af×Obj)) (s:ag) (σ:St) (H:Hp) (x:V) (v:ae) (Q:Bool->Hp->Prop),Inv X pins σ H s->RelV x v->r x H Q->
  am (av X.prog X.w) X.A (truthy v) (TP X pins σ Q) X.xe s
noncomputable def Ck (r:R2) (ta tb:TE):TE:=fun σ H Q=>ta σ H fun x H1=>tb σ H1 fun y H2=>r x y H2 Q
def tUn (r:V->Hp->VK->Prop) (ta:TE):TE:=fun σ H Q=>ta σ H fun x H1=>r x H1 Q
noncomputable def rI (C:Int->Int->Prop) (g:Int->Int->V):R2:=fun x y H Q=>∃ i j,x=.int i/\y=.int j/\C i j/\Q (g i j) H
def sZ (g:Int->Int->V):R2:=fun x y H Q=>∃ i j,x=.int i/\y=.int j/\Q (g i j) H
def rU (g:Int->V):V->Hp->VK->Prop:=fun x H Q=>∃ i,x=.int i/\Q (g i) H
section
variable {X:Cx} {a b:aQ} {ta tb:TE} {pos:Pos}
theorem F4 (ha:PE X a ta) (hb:PE X b tb) {pins:List (af×Obj)} {s:ag} {σ:St} {H:Hp} {R:V->V->Hp->Prop} (I:Inv X pins σ H s)
  (h:ta σ H fun x H1=>tb σ H1 fun y H2=>R x y H2) {Q:ae->ag->Prop} {f:ae->ae->Sem ae}
  (hf:∀ v u s2 x y H2,Inv X pins σ H2 s2->RelV x v->RelV y u->R x y H2->am (av X.prog X.w) X.A (f v u) Q X.xe s2):
  am (av X.prog X.w) X.A (eval a X.env) (fun v n_=>am (av X.prog X.w) X.A (eval b X.env) (fun u sj=>am (av X.prog X.w) X.A (f v u) Q X.xe sj) X.xe n_) X.xe s:=by
 refine oV (ha pins s σ H _ I h) fun v s1 ⟨x,H1,I1,r1,q1⟩=>?_
 refine oV (hb pins s1 σ H1 _ I1 q1) fun u s2 ⟨y,H2,I2,r2,q2⟩=>?_
 exact hf v u s2 x y H2 I2 r1 r2 q2
theorem QN {op:Operator} {r:R2} (ho:pH X (dj op) r) (ha:PE X a ta) (hb:PE X b tb):PE X (.BinOp a op b pos) (Ck r ta tb):=by
 intro pins s σ H Q I h
 exact wpAny_BinOp (F4 ha hb I h fun v u s2 x y H2 I2 rx ry q=>ho pins s2 σ H2 x y v u Q I2 rx ry q)
theorem Rh (ho:JI X (unaryOp op) r) (ha:PE X a ta):PE X (.UnaryOp op a pos) (tUn r ta):=by
 intro pins s σ H Q I h
 exact UnaryOp_ (oV (ha pins s σ H _ I h) fun v s1 ⟨x,H1,I1,r1,q1⟩=>ho pins s1 σ H1 x v Q I1 r1 q1)
theorem AO {f:ae->ae->Sem ae} {C:Int->Int->Prop} {g:Int->Int->Int}
  (rule:∀ (i j:Int) (t u:Tok) (s:ag) (Q:ae->ag->Prop) (E:ae->ag->Prop),C i j->Q (.int (g i j) s.toks) { s with toks:=s.toks+1 }->am (av X.prog X.w) X.A (f (.int i t) (.int j u)) Q E s):
  pH X f (rI C fun i j=>.int (g i j)):=by
 intro pins s σ H x y v u Q I rx ry h
 obtain ⟨i,j,rfl,rfl,hc,q⟩:=h
 obtain ⟨t,rfl⟩:=rx
 obtain ⟨t',rfl⟩:=ry
 exact rule i j t t' s _ _ hc ⟨.int (g i j),H,I.tok _,⟨_,rfl⟩,q⟩
theorem DK {f:ae->ae->Sem ae} {g:Int->Int->Int}
  (rule:∀ (i j:Int) (t u:Tok) (s:ag) (Q:ae->ag->Prop) (E:ae->ag->Prop),Q (.int (g i j) s.toks) { s with toks:=s.toks+1 }->am (av X.prog X.w) X.A (f (.int i t) (.int j u)) Q E s):
  pH X f (sZ fun i j=>.int (g i j)):=by
 intro pins s σ H x y v u Q I rx ry h
 obtain ⟨i,j,rfl,rfl,q⟩:=h
 obtain ⟨t,rfl⟩:=rx
 obtain ⟨t',rfl⟩:=ry
 exact rule i j t t' s _ _ ⟨.int (g i j),H,I.tok _,⟨_,rfl⟩,q⟩
theorem FX {f:ae->ae->Sem ae} {g:Int->Int->Bool}
  (rule:∀ (i j:Int) (t u:Tok) (s:ag) (Q:ae->ag->Prop) (E:ae->ag->Prop),Q (.bool (g i j)) s->am (av X.prog X.w) X.A (f (.int i t) (.int j u)) Q E s):
  pH X f (sZ fun i j=>.bl (g i j)):=by
 intro pins s σ H x y v u Q I rx ry h
 obtain ⟨i,j,rfl,rfl,q⟩:=h
 obtain ⟨t,rfl⟩:=rx
 obtain ⟨t',rfl⟩:=ry
 exact rule i j t t' s _ _ ⟨.bl (g i j),H,I,rfl,q⟩
def J8 (i j:Int):Prop:=0<j/\j<1073741824
def DV (i j:Int):Prop:=0<=j/\j<=1000000/\i.natAbs<2 ^ 64
def oG (i j:Int):Prop:=(-(2 ^ 64)<i/\i<2 ^ 64)\/(-(2 ^ 64)<j/\j<2 ^ 64)
theorem oG.ok (h:oG i j):IntMulOk i j:=by
 rcases h with ⟨h1,h2⟩|⟨h1,h2⟩
 ·exact .of_left (intBits_le_64 h1 h2)
 ·exact .of_right (intBits_le_64 h1 h2)
theorem Yh (k:Nat):(0:Int)<=2 ^ k:=by
 rw [two_pow_cast]
 exact Int.natCast_nonneg _
theorem Sl:pH X (dj .Add) (sZ fun i j=>.int (i+j)):=DK fun _ _ _ _ _ _ _ q=>add_int q
theorem RG:pH X (dj .Sub) (sZ fun i j=>.int (i-j)):=DK fun _ _ _ _ _ _ _ q=>sub_int q
theorem R5:pH X (dj .Mult) (rI oG fun i j=>.int (i*j)):=AO fun _ _ _ _ _ _ _ hc q=>mul_int q hc.ok
theorem UQ:pH X (dj .FloorDiv) (rI J8 fun i j=>.int (i/j)):=AO fun i j _ _ _ _ _ hc q=>by
 have h1:(0:Int)<j:=hc.1
 have h2:j<1073741824:=hc.2
 exact floordiv_int (by omega) (by rw [jm i (by omega)];exact q) (.inl (PyProof.noPylong_small (by omega)))
theorem SS:pH X (dj .Mod) (rI (fun _ j=>0<j) fun i j=>.int (i%j)):=AO fun i j _ _ _ _ _ hc q=>by
 have h1:(0:Int)<j:=hc
 exact mod_int' (by omega) (by rw [Int.fmod_eq_emod_of_nonneg i (by omega)];exact q)
theorem Se:pH X (dj .Pow) (rI DV fun i j=>.int (i ^ j.toNat)):=AO fun _ _ _ _ _ _ _ hc q=>pow_int_small hc.1 hc.2.1 hc.2.2 q
theorem Sh:pH X (dj .LShift) (rI DV fun i j=>.int (i*2 ^ j.toNat)):=AO fun _ _ _ _ _ _ _ hc q=>lshift_int_small hc.1 hc.2.1 hc.2.2 q
theorem SG:pH X (dj .RShift) (rI (fun _ j=>0<=j) fun i j=>.int (i/2 ^ j.toNat)):=AO fun i j _ _ _ _ _ hc q=>
 rshift_int hc (by rw [jm i (Yh _)];exact q)
theorem RJ:pH X (dj .BitAnd) (sZ fun i j=>.int (kw i j)):=DK fun _ _ _ _ _ _ _ q=>and_int q
theorem Tv:pH X (dj .BitXor) (sZ fun i j=>.int (kz i j)):=DK fun _ _ _ _ _ _ _ q=>xor_int q
theorem unI {f:ae->Sem ae} {g:Int->Int}
  (rule:∀ (i:Int) (t:Tok) (s:ag) (Q:ae->ag->Prop) (E:ae->ag->Prop),Q (.int (g i) s.toks) { s with toks:=s.toks+1 }->am (av X.prog X.w) X.A (f (.int i t)) Q E s):
  JI X f (rU fun i=>.int (g i)):=by
 intro pins s σ H x v Q I rx h
 obtain ⟨i,rfl,q⟩:=h
 obtain ⟨t,rfl⟩:=rx
 exact rule i t s _ _ ⟨.int (g i),H,I.tok _,⟨_,rfl⟩,q⟩
theorem SN:JI X (unaryOp .USub) (rU fun i=>.int (-i)):=unI fun _ _ _ _ _ q=>neg_int q
end
section
variable {X:Cx} {a b c:aQ} {ta tb tc:TE} {pos:Pos}
theorem Ed (I:Inv X pins σ H s) (q:Q (.bl k) H) (e:k=k'):EP X pins σ Q (.bool k') s:=by
 subst e
 exact ⟨.bl k,H,I,rfl,q⟩
theorem Gc:pH X (cw .Lt) (sZ fun i j=>.bl (decide (i<j))):=FX fun _ _ _ _ _ _ _ q=>lt_int q
theorem Ki:pH X (cw .LtE) (sZ fun i j=>.bl (decide (i<=j))):=FX fun _ _ _ _ _ _ _ q=>le_int q
theorem Kk:pH X (cw .GtE) (sZ fun i j=>.bl (decide (j<=i))):=FX fun _ _ _ _ _ _ _ q=>ge_int q
theorem XF:pH X (cw .Lt) (fun x y H Q=>∃ i j,x=.str i/\y=.str j/\Q (.bl (decide (i.cps.toList<j.cps.toList))) H):=by
 intro pins s σ H x y v u Q I rx ry h
 obtain ⟨i,j,rfl,rfl,q⟩:=h
 obtain ⟨t,rfl⟩:=rx
 obtain ⟨t',rfl⟩:=ry
 exact lt_str (Ed I q rfl)
theorem YB:pH X (cw .In) (fun x y H Q=>∃ i j,x=.str i/\y=.str j/\Q (.bl (!(cg j i 0 j.length 1).isEmpty)) H):=by
 intro pins s σ H x y v u Q I rx ry h
 obtain ⟨i,j,rfl,rfl,q⟩:=h
 obtain ⟨t,rfl⟩:=rx
 obtain ⟨t',rfl⟩:=ry
 exact in_str (Ed I q rfl)
theorem SX:pH X (cw .Is) (fun x y H Q=>y=.non/\Q (.bl (decide (x=.non))) H):=by
 intro pins s σ H x y v u Q I rx ry h
 obtain ⟨rfl,q⟩:=h
 cases ry
 refine is_none_gen (Ed I q ?_)
 cases x<;>first
  | (cases rx;rfl)
  | (obtain ⟨t,rfl⟩:=rx;rfl)
theorem Zs:pH X (cw .NotIn) (fun x y H Q=>∃ i j,x=.str i/\y=.str j/\Q (.bl (!(!(cg j i 0 j.length 1).isEmpty))) H):=by
 intro pins s σ H x y v u Q I rx ry h
 obtain ⟨i,j,rfl,rfl,q⟩:=h
 obtain ⟨t,rfl⟩:=rx
 obtain ⟨t',rfl⟩:=ry
 exact notIn_str (Ed I q rfl)
theorem pH.or (h:pH X f r) (h':pH X f r'):pH X f (fun x y H Q=>r x y H Q\/r' x y H Q):=by
 intro pins s σ H x y v u Q I rx ry q
 rcases q with q|q
 ·exact h pins s σ H x y v u Q I rx ry q
 ·exact h' pins s σ H x y v u Q I rx ry q
theorem wB (b:aQ) (h:op ≠ .In:=by decide) (h2:op ≠ .NotIn:=by decide):behindInMarks op b=false:=by
 have e1:(op==CmpOp.In)=false:=by cases op<;>first|rfl|exact absurd rfl h
 have e2:(op==CmpOp.NotIn)=false:=by cases op<;>first|rfl|exact absurd rfl h2
 cases b<;>simp [behindInMarks,e1,e2]
theorem U5 {op:CmpOp} {r:R2} (ho:pH X (cw op) r) (ha:PE X a ta) (hb:PE X b tb) (hm:behindInMarks op b=false):PE X (.Compare a [op] [b] pos) (Ck r ta tb):=by
 intro pins s σ H Q I h
 exact wpAny_Compare1 (F4 ha hb I h fun v u s2 x y H2 I2 rx ry q=>ho pins s2 σ H2 x y v u Q I2 rx ry q) hm
def KA (t:TE):TT:=fun σ H Q=>t σ H fun x H'=>∃ k,x=.bl k/\Q k H'
theorem Uq (ho:pH X (cw op) r) (ha:PE X a ta) (hb:PE X b tb) (hm:behindInMarks op b=false):PT X (.Compare a [op] [b] pos) (KA (Ck r ta tb)):=by
 intro pins s σ H Q I h
 refine ku (oV (ha pins s σ H _ I h) fun v s1 ⟨x,H1,I1,r1,q1⟩=>oV (hb pins s1 σ H1 _ I1 q1) fun u s2 ⟨y,H2,I2,r2,q2⟩=>
  oV (ho pins s2 σ H2 x y v u _ I2 r1 r2 q2) fun c s3 ⟨z,H3,I3,r3,k,e,q3⟩=>?_) hm
 subst e
 cases r3
 exact dQ ⟨H3,I3,q3⟩
noncomputable def S8 (r r':R2) (ta tb tc:TE):TE:=fun σ H Q=>ta σ H fun x H1=>tb σ H1 fun y H2=>r x y H2 fun z H3=>∃ k,z=.bl k/\
 (if k=true then tc σ H3 fun w' H4=>r' y w' H4 Q else Q (.bl false) H3)
theorem WB (ho:pH X (cw op) r) (tG:pH X (cw AQ) r') (ha:PE X a ta) (hb:PE X b tb) (hc:PE X c tc)
  (hm:lastMarks [op,AQ] [b,c]=false:=by with_unfolding_all rfl):PE X (.Compare a [op,AQ] [b,c] pos) (S8 r r' ta tb tc):=by
 intro pins s σ H Q I h
 refine Compare_chain (oV (ha pins s σ H _ I h) fun v s1 ⟨x,H1,I1,r1,q1⟩=>chain_link (oV (hb pins s1 σ H1 _ I1 q1) fun u s2 ⟨y,H2,I2,r2,q2⟩=>
  oV (ho pins s2 σ H2 x y v u _ I2 r1 r2 q2) fun d s3 ⟨z,H3,I3,r3,k,e,q3⟩=>?_)) hm
 subst e
 cases r3
 refine dQ ?_
 cases k with
 | false=>exact ite_ff ⟨.bl false,H3,I3,rfl,q3⟩
 | true=>exact ite_tt (chain_last (oV (hc pins s3 σ H3 _ I3 q3) fun w' s4 ⟨z',H4,I4,r4,q4⟩=>tG pins s4 σ H4 y z' u w' Q I4 r2 r4 q4))
noncomputable def JY (K:ai) (x:V) (H:Hp) (k:Bool):Prop:=
 match x with
 | .non=>k=false
 | .bl b=>k=b
 | .int i=>k=(i !=0)
 | .str y=>y.length<=sizeLine/\k=((y.length:Int) !=0)
 | .byt y=>y.size<=sizeLine/\k=((y.size:Int) !=0)
 | .ref p=>(∃ xs,pV K H p xs/\k = !xs.isEmpty)\/(∃ xs,qu K H p xs/\k = !xs.isEmpty) \/ ∃ l_,H p=some (.dK l_)/\k = !l_.isEmpty
 | _=>False
theorem YN {κ:Type} {l_:List (κ×V)} {vs:List (κ×ae)} (r:KV l_ vs):(!vs.isEmpty) = !l_.isEmpty:=by
 cases r<;>rfl
theorem NZ {xs:List V} {f_:List ae} (r:nK xs f_):(!f_.toArray.isEmpty) = !xs.isEmpty:=by
 cases r<;>simp
theorem Ab:(sizeLine:Nat)<2 ^ 63:=by rw [fD];decide
theorem S6:Qx X (fun x H Q=>∃ k,JY X.K x H k/\Q k H):=by
 intro pins s σ H x v Q I rx h
 obtain ⟨k,e,q⟩:=h
 have hl:=Ab
 have hs:sizeLine=16777216:=fD
 cases x with
 | non=>
  cases rx
  have e':k=false:=e
  subst e'
  exact truthy_none ⟨H,I,q⟩
 | bl b=>
  cases rx
  have e':k=b:=e
  subst e'
  exact dQ ⟨H,I,q⟩
 | int i=>
  obtain ⟨t,rfl⟩:=rx
  have e':k=(i !=0):=e
  subst e'
  exact PySem.P.truthy_int ⟨H,I,q⟩
 | str y=>
  obtain ⟨t,rfl⟩:=rx
  obtain ⟨hy,e'⟩:y.length<=sizeLine/\k=((y.length:Int) !=0):=e
  subst e'
  exact PySem.P.truthy_str (by omega) ⟨H,I.tok _,q⟩
 | byt y=>
  obtain ⟨t,rfl⟩:=rx
  obtain ⟨hy,e'⟩:y.size<=sizeLine/\k=((y.size:Int) !=0):=e
  subst e'
  exact PySem.W.truthy_bytes (by omega) ⟨H,I.tok _,q⟩
 | ref p=>
  cases rx
  have e':(∃ xs,pV X.K H p xs/\k = !xs.isEmpty)\/(∃ xs,qu X.K H p xs/\k = !xs.isEmpty) \/ ∃ l_,H p=some (.dK l_)/\k = !l_.isEmpty:=e
  rcases e' with ⟨xs,hx,e'⟩|⟨xs,hx,e'⟩|⟨l_,hx,e'⟩
  ·subst e'
   obtain ⟨f_,r,pl,hz⟩:=I.list hx
   have hlen:=r.length
   exact wpAny_truthy_list pl.isList (by simp only [az];omega) ⟨H,I.tok _,by rw [NZ r];exact q⟩
  ·subst e'
   obtain ⟨f_,r,pl,hz⟩:=I.tuple hx
   have hlen:=r.length
   exact truthy_tuple pl (by simp only [az];omega) ⟨H,I.tok _,by rw [NZ r];exact q⟩
  ·subst e'
   obtain ⟨hz,hS,vs,r,m⟩:l_.length<=sizeLine/\(p==sysModules)=false/\∃ vs,KV l_ vs/\s.heap.DictOf (t_ X.prog X.w) p vs:=I.hok p _ hx
   have hlen:l_.length=vs.length:=k7 r
   exact wpAny_truthy_dict hS m (by omega) ⟨H,I.tok _,by rw [YN r];exact q⟩
 | _=>exact (show False from e).elim
theorem WJ (ha:PE X a ta) (he:∀ whole,isTrue a X.env whole=(do let v <- whole;standAt a.pos;holding [v] (truthy v))):
  PT X a (fun σ H Q=>ta σ H fun x H'=>∃ k,JY X.K x H' k/\Q k H'):=by
 intro pins s σ H Q I h
 exact isTrue_plain (oV (ha pins s σ H _ I h) fun v s1 ⟨x,H1,I1,r1,q1⟩=>S6 pins s1 σ H1 x v Q I1 r1 q1) (he _)
theorem YI:pH X (dj .Add) (fun x y H Q=>∃ i j,x=.str i/\y=.str j/\i.length+j.length<=sizeLine/\Q (.str (i++j)) H):=by
 intro pins s σ H x y v u Q I rx ry h
 obtain ⟨i,j,rfl,rfl,hz,q⟩:=h
 obtain ⟨t,rfl⟩:=rx
 obtain ⟨t',rfl⟩:=ry
 exact eZ I.tk (add_str (fun t' tk pM=>⟨.str (i++j),H,I.tok _ pM,⟨_,rfl⟩,q⟩) hz)
theorem uN (r:nK [x] us):∃ u,us=[u]/\RelV x u:=by
 cases r with
 | cons r1 r2=>cases r2;exact ⟨_,rfl,r1⟩
theorem yE (r:nK [x,y] us):∃ u w',us=[u,w']/\RelV x u/\RelV y w':=by
 cases r with
 | cons r1 r2=>
  cases r2 with
  | cons r3 r4=>cases r4;exact ⟨_,_,rfl,r1,r3⟩
theorem Xx (hc:X.calm=true):nU X (.builtin "max") (fun xs H Q=>∃ i j,xs=[.int i,.int j]/\Q (.int (if j>i then j else i)) H):=by
 intro pins s σ H xs us Q I r h
 obtain ⟨i,j,rfl,q⟩:=h
 obtain ⟨u,w',rfl,⟨t,rfl⟩,⟨t',rfl⟩⟩:=yE r
 refine eZ I.tk (max_two_ints (I.ok.hd hc) fun h' tk k pM=>⟨_,H,I.kept k pM,?_,q⟩)
 by_cases hj:j>i
 ·rw [if_pos hj,if_pos hj];exact ⟨_,rfl⟩
 ·rw [if_neg hj,if_neg hj];exact ⟨_,rfl⟩
theorem X5 (hc:X.calm=true):nU X (.builtin "min") (fun xs H Q=>∃ i j,xs=[.int i,.int j]/\Q (.int (if j<i then j else i)) H):=by
 intro pins s σ H xs us Q I r h
 obtain ⟨i,j,rfl,q⟩:=h
 obtain ⟨u,w',rfl,⟨t,rfl⟩,⟨t',rfl⟩⟩:=yE r
 refine eZ I.tk (min_two_ints (I.ok.hd hc) fun h' tk k pM=>⟨_,H,I.kept k pM,?_,q⟩)
 by_cases hj:j<i
 ·rw [if_pos hj,if_pos hj];exact ⟨_,rfl⟩
 ·rw [if_neg hj,if_neg hj];exact ⟨_,rfl⟩
theorem Yr:nU X (.type "int") (fun xs H Q=>(∃ i,xs=[.int i]/\Q (.int i) H) \/ ∃ k,xs=[.bl k]/\Q (.int (if k then 1 else 0)) H):=by
 intro pins s σ H xs us Q I r h
 rcases h with ⟨i,rfl,q⟩|⟨k,rfl,q⟩
 ·obtain ⟨u,rfl,t,rfl⟩:=uN r
  exact call_int_int ⟨.int i,H,I,⟨_,rfl⟩,q⟩
 ·obtain ⟨u,rfl,r1⟩:=uN r
  cases r1
  exact call_int_bool ⟨.int (if k then 1 else 0),H,I.tok _,⟨_,rfl⟩,q⟩
theorem Zo:nU X (.type "str") (fun xs H Q=>∃ i,xs=[.int i]/\i.natAbs.log2<1920/\Q (.str (toString i)) H):=by
 intro pins s σ H xs us Q I r h
 obtain ⟨i,rfl,hz,q⟩:=h
 obtain ⟨u,rfl,t,rfl⟩:=uN r
 exact PySem.P.str_of_int hz ⟨.str _,H,I.tok _,⟨_,rfl⟩,q⟩
noncomputable def J7 (K:ai) (x:V) (H:Hp) (n:Nat):Prop:=
 match x with
 | .str y=>y.length<=sizeLine/\n=y.length
 | .byt y=>y.size<=sizeLine/\n=y.size
 | .ref p=>(∃ xs,pV K H p xs/\n=xs.length) \/ ∃ xs,qu K H p xs/\n=xs.length
 | _=>False
theorem Xg:nU X (.builtin "len") (fun xs H Q=>∃ x n,xs=[x]/\J7 X.K x H n/\Q (.int n) H):=by
 intro pins s σ H xs us Q I r h
 obtain ⟨x,n,rfl,e,q⟩:=h
 obtain ⟨u,rfl,rx⟩:=uN r
 have hl:=Ab
 have hs:sizeLine=16777216:=fD
 cases x with
 | str y=>
  obtain ⟨t,rfl⟩:=rx
  obtain ⟨hy,e'⟩:y.length<=sizeLine/\n=y.length:=e
  subst e'
  exact len_str (by omega) ⟨.int _,H,I.tok _,⟨_,rfl⟩,q⟩
 | byt y=>
  obtain ⟨t,rfl⟩:=rx
  obtain ⟨hy,e'⟩:y.size<=sizeLine/\n=y.size:=e
  subst e'
  exact PySem.W.len_bytes (by omega) ⟨.int _,H,I.tok _,⟨_,rfl⟩,q⟩
 | ref p=>
  cases rx
  have e':(∃ xs,pV X.K H p xs/\n=xs.length) \/ ∃ xs,qu X.K H p xs/\n=xs.length:=e
  rcases e' with ⟨xs,hx,e'⟩|⟨xs,hx,e'⟩
  ·subst e'
   obtain ⟨f_,r',pl,hz⟩:=I.list hx
   have hlen:=r'.length
   exact Calls.call_len_list pl.isList (by simp only [az];omega) ⟨.int xs.length,H,I.tok _,⟨_,by simp only [az];rw [hlen]⟩,q⟩
  ·subst e'
   obtain ⟨f_,r',pl,hz⟩:=I.tuple hx
   have hlen:=r'.length
   exact len_tuple pl (by simp only [az];omega) ⟨.int xs.length,H,I.tok _,⟨_,by simp only [az];rw [hlen]⟩,q⟩
 | _=>exact (show False from e).elim
end
structure zmW (h:aT) (x dx C:af) (mA:Str->Option ae):Prop where
 obj:h.get? x=some (mM C dx)
 ns:h.Ns1 dx mA
 ne:dx≠x
section
end
theorem oi.some_of (r:oi (some v) o):∃ u,o=some u/\RelV v u:=by
 cases o with
 | none=>exact (show False from r).elim
 | some u=>exact ⟨u,rfl,r⟩
structure JM (K:ai) (C:af):Prop where
 pg:mz K C Str.empty=true
 hd:PySem.W.hasDictIn K C=true
 po:PySem.W.plainOver K C=true
 sa:du K (.ref C) "__setattr__" = some (some (.builtin "object.__setattr__"))
theorem JM.get {K:ai} {C:af} (c:JM K C) (f:Str):mz K C f=true:=c.pg
structure Con (K:ai) (C:af) (f:Str) (v:V) (u:ae):Prop where
 at_:du K (.ref C) f=some (some u)
 rel:RelV v u
 get:gX K u "__get__" = some none
 cp:PySem.W.copiedNames.contains f=false
structure zmY (K:ai) (C:af) (m:Str) (f:af):Prop where
 at_:du K (.ref C) m=some (some (.ref f))
 fn:nu K (.ref f)=true
 kp:dB K (.ref f)=true
section
end
section
variable {H:Hp}
inductive vQ (K:ai) (H:Hp):V->ae->Prop where
 | non:vQ K H .non (.type "NoneType")
 | bl (x:Bool):vQ K H (.bl x) (.type "bool")
 | int (i:Int):vQ K H (.int i) (.type "int")
 | str (x:Str):vQ K H (.str x) (.type "str")
 | flt (x:UInt64):vQ K H (.flt x) (.type "float")
 | lst {a:af} {xs:List V} (e:H a=some (.lst xs)):vQ K H (.ref a) (.type "list")
 | frz {a:af} {o:Obj} {xs:List V} (e:H a=some (.frz o (.lst xs))):vQ K H (.ref a) (.type "list")
 | tup {a:af} {xs:List V} (e:H a=some (.tup xs)):vQ K H (.ref a) (.type "tuple")
 | dK {a:af} {l_:List (Key×V)} (e:H a=some (.dK l_)):vQ K H (.ref a) (.type "dict")
 | dT {a:af} {l_:List (List Key×V)} (e:H a=some (.dT l_)):vQ K H (.ref a) (.type "dict")
 | ins {a C dx:af} {fs:List (Str×V)} (e:H a=some (.ins C dx fs)) (cl:JM K C) (ha:du K (.ref C) "__class__" = some (some (.builtin "object.__class__")))
   (hn:gX K (.builtin "object.__class__") "__get__" = some (some (.builtin "getset_descriptor.__get__"))) (pM:j4 K (.builtin "object.__class__")=some true)
   (hm:ig K C (.type "object")=some true):vQ K H (.ref a) (.ref C)
end
structure nO (k:Nat) (A:aW):Prop where
 hd:A.handled=none
 dp:A.depth+3*k+5<recursionLimit
 un:A.units+16*k+200<cLine
theorem nO.mono (r:nO k A) (h:j<=k):nO j A:=⟨r.hd,by have:=r.dp;omega,by have:=r.un;omega⟩
theorem nO.deeper (r:nO (k+1) A) (env:Env):nO k (A.deeper env):=
 ⟨r.hd,by have:=r.dp;show A.depth+1+3*k+5<_;omega,by have:=r.un;show A.units+3+16*k+200<_;omega⟩
theorem nO.depth (r:nO k A):A.depth<recursionLimit:=by have:=r.dp;omega
theorem nO.units (r:nO k A):A.units+64<cLine:=by have:=r.un;omega
def Qq:TA:=fun _ H Q=>Q [] H
noncomputable def Q8 (ta:TE) (tr:TA):TA:=fun σ H Q=>ta σ H fun x H1=>tr σ H1 fun xs H2=>Q (x::xs) H2
section
variable {X:Cx} {e:aQ} {es:List aQ} {te:TE} {t:TA} {pos:Pos}
theorem yI:PA X [] Qq:=fun _ _ _ _ H Q I h=>jx ⟨[],H,I,.nil,h⟩
theorem vw (ha:PE X e te) (hr:PA X es t) (hs:aD (e::es) X.env=(false,eval e X.env)::aD es X.env:=by rfl):PA X (e::es) (Q8 te t):=by
 intro pos pins s σ H Q I h
 rw [hs]
 show am _ _ (spliced ((false,eval e X.env)::backTo pos (aD es X.env))) _ _ s
 refine gD (oV (ha pins s σ H _ I h) fun u s1 ⟨x,H1,I1,r1,q1⟩=>?_)
 exact oV (hr pos pins s1 σ H1 _ I1 q1) fun us s2 ⟨xs,H2,I2,r2,q2⟩=>⟨x::xs,H2,I2,.cons r1 r2,q2⟩
noncomputable def Qr (t:TA):TE:=fun σ H Q=>t σ H fun xs H1=>xs.length<=sizeLine/\∀ p,H1 p=none->Q (.ref p) (upd H1 p (.tup xs))
noncomputable def Qz (t:TA):TE:=fun σ H Q=>t σ H fun xs H1=>xs.length<=sizeLine/\∀ p,H1 p=none->Q (.ref p) (upd H1 p (.lst xs))
theorem Lg (h:PA X es t):PE X (.Tuple es x1 pos) (Qr t):=by
 intro pins s σ H Q I hq
 refine wpAny_Tuple_spliced (oV (h pos pins s σ H _ I hq) fun us s1 ⟨xs,H1,I1,r,z,q⟩=>⟨by rw [<- r.length];exact z,?_⟩)
 have hf:H1 s1.heap.objs.size=none:=I1.hok.fresh (ay _)
 refine ⟨.ref s1.heap.objs.size,upd H1 s1.heap.objs.size (.tup xs),I1.laid (t':=s1.toks) (fun b u e=>ah _ e) (ay _) ?_,rfl,q _ hf⟩
 exact ⟨z,us,r,n6.new _ _⟩
theorem Lr (h:PA X es t):PE X (.List es pos) (Qz t):=by
 intro pins s σ H Q I hq
 refine wpAny_List_spliced (oV (h pos pins s σ H _ I hq) fun us s1 ⟨xs,H1,I1,r,z,q⟩=>⟨by rw [<- r.length];exact z,?_⟩)
 have hf:H1 s1.heap.objs.size=none:=I1.hok.fresh (ay _)
 refine ⟨.ref s1.heap.objs.size,upd H1 s1.heap.objs.size (.lst xs),I1.laid (t':=s1.toks) (fun b u e=>ah _ e) (ay _) ?_,rfl,q _ hf⟩
 exact ⟨z,us,0,r,aE _ rfl⟩
end
abbrev Sp:=List V->Hp->VK->XK->Prop
abbrev uJ:=List Env->Hp->ag->XK->ae->ag->Prop
structure xO (P:aH) (w:aP) (K:ai) (mg:Str->Option ae) (base:aT) (A:aW) (outer:List Env) (s:ag) (H:Hp):Prop where
 frames:A.frames=some outer
 mod:Mod K mg base
 bs:∀ b o,base.get? b=some o->s.heap.get? b=some o/\H b=none
 bsz:base.objs.size<=s.heap.objs.size
 funs:s.heap.FunFrames base outer
 frf:∀ b∈ql outer,H b=none
 hok:HOk P w H s.heap
 bare:f8 s.gens
 tk:0<s.toks
noncomputable def CE (outer:List Env) (P:aH) (w:aP) (H:Hp) (s:ag) (Q:VK) (u:ae) (s':ag):Prop:=
 (∃ v H',s'.os=s.os/\f8 s'.gens/\Un (ql outer) [] H H' s.heap s'.heap/\HOk P w H' s'.heap/\RelV v u/\Q v H')/\0<s'.toks
noncomputable def CR (CX:uJ) (outer:List Env) (P:aH) (w:aP) (H:Hp) (s:ag) (Q:VK) (E:XK) (r:Result) (s':ag):Prop:=
 match r with
 | .ok (.ret u)=>CE outer P w H s Q u s'
 | .ok _=>False
 | .error e=>CX outer H s E e s'
structure nY (P:aH) (w:aP) (K:ai) (mg:Str->Option ae) (base:aT) (CX:uJ) (k:Nat) (f:af) (fd:dG) (ps:List Str) (sp:Sp):Prop where
 len:∀ vs H Q E,sp vs H Q E->vs.length=ps.length
 run:∀ (A:aW) (outer:List Env) (s:ag) (H:Hp) (args:Args) (us:List ae) (vs:List V) (Q:VK) (E:XK),nO k A->xO P w K mg base A outer s H->iq s fd args (ps.zip us)->nK vs us->sp vs H Q E->
  codeAny (av P w) A (.call (.ref f) args) (CR CX outer P w H s Q E) s
theorem nY.mono {P:aH} {w:aP} {K:ai} {mg:Str->Option ae} {base:aT} {CX:uJ} {j k:Nat} {f:af} {fd:dG} {ps:List Str} {sp:Sp} (F:nY P w K mg base CX j f fd ps sp) (h:j<=k):
  nY P w K mg base CX k f fd ps sp:=⟨F.len,fun A outer s H args us vs Q E hr=>F.run A outer s H args us vs Q E (hr.mono h)⟩
theorem nY.imp {P:aH} {w:aP} {K:ai} {mg:Str->Option ae} {base:aT} {CX:uJ} {k:Nat} {f:af} {fd:dG} {ps:List Str} {sp OE:Sp} (F:nY P w K mg base CX k f fd ps sp)
  (h:∀ vs H Q E,OE vs H Q E->sp vs H Q E):nY P w K mg base CX k f fd ps OE:=
 ⟨fun vs H Q E q=>F.len vs H Q E (h _ _ _ _ q),fun A outer s H args us vs Q E hr he hb hv hs=>F.run A outer s H args us vs Q E hr he hb hv (h _ _ _ _ hs)⟩
section
variable {X:Cx} {pins:List (af×Obj)} {σ:St} {H:Hp} {s s':ag}
theorem Inv.env0 (I:Inv X pins σ H s):xO X.prog X.w X.K X.mg X.base X.A X.stack s H:=
 ⟨I.ok.frames,I.ok.mod,I.bs,aU I.ok.bsz I.sz,I.stack,I.stkFree,I.hok,I.bare,I.tk⟩
theorem Inv.after (I:Inv X pins σ H s) (h:CE X.stack X.prog X.w H s Q u s'):EP X pins σ Q u s':=by
 obtain ⟨⟨v,H',os,bare,un,hok,r,q⟩,pM⟩:=h
 obtain ⟨hh,g,d,t,HY⟩:=s'
 obtain rfl:HY=s.os:=os
 exact ⟨v,H',I.call (h':=hh) (g':=g) (d':=d) (t':=t) (ch:=[]) un hok bare (fun b z=>absurd z (by simp)) pM,r,q⟩
end
noncomputable def QM (sp:Sp) (dvs:List V) (E:XK) (t:TA):TE:=fun σ H Q=>t σ H fun vs H1=>sp (vs++dvs) H1 Q E
noncomputable def Binds (K:ai) (fd:dG) (ps:List Str) (ds:List ae):Prop:=
 ∀ (s:ag) (us:List ae),K.In s.heap->(us++ds).length=ps.length->iq s fd ⟨us,[]⟩ (ps.zip (us++ds))
theorem Binds.all {K:ai} {fd:dG} {ps:List Str} (h:∀ us:List ae,us.length=ps.length->bindArgs fd ⟨us,[]⟩=pure (ps.zip us)):Binds K fd ps []:=fun s us _ hl=>by
 rw [bM] at hl ⊢
 exact .of_eq (h us hl)
noncomputable def Ad (CX:uJ) (X:Cx) (E:XK):Prop:=∀ (pins:List (af×Obj)) (σ:St) (H:Hp) (s:ag) (e:ae) (s':ag),Inv X pins σ H s->CX X.stack H s E e s'->X.xe e s'
section
variable {X:Cx} {CX:uJ} {k:Nat} {f C:af} {fd:dG} {ps:List Str} {sp:Sp} {dvs:List V} {ds:List ae} {E:XK} {x:Str} {p pos:Pos} {e:aQ} {es:List aQ} {t:TA}
theorem RM (F:nY X.prog X.w X.K X.mg X.base CX k f fd ps sp) (hr:nO k X.A) (hb:Binds X.K fd ps ds) (hd:nK dvs ds) (hx:Ad CX X E)
  (I:Inv X pins σ H s) (r:nK vs us) (h:sp (vs++dvs) H Q E):am (av X.prog X.w) X.A (call (.ref f) us) (EP X pins σ Q) X.xe s:=by
 have r2:nK (vs++dvs) (us++ds):=r.append hd
 have hl:(us++ds).length=ps.length:=by rw [<- r2.length];exact F.len _ _ _ _ h
 refine iE (eS (F.run X.A X.stack s H ⟨us,[]⟩ (us++ds) (vs++dvs) Q E hr I.env0 (hb s us I.kIn hl) r2 h) fun r s' hq=>?_)
 cases r with
 | error e=>exact hx pins σ H s e s' I hq
 | ok fl=>
  cases fl with
  | ret u=>exact I.after hq
  | next=>exact ak hq
  | brk=>exact ak hq
  | cont=>exact ak hq
theorem VQ (F:nY X.prog X.w X.K X.mg X.base CX k f fd ps sp) (hr:nO k X.A) (hg:Gl X x) (hm:X.mg x=some (.ref f)) (hk:dB X.K (.ref f)=true) (hb:Binds X.K fd ps ds) (hd:nK dvs ds) (hx:Ad CX X E)
  (ha:PA X (e::es) t) (qX:(x==("__debug__":Str))=false:=by decide) (he:aD (e::es) X.env=(false,eval e X.env)::aD es X.env:=by rfl) (p_:(backTo pos (aD es X.env)).any (·.1)=false:=by rfl):
  PE X (.Call (.Name x p) (e::es) [] pos) (QM sp dvs E t):=by
 intro pins s σ H Q I h
 refine fP (Bz I hg hm ?_ qX)
 refine lG (h₀:=X.base) I.ok.mod.kin hk (oV (ha pos pins s σ H _ I h) fun us s1 ⟨vs,H1,I1,r,q⟩=>⟨I1.kIn,?_⟩) he p_
 exact RM F hr hb hd hx I1 r q
structure Mk (K:ai) (C f:af):Prop where
 makes:PySem.W.makesIn K C=true
 init:du K (.ref C) "__init__" = some (some (.ref f))
 fn:nu K (.ref f)=true
 kp:dB K (.ref C)=true
end
section
variable {fd:dG} {ps ks:List Str}
structure zmh (K:ai) (fd:dG) (ps ks:List Str) (g:List ae->List ae->List ae) (gV:List V->List V->List V):Prop where
 to:∀ (s:ag) (us ws:List ae),K.In s.heap->(g us ws).length=ps.length->iq s fd ⟨us,ks.zip ws⟩ (ps.zip (g us ws))
 rel:∀ {vs:List V} {us:List ae} {zs:List V} {ws:List ae},nK vs us->nK zs ws->nK (gV vs zs) (g us ws)
end
structure pK (N P:List Str) (sc:cF):Prop where
 kind:sc.kind=.function
 co:sc.isCoroutine=false
 gen:sc.isGenerator=false
 nd:N.Nodup
 pre:N.take P.length=P
 par:∀ x∈P,sc.names.lookup x=some .local\/sc.names.lookup x=some .cell
 nofree:∀ y∈sc.names,y.2 ≠ .free
theorem Nn {kindOf:Str->Option cZ} {x:Str}:∀ {binds:List (Str×ae)} {m:Str->Option ae},(∀ v,(x,v)∉binds)->bindL kindOf binds m x=m x
 | [],_,_=>rfl
 | (n,v)::r,m,h=>by
  unfold bindL
  rw [Nn fun w hw=>h w (aq _ hw)]
  split
  ·have:x≠n:=by rintro rfl;exact h v aI
   simp [this]
  ·rfl
theorem Nk {kindOf:Str->Option cZ} {x:Str}:∀ {binds:List (Str×ae)} {m:Str->Option ae},(∀ v,(x,v)∉binds)->bindC kindOf binds m x=m x
 | [],_,_=>rfl
 | (n,v)::r,m,h=>by
  unfold bindC
  rw [Nk fun w hw=>h w (aq _ hw)]
  split
  ·rfl
  ·have:x≠n:=by rintro rfl;exact h v aI
   simp [this]
theorem Nc {kindOf:Str->Option cZ} {x:Str} {v:ae}:∀ {P:List Str} {vs:List ae} {i:Nat} {m:Str->Option ae},P.Nodup->P[i]?=some x->vs[i]?=some v->kindOf x=some .local->
  bindL kindOf (P.zip vs) m x=some v
 | [],_,_,_,_,h,_,_=>by simp at h
 | _::_,[],_,_,_,_,h,_=>by simp at h
 | p::P,w::vs,0,m,nd,h1,h2,hk=>by
  simp at h1 h2;subst h1;subst h2
  show bindL kindOf ((p,w)::P.zip vs) m p=_
  unfold bindL
  rw [Nn fun v hv=>(cj.mp nd).1 (iF hv).1,if_pos hk]
  simp
 | p::P,w::vs,i+1,m,nd,h1,h2,hk=>by
  show bindL kindOf ((p,w)::P.zip vs) m x=_
  unfold bindL
  exact Nc (i:=i) (cj.mp nd).2 (by simpa using h1) (by simpa using h2) hk
theorem Ni {kindOf:Str->Option cZ} {x:Str} {v:ae}:∀ {P:List Str} {vs:List ae} {i:Nat} {m:Str->Option ae},P.Nodup->P[i]?=some x->vs[i]?=some v->kindOf x≠some .local->
  bindC kindOf (P.zip vs) m x=some v
 | [],_,_,_,_,h,_,_=>by simp at h
 | _::_,[],_,_,_,_,h,_=>by simp at h
 | p::P,w::vs,0,m,nd,h1,h2,hk=>by
  simp at h1 h2;subst h1;subst h2
  show bindC kindOf ((p,w)::P.zip vs) m p=_
  unfold bindC
  rw [Nk fun v hv=>(cj.mp nd).1 (iF hv).1,if_neg hk]
  simp
 | p::P,w::vs,i+1,m,nd,h1,h2,hk=>by
  show bindC kindOf ((p,w)::P.zip vs) m x=_
  unfold bindC
  exact Ni (i:=i) (cj.mp nd).2 (by simpa using h1) (by simpa using h2) hk
def start (N:List Str) (vs:List V):St:=vs.map some++ao (N.length-vs.length) none
noncomputable def wQ (CX:uJ) (P:aH) (w:aP) (K:ai) (mg:Str->Option ae) (base:aT) (N:List Str) (qual:Str) (scope:cF) (f:af) (cd:ae) (A:aW) (outer:List Env) (s:ag) (H:Hp) (E:XK):Cx where
 prog:=P
 w:=w
 K:=K
 mg:=mg
 base:=base
 A:=A.deeper (envOfC qual scope s.heap.objs.size f cd)
 N:=N
 s₀:=s
 H₀:=H
 env:=envOfC qual scope s.heap.objs.size f cd
 outer:=outer
 stack:=envOfC qual scope s.heap.objs.size f cd::outer
 ex:=[]
 calm:=true
 fn:=fun _=>true
 pn:=[]
 xe:=fun e s'=>am (av P w) (A.deeper (envOfC qual scope s.heap.objs.size f cd)) (leaving (envOfC qual scope s.heap.objs.size f cd) e) (fun _ qf=>CX outer H s E e qf) (fun e' qf=>CX outer H s E e' qf) s'
theorem M4 {sc:cF} {n:Nat} {x:Str} (h:sc.names.lookup x=some .cell):∃ c,(bW n sc.names []).lookup x=some c:=by
 have q:=fW sc.names n [] (.inl h)
 exact jL.mp q
theorem Ny {CX:uJ} {P:aH} {w:aP} {K:ai} {mg:Str->Option ae} {base:aT} {N ps:List Str} {qual:Str} {scope:cF} {f:af} {cd:ae} {A:aW} {outer:List Env} {s s1:ag} {H:Hp} {E:XK} {us:List ae} {vs:List V}
  (S:pK N ps scope) (hd:A.handled=none) (e0:xO P w K mg base A outer s H) (hl:vs.length=ps.length) (r:nK vs us)
  (x:InCallC s s.heap.objs.size (bindL (envOfC qual scope s.heap.objs.size f cd).kindOf (ps.zip us) fun _=>none) (bW (s.heap.objs.size+1) scope.names []) (bindC (envOfC qual scope s.heap.objs.size f cd).kindOf (ps.zip us) fun _=>none) s1) (pM:0<s1.toks):
  Inv (wQ CX P w K mg base N qual scope f cd A outer s H E) [] (start N vs) H s1:=by
 have p_:ps.length<=N.length:=by have:=congrArg mq S.pre;rw [bG] at this;omega
 obtain ⟨h1,tk,rfl,hk⟩:=x.done
 have xo:∀ b:af,b∉(wQ CX P w K mg base N qual scope f cd A outer s H E).ex:=fun b z=>absurd (show b∈([]:List af) from z) (by simp)
 refine ⟨⟨e0.mod,S.kind,rfl,rfl,ay _,fun y z c h1 h2=>?_,fun y hy=>?_,fun y c _ h=>?_,fun _=>hd,kQ e0.frames,.inr ⟨rfl,rfl⟩,fun b z=>absurd z (xo b),e0.bs,e0.bsz,fun b _ _=>xo b,fun b z=>absurd z (xo b),e0.funs,e0.frf⟩,
  rfl,e0.bare,Un.kept hk,⟨_,x.toInCall.ns,fun i y v h1 h2 h3=>?_⟩,fun y c h=>⟨_,x.cell y c h⟩,e0.hok.fresh (ay _),fun y c h=>?_,fun p hp=>absurd (show p∈([]:List (af×Obj)) from hp) (by simp),e0.hok.kept hk,?_,pM⟩
 ·exact name_of_addr x.apart (bE h1) (bE h2)
 ·have hy:scope.names.lookup y=some .cell\/scope.names.lookup y=some .free:=hy
  rcases hy with hy|hy
  ·exact M4 hy
  ·exact absurd rfl (S.nofree _ (bE hy))
 ·exact fK (x.above y c (bE h))
 ·have hi:i<vs.length:=by
   unfold start at h2
   by_cases hi:i<vs.length
   ·exact hi
   ·rw [a5 (by simpa using hi)] at h2
    rw [eF] at h2
    split at h2<;>cases h2
  have ha:vs[i]?=some v:=by
   unfold start at h2
   rw [aK (by simpa using hi),bh] at h2
   cases e:vs[i]? with
   | none=>rw [e] at h2;cases h2
   | some a=>rw [e] at h2;cases h2;rfl
  obtain ⟨u,hu,rv⟩:=r.get ha
  have hp:ps[i]?=some y:=by
   rw [<- S.pre,fL (by omega)];exact h1
  have OR:ps.Nodup:=by rw [<- S.pre];exact S.nd.sublist (cH _ _)
  refine ⟨u,rv,?_⟩
  rcases S.par y (aC hp) with k|k
  ·exact .inl ⟨k,Nc OR hp hu k⟩
  ·obtain ⟨c,e⟩:=M4 (n:=s.heap.objs.size+1) k
   refine .inr ⟨.inl k,c,e,?_⟩
   have q:=x.cell y c e
   rw [Ni OR hp hu (by show scope.names.lookup y≠_;rw [k];decide)] at q
   exact q
 ·exact e0.hok.fresh (fK (x.above y c (bE h)))
 ·unfold start
  show _=N.length
  rw [ar,aM,ir]
  omega
theorem o5 {CX:uJ} {P:aH} {w:aP} {K:ai} {mg:Str->Option ae} {base:aT} {k:Nat} {f:af} {name qual:Str} {params:fE} {body:List dh} {scope:cF} {dV kV doc pm k_ ct oc:ae} {an od:Option af}
  {sk:Array (Option ae)} {N ps:List Str} {sp:Sp} (lk:K.lookup f=some ⟨oc,od,.func (bI name qual params body scope dV kV doc pm an k_ ct),sk⟩) (pY:ee K k_ qual=true) (S:pK N ps scope)
  (len:∀ vs H Q E,sp vs H Q E->vs.length=ps.length)
  (pU:∀ (A:aW) (outer:List Env) (s:ag) (H:Hp) (vs:List V) (Q:VK) (E:XK),nO k (A.deeper (envOfC qual scope s.heap.objs.size f k_))->sp vs H Q E->
   ∃ t,qY (wQ CX P w K mg base N qual scope f k_ A outer s H E) body t/\t { nx:=fun _ H'=>Q .non H',rt:=Q } (start N vs) H):
  nY P w K mg base CX (k+1) f (bI name qual params body scope dV kV doc pm an k_ ct) ps sp:=by
 refine ⟨len,fun A outer s H args us vs Q E hr e0 hb r yj=>?_⟩
 have hl:=len _ _ _ _ yj
 have KX:K.In s.heap:=e0.mod.kin.keeps fun b o e=>(e0.bs b o e).1
 have lim:s.heap.NoLimit:=e0.mod.nolimit.keeps fun b o e=>(e0.bs b o e).1
 have wg:∀ y∈ps.zip us,scope.names.lookup y.1=some .local\/(scope.names.lookup y.1=some .cell/\((bW (s.heap.objs.size+1) scope.names []).lookup y.1).isSome=true):=fun ⟨n,v⟩ hy=>by
  rcases S.par n (iF hy).1 with q|q
  ·exact .inl q
  ·exact .inr ⟨q,fW _ _ _ (.inl q)⟩
 refine kA hr.depth (KX _ _ lk) rfl S.co S.gen rfl (lH KX pY) (hb _ _ _ _ ?_)
 refine eZ e0.tk (jn S.kind wg fun env he s1 x pM=>?_)
 subst he
 refine ⟨lim.keeps x.toInCall.keep,codeAny_func ?_⟩
 obtain ⟨t,ht,hq⟩:=pU A outer s H vs Q E (hr.deeper _) yj
 have I:Inv (wQ CX P w K mg base N qual scope f k_ A outer s H E) [] (start N vs) H s1:=Ny S hr.hd e0 hl r x pM
 refine dF (ht [] s1 (start N vs) H _ I hq) (fun fl s' hs=>?_) fun e s' hs=>hs
 have fin:∀ {σ':St} {H':Hp} {v:V} {u:ae},Inv (wQ CX P w K mg base N qual scope f k_ A outer s H E) [] σ' H' s'->RelV v u->Q v H'->CE outer P w H s Q u s':=
  fun {σ' H' v u} J rv q=>⟨⟨v,H',J.os,J.bare,J.base,J.hok,rv,q⟩,J.tk⟩
 cases fl with
 | ret u=>
  obtain ⟨v,σ',H',J,rv,q⟩:=hs
  exact fin J rv q
 | next=>
  obtain ⟨σ',H',J,q⟩:=hs
  exact fin (v:=V.non) (u:=cx) J rfl q
 | brk=>
  obtain ⟨_,_,_,q⟩:=hs
  exact ak q
 | cont=>
  obtain ⟨_,_,_,q⟩:=hs
  exact ak q
section
variable {X:Cx} {x:Str} {p pos:Pos} {e:aQ} {es:List aQ} {t:TA} {id T:String} {r:List V->Hp->VK->Prop}
def HN (r:List V->Hp->VK->Prop) (t:TA):TE:=fun σ H Q=>t σ H fun vs H1=>r vs H1 Q
theorem Aw (hc:nU X (.builtin id) r) (hg:Gl X x) (hm:X.mg x=none) (hv:a9 x=some (.builtin id)) (ha:PA X (e::es) t) (hn:x ≠ "__name__":=by decide) (qX:(x==("__debug__":Str))=false:=by decide)
  (he:aD (e::es) X.env=(false,eval e X.env)::aD es X.env:=by rfl) (p_:(backTo pos (aD es X.env)).any (·.1)=false:=by rfl):PE X (.Call (.Name x p) (e::es) [] pos) (HN r t):=by
 intro pins s σ H Q I h
 refine fP (zZ I hg hm hv ?_ hn qX)
 exact PyProof.Rows.callWith_builtin1 (oV (ha pos pins s σ H _ I h) fun us s1 ⟨vs,H1,I1,r1,q1⟩=>hc pins s1 σ H1 vs us Q I1 r1 q1) he p_
theorem Nq (hc:nU X (.type T) r) (hg:Gl X x) (hm:X.mg x=none) (hv:a9 x=some (.type T)) (ha:PA X (e::es) t) (hn:x ≠ "__name__":=by decide) (qX:(x==("__debug__":Str))=false:=by decide)
  (he:aD (e::es) X.env=(false,eval e X.env)::aD es X.env:=by rfl) (p_:(backTo pos (aD es X.env)).any (·.1)=false:=by rfl):PE X (.Call (.Name x p) (e::es) [] pos) (HN r t):=by
 intro pins s σ H Q I h
 refine fP (zZ I hg hm hv ?_ hn qX)
 exact eR (oV (ha pos pins s σ H _ I h) fun us s1 ⟨vs,H1,I1,r1,q1⟩=>hc pins s1 σ H1 vs us Q I1 r1 q1) he p_
end
end L2
namespace HT
open PySem PyProof.Rows
section
open PySem.SeqAt
open PySem.AutoSeq1 (wpAny_loadPart')
open PySem.MeetsSeq PySem.MeetsSeq2 PySem.MeetsSeq3
end
section
variable {prog:aH} {w:aP} {A:aW} {E:ae->ag->Prop} {s:ag}
theorem cat_tup (ht:IsTup s.heap t vs.toArray) (hb:IsTup s.heap b ws.toArray) (hv:vs≠[])
  (h1:ws=[]->Q (.ref t) s) (h2:ws≠[]->Q (.ref s.heap.objs.size) { s with heap:=s.heap.push { cls:=.type "tuple",data:=.seq (vs++ws).toArray } })
  (o_:vs.length+ws.length<=sizeLine):am (av prog w) A (dj .Add (.ref t) (.ref b)) Q E s:=by
 obtain ⟨⟨cls,dd,data,sl⟩,ho,hc,n,hd⟩:=id ht
 obtain ⟨⟨cls2,PY,data2,OF⟩,Ft,wN,n2,hd2⟩:=id hb
 simp only at hc hd wN hd2
 subst hc hd wN hd2
 have e:vs.toArray++ws.toArray=(vs++ws).toArray:=by simp
 by_cases hw:ws=[]
 ·exact jf ⟨_,ho,rfl⟩ ⟨_,Ft,rfl⟩ jM k8 hG gR (gE _ _)
   (tuple_addW1 t b vs.toArray ws.toArray n n2 dd PY sl OF (by simpa using hv) (by simp [hw])) ⟨ho,Ft,h1 hw⟩
 ·refine jf ⟨_,ho,rfl⟩ ⟨_,Ft,rfl⟩ jM k8 hG gR (gE _ _)
   (tuple_addW2 t b vs.toArray ws.toArray n n2 dd PY sl OF (by simpa using hv) (by simpa using hw) (by rw [az,az];exact o_)) ⟨ho,Ft,?_⟩
  rw [e]
  exact h2 hw
noncomputable def sIx (n d:Nat):Option Int->Nat
 | none=>d
 | some v=>if v<0 then (v+(n:Int)).toNat else min v.toNat n
theorem sIx_none (n d:Nat):sIx n d none=d:=rfl
theorem sIx_nat (n d k:Nat):sIx n d (some (k:Int))=min k n:=by
 show (if (k:Int)<0 then ((k:Int)+(n:Int)).toNat else min (k:Int).toNat n)=min k n
 rw [if_neg (by omega),fq]
theorem TY (n d:Nat) (hd:d<=n) (o:Option Int):sIx n d o<=n:=by
 cases o with
 | none=>exact hd
 | some v=>
  show (if v<0 then (v+(n:Int)).toNat else min v.toNat n)<=n
  by_cases hv:v<0
  ·rw [if_pos hv];omega
  ·rw [if_neg hv];exact mB _ _
theorem L9 (v:Int) (n d:Nat):(if v<0 then max (v+(n:Int)) 0 else min v (n:Int))=((sIx n d (some v):Nat):Int):=by
 show (if v<0 then max (v+(n:Int)) 0 else min v (n:Int))=(((if v<0 then (v+(n:Int)).toNat else min v.toNat n):Nat):Int)
 by_cases hv:v<0
 ·simp only [if_pos hv];omega
 ·simp only [if_neg hv];omega
theorem YJ (lo hi:Option Int) (n:Nat):gu lo hi 1 (n:Int)=(((sIx n 0 lo:Nat):Int),((sIx n n hi:Nat):Int)):=by
 have h1:¬ ((1:Int)<0):=by omega
 unfold gu
 simp only [h1,if_false]
 refine kO ?_ ?_
 ·cases lo with
  | none=>rfl
  | some v=>exact L9 v n 0
 ·cases hi with
  | none=>rfl
  | some v=>exact L9 v n n
theorem Yn (i j:Nat):cR (i:Int) (j:Int) 1=j-i:=by
 unfold cR
 have h1:(1:Int)>0:=by omega
 simp only [h1,if_true,Int.ediv_one]
 split<;>omega
theorem slicePart_ (p:f9 v o) (h:Q o s):am (av prog w) A (Builtin.Slice.slicePartIndex v) Q E s:=by
 cases p with
 | none=>exact iU h
 | int i t=>exact slicePart_int h
theorem sliceApplied_gen {sl:af} {vl vu:ae} {lo hi:Option Int} {n:Nat} {Q:Int×Int×Nat->ag->Prop} (hs:s.heap.IsSliceOf sl vl vu .none) (pl:f9 vl lo) (pu:f9 vu hi)
  (h:Q (((sIx n 0 lo:Nat):Int),1,sIx n n hi-sIx n 0 lo) s):am (av prog w) A (fg (.ref sl) (pure (n:Int))) Q E s:=by
 obtain ⟨os,zl,s_,tJ⟩:=id hs
 unfold fg jD
 refine aa (aa (be zl tJ (x:=vl) rfl (aa (be zl tJ (x:=vu) rfl (aa (be zl tJ (x:=.none) rfl (aj ?_)))))))
 refine aa (iU ?_)
 show am _ _ (if ((1:Int)==0)=true then _ else _) _ _ s
 rw [if_neg (by decide)]
 refine aa (slicePart_ pl (aa (slicePart_ pu (aa (aj ?_)))))
 show am _ _ (match gu lo hi 1 (n:Int) with|(lo,hi)=>pure (lo,(1:Int),cR lo hi 1)) _ _ s
 rw [YJ lo hi n]
 show am _ _ (pure (((sIx n 0 lo:Nat):Int),(1:Int),cR ((sIx n 0 lo:Nat):Int) ((sIx n n hi:Nat):Int) 1)) _ _ s
 rw [Yn]
 exact aj h
theorem W1 (xs:Array ae) (i k:Nat):((bd k).filterMap fun (m:Nat)=>xs[((i:Int)+(m:Int)*1).toNat]?).toArray=((xs.toList.drop i).take k).toArray:=by
 have e:(fun (m:Nat)=>xs[((i:Int)+(m:Int)*1).toNat]?)=fun m=>xs[i+m]?:=by
  funext m
  have:((i:Int)+(m:Int)*1).toNat=i+m:=by omega
  rw [this]
 rw [e]
 have:=pick_run xs i k
 rw [List.filterMap_map] at this
 have e2:((fun x=>xs[x]?)∘fun x=>i+x)=fun m=>xs[i+m]?:=rfl
 rw [e2] at this
 rw [this]
theorem getItem_tuple_cut {t sl:af} {items:Array ae} {vl vu:ae} {lo hi:Option Int} {Q:ae->ag->Prop} (ht:IsTup s.heap t items) (hs:s.heap.IsSliceOf sl vl vu .none) (pl:f9 vl lo) (pu:f9 vu hi)
  (hw:¬ (sIx items.size 0 lo=0/\sIx items.size items.size hi=items.size))
  (h:Q (.ref s.heap.objs.size) { s with heap:=s.heap.push { cls:=.type "tuple",data:=.seq ((items.toList.drop (sIx items.size 0 lo)).take (sIx items.size items.size hi-sIx items.size 0 lo)).toArray } })
  (o_:items.size<=sizeLine):am (av prog w) A (getItem (.ref t) (.ref sl)) Q E s:=by
 have uC:sizeOk (.seq ((items.toList.drop (sIx items.size 0 lo)).take (sIx items.size items.size hi-sIx items.size 0 lo)).toArray):=by
  show ((items.toList.drop (sIx items.size 0 lo)).take (sIx items.size items.size hi-sIx items.size 0 lo)).toArray.size<=sizeLine
  rw [az,bG,bN,aB]
  omega
 have hj:sIx items.size items.size hi<=items.size:=TY _ _ (ay _) hi
 obtain ⟨os,zl,s_,tJ⟩:=id hs
 have Dh:s.TypeIs (.ref sl) "slice":=⟨os,zl,s_⟩
 unfold getItem
 try with_reducible refine cb ?_
 first|refine aa (aj ?_)|skip
 refine aa (jy ht.typeIs (by decide) ?_)
 refine aa (bF (name:=mK "__getitem__") ht.typeIs bz
  (bJ bz ht.typeIs iQ ?_ (jg _ _)))
 show am _ _ (gh (.ref t) >>= _) _ _ s
 refine aa (k9 ht ?_)
 refine aa (gF Dh ?_)
 rw [if_pos (by decide)]
 refine aa (sliceApplied_gen hs pl pu ?_)
 have IQ:¬ ((((sIx items.size 0 lo:Nat):Int)==0&&(1:Int)==1&&(sIx items.size items.size hi-sIx items.size 0 lo)==items.size)=true):=by
  intro q
  rw [a6,a6] at q
  have q1:((sIx items.size 0 lo:Nat):Int)=0:=eq_of_beq q.1.1
  have q2:sIx items.size items.size hi-sIx items.size 0 lo=items.size:=eq_of_beq q.2
  exact hw ⟨by omega,by omega⟩
 show am _ _ (if (((sIx items.size 0 lo:Nat):Int)==0&&(1:Int)==1&&(sIx items.size items.size hi-sIx items.size 0 lo)==items.size)=true then _ else _) _ _ s
 rw [if_neg IQ,W1]
 first
  | exact aa (m:=ci _) (bt (aj ⟨_,rfl,aj h⟩) uC)
  | exact aa (m:=ci _) (bt (aa (aj (aj ⟨_,rfl,aj h⟩))) uC)
  | exact aa (aa (m:=ci _) (bt (aj (aj ⟨_,rfl,aj h⟩)) uC))
  | exact aa (aa (m:=ci _) (bt (aj ⟨_,rfl,aj h⟩) uC))
end
end HT
namespace L2
open PySem PySem.Spec PyProof.Rows
abbrev TO:=St->Hp->(Option Int->Hp->Prop)->Prop
noncomputable def PO (X:Cx) (e:Option aQ) (t:TO):Prop:=
 ∀ (pins:List (af×Obj)) (s:ag) (σ:St) (H:Hp) (Q:Option Int->Hp->Prop),Inv X pins σ H s->t σ H Q->
  am (av X.prog X.w) X.A (evalPart e X.env) (fun u s'=>∃ o H',Inv X pins σ H' s'/\f9 u o/\Q o H') X.xe s
def VN:TO:=fun _ H Q=>Q none H
def Q3 (t:TE):TO:=fun σ H Q=>t σ H fun x H1=>∃ i,x=.int i/\Q (some i) H1
section
variable {X:Cx} {e:aQ} {te:TE} {lo hi:Option aQ} {tl th:TO} {pos p2:Pos}
theorem Ue:PO X none VN:=by
 intro pins s σ H Q I h
 rw [lc]
 exact aj ⟨none,H,I,.none,h⟩
theorem Vh (h:PE X e te):PO X (some e) (Q3 te):=by
 intro pins s σ H Q I hw
 rw [evalPart_some]
 refine oV (h pins s σ H _ I hw) fun u s1 ⟨x,H1,I1,r1,q1⟩=>?_
 obtain ⟨i,rfl,q⟩:=q1
 obtain ⟨t,rfl⟩:=r1
 exact ⟨some i,H1,I1,.int i t,q⟩
noncomputable def vJ (X:Cx) (r:V->Option Int->Option Int->Hp->VK->Prop):Prop:=
 ∀ (pins:List (af×Obj)) (s:ag) (σ:St) (H:Hp) (x:V) (v vl vu:ae) (lo hi:Option Int) (sl:af) (Q:VK),Inv X pins σ H s->RelV x v->s.heap.IsSliceOf sl vl vu .none->f9 vl lo->f9 vu hi->r x lo hi H Q->
  ∃ T id,typeLookup (.type T) "__getitem__" = pure (some (.builtin id))/\s.TypeIs v T/\am (av X.prog X.w) X.A (getItem v (.ref sl)) (EP X pins σ Q) X.xe s
theorem vJ.or (h:vJ X r) (h':vJ X r'):vJ X (fun x lo hi H Q=>r x lo hi H Q\/r' x lo hi H Q):=by
 intro pins s σ H x v vl vu lo hi sl Q I rx hs pl pu q
 rcases q with q|q
 ·exact h pins s σ H x v vl vu lo hi sl Q I rx hs pl pu q
 ·exact h' pins s σ H x v vl vu lo hi sl Q I rx hs pl pu q
noncomputable def tSl (r:V->Option Int->Option Int->Hp->VK->Prop) (te:TE) (tl th:TO):TE:=fun σ H Q=>te σ H fun x H1=>tl σ H1 fun l H2=>th σ H2 fun u H3=>r x l u H3 Q
theorem V3 (hr:vJ X r) (he:PE X e te) (hl:PO X lo tl) (hu:PO X hi th):PE X (.Subscript e (.Slice lo hi none p2) pos) (tSl r te tl th):=by
 intro pins s σ H Q I h
 refine kR (oV (he pins s σ H _ I h) fun v s1 ⟨x,H1,I1,r1,q1⟩=>?_)
 refine wpAny_Slice (oV (hl pins s1 σ H1 _ I1 q1) fun vl s2 ⟨l,H2,I2,pl,q2⟩=>oV (hu pins s2 σ H2 _ I2 q2) fun vu s3 ⟨u,H3,I3,pu,q3⟩=>?_)
 rw [lc]
 refine aj ?_
 have I4:Inv X pins σ H3 { s3 with heap:=s3.heap.push { cls:=.type "slice",data:=.fields #[vl,vu,.none] } }:=I3.kept (t':=s3.toks) fun b ob q=>ah _ q
 obtain ⟨T,id,hT,ht,hg⟩:=hr pins { s3 with heap:=s3.heap.push { cls:=.type "slice",data:=.fields #[vl,vu,.none] } } σ H3 x v vl vu l u s3.heap.objs.size Q I4 r1 (lI ..) pl pu q3
 show am (av X.prog X.w) X.A (subscriptTail e (.Slice lo hi none p2) v (.ref s3.heap.objs.size)) (EP X pins σ Q) X.xe { s3 with heap:=s3.heap.push { cls:=.type "slice",data:=.fields #[vl,vu,.none] } }
 exact tail_any (ops:=[.ref s3.heap.objs.size,v]) ht hT hg (by with_unfolding_all rfl)
noncomputable def xN (xs:List V) (lo hi:Option Int):List V:=(xs.drop (HT.sIx xs.length 0 lo)).take (HT.sIx xs.length xs.length hi-HT.sIx xs.length 0 lo)
theorem NO (xs:List V) (lo hi:Option Int):(xN xs lo hi).length<=xs.length:=by
 unfold xN
 rw [bG,bN]
 omega
noncomputable def Ka (K:ai):V->Option Int->Option Int->Hp->VK->Prop:=fun x lo hi H Q=>∃ a xs,x=.ref a/\qu K H a xs/\
 ¬ (HT.sIx xs.length 0 lo=0/\HT.sIx xs.length xs.length hi=xs.length)/\∀ p,H p=none->Q (.ref p) (upd H p (.tup (xN xs lo hi)))
theorem SM:vJ X (Ka X.K):=by
 intro pins s σ H x v vl vu lo hi sl Q I rx hs pl pu h
 obtain ⟨a,xs,rfl,hx,hw,q⟩:=h
 cases rx
 obtain ⟨f_,r,ht,hz⟩:=I.tuple hx
 have hlen:f_.toArray.size=xs.length:=by rw [az];exact r.length.symm
 refine ⟨"tuple",_,bz.lookup,ht.typeIs,?_⟩
 refine HT.getItem_tuple_cut ht hs pl pu (by rw [hlen];exact hw) ?_ (by rw [hlen];exact hz)
 rw [hlen]
 refine ⟨.ref s.heap.objs.size,_,I.laid (t':=s.toks) (o:=.tup (xN xs lo hi)) (fun b ob q=>ah _ q) (ay _) ?_,rfl,q _ (I.hok.fresh (ay _))⟩
 exact ⟨aU (NO xs lo hi) hz,_,(r.drop (HT.sIx xs.length 0 lo)).take (HT.sIx xs.length xs.length hi-HT.sIx xs.length 0 lo),n6.new _ _⟩
noncomputable def Ky (K:ai):R2:=fun x y H Q=>∃ a b xs ys,x=.ref a/\y=.ref b/\qu K H a xs/\qu K H b ys/\xs≠[]/\xs.length+ys.length<=sizeLine/\
 (ys=[]->Q (.ref a) H)/\(ys≠[]->∀ p,H p=none->Q (.ref p) (upd H p (.tup (xs++ys))))
theorem nK.nil_iff (r:nK xs us):us=[]↔xs=[]:=by
 cases r with
 | nil=>simp
 | cons _ _=>simp
theorem Vc:pH X (dj .Add) (Ky X.K):=by
 intro pins s σ H x y v u Q I rx ry h
 obtain ⟨a,b,xs,ys,rfl,rfl,ha,hb,hx,hz,q1,q2⟩:=h
 cases rx
 cases ry
 obtain ⟨f_,r1,p1,_⟩:=I.tuple ha
 obtain ⟨qW,r2,p2,_⟩:=I.tuple hb
 refine HT.cat_tup p1 p2 (fun z=>hx (r1.nil_iff.mp z)) (fun z=>⟨.ref a,H,I,rfl,q1 (r2.nil_iff.mp z)⟩) (fun z=>?_) (by rw [<- r1.length,<- r2.length];exact hz)
 refine ⟨.ref s.heap.objs.size,_,I.laid (t':=s.toks) (o:=.tup (xs++ys)) (fun b ob q=>ah _ q) (ay _) ?_,rfl,q2 (fun w=>z (r2.nil_iff.mpr w)) _ (I.hok.fresh (ay _))⟩
 exact ⟨by rw [ar];exact hz,_,r1.append r2,n6.new _ _⟩
end
noncomputable def ixN (n:Nat) (i:Int):Option Nat:=if 0<=i then (if i<n then some i.toNat else none) else if -(n:Int)<=i then some (i+n).toNat else none
noncomputable def atI {α:Type} (xs:List α) (i:Int):Option α:=(ixN xs.length i).bind fun j=>xs[j]?
theorem LM (h:ixN n i=some j):seqIndex? i n=some j/\j<n/\-(n:Int)<=i/\i<n:=by
 unfold ixN at h
 by_cases h0:0<=i
 ·rw [if_pos h0] at h
  by_cases h1:i<n
  ·rw [if_pos h1] at h
   have e:i.toNat=j:=bV h
   exact ⟨by rw [mr h0 h1,e],by omega,by omega,h1⟩
  ·rw [if_neg h1] at h;cases h
 ·rw [if_neg h0] at h
  by_cases h1:-(n:Int)<=i
  ·rw [if_pos h1] at h
   have e:(i+n).toNat=j:=bV h
   exact ⟨by rw [seqIndex_neg (by omega) h1,e],by omega,h1,by omega⟩
  ·rw [if_neg h1] at h;cases h
theorem GL {α:Type} {xs:List α} {i:Int} {v:α} (h:atI xs i=some v):∃ j,seqIndex? i xs.length=some j/\xs[j]?=some v/\j<xs.length/\-(xs.length:Int)<=i/\i<xs.length:=by
 unfold atI at h
 cases e:ixN xs.length i with
 | none=>rw [e] at h;cases h
 | some j=>
  rw [e] at h
  obtain ⟨h1,h2,h3,h4⟩:=LM e
  exact ⟨j,h1,h,h2,h3,h4⟩
theorem atI_nat {α:Type} {xs:List α} {j:Nat} {v:α} (h:xs[j]?=some v):atI xs (j:Int)=some v:=by
 have hj:j<xs.length:=(al.mp h).1
 have e:ixN xs.length (j:Int)=some j:=by
  unfold ixN
  rw [if_pos (by omega),if_pos (by omega)];simp
 unfold atI;rw [e];exact h
def Mb (b:aQ):Prop:=∀ o i,subscripted b false o i=operate [o,i] (getItem o i)
noncomputable def xH (X:Cx) (r:R2):Prop:=
 ∀ (value slice:aQ) (pins:List (af×Obj)) (s:ag) (σ:St) (H:Hp) (x y:V) (v u:ae) (Q:VK),Inv X pins σ H s->RelV x v->RelV y u->r x y H Q->
  subscripted slice false v u=operate [v,u] (getItem v u)->am (av X.prog X.w) X.A (subscriptTail value slice v u) (EP X pins σ Q) X.xe s
noncomputable def P7 (X:Cx) (id:String) (r:V->List V->Hp->VK->Prop):Prop:=
 ∀ (pins:List (af×Obj)) (s:ag) (σ:St) (H:Hp) (x:V) (xs:List V) (v:ae) (us:List ae) (Q:VK),Inv X pins σ H s->RelV x v->nK xs us->r x xs H Q->
  am (av X.prog X.w) X.A (call (.builtin id) (v::us)) (EP X pins σ Q) X.xe s
section
variable {X:Cx} {a b:aQ} {ta tb:TE} {pos:Pos}
theorem xH.or (h:xH X r) (h':xH X r'):xH X (fun x y H Q=>r x y H Q\/r' x y H Q):=by
 intro value slice pins s σ H x y v u Q I rx ry q hs
 rcases q with q|q
 ·exact h value slice pins s σ H x y v u Q I rx ry q hs
 ·exact h' value slice pins s σ H x y v u Q I rx ry q hs
theorem QY (hr:xH X r) (ha:PE X a ta) (hb:PE X b tb) (hs:Mb b):PE X (.Subscript a b pos) (Ck r ta tb):=by
 intro pins s σ H Q I h
 exact kR (F4 ha hb I h fun v u s2 x y H2 I2 rx ry q=>hr a b pins s2 σ H2 x y v u Q I2 rx ry q (hs _ _))
noncomputable def Kb (K:ai):R2:=fun x y H Q=>∃ p xs i v,x=.ref p/\y=.int i/\pV K H p xs/\atI xs i=some v/\Q v H
noncomputable def J9 (K:ai):R2:=fun x y H Q=>∃ p xs i v,x=.ref p/\y=.int i/\qu K H p xs/\atI xs i=some v/\Q v H
noncomputable def J4:R2:=fun x y H Q=>∃ z i c,x=.str z/\y=.int i/\z.length<=sizeLine/\atI z.cps.toList i=some c/\Q (.str ⟨#[c]⟩) H
theorem oK:xH X (Kb X.K):=by
 intro value slice pins s σ H x y v u Q I rx ry h hs
 obtain ⟨p,xs,i,z,rfl,rfl,hq,he,q⟩:=h
 cases rx
 obtain ⟨t,rfl⟩:=ry
 obtain ⟨f_,r,pl,hz⟩:=I.list hq
 obtain ⟨j,h1,h2,h3,h4,h5⟩:=GL he
 obtain ⟨w,ew,uW⟩:=r.get h2
 have hl:=r.length
 have hn:=Ab
 have fin:EP X pins σ Q w s:=⟨z,H,I,uW,q⟩
 by_cases h0:0<=i
 ·have hj:i.toNat=j:=by
   rw [mr h0 h5] at h1
   exact bV h1
  exact item_listR pl.isList h0 (by omega) (by rw [hj];simpa using ew) fin hs
 ·have hj:(i+(f_.toArray.size:Int)).toNat=j:=by
   rw [seqIndex_neg (by omega) h4] at h1
   rw [az,<- hl]
   exact bV h1
  exact j9 (x:=w) pl.isList.typeIs slot_list_getitem.lookup
   (wpAny_getItem_list_neg (Q:=fun r s'=>r=w/\EP X pins σ Q r s') pl.isList (by omega) (by rw [az]<;>omega) (by omega) (by rw [hj];simpa using ew) ⟨rfl,fin⟩) hs
theorem oN:xH X (J9 X.K):=by
 intro value slice pins s σ H x y v u Q I rx ry h hs
 obtain ⟨p,xs,i,z,rfl,rfl,hq,he,q⟩:=h
 cases rx
 obtain ⟨t,rfl⟩:=ry
 obtain ⟨f_,r,pl,hz⟩:=I.tuple hq
 obtain ⟨j,h1,h2,h3,h4,h5⟩:=GL he
 obtain ⟨w,ew,uW⟩:=r.get h2
 have hl:=r.length
 have hn:=Ab
 have fin:EP X pins σ Q w s:=⟨z,H,I,uW,q⟩
 exact j9 (x:=w) pl.typeIs bz.lookup
  (getItem_tuple (j:=j) (Q:=fun r s'=>r=w/\EP X pins σ Q r s') pl (by omega) (by omega) (by rw [az,<- hl];exact h1) (by simpa using ew) ⟨rfl,fin⟩) hs
theorem SR:xH X J4:=by
 intro value slice pins s σ H x y v u Q I rx ry h hs
 obtain ⟨z,i,c,rfl,rfl,hz,he,q⟩:=h
 obtain ⟨t,rfl⟩:=rx
 obtain ⟨t',rfl⟩:=ry
 obtain ⟨j,h1,h2,h3,h4,h5⟩:=GL he
 have hl:z.cps.toList.length=z.length:=by simp [Str.length]
 rw [hl] at h1 h4 h5
 have hn:=Ab
 exact tail_any (kS s z t) slot_str_getitem.lookup (getItem_str (c:=c) (by
  have e1:decide (i < -(2 ^ 63:Int))=false:=decide_eq_false (by omega)
  have e2:decide (i ≥ 2 ^ 63)=false:=decide_eq_false (by omega)
  rw [e1,e2,Bool.or_false]) (by rw [h1];simpa using h2) ⟨.str ⟨#[c]⟩,H,I.tok _,⟨_,rfl⟩,q⟩) hs
def OK (K:ai):R2:=fun x y H Q=>Kb K x y H Q\/J9 K x y H Q\/J4 x y H Q
theorem Sy:xH X (OK X.K):=oK.or (oN.or SR)
theorem YU (f_:List ae) (n j:Nat) (u:ae):dN (·.setIfInBounds j u) { cls:=.type "list",data:=.seq f_.toArray n } = { cls:=.type "list",data:=.seq (f_.set j u).toArray n }:=by
 simp [dN]
theorem Inv.lst {pins:List (af×Obj)} {σ:St} {H:Hp} {s:ag} {p:af} {xs:List V} (I:Inv X pins σ H s) (h:H p=some (.lst xs)):
  ∃ (f_:List ae) (n:Nat),nK xs f_/\s.heap.get? p=some { cls:=.type "list",data:=.seq f_.toArray n }/\xs.length<=sizeLine:=by
 obtain ⟨z,f_,n,r,e⟩:=I.hok p _ h
 exact ⟨f_,n,r,e,z⟩
theorem Inv.lstUpd {pins:List (af×Obj)} {σ:St} {H:Hp} {s:ag} {p:af} {xs ys:List V} {f_ its':List ae} {n n':Nat} {f:Obj->Obj} (I:Inv X pins σ H s) (h:H p=some (.lst xs))
  (ho:s.heap.get? p=some { cls:=.type "list",data:=.seq f_.toArray n }) (hf:f { cls:=.type "list",data:=.seq f_.toArray n } = { cls:=.type "list",data:=.seq its'.toArray n' }) (r:nK ys its') (hz:ys.length<=sizeLine) (t:Nat) (ht:0<t:=by first|exact cY _|exact Inv.tk ‹_›|assumption|omega):
  Inv X pins σ (upd H p (.lst ys)) { s with heap:=s.heap.update p f,toks:=t }:=by
 have e:(s.heap.update p f).get? p=some { cls:=.type "list",data:=.seq its'.toArray n' }:=by
  rw [bA f ho (by rw [hf]<;>rfl),hf]
 refine I.write (x:=p) (e:=p) (by rw [h];trivial) (.inl rfl) (fun b u hb q=>(br _ _ (bq hb)).trans q) ⟨_,e⟩ ?_
 exact ⟨hz,its',n',r,e⟩
noncomputable def QW:V->V->V->Hp->(Hp->Prop)->Prop:=fun o i v H Q=>∃ p xs k j,o=.ref p/\i=.int k/\H p=some (.lst xs)/\ixN xs.length k=some j/\Q (upd H p (.lst (xs.set j v)))
theorem Wy:J0 X QW:=by
 intro pins s σ H o i v ov iv u Q I ro ri rv h
 obtain ⟨p,xs,k,j,rfl,rfl,hp,hj,q⟩:=h
 cases ro
 obtain ⟨t,rfl⟩:=ri
 obtain ⟨f_,n,r,ho,hz⟩:=I.lst hp
 obtain ⟨h1,h2,h3,h4⟩:=LM hj
 have hl:=r.length
 have hn:=Ab
 have I':Inv X pins σ (upd H p (.lst (xs.set j v))) { s with heap:=s.heap.update p (dN (·.setIfInBounds j u)) }:=
  I.lstUpd hp ho (YU f_ n j u) (r.set rv j) (by rw [cB];exact hz) s.toks
 by_cases h0:0<=k
 ·have hk:k.toNat=j:=by
   rw [mr h0 h4] at h1
   exact bV h1
  exact PySem.W.ki_setAt ho h0 (by omega) (by rw [az,<- hl];exact h4) (by rw [hk];exact ⟨_,I',q⟩)
 ·have hk:(k+(f_.toArray.size:Int)).toNat=j:=by
   rw [seqIndex_neg (by omega) h3] at h1
   rw [az,<- hl]
   exact bV h1
  exact PySem.W.ki_setBack ho (by omega) (by rw [az,<- hl];exact h3) (by omega) (by rw [hk];exact ⟨_,I',q⟩)
theorem ZN (lo hi:Option Int) (n:Nat):(sliceBounds lo hi none n).1=((HT.sIx n 0 lo:Nat):Int)/\(sliceBounds lo hi none n).2.1=((HT.sIx n n hi:Nat):Int)/\(sliceBounds lo hi none n).2.2=1:=by
 refine ⟨?_,?_,rfl⟩
 ·cases lo with
  | none=>simp [sliceBounds,HT.sIx]
  | some i=>
   simp only [sliceBounds,HT.sIx,mC,show (1:Int)>0 by decide,if_true]
   by_cases h:i<0
   ·simp only [h,if_true]<;>omega
   ·simp only [h,if_false]<;>omega
 ·cases hi with
  | none=>simp [sliceBounds,HT.sIx]
  | some i=>
   simp only [sliceBounds,HT.sIx,mC,show (1:Int)>0 by decide,if_true]
   by_cases h:i<0
   ·simp only [h,if_true]<;>omega
   ·simp only [h,if_false]<;>omega
theorem Z5 (f_:List ae) (lo hi:Option Int):slicePick f_.toArray lo hi none=((f_.drop (HT.sIx f_.length 0 lo)).take (HT.sIx f_.length f_.length hi-HT.sIx f_.length 0 lo)).toArray:=by
 obtain ⟨h1,h2,h3⟩:=ZN lo hi f_.toArray.size
 unfold slicePick
 rw [h1,h2,h3]
 simp only [sliceRange_one,pick_run,az]<;>rfl
noncomputable def Kh (K:ai):V->Option Int->Option Int->Hp->VK->Prop:=fun x lo hi H Q=>∃ a xs,x=.ref a/\pV K H a xs/\∀ p,H p=none->Q (.ref p) (upd H p (.lst (xN xs lo hi)))
theorem T8:vJ X (Kh X.K):=by
 intro pins s σ H x v vl vu lo hi sl Q I rx hs pl pu h
 obtain ⟨a,xs,rfl,hx,q⟩:=h
 cases rx
 obtain ⟨f_,r,ht,hz⟩:=I.list hx
 have hlen:=r.length
 refine ⟨"list",_,slot_list_getitem.lookup,ht.isList.typeIs,?_⟩
 refine wpAny_getItem_list_slice ht.isList hs pl pu .none (by simp) ?_ (by rw [az]<;>omega)
 rw [Z5,<- hlen]
 refine ⟨.ref s.heap.objs.size,_,I.laid (t':=s.toks) (o:=.lst (xN xs lo hi)) (fun b ob q=>ah _ q) (ay _) ?_,rfl,q _ (I.hok.fresh (ay _))⟩
 exact ⟨aU (NO xs lo hi) hz,_,0,(r.drop (HT.sIx xs.length 0 lo)).take (HT.sIx xs.length xs.length hi-HT.sIx xs.length 0 lo),aE _ rfl⟩
theorem nU.or {f:ae} {r r':List V->Hp->VK->Prop} (h:nU X f r) (h':nU X f r'):nU X f (fun xs H Q=>r xs H Q\/r' xs H Q):=by
 intro pins s σ H xs us Q I rs q
 rcases q with q|q
 ·exact h pins s σ H xs us Q I rs q
 ·exact h' pins s σ H xs us Q I rs q
theorem Zr:nU X (.type "list") (fun xs H Q=>∃ p ys,xs=[.ref p]/\(pV X.K H p ys\/qu X.K H p ys)/\∀ l,H l=none->Q (.ref l) (upd H l (.lst ys))):=by
 intro pins s σ H xs us Q I r h
 obtain ⟨p,ys,rfl,hq,q⟩:=h
 obtain ⟨u,rfl,rx⟩:=uN r
 cases rx
 have fin:∀ (f_:List ae),nK ys f_->ys.length<=sizeLine->∀ (h':aT) (c':Nat),(∀ b o',s.heap.get? b=some o'->h'.get? b=some o')->
   h'.get? s.heap.objs.size=some { cls:=.type "list",dict:=none,data:=.seq f_.toArray c',slots:=#[] }->EP X pins σ Q (.ref s.heap.objs.size) { s with heap:=h' }:=fun f_ r' hz h' c' kp e=>
  ⟨.ref s.heap.objs.size,_,I.laid (t':=s.toks) kp (ay _) (show nV X.prog X.w _ h' _ (.lst ys) from ⟨hz,f_,c',r',e⟩),rfl,q _ (I.hok.fresh (ay _))⟩
 rcases hq with hq|hq
 ·obtain ⟨f_,r',pl,hz⟩:=I.list hq
  have hlen:=r'.length
  obtain ⟨o,ho,hc,n,hd⟩:=pl.isList
  exact call_list_seq p (.inl rfl) ho hc hd (fun h' c' kp e=>fin f_ r' hz h' c' kp e) (by simp only [az]<;>omega)
 ·obtain ⟨f_,r',pl,hz⟩:=I.tuple hq
  have hlen:=r'.length
  obtain ⟨o,ho,hc,n,hd⟩:=pl
  exact call_list_seq p (.inr rfl) ho hc hd (fun h' c' kp e=>fin f_ r' hz h' c' kp e) (by simp only [az]<;>omega)
theorem Z3:nU X (.type "tuple") (fun xs H Q=>∃ p ys,xs=[.ref p]/\((pV X.K H p ys/\∀ l,H l=none->Q (.ref l) (upd H l (.tup ys)))\/(qu X.K H p ys/\Q (.ref p) H))):=by
 intro pins s σ H xs us Q I r h
 obtain ⟨p,ys,rfl,h⟩:=h
 obtain ⟨u,rfl,rx⟩:=uN r
 cases rx
 rcases h with ⟨hq,q⟩|⟨hq,q⟩
 ·obtain ⟨f_,r',pl,hz⟩:=I.list hq
  have hlen:=r'.length
  refine call_tuple_list pl.isList (fun h' kp=>?_) (by simp only [az]<;>omega)
  have I1:Inv X pins σ H { s with heap:=h' }:=I.kept (t':=s.toks) kp
  have I2:Inv X pins σ (upd H h'.objs.size (.tup ys)) { s with heap:=h'.push { cls:=.type "tuple",data:=.seq f_.toArray } }:=
   I1.laid (t':=s.toks) (fun b o e=>ah _ e) (ay _) (show nV X.prog X.w _ _ _ (.tup ys) from ⟨hz,f_,r',n6.new _ _⟩)
  exact ⟨.ref h'.objs.size,_,I2,rfl,q _ (I1.hok.fresh (ay _))⟩
 ·obtain ⟨f_,r',pl,hz⟩:=I.tuple hq
  exact call_tuple_same pl ⟨.ref p,H,I,rfl,q⟩
noncomputable def Ox (K:ai) (T:String) (x:V) (H:Hp):Prop:=match x with
 | .str _=>T = "str"
 | .int _=>T = "int"
 | .ref p=>(T = "list"/\∃ xs,pV K H p xs)\/(T = "tuple"/\∃ o,K.lookup p=some o/\o.cls=.type "tuple"/\o.dict=none) \/
   (T = "dict"/\((∃ l_,H p=some (.dK l_)) \/ ∃ l_,H p=some (.dT l_)))\/(T = "set"/\∃ S n,H p=some (.set S n))
 | _=>False
theorem R7 (I:Inv X pins σ H s) (r:RelV x v) (ty:Ox X.K T x H):
  s.TypeIs v T/\∀ a,v=.ref a->∃ ob,s.heap.get? a=some ob/\ob.dict=none:=by
 cases x with
 | str z=>
  obtain ⟨t,rfl⟩:=r
  cases (show T = "str" from ty)
  exact ⟨kS s z t,fun _ e=>nomatch e⟩
 | int i=>
  obtain ⟨t,rfl⟩:=r
  cases (show T = "int" from ty)
  exact ⟨gP s i t,fun _ e=>nomatch e⟩
 | ref p=>
  cases r
  rcases ty with ⟨rfl,xs,hq⟩|⟨rfl,o,hk,hc,hd⟩|⟨rfl,hk⟩|⟨rfl,S,n,hk⟩
  ·obtain ⟨f_,_,pl,_⟩:=I.list hq
   refine ⟨pl.isList.typeIs,fun a e=>?_⟩
   cases e
   obtain ⟨o,n,e,c,hd,_⟩:=pl
   exact ⟨o,e,hd⟩
  ·refine ⟨⟨o,I.kIn p o hk,hc⟩,fun a e=>?_⟩
   cases e
   exact ⟨o,I.kIn _ o hk,hd⟩
  ·have z:∃ o,s.heap.get? p=some o/\o.ExactDict:=by
    rcases hk with ⟨l_,hk⟩|⟨l_,hk⟩
    ·obtain ⟨_,_,_,_,o,_,_,e,ex,_⟩:=I.hok p _ hk
     exact ⟨o,e,ex⟩
    ·obtain ⟨_,_,_,_,o,_,_,e,ex,_⟩:=I.hok p _ hk
     exact ⟨o,e,ex⟩
   obtain ⟨o,e,ex⟩:=z
   refine ⟨⟨o,e,ex.1⟩,fun a e2=>?_⟩
   cases e2
   exact ⟨o,e,ex.2.1⟩
  ·obtain ⟨o,_,_,_,e,ex,_⟩:=I.hok p _ hk
   refine ⟨⟨o,e,ex.1⟩,fun a e2=>?_⟩
   cases e2
   exact ⟨o,e,ex.2.1⟩
 | _=>exact ak ty
noncomputable def tBM (K:ai) (T:String) (r:V->List V->Hp->VK->Prop) (to:TE) (t:TA):TE:=fun σ H Q=>to σ H fun x H1=>Ox K T x H1/\t σ H1 fun xs H2=>r x xs H2 Q
variable {o e:aQ} {es:List aQ} {to:TE} {t:TA} {name:Str} {apos oP:Pos} {T id:String} {r:V->List V->Hp->VK->Prop}
theorem D0 (pa:PlainAttrs T) (slot:Slot T name id) (hty:typeOf (.builtin id)=pure (.type "method_descriptor")) (hm:P7 X id r) (ho:PE X o to) (ha:PA X (e::es) t)
  (oW:attributeBase o name X.env (eval o X.env)=eval o X.env:=by rfl)
  (qO:((backTo oP (aD (e::es) X.env)).all (fun x=>!x.1)&&(backToKw oP (keywordEach [] X.env)).all (fun x=>x.1.isSome)
   && decide ((e::es).length+([]:List fF).length+(if ([]:List fF).isEmpty then 0 else 1)<30))=true:=by rfl)
  (qx:(apos.endLine==oP.line)=true:=by rfl) (hs:aD (e::es) X.env=(false,eval e X.env)::aD es X.env:=by rfl) (qk:(backTo oP (aD es X.env)).any (·.1)=false:=by rfl):
  PE X (.Call (.Attribute o name apos) (e::es) [] oP) (tBM X.K T r to t):=by
 intro pins s σ H Q I h
 refine kg oW qO qx rfl (oV (ho pins s σ H _ I h) fun v s1 ⟨x,H1,I1,r1,ty,q1⟩=>?_)
 obtain ⟨h1,h2⟩:=R7 I1 r1 ty
 refine ⟨T,id,pa,slot,hty,h1,h2,?_⟩
 have hA:=ha oP pins s1 σ H1 _ I1 q1
 rw [hs] at hA ⊢
 refine kh (by show (false||(backTo oP (aD es X.env)).any (·.1))=false;rw [qk]<;>rfl) (hJ ?_)
 exact oV hA fun us s2 ⟨vs,H2,I2,r2,q2⟩=>hm pins s2 σ H2 x vs v us Q I2 r1 r2 q2
end
noncomputable def JJ (X:Cx) (id:String) (r:V->List V->Hp->VK->Prop):Prop:=
 ∀ (pins:List (af×Obj)) (s:ag) (σ:St) (H:Hp) (x:V) (xs:List V) (v:ae) (us:List ae) (Q:VK),Inv X pins σ H s->RelV x v->nK xs us->r x xs H Q->
  am (av X.prog X.w) X.A (call (.builtin id) (v::us)) (EP X pins σ Q) X.xe s
theorem nK.one:∀ {x:V} {us:List ae},nK [x] us->∃ u,us=[u]/\RelV x u
 | _,_,.cons r .nil=>⟨_,rfl,r⟩
theorem nK.eraseIdx:∀ {xs:List V} {us:List ae} (i:Nat),nK xs us->nK (xs.eraseIdx i) (us.eraseIdx i)
 | _,_,_,.nil=>.nil
 | _,_,0,.cons _ t=>t
 | _,_,i+1,.cons r t=>.cons r (nK.eraseIdx i t)
theorem nK.reverse {xs:List V} {us:List ae} (h:nK xs us):nK xs.reverse us.reverse:=by
 induction h with
 | nil=>exact .nil
 | cons r t ih=>rw [gY,gY];exact nK.append ih (.cons r .nil)
theorem Nl {α:Type}:∀ (l:List α) (i:Nat),(l.eraseIdx i).length<=l.length
 | [],_=>ay _
 | _::_,0=>ez _
 | _::r,i+1=>Nat.succ_le_succ (Nl r i)
section
variable {X:Cx} {pins:List (af×Obj)} {σ:St} {H:Hp} {s:ag} {l:af} {xs ys:List V}
theorem Inv.lset {f_ its':List ae} {n:Nat} {f:Array ae->Array ae} {t':Nat} (I:Inv X pins σ H s) (hH:H l=some (.lst xs))
  (e:s.heap.get? l=some { cls:=.type "list",data:=.seq f_.toArray n }) (hf:f f_.toArray=its'.toArray) (hv:nK ys its') (hz:ys.length<=sizeLine) (ht:0<t':=by first|exact cY _|exact Inv.tk ‹_›|assumption|omega):
  Inv X pins σ (upd H l (.lst ys)) { s with heap:=s.heap.update l (dN f),toks:=t' }:=by
 have q:=PySem.IsL.update e f
 rw [hf] at q
 refine I.write (x:=l) (e:=l) (by rw [hH];exact trivial) (.inl rfl) (fun b' u hb hu=>(br s.heap (dN f) (bq hb)).trans hu) ⟨_,q⟩ ?_
 exact ⟨hz,its',_,hv,q⟩
theorem Inv.lnew (I:Inv X pins σ H s) (hv:nK ys f_) (hz:ys.length<=sizeLine) (ht:0<t':=by first|exact cY _|exact Inv.tk ‹_›|assumption|omega):
  Inv X pins σ (upd H s.heap.objs.size (.lst ys)) { s with heap:=s.heap.push { cls:=.type "list",data:=.seq f_.toArray },toks:=t' }:=
 I.laid (fun _ _ q=>ah _ q) (ay _) ⟨hz,f_,0,hv,aE _ rfl⟩
theorem Inv.fresh (I:Inv X pins σ H s):H s.heap.objs.size=none:=I.hok.fresh (ay _)
theorem Inv.lstM (I:Inv X pins σ H s) (hH:H l=some (.lst xs)):xs.length<=sizeLine/\∃ (f_:List ae) (n:Nat),nK xs f_/\xs.length=f_.length/\s.heap.get? l=some { cls:=.type "list",data:=.seq f_.toArray n }:=by
 obtain ⟨z,f_,n,r,e⟩:=I.hok l _ hH
 exact ⟨z,f_,n,r,r.length,e⟩
theorem WL {n:Nat} (h:n<=sizeLine):dH n=false:=by
 unfold dH
 exact decide_eq_false (by omega)
end
section
variable {X:Cx}
noncomputable def UI:V->List V->Hp->VK->Prop:=fun x vs H Q=>∃ l xs y,x=.ref l/\vs=[y]/\H l=some (.lst xs)/\xs.length<sizeLine/\Q .non (upd H l (.lst (xs++[y])))
theorem NG:JJ X "list.append" UI:=by
 intro pins s σ H x vs v us Q I rx rv h
 obtain ⟨l,xs,y,rfl,rfl,hH,hz,q⟩:=h
 cases rx
 obtain ⟨u,rfl,ru⟩:=rv.one
 obtain ⟨z,f_,n,r,hl,e⟩:=I.lstM hH
 refine fQ kB ⟨_,e,rfl⟩ F.entry_list_append (F.args_list_append_2 _ _) (PySem.list_append l f_.toArray n u (by rw [az];omega)) ⟨e,?_⟩
 refine ⟨.non,_,I.lset (its':=f_++[u]) hH e (by simp) (r.append (.cons ru .nil)) ?_,rfl,q⟩
 rw [ar,e8]
 omega
noncomputable def Ta:V->List V->Hp->VK->Prop:=fun x vs H Q=>∃ l xs i k y,x=.ref l/\vs=[.int i]/\H l=some (.lst xs)/\-(2 ^ 63)<=i/\i<2 ^ 63/\seqIndex? i xs.length=some k/\xs[k]?=some y/\Q y (upd H l (.lst (xs.eraseIdx k)))
theorem V8:JJ X "list.pop" Ta:=by
 intro pins s σ H x vs v us Q I rx rv h
 obtain ⟨l,xs,i,k,y,rfl,rfl,hH,h1,h2,hk,hy,q⟩:=h
 cases rx
 obtain ⟨u,rfl,ru⟩:=rv.one
 obtain ⟨t,rfl⟩:=ru
 obtain ⟨z,f_,n,r,hl,e⟩:=I.lstM hH
 obtain ⟨w,hw,uW⟩:=r.get hy
 refine fQ lJ ⟨_,e,rfl⟩ F.entry_list_pop (F.args_list_pop_2 _ _)
  (MeetsSeq.list_pop_at l f_.toArray n i t k w (fitsIndex_both h1 h2) (by rw [az,<- hl];exact hk) (by rw [<- c8];exact hw) (by rw [az];omega)) ⟨e,?_⟩
 refine ⟨y,_,I.lset (its':=f_.eraseIdx k) hH e ?_ (r.eraseIdx k) ?_,uW,q⟩
 ·show f_.toArray.eraseIdxIfInBounds k=(f_.eraseIdx k).toArray
  rw [List.eraseIdxIfInBounds_toArray]
 ·have:=Nl xs k
  omega
end
section
end
end L2
namespace Att
open PySem PySem.W PySem.Calls PyProof.Rows
theorem z6q:∀ (ns:List Int) (vs:List ae),WellAll P h vs (ns.map mZ)->lZ vs ns:=by
 intro ns
 induction ns with
 | nil=>
  intro vs w
  rw [iG] at w
  cases w
  exact .nil
 | cons n ns ih=>
  intro vs w
  rw [cn] at w
  cases w with
  | cons a b=>
   cases a
   exact .cons _ _ (ih _ b)
theorem YD {l:lK} {n:Nat} (hn:l.most=some n) {P:iA} {h:aT} {args:List WData} {vals:List ae}
  (xv:l.row.toRowW.claim.pre args=true) (CK:WellAll P h vals args):
  ∃ a vs ns,vals=[db a]/\args=[WData.list (ns.map mZ)]/\h.get? a=some { cls:=.type "list",data:=.seq vs.toArray }/\lZ vs ns/\ns.length<=n:=by
 have hsh:WShape.hasAll [] args [.list .int]=true:=(pre_splitW xv).1
 have hc:l.pre.holds [] { args:=args } = true:=(pre_splitW xv).2
 obtain ⟨d,r,rfl,h1,h2⟩:=hasAllW_cons hsh
 obtain rfl:=hasAllW_nil h2
 obtain ⟨xs,rfl,h3⟩:=hasW_list h1
 obtain ⟨ns,rfl⟩:=items_int h3
 have hlen:ns.length<=n:=by
  unfold OpenLaw.pre at hc
  have h4:(WTm.not (.lt (.lit (.int (n:Int))) (.len (.arg 0)))).holds [] { args:=[.list (ns.map .int)] } = true:=by
   have h4:=(holds_andW hc).1
   rw [hn] at h4
   exact h4
  have h5:=condW_of h4 (w_not (w_lt w_lit (w_len_list (w_arg rfl))))
  rw [aM] at h5
  refine Nat.le_of_not_lt fun q=>?_
  have q':(n:Int)<((ns.length:Nat):Int):=by omega
  first
   | (rw [decide_eq_true q'] at h5;exact absurd h5 (by decide))
   | (simp at h5;omega)
 cases CK with
 | cons w1 w2=>
  cases w2
  cases w1 with
  | list ho qr=>exact ⟨_,_,ns,rfl,rfl,ho,z6q ns _ qr,hlen⟩
theorem Xs (l:lK) (args:List WData):l.row.toRowW.claim.post args (.bool true) args=true:=
 postW_of (r:=l.row.toRowW) (X:=(true==true))
  (show WShape.has [] (.bool true) .bool=true by first|rfl|decide|simp [WShape.has,WShape.arms,WShape.armsAll])
  (show (WTm.eq .res (.lit (.bool true))).value [] { args:=args,res:=some (.bool true),after:=args } = some (.bool (true==true)) from w_eq_bool (w_res rfl) w_lit) rfl
theorem N0:∀ ns:List Int,le (ns.map jo)=ns.map mZ
 | []=>by simp [le]
 | n::ns=>by simp only [cn,le,lL];rw [N0 ns]
theorem attach_call {l:lK} {n:Nat} {q:aH} {loose:List Str} {XP:(Str->Option ae)->aT->Prop} {YP:aP->aT->Prop} {d:DefRec} {α:Type} {Yf:ag->α} {Ya:aP->α}
  (hn:l.most=some n) (Jh:d.params.defaults=[]) (Jt:∀ w s,Yf s=Ya w->YP w s.heap) (Js:∀ w h h',YP w h->(∀ b o,h.get? b=some o->h'.get? b=some o)->YP w h')
  (call:∀ (w:aP) (s₀ n_:ag) (mg mb:Str->Option ae) (fa:af) (o:Obj) (pm cd doc:ae) (a:af) (vs:List ae) (ns:List Int),
   Ground q loose [] XP w s₀ mg mb n_.heap->YP w n_.heap->
   n_.heap.get? fa=some o->o.data=.func (docDef d.name d.params d.body d.scope pm cd doc)->n_.heap.CodeRec cd d.name->mg d.name=some (.ref fa)->
   n_.heap.get? a=some { cls:=.type "list",data:=.seq vs.toArray }->lZ vs ns->ns.length<=n->n_.gens = #[]->0<n_.toks->
   codeAny (av l.prog w) callerA (.call (.ref fa) ⟨[.ref a],[]⟩) (fun r s'=>r=.ok (.ret (.bool true))/\OldK n_.heap s'.heap/\s'.os=n_.os/\f8 s'.gens) n_):
  WalkX q loose XP (fun s=>(Yf s,decide (0<s.toks))) (fun w=>(Ya w,true)) l.row.toRowW d [] (fun f vs=>PySem.call f vs):=by
 intro w s₀ n_ mg mb G Y fa o pm cd doc dV kV ho hd pY hD CY hg args vals as L xv hlay hrd CK C2
 obtain rfl:dV=.none:=Dflts.none hD Jh
 obtain rfl:kV=.none:=Dflts.noKw hD
 have Y1:Yf s₀=Ya w:=congrArg Prod.fst Y
 have Y2:0<s₀.toks:=of_decide_eq_true (congrArg Prod.snd Y)
 obtain ⟨a,vs,ns,rfl,rfl,zm,hints,hlen⟩:=YD hn xv CK
 have L':Laid l.row.toRowW.records w s₀ n_ [lL (d9 (ns.map jo))] [.ref a] as:=by
  rw [lL,N0];exact L
 have pM:0<n_.toks:=aV Y2 (PySem.W.X.script_toks L' rfl)
 refine enter_call (eS (call w s₀ n_ mg mb fa o pm cd doc a vs ns G (Js _ _ _ (Jt w s₀ Y1) L.keeps) ho (fd_plain hd) pY CY zm hints hlen hg pM) fun r s' hq=>?_)
 obtain ⟨rfl,h2,h3,h4⟩:=hq
 exact ⟨.inl ⟨.bool true,.bool true,[],rfl,fun _=>rfl,.bool true,Xs l _,fun _=>⟨ft,fun _ hm=>(nomatch hm)⟩⟩,h2,h3,h4⟩
section
end
end Att
namespace L2
open PySem PySem.Spec PyProof.Rows
theorem Nu:∀ {vs:List ae} {ns:List Int},lZ vs ns->nK (ns.map V.int) vs
 | _,_,.nil=>.nil
 | _,_,.cons n t h=>.cons ⟨t,rfl⟩ (Nu h)
noncomputable def v5 (s:dh):fE:=match s with
 | .FunctionDef _ a _ _ _ _ _ _ _ _=>a
 | _=>{ posonlyargs:=[],args:=[],vararg:=none,kwonlyargs:=[],kw_defaults:=[],kwarg:=none,defaults:=[] }
def tU (s:dh):List dh:=match s with
 | .FunctionDef _ _ b _ _ _ _ _ _ _=>b
 | _=>[]
noncomputable def oY (s:dh):cF:=match s with
 | .FunctionDef _ _ _ _ _ _ sc _ _ _=>sc
 | _=>{ kind:=.function,names:=[],isGenerator:=false,isCoroutine:=false }
abbrev JN:uJ:=fun _ _ _ _ _ _=>False
abbrev E0:XK:=fun _ _ _=>False
structure Fun (K:ai) (x qual:Str) (st:dh) (f:af) (fd:dG):Prop where
 ex:∃ (oc:ae) (od:Option af) (kV doc pm:ae) (an:Option af) (k_ ct:ae) (sk:Array (Option ae)),
  fd=bI x qual (v5 st) (tU st) (oY st) .none kV doc pm an k_ ct/\K.lookup f=some ⟨oc,od,.func fd,sk⟩/\ee K k_ qual=true
 kp:dB K (.ref f)=true
section
variable {P:aH} {w:aP} {K:ai} {mg:Str->Option ae} {base:aT}
theorem Fun.ok {x qual:Str} {st:dh} {f:af} {fd:dG} {N ps:List Str} {k:Nat} {sp:Sp} (F:Fun K x qual st f fd) (S:pK N ps (oY st)) (len:∀ vs H Q E,sp vs H Q E->vs.length=ps.length)
  (pU:∀ (k_:ae) (A:aW) (outer:List Env) (s:ag) (H:Hp) (vs:List V) (Q:VK) (E:XK),nO k (A.deeper (envOfC qual (oY st) s.heap.objs.size f k_))->sp vs H Q E->
   ∃ t,qY (wQ JN P w K mg base N qual (oY st) f k_ A outer s H E).nox (tU st) t/\t { nx:=fun _ H'=>Q .non H',rt:=Q } (start N vs) H):nY P w K mg base JN (k+1) f fd ps sp:=by
 obtain ⟨oc,od,kV,doc,pm,an,k_,ct,sk,rfl,lk,pY⟩:=F.ex
 refine o5 lk pY S len fun A outer s H vs Q E hr yj=>?_
 obtain ⟨t,h,q⟩:=pU k_ A outer s H vs Q E hr yj
 exact ⟨t,h.nox,q⟩
theorem Fun.binds {x qual:Str} {st:dh} {f:af} {fd:dG} {ps:List Str} (F:Fun K x qual st f fd)
  (h:∀ (kV doc pm:ae) (an:Option af) (k_ ct:ae) (us:List ae),us.length=ps.length->bindArgs (bI x qual (v5 st) (tU st) (oY st) .none kV doc pm an k_ ct) ⟨us,[]⟩=pure (ps.zip us)):Binds K fd ps []:=by
 obtain ⟨oc,od,kV,doc,pm,an,k_,ct,sk,rfl,lk,pY⟩:=F.ex
 exact .all (h kV doc pm an k_ ct)
theorem Lc {x qual:Str} {st:dh} {f:af} {oc:ae} {od an:Option af} {sk:Array (Option ae)} {kV doc pm k_ ct:ae} (l:K.lookup f=some ⟨oc,od,.func (bI x qual (v5 st) (tU st) (oY st) .none kV doc pm an k_ ct),sk⟩)
  (c:ee K k_ qual=true) (k:dB K (.ref f)=true):Fun K x qual st f (bI x qual (v5 st) (tU st) (oY st) .none kV doc pm an k_ ct):=⟨⟨oc,od,kV,doc,pm,an,k_,ct,sk,rfl,l,c⟩,k⟩
end
theorem QR (hr:nO k A):A.units+1<cLine:=gG (Nat.add_le_add_left (by decide:1<=64) _) hr.units
section
variable {X:Cx}
theorem pv (i:Nat) (hN:X.N[i]?=some x:=by rfl) (hv:sI X.env.scope x:=by first|exact Or.inl rfl|exact Or.inr (Or.inl rfl)|exact Or.inr (Or.inr rfl)) (hd:(x==("__debug__":Str))=false:=by decide)
  (pY:(x==("__classdict__":Str))=false:=by decide):PE X (.Name x pos) (JW i):=Gi hN hv hd pY
end
def nS (H H':Hp):Prop:=∀ b o,H b=some o->H' b=some o
theorem nS.refl (H:Hp):nS H H:=fun _ _ h=>h
theorem nS.trans (a:nS H H1) (b:nS H1 H2):nS H H2:=fun c o h=>b c o (a c o h)
theorem nS.free {H H':Hp} (e:nS H H') {l:af} (h:H' l=i7):H l=i7:=by
 cases q:H l with
 | none=>rfl
 | some o=>
  rw [e l o q] at h
  cases h
section
variable {κ:Type} [DecidableEq κ]
noncomputable def vP (l_:List (κ×V)) (k:κ):Option V:=(l_.find? fun kv=>decide (kv.1=k)).map (·.2)
noncomputable def xP (l_:List (κ×V)) (k:κ) (v:V):List (κ×V):=
 if (l_.any fun kv=>decide (kv.1=k))=true then l_.map (fun kv=>if kv.1=k then (kv.1,v) else kv) else l_++[(k,v)]
def KD (l_:List (κ×V)) (k:κ):List (κ×V):=l_.filter fun kv=>decide (kv.1≠k)
theorem MQ {p:κ×V} {r:List (κ×V)} {k:κ} (e:p.1=k):vP (p::r) k=some p.2:=by simp [vP,eB,e]
theorem MU {p:κ×V} {r:List (κ×V)} {k:κ} (e:¬ p.1=k):vP (p::r) k=vP r k:=by simp [vP,eB,e]
theorem YY (l_:List (κ×V)) (k:κ) (v:V):(xP l_ k v).length<=l_.length+1:=by
 unfold xP
 split
 ·rw [aM];omega
 ·rw [ar,bv,gz];omega
theorem oi.getD (r:oi o u) (rd:RelV d d'):RelV (o.getD d) (u.getD d'):=by
 cases o with
 | none=>cases u with
  | none=>exact rd
  | some _=>exact (show False from r).elim
 | some _=>cases u with
  | none=>exact (show False from r).elim
  | some _=>exact r
theorem KV.val {l_:List (κ×V)} {vs:List (κ×ae)} (r:KV l_ vs) (k:κ):oi (vP l_ k) (valueAt vs k):=by
 unfold KV at r
 induction r with
 | nil=>exact fz
 | @cons p q ps qs h t ih=>
  obtain ⟨h1,h2⟩:=h
  by_cases e:p.1=k
  ·have e':q.1=k:=h1.symm.trans e
   have b:valueAt (q::qs) k=some q.2:=by simp [valueAt,eB,e']
   rw [MQ e,b];exact h2
  ·have e':¬ q.1=k:=fun z=>e (h1.trans z)
   have b:valueAt (q::qs) k=valueAt qs k:=by simp [valueAt,eB,e']
   rw [MU e,b];exact ih
theorem KV.any {l_:List (κ×V)} {vs:List (κ×ae)} (r:KV l_ vs) (k:κ):(l_.any fun kv=>decide (kv.1=k))=vs.any fun kv=>decide (kv.1=k):=by
 unfold KV at r
 induction r with
 | nil=>rfl
 | cons h t ih=>rw [lf,lf,ih,h.1]
theorem KV.repl (r:KV l_ vs) (k:κ) (ry:RelV y u):
  KV (l_.map fun kv=>if kv.1=k then (kv.1,y) else kv) (vs.map fun kv=>if kv.1=k then (kv.1,u) else kv):=by
 unfold KV at r ⊢
 induction r with
 | nil=>exact .nil
 | @cons p q ps qs h t ih=>
  rw [cn,cn]
  refine .cons ?_ ih
  obtain ⟨h1,h2⟩:=h
  by_cases e:p.1=k
  ·rw [if_pos e,if_pos (h1.symm.trans e)];exact ⟨h1,ry⟩
  ·rw [if_neg e,if_neg (fun z=>e (h1.trans z))];exact ⟨h1,h2⟩
theorem KV.put (r:KV l_ vs) (k:κ) (ry:RelV y u):KV (xP l_ k y) (stored vs k u):=by
 unfold xP stored
 rw [r.any k]
 by_cases e:(vs.any fun kv=>decide (kv.1=k))=true
 ·rw [if_pos e,if_pos e];exact r.repl k ry
 ·rw [if_neg e,if_neg e];exact Paired.snoc r ⟨rfl,ry⟩
theorem KV.drop (r:KV l_ vs) (k:κ):KV (KD l_ k) (without vs k):=by
 unfold KV at r ⊢
 unfold KD without
 induction r with
 | nil=>exact .nil
 | @cons p q ps qs h t ih=>
  obtain ⟨h1,h2⟩:=h
  rw [dI,dI]
  by_cases e:p.1=k
  ·have a:¬ decide (p.1≠k)=true:=by simp [e]
   have b:¬ decide (q.1≠k)=true:=by simp [h1.symm.trans e]
   rw [if_neg a,if_neg b];exact ih
  ·have e':¬ q.1=k:=fun z=>e (h1.trans z)
   have a:decide (p.1≠k)=true:=by simp [e]
   have b:decide (q.1≠k)=true:=by simp [e']
   rw [if_pos a,if_pos b];exact .cons ⟨h1,h2⟩ ih
theorem KV.length (r:KV l_ vs):l_.length=vs.length:=k7 r
end
theorem F5 (r:RelV (kV k) u):(t_ P w).is k u=true:=by
 cases k with
 | inl i=>obtain ⟨t,e⟩:=(show ∃ t,u=lD i t from r);subst e;exact YW P w i t
 | inr x=>obtain ⟨t,e⟩:=(show ∃ t,u=jc x t from r);subst e;exact Zd P w x t
theorem Np:∀ {ks:List Key} {us:List ae},nK (ks.map kV) us->ItemsAre (t_ P w) ks us
 | [],_,r=>by rw [iG] at r;cases r;exact .nil
 | k::ks,_,r=>by
  rw [cn] at r
  cases r with
  | cons h t=>exact .cons (F5 h) (Np t)
noncomputable abbrev KT (H:Hp):List (List Key×V)->List (List Key×af×ae)->Prop:=cS fun p q=>p.1=q.1/\H q.2.1=some (.tup (p.1.map kV))/\RelV p.2 q.2.2
theorem KT.val {H:Hp} {l_:List (List Key×V)} {xs:List (List Key×af×ae)} (r:KT H l_ xs) (k:List Key):oi (vP l_ k) ((atKey xs k).map (·.2)):=by
 induction r with
 | nil=>exact fz
 | @cons p q ps qs h t ih=>
  obtain ⟨h1,_,h2⟩:=h
  by_cases e:p.1=k
  ·have e':q.1=k:=h1.symm.trans e
   have b:atKey (q::qs) k=some q.2:=by simp [atKey,eB,e']
   rw [MQ e,b];exact h2
  ·have e':¬ q.1=k:=fun z=>e (h1.trans z)
   have b:atKey (q::qs) k=atKey qs k:=by simp [atKey,eB,e']
   rw [MU e,b];exact ih
section
variable {P:aH} {w:aP} {H:Hp} {h:aT} {a:af}
theorem Km (ok:HOk P w H h) (e:Rd H a u):nV P w H h a u:=e.ok ok
theorem F9 (ok:HOk P w H h) (e:Rd H a (.dK l_)):l_.length<=sizeLine/\(a==sysModules)=false/\∃ vs,KV l_ vs/\h.DictOf (t_ P w) a vs:=
 show nV P w H h a (.dK l_) from Km ok e
theorem Q_ (ok:HOk P w H h) (e:H a=some (.dK l_)):l_.length<=sizeLine/\(a==sysModules)=false/\∃ vs,KV l_ vs/\h.DictOf (t_ P w) a vs:=F9 ok (.inl e)
theorem KY (ok:HOk P w H h) (e:H a=some (.tup (ks.map kV))):(tupleKind (t_ P w)).is h ks a:=by
 obtain ⟨_,f_,r,o,h1,h2,⟨n,h3⟩,_⟩:=(show nV P w H h a (.tup (ks.map kV)) from ok a _ e)
 exact ⟨o,f_.toArray,n,h1,h2,h3,by simpa using Np r⟩
theorem KO (ok:HOk P w H h) (e:Rd H a (.dT l_)):l_.length<=sizeLine/\(a==sysModules)=false/\
  ∃ xs,KT H l_ xs/\h.DictOfH (tupleKind (t_ P w)) a xs:=by
 obtain ⟨z,y,xs,r,o,es,ep,h1,h2,h3,h4,h5⟩:=(show nV P w H h a (.dT l_) from Km ok e)
 refine ⟨z,y,xs,r,o,es,ep,h1,h2,h3,h4,fun x hx=>?_,h5⟩
 have all:∀ {l:List (List Key×V)} {m:List (List Key×af×ae)},KT H l m->∀ x∈m,(tupleKind (t_ P w)).is h x.1 x.2.1:=by
  intro l m q
  induction q with
  | nil=>intro x hx;exact nomatch hx
  | @cons p q ps qs hq t ih=>
   intro x hx
   rcases aw.mp hx with e|hx
   ·subst e
    exact KY ok (by rw [<- hq.1];exact hq.2.1)
   ·exact ih x hx
 exact all r x hx
end
noncomputable def FR (H:Hp) (a:af) (y:V) (r:Option V):Prop:=
 (∃ l_ k,Rd H a (.dK l_)/\y=kV k/\r=vP l_ k) \/ ∃ l_ k b,Rd H a (.dT l_)/\y=.ref b/\H b=some (.tup (k.map kV))/\r=vP l_ k
section
variable {X:Cx} {pins:List (af×Obj)} {σ:St} {H:Hp} {s:ag} {a:af} {y v:V} {u:ae} {o:Option V} {A:aW} {E:ae->ag->Prop}
theorem Inv.big (I:Inv X pins σ H s):sysModules<s.heap.objs.size:=by
 have h:bD<s.heap.objs.size:=(I.mod.glob.keeps I.bk).lt
 exact Nat.lt_trans (by decide) h
theorem W7 (hu:A.units+1<cLine) (I:Inv X pins σ H s) (g:FR H a y (some v)) (ry:RelV y u) (h:∀ w' s',Inv X pins σ H s'->RelV v w'->Q w' s'):
  am (av X.prog X.w) A (getItem (.ref a) u) Q E s:=by
 rcases g with ⟨l_,k,e,ey,l⟩|⟨l_,k,b,e,ey,eb,l⟩
 ·subst ey
  obtain ⟨z,hd,vs,rel,dd⟩:=F9 I.hok e
  obtain ⟨w',hw,uW⟩:=oi.some_of (v:=v) (o:=valueAt vs k) (by rw [l];exact rel.val k)
  exact wpAny_getItem_of (F5 ry) dd.mapOf hw (h w' _ (I.tok _) uW)
 ·subst ey
  cases (show u=db b from ry)
  obtain ⟨z,hd,xs,rel,dd⟩:=KO I.hok e
  obtain ⟨w',hw,uW⟩:=oi.some_of (v:=v) (o:=(atKey xs k).map (·.2)) (by rw [l];exact rel.val k)
  obtain ⟨p,hp,hp2⟩:=g8.mp hw
  refine wpAny_getItem_heap (tupleKind_room_in1 hu) (KY I.hok eb) dd hp ?_
  rw [hp2]
  exact h w' _ (I.tok _) uW
theorem UZ (I:Inv X pins σ H s) (mu:Dx (H a)) (hs:cM a s.heap h') (he:∃ q,h'.get? a=some q) (new:nV X.prog X.w (upd H a ob) h' a ob) (ht:0<t':=by first|exact cY _|exact Inv.tk ‹_›|assumption|omega):
  Inv X pins σ (upd H a ob) { s with heap:=h',toks:=t' }:=
 I.write (x:=a) (e:=a) mu (.inl rfl) (fun b q hb z=>(hs.2 b hb).trans z) he new
theorem SW (z:l_.length<=sizeLine) (hd:(a==sysModules)=false) (rel:KV l_ vs) (dd:h'.DictOf (t_ P w) a vs):
  nV P w H' h' a (.dK l_):=⟨z,hd,vs,rel,dd⟩
end
section
end
noncomputable def DD (i:aQ):Prop:=∀ ov iv,subscripted i false ov iv=operate [ov,iv] (getItem ov iv)
theorem LH {prog:aH} {w:aP} {A:aW} {E:ae->ag->Prop} {s:ag} {env:Env} {value slice:aQ} {pos:Pos} {T id:String} {Q:ae->ag->Prop}
  (hl:typeLookup (.type T) "__getitem__" = pure (some (.builtin id))) (hs:DD slice)
  (h:am (av prog w) A (eval value env) (fun o n_=>am (av prog w) A (eval slice env) (fun i sj=>sj.TypeIs o T/\am (av prog w) A (getItem o i) Q E sj) E n_) E s):
  am (av prog w) A (eval (.Subscript value slice pos) env) Q E s:=by
 refine kR (dF h (fun o n_ xq=>dF xq (fun i sj yY=>?_) fun _ _ x=>x) fun _ _ x=>x)
 obtain ⟨hT,yY⟩:=yY
 unfold subscriptTail
 refine aa ?_
 rw [getitemInPython_of_ne hT.not_modules]
 refine aa (wpAny_specialOf hT hl ?_)
 have fin:am (av prog w) A (subscripted slice false o i) (fun r xk=>am (av prog w) A (letTemporaryGo value o r >>= fun _=>pure r) Q E xk) E sj:=by
  rw [hs o i]
  exact wpAny_operating (dF yY (fun r xk Iu=>aa (wpAny_letTemporaryGo (aj Iu))) fun _ _ x=>x)
 first
  | exact aj (aa fin)
  | exact aa (aj (aa fin))
  | exact aa fin
theorem Y_ (I:Inv X pins σ H s) (g:FR H a y o):s.TypeIs (.ref a) "dict":=by
 rcases g with ⟨l_,k,e,_,_⟩|⟨l_,k,b,e,_,_,_⟩
 ·obtain ⟨_,_,vs,_,dd⟩:=F9 I.hok e
  exact dd.typeIs
 ·obtain ⟨_,_,xs,_,dd⟩:=KO I.hok e
  exact dd.typeIs
noncomputable def Ra (td ty:TE):TE:=fun σ H Q=>td σ H fun x H1=>ty σ H1 fun y H2=>∃ a v,x=.ref a/\FR H2 a y (some v)/\Q v H2
section
variable {X:Cx} {o i:aQ} {pos:Pos} {td ty:TE}
theorem Tq (hu:X.A.units+1<cLine) (ho:PE X o td) (hi:PE X i ty) (hs:DD i):PE X (.Subscript o i pos) (Ra td ty):=by
 intro pins s σ H Q I h
 refine LH jE.lookup hs (oV (ho pins s σ H _ I h) fun u s1 ⟨x,H1,I1,rx,q1⟩=>oV (hi pins s1 σ H1 _ I1 q1) fun iv s2 ⟨y,H2,I2,ry,a,v,ex,g,q2⟩=>?_)
 subst ex
 obtain rfl:u=db a:=rx
 exact ⟨Y_ I2 g,W7 hu I2 g ry fun w' s3 I3 uW=>⟨v,H2,I3,uW,q2⟩⟩
end
theorem M5 (h:aT) (hb:sysModules<h.objs.size):nV P w H (h.push { cls:=.type "dict",data:=.dict #[] }) h.objs.size (.dK []):=
 ⟨cz _,beq_eq_false_iff_ne.mpr (bq (bi hb)),[],.nil,Heap.DictOf.new h⟩
def SD:TE:=fun _ H Q=>∀ p,H p=none->Q (.ref p) (upd H p (.dK []))
section
variable {X:Cx} {pos:Pos}
theorem Wz:PE X (.Dict [] [] pos) SD:=fun pins s σ H Q I h=>
 wpAny_Dict_empty ⟨.ref s.heap.objs.size,_,I.laid (a:=s.heap.objs.size) (o:=.dK []) (t':=s.toks) (fun _ _ q=>ah _ q) (ay _) (M5 s.heap I.big),rfl,h _ (I.hok.fresh (ay _))⟩
end
noncomputable def Bq:List (TE×TE)->St->Hp->(List (V×V)->Hp->Prop)->Prop
 | [],_,H,Q=>Q [] H
 | (tk,tv)::r,σ,H,Q=>tk σ H fun x H1=>tv σ H1 fun y H2=>Bq r σ H2 fun ps H3=>Q ((x,y)::ps) H3
abbrev VV:List (V×V)->List (ae×ae)->Prop:=cS fun p q=>RelV p.1 q.1/\RelV p.2 q.2
noncomputable def Dw (X:Cx) (pos:Pos) (keys:List (Option aQ)) (values:List aQ) (xi:List (TE×TE)):Prop:=
 ∀ (pins:List (af×Obj)) (s:ag) (σ:St) (H:Hp) (Q:List (V×V)->Hp->Prop),Inv X pins σ H s->Bq xi σ H Q->
  am (av X.prog X.w) X.A (evalPairs (pairTrees keys values X.env pos)) (fun vs s'=>∃ ps H',Inv X pins σ H' s'/\VV ps vs/\Q ps H') X.xe s
theorem U4:Dw X pos [] [] []:=fun pins s σ H Q I h=>pairTrees_nil_walk ⟨[],H,I,.nil,h⟩
theorem Xh (hk:PE X k tk) (hv:PE X v tv) (hr:Dw X pos ks vs xi):
  Dw X pos (some k::ks) (v::vs) ((tk,tv)::xi):=fun pins s σ H Q I h=>
 pairTrees_cons_walk (oV (hk pins s σ H _ I h) fun u s1 ⟨x,H1,I1,rx,q1⟩=>oV (hv pins s1 σ H1 _ I1 q1) fun w2 s2 ⟨y,H2,I2,ry,q2⟩=>
  oV (hr pins s2 σ H2 _ I2 q2) fun ws s3 ⟨ps,H3,I3,rel,q3⟩=>⟨(x,y)::ps,H3,I3,.cons ⟨rx,ry⟩ rel,q3⟩)
noncomputable def w6 (l_ more:List (Key×V)):List (Key×V):=more.foldl (fun acc kv=>xP acc kv.1 kv.2) l_
theorem KV.merge:∀ {more:List (Key×V)} {rs:List (Key×ae)} {l_:List (Key×V)} {vs:List (Key×ae)},KV more rs->KV l_ vs->KV (w6 l_ more) (merged vs rs):=by
 intro more rs l_ vs r
 unfold KV at r
 induction r generalizing l_ vs with
 | nil=>intro q;exact q
 | @cons p q ps qs h t ih=>
  intro r0
  have e:KV (xP l_ p.1 p.2) (stored vs q.1 q.2):=by
   have:=r0.put p.1 h.2
   rw [<- h.1];exact this
  exact ih e
theorem Og:∀ (more l_:List (Key×V)),(w6 l_ more).length<=l_.length+more.length
 | [],l_=>by show l_.length<=l_.length+0;omega
 | p::r,l_=>by
  have h1:=Og r (xP l_ p.1 p.2)
  have h2:=YY l_ p.1 p.2
  show (w6 (xP l_ p.1 p.2) r).length<=_
  rw [bv];omega
theorem NV:∀ {l_:List (Key×V)} {ws:List (ae×ae)},VV (l_.map fun kv=>(kV kv.1,kv.2)) ws->∃ rs,Carries (t_ P w) ws rs/\KV l_ rs
 | [],_,r=>by rw [iG] at r;cases r;exact ⟨[],fz,.nil⟩
 | p::l_,_,r=>by
  rw [cn] at r
  cases r with
  | @cons a b as bs h t=>
   obtain ⟨rs,c,q⟩:=NV (P:=P) (w:=w) t
   obtain ⟨b1,b2⟩:=b
   exact ⟨(p.1,b2)::rs,⟨F5 h.1,rfl,c⟩,.cons ⟨rfl,h.2⟩ q⟩
noncomputable def Rc (xi:List (TE×TE)):TE:=fun σ H Q=>∀ p,H p=none->Bq xi σ (upd H p (.dK [])) fun ps H2=>H2 p=some (.dK [])/\∃ l_:List (Key×V),ps=l_.map (fun kv=>(kV kv.1,kv.2))/\l_.length<=15/\Q (.ref p) (upd H2 p (.dK (w6 [] l_)))
theorem Ui (h:Dw X pos keys values xi) (qr:keys.all (·.isSome)=true) (hl:keys.length=values.length) (h0:keys≠[])
  (Jz:keys.length<=15):PE X (.Dict keys values pos) (Rc xi):=by
 intro pins s σ H Q I q
 have hn:=I.hok.fresh (ay s.heap.objs.size)
 have I1:=I.laid (a:=s.heap.objs.size) (o:=.dK []) (h':=s.heap.push { cls:=.type "dict",data:=.dict #[] }) (t':=s.toks) (fun _ _ q=>ah _ q) (ay _) (M5 s.heap I.big)
 refine wpAny_Dict_walk (knd:=t_ X.prog X.w) qr hl h0 Jz (oV (h pins _ σ _ _ I1 (q _ hn)) fun ws s2 ⟨ps,H2,I2,rel,e,l_,ep,lk,q2⟩=>?_)
 subst ep
 obtain ⟨rs,c,rk⟩:=NV (P:=X.prog) (w:=X.w) rel
 obtain ⟨z,hd,vs0,r0,dd⟩:=Q_ I2.hok e
 cases r0
 refine ⟨rs,c,dd,fun h' PZ hs=>⟨.ref s.heap.objs.size,_,?_,rfl,q2⟩⟩
 have hz:(w6 [] l_).length<=sizeLine:=by
  have h1:=Og l_ []
  rw [gz] at h1
  rw [fD];omega
 have he:∃ q,h'.get? s.heap.objs.size=some q:=let ⟨q,_,_,hq,_⟩:=PZ;⟨q,hq⟩
 exact UZ I2 (by rw [e];exact fz) hs he (SW hz hd (rk.merge .nil) PZ) (Nat.add_pos_left I2.tk _)
structure M1 (X:Cx) (o:aQ) (m:Str) (apos:Pos) (e:aQ) (oP:Pos):Prop where
 base:attributeBase o m X.env (eval o X.env)=eval o X.env
 few:((backTo oP (aD [e] X.env)).all (fun x=>!x.1)&&(backToKw oP (keywordEach [] X.env)).all (fun x=>x.1.isSome)
  && decide (([e]:List aQ).length+([]:List fF).length+(if ([]:List fF).isEmpty then 0 else 1)<30))=true
 line:(apos.endLine==oP.line)=true
 trees:backTo oP (aD [e] X.env)=[(false,eval e X.env)]
structure M2 (X:Cx) (o:aQ) (m:Str) (apos:Pos) (e f:aQ) (oP:Pos):Prop where
 base:attributeBase o m X.env (eval o X.env)=eval o X.env
 few:((backTo oP (aD [e,f] X.env)).all (fun x=>!x.1)&&(backToKw oP (keywordEach [] X.env)).all (fun x=>x.1.isSome)
  && decide (([e,f]:List aQ).length+([]:List fF).length+(if ([]:List fF).isEmpty then 0 else 1)<30))=true
 line:(apos.endLine==oP.line)=true
 trees:backTo oP (aD [e,f] X.env)=[(false,eval e X.env),(false,eval f X.env)]
section
end
section
end
end L2
namespace DL
open PySem L2
theorem wT {X:Cx} {pins:List (af×Obj)} {d_:St} {H:Hp} {s:ag} {α:Type} {M:iC} {A:aW} {m:Sem α} {Q:α->ag->Prop} {E:ae->ag->Prop} (I:L2.Inv X pins d_ H s) (h:am M A m (fun a s'=>0<s'.toks->Q a s') (fun e s'=>0<s'.toks->E e s') s):am M A m Q E s:=eZ I.tk h
structure xG (K:ai) (C:af):Prop where
 ga:du K (.ref C) "__getattribute__" = some (some (.builtin "BaseException.__getattribute__"))
 nh:du K (.ref C) "__getattr__" = some none
 cl:∃ cd,ng K C=some cd
 at_:du K (.ref C) "__class__" = some (some (.builtin "object.__class__"))
 gt:gX K (.builtin "object.__class__") "__get__" = some (some (.builtin "getset_descriptor.__get__"))
 tk:j4 K (.builtin "object.__class__")=some true
 ob:ig K C (.type "object")=some true
 bx:ig K C (.type "BaseException")=some true
 kit:∀ c∈(["int", "bool", "str", "list", "tuple", "dict"]:List String),aJ K (.ref C) (.type c)=some false
section
open PySem.W
variable {prog:aH} {w:aP} {A:aW} {E:ae->ag->Prop} {s:ag} {K:ai} {x C:af} {ox:Obj}
theorem UR (X:K.In s.heap) (k:xG K C) (I:cJ s.heap x ox C none) (hq:Q () s):am M A (checkBuiltinCall "BaseException.__getattribute__" ⟨[.ref x,CA],[]⟩) Q E s:=by
 have hk:builtinKind "BaseException.__getattribute__" = some .slot:=by decide +kernel
 have rK:splitId "BaseException.__getattribute__" = some ("BaseException", "__getattribute__"):=by decide +kernel
 have ha:=F.args_bexc_ga (.ref x) CA
 have L0:=I.type (M:=M)
 have L1:=looks_mroIn (M:=M) X k.bx
 have LI:Looks M s.heap (isInstance (.ref x) (.type "BaseException")) true:=L0.andThen L1
 simp only [checkBuiltinCall,hk,rK]
 refine aa (LI.at ?_)
 repeat (first|wp_step|exact hq)
theorem VB (X:K.In s.heap) (k:xG K C) (I:cJ s.heap x ox C none) (h:Q (some (.ref C)) { s with toks:=s.toks+1 }):am (av prog w) A (getAttr? (.ref x) "__class__") Q E s:=by
 obtain ⟨cd,pY⟩:=k.cl
 have hf:findObj K C none "__class__" = some (.bind (.builtin "getset_descriptor.__get__") (.builtin "object.__class__")):=by
  unfold findObj
  rw [pY,k.at_]
  simp only [Option.bind_some,k.gt,k.tk]
 have L0:=I.type (M:=av prog w)
 have L1:=looks_findIn (M:=av prog w) X k.ga
 have L2:=looks_findIn (M:=av prog w) X k.nh
 have LF:=looks_find (M:=av prog w) X I hf
 unfold getAttr? getAttrBy? getAttrBy
 refine aa (wpAny_mkText (aa (fh (cb (aa (L0.at (aa (L1.at ?_))))))))
 have hx1:(onTheHeap (db C)&&gi "BaseException.__getattribute__" == gi "object.__getattribute__")=false:=by
  rw [show (gi "BaseException.__getattribute__" == gi "object.__getattribute__")=false from by decide +kernel];rfl
 show am _ _ (if (onTheHeap (db C)&&gi "BaseException.__getattribute__" == gi "object.__getattribute__")=true then _ else _) _ _ _
 rw [if_neg (by rw [hx1];decide)]
 unfold getAttrByItsOwn hookBefore
 rw [if_pos (by rfl)]
 refine aa (L2.at (aa (fh (cb ?_))))
 unfold callGetattribute boundAndCalled
 rw [if_neg (by decide)]
 rw [l5.ga.bind (.ref x)]
 refine aa (aj (iE ?_))
 refine kT l5.ga.plain F.entry_bexc_ga (UR (s:={ s with toks:=s.toks+1 }) X k I ?_)
 unfold cQ.«object.__getattribute__»
 refine aa (aj (aa (aj (aa (L0.at (aa (LF.at ?_)))))))
 show am _ _ (jF _ _ _ _) _ _ _
 unfold jF
 refine aa (cb (iE (class_get (s:={ s with toks:=s.toks+1 }) X I k.ob ?_)))
 exact aj (aj (aj h))
theorem Ll (k:xG K C):KitX K (.ref x) (.ref C) (fun h=>∃ ox,cJ h x ox C none) where
 ty:=fun _ _ _ ⟨ox,I⟩=>I.type
 it:=fun _ _ X _=>by
  obtain ⟨cd,pY⟩:=k.cl
  unfold clsIn at pY
  split at pY
  ·rename_i c' d' cd' uV ho
   intro A' Q' E' s' kp q
   unfold isType loadHead
   exact aa (wpAny_loadPart (kp _ _ (X _ _ ho)) (aj q))
  ·cases pY
 ne:=fun h tp dd f_ n sl X htp=>by
  obtain ⟨cd,pY⟩:=k.cl
  refine Bool.eq_false_iff.mpr fun q=>?_
  have e:C=tp:=Value.ref.inj (beq_iff_eq.mp q)
  subst e
  unfold clsIn at pY
  split at pY
  ·rename_i c' d' cd' uV ho
   have z:=(X _ _ ho).symm.trans htp
   cases z
  ·cases pY
 ca:=fun X ⟨ox,I⟩ q=>VB X k I q
end
end DL
namespace DL
open PySem L2
inductive D where
 | non
 | bl (b:Bool)
 | int (i:Int)
 | str (cs:List Nat)
 | lst (xs:List D)
 | tup (xs:List D)
 | own (k:Nat)
 | dct
 | exn (C:Nat)
 | tab (P:Nat)
 | map (ks:List (Sum Int (List Nat))) (ds:List D)
 | adr (a:Nat)
 deriving Inhabited
abbrev Ow:=List (List D)
inductive R (α:Type) where
 | ok (a:α) (O:Ow)
 | exc (c:Nat) (O:Ow)
 | bad
 deriving Inhabited
noncomputable def R.bnd {α β:Type} (r:R α) (k:α->Ow->R β):R β:=match r with
 | .ok a O=>k a O
 | .exc c O=>.exc c O
 | .bad=>.bad
abbrev Sg:=List (Option D)
abbrev DE:=Sg->Ow->R D
abbrev DT:=Sg->Ow->R Bool
abbrev DA:=Sg->Ow->R (List D)
section
variable (K:ai) (H:Hp) (hid μ:List af)
noncomputable def QI (K:ai) (a:af) (xs:List V):Prop:=∃ (o:Obj) (f_:Array ae) (n:Nat),K.lookup a=some o/\o.cls=.type "list"/\o.dict=none/\o.data=.seq f_ n/\f_.size<=sizeLine/\nK xs f_.toList
noncomputable def Qk (K:ai) (a:af) (xs:List V):Prop:=∃ (o:Obj) (f_:Array ae) (n:Nat),K.lookup a=some o/\o.cls=.type "tuple"/\o.data=.seq f_ n/\f_.size<=sizeLine/\nK xs f_.toList
def LstAt (a:af) (vs:List V):Prop:=(Rd H a (.lst vs)/\a∉hid/\a∉μ)\/QI K a vs
noncomputable def TupAt (a:af) (vs:List V):Prop:=(Rd H a (.tup vs)/\a∉hid/\a∉μ)\/Qk K a vs/\∃ o,K.lookup a=some o/\o.dict=none
end
def kD:Sum Int (List Nat)->Key
 | .inl i=>.inl i
 | .inr cs=>.inr ⟨cs.toArray⟩
noncomputable def nX (H:Hp) (P:af):Prop:=∃ ps,H P=some (.tbl ps)/\TriplesOk ps.toList/\∀ pos cv,codeAmong pos ps.toList=some cv->∃ c φ,cv=.ref c/\H c=some (.ext φ)/\∀ h:aT,φ h->∃ q,h.CodeRec (.ref c) q
def zU (o:HO):Prop:=∀ ps,o ≠ .tbl ps
section
variable (K:ai) (H:Hp) (hid μ:List af)
mutual
noncomputable def Dat:D->V->Prop
 | .non,v=>v=.non
 | .bl b,v=>v=.bl b
 | .int i,v=>v=.int i
 | .str cs,v=>v=.str ⟨cs.toArray⟩
 | .lst ds,v=>∃ a vs,v=.ref a/\LstAt K H hid μ a vs/\nJ ds vs
 | .tup ds,v=>∃ a vs,v=.ref a/\TupAt K H hid μ a vs/\nJ ds vs
 | .own k,v=>∃ a,v=.ref a/\μ[k]?=some a
 | .dct,v=>∃ a,v=.ref a/\Rd H a (.dK [])/\a∉hid/\a∉μ
 | .exn C,v=>∃ a φ,v=.ref a/\(xG K C/\∀ h:aT,φ h->∃ ox,cJ h a ox C none)/\Rd H a (.ext φ)/\a∉hid/\a∉μ
 | .tab P,v=>v=.bl false/\nX H P
 | .map ks ds,v=>∃ a vs,v=.ref a/\Rd H a (.dK ((ks.map kD).zip vs))/\a∉hid/\a∉μ/\ks.length=vs.length/\nJ ds vs
 | .adr a,v=>v=.ref a
noncomputable def nJ:List D->List V->Prop
 | [],vs=>vs=[]
 | d::ds,vs=>∃ v r,vs=v::r/\Dat d v/\nJ ds r
end
structure nI (O:Ow):Prop where
 len:μ.length=O.length
 nd:μ.Nodup
 nh:∀ a∈μ,a∉hid
 ht:∀ a∈hid,H a≠none
 at_:∀ (k:Nat) a,μ[k]?=some a->∃ ds vs,O[k]?=some ds/\H a=some (.lst vs)/\nJ K H hid μ ds vs
structure nM (σ:Sg) (d_:St):Prop where
 len:σ.length=d_.length
 at_:∀ (i:Nat) d,σ[i]?=some (some d)->∃ v,d_[i]?=some (some v)/\Dat K H hid μ d v
end
structure Ext (H:Hp) (μ:List af) (H':Hp) (g_:List af):Prop where
 pre:∃ ν,g_=μ++ν
 kept:∀ b o,H b=some o->b∉μ->zU o->H' b=some o
 fresh:∀ b∈g_,b∈μ\/H b=none
 there:∀ b,H b≠none->H' b≠none
 tab:∀ P,nX H P->nX H' P
structure Mv (H:Hp) (hid μ:List af) (H':Hp) (oR g_:List af):Prop where
 pre:∃ ν,g_=μ++ν
 kept:∀ b o,H b=some o->b∉μ->b∉hid->zU o->H' b=some o
 fresh:∀ b∈g_,b∈μ\/H b=none
 hids:∀ b∈oR,b∈hid\/H b=none
 there:∀ b,H b≠none->H' b≠none
 tab:∀ P,nX H P->nX H' P
section
variable {K:ai} {H H' H1 H2:Hp} {hid oR u7 C8 μ g_ h_ pd:List af}
theorem Ext.keep (e:Ext H μ H' g_) (b:af) (o:HO) (h:H b=some o) (n:b∉μ) (ht:zU o:=by intro ps z;cases z):H' b=some o:=e.kept b o h n ht
theorem nX.upd (t:nX H P) (hp:H p=none \/ ∃ vs,H p=some (.lst vs)):nX (L2.upd H p o) P:=by
 obtain ⟨ps,h1,h2,h3⟩:=t
 have n1:P≠p:=by
  rintro rfl
  rcases hp with z|⟨vs,z⟩<;>(rw [z] at h1;cases h1)
 refine ⟨ps,by rw [o7 n1];exact h1,h2,fun pos cv e=>?_⟩
 obtain ⟨c,φ,rfl,hc,hf⟩:=h3 pos cv e
 have n2:c≠p:=by
  rintro rfl
  rcases hp with z|⟨vs,z⟩<;>(rw [z] at hc;cases hc)
 exact ⟨c,φ,rfl,by rw [o7 n2];exact hc,hf⟩
theorem Ext.refl:Ext H μ H μ:=⟨⟨[],by simp⟩,fun _ _ h _ _=>h,fun _ h=>.inl h,fun _ h=>h,fun _ t=>t⟩
theorem Ext.trans (a:Ext H μ H1 h_) (b:Ext H1 h_ H2 pd):Ext H μ H2 pd:=by
 refine ⟨?_,fun c o h n ht=>?_,fun c h=>?_,fun c h=>b.there c (a.there c h),fun P t=>b.tab P (a.tab P t)⟩
 ·obtain ⟨x,rfl⟩:=a.pre
  obtain ⟨y,rfl⟩:=b.pre
  exact ⟨x++y,by simp⟩
 ·refine b.kept c o (a.kept c o h n ht) (fun m=>?_) ht
  rcases a.fresh c m with z|z
  ·exact n z
  ·rw [z] at h;cases h
 ·rcases b.fresh c h with z|z
  ·exact a.fresh c z
  ·by_cases hm:c∈μ
   ·exact .inl hm
   ·cases e:H c with
    | none=>exact .inr rfl
    | some o=>exact absurd z (a.there c (by rw [e];simp))
theorem Ext.mv (a:Ext H μ H' g_):Mv H hid μ H' hid g_:=⟨a.pre,fun b o h n _ ht=>a.kept b o h n ht,a.fresh,fun _ h=>.inl h,a.there,a.tab⟩
theorem Mv.refl:Mv H hid μ H hid μ:=Ext.refl.mv
theorem Mv.trans (a:Mv H hid μ H1 u7 h_) (b:Mv H1 u7 h_ H2 C8 pd):Mv H hid μ H2 C8 pd:=by
 have nn:∀ c,H1 c=none->H c=none:=fun c h=>by
  cases e:H c with
  | none=>rfl
  | some o=>exact absurd h (a.there c (by rw [e];simp))
 refine ⟨?_,fun c o h n1 n2 ht=>?_,fun c h=>?_,fun c h=>?_,fun c h=>b.there c (a.there c h),fun P t=>b.tab P (a.tab P t)⟩
 ·obtain ⟨x,rfl⟩:=a.pre
  obtain ⟨y,rfl⟩:=b.pre
  exact ⟨x++y,by simp⟩
 ·refine b.kept c o (a.kept c o h n1 n2 ht) (fun m=>?_) (fun m=>?_) ht
  ·rcases a.fresh c m with z|z
   ·exact n1 z
   ·rw [z] at h;cases h
  ·rcases a.hids c m with z|z
   ·exact n2 z
   ·rw [z] at h;cases h
 ·rcases b.fresh c h with z|z
  ·exact a.fresh c z
  ·exact .inr (nn c z)
 ·rcases b.hids c h with z|z
  ·exact a.hids c z
  ·exact .inr (nn c z)
theorem Mv.hide (h:H b=none):Mv H hid μ H (b::hid) μ:=⟨⟨[],by simp⟩,fun _ _ h _ _ _=>h,fun _ m=>.inl m,fun c m=>(aw.mp m).elim (fun e=>.inr (by rw [e];exact h)) .inl,fun _ h=>h,fun _ t=>t⟩
theorem Mv.unhide:Mv H (b::hid) μ H hid μ:=⟨⟨[],by simp⟩,fun _ _ h _ _ _=>h,fun _ m=>.inl m,fun _ m=>.inl (aq _ m),fun _ h=>h,fun _ t=>t⟩
theorem Rd.mv (r:Rd H a u) (e:Mv H hid μ H' oR g_) (n1:a∉hid) (n2:a∉μ) (ht:zU u:=by intro ps z;cases z):Rd H' a u/\a∉oR/\a∉g_:=by
 have out:∀ o,H a=some o->a∉oR/\a∉g_:=by
  intro o h
  constructor
  ·intro m
   rcases e.hids a m with z|z
   ·exact n1 z
   ·rw [z] at h;cases h
  ·intro m
   rcases e.fresh a m with z|z
   ·exact n2 z
   ·rw [z] at h;cases h
 rcases r with r|⟨o,r⟩
 ·exact ⟨.inl (e.kept _ _ r n2 n1 ht),out _ r⟩
 ·exact ⟨.inr ⟨o,e.kept _ _ r n2 n1 (by intro ps z;cases z)⟩,out _ r⟩
theorem LstAt.mv (h:LstAt K H hid μ a vs) (e:Mv H hid μ H' oR g_):LstAt K H' oR g_ a vs:=
 h.imp (fun z=>Rd.mv z.1 e z.2.1 z.2.2) id
theorem TupAt.mv (h:TupAt K H hid μ a vs) (e:Mv H hid μ H' oR g_):TupAt K H' oR g_ a vs:=
 h.imp (fun z=>Rd.mv z.1 e z.2.1 z.2.2) id
theorem LstAt.sq (h:LstAt K H hid μ a vs):pV K H a vs:=h.elim (fun z=>.inl z.1) .inr
theorem TupAt.sq (h:TupAt K H hid μ a vs):qu K H a vs:=h.elim (fun z=>.inl z.1) fun z=>.inr z.1
mutual
theorem Dat.mv (e:Mv H hid μ H' oR g_):∀ {d:D} {v:V},Dat K H hid μ d v->Dat K H' oR g_ d v
 | .non,_,h=>h
 | .bl _,_,h=>h
 | .int _,_,h=>h
 | .str _,_,h=>h
 | .lst ds,v,h=>by
  unfold Dat at h ⊢
  obtain ⟨a,vs,r,l,q⟩:=h
  exact ⟨a,vs,r,l.mv e,nJ.mv e q⟩
 | .tup ds,v,h=>by
  unfold Dat at h ⊢
  obtain ⟨a,vs,r,l,q⟩:=h
  exact ⟨a,vs,r,l.mv e,nJ.mv e q⟩
 | .own k,v,h=>by
  unfold Dat at h ⊢
  obtain ⟨a,r,q⟩:=h
  obtain ⟨x,rfl⟩:=e.pre
  exact ⟨a,r,by rw [aK (al.mp q).1];exact q⟩
 | .dct,v,h=>by
  unfold Dat at h ⊢
  obtain ⟨a,r,q,n1,n2⟩:=h
  exact ⟨a,r,Rd.mv q e n1 n2⟩
 | .exn C,v,h=>by
  unfold Dat at h ⊢
  obtain ⟨a,φ,r,g,q,n1,n2⟩:=h
  exact ⟨a,φ,r,g,Rd.mv q e n1 n2⟩
 | .tab P,v,h=>by
  unfold Dat at h ⊢
  exact ⟨h.1,e.tab _ h.2⟩
 | .map ks ds,v,h=>by
  unfold Dat at h ⊢
  obtain ⟨a,vs,r,q,n1,n2,hl,d⟩:=h
  obtain ⟨r1,r2,r3⟩:=Rd.mv q e n1 n2
  exact ⟨a,vs,r,r1,r2,r3,hl,nJ.mv e d⟩
 | .adr _,_,h=>h
theorem nJ.mv (e:Mv H hid μ H' oR g_):∀ {ds:List D} {vs:List V},nJ K H hid μ ds vs->nJ K H' oR g_ ds vs
 | [],_,h=>h
 | d::ds,vs,h=>by
  unfold nJ at h ⊢
  obtain ⟨v,r,e1,h1,h2⟩:=h
  exact ⟨v,r,e1,Dat.mv e h1,nJ.mv e h2⟩
end
theorem Dat.ext (e:Ext H μ H' g_) (h:Dat K H hid μ d v):Dat K H' hid g_ d v:=h.mv e.mv
theorem nJ.ext (e:Ext H μ H' g_) (h:nJ K H hid μ ds vs):nJ K H' hid g_ ds vs:=h.mv e.mv
theorem nM.mv (h:nM K H hid μ σ d_) (e:Mv H hid μ H' oR g_):nM K H' oR g_ σ d_:=
 ⟨h.len,fun i d q=>let ⟨v,a,b⟩:=h.at_ i d q;⟨v,a,b.mv e⟩⟩
theorem nM.ext (h:nM K H hid μ σ d_) (e:Ext H μ H' g_):nM K H' hid g_ σ d_:=h.mv e.mv
theorem nM.set (h:nM K H hid μ σ d_) (q:Dat K H hid μ d v) (i:Nat):nM K H hid μ (σ.set i (some d)) (d_.set i (some v)):=by
 refine ⟨by simp [h.len],fun j x e=>?_⟩
 by_cases hj:i=j
 ·subst hj
  have hi:i<σ.length:=by have:=(al.mp e).1;simpa using this
  rw [ba hi] at e
  cases e
  exact ⟨v,by rw [ba (by rw [<- h.len];exact hi)],q⟩
 ·rw [a8 hj] at e
  obtain ⟨w,a,b⟩:=h.at_ j x e
  exact ⟨w,by rw [a8 hj];exact a,b⟩
theorem nJ.length:∀ {ds:List D} {vs:List V},nJ K H hid μ ds vs->ds.length=vs.length
 | [],_,h=>by unfold nJ at h;subst h;rfl
 | d::ds,vs,h=>by
  unfold nJ at h
  obtain ⟨v,r,rfl,_,h2⟩:=h
  simp [nJ.length h2]
theorem nJ.nil:nJ K H hid μ [] []:=by unfold nJ;rfl
theorem nJ.cons (h:Dat K H hid μ d v) (t:nJ K H hid μ ds vs):nJ K H hid μ (d::ds) (v::vs):=by
 unfold nJ;exact ⟨v,vs,rfl,h,t⟩
theorem nJ.append:∀ {ds es:List D} {vs ws:List V},nJ K H hid μ ds vs->nJ K H hid μ es ws->nJ K H hid μ (ds++es) (vs++ws)
 | [],_,_,_,h,t=>by unfold nJ at h;subst h;exact t
 | d::ds,es,vs,ws,h,t=>by
  unfold nJ at h
  obtain ⟨v,r,rfl,h1,h2⟩:=h
  exact .cons h1 (nJ.append h2 t)
theorem nJ.get:∀ {ds:List D} {vs:List V} {i:Nat} {d:D},nJ K H hid μ ds vs->ds[i]?=some d->∃ v,vs[i]?=some v/\Dat K H hid μ d v
 | [],_,_,_,_,e=>by simp at e
 | d::ds,vs,0,x,h,e=>by
  unfold nJ at h
  obtain ⟨v,r,rfl,h1,h2⟩:=h
  simp at e;subst e
  exact ⟨v,by simp,h1⟩
 | d::ds,vs,i+1,x,h,e=>by
  unfold nJ at h
  obtain ⟨v,r,rfl,h1,h2⟩:=h
  obtain ⟨z,a,b⟩:=nJ.get (i:=i) h2 (by simpa using e)
  exact ⟨z,by simpa using a,b⟩
theorem nJ.take:∀ {ds:List D} {vs:List V} (n:Nat),nJ K H hid μ ds vs->nJ K H hid μ (ds.take n) (vs.take n)
 | _,_,0,_=>by simpa using nJ.nil
 | [],_,n+1,h=>by unfold nJ at h;subst h;simpa using nJ.nil
 | d::ds,vs,n+1,h=>by
  unfold nJ at h
  obtain ⟨v,r,rfl,h1,h2⟩:=h
  simpa using nJ.cons h1 (nJ.take n h2)
theorem nJ.drop:∀ {ds:List D} {vs:List V} (n:Nat),nJ K H hid μ ds vs->nJ K H hid μ (ds.drop n) (vs.drop n)
 | _,_,0,h=>by simpa using h
 | [],_,n+1,h=>by unfold nJ at h;subst h;simpa using nJ.nil
 | d::ds,vs,n+1,h=>by
  unfold nJ at h
  obtain ⟨v,r,rfl,h1,h2⟩:=h
  simpa using nJ.drop n h2
theorem nJ.set (q:Dat K H hid μ d v):∀ {ds:List D} {vs:List V} (i:Nat),nJ K H hid μ ds vs->nJ K H hid μ (ds.set i d) (vs.set i v)
 | [],_,i,h=>by unfold nJ at h;subst h;simpa using nJ.nil
 | x::ds,vs,0,h=>by
  unfold nJ at h
  obtain ⟨w,r,rfl,h1,h2⟩:=h
  simpa using nJ.cons q h2
 | x::ds,vs,i+1,h=>by
  unfold nJ at h
  obtain ⟨w,r,rfl,h1,h2⟩:=h
  simpa using nJ.cons h1 (nJ.set q i h2)
theorem nJ.rev:∀ {ds:List D} {vs:List V},nJ K H hid μ ds vs->nJ K H hid μ ds.reverse vs.reverse
 | [],_,h=>by unfold nJ at h;subst h;simpa using nJ.nil
 | d::ds,vs,h=>by
  unfold nJ at h
  obtain ⟨v,r,rfl,h1,h2⟩:=h
  simpa using nJ.append (nJ.rev h2) (.cons h1 .nil)
theorem vC (b:af) (h:H b≠none):upd H p o b≠none:=by
 by_cases e:b=p
 ·subst e;rw [qR];simp
 ·rw [o7 e];exact h
theorem Ext.laid (h:H p=none):Ext H μ (upd H p o) μ:=
 ⟨⟨[],by simp⟩,fun b u e _ _=>by rw [o7 (qU e h)];exact e,fun _ m=>.inl m,vC,fun _ t=>t.upd (.inl h)⟩
theorem nI.laid (c:nI K H hid μ O) (h:H p=none):nI K (upd H p o) hid μ O:=by
 refine ⟨c.len,c.nd,c.nh,fun a m=>?_,fun k a e=>?_⟩
 ·by_cases q:a=p
  ·subst q;rw [qR];simp
  ·rw [o7 q];exact c.ht a m
 ·obtain ⟨ds,vs,h1,h2,h3⟩:=c.at_ k a e
  exact ⟨ds,vs,h1,by rw [o7 (qU h2 h)];exact h2,h3.ext (.laid h)⟩
theorem nI.not_in (c:nI K H hid μ O) (h:H p=none):p∉hid/\p∉μ:=by
 refine ⟨fun m=>c.ht p m h,fun m=>?_⟩
 obtain ⟨k,hk,e⟩:=iH.mp m
 obtain ⟨ds,vs,_,h2,_⟩:=c.at_ k p (by rw [al];exact ⟨hk,e⟩)
 rw [h] at h2;cases h2
theorem Dat.newL (c:nI K H hid μ O) (h:H p=none) (q:nJ K H hid μ ds vs):Dat K (upd H p (.lst vs)) hid μ (.lst ds) (.ref p):=by
 unfold Dat
 exact ⟨p,vs,rfl,.inl ⟨.inl qR,c.not_in h⟩,q.ext (.laid h)⟩
theorem Dat.newT (c:nI K H hid μ O) (h:H p=none) (q:nJ K H hid μ ds vs):Dat K (upd H p (.tup vs)) hid μ (.tup ds) (.ref p):=by
 unfold Dat
 exact ⟨p,vs,rfl,.inl ⟨.inl qR,c.not_in h⟩,q.ext (.laid h)⟩
theorem Ext.cell (h:H p=none):Ext H μ (upd H p o) (μ++[p]):=
 ⟨⟨[p],rfl⟩,fun b u e _ _=>by rw [o7 (qU e h)];exact e,fun b m=>by
  rcases aN.mp m with m|m
  ·exact .inl m
  ·have:b=p:=by simpa using m
   subst this;exact .inr h,vC,fun _ t=>t.upd (.inl h)⟩
theorem nI.cell (c:nI K H hid μ O) (h:H p=none) (q:nJ K H hid μ ds vs):nI K (upd H p (.lst vs)) hid (μ++[p]) (O++[ds]):=by
 have ni:=c.not_in h
 refine ⟨by simp [c.len],?_,fun a m=>?_,fun a m=>?_,fun k a e=>?_⟩
 ·rw [fu]
  refine ⟨c.nd,by simp,fun a ha b hb=>?_⟩
  have:b=p:=by simpa using hb
  subst this
  rintro rfl
  exact ni.2 ha
 ·rcases aN.mp m with m|m
  ·exact c.nh a m
  ·have:a=p:=by simpa using m
   subst this;exact ni.1
 ·by_cases q:a=p
  ·subst q;rw [qR];simp
  ·rw [o7 q];exact c.ht a m
 ·by_cases hk:k<μ.length
  ·rw [aK hk] at e
   obtain ⟨vc,xh,h1,h2,h3⟩:=c.at_ k a e
   exact ⟨vc,xh,by rw [aK (by rw [<- c.len];exact hk)];exact h1,by rw [o7 (qU h2 h)];exact h2,h3.ext (.cell h)⟩
  ·rw [a5 (by omega)] at e
   have e0:k-μ.length=0:=by
    have:=(al.mp e).1
    simp at this;omega
   rw [e0] at e
   simp at e;subst e
   refine ⟨ds,vs,?_,qR,q.ext (.cell h)⟩
   have:k=O.length:=by have:=c.len;omega
   subst this;simp
theorem Ext.put (h:p∈μ) (hl:∃ vs,H p=some (.lst vs)):Ext H μ (upd H p o) μ:=
 ⟨⟨[],by simp⟩,fun b u e n _=>by rw [o7 (by rintro rfl;exact n h)];exact e,fun _ m=>.inl m,vC,fun _ t=>t.upd (.inr hl)⟩
theorem nI.put (c:nI K H hid μ O) (hk:μ[k]?=some p) (q:nJ K H hid μ ds vs):nI K (upd H p (.lst vs)) hid μ (O.set k ds):=by
 have hm:p∈μ:=aC hk
 have hl:∃ vs,H p=some (.lst vs):=let ⟨_,vs,_,h2,_⟩:=c.at_ k p hk;⟨vs,h2⟩
 refine ⟨by simp [c.len],c.nd,c.nh,fun a m=>?_,fun j a e=>?_⟩
 ·by_cases q:a=p
  ·subst q;rw [qR];simp
  ·rw [o7 q];exact c.ht a m
 ·by_cases hj:j=k
  ·subst hj
   rw [hk] at e;cases e
   refine ⟨ds,vs,?_,qR,q.ext (.put hm hl)⟩
   rw [ba (by rw [<- c.len];exact (al.mp hk).1)]
  ·have ne:a≠p:=by
    rintro rfl
    obtain ⟨h1,e1⟩:=al.mp e
    obtain ⟨h2,e2⟩:=al.mp hk
    exact hj ((jK c.nd).mp (e1.trans e2.symm))
   obtain ⟨vc,xh,h1,h2,h3⟩:=c.at_ j a e
   exact ⟨vc,xh,by rw [a8 (bq hj)];exact h1,by rw [o7 ne];exact h2,h3.ext (.put hm hl)⟩
end
section
variable (Ex:Nat->Hp->Prop) (K:ai)
noncomputable def post {α β:Type} (rel:Hp->List af->α->β->Prop) (H:Hp) (hid μ:List af) (r:R α) (Q:β->Hp->Prop):Prop:=match r with
 | .ok d O'=>∀ v H' g_,Ext H μ H' g_->nI K H' hid g_ O'->rel H' g_ d v->Q v H'
 | .exc c O'=>∀ H' g_,Ext H μ H' g_->nI K H' hid g_ O'->Ex c H'
 | .bad=>False
noncomputable abbrev p9 (H:Hp) (hid μ:List af) (r:R D) (Q:VK):Prop:=post Ex K (fun H' g_ d v=>Dat K H' hid g_ d v) H hid μ r Q
noncomputable abbrev vt (H:Hp) (hid μ:List af) (r:R Bool) (Q:Bool->Hp->Prop):Prop:=post Ex K (fun _ _ d v=>d=v) H hid μ r Q
noncomputable abbrev KH (H:Hp) (hid μ:List af) (r:R (List D)) (Q:List V->Hp->Prop):Prop:=post Ex K (fun H' g_ d v=>nJ K H' hid g_ d v) H hid μ r Q
noncomputable def rd (t:DE):TE:=fun d_ H Q=>∃ hid μ σ O,nM K H hid μ σ d_/\nI K H hid μ O/\p9 Ex K H hid μ (t σ O) Q
noncomputable def vD (t:DT):TT:=fun d_ H Q=>∃ hid μ σ O,nM K H hid μ σ d_/\nI K H hid μ O/\vt Ex K H hid μ (t σ O) Q
noncomputable def sY (t:DA):TA:=fun d_ H Q=>∃ hid μ σ O,nM K H hid μ σ d_/\nI K H hid μ O/\KH Ex K H hid μ (t σ O) Q
end
section
variable {Ex:Nat->Hp->Prop} {K:ai} {H H1:Hp} {hid μ h_:List af}
theorem post.ext {α β:Type} {rel:Hp->List af->α->β->Prop} {r:R α} {Q:β->Hp->Prop} (h:post Ex K rel H hid μ r Q) (e:Ext H μ H1 h_):post Ex K rel H1 hid h_ r Q:=by
 cases r with
 | ok d O'=>exact fun v H' g_ e' c q=>h v H' g_ (e.trans e') c q
 | exc c O'=>exact fun H' g_ e' c=>h H' g_ (e.trans e') c
 | bad=>exact h
theorem post.bnd {α β uo um:Type} {rel:Hp->List af->α->β->Prop} {qG:Hp->List af->uo->um->Prop} {r:R α} {k:α->Ow->R uo} {Q:um->Hp->Prop} {Q1:β->Hp->Prop}
  (h:post Ex K qG H hid μ (r.bnd k) Q)
  (hk:∀ d O1 v H1 h_,Ext H μ H1 h_->nI K H1 hid h_ O1->rel H1 h_ d v->post Ex K qG H1 hid h_ (k d O1) Q->Q1 v H1):post Ex K rel H hid μ r Q1:=by
 cases r with
 | ok d O'=>exact fun v H' g_ e c q=>hk d O' v H' g_ e c q (post.ext (show post Ex K qG H hid μ (k d O') Q from h) e)
 | exc c O'=>exact h
 | bad=>exact h
theorem post.ok {α β:Type} {rel:Hp->List af->α->β->Prop} {d:α} {O:Ow} {Q:β->Hp->Prop} {v:β} (h:post Ex K rel H hid μ (.ok d O) Q) {H':Hp} {g_:List af} (e:Ext H μ H' g_) (c:nI K H' hid g_ O) (q:rel H' g_ d v):Q v H':=h v H' g_ e c q
theorem post.here {α β:Type} {rel:Hp->List af->α->β->Prop} {d:α} {O:Ow} {Q:β->Hp->Prop} {v:β} (h:post Ex K rel H hid μ (.ok d O) Q) (c:nI K H hid μ O) (q:rel H μ d v):Q v H:=h v H μ .refl c q
end
structure PD (X:Cx) (Ex:Nat->Hp->Prop) (e:aQ) (t:DE):Prop where
 out:PE X e (rd Ex X.K t)
structure qE (X:Cx) (Ex:Nat->Hp->Prop) (e:aQ) (t:DT):Prop where
 out:PT X e (vD Ex X.K t)
structure rZ (X:Cx) (Ex:Nat->Hp->Prop) (es:List aQ) (t:DA):Prop where
 out:PA X es (sY Ex X.K t)
theorem PE.imp (h:PE X e t) (f:∀ σ H Q,t' σ H Q->t σ H Q):PE X e t':=fun pins s σ H Q I q=>h pins s σ H Q I (f σ H Q q)
theorem PT.imp (h:PT X e t) (f:∀ σ H Q,t' σ H Q->t σ H Q):PT X e t':=fun pins s σ H Q I q=>h pins s σ H Q I (f σ H Q q)
theorem PA.imp (h:PA X e t) (f:∀ σ H Q,t' σ H Q->t σ H Q):PA X e t':=fun pos pins s σ H Q I q=>h pos pins s σ H Q I (f σ H Q q)
theorem PW.imp (h:PW X e t) (f:∀ σ H Q,t' σ H Q->t σ H Q):PW X e t':=fun w pins s σ H Q I q=>h w pins s σ H Q I (f σ H Q q)
end DL
namespace DL
open PySem L2
def a_ (i:Nat):DE:=fun σ O=>match σ[i]? with
 | some (some d)=>.ok d O
 | _=>.bad
def dC (d:D):DE:=fun _ O=>.ok d O
section
variable {X:Cx} {Ex:Nat->Hp->Prop} {pos:Pos} {a b c:aQ} {ta tb tc:DE}
theorem qz {e:aQ} {t:TE} {t':DE} (h:PE X e t) (f:∀ hid μ σ O d_ H Q,nM X.K H hid μ σ d_->nI X.K H hid μ O->p9 Ex X.K H hid μ (t' σ O) Q->t d_ H Q):PD X Ex e t':=
 ⟨PE.imp h fun d_ H Q ⟨hid,μ,σ,O,e1,c1,q⟩=>f hid μ σ O d_ H Q e1 c1 q⟩
theorem Eb {e:aQ} {t:TT} {t':DT} (h:PT X e t) (f:∀ hid μ σ O d_ H Q,nM X.K H hid μ σ d_->nI X.K H hid μ O->vt Ex X.K H hid μ (t' σ O) Q->t d_ H Q):qE X Ex e t':=
 ⟨PT.imp h fun d_ H Q ⟨hid,μ,σ,O,e1,c1,q⟩=>f hid μ σ O d_ H Q e1 c1 q⟩
theorem K0 (h:PA X e t) (f:∀ hid μ σ O d_ H Q,nM X.K H hid μ σ d_->nI X.K H hid μ O->KH Ex X.K H hid μ (t' σ O) Q->t d_ H Q):rZ X Ex e t':=
 ⟨PA.imp h fun d_ H Q ⟨hid,μ,σ,O,e1,c1,q⟩=>f hid μ σ O d_ H Q e1 c1 q⟩
theorem rd.go {uo um:Type} {qG:Hp->List af->uo->um->Prop} {t:DE} {hid μ:List af} {σ:Sg} {O:Ow} {d_:St} {H:Hp} {Q1:VK} {k:D->Ow->R uo} {Q:um->Hp->Prop} (e1:nM X.K H hid μ σ d_) (c1:nI X.K H hid μ O)
  (q:post Ex X.K qG H hid μ ((t σ O).bnd k) Q)
  (f:∀ d O1 v H1 h_,nM X.K H1 hid h_ σ d_->Ext H μ H1 h_->nI X.K H1 hid h_ O1->Dat X.K H1 hid h_ d v->post Ex X.K qG H1 hid h_ (k d O1) Q->Q1 v H1):rd Ex X.K t d_ H Q1:=
 ⟨hid,μ,σ,O,e1,c1,post.bnd q fun d O1 v H1 h_ x c r p=>f d O1 v H1 h_ (e1.ext x) x c r p⟩
theorem vD.go {uo um:Type} {qG:Hp->List af->uo->um->Prop} {t:DT} {hid μ:List af} {σ:Sg} {O:Ow} {d_:St} {H:Hp} {Q1:Bool->Hp->Prop} {k:Bool->Ow->R uo} {Q:um->Hp->Prop} (e1:nM X.K H hid μ σ d_) (c1:nI X.K H hid μ O)
  (q:post Ex X.K qG H hid μ ((t σ O).bnd k) Q)
  (f:∀ v O1 H1 h_,nM X.K H1 hid h_ σ d_->Ext H μ H1 h_->nI X.K H1 hid h_ O1->post Ex X.K qG H1 hid h_ (k v O1) Q->Q1 v H1):vD Ex X.K t d_ H Q1:=
 ⟨hid,μ,σ,O,e1,c1,post.bnd q fun d O1 v H1 h_ x c r p=>by
  have r:d=v:=r
  subst r
  exact f d O1 H1 h_ (e1.ext x) x c p⟩
theorem sY.go {uo um:Type} {qG:Hp->List af->uo->um->Prop} {t:DA} {hid μ:List af} {σ:Sg} {O:Ow} {d_:St} {H:Hp} {Q1:List V->Hp->Prop} {k:List D->Ow->R uo} {Q:um->Hp->Prop} (e1:nM X.K H hid μ σ d_) (c1:nI X.K H hid μ O)
  (q:post Ex X.K qG H hid μ ((t σ O).bnd k) Q)
  (f:∀ d O1 v H1 h_,nM X.K H1 hid h_ σ d_->Ext H μ H1 h_->nI X.K H1 hid h_ O1->nJ X.K H1 hid h_ d v->post Ex X.K qG H1 hid h_ (k d O1) Q->Q1 v H1):sY Ex X.K t d_ H Q1:=
 ⟨hid,μ,σ,O,e1,c1,post.bnd q fun d O1 v H1 h_ x c r p=>f d O1 v H1 h_ (e1.ext x) x c r p⟩
theorem Ry (hN:X.N[i]?=some x) (hv:sI X.env.scope x) (hd:(x==("__debug__":Str))=false:=by decide) (pY:(x==("__classdict__":Str))=false:=by decide):PD X Ex (.Name x pos) (a_ i):=
 qz (Gi hN hv hd pY) fun hid μ σ O d_ H Q e1 c1 q=>by
  unfold a_ at q
  split at q
  ·rename_i d hd
   obtain ⟨v,h1,h2⟩:=e1.at_ i d hd
   exact ⟨v,h1,post.here q c1 h2⟩
  ·exact ak q
theorem TU:PD X Ex (.Constant (.int i) j pos) (dC (.int i)):=qz Lk fun hid μ σ O d_ H Q e1 c1 q=>post.here q c1 (by unfold Dat;rfl)
theorem Q9:PD X Ex (.Constant (.bool i) j pos) (dC (.bl i)):=qz QV fun hid μ σ O d_ H Q e1 c1 q=>post.here q c1 (by unfold Dat;rfl)
theorem Tw:PD X Ex (.Constant .none j pos) (dC .non):=qz Gk fun hid μ σ O d_ H Q e1 c1 q=>post.here q c1 (by unfold Dat;rfl)
theorem R0 (cs:List Nat) (h:x=⟨cs.toArray⟩):PD X Ex (.Constant (.str x) j pos) (dC (.str cs)):=qz Lw fun hid μ σ O d_ H Q e1 c1 q=>post.here q c1 (by unfold Dat;rw [h])
theorem WH (cs:List Nat) (hg:Gl X x) (hm:X.mg x=some (.str y t)) (h:y=⟨cs.toArray⟩) (hd:(x==("__debug__":Str))=false:=by decide):PD X Ex (.Name x pos) (dC (.str cs)):=
 qz (BB (v:=.str y) hg hm ⟨t,rfl⟩ hd) fun hid μ σ O d_ H Q e1 c1 q=>post.here q c1 (by unfold Dat;rw [h])
noncomputable def e_ (f:Ow->D->D->R D) (ta tb:DE):DE:=fun σ O=>(ta σ O).bnd fun x O1=>(tb σ O1).bnd fun y O2=>f O2 x y
noncomputable def qK (X:Cx) (Ex:Nat->Hp->Prop) (r:R2) (f:Ow->D->D->R D):Prop:=∀ (H:Hp) (hid μ:List af) (O:Ow) (x y:D) (v w:V) (Q:VK),nI X.K H hid μ O->Dat X.K H hid μ x v->Dat X.K H hid μ y w->p9 Ex X.K H hid μ (f O x y) Q->r v w H Q
theorem Ef {r:R2} {f:Ow->D->D->R D} (h:qK X Ex r f) (hid μ:List af) (σ:Sg) (O:Ow) (d_:St) (H:Hp) (Q:VK) (e1:nM X.K H hid μ σ d_) (c1:nI X.K H hid μ O) (q:p9 Ex X.K H hid μ (e_ f ta tb σ O) Q):
  Ck r (rd Ex X.K ta) (rd Ex X.K tb) d_ H Q:=
 rd.go e1 c1 q fun x O1 v H1 h_ e2 x2 c2 d2 q2=>rd.go e2 c2 q2 fun y O2 w H2 pd e3 x3 c3 d3 q3=>h H2 hid pd O2 x y v w Q c3 (d2.ext x3) d3 q3
theorem uO (ho:pH X (dj op) r) (h:qK X Ex r f) (ha:PD X Ex a ta) (hb:PD X Ex b tb):PD X Ex (.BinOp a op b pos) (e_ f ta tb):=
 qz (QN ho ha.out hb.out) (Ef h)
theorem xW (ho:pH X (cw op) r) (h:qK X Ex r f) (ha:PD X Ex a ta) (hb:PD X Ex b tb) (hm:behindInMarks op b=false):PD X Ex (.Compare a [op] [b] pos) (e_ f ta tb):=
 qz (U5 ho ha.out hb.out hm) (Ef h)
noncomputable def oZ (t:DE):DT:=fun σ O=>(t σ O).bnd fun x O1=>match x with
 | .bl k=>.ok k O1
 | _=>.bad
theorem MN (f:∀ hid μ σ O d_ H Q,nM X.K H hid μ σ d_->nI X.K H hid μ O->p9 Ex X.K H hid μ (td σ O) Q->t d_ H Q) (hid μ:List af) (σ:Sg) (O:Ow) (d_:St) (H:Hp) (Q:Bool->Hp->Prop)
  (e1:nM X.K H hid μ σ d_) (c1:nI X.K H hid μ O) (q:vt Ex X.K H hid μ (oZ td σ O) Q):KA t d_ H Q:=by
 refine f hid μ σ O d_ H _ e1 c1 ?_
 refine post.bnd q fun d O1 v H1 h_ x c r p=>?_
 cases d with
 | bl k=>
  have r:v=.bl k:=by unfold Dat at r;exact r
  exact ⟨k,r,post.here p c rfl⟩
 | _=>exact ak p
theorem Aj (ho:pH X (cw op) r) (h:qK X Ex r f) (ha:PD X Ex a ta) (hb:PD X Ex b tb) (hm:behindInMarks op b=false):qE X Ex (.Compare a [op] [b] pos) (oZ (e_ f ta tb)):=
 Eb (Uq ho ha.out hb.out hm) (MN (Ef h))
noncomputable def JZ (O:Ow):D->R Bool
 | .non=>.ok false O
 | .bl b=>.ok b O
 | .int i=>.ok (i !=0) O
 | .str cs=>if cs.length<=100000 then .ok (!cs.isEmpty) O else .bad
 | .lst ds=>.ok (!ds.isEmpty) O
 | .tup ds=>.ok (!ds.isEmpty) O
 | .own k=>match O[k]? with
  | some ds=>.ok (!ds.isEmpty) O
  | none=>.bad
 | .dct=>.bad
 | .exn _=>.bad
 | .tab _=>.bad
 | .map _ _=>.bad
 | .adr _=>.bad
def pO (t:DE):DT:=fun σ O=>(t σ O).bnd fun x O1=>JZ O1 x
theorem wG {n:Nat} (h:n<=100000):n<=sizeLine:=aU h (by decide)
theorem HH {K:ai} {H:Hp} {hid μ:List af} {ds:List D} {vs:List V} (h:nJ K H hid μ ds vs):(!ds.isEmpty) = !vs.isEmpty:=by
 have e:=h.length
 cases ds<;>cases vs<;>simp_all
theorem Tt (ha:PD X Ex a ta) (he:∀ whole,isTrue a X.env whole=(do let v <- whole;standAt a.pos;holding [v] (truthy v))):qE X Ex a (pO ta):=
 Eb (WJ ha.out he) fun hid μ σ O d_ H Q e1 c1 q=>rd.go e1 c1 q fun d O1 v H1 h_ e2 x c r p=>by
  cases d with
  | non=>unfold Dat at r;subst r;exact ⟨_,rfl,post.here p c rfl⟩
  | bl b=>unfold Dat at r;subst r;exact ⟨_,rfl,post.here p c rfl⟩
  | int b=>unfold Dat at r;subst r;exact ⟨_,rfl,post.here p c rfl⟩
  | str cs=>
   unfold Dat at r;subst r
   by_cases hl:cs.length<=100000
   ·have p':vt Ex X.K H1 hid h_ (.ok (!cs.isEmpty) O1) Q:=by
     have p2:vt Ex X.K H1 hid h_ (if cs.length<=100000 then .ok (!cs.isEmpty) O1 else .bad) Q:=p
     rw [if_pos hl] at p2;exact p2
    refine ⟨_,⟨?_,rfl⟩,?_⟩
    ·show cs.toArray.size<=_
     rw [az];exact wG hl
    ·have e:(((⟨cs.toArray⟩:Str).length:Int) !=0) = !cs.isEmpty:=by
      show ((cs.toArray.size:Int) !=0)=_
      rw [az]
      cases cs<;>simp [bne]
      omega
     rw [e];exact post.here p' c rfl
   ·have p2:vt Ex X.K H1 hid h_ (if cs.length<=100000 then .ok (!cs.isEmpty) O1 else .bad) Q:=p
    rw [if_neg hl] at p2;exact ak p2
  | lst ds=>
   unfold Dat at r
   obtain ⟨a,vs,rfl,l,q⟩:=r
   exact ⟨_,.inl ⟨vs,l.sq,rfl⟩,by rw [<- HH q];exact post.here p c rfl⟩
  | tup ds=>
   unfold Dat at r
   obtain ⟨a,vs,rfl,l,q⟩:=r
   exact ⟨_,.inr (.inl ⟨vs,l.sq,rfl⟩),by rw [<- HH q];exact post.here p c rfl⟩
  | own k=>
   unfold Dat at r
   obtain ⟨a,rfl,hk⟩:=r
   obtain ⟨ds,vs,h1,h2,h3⟩:=c.at_ k a hk
   have p':vt Ex X.K H1 hid h_ (.ok (!ds.isEmpty) O1) Q:=by
    have p2:vt Ex X.K H1 hid h_ (match O1[k]? with|some ds=>.ok (!ds.isEmpty) O1|none=>.bad) Q:=p
    rw [h1] at p2;exact p2
   exact ⟨_,.inl ⟨vs,.of h2,rfl⟩,by rw [<- HH h3];exact post.here p' c rfl⟩
  | dct=>exact ak p
  | exn _=>exact ak p
  | tab _=>exact ak p
  | map _ _=>exact ak p
  | adr _=>exact ak p
noncomputable def fI (g:Int->Int->Option D):Ow->D->D->R D:=fun O x y=>match x,y with
 | .int i,.int j=>match g i j with
  | some d=>.ok d O
  | none=>.bad
 | _,_=>.bad
theorem Al (h:∀ i j d,g i j=some d->C i j/\∀ K H hid μ,Dat K H hid μ d (gv i j)):qK X Ex (rI C gv) (fI g):=by
 intro H hid μ O x y v w Q c dx dy q
 unfold fI at q
 split at q
 ·rename_i i j
  unfold Dat at dx dy
  subst dx;subst dy
  split at q
  ·rename_i d hd
   obtain ⟨h1,h2⟩:=h i j d hd
   exact ⟨i,j,rfl,rfl,h1,post.here q c (h2 _ _ _ _)⟩
  ·exact ak q
 ·exact ak q
theorem An (h:∀ i j d,g i j=some d->∀ K H hid μ,Dat K H hid μ d (gv i j)):qK X Ex (sZ gv) (fI g):=by
 intro H hid μ O x y v w Q c dx dy q
 unfold fI at q
 split at q
 ·rename_i i j
  unfold Dat at dx dy
  subst dx;subst dy
  split at q
  ·rename_i d hd
   exact ⟨i,j,rfl,rfl,post.here q c (h i j d hd _ _ _ _)⟩
  ·exact ak q
 ·exact ak q
theorem q9:Dat K H hid μ (.int i) (.int i):=by unfold Dat;rfl
theorem sW {K H hid μ} {i:Bool}:Dat K H hid μ (.bl i) (.bl i):=by unfold Dat;rfl
theorem Ah:Dat K H hid μ .non .non:=by unfold Dat;rfl
theorem GH:Dat K H hid μ (.str cs) (.str ⟨cs.toArray⟩):=by unfold Dat;rfl
def gB (p:Int->Int->Bool):Int->Int->Option D:=fun i j=>some (.bl (p i j))
def gI (p:Int->Int->Int):Int->Int->Option D:=fun i j=>some (.int (p i j))
def vT:Int->Int->Option D:=gI fun i j=>i-j
noncomputable def sL:Int->Int->Option D:=fun i j=>if (-1000000000000000<i/\i<1000000000000000)\/(-1000000000000000<j/\j<1000000000000000) then some (.int (i*j)) else none
noncomputable def vo:Int->Int->Option D:=fun i j=>if 0<j/\j<1073741824 then some (.int (i/j)) else none
def sv:Int->Int->Option D:=fun i j=>if 0<j then some (.int (i%j)) else none
noncomputable def vR:Int->Int->Option D:=fun i j=>if 0<=j/\j<=1000000/\i.natAbs<2 ^ 64 then some (.int (i ^ j.toNat)) else none
noncomputable def zP:Int->Int->Option D:=fun i j=>if 0<=j/\j<=1000000/\i.natAbs<2 ^ 64 then some (.int (i*2 ^ j.toNat)) else none
theorem T5:qK X Ex (sZ fun i j=>.int (i-j)) (fI vT):=An fun i j d h _ _ _ _=>by cases h;exact q9
theorem UD:qK X Ex (rI oG fun i j=>.int (i*j)) (fI sL):=Al fun i j d h=>by
 unfold sL at h;split at h
 ·rename_i hc;cases h;exact ⟨hc.imp (fun z=>⟨by omega,by omega⟩) fun z=>⟨by omega,by omega⟩,fun _ _ _ _=>q9⟩
 ·cases h
theorem Tp:qK X Ex (rI J8 fun i j=>.int (i/j)) (fI vo):=Al fun i j d h=>by
 unfold vo at h;split at h
 ·rename_i hc;cases h;exact ⟨hc,fun _ _ _ _=>q9⟩
 ·cases h
theorem Vo:qK X Ex (rI (fun _ j=>0<j) fun i j=>.int (i%j)) (fI sv):=Al fun i j d h=>by
 unfold sv at h;split at h
 ·rename_i hc;cases h;exact ⟨hc,fun _ _ _ _=>q9⟩
 ·cases h
theorem Vj:qK X Ex (rI DV fun i j=>.int (i ^ j.toNat)) (fI vR):=Al fun i j d h=>by
 unfold vR at h;split at h
 ·rename_i hc;cases h;exact ⟨hc,fun _ _ _ _=>q9⟩
 ·cases h
theorem Tc:qK X Ex (rI DV fun i j=>.int (i*2 ^ j.toNat)) (fI zP):=Al fun i j d h=>by
 unfold zP at h;split at h
 ·rename_i hc;cases h;exact ⟨hc,fun _ _ _ _=>q9⟩
 ·cases h
def tY:Ow->D->D->R D:=fI (gB fun i j=>decide (i<j))
def Dm:Ow->D->D->R D:=fI (gB fun i j=>decide (i<=j))
def zJ:Ow->D->D->R D:=fI (gB fun i j=>decide (j<=i))
theorem Gw:qK X Ex (sZ fun i j=>.bl (decide (i<j))) tY:=An fun i j d h _ _ _ _=>by cases h;exact sW
theorem Ls:qK X Ex (sZ fun i j=>.bl (decide (i<=j))) Dm:=An fun i j d h _ _ _ _=>by cases h;exact sW
theorem K3:qK X Ex (sZ fun i j=>.bl (decide (j<=i))) zJ:=An fun i j d h _ _ _ _=>by cases h;exact sW
def Gd:D->Bool
 | .non=>true
 | _=>false
def FU:Ow->D->D->R D:=fun O x y=>match y with
 | .non=>.ok (.bl (Gd x)) O
 | _=>.bad
theorem Um (h:Dat K H hid μ x v):decide (v=.non)=Gd x:=by
 cases x with
 | non=>unfold Dat at h;subst h;rfl
 | bl _=>unfold Dat at h;subst h;rfl
 | int _=>unfold Dat at h;subst h;rfl
 | str _=>unfold Dat at h;subst h;rfl
 | lst _=>unfold Dat at h;obtain ⟨_,_,rfl,_⟩:=h;rfl
 | tup _=>unfold Dat at h;obtain ⟨_,_,rfl,_⟩:=h;rfl
 | own _=>unfold Dat at h;obtain ⟨_,rfl,_⟩:=h;rfl
 | dct=>unfold Dat at h;obtain ⟨_,rfl,_⟩:=h;rfl
 | exn _=>unfold Dat at h;obtain ⟨_,_,rfl,_⟩:=h;rfl
 | tab _=>unfold Dat at h;obtain ⟨rfl,_⟩:=h;rfl
 | map _ _=>unfold Dat at h;obtain ⟨_,_,rfl,_⟩:=h;rfl
 | adr _=>unfold Dat at h;subst h;rfl
theorem Vx:qK X Ex (fun x y H Q=>y=.non/\Q (.bl (decide (x=.non))) H) FU:=by
 intro H hid μ O x y v w Q c dx dy q
 cases y with
 | non=>
  unfold Dat at dy;subst dy
  refine ⟨rfl,?_⟩
  rw [Um dx]
  exact post.here (show p9 Ex X.K H hid μ (.ok (.bl (Gd x)) O) Q from q) c sW
 | _=>exact ak q
noncomputable def vk (t u:DE):DE:=fun σ O=>(t σ O).bnd fun x O1=>match x with
 | .bl true=>u σ O1
 | .bl false=>.ok (.bl false) O1
 | _=>.bad
noncomputable def JH (t u:DE):DE:=fun σ O=>(t σ O).bnd fun x O1=>match x with
 | .bl true=>.ok (.bl true) O1
 | .bl false=>u σ O1
 | _=>.bad
noncomputable def F1 (t:DE):DE:=fun σ O=>(t σ O).bnd fun x O1=>match x with
 | .bl b=>.ok (.bl (!b)) O1
 | _=>.bad
noncomputable def sC (t u:DT):DT:=fun σ O=>(t σ O).bnd fun x O1=>if x=true then u σ O1 else .ok false O1
noncomputable def vj (t u:DT):DT:=fun σ O=>(t σ O).bnd fun x O1=>if x=true then .ok true O1 else u σ O1
def rn (t:DT):DT:=fun σ O=>(t σ O).bnd fun x O1=>.ok (!x) O1
theorem Sm (ha:PD X Ex a ta):PD X Ex (.BoolOp op [a] pos) ta:=⟨RV ha.out⟩
theorem SI {pA:List aQ} (ha:PD X Ex a ta) (hb:PD X Ex (.BoolOp .And (b::pA) pos) tb):PD X Ex (.BoolOp .And (a::b::pA) pos) (vk ta tb):=
 qz (So ha.out hb.out) fun hid μ σ O d_ H Q e1 c1 q=>rd.go e1 c1 q fun d O1 v H1 h_ e2 x c r p=>by
  cases d with
  | bl k=>
   unfold Dat at r;subst r
   refine ⟨k,rfl,?_⟩
   cases k with
   | true=>rw [if_pos rfl];exact ⟨hid,h_,σ,O1,e2,c,p⟩
   | false=>rw [if_neg bQ];exact post.here p c sW
  | _=>exact ak p
theorem QX {pA:List aQ} (ha:PD X Ex a ta) (hb:PD X Ex (.BoolOp .Or (b::pA) pos) tb):PD X Ex (.BoolOp .Or (a::b::pA) pos) (JH ta tb):=
 qz (QK ha.out hb.out) fun hid μ σ O d_ H Q e1 c1 q=>rd.go e1 c1 q fun d O1 v H1 h_ e2 x c r p=>by
  cases d with
  | bl k=>
   unfold Dat at r;subst r
   refine ⟨k,rfl,?_⟩
   cases k with
   | true=>rw [if_pos rfl];exact post.here p c sW
   | false=>rw [if_neg bQ];exact ⟨hid,h_,σ,O1,e2,c,p⟩
  | _=>exact ak p
theorem RP (ha:PD X Ex a ta):PD X Ex (.UnaryOp .Not a pos) (F1 ta):=
 qz (RD ha.out) fun hid μ σ O d_ H Q e1 c1 q=>rd.go e1 c1 q fun d O1 v H1 h_ e2 x c r p=>by
  cases d with
  | bl k=>unfold Dat at r;subst r;exact ⟨k,rfl,post.here p c sW⟩
  | _=>exact ak p
structure uH (X:Cx) (Ex:Nat->Hp->Prop) (e:aQ) (t:DT):Prop where
 out:PW X e (vD Ex X.K t)
theorem uH.pt (h:uH X Ex e t):qE X Ex e t:=⟨L2.PW.pt h.out⟩
theorem KQ {e:aQ} {t:TT} {t':DT} (h:PW X e t) (f:∀ hid μ σ O d_ H Q,nM X.K H hid μ σ d_->nI X.K H hid μ O->vt Ex X.K H hid μ (t' σ O) Q->t d_ H Q):uH X Ex e t':=
 ⟨PW.imp h fun d_ H Q ⟨hid,μ,σ,O,e1,c1,q⟩=>f hid μ σ O d_ H Q e1 c1 q⟩
theorem Uc {pA:List aQ} {tA tB:DT} (ha:qE X Ex a tA) (hb:uH X Ex (.BoolOp .And (b::pA) pos) tB):uH X Ex (.BoolOp .And (a::b::pA) pos) (sC tA tB):=
 KQ (SY ha.out hb.out) fun hid μ σ O d_ H Q e1 c1 q=>vD.go e1 c1 q fun k O1 H1 h_ e2 x c p=>by
  cases k with
  | true=>rw [if_pos rfl];exact ⟨hid,h_,σ,O1,e2,c,p⟩
  | false=>rw [if_neg bQ];exact post.here p c rfl
theorem RY {pA:List aQ} {tA tB:DT} (ha:qE X Ex a tA) (hb:uH X Ex (.BoolOp .Or (b::pA) pos) tB):uH X Ex (.BoolOp .Or (a::b::pA) pos) (vj tA tB):=
 KQ (QT ha.out hb.out) fun hid μ σ O d_ H Q e1 c1 q=>vD.go e1 c1 q fun k O1 H1 h_ e2 x c p=>by
  cases k with
  | true=>rw [if_pos rfl];exact post.here p c rfl
  | false=>rw [if_neg bQ];exact ⟨hid,h_,σ,O1,e2,c,p⟩
theorem Wj (ha:qE X Ex a tA):uH X Ex (.BoolOp .And [a] pos) tA:=⟨Vp ha.out⟩
theorem Vz (ha:qE X Ex a tA):uH X Ex (.BoolOp .Or [a] pos) tA:=⟨Tz ha.out⟩
theorem Th {tA:DT} (ha:qE X Ex a tA):qE X Ex (.UnaryOp .Not a pos) (rn tA):=
 Eb (Rx ha.out) fun hid μ σ O d_ H Q e1 c1 q=>vD.go e1 c1 q fun k O1 H1 h_ e2 x c p=>post.here p c rfl
noncomputable def Gs (f g:Ow->D->D->R D) (ta tb tc:DE):DE:=fun σ O=>(ta σ O).bnd fun x O1=>(tb σ O1).bnd fun y O2=>(f O2 x y).bnd fun z O3=>match z with
 | .bl true=>(tc σ O3).bnd fun w O4=>g O4 y w
 | .bl false=>.ok (.bl false) O3
 | _=>.bad
theorem Ws {op AQ:CmpOp} {r r':R2} {f g:Ow->D->D->R D} (ho:pH X (cw op) r) (h:qK X Ex r f) (tG:pH X (cw AQ) r') (h':qK X Ex r' g) (ha:PD X Ex a ta) (hb:PD X Ex b tb) (hc:PD X Ex c tc)
  (hm:lastMarks [op,AQ] [b,c]=false:=by with_unfolding_all rfl):PD X Ex (.Compare a [op,AQ] [b,c] pos) (Gs f g ta tb tc):=
 qz (WB ho tG ha.out hb.out hc.out hm) fun hid μ σ O d_ H Q e1 c1 q=>rd.go e1 c1 q fun x O1 v H1 h_ e2 x2 c2 d2 q2=>rd.go e2 c2 q2 fun y O2 w H2 pd e3 x3 c3 d3 q3=>
  h H2 hid pd O2 x y v w _ c3 (d2.ext x3) d3 (post.bnd q3 fun z O3 u H3 vM x4 c4 r4 p=>by
   cases z with
   | bl k=>
    unfold Dat at r4;subst r4
    refine ⟨k,rfl,?_⟩
    cases k with
    | true=>rw [if_pos rfl];exact rd.go (e3.ext x4) c4 p fun w2 O4 v4 H4 Qd e5 x5 c5 d5 q5=>h' H4 hid Qd O4 y w2 w v4 Q c5 ((d3.ext x4).ext x5) d5 q5
    | false=>rw [if_neg bQ];exact post.here p c4 sW
   | _=>exact ak p)
def c_:DA:=fun _ O=>.ok [] O
noncomputable def b_ (t:DE) (u:DA):DA:=fun σ O=>(t σ O).bnd fun x O1=>(u σ O1).bnd fun xs O2=>.ok (x::xs) O2
theorem Vd:rZ X Ex [] c_:=K0 yI fun hid μ σ O d_ H Q e1 c1 q=>post.here q c1 .nil
theorem WO {es:List aQ} {t:DA} (ha:PD X Ex a ta) (hr:rZ X Ex es t) (hs:aD (a::es) X.env=(false,eval a X.env)::aD es X.env:=by rfl):rZ X Ex (a::es) (b_ ta t):=
 K0 (vw ha.out hr.out hs) fun hid μ σ O d_ H Q e1 c1 q=>rd.go e1 c1 q fun x O1 v H1 h_ e2 x2 c2 d2 q2=>sY.go e2 c2 q2 fun y O2 w H2 pd e3 x3 c3 d3 q3=>post.here q3 c3 (.cons (d2.ext x3) d3)
noncomputable def qZ (t:DA):DE:=fun σ O=>(t σ O).bnd fun xs O1=>if xs.length<=100000 then .ok (.tup xs) O1 else .bad
noncomputable def pT (t:DA):DE:=fun σ O=>(t σ O).bnd fun xs O1=>if xs.length<=100000 then .ok (.lst xs) O1 else .bad
noncomputable def ux (t:DA):DE:=fun σ O=>(t σ O).bnd fun xs O1=>if xs.length<=100000 then .ok (.own O1.length) (O1++[xs]) else .bad
theorem post.iteN {α β:Type} {K:ai} {H:Hp} {hid μ:List af} {rel:Hp->List af->α->β->Prop} {Q:β->Hp->Prop} {b:Bool} {r:R α} (h:post Ex K rel H hid μ (if b=true then .bad else r) Q):b=false/\post Ex K rel H hid μ r Q:=by
 cases b with
 | true=>exact ak h
 | false=>exact ⟨rfl,h⟩
theorem post.ite {α β:Type} {K:ai} {H:Hp} {hid μ:List af} {rel:Hp->List af->α->β->Prop} {Q:β->Hp->Prop} {c:Prop} [Decidable c] {r:R α} (h:post Ex K rel H hid μ (if c then r else .bad) Q):c/\post Ex K rel H hid μ r Q:=by
 by_cases hc:c
 ·rw [if_pos hc] at h;exact ⟨hc,h⟩
 ·rw [if_neg hc] at h;exact ak h
theorem Sv (h:rZ X Ex es t):PD X Ex (.Tuple es x1 pos) (qZ t):=
 qz (Lg h.out) fun hid μ σ O d_ H Q e1 c1 q=>sY.go e1 c1 q fun xs O1 vs H1 h_ e2 x2 c2 d2 q2=>by
  obtain ⟨hl,q2⟩:=post.ite q2
  exact ⟨by rw [<- d2.length];exact wG hl,fun p hp=>post.ok q2 (.laid hp) (c2.laid hp) (Dat.newT c2 hp d2)⟩
theorem RE (h:rZ X Ex es t):PD X Ex (.List es pos) (pT t):=
 qz (Lr h.out) fun hid μ σ O d_ H Q e1 c1 q=>sY.go e1 c1 q fun xs O1 vs H1 h_ e2 x2 c2 d2 q2=>by
  obtain ⟨hl,q2⟩:=post.ite q2
  exact ⟨by rw [<- d2.length];exact wG hl,fun p hp=>post.ok q2 (.laid hp) (c2.laid hp) (Dat.newL c2 hp d2)⟩
theorem AD (h:μ.length=n):Dat K H hid (μ++[p]) (.own n) (.ref p):=by
 unfold Dat
 exact ⟨p,rfl,by rw [<- h];simp⟩
theorem Vi (h:rZ X Ex es t):PD X Ex (.List es pos) (ux t):=
 qz (Lr h.out) fun hid μ σ O d_ H Q e1 c1 q=>sY.go e1 c1 q fun xs O1 vs H1 h_ e2 x2 c2 d2 q2=>by
  obtain ⟨hl,q2⟩:=post.ite q2
  exact ⟨by rw [<- d2.length];exact wG hl,fun p hp=>post.ok q2 (.cell hp) (c2.cell hp d2) (AD c2.len)⟩
end
inductive Src where
 | val (ds:List D)
 | own (k:Nat)
 | zip (a b:Src)
 deriving Inhabited
noncomputable def Src.get:Src->Ow->Nat->Option D
 | .val ds,_,i=>ds[i]?
 | .own k,O,i=>match O[k]? with
  | some ds=>ds[i]?
  | none=>none
 | .zip a b,O,i=>match a.get O i,b.get O i with
  | some x,some y=>some (.tup [x,y])
  | _,_=>none
noncomputable def Src.size:Src->Ow->Nat
 | .val ds,_=>ds.length
 | .own k,O=>match O[k]? with
  | some ds=>ds.length
  | none=>0
 | .zip a b,O=>min (a.size O) (b.size O)
abbrev DI:=Sg->Ow->R Src
noncomputable def nQ (K:ai) (J:It) (src:Src) (H:Hp) (hid μ:List af):Prop:=∀ oR H' g_ O',Mv H hid μ H' oR g_->nI K H' oR g_ O'->∀ i,
 match src.get O' i with
 | some d=>J.go i H'/\∀ x tO,J.yld i H' x tO->Ext H' g_ tO g_/\nI K tO oR g_ O'/\Dat K tO oR g_ d x
 | none=>J.stop i H'
noncomputable def rdI (Ex:Nat->Hp->Prop) (K:ai) (t:DI):TI:=fun d_ H Rr=>∃ hid μ σ O,nM K H hid μ σ d_/\nI K H hid μ O/\post Ex K (fun H' g_ s J=>nQ K J s H' hid g_) H hid μ (t σ O) Rr
structure uk (X:Cx) (Ex:Nat->Hp->Prop) (tg iter:aQ) (t:DI):Prop where
 out:PI X tg iter (rdI Ex X.K t)
theorem nQ.mv (h:nQ K J src H hid μ) (e:Mv H hid μ H1 u7 h_):nQ K J src H1 u7 h_:=
 fun oR H' g_ O' m c=>h oR H' g_ O' (e.trans m) c
theorem nQ.val (l:LstAt K H hid μ a vs) (q:nJ K H hid μ ds vs):nQ K (FO K a) (.val ds) H hid μ:=by
 intro oR H' g_ O' m c i
 have sq:=(l.mv m).sq
 have q':=q.mv m
 show match ds[i]? with|some d=>_|none=>_
 cases e:ds[i]? with
 | some d=>
  obtain ⟨v,h1,h2⟩:=q'.get e
  refine ⟨⟨vs,v,sq,h1⟩,fun x tO y=>?_⟩
  obtain ⟨rfl,y⟩:=y
  have:=y vs sq
  rw [h1] at this;cases this
  exact ⟨.refl,c,h2⟩
 | none=>
  refine ⟨vs,sq,?_⟩
  have:=aZ.mp e
  rw [<- q.length];exact this
theorem nQ.tup (l:TupAt K H hid μ a vs) (q:nJ K H hid μ ds vs):nQ K (JK K a) (.val ds) H hid μ:=by
 intro oR H' g_ O' m c i
 have sq:=(l.mv m).sq
 have q':=q.mv m
 show match ds[i]? with|some d=>_|none=>_
 cases e:ds[i]? with
 | some d=>
  obtain ⟨v,h1,h2⟩:=q'.get e
  refine ⟨⟨vs,v,sq,h1⟩,fun x tO y=>?_⟩
  obtain ⟨rfl,y⟩:=y
  have:=y vs sq
  rw [h1] at this;cases this
  exact ⟨.refl,c,h2⟩
 | none=>
  refine ⟨vs,sq,?_⟩
  have:=aZ.mp e
  rw [<- q.length];exact this
theorem nQ.own (hk:μ[k]?=some a):nQ K (FO K a) (.own k) H hid μ:=by
 intro oR H' g_ O' m c i
 obtain ⟨ν,rfl⟩:=m.pre
 have uh:(μ++ν)[k]?=some a:=by rw [aK (al.mp hk).1];exact hk
 obtain ⟨ds,vs,h1,h2,h3⟩:=c.at_ k a uh
 have sq:pV K H' a vs:=.of h2
 show match (match O'[k]? with|some ds=>ds[i]?|none=>none) with|some d=>_|none=>_
 rw [h1]
 show match ds[i]? with|some d=>_|none=>_
 cases e:ds[i]? with
 | some d=>
  obtain ⟨v,g1,g2⟩:=h3.get e
  refine ⟨⟨vs,v,sq,g1⟩,fun x tO y=>?_⟩
  obtain ⟨rfl,y⟩:=y
  have:=y vs sq
  rw [g1] at this;cases this
  exact ⟨.refl,c,g2⟩
 | none=>
  refine ⟨vs,sq,?_⟩
  have:=aZ.mp e
  rw [<- h3.length];exact this
noncomputable def FL (x:Str):It:=⟨fun i _=>i<x.cps.size,fun i H v H'=>H'=H/\∃ c,x.cps[i]?=some c/\v=.str ⟨#[c]⟩,fun i _=>x.cps.size<=i⟩
theorem nQ.str {K:ai} {H:Hp} {hid μ:List af} {cs:List Nat}:nQ K (FL ⟨cs.toArray⟩) (.val (cs.map fun c=>.str [c])) H hid μ:=by
 intro oR H' g_ O' m c i
 show match (cs.map fun c=>D.str [c])[i]? with|some d=>_|none=>_
 rw [bh]
 cases e:cs[i]? with
 | some d=>
  have hi:=(al.mp e).1
  refine ⟨by show i<cs.toArray.size;simpa using hi,fun x tO y=>?_⟩
  obtain ⟨rfl,z,h1,rfl⟩:=y
  have PK:cs.toArray[i]?=some z:=h1
  rw [iu,e] at PK
  cases PK
  refine ⟨.refl,c,?_⟩
  unfold Dat
  rfl
 | none=>
  have:=aZ.mp e
  show cs.toArray.size<=i
  simpa using this
theorem nQ.rng:nQ K (FN lo n) (.val ((bd n).map fun i=>.int (lo+(i:Nat)))) H hid μ:=by
 intro oR H' g_ O' m c i
 show match ((bd n).map fun i=>D.int (lo+(i:Nat)))[i]? with|some d=>_|none=>_
 rw [bh]
 by_cases hi:i<n
 ·rw [lq hi]
  refine ⟨hi,fun x tO y=>?_⟩
  obtain ⟨rfl,rfl⟩:=y
  exact ⟨.refl,c,q9⟩
 ·rw [aZ.mpr (by simpa using hi)]
  exact jG.mp hi
theorem Wh (x:Str) (t:Tok) (it:af):vS P w K tg (FL x) [it] it (fun i h=>h.IsStrIter it (strIterType x) x t i) where
 mem:=by simp
 obj:=fun i h st b hb=>by
  have e:b=it:=by simpa using hb
  subst e
  obtain ⟨o,e,c,d⟩:=st
  exact ⟨o,e,fun v z=>by rw [d] at z;cases z⟩
 keep:=fun i h h' st k=>by
  obtain ⟨o,e,c,d⟩:=st
  exact ⟨o,k it (by simp) o e,c,d⟩
 item:=by
  intro X hP hw hK hc i pins s σ H E I hf st hg
  subst hP hw hK
  obtain ⟨f0,f1,f2,f3,f4,f5⟩:=hf it (by simp)
  obtain ⟨ch,hx⟩:∃ c,x.cps[i]?=some c:=⟨_,aO (show i<x.cps.size from hg)⟩
  have go:∀ (ty:String),(["enumerate", "zip", "dict_itemiterator", "dict_reverseitemiterator", "odict_iterator", "itertools.zip_longest", "itertools.pairwise"].contains ty=false)->strIterType x=ty->∀ h',h'.IsStrIter it ty x t (i+1)->cM it s.heap h'->
    ∃ u,some (jc ⟨#[ch]⟩ s.toks)=some u/\am (av X.prog X.w) X.A (letOwnedTupleGo tg (.ref it) u) (fun _ s2=>∃ y H',Inv X pins σ H' s2/\RelV y u/\(FL x).yld i H y H'/\s2.heap.IsStrIter it (strIterType x) x t (i+1)/\∀ b∈[it],H' b=none) E { s with heap:=h',toks:=s.toks+1 }:=by
   intro ty hn et h' i_ sb
   have I1:Inv X pins σ H { s with heap:=h',toks:=s.toks+1 }:=I.turned (t':=s.toks+1) (fun b o hb e=>(sb.2 b hb).trans e) f0 f1 f3 f4 f5
   obtain ⟨o,e,c,d⟩:=id i_
   refine ⟨_,rfl,DW (s:={ s with heap:=h',toks:=s.toks+1 }) e c d hn ⟨.str ⟨#[ch]⟩,H,I1,⟨_,rfl⟩,⟨rfl,_,hx,rfl⟩,?_,fun b hb=>(hf b hb).1⟩⟩
   rw [et];exact i_
  unfold strIterType at st go ⊢
  split at st
  ·rename_i ha
   exact wpAny_pyNext_ascii_item st hx fun h' i_ sb=>go "str_ascii_iterator" (by decide) (by rw [if_pos ha]) h' i_ sb
  ·rename_i ha
   exact wpAny_pyNext_wide_item st hx fun h' i_ sb=>go "str_iterator" (by decide) (by rw [if_neg ha]) h' i_ sb
 done:=by
  intro X hP hw hK hc i pins s σ H E I hf st hg
  subst hP hw hK
  obtain ⟨f0,f1,f2,f3,f4,f5⟩:=hf it (by simp)
  have hx:x.cps[i]?=none:=by
   have:x.cps.size<=i:=hg
   simp [this]
  unfold strIterType at st
  split at st
  ·exact wpAny_pyNext_ascii_end (I.ok.hd hc) st hx fun h' eb=>⟨rfl,I.turned (t':=s.toks) (fun b o hb e=>eb b o hb e) f0 f1 f3 f4 f5⟩
  ·exact wpAny_pyNext_wide_end (I.ok.hd hc) st hx fun h' eb=>⟨rfl,I.turned (t':=s.toks) (fun b o hb e=>eb b o hb e) f0 f1 f3 f4 f5⟩
 self:=fun _ _ s _ _ st h=>by
  unfold strIterType at st
  split at st
  ·exact wpAny_pyIter_striter_ascii st h
  ·exact wpAny_pyIter_striter_wide st h
section
variable {X:Cx} {Ex:Nat->Hp->Prop} {pos:Pos} {a b c tg:aQ} {ta:DE}
noncomputable def Kx (O:Ow):D->R Src
 | .lst ds=>.ok (.val ds) O
 | .tup ds=>.ok (.val ds) O
 | .str cs=>.ok (.val (cs.map fun c=>.str [c])) O
 | .own k=>.ok (.own k) O
 | _=>.bad
def pD (t:DE):DI:=fun σ O=>(t σ O).bnd fun x O1=>Kx O1 x
theorem Vb (ha:PD X Ex a ta):uk X Ex tg a (pD ta):=by
 refine ⟨?_⟩
 rintro pins s d_ H Rr I ⟨hid,μ,σ,O,e1,c1,q⟩
 refine oV (ha.out pins s d_ H _ I (rd.go e1 c1 q (Q1:=fun v H1=>∃ hid h_ O1 d,nI X.K H1 hid h_ O1/\Dat X.K H1 hid h_ d v/\post Ex X.K (fun H' g_ s J=>nQ X.K J s H' hid g_) H1 hid h_ (Kx O1 d) Rr)
  fun d O1 v H1 h_ e2 x c r p=>⟨hid,h_,O1,d,c,r,p⟩)) fun u s1 ⟨v,H1,I1,ru,hid,h_,O1,d,c,r,p⟩=>?_
 have new:∀ (b:af),b∈[s1.heap.objs.size]->tu X pins H1 b:=fun b hb=>by
  have e:b=s1.heap.objs.size:=by simpa using hb
  subst e
  exact I1.fpOk (ay _) (I1.hok.fresh (ay _))
 cases d with
 | lst ds=>
  unfold Dat at r
  obtain ⟨a,vs,rfl,l,q⟩:=r
  cases ru
  obtain ⟨f_,rv,p1,hz⟩:=I1.list l.sq
  refine gZ p1.isList ?_
  exact ⟨s1.heap.objs.size,[s1.heap.objs.size],_,_,H1,rfl,I1.kept (t':=s1.toks) fun b o e=>ah _ e,Nv a _,⟨_,aE _ rfl,rfl,rfl⟩,new,post.here p c (.val l q)⟩
 | tup ds=>
  unfold Dat at r
  obtain ⟨a,vs,rfl,l,q⟩:=r
  cases ru
  obtain ⟨f_,rv,p1,hz⟩:=I1.tuple l.sq
  refine lN (show s1.heap.IsTuple a f_.toArray from p1) ?_
  exact ⟨s1.heap.objs.size,[s1.heap.objs.size],_,_,H1,rfl,I1.kept (t':=s1.toks) fun b o e=>ah _ e,Yl a _,⟨_,aE _ rfl,rfl,rfl⟩,new,post.here p c (.tup l q)⟩
 | str cs=>
  unfold Dat at r
  subst r
  obtain ⟨t,rfl⟩:=ru
  refine wpAny_pyIter_strU ?_
  exact ⟨s1.heap.objs.size,[s1.heap.objs.size],_,_,H1,rfl,I1.kept (t':=s1.toks) fun b o e=>ah _ e,Wh ⟨cs.toArray⟩ t _,⟨_,aE _ rfl,rfl,rfl⟩,new,post.here p c .str⟩
 | own k=>
  unfold Dat at r
  obtain ⟨a,rfl,hk⟩:=r
  cases ru
  obtain ⟨ds,vs,h1,h2,h3⟩:=c.at_ k a hk
  obtain ⟨f_,rv,p1,hz⟩:=I1.list (.of h2)
  refine gZ p1.isList ?_
  exact ⟨s1.heap.objs.size,[s1.heap.objs.size],_,_,H1,rfl,I1.kept (t':=s1.toks) fun b o e=>ah _ e,Nv a _,⟨_,aE _ rfl,rfl,rfl⟩,new,post.here p c (.own hk)⟩
 | _=>exact ak p
def K2 (lo hi:Int):Src:=.val ((bd (hi-lo).toNat).map fun i=>.int (lo+(i:Nat)))
noncomputable def rS (t:DA):DI:=fun σ O=>(t σ O).bnd fun xs O1=>match xs with
 | [.int j]=>if -1000000<=j/\j<=1000000 then .ok (K2 0 j) O1 else .bad
 | _=>.bad
theorem PI.imp (h:PI X tg iter t) (f:∀ σ H Q,t' σ H Q->t σ H Q):PI X tg iter t':=fun pins s σ H Q I q=>h pins s σ H Q I (f σ H Q q)
theorem tx (h:nJ K H hid μ [d] vs):∃ v,vs=[v]/\Dat K H hid μ d v:=by
 unfold nJ at h
 obtain ⟨v,r,rfl,h1,h2⟩:=h
 unfold nJ at h2
 subst h2
 exact ⟨v,rfl,h1⟩
theorem Bl (h:nJ K H hid μ [d,e] vs):∃ v w,vs=[v,w]/\Dat K H hid μ d v/\Dat K H hid μ e w:=by
 unfold nJ at h
 obtain ⟨v,r,rfl,h1,h2⟩:=h
 obtain ⟨w,rfl,h3⟩:=tx h2
 exact ⟨v,w,rfl,h1,h3⟩
theorem YQ (hg:Gl X "range") (hm:X.mg "range" = none) (ha:rZ X Ex [a] t) (hs:aD [a] X.env=[(false,eval a X.env)]:=by rfl):uk X Ex tg (.Call (.Name "range" p) [a] [] pos) (rS t):=
 uk.mk <| PI.imp (XX hg hm ha.out hs) fun d_ H Q ⟨hid,μ,σ,O,e1,c1,q⟩=>sY.go e1 c1 q fun d O1 vs H1 h_ e2 x c r p=>by
  split at p
  ·rename_i j
   obtain ⟨⟨h1,h2⟩,p⟩:=post.ite p
   obtain ⟨v,rfl,hv⟩:=tx r
   unfold Dat at hv;subst hv
   refine ⟨j,rfl,by omega,by omega,?_⟩
   have:=post.here p c (nQ.rng (lo:=0) (n:=(j-0).toNat))
   simpa using this
  ·exact ak p
end
inductive RS where
 | nx (σ:Sg) (O:Ow)
 | rt (d:D) (O:Ow)
 | bk (σ:Sg) (O:Ow)
 | ct (σ:Sg) (O:Ow)
 | exc (c:Nat) (O:Ow)
 | bad
 deriving Inhabited
abbrev DS:=Sg->Ow->RS
noncomputable def R.bnS {α:Type} (r:R α) (k:α->Ow->RS):RS:=match r with
 | .ok a O=>k a O
 | .exc c O=>.exc c O
 | .bad=>.bad
section
variable (Ex:Nat->Hp->Prop) (K:ai)
noncomputable def nN (H:Hp) (hid μ:List af) (r:RS) (E:vO):Prop:=match r with
 | .nx σ O=>∀ d_ H' g_,Ext H μ H' g_->nM K H' hid g_ σ d_->nI K H' hid g_ O->E.nx d_ H'
 | .rt d O=>∀ v H' g_,Ext H μ H' g_->nI K H' hid g_ O->Dat K H' hid g_ d v->E.rt v H'
 | .bk σ O=>∀ d_ H' g_,Ext H μ H' g_->nM K H' hid g_ σ d_->nI K H' hid g_ O->E.bk d_ H'
 | .ct σ O=>∀ d_ H' g_,Ext H μ H' g_->nM K H' hid g_ σ d_->nI K H' hid g_ O->E.ct d_ H'
 | .exc c O=>∀ H' g_,Ext H μ H' g_->nI K H' hid g_ O->Ex c H'
 | .bad=>False
noncomputable def HW (t:DS):TS:=fun E d_ H=>∃ hid μ σ O,nM K H hid μ σ d_/\nI K H hid μ O/\nN Ex K H hid μ (t σ O) E
end
structure rC (X:Cx) (Ex:Nat->Hp->Prop) (st:dh) (t:DS):Prop where
 out:PS X st (HW Ex X.K t)
structure sM (X:Cx) (Ex:Nat->Hp->Prop) (st:List dh) (t:DS):Prop where
 out:qY X st (HW Ex X.K t)
theorem PS.imp (h:PS X st t) (f:∀ E σ H,t' E σ H->t E σ H):PS X st t':=fun pins s σ H D I q=>h pins s σ H D I (f D σ H q)
theorem qY.imp (h:qY X st t) (f:∀ E σ H,t' E σ H->t E σ H):qY X st t':=fun pins s σ H D I q=>h pins s σ H D I (f D σ H q)
section
variable {Ex:Nat->Hp->Prop} {K:ai} {H H1:Hp} {hid μ h_:List af}
theorem nN.ext {r:RS} {E:vO} (h:nN Ex K H hid μ r E) (e:Ext H μ H1 h_):nN Ex K H1 hid h_ r E:=by
 cases r with
 | nx σ O=>exact fun d_ H' g_ e' a b=>h d_ H' g_ (e.trans e') a b
 | bk σ O=>exact fun d_ H' g_ e' a b=>h d_ H' g_ (e.trans e') a b
 | ct σ O=>exact fun d_ H' g_ e' a b=>h d_ H' g_ (e.trans e') a b
 | rt d O=>exact fun v H' g_ e' a b=>h v H' g_ (e.trans e') a b
 | exc c O=>exact fun H' g_ e' a=>h H' g_ (e.trans e') a
 | bad=>exact h
theorem nN.bnS {α β:Type} {rel:Hp->List af->α->β->Prop} {r:R α} {k:α->Ow->RS} {E:vO} {Q1:β->Hp->Prop} (h:nN Ex K H hid μ (r.bnS k) E)
  (hk:∀ d O1 v H1 h_,Ext H μ H1 h_->nI K H1 hid h_ O1->rel H1 h_ d v->nN Ex K H1 hid h_ (k d O1) E->Q1 v H1):post Ex K rel H hid μ r Q1:=by
 cases r with
 | ok d O'=>exact fun v H' g_ e c q=>hk d O' v H' g_ e c q (nN.ext (show nN Ex K H hid μ (k d O') E from h) e)
 | exc c O'=>exact h
 | bad=>exact h
end
section
variable {X:Cx} {Ex:Nat->Hp->Prop} {pos:Pos} {a b c e tg:aQ} {tb tc te:DE}
theorem xU {st:dh} {t:TS} {t':DS} (h:PS X st t) (f:∀ hid μ σ O E d_ H,nM X.K H hid μ σ d_->nI X.K H hid μ O->nN Ex X.K H hid μ (t' σ O) E->t E d_ H):rC X Ex st t':=
 ⟨PS.imp h fun E d_ H ⟨hid,μ,σ,O,e1,c1,q⟩=>f hid μ σ O E d_ H e1 c1 q⟩
theorem GO (h:qY X st t) (f:∀ hid μ σ O E d_ H,nM X.K H hid μ σ d_->nI X.K H hid μ O->nN Ex X.K H hid μ (t' σ O) E->t E d_ H):sM X Ex st t':=
 ⟨qY.imp h fun E d_ H ⟨hid,μ,σ,O,e1,c1,q⟩=>f hid μ σ O E d_ H e1 c1 q⟩
theorem rd.goS {t:DE} {hid μ:List af} {σ:Sg} {O:Ow} {d_:St} {H:Hp} {Q1:VK} {k:D->Ow->RS} {E:vO} (e1:nM X.K H hid μ σ d_) (c1:nI X.K H hid μ O)
  (q:nN Ex X.K H hid μ ((t σ O).bnS k) E)
  (f:∀ d O1 v H1 h_,nM X.K H1 hid h_ σ d_->Ext H μ H1 h_->nI X.K H1 hid h_ O1->Dat X.K H1 hid h_ d v->nN Ex X.K H1 hid h_ (k d O1) E->Q1 v H1):rd Ex X.K t d_ H Q1:=
 ⟨hid,μ,σ,O,e1,c1,nN.bnS q fun d O1 v H1 h_ x c r p=>f d O1 v H1 h_ (e1.ext x) x c r p⟩
theorem vD.goS {t:DT} {hid μ:List af} {σ:Sg} {O:Ow} {d_:St} {H:Hp} {Q1:Bool->Hp->Prop} {k:Bool->Ow->RS} {E:vO} (e1:nM X.K H hid μ σ d_) (c1:nI X.K H hid μ O)
  (q:nN Ex X.K H hid μ ((t σ O).bnS k) E)
  (f:∀ v O1 H1 h_,nM X.K H1 hid h_ σ d_->Ext H μ H1 h_->nI X.K H1 hid h_ O1->nN Ex X.K H1 hid h_ (k v O1) E->Q1 v H1):vD Ex X.K t d_ H Q1:=
 ⟨hid,μ,σ,O,e1,c1,nN.bnS q fun d O1 v H1 h_ x c r p=>by
  have r:d=v:=r
  subst r
  exact f d O1 H1 h_ (e1.ext x) x c p⟩
def pC:DS:=fun σ O=>.nx σ O
def m_ (t u:DS):DS:=fun σ O=>match t σ O with
 | .nx σ' O'=>u σ' O'
 | r=>r
theorem Wa:sM X Ex [] pC:=GO L4 fun hid μ σ O E d_ H e1 c1 q=>q d_ H μ .refl e1 c1
theorem ph {st:dh} {pA:List dh} {t u:DS} (h1:rC X Ex st t) (h2:sM X Ex pA u):sM X Ex (st::pA) (m_ t u):=
 GO (MC h1.out h2.out) fun hid μ σ O E d_ H e1 c1 q=>by
  refine ⟨hid,μ,σ,O,e1,c1,?_⟩
  unfold m_ at q
  cases ht:t σ O with
  | nx σ' O'=>
   rw [ht] at q
   exact fun pe H' g_ e2 a b=>⟨hid,g_,σ',O',a,b,q.ext e2⟩
  | rt d O'=>rw [ht] at q;exact q
  | bk σ' O'=>rw [ht] at q;exact q
  | ct σ' O'=>rw [ht] at q;exact q
  | exc c O'=>rw [ht] at q;exact q
  | bad=>rw [ht] at q;exact q
theorem qd (h1:rC X Ex st t):sM X Ex [st] t:=⟨Uj h1.out⟩
def oS (t:DE):DS:=fun σ O=>(t σ O).bnS fun d O1=>.rt d O1
theorem Vs (he:PD X Ex e te):rC X Ex (.Return (some e) pos) (oS te):=
 xU (Sa he.out) fun hid μ σ O E d_ H e1 c1 q=>rd.goS e1 c1 q fun d O1 v H1 h_ e2 x c r p=>p v H1 h_ .refl c r
noncomputable def pj (c:DT) (t u:DS):DS:=fun σ O=>(c σ O).bnS fun b O1=>if b=true then t σ O1 else u σ O1
theorem S7 {c:aQ} {x y:List dh} {tc:DT} {t u:DS} (hc:qE X Ex c tc) (ha:sM X Ex x t) (hb:sM X Ex y u):rC X Ex (.If c x y pos) (pj tc t u):=
 xU (Rj hc.out ha.out hb.out) fun hid μ σ O E d_ H e1 c1 q=>vD.goS e1 c1 q fun k O1 H1 h_ e2 x c p=>by
  cases k with
  | true=>rw [if_pos rfl];exact ⟨hid,h_,σ,O1,e2,c,p⟩
  | false=>rw [if_neg bQ];exact ⟨hid,h_,σ,O1,e2,c,p⟩
def DG:DS:=fun _ _=>.bad
theorem G3:sM X Ex st DG:=GO X3 fun hid μ σ O E d_ H e1 c1 q=>q
def rm (t:DE):DS:=fun σ O=>(t σ O).bnS fun _ O1=>.nx σ O1
theorem Wf (he:PD X Ex e te) (hs:swapsWith e none pos.line X.env=pure false:=by rfl):rC X Ex (.Expr e pos) (rm te):=
 xU (Vv he.out hs) fun hid μ σ O E d_ H e1 c1 q=>rd.goS e1 c1 q fun d O1 v H1 h_ e2 x c r p=>p d_ H1 h_ .refl e2 c
def oX (i:Nat) (t:DE):DS:=fun σ O=>(t σ O).bnS fun d O1=>.nx (σ.set i (some d)) O1
theorem Mp (hN:X.N.Nodup) (hi:X.N[i]?=some x) (hx:Loc X.env.scope x) (he:PD X Ex e te) (hs:swapsWith e (some (.Name x pos')) pos.line X.env=pure false:=by rfl)
  (hf:X.fn x=true\/X.env.scope.names.lookup x=some .local:=by first|exact .inl rfl|exact .inr rfl):rC X Ex (.Assign [.Name x pos'] e pos) (oX i te):=
 xU (K_ hN hi hx he.out hs hf) fun hid μ σ O E d_ H e1 c1 q=>rd.goS e1 c1 q fun d O1 v H1 h_ e2 x c r p=>p (d_.set i (some v)) H1 h_ .refl (e2.set r i) c
inductive Tg where
 | one (i:Nat)
 | two (i j:Nat)
noncomputable def Tg.put:Tg->D->Sg->Option Sg
 | .one i,d,σ=>some (σ.set i (some d))
 | .two i j,d,σ=>match d with
  | .tup [x,y]=>some ((σ.set i (some x)).set j (some y))
  | _=>none
noncomputable def Tg.rd (K:ai):Tg->TG
 | .one i=>Be i
 | .two i j=>J6 K 2 (Gf (Be i) (Gf (Be j) J5))
def Tg.slots:Tg->List Nat
 | .one i=>[i]
 | .two i j=>[i,j]
theorem Tg.ok2 (g:Tg) (e1:nM K H hid μ σ d_) (q:Dat K H hid μ d v) (h:g.put d σ=some σ')
  (k:∀ pe,nM K H hid μ σ' pe->(∀ i,i∉g.slots->pe[i]?=d_[i]?)->Q pe H):g.rd K v d_ H Q:=by
 cases g with
 | one i=>
  cases h
  exact k _ (e1.set q i) fun j hj=>a8 (fun e=>hj (by simp [Tg.slots,e]))
 | two i j=>
  unfold Tg.put at h
  dsimp only at h
  split at h
  ·rename_i x y
   cases h
   unfold Dat at q
   obtain ⟨a,vs,rfl,l,q⟩:=q
   obtain ⟨u,w,rfl,q1,q2⟩:=Bl q
   refine ⟨a,[u,w],rfl,l.sq,rfl,u,[w],rfl,w,[],rfl,rfl,k _ ((e1.set q1 i).set q2 j) fun m hm=>?_⟩
   rw [a8 (fun e=>hm (by simp [Tg.slots,e])),a8 (fun e=>hm (by simp [Tg.slots,e]))]
  ·cases h
theorem Tg.ok {K:ai} {H:Hp} {hid μ:List af} {σ σ':Sg} {d_:St} {d:D} {v:V} {Q:St->Hp->Prop} (g:Tg) (e1:nM K H hid μ σ d_) (q:Dat K H hid μ d v) (h:g.put d σ=some σ') (k:∀ pe,nM K H hid μ σ' pe->Q pe H):g.rd K v d_ H Q:=by
 cases g with
 | one i=>cases h;exact k _ (e1.set q i)
 | two i j=>
  unfold Tg.put at h
  dsimp only at h
  split at h
  ·rename_i x y
   cases h
   unfold Dat at q
   obtain ⟨a,vs,rfl,l,q⟩:=q
   obtain ⟨u,w,rfl,q1,q2⟩:=Bl q
   exact ⟨a,[u,w],rfl,l.sq,rfl,u,[w],rfl,w,[],rfl,rfl,k _ ((e1.set q1 i).set q2 j)⟩
  ·cases h
theorem TQ (hN:X.N.Nodup) (hi:X.N[i]?=some x) (hx:Loc X.env.scope x) (hf:X.fn x=true\/X.env.scope.names.lookup x=some .local:=by first|exact .inl rfl|exact .inr rfl|assumption):PG X (.Name x pos) ((Tg.one i).rd X.K):=Ep hN hi hx hf
noncomputable def r8 (src:Src) (step:D->Sg->Ow->RS):Nat->Nat->Sg->Ow->RS
 | 0,i,σ,O=>match src.get O i with
  | none=>.nx σ O
  | some _=>.bad
 | f+1,i,σ,O=>match src.get O i with
  | none=>.nx σ O
  | some d=>match step d σ O with
   | .nx σ' O'=>r8 src step f (i+1) σ' O'
   | .ct σ' O'=>r8 src step f (i+1) σ' O'
   | .bk σ' O'=>.nx σ' O'
   | r=>r
noncomputable def r6 (it:DI) (g:Tg) (body:DS):DS:=fun σ O=>(it σ O).bnS fun src O1=>r8 src (fun d σ O=>match g.put d σ with|some σ'=>body σ' O|none=>.bad) (src.size O1) 0 σ O1
theorem UH {iter:aQ} {body:List dh} {it:DI} {g:Tg} {tb:DS} (hp:j0 (av X.prog X.w) X.A X.env X.xe) (hc:X.calm=true) (hi:uk X Ex tg iter it) (hg:PG X tg (g.rd X.K)) (hb:sM X Ex body tb)
  (hs:∀ x,dD iter X.env x=pure x:=by intro _;rfl):rC X Ex (.For tg iter body [] pos) (r6 it g tb):=
 xU (RH hp hc hi.out hg hb.out hs) fun hid μ σ O E d_ H e1 c1 q=>by
  refine ⟨hid,μ,σ,O,e1,c1,nN.bnS q fun src O1 J H1 h_ x1 c2 sa p=>?_⟩
  generalize rz:(fun (d:D) (σ:Sg) (O:Ow)=>match g.put d σ with|some σ'=>tb σ' O|none=>RS.bad)=step at p
  refine ⟨fun i m pe H'=>∃ g_ σ' O',Ext H1 h_ H' g_/\nM X.K H' hid g_ σ' pe/\nI X.K H' hid g_ O'/\nN Ex X.K H' hid g_ (r8 src step m i σ' O') E,⟨_,h_,σ,O1,.refl,e1.ext x1,c2,p⟩,?_⟩
  rintro i m A6 H2 ⟨pd,rD,O2,x2,e2,c3,p2⟩
  have yf:=sa hid H2 pd O2 x2.mv c3 i
  cases qD:src.get O2 i with
  | none=>
   rw [qD] at yf
   refine .inl ⟨yf,?_⟩
   cases m with
   | zero=>
    have p3:nN Ex X.K H2 hid pd (match src.get O2 i with|none=>.nx rD O2|some _=>.bad) E:=p2
    rw [qD] at p3
    exact p3 A6 H2 pd .refl e2 c3
   | succ f=>
    unfold r8 at p2
    rw [qD] at p2
    exact p2 A6 H2 pd .refl e2 c3
  | some d=>
   rw [qD] at yf
   obtain ⟨go,yl⟩:=yf
   cases m with
   | zero=>
    have p3:nN Ex X.K H2 hid pd (match src.get O2 i with|none=>.nx rD O2|some _=>.bad) E:=p2
    rw [qD] at p3
    exact ak p3
   | succ f=>
    refine .inr ⟨go,fun pe H'=>∃ g_ σ' O',Ext H1 h_ H' g_/\nM X.K H' hid g_ σ' pe/\nI X.K H' hid g_ O'/\nN Ex X.K H' hid g_ (r8 src step f (i+1) σ' O') E,fun σ' H' h=>⟨f,cD f,h⟩,fun v H3 y=>?_⟩
    obtain ⟨x3,c4,r⟩:=yl v H3 y
    unfold r8 at p2
    rw [qD] at p2
    have p3:nN Ex X.K H3 hid pd (match step d rD O2 with
     | .nx σ' O'=>r8 src step f (i+1) σ' O'
     | .ct σ' O'=>r8 src step f (i+1) σ' O'
     | .bk σ' O'=>.nx σ' O'
     | r=>r) E:=nN.ext p2 x3
    cases ud:g.put d rD with
    | none=>
     rw [<- rz] at p3
     simp only [ud] at p3
     exact ak p3
    | some qT=>
     refine Tg.ok g (e2.ext x3) r ud fun Qc e3=>⟨hid,pd,qT,O2,e3,c4,?_⟩
     have zj:step d rD O2=tb qT O2:=by rw [<- rz];simp only [ud]
     rw [zj] at p3
     have x4:=x2.trans x3
     cases ht:tb qT O2 with
     | nx Dy O4=>rw [ht] at p3;exact fun pe H' g_ e5 a b=>⟨g_,Dy,O4,x4.trans e5,a,b,p3.ext e5⟩
     | ct Dy O4=>rw [ht] at p3;exact fun pe H' g_ e5 a b=>⟨g_,Dy,O4,x4.trans e5,a,b,p3.ext e5⟩
     | bk Dy O4=>rw [ht] at p3;exact p3
     | rt d4 O4=>rw [ht] at p3;exact p3
     | exc c4 O4=>rw [ht] at p3;exact p3
     | bad=>rw [ht] at p3;exact p3
end
structure Cl where
 it:DI
 g:Tg
 ifs:List DT
def pS:List Cl->List Nat
 | []=>[]
 | c::cs=>c.g.slots++pS cs
noncomputable def pz {α:Type} (σ:List (Option α)):List Nat->List (Option α)
 | []=>σ
 | i::r=>pz (σ.set i none) r
noncomputable def sJ:List DT->DT
 | []=>fun _ O=>.ok true O
 | c::cs=>fun σ O=>(c σ O).bnd fun b O1=>if b=true then sJ cs σ O1 else .ok false O1
noncomputable def qc (src:Src) (step:D->Ow->List D->R (List D)):Nat->Nat->Ow->List D->R (List D)
 | 0,i,O,acc=>match src.get O i with
  | none=>.ok acc O
  | some _=>.bad
 | f+1,i,O,acc=>match src.get O i with
  | none=>.ok acc O
  | some d=>(step d O acc).bnd fun pN O'=>qc src step f (i+1) O' pN
noncomputable def sO:List Cl->DE->Sg->Ow->List D->R (List D)
 | [],elt,σ,O,acc=>(elt σ O).bnd fun v O1=>if acc.length<100000 then .ok (acc++[v]) O1 else .bad
 | c::cs,elt,σ,O,acc=>(c.it σ O).bnd fun src O1=>qc src (fun d O2 acc=>match c.g.put d (pz σ (pS (c::cs))) with
   | some pI=>(sJ c.ifs pI O2).bnd fun b O3=>if b=true then sO cs elt pI O3 acc else .ok acc O3
   | none=>.bad) (src.size O1) 0 O1 acc
noncomputable def wW (c:Cl) (cs:List Cl) (elt:DE) (σ:Sg):D->Ow->List D->R (List D):=fun d O2 acc=>match c.g.put d (pz σ (pS (c::cs))) with
   | some pI=>(sJ c.ifs pI O2).bnd fun b O3=>if b=true then sO cs elt pI O3 acc else .ok acc O3
   | none=>.bad
abbrev Em:=Sg->Ow->List D->R (List D)
noncomputable def xE (te:DE):Em:=fun σ O acc=>(te σ O).bnd fun v O1=>if acc.length<100000 then .ok (acc++[v]) O1 else .bad
noncomputable def t8:List Cl->Em->Sg->Ow->List D->R (List D)
 | [],em,σ,O,acc=>em σ O acc
 | c::cs,em,σ,O,acc=>(c.it σ O).bnd fun src O1=>qc src (fun d O2 acc=>match c.g.put d (pz σ (pS (c::cs))) with
   | some pI=>(sJ c.ifs pI O2).bnd fun b O3=>if b=true then t8 cs em pI O3 acc else .ok acc O3
   | none=>.bad) (src.size O1) 0 O1 acc
noncomputable def tz (c:Cl) (cs:List Cl) (em:Em) (σ:Sg):D->Ow->List D->R (List D):=fun d O2 acc=>match c.g.put d (pz σ (pS (c::cs))) with
   | some pI=>(sJ c.ifs pI O2).bnd fun b O3=>if b=true then t8 cs em pI O3 acc else .ok acc O3
   | none=>.bad
theorem Ml (te:DE):∀ cls:List Cl,t8 cls (xE te)=sO cls te
 | []=>by funext σ O acc;unfold t8 sO xE;rfl
 | c::cs=>by funext σ O acc;unfold t8 sO;rw [Ml te cs]
theorem VZ (c:Cl) (cs:List Cl) (te:DE):tz c cs (xE te)=wW c cs te:=by
 funext σ d O acc;unfold tz wW;rw [Ml te cs]
theorem Bx {α:Type}:∀ (l:List Nat) (σ:List (Option α)),(pz σ l).length=σ.length
 | [],_=>rfl
 | i::r,σ=>by unfold pz;rw [Bx r];simp
theorem GK {α:Type}:∀ (l:List Nat) (σ:List (Option α)) (i:Nat),i∉l->(pz σ l)[i]?=σ[i]?
 | [],σ,i,h=>rfl
 | j::r,σ,i,h=>by
  unfold pz
  rw [GK r _ i fun z=>h (aq _ z),a8 fun z=>h (by simp [z])]
theorem Ek {α:Type}:∀ (l:List Nat) (σ:List (Option α)) (i:Nat) (d:α),(pz σ l)[i]?=some (some d)->σ[i]?=some (some d)/\i∉l
 | [],σ,i,d,h=>⟨h,by simp⟩
 | j::r,σ,i,d,h=>by
  unfold pz at h
  obtain ⟨h1,h2⟩:=Ek r _ i d h
  by_cases e:j=i
  ·subst e
   by_cases hl:j<σ.length
   ·rw [ba hl] at h1;cases h1
   ·rw [aZ.mpr (by simp;omega)] at h1;cases h1
  ·rw [a8 e] at h1
   exact ⟨h1,by simp [h2];exact fun z=>e z.symm⟩
structure Ea (A:af) (H:Hp) (μ:List af) (H':Hp) (g_:List af):Prop where
 pre:∃ ν,g_=μ++ν
 kept:∀ b o,H b=some o->b∉μ->b≠A->zU o->H' b=some o
 fresh:∀ b∈g_,b∈μ\/H b=none
 there:∀ b,H b≠none->H' b≠none
 tab:∀ P,nX H P->nX H' P
section
variable {K:ai} {A:af} {H H' H1 H2:Hp} {hid μ g_ h_ pd:List af}
theorem Ext.ea (e:Ext H μ H' g_):Ea A H μ H' g_:=⟨e.pre,fun b o h n _ ht=>e.kept b o h n ht,e.fresh,e.there,e.tab⟩
theorem Ea.refl:Ea A H μ H μ:=Ext.refl.ea
theorem Ea.trans (a:Ea A H μ H1 h_) (b:Ea A H1 h_ H2 pd):Ea A H μ H2 pd:=by
 have nn:∀ c,H1 c=none->H c=none:=fun c h=>by
  cases e:H c with
  | none=>rfl
  | some o=>exact absurd h (a.there c (by rw [e];simp))
 refine ⟨?_,fun c o h n1 n2 ht=>?_,fun c h=>?_,fun c h=>b.there c (a.there c h),fun P t=>b.tab P (a.tab P t)⟩
 ·obtain ⟨x,rfl⟩:=a.pre
  obtain ⟨y,rfl⟩:=b.pre
  exact ⟨x++y,by simp⟩
 ·refine b.kept c o (a.kept c o h n1 n2 ht) (fun m=>?_) n2 ht
  rcases a.fresh c m with z|z
  ·exact n1 z
  ·rw [z] at h;cases h
 ·rcases b.fresh c h with z|z
  ·exact a.fresh c z
  ·exact .inr (nn c z)
theorem Ea.mv (e:Ea A H μ H' g_):Mv H (A::hid) μ H' (A::hid) g_:=⟨e.pre,fun b o h n1 n2 ht=>e.kept b o h n1 (fun z=>n2 (by simp [z])) ht,e.fresh,fun _ m=>.inl m,e.there,e.tab⟩
theorem Ea.putX (ht:∀ P,nX H P->nX (upd H A o) P):Ea A H μ (upd H A o) μ:=⟨⟨[],by simp⟩,fun b u h _ n _=>by rw [o7 n];exact h,fun _ m=>.inl m,vC,ht⟩
theorem nI.putX (c:nI K H (A::hid) μ O) (ht:∀ P,nX H P->nX (upd H A o) P):nI K (upd H A o) (A::hid) μ O:=by
 refine ⟨c.len,c.nd,c.nh,fun a m=>vC a (c.ht a m),fun k a e=>?_⟩
 obtain ⟨ds,vs,h1,h2,h3⟩:=c.at_ k a e
 have ne:a≠A:=fun z=>c.nh a (aC e) (by simp [z])
 exact ⟨ds,vs,h1,by rw [o7 ne];exact h2,h3.mv (Ea.putX (A:=A) ht).mv⟩
theorem Ea.put {o:HO} (hl:∃ vs,H A=some (.lst vs)):Ea A H μ (upd H A o) μ:=.putX fun _ t=>t.upd (.inr hl)
theorem nI.putA {o:HO} {O:Ow} (c:nI K H (A::hid) μ O) (hl:∃ vs,H A=some (.lst vs)):nI K (upd H A o) (A::hid) μ O:=c.putX fun _ t=>t.upd (.inr hl)
theorem nI.unhide (c:nI K H (A::hid) μ O):nI K H hid μ O:=
 ⟨c.len,c.nd,fun a m z=>c.nh a m (aq _ z),fun a m=>c.ht a (aq _ m),fun k a e=>
  let ⟨ds,vs,h1,h2,h3⟩:=c.at_ k a e
  ⟨ds,vs,h1,h2,h3.mv .unhide⟩⟩
end
abbrev rR:Nat->Hp->Prop:=fun _ _=>False
inductive n9 (X:Cx):List cq->List Cl->Prop where
 | nil:n9 X [] []
 | cons {tg iter:aQ} {ifs:List aQ} {gs:List cq} {c:Cl} {cs:List Cl} (hi:uk X rR tg iter c.it) (hs:∀ x,dD iter X.env x=pure x) (hg:PG X tg (c.g.rd X.K))
   (hf:cS (fun e t=>qE X rR e t) ifs c.ifs) (r:n9 X gs cs):n9 X (⟨tg,iter,ifs,0⟩::gs) (c::cs)
section
variable {X:Cx}
theorem AA {α:Type} {M:iC} {A:aW} {t:Sem α} {Q Q':α->ag->Prop} {E:ae->ag->Prop} {s:ag} (hx:X.xe=fun _ _=>False) (h:am M A t Q X.xe s) (k:∀ a s',Q a s'->Q' a s'):am M A t Q' E s:=
 dF h k fun e s' z=>by rw [hx] at z;exact z.elim
theorem NP {env:Env} {M:iC} {A:aW} {E:ae->ag->Prop} {s:ag} {Q:Bool->ag->Prop} (h:Q false s):∀ (ifs:List aQ),am M A (forIn ifs false fun c r=>if r=true then do let ok <- isTrue c env (eval c env);pure (fR ok) else pure (fR r)) Q E s
 | []=>aj h
 | c::cs=>by
  simp only [gA,ef,if_false]
  exact aa (aj (NP h cs))
theorem Mt {E:ae->ag->Prop} {hid:List af} (hx:X.xe=fun _ _=>False):∀ {ifs:List aQ} {ts:List DT},cS (fun e t=>qE X rR e t) ifs ts->∀ (pins:List (af×Obj)) (s:ag) (d_:St) (H:Hp) (μ:List af) (σ:Sg) (O:Ow) (Q:Bool->ag->Prop),
  L2.Inv X pins d_ H s->nM X.K H hid μ σ d_->nI X.K H hid μ O->
  vt rR X.K H hid μ (sJ ts σ O) (fun b H'=>∀ s',L2.Inv X pins d_ H' s'->Q b s')->
  am (av X.prog X.w) X.A (forIn ifs true fun c r=>if r=true then do let ok <- isTrue c X.env (eval c X.env);pure (fR ok) else pure (fR r)) Q E s
 | _,_,.nil,pins,s,d_,H,μ,σ,O,Q,I,e1,c1,q=>aj (post.here (v:=true) q c1 rfl s I)
 | _::ifs,_::ts,.cons hc hr,pins,s,d_,H,μ,σ,O,Q,I,e1,c1,q=>by
  simp only [gA,if_true]
  refine aa (aa (AA hx (hc.out pins s d_ H _ I (vD.go e1 c1 q (Q1:=fun b H1=>∃ h_ O1,nM X.K H1 hid h_ σ d_/\nI X.K H1 hid h_ O1/\vt rR X.K H1 hid h_ (if b=true then sJ ts σ O1 else .ok false O1) (fun b H'=>∀ s',L2.Inv X pins d_ H' s'->Q b s'))
   fun b O1 H1 h_ e2 x c p=>⟨h_,O1,e2,c,p⟩)) fun b s1 ⟨H1,I1,h_,O1,e2,c2,p⟩=>aj ?_))
  show am _ _ (forIn ifs b _) _ _ _
  cases b with
  | true=>rw [if_pos rfl] at p;exact Mt hx hr pins s1 d_ H1 h_ σ O1 Q I1 e2 c2 p
  | false=>rw [if_neg bQ] at p;exact NP (post.here (v:=false) p c2 rfl s1 I1) ifs
structure uL where
 ex:List cq->cF->Pos->aQ
 emit:ae->Env->Sem Unit
 new:Sem ae
 ho:aH->aP->af->HO
 G:ai->aH->aP->af->List af->Hp->List af->List D->Prop
structure Bs (X:Cx) (C:uL) (A:af) (hid:List af) (pins:List (af×Obj)) (s:ag) (d_:St) (H:Hp) (μ:List af) (σ:Sg) (O:Ow) (acc:List D):Prop where
 inv:L2.Inv X pins d_ H s
 env:nM X.K H (A::hid) μ σ d_
 cells:nI X.K H (A::hid) μ O
 grown:C.G X.K X.prog X.w A hid H μ acc
noncomputable def KG (X:Cx) (C:uL) (A:af) (hid:List af) (pins:List (af×Obj)) (d_:St) (H:Hp) (μ:List af) (sl:List Nat) (acc:List D) (O:Ow) (Q:ag->Prop):Prop:=
 ∀ s' pe H' g_,L2.Inv X pins pe H' s'->Ea A H μ H' g_->nI X.K H' (A::hid) g_ O->C.G X.K X.prog X.w A hid H' g_ acc->pe.length=d_.length->(∀ i,i∉sl->pe[i]?=d_[i]?)->Q s'
noncomputable def xS (X:Cx) (C:uL) (A:af) (hid:List af) (pins:List (af×Obj)) (d_:St) (H:Hp) (μ:List af) (sl:List Nat) (r:R (List D)) (Q:ag->Prop):Prop:=match r with
 | .ok acc O=>KG X C A hid pins d_ H μ sl acc O Q
 | _=>False
noncomputable def Bg (e:aQ) (em:ae->Env->Sem Unit) (gens:List cq) (k:Nat) (acc:ae) (env:Env):Sem Unit:=match gens[k]? with
 | some g'=>do
  let x <- eval g'.iter env
  standAt g'.iter.pos
  let x <- if g'.is_async !=0 then foldedIterable g'.iter x else dD g'.iter env x
  let _ <- runOwn (.compStart e k (<- holding [x] (if g'.is_async !=0 then asyncIter x else pyIter x)) acc env) env
 | none=>em acc env
noncomputable def Tx (C:uL):Prop:=∀ (gens:List cq) (scope:cF) (pos:Pos) (k:Nat) (it acc:ae) (env:Env) {tg iter:aQ} {ifs:List aQ},gens[k]?=some ⟨tg,iter,ifs,0⟩->
  (gens[k+1]?=none \/ ∃ AK sG uZ,gens[k+1]?=some ⟨AK,sG,uZ,0⟩)->
  compTurn (C.ex gens scope pos) k it acc env=(do
   standAt iter.pos
   match <- pyNext it with
   | none=>pure (.done .next)
   | some v=>
    letOwnedTupleGo tg it v
    assign tg env v
    let mut ok:=true
    for c in ifs do
     if ok then ok <- isTrue c env (eval c env)
    if ok then Bg (C.ex gens scope pos) C.emit gens (k+1) acc env
    again (.compLoop (C.ex gens scope pos) k it acc env))
structure Af (C:uL):Prop where
 cl:∀ gens scope pos,clausesOf (C.ex gens scope pos)=gens
 turn:Tx C
 keep:∀ {K P w A hid H μ acc H' g_},C.G K P w A hid H μ acc->A∉μ->Ext H μ H' g_->C.G K P w A hid H' g_ acc
 new:∀ {P:aH} {w:aP} {A:aW} {E:ae->ag->Prop} {Q:ae->ag->Prop} {s:ag},(∀ o:Obj,o.isFreed=false->(∀ (H:Hp) (h:aT) (a:af),sysModules<a->h.get? a=some o->nV P w (upd H a (C.ho P w a)) h a (C.ho P w a))->Q (.ref s.heap.objs.size) { s with heap:=s.heap.push o })->am (av P w) A C.new Q E s
 g0:∀ {K P w a hid H μ},C.G K P w a hid (upd H a (C.ho P w a)) μ []
 q1:∀ gens scope pos k it acc env,(lg (C.ex gens scope pos) k it acc env).quiet=true
 u1:∀ (A:aW) gens scope pos k it acc env,A.under (lg (C.ex gens scope pos) k it acc env)=A
 d1:∀ P w gens scope pos k it acc env,(av P w).den (lg (C.ex gens scope pos) k it acc env)=(compTurn (C.ex gens scope pos) k it acc env).onRaise (fun x=>do noteFrame x env;theTreesLotGoes x)
 u2:∀ (A:aW) gens scope pos k it acc env,A.under (mR (C.ex gens scope pos) k it acc env)=A
 d2:∀ P w gens scope pos k it acc env,(av P w).den (mR (C.ex gens scope pos) k it acc env)=(compStart (C.ex gens scope pos) k it acc env).onRaise (fun x=>do noteFrame x env;standAt theWindowsPlace)
noncomputable def yG (elt:aQ):uL where
 ex:=fun gens scope pos=>.ListComp elt gens scope pos
 emit:=fun acc env=>do let _ <- call (.builtin "list.append") [acc,<- eval elt env]
 new:=newList []
 ho:=fun _ _ _=>.lst []
 G:=fun K _ _ A hid H μ acc=>∃ vs,H A=some (.lst vs)/\nJ K H (A::hid) μ acc vs
theorem MT (elt:aQ):Af (yG elt) where
 cl:=fun _ _ _=>rfl
 turn:=fun gens scope pos k it acc env tg iter ifs hk hn=>by
  show compTurn (.ListComp elt gens scope pos) k it acc env=_
  unfold compTurn Bg
  rcases hn with hn|⟨AK,sG,uZ,hn⟩
  ·simp only [hk,hn]
   rfl
  ·simp only [hk,hn,bne_self_eq_false,ef,if_false,bind_assoc,pure_bind]
   first|rfl|congr 1
 keep:=fun ⟨vs,hA,dA⟩ nA x=>⟨vs,x.keep _ _ hA nA,dA.ext x⟩
 new:=fun h=>bt (h _ rfl fun H h a _ e=>⟨cz _,[],0,.nil,e⟩)
 g0:=⟨[],qR,.nil⟩
 q1:=fun _ _ _ _ _ _ _=>rfl
 u1:=fun _ _ _ _ _ _ _ _=>rfl
 d1:=fun _ _ _ _ _ _ _ _ _=>rfl
 u2:=fun _ _ _ _ _ _ _ _=>rfl
 d2:=fun _ _ _ _ _ _ _ _ _=>rfl
noncomputable def OJ (Z:St->Hp->List af->Prop) (K:ai) (hid:List af) (t:DE):TE:=fun d_ H Q=>∃ μ σ O,Z d_ H μ/\nM K H hid μ σ d_/\nI K H hid μ O/\p9 rR K H hid μ (t σ O) Q
theorem PD.z {X:Cx} {Z:St->Hp->List af->Prop} {hid:List af} {e:aQ} {t:DE} (h:PD X rR e t):PE X e (OJ Z X.K hid t):=fun pins s d_ H Q I ⟨μ,σ,O,_,e1,c1,q⟩=>h.out pins s d_ H Q I ⟨hid,μ,σ,O,e1,c1,q⟩
section
variable {C:uL} {Z:St->Hp->List af->Prop} {A:af} {hid:List af} {elt:aQ} {gens:List cq} {scope:cF} {pos:Pos} {te:DE} {em:Em}
noncomputable def yH (X:Cx) (Z:St->Hp->List af->Prop) (C:uL) (A:af) (hid:List af) (e:aQ) (gens:List cq) (em:Em) (k:Nat) (cls:List Cl):Prop:=∀ (pins:List (af×Obj)) (s:ag) (d_:St) (H:Hp) (μ:List af) (σ:Sg) (O:Ow) (acc:List D) (Q:ag->Prop) (E:ae->ag->Prop),
 Z d_ H μ->Bs X C A hid pins s d_ H μ σ O acc->xS X C A hid pins d_ H μ (pS cls) (t8 cls em σ O acc) Q->am (av X.prog X.w) X.A (Bg e C.emit gens k (.ref A) X.env) (fun _ s'=>Q s') E s
theorem Xi {k:Nat} {e:aQ} (hx:X.xe=fun _ _=>False) (he:PE X elt (OJ Z X.K (A::hid) te)) (hk:gens[k]?=none):yH X Z (yG elt) A hid e gens (xE te) k []:=by
 intro pins s d_ H μ σ O acc Q E z B q
 unfold Bg
 rw [hk]
 show am _ _ (do let _ <- call (.builtin "list.append") [.ref A,<- eval elt X.env]) _ _ s
 obtain ⟨vs,hA,dA⟩:=B.grown
 cases Fp:te σ O with
 | ok d O1=>
  have q2:xS X (yG elt) A hid pins d_ H μ (pS []) (if acc.length<100000 then .ok (acc++[d]) O1 else .bad) Q:=by
   have:=q
   unfold t8 xE at this
   rw [Fp] at this
   exact this
  by_cases hl:acc.length<100000
  ·rw [if_pos hl] at q2
   refine aa (AA hx (he pins s d_ H (fun v H1=>∃ h_,Ext H μ H1 h_/\nI X.K H1 (A::hid) h_ O1/\Dat X.K H1 (A::hid) h_ d v) B.inv ⟨μ,σ,O,z,B.env,B.cells,by rw [Fp];exact fun v H' g_ x c r=>⟨g_,x,c,r⟩⟩)
    fun u s1 ⟨v,H1,I1,ru,h_,x,c,r⟩=>?_)
   have nA:A∉μ:=fun m=>B.cells.nh A m (by simp)
   have zE:H1 A=some (.lst vs):=x.keep A _ hA nA
   have P0:=dA.ext x
   refine aa (AA hx (NG pins s1 d_ H1 (.ref A) [v] (.ref A) [u] (fun _ H2=>H2=upd H1 A (.lst (vs++[v]))) I1 rfl (.cons ru .nil)
    ⟨A,vs,v,rfl,rfl,zE,aV (by rw [<- P0.length];exact hl) (by decide),rfl⟩) fun u2 s2 ⟨v2,H2,I2,r2,e2⟩=>?_)
   subst e2
   refine aj (q2 s2 d_ _ h_ I2 (x.ea.trans (.put ⟨_,zE⟩)) (c.putA ⟨_,zE⟩) ⟨_,qR,?_⟩ rfl fun _ _=>rfl)
   exact (P0.append (.cons r .nil)).mv (Ea.put ⟨_,zE⟩).mv
  ·rw [if_neg hl] at q2;exact q2.elim
 | exc c O1=>
  unfold t8 xE at q;rw [Fp] at q;exact q.elim
 | bad=>
  unfold t8 xE at q;rw [Fp] at q;exact q.elim
theorem LR (co:Af C) {k:Nat} {tg iter:aQ} {ifs:List aQ} {c:Cl} {cs:List Cl} (hx:X.xe=fun _ _=>False) (qh:X.calm=true) (hk:gens[k]?=some ⟨tg,iter,ifs,0⟩) (hg:PG X tg (c.g.rd X.K)) (hf:cS (fun e t=>qE X rR e t) ifs c.ifs)
  (hZ:∀ (pI rD:St) H1 h_ H2 pd,Z pI H1 h_->(∀ j,j∉pS (c::cs)->rD[j]?=pI[j]?)->Ea A H1 h_ H2 pd->Z rD H2 pd) (hb:yH X Z C A hid (C.ex gens scope pos) gens em (k+1) cs) (hn:gens[k+1]?=none \/ ∃ AK sG uZ,gens[k+1]?=some ⟨AK,sG,uZ,0⟩) {it:af} {fp:List af} {tn:Nat->aT->Prop} {J:It} {src:Src} (T:vS X.prog X.w X.K tg J fp it tn)
  (pins:List (af×Obj)) (s:ag) (d_:St) (H:Hp) (μ:List af) (σ:Sg) (O:Ow) (acc:List D) (n:Nat) (Q:ag->Prop) (st:tn 0 s.heap) (wk:∀ b∈fp,tu X pins H b) (sa:nQ X.K J src H (A::hid) μ)
  (z0:Z d_ H μ) (B:Bs X C A hid pins s d_ H μ σ O acc) (q:xS X C A hid pins d_ H μ (pS (c::cs)) (qc src (tz c cs em σ) n 0 O acc) Q):
  codeAny (av X.prog X.w) X.A (.compLoop (C.ex gens scope pos) k (.ref it) (.ref A) X.env) (fun r s'=>∃ f,r=.ok f/\Q s') s:=by
 have ub:∀ {H':Hp},(∀ b∈fp,H' b=none)->∀ b∈fp,tu X pins H' b:=fun hn b hb=>⟨hn b hb,(wk b hb).2⟩
 let P:Nat->ag->Prop:=fun m s'=>∃ i pe H' g_ O' pN,L2.Inv X pins pe H' s'/\tn i s'.heap/\(∀ b∈fp,H' b=none)/\Ea A H μ H' g_/\nI X.K H' (A::hid) g_ O'/\C.G X.K X.prog X.w A hid H' g_ pN/\
  pe.length=d_.length/\(∀ i,i∉pS (c::cs)->pe[i]?=d_[i]?)/\xS X C A hid pins d_ H μ (pS (c::cs)) (qc src (tz c cs em σ) m i O' pN) Q
 refine codeAny_loop (co.q1 _ _ _ _ _ _ _) P (fun m s1 hP=>?_) n ⟨0,d_,H,μ,O,acc,B.inv,st,fun b hb=>(wk b hb).1,.refl,B.cells,B.grown,rfl,fun _ _=>rfl,q⟩
 rw [co.u1,co.d1]
 refine wpAny_noted ?_
 rw [co.turn _ _ _ _ _ _ _ hk hn]
 obtain ⟨i,uK,H1,h_,O1,sU,I1,pQ,PM,x1,c1,g1,l1,k1,q1⟩:=hP
 have wI:=sa (A::hid) H1 h_ O1 x1.mv c1 i
 -- the names that OD
 have JD:nM X.K H1 (A::hid) h_ (pz σ (pS (c::cs))) uK:=by
  refine ⟨by rw [Bx,B.env.len,l1],fun j d hj=>?_⟩
  obtain ⟨h1,h2⟩:=Ek _ _ _ _ hj
  obtain ⟨v,h3,h4⟩:=B.env.at_ j d h1
  exact ⟨v,by rw [k1 j h2];exact h3,h4.mv x1.mv⟩
 cases qD:src.get O1 i with
 | none=>
  rw [qD] at wI
  have q2:KG X C A hid pins d_ H μ (pS (c::cs)) sU O1 Q:=by
   cases m with
   | zero=>unfold qc at q1;rw [qD] at q1;exact q1
   | succ f=>unfold qc at q1;rw [qD] at q1;exact q1
  refine aa (gg (aa (oV (T.done X rfl rfl rfl qh i pins s1 uK H1 _ I1 (ub PM) pQ wI) fun r s2 ⟨hr,I2⟩=>?_)))
  subst hr
  exact aj ⟨_,rfl,q2 s2 uK H1 h_ I2 x1 c1 g1 l1 k1⟩
 | some d=>
  rw [qD] at wI
  obtain ⟨go,yl⟩:=wI
  cases m with
  | zero=>
   unfold qc at q1;rw [qD] at q1;exact q1.elim
  | succ f=>
   have q2:xS X C A hid pins d_ H μ (pS (c::cs)) ((tz c cs em σ d O1 sU).bnd fun pN O'=>qc src (tz c cs em σ) f (i+1) O' pN) Q:=by
    have:=q1
    unfold qc at this
    rw [qD] at this
    exact this
   refine aa (gg (aa (oV (T.item X rfl rfl rfl qh i pins s1 uK H1 _ I1 (ub PM) pQ go) fun r s2 ⟨u,hr,h2⟩=>?_)))
   subst hr
   refine aa (oV h2 fun _ s3 ⟨v,H3,I3,r3,y3,o9,FH⟩=>?_)
   obtain ⟨x3,c3,d3⟩:=yl v H3 y3
   have I3':=I3.pinned (ub FH) (T.obj _ _ o9)
   cases ud:c.g.put d (pz σ (pS (c::cs))) with
   | none=>
    unfold tz at q2;rw [ud] at q2;exact q2.elim
   | some qT=>
    have CM:tz c cs em σ d O1 sU=((sJ c.ifs qT O1).bnd fun b O3=>if b=true then t8 cs em qT O3 sU else .ok sU O3):=by
     unfold tz;rw [ud]
    rw [CM] at q2
    refine aa (AA hx (hg _ s3 uK H3 v u (fun tm H4=>H4=H3/\nM X.K H3 (A::hid) h_ qT tm/\∀ j,j∉c.g.slots->tm[j]?=uK[j]?) I3' r3 (Tg.ok2 c.g (JD.ext x3) d3 ud fun tm e4 k4=>⟨rfl,e4,k4⟩)) fun _ s4 ⟨tm,H4,I4,e4,Dp,k4⟩=>?_)
    subst e4
    have l4:tm.length=d_.length:=by rw [I4.len,<- I3.len,l1]
    have Io:∀ j,j∉pS (c::cs)->tm[j]?=d_[j]?:=fun j hj=>by
     rw [k4 j fun z=>hj (cK _ z)];exact k1 j hj
    have nA:A∉h_:=fun m=>c1.nh A m (by simp)
    have x13:Ea A H μ H4 h_:=x1.trans x3.ea
    have g3:=co.keep g1 nA x3
    -- behind the step: the next turn
    have again:∀ {s':ag} {pe:St} {H':Hp} {g_:List af} {O':Ow} {pN:List D},L2.Inv X (pins++Bu fp s3.heap) pe H' s'->Ea A H μ H' g_->nI X.K H' (A::hid) g_ O'->C.G X.K X.prog X.w A hid H' g_ pN->pe.length=d_.length->
      (∀ i,i∉pS (c::cs)->pe[i]?=d_[i]?)->xS X C A hid pins d_ H μ (pS (c::cs)) (qc src (tz c cs em σ) f (i+1) O' pN) Q->∃ m,m<f+1/\P m s':=by
     intro s' pe H' g_ O' pN I' x' c' g' l' k' p'
     refine ⟨f,cD f,i+1,pe,H',g_,O',pN,I'.unpinned,T.keep _ _ _ o9 fun b hb o e=>(I'.pin (b,o) (bo _ (bo _ (EJ hb e)))).1,fun b hb=>?_,x',c',g',l',k',p'⟩
     obtain ⟨o,e,d⟩:=T.obj _ _ o9 b hb
     exact (I'.pin (b,o) (bo _ (bo _ (EJ hb e)))).2.1
    cases qr:sJ c.ifs qT O1 with
    | exc c' O'=>rw [qr] at q2;exact q2.elim
    | bad=>rw [qr] at q2;exact q2.elim
    | ok b O3=>
     rw [qr] at q2
     have q3:xS X C A hid pins d_ H μ (pS (c::cs)) ((if b=true then t8 cs em qT O3 sU else .ok sU O3).bnd fun pN O'=>qc src (tz c cs em σ) f (i+1) O' pN) Q:=q2
     refine aa (Mt (hid:=A::hid) hx hf _ s4 tm H4 h_ qT O1 _ I4 Dp c3 ?_)
     rw [qr]
     intro b' H5 JR x5 c5 eb s5 I5
     have eb:b=b':=eb
     subst eb
     have g5:=co.keep g3 nA x5
     have HM:Ea A H μ H5 JR:=x13.trans x5.ea
     cases b with
     | false=>
      rw [if_neg bQ] at q3
      exact aj ⟨rfl,again I5 HM c5 g5 l4 Io q3⟩
     | true=>
      rw [if_pos rfl] at q3
      refine aa (hb _ s5 tm H5 JR qT O3 sU _ _ (hZ _ _ _ _ _ _ z0 Io HM) ⟨I5,Dp.ext x5,c5,g5⟩ ?_)
      cases pY:t8 cs em qT O3 sU with
      | exc c' O'=>rw [pY] at q3;exact q3.elim
      | bad=>rw [pY] at q3;exact q3.elim
      | ok acc6 O6=>
       rw [pY] at q3
       intro s6 Qb H6 μ6 I6 x6 c6 g6 l6 k6
       refine aj ⟨rfl,again I6 (HM.trans x6) c6 g6 (l6.trans l4) (fun j hj=>?_) q3⟩
       rw [k6 j fun z=>hj (bo _ z)]
       exact Io j hj
end
end
section
variable {X:Cx} {Z:St->Hp->List af->Prop} {C:uL} {A:af} {hid:List af} {gens:List cq} {scope:cF} {pos:Pos} {em:Em}
theorem M6 (co:Af C) (hk:gens[k]?=some ⟨tg,iter,ifs,0⟩) (T:vS X.prog X.w X.K tg J fp it tn) (i:Nat) (st:tn i s.heap)
  (h:codeAny (av X.prog X.w) X.A (.compLoop (C.ex gens scope pos) k (.ref it) acc env) P s):
  codeAny (av X.prog X.w) X.A (.compStart (C.ex gens scope pos) k (.ref it) acc env) P s:=by
 refine iI ?_
 rw [co.u2,co.d2]
 refine wpAny_notedAt ?_
 unfold compStart
 have qi:clausesOf (C.ex gens scope pos)=gens:=co.cl _ _ _
 simp only [qi,hk,Option.elim,bne_self_eq_false,ef,if_false]
 refine aa (eH (wpAny_ite ?_))
 split
 ·exact aj (And.intro (co.q1 _ _ _ _ _ _ _) h)
 ·refine aa (dk ?_)
  exact aa (gg (aa (T.self _ i s _ _ st (aj (And.intro (co.q1 _ _ _ _ _ _ _) h)))))
theorem LB (co:Af C) (hx:X.xe=fun _ _=>False) (qh:X.calm=true) {sl:List Nat} (hZ:∀ (pI rD:St) H1 h_ H2 pd,Z pI H1 h_->(∀ j,j∉sl->rD[j]?=pI[j]?)->Ea A H1 h_ H2 pd->Z rD H2 pd) (he:∀ k,gens[k]?=none->yH X Z C A hid (C.ex gens scope pos) gens em k []):∀ {pA:List cq} {cls:List Cl},n9 X pA cls->(∀ j∈pS cls,j∈sl)->∀ k,gens.drop k=pA->yH X Z C A hid (C.ex gens scope pos) gens em k cls
 | _,_,.nil,_,k,hd=>he k (by
   have:=congrArg mq hd
   simp at this
   exact aZ.mpr (by omega))
 | ⟨tg,iter,ifs,_⟩::gs,c::cs,.cons hi hs hg hf r,O9,k,hd=>by
  have hk:gens[k]?=some ⟨tg,iter,ifs,0⟩:=by
   have:(gens.drop k)[0]?=some ⟨tg,iter,ifs,0⟩:=by rw [hd];rfl
   simpa using this
  have Fz:gens.drop (k+1)=gs:=by
   have:=congrArg (List.drop 1) hd
   simpa [ei,Nat.add_comm] using this
  have hb:=LB co hx qh hZ he r (fun j m=>O9 j (bo _ m)) (k+1) Fz
  have hn:gens[k+1]?=none \/ ∃ AK sG uZ,gens[k+1]?=some ⟨AK,sG,uZ,0⟩:=by
   have e:gens[k+1]?=gs[0]?:=by rw [<- Fz];simp
   cases r with
   | nil=>exact .inl (by rw [e];rfl)
   | cons _ _ _ _ _=>exact .inr ⟨_,_,_,by rw [e];rfl⟩
  intro pins s d_ H μ σ O acc Q E z B q
  unfold Bg
  rw [hk]
  simp only [bne_self_eq_false,ef,if_false]
  cases hit:c.it σ O with
  | exc c' O'=>unfold t8 at q;rw [hit] at q;exact q.elim
  | bad=>unfold t8 at q;rw [hit] at q;exact q.elim
  | ok src O1=>
   have q1:xS X C A hid pins d_ H μ (pS (c::cs)) (qc src (tz c cs em σ) (src.size O1) 0 O1 acc) Q:=by
    have:=q
    unfold t8 at this
    rw [hit] at this
    exact this
   refine aa (AA hx (hi.out pins s d_ H (fun J H1=>∃ h_,Ext H μ H1 h_/\nI X.K H1 (A::hid) h_ O1/\nQ X.K J src H1 (A::hid) h_) B.inv ⟨A::hid,μ,σ,O,B.env,B.cells,by rw [hit];exact fun J H1 h_ x c sa=>⟨h_,x,c,sa⟩⟩) fun v s1 h1=>?_)
   refine aa (gg ?_)
   refine aa (ki (hs v) ?_)
   refine aa (cb (AA hx h1 fun CJ s2 h2=>?_))
   obtain ⟨it,fp,tn,J,H2,e,I2,T,pB,f2,pd,x2,c2,sa⟩:=h2
   subst e
   refine aa (wpAny_runOwn (h:=none) ?_)
   show codeAny _ X.A _ _ _
   have nA:A∉μ:=fun m=>B.cells.nh A m (by simp)
   refine M6 co hk T 0 pB ?_
   refine eS (LR co (A:=A) (hid:=hid) (em:=em) (c:=c) (cs:=cs) hx qh hk hg hf (fun pI rD H1 h_ H2 pd z1 k1 x1=>hZ pI rD H1 h_ H2 pd z1 (fun j hj=>k1 j fun m=>hj (O9 j m)) x1) hb hn T pins s2 d_ H2 pd σ O1 acc (src.size O1) (fun s'=>Q s') pB f2 sa (hZ _ _ _ _ _ _ z (fun _ _=>rfl) x2.ea) ⟨I2,B.env.ext x2,c2,co.keep B.grown nA x2⟩ ?_) fun r s' hr=>?_
   ·cases hw:qc src (tz c cs em σ) (src.size O1) 0 O1 acc with
    | exc c' O'=>rw [hw] at q1;exact q1.elim
    | bad=>rw [hw] at q1;exact q1.elim
    | ok pN O'=>
     rw [hw] at q1
     exact fun s' pe H' g_ I' x' c' g' l' k'=>q1 s' pe H' g_ I' (x2.ea.trans x') c' g' l' k'
   ·obtain ⟨f,rfl,hq⟩:=hr
    exact aj hq
end
noncomputable def qM (X:Cx) (N':List Str) (scope:cF) (cells:List (Str×af)) (C:af) (s:ag) (H:Hp) (fp:List af):Cx:=
 { X with
  N:=N',s₀:=s,H₀:=H
  env:={ scope:=relabel scope X.env,locals:=C,globals:=X.env.globals,cells:=cells,qual:=X.env.qual,func:=none,code:=X.env.code,frame:=X.env.frame,builtins:=X.env.builtins }
  outer:=X.stack,ex:=fp,fn:=fun x=>scope.names.lookup x==some .cell,pn:=[],xe:=fun _ _=>False }
structure yq (sc scope:cF) (N':List Str) (sl:List Nat):Prop where
 kind:scope.kind=.function
 nd:(scope.names.map (·.1)).Nodup
 frees:∀ y∈scope.names,y.2=.free->sc.names.lookup y.1=some .cell\/sc.names.lookup y.1=some .free
 own:∀ (i:Nat) x,N'[i]?=some x->(x,NameKind.local)∈scope.names\/(x,dr)∈scope.names->i∈sl
theorem wF {β:Type}:∀ {l:List (Str×β)} {x:Str} {b:β},(l.map (·.1)).Nodup->(x,b)∈l->l.lookup x=some b
 | [],_,_,_,h=>by cases h
 | (y,c)::r,x,b,nd,h=>by
  obtain ⟨n1,n2⟩:=cj.mp nd
  rcases aw.mp h with e|h
  ·cases e;simp [eI]
  ·have ne:x≠y:=fun e=>n1 (bb.mpr ⟨(x,b),h,e⟩)
   rw [eI]
   have:(x==y)=false:=by simpa using ne
   rw [this]
   exact wF n2 h
theorem Hy (env:Env) (x:Str):∀ (names:List (Str×cZ)),(names.map fun (n,k)=>if (k==cX&&env.scope.kind == .function&&env.kindOf n==some .cell) then (n,dr) else (n,k)).lookup x =
  (names.lookup x).map fun k=>if (k==cX&&env.scope.kind == .function&&env.kindOf x==some .cell) then dr else k
 | []=>rfl
 | (n,k)::r=>by
  show List.lookup x ((if (k==cX&&env.scope.kind == .function&&env.kindOf n==some .cell)=true then (n,dr) else (n,k))::_)=_
  cases hx:x==n with
  | true=>
   have e:x=n:=by simpa using hx
   subst e
   simp only [eI,hx,iJ]
   split
   ·rename_i h;simp [eI,h]
   ·rename_i h;simp [eI,h]
  | false=>
   have ih:=Hy env x r
   simp only [eI,hx]
   rw [<- ih]
   split<;>simp only [eI,hx]
theorem NN (h:sI (relabel scope env) x):(x,NameKind.local)∈scope.names\/(x,dr)∈scope.names\/(x,cX)∈scope.names:=by
 unfold sI relabel at h
 simp only [Hy] at h
 cases e:scope.names.lookup x with
 | none=>rw [e] at h;simp at h
 | some k=>
  have m:=bE e
  cases k with
  | «local»=>exact .inl m
  | cell=>exact .inr (.inl m)
  | free=>exact .inr (.inr m)
  | _=>rw [e] at h;simp at h
noncomputable def qF (cells:List (Str×af)):List (Str×cZ)->List (Str×af)->List (Str×af)
 | [],acc=>acc
 | (n,k)::r,acc=>if k == .free then qF cells r ((n,(cells.lookup n).getD 0)::acc) else qF cells r acc
theorem Oe (h:∀ y∈scope.names,y.2=.free->∃ c,env.cells.lookup y.1=some c):closureFor scope env=pure (qF env.cells scope.names []):=by
 have key:∀ (names:List (Str×cZ)) (acc:List (Str×af)),(∀ y∈names,y.2=.free->∃ c,env.cells.lookup y.1=some c)->
   (forIn names acc fun (x:Str×cZ) (cs:List (Str×af))=>(if x.2 == .free then (do let a <- cellOf env x.1;pure (fR ((x.1,a)::cs))) else pure (fR cs):Sem _))=pure (qF env.cells names acc):=by
  intro names
  induction names with
  | nil=>intro acc _;rfl
  | cons y r ih=>
   intro acc hn
   obtain ⟨n,k⟩:=y
   rw [gA]
   unfold qF
   by_cases hk:(k==cX)=true
   ·obtain ⟨c,hc⟩:=hn (n,k) aI (by simpa using hk)
    have e1:cellOf env n=pure c:=by unfold cellOf;rw [hc]
    simp only [hk,if_true,e1,pure_bind,hc,Option.getD_some]
    exact ih _ fun y hy=>hn y (aq _ hy)
   ·simp only [hk,if_false,pure_bind,ef]
    exact ih _ fun y hy=>hn y (aq _ hy)
 have:=key scope.names [] h
 unfold closureFor
 refine Eq.trans ?_ (congrArg (fun m=>m >>= fun cs=>pure cs) this)
 congr 1
theorem EI:∀ (names:List (Str×cZ)) (acc:List (Str×af)),(x,c)∈qF cells names acc->(x,c)∈acc\/((x,cX)∈names/\c=(cells.lookup x).getD 0)
 | [],acc,h=>.inl h
 | (n,k)::r,acc,h=>by
  unfold qF at h
  by_cases hk:(k==cX)=true
  ·rw [if_pos hk] at h
   rcases EI r _ h with m|⟨m,e⟩
   ·rcases aw.mp m with m|m
    ·cases m
     have:k=.free:=by simpa using hk
     subst this
     exact .inr ⟨aI,rfl⟩
    ·exact .inl m
   ·exact .inr ⟨aq _ m,e⟩
  ·rw [if_neg hk] at h
   rcases EI r _ h with m|⟨m,e⟩
   ·exact .inl m
   ·exact .inr ⟨aq _ m,e⟩
theorem Hr:∀ (names:List (Str×cZ)) (acc:List (Str×af)),p∈acc->p∈qF cells names acc
 | [],acc,h=>h
 | (n,k)::r,acc,h=>by
  unfold qF
  split
  ·exact Hr r _ (aq _ h)
  ·exact Hr r _ h
theorem EL:∀ (names:List (Str×cZ)) (acc:List (Str×af)),(x,cX)∈names->(x,(cells.lookup x).getD 0)∈qF cells names acc
 | (n,k)::r,acc,h=>by
  unfold qF
  rcases aw.mp h with e|h
  ·cases e
   rw [if_pos (by decide)]
   exact Hr r _ aI
  ·split
   ·exact EL r _ h
   ·exact EL r _ h
theorem Gj:∀ (names:List (Str×cZ)) (n:Nat) (acc:List (Str×af)),(x,c)∈bW n names acc->(x,c)∈acc\/((x,dr)∈names/\n<=c)
 | [],n,acc,h=>.inl h
 | (y,k)::r,n,acc,h=>by
  unfold bW at h
  by_cases hk:(k==dr)=true
  ·rw [if_pos hk] at h
   rcases Gj r _ _ h with m|⟨m,e⟩
   ·rcases aw.mp m with m|m
    ·cases m
     have:k=.cell:=by simpa using hk
     subst this
     exact .inr ⟨aI,ay _⟩
    ·exact .inl m
   ·exact .inr ⟨aq _ m,l7 e⟩
  ·rw [if_neg hk] at h
   rcases Gj r _ _ h with m|⟨m,e⟩
   ·exact .inl m
   ·exact .inr ⟨aq _ m,e⟩
theorem Gu:∀ (names:List (Str×cZ)) (n:Nat) (acc:List (Str×af)),p∈acc->p∈bW n names acc
 | [],_,_,h=>h
 | (y,k)::r,n,acc,h=>by
  unfold bW
  split
  ·exact Gu r _ _ (aq _ h)
  ·exact Gu r _ _ h
theorem GW:∀ (names:List (Str×cZ)) (n:Nat) (acc:List (Str×af)),(acc.Pairwise fun x y=>x.2≠y.2)->(∀ p∈acc,p.2<n)->(bW n names acc).Pairwise fun x y=>x.2≠y.2
 | [],_,_,h,_=>h
 | (y,k)::r,n,acc,h,hl=>by
  unfold bW
  split
  ·refine GW r (n+1) _ (cN.mpr ⟨fun p hp=>?_,h⟩) fun p hp=>?_
   ·exact fun e=>absurd (hl p hp) (by show ¬ p.2<n;rw [<- e];exact bP _)
   ·rcases aw.mp hp with rfl|hp
    ·exact cD _
    ·exact cU (hl p hp)
  ·exact GW r n acc h hl
theorem GY:∀ (names:List (Str×cZ)) (n:Nat) (acc:List (Str×af)),((names.map (·.1)).Nodup)->(acc.map (·.1)).Nodup->(∀ p∈acc,∀ k,(p.1,k)∈names->k≠dr)->((bW n names acc).map (·.1)).Nodup
 | [],_,_,_,h,_=>h
 | (y,k)::r,n,acc,nd,h,hl=>by
  obtain ⟨n1,n2⟩:=cj.mp nd
  unfold bW
  by_cases hk:(k==dr)=true
  ·rw [if_pos hk]
   have uh:k=.cell:=by simpa using hk
   refine GY r (n+1) _ n2 (cj.mpr ⟨fun m=>?_,h⟩) fun p hp k' qN=>?_
   ·obtain ⟨p,hp,e⟩:=bb.mp m
    exact hl p hp k (by rw [e];exact aI) uh
   ·rcases aw.mp hp with rfl|hp
    ·exact absurd (bb.mpr ⟨(y,k'),qN,rfl⟩) n1
    ·exact hl p hp k' (aq _ qN)
  ·rw [if_neg hk]
   exact GY r n acc n2 h fun p hp k' qN=>hl p hp k' (aq _ qN)
theorem E4:∀ (names:List (Str×cZ)) (acc:List (Str×af)),((names.map (·.1)).Nodup)->(acc.map (·.1)).Nodup->(∀ p∈acc,p.1∉names.map (·.1))->((qF cells names acc).map (·.1)).Nodup
 | [],_,_,h,_=>h
 | (y,k)::r,acc,nd,h,hl=>by
  obtain ⟨n1,n2⟩:=cj.mp nd
  unfold qF
  split
  ·refine E4 r _ n2 (cj.mpr ⟨fun m=>?_,h⟩) fun p hp=>?_
   ·obtain ⟨p,hp,e⟩:=bb.mp m
    exact hl p hp (by rw [e];simp)
   ·rcases aw.mp hp with rfl|hp
    ·exact n1
    ·exact fun m=>hl p hp (aq _ m)
  ·exact E4 r acc n2 h fun p hp m=>hl p hp (aq _ m)
theorem GC:∀ (names:List (Str×cZ)) (h:aT) (acc:List (Str×af)),(x,c)∈bW h.objs.size names acc->(x,c)∈acc\/(lO h names).IsCell c none
 | [],_,_,m=>.inl m
 | (y,k)::r,h,acc,m=>by
  unfold bW at m
  unfold lO
  by_cases hk:(k==dr)=true
  ·rw [if_pos hk] at m ⊢
   have e:h.objs.size+1=(h.push { cls:=.type "cell",data:=.cell none }).objs.size:=(bZ ..).symm
   rw [e] at m
   rcases GC r _ _ m with m|m
   ·rcases aw.mp m with m|m
    ·cases m
     exact .inr ⟨_,iK _ _ _ _ (aE _ rfl),rfl⟩
    ·exact .inl m
   ·exact .inr m
  ·rw [if_neg hk] at m ⊢
   exact GC r _ _ m
theorem Zz {l:List (Str×af)} (nd:(l.map (·.1)).Nodup) (inj:∀ p∈l,∀ q∈l,p.2=q.2->p.1=q.1):l.Pairwise fun x y=>x.2≠y.2:=by
 induction l with
 | nil=>exact .nil
 | cons p r ih=>
  obtain ⟨n1,n2⟩:=cj.mp nd
  refine cN.mpr ⟨fun q hq e=>n1 ?_,ih n2 fun a ha b hb=>inj a (aq _ ha) b (aq _ hb)⟩
  exact bb.mpr ⟨q,hq,(inj p aI q (aq _ hq) e).symm⟩
abbrev Bp:Obj:={ cls:=.type "dict",data:=.dict #[] }
section
variable {X:Cx} {pins:List (af×Obj)} {d_:St} {H:Hp} {s:ag}
abbrev DZ (ob:Obj) (h:aT) (names:List (Str×cZ)):aT:=lO ((h.push ob).push Bp) names
theorem N_ (ob:Obj) (h:aT) (names:List (Str×cZ)) (b:af) (o:Obj) (e:h.get? b=some o):(DZ ob h names).get? b=some o:=iK _ _ _ _ (ah _ (ah _ e))
theorem QU (ob:Obj) (h:aT):((h.push ob).push Bp).objs.size=h.objs.size+2:=by rw [bZ,bZ]
theorem YC {scope:cF} {ext:List Str} {sl:List Nat} {fp:List af} (I:L2.Inv X pins d_ H s) (wk:∀ b∈fp,tu X pins H b) (pF:∀ b∈fp,b<s.heap.objs.size) (hb:yq X.env.scope scope (X.N++ext) sl) {ob:Obj} {u:HO} (tW:ob.isFreed=false) (qJ:∀ h:aT,h.get? s.heap.objs.size=some ob->nV X.prog X.w (upd H s.heap.objs.size u) h s.heap.objs.size u):
  L2.Inv (qM X (X.N++ext) scope (bW (s.heap.objs.size+2) scope.names (qF X.env.cells scope.names [])) (s.heap.objs.size+1) s H fp) [] (pz (d_++ao ext.length none) sl)
   (upd H s.heap.objs.size u) { s with heap:=DZ ob s.heap scope.names }:=by
 have Dc:∀ x c,X.env.cells.lookup x=some c->c<s.heap.objs.size:=fun x c e=>by
  obtain ⟨v,z⟩:=I.cell x c e
  exact z.lt
 -- a free name of the block has f_ cell around
 have pR:∀ x,(x,cX)∈scope.names->∃ c,X.env.cells.lookup x=some c:=fun x hx=>I.ok.has x (hb.frees _ hx rfl)
 have qi:∀ x c,(x,c)∈qF X.env.cells scope.names []->(x,cX)∈scope.names/\X.env.cells.lookup x=some c:=fun x c hm=>by
  rcases EI _ _ hm with m|⟨m,e⟩
  ·cases m
  ·obtain ⟨c',zw⟩:=pR x m
   rw [zw] at e
   exact ⟨m,by rw [e];exact zw⟩
 have hlc:∀ x,(x,cX)∈scope.names->∀ c,X.env.cells.lookup x=some c->(x,c)∈qF X.env.cells scope.names []:=fun x hx c e=>by
  have:=EL (cells:=X.env.cells) scope.names [] hx
  rw [e] at this
  exact this
 have Cy:((qF X.env.cells scope.names []).map (·.1)).Nodup:=E4 _ _ hb.nd (by simp) (by intro p hp;cases hp)
 have ndc:((bW (s.heap.objs.size+2) scope.names (qF X.env.cells scope.names [])).map (·.1)).Nodup:=GY _ _ _ hb.nd Cy fun p hp k hk e=>by
  subst e
  have h1:=(qi p.1 p.2 hp).1
  have:=wF hb.nd h1
  rw [wF hb.nd hk] at this
  cases this
 have apart:(bW (s.heap.objs.size+2) scope.names (qF X.env.cells scope.names [])).Pairwise fun x y=>x.2≠y.2:=by
  refine GW _ _ _ (Zz Cy fun p hp q hq e=>?_) fun p hp=>aV (Dc _ _ (qi p.1 p.2 hp).2) (gf _ _)
  refine I.ok.inj p.1 q.1 p.2 (qi p.1 p.2 hp).2 ?_
  rw [e];exact (qi q.1 q.2 hq).2
 have rK:∀ x c,(bW (s.heap.objs.size+2) scope.names (qF X.env.cells scope.names [])).lookup x=some c->((x,cX)∈scope.names/\X.env.cells.lookup x=some c)\/((x,dr)∈scope.names/\s.heap.objs.size+2<=c):=fun x c e=>by
  rcases Gj _ _ _ (bE e) with m|m
  ·exact .inl (qi x c m)
  ·exact .inr m
 have fresh:∀ a,s.heap.objs.size<=a->H a=none:=fun a ha=>I.hok.fresh ha
 have kp:=N_ ob s.heap scope.names
 have Cp:∀ x,(x,cX)∈scope.names->∀ c,X.env.cells.lookup x=some c->(bW (s.heap.objs.size+2) scope.names (qF X.env.cells scope.names [])).lookup x=some c:=fun x hx c e=>
  wF ndc (Gu _ _ _ (hlc x hx c e))
 refine ⟨⟨I.ok.mod,hb.kind,I.ok.glob,I.ok.blt,ez _,fun x y c h1 h2=>name_of_addr apart (bE h1) (bE h2),fun x hx=>?_,fun x c hx h=>?_,I.ok.hd,I.ok.frames,.inl rfl,fun b rN=>⟨?_,fun x c e=>?_⟩,I.bs,?_,fun b o e rN=>?_,fun b rN z=>?_,I.stack,I.stkFree⟩,
  rfl,I.bare,Un.laid kp (ay _) (fresh _ (ay _)),?_,fun x c e=>?_,?_,fun x c e=>?_,fun p hp=>absurd (show p∈([]:List (af×Obj)) from hp) (by simp),I.hok.laid kp (ay _) ?_,?_,I.tk⟩
 ·-- has
  have hx:sI (relabel scope X.env) x:=.inr hx
  rcases NN hx with m|m|m
  ·exfalso
   have e:=wF hb.nd m
   have e2:(relabel scope X.env).names.lookup x=some .local:=lookup_relabel_local e
   rcases (show (relabel scope X.env).names.lookup x=some .cell\/(relabel scope X.env).names.lookup x=some .free by rename_i h0;exact h0) with q|q
   ·rw [e2] at q;cases q
   ·rw [e2] at q;cases q
  ·exact jL.mp (fW scope.names _ _ (.inl (wF hb.nd m)))
  ·obtain ⟨c,hc⟩:=pR x m
   exact ⟨c,Cp x m c hc⟩
 ·-- cab
  have hx:(scope.names.lookup x==some .cell)=true:=hx
  rcases rK x c h with ⟨m,_⟩|⟨_,m⟩
  ·rw [wF hb.nd m] at hx;cases hx
  ·exact aU (gf _ _) m
 ·exact bi (cU (pF b rN))
 ·rcases rK x c e with ⟨_,m⟩|⟨_,m⟩
  ·exact (wk b rN).2.2.2.2.1 x c m
  ·have h0:b<s.heap.objs.size:=pF b rN
   exact fun z=>by
    rw [z] at m
    exact absurd (aV h0 (aU (gf _ 2) m)) (bP _)
 ·exact aU I.ok.bsz I.sz
 ·rcases (wk b rN).2.2.2.1 with z|z
  ·exact I.ok.noex b o e z
  ·exact absurd (aV (aG e) (aU I.ok.bsz z)) (bP _)
 ·rcases aw.mp (I.stkSub b z) with q|q
  ·exact (wk b rN).2.1 q
  ·exact (wk b rN).2.2.1 q
 ·-- loc
  refine ⟨fun _=>none,?_,fun i x v h1 h2 h3=>?_⟩
  ·have z:=(Heap.Ns.new (s.heap.push ob) (.type "dict")).keeps (iK scope.names _)
   rw [bZ] at z
   exact z
  ·obtain ⟨g1,g2⟩:=Ek _ _ _ _ h2
   have hi:i<d_.length:=by
    by_cases hi:i<d_.length
    ·exact hi
    ·rw [a5 (by omega),eF] at g1
     split at g1<;>cases g1
   rw [aK hi] at g1
   have hxN:X.N[i]?=some x:=by
    have h1:(X.N++ext)[i]?=some x:=h1
    rw [aK (by rw [<- I.len];exact hi)] at h1
    exact h1
   rcases NN h3 with m|m|m
   ·exact absurd (hb.own i x h1 (.inl m)) g2
   ·exact absurd (hb.own i x h1 (.inr m)) g2
   ·obtain ⟨m0,hn,hl⟩:=I.loc
    have kx:=hb.frees _ m rfl
    obtain ⟨u,ru,lk⟩:=hl i x v hxN g1 (.inr kx)
    refine ⟨u,ru,?_⟩
    rcases lk with ⟨q,_⟩|⟨q,c,hc,z⟩
    ·exfalso
     have q:X.env.scope.names.lookup x=some .local:=q
     rcases kx with k|k<;>(rw [q] at k;cases k)
    ·refine .inr ⟨?_,c,Cp x m c hc,z.keeps kp⟩
     have e:=wF hb.nd m
     show (relabel scope X.env).names.lookup x=some .cell\/(relabel scope X.env).names.lookup x=some .free
     unfold relabel
     simp only [Hy,e,iJ]
     split
     ·exact .inl rfl
     ·exact .inr rfl
 ·-- cell
  rcases GC scope.names ((s.heap.push ob).push Bp) (qF X.env.cells scope.names []) (x:=x) (c:=c) (by rw [QU];exact bE e) with m|m
  ·obtain ⟨v,z⟩:=I.cell x c (qi x c m).2
   exact ⟨v,z.keeps kp⟩
  ·exact ⟨none,m⟩
 ·show upd H s.heap.objs.size u (s.heap.objs.size+1)=none
  rw [o7 (dq (cD _))]
  exact fresh _ (ez _)
 ·rcases rK x c e with ⟨_,m⟩|⟨_,m⟩
  ·rw [o7 (bi (Dc x c m))]
   exact I.freeC x c m
  ·have ne:c≠s.heap.objs.size:=fun z=>by
    rw [z] at m
    exact absurd m (by omega)
   rw [o7 ne]
   exact fresh c (aU (gf _ 2) m)
 ·exact qJ _ (iK _ _ _ _ (ah _ (aE _ tW)))
 ·show _=(X.N++ext).length
  rw [Bx,ar,ir,ar,I.len]
end
def wJ {α:Type}:R α->R α
 | .ok a O=>.ok a O
 | _=>.bad
noncomputable def Ey (ext:Nat) (it0:DI) (g:Tg) (ts:List DT) (cs:List Cl) (em:Em):Sg->Ow->R (List D):=fun σ O=>(it0 σ O).bnd fun src O1=>
 wJ (qc src (tz ⟨it0,g,ts⟩ cs em (pz (σ++ao ext none) (pS (⟨it0,g,ts⟩::cs)))) (src.size O1) 0 O1 [])
noncomputable def xY (ext:Nat) (it0:DI) (g:Tg) (ts:List DT) (cs:List Cl) (te:DE):Sg->Ow->R (List D):=fun σ O=>(it0 σ O).bnd fun src O1=>
 wJ (qc src (wW ⟨it0,g,ts⟩ cs te (pz (σ++ao ext none) (pS (⟨it0,g,ts⟩::cs)))) (src.size O1) 0 O1 [])
theorem NX (ext:Nat) (it0:DI) (g:Tg) (ts:List DT) (cs:List Cl) (te:DE):Ey ext it0 g ts cs (xE te)=xY ext it0 g ts cs te:=by
 funext σ O;unfold Ey xY;rw [VZ]
noncomputable def ZB (d_:St) (n:Nat) (sl:List Nat) (A:af) (H0:Hp):St->Hp->List af->Prop:=fun σ H μ=>(∀ j,j∉sl->σ[j]?=(d_++ao n none)[j]?)/\H0 A=none/\∃ Dz o,Ea A (upd H0 A o) Dz H μ/\∀ a∈Dz,∃ vs,H0 a=some (.lst vs)
section
variable {C:uL} {em:Em}
variable {X:Cx} {M:iC} {A:aW} {E:ae->ag->Prop} {s:ag}
theorem ZC
  (h:Q { scope,locals:=s.heap.objs.size,globals,cells:=bW (s.heap.objs.size+1) scope.names cl,qual,func:=none,code:=env.code,frame:=env.frame,builtins:=env.builtins } { s with heap:=lO (s.heap.push Bp) scope.names }):
  am M A (newFunctionEnv scope globals cl [] qual none .none (some env)) Q E s:=by
 simp only [newFunctionEnv,Option.isSome_some,if_true]
 refine aa (wpAny_alloc ?_)
 refine aa (wpAny_layCells _ (fun name kind cells=>by cases hkc:kind==dr<;>simp [hkc]) _ _ _ _ ?_)
 rw [show ({ s with heap:=s.heap.push Bp }:ag).heap.objs.size=s.heap.objs.size+1 from bZ ..]
 simp only [kC,pure_bind]
 exact aj h
structure KU (X:Cx) (C:uL) (pins:List (af×Obj)) (d_:St) (H:Hp) (hid μ:List af) (L Cn:af) (acc:List D) (O:Ow) (s':ag):Prop where
 inv:∃ H' g_,L2.Inv X pins d_ H' s'/\Ext H μ H' g_/\nI X.K H' (L::hid) g_ O/\H L=none/\H' Cn=none/\C.G X.K X.prog X.w L hid H' g_ acc
 ns:∃ m,s'.heap.Ns Cn m
 loc:Cn≠X.env.locals
 young:X.s₀.heap.objs.size<=Cn
 cel:∀ x c,X.env.cells.lookup x=some c->c≠Cn
 pns:∀ p∈X.pn++pins,p.1≠Cn
theorem Inv.bare {pins:List (af×Obj)} {d_:St} {H:Hp} {s':ag} {C:af} {h':aT} (I:L2.Inv X pins d_ H s') (hs:cM C s'.heap h') (hn:H C=none) (loc:C≠X.env.locals) (young:X.s₀.heap.objs.size<=C) (cel:∀ x c,X.env.cells.lookup x=some c->c≠C)
  (pns:∀ p∈X.pn++pins,p.1≠C):L2.Inv X pins d_ H { s' with heap:=h' }:=I.turned (t':=s'.toks) (fun b o hb e=>(hs.2 b hb).trans e) hn loc (.inr young) cel pns
theorem Yg (co:Af C)
  {it:af} {fp:List af} {tn:Nat->aT->Prop} {J:It} {RR:ae->af->Result->ag->Prop}
  (qh:X.calm=true) (hb:yq X.env.scope scope (X.N++ext) (pS (⟨it0,g,ts⟩::cs)))
  (vg:∀ cells Cn,PG (qM X (X.N++ext) scope cells Cn s H fp) tg (g.rd X.K)/\cS (fun e t=>qE (qM X (X.N++ext) scope cells Cn s H fp) rR e t) ifs ts/\n9 (qM X (X.N++ext) scope cells Cn s H fp) gs cs/\∀ A hid k,(⟨tg,iter,ifs,0⟩::gs:List cq)[k]?=none->yH (qM X (X.N++ext) scope cells Cn s H fp) (ZB d_ ext.length (pS (⟨it0,g,ts⟩::cs)) A H) C A hid (C.ex (⟨tg,iter,ifs,0⟩::gs) scope pos) (⟨tg,iter,ifs,0⟩::gs) em k [])
  (I:L2.Inv X pins d_ H s) (e1:nM X.K H hid μ σ d_) (c1:nI X.K H hid μ O) (T:vS X.prog X.w X.K tg J fp it tn) (st:tn 0 s.heap) (wk:∀ b∈fp,tu X pins H b) (sa:nQ X.K J src H hid μ)
  (hw:qc src (tz ⟨it0,g,ts⟩ cs em (pz (σ++ao ext.length none) (pS (⟨it0,g,ts⟩::cs)))) (src.size O) 0 O []=.ok acc O2)
  (hRR:∀ f s',KU X C pins d_ H hid μ s.heap.objs.size (s.heap.objs.size+1) acc O2 s'->RR (.ref s.heap.objs.size) (s.heap.objs.size+1) (.ok f) s'):
  am (av X.prog X.w) X.A C.new (fun ac xk=>am (av X.prog X.w) X.A (newFunctionEnv scope X.env.globals (qF X.env.cells scope.names []) [] X.env.qual none .none (some X.env)) (fun Ds HP=>
   codeAny (av X.prog X.w) X.A (.compStart (C.ex (⟨tg,iter,ifs,0⟩::gs) scope pos) 0 (.ref it) ac { Ds with scope:=relabel scope X.env }) (RR ac Ds.locals) HP) E xk) E s:=by
 refine co.new fun ob tW qJ=>?_
 refine ZC ?_
 have o_:(s.heap.push ob).objs.size=s.heap.objs.size+1:=bZ ..
 have pF:∀ b∈fp,b<s.heap.objs.size:=fun b hb=>by
  obtain ⟨o,ho,_⟩:=T.obj 0 _ st b hb
  exact aG ho
 have IB:=YC (u:=C.ho X.prog X.w s.heap.objs.size) I wk pF hb tW (fun h=>qJ H h _ I.big)
 have nL:H s.heap.objs.size=none:=I.hok.fresh (ay _)
 have qS:∀ b∈fp,b≠s.heap.objs.size:=fun b hb=>bi (pF b hb)
 obtain ⟨b1,b2,b3,b4⟩:=vg (bW (s.heap.objs.size+2) scope.names (qF X.env.cells scope.names [])) (s.heap.objs.size+1)
 generalize tX:qM X (X.N++ext) scope (bW (s.heap.objs.size+2) scope.names (qF X.env.cells scope.names [])) (s.heap.objs.size+1) s H fp=X' at IB b1 b2 b3 b4
 have eP:X'.prog=X.prog:=by rw [<- tX];rfl
 have eW:X'.w=X.w:=by rw [<- tX];rfl
 have eK:X'.K=X.K:=by rw [<- tX];rfl
 have eA:X'.A=X.A:=by rw [<- tX];rfl
 have ex:X'.xe=fun _ _=>False:=by rw [<- tX];rfl
 have ec:X'.calm=true:=by rw [<- tX];exact qh
 have zK:X'.env={ scope:=relabel scope X.env,locals:=s.heap.objs.size+1,globals:=X.env.globals,cells:=bW (s.heap.objs.size+2) scope.names (qF X.env.cells scope.names []),qual:=X.env.qual,func:=none,code:=X.env.code,frame:=X.env.frame,builtins:=X.env.builtins }:=by rw [<- tX];rfl
 have Dq:({ ({ scope,locals:=(s.heap.push ob).objs.size,globals:=X.env.globals,cells:=bW ((s.heap.push ob).objs.size+1) scope.names (qF X.env.cells scope.names []),qual:=X.env.qual,func:=none,code:=X.env.code,frame:=X.env.frame,builtins:=X.env.builtins }:Env) with scope:=relabel scope X.env }:Env)=X'.env:=by
  rw [zK,o_]
 show codeAny _ _ (.compStart _ 0 _ _ ({ ({ scope,locals:=(s.heap.push ob).objs.size,globals:=X.env.globals,cells:=bW ((s.heap.push ob).objs.size+1) scope.names (qF X.env.cells scope.names []),qual:=X.env.qual,func:=none,code:=X.env.code,frame:=X.env.frame,builtins:=X.env.builtins }:Env) with scope:=relabel scope X.env }:Env)) (RR _ (s.heap.push ob).objs.size) _
 rw [Dq,o_]
 have Ib:Mv H hid μ (upd H s.heap.objs.size (C.ho X.prog X.w s.heap.objs.size)) (s.heap.objs.size::hid) μ:=(Mv.hide nL).trans ⟨⟨[],by simp⟩,fun b o h _ n2 _=>by rw [o7 (fun z=>n2 (by simp [z]))];exact h,fun _ m=>.inl m,fun _ m=>.inl m,vC,fun _ t=>t.upd (.inl nL)⟩
 have c2:nI X.K (upd H s.heap.objs.size (C.ho X.prog X.w s.heap.objs.size)) (s.heap.objs.size::hid) μ O:=by
  refine ⟨c1.len,c1.nd,fun a m z=>?_,fun a m=>?_,fun k a e=>?_⟩
  ·rcases aw.mp z with rfl|z
   ·exact (c1.not_in nL).2 m
   ·exact c1.nh a m z
  ·rcases aw.mp m with rfl|m
   ·rw [qR];simp
   ·exact vC a (c1.ht a m)
  ·obtain ⟨ds,vs,h1,h2,h3⟩:=c1.at_ k a e
   exact ⟨ds,vs,h1,by rw [o7 (qU h2 nL)];exact h2,h3.mv Ib⟩
 have e2:nM X.K (upd H s.heap.objs.size (C.ho X.prog X.w s.heap.objs.size)) (s.heap.objs.size::hid) μ (pz (σ++ao ext.length none) (pS (⟨it0,g,ts⟩::cs))) (pz (d_++ao ext.length none) (pS (⟨it0,g,ts⟩::cs))):=by
  refine ⟨by rw [Bx,Bx,ar,ar,e1.len];simp,fun i d h=>?_⟩
  obtain ⟨g1,g2⟩:=Ek _ _ _ _ h
  have hi:i<σ.length:=by
   by_cases hi:i<σ.length
   ·exact hi
   ·rw [a5 (by omega),eF] at g1
    split at g1<;>cases g1
  rw [aK hi] at g1
  obtain ⟨v,h1,h2⟩:=e1.at_ i d g1
  exact ⟨v,by rw [GK _ _ _ g2,aK (by rw [<- e1.len];exact hi)];exact h1,h2.mv Ib⟩
 have Jd:∀ b∈fp,tu X' [] (upd H s.heap.objs.size (C.ho X.prog X.w s.heap.objs.size)) b:=fun b rN=>by
  obtain ⟨f0,f1,f2,f3,f4,f5⟩:=wk b rN
  have h1:=IB.ok.exf
  refine ⟨by rw [o7 (qS b rN)];exact f0,?_,?_,.inl ?_,?_,?_⟩
  ·exact (h1 b (by rw [<- tX];exact rN)).1
  ·rw [<- tX]
   exact fun z=>IB.ok.exfs b (by rw [<- tX];exact rN) (by rw [<- tX];exact z)
  ·rw [<- tX];exact rN
  ·exact (h1 b (by rw [<- tX];exact rN)).2
  ·rw [<- tX]
   exact fun p hp=>absurd (show p∈([]:List (af×Obj)) from hp) (by simp)
 have i_:tn 0 (DZ ob s.heap scope.names):=T.keep _ _ _ st fun b _ o e=>N_ _ _ _ _ _ e
 have T':vS X'.prog X'.w X'.K tg J fp it tn:=by rw [eP,eW,eK];exact T
 have Pz:∀ (pI rD:St) H1 h_ H2 pd,ZB d_ ext.length (pS (⟨it0,g,ts⟩::cs)) s.heap.objs.size H pI H1 h_->(∀ j,j∉pS (⟨it0,g,ts⟩::cs)->rD[j]?=pI[j]?)->Ea s.heap.objs.size H1 h_ H2 pd->ZB d_ ext.length (pS (⟨it0,g,ts⟩::cs)) s.heap.objs.size H rD H2 pd:=
  fun pI rD H1 h_ H2 pd ⟨z1,z2,Dz,o,z3,z4⟩ k1 x1=>⟨fun j hj=>(k1 j hj).trans (z1 j hj),z2,Dz,o,z3.trans x1,z4⟩
 have key:=LR (X:=X') co (A:=s.heap.objs.size) (hid:=hid) (gens:=⟨tg,iter,ifs,0⟩::gs) (scope:=scope) (pos:=pos) (em:=em) (k:=0) (c:=⟨it0,g,ts⟩) (cs:=cs) ex ec rfl (by rw [eK];exact b1) b2 Pz (LB co ex ec (sl:=pS (⟨it0,g,ts⟩::cs)) Pz (b4 _ _) b3 (fun j m=>bo _ m) 1 rfl) (by
   cases b3 with
   | nil=>exact .inl rfl
   | cons _ _ _ _ _=>exact .inr ⟨_,_,_,rfl⟩) T' [] { s with heap:=DZ ob s.heap scope.names } (pz (d_++ao ext.length none) (pS (⟨it0,g,ts⟩::cs))) (upd H s.heap.objs.size (C.ho X.prog X.w s.heap.objs.size)) μ (pz (σ++ao ext.length none) (pS (⟨it0,g,ts⟩::cs))) O [] (src.size O)
   (fun s'=>KU X C pins d_ H hid μ s.heap.objs.size (s.heap.objs.size+1) acc O2 s') i_ Jd (by rw [eK];exact sa.mv Ib) ⟨fun j hj=>GK _ _ _ hj,nL,μ,_,.refl,fun a m=>by
    obtain ⟨k,e⟩:=List.getElem?_of_mem m
    obtain ⟨_,vs,_,h2,_⟩:=c1.at_ k a e
    exact ⟨vs,h2⟩⟩ ⟨IB,by rw [eK];exact e2,by rw [eK];exact c2,by rw [eK,eP,eW];exact co.g0⟩ ?_
 ·have CI:=M6 (X:=X') co (gens:=⟨tg,iter,ifs,0⟩::gs) (scope:=scope) (pos:=pos) (env:=X'.env) rfl T' 0 i_ key
  rw [eP,eW,eA] at CI
  exact eS CI fun r s' ⟨f,hr,q⟩=>by subst hr;exact hRR f s' q
 ·rw [hw]
  intro s' pe H' g_ I' x' c' g' l' k'
  rw [eK] at c'
  rw [eK,eP,eW] at g'
  have xe:Ext H μ H' g_:=⟨x'.pre,fun b o h n ht=>x'.kept b o (by rw [o7 (qU h nL)];exact h) n (qU h nL) ht,fun b m=>(x'.fresh b m).imp id fun z=>by
   by_cases q:b=s.heap.objs.size
   ·rw [q];exact nL
   ·rw [o7 q] at z;exact z,fun b h=>x'.there b (vC b h),fun P t=>x'.tab P (t.upd (.inl nL))⟩
  have un:Un (ql X.stack) fp H H' s.heap s'.heap:=by
   have:=I'.base
   rw [<- tX] at this
   exact this
  have os:s'.os=s.os:=by
   have:=I'.os
   rw [<- tX] at this
   exact this
  have hok:HOk X.prog X.w H' s'.heap:=by
   have:=I'.hok
   rw [eP,eW] at this
   exact this
  have IX:L2.Inv X pins d_ H' s':=I.call' os un hok I'.bare fun b rN=>by
   obtain ⟨f0,f1,f2,f3,f4,f5⟩:=wk b rN
   exact ⟨f3,f1,f4,f5⟩
  have big:∀ b,b<s.heap.objs.size->b≠s.heap.objs.size+1:=fun b h=>bi (cU h)
  refine ⟨⟨H',g_,IX,xe,c',nL,?_,g'⟩,?_,?_,?_,fun x c e=>?_,fun p hp=>?_⟩
  ·have:=I'.free
   rw [zK] at this
   exact this
  ·obtain ⟨m,hn,_⟩:=I'.loc
   rw [zK] at hn
   exact ⟨m,hn⟩
  ·exact (big _ I.lt).symm
  ·exact aU I.sz (ez _)
  ·obtain ⟨v,z⟩:=I.cell x c e
   exact big _ z.lt
  ·exact big _ (aG (I.pin p hp).1)
end
section
variable {X:Cx} {Ex:Nat->Hp->Prop}
theorem RW {α:Type} {r:R α} {a:α} {O:Ow} (h:wJ r=.ok a O):r=.ok a O:=by
 cases r with
 | ok _ _=>exact h
 | exc _ _=>cases h
 | bad=>cases h
theorem Ut {α:Type} {r:R α} {c:Nat} {O:Ow} (h:wJ r=.exc c O):False:=by
 cases r<;>cases h
noncomputable def D5 (C:uL) (Ex:Nat->Hp->Prop) (K:ai) (P:aH) (w:aP) (H:Hp) (hid μ:List af) (r:R (List D)) (Q:af->Hp->Prop):Prop:=match r with
 | .ok acc O'=>∀ L H' g_,H L=none->Ext H μ H' g_->nI K H' (L::hid) g_ O'->C.G K P w L hid H' g_ acc->Q L H'
 | .exc c O'=>∀ H' g_,Ext H μ H' g_->nI K H' hid g_ O'->Ex c H'
 | .bad=>False
theorem Ext.none {H H':Hp} {μ g_:List af} (e:Ext H μ H' g_) {L:af} (h:H' L=i7):H L=i7:=by
 cases q:H L with
 | none=>rfl
 | some o=>exact absurd h (e.there L (by rw [q];simp))
theorem Mu {C:uL} (co:Af C) {em:Em} {tg iter:aQ} {ifs:List aQ} {gs:List cq} {scope:cF} {pos oP:Pos} {ext:List Str} {it0:DI} {g:Tg} {ts:List DT} {cs:List Cl} {pins:List (af×Obj)} {d_:St} {H:Hp} {s:ag} {hid μ:List af} {σ:Sg} {O:Ow}
  {use:Option (ae->Sem Unit)} {Q:ae->ag->Prop} (qh:X.calm=true) (hi:uk X Ex tg iter it0) (hb:yq X.env.scope scope (X.N++ext) (pS (⟨it0,g,ts⟩::cs)))
  (vg:∀ cells Cn s' H' fp,L2.Inv X pins d_ H' s'->(∀ b∈fp,tu X pins H' b)->(∃ g_,Ext H μ H' g_)->PG (qM X (X.N++ext) scope cells Cn s' H' fp) tg (g.rd X.K)/\cS (fun e t=>qE (qM X (X.N++ext) scope cells Cn s' H' fp) rR e t) ifs ts/\n9 (qM X (X.N++ext) scope cells Cn s' H' fp) gs cs/\∀ A hid k,(⟨tg,iter,ifs,0⟩::gs:List cq)[k]?=none->yH (qM X (X.N++ext) scope cells Cn s' H' fp) (ZB d_ ext.length (pS (⟨it0,g,ts⟩::cs)) A H') C A hid (C.ex (⟨tg,iter,ifs,0⟩::gs) scope pos) (⟨tg,iter,ifs,0⟩::gs) em k [])
  (hs:∀ x,dD iter X.env x=pure x) (I:L2.Inv X pins d_ H s) (e1:nM X.K H hid μ σ d_) (c1:nI X.K H hid μ O)
  (q:D5 C Ex X.K X.prog X.w H hid μ (Ey ext.length it0 g ts cs em σ O)
   (fun (L:af) H'=>∀ s' Cn,L2.Inv X pins d_ H' s'->(∃ m,s'.heap.Ns Cn m)->H' Cn=none->Cn≠X.env.locals->X.s₀.heap.objs.size<=Cn->(∀ x c,X.env.cells.lookup x=some c->c≠Cn)->(∀ p∈X.pn++pins,p.1≠Cn)->
    compPost (av X.prog X.w) X.A X.xe use Q (.ref L) Cn (.ok .next) s')):
  am (av X.prog X.w) X.A (comprehension (C.ex (⟨tg,iter,ifs,0⟩::gs) scope pos) scope X.env oP C.new false (eval iter X.env) use) Q X.xe s:=by
 have pR:∀ y∈scope.names,y.2=.free->∃ c,X.env.cells.lookup y.1=some c:=fun y hy hf=>by
  obtain ⟨n,k⟩:=y
  subst hf
  exact I.ok.has n (hb.frees _ hy rfl)
 refine wpAny_comprehension_free (g:=⟨tg,iter,ifs,0⟩) (gs:=gs) (co.cl _ _ _) hs (Oe pR) hb.kind (fun x hx hl=>?_) ?_
 ·obtain ⟨n,k⟩:=x
  subst hl
  exact wF hb.nd hx
 unfold Ey at q
 cases hit:it0 σ O with
 | bad=>rw [hit] at q;exact ak q
 | exc c' O'=>
  rw [hit] at q
  refine oV (hi.out pins s d_ H (fun J H1=>False) I ⟨hid,μ,σ,O,e1,c1,by rw [hit];exact q⟩) fun v s1 h1=>oV h1 fun CJ s2 h2=>?_
  obtain ⟨it,fp,tn,J,H2,e,I2,T,pB,f2,z⟩:=h2
  exact z.elim
 | ok src O2=>
  rw [hit] at q
  refine oV (hi.out pins s d_ H (fun J H1=>∃ h_,Ext H μ H1 h_/\nI X.K H1 hid h_ O2/\nQ X.K J src H1 hid h_) I ⟨hid,μ,σ,O,e1,c1,by rw [hit];exact fun J H1 h_ x c sa=>⟨h_,x,c,sa⟩⟩) fun v s1 h1=>oV h1 fun CJ s2 h2=>?_
  obtain ⟨it,fp,tn,J,H2,e,I2,T,pB,f2,pd,x2,c2,sa⟩:=h2
  subst e
  have p:D5 C Ex X.K X.prog X.w H hid μ (wJ (qc src (tz ⟨it0,g,ts⟩ cs em (pz (σ++ao ext.length none) (pS (⟨it0,g,ts⟩::cs)))) (src.size O2) 0 O2 [])) _:=q
  cases hw:wJ (qc src (tz ⟨it0,g,ts⟩ cs em (pz (σ++ao ext.length none) (pS (⟨it0,g,ts⟩::cs)))) (src.size O2) 0 O2 []) with
  | bad=>rw [hw] at p;exact ak p
  | exc c' O'=>exact (Ut hw).elim
  | ok acc O3=>
   rw [hw] at p
   refine Yg co (RR:=fun ac Cn=>compPost (av X.prog X.w) X.A X.xe use Q ac Cn) qh hb (fun cells Cn=>vg cells Cn _ _ _ I2 f2 ⟨_,x2⟩) I2 (e1.ext x2) c2 T pB f2 sa (RW hw) fun f s' Bh=>?_
   obtain ⟨H',g_,I',x',c',nL,nC,gv⟩:=Bh.inv
   have:=p (s2.heap.objs.size) H' g_ (x2.none nL) (x2.trans x') c' gv s' (s2.heap.objs.size+1) I' Bh.ns nC Bh.loc Bh.young Bh.cel Bh.pns
   unfold compPost at this ⊢
   cases use<;>exact this
theorem NK (c:nI K H (L::hid) μ O) (n1:L∉hid) (h:H L=some (.lst vs)) (q:nJ K H (L::hid) μ ds vs):Dat K H hid μ (.lst ds) (.ref L):=by
 unfold Dat
 exact ⟨L,vs,rfl,.inl ⟨.inl h,n1,fun m=>c.nh L m (by simp)⟩,q.mv .unhide⟩
mutual
theorem Dat.swap:∀ {d:D} {v:V},Dat K H (L::hid) μ d v->Dat K H hid (μ++[L]) d v
 | .non,_,h=>h
 | .bl _,_,h=>h
 | .int _,_,h=>h
 | .str _,_,h=>h
 | .lst ds,v,h=>by
  unfold Dat at h ⊢
  obtain ⟨a,vs,r,l,q⟩:=h
  refine ⟨a,vs,r,l.imp (fun z=>⟨z.1,fun m=>z.2.1 (aq _ m),fun m=>?_⟩) id,nJ.swap q⟩
  rcases aN.mp m with m|m
  ·exact z.2.2 m
  ·exact z.2.1 (by simp at m;simp [m])
 | .tup ds,v,h=>by
  unfold Dat at h ⊢
  obtain ⟨a,vs,r,l,q⟩:=h
  refine ⟨a,vs,r,l.imp (fun z=>⟨z.1,fun m=>z.2.1 (aq _ m),fun m=>?_⟩) id,nJ.swap q⟩
  rcases aN.mp m with m|m
  ·exact z.2.2 m
  ·exact z.2.1 (by simp at m;simp [m])
 | .own k,v,h=>by
  unfold Dat at h ⊢
  obtain ⟨a,r,q⟩:=h
  exact ⟨a,r,by rw [aK (al.mp q).1];exact q⟩
 | .dct,v,h=>by
  unfold Dat at h ⊢
  obtain ⟨a,r,q,n1,n2⟩:=h
  refine ⟨a,r,q,fun m=>n1 (aq _ m),fun m=>?_⟩
  rcases aN.mp m with m|m
  ·exact n2 m
  ·exact n1 (by simp at m;simp [m])
 | .exn C,v,h=>by
  unfold Dat at h ⊢
  obtain ⟨a,φ,r,g,q,n1,n2⟩:=h
  refine ⟨a,φ,r,g,q,fun m=>n1 (aq _ m),fun m=>?_⟩
  rcases aN.mp m with m|m
  ·exact n2 m
  ·exact n1 (by simp at m;simp [m])
 | .tab P,v,h=>by
  unfold Dat at h ⊢
  exact h
 | .map ks ds,v,h=>by
  unfold Dat at h ⊢
  obtain ⟨a,vs,r,q,n1,n2,hl,d⟩:=h
  refine ⟨a,vs,r,q,fun m=>n1 (aq _ m),fun m=>?_,hl,nJ.swap d⟩
  rcases aN.mp m with m|m
  ·exact n2 m
  ·exact n1 (by simp at m;simp [m])
 | .adr _,_,h=>h
theorem nJ.swap:∀ {ds:List D} {vs:List V},nJ K H (L::hid) μ ds vs->nJ K H hid (μ++[L]) ds vs
 | [],_,h=>h
 | d::ds,vs,h=>by
  unfold nJ at h ⊢
  obtain ⟨v,r,e1,h1,h2⟩:=h
  exact ⟨v,r,e1,Dat.swap h1,nJ.swap h2⟩
end
theorem nI.swap (c:nI K H (L::hid) μ O) (n1:L∉hid) (h:H L=some (.lst vs)) (q:nJ K H (L::hid) μ ds vs):nI K H hid (μ++[L]) (O++[ds]):=by
 have nm:L∉μ:=fun m=>c.nh L m (by simp)
 refine ⟨by simp [c.len],?_,fun a m=>?_,fun a m=>c.ht a (aq _ m),fun k a e=>?_⟩
 ·rw [fu]
  refine ⟨c.nd,by simp,fun a ha b hb=>?_⟩
  have:b=L:=by simpa using hb
  subst this
  rintro rfl
  exact nm ha
 ·rcases aN.mp m with m|m
  ·exact fun z=>c.nh a m (aq _ z)
  ·have:a=L:=by simpa using m
   subst this;exact n1
 ·by_cases hk:k<μ.length
  ·rw [aK hk] at e
   obtain ⟨vc,xh,h1,h2,h3⟩:=c.at_ k a e
   exact ⟨vc,xh,by rw [aK (by rw [<- c.len];exact hk)];exact h1,h2,h3.swap⟩
  ·rw [a5 (by omega)] at e
   have e0:k-μ.length=0:=by
    have:=(al.mp e).1
    simp at this;omega
   rw [e0] at e
   simp at e;subst e
   refine ⟨ds,vs,?_,h,q.swap⟩
   have:k=O.length:=by have:=c.len;omega
   subst this;simp
theorem Ext.grow (e:Ext H μ H' g_) (h:H L=i7):Ext H μ H' (g_++[L]):=by
 obtain ⟨ν,rfl⟩:=e.pre
 refine ⟨⟨ν++[L],by simp⟩,e.kept,fun b m=>?_,e.there,e.tab⟩
 rcases aN.mp m with m|m
 ·exact e.fresh b m
 ·have:b=L:=by simpa using m
  subst this;exact .inr h
noncomputable def uq (o:Bool) (r:R (List D)):R D:=r.bnd fun acc O1=>if o=true then .ok (.own O1.length) (O1++[acc]) else .ok (.lst acc) O1
theorem Wc (c1:nI K H hid μ O) (q:p9 Ex K H hid μ (uq o r) Q) (h:∀ L H',Q (.ref L) H'->Q1 L H'):D5 (yG elt) Ex K P w H hid μ r Q1:=by
 cases r with
 | bad=>exact q
 | exc c' O'=>exact q
 | ok acc O'=>
  intro L H' g_ nL x c ⟨vs,hv,dv⟩
  have n1:L∉hid:=fun m=>c1.ht L m nL
  cases o with
  | false=>exact h L H' (post.ok (show p9 Ex K H hid μ (.ok (.lst acc) O') Q from q) x c.unhide (NK c n1 hv dv))
  | true=>exact h L H' (post.ok (show p9 Ex K H hid μ (.ok (.own O'.length) (O'++[acc])) Q from q) (x.grow nL) (c.swap n1 hv dv) (AD c.len))
theorem Xw (c1:nI K H hid μ O) (e1:nM K H hid μ σ d_) (q:nN Ex K H hid μ ((uq o r).bnS fun d O1=>.nx (σ.set i (some d)) O1) E) (h:∀ L H',E.nx (d_.set i (some (.ref L))) H'->Q1 L H'):
  D5 (yG elt) Ex K P w H hid μ r Q1:=by
 cases r with
 | bad=>exact q
 | exc c' O'=>exact q
 | ok acc O'=>
  intro L H' g_ nL x c ⟨vs,hv,dv⟩
  have n1:L∉hid:=fun m=>c1.ht L m nL
  cases o with
  | false=>
   have q:nN Ex K H hid μ (.nx (σ.set i (some (.lst acc))) O') E:=q
   exact h L H' (q _ H' g_ x ((e1.ext x).set (NK c n1 hv dv) i) c.unhide)
  | true=>
   have q:nN Ex K H hid μ (.nx (σ.set i (some (.own O'.length))) (O'++[acc])) E:=q
   exact h L H' (q _ H' (g_++[L]) (x.grow nL) ((e1.ext (x.grow nL)).set (AD c.len) i) (c.swap n1 hv dv))
theorem J_ {elt tg iter:aQ} {ifs:List aQ} {gs:List cq} {scope:cF} {pos:Pos} {ext:List Str} {g:Tg} {ts:List DT} {cs:List Cl} {te:DE} {Z:af->Hp->St->Hp->List af->Prop}
  (vg:∀ cells C s H fp,PG (qM X (X.N++ext) scope cells C s H fp) tg (g.rd X.K)/\cS (fun e t=>qE (qM X (X.N++ext) scope cells C s H fp) rR e t) ifs ts/\n9 (qM X (X.N++ext) scope cells C s H fp) gs cs/\PD (qM X (X.N++ext) scope cells C s H fp) rR elt te) (cells Cn s H fp):
  PG (qM X (X.N++ext) scope cells Cn s H fp) tg (g.rd X.K)/\cS (fun e t=>qE (qM X (X.N++ext) scope cells Cn s H fp) rR e t) ifs ts/\n9 (qM X (X.N++ext) scope cells Cn s H fp) gs cs/\∀ A hid k,(⟨tg,iter,ifs,0⟩::gs:List cq)[k]?=none->yH (qM X (X.N++ext) scope cells Cn s H fp) (Z A H) (yG elt) A hid ((yG elt).ex (⟨tg,iter,ifs,0⟩::gs) scope pos) (⟨tg,iter,ifs,0⟩::gs) (xE te) k []:=
 let ⟨h1,h2,h3,h4⟩:=vg cells Cn s H fp
 ⟨h1,h2,h3,fun _ _ _ hk=>Xi rfl h4.z hk⟩
noncomputable def pG (o:Bool) (ext:Nat) (it0:DI) (g:Tg) (ts:List DT) (cs:List Cl) (te:DE):DE:=fun σ O=>uq o (xY ext it0 g ts cs te σ O)
theorem U7 (o:Bool) (ext:List Str) (qh:X.calm=true) (hi:uk X Ex tg iter it0) (hb:yq X.env.scope scope (X.N++ext) (pS (⟨it0,g,ts⟩::cs)))
  (vg:∀ cells C s H fp,PG (qM X (X.N++ext) scope cells C s H fp) tg (g.rd X.K)/\cS (fun e t=>qE (qM X (X.N++ext) scope cells C s H fp) rR e t) ifs ts/\n9 (qM X (X.N++ext) scope cells C s H fp) gs cs/\PD (qM X (X.N++ext) scope cells C s H fp) rR elt te)
  (hs:∀ x,dD iter X.env x=pure x:=by intro _;rfl):PD X Ex (.ListComp elt (⟨tg,iter,ifs,0⟩::gs) scope pos) (pG o ext.length it0 g ts cs te):=by
 refine ⟨?_⟩
 rintro pins s d_ H Q I ⟨hid,μ,σ,O,e1,c1,q⟩
 rw [eval_ListComp]
 unfold pG at q
 rw [<- NX] at q
 refine Mu (MT elt) (use:=none) qh hi hb (fun cells Cn s H fp _ _ _=>J_ vg cells Cn s H fp) hs I e1 c1 (Wc c1 q fun L H' hQ s' C I' ns nC l1 y1 ce pn=>?_)
 obtain ⟨m,hn⟩:=ns
 exact ⟨m,hn,fun h' wK=>⟨.ref L,H',Inv.bare I' wK nC l1 y1 ce pn,rfl,hQ⟩⟩
theorem Zb (o:Bool) (ext:List Str) (qh:X.calm=true) (hN:X.N.Nodup) (Ja:X.N[i]?=some y) (hy:X.env.scope.names.lookup y=some .local)
  (hi:uk X Ex tg iter it0) (hb:yq X.env.scope scope (X.N++ext) (pS (⟨it0,g,ts⟩::cs)))
  (vg:∀ cells C s H fp,PG (qM X (X.N++ext) scope cells C s H fp) tg (g.rd X.K)/\cS (fun e t=>qE (qM X (X.N++ext) scope cells C s H fp) rR e t) ifs ts/\n9 (qM X (X.N++ext) scope cells C s H fp) gs cs/\PD (qM X (X.N++ext) scope cells C s H fp) rR elt te)
  (IG:swapsWith (.ListComp elt (⟨tg,iter,ifs,0⟩::gs) scope pos) (some (.Name y py)) uU.line X.env=pure true)
  (hs:∀ x,dD iter X.env x=pure x:=by intro _;rfl):rC X Ex (.Assign [.Name y py] (.ListComp elt (⟨tg,iter,ifs,0⟩::gs) scope pos) uU) (oX i (pG o ext.length it0 g ts cs te)):=by
 refine ⟨?_⟩
 rintro pins s d_ H E I ⟨hid,μ,σ,O,e1,c1,q⟩
 rw [exec_Assign_Name_used _ _ _ _ IG]
 refine aa (gg (aa ?_))
 show am _ X.A (do let _ <- comprehension (.ListComp elt (⟨tg,iter,ifs,0⟩::gs) scope pos) scope X.env _ (newList []) false (eval iter X.env) (some (assign (.Name y py) X.env))) _ _ s
 have q:nN Ex X.K H hid μ ((uq o (xY ext.length it0 g ts cs te σ O)).bnS fun d O1=>.nx (σ.set i (some d)) O1) E:=q
 rw [<- NX] at q
 refine aa (dF (Mu (MT elt) (use:=some (assign (.Name y py) X.env)) (Q:=fun _ s'=>SP X pins E .next s') qh hi hb (fun cells Cn s H fp _ _ _=>J_ vg cells Cn s H fp) hs I e1 c1 (Xw c1 e1 q fun L H' hQ s' C I' ns nC l1 y1 ce pn=>?_)) (fun _ s' hq=>aj (aj hq)) fun _ _ e=>e)
 obtain ⟨m,hn⟩:=ns
 show am _ _ (assign (.Name y py) X.env (.ref L)) _ _ s'
 refine wpAny_assign_Name (Nr (v:=.ref L) I' hN Ja (.inl hy) rfl (fun qf I'' CO=>?_) (.inr hy))
 obtain ⟨a,IH,ha⟩:=CO
 have hCa:C≠a:=by
  rcases ha with z|z
  ·rw [z];exact l1
  ·exact fun e=>ce y a z e.symm
 refine ⟨m,hn.sameBut IH hCa,fun h' wK=>?_⟩
 exact ⟨_,H',Inv.bare I'' wK nC l1 y1 ce pn,hQ⟩
end
noncomputable def o6 {α β:Type} (f:α->Option β):List α->Option (List β)
 | []=>some []
 | x::xs=>match f x,o6 f xs with
  | some p,some ps=>some (p::ps)
  | _,_=>none
noncomputable def vn (cs:List Nat):Option dP:=if cs.all (· < 1114112)=true then some (.str ⟨cs.toArray⟩) else none
noncomputable def pJ (O:Ow):Nat->D->Option dP
 | 0,d=>match d with
  | .non=>some .none
  | .bl b=>some (.bool b)
  | .int i=>some (.int i)
  | .str cs=>vn cs
  | _=>none
 | n+1,d=>match d with
  | .non=>some .none
  | .bl b=>some (.bool b)
  | .int i=>some (.int i)
  | .str cs=>vn cs
  | .lst ds=>(o6 (pJ O n) ds).map .list
  | .tup ds=>(o6 (pJ O n) ds).map .tuple
  | .own k=>match O[k]? with
   | some ds=>(o6 (pJ O n) ds).map .list
   | none=>none
  | .dct=>none
  | .exn _=>none
  | .tab _=>none
  | .map _ _=>none
  | .adr _=>none
section
variable {X:Cx} {pins:List (af×Obj)} {d_:St} {H:Hp} {s:ag} {hid μ:List af} {O:Ow}
theorem EM (I:L2.Inv X pins d_ H s) (ih:∀ (d:D) (v:V) (u:ae) (p:dP),Dat X.K H hid μ d v->RelV v u->pJ O n d=some p->∃ as,Reads s.heap u p as/\p.canLay0=true/\p.depth<=n):
  ∀ (ds:List D) (vs:List V) (us:List ae) (ps:List dP),nJ X.K H hid μ ds vs->nK vs us->o6 (pJ O n) ds=some ps->∃ as,ReadsAll s.heap us ps as/\l8 ps=true/\mO ps<=n
 | [],vs,us,ps,h,r,e=>by
  unfold nJ at h;subst h
  cases r
  cases e
  exact ⟨[],.nil,rfl,cz _⟩
 | d::ds,vs,us,ps,h,r,e=>by
  unfold nJ at h
  obtain ⟨v,t,rfl,h1,h2⟩:=h
  cases r with
  | cons r1 r2=>
   unfold o6 at e
   split at e
   ·rename_i p Fg e1 e2
    cases e
    obtain ⟨as,q1,q2,q3⟩:=ih d v _ p h1 r1 e1
    obtain ⟨bs,z1,z2,z3⟩:=EM I ih ds t _ Fg h2 r2 e2
    refine ⟨as++bs,.cons q1 z1,?_,?_⟩
    ·unfold l8;rw [q2,z2];rfl
    ·unfold mO;exact Nat.max_le.mpr ⟨q3,z3⟩
   ·cases e
theorem NW (e:vn cs=some p):∃ as,Reads s.heap (.str ⟨cs.toArray⟩ t) p as/\p.canLay0=true/\p.depth<=n:=by
 unfold vn at e
 split at e
 ·rename_i hc
  cases e
  exact ⟨[],.str _ _,by unfold iV PyData.strOk;simpa using hc,cz _⟩
 ·cases e
theorem yc (I:L2.Inv X pins d_ H s) (c:nI X.K H hid μ O):∀ (n:Nat) (d:D) (v:V) (u:ae) (p:dP),Dat X.K H hid μ d v->RelV v u->pJ O n d=some p->∃ as,Reads s.heap u p as/\p.canLay0=true/\p.depth<=n:=by
 intro n
 induction n with
 | zero=>
  intro d v u p h r e
  cases d with
  | non=>unfold Dat at h;subst h;cases r;cases e;exact ⟨[],.none,rfl,cz _⟩
  | bl b=>unfold Dat at h;subst h;cases r;cases e;exact ⟨[],.bool _,rfl,cz _⟩
  | int b=>unfold Dat at h;subst h;obtain ⟨t,rfl⟩:=r;cases e;exact ⟨[],.int _ _,rfl,cz _⟩
  | str cs=>
   unfold Dat at h;subst h;obtain ⟨t,rfl⟩:=r
   exact NW (show vn cs=some p from e)
  | _=>cases e
 | succ n ih=>
  intro d v u p h r e
  cases d with
  | non=>unfold Dat at h;subst h;cases r;cases e;exact ⟨[],.none,rfl,cz _⟩
  | bl b=>unfold Dat at h;subst h;cases r;cases e;exact ⟨[],.bool _,rfl,cz _⟩
  | int b=>unfold Dat at h;subst h;obtain ⟨t,rfl⟩:=r;cases e;exact ⟨[],.int _ _,rfl,cz _⟩
  | str cs=>
   unfold Dat at h;subst h;obtain ⟨t,rfl⟩:=r
   exact NW (show vn cs=some p from e)
  | lst ds=>
   unfold Dat at h
   obtain ⟨a,vs,rfl,l,q⟩:=h
   cases r
   have e:(o6 (pJ O n) ds).map d9=some p:=e
   cases e1:o6 (pJ O n) ds with
   | none=>rw [e1] at e;cases e
   | some ps=>
    rw [e1] at e;cases e
    obtain ⟨f_,rv,⟨o,k,ho,hc,hd,C_⟩,hz⟩:=I.list l.sq
    obtain ⟨as,z1,z2,z3⟩:=EM I ih ds vs f_ ps q rv e1
    exact ⟨_,.list ho hc C_ (by simpa using z1),by unfold iV;exact z2,by unfold lP;omega⟩
  | tup ds=>
   unfold Dat at h
   obtain ⟨a,vs,rfl,l,q⟩:=h
   cases r
   have e:(o6 (pJ O n) ds).map gH=some p:=e
   cases e1:o6 (pJ O n) ds with
   | none=>rw [e1] at e;cases e
   | some ps=>
    rw [e1] at e;cases e
    obtain ⟨f_,rv,⟨o,ho,hc,k,C_⟩,hz⟩:=I.tuple l.sq
    obtain ⟨as,z1,z2,z3⟩:=EM I ih ds vs f_ ps q rv e1
    exact ⟨_,.tuple ho hc C_ (by simpa using z1),by unfold iV;exact z2,by unfold lP;omega⟩
  | own k=>
   unfold Dat at h
   obtain ⟨a,rfl,hk⟩:=h
   cases r
   obtain ⟨ds,vs,h1,h2,h3⟩:=c.at_ k a hk
   have e:(match O[k]? with|some ds=>(o6 (pJ O n) ds).map d9|none=>none)=some p:=e
   rw [h1] at e
   cases e1:o6 (pJ O n) ds with
   | none=>simp only [e1] at e;cases e
   | some ps=>
    simp only [e1] at e;cases e
    obtain ⟨f_,rv,⟨o,k',ho,hc,hd,C_⟩,hz⟩:=I.list (.of h2)
    obtain ⟨as,z1,z2,z3⟩:=EM I ih ds vs f_ ps h3 rv e1
    exact ⟨_,.list ho hc C_ (by simpa using z1),by unfold iV;exact z2,by unfold lP;omega⟩
  | dct=>cases e
  | exn _=>cases e
  | tab _=>cases e
  | map _ _=>cases e
  | adr _=>cases e
end
def py (O:Ow) (d:D):Option dP:=pJ O 8 d
noncomputable def xl (K:ai) (f:dP->dP->Option Bool):R2:=fun v w H Q=>∃ hid μ O x y a b k,nI K H hid μ O/\Dat K H hid μ x v/\Dat K H hid μ y w/\py O x=some a/\py O y=some b/\f a b=some k/\Q (.bl k) H
noncomputable def oQ (f:dP->dP->Option Bool):Ow->D->D->R D:=fun O x y=>match py O x,py O y with
 | some a,some b=>match f a b with
  | some k=>.ok (.bl k) O
  | none=>.bad
 | _,_=>.bad
section
variable {X:Cx} {Ex:Nat->Hp->Prop}
theorem zX:qK X Ex (xl X.K f) (oQ f):=by
 intro H hid μ O x y v w Q c dx dy q
 unfold oQ at q
 split at q
 ·rename_i a b e1 e2
  split at q
  ·rename_i k e3
   exact ⟨hid,μ,O,x,y,a,b,k,c,dx,dy,e1,e2,e3,post.here q c sW⟩
  ·exact ak q
 ·exact ak q
def qp:dP->dP->Option Bool:=fun a b=>some (a0 a b)
def qg:dP->dP->Option Bool:=fun a b=>some (!PyData.eqv a b)
noncomputable def yg:dP->dP->Option Bool:=fun a b=>match b with
 | .list xs=>some (xs.any fun y=>a0 y a)
 | .tuple xs=>some (xs.any fun y=>a0 y a)
 | _=>none
noncomputable def zO:dP->dP->Option Bool:=fun a b=>match b with
 | .list xs=>some (!xs.any fun y=>a0 y a)
 | .tuple xs=>some (!xs.any fun y=>a0 y a)
 | _=>none
theorem Er (h1:p.canLay0=true) (h2:p.depth<=8):nv p=true:=by
 unfold nv
 rw [h1,decide_eq_true (show p.depth<=64 by omega)];rfl
theorem LQ (hu:X.A.units+64<cLine):pH X (cw .Eq) (xl X.K qp):=by
 intro pins s σ H x y v u Q I rx ry h
 obtain ⟨hid,μ,O,dx,dy,a,b,k,c,h1,h2,e1,e2,e3,q⟩:=h
 obtain ⟨as,z1,z2,z3⟩:=yc I c 8 dx x v a h1 rx e1
 obtain ⟨bs,y1,y2,y3⟩:=yc I c 8 dy y u b h2 ry e2
 cases e3
 exact PyProof.Rows.eq_dataH z1 y1 (Er z2 z3) (Er y2 y3) hu ⟨.bl _,H,I,rfl,q⟩
theorem LG (hu:X.A.units+64<cLine):pH X (cw .NotEq) (xl X.K qg):=by
 intro pins s σ H x y v u Q I rx ry h
 obtain ⟨hid,μ,O,dx,dy,a,b,k,c,h1,h2,e1,e2,e3,q⟩:=h
 obtain ⟨as,z1,z2,z3⟩:=yc I c 8 dx x v a h1 rx e1
 obtain ⟨bs,y1,y2,y3⟩:=yc I c 8 dy y u b h2 ry e2
 cases e3
 exact PyProof.Rows.ne_dataH z1 y1 (Er z2 z3) (Er y2 y3) hu ⟨.bl _,H,I,rfl,q⟩
theorem D2 {A:aW} {n m:Nat} (h:m<=8) (hu:A.units+64<cLine):A.units+1+min n m<cLine:=by
 have:=mB n m
 omega
theorem VF (hu:X.A.units+64<cLine):pH X (cw .In) (xl X.K yg):=by
 intro pins s σ H x y v u Q I rx ry h
 obtain ⟨hid,μ,O,dx,dy,a,b,k,c,h1,h2,e1,e2,e3,q⟩:=h
 obtain ⟨as,z1,z2,z3⟩:=yc I c 8 dx x v a h1 rx e1
 obtain ⟨bs,y1,y2,y3⟩:=yc I c 8 dy y u b h2 ry e2
 cases b with
 | list xs=>cases e3;exact SeqAt.in_list_reads y1 z1 y2 z2 (D2 z3 hu) ⟨.bl _,H,I,rfl,q⟩
 | tuple xs=>cases e3;exact SeqAt.in_tuple_reads y1 z1 y2 z2 (D2 z3 hu) ⟨.bl _,H,I,rfl,q⟩
 | _=>cases e3
theorem Xc (hu:X.A.units+64<cLine):pH X (cw .NotIn) (xl X.K zO):=by
 intro pins s σ H x y v u Q I rx ry h
 obtain ⟨hid,μ,O,dx,dy,a,b,k,c,h1,h2,e1,e2,e3,q⟩:=h
 obtain ⟨as,z1,z2,z3⟩:=yc I c 8 dx x v a h1 rx e1
 obtain ⟨bs,y1,y2,y3⟩:=yc I c 8 dy y u b h2 ry e2
 cases b with
 | list xs=>cases e3;exact SeqAt.notIn_list_reads y1 z1 y2 z2 (D2 z3 hu) ⟨.bl _,H,I,rfl,q⟩
 | tuple xs=>cases e3;exact SeqAt.notIn_tuple_reads y1 z1 y2 z2 (D2 z3 hu) ⟨.bl _,H,I,rfl,q⟩
 | _=>cases e3
end
end DL
namespace DL
open PySem L2
section
variable {e:aQ}
def qI (O:Ow):D->Option (List D)
 | .lst ds=>some ds
 | .own k=>O[k]?
 | _=>none
def xj:D->Option (List D)
 | .tup ds=>some ds
 | _=>none
theorem uP (cl:nI K H hid μ O) (h:Dat K H hid μ d v) (e:qI O d=some ds):∃ p vs,v=.ref p/\pV K H p vs/\nJ K H hid μ ds vs:=by
 cases d with
 | lst xs=>
  unfold Dat at h
  obtain ⟨p,vs,rfl,l,q⟩:=h
  cases e
  exact ⟨p,vs,rfl,l.sq,q⟩
 | own k=>
  unfold Dat at h
  obtain ⟨p,rfl,hk⟩:=h
  obtain ⟨vc,vs,h1,h2,h3⟩:=cl.at_ k p hk
  have e:O[k]?=some ds:=e
  rw [h1] at e;cases e
  exact ⟨p,vs,rfl,.of h2,h3⟩
 | _=>cases e
theorem Ae (h:Dat K H hid μ d v) (e:xj d=some ds):∃ p vs,v=.ref p/\qu K H p vs/\nJ K H hid μ ds vs:=by
 cases d with
 | tup xs=>
  unfold Dat at h
  obtain ⟨p,vs,rfl,l,q⟩:=h
  cases e
  exact ⟨p,vs,rfl,l.sq,q⟩
 | _=>cases e
noncomputable def zmS:Ow->D->D->R D:=fun O x y=>match x,y with
 | .str s,.str t=>if s.length+t.length<=100000 then .ok (.str (s++t)) O else .bad
 | _,_=>.bad
end
theorem Mz (h:nJ K H hid μ ds vs) (e:atI ds i=some d):∃ v,atI vs i=some v/\Dat K H hid μ d v:=by
 unfold atI at e ⊢
 rw [<- h.length]
 cases q:ixN ds.length i with
 | none=>rw [q] at e;cases e
 | some j=>rw [q] at e;exact h.get e
noncomputable def pf:Ow->D->D->R D:=fun O x y=>match y with
 | .int i=>match qI O x with
  | some ds=>match atI ds i with
   | some d=>.ok d O
   | none=>.bad
  | none=>match xj x with
   | some ds=>match atI ds i with
    | some d=>.ok d O
    | none=>.bad
   | none=>match x with
    | .str cs=>if cs.length<=100000 then match atI cs i with
      | some ch=>.ok (.str [ch]) O
      | none=>.bad
     else .bad
    | _=>.bad
 | _=>.bad
section
variable {X:Cx} {Ex:Nat->Hp->Prop} {pos:Pos} {a b c e:aQ} {ta tb:DE}
theorem Sk:qK X Ex (OK X.K) pf:=by
 intro H hid μ O x y v w Q c dx dy q
 unfold pf at q
 split at q
 ·rename_i i
  unfold Dat at dy;subst dy
  split at q
  ·rename_i ds e
   obtain ⟨p,vs,rfl,sq,dd⟩:=uP c dx e
   split at q
   ·rename_i d ed
    obtain ⟨z,h1,h2⟩:=Mz dd ed
    exact .inl ⟨p,vs,i,z,rfl,rfl,sq,h1,post.here q c h2⟩
   ·exact ak q
  ·split at q
   ·rename_i ds e
    obtain ⟨p,vs,rfl,sq,dd⟩:=Ae dx e
    split at q
    ·rename_i d ed
     obtain ⟨z,h1,h2⟩:=Mz dd ed
     exact .inr (.inl ⟨p,vs,i,z,rfl,rfl,sq,h1,post.here q c h2⟩)
    ·exact ak q
   ·split at q
    ·rename_i cs _ _
     unfold Dat at dx;subst dx
     obtain ⟨hl,q⟩:=post.ite q
     split at q
     ·rename_i ch ed
      refine .inr (.inr ⟨_,i,ch,rfl,rfl,?_,?_,post.here q c GH⟩)
      ·show cs.toArray.size<=_
       rw [az];exact wG hl
      ·simpa using ed
     ·exact ak q
    ·exact ak q
 ·exact ak q
theorem Ri (ha:PD X Ex a ta) (hb:PD X Ex b tb) (hs:Mb b):PD X Ex (.Subscript a b pos) (e_ pf ta tb):=qz (QY Sy ha.out hb.out hs) (Ef Sk)
def oU (f:Ow->List D->R D) (t:DA):DE:=fun σ O=>(t σ O).bnd fun xs O1=>f O1 xs
noncomputable def uM (X:Cx) (Ex:Nat->Hp->Prop) (r:List V->Hp->VK->Prop) (f:Ow->List D->R D):Prop:=∀ (H:Hp) (hid μ:List af) (O:Ow) (xs:List D) (vs:List V) (Q:VK),nI X.K H hid μ O->nJ X.K H hid μ xs vs->p9 Ex X.K H hid μ (f O xs) Q->r vs H Q
theorem K1 (h:uM X Ex r f) (hid μ:List af) (σ:Sg) (O:Ow) (d_:St) (H:Hp) (Q:VK) (e1:nM X.K H hid μ σ d_) (c1:nI X.K H hid μ O) (q:p9 Ex X.K H hid μ (oU f t σ O) Q):HN r (sY Ex X.K t) d_ H Q:=
 sY.go e1 c1 q fun xs O1 vs H1 h_ e2 x c d p=>h H1 hid h_ O1 xs vs Q c d p
theorem BD {x:Str} {id:String} {p:Pos} {es:List aQ} {r:List V->Hp->VK->Prop} {f:Ow->List D->R D} {t:DA} (hc:nU X (.builtin id) r) (h:uM X Ex r f) (hg:Gl X x) (hm:X.mg x=none) (hv:a9 x=some (.builtin id)) (ha:rZ X Ex (e::es) t)
  (hn:x ≠ "__name__":=by decide) (qX:(x==("__debug__":Str))=false:=by decide) (he:aD (e::es) X.env=(false,eval e X.env)::aD es X.env:=by rfl) (p_:(backTo pos (aD es X.env)).any (·.1)=false:=by rfl):
  PD X Ex (.Call (.Name x p) (e::es) [] pos) (oU f t):=qz (Aw hc hg hm hv ha.out hn qX he p_) (K1 h)
theorem EH (hc:nU X (.type T) r) (h:uM X Ex r f) (hg:Gl X x) (hm:X.mg x=none) (hv:a9 x=some (.type T)) (ha:rZ X Ex (e::es) t)
  (hn:x ≠ "__name__":=by decide) (qX:(x==("__debug__":Str))=false:=by decide) (he:aD (e::es) X.env=(false,eval e X.env)::aD es X.env:=by rfl) (p_:(backTo pos (aD es X.env)).any (·.1)=false:=by rfl):
  PD X Ex (.Call (.Name x p) (e::es) [] pos) (oU f t):=qz (Nq hc hg hm hv ha.out hn qX he p_) (K1 h)
noncomputable def qa:Ow->List D->R D:=fun O xs=>match xs with
 | [x]=>match qI O x with
  | some ds=>.ok (.int ds.length) O
  | none=>match xj x with
   | some ds=>.ok (.int ds.length) O
   | none=>match x with
    | .str cs=>if cs.length<=100000 then .ok (.int cs.length) O else .bad
    | _=>.bad
 | _=>.bad
theorem SU:uM X Ex (fun xs H Q=>∃ x n,xs=[x]/\J7 X.K x H n/\Q (.int n) H) qa:=by
 intro H hid μ O xs vs Q c d q
 unfold qa at q
 split at q
 ·rename_i x
  obtain ⟨v,rfl,dx⟩:=tx d
  split at q
  ·rename_i ds e
   obtain ⟨p,ws,rfl,sq,dd⟩:=uP c dx e
   exact ⟨_,ds.length,rfl,.inl ⟨ws,sq,dd.length⟩,post.here q c q9⟩
  ·split at q
   ·rename_i ds e
    obtain ⟨p,ws,rfl,sq,dd⟩:=Ae dx e
    exact ⟨_,ds.length,rfl,.inr ⟨ws,sq,dd.length⟩,post.here q c q9⟩
   ·split at q
    ·rename_i cs _ _
     unfold Dat at dx;subst dx
     obtain ⟨hl,q⟩:=post.ite q
     refine ⟨_,cs.length,rfl,⟨?_,?_⟩,post.here q c q9⟩
     ·show cs.toArray.size<=_
      rw [az];exact wG hl
     ·show cs.length=cs.toArray.size
      rw [az]
    ·exact ak q
 ·exact ak q
noncomputable def FV:Ow->List D->R D:=fun O xs=>match xs with
 | [.int i]=>.ok (.int i) O
 | [.bl k]=>.ok (.int (if k then 1 else 0)) O
 | _=>.bad
theorem Si:uM X Ex (fun xs H Q=>(∃ i,xs=[.int i]/\Q (.int i) H) \/ ∃ k,xs=[.bl k]/\Q (.int (if k then 1 else 0)) H) FV:=by
 intro H hid μ O xs vs Q c d q
 unfold FV at q
 split at q
 ·obtain ⟨v,rfl,dx⟩:=tx d
  unfold Dat at dx;subst dx
  exact .inl ⟨_,rfl,post.here q c q9⟩
 ·obtain ⟨v,rfl,dx⟩:=tx d
  unfold Dat at dx;subst dx
  exact .inr ⟨_,rfl,post.here q c q9⟩
 ·exact ak q
noncomputable def uz:Ow->List D->R D:=fun O xs=>match xs with
 | [x]=>match qI O x with
  | some ds=>.ok (.tup ds) O
  | none=>match xj x with
   | some ds=>.ok (.tup ds) O
   | none=>.bad
 | _=>.bad
theorem Xn:uM X Ex (fun xs H Q=>∃ p ys,xs=[.ref p]/\((pV X.K H p ys/\∀ l,H l=none->Q (.ref l) (upd H l (.tup ys)))\/(qu X.K H p ys/\Q (.ref p) H))) uz:=by
 intro H hid μ O xs vs Q c d q
 unfold uz at q
 split at q
 ·rename_i x
  obtain ⟨v,rfl,dx⟩:=tx d
  split at q
  ·rename_i ds e
   obtain ⟨p,ws,rfl,sq,dd⟩:=uP c dx e
   exact ⟨p,ws,rfl,.inl ⟨sq,fun l hl=>post.ok q (.laid hl) (c.laid hl) (Dat.newT c hl dd)⟩⟩
  ·split at q
   ·rename_i ds e
    obtain ⟨p,ws,rfl,sq,dd⟩:=Ae dx e
    refine ⟨p,ws,rfl,.inr ⟨sq,post.here q c ?_⟩⟩
    cases x with
    | tup ys=>cases e;exact dx
    | _=>cases e
   ·exact ak q
 ·exact ak q
noncomputable def zS (o:Bool):Ow->List D->R D:=fun O xs=>match xs with
 | [x]=>match (match qI O x with|some ds=>some ds|none=>xj x) with
  | some ds=>if o=true then .ok (.own O.length) (O++[ds]) else .ok (.lst ds) O
  | none=>.bad
 | _=>.bad
theorem VH (o:Bool):uM X Ex (fun xs H Q=>∃ p ys,xs=[.ref p]/\(pV X.K H p ys\/qu X.K H p ys)/\∀ l,H l=none->Q (.ref l) (upd H l (.lst ys))) (zS o):=by
 intro H hid μ O xs vs Q c d q
 unfold zS at q
 split at q
 ·rename_i x
  obtain ⟨v,rfl,dx⟩:=tx d
  split at q
  ·rename_i ds e
   have h:∃ p ws,v=.ref p/\(pV X.K H p ws\/qu X.K H p ws)/\nJ X.K H hid μ ds ws:=by
    cases e1:qI O x with
    | some es=>
     rw [e1] at e;cases e
     obtain ⟨p,ws,h1,sq,dd⟩:=uP c dx e1
     exact ⟨p,ws,h1,.inl sq,dd⟩
    | none=>
     rw [e1] at e
     obtain ⟨p,ws,h1,sq,dd⟩:=Ae dx e
     exact ⟨p,ws,h1,.inr sq,dd⟩
   obtain ⟨p,ws,rfl,sq,dd⟩:=h
   refine ⟨p,ws,rfl,sq,fun l hl=>?_⟩
   cases o with
   | true=>exact post.ok (show p9 Ex X.K H hid μ (.ok (.own O.length) (O++[ds])) Q from q) (.cell hl) (c.cell hl dd) (AD c.len)
   | false=>exact post.ok (show p9 Ex X.K H hid μ (.ok (.lst ds) O) Q from q) (.laid hl) (c.laid hl) (Dat.newL c hl dd)
  ·exact ak q
 ·exact ak q
noncomputable def zW:Ow->List D->R D:=fun O xs=>match xs with
 | [.int i,.int j]=>.ok (.int (if j>i then j else i)) O
 | _=>.bad
noncomputable def zV:Ow->List D->R D:=fun O xs=>match xs with
 | [.int i,.int j]=>.ok (.int (if j<i then j else i)) O
 | _=>.bad
theorem U6:uM X Ex (fun xs H Q=>∃ i j,xs=[.int i,.int j]/\Q (.int (if j>i then j else i)) H) zW:=by
 intro H hid μ O xs vs Q c d q
 unfold zW at q
 split at q
 ·obtain ⟨v,w,rfl,d1,d2⟩:=Bl d
  unfold Dat at d1 d2;subst d1;subst d2
  exact ⟨_,_,rfl,post.here q c q9⟩
 ·exact ak q
theorem U_:uM X Ex (fun xs H Q=>∃ i j,xs=[.int i,.int j]/\Q (.int (if j<i then j else i)) H) zV:=by
 intro H hid μ O xs vs Q c d q
 unfold zV at q
 split at q
 ·obtain ⟨v,w,rfl,d1,d2⟩:=Bl d
  unfold Dat at d1 d2;subst d1;subst d2
  exact ⟨_,_,rfl,post.here q c q9⟩
 ·exact ak q
end
noncomputable def FP (K:ai) (Ec:XK->Nat->Hp->Prop) (n:Nat) (F:List D->Ow->R D):Sp:=fun vs H Q E=>vs.length=n/\∃ hid μ ds O,nJ K H hid μ ds vs/\nI K H hid μ O/\p9 (Ec E) K H hid μ (F ds O) Q
abbrev Ec0:XK->Nat->Hp->Prop:=fun _ _ _=>False
section
variable {X:Cx} {CX:uJ} {k:Nat} {f:af} {fd:dG} {ps:List Str} {E:XK} {Ec:XK->Nat->Hp->Prop} {x:Str} {p pos:Pos} {e:aQ} {es:List aQ} {t:DA} {F:List D->Ow->R D} {n:Nat}
noncomputable def j_ (n:Nat) (F:List D->Ow->R D) (t:DA):DE:=fun σ O=>(t σ O).bnd fun ds O1=>if ds.length=n then F ds O1 else .bad
theorem Q4 (G:nY X.prog X.w X.K X.mg X.base CX k f fd ps (FP X.K Ec n F)) (hr:nO k X.A) (hg:Gl X x) (hm:X.mg x=some (.ref f)) (hk:dB X.K (.ref f)=true) (hb:Binds X.K fd ps []) (hx:Ad CX X E) (ha:rZ X (Ec E) (e::es) t)
  (qX:(x==("__debug__":Str))=false:=by decide) (he:aD (e::es) X.env=(false,eval e X.env)::aD es X.env:=by rfl) (p_:(backTo pos (aD es X.env)).any (·.1)=false:=by rfl):
  PD X (Ec E) (.Call (.Name x p) (e::es) [] pos) (j_ n F t):=
 qz (VQ (dvs:=[]) (ds:=[]) G hr hg hm hk hb .nil hx ha.out qX he p_) fun hid μ σ O d_ H Q e1 c1 q=>sY.go e1 c1 q fun ds O1 vs H1 h_ e2 x2 c2 d2 q2=>by
  obtain ⟨hl,q2⟩:=post.ite q2
  refine ⟨by rw [bM,<- d2.length];exact hl,hid,h_,ds,O1,?_,c2,q2⟩
  rw [bM];exact d2
end
noncomputable def fin (r:RS):R D:=match r with
 | .nx _ O=>.ok .non O
 | .rt d O=>.ok d O
 | .exc c O=>.exc c O
 | _=>.bad
noncomputable def pZ (n:Nat) (t:DS):List D->Ow->R D:=fun ds O=>fin (t (ds.map some++ao (n-ds.length) none) O)
theorem N4 (h:nJ K H hid μ ds vs) (N:List Str):nM K H hid μ (ds.map some++ao (N.length-ds.length) none) (L2.start N vs):=by
 unfold L2.start
 have hl:=h.length
 refine ⟨by simp [hl],fun i d e=>?_⟩
 have hi:i<ds.length:=by
  by_cases hi:i<ds.length
  ·exact hi
  ·rw [a5 (by simpa using hi),eF] at e
   split at e<;>cases e
 rw [aK (by simpa using hi),bh] at e
 cases q:ds[i]? with
 | none=>rw [q] at e;cases e
 | some d'=>
  rw [q] at e;cases e
  obtain ⟨v,h1,h2⟩:=h.get q
  exact ⟨v,by rw [aK (by simp;omega),bh,h1];rfl,h2⟩
noncomputable def tw:D->String
 | .non => "NoneType"
 | .bl _ => "bool"
 | .int _ => "int"
 | .str _ => "str"
 | .lst _ => "list"
 | .own _ => "list"
 | .tup _ => "tuple"
 | .dct => "dict"
 | .exn _ => "exception"
 | .tab _ => "bool"
 | .map _ _ => "dict"
 | .adr _ => "function"
def vm (t c:String):Bool:=t==c||(t == "bool" && c == "int")
section
variable {X:Cx} {Ex:Nat->Hp->Prop} {pos:Pos} {a b c e:aQ} {ta te:DE} {pins:List (af×Obj)} {d_:St} {H:Hp} {s:ag} {hid μ:List af} {O:Ow}
def vq:List String:=["NoneType", "bool", "int", "str", "list", "tuple", "dict"]
theorem wC (K:ai) {t c:String} (ht:t∈vq) (hc:c∈["int", "bool", "str", "list", "tuple", "dict"]):aJ K (.type t) (.type c)=some (vm t c):=by
 simp only [vq,aw,aR,or_false] at ht hc
 rcases ht with rfl|rfl|rfl|rfl|rfl|rfl|rfl<;>rcases hc with rfl|rfl|rfl|rfl|rfl|rfl<;>first|rfl|decide
theorem NM (I:L2.Inv X pins d_ H s) (cl:nI X.K H hid μ O) (h:Dat X.K H hid μ d v) (r:RelV v u) (hf:(tw d == "function")=false):∃ (T:ae) (Hh:aT->Prop),PySem.W.KitX X.K u T Hh/\Hh s.heap/\u ≠ .builtin "__main__.__loader__#opaque"/\∀ c∈(["int", "bool", "str", "list", "tuple", "dict"]:List String),aJ X.K T (.type c)=some (vm (tw d) c):=by
 cases d with
 | non=>unfold Dat at h;subst h;cases r;exact ⟨.type "NoneType",_,l9,fz,(fun z=>nomatch z),fun c hc=>wC X.K (t := "NoneType") (by simp [vq]) hc⟩
 | bl _=>unfold Dat at h;subst h;cases r;exact ⟨.type "bool",_,ma,fz,(fun z=>nomatch z),fun c hc=>wC X.K (t := "bool") (by simp [vq]) hc⟩
 | int _=>unfold Dat at h;subst h;obtain ⟨t,rfl⟩:=r;exact ⟨.type "int",_,PySem.W.kitx_int,fz,(fun z=>nomatch z),fun c hc=>wC X.K (t := "int") (by simp [vq]) hc⟩
 | str _=>unfold Dat at h;subst h;obtain ⟨t,rfl⟩:=r;exact ⟨.type "str",_,PySem.W.kitx_str,fz,(fun z=>nomatch z),fun c hc=>wC X.K (t := "str") (by simp [vq]) hc⟩
 | lst ds=>
  unfold Dat at h
  obtain ⟨p,vs,rfl,l,q⟩:=h
  cases r
  obtain ⟨f_,rv,⟨o,n,h1,h2,_⟩,_⟩:=I.list l.sq
  exact ⟨.type "list",_,md,⟨o,h1,h2⟩,(fun z=>nomatch z),fun c hc=>wC X.K (t := "list") (by simp [vq]) hc⟩
 | own k=>
  unfold Dat at h
  obtain ⟨p,rfl,hk⟩:=h
  cases r
  obtain ⟨ds,vs,_,h2,_⟩:=cl.at_ k p hk
  obtain ⟨f_,rv,⟨o,n,h1,h2,_⟩,_⟩:=I.list (.of h2)
  exact ⟨.type "list",_,md,⟨o,h1,h2⟩,(fun z=>nomatch z),fun c hc=>wC X.K (t := "list") (by simp [vq]) hc⟩
 | tup ds=>
  unfold Dat at h
  obtain ⟨p,vs,rfl,l,q⟩:=h
  cases r
  obtain ⟨f_,rv,⟨o,h1,h2,_⟩,_⟩:=I.tuple l.sq
  exact ⟨.type "tuple",_,PySem.W.kitx_tuple,⟨o,h1,h2⟩,(fun z=>nomatch z),fun c hc=>wC X.K (t := "tuple") (by simp [vq]) hc⟩
 | dct=>
  unfold Dat at h
  obtain ⟨p,rfl,hr,_⟩:=h
  cases r
  obtain ⟨_,_,vs,_,o,es,ep,h1,h2,_⟩:=Rd.ok hr I.hok
  exact ⟨.type "dict",_,me,⟨o,h1,h2.1⟩,(fun z=>nomatch z),fun c hc=>wC X.K (t := "dict") (by simp [vq]) hc⟩
 | tab _=>unfold Dat at h;obtain ⟨rfl,_⟩:=h;cases r;exact ⟨.type "bool",_,ma,fz,(fun z=>nomatch z),fun c hc=>wC X.K (t := "bool") (by simp [vq]) hc⟩
 | map ks ds=>
  unfold Dat at h
  obtain ⟨p,vs,rfl,hr,_⟩:=h
  cases r
  obtain ⟨_,_,vs,_,o,es,ep,h1,h2,_⟩:=Rd.ok hr I.hok
  exact ⟨.type "dict",_,me,⟨o,h1,h2.1⟩,(fun z=>nomatch z),fun c hc=>wC X.K (t := "dict") (by simp [vq]) hc⟩
 | adr _=>cases hf
 | exn C=>
  unfold Dat at h
  obtain ⟨p,φ,rfl,⟨k,g⟩,hr,_⟩:=h
  cases r
  obtain ⟨y,_⟩:=Rd.ok hr I.hok
  refine ⟨_,_,Ll k,g _ y,(fun z=>nomatch z),fun c hc=>?_⟩
  rw [k.kit c hc]
  simp only [aw,aR,or_false] at hc
  rcases hc with rfl|rfl|rfl|rfl|rfl|rfl<;>rfl
def AU:List String:=["int", "bool", "str", "list", "tuple", "dict"]
theorem XS:nU X (.builtin "isinstance") (fun xs H Q=>∃ x C hid μ O d,xs=[x,.ty C]/\C∈AU/\nI X.K H hid μ O/\Dat X.K H hid μ d x/\(tw d == "function")=false/\Q (.bl (vm (tw d) C)) H):=by
 intro pins s σ H xs us Q I r h
 obtain ⟨x,C,hid,μ,O,d,rfl,hC,cl,dx,hf,q⟩:=h
 obtain ⟨u,w',rfl,rx,rc⟩:=yE r
 cases rc
 obtain ⟨T,Hh,Z,p,hx,hk⟩:=NM I cl dx rx hf
 exact wT I (j5 Z I.kIn p (hk _ hC) hx fun tk pM=>⟨.bl _,H,I.tok tk,rfl,q⟩)
noncomputable def rj (C:String) (t:DE):DE:=fun σ O=>(t σ O).bnd fun d O1=>if (tw d == "function")=true then .bad else .ok (.bl (vm (tw d) C)) O1
theorem Br (ha:PD X Ex a ta) (hn:n∈AU) (hg:Gl X "isinstance") (hm:X.mg "isinstance" = none) (hv:a9 "isinstance" = some (.builtin "isinstance")) (zu:Gl X C) (zo:X.mg C=none) (CL:a9 C=some (.type n)) (Dk:C ≠ "__name__":=by decide)
  (zD:(C==("__debug__":Str))=false:=by decide) (he:aD [a,.Name C p'] X.env=(false,eval a X.env)::aD [.Name C p'] X.env:=by rfl) (zv:aD [.Name C p'] X.env=[(false,eval (.Name C p') X.env)]:=by rfl) (p_:(backTo pos (aD [.Name C p'] X.env)).any (·.1)=false:=by rfl):
  PD X Ex (.Call (.Name "isinstance" p) [a,.Name C p'] [] pos) (rj n ta):=
 qz (Aw (XS (X:=X)) hg hm hv (vw ha.out (vw (El (v:=.ty n) zu zo CL rfl Dk zD) yI zv) he) (by decide) (by decide) he p_) fun hid μ σ O d_ H Q e1 c1 q=>rd.go e1 c1 q fun d O1 v H1 h_ e2 x cl r p2=>by
  obtain ⟨hf,p2⟩:=post.iteN p2
  exact ⟨v,n,hid,h_,O1,d,rfl,hn,cl,r,hf,post.here p2 cl sW⟩
noncomputable def t7 (to:DE) (t:DA):DE:=fun σ O=>(to σ O).bnd fun x O1=>match x with
 | .own k=>(t σ O1).bnd fun ys O2=>match ys,O2[k]? with
  | [y],some ds=>if ds.length<100000 then .ok .non (O2.set k (ds++[y])) else .bad
  | _,_=>.bad
 | _=>.bad
theorem Yt (ho:PD X Ex o to) (ha:rZ X Ex (e::es) t) (oW:attributeBase o "append" X.env (eval o X.env)=eval o X.env:=by rfl)
  (qO:((backTo oP (aD (e::es) X.env)).all (fun x=>!x.1)&&(backToKw oP (keywordEach [] X.env)).all (fun x=>x.1.isSome)&&decide ((e::es).length+([]:List fF).length+(if ([]:List fF).isEmpty then 0 else 1)<30))=true:=by rfl)
  (qx:(apos.endLine==oP.line)=true:=by rfl) (hs:aD (e::es) X.env=(false,eval e X.env)::aD es X.env:=by rfl) (qk:(backTo oP (aD es X.env)).any (·.1)=false:=by rfl):
  PD X Ex (.Call (.Attribute o "append" apos) (e::es) [] oP) (t7 to t):=
 qz (D0 gT kB PySem.F.type_list_append NG ho.out ha.out oW qO qx hs qk) fun hid μ σ O d_ H Q e1 c1 q=>rd.go e1 c1 q fun d O1 v H1 h_ e2 x cl r p=>by
  cases d with
  | own k=>
   have hr:=r
   unfold Dat at r
   obtain ⟨A,rfl,hk⟩:=r
   obtain ⟨ds,vs,h1,h2,h3⟩:=cl.at_ k A hk
   refine ⟨.inl ⟨rfl,vs,.of h2⟩,sY.go e2 cl p fun ys O2 ws H2 pd e3 x3 c3 d3 p3=>?_⟩
   split at p3
   ·rename_i y es' tJ
    obtain ⟨hl,p3⟩:=post.ite p3
    obtain ⟨w,rfl,dw⟩:=tx d3
    have qN:pd[k]?=some A:=by
     have:=hr.ext x3
     unfold Dat at this
     obtain ⟨A',e',uh⟩:=this
     cases e';exact uh
    obtain ⟨JG,xg,g1,g2,g3⟩:=c3.at_ k A qN
    rw [tJ] at g1;cases g1
    refine ⟨A,xg,w,rfl,rfl,g2,aV (by rw [<- g3.length];exact hl) (by decide),?_⟩
    exact post.ok p3 (.put (aC qN) ⟨_,g2⟩) (c3.put qN (g3.append (.cons dw .nil))) Ah
   ·exact ak p3
  | _=>exact ak p
noncomputable def wU (te to ti:DE):DS:=fun σ O=>(te σ O).bnS fun y O1=>(to σ O1).bnS fun x O2=>(ti σ O2).bnS fun i O3=>match x,i with
 | .own k,.int i=>match O3[k]? with
  | some ds=>match ixN ds.length i with
   | some j=>.nx σ (O3.set k (ds.set j y))
   | none=>.bad
  | none=>.bad
 | _,_=>.bad
theorem UE (he:PD X Ex e te) (ho:PD X Ex o to) (hi:PD X Ex i ti) (ha:∀ v,assign (.Subscript o i pos) X.env v=(do
   let ov <- holding [v] (eval o X.env)
   let iv <- holding [v,ov] (eval i X.env)
   standAt pos
   holding [v,ov,iv] (setItem ov iv v)
   release [v,ov,iv] []):=by intro _;rfl) (hs:ic [.Subscript o i pos] e uU.line X.env=pure false:=by rfl) (hw:ie [.Subscript o i pos] e X.env=pure none:=by rfl)
  (h1:(gO [.Subscript o i pos] X.env).map (·.2)=[assign (.Subscript o i pos) X.env]:=by rfl):rC X Ex (.Assign [.Subscript o i pos] e uU) (wU te to ti):=
 xU (La he.out (Ru ho.out hi.out Wy ha) hs hw h1) fun hid μ σ O E d_ H e1 c1 q=>rd.goS e1 c1 q fun y O1 v H1 h_ e2 x1 c2 d2 q2=>rd.goS e2 c2 q2 fun x O2 u H2 pd e3 x2 c3 d3 q3=>rd.goS e3 c3 q3 fun ii O3 w H3 vM e4 x3 c4 d4 q4=>by
  split at q4
  ·rename_i k j
   split at q4
   ·rename_i ds tJ
    split at q4
    ·rename_i m hm
     have P4:=d3.ext x3
     unfold Dat at P4 d4
     obtain ⟨A,rfl,hk⟩:=P4
     subst d4
     obtain ⟨JG,xg,g1,g2,g3⟩:=c4.at_ k A hk
     rw [tJ] at g1;cases g1
     refine ⟨A,xg,j,m,rfl,rfl,g2,by rw [<- g3.length];exact hm,?_⟩
     exact q4 d_ _ vM (.put (aC hk) ⟨_,g2⟩) (e4.ext (.put (aC hk) ⟨_,g2⟩)) (c4.put hk (g3.set ((d2.ext x2).ext x3) m))
    ·exact ak q4
   ·exact ak q4
  ·exact ak q4
noncomputable def vf:List D->Option (List Bool)
 | []=>some []
 | .bl b::r=>(vf r).map (b :: ·)
 | _=>none
theorem K9:∀ {ds:List D} {vs:List V} {bs:List Bool},nJ K H hid μ ds vs->vf ds=some bs->vs=bs.map V.bl
 | [],vs,bs,h,e=>by unfold nJ at h;subst h;cases e;rfl
 | d::ds,vs,bs,h,e=>by
  unfold nJ at h
  obtain ⟨v,r,rfl,h1,h2⟩:=h
  cases d with
  | bl b=>
   unfold vf at e
   cases q:vf ds with
   | none=>rw [q] at e;cases e
   | some cs=>
    rw [q] at e;cases e
    unfold Dat at h1;subst h1
    rw [K9 h2 q];rfl
  | _=>cases e
noncomputable def tS:Ow->List D->R D:=fun O xs=>match xs with
 | [x]=>match qI O x with
  | some ds=>match vf ds with
   | some bs=>.ok (.bl (bs.all id)) O
   | none=>.bad
  | none=>.bad
 | _=>.bad
noncomputable def Qt:Ow->List D->R D:=fun O xs=>match xs with
 | [x]=>match qI O x with
  | some ds=>match vf ds with
   | some bs=>.ok (.bl (bs.any id)) O
   | none=>.bad
  | none=>.bad
 | _=>.bad
theorem RI:uM X Ex (fun xs H Q=>∃ (p:af) (bs:List Bool),xs=[.ref p]/\pV X.K H p (bs.map V.bl)/\Q (.bl (bs.all id)) H) tS:=by
 intro H hid μ O xs vs Q c d q
 unfold tS at q
 split at q
 ·rename_i x
  obtain ⟨v,rfl,dx⟩:=tx d
  split at q
  ·rename_i ds e
   obtain ⟨p,ws,rfl,sq,dd⟩:=uP c dx e
   split at q
   ·rename_i bs eb
    refine ⟨p,bs,rfl,?_,post.here q c sW⟩
    rw [<- K9 dd eb];exact sq
   ·exact ak q
  ·exact ak q
 ·exact ak q
theorem W5 (bs:List Bool):(bd bs.length).all (fun i=>bs.getD i true)=bs.all id:=by
 rw [dS,aF,aF]
 constructor
 ·intro h b hb
  obtain ⟨i,hi,e⟩:=iH.mp hb
  have:=h i (by simpa using hi)
  rw [aS,au hi,e] at this
  exact this
 ·intro h i hi
  have hi:i<bs.length:=by simpa using hi
  rw [aS,au hi]
  exact h _ (cr hi)
theorem UB {bs:List Bool} {f_:List ae} (r:nK (bs.map V.bl) f_) {i:Nat} {v:ae} (h:f_.toArray[i]?=some v):v=.bool (bs.getD i true):=by
 have h:f_[i]?=some v:=by simpa using h
 have hi:i<bs.length:=by
  have:=r.length
  have:=(al.mp h).1
  simp at *;omega
 obtain ⟨u,h1,h2⟩:=r.get (i:=i) (x:=.bl bs[i]) (by rw [bh,au hi];rfl)
 rw [h] at h1;cases h1
 cases h2
 rw [aS,au hi];rfl
theorem Yd (hc:X.calm=true):nU X (.builtin "all") (fun xs H Q=>∃ (p:af) (bs:List Bool),xs=[.ref p]/\pV X.K H p (bs.map V.bl)/\Q (.bl (bs.all id)) H):=by
 intro pins s σ H xs us Q I r h
 obtain ⟨p,bs,rfl,sq,q⟩:=h
 obtain ⟨u,rfl,ru⟩:=uN r
 cases ru
 obtain ⟨f_,rv,pl,hz⟩:=I.list sq
 have hl:f_.toArray.size=bs.length:=by have:=rv.length;simp at *;omega
 have qS:p≠s.heap.objs.size:=by obtain ⟨o,n,e,_⟩:=pl;exact bi (aG e)
 refine wT I (call_all_walk (gZ pl.isList ?_))
 refine ⟨s.heap.objs.size,_,_,f_.toArray.size,_,_,fun i=>bs.getD i true,rfl,Walks.list (show X.A.in1.handled=none from I.ok.hd hc) _ p qS f_.toArray,⟨⟨_,aE _ rfl,rfl,rfl⟩,pl.isList.push _⟩,fun i v s' Q' E' hP hQ=>?_,fun h' tk hk pM=>?_⟩
 ·rw [UB rv hP];exact dQ hQ
 ·rw [hl,W5]
  exact ⟨.bl _,H,I.kept (t':=tk) fun b o e=>hk b o (by simpa using bi (aG e)) (ah _ e),rfl,q⟩
end
section
variable {X:Cx} {Ex:Nat->Hp->Prop} {pos:Pos} {a b c e o:aQ} {ta tb te to:DE} {pins:List (af×Obj)} {d_:St} {H:Hp} {s:ag} {hid μ:List af} {O:Ow}
noncomputable def Ku (K:ai):R2:=fun x y H Q=>∃ l b xs zs,x=.ref l/\y=.ref b/\pV K H l xs/\pV K H b zs/\xs.length+zs.length<=sizeLine/\∀ p,H p=none->Q (.ref p) (upd H p (.lst (xs++zs)))
theorem VC:pH X (dj .Add) (Ku X.K):=by
 intro pins s σ H x y v u Q I rx ry h
 obtain ⟨l,b,xs,zs,rfl,rfl,h1,h2,hz,q⟩:=h
 cases rx
 cases ry
 obtain ⟨f_,r1,p1,z1⟩:=I.list h1
 obtain ⟨qW,r2,p2,z2⟩:=I.list h2
 obtain ⟨⟨c1,d1,t1,s1⟩,n1,g1,k1,m1,w1⟩:=p1
 obtain ⟨⟨c2,d2,t2,s2⟩,n2,g2,k2,m2,w2⟩:=p2
 simp only at k1 m1 w1 k2 m2 w2
 subst k1 m1 w1 k2 m2 w2
 have ea:f_.toArray++qW.toArray=(f_++qW).toArray:=by simp
 have l1:=r1.length
 have l2:=r2.length
 refine jf ⟨_,g1,rfl⟩ ⟨_,g2,rfl⟩ PySem.noFill_list_add PySem.seq_list_add PySem.F.slot_list_add PySem.F.entry_list_add (PySem.F.args_list_add_2 _ _)
  (PyProof.Rows.list_addW l b f_.toArray qW.toArray n1 n2 none none s1 s2 (by simp only [az];omega)) ⟨g1,g2,?_⟩
 rw [ea]
 exact ⟨.ref _,_,I.lnew (t':=s.toks) (r1.append r2) (by rw [ar];omega),rfl,q _ I.fresh⟩
noncomputable def qB:Ow->D->D->R D:=fun O x y=>match x,y with
 | .int i,.int j=>.ok (.int (i+j)) O
 | .str p,.str q=>if p.length+q.length<=100000 then .ok (.str (p++q)) O else .bad
 | .tup xs,.tup ys=>if xs≠[]/\xs.length+ys.length<=100000 then .ok (.tup (xs++ys)) O else .bad
 | x,y=>match qI O x,qI O y with
  | some xs,some ys=>if xs.length+ys.length<=100000 then .ok (.lst (xs++ys)) O else .bad
  | _,_=>.bad
noncomputable def Ga (K:ai):R2:=fun x y H Q=>(∃ i j,x=.int i/\y=.int j/\Q (.int (i+j)) H)\/(∃ i j,x=.str i/\y=.str j/\i.length+j.length<=sizeLine/\Q (.str (i++j)) H)\/Ky K x y H Q\/Ku K x y H Q
theorem LY:pH X (dj .Add) (Ga X.K):=pH.or Sl (pH.or YI (pH.or Vc VC))
theorem LJ:qK X Ex (Ga X.K) qB:=by
 intro H hid μ O x y v w Q c dx dy q
 unfold qB at q
 split at q
 ·unfold Dat at dx dy;subst dx;subst dy
  exact .inl ⟨_,_,rfl,rfl,post.here q c q9⟩
 ·rename_i p q'
  unfold Dat at dx dy;subst dx;subst dy
  obtain ⟨hl,q⟩:=post.ite q
  refine .inr (.inl ⟨_,_,rfl,rfl,?_,?_⟩)
  ·show p.toArray.size+q'.toArray.size<=_
   simp only [az];exact wG hl
  ·have e:((⟨p.toArray⟩:Str)++(⟨q'.toArray⟩:Str))=⟨(p++q').toArray⟩:=by
    show (⟨p.toArray++q'.toArray⟩:Str)=_
    simp
   rw [e]
   exact post.here q c GH
 ·rename_i xs ys
  have JF:=dx
  unfold Dat at dx dy
  obtain ⟨p,vs,rfl,l1,q1⟩:=dx
  obtain ⟨p',xh,rfl,l2,q2⟩:=dy
  obtain ⟨⟨hn,hl⟩,q⟩:=post.ite q
  have e1:=q1.length
  have e2:=q2.length
  refine .inr (.inr (.inl ⟨p,p',vs,xh,rfl,rfl,l1.sq,l2.sq,?_,wG (by omega),?_,?_⟩))
  ·rintro rfl
   exact hn (dg.mp e1)
  ·rintro rfl
   have:ys=[]:=dg.mp e2
   subst this
   rw [bM] at q
   exact post.here q c JF
  ·intro _ l zq
   exact post.ok q (.laid zq) (c.laid zq) (Dat.newT c zq (q1.append q2))
 ·split at q
  ·rename_i xs ys e1 e2
   obtain ⟨p,vs,rfl,s1,q1⟩:=uP c dx e1
   obtain ⟨p',xh,rfl,s2,q2⟩:=uP c dy e2
   obtain ⟨hl,q⟩:=post.ite q
   have l1:=q1.length
   have l2:=q2.length
   exact .inr (.inr (.inr ⟨p,p',vs,xh,rfl,rfl,s1,s2,wG (by omega),fun l zq=>post.ok q (.laid zq) (c.laid zq) (Dat.newL c zq (q1.append q2))⟩))
  ·exact ak q
theorem RU (ha:PD X Ex a ta) (hb:PD X Ex b tb):PD X Ex (.BinOp a .Add b pos) (e_ qB ta tb):=uO LY LJ ha hb
def Ke (i:Int):List Nat:=((toString i:Str)).cps.toList
noncomputable def D7:Ow->List D->R D:=fun O xs=>match xs with
 | [.int i]=>if i.natAbs<2 ^ 64 then .ok (.str (Ke i)) O else .bad
 | _=>.bad
theorem Yk (h:n<2 ^ 64):n.log2<1920:=by
 by_cases hn:n=0
 ·subst hn;decide
 ·have:=(Nat.log2_lt hn (k:=64)).mpr h
  omega
theorem Es (x:Str):(⟨x.cps.toList.toArray⟩:Str)=x:=by
 cases x;simp
theorem VG:uM X Ex (fun xs H Q=>∃ i,xs=[.int i]/\i.natAbs.log2<1920/\Q (.str (toString i)) H) D7:=by
 intro H hid μ O xs vs Q c d q
 unfold D7 at q
 split at q
 ·rename_i i
  obtain ⟨v,rfl,dx⟩:=tx d
  unfold Dat at dx;subst dx
  obtain ⟨hl,q⟩:=post.ite q
  refine ⟨i,rfl,Yk hl,post.here q c ?_⟩
  unfold Dat Ke
  rw [Es]
 ·exact ak q
noncomputable def dS1 (g:List Nat->List Nat->Option D) (to:DE) (t:DA):DE:=fun σ O=>(to σ O).bnd fun x O1=>match x with
 | .str i=>(t σ O1).bnd fun ys O2=>match ys with
  | [.str j]=>match g i j with
   | some d=>.ok d O2
   | none=>.bad
  | _=>.bad
 | _=>.bad
noncomputable def xQ:List D->Option (List Str)
 | []=>some []
 | .str cs::r=>(xQ r).map (⟨cs.toArray⟩ :: ·)
 | _=>none
theorem LX:∀ {ds:List D} {vs:List V} {ys:List Str},nJ K H hid μ ds vs->xQ ds=some ys->vs=ys.map V.str
 | [],vs,ys,h,e=>by unfold nJ at h;subst h;cases e;rfl
 | d::ds,vs,ys,h,e=>by
  unfold nJ at h
  obtain ⟨v,r,rfl,h1,h2⟩:=h
  cases d with
  | str cs=>
   unfold xQ at e
   cases q:xQ ds with
   | none=>rw [q] at e;cases e
   | some zs=>
    rw [q] at e;cases e
    unfold Dat at h1;subst h1
    rw [LX h2 q];rfl
  | _=>cases e
theorem Hw:∀ {ys:List Str} {us:List ae},nK (ys.map V.str) us->fx us ys:=by
 intro ys
 induction ys with
 | nil=>intro us r;rw [iG] at r;cases r;exact .nil
 | cons y ys ih=>
  intro us r
  rw [cn] at r
  cases r with
  | cons r1 r2=>
   obtain ⟨t,e⟩:=r1
   subst e
   exact .cons y t (ih r2)
noncomputable def QP (K:ai):V->List V->Hp->VK->Prop:=fun x xs H Q=>∃ i p ys,x=.str i/\xs=[.ref p]/\(pV K H p (ys.map V.str)\/qu K H p (ys.map V.str))/\i.length<=16/\(ys.map (·.length)).sum+ys.length<=1048576/\Q (.str (kU i ys)) H
theorem Vy:P7 X "str.join" (QP X.K):=by
 intro pins s σ H x xs v us Q I rx rs h
 obtain ⟨i,p,ys,rfl,rfl,sq,hi,hw,q⟩:=h
 obtain ⟨t,rfl⟩:=rx
 obtain ⟨u,rfl,ru⟩:=uN rs
 cases ru
 rcases sq with sq|sq
 ·obtain ⟨f_,r1,p1,z1⟩:=I.list sq
  exact wT I (PyProof.Rows.join_listW p1.isList (Hw r1) hi hw fun t' k pM=>⟨.str _,H,I.tok k,⟨_,rfl⟩,q⟩)
 ·obtain ⟨f_,r1,p1,z1⟩:=I.tuple sq
  exact wT I (PyProof.Rows.join_tupleW p1 (Hw r1) hi hw fun t' k pM=>⟨.str _,H,I.tok k,⟨_,rfl⟩,q⟩)
noncomputable def zQ (to:DE) (t:DA):DE:=fun σ O=>(to σ O).bnd fun x O1=>match x with
 | .str i=>(t σ O1).bnd fun ys O2=>match ys with
  | [z]=>match (match qI O2 z with|some ds=>some ds|none=>xj z) with
   | some ds=>match xQ ds with
    | some zs=>if i.length<=16/\(zs.map (·.length)).sum+zs.length<=1048576 then .ok (.str (kU ⟨i.toArray⟩ zs).cps.toList) O2 else .bad
    | none=>.bad
   | none=>.bad
  | _=>.bad
 | _=>.bad
theorem VA (ho:PD X Ex o to) (ha:rZ X Ex (e::es) t) (oW:attributeBase o "join" X.env (eval o X.env)=eval o X.env:=by rfl)
  (qO:((backTo oP (aD (e::es) X.env)).all (fun x=>!x.1)&&(backToKw oP (keywordEach [] X.env)).all (fun x=>x.1.isSome)&&decide ((e::es).length+([]:List fF).length+(if ([]:List fF).isEmpty then 0 else 1)<30))=true:=by rfl)
  (qx:(apos.endLine==oP.line)=true:=by rfl) (hs:aD (e::es) X.env=(false,eval e X.env)::aD es X.env:=by rfl) (qk:(backTo oP (aD es X.env)).any (·.1)=false:=by rfl):
  PD X Ex (.Call (.Attribute o "join" apos) (e::es) [] oP) (zQ to t):=
 qz (D0 kj PySem.F.slot_str_join PySem.F.type_str_join Vy ho.out ha.out oW qO qx hs qk) fun hid μ σ O d_ H Q e1 c1 q=>rd.go e1 c1 q fun d O1 v H1 h_ e2 x cl r p=>by
  cases d with
  | str i=>
   unfold Dat at r
   subst r
   refine ⟨rfl,sY.go e2 cl p fun ys O2 ws H2 pd e3 x3 c3 d3 p3=>?_⟩
   split at p3
   ·rename_i z
    obtain ⟨w,rfl,dw⟩:=tx d3
    split at p3
    ·rename_i ds tJ
     split at p3
     ·rename_i zs hzs
      obtain ⟨⟨h1,h2⟩,p3⟩:=post.ite p3
      have h:∃ p ws,w=.ref p/\(pV X.K H2 p ws\/qu X.K H2 p ws)/\nJ X.K H2 hid pd ds ws:=by
       cases e1:qI O2 z with
       | some es=>
        rw [e1] at tJ;cases tJ
        obtain ⟨p,ws,h1,sq,dd⟩:=uP c3 dw e1
        exact ⟨p,ws,h1,.inl sq,dd⟩
       | none=>
        rw [e1] at tJ
        obtain ⟨p,ws,h1,sq,dd⟩:=Ae dw tJ
        exact ⟨p,ws,h1,.inr sq,dd⟩
      obtain ⟨pp,ws,rfl,sq,dd⟩:=h
      have ev:=LX dd hzs
      subst ev
      refine ⟨_,pp,zs,rfl,rfl,sq,?_,h2,post.here p3 c3 ?_⟩
      ·show i.toArray.size<=16
       simpa using h1
      ·unfold Dat;rw [Es]
     ·exact ak p3
    ·exact ak p3
   ·exact ak p3
  | _=>exact ak p
abbrev DO:=Sg->Ow->R (Option Int)
noncomputable def AN (Ex:Nat->Hp->Prop) (K:ai) (t:DO):TO:=fun d_ H Q=>∃ hid μ σ O,nM K H hid μ σ d_/\nI K H hid μ O/\post Ex K (fun _ _ (d v:Option Int)=>d=v) H hid μ (t σ O) Q
structure yo (X:Cx) (Ex:Nat->Hp->Prop) (e:Option aQ) (t:DO):Prop where
 out:PO X e (AN Ex X.K t)
def sA:DO:=fun _ O=>.ok none O
noncomputable def r9 (t:DE):DO:=fun σ O=>(t σ O).bnd fun d O1=>match d with
 | .int i=>.ok (some i) O1
 | _=>.bad
theorem PO.imp {e:Option aQ} {t t':TO} (h:PO X e t) (f:∀ σ H Q,t' σ H Q->t σ H Q):PO X e t':=fun pins s σ H Q I q=>h pins s σ H Q I (f σ H Q q)
theorem WX:yo X Ex none sA:=yo.mk <| PO.imp Ue fun d_ H Q ⟨hid,μ,σ,O,e1,c1,q⟩=>post.here (v:=none) q c1 rfl
theorem Wm (h:PD X Ex e te):yo X Ex (some e) (r9 te):=yo.mk <| PO.imp (Vh h.out) fun d_ H Q ⟨hid,μ,σ,O,e1,c1,q⟩=>rd.go e1 c1 q fun d O1 v H1 h_ e2 x cl r p=>by
 cases d with
 | int i=>unfold Dat at r;subst r;exact ⟨i,rfl,post.here (v:=some i) p cl rfl⟩
 | _=>exact ak p
theorem AN.go {uo um:Type} {qG:Hp->List af->uo->um->Prop} {t:DO} {hid μ:List af} {σ:Sg} {O:Ow} {d_:St} {H:Hp} {Q1:Option Int->Hp->Prop} {k:Option Int->Ow->R uo} {Q:um->Hp->Prop} (e1:nM X.K H hid μ σ d_) (c1:nI X.K H hid μ O)
  (q:post Ex X.K qG H hid μ ((t σ O).bnd k) Q)
  (f:∀ v O1 H1 h_,nM X.K H1 hid h_ σ d_->Ext H μ H1 h_->nI X.K H1 hid h_ O1->post Ex X.K qG H1 hid h_ (k v O1) Q->Q1 v H1):AN Ex X.K t d_ H Q1:=
 ⟨hid,μ,σ,O,e1,c1,post.bnd q fun d O1 v H1 h_ x c r p=>by
  have r:d=v:=r
  subst r
  exact f d O1 H1 h_ (e1.ext x) x c p⟩
noncomputable def JX:V->Option Int->Option Int->Hp->VK->Prop:=fun x lo hi H Q=>∃ i,x=.str i/\i.length<=sizeLine/\Q (.str (m7 i lo hi)) H
theorem YE {h:aT} {sl:af} {vl vu:ae} {lo hi:Option Int} (hs:h.IsSliceOf sl vl vu .none) (pl:f9 vl lo) (pu:f9 vu hi):∃ l u:Option (Int×Tok),h.IsSlice sl l u none/\l.map (·.1)=lo/\u.map (·.1)=hi:=by
 obtain ⟨ob,g,k1,k2⟩:=hs
 cases pl with
 | none=>
  cases pu with
  | none=>exact ⟨none,none,⟨ob,g,k1,k2⟩,rfl,rfl⟩
  | int j t=>exact ⟨none,some (j,t),⟨ob,g,k1,k2⟩,rfl,rfl⟩
 | int i t=>
  cases pu with
  | none=>exact ⟨some (i,t),none,⟨ob,g,k1,k2⟩,rfl,rfl⟩
  | int j t'=>exact ⟨some (i,t),some (j,t'),⟨ob,g,k1,k2⟩,rfl,rfl⟩
theorem Sn:vJ X JX:=by
 intro pins s σ H x v vl vu lo hi sl Q I rx hs pl pu h
 obtain ⟨i,rfl,hz,q⟩:=h
 obtain ⟨t,rfl⟩:=rx
 obtain ⟨l,u,u0,rfl,rfl⟩:=YE hs pl pu
 refine ⟨"str",_,PySem.F.slot_str_getitem.lookup,kS s i t,?_⟩
 exact wT I (wpAny_getItem_str_slice (l:=l) (u:=u) (st:=none) u0 rfl (post_val_or_str ⟨aU (Txt.slice_le i _ _) hz,fun t' k pM=>⟨.str _,H,I.tok k,⟨_,rfl⟩,q⟩⟩))
noncomputable def uu (xs:List D) (lo hi:Option Int):List D:=(xs.drop (HT.sIx xs.length 0 lo)).take (HT.sIx xs.length xs.length hi-HT.sIx xs.length 0 lo)
noncomputable def fSl (O:Ow) (x:D) (lo hi:Option Int):R D:=match x with
 | .str i=>if i.length<=100000 then .ok (.str (m7 ⟨i.toArray⟩ lo hi).cps.toList) O else .bad
 | .tup ds=>if HT.sIx ds.length 0 lo=0/\HT.sIx ds.length ds.length hi=ds.length then .bad else .ok (.tup (uu ds lo hi)) O
 | x=>match qI O x with
  | some ds=>.ok (.lst (uu ds lo hi)) O
  | none=>.bad
noncomputable def Qp (K:ai):V->Option Int->Option Int->Hp->VK->Prop:=fun x lo hi H Q=>JX x lo hi H Q\/Ka K x lo hi H Q\/Kh K x lo hi H Q
theorem G8 {K:ai} {ds:List D} {vs:List V} (h:nJ K H hid μ ds vs) (lo hi:Option Int):nJ K H hid μ (uu ds lo hi) (xN vs lo hi):=by
 unfold uu xN
 rw [h.length]
 exact nJ.take _ (nJ.drop _ h)
noncomputable def DF:Ow->D->D->R D:=fun O x y=>match x,y with
 | .str i,.str j=>.ok (.bl (!(cg ⟨j.toArray⟩ ⟨i.toArray⟩ 0 j.length 1).isEmpty)) O
 | _,_=>.bad
theorem T3:qK X Ex (fun x y H Q=>∃ i j,x=.str i/\y=.str j/\Q (.bl (!(cg j i 0 j.length 1).isEmpty)) H) DF:=by
 intro H hid μ O x y v w Q c dx dy q
 unfold DF at q
 split at q
 ·rename_i i j
  unfold Dat at dx dy;subst dx;subst dy
  refine ⟨_,_,rfl,rfl,post.here q c ?_⟩
  have e:(⟨j.toArray⟩:Str).length=j.length:=by show j.toArray.size=_;simp
  rw [e];exact sW
 ·exact ak q
end
noncomputable def pX (K:ai) (mg:Str->Option ae) (x:Str) (st:dh):Prop:=∃ f fd,mg x=some (.ref f)/\L2.Fun K x x st f fd
structure Callee (P:aH) (w:aP) (K:ai) (mg:Str->Option ae) (base:aT) (x:Str) (k n:Nat) (F:List D->Ow->R D):Prop where
 ex:∃ f fd ps,mg x=some (.ref f)/\dB K (.ref f)=true/\Binds K fd ps []/\nY P w K mg base JN k f fd ps (FP K Ec0 n F)
theorem Callee.imp (c:Callee P w K mg base x k n F)
  (h:∀ ds O H hid μ Q,nI K H hid μ O->p9 rR K H hid μ (G ds O) Q->p9 rR K H hid μ (F ds O) Q):Callee P w K mg base x k n G:=by
 obtain ⟨f,fd,ps,hm,C3,hb,Fo⟩:=c.ex
 refine ⟨f,fd,ps,hm,C3,hb,Fo.imp fun vs H Q E ⟨hl,hid,μ,ds,O,d,cl,q⟩=>⟨hl,hid,μ,ds,O,d,cl,h ds O H hid μ Q cl q⟩⟩
theorem Callee.bad (c:Callee P w K mg base x k n F):Callee P w K mg base x k n (fun _ _=>.bad):=
 c.imp fun _ _ _ _ _ _ _ q=>ak q
noncomputable def frz (O:Ow) (n:Nat):Nat->D->Option D
 | 0,d=>match d with
  | .own k=>if k<n then some (.own k) else none
  | .lst _=>none
  | .tup _=>none
  | .map _ _=>none
  | d=>some d
 | f+1,d=>match d with
  | .own k=>if k<n then some (.own k) else match O[k]? with
   | some ds=>(o6 (frz O n f) ds).map .lst
   | none=>none
  | .lst ds=>(o6 (frz O n f) ds).map .lst
  | .tup ds=>(o6 (frz O n f) ds).map .tup
  | .map _ _=>none
  | d=>some d
noncomputable def t5 (n:Nat) (r:R D):R D:=match r with
 | .ok d O=>match frz O n 8 d,o6 (o6 (frz O n 8)) (O.take n) with
  | some d',some O'=>.ok d' O'
  | _,_=>.bad
 | r=>r
section
variable {K:ai} {H:Hp} {hid μ ν:List af} {O:Ow} {n:Nat}
theorem BJ (ih:∀ d d' v,f d=some d'->Dat K H hid μ d v->Dat K H hid g_ d' v):∀ (ds vc:List D) (vs:List V),o6 f ds=some vc->nJ K H hid μ ds vs->nJ K H hid g_ vc vs
 | [],vc,vs,e,h=>by cases e;unfold nJ at h ⊢;exact h
 | d::ds,vc,vs,e,h=>by
  unfold o6 at e
  split at e
  ·rename_i p ps e1 e2
   cases e
   unfold nJ at h
   obtain ⟨v,r,rfl,h1,h2⟩:=h
   exact .cons (ih d p v e1 h1) (BJ ih ds ps r e2 h2)
  ·cases e
theorem Lm (c:nI K H hid (μ++ν) O) (hn:μ.length=n):∀ (f:Nat) (d d':D) (v:V),frz O n f d=some d'->Dat K H hid (μ++ν) d v->Dat K H hid μ d' v:=by
 have sub:∀ {a:af},a∉μ++ν->a∉μ:=fun h m=>h (cK _ m)
 have low:∀ {k:Nat} {v:V},k<n->Dat K H hid (μ++ν) (.own k) v->Dat K H hid μ (.own k) v:=fun {k v} hk h=>by
  unfold Dat at h ⊢
  obtain ⟨a,rfl,e⟩:=h
  rw [aK (by omega)] at e
  exact ⟨a,rfl,e⟩
 have dc:∀ {v:V},Dat K H hid (μ++ν) .dct v->Dat K H hid μ .dct v:=fun {v} h=>by
  unfold Dat at h ⊢
  obtain ⟨a,rfl,r,n1,n2⟩:=h
  exact ⟨a,rfl,r,n1,sub n2⟩
 have xc:∀ {C:Nat} {v:V},Dat K H hid (μ++ν) (.exn C) v->Dat K H hid μ (.exn C) v:=fun {C v} h=>by
  unfold Dat at h ⊢
  obtain ⟨a,φ,rfl,g,r,n1,n2⟩:=h
  exact ⟨a,φ,rfl,g,r,n1,sub n2⟩
 intro f
 induction f with
 | zero=>
  intro d d' v e h
  cases d with
  | own k=>
   unfold frz at e;dsimp only at e
   split at e
   ·rename_i hk;cases e;exact low hk h
   ·cases e
  | lst ds=>cases e
  | tup ds=>cases e
  | dct=>cases e;exact dc h
  | map ks ds=>cases e
  | adr _=>cases e;unfold Dat at h ⊢;exact h
  | exn C=>cases e;exact xc h
  | tab P=>cases e;unfold Dat at h ⊢;exact h
  | non=>cases e;unfold Dat at h ⊢;exact h
  | bl b=>cases e;unfold Dat at h ⊢;exact h
  | int i=>cases e;unfold Dat at h ⊢;exact h
  | str i=>cases e;unfold Dat at h ⊢;exact h
 | succ f ih=>
  intro d d' v e h
  cases d with
  | own k=>
   unfold frz at e;dsimp only at e
   split at e
   ·rename_i hk;cases e;exact low hk h
   ·rename_i hk
    unfold Dat at h
    obtain ⟨a,rfl,qN⟩:=h
    obtain ⟨ds,vs,h1,h2,h3⟩:=c.at_ k a qN
    rw [h1] at e
    dsimp only at e
    cases e1:o6 (frz O n f) ds with
    | none=>rw [e1] at e;cases e
    | some ps=>
     rw [e1] at e;cases e
     unfold Dat
     refine ⟨a,vs,rfl,.inl ⟨.inl h2,c.nh a (aC qN),fun m=>?_⟩,BJ ih ds ps vs e1 h3⟩
     obtain ⟨j,hj,ej⟩:=iH.mp m
     have q1:(μ++ν)[j]?=some a:=by rw [aK hj,au hj,ej]
     obtain ⟨w1,z1⟩:=al.mp q1
     obtain ⟨w2,z2⟩:=al.mp qN
     have:=(jK c.nd).mp (z1.trans z2.symm)
     omega
  | lst ds=>
   unfold frz at e;dsimp only at e
   unfold Dat at h
   obtain ⟨a,vs,rfl,l,q⟩:=h
   cases e1:o6 (frz O n f) ds with
   | none=>rw [e1] at e;cases e
   | some ps=>
    rw [e1] at e;cases e
    unfold Dat
    exact ⟨a,vs,rfl,l.imp (fun z=>⟨z.1,z.2.1,sub z.2.2⟩) id,BJ ih ds ps vs e1 q⟩
  | tup ds=>
   unfold frz at e;dsimp only at e
   unfold Dat at h
   obtain ⟨a,vs,rfl,l,q⟩:=h
   cases e1:o6 (frz O n f) ds with
   | none=>rw [e1] at e;cases e
   | some ps=>
    rw [e1] at e;cases e
    unfold Dat
    exact ⟨a,vs,rfl,l.imp (fun z=>⟨z.1,z.2.1,sub z.2.2⟩) id,BJ ih ds ps vs e1 q⟩
  | dct=>cases e;exact dc h
  | map ks ds=>cases e
  | adr _=>cases e;unfold Dat at h ⊢;exact h
  | exn C=>cases e;exact xc h
  | tab P=>cases e;unfold Dat at h ⊢;exact h
  | non=>cases e;unfold Dat at h ⊢;exact h
  | bl b=>cases e;unfold Dat at h ⊢;exact h
  | int i=>cases e;unfold Dat at h ⊢;exact h
  | str i=>cases e;unfold Dat at h ⊢;exact h
theorem Hb {α β:Type} {f:α->Option β}:∀ {l:List α} {r:List β},o6 f l=some r->r.length=l.length
 | [],r,e=>by cases e;rfl
 | x::l,r,e=>by
  unfold o6 at e
  split at e
  ·rename_i p ps e1 e2;cases e;simp [Hb e2]
  ·cases e
theorem M8 {α β:Type} {f:α->Option β}:∀ {l:List α} {r:List β} {k:Nat} {y:β},o6 f l=some r->r[k]?=some y->∃ x,l[k]?=some x/\f x=some y
 | [],r,k,y,e,h=>by cases e;simp at h
 | x::l,r,k,y,e,h=>by
  unfold o6 at e
  split at e
  ·rename_i p ps e1 e2
   cases e
   cases k with
   | zero=>simp at h;subst h;exact ⟨x,by simp,e1⟩
   | succ k=>obtain ⟨z,h1,h2⟩:=M8 (k:=k) e2 (by simpa using h);exact ⟨z,by simpa using h1,h2⟩
  ·cases e
theorem WW {Ex:Nat->Hp->Prop} {r:R D} {Q:VK} (hn:μ.length=n) (q:p9 Ex K H hid μ (t5 n r) Q):p9 Ex K H hid μ r Q:=by
 cases r with
 | bad=>exact q
 | exc c O'=>exact q
 | ok d O'=>
  intro v H' g_ x c h
  obtain ⟨ν,rfl⟩:=x.pre
  have q1:p9 Ex K H hid μ (match frz O' n 8 d,o6 (o6 (frz O' n 8)) (O'.take n) with|some d',some O2=>.ok d' O2|_,_=>.bad) Q:=q
  cases e1:frz O' n 8 d with
  | none=>rw [e1] at q1;exact ak q1
  | some d'=>
   cases e2:o6 (o6 (frz O' n 8)) (O'.take n) with
   | none=>rw [e1,e2] at q1;exact ak q1
   | some O2=>
    rw [e1,e2] at q1
    have xe:Ext H μ H' μ:=⟨⟨[],by simp⟩,x.kept,fun _ m=>.inl m,x.there,x.tab⟩
    have hl:O'.length=(μ++ν).length:=c.len.symm
    have c2:nI K H' hid μ O2:=by
     refine ⟨?_,(fu.mp c.nd).1,fun a m=>c.nh a (cK _ m),c.ht,fun k a e=>?_⟩
     ·rw [Hb e2,bG,hl,ar,hn];omega
     ·have hk:k<μ.length:=(al.mp e).1
      obtain ⟨ds,vs,h1,h2,h3⟩:=c.at_ k a (by rw [aK hk];exact e)
      have qN:k<O2.length:=by rw [Hb e2,bG,hl,ar,hn];omega
      obtain ⟨vc,g1,g2⟩:=M8 e2 (au qN)
      have:vc=ds:=by
       rw [jh,if_pos (by omega),h1] at g1
       cases g1;rfl
      subst this
      exact ⟨_,vs,au qN,h2,BJ (Lm c hn 8) _ _ vs g2 h3⟩
    exact q1 v H' μ xe c2 (Lm c hn 8 d d' v e1 h)
end
def zN (F:List D->Ow->R D):List D->Ow->R D:=fun ds O=>t5 O.length (F ds O)
noncomputable def Kc (sc scope:cF) (N':List Str) (sl:List Nat):Bool:=
 (match scope.kind with|.function=>true|_=>false)&&decide ((scope.names.map (·.1)).Nodup)&&(scope.names.all fun y=>!(y.2 == .free)||sc.names.lookup y.1==some .cell||sc.names.lookup y.1==some .free) &&
 (N'.zipIdx.all fun p=>!((scope.names.any fun y=>y.1==p.1&&y.2 == .local)||(scope.names.any fun y=>y.1==p.1&&y.2 == .cell))||sl.contains p.2)
theorem zY (h:Kc sc scope N' sl=true):yq sc scope N' sl:=by
 unfold Kc at h
 simp only [a6,decide_eq_true_eq,aF] at h
 obtain ⟨⟨⟨h1,h2⟩,h3⟩,h4⟩:=h
 refine ⟨?_,h2,fun y hy hf=>?_,fun i x hx hm=>?_⟩
 ·cases e:scope.kind<;>rw [e] at h1<;>first|rfl|cases h1
 ·have:=h3 y hy
  rw [hf] at this
  simpa using this
 ·have hp:(x,i)∈N'.zipIdx:=by
   rw [List.mem_zipIdx_iff_getElem?];exact hx
  have h:=h4 _ hp
  have Jr:((scope.names.any fun y=>y.1==x&&y.2 == .local)||(scope.names.any fun y=>y.1==x&&y.2 == .cell))=true:=by
   rw [fS]
   exact hm.imp (fun m=>jN.mpr ⟨_,m,by simp⟩) fun m=>jN.mpr ⟨_,m,by simp⟩
  have h:(!((scope.names.any fun y=>y.1==x&&y.2 == .local)||(scope.names.any fun y=>y.1==x&&y.2 == .cell))||sl.contains i)=true:=h
  rw [Jr] at h
  simpa using h
structure FT (mg:Str->Option ae) (x:Str) (cs:List Nat):Prop where
 ex:∃ t,mg x=some (.str ⟨cs.toArray⟩ t)
section
variable {X:Cx} {Ex:Nat->Hp->Prop} {pos:Pos} {a b c e:aQ} {ta:DE} {pins:List (af×Obj)} {d_:St} {H:Hp} {s:ag} {hid μ:List af} {O:Ow}
theorem UU (h:FT X.mg x cs) (hg:Gl X x:=by rfl) (hd:(x==("__debug__":Str))=false:=by decide):PD X Ex (.Name x pos) (dC (.str cs)):=by
 obtain ⟨t,h⟩:=h.ex
 exact WH cs hg h rfl hd
noncomputable def F8 (C C':String) (t:DE):DE:=fun σ O=>(t σ O).bnd fun d O1=>if (tw d == "function")=true then .bad else .ok (.bl (vm (tw d) C||vm (tw d) C')) O1
theorem Yy:nU X (.builtin "isinstance") (fun xs H Q=>∃ x p C C' hid μ O d,xs=[x,.ref p]/\qu X.K H p [.ty C,.ty C']/\C∈AU/\C'∈AU/\nI X.K H hid μ O/\Dat X.K H hid μ d x/\(tw d == "function")=false/\Q (.bl (vm (tw d) C||vm (tw d) C')) H):=by
 intro pins s σ H xs us Q I r h
 obtain ⟨x,tp,C,C',hid,μ,O,d,rfl,sq,hC,hC',cl,dx,hf,q⟩:=h
 obtain ⟨u,w',rfl,rx,rc⟩:=yE r
 cases rc
 obtain ⟨T,Hh,Z,p,hx,hk⟩:=NM I cl dx rx hf
 obtain ⟨f_,rv,⟨⟨c1,d1,t1,s1⟩,h1,h2,n,h3⟩,hz⟩:=I.tuple sq
 simp only at h2 h3
 subst h2 h3
 obtain ⟨v1,v2,rfl,r1,r2⟩:=yE rv
 cases r1;cases r2
 refine wT I (PySem.W.kia_tup (b:=vm (tw d) C||vm (tw d) C') Z I.kIn p h1 ?_ hx fun tk pM=>⟨.bl _,H,I.tok tk,rfl,q⟩)
 unfold mS
 rw [hk _ hC]
 cases vm (tw d) C with
 | true=>rfl
 | false=>
  dsimp only
  unfold mS
  rw [hk _ hC']
  cases vm (tw d) C'<;>rfl
theorem VO (ha:PD X Ex a ta) (hn:n∈AU) (wL:n'∈AU) (hg:Gl X "isinstance") (hm:X.mg "isinstance" = none) (hv:a9 "isinstance" = some (.builtin "isinstance")) (zu:Gl X C) (zo:X.mg C=none) (CL:a9 C=some (.type n))
  (Jc:Gl X C') (IU:X.mg C'=none) (ID:a9 C'=some (.type n')) (Dk:C ≠ "__name__":=by decide) (zD:(C==("__debug__":Str))=false:=by decide) (Jw:C' ≠ "__name__":=by decide) (Jx:(C'==("__debug__":Str))=false:=by decide)
  (he:aD [a,.Tuple [.Name C p',.Name C' xn] kt pt] X.env=(false,eval a X.env)::aD [.Tuple [.Name C p',.Name C' xn] kt pt] X.env:=by rfl) (zv:aD [.Tuple [.Name C p',.Name C' xn] kt pt] X.env=[(false,eval (.Tuple [.Name C p',.Name C' xn] kt pt) X.env)]:=by rfl)
  (p_:(backTo pos (aD [.Tuple [.Name C p',.Name C' xn] kt pt] X.env)).any (·.1)=false:=by rfl) (h3:aD [.Name C p',.Name C' xn] X.env=(false,eval (.Name C p') X.env)::aD [.Name C' xn] X.env:=by rfl) (h4:aD [.Name C' xn] X.env=[(false,eval (.Name C' xn) X.env)]:=by rfl):
  PD X Ex (.Call (.Name "isinstance" p) [a,.Tuple [.Name C p',.Name C' xn] kt pt] [] pos) (F8 n n' ta):=
 qz (Aw (Yy (X:=X)) hg hm hv (vw ha.out (vw (Lg (vw (El (v:=.ty n) zu zo CL rfl Dk zD) (vw (El (v:=.ty n') Jc IU ID rfl Jw Jx) yI h4) h3)) yI zv) he) (by decide) (by decide) he p_) fun hid μ σ O d_ H Q e1 c1 q=>rd.go e1 c1 q fun d O1 v H1 h_ e2 x cl r p2=>by
  obtain ⟨hf,p2⟩:=post.iteN p2
  exact ⟨by show 2<=sizeLine;decide,fun l hl=>⟨v,l,n,n',hid,h_,O1,d,rfl,.of qR,hn,wL,cl.laid hl,r.ext (.laid hl),hf,post.ok p2 (.laid hl) (cl.laid hl) sW⟩⟩
def Qu (O:Ow):D->R D
 | .int i=>.ok (.int (-i)) O
 | _=>.bad
def wR (t:DE):DE:=fun σ O=>(t σ O).bnd fun x O1=>Qu O1 x
theorem RK (ha:PD X Ex a ta):PD X Ex (.UnaryOp .USub a pos) (wR ta):=
 qz (Rh SN ha.out) fun hid μ σ O d_ H Q e1 c1 q=>rd.go e1 c1 q fun d O1 v H1 h_ e2 x cl r p=>by
  cases d with
  | int i=>unfold Dat at r;subst r;exact ⟨i,rfl,post.here p cl q9⟩
  | _=>exact ak p
def uF:Ow->D->D->R D:=fun O x y=>match y with
 | .str _=>DF O x y
 | _=>oQ yg O x y
noncomputable def xK:Ow->D->D->R D:=fun O x y=>match y with
 | .str _=>match DF O x y with
  | .ok (.bl b) O1=>.ok (.bl (!b)) O1
  | _=>.bad
 | _=>oQ zO O x y
theorem Lj (hu:X.A.units+64<cLine):pH X (cw .In) (fun x y H Q=>xl X.K yg x y H Q \/ ∃ i j,x=.str i/\y=.str j/\Q (.bl (!(cg j i 0 j.length 1).isEmpty)) H):=pH.or (VF hu) YB
theorem Lf:qK X Ex (fun x y H Q=>xl X.K yg x y H Q \/ ∃ i j,x=.str i/\y=.str j/\Q (.bl (!(cg j i 0 j.length 1).isEmpty)) H) uF:=by
 intro H hid μ O x y v w Q c dx dy q
 unfold uF at q
 split at q
 ·exact .inr (T3 H hid μ O _ _ v w Q c dx dy q)
 ·exact .inl (zX H hid μ O x y v w Q c dx dy q)
theorem Mo (hu:X.A.units+64<cLine):pH X (cw .NotIn) (fun x y H Q=>xl X.K zO x y H Q \/ ∃ i j,x=.str i/\y=.str j/\Q (.bl (!(!(cg j i 0 j.length 1).isEmpty))) H):=pH.or (Xc hu) Zs
theorem LC:qK X Ex (fun x y H Q=>xl X.K zO x y H Q \/ ∃ i j,x=.str i/\y=.str j/\Q (.bl (!(!(cg j i 0 j.length 1).isEmpty))) H) xK:=by
 intro H hid μ O x y v w Q c dx dy q
 unfold xK at q
 split at q
 ·rename_i cs
  cases x with
  | str i=>
   unfold Dat at dx dy;subst dx;subst dy
   refine .inr ⟨_,_,rfl,rfl,post.here (d:=D.bl (!(!(cg ⟨cs.toArray⟩ ⟨i.toArray⟩ 0 cs.length 1).isEmpty))) q c ?_⟩
   have e:(⟨cs.toArray⟩:Str).length=cs.length:=by show cs.toArray.size=_;simp
   rw [e];exact sW
  | _=>exact ak q
 ·exact .inl (zX H hid μ O x y v w Q c dx dy q)
end
section
variable {X:Cx} {pins:List (af×Obj)} {d_:St} {H:Hp} {s:ag}
theorem Inv.turns (ch:List af) (I:L2.Inv X pins d_ H s) (k:∀ b o,b∉ch->s.heap.get? b=some o->h'.get? b=some o) (hf:∀ b∈ch,tu X pins H b) (ht:0<t':=by first|assumption|exact Inv.tk ‹_›):L2.Inv X pins d_ H { s with heap:=h',toks:=t' }:=by
 have Cw:∀ b u,H b=some u->b∉ch:=fun b u e z=>by rw [(hf b z).1] at e;cases e
 have un:Un (ql X.stack) ch H H s.heap h':=⟨fun b o e _ _ n=>k b o n e,fun b o e _ _ n=>⟨o.slots,k b o n e⟩,fun _ _ _ n _=>n,fun b o e n=>⟨o,k b o n e⟩,fun _ _ e=>e,fun _ _ _ e=>e,fun b ps e=>⟨#[],by rw [e];simp⟩⟩
 have hok:HOk X.prog X.w H h':=fun b u e=>(I.hok b u e).stay (fun c v hc q=>k c v (by
  rcases hc with z|z
  ·rw [z];exact Cw b u e
  ·exact Cw c _ z) q) (fun _ q=>q) fun _ _ q=>q
 exact I.call (t':=t') (d':=s.drawn) un hok I.bare fun b hb=>let ⟨_,f1,_,f3,f4,f5⟩:=hf b hb;⟨f3,f1,f4,f5⟩
end
noncomputable def Itz (K:ai) (l m:af):It:=
 ⟨fun i H=>∃ xs ys x y,pV K H l xs/\pV K H m ys/\xs[i]?=some x/\ys[i]?=some y,
   fun i H v H'=>∃ p x y,H p=none/\v=.ref p/\(∀ xs,pV K H l xs->xs[i]?=some x)/\(∀ ys,pV K H m ys->ys[i]?=some y)/\H'=upd H p (.tup [x,y]),
   fun i H=>∃ xs ys,pV K H l xs/\pV K H m ys/\(xs.length<=i\/ys.length<=i)⟩
noncomputable def on (K:ai) (src:Src) (a:af) (H:Hp) (hid μ:List af):Prop:=∀ oR H' g_ O',Mv H hid μ H' oR g_->nI K H' oR g_ O'->∃ ds vs,pV K H' a vs/\nJ K H' oR g_ ds vs/\∀ i,src.get O' i=ds[i]?
section
variable {K:ai} {H:Hp} {hid μ:List af}
theorem on.own (hk:μ[k]?=some a):on K (.own k) a H hid μ:=by
 intro oR H' g_ O' m c
 obtain ⟨ν,rfl⟩:=m.pre
 have uh:(μ++ν)[k]?=some a:=by rw [aK (al.mp hk).1];exact hk
 obtain ⟨ds,vs,h1,h2,h3⟩:=c.at_ k a uh
 exact ⟨ds,vs,.of h2,h3,fun i=>by show (match O'[k]? with|some ds=>ds[i]?|none=>none)=_;rw [h1]⟩
theorem on.mv (h:on K src a H hid μ) (e:Mv H hid μ H1 u7 h_):on K src a H1 u7 h_:=fun oR H' g_ O' m c=>h oR H' g_ O' (e.trans m) c
theorem nQ.zip (h1:on K s1 a H hid μ) (h2:on K s2 b H hid μ):nQ K (Itz K a b) (.zip s1 s2) H hid μ:=by
 intro oR H' g_ O' m c i
 obtain ⟨ds,vs,q1,d1,g1⟩:=h1 oR H' g_ O' m c
 obtain ⟨es,ws,q2,d2,g2⟩:=h2 oR H' g_ O' m c
 show match (match s1.get O' i,s2.get O' i with|some x,some y=>some (D.tup [x,y])|_,_=>none) with|some d=>_|none=>_
 rw [g1,g2]
 cases e1:ds[i]? with
 | none=>
  dsimp only
  exact ⟨vs,ws,q1,q2,.inl (by rw [<- d1.length];exact aZ.mp e1)⟩
 | some x=>
  cases e2:es[i]? with
  | none=>
   dsimp only
   exact ⟨vs,ws,q1,q2,.inr (by rw [<- d2.length];exact aZ.mp e2)⟩
  | some y=>
   dsimp only
   obtain ⟨v,w1,r1⟩:=d1.get e1
   obtain ⟨w,w2,r2⟩:=d2.get e2
   refine ⟨⟨vs,ws,v,w,q1,q2,w1,w2⟩,fun z tO yl=>?_⟩
   obtain ⟨p,v',w',hp,rfl,f1,f2,rfl⟩:=yl
   have t1:=f1 vs q1
   rw [w1] at t1;cases t1
   have t2:=f2 ws q2
   rw [w2] at t2;cases t2
   exact ⟨.laid hp,c.laid hp,Dat.newT c hp (.cons r1 (.cons r2 .nil))⟩
end
def zev:D->Option Src
 | .lst ds=>some (.val ds)
 | .own k=>some (.own k)
 | _=>none
noncomputable def zmU (t:DA):DI:=fun σ O=>(t σ O).bnd fun xs O1=>match xs with
 | [x,y]=>match zev x,zev y with
  | some p,some q=>.ok (.zip p q) O1
  | _,_=>.bad
 | _=>.bad
section
variable {X:Cx} {Ex:Nat->Hp->Prop} {c:aQ} {pins:List (af×Obj)} {H:Hp} {s:ag} {hid μ:List af} {O:Ow}
theorem Xb:a9 "zip" = some (.type "zip"):=by boot_by_name
theorem TR {i j:Nat} {x y:Str} {px py pt:Pos} {kt:Nat} (hc:X.calm=true) (hN:X.N.Nodup) (hi:X.N[i]?=some x) (hj:X.N[j]?=some y) (hx:Loc X.env.scope x) (hy:Loc X.env.scope y)
  (hf:X.fn x=true\/X.env.scope.names.lookup x=some .local) (hf2:X.fn y=true\/X.env.scope.names.lookup y=some .local):PG X (.Tuple [.Name x px,.Name y py] kt pt) ((Tg.two i j).rd X.K):=
 TF hc (MP (Ep hN hi hx hf) (MP (Ep hN hj hy hf2) UT))
noncomputable def wZ:Ow->List D->R D:=fun O xs=>match xs with
 | [.str cs]=>match kE ⟨cs.toArray⟩ with
  | some n=>if cs.length<=640 then .ok (.int n) O else .bad
  | none=>.bad
 | xs=>FV O xs
theorem W4:nU X (.type "int") (fun xs H Q=>∃ x n,xs=[.str x]/\kE x=some n/\x.length<=640/\Q (.int n) H):=by
 intro pins s σ H xs us Q I r h
 obtain ⟨x,n,rfl,hn,hl,q⟩:=h
 obtain ⟨u,rfl,t,rfl⟩:=uN r
 exact PySem.W.KIN.call_text hn hl ⟨.int _,H,I.tok _,⟨_,rfl⟩,q⟩
noncomputable def KC:List V->Hp->VK->Prop:=fun xs H Q=>((∃ i,xs=[.int i]/\Q (.int i) H) \/ ∃ k,xs=[.bl k]/\Q (.int (if k then 1 else 0)) H) \/ ∃ x n,xs=[.str x]/\kE x=some n/\x.length<=640/\Q (.int n) H
theorem XO:nU X (.type "int") KC:=nU.or Yr W4
theorem To:uM X Ex KC wZ:=by
 intro H hid μ O xs vs Q c d q
 unfold wZ at q
 split at q
 ·rename_i cs
  obtain ⟨v,rfl,dx⟩:=tx d
  unfold Dat at dx;subst dx
  split at q
  ·rename_i n hn
   obtain ⟨hl,q⟩:=post.ite q
   refine .inr ⟨_,n,rfl,hn,?_,post.here q c q9⟩
   show cs.toArray.size<=640
   simpa using hl
  ·exact ak q
 ·exact .inl (Si H hid μ O _ vs Q c d q)
end
section
variable {X:Cx} {Ex:Nat->Hp->Prop} {pos Dr:Pos} {e o i:aQ} {ti:DE} {pins:List (af×Obj)} {d_:St} {H:Hp} {s:ag} {hid μ:List af} {O:Ow}
theorem Xe:rC X Ex (.Pass pos) pC:=xU Uo fun hid μ σ O E d_ H e1 c1 q=>q d_ H μ .refl e1 c1
def Bc:DE:=fun _ O=>.ok .dct O
theorem RT:PD X Ex (.Dict [] [] pos) Bc:=
 qz Wz fun hid μ σ O d_ H Q e1 c1 q=>fun p hp=>post.ok q (.laid hp) (c1.laid hp) (by
  unfold Dat
  exact ⟨p,rfl,.inl qR,c1.not_in hp⟩)
def yt (tab:List (Int×Int)):List (Key×V):=tab.map fun kv=>(gp kv.1,V.int kv.2)
noncomputable def sN (tab:List (Int×Int)) (i:Int):Option Int:=(tab.find? fun kv=>kv.1==i).map (·.2)
noncomputable def Bd (tab:List (Int×Int)) (i:Int):Option Int:=match vP (w6 [] (yt tab)) (gp i) with
 | some (.int v)=>some v
 | _=>none
noncomputable def Kt (at_:List (Int×Int)->Int->Option Int) (tab:List (Int×Int)) (t:DE):DE:=fun σ O=>(t σ O).bnd fun x O1=>match x with
 | .int i=>match at_ tab i with
  | some v=>.ok (.int v) O1
  | none=>.bad
 | _=>.bad
def A_:List (Int×Int)->DE->DE:=Kt Bd
def Ba:List (Int×Int)->DE->DE:=Kt sN
theorem N8:∀ {tab:List (Int×Int)},Q (tab.map fun kv=>(V.int kv.1,V.int kv.2)) H->Bq (tab.map fun kv=>(tC (.int kv.1),tC (.int kv.2))) σ H Q
 | [],h=>h
 | kv::r,h=>by
  show Bq (r.map fun kv=>(tC (.int kv.1),tC (.int kv.2))) σ H fun ps H3=>Q ((V.int kv.1,V.int kv.2)::ps) H3
  exact N8 (tab:=r) h
theorem TN (tab:List (Int×Int)) (h:Dw X Dr keys values xi) (htr:xi=tab.map fun kv=>(tC (.int kv.1),tC (.int kv.2))) (qr:keys.all (·.isSome)=true) (hl:keys.length=values.length) (h0:keys≠[]) (Jz:keys.length<=15) (Jy:tab.length<=15)
  (hu:X.A.units+1<cLine) (hi:PD X Ex i ti) (hs:DD i):PD X Ex (.Subscript (.Dict keys values Dr) i pos) (A_ tab ti):=
 qz (Tq hu (Ui h qr hl h0 Jz) hi.out hs) fun hid μ σ O d_ H Q e1 c1 q=>fun p hp=>by
  subst htr
  refine N8 ⟨qR,yt tab,by simp [yt,kV],by simpa [yt] using Jy,?_⟩
  rw [VT]
  have x0:Ext H μ (upd H p (.dK (w6 [] (yt tab)))) μ:=.laid hp
  refine rd.go (e1.ext x0) (c1.laid hp) (post.ext q x0) fun d O1 v H1 h_ e2 x1 c2 r p2=>?_
  cases d with
  | int j=>
   unfold Dat at r;subst r
   have p2:p9 Ex X.K H1 hid h_ (match Bd tab j with|some v=>.ok (.int v) O1|none=>.bad) Q:=p2
   cases et:Bd tab j with
   | none=>rw [et] at p2;exact ak p2
   | some v=>
    rw [et] at p2
    have hv:vP (w6 [] (yt tab)) (gp j)=some (.int v):=by
     unfold Bd at et
     split at et
     ·rename_i w hw;cases et;exact hw
     ·cases et
    refine ⟨p,.int v,rfl,.inl ⟨w6 [] (yt tab),gp j,.inl (x1.keep p _ qR (c1.not_in hp).2),rfl,hv.symm⟩,post.here p2 c2 q9⟩
  | _=>exact ak p2
noncomputable def DM:List DictEntry->List (Int×Int)->Bool
 | [],[]=>true
 | e::es,(k,v)::r=>(match e.key with|.int i _=>i==k|_=>false)&&(e.hash==hashInt k)&&(match e.val with|.int i _=>i==v|_=>false)&&DM es r
 | _,_=>false
noncomputable def DC (o:Obj) (tab:List (Int×Int)):Bool:=(match o.cls with|.type n=>n == "dict"|_=>false)&&o.dict.isNone&&o.slots.isEmpty&&decide ((tab.map (·.1)).Nodup)&&(match o.data with|.dict es _=>DM es.toList tab|_=>false)
structure yv (K:ai) (mg:Str->Option ae) (x:Str) (tab:List (Int×Int)):Prop where
 ex:∃ e o,mg x=some (.ref e)/\K.lookup e=some o/\DC o tab=true/\(e==sysModules)=false
theorem N3:∀ {es:List DictEntry} {tab:List (Int×Int)},DM es tab=true->∃ l_:List (Int×ae),Pairs (intKind P w) es l_/\(∀ e∈es,∃ k,(intKind P w).is k e.key=true/\e.hash=(intKind P w).hash k)/\l_.map (·.1)=tab.map (·.1)/\
  ∀ i,(valueAt l_ i).isSome=(sN tab i).isSome/\∀ v,sN tab i=some v->∃ t,valueAt l_ i=some (.int v t)
 | [],[],_=>⟨[],.nil,by simp,rfl,fun i=>⟨rfl,fun v h=>by cases h⟩⟩
 | [],_::_,h=>by cases h
 | _::_,[],h=>by cases h
 | e::es,(k,v)::r,h=>by
  obtain ⟨hash,key,val⟩:=e
  unfold DM at h
  simp only [a6] at h
  obtain ⟨⟨⟨h1,h2⟩,h3⟩,h4⟩:=h
  split at h1
  ·rename_i i t
   split at h3
   ·rename_i j u
    have h1:i=k:=by simpa using h1
    have h2:hash=hashInt k:=by simpa using h2
    have h3:j=v:=by simpa using h3
    subst h1 h3
    obtain ⟨l_,p,ks,em,at_⟩:=N3 (P:=P) (w:=w) h4
    have OW:(intKind P w).is i (.int i t)=true:=by show g9 i (.int i t)=true;simp [g9]
    refine ⟨(i,.int j u)::l_,.cons OW rfl p,fun e he=>?_,by simp [em],fun q=>?_⟩
    ·rcases aw.mp he with rfl|he
     ·exact ⟨i,OW,h2⟩
     ·exact ks e he
    ·unfold valueAt sN
     by_cases hq:i=q
     ·subst hq
      simp
     ·have f1:(decide ((i,lD j u).1=q))=false:=by simpa using hq
      have f2:((i,j).1==q)=false:=by simpa using hq
      rw [eB,eB,f1,f2]
      exact at_ q
   ·cases h3
  ·cases h1
theorem WZ {P:aH} {w:aP} {o:Obj} {tab:List (Int×Int)} (h:DC o tab=true):∃ f:Int->Option ae,(∀ (hp:aT) (e:af),hp.get? e=some o->hp.MapOf (intKind P w) e f)/\∀ i,(f i).isSome=(sN tab i).isSome/\∀ v,sN tab i=some v->∃ t,f i=some (.int v t):=by
 obtain ⟨cls,dict,data,slots⟩:=o
 unfold DC at h
 simp only [a6,decide_eq_true_eq] at h
 obtain ⟨⟨⟨⟨h1,h2⟩,h3⟩,h4⟩,h5⟩:=h
 split at h1
 ·rename_i n
  have h1:n = "dict":=by simpa using h1
  split at h5
  ·rename_i es ep
   obtain ⟨l_,p,ks,em,at_⟩:=N3 (P:=P) (w:=w) h5
   refine ⟨valueAt l_,fun hp e he=>?_,at_⟩
   refine Heap.DictOf.mapOf (knd:=intKind P w) ⟨_,es,ep,he,⟨?_,?_,?_⟩,rfl,?_,p,by rw [em];exact h4⟩
   ·show jC n=_;rw [h1]
   ·simpa using h2
   ·simpa using h3
   ·intro e he
    exact ks e (by simpa using he)
  ·cases h5
 ·cases h1
theorem LU (h:yv X.K X.mg x tab):∃ e,X.mg x=some (.ref e)/\(e==sysModules)=false/\∃ f:Int->Option ae,(∀ (pins:List (af×Obj)) (d_:St) (H:Hp) (s:ag),L2.Inv X pins d_ H s->s.heap.MapOf (intKind X.prog X.w) e f)/\
  ∀ i,(f i).isSome=(sN tab i).isSome/\∀ v,sN tab i=some v->∃ t,f i=some (.int v t):=by
 obtain ⟨e,o,h1,h2,h3,h4⟩:=h.ex
 obtain ⟨f,m,at_⟩:=WZ (P:=X.prog) (w:=X.w) h3
 exact ⟨e,h1,h4,f,fun pins d_ H s I=>m _ e (I.kIn e o h2),at_⟩
theorem Hx (i:Int) (t:Tok):(intKind P w).is i (.int i t)=true:=by show g9 i (.int i t)=true;simp [g9]
theorem VI (h:yv X.K X.mg x tab) (hg:Gl X x) (hi:PD X Ex i ti) (hs:DD i) (hd:(x==("__debug__":Str))=false:=by decide):PD X Ex (.Subscript (.Name x p) i pos) (Ba tab ti):=by
 obtain ⟨e,h1,h4,f,mp,at_⟩:=LU h
 refine ⟨?_⟩
 rintro pins s d_ H Q I ⟨hid,μ,σ,O,e1,c1,q⟩
 refine LH (T := "dict") jE.lookup hs (BB (v:=.ref e) hg h1 rfl hd pins s d_ H (fun v H1=>v=.ref e/\H1=H) I ⟨rfl,rfl⟩ |> fun z=>oV z fun u s1 ⟨v,H1,I1,ru,ev,eh⟩=>?_)
 subst ev eh
 cases ru
 refine oV (hi.out pins s1 d_ H1 _ I1 (rd.go e1 c1 q (Q1:=fun y H2=>∃ hid pd O2 d,nI X.K H2 hid pd O2/\Dat X.K H2 hid pd d y/\p9 Ex X.K H2 hid pd (match d with|.int i=>(match sN tab i with|some v=>.ok (.int v) O2|none=>.bad)|_=>.bad) Q)
  fun d O2 y H2 pd e2 x2 c2 r p2=>⟨hid,pd,O2,d,c2,r,p2⟩)) fun u s2 ⟨y,H2,I2,ru,hid,pd,O2,d,c2,r,p2⟩=>?_
 have M:=mp pins d_ H2 s2 I2
 cases d with
 | int j=>
  unfold Dat at r;subst r
  obtain ⟨t,rfl⟩:=ru
  have p2:p9 Ex X.K H2 hid pd (match sN tab j with|some v=>.ok (.int v) O2|none=>.bad) Q:=p2
  cases et:sN tab j with
  | none=>rw [et] at p2;exact ak p2
  | some v=>
   rw [et] at p2
   obtain ⟨t',ht⟩:=(at_ j).2 v et
   exact ⟨M.typeIs,wpAny_getItem_of (Hx j t) M ht ⟨.int v,H2,I2.tok _,⟨_,rfl⟩,post.here p2 c2 q9⟩⟩
 | _=>exact ak p2
noncomputable def w5 (neg:Bool) (tab:List (Int×Int)) (t:DE):DE:=fun σ O=>(t σ O).bnd fun x O1=>match x with
 | .int i=>.ok (.bl (if neg=true then !(sN tab i).isSome else (sN tab i).isSome)) O1
 | _=>.bad
theorem MJ (neg:Bool) (h:yv X.K X.mg x tab) (hg:Gl X x) (hi:PD X Ex i ti) (hd:(x==("__debug__":Str))=false:=by decide):PC X (if neg=true then .NotIn else .In) i (.Name x p) (rd Ex X.K (w5 neg tab ti)):=by
 obtain ⟨e,h1,h4,f,mp,at_⟩:=LU h
 rintro pins s d_ H Q I ⟨hid,μ,σ,O,e1,c1,q⟩
 refine oV (hi.out pins s d_ H _ I (rd.go e1 c1 q (Q1:=fun y H2=>∃ hid pd O2 d,nI X.K H2 hid pd O2/\Dat X.K H2 hid pd d y/\p9 Ex X.K H2 hid pd (match d with|.int i=>.ok (.bl (if neg=true then !(sN tab i).isSome else (sN tab i).isSome)) O2|_=>.bad) Q)
  fun d O2 y H2 pd e2 x2 c2 r p2=>⟨hid,pd,O2,d,c2,r,p2⟩)) fun u s2 ⟨y,H2,I2,ru,hid,pd,O2,d,c2,r,p2⟩=>?_
 refine oV (BB (v:=.ref e) hg h1 rfl hd pins s2 d_ H2 (fun v H1=>v=.ref e/\H1=H2) I2 ⟨rfl,rfl⟩) fun w s3 ⟨v,H3,I3,uW,ev,eh⟩=>?_
 subst ev eh
 cases uW
 have M:=mp pins d_ H3 s3 I3
 cases d with
 | int j=>
  unfold Dat at r;subst r
  obtain ⟨t,rfl⟩:=ru
  have p2:p9 Ex X.K H3 hid pd (.ok (.bl (if neg=true then !(sN tab j).isSome else (sN tab j).isSome)) O2) Q:=p2
  rw [<- (at_ j).1] at p2
  cases neg with
  | false=>exact wpAny_in_of (Hx j t) h4 M ⟨.bl _,H3,I3.tok _,rfl,post.here p2 c2 sW⟩
  | true=>exact wpAny_notIn_of (Hx j t) h4 M ⟨.bl _,H3,I3.tok _,rfl,post.here p2 c2 sW⟩
 | _=>exact ak p2
theorem XD (h:yv X.K X.mg x tab) (hg:Gl X x) (hi:PD X Ex i ti) (hd:(x==("__debug__":Str))=false:=by decide) (hm:behindInMarks .NotIn (.Name x p)=false:=by rfl):PD X Ex (.Compare i [.NotIn] [.Name x p] pos) (w5 true tab ti):=⟨SK (MJ true h hg hi hd) hm⟩
theorem Rt (e1:nM X.K H hid μ σ d_) (c1:nI X.K H hid μ O) (q:vt Ex X.K H hid μ (oZ td σ O) Q):tB (rd Ex X.K td) d_ H Q:=
 MN (X:=X) (t:=rd Ex X.K td) (td:=td) (fun hid μ σ O d_ H Q e1 c1 q=>⟨hid,μ,σ,O,e1,c1,q⟩) hid μ σ O d_ H Q e1 c1 q
theorem YT (h:yv X.K X.mg x tab) (hg:Gl X x) (hi:PD X Ex i ti) (hd:(x==("__debug__":Str))=false:=by decide) (hm:behindInMarks .NotIn (.Name x p)=false:=by rfl):qE X Ex (.Compare i [.NotIn] [.Name x p] pos) (oZ (w5 true tab ti)):=
 Eb (RB (MJ true h hg hi hd) hm) fun hid μ σ O d_ H Q e1 c1 q=>Rt e1 c1 q
end
end DL
namespace DL
open PySem L2 PyProof.Rows
noncomputable def vN:List D->Option (List (List Nat))
 | []=>some []
 | .str cs::r=>(vN r).map (cs :: ·)
 | _=>none
section
variable {H:Hp} {hid μ:List af}
theorem Gy {K:ai}:∀ {ds:List D} {vs:List V} {ss:List (List Nat)},nJ K H hid μ ds vs->vN ds=some ss->vs=ss.map fun cs=>V.str ⟨cs.toArray⟩
 | [],vs,ys,h,e=>by unfold nJ at h;subst h;cases e;rfl
 | d::ds,vs,ys,h,e=>by
  unfold nJ at h
  obtain ⟨v,r,rfl,h1,h2⟩:=h
  cases d with
  | str cs=>
   unfold vN at e
   cases q:vN ds with
   | none=>rw [q] at e;cases e
   | some zs=>
    rw [q] at e;cases e
    unfold Dat at h1;subst h1
    rw [Gy h2 q];rfl
  | _=>cases e
theorem Rw:a9 "len" = some (.builtin "len"):=by boot_by_name
theorem Rz:a9 "all" = some (.builtin "all"):=by boot_by_name
theorem Lu:a9 "int" = some (.type "int"):=by boot_by_name
theorem Li:a9 "str" = some (.type "str"):=by boot_by_name
theorem G6:a9 "tuple" = some (.type "tuple"):=by boot_by_name
theorem GI:a9 "list" = some (.type "list"):=by boot_by_name
theorem TC:a9 "max" = some (.builtin "max"):=by boot_by_name
theorem TJ:a9 "min" = some (.builtin "min"):=by boot_by_name
theorem NH:a9 "sorted" = some (.builtin "sorted"):=by boot_by_name
theorem tV:a9 "isinstance" = some (.builtin "isinstance"):=by boot_by_name
theorem VP:a9 "bool" = some (.type "bool"):=by boot_by_name
end
end DL
namespace DL
theorem UK {α:Type} (pre ds:List α) (d:α):(pre++d::ds)[pre.length]?=some d:=by simp
theorem NA:∀ (ds pre acc:List D) (f:Nat),ds.length<=f->(∀ d∈ds,∀ acc:List D,acc.length<100000->step d O acc=.ok (acc++g d) O)->acc.length+(ds.flatMap g).length+ds.length<100000->
  qc (.val (pre++ds)) step f pre.length O acc=.ok (acc++ds.flatMap g) O
 | [],pre,acc,f,_,_,_=>by
  cases f<;>(unfold qc;simp [Src.get])
 | d::ds,pre,acc,0,h,_,_=>by simp at h
 | d::ds,pre,acc,f+1,h,hs,hl=>by
  unfold qc
  have e:Src.get (.val (pre++d::ds)) O pre.length=some d:=UK pre ds d
  rw [e]
  simp only [cI,ar,bv] at hl
  show ((step d O acc).bnd fun pN O'=>qc (.val (pre++d::ds)) step f (pre.length+1) O' pN)=_
  rw [hs d aI acc (by omega)]
  show qc (.val (pre++d::ds)) step f (pre.length+1) O (acc++g d)=_
  have:=NA ds (pre++[d]) (acc++g d) f (by simpa using h) (fun d' h'=>hs d' (aq _ h')) (by rw [ar];omega)
  rw [aY,List.singleton_append,ar,e8] at this
  rw [this];simp
theorem NB (hi:it0 σ O=.ok (.val ds) O) (hl:ds.length<50000)
  (hp:∀ d∈ds,sJ ts ((pz (pz (σ++ao ext none) [i]) [i]).set i (some d)) O=.ok (p d) O) (he:∀ d∈ds,p d=true->te ((pz (pz (σ++ao ext none) [i]) [i]).set i (some d)) O=.ok (e d) O) (o:Bool):
  pG o ext it0 (.one i) ts [] te σ O=uq o (.ok ((ds.filter p).map e) O):=by
 unfold pG xY
 rw [hi]
 show uq o (wJ (qc (.val ds) _ ds.length 0 O []))=_
 have step:∀ d∈ds,∀ acc:List D,acc.length<100000->wW ⟨it0,.one i,ts⟩ [] te (pz (σ++ao ext none) (pS [⟨it0,.one i,ts⟩])) d O acc=.ok (acc++(if p d=true then [e d] else [])) O:=by
  intro d hd acc ha
  show (match Tg.put (.one i) d (pz (pz (σ++ao ext none) [i]) [i]) with|some pI=>(sJ ts pI O).bnd fun b O3=>if b=true then sO [] te pI O3 acc else .ok acc O3|none=>.bad)=_
  show (sJ ts ((pz (pz (σ++ao ext none) [i]) [i]).set i (some d)) O).bnd _=_
  rw [hp d hd]
  show (if p d=true then sO [] te _ O acc else .ok acc O)=_
  by_cases wa:p d=true
  ·rw [if_pos wa,if_pos wa]
   unfold sO
   rw [he d hd wa]
   show (if acc.length<100000 then _ else _)=_
   rw [if_pos ha]
  ·rw [if_neg wa,if_neg wa];simp
 have hb:∀ l:List D,(l.flatMap fun d=>if p d=true then [e d] else [])=(l.filter p).map e:=by
  intro l
  induction l with
  | nil=>rfl
  | cons x l ih=>
   rw [cI,ih,dI]
   by_cases hx:p x=true
   ·rw [if_pos hx,if_pos hx];rfl
   ·rw [if_neg hx,if_neg hx];rfl
 have hlen:((ds.filter p).map e).length<=ds.length:=by rw [aM];exact bB _ _
 have w:=NA (O:=O) (g:=fun d=>if p d=true then [e d] else []) ds [] [] ds.length (ay _) step (by rw [hb];simp at hlen ⊢;omega)
 rw [dU,hb,dU] at w
 have w':qc (.val ds) (wW ⟨it0,.one i,ts⟩ [] te (pz (σ++ao ext none) (pS [⟨it0,.one i,ts⟩]))) ds.length 0 O []=.ok ((ds.filter p).map e) O:=w
 rw [w'];rfl
theorem Nd (I:Nat->Sg->Ow->Prop) (h:∀ i σ O d,I i σ O->ds[i]?=some d->∃ σ' O',step d σ O=.nx σ' O'/\I (i+1) σ' O'):
  ∀ (f i:Nat) (σ:Sg) (O:Ow),I i σ O->ds.length<=i+f->i<=ds.length->∃ σ' O',r8 (.val ds) step f i σ O=.nx σ' O'/\I ds.length σ' O'
 | 0,i,σ,O,hI,h1,h2=>by
  have:i=ds.length:=by omega
  subst this
  refine ⟨σ,O,?_,hI⟩
  unfold r8
  have e:Src.get (.val ds) O ds.length=none:=by simp [Src.get]
  rw [e]
 | f+1,i,σ,O,hI,h1,h2=>by
  unfold r8
  have eg:Src.get (.val ds) O i=ds[i]?:=rfl
  rw [eg]
  cases e:ds[i]? with
  | none=>
   have:i=ds.length:=by have:=aZ.mp e;omega
   subst this
   exact ⟨σ,O,rfl,hI⟩
  | some d=>
   obtain ⟨σ',O',e1,e2⟩:=h i σ O d hI e
   dsimp only
   rw [e1]
   exact Nd I h f (i+1) σ' O' e2 (by omega) (by have:=(al.mp e).1;omega)
theorem M9 (I:Nat->Ow->List D->Prop) (h:∀ i O acc d,I i O acc->ds[i]?=some d->∃ pN O',step d O acc=.ok pN O'/\I (i+1) O' pN):
  ∀ (f i:Nat) (O:Ow) (acc:List D),I i O acc->ds.length<=i+f->i<=ds.length->∃ pN O',qc (.val ds) step f i O acc=.ok pN O'/\I ds.length O' pN
 | 0,i,O,acc,hI,h1,h2=>by
  have:i=ds.length:=by omega
  subst this
  refine ⟨acc,O,?_,hI⟩
  unfold qc
  have e:Src.get (.val ds) O ds.length=none:=by simp [Src.get]
  rw [e]
 | f+1,i,O,acc,hI,h1,h2=>by
  unfold qc
  have eg:Src.get (.val ds) O i=ds[i]?:=rfl
  rw [eg]
  cases e:ds[i]? with
  | none=>
   have:i=ds.length:=by have:=aZ.mp e;omega
   subst this
   exact ⟨acc,O,rfl,hI⟩
  | some d=>
   obtain ⟨pN,O',e1,e2⟩:=h i O acc d hI e
   dsimp only
   rw [e1]
   exact M9 I h f (i+1) O' pN e2 (by omega) (by have:=(al.mp e).1;omega)
noncomputable def tT (n:Nat):D->Bool
 | .own k=>decide (k<n)
 | .lst _=>false
 | .tup _=>false
 | .map _ _=>false
 | _=>true
def qL (O:Ow):Prop:=∀ c∈O,∀ d∈c,tT O.length d=true
theorem yN (h:tT n d=true):frz O n f d=some d:=by
 cases d with
 | own k=>
  have h:k<n:=by simpa [tT] using h
  cases f<;>(unfold frz;dsimp only;rw [if_pos h])
 | lst ds=>cases h
 | tup ds=>cases h
 | map _ _=>cases h
 | _=>cases f<;>rfl
theorem vA {α:Type} {f:α->Option α}:∀ {l:List α},(∀ x∈l,f x=some x)->o6 f l=some l
 | [],_=>rfl
 | x::l,h=>by
  unfold o6
  rw [h x aI,vA fun y hy=>h y (aq _ hy)]
theorem Hd {O':Ow} {d:D} {cs:List D} (hO:∀ c∈O',∀ d∈c,tT O'.length d=true) (X:Ow) (h:frz (O'++X) O'.length 8 d=some (.lst cs)):t5 O'.length (.ok d (O'++X))=.ok (.lst cs) O':=by
 unfold t5
 dsimp only
 rw [h]
 have:(O'++X).take O'.length=O':=by simp
 rw [this,vA fun c hc=>vA fun d hd=>yN (hO c hc d hd)]
section
variable {σ σ':Sg} {O O1 O2:Ow} {t u ta tb:DE} {tA:DA} {x y:D} {b:Bool} {ds:List D}
theorem o3 (h:t σ O=.ok x O1):b_ t c_ σ O=.ok [x] O1:=by show ((t σ O).bnd _)=_;rw [h];rfl
theorem pE (h1:t σ O=.ok x O1) (h2:u σ O1=.ok y O2):b_ t (b_ u c_) σ O=.ok [x,y] O2:=by
 show ((t σ O).bnd _)=_
 rw [h1]
 show ((b_ u c_ σ O1).bnd _)=_
 rw [o3 h2];rfl
theorem uS (h1:t σ O=.ok x O1) (h2:tA σ O1=.ok ds O2):b_ t tA σ O=.ok (x::ds) O2:=by
 show ((t σ O).bnd _)=_
 rw [h1]
 show ((tA σ O1).bnd _)=_
 rw [h2];rfl
theorem z_ (h:tA σ O=.ok ds O1) (hn:ds.length=n):j_ n F tA σ O=F ds O1:=by show ((tA σ O).bnd _)=_;rw [h];show (if ds.length=n then _ else _)=_;rw [if_pos hn]
theorem vX (h:tA σ O=.ok ds O1):oU f tA σ O=f O1 ds:=by show ((tA σ O).bnd _)=_;rw [h];rfl
theorem qm (h1:ta σ O=.ok x O1) (h2:tb σ O1=.ok y O2):e_ f ta tb σ O=f O2 x y:=by
 show ((ta σ O).bnd _)=_
 rw [h1]
 show ((tb σ O1).bnd _)=_
 rw [h2];rfl
theorem ra (h:t σ O=.ok (.bl b) O1):oZ t σ O=.ok b O1:=by show ((t σ O).bnd _)=_;rw [h];rfl
theorem q_ (h:t σ O=.ok (.bl b) O1):pO t σ O=.ok b O1:=by show ((t σ O).bnd _)=_;rw [h];rfl
theorem uB (h:c σ O=.ok b O1):rn c σ O=.ok (!b) O1:=by show ((c σ O).bnd _)=_;rw [h];rfl
theorem ua (h:t σ O=.ok (.lst ds) O1):pD t σ O=.ok (.val ds) O1:=by show ((t σ O).bnd _)=_;rw [h];rfl
theorem xZ (h:t σ O=.ok (.tup ds) O1):pD t σ O=.ok (.val ds) O1:=by show ((t σ O).bnd _)=_;rw [h];rfl
theorem yK (h:t σ O=.ok x O1):oX i t σ O=.nx (σ.set i (some x)) O1:=by show ((t σ O).bnS _)=_;rw [h];rfl
theorem qQ (h:t σ O=.ok x O1):oS t σ O=.rt x O1:=by show ((t σ O).bnS _)=_;rw [h];rfl
theorem GS (h:t σ O=.ok x O1):rm t σ O=.nx σ O1:=by show ((t σ O).bnS _)=_;rw [h];rfl
theorem rV (h:c σ O=.ok b O1):pj c a d σ O=if b=true then a σ O1 else d σ O1:=by show ((c σ O).bnS _)=_;rw [h];rfl
theorem sh (h:a σ O=.nx σ' O1):m_ a d σ O=d σ' O1:=by show (match a σ O with|.nx σ' O'=>_|r=>r)=_;rw [h]
theorem Ai (h:a σ O=.rt x O1):m_ a d σ O=.rt x O1:=by show (match a σ O with|.nx σ' O'=>_|r=>r)=_;rw [h]
theorem GN (h:it σ O=.ok src O1):r6 it g body σ O=r8 src (fun d σ O=>match g.put d σ with|some σ'=>body σ' O|none=>.bad) (src.size O1) 0 σ O1:=by show ((it σ O).bnS _)=_;rw [h];rfl
theorem ya (h:tA σ O=.ok [.int (n:Nat)] O1) (hn:n<100000):rS tA σ O=.ok (.val ((bd n).map fun (i:Nat)=>D.int (i:Int))) O1:=by
 have hc:-1000000<=((n:Nat):Int)/\((n:Nat):Int)<=1000000:=by constructor<;>omega
 unfold rS
 rw [h]
 dsimp only [R.bnd]
 rw [if_pos hc]
 unfold K2
 have e2:(((n:Nat):Int)-0).toNat=n:=by omega
 rw [e2]
 congr 2
 refine eG fun i _=>?_
 rw [Int.zero_add]
theorem G7 (h:cs.length<=100000):qa O [.str cs]=.ok (.int cs.length) O:=by
 show (if cs.length<=100000 then R.ok (D.int cs.length) O else R.bad)=_
 rw [if_pos h]
theorem Uw {cs:List Nat} {i:Nat} (h:cs.length<=100000) (hi:i<cs.length):pf O (.str cs) (.int (i:Int))=.ok (.str [cs[i]]) O:=by
 show (if cs.length<=100000 then (match L2.atI cs (i:Int) with|some ch=>R.ok (D.str [ch]) O|none=>R.bad) else R.bad)=_
 rw [if_pos h,L2.atI_nat (au hi)]
theorem GB (hi:i<ds.length):pf O (.tup ds) (.int (i:Int))=.ok ds[i] O:=by
 show (match L2.atI ds (i:Int) with|some d=>R.ok d O|none=>R.bad)=_
 rw [L2.atI_nat (au hi)]
theorem Bw (hi:i<ds.length):pf O (.lst ds) (.int (i:Int))=.ok ds[i] O:=by
 show (match L2.atI ds (i:Int) with|some d=>R.ok d O|none=>R.bad)=_
 rw [L2.atI_nat (au hi)]
end
theorem MH (O:Ow) (n:Nat):∀ l:List Int,o6 (pJ O n) (l.map D.int)=some (l.map jo)
 | []=>rfl
 | x::l=>by
  have e:pJ O n (.int x)=some (.int x):=by cases n<;>rfl
  show o6 (pJ O n) (D.int x::l.map D.int)=_
  unfold o6
  rw [e,MH O n l];rfl
theorem R6 (O:Ow) (l:List Int):oQ qp O (.lst (l.map D.int)) (.lst [])=.ok (.bl l.isEmpty) O:=by
 unfold oQ py
 have e:pJ O 8 (.lst (l.map D.int))=some (.list (l.map jo)):=by
  show (o6 (pJ O 7) (l.map D.int)).map d9=_
  rw [MH];rfl
 rw [e]
 cases l<;>rfl
theorem Mw {α:Type} {src:Src} {step:D->Ow->List D->R (List D)} {O:Ow} {inj:α->D} {g:α->List D} {all:List α} (hg:∀ i,src.get O i=(all.map inj)[i]?):∀ (ds pre:List α) (acc:List D) (f:Nat),all=pre++ds->ds.length<=f->
  (∀ a∈ds,∀ acc:List D,acc.length<100000->step (inj a) O acc=.ok (acc++g a) O)->acc.length+(ds.flatMap g).length+ds.length<100000->qc src step f pre.length O acc=.ok (acc++ds.flatMap g) O
 | [],pre,acc,f,ha,_,_,_=>by
  have e:src.get O pre.length=none:=by rw [hg,ha];simp
  cases f<;>(unfold qc;rw [e];simp)
 | d::ds,pre,acc,0,_,h,_,_=>by simp at h
 | d::ds,pre,acc,f+1,ha,h,hs,hl=>by
  unfold qc
  have e:src.get O pre.length=some (inj d):=by rw [hg,ha];simp
  rw [e]
  simp only [cI,ar,bv] at hl
  show ((step (inj d) O acc).bnd fun pN O'=>qc src step f (pre.length+1) O' pN)=_
  rw [hs d aI acc (by omega)]
  show qc src step f (pre.length+1) O (acc++g d)=_
  have:=Mw hg ds (pre++[d]) (acc++g d) f (by rw [ha];simp) (by simpa using h) (fun d' h'=>hs d' (aq _ h')) (by rw [ar];omega)
  rw [ar,e8] at this
  rw [this];simp
theorem BW {α β:Type} (p:α->Bool) (e:α->β):∀ l:List α,(l.flatMap fun d=>if p d=true then [e d] else [])=(l.filter p).map e
 | []=>rfl
 | x::l=>by
  rw [cI,BW p e l,dI]
  by_cases hx:p x=true
  ·rw [if_pos hx,if_pos hx];rfl
  ·rw [if_neg hx,if_neg hx];rfl
theorem Am {α:Type} {ext:Nat} {it0:DI} {g:Tg} {ts:List DT} {te:DE} {σ:Sg} {O O0:Ow} {src:Src} {l:List α} {inj:α->D} {p:α->Bool} {e:α->D} {τ:α->Sg} {o:Bool} (hi:it0 σ O0=.ok src O) (hg:∀ i,src.get O i=(l.map inj)[i]?) (o_:src.size O=l.length) (hl:l.length<50000)
  (yZ:∀ a∈l,g.put (inj a) (pz (pz (σ++ao ext none) (g.slots++[])) (g.slots++[]))=some (τ a)) (hp:∀ a∈l,sJ ts (τ a) O=.ok (p a) O) (he:∀ a∈l,p a=true->te (τ a) O=.ok (e a) O):
  pG o ext it0 g ts [] te σ O0=uq o (.ok ((l.filter p).map e) O):=by
 unfold pG xY
 rw [hi]
 show uq o (wJ (qc src _ (src.size O) 0 O []))=_
 have step:∀ a∈l,∀ acc:List D,acc.length<100000->wW ⟨it0,g,ts⟩ [] te (pz (σ++ao ext none) (pS [⟨it0,g,ts⟩])) (inj a) O acc=.ok (acc++(if p a=true then [e a] else [])) O:=by
  intro a ha acc xC
  show (match g.put (inj a) (pz (pz (σ++ao ext none) (g.slots++[])) (g.slots++[])) with|some pI=>(sJ ts pI O).bnd fun b O3=>if b=true then sO [] te pI O3 acc else .ok acc O3|none=>.bad)=_
  rw [yZ a ha]
  show (sJ ts (τ a) O).bnd _=_
  rw [hp a ha]
  show (if p a=true then sO [] te _ O acc else .ok acc O)=_
  by_cases wa:p a=true
  ·rw [if_pos wa,if_pos wa]
   unfold sO
   rw [he a ha wa]
   show (if acc.length<100000 then _ else _)=_
   rw [if_pos xC]
  ·rw [if_neg wa,if_neg wa];simp
 have hlen:((l.filter p).map e).length<=l.length:=by rw [aM];exact bB _ _
 have w:=Mw (O:=O) (inj:=inj) (g:=fun d=>if p d=true then [e d] else []) hg l [] [] l.length rfl (ay _) step (by rw [BW];simp at hlen ⊢;omega)
 rw [BW,dU] at w
 have w':qc src (wW ⟨it0,g,ts⟩ [] te (pz (σ++ao ext none) (pS [⟨it0,g,ts⟩]))) (src.size O) 0 O []=.ok ((l.filter p).map e) O:=by rw [o_];exact w
 rw [w'];rfl
section
variable {α:Type} {ext:Nat} {it0:DI} {i:Nat} {t:DT} {te:DE} {σ:Sg} {O O0:Ow} {l:List α} {inj:α->D} {p:α->Bool} {e:α->D} {τ:α->Sg} {o:Bool}
theorem BG {σ:Sg} {O:Ow} {b:Bool} (h:t σ O=.ok b O):sJ [t] σ O=.ok b O:=by
 show ((t σ O).bnd _)=_
 rw [h];cases b<;>rfl
theorem vU (hi:it0 σ O0=.ok (.val (l.map inj)) O) (hl:l.length<50000) (yZ:∀ a,(pz (pz (σ++ao ext none) [i]) [i]).set i (some (inj a))=τ a) (hp:∀ a∈l,t (τ a) O=.ok (p a) O) (he:∀ a∈l,p a=true->te (τ a) O=.ok (e a) O):
  pG o ext it0 (.one i) [t] [] te σ O0=uq o (.ok ((l.filter p).map e) O):=
 Am (g:=.one i) hi (fun _=>rfl) (by show (l.map inj).length=_;simp) hl (fun a _=>congrArg some (yZ a)) (fun a ha=>BG (hp a ha)) he
theorem Bj (hi:it0 σ O0=.ok (.val (l.map inj)) O) (hl:l.length<50000) (yZ:∀ a,(pz (pz (σ++ao ext none) [i]) [i]).set i (some (inj a))=τ a) (he:∀ a∈l,te (τ a) O=.ok (e a) O):
  pG o ext it0 (.one i) [] [] te σ O0=uq o (.ok (l.map e) O):=by
 have:=Am (o:=o) (g:=.one i) (ts:=[]) (p:=fun _=>true) (te:=te) hi (fun _=>rfl) (by show (l.map inj).length=_;simp) hl (fun a _=>congrArg some (yZ a)) (fun a ha=>rfl) fun a ha _=>he a ha
 rw [this,lr.mpr (fun _ _=>rfl)]
end
theorem xR {α:Type} {it:DI} {i:Nat} {body:DS} {σ:Sg} {O0 O:Ow} {l:List α} {inj:α->D} (hi:it σ O0=.ok (.val (l.map inj)) O) (I:Nat->Sg->Ow->Prop) (h:∀ (k:Nat) a σ O,l[k]?=some a->I k σ O->∃ σ' O',body (σ.set i (some (inj a))) O=.nx σ' O'/\I (k+1) σ' O') (h0:I 0 σ O):
  ∃ σ' O',r6 it (.one i) body σ O0=.nx σ' O'/\I l.length σ' O':=by
 obtain ⟨σ',O',l1,l2⟩:=Nd (ds:=l.map inj) (step:=fun d σ O=>match Tg.put (.one i) d σ with|some σ'=>body σ' O|none=>.bad) I (fun j σ O d hI hd=>by
  rw [bh] at hd
  cases e:l[j]? with
  | none=>rw [e] at hd;cases hd
  | some a=>
   rw [e] at hd;cases hd
   exact h j a σ O e hI) (l.map inj).length 0 σ O h0 (by simp) (cz _)
 rw [aM] at l2
 exact ⟨σ',O',(GN hi).trans l1,l2⟩
theorem G4:∀ l:List Bool,vf (l.map D.bl)=some l
 | []=>rfl
 | x::l=>by
  show (vf (l.map D.bl)).map (x :: ·)=_
  rw [G4 l];rfl
theorem zkR {α:Type} (O:Ow) (l:List α) (p:α->Bool):Qt O [.lst (l.map fun a=>D.bl (p a))]=.ok (.bl (l.any p)) O:=by
 show (match vf (l.map fun a=>D.bl (p a)) with|some bs=>R.ok (D.bl (bs.any id)) O|none=>R.bad)=_
 have:(l.map fun a=>D.bl (p a))=(l.map p).map D.bl:=by rw [cO];rfl
 rw [this,G4]
 show R.ok (D.bl _) O=_
 rw [List.any_map];rfl
theorem Av {α:Type} (O:Ow) (l:List α) (p:α->Bool):tS O [.lst (l.map fun a=>D.bl (p a))]=.ok (.bl (l.all p)) O:=by
 show (match vf (l.map fun a=>D.bl (p a)) with|some bs=>R.ok (D.bl (bs.all id)) O|none=>R.bad)=_
 have:(l.map fun a=>D.bl (p a))=(l.map p).map D.bl:=by rw [cO];rfl
 rw [this,G4]
 show R.ok (D.bl _) O=_
 rw [lQ];rfl
end DL
namespace DL
open PySem L2
structure uG (h0:aT) (H:Hp) (h:aT) (a:af) (C:ae):Prop where
 ex:∃ oe vs,h.get? a=some oe/\(oe.cls=C/\oe.dict=none)/\oe.data=.fields vs/\1<vs.size/\(vs[1]?=some .none \/ ∃ T oT ts,vs[1]?=some (.ref T)/\T≠a/\h0.get? T=none/\H T=none/\h.get? T=some oT/\oT.data=.fields ts/\ts[3]?=some .none)
 new:h0.get? a=none
 free:H a=none
theorem Xy (o:Obj) (f):(o.mapFields f).dict=o.dict:=by
 obtain ⟨c,d,dt,sl⟩:=o;cases dt<;>rfl
structure Kp (h0:aT) (H:Hp) (fs:List af) (h h':aT):Prop where
 keep:∀ b o,h.get? b=some o->b∉fs->(H b≠none\/h0.get? b≠none)->h'.get? b=some o
 slot:∀ b o,h.get? b=some o->b∈fs->∃ sl,h'.get? b=some { o with slots:=sl }
 there:∀ b o,h.get? b=some o->∃ o',h'.get? b=some o'
 size:h.objs.size<=h'.objs.size
section
variable {M:iC} {A:aW} {E:ae->ag->Prop} {s:ag} {base h0:aT} {H:Hp} {env:Env} {outer:List Env} {L a:af} {C:ae} {Q:Unit->ag->Prop}
theorem L6 (tW:A.frames=some (env::outer)) (hl:s.heap.FunFrames base (env::outer)) (hf:env.frame=some L) (he:s.heap.get? a=some oe) (hC:oe.cls=C/\oe.dict=none) (hd:oe.data=.fields vs) (o_:1<vs.size) (new:h0.get? a=none) (free:H a=none)
  (hH:∀ b,s.heap.objs.size<=b->H b=none) (FG:∀ b,s.heap.objs.size<=b->h0.get? b=none) (h:∀ h',Kp h0 H (ql (env::outer)) s.heap h'->uG h0 H h' a C->Q () { s with heap:=h' }):
  am M A (do let f <- frameOf env;let pl <- entryPlaceOf L hn;let b <- lu head f .none (bj L) .none pl;setField (.ref a) 1 b) (fun _ s'=>am M A (setFlight (.ref a) none) Q E s') E s:=by
 have OP:a∉ql (env::outer):=fun hm=>by
  obtain ⟨_,o,ho,xy⟩:=hl.mem hm
  rw [he] at ho;cases ho
  exact xy vs hd
 refine aa (wpAny_frameOf_fun tW hl hf fun h1 ⟨z1,k1,OG⟩=>aa (wpAny_entryPlaceOf fun pl p_=>?_))
 unfold lu newFields
 refine aa (bt ?_ (p_.sizeOk5 _ _ _ _ _))
 have e1:h1.get? a=some oe:=(k1 a OP).trans he
 generalize qJ:({ cls:=.type "traceback",dict:=none,data:=.fields ([head,.ref L,.none,bj L,.none]++(if pl.isEmpty then ao 6 cx else pl)).toArray }:Obj)=ob
 have xx:ob.data=.fields ([head,.ref L,.none,bj L,.none]++(if pl.isEmpty then ao 6 cx else pl)).toArray:=by rw [<- qJ]
 have e2:=ah (h:=h1) ob e1
 refine eJ e2 hd o_ ?_
 have nT:h1.objs.size≠a:=dq (aG e1)
 have d3:=cA hd (·.setIfInBounds 1 (db h1.objs.size))
 have e3:=bA (fi (·.setIfInBounds 1 (db h1.objs.size))) e2 (c9 d3)
 have t3:((h1.push ob).update a (fi (·.setIfInBounds 1 (db h1.objs.size)))).get? h1.objs.size=some ob:=(br _ _ (bq nT)).trans (aE h1 (c9 xx))
 unfold setFlight
 refine aa (be e3 d3 (x:=.ref h1.objs.size) (by simp [o_]) ?_)
 rw [if_pos (show (db h1.objs.size !=cx)=true by simp)]
 have Oy:3<([head,.ref L,.none,bj L,.none]++(if pl.isEmpty then ao 6 cx else pl)).toArray.size:=by simp only [az,ar,bv,gz];omega
 refine eJ t3 xx Oy (h _ ?_ ?_)
 ·have old:∀ b o,b≠a->h1.get? b=some o->(((h1.push ob).update a (fi (·.setIfInBounds 1 (db h1.objs.size)))).update h1.objs.size (fi (·.setIfInBounds 3 ((none:Option af).elim cx fun f=>bj f)))).get? b=some o:=fun b o hb e=>by
   rw [br _ _ (dq (aG e)),br _ _ (bq hb)]
   exact ah _ e
  refine ⟨fun b o e hb hk=>old b o (fun z=>?_) ((k1 b hb).trans e),fun b o e hb=>?_,fun b o e=>?_,?_⟩
  ·subst z
   rcases hk with q|q
   ·exact q free
   ·exact q new
  ·obtain ⟨sl,q⟩:=OG b o e
   exact ⟨sl,old b _ (fun z=>OP (z▸hb)) q⟩
  ·by_cases hb:b=a
   ·subst hb
    exact ⟨_,(br _ _ nT).trans e3⟩
   ·obtain ⟨sl,q⟩:=OG b o e
    exact ⟨_,old b _ hb q⟩
  ·rw [ik,ik,bZ,z1];exact ez _
 ·refine ⟨⟨_,_,(br _ _ nT).trans e3,⟨(jz _ _).trans hC.1,(Xy _ _).trans hC.2⟩,d3,by simpa using o_,.inr ⟨h1.objs.size,_,_,by simp [o_],nT,?_,hH _ (by rw [z1];exact ay _),bA _ t3 (c9 (cA xx _)),cA xx _,?_⟩⟩,new,free⟩
  ·exact FG _ (by rw [z1];exact ay _)
  ·rw [hU]
   rw [if_pos Oy];rfl
theorem Gm (tW:A.frames=some (env::outer)) (hl:s.heap.FunFrames base (env::outer)) (hf:env.frame=some L) (x:uG h0 H s.heap a C) (hH:∀ b,s.heap.objs.size<=b->H b=none) (FG:∀ b,s.heap.objs.size<=b->h0.get? b=none)
  (h:∀ h',Kp h0 H (ql (env::outer)) s.heap h'->uG h0 H h' a C->Q () { s with heap:=h' }):am M A (noteFrame (.ref a) env) (fun _ s'=>am M A (setFlight (.ref a) none) Q E s') E s:=by
 obtain ⟨⟨oe,vs,he,hC,hd,o_,ht⟩,new,free⟩:=x
 unfold noteFrame
 simp only [hf]
 rcases ht with h1|⟨T,oT,ts,h1,nT,newT,uE,hT,wq,h3⟩
 ·refine aa (be he hd h1 ?_)
  rw [if_neg (by decide)]
  exact L6 tW hl hf he hC hd o_ new free hH FG h
 ·refine aa (be he hd h1 ?_)
  rw [if_pos (show (db T !=cx)=true by simp)]
  refine aa (be hT wq h3 ?_)
  rw [if_neg (show ¬ ((cx==bj L)=true) by simp [bj])]
  refine aa (eJ hT wq (d7.mp h3).1 ?_)
  have vE:∀ b,b≠T->(s.heap.update T (fi (·.setIfInBounds 3 cx))).get? b=s.heap.get? b:=fun b hb=>br _ _ (bq hb)
  have rec_:∀ b o,s.heap.get? b=some o->(∀ vs,o.data ≠ .fields vs)->b≠T:=fun b o hb xy z=>by
   subst z;rw [hT] at hb;cases hb;exact xy ts wq
  have sz:(s.heap.update T (fi (·.setIfInBounds 3 cx))).objs.size=s.heap.objs.size:=ik ..
  refine L6 (s:={ s with heap:=s.heap.update T (fi (·.setIfInBounds 3 cx)) }) tW (hl.of_keeps fun b o hb xy=>⟨o,(vE b (rec_ b o hb xy)).trans hb,rfl⟩) hf ((vE a (bq nT)).trans he) hC hd o_ new free (fun b hb=>hH b (by rw [<- sz];exact hb)) (fun b hb=>FG b (by rw [<- sz];exact hb)) fun h' kp xa=>h h' ⟨fun b o e hb hk=>?_,fun b o e hb=>?_,fun b o e=>?_,by rw [<- sz];exact kp.size⟩ xa
  ·refine kp.keep b o ((vE b fun z=>?_).trans e) hb hk
   subst z
   rcases hk with q|q
   ·exact q uE
   ·exact q newT
  ·refine kp.slot b o ((vE b fun z=>?_).trans e) hb
   subst z
   obtain ⟨_,o',tG,xy⟩:=hl.mem hb
   rw [hT] at tG;cases tG
   exact xy ts wq
  ·by_cases hb:b=T
   ·subst hb
    exact kp.there b _ (bA _ hT (c9 (cA wq _)))
   ·exact kp.there b o ((vE b hb).trans e)
end
open PyProof.Rows (AllBare)
noncomputable def qA (P:aH) (w:aP) (Cl:Nat->ae):uJ:=fun outer H s E e s'=>∃ a c H',e=.ref a/\s'.os=s.os/\0<s'.toks/\f8 s'.gens/\Un (ql outer) [] H H' s.heap s'.heap/\HOk P w H' s'.heap/\uG s.heap H' s'.heap a (Cl c)/\E (Cl c) none H'
abbrev Xk (Cl:Nat->ae) (E:XK):Nat->Hp->Prop:=fun c H=>E (Cl c) none H
noncomputable def Dv (X:Cx) (Ex:Nat->Hp->Prop) (Cl:Nat->ae):Prop:=∀ (pins:List (af×Obj)) (σ:St) (H:Hp) (s:ag) (a:af) (c:Nat),Inv X pins σ H s->uG X.s₀.heap H s.heap a (Cl c)->Ex c H->X.xe (.ref a) s
theorem HOk.here (x:L2.HOk P w H h) (e:h.get? a=none):H a=none:=by
 cases q:H a with
 | none=>rfl
 | some o=>
  exfalso
  have y:=x a o q
  have no:∀ u,h.get? a=some u->False:=fun u z=>by rw [e] at z;cases z
  cases o with
  | lst xs=>obtain ⟨_,_,_,_,e⟩:=y;exact no _ e
  | tup xs=>obtain ⟨_,_,_,_,e,_⟩:=y;exact no _ e
  | dK l_=>obtain ⟨_,_,_,_,o,_,_,e,_⟩:=y;exact no _ e
  | dT l_=>obtain ⟨_,_,_,_,o,_,_,e,_⟩:=y;exact no _ e
  | set S n=>obtain ⟨o,_,_,_,e,_⟩:=y;exact no _ e
  | ins C dx fs=>obtain ⟨_,_,_,e,_⟩:=y;exact no _ e
  | own y'=>obtain ⟨_,e⟩:=y;exact no _ e
  | xd fs=>obtain ⟨_,⟨_,_,_,e,_⟩,_⟩:=y;exact no _ e
  | rng lo hi=>obtain ⟨_,_,_,e⟩:=y;exact no _ e
  | frz ob u=>obtain ⟨e,_⟩:=y;exact no _ e
  | tbl ps=>exact no _ (show h.get? a=some _ from y)
  | met f y'=>exact no _ (show h.get? a=some _ from y)
  | ext φ=>obtain ⟨_,⟨_,e⟩,_⟩:=y;exact no _ e
theorem Kp.hok (k:Kp h0 H fs h h') (x:L2.HOk P w H h) (hf:∀ b∈fs,H b=none):L2.HOk P w H h':=fun a o e=>
 (x a o e).stay (fun b u hb q=>k.keep b u q (fun z=>by
  rcases hb with rfl|hb
  ·rw [hf _ z] at e;cases e
  ·rw [hf _ z] at hb;cases hb) (.inl (by
  rcases hb with rfl|hb
  ·rw [e];exact fun z=>nomatch z
  ·rw [hb];exact fun z=>nomatch z))) (fun _ q=>q) fun _ _ q=>q
theorem uG.older (x:uG h1 H h a C) (k:∀ b o,h0.get? b=some o->∃ o',h1.get? b=some o'):uG h0 H h a C:=by
 have old:∀ b,h1.get? b=none->h0.get? b=none:=fun b e=>by
  cases q:h0.get? b with
  | none=>rfl
  | some o=>obtain ⟨o',z⟩:=k b o q;rw [e] at z;cases z
 obtain ⟨⟨oe,vs,he,hC,hd,o_,ht⟩,new,free⟩:=x
 refine ⟨⟨oe,vs,he,hC,hd,o_,ht.imp id fun ⟨T,oT,ts,h1,nT,newT,r⟩=>⟨T,oT,ts,h1,nT,old T newT,r⟩⟩,old a new,free⟩
section
variable {P:aH} {w:aP} {K:ai} {mg:Str->Option ae} {base:aT} {N:List Str} {qual:Str} {scope:cF} {f:af} {cd:ae} {A:aW} {outer:List Env} {s:ag} {H:Hp} {E:XK} {Cl:Nat->ae}
theorem Lx:Dv (wQ (qA P w Cl) P w K mg base N qual scope f cd A outer s H E) (Xk Cl E) Cl:=by
 intro pins σ H1 s1 a c I x q
 generalize hX:wQ (qA P w Cl) P w K mg base N qual scope f cd A outer s H E=X at I x ⊢
 have tW:(A.deeper (bg qual scope s.heap.objs.size f cd)).frames=some (bg qual scope s.heap.objs.size f cd::outer):=by have:=I.ok.frames;rw [<- hX] at this;exact this
 have rz:s1.heap.FunFrames base (bg qual scope s.heap.objs.size f cd::outer):=by have:=I.stack;rw [<- hX] at this;exact this
 have pR:∀ b∈ql (bg qual scope s.heap.objs.size f cd::outer),H1 b=none:=by have:=I.stkFree;rw [<- hX] at this;exact this
 have hok:HOk P w H1 s1.heap:=by have:=I.hok;rw [<- hX] at this;exact this
 have oW:Un (ql outer) [] H H1 s.heap s1.heap:=by have:=I.base;rw [<- hX] at this;exact this
 have zl:s1.os=s.os:=by have:=I.os;rw [<- hX] at this;exact this
 have o_:s.heap.objs.size<=s1.heap.objs.size:=by have:=I.sz;rw [<- hX] at this;exact this
 have hL:H1 s.heap.objs.size=none:=by have:=I.free;rw [<- hX] at this;exact this
 have hx:uG s.heap H1 s1.heap a (Cl c):=by rw [<- hX] at x;exact x
 have De:=I.bare
 rw [<- hX]
 show am (av P w) (A.deeper (bg qual scope s.heap.objs.size f cd)) (leaving (bg qual scope s.heap.objs.size f cd) (.ref a)) (fun _ qf=>qA P w Cl outer H s E (.ref a) qf) (fun e' qf=>qA P w Cl outer H s E e' qf) s1
 unfold leaving
 refine aa (Gm tW rz rfl hx (fun b hb=>hok.fresh hb) (fun b hb=>iB (aU o_ hb)) fun h' kp xa=>?_)
 refine ⟨a,c,H1,rfl,zl,I.tk,De,?_,kp.hok hok pR,xa,q⟩
 refine ⟨fun b o e n hb hx=>?_,fun b o e n hb hx=>?_,fun b o e n hx=>oW.free b o e n hx,fun b o e hx=>?_,oW.tups,oW.frzs,oW.tbls⟩
 ·refine kp.keep b o (oW.keep b o e n hb hx) (fun z=>?_) (.inr (by rw [e];exact fun z=>nomatch z))
  have z':b∈s.heap.objs.size::ql outer:=z
  rcases aw.mp z' with z2|z2
  ·exact absurd (aG e) (by rw [z2];exact bP _)
  ·exact hb z2
 ·obtain ⟨sl,e1⟩:=oW.slot b o e n hb hx
  obtain ⟨uV,e2⟩:=kp.slot b _ e1 (show b∈s.heap.objs.size::ql outer from aq _ hb)
  exact ⟨uV,e2⟩
 ·obtain ⟨o',e1⟩:=oW.there b o e hx
  exact kp.there b o' e1
end
section
variable {X:Cx} {Cl:Nat->ae} {E:XK}
theorem MF (hex:X.ex=[]) (h:Dv X (Xk Cl E) Cl):Ad (qA X.prog X.w Cl) X E:=by
 rintro pins σ H s e s' I ⟨a,c,H',rfl,os,pM,bare,un,hok,x,q⟩
 have I':Inv X pins σ H' s':=I.call' (ch:=[]) os un hok bare (fun b z=>absurd z (by simp))
 exact h pins σ H' s' a c I' (x.older fun b o e=>I.base.there b o e (by rw [hex];simp)) q
theorem MA:Ad (qA X.prog X.w Cl) X E0:=by
 rintro pins σ H s e s' I ⟨a,c,H',rfl,os,pM,bare,un,hok,x,q⟩
 exact ak q
end
noncomputable abbrev DH:List ae:=[.type "ValueError",.type "Exception",.type "BaseException",.type "object"]
noncomputable abbrev F0 (mg:Str->Option ae) (base:aT) (x:Str) (C:af):Prop:=PyProof.Rows.OwnCls x C DH "ValueError.__new__" mg base
section
variable {X:Cx} {Ex:Nat->Hp->Prop} {Cl:Nat->ae}
noncomputable def Eg (c:Nat) (t:DA):DS:=fun σ O=>(t σ O).bnS fun xs O1=>if xs.length<=1000 then .exc c O1 else .bad
theorem WV (I:Inv X pins σ H s) (hex:X.ex=[]) (m:Heap.MadeExcOf s.heap h' a C vs):uG X.s₀.heap H h' a C:=by
 obtain ⟨t,h1,h2,h3⟩:=m.there
 refine ⟨⟨_,_,h1,⟨rfl,rfl⟩,rfl,by simp,.inl rfl⟩,?_,HOk.here I.hok m.new⟩
 cases q:X.s₀.heap.get? a with
 | none=>rfl
 | some o=>
  obtain ⟨o',z⟩:=I.base.there a o q (by rw [hex];simp)
  rw [m.new] at z;cases z
theorem Ys (hX:Dv X Ex Cl) (hex:X.ex=[]) (qi:Cl c=.ref C) (own:F0 X.mg X.base x C) (hc:X.calm=true) (hg:Gl X x) (ha:rZ X Ex (e::es) t)
  (qX:(x==("__debug__":Str))=false:=by decide) (he:aD (e::es) X.env=(false,eval e X.env)::aD es X.env:=by rfl) (p_:(backTo oP (aD (e::es) X.env)).any (·.1)=false:=by rfl) (hbk:∃ y pA,backTo oP (aD (e::es) X.env)=(false,y)::pA:=by exact ⟨_,_,rfl⟩):
  rC X Ex (.Raise (some (.Call (.Name x np) (e::es) [] oP)) none pos) (Eg c t):=by
 refine ⟨?_⟩
 rintro pins s d_ H D I ⟨hid,μ,σ,O,e1,c1,q⟩
 obtain ⟨bm,N,nm,qn,bs,hdct,sn,sub,ab,col,dd,k0,k1,k2,k3,k5,mN,hC,hN,hni,TL⟩:=own.obj
 refine wpAny_Raise_call_subU (nm:=nm) (q:=qn) (N:=N) (bs:=bs) (hdct:=hdct) (sn:=sn) (sub:=sub) (ab:=ab) (col:=col) (dd:=dd) (k0:=k0) (k1:=k1) (k2:=k2) (k3:=k3) (k5:=k5) jp (bmB:=DH) (by rfl) jp (TL.hasType (by rfl)) (I.ok.hd hc) p_ hni (Bz I hg own.bound ⟨rfl,?_⟩ qX)
 have go:=ha.out oP pins s d_ H (fun vs H1=>vs.length<=1000/\Ex c H1) I ⟨hid,μ,σ,O,e1,c1,nN.bnS (q:nN Ex X.K H hid μ (Eg c t σ O) D) fun ds O1 vs H1 h_ x2 c2 d2 q2=>by
  by_cases hl:ds.length<=1000
  ·rw [if_pos hl] at q2
   exact ⟨by rw [<- d2.length];exact hl,q2 H1 h_ .refl c2⟩
  ·rw [if_neg hl] at q2;exact ak q2⟩
 obtain ⟨y,pA,hb⟩:=hbk
 rw [hb] at go ⊢
 refine hJ (oV go fun us s1 ⟨vs,H1,I1,r,hl,hx⟩=>⟨rfl,aU (by rw [<- r.length];exact hl) (by decide),I1.bk _ _ hC,hN.keeps I1.bk,TL.keeps I1.bk,fun h' a m=>?_⟩)
 exact hX pins d_ H1 { s1 with heap:=h' } a c (I1.kept (t':=s1.toks) m.keeps) (by rw [qi];exact WV I1 hex m) hx
end
noncomputable abbrev tj (Cl:Nat->ae) (P:aH) (w:aP) (K:ai) (mg:Str->Option ae) (base:aT) (N:List Str) (qual:Str) (scope:cF) (f:af) (k_:ae) (A:aW) (outer:List Env) (s:ag) (H:Hp) (E:XK):Cx:=
 wQ (qA P w Cl) P w K mg base N qual scope f k_ A outer s H E
theorem LP {Cl:Nat->ae} {P:aH} {w:aP} {K:ai} {mg:Str->Option ae} {base:aT} {N:List Str} {qual:Str} {scope:cF} {f:af} {k_:ae} {A:aW} {outer:List Env} {s:ag} {H:Hp} {E:XK}:
  j0 (av P w) (tj Cl P w K mg base N qual scope f k_ A outer s H E).A (tj Cl P w K mg base N qual scope f k_ A outer s H E).env (tj Cl P w K mg base N qual scope f k_ A outer s H E).xe:=
 PassesOwn.leaving (Q₁:=fun e qf=>qA P w Cl outer H s E e qf) (E₁:=fun e' qf=>qA P w Cl outer H s E e' qf)
theorem SQ {Cl:Nat->ae} {P:aH} {w:aP} {K:ai} {mg:Str->Option ae} {base:aT} {k:Nat} {f:af} {name qual:Str} {params:fE} {body:List dh} {scope:cF} {dV kV doc pm k_ ct oc:ae} {an od:Option af} {sk:Array (Option ae)} {N ps:List Str} {t:DS}
  (lk:K.lookup f=some ⟨oc,od,.func (bI name qual params body scope dV kV doc pm an k_ ct),sk⟩) (pY:ee K k_ qual=true) (S:pK N ps scope)
  (pU:∀ (A:aW) (outer:List Env) (s:ag) (H:Hp) (E:XK),nO k (A.deeper (bg qual scope s.heap.objs.size f k_))->sM (tj Cl P w K mg base N qual scope f k_ A outer s H E) (Xk Cl E) body t):
  nY P w K mg base (qA P w Cl) (k+1) f (bI name qual params body scope dV kV doc pm an k_ ct) ps (FP K (Xk Cl) ps.length (pZ N.length t)):=by
 refine o5 lk pY S (fun vs H Q E h=>h.1) fun A outer s H vs Q E hr h=>?_
 obtain ⟨hl,hid,μ,ds,O,d,c,q⟩:=h
 refine ⟨_,(pU A outer s H E hr).out,hid,μ,_,O,N4 d N,c,?_⟩
 unfold pZ at q
 generalize t (ds.map some++ao (N.length-ds.length) none) O=r at q
 cases r with
 | nx σ O'=>exact fun d_ H' g_ x e c'=>q .non H' g_ x c' Ah
 | rt d' O'=>exact fun v H' g_ x c' r=>q v H' g_ x c' r
 | bk σ O'=>exact ak q
 | ct σ O'=>exact ak q
 | exc c' O'=>exact fun H' g_ x c2=>q H' g_ x c2
 | bad=>exact ak q
structure nH (Cl:Nat->ae) (P:aH) (w:aP) (K:ai) (mg:Str->Option ae) (base:aT) (x:Str) (k n:Nat) (F:List D->Ow->R D):Prop where
 ex:∃ f fd ps,mg x=some (.ref f)/\dB K (.ref f)=true/\Binds K fd ps []/\nY P w K mg base (qA P w Cl) k f fd ps (FP K (Xk Cl) n F)
theorem Gv {Cl:Nat->ae} {X:Cx} {E:XK} {x:Str} {k j n:Nat} {F:List D->Ow->R D} {p pos:Pos} {e:aQ} {es:List aQ} {t:DA} (c:nH Cl X.prog X.w X.K X.mg X.base x k n F) (hx:Ad (qA X.prog X.w Cl) X E) (hr:nO j X.A) (hk:k<=j) (hg:Gl X x) (ha:rZ X (Xk Cl E) (e::es) t)
  (qX:(x==("__debug__":Str))=false:=by decide) (he:aD (e::es) X.env=(false,eval e X.env)::aD es X.env:=by rfl) (p_:(backTo pos (aD es X.env)).any (·.1)=false:=by rfl):
  PD X (Xk Cl E) (.Call (.Name x p) (e::es) [] pos) (j_ n F t):=by
 obtain ⟨f,fd,ps,hm,C3,hb,G⟩:=c.ex
 exact Q4 (Ec:=Xk Cl) (E:=E) (G.mono hk) hr hg hm C3 hb hx ha qX he p_
theorem U1 {Cl:Nat->ae} {X:Cx} {x:Str} {k j n:Nat} {F:List D->Ow->R D} {p pos:Pos} {e:aQ} {es:List aQ} {t:DA} (c:nH Cl X.prog X.w X.K X.mg X.base x k n F) (hr:nO j X.A) (hk:k<=j) (hg:Gl X x) (ha:rZ X rR (e::es) t)
  (qX:(x==("__debug__":Str))=false:=by decide) (he:aD (e::es) X.env=(false,eval e X.env)::aD es X.env:=by rfl) (p_:(backTo pos (aD es X.env)).any (·.1)=false:=by rfl):
  PD X rR (.Call (.Name x p) (e::es) [] pos) (j_ n F t):=Gv (E:=E0) c MA hr hk hg ha qX he p_
theorem fnX {Cl:Nat->ae} {P:aH} {w:aP} {K:ai} {mg:Str->Option ae} {base:aT} {k:Nat} {x:Str} {st:dh} {N ps:List Str} {t:DS} (h:pX K mg x st) (S:pK N ps (oY st))
  (hb:∀ (kV doc pm:ae) (an:Option af) (k_ ct:ae) (us:List ae),us.length=ps.length->bindArgs (bI x x (v5 st) (tU st) (oY st) .none kV doc pm an k_ ct) ⟨us,[]⟩=pure (ps.zip us))
  (pU:∀ (f:af) (k_:ae) (A:aW) (outer:List Env) (s:ag) (H:Hp) (E:XK),nO k (A.deeper (bg x (oY st) s.heap.objs.size f k_))->sM (tj Cl P w K mg base N x (oY st) f k_ A outer s H E) (Xk Cl E) (tU st) t):
  nH Cl P w K mg base x (k+1) ps.length (pZ N.length t):=by
 obtain ⟨f,fd,hm,F⟩:=h
 refine ⟨f,fd,ps,hm,F.kp,F.binds hb,?_⟩
 obtain ⟨oc,od,kV,doc,pm,an,k_,ct,sk,rfl,lk,pY⟩:=F.ex
 exact SQ lk pY S fun A outer s H E hr=>pU f k_ A outer s H E hr
section
variable {Cl:Nat->ae} {P:aH} {w:aP} {K:ai} {mg:Str->Option ae} {base:aT} {k n:Nat} {x:Str} {F G:List D->Ow->R D}
theorem nH.imp (c:nH Cl P w K mg base x k n F) (h:∀ ds O H hid μ Ex Q,nI K H hid μ O->p9 Ex K H hid μ (G ds O) Q->p9 Ex K H hid μ (F ds O) Q):nH Cl P w K mg base x k n G:=by
 obtain ⟨f,fd,ps,hm,C3,hb,Fo⟩:=c.ex
 refine ⟨f,fd,ps,hm,C3,hb,Fo.imp fun vs H Q E ⟨hl,hid,μ,ds,O,d,cl,q⟩=>⟨hl,hid,μ,ds,O,d,cl,h ds O H hid μ _ Q cl q⟩⟩
theorem nH.bad (c:nH Cl P w K mg base x k n F):nH Cl P w K mg base x k n (fun _ _=>.bad):=c.imp fun _ _ _ _ _ _ _ _ q=>ak q
theorem nH.self (c:nH Cl P w K mg base x k n F):nH Cl P w K mg base x k n F:=c
end
noncomputable def DP (f:Nat->Option Bool):D->Option Bool
 | .exn C=>f C
 | .non=>some false
 | _=>none
noncomputable def rE (f:Nat->Option Bool) (t:DE):DE:=fun σ O=>(t σ O).bnd fun d O1=>match DP f d with
 | some b=>.ok (.bl b) O1
 | none=>.bad
section
variable {X:Cx} {Ex:Nat->Hp->Prop} {pos:Pos} {a:aQ} {ta:DE}
theorem M3 (f:Nat->Option Bool) (hc:∀ u,RelV cv u->u=cval) (hn:aJ X.K (.type "NoneType") cval=some false) (hf:∀ C b,f C=some b->aJ X.K (.ref C) cval=some b):
  nU X (.builtin "isinstance") (fun xs H Q=>∃ x hid μ O d b,xs=[x,cv]/\nI X.K H hid μ O/\Dat X.K H hid μ d x/\DP f d=some b/\Q (.bl b) H):=by
 intro pins s σ H xs us Q I r h
 obtain ⟨x,hid,μ,O,d,b,rfl,cl,dx,hb,q⟩:=h
 obtain ⟨u,w',rfl,rx,rc⟩:=yE r
 obtain rfl:=hc _ rc
 cases d with
 | non=>
  unfold Dat at dx;subst dx;cases rx
  cases hb
  exact wT I (j5 l9 I.kIn fz hn (fun z=>nomatch z) fun tk pM=>⟨.bl _,H,I.tok tk,rfl,q⟩)
 | exn C=>
  unfold Dat at dx
  obtain ⟨p,φ,rfl,⟨k,g⟩,hr,_⟩:=dx
  cases rx
  obtain ⟨y,_⟩:=Rd.ok hr I.hok
  exact wT I (j5 (Ll k) I.kIn (g _ y) (hf C b hb) (fun z=>nomatch z) fun tk pM=>⟨.bl _,H,I.tok tk,rfl,q⟩)
 | _=>cases hb
theorem LV:∀ hid μ σ O d_ H Q,nM X.K H hid μ σ d_->nI X.K H hid μ O->p9 Ex X.K H hid μ (rE f ta σ O) Q->rd Ex X.K ta d_ H fun v H1=>∃ x hid μ O d b,[v,cv]=[x,cv]/\nI X.K H1 hid μ O/\Dat X.K H1 hid μ d x/\DP f d=some b/\Q (.bl b) H1:=
 fun hid μ σ O d_ H Q e1 c1 q=>rd.go e1 c1 q fun d O1 v H1 h_ e2 x cl r p2=>by
  cases hb:DP f d with
  | none=>rw [hb] at p2;exact ak p2
  | some b=>rw [hb] at p2;exact ⟨v,hid,h_,O1,d,b,rfl,cl,r,hb,post.here p2 cl sW⟩
theorem w9 (ha:PD X Ex a ta) (hg:Gl X "isinstance") (hm:X.mg "isinstance" = none) (hv:a9 "isinstance" = some (.builtin "isinstance")) (zu:Gl X x) (zo:X.mg x=some (.ref C0))
  (hn:aJ X.K (.type "NoneType") (.ref C0)=some false) (hf:∀ C b,f C=some b->aJ X.K (.ref C) (.ref C0)=some b)
  (zD:(x==("__debug__":Str))=false:=by decide) (he:aD [a,.Name x p'] X.env=(false,eval a X.env)::aD [.Name x p'] X.env:=by rfl) (zv:aD [.Name x p'] X.env=[(false,eval (.Name x p') X.env)]:=by rfl) (p_:(backTo pos (aD [.Name x p'] X.env)).any (·.1)=false:=by rfl):
  PD X Ex (.Call (.Name "isinstance" p) [a,.Name x p'] [] pos) (rE f ta):=
 qz (Aw (M3 (X:=X) (cv:=.ref C0) (cval:=.ref C0) f (fun u r=>by cases r;rfl) hn hf) hg hm hv (vw ha.out (vw (BB (v:=.ref C0) zu zo rfl zD) yI zv) he) (by decide) (by decide) he p_) LV
theorem VR (ha:PD X Ex a ta) (hg:Gl X "isinstance") (hm:X.mg "isinstance" = none) (hv:a9 "isinstance" = some (.builtin "isinstance")) (zu:Gl X x) (zo:X.mg x=none) (CL:a9 x=some (.type n))
  (hn:aJ X.K (.type "NoneType") (.type n)=some false) (hf:∀ C b,f C=some b->aJ X.K (.ref C) (.type n)=some b) (Dk:x ≠ "__name__":=by decide)
  (zD:(x==("__debug__":Str))=false:=by decide) (he:aD [a,.Name x p'] X.env=(false,eval a X.env)::aD [.Name x p'] X.env:=by rfl) (zv:aD [.Name x p'] X.env=[(false,eval (.Name x p') X.env)]:=by rfl) (p_:(backTo pos (aD [.Name x p'] X.env)).any (·.1)=false:=by rfl):
  PD X Ex (.Call (.Name "isinstance" p) [a,.Name x p'] [] pos) (rE f ta):=
 qz (Aw (M3 (X:=X) (cv:=.ty n) (cval:=.type n) f (fun u r=>by cases r;rfl) hn hf) hg hm hv (vw ha.out (vw (El (v:=.ty n) zu zo CL rfl Dk zD) yI zv) he) (by decide) (by decide) he p_) LV
end
open PyProof.Rows (AllBare IntsAre)
section
variable {X:Cx} {pins:List (af×Obj)} {σ:St} {H:Hp} {s:ag}
theorem Inv.fake (I:L2.Inv X pins σ H s) (hi:X.N[i]?=some x) (hx:¬ sI X.env.scope x):L2.Inv X pins (σ.set i (some v)) H s:=by
 obtain ⟨m,hn,hl⟩:=I.loc
 refine ⟨I.ok,I.os,I.bare,I.base,⟨m,hn,fun j y w e1 e2 e3=>?_⟩,I.cell,I.free,I.freeC,I.pin,I.hok,by rw [cB];exact I.len,I.tk⟩
 by_cases hj:j=i
 ·subst hj
  rw [hi] at e1;cases e1
  exact absurd e3 hx
 ·rw [a8 (bq hj)] at e2
  exact hl j y w e1 e2 e3
theorem qY.fake (hi:X.N[i]?=some x) (hx:¬ sI X.env.scope x) (h:qY X body t):qY X body fun D σ H=>t D (σ.set i (some v)) H:=
 fun pins s σ H D I q=>h pins s _ H D (Inv.fake I hi hx) q
end
theorem nX.empty (h:H P=some (.tbl #[])):nX H P:=⟨#[],h,trivial,fun pos cv e=>by cases e⟩
noncomputable def xM (K:ai) (Ec:XK->Nat->Hp->Prop) (n:Nat) (P:af) (F:List D->Ow->R D):Sp:=fun vs H Q E=>vs.length=n/\∃ hid μ ds O,nJ K H hid μ ds vs/\nI K H hid μ O/\nX H P/\p9 (Ec E) K H hid μ (F ds O) Q
noncomputable def DU (n i:Nat) (P:Nat) (t:DS):List D->Ow->R D:=fun ds O=>fin (t ((ds.map some++ao (n-ds.length) none).set i (some (.tab P))) O)
theorem Sb {Cl:Nat->ae} {P:aH} {w:aP} {K:ai} {mg:Str->Option ae} {base:aT} {k i:Nat} {f Pt:af} {x:Str} {name qual:Str} {params:fE} {body:List dh} {scope:cF} {dV kV doc pm k_ ct oc:ae} {an od:Option af} {sk:Array (Option ae)} {N ps:List Str} {t:DS}
  (lk:K.lookup f=some ⟨oc,od,.func (bI name qual params body scope dV kV doc pm an k_ ct),sk⟩) (pY:ee K k_ qual=true) (S:pK N ps scope) (hi:N[i]?=some x) (hx:¬ sI scope x)
  (pU:∀ (A:aW) (outer:List Env) (s:ag) (H:Hp) (E:XK),nO k (A.deeper (bg qual scope s.heap.objs.size f k_))->sM (tj Cl P w K mg base N qual scope f k_ A outer s H E) (Xk Cl E) body t):
  nY P w K mg base (qA P w Cl) (k+1) f (bI name qual params body scope dV kV doc pm an k_ ct) ps (xM K (Xk Cl) ps.length Pt (DU N.length i Pt t)):=by
 refine o5 lk pY S (fun vs H Q E h=>h.1) fun A outer s H vs Q E hr h=>?_
 obtain ⟨hl,hid,μ,ds,O,d,c,ti,qq⟩:=h
 refine ⟨_,qY.fake (v:=.bl false) hi hx (pU A outer s H E hr).out,hid,μ,_,O,(N4 d N).set (d:=.tab Pt) (v:=.bl false) (by unfold Dat;exact ⟨rfl,ti⟩) i,c,?_⟩
 unfold DU at qq
 generalize t ((ds.map some++ao (N.length-ds.length) none).set i (some (.tab Pt))) O=r at qq
 cases r with
 | nx σ O'=>exact fun d_ H' g_ x e c'=>qq .non H' g_ x c' Ah
 | rt d' O'=>exact fun v H' g_ x c' r=>qq v H' g_ x c' r
 | bk σ O'=>exact ak qq
 | ct σ O'=>exact ak qq
 | exc c' O'=>exact fun H' g_ x c2=>qq H' g_ x c2
 | bad=>exact ak qq
structure wX (mg:Str->Option ae) (base:aT) (c Pt:af):Prop where
 hd:mT base c Pt
 bl:base.BuiltinsAt mg Pt
theorem XR
  (KX:K.In n_.heap) (yn:n_.heap.Ns bD mg) (hb:n_.heap.Ns builtinsNs mb) (FD:∀ x:Str,x ≠ "__name__"->mb x=a9 x) (zp:n_.heap.NoLimit) (hg:n_.gens = #[]) (pM:0<n_.toks)
  (ha:n_.heap.get? a=some { cls:=.type "list",data:=.seq vs.toArray }) (hi:lZ vs ns) (hl:ns.length<=sizeLine) (hr:nO k callerA)
  (hC:mT n_.heap c Pt) (hP:n_.heap.get? Pt=some (kF #[])) (hK:iW K=true) (hB:n_.heap.BuiltinsAt mg Pt)
  (F:∀ base:aT,K.In base->base.Ns bD mg->wX mg base c Pt->nY P w K mg base CX k fa fd [x] sp) (tM:∀ (s:ag) (u:ae),iq s fd ⟨[u],[]⟩ [(x,u)])
  (yj:∀ H:Hp,H Pt=some (.tbl #[])->pV K H a (ns.map V.int)->sp [.ref a] H (fun v _=>v=.bl true) fun _ _ _=>False)
  (hCX:∀ H e s',CX [] H n_ (fun _ _ _=>False) e s'->False):
  codeAny (av P w) callerA (.call (.ref fa) ⟨[.ref a],[]⟩) (fun r s'=>r=.ok (.ret (.bool true))/\OldK n_.heap s'.heap/\s'.os=n_.os/\f8 s'.gens) n_:=by
 have rv:=Nu hi
 have Ij:=hi.length
 have H9:a≠Pt:=by rintro rfl;rw [ha] at hP;cases hP
 have nKP:K.lookup Pt=none:=by
  cases q:K.lookup Pt with
  | none=>rfl
  | some o=>
   have e:=KX Pt o q
   rw [hP] at e;cases e
   have h2:=aF.mp hK (Pt,_) (PySem.W.mem_of_lookupK q)
   exact absurd (show false=true from h2) bQ
 -- H: the table, and the HR where it is none of the CB objects
 have core:∀ H:Hp,H Pt=some (.tbl #[])->pV K H a (ns.map V.int)->HOk P w H n_.heap->(∀ b,H b≠none->b=a\/b=Pt)->(H a=none\/(K.lookup a=none/\∃ o xs,H a=some (.frz o (.lst xs))))->
   codeAny (av P w) callerA (.call (.ref fa) ⟨[.ref a],[]⟩) (fun r s'=>r=.ok (.ret (.bool true))/\OldK n_.heap s'.heap/\s'.os=n_.os/\f8 s'.gens) n_:=by
  intro H hT hS hok hA PJ
  have base_of:∀ {b:af} {o:Obj},n_.heap.get? b=some o->H b=none->(wx n_.heap H).get? b=some o:=fun e n=>We e n
  have xo:∀ {b:af} {o:Obj} {es:Array DictEntry} {ep:Nat},n_.heap.get? b=some o->o.data=.dict es ep->H b=none:=fun {b o es ep} e d=>by
   cases q:H b with
   | none=>rfl
   | some u=>
    rcases hA b (by rw [q];simp) with e'|e'
    ·subst e'
     rw [ha] at e;cases e
     have d':Data.seq vs.toArray _=Data.dict es ep:=d
     cases d'
    ·subst e'
     rw [hP] at e;cases e
     have d':Data.fields #[]=Data.dict es ep:=d
     cases d'
  have Fh:∀ {b:af} {m:Str->Option ae},n_.heap.Ns b m->(wx n_.heap H).Ns b m:=fun {b m} ⟨o,es,ep,e,d,r⟩=>⟨o,es,ep,base_of e (xo e d),d,r⟩
  have PH:K.In (wx n_.heap H):=fun b o e=>base_of (KX b o e) (by
   cases q:H b with
   | none=>rfl
   | some u=>
    rcases hA b (by rw [q];simp) with e'|e'
    ·subst e'
     rcases PJ with z|⟨z,_⟩
     ·rw [z] at q;cases q
     ·rw [z] at e;cases e
    ·subst e'
     rw [nKP] at e;cases e)
  have hM:Mod K mg (wx n_.heap H):=⟨PH,Fh yn,⟨mb,Fh hb,FD⟩,let ⟨mc,h1,h2⟩:=zp;⟨mc,Fh h1,h2⟩⟩
  have e0:xO P w K mg (wx n_.heap H) callerA [] n_ H:=⟨rfl,hM,fun b o e=>UL e,Nat.le_of_eq (XT _ _),trivial,fun b hb=>absurd (show b∈([]:List af) from hb) (by simp),hok,.of_eq hg,pM⟩
  have ON:∀ {b:af} {o:Obj},n_.heap.get? b=some o->o.cls ≠ .none->(o.cls ≠ .type "list")->H b=none:=fun {b o} e d1 d2=>by
   cases q:H b with
   | none=>rfl
   | some u=>
    rcases hA b (by rw [q];simp) with e'|e'
    ·subst e';rw [ha] at e;cases e;exact absurd rfl d2
    ·subst e';rw [hP] at e;cases e;exact absurd rfl d1
  have hL:wX mg (wx n_.heap H) c Pt:=by
   obtain ⟨o,vs,file,tf,flags,tg,yg,text,tt,e1,r1,r⟩:=hC
   obtain ⟨bm,ob,b1,b2,b3,b4,b5,b6,b7,b8⟩:=hB
   exact ⟨⟨o,vs,file,tf,flags,tg,yg,text,tt,base_of e1 (ON e1 (by rw [r1];exact fun z=>nomatch z) (by rw [r1];decide)),r1,r⟩,⟨bm,ob,b1,b2,b3,b4,base_of b5 (ON b5 (by rw [b6];exact fun z=>nomatch z) (by rw [b6];decide)),b6,b7,b8⟩⟩
  refine eS ((F _ PH (Fh yn) hL).run callerA [] n_ H ⟨[.ref a],[]⟩ [.ref a] [.ref a] _ _ hr e0 (tM n_ (.ref a)) (.cons rfl .nil) (yj H hT hS)) fun r s' h=>?_
  cases r with
  | error e=>exact (hCX H e s' h).elim
  | ok fl=>
   cases fl with
   | next=>exact ak h
   | brk=>exact ak h
   | cont=>exact ak h
   | ret u=>
    obtain ⟨⟨v,H',os,bare,un,CS,r',q⟩,_⟩:=h
    have q':v=.bl true:=q
    subst q'
    obtain rfl:u=Value.bool true:=r'
    obtain ⟨more,hT'⟩:=un.tbls Pt #[] hT
    have FE:s'.heap.get? Pt=some { cls:=.none,data:=.fields (#[]++more) }:=CS Pt _ hT'
    refine ⟨rfl,⟨fun b o e=>?_,fun b o e=>?_⟩,os,bare⟩
    ·by_cases vH:b=Pt
     ·subst vH
      rw [hP] at e;cases e
      exact .inr (.inl ⟨(hC.tab hP).isCodeTable,rfl,#[],more,rfl,FE⟩)
     ·cases q:H b with
      | none=>exact .inl (un.keep b o e q (by intro z;exact absurd (show b∈([]:List af) from z) (by simp)) (by simp))
      | some u=>
       rcases hA b (by rw [q];simp) with e'|e'
       ·subst e'
        rcases PJ with z|⟨_,ob,xs,z⟩
        ·rw [q] at z;cases z
        ·have z2:=un.frzs b ob _ z
         obtain ⟨e1,_⟩:=hok b _ z
         obtain ⟨e2,_⟩:=CS b _ z2
         rw [e] at e1;cases e1
         exact .inl e2
       ·exact absurd e' vH
    ·exact un.there b o e (by simp)
 cases hk:K.lookup a with
 | some o=>
  have e:=KX a o hk
  rw [ha] at e
  cases e
  refine core (fun b=>if b=Pt then some (.tbl #[]) else none) (if_pos rfl) (.inr ⟨_,vs.toArray,_,hk,rfl,rfl,rfl,by rw [az,Ij];exact hl,by simpa using rv⟩) (fun b u z=>?_) (fun b z=>?_) (.inl (if_neg H9))
  ·by_cases hb:b=Pt
   ·have z':=(if_pos hb).symm.trans z
    cases z';subst hb;exact hP
   ·have z':=(if_neg hb).symm.trans z
    cases z'
  ·by_cases hb:b=Pt
   ·exact .inr hb
   ·exact absurd (if_neg hb) z
 | none=>
  refine core (fun b=>if b=Pt then some (.tbl #[]) else if b=a then some (.frz { cls:=.type "list",data:=.seq vs.toArray } (.lst (ns.map V.int))) else none) (if_pos rfl) (.inl (.inr ⟨{ cls:=.type "list",data:=.seq vs.toArray },(if_neg H9).trans (if_pos rfl)⟩)) (fun b u z=>?_) (fun b z=>?_) (.inr ⟨hk,_,_,(if_neg H9).trans (if_pos rfl)⟩)
  ·by_cases hb:b=Pt
   ·have z':=(if_pos hb).symm.trans z
    cases z';subst hb;exact hP
   ·by_cases uj:b=a
    ·have z':=((if_neg hb).trans (if_pos uj)).symm.trans z
     cases z'
     subst uj
     exact ⟨ha,by rw [aM];exact hl,vs,_,rv,ha⟩
    ·have z':=((if_neg hb).trans (if_neg uj)).symm.trans z
     cases z'
  ·by_cases hb:b=Pt
   ·exact .inr hb
   ·by_cases uj:b=a
    ·exact .inl uj
    ·exact absurd ((if_neg hb).trans (if_neg uj)) z
theorem ZP {pos pos':Pos} {c cv:ae} (l:List ae) (h:TriplesOk l) (e:codeAmong pos' (l++[bj pos.line,bj pos.col,c])=some cv):codeAmong pos' l=some cv\/cv=c:=by
 fun_induction TriplesOk l with
 | case1=>
  simp only [dU,codeAmong,bj] at e
  split at e
  ·cases e;exact .inr rfl
  ·cases e
 | case2 a t b u x pA ih=>
  simp only [il,codeAmong] at e ⊢
  split at e
  ·rename_i hc;rw [if_pos hc];exact .inl e
  ·rename_i hc;rw [if_neg hc];exact ih h e
 | case3 l h1 h2=>exact h.elim
theorem Yb {q:Str} {H:Hp} {P c:af} {pos:Pos} {ps:Array ae} (h1:H P=some (.tbl ps)) (hc:H c=none) (P2:af) (t2:nX H P2):
  nX (upd (upd H P (.tbl (ps ++ #[bj pos.line,bj pos.col,.ref c]))) c (.ext fun h=>h.CodeRec (.ref c) q)) P2:=by
 have nc:∀ {b:af} {o:HO},H b=some o->b≠c:=fun e=>qU e hc
 obtain ⟨OM,g1,g2,g3⟩:=t2
 have codes:∀ {b:af} {φ:aT->Prop},H b=some (.ext φ)->upd (upd H P (.tbl (ps ++ #[bj pos.line,bj pos.col,.ref c]))) c (.ext fun h=>h.CodeRec (.ref c) q) b=some (.ext φ):=fun {b φ} e=>by
  rw [o7 (nc e),o7 (QS e h1 (fun z=>nomatch z))];exact e
 by_cases hP:P2=P
 ·subst hP
  rw [h1] at g1;cases g1
  refine ⟨_,by rw [o7 (nc h1),qR],?_,fun p cv e=>?_⟩
  ·rw [bH];exact TriplesOk_snoc _ _ _ _ g2
  ·rw [bH] at e
   rcases ZP _ g2 e with e|e
   ·obtain ⟨c2,φ,rfl,k1,k2⟩:=g3 p cv e
    exact ⟨c2,φ,rfl,codes k1,k2⟩
   ·exact ⟨c,_,e,qR,fun h z=>⟨q,z⟩⟩
 ·refine ⟨OM,by rw [o7 (nc g1),o7 hP];exact g1,g2,fun p cv e=>?_⟩
  obtain ⟨c2,φ,rfl,k1,k2⟩:=g3 p cv e
  exact ⟨c2,φ,rfl,codes k1,k2⟩
section
variable {X:Cx} {pins:List (af×Obj)} {d_:St} {H:Hp} {s:ag} {E:ae->ag->Prop}
noncomputable abbrev yD (H:Hp) (P c:af) (ps:Array ae) (pos:Pos) (q:Str):Hp:=upd (upd H P (.tbl (ps ++ #[bj pos.line,bj pos.col,.ref c]))) c (.ext fun h=>h.CodeRec (.ref c) q)
theorem Au (h1:H P=some (.tbl ps)) (hc:H c=none) (e:H b=some o) (ht:zU o):yD H P c ps pos q b=some o:=by
 have n1:b≠P:=by rintro rfl;rw [h1] at e;cases e;exact ht _ rfl
 show upd (upd H P _) c _ b=some o
 rw [o7 (qU e hc),o7 n1];exact e
theorem Nh (h1:H P=some (.tbl ps)) (hc:H c=none) (μ:List af):Ext H μ (yD H P c ps pos q) μ:=
 ⟨⟨[],by simp⟩,fun b o e _ ht=>Au h1 hc e ht,fun _ m=>.inl m,fun b h=>vC b (vC b h),fun P2 t2=>Yb h1 hc P2 t2⟩
theorem YZ (h1:H P=some (.tbl ps)) (hc:H c=none) (cl:nI K H hid μ O):nI K (yD H P c ps pos q) hid μ O:=by
 refine ⟨cl.len,cl.nd,cl.nh,fun a m=>vC a (vC a (cl.ht a m)),fun k a e=>?_⟩
 obtain ⟨ds,vs,g1,g2,g3⟩:=cl.at_ k a e
 exact ⟨ds,vs,g1,Au h1 hc g2 (by intro ps z;cases z),g3.ext (Nh h1 hc μ)⟩
theorem Oi {h h':aT} {c:af} {q:Str} (x:h.CodeRec (.ref c) q) (k:∀ o,h.get? c=some o->h'.get? c=some o):h'.CodeRec (.ref c) q:=by
 obtain ⟨c2,o,vs,t,e,ho,r⟩:=x
 cases e
 exact ⟨c,o,vs,t,rfl,k o ho,r⟩
theorem R4 {c P:af} {params:fE} {body:aQ} {scope:cF} {pos:Pos} {qy:List (Str×af)} {Q:ae->ag->Prop} (I:L2.Inv X pins d_ H s) (L:wX X.mg X.base c P) (sH:X.env.code=.ref c) (ti:nX H P)
  (qi:closureFor scope X.env=pure qy) (wo:defaultsOf params X.env=([],[]))
  (h:∀ (lam:af) (cd wO:ae) (h':aT) (tk:Tok) (H':Hp),L2.Inv X pins d_ H' { s with heap:=h',toks:=tk }->(∀ μ,Ext H μ H' μ)->(∀ hid μ O,nI X.K H hid μ O->nI X.K H' hid μ O)->H' lam=none->s.heap.objs.size<=lam->
   h'.get? lam=some { cls:=.type "function",data:=.func (dO "<lambda>" (X.env.qual ++ "<lambda>") params body scope qy ((X.mg "__name__").getD .none) cd wO) }->(∃ c φ,cd=.ref c/\H' c=some (.ext φ)/\∀ h:aT,φ h->∃ q,h.CodeRec (.ref c) q)->Q (.ref lam) { s with heap:=h',toks:=tk }):
  am (av X.prog X.w) X.A (eval (.Lambda params body scope pos) X.env) Q E s:=by
 obtain ⟨ps,h1,h2,h3⟩:=id ti
 have hP:s.heap.get? P=some (kF ps):=I.hok P _ h1
 have hg:s.heap.Ns bD X.mg:=I.mod.glob.keeps I.bk
 have hgP:bD≠P:=fun z=>by
  obtain ⟨o,es,ep,e,hd,_⟩:=hg
  rw [z,hP] at e;cases e;cases hd
 have hb:s.heap.BuiltinsAt X.mg P:=by
  obtain ⟨bm,ob,b1,b2,b3,b4,b5,r⟩:=L.bl
  exact ⟨bm,ob,b1,b2,b3,b4,I.bk _ _ b5,r⟩
 have hd:=L.hd.keeps I.bk
 refine PySem.W.kla_eval wo ?_
 cases Jn:codeAmong pos ps.toList with
 | some cv=>
  obtain ⟨c',φ,rfl,k1,k2⟩:=h3 pos cv Jn
  obtain ⟨q,k3⟩:=k2 _ (I.hok c' _ k1).1
  refine wT I (PySem.W.kla_makeFunctionHit (mg:=X.mg) qi I.ok.glob hg sH hd hP h2 Jn hb fun wO h' tk hk o_ pM=>?_)
  have kp:∀ b u,s.heap.get? b=some u->(h'.push { cls:=.type "function",data:=.func (dO "<lambda>" (X.env.qual ++ "<lambda>") params body scope qy ((X.mg "__name__").getD .none) (.ref c') wO) }).get? b=some u:=fun b u e=>ah _ (hk b u e)
  exact h h'.objs.size (.ref c') wO _ tk H (I.kept (t':=tk) kp) (fun μ=>.refl) (fun _ _ _ z=>z) (I.hok.fresh o_) o_ (aE _ rfl) ⟨c',φ,rfl,k1,k2⟩
 | none=>
  refine wT I (PySem.W.kla_makeFunction (mg:=X.mg) qi I.ok.glob hg sH hd hP h2 Jn hgP hb fun c' wO h' tk hx AW pF v_ htb pM=>?_)
  have hc:H c'=none:=I.hok.fresh AW
  have nP:∀ {b:af},H b=none->b≠P:=fun e=>bq (qU h1 e)
  have kp:∀ b u,b≠P->s.heap.get? b=some u->(h'.push (j6 "<lambda>" (X.env.qual ++ "<lambda>") params body scope qy ((X.mg "__name__").getD .none) c' wO)).get? b=some u:=fun b u n e=>ah _ (hx b u n e)
  have FE:(h'.push (j6 "<lambda>" (X.env.qual ++ "<lambda>") params body scope qy ((X.mg "__name__").getD .none) c' wO)).get? P=some (kF (ps ++ #[bj pos.line,bj pos.col,.ref c'])):=ah _ htb
  have yk:(h'.push (j6 "<lambda>" (X.env.qual ++ "<lambda>") params body scope qy ((X.mg "__name__").getD .none) c' wO)).CodeRec (.ref c') (X.env.qual ++ "<lambda>"):=Oi v_ fun o e=>ah _ e
  have wb:∀ {b:af},s.heap.objs.size<=b->b≠c'->yD H P c' ps pos (X.env.qual ++ "<lambda>") b=none:=fun {b} hb n=>by
   have e:=I.hok.fresh hb
   show upd (upd H P _) c' _ b=none
   rw [o7 n,o7 (nP e)];exact e
  refine h h'.objs.size (.ref c') wO _ tk (yD H P c' ps pos (X.env.qual ++ "<lambda>")) ?_ (Nh h1 hc) (fun _ _ _ z=>YZ h1 hc z) (wb (fK (gG AW pF)) (dq pF)) (fK (gG AW pF)) (aE _ rfl) ⟨c',_,rfl,qR,fun h z=>⟨_,z⟩⟩
  have pR:∀ b o,s.heap.get? b=some o->H b=none->yD H P c' ps pos (X.env.qual ++ "<lambda>") b=none:=fun b o e n=>by
   show upd (upd H P _) c' _ b=none
   rw [o7 (bi (aV (aG e) AW)),o7 (nP n)];exact n
  refine I.step (g':=s.gens) (d':=s.drawn) (ch:=[]) (fun _ z=>nomatch z) (fun b o _ _ _ e n=>kp b o (nP n) e) (fun b o _ _ _ e n=>⟨o.slots,kp b o (nP n) e⟩) (fun b o _ e n=>pR b o e n) (fun b o _ e=>?_)
   (fun b xs e=>Au h1 hc e (by intro ps z;cases z)) (fun b o u e=>Au h1 hc e (by intro ps z;cases z)) (fun b OM e=>?_) (fun m hm=>?_) ?_ I.bare pM
  ·by_cases vH:b=P
   ·subst vH;exact ⟨_,FE⟩
   ·exact ⟨o,kp b o vH e⟩
  ·by_cases vH:b=P
   ·subst vH
    rw [h1] at e;cases e
    exact ⟨_,by show upd (upd H b _) c' _ b=_;rw [o7 (qU h1 hc),qR]⟩
   ·exact ⟨#[],by show upd (upd H P _) c' _ b=_;rw [o7 (qU e hc),o7 vH,e];simp⟩
  ·obtain ⟨o,es,ep,e,r⟩:=hm
   exact ⟨o,es,ep,kp _ o (nP I.free) e,r⟩
  ·intro b u e
   by_cases Px:b=c'
   ·subst Px
    have e':yD H P b ps pos (X.env.qual ++ "<lambda>") b=_:=qR
    rw [e'] at e;cases e
    refine ⟨yk,?_,fun ha wu za zk=>Oi za zk⟩
    obtain ⟨c2,o,vs,t,z,ho,_⟩:=yk
    cases z
    exact ⟨o,ho⟩
   ·have e1:upd H P (.tbl (ps ++ #[bj pos.line,bj pos.col,.ref c'])) b=some u:=(o7 Px).symm.trans e
    by_cases vH:b=P
    ·subst vH
     rw [qR] at e1;cases e1
     exact FE
    ·have e2:H b=some u:=(o7 vH).symm.trans e1
     refine (I.hok b u e2).stay (fun b2 u2 uj z=>kp b2 u2 (fun zz=>?_) z) (fun b2 z=>Au h1 hc z (by intro ps z;cases z)) fun b2 xs z=>Au h1 hc z (by intro ps z;cases z)
     rcases uj with rfl|uj
     ·exact vH zz
     ·rw [zz,h1] at uj;cases uj
end
noncomputable abbrev tZ (q:Str) (scope:cF) (L f:af) (cd:ae) (cl:List (Str×af)):Env:={ scope,locals:=L,globals:=bD,cells:=cl,qual:=q ++ ".<locals>.",func:=some f,code:=cd,frame:=some L,builtins:=builtinsNs }
section
variable {prog:aH} {w:aP} {A:aW} {s:ag} {R:Result->ag->Prop}
theorem Vf (v9:A.depth<recursionLimit)
  (ho:s.heap.get? lam=some { cls:=.type "function",data:=.func (dO name qual params body scope cl pm cd ct) }) (pY:s.heap.CodeRec cd q) (Jk:scope.isCoroutine=false) (zt:scope.isGenerator=false) (hk:scope.kind=.function) (qP:∀ x∈scope.names,x.2 ≠ .cell)
  (tM:bindArgs (dO name qual params body scope cl pm cd ct) ⟨[],[]⟩=pure []) (zp:s.heap.NoLimit)
  (h:∀ h',h'.Ns s.heap.objs.size (fun _=>none)->(∀ b o,s.heap.get? b=some o->h'.get? b=some o)->
   am (av prog w) (A.deeper (tZ q scope s.heap.objs.size lam cd cl)) (eval body (tZ q scope s.heap.objs.size lam cd cl)) (fun v s'=>R (.ok (.ret v)) s')
    (fun e s'=>am (av prog w) (A.deeper (tZ q scope s.heap.objs.size lam cd cl)) (leaving (tZ q scope s.heap.objs.size lam cd cl) e) (fun _ qf=>R (.error e) qf) (fun e' qf=>R (.error e') qf) s') { s with heap:=h' }):
  codeAny (av prog w) A (.call (.ref lam) ⟨[],[]⟩) R s:=by
 refine iI ?_
 show am _ A.in1 (callAny (.ref lam) ⟨[],[]⟩) _ _ s
 simp only [callAny]
 refine aa (wpAny_load ho ?_)
 obtain ⟨c,oc,vs,tq,hc,Fs,hdc,hq⟩:=pY
 subst hc
 simp only [callFunction,Jk,zt]
 refine aa (m:=field (.ref c) 1) (be Fs hdc hq (aa (aj ?_)))
 rw [tM]
 refine aa (aj (aa ?_))
 refine wpAny_newFunctionEnv qP (fun x hx=>nomatch hx) (fun xq yn IH=>?_) hk
 have kp:∀ b o,s.heap.get? b=some o->xq.get? b=some o:=fun b o e=>IH.extBut b o (bi (aG e)) (ah _ e)
 refine aa (wpAny_enterFrame (zp.keeps kp) v9 (aj ⟨rfl,?_⟩))
 exact PySem.W.kla_codeExpr (h xq yn kp)
end
theorem Ua {X:Cx} {E:XK} {Cl:Nat->ae} (hxe:X.xe=fun e s'=>am (av X.prog X.w) X.A (leaving X.env e) (fun _ qf=>qA X.prog X.w Cl X.outer X.H₀ X.s₀ E e qf) (fun e' qf=>qA X.prog X.w Cl X.outer X.H₀ X.s₀ E e' qf) s')
  (rz:X.stack=X.env::X.outer) (hf:X.env.frame=some X.env.locals) (hex:X.ex=[]):Dv X (Xk Cl E) Cl:=by
 intro pins σ H1 s1 a c I x q
 have tW:X.A.frames=some (X.env::X.outer):=by rw [<- rz];exact I.ok.frames
 have uc:s1.heap.FunFrames X.base (X.env::X.outer):=by rw [<- rz];exact I.stack
 have pR:∀ b∈ql (X.env::X.outer),H1 b=none:=by rw [<- rz];exact I.stkFree
 have oW:Un X.fs [] X.H₀ H1 X.s₀.heap s1.heap:=by have:=I.base;rw [hex] at this;exact this
 have Pr:ql (X.env::X.outer)=X.env.locals::X.fs:=by unfold ql;rw [dE,hf];rfl
 rw [hxe]
 show am (av X.prog X.w) X.A (leaving X.env (.ref a)) (fun _ qf=>qA X.prog X.w Cl X.outer X.H₀ X.s₀ E (.ref a) qf) (fun e' qf=>qA X.prog X.w Cl X.outer X.H₀ X.s₀ E e' qf) s1
 unfold leaving
 refine aa (Gm tW uc hf x (fun b hb=>I.hok.fresh hb) (fun b hb=>iB (aU I.sz hb)) fun h' kp xa=>?_)
 refine ⟨a,c,H1,rfl,I.os,I.tk,I.bare,?_,kp.hok I.hok pR,xa,q⟩
 refine ⟨fun b o e n hb hx=>?_,fun b o e n hb hx=>?_,fun b o e n hx=>oW.free b o e n hx,fun b o e hx=>?_,oW.tups,oW.frzs,oW.tbls⟩
 ·refine kp.keep b o (oW.keep b o e n hb hx) (fun z=>?_) (.inr (by rw [e];exact fun z=>nomatch z))
  rw [Pr] at z
  rcases aw.mp z with z2|z2
  ·exact absurd (aV (aG e) I.ok.above) (by rw [z2];exact bP _)
  ·exact hb z2
 ·obtain ⟨sl,e1⟩:=oW.slot b o e n hb hx
  obtain ⟨uV,e2⟩:=kp.slot b _ e1 (by rw [Pr];exact aq _ hb)
  exact ⟨uV,e2⟩
 ·obtain ⟨o',e1⟩:=oW.there b o e hx
  exact kp.there b o' e1
noncomputable def zL (CX:uJ) (P:aH) (w:aP) (K:ai) (mg:Str->Option ae) (base:aT) (N:List Str) (env:Env) (A:aW) (outer:List Env) (s:ag) (H:Hp) (E:XK):Cx where
 prog:=P
 w:=w
 K:=K
 mg:=mg
 base:=base
 A:=A.deeper env
 N:=N
 s₀:=s
 H₀:=H
 env:=env
 outer:=outer
 stack:=env::outer
 ex:=[]
 calm:=true
 fn:=fun _=>false
 pn:=[]
 xe:=fun e s'=>am (av P w) (A.deeper env) (leaving env e) (fun _ qf=>CX outer H s E e qf) (fun e' qf=>CX outer H s E e' qf) s'
section
variable {CX:uJ} {P:aH} {w:aP} {K:ai} {mg:Str->Option ae} {base:aT} {N:List Str} {A:aW} {outer:List Env} {s:ag} {H:Hp} {E:XK} {Cl:Nat->ae} {q:Str} {scope:cF} {lam:af} {cd:ae} {cl:List (Str×af)} {σ:St} {h':aT}
theorem Ub:Dv (zL (qA P w Cl) P w K mg base N (tZ q scope s.heap.objs.size lam cd cl) A outer s H E) (Xk Cl E) Cl:=Ua rfl rfl rfl rfl
theorem VE (e0:xO P w K mg base A outer s H) (hd:A.handled=none) (hk:scope.kind=.function) (sR:∀ x,sI scope x->scope.names.lookup x=some .free)
  (cells:∀ x c,cl.lookup x=some c->(∃ v,s.heap.IsCell c v)/\H c=none) (inj:∀ x y c,cl.lookup x=some c->cl.lookup y=some c->x=y) (has:∀ x,scope.names.lookup x=some .free->∃ c,cl.lookup x=some c)
  (vals:∀ (i:Nat) x v,N[i]?=some x->σ[i]?=some (some v)->scope.names.lookup x=some .free->∃ u c,RelV v u/\cl.lookup x=some c/\s.heap.IsCell c (some u)) (len:σ.length=N.length)
  (yn:h'.Ns s.heap.objs.size (fun _=>none)) (kp:∀ b o,s.heap.get? b=some o->h'.get? b=some o):
  L2.Inv (zL CX P w K mg base N (tZ q scope s.heap.objs.size lam cd cl) A outer s H E) [] σ H { s with heap:=h' }:=by
 have cellK:∀ {c:af} {v:Option ae},s.heap.IsCell c v->h'.IsCell c v:=fun {c v} ⟨o,ho,r⟩=>⟨o,kp c o ho,r⟩
 have xo:∀ b:af,b∉(zL CX P w K mg base N (tZ q scope s.heap.objs.size lam cd cl) A outer s H E).ex:=fun b z=>absurd (show b∈([]:List af) from z) (by simp)
 refine ⟨⟨e0.mod,hk,rfl,rfl,ay _,inj,fun y hy=>?_,fun y c z _=>absurd (show false=true from z) (by decide),fun _=>hd,kQ e0.frames,.inr ⟨rfl,rfl⟩,fun b z=>absurd z (xo b),e0.bs,e0.bsz,fun b _ _=>xo b,fun b z=>absurd z (xo b),e0.funs,e0.frf⟩,
  rfl,e0.bare,Un.kept kp,⟨_,yn,fun i y v g1 g2 g3=>?_⟩,fun y c g=>?_,e0.hok.fresh (ay _),fun y c g=>(cells y c g).2,fun p hp=>absurd (show p∈([]:List (af×Obj)) from hp) (by simp),e0.hok.kept kp,len,e0.tk⟩
 ·have hy':scope.names.lookup y=some .cell\/scope.names.lookup y=some .free:=hy
  exact has y (sR y (hy'.elim (fun z=>.inr (.inl z)) fun z=>.inr (.inr z)))
 ·obtain ⟨u,c,r,g4,g5⟩:=vals i y v g1 g2 (sR y g3)
  exact ⟨u,r,.inr ⟨.inr (sR y g3),c,g4,cellK g5⟩⟩
 ·obtain ⟨⟨v,z⟩,_⟩:=cells y c g
  exact ⟨v,cellK z⟩
theorem Rg (hr:nO (k+1) A) (e0:xO P w K mg base A outer s H)
  (ho:s.heap.get? lam=some { cls:=.type "function",data:=.func (dO name qual params body scope cl pm cd ct) }) (pY:s.heap.CodeRec cd q) (Jk:scope.isCoroutine=false) (zt:scope.isGenerator=false) (hk:scope.kind=.function) (qP:∀ x∈scope.names,x.2 ≠ .cell)
  (tM:bindArgs (dO name qual params body scope cl pm cd ct) ⟨[],[]⟩=pure []) (sR:∀ x,sI scope x->scope.names.lookup x=some .free)
  (cells:∀ x c,cl.lookup x=some c->(∃ v,s.heap.IsCell c v)/\H c=none) (inj:∀ x y c,cl.lookup x=some c->cl.lookup y=some c->x=y) (has:∀ x,scope.names.lookup x=some .free->∃ c,cl.lookup x=some c)
  (vals:∀ (i:Nat) x v,N[i]?=some x->σ[i]?=some (some v)->scope.names.lookup x=some .free->∃ u c,RelV v u/\cl.lookup x=some c/\s.heap.IsCell c (some u)) (len:σ.length=N.length)
  (pU:nO k (A.deeper (tZ q scope s.heap.objs.size lam cd cl))->PD (zL (qA P w Cl) P w K mg base N (tZ q scope s.heap.objs.size lam cd cl) A outer s H E) (Xk Cl E) body t)
  (e1:nM K H hid μ σd σ) (c1:nI K H hid μ O) (qq:p9 (Xk Cl E) K H hid μ (t σd O) Q):codeAny (av P w) A (.call (.ref lam) ⟨[],[]⟩) (CR (qA P w Cl) outer P w H s Q E) s:=by
 refine Vf hr.depth ho pY Jk zt hk qP tM (e0.mod.nolimit.keeps fun b o e=>(e0.bs b o e).1) fun h' yn kp=>?_
 refine dF ((pU (hr.deeper _)).out [] _ σ H Q (VE e0 hr.hd hk sR cells inj has vals len yn kp) ⟨hid,μ,σd,O,e1,c1,qq⟩) (fun v s' ⟨v',H',J,rv,z⟩=>?_) fun e s' z=>z
 exact ⟨⟨v',H',J.os,J.bare,J.base,J.hok,rv,z⟩,J.tk⟩
end
section
variable {M:iC} {A:aW} {E:ae->ag->Prop} {s:ag} {base h0:aT} {H:Hp} {frames:List Env} {a:af} {C:ae} {Q:Unit->ag->Prop}
theorem Kp.refl:Kp h0 H fs h h:=⟨fun _ _ e _ _=>e,fun b o e _=>⟨o.slots,e⟩,fun _ o e=>⟨o,e⟩,ay _⟩
theorem Kp.trans (x:Kp h0 H fs h h1) (y:Kp h0 H fs h1 h2):Kp h0 H fs h h2:=
 ⟨fun b o e n k=>y.keep b o (x.keep b o e n k) n k,fun b o e n=>by
  obtain ⟨sl,e1⟩:=x.slot b o e n
  obtain ⟨uV,e2⟩:=y.slot b _ e1 n
  exact ⟨uV,e2⟩,fun b o e=>by
  obtain ⟨o1,e1⟩:=x.there b o e
  exact y.there b o1 e1,aU x.size y.size⟩
theorem Wi (hl:s.heap.FunFrames base frames) (x:uG h0 H s.heap a C) (h:∀ h',Kp h0 H (ql frames) s.heap h'->uG h0 H h' a C->Q () { s with heap:=h' }):am M A (setFlight (.ref a) none) Q E s:=by
 obtain ⟨⟨oe,vs,he,hC,hd,o_,ht⟩,new,free⟩:=id x
 unfold setFlight
 rcases ht with h1|⟨T,oT,ts,h1,nT,newT,uE,hT,wq,h3⟩
 ·refine aa (be he hd h1 ?_)
  rw [if_neg (by decide)]
  exact aj (h s.heap .refl x)
 ·refine aa (be he hd h1 ?_)
  rw [if_pos (show (db T !=cx)=true by simp)]
  refine eJ hT wq (d7.mp h3).1 (h _ ?_ ?_)
  ·have vE:∀ b,b≠T->(s.heap.update T (fi (·.setIfInBounds 3 ((none:Option af).elim cx fun f=>bj f)))).get? b=s.heap.get? b:=fun b hb=>br _ _ (bq hb)
   refine ⟨fun b o e hb hk=>(vE b fun z=>?_).trans e,fun b o e hb=>⟨o.slots,(vE b fun z=>?_).trans e⟩,fun b o e=>?_,by rw [ik];exact ay _⟩
   ·subst z
    rcases hk with q|q
    ·exact q uE
    ·exact q newT
   ·subst z
    obtain ⟨_,o',tG,xy⟩:=hl.mem hb
    rw [hT] at tG;cases tG
    exact xy ts wq
   ·by_cases hb:b=T
    ·subst hb;exact ⟨_,bA _ hT (c9 (cA wq _))⟩
    ·exact ⟨o,(vE b hb).trans e⟩
  ·refine ⟨⟨oe,vs,(br _ _ nT).trans he,hC,hd,o_,.inr ⟨T,_,_,h1,nT,newT,uE,bA _ hT (c9 (cA wq _)),cA wq _,?_⟩⟩,new,free⟩
   rw [hU,if_pos (d7.mp h3).1];rfl
end
section
variable {X:Cx} {pins:List (af×Obj)} {σ:St} {H H1:Hp} {s s1:ag}
noncomputable abbrev Cx.mk' (X:Cx) (a:af):Cx:={ X with A:=X.A.mark (some (.ref a)),calm:=false,xe:=fun _ _=>False }
theorem Inv.mk' (I:L2.Inv X pins σ H s) (a:af):L2.Inv (Cx.mk' X a) pins σ H s:=
 ⟨⟨I.ok.mod,I.ok.kind,I.ok.glob,I.ok.blt,I.ok.above,I.ok.inj,I.ok.has,I.ok.cab,fun z=>absurd (show false=true from z) (by decide),I.ok.frames,I.ok.stk,I.ok.exf,I.ok.bs,I.ok.bsz,I.ok.noex,I.ok.exfs,I.ok.funs,I.ok.frf⟩,I.os,I.bare,I.base,I.loc,I.cell,I.free,I.freeC,I.pin,I.hok,I.len,I.tk⟩
theorem Inv.unmk' (ok:X.Ok) (I:L2.Inv (Cx.mk' X a) pins σ H s):L2.Inv X pins σ H s:=
 ⟨ok,I.os,I.bare,I.base,I.loc,I.cell,I.free,I.freeC,I.pin,I.hok,I.len,I.tk⟩
theorem Inv.raised (I:L2.Inv X pins σ H s) (os:s1.os=s.os) (pM:0<s1.toks) (bare:f8 s1.gens) (un:Un (ql X.stack) [] H H1 s.heap s1.heap) (hok:HOk X.prog X.w H1 s1.heap) (kp:Kp s.heap H1 (ql X.stack) s1.heap h'):L2.Inv X pins σ H1 { s1 with heap:=h' }:=by
 have I1:L2.Inv X pins σ H1 s1:=I.call' (ch:=[]) os un hok bare (fun b z=>absurd z (by simp))
 refine I.call' (s':={ s1 with heap:=h' }) (ch:=[]) os ?_ (kp.hok hok I1.stkFree) bare (fun b z=>absurd z (by simp))
 refine ⟨fun b o e n hb hx=>kp.keep b o (un.keep b o e n hb hx) hb (.inr (by rw [e];exact fun z=>nomatch z)),fun b o e n hb hx=>?_,un.free,fun b o e hx=>?_,un.tups,un.frzs,un.tbls⟩
 ·obtain ⟨sl,e1⟩:=un.slot b o e n hb hx
  obtain ⟨uV,e2⟩:=kp.slot b _ e1 hb
  exact ⟨uV,e2⟩
 ·obtain ⟨o',e1⟩:=un.there b o e hx
  exact kp.there b o' e1
theorem Inv.track (I:L2.Inv X pins σ H1 s1) (x:uG s.heap H1 s1.heap a (.ref C)) (I0:L2.Inv X pins σ H s):L2.Inv X pins σ (upd H1 a (.ext fun h=>∃ ox,cJ h a ox C none)) s1:=by
 obtain ⟨⟨oe,vs,he,hC,hd,o_,_⟩,new,free⟩:=x
 have Fj:∀ b o,s.heap.get? b=some o->b≠a:=fun b o e z=>by rw [z,new] at e;cases e
 have C6:cJ s1.heap a oe C none:=⟨he,hC.1,by unfold PySem.W.notCls;rw [hd],by rw [hC.2];trivial⟩
 have old:∀ {b:af} {u:HO},H1 b=some u->upd H1 a (.ext fun h=>∃ ox,cJ h a ox C none) b=some u:=fun {b u} e=>by rw [o7 (qU e free)];exact e
 have fr:∀ {b:af},H1 b=none->b≠a->upd H1 a (.ext fun h=>∃ ox,cJ h a ox C none) b=none:=fun {b} e n=>by rw [o7 n];exact e
 have there:∀ b,b∉X.ex->(∃ o,X.s₀.heap.get? b=some o)->b≠a:=fun b hx ⟨o,e⟩=>by
  obtain ⟨o',e'⟩:=I0.base.there b o e hx
  exact Fj b o' e'
 refine ⟨I.ok,I.os,I.bare,⟨I.base.keep,I.base.slot,fun b o e n hx=>fr (I.base.free b o e n hx) (there b hx ⟨o,e⟩),I.base.there,fun b xs e=>old (I.base.tups b xs e),fun b o u e=>old (I.base.frzs b o u e),fun b ps e=>?_⟩,I.loc,I.cell,?_,fun x c e=>?_,fun p hp=>?_,fun b u e=>?_,I.len,I.tk⟩
 ·obtain ⟨m,e1⟩:=I.base.tbls b ps e
  exact ⟨m,old e1⟩
 ·obtain ⟨m,⟨o,_,_,ho,_⟩,_⟩:=I0.loc
  exact fr I.free (Fj _ o ho)
 ·obtain ⟨v,o,ho,_⟩:=I0.cell x c e
  exact fr (I.freeC x c e) (Fj c o ho)
 ·obtain ⟨e1,n1,r⟩:=I.pin p hp
  exact ⟨e1,fr n1 (Fj _ _ (I0.pin p hp).1),r⟩
 ·by_cases hb:b=a
  ·subst hb
   rw [qR] at e;cases e
   exact ⟨⟨oe,C6⟩,⟨oe,he⟩,fun h1 h2 ⟨ox,z⟩ kk=>⟨ox,kk ox z.at_,z.cls,z.no,by
    have:=z.dict
    revert this
    cases ox.dict with
    | none=>exact fun _=>trivial
    | some _=>exact fun z=>z.elim⟩⟩
  ·rw [o7 hb] at e
   exact (I.hok b u e).stay (fun _ _ _ z=>z) (fun _ z=>old z) fun _ _ z=>old z
end
section
variable {X:Cx} {pins:List (af×Obj)} {σ:St} {H:Hp} {s:ag} {M:iC} {A:aW} {E:ae->ag->Prop}
theorem X2 (I:L2.Inv X pins σ H s) (hN:X.N.Nodup) (hi:X.N[i]?=some x) (hx:X.env.scope.names.lookup x=some .local) (hv:σ[i]?=some (some v))
  (h:∀ s',L2.Inv X pins (σ.set i none) H s'->Q () s'):am M A (unbindName X.env x) Q E s:=by
 obtain ⟨m,hn,hl⟩:=id I.loc
 obtain ⟨u,_,lk⟩:=hl i x v hi hv (.inl hx)
 have hm:m x=some u:=by
  rcases lk with ⟨_,z⟩|⟨z,_⟩
  ·exact z
  ·have z':X.env.scope.names.lookup x=some .cell\/X.env.scope.names.lookup x=some .free:=z
   rw [hx] at z'
   rcases z' with z'|z'<;>cases z'
 refine wT I (wpAny_unbindName_local hx hn hm (by rw [I.ok.kind];rfl) fun h' u' wL hs pM=>h _ ?_)
 have kp:∀ b o,b≠X.env.locals->s.heap.get? b=some o->h'.get? b=some o:=fun b o n e=>(hs.2 b n).trans e
 have AS:∀ b o,X.s₀.heap.get? b=some o->b≠X.env.locals:=fun b o e=>bi (aV (aG e) I.ok.above)
 have OQ:∀ b o,H b=some o->b≠X.env.locals:=fun b o e=>qU e I.free
 have cellK:∀ y c,X.env.cells.lookup y=some c->∀ w,s.heap.IsCell c w->h'.IsCell c w:=fun y c e w ⟨o,ho,hd⟩=>⟨o,kp c o (I.cne y c e) ho,hd⟩
 refine ⟨I.ok,I.os,I.bare,⟨fun b o e n hb hx=>kp b o (AS b o e) (I.base.keep b o e n hb hx),fun b o e n hb hx=>?_,I.base.free,fun b o e hx=>?_,I.base.tups,I.base.frzs,I.base.tbls⟩,⟨_,wL,fun j y w e1 e2 e3=>?_⟩,fun y c e=>?_,I.free,I.freeC,fun p hp=>?_,fun b o e=>?_,by rw [cB];exact I.len,pM⟩
 ·obtain ⟨sl,e1⟩:=I.base.slot b o e n hb hx
  exact ⟨sl,kp b _ (AS b o e) e1⟩
 ·obtain ⟨o',e1⟩:=I.base.there b o e hx
  exact ⟨o',kp b o' (AS b o e) e1⟩
 ·have hj:j≠i:=by
   rintro rfl
   have pF:j<σ.length:=(al.mp hv).1
   rw [ba pF] at e2;cases e2
  rw [a8 (bq hj)] at e2
  have hy:y≠x:=by rintro rfl;exact hj (GX hN e1 hi)
  obtain ⟨u2,r2,l2⟩:=hl j y w e1 e2 e3
  refine ⟨u2,r2,?_⟩
  rcases l2 with ⟨k1,k2⟩|⟨k1,c,k2,k3⟩
  ·exact .inl ⟨k1,by show (if y=x then u' else m y)=some u2;rw [if_neg hy];exact k2⟩
  ·exact .inr ⟨k1,c,k2,cellK y c k2 _ k3⟩
 ·obtain ⟨w,z⟩:=I.cell y c e
  exact ⟨w,cellK y c e w z⟩
 ·obtain ⟨e1,n1,n2,r⟩:=I.pin p hp
  exact ⟨kp _ _ n2 e1,n1,n2,r⟩
 ·refine (I.hok b o e).stay (fun b2 u2 uj z=>kp b2 u2 ?_ z) (fun _ z=>z) fun _ _ z=>z
  rcases uj with rfl|uj
  ·exact OQ _ _ e
  ·exact OQ _ _ uj
end
section
variable {X:Cx} {pins:List (af×Obj)} {σ:St} {H H1:Hp} {s s1:ag}
theorem X_ (I:L2.Inv X pins σ H s) (os:s1.os=s.os) (pM:0<s1.toks) (bare:f8 s1.gens) (un:Un (ql X.stack) [] H H1 s.heap s1.heap) (hok:HOk X.prog X.w H1 s1.heap)
  (kp:Kp s.heap H1 (ql X.stack) s1.heap h2) (x2:uG s.heap H1 h2 a (.ref C)) (hm:eL X.K (.ref C) (.ref T)=some true) (wj:Gl X xT) (wc:X.mg xT=some (.ref T))
  (hN:X.N.Nodup) (hi:X.N[i]?=some n) (hj:X.N[j]?=some y) (tI:i≠j) (hn:X.env.scope.names.lookup n=some .local) (hy:X.env.scope.names.lookup y=some .local)
  (h:∀ s',L2.Inv X pins ((σ.set j (some (.ref a))).set i none) (upd H1 a (.ext fun h=>∃ ox,cJ h a ox C none)) s'->Qf .next s')
  (hnd:(n==("__debug__":Str))=false:=by decide) (hncd:(n==("__classdict__":Str))=false:=by decide) (hTd:(xT==("__debug__":Str))=false:=by decide)
  (hs:ic [.Name y p5] (.Name n p6) p7.line X.env=pure false:=by rfl) (hw:ie [.Name y p5] (.Name n p6) X.env=pure none:=by rfl):
  am (av X.prog X.w) X.A (handleBy (.ref a) X.env [.ExceptHandler (some (.Name xT p4)) (some n) [.Assign [.Name y p5] (.Name n p6) p7] p8]) Qf X.xe { s1 with heap:=h2 }:=by
 have I2:L2.Inv X pins σ H1 { s1 with heap:=h2 }:=Inv.raised I os pM bare un hok kp
 refine wpAny_handleBy_cons (codeAny_handlers_test (Bz (X:=Cx.mk' X a) (Inv.mk' I2 a) wj wc ?_ hTd)) (by intro z;cases z)
 have LT:PySem.W.Looks (av X.prog X.w) h2 (typeOf (.ref a)) (.ref C):=by
  obtain ⟨⟨oe,vs,he,hC,_⟩,_⟩:=x2
  exact hC.1▸(PySem.W.Looks.ld he).andThen .now
 refine (PySem.W.exm_one I2.kIn LT hm).at ?_
 show codeAny _ _ (.handlers (.ref a) [.ExceptHandler none (some n) [.Assign [.Name y p5] (.Name n p6) p7] p8] X.env) _ _
 refine codeAny_handlers_suite_as (Wi (frames:=X.stack) I2.stack x2 fun h3 kp3 x3=>?_)
 have I3:L2.Inv X pins σ H1 { s1 with heap:=h3 }:=Inv.raised I os pM bare un hok (kp.trans kp3)
 have I4:=Inv.track (s1:={ s1 with heap:=h3 }) I3 x3 I
 refine Ez (X:=Cx.mk' X a) (v:=.ref a) (Inv.mk' I4 a) hN hi (.inl hn) rfl (fun s5 I5=>?_) (.inr hn)
 have ps:qY (Cx.mk' X a) [.Assign [.Name y p5] (.Name n p6) p7] _:=MC (La (Gi (X:=Cx.mk' X a) (pos:=p6) hi (.inl hn) hnd hncd) (Ep (X:=Cx.mk' X a) (pos:=p5) hN hj (.inl hy) (.inr hy)) hs hw) L4
 refine dF (ps pins s5 _ _ { nx:=fun σ' H'=>σ'=(σ.set i (some (.ref a))).set j (some (.ref a))/\H'=upd H1 a (.ext fun h=>∃ ox,cJ h a ox C none),rt:=fun _ _=>False } I5 ?_) (fun fl s6 h6=>?_) fun _ _ z=>z.elim
 ·refine ⟨.ref a,?_,?_⟩
  ·rw [ba (by rw [I.len];exact (al.mp hi).1)]
  ·exact ⟨rfl,rfl⟩
 cases fl with
 | ret u=>obtain ⟨_,_,_,_,_,z⟩:=h6;exact z.elim
 | brk=>obtain ⟨_,_,_,z⟩:=h6;exact z.elim
 | cont=>obtain ⟨_,_,_,z⟩:=h6;exact z.elim
 | next=>
  obtain ⟨JP,H6,I6,rfl,rfl⟩:=h6
  have I7:=Inv.unmk' I.ok I6
  show am _ X.A (do bindName X.env n .none;unbindBehindTheSuite X.env n p8) _ _ s6
  unfold bindName unbindBehindTheSuite
  refine aa (aa (cb (wpAny_point (aa (Ez (v:=.non) I7 hN hi (.inl hn) rfl (fun s8 I8=>wpAny_point ?_) (.inr hn))))))
  refine ij (X2 (v:=.non) I8 hN hi hn (ba (by rw [I7.len];exact (al.mp hi).1)) fun s9 I9=>h s9 ?_)
  refine I9.weak (by simp) fun k v e=>?_
  by_cases hk:k=i
  ·subst hk
   have pF:k<(σ.set j (some (.ref a))).length:=by rw [cB,I.len];exact (al.mp hi).1
   rw [ba pF] at e;cases e
  ·rw [a8 (bq hk)] at e ⊢
   rw [a8 (bq hk)]
   by_cases Po:k=j
   ·subst Po
    have pF:k<σ.length:=by rw [I.len];exact (al.mp hj).1
    rw [ba pF] at e
    rw [ba (by rw [cB];exact pF)]
    exact e
   ·rw [a8 (bq Po)] at e ⊢
    rw [a8 (bq hk)]
    exact e
end
section
variable {X:Cx} {pins:List (af×Obj)} {σ:St} {H H1:Hp} {s s1:ag}
theorem SJ {T lam:af} {Cl:Nat->ae} {nf xT n y:Str} {i j kf:Nat} {p1 p2 p3 p4 p5 p6 p7 p8 pos:Pos} {D:vO} (I:L2.Inv X pins σ H s) (hex:X.ex=[])
  (tK:codeAny (av X.prog X.w) X.A (.call (.ref lam) ⟨[],[]⟩) (CR (qA X.prog X.w Cl) X.stack X.prog X.w H s (fun _ H'=>D.nx σ H')
   (fun Cv _ H1=>∃ C,Cv=.ref C/\eL X.K (.ref C) (.ref T)=some true/\∀ a,H1 a=none->D.nx ((σ.set j (some (.ref a))).set i none) (upd H1 a (.ext fun h=>∃ ox,cJ h a ox C none)))) s)
  (ue:jO lam s.heap) (hkf:X.N[kf]?=some nf) (xt:σ[kf]?=some (some (.ref lam))) (sR:sI X.env.scope nf) (wj:Gl X xT) (wc:X.mg xT=some (.ref T)) (uc:X.stack=X.env::X.outer) (tW:X.env.frame=some X.env.locals)
  (hN:X.N.Nodup) (hi:X.N[i]?=some n) (hj:X.N[j]?=some y) (tI:i≠j) (hn:X.env.scope.names.lookup n=some .local) (hy:X.env.scope.names.lookup y=some .local)
  (hfd:(nf==("__debug__":Str))=false:=by decide) (hfcd:(nf==("__classdict__":Str))=false:=by decide)
  (hnd:(n==("__debug__":Str))=false:=by decide) (hncd:(n==("__classdict__":Str))=false:=by decide) (hTd:(xT==("__debug__":Str))=false:=by decide)
  (hs0:swapsWith (.Call (.Name nf p1) [] [] p2) none p3.line X.env=pure false:=by rfl)
  (hs:ic [.Name y p5] (.Name n p6) p7.line X.env=pure false:=by rfl) (hw:ie [.Name y p5] (.Name n p6) X.env=pure none:=by rfl):
  am (av X.prog X.w) X.A (exec (.Try [.Expr (.Call (.Name nf p1) [] [] p2) p3] [.ExceptHandler (some (.Name xT p4)) (some n) [.Assign [.Name y p5] (.Name n p6) p7] p8] [] [] pos) X.env) (SP X pins D) X.xe s:=by
 have load:∀ (Q:ae->ag->Prop) (E:ae->ag->Prop),Q (.ref lam) s->am (av X.prog X.w) X.A (eval (.Name nf p1) X.env) Q E s:=fun Q E fin=>by
  obtain ⟨m,wL,hl⟩:=I.loc
  obtain ⟨u,r,l⟩:=hl kf nf _ hkf xt sR
  cases r
  rcases l with ⟨hk,hm⟩|⟨hk,c,hc,qP⟩
  ·exact iD (kP I.ok.kind hk wL hm fin) hfd
  ·rcases hk with hk|hk
   ·exact iD (lm I.ok.kind hk hc qP fin) hfd
   ·exact iD (lp I.ok.kind hk hc qP fin hfcd) hfd
 refine wpAny_Try_except (ge (wpAny_Expr_any ?_ I.quiet hs0))
 refine fP (load _ _ (PySem.W.callWith_F0 ue (iE (eS tK fun r s1 hq=>?_))))
 cases r with
 | ok fl=>
  cases fl with
  | next=>exact ak hq
  | brk=>exact ak hq
  | cont=>exact ak hq
  | ret u=>
   obtain ⟨v,H',J,_,q⟩:=I.after hq
   exact fO (fO ⟨σ,H',J,q⟩)
 | error e=>
  obtain ⟨a,c,H1,rfl,os,pM,bare,un,hok,x,C,hC,hm,q⟩:=hq
  have I1:L2.Inv X pins σ H1 s1:=I.call' (ch:=[]) os un hok bare (fun b z=>absurd z (by simp))
  rw [hC] at x
  refine Gm (h0:=s.heap) (by rw [<- uc];exact I.ok.frames) (by rw [<- uc];exact I1.stack) tW x (fun b hb=>hok.fresh hb) ?_ fun h2 kp x2=>?_
  ·intro b hb
   cases z:s.heap.get? b with
   | none=>rfl
   | some o=>
    obtain ⟨o',e'⟩:=un.there b o z (by simp)
    exact absurd (aG e') (jG.mpr hb)
  ·rw [<- uc] at kp
   exact X_ I os pM bare un hok kp x2 hm wj wc hN hi hj tI hn hy (fun s' J=>⟨_,_,J,q a x.free⟩) hnd hncd hTd hs hw
end
structure DR (nf n y xT:Str) (p0 p1 p2 p3 p5 p6 p7 pq pc:Pos) (kc):Prop where
 hfd:(nf==("__debug__":Str))=false:=by decide
 hfcd:(nf==("__classdict__":Str))=false:=by decide
 hnd:(n==("__debug__":Str))=false:=by decide
 hncd:(n==("__classdict__":Str))=false:=by decide
 hTd:(xT==("__debug__":Str))=false:=by decide
 hs0:∀ env:Env,swapsWith (.Call (.Name nf p1) [] [] p2) none p3.line env=pure false:=by intro _;rfl
 hsA:∀ env:Env,swapsWith (.Constant .none kc pc) (some (.Name y pq)) p0.line env=pure false:=by intro _;rfl
 hs:∀ env:Env,ic [.Name y p5] (.Name n p6) p7.line env=pure false:=by intro _;rfl
 hw:∀ env:Env,ie [.Name y p5] (.Name n p6) env=pure none:=by intro _;rfl
section
variable {X:Cx} {H:Hp}
theorem Zh {Y:Cx} {pI:St} {H:Hp} {s1:ag} {Cl:Nat->ae} {lam T:af} {nf n y xT:Str} {pA:List dh} {i j:Nat} {Q:VK} {W:St->Hp->Prop} {t:TS} {p0 p1 p2 p3 p4 p5 p6 p7 p8 pq pc pos:Pos} {kc:_}
  (I1:L2.Inv Y [] pI H s1) (hex:Y.ex=[]) (uc:Y.stack=Y.env::Y.outer) (tW:Y.env.frame=some Y.env.locals) (ue:∀ (rD:St) (s2:ag),L2.Inv Y [] rD H s2->jO lam s2.heap) (rM:Y.N[0]?=some nf) (hv0:pI[0]?=some (some (.ref lam)))
  (hN:Y.N.Nodup) (hi:Y.N[i]?=some n) (hj:Y.N[j]?=some y) (tI:i≠j) (zr:j≠0) (hn:Y.env.scope.names.lookup n=some .local) (hy:Y.env.scope.names.lookup y=some .local) (xt:sI Y.env.scope nf) (wj:Gl Y xT) (wc:Y.mg xT=some (.ref T))
  (tK:∀ s2:ag,L2.Inv Y [] (pI.set j (some .non)) H s2->codeAny (av Y.prog Y.w) Y.A (.call (.ref lam) ⟨[],[]⟩) (CR (qA Y.prog Y.w Cl) Y.stack Y.prog Y.w H s2 (fun _ H'=>W (pI.set j (some .non)) H')
    (fun Cv _ H1=>∃ C,Cv=.ref C/\eL Y.K (.ref C) (.ref T)=some true/\∀ a,H1 a=none->W (((pI.set j (some .non)).set j (some (.ref a))).set i none) (upd H1 a (.ext fun h=>∃ ox,cJ h a ox C none)))) s2)
  (rL:qY Y pA t) (hW:∀ σ' H',W σ' H'->t { nx:=fun _ H'=>Q .non H',rt:=Q } σ' H')
  (Z:DR nf n y xT p0 p1 p2 p3 p5 p6 p7 pq pc kc):
  am (av Y.prog Y.w) Y.A (execs (.Assign [.Name y pq] (.Constant .none kc pc) p0 :: .Try [.Expr (.Call (.Name nf p1) [] [] p2) p3] [.ExceptHandler (some (.Name xT p4)) (some n) [.Assign [.Name y p5] (.Name n p6) p7] p8] [] [] pos::pA) Y.env) (SP Y [] { nx:=fun _ H'=>Q .non H',rt:=Q }) Y.xe s1:=by
 refine ge ?_
 refine oV (K_ (X:=Y) (pos':=pq) (pos:=p0) hN hj (.inl hy) (Gk (j:=kc) (pos:=pc)) (Z.hsA _) (.inr hy) [] s1 pI H { nx:=fun σ' H'=>σ'=pI.set j (some .non)/\H'=H,rt:=fun _ _=>False } I1 ⟨rfl,rfl⟩) fun fl s2 h2=>?_
 cases fl with
 | ret u=>obtain ⟨_,_,_,_,_,z⟩:=h2;exact z.elim
 | brk=>obtain ⟨_,_,_,z⟩:=h2;exact z.elim
 | cont=>obtain ⟨_,_,_,z⟩:=h2;exact z.elim
 | next=>
 obtain ⟨rD,H2,I2,rfl,rfl⟩:=h2
 refine ge (oV (SJ (D:={ nx:=W,rt:=fun _ _=>False }) I2 hex (tK s2 I2) (ue _ s2 I2) rM (by rw [a8 zr];exact hv0) xt wj wc uc tW hN hi hj tI hn hy Z.hfd Z.hfcd Z.hnd Z.hncd Z.hTd (Z.hs0 _) (Z.hs _) (Z.hw _)) fun fl s3 h3=>?_)
 cases fl with
 | ret u=>obtain ⟨_,_,_,_,_,z⟩:=h3;exact z.elim
 | brk=>obtain ⟨_,_,_,z⟩:=h3;exact z.elim
 | cont=>obtain ⟨_,_,_,z⟩:=h3;exact z.elim
 | next=>
  obtain ⟨qT,H3,I3,w3⟩:=h3
  exact rL [] s3 qT H3 _ I3 (hW qT H3 w3)
end
section
variable {X:Cx} {pins:List (af×Obj)} {σ:St} {H:Hp} {s:ag}
theorem UM {Cl:Nat->ae} {k:Nat} {f:af} {name qual:Str} {params:fE} {body:List dh} {scope:cF} {dV kV doc pm k_ ct oc:ae} {an od:Option af} {sk:Array (Option ae)} {N ps:List Str} {us:List ae} {vs:List V} {Q:VK}
  (I:L2.Inv X pins σ H s) (hr:nO (k+1) X.A) (lk:X.K.lookup f=some ⟨oc,od,.func (bI name qual params body scope dV kV doc pm an k_ ct),sk⟩)
  (pY:ee X.K k_ qual=true) (S:pK N ps scope) (hb:iq s (bI name qual params body scope dV kV doc pm an k_ ct) ⟨us,[]⟩ (ps.zip us)) (hl:vs.length=ps.length) (hv:nK vs us)
  (pU:∀ s1:ag,nO k (X.A.deeper (bg qual scope s.heap.objs.size f k_))->L2.Inv (tj Cl X.prog X.w X.K X.mg X.base N qual scope f k_ X.A X.stack s H E0) [] (L2.start N vs) H s1->
   am (av X.prog X.w) (tj Cl X.prog X.w X.K X.mg X.base N qual scope f k_ X.A X.stack s H E0).A (execs body (tj Cl X.prog X.w X.K X.mg X.base N qual scope f k_ X.A X.stack s H E0).env) (SP (tj Cl X.prog X.w X.K X.mg X.base N qual scope f k_ X.A X.stack s H E0) [] { nx:=fun _ H'=>Q .non H',rt:=Q }) (tj Cl X.prog X.w X.K X.mg X.base N qual scope f k_ X.A X.stack s H E0).xe s1):
  am (av X.prog X.w) X.A (call (.ref f) us) (EP X pins σ Q) X.xe s:=by
 have e0:=I.env0
 have KX:=I.kIn
 have wg:∀ z∈ps.zip us,scope.names.lookup z.1=some .local\/(scope.names.lookup z.1=some .cell/\((bW (s.heap.objs.size+1) scope.names []).lookup z.1).isSome=true):=fun ⟨m,v⟩ hz=>by
  rcases S.par m (iF hz).1 with q|q
  ·exact .inl q
  ·exact .inr ⟨q,fW _ _ _ (.inl q)⟩
 refine iE (eS (?_:codeAny (av X.prog X.w) X.A (.call (.ref f) ⟨us,[]⟩) (CR (qA X.prog X.w Cl) X.stack X.prog X.w H s Q E0) s) fun r s' hq=>?_)
 ·refine kA hr.depth (KX _ _ lk) rfl S.co S.gen rfl (lH KX pY) (hb _ _ _ _ ?_)
  refine wT I (jn S.kind wg fun env he s1 x pM=>?_)
  subst he
  refine ⟨I.nolimit.keeps x.toInCall.keep,codeAny_func ?_⟩
  have I1:L2.Inv (tj Cl X.prog X.w X.K X.mg X.base N qual scope f k_ X.A X.stack s H E0) [] (L2.start N vs) H s1:=Ny S hr.hd e0 hl hv x pM
  refine dF (pU s1 (hr.deeper _) I1) (fun fl s' hs=>?_) fun e s' hs=>hs
  have fin:∀ {σ':St} {H':Hp} {v:V} {u:ae},L2.Inv (tj Cl X.prog X.w X.K X.mg X.base N qual scope f k_ X.A X.stack s H E0) [] σ' H' s'->RelV v u->Q v H'->CE X.stack X.prog X.w H s Q u s':=
   fun {σ' H' v u} J rv q=>⟨⟨v,H',J.os,J.bare,J.base,J.hok,rv,q⟩,J.tk⟩
  cases fl with
  | ret u=>
   obtain ⟨v,σ',H',J,rv,q⟩:=hs
   exact fin J rv q
  | next=>
   obtain ⟨σ',H',J,q⟩:=hs
   exact fin (v:=V.non) (u:=cx) J rfl q
  | brk=>
   obtain ⟨_,_,_,q⟩:=hs
   exact ak q
  | cont=>
   obtain ⟨_,_,_,q⟩:=hs
   exact ak q
 ·cases r with
  | error e=>exact MA pins σ H s e s' I hq
  | ok fl=>
   cases fl with
   | ret u=>exact I.after hq
   | next=>exact ak hq
   | brk=>exact ak hq
   | cont=>exact ak hq
end
section
variable {X:Cx} {pins:List (af×Obj)} {σ:St} {H:Hp} {s:ag}
theorem Za {Cl:Nat->ae} {k:Nat} {f lam T:af} {name qual nf n y xT:Str} {params:fE} {pA:List dh} {scope:cF} {dV kV doc pm k_ ct oc:ae} {an od:Option af} {sk:Array (Option ae)} {N:List Str} {i j:Nat} {Q:VK} {W:St->Hp->Prop} {p0 p1 p2 p3 p4 p5 p6 p7 p8 pq pc pos:Pos} {kc:_}
  (I:L2.Inv X pins σ H s) (hr:nO (k+1) X.A)
  (lk:X.K.lookup f=some ⟨oc,od,.func (bI name qual params (.Assign [.Name y pq] (.Constant .none kc pc) p0 :: .Try [.Expr (.Call (.Name nf p1) [] [] p2) p3] [.ExceptHandler (some (.Name xT p4)) (some n) [.Assign [.Name y p5] (.Name n p6) p7] p8] [] [] pos::pA) scope dV kV doc pm an k_ ct),sk⟩)
  (pY:ee X.K k_ qual=true) (S:pK N [nf] scope)
  (hb:iq s (bI name qual params (.Assign [.Name y pq] (.Constant .none kc pc) p0 :: .Try [.Expr (.Call (.Name nf p1) [] [] p2) p3] [.ExceptHandler (some (.Name xT p4)) (some n) [.Assign [.Name y p5] (.Name n p6) p7] p8] [] [] pos::pA) scope dV kV doc pm an k_ ct) ⟨[.ref lam],[]⟩ ([nf].zip [.ref lam]))
  (ue:∀ s2:ag,Un (ql X.stack) [] H H s.heap s2.heap->HOk X.prog X.w H s2.heap->jO lam s2.heap) (hN:N.Nodup) (rM:N[0]?=some nf) (hi:N[i]?=some n) (hj:N[j]?=some y) (tI:i≠j) (zr:j≠0) (hn:scope.names.lookup n=some .local) (hy:scope.names.lookup y=some .local) (xt:sI scope nf)
  (wj:scope.names.lookup xT=some .globalImplicit) (wc:X.mg xT=some (.ref T))
  (tK:∀ s2:ag,nO k (X.A.deeper (bg qual scope s.heap.objs.size f k_))->xO X.prog X.w X.K X.mg X.base (X.A.deeper (bg qual scope s.heap.objs.size f k_)) (bg qual scope s.heap.objs.size f k_::X.stack) s2 H->Un (ql X.stack) [] H H s.heap s2.heap->
   codeAny (av X.prog X.w) (X.A.deeper (bg qual scope s.heap.objs.size f k_)) (.call (.ref lam) ⟨[],[]⟩) (CR (qA X.prog X.w Cl) (bg qual scope s.heap.objs.size f k_::X.stack) X.prog X.w H s2 (fun _ H'=>W ((L2.start N [.ref lam]).set j (some .non)) H')
    (fun Cv _ H1=>∃ C,Cv=.ref C/\eL X.K (.ref C) (.ref T)=some true/\∀ a,H1 a=none->W ((((L2.start N [.ref lam]).set j (some .non)).set j (some (.ref a))).set i none) (upd H1 a (.ext fun h=>∃ ox,cJ h a ox C none)))) s2)
  (rL:nO k (X.A.deeper (bg qual scope s.heap.objs.size f k_))->∃ t,qY (tj Cl X.prog X.w X.K X.mg X.base N qual scope f k_ X.A X.stack s H E0) pA t/\∀ σ' H',W σ' H'->t { nx:=fun _ H'=>Q .non H',rt:=Q } σ' H')
  (Z:DR nf n y xT p0 p1 p2 p3 p5 p6 p7 pq pc kc):
  am (av X.prog X.w) X.A (call (.ref f) [.ref lam]) (EP X pins σ Q) X.xe s:=by
 refine UM (Cl:=Cl) (k:=k) (Q:=Q) (vs:=[.ref lam]) I hr lk pY S hb rfl (.cons rfl .nil) fun s1 O_ I1=>?_
 obtain ⟨t,ht,hW⟩:=rL O_
 exact Zh (Y:=tj Cl X.prog X.w X.K X.mg X.base N qual scope f k_ X.A X.stack s H E0) (Cl:=Cl) (T:=T) (W:=W) (Q:=Q) I1 rfl rfl rfl (fun rD s2 I2=>ue s2 I2.base I2.hok) rM (by rfl) hN hi hj tI zr hn hy xt wj wc (fun s2 I2=>tK s2 O_ I2.env0 I2.base) ht hW Z
end
section
variable {X:Cx} {pins:List (af×Obj)} {σ:St} {H:Hp} {s s2:ag}
theorem Ma (un:Un fs [] H H h h') (z:h.IsCell c v) (n:H c=none):h'.IsCell c v:=by
 obtain ⟨o,ho,hd⟩:=z
 obtain ⟨sl,e⟩:=un.any ho n (by simp)
 exact ⟨_,e,hd⟩
theorem YM {qy:List (Str×af)} (I:L2.Inv X pins σ H s) (un:Un (ql X.stack) [] H H s.heap s2.heap) (qi:∀ x c,qy.lookup x=some c->X.env.cells.lookup x=some c):∀ x c,qy.lookup x=some c->(∃ v,s2.heap.IsCell c v)/\H c=none:=fun x c e=>by
 obtain ⟨v,z⟩:=I.cell x c (qi x c e)
 exact ⟨⟨v,Ma un z (I.freeC x c (qi x c e))⟩,I.freeC x c (qi x c e)⟩
theorem Xp {qy:List (Str×af)} (I:L2.Inv X pins σ H s) (qi:∀ x c,qy.lookup x=some c->X.env.cells.lookup x=some c):∀ x y c,qy.lookup x=some c->qy.lookup y=some c->x=y:=fun x y c e1 e2=>I.ok.inj x y c (qi x c e1) (qi y c e2)
theorem XY {qy:List (Str×af)} {scope:cF} (I:L2.Inv X pins σ H s) (un:Un (ql X.stack) [] H H s.heap s2.heap) (qi:∀ x c,qy.lookup x=some c->X.env.cells.lookup x=some c) (has:∀ x,scope.names.lookup x=some .free->∃ c,qy.lookup x=some c)
  (Fx:∀ x,scope.names.lookup x=some .free->X.env.scope.names.lookup x=some .cell\/X.env.scope.names.lookup x=some .free):
  ∀ (i:Nat) x v,X.N[i]?=some x->σ[i]?=some (some v)->scope.names.lookup x=some .free->∃ u c,RelV v u/\qy.lookup x=some c/\s2.heap.IsCell c (some u):=fun i x v e1 e2 e3=>by
 obtain ⟨m,hn,hl⟩:=I.loc
 obtain ⟨u,r,l⟩:=hl i x v e1 e2 (.inr (Fx x e3))
 obtain ⟨c,hc⟩:=has x e3
 refine ⟨u,c,r,hc,?_⟩
 rcases l with ⟨z,_⟩|⟨_,c',g1,g2⟩
 ·have z':X.env.scope.names.lookup x=some .local:=z
  rcases Fx x e3 with q|q<;>(rw [z'] at q;cases q)
 ·have:=qi x c hc
  rw [g1] at this;cases this
  exact Ma un g2 (I.freeC x _ g1)
end
structure EB (out sc:cF):Prop where
 kind:sc.kind=.function
 co:sc.isCoroutine=false
 gen:sc.isGenerator=false
 nd:(sc.names.map (·.1)).Nodup
 cell:∀ x∈sc.names,x.2 ≠ .cell
 loc:∀ x∈sc.names,x.2 ≠ .local
 frees:∀ y∈sc.names,y.2=.free->out.names.lookup y.1=some .cell\/out.names.lookup y.1=some .free
def FW (r:RS):R D:=match r with
 | .nx _ O=>.ok .non O
 | .rt d O=>.ok d O
 | _=>.bad
noncomputable def Bb (Ca:Nat->Nat) (n j:Nat) (tR:DS) (r:R D):R D:=match r with
 | .ok _ O=>FW (tR ((ao n none).set j (some .non)) O)
 | .exc c O=>FW (tR ((ao n none).set j (some (.exn (Ca c)))) O)
 | .bad=>.bad
noncomputable def wD (Pt iT:Nat) (Ca:Nat->Nat) (n j:Nat) (tE:DE) (tR:DS):DE:=fun σ O=>match σ[iT]? with
 | some (some (.tab p))=>if p=Pt then Bb Ca n j tR (tE σ O) else .bad
 | _=>.bad
theorem Nz (hl:d_.length=n) (hv:d_[j]?=some (some v)) (q:Dat K H hid μ d v):nM K H hid μ ((ao n none).set j (some d)) d_:=by
 refine ⟨by simp [hl],fun i x e=>?_⟩
 by_cases hi:j=i
 ·subst hi
  have hj:j<n:=by have:=(al.mp hv).1;omega
  rw [ba (by simpa using hj)] at e
  cases e
  exact ⟨v,hv,q⟩
 ·rw [a8 hi] at e
  rw [eF] at e
  split at e<;>cases e
theorem Nw (q:p9 Ex K H hid μ (FW r) Q):nN E' K H hid μ r { nx:=fun _ H'=>Q .non H',rt:=Q }:=by
 cases r with
 | nx σ O'=>exact fun d_ H' g_ x e c'=>q .non H' g_ x c' Ah
 | rt d' O'=>exact fun v H' g_ x c' r=>q v H' g_ x c' r
 | bk σ O'=>exact ak q
 | ct σ O'=>exact ak q
 | exc c' O'=>exact ak q
 | bad=>exact ak q
theorem EC (h:0<N.length):(L2.start N [a]).length=N.length:=by
 unfold L2.start;simp;omega
noncomputable def Thk (Cl:Nat->ae) (P:aH) (w:aP) (K:ai) (mg:Str->Option ae) (base:aT) (fs:List af) (H:Hp) (h:aT) (lam:af) (kk:Nat) (hid μ:List af) (r:R D):Prop:=
 ∀ (A:aW) (outer:List Env) (s2:ag) (Q:VK) (E:XK),nO kk A->xO P w K mg base A outer s2 H->Un fs [] H H h s2.heap->p9 (Xk Cl E) K H hid μ r Q->codeAny (av P w) A (.call (.ref lam) ⟨[],[]⟩) (CR (qA P w Cl) outer P w H s2 Q E) s2
section
variable {Y:Cx} {Ex:Nat->Hp->Prop} {Cl:Nat->ae} {Ca:Nat->Nat}
theorem V2 {k i j:Nat} {T lam:af} {x nf n y xT:Str} {st:dh} {N:List Str} {pA:List dh} {tR:DS} {p0 p1 p2 p3 p4 p5 p6 p7 p8 pq pc pos:Pos} {kc:_} {pins:List (af×Obj)} {pI:St} {H:Hp} {s:ag} {f:af} {fd:dG} {fs:List af} {h0:aT} {hid μ:List af} {r:R D} {Q:VK}
  (I:L2.Inv Y pins pI H s) (F:L2.Fun Y.K x x st f fd) (hr:nO (k+1) Y.A)
  (Jp:tU st=.Assign [.Name y pq] (.Constant .none kc pc) p0 :: .Try [.Expr (.Call (.Name nf p1) [] [] p2) p3] [.ExceptHandler (some (.Name xT p4)) (some n) [.Assign [.Name y p5] (.Name n p6) p7] p8] [] [] pos::pA)
  (S:pK N [nf] (oY st)) (hN:N.Nodup) (rM:N[0]?=some nf) (hi:N[i]?=some n) (hj:N[j]?=some y) (tI:i≠j) (zr:j≠0) (hn:(oY st).names.lookup n=some .local) (hy:(oY st).names.lookup y=some .local) (xt:sI (oY st) nf)
  (hb:∀ (kV doc pm:ae) (an:Option af) (k_ ct:ae) (us:List ae),us.length=1->bindArgs (bI x x (v5 st) (tU st) (oY st) .none kV doc pm an k_ ct) ⟨us,[]⟩=pure ([nf].zip us))
  (wj:(oY st).names.lookup xT=some .globalImplicit) (wc:Y.mg xT=some (.ref T)) (ui:∀ c,Cl c=.ref (Ca c)/\xG Y.K (Ca c)/\eL Y.K (.ref (Ca c)) (.ref T)=some true)
  (rL:∀ (f:af) (k_:ae) (s:ag) (H:Hp),nO k (Y.A.deeper (bg x (oY st) s.heap.objs.size f k_))->sM (tj Cl Y.prog Y.w Y.K Y.mg Y.base N x (oY st) f k_ Y.A Y.stack s H E0) (Xk Cl E0) pA tR)
  (ue:∀ s2:ag,Un (ql Y.stack) [] H H s.heap s2.heap->HOk Y.prog Y.w H s2.heap->jO lam s2.heap) (th:Thk Cl Y.prog Y.w Y.K Y.mg Y.base fs H h0 lam k hid μ r) (hun:∀ s3:ag,Un (ql Y.stack) [] H H s.heap s3.heap->Un fs [] H H h0 s3.heap)
  (q:p9 Ex Y.K H hid μ (Bb Ca N.length j tR r) Q)
  (Z:DR nf n y xT p0 p1 p2 p3 p5 p6 p7 pq pc kc:=by exact {}):
  am (av Y.prog Y.w) Y.A (call (.ref f) [.ref lam]) (EP Y pins pI Q) Y.xe s:=by
 have Dj:0<N.length:=(al.mp rM).1
 have I_:j<N.length:=(al.mp hj).1
 obtain ⟨oc,od,kV,doc,pm,an,k_,ct,sk,rfl,lk,pY⟩:=F.ex
 have FD:iq s (bI x x (v5 st) (tU st) (oY st) .none kV doc pm an k_ ct) ⟨[.ref lam],[]⟩ ([nf].zip [.ref lam]):=.of_eq (hb kV doc pm an k_ ct [.ref lam] rfl)
 rw [Jp] at lk FD
 refine Za (k:=k) (Q:=Q) (W:=HW (Xk Cl E0) Y.K tR { nx:=fun _ H'=>Q .non H',rt:=Q }) (i:=i) (j:=j) (T:=T) (Cl:=Cl) I hr lk pY S FD ue hN rM hi hj tI zr hn hy xt wj wc ?_ ?_ Z
 ·intro s2 xu e0 un
  refine th _ _ s2 _ _ xu e0 (hun s2 un) ?_
  cases r with
  | bad=>exact ak q
  | ok d O'=>
   intro v H3 vM x3 c3 d3
   refine ⟨hid,vM,_,O',Nz (by rw [cB,EC Dj]) ?_ Ah,c3,Nw (post.ext q x3)⟩
   rw [ba (by rw [EC Dj];exact I_)]
  | exc cc O'=>
   intro H3 vM x3 c3
   obtain ⟨h1,h2,h3⟩:=ui cc
   refine ⟨Ca cc,h1,h3,fun a ha=>⟨hid,vM,_,O',Nz (v:=.ref a) (d:=.exn (Ca cc)) (by simp [EC Dj]) ?_ ?_,c3.laid ha,Nw (post.ext q (x3.trans (.laid ha)))⟩⟩
   ·rw [a8 tI,ba (by simp [EC Dj];exact I_)]
   ·unfold Dat
    exact ⟨a,_,rfl,⟨h2,fun h z=>z⟩,.inl qR,c3.not_in ha⟩
 ·intro xu
  exact ⟨_,(rL f k_ _ H xu).out,fun σ' H' z=>z⟩
end
section
variable {X:Cx} {Ex:Nat->Hp->Prop} {Cl:Nat->ae} {Ca:Nat->Nat}
theorem YH {k iT i j:Nat} {Pt c:af} {T:af} {x nf n y xT:Str} {st:dh} {N:List Str} {pA:List dh} {tR:DS} {tE:DE} {params:fE} {body:aQ} {scope:cF} {p0 p1 p2 p3 p4 p5 p6 p7 p8 pq pc pos pn pl pp:Pos} {kc:_}
  (h:pX X.K X.mg x st) (hr:nO (k+2) X.A)
  (Jp:tU st=.Assign [.Name y pq] (.Constant .none kc pc) p0 :: .Try [.Expr (.Call (.Name nf p1) [] [] p2) p3] [.ExceptHandler (some (.Name xT p4)) (some n) [.Assign [.Name y p5] (.Name n p6) p7] p8] [] [] pos::pA)
  (S:pK N [nf] (oY st)) (hN:N.Nodup) (rM:N[0]?=some nf) (hi:N[i]?=some n) (hj:N[j]?=some y) (tI:i≠j) (zr:j≠0) (hn:(oY st).names.lookup n=some .local) (hy:(oY st).names.lookup y=some .local) (xt:sI (oY st) nf)
  (hb:∀ (kV doc pm:ae) (an:Option af) (k_ ct:ae) (us:List ae),us.length=1->bindArgs (bI x x (v5 st) (tU st) (oY st) .none kV doc pm an k_ ct) ⟨us,[]⟩=pure ([nf].zip us))
  (wj:(oY st).names.lookup xT=some .globalImplicit) (wc:X.mg xT=some (.ref T)) (ui:∀ c,Cl c=.ref (Ca c)/\xG X.K (Ca c)/\eL X.K (.ref (Ca c)) (.ref T)=some true)
  (rL:∀ (f:af) (k_:ae) (s:ag) (H:Hp),nO (k+1) (X.A.deeper (bg x (oY st) s.heap.objs.size f k_))->sM (tj Cl X.prog X.w X.K X.mg X.base N x (oY st) f k_ X.A X.stack s H E0) (Xk Cl E0) pA tR)
  (L:wX X.mg X.base c Pt) (sH:X.env.code=.ref c) (LS:EB X.env.scope scope) (wo:defaultsOf params X.env=([],[]))
  (zx:∀ (name qual:Str) (cl:List (Str×af)) (pm cd ct:ae),bindArgs (dO name qual params body scope cl pm cd ct) ⟨[],[]⟩=pure [])
  (hE:∀ (q:Str) (lam:af) (cd:ae) (cl:List (Str×af)) (A:aW) (outer:List Env) (s:ag) (H:Hp) (E:XK),nO k (A.deeper (tZ q scope s.heap.objs.size lam cd cl))->PD (zL (qA X.prog X.w Cl) X.prog X.w X.K X.mg X.base X.N (tZ q scope s.heap.objs.size lam cd cl) A outer s H E) (Xk Cl E) body tE)
  (hg:Gl X x)
  (qX:(x==("__debug__":Str))=false:=by decide)
  (Z:DR nf n y xT p0 p1 p2 p3 p5 p6 p7 pq pc kc:=by exact {}):
  PD X Ex (.Call (.Name x pn) [.Lambda params body scope pl] [] pp) (wD Pt iT Ca N.length j tE tR):=by
 refine ⟨?_⟩
 rintro pins s d_ H Q I ⟨hid,μ,σ,O,e1,c1,q⟩
 obtain ⟨f,fd,hm,F⟩:=h
 have Dj:0<N.length:=(al.mp rM).1
 have I_:j<N.length:=(al.mp hj).1
 have Pp:i<N.length:=(al.mp hi).1
 -- the table
 obtain ⟨ti,q⟩:nX H Pt/\p9 Ex X.K H hid μ (Bb Ca N.length j tR (tE σ O)) Q:=by
  unfold wD at q
  split at q
  ·rename_i p hp
   by_cases IJ:p=Pt
   ·rw [if_pos IJ] at q
    obtain ⟨v,_,d⟩:=e1.at_ iT _ hp
    unfold Dat at d
    rw [IJ] at d
    exact ⟨d.2,q⟩
   ·rw [if_neg IJ] at q;exact ak q
  ·exact ak q
 have pR:∀ y∈scope.names,y.2=.free->∃ c,X.env.cells.lookup y.1=some c:=fun y hy hf=>I.ok.has y.1 (LS.frees y hy hf)
 have qi:∀ x c,(qF X.env.cells scope.names []).lookup x=some c->X.env.cells.lookup x=some c:=fun x c e=>by
  rcases EI _ _ (bE e) with m|⟨m,z⟩
  ·cases m
  ·obtain ⟨c',zw⟩:=pR (x,.free) m rfl
   have wN:X.env.cells.lookup x=some c':=zw
   rw [wN] at z ⊢;rw [z];rfl
 have Df:∀ x,scope.names.lookup x=some .free->∃ c,(qF X.env.cells scope.names []).lookup x=some c:=fun x e=>by
  have m:=EL (cells:=X.env.cells) scope.names [] (bE e)
  exact ⟨_,wF (E4 _ _ LS.nd (by simp) (by intro p hp;cases hp)) m⟩
 have Fx:∀ x,scope.names.lookup x=some .free->X.env.scope.names.lookup x=some .cell\/X.env.scope.names.lookup x=some .free:=fun x e=>LS.frees (x,.free) (bE e) rfl
 have sR:∀ x,sI scope x->scope.names.lookup x=some .free:=fun x hx=>by
  rcases hx with z|z|z
  ·exact absurd rfl (LS.loc _ (bE z))
  ·exact absurd rfl (LS.cell _ (bE z))
  ·exact z
 refine fP (Bz I hg hm ?_ qX)
 refine lG (h₀:=X.base) I.ok.mod.kin F.kp ?_ (by rfl) (by rfl)
 show am _ _ (spliced ((false,eval (.Lambda params body scope pl) X.env)::backTo pp (aD [] X.env))) _ _ s
 refine gD (R4 I L sH ti (Oe pR) wo fun lam cd wO h' tk H' I1 ext cells Pm AW qD v_=>?_)
 refine jx ⟨I1.kIn,?_⟩
 have CV:lam∉ql X.stack:=by
  intro hb
  obtain ⟨_,o,ho,_⟩:=I.stack.mem hb
  exact absurd (aG ho) (jG.mpr AW)
 obtain ⟨cc,φ,rfl,wt,hφ⟩:=v_
 refine V2 (k:=k+1) (fs:=ql X.stack) (h0:=h') (hid:=hid) (μ:=μ) (r:=tE σ O) I1 F hr Jp S hN rM hi hj tI zr hn hy xt hb wj wc ui rL (fun s2 un _=>⟨_,_,_,_,un.keep lam _ qD Pm CV (by simp)⟩) ?_ (fun _ un=>un) (post.ext q (ext μ)) Z
 intro A outer s2 Q2 E2 xu e0 un qq
 obtain ⟨qn,hqn⟩:=hφ _ (e0.hok cc _ wt).1
 exact Rg (k:=k) (t:=tE) (hid:=hid) (μ:=μ) (σd:=σ) (O:=O) xu e0 (un.keep lam _ qD Pm CV (by simp)) hqn LS.co LS.gen LS.kind LS.cell (zx _ _ _ _ _ _) sR (YM I1 un qi) (Xp I1 qi) Df (XY I1 un qi Df Fx) I1.len (hE _ _ _ _ _ _ _ _ _) (e1.ext (ext μ)) (cells hid μ O c1) qq
end
theorem Sr {K:ai} {Ec:XK->Nat->Hp->Prop} {Pt:af} {F:List D->Ow->R D} {H:Hp} {a:af} {ns:List Int} (h:∃ O,F [.lst (ns.map .int)] []=.ok (.bl true) O) (hT:H Pt=some (.tbl #[])) (sq:pV K H a (ns.map V.int)):xM K Ec 1 Pt F [.ref a] H (fun v _=>v=.bl true) fun _ _ _=>False:=by
 obtain ⟨O,h⟩:=h
 have dn:∀ (l:List Int),nJ K H [] [] (l.map D.int) (l.map V.int):=fun l=>by
  induction l with
  | nil=>exact .nil
  | cons x r ih=>exact .cons q9 ih
 refine ⟨rfl,[],[],[.lst (ns.map .int)],[],.cons ?_ .nil,⟨rfl,by simp,by simp,by simp,fun k a e=>by simp at e⟩,nX.empty hT,?_⟩
 ·unfold Dat
  exact ⟨a,_,rfl,sq.imp (fun z=>⟨z,by simp,by simp⟩) id,dn ns⟩
 ·rw [h]
  intro v H' g_ _ _ r
  unfold Dat at r
  exact r
theorem walkT {l:lK} {q:aH} {loose:List Str} {XP:(Str->Option ae)->aT->Prop} {YP:aP->aT->Prop} {d:DefRec} {K:iA->ai} {Cl:Nat->ae} {k:Nat} {x:Str} {F:Nat->List D->Ow->R D} {α:Type} {Yf:ag->α} {Ya:aP->α} (hn:l.most=some 63) (Jh:d.params.defaults=[]) (hr:nO k callerA)
  (Jt:∀ w s,Yf s=Ya w->YP w s.heap) (Js:∀ w h h',YP w h->(∀ b o,h.get? b=some o->h'.get? b=some o)->YP w h')
  (hY:∀ (w:aP) (h:aT),YP w h->(K w.params).In h) (v_:(PyProof.Rows.recsOf q).find? (fun e=>e.name==d.name)=some d)
  (hF:∀ (w:aP) (mg:Str->Option ae) (fa:af) (h:aT),(K w.params).In h->h.Ns bD mg->mg d.name=some (.ref fa)->
   iW (K w.params)=true/\∃ (c Pt:af),jq (K w.params) d.name=some (c,Pt)/\∃ fd:dG,(∀ (s:ag) (u:ae),iq s fd ⟨[u],[]⟩ [(x,u)])/\∀ base:aT,(K w.params).In base->base.Ns bD mg->wX mg base c Pt->nY l.prog w (K w.params) mg base (qA l.prog w Cl) k fa fd [x] (xM (K w.params) (Xk Cl) 1 Pt (F Pt)))
  (pure_:∀ (Pt:Nat) (ns:List Int),ns.length<=63->∃ O,F Pt [.lst (ns.map .int)] []=.ok (.bl true) O):
  PySem.W.WalkX q loose XP (fun s=>(Yf s,decide (0<s.toks))) (fun w=>(Ya w,true)) l.row.toRowW d [] (fun f vs=>PySem.call f vs):=by
 refine Att.attach_call hn Jh Jt Js fun w s₀ n_ mg mb fa o pm cd doc a vs ns G Y ho hd pY CY zm hints hlen hg pM=>?_
 have KX:=hY w _ Y
 obtain ⟨hK,c,Pt,ht,fd,hb,hF⟩:=hF w mg fa _ KX G.T.g CY
 obtain ⟨hC,hP⟩:=PySem.W.tab_of G.T KX v_ ht
 have hB:n_.heap.BuiltinsAt mg Pt:=by
  obtain ⟨bm,ob,b1,b2,b3,b4,b5,b6⟩:=G.T.bmain
  refine ⟨bm,ob,b1,b2,fun q=>?_,fun q=>?_,b3,b4,b5,b6⟩
  ·obtain ⟨o,es,ep,e,hd,_⟩:=G.T.g
   rw [q,e] at b3;cases b3;rw [hd] at b6;cases b6
  ·rw [q,hP] at b3;cases b3;cases b4
 exact XR KX G.T.g G.T.b G.T.builtins G.T.nolimit hg pM zm hints (aU hlen (by decide)) hr hC hP hK hB hF hb (fun H hT hS=>Sr (pure_ Pt ns hlen) hT hS) fun H e s' ⟨_,_,_,_,_,_,_,_,_,_,z⟩=>z
section
variable {X:Cx} {Ex:Nat->Hp->Prop}
noncomputable def Bi:Ow->D->D->R D:=fun O x y=>match x,y with
 | .str [c],.int i=>if 0<=i/\i<=16 then .ok (.str (ao i.toNat c)) O else .bad
 | _,_=>.bad
theorem M_ (c:Nat):∀ (k:Nat) (acc:List Nat),(ao k (#[c]:Array Nat)).foldl (· ++ ·) acc.toArray=(acc++ao k c).toArray
 | 0,acc=>by simp
 | k+1,acc=>by
  rw [cT,fT]
  have e:acc.toArray ++ #[c]=(acc++[c]).toArray:=by simp
  rw [e,M_ c k]
  rw [cT]
  simp
theorem Vr (c:Nat) (i:Int):Txt.mul (⟨#[c]⟩:Str) i=⟨(ao i.toNat c).toArray⟩:=by
 unfold Txt.mul
 by_cases h1:i<1
 ·rw [if_pos h1]
  have:i.toNat=0:=by omega
  rw [this];rfl
 ·rw [if_neg h1]
  by_cases h2:i=1
  ·subst h2;rfl
  ·have h3:(i==1||(⟨#[c]⟩:Str).length==0)=false:=by
    have:(i==1)=false:=by simpa using h2
    rw [this];rfl
   rw [if_neg (by rw [h3];decide)]
   have:=M_ c i.toNat []
   simp only [dU] at this
   rw [this]
theorem VX:pH X (dj .Mult) (fun x y H Q=>∃ c i,x=.str ⟨#[c]⟩/\y=.int i/\0<=i/\i<=16/\Q (.str ⟨(ao i.toNat c).toArray⟩) H):=by
 intro pins s σ H x y v u Q I rx ry h
 obtain ⟨c,i,rfl,rfl,h0,h1,q⟩:=h
 obtain ⟨t,rfl⟩:=rx
 obtain ⟨t',rfl⟩:=ry
 refine wT I (SB.mul ?_ fun tk k pM=>⟨.str (Txt.mul ⟨#[c]⟩ i),H,I.tok k,⟨_,rfl⟩,by rw [Vr];exact q⟩)
 refine ⟨?_,fun h2 h3=>?_,fun h2 h3=>?_⟩
 ·have a1:decide (i < -(2 ^ 63:Int))=false:=by simp;omega
  have a2:decide (i ≥ 2 ^ 63)=false:=by simp;omega
  rw [a1,a2];rfl
 ·have e:((⟨#[c]⟩:Str).length:Int)=1:=rfl
  rw [e]
  have:(1:Int)<=(2 ^ 63-1)/i:=by
   rw [Int.le_ediv_iff_mul_le (by omega)]
   omega
  omega
 ·have e:(⟨#[c]⟩:Str).length*i.toNat=i.toNat:=by
   show 1*_=_
   omega
  rw [e]
  have:i.toNat<=16:=by omega
  generalize i.toNat=n at this
  revert n
  decide
theorem Xm:qK X Ex (fun x y H Q=>∃ c i,x=.str ⟨#[c]⟩/\y=.int i/\0<=i/\i<=16/\Q (.str ⟨(ao i.toNat c).toArray⟩) H) Bi:=by
 intro H hid μ O x y v w Q c dx dy q
 unfold Bi at q
 split at q
 ·rename_i cc i
  unfold Dat at dx dy;subst dx;subst dy
  obtain ⟨hl,q⟩:=post.ite q
  refine ⟨cc,i,rfl,rfl,hl.1,hl.2,post.here q c ?_⟩
  unfold Dat;rfl
 ·exact ak q
end
theorem nH.frz {Cl:Nat->ae} {P:aH} {w:aP} {K:ai} {mg:Str->Option ae} {base:aT} {k n:Nat} {x:Str} {F:List D->Ow->R D} (c:nH Cl P w K mg base x k n F):nH Cl P w K mg base x k n (zN F):=
 c.imp fun ds O H hid μ Ex Q cl q=>WW cl.len q
theorem fnT {Cl:Nat->ae} {P:aH} {w:aP} {K:ai} {mg:Str->Option ae} {base:aT} {k i:Nat} {f c Pt:af} {fd:dG} {x z:Str} {st:dh} {N ps:List Str} {t:DS} (hF:L2.Fun K x x st f fd) (hc:fd.code=.ref c) (S:pK N ps (oY st)) (hi:N[i]?=some z) (hz:¬ sI (oY st) z)
  (pU:∀ (A:aW) (outer:List Env) (s:ag) (H:Hp) (E:XK),nO k (A.deeper (bg x (oY st) s.heap.objs.size f (.ref c)))->sM (tj Cl P w K mg base N x (oY st) f (.ref c) A outer s H E) (Xk Cl E) (tU st) t):
  nY P w K mg base (qA P w Cl) (k+1) f fd ps (xM K (Xk Cl) ps.length Pt (DU N.length i Pt t)):=by
 obtain ⟨oc,od,kV,doc,pm,an,k_,ct,sk,rfl,lk,pY⟩:=hF.ex
 have e:k_=.ref c:=hc
 subst e
 exact Sb lk pY S hi hz pU
theorem QA (h:sc.names.lookup z=none):¬ sI sc z:=by
 intro v
 rcases v with v|v|v<;>(rw [h] at v;cases v)
noncomputable def Kd (out sc:cF):Bool:=(match sc.kind with|.function=>true|_=>false) && !sc.isCoroutine && !sc.isGenerator&&decide ((sc.names.map (·.1)).Nodup)&&(sc.names.all fun y=>!(y.2 == .cell) && !(y.2 == .local))&&(sc.names.all fun y=>!(y.2 == .free)||out.names.lookup y.1==some .cell||out.names.lookup y.1==some .free)
theorem QF (h:Kd out sc=true):EB out sc:=by
 unfold Kd at h
 simp only [a6,decide_eq_true_eq,aF] at h
 obtain ⟨⟨⟨⟨⟨h1,h2⟩,h3⟩,h4⟩,h5⟩,h6⟩:=h
 refine ⟨?_,by simpa using h2,by simpa using h3,h4,fun y hy=>?_,fun y hy=>?_,fun y hy hf=>?_⟩
 ·cases e:sc.kind<;>rw [e] at h1<;>first|rfl|cases h1
 ·have:=(h5 y hy).1;simpa using this
 ·have:=(h5 y hy).2;simpa using this
 ·have:=h6 y hy
  rw [hf] at this
  simpa using this
theorem Uk (X:K.In base) (g:mg x=some (.ref C)) (q:lh K C DH "ValueError.__new__" = true):F0 mg base x C:=by
 unfold lh at q
 split at q
 next dd cd sl ho=>
  split at q
  next C' bm k0 k1 k2 k3 n k5 hm hs=>
   simp only [a6,beq_iff_eq,fY] at q
   obtain ⟨⟨⟨⟨⟨q1,q2⟩,q3⟩,q4⟩,q5⟩,q6⟩:=q
   subst q1;subst q2
   cases cd with
   | mk nm bs mro ns qn hd sn sub ab col del=>
    dsimp only at hm q3 q5 q6
    subst hm;subst q3
    cases sl with
    | mk l=>
     dsimp only at hs
     subst hs
     exact ⟨g,bm,ns,nm,qn,bs,hd,sn,sub,ab,col,dd,k0,k1,k2,k3,k5,_,X _ _ ho,.of_isNs (PySem.W.isNs_of_in X q5),PySem.W.nsMap_none_of_in X q5 q6,PySem.W.tail_of_in X q4⟩
  next=>cases q
 next=>cases q
theorem xck_of (ga:du K (.ref C) "__getattribute__" = some (some (.builtin "BaseException.__getattribute__"))) (nh:du K (.ref C) "__getattr__" = some none) (cl:ng K C=some cd)
  (at_:du K (.ref C) "__class__" = some (some (.builtin "object.__class__"))) (gt:gX K (.builtin "object.__class__") "__get__" = some (some (.builtin "getset_descriptor.__get__"))) (tk:j4 K (.builtin "object.__class__")=some true)
  (ob:ig K C (.type "object")=some true) (bx:ig K C (.type "BaseException")=some true)
  (k1:aJ K (.ref C) (.type "int")=some false) (k2:aJ K (.ref C) (.type "bool")=some false) (k3:aJ K (.ref C) (.type "str")=some false) (k4:aJ K (.ref C) (.type "list")=some false) (k5:aJ K (.ref C) (.type "tuple")=some false) (k6:aJ K (.ref C) (.type "dict")=some false):xG K C:=
 ⟨ga,nh,⟨cd,cl⟩,at_,gt,tk,ob,bx,fun c hc=>by
  simp only [aw,aR,or_false] at hc
  rcases hc with rfl|rfl|rfl|rfl|rfl|rfl<;>assumption⟩
theorem Sz {K:ai} {x name qual:Str} {f c Pt:af} {params:fE} {body:List dh} {scope:cF} {dV kV doc pm ct oc oc':ae} {an od od':Option af} {sk HX:Array (Option ae)} {vs:Array ae} (a:gJ K bD x=some (some (.ref f)))
  (lk:K.lookup f=some ⟨oc,od,.func (bI name qual params body scope dV kV doc pm an (.ref c) ct),sk⟩) (h4:K.lookup c=some ⟨oc',od',.fields vs,HX⟩) (h5:vs[11]?=some (.ref Pt)):jq K x=some (c,Pt):=by
 unfold jq
 rw [a]
 simp only [lk]
 show (match K.lookup c with|some ⟨_,_,.fields vs,_⟩=>_|_=>none)=_
 simp only [h4,h5]
theorem Z7:a9 "ValueError" = some (.type "ValueError"):=by boot_by_name
structure nZ (P:aH) (w:aP) (ia:af) (fp:List af) (n:Nat) (Pv:Nat->ae->Prop) (Sx:Nat->aT->Prop):Prop where
 stab:∀ i h h',Sx i h->(∀ b∈ia::fp,∀ o,h.get? b=some o->h'.get? b=some o)->Sx i h'
 item:∀ (A:aW) (i:Nat) (s:ag) (Q:ae->ag->Prop) (E:ae->ag->Prop),i<n->Sx i s.heap->(∀ v h' tk,Pv i v->Sx (i+1) h'->cM ia s.heap h'->Q v { s with heap:=h',toks:=tk })->am (av P w) A (bL (.ref ia)) Q E s
 done:∀ (A:aW) (i:Nat) (s:ag) (Q:ae->ag->Prop) (E:ae->ag->Prop),A.handled=none->n<=i->Sx i s.heap->(∀ h' e,ja ia s.heap h'->(∃ o,h'.get? e=some o/\o.cls=.type "StopIteration")->E (.ref e) { s with heap:=h' })->am (av P w) A (bL (.ref ia)) Q E s
section
variable {P:aH} {w:aP} {A:aW} {E:ae->ag->Prop} {s:ag}
theorem MZ {α:Type} {Q:α->ag->Prop} (hh:A.handled=none) (h:∀ h' e,(∀ b o,s.heap.get? b=some o->h'.get? b=some o)->(∃ o,h'.get? e=some o/\o.cls=.type "StopIteration")->E (.ref e) { s with heap:=h' }):
  am (av P w) A (newExc (.type "StopIteration") [] >>= fun e=>(raiseNew e:Sem α)) Q E s:=by
 refine aa ?_
 simp only [newExc,newTuple]
 refine aa (bt (?_) (by size_fits))
 refine aa (m:=firstArgMember _ _) (ki (a:=.none) (by first|rfl|(simp only [firstArgMember];rfl)) (bt ?_ (by size_fits)))
 simp only [raiseNew]
 refine aa (wpAny_handled ?_);rw [hh]
 refine aa (aj (wpAny_throw (h _ _ (fun b o e=>ah _ (ah _ e)) ⟨_,aE _ rfl,rfl⟩)))
theorem Yx (ia tt:af) (items:Array ae) (qS:tt≠ia):nZ P w ia [tt] items.size (fun i v=>items[i]?=some v) (fun i h=>h.IsTupleIter ia tt i/\h.IsTuple tt items) where
 stab:=by
  rintro i h h' ⟨⟨o,e,c,d⟩,⟨o2,e2,r⟩⟩ k
  exact ⟨⟨o,k ia (by simp) o e,c,d⟩,⟨o2,k tt (by simp) o2 e2,r⟩⟩
 item:=by
  rintro A i s Q E hi ⟨hit,yh⟩ hq
  obtain ⟨ob,qJ,qi,sS⟩:=id hit
  obtain ⟨ol,xw,k1,nl,wm⟩:=id yh
  have xr:items[i]?=some items[i]:=aO hi
  unfold bL
  refine aa (bF (name := "__next__") hit.typeIs fj (bJ fj hit.typeIs ji ?_ (iX _)))
  show am _ _ (field (.ref ia) 0 >>= _) _ _ s
  refine aa (be qJ sS (x:=.ref tt) rfl ?_)
  show am _ _ (if (db tt==cx)=true then _ else _) _ _ s
  rw [if_neg (by exact bQ)]
  show am _ _ (field (.ref ia) 1 >>= _) _ _ s
  refine aa (be qJ sS (x:=.int i 0) rfl ?_)
  show am _ _ (seqItems? (.ref tt) >>= _) _ _ s
  refine aa (en xw wm ?_)
  simp only [fq,xr]
  refine aa (eJ qJ sS (by simp) (aj ⟨_,rfl,aj (hq _ _ s.toks xr ⟨?_,?_⟩ (dZ ..))⟩))
  ·exact ⟨_,bA _ qJ (c9 (cA sS _)),(jz ..).trans qi,by rw [cA sS];simp [bj]⟩
  ·exact ⟨ol,(dZ ..).extBut _ _ qS xw,k1,nl,wm⟩
 done:=by
  rintro A i s Q E hh hi ⟨hit,yh⟩ hq
  obtain ⟨ob,qJ,qi,sS⟩:=id hit
  obtain ⟨ol,xw,k1,nl,wm⟩:=id yh
  have xr:items[i]?=none:=by simp [hi]
  unfold bL
  refine aa (bF (name := "__next__") hit.typeIs fj (bJ fj hit.typeIs ji ?_ (iX _)))
  show am _ _ (field (.ref ia) 0 >>= _) _ _ s
  refine aa (be qJ sS (x:=.ref tt) rfl ?_)
  show am _ _ (if (db tt==cx)=true then _ else _) _ _ s
  rw [if_neg (by exact bQ)]
  show am _ _ (field (.ref ia) 1 >>= _) _ _ s
  refine aa (be qJ sS (x:=.int i 0) rfl ?_)
  show am _ _ (seqItems? (.ref tt) >>= _) _ _ s
  refine aa (en xw wm ?_)
  simp only [fq,xr]
  refine aa (dk (aa (eJ qJ sS (by simp) ?_)))
  refine MZ (by first|exact hh|(show A.in1.handled=none;exact hh)) fun h' e k he=>hq h' e (fun b o hb z=>k b o ((dZ ..).extBut _ _ hb z)) he
theorem Xz (ia:af) (x:Str) (t:Tok):nZ P w ia [] x.cps.size (fun i v=>∃ c tk,x.cps[i]?=some c/\v=.str ⟨#[c]⟩ tk) (fun i h=>h.IsStrIter ia "str_ascii_iterator" x t i) where
 stab:=by
  rintro i h h' ⟨o,e,c,d⟩ k
  exact ⟨o,k ia (by simp) o e,c,d⟩
 item:=by
  rintro A i s Q E hi hit hq
  obtain ⟨ob,qJ,qi,sS⟩:=id hit
  have xr:x.cps[i]?=some x.cps[i]:=aO hi
  unfold bL
  refine aa (bF (name := "__next__") hit.typeIs eC (bJ eC hit.typeIs iz ?_ (im _)))
  show am _ _ (field (.ref ia) 0 >>= _) _ _ s
  refine aa (be qJ sS (x:=.str x t) rfl ?_)
  show am _ _ (field (.ref ia) 1 >>= _) _ _ s
  refine aa (be qJ sS (x:=.int i 0) rfl ?_)
  simp only [fq,xr]
  refine aa (eJ qJ sS (by simp) (aa (wpAny_mkStr (aj ⟨_,rfl,aj (hq _ _ _ ⟨_,_,xr,rfl⟩ ?_ (dZ ..))⟩) (by show 1<=sizeLine;decide))))
  exact ⟨_,bA _ qJ (c9 (cA sS _)),(jz ..).trans qi,by rw [cA sS];simp [bj]⟩
 done:=by
  rintro A i s Q E hh hi hit hq
  obtain ⟨ob,qJ,qi,sS⟩:=id hit
  have xr:x.cps[i]?=none:=by simp [hi]
  unfold bL
  refine aa (bF (name := "__next__") hit.typeIs eC (bJ eC hit.typeIs iz ?_ (im _)))
  show am _ _ (field (.ref ia) 0 >>= _) _ _ s
  refine aa (be qJ sS (x:=.str x t) rfl ?_)
  show am _ _ (field (.ref ia) 1 >>= _) _ _ s
  refine aa (be qJ sS (x:=.int i 0) rfl ?_)
  simp only [fq,xr]
  refine aa (dk (aa (eJ qJ sS (by simp) (aa (jb ?_)))))
  refine MZ (by first|exact hh|(show A.in1.handled=none;exact hh)) fun h' e k he=>hq h' e (fun b o hb z=>k b o ((dZ ..).extBut _ _ hb z)) he
theorem W9 (ia l:af) (items:Array ae) (qS:l≠ia):nZ P w ia [l] items.size (fun i v=>items[i]?=some v) (fun i h=>h.IsListIter ia l i/\h.IsList l items) where
 stab:=by
  rintro i h h' ⟨⟨o,e,c,d⟩,⟨o2,e2,r⟩⟩ k
  exact ⟨⟨o,k ia (by simp) o e,c,d⟩,⟨o2,k l (by simp) o2 e2,r⟩⟩
 item:=by
  rintro A i s Q E hi ⟨hit,hl⟩ hq
  obtain ⟨ol,xw,r⟩:=id hl
  exact wpAny_nextOf_list_item hit hl (aO hi) fun h' st sb=>hq _ h' s.toks (aO hi) ⟨st,⟨ol,sb.extBut _ _ qS xw,r⟩⟩ sb
 done:=by
  rintro A i s Q E hh hi ⟨hit,hl⟩ hq
  exact wpAny_nextOf_list_end hh hit hl (by simp [hi]) fun h' e eb he=>hq h' e eb he
end
structure Du (z ti to:af) (i1 i2:af) (rB rg:List af):Prop where
 a1:ti≠z
 a2:to≠z
 a3:ti≠to
 b1:∀ b∈i1::rB,b≠z/\b≠to
 b2:∀ b∈i2::rg,b≠z/\b≠to
 c1:i1∉i2::rg
 c2:i2∉i1::rB
 d1:ti≠i1
 d2:ti≠i2
section
variable {P:aH} {w:aP} {A:aW} {E:ae->ag->Prop} {s:ag} {z ti to i1 i2:af} {rB rg:List af} {n1 n2 k:Nat} {P1 P2:Nat->ae->Prop} {S1 S2:Nat->aT->Prop} {a b:ae}
theorem nZ.but (J:nZ P w ia fp n Pv Sx) (x:Sx i h) (e:ja c h h') (hc:∀ b∈ia::fp,b≠c):Sx i h':=J.stab i h h' x fun b hb o z=>e b o (hc b hb) z
theorem Tj {Q:ae->ag->Prop} (J1:nZ P w i1 rB n1 P1 S1) (J2:nZ P w i2 rg n2 P2 S2) (D:Du z ti to i1 i2 rB rg) (hz:fZ s.heap z ti to .none) (zc:d0 s.heap ti (.ref i1) (.ref i2)) (y0:d0 s.heap to a b) (h1:S1 k s.heap) (h2:S2 k s.heap) (l1:k<n1) (l2:k<n2)
  (hq:∀ x y h' tk,P1 k x->P2 k y->fZ h' z ti to (bj s.heap.objs.size)->d0 h' to x y->S1 (k+1) h'->S2 (k+1) h'->d0 h' s.heap.objs.size x y->
   (∀ c o,c≠z->c≠to->c≠i1->c≠i2->s.heap.get? c=some o->h'.get? c=some o)->Q (.ref s.heap.objs.size) { s with heap:=h',toks:=tk }):
  am (av P w) A (cQ.«zip.__next__» ⟨[.ref z],[]⟩) (fun f s'=>∃ v,f=.done (.ret v)/\Q v s') E s:=by
 have ne1:∀ b∈i1::rB,b≠z:=fun b hb=>(D.b1 b hb).1
 have ne2:∀ b∈i2::rg,b≠z:=fun b hb=>(D.b2 b hb).1
 have Cu:∀ b∈i1::rB,b≠to:=fun b hb=>(D.b1 b hb).2
 have Ct:∀ b∈i2::rg,b≠to:=fun b hb=>(D.b2 b hb).2
 have Ia:∀ b∈i2::rg,b≠i1:=fun b hb e=>D.c1 (e▸hb)
 have n12:∀ b∈i1::rB,b≠i2:=fun b hb e=>D.c2 (e▸hb)
 have m1:i1∈i1::rB:=aI
 have m2:i2∈i2::rg:=aI
 show am _ _ (field (.ref z) 2 >>= _) _ _ s
 refine aa (be hz rfl (x:=(.bool false)) rfl ?_)
 show am _ _ (field (.ref z) 3 >>= _) _ _ s
 refine aa (be hz rfl (x:=(.ref ti)) rfl (aa (en zc rfl ?_)))
 show am _ _ (ck (.ref z) >>= _) _ _ s
 refine aa ?_;unfold ck
 refine aa (be hz rfl (x:=(.none)) rfl (aj ?_))
 simp only [if_true];refine aa (dk (aa (be hz rfl (x:=(.ref to)) rfl ?_)))
 refine aa (bu hz (by simp) fun ha za sa=>?_)
 have za:fZ ha z ti to .ellipsis:=za
 refine aa ?_;simp only [jP,mP,gA,kC]
 refine aa (aa (ij ?_));show am _ _ (bL (.ref i1) >>= _) _ _ _
 refine aa (J1.item _ k _ _ _ l1 (J1.but h1 sa.extBut ne1) fun x hb sF px OH sb=>aj ?_)
 have Cj:d0 hb to a b:=sb.extBut _ _ (bq (Cu _ m1)) (sa.extBut _ _ D.a2 y0)
 refine aa (en Cj rfl (aa (iL Cj fun hc E9 sc=>?_)))
 have E9:d0 hc to x b:=E9
 refine aa (jb (aj (aa (aa (ij ?_)))));show am _ _ (bL (.ref i2) >>= _) _ _ _
 refine aa (J2.item _ k _ _ _ l2 (J2.but (J2.but (J2.but h2 sa.extBut ne2) sb.extBut Ia) sc.extBut Ct) fun y hd tk2 py sd2 sd=>aj ?_)
 have Oz:d0 hd to x b:=sd.extBut _ _ (bq (Ct _ m2)) E9
 refine aa (en Oz rfl (aa (iL Oz fun he E8 se=>?_)))
 have E8:d0 he to x y:=E8
 refine aa (jb (aj (aj (aa (en E8 rfl (aa (iY ?_)))))))
 have o_:he.objs.size=s.heap.objs.size:=by rw [se.1,sd.1,sc.1,sb.1,sa.1]
 have ze:fZ he z ti to .ellipsis:=se.extBut _ _ (bq D.a2) (sd.extBut _ _ (bq (ne2 _ m2)) (sc.extBut _ _ (bq D.a2) (sb.extBut _ _ (bq (ne1 _ m1)) za)))
 have ke:∀ c o,c≠z->c≠to->c≠i1->c≠i2->s.heap.get? c=some o->he.get? c=some o:=fun c o q1 q2 q3 q4 e=>se.extBut _ _ q2 (sd.extBut _ _ q4 (sc.extBut _ _ q2 (sb.extBut _ _ q3 (sa.extBut _ _ q1 e))))
 have s1e:S1 (k+1) he:=J1.but (J1.but (J1.but OH sc.extBut Cu) sd.extBut n12) se.extBut Cu
 have s2e:S2 (k+1) he:=J2.but sd2 se.extBut Ct
 have Kg:z<he.objs.size:=aG ze
 show am _ _ (dJ (.ref z) (.ref he.objs.size) >>= _) _ _ _
 refine aa ?_;unfold dJ
 have zf:fZ (he.push { cls:=.type "tuple",data:=.seq #[x,y] }) z ti to .ellipsis:=ah _ ze
 refine aa (bu zf (by simp) fun hg zg sg=>?_)
 have zg:fZ hg z ti to (bj he.objs.size):=zg
 refine bu zg (by simp) fun hi zi si=>?_
 have zi:fZ hi z ti to (bj he.objs.size):=zi
 have up:∀ c o,c≠z->he.get? c=some o->hi.get? c=some o:=fun c o q e=>si.extBut _ _ q (sg.extBut _ _ q (ah _ e))
 have pi:d0 hi he.objs.size x y:=si.extBut _ _ (dq Kg) (sg.extBut _ _ (dq Kg) (aE _ rfl))
 rw [o_] at zi pi
 refine aj ⟨_,rfl,?_⟩
 show Q (.ref he.objs.size) _
 rw [o_]
 exact hq x y hi _ px py zi (up _ _ D.a2 E8) (J1.stab _ _ _ s1e fun b hb o e=>up b o (ne1 b hb) e) (J2.stab _ _ _ s2e fun b hb o e=>up b o (ne2 b hb) e) pi fun c o q1 q2 q3 q4 e=>up c o q1 (ke c o q1 q2 q3 q4 e)
theorem Tn (hh:A.handled=none) (J1:nZ P w i1 rB n1 P1 S1) (J2:nZ P w i2 rg n2 P2 S2) (D:Du z ti to i1 i2 rB rg) (hz:fZ s.heap z ti to .none) (zc:d0 s.heap ti (.ref i1) (.ref i2)) (y0:d0 s.heap to a b) (h1:S1 k s.heap) (h2:S2 k s.heap) (su:n1<=k\/(k<n1/\n2<=k))
  (hE:∀ h' tk e,(∀ c o,c≠z->c≠to->c≠i1->c≠i2->s.heap.get? c=some o->h'.get? c=some o)->(∃ o,h'.get? e=some o/\o.cls=.type "StopIteration")->E (.ref e) { s with heap:=h',toks:=tk }):
  am (av P w) A (cQ.«zip.__next__» ⟨[.ref z],[]⟩) Q E s:=by
 have ne1:∀ b∈i1::rB,b≠z:=fun b hb=>(D.b1 b hb).1
 have ne2:∀ b∈i2::rg,b≠z:=fun b hb=>(D.b2 b hb).1
 have Cu:∀ b∈i1::rB,b≠to:=fun b hb=>(D.b1 b hb).2
 have Ct:∀ b∈i2::rg,b≠to:=fun b hb=>(D.b2 b hb).2
 have Ia:∀ b∈i2::rg,b≠i1:=fun b hb e=>D.c1 (e▸hb)
 have m1:i1∈i1::rB:=aI
 have m2:i2∈i2::rg:=aI
 show am _ _ (field (.ref z) 2 >>= _) _ _ s
 refine aa (be hz rfl (x:=(.bool false)) rfl ?_)
 show am _ _ (field (.ref z) 3 >>= _) _ _ s
 refine aa (be hz rfl (x:=(.ref ti)) rfl (aa (en zc rfl ?_)))
 show am _ _ (ck (.ref z) >>= _) _ _ s
 refine aa ?_;unfold ck
 refine aa (be hz rfl (x:=(.none)) rfl (aj ?_))
 simp only [if_true];refine aa (dk (aa (be hz rfl (x:=(.ref to)) rfl ?_)))
 refine aa (bu hz (by simp) fun ha za sa=>?_)
 have za:fZ ha z ti to .ellipsis:=za
 refine aa ?_;simp only [jP,mP,gA,kC]
 refine aa (aa (ij ?_));show am _ _ (bL (.ref i1) >>= _) _ _ _
 have far:∀ {h:aT} {e:af},fZ h z ti to .ellipsis->(∃ o,h.get? e=some o/\o.cls=.type "StopIteration")->e≠z:=fun {h e} hz ⟨o,ho,hc⟩ q=>by subst q;rw [hz] at ho;cases ho;simp at hc
 rcases su with su|⟨l1,su⟩
 ·refine aa (J1.done _ k _ _ _ hh su (J1.but h1 sa.extBut ne1) fun hb e eb he=>?_)
  have zb:fZ hb z ti to .ellipsis:=eb _ _ (bq (ne1 _ m1)) za
  have nz:=far zb he
  obtain ⟨oe,IL,Jm⟩:=he
  exact bu zb (by simp) fun hc _ sc=>hE hc _ e (fun c o q1 _ q3 _ x=>sc.extBut _ _ q1 (eb _ _ q3 (sa.extBut _ _ q1 x))) ⟨oe,sc.extBut _ _ nz IL,Jm⟩
 ·refine aa (J1.item _ k _ _ _ l1 (J1.but h1 sa.extBut ne1) fun x hb sF px OH sb=>aj ?_)
  have Cj:d0 hb to a b:=sb.extBut _ _ (bq (Cu _ m1)) (sa.extBut _ _ D.a2 y0)
  refine aa (en Cj rfl (aa (iL Cj fun hc E9 sc=>?_)))
  refine aa (jb (aj (aa (aa (ij ?_)))));show am _ _ (bL (.ref i2) >>= _) _ _ _
  refine aa (J2.done _ k _ _ _ hh su (J2.but (J2.but (J2.but h2 sa.extBut ne2) sb.extBut Ia) sc.extBut Ct) fun hd e eb he=>?_)
  have zd:fZ hd z ti to .ellipsis:=eb _ _ (bq (ne2 _ m2)) (sc.extBut _ _ (bq D.a2) (sb.extBut _ _ (bq (ne1 _ m1)) za))
  have nz:=far zd he
  obtain ⟨oe,IL,Jm⟩:=he
  exact bu zd (by simp) fun hf _ sf=>hE hf _ e (fun c o q1 q2 q3 q4 x=>sf.extBut _ _ q1 (eb _ _ q4 (sc.extBut _ _ q2 (sb.extBut _ _ q3 (sa.extBut _ _ q1 x))))) ⟨oe,sf.extBut _ _ nz IL,Jm⟩
theorem U0 {Q:Option ae->ag->Prop} (J1:nZ P w i1 rB n1 P1 S1) (J2:nZ P w i2 rg n2 P2 S2) (D:Du z ti to i1 i2 rB rg) (hz:fZ s.heap z ti to .none) (zc:d0 s.heap ti (.ref i1) (.ref i2)) (y0:d0 s.heap to a b) (h1:S1 k s.heap) (h2:S2 k s.heap) (l1:k<n1) (l2:k<n2)
  (hq:∀ x y h' tk,P1 k x->P2 k y->fZ h' z ti to (bj s.heap.objs.size)->d0 h' to x y->S1 (k+1) h'->S2 (k+1) h'->d0 h' s.heap.objs.size x y->
   (∀ c o,c≠z->c≠to->c≠i1->c≠i2->s.heap.get? c=some o->h'.get? c=some o)->Q (some (.ref s.heap.objs.size)) { s with heap:=h',toks:=tk }):am (av P w) A (pyNext (.ref z)) Q E s:=by
 have ht:s.TypeIs (.ref z) "zip":=⟨_,hz,rfl⟩
 unfold pyNext
 exact aa (fh (bF (name := "__next__") ht iM (bJ iM ht mD (Tj J1 J2 D hz zc y0 h1 h2 l1 l2 fun x y h' tk q1 q2 q3 q4 q5 q6 q7 q8=>aj (hq x y h' tk q1 q2 q3 q4 q5 q6 q7 q8)) (mh _))))
theorem TM (hh:A.handled=none) (J1:nZ P w i1 rB n1 P1 S1) (J2:nZ P w i2 rg n2 P2 S2) (D:Du z ti to i1 i2 rB rg) (hz:fZ s.heap z ti to .none) (zc:d0 s.heap ti (.ref i1) (.ref i2)) (y0:d0 s.heap to a b) (h1:S1 k s.heap) (h2:S2 k s.heap) (su:n1<=k\/(k<n1/\n2<=k))
  (hq:∀ h' tk,(∀ c o,c≠z->c≠to->c≠i1->c≠i2->s.heap.get? c=some o->h'.get? c=some o)->Q none { s with heap:=h',toks:=tk }):am (av P w) A (pyNext (.ref z)) Q E s:=by
 have ht:s.TypeIs (.ref z) "zip":=⟨_,hz,rfl⟩
 unfold pyNext
 refine aa (fh (bF (name := "__next__") ht iM (bJ iM ht mD (Tn hh J1 J2 D hz zc y0 h1 h2 su fun h' tk e hk he=>?_) (mh _))))
 obtain ⟨oe,ho,hc⟩:=he
 exact aa (io (T := "StopIteration") (b:=true) ⟨oe,ho,hc⟩ kG (aj (hq _ tk hk)))
end
inductive ZK where
 | tup (t:af) (items:Array ae)
 | str (x:Str) (t:Tok)
 | lst (l:af) (items:Array ae)
def ZK.val:ZK->ae
 | .tup t _=>.ref t
 | .str x t=>.str x t
 | .lst l _=>.ref l
noncomputable def ZK.obj:ZK->Obj
 | .tup t _=>{ cls:=.type "tuple_iterator",data:=.fields #[.ref t,.int 0 0] }
 | .str x t=>{ cls:=.type "str_ascii_iterator",data:=.fields #[.str x t,.int 0 0] }
 | .lst l _=>{ cls:=.type "list_iterator",data:=.fields #[.ref l,.int 0 0] }
noncomputable def ZK.pre (h:aT):ZK->Prop
 | .tup t items=>h.IsTuple t items
 | .str x _=>x.cps.all (· < 128)=true
 | .lst l items=>h.IsList l items
theorem ZK.keep (k:∀ b o,h.get? b=some o->h'.get? b=some o):∀ (q:ZK),q.pre h->q.pre h'
 | .tup t items,⟨o,e,r⟩=>⟨o,k _ _ e,r⟩
 | .str x t,e=>e
 | .lst l items,⟨o,e,r⟩=>⟨o,k _ _ e,r⟩
theorem ZK.iter (q:ZK) (h:q.pre s.heap) (hq:Q (.ref s.heap.objs.size) { s with heap:=s.heap.push q.obj }):am (av P w) A (pyIter q.val) Q E s:=by
 cases q with
 | tup t items=>exact lN h hq
 | str x t=>exact wpAny_pyIter_ascii h hq
 | lst l items=>exact gZ h hq
noncomputable abbrev zH (h:aT) (a b:ZK):aT:=(((((h.push a.obj).push b.obj).push { cls:=.type "tuple",data:=.seq #[.ref h.objs.size,.ref (h.push a.obj).objs.size] }).push { cls:=.type "tuple",data:=.seq #[.none,.none] }).push
 { cls:=.type "zip",data:=.fields #[.none,.bool false,.bool false,.ref ((h.push a.obj).push b.obj).objs.size,.ref (((h.push a.obj).push b.obj).push { cls:=.type "tuple",data:=.seq #[.ref h.objs.size,.ref (h.push a.obj).objs.size] }).objs.size] })
noncomputable abbrev zA (h:aT) (a b:ZK):af:=((((h.push a.obj).push b.obj).push { cls:=.type "tuple",data:=.seq #[.ref h.objs.size,.ref (h.push a.obj).objs.size] }).push { cls:=.type "tuple",data:=.seq #[.none,.none] }).objs.size
theorem Uz (a b:ZK) (va vb:ae) (ea:a.val=va) (eb:b.val=vb):Meets (cQ.«zip.__new__» ⟨[.type "zip",va,vb],[]⟩) (fun _ R s=>a.pre s.heap/\b.pre s.heap/\R (.ok (.ret (.ref (zA s.heap a b)))) { s with heap:=zH s.heap a b }):=
 .of_wp fun P w A R s h=>by
  obtain ⟨hp,g,d,tk,os⟩:=s;obtain ⟨h1,h2,h⟩:=h
  have rJ:=sub_zip
  have i1:∀ {E:ae->ag->Prop} {Q:ae->ag->Prop},Q (.ref hp.objs.size) ⟨hp.push a.obj,g,d,tk,os⟩->am (av P w) A.in1 (pyIter va) Q E ⟨hp,g,d,tk,os⟩:=fun {E Q} hq=>by rw [<- ea];exact a.iter (s:=⟨hp,g,d,tk,os⟩) h1 hq
  have h2':b.pre (hp.push a.obj):=b.keep (fun c o e=>ah _ e) h2
  have i2:∀ {E:ae->ag->Prop} {Q:ae->ag->Prop},Q (.ref (hp.push a.obj).objs.size) ⟨(hp.push a.obj).push b.obj,g,d,tk,os⟩->am (av P w) A.in1 (pyIter vb) Q E ⟨hp.push a.obj,g,d,tk,os⟩:=fun {E Q} hq=>by rw [<- eb];exact b.iter (s:=⟨hp.push a.obj,g,d,tk,os⟩) h2' hq
  wp_walk using i1,i2
  exact ⟨_,rfl,h⟩
section
variable {P:aH} {w:aP} {A:aW} {E:ae->ag->Prop} {s:ag}
theorem Ye (a b:ZK) (ha:a.pre s.heap) (hb:b.pre s.heap)
  (h:∀ h',fZ h' (s.heap.objs.size+4) (s.heap.objs.size+2) (s.heap.objs.size+3) .none->d0 h' (s.heap.objs.size+2) (.ref s.heap.objs.size) (.ref (s.heap.objs.size+1))->d0 h' (s.heap.objs.size+3) .none .none->
   h'.get? s.heap.objs.size=some a.obj->h'.get? (s.heap.objs.size+1)=some b.obj->(∀ c o,s.heap.get? c=some o->h'.get? c=some o)->Q (.ref (s.heap.objs.size+4)) { s with heap:=h' }):
  am (av P w) A (call (.type "zip") [a.val,b.val]) Q E s:=by
 refine callType_new F.called_zip (by decide) (F.typeCall_zip_2 _ _) (F.newCall_zip_2 _ _) (fun obj=>F.args_object_init_3 obj _ _) F.entry_zip_new (Uz a b _ _ rfl rfl) ⟨ha,hb,?_⟩
 have fa:a.obj.isFreed=false:=by cases a<;>rfl
 have fb:b.obj.isFreed=false:=by cases b<;>rfl
 have e1:(s.heap.push a.obj).objs.size=s.heap.objs.size+1:=bZ ..
 have e2:((s.heap.push a.obj).push b.obj).objs.size=s.heap.objs.size+2:=by rw [bZ,e1]
 have e3:(((s.heap.push a.obj).push b.obj).push { cls:=.type "tuple",data:=.seq #[.ref s.heap.objs.size,.ref (s.heap.push a.obj).objs.size] }).objs.size=s.heap.objs.size+3:=by rw [bZ,e2]
 have e4:zA s.heap a b=s.heap.objs.size+4:=by show Array.size _=_;rw [bZ,e3]
 have g5:(zH s.heap a b).get? (zA s.heap a b)=some _:=aE _ rfl
 have g4:(zH s.heap a b).get? (((s.heap.push a.obj).push b.obj).push { cls:=.type "tuple",data:=.seq #[.ref s.heap.objs.size,.ref (s.heap.push a.obj).objs.size] }).objs.size=some _:=ah _ (aE _ rfl)
 have g3:(zH s.heap a b).get? ((s.heap.push a.obj).push b.obj).objs.size=some _:=ah _ (ah _ (aE _ rfl))
 have g2:(zH s.heap a b).get? (s.heap.push a.obj).objs.size=some _:=ah _ (ah _ (ah _ (aE _ fb)))
 have g1:(zH s.heap a b).get? s.heap.objs.size=some _:=ah _ (ah _ (ah _ (ah _ (aE _ fa))))
 show _/\_
 rw [e2,e3,e4] at g5
 rw [e3] at g4
 rw [e1,e2] at g3
 rw [e1] at g2
 rw [e4]
 exact ⟨⟨_,g5,rfl⟩,h _ g5 g3 g4 g1 g2 fun c o x=>ah _ (ah _ (ah _ (ah _ (ah _ x))))⟩
end
def oz (X:Cx) (H:Hp) (h:aT) (b:af):Prop:=H b≠none \/ ∃ o,X.base.get? b=some o
theorem oz.far {X:Cx} {pins:List (af×Obj)} {σ:St} {H:Hp} {s:ag} {b q:af} (I:L2.Inv X pins σ H s) (x:oz X H s.heap b) (f:tu X pins H q):b≠q:=by
 rintro rfl
 rcases x with x|⟨o,e⟩
 ·exact x f.1
 ·rcases f.2.2.2.1 with z|z
  ·exact I.ok.noex b o e z
  ·exact absurd (aV (aG e) I.ok.bsz) (jG.mpr z)
structure yA (P:aH) (w:aP) (K:ai) (J:It) (ia:af) (S:Nat->aT->Prop):Prop where
 obj:∀ i h,S i h->∃ o,h.get? ia=some o/\∀ v,o.data ≠ .cell v
 keep:∀ i h h',S i h->(∀ o,h.get? ia=some o->h'.get? ia=some o)->S i h'
 got:∀ (X:Cx),X.prog=P->X.w=w->X.K=K->∀ (i:Nat) (pins:List (af×Obj)) (s:ag) (σ:St) (H:Hp),L2.Inv X pins σ H s->tu X pins H ia->S i s.heap->(J.go i H\/J.stop i H)->
  ∃ fp n Pv Sx,nZ P w ia fp n Pv Sx/\Sx i s.heap/\(∀ j h,Sx j h->S j h)/\(J.go i H->i<n)/\(J.stop i H->n<=i)/\(∀ v,Pv i v->∃ x,RelV x v/\J.yld i H x H)/\∀ b∈fp,oz X H s.heap b
section
variable {P:aH} {w:aP} {K:ai}
theorem Lb {X:Cx} {pins:List (af×Obj)} {σ:St} {H:Hp} {s:ag} {a:af} {xs:List V} (I:L2.Inv X pins σ H s) (h:qu X.K H a xs):oz X H s.heap a:=by
 rcases h with h|⟨o,f_,n,hk,_⟩
 ·exact .inl (by rcases h with h|⟨_,h⟩<;>(rw [h];simp))
 ·exact .inr ⟨o,I.ok.mod.kin a o hk⟩
theorem Lq {X:Cx} {pins:List (af×Obj)} {σ:St} {H:Hp} {s:ag} {a:af} {xs:List V} (I:L2.Inv X pins σ H s) (h:pV X.K H a xs):oz X H s.heap a:=by
 rcases h with h|⟨o,f_,n,hk,_⟩
 ·exact .inl (by rcases h with h|⟨_,h⟩<;>(rw [h];simp))
 ·exact .inr ⟨o,I.ok.mod.kin a o hk⟩
theorem Hq {xs:List V} {f_:List ae} {i:Nat} {v:ae} (r:nK xs f_) (e:f_[i]?=some v):∃ x,xs[i]?=some x/\RelV x v:=by
 have hl:=r.length
 have hi:i<xs.length:=by have:=(al.mp e).1;omega
 obtain ⟨u,g1,g2⟩:=r.get (au hi)
 rw [e] at g1;cases g1
 exact ⟨_,au hi,g2⟩
theorem SF (a ia:af):yA P w K (JK K a) ia (fun i h=>h.IsTupleIter ia a i) where
 obj:=fun i h ⟨o,e,c,d⟩=>⟨o,e,fun v z=>by rw [d] at z;cases z⟩
 keep:=fun i h h' ⟨o,e,c,d⟩ k=>⟨o,k o e,c,d⟩
 got:=by
  intro X hP hw hK i pins s σ H I hf st hg
  subst hP hw hK
  have hs:∃ xs,qu X.K H a xs:=by
   rcases hg with ⟨xs,x,h,_⟩|⟨xs,h,_⟩<;>exact ⟨xs,h⟩
  obtain ⟨xs,hq⟩:=hs
  obtain ⟨f_,rv,p,hz⟩:=I.tuple hq
  have hl:=rv.length
  refine ⟨[a],_,_,_,Yx ia a f_.toArray ((Lb I hq).far I hf),⟨st,p⟩,fun j h z=>z.1,fun ⟨ys,y,h1,h2⟩=>?_,fun ⟨ys,h1,h2⟩=>?_,fun v hv=>?_,fun b hb=>?_⟩
  ·have e:=I.tuple_inj h1 hq;subst e
   have:=(al.mp h2).1
   simp;omega
  ·have e:=I.tuple_inj h1 hq;subst e
   simp;omega
  ·have IE:f_[i]?=some v:=by simpa using hv
   obtain ⟨x,e1,r1⟩:=Hq rv IE
   exact ⟨x,r1,rfl,fun ys hy=>by rw [I.tuple_inj hy hq];exact e1⟩
  ·have:b=a:=by simpa using hb
   subst this;exact Lb I hq
theorem KR (a ia:af):yA P w K (FO K a) ia (fun i h=>h.IsListIter ia a i) where
 obj:=fun i h ⟨o,e,c,d⟩=>⟨o,e,fun v z=>by rw [d] at z;cases z⟩
 keep:=fun i h h' ⟨o,e,c,d⟩ k=>⟨o,k o e,c,d⟩
 got:=by
  intro X hP hw hK i pins s σ H I hf st hg
  subst hP hw hK
  have hs:∃ xs,pV X.K H a xs:=by
   rcases hg with ⟨xs,x,h,_⟩|⟨xs,h,_⟩<;>exact ⟨xs,h⟩
  obtain ⟨xs,hq⟩:=hs
  obtain ⟨f_,rv,p,hz⟩:=I.list hq
  have hl:=rv.length
  refine ⟨[a],_,_,_,W9 ia a f_.toArray ((Lq I hq).far I hf),⟨st,p.isList⟩,fun j h z=>z.1,fun ⟨ys,y,h1,h2⟩=>?_,fun ⟨ys,h1,h2⟩=>?_,fun v hv=>?_,fun b hb=>?_⟩
  ·have e:=I.list_inj h1 hq;subst e
   have:=(al.mp h2).1
   simp;omega
  ·have e:=I.list_inj h1 hq;subst e
   simp;omega
  ·have IE:f_[i]?=some v:=by simpa using hv
   obtain ⟨x,e1,r1⟩:=Hq rv IE
   exact ⟨x,r1,rfl,fun ys hy=>by rw [I.list_inj hy hq];exact e1⟩
  ·have:b=a:=by simpa using hb
   subst this;exact Lq I hq
theorem in_str (x:Str) (t:Tok) (ia:af):yA P w K (FL x) ia (fun i h=>h.IsStrIter ia "str_ascii_iterator" x t i) where
 obj:=fun i h ⟨o,e,c,d⟩=>⟨o,e,fun v z=>by rw [d] at z;cases z⟩
 keep:=fun i h h' ⟨o,e,c,d⟩ k=>⟨o,k o e,c,d⟩
 got:=by
  intro X hP hw hK i pins s σ H I hf st hg
  subst hP hw hK
  refine ⟨[],_,_,_,Xz ia x t,st,fun j h z=>z,fun z=>z,fun z=>z,fun v ⟨c,tk,e,hv⟩=>?_,fun b hb=>by cases hb⟩
  subst hv
  exact ⟨.str ⟨#[c]⟩,⟨_,rfl⟩,rfl,c,e,rfl⟩
end
noncomputable def P8 (J1 J2:It):It:=
 ⟨fun i H=>J1.go i H/\J2.go i H,fun i H v H'=>∃ p x y,H p=none/\v=.ref p/\J1.yld i H x H/\J2.yld i H y H/\H'=upd H p (.tup [x,y]),fun i H=>J1.stop i H/\(J2.go i H\/J2.stop i H)\/J1.go i H/\J2.stop i H⟩
noncomputable def QE (z t o i j:af) (S1 S2:Nat->aT->Prop) (n:Nat) (h:aT):Prop:=fZ h z t o .none/\d0 h t (.ref i) (.ref j)/\(∃ a b,d0 h o a b)/\S1 n h/\S2 n h
theorem XU (z t o i j:af) (ap:[z,t,o,i,j].Nodup) (N1:yA P w K J1 i S1) (N2:yA P w K J2 j S2):vS P w K (.Tuple es kt pt) (P8 J1 J2) [z,t,o,i,j] z (QE z t o i j S1 S2):=by
 simp only [cj,aw,aR,or_false,not_or,kH,and_true] at ap
 obtain ⟨⟨a1,a2,a3,a4⟩,⟨b1,b2,b3⟩,⟨c1,c2⟩,d1,_⟩:=ap
 have Mx:∀ {X:Cx} {pins:List (af×Obj)} {s:ag} {σ:St} {H:Hp} {rB rg:List af},L2.Inv X pins σ H s->(∀ b∈[z,t,o,i,j],tu X pins H b)->(∀ b∈rB,oz X H s.heap b)->(∀ b∈rg,oz X H s.heap b)->Du z t o i j rB rg:=fun {X pins s σ H rB rg} I hf h1 h2=>
  ⟨bq a1,bq a2,b1,fun b hb=>(aw.mp hb).elim (fun e=>by rw [e];exact ⟨bq a3,bq c1⟩) fun hb=>⟨(h1 b hb).far I (hf z (by simp)),(h1 b hb).far I (hf o (by simp))⟩,
   fun b hb=>(aw.mp hb).elim (fun e=>by rw [e];exact ⟨bq a4,bq c2⟩) fun hb=>⟨(h2 b hb).far I (hf z (by simp)),(h2 b hb).far I (hf o (by simp))⟩,
   fun hb=>(aw.mp hb).elim d1 fun hb=>(h2 i hb).far I (hf i (by simp)) rfl,fun hb=>(aw.mp hb).elim (bq d1) fun hb=>(h1 j hb).far I (hf j (by simp)) rfl,b2,b3⟩
 refine ⟨by simp,fun n h st b hb=>?_,fun n h h' st k=>?_,?_,?_,fun A n s Q E st q=>wpAny_pyIter_zip st.1 q⟩
 ·obtain ⟨hz,ht,⟨a,b',ho⟩,hi,hj⟩:=st
  simp only [aw,aR,or_false] at hb
  rcases hb with rfl|rfl|rfl|rfl|rfl
  ·exact ⟨_,hz,fun v e=>by cases e⟩
  ·exact ⟨_,ht,fun v e=>by cases e⟩
  ·exact ⟨_,ho,fun v e=>by cases e⟩
  ·exact N1.obj n h hi
  ·exact N2.obj n h hj
 ·obtain ⟨hz,ht,⟨a,b',ho⟩,hi,hj⟩:=st
  exact ⟨k z (by simp) _ hz,k t (by simp) _ ht,⟨a,b',k o (by simp) _ ho⟩,N1.keep n h h' hi (k i (by simp)),N2.keep n h h' hj (k j (by simp))⟩
 ·intro X hP hw hK hc n pins s σ H E I hf st hg
  obtain ⟨g1,g2⟩:=hg
  obtain ⟨hz,ht,⟨a,b,ho⟩,hi,hj⟩:=st
  obtain ⟨rB,n1,P1,T1,Z1,s1,u1,A3,pQ,y1,f1⟩:=N1.got X hP hw hK n pins s σ H I (hf i (by simp)) hi (.inl g1)
  obtain ⟨rg,n2,P2,T2,Z2,s2,u2,PL,pB,y2,f2⟩:=N2.got X hP hw hK n pins s σ H I (hf j (by simp)) hj (.inl g2)
  have D:=Mx I hf f1 f2
  subst hP hw hK
  refine wT I (U0 Z1 Z2 D hz ht ho s1 s2 (A3 g1) (PL g2) fun x y h' tk px py q1 q2 q3 q4 q5 hk pM=>⟨_,rfl,?_⟩)
  obtain ⟨vx,rx,yx⟩:=y1 x px
  obtain ⟨vy,ry,yy⟩:=y2 y py
  refine wpAny_letOwnedTupleGo_zip q1 fun u_ e1 e2=>?_
  have nb:∀ q∈[z,t,o,i,j],s.heap.objs.size≠q:=fun q hq e=>by
   have:∃ ob,s.heap.get? q=some ob:=by
    simp only [aw,aR,or_false] at hq
    rcases hq with rfl|rfl|rfl|rfl|rfl
    ·exact ⟨_,hz⟩
    ·exact ⟨_,ht⟩
    ·exact ⟨_,ho⟩
    ·obtain ⟨ob,g,_⟩:=N1.obj n _ hi;exact ⟨_,g⟩
    ·obtain ⟨ob,g,_⟩:=N2.obj n _ hj;exact ⟨_,g⟩
   obtain ⟨ob,g⟩:=this
   exact absurd (aG g) (by rw [e];exact bP _)
  have keep:∀ c ob,c∉[z,t,o,i,j]->s.heap.get? c=some ob->u_.get? c=some ob:=fun c ob hc e=>by
   simp only [aw,aR,or_false,not_or] at hc
   exact e2.extBut _ _ hc.1 (hk c ob hc.1 hc.2.2.1 hc.2.2.2.1 hc.2.2.2.2 e)
  have I1:L2.Inv X pins σ H { s with heap:=u_,toks:=tk }:=Inv.turns [z,t,o,i,j] I keep hf
  have wb:u_.get? s.heap.objs.size=some { cls:=.type "tuple",data:=.seq #[x,y] }:=e2.extBut _ _ (nb z (by simp)) q5
  have fr:H s.heap.objs.size=none:=I.hok.fresh (ay _)
  have I2:L2.Inv X pins σ (upd H s.heap.objs.size (.tup [vx,vy])) { s with heap:=u_,toks:=tk }:=by
   have un:Un (ql X.stack) [z,t,o,i,j] H (upd H s.heap.objs.size (.tup [vx,vy])) s.heap u_:=by
    refine ⟨fun c ob e _ _ hc=>keep c ob hc e,fun c ob e _ _ hc=>⟨ob.slots,keep c ob hc e⟩,fun c ob e hn _=>?_,fun c ob e hc=>⟨ob,keep c ob hc e⟩,fun c zs e=>?_,fun c ob u e=>?_,fun c ps e=>⟨#[],?_⟩⟩
    ·rw [o7 (bi (aG e))];exact hn
    ·rw [o7 (qU e fr)];exact e
    ·rw [o7 (qU e fr)];exact e
    ·rw [o7 (qU e fr),e];simp
   have hok:HOk X.prog X.w (upd H s.heap.objs.size (.tup [vx,vy])) u_:=by
    intro c u' e
    by_cases hc:c=s.heap.objs.size
    ·subst hc
     rw [qR] at e;cases e
     exact ⟨by show 2<=sizeLine;decide,[x,y],.cons rx (.cons ry .nil),⟨_,wb,rfl,⟨_,rfl⟩,rfl⟩⟩
    ·rw [o7 hc] at e
     refine (I1.hok c u' e).stay (fun _ _ _ q=>q) (fun p q=>?_) fun p zs q=>?_
     ·by_cases hp:p=s.heap.objs.size
      ·subst hp;rw [fr] at q;cases q
      ·rw [o7 hp];exact q
     ·by_cases hp:p=s.heap.objs.size
      ·subst hp;rw [fr] at q;cases q
      ·rw [o7 hp];exact q
   exact I.call (t':=tk) (d':=s.drawn) un hok I.bare fun b hb=>let ⟨_,f1,_,f3,f4,f5⟩:=hf b hb;⟨f3,f1,f4,f5⟩
  refine ⟨.ref s.heap.objs.size,_,I2,rfl,⟨_,vx,vy,fr,rfl,yx,yy,rfl⟩,⟨e1,?_,⟨_,_,e2.extBut _ _ D.a2 q2⟩,?_,?_⟩,fun b hb=>?_⟩
  ·exact e2.extBut _ _ D.a1 (hk _ _ D.a1 D.a3 D.d1 D.d2 ht)
  ·exact u1 _ _ (Z1.but q3 e2.extBut fun b hb=>(D.b1 b hb).1)
  ·exact u2 _ _ (Z2.but q4 e2.extBut fun b hb=>(D.b2 b hb).1)
  ·rw [o7 (bq (nb b hb))];exact (hf b hb).1
 ·intro X hP hw hK hc n pins s σ H E I hf st hg
  obtain ⟨hz,ht,⟨a,b,ho⟩,hi,hj⟩:=st
  have k1:J1.go n H\/J1.stop n H:=hg.elim (fun z=>.inr z.1) fun z=>.inl z.1
  have k2:J2.go n H\/J2.stop n H:=hg.elim (fun z=>z.2) fun z=>.inr z.2
  obtain ⟨rB,n1,P1,T1,Z1,s1,u1,A3,pQ,y1,f1⟩:=N1.got X hP hw hK n pins s σ H I (hf i (by simp)) hi k1
  obtain ⟨rg,n2,P2,T2,Z2,s2,u2,PL,pB,y2,f2⟩:=N2.got X hP hw hK n pins s σ H I (hf j (by simp)) hj k2
  have D:=Mx I hf f1 f2
  subst hP hw hK
  refine wT I (TM (I.ok.hd hc) Z1 Z2 D hz ht ho s1 s2 (hg.elim (fun q=>.inl (pQ q.1)) fun q=>.inr ⟨A3 q.1,pB q.2⟩) fun h' tk hk pM=>⟨rfl,?_⟩)
  refine Inv.turns (t':=tk) [z,t,o,i,j] I (fun c ob hc e=>?_) hf
  simp only [aw,aR,or_false,not_or] at hc
  exact hk c ob hc.1 hc.2.2.1 hc.2.2.2.1 hc.2.2.2.2 e
noncomputable def xI:D->Option Src
 | .lst ds=>some (.val ds)
 | .own k=>some (.own k)
 | .tup ds=>some (.val ds)
 | .str cs=>if cs.all (· < 128)=true then some (.val (cs.map fun c=>.str [c])) else none
 | _=>none
noncomputable def Bk (t:DA):DI:=fun σ O=>(t σ O).bnd fun xs O1=>match xs with
 | [x,y]=>match xI x,xI y with
  | some p,some q=>.ok (.zip p q) O1
  | _,_=>.bad
 | _=>.bad
theorem nQ.zipW (h1:nQ K J1 s1 H hid μ) (h2:nQ K J2 s2 H hid μ):nQ K (P8 J1 J2) (.zip s1 s2) H hid μ:=by
 intro oR H' g_ O' m c i
 have q1:=h1 oR H' g_ O' m c i
 have q2:=h2 oR H' g_ O' m c i
 show match (match s1.get O' i,s2.get O' i with|some x,some y=>some (D.tup [x,y])|_,_=>none) with|some d=>_|none=>_
 cases e1:s1.get O' i with
 | none=>
  rw [e1] at q1
  refine .inl ⟨q1,?_⟩
  cases e2:s2.get O' i with
  | none=>rw [e2] at q2;exact .inr q2
  | some d=>rw [e2] at q2;exact .inl q2.1
 | some d1=>
  rw [e1] at q1
  cases e2:s2.get O' i with
  | none=>rw [e2] at q2;exact .inr ⟨q1.1,q2⟩
  | some d2=>
   rw [e2] at q2
   refine ⟨⟨q1.1,q2.1⟩,fun v tO yl=>?_⟩
   obtain ⟨p,x,y,hp,rfl,y1,y2,rfl⟩:=yl
   exact ⟨.laid hp,c.laid hp,Dat.newT c hp (.cons (q1.2 x H' y1).2.2 (.cons (q2.2 y H' y2).2.2 .nil))⟩
section
variable {X:Cx} {Ex:Nat->Hp->Prop} {pos:Pos} {a b c e:aQ} {pins:List (af×Obj)} {d_:St} {H:Hp} {s:ag} {hid μ:List af} {O:Ow}
theorem F6 (I:L2.Inv X pins d_ H s) (c:nI X.K H hid μ O) (h:Dat X.K H hid μ d v) (r:RelV v u) (e:xI d=some src):
  ∃ (k:ZK) (J:It),k.val=u/\k.pre s.heap/\nQ X.K J src H hid μ/\∀ ia,∃ S,yA X.prog X.w X.K J ia S/\∀ h:aT,h.get? ia=some k.obj->S 0 h:=by
 cases d with
 | lst ds=>
  unfold Dat at h
  obtain ⟨q,vs,rfl,l,dd⟩:=h
  cases e;cases r
  obtain ⟨f_,_,p,_⟩:=I.list l.sq
  exact ⟨.lst q f_.toArray,_,rfl,p.isList,.val l dd,fun ia=>⟨_,KR q ia,fun h z=>⟨_,z,rfl,rfl⟩⟩⟩
 | own k=>
  unfold Dat at h
  obtain ⟨q,rfl,hk⟩:=h
  cases e;cases r
  obtain ⟨ds,vs,h1,h2,h3⟩:=c.at_ k q hk
  obtain ⟨f_,_,p,_⟩:=I.list (a:=q) (xs:=vs) (.of h2)
  exact ⟨.lst q f_.toArray,_,rfl,p.isList,.own hk,fun ia=>⟨_,KR q ia,fun h z=>⟨_,z,rfl,rfl⟩⟩⟩
 | tup ds=>
  unfold Dat at h
  obtain ⟨q,vs,rfl,l,dd⟩:=h
  cases e;cases r
  obtain ⟨f_,_,p,_⟩:=I.tuple l.sq
  exact ⟨.tup q f_.toArray,_,rfl,p,.tup l dd,fun ia=>⟨_,SF q ia,fun h z=>⟨_,z,rfl,rfl⟩⟩⟩
 | str cs=>
  unfold Dat at h
  subst h
  obtain ⟨t,rfl⟩:=r
  have e':(if cs.all (· < 128)=true then some (Src.val (cs.map fun c=>D.str [c])) else none)=some src:=e
  by_cases ha:cs.all (· < 128)=true
  ·rw [if_pos ha] at e'
   cases e'
   refine ⟨.str ⟨cs.toArray⟩ t,_,rfl,?_,.str,fun ia=>⟨_,in_str _ t ia,fun h z=>⟨_,z,rfl,rfl⟩⟩⟩
   show cs.toArray.all (· < 128)=true
   simpa using ha
  ·rw [if_neg ha] at e';cases e'
 | _=>cases e
theorem WK (hg:Gl X "zip") (hm:X.mg "zip" = none) (ha:rZ X Ex [a,b] t) (hs:aD [a,b] X.env=[(false,eval a X.env),(false,eval b X.env)]:=by rfl) (u0:aD [b] X.env=[(false,eval b X.env)]:=by rfl):
  uk X Ex (.Tuple es' kt pt) (.Call (.Name "zip" p) [a,b] [] pos) (Bk t):=by
 refine ⟨?_⟩
 rintro pins s d_ H Rr I ⟨hid,μ,σ,O,e1,c1,q⟩
 refine kM (zZ I hg hm Xb (eR (oV (ha.out pos pins s d_ H _ I (sY.go e1 c1 q (Q1:=fun vs H1=>∃ hid h_ O1 ds,nI X.K H1 hid h_ O1/\nJ X.K H1 hid h_ ds vs/\
   post Ex X.K (fun H' g_ s J=>nQ X.K J s H' hid g_) H1 hid h_ (match ds with|[x,y]=>(match xI x,xI y with|some p,some q=>.ok (.zip p q) O1|_,_=>.bad)|_=>.bad) Rr)
  fun ds O1 vs H1 h_ e2 x cl d p=>⟨hid,h_,O1,ds,cl,d,p⟩)) fun us s1 ⟨vs,H1,I1,r1,hid,h_,O1,ds,cl,d,p⟩=>?_) (by rw [hs,u0]) (by rw [u0];rfl)))
 split at p
 ·rename_i x y
  split at p
  ·rename_i sp sq e1 e2
   obtain ⟨v,w,rfl,dx,dy⟩:=Bl d
   obtain ⟨u1,u2,rfl,HV,ru2⟩:=yE r1
   obtain ⟨k1,J1,v1,p1,t1,i1⟩:=F6 I1 cl dx HV e1
   obtain ⟨k2,J2,v2,p2,t2,i2⟩:=F6 I1 cl dy ru2 e2
   rw [<- v1,<- v2]
   refine Ye k1 k2 p1 p2 fun h' g5 g3 g4 g1 g2 hk=>?_
   refine wpAny_pyIter_zip g5 ?_
   have I2:L2.Inv X pins d_ H1 { s1 with heap:=h',toks:=s1.toks }:=I1.kept hk
   obtain ⟨S1,N1,z1⟩:=i1 s1.heap.objs.size
   obtain ⟨S2,N2,z2⟩:=i2 (s1.heap.objs.size+1)
   refine ⟨s1.heap.objs.size+4,[s1.heap.objs.size+4,s1.heap.objs.size+2,s1.heap.objs.size+3,s1.heap.objs.size,s1.heap.objs.size+1],_,_,H1,rfl,I2,XU _ _ _ _ _ ?_ N1 N2,⟨g5,g3,⟨_,_,g4⟩,z1 _ g1,z2 _ g2⟩,fun b hb=>?_,post.here p cl (.zipW t1 t2)⟩
   ·have nn:∀ (n:af),[n+4,n+2,n+3,n,n+1].Nodup:=fun n=>by
     simp only [cj,aw,aR,or_false,not_or,kH,and_true]
     refine ⟨⟨?_,?_,?_,?_⟩,⟨?_,?_,?_⟩,⟨?_,?_⟩,?_,not_false⟩<;>simp [af] at * <;> omega
    exact nn _
   ·have wu:s1.heap.objs.size<=b:=by
     simp only [aw,aR,or_false] at hb
     rcases hb with rfl|rfl|rfl|rfl|rfl<;>omega
    exact I1.fpOk (H':=H1) wu (I1.hok.fresh wu)
  ·exact ak p
 ·exact ak p
end
end DL
namespace DL
open PySem L2
open AutoSeq1 (wpAny_loadPart')
section
variable {P:aH} {w:aP} {A:aW} {E:ae->ag->Prop} {s:ag}
variable {ea ia:af} {fp:List af} {n k:Nat} {Pv:Nat->ae->Prop} {Sx:Nat->aT->Prop} {old:ae}
theorem Wl (J:nZ P w ia fp n Pv Sx) (he:gK s.heap ea ia (k:Nat) old) (hx:Sx k s.heap) (hk:k<n) (ne:∀ b∈ia::fp,b≠ea)
  (hq:∀ x h' tk ti,Pv k x->IsEnumOut h' ea ia ((k:Int)+1) x s.heap.objs.size->Sx (k+1) h'->h'.get? s.heap.objs.size=some { cls:=.type "tuple",data:=.seq #[.int (k:Nat) ti,x] }->(∀ b o,b≠ea->b≠ia->s.heap.get? b=some o->h'.get? b=some o)->Q (some (.ref s.heap.objs.size)) { s with heap:=h',toks:=tk }):
  am (av P w) A (pyNext (.ref ea)) Q E s:=by
 have ht:s.TypeIs (.ref ea) "enumerate":=⟨_,he,rfl⟩
 have nia:ea≠ia:=bq (ne ia aI)
 unfold pyNext
 refine aa (fh (bF (name := "__next__") ht e9 (bJ e9 ht kl ?_ (jW _))))
 obtain ⟨hp,g,d,tk,os⟩:=s
 show am _ _ (field (.ref ea) 2 >>= _) _ _ _
 refine aa (be he rfl (x:=.ref ia) rfl (aa (J.item _ k _ _ _ hk hx fun x h1 sF px sx1 s1=>?_)))
 have s1:cM ia hp h1:=s1
 have e1:gK h1 ea ia (k:Nat) old:=(s1.2 ea nia).trans he
 show am _ _ (field (.ref ea) 3 >>= _) _ _ ⟨h1,g,d,sF,os⟩
 refine aa (be e1 rfl (x:=bj (k:Nat)) rfl ?_)
 show am _ _ (field (.ref ea) 4 >>= _) _ _ ⟨h1,g,d,sF,os⟩
 refine aa (be e1 rfl (x:=(.none)) rfl ?_)
 show am _ _ (mkInt (k:Nat) >>= _) _ _ ⟨h1,g,d,sF,os⟩
 refine aa (wpAny_mkInt ?_)
 show am _ _ (setField (.ref ea) 3 (bj ((k:Int)+1)) >>= _) _ _ ⟨h1,g,d,sF+1,os⟩
 refine aa (bu e1 (by simp) fun h2 e2 s2=>?_)
 have s2:cM ea h1 h2:=s2
 have e2:gK h2 ea ia ((k:Int)+1) old:=e2
 show am _ _ (setField (.ref ea) 4 .none >>= _) _ _ ⟨h2,g,d,sF+1,os⟩
 refine aa (bu e2 (by simp) fun h3 e3 s3=>?_)
 have s3:cM ea h2 h3:=s3
 have e3:gK h3 ea ia ((k:Int)+1) old:=e3
 show am _ _ (newTuple [.int (k:Nat) sF,x] >>= _) _ _ ⟨h3,g,d,sF+1,os⟩
 refine aa (iY ?_)
 have e4:gK (h3.push { cls:=.type "tuple",data:=.seq #[.int (k:Nat) sF,x] }) ea ia ((k:Int)+1) old:=ah _ e3
 have o_:h3.objs.size=hp.objs.size:=by rw [s3.1,s2.1,s1.1]
 have rb:ea<hp.objs.size:=aG he
 have t4:(h3.push { cls:=.type "tuple",data:=.seq #[.int (k:Nat) sF,x] }).get? hp.objs.size=some { cls:=.type "tuple",data:=.seq #[.int (k:Nat) sF,x] }:=by rw [<- o_];exact aE _ rfl
 have k4:∀ b o,b≠ea->b≠ia->hp.get? b=some o->(h3.push { cls:=.type "tuple",data:=.seq #[.int (k:Nat) sF,x] }).get? b=some o:=fun b o q1 q2 z=>ah _ (s3.extBut b o q1 (s2.extBut b o q1 (s1.extBut b o q2 z)))
 have x4:Sx (k+1) (h3.push { cls:=.type "tuple",data:=.seq #[.int (k:Nat) sF,x] }):=J.stab _ _ _ (J.but (J.but sx1 s2.extBut ne) s3.extBut ne) fun b _ o z=>ah _ z
 generalize h3.push { cls:=.type "tuple",data:=.seq #[.int (k:Nat) sF,x] } = h4 at e4 t4 k4 x4
 show am _ _ (ck (.ref ea) >>= _) _ _ ⟨h4,g,d,sF+1,os⟩
 rw [o_]
 refine aa ?_;unfold ck
 refine aa (be e4 rfl (x:=(.none)) rfl (aj ?_))
 simp only [if_true];refine aa (dk (aa (be e4 rfl (x:=old) rfl (aa (bu e4 (by simp) fun h5 e5 s5=>?_)))))
 have s5:cM ea h4 h5:=s5
 have e5:gK h5 ea ia ((k:Int)+1) x:=e5
 show am _ _ (dJ (.ref ea) (.ref hp.objs.size) >>= _) _ _ ⟨h5,g,d,sF+1,os⟩
 refine aa ?_;unfold dJ
 refine aa (bu e5 (by simp) fun h6 e6 s6=>?_)
 have s6:cM ea h5 h6:=s6
 have e6:IsEnumOut h6 ea ia ((k:Int)+1) x hp.objs.size:=e6
 refine bu e6 (by simp) fun h7 e7 s7=>?_
 have s7:cM ea h6 h7:=s7
 have e7:IsEnumOut h7 ea ia ((k:Int)+1) x hp.objs.size:=e7
 refine aa (jb (aj ⟨_,rfl,aj (hq x h7 _ sF px e7 (J.but (J.but (J.but x4 s5.extBut ne) s6.extBut ne) s7.extBut ne) ?_ fun b o q1 q2 z=>s7.extBut b o q1 (s6.extBut b o q1 (s5.extBut b o q1 (k4 b o q1 q2 z))))⟩))
 exact s7.extBut _ _ (dq rb) (s6.extBut _ _ (dq rb) (s5.extBut _ _ (dq rb) t4))
theorem VS (hh:A.handled=none) (J:nZ P w ia fp n Pv Sx) (he:gK s.heap ea ia (k:Nat) old) (hx:Sx k s.heap) (hk:n<=k) (hq:∀ h',ja ia s.heap h'->Q none { s with heap:=h' }):am (av P w) A (pyNext (.ref ea)) Q E s:=by
 have ht:s.TypeIs (.ref ea) "enumerate":=⟨_,he,rfl⟩
 unfold pyNext
 refine aa (fh (bF (name := "__next__") ht e9 (bJ e9 ht kl ?_ (jW _))))
 show am _ _ (field (.ref ea) 2 >>= _) _ _ _
 refine aa (be he rfl (x:=.ref ia) rfl (aa (J.done _ k _ _ _ hh hk hx fun h' e eb hs=>?_)))
 obtain ⟨oe,ho,hc⟩:=hs
 exact aa (io (T := "StopIteration") (b:=true) ⟨oe,ho,hc⟩ kG (aj (hq _ eb)))
end
end DL
namespace DL
open PySem L2
noncomputable def P9 (J:It):It:=⟨J.go,fun i H v H'=>∃ p x,H p=none/\v=.ref p/\J.yld i H x H/\H'=upd H p (.tup [.int (i:Nat),x]),J.stop⟩
noncomputable def Qw (ea ia:af) (S:Nat->aT->Prop) (n:Nat) (h:aT):Prop:=(∃ old,gK h ea ia (n:Nat) old)/\S n h
theorem X9 (ea ia:af) (ap:ea≠ia) (N:yA P w K J ia S) (CN:∀ (A:aW) (n:Nat) (s:ag) (Q E:ae->ag->Prop),(∃ old,gK s.heap ea ia (n:Nat) old)->Q (.ref ea) s->am (av P w) A (pyIter (.ref ea)) Q E s):vS P w K (.Tuple es kt pt) (P9 J) [ea,ia] ea (Qw ea ia S):=by
 refine ⟨by simp,fun n h st b hb=>?_,fun n h h' st k=>?_,?_,?_,fun A n s Q E st q=>CN A n s Q E st.1 q⟩
 ·obtain ⟨⟨old,he⟩,hi⟩:=st
  simp only [aw,aR,or_false] at hb
  rcases hb with rfl|rfl
  ·exact ⟨_,he,fun v e=>by cases e⟩
  ·exact N.obj n h hi
 ·obtain ⟨⟨old,he⟩,hi⟩:=st
  exact ⟨⟨old,k ea (by simp) _ he⟩,N.keep n h h' hi (k ia (by simp))⟩
 ·intro X hP hw hK hc n pins s σ H E I hf st hg
  have hg:J.go n H:=hg
  obtain ⟨⟨old,he⟩,hi⟩:=st
  obtain ⟨fp,m,Pv,T,Z,s1,u1,A3,pQ,y1,f1⟩:=N.got X hP hw hK n pins s σ H I (hf ia (by simp)) hi (.inl hg)
  subst hP hw hK
  have ne:∀ b∈ia::fp,b≠ea:=fun b hb=>(aw.mp hb).elim (fun e=>by rw [e];exact bq ap) fun hb=>(f1 b hb).far I (hf ea (by simp))
  refine wT I (Wl Z he s1 (A3 hg) ne fun x h' tk OA px q1 q2 q3 hk pM=>⟨_,rfl,?_⟩)
  obtain ⟨vx,rx,yx⟩:=y1 x px
  refine wpAny_letOwnedTupleGo_enum q1 fun u_ e1 e2=>?_
  have nb:∀ q∈[ea,ia],s.heap.objs.size≠q:=fun q hq e=>by
   have:∃ ob,s.heap.get? q=some ob:=by
    simp only [aw,aR,or_false] at hq
    rcases hq with rfl|rfl
    ·exact ⟨_,he⟩
    ·obtain ⟨ob,g,_⟩:=N.obj n _ hi;exact ⟨_,g⟩
   obtain ⟨ob,g⟩:=this
   exact absurd (aG g) (by rw [e];exact bP _)
  have keep:∀ c ob,c∉[ea,ia]->s.heap.get? c=some ob->u_.get? c=some ob:=fun c ob hc e=>by
   simp only [aw,aR,or_false,not_or] at hc
   exact e2.extBut _ _ hc.1 (hk c ob hc.1 hc.2 e)
  have I1:L2.Inv X pins σ H { s with heap:=u_,toks:=tk }:=Inv.turns [ea,ia] I keep hf
  have wb:u_.get? s.heap.objs.size=some { cls:=.type "tuple",data:=.seq #[.int (n:Nat) OA,x] }:=e2.extBut _ _ (nb ea (by simp)) q3
  have fr:H s.heap.objs.size=none:=I.hok.fresh (ay _)
  have I2:L2.Inv X pins σ (upd H s.heap.objs.size (.tup [.int (n:Nat),vx])) { s with heap:=u_,toks:=tk }:=by
   have un:Un (ql X.stack) [ea,ia] H (upd H s.heap.objs.size (.tup [.int (n:Nat),vx])) s.heap u_:=by
    refine ⟨fun c ob e _ _ hc=>keep c ob hc e,fun c ob e _ _ hc=>⟨ob.slots,keep c ob hc e⟩,fun c ob e hn _=>?_,fun c ob e hc=>⟨ob,keep c ob hc e⟩,fun c zs e=>?_,fun c ob u e=>?_,fun c ps e=>⟨#[],?_⟩⟩
    ·rw [o7 (bi (aG e))];exact hn
    ·rw [o7 (qU e fr)];exact e
    ·rw [o7 (qU e fr)];exact e
    ·rw [o7 (qU e fr),e];simp
   have hok:HOk X.prog X.w (upd H s.heap.objs.size (.tup [.int (n:Nat),vx])) u_:=by
    intro c u' e
    by_cases hc:c=s.heap.objs.size
    ·subst hc
     rw [qR] at e;cases e
     exact ⟨by show 2<=sizeLine;decide,[.int (n:Nat) OA,x],.cons ⟨_,rfl⟩ (.cons rx .nil),⟨_,wb,rfl,⟨_,rfl⟩,rfl⟩⟩
    ·rw [o7 hc] at e
     refine (I1.hok c u' e).stay (fun _ _ _ q=>q) (fun p q=>?_) fun p zs q=>?_
     ·by_cases hp:p=s.heap.objs.size
      ·subst hp;rw [fr] at q;cases q
      ·rw [o7 hp];exact q
     ·by_cases hp:p=s.heap.objs.size
      ·subst hp;rw [fr] at q;cases q
      ·rw [o7 hp];exact q
   exact I.call (t':=tk) (d':=s.drawn) un hok I.bare fun b hb=>let ⟨_,f1,_,f3,f4,f5⟩:=hf b hb;⟨f3,f1,f4,f5⟩
  refine ⟨.ref s.heap.objs.size,_,I2,rfl,⟨_,vx,fr,rfl,yx,rfl⟩,⟨⟨_,by exact_mod_cast e1⟩,?_⟩,fun b hb=>?_⟩
  ·exact u1 _ _ (Z.but q2 e2.extBut ne)
  ·rw [o7 (bq (nb b hb))];exact (hf b hb).1
 ·intro X hP hw hK hc n pins s σ H E I hf st hg
  have hg:J.stop n H:=hg
  obtain ⟨⟨old,he⟩,hi⟩:=st
  obtain ⟨fp,m,Pv,T,Z,s1,u1,A3,pQ,y1,f1⟩:=N.got X hP hw hK n pins s σ H I (hf ia (by simp)) hi (.inr hg)
  subst hP hw hK
  refine VS (I.ok.hd hc) Z he s1 (pQ hg) fun h' eb=>⟨rfl,?_⟩
  refine Inv.turns (t':=s.toks) [ea,ia] I (fun c ob hc e=>?_) hf
  simp only [aw,aR,or_false,not_or] at hc
  exact eb c ob hc.2 e
def wz (ds:List D):List D:=ds.zipIdx.map fun q=>.tup [.int (q.2:Nat),q.1]
theorem Nt (ds:List D) (i:Nat):(wz ds)[i]?=(ds[i]?).map fun d=>D.tup [.int (i:Nat),d]:=by
 unfold wz
 rw [bh,List.getElem?_zipIdx]
 cases ds[i]?<;>simp
theorem nQ.enum (h1:nQ K J (.val ds) H hid μ):nQ K (P9 J) (.val (wz ds)) H hid μ:=by
 intro oR H' g_ O' m c i
 have q1:match ds[i]? with|some d=>J.go i H'/\∀ x tO,J.yld i H' x tO->Ext H' g_ tO g_/\nI K tO oR g_ O'/\Dat K tO oR g_ d x|none=>J.stop i H':=h1 oR H' g_ O' m c i
 show match (wz ds)[i]? with|some d=>_|none=>_
 rw [Nt]
 cases e1:ds[i]? with
 | none=>rw [e1] at q1;exact q1
 | some d1=>
  rw [e1] at q1
  refine ⟨q1.1,fun v tO yl=>?_⟩
  obtain ⟨p,x,hp,rfl,y1,rfl⟩:=yl
  exact ⟨.laid hp,c.laid hp,Dat.newT c hp (.cons q9 (.cons (q1.2 x H' y1).2.2 .nil))⟩
section
variable {s:ag}
theorem YA:a9 "enumerate" = some (.type "enumerate"):=by boot_by_name
theorem Nb (ea ia:af) (A:aW) (n:Nat) (s:ag) (Q E:ae->ag->Prop) (h:∃ old,gK s.heap ea ia (n:Nat) old) (q:Q (.ref ea) s):am (av P w) A (pyIter (.ref ea)) Q E s:=by
 obtain ⟨old,h⟩:=h
 have ht:s.TypeIs (.ref ea) "enumerate":=⟨_,h,rfl⟩
 refine jA ht kI (bJ kI ht F.entry_enumerate_iter ?_ (F.args_enumerate_iter_1 _))
 show am _ _ (ret (.ref ea)) _ _ s
 exact aj ⟨_,rfl, "enumerate",_,ht,e9.lookup,q⟩
end
end DL
namespace DL
open PySem L2
open PyProof.Rows hiding St
section
variable {X:Cx} {Ex:Nat->Hp->Prop} {pos:Pos} {a b c e:aQ} {ta tb te:DE} {pins:List (af×Obj)} {d_:L2.St} {H:Hp} {s:ag} {hid μ:List af} {O:Ow}
noncomputable def Kl (K:ai):R2:=fun x y H Q=>∃ a b ys,x=.ref a/\y=.ref b/\qu K H a []/\qu K H b ys/\Q (.ref b) H
theorem Ti:pH X (dj .Add) (Kl X.K):=by
 intro pins s σ H x y v u Q I rx ry h
 obtain ⟨p,q,ys,rfl,rfl,ha,hb,hq⟩:=h
 cases rx;cases ry
 obtain ⟨f_,r1,⟨⟨c1,d1,dt1,l1⟩,g1,k1,n1,e1⟩,_⟩:=I.tuple ha
 obtain ⟨qW,r2,⟨⟨c2,d2,dt2,l2⟩,g2,k2,n2,e2⟩,_⟩:=I.tuple hb
 have hz:f_=[]:=by cases r1;rfl
 subst hz
 have k1:c1=.type "tuple":=k1
 have k2:c2=.type "tuple":=k2
 have e1:dt1=.seq #[] n1:=e1
 have e2:dt2=.seq qW.toArray n2:=e2
 subst k1;subst k2;subst e1;subst e2
 exact jf ⟨_,g1,rfl⟩ ⟨_,g2,rfl⟩ jM k8 hG gR (gE _ _) (PyProof.Rows.tuple_addW0 p q #[] qW.toArray n1 n2 d1 d2 l1 l2 rfl) ⟨g1,g2,⟨.ref q,H,I,rfl,hq⟩⟩
noncomputable def rT:Ow->D->D->R D:=fun O x y=>match x,y with
 | .tup [],.tup ys=>.ok (.tup ys) O
 | x,y=>qB O x y
theorem V4:qK X Ex (fun x y H Q=>Kl X.K x y H Q\/Ga X.K x y H Q) rT:=by
 intro H hid μ O x y v w Q c dx dy q
 unfold rT at q
 split at q
 ·rename_i ys
  have dy':=dy
  unfold Dat at dx dy
  obtain ⟨p,vs,rfl,l,d1⟩:=dx
  obtain ⟨p2,xg,rfl,l2,d2⟩:=dy
  unfold nJ at d1;subst d1
  exact .inl ⟨p,p2,xg,rfl,rfl,l.sq,l2.sq,post.here q c dy'⟩
 ·exact .inr (LJ H hid μ O _ _ v w Q c dx dy q)
theorem UO (ha:PD X Ex a ta) (hb:PD X Ex b tb):PD X Ex (.BinOp a .Add b pos) (e_ rT ta tb):=uO (pH.or Ti LY) V4 ha hb
noncomputable def Kf (K:ai):V->Option Int->Option Int->Hp->VK->Prop:=fun x lo hi H Q=>∃ a xs,x=.ref a/\qu K H a xs/\(HT.sIx xs.length 0 lo=0/\HT.sIx xs.length xs.length hi=xs.length)/\Q (.ref a) H
theorem ZQ {P:aH} {w:aP} {A:aW} {E:ae->ag->Prop} {s:ag} {t sl:af} {items:Array ae} {vl vu:ae} {lo hi:Option Int} {Q:ae->ag->Prop} (ht:IsTup s.heap t items) (hs:s.heap.IsSliceOf sl vl vu .none) (pl:f9 vl lo) (pu:f9 vu hi)
  (hw:HT.sIx items.size 0 lo=0/\HT.sIx items.size items.size hi=items.size) (h:Q (.ref t) s):am (av P w) A (getItem (.ref t) (.ref sl)) Q E s:=by
 obtain ⟨ob,qJ,FC,qX⟩:=id hs
 have Dh:s.TypeIs (.ref sl) "slice":=⟨ob,qJ,FC⟩
 unfold getItem
 try with_reducible refine cb ?_
 first|refine aa (aj ?_)|skip
 refine aa (jy ht.typeIs (by decide) (aa (bF (name := "__getitem__") ht.typeIs bz (bJ bz ht.typeIs iQ ?_ (jg _ _)))))
 show am _ _ (gh (.ref t) >>= _) _ _ s
 refine aa (k9 ht (aa (gF Dh ?_)))
 rw [if_pos (by decide)]
 refine aa (HT.sliceApplied_gen hs pl pu ?_)
 have Iy:(((HT.sIx items.size 0 lo:Nat):Int)==0&&(1:Int)==1&&(HT.sIx items.size items.size hi-HT.sIx items.size 0 lo)==items.size)=true:=by
  rw [hw.1,hw.2];simp
 show am _ _ (if (((HT.sIx items.size 0 lo:Nat):Int)==0&&(1:Int)==1&&(HT.sIx items.size items.size hi-HT.sIx items.size 0 lo)==items.size)=true then _ else _) _ _ s
 rw [if_pos Iy]
 refine aa (m:=jr (.ref t)) ?_
 unfold jr
 refine aa (gF ht.typeIs (aj ?_))
 rw [if_pos (by decide)]
 exact aa (dk (aj ⟨_,rfl,aj h⟩))
theorem WM:vJ X (Kf X.K):=by
 intro pins s σ H x v vl vu lo hi sl Q I rx hs pl pu h
 obtain ⟨p,xs,rfl,hx,hw,q⟩:=h
 cases rx
 obtain ⟨f_,r,ht,hz⟩:=I.tuple hx
 have hlen:f_.toArray.size=xs.length:=by rw [az];exact r.length.symm
 exact ⟨"tuple",_,bz.lookup,ht.typeIs,ZQ ht hs pl pu (by rw [hlen];exact hw) ⟨.ref p,H,I,rfl,q⟩⟩
noncomputable def JV (O:Ow) (x:D) (lo hi:Option Int):R D:=match x with
 | .tup ds=>if HT.sIx ds.length 0 lo=0/\HT.sIx ds.length ds.length hi=ds.length then .ok (.tup ds) O else .ok (.tup (uu ds lo hi)) O
 | x=>fSl O x lo hi
noncomputable def sV (te:DE) (tl th:DO):DE:=fun σ O=>(te σ O).bnd fun x O1=>(tl σ O1).bnd fun lo O2=>(th σ O2).bnd fun hi O3=>JV O3 x lo hi
theorem S4 {lo hi:Option aQ} {tl th:DO} {p2:Pos} (he:PD X Ex e te) (hl:yo X Ex lo tl) (hu:yo X Ex hi th):PD X Ex (.Subscript e (.Slice lo hi none p2) pos) (sV te tl th):=
 qz (V3 (r:=fun x lo hi H Q=>Kf X.K x lo hi H Q\/Qp X.K x lo hi H Q) (vJ.or WM (vJ.or Sn (vJ.or SM T8))) he.out hl.out hu.out) fun hid μ σ O d_ H Q e1 c1 q=>rd.go e1 c1 q fun d O1 v H1 h_ e2 x cl r p=>AN.go e2 cl p fun l O2 H2 pd e3 x3 c3 p3=>AN.go e3 c3 p3 fun u O3 H3 vM e4 x4 c4 p4=>by
  have r':=(r.ext x3).ext x4
  cases d with
  | tup ds=>
   have rr:=r'
   unfold Dat at r'
   obtain ⟨pa,vs,rfl,la,q1⟩:=r'
   have uX:p9 Ex X.K H3 hid vM (if HT.sIx ds.length 0 l=0/\HT.sIx ds.length ds.length u=ds.length then .ok (.tup ds) O3 else .ok (.tup (uu ds l u)) O3) Q:=p4
   split at uX
   ·rename_i hw
    exact .inl ⟨pa,vs,rfl,la.sq,by rw [<- q1.length];exact hw,post.here uX c4 rr⟩
   ·rename_i hw
    exact .inr (.inr (.inl ⟨pa,vs,rfl,la.sq,by rw [<- q1.length];exact hw,fun l' rA=>post.ok uX (.laid rA) (c4.laid rA) (Dat.newT c4 rA (G8 q1 l u))⟩))
  | str i=>
   unfold Dat at r';subst r'
   have uX:p9 Ex X.K H3 hid vM (if i.length<=100000 then .ok (.str (m7 ⟨i.toArray⟩ l u).cps.toList) O3 else .bad) Q:=p4
   obtain ⟨Fu,uX⟩:=post.ite uX
   refine .inr (.inl ⟨_,rfl,?_,post.here uX c4 ?_⟩)
   ·show i.toArray.size<=_
    rw [az];exact wG Fu
   ·unfold Dat;rw [Es]
  | lst ds=>
   have uX:p9 Ex X.K H3 hid vM (.ok (.lst (uu ds l u)) O3) Q:=p4
   obtain ⟨pa,vs,rfl,sq,q1⟩:=uP c4 r' (show qI O3 (.lst ds)=some ds from rfl)
   exact .inr (.inr (.inr ⟨pa,vs,rfl,sq,fun l' rA=>post.ok uX (.laid rA) (c4.laid rA) (Dat.newL c4 rA (G8 q1 l u))⟩))
  | own k=>
   have uX:p9 Ex X.K H3 hid vM (match O3[k]? with|some ds=>.ok (.lst (uu ds l u)) O3|none=>.bad) Q:=p4
   split at uX
   ·rename_i ds A4
    obtain ⟨pa,vs,rfl,sq,q1⟩:=uP c4 r' (show qI O3 (.own k)=some ds from A4)
    exact .inr (.inr (.inr ⟨pa,vs,rfl,sq,fun l' rA=>post.ok uX (.laid rA) (c4.laid rA) (Dat.newL c4 rA (G8 q1 l u))⟩))
   ·exact ak uX
  | _=>exact ak p4
end
end DL
namespace DL
open PySem L2
section
variable {X:Cx} {Ex:Nat->Hp->Prop}
noncomputable def A8:Ow->D->D->R D:=fun O x y=>match x,y with
 | .int i,.int j=>.ok (.bl (decide (i<j))) O
 | .str p,.str q=>.ok (.bl (decide (p<q))) O
 | _,_=>.bad
theorem SO:pH X (cw .Lt) (fun x y H Q=>(∃ i j,x=.str i/\y=.str j/\Q (.bl (decide (i.cps.toList<j.cps.toList))) H)\/sZ (fun i j=>.bl (decide (i<j))) x y H Q):=pH.or XF Gc
theorem Ug:qK X Ex (fun x y H Q=>(∃ i j,x=.str i/\y=.str j/\Q (.bl (decide (i.cps.toList<j.cps.toList))) H)\/sZ (fun i j=>.bl (decide (i<j))) x y H Q) A8:=by
 intro H hid μ O x y v w Q c dx dy q
 unfold A8 at q
 split at q
 ·rename_i i j
  exact .inr (Gw H hid μ O (.int i) (.int j) v w Q c dx dy q)
 ·unfold Dat at dx dy;subst dx;subst dy
  exact .inl ⟨_,_,rfl,rfl,post.here q c sW⟩
 ·exact ak q
end
section
structure zmV (mg:Str->Option ae) (x:Str) (i:Int):Prop where
 ex:∃ t,mg x=some (.int i t)
end
end DL
namespace DL
open PySem L2 PySem.Spec PyProof.Rows
section
theorem WY (r:nK xs us):nK xs.reverse us.reverse:=by
 induction r with
 | nil=>exact .nil
 | cons r t ih=>
  rw [gY,gY]
  exact nK.append ih (.cons r .nil)
end
end DL
namespace DL
open PySem L2 PySem.Spec PyProof.Rows
open Sem (wp)
theorem Ou:fillsNumberSlot (.type "tuple") "mul" = pure false:=
 PySem.fillsNumberSlot_seq (id := "tuple.__mul__") (r:=some (.builtin "tuple.__rmul__")) fX.lookup (by decide +kernel) jX.lookup (by decide +kernel)
theorem N6:seqRepeat? (.type "tuple")=pure (some (.builtin "tuple.__mul__")):=by
 unfold seqRepeat?
 rw [mE (T := "tuple") (name := "__mul__") (id := "tuple.__mul__") fX.lookup (by decide +kernel),mE (T := "tuple") (name := "__rmul__") (id := "tuple.__rmul__") jX.lookup (by decide +kernel)]
 rfl
theorem N9 (a:Int) (t:Tok) (l:af) (items:Array ae) (n:Nat) (dd:Option af) (sl):
  Meets (cQ.«int.__rmul__» ⟨[.int a t,.ref l],[]⟩) (fun _ R s=>s.heap.get? l=some { cls:=.type "tuple",dict:=dd,data:=.seq items n,slots:=sl }/\R (.ok (.ret kW)) s):=
 .of_wp fun prog w A R s h=>by obtain ⟨hp,g,d,tk,os⟩:=s;obtain ⟨hl,h⟩:=h;wp_walk;exact ⟨_,rfl,h⟩
end DL
namespace DL
open PySem L2 PySem.Spec PyProof.Rows
end DL
namespace DL
open PySem
theorem TX:a9 "set" = some (.type "set"):=by boot_by_name
end DL
namespace DL
open PySem L2
open AutoSeq1 (wpAny_loadPart')
section
variable {X:Cx} {Ex:Nat->Hp->Prop} {b e o:aQ} {to:DE}
noncomputable def DQ:Int->Int->Option D:=fun i j=>if 0<=j then some (.int (i/2 ^ j.toNat)) else none
def A9:Int->Int->Option D:=gI kw
def xJ:Int->Int->Option D:=gI kz
theorem T7:qK X Ex (rI (fun _ j=>0<=j) fun i j=>.int (i/2 ^ j.toNat)) (fI DQ):=Al fun i j d h=>by
 unfold DQ at h
 split at h
 ·rename_i hc;cases h;exact ⟨hc,fun _ _ _ _=>q9⟩
 ·cases h
theorem Tr:qK X Ex (sZ fun i j=>.int (kw i j)) (fI A9):=An fun i j d h _ _ _ _=>by cases h;exact q9
theorem UN:qK X Ex (sZ fun i j=>.int (kz i j)) (fI xJ):=An fun i j d h _ _ _ _=>by cases h;exact q9
theorem XN (l:af) (xs:Array ae) (n:Nat) (b:af) (ys:Array ae) (m:Nat) (sl:Array (Option ae)) (hc0:¬(!xs.isEmpty&&dH (xs.size+ys.size))=true) (Jo:xs.size<=sizeLine) (u0:xs.size+ys.size<=sizeLine+1):
  Meets (cQ.«list.extend» ⟨[.ref l,.ref b],[]⟩) (fun _ R s=>s.heap.get? l=some { cls:=.type "list",data:=.seq xs n }/\s.heap.get? b=some { cls:=.type "list",data:=.seq ys m,slots:=sl }/\R (.ok (.ret .none)) { s with heap:=s.heap.update l (dN fun x=>x++ys) }):=
 .of_wp fun prog w A R s h=>by
  obtain ⟨hp,g,d,tk,os⟩:=s
  obtain ⟨gl,gb,h⟩:=h
  have f1:=AutoSeq1.sub_tuple_tuple
  have f2:=AutoSeq1.sub_list_list
  have f3:=AutoSeq1.sub_tuple_list
  have f4:=AutoSeq1.sub_list_tuple
  have hz:(xs++ys).size<=sizeLine+1:=by rw [f6];exact u0
  wp_walk using (j7 gl rfl (hz:=Jo) (_hz':=hz)),wpAny_loadPart' gl,wpAny_loadPart' gb
  exact ⟨_,rfl,h⟩
noncomputable def Qs (K:ai):V->List V->Hp->VK->Prop:=fun x vs H Q=>∃ l b xs zs,x=.ref l/\vs=[.ref b]/\H l=some (.lst xs)/\pV K H b zs/\xs.length+zs.length<=sizeLine/\Q .non (upd H l (.lst (xs++zs)))
theorem S_:JJ X "list.extend" (Qs X.K):=by
 intro pins s σ H x vs v us Q I rx rv h
 obtain ⟨l,b,xs,zs,rfl,rfl,hH,hB,hz,q⟩:=h
 cases rx
 obtain ⟨u,rfl,ru⟩:=rv.one
 cases ru
 obtain ⟨z,f_,n,r,hl,e⟩:=I.lstM hH
 obtain ⟨qW,r2,⟨ob,n2,e2,wN,hd2,u0⟩,_⟩:=I.list hB
 obtain ⟨cc,dct,dt,sl⟩:=ob
 have wN:cc=.type "list":=wN
 have hd2:dct=none:=hd2
 have u0:dt=.seq qW.toArray n2:=u0
 subst wN;subst hd2;subst u0
 have hl2:=r2.length
 have o_:f_.toArray.size+qW.toArray.size<=sizeLine:=by rw [az,az];omega
 have C1:¬ (!f_.toArray.isEmpty&&dH (f_.toArray.size+qW.toArray.size))=true:=by
  rw [WL o_,Bool.and_false]
  exact bQ
 refine fQ kJ ⟨_,e,rfl⟩ F.entry_list_extend (F.args_list_extend_2 _ _)
  (XN l f_.toArray n b qW.toArray n2 sl C1 (by rw [az];omega) (by omega)) ⟨e,e2,?_⟩
 refine ⟨.non,_,I.lset (its':=f_++qW) hH e (by simp) (r.append r2) ?_,rfl,q⟩
 rw [ar]
 omega
noncomputable def yr (to:DE) (t:DA):DE:=fun σ O=>(to σ O).bnd fun x O1=>match x with
 | .own k=>(t σ O1).bnd fun ys O2=>match ys,O2[k]? with
  | [y],some ds=>match qI O2 y with
   | some es=>if ds.length+es.length<=100000 then .ok .non (O2.set k (ds++es)) else .bad
   | none=>.bad
  | _,_=>.bad
 | _=>.bad
theorem XB (ho:PD X Ex o to) (ha:rZ X Ex (e::es) t) (oW:attributeBase o "extend" X.env (eval o X.env)=eval o X.env:=by rfl)
  (qO:((backTo oP (aD (e::es) X.env)).all (fun x=>!x.1)&&(backToKw oP (keywordEach [] X.env)).all (fun x=>x.1.isSome)&&decide ((e::es).length+([]:List fF).length+(if ([]:List fF).isEmpty then 0 else 1)<30))=true:=by rfl)
  (qx:(apos.endLine==oP.line)=true:=by rfl) (hs:aD (e::es) X.env=(false,eval e X.env)::aD es X.env:=by rfl) (qk:(backTo oP (aD es X.env)).any (·.1)=false:=by rfl):
  PD X Ex (.Call (.Attribute o "extend" apos) (e::es) [] oP) (yr to t):=
 qz (D0 gT kJ PySem.F.type_list_extend S_ ho.out ha.out oW qO qx hs qk) fun hid μ σ O d_ H Q e1 c1 q=>rd.go e1 c1 q fun d O1 v H1 h_ e2 x cl r p=>by
  cases d with
  | own k=>
   have hr:=r
   unfold Dat at r
   obtain ⟨A,rfl,hk⟩:=r
   obtain ⟨ds,vs,h1,h2,h3⟩:=cl.at_ k A hk
   refine ⟨.inl ⟨rfl,vs,.of h2⟩,sY.go e2 cl p fun ys O2 ws H2 pd e3 x3 c3 d3 p3=>?_⟩
   split at p3
   ·rename_i y es' tJ
    split at p3
    ·rename_i zs hz
     obtain ⟨hl,p3⟩:=post.ite p3
     obtain ⟨w,rfl,dw⟩:=tx d3
     have qN:pd[k]?=some A:=by
      have:=hr.ext x3
      unfold Dat at this
      obtain ⟨A',e',uh⟩:=this
      cases e';exact uh
     obtain ⟨JG,xg,g1,g2,g3⟩:=c3.at_ k A qN
     rw [tJ] at g1;cases g1
     obtain ⟨pb,vz,rfl,sq,dz⟩:=uP c3 dw hz
     refine ⟨A,pb,xg,vz,rfl,rfl,g2,sq,aU (by rw [<- g3.length,<- dz.length];exact hl) (by decide),?_⟩
     exact post.ok p3 (.put (aC qN) ⟨_,g2⟩) (c3.put qN (g3.append dz)) Ah
    ·exact ak p3
   ·exact ak p3
  | _=>exact ak p
end
set_option maxHeartbeats 1000000 in
theorem XG (q:ZK) (va:ae) (ea:q.val=va):
  Meets (cQ.«enumerate.__new__» ⟨[.type "enumerate",va],[]⟩) (fun _ R s=>q.pre s.heap/\
   R (.ok (.ret (.ref (s.heap.push q.obj).objs.size))) { s with heap:=(s.heap.push q.obj).push { cls:=.type "enumerate",data:=.fields #[.none,.bool false,.ref s.heap.objs.size,bj 0,.none,.none] } }):=
 .of_wp fun P w A R s h=>by
  obtain ⟨hp,g,d,tk,os⟩:=s;obtain ⟨h1,h⟩:=h
  have rJ:=sub_enumerate
  have i1:∀ {A:aW} {E:ae->ag->Prop} {Q:ae->ag->Prop},Q (.ref hp.objs.size) ⟨hp.push q.obj,g,d,tk,os⟩->am (av P w) A (pyIter va) Q E ⟨hp,g,d,tk,os⟩:=fun {A E Q} hq=>by rw [<- ea];exact q.iter (s:=⟨hp,g,d,tk,os⟩) h1 hq
  wp_walk
  refine wpAny_stack_any fun st=>aj (?_)
  split
  ·rename_i cc _ _ _ _ _
   cases (cc==jC "enumerate")
   ·wp_walk using i1
    exact ⟨_,rfl,h⟩
   ·wp_walk using i1
    exact ⟨_,rfl,h⟩
  ·wp_walk using i1
   exact ⟨_,rfl,h⟩
section
variable {P:aH} {w:aP} {A:aW} {E:ae->ag->Prop} {s:ag}
theorem YK (q:ZK) (hT:q.pre s.heap)
  (h:∀ h',gK h' (s.heap.objs.size+1) s.heap.objs.size 0 .none->h'.get? s.heap.objs.size=some q.obj->(∀ b o,s.heap.get? b=some o->h'.get? b=some o)->Q (.ref (s.heap.objs.size+1)) { s with heap:=h' }):
  am (av P w) A (call (.type "enumerate") [q.val]) Q E s:=by
 refine callType_new F.called_enumerate (by decide) (F.typeCall_enumerate_1 _) (F.newCall_enumerate_1 _) (fun obj=>F.args_object_init_2 obj _) F.entry_enumerate_new (XG q _ rfl) ⟨hT,?_⟩
 have fa:q.obj.isFreed=false:=by cases q<;>rfl
 have hz:(s.heap.push q.obj).objs.size=s.heap.objs.size+1:=bZ ..
 show _/\_
 rw [hz]
 have he:gK ((s.heap.push q.obj).push { cls:=.type "enumerate",data:=.fields #[.none,.bool false,.ref s.heap.objs.size,bj 0,.none,.none] }) (s.heap.objs.size+1) s.heap.objs.size 0 .none:=by
  have q:=aE (s.heap.push q.obj) (o:={ cls:=.type "enumerate",data:=.fields #[.none,.bool false,.ref s.heap.objs.size,bj 0,.none,.none] }) rfl
  rw [hz] at q;exact q
 exact ⟨⟨_,he,rfl⟩,h _ he (ah _ (aE _ fa)) fun b o x=>ah _ (ah _ x)⟩
end
noncomputable def Eh (t:DA):DI:=fun σ O=>(t σ O).bnd fun xs O1=>match xs with
 | [x]=>match xI x with
  | some (.val ds)=>.ok (.val (wz ds)) O1
  | _=>.bad
 | _=>.bad
section
variable {X:Cx} {Ex:Nat->Hp->Prop} {pos:Pos} {a b:aQ} {pins:List (af×Obj)} {d_:St} {H:Hp} {s:ag} {hid μ:List af} {O:Ow}
theorem XC (hg:Gl X "enumerate") (hm:X.mg "enumerate" = none) (ha:rZ X Ex [a] t) (hs:aD [a] X.env=[(false,eval a X.env)]:=by rfl):
  uk X Ex (.Tuple es' kt pt) (.Call (.Name "enumerate" p) [a] [] pos) (Eh t):=by
 refine ⟨?_⟩
 rintro pins s d_ H Rr I ⟨hid,μ,σ,O,e1,c1,q⟩
 refine kM (zZ I hg hm YA (eR (oV (ha.out pos pins s d_ H _ I (sY.go e1 c1 q (Q1:=fun vs H1=>∃ hid h_ O1 ds,nI X.K H1 hid h_ O1/\nJ X.K H1 hid h_ ds vs/\
   post Ex X.K (fun H' g_ s J=>nQ X.K J s H' hid g_) H1 hid h_ (match ds with|[x]=>(match xI x with|some (.val ds)=>.ok (.val (wz ds)) O1|_=>.bad)|_=>.bad) Rr)
  fun ds O1 vs H1 h_ e2 x cl d p=>⟨hid,h_,O1,ds,cl,d,p⟩)) fun us s1 ⟨vs,H1,I1,r1,hid,h_,O1,ds,cl,d,p⟩=>?_) (by rw [hs];rfl) (by rfl)))
 split at p
 ·rename_i x
  split at p
  ·rename_i ts hz
   obtain ⟨v,rfl,dx⟩:=tx d
   obtain ⟨u1,rfl,HV⟩:=uN r1
   obtain ⟨k1,J1,v1,p1,t1,i1⟩:=F6 I1 cl dx HV hz
   rw [<- v1]
   refine YK k1 p1 fun h' g1 g2 hk=>?_
   refine Nb (s1.heap.objs.size+1) s1.heap.objs.size _ 0 _ _ _ ⟨_,g1⟩ ?_
   have I2:L2.Inv X pins d_ H1 { s1 with heap:=h',toks:=s1.toks }:=I1.kept hk
   obtain ⟨S1,N1,z1⟩:=i1 s1.heap.objs.size
   refine ⟨s1.heap.objs.size+1,[s1.heap.objs.size+1,s1.heap.objs.size],_,_,H1,rfl,I2,X9 _ _ (Nat.succ_ne_self _) N1 (Nb _ _),⟨⟨_,g1⟩,z1 _ g2⟩,fun b hb=>?_,post.here p cl (.enum t1)⟩
   have wu:s1.heap.objs.size<=b:=by
    simp only [aw,aR,or_false] at hb
    rcases hb with rfl|rfl<;>omega
   exact I1.fpOk (H':=H1) wu (I1.hok.fresh wu)
  ·exact ak p
 ·exact ak p
end
end DL
namespace TS
open PySem PyProof.Rows
abbrev G1:=Bool->a7->Array a7->Nat->Nat->Nat->StateT b9 Sem (Option Nat)
abbrev M1:=Array a7->Array a7->StateT b9 Sem (Array a7)
noncomputable def lay (xs:Array a7) (at_:Nat) (m:List a7):Array a7:=m.zipIdx.foldl (fun a x=>a.setIfInBounds (at_+x.2) x.1) xs
structure oa where
 g:G1
 lo:M1
 hi:M1
 at_:∀ {M:iC} {A:aW} {E:ae->ag->Prop} {s:ag} {i:Nat} {st:b9} {Q:Bool->b9->Prop} {sa na pw sb nb Ff:Nat} {kb:a7},
  (pendingOf st)[i]?=some (sa,na,pw)->(pendingOf st)[i+1]?=some (sb,nb,Ff)->(arrOf st)[sb]?=some kb->
  wpS M A E s (g false kb (arrOf st) sa na 0) (fun r pQ=>∃ k,r=some k/\(na-k=0->Q true pQ)/\(na-k≠0->∃ ka,(arrOf st)[sa+k+(na-k)-1]?=some ka/\
   wpS M A E s (g true ka (arrOf st) sb nb (nb-1)) (fun r2 pB=>∃ m,r2=some m/\(m=0->Q true pB)/\(m≠0->
    wpS M A E s (if na-k<=m then lo ((arrOf st).extract (sa+k) sb) ((arrOf st).extract sb (sb+m)) else hi ((arrOf st).extract (sa+k) sb) ((arrOf st).extract sb (sb+m)))
     (fun mg o9=>Q (failedOf o9).isNone (setArr o9 (lay (arrOf o9) (sa+k) mg.toList))) pB)) pQ)) (setPending st (((pendingOf st).setIfInBounds i (sa,na+nb,pw)).eraseIdxIfInBounds (i+1)))->
  wpS M A E s (mergeAt' i) Q st
theorem rH {M:iC} {A:aW} {E:ae->ag->Prop} {s:ag} {st:b9} {arr:Array a7} {i:Nat} {x:a7} {Q:a7->b9->Prop} (h:arr[i]?=some x) (q:Q x st):wpS M A E s (elem' arr i) Q st:=by
 rw [elem'_eq,h]
 exact aL q
theorem T9 {M:iC} {A:aW} {E:ae->ag->Prop} {s:ag} {σ:Type} {st i_:σ} {Q:PUnit->σ->Prop} (q:Q ⟨⟩ i_):wpS M A E s (set i_) Q st:=fA (f:=fun _=>i_) q
noncomputable def og:oa:=by
 apply oa.mk
 case at_=>
  intro M A E s i st Q sa na pw sb nb Ff kb h1 h2 h3 h
  show wpS M A E s (get >>= _) Q st
  refine aA (gq ?_)
  rw [show (pendingOf st)[i]?=_ from h1,show (pendingOf st)[i+1]?=_ from h2]
  refine aA (T9 (aA (rH h3 (aA (dm h ?_)))))
  rintro _ pQ ⟨k,rfl,e0,e1⟩
  by_cases hk:na-k=0
  ·show wpS M A E s (if (na-k==0)=true then _ else _) Q pQ
   rw [if_pos (by rw [hk];rfl)]
   exact aL (e0 hk)
  ·show wpS M A E s (if (na-k==0)=true then _ else _) Q pQ
   rw [if_neg (by simpa using hk)]
   obtain ⟨ka,q1,q2⟩:=e1 hk
   refine aA (rH q1 (aA (dm q2 ?_)))
   rintro _ pB ⟨m,rfl,f0,f1⟩
   by_cases hm:m=0
   ·subst hm
    exact aL (f0 rfl)
   ·show wpS M A E s (if (m==0)=true then _ else _) Q pB
    rw [if_neg (by simpa using hm)]
    have f2:=f1 hm
    by_cases hc:na-k<=m
    ·rw [if_pos hc] at f2
     show wpS M A E s (if na-k<=m then _ else _) Q pB
     rw [if_pos hc]
     exact aA (dm f2 fun mg o9 q=>aA (fA (aA (gq (aL q)))))
    ·rw [if_neg hc] at f2
     show wpS M A E s (if na-k<=m then _ else _) Q pB
     rw [if_neg hc]
     exact aA (dm f2 fun mg o9 q=>aA (fA (aA (gq (aL q)))))
section
variable {prog:aH} {w:aP} {A:aW} {E:ae->ag->Prop} {s:ag} {κ:aX} {st:b9} {kd:KT}
def ky (κ:aX) (x:a7):κ.α:=(κ.keyOf x.1).getD κ.dflt
def rQ (κ:aX) (x:a7):Prop:=∃ a,κ.keyOf x.1=some a
abbrev Ty {α β:Type} (_:α->β):Type:=β
abbrev KT:Type:=Ty kindOf
noncomputable def uI (prog:aH) (w:aP) (A:aW) (s:ag) (κ:aX) (kd:KT):Prop:=∀ (x y:a7) (E':ae->ag->Prop) {Q:Bool->ag->Prop},rQ κ x->rQ κ y->Q (κ.blt (ky κ x) (ky κ y)) s->am (av prog w) A (keyLt' kd x.1 y.1) Q E' s
theorem uI.one (ho:κ.OneLt):uI prog w A s κ oneType':=fun x y E' Q ⟨a,ha⟩ ⟨b,hb⟩ q=>by
 have ea:ky κ x=a:=by unfold ky;rw [ha];rfl
 have eb:ky κ y=b:=by unfold ky;rw [hb];rfl
 rw [ea,eb] at q
 rw [keyLt'_oneType]
 exact ho prog w A E' s x.1 y.1 a b ha hb q
theorem Bn (ho:uI prog w A s κ kd) (hk:kindOf st=kd) (hx:rQ κ x) (hy:rQ κ y) (q:Q (some (κ.blt (ky κ x) (ky κ y))) st):wpS (av prog w) A E s (lt' x y) Q st:=by
 rw [lt'_eq]
 refine aA (gq (aA (iZ (fh ?_))))
 rw [hk]
 exact ho x y _ hx hy ⟨rfl,aL q⟩
noncomputable def rY (κ:aX) (left:Bool) (key x:a7):Bool:=if left=true then κ.blt (ky κ x) (ky κ key) else !κ.blt (ky κ key) (ky κ x)
set_option hygiene false in
local macro_rules|`(tactic| walk_at "tail")=>`(tactic| (
 refine aA (dm (cE (I:=fun k c yR=>yR=i_/\∃ lo hi,c=(none,lo,hi)/\lo<=hi/\hi<=n/\hi-lo<=n-k/\(∀ i,i<lo->b i=true)/\(∀ i,hi<=i->i<n->b i=false)) (Q:=fun c yR=>yR=i_/\∃ m,c=(none,m,m)/\m<=n/\(∀ i,i<m->b i=true)/\(∀ i,m<=i->i<n->b i=false)) ?_ ?_ ?_) ?_)
 ·rintro k c pB _ we ⟨rfl,lo,hi,rfl,g1,g2,g3,g4,g5⟩
  show wpS _ _ _ _ (if lo ≥ hi then _ else _) _ pB
  by_cases hc:lo ≥ hi
  ·rw [if_pos hc]
   have:lo=hi:=by omega
   subst this
   exact aL ⟨rfl,lo,rfl,g2,g4,g5⟩
  ·rw [if_neg hc]
   refine aA (one (lo+(hi-lo)/2) (by omega) ?_)
   cases rN:b (lo+(hi-lo)/2) with
   | true=>exact aL ⟨rfl,lo+(hi-lo)/2+1,hi,rfl,by omega,g2,by omega,fun i xA=>mono i (lo+(hi-lo)/2) (by omega) (by omega) rN,g5⟩
   | false=>exact aL ⟨rfl,lo,lo+(hi-lo)/2,rfl,by omega,by omega,by omega,g4,fun i xA tH=>down (lo+(hi-lo)/2) i xA (by omega) tH rN⟩
 ·rintro c pB ⟨rfl,lo,hi,rfl,g1,g2,g3,g4,g5⟩
  rw [dL] at g3
  have:lo=hi:=by omega
  subst this
  exact ⟨rfl,lo,rfl,g2,g4,g5⟩
 ·exact ⟨rfl,lo,hi,rfl,hl,hn,by omega,ht,hf⟩
 ·rintro c pB ⟨rfl,m,rfl,g2,g4,g5⟩
  exact aL (q m g2 g4 g5)))
theorem T4 (ho:uI prog w A s κ kd) {left:Bool} {key:a7} {arr:Array a7} {base n hint:Nat} {b:Nat->Bool} (hk:kindOf st=kd) (uf:rQ κ key) (hb:∀ i,i<n->∃ x,arr[base+i]?=some x/\rQ κ x/\rY κ left key x=b i) (hh:hint<n) (mono:∀ i j,i<=j->j<n->b j=true->b i=true)
  {Q:Option Nat->b9->Prop} (q:∀ k,k<=n->(∀ i,i<k->b i=true)->(∀ i,k<=i->i<n->b i=false)->Q (some k) st):wpS (av prog w) A E s ((oa.g og) left key arr base n hint) Q st:=by
 have one:∀ i,i<n->∀ {Q:Option Bool->b9->Prop},Q (some (b i)) st->wpS (av prog w) A E s (elem' arr (base+i) >>= fun x=>if left=true then lt' x key else lt' key x >>= fun r=>pure (r.map fun x=>!x)) Q st:=fun i hi Q hq=>by
  obtain ⟨x,h1,h2,h3⟩:=hb i hi
  refine aA (rH h1 ?_)
  unfold rY at h3
  cases left with
  | true=>
   rw [if_pos rfl] at h3
   rw [if_pos rfl]
   exact Bn ho hk h2 uf (by rw [h3];exact hq)
  | false=>
   rw [if_neg (by decide)] at h3
   rw [if_neg (by decide)]
   exact aA (Bn ho hk uf h2 (aL (by show Q (some (!κ.blt (ky κ key) (ky κ x))) st;rw [h3];exact hq)))
 have down:∀ i j,i<=j->i<n->j<n->b i=false->b j=false:=fun i j tI hi hj hf=>by
  cases e:b j with
  | false=>rfl
  | true=>rw [mono i j tI hj e] at hf;cases hf
 show wpS _ _ _ _ (_ >>= _) Q st
 refine aA (one hint hh ?_)
 cases Pw:b hint with
 | true=>
  refine aA (dm (cE (I:=fun k c i_=>i_=st/\∃ l o,c=(none,l,o)/\l<o/\k+1<=o/\hint+l<n/\b (hint+l)=true) (Q:=fun c i_=>i_=st/\∃ l o,c=(none,l,o)/\l<o/\hint+l<n/\b (hint+l)=true/\(hint+o<n->b (hint+o)=false)) ?_ ?_ ?_) ?_)
  ·rintro k c i_ _ we ⟨rfl,l,o,rfl,h1,h2,h3,h4⟩
   show wpS _ _ _ _ (if o ≥ n-hint then _ else _) _ i_
   by_cases hc:o ≥ n-hint
   ·rw [if_pos hc]
    exact aL ⟨rfl,l,o,rfl,h1,h3,h4,fun h=>by omega⟩
   ·rw [if_neg hc]
    refine aA (one (hint+o) (by omega) ?_)
    cases Dd:b (hint+o) with
    | true=>exact aL ⟨rfl,o,2*o+1,rfl,by omega,by omega,by omega,Dd⟩
    | false=>exact aL ⟨rfl,l,o,rfl,h1,h3,h4,fun _=>Dd⟩
  ·rintro c i_ ⟨rfl,l,o,rfl,h1,h2,h3,h4⟩
   exact ⟨rfl,l,o,rfl,h1,h3,h4,fun h=>by rw [dL] at h2;omega⟩
  ·exact ⟨rfl,0,1,rfl,by omega,by omega,by omega,Pw⟩
  ·rintro c i_ ⟨rfl,l,o,rfl,h1,h3,h4,h5⟩
   have hl:hint+l+1<=hint+min o (n-hint):=by omega
   have hn:hint+min o (n-hint)<=n:=by omega
   have ht:∀ i,i<hint+l+1->b i=true:=fun i hi=>mono i (hint+l) (by omega) h3 h4
   have hf:∀ i,hint+min o (n-hint)<=i->i<n->b i=false:=fun i hi tH=>by
    have:hint+o<n:=by omega
    exact down (hint+o) i (by omega) this tH (h5 this)
   show wpS _ _ _ _ (forIn [:n] (none,hint+l+1,hint+min o (n-hint)) _ >>= _) Q i_
   generalize hint+l+1=lo at *
   generalize hint+min o (n-hint)=hi at *
   walk_at "tail"
 | false=>
  refine aA (dm (cE (I:=fun k c i_=>i_=st/\∃ l o,c=(none,l,o)/\l<o/\k+1<=o/\l<=hint/\b (hint-l)=false) (Q:=fun c i_=>i_=st/\∃ l o,c=(none,l,o)/\l<o/\l<=hint/\b (hint-l)=false/\(o<=hint->b (hint-o)=true)) ?_ ?_ ?_) ?_)
  ·rintro k c i_ _ we ⟨rfl,l,o,rfl,h1,h2,h3,h4⟩
   show wpS _ _ _ _ (if o ≥ hint+1 then _ else _) _ i_
   by_cases hc:o ≥ hint+1
   ·rw [if_pos hc]
    exact aL ⟨rfl,l,o,rfl,h1,h3,h4,fun h=>by omega⟩
   ·rw [if_neg hc]
    refine aA (one (hint-o) (by omega) ?_)
    cases Dd:b (hint-o) with
    | true=>exact aL ⟨rfl,l,o,rfl,h1,h3,h4,fun _=>Dd⟩
    | false=>exact aL ⟨rfl,o,2*o+1,rfl,by omega,by omega,by omega,Dd⟩
  ·rintro c i_ ⟨rfl,l,o,rfl,h1,h2,h3,h4⟩
   exact ⟨rfl,l,o,rfl,h1,h3,h4,fun h=>by rw [dL] at h2;omega⟩
  ·exact ⟨rfl,0,1,rfl,by omega,by omega,by omega,Pw⟩
  ·rintro c i_ ⟨rfl,l,o,rfl,h1,h3,h4,h5⟩
   have hl:hint+1-min o (hint+1)<=hint-l:=by omega
   have hn:hint-l<=n:=by omega
   have ht:∀ i,i<hint+1-min o (hint+1)->b i=true:=fun i hi=>by
    have:o<=hint:=by omega
    exact mono i (hint-o) (by omega) (by omega) (h5 this)
   have hf:∀ i,hint-l<=i->i<n->b i=false:=fun i hi tH=>down (hint-l) i hi (by omega) tH h4
   show wpS _ _ _ _ (forIn [:n] (none,hint+1-min o (hint+1),hint-l) _ >>= _) Q i_
   generalize hint+1-min o (hint+1)=lo at *
   generalize hint-l=hi at *
   walk_at "tail"
end
section
variable {κ:aX}
def Le (κ:aX) (x y:a7):Prop:=κ.blt (ky κ y) (ky κ x)=false
theorem Le.refl (x:a7):Le κ x x:=κ.irrefl _
theorem Le.trans (h1:Le κ x y) (h2:Le κ y z):Le κ x z:=by
 unfold Le at *
 cases e:κ.blt (ky κ z) (ky κ x) with
 | false=>rfl
 | true=>
  rcases κ.negTrans _ (ky κ y) _ e with h|h
  ·rw [h2] at h;cases h
  ·rw [h1] at h;cases h
theorem Le.of (h:κ.blt (ky κ x) (ky κ y)=true):Le κ x y:=by
 unfold Le
 cases e:κ.blt (ky κ y) (ky κ x) with
 | false=>rfl
 | true=>
  have:=κ.trans _ _ _ h e
  rw [κ.irrefl] at this;cases this
def pL (κ:aX) (l:List a7):Prop:=l.Pairwise (Le κ)
structure Out (κ:aX) (a b r:List a7):Prop where
 perm:r.Perm (a++b)
 srt:pL κ r
structure Mg (κ:aX) (a b o:List a7) (i j:Nat):Prop where
 perm:o.Perm (a.take i++b.take j)
 srt:pL κ o
 la:∀ x∈o,∀ y∈a.drop i,Le κ x y
 lb:∀ x∈o,∀ y∈b.drop j,Le κ x y
variable {a b o:List a7} {i j:Nat}
theorem Mg.len (h:Mg κ a b o i j) (hi:i<=a.length) (hj:j<=b.length):o.length=i+j:=by
 rw [h.perm.length_eq,ar,bG,bG];omega
theorem MK {α:Type} (l:List α) (i k:Nat) {x:α} (h:x∈l.drop (i+k)):x∈l.drop i:=by
 rw [<- ei] at h
 exact cy h
theorem pL.take_drop (h:pL κ l) (k:Nat):∀ x∈l.take k,∀ y∈l.drop k,Le κ x y:=by
 unfold pL at h
 rw [<- bT k l,bO] at h
 exact h.2.2
theorem Mg.addA (h:Mg κ a b o i j) (sa:pL κ a) (k:Nat) (hle:∀ y∈(a.drop i).take k,∀ z∈b.drop j,Le κ y z):Mg κ a b (o++(a.drop i).take k) (i+k) j:=by
 have sd:pL κ (a.drop i):=sa.sublist (cV i a)
 refine ⟨?_,?_,fun x hx y hy=>?_,fun x hx y hy=>?_⟩
 ·rw [nj]
  refine (h.perm.append_right _).trans ?_
  rw [aY,aY]
  exact (cG).append_left _
 ·unfold pL
  rw [bO]
  exact ⟨h.srt,sd.sublist (cH k _),fun x hx y hy=>h.la x hx y (cf hy)⟩
 ·rcases aN.mp hx with hx|hx
  ·exact h.la x hx y (MK a i k hy)
  ·exact sd.take_drop k x hx y (by rw [ei];exact hy)
 ·rcases aN.mp hx with hx|hx
  ·exact h.lb x hx y hy
  ·exact hle x hx y hy
theorem Mg.addB (h:Mg κ a b o i j) (sb:pL κ b) (k:Nat) (hle:∀ y∈(b.drop j).take k,∀ z∈a.drop i,Le κ y z):Mg κ a b (o++(b.drop j).take k) i (j+k):=by
 have sd:pL κ (b.drop j):=sb.sublist (cV j b)
 refine ⟨?_,?_,fun x hx y hy=>?_,fun x hx y hy=>?_⟩
 ·rw [nj]
  refine (h.perm.append_right _).trans ?_
  rw [aY]
 ·unfold pL
  rw [bO]
  exact ⟨h.srt,sd.sublist (cH k _),fun x hx y hy=>h.lb x hx y (cf hy)⟩
 ·rcases aN.mp hx with hx|hx
  ·exact h.la x hx y hy
  ·exact hle x hx y hy
 ·rcases aN.mp hx with hx|hx
  ·exact h.lb x hx y (MK b j k hy)
  ·exact sd.take_drop k x hx y (by rw [ei];exact hy)
theorem Mg.fin (h:Mg κ a b o i j) (sa:pL κ a) (sb:pL κ b) (hx:∀ x∈a.drop i,∀ y∈b.drop j,Le κ x y):Out κ a b (o++a.drop i++b.drop j):=by
 refine ⟨?_,?_⟩
 ·refine ((h.perm.append_right _).append_right _).trans ?_
  conv=>rhs;rw [<- bT i a,<- bT j b]
  simp only [aY]
  refine fc _ ?_
  rw [<- aY,<- aY]
  exact cG.append_right _
 ·unfold pL
  rw [bO,bO]
  refine ⟨⟨h.srt,sa.sublist (cV i a),h.la⟩,sb.sublist (cV j b),fun x Iz y hy=>?_⟩
  rcases aN.mp Iz with h'|h'
  ·exact h.lb x h' y hy
  ·exact hx x h' y hy
theorem Mg.fin' (h:Mg κ a b o i j) (sa:pL κ a) (sb:pL κ b) (hx:∀ y∈b.drop j,∀ x∈a.drop i,Le κ y x):Out κ a b (o++b.drop j++a.drop i):=by
 have h2:Mg κ b a o j i:=⟨h.perm.trans cG,h.srt,h.lb,h.la⟩
 have:=h2.fin sb sa hx
 exact ⟨this.perm.trans cG,this.srt⟩
theorem x_ {l:List a7} {i:Nat} {x:a7} (h:l[i]?=some x):(l.drop i).take 1=[x]:=by
 obtain ⟨hi,rfl⟩:=al.mp h
 rw [er hi];rfl
theorem Ag (h:pL κ l) (hx:l[i]?=some x):∀ y∈l.drop i,Le κ x y:=by
 obtain ⟨hi,rfl⟩:=al.mp hx
 intro y hy
 rw [er hi] at hy
 have sd:pL κ (l.drop i):=h.sublist (cV i l)
 rw [er hi] at sd
 rcases aw.mp hy with rfl|hy
 ·exact Le.refl _
 ·exact (cN.mp sd).1 y hy
end
structure nS (st i_:b9):Prop where
 kind:kindOf i_=kindOf st
 arr:arrOf i_=arrOf st
 pend:pendingOf i_=pendingOf st
 failed:failedOf i_=failedOf st
theorem nS.refl (st:b9):nS st st:=⟨rfl,rfl,rfl,rfl⟩
theorem nS.trans (h:nS a b) (g:nS b c):nS a c:=⟨g.kind.trans h.kind,g.arr.trans h.arr,g.pend.trans h.pend,g.failed.trans h.failed⟩
section
variable {prog:aH} {w:aP} {A:aW} {E:ae->ag->Prop} {s:ag} {κ:aX} {st:b9} {kd:KT}
theorem uR {a:Array a7} {i:Nat} (h:i<a.size):∃ x,a[i]?=some x/\a.toList[i]?=some x:=⟨a[i],by simp [h],by simp [h]⟩
theorem Mj (hs:nS st (f st)) (h:∀ i_,nS st i_->Q ⟨⟩ i_):wpS M A E s (modify f) Q st:=fA (h _ hs)
theorem D_ (a:Array a7) (i:Nat):(a.extract i).toList=a.toList.drop i:=by
 simp only [kX,jH]
 exact cP (by simp)
theorem Gr (a:Array a7) (i k:Nat):(a.extract i (i+k)).toList=(a.toList.drop i).take k:=by simp
theorem Ks {a b:List a7} {out:Array a7} {ia ib:Nat} {x:a7} (m:Mg κ a b out.toList ia ib) (sa:pL κ a) (lx:a[ia]?=some x) (h:∀ z∈b.drop ib,Le κ x z):Mg κ a b (out.push x).toList (ia+1) ib:=by
 have:=m.addA sa 1 (by rw [x_ lx];intro y hy;rw [de.mp hy];exact h)
 rw [x_ lx] at this
 rw [eD];exact this
theorem KN {a b:List a7} {out:Array a7} {ia ib:Nat} {x:a7} (m:Mg κ a b out.toList ia ib) (sb:pL κ b) (lx:b[ib]?=some x) (h:∀ z∈a.drop ia,Le κ x z):Mg κ a b (out.push x).toList ia (ib+1):=by
 have:=m.addB sb 1 (by rw [x_ lx];intro y hy;rw [de.mp hy];exact h)
 rw [x_ lx] at this
 rw [eD];exact this
theorem Ap (ho:uI prog w A s κ kd) {left:Bool} {key:a7} {arr:Array a7} {base n hint:Nat} {L:List a7} (hL:(arr.toList.drop base).take n=L) (hk:kindOf st=kd) (uf:rQ κ key) (hn:base+n<=arr.size) (hh:hint<n) (has:∀ x∈L,rQ κ x) (srt:pL κ L)
  {Q:Option Nat->b9->Prop} (q:∀ k,k<=n->(∀ x∈L.take k,rY κ left key x=true)->(∀ x∈L.drop k,rY κ left key x=false)->Q (some k) st):wpS (av prog w) A E s ((oa.g og) left key arr base n hint) Q st:=by
 have len:L.length=n:=by
  rw [<- hL,bG,bN,aB];omega
 have at_:∀ i,i<n->∃ x,arr[base+i]?=some x/\L[i]?=some x:=fun i hi=>by
  obtain ⟨x,h1,h2⟩:=uR (a:=arr) (i:=base+i) (by omega)
  refine ⟨x,h1,?_⟩
  rw [<- hL,fL hi,lR];exact h2
 refine T4 ho (b:=fun i=>match L[i]? with|some x=>rY κ left key x|none=>false) hk uf (fun i hi=>?_) hh (fun i j tI hj e=>?_) fun k we ht hf=>q k we (fun x hx=>?_) fun x hx=>?_
 ·obtain ⟨x,h1,h2⟩:=at_ i hi
  exact ⟨x,h1,has x (aC h2),by rw [h2]⟩
 ·obtain ⟨x,_,hx⟩:=at_ i (by omega)
  obtain ⟨y,_,hy⟩:=at_ j hj
  rw [hy] at e
  rw [hx]
  replace e:rY κ left key y=true:=e
  show rY κ left key x=true
  by_cases h:i=j
  ·subst h;rw [hx] at hy;cases hy;exact e
  have hle:Le κ x y:=by
   obtain ⟨xA,rfl⟩:=al.mp hx
   obtain ⟨hj',rfl⟩:=al.mp hy
   exact eu.mp srt i j xA hj' (by omega)
  unfold rY at e ⊢
  cases left with
  | true=>
   rw [if_pos rfl] at e ⊢
   rcases κ.negTrans _ (ky κ x) _ e with h|h
   ·rw [show κ.blt (ky κ y) (ky κ x)=false from hle] at h;cases h
   ·exact h
  | false=>
   rw [if_neg (by decide)] at e ⊢
   have e':Le κ y key:=by unfold Le;simpa using e
   have:Le κ x key:=hle.trans e'
   unfold Le at this
   rw [this];rfl
 ·obtain ⟨i,hi,e⟩:=lv hx
  have xA:i<k:=by rw [bG] at hi;omega
  have:=ht i xA
  have h2:L[i]?=some x:=by rw [<- e,mi];exact au (by rw [bG] at hi;omega)
  rw [h2] at this;exact this
 ·obtain ⟨i,hi,e⟩:=lv hx
  rw [bN] at hi
  have:=hf (k+i) (by omega) (by omega)
  have h2:L[k+i]?=some x:=by rw [<- e,mj];exact au (by omega)
  rw [h2] at this;exact this
set_option hygiene false in
local macro_rules|`(tactic| walk_at "jp3")=>`(tactic| (
 have m6:=Ks m5 sa lx Fl
 refine aA (rH gx ?_)
 show wpS _ _ _ _ (if (xp+1+1==a.size)=true then _ else _) _ _
 by_cases e5:xp+1+1=a.size
 ·rw [if_pos (by simpa using e5)]
  exact aL ⟨tD,.inl ⟨_,rfl,rh m6 e5⟩⟩
 ·rw [if_neg (by simpa using e5)]
  split
  ·exact aL ⟨tD,.inr ⟨yS.push x,xp+1,Ir,_,_,_,rfl,m6,by omega,f5,by rw [bX];omega⟩⟩
  ·exact aL ⟨tD,yS.push x,xp+1,Ir,_,_,_,rfl,m6,by omega,f5,by rw [bX];omega⟩))
set_option hygiene false in
local macro_rules|`(tactic| walk_at "jp2")=>`(tactic| (
 have m4:=KN m3 sb ly Fk
 refine aA (rH gy ?_)
 show wpS _ _ _ _ (if (ib+1==b.size)=true then _ else _) _ _
 by_cases e3:ib+1=b.size
 ·rw [if_pos (by simpa using e3)]
  exact aL ⟨tD,.inl ⟨_,rfl,rO m4 (.inl e3)⟩⟩
 ·rw [if_neg (by simpa using e3)]
  obtain ⟨x,gx,lx⟩:=uR (a:=a) (i:=xp) (by omega)
  refine aA (rH gx (aA (zG x lx _ tD (by omega) ?_)))
  intro k2 qN Ik Fl
  have m5:=m4.addB sb k2 fun z hz u hu=>(Ik z hz).trans (Ag sa lx u hu)
  rw [<- Gr,<- bH] at m5
  have n5:qH.size+1<=(qH.push y++b.extract (ib+1) (ib+1+k2)).size:=by rw [f6,bX];omega
  by_cases rM:k2>0
  ·show wpS _ _ _ _ (if k2>0 then _ else _) _ _
   rw [if_pos rM]
   show wpS _ _ _ _ (if (ib+1+k2==b.size)=true then _ else _) _ _
   by_cases e4:ib+1+k2=b.size
   ·rw [if_pos (by simpa using e4)]
    exact aL ⟨tD,.inl ⟨_,rfl,rO m5 (.inl e4)⟩⟩
   ·rw [if_neg (by simpa using e4)]
    have f5:ib+1+k2<b.size:=by omega
    generalize qH.push y++b.extract (ib+1) (ib+1+k2)=yS at *
    generalize ib+1+k2=Ir at *
    walk_at "jp3"
  ·have ug:k2=0:=by omega
   subst ug
   show wpS _ _ _ _ (if 0>0 then _ else _) _ _
   rw [if_neg rM]
   have f5:ib+1<b.size:=by omega
   replace m5:=m4
   replace n5:qH.size+1<=(qH.push y).size:=by rw [bX];exact ay _
   rw [Nat.add_zero] at Fl
   generalize qH.push y=yS at *
   generalize ib+1=Ir at *
   walk_at "jp3"))
theorem RX (ho:uI prog w A s κ kd) {a b:Array a7} (hk:kindOf st=kd) (ha:∀ x∈a.toList,rQ κ x) (hb:∀ x∈b.toList,rQ κ x) (sa:pL κ a.toList) (sb:pL κ b.toList) (pa:1<=a.size) (pb:1<=b.size)
  (h0:∀ x∈b.toList.take 1,∀ y∈a.toList,Le κ x y) (hl:∀ y∈b.toList,∀ x∈a.toList.drop (a.size-1),Le κ y x) {Q:Array a7->b9->Prop} (q:∀ r i_,nS st i_->Out κ a.toList b.toList r.toList->Q r i_):wpS (av prog w) A E s ((oa.lo og) a b) Q st:=by
 have Ii:a.toList.length=a.size:=aB
 have Ih:b.toList.length=b.size:=aB
 have rO:∀ {out:Array a7} {ia ib:Nat},Mg κ a.toList b.toList out.toList ia ib->(ib=b.size\/ia=a.size)->Out κ a.toList b.toList (out++a.extract ia++b.extract ib).toList:=fun {out ia ib} m h=>by
  rw [bH,bH,D_,D_]
  refine m.fin sa sb fun x hx y hy=>?_
  rcases h with rfl|rfl
  ·rw [eQ (by omega)] at hy;cases hy
  ·rw [eQ (by omega)] at hx;cases hx
 have rh:∀ {out:Array a7} {ia ib:Nat},Mg κ a.toList b.toList out.toList ia ib->ia+1=a.size->Out κ a.toList b.toList (out++b.extract ib++a.extract ia).toList:=fun {out ia ib} m h=>by
  rw [bH,bH,D_,D_]
  refine m.fin' sa sb fun y hy x hx=>hl y (cy hy) x ?_
  have:a.size-1=ia:=by omega
  rw [this];exact hx
 obtain ⟨b0,g0,l0⟩:=uR (a:=b) (i:=0) (by omega)
 have m0:Mg κ a.toList b.toList (#[b0]:Array a7).toList 0 1:=by
  have e:b.toList.take 1=[b0]:=by
   have:=x_ l0
   simpa using this
  refine ⟨by rw [e];exact fG _,List.pairwise_singleton _ _,fun x hx y hy=>h0 x (by rw [e];exact hx) y hy,fun x hx y hy=>?_⟩
  have:x=b0:=by simpa using hx
  subst this
  exact Ag sb l0 y (cy hy)
 show wpS _ _ _ _ (_ >>= _) Q st
 refine aA (iZ (dk ⟨rfl,aA (rH g0 ?_)⟩))
 by_cases c1:1=b.size
 ·show wpS _ _ _ _ (if (1==b.size)=true then _ else _) Q st
  rw [if_pos (by simpa using c1)]
  exact aL (q _ st (nS.refl st) (rO m0 (.inl c1)))
 show wpS _ _ _ _ (if (1==b.size)=true then _ else _) Q st
 rw [if_neg (by simpa using c1)]
 by_cases c2:1=a.size
 ·show wpS _ _ _ _ (if (0+1==a.size)=true then _ else _) Q st
  rw [if_pos (by simpa using c2)]
  exact aL (q _ st (nS.refl st) (rh m0 (by omega)))
 show wpS _ _ _ _ (if (0+1==a.size)=true then _ else _) Q st
 rw [if_neg (by simpa using c2)]
 refine aA (gq (aA (dm (cE (I:=fun k c i_=>nS st i_/\∃ out ia ib mg,c=(none,out,ia,ib,mg)/\Mg κ a.toList b.toList out.toList ia ib/\ia+1<a.size/\ib<b.size/\k+1<=out.size) (Q:=fun c i_=>nS st i_/\∃ r,c.1=some r/\Out κ a.toList b.toList r.toList) ?_ ?_ ?_) ?_)))
 ·rintro k c pQ _ hkt ⟨sm,out,ia,ib,mg,rfl,m,c3,c4,c5⟩
  have C4:kindOf pQ=kd:=sm.kind.trans hk
  refine aA (dm (cE (I:=fun j c i_=>i_=pQ/\∃ o4 ia ib ac bc,c=(none,o4,ia,ib,ac,bc)/\Mg κ a.toList b.toList o4.toList ia ib/\ia+1<a.size/\ib<b.size/\out.size+j<=o4.size) (Q:=fun c i_=>i_=pQ/\((∃ r,c.1=some r/\Out κ a.toList b.toList r.toList) \/ ∃ o4 ia ib ac bc,c=(none,o4,ia,ib,ac,bc)/\Mg κ a.toList b.toList o4.toList ia ib/\ia+1<a.size/\ib<b.size/\out.size+1<=o4.size)) ?_ ?_ ?_) ?_)
  ·rintro j c pB _ IZ ⟨rfl,o4,ia,ib,ac,bc,rfl,m,c3,c4,c6⟩
   obtain ⟨y,gy,ly⟩:=uR (a:=b) c4
   obtain ⟨x,gx,lx⟩:=uR (a:=a) (i:=ia) (by omega)
   refine aA (rH gy (aA (rH gx (aA (Bn ho C4 (hb y (aC ly)) (ha x (aC lx)) ?_)))))
   cases hc:κ.blt (ky κ y) (ky κ x) with
   | true=>
    have m':=KN m sb ly fun z hz=>(Le.of hc).trans (Ag sa lx z hz)
    refine aA (rH gy ?_)
    show wpS _ _ _ _ (if (ib+1==b.size)=true then _ else _) _ pB
    by_cases e:ib+1=b.size
    ·rw [if_pos (by simpa using e)]
     exact aL ⟨rfl,.inl ⟨_,rfl,rO m' (.inl e)⟩⟩
    ·rw [if_neg (by simpa using e)]
     split
     ·exact aL ⟨rfl,.inr ⟨o4.push y,ia,ib+1,0,bc+1,rfl,m',c3,by omega,by rw [bX];omega⟩⟩
     ·exact aL ⟨rfl,o4.push y,ia,ib+1,0,bc+1,rfl,m',c3,by omega,by rw [bX];omega⟩
   | false=>
    have m':=Ks m sa lx fun z hz=>Le.trans (show Le κ x y from hc) (Ag sb ly z hz)
    refine aA (rH gx ?_)
    show wpS _ _ _ _ (if (ia+1+1==a.size)=true then _ else _) _ pB
    by_cases e:ia+1+1=a.size
    ·rw [if_pos (by simpa using e)]
     exact aL ⟨rfl,.inl ⟨_,rfl,rh m' e⟩⟩
    ·rw [if_neg (by simpa using e)]
     split
     ·exact aL ⟨rfl,.inr ⟨o4.push x,ia+1,ib,ac+1,0,rfl,m',by omega,c4,by rw [bX];omega⟩⟩
     ·exact aL ⟨rfl,o4.push x,ia+1,ib,ac+1,0,rfl,m',by omega,c4,by rw [bX];omega⟩
  ·rintro c pB ⟨rfl,o4,ia,ib,ac,bc,rfl,m,c3,c4,c6⟩
   have:=m.len (by omega) (by omega)
   rw [aB] at this
   rw [dL] at c6
   omega
  ·exact ⟨rfl,out,ia,ib,0,0,rfl,m,c3,c4,by omega⟩
  rintro c pB ⟨rfl,h⟩
  rcases h with ⟨r,e,hr⟩|⟨o4,ia,ib,ac,bc,rfl,m,c3,c4,c6⟩
  ·obtain ⟨c,c'⟩:=c
   dsimp only at e
   subst e
   exact aL ⟨sm,r,rfl,hr⟩
  refine aA (iZ (dk ⟨rfl,aA (dm (cE (I:=fun j c i_=>nS st i_/\∃ o8 ia ib mg ac bc,c=(none,o8,ia,ib,mg,ac,bc)/\Mg κ a.toList b.toList o8.toList ia ib/\ia+1<a.size/\ib<b.size/\o4.size+j<=o8.size) (Q:=fun c i_=>nS st i_/\((∃ r,c.1=some r/\Out κ a.toList b.toList r.toList) \/ ∃ o8 ia ib mg ac bc,c=(none,o8,ia,ib,mg,ac,bc)/\Mg κ a.toList b.toList o8.toList ia ib/\ia+1<a.size/\ib<b.size/\o4.size<=o8.size)) ?_ ?_ ?_) ?_)⟩))
  ·rintro j c o9 _ IZ ⟨sQ,o8,ia,ib,mg,ac,bc,rfl,m,c3,c4,c6⟩
   obtain ⟨y,gy,ly⟩:=uR (a:=b) c4
   have hy:=hb y (aC ly)
   have zI:∀ qe,nS st qe->∀ {Q:Option Nat->b9->Prop},(∀ k,k<=a.size-ia->(∀ x∈(a.toList.drop ia).take k,Le κ x y)->(∀ x∈a.toList.drop (ia+k),Le κ y x)->Q (some k) qe)->wpS (av prog w) A E s ((oa.g og) false y a ia (a.size-ia) 0) Q qe:=fun qe s4 Q h=>
    Ap ho (L:=a.toList.drop ia) (cP (by rw [bN];omega)) (s4.kind.trans hk) hy (by omega) (by omega) (fun x hx=>ha x (cy hx)) (sa.sublist (cV ia _)) fun k h1 h2 h3=>h k h1 (fun x hx=>by
     have:=h2 x hx
     unfold rY at this
     rw [if_neg (by decide)] at this
     unfold Le;simpa using this) fun x hx=>by
     rw [<- ei] at hx
     have:=h3 x hx
     unfold rY at this
     rw [if_neg (by decide)] at this
     exact Le.of (by simpa using this)
   have zG:∀ x {xp:Nat},a.toList[xp]?=some x->∀ qe,nS st qe->ib+1<b.size->∀ {Q:Option Nat->b9->Prop},(∀ k,k<=b.size-(ib+1)->(∀ z∈(b.toList.drop (ib+1)).take k,Le κ z x)->(∀ z∈b.toList.drop (ib+1+k),Le κ x z)->Q (some k) qe)->wpS (av prog w) A E s ((oa.g og) true x b (ib+1) (b.size-(ib+1)) 0) Q qe:=fun x xp lx qe s4 h4 Q h=>
    Ap ho (L:=b.toList.drop (ib+1)) (cP (by rw [bN];omega)) (s4.kind.trans hk) (ha x (aC lx)) (by omega) (by omega) (fun x hx=>hb x (cy hx)) (sb.sublist (cV _ _)) fun k h1 h2 h3=>h k h1 (fun z hz=>by
     have:=h2 z hz
     unfold rY at this
     rw [if_pos rfl] at this
     exact Le.of this) fun z hz=>by
     rw [<- ei] at hz
     have:=h3 z hz
     unfold rY at this
     rw [if_pos rfl] at this
     exact this
   show wpS _ _ _ _ (if mg>1 then _ else _) _ o9
   split
   all_goals
    refine aA (Mj ⟨rfl,rfl,rfl,rfl⟩ fun qe s4=>aA (rH gy (aA (zI qe (sQ.trans s4) ?_))))
    have tD:=sQ.trans s4
    intro k we kt kf
    have m3:=m.addA sa k fun x hx z hz=>(kt x hx).trans (Ag sb ly z hz)
    rw [<- Gr,<- bH] at m3
    have n3:o8.size<=(o8++a.extract ia (ia+k)).size:=by rw [f6];omega
    have Fk:=kf
    clear kf
    by_cases rM:k>0
    ·show wpS _ _ _ _ (if k>0 then _ else _) _ _
     rw [if_pos rM]
     show wpS _ _ _ _ (if (ia+k+1==a.size)=true then _ else _) _ _
     by_cases e1:ia+k+1=a.size
     ·rw [if_pos (by simpa using e1)]
      exact aL ⟨tD,.inl ⟨_,rfl,rh m3 e1⟩⟩
     ·rw [if_neg (by simpa using e1)]
      show wpS _ _ _ _ (if (ia+k==a.size)=true then _ else _) _ _
      by_cases e2:ia+k=a.size
      ·rw [if_pos (by simpa using e2)]
       exact aL ⟨tD,.inl ⟨_,rfl,rO m3 (.inr e2)⟩⟩
      ·rw [if_neg (by simpa using e2)]
       have f3:ia+k+1<a.size:=by omega
       generalize o8++a.extract ia (ia+k)=qH at *
       generalize ia+k=xp at *
       walk_at "jp2"
    ·have ug:k=0:=by omega
     subst ug
     show wpS _ _ _ _ (if 0>0 then _ else _) _ _
     rw [if_neg rM]
     have f3:ia+1<a.size:=c3
     replace m3:=m
     replace n3:o8.size<=o8.size:=ay _
     rw [Nat.add_zero] at Fk
     generalize IK:o8=qH at *
     generalize hia:ia=xp at *
     walk_at "jp2"
  ·rintro c o9 ⟨sQ,o8,ia,ib,mg,ac,bc,rfl,m,c3,c4,c6⟩
   have:=m.len (by omega) (by omega)
   rw [aB] at this
   rw [dL] at c6
   omega
  ·exact ⟨sm,o4,ia,ib,_,ac,bc,rfl,m,c3,c4,by omega⟩
  rintro c o9 ⟨sQ,h⟩
  rcases h with ⟨r,e,hr⟩|⟨o8,ia,ib,mg,ac,bc,rfl,m,c3,c4,c7⟩
  ·obtain ⟨c,c'⟩:=c
   dsimp only at e
   subst e
   exact aL ⟨sQ,r,rfl,hr⟩
  ·exact aA (fA (aL ⟨⟨sQ.kind,sQ.arr,sQ.pend,sQ.failed⟩,o8,ia,ib,_,rfl,m,c3,c4,by omega⟩))
 ·rintro c pQ ⟨sm,out,ia,ib,mg,rfl,m,c3,c4,c5⟩
  have:=m.len (by omega) (by omega)
  rw [aB] at this
  rw [dL] at c5
  omega
 ·exact ⟨nS.refl st,#[b0],0,1,_,rfl,m0,by omega,by omega,by simp⟩
 ·rintro ⟨c,c'⟩ pQ ⟨sm,r,e,hr⟩
  dsimp only at e
  subst e
  exact aL (q r pQ sm hr)
end
section
variable {κ:aX}
structure Mh (κ:aX) (a b o:List a7) (i j:Nat):Prop where
 perm:o.Perm (a.drop i++b.drop j)
 srt:pL κ o.reverse
 la:∀ x∈a.take i,∀ y∈o,Le κ x y
 lb:∀ x∈b.take j,∀ y∈o,Le κ x y
variable {a b o:List a7} {i j:Nat}
theorem Mh.len (h:Mh κ a b o i j):o.length=(a.length-i)+(b.length-j):=by
 rw [h.perm.length_eq,ar,bN,bN]
theorem UX {α:Type} {l:List α} {i k:Nat} (h:k<=i) {x:α} (hx:x∈l.take k):x∈l.take i:=by
 have:l.take k=(l.take i).take k:=by rw [gc,fU h]
 rw [this] at hx
 exact cf hx
theorem Wr {α:Type} (l:List α) (h:k<=i):l.drop k=(l.take i).drop k++l.drop i:=by
 by_cases hi:i<=l.length
 ·conv=>lhs;rw [<- bT i l]
  rw [eE (by rw [bG];omega)]
 ·rw [cP (by omega),eQ (i:=i) (by omega),bM]
theorem pL.mid (h:pL κ l) (hk:k<=i):∀ x∈l.take k,∀ y∈(l.take i).drop k,Le κ x y:=by
 have st:pL κ (l.take i):=h.sublist (cH i l)
 intro x hx y hy
 have:l.take k=(l.take i).take k:=by rw [gc,fU hk]
 rw [this] at hx
 exact st.take_drop k x hx y hy
theorem Mh.addA (h:Mh κ a b o i j) (sa:pL κ a) {k:Nat} (hk:k<=i) (hle:∀ z∈b.take j,∀ y∈(a.take i).drop k,Le κ z y):Mh κ a b (o++((a.take i).drop k).reverse) k j:=by
 refine ⟨?_,?_,fun x hx y hy=>?_,fun x hx y hy=>?_⟩
 ·rw [Wr a hk]
  refine (h.perm.append (ml _)).trans ?_
  rw [aY]
  refine cG.trans ?_
  rw [aY]
  exact cG
 ·rw [List.reverse_append,List.reverse_reverse]
  unfold pL
  rw [bO]
  exact ⟨(sa.sublist (cH i a)).sublist (cV k _),h.srt,fun x hx y hy=>h.la x (cy hx) y (fM.mp hy)⟩
 ·rcases aN.mp hy with hy|hy
  ·exact h.la x (UX hk hx) y hy
  ·exact sa.mid hk x hx y (fM.mp hy)
 ·rcases aN.mp hy with hy|hy
  ·exact h.lb x hx y hy
  ·exact hle x hx y (fM.mp hy)
theorem Mh.swap (h:Mh κ a b o i j):Mh κ b a o j i:=⟨h.perm.trans cG,h.srt,h.lb,h.la⟩
theorem Mh.addB (h:Mh κ a b o i j) (sb:pL κ b) (hk:k<=j) (hle:∀ z∈a.take i,∀ y∈(b.take j).drop k,Le κ z y):Mh κ a b (o++((b.take j).drop k).reverse) i k:=(h.swap.addA sb hk hle).swap
theorem Mh.fin (h:Mh κ a b o i j) (sa:pL κ a) (sb:pL κ b) (hx:∀ x∈a.take i,∀ y∈b.take j,Le κ x y):Out κ a b (a.take i++b.take j++o.reverse):=by
 refine ⟨?_,?_⟩
 ·refine (((ml o).trans h.perm).append_left _).trans ?_
  conv=>rhs;rw [<- bT i a,<- bT j b]
  simp only [aY]
  refine fc _ ?_
  rw [<- aY,<- aY]
  exact cG.append_right _
 ·unfold pL
  rw [bO,bO]
  refine ⟨⟨sa.sublist (cH i a),sb.sublist (cH j b),hx⟩,h.srt,fun x Iz y hy=>?_⟩
  rcases aN.mp Iz with h'|h'
  ·exact h.la x h' y (fM.mp hy)
  ·exact h.lb x h' y (fM.mp hy)
theorem Mh.fin' (h:Mh κ a b o i j) (sa:pL κ a) (sb:pL κ b) (hx:∀ y∈b.take j,∀ x∈a.take i,Le κ y x):Out κ a b (b.take j++a.take i++o.reverse):=by
 have:=h.swap.fin sb sa hx
 exact ⟨this.perm.trans cG,this.srt⟩
theorem BN {l:List a7} {i:Nat} {x:a7} (h:l[i]?=some x):(l.take (i+1)).drop i=[x]:=by
 obtain ⟨hi,rfl⟩:=al.mp h
 rw [mU,bU,er hi];rfl
theorem BC {l:List a7} (h:pL κ l) {i:Nat} {x:a7} (hx:l[i]?=some x):∀ y∈l.take (i+1),Le κ y x:=by
 intro y hy
 have e:=BN hx
 have:l.take (i+1)=l.take i++[x]:=by
  rw [fH,hx];rfl
 rw [this] at hy
 rcases aN.mp hy with hy|hy
 ·exact h.mid (ez i) y hy x (by rw [e];simp)
 ·rw [de.mp hy];exact Le.refl _
theorem Gx {out:Array a7} {x:a7} (m:Mh κ a b out.toList (i+1) j) (sa:pL κ a) (lx:a[i]?=some x) (h:∀ z∈b.take j,Le κ z x):Mh κ a b (out.push x).toList i j:=by
 have:=m.addA sa (k:=i) (by omega) (by rw [BN lx];intro z hz y hy;rw [de.mp hy];exact h z hz)
 rw [BN lx] at this
 rw [eD];exact this
theorem Lh {out:Array a7} {x:a7} (m:Mh κ a b out.toList i (j+1)) (sb:pL κ b) (lx:b[j]?=some x) (h:∀ z∈a.take i,Le κ z x):Mh κ a b (out.push x).toList i j:=by
 have:=m.addB sb (k:=j) (by omega) (by rw [BN lx];intro z hz y hy;rw [de.mp hy];exact h z hz)
 rw [BN lx] at this
 rw [eD];exact this
theorem D8 (a:Array a7) (i:Nat):(a.extract 0 i).toList=a.toList.take i:=by simp
theorem Kz (a:Array a7) (k i:Nat):((a.extract k i).reverse).toList=((a.toList.take i).drop k).reverse:=by
 simp [mU]
end
section
variable {prog:aH} {w:aP} {A:aW} {E:ae->ag->Prop} {s:ag} {κ:aX} {st:b9} {kd:KT}
theorem L8 {n:Nat} {o:Array a7} {x:a7} (h:n<=o.size):n+1<=(o.push x).size:=by rw [bX];omega
set_option hygiene false in
local macro_rules|`(tactic| walk_at "jp3")=>`(tactic| (
 have m6:=Gx m5 sa lx Fl
 refine aA (rH gx ?_)
 show wpS _ _ _ _ (if (p3==0)=true then _ else _) _ _
 by_cases e5:p3=0
 ·rw [if_pos (by simpa using e5)]
  exact aL ⟨tD,.inl ⟨_,rfl,rO m6 (.inl e5)⟩⟩
 ·rw [if_neg (by simpa using e5)]
  split
  ·exact aL ⟨tD,.inr ⟨p3,k2,_,_,_,_,rfl,m6,(by omega:1<=p3),(by omega:p3<=a.size),f5,(by omega:k2<=b.size),aU (by omega:o4.size<=qH.size+1+1) (L8 n5)⟩⟩
  ·exact aL ⟨tD,p3,k2,_,_,_,_,rfl,m6,(by omega:1<=p3),(by omega:p3<=a.size),f5,(by omega:k2<=b.size),aU (by omega:o4.size+(j+1)<=qH.size+1+1) (L8 n5)⟩))
set_option hygiene false in
local macro_rules|`(tactic| walk_at "jp2")=>`(tactic| (
 have m4:=Lh m3 sb ly Fk
 refine aA (rH gy ?_)
 show wpS _ _ _ _ (if (r==1)=true then _ else _) _ _
 by_cases e3:r=1
 ·rw [if_pos (by simpa using e3)]
  exact aL ⟨tD,.inl ⟨_,rfl,rh m4 e3⟩⟩
 ·rw [if_neg (by simpa using e3)]
  obtain ⟨p3,rfl⟩:∃ p3,H_=p3+1:=⟨H_-1,by omega⟩
  obtain ⟨x,gx,lx⟩:=uR (a:=a) (i:=p3) (by omega)
  refine aA (rH gx (aA (zG x lx _ tD (by omega) ?_)))
  intro k2 qN Ik Fl
  have m5:=m4.addB sb qN fun z hz u hu=>(BC sa lx z hz).trans (Ik u hu)
  rw [<- Kz,<- bH] at m5
  have n5:qH.size+1<=(qH.push y++(b.extract k2 r).reverse).size:=by rw [f6,bX];omega
  by_cases rM:r-k2>0
  ·show wpS _ _ _ _ (if r-k2>0 then _ else _) _ _
   rw [if_pos rM]
   show wpS _ _ _ _ (if (k2==1)=true then _ else _) _ _
   by_cases e4:k2=1
   ·rw [if_pos (by simpa using e4)]
    exact aL ⟨tD,.inl ⟨_,rfl,rh m5 e4⟩⟩
   ·rw [if_neg (by simpa using e4)]
    show wpS _ _ _ _ (if (k2==0)=true then _ else _) _ _
    by_cases e6:k2=0
    ·rw [if_pos (by simpa using e6)]
     exact aL ⟨tD,.inl ⟨_,rfl,rO m5 (.inr e6)⟩⟩
    ·rw [if_neg (by simpa using e6)]
     have f5:2<=k2:=by omega
     walk_at "jp3"
  ·have ug:k2=r:=by omega
   subst ug
   show wpS _ _ _ _ (if k2-k2>0 then _ else _) _ _
   rw [if_neg rM]
   have f5:2<=k2:=by omega
   replace m5:=m4
   replace n5:qH.size+1<=(qH.push y).size:=by rw [bX];exact ay _
   walk_at "jp3"))
theorem TK (ho:uI prog w A s κ kd) (hk:kindOf st=kd) (ha:∀ x∈a.toList,rQ κ x) (hb:∀ x∈b.toList,rQ κ x) (sa:pL κ a.toList) (sb:pL κ b.toList) (pa:1<=a.size) (pb:1<=b.size)
  (h0:∀ x∈b.toList.take 1,∀ y∈a.toList,Le κ x y) (hl:∀ y∈b.toList,∀ x∈a.toList.drop (a.size-1),Le κ y x) {Q:Array a7->b9->Prop} (q:∀ r i_,nS st i_->Out κ a.toList b.toList r.toList->Q r i_):wpS (av prog w) A E s ((oa.hi og) a b) Q st:=by
 have Ii:a.toList.length=a.size:=aB
 have Ih:b.toList.length=b.size:=aB
 have rO:∀ {out:Array a7} {na nb:Nat},Mh κ a.toList b.toList out.toList na nb->(na=0\/nb=0)->Out κ a.toList b.toList (a.extract 0 na++b.extract 0 nb++out.reverse).toList:=fun {out na nb} m h=>by
  rw [bH,bH,D8,D8,kY]
  refine m.fin sa sb fun x hx y hy=>?_
  rcases h with rfl|rfl
  ·cases hx
  ·cases hy
 have rh:∀ {out:Array a7} {na nb:Nat},Mh κ a.toList b.toList out.toList na nb->nb=1->Out κ a.toList b.toList (b.extract 0 nb++a.extract 0 na++out.reverse).toList:=fun {out na nb} m h=>by
  rw [bH,bH,D8,D8,kY]
  subst h
  exact m.fin' sa sb fun y hy x hx=>h0 y hy x (cf hx)
 obtain ⟨x0,g0,l0⟩:=uR (a:=a) (i:=a.size-1) (by omega)
 have m0:Mh κ a.toList b.toList (#[x0]:Array a7).toList (a.size-1) b.size:=by
  have m00:Mh κ a.toList b.toList (#[]:Array a7).toList (a.size-1+1) b.size:=by
   refine ⟨?_,ft,(fun x _ y hy=>nomatch hy),(fun x _ y hy=>nomatch hy)⟩
   rw [eQ (by omega),eQ (by omega)]
   exact fG _
  exact Gx m00 sa l0 fun z hz=>hl z (cf hz) x0 (by
   have:=x_ l0
   exact cf (by rw [this];simp:x0∈(a.toList.drop (a.size-1)).take 1))
 show wpS _ _ _ _ (_ >>= _) Q st
 refine aA (iZ (dk ⟨rfl,aA (rH g0 ?_)⟩))
 show wpS _ _ _ _ (if (a.size-1==0)=true then _ else _) Q st
 by_cases c1:a.size-1=0
 ·rw [if_pos (by simpa using c1)]
  exact aL (q _ st (nS.refl st) (rO m0 (.inl c1)))
 rw [if_neg (by simpa using c1)]
 show wpS _ _ _ _ (if (b.size==1)=true then _ else _) Q st
 by_cases c2:b.size=1
 ·rw [if_pos (by simpa using c2)]
  exact aL (q _ st (nS.refl st) (rh m0 c2))
 rw [if_neg (by simpa using c2)]
 refine aA (gq (aA (dm (cE (I:=fun k c i_=>nS st i_/\∃ na nb out mg,c=(none,na,nb,out,mg)/\Mh κ a.toList b.toList out.toList na nb/\1<=na/\na<=a.size/\2<=nb/\nb<=b.size/\k+1<=out.size) (Q:=fun c i_=>nS st i_/\∃ r,c.1=some r/\Out κ a.toList b.toList r.toList) ?_ ?_ ?_) ?_)))
 ·rintro k c pQ _ hkt ⟨sm,na,nb,out,mg,rfl,m,c3,vd,c4,vI,c5⟩
  have C4:kindOf pQ=kd:=sm.kind.trans hk
  refine aA (dm (cE (I:=fun j c i_=>i_=pQ/\∃ na nb o4 ac bc,c=(none,na,nb,o4,ac,bc)/\Mh κ a.toList b.toList o4.toList na nb/\1<=na/\na<=a.size/\2<=nb/\nb<=b.size/\out.size+j<=o4.size) (Q:=fun c i_=>i_=pQ/\((∃ r,c.1=some r/\Out κ a.toList b.toList r.toList) \/ ∃ na nb o4 ac bc,c=(none,na,nb,o4,ac,bc)/\Mh κ a.toList b.toList o4.toList na nb/\1<=na/\na<=a.size/\2<=nb/\nb<=b.size/\out.size+1<=o4.size)) ?_ ?_ ?_) ?_)
  ·rintro j c pB _ IZ ⟨rfl,na,nb,o4,ac,bc,rfl,m,c3,vd,c4,vI,c6⟩
   obtain ⟨p,rfl⟩:∃ p,na=p+1:=⟨na-1,by omega⟩
   obtain ⟨r,rfl⟩:∃ r,nb=r+1:=⟨nb-1,by omega⟩
   obtain ⟨y,gy,ly⟩:=uR (a:=b) (i:=r) (by omega)
   obtain ⟨x,gx,lx⟩:=uR (a:=a) (i:=p) (by omega)
   refine aA (rH gy (aA (rH gx (aA (Bn ho C4 (hb y (aC ly)) (ha x (aC lx)) ?_)))))
   cases hc:κ.blt (ky κ y) (ky κ x) with
   | true=>
    have m':=Gx m sa lx fun z hz=>(BC sb ly z hz).trans (Le.of hc)
    refine aA (rH gx ?_)
    show wpS _ _ _ _ (if (p==0)=true then _ else _) _ pB
    by_cases e:p=0
    ·rw [if_pos (by simpa using e)]
     exact aL ⟨rfl,.inl ⟨_,rfl,rO m' (.inl e)⟩⟩
    ·rw [if_neg (by simpa using e)]
     split
     ·exact aL ⟨rfl,.inr ⟨p,r+1,o4.push x,ac+1,0,rfl,m',by omega,by omega,c4,vI,by rw [bX];omega⟩⟩
     ·exact aL ⟨rfl,p,r+1,o4.push x,ac+1,0,rfl,m',by omega,by omega,c4,vI,by rw [bX];omega⟩
   | false=>
    have m':=Lh m sb ly fun z hz=>(BC sa lx z hz).trans (show Le κ x y from hc)
    refine aA (rH gy ?_)
    show wpS _ _ _ _ (if (r==1)=true then _ else _) _ pB
    by_cases e:r=1
    ·rw [if_pos (by simpa using e)]
     exact aL ⟨rfl,.inl ⟨_,rfl,rh m' e⟩⟩
    ·rw [if_neg (by simpa using e)]
     split
     ·exact aL ⟨rfl,.inr ⟨p+1,r,o4.push y,0,bc+1,rfl,m',c3,vd,by omega,by omega,by rw [bX];omega⟩⟩
     ·exact aL ⟨rfl,p+1,r,o4.push y,0,bc+1,rfl,m',c3,vd,by omega,by omega,by rw [bX];omega⟩
  ·rintro c pB ⟨rfl,na,nb,o4,ac,bc,rfl,m,c3,vd,c4,vI,c6⟩
   have:=m.len
   rw [aB] at this
   rw [dL] at c6
   omega
  ·exact ⟨rfl,na,nb,out,0,0,rfl,m,c3,vd,c4,vI,by omega⟩
  rintro c pB ⟨rfl,h⟩
  rcases h with ⟨r,e,hr⟩|⟨na,nb,o4,ac,bc,rfl,m,c3,vd,c4,vI,c6⟩
  ·obtain ⟨c,c'⟩:=c
   dsimp only at e
   subst e
   exact aL ⟨sm,r,rfl,hr⟩
  refine aA (iZ (dk ⟨rfl,aA (dm (cE (I:=fun j c i_=>nS st i_/\∃ na nb o8 mg ac bc,c=(none,na,nb,o8,mg,ac,bc)/\Mh κ a.toList b.toList o8.toList na nb/\1<=na/\na<=a.size/\2<=nb/\nb<=b.size/\o4.size+j<=o8.size) (Q:=fun c i_=>nS st i_/\((∃ r,c.1=some r/\Out κ a.toList b.toList r.toList) \/ ∃ na nb o8 mg ac bc,c=(none,na,nb,o8,mg,ac,bc)/\Mh κ a.toList b.toList o8.toList na nb/\1<=na/\na<=a.size/\2<=nb/\nb<=b.size/\o4.size<=o8.size)) ?_ ?_ ?_) ?_)⟩))
  ·rintro j c o9 _ IZ ⟨sQ,na,nb,o8,mg,ac,bc,rfl,m,c3,vd,c4,vI,c6⟩
   obtain ⟨r,rfl⟩:∃ r,nb=r+1:=⟨nb-1,by omega⟩
   obtain ⟨y,gy,ly⟩:=uR (a:=b) (i:=r) (by omega)
   have hy:=hb y (aC ly)
   have zI:∀ qe,nS st qe->∀ {Q:Option Nat->b9->Prop},(∀ k,k<=na->(∀ x∈a.toList.take k,Le κ x y)->(∀ x∈(a.toList.take na).drop k,Le κ y x)->Q (some k) qe)->wpS (av prog w) A E s ((oa.g og) false y a 0 na (na-1)) Q qe:=fun qe s4 Q h=>
    Ap ho (L:=a.toList.take na) (by rw [kK]) (s4.kind.trans hk) hy (by omega) (by omega) (fun x hx=>ha x (cf hx)) (sa.sublist (cH na _)) fun k h1 h2 h3=>h k h1 (fun x hx=>by
     have:=h2 x (by rw [gc,fU h1];exact hx)
     unfold rY at this
     rw [if_neg (by decide)] at this
     unfold Le;simpa using this) fun x hx=>by
     have:=h3 x hx
     unfold rY at this
     rw [if_neg (by decide)] at this
     exact Le.of (by simpa using this)
   have zG:∀ x {p3:Nat},a.toList[p3]?=some x->∀ qe,nS st qe->1<=r->∀ {Q:Option Nat->b9->Prop},(∀ k,k<=r->(∀ z∈(b.toList.take r).drop k,Le κ x z)->(∀ z∈b.toList.take k,Le κ z x)->Q (some k) qe)->wpS (av prog w) A E s ((oa.g og) true x b 0 r (r-1)) Q qe:=fun x p3 lx qe s4 h4 Q h=>
    Ap ho (L:=b.toList.take r) (by rw [kK]) (s4.kind.trans hk) (ha x (aC lx)) (by omega) (by omega) (fun x hx=>hb x (cf hx)) (sb.sublist (cH _ _)) fun k h1 h2 h3=>h k h1 (fun z hz=>by
     have:=h3 z hz
     unfold rY at this
     rw [if_pos rfl] at this
     exact this) fun z hz=>by
     have:=h2 z (by rw [gc,fU h1];exact hz)
     unfold rY at this
     rw [if_pos rfl] at this
     exact Le.of this
   show wpS _ _ _ _ (if mg>1 then _ else _) _ o9
   split
   all_goals
    refine aA (Mj ⟨rfl,rfl,rfl,rfl⟩ fun qe s4=>aA (rH gy (aA (zI qe (sQ.trans s4) ?_))))
    have tD:=sQ.trans s4
    intro k we Fk kt
    have m3:=m.addA sa we fun z hz u hu=>(BC sb ly z hz).trans (kt u hu)
    rw [<- Kz,<- bH] at m3
    have n3:o8.size<=(o8++(a.extract k na).reverse).size:=by rw [f6];omega
    by_cases rM:na-k>0
    ·show wpS _ _ _ _ (if na-k>0 then _ else _) _ _
     rw [if_pos rM]
     show wpS _ _ _ _ (if (k==0)=true then _ else _) _ _
     by_cases e1:k=0
     ·rw [if_pos (by simpa using e1)]
      exact aL ⟨tD,.inl ⟨_,rfl,rO m3 (.inl e1)⟩⟩
     ·rw [if_neg (by simpa using e1)]
      have f3:1<=k:=by omega
      have f3':k<=a.size:=by omega
      generalize o8++(a.extract k na).reverse=qH at *
      generalize IS:k=H_ at *
      walk_at "jp2"
    ·have ug:k=na:=by omega
     subst ug
     show wpS _ _ _ _ (if k-k>0 then _ else _) _ _
     rw [if_neg rM]
     have f3:1<=k:=c3
     have f3':k<=a.size:=vd
     replace m3:=m
     replace n3:o8.size<=o8.size:=ay _
     generalize IK:o8=qH at *
     generalize IS:k=H_ at *
     walk_at "jp2"
  ·rintro c o9 ⟨sQ,na,nb,o8,mg,ac,bc,rfl,m,c3,vd,c4,vI,c6⟩
   have:=m.len
   rw [aB] at this
   rw [dL] at c6
   omega
  ·exact ⟨sm,na,nb,o4,_,ac,bc,rfl,m,c3,vd,c4,vI,by omega⟩
  rintro c o9 ⟨sQ,h⟩
  rcases h with ⟨r,e,hr⟩|⟨na,nb,o8,mg,ac,bc,rfl,m,c3,vd,c4,vI,c7⟩
  ·obtain ⟨c,c'⟩:=c
   dsimp only at e
   subst e
   exact aL ⟨sQ,r,rfl,hr⟩
  ·exact aA (fA (aL ⟨⟨sQ.kind,sQ.arr,sQ.pend,sQ.failed⟩,na,nb,o8,_,rfl,m,c3,vd,c4,vI,by omega⟩))
 ·rintro c pQ ⟨sm,na,nb,out,mg,rfl,m,c3,vd,c4,vI,c5⟩
  have:=m.len
  rw [aB] at this
  rw [dL] at c5
  omega
 ·exact ⟨nS.refl st,a.size-1,b.size,#[x0],_,rfl,m0,by omega,by omega,by omega,by omega,by simp⟩
 ·rintro ⟨c,c'⟩ pQ ⟨sm,r,e,hr⟩
  dsimp only at e
  subst e
  exact aL (q r pQ sm hr)
end
theorem K6 (p:Nat):∀ (m:List a7) (j:Nat) (xs:Array a7),p+j+m.length<=xs.size->((m.zipIdx j).foldl (fun a x=>a.setIfInBounds (p+x.2) x.1) xs).toList=xs.toList.take (p+j)++m++xs.toList.drop (p+j+m.length)
 | [],j,xs,_=>by simp
 | x::m,j,xs,h=>by
  rw [bv] at h
  rw [jP,fT,K6 p m (j+1) _ (by rw [jQ];omega),js,<- li]
  have hl:p+j<xs.toList.length:=by rw [aB];omega
  have e1:(xs.toList.set (p+j) x).take (p+j+1)=xs.toList.take (p+j)++[x]:=by
   rw [fH,ba hl,List.take_set_of_le (ay _)];rfl
  rw [e1,List.drop_set_of_lt (by omega),bv,aY,aY,aY]
  have:p+j+1+m.length=p+j+(m.length+1):=by omega
  rw [this];rfl
theorem Xf (h:p+m.length<=xs.size):(lay xs p m).toList=xs.toList.take p++m++xs.toList.drop (p+m.length):=K6 p m 0 xs h
section
variable {prog:aH} {w:aP} {A:aW} {E:ae->ag->Prop} {s:ag} {κ:aX} {st:b9} {kd:KT}
theorem Rv (ho:uI prog w A s κ kd) (hk:kindOf st=kd) (AY:failedOf st=none) (hL:(arrOf st).toList=P++(X++(Y++R))) (h1:(pendingOf st)[i]?=some (P.length,X.length,pw)) (h2:(pendingOf st)[i+1]?=some (P.length+X.length,Y.length,Ff))
  (hx:1<=X.length) (hy:1<=Y.length) (sx:pL κ X) (sy:pL κ Y) (has:∀ x∈X++Y,rQ κ x) {Q:Bool->b9->Prop}
  (q:∀ i_ M,kindOf i_=kd->failedOf i_=none->pendingOf i_=((pendingOf st).setIfInBounds i (P.length,X.length+Y.length,pw)).eraseIdxIfInBounds (i+1)->(arrOf i_).toList=P++(M++R)->M.Perm (X++Y)->pL κ M->Q true i_):wpS (av prog w) A E s (mergeAt' i) Q st:=by
 have size:(arrOf st).size=P.length+(X.length+(Y.length+R.length)):=by
  rw [<- aB,hL];simp
 have zC:∀ x∈X,rQ κ x:=fun x h=>has x (cK _ h)
 have zB:∀ x∈Y,rQ κ x:=fun x h=>has x (bo _ h)
 have getL:∀ (j:Nat) (x:a7),(P++(X++(Y++R)))[j]?=some x->(arrOf st)[j]?=some x:=fun j x h=>by
  rw [<- hL] at h
  rw [<- h];simp
 obtain ⟨kb,lb⟩:∃ kb,Y[0]?=some kb:=⟨Y[0],au _⟩
 have gb:(arrOf st)[P.length+X.length]?=some kb:=getL _ _ (by
  rw [a5 (by omega),bU,a5 (ay _),gL,aK (by omega)];exact lb)
 have dX:((arrOf st).toList.drop P.length).take X.length=X:=by rw [hL];simp
 have dY:((arrOf st).toList.drop (P.length+X.length)).take Y.length=Y:=by rw [hL,<- aY,eE (by simp),<- ar];simp
 have hkb:=zB kb (aC lb)
 have Im:∀ y∈Y,Le κ kb y:=fun y h=>Ag sy lb y (by simpa using h)
 refine (oa.at_ og) h1 h2 gb ?_
 refine Ap (base:=P.length) (n:=X.length) (hint:=0) ho dX ?_ hkb (by omega) (by omega) zC sx ?_
 ·exact hk
 refine fun k we kt kf=>⟨k,rfl,fun rM=>?_,fun rM=>?_⟩
 ·have hkX:k=X.length:=by omega
  refine q _ (X++Y) hk AY rfl (by show (arrOf st).toList=_;rw [hL,aY]) (fG _) ?_
  unfold pL
  rw [bO]
  refine ⟨sx,sy,fun x h y h'=>Le.trans ?_ (Im y h')⟩
  have:=kt x (by rw [hkX,dM];exact h)
  unfold rY at this
  rw [if_neg (by decide)] at this
  unfold Le;simpa using this
 have Il:∀ x∈X.take k,Le κ x kb:=fun x h=>by
  have:=kt x h
  unfold rY at this
  rw [if_neg (by decide)] at this
  unfold Le;simpa using this
 have OU:∀ x∈X.drop k,Le κ kb x:=fun x h=>by
  have:=kf x h
  unfold rY at this
  rw [if_neg (by decide)] at this
  exact Le.of (by simpa using this)
 obtain ⟨ka,la⟩:∃ ka,X[X.length-1]?=some ka:=⟨X[X.length-1],au _⟩
 have ga:(arrOf st)[P.length+k+(X.length-k)-1]?=some ka:=getL _ _ (by
  have:P.length+k+(X.length-k)-1=P.length+(X.length-1):=by omega
  rw [this,a5 (by omega),bU,aK (by omega)];exact la)
 have hka:=zC ka (aC la)
 have P5:∀ x∈X,Le κ x ka:=fun x h=>BC sx la x (by rw [cP (by omega)];exact h)
 refine ⟨ka,ga,?_⟩
 refine Ap (base:=P.length+X.length) (n:=Y.length) (hint:=Y.length-1) ho dY ?_ hka (by omega) (by omega) zB sy ?_
 ·exact hk
 refine fun m hm mt mf=>⟨m,rfl,fun Pk=>?_,fun Pk=>?_⟩
 ·refine q _ (X++Y) hk AY rfl (by show (arrOf st).toList=_;rw [hL,aY]) (fG _) ?_
  unfold pL
  rw [bO]
  refine ⟨sx,sy,fun x h y h'=>Le.trans (P5 x h) ?_⟩
  have:=mf y (by rw [Pk];exact h')
  unfold rY at this
  rw [if_pos rfl] at this
  exact this
 have OS:∀ y∈Y.take m,Le κ y ka:=fun y h=>by
  have:=mt y h
  unfold rY at this
  rw [if_pos rfl] at this
  exact Le.of this
 have OT:∀ y∈Y.drop m,Le κ ka y:=fun y h=>by
  have:=mf y h
  unfold rY at this
  rw [if_pos rfl] at this
  exact this
 have eX:((arrOf st).extract (P.length+k) (P.length+X.length)).toList=X.drop k:=by
  simp only [kX,jH]
  rw [hL,<- ei,mV,eE we]
  have:P.length+X.length-(P.length+k)=(X.drop k).length:=by rw [bN];omega
  rw [this,mW]
 have eY:((arrOf st).extract (P.length+X.length) (P.length+X.length+m)).toList=Y.take m:=by
  rw [Gr]
  rw [<- dY,gc,fU hm]
 have szX:((arrOf st).extract (P.length+k) (P.length+X.length)).size=X.length-k:=by rw [<- aB,eX,bN]
 have szY:((arrOf st).extract (P.length+X.length) (P.length+X.length+m)).size=m:=by rw [<- aB,eY,bG];omega
 have fin:∀ (mg:Array a7) (o9:b9),nS (setPending st (((pendingOf st).setIfInBounds i (P.length,X.length+Y.length,pw)).eraseIdxIfInBounds (i+1))) o9->Out κ (X.drop k) (Y.take m) mg.toList->Q (failedOf o9).isNone (setArr o9 (lay (arrOf o9) (P.length+k) mg.toList)):=fun mg o9 sm ot=>by
  have Ph:mg.toList.length=(X.length-k)+m:=by rw [ot.perm.length_eq,ar,bN,bG];omega
  have AX:failedOf o9=none:=sm.failed.trans AY
  rw [AX]
  have tN:arrOf o9=arrOf st:=sm.arr
  refine q _ (X.take k++(mg.toList++Y.drop m)) (sm.kind.trans hk) AX sm.pend ?_ ?_ ?_
  ·show (lay (arrOf o9) (P.length+k) mg.toList).toList=_
   rw [tN,Xf (by rw [Ph,size];omega),hL,Ph]
   have e1:(P++(X++(Y++R))).take (P.length+k)=P++X.take k:=by
    rw [List.take_append,cP (by omega),bU,List.take_append_of_le_length we]
   have e2:(P++(X++(Y++R))).drop (P.length+k+(X.length-k+m))=Y.drop m++R:=by
    have:P.length+k+(X.length-k+m)=(P++X).length+m:=by rw [ar];omega
    rw [this,<- aY,<- ei,mV,eE hm]
   rw [e1,e2]
   simp
  ·conv=>rhs;rw [<- bT k X,<- bT m Y]
   rw [aY]
   refine fc _ ?_
   rw [<- aY]
   exact ot.perm.append_right _
  ·unfold pL
   rw [bO,bO]
   have CC:∀ z∈mg.toList,z∈X.drop k\/z∈Y.take m:=fun z hz=>aN.mp (ot.perm.mem_iff.mp hz)
   refine ⟨sx.sublist (cH k X),⟨ot.srt,sy.sublist (cV m Y),fun z hz y hy=>?_⟩,fun x hx z hz=>?_⟩
   ·rcases CC z hz with h|h
    ·exact (P5 z (cy h)).trans (OT y hy)
    ·exact (OS z h).trans (OT y hy)
   ·rcases aN.mp hz with hz|hz
    ·rcases CC z hz with h|h
     ·exact (Il x hx).trans (OU z h)
     ·exact (Il x hx).trans (Im z (cf h))
    ·exact (Il x hx).trans (Im z (cy hz))
 have p1:∀ x∈((arrOf st).extract (P.length+k) (P.length+X.length)).toList,rQ κ x:=by rw [eX];exact fun x h=>zC x (cy h)
 have p2:∀ x∈((arrOf st).extract (P.length+X.length) (P.length+X.length+m)).toList,rQ κ x:=by rw [eY];exact fun x h=>zB x (cf h)
 have p3:pL κ ((arrOf st).extract (P.length+k) (P.length+X.length)).toList:=by rw [eX];exact sx.sublist (cV k X)
 have p4:pL κ ((arrOf st).extract (P.length+X.length) (P.length+X.length+m)).toList:=by rw [eY];exact sy.sublist (cH m Y)
 have p5:∀ x∈((arrOf st).extract (P.length+X.length) (P.length+X.length+m)).toList.take 1,∀ y∈((arrOf st).extract (P.length+k) (P.length+X.length)).toList,Le κ x y:=by
  rw [eX,eY,gc]
  intro x h y h'
  have:x=kb:=by
   rw [fU (by omega)] at h
   have e:=x_ lb
   rw [kK] at e
   rw [e] at h
   simpa using h
  rw [this];exact OU y h'
 have p6:∀ y∈((arrOf st).extract (P.length+X.length) (P.length+X.length+m)).toList,∀ x∈((arrOf st).extract (P.length+k) (P.length+X.length)).toList.drop (((arrOf st).extract (P.length+k) (P.length+X.length)).size-1),Le κ y x:=by
  rw [eX,eY,szX,ei]
  intro y h x h'
  have:k+(X.length-k-1)=X.length-1:=by omega
  rw [this] at h'
  have e:=x_ la
  rw [cP (by rw [bN];omega)] at e
  rw [e] at h'
  rw [de.mp h'];exact OS y h
 by_cases hc:X.length-k<=m
 ·rw [if_pos hc]
  refine RX ho ?_ p1 p2 p3 p4 (by omega) (by omega) p5 p6 fun r i_ sm ot=>fin r i_ sm (by rw [eX,eY] at ot;exact ot)
  exact hk
 ·rw [if_neg hc]
  refine TK ho ?_ p1 p2 p3 p4 (by omega) (by omega) p5 p6 fun r i_ sm ot=>fin r i_ sm (by rw [eX,eY] at ot;exact ot)
  exact hk
end
structure Rl (qw:b9) (lo:Nat) (st:b9):Prop where
 perm:(arrOf st).Perm (arrOf qw)
 kind:kindOf st=kindOf qw
 failed:failedOf st=failedOf qw
 pend:pendingOf st=pendingOf qw
 fix:∀ i,i<lo->(arrOf st)[i]?=(arrOf qw)[i]?
theorem Rl.refl (st:b9) (lo:Nat):Rl st lo st:=⟨mQ _,rfl,rfl,rfl,fun _ _=>rfl⟩
theorem Rl.size {qw st:b9} {lo:Nat} (r:Rl qw lo st):(arrOf st).size=(arrOf qw).size:=r.perm.size_eq
theorem Rl.rev {qw st:b9} {lo i j:Nat} (r:Rl qw lo st) (h:lo<=i) (hj:j<=(arrOf qw).size):Rl qw lo (setArr st (mirror (arrOf st) i j ((j-i)/2))):=by
 refine ⟨(mirror_perm _ _ _ _).trans r.perm,r.kind,r.failed,r.pend,fun k hk=>?_⟩
 show (mirror (arrOf st) i j ((j-i)/2))[k]?=_
 rw [getElem?_mirror_all (by rw [r.size];exact hj),if_neg (by omega)]
 exact r.fix k hk
section
variable {prog:aH} {w:aP} {A:aW} {E:ae->ag->Prop} {s:ag} {κ:aX} {qw st:b9} {lo:Nat} {kd:KT}
noncomputable def Up (κ:aX) (xs:Array a7) (lo n:Nat):Prop:=∀ i j,lo<=i->i<=j->j<lo+n->κ.kle (KK κ xs i) (KK κ xs j)
noncomputable def Dn (κ:aX) (xs:Array a7) (lo n:Nat):Prop:=∀ i j,lo<=i->i<=j->j<lo+n->κ.kle (KK κ xs j) (KK κ xs i)
theorem yM (a:κ.α):κ.kle a a:=κ.irrefl a
theorem Up.step (h:Up κ xs lo n) (hn:1<=n) (hle:κ.kle (KK κ xs (lo+n-1)) (KK κ xs (lo+n))):Up κ xs lo (n+1):=fun i j h1 h2 h3=>by
 by_cases e:j=lo+n
 ·subst e
  by_cases e2:i=lo+n
  ·subst e2;exact yM _
  ·exact ip (h i (lo+n-1) h1 (by omega) (by omega)) hle
 ·exact h i j h1 h2 (by omega)
theorem Dn.step (h:Dn κ xs lo n) (hn:1<=n) (hle:κ.kle (KK κ xs (lo+n)) (KK κ xs (lo+n-1))):Dn κ xs lo (n+1):=fun i j h1 h2 h3=>by
 by_cases e:j=lo+n
 ·subst e
  by_cases e2:i=lo+n
  ·subst e2;exact yM _
  ·exact ip hle (h i (lo+n-1) h1 (by omega) (by omega))
 ·exact h i j h1 h2 (by omega)
theorem Up.one (xs:Array a7):Up κ xs lo 1:=fun i j h1 h2 h3=>by
 have e1:i=lo:=by omega
 have e2:j=lo:=by omega
 rw [e1,e2];exact yM _
theorem Dn.one (xs:Array a7):Dn κ xs lo 1:=fun i j h1 h2 h3=>by
 have e1:i=lo:=by omega
 have e2:j=lo:=by omega
 rw [e1,e2];exact yM _
theorem BA (ho:uI prog w A s κ kd) (hs:∀ x∈(arrOf qw).toList,rQ κ x) (hk:kindOf qw=kd) (r:Rl qw lo st) (hi:i<(arrOf qw).size) (hj:j<(arrOf qw).size) (q:Q (some (κ.blt (KK κ (arrOf st) i) (KK κ (arrOf st) j))) st):wpS (av prog w) A E s (ltAt' i j) Q st:=by
 rw [<- r.size] at hi hj
 obtain ⟨x,gx,lx⟩:=uR hi
 obtain ⟨y,gy,ly⟩:=uR hj
 have hx:=hs x ((d8.mp r.perm).mem_iff.mp (aC lx))
 have hy:=hs y ((d8.mp r.perm).mem_iff.mp (aC ly))
 have ex:KK κ (arrOf st) i=ky κ x:=by unfold KK ky;rw [gx]
 have ey:KK κ (arrOf st) j=ky κ y:=by unfold KK ky;rw [gy]
 rw [ex,ey] at q
 rw [ltAt'_eq]
 exact aA (gq (aA (rH gx (aA (rH gy (Bn ho (r.kind.trans hk) hx hy q))))))
theorem Up.rev (d:Dn κ xs lo m) (h:lo+m<=xs.size):Up κ (mirror xs lo (lo+m) ((lo+m-lo)/2)) lo m:=fun i j h1 h2 h3=>by
 rw [KK_mirror h,KK_mirror h,if_pos (by omega),if_pos (by omega)]
 exact d _ _ (by omega) (by omega) (by omega)
set_option hygiene false in
local macro_rules|`(tactic| walk_at "asc")=>`(tactic| (
 refine aA (dm (cE (I:=fun k c i_=>i_=pQ/\∃ n,c=(none,n)/\n=k/\1<=n/\n<=nrem/\Up κ (arrOf pQ) lo n) (Q:=fun c i_=>i_=pQ/\∃ n,c=(none,n)/\1<=n/\n<=nrem/\Up κ (arrOf pQ) lo n/\(n=nrem\/κ.blt (KK κ (arrOf pQ) (lo+n)) (KK κ (arrOf pQ) (lo+n-1))=true)) ?_ ?_ ?_) ?_)
 ·rintro k c i_ h1 h2 ⟨rfl,n,rfl,rfl,g1,g2,g3⟩
  refine aA (BA (i:=lo+n) (j:=lo+n-1) ho hs hk r1 (by omega) (by omega) ?_)
  cases e:κ.blt (KK κ (arrOf i_) (lo+n)) (KK κ (arrOf i_) (lo+n-1)) with
  | true=>exact aL ⟨rfl,n,rfl,g1,g2,g3,.inr e⟩
  | false=>exact aL ⟨rfl,n+1,rfl,rfl,by omega,by omega,g3.step (by omega) e⟩
 ·rintro c i_ ⟨rfl,n,rfl,e,g1,g2,g3⟩
  exact ⟨rfl,n,rfl,g1,g2,g3,.inl (by omega)⟩
 ·exact ⟨rfl,_,rfl,rfl,CW,Pf,u1⟩))
set_option hygiene false in
local macro_rules|`(tactic| walk_at "fin")=>`(tactic| (
 refine aA (km ?_)
 have r1:=r4.rev (i:=lo) (j:=lo+n0) (ay lo) (by omega)
 have u1:Up κ (arrOf (setArr qe (mirror (arrOf qe) lo (lo+n0) ((lo+n0-lo)/2)))) lo n0:=Up.rev d4 (by rw [r4.size];omega)
 generalize setArr qe (mirror (arrOf qe) lo (lo+n0) ((lo+n0-lo)/2))=pQ at *
 walk_at "asc"
 ·rintro c i_ ⟨rfl,n,rfl,g1,g2,g3,_⟩
  exact aL (q n _ r1 g1 g2 g3)))
set_option hygiene false in
local macro_rules|`(tactic| walk_at "desc")=>`(tactic| (
 refine aA (iZ (dk ⟨rfl,aA (dm (cE (I:=fun k c i_=>Rl qw lo i_/\∃ n qV,c=(none,n,qV)/\n=k/\n<=nrem/\Dn κ (arrOf i_) lo n/\qV+1<=n/\(∀ i,lo+n-(qV+1)<=i->i<lo+n->KK κ (arrOf i_) i=KK κ (arrOf i_) (lo+n-1))) (Q:=fun c i_=>Rl qw lo i_/\∃ n qV,c=(none,n,qV)/\n<=nrem/\Dn κ (arrOf i_) lo n/\qV+1<=n/\(∀ i,lo+n-(qV+1)<=i->i<lo+n->KK κ (arrOf i_) i=KK κ (arrOf i_) (lo+n-1))) ?_ ?_ ?_) ?_)⟩))
 ·rintro k c o9 h1 h2 ⟨r3,n,qV,rfl,rfl,g2,g3,g4,g5⟩
  refine aA (BA (i:=lo+n) (j:=lo+n-1) ho hs hk r3 (by omega) (by omega) ?_)
  cases e:κ.blt (KK κ (arrOf o9) (lo+n)) (KK κ (arrOf o9) (lo+n-1)) with
  | true=>
   show wpS _ _ _ _ (if qV>0 then _ else _) _ o9
   by_cases hq:qV>0
   ·rw [if_pos hq]
    refine aA (km (aL ⟨r3.rev (i:=lo+n-(qV+1)) (j:=lo+n) (by omega) (by omega),n+1,0,rfl,rfl,by omega,?_,by omega,?_⟩))
    ·have kk:=j8 (κ:=κ) (xs:=arrOf o9) (i:=lo+n-(qV+1)) (j:=lo+n) (by rw [r3.size];omega) fun k a b=>g5 k a b
     have d:Dn κ (mirror (arrOf o9) (lo+n-(qV+1)) (lo+n) ((lo+n-(lo+n-(qV+1)))/2)) lo n:=fun i j a b c=>by rw [kk,kk];exact g3 i j a b c
     refine d.step (by omega) ?_
     rw [kk,kk]
     exact f7 e
    ·intro i a b
     have:i=lo+(n+1)-1:=by omega
     rw [this]
   ·rw [if_neg hq]
    refine aL ⟨r3,n+1,0,rfl,rfl,by omega,g3.step (by omega) (f7 e),by omega,?_⟩
    intro i a b
    have:i=lo+(n+1)-1:=by omega
    rw [this]
  | false=>
   refine aA (BA (i:=lo+n-1) (j:=lo+n) ho hs hk r3 (by omega) (by omega) ?_)
   cases e':κ.blt (KK κ (arrOf o9) (lo+n-1)) (KK κ (arrOf o9) (lo+n)) with
   | true=>exact aL ⟨r3,n,qV,rfl,g2,g3,g4,g5⟩
   | false=>
    have eq:KK κ (arrOf o9) (lo+n)=KK κ (arrOf o9) (lo+n-1):=κ.total _ _ e e'
    refine aL ⟨r3,n+1,qV+1,rfl,rfl,by omega,g3.step (by omega) e',by omega,?_⟩
    intro i a b
    have:lo+(n+1)-1=lo+n:=by omega
    rw [this]
    by_cases hi:i=lo+n
    ·rw [hi]
    ·rw [eq];exact g5 i (by omega) (by omega)
 ·rintro c o9 ⟨r3,n,qV,rfl,e,g2,g3,g4,g5⟩
  exact ⟨r3,n,qV,rfl,g2,g3,g4,g5⟩
 ·exact ⟨r2,n1+1,0,rfl,rfl,by omega,d2,by omega,fun i a b=>by
   have:i=lo+(n1+1)-1:=by omega
   rw [this]⟩
 ·rintro c o9 ⟨r3,n0,qV,rfl,Pf,g3,g4,g5⟩
  have CW:1<=n0:=by omega
  show wpS _ _ _ _ (if qV>0 then _ else _) Q o9
  by_cases hq:qV>0
  ·rw [if_pos hq]
   refine aA (km ?_)
   have r4:=r3.rev (i:=lo+n0-(qV+1)) (j:=lo+n0) (by omega) (by omega)
   have kk:=j8 (κ:=κ) (xs:=arrOf o9) (i:=lo+n0-(qV+1)) (j:=lo+n0) (by rw [r3.size];omega) fun k a b=>g5 k a b
   have d4:Dn κ (arrOf (setArr o9 (mirror (arrOf o9) (lo+n0-(qV+1)) (lo+n0) ((lo+n0-(lo+n0-(qV+1)))/2)))) lo n0:=fun i j a b c=>by
    show κ.kle (KK κ (mirror _ _ _ _) j) (KK κ (mirror _ _ _ _) i)
    rw [kk,kk];exact g3 i j a b c
   generalize setArr o9 (mirror (arrOf o9) (lo+n0-(qV+1)) (lo+n0) ((lo+n0-(lo+n0-(qV+1)))/2))=qe at *
   walk_at "fin"
  ·rw [if_neg hq]
   have r4:=r3
   have d4:=g3
   generalize hst4:o9=qe at *
   walk_at "fin"))
theorem Yz (ho:uI prog w A s κ kd) (hs:∀ x∈(arrOf qw).toList,rQ κ x) (hk:kindOf qw=kd) {nrem:Nat} (Pf:1<=nrem) (hN:lo+nrem<=(arrOf qw).size) {pQ:b9} (r1:Rl qw lo pQ) {Q:Option Nat->b9->Prop} (q:∀ m i_,Rl qw lo i_->1<=m->m<=nrem->Up κ (arrOf i_) lo m->Q (some m) i_):wpS (av prog w) A E s (countRun' lo nrem) Q pQ:=by
 rw [countRun'_eq]
 have u1:Up κ (arrOf pQ) lo 1:=Up.one _
 have CW:1<=1:=ay _
 walk_at "asc"
 rintro c i_ ⟨rfl,n1,rfl,g1,g2,g3,g4⟩
 show wpS _ _ _ _ (if (n1==nrem)=true then _ else _) Q i_
 by_cases e0:n1=nrem
 ·rw [if_pos (by simpa using e0)]
  exact aL (q n1 i_ r1 g1 g2 g3)
 rw [if_neg (by simpa using e0)]
 have pF:κ.blt (KK κ (arrOf i_) (lo+n1)) (KK κ (arrOf i_) (lo+n1-1))=true:=by
  rcases g4 with h|h
  ·exact absurd h e0
  ·exact h
 show wpS _ _ _ _ (if n1>1 then _ else _) Q i_
 by_cases hc:n1>1
 ·rw [if_pos hc]
  refine aA (BA ho hs hk r1 (by omega) (by omega) ?_)
  cases e:κ.blt (KK κ (arrOf i_) lo) (KK κ (arrOf i_) (lo+n1-1)) with
  | true=>exact aL (q n1 i_ r1 g1 g2 g3)
  | false=>
   refine aA (km ?_)
   have r2:=r1.rev (i:=lo) (j:=lo+n1) (ay lo) (by omega)
   have all:∀ k,lo<=k->k<lo+n1->KK κ (arrOf i_) k=KK κ (arrOf i_) (lo+n1-1):=fun k a b=>
    KeyOrd.kle_antisymm (g3 k (lo+n1-1) a (by omega) (by omega)) (ip (show κ.kle (KK κ (arrOf i_) (lo+n1-1)) (KK κ (arrOf i_) lo) from e) (g3 lo k (ay _) a b))
   have kk:=j8 (κ:=κ) (xs:=arrOf i_) (i:=lo) (j:=lo+n1) (by rw [r1.size];omega) all
   have d2:Dn κ (arrOf (setArr i_ (mirror (arrOf i_) lo (lo+n1) ((lo+n1-lo)/2)))) lo (n1+1):=by
    show Dn κ (mirror (arrOf i_) lo (lo+n1) ((lo+n1-lo)/2)) lo (n1+1)
    refine Dn.step (fun i j a b c=>?_) g1 ?_
    ·rw [kk,kk,all i a (by omega),all j (by omega) c];exact yM _
    ·rw [kk,kk];exact f7 pF
   generalize setArr i_ (mirror (arrOf i_) lo (lo+n1) ((lo+n1-lo)/2))=pB at *
   walk_at "desc"
 ·rw [if_neg hc]
  have r2:=r1
  have d2:Dn κ (arrOf i_) lo (n1+1):=by
   have e1:n1=1:=by omega
   subst e1
   exact Dn.step (Dn.one _) (ay _) (f7 pF)
  generalize hst2:i_=pB at *
  walk_at "desc"
end
section
variable {prog:aH} {w:aP} {A:aW} {E:ae->ag->Prop} {s:ag} {κ:aX} {qw:b9} {lo:Nat} {kd:KT}
theorem U2 (ho:uI prog w A s κ kd) (hs:∀ x∈(arrOf qw).toList,rQ κ x) (hk:kindOf qw=kd) (h1:1<=ok) (hn:ok<=n) (hN:lo+n<=(arrOf qw).size) (r1:Rl qw lo pQ) (u1:Up κ (arrOf pQ) lo ok) (q:∀ i_,Rl qw lo i_->Up κ (arrOf i_) lo n->Q true i_):wpS (av prog w) A E s (binarySort' lo n ok) Q pQ:=by
 rw [binarySort'_eq]
 refine aA (dm (cE (I:=fun k c i_=>Rl qw lo i_/\c=(none,())/\1<=k/\Up κ (arrOf i_) lo k) (Q:=fun c i_=>Rl qw lo i_/\c=(none,())/\Up κ (arrOf i_) lo n) ?_ ?_ ?_) ?_)
 ·rintro k c pB _ we ⟨r2,rfl,C4,u2⟩
  refine aA (dm (cE (I:=fun j c i_=>i_=pB/\∃ l r,c=(none,l,r)/\l<=r/\r<=k/\r-l<=k-j/\(∀ i,i<l->κ.kle (KK κ (arrOf pB) (lo+i)) (KK κ (arrOf pB) (lo+k)))/\(∀ i,r<=i->i<k->κ.blt (KK κ (arrOf pB) (lo+k)) (KK κ (arrOf pB) (lo+i))=true)) (Q:=fun c i_=>i_=pB/\∃ l,c=(none,l,l)/\l<=k/\(∀ i,i<l->κ.kle (KK κ (arrOf pB) (lo+i)) (KK κ (arrOf pB) (lo+k)))/\(∀ i,l<=i->i<k->κ.blt (KK κ (arrOf pB) (lo+k)) (KK κ (arrOf pB) (lo+i))=true)) ?_ ?_ ?_) ?_)
  ·rintro j c o9 _ hj ⟨rfl,l,r,rfl,g1,g2,g3,g4,g5⟩
   show wpS _ _ _ _ (if l ≥ r then _ else _) _ o9
   by_cases hc:l ≥ r
   ·rw [if_pos hc]
    have:l=r:=by omega
    subst this
    exact aL ⟨rfl,l,rfl,g2,g4,g5⟩
   ·rw [if_neg hc]
    refine aA (BA (i:=lo+k) (j:=lo+(l+r)/2) ho hs hk r2 (by omega) (by omega) ?_)
    cases e:κ.blt (KK κ (arrOf o9) (lo+k)) (KK κ (arrOf o9) (lo+(l+r)/2)) with
    | true=>exact aL ⟨rfl,l,(l+r)/2,rfl,by omega,by omega,by omega,g4,fun i hi hik=>KeyOrd.klt_of_klt_of_kle e (u2 _ _ (by omega) (by omega) (by omega))⟩
    | false=>exact aL ⟨rfl,(l+r)/2+1,r,rfl,by omega,by omega,by omega,fun i hi=>ip (u2 _ (lo+(l+r)/2) (by omega) (by omega) (by omega)) e,g5⟩
  ·rintro c o9 ⟨rfl,l,r,rfl,g1,g2,g3,g4,g5⟩
   rw [dL] at g3
   have:l=r:=by omega
   subst this
   exact ⟨rfl,l,rfl,g2,g4,g5⟩
  ·exact ⟨rfl,0,k,rfl,by omega,by omega,by omega,fun i hi=>by omega,fun i h1 h2=>by omega⟩
  ·rintro c o9 ⟨rfl,l,rfl,g2,g4,g5⟩
   show wpS (av prog w) A E s (moveDown' (lo+k) (lo+l) >>= _) _ o9
   rw [moveDown'_eq]
   have o_:lo+k<(arrOf o9).size:=by rw [r2.size];omega
   have ed:lo+k-(lo+l)=k-l:=by omega
   refine aA (fA (aL ⟨⟨(bubble_perm _ _ _).trans r2.perm,r2.kind,r2.failed,r2.pend,fun i hi=>?_⟩,rfl,by omega,?_⟩))
   ·show (bubble (arrOf o9) (lo+k) (lo+k-(lo+l)))[i]?=_
    rw [getElem?_bubble o_ _ (by omega),if_neg (by omega),if_neg (by omega)]
    exact r2.fix i hi
   ·show Up κ (bubble (arrOf o9) (lo+k) (lo+k-(lo+l))) lo (k+1)
    have kb:∀ x,KK κ (bubble (arrOf o9) (lo+k) (lo+k-(lo+l))) x=if x=lo+l then KK κ (arrOf o9) (lo+k) else if lo+l<x/\x<=lo+k then KK κ (arrOf o9) (x-1) else KK κ (arrOf o9) x:=fun x=>by
     rw [KK_bubble o_ (by omega)]
     have:lo+k-(lo+k-(lo+l))=lo+l:=by omega
     rw [this]
    have Ie:∀ x,lo<=x->x<lo+l->κ.kle (KK κ (arrOf o9) x) (KK κ (arrOf o9) (lo+k)):=fun x a b=>by
     have:=g4 (x-lo) (by omega)
     rw [show lo+(x-lo)=x by omega] at this;exact this
    have C7:∀ x,lo+l<=x->x<lo+k->κ.kle (KK κ (arrOf o9) (lo+k)) (KK κ (arrOf o9) x):=fun x a b=>by
     have:=g5 (x-lo) (by omega) (by omega)
     rw [show lo+(x-lo)=x by omega] at this;exact f7 this
    intro i j a b c
    rw [kb i,kb j]
    by_cases i1:i=lo+l
    ·rw [if_pos i1]
     by_cases j1:j=lo+l
     ·rw [if_pos j1];exact yM _
     ·rw [if_neg j1,if_pos (by omega)]
      exact C7 (j-1) (by omega) (by omega)
    ·rw [if_neg i1]
     by_cases i2:lo+l<i/\i<=lo+k
     ·rw [if_pos i2,if_neg (by omega),if_pos (by omega)]
      exact u2 _ _ (by omega) (by omega) (by omega)
     ·rw [if_neg i2]
      by_cases j1:j=lo+l
      ·rw [if_pos j1];exact Ie i a (by omega)
      ·rw [if_neg j1]
       by_cases j2:lo+l<j/\j<=lo+k
       ·rw [if_pos j2];exact u2 _ _ a (by omega) (by omega)
       ·rw [if_neg j2];exact u2 _ _ a b (by omega)
 ·rintro c pB ⟨r2,rfl,C4,u2⟩
  rw [show max (max ok 1) n=n by omega] at u2
  exact ⟨r2,rfl,u2⟩
 ·exact ⟨r1,rfl,by omega,by rw [show max ok 1=ok by omega];exact u1⟩
 ·rintro c pB ⟨r2,rfl,u2⟩
  exact aL (q pB r2 u2)
end
noncomputable def sP:Nat->List (List a7)->List (Nat×Nat)
 | _,[]=>[]
 | b,X::S=>(b,X.length)::sP (b+X.length) S
theorem EK:∀ (S T:List (List a7)) (b:Nat),sP b (S++T)=sP b S++sP (b+S.flatten.length) T
 | [],T,b=>by simp [sP]
 | X::S,T,b=>by
  rw [il,sP,sP,il,EK S T,dR,ar,li]
theorem yO:∀ (S:List (List a7)) (b:Nat),(sP b S).length=S.length
 | [],_=>rfl
 | X::S,b=>by rw [sP,bv,yO S,bv]
def se (t:Nat×Nat×Nat):Nat×Nat:=(t.1,t.2.1)
structure Pn (κ:aX) (kd:KT) (L0:List a7) (st:b9) (lo:Nat) (S:List (List a7)) (R:List a7):Prop where
 arr:(arrOf st).toList=S.flatten++R
 lo:S.flatten.length=lo
 pend:(pendingOf st).toList.map se=sP 0 S
 ne:∀ X∈S,1<=X.length
 srt:∀ X∈S,pL κ X
 kind:kindOf st=kd
 failed:failedOf st=none
 perm:(arrOf st).toList.Perm L0
theorem Pn.size {κ:aX} {kd:KT} {L0:List a7} {st:b9} {lo:Nat} {S:List (List a7)} {R:List a7} (h:Pn κ kd L0 st lo S R):(pendingOf st).size=S.length:=by
 have:=congrArg mq h.pend
 rw [aM,aB,yO] at this
 exact this
theorem Mf:∀ (S:List (List a7)),(∀ X∈S,1<=X.length)->S.length<=S.flatten.length
 | [],_=>by simp
 | X::S,h=>by
  rw [dR,ar,bv]
  have:=h X aI
  have:=Mf S fun Y hY=>h Y (aq _ hY)
  omega
theorem MX {α:Type}:∀ (S:List α) (i:Nat),i+1<S.length->∃ S1 X Y S2,S=S1++X::Y::S2/\S1.length=i
 | [],i,h=>by simp at h
 | [_],i,h=>by simp at h
 | X::Y::S,0,_=>⟨[],X,Y,S,rfl,rfl⟩
 | X::Y::S,i+1,h=>by
  obtain ⟨S1,A,B,S2,e,l⟩:=MX (Y::S) i (by simpa using h)
  exact ⟨X::S1,A,B,S2,by rw [e];rfl,by simp [l]⟩
theorem Na {α β:Type} (f:α->β):∀ (l:List α) (i:Nat),(l.eraseIdx i).map f=(l.map f).eraseIdx i
 | [],_=>rfl
 | _::_,0=>rfl
 | x::l,i+1=>by simp [Na f l i]
section
variable {prog:aH} {w:aP} {A:aW} {E:ae->ag->Prop} {s:ag} {κ:aX} {L0:List a7} {st:b9} {lo:Nat} {kd:KT}
theorem Lz (ho:uI prog w A s κ kd) (hs:∀ x∈L0,rQ κ x) (p:Pn κ kd L0 st lo S R) (hi:i+1<S.length) (q:∀ i_ S',Pn κ kd L0 i_ lo S' R->S'.length+1=S.length->Q true i_):wpS (av prog w) A E s (mergeAt' i) Q st:=by
 obtain ⟨S1,X,Y,S2,rfl,hl⟩:=MX S i hi
 have hp:=p.pend
 rw [EK,sP,sP,jR] at hp
 have Dl:∀ k a b,(sP 0 S1++(S1.flatten.length,X.length)::(S1.flatten.length+X.length,Y.length)::sP (S1.flatten.length+X.length+Y.length) S2)[k]?=some (a,b)->∃ pw,(pendingOf st)[k]?=some (a,b,pw):=fun k a b h=>by
  rw [<- hp,bh] at h
  have e0:(pendingOf st)[k]?=(pendingOf st).toList[k]?:=by simp
  cases e:(pendingOf st).toList[k]? with
  | none=>rw [e] at h;cases h
  | some t=>
   rw [e] at h
   obtain ⟨x,y,z⟩:=t
   injection h with h
   unfold se at h
   injection h with h1 h2
   dsimp only at h1 h2
   exact ⟨z,by rw [e0,e,h1,h2]⟩
 obtain ⟨pw,g1⟩:=Dl i S1.flatten.length X.length (by rw [a5 (by rw [yO];omega),yO,hl,gL];rfl)
 obtain ⟨Ff,g2⟩:=Dl (i+1) (S1.flatten.length+X.length) Y.length (by rw [a5 (by rw [yO];omega),yO,hl,bU];rfl)
 have tN:(arrOf st).toList=S1.flatten++(X++(Y++(S2.flatten++R))):=by rw [p.arr];simp
 have yU:X∈S1++X::Y::S2:=by simp
 have CD:Y∈S1++X::Y::S2:=by simp
 refine Rv ho p.kind p.failed tN g1 g2 (p.ne X yU) (p.ne Y CD) (p.srt X yU) (p.srt Y CD) (fun x hx=>hs x (p.perm.mem_iff.mp (by
   rw [tN]
   rcases aN.mp hx with h|h<;>simp [h]))) fun i_ M k1 k2 k3 k4 k5 k6=>?_
 have lM:M.length=X.length+Y.length:=by rw [k5.length_eq,ar]
 refine q i_ (S1++M::S2) ⟨?_,?_,?_,?_,?_,k1,k2,?_⟩ (by simp;omega)
 ·rw [k4];simp
 ·rw [<- p.lo];simp [lM];omega
 ·rw [k3,EK,sP,jR,lM]
  have zj:i<(pendingOf st).size:=(d7.mp g1).1
  have u0:i+1<(pendingOf st).size:=(d7.mp g2).1
  rw [Array.eraseIdxIfInBounds,dif_pos (by rw [jQ];exact u0),Array.toList_eraseIdx,js,Na,List.map_set,hp]
  have l1:(sP 0 S1).length=i:=by rw [yO,hl]
  rw [gd _ _ (by omega),l1,gL,lS,List.eraseIdx_append_of_length_le (by omega),l1,bU]
  show _++(_::sP _ S2)=_
  rw [li];rfl
 ·intro Z hZ
  simp only [aN,aw] at hZ
  rcases hZ with h|rfl|h
  ·exact p.ne Z (by simp [h])
  ·rw [lM];have:=p.ne X yU;omega
  ·exact p.ne Z (by simp [h])
 ·intro Z hZ
  simp only [aN,aw] at hZ
  rcases hZ with h|rfl|h
  ·exact p.srt Z (by simp [h])
  ·exact k6
  ·exact p.srt Z (by simp [h])
 ·rw [k4]
  refine List.Perm.trans ?_ p.perm
  rw [tN]
  refine fc _ ?_
  rw [<- aY X]
  exact k5.append_right _
end
section
variable {prog:aH} {w:aP} {A:aW} {E:ae->ag->Prop} {s:ag} {κ:aX} {L0:List a7} {st:b9} {lo:Nat} {kd:KT}
theorem TV (u:Up κ xs lo m) (h:lo+m<=xs.size):pL κ ((xs.toList.drop lo).take m):=by
 unfold pL
 rw [eu]
 intro i j hi hj tI
 rw [bG,bN,aB] at hi hj
 have hk:∀ k,k<m->∀ (hk:k<((xs.toList.drop lo).take m).length),ky κ ((xs.toList.drop lo).take m)[k]=KK κ xs (lo+k):=fun k h' hk=>by
  rw [mi,mj]
  unfold KK ky
  rw [iN,aO (by omega)]
 unfold Le
 rw [hk i (by omega),hk j (by omega)]
 exact u _ _ (by omega) (by omega) (by omega)
theorem Pn.run (p:Pn κ kd L0 st lo S R) (r:Rl st lo i_) (hm:lo+m<=(arrOf st).size) (u:Up κ (arrOf i_) lo m):∃ R',Pn κ kd L0 i_ lo S R'/\R'.length=R.length/\pL κ (R'.take m):=by
 have hl:=p.lo
 have o_:=r.size
 have hlen:(arrOf i_).toList.length=lo+R.length:=by rw [aB,o_,<- aB,p.arr,ar,hl]
 have pre:(arrOf i_).toList.take lo=S.flatten:=by
  have e:(arrOf st).toList.take lo=S.flatten:=by rw [p.arr,<- hl,mW]
  rw [<- e]
  apply mm
  intro i
  by_cases hi:i<lo
  ·rw [fL hi,fL hi,c8,c8];exact r.fix i hi
  ·rw [jt (by omega),jt (by omega)]
 have e2:(arrOf i_).toList=S.flatten++(arrOf i_).toList.drop lo:=by
  conv=>lhs;rw [<- bT lo (arrOf i_).toList]
  rw [pre]
 refine ⟨(arrOf i_).toList.drop lo,⟨e2,hl,by rw [r.pend];exact p.pend,p.ne,p.srt,r.kind.trans p.kind,r.failed.trans p.failed,(d8.mp r.perm).trans p.perm⟩,by rw [bN,hlen];omega,?_⟩
 exact TV u (by rw [o_];exact hm)
theorem Pn.push (p:Pn κ kd L0 st lo S R) (h1:1<=m) (hm:m<=R.length) (sr:pL κ (R.take m)):Pn κ kd L0 (setPending st ((pendingOf st).push (lo,m,pw))) (lo+m) (S++[R.take m]) (R.drop m):=by
 have lt:(R.take m).length=m:=by rw [bG];omega
 refine ⟨?_,?_,?_,?_,?_,p.kind,p.failed,p.perm⟩
 ·show (arrOf st).toList=_
  rw [p.arr];simp
 ·rw [List.flatten_append,ar,p.lo]
  show lo+(R.take m++[]).length=_
  rw [bM,lt]
 ·show ((pendingOf st).push (lo,m,pw)).toList.map se=_
  rw [eD,dW,p.pend,EK,p.lo,jR,sP,sP,lt];rfl
 ·intro X hX
  rcases aN.mp hX with h|h
  ·exact p.ne X h
  ·rw [de.mp h,lt];exact h1
 ·intro X hX
  rcases aN.mp hX with h|h
  ·exact p.srt X h
  ·rw [de.mp h];exact sr
theorem NU {α β:Type} (f:α->β) (g:α->α) (h:∀ x,f (g x)=f x):∀ (l:List α) (i:Nat),(l.modify i g).map f=l.map f
 | [],_=>by simp
 | x::l,0=>by simp [h]
 | x::l,i+1=>by simp [NU f g h l i]
theorem Pn.power (p:Pn κ kd L0 st lo S R) (hg:∀ x,se (g x)=se x) (i:Nat):Pn κ kd L0 (setPending st ((pendingOf st).modify i g)) lo S R:=by
 refine ⟨p.arr,p.lo,?_,p.ne,p.srt,p.kind,p.failed,p.perm⟩
 show ((pendingOf st).modify i g).toList.map se=_
 rw [Array.toList_modify,NU se g hg,p.pend]
theorem TH (h:pL κ xs.toList):lT κ xs xs.size:=fun i j tI hj=>by
 by_cases e:i=j
 ·subst e;exact yM _
 have h1:KK κ xs i=ky κ xs[i]:=by unfold KK ky;rw [aO (by omega)]
 have h2:KK κ xs j=ky κ xs[j]:=by unfold KK ky;rw [aO hj]
 rw [h1,h2]
 have:=eu.mp h i j (by rw [aB];omega) (by rw [aB];omega) (by omega)
 rw [iN,iN] at this
 exact this
set_option hygiene false in
local macro_rules|`(tactic| walk_at "jp")=>`(tactic| (
 refine aA (gq ?_)
 cases hb:(pendingOf o9).back? with
 | none=>exact aA (fA (aL ⟨lo+m,_,_,rfl,p3.push IV CZ s3,by omega⟩))
 | some t=>
  obtain ⟨s1,n1',pw0⟩:=t
  refine aA (dm (cE (I:=fun j c i_=>c=(none,())/\∃ S',Pn κ kd a₀.toList i_ lo S' R3) (Q:=fun c i_=>c=(none,())/\∃ S',Pn κ kd a₀.toList i_ lo S' R3) ?_ ?_ ?_) ?_)
  ·rintro j c qe _ _ ⟨rfl,S',p4⟩
   refine aA (gq ?_)
   show wpS _ _ _ _ (match (if (pendingOf qe).size>1 then (pendingOf qe)[(pendingOf qe).size-2]? else none) with|some (fst,fst_1,older)=>_|x=>_) _ qe
   cases ht:(if (pendingOf qe).size>1 then (pendingOf qe)[(pendingOf qe).size-2]? else none) with
   | none=>exact aL ⟨rfl,S',p4⟩
   | some t=>
    obtain ⟨x,y,older⟩:=t
    have hz:(pendingOf qe).size>1:=by
     by_cases hz:(pendingOf qe).size>1
     ·exact hz
     ·rw [if_neg hz] at ht;cases ht
    show wpS _ _ _ _ (if older<=_ then _ else _) _ qe
    split
    ·exact aL ⟨rfl,S',p4⟩
    ·exact aA (Lz ho has p4 (by rw [p4.size] at *;omega) fun Fb S5 p5 _=>aL ⟨rfl,S5,p5⟩)
  ·rintro c qe h;exact h
  ·exact ⟨rfl,S,p3⟩
  ·rintro c qe ⟨rfl,S',p4⟩
   refine aA (fA (aA (fA (aL ⟨lo+m,_,_,rfl,Pn.push (Pn.power p4 ?_ _) IV CZ s3,by omega⟩))))
   rintro ⟨a,b,c⟩
   rfl))
set_option maxHeartbeats 0 in
theorem V0 (ho:uI prog w A s κ kd) (hs:lz κ a₀) (bp:(arrOf st).Perm a₀) (bk:kindOf st=kd) (bf:failedOf st=none) (bn:pendingOf st = #[]) (q:∀ i_,(arrOf i_).Perm a₀->failedOf i_=none->lT κ (arrOf i_) a₀.size->Q () i_):wpS (av prog w) A E s sortRuns' Q st:=by
 have has:∀ x∈a₀.toList,rQ κ x:=hs
 have p0:Pn κ kd a₀.toList st 0 [] (arrOf st).toList:=⟨rfl,rfl,by rw [bn];rfl,by simp,by simp,bk,bf,d8.mp bp⟩
 have hN:(arrOf st).size=a₀.size:=bp.size_eq
 rw [sortRuns'_eq]
 refine aA (gq ?_)
 show wpS _ _ _ _ (forIn [:(arrOf st).size] (none,0) _ >>= _) Q st
 rw [hN]
 refine aA (dm (cE (I:=fun k c i_=>∃ lo S R,c=(none,lo)/\Pn κ kd a₀.toList i_ lo S R/\k<=lo) (Q:=fun c i_=>∃ lo S R,c=(none,lo)/\Pn κ kd a₀.toList i_ lo S R/\a₀.size<=lo) ?_ ?_ ?_) ?_)
 ·rintro k c pQ _ hk ⟨lo,S,R,rfl,p,C2⟩
  have hlen:lo+R.length=a₀.size:=by
   have:=p.perm.length_eq
   rw [p.arr,ar,p.lo,aB] at this
   exact this
  have o_:(arrOf pQ).size=a₀.size:=by rw [<- aB,p.perm.length_eq,aB]
  show wpS _ _ _ _ (if lo ≥ _ then _ else _) _ pQ
  by_cases hc:lo ≥ a₀.size
  ·rw [if_pos (by first|exact hc|(rw [hN];exact hc))]
   exact aL ⟨lo,S,R,rfl,p,hc⟩
  rw [if_neg (by first|exact hc|(rw [hN];exact hc))]
  have Dg:∀ x∈(arrOf pQ).toList,rQ κ x:=fun x hx=>has x (p.perm.mem_iff.mp hx)
  refine aA (Yz (lo:=lo) (nrem:=a₀.size-lo) ho Dg p.kind (by omega) (by omega) (Rl.refl pQ lo) fun n pB r2 n1 n2 u2=>?_)
  show wpS _ _ _ _ (if n<minRun' a₀.size a₀.size 0 then _ else _) _ pB
  by_cases hm:n<minRun' a₀.size a₀.size 0
  ·rw [if_pos hm]
   refine aA (iZ (dk ⟨rfl,aA (U2 (lo:=lo) (n:=min (a₀.size-lo) (minRun' a₀.size a₀.size 0)) (ok:=n) ho Dg p.kind n1 (by omega) (by omega) r2 u2 fun o9 r3 u3=>?_)⟩))
   obtain ⟨R3,p3,l3,s3⟩:=p.run r3 (by omega) u3
   have IV:1<=min (a₀.size-lo) (minRun' a₀.size a₀.size 0):=by omega
   have CZ:min (a₀.size-lo) (minRun' a₀.size a₀.size 0)<=R3.length:=by omega
   generalize min (a₀.size-lo) (minRun' a₀.size a₀.size 0)=m at *
   walk_at "jp"
  ·rw [if_neg hm]
   obtain ⟨R3,p3,l3,s3⟩:=p.run r2 (by omega) u2
   have IV:1<=n:=n1
   have CZ:n<=R3.length:=by omega
   generalize hst3:pB=o9 at *
   generalize hmn:n=m at *
   walk_at "jp"
 ·rintro c pQ ⟨lo,S,R,rfl,p,C2⟩
  exact ⟨lo,S,R,rfl,p,by rw [dL] at C2;exact C2⟩
 ·exact ⟨0,[],_,rfl,p0,ay _⟩
 ·rintro c pQ ⟨lo,S,R,rfl,p,C2⟩
  have hR:R=[]:=by
   have h:=p.perm.length_eq
   rw [p.arr,ar,p.lo] at h
   have h2:a₀.toList.length=a₀.size:=aB
   exact dg.mp (by omega)
  refine aA (dm (cE (I:=fun k c i_=>c=(none,())/\∃ S,Pn κ kd a₀.toList i_ lo S R/\S.length<=a₀.size-k) (Q:=fun c i_=>c=(none,())/\∃ S,Pn κ kd a₀.toList i_ lo S R/\S.length<=1) ?_ ?_ ?_) ?_)
  ·rintro k c pB _ hk ⟨rfl,S',p2,hS⟩
   refine aA (gq ?_)
   show wpS _ _ _ _ (if (pendingOf pB).size<=1 then _ else _) _ pB
   by_cases hc:(pendingOf pB).size<=1
   ·rw [if_pos hc]
    exact aL ⟨rfl,S',p2,by rw [<- p2.size];exact hc⟩
   ·rw [if_neg hc]
    have o_:=p2.size
    refine aA (Lz ho has p2 ?_ fun o9 S3 p3 h3=>aL ⟨rfl,S3,p3,by omega⟩)
    repeat' split
    all_goals omega
  ·rintro c pB ⟨rfl,S',p2,hS⟩
   exact ⟨rfl,S',p2,by rw [dL] at hS;omega⟩
  ·refine ⟨rfl,S,p,?_⟩
   have h1:=Mf S p.ne
   have h:=p.perm.length_eq
   rw [p.arr,ar] at h
   have h2:a₀.toList.length=a₀.size:=aB
   omega
  ·rintro c pB ⟨rfl,S',p2,hS⟩
   have tN:=p2.arr
   rw [hR,bM] at tN
   have o_:(arrOf pB).size=a₀.size:=by rw [<- aB,p2.perm.length_eq,aB]
   refine aL (q pB (d8.mpr p2.perm) p2.failed ?_)
   rw [<- o_]
   apply TH
   rw [tN]
   match S',hS with
   | [],_=>exact ft
   | [X],_=>rw [dR,List.flatten_nil,bM];exact p2.srt X aI
end
theorem list_sort_big (ho:κ.OneLt) (gl:s.heap.get? a=some (seqObj "list" vs.toArray n)) (hs:lz κ (pairsOf vs)) (hk:∀ Ci Cg pA,vs=Ci::Cg::pA->keyKind' (Ci::Cg::pA).toArray=pure oneType')
  (hl:vs.length<=100000) (q:∀ i_:b9,(arrOf i_).Perm (pairsOf vs)->lT κ (arrOf i_) (pairsOf vs).size->P (Fin.done (Flow.ret cx)) { heap:=sortedHeap s.heap a vs (m8 (fun x=>x.snd) (arrOf i_)),gens:=s.gens,drawn:=s.drawn,toks:=s.toks,os:=s.os }):am (av prog w) A (cQ.«list.sort» { pos:=[db a] }) P E s:=by
 by_cases FF:vs.length<64
 ·exact list_sort_treeK ho gl hs hk FF q
 rw [list_sort_plain]
 have sz:(100000:Nat)<=sizeLine:=by decide
 obtain ⟨v1,v2,pA,rfl⟩:∃ v1 v2 pA,vs=v1::v2::pA:=by
  match vs,FF with
  | [],h=>exact absurd (by show 0<64;decide) h
  | [_],h=>exact absurd (by show 1<64;decide) h
  | v1::v2::pA,_=>exact ⟨v1,v2,pA,rfl⟩
 generalize IA:v1::v2::pA=vs at *
 have g1:=bA (dN fun _=>#[]) gl rfl
 have g2:=ah (seqObj "list" #[] 0) (ah (seqObj "tuple" vs.toArray 0) g1)
 refine aa (listItems_at gl rfl (aa (listUpdate_at gl rfl (aa (seqEpoch_at g1 rfl (aa (iY (aa (wpAny_newList (cb ?_) (by decide))) (by simpa using aU hl sz))))) (by simpa using aU hl sz) (by show 0<=sizeLine+1;omega))))
 have o_:¬ vs.toArray.size<2:=by rw [az];omega
 show am (av prog w) A (if vs.toArray.size<2 then _ else _) P E _
 rw [if_neg o_,<- IA,hk v1 v2 pA IA.symm,IA]
 refine aa (aj ?_)
 rw [if_neg o_]
 show am (av prog w) A (sortRuns'.run (SortSt.mk' oneType' (vs.toArray.zip vs.toArray) #[] 7 none) >>= _) P E { heap:=((s.heap.update a (dN fun x=>#[])).push (seqObj "tuple" vs.toArray 0)).push (seqObj "list" #[] 0),gens:=s.gens,drawn:=s.drawn,toks:=s.toks,os:=s.os }
 refine aa (dF (V0 (Q:=fun _ i_=>(arrOf i_).Perm (pairsOf vs)/\failedOf i_=none/\lT κ (arrOf i_) (pairsOf vs).size) (uI.one ho) (a₀:=pairsOf vs) hs (mQ _) rfl rfl rfl fun i_ a1 a2 a3=>⟨a1,a2,a3⟩) ?_ fun _ _ h=>h)
 rintro ⟨_,i_⟩ s' ⟨rfl,a1,a2,a3⟩
 have hp:(m8 (fun x=>x.snd) (arrOf i_)).size<=100000:=by
  rw [Array.size_map,a1.size_eq]
  show (vs.toArray.zip vs.toArray).size<=_
  rw [Array.size_zip,az];omega
 refine aa (seqEpoch_at g2 rfl (aa (listUpdate_at g2 rfl ?_ (by show 0<=sizeLine;omega) (by show (m8 _ _).size<=sizeLine+1;omega))))
 dsimp only at a2
 show am (av prog w) A (match failedOf i_ with|some e=>_|x=>_) P E _
 rw [a2]
 show am (av prog w) A (if ((if _ then n else n+1) !=(if _ then n else n+1))=true then _ else _) P E _
 rw [if_neg (by simp)]
 exact aj (q i_ a1 a3)
end TS
namespace DL
open PySem
theorem Vn (t:jS) (es:Array (Int×ae)) (h:Int) (x:ae):(layNew t es h x).2.1.led=t.led:=by
 unfold layNew
 split
 ·rename_i slot wd _
  show ((t.put slot).1.orStandIn _).led=_
  unfold SetTable.orStandIn
  split<;>rfl
 ·rfl
theorem XZ (t:jS) (es:Array (Int×ae)) (n:Nat):(relayAll t es n).2.1.led=t.led/\(t.plain=false->(relayAll t es n).2.1.plain=false):=by
 unfold relayAll
 cases h:t.relaid (es.map (·.1)) n with
 | none=>exact ⟨rfl,fun _=>rfl⟩
 | some p=>
  obtain ⟨t',order⟩:=p
  have hl:t'.led=t.led/\t'.plain=t.plain:=by
   unfold SetTable.relaid SetTable.laid at h
   cases hc:SetTable.layClean (SetTable.sizeAbove n-1) (es.map (·.1)) with
   | none=>rw [hc] at h;cases h
   | some ow=>rw [hc] at h;cases h;exact ⟨rfl,rfl⟩
  dsimp only
  split
  ·exact ⟨hl.1,fun e=>hl.2.trans e⟩
  ·exact ⟨rfl,fun _=>rfl⟩
def ve (w:aP):Bool:=w.params.followText "set-order"
def rF (e:Int×ae):Str:=match e.2 with
 | .str x _=>x
 | _=>⟨#[]⟩
noncomputable def nW (P:aH) (w:aP) (a:af) (ks:List Str) (h:aT):Prop:=
 ∃ o es ep t,h.get? a=some o/\o.ExactSet/\o.data=.set es ep t/\iw (strKind P w) es.toList/\(es.toList.map rF).Perm ks/\ks.Nodup/\es.size<scanBound/\t.fits es.size=true/\(ve w=false->t.led=true)/\(es.size≠0->t.plain=false)
section
variable {P:aH} {w:aP} {A:aW} {E:ae->ag->Prop} {s:ag} {a:af} {ks:List Str}
theorem nW.keep (k:∀ o,h.get? a=some o->h'.get? a=some o):nW P w a ks h->nW P w a ks h':=fun ⟨o,es,ep,t,ho,r⟩=>⟨o,es,ep,t,k o ho,r⟩
theorem nW.size (x:nW P w a ks h):∃ o es ep t,h.get? a=some o/\o.data=.set es ep t/\es.size=ks.length:=by
 obtain ⟨o,es,ep,t,ho,hx,hd,rb,hp,_⟩:=x
 exact ⟨o,es,ep,t,ho,hd,by rw [<- hp.length_eq];simp⟩
theorem G5 (h:iw (strKind P w) l) (he:e∈l):∃ t,e.2=.str (rF e) t:=by
 obtain ⟨⟨k,hk,_⟩,_⟩:=h e he
 obtain ⟨t,ht⟩:=iP (x:=k) (v:=e.2) hk
 exact ⟨t,by unfold rF;rw [ht]⟩
theorem Lp (h:e.2=.str (rF e) t) (x:Str):(strKind P w).is x e.2=true↔rF e=x:=by
 rw [h]
 constructor
 ·intro q
  obtain ⟨t',e'⟩:=iP (x:=x) (v:=.str (rF e) t) q
  injection e'
 ·intro q
  rw [q]
  show fe x (.str x t)=true
  simp [fe]
def ur (ks:List Str) (x:Str):List Str:=if ks.contains x=true then ks else ks++[x]
theorem Lo {h:aT} {o:Obj} {es es':Array (Int×ae)} {ep:Nat} {t t':jS} {ks':List Str} (ho:h.get? a=some o) (hx:o.ExactSet) (hd:o.data=.set es ep t) (rb:iw (strKind P w) es'.toList) (hp:(es'.toList.map rF).Perm ks') (hn:ks'.Nodup)
  (hb:es'.size<scanBound) (hf:t'.fits es'.size=true) (hl:ve w=false->t'.led=true) (p_:es'.size≠0->t'.plain=false):nW P w a ks' (h.update a (kZ es' t'))/\(h.update a (kZ es' t')).get? a=some { o with data:=.set es' (ep+1) t' }:=by
 have g:=bA (kZ es' t') ho (by rw [putSet_of es' t' hd];rfl)
 rw [putSet_of es' t' hd] at g
 exact ⟨⟨_,es',ep+1,t',g,hx,rfl,rb,hp,hn,hb,hf,hl,p_⟩,g⟩
theorem Ql {x:Str} {tk:Tok} {Q:Bool->ag->Prop} (hS:nW P w a ks s.heap) (v9:ks.length+1<scanBound)
  (h:∀ b h',cM a s.heap h'->nW P w a (ur ks x) h'->Q b { s with heap:=h' }):
  am (av P w) A (setAddHashed a (.str x tk) ((strKind P w).hash x)) Q E s:=by
 obtain ⟨o,es,ep,t,ho,hx,hd,rb,hp,hn,hb,hf,hl,p_⟩:=hS
 have uf:(strKind P w).is x (.str x tk)=true:=by show fe x (.str x tk)=true;simp [fe]
 have o_:es.size=ks.length:=by rw [<- hp.length_eq];simp
 unfold setAddHashed setAddHashedIn
 refine cb (aa (fv ho hd hf ?_))
 dsimp only
 rw [byScan_of (x:=.str x tk) rfl hb rb,if_pos rfl]
 unfold setAddByScan
 refine aa (aa (dk (aa (wpAny_setScan_of uf ho hd hf rb ?_))))
 cases hr:List.findIdx? (fun e=>(strKind P w).is x e.2) es.toList with
 | some j=>
  dsimp only
  obtain ⟨hj,hpj,_⟩:=List.findIdx?_eq_some_iff_getElem.mp hr
  have tH:x∈ks:=by
   obtain ⟨t',IF⟩:=G5 rb (cr hj)
   have:=(Lp IF x).mp hpj
   exact hp.mem_iff.mp (bb.mpr ⟨_,cr hj,this⟩)
  refine aj (aj ?_)
  have:=h false s.heap (Heap.SameBut.refl a s.heap) (by
   unfold ur
   rw [if_pos (cm.mpr tH)]
   exact ⟨o,es,ep,t,ho,hx,hd,rb,hp,hn,hb,hf,hl,p_⟩)
  cases s;exact this
 | none=>
  dsimp only
  have CU:x∉ks:=fun hm=>by
   obtain ⟨e,he,ek⟩:=bb.mp (hp.mem_iff.mpr hm)
   obtain ⟨t',IF⟩:=G5 rb he
   have:=List.findIdx?_eq_none_iff.mp hr e he
   rw [(Lp IF x).mpr ek] at this
   cases this
  have ea:ur ks x=ks++[x]:=by unfold ur;rw [if_neg (fun z=>CU (cm.mp z))]
  have vG:=layNew_perm t es ((strKind P w).hash x) (.str x tk)
  have Fy:=layNew_fits t es ((strKind P w).hash x) (.str x tk)
  have Fv:=Vn t es ((strKind P w).hash x) (.str x tk)
  generalize layNew t es ((strKind P w).hash x) (.str x tk)=L at vG Fy Fv ⊢
  obtain ⟨rP,t1,wd,gv⟩:=L
  dsimp only at vG Fy Fv ⊢
  rw [eD] at vG
  have C9:iw (strKind P w) rP.toList:=(rb.push uf rfl).perm vG
  have ym:(rP.toList.map rF).Perm (ks++[x]):=by
   refine (vG.map rF).trans ?_
   rw [dW]
   exact hp.append_right _
  have CW:(ks++[x]).Nodup:=by
   rw [fu]
   exact ⟨hn,by simp,fun p hp q hq=>by
    have:q=x:=by simpa using hq
    subst this;rintro rfl;exact CU hp⟩
  have zj:rP.size=ks.length+1:=by rw [<- aB,<- aM (f:=rF),ym.length_eq];simp
  have Jq:rP.size<scanBound:=by rw [zj];exact v9
  have gw:∀ (b:Bool) {s1:ag} {Q':Unit->ag->Prop},Q' () s1->am (av P w) A (match b with|true=>rule "set.scan.the-table-gave-way"|false=>pure ()) Q' E s1:=fun b s1 Q' hq=>by
   cases b
   ·exact aj hq
   ·exact dk hq
  refine aa (gw _ ?_)
  have tail:∀ t2:jS,t2.led=t.led->t2.plain=false->t2.fits rP.size=true->am (av P w) A (do
    storeSet a rP t2
    if (!wd&&t2.tooFull)=true then do
      (match (relayAll t2 rP (fJ rP.size)).2.2 with|true=>rule "set.scan.the-table-gave-way"|false=>pure ())
      storeSet a (relayAll t2 rP (fJ rP.size)).1 (relayAll t2 rP (fJ rP.size)).2.1
      pure (some true)
     else pure (some true)) (fun r s'=>am (av P w) A (match r with|some added=>(pure added:Sem Bool)|none=>setAddHashedIn a (.str x tk) ((strKind P w).hash x) 99999) Q E s') E s:=by
   intro t2 h1 h2 h3
   obtain ⟨S1,g1⟩:=Lo (P:=P) (w:=w) (ks':=ks++[x]) (es':=rP) (t':=t2) ho hx hd C9 ym CW Jq h3 (fun e=>h1.trans (hl e)) (fun _=>h2)
   have sb:=dZ s.heap a (kZ rP t2)
   refine aa (wpAny_storeSet_of ho hd ?_ (jB Jq))
   split
   ·have rp:=relayAll_perm t2 rP (fJ rP.size)
    have rf:=relayAll_fits t2 rP (fJ rP.size)
    have rl:=XZ t2 rP (fJ rP.size)
    generalize relayAll t2 rP (fJ rP.size)=R at rp rf rl ⊢
    obtain ⟨JB,t3,gv2⟩:=R
    dsimp only at rp rf rl ⊢
    have s2:JB.size=rP.size:=by rw [<- aB,rp.length_eq,aB]
    have b2:JB.size<scanBound:=by rw [s2];exact Jq
    refine aa (gw _ (aa (wpAny_storeSet_of g1 rfl ?_ (jB b2))))
    obtain ⟨S2,_⟩:=Lo (P:=P) (w:=w) (ks':=ks++[x]) (es':=JB) (t':=t3) g1 hx rfl (C9.perm rp) ((rp.map rF).trans ym) CW b2 rf (fun e=>rl.1.trans (h1.trans (hl e))) (fun _=>rl.2 h2)
    exact aj (aj (h true _ (sb.trans (dZ _ a _)) (by rw [ea];exact S2)))
   ·exact aj (aj (h true _ sb (by rw [ea];exact S1)))
  split
  ·rename_i Pe
   refine aa ?_
   rw [hashByValue_scannable 8 (x:=.str x tk) rfl]
   refine aj ?_
   exact tail { t1 with plain:=false } Fv rfl (SetTable.fits_plain_off Fy)
  ·rename_i Pe
   refine aa (aj ?_)
   rw [if_pos rfl]
   exact tail t1 Fv (by simpa using Pe) Fy
end
def sT (l:List Str):List Str:=l.foldl ur []
theorem WG (l:List Str) (x:Str):sT (l++[x])=ur (sT l) x:=by unfold sT;rw [List.foldl_append];rfl
theorem WQ (ks:List Str) (x:Str):(ur ks x).length<=ks.length+1:=by unfold ur;split<;>simp
theorem Md:∀ (l:List Str),(sT l).length<=l.length:=fun l=>by
 have:∀ (l ks:List Str),(l.foldl ur ks).length<=ks.length+l.length:=by
  intro l
  induction l with
  | nil=>intro ks;exact ay _
  | cons x l ih=>intro ks;refine aU (ih (ur ks x)) ?_;have:=WQ ks x;rw [bv];omega
 have h:=this l []
 simpa [sT] using h
theorem Wq:y∈ur ks x↔y∈ks\/y=x:=by
 unfold ur
 split
 ·rename_i h
  exact ⟨.inl,fun q=>q.elim id fun e=>by rw [e];exact cm.mp h⟩
 ·rw [aN,de]
theorem LZ:∀ (l:List Str),y∈sT l↔y∈l:=fun l=>by
 have:∀ (l ks:List Str),y∈l.foldl ur ks↔y∈ks\/y∈l:=by
  intro l
  induction l with
  | nil=>intro ks;simp
  | cons x l ih=>intro ks;rw [fT,ih,Wq,aw];exact ⟨fun h=>by rcases h with (h|h)|h<;>simp [h],fun h=>by rcases h with h|h|h<;>simp [h]⟩
 rw [sT,this];simp
section
variable {P:aH} {w:aP} {A:aW} {s:ag} {R:Result->ag->Prop}
variable {I:af} {fp wr:List af} {n:Nat} {Pv:Nat->ae->Prop} {St:Nat->aT->Prop}
theorem QD (W:Walks P w A.in1 I fp wr n Pv St) (S:af) (Di:S∉fp) (vs:List Str) (hl:vs.length=n) (IC:∀ i v,Pv i v->i<n->∃ t,v=.str (vs.getD i ⟨#[]⟩) t) (hb:n+1<scanBound):
  ∀ (k i:Nat) (s:ag),n-i=k->i<=n->St i s.heap->nW P w S (sT (vs.take i)) s.heap->
   (∀ h' tk,(∀ b o,b∉S::wr->s.heap.get? b=some o->h'.get? b=some o)->nW P w S (sT vs) h'->R (.ok (.ret .none)) { s with heap:=h',toks:=tk })->
   codeAny (av P w) A (.builtin "set.update.loop" ⟨[.ref S,.ref I],[]⟩) R s:=by
 have PB:S∉wr:=fun h=>Di (W.sub _ h)
 intro k
 induction k with
 | zero=>
  intro i s hk hi st hS hR
  have e:i=n:=by omega
  subst e
  refine fV gM ?_
  rw [fB eU _]
  show am _ A.in1 (pyNext (.ref I) >>= _) _ _ s
  refine aa (W.done s _ _ st fun h' tk hm=>?_)
  refine aj (hR h' tk (fun b o hb z=>hm b o (fun q=>hb (aq _ q)) z) ?_)
  rw [<- hl,dM] at hS
  exact hS.keep fun o z=>hm S o PB z
 | succ k ih=>
  intro i s hk hi st hS hR
  have pF:i<n:=by omega
  refine fV gM ?_
  rw [fB eU _]
  show am _ A.in1 (pyNext (.ref I) >>= _) _ _ s
  refine aa (W.item i s _ _ pF st fun v h1 sF pv pQ hm=>?_)
  obtain ⟨t,rfl⟩:=IC i v pv pF
  have S1:nW P w S (sT (vs.take i)) h1:=hS.keep fun o z=>hm S o PB z
  show am _ A.in1 (holding [_] (setAdd S _) >>= _) _ _ _
  unfold setAdd
  refine aa (cb (cb (aa ((strKind P w).pyHash (k:=vs.getD i ⟨#[]⟩) (by show fe _ (.str _ t)=true;simp [fe]) ?_))))
  refine Ql (s:={ s with heap:=h1,toks:=sF+1 }) S1 (by have:=Md (vs.take i);rw [bG] at this;omega) fun b h2 sb S2=>?_
  have e2:ur (sT (vs.take i)) (vs.getD i ⟨#[]⟩)=sT (vs.take (i+1)):=by
   rw [<- WG,fH,aS,au (by omega)];rfl
  rw [e2] at S2
  refine aj ⟨ju eU _,ih (i+1) _ (by omega) pF (W.frame _ _ _ pQ fun b hb o z=>?_) S2 fun h' tk qN S'=>?_⟩
  ·rw [sb.2 b (fun q:b=S=>Di (by rw [<- q];exact hb))];exact z
  ·refine hR h' tk (fun b o hb z=>qN b o hb ?_) S'
   rw [sb.2 b (fun q:b=S=>hb (by rw [q];exact aI))]
   exact hm b o (fun q=>hb (aq _ q)) z
end
section
variable {P:aH} {w:aP} {A:aW} {E:ae->ag->Prop} {s:ag}
noncomputable abbrev t9 (w:aP):Obj:={ cls:=.type "set",dict:=none,data:=.set #[] 0 (.fresh 0 0 (!ve w)) }
theorem QC (w:aP) (h:aT):nW P w h.objs.size [] (h.push (t9 w)):=
 ⟨_,#[],0,_,aE _ rfl,⟨rfl,rfl,rfl⟩,rfl,fun e he=>by simp at he,by simp,by simp,by decide,by rfl,fun e=>by show (!ve w)=true;rw [e];rfl,fun e=>absurd rfl e⟩
theorem Yc (v:ae) (h:Q1 (.ref s.heap.objs.size) { s with heap:=s.heap.push (t9 w) }):
  codeAny (av P w) A (.call (.builtin "set.__new__") ⟨[.type "set",v],[]⟩) (wants Q1 E) s:=by
 refine iI ?_
 show am _ A.in1 (do checkBuiltinCall "set.__new__" ⟨[.type "set",v],[]⟩;again (.builtin "set.__new__" ⟨[.type "set",v],[]⟩)) _ _ s
 refine aa (ki (F.newCall_set_1 v) (aj ⟨ju F.plain_set_new _,fV F.entry_set_new ?_⟩))
 rw [fB F.plain_set_new _]
 unfold cQ.«set.__new__» nk
 have rJ:=sub_set_self
 obtain ⟨hp,g,d,tk,os⟩:=s
 dsimp only
 wp_walk
 refine eH (aj ?_)
 dsimp only
 simp only [newObj]
 exact aa (wpAny_alloc (aj (aj h)))
noncomputable def ZK.ty:ZK->String
 | .tup _ _ => "tuple"
 | .str _ _ => "str"
 | .lst _ _ => "list"
theorem SE:isSubtype (.type "tuple") (.type "set")=pure false:=by rw [i3];kernel_rfl
theorem R1:isSubtype (.type "tuple") (.type "frozenset")=pure false:=by rw [i3];kernel_rfl
theorem ZK.typ (q:ZK) (h:q.pre s.heap) (hn:∀ x t,q ≠ .str x t):∃ ob a,q.val=.ref a/\s.heap.get? a=some ob/\ob.cls=.type q.ty:=by
 cases q with
 | tup t items=>obtain ⟨o,e,c,_⟩:=h;exact ⟨o,t,rfl,e,c⟩
 | str x t=>exact absurd rfl (hn x t)
 | lst l items=>obtain ⟨o,e,c,_⟩:=h;exact ⟨o,l,rfl,e,c⟩
def ZK.vals:ZK->Array ae
 | .tup _ f_=>f_
 | .str _ _=>#[]
 | .lst _ f_=>f_
theorem ZK.walks (q:ZK) (hh:A.handled=none) (hn:∀ x t,q ≠ .str x t) (I:af) (hp:q.pre h) (hI:h.get? I=some q.obj) (qS:q.val ≠ .ref I):
  ∃ ax St,q.val=.ref ax/\Walks P w A I [I,ax] [I] q.vals.size (fun i v=>q.vals[i]?=some v) St/\St 0 h:=by
 cases q with
 | tup t items=>exact ⟨t,_,rfl,Walks.tuple hh I t (fun e=>qS (by rw [e];rfl)) items,⟨_,hI,rfl,rfl⟩,hp⟩
 | str x t=>exact absurd rfl (hn x t)
 | lst l items=>exact ⟨l,_,rfl,Walks.list hh I l (fun e=>qS (by rw [e];rfl)) items,⟨_,hI,rfl,rfl⟩,hp⟩
set_option maxHeartbeats 4000000 in
theorem X8 (q:ZK) (hh:A.handled=none) (hp:q.pre s.heap) (hn:∀ x t,q ≠ .str x t) (vs:List Str) (hl:vs.length=q.vals.size) (hv:∀ i (v:ae),q.vals[i]?=some v->∃ t:Tok,v=jc (vs.getD i ⟨#[]⟩) t) (hb:vs.length+1<scanBound)
  (h:∀ h' tk,nW P w s.heap.objs.size (sT vs) h'->(∀ b o,b<s.heap.objs.size->s.heap.get? b=some o->h'.get? b=some o)->Q (.ref s.heap.objs.size) { s with heap:=h',toks:=tk }):
  am (av P w) A (call (.type "set") [q.val]) Q E s:=by
 obtain ⟨c,tl,hmro⟩:=fN.mro
 have Pj:=fN.made
 have rJ:=fN.sub
 obtain ⟨ob,l,el,xw,qi⟩:=q.typ hp hn
 rw [el]
 refine iE (iI ?_)
 show am _ _ (callAny (.type "set") _) _ _ _
 refine aj ⟨Code.quiet_builtin _ (by decide +kernel),fV F.entry_type_call ?_⟩
 rw [Around.under_plain (weight_type_call_type "set" [.ref l] []) rfl]
 have h1:=fN.notType
 have h2:=fN.canCreate
 have FA:=F.typeCall_set_1 (.ref l)
 repeat (any_goals (first|assumption|wp_step))
 refine eS (Yc (.ref l) (E:=E) (Q1:=fun obj s1=>obj=.ref s.heap.objs.size/\s1={ s with heap:=s.heap.push (t9 w) }) ⟨rfl,rfl⟩) fun r s1 hr=>?_
 cases r with
 | error e=>exact hr
 | ok fl=>
  cases fl with
  | ret obj=>
   obtain ⟨rfl,rfl⟩:=hr
   have hS:(s.heap.push (t9 w)).get? s.heap.objs.size=some (t9 w):=aE _ rfl
   have hT:nq { s with heap:=s.heap.push (t9 w) } (.ref s.heap.objs.size) "set":=⟨_,hS,rfl⟩
   have hli:=fN.init.lookup
   have hbi:=fN.init.bind (.ref s.heap.objs.size)
   repeat (any_goals (first|assumption|wp_step))
   refine eS (kT (R:=wants (fun r s2=>r=.none/\∃ h' tk,s2={ s with heap:=h',toks:=tk }/\nW P w s.heap.objs.size (sT vs) h'/\(∀ b o,b<s.heap.objs.size->s.heap.get? b=some o->h'.get? b=some o)) E) fN.init.plain F.entry_set_init (check_set_init_1 hT ?_)) fun r2 s2 xu=>?_
   ·obtain ⟨HZ,Cq,Cr,yT⟩:=ob
    have qi:HZ=.type q.ty:=qi
    subst qi
    have hol':(s.heap.push (t9 w)).get? l=some { cls:=.type q.ty,dict:=Cq,data:=Cr,slots:=yT }:=ah _ xw
    have ym:q.pre (s.heap.push (t9 w)):=q.keep (fun b o e=>ah _ e) hp
    have Pl:l<s.heap.objs.size:=aG xw
    have i1:∀ {B:aW} {E':ae->ag->Prop} {Q':ae->ag->Prop} {tk:Nat},Q' (.ref (s.heap.push (t9 w)).objs.size) { s with heap:=(s.heap.push (t9 w)).push q.obj,toks:=tk }->am (av P w) B (pyIter (.ref l)) Q' E' { s with heap:=s.heap.push (t9 w),toks:=tk }:=fun {B E' Q' tk} hq=>by
     rw [<- el];exact q.iter (s:={ s with heap:=s.heap.push (t9 w),toks:=tk }) ym hq
    have zj:isSubtype (.type q.ty) (.type "set")=pure false:=by
     cases q with
     | tup _ _=>exact SE
     | str x t=>exact absurd rfl (hn x t)
     | lst _ _=>exact F.sub_list_set
    have u0:isSubtype (.type q.ty) (.type "frozenset")=pure false:=by
     cases q with
     | tup _ _=>exact R1
     | str x t=>exact absurd rfl (hn x t)
     | lst _ _=>exact F.sub_list_frozenset
    have hnd:(jC q.ty==jC "dict")=false:=by cases q<;>rfl
    unfold cQ.«set.__init__» noKeywords mX
    generalize hPI:pyIter=PI
    wp_walk
    subst hPI
    refine i1 ?_
    refine aa (wpAny_runValue ?_)
    have hh3:A.in1.in1.in1.handled=none:=by simp [hh]
    have o_:(s.heap.push (t9 w)).objs.size=s.heap.objs.size+1:=bZ ..
    have fo:q.obj.isFreed=false:=by cases q<;>rfl
    obtain ⟨ax,St,ea,W,qw⟩:=q.walks (P:=P) (w:=w) (A:=A.in1.in1.in1) hh3 hn (s.heap.push (t9 w)).objs.size (h:=(s.heap.push (t9 w)).push q.obj) (q.keep (fun b o e=>ah _ e) ym) (aE _ fo) (by rw [el,o_];intro e;injection e with e;exact absurd Pl (by rw [e];exact jG.mpr (ez _)))
    have eax:ax=l:=by rw [el] at ea;injection ea with ea;exact ea.symm
    subst eax
    refine QD W s.heap.objs.size (by
      rw [o_]
      simp only [aw,aR,or_false,not_or]
      exact ⟨bi (cD _),dq Pl⟩) vs hl (fun i v e _=>hv i v e) (by rw [<- hl];exact hb) (q.vals.size-0) 0 _ (by omega) (cz _) qw ?_ fun h' tk hk S'=>?_
    ·exact (QC (P:=P) w s.heap).keep fun o e=>ah _ e
    ·refine aj (aj ⟨rfl,h',tk,rfl,S',fun b o hb e=>hk b o ?_ (ah _ (ah _ e))⟩)
     rw [o_]
     simp only [aw,aR,or_false,not_or]
     exact ⟨bi hb,bi (cU hb)⟩
   ·cases r2 with
    | error e=>exact xu
    | ok FI=>
     cases FI with
     | ret r=>
      obtain ⟨rfl,h',tk,rfl,S',hk⟩:=xu
      repeat (any_goals (first|assumption|wp_step))
      exact h _ _ S' hk
     | _=>exact xu.elim
  | _=>exact hr.elim
end
theorem Ly:Manifest.owners.lookup (String.ofList ['r','o','t','a','r','e','t','i','_','t','e','s'].reverse)=some Manifest.sig_set_iterator:=by kernel_rfl
theorem om:Slot "set_iterator" "__next__" "set_iterator.__next__":=Slot.of (owner := "set_iterator") (n := "__next__") (by rw [typeLookup_type,kL];kernel_rfl) (by decide +kernel) (by decide +kernel) (by decide +kernel) (by first|exact .inl (by decide +kernel)|exact .inr (by decide +kernel)) (by rw [i3];kernel_rfl)
theorem L7:Slot "set_iterator" "__iter__" "set_iterator.__iter__":=Slot.of (owner := "set_iterator") (n := "__iter__") (by rw [typeLookup_type,kL];kernel_rfl) (by decide +kernel) (by decide +kernel) (by decide +kernel) (by first|exact .inl (by decide +kernel)|exact .inr (by decide +kernel)) (by rw [i3];kernel_rfl)
theorem Wn:entryFor table "set_iterator.__next__" = some cQ.«set_iterator.__next__»:=entryFor_of_tree (by kernel_rfl)
theorem VU (a:ae):argsOk "set_iterator.__next__" ⟨[a],[]⟩:=by
 unfold argsOk
 rw [signature?_of (id := "set_iterator.__next__") (n:=['_','_','t','x','e','n','_','_']) (o:=['r','o','t','a','r','e','t','i','_','t','e','s']) (by kernel_rfl) Ly]
 kernel_rfl
theorem U8 (a:ae):argsOk "set_iterator.__iter__" ⟨[a],[]⟩:=by
 unfold argsOk
 rw [signature?_of (id := "set_iterator.__iter__") (n:=['_','_','r','e','t','i','_','_']) (o:=['r','o','t','a','r','e','t','i','_','t','e','s']) (by kernel_rfl) Ly]
 kernel_rfl
theorem Wv:entryFor table "set.__iter__" = some cQ.«frozenset.__iter__»:=entryFor_alias (id' := "frozenset.__iter__") (by kernel_rfl) rfl (by decide +kernel) (by kernel_rfl)
theorem V5:entryFor table "set_iterator.__iter__" = some cQ.«dict_keyiterator.__iter__»:=entryFor_alias (id' := "dict_keyiterator.__iter__") (by kernel_rfl) rfl (by decide +kernel) (by kernel_rfl)
theorem BI {α:Type} {l:List α} {i:Nat} {x:α} (h:l[i]?=some x):(x::l.eraseIdx i).Perm l:=by
 obtain ⟨hi,e⟩:=al.mp h
 have q:l.take i++x::l.drop (i+1)=l:=by rw [<- e,List.getElem_cons_drop hi,bT]
 rw [List.eraseIdx_eq_take_drop_succ]
 exact List.perm_middle.symm.trans (by rw [q])
theorem ND {α:Type} (next:Nat->Nat):∀ (fuel k:Nat) (left:List α) (out:Array α),left.length=fuel->(lU next fuel k left out).toList.Perm (out.toList++left)
 | 0,k,left,out,h=>by
  have:left=[]:=dg.mp h
  subst this
  unfold lU
  simp
 | fuel+1,k,left,out,h=>by
  unfold lU
  have hl:next k%left.length<left.length:=Nat.mod_lt _ (by omega)
  rw [au hl]
  dsimp only
  have e:=gj hl
  refine (ND next fuel (k+1) _ _ (by rw [e];omega)).trans ?_
  rw [eD,aY]
  exact fc _ (BI (au hl))
theorem EW {α:Type} (next:Nat->Nat) (xs:Array α):(pickOrder next xs).toList.Perm xs.toList:=by
 unfold pickOrder
 have:=ND next xs.size 0 xs.toList #[] (by simp)
 simpa using this
section
variable {P:aH} {w:aP} {A:aW} {E:ae->ag->Prop} {s:ag} {a:af}
theorem Uy {src:Source} {n:Nat} {Q:Nat->ag->Prop} (hn:n≠0) (h:∀ i d,i<n->Q i { s with drawn:=d }):am (av P w) A (choose src n) Q E s:=
 fun Γ p _=>⟨hn,h _ _ (Nat.mod_lt _ (Nat.pos_of_ne_zero hn))⟩
theorem Kw {α:Type}:∀ (n:Nat) (xs:List α) (s:ag) (Q:List α->ag->Prop),xs.length=n->(∀ ys d,ys.Perm xs->Q ys { s with drawn:=d })->am (av P w) A (drawOrder n xs) Q E s
 | 0,xs,s,Q,h,hq=>by
  have:xs=[]:=dg.mp h
  subst this
  unfold drawOrder
  exact aj (by have:=hq [] s.drawn (fG _);cases s;exact this)
 | n+1,[],s,Q,h,hq=>by simp at h
 | n+1,x::xs,s,Q,h,hq=>by
  unfold drawOrder
  refine aa (Uy (by simp) fun i d hi=>?_)
  rw [au hi]
  refine aa (Kw n _ _ _ (by rw [gj hi];simpa using h) fun ys d' hp=>aj ?_)
  exact hq _ d' ((List.Perm.cons _ hp).trans (BI (au hi)))
noncomputable abbrev uY (first:ae) (i:Nat) (a:af) (n ep:Nat):Obj:={ cls:=.type "set_iterator",data:=.fields #[first,bj i,.ref a,bj n,bj ep] }
theorem KP (hT:s.TypeIs (.ref I) "set_iterator") (h:am (av P w) A.in1 (cQ.«set_iterator.__next__» ⟨[.ref I],[]⟩) (fun f s'=>∃ v,f=.done (.ret v)/\Q (some v) s') (fun e s'=>∃ o,e=.ref o/\(∃ ob,s'.heap.get? o=some ob/\ob.cls=.type "StopIteration")/\Q none s') s):
  am (av P w) A (pyNext (.ref I)) Q E s:=by
 unfold pyNext
 refine aa (fh (bF (name := "__next__") hT om (bJ om hT Wn ?_ (VU _))))
 refine dF h (fun f s' hf=>?_) fun e s' he=>?_
 ·obtain ⟨v,rfl,q⟩:=hf
  exact ⟨v,rfl,aj q⟩
 ·obtain ⟨o,rfl,⟨ob,ho,hc⟩,q⟩:=he
  exact aa (io (T := "StopIteration") (b:=true) ⟨ob,ho,hc⟩ kG (aj q))
end
section
variable {P:aH} {w:aP} {A:aW} {E:ae->ag->Prop} {s:ag} {a:af} {o:Obj} {es:Array (Int×ae)} {ep:Nat} {t:jS}
theorem Ng {α:Type} {Q:α->ag->Prop} (hh:A.handled=none) (h:∀ h' e,(∀ b o,s.heap.get? b=some o->h'.get? b=some o)->(∃ o,h'.get? e=some o/\o.cls=.type "StopIteration")->E (.ref e) { s with heap:=h' }):
  am (av P w) A (newExc (.type "StopIteration") [] >>= fun e=>(raiseNew e:Sem α)) Q E s:=by
 refine aa ?_
 simp only [newExc,newTuple]
 refine aa (bt (?_) (by size_fits))
 refine aa (m:=firstArgMember _ _) (ki (a:=.none) (by first|rfl|(simp only [firstArgMember];rfl)) (bt ?_ (by size_fits)))
 simp only [raiseNew]
 refine aa (wpAny_handled ?_);rw [hh]
 refine aa (aj (wpAny_throw (h _ _ (fun b o e=>ah _ (ah _ e)) ⟨_,aE _ rfl,rfl⟩)))
theorem Ld (ho:s.heap.get? a=some o) (hd:o.data=.set es ep t) (hf:t.fits es.size=true) (hb:ve w=true) (h:Q (((pickOrder (w.params.setOrder a ep) es)[i]?).map fun e=>(e.2,sl)) s):
  am (av P w) A (setNext a sl i ep) Q E s:=by
 have wu:(av P w).w.params.followText "set-order" = true:=hb
 unfold setNext setsByText
 refine aa (fv ho hd hf ?_)
 dsimp only
 refine aa (aa (eH (aj ?_)))
 rw [wu,if_pos rfl,if_neg (by simp)]
 refine aa ?_
 unfold setWalk setsByText
 refine aa (fv ho hd hf ?_)
 dsimp only
 refine aa (aa (eH (aj ?_)))
 rw [wu,if_pos rfl]
 exact aa (eH (aj (aj h)))
theorem Me (ho:s.heap.get? a=some o) (hd:o.data=.set es ep t) (hf:t.fits es.size=true) (hb:ve w=false) (hs:es.size<=1) (hl:t.led=true)
  (h:Q (match es[eM t.place sl]?,t.place[eM t.place sl]? with|some (_,x),some j=>some (x,j+1)|_,_=>none) s):
  am (av P w) A (setNext a sl i ep) Q E s:=by
 have wu:(av P w).w.params.followText "set-order" = false:=hb
 unfold setNext setsByText
 refine aa (fv ho hd hf ?_)
 dsimp only
 refine aa (aa (eH (aj ?_)))
 rw [wu,if_neg (by simp)]
 show am _ _ (if (!t.plain&&decide (es.size>1))=true then _ else _) _ _ _
 have h1:(!t.plain&&decide (es.size>1))=false:=by
  rw [decide_eq_false (by omega)];simp
 rw [h1,if_neg (by simp)]
 refine aa ?_
 show am _ _ (if (!t.led && !es.isEmpty)=true then _ else _) _ _ _
 rw [hl,if_neg (by simp)]
 exact aj (aj h)
theorem XW (ho:s.heap.get? a=some o) (hd:o.data=.set es ep t) (hf:t.fits es.size=true) (hx:es[pl]?=some x) (h:Q x.2 s):
  am (av P w) A (setNextDrawn a pl ep) Q E s:=by
 unfold setNextDrawn
 refine aa (fv ho hd hf ?_)
 dsimp only
 rw [if_neg (by simp),hx]
 exact aj h
theorem Ts (ho:s.heap.get? a=some o) (hd:o.data=.set es ep t) (hf:t.fits es.size=true) (p_:es.size≠0->t.plain=false) (h:Q (!ve w&&decide (es.size>1)) s):am (av P w) A (setDrawn a) Q E s:=by
 unfold setDrawn setsByText
 refine aa (fv ho hd hf ?_)
 dsimp only
 refine aa (aa (eH (aj (aj ?_))))
 have e:(!t.plain&&decide (es.size>1))=decide (es.size>1):=by
  by_cases q:es.size>1
  ·rw [p_ (by omega),decide_eq_true q];rfl
  ·rw [decide_eq_false q];simp
 show Q (!ve w&&(!t.plain&&decide (es.size>1))) s
 rw [e];exact h
theorem D3 {I:af} {sl i:Nat} {R:Option (ae×Nat)} {Q:Option ae->ag->Prop} (ho:s.heap.get? a=some o) (hd:o.data=.set es ep t) (hf:t.fits es.size=true) (hI:s.heap.get? I=some (uY (bj sl) i a es.size ep)) (qS:a≠I) (hh:A.handled=none)
  (hn:∀ (B:aW) (Q':Option (ae×Nat)->ag->Prop) (E':ae->ag->Prop),Q' R s->am (av P w) B (setNext a sl i ep) Q' E' s)
  (hq:∀ v j,R=some (v,j)->∀ h',cM I s.heap h'->h'.get? I=some (uY (bj j) (i+1) a es.size ep)->Q (some v) { s with heap:=h' })
  (hz:R=none->∀ h',ja I s.heap h'->Q none { s with heap:=h' }):am (av P w) A (pyNext (.ref I)) Q E s:=by
 refine KP ⟨_,hI,rfl⟩ ?_
 unfold cQ.«set_iterator.__next__» slotArgs
 dsimp only
 rw [if_neg (by simp),if_neg (by simp)]
 refine aa (aj (aa (wpAny_fieldsOf hI rfl ?_)))
 show am _ _ (setEntries a >>= _) _ _ _
 refine aa (iR ho hd hf ?_)
 rw [if_neg (by simp)]
 show am _ _ (setNext a sl i ep >>= _) _ _ _
 refine aa (hn _ _ _ ?_)
 obtain ⟨hp,g,d,tk,os⟩:=s
 cases hR:R with
 | some p=>
  obtain ⟨v,j⟩:=p
  dsimp only
  refine aa (bu hI (by simp) fun h1 e1 s1=>?_)
  refine aa (bu e1 (by simp) fun h2 e2 s2=>?_)
  exact aj ⟨v,rfl,hq v j hR h2 (s1.trans s2) e2⟩
 | none=>
  dsimp only
  refine aa (bu hI (by simp) fun h1 e1 s1=>?_)
  refine Ng (by simpa using hh) fun h' e he hc=>⟨e,rfl,hc,hz hR h' fun b ob hb z=>he b ob (s1.extBut b ob hb z)⟩
theorem KI {I tt:af} {i:Nat} {first:ae} {ps:List Nat} {Q:Option ae->ag->Prop} (ho:s.heap.get? a=some o) (hd:o.data=.set es ep t) (hf:t.fits es.size=true) (hI:s.heap.get? I=some (uY (.ref tt) i a es.size ep)) (ht:s.heap.get? tt=some { cls:=.type "tuple",data:=.seq (ps.map fun (j:Nat)=>bj (j:Int)).toArray }) (hh:A.handled=none)
  (hq:∀ j x,ps[i]?=some j->es[j]?=some x->∀ h',cM I s.heap h'->h'.get? I=some (uY (.ref tt) (i+1) a es.size ep)->Q (some x.2) { s with heap:=h' }) (tH:∀ j,ps[i]?=some j->j<es.size)
  (hz:ps[i]?=none->∀ h',ja I s.heap h'->Q none { s with heap:=h' }):am (av P w) A (pyNext (.ref I)) Q E s:=by
 refine KP ⟨_,hI,rfl⟩ ?_
 unfold cQ.«set_iterator.__next__» slotArgs
 dsimp only
 rw [if_neg (by simp),if_neg (by simp)]
 refine aa (aj (aa (wpAny_fieldsOf hI rfl ?_)))
 show am _ _ (setEntries a >>= _) _ _ _
 refine aa (iR ho hd hf ?_)
 rw [if_neg (by simp)]
 show am _ _ (seqItems? (.ref tt) >>= _) _ _ _
 refine aa (en ht rfl ?_)
 obtain ⟨hp,g,d,tk,os⟩:=s
 have e0:((ps.map fun (j:Nat)=>bj (j:Int)).toArray)[((i:Int)).toNat]?=(ps[i]?).map fun (j:Nat)=>bj (j:Int):=by
  rw [fq,iu,bh]
 dsimp only
 rw [e0]
 cases hR:ps[i]? with
 | some j=>
  have hj:=tH j hR
  dsimp only [iJ,bj]
  refine aa (XW (pl:=j) (x:=es[j]) ho hd hf (aO hj) ?_)
  refine aa (bu hI (by simp) fun h1 e1 s1=>?_)
  exact aj ⟨_,rfl,hq j _ hR (aO hj) h1 s1 e1⟩
 | none=>
  dsimp only [Option.map_none]
  refine aa (bu hI (by simp) fun h1 e1 s1=>?_)
  refine aa (bu e1 (by simp) fun h2 e2 s2=>?_)
  refine Ng (by simpa using hh) fun h' e he hc=>⟨e,rfl,hc,hz hR h' fun b ob hb z=>he b ob (s2.extBut b ob hb (s1.extBut b ob hb z))⟩
end
section
variable {P:aH} {w:aP} {A:aW} {E:ae->ag->Prop} {s:ag} {a:af} {o:Obj} {es:Array (Int×ae)} {ep:Nat} {t:jS} {I tt:af}
noncomputable abbrev zM (os:List Str):Nat->ae->Prop:=fun i v=>∃ tk:Tok,v=.str (os.getD i ⟨#[]⟩) tk
theorem F_ (h:∃ ob,s.heap.get? I=some ob/\ob.cls=.type "set_iterator") (q:Q (.ref I) s):am (av P w) A (pyIter (.ref I)) Q E s:=by
 have ht:s.TypeIs (.ref I) "set_iterator":=h
 refine jA ht L7 (bJ L7 ht V5 ?_ (U8 _))
 unfold cQ.«dict_keyiterator.__iter__»
 obtain ⟨hp,g,d,tk,os⟩:=s
 wp_walk
 exact ⟨_,rfl, "set_iterator",_,ht,om.lookup,q⟩
theorem Gq (rb:iw (strKind P w) l) (h:l[i]?=some e):zM (l.map rF) i e.2:=by
 obtain ⟨tk,ht⟩:=G5 rb (aC h)
 refine ⟨tk,?_⟩
 rw [aS,bh,h]
 exact ht
theorem VD (hd:o.data=.set es ep t) (hf:t.fits es.size=true) (rb:iw (strKind P w) es.toList) (hb:ve w=true) (hh:A.handled=none) (qS:a≠I):
  Walks P w A I [I,a] [I] es.size (zM ((pickOrder (w.params.setOrder a ep) es).toList.map rF)) (fun i h=>(∃ sl:Nat,h.get? I=some (uY (bj sl) i a es.size ep))/\h.get? a=some o) where
 sub:=fun b hb=>by simp at hb;simp [hb]
 frame:=fun i h h' st hk=>⟨let ⟨sl,e⟩:=st.1;⟨sl,hk I (by simp) _ e⟩,hk a (by simp) _ st.2⟩
 item:=fun i s Q E hi st hq=>by
  obtain ⟨⟨sl,hI⟩,ho⟩:=st
  have vG:=EW (w.params.setOrder a ep) es
  have o_:(pickOrder (w.params.setOrder a ep) es).size=es.size:=by rw [<- aB,vG.length_eq,aB]
  have xA:i<(pickOrder (w.params.setOrder a ep) es).size:=by omega
  refine D3 (R:=some ((pickOrder (w.params.setOrder a ep) es)[i].2,sl)) ho hd hf hI qS hh (fun B Q' E' h=>Ld ho hd hf hb (by rw [aO xA];exact h)) (fun v j e h' sb e'=>?_) fun e=>by cases e
  cases e
  refine hq _ h' s.toks (Gq (rb.perm vG) (by rw [c8];exact aO xA)) ⟨⟨_,e'⟩,?_⟩ fun b ob hb z=>?_
  ·rw [sb.2 a qS];exact ho
  ·rw [sb.2 b (by simpa using hb)];exact z
 done:=fun s Q E st hq=>by
  obtain ⟨⟨sl,hI⟩,ho⟩:=st
  have vG:=EW (w.params.setOrder a ep) es
  have o_:(pickOrder (w.params.setOrder a ep) es).size=es.size:=by rw [<- aB,vG.length_eq,aB]
  refine D3 (R:=none) ho hd hf hI qS hh (fun B Q' E' h=>Ld ho hd hf hb (by rw [kn (by omega)];exact h)) (fun v j e=>by cases e) fun _ h' eb=>hq h' s.toks fun b ob hb z=>eb b ob (by simpa using hb) z
 self:=fun i s Q E st hq=>F_ (let ⟨⟨sl,e⟩,_⟩:=st;⟨_,e,rfl⟩) hq
theorem U9 (hd:o.data=.set es ep t) (hf:t.fits es.size=true) (rb:iw (strKind P w) es.toList) (hh:A.handled=none) (qS:a≠I) (IP:tt≠I) {ps:List Nat} (rX:ps.Perm (bd es.size)):
  Walks P w A I [I,a,tt] [I] es.size (zM ((ps.filterMap fun j=>es[j]?).map rF)) (fun i h=>h.get? I=some (uY (.ref tt) i a es.size ep)/\h.get? a=some o/\h.get? tt=some { cls:=.type "tuple",data:=.seq (ps.map fun (j:Nat)=>bj (j:Int)).toArray }) where
 sub:=fun b hb=>by simp at hb;simp [hb]
 frame:=fun i h h' st hk=>⟨hk I (by simp) _ st.1,hk a (by simp) _ st.2.1,hk tt (by simp) _ st.2.2⟩
 item:=fun i s Q E hi st hq=>by
  obtain ⟨hI,ho,ht⟩:=st
  have hlen:ps.length=es.size:=by rw [rX.length_eq];simp
  have tH:∀ j∈ps,j<es.size:=fun j hj=>bK.mp (rX.mem_iff.mp hj)
  refine KI (first:=.ref tt) ho hd hf hI ht hh (fun j x e1 e2 h' sb e'=>?_) (fun j e=>tH j (aC e)) fun e=>absurd (aZ.mp e) (by omega)
  have Je:∀ (l:List Nat),(∀ j∈l,j<es.size)->(l.filterMap fun j=>es[j]?)=l.map fun j=>es.getD j default:=by
   intro l
   induction l with
   | nil=>intro _;rfl
   | cons q l ih=>
    intro h
    have Pc:=h q aI
    rw [dE,aO Pc,ih fun j hj=>h j (aq _ hj),cn]
    simp [Array.getD,Pc]
  have hx:(ps.filterMap fun j=>es[j]?)[i]?=some x:=by
   rw [Je ps tH,bh,e1]
   have hj:=tH j (aC e1)
   rw [aO hj] at e2
   have:es[j]=x:=bV e2
   simp [Array.getD,hj,this]
  have Jf:iw (strKind P w) (ps.filterMap fun j=>es[j]?):=fun e he=>by
   obtain ⟨j,_,hj⟩:=je.mp he
   exact rb e (by rw [<- c8] at hj;exact aC hj)
  refine hq _ h' s.toks (Gq Jf hx) ⟨e',?_,?_⟩ fun b ob hb z=>?_
  ·rw [sb.2 a qS];exact ho
  ·rw [sb.2 tt IP];exact ht
  ·rw [sb.2 b (by simpa using hb)];exact z
 done:=fun s Q E st hq=>by
  obtain ⟨hI,ho,ht⟩:=st
  have hlen:ps.length=es.size:=by rw [rX.length_eq];simp
  have hn:ps[es.size]?=none:=aZ.mpr (by omega)
  exact KI (first:=.ref tt) ho hd hf hI ht hh (fun j x e1=>by rw [hn] at e1;cases e1) (fun j e=>by rw [hn] at e;cases e) fun _ h' eb=>hq h' s.toks fun b ob hb z=>eb b ob (by simpa using hb) z
 self:=fun i s Q E st hq=>F_ ⟨_,st.1,rfl⟩ hq
theorem Ul (xs:Array Nat) (h:xs.size<=1):eM xs 0=0:=by
 unfold eM
 have:xs.size=0\/xs.size=1:=by omega
 rcases this with e|e
 ·rw [e];rfl
 ·rw [e]
  unfold g7
  rw [if_pos (by omega)]
  dsimp only
  rw [if_neg (by simp)]
  unfold g7
  rfl
theorem VM (xs:Array Nat) (p:Nat) (h:xs.size=1) (hp:xs[0]?=some p):eM xs (p+1)=1:=by
 unfold eM
 rw [h]
 unfold g7
 rw [if_pos (by omega)]
 dsimp only
 have e:xs.getD ((0+1)/2) (p+1)=p:=by
  show xs.getD 0 (p+1)=p
  rw [Array.getD_eq_getD_getElem?,hp];rfl
 rw [e,if_pos (by omega)]
 unfold g7
 rfl
theorem Wt (hd:o.data=.set es ep t) (hf:t.fits es.size=true) (rb:iw (strKind P w) es.toList) (hb:ve w=false) (hs:es.size<=1) (hl:t.led=true) (hh:A.handled=none) (qS:a≠I):
  Walks P w A I [I,a] [I] es.size (zM (es.toList.map rF)) (fun i h=>(∃ sl:Nat,h.get? I=some (uY (bj sl) i a es.size ep)/\eM t.place sl=i)/\h.get? a=some o) where
 sub:=fun b hb=>by simp at hb;simp [hb]
 frame:=fun i h h' st hk=>⟨let ⟨sl,e,q⟩:=st.1;⟨sl,hk I (by simp) _ e,q⟩,hk a (by simp) _ st.2⟩
 item:=fun i s Q E hi st hq=>by
  obtain ⟨⟨sl,hI,zx⟩,ho⟩:=st
  have hpz:t.place.size=es.size:=by simp only [nr,a6,beq_iff_eq] at hf;exact hf.1
  have h1:es.size=1:=by omega
  have h0:i=0:=by omega
  subst h0
  have ym:t.place.size=1:=by omega
  refine D3 (R:=some (es[0].2,t.place[0]+1)) ho hd hf hI qS hh (fun B Q' E' h=>Me ho hd hf hb hs hl (by rw [zx,aO hi,aO (by omega)];exact h)) (fun v j e h' sb e'=>?_) fun e=>by cases e
  cases e
  refine hq _ h' s.toks (Gq rb (by rw [c8];exact aO hi)) ⟨⟨_,e',VM _ _ ym (aO _)⟩,?_⟩ fun b ob hb z=>?_
  ·rw [sb.2 a qS];exact ho
  ·rw [sb.2 b (by simpa using hb)];exact z
 done:=fun s Q E st hq=>by
  obtain ⟨⟨sl,hI,zx⟩,ho⟩:=st
  refine D3 (R:=none) ho hd hf hI qS hh (fun B Q' E' h=>Me ho hd hf hb hs hl (by rw [zx,kn (ay _)];exact h)) (fun v j e=>by cases e) fun _ h' eb=>hq h' s.toks fun b ob hb z=>eb b ob (by simpa using hb) z
 self:=fun i s Q E st hq=>F_ (let ⟨⟨sl,e,_⟩,_⟩:=st;⟨_,e,rfl⟩) hq
end
section
variable {P:aH} {w:aP} {A:aW} {E:ae->ag->Prop} {s:ag} {a:af} {ks:List Str}
theorem LA (es:Array (Int×ae)):∀ (l:List Nat),(∀ j∈l,j<es.size)->(l.filterMap fun j=>es[j]?).length=l.length
 | [],_=>rfl
 | q::l,h=>by
  rw [dE,aO (h q aI)]
  show (_::_).length=_
  rw [bv,bv,LA es l fun j hj=>h j (aq _ hj)]
structure ItX (P:aH) (w:aP) (a:af) (ks:List Str) (s:ag) (I:af) (s1:ag):Prop where
 ex:∃ (os:List Str) (fp:List af) (St:Nat->aT->Prop),os.Perm ks/\I∈fp/\(∀ b∈fp,b<s1.heap.objs.size)/\(∀ b∈fp,b=a\/s.heap.objs.size<=b)/\(∀ B:aW,B.handled=none->Walks P w B I fp [I] os.length (zM os) St)/\St 0 s1.heap
 keep:∀ b o,s.heap.get? b=some o->s1.heap.get? b=some o
 ty:∃ ob,s1.heap.get? I=some ob/\ob.cls=.type "set_iterator"
 new:s.heap.objs.size<=I
 gens:s1.gens=s.gens
 os:s1.os=s.os
theorem QZ (hS:nW P w a ks s.heap) (h:∀ I s1,ItX P w a ks s I s1->Q (.ref I) s1):am (av P w) A (pyIter (.ref a)) Q E s:=by
 obtain ⟨o,es,ep,t,ho,hx,hd,rb,hp,hn,hb,hf,hl,p_⟩:=hS
 have hT:s.TypeIs (.ref a) "set":=⟨o,ho,hx.1⟩
 have o_:es.size=ks.length:=by rw [<- hp.length_eq];simp
 have halt:a<s.heap.objs.size:=aG ho
 refine jA hT F.slot_set_iter (bJ F.slot_set_iter hT Wv ?_ (F.args_set_iter_1 _))
 unfold cQ.«frozenset.__iter__» nD slotArgs
 simp only [List.isEmpty_nil,nt,ef,↓reduceIte,bind_assoc,gz,bne_self_eq_false]
 unfold ny nB
 refine aa (aj (aa (aj (aa (aa (iR ho hd hf (aj ?_)))))))
 refine aa (Ts ho hd hf p_ ?_)
 have fin:∀ (first:ae) (h1:aT) (d:Drawn),(∀ b ob,s.heap.get? b=some ob->h1.get? b=some ob)->s.heap.objs.size<=h1.objs.size->
   (∃ (os:List Str) (fp:List af) (St:Nat->aT->Prop),os.Perm ks/\h1.objs.size∈fp/\(∀ b∈fp,b<h1.objs.size+1)/\(∀ b∈fp,b=a\/s.heap.objs.size<=b)/\(∀ B:aW,B.handled=none->Walks P w B h1.objs.size fp [h1.objs.size] os.length (zM os) St)/\St 0 (h1.push (uY first 0 a es.size ep)))->
   am (av P w) A.in1 (setEpoch a >>= fun e=>newFields "set_iterator" [first,bj 0,.ref a,bj es.size,bj e] >>= fun v=>ret v) (fun f s'=>∃ r,f=.done (.ret r)/\∃ T' r',s'.TypeIs r T'/\typeLookup (.type T') "__next__" = pure (some r')/\Q r s') E { s with heap:=h1,drawn:=d }:=by
  intro first h1 d hk hz ⟨os,fp,St,p1,p2,p3,p6,p4,p5⟩
  refine aa (wpAny_setEpoch_of (hk a o ho) hd hf ?_)
  unfold newFields
  refine aa (bt ?_ (by size_fits))
  have g:(h1.push (uY first 0 a es.size ep)).get? h1.objs.size=some (uY first 0 a es.size ep):=aE _ rfl
  refine aj ⟨_,rfl, "set_iterator",_,⟨_,g,rfl⟩,om.lookup,h _ _ ⟨⟨os,fp,St,p1,p2,fun b hb=>?_,p6,p4,p5⟩,fun b ob e=>ah _ (hk b ob e),⟨_,g,rfl⟩,hz,rfl,rfl⟩⟩
  rw [bZ];exact p3 b hb
 cases Jg:(!ve w&&decide (es.size>1)) with
 | true=>
  rw [if_pos rfl]
  refine aa (Kw es.size (bd es.size) _ _ (by simp) fun ps d rX=>aa (iY ?_ ?_))
  ·have v8:(s.heap.push { cls:=.type "tuple",data:=.seq (ps.map fun (j:Nat)=>bj (j:Int)).toArray }).objs.size=s.heap.objs.size+1:=bZ ..
   refine fin (.ref s.heap.objs.size) _ d (fun b ob e=>ah _ e) (by rw [v8];exact ez _) ?_
   refine ⟨(ps.filterMap fun j=>es[j]?).map rF,[(s.heap.push { cls:=.type "tuple",data:=.seq (ps.map fun (j:Nat)=>bj (j:Int)).toArray }).objs.size,a,s.heap.objs.size],(fun i h=>h.get? (s.heap.push { cls:=.type "tuple",data:=.seq (ps.map fun (j:Nat)=>bj (j:Int)).toArray }).objs.size=some (uY (.ref s.heap.objs.size) i a es.size ep)/\h.get? a=some o/\h.get? s.heap.objs.size=some { cls:=.type "tuple",data:=.seq (ps.map fun (j:Nat)=>bj (j:Int)).toArray }),?_,by simp,?_,?_,fun B hB=>?_,aE _ rfl,ah _ (ah _ ho),ah _ (aE _ rfl)⟩
   ·refine (List.Perm.map rF ?_).trans hp
    have e1:(bd es.size).filterMap (fun j=>es[j]?)=es.toList:=by
     apply mm
     intro i
     have Je:∀ n,n<=es.size->(bd n).filterMap (fun j=>es[j]?)=es.toList.take n:=by
      intro n
      induction n with
      | zero=>intro _;simp
      | succ n ih=>
       intro wL
       rw [List.range_succ,List.filterMap_append,ih (by omega),dE,List.filterMap_nil,aO (by omega),fH,c8,aO (by omega)]
       rfl
     rw [Je es.size (ay _),cP (by simp)]
    rw [<- e1]
    exact rX.filterMap _
   ·intro b hb
    rw [v8] at hb ⊢
    simp only [aw,aR,or_false] at hb
    rcases hb with rfl|rfl|rfl
    ·exact cD _
    ·exact cU (cU halt)
    ·exact cU (cD _)
   ·intro b hb
    rw [v8] at hb
    simp only [aw,aR,or_false] at hb
    rcases hb with rfl|rfl|rfl
    ·exact .inr (ez _)
    ·exact .inl rfl
    ·exact .inr (ay _)
   ·have hlen:((ps.filterMap fun j=>es[j]?).map rF).length=es.size:=by
     have e0:=LA es ps fun j hj=>bK.mp (rX.mem_iff.mp hj)
     rw [aM,e0,rX.length_eq];simp
    rw [hlen]
    exact U9 hd hf rb hB (by rw [v8];exact bi (cU halt)) (by rw [v8];exact bi (cD _)) rX
  ·rw [aM,rX.length_eq,fw];exact jB hb
 | false=>
  rw [if_neg (by simp)]
  have this:=fin (bj 0) s.heap s.drawn (fun b ob e=>e) (ay _)
  have e0:({ s with heap:=s.heap,drawn:=s.drawn }:ag)=s:=by cases s;rfl
  rw [e0] at this
  refine this ?_
  by_cases A0:ve w=true
  ·refine ⟨(pickOrder (w.params.setOrder a ep) es).toList.map rF,[s.heap.objs.size,a],(fun i h=>(∃ sl:Nat,h.get? s.heap.objs.size=some (uY (bj sl) i a es.size ep))/\h.get? a=some o),((EW _ es).map rF).trans hp,by simp,?_,?_,fun B hB=>?_,⟨0,aE _ rfl⟩,ah _ ho⟩
   ·intro b hb
    simp only [aw,aR,or_false] at hb
    rcases hb with rfl|rfl
    ·exact cD _
    ·exact cU halt
   ·intro b hb
    simp only [aw,aR,or_false] at hb
    rcases hb with rfl|rfl
    ·exact .inr (ay _)
    ·exact .inl rfl
   ·have hlen:((pickOrder (w.params.setOrder a ep) es).toList.map rF).length=es.size:=by rw [aM,(EW _ es).length_eq];simp
    rw [hlen]
    exact VD hd hf rb A0 hB (bi halt)
  ·have A0:ve w=false:=by simpa using A0
   have h1:es.size<=1:=by
    rw [A0] at Jg
    simp at Jg;exact Jg
   have hpz:t.place.size=es.size:=by simp only [nr,a6,beq_iff_eq] at hf;exact hf.1
   refine ⟨es.toList.map rF,[s.heap.objs.size,a],(fun i h=>(∃ sl:Nat,h.get? s.heap.objs.size=some (uY (bj sl) i a es.size ep)/\eM t.place sl=i)/\h.get? a=some o),hp,by simp,?_,?_,fun B hB=>?_,⟨0,aE _ rfl,Ul _ (by omega)⟩,ah _ ho⟩
   ·intro b hb
    simp only [aw,aR,or_false] at hb
    rcases hb with rfl|rfl
    ·exact cD _
    ·exact cU halt
   ·intro b hb
    simp only [aw,aR,or_false] at hb
    rcases hb with rfl|rfl
    ·exact .inr (ay _)
    ·exact .inl rfl
   ·have hlen:(es.toList.map rF).length=es.size:=by simp
    rw [hlen]
    exact Wt hd hf rb A0 h1 (hl A0) hB (bi halt)
end
section
variable {P:aH} {w:aP} {A:aW} {E:ae->ag->Prop} {s:ag} {a:af} {ks:List Str}
theorem Rq (hT:s.TypeIs (.ref a) "set") (h:Q false s):am (av P w) A (jj (.ref a)) Q E s:=by
 unfold jj
 refine aa (wpAny_specialOf hT F.slot_set_len.lookup ?_)
 have yj:splitId "set.__len__" = some ("set", "__len__"):=by kernel_rfl
 have hss:=sub_set_self
 obtain ⟨hp,g,d,tk,os⟩:=s
 dsimp only
 rw [yj]
 dsimp only
 refine aa (io hT hss ?_)
 rw [if_neg (by simp),if_pos (by kernel_rfl)]
 exact aa (gF hT (aj h))
theorem Od:∀ (os:List Str) (vs:List ae),vs.length=os.length->(∀ j v,vs[j]?=some v->zM os j v)->fx vs os
 | [],[],_,_=>.nil
 | [],_::_,h,_=>by simp at h
 | _::_,[],h,_=>by simp at h
 | x::os,v::vs,h,q=>by
  obtain ⟨tk,e⟩:=q 0 v rfl
  have e:v=.str x tk:=e
  subst e
  exact .cons x tk (Od os vs (by simpa using h) fun j u z=>by
   obtain ⟨t',e'⟩:=q (j+1) u (by simpa using z)
   exact ⟨t',by simpa [List.getD] using e'⟩)
theorem Xd (hh:A.handled=none) (hS:nW P w a ks s.heap) (hn:ks.length<=1000)
  (h:∀ (vs:List ae) (os:List Str) s1,os.Perm ks->fx vs os->s.heap.objs.size<=s1.heap.objs.size->(∀ b o,s.heap.get? b=some o->s1.heap.get? b=some o)->s1.gens=s.gens->s1.os=s.os->Q vs s1):
  am (av P w) A (collect (.ref a)) Q E s:=by
 obtain ⟨o,es,ep,t,ho,hx,r⟩:=id hS
 have hT:s.TypeIs (.ref a) "set":=⟨o,ho,hx.1⟩
 have halt:a<s.heap.objs.size:=aG ho
 unfold collect
 refine aa (wpAny_runValue (fV F.entry_proto_collect ?_))
 rw [fB F.plain_proto_collect _]
 show am _ A.in1 (newList [] >>= fun l=>again (.builtin "list.__iadd__" ⟨[l,.ref a],[]⟩)) _ _ s
 refine aa (bt (aj ⟨ju mn _,fV F.entry_list_iadd ?_⟩))
 rw [fB mn _]
 have g0:(s.heap.push { cls:=.type "list",data:=.seq ([]:List ae).toArray }).get? s.heap.objs.size=some { cls:=.type "list",data:=.seq ([]:List ae).toArray }:=aE _ rfl
 have S0:nW P w a ks (s.heap.push { cls:=.type "list",data:=.seq ([]:List ae).toArray }):=hS.keep fun o e=>ah _ e
 have T0:nq { s with heap:=s.heap.push { cls:=.type "list",data:=.seq ([]:List ae).toArray } } (.ref a) "set":=⟨o,ah _ ho,hx.1⟩
 show am _ A.in1 (jk (.ref s.heap.objs.size) (.ref a) (.ref s.heap.objs.size)) _ _ _
 unfold jk
 refine aa (gF T0 ?_)
 have h1:jT (.ref s.heap.objs.size) (.ref a)=false:=by simp [jT,dq halt]
 rw [if_neg (by rw [h1];decide)]
 refine aa (QZ (s:={ s with heap:=s.heap.push { cls:=.type "list",data:=.seq ([]:List ae).toArray } }) S0 fun I s1 X=>?_)
 obtain ⟨⟨os,fp,St,p1,p2,p3,p6,p4,p5⟩,kp,ty,nw,gn,oo⟩:=X
 refine aa (cb (Rq ⟨o,kp a o (ah _ ho),hx.1⟩ ?_))
 rw [if_pos (by kernel_rfl)]
 refine aa (dk ?_)
 refine aa ?_
 obtain ⟨hp,g,d,tk,oss⟩:=s1
 have gS:hp.get? s.heap.objs.size=some { cls:=.type "list",data:=.seq ([]:List ae).toArray }:=kp _ _ g0
 show am _ A.in1 (updateSeq s.heap.objs.size (·.push .none) >>= fun _=>updateSeq s.heap.objs.size (·.pop)) _ _ _
 refine aa (j7 gS rfl ?_)
 have g2:=bA (dN (·.push cx)) gS rfl
 refine j7 g2 rfl ?_
 have g3:=bA (dN (·.pop)) g2 rfl
 have OY:(Shared.heap { s with heap:=s.heap.push { cls:=.type "list",data:=.seq ([]:List ae).toArray } }).objs.size=s.heap.objs.size+1:=bZ ..
 have Di:s.heap.objs.size∉fp:=fun m=>by
  rcases p6 _ m with e|e
  ·exact bP _ (e▸halt)
  ·rw [OY] at e;exact Nat.not_succ_le_self _ e
 have W:=(p4 A.in1 (by simpa using hh)).toS
 have vE:∀ b ob,b≠s.heap.objs.size->hp.get? b=some ob->((hp.update s.heap.objs.size (dN (·.push cx))).update s.heap.objs.size (dN (·.pop))).get? b=some ob:=
  fun b ob hb e=>(br _ _ (bq hb)).trans ((br _ _ (bq hb)).trans e)
 refine aj ⟨ju F.plain_extend_loop _,codeAny_extend_loopS W (aU (by rw [p1.length_eq];exact hn) (by decide)) _ Di _ os.length 0 _ _ _ rfl (cz _) ((p4 A.in1 (by simpa using hh)).frame 0 hp _ p5 fun b hb ob e=>vE b ob (fun q=>Di (q▸hb)) e) g3 (ItemsOf.nil _) fun s' acc c' hm PF xC=>?_⟩
 show am _ A (load s.heap.objs.size >>= _) _ _ s'
 refine aa (wpAny_load PF (aj ?_))
 have rz:fx acc.toList os:=Od os acc.toList (by simpa using xC.1) fun j v e=>xC.2 j v (by rw [<- c8];exact e)
 refine h acc.toList os s' p1 rz (fK (aG PF)) (fun b ob e=>hm.heap b ob ?_ (vE b ob ?_ (kp b ob (ah _ e)))) (hm.gens.trans gn) (hm.os.trans oo)
 ·simp only [aw,aR,or_false,not_or]
  refine ⟨fun q=>absurd (aG e) (by rw [q];exact bP _),fun q=>?_⟩
  have hb:=aG e
  rw [OY] at nw
  exact absurd (aV hb (l7 nw)) (by rw [q];exact bP _)
 ·exact fun q=>absurd (aG e) (by rw [q];exact bP _)
end
end DL
namespace DL
open PySem PyProof.Rows
section
variable {P:aH} {w:aP} {A:aW} {E:ae->ag->Prop} {s:ag} {a:af} {ks:List Str}
theorem UP (hh:A.handled=none) (hS:nW P w a ks s.heap) (hn:ks.length<1000)
  (h:∀ (out:Array ae) (os:List Str) l s1 c,os.Perm ks->sortedS os=true->fx out.toList os->s.heap.objs.size<=l->s1.heap.get? l=some { cls:=.type "list",data:=.seq out c }->(∀ b o,s.heap.get? b=some o->s1.heap.get? b=some o)->s1.gens=s.gens->s1.os=s.os->Q (.ref l) s1):
  am (av P w) A (call (.builtin "sorted") [.ref a]) Q E s:=by
 refine Calls.call_function_entry kind_sorted plain_sorted entry_sorted (args_sorted1 _) ?_
 unfold cQ.«sorted»
 refine aa (m:=checkCount "sorted" 1 1 _) (aj ?_)
 refine aa (Xd (by simpa using hh) hS (by omega) fun vs os s1 hp rz o_ kp gn oo=>?_)
 have hlen:vs.length=os.length:=rz.length
 have FF:vs.length<=100000:=by rw [hlen,hp.length_eq];omega
 refine aa (wpAny_newList ?_)
 have gl:(s1.heap.push (seqObj "list" vs.toArray 0)).get? s1.heap.objs.size=some (seqObj "list" vs.toArray 0):=aE _ rfl
 refine aa (cb (bJ slot_list_sort ⟨_,gl,rfl⟩ entry_list_sort (TS.list_sort_big strKind_oneLt gl rz.keysOf (fun v1 v2 pA e=>keyKind_strs (by rw [<- e];exact rz)) FF fun i_ a1 a2=>⟨_,rfl,?_⟩) (args_list_sort _)))
 obtain ⟨HY,q1,q2,q3⟩:=sorted_out_str rz a1 a2
 refine aj ⟨_,rfl,?_⟩
 have g1:=bA (dN fun _=>#[]) gl rfl
 have g2:=ah (seqObj "list" #[] 0) (ah (seqObj "tuple" vs.toArray 0) g1)
 have g3:=bA (dN fun _=>(arrOf i_).map (·.2)) g2 rfl
 refine h _ HY _ _ _ (q2.trans hp) q3 q1 ?_ g3 (fun b o e=>?_) gn oo
 ·exact o_
 ·have e1:=kp b o e
  have ne:s1.heap.objs.size≠b:=fun q=>absurd (aG e1) (by rw [<- q];exact bP _)
  exact (br _ _ ne).trans (ah _ (ah _ ((br _ _ ne).trans (ah _ e1))))
end
end DL
namespace DL
open PySem L2 PyProof.Rows
noncomputable def t6 (x:List Nat):List (List Nat)->List (List Nat)
 | []=>[x]
 | y::r=>if x<y then x::y::r else if x=y then y::r else y::t6 x r
def qj (ss:List (List Nat)):List (List Nat):=ss.foldl (fun l x=>t6 x l) []
theorem ou:∀ {l:List (List Nat)},y∈t6 x l↔y=x\/y∈l
 | []=>by simp [t6]
 | z::r=>by
  unfold t6
  split
  ·simp
  ·split
   ·rename_i h;subst h;simp
   ·rw [aw,ou,aw];exact ⟨fun h=>by rcases h with h|h|h<;>simp [h],fun h=>by rcases h with h|h|h<;>simp [h]⟩
theorem MV:∀ {l:List (List Nat)},l.Pairwise (· < ·)->(t6 x l).Pairwise (· < ·)
 | [],_=>by simp [t6]
 | z::r,h=>by
  obtain ⟨h1,h2⟩:=cN.mp h
  unfold t6
  split
  ·rename_i Fm
   exact cN.mpr ⟨fun y hy=>by
    rcases aw.mp hy with rfl|hy
    ·exact Fm
    ·exact jv Fm (h1 y hy),h⟩
  ·rename_i Fm
   split
   ·exact h
   ·rename_i qS
    refine cN.mpr ⟨fun y hy=>?_,MV h2⟩
    rcases ou.mp hy with rfl|hy
    ·exact jI fun q=>qS (mF (ko.mp q) (ko.mp Fm))
    ·exact h1 y hy
theorem yL (ss:List (List Nat)):y∈qj ss↔y∈ss:=by
 have:∀ (ss l:List (List Nat)),y∈ss.foldl (fun l x=>t6 x l) l↔y∈l\/y∈ss:=by
  intro ss
  induction ss with
  | nil=>intro l;simp
  | cons x ss ih=>intro l;rw [fT,ih,ou,aw];exact ⟨fun h=>by rcases h with (h|h)|h<;>simp [h],fun h=>by rcases h with h|h|h<;>simp [h]⟩
 rw [qj,this];simp
theorem Aq (ss:List (List Nat)):(qj ss).Pairwise (· < ·):=by
 have:∀ (ss l:List (List Nat)),l.Pairwise (· < ·)->(ss.foldl (fun l x=>t6 x l) l).Pairwise (· < ·):=by
  intro ss
  induction ss with
  | nil=>intro l h;exact h
  | cons x ss ih=>intro l h;exact ih _ (MV h)
 exact this ss [] ft
theorem EA:∀ {l m:List (List Nat)},l.Pairwise (· < ·)->m.Pairwise (· < ·)->(∀ x,x∈l↔x∈m)->l=m
 | [],[],_,_,_=>rfl
 | [],y::m,_,_,h=>absurd ((h y).mpr aI) (by simp)
 | x::l,[],_,_,h=>absurd ((h x).mp aI) (by simp)
 | x::l,y::m,hl,hm,h=>by
  obtain ⟨l1,l2⟩:=cN.mp hl
  obtain ⟨m1,m2⟩:=cN.mp hm
  have exy:x=y:=by
   rcases aw.mp ((h x).mp aI) with e|e
   ·exact e
   ·rcases aw.mp ((h y).mpr aI) with e'|e'
    ·exact e'.symm
    ·exact absurd (jv (m1 x e) (l1 y e')) (gQ _)
  subst exy
  rw [EA l2 m2 fun z=>⟨fun hz=>by
    rcases aw.mp ((h z).mp (aq _ hz)) with e|e
    ·subst e;exact absurd (l1 z hz) (gQ _)
    ·exact e,fun hz=>by
    rcases aw.mp ((h z).mpr (aq _ hz)) with e|e
    ·subst e;exact absurd (m1 z hz) (gQ _)
    ·exact e⟩]
abbrev toS (cs:List Nat):Str:=⟨cs.toArray⟩
theorem Hj:∀ (p:Str) (l:List Str),risingS p l=true->(p::l).Nodup->((p::l).map (·.cps.toList)).Pairwise (· < ·)
 | p,[],_,_=>by simp
 | p,x::r,h,nd=>by
  unfold risingS at h
  rw [a6,fY,ltCps_eq,decide_eq_false_iff_not] at h
  obtain ⟨n1,n2⟩:=cj.mp nd
  have ih:=Hj x r h.2 n2
  have Pd:p.cps.toList<x.cps.toList:=jI fun q=>n1 (by
   have:=mF (ko.mp h.1) (ko.mp q)
   have e:p=x:=by
    obtain ⟨pc⟩:=p;obtain ⟨xc⟩:=x
    have this:pc.toList=xc.toList:=this
    rw [show pc=xc from Array.toList_inj.mp this]
   rw [e];exact aI)
  rw [cn]
  refine cN.mpr ⟨fun y hy=>?_,ih⟩
  rw [cn] at hy ih
  rcases aw.mp hy with rfl|hy
  ·exact Pd
  ·exact jv Pd ((cN.mp ih).1 y hy)
theorem RO {ss:List (List Nat)} {os:List Str} (hp:os.Perm (sT (ss.map toS))) (hn:(sT (ss.map toS)).Nodup) (hs:sortedS os=true):os=(qj ss).map toS:=by
 have h1:(os.map (·.cps.toList)).Pairwise (· < ·):=by
  cases os with
  | nil=>exact ft
  | cons p l=>exact Hj p l hs (hp.nodup_iff.mpr hn)
 have h2:os.map (·.cps.toList)=qj ss:=EA h1 (Aq ss) fun x=>by
  rw [yL,bb]
  constructor
  ·rintro ⟨o,ho,rfl⟩
   have:=(LZ _).mp (hp.mem_iff.mp ho)
   obtain ⟨cs,s_,rfl⟩:=bb.mp this
   exact s_
  ·intro hx
   exact ⟨toS x,hp.mem_iff.mpr ((LZ _).mpr (bb.mpr ⟨x,hx,rfl⟩)),rfl⟩
 rw [<- h2,cO]
 refine (kq os).symm.trans (eG fun o _=>?_)
 obtain ⟨c⟩:=o
 rfl
theorem nW.nd (x:nW P w a ks h):ks.Nodup:=by
 obtain ⟨_,_,_,_,_,_,_,_,_,hn,_⟩:=x
 exact hn
section
variable {X:Cx} {p:Pos} {e:aQ} {t:DA}
noncomputable def QL (K:ai) (P:aH) (w:aP):List V->Hp->VK->Prop:=fun xs H Q=>∃ (p:af) (ss:List (List Nat)),xs=[.ref p]/\(pV K H p (ss.map fun cs=>V.str (toS cs))\/qu K H p (ss.map fun cs=>V.str (toS cs)))/\ss.length<=1000/\∀ l,H l=none->Q (.ref l) (upd H l (.ext (nW P w l (sT (ss.map toS)))))
theorem WT {ss:List (List Nat)} {f_:List ae} (r:nK (ss.map fun cs=>V.str (toS cs)) f_) {i:Nat} {v:ae} (h:f_[i]?=some v):∃ t:Tok,v=jc ((ss.map toS).getD i ⟨#[]⟩) t:=by
 obtain ⟨x,hx,rv⟩:=Hq r h
 rw [bh] at hx
 cases hs:ss[i]? with
 | none=>rw [hs] at hx;cases hx
 | some cs=>
  rw [hs] at hx;cases hx
  obtain ⟨t,rfl⟩:=rv
  exact ⟨t,by rw [aS,bh,hs];rfl⟩
theorem W2 (hc:X.calm=true):nU X (.type "set") (QL X.K X.prog X.w):=by
 intro pins s σ H xs us Q I r h
 obtain ⟨p,ss,rfl,sq,hl,q⟩:=h
 obtain ⟨u,rfl,ru⟩:=uN r
 cases ru
 have main:∀ (z:ZK) (f_:List ae),z.val=.ref p->z.pre s.heap->(∀ x t,z ≠ .str x t)->z.vals=f_.toArray->nK (ss.map fun cs=>V.str (toS cs)) f_->am (av X.prog X.w) X.A (call (.type "set") [.ref p]) (EP X pins σ Q) X.xe s:=by
  intro z f_ hv hp hn hi rv
  have hlen:f_.length=ss.length:=by rw [<- rv.length];simp
  rw [<- hv]
  refine wT I (X8 z (I.ok.hd hc) hp hn (ss.map toS) (by rw [hi];simp [hlen]) (fun i v e=>WT rv (by rw [hi] at e;simpa using e)) (by rw [aM];unfold scanBound;omega) fun h' tk S' hk pM=>?_)
  refine ⟨.ref s.heap.objs.size,_,I.laid (t':=tk) (o:=.ext (nW X.prog X.w s.heap.objs.size (sT (ss.map toS)))) (fun b ob z=>hk b ob (aG z) z) (ay _) ?_,rfl,q _ (I.hok.fresh (ay _))⟩
  exact ⟨S',let ⟨o,_,_,_,ho,_⟩:=S';⟨o,ho⟩,fun h1 h2 x k=>x.keep k⟩
 rcases sq with sq|sq
 ·obtain ⟨f_,rv,pl,_⟩:=I.list sq
  exact main (.lst p f_.toArray) f_ rfl pl.isList (fun _ _ e=>by cases e) rfl rv
 ·obtain ⟨f_,rv,pl,_⟩:=I.tuple sq
  exact main (.tup p f_.toArray) f_ rfl pl (fun _ _ e=>by cases e) rfl rv
theorem Hc:∀ {vs:List ae} {os:List Str},fx vs os->nK (os.map V.str) vs
 | _,_,.nil=>.nil
 | _,_,.cons y t h=>.cons ⟨t,rfl⟩ (Hc h)
theorem X4 (hc:X.calm=true):nU X (.builtin "sorted") (fun xs H Q=>∃ a ks,xs=[.ref a]/\H a=some (.ext (nW X.prog X.w a ks))/\ks.length<1000/\∀ l os,os.Perm ks->ks.Nodup->sortedS os=true->H l=none->Q (.ref l) (upd H l (.lst (os.map V.str)))):=by
 intro pins s σ H xs us Q I r h
 obtain ⟨a,ks,rfl,hH,hn,q⟩:=h
 obtain ⟨u,rfl,ru⟩:=uN r
 cases ru
 have hS:nW X.prog X.w a ks s.heap:=(I.hok a _ hH).1
 refine wT I (UP (I.ok.hd hc) hS hn fun out os l s1 c hp hs rz hl gl kp gn oo pM=>?_)
 have fr:H l=none:=I.hok.fresh hl
 have hlen:os.length<=sizeLine:=aU (fK (by rw [hp.length_eq];exact hn)) (by decide)
 have new:nV X.prog X.w (upd H l (.lst (os.map V.str))) s1.heap l (.lst (os.map V.str)):=⟨by rw [aM];exact hlen,out.toList,c,Hc rz,by rw [gl]⟩
 have hok:=I.hok.laid kp hl new
 refine ⟨.ref l,_,?_,rfl,q l os hp hS.nd hs fr⟩
 exact I.call' oo (Un.laid kp hl fr) hok (by rw [gn];exact I.bare) (fun b (hb:b∈([]:List af))=>absurd hb (aR))
end
section
variable {Ex:Nat->Hp->Prop}
theorem ED {K:ai} {H:Hp} {hid μ:List af}:∀ ss:List (List Nat),nJ K H hid μ (ss.map D.str) (ss.map fun cs=>V.str (toS cs))
 | []=>.nil
 | cs::r=>.cons GH (ED r)
noncomputable def JT (o:Bool) (r:R (List D)):R D:=r.bnd fun acc O1=>match vN acc with
 | some ss=>if ss.length<1000 then (if o=true then .ok (.own O1.length) (O1++[(qj ss).map .str]) else .ok (.lst ((qj ss).map .str)) O1) else .bad
 | none=>.bad
theorem strL_map:∀ ss:List (List Nat),vN (ss.map D.str)=some ss
 | []=>rfl
 | cs::r=>by show (vN (r.map D.str)).map _=_;rw [strL_map r];rfl
theorem Uu {P:aH} {w:aP} {H H':Hp} {hid μ g_:List af} {O':Ow} {L:af} {Q:VK} {o:Bool} {ss:List (List Nat)} {K:ai} (x:Ext H μ H' g_) (c:nI K H' hid g_ O') (hA:H' L=some (.ext (nW P w L (sT (ss.map toS))))) (hl:ss.length<1000)
  (q:p9 Ex K H hid μ (if o=true then .ok (.own O'.length) (O'++[(qj ss).map .str]) else .ok (.lst ((qj ss).map .str)) O') Q):
  ∃ a ks,[V.ref L]=[V.ref a]/\H' a=some (.ext (nW P w a ks))/\ks.length<1000/\∀ l os,os.Perm ks->ks.Nodup->sortedS os=true->H' l=none->Q (.ref l) (upd H' l (.lst (os.map V.str))):=by
 refine ⟨L,_,rfl,hA,gG (Md _) (by rw [aM];exact hl),fun l os hp hn hs hf=>?_⟩
 have e:=RO hp hn hs
 subst e
 rw [cO]
 cases o with
 | true=>exact post.ok (show p9 Ex K H hid μ (.ok (.own O'.length) (O'++[(qj ss).map .str])) Q from q) (x.trans (.cell hf)) (c.cell hf (ED _)) (AD c.len)
 | false=>exact post.ok (show p9 Ex K H hid μ (.ok (.lst ((qj ss).map .str)) O') Q from q) (x.trans (.laid hf)) (c.laid hf) (Dat.newL c hf (ED _))
end
section
variable {X:Cx} {Ex:Nat->Hp->Prop} {pos xm p p2:Pos} {e:aQ} {es:List aQ} {t:DA}
noncomputable def yC (o:Bool) (t:DA):DE:=fun σ O=>(t σ O).bnd fun xs O1=>match xs with
 | [x]=>match (match qI O1 x with|some ds=>some ds|none=>xj x) with
  | some ds=>JT o (.ok ds O1)
  | none=>.bad
 | _=>.bad
theorem Uv (o:Bool) (hc:X.calm=true) (hg:Gl X x) (hm:X.mg x=none) (hv:a9 x=some (.builtin "sorted")) (hg2:Gl X y) (CZ:X.mg y=none) (hv2:a9 y=some (.type "set")) (ha:rZ X Ex (e::es) t)
  (hn:x ≠ "__name__":=by decide) (qX:(x==("__debug__":Str))=false:=by decide) (hn2:y ≠ "__name__":=by decide) (Ji:(y==("__debug__":Str))=false:=by decide) (he:aD (e::es) X.env=(false,eval e X.env)::aD es X.env:=by rfl) (p_:(backTo xm (aD es X.env)).any (·.1)=false:=by rfl)
  (Pu:aD [.Call (.Name y p2) (e::es) [] xm] X.env=(false,eval (.Call (.Name y p2) (e::es) [] xm) X.env)::aD [] X.env:=by rfl):
  PD X Ex (.Call (.Name x p) [.Call (.Name y p2) (e::es) [] xm] [] pos) (yC o t):=
 qz (Aw (X4 hc) hg hm hv (vw (Nq (W2 hc) hg2 CZ hv2 ha.out hn2 Ji he p_) yI Pu) hn qX Pu (by rfl)) fun hid μ σ O d_ H Q e1 c1 q=>
  sY.go e1 c1 q fun xs O1 vs H1 h_ e2 x2 c d p=>by
   split at p
   ·rename_i x
    obtain ⟨v,rfl,dx⟩:=tx d
    split at p
    ·rename_i ds A4
     have h:∃ pa ws,v=.ref pa/\(pV X.K H1 pa ws\/qu X.K H1 pa ws)/\nJ X.K H1 hid h_ ds ws:=by
      cases e1:qI O1 x with
      | some es=>
       rw [e1] at A4;cases A4
       obtain ⟨p,ws,h1,sq,dd⟩:=uP c dx e1
       exact ⟨p,ws,h1,.inl sq,dd⟩
      | none=>
       rw [e1] at A4
       obtain ⟨p,ws,h1,sq,dd⟩:=Ae dx A4
       exact ⟨p,ws,h1,.inr sq,dd⟩
     obtain ⟨pa,ws,rfl,sq,dd⟩:=h
     have p:p9 Ex X.K H1 hid h_ (match vN ds with|some ss=>if ss.length<1000 then (if o=true then .ok (.own O1.length) (O1++[(qj ss).map .str]) else .ok (.lst ((qj ss).map .str)) O1) else .bad|none=>.bad) Q:=p
     split at p
     ·rename_i ss ens
      obtain ⟨hl,p⟩:=post.ite p
      have ev:=Gy dd ens
      subst ev
      exact ⟨pa,ss,rfl,sq,by omega,fun l rA=>Uu (.laid rA) (c.laid rA) qR hl p⟩
     ·exact ak p
    ·exact ak p
   ·exact ak p
end
end DL
namespace DL
open PySem L2
structure Nx (l:List Str):Prop
section
variable {X:Cx} {Ex:Nat->Hp->Prop} {elt tg iter:aQ} {ifs:List aQ} {gs:List cq} {scope:cF} {pos uU py:Pos} {x y:Str} {i k:Nat} {ext:List Str} {it0:DI} {g:Tg} {ts:List DT} {cs:List Cl} {te:DE}
noncomputable abbrev KE (X:Cx) (ext:List Str) (scope:cF) (tg:aQ) (g:Tg) (ifs:List aQ) (ts:List DT) (gs:List cq) (cs:List Cl) (elt:aQ) (te:DE):Prop:=∀ cells C s H fp,PG (qM X (X.N++ext) scope cells C s H fp) tg (g.rd X.K)/\cS (fun e t=>qE (qM X (X.N++ext) scope cells C s H fp) rR e t) ifs ts/\n9 (qM X (X.N++ext) scope cells C s H fp) gs cs/\PD (qM X (X.N++ext) scope cells C s H fp) rR elt te
theorem G9 (_:Nx ext) (o:Bool) (hc:X.calm=true) (hb:yq X.env.scope scope (X.N++ext) (pS (⟨it0,g,ts⟩::cs))) (hi:uk X Ex tg iter it0) (vg:KE X ext scope tg g ifs ts gs cs elt te) (hk:ext.length=k:=by rfl) (hs:∀ x,dD iter X.env x=pure x:=by intro _;rfl):
  PD X Ex (.ListComp elt (⟨tg,iter,ifs,0⟩::gs) scope pos) (pG o k it0 g ts cs te):=hk▸U7 o ext hc hi hb vg hs
theorem HC (_:Nx ext) (o:Bool) (hc:X.calm=true) (hN:X.N.Nodup) (Ja:X.N[i]?=some y) (hy:X.env.scope.names.lookup y=some .local) (hb:yq X.env.scope scope (X.N++ext) (pS (⟨it0,g,ts⟩::cs))) (hi:uk X Ex tg iter it0) (vg:KE X ext scope tg g ifs ts gs cs elt te)
  (IG:swapsWith (.ListComp elt (⟨tg,iter,ifs,0⟩::gs) scope pos) (some (.Name y py)) uU.line X.env=pure true) (hk:ext.length=k:=by rfl) (hs:∀ x,dD iter X.env x=pure x:=by intro _;rfl):
  rC X Ex (.Assign [.Name y py] (.ListComp elt (⟨tg,iter,ifs,0⟩::gs) scope pos) uU) (oX i (pG o k it0 g ts cs te)):=hk▸Zb o ext hc hN Ja hy hi hb vg IG hs
end
noncomputable def uQ (c:DT) (b:DS):Nat->Sg->Ow->RS
 | 0,_,_=>.bad
 | f+1,σ,O=>(c σ O).bnS fun k O1=>if k=true then (match b σ O1 with
   | .nx σ' O'=>uQ c b f σ' O'
   | .ct σ' O'=>uQ c b f σ' O'
   | .bk σ' O'=>.nx σ' O'
   | r=>r) else .nx σ O1
def Gh (f:Nat) (c:DT) (b:DS):DS:=uQ c b f
section
variable {X:Cx} {Ex:Nat->Hp->Prop} {pos:Pos}
theorem XH (f:Nat) (hp:j0 (av X.prog X.w) X.A X.env X.xe) (hc:qE X Ex c tc) (hb:sM X Ex body tb):rC X Ex (.While c body [] pos) (Gh f tc tb):=
 xU (WD hp hc.out hb.out) fun hid μ σ O E d_ H e1 c1 q=>by
  refine ⟨fun m d_ H=>∃ hid μ σ O,nM X.K H hid μ σ d_/\nI X.K H hid μ O/\nN Ex X.K H hid μ (uQ tc tb m σ O) E,⟨f,hid,μ,σ,O,e1,c1,q⟩,?_⟩
  rintro m d_ H ⟨hid,μ,σ,O,e1,c1,q⟩
  cases m with
  | zero=>exact ak q
  | succ f=>
   refine vD.goS e1 c1 q fun k O1 H1 h_ e2 x2 c2 p=>?_
   cases k with
   | false=>exact p d_ H1 h_ .refl e2 c2
   | true=>
    rw [if_pos rfl]
    refine ⟨fun d_ H=>∃ hid μ σ O,nM X.K H hid μ σ d_/\nI X.K H hid μ O/\nN Ex X.K H hid μ (uQ tc tb f σ O) E,fun _ _ z=>⟨f,cD _,z⟩,hid,h_,σ,O1,e2,c2,?_⟩
    have p:nN Ex X.K H1 hid h_ (match tb σ O1 with|.nx σ' O'=>uQ tc tb f σ' O'|.ct σ' O'=>uQ tc tb f σ' O'|.bk σ' O'=>.nx σ' O'|r=>r) E:=p
    cases hr:tb σ O1 with
    | nx σ' O'=>rw [hr] at p;exact fun Qa H' g_ x e c=>⟨hid,g_,σ',O',e,c,nN.ext p x⟩
    | ct σ' O'=>rw [hr] at p;exact fun Qa H' g_ x e c=>⟨hid,g_,σ',O',e,c,nN.ext p x⟩
    | bk σ' O'=>rw [hr] at p;exact p
    | rt d O'=>rw [hr] at p;exact p
    | exc c' O'=>rw [hr] at p;exact p
    | bad=>rw [hr] at p;exact p
end
noncomputable def Bm (to:DE) (t:DA):DE:=fun σ O=>(to σ O).bnd fun x O1=>match x with
 | .own k=>(t σ O1).bnd fun ys O2=>match ys,O2[k]? with
  | [.int i],some ds=>if 0<=i/\i<100000 then (match ds[i.toNat]? with
   | some d=>.ok d (O2.set k (ds.eraseIdx i.toNat))
   | none=>.bad) else .bad
  | _,_=>.bad
 | _=>.bad
theorem nJ.erase:∀ {ds:List D} {vs:List V} (i:Nat),nJ K H hid μ ds vs->nJ K H hid μ (ds.eraseIdx i) (vs.eraseIdx i)
 | [],vs,i,h=>by
  unfold nJ at h
  subst h
  simpa using (nJ.nil:nJ K H hid μ [] [])
 | d::ds,vs,i,h=>by
  unfold nJ at h
  obtain ⟨v,r,rfl,h1,h2⟩:=h
  cases i with
  | zero=>exact h2
  | succ i=>exact .cons h1 (nJ.erase i h2)
theorem Rp (h:0<=i) (hn:i.toNat<n):seqIndex? i n=some i.toNat:=by
 unfold seqIndex?
 split<;>simp_all<;>omega
section
variable {X:Cx} {Ex:Nat->Hp->Prop} {e:aQ}
theorem WI (ho:PD X Ex o to) (ha:rZ X Ex (e::es) t) (oW:attributeBase o "pop" X.env (eval o X.env)=eval o X.env:=by rfl)
  (qO:((backTo oP (aD (e::es) X.env)).all (fun x=>!x.1)&&(backToKw oP (keywordEach [] X.env)).all (fun x=>x.1.isSome)&&decide ((e::es).length+([]:List fF).length+(if ([]:List fF).isEmpty then 0 else 1)<30))=true:=by rfl)
  (qx:(apos.endLine==oP.line)=true:=by rfl) (hs:aD (e::es) X.env=(false,eval e X.env)::aD es X.env:=by rfl) (qk:(backTo oP (aD es X.env)).any (·.1)=false:=by rfl):
  PD X Ex (.Call (.Attribute o "pop" apos) (e::es) [] oP) (Bm to t):=
 qz (D0 gT lJ PySem.F.type_list_pop V8 ho.out ha.out oW qO qx hs qk) fun hid μ σ O d_ H Q e1 c1 q=>rd.go e1 c1 q fun d O1 v H1 h_ e2 x cl r p=>by
  cases d with
  | own k=>
   have hr:=r
   unfold Dat at r
   obtain ⟨A,rfl,hk⟩:=r
   obtain ⟨ds,vs,h1,h2,h3⟩:=cl.at_ k A hk
   refine ⟨.inl ⟨rfl,vs,.of h2⟩,sY.go e2 cl p fun ys O2 ws H2 pd e3 x3 c3 d3 p3=>?_⟩
   split at p3
   ·rename_i i es' tJ
    obtain ⟨⟨hi0,hi1⟩,p3⟩:=post.ite p3
    obtain ⟨w,rfl,dw⟩:=tx d3
    unfold Dat at dw
    subst dw
    have qN:pd[k]?=some A:=by
     have:=hr.ext x3
     unfold Dat at this
     obtain ⟨A',e',uh⟩:=this
     cases e';exact uh
    obtain ⟨JG,xg,g1,g2,g3⟩:=c3.at_ k A qN
    rw [tJ] at g1;cases g1
    split at p3
    ·rename_i d hd
     obtain ⟨y,hy,dy⟩:=g3.get hd
     have pF:=(al.mp hy).1
     refine ⟨A,xg,i,i.toNat,y,rfl,rfl,g2,by omega,by omega,Rp hi0 pF,hy,?_⟩
     exact post.ok p3 (.put (aC qN) ⟨_,g2⟩) (c3.put qN (g3.erase _)) (dy.ext (.put (aC qN) ⟨_,g2⟩))
    ·exact ak p3
   ·exact ak p3
  | _=>exact ak p
end
end DL
namespace DL
open PySem L2 PyProof.Rows
noncomputable def yF:Ow->List D->R D:=fun O xs=>match xs with
 | [x]=>match qI O x with
  | some ds=>match vN ds with
   | some ss=>if ss.Nodup/\ss.length<64 then .ok (.lst ((qj ss).map .str)) O else .bad
   | none=>.bad
  | none=>.bad
 | _=>.bad
theorem US {ss:List (List Nat)} {os:List Str} (hp:os.Perm (ss.map toS)) (hn:ss.Nodup) (hs:sortedS os=true):os=(qj ss).map toS:=by
 have wL:(ss.map toS).Nodup:=by
  rw [List.nodup_iff_pairwise_ne] at hn ⊢
  rw [List.pairwise_map]
  refine hn.imp fun h e=>h ?_
  have e:(toS _).cps=(toS _).cps:=congrArg Str.cps e
  simpa using e
 have h1:(os.map (·.cps.toList)).Pairwise (· < ·):=by
  cases os with
  | nil=>exact ft
  | cons p l=>exact Hj p l hs (hp.nodup_iff.mpr wL)
 have h2:os.map (·.cps.toList)=qj ss:=EA h1 (Aq ss) fun x=>by
  rw [yL,bb]
  constructor
  ·rintro ⟨o,ho,rfl⟩
   obtain ⟨cs,s_,rfl⟩:=bb.mp (hp.mem_iff.mp ho)
   exact s_
  ·intro hx
   exact ⟨toS x,hp.mem_iff.mpr (bb.mpr ⟨x,hx,rfl⟩),rfl⟩
 rw [<- h2,cO]
 refine (kq os).symm.trans (eG fun o _=>?_)
 obtain ⟨c⟩:=o
 rfl
section
variable {X:Cx} {Ex:Nat->Hp->Prop} {H:Hp} {hid μ:List af}
noncomputable def Kv (K:ai):List V->Hp->VK->Prop:=fun xs H Q=>∃ p ss,xs=[.ref p]/\pV K H p (ss.map fun cs=>V.str ⟨cs.toArray⟩)/\ss.Nodup/\ss.length<64/\∀ l,H l=none->Q (.ref l) (upd H l (.lst ((qj ss).map fun cs=>V.str ⟨cs.toArray⟩)))
theorem XE:nU X (.builtin "sorted") (Kv X.K):=by
 intro pins s σ H xs us Q I r h
 obtain ⟨p,ss,rfl,sq,ho,hl,q⟩:=h
 obtain ⟨u,rfl,ru⟩:=uN r
 cases ru
 obtain ⟨f_,rv,pl,hz⟩:=I.list sq
 have hm:(ss.map fun cs=>V.str ⟨cs.toArray⟩)=(ss.map toS).map V.str:=by rw [cO];rfl
 have hS:fx f_ (ss.map toS):=Hw (by rw [<- hm];exact rv)
 have hlen:f_.length=ss.length:=by have:=rv.length;simpa using this.symm
 refine sorted_strs pl.isList hS (by rw [hlen];exact hl) fun out os a1 a2 a3=>?_
 have e:=US a2 ho a3
 subst e
 obtain ⟨e,he⟩:=sortedAll_at s.heap f_ out
 have hn:H (s.heap.objs.size+1)=none:=I.hok.fresh (ez _)
 refine ⟨.ref _,_,I.laid (t':=s.toks) (o:=.lst ((qj ss).map fun cs=>V.str ⟨cs.toArray⟩)) (fun _ _ z=>sortedAll_old z) (ez _) ?_,rfl,q _ hn⟩
 have hv:=Hc a1
 rw [cO] at hv
 refine ⟨?_,out.toList,e,hv,by rw [he]⟩
 have h1:(qj ss).length=ss.length:=by have:=a2.length_eq;simpa using this
 rw [aM,h1]
 exact aU (fK hl) (by decide)
theorem U3:uM X Ex (Kv X.K) yF:=by
 intro H hid μ O xs vs Q c d q
 unfold yF at q
 split at q
 ·rename_i x
  obtain ⟨v,rfl,dx⟩:=tx d
  split at q
  ·rename_i ds e
   obtain ⟨p,ws,rfl,sq,dd⟩:=uP c dx e
   split at q
   ·rename_i ss es
    obtain ⟨⟨h1,h2⟩,q⟩:=post.ite q
    have ev:=Gy dd es
    subst ev
    exact ⟨p,ss,rfl,sq,h1,h2,fun l hl=>post.ok q (.laid hl) (c.laid hl) (Dat.newL c hl (ED _))⟩
   ·exact ak q
  ·exact ak q
 ·exact ak q
end
noncomputable def DY (y z:List Nat) (to:DE):DE:=fun σ O=>(to σ O).bnd fun x O1=>match x with
 | .str i=>if i.length<=1000 then .ok (.str (Txt.replace ⟨i.toArray⟩ ⟨y.toArray⟩ ⟨z.toArray⟩).cps.toList) O1 else .bad
 | _=>.bad
section
variable {X:Cx} {Ex:Nat->Hp->Prop} {o:aQ} {to:DE} {apos oP p1 p2:Pos}
theorem UG (y z:List Nat) (hy:ys=⟨y.toArray⟩) (hz:zs=⟨z.toArray⟩) (hyz:(ys==zs)=false) (hzl:z.length<=14) (ho:PD X Ex o to) (oW:attributeBase o "replace" X.env (eval o X.env)=eval o X.env:=by rfl)
  (qx:(apos.endLine==oP.line)=true:=by rfl):PD X Ex (.Call (.Attribute o "replace" apos) [.Constant (.str ys) j1 p1,.Constant (.str zs) j2 p2] [] oP) (DY y z to):=by
 refine ⟨?_⟩
 rintro pins s d_ H Q I ⟨hid,μ,σ,O,e1,c1,q⟩
 refine kg oW rfl qx rfl (oV (ho.out pins s d_ H (fun v H1=>∃ i:List Nat,v=.str ⟨i.toArray⟩/\i.length<=1000/\Q (.str (Txt.replace ⟨i.toArray⟩ ⟨y.toArray⟩ ⟨z.toArray⟩)) H1) I (rd.go e1 c1 q fun d O1 v H1 h_ e2 x cl r p=>?_)) fun v s1 ⟨x,H1,I1,r1,i,ex,hl,q1⟩=>?_)
 ·cases d with
  | str i=>
   unfold Dat at r
   obtain ⟨h1,q⟩:=post.ite p
   exact ⟨i,r,h1,post.here q cl (by unfold Dat;rw [Es])⟩
  | _=>exact ak p
 ·subst ex
  obtain ⟨t,rfl⟩:=r1
  refine ⟨"str", "str.replace",kj,PySem.F.slot_str_replace,PySem.F.type_str_replace,kS _ _ _,(fun a e=>by cases e),?_⟩
  refine kh rfl (hJ ?_)
  show am _ _ (spliced ((false,eval (.Constant (.str ys) j1 p1) X.env)::(false,eval (.Constant (.str zs) j2 p2) X.env)::[])) _ _ s1
  refine gD (jd (gD (jd (jx ?_))))
  have hi:(⟨i.toArray⟩:Str).length<=1048576:=aU (show i.toArray.size<=1000 by simpa using hl) (by decide)
  subst hy hz
  refine eZ (n:=1) (Nat.le_add_left _ _) (SC.replaceW (dq I1.tk) (Nat.succ_ne_zero _) (bi (cD _)) hyz hi (show z.toArray.size<=14 by simpa using hzl) fun t' k pM=>⟨.str _,H1,I1.tok k pM,⟨_,rfl⟩,q1⟩)
end
end DL
namespace DL
open PySem L2
open PyProof.Rows (AllBare)
structure zlQ (Cl:Nat->ae) (P:aH) (w:aP) (K:ai) (mg:Str->Option ae) (base:aT) (x:Str) (k n:Nat) (Pt:af) (F:List D->Ow->R D):Prop where
 ex:∃ f fd ps,mg x=some (.ref f)/\dB K (.ref f)=true/\Binds K fd ps []/\nY P w K mg base (qA P w Cl) k f fd ps (xM K (Xk Cl) n Pt F)
structure zmX (K:ai) (mg:Str->Option ae) (x:Str) (st:dh) (c:af):Prop where
 ex:∃ f fd,mg x=some (.ref f)/\L2.Fun K x x st f fd/\fd.code=.ref c
structure FK where
 params:fE
 body:aQ
 scope:cF
 tE:DE
noncomputable def RC (X:Cx) (L:FK) (c:af) (ct:ae):Obj:={ cls:=.type "function",data:=.func (dO "<lambda>" (X.env.qual ++ "<lambda>") L.params L.body L.scope (qF X.env.cells L.scope.names []) ((X.mg "__name__").getD .none) (.ref c) ct) }
noncomputable def oA (X:Cx) (L:FK) (H:Hp) (a:af):Prop:=∃ c φ ct,H a=some (.ext fun h=>h.get? a=some (RC X L c ct))/\H c=some (.ext φ)/\∀ h:aT,φ h->∃ q,h.CodeRec (.ref c) q
structure zmT (Cl:Nat->ae) (X:Cx) (k:Nat) (L:FK):Prop where
 ls:EB X.env.scope L.scope
 df:defaultsOf L.params X.env=([],[])
 bl:∀ (name qual:Str) (cl:List (Str×af)) (pm cd ct:ae),bindArgs (dO name qual L.params L.body L.scope cl pm cd ct) ⟨[],[]⟩=pure []
 E:∀ (q:Str) (lam:af) (cd:ae) (cl:List (Str×af)) (A:aW) (outer:List Env) (s:ag) (H:Hp) (E:XK),nO k (A.deeper (tZ q L.scope s.heap.objs.size lam cd cl))->PD (zL (qA X.prog X.w Cl) X.prog X.w X.K X.mg X.base X.N (tZ q L.scope s.heap.objs.size lam cd cl) A outer s H E) (Xk Cl E) L.body L.tE
section
variable {X:Cx} {H H':Hp}
theorem oA.ext (h:oA X L H a) (x:Ext H [] H' []):oA X L H' a:=by
 obtain ⟨c,φ,ct,h1,h2,h3⟩:=h
 exact ⟨c,φ,ct,x.keep _ _ h1 (by simp),x.keep _ _ h2 (by simp),h3⟩
end
structure FQ (X:Cx) (H0:Hp) (l:af) (ls:List FK) (as:List af) (H:Hp):Prop where
 nl:H0 l=none
 ea:Ea l H0 [] H []
 at_:H l=some (.lst (as.map V.ref))
 lam:cS (fun L a=>oA X L H a) ls as
 nd:as.Nodup
theorem FQ.ext (b:FQ X H0 l ls as H) (μ:List af):Ext H0 μ H μ:=
 ⟨⟨[],by simp⟩,fun c o h _ ht=>b.ea.kept c o h (by simp) (qU h b.nl) ht,fun _ m=>.inl m,b.ea.there,b.ea.tab⟩
theorem FQ.cells (b:FQ X H0 l ls as H) (c:nI K H0 hid μ O):nI K H hid μ O:=by
 refine ⟨c.len,c.nd,c.nh,fun a m=>b.ea.there a (c.ht a m),fun k a e=>?_⟩
 obtain ⟨ds,vs,h1,h2,h3⟩:=c.at_ k a e
 exact ⟨ds,vs,h1,b.ea.kept a _ h2 (by simp) (qU h2 b.nl) (by intro ps z;cases z),h3.ext (b.ext μ)⟩
theorem nM.take (e:nM K H hid μ σ d_) (n:Nat):nM K H hid μ (σ.take n) (d_.take n):=
 ⟨by simp [e.len],fun i d h=>by
  rw [jh] at h
  split at h
  ·rename_i hi
   obtain ⟨v,h1,h2⟩:=e.at_ i d h
   exact ⟨v,by rw [jh,if_pos hi];exact h1,h2⟩
  ·cases h⟩
theorem nM.drop (e:nM K H hid μ σ d_) (i:Nat):nM K H hid μ (σ.set i none) d_:=
 ⟨by simp [e.len],fun j d h=>by
  by_cases hj:i=j
  ·subst hj
   by_cases hl:i<σ.length
   ·rw [ba hl] at h;cases h
   ·rw [aZ.mpr (by simp;omega)] at h;cases h
  ·rw [a8 hj] at h
   exact e.at_ j d h⟩
section
end
end DL
namespace DL
open PySem L2 PySem.Spec PyProof.Rows
open Sem (wp)
theorem ME (f_:List ae):∀ (k:Nat) (acc:List ae),(ao k f_.toArray).foldl (· ++ ·) acc.toArray=(acc++(ao k f_).flatten).toArray
 | 0,acc=>by simp
 | k+1,acc=>by
  rw [cT,fT,show acc.toArray++f_.toArray=(acc++f_).toArray from by simp,ME f_ k (acc++f_),cT]
  simp
theorem NC (f_:List ae) (k:Nat):(ao k f_.toArray).foldl (· ++ ·) #[]=((ao k f_).flatten).toArray:=by
 have:=ME f_ k []
 simpa using this
theorem vZ {α:Type} (l:List α):∀ k:Nat,(ao k l).flatten.length=k*l.length
 | 0=>by simp
 | k+1=>by rw [cT,dR,ar,vZ l k,lV,Nat.add_comm]
theorem nK.flat (r:nK vs us):∀ k:Nat,nK (ao k vs).flatten (ao k us).flatten
 | 0=>.nil
 | k+1=>by rw [cT,cT,dR,dR];exact r.append (nK.flat r k)
theorem nJ.flat {K:ai} {H:Hp} {hid μ:List af} {ds:List D} {vs:List V} (r:nJ K H hid μ ds vs):∀ k:Nat,nJ K H hid μ (ao k ds).flatten (ao k vs).flatten
 | 0=>.nil
 | k+1=>by rw [cT,cT,dR,dR];exact r.append (nJ.flat r k)
theorem Xo (l:af) (items:Array ae) (n:Nat) (u:Tok) (dd:Option af) (sl):
  Meets (cQ.«tuple.__mul__» ⟨[.ref l,.int 1 u],[]⟩) (fun _ R s=>s.heap.get? l=some { cls:=.type "tuple",dict:=dd,data:=.seq items n,slots:=sl }/\R (.ok (.ret (.ref l))) s):=
 .of_wp fun prog w A R s h=>by obtain ⟨hp,g,d,tk,os⟩:=s;obtain ⟨hl,h⟩:=h;wp_walk;exact ⟨_,rfl,h⟩
theorem Wu (l:af) (items:List ae) (n:Nat) (x:Int) (u:Tok) (dd:Option af) (sl) (h0:items≠[]) (h1:items.length<=1000) (hx:2<=x) (hx2:x<=64):
  Meets (cQ.«tuple.__mul__» ⟨[.ref l,.int x u],[]⟩) (fun _ R s=>s.heap.get? l=some { cls:=.type "tuple",dict:=dd,data:=.seq items.toArray n,slots:=sl }/\R (.ok (.ret (db s.heap.objs.size))) { s with heap:=s.heap.push { cls:=.type "tuple",data:=.seq ((ao x.toNat items).flatten).toArray } }):=
 .of_wp fun prog w A R s h=>by
  obtain ⟨hp,g,d,tk,os⟩:=s;obtain ⟨hl,h⟩:=h
  have hz:items.toArray ≠ #[]:=by intro e;exact h0 (by simpa using e)
  have hb:(items.toArray.size:Int)*x<=64000:=by
   rw [az]
   calc (items.length:Int)*x<=1000*x:=Int.mul_le_mul_of_nonneg_right (by omega) (by omega)
    _<=64000:=by omega
  have c0:¬ (decide (x < -2 ^ 63)||decide (x ≥ 2 ^ 63))=true:=by simp;omega
  have c1:¬ ((items.toArray.size:Int)*x>(2 ^ 63-1)/8):=by
   have:((2 ^ 63-1)/8:Int)=1152921504606846975:=by decide
   omega
  have c2:gk ((items.toArray.size:Int)*x)=false:=by
   unfold gk
   have:sizeLine=16777216:=fD
   rw [this]
   exact decide_eq_false (by omega)
  have c3:=NC items x.toNat
  have e1:(items.toArray.isEmpty||x==1)=false:=by
   have:(x==1)=false:=by simp;omega
   rw [this];simpa using h0
  have e2:(decide (x<=0)||items.toArray.isEmpty)=false:=by
   have:decide (x<=0)=false:=decide_eq_false (by omega)
   rw [this];simpa using h0
  wp_walk
  rw [if_neg c0]
  wp_walk
  rw [if_neg (by rw [e1];decide)]
  rw [if_neg (by rw [e2];decide)]
  rw [if_neg c1]
  dsimp only
  rw [if_neg (show ¬ gk ((items.toArray.size:Int)*x)=true by rw [c2];decide),c3]
  have hs:((ao x.toNat items).flatten).toArray.size<=sizeLine:=by
   have:sizeLine=16777216:=fD
   rw [az,vZ]
   have:x.toNat<=64:=by omega
   calc x.toNat*items.length<=64*1000:=i6 this h1
    _<=_:=by omega
  exact aa (m:=ci _) (bt (aj ⟨_,rfl,h⟩) hs)
theorem Zp (a:Int) (t:Tok) (l:af) (items:Array ae) (n:Nat) (dd:Option af) (sl):
  Meets (cQ.«int.__rmul__» ⟨[.int a t,.ref l],[]⟩) (fun _ R s=>s.heap.get? l=some { cls:=.type "list",dict:=dd,data:=.seq items n,slots:=sl }/\R (.ok (.ret kW)) s):=
 .of_wp fun prog w A R s h=>by obtain ⟨hp,g,d,tk,os⟩:=s;obtain ⟨hl,h⟩:=h;wp_walk;exact ⟨_,rfl,h⟩
theorem V6 (l:af) (items:List ae) (n:Nat) (x:Int) (u:Tok) (dd:Option af) (sl) (h0:items≠[]) (h1:items.length<=1000) (hx:1<=x) (hx2:x<=64):
  Meets (cQ.«list.__mul__» ⟨[.ref l,.int x u],[]⟩) (fun _ R s=>s.heap.get? l=some { cls:=.type "list",dict:=dd,data:=.seq items.toArray n,slots:=sl }/\R (.ok (.ret (db s.heap.objs.size))) { s with heap:=s.heap.push { cls:=.type "list",data:=.seq ((ao x.toNat items).flatten).toArray } }):=
 .of_wp fun prog w A R s h=>by
  obtain ⟨hp,g,d,tk,os⟩:=s;obtain ⟨hl,h⟩:=h
  have OZ:x.toNat<=64:=by omega
  have hb:items.toArray.size*x.toNat<=64000:=by
   rw [az]
   calc items.length*x.toNat<=1000*64:=i6 h1 OZ
    _<=64000:=by omega
  have hc0:¬(!Builtin.List.listFitsIndex x)=true:=by
   unfold Builtin.List.listFitsIndex
   simp;omega
  have Jo:¬items.toArray.size*x.toNat>(2 ^ 63-1)/8:=by
   have:((2 ^ 63-1)/8:Nat)=1152921504606846975:=by decide
   omega
  have wN:¬dH (items.toArray.size*x.toNat)=true:=by
   unfold dH
   have h2:sizeLine=16777216:=fD
   rw [h2]
   simpa using (by omega:items.toArray.size*x.toNat<=16777216)
  have c3:=NC items x.toNat
  have e1:items.toArray.isEmpty=false:=by simpa using h0
  have hs:((ao x.toNat items).flatten).toArray.size<=sizeLine:=by
   have:sizeLine=16777216:=fD
   rw [az,vZ]
   calc x.toNat*items.length<=64*1000:=i6 OZ h1
    _<=_:=by omega
  wp_walk
  rw [if_neg Jo]
  dsimp only
  rw [if_neg wN,e1,if_neg (by decide),c3]
  exact aa (m:=newObj _ _) (bt (aj ⟨_,rfl,h⟩) hs)
section
variable {X:Cx} {Ex:Nat->Hp->Prop}
noncomputable def Kn (K:ai):R2:=fun x y H Q=>∃ a xs i,x=.ref a/\y=.int i/\xs≠[]/\xs.length<=1000/\i<=64/\
 ((qu K H a xs/\i=1/\Q (.ref a) H)\/(qu K H a xs/\2<=i/\∀ p,H p=none->Q (.ref p) (upd H p (.tup (ao i.toNat xs).flatten)))\/(pV K H a xs/\1<=i/\∀ p,H p=none->Q (.ref p) (upd H p (.lst (ao i.toNat xs).flatten))))
theorem Vm:pH X (dj .Mult) (Kn X.K):=by
 intro pins s σ H x y v u Q I rx ry h
 obtain ⟨a,xs,i,rfl,rfl,hx,hz,hi,h⟩:=h
 cases rx
 obtain ⟨t,rfl⟩:=ry
 have qS:∀ {f_:List ae},nK xs f_->f_≠[]/\f_.length<=1000:=fun {f_} r=>by
  have hlen:=r.length
  refine ⟨fun e=>hx ?_,by omega⟩
  subst e
  exact dg.mp (by simpa using hlen)
 have o_:i.toNat*xs.length<=sizeLine:=by
  have:sizeLine=16777216:=fD
  have A2:i.toNat<=64:=by omega
  calc i.toNat*xs.length<=64*1000:=i6 A2 hz
   _<=_:=by omega
 rcases h with ⟨sq,rfl,q⟩|⟨sq,h2,q⟩|⟨sq,h2,q⟩
 ·obtain ⟨f_,r,⟨⟨cls,dd,data,sl⟩,ho,hc,n,hd⟩,_⟩:=I.tuple sq
  simp only at hc hd
  subst hc hd
  exact gC (T := "tuple") (U := "int") (by decide) ⟨_,ho,rfl⟩ (fun s'=>gP s' 1 t) Ou ix eo N6 hV.lookup
   (fQ eo (gP s 1 t) h9 (gU _ _) (N9 1 t a f_.toArray n dd sl)
    ⟨ho,rfl,⟨_,ho,rfl⟩,fQ fX ⟨_,ho,rfl⟩ jY (jU _ _) (Xo a f_.toArray n t dd sl) ⟨ho,.ref a,H,I,rfl,q⟩⟩)
 ·obtain ⟨f_,r,⟨⟨cls,dd,data,sl⟩,ho,hc,n,hd⟩,_⟩:=I.tuple sq
  simp only at hc hd
  subst hc hd
  obtain ⟨n1,n2⟩:=qS r
  refine gC (T := "tuple") (U := "int") (by decide) ⟨_,ho,rfl⟩ (fun s'=>gP s' i t) Ou ix eo N6 hV.lookup
   (fQ eo (gP s i t) h9 (gU _ _) (N9 i t a f_.toArray n dd sl)
    ⟨ho,rfl,⟨_,ho,rfl⟩,fQ fX ⟨_,ho,rfl⟩ jY (jU _ _) (Wu a f_ n i t dd sl n1 n2 h2 hi) ⟨ho,?_⟩⟩)
  exact ⟨.ref s.heap.objs.size,_,I.laid (t':=s.toks) (o:=.tup (ao i.toNat xs).flatten) (fun b ob q=>ah _ q) (ay _) ⟨by rw [vZ];exact o_,_,nK.flat r _,n6.new _ _⟩,rfl,q _ (I.hok.fresh (ay _))⟩
 ·obtain ⟨f_,r,pl,_⟩:=I.list sq
  obtain ⟨⟨cls,dd,data,sl⟩,ho,hc,n,hd⟩:=pl.isList
  simp only at hc hd
  subst hc hd
  obtain ⟨n1,n2⟩:=qS r
  refine gC (T := "list") (U := "int") (by decide) ⟨_,ho,rfl⟩ (fun s'=>gP s' i t) PySem.noFill_list_mul ix eo PySem.repeat_list hV.lookup
   (fQ eo (gP s i t) h9 (gU _ _) (Zp i t a f_.toArray n dd sl)
    ⟨ho,rfl,⟨_,ho,rfl⟩,fQ PySem.F.slot_list_mul ⟨_,ho,rfl⟩ PySem.F.entry_list_mul (PySem.F.args_list_mul_2 _ _) (V6 a f_ n i t dd sl n1 n2 h2 hi) ⟨ho,?_⟩⟩)
  exact ⟨.ref s.heap.objs.size,_,I.laid (t':=s.toks) (o:=.lst (ao i.toNat xs).flatten) (fun b ob q=>ah _ q) (ay _) ⟨by rw [vZ];exact o_,_,_,nK.flat r _,aE _ rfl⟩,rfl,q _ (I.hok.fresh (ay _))⟩
noncomputable def DX (o:Bool):Ow->D->D->R D:=fun O x y=>match y with
 | .int i=>if i<=64 then match x with
  | .tup ds=>if ds≠[]/\ds.length<=1000/\1<=i then .ok (.tup (ao i.toNat ds).flatten) O else .bad
  | .lst ds=>if ds≠[]/\ds.length<=1000/\1<=i then (if o=true then .ok (.own O.length) (O++[(ao i.toNat ds).flatten]) else .ok (.lst (ao i.toNat ds).flatten) O) else .bad
  | _=>.bad
  else .bad
 | _=>.bad
theorem V9 (o:Bool):qK X Ex (Kn X.K) (DX o):=by
 intro H hid μ O x y v w Q c dx dy q
 unfold DX at q
 split at q
 ·rename_i i
  obtain ⟨hi,q⟩:=post.ite q
  unfold Dat at dy;subst dy
  have nn:∀ {ds:List D} {vs:List V},nJ X.K H hid μ ds vs->ds≠[]->vs≠[]:=fun {ds vs} d h e=>h (by have:=d.length;rw [e] at this;simpa using this)
  cases x with
  | tup ds=>
   obtain ⟨⟨h1,h2,h3⟩,q⟩:=post.ite q
   have JF:=dx
   unfold Dat at dx
   obtain ⟨a,vs,rfl,l,dd⟩:=dx
   refine ⟨a,vs,i,rfl,rfl,nn dd h1,by rw [<- dd.length];exact h2,hi,?_⟩
   by_cases e:i=1
   ·subst e
    refine .inl ⟨l.sq,rfl,post.here q c ?_⟩
    have:(ao (1:Int).toNat ds).flatten=ds:=by simp
    rw [this];exact JF
   ·exact .inr (.inl ⟨l.sq,by omega,fun p hp=>post.ok q (.laid hp) (c.laid hp) (Dat.newT c hp (dd.flat _))⟩)
  | lst ds=>
   obtain ⟨⟨h1,h2,h3⟩,q⟩:=post.ite q
   unfold Dat at dx
   obtain ⟨a,vs,rfl,l,dd⟩:=dx
   refine ⟨a,vs,i,rfl,rfl,nn dd h1,by rw [<- dd.length];exact h2,hi,.inr (.inr ⟨l.sq,h3,fun p hp=>?_⟩)⟩
   cases o with
   | false=>exact post.ok (show p9 Ex X.K H hid μ (.ok (.lst (ao i.toNat ds).flatten) O) Q from q) (.laid hp) (c.laid hp) (Dat.newL c hp (dd.flat _))
   | true=>
    have q:p9 Ex X.K H hid μ (.ok (.own O.length) (O++[(ao i.toNat ds).flatten])) Q:=q
    exact post.ok q (.cell hp) (c.cell hp (dd.flat _)) (AD c.len)
  | _=>exact ak q
 ·exact ak q
end
end DL
namespace DL
open PySem L2 PySem.Spec PyProof.Rows
open Sem (wp)
open AutoSeq1 (wpAny_loadPart')
end DL
namespace DL
open PySem L2 PySem.Spec PyProof.Rows
section
end
theorem Yj (n:Nat):cR ((n:Int)-1) (-1) (-1)=n:=by
 unfold cR
 rw [if_neg (by decide)]
 by_cases h:(n:Int)-1 > -1
 ·rw [if_pos h]
  have e:(-(-1:Int))=1:=by decide
  rw [e,Int.ediv_one];omega
 ·rw [if_neg h];omega
theorem z5n {P:aH} {w:aP} {A:aW} {E:ae->ag->Prop} {s:ag} {sl:af} {vs:ae} {n:Nat} {Q:Int×Int×Nat->ag->Prop} (hs:s.heap.IsSliceOf sl .none .none vs) (ps:f9 vs (some (-1)))
  (h:Q ((n:Int)-1,-1,n) s):am (av P w) A (fg (.ref sl) (pure (n:Int))) Q E s:=by
 obtain ⟨ob,qJ,FC,qX⟩:=id hs
 unfold fg jD
 refine aa (aa (be qJ qX (x:=.none) rfl (aa (be qJ qX (x:=.none) rfl (aa (be qJ qX (x:=vs) rfl (aj ?_)))))))
 refine aa (HT.slicePart_ ps ?_)
 show am _ _ (if ((-1:Int)==0)=true then _ else _) _ _ s
 rw [if_neg (by decide)]
 refine aa (iU (aa (iU (aa (aj ?_)))))
 show am _ _ (pure ((n:Int)-1,(-1:Int),cR ((n:Int)-1) (-1) (-1))) _ _ s
 rw [Yj]
 exact aj h
theorem XI (f_:List ae):((bd f_.length).filterMap fun (m:Nat)=>f_.toArray[(((f_.length:Int)-1)+(m:Int)*(-1)).toNat]?).toArray=f_.reverse.toArray:=by
 congr 1
 have e:∀ l:List Nat,(∀ k∈l,k<f_.length)->l.filterMap (fun (m:Nat)=>f_.toArray[(((f_.length:Int)-1)+(m:Int)*(-1)).toNat]?)=l.map fun k=>f_.reverse.getD k .none:=by
  intro l
  induction l with
  | nil=>intro _;rfl
  | cons k l ih=>
   intro h
   have hk:k<f_.length:=h k (by simp)
   have e0:(((f_.length:Int)-1)+(k:Int)*(-1)).toNat=f_.length-1-k:=by omega
   have e1:f_.toArray[(((f_.length:Int)-1)+(k:Int)*(-1)).toNat]?=some (f_.reverse.getD k .none):=by
    rw [e0,iu,aS,List.getElem?_reverse hk,au (by omega)]
    rfl
   rw [dE,cn,e1,ih fun j hj=>h j (by simp [hj])]
 rw [e _ fun k hk=>bK.mp hk]
 refine List.ext_getElem (by simp) fun i h1 h2=>?_
 rw [mG,List.getElem_range,aS,au h2]
 rfl
theorem Zm {P:aH} {w:aP} {A:aW} {E:ae->ag->Prop} {s:ag} {t sl:af} {f_:List ae} {vs:ae} {Q:ae->ag->Prop} (ht:IsTup s.heap t f_.toArray) (hs:s.heap.IsSliceOf sl .none .none vs) (ps:f9 vs (some (-1)))
  (h:Q (.ref s.heap.objs.size) { s with heap:=s.heap.push { cls:=.type "tuple",data:=.seq f_.reverse.toArray } }) (o_:f_.length<=sizeLine):am (av P w) A (getItem (.ref t) (.ref sl)) Q E s:=by
 have hok:sizeOk (.seq f_.reverse.toArray):=by
  show f_.reverse.toArray.size<=sizeLine
  rw [az,lA];exact o_
 obtain ⟨ob,qJ,FC,qX⟩:=id hs
 have Dh:s.TypeIs (.ref sl) "slice":=⟨ob,qJ,FC⟩
 unfold getItem
 try with_reducible refine cb ?_
 first|refine aa (aj ?_)|skip
 refine aa (jy ht.typeIs (by decide) (aa (bF (name := "__getitem__") ht.typeIs bz (bJ bz ht.typeIs iQ ?_ (jg _ _)))))
 show am _ _ (gh (.ref t) >>= _) _ _ s
 refine aa (k9 ht (aa (gF Dh ?_)))
 rw [if_pos (by decide)]
 have hn:f_.toArray.size=f_.length:=az
 refine aa (z5n (n:=f_.toArray.size) hs ps ?_)
 have IQ:¬ ((((f_.toArray.size:Int)-1)==0&&(-1:Int)==1&&f_.toArray.size==f_.toArray.size)=true):=by
  intro q
  rw [a6,a6] at q
  exact absurd q.1.2 (by decide)
 show am _ _ (if ((((f_.toArray.size:Int)-1)==0&&(-1:Int)==1&&f_.toArray.size==f_.toArray.size))=true then _ else _) _ _ s
 rw [if_neg IQ,hn,XI]
 first
  | exact aa (m:=ci _) (bt (aj ⟨_,rfl,aj h⟩) hok)
  | exact aa (m:=ci _) (bt (aa (aj (aj ⟨_,rfl,aj h⟩))) hok)
  | exact aa (aa (m:=ci _) (bt (aj (aj ⟨_,rfl,aj h⟩)) hok))
  | exact aa (aa (m:=ci _) (bt (aj ⟨_,rfl,aj h⟩) hok))
section
variable {X:Cx} {Ex:Nat->Hp->Prop} {pos p2:Pos} {e st:aQ} {te:DE} {ts:DO}
noncomputable def Q5 (K:ai) (te:TE) (ts:TO):TE:=fun σ H Q=>te σ H fun x H1=>ts σ H1 fun o H2=>o=some (-1)/\∃ a xs,x=.ref a/\qu K H2 a xs/\∀ p,H2 p=none->Q (.ref p) (upd H2 p (.tup xs.reverse))
theorem UC {te:TE} {ts:TO} (he:PE X e te) (hs:PO X (some st) ts):PE X (.Subscript e (.Slice none none (some st) p2) pos) (Q5 X.K te ts):=by
 intro pins s σ H Q I h
 refine kR (oV (he pins s σ H _ I h) fun v s1 ⟨x,H1,I1,r1,q1⟩=>?_)
 refine wpAny_Slice ?_
 rw [lc]
 refine aj (aj (oV (hs pins s1 σ H1 _ I1 q1) fun vs s3 ⟨o,H3,I3,ps,q3⟩=>?_))
 obtain ⟨rfl,a,xs,rfl,sq,q⟩:=q3
 cases r1
 have I4:Inv X pins σ H3 { s3 with heap:=s3.heap.push { cls:=.type "slice",data:=.fields #[.none,.none,vs] } }:=I3.kept (t':=s3.toks) fun b ob q=>ah _ q
 obtain ⟨f_,r,ht,hz⟩:=I4.tuple sq
 have hlen:=r.length
 show am (av X.prog X.w) X.A (subscriptTail e (.Slice none none (some st) p2) (.ref a) (.ref s3.heap.objs.size)) (EP X pins σ Q) X.xe { s3 with heap:=s3.heap.push { cls:=.type "slice",data:=.fields #[.none,.none,vs] } }
 refine tail_any (ops:=[.ref a,.ref s3.heap.objs.size]) ht.typeIs bz.lookup ?_ (by with_unfolding_all rfl)
 refine Zm ht (lI ..) ps ?_ (by omega)
 refine ⟨.ref _,_,I4.laid (t':=s3.toks) (o:=.tup xs.reverse) (fun b ob q=>ah _ q) (ay _) ?_,rfl,q _ (I4.hok.fresh (ay _))⟩
 exact ⟨by rw [lA];exact hz,_,WY r,n6.new _ _⟩
noncomputable def D6 (te:DE) (ts:DO):DE:=fun σ O=>(te σ O).bnd fun x O1=>(ts σ O1).bnd fun o O2=>if o=some (-1) then match x with
 | .tup ds=>.ok (.tup ds.reverse) O2
 | _=>.bad else .bad
theorem Vu (he:PD X Ex e te) (hs:yo X Ex (some st) ts):PD X Ex (.Subscript e (.Slice none none (some st) p2) pos) (D6 te ts):=
 qz (UC he.out hs.out) fun hid μ σ O d_ H Q e1 c1 q=>rd.go e1 c1 q fun d O1 v H1 h_ e2 x cl r p=>AN.go e2 cl p fun l O2 H2 pd e3 x3 c3 p3=>by
  have r':=r.ext x3
  obtain ⟨hl,p3⟩:=post.ite p3
  cases d with
  | tup ds=>
   unfold Dat at r'
   obtain ⟨pa,vs,rfl,la,q1⟩:=r'
   exact ⟨hl,pa,vs,rfl,la.sq,fun l' rA=>post.ok p3 (.laid rA) (c3.laid rA) (Dat.newT c3 rA q1.rev)⟩
  | _=>exact ak p3
end
end DL
namespace DL
open PySem L2
section
end
end DL
namespace DL
open PySem L2 PySem.Spec PyProof.Rows
noncomputable def zT:List ae->List Int->Bool
 | [],[]=>true
 | .int i _::vs,k::ks=>i==k&&zT vs ks
 | _,_=>false
noncomputable def F3 (o:Obj) (ks:List Int):Bool:=(match o.cls with|.type n=>n == "tuple"|_=>false)&&o.dict.isNone&&(match o.data with|.seq f_ _=>zT f_.toList ks&&decide (f_.size<=1000)|_=>false)
structure F2 (K:ai) (mg:Str->Option ae) (x:Str) (ks:List Int):Prop where
 ex:∃ e o,mg x=some (.ref e)/\K.lookup e=some o/\F3 o ks=true
theorem NT:∀ {vs:List ae} {ks:List Int},zT vs ks=true->nK (ks.map V.int) vs
 | [],[],_=>.nil
 | .int i t::vs,k::ks,h=>by
  have h:(i==k&&zT vs ks)=true:=h
  rw [a6] at h
  have e:i=k:=by simpa using h.1
  subst e
  exact .cons ⟨_,rfl⟩ (NT h.2)
 | [],_::_,h=>by cases h
 | v::_,[],h=>by cases v<;>cases h
theorem NJ {K:ai} {H:Hp} {hid μ:List af}:∀ ks:List Int,nJ K H hid μ (ks.map D.int) (ks.map V.int)
 | []=>.nil
 | _::ks=>.cons q9 (NJ ks)
section
variable {X:Cx} {Ex:Nat->Hp->Prop} {pos:Pos}
theorem Vt (h:F2 X.K X.mg x ks) (hg:Gl X x:=by rfl) (hd:(x==("__debug__":Str))=false:=by decide):PD X Ex (.Name x pos) (dC (.tup (ks.map .int))):=by
 obtain ⟨e,o,h1,h2,h3⟩:=h.ex
 unfold F3 at h3
 rw [a6,a6] at h3
 obtain ⟨⟨q1,q2⟩,q3⟩:=h3
 obtain ⟨f_,n,Jj,hv,hs⟩:∃ f_ n,o.data=.seq f_ n/\zT f_.toList ks=true/\f_.size<=1000:=by
  cases hd:o.data with
  | seq f_ n=>
   rw [hd] at q3
   have q3:(zT f_.toList ks&&decide (f_.size<=1000))=true:=q3
   rw [a6] at q3
   exact ⟨f_,n,rfl,q3.1,by simpa using q3.2⟩
  | _=>rw [hd] at q3;cases q3
 have ui:o.cls=.type "tuple":=by
  cases hc:o.cls with
  | type n=>
   rw [hc] at q1
   have:n = "tuple":=by simpa using q1
   rw [this]
  | _=>rw [hc] at q1;cases q1
 have hdn:o.dict=none:=by simpa using q2
 refine qz (BB (v:=.ref e) hg h1 rfl hd) fun hid μ σ O d_ H Q e1 c1 q=>post.here q c1 ?_
 unfold Dat
 exact ⟨e,ks.map V.int,rfl,.inr ⟨⟨o,f_,n,h2,ui,Jj,aU hs (by decide),NT hv⟩,o,h2,hdn⟩,NJ ks⟩
end
end DL
namespace DL
open PySem L2
def DN:List Str->Bool
 | []=>true
 | x::l=>!(l.contains x)&&DN l
theorem w_:∀ {l:List Str},DN l=true->l.Nodup
 | [],_=>kH
 | x::l,h=>by
  unfold DN at h
  rw [a6,fY] at h
  refine cj.mpr ⟨fun m=>?_,w_ h.2⟩
  rw [cm.mpr m] at h
  exact Bool.noConfusion h.1
def FZ:Option cZ->Bool
 | some .local=>true
 | some .cell=>true
 | _=>false
theorem Ve (h:FZ o=true):o=some .local\/o=some .cell:=by
 unfold FZ at h
 split at h
 ·exact .inl rfl
 ·exact .inr rfl
 ·cases h
def kNf:cZ->Bool
 | .free=>false
 | _=>true
noncomputable def PN (N P:List Str) (sc:cF):Bool:=DN N&&(N.take P.length==P)&&P.all (fun x=>FZ (sc.names.lookup x))&&sc.names.all (fun y=>kNf y.2)
theorem fnS (h1:sc.kind=.function) (h2:sc.isCoroutine=false) (h3:sc.isGenerator=false) (h:PN N P sc=true):pK N P sc:=by
 unfold PN at h
 simp only [a6] at h
 obtain ⟨⟨⟨a,b⟩,c⟩,d⟩:=h
 refine ⟨h1,h2,h3,w_ a,eq_of_beq b,fun x hx=>Ve (aF.mp c x hx),fun y hy e=>?_⟩
 have:=aF.mp d y hy
 rw [e] at this
 cases this
end DL
namespace DL
open PySem
noncomputable def pl:Nat->D->Bool
 | n,.non=>true
 | n,.int _=>true
 | n,.str cs=>cs.all (· < 1114112)
 | n+1,.lst ds=>ds.all (pl n)
 | n+1,.tup ds=>ds.all (pl n)
 | _,_=>false
theorem BL {α β:Type} {f:α->Option β}:∀ {l:List α},(∀ x∈l,∃ y,f x=some y)->∃ m,o6 f l=some m
 | [],_=>⟨[],rfl⟩
 | x::l,h=>by
  obtain ⟨y,hy⟩:=h x aI
  obtain ⟨m,hm⟩:=BL (l:=l) fun z hz=>h z (aq _ hz)
  exact ⟨y::m,by unfold o6;rw [hy,hm]⟩
theorem By (O:Ow):∀ (n:Nat) (d:D),pl n d=true->∃ p,pJ O n d=some p:=by
 intro n
 induction n with
 | zero=>
  intro d h
  cases d with
  | non=>exact ⟨_,rfl⟩
  | int i=>exact ⟨_,rfl⟩
  | str cs=>
   refine ⟨.str ⟨cs.toArray⟩,?_⟩
   show vn cs=_
   unfold vn;rw [if_pos (by simpa [pl] using h)]
  | _=>simp [pl] at h
 | succ n ih=>
  intro d h
  cases d with
  | non=>exact ⟨_,rfl⟩
  | int i=>exact ⟨_,rfl⟩
  | str cs=>
   refine ⟨.str ⟨cs.toArray⟩,?_⟩
   show vn cs=_
   unfold vn;rw [if_pos (by simpa [pl] using h)]
  | lst ds=>
   have h:ds.all (pl n)=true:=h
   obtain ⟨m,hm⟩:=BL (f:=pJ O n) (l:=ds) fun x hx=>ih x (aF.mp h x hx)
   exact ⟨.list m,by show (o6 (pJ O n) ds).map d9=_;rw [hm];rfl⟩
  | tup ds=>
   have h:ds.all (pl n)=true:=h
   obtain ⟨m,hm⟩:=BL (f:=pJ O n) (l:=ds) fun x hx=>ih x (aF.mp h x hx)
   exact ⟨.tuple m,by show (o6 (pJ O n) ds).map gH=_;rw [hm];rfl⟩
  | _=>simp [pl] at h
theorem NI {f:D->Option dP} (R:∀ x y p q,f x=some p->f y=some q->pl 0 x=pl 0 x->True) {P:D->Prop} (hf:∀ x y p q,P x->P y->f x=some p->f y=some q->(a0 p q=true↔x=y)):
  ∀ (xs ys:List D) (ps qs:List dP),(∀ x∈xs,P x)->(∀ y∈ys,P y)->o6 f xs=some ps->o6 f ys=some qs->(fk ps qs=true↔xs=ys)
 | [],[],ps,qs,_,_,e1,e2=>by cases e1;cases e2;simp [fk]
 | [],y::ys,ps,qs,_,_,e1,e2=>by
  cases e1
  unfold o6 at e2
  split at e2
  ·cases e2;simp [fk]
  ·cases e2
 | x::xs,[],ps,qs,_,_,e1,e2=>by
  cases e2
  unfold o6 at e1
  split at e1
  ·cases e1;simp [fk]
  ·cases e1
 | x::xs,y::ys,ps,qs,h1,h2,e1,e2=>by
  unfold o6 at e1 e2
  split at e1
  ·rename_i p Fg a1 a2
   cases e1
   split at e2
   ·rename_i q OL b1 b2
    cases e2
    have r1:=hf x y p q (h1 x aI) (h2 y aI) a1 b1
    have r2:=NI R hf xs ys Fg OL (fun z hz=>h1 z (aq _ hz)) (fun z hz=>h2 z (aq _ hz)) a2 b2
    show (a0 p q&&fk Fg OL)=true↔_
    rw [a6,r1,r2,List.cons.injEq]
   ·cases e2
  ·cases e1
theorem wH (h:vn cs=some p):p=.str ⟨cs.toArray⟩:=by
 unfold vn at h
 split at h
 ·cases h;rfl
 ·cases h
theorem LO (a b:List Nat):a0 (.str ⟨a.toArray⟩) (.str ⟨b.toArray⟩)=true↔D.str a=D.str b:=by
 show ((⟨a.toArray⟩:Str)==⟨b.toArray⟩)=true↔_
 rw [beq_iff_eq]
 constructor
 ·intro h
  have h:a.toArray=b.toArray:=by injection h
  rw [show a=b by simpa using congrArg lF h]
 ·intro h
  injection h with h
  rw [h]
theorem KW (O:Ow):∀ (n:Nat) (x y:D) (p q:dP),pl n x=true->pl n y=true->pJ O n x=some p->pJ O n y=some q->(a0 p q=true↔x=y):=by
 intro n
 induction n with
 | zero=>
  intro x y p q hx hy e1 e2
  cases x with
  | non=>cases e1;cases y with
   | non=>cases e2;simp [a0]
   | int j=>cases e2;simp [a0]
   | str b=>have:=wH e2;subst this;simp [a0]
   | _=>simp [pl] at hy
  | int i=>cases e1;cases y with
   | non=>cases e2;simp [a0]
   | int j=>cases e2;simp [a0]
   | str b=>have:=wH e2;subst this;simp [a0]
   | _=>simp [pl] at hy
  | str a=>have:=wH e1;subst this;cases y with
   | non=>cases e2;simp [a0]
   | int j=>cases e2;simp [a0]
   | str b=>have:=wH e2;subst this;exact LO a b
   | _=>simp [pl] at hy
  | _=>simp [pl] at hx
 | succ n ih=>
  have big:∀ xs ys ps qs,(xs.all (pl n))=true->(ys.all (pl n))=true->o6 (pJ O n) xs=some ps->o6 (pJ O n) ys=some qs->(fk ps qs=true↔xs=ys):=fun xs ys ps qs h1 h2 e1 e2=>
   NI (fun _ _ _ _ _ _ _=>trivial) (P:=fun d=>pl n d=true) (fun x y p q a b c d=>ih x y p q a b c d) xs ys ps qs (aF.mp h1) (aF.mp h2) e1 e2
  have AM:∀ {ds:List D} {p},pJ O (n+1) (.lst ds)=some p->∃ ps,o6 (pJ O n) ds=some ps/\p=.list ps:=fun {ds p} e=>by
   have e:(o6 (pJ O n) ds).map d9=some p:=e
   cases h:o6 (pJ O n) ds with
   | none=>rw [h] at e;cases e
   | some ps=>rw [h] at e;cases e;exact ⟨ps,rfl,rfl⟩
  have AL:∀ {ds:List D} {p},pJ O (n+1) (.tup ds)=some p->∃ ps,o6 (pJ O n) ds=some ps/\p=.tuple ps:=fun {ds p} e=>by
   have e:(o6 (pJ O n) ds).map gH=some p:=e
   cases h:o6 (pJ O n) ds with
   | none=>rw [h] at e;cases e
   | some ps=>rw [h] at e;cases e;exact ⟨ps,rfl,rfl⟩
  intro x y p q hx hy e1 e2
  cases x with
  | non=>cases e1;cases y with
   | non=>cases e2;simp [a0]
   | int j=>cases e2;simp [a0]
   | str b=>have:=wH e2;subst this;simp [a0]
   | lst ys=>obtain ⟨_,_,rfl⟩:=AM e2;simp [a0]
   | tup ys=>obtain ⟨_,_,rfl⟩:=AL e2;simp [a0]
   | _=>simp [pl] at hy
  | int i=>cases e1;cases y with
   | non=>cases e2;simp [a0]
   | int j=>cases e2;simp [a0]
   | str b=>have:=wH e2;subst this;simp [a0]
   | lst ys=>obtain ⟨_,_,rfl⟩:=AM e2;simp [a0]
   | tup ys=>obtain ⟨_,_,rfl⟩:=AL e2;simp [a0]
   | _=>simp [pl] at hy
  | str a=>have:=wH e1;subst this;cases y with
   | non=>cases e2;simp [a0]
   | int j=>cases e2;simp [a0]
   | str b=>have:=wH e2;subst this;exact LO a b
   | lst ys=>obtain ⟨_,_,rfl⟩:=AM e2;simp [a0]
   | tup ys=>obtain ⟨_,_,rfl⟩:=AL e2;simp [a0]
   | _=>simp [pl] at hy
  | lst xs=>obtain ⟨ps,h1,rfl⟩:=AM e1;cases y with
   | non=>cases e2;simp [a0]
   | int j=>cases e2;simp [a0]
   | str b=>have:=wH e2;subst this;simp [a0]
   | lst ys=>
    obtain ⟨qs,h2,rfl⟩:=AM e2
    show fk ps qs=true↔_
    rw [big xs ys ps qs hx hy h1 h2,D.lst.injEq]
   | tup ys=>obtain ⟨_,_,rfl⟩:=AL e2;simp [a0]
   | _=>simp [pl] at hy
  | tup xs=>obtain ⟨ps,h1,rfl⟩:=AL e1;cases y with
   | non=>cases e2;simp [a0]
   | int j=>cases e2;simp [a0]
   | str b=>have:=wH e2;subst this;simp [a0]
   | lst ys=>obtain ⟨_,_,rfl⟩:=AM e2;simp [a0]
   | tup ys=>
    obtain ⟨qs,h2,rfl⟩:=AL e2
    show fk ps qs=true↔_
    rw [big xs ys ps qs hx hy h1 h2,D.tup.injEq]
   | _=>simp [pl] at hy
  | _=>simp [pl] at hx
theorem Ko (O:Ow) (hx:pl 8 x=true) (hy:pl 8 y=true) (hb:b=true↔x=y):oQ qp O x y=.ok (.bl b) O/\oQ qg O x y=.ok (.bl !b) O:=by
 obtain ⟨p,hp⟩:=By O 8 x hx
 obtain ⟨q,hq⟩:=By O 8 y hy
 have h:=KW O 8 x y p q hx hy hp hq
 have:a0 p q=b:=dS.mpr (h.trans hb.symm)
 unfold oQ py
 rw [hp,hq]
 subst this
 exact ⟨rfl,rfl⟩
theorem MY (hx:pl n x=true) (hp:pJ O n x=some p):∀ (l:List D) (ps:List dP),(l.all (pl n))=true->o6 (pJ O n) l=some ps->((ps.any fun y=>a0 y p)=true↔x∈l)
 | [],ps,_,e=>by cases e;simp
 | y::l,ps,h,e=>by
  unfold o6 at e
  split at e
  ·rename_i q qs a1 a2
   cases e
   rw [lj,a6] at h
   rw [lf,fS,KW O n y x q p h.1 hx a1 hp,MY hx hp l qs h.2 a2,aw]
   exact ⟨fun z=>z.imp Eq.symm id,fun z=>z.imp Eq.symm id⟩
  ·cases e
theorem Yu (O:Ow):∀ (n:Nat) (d:D) (p:dP),pl n d=true->pJ O n d=some p->pJ O (n+1) d=some p:=by
 intro n
 induction n with
 | zero=>intro d p h e;cases d<;>first|exact e|(simp [pl] at h)
 | succ n ih=>
  have go:∀ (ds:List D) ps,(ds.all (pl n))=true->o6 (pJ O n) ds=some ps->o6 (pJ O (n+1)) ds=some ps:=by
   intro ds
   induction ds with
   | nil=>intro ps _ e;exact e
   | cons x ds ihd=>
    intro ps h e
    rw [lj,a6] at h
    unfold o6 at e ⊢
    split at e
    ·rename_i q qs a1 a2
     rw [ih x q h.1 a1,ihd qs h.2 a2];exact e
    ·cases e
  intro d p h e
  cases d with
  | lst ds=>
   have e:(o6 (pJ O n) ds).map d9=some p:=e
   show (o6 (pJ O (n+1)) ds).map d9=some p
   cases hm:o6 (pJ O n) ds with
   | none=>rw [hm] at e;cases e
   | some ps=>rw [hm] at e;rw [go ds ps h hm];exact e
  | tup ds=>
   have e:(o6 (pJ O n) ds).map gH=some p:=e
   show (o6 (pJ O (n+1)) ds).map gH=some p
   cases hm:o6 (pJ O n) ds with
   | none=>rw [hm] at e;cases e
   | some ps=>rw [hm] at e;rw [go ds ps h hm];exact e
  | non=>exact e
  | int i=>exact e
  | str cs=>exact e
  | _=>simp [pl] at h
theorem Kr (O:Ow) {x y:D} {l:List D} (hx:pl 7 x=true) (hl:l.all (pl 7)=true) (hy:qI O y=some l\/y=.tup l) {b:Bool} (hb:b=true↔x∈l):uF O x y=.ok (.bl b) O/\xK O x y=.ok (.bl !b) O:=by
 obtain ⟨p,hp⟩:=By O 7 x hx
 obtain ⟨ps,rX⟩:=BL (f:=pJ O 7) (l:=l) fun z hz=>By O 7 z (aF.mp hl z hz)
 have h:=MY hx hp l ps hl rX
 have e:(ps.any fun z=>a0 z p)=b:=dS.mpr (h.trans hb.symm)
 have h8:py O x=some p:=Yu O 7 x p hx hp
 rcases hy with hy|rfl
 ·have hq:py O y=some (.list ps):=by
   cases y with
   | lst ds=>cases hy;show (o6 (pJ O 7) l).map d9=_;rw [rX];rfl
   | own k=>
    have hy:O[k]?=some l:=hy
    show (match O[k]? with|some ds=>(o6 (pJ O 7) ds).map d9|none=>none)=_
    rw [hy];dsimp only;rw [rX];rfl
   | _=>cases hy
  have a1:oQ yg O x y=.ok (.bl b) O:=by unfold oQ;rw [h8,hq];subst e;rfl
  have a2:oQ zO O x y=.ok (.bl !b) O:=by unfold oQ;rw [h8,hq];subst e;rfl
  cases y with
  | lst ds=>exact ⟨a1,a2⟩
  | own k=>exact ⟨a1,a2⟩
  | _=>cases hy
 ·have hq:py O (.tup l)=some (.tuple ps):=by show (o6 (pJ O 7) l).map gH=_;rw [rX];rfl
  have a1:oQ yg O x (.tup l)=.ok (.bl b) O:=by unfold oQ;rw [h8,hq];subst e;rfl
  have a2:oQ zO O x (.tup l)=.ok (.bl !b) O:=by unfold oQ;rw [h8,hq];subst e;rfl
  exact ⟨a1,a2⟩
theorem yJ (h1:t σ O=.ok (.bl a) O) (h2:a=true->u σ O=.ok (.bl b) O):vk t u σ O=.ok (.bl (a&&b)) O:=by
 show ((t σ O).bnd _)=_
 rw [h1]
 cases a with
 | true=>exact h2 rfl
 | false=>rfl
theorem Eu (h1:t σ O=.ok a O) (h2:a=true->u σ O=.ok b O):sC t u σ O=.ok (a&&b) O:=by
 show ((t σ O).bnd _)=_
 rw [h1]
 cases a with
 | true=>exact h2 rfl
 | false=>rfl
theorem L_ (h1:t σ O=.ok a O) (h2:a=false->u σ O=.ok b O):vj t u σ O=.ok (a||b) O:=by
 show ((t σ O).bnd _)=_
 rw [h1]
 cases a with
 | false=>exact h2 rfl
 | true=>rfl
theorem xX (O:Ow) (hx:x.all (pl 7)=true) (hy:y.all (pl 7)=true) (hb:b=true↔x=y):oQ qp O (.lst x) (.lst y)=.ok (.bl b) O/\oQ qg O (.lst x) (.lst y)=.ok (.bl !b) O:=
 Ko O (x:=.lst x) (y:=.lst y) hx hy (hb.trans (by rw [D.lst.injEq]))
theorem GG (n:Nat) (l:List Nat):(l.map fun (p:Nat)=>D.int (p:Int)).all (pl n)=true:=aF.mpr fun d hd=>by
 obtain ⟨p,_,rfl⟩:=bb.mp hd
 cases n<;>rfl
section
variable {σ:Sg} {O O1 O2:Ow} {t u:DE} {d a:DS} {x y:D} {r:RS} {i:Nat} {c:DT} {tA:DA} {ds:List D}
theorem qC (h:t σ O=.ok x O1) (h2:d (σ.set i (some x)) O1=r):m_ (oX i t) d σ O=r:=by rw [sh (yK h)];exact h2
theorem vW (h:a σ O=.nx σ' O1) (h2:d σ' O1=r):m_ a d σ O=r:=by rw [sh h];exact h2
theorem Gz (h:t σ O=.ok x O1) (h2:d σ O1=r):m_ (rm t) d σ O=r:=by rw [sh (GS h)];exact h2
theorem vv (h:c σ O=.ok false O1) (h2:d σ O1=r):m_ (pj c a' pC) d σ O=r:=by rw [sh (σ':=σ) (O1:=O1) (by rw [rV h];rfl)];exact h2
theorem Bt (h:c σ O=.ok true O1) (h2:a' σ O1=.rt x O2):m_ (pj c a' e) d σ O=.rt x O2:=Ai (by rw [rV h,if_pos rfl];exact h2)
theorem sD (h:d σ O=.rt x O1):fin (d σ O)=.ok x O1:=by rw [h];rfl
theorem Ac (h:t σ O=.ok x O1):fin (oS t σ O)=.ok x O1:=by rw [qQ h];rfl
theorem pP (h1:t σ O=.ok x O1) (h2:u σ O1=.ok y O2) (h3:f O2 x y=z):e_ f t u σ O=z:=by rw [qm h1 h2];exact h3
theorem sE (h1:tA σ O=.ok ds O1) (h2:f O1 ds=z):oU f tA σ O=z:=by rw [vX h1];exact h2
theorem o5 (h1:tA σ O=.ok ds O1) (h2:F ds O1=z) (h3:ds.length=n:=by rfl):j_ n F tA σ O=z:=by rw [z_ h1 h3];exact h2
end
end DL
set_option maxHeartbeats 400000
namespace K86
open PySem L2 DL
def top (i:Nat):dh:=bR.main.body.getD i (.Pass ⟨0,0,0,0⟩)
def uT:List (Int×Int):=[(2,1),(4,2),(8,3),(16,4)]
def oq:List Int:=[1,2,4,8]
def Ca:Nat->Nat:=fun c=>match c with
 | _=>37
def Cl:Nat->ae:=fun c=>.ref (Ca c)
def Cc:Nat->Option Bool:=fun C=>match C with
 | 37=>some true
 | _=>none
def B8:Nat->Option Bool:=fun C=>match C with
 | 37=>some false
 | _=>none
def B9:Nat->Option Bool:=fun C=>match C with
 | 37=>some false
 | _=>none
def B_:Nat->Option Bool:=fun C=>match C with
 | 37=>some false
 | _=>none
def Cd:Nat->Option Bool:=fun C=>match C with
 | 37=>some false
 | _=>none
def Cf:Nat->Option Bool:=fun C=>match C with
 | 37=>some false
 | _=>none
def B7:Nat->Option Bool:=fun C=>match C with
 | 37=>some false
 | _=>none
def Cb:Nat->Option Bool:=fun C=>match C with
 | 37=>some false
 | _=>none
def Ce:Nat->Option Bool:=fun C=>match C with
 | 37=>some false
 | _=>none
def B6:Nat->Option Bool:=fun C=>match C with
 | 37=>some true
 | _=>none
structure Txt (K:ai) (mg:Str->Option ae):Prop where
 d_is_whole:pX K mg "is_whole" (top 12)
 d_is_whole_within:pX K mg "is_whole_within" (top 13)
 d_is_rising:pX K mg "is_rising" (top 14)
 d_is_answer:pX K mg "is_answer" (top 17)
 d_is_function:pX K mg "is_function" (top 18)
 d_need_function:pX K mg "need_function" (top 19)
 d_switches_of:pX K mg "switches_of" (top 20)
 d_points_with:pX K mg "points_with" (top 21)
 d_has_term_signs:pX K mg "has_term_signs" (top 24)
 d_has_rising_terms:pX K mg "has_rising_terms" (top 25)
 d_bits_of:pX K mg "bits_of" (top 27)
 d_points_of:pX K mg "points_of" (top 28)
 d_terms_holding:pX K mg "terms_holding" (top 31)
 d_holds_no_nought:pX K mg "holds_no_nought" (top 33)
 d_is_form:pX K mg "is_form" (top 40)
 d_steps:pX K mg "steps" (top 47)
 d_kept_by:pX K mg "kept_by" (top 48)
 d_open_steps:pX K mg "open_steps" (top 49)
 d_is_smooth:pX K mg "is_smooth" (top 50)
 d_least_smooth:pX K mg "least_smooth" (top 52)
 d__law_cell_at:pX K mg "_law_cell_at" (top 54)
 d__law_state:pX K mg "_law_state" (top 55)
 d__law_take:pX K mg "_law_take" (top 56)
 d__law_function:pX K mg "_law_function" (top 57)
 d__law_terms:pX K mg "_law_terms" (top 58)
 d__law_switches:pX K mg "_law_switches" (top 59)
 d__law_holds:pX K mg "_law_holds" (top 60)
 d__law_good:pX K mg "_law_good" (top 61)
 d__law_lies_in:pX K mg "_law_lies_in" (top 62)
 d__law_ones:pX K mg "_law_ones" (top 63)
 d__law_greatest:pX K mg "_law_greatest" (top 64)
 d__law_is_term:pX K mg "_law_is_term" (top 65)
 d__law_are_terms:pX K mg "_law_are_terms" (top 66)
 d__law_is_form:pX K mg "_law_is_form" (top 67)
 d__law_some_form:pX K mg "_law_some_form" (top 68)
 d__law_bent_form:pX K mg "_law_bent_form" (top 69)
 d__law_steps:pX K mg "_law_steps" (top 70)
 d__law_gaps:pX K mg "_law_gaps" (top 71)
 d__law_same:pX K mg "_law_same" (top 72)
 d__law_bad_function:pX K mg "_law_bad_function" (top 73)
 d__law_refused:pX K mg "_law_refused" (top 74)
 d_law:pX K mg "law" (top 75)
 b_ValueError:mg "ValueError" = none
 b_all:mg "all" = none
 b_bool:mg "bool" = none
 b_enumerate:mg "enumerate" = none
 b_int:mg "int" = none
 b_isinstance:mg "isinstance" = none
 b_len:mg "len" = none
 b_list:mg "list" = none
 b_max:mg "max" = none
 b_min:mg "min" = none
 b_range:mg "range" = none
 b_set:mg "set" = none
 b_sorted:mg "sorted" = none
 b_str:mg "str" = none
 b_tuple:mg "tuple" = none
 b_zip:mg "zip" = none
 c_SIGNS:FT mg "SIGNS" [45,48,49]
 z0k:yv K mg "SWITCHES_BY_POINTS" uT
 u_WORTHS:F2 K mg "WORTHS" oq
 z03:mg "NoFunction" = some (.ref 37)
 z07:mg "NoTerm" = some (.ref 49)
 z06:mg "NoPoint" = some (.ref 61)
 z05:mg "NoNumber" = some (.ref 73)
 z02:mg "NoForm" = some (.ref 85)
 z00:mg "NoChange" = some (.ref 97)
 z08:mg "NoText" = some (.ref 109)
 z04:mg "NoLine" = some (.ref 121)
 z01:mg "NoDeed" = some (.ref 133)
 z09:mg "TermError" = some (.ref 24)
 z0z:aJ K (.type "NoneType") (.ref 37)=some false
 z0D:aJ K (.type "NoneType") (.ref 49)=some false
 z0C:aJ K (.type "NoneType") (.ref 61)=some false
 z0B:aJ K (.type "NoneType") (.ref 73)=some false
 z0y:aJ K (.type "NoneType") (.ref 85)=some false
 z0w:aJ K (.type "NoneType") (.ref 97)=some false
 z0E:aJ K (.type "NoneType") (.ref 109)=some false
 z0A:aJ K (.type "NoneType") (.ref 121)=some false
 z0x:aJ K (.type "NoneType") (.ref 133)=some false
 z0F:aJ K (.type "NoneType") (.type "ValueError")=some false
 z0v:eL K (.ref 37) (.ref 24)=some true
 z0d:aJ K (.ref 37) (.ref 37)=some true
 z0h:aJ K (.ref 37) (.ref 49)=some false
 z0g:aJ K (.ref 37) (.ref 61)=some false
 z0f:aJ K (.ref 37) (.ref 73)=some false
 z0c:aJ K (.ref 37) (.ref 85)=some false
 z0a:aJ K (.ref 37) (.ref 97)=some false
 z0i:aJ K (.ref 37) (.ref 109)=some false
 z0e:aJ K (.ref 37) (.ref 121)=some false
 z0b:aJ K (.ref 37) (.ref 133)=some false
 z0j:aJ K (.ref 37) (.type "ValueError")=some true
 z0H:xG K 37
structure qb (mg:Str->Option ae) (base:aT):Prop where
 z0G:F0 mg base "NoFunction" 37
theorem z0o {K:ai} {mg:Str->Option ae} (T:Txt K mg):∀ C b,Cc C=some b->aJ K (.ref C) (.ref 37)=some b:=by
 intro C b h
 unfold Cc at h
 split at h<;>first|(cases h;first|exact T.z0d)|cases h
theorem z0s {K:ai} {mg:Str->Option ae} (T:Txt K mg):∀ C b,B8 C=some b->aJ K (.ref C) (.ref 49)=some b:=by
 intro C b h
 unfold B8 at h
 split at h<;>first|(cases h;first|exact T.z0h)|cases h
theorem z0r {K:ai} {mg:Str->Option ae} (T:Txt K mg):∀ C b,B9 C=some b->aJ K (.ref C) (.ref 61)=some b:=by
 intro C b h
 unfold B9 at h
 split at h<;>first|(cases h;first|exact T.z0g)|cases h
theorem z0q {K:ai} {mg:Str->Option ae} (T:Txt K mg):∀ C b,B_ C=some b->aJ K (.ref C) (.ref 73)=some b:=by
 intro C b h
 unfold B_ at h
 split at h<;>first|(cases h;first|exact T.z0f)|cases h
theorem z0n {K:ai} {mg:Str->Option ae} (T:Txt K mg):∀ C b,Cd C=some b->aJ K (.ref C) (.ref 85)=some b:=by
 intro C b h
 unfold Cd at h
 split at h<;>first|(cases h;first|exact T.z0c)|cases h
theorem z0l {K:ai} {mg:Str->Option ae} (T:Txt K mg):∀ C b,Cf C=some b->aJ K (.ref C) (.ref 97)=some b:=by
 intro C b h
 unfold Cf at h
 split at h<;>first|(cases h;first|exact T.z0a)|cases h
theorem z0t {K:ai} {mg:Str->Option ae} (T:Txt K mg):∀ C b,B7 C=some b->aJ K (.ref C) (.ref 109)=some b:=by
 intro C b h
 unfold B7 at h
 split at h<;>first|(cases h;first|exact T.z0i)|cases h
theorem z0p {K:ai} {mg:Str->Option ae} (T:Txt K mg):∀ C b,Cb C=some b->aJ K (.ref C) (.ref 121)=some b:=by
 intro C b h
 unfold Cb at h
 split at h<;>first|(cases h;first|exact T.z0e)|cases h
theorem z0m {K:ai} {mg:Str->Option ae} (T:Txt K mg):∀ C b,Ce C=some b->aJ K (.ref C) (.ref 133)=some b:=by
 intro C b h
 unfold Ce at h
 split at h<;>first|(cases h;first|exact T.z0b)|cases h
theorem z0u {K:ai} {mg:Str->Option ae} (T:Txt K mg):∀ C b,B6 C=some b->aJ K (.ref C) (.type "ValueError")=some b:=by
 intro C b h
 unfold B6 at h
 split at h<;>first|(cases h;first|exact T.z0j)|cases h
theorem Qj {K:ai} {mg:Str->Option ae} (T:Txt K mg):∀ c,Cl c=.ref (Ca c)/\xG K (Ca c)/\eL K (.ref (Ca c)) (.ref 24)=some true:=by
 intro c
 refine ⟨rfl,?_⟩
 unfold Ca
 exact ⟨T.z0H,T.z0v⟩
section
variable {P:aH} {w:aP} {K:ai} {mg:Str->Option ae} {base:aT}
set_option hygiene false
local macro_rules|`(tactic| exists $t)=>`(tactic| with_reducible show PD _ _ _ $t)
local macro_rules|`(tactic| walk_at "u")=>`(tactic| first|exact fun _ _ _ _ _ _ us hl=>(match us,hl with|[_],_=>rfl)|exact fun _ _ _ _ _ _ us hl=>(match us,hl with|[_,_],_=>rfl)|exact fun _ _ _ _ _ _ us hl=>(match us,hl with|[_,_,_],_=>rfl)|exact fun _ _ _ _ _ _ us hl=>(match us,hl with|[],_=>rfl))
local macro_rules|`(tactic| walk_at "z")=>`(tactic| exact fnS rfl rfl rfl (by kernel_rfl))
local macro_rules|`(tactic| walk_at "v")=>`(tactic| first|exact .inl rfl|exact .inr (.inl rfl)|exact .inr (.inr rfl))
local macro_rules|`(tactic| walk_at "l")=>`(tactic| first|exact .inl rfl|exact .inr rfl)
local macro_rules|`(tactic| walk_at "le")=>`(tactic| first|decide|exact ay _)
local macro_rules|`(tactic| walk_at "fx")=>`(tactic| first|refine Gv h (MF rfl Lx) hr (by walk_at "le") rfl ?_<;>walk_at "a"|refine Gv h (MF rfl Ub) hr (by walk_at "le") rfl ?_<;>walk_at "a"|refine U1 h hr (by walk_at "le") rfl ?_<;>walk_at "a")
local macro_rules|`(tactic| walk_at "f")=>`(tactic| first|((exists (j_ _ Hs _));have h:=@Zc P w K mg base T B;walk_at "fx")|((exists (j_ _ EO _));have h:=@Zu P w K mg base T B;walk_at "fx")|((exists (j_ _ E5 _));have h:=@z6F P w K mg base T B;walk_at "fx")|((exists (j_ _ AF _));have h:=@z6G P w K mg base T B;walk_at "fx")|((exists (j_ _ B3 _));have h:=@z50 P w K mg base T B;walk_at "fx")|((exists (j_ _ Hg _));have h:=@Yq P w K mg base T B;walk_at "fx")|((exists (j_ _ B0 _));have h:=@z6r P w K mg base T B;walk_at "fx")|((exists (j_ _ q0 _));have h:=@ZD P w K mg base T B;walk_at "fx")|((exists (j_ _ AB _));have h:=@ZW P w K mg base T B;walk_at "fx")|((exists (j_ _ AH _));have h:=@z5q P w K mg base T B;walk_at "fx")|((exists (j_ _ uA _));have h:=@ZR P w K mg base T B;walk_at "fx")|((exists (j_ _ BY _));have h:=@z63 P w K mg base T B;walk_at "fx")|((exists (j_ _ vB _));have h:=@Zi P w K mg base T B;walk_at "fx")|((exists (j_ _ AG _));have h:=@z6g P w K mg base T B;walk_at "fx")|((exists (j_ _ BS _));have h:=@ZJ P w K mg base T B;walk_at "fx")|((exists (j_ _ HE _));have h:=@z4K P w K mg base T B;walk_at "fx")|((exists (j_ _ AE _));have h:=@z4j P w K mg base T B;walk_at "fx")|((exists (j_ _ yd _));have h:=@Zq P w K mg base T B;walk_at "fx")|((exists (j_ _ BP _));have h:=@ZS P w K mg base T B;walk_at "fx")|((exists (j_ _ B2 _));have h:=@z5A P w K mg base T B;walk_at "fx")|((exists (j_ _ Ay _));have h:=@ZH P w K mg base T B;walk_at "fx")|((exists (j_ _ yQ _));have h:=@z4U P w K mg base T B;walk_at "fx")|((exists (j_ _ xb _));have h:=@z4V P w K mg base T B;walk_at "fx")|((exists (j_ _ BO _));have h:=@ZO P w K mg base T B;walk_at "fx")|((exists (j_ _ B1 _));have h:=@z4b P w K mg base T B;walk_at "fx")|((exists (j_ _ BU _));have h:=@Zt P w K mg base T B;walk_at "fx")|((exists (j_ _ E3 _));have h:=@z5s P w K mg base T B;walk_at "fx")|((exists (j_ _ B5 _));have h:=@z4n P w K mg base T B;walk_at "fx")|((exists (j_ _ BK _));have h:=@Yo P w K mg base T B;walk_at "fx")|((exists (j_ _ AJ _));have h:=@z5y P w K mg base T B;walk_at "fx")|((exists (j_ _ v7 _));have h:=@z5L P w K mg base T B;walk_at "fx")|((exists (j_ _ BV _));have h:=@ZF P w K mg base T B;walk_at "fx")|((exists (j_ _ BQ _));have h:=@z6B P w K mg base T B;walk_at "fx")|((exists (j_ _ B4 _));have h:=@z4Y P w K mg base T B;walk_at "fx")|((exists (j_ _ AI _));have h:=@z5t P w K mg base T B;walk_at "fx")|((exists (j_ _ Ar _));have h:=@Yi P w K mg base T B;walk_at "fx")|((exists (j_ _ Eo _));have h:=@V7 P w K mg base T B;walk_at "fx")|((exists (j_ _ BX _));have h:=@z60 P w K mg base T B;walk_at "fx")|((exists (j_ _ EV _));have h:=@Z4 P w K mg base T B;walk_at "fx")|((exists (j_ _ ye _));have h:=@Zw P w K mg base T B;walk_at "fx")|((exists (j_ _ _ _));have h:=c_self;walk_at "fx"))
local macro_rules|`(tactic| walk_at "k")=>`(tactic| first|exact TU|exact R0 _ rfl|exact Tw|exact Q9)
local macro_rules|`(tactic| walk_at "n")=>`(tactic| first|exact UU T.c_SIGNS|exact Vt T.u_WORTHS)
local macro_rules|`(tactic| walk_at "o")=>`(tactic| first|((exists (e_ qB _ _));refine RU ?_ ?_<;>walk_at "e")|((exists (e_ pf _ _));exact Ri (by walk_at "e") (by walk_at "e") (fun _ _=>rfl))|((exists (e_ rT _ _));refine UO ?_ ?_<;>walk_at "e")|((exists (e_ (fI vT) _ _));refine uO RG T5 ?_ ?_<;>walk_at "e")|((exists (e_ (fI sL) _ _));refine uO R5 UD ?_ ?_<;>walk_at "e")|((exists (e_ (fI vo) _ _));refine uO UQ Tp ?_ ?_<;>walk_at "e")|((exists (e_ (fI sv) _ _));refine uO SS Vo ?_ ?_<;>walk_at "e")|((exists (e_ (fI vR) _ _));refine uO Se Vj ?_ ?_<;>walk_at "e")|((exists (e_ (fI zP) _ _));refine uO Sh Tc ?_ ?_<;>walk_at "e")|((exists (e_ (fI DQ) _ _));refine uO SG T7 ?_ ?_<;>walk_at "e")|((exists (e_ (fI A9) _ _));refine uO RJ Tr ?_ ?_<;>walk_at "e")|((exists (e_ (fI xJ) _ _));refine uO Tv UN ?_ ?_<;>walk_at "e")|((exists (e_ (DX _) _ _));refine uO Vm (V9 _) ?_ ?_<;>walk_at "e")|((exists (e_ Bi _ _));refine uO VX Xm ?_ ?_<;>walk_at "e")|((exists (e_ tY _ _));exact xW Gc Gw (by walk_at "e") (by walk_at "e") (wB _))|((exists (e_ zJ _ _));exact xW Kk K3 (by walk_at "e") (by walk_at "e") (wB _))|((exists (e_ (oQ qp) _ _));exact xW (LQ hr.units) zX (by walk_at "e") (by walk_at "e") (wB _))|((exists (e_ (oQ qg) _ _));exact xW (LG hr.units) zX (by walk_at "e") (by walk_at "e") (wB _))|((exists (e_ uF _ _));exact xW (Lj hr.units) Lf (by walk_at "e") (by walk_at "e") rfl)|((exists (e_ xK _ _));exact xW (Mo hr.units) LC (by walk_at "e") (by walk_at "e") rfl)|((exists (e_ FU _ _));exact xW SX Vx (by walk_at "e") (by walk_at "e") (wB _))|((exists (e_ A8 _ _));exact xW SO Ug (by walk_at "e") (by walk_at "e") (wB _))|((exists (w5 true uT _));refine XD T.z0k rfl ?_<;>walk_at "e")|((exists (Gs Dm Dm _ _ _));refine Ws Ki Ls Ki Ls ?_ ?_ ?_<;>walk_at "e"))
local macro_rules|`(tactic| walk_at "c")=>`(tactic| first|((exists (oU qa _));refine BD Xg SU rfl T.b_len Rw ?_<;>walk_at "a")|((exists (oU tS _));refine BD (Yd rfl) RI rfl T.b_all Rz ?_<;>walk_at "a")|((exists (oU zW _));refine BD (Xx rfl) U6 rfl T.b_max TC ?_<;>walk_at "a")|((exists (oU zV _));refine BD (X5 rfl) U_ rfl T.b_min TJ ?_<;>walk_at "a")|((exists (oU yF _));refine BD XE U3 rfl T.b_sorted NH ?_<;>walk_at "a")|((exists (oU wZ _));refine EH XO To rfl T.b_int Lu ?_<;>walk_at "a")|((exists (oU uz _));refine EH Z3 Xn rfl T.b_tuple G6 ?_<;>walk_at "a")|((exists (oU D7 _));refine EH Zo VG rfl T.b_str Li ?_<;>walk_at "a")|((exists (oU (zS _) _));refine EH Zr (VH _) rfl T.b_list GI ?_<;>walk_at "a")|((exists (rj "bool" _));exact Br (by walk_at "e") (by decide) rfl T.b_isinstance tV rfl T.b_bool VP)|((exists (rj "int" _));exact Br (by walk_at "e") (by decide) rfl T.b_isinstance tV rfl T.b_int Lu)|((exists (rj "list" _));exact Br (by walk_at "e") (by decide) rfl T.b_isinstance tV rfl T.b_list GI)|((exists (rj "str" _));exact Br (by walk_at "e") (by decide) rfl T.b_isinstance tV rfl T.b_str Li)|((exists (rj "tuple" _));exact Br (by walk_at "e") (by decide) rfl T.b_isinstance tV rfl T.b_tuple G6)|((exists (F8 "tuple" "list" _));exact VO (by walk_at "e") (by decide) (by decide) rfl T.b_isinstance tV rfl T.b_tuple G6 rfl T.b_list GI)|((exists (rE Cf _));exact w9 (f:=Cf) (by walk_at "e") rfl T.b_isinstance tV rfl T.z00 T.z0w (z0l T))|((exists (rE Ce _));exact w9 (f:=Ce) (by walk_at "e") rfl T.b_isinstance tV rfl T.z01 T.z0x (z0m T))|((exists (rE Cd _));exact w9 (f:=Cd) (by walk_at "e") rfl T.b_isinstance tV rfl T.z02 T.z0y (z0n T))|((exists (rE Cc _));exact w9 (f:=Cc) (by walk_at "e") rfl T.b_isinstance tV rfl T.z03 T.z0z (z0o T))|((exists (rE Cb _));exact w9 (f:=Cb) (by walk_at "e") rfl T.b_isinstance tV rfl T.z04 T.z0A (z0p T))|((exists (rE B_ _));exact w9 (f:=B_) (by walk_at "e") rfl T.b_isinstance tV rfl T.z05 T.z0B (z0q T))|((exists (rE B9 _));exact w9 (f:=B9) (by walk_at "e") rfl T.b_isinstance tV rfl T.z06 T.z0C (z0r T))|((exists (rE B8 _));exact w9 (f:=B8) (by walk_at "e") rfl T.b_isinstance tV rfl T.z07 T.z0D (z0s T))|((exists (rE B7 _));exact w9 (f:=B7) (by walk_at "e") rfl T.b_isinstance tV rfl T.z08 T.z0E (z0t T))|((exists (rE B6 _));exact VR (x := "ValueError") (n := "ValueError") (f:=B6) (by walk_at "e") rfl T.b_isinstance tV rfl T.b_ValueError Z7 T.z0F (z0u T))|((exists (yC _ _));refine Uv _ rfl rfl T.b_sorted NH rfl T.b_set TX ?_<;>walk_at "a")|((exists (wD _ _ _ _ _ _ _));exact R9 T hr L rfl (QF (by kernel_rfl)) rfl (fun _ _ _ _ _ _=>rfl) (fun q lam cd cl A outer s H E hr=>by walk_at "e") rfl))
local macro_rules|`(tactic| walk_at "pk")=>`(tactic| first|exact Lk|exact Lw|exact Gk)
local macro_rules|`(tactic| walk_at "pp")=>`(tactic| first|exact Xh (by walk_at "pk") (by walk_at "pk") (by walk_at "pp")|exact U4)
local macro_rules|`(tactic| walk_at "so")=>`(tactic| first|((with_reducible show yo _ _ _ sA);exact WX)|refine Wm ?_<;>walk_at "e")
local macro_rules|`(tactic| walk_at "m")=>`(tactic| first|((exists (t7 _ _));exact Yt (by walk_at "e") (by walk_at "a"))|((exists (yr _ _));exact XB (by walk_at "e") (by walk_at "a"))|((exists (DY _ _ _));refine UG _ _ rfl rfl rfl (iy rfl) ?_<;>walk_at "e")|((exists (Bm _ _));exact WI (by walk_at "e") (by walk_at "a"))|((exists (zQ _ _));exact VA (by walk_at "e") (by walk_at "a"))|((exists (sV _ _ _));exact S4 (by walk_at "e") (by walk_at "so") (by walk_at "so"))|((exists (D6 _ _));exact Vu (by walk_at "e") (by walk_at "so"))|((exists (Ba uT _));exact VI T.z0k rfl (by walk_at "e") (fun _ _=>rfl))|((exists (A_ _ _));exact TN _ (by walk_at "pp") rfl rfl rfl (List.cons_ne_nil _ _) (iy rfl) (iy rfl) (QR hr) (by walk_at "e") (fun _ _=>rfl)))
local macro_rules|`(tactic| walk_at "e1")=>`(tactic| first|((exists (a_ _));refine Ry rfl ?_<;>walk_at "v")|((exists (dC _));first|walk_at "k"|walk_at "n")|((exists (e_ _ _ _));walk_at "o")|((exists (j_ _ _ _));walk_at "f")|((exists (pT _));refine RE ?_<;>walk_at "a")|((exists (qZ _));refine Sv ?_<;>walk_at "a")|((exists (pG _ _ _ _ _ _ _));first|exact G9 x0 _ rfl (zY (by kernel_rfl)) (by walk_at "i") (fun _ _ _ _ _=>⟨by walk_at "g",by walk_at "fs",by walk_at "cs",by walk_at "e"⟩)|exact G9 x1 _ rfl (zY (by kernel_rfl)) (by walk_at "i") (fun _ _ _ _ _=>⟨by walk_at "g",by walk_at "fs",by walk_at "cs",by walk_at "e"⟩)|exact G9 x2 _ rfl (zY (by kernel_rfl)) (by walk_at "i") (fun _ _ _ _ _=>⟨by walk_at "g",by walk_at "fs",by walk_at "cs",by walk_at "e"⟩))|((exists (oU _ _));walk_at "c")|((exists (ux _));refine Vi ?_<;>walk_at "a")|((exists (vk _ _));refine SI ?_ ?_<;>walk_at "e")|((exists (JH _ _));refine QX ?_ ?_<;>walk_at "e")|((exists (F1 _));refine RP ?_<;>walk_at "e")|((exists (wR _));refine RK ?_<;>walk_at "e")|((exists Bc);exact RT)|walk_at "c"|walk_at "m"|walk_at "o")
local macro_rules|`(tactic| walk_at "e")=>`(tactic| first|(show PD _ _ (.BoolOp _ [_] _) _;refine Sm ?_<;>walk_at "e1")|walk_at "e1")
local macro_rules|`(tactic| walk_at "a")=>`(tactic| first|((with_reducible show rZ _ _ _ c_);exact Vd)|exact WO (by walk_at "e") (by walk_at "a"))
local macro_rules|`(tactic| walk_at "t")=>`(tactic| first|((with_reducible show qE _ _ _ (oZ (e_ tY _ _)));exact Aj Gc Gw (by walk_at "e") (by walk_at "e") (wB _))|((with_reducible show qE _ _ _ (oZ (e_ zJ _ _)));exact Aj Kk K3 (by walk_at "e") (by walk_at "e") (wB _))|((with_reducible show qE _ _ _ (oZ (e_ (oQ qp) _ _)));exact Aj (LQ hr.units) zX (by walk_at "e") (by walk_at "e") (wB _))|((with_reducible show qE _ _ _ (oZ (e_ (oQ qg) _ _)));exact Aj (LG hr.units) zX (by walk_at "e") (by walk_at "e") (wB _))|((with_reducible show qE _ _ _ (oZ (e_ uF _ _)));exact Aj (Lj hr.units) Lf (by walk_at "e") (by walk_at "e") rfl)|((with_reducible show qE _ _ _ (oZ (e_ xK _ _)));exact Aj (Mo hr.units) LC (by walk_at "e") (by walk_at "e") rfl)|((with_reducible show qE _ _ _ (oZ (w5 true uT _)));refine YT T.z0k rfl ?_<;>walk_at "e")|(show qE _ _ (.BoolOp _ _ _) _;refine uH.pt ?_<;>walk_at "w")|((with_reducible show qE _ _ _ (rn _));refine Th ?_<;>walk_at "t")|((with_reducible show qE _ _ _ (pO _));exact Tt (by walk_at "e") (fun _=>rfl)))
local macro_rules|`(tactic| walk_at "w")=>`(tactic| first|(show uH _ _ (.BoolOp .And [_] _) _;refine Wj ?_<;>walk_at "t")|(show uH _ _ (.BoolOp .Or [_] _) _;refine Vz ?_<;>walk_at "t")|((with_reducible show uH _ _ _ (sC _ _));exact Uc (by walk_at "t") (by walk_at "w"))|((with_reducible show uH _ _ _ (vj _ _));exact RY (by walk_at "t") (by walk_at "w")))
local macro_rules|`(tactic| walk_at "i")=>`(tactic| first|((with_reducible show uk _ _ _ _ (rS _));refine YQ rfl T.b_range ?_<;>walk_at "a")|((with_reducible show uk _ _ _ _ (Bk _));refine WK rfl T.b_zip ?_<;>walk_at "a")|((with_reducible show uk _ _ _ _ (Eh _));refine XC rfl T.b_enumerate ?_<;>walk_at "a")|refine Vb ?_<;>walk_at "e")
local macro_rules|`(tactic| walk_at "g")=>`(tactic| first|(show PG _ (.Name _ _) _;refine TQ (w_ (by kernel_rfl)) rfl ?_ ?_<;>walk_at "l")|(show PG _ (.Tuple [_,_] _ _) _;refine TR rfl (w_ (by kernel_rfl)) rfl rfl ?_ ?_ ?_ ?_<;>walk_at "l"))
local macro_rules|`(tactic| walk_at "fs")=>`(tactic| first|exact .nil|exact .cons (by walk_at "t") (by walk_at "fs"))
local macro_rules|`(tactic| walk_at "cs")=>`(tactic| first|exact .nil|(refine n9.cons ?_ (fun _=>rfl) ?_ ?_ ?_;(dsimp only;walk_at "i");(dsimp only;walk_at "g");(dsimp only;walk_at "fs");walk_at "cs"))
local macro_rules|`(tactic| walk_at "s")=>`(tactic| first|((with_reducible show rC _ _ _ (oS _));refine Vs ?_<;>walk_at "e")|((with_reducible show rC _ _ _ (pj _ _ _));exact S7 (by walk_at "t") (by walk_at "ss") (by walk_at "ss"))|(show rC _ _ (.Assign [.Name _ _] (.ListComp _ _ _ _) _) _;first|exact HC x0 _ rfl (w_ (by kernel_rfl)) rfl rfl (zY (by kernel_rfl)) (by walk_at "i") (fun _ _ _ _ _=>⟨by walk_at "g",by walk_at "fs",by walk_at "cs",by walk_at "e"⟩) rfl|exact HC x1 _ rfl (w_ (by kernel_rfl)) rfl rfl (zY (by kernel_rfl)) (by walk_at "i") (fun _ _ _ _ _=>⟨by walk_at "g",by walk_at "fs",by walk_at "cs",by walk_at "e"⟩) rfl|exact HC x2 _ rfl (w_ (by kernel_rfl)) rfl rfl (zY (by kernel_rfl)) (by walk_at "i") (fun _ _ _ _ _=>⟨by walk_at "g",by walk_at "fs",by walk_at "cs",by walk_at "e"⟩) rfl|exact Mp (w_ (by kernel_rfl)) rfl (by walk_at "l") (by walk_at "e"))|((with_reducible show rC _ _ _ (oX _ _));exact Mp (w_ (by kernel_rfl)) rfl (by walk_at "l") (by walk_at "e"))|((with_reducible show rC _ _ _ (r6 _ _ _));exact UH LP rfl (by walk_at "i") (by walk_at "g") (by walk_at "ss"))|((with_reducible show rC _ _ _ (rm _));refine Wf ?_<;>walk_at "e")|((with_reducible show rC _ _ _ (wU _ _ _));refine UE ?_ ?_ ?_<;>walk_at "e")|((with_reducible show rC _ _ _ (Gh _ _ _));exact XH _ LP (by walk_at "t") (by walk_at "ss"))|((with_reducible show rC _ _ _ (Eg 0 _));refine Ys Lx rfl rfl B.z0G rfl rfl ?_<;>walk_at "a")|((with_reducible show rC _ _ _ pC);exact Xe))
local macro_rules|`(tactic| walk_at "ss")=>`(tactic| first|((with_reducible show sM _ _ _ pC);exact Wa)|((with_reducible show sM _ _ _ DG);exact G3)|((with_reducible show sM _ _ _ (m_ _ _));exact ph (by walk_at "s") (by walk_at "ss"))|refine qd ?_<;>walk_at "s")
def NY:DS:=
 (oS (vk (rj "int" (a_ 0)) (F1 (rj "bool" (a_ 0)))))
def Hs:List D->Ow->R D:=(pZ 1 NY)
theorem Y3:pK ["thing"] ["thing"] (oY (top 12)):=by walk_at "z"
theorem Zc (T:Txt K mg) (B:qb mg base):nH Cl P w K mg base "is_whole" 1 1 Hs:=
 nH.self (fnX (k:=0) T.d_is_whole Y3 (by walk_at "u") fun f k_ A outer s H E hr=>
  ((qd (by delta NY;walk_at "s"))))
noncomputable def NL:DS:=
 (oS (oU tS (b_ (pG false 2 (Bk (b_ (a_ 0) (b_ (sV (a_ 0) (r9 (dC (.int 1))) sA) c_))) (.two 1 2) [] [] (e_ A8 (a_ 1) (a_ 2))) c_)))
def EO:List D->Ow->R D:=(pZ 1 NL)
theorem Zj:pK ["things"] ["things"] (oY (top 14)):=by walk_at "z"
theorem Zu (T:Txt K mg) (B:qb mg base):nH Cl P w K mg base "is_rising" 1 1 EO:=
 nH.self (fnX (k:=0) T.d_is_rising Zj (by walk_at "u") fun f k_ A outer s H E hr=>
  (have x0:Nx ["one", "other"]:=⟨⟩;(qd (by delta NL;walk_at "s"))))
def Ol:DS:=
 (oS (Ba uT (oU qa (b_ (a_ 0) c_))))
def E5:List D->Ow->R D:=(pZ 1 Ol)
theorem Z9:pK ["function"] ["function"] (oY (top 20)):=by walk_at "z"
theorem z6F (T:Txt K mg) (B:qb mg base):nH Cl P w K mg base "switches_of" 1 1 E5:=
 nH.self (fnX (k:=0) T.d_switches_of Z9 (by walk_at "u") fun f k_ A outer s H E hr=>
  ((qd (by delta Ol;walk_at "s"))))
noncomputable def Oh:DS:=
 (oS (pG false 2 (Eh (b_ (a_ 0) c_)) (.two 2 3) [(oZ (e_ (oQ qp) (a_ 3) (a_ 1)))] [] (a_ 2)))
def AF:List D->Ow->R D:=(pZ 2 Oh)
theorem z6H:pK ["function", "answer"] ["function", "answer"] (oY (top 21)):=by walk_at "z"
theorem z6G (T:Txt K mg) (B:qb mg base):nH Cl P w K mg base "points_with" 1 2 AF:=
 nH.self (fnX (k:=0) T.d_points_with z6H (by walk_at "u") fun f k_ A outer s H E hr=>
  (have x0:Nx ["point", "told"]:=⟨⟩;(qd (by delta Oh;walk_at "s"))))
noncomputable def z5w:DS:=
 (m_ (pj (vj (rn (pO (rj "str" (a_ 1)))) (oZ (e_ (oQ qg) (oU qa (b_ (a_ 1) c_)) (a_ 0)))) (oS (dC (.bl false))) pC) (oS (oU tS (b_ (pG false 1 (pD (a_ 1)) (.one 2) [] [] (e_ uF (a_ 2) (dC (.str [45,48,49])))) c_))))
def B3:List D->Ow->R D:=(pZ 2 z5w)
theorem z4R:pK ["n", "thing"] ["n", "thing"] (oY (top 24)):=by walk_at "z"
theorem z50 (T:Txt K mg) (B:qb mg base):nH Cl P w K mg base "has_term_signs" 1 2 B3:=
 nH.self (fnX (k:=0) T.d_has_term_signs z4R (by walk_at "u") fun f k_ A outer s H E hr=>
  (have x0:Nx ["sign"]:=⟨⟩;(ph (by walk_at "s") (qd (by walk_at "s")))))
noncomputable def W3:DS:=
 (m_ (pj (oZ (e_ (oQ qp) (a_ 0) (dC (.str [45])))) (oS (pT (b_ (dC (.int 0)) (b_ (dC (.int 1)) c_)))) pC) (oS (pT (b_ (oU wZ (b_ (a_ 0) c_)) c_))))
def Hg:List D->Ow->R D:=(pZ 1 W3)
theorem YL:pK ["sign"] ["sign"] (oY (top 27)):=by walk_at "z"
theorem Yq (T:Txt K mg) (B:qb mg base):nH Cl P w K mg base "bits_of" 1 1 Hg:=
 nH.self (fnX (k:=0) T.d_bits_of YL (by walk_at "u") fun f k_ A outer s H E hr=>
  ((ph (by walk_at "s") (qd (by walk_at "s")))))
noncomputable def z6I:DS:=
 (m_ (pj (oZ (e_ tY (a_ 1) (oU qa (b_ (a_ 0) c_)))) (oS (e_ pf (a_ 0) (a_ 1))) pC) (oS (dC (.int 0))))
def B0:List D->Ow->R D:=(pZ 2 z6I)
theorem z5O:pK ["_law_script", "_law_k"] ["_law_script", "_law_k"] (oY (top 54)):=by walk_at "z"
theorem z6r (T:Txt K mg) (B:qb mg base):nH Cl P w K mg base "_law_cell_at" 1 2 B0:=
 nH.self (fnX (k:=0) T.d__law_cell_at z5O (by walk_at "u") fun f k_ A outer s H E hr=>
  ((ph (by walk_at "s") (qd (by walk_at "s")))))
noncomputable def Y4:DS:=
 (m_ (pj (pO (e_ pf (a_ 0) (dC (.int 1)))) (m_ (oX 2 (e_ (fI sv) (e_ pf (a_ 0) (dC (.int 0))) (a_ 1))) (m_ (wU (e_ (fI vo) (e_ pf (a_ 0) (dC (.int 0))) (a_ 1)) (a_ 0) (dC (.int 0))) (oS (a_ 2)))) pC) (m_ (wU (e_ (fI sv) (e_ qB (e_ (fI sL) (e_ pf (a_ 0) (dC (.int 0))) (dC (.int 48271))) (dC (.int 29))) (dC (.int 2147483647))) (a_ 0) (dC (.int 0))) (m_ (oX 3 (e_ (fI sv) (e_ qB (e_ qB (e_ (fI sL) (e_ pf (a_ 0) (dC (.int 0))) (e_ pf (a_ 0) (dC (.int 0)))) (e_ (fI sL) (dC (.int 39373)) (e_ pf (a_ 0) (dC (.int 0))))) (dC (.int 7))) (dC (.int 2147483629)))) (m_ (oX 3 (e_ (fI sv) (e_ qB (e_ (fI sL) (a_ 3) (a_ 3)) (e_ (fI sL) (dC (.int 16807)) (a_ 3))) (dC (.int 2147483587)))) (oS (e_ (fI sv) (e_ (fI vo) (a_ 3) (dC (.int 8))) (a_ 1)))))))
def q0:List D->Ow->R D:=(pZ 4 Y4)
theorem ZA:pK ["_law_state_here", "_law_many", "_law_found", "_law_stirred"] ["_law_state_here", "_law_many"] (oY (top 56)):=by walk_at "z"
theorem ZD (T:Txt K mg) (B:qb mg base):nH Cl P w K mg base "_law_take" 1 2 q0:=
 nH.self (fnX (k:=0) T.d__law_take ZA (by walk_at "u") fun f k_ A outer s H E hr=>
  ((ph (by walk_at "s") (ph (by walk_at "s") (ph (by walk_at "s") (ph (by walk_at "s") (qd (by walk_at "s"))))))))
noncomputable def HD:DS:=
 (m_ (oX 1 (pT (b_ (dC (.str [])) c_))) (m_ (r6 (rS (b_ (a_ 0) c_)) (.one 2) (m_ (oX 3 (ux c_)) (m_ (r6 (pD (a_ 1)) (.one 4) (rm (yr (a_ 3) (b_ (pT (b_ (e_ qB (a_ 4) (dC (.str [45]))) (b_ (e_ qB (a_ 4) (dC (.str [48]))) (b_ (e_ qB (a_ 4) (dC (.str [49]))) c_)))) c_)))) (oX 1 (a_ 3))))) (oS (a_ 1))))
def AB:List D->Ow->R D:=zN (pZ 5 HD)
theorem ZU:pK ["_law_n", "_law_found", "_law_turn", "_law_longer", "_law_term"] ["_law_n"] (oY (top 58)):=by walk_at "z"
theorem ZW (T:Txt K mg) (B:qb mg base):nH Cl P w K mg base "_law_terms" 1 1 AB:=
 nH.frz (fnX (k:=0) T.d__law_terms ZU (by walk_at "u") fun f k_ A outer s H E hr=>
  ((ph (by walk_at "s") (ph (by walk_at "s") (qd (by walk_at "s"))))))
def Ot:DS:=
 (oS (A_ [(2,1),(4,2),(8,3),(16,4)] (oU qa (b_ (a_ 0) c_))))
def AH:List D->Ow->R D:=(pZ 1 Ot)
theorem z5m:pK ["_law_function_here"] ["_law_function_here"] (oY (top 59)):=by walk_at "z"
theorem z5q (T:Txt K mg) (B:qb mg base):nH Cl P w K mg base "_law_switches" 1 1 AH:=
 nH.self (fnX (k:=0) T.d__law_switches z5m (by walk_at "u") fun f k_ A outer s H E hr=>
  ((qd (by delta Ot;walk_at "s"))))
noncomputable def Zk:DS:=
 (m_ (oX 2 (oU qa (b_ (a_ 0) c_))) (m_ (r6 (rS (b_ (a_ 2) c_)) (.one 3) (pj (sC (oZ (e_ (oQ qg) (e_ pf (a_ 0) (a_ 3)) (dC (.str [45])))) (oZ (e_ (oQ qg) (e_ pf (a_ 0) (a_ 3)) (oU D7 (b_ (e_ (fI A9) (e_ (fI DQ) (a_ 1) (e_ (fI vT) (e_ (fI vT) (a_ 2) (dC (.int 1))) (a_ 3))) (dC (.int 1))) c_))))) (oS (dC (.bl false))) pC)) (oS (dC (.bl true)))))
def uA:List D->Ow->R D:=(pZ 4 Zk)
theorem Z8:pK ["_law_term", "_law_point", "_law_n", "_law_k"] ["_law_term", "_law_point"] (oY (top 60)):=by walk_at "z"
theorem ZR (T:Txt K mg) (B:qb mg base):nH Cl P w K mg base "_law_holds" 1 2 uA:=
 nH.self (fnX (k:=0) T.d__law_holds Z8 (by walk_at "u") fun f k_ A outer s H E hr=>
  ((ph (by walk_at "s") (ph (by walk_at "s") (qd (by walk_at "s"))))))
noncomputable def EX:DS:=
 (oS (e_ (oQ qp) (pG false 1 (rS (b_ (oU qa (b_ (a_ 0) c_)) c_)) (.one 2) [(sC (oZ (e_ (oQ qg) (e_ pf (a_ 1) (a_ 2)) (dC (.str [45])))) (oZ (e_ (oQ qg) (e_ pf (a_ 1) (a_ 2)) (e_ pf (a_ 0) (a_ 2)))))] [] (a_ 2)) (pT c_)))
def BY:List D->Ow->R D:=(pZ 2 EX)
theorem z6n:pK ["_law_one", "_law_other"] ["_law_one", "_law_other"] (oY (top 62)):=by walk_at "z"
theorem z63 (T:Txt K mg) (B:qb mg base):nH Cl P w K mg base "_law_lies_in" 1 2 BY:=
 nH.self (fnX (k:=0) T.d__law_lies_in z6n (by walk_at "u") fun f k_ A outer s H E hr=>
  (have x0:Nx ["_law_k"]:=⟨⟩;(qd (by delta EX;walk_at "s"))))
noncomputable def EN:DS:=
 (oS (pG false 1 (rS (b_ (oU qa (b_ (a_ 0) c_)) c_)) (.one 1) [(oZ (e_ (oQ qp) (e_ pf (a_ 0) (a_ 1)) (dC (.int 1))))] [] (a_ 1)))
def vB:List D->Ow->R D:=(pZ 1 EN)
theorem Zx:pK ["_law_function_here"] ["_law_function_here"] (oY (top 63)):=by walk_at "z"
theorem Zi (T:Txt K mg) (B:qb mg base):nH Cl P w K mg base "_law_ones" 1 1 vB:=
 nH.self (fnX (k:=0) T.d__law_ones Zx (by walk_at "u") fun f k_ A outer s H E hr=>
  (have x0:Nx ["_law_point"]:=⟨⟩;(qd (by delta EN;walk_at "s"))))
noncomputable def EY:DS:=
 (oS (vk (rj "str" (a_ 1)) (vk (e_ (oQ qp) (oU qa (b_ (a_ 1) c_)) (a_ 0)) (e_ (oQ qp) (pG false 1 (pD (a_ 1)) (.one 2) [(oZ (e_ xK (a_ 2) (dC (.str [48,49,45]))))] [] (a_ 2)) (pT c_)))))
def AG:List D->Ow->R D:=(pZ 2 EY)
theorem Z_:pK ["_law_n", "_law_thing"] ["_law_n", "_law_thing"] (oY (top 65)):=by walk_at "z"
theorem z6g (T:Txt K mg) (B:qb mg base):nH Cl P w K mg base "_law_is_term" 1 2 AG:=
 nH.self (fnX (k:=0) T.d__law_is_term Z_ (by walk_at "u") fun f k_ A outer s H E hr=>
  (have x0:Nx ["_law_sign"]:=⟨⟩;(qd (by delta EY;walk_at "s"))))
noncomputable def Y6 (F:List D->Ow->R D):DS:=
 (m_ (pj (pO (F8 "tuple" "list" (a_ 1))) (m_ (pj (vj (oZ (e_ (oQ qg) (rj "tuple" (a_ 0)) (rj "tuple" (a_ 1)))) (oZ (e_ (oQ qg) (rj "list" (a_ 0)) (rj "list" (a_ 1))))) (oS (dC (.bl false))) pC) (m_ (pj (oZ (e_ (oQ qg) (oU qa (b_ (a_ 0) c_)) (oU qa (b_ (a_ 1) c_)))) (oS (dC (.bl false))) pC) (oS (oU tS (b_ (pG false 2 (Bk (b_ (a_ 0) (b_ (a_ 1) c_))) (.two 2 3) [] [] (j_ 2 F (b_ (a_ 2) (b_ (a_ 3) c_)))) c_))))) pC) (oS (vk (e_ (oQ qp) (a_ 0) (a_ 1)) (e_ (oQ qp) (rj "bool" (a_ 0)) (rj "bool" (a_ 1))))))
def HA:Nat->List D->Ow->R D
 | 0=>fun _ _=>.bad
 | k+1=>(pZ 2 (Y6 (HA k)))
theorem N5:pK ["_law_found", "_law_due"] ["_law_found", "_law_due"] (oY (top 72)):=by walk_at "z"
theorem Oj (T:Txt K mg) (B:qb mg base):∀ k,nH Cl P w K mg base "_law_same" (1+k) 2 (HA k)
 | 0=>nH.bad (F:=pZ 2 DG) (fnX T.d__law_same N5 (by walk_at "u") fun f k_ A outer s H E hr=>G3)
 | k+1=>nH.self (fnX (k:=1+k) T.d__law_same N5 (by walk_at "u") fun f k_ A outer s H E hr=>
  have c_self:=Oj T B k
  (have x0:Nx ["_law_one", "_law_other"]:=⟨⟩;(ph (by walk_at "s") (qd (by walk_at "s")))))
def BS:List D->Ow->R D:=HA 3
theorem ZJ (T:Txt K mg) (B:qb mg base):nH Cl P w K mg base "_law_same" 4 2 BS:=Oj T B 3
noncomputable def xV:DS:=
 (m_ (oX 3 (pT (b_ (rE Cc (a_ 1)) (b_ (rE B8 (a_ 1)) (b_ (rE B9 (a_ 1)) c_))))) (m_ (oX 3 (e_ qB (a_ 3) (pT (b_ (rE B_ (a_ 1)) (b_ (rE B7 (a_ 1)) (b_ (rE Cb (a_ 1)) c_)))))) (m_ (oX 3 (e_ qB (a_ 3) (pT (b_ (rE Ce (a_ 1)) (b_ (rE Cd (a_ 1)) (b_ (rE Cf (a_ 1)) c_)))))) (m_ (pj (rn (pO (rE B6 (a_ 1)))) (oS (dC .non)) pC) (oS (pG false 1 (rS (b_ (dC (.int 9)) c_)) (.one 4) [(pO (e_ pf (a_ 3) (a_ 4)))] [] (a_ 4)))))))
theorem z5T:pK ["_law_call", "_law_error", "e", "_law_marks"] ["_law_call"] (oY (top 74)):=by walk_at "z"
theorem R9 {X:Cx} {Ex:Nat->Hp->Prop} {k iT:Nat} {c Pt:af} {tE:DE} {params:fE} {body:aQ} {scope:cF} {pn pl pp:Pos} (T:Txt X.K X.mg) (hr:nO (k+2) X.A) (L:wX X.mg X.base c Pt) (sH:X.env.code=.ref c) (LS:EB X.env.scope scope) (wo:defaultsOf params X.env=([],[]))
  (zx:∀ (name qual:Str) (cl:List (Str×af)) (pm cd ct:ae),bindArgs (dO name qual params body scope cl pm cd ct) ⟨[],[]⟩=pure [])
  (hE:∀ (q:Str) (lam:af) (cd:ae) (cl:List (Str×af)) (A:aW) (outer:List Env) (s:ag) (H:Hp) (E:XK),nO k (A.deeper (tZ q scope s.heap.objs.size lam cd cl))->PD (zL (qA X.prog X.w Cl) X.prog X.w X.K X.mg X.base X.N (tZ q scope s.heap.objs.size lam cd cl) A outer s H E) (Xk Cl E) body tE)
  (hg:Gl X "_law_refused"):PD X Ex (.Call (.Name "_law_refused" pn) [.Lambda params body scope pl] [] pp) (wD Pt iT Ca 4 1 tE xV):=
 YH (N:=["_law_call", "_law_error", "e", "_law_marks"]) (i:=2) (j:=1) (nf := "_law_call") (n := "e") (y := "_law_error") (xT := "TermError") (T:=24) (Cl:=Cl) (Ca:=Ca) T.d__law_refused hr rfl z5T (by decide +kernel) rfl rfl rfl (by decide) (by decide) rfl rfl (.inl rfl) (by walk_at "u") rfl T.z09 (Qj T) (fun f k_ s H hr=>(have x0:Nx ["_law_k"]:=⟨⟩;(ph (by walk_at "s") (ph (by walk_at "s") (ph (by walk_at "s") (ph (by walk_at "s") (qd (by walk_at "s")))))))) L sH LS wo zx hE hg
def Oo:DS:=
 (oS (vk (j_ 1 Hs (b_ (a_ 0) c_)) (Gs Dm Dm (a_ 1) (a_ 0) (a_ 2))))
def HE:List D->Ow->R D:=(pZ 3 Oo)
theorem z4B:pK ["thing", "least", "most"] ["thing", "least", "most"] (oY (top 13)):=by walk_at "z"
theorem z4K (T:Txt K mg) (B:qb mg base):nH Cl P w K mg base "is_whole_within" 2 3 HE:=
 nH.self (fnX (k:=1) T.d_is_whole_within z4B (by walk_at "u") fun f k_ A outer s H E hr=>
  ((qd (by delta Oo;walk_at "s"))))
noncomputable def HF:DS:=
 (m_ (pj (rn (pO (rj "tuple" (a_ 1)))) (oS (dC (.bl false))) pC) (oS (vk (oU tS (b_ (pG false 1 (pD (a_ 1)) (.one 2) [] [] (j_ 2 B3 (b_ (a_ 0) (b_ (a_ 2) c_)))) c_)) (j_ 1 EO (b_ (a_ 1) c_)))))
def AE:List D->Ow->R D:=(pZ 2 HF)
theorem z4i:pK ["n", "thing"] ["n", "thing"] (oY (top 25)):=by walk_at "z"
theorem z4j (T:Txt K mg) (B:qb mg base):nH Cl P w K mg base "has_rising_terms" 2 2 AE:=
 nH.self (fnX (k:=1) T.d_has_rising_terms z4i (by walk_at "u") fun f k_ A outer s H E hr=>
  (have x0:Nx ["term"]:=⟨⟩;(ph (by walk_at "s") (qd (by walk_at "s")))))
noncomputable def YV:DS:=
 (m_ (oX 1 (pT (b_ (dC (.int 0)) c_))) (m_ (r6 (pD (a_ 0)) (.one 2) (oX 1 (pG false 2 (pD (a_ 1)) (.one 3) [] (⟨(pD (j_ 1 Hg (b_ (a_ 2) c_))),(.one 4),[]⟩::[]) (e_ qB (e_ (fI sL) (dC (.int 2)) (a_ 3)) (a_ 4))))) (oS (a_ 1))))
def yd:List D->Ow->R D:=(pZ 3 YV)
theorem ZI:pK ["term", "points", "sign"] ["term"] (oY (top 28)):=by walk_at "z"
theorem Zq (T:Txt K mg) (B:qb mg base):nH Cl P w K mg base "points_of" 2 1 yd:=
 nH.self (fnX (k:=1) T.d_points_of ZI (by walk_at "u") fun f k_ A outer s H E hr=>
  (have x0:Nx ["point", "bit"]:=⟨⟩;(ph (by walk_at "s") (ph (by walk_at "s") (qd (by walk_at "s"))))))
noncomputable def ZE:DS:=
 (m_ (oX 2 (j_ 2 B0 (b_ (a_ 0) (b_ (a_ 1) c_)))) (m_ (pj (oZ (e_ zJ (a_ 2) (e_ (fI vR) (dC (.int 10)) (dC (.int 18))))) (oS (ux (b_ (e_ (fI vT) (a_ 2) (e_ (fI vR) (dC (.int 10)) (dC (.int 18)))) (b_ (dC (.bl true)) c_)))) pC) (oS (ux (b_ (e_ (fI sv) (a_ 2) (dC (.int 2147483647))) (b_ (dC (.bl false)) c_))))))
def BP:List D->Ow->R D:=(pZ 3 ZE)
theorem ZV:pK ["_law_script", "_law_k", "_law_cell"] ["_law_script", "_law_k"] (oY (top 55)):=by walk_at "z"
theorem ZS (T:Txt K mg) (B:qb mg base):nH Cl P w K mg base "_law_state" 2 2 BP:=
 nH.self (fnX (k:=1) T.d__law_state ZV (by walk_at "u") fun f k_ A outer s H E hr=>
  ((ph (by walk_at "s") (ph (by walk_at "s") (qd (by walk_at "s"))))))
noncomputable def EZ:DS:=
 (m_ (oX 3 (e_ pf (pT (b_ (dC (.int 2)) (b_ (dC (.int 4)) (b_ (dC (.int 6)) c_)))) (j_ 2 q0 (b_ (a_ 0) (b_ (dC (.int 3)) c_))))) (m_ (oX 4 (e_ (fI sL) (j_ 2 q0 (b_ (a_ 0) (b_ (dC (.int 3)) c_))) (oU wZ (b_ (a_ 2) c_)))) (m_ (oX 5 (ux c_)) (m_ (r6 (rS (b_ (e_ (fI zP) (dC (.int 1)) (a_ 1)) c_)) (.one 6) (m_ (oX 7 (oU wZ (b_ (e_ tY (j_ 2 q0 (b_ (a_ 0) (b_ (dC (.int 8)) c_))) (a_ 3)) c_))) (m_ (pj (oZ (e_ tY (j_ 2 q0 (b_ (a_ 0) (b_ (dC (.int 5)) c_))) (a_ 4))) (oX 7 (dC .non)) pC) (rm (t7 (a_ 5) (b_ (a_ 7) c_)))))) (oS (oU uz (b_ (a_ 5) c_)))))))
def B2:List D->Ow->R D:=zN (pZ 8 EZ)
theorem z5u:pK ["_law_state_here", "_law_n", "_law_free", "_law_often", "_law_rest", "_law_found", "_law_point", "_law_answer"] ["_law_state_here", "_law_n", "_law_free"] (oY (top 57)):=by walk_at "z"
theorem z5A (T:Txt K mg) (B:qb mg base):nH Cl P w K mg base "_law_function" 2 3 B2:=
 nH.frz (fnX (k:=1) T.d__law_function z5u (by walk_at "u") fun f k_ A outer s H E hr=>
  ((ph (by walk_at "s") (ph (by walk_at "s") (ph (by walk_at "s") (ph (by walk_at "s") (qd (by walk_at "s"))))))))
noncomputable def ES:DS:=
 (oS (e_ (oQ qp) (pG false 1 (rS (b_ (oU qa (b_ (a_ 0) c_)) c_)) (.one 2) [(sC (oZ (e_ (oQ qp) (e_ pf (a_ 0) (a_ 2)) (dC (.int 0)))) (pO (j_ 2 uA (b_ (a_ 1) (b_ (a_ 2) c_)))))] [] (a_ 2)) (pT c_)))
def Ay:List D->Ow->R D:=(pZ 2 ES)
theorem ZG:pK ["_law_function_here", "_law_term"] ["_law_function_here", "_law_term"] (oY (top 61)):=by walk_at "z"
theorem ZH (T:Txt K mg) (B:qb mg base):nH Cl P w K mg base "_law_good" 2 2 Ay:=
 nH.self (fnX (k:=1) T.d__law_good ZG (by walk_at "u") fun f k_ A outer s H E hr=>
  (have x0:Nx ["_law_point"]:=⟨⟩;(qd (by delta ES;walk_at "s"))))
noncomputable def HK:DS:=
 (m_ (pj (vj (rn (pO (rj "tuple" (a_ 1)))) (rn (pO (oU tS (b_ (pG false 1 (pD (a_ 1)) (.one 2) [] [] (j_ 2 AG (b_ (a_ 0) (b_ (a_ 2) c_)))) c_))))) (oS (dC (.bl false))) pC) (oS (e_ (oQ qp) (oU (zS false) (b_ (a_ 1) c_)) (yC false (b_ (a_ 1) c_)))))
def yQ:List D->Ow->R D:=(pZ 2 HK)
theorem z58:pK ["_law_n", "_law_thing"] ["_law_n", "_law_thing"] (oY (top 66)):=by walk_at "z"
theorem z4U (T:Txt K mg) (B:qb mg base):nH Cl P w K mg base "_law_are_terms" 2 2 yQ:=
 nH.self (fnX (k:=1) T.d__law_are_terms z58 (by walk_at "u") fun f k_ A outer s H E hr=>
  (have x0:Nx ["_law_term"]:=⟨⟩;(ph (by walk_at "s") (qd (by walk_at "s")))))
noncomputable def HJ:DS:=
 (m_ (oX 3 (j_ 2 q0 (b_ (a_ 0) (b_ (e_ rT (oU qa (b_ (a_ 1) c_)) (dC (.int 1))) c_)))) (m_ (oX 4 (zQ (dC (.str [])) (b_ (pG false 1 (rS (b_ (a_ 2) c_)) (.one 7) [] [] (e_ pf (dC (.str [48,49,45])) (j_ 2 q0 (b_ (a_ 0) (b_ (dC (.int 3)) c_))))) c_))) (m_ (oX 5 (pT (b_ (a_ 4) (b_ (e_ Bi (dC (.str [45])) (a_ 2)) (b_ (sV (a_ 4) sA (r9 (wR (dC (.int 1))))) (b_ (e_ rT (a_ 4) (dC (.str [48]))) (b_ (DY [48] [50] (a_ 4)) (b_ (dC .non) (b_ (dC (.int 0)) (b_ (qZ (b_ (a_ 4) c_)) (b_ (dC (.str [])) (b_ (dC (.bl true)) c_)))))))))))) (m_ (oX 5 (e_ pf (a_ 5) (j_ 2 q0 (b_ (a_ 0) (b_ (dC (.int 10)) c_))))) (m_ (oX 6 (pT (b_ (e_ rT (e_ rT (sV (a_ 1) sA (r9 (a_ 3))) (qZ (b_ (a_ 5) c_))) (sV (a_ 1) (r9 (a_ 3)) sA)) (b_ (e_ rT (e_ rT (sV (a_ 1) sA (r9 (a_ 3))) (qZ (b_ (a_ 5) c_))) (sV (a_ 1) (r9 (e_ rT (a_ 3) (dC (.int 1)))) sA)) (b_ (e_ rT (sV (a_ 1) sA (r9 (a_ 3))) (sV (a_ 1) (r9 (e_ rT (a_ 3) (dC (.int 1)))) sA)) (b_ (oU (zS false) (b_ (a_ 1) c_)) c_)))))) (m_ (oX 6 (e_ rT (a_ 6) (pT (b_ (D6 (a_ 1) (r9 (wR (dC (.int 1))))) (b_ (e_ rT (a_ 1) (sV (a_ 1) (r9 (wR (dC (.int 1)))) sA)) (b_ (dC .non) (b_ Bc (b_ (oU uz (b_ (yC false (b_ (e_ rT (a_ 1) (qZ (b_ (a_ 4) c_))) c_)) c_)) (b_ (zQ (dC (.str [32])) (b_ (a_ 1) c_)) c_))))))))) (oS (e_ pf (a_ 6) (e_ pf (pT (b_ (dC (.int 0)) (b_ (dC (.int 0)) (b_ (dC (.int 1)) (b_ (dC (.int 1)) (b_ (dC (.int 2)) (b_ (dC (.int 2)) (b_ (dC (.int 3)) (b_ (dC (.int 4)) (b_ (dC (.int 5)) (b_ (dC (.int 6)) (b_ (dC (.int 7)) (b_ (dC (.int 8)) (b_ (dC (.int 8)) (b_ (dC (.int 9)) c_))))))))))))))) (j_ 2 q0 (b_ (a_ 0) (b_ (dC (.int 14)) c_))))))))))))
def xb:List D->Ow->R D:=(pZ 7 HJ)
theorem z4W:pK ["_law_state_here", "_law_form", "_law_n", "_law_at", "_law_term", "_law_odd", "_law_some"] ["_law_state_here", "_law_form", "_law_n"] (oY (top 69)):=by walk_at "z"
theorem z4V (T:Txt K mg) (B:qb mg base):nH Cl P w K mg base "_law_bent_form" 2 3 xb:=
 nH.self (fnX (k:=1) T.d__law_bent_form z4W (by walk_at "u") fun f k_ A outer s H E hr=>
  (have x0:Nx ["_law_k"]:=⟨⟩;(ph (by walk_at "s") (ph (by walk_at "s") (ph (by walk_at "s") (ph (by walk_at "s") (ph (by walk_at "s") (ph (by walk_at "s") (qd (by walk_at "s"))))))))))
noncomputable def ET:DS:=
 (m_ (oX 1 (ux c_)) (m_ (r6 (pD (j_ 1 vB (b_ (a_ 0) c_))) (.one 2) (r6 (pD (j_ 1 vB (b_ (a_ 0) c_))) (.one 3) (m_ (oX 4 (e_ (fI xJ) (a_ 2) (a_ 3))) (pj (sC (oZ (e_ tY (a_ 2) (a_ 3))) (oZ (e_ (oQ qp) (e_ (fI A9) (a_ 4) (e_ (fI vT) (a_ 4) (dC (.int 1)))) (dC (.int 0))))) (rm (t7 (a_ 1) (b_ (qZ (b_ (a_ 2) (b_ (a_ 3) c_))) c_))) pC)))) (oS (a_ 1))))
def BO:List D->Ow->R D:=zN (pZ 5 ET)
theorem ZT:pK ["_law_function_here", "_law_found", "_law_point", "_law_other", "_law_one"] ["_law_function_here"] (oY (top 70)):=by walk_at "z"
theorem ZO (T:Txt K mg) (B:qb mg base):nH Cl P w K mg base "_law_steps" 2 1 BO:=
 nH.frz (fnX (k:=1) T.d__law_steps ZT (by walk_at "u") fun f k_ A outer s H E hr=>
  ((ph (by walk_at "s") (ph (by walk_at "s") (qd (by walk_at "s"))))))
noncomputable def HL:DS:=
 (m_ (oX 1 (pT (b_ (dC .non) (b_ (qZ c_) (b_ (qZ (b_ (dC (.int 0)) c_)) (b_ (qZ (b_ (dC (.int 0)) (b_ (dC (.int 1)) (b_ (dC (.int 0)) c_)))) (b_ (qZ (b_ (dC (.int 0)) (b_ (dC (.int 2)) c_))) (b_ (qZ (b_ (dC (.int 0)) (b_ (dC (.bl true)) c_))) (b_ (pT (b_ (dC (.int 0)) (b_ (dC (.int 1)) c_))) (b_ (e_ (DX false) (qZ (b_ (dC (.int 0)) c_)) (dC (.int 32))) (b_ (dC (.str [48,49])) (b_ (qZ (b_ (dC (.str [48])) (b_ (dC (.str [49])) c_))) (b_ Bc (b_ (dC (.int 1)) (b_ (qZ (b_ (dC (.int 0)) (b_ (dC (.int 1)) (b_ (dC .non) c_)))) c_))))))))))))))) (oS (e_ pf (a_ 1) (j_ 2 q0 (b_ (a_ 0) (b_ (dC (.int 13)) c_))))))
def B1:List D->Ow->R D:=(pZ 2 HL)
theorem z4c:pK ["_law_state_here", "_law_some"] ["_law_state_here"] (oY (top 73)):=by walk_at "z"
theorem z4b (T:Txt K mg) (B:qb mg base):nH Cl P w K mg base "_law_bad_function" 2 1 B1:=
 nH.self (fnX (k:=1) T.d__law_bad_function z4c (by walk_at "u") fun f k_ A outer s H E hr=>
  ((ph (by walk_at "s") (qd (by walk_at "s")))))
noncomputable def NS:DS:=
 (oS (JH (e_ FU (a_ 0) (dC .non)) (j_ 3 HE (b_ (a_ 0) (b_ (dC (.int 0)) (b_ (dC (.int 1)) c_))))))
def BU:List D->Ow->R D:=(pZ 1 NS)
theorem Zg:pK ["thing"] ["thing"] (oY (top 17)):=by walk_at "z"
theorem Zt (T:Txt K mg) (B:qb mg base):nH Cl P w K mg base "is_answer" 3 1 BU:=
 nH.self (fnX (k:=2) T.d_is_answer Zg (by walk_at "u") fun f k_ A outer s H E hr=>
  ((qd (by delta NS;walk_at "s"))))
noncomputable def E1:DS:=
 (oS (pG false 1 (pD (a_ 0)) (.one 2) [(oZ (e_ uF (a_ 1) (j_ 1 yd (b_ (a_ 2) c_))))] [] (a_ 2)))
def E3:List D->Ow->R D:=(pZ 2 E1)
theorem z5p:pK ["terms", "point"] ["terms", "point"] (oY (top 31)):=by walk_at "z"
theorem z5s (T:Txt K mg) (B:qb mg base):nH Cl P w K mg base "terms_holding" 3 2 E3:=
 nH.self (fnX (k:=2) T.d_terms_holding z5p (by walk_at "u") fun f k_ A outer s H E hr=>
  (have x0:Nx ["term"]:=⟨⟩;(qd (by delta E1;walk_at "s"))))
noncomputable def Om:DS:=
 (oS (oU tS (b_ (pG false 1 (pD (j_ 1 yd (b_ (a_ 1) c_))) (.one 2) [] [] (e_ (oQ qg) (e_ pf (a_ 0) (a_ 2)) (dC (.int 0)))) c_)))
def B5:List D->Ow->R D:=(pZ 2 Om)
theorem z4I:pK ["function", "term"] ["function", "term"] (oY (top 33)):=by walk_at "z"
theorem z4n (T:Txt K mg) (B:qb mg base):nH Cl P w K mg base "holds_no_nought" 3 2 B5:=
 nH.self (fnX (k:=2) T.d_holds_no_nought z4I (by walk_at "u") fun f k_ A outer s H E hr=>
  (have x0:Nx ["point"]:=⟨⟩;(qd (by delta Om;walk_at "s"))))
noncomputable def Hm:DS:=
 (m_ (oX 2 (j_ 1 yd (b_ (a_ 0) c_))) (oS (pG false 2 (pD (a_ 1)) (.two 3 4) [(sC (oZ (e_ uF (a_ 3) (a_ 2))) (oZ (e_ uF (a_ 4) (a_ 2))))] [] (qZ (b_ (a_ 3) (b_ (a_ 4) c_))))))
def BK:List D->Ow->R D:=(pZ 3 Hm)
theorem Yp:pK ["term", "pairs", "points"] ["term", "pairs"] (oY (top 48)):=by walk_at "z"
theorem Yo (T:Txt K mg) (B:qb mg base):nH Cl P w K mg base "kept_by" 3 2 BK:=
 nH.self (fnX (k:=2) T.d_kept_by Yp (by walk_at "u") fun f k_ A outer s H E hr=>
  (have x0:Nx ["point", "other"]:=⟨⟩;(ph (by walk_at "s") (qd (by walk_at "s")))))
noncomputable def HG:DS:=
 (m_ (oX 1 (pG false 0 (pD (j_ 1 AB (b_ (j_ 1 AH (b_ (a_ 0) c_)) c_))) (.one 3) [(pO (j_ 2 Ay (b_ (a_ 0) (b_ (a_ 3) c_))))] [] (a_ 3))) (m_ (oX 2 (ux c_)) (m_ (r6 (pD (a_ 1)) (.one 3) (m_ (oX 4 (pG false 1 (pD (a_ 1)) (.one 6) [(sC (oZ (e_ (oQ qg) (a_ 6) (a_ 3))) (pO (j_ 2 BY (b_ (a_ 3) (b_ (a_ 6) c_)))))] [] (a_ 6))) (m_ (oX 5 (pG false 1 (pD (j_ 1 vB (b_ (a_ 0) c_))) (.one 6) [(pO (j_ 2 uA (b_ (a_ 3) (b_ (a_ 6) c_))))] [] (a_ 6))) (pj (sC (oZ (e_ (oQ qp) (a_ 4) (pT c_))) (oZ (e_ (oQ qg) (a_ 5) (pT c_)))) (rm (t7 (a_ 2) (b_ (a_ 3) c_))) pC)))) (oS (a_ 2)))))
def AJ:List D->Ow->R D:=(pZ 6 HG)
theorem z5z:pK ["_law_function_here", "_law_some", "_law_found", "_law_term", "_law_wider", "_law_held"] ["_law_function_here"] (oY (top 64)):=by walk_at "z"
theorem z5y (T:Txt K mg) (B:qb mg base):nH Cl P w K mg base "_law_greatest" 3 1 AJ:=
 nH.self (fnX (k:=2) T.d__law_greatest z5z (by walk_at "u") fun f k_ A outer s H E hr=>
  (have x0:Nx []:=⟨⟩;have x1:Nx ["_law_other"]:=⟨⟩;have x2:Nx ["_law_point"]:=⟨⟩;(ph (by walk_at "s") (ph (by walk_at "s") (ph (by walk_at "s") (qd (by walk_at "s")))))))
noncomputable def BZ:DS:=
 (m_ (pj (rn (pO (j_ 2 yQ (b_ (j_ 1 AH (b_ (a_ 0) c_)) (b_ (a_ 1) c_))))) (oS (dC (.bl false))) pC) (m_ (pj (oZ (e_ (oQ qg) (pG false 1 (pD (a_ 1)) (.one 3) [(rn (pO (j_ 2 Ay (b_ (a_ 0) (b_ (a_ 3) c_)))))] [] (a_ 3)) (pT c_))) (oS (dC (.bl false))) pC) (m_ (r6 (pD (j_ 1 vB (b_ (a_ 0) c_))) (.one 2) (pj (oZ (e_ (oQ qp) (pG false 1 (pD (a_ 1)) (.one 3) [(pO (j_ 2 uA (b_ (a_ 3) (b_ (a_ 2) c_))))] [] (a_ 3)) (pT c_))) (oS (dC (.bl false))) pC)) (oS (dC (.bl true))))))
def v7:List D->Ow->R D:=(pZ 3 BZ)
theorem z5J:pK ["_law_function_here", "_law_thing", "_law_point"] ["_law_function_here", "_law_thing"] (oY (top 67)):=by walk_at "z"
theorem z5L (T:Txt K mg) (B:qb mg base):nH Cl P w K mg base "_law_is_form" 3 2 v7:=
 nH.self (fnX (k:=2) T.d__law_is_form z5J (by walk_at "u") fun f k_ A outer s H E hr=>
  (have x0:Nx ["_law_term"]:=⟨⟩;(ph (by walk_at "s") (ph (by walk_at "s") (ph (by walk_at "s") (qd (by walk_at "s")))))))
noncomputable def ER:DS:=
 (m_ (oX 2 (ux c_)) (m_ (r6 (pD (j_ 1 BO (b_ (a_ 0) c_))) (.one 3) (pj (oZ (e_ (oQ qp) (pG false 1 (pD (a_ 1)) (.one 4) [(sC (pO (j_ 2 uA (b_ (a_ 4) (b_ (e_ pf (a_ 3) (dC (.int 0))) c_)))) (pO (j_ 2 uA (b_ (a_ 4) (b_ (e_ pf (a_ 3) (dC (.int 1))) c_)))))] [] (a_ 4)) (pT c_))) (rm (t7 (a_ 2) (b_ (a_ 3) c_))) pC)) (oS (a_ 2))))
def BV:List D->Ow->R D:=zN (pZ 4 ER)
theorem Zl:pK ["_law_function_here", "_law_form", "_law_found", "_law_step"] ["_law_function_here", "_law_form"] (oY (top 71)):=by walk_at "z"
theorem ZF (T:Txt K mg) (B:qb mg base):nH Cl P w K mg base "_law_gaps" 3 2 BV:=
 nH.frz (fnX (k:=2) T.d__law_gaps Zl (by walk_at "u") fun f k_ A outer s H E hr=>
  (have x0:Nx ["_law_term"]:=⟨⟩;(ph (by walk_at "s") (ph (by walk_at "s") (qd (by walk_at "s"))))))
noncomputable def ZZ:DS:=
 (m_ (pj (vj (rn (pO (rj "tuple" (a_ 0)))) (oZ (w5 true uT (oU qa (b_ (a_ 0) c_))))) (oS (dC (.bl false))) pC) (oS (oU tS (b_ (pG false 1 (pD (a_ 0)) (.one 1) [] [] (j_ 1 BU (b_ (a_ 1) c_))) c_))))
def BQ:List D->Ow->R D:=(pZ 1 ZZ)
theorem z6D:pK ["thing"] ["thing"] (oY (top 18)):=by walk_at "z"
theorem z6B (T:Txt K mg) (B:qb mg base):nH Cl P w K mg base "is_function" 4 1 BQ:=
 nH.self (fnX (k:=3) T.d_is_function z6D (by walk_at "u") fun f k_ A outer s H E hr=>
  (have x0:Nx ["answer"]:=⟨⟩;(ph (by walk_at "s") (qd (by walk_at "s")))))
noncomputable def E6:DS:=
 (m_ (oX 2 (j_ 1 AJ (b_ (a_ 1) c_))) (m_ (oX 3 (ux c_)) (m_ (oX 4 (dC (.bl true))) (m_ (Gh 100 (sC (oZ (e_ (oQ qg) (a_ 2) (pT c_))) (pO (a_ 4))) (m_ (pj (pO (j_ 2 v7 (b_ (a_ 1) (b_ (oU uz (b_ (oU yF (b_ (a_ 3) c_)) c_)) c_)))) (oX 4 (e_ (oQ qp) (j_ 2 q0 (b_ (a_ 0) (b_ (dC (.int 4)) c_))) (dC (.int 0)))) pC) (pj (pO (a_ 4)) (rm (t7 (a_ 3) (b_ (Bm (a_ 2) (b_ (j_ 2 q0 (b_ (a_ 0) (b_ (oU qa (b_ (a_ 2) c_)) c_))) c_)) c_))) pC))) (oS (oU uz (b_ (oU yF (b_ (a_ 3) c_)) c_)))))))
def B4:List D->Ow->R D:=zN (pZ 5 E6)
theorem z52:pK ["_law_state_here", "_law_function_here", "_law_left", "_law_found", "_law_more"] ["_law_state_here", "_law_function_here"] (oY (top 68)):=by walk_at "z"
theorem z4Y (T:Txt K mg) (B:qb mg base):nH Cl P w K mg base "_law_some_form" 4 2 B4:=
 nH.frz (fnX (k:=3) T.d__law_some_form z52 (by walk_at "u") fun f k_ A outer s H E hr=>
  ((ph (by walk_at "s") (ph (by walk_at "s") (ph (by walk_at "s") (ph (by walk_at "s") (qd (by walk_at "s"))))))))
noncomputable def Oq:DS:=
 (pj (rn (pO (j_ 1 BQ (b_ (a_ 0) c_)))) (Eg 0 (b_ (dC (.str [97,32,102,117,110,99,116,105,111,110,32,105,115,32,97,32,116,117,112,108,101,32,111,102,32,50,44,32,52,44,32,56,32,111,114,32,49,54,32,97,110,115,119,101,114,115,44,32,101,97,99,104,32,48,44,32,49,32,111,114,32,78,111,110,101])) c_)) pC)
def AI:List D->Ow->R D:=(pZ 1 Oq)
theorem z5v:pK ["thing"] ["thing"] (oY (top 19)):=by walk_at "z"
theorem z5t (T:Txt K mg) (B:qb mg base):nH Cl P w K mg base "need_function" 5 1 AI:=
 nH.self (fnX (k:=4) T.d_need_function z5v (by walk_at "u") fun f k_ A outer s H E hr=>
  ((qd (by delta Oq;walk_at "s"))))
noncomputable def BM:DS:=
 (m_ (rm (j_ 1 AI (b_ (a_ 0) c_))) (m_ (pj (rn (pO (j_ 2 AE (b_ (j_ 1 E5 (b_ (a_ 0) c_)) (b_ (a_ 1) c_))))) (oS (dC (.bl false))) pC) (m_ (pj (rn (pO (oU tS (b_ (pG false 1 (pD (a_ 1)) (.one 2) [] [] (j_ 2 B5 (b_ (a_ 0) (b_ (a_ 2) c_)))) c_)))) (oS (dC (.bl false))) pC) (oS (oU tS (b_ (pG false 1 (pD (j_ 2 AF (b_ (a_ 0) (b_ (dC (.int 1)) c_)))) (.one 2) [] [] (e_ (oQ qg) (j_ 2 E3 (b_ (a_ 1) (b_ (a_ 2) c_))) (pT c_))) c_))))))
def Ar:List D->Ow->R D:=(pZ 2 BM)
theorem YF:pK ["function", "thing"] ["function", "thing"] (oY (top 40)):=by walk_at "z"
theorem Yi (T:Txt K mg) (B:qb mg base):nH Cl P w K mg base "is_form" 6 2 Ar:=
 nH.self (fnX (k:=5) T.d_is_form YF (by walk_at "u") fun f k_ A outer s H E hr=>
  (have x0:Nx ["term"]:=⟨⟩;have x1:Nx ["point"]:=⟨⟩;(ph (by walk_at "s") (ph (by walk_at "s") (ph (by walk_at "s") (qd (by walk_at "s")))))))
noncomputable def GP:DS:=
 (m_ (rm (j_ 1 AI (b_ (a_ 0) c_))) (m_ (oX 1 (j_ 2 AF (b_ (a_ 0) (b_ (dC (.int 1)) c_)))) (oS (pG false 2 (pD (a_ 1)) (.one 2) [] (⟨(pD (a_ 1)),(.one 3),[(sC (oZ (e_ tY (a_ 2) (a_ 3))) (oZ (e_ uF (e_ (fI xJ) (a_ 2) (a_ 3)) (dC (.tup (oq.map .int))))))]⟩::[]) (qZ (b_ (a_ 2) (b_ (a_ 3) c_)))))))
def Eo:List D->Ow->R D:=(pZ 2 GP)
theorem WA:pK ["function", "points"] ["function"] (oY (top 47)):=by walk_at "z"
theorem V7 (T:Txt K mg) (B:qb mg base):nH Cl P w K mg base "steps" 6 1 Eo:=
 nH.self (fnX (k:=5) T.d_steps WA (by walk_at "u") fun f k_ A outer s H E hr=>
  (have x0:Nx ["point", "other"]:=⟨⟩;(ph (by walk_at "s") (ph (by walk_at "s") (qd (by walk_at "s"))))))
def z6A:DS:=
 (m_ (rm (j_ 1 AI (b_ (a_ 0) c_))) DG)
def BX:List D->Ow->R D:=(pZ 2 z6A)
theorem z5S:pK ["function", "own_pairs"] ["function"] (oY (top 52)):=by walk_at "z"
theorem z60 (T:Txt K mg) (B:qb mg base):nH Cl P w K mg base "least_smooth" 6 1 BX:=
 nH.self (fnX (k:=5) T.d_least_smooth z5S (by walk_at "u") fun f k_ A outer s H E hr=>
  ((ph (by walk_at "s") G3)))
noncomputable def HB:DS:=
 (m_ (oX 2 (j_ 1 Eo (b_ (a_ 0) c_))) (m_ (oX 3 (pG false 2 (pD (a_ 1)) (.one 4) [] (⟨(pD (j_ 2 BK (b_ (a_ 4) (b_ (a_ 2) c_)))),(.one 5),[]⟩::[]) (a_ 5))) (oS (pG false 1 (pD (a_ 2)) (.one 4) [(oZ (e_ xK (a_ 4) (a_ 3)))] [] (a_ 4)))))
def EV:List D->Ow->R D:=(pZ 4 HB)
theorem ZX:pK ["function", "form", "wanted", "kept"] ["function", "form"] (oY (top 49)):=by walk_at "z"
theorem Z4 (T:Txt K mg) (B:qb mg base):nH Cl P w K mg base "open_steps" 7 2 EV:=
 nH.self (fnX (k:=6) T.d_open_steps ZX (by walk_at "u") fun f k_ A outer s H E hr=>
  (have x0:Nx ["term", "step"]:=⟨⟩;have x1:Nx ["step"]:=⟨⟩;(ph (by walk_at "s") (ph (by walk_at "s") (qd (by walk_at "s"))))))
noncomputable def Ax:DS:=
 (oS (vk (j_ 2 Ar (b_ (a_ 0) (b_ (a_ 1) c_))) (e_ (oQ qp) (j_ 2 EV (b_ (a_ 0) (b_ (a_ 1) c_))) (pT c_))))
def ye:List D->Ow->R D:=(pZ 2 Ax)
theorem ZM:pK ["function", "thing"] ["function", "thing"] (oY (top 50)):=by walk_at "z"
theorem Zw (T:Txt K mg) (B:qb mg base):nH Cl P w K mg base "is_smooth" 8 2 ye:=
 nH.self (fnX (k:=7) T.d_is_smooth ZM (by walk_at "u") fun f k_ A outer s H E hr=>
  ((qd (by delta Ax;walk_at "s"))))
noncomputable def QO (Pt:Nat):DS:=
 (m_ (r6 (rS (b_ (oU zW (b_ (dC (.int 1)) (b_ (oU zV (b_ (oU qa (b_ (a_ 0) c_)) (b_ (dC (.int 8)) c_))) c_))) c_)) (.one 1) (m_ (oX 2 (j_ 2 BP (b_ (a_ 0) (b_ (a_ 1) c_)))) (m_ (oX 3 (e_ qB (dC (.int 1)) (j_ 2 q0 (b_ (a_ 2) (b_ (dC (.int 4)) c_))))) (m_ (oX 4 (j_ 3 B2 (b_ (a_ 2) (b_ (a_ 3) (b_ (dC (.bl true)) c_))))) (m_ (oX 5 (oU uz (b_ (j_ 1 AJ (b_ (a_ 4) c_)) c_))) (m_ (oX 6 (j_ 2 B4 (b_ (a_ 2) (b_ (a_ 4) c_)))) (m_ (oX 7 (e_ qB (pT (b_ (a_ 6) (b_ (a_ 5) (b_ (qZ c_) (b_ (oU uz (b_ (j_ 1 AB (b_ (a_ 3) c_)) c_)) c_))))) (pG false 1 (rS (b_ (dC (.int 4)) c_)) (.one 12) [] [] (j_ 3 xb (b_ (a_ 2) (b_ (a_ 6) (b_ (a_ 3) c_))))))) (m_ (r6 (pD (e_ qB (a_ 7) (pG false 1 (rS (b_ (dC (.int 4)) c_)) (.one 12) [] [] (j_ 3 xb (b_ (a_ 2) (b_ (a_ 5) (b_ (a_ 3) c_))))))) (.one 8) (m_ (oX 9 (vk (j_ 2 v7 (b_ (a_ 4) (b_ (a_ 8) c_))) (e_ (oQ qp) (j_ 2 BV (b_ (a_ 4) (b_ (a_ 8) c_))) (pT c_)))) (pj (rn (pO (j_ 2 BS (b_ (j_ 2 ye (b_ (a_ 4) (b_ (a_ 8) c_))) (b_ (a_ 9) c_))))) (oS (dC (.bl false))) pC))) (m_ (oX 10 (j_ 1 B1 (b_ (a_ 2) c_))) (m_ (pj (oZ (e_ (oQ qg) (wD Pt 11 Ca 4 1 (j_ 2 ye (b_ (a_ 10) (b_ (qZ c_) c_))) xV) (pT (b_ (dC (.int 0)) c_)))) (oS (dC (.bl false))) pC) (pj (oZ (e_ (oQ qg) (wD Pt 11 Ca 4 1 (j_ 1 BX (b_ (a_ 10) c_)) xV) (pT (b_ (dC (.int 0)) c_)))) (oS (dC (.bl false))) pC))))))))))) (oS (dC (.bl true))))
def F_law (Pt:Nat):List D->Ow->R D:=DU 12 11 Pt (QO Pt)
theorem Sf:pK ["_law_script", "_law_k", "_law_state_here", "_law_n", "_law_function_here", "_law_whole", "_law_form", "_law_some", "_law_thing", "_law_due", "_law_bad", "<tab>"] ["_law_script"] (oY (top 75)):=by walk_at "z"
theorem R8 {f c Pt:af} {fd:dG} (hF:L2.Fun K "law" "law" (top 75) f fd) (hc:fd.code=.ref c) (T:Txt K mg) (B:qb mg base) (L:wX mg base c Pt):nY P w K mg base (qA P w Cl) 11 f fd ["_law_script"] (xM K (Xk Cl) 1 Pt (F_law Pt)):=
 fnT (k:=10) (i:=11) (z := "<tab>") hF hc Sf rfl (QA (by kernel_rfl)) fun A outer s H E hr=>
  (have x0:Nx ["_law_turn"]:=⟨⟩;(ph (by walk_at "s") (qd (by walk_at "s"))))
theorem Su {f c Pt:af} {fd:dG} (hF:L2.Fun K "law" "law" (top 75) f fd) (hc:fd.code=.ref c) (T:Txt K mg) (B:qb mg base) (L:wX mg base c Pt):nY P w K mg base (qA P w Cl) 11 f fd ["_law_script"] (xM K (Xk Cl) 1 Pt (F_law Pt)):=
 R8 hF hc T B L
end
theorem fa_mk {K:ai} {h:aT} {mg:Str->Option ae} (X:K.In h) (G:h.Ns bD mg) {n:Str} {st:dh} {f:af} {od an:Option af} {sl:Array (Option ae)} {oc kV dc pm ct cd:ae} (a:gJ K bD n=some (some (.ref f)))
  (l:K.lookup f=some ⟨oc,od,.func (bI n n (v5 st) (tU st) (oY st) .none kV dc pm an cd ct),sl⟩) (q:ee K cd n=true) (k:dB K (.ref f)=true):pX K mg n st:=⟨f,_,cC X G a,Lc l q k⟩
theorem gs_mk {K:ai} {h:aT} {mg:Str->Option ae} (X:K.In h) (G:h.Ns bD mg) {n:Str} {cs:List Nat} {t:Tok} (s:gJ K bD n=some (some (.str ⟨cs.toArray⟩ t))):FT mg n cs:=⟨_,cC X G s⟩
theorem gu_mk {K:ai} {h:aT} {mg:Str->Option ae} (X:K.In h) (G:h.Ns bD mg) {n:Str} {ks:List Int} {e:af} {o:Obj} (d:gJ K bD n=some (some (.ref e))) (u:K.lookup e=some o) (v:F3 o ks=true):F2 K mg n ks:=⟨_,_,cC X G d,u,v⟩
theorem gt_mk {K:ai} {h:aT} {mg:Str->Option ae} (X:K.In h) (G:h.Ns bD mg) {n:Str} {tb:List (Int×Int)} {e:af} {o:Obj} (d:gJ K bD n=some (some (.ref e))) (u:K.lookup e=some o) (v:DC o tb=true) (y:(e==sysModules)=false):yv K mg n tb:=⟨_,_,cC X G d,u,v,y⟩
theorem all_mk {P:aH} {w:aP} {K:ai} {h:aT} {mg:Str->Option ae} {fa:af} (X:K.In h) (G:h.Ns bD mg) (hfa:mg "law" = some (.ref fa)) (T:Txt K mg)
  {f:af} {od an:Option af} {sl:Array (Option ae)} {oc kV dc pm ct:ae} {cd:af} (a:gJ K bD "law" = some (some (.ref f)))
  (l:K.lookup f=some ⟨oc,od,.func (bI "law" "law" (v5 (top 75)) (tU (top 75)) (oY (top 75)) .none kV dc pm an (.ref cd) ct),sl⟩) (q:ee K (.ref cd) "law" = true) (k:dB K (.ref f)=true)
  (z0S:lh K 37 DH "ValueError.__new__" = true)
  {Pt:af} {oc_t:ae} {od_t:Option af} {sl_t:Array (Option ae)} {vs_t:Array ae} (h4:K.lookup cd=some ⟨oc_t,od_t,.fields vs_t,sl_t⟩) (h5:vs_t[11]?=some (.ref Pt)) (IP:iW K=true)
  : iW K=true/\∃ (c Pt:af),jq K "law" = some (c,Pt)/\∃ fd:dG,(∀ (s:ag) (u:ae),iq s fd ⟨[u],[]⟩ [("_law_script",u)])/\∀ base:aT,K.In base->base.Ns bD mg->wX mg base c Pt->nY P w K mg base (qA P w Cl) 11 fa fd ["_law_script"] (xM K (Xk Cl) 1 Pt (F_law Pt)):=by
 have hF:L2.Fun K "law" "law" (top 75) f (bI "law" "law" (v5 (top 75)) (tU (top 75)) (oY (top 75)) .none kV dc pm an (.ref cd) ct):=Lc l q k
 have e:=hfa.symm.trans (cC X G a)
 cases e
 exact ⟨IP,cd,Pt,Sz a l h4 h5,_,fun s u=>.of_eq rfl,fun base kb nb L=>Su hF rfl T ⟨Uk kb T.z03 z0S⟩ L⟩
end K86
-- P_ 11
namespace K86
open PySem DL
noncomputable def KL:D->Bool
 | .own _=>false
 | .lst _=>false
 | .tup _=>false
 | .map _ _=>false
 | _=>true
noncomputable def tT (n:Nat):D->Bool
 | .own k=>decide (k<n)
 | .lst _=>false
 | .tup ds=>ds.all KL
 | .map _ _=>false
 | _=>true
def qL (O:Ow):Prop:=∀ c∈O,∀ d∈c,tT O.length d=true
theorem Q7 (h:KL d=true):frz O n f d=some d:=by
 cases d with
 | own k=>cases h
 | lst ds=>cases h
 | tup ds=>cases h
 | map ks ds=>cases h
 | _=>cases f<;>rfl
theorem yN (h:tT n d=true):frz O n (f+1) d=some d:=by
 cases d with
 | own k=>
  have h:k<n:=by simpa [tT] using h
  unfold frz;dsimp only;rw [if_pos h]
 | lst ds=>cases h
 | tup ds=>
  show (o6 (frz O n f) ds).map D.tup=_
  rw [vA fun d hd=>Q7 (aF.mp h d hd)];rfl
 | map ks ds=>cases h
 | _=>rfl
theorem Hd (hO:∀ c∈O',∀ d∈c,tT O'.length d=true) (X:Ow) (h:frz (O'++X) O'.length 8 d=some (.lst cs)):t5 O'.length (.ok d (O'++X))=.ok (.lst cs) O':=by
 unfold t5
 dsimp only
 rw [h]
 have:(O'++X).take O'.length=O':=by simp
 rw [this,vA fun c hc=>vA fun d hd=>yN (hO c hc d hd)]
theorem YR (h:a<=b) (hd:tT a d=true):tT b d=true:=by
 cases d with
 | own k=>simp [tT] at hd ⊢;omega
 | _=>exact hd
theorem WS (h:qL O) (hX:∀ c∈X,∀ d∈c,tT (O.length+X.length) d=true):qL (O++X):=by
 intro c hc d hd
 rw [ar]
 rcases aN.mp hc with hc|hc
 ·exact YR (gf _ _) (h c hc d hd)
 ·exact hX c hc d hd
theorem GZ (h:qL O) (hc:∀ d∈c,tT (O.length+1) d=true):qL (O++[c]):=WS h fun x hx d hd=>by
 have:x=c:=by simpa using hx
 subst this;exact hc d hd
noncomputable def terms:Nat->List (List Nat)
 | 0=>[[]]
 | n+1=>(terms n).flatMap fun t=>[t++[45],t++[48],t++[49]]
def RA:Nat->List Nat
 | 45=>[0,1]
 | 49=>[1]
 | _=>[0]
noncomputable def qv (cs:List Nat):List Nat:=cs.foldl (fun ps c=>ps.flatMap fun p=>(RA c).map (2*p + ·)) [0]
def rG (l:List Nat):List D:=l.map fun (p:Nat)=>D.int (p:Int)
def n8:List (List Nat):=terms 1++terms 2++terms 3++terms 4
theorem Ud (O:Ow):(n8.map fun cs=>yd [.str cs] O)=n8.map fun cs=>R.ok (.lst (rG (qv cs))) O:=by kernel_rfl
def Bf:Nat->Nat->List Nat
 | 0,_=>[]
 | n+1,p=>Bf n (p/2)++[48+p%2]
noncomputable def oD:List (List Nat×Nat):=n8.flatMap fun cs=>(bd (2 ^ cs.length)).map fun p=>(cs,p)
noncomputable def KZ (cs bs:List Nat):Bool:=(bd cs.length).all fun i=>cs.getD i 0==45||cs.getD i 0==bs.getD i 1
def sgn (c:Nat):Bool:=c==45||c==48||c==49
def bit (c:Nat):Bool:=c==48||c==49
theorem Xq:(oD.all fun q=>KZ q.1 (Bf q.1.length q.2)==(qv q.1).contains q.2&&(Bf q.1.length q.2).length==q.1.length&&(Bf q.1.length q.2).all bit&&q.1.all sgn)=true:=by decide +kernel
theorem MR (h:cs∈n8) (hp:p<2 ^ cs.length):(cs,p)∈oD:=by
 unfold oD
 rw [eN]
 exact ⟨cs,h,bb.mpr ⟨p,bK.mpr hp,rfl⟩⟩
theorem Hz (h:cs∈n8) (O:Ow):yd [.str cs] O=.ok (.lst (rG (qv cs))) O:=cW.mp (Ud O) cs h
def vK (d:D):Prop:=d=.int 0\/d=.int 1\/d=.non
def vF:D->Bool
 | .int i=>i==0
 | _=>false
structure Fn (n:Nat) (f:List D):Prop where
 n1:1<=n
 n4:n<=4
 len:f.length=2 ^ n
 ans:∀ d∈f,vK d
def uw (f:List D) (cs:List Nat):Bool:=(qv cs).all fun p=>!vF (f.getD p .non)
theorem ne0 (O:Ow) (h:vK d):oQ qg O d (.int 0)=.ok (.bl (!vF d)) O:=by rcases h with rfl|rfl|rfl<;>kernel_rfl
theorem eq0 (O:Ow) (h:vK d):oQ qp O d (.int 0)=.ok (.bl (vF d)) O:=by rcases h with rfl|rfl|rfl<;>kernel_rfl
theorem yz (h1:1<=n) (h4:n<=4):n=1\/n=2\/n=3\/n=4:=by omega
theorem vY (h1:1<=n) (h4:n<=4) (h:cs∈terms n):cs∈n8:=by
 unfold n8
 rcases yz h1 h4 with rfl|rfl|rfl|rfl<;>simp [h]
theorem Z0:([1,2,3,4].all fun n=>(terms n).all fun cs=>cs.length==n)=true:=by decide +kernel
theorem sX (h1:1<=n) (h4:n<=4) (h:cs∈terms n):cs.length=n:=by
 have:=aF.mp Z0 n (by rcases yz h1 h4 with rfl|rfl|rfl|rfl<;>simp)
 simpa using aF.mp this cs h
theorem YG:(n8.all fun cs=>(qv cs).all fun p=>decide (p<2 ^ cs.length))=true:=by decide +kernel
theorem KS (h:cs∈n8) (hp:p∈qv cs):p<2 ^ cs.length:=by
 have:=aF.mp YG cs h
 simpa using aF.mp this p hp
theorem YX:(n8.all fun cs=>decide ((qv cs).length<=16))=true:=by decide +kernel
theorem Tb (h:cs∈n8):(qv cs).length<=16:=by simpa using aF.mp YX cs h
theorem Mn:∀ l:List Bool,vf (l.map D.bl)=some l
 | []=>rfl
 | b::l=>by
  show (vf (l.map D.bl)).map (b :: ·)=_
  rw [Mn l];rfl
theorem Mq (O:Ow) (l:List Bool):tS O [.lst (l.map D.bl)]=.ok (.bl (l.all id)) O:=by
 show (match vf (l.map D.bl) with|some bs=>R.ok (D.bl (bs.all id)) O|none=>R.bad)=_
 rw [Mn]
theorem Bv {f:List D} {p:Nat} (h:p<f.length):f.getD p .non=f[p]:=by
 rw [aS,au h];rfl
theorem Hu {α:Type} (l:List α):l.filter (fun _=>true)=l:=by simp
theorem Wx {n:Nat} {f:List D} (hf:Fn n f) {cs:List Nat} (h:cs∈terms n) (O:Ow):B5 [.tup f,.str cs] O=.ok (.bl (uw f cs)) O:=by
 have hA:=vY hf.n1 hf.n4 h
 have hl:=sX hf.n1 hf.n4 h
 have hit:pD (j_ 1 yd (b_ (a_ 1) c_)) [some (.tup f),some (.str cs)] O=.ok (.val (rG (qv cs))) O:=ua ((z_ (o3 rfl) rfl).trans (Hz hA O))
 have hc:=NB (ext:=1) (i:=2) (ts:=[]) (te:=e_ (oQ qg) (e_ pf (a_ 0) (a_ 2)) (dC (.int 0))) (p:=fun _=>true) (e:=fun d=>.bl (match d with|.int i=>!vF (f.getD i.toNat .non)|_=>false)) hit (by unfold rG;have:=Tb hA;simp;omega) (fun d hd=>rfl) (fun d hd _=>by
  obtain ⟨q,hq,rfl⟩:=bb.mp hd
  have pF:q<f.length:=by rw [hf.len,<- hl];exact KS hA hq
  refine (qm ((qm rfl rfl).trans (GB (i:=q) pF)) rfl).trans ((ne0 O (hf.ans _ (cr pF))).trans ?_)
  have:((q:Int)).toNat=q:=by omega
  show _=R.ok (D.bl (!vF (f.getD ((q:Int)).toNat .non))) O
  rw [this,Bv pF]) false
 have e2:(((rG (qv cs)).filter fun _=>true).map fun d=>D.bl (match d with|.int i=>!vF (f.getD i.toNat .non)|_=>false))=((qv cs).map fun p=>!vF (f.getD p .non)).map D.bl:=by
  rw [Hu]
  unfold rG
  rw [cO,cO]
  exact eG fun q _=>by
   show D.bl (!vF (f.getD ((q:Int)).toNat .non))=D.bl (!vF (f.getD q .non))
   have:((q:Int)).toNat=q:=by omega
   rw [this]
 rw [e2] at hc
 show fin (oS _ [some (.tup f),some (.str cs)] O)=_
 rw [qQ ((vX (o3 hc)).trans (Mq O _))]
 show R.ok (D.bl _) O=_
 unfold uw
 congr 2
 rw [lQ];rfl
theorem XM (O:Ow) (h:vK d):BU [d] O=.ok (.bl true) O:=by rcases h with rfl|rfl|rfl<;>kernel_rfl
theorem yP (h4:n<=4):2 ^ n<=16:=aU (Nat.pow_le_pow_right (by decide) h4) (by decide)
theorem MD (O:Ow) (f:List D):qa O [.tup f]=.ok (.int f.length) O:=rfl
theorem z6C (hf:Fn n f) (O:Ow):BQ [.tup f] O=.ok (.bl true) O:=by
 have hc:=NB (ext:=1) (i:=1) (ts:=[]) (te:=j_ 1 BU (b_ (a_ 1) c_)) (it0:=pD (a_ 0)) (σ:=[some (.tup f)]) (O:=O) (ds:=f) (p:=fun _=>true) (e:=fun _=>.bl true) rfl (by have:=yP hf.n4;have:=hf.len;omega) (fun d hd=>rfl) (fun d hd _=>(z_ (o3 rfl) rfl).trans (XM O (hf.ans d hd))) false
 have e2:(f.filter fun _=>true).map (fun _=>D.bl true)=(f.map fun _=>true).map D.bl:=by rw [Hu,cO];rfl
 rw [e2] at hc
 have Fw:pj (vj (rn (pO (rj "tuple" (a_ 0)))) (oZ (w5 true uT (oU qa (b_ (a_ 0) c_))))) (oS (dC (.bl false))) pC [some (.tup f)] O=.nx [some (.tup f)] O:=by
  have:vj (rn (pO (rj "tuple" (a_ 0)))) (oZ (w5 true uT (oU qa (b_ (a_ 0) c_)))) [some (.tup f)] O=.ok false O:=by
   show (oZ (w5 true uT (oU qa (b_ (a_ 0) c_))) [some (.tup f)] O)=_
   refine ra ?_
   show R.ok (D.bl (if true=true then !(sN uT (f.length:Nat)).isSome else _)) O=_
   rw [hf.len]
   rcases yz hf.n1 hf.n4 with rfl|rfl|rfl|rfl<;>rfl
  rw [rV this];rfl
 show fin (m_ _ _ [some (.tup f)] O)=_
 rw [sh Fw,qQ ((vX (o3 hc)).trans (Mq O _))]
 show R.ok (D.bl _) O=_
 congr 2
 rw [lQ]
 exact aF.mpr fun _ _=>rfl
theorem GD (hf:Fn n f) (O:Ow):AI [.tup f] O=.ok .non O:=by
 show fin (pj _ _ pC [some (.tup f)] O)=_
 have e1:j_ 1 BQ (b_ (a_ 0) c_) [some (.tup f)] O=.ok (.bl true) O:=(z_ (o3 rfl) rfl).trans (z6C hf O)
 rw [rV (uB (q_ e1))]
 rfl
theorem NQ (hf:Fn n f) (O:Ow):E5 [.tup f] O=.ok (.int n) O:=by
 show fin (oS (Ba uT (oU qa (b_ (a_ 0) c_))) [some (.tup f)] O)=_
 have:Ba uT (oU qa (b_ (a_ 0) c_)) [some (.tup f)] O=.ok (.int n) O:=by
  show (match sN uT (f.length:Nat) with|some v=>R.ok (D.int v) O|none=>R.bad)=_
  rw [hf.len]
  rcases yz hf.n1 hf.n4 with rfl|rfl|rfl|rfl<;>rfl
 rw [qQ this];rfl
theorem HI (hf:Fn n f) (O:Ow):AH [.tup f] O=.ok (.int n) O:=by
 show fin (oS (A_ [(2,1),(4,2),(8,3),(16,4)] (oU qa (b_ (a_ 0) c_))) [some (.tup f)] O)=_
 have:A_ [(2,1),(4,2),(8,3),(16,4)] (oU qa (b_ (a_ 0) c_)) [some (.tup f)] O=.ok (.int n) O:=by
  show (match Bd [(2,1),(4,2),(8,3),(16,4)] (f.length:Nat) with|some v=>R.ok (D.int v) O|none=>R.bad)=_
  rw [hf.len]
  rcases yz hf.n1 hf.n4 with rfl|rfl|rfl|rfl<;>rfl
 rw [qQ this];rfl
theorem He (h1:1<=n) (h4:n<=4):(terms n).length<=81:=by
 rcases yz h1 h4 with rfl|rfl|rfl|rfl<;>decide
def r_ (n:Nat) (f:List D):List (List Nat):=(terms n).filter (uw f)
def uy:D->List Nat
 | .str cs=>cs
 | _=>[]
structure nR (O:Ow) (m:Nat) (s:Int) (b:Bool):Prop where
 at_:O[m]?=some [.int s,.bl b]
 nn:0<=s
 lt:b=false->s<2147483647
theorem nR.len (h:nR O m s b):m<O.length:=(al.mp h.at_).1
theorem Et (h:O[m]?=some [x,y]):pf O (.own m) (.int 0)=.ok x O:=by
 show (match O[m]? with|some ds=>(match L2.atI ds 0 with|some d=>R.ok d O|none=>R.bad)|none=>_)=_
 rw [h];rfl
theorem M7 (h:O[m]?=some [x,y]):pf O (.own m) (.int 1)=.ok y O:=by
 show (match O[m]? with|some ds=>(match L2.atI ds 1 with|some d=>R.ok d O|none=>R.bad)|none=>_)=_
 rw [h];rfl
theorem LN (h1:te σ O=.ok y O1) (h2:to σ O1=.ok (.own k) O2) (h3:ti σ O2=.ok (.int i) O3) (h4:O3[k]?=some ds) (h5:L2.ixN ds.length i=some j):
  wU te to ti σ O=.nx σ (O3.set k (ds.set j y)):=by
 show ((te σ O).bnS _)=_
 rw [h1]
 show ((to σ O1).bnS _)=_
 rw [h2]
 show ((ti σ O2).bnS _)=_
 rw [h3]
 show (match O3[k]? with|some ds=>(match L2.ixN ds.length i with|some j=>RS.nx σ (O3.set k (ds.set j y))|none=>RS.bad)|none=>RS.bad)=_
 rw [h4]
 show (match L2.ixN ds.length i with|some j=>RS.nx σ (O3.set k (ds.set j y))|none=>RS.bad)=_
 rw [h5]
theorem Aa (h:0<j):fI sv O (.int i) (.int j)=.ok (.int (i%j)) O:=by
 show (match sv i j with|some d=>R.ok d O|none=>R.bad)=_
 unfold sv;rw [if_pos h]
theorem K4 (h:0<j) (h2:j<1073741824):fI vo O (.int i) (.int j)=.ok (.int (i/j)) O:=by
 show (match vo i j with|some d=>R.ok d O|none=>R.bad)=_
 unfold vo;rw [if_pos ⟨h,h2⟩]
theorem Ak (h:-1000000000000000<i) (h2:i<1000000000000000):fI sL O (.int i) (.int j)=.ok (.int (i*j)) O:=by
 show (match sL i j with|some d=>R.ok d O|none=>R.bad)=_
 unfold sL;rw [if_pos (.inl ⟨h,h2⟩)]
theorem oh:qB O (.int i) (.int j)=.ok (.int (i+j)) O:=rfl
theorem w8 (h:nR O m s b) (k1:1<=k) (k2:k<=1000):
  ∃ (r:Nat) (s':Int),r<k/\q0 [.own m,.int k] O=.ok (.int r) (O.set m [.int s',.bl b])/\nR (O.set m [.int s',.bl b]) m s' b:=by
 have kk:(0:Int)<(k:Int):=by omega
 have tF:∀ s',(O.set m [.int s',.bl b])[m]?=some [D.int s',D.bl b]:=fun s'=>by rw [ba h.len]
 have CP:∀ x:Int,∃ r:Nat,r<k/\x%(k:Int)=(r:Int):=fun x=>by
  have a1:=iO x (show (k:Int)≠0 by omega)
  have a2:=gN x kk
  exact ⟨(x%(k:Int)).toNat,by omega,by omega⟩
 cases b with
 | true=>
  obtain ⟨r,r1,r2⟩:=CP s
  refine ⟨r,s/k,r1,?_,tF _,Int.ediv_nonneg h.nn (by omega),fun z=>by cases z⟩
  have hc:pO (e_ pf (a_ 0) (dC (.int 1))) [some (.own m),some (.int k),none,none] O=.ok true O:=q_ ((qm rfl rfl).trans (M7 h.at_))
  have e1:oX 2 (e_ (fI sv) (e_ pf (a_ 0) (dC (.int 0))) (a_ 1)) [some (.own m),some (.int k),none,none] O=.nx [some (.own m),some (.int k),some (.int r),none] O:=by
   rw [yK ((qm ((qm rfl rfl).trans (Et h.at_)) rfl).trans (Aa kk)),r2];rfl
  have e2:wU (e_ (fI vo) (e_ pf (a_ 0) (dC (.int 0))) (a_ 1)) (a_ 0) (dC (.int 0)) [some (.own m),some (.int k),some (.int r),none] O=.nx [some (.own m),some (.int k),some (.int r),none] (O.set m [.int (s/k),.bl true]):=
   LN (ds:=[.int s,.bl true]) (j:=0) ((qm ((qm rfl rfl).trans (Et h.at_)) rfl).trans (K4 kk (by omega))) rfl rfl h.at_ rfl
  show fin (m_ (pj _ _ _) _ [some (.own m),some (.int k),none,none] O)=_
  have e3:pj (pO (e_ pf (a_ 0) (dC (.int 1)))) (m_ (oX 2 (e_ (fI sv) (e_ pf (a_ 0) (dC (.int 0))) (a_ 1))) (m_ (wU (e_ (fI vo) (e_ pf (a_ 0) (dC (.int 0))) (a_ 1)) (a_ 0) (dC (.int 0))) (oS (a_ 2)))) pC [some (.own m),some (.int k),none,none] O=.rt (.int r) (O.set m [.int (s/k),.bl true]):=by
   rw [rV hc,if_pos rfl,sh e1,sh e2];rfl
  rw [Ai e3];rfl
 | false=>
  have hs:=h.lt rfl
  let s1:Int:=(s*48271+29)%2147483647
  have s1n:0<=s1:=iO _ (by decide)
  have s1l:s1<2147483647:=gN _ (by decide)
  let O1:=O.set m [.int s1,.bl false]
  have Jv:O1[m]?=some [D.int s1,D.bl false]:=tF s1
  let t1:Int:=(s1*s1+39373*s1+7)%2147483629
  have t1n:0<=t1:=iO _ (by decide)
  have t1l:t1<2147483629:=gN _ (by decide)
  let t2:Int:=(t1*t1+16807*t1)%2147483587
  have hc:pO (e_ pf (a_ 0) (dC (.int 1))) [some (.own m),some (.int k),none,none] O=.ok false O:=q_ ((qm rfl rfl).trans (M7 h.at_))
  have e0:pj (pO (e_ pf (a_ 0) (dC (.int 1)))) (m_ (oX 2 (e_ (fI sv) (e_ pf (a_ 0) (dC (.int 0))) (a_ 1))) (m_ (wU (e_ (fI vo) (e_ pf (a_ 0) (dC (.int 0))) (a_ 1)) (a_ 0) (dC (.int 0))) (oS (a_ 2)))) pC [some (.own m),some (.int k),none,none] O=.nx [some (.own m),some (.int k),none,none] O:=by
   rw [rV hc];rfl
  have e1:wU (e_ (fI sv) (e_ qB (e_ (fI sL) (e_ pf (a_ 0) (dC (.int 0))) (dC (.int 48271))) (dC (.int 29))) (dC (.int 2147483647))) (a_ 0) (dC (.int 0)) [some (.own m),some (.int k),none,none] O=.nx [some (.own m),some (.int k),none,none] O1:=
   LN (ds:=[.int s,.bl false]) (j:=0) ((qm ((qm ((qm ((qm rfl rfl).trans (Et h.at_)) rfl).trans (Ak (by have:=h.nn;omega) (by omega))) rfl).trans oh) rfl).trans (Aa (by decide))) rfl rfl h.at_ rfl
  have Ip:∀ z w,e_ pf (a_ 0) (dC (.int 0)) [some (.own m),some (.int k),z,w] O1=.ok (.int s1) O1:=fun z w=>(qm rfl rfl).trans (Et Jv)
  have e2:oX 3 (e_ (fI sv) (e_ qB (e_ qB (e_ (fI sL) (e_ pf (a_ 0) (dC (.int 0))) (e_ pf (a_ 0) (dC (.int 0)))) (e_ (fI sL) (dC (.int 39373)) (e_ pf (a_ 0) (dC (.int 0))))) (dC (.int 7))) (dC (.int 2147483629))) [some (.own m),some (.int k),none,none] O1=.nx [some (.own m),some (.int k),none,some (.int t1)] O1:=
   yK ((qm ((qm ((qm ((qm (Ip none none) (Ip none none)).trans (Ak (by omega) (by omega))) ((qm rfl (Ip none none)).trans (Ak (by decide) (by decide)))).trans oh) rfl).trans oh) rfl).trans (Aa (by decide)))
  have e3:oX 3 (e_ (fI sv) (e_ qB (e_ (fI sL) (a_ 3) (a_ 3)) (e_ (fI sL) (dC (.int 16807)) (a_ 3))) (dC (.int 2147483587))) [some (.own m),some (.int k),none,some (.int t1)] O1=.nx [some (.own m),some (.int k),none,some (.int t2)] O1:=
   yK ((qm ((qm ((qm rfl rfl).trans (Ak (by omega) (by omega))) ((qm rfl rfl).trans (Ak (by decide) (by decide)))).trans oh) rfl).trans (Aa (by decide)))
  obtain ⟨r,r1,r2⟩:=CP (t2/8)
  refine ⟨r,s1,r1,?_,tF _,s1n,fun _=>s1l⟩
  have e4:oS (e_ (fI sv) (e_ (fI vo) (a_ 3) (dC (.int 8))) (a_ 1)) [some (.own m),some (.int k),none,some (.int t2)] O1=.rt (.int r) O1:=by
   rw [qQ ((qm ((qm rfl rfl).trans (K4 (by decide) (by decide))) rfl).trans (Aa kk)),r2]
  show fin (m_ _ _ [some (.own m),some (.int k),none,none] O)=_
  rw [sh e0,sh e1,sh e2,sh e3,e4];rfl
theorem W0 {ns:List Int} {k:Nat} (O:Ow):∃ s b,BP [.lst (ns.map .int),.int k] O=.ok (.own O.length) (O++[[.int s,.bl b]])/\nR (O++[[.int s,.bl b]]) O.length s b:=by
 have Py:∀ s b,(O++[[D.int s,D.bl b]])[O.length]?=some [D.int s,D.bl b]:=fun s b=>by simp
 obtain ⟨c,hc⟩:∃ c:Int,B0 [.lst (ns.map .int),.int k] O=.ok (.int c) O:=by
  have ht:oZ (e_ tY (a_ 1) (oU qa (b_ (a_ 0) c_))) [some (.lst (ns.map .int)),some (.int k)] O=.ok (decide ((k:Int)<(ns.map D.int).length)) O:=ra ((qm rfl ((vX (o3 rfl)).trans rfl)).trans rfl)
  by_cases hk:(k:Int)<(ns.map D.int).length
  ·have uh:k<(ns.map D.int).length:=by omega
   have hx:e_ pf (a_ 0) (a_ 1) [some (.lst (ns.map .int)),some (.int k)] O=.ok (ns.map D.int)[k] O:=(qm rfl rfl).trans (Bw uh)
   refine ⟨ns[k]'(by simpa using uh),?_⟩
   show fin (m_ _ _ [some (.lst (ns.map .int)),some (.int k)] O)=_
   have e1:pj (oZ (e_ tY (a_ 1) (oU qa (b_ (a_ 0) c_)))) (oS (e_ pf (a_ 0) (a_ 1))) pC [some (.lst (ns.map .int)),some (.int k)] O=.rt (.int (ns[k]'(by simpa using uh))) O:=by
    rw [rV ht,if_pos (decide_eq_true hk),qQ hx];simp
   rw [Ai e1];rfl
  ·refine ⟨0,?_⟩
   show fin (m_ _ _ [some (.lst (ns.map .int)),some (.int k)] O)=_
   have e1:pj (oZ (e_ tY (a_ 1) (oU qa (b_ (a_ 0) c_)))) (oS (e_ pf (a_ 0) (a_ 1))) pC [some (.lst (ns.map .int)),some (.int k)] O=.nx [some (.lst (ns.map .int)),some (.int k)] O:=by
    rw [rV ht,if_neg (by simpa using hk)];rfl
   rw [sh e1];rfl
 have e0:oX 2 (j_ 2 B0 (b_ (a_ 0) (b_ (a_ 1) c_))) [some (.lst (ns.map .int)),some (.int k),none] O=.nx [some (.lst (ns.map .int)),some (.int k),some (.int c)] O:=yK ((z_ (pE rfl rfl) rfl).trans hc)
 have hp:∀ σ,e_ (fI vR) (dC (.int 10)) (dC (.int 18)) σ O=.ok (.int 1000000000000000000) O:=fun σ=>by
  refine (qm (σ:=σ) (O:=O) rfl rfl).trans ?_
  kernel_rfl
 have ht:oZ (e_ zJ (a_ 2) (e_ (fI vR) (dC (.int 10)) (dC (.int 18)))) [some (.lst (ns.map .int)),some (.int k),some (.int c)] O=.ok (decide ((1000000000000000000:Int)<=c)) O:=ra ((qm rfl (hp _)).trans rfl)
 by_cases wt:(1000000000000000000:Int)<=c
 ·refine ⟨c-1000000000000000000,true,?_,Py _ _,by omega,fun z=>by cases z⟩
  have e1:pj (oZ (e_ zJ (a_ 2) (e_ (fI vR) (dC (.int 10)) (dC (.int 18))))) (oS (ux (b_ (e_ (fI vT) (a_ 2) (e_ (fI vR) (dC (.int 10)) (dC (.int 18)))) (b_ (dC (.bl true)) c_)))) pC [some (.lst (ns.map .int)),some (.int k),some (.int c)] O=.rt (.own O.length) (O++[[.int (c-1000000000000000000),.bl true]]):=by
   rw [rV ht,if_pos (decide_eq_true wt)]
   refine qQ ?_
   show ((b_ _ _ _ O).bnd _)=_
   rw [pE ((qm rfl (hp _)).trans rfl) rfl]
   rfl
  show fin (m_ _ _ [some (.lst (ns.map .int)),some (.int k),none] O)=_
  rw [sh e0,Ai e1];rfl
 ·refine ⟨c%2147483647,false,?_,Py _ _,iO _ (by decide),fun _=>gN _ (by decide)⟩
  have e1:pj (oZ (e_ zJ (a_ 2) (e_ (fI vR) (dC (.int 10)) (dC (.int 18))))) (oS (ux (b_ (e_ (fI vT) (a_ 2) (e_ (fI vR) (dC (.int 10)) (dC (.int 18)))) (b_ (dC (.bl true)) c_)))) pC [some (.lst (ns.map .int)),some (.int k),some (.int c)] O=.nx [some (.lst (ns.map .int)),some (.int k),some (.int c)] O:=by
   rw [rV ht,if_neg (by simpa using wt)];rfl
  show fin (m_ _ _ [some (.lst (ns.map .int)),some (.int k),none] O)=_
  rw [sh e0,sh e1]
  have e2:ux (b_ (e_ (fI sv) (a_ 2) (dC (.int 2147483647))) (b_ (dC (.bl false)) c_)) [some (.lst (ns.map .int)),some (.int k),some (.int c)] O=.ok (.own O.length) (O++[[.int (c%2147483647),.bl false]]):=by
   show ((b_ _ _ _ O).bnd _)=_
   rw [pE ((qm rfl rfl).trans (Aa (by decide))) rfl]
   rfl
  rw [qQ e2];rfl
theorem G2 {O:Ow} {m:Nat} {x:List D} (h:O[m]?=some x):O.set m x=O:=by
 obtain ⟨h1,rfl⟩:=al.mp h
 exact List.set_getElem_self h1
theorem x8 (h:qL O) (m:Nat) (s:Int) (b:Bool):qL (O.set m [.int s,.bl b]):=by
 intro c hc d hd
 rw [cB]
 rcases List.mem_or_eq_of_mem_set hc with h1|rfl
 ·exact h c h1 d hd
 ·simp only [aw,aR,or_false] at hd
  rcases hd with rfl|rfl<;>rfl
theorem MW (hO:qL O') (X:Ow) (h:frz (O'++X) O'.length 8 d=some d'):t5 O'.length (.ok d (O'++X))=.ok d' O':=by
 unfold t5
 dsimp only
 rw [h]
 have:(O'++X).take O'.length=O':=by simp
 rw [this,vA fun c hc=>vA fun d hd=>yN (hO c hc d hd)]
theorem Hn:∀ (n:Nat) (cs:List Nat),cs.length=n->(∀ c∈cs,sgn c=true)->cs∈terms n
 | 0,cs,h,_=>by
  have:cs=[]:=dg.mp h
  subst this;simp [terms]
 | n+1,cs,h,hs=>by
  have qS:cs≠[]:=by intro e;subst e;simp at h
  obtain ⟨t,c,rfl⟩:∃ t c,cs=t++[c]:=⟨_,_,(List.dropLast_concat_getLast qS).symm⟩
  have ht:=Hn n t (by simpa using h) fun c hc=>hs c (cK _ hc)
  unfold terms
  rw [eN]
  refine ⟨t,ht,?_⟩
  have hl:=hs c (by simp)
  unfold sgn at hl
  simp only [fS,beq_iff_eq] at hl
  rcases hl with (z|z)|z<;>rw [z]<;>simp
theorem UW:∀ (cs:List Nat),1<=cs.length->cs.length<=4->tA σ O=.ok [.lst (cs.map fun c=>.str [c])] O'->zQ (dC (.str [])) tA σ O=.ok (.str cs) O'
 | [],h,_,_=>by simp at h
 | [a],_,_,h=>by show ((tA σ O).bnd _)=_;rw [h];rfl
 | [a,b],_,_,h=>by show ((tA σ O).bnd _)=_;rw [h];rfl
 | [a,b,c],_,_,h=>by show ((tA σ O).bnd _)=_;rw [h];rfl
 | [a,b,c,d],_,_,h=>by show ((tA σ O).bnd _)=_;rw [h];rfl
 | _::_::_::_::_::_,_,h,_=>by simp at h
theorem L5:∀ (vs:List D),(∀ v∈vs,∃ c,v=D.str [c]/\sgn c=true)->∃ cs:List Nat,vs=cs.map (fun c=>D.str [c])/\∀ c∈cs,sgn c=true
 | [],_=>⟨[],rfl,by simp⟩
 | v::vs,h=>by
  obtain ⟨c,rfl,hc⟩:=h v aI
  obtain ⟨cs,rfl,s_⟩:=L5 vs fun w hw=>h w (aq _ hw)
  exact ⟨c::cs,rfl,fun x hx=>(aw.mp hx).elim (fun e=>by rw [e];exact hc) (s_ x)⟩
theorem SV {σ:Sg} {O:Ow} {t:DE} {n:Nat} (n4:n<=4) (h:t σ O=.ok (.int n) O):e_ (fI zP) (dC (.int 1)) t σ O=.ok (.int ((2 ^ n:Nat):Int)) O:=by
 refine (qm rfl h).trans ?_
 have:n=0\/n=1\/n=2\/n=3\/n=4:=by omega
 rcases this with rfl|rfl|rfl|rfl|rfl<;>rfl
theorem GQ (h:∀ d∈ds,tT n d=true):frz O n (f+2) (.tup ds)=some (.tup ds):=by
 show (o6 (frz O n (f+1)) ds).map D.tup=_
 rw [vA fun d hd=>yN (h d hd)];rfl
theorem WR (h:vK d) (n:Nat):tT n d=true:=by rcases h with rfl|rfl|rfl<;>rfl
theorem Hi (h:qI O x=some xs):∃ src,zev x=some src/\(∀ i,src.get O i=xs[i]?)/\src.size O=xs.length:=by
 cases x with
 | lst ds=>cases h;exact ⟨.val xs,rfl,fun _=>rfl,rfl⟩
 | own k=>
  have h:O[k]?=some xs:=h
  refine ⟨.own k,rfl,fun i=>?_,?_⟩
  ·show (match O[k]? with|some ds=>ds[i]?|none=>none)=_
   rw [h]
  ·show (match O[k]? with|some ds=>ds.length|none=>0)=_
   rw [h]
 | _=>cases h
theorem Ur (h:qI O x=some xs):qa O [x]=.ok (.int xs.length) O:=by
 show (match qI O x with|some ds=>R.ok (D.int ds.length) O|none=>_)=_
 rw [h]
structure Sq (O:Ow) (x:D) (xs:List D) (kd:String):Prop where
 zk:∃ src,xI x=some src/\(∀ i,src.get O i=xs[i]?)/\src.size O=xs.length
 ln:qa O [x]=.ok (.int xs.length) O
 kind:tw x=kd
theorem VL {α:Type} {it:DI} {g:Tg} {body:DS} {σ:Sg} {O0 O:Ow} {src:Src} {l:List α} {inj:α->D} (hi:it σ O0=.ok src O) (o_:src.size O=l.length) (I:Nat->Sg->Ow->Prop)
  (h:∀ (k:Nat) a σ O,l[k]?=some a->I k σ O->src.get O k=some (inj a)/\∃ pI σ' O',g.put (inj a) σ=some pI/\body pI O=.nx σ' O'/\I (k+1) σ' O') (su:∀ σ O,I l.length σ O->src.get O l.length=none) (h0:I 0 σ O):
  ∃ σ' O',r6 it g body σ O0=.nx σ' O'/\I l.length σ' O':=by
 have main:∀ (f i:Nat) (σ:Sg) (O:Ow),I i σ O->l.length<=i+f->i<=l.length->∃ σ' O',r8 src (fun d σ O=>match g.put d σ with|some σ'=>body σ' O|none=>.bad) f i σ O=.nx σ' O'/\I l.length σ' O':=by
  intro f
  induction f with
  | zero=>
   intro i σ O hI h1 h2
   have:i=l.length:=by omega
   subst this
   unfold r8
   rw [su σ O hI]
   exact ⟨σ,O,rfl,hI⟩
  | succ f ih=>
   intro i σ O hI h1 h2
   by_cases Pp:i=l.length
   ·subst Pp
    unfold r8
    rw [su σ O hI]
    exact ⟨σ,O,rfl,hI⟩
   ·have pF:i<l.length:=by omega
    obtain ⟨e1,pI,σ',O',e2,e3,e4⟩:=h i l[i] σ O (au pF) hI
    unfold r8
    rw [e1]
    dsimp only
    rw [e2]
    dsimp only
    rw [e3]
    exact ih (i+1) σ' O' e4 (by omega) (by omega)
 obtain ⟨σ',O',l1,l2⟩:=main (src.size O) 0 σ O h0 (by omega) (cz _)
 exact ⟨σ',O',(GN hi).trans l1,l2⟩
theorem Ww (hi:σ[i]?=some (some (.own k))) (ht:t σ O=.ok y O1) (hy:qI O1 y=some es) (hk:O1[k]?=some ds) (hl:ds.length+es.length<=100000):
  rm (yr (a_ i) (b_ t c_)) σ O=.nx σ (O1.set k (ds++es)):=by
 refine GS (x:=.non) ?_
 unfold yr a_
 rw [hi]
 show ((b_ t c_ σ O).bnd _)=_
 rw [o3 ht]
 show (match [y],O1[k]? with|[y],some ds=>(match qI O1 y with|some es=>if ds.length+es.length<=100000 then R.ok D.non (O1.set k (ds++es)) else R.bad|none=>R.bad)|_,_=>R.bad)=_
 rw [hk]
 dsimp only
 rw [hy]
 dsimp only
 rw [if_pos hl]
theorem BF (hi:σ[i]?=some (some (.own k))) (ht:t σ O=.ok y O1) (hk:O1[k]?=some ds) (hl:ds.length<100000):
  rm (t7 (a_ i) (b_ t c_)) σ O=.nx σ (O1.set k (ds++[y])):=by
 refine GS (x:=.non) ?_
 unfold t7 a_
 rw [hi]
 show ((b_ t c_ σ O).bnd _)=_
 rw [o3 ht]
 show (match [y],O1[k]? with|[y],some ds=>if ds.length<100000 then R.ok D.non (O1.set k (ds++[y])) else R.bad|_,_=>R.bad)=_
 rw [hk]
 dsimp only
 rw [if_pos hl]
theorem BH:(O++[x]).set O.length y=O++[y]:=by
 rw [gd _ _ (ay _),gL];rfl
theorem x9:(O++[x])[O.length]?=some x:=by simp
theorem TB (h:t σ O=.ok x O1) (hs:zev x=some src):pD t σ O=.ok src O1:=by
 unfold pD
 rw [h]
 cases x with
 | lst ds=>cases hs;rfl
 | own k=>cases hs;rfl
 | _=>cases hs
theorem G_ (h:qI O x=some xs):qI (O++X) x=some xs:=by
 cases x with
 | lst ds=>exact h
 | own k=>
  have h:O[k]?=some xs:=h
  show (O++X)[k]?=some xs
  rw [aK (al.mp h).1];exact h
 | _=>cases h
theorem nR.more (h:nR O m s b):nR (O++X) m s b:=⟨by rw [aK h.len];exact h.at_,h.nn,h.lt⟩
theorem nR.flat (h:qL O):qL (O++[[.int s,.bl b]]):=GZ h fun d hd=>by
 simp only [aw,aR,or_false] at hd
 rcases hd with rfl|rfl<;>rfl
def wY (t:List Nat):List (List Nat):=[t++[45],t++[48],t++[49]]
theorem N7 {n:Nat} (h4:n<=4) {O:Ow} (hO:qL O):AB [.int n] O=.ok (.lst ((terms n).map .str)) O:=by
 have few:∀ i,i<=4->(terms i).length<=81:=fun i hi=>by
  have:i=0\/i=1\/i=2\/i=3\/i=4:=by omega
  rcases this with rfl|rfl|rfl|rfl|rfl<;>decide
 have Ig:∀ i,i<=4->∀ t∈terms i,t.length<=4:=fun i hi t ht=>by
  have:i=0\/i=1\/i=2\/i=3\/i=4:=by omega
  rcases this with rfl|rfl|rfl|rfl|rfl
  ·simp [terms] at ht;simp [ht]
  ·rw [sX (by decide) (by decide) ht];decide
  ·rw [sX (by decide) (by decide) ht];decide
  ·rw [sX (by decide) (by decide) ht];decide
  ·rw [sX (by decide) (by decide) ht];decide
 let N:Option D:=some (.int n)
 let In:Ow->D->List D->Prop:=fun X d xs=>d=.lst xs \/ ∃ k,d=.own (O.length+k)/\X[k]?=some xs
 have JL:∀ {X d xs},In X d xs->qI (O++X) d=some xs:=fun {X d xs} h=>by
  rcases h with rfl|⟨k,rfl,h⟩
  ·rfl
  ·show (O++X)[O.length+k]?=_
   rw [a5 (by omega),bU];exact h
 show t5 O.length (fin (HD [N,none,none,none,none] O))=_
 unfold HD
 rw [sh (σ':=[N,some (.lst [.str []]),none,none,none]) (O1:=O) (by rfl)]
 obtain ⟨σ',O',l1,d,y2,y3,y4,X,rfl,rfl,hd⟩:=xR (i:=2) (O:=O) (l:=bd n) (body:=(m_ (oX 3 (ux c_)) (m_ (r6 (pD (a_ 1)) (.one 4) (rm (yr (a_ 3) (b_ (pT (b_ (e_ qB (a_ 4) (dC (.str [45]))) (b_ (e_ qB (a_ 4) (dC (.str [48]))) (b_ (e_ qB (a_ 4) (dC (.str [49]))) c_)))) c_)))) (oX 1 (a_ 3)))))
  (ya (σ:=[N,some (.lst [.str []]),none,none,none]) (O:=O) (o3 (t:=a_ 0) rfl) (by omega)) (fun i σ O'=>∃ d y2 y3 y4 X,σ=[N,some d,y2,y3,y4]/\O'=O++X/\In X d ((terms i).map .str)) (fun i a σ O' ha hI=>by
   obtain ⟨d,y2,y3,y4,X,rfl,rfl,hd⟩:=hI
   have tH:i<n:=by
    have:=(al.mp ha).1
    simpa using this
   have Pq:i<=4:=by omega
   show ∃ σ' O',m_ _ _ [N,some d,some (.int a),y3,y4] (O++X)=_/\_
   rw [sh (σ':=[N,some d,some (.int a),some (.own (O++X).length),y4]) (O1:=O++X++[[]]) (by rfl)]
   obtain ⟨src,s1,s2,s3⟩:=Hi (G_ (X:=[[]]) (JL hd))
   obtain ⟨σ',O',l1,y4',rfl,rfl⟩:=VL (α:=List Nat) (g:=.one 4) (l:=terms i) (inj:=.str) (body:=(rm (yr (a_ 3) (b_ (pT (b_ (e_ qB (a_ 4) (dC (.str [45]))) (b_ (e_ qB (a_ 4) (dC (.str [48]))) (b_ (e_ qB (a_ 4) (dC (.str [49]))) c_)))) c_))))
    (TB (σ:=[N,some d,some (.int a),some (.own (O++X).length),y4]) (O:=O++X++[[]]) (t:=a_ 1) rfl s1) (by rw [s3];simp)
    (fun j σ O'=>∃ y4,σ=[N,some d,some (.int a),some (.own (O++X).length),y4]/\O'=O++X++[(((terms i).take j).flatMap wY).map .str]) (fun j t σ O' ht hI=>by
     obtain ⟨y4,rfl,rfl⟩:=hI
     have hj:=(al.mp ht).1
     obtain ⟨HQ,Cm,HU,s3'⟩:=Hi (G_ (X:=[(((terms i).take j).flatMap wY).map .str]) (JL hd))
     rw [s1] at Cm;cases Cm
     refine ⟨by rw [HU,bh,ht];rfl,[N,some d,some (.int a),some (.own (O++X).length),some (.str t)],_,_,rfl,Ww (y:=.lst ((wY t).map .str)) (ds:=(((terms i).take j).flatMap wY).map .str) (es:=(wY t).map .str) rfl ?_ rfl x9 ?_,_,rfl,?_⟩
     ·have hl:=Ig i Pq t (aC ht)
      have fa:∀ c OO,qB OO (.str t) (.str [c])=.ok (.str (t++[c])) OO:=fun c OO=>by
       match t,hl with
       | [],_=>rfl
       | [_],_=>rfl
       | [_,_],_=>rfl
       | [_,_,_],_=>rfl
       | [_,_,_,_],_=>rfl
      simp only [m_,oX,pj,oS,rm,pC,a_,dC,b_,c_,j_,oU,e_,oZ,pO,rn,JZ,R.bnd,R.bnS,fin,List.getElem?_cons_zero,List.getElem?_cons_succ,lS,List.set_cons_succ,bv,gz,jR,Nat.reduceAdd,Nat.reduceLeDiff,Nat.reduceLT,if_true,if_false,nt,Bool.not_false,ef,ite_true,ite_false,pT,fa,wY,cn,iG]
     ·have h1:=few i Pq
      have h2:∀ l:List (List Nat),(l.flatMap wY).length=3*l.length:=fun l=>by
       induction l with
       | nil=>rfl
       | cons x l ih=>rw [cI,ar,ih,bv];show 3+_=_;omega
      rw [aM,h2,aM]
      have h3:=lB j (terms i)
      show 3*((terms i).take j).length+3<=_
      omega
     ·rw [BH,<- dW]
      have:(terms i).take (j+1)=(terms i).take j++[t]:=by
       rw [fH,ht];rfl
      rw [this,iS]
      simp) (fun σ O' hI=>by
     obtain ⟨y4,rfl,rfl⟩:=hI
     obtain ⟨HQ,Cm,HU,s3'⟩:=Hi (G_ (X:=[(((terms i).take (terms i).length).flatMap wY).map .str]) (JL hd))
     rw [s1] at Cm;cases Cm
     rw [HU];simp) ⟨y4,rfl,by simp⟩
   rw [sh l1]
   refine ⟨_,_,rfl,.own (O++X).length,_,_,_,X++[(((terms i).take (terms i).length).flatMap wY).map .str],rfl,by simp,.inr ⟨X.length,by simp,?_⟩⟩
   rw [x9,dM];rfl) ⟨_,_,_,_,[],rfl,by simp,.inl rfl⟩
 rw [sh l1,qQ (x:=d) rfl]
 rw [fw] at hd
 show t5 O.length (.ok d (O++X))=_
 refine Hd hO X ?_
 rcases hd with rfl|⟨k,rfl,h⟩
 ·show (o6 (frz (O++X) O.length 7) ((terms n).map D.str)).map D.lst=_
  rw [vA fun d hd=>by obtain ⟨q,_,rfl⟩:=bb.mp hd;exact yN rfl];rfl
 ·unfold frz
  dsimp only
  rw [if_neg (by omega),a5 (by omega),bU,h]
  dsimp only
  rw [vA fun d hd=>by obtain ⟨q,_,rfl⟩:=bb.mp hd;exact yN rfl];rfl
theorem Z6 (O:Ow):(oD.map fun q=>uA [.str q.1,.int (q.2:Nat)] O)=oD.map fun q=>R.ok (.bl ((qv q.1).contains q.2)) O:=by kernel_rfl
theorem EU (h:cs∈n8) (hp:p<2 ^ cs.length) (O:Ow):uA [.str cs,.int (p:Nat)] O=.ok (.bl ((qv cs).contains p)) O:=cW.mp (Z6 O) _ (MR h hp)
theorem GU (h1:c σ O=.ok a O) (h2:a=true->d σ O=.ok b O):sC c d σ O=.ok (a&&b) O:=by
 show ((c σ O).bnd _)=_
 rw [h1]
 cases a with
 | true=>exact h2 rfl
 | false=>rfl
theorem Oc (hf:Fn n f) (h:cs∈terms n) (O:Ow):Ay [.tup f,.str cs] O=.ok (.bl (uw f cs)) O:=by
 have hA:=vY hf.n1 hf.n4 h
 have hl:=sX hf.n1 hf.n4 h
 have A2:=yP hf.n4
 have AY:=hf.len
 show fin (ES [some (.tup f),some (.str cs)] O)=_
 unfold ES
 rw [qQ ((qm (vU (l:=bd f.length) (p:=fun p=>vF (f.getD p .non)&&(qv cs).contains p) (e:=fun (p:Nat)=>D.int (p:Int)) (τ:=fun (p:Nat)=>[some (.tup f),some (.str cs),some (.int (p:Int))]) (ya (o3 ((vX (o3 (t:=a_ 0) rfl)).trans rfl)) (by omega)) (by simp;omega) (fun _=>rfl) (fun q hq=>by
   have hq:=bK.mp hq
   refine GU (ra ((qm ((qm rfl rfl).trans (GB (i:=q) hq)) rfl).trans ((eq0 O (hf.ans _ (cr hq))).trans (by rw [Bv hq])))) fun _=>q_ ((z_ (pE rfl rfl) rfl).trans (EU hA (by rw [hl,<- AY];exact hq) O))) (fun _ _ _=>rfl)) rfl).trans (by
  have:=R6 O (((bd f.length).filter fun p=>vF (f.getD p .non)&&(qv cs).contains p).map fun (p:Nat)=>(p:Int))
  rw [cO] at this
  exact this))]
 show R.ok (D.bl _) O=_
 congr 2
 unfold uw
 rw [dS,mH,List.map_eq_nil_iff,kr,aF]
 constructor
 ·intro h p hp
  have pF:p<f.length:=by rw [AY,<- hl];exact KS hA hp
  have:=h p (bK.mpr pF)
  simp only [a6,cm,not_and] at this
  cases hz:vF (f.getD p .non) with
  | true=>exact absurd hp (this hz)
  | false=>rfl
 ·intro h p hp hq
  simp only [a6,cm] at hq
  have:=h p hq.2
  rw [hq.1] at this
  cases this
theorem ZY:(n8.all fun cs=>cs.all sgn)=true:=by decide +kernel
theorem EG (h1:1<=n) (h4:n<=4) (h:cs∈terms n):∀ c∈cs,sgn c=true:=aF.mp (aF.mp ZY cs (vY h1 h4 h))
theorem UY (O:Ow) (h:sgn c=true):oQ qg O (.str [c]) (.str [45])=.ok (.bl (c !=45)) O:=by
 unfold sgn at h
 simp only [fS,beq_iff_eq] at h
 rcases h with (rfl|rfl)|rfl<;>kernel_rfl
theorem M0 {cs:List Nat} {k:Nat} (h:k<cs.length):cs.getD k 0=cs[k]:=by rw [aS,au h];rfl
theorem Te (O:Ow) (l:List Nat):oQ qg O (.lst (rG l)) (.lst [])=.ok (.bl (!l.isEmpty)) O:=
 (xX O (b:=l.isEmpty) (GG 7 l) (y:=[]) rfl (by cases l<;>simp)).2
theorem Ux (O:Ow) (l:List Nat):oQ qp O (.lst (rG l)) (.lst [])=.ok (.bl l.isEmpty) O:=
 (xX O (b:=l.isEmpty) (GG 7 l) (y:=[]) rfl (by cases l<;>simp)).1
theorem Xu:(n8.all fun cs=>cs.all fun c=>decide (c<1114112))=true:=by decide +kernel
theorem GA (h1:1<=n) (h4:n<=4) (h:cs∈terms n):pl k (.str cs)=true:=by
 have:=aF.mp Xu cs (vY h1 h4 h)
 cases k<;>exact this
theorem BE {n k:Nat} (h1:1<=n) (h4:n<=4) {l:List (List Nat)} (h:∀ cs∈l,cs∈terms n):(l.map D.str).all (pl k)=true:=aF.mpr fun d hd=>by
 obtain ⟨cs,hc,rfl⟩:=bb.mp hd
 exact GA h1 h4 (h cs hc)
theorem Vk (O:Ow) (h1:1<=n) (h4:n<=4) (ha:a∈terms n) (hb:b∈terms n):oQ qg O (.str a) (.str b)=.ok (.bl (decide (a≠b))) O:=by
 have:=(Ko O (b:=decide (a=b)) (GA (k:=8) h1 h4 ha) (GA h1 h4 hb) (by simp)).2
 rw [this]
 congr 2
 by_cases h:a=b<;>simp [h]
theorem Wk:(O++([x]++X))[O.length]?=some x:=by
 rw [a5 (ay _),gL];rfl
theorem Ht {α:Type} (p:α->Bool) {l:List α} {j:Nat} {x:α} (h:l[j]?=some x):(l.take (j+1)).filter p=(l.take j).filter p++(if p x=true then [x] else []):=by
 rw [fH,h,lW]
 congr 1
 show List.filter p [x]=_
 rw [dI];split<;>rfl
theorem EF {O:Ow} {m:Nat} {s:Int} {b:Bool} (h:nR (O.set m [.int s,.bl b]) m s b) (X:Ow) {k:Nat} (k1:1<=k) (k2:k<=1000):
  ∃ (r:Nat) (s':Int),r<k/\q0 [.own m,.int k] (O.set m [.int s,.bl b]++X)=.ok (.int r) (O.set m [.int s',.bl b]++X)/\nR (O.set m [.int s',.bl b]) m s' b:=by
 obtain ⟨r,s',r1,r2,r3⟩:=w8 (h.more (X:=X)) k1 k2
 rw [List.set_append_left _ _ h.len,d6] at r2 r3
 refine ⟨r,s',r1,r2,?_,r3.nn,r3.lt⟩
 have hl:m<(O.set m [.int s',.bl b]).length:=by have:=h.len;rw [cB] at this ⊢;exact this
 have:=r3.at_
 rwa [aK hl] at this
theorem Ei (O:Ow) (i j:Int):tY O (.int i) (.int j)=.ok (.bl (decide (i<j))) O:=rfl
theorem GJ (O:Ow) (q:Bool):wZ O [.bl q]=.ok (.int (if q=true then 1 else 0)) O:=by cases q<;>rfl
theorem WE (O:Ow) {r:Nat} (h:r<3):∃ i:Int,pf O (.lst [.int 2,.int 4,.int 6]) (.int r)=.ok (.int i) O:=by
 have:r=0\/r=1\/r=2:=by omega
 rcases this with rfl|rfl|rfl
 ·exact ⟨2,rfl⟩
 ·exact ⟨4,rfl⟩
 ·exact ⟨6,rfl⟩
theorem Y0 {O:Ow} (hO:qL O) {m:Nat} {s:Int} {b:Bool} (h:nR O m s b) {n:Nat} (n1:1<=n) (n4:n<=4) (fr:Bool):
  ∃ f s',Fn n f/\B2 [.own m,.int n,.bl fr] O=.ok (.tup f) (O.set m [.int s',.bl b])/\nR (O.set m [.int s',.bl b]) m s' b:=by
 have hp:=yP n4
 obtain ⟨r,s1,r1,r2,h1⟩:=w8 h (k:=3) (by decide) (by decide)
 obtain ⟨w,s2,w1,w2,h2⟩:=w8 h1 (k:=3) (by decide) (by decide)
 rw [d6] at w2 h2
 obtain ⟨i,hi⟩:=WE (O.set m [.int s1,.bl b]) r1
 obtain ⟨z,hz⟩:∃ z:Int,e_ (fI sL) (j_ 2 q0 (b_ (a_ 0) (b_ (dC (.int 3)) c_))) (oU wZ (b_ (a_ 2) c_)) [some (.own m),some (.int n),some (.bl fr),some (.int i),none,none,none,none] (O.set m [.int s1,.bl b])=.ok (.int z) (O.set m [.int s2,.bl b]):=by
  refine ⟨_,pP (o5 (pE rfl rfl) w2) (sE (o3 rfl) (GJ _ fr)) (Ak (by omega) (by omega))⟩
 let A:Option D:=some (.own m)
 let k:=O.length
 have hlen:∀ s',(O.set m [D.int s',D.bl b]).length=O.length:=fun s'=>cB
 obtain ⟨σ',O',l1,fs,s3,y6,y7,rfl,rfl,h3,f1,f2⟩:=xR (i:=6) (l:=bd (2 ^ n)) (inj:=fun (i:Nat)=>D.int (i:Int)) (O:=O.set m [.int s2,.bl b]++[[]]) (σ:=[A,some (.int n),some (.bl fr),some (.int i),some (.int z),some (.own O.length),none,none]) (O0:=O.set m [.int s2,.bl b]++[[]]) (it:=rS (b_ (e_ (fI zP) (dC (.int 1)) (a_ 1)) c_)) (body:=(m_ (oX 7 (oU wZ (b_ (e_ tY (j_ 2 q0 (b_ (a_ 0) (b_ (dC (.int 8)) c_))) (a_ 3)) c_))) (m_ (pj (oZ (e_ tY (j_ 2 q0 (b_ (a_ 0) (b_ (dC (.int 5)) c_))) (a_ 4))) (oX 7 (dC .non)) pC) (rm (t7 (a_ 5) (b_ (a_ 7) c_))))))
  (ya (o3 (SV n4 rfl)) (by omega)) (fun j σ O'=>∃ fs s' y6 y7,σ=[A,some (.int n),some (.bl fr),some (.int i),some (.int z),some (.own O.length),y6,y7]/\O'=O.set m [.int s',.bl b]++[fs]/\nR (O.set m [.int s',.bl b]) m s' b/\fs.length=j/\∀ d∈fs,vK d) (fun j a σ O' ha hI=>by
   obtain ⟨fs,s',y6,y7,rfl,rfl,hs,f1,f2⟩:=hI
   have hj:j<2 ^ n:=by have:=(al.mp ha).1;simpa using this
   obtain ⟨q1,t1,_,e1,g1⟩:=EF hs [fs] (k:=8) (by decide) (by decide)
   obtain ⟨q2,t2,_,e2,g2⟩:=EF g1 [fs] (k:=5) (by decide) (by decide)
   have zE:vK (.int (if (decide ((q1:Int)<i))=true then 1 else 0)):=by
    by_cases h:(q1:Int)<i
    ·exact .inr (.inl (by simp [h]))
    ·exact .inl (by simp [h])
   have key:∀ v,vK v->rm (t7 (a_ 5) (b_ (a_ 7) c_)) [A,some (.int n),some (.bl fr),some (.int i),some (.int z),some (.own O.length),some (.int a),some v] (O.set m [.int t2,.bl b]++[fs])=.nx [A,some (.int n),some (.bl fr),some (.int i),some (.int z),some (.own O.length),some (.int a),some v] (O.set m [.int t2,.bl b]++[fs++[v]]):=fun v _=>by
    rw [BF (ds:=fs) (t:=a_ 7) rfl rfl (by rw [<- hlen t2];exact x9) (by omega)]
    congr 1
    rw [<- hlen t2];exact BH
   have rh:∀ v,vK v->(fs++[v]).length=j+1/\∀ d∈fs++[v],vK d:=fun v hv=>⟨by simp [f1],fun d hd=>by
    rcases aN.mp hd with hd|hd
    ·exact f2 d hd
    ·have:d=v:=by simpa using hd
     rw [this];exact hv⟩
   by_cases hq:(q2:Int)<z
   ·refine ⟨_,_,qC (x:=.int (if (decide ((q1:Int)<i))=true then 1 else 0)) (O1:=O.set m [.int t1,.bl b]++[fs]) (sE (o3 (pP (o5 (pE rfl rfl) e1) rfl (Ei _ _ _))) (GJ _ _)) (vW (σ':=[A,some (.int n),some (.bl fr),some (.int i),some (.int z),some (.own O.length),some (.int a),some .non]) (O1:=O.set m [.int t2,.bl b]++[fs]) ?_ (key .non (.inr (.inr rfl)))),fs++[.non],t2,_,_,rfl,rfl,g2,rh _ (.inr (.inr rfl))⟩
    rw [rV (b:=true) (ra ((pP (o5 (pE rfl rfl) e2) rfl (Ei _ _ _)).trans (by rw [decide_eq_true hq])))];rfl
   ·refine ⟨_,_,qC (x:=.int (if (decide ((q1:Int)<i))=true then 1 else 0)) (O1:=O.set m [.int t1,.bl b]++[fs]) (sE (o3 (pP (o5 (pE rfl rfl) e1) rfl (Ei _ _ _))) (GJ _ _)) (vv (O1:=O.set m [.int t2,.bl b]++[fs]) (ra ((pP (o5 (pE rfl rfl) e2) rfl (Ei _ _ _)).trans (by rw [decide_eq_false hq]))) (key _ zE)),_,t2,_,_,rfl,rfl,g2,rh _ zE⟩) ⟨[],s2,_,_,rfl,rfl,h2,rfl,by simp⟩
 rw [fw] at f1
 refine ⟨fs,s3,⟨n1,n4,f1,f2⟩,?_,h3⟩
 show t5 O.length (fin (EZ [some (.own m),some (.int n),some (.bl fr),none,none,none,none,none] O))=_
 have hB:EZ [some (.own m),some (.int n),some (.bl fr),none,none,none,none,none] O=.rt (.tup fs) (O.set m [.int s3,.bl b]++[fs]):=by
  unfold EZ
  refine qC (x:=.int i) (O1:=O.set m [.int s1,.bl b]) (pP (x:=.lst [.int 2,.int 4,.int 6]) rfl (o5 (pE rfl rfl) r2) hi) (qC hz (qC (x:=.own O.length) (O1:=O.set m [.int s2,.bl b]++[[]]) ?_ (vW l1 (qQ (sE (o3 rfl) ?_)))))
  ·show R.ok (D.own (O.set m [D.int s2,D.bl b]).length) _=_
   rw [hlen]
  ·show (match (O.set m [.int s3,.bl b]++[fs])[O.length]? with|some ds=>R.ok (D.tup ds) _|none=>_)=_
   rw [<- hlen s3,x9]
 rw [sD hB]
 have:=MW (x8 hO m s3 b) [fs] (d:=.tup fs) (d':=.tup fs) (GQ fun d hd=>WR (f2 d hd) _)
 rw [hlen] at this
 exact this
theorem Mc {ext:Nat} {it0:DI} {i:Nat} {te:DE} {σ:Sg} {O O0:Ow} {ds:List D} {m:Nat} {s:Int} {b:Bool} {P:D->Prop} {o:Bool} (rz:nR O m s b) (hi:it0 σ O0=.ok (.val ds) O) (hl:ds.length<50000)
  (he:∀ d∈ds,∀ s',nR (O.set m [.int s',.bl b]) m s' b->∃ v qf,te ((pz (pz (σ++ao ext none) [i]) [i]).set i (some d)) (O.set m [.int s',.bl b])=.ok v (O.set m [.int qf,.bl b])/\nR (O.set m [.int qf,.bl b]) m qf b/\P v):
  ∃ vs s',pG o ext it0 (.one i) [] [] te σ O0=uq o (.ok vs (O.set m [.int s',.bl b]))/\nR (O.set m [.int s',.bl b]) m s' b/\vs.length=ds.length/\∀ v∈vs,P v:=by
 obtain ⟨acc,O',e,s',rfl,h1,h2,h3⟩:=M9 (ds:=ds) (step:=wW ⟨it0,.one i,[]⟩ [] te (pz (σ++ao ext none) (pS [⟨it0,.one i,[]⟩])))
  (fun j O' acc=>∃ s',O'=O.set m [.int s',.bl b]/\nR O' m s' b/\acc.length=j/\∀ v∈acc,P v) (fun j O' acc d hI hd=>by
   obtain ⟨s',rfl,h1,h2,h3⟩:=hI
   have hj:=(al.mp hd).1
   obtain ⟨v,qf,q1,q2,q3⟩:=he d (aC hd) s' h1
   refine ⟨acc++[v],_,?_,qf,rfl,q2,by simp [h2],fun w hw=>?_⟩
   ·show sO [] te ((pz (pz (σ++ao ext none) [i]) [i]).set i (some d)) (O.set m [.int s',.bl b]) acc=_
    unfold sO
    rw [q1]
    show (if acc.length<100000 then _ else _)=_
    rw [if_pos (by omega)]
   ·rcases aN.mp hw with hw|hw
    ·exact h3 w hw
    ·have:w=v:=by simpa using hw
     rw [this];exact q3) ds.length 0 O [] ⟨s,(G2 rz.at_).symm,rz,rfl,by simp⟩ (by omega) (cz _)
 refine ⟨acc,s',?_,h1,h2,h3⟩
 unfold pG xY
 rw [hi]
 show uq o (wJ (qc (.val ds) _ ds.length 0 O []))=_
 rw [e];rfl
theorem Wp {ns:List Int} (hn:ns.length<=63) (σ:Sg) (c:Nat) (hc:c<1000) (h0:a_ 0 σ []=.ok (.lst (ns.map .int)) []):∃ m:Nat,m<100000/\oU zW (b_ (dC (.int 1)) (b_ (oU zV (b_ (oU qa (b_ (a_ 0) c_)) (b_ (dC (.int (c:Nat))) c_))) c_)) σ []=.ok (.int (m:Nat)) []:=by
 have h1:oU zV (b_ (oU qa (b_ (a_ 0) c_)) (b_ (dC (.int (c:Nat))) c_)) σ []=.ok (.int (if (c:Int)<((ns.map D.int).length:Nat) then (c:Int) else ((ns.map D.int).length:Nat))) []:=(vX (pE ((vX (o3 h0)).trans rfl) rfl)).trans rfl
 have h2:=(vX (f:=zW) (pE (t:=dC (.int 1)) rfl h1))
 refine ⟨(if (if (c:Int)<((ns.map D.int).length:Nat) then (c:Int) else ((ns.map D.int).length:Nat))>1 then (if (c:Int)<((ns.map D.int).length:Nat) then (c:Int) else ((ns.map D.int).length:Nat)) else 1).toNat,?_,h2.trans ?_⟩
 ·rw [aM];split<;>split<;>omega
 ·show R.ok (D.int (if (if (c:Int)<((ns.map D.int).length:Nat) then (c:Int) else ((ns.map D.int).length:Nat))>1 then (if (c:Int)<((ns.map D.int).length:Nat) then (c:Int) else ((ns.map D.int).length:Nat)) else 1)) []=_
  congr 2
  rw [aM];split<;>split<;>omega
noncomputable def vp (n:Nat) (a b:List Nat):Bool:=(bd n).all fun i=>b.getD i 0==45||b.getD i 0==a.getD i 0
theorem zll (h1:1<=n) (h4:n<=4) (h:cs∈terms n) (hp:p<2 ^ n):p∈qv cs↔KZ cs (Bf n p)=true:=by
 have hl:=sX h1 h4 h
 have:=aF.mp Xq _ (MR (vY h1 h4 h) (by rw [hl];exact hp))
 simp only [a6,beq_iff_eq] at this
 rw [hl] at this
 rw [this.1.1.1];simp
theorem Of {α:Type} (f:Nat->α):((bd n).map f)[i]?=if i<n then some (f i) else none:=by
 rw [bh]
 by_cases h:i<n
 ·rw [lq h,if_pos h];rfl
 ·rw [aZ.mpr (by simpa using h),if_neg h];rfl
theorem G0 (h1:1<=n) (h4:n<=4) (h:cs∈terms n) (hi:i<n):sgn (cs.getD i 0)=true:=by
 have hl:=sX h1 h4 h
 rw [M0 (by omega)]
 exact EG h1 h4 h _ (cr _)
theorem X1 {α β:Type} (l:List α) (e:α->β):(l.filter fun _=>true).map e=l.map e:=by rw [lr.mpr (fun _ _=>rfl)]
theorem Wg (O:Ow) (h:sgn c=true) (h':sgn d=true):oQ qg O (.str [c]) (.str [d])=.ok (.bl (c !=d)) O:=by
 unfold sgn at h h'
 simp only [fS,beq_iff_eq] at h h'
 rcases h with (rfl|rfl)|rfl<;>rcases h' with (rfl|rfl)|rfl<;>kernel_rfl
theorem Tu (h:∀ k,k<n->b.getD k 0=45\/b.getD k 0=a.getD k 0):vp n a b=true:=by
 unfold vp
 rw [aF]
 intro k hk
 have:=h k (bK.mp hk)
 simpa using this
theorem S9 (O:Ow) (ds:List D) (σ:Sg) (hl:ds.length<100000) (h0:a_ 0 σ O=.ok (.tup ds) O):sV (a_ 0) (r9 (dC (.int 1))) sA σ O=.ok (.tup (ds.drop 1)) O:=by
 show ((a_ 0 σ O).bnd _)=_
 rw [h0]
 show (if HT.sIx ds.length 0 (some 1)=0/\HT.sIx ds.length ds.length none=ds.length then R.ok (D.tup ds) O else R.ok (D.tup (uu ds (some 1) none)) O)=_
 have e1:HT.sIx ds.length 0 (some 1)=min 1 ds.length:=HT.sIx_nat ds.length 0 1
 cases ds with
 | nil=>rfl
 | cons d r=>
  have:¬ (HT.sIx (d::r).length 0 (some 1)=0/\HT.sIx (d::r).length (d::r).length none=(d::r).length):=by
   rw [e1];simp
  rw [if_neg this]
  unfold uu
  rw [e1,HT.sIx_none]
  simp
theorem Gn {n:Nat} (h4:n<=4) {cs:List Nat} (hl:cs.length=n) {k:Nat} (hk:k<n) (O:Ow):pf O (.str cs) (.int (k:Int))=.ok (.str [cs.getD k 0]) O:=by
 rw [Uw (by omega) (by omega),M0 (by omega)]
theorem VW (h4:n<=4) (hl:cs.length=n) (h:a_ 0 σ O=.ok (.str cs) O):rS (b_ (oU qa (b_ (a_ 0) c_)) c_) σ O=.ok (.val ((bd n).map fun (i:Nat)=>D.int (i:Int))) O:=
 ya (o3 (sE (o3 h) ((G7 (by omega)).trans (by rw [hl])))) (by omega)
theorem V_ (h:∀ k,k<n->p k=q k):(!((bd n).filter p).isEmpty)=(bd n).any q:=by
 rw [dS,fY,jN]
 constructor
 ·intro hf
  have:((bd n).filter p)≠[]:=fun e=>by rw [e] at hf;cases hf
  obtain ⟨k,hk⟩:=List.exists_mem_of_ne_nil _ this
  obtain ⟨k1,k2⟩:=bw.mp hk
  exact ⟨k,k1,by rw [<- h k (bK.mp k1)];exact k2⟩
 ·rintro ⟨k,k1,k2⟩
  have hm:k∈(bd n).filter p:=bw.mpr ⟨k1,by rw [h k (bK.mp k1)];exact k2⟩
  cases e:(bd n).filter p with
  | nil=>rw [e] at hm;cases hm
  | cons _ _=>rfl
theorem Y7 {n:Nat} (h1:1<=n) (h4:n<=4) {a b:List Nat} (ha:a∈terms n) (hb:b∈terms n) (O:Ow):BY [.str a,.str b] O=.ok (.bl (vp n a b)) O:=by
 have la:=sX h1 h4 ha
 have lb:=sX h1 h4 hb
 show fin (EX [some (.str a),some (.str b)] O)=_
 unfold EX
 refine Ac ((pP ((vU (l:=bd n) (p:=fun k=>b.getD k 0 !=45&&b.getD k 0 !=a.getD k 0) (e:=fun (k:Nat)=>D.int (k:Int)) (τ:=fun (k:Nat)=>[some (.str a),some (.str b),some (.int (k:Int))]) (VW h4 la rfl) (by simp;omega) (fun _=>rfl) (fun k hk=>?_) (fun _ _ _=>rfl)).trans rfl) rfl (Ux O _)).trans ?_)
 ·have hk:=bK.mp hk
  exact Eu (ra (pP (pP rfl rfl (Gn h4 lb hk O)) rfl (UY O (G0 h1 h4 hb hk)))) fun _=>ra (pP (pP rfl rfl (Gn h4 lb hk O)) (pP rfl rfl (Gn h4 la hk O)) (Wg O (G0 h1 h4 hb hk) (G0 h1 h4 ha hk)))
 ·congr 2
  have h:=V_ (n:=n) (p:=fun k=>b.getD k 0 !=45&&b.getD k 0 !=a.getD k 0) (q:=fun k=>!(b.getD k 0==45||b.getD k 0==a.getD k 0)) fun k _=>by simp [bne]
  rw [<- jV (b:=((bd n).filter _).isEmpty),h]
  unfold vp
  rw [List.any_eq_not_all_not]
  simp
theorem GR (O:Ow) {n:Nat} (h1:1<=n) (h4:n<=4) {l:List (List Nat)} (h:∀ cs∈l,cs∈terms n):oQ qp O (.lst (l.map D.str)) (.lst [])=.ok (.bl l.isEmpty) O:=
 (xX O (b:=l.isEmpty) (BE h1 h4 h) (y:=[]) rfl (by cases l<;>simp)).1
theorem LL (O:Ow) {n:Nat} (h1:1<=n) (h4:n<=4) {l:List (List Nat)} (h:∀ cs∈l,cs∈terms n):oQ qg O (.lst (l.map D.str)) (.lst [])=.ok (.bl (!l.isEmpty)) O:=
 (xX O (b:=l.isEmpty) (BE h1 h4 h) (y:=[]) rfl (by cases l<;>simp)).2
theorem Az {α:Type} {l:List α} {p:α->Bool}:(l.filter p).isEmpty=l.all fun x=>!p x:=by
 rw [dS,mH,kr,aF]
 exact forall_congr' fun a=>forall_congr' fun _=>by simp
def yX:D->Bool
 | .int i=>i==1
 | _=>false
theorem eq1 (O:Ow) (h:vK d):oQ qp O d (.int 1)=.ok (.bl (yX d)) O:=by rcases h with rfl|rfl|rfl<;>kernel_rfl
def pW (f:List D):List Nat:=(bd f.length).filter fun p=>yX (f.getD p .non)
theorem Ej (hf:Fn n f) (O:Ow):vB [.tup f] O=.ok (.lst (rG (pW f))) O:=by
 have hl:=hf.len
 have A2:=yP hf.n4
 show fin (EN [some (.tup f)] O)=_
 unfold EN
 refine Ac ((vU (l:=bd f.length) (p:=fun p=>yX (f.getD p .non)) (e:=fun (p:Nat)=>D.int (p:Int)) (τ:=fun (p:Nat)=>[some (.tup f),some (.int (p:Int))]) (ya (o3 (sE (o3 rfl) (MD O f))) (by omega)) (by simp;omega) (fun _=>rfl) (fun p hp=>?_) (fun _ _ _=>rfl)).trans rfl)
 have hp:=bK.mp hp
 refine ra (pP (pP rfl rfl (GB hp)) rfl ?_)
 rw [eq1 O (hf.ans _ (cr _)),Bv hp]
theorem oj:p∈pW f↔p<f.length/\yX (f.getD p .non)=true:=by
 unfold pW
 rw [bw,bK]
noncomputable def Sj (f:List D) (t:List Nat):Bool:=!((pW f).filter fun p=>(qv t).contains p).isEmpty
noncomputable def wy (n:Nat) (f:List D) (t:List Nat):Bool:=((r_ n f).filter fun o=>decide (o≠t)&&vp n t o).isEmpty&&Sj f t
def gr (n:Nat) (f:List D):List (List Nat):=(r_ n f).filter (wy n f)
theorem BR (h:t∈r_ n f):t∈terms n:=(bw.mp h).1
theorem Nm (hf:Fn n f):(r_ n f).length<=81:=aU (bB _ _) (He hf.n1 hf.n4)
theorem Ao (hf:Fn n f):(pW f).length<=16:=by
 have h1:=bB (fun p=>yX (f.getD p .non)) (bd f.length)
 rw [fw] at h1
 have h2:=yP hf.n4
 have h3:=hf.len
 unfold pW
 omega
noncomputable def D4:DS:=(m_ (oX 4 (pG false 1 (pD (a_ 1)) (.one 6) [(sC (oZ (e_ (oQ qg) (a_ 6) (a_ 3))) (pO (j_ 2 BY (b_ (a_ 3) (b_ (a_ 6) c_)))))] [] (a_ 6))) (m_ (oX 5 (pG false 1 (pD (j_ 1 vB (b_ (a_ 0) c_))) (.one 6) [(pO (j_ 2 uA (b_ (a_ 3) (b_ (a_ 6) c_))))] [] (a_ 6))) (pj (sC (oZ (e_ (oQ qp) (a_ 4) (pT c_))) (oZ (e_ (oQ qg) (a_ 5) (pT c_)))) (rm (t7 (a_ 2) (b_ (a_ 3) c_))) pC)))
theorem Xl {n:Nat} {f:List D} (hf:Fn n f) {t:List Nat} (ht:t∈r_ n f) {k:Nat} {O:Ow} {l:List D} (hk:O[k]?=some l) (hl:l.length<1000) {y4 y5:Option D}:
  D4 [some (.tup f),some (.lst ((r_ n f).map .str)),some (.own k),some (.str t),y4,y5] O=.nx [some (.tup f),some (.lst ((r_ n f).map .str)),some (.own k),some (.str t),some (.lst (((r_ n f).filter fun o=>decide (o≠t)&&vp n t o).map .str)),some (.lst (rG ((pW f).filter fun p=>(qv t).contains p)))] (if wy n f t=true then O.set k (l++[.str t]) else O):=by
 have h1:=hf.n1
 have h4:=hf.n4
 have hg:=Nm hf
 have ho:=Ao hf
 have yh:=BR ht
 have pF:=sX h1 h4 yh
 unfold D4
 refine qC (x:=.lst (((r_ n f).filter fun o=>decide (o≠t)&&vp n t o).map .str)) (O1:=O) ((vU (l:=r_ n f) (inj:=D.str) (p:=fun o=>decide (o≠t)&&vp n t o) (e:=D.str) (τ:=fun o=>[some (.tup f),some (.lst ((r_ n f).map .str)),some (.own k),some (.str t),y4,y5,some (.str o)]) (ua rfl) (by omega) (fun _=>rfl) (fun o ho=>Eu (ra (pP rfl rfl (Vk O h1 h4 (BR ho) yh))) fun _=>q_ (o5 (pE rfl rfl) (Y7 h1 h4 yh (BR ho) O))) (fun _ _ _=>rfl)).trans rfl) (qC (x:=.lst (rG ((pW f).filter fun p=>(qv t).contains p))) (O1:=O) ((vU (l:=pW f) (inj:=fun (p:Nat)=>D.int (p:Int)) (p:=fun p=>(qv t).contains p) (e:=fun (p:Nat)=>D.int (p:Int)) (τ:=fun (p:Nat)=>[some (.tup f),some (.lst ((r_ n f).map .str)),some (.own k),some (.str t),some (.lst (((r_ n f).filter fun o=>decide (o≠t)&&vp n t o).map .str)),y5,some (.int (p:Int))]) (ua (o5 (o3 rfl) (Ej hf O))) (by omega) (fun _=>rfl) (fun p hp=>q_ (o5 (pE rfl rfl) (EU (vY h1 h4 yh) (by rw [pF,<- hf.len];exact (oj.mp hp).1) O))) (fun _ _ _=>rfl)).trans rfl) ?_)
 rw [rV (b:=wy n f t) (O1:=O) (Eu (ra (pP rfl rfl (GR O h1 h4 fun c hc=>BR (bw.mp hc).1))) fun _=>ra (pP rfl rfl (Te O _)))]
 cases wy n f t with
 | true=>rw [if_pos rfl,if_pos rfl];exact BF (t:=a_ 3) rfl rfl hk (by omega)
 | false=>rfl
theorem Oa (hf:Fn n f) (hO:qL O):AJ [.tup f] O=.ok (.own O.length) (O++[(gr n f).map .str]):=by
 have h1:=hf.n1
 have h4:=hf.n4
 have hg:=Nm hf
 have qO:=He h1 h4
 let A:Option D:=some (.tup f)
 let S:Option D:=some (.lst ((r_ n f).map .str))
 obtain ⟨σ',O',l1,y3,y4,y5,rfl,rfl⟩:=xR (i:=3) (it:=pD (a_ 1)) (body:=D4) (σ:=[A,S,some (.own O.length),none,none,none]) (O0:=O++[[]]) (O:=O++[[]]) (l:=r_ n f) (inj:=D.str) rfl
  (fun j σ O'=>∃ y3 y4 y5,σ=[A,S,some (.own O.length),y3,y4,y5]/\O'=O++[(((r_ n f).take j).filter (wy n f)).map D.str]) (fun j t σ O' ht hI=>by
   obtain ⟨y3,y4,y5,rfl,rfl⟩:=hI
   have hl:((((r_ n f).take j).filter (wy n f)).map D.str).length<1000:=by
    have h1:=bB (wy n f) ((r_ n f).take j)
    have h2:=fC j (r_ n f)
    rw [aM];omega
   refine ⟨_,_,Xl hf (aC ht) (k:=O.length) x9 hl,_,_,_,rfl,?_⟩
   rw [Ht _ ht]
   split
   ·rw [BH,dW];rfl
   ·rw [bM]) ⟨none,none,none,rfl,by simp⟩
 rw [dM] at l1
 unfold D4 at l1
 show fin (HG [A,none,none,none,none,none] O)=_
 unfold HG
 refine sD (qC (x:=.lst ((r_ n f).map .str)) (O1:=O) ((vU (l:=terms n) (inj:=D.str) (p:=uw f) (e:=D.str) (τ:=fun t=>[A,none,none,some (.str t),none,none]) (ua (o5 (o3 (o5 (o3 rfl) (HI hf O))) (N7 h4 hO))) (by omega) (fun _=>rfl) (fun t ht=>q_ (o5 (pE rfl rfl) (Oc hf ht O))) (fun _ _ _=>rfl)).trans rfl) (qC (x:=.own O.length) (O1:=O++[[]]) rfl (vW (σ':=[A,S,some (.own O.length),y3,y4,y5]) (O1:=O++[(gr n f).map .str]) ?_ (qQ rfl))))
 exact l1
theorem Ew (h:t∈gr n f):t∈terms n:=BR (bw.mp h).1
theorem Wo (h:∀ t∈terms 4,∀ o∈terms 4,q t=true->q o=true->vp 4 t o=true->t=o):((terms 4).filter q).length<=54:=by
 have e:terms 4=(terms 3).flatMap fun t=>[t++[45],t++[48],t++[49]]:=rfl
 have key:∀ l:List (List Nat),(∀ x∈l,x∈terms 3)->((l.flatMap fun t=>[t++[45],t++[48],t++[49]]).filter q).length<=l.length*2:=fun l=>by
  induction l with
  | nil=>intro _;simp
  | cons x r ih=>
   intro hx
   rw [cI,lW,ar,bv,lV]
   have hr:=ih fun y hy=>hx y (aq _ hy)
   have O8:=hx x aI
   have hlen:=sX (n:=3) (by decide) (by decide) O8
   have tH:∀ c,c=45\/c=48\/c=49->x++[c]∈terms 4:=fun c hc=>by
    rw [e,eN]
    refine ⟨x,O8,?_⟩
    rcases hc with rfl|rfl|rfl<;>simp
   have IY:∀ c,vp 4 (x++[c]) (x++[45])=true:=fun c=>Tu fun k hk=>by
    by_cases hk3:k<3
    ·right
     rw [aS,aS,aK (by omega),aK (by omega)]
    ·have:k=3:=by omega
     subst this
     left
     rw [aS,a5 (by omega),hlen];rfl
   have CT:∀ c,c=48\/c=49->q (x++[45])=true->q (x++[c])=false:=fun c hc A1=>by
    cases hq:q (x++[c]) with
    | false=>rfl
    | true=>
     have:=h _ (tH c (by rcases hc with rfl|rfl<;>simp)) _ (tH 45 (by simp)) hq A1 (IY c)
     have h2:[c]=[45]:=List.append_cancel_left this
     rcases hc with rfl|rfl<;>cases h2
   have h2:([x++[45],x++[48],x++[49]].filter q).length<=2:=by
    cases A1:q (x++[45]) with
    | true=>rw [dI,A1,dI,CT 48 (by simp) A1,dI,CT 49 (by simp) A1];simp
    | false=>
     rw [dI,A1,if_neg (by decide)]
     exact bB _ _
   omega
 rw [e]
 exact aU (key (terms 3) fun _ h=>h) (by decide)
noncomputable def OX (f:List D) (l:List (List Nat)):Bool:=(pW f).all fun p=>l.any fun t=>(qv t).contains p
theorem MG {α:Type} {l:List α} {inj:α->D} {i:Nat} {body:DS} {τ:Option D->Sg} {O:Ow} {q:α->Bool} {d:D} (tF:∀ y x,(τ y).set i x=τ x) (hb:∀ a∈l,body (τ (some (inj a))) O=if q a=true then .nx (τ (some (inj a))) O else .rt d O):
  ∀ (f k:Nat) (y:Option D),k<=l.length->l.length<=k+f->∃ y',r8 (.val (l.map inj)) (fun d σ O=>match Tg.put (.one i) d σ with|some σ'=>body σ' O|none=>.bad) f k (τ y) O=if (l.drop k).all q=true then .nx (τ y') O else .rt d O
 | 0,k,y,h1,h2=>by
  have:k=l.length:=by omega
  subst this
  refine ⟨y,?_⟩
  have e:(Src.val (l.map inj)).get O l.length=none:=by simp [Src.get]
  unfold r8
  rw [e];simp
 | f+1,k,y,h1,h2=>by
  by_cases hk:k=l.length
  ·subst hk
   refine ⟨y,?_⟩
   have e:(Src.val (l.map inj)).get O l.length=none:=by simp [Src.get]
   unfold r8
   rw [e];simp
  ·have pF:k<l.length:=by omega
   have e:(Src.val (l.map inj)).get O k=some (inj l[k]):=by
    show (l.map inj)[k]?=_
    rw [bh,au pF];rfl
   obtain ⟨y',ih⟩:=MG tF hb f (k+1) (some (inj l[k])) (by omega) (by omega)
   refine ⟨y',?_⟩
   unfold r8
   rw [e]
   dsimp only
   have e2:Tg.put (.one i) (inj l[k]) (τ y)=some (τ (some (inj l[k]))):=congrArg some (tF y _)
   rw [e2]
   dsimp only
   rw [hb _ (cr pF),er pF,lj]
   cases hq:q l[k] with
   | true=>rw [if_pos rfl,Bool.true_and];exact ih
   | false=>simp
theorem TZ {α:Type} {l:List α} {inj:α->D} {i:Nat} {it:DI} {body:DS} {τ:Option D->Sg} {O:Ow} {q:α->Bool} {d:D} {y:Option D} (hi:it (τ y) O=.ok (.val (l.map inj)) O) (tF:∀ y x,(τ y).set i x=τ x) (hb:∀ a∈l,body (τ (some (inj a))) O=if q a=true then .nx (τ (some (inj a))) O else .rt d O):
  ∃ y',r6 it (.one i) body (τ y) O=if l.all q=true then .nx (τ y') O else .rt d O:=by
 obtain ⟨y',h⟩:=MG tF hb (l.map inj).length 0 y (cz _) (by simp)
 exact ⟨y',(GN hi).trans h⟩
theorem Yw (h:l.Pairwise (· < ·)):qj l=l:=EA (Aq l) h fun x=>yL l
theorem L3 (h:t σ O=.ok [x] O1) (hx:qI O1 x=some (l.map .str)\/x=.tup (l.map .str)) (hl:l.length<1000):yC false t σ O=.ok (.lst ((qj l).map .str)) O1:=by
 unfold yC
 rw [h]
 show (match (match qI O1 x with|some ds=>some ds|none=>xj x) with|some ds=>JT false (.ok ds O1)|none=>.bad)=_
 have e:(match qI O1 x with|some ds=>some ds|none=>xj x)=some (l.map .str):=by
  rcases hx with hx|rfl
  ·rw [hx]
  ·rfl
 rw [e]
 show (match vN (l.map D.str) with|some ss=>if ss.length<1000 then (if false=true then R.ok (D.own _) _ else R.ok (D.lst ((qj ss).map .str)) O1) else .bad|none=>.bad)=_
 rw [DL.strL_map]
 show (if l.length<1000 then _ else _)=_
 rw [if_pos hl];rfl
theorem F7 (h:A.length=k):(A++[x,y])[k]?=some x:=by subst h;simp
theorem Gb (h:A.length=k):(A++[x,y])[k+1]?=some y:=by
 subst h
 rw [a5 (by omega),bU];rfl
theorem Rk (h:A.length=k):(A++[x,y]).set k z=A++[z,y]:=by
 subst h
 rw [gd _ _ (ay _),gL];rfl
theorem Ro (h:A.length=k):(A++[x,y]).set (k+1) z=A++[x,z]:=by
 subst h
 rw [gd _ _ (by omega),bU];rfl
theorem Tf (O:Ow) {n:Nat} (h1:1<=n) (h4:n<=4) {l:List (List Nat)} (h:∀ cs∈l,cs∈terms n) {k:Nat} (hk:O[k]?=some (l.map D.str)):oQ qg O (.own k) (.lst [])=.ok (.bl (!l.isEmpty)) O:=by
 obtain ⟨ps,rX⟩:=BL (f:=pJ O 7) (l:=l.map D.str) fun z hz=>By O 7 z (aF.mp (BE h1 h4 h) z hz)
 unfold oQ py
 have e:pJ O 8 (.own k)=some (.list ps):=by
  show (match O[k]? with|some ds=>(o6 (pJ O 7) ds).map d9|none=>none)=_
  rw [hk];dsimp only;rw [rX];rfl
 rw [e]
 cases l with
 | nil=>cases rX;rfl
 | cons x l=>
  rw [cn] at rX
  unfold o6 at rX
  split at rX
  ·cases rX;rfl
  ·cases rX
theorem Vl (hk:O[k]?=some (l.map .str)) (hn:l.Nodup) (hl:l.length<64):yF O [.own k]=.ok (.lst ((qj l).map .str)) O:=by
 show (match O[k]? with|some ds=>(match vN ds with|some ss=>if ss.Nodup/\ss.length<64 then R.ok (D.lst ((qj ss).map .str)) O else R.bad|none=>R.bad)|none=>R.bad)=_
 rw [hk]
 dsimp only
 rw [DL.strL_map]
 dsimp only
 rw [if_pos ⟨hn,hl⟩]
theorem Nj {α β:Type} (f:α->β):∀ (l:List α) (i:Nat),(l.map f).eraseIdx i=(l.eraseIdx i).map f
 | [],_=>by simp
 | x::l,0=>rfl
 | x::l,i+1=>by
  rw [cn,gW,gW,cn,Nj f l i]
theorem BI {α:Type}:∀ (l:List α) (i:Nat) (h:i<l.length),(l[i]::l.eraseIdx i).Perm l
 | [],_,h=>by simp at h
 | x::l,0,_=>fG _
 | x::l,i+1,h=>by
  rw [gW,List.getElem_cons_succ]
  exact (List.Perm.swap _ _ _).trans ((BI l i (by simpa using h)).cons x)
def A7:List Nat:=[48,49,45,50]
theorem Wd (O:Ow):(A7.map fun c=>uF O (.str [c]) (.str [45,48,49]))=A7.map fun c=>R.ok (.bl (sgn c)) O:=by kernel_rfl
theorem neI (O:Ow) (a b:Int):oQ qg O (.int a) (.int b)=.ok (.bl (a !=b)) O:=rfl
theorem eqI (O:Ow) (a b:Int):oQ qp O (.int a) (.int b)=.ok (.bl (a==b)) O:=rfl
theorem XA (hc:∀ c∈cs,c∈A7) (hl:cs.length<=10) (O:Ow):B3 [.int (n:Nat),.str cs] O=.ok (.bl (cs.length==n&&cs.all sgn)) O:=by
 have hlen:oU qa (b_ (a_ 1) c_) [some (.int (n:Nat)),some (.str cs)] O=.ok (.int (cs.length:Nat)) O:=(vX (o3 rfl)).trans (G7 (by omega))
 have t1:vj (rn (pO (rj "str" (a_ 1)))) (oZ (e_ (oQ qg) (oU qa (b_ (a_ 1) c_)) (a_ 0))) [some (.int (n:Nat)),some (.str cs)] O=.ok (((cs.length:Nat):Int) !=(n:Nat)) O:=by
  have:oZ (e_ (oQ qg) (oU qa (b_ (a_ 1) c_)) (a_ 0)) [some (.int (n:Nat)),some (.str cs)] O=.ok (((cs.length:Nat):Int) !=(n:Nat)) O:=ra ((qm hlen rfl).trans (neI O _ _))
  exact this
 have hb:(((cs.length:Nat):Int) !=(n:Nat)) = !(cs.length==n):=by
  rw [dS];simp;omega
 rw [hb] at t1
 have Jl:=Bj (o:=false) (ext:=1) (i:=2) (it0:=pD (a_ 1)) (σ:=[some (.int (n:Nat)),some (.str cs)]) (O0:=O) (O:=O) (l:=cs) (inj:=fun c=>D.str [c]) (te:=e_ uF (a_ 2) (dC (.str [45,48,49]))) (e:=fun c=>D.bl (sgn c)) (τ:=fun c=>[some (.int (n:Nat)),some (.str cs),some (.str [c])]) rfl (by omega) (fun _=>rfl) (fun c h=>(qm rfl rfl).trans (cW.mp (Wd O) c (hc c h)))
 show fin (m_ (pj _ (oS (dC (.bl false))) pC) (oS _) [some (.int (n:Nat)),some (.str cs)] O)=_
 cases hx:(cs.length==n) with
 | false=>
  rw [hx] at t1
  have e1:pj (vj (rn (pO (rj "str" (a_ 1)))) (oZ (e_ (oQ qg) (oU qa (b_ (a_ 1) c_)) (a_ 0)))) (oS (dC (.bl false))) pC [some (.int (n:Nat)),some (.str cs)] O=.rt (.bl false) O:=by rw [rV t1];rfl
  rw [Ai e1];rfl
 | true=>
  rw [hx] at t1
  have e1:pj (vj (rn (pO (rj "str" (a_ 1)))) (oZ (e_ (oQ qg) (oU qa (b_ (a_ 1) c_)) (a_ 0)))) (oS (dC (.bl false))) pC [some (.int (n:Nat)),some (.str cs)] O=.nx [some (.int (n:Nat)),some (.str cs)] O:=by rw [rV t1];rfl
  rw [sh e1,qQ ((vX (o3 Jl)).trans (Av O _ _))]
  rfl
theorem XQ (O:Ow):(A7.map fun c=>xK O (.str [c]) (.str [48,49,45]))=A7.map fun c=>R.ok (.bl (!sgn c)) O:=by kernel_rfl
theorem QQ (h:c∈A7):pl k (.str [c])=true:=by
 have h2:(A7.all fun c=>decide (c<1114112))=true:=by decide
 have h3:=aF.mp h2 c h
 have:([c].all fun c=>decide (c<1114112))=true:=by simpa using h3
 cases k<;>exact this
theorem Us (hc:∀ c∈cs,c∈A7) (hl:cs.length<=10) (O:Ow):AG [.int (n:Nat),.str cs] O=.ok (.bl (cs.length==n&&cs.all sgn)) O:=by
 show fin (EY [some (.int (n:Nat)),some (.str cs)] O)=_
 unfold EY
 refine Ac ((yJ (a:=true) (b:=cs.length==n&&cs.all sgn) rfl fun _=>yJ (a:=cs.length==n) (pP (sE (o3 rfl) (G7 (by omega))) rfl ?_) fun _=>?_).trans rfl)
 ·rw [eqI]
  congr 2
  rw [dS];simp;omega
 ·refine (pP ((vU (l:=cs) (inj:=fun c=>D.str [c]) (p:=fun c=>!sgn c) (e:=fun c=>D.str [c]) (τ:=fun c=>[some (.int (n:Nat)),some (.str cs),some (.str [c])]) rfl (by omega) (fun _=>rfl) (fun c h=>ra (pP rfl rfl (cW.mp (XQ O) c (hc c h)))) (fun _ _ _=>rfl)).trans rfl) rfl ((xX O (b:=(cs.filter fun c=>!sgn c).isEmpty) (aF.mpr fun d hd=>?_) (y:=[]) rfl ?_).1)).trans ?_
  ·obtain ⟨c,h,rfl⟩:=bb.mp hd
   exact QQ (hc c (bw.mp h).1)
  ·cases (cs.filter fun c=>!sgn c)<;>simp
  ·congr 2
   rw [Az]
   simp
noncomputable def vh (d:D):Prop:=(∃ w:List Nat,d=.str w/\(∀ c∈w,c∈A7)/\w.length<=10)\/(∃ xs,d=.tup xs)\/d=.non\/d=.int 0\/d=.bl true
def vi (n:Nat):D->Bool
 | .str w=>w.length==n&&w.all sgn
 | _=>false
theorem Y5 (n:Nat) {d:D} (h:vh d) (O:Ow):B3 [.int (n:Nat),d] O=.ok (.bl (vi n d)) O:=by
 rcases h with ⟨w,rfl,hc,hl⟩|⟨xs,rfl⟩|rfl|rfl|rfl
 ·exact XA hc hl O
 all_goals rfl
theorem X6 {n:Nat} {d:D} (h:vh d) (O:Ow):AG [.int (n:Nat),d] O=.ok (.bl (vi n d)) O:=by
 rcases h with ⟨w,rfl,hc,hl⟩|⟨xs,rfl⟩|rfl|rfl|rfl
 ·exact Us hc hl O
 all_goals rfl
noncomputable def yw (l:List (List Nat)):Bool:=(bd (l.length-1)).all fun k=>decide (l.getD k []<l.getD (k+1) [])
theorem W_ {l:List (List Nat)} (hl:l.length<10000) (O:Ow):EO [.tup (l.map D.str)] O=.ok (.bl (yw l)) O:=by
 have hi:Bk (b_ (a_ 0) (b_ (sV (a_ 0) (r9 (dC (.int 1))) sA) c_)) [some (.tup (l.map D.str))] O=.ok (.zip (.val (l.map D.str)) (.val ((l.map D.str).drop 1))) O:=by
  show ((b_ (a_ 0) (b_ (sV (a_ 0) (r9 (dC (.int 1))) sA) c_) _ O).bnd _)=_
  rw [pE rfl (S9 O (l.map D.str) [some (.tup (l.map D.str))] (by simp;omega) rfl)]
  rfl
 have hc:=Am (o:=false) (ext:=2) (g:=.two 1 2) (ts:=[]) (te:=e_ A8 (a_ 1) (a_ 2)) (l:=bd (l.length-1)) (inj:=fun k=>D.tup [.str (l.getD k []),.str (l.getD (k+1) [])]) (p:=fun _=>true) (e:=fun k=>D.bl (decide (l.getD k []<l.getD (k+1) [])))
  (τ:=fun k=>[some (.tup (l.map D.str)),some (.str (l.getD k [])),some (.str (l.getD (k+1) []))]) hi (fun i=>by
   rw [Of]
   show (match (l.map D.str)[i]?,((l.map D.str).drop 1)[i]? with|some x,some y=>some (D.tup [x,y])|_,_=>none)=_
   rw [lR,bh,bh]
   by_cases hi:i<l.length-1
   ·rw [if_pos hi,au (by omega),show 1+i=i+1 from by omega,au (by omega)]
    show some (D.tup [.str l[i],.str l[i+1]])=_
    rw [aS,aS,au (by omega),au (by omega)];rfl
   ·rw [if_neg hi,show l[1+i]?=none from aZ.mpr (by omega)]
    cases l[i]?<;>rfl) (by
   show min (l.map D.str).length ((l.map D.str).drop 1).length=_
   simp) (by rw [fw];omega) (fun k _=>rfl) (fun k _=>rfl) (fun k hk _=>rfl)
 rw [X1] at hc
 show fin (oS _ [some (.tup (l.map D.str))] O)=_
 rw [qQ ((vX (o3 hc)).trans (Av O _ _))]
 rfl
theorem oF:yw l=true↔l.Pairwise (· < ·):=by
 constructor
 ·intro h
  have one:∀ k,k+1<l.length->l.getD k []<l.getD (k+1) []:=fun k hk=>by
   have:=aF.mp h k (bK.mpr (by omega))
   simpa using this
  have key:∀ d i,i+d+1<l.length->l.getD i []<l.getD (i+d+1) []:=by
   intro d
   induction d with
   | zero=>intro i hi;exact one i hi
   | succ d ih=>intro i hi;exact jv (ih i (by omega)) (one (i+d+1) (by omega))
  refine eu.mpr fun i j hi hj tI=>?_
  have:=key (j-i-1) i (by omega)
  rw [show i+(j-i-1)+1=j by omega,aS,aS,au hi,au hj] at this
  exact this
 ·intro hp
  unfold yw
  rw [aF]
  intro k hk
  have hk:=bK.mp hk
  have:=eu.mp hp k (k+1) (by omega) (by omega) (by omega)
  rw [aS,aS,au (by omega),au (by omega)]
  exact decide_eq_true this
theorem T_ {l:List (List Nat)}:yw l=true↔l=qj l:=by
 rw [oF]
 exact ⟨fun h=>(Yw h).symm,fun h=>by rw [h];exact Aq l⟩
def AR (n:Nat) (ds:List D):Bool:=ds.all (vi n)&&yw (ds.map uy)
theorem Ho {n:Nat} {ds:List D} (h:ds.all (vi n)=true):ds=(ds.map uy).map D.str/\∀ cs∈ds.map uy,cs∈terms n:=by
 have key:∀ d∈ds,d=.str (uy d)/\uy d∈terms n:=fun d hd=>by
  have:=aF.mp h d hd
  cases d with
  | str w=>
   have this:(w.length==n&&w.all sgn)=true:=this
   rw [a6] at this
   exact ⟨rfl,Hn n w (by simpa using this.1) (aF.mp this.2)⟩
  | _=>cases this
 constructor
 ·rw [cO]
  conv=>lhs;rw [<- kq ds]
  exact eG fun d hd=>(key d hd).1
 ·intro cs s_
  obtain ⟨d,hd,rfl⟩:=bb.mp s_
  exact (key d hd).2
section
variable {n:Nat} (h1:1<=n) (h4:n<=4) {ds:List D} (hd:∀ d∈ds,vh d) (hl:ds.length<100) (O:Ow)
include hd hl
theorem Zv:AE [.int (n:Nat),.tup ds] O=.ok (.bl (AR n ds)) O:=by
 show fin (HF [some (.int (n:Nat)),some (.tup ds)] O)=_
 unfold HF
 refine sD (vv (O1:=O) (uB (b:=true) (q_ (b:=true) rfl)) (qQ (yJ (a:=ds.all (vi n)) (b:=yw (ds.map uy)) (sE (o3 ((Bj (l:=ds) (inj:=fun d=>d) (e:=fun d=>D.bl (vi n d)) (τ:=fun d=>[some (.int (n:Nat)),some (.tup ds),some d]) (by rw [lX];exact xZ rfl) (by omega) (fun _=>rfl) (fun d h=>o5 (pE rfl rfl) (Y5 n (hd d h) O))).trans rfl)) (Av O ds (vi n))) fun ha=>o5 (o3 rfl) ?_)))
 have e:=(Ho ha).1
 have r:=W_ (l:=ds.map uy) (by rw [aM];omega) O
 rw [<- e] at r
 exact r
include h1 h4
theorem NF:yQ [.int (n:Nat),.tup ds] O=.ok (.bl (AR n ds)) O:=by
 have hc:=sE (f:=tS) (o3 ((Bj (o:=false) (ext:=1) (i:=2) (σ:=[some (.int (n:Nat)),some (.tup ds)]) (it0:=pD (a_ 1)) (O0:=O) (O:=O) (te:=j_ 2 AG (b_ (a_ 0) (b_ (a_ 2) c_))) (l:=ds) (inj:=fun d=>d) (e:=fun d=>D.bl (vi n d)) (τ:=fun d=>[some (.int (n:Nat)),some (.tup ds),some d]) (by rw [lX];exact xZ rfl) (by omega) (fun _=>rfl) (fun d h=>o5 (pE rfl rfl) (X6 (hd d h) O))).trans rfl)) (Av O ds (vi n))
 show fin (HK [some (.int (n:Nat)),some (.tup ds)] O)=_
 unfold HK AR
 cases ha:ds.all (vi n) with
 | false=>
  rw [ha] at hc
  exact sD (Bt (O1:=O) (L_ (a:=false) (b:=true) (uB (b:=true) (q_ (b:=true) rfl)) fun _=>uB (b:=false) (q_ hc)) rfl)
 | true=>
  rw [ha] at hc
  obtain ⟨e,ht⟩:=Ho ha
  refine sD (vv (O1:=O) (L_ (a:=false) (b:=false) (uB (b:=true) (q_ (b:=true) rfl)) fun _=>uB (b:=true) (q_ hc)) (qQ (pP (x:=.lst ds) (sE (o3 rfl) rfl) (L3 (l:=ds.map uy) (x:=.tup ds) (o3 rfl) (.inr (congrArg D.tup e)) (by rw [aM];exact (aV hl (by decide)))) ?_)))
  have q:=(xX O (b:=yw (ds.map uy)) (x:=(ds.map uy).map .str) (y:=(qj (ds.map uy)).map .str) (BE h1 h4 ht) (BE h1 h4 fun cs s_=>ht cs ((yL _).mp s_)) (by
   rw [T_]
   constructor
   ·intro h;exact congrArg (List.map D.str) h
   ·intro h;exact (List.map_inj_right fun a b h=>by injection h).mp h)).1
  rw [<- e] at q
  exact q
end
theorem W8 (hf:Fn n f) (O:Ow):AF [.tup f,.int 1] O=.ok (.lst (((bd (2 ^ n)).filter fun p=>yX (f.getD p .non)).map fun (p:Nat)=>D.int (p:Int))) O:=by
 have hpw:=yP hf.n4
 have hi:Eh (b_ (a_ 0) c_) [some (.tup f),some (.int 1)] O=.ok (.val (wz f)) O:=rfl
 have hc:=Am (o:=false) (ext:=2) (g:=.two 2 3) (ts:=[(oZ (e_ (oQ qp) (a_ 3) (a_ 1)))]) (te:=a_ 2) (l:=bd (2 ^ n)) (inj:=fun (p:Nat)=>D.tup [.int (p:Int),f.getD p .non]) (p:=fun p=>yX (f.getD p .non)) (e:=fun (p:Nat)=>D.int (p:Int))
  (τ:=fun (p:Nat)=>[some (.tup f),some (.int 1),some (.int (p:Int)),some (f.getD p .non)]) hi (fun i=>by
   rw [Of]
   show (wz f)[i]?=_
   rw [Nt]
   by_cases hi:i<2 ^ n
   ·have Fw:i<f.length:=by rw [hf.len];exact hi
    rw [if_pos hi,au Fw]
    show some (D.tup [.int (i:Nat),f[i]])=_
    rw [Bv Fw]
   ·rw [if_neg hi,aZ.mpr (by rw [hf.len];omega)];rfl) (by
   show (wz f).length=_
   unfold wz;simp [hf.len]) (by rw [fw];omega) (fun k _=>rfl) (fun p hp=>BG (by
   have hp:=bK.mp hp
   have hA:vK (f.getD p .non):=by
    rw [Bv (by rw [hf.len];exact hp)]
    exact hf.ans _ (cr _)
   exact ra ((qm rfl rfl).trans (eq1 O hA)))) (fun p _ _=>rfl)
 show fin (oS _ [some (.tup f),some (.int 1)] O)=_
 rw [qQ (hc.trans rfl)];rfl
theorem Ob (hf:Fn n f) (O:Ow):AF [.tup f,.int 1] O=.ok (.lst (rG (pW f))) O:=by
 rw [W8 hf O]
 unfold pW rG
 rw [hf.len]
theorem GF (O:Ow) (k:Nat) (l:List Nat):uF O (.int (k:Nat)) (.lst (rG l))=.ok (.bl (l.contains k)) O:=
 (Kr O (l:=rG l) (b:=l.contains k) rfl (GG 7 l) (.inl rfl) (by
  rw [cm]
  unfold rG
  rw [bb]
  constructor
  ·intro h;exact ⟨k,h,rfl⟩
  ·rintro ⟨j,h,e⟩
   injection e with e
   have:j=k:=by omega
   rw [<- this];exact h)).1
section
variable {n:Nat} {f:List D} (hf:Fn n f) {l:List (List Nat)} (ht:∀ t∈l,t∈terms n) (hlen:l.length<100) (O:Ow)
include hf ht hlen
theorem Ym (p:Nat):E3 [.tup (l.map .str),.int (p:Nat)] O=.ok (.lst ((l.filter fun t=>(qv t).contains p).map .str)) O:=by
 show fin (E1 [some (.tup (l.map .str)),some (.int (p:Nat))] O)=_
 unfold E1
 exact Ac ((vU (l:=l) (inj:=D.str) (p:=fun t=>(qv t).contains p) (e:=D.str) (τ:=fun t=>[some (.tup (l.map .str)),some (.int (p:Nat)),some (.str t)]) (xZ rfl) (by omega) (fun _=>rfl) (fun t h=>ra (pP rfl (o5 (o3 rfl) (Hz (vY hf.n1 hf.n4 (ht t h)) O)) (GF O p _))) (fun _ _ _=>rfl)).trans rfl)
def AV (f:List D) (l:List (List Nat)):Bool:=l.all (uw f)&&OX f l
theorem Yv (hr:AE [.int (n:Nat),.tup (l.map .str)] O=.ok (.bl true) O):Ar [.tup f,.tup (l.map .str)] O=.ok (.bl (AV f l)) O:=by
 have qO:=Ao hf
 have hc:=sE (f:=tS) (o3 ((Bj (o:=false) (ext:=1) (i:=2) (σ:=[some (.tup f),some (.tup (l.map .str))]) (it0:=pD (a_ 1)) (O0:=O) (O:=O) (te:=j_ 2 B5 (b_ (a_ 0) (b_ (a_ 2) c_))) (l:=l) (inj:=D.str) (e:=fun t=>D.bl (uw f t)) (τ:=fun t=>[some (.tup f),some (.tup (l.map .str)),some (.str t)]) (xZ rfl) (by omega) (fun _=>rfl) (fun t h=>o5 (pE rfl rfl) (Wx hf (ht t h) O))).trans rfl)) (Av O l (uw f))
 show fin (BM [some (.tup f),some (.tup (l.map .str))] O)=_
 unfold BM AV
 refine sD (Gz (o5 (o3 rfl) (GD hf O)) (vv (O1:=O) (uB (b:=true) (q_ (o5 (pE (o5 (o3 rfl) (NQ hf O)) rfl) hr))) ?_))
 cases hg:l.all (uw f) with
 | false=>
  rw [hg] at hc
  exact Bt (O1:=O) (uB (b:=false) (q_ hc)) rfl
 | true=>
  rw [hg] at hc
  refine vv (O1:=O) (uB (b:=true) (q_ hc)) (qQ (sE (o3 ((Bj (l:=pW f) (inj:=fun (p:Nat)=>D.int (p:Int)) (e:=fun p=>D.bl (l.any fun t=>(qv t).contains p)) (τ:=fun (p:Nat)=>[some (.tup f),some (.tup (l.map .str)),some (.int (p:Int))]) (ua (o5 (pE rfl rfl) (Ob hf O))) (by omega) (fun _=>rfl) (fun p hp=>?_)).trans rfl)) (Av O (pW f) fun p=>l.any fun t=>(qv t).contains p)))
  refine (pP (o5 (pE rfl rfl) (Ym hf ht hlen O p)) rfl (LL O hf.n1 hf.n4 fun t h=>ht t (bw.mp h).1)).trans ?_
  rw [Az,jZ]
  simp only [jV]
theorem ML (ha:yQ [.int (n:Nat),.tup (l.map .str)] O=.ok (.bl true) O):v7 [.tup f,.tup (l.map .str)] O=.ok (.bl (AV f l)) O:=by
 have h1:=hf.n1
 have h4:=hf.n4
 let A:Option D:=some (.tup f)
 let T:Option D:=some (.tup (l.map .str))
 show fin (BZ [A,T,none] O)=_
 unfold BZ AV
 obtain ⟨y',xB⟩:=TZ (l:=pW f) (inj:=fun (p:Nat)=>D.int (p:Int)) (i:=2) (it:=pD (j_ 1 vB (b_ (a_ 0) c_))) (body:=pj (oZ (e_ (oQ qp) (pG false 1 (pD (a_ 1)) (.one 3) [(pO (j_ 2 uA (b_ (a_ 3) (b_ (a_ 2) c_))))] [] (a_ 3)) (pT c_))) (oS (dC (.bl false))) pC) (τ:=fun y=>[A,T,y]) (O:=O) (q:=fun p=>l.any fun t=>(qv t).contains p) (d:=.bl false) (y:=none) (ua (o5 (o3 rfl) (Ej hf O))) (fun _ _=>rfl) (fun p hp=>by
  rw [rV (b:=(l.filter fun t=>(qv t).contains p).isEmpty) (O1:=O) (ra ((pP ((vU (l:=l) (inj:=D.str) (p:=fun t=>(qv t).contains p) (e:=D.str) (τ:=fun t=>[A,T,some (.int (p:Int)),some (.str t)]) (xZ rfl) (by omega) (fun _=>rfl) (fun t h=>q_ (o5 (pE rfl rfl) (EU (vY h1 h4 (ht t h)) (by rw [sX h1 h4 (ht t h),<- hf.len];exact (oj.mp hp).1) O))) (fun _ _ _=>rfl)).trans rfl) rfl (GR O h1 h4 fun c hc=>ht c (bw.mp hc).1))))]
  rw [Az,jZ]
  simp only [jV]
  cases (l.any fun t=>(qv t).contains p)<;>rfl)
 have e1:rn (pO (j_ 2 yQ (b_ (j_ 1 AH (b_ (a_ 0) c_)) (b_ (a_ 1) c_)))) [A,T,none] O=.ok false O:=uB (b:=true) (q_ (o5 (pE (o5 (o3 rfl) (HI hf O)) rfl) ha))
 have e2:oZ (e_ (oQ qg) (pG false 1 (pD (a_ 1)) (.one 3) [(rn (pO (j_ 2 Ay (b_ (a_ 0) (b_ (a_ 3) c_)))))] [] (a_ 3)) (pT c_)) [A,T,none] O=.ok (!l.all (uw f)) O:=by
  refine ra ((pP ((vU (l:=l) (inj:=D.str) (p:=fun t=>!uw f t) (e:=D.str) (τ:=fun t=>[A,T,none,some (.str t)]) (xZ rfl) (by omega) (fun _=>rfl) (fun t h=>uB (q_ (o5 (pE rfl rfl) (Oc hf (ht t h) O)))) (fun _ _ _=>rfl)).trans rfl) rfl (LL O h1 h4 fun c hc=>ht c (bw.mp hc).1)).trans ?_)
  rw [Az]
  simp only [jV]
 cases hg:l.all (uw f) with
 | false=>
  rw [hg] at e2
  exact sD (vv e1 (Bt e2 rfl))
 | true=>
  rw [hg] at e2
  cases hF:OX f l with
  | true=>
   have qr:((pW f).all fun p=>l.any fun t=>(qv t).contains p)=true:=hF
   rw [qr,if_pos rfl] at xB
   exact sD (vv e1 (vv e2 (vW xB (qQ rfl))))
  | false=>
   have qr:((pW f).all fun p=>l.any fun t=>(qv t).contains p)=false:=hF
   rw [qr] at xB
   exact sD (vv e1 (vv e2 (Ai xB)))
end
noncomputable def Ask (d:D):Prop:=(∃ ds,d=.tup ds/\(∀ x∈ds,vh x)/\ds.length<100)\/(∃ xs,d=.lst xs)\/d=.non\/d=.dct \/ ∃ w,d=.str w
theorem Y9 (hf:Fn n f) (h:Ask d) (O:Ow):∃ b,Ar [.tup f,d] O=.ok (.bl b) O/\v7 [.tup f,d] O=.ok (.bl b) O/\(b=true->∃ l:List (List Nat),d=.tup (l.map .str)/\(∀ t∈l,t∈terms n)/\l.length<100):=by
 have no:∀ d,AE [.int (n:Nat),d] O=.ok (.bl false) O->yQ [.int (n:Nat),d] O=.ok (.bl false) O->∃ b,Ar [.tup f,d] O=.ok (.bl b) O/\v7 [.tup f,d] O=.ok (.bl b) O/\(b=true->∃ l:List (List Nat),d=.tup (l.map .str)/\(∀ t∈l,t∈terms n)/\l.length<100):=fun d q1 q2=>by
  refine ⟨false,?_,?_,fun h=>by cases h⟩
  ·show fin (BM [some (.tup f),some d] O)=_
   unfold BM
   exact sD (Gz (o5 (o3 rfl) (GD hf O)) (Bt (O1:=O) (uB (b:=false) (q_ (o5 (pE (o5 (o3 rfl) (NQ hf O)) rfl) q1))) rfl))
  ·show fin (BZ [some (.tup f),some d,none] O)=_
   unfold BZ
   exact sD (Bt (O1:=O) (uB (b:=false) (q_ (o5 (pE (o5 (o3 rfl) (HI hf O)) rfl) q2))) rfl)
 rcases h with ⟨ds,rfl,hd,hl⟩|⟨xs,rfl⟩|rfl|rfl|⟨w,rfl⟩
 ·have q1:=Zv (n:=n) hd hl O
  have q2:=NF hf.n1 hf.n4 hd hl O
  cases hk:AR n ds with
  | false=>rw [hk] at q1 q2;exact no _ q1 q2
  | true=>
   rw [hk] at q1 q2
   have ha:ds.all (vi n)=true:=(fy.mp hk).1
   obtain ⟨e,ht⟩:=Ho ha
   have rA:(ds.map uy).length<100:=by rw [aM];exact hl
   rw [e] at q1 q2
   have p1:=Yv hf ht rA O q1
   have p2:=ML hf ht rA O q2
   rw [<- e] at p1 p2
   exact ⟨_,p1,p2,fun _=>⟨ds.map uy,congrArg D.tup e,ht,rA⟩⟩
 ·exact no _ rfl rfl
 ·exact no _ rfl rfl
 ·exact no _ rfl rfl
 ·exact no _ rfl rfl
theorem Xj (h1:1<=n) (h4:n<=4):(terms n).Pairwise (· < ·):=by
 rcases yz h1 h4 with rfl|rfl|rfl|rfl<;>decide +kernel
theorem MM (x:List Nat):∀ l:List (List Nat),(t6 x l).length<=l.length+1
 | []=>by simp [t6]
 | y::r=>by
  unfold t6
  split
  ·simp
  ·split
   ·simp
   ·have:=MM x r;simp;omega
theorem GV (ss:List (List Nat)):(qj ss).length<=ss.length:=by
 have:∀ (l acc:List (List Nat)),(l.foldl (fun l x=>t6 x l) acc).length<=acc.length+l.length:=fun l=>by
  induction l with
  | nil=>intro acc;simp
  | cons a l ih=>
   intro acc
   rw [fT]
   have h1:=ih (t6 a acc)
   have h2:=MM a acc
   rw [bv];omega
 have h:=this ss []
 simpa [qj] using h
theorem Ln (hf:Fn n f):(gr n f).Pairwise (· < ·):=((Xj hf.n1 hf.n4).filter _).filter _
theorem Wb (ht:t∈gr n f) (ho:o∈gr n f) (hl:vp n t o=true):t=o:=by
 have h1:wy n f t=true:=(bw.mp ht).2
 unfold wy at h1
 rw [a6,Az] at h1
 have:=aF.mp h1.1 o (bw.mp ho).1
 rw [hl] at this
 by_cases e:o=t
 ·exact e.symm
 ·simp [e] at this
theorem D9 (hf:Fn n f):(gr n f).length<=54:=by
 have h1:=hf.n1
 have h4:=hf.n4
 by_cases hn:n<=3
 ·have hl:(terms n).length<=54:=by
   have:n=1\/n=2\/n=3:=by omega
   rcases this with rfl|rfl|rfl<;>decide
  exact aU (aU (bB _ _) (bB _ _)) hl
 ·have:n=4:=by omega
  subst this
  have e:gr 4 f=(terms 4).filter fun t=>wy 4 f t&&uw f t:=by
   unfold gr r_
   rw [List.filter_filter]
  rw [e]
  refine Wo fun t ht o ho qt qo hl=>?_
  have mt:t∈gr 4 f:=by rw [e];exact bw.mpr ⟨ht,qt⟩
  have mo:o∈gr 4 f:=by rw [e];exact bw.mpr ⟨ho,qo⟩
  exact Wb mt mo hl
theorem Ee (h:sgn c=true):c∈A7:=by
 unfold sgn at h
 simp only [fS,beq_iff_eq] at h
 rcases h with (rfl|rfl)|rfl<;>decide
theorem MI (h1:1<=n) (h4:n<=4) (h:cs∈terms n):vh (.str cs):=.inl ⟨cs,rfl,fun c hc=>Ee (EG h1 h4 h c hc),by rw [sX h1 h4 h];omega⟩
theorem yb {n:Nat} (h1:1<=n) (h4:n<=4) {l:List (List Nat)} (h:∀ t∈l,t∈terms n):∀ d∈l.map D.str,vh d:=fun d hd=>by
 obtain ⟨cs,s_,rfl⟩:=bb.mp hd
 exact MI h1 h4 (h cs s_)
theorem Xr (h1:1<=n) (h4:n<=4) (h:cs∈terms n):vi n (.str cs)=true:=by
 show (cs.length==n&&cs.all sgn)=true
 rw [sX h1 h4 h,aF.mpr (EG h1 h4 h)];simp
theorem T6 {n:Nat} (h1:1<=n) (h4:n<=4) {l:List (List Nat)} (h:∀ t∈l,t∈terms n) (hp:l.Pairwise (· < ·)):AR n (l.map D.str)=true:=by
 unfold AR
 have e:(l.map D.str).map uy=l:=by
  rw [cO]
  exact (eG fun a _=>rfl).trans (kq l)
 rw [e,oF.mpr hp,Bool.and_true,aF]
 intro d hd
 obtain ⟨cs,s_,rfl⟩:=bb.mp hd
 exact Xr h1 h4 (h cs s_)
def DJ:DE:=oU uz (b_ (oU yF (b_ (a_ 3) c_)) c_)
theorem LW (h3:a_ 3 σ O=.ok (.own k) O) (hk:O[k]?=some (l.map .str)) (hn:l.Nodup) (hl:l.length<64):DJ σ O=.ok (.tup ((qj l).map .str)) O:=
 sE (o3 (sE (o3 h3) (Vl hk hn hl))) rfl
noncomputable def DB:DS:=rm (t7 (a_ 3) (b_ (Bm (a_ 2) (b_ (j_ 2 q0 (b_ (a_ 0) (b_ (oU qa (b_ (a_ 2) c_)) c_))) c_)) c_))
def wV:DT:=sC (oZ (e_ (oQ qg) (a_ 2) (pT c_))) (pO (a_ 4))
noncomputable def wA:DS:=(m_ (pj (pO (j_ 2 v7 (b_ (a_ 1) (b_ DJ c_)))) (oX 4 (e_ (oQ qp) (j_ 2 q0 (b_ (a_ 0) (b_ (dC (.int 4)) c_))) (dC (.int 0)))) pC) (pj (pO (a_ 4)) DB pC))
section
variable {n m:Nat} {g:List D} (hg:Fn n g) {O:Ow} {b:Bool}
noncomputable def OO (O:Ow) (m:Nat) (b:Bool) (s:Int) (L Fd:List (List Nat)):Ow:=O.set m [.int s,.bl b]++[L.map .str,Fd.map .str]
noncomputable def rq (O:Ow) (m:Nat) (g:List D) (mo:Bool):Sg:=[some (.own m),some (.tup g),some (.own O.length),some (.own (O.length+1)),some (.bl mo)]
include hg
theorem SA (hs:nR (O.set m [.int s,.bl b]) m s b) (hp:(Fd++L).Perm (gr n g)) (hL:L≠[]):
  ∃ s' r,∃ hr:r<L.length,DB (rq O m g mo) (OO O m b s L Fd)=.nx (rq O m g mo) (OO O m b s' (L.eraseIdx r) (Fd++[L[r]]))/\nR (O.set m [.int s',.bl b]) m s' b:=by
 have hlen:∀ s',(O.set m [D.int s',D.bl b]).length=O.length:=fun s'=>cB
 have qO:=D9 hg
 have p_:=hp.length_eq
 rw [ar] at p_
 have hpos:0<L.length:=List.length_pos_iff.mpr hL
 obtain ⟨r,s',r1,r2,r3⟩:=EF hs [L.map .str,Fd.map .str] (k:=L.length) (by omega) (by omega)
 refine ⟨s',r,r1,?_,r3⟩
 unfold DB
 have Jb:(((r:Nat):Int)).toNat=r:=by omega
 have e1:Bm (a_ 2) (b_ (j_ 2 q0 (b_ (a_ 0) (b_ (oU qa (b_ (a_ 2) c_)) c_))) c_) (rq O m g mo) (OO O m b s L Fd)=.ok (.str L[r]) (OO O m b s' (L.eraseIdx r) Fd):=by
  have ha:b_ (j_ 2 q0 (b_ (a_ 0) (b_ (oU qa (b_ (a_ 2) c_)) c_))) c_ (rq O m g mo) (OO O m b s L Fd)=.ok [.int (r:Nat)] (OO O m b s' L Fd):=
   o3 (o5 (pE rfl (sE (o3 rfl) ((Ur (O:=OO O m b s L Fd) (x:=.own O.length) (xs:=L.map .str) (F7 (hlen s))).trans (by rw [aM];rfl)))) r2)
  show (((b_ _ _ (rq O m g mo) (OO O m b s L Fd)).bnd fun ys O2=>match ys,O2[O.length]? with|[.int i],some ds=>if 0<=i/\i<100000 then (match ds[i.toNat]? with|some d=>R.ok d (O2.set O.length (ds.eraseIdx i.toNat))|none=>R.bad) else R.bad|_,_=>R.bad))=_
  rw [ha]
  show (match [D.int (r:Nat)],(OO O m b s' L Fd)[O.length]? with|[.int i],some ds=>if 0<=i/\i<100000 then (match ds[i.toNat]? with|some d=>R.ok d ((OO O m b s' L Fd).set O.length (ds.eraseIdx i.toNat))|none=>R.bad) else R.bad|_,_=>R.bad)=_
  rw [show (OO O m b s' L Fd)[O.length]?=some (L.map .str) from F7 (hlen s')]
  dsimp only
  rw [if_pos (by omega),Jb,bh,au r1]
  dsimp only [iJ]
  congr 1
  rw [Nj]
  exact Rk (hlen s')
 rw [BF (σ:=rq O m g mo) (k:=O.length+1) (ds:=Fd.map .str) rfl e1 (Gb (hlen s')) (by rw [aM];omega)]
 congr 1
 show (OO O m b s' (L.eraseIdx r) Fd).set (O.length+1) (Fd.map .str++[.str L[r]])=_
 unfold OO
 rw [Ro (hlen s'),dW];rfl
theorem Xa {s:Int} (hs:nR (O.set m [.int s,.bl b]) m s b) {L Fd:List (List Nat)} (hp:(Fd++L).Perm (gr n g)) (hL:L≠[]):
  ∃ s' mo L' tQ,wA (rq O m g true) (OO O m b s L Fd)=.nx (rq O m g mo) (OO O m b s' L' tQ)/\nR (O.set m [.int s',.bl b]) m s' b/\(tQ++L').Perm (gr n g)/\((mo=true/\L'.length+1=L.length)\/(mo=false/\L'=L)):=by
 have hlen:∀ s',(O.set m [D.int s',D.bl b]).length=O.length:=fun s'=>cB
 have qO:=D9 hg
 have p_:=hp.length_eq
 rw [ar] at p_
 have hnd:Fd.Nodup:=by
  have:(gr n g).Nodup:=(Ln hg).imp fun h e=>by subst e;exact absurd h (gQ _)
  exact (fu.mp (hp.nodup_iff.mpr this)).1
 have IT:∀ t∈Fd,t∈gr n g:=fun t ht=>hp.mem_iff.mp (cK _ ht)
 have uD:pO (j_ 2 v7 (b_ (a_ 1) (b_ DJ c_))) (rq O m g true) (OO O m b s L Fd)=.ok (AV g (qj Fd)) (OO O m b s L Fd):=by
  have pF:∀ t∈qj Fd,t∈terms n:=fun t ht=>Ew (IT t ((yL Fd).mp ht))
  have Fu:(qj Fd).length<100:=by have:=GV Fd;omega
  have e:=ML hg pF Fu (OO O m b s L Fd) ((NF hg.n1 hg.n4 (yb hg.n1 hg.n4 pF) (by rw [aM];exact Fu) _).trans (by rw [T6 hg.n1 hg.n4 pF (Aq Fd)]))
  exact q_ (o5 (pE rfl (LW (k:=O.length+1) rfl (Gb (hlen s)) hnd (by omega))) e)
 have popped:∀ s1,nR (O.set m [.int s1,.bl b]) m s1 b->∃ s' mo L' tQ,pj (pO (a_ 4)) DB pC (rq O m g true) (OO O m b s1 L Fd)=.nx (rq O m g mo) (OO O m b s' L' tQ)/\nR (O.set m [.int s',.bl b]) m s' b/\(tQ++L').Perm (gr n g)/\((mo=true/\L'.length+1=L.length)\/(mo=false/\L'=L)):=fun s1 zj=>by
  obtain ⟨s',r,hr,e1,e2⟩:=SA hg zj hp hL (mo:=true)
  refine ⟨s',true,L.eraseIdx r,Fd++[L[r]],?_,e2,?_,.inl ⟨rfl,by rw [gj hr];omega⟩⟩
  ·rw [rV (b:=true) (O1:=OO O m b s1 L Fd) rfl,if_pos rfl];exact e1
  ·rw [aY]
   exact ((BI L r hr).append_left Fd).trans hp
 unfold wA
 cases hF:AV g (qj Fd) with
 | false=>
  rw [hF] at uD
  obtain ⟨s',mo,L',tQ,e1,e2,e3,e4⟩:=popped s hs
  exact ⟨s',mo,L',tQ,vv uD e1,e2,e3,e4⟩
 | true=>
  rw [hF] at uD
  obtain ⟨r,s1,r1,r2,r3⟩:=EF hs [L.map .str,Fd.map .str] (k:=4) (by decide) (by decide)
  have xD:pj (pO (j_ 2 v7 (b_ (a_ 1) (b_ DJ c_)))) (oX 4 (e_ (oQ qp) (j_ 2 q0 (b_ (a_ 0) (b_ (dC (.int 4)) c_))) (dC (.int 0)))) pC (rq O m g true) (OO O m b s L Fd)=.nx (rq O m g ((r:Int)==0)) (OO O m b s1 L Fd):=by
   rw [rV uD,if_pos rfl]
   exact yK (pP (o5 (pE rfl rfl) r2) rfl rfl)
  cases Pa:((r:Int)==0) with
  | true=>
   rw [Pa] at xD
   obtain ⟨s',mo,L',tQ,e1,e2,e3,e4⟩:=popped s1 r3
   exact ⟨s',mo,L',tQ,vW xD e1,e2,e3,e4⟩
  | false=>
   rw [Pa] at xD
   refine ⟨s1,false,L,Fd,vW xD ?_,r3,hp,.inr ⟨rfl,rfl⟩⟩
   rw [rV (b:=false) (O1:=OO O m b s1 L Fd) rfl];rfl
theorem LK (hp:(Fd++L).Perm (gr n g)):wV (rq O m g mo) (OO O m b s L Fd)=.ok (!L.isEmpty&&mo) (OO O m b s L Fd):=by
 have hlen:∀ s',(O.set m [D.int s',D.bl b]).length=O.length:=fun s'=>cB
 exact Eu (ra (pP rfl rfl (Tf _ hg.n1 hg.n4 (fun t ht=>Ew (hp.mem_iff.mp (bo _ ht))) (F7 (hlen s))))) fun _=>q_ rfl
theorem MO:∀ (f:Nat) {s:Int} {L Fd:List (List Nat)} {mo:Bool},nR (O.set m [.int s,.bl b]) m s b->(Fd++L).Perm (gr n g)->(mo=true->L.length+2<=f)->1<=f->
  ∃ s' Ic L' tQ,uQ wV wA f (rq O m g mo) (OO O m b s L Fd)=.nx (rq O m g Ic) (OO O m b s' L' tQ)/\nR (O.set m [.int s',.bl b]) m s' b/\(tQ++L').Perm (gr n g)
 | 0,s,L,Fd,mo,_,_,_,h1=>by omega
 | f+1,s,L,Fd,mo,hs,hp,hf,_=>by
  have yi:(!L.isEmpty&&mo)=false->∃ s' Ic L' tQ,uQ wV wA (f+1) (rq O m g mo) (OO O m b s L Fd)=.nx (rq O m g Ic) (OO O m b s' L' tQ)/\nR (O.set m [.int s',.bl b]) m s' b/\(tQ++L').Perm (gr n g):=fun hc=>by
   refine ⟨s,mo,L,Fd,?_,hs,hp⟩
   show ((wV (rq O m g mo) (OO O m b s L Fd)).bnS _)=_
   rw [LK hg hp,hc];rfl
  cases mo with
  | false=>exact yi (by simp)
  | true=>
   by_cases hL:L=[]
   ·exact yi (by simp [hL])
   ·have hc:(!L.isEmpty&&true)=true:=by
     cases L with
     | nil=>exact absurd rfl hL
     | cons _ _=>rfl
    obtain ⟨s',mo,L',tQ,e1,e2,e3,e4⟩:=Xa hg hs hp hL
    have hf':=hf rfl
    obtain ⟨s2,mo2,L2,Fd2,q1,q2,q3⟩:=MO f (s:=s') (L:=L') (Fd:=tQ) (mo:=mo) e2 e3 (fun h=>by
     rcases e4 with ⟨_,z⟩|⟨z,_⟩
     ·omega
     ·rw [h] at z;cases z) (by omega)
    refine ⟨s2,mo2,L2,Fd2,?_,q2,q3⟩
    show ((wV (rq O m g true) (OO O m b s L Fd)).bnS fun k O1=>if k=true then (match wA (rq O m g true) O1 with|.nx σ' O'=>uQ wV wA f σ' O'|.ct σ' O'=>uQ wV wA f σ' O'|.bk σ' O'=>.nx σ' O'|r=>r) else .nx (rq O m g true) O1)=_
    rw [LK hg hp,hc]
    show (match wA (rq O m g true) (OO O m b s L Fd) with|.nx σ' O'=>uQ wV wA f σ' O'|.ct σ' O'=>uQ wV wA f σ' O'|.bk σ' O'=>.nx σ' O'|r=>r)=_
    rw [e1]
    exact q1
theorem Zf (hO:qL O) (hs:nR O m s b):∃ (l:List (List Nat)) (s':Int),B4 [.own m,.tup g] O=.ok (.tup (l.map .str)) (O.set m [.int s',.bl b])/\nR (O.set m [.int s',.bl b]) m s' b/\l.Pairwise (· < ·)/\(∀ t∈l,t∈terms n)/\l.length<=54:=by
 have hlen:∀ s',(O.set m [D.int s',D.bl b]).length=O.length:=fun s'=>cB
 have qO:=D9 hg
 have wK:nR (O.set m [.int s,.bl b]) m s b:=by rw [G2 hs.at_];exact hs
 obtain ⟨s',mo,L,Fd,e1,e2,e3⟩:=MO hg (O:=O) (m:=m) (b:=b) 100 (s:=s) (L:=gr n g) (Fd:=[]) (mo:=true) wK (fG _) (fun _=>by omega) (by decide)
 have p_:=e3.length_eq
 rw [ar] at p_
 have hnd:Fd.Nodup:=by
  have:(gr n g).Nodup:=(Ln hg).imp fun h e=>by subst e;exact absurd h (gQ _)
  exact (fu.mp (e3.nodup_iff.mpr this)).1
 have hl2:=GV Fd
 refine ⟨qj Fd,s',?_,e2,Aq Fd,fun t ht=>Ew (e3.mem_iff.mp (cK _ ((yL Fd).mp ht))),by omega⟩
 show t5 O.length (fin (E6 [some (.own m),some (.tup g),none,none,none] O))=_
 have zh:O++[(gr n g).map .str]++[[]]=OO O m b s (gr n g) []:=by
  unfold OO
  rw [G2 hs.at_,aY];rfl
 have hB:E6 [some (.own m),some (.tup g),none,none,none] O=.rt (.tup ((qj Fd).map .str)) (OO O m b s' L Fd):=by
  unfold E6
  refine qC (x:=.own O.length) (O1:=O++[(gr n g).map .str]) (o5 (o3 rfl) (Oa hg hO)) (qC (x:=.own (O.length+1)) (O1:=OO O m b s (gr n g) []) ?_ (qC (x:=.bl true) (O1:=OO O m b s (gr n g) []) rfl (vW (σ':=rq O m g mo) (O1:=OO O m b s' L Fd) e1 (qQ ?_))))
  ·rw [<- zh]
   show R.ok (D.own (O++[(gr n g).map D.str]).length) _=_
   rw [ar];rfl
  ·exact LW (k:=O.length+1) rfl (Gb (hlen s')) hnd (by omega)
 rw [sD hB]
 have:=MW (x8 hO m s' b) [L.map .str,Fd.map .str] (d:=.tup ((qj Fd).map .str)) (d':=.tup ((qj Fd).map .str)) (GQ fun d hd=>by obtain ⟨x,_,rfl⟩:=bb.mp hd;rfl)
 rw [hlen] at this
 exact this
end
theorem Bo {tA:DA} {σ:Sg} {O O1:Ow} {ds:List D} (h:tA σ O=.ok ds O1) (hl:ds.length<=100000):qZ tA σ O=.ok (.tup ds) O1:=by
 show ((tA σ O).bnd _)=_
 rw [h]
 show (if ds.length<=100000 then _ else _)=_
 rw [if_pos hl]
theorem Gp {tA:DA} {σ:Sg} {O O1:Ow} {ds:List D} (h:tA σ O=.ok ds O1) (hl:ds.length<=100000):pT tA σ O=.ok (.lst ds) O1:=by
 show ((tA σ O).bnd _)=_
 rw [h]
 show (if ds.length<=100000 then _ else _)=_
 rw [if_pos hl]
theorem UJ (h:d∈uu ds lo hi):d∈ds:=cy (cf h)
theorem UA (ds:List D) (lo hi:Option Int):(uu ds lo hi).length<=ds.length:=by unfold uu;rw [bG,bN];omega
structure Sub (ds l:List D) (lo hi:Option Int):Prop where
 mem:∀ d∈l,d∈ds
 len:l.length<=ds.length
 cut:l.length<=HT.sIx ds.length ds.length hi-HT.sIx ds.length 0 lo
theorem D1 {σ:Sg} {O:Ow} {te:DE} {tl th:DO} {ds:List D} {lo hi:Option Int} (h:te σ O=.ok (.tup ds) O) (h1:tl σ O=.ok lo O) (h2:th σ O=.ok hi O):∃ l,sV te tl th σ O=.ok (.tup l) O/\Sub ds l lo hi:=by
 have e:sV te tl th σ O=JV O (.tup ds) lo hi:=by
  show ((te σ O).bnd _)=_
  rw [h]
  show ((tl σ O).bnd _)=_
  rw [h1]
  show ((th σ O).bnd _)=_
  rw [h2];rfl
 rw [e]
 show ∃ l,(if HT.sIx ds.length 0 lo=0/\HT.sIx ds.length ds.length hi=ds.length then R.ok (D.tup ds) O else R.ok (D.tup (uu ds lo hi)) O)=_/\_
 split
 ·rename_i hw
  exact ⟨ds,rfl,fun _ h=>h,ay _,by rw [hw.1,hw.2];exact ay _⟩
 ·exact ⟨_,rfl,fun _ h=>UJ h,UA _ _ _,lB _ _⟩
theorem yB (O:Ow) {xs ys:List D} (hl:xs.length+ys.length<=100000):rT O (.tup xs) (.tup ys)=.ok (.tup (xs++ys)) O:=by
 cases xs with
 | nil=>rfl
 | cons x xs=>
  show (if x::xs≠[]/\(x::xs).length+ys.length<=100000 then R.ok (D.tup (x::xs++ys)) O else R.bad)=_
  rw [if_pos ⟨by simp,hl⟩]
theorem Qy (O:Ow) {xs ys:List D} (hl:xs.length+ys.length<=100000):rT O (.lst xs) (.lst ys)=.ok (.lst (xs++ys)) O:=by
 show (if xs.length+ys.length<=100000 then R.ok (D.lst (xs++ys)) O else R.bad)=_
 rw [if_pos hl]
noncomputable def QH:DE:=(pT (b_ (a_ 4) (b_ (e_ Bi (dC (.str [45])) (a_ 2)) (b_ (sV (a_ 4) sA (r9 (wR (dC (.int 1))))) (b_ (e_ rT (a_ 4) (dC (.str [48]))) (b_ (DY [48] [50] (a_ 4)) (b_ (dC .non) (b_ (dC (.int 0)) (b_ (qZ (b_ (a_ 4) c_)) (b_ (dC (.str [])) (b_ (dC (.bl true)) c_)))))))))))
noncomputable def yu (cs:List Nat):List D:=[.str cs,.str (ao cs.length 45),.str cs.dropLast,.str (cs++[48]),.str (cs.map fun c=>if c==48 then 50 else c),.non,.int 0,.tup [.str cs],.str [],.bl true]
theorem VY (O:Ow) (x0 x1 x3 x5 x6:Option D):(n8.map fun cs=>QH [x0,x1,some (.int (cs.length:Nat)),x3,some (.str cs),x5,x6] O)=n8.map fun cs=>R.ok (.lst (yu cs)) O:=by kernel_rfl
theorem Vq {n:Nat} (h1:1<=n) (h4:n<=4) {cs:List Nat} (h:cs∈terms n):∀ d∈yu cs,vh d:=fun d hd=>by
 have hl:=sX h1 h4 h
 have hs:=EG h1 h4 h
 unfold yu at hd
 simp only [aw,aR,or_false] at hd
 rcases hd with rfl|rfl|rfl|rfl|rfl|rfl|rfl|rfl|rfl|rfl
 ·exact MI h1 h4 h
 ·exact .inl ⟨_,rfl,fun c hc=>by rw [List.eq_of_mem_replicate hc];decide,by rw [ir];omega⟩
 ·exact .inl ⟨_,rfl,fun c hc=>Ee (hs c ((List.dropLast_sublist cs).subset hc)),by rw [List.length_dropLast];omega⟩
 ·refine .inl ⟨_,rfl,fun c hc=>?_,by simp;omega⟩
  rcases aN.mp hc with hc|hc
  ·exact Ee (hs c hc)
  ·have:c=48:=by simpa using hc
   rw [this];decide
 ·refine .inl ⟨_,rfl,fun c hc=>?_,by simp;omega⟩
  obtain ⟨x,hx,rfl⟩:=bb.mp hc
  split
  ·decide
  ·exact Ee (hs x hx)
 ·exact .inr (.inr (.inl rfl))
 ·exact .inr (.inr (.inr (.inl rfl)))
 ·exact .inr (.inl ⟨_,rfl⟩)
 ·exact .inl ⟨[],rfl,fun c hc=>(by cases hc),by simp⟩
 ·exact .inr (.inr (.inr (.inr rfl)))
theorem NR:∀ l:List (List Nat),(∀ t∈l,t.length<=4)->∃ zs,xQ (l.map D.str)=some zs/\zs.length=l.length/\(zs.map (·.length)).sum<=4*l.length
 | [],_=>⟨[],rfl,rfl,ay _⟩
 | t::l,h=>by
  obtain ⟨zs,e1,e2,e3⟩:=NR l fun x hx=>h x (aq _ hx)
  have ht:=h t aI
  refine ⟨⟨t.toArray⟩::zs,?_,by simp [e2],?_⟩
  ·show (xQ (l.map D.str)).map _=_
   rw [e1];rfl
  ·rw [cn,List.sum_cons,bv]
   have:(⟨t.toArray⟩:Str).length=t.length:=by show t.toArray.size=_;simp
   omega
theorem WN {σ:Sg} {O:Ow} {l:List (List Nat)} (h:a_ 1 σ O=.ok (.tup (l.map .str)) O) (hl:∀ t∈l,t.length<=4) (hlen:l.length<=54):∃ w,zQ (dC (.str [32])) (b_ (a_ 1) c_) σ O=.ok (.str w) O:=by
 obtain ⟨zs,e1,e2,e3⟩:=NR l hl
 refine ⟨(kU ⟨[32].toArray⟩ zs).cps.toList,?_⟩
 show ((b_ (a_ 1) c_ σ O).bnd _)=_
 rw [o3 h]
 show (match xQ (l.map D.str) with|some zs=>if [32].length<=16/\(zs.map fun z:Str=>z.length).sum+zs.length<=1048576 then R.ok (D.str (kU ⟨[32].toArray⟩ zs).cps.toList) O else .bad|none=>.bad)=_
 rw [e1]
 show (if [32].length<=16/\(zs.map fun z:Str=>z.length).sum+zs.length<=1048576 then R.ok (D.str (kU ⟨[32].toArray⟩ zs).cps.toList) O else .bad)=_
 rw [if_pos ⟨by decide,by omega⟩]
def yp:List Nat:=[0,0,1,1,2,2,3,4,5,6,7,8,8,9]
theorem R_:(yp.all fun q=>decide (q<10))=true:=by decide
section
variable {n m:Nat} (h1:1<=n) (h4:n<=4) {l:List (List Nat)} (pF:∀ t∈l,t∈terms n) (hlen:l.length<=54) {O:Ow} {s:Int} {b:Bool}
include h1 h4 pF hlen
theorem ZL (hs:nR O m s b):∃ d s',xb [.own m,.tup (l.map .str),.int (n:Nat)] O=.ok d (O.set m [.int s',.bl b])/\nR (O.set m [.int s',.bl b]) m s' b/\Ask d:=by
 let A:Option D:=some (.own m)
 let F:Option D:=some (.tup (l.map .str))
 let N:Option D:=some (.int (n:Nat))
 have wm:(l.map D.str).length=l.length:=aM _
 obtain ⟨r,s1,r1,r2,r3⟩:=w8 hs (k:=l.length+1) (by omega) (by omega)
 obtain ⟨vs,s2,c1,c2,c3,c4⟩:=Mc (o:=false) (ext:=1) (i:=7) (σ:=[A,F,N,some (.int (r:Nat)),none,none,none]) (it0:=rS (b_ (a_ 2) c_)) (ds:=(bd n).map fun (i:Nat)=>D.int (i:Int)) (te:=e_ pf (dC (.str [48,49,45])) (j_ 2 q0 (b_ (a_ 0) (b_ (dC (.int 3)) c_)))) (P:=fun v=>∃ c,v=D.str [c]/\sgn c=true) r3 (ya (o3 rfl) (by omega)) (by simp;omega) (fun d hd s' wK=>by
  rw [d6] at wK
  obtain ⟨j,qf,j1,j2,j3⟩:=w8 wK (k:=3) (by decide) (by decide)
  rw [d6] at j2 j3
  have:∃ c,pf (O.set m [.int qf,.bl b]) (.str [48,49,45]) (.int (j:Nat))=.ok (.str [c]) (O.set m [.int qf,.bl b])/\sgn c=true:=by
   have:j=0\/j=1\/j=2:=by omega
   rcases this with rfl|rfl|rfl
   ·exact ⟨48,rfl,rfl⟩
   ·exact ⟨49,rfl,rfl⟩
   ·exact ⟨45,rfl,rfl⟩
  obtain ⟨c,k1,k2⟩:=this
  refine ⟨.str [c],qf,?_,?_,c,rfl,k2⟩
  ·rw [d6,d6]
   exact pP (x:=.str [48,49,45]) rfl (o5 (pE rfl rfl) j2) k1
  ·rw [d6];exact j3)
 rw [d6] at c1 c2
 obtain ⟨cs,rfl,s_⟩:=L5 vs c4
 have qi:cs.length=n:=by simpa using c3
 have FA:cs∈terms n:=Hn n cs qi s_
 have eT:=UW (σ:=[A,F,N,some (.int (r:Nat)),none,none,none]) cs (by omega) (by omega) (o3 c1)
 obtain ⟨j,s3,j1,j2,j3⟩:=w8 c2 (k:=10) (by decide) (by decide)
 rw [d6] at j2 j3
 have hj:j<(yu cs).length:=j1
 have eO:=cW.mp (VY (O.set m [.int s2,.bl b]) A F (some (.int (r:Nat))) none none) cs (vY h1 h4 FA)
 rw [qi] at eO
 generalize hx:(yu cs)[j]=x at *
 have hxo:vh x:=by rw [<- hx];exact Vq h1 h4 FA _ (cr hj)
 generalize Ju:O.set m [.int s3,.bl b]=O3 at *
 let st (z:Option D):Sg:=[A,F,N,some (.int (r:Nat)),some (.str cs),some x,z]
 obtain ⟨a1,JE,wI⟩:=D1 (σ:=st none) (O:=O3) (te:=a_ 1) (tl:=sA) (th:=r9 (a_ 3)) (ds:=l.map .str) (lo:=none) (hi:=some (r:Int)) rfl rfl rfl
 obtain ⟨a2,ea2,yf⟩:=D1 (σ:=st none) (O:=O3) (te:=a_ 1) (tl:=r9 (a_ 3)) (th:=sA) (ds:=l.map .str) (lo:=some (r:Int)) (hi:=none) rfl rfl rfl
 obtain ⟨a3,PX,Fc⟩:=D1 (σ:=st none) (O:=O3) (te:=a_ 1) (tl:=r9 (e_ rT (a_ 3) (dC (.int 1)))) (th:=sA) (ds:=l.map .str) (lo:=some ((r:Int)+1)) (hi:=none) rfl rfl rfl
 have n1:=wI.len
 have n2:=yf.len
 have n3:=Fc.len
 have eX:qZ (b_ (a_ 5) c_) (st none) O3=.ok (.tup [x]) O3:=Bo (o3 rfl) (by show 1<=100000;decide)
 have i0:=pP (pP JE eX (yB O3 (by simp;omega))) ea2 (yB O3 (by simp;omega))
 have i1:=pP (pP JE eX (yB O3 (by simp;omega))) PX (yB O3 (by simp;omega))
 have i2:=pP JE PX (yB O3 (by omega))
 let L1:List D:=[.tup (a1++[x]++a2),.tup (a1++[x]++a3),.tup (a1++a3),.lst (l.map .str)]
 have f1:=Gp (uS i0 (uS i1 (uS i2 (o3 (t:=oU (zS false) (b_ (a_ 1) c_)) (x:=.lst (l.map .str)) (sE (o3 rfl) rfl))))) (by show 4<=100000;decide)
 obtain ⟨a4,ea4,HS⟩:=D1 (σ:=st (some (.lst L1))) (O:=O3) (te:=a_ 1) (tl:=r9 (wR (dC (.int 1)))) (th:=sA) (ds:=l.map .str) (lo:=some (-1)) (hi:=none) rfl rfl rfl
 have n4:=HS.len
 have k1:=wI.cut
 have k2:=yf.cut
 have k3:=Fc.cut
 have k4:=HS.cut
 rw [HT.sIx_none,HT.sIx_nat,wm] at k1 k2
 rw [show ((r:Int)+1)=((r+1:Nat):Int) by omega,HT.sIx_none,HT.sIx_nat,wm] at k3
 have e4:HT.sIx (l.map D.str).length 0 (some (-1))=l.length-1:=by
  show (if (-1:Int)<0 then ((-1:Int)+((l.map D.str).length:Int)).toNat else min (-1:Int).toNat (l.map D.str).length)=_
  rw [if_pos (by decide),wm];omega
 rw [HT.sIx_none,e4,wm] at k4
 have i4:D6 (a_ 1) (r9 (wR (dC (.int 1)))) (st (some (.lst L1))) O3=.ok (.tup (l.map D.str).reverse) O3:=rfl
 have i5:e_ rT (a_ 1) (sV (a_ 1) (r9 (wR (dC (.int 1)))) sA) (st (some (.lst L1))) O3=.ok (.tup (l.map .str++a4)) O3:=pP rfl ea4 (yB O3 (by omega))
 have i8:oU uz (b_ (yC false (b_ (e_ rT (a_ 1) (qZ (b_ (a_ 4) c_))) c_)) c_) (st (some (.lst L1))) O3=.ok (.tup ((qj (l++[cs])).map .str)) O3:=
  sE (o3 (L3 (l:=l++[cs]) (o3 (pP (x:=.tup (l.map .str)) (y:=.tup [.str cs]) rfl (Bo (o3 rfl) (by show 1<=100000;decide)) (yB O3 (by simp;omega)))) (.inr (by rw [dW];rfl)) (by simp;omega))) rfl
 obtain ⟨w,i9⟩:=WN (σ:=st (some (.lst L1))) (O:=O3) (l:=l) rfl (fun t ht=>by rw [sX h1 h4 (pF t ht)];exact h4) hlen
 let L2:List D:=[.tup (l.map D.str).reverse,.tup (l.map .str++a4),.non,.dct,.tup ((qj (l++[cs])).map .str),.str w]
 have f2:=pP (t:=a_ 6) (σ:=st (some (.lst L1))) (O:=O3) (x:=.lst L1) rfl (Gp (uS i4 (uS i5 (uS (t:=dC .non) (x:=.non) rfl (uS (t:=Bc) (x:=.dct) rfl (uS i8 (o3 i9)))))) (by show 6<=100000;decide)) (Qy O3 (by show 4+6<=100000;decide))
 rw [<- Ju] at j3
 obtain ⟨q,s4,q1,q2,q3⟩:=w8 j3 (k:=14) (by decide) (by decide)
 rw [d6] at q2 q3
 rw [Ju] at q2
 have hq:q<yp.length:=q1
 have IW:(L1++L2).length=10:=rfl
 have II:yp[q]<(L1++L2).length:=by
  rw [IW]
  have:=aF.mp R_ yp[q] (cr hq)
  simpa using this
 have rJ:∀ {a:List D} {lo hi:Option Int},Sub (l.map .str) a lo hi->∀ d∈a,vh d:=fun hs d hd=>yb h1 h4 pF d (hs.mem d hd)
 have u9:∀ {a c:List D},(∀ d∈a,vh d)->(∀ d∈c,vh d)->∀ d∈a++c,vh d:=fun ha hc d hd=>by
  rcases aN.mp hd with h|h
  ·exact ha d h
  ·exact hc d h
 have CQ:∀ d∈[x],vh d:=fun d hd=>by
  have:d=x:=by simpa using hd
  rw [this];exact hxo
 have qr:∀ d∈L1++L2,Ask d:=fun d hd=>by
  simp only [L1,L2,il,dU,aw,aR,or_false] at hd
  rcases hd with rfl|rfl|rfl|rfl|rfl|rfl|rfl|rfl|rfl|rfl
  ·refine .inl ⟨_,rfl,?_,by rw [ar,ar,e8];omega⟩
   exact u9 (u9 (rJ wI) CQ) (rJ yf)
  ·refine .inl ⟨_,rfl,?_,by rw [ar,ar,e8];omega⟩
   exact u9 (u9 (rJ wI) CQ) (rJ Fc)
  ·refine .inl ⟨_,rfl,?_,by rw [ar];omega⟩
   exact u9 (rJ wI) (rJ Fc)
  ·exact .inr (.inl ⟨_,rfl⟩)
  ·refine .inl ⟨_,rfl,fun d hd=>?_,by simp;omega⟩
   exact yb h1 h4 pF d (fM.mp hd)
  ·refine .inl ⟨_,rfl,?_,by rw [ar,wm];omega⟩
   exact u9 (yb h1 h4 pF) (rJ HS)
  ·exact .inr (.inr (.inl rfl))
  ·exact .inr (.inr (.inr (.inl rfl)))
  ·have hq:=GV (l++[cs])
   rw [ar] at hq
   refine .inl ⟨_,rfl,yb h1 h4 fun t ht=>?_,by rw [aM];simp at hq;omega⟩
   rcases aN.mp ((yL _).mp ht) with h|h
   ·exact pF t h
   ·have:t=cs:=by simpa using h
    rw [this];exact FA
  ·exact .inr (.inr (.inr (.inr ⟨_,rfl⟩)))
 refine ⟨(L1++L2)[yp[q]],s4,?_,q3,qr _ (cr II)⟩
 show fin (HJ [A,F,N,none,none,none,none] O)=_
 unfold HJ
 have hC:pf (O.set m [.int s4,.bl b]) (.lst (yp.map fun (k:Nat)=>D.int (k:Int))) (.int (q:Nat))=.ok (.int (yp[q]:Nat)) (O.set m [.int s4,.bl b]):=by
  rw [Bw (by rw [aM];exact hq),mG]
 refine sD (qC (x:=.int (r:Nat)) (o5 (pE rfl (pP (y:=.int 1) (sE (o3 rfl) (MD O _)) rfl (by rw [wm];rfl))) r2) (qC (x:=.str cs) eT (qC (x:=.lst (yu cs)) eO (qC (x:=x) (O1:=O3) (pP (x:=.lst (yu cs)) rfl (o5 (pE rfl rfl) j2) (by rw [Bw hj,hx])) (qC (x:=.lst L1) f1 (qC (x:=.lst (L1++L2)) f2 (qQ ?_)))))))
 exact pP (x:=.lst (L1++L2)) rfl (pP (x:=.lst (yp.map fun (k:Nat)=>D.int (k:Int))) rfl (o5 (pE rfl rfl) q2) hC) (Bw II)
end
theorem Hf {α:Type} {src:Src} {step:D->Ow->List D->R (List D)} {O:Ow} {inj:α->D} {g:α->List D} {l:List α} {acc:List D} (hg:∀ i,src.get O i=(l.map inj)[i]?) (hs:∀ (i:Nat) a,l[i]?=some a->step (inj a) O (acc++(l.take i).flatMap g)=.ok (acc++(l.take (i+1)).flatMap g) O):
  ∀ (f i:Nat),i<=l.length->l.length<=i+f->qc src step f i O (acc++(l.take i).flatMap g)=.ok (acc++l.flatMap g) O
 | 0,i,h1,h2=>by
  have:i=l.length:=by omega
  subst this
  have e:src.get O l.length=none:=by rw [hg];simp
  unfold qc
  rw [e,dM]
 | f+1,i,h1,h2=>by
  by_cases hi:i=l.length
  ·subst hi
   have e:src.get O l.length=none:=by rw [hg];simp
   unfold qc
   rw [e,dM]
  ·have pF:i<l.length:=by omega
   have e:src.get O i=some (inj l[i]):=by rw [hg,bh,au pF];rfl
   unfold qc
   rw [e]
   show ((step (inj l[i]) O (acc++(l.take i).flatMap g)).bnd _)=_
   rw [hs i l[i] (au pF)]
   exact Hf hg hs f (i+1) (by omega) (by omega)
theorem EE {α β:Type} {g:α->List β} {l:List α} {i:Nat} {a:α} (h:l[i]?=some a):(l.take (i+1)).flatMap g=(l.take i).flatMap g++g a:=by
 rw [fH,h,iS];simp
theorem Y8 {α β:Type} {g:α->List β} (l:List α) (i:Nat):((l.take i).flatMap g).length<=(l.flatMap g).length:=by
 conv=>rhs;rw [<- bT i l]
 rw [iS,ar];omega
theorem K8 {α β:Type} {ext:Nat} {it0 yW:DI} {i j:Nat} {ts:List DT} {te:DE} {σ:Sg} {O O0:Ow} {src:Src} {l:List α} {inj:α->D} {m:α->List β} {inj2:β->D} {p:α->β->Bool} {e:α->β->D} {τ:α->Sg} {τ2:α->β->Sg} {o:Bool}
  (hi:it0 σ O0=.ok src O) (hg:∀ i,src.get O i=(l.map inj)[i]?) (o_:src.size O=l.length) (hlen:(l.flatMap m).length<50000)
  (yZ:∀ a,(pz (pz (σ++ao ext none) [i,j]) [i,j]).set i (some (inj a))=τ a) (Iv:∀ a b,(pz (τ a) [j]).set j (some (inj2 b))=τ2 a b)
  (h1:∀ a∈l,yW (τ a) O=.ok (.val ((m a).map inj2)) O) (hp:∀ a∈l,∀ b∈m a,sJ ts (τ2 a b) O=.ok (p a b) O) (he:∀ a∈l,∀ b∈m a,te (τ2 a b) O=.ok (e a b) O):
  pG o ext it0 (.one i) [] [⟨yW,.one j,ts⟩] te σ O0=uq o (.ok (l.flatMap fun a=>((m a).filter (p a)).map (e a)) O):=by
 unfold pG xY
 rw [hi]
 show uq o (wJ (qc src _ (src.size O) 0 O []))=_
 have fl:∀ (a:α) (k:List β),(k.flatMap fun b=>if p a b=true then [e a b] else []).length<=k.length:=fun a k=>by
  rw [BW,aM];exact bB _ _
 have fa:∀ k:List α,(k.flatMap fun a=>((m a).filter (p a)).map (e a)).length<=(k.flatMap m).length:=fun k=>by
  induction k with
  | nil=>simp
  | cons x k ih=>
   rw [cI,cI,ar,ar,aM]
   have:=bB (p x) (m x)
   omega
 have w:=Hf (O:=O) (src:=src) (step:=wW ⟨it0,.one i,[]⟩ [⟨yW,.one j,ts⟩] te (pz (σ++ao ext none) (pS [⟨it0,.one i,[]⟩,⟨yW,.one j,ts⟩]))) (g:=fun a=>((m a).filter (p a)).map (e a)) (acc:=[]) hg (fun k a ha=>by
  have hm:=aC ha
  show sO [⟨yW,.one j,ts⟩] te ((pz (pz (σ++ao ext none) [i,j]) [i,j]).set i (some (inj a))) O _=_
  rw [yZ]
  unfold sO
  show ((yW (τ a) O).bnd _)=_
  rw [h1 a hm]
  show qc (.val ((m a).map inj2)) _ ((m a).map inj2).length 0 O _=_
  have hle:=Y8 (g:=m) l (k+1)
  rw [EE ha,ar] at hle
  have hk:=fa (l.take k)
  rw [EE ha]
  have w2:=Hf (O:=O) (src:=.val ((m a).map inj2)) (step:=fun d O2 acc=>match Tg.put (.one j) d (pz (τ a) (pS [⟨yW,.one j,ts⟩])) with|some pI=>(sJ ts pI O2).bnd fun b O3=>if b=true then sO [] te pI O3 acc else .ok acc O3|none=>.bad) (g:=fun b=>if p a b=true then [e a b] else []) (l:=m a) (inj:=inj2) (acc:=[]++(l.take k).flatMap fun a=>((m a).filter (p a)).map (e a)) (fun _=>rfl) (fun q b hb=>by
   have rN:=aC hb
   show ((sJ ts ((pz (τ a) [j]).set j (some (inj2 b))) O).bnd fun b' O3=>if b'=true then sO [] te ((pz (τ a) [j]).set j (some (inj2 b))) O3 _ else .ok _ O3)=_
   rw [Iv,hp a hm b rN,EE hb]
   show (if p a b=true then sO [] te (τ2 a b) O _ else .ok _ O)=_
   have hq:=fl a ((m a).take q)
   have II:=fC q (m a)
   by_cases Fq:p a b=true
   ·rw [if_pos Fq,if_pos Fq]
    unfold sO
    rw [he a hm b rN]
    show (if _<100000 then _ else _)=_
    rw [if_pos (by rw [dU,ar];omega)]
    simp
   ·rw [if_neg Fq,if_neg Fq,bM]) ((m a).map inj2).length 0 (cz _) (by simp)
  rw [mY,mI,bM,BW] at w2
  refine Eq.trans (show _=_ from w2) ?_
  rw [dU];rfl) l.length 0 (cz _) (by simp)
 rw [mY,mI,bM,dU] at w
 rw [o_,w];rfl
theorem Hv {α β:Type} {f g:α->List β}:∀ {l:List α},(∀ a∈l,f a=g a)->l.flatMap f=l.flatMap g
 | [],_=>rfl
 | x::l,h=>by rw [cI,cI,h x aI,Hv fun a ha=>h a (aq _ ha)]
def xF (p q:Nat):Bool:=decide (p<q)&&[1,2,4,8].contains (p^^^q)
def oy:List (Nat×Nat):=(bd 16).flatMap fun p=>(bd 16).map fun q=>(p,q)
theorem MS (hp:p<16) (hq:q<16):(p,q)∈oy:=eN.mpr ⟨p,bK.mpr hp,bb.mpr ⟨q,bK.mpr hq,rfl⟩⟩
noncomputable def tP:DT:=(sC (oZ (e_ tY (a_ 2) (a_ 3))) (oZ (e_ uF (e_ (fI xJ) (a_ 2) (a_ 3)) (dC (.tup (oq.map .int))))))
theorem Ss (O:Ow) (x0 x1:Option D):(oy.map fun q=>tP [x0,x1,some (.int (q.1:Nat)),some (.int (q.2:Nat))] O)=oy.map fun q=>R.ok (xF q.1 q.2) O:=by kernel_rfl
noncomputable def cL:DT:=(sC (oZ (e_ tY (a_ 2) (a_ 3))) (oZ (e_ (oQ qp) (e_ (fI A9) (a_ 4) (e_ (fI vT) (a_ 4) (dC (.int 1)))) (dC (.int 0)))))
noncomputable def tL:DS:=(m_ (oX 4 (e_ (fI xJ) (a_ 2) (a_ 3))) (pj cL (rm (t7 (a_ 1) (b_ (qZ (b_ (a_ 2) (b_ (a_ 3) c_))) c_))) pC))
theorem Uh (O:Ow) (x0 x1 x4:Option D):(oy.map fun q=>e_ (fI xJ) (a_ 2) (a_ 3) [x0,x1,some (.int (q.1:Nat)),some (.int (q.2:Nat)),x4] O)=oy.map fun q=>R.ok (.int ((q.1^^^q.2:Nat))) O:=by kernel_rfl
theorem RF (O:Ow) (x0 x1:Option D):(oy.map fun q=>cL [x0,x1,some (.int (q.1:Nat)),some (.int (q.2:Nat)),some (.int ((q.1^^^q.2:Nat)))] O)=oy.map fun q=>R.ok (xF q.1 q.2) O:=by kernel_rfl
def pr (q:Nat×Nat):D:=.tup [.int (q.1:Nat),.int (q.2:Nat)]
def vV (f:List D) (p:Nat):List (Nat×Nat):=((pW f).filter (xF p)).map fun q=>(p,q)
def rW (f:List D):List (Nat×Nat):=(pW f).flatMap (vV f)
theorem En (hf:Fn n f) (h:p∈pW f):p<16:=by
 have h1:=(oj.mp h).1
 have h2:=yP hf.n4
 have h3:=hf.len
 omega
theorem Va (h:q∈rW f):q.1∈pW f/\q.2∈pW f:=by
 obtain ⟨p,hp,hq⟩:=eN.mp h
 obtain ⟨r,hr,rfl⟩:=bb.mp hq
 exact ⟨hp,(bw.mp hr).1⟩
theorem vZ {α β:Type} {g:α->List β} {k:Nat}:∀ l:List α,(∀ a∈l,(g a).length<=k)->(l.flatMap g).length<=l.length*k
 | [],_=>by simp
 | x::l,h=>by
  rw [cI,ar,bv,lV]
  have:=h x aI
  have:=vZ l fun a ha=>h a (aq _ ha)
  omega
theorem Ms (hf:Fn n f) (p:Nat):(vV f p).length<=16:=by
 unfold vV
 rw [aM]
 exact aU (bB _ _) (Ao hf)
theorem Mm {n:Nat} {f:List D} (hf:Fn n f):(rW f).length<=256:=by
 have h1:=vZ (g:=vV f) (k:=16) (pW f) fun a _=>Ms hf a
 have h2:=Ao hf
 unfold rW
 omega
theorem WC {n:Nat} {f:List D} (hf:Fn n f) (O:Ow):Eo [.tup f] O=.ok (.lst ((rW f).map pr)) O:=by
 have A2:=Ao hf
 let A:Option D:=some (.tup f)
 let S:Option D:=some (.lst (rG (pW f)))
 show fin (GP [A,none] O)=_
 unfold GP
 refine sD (Gz (o5 (o3 rfl) (GD hf O)) (qC (x:=.lst (rG (pW f))) (O1:=O) (o5 (pE rfl rfl) (Ob hf O)) (qQ ?_)))
 refine (K8 (o:=false) (O:=O) (src:=.val (rG (pW f))) (l:=pW f) (inj:=fun (p:Nat)=>D.int (p:Int)) (m:=fun _=>pW f) (inj2:=fun (p:Nat)=>D.int (p:Int)) (p:=xF) (e:=fun p q=>pr (p,q)) (τ:=fun (p:Nat)=>[A,S,some (.int (p:Int)),none]) (τ2:=fun (p q:Nat)=>[A,S,some (.int (p:Int)),some (.int (q:Int))]) (ua rfl) (fun _=>rfl) ?_ ?_ (fun _=>rfl) (fun _ _=>rfl) (fun a ha=>ua rfl) (fun a ha b hb=>BG ?_) (fun a ha b hb=>?_)).trans ?_
 ·show (rG (pW f)).length=_
  unfold rG;rw [aM]
 ·have:=vZ (g:=fun _=>pW f) (k:=16) (pW f) fun a _=>A2
  omega
 ·exact cW.mp (Ss O A S) (a,b) (MS (En hf ha) (En hf hb))
 ·exact Bo (pE rfl rfl) (by show 2<=100000;decide)
 ·show R.ok (D.lst _) O=_
  congr 2
  unfold rW vV
  rw [mJ]
  refine Hv fun a _=>?_
  rw [cO];rfl
theorem Rf (hf:Fn n f) (hp:p∈pW f) (hq:q∈pW f) (hl:l.length<1000):
  tL [x0,some (.own O.length),some (.int (p:Nat)),some (.int (q:Nat)),x4] (O++[l])=.nx [x0,some (.own O.length),some (.int (p:Nat)),some (.int (q:Nat)),some (.int ((p^^^q:Nat)))] (O++[if xF p q=true then l++[pr (p,q)] else l]):=by
 have hm:=MS (En hf hp) (En hf hq)
 have e1:e_ (fI xJ) (a_ 2) (a_ 3) [x0,some (.own O.length),some (.int (p:Nat)),some (.int (q:Nat)),x4] (O++[l])=.ok (.int ((p^^^q:Nat))) (O++[l]):=cW.mp (Uh (O++[l]) x0 (some (.own O.length)) x4) (p,q) hm
 have e2:cL [x0,some (.own O.length),some (.int (p:Nat)),some (.int (q:Nat)),some (.int ((p^^^q:Nat)))] (O++[l])=.ok (xF p q) (O++[l]):=cW.mp (RF (O++[l]) x0 (some (.own O.length))) (p,q) hm
 generalize p^^^q=x at *
 unfold tL
 rw [sh (yK e1)]
 show pj cL _ _ [x0,some (.own O.length),some (.int (p:Nat)),some (.int (q:Nat)),some (.int (x:Nat))] (O++[l])=_
 rw [rV e2]
 cases h:xF p q with
 | false=>rfl
 | true=>
  rw [if_pos rfl,if_pos rfl,BF (ds:=l) (y:=pr (p,q)) rfl (Bo (pE rfl rfl) (by show 2<=100000;decide)) x9 (by omega),BH]
theorem LD {O X:Ow} (hO:qL O) {l:List (Nat×Nat)}:t5 O.length (.ok (.own O.length) (O++[l.map pr]++X))=.ok (.lst (l.map pr)) O:=by
 rw [aY]
 refine Hd hO _ ?_
 unfold frz
 dsimp only
 rw [if_neg (bP _),Wk]
 dsimp only
 rw [vA fun d hd=>?_]
 ·rfl
 ·obtain ⟨q,_,rfl⟩:=bb.mp hd
  exact GQ fun d hd=>by
   simp only [aw,aR,or_false] at hd
   rcases hd with rfl|rfl<;>rfl
theorem Zn {n:Nat} {f:List D} (hf:Fn n f) {O:Ow} (hO:qL O):BO [.tup f] O=.ok (.lst ((rW f).map pr)) O:=by
 have A2:=Ao hf
 let A:Option D:=some (.tup f)
 let C:Option D:=some (.own O.length)
 obtain ⟨σ',O',l1,y2,y3,y4,rfl,rfl⟩:=xR (i:=2) (it:=pD (j_ 1 vB (b_ (a_ 0) c_))) (body:=r6 (pD (j_ 1 vB (b_ (a_ 0) c_))) (.one 3) tL) (σ:=[A,C,none,none,none]) (O0:=O++[[]]) (O:=O++[[]]) (l:=pW f) (inj:=fun (p:Nat)=>D.int (p:Int)) (ua (o5 (o3 rfl) (Ej hf _)))
  (fun j σ O'=>∃ y2 y3 y4,σ=[A,C,y2,y3,y4]/\O'=O++[((((pW f).take j).flatMap (vV f)).map pr)]) (fun j p σ O' hp hI=>by
   obtain ⟨y2,y3,y4,rfl,rfl⟩:=hI
   have vG:=aC hp
   have hj:=vZ (g:=vV f) (k:=16) ((pW f).take j) fun a _=>Ms hf a
   have hj2:=fC j (pW f)
   obtain ⟨σ',O',l1,z3,z4,rfl,rfl⟩:=xR (i:=3) (it:=pD (j_ 1 vB (b_ (a_ 0) c_))) (body:=tL) (σ:=[A,C,some (.int (p:Int)),y3,y4]) (O0:=O++[((((pW f).take j).flatMap (vV f)).map pr)]) (O:=O++[((((pW f).take j).flatMap (vV f)).map pr)]) (l:=pW f) (inj:=fun (p:Nat)=>D.int (p:Int)) (ua (o5 (o3 rfl) (Ej hf _)))
    (fun i σ O'=>∃ z3 z4,σ=[A,C,some (.int (p:Int)),z3,z4]/\O'=O++[(((pW f).take j).flatMap (vV f)).map pr++((((pW f).take i).filter (xF p)).map fun q=>pr (p,q))]) (fun i q σ O' hq hI=>by
     obtain ⟨z3,z4,rfl,rfl⟩:=hI
     have hi1:=bB (xF p) ((pW f).take i)
     have hi2:=fC i (pW f)
     refine ⟨_,_,Rf hf vG (aC hq) (O:=O) (by rw [ar,aM,aM];omega),_,_,rfl,?_⟩
     rw [Ht _ hq]
     congr 2
     split
     ·rw [dW,aY];rfl
     ·rw [bM]) ⟨y3,y4,rfl,by simp⟩
   refine ⟨_,_,l1,_,_,_,rfl,?_⟩
   rw [EE hp,dM,dW]
   congr 3
   unfold vV
   rw [cO];rfl) ⟨none,none,none,rfl,by simp⟩
 show t5 O.length (fin (ET [A,none,none,none,none] O))=_
 rw [dM] at l1
 have hB:ET [A,none,none,none,none] O=.rt (.own O.length) (O++[(rW f).map pr]):=by
  unfold ET
  exact qC (x:=.own O.length) (O1:=O++[[]]) rfl (vW l1 (qQ rfl))
 rw [sD hB]
 have:=LD (X:=[]) hO (l:=rW f)
 rw [bM] at this
 exact this
def uv (t:List Nat) (q:Nat×Nat):Bool:=(qv t).contains q.1&&(qv t).contains q.2
noncomputable def zF (f:List D) (l:List (List Nat)):List (Nat×Nat):=(rW f).filter fun q=>(l.filter fun t=>uv t q).isEmpty
theorem Rm (q:Nat×Nat):pl 7 (pr q)=true:=rfl
theorem K5 (l:List (Nat×Nat)):(l.map pr).all (pl 7)=true:=aF.mpr fun d hd=>by
 obtain ⟨q,_,rfl⟩:=bb.mp hd;rfl
theorem RZ (h:pr a=pr b):a=b:=by
 unfold pr at h
 injection h with h
 injection h with h1 h2
 injection h2 with h2 _
 injection h1 with h1
 injection h2 with h2
 exact kO (by omega) (by omega)
theorem Td {n:Nat} (h1:1<=n) (h4:n<=4) {t:List Nat} (ht:t∈terms n) {O:Ow} {l:List (Nat×Nat)} (hl:l.length<1000):BK [.str t,.lst (l.map pr)] O=.ok (.lst ((l.filter (uv t)).map pr)) O:=by
 show fin (Hm [some (.str t),some (.lst (l.map pr)),none] O)=_
 unfold Hm
 refine sD (qC (x:=.lst (rG (qv t))) (O1:=O) (o5 (o3 rfl) (Hz (vY h1 h4 ht) O)) (qQ ?_))
 exact (Am (o:=false) (O:=O) (src:=.val (l.map pr)) (l:=l) (inj:=pr) (p:=uv t) (e:=pr) (τ:=fun q=>[some (.str t),some (.lst (l.map pr)),some (.lst (rG (qv t))),some (.int (q.1:Nat)),some (.int (q.2:Nat))]) (ua rfl) (fun _=>rfl) (by show (l.map pr).length=_;simp) (by omega) (fun _ _=>rfl) (fun q _=>BG (GU (ra (pP rfl rfl (GF O _ _))) fun _=>ra (pP rfl rfl (GF O _ _)))) (fun q _ _=>Bo (pE rfl rfl) (by show 2<=100000;decide))).trans rfl
theorem Vw {n:Nat} {f:List D} (hf:Fn n f) {l:List (List Nat)} (ht:∀ t∈l,t∈terms n) (hlen:l.length<=100) (O:Ow):EV [.tup f,.tup (l.map .str)] O=.ok (.lst ((zF f l).map pr)) O:=by
 have hs:=Mm hf
 let A:Option D:=some (.tup f)
 let L:Option D:=some (.tup (l.map .str))
 let W:Option D:=some (.lst ((rW f).map pr))
 let K:List (Nat×Nat):=l.flatMap fun t=>(rW f).filter (uv t)
 have hK:K.length<=100*256:=by
  have:=vZ (g:=fun t=>(rW f).filter (uv t)) (k:=256) l fun t _=>aU (bB _ _) hs
  have h2:l.length*256<=100*256:=Nat.mul_le_mul_right _ hlen
  exact aU this h2
 have e1:pG false 2 (pD (a_ 1)) (.one 4) [] [⟨(pD (j_ 2 BK (b_ (a_ 4) (b_ (a_ 2) c_)))),(.one 5),[]⟩] (a_ 5) [A,L,W,none] O=.ok (.lst (K.map pr)) O:=by
  refine (K8 (o:=false) (O:=O) (src:=.val (l.map .str)) (l:=l) (inj:=D.str) (m:=fun t=>(rW f).filter (uv t)) (inj2:=pr) (p:=fun _ _=>true) (e:=fun _ q=>pr q) (τ:=fun t=>[A,L,W,none,some (.str t),none]) (τ2:=fun t q=>[A,L,W,none,some (.str t),some (pr q)]) (xZ rfl) (fun _=>rfl) (by show (l.map D.str).length=_;simp) (by show K.length<_;omega) (fun _=>rfl) (fun _ _=>rfl) (fun t h=>ua (o5 (pE rfl rfl) (Td hf.n1 hf.n4 (ht t h) (by omega)))) (fun _ _ _ _=>rfl) (fun _ _ _ _=>rfl)).trans ?_
  show R.ok (D.lst _) O=_
  congr 2
  show _=List.map pr (l.flatMap _)
  rw [mJ]
  refine Hv fun a _=>?_
  rw [Hu]
 show fin (HB [A,L,none,none] O)=_
 unfold HB
 refine sD (qC (x:=.lst ((rW f).map pr)) (O1:=O) (o5 (o3 rfl) (WC hf O)) (qC (x:=.lst (K.map pr)) (O1:=O) e1 (qQ ?_)))
 refine (Am (o:=false) (O:=O) (src:=.val ((rW f).map pr)) (l:=rW f) (inj:=pr) (p:=fun q=>!K.contains q) (e:=pr) (τ:=fun q=>[A,L,W,some (.lst (K.map pr)),some (pr q)]) (ua rfl) (fun _=>rfl) (by show ((rW f).map pr).length=_;simp) (by omega) (fun _ _=>rfl) (fun q _=>BG (ra (pP rfl rfl (Kr O (l:=K.map pr) (b:=K.contains q) (Rm q) (K5 K) (.inl rfl) ?_).2))) (fun q _ _=>rfl)).trans ?_
 ·rw [cm,bb]
  constructor
  ·intro h;exact ⟨q,h,rfl⟩
  ·rintro ⟨r,h,e⟩
   rw [<- RZ e];exact h
 ·show R.ok (D.lst _) O=_
  congr 3
  refine List.filter_congr fun q hq=>?_
  rw [Az,dS,fY,aF]
  constructor
  ·intro h t y_
   cases hh:uv t q with
   | false=>rfl
   | true=>
    have:q∈K:=eN.mpr ⟨t,y_,bw.mpr ⟨hq,hh⟩⟩
    rw [<- cm,h] at this
    cases this
  ·intro h
   cases hc:K.contains q with
   | false=>rfl
   | true=>
    rw [cm] at hc
    obtain ⟨t,h1,h2⟩:=eN.mp hc
    have:=h t h1
    rw [(bw.mp h2).2] at this
    cases this
noncomputable def Ge:DS:=(pj (oZ (e_ (oQ qp) (pG false 1 (pD (a_ 1)) (.one 4) [(sC (pO (j_ 2 uA (b_ (a_ 4) (b_ (e_ pf (a_ 3) (dC (.int 0))) c_)))) (pO (j_ 2 uA (b_ (a_ 4) (b_ (e_ pf (a_ 3) (dC (.int 1))) c_)))))] [] (a_ 4)) (pT c_))) (rm (t7 (a_ 2) (b_ (a_ 3) c_))) pC)
theorem Ze {n:Nat} {f:List D} (hf:Fn n f) {l:List (List Nat)} (ht:∀ t∈l,t∈terms n) (hlen:l.length<=100) {O:Ow} (hO:qL O):BV [.tup f,.tup (l.map .str)] O=.ok (.lst ((zF f l).map pr)) O:=by
 have hs:=Mm hf
 let A:Option D:=some (.tup f)
 let L:Option D:=some (.tup (l.map .str))
 let W:Option D:=some (.own O.length)
 have fl:qL (O++[[]]):=GZ hO (by simp)
 obtain ⟨σ',O',l1,y3,rfl,rfl⟩:=xR (i:=3) (it:=pD (j_ 1 BO (b_ (a_ 0) c_))) (body:=Ge) (l:=rW f) (inj:=pr) (σ:=[A,L,W,none]) (O0:=O++[[]]) (O:=O++[[]]) (ua (o5 (o3 rfl) (Zn hf fl)))
  (fun j σ O'=>∃ y3,σ=[A,L,W,y3]/\O'=O++[(((rW f).take j).filter fun q=>(l.filter fun t=>uv t q).isEmpty).map pr]) (fun j q σ O' hq hI=>by
   obtain ⟨y3,rfl,rfl⟩:=hI
   have Pb:=Va (aC hq)
   generalize wt:(((rW f).take j).filter fun q=>(l.filter fun t=>uv t q).isEmpty).map pr=c
   have qi:c.length<1000:=by
    rw [<- wt,aM]
    have h1:=bB (fun q=>(l.filter fun t=>uv t q).isEmpty) ((rW f).take j)
    have h2:=fC j (rW f)
    omega
   refine ⟨[A,L,W,some (pr q)],O++[if (l.filter fun t=>uv t q).isEmpty=true then c++[pr q] else c],?_,some (pr q),rfl,?_⟩
   ·have pF:∀ t∈l,∀ p∈pW f,uA [.str t,.int (p:Nat)] (O++[c])=.ok (.bl ((qv t).contains p)) (O++[c]):=fun t y_ p hp=>EU (vY hf.n1 hf.n4 (ht t y_)) (by rw [sX hf.n1 hf.n4 (ht t y_),<- hf.len];exact (oj.mp hp).1) _
    show Ge [A,L,W,some (pr q)] (O++[c])=_
    unfold Ge
    rw [rV (b:=(l.filter fun t=>uv t q).isEmpty) (O1:=O++[c]) (ra (pP ((vU (l:=l) (inj:=D.str) (p:=fun t=>uv t q) (e:=D.str) (τ:=fun t=>[A,L,W,some (pr q),some (.str t)]) (xZ rfl) (by omega) (fun _=>rfl) (fun t y_=>GU (q_ (o5 (pE rfl rfl) (pF t y_ _ Pb.1))) fun _=>q_ (o5 (pE rfl rfl) (pF t y_ _ Pb.2))) (fun _ _ _=>rfl)).trans rfl) rfl (GR _ hf.n1 hf.n4 fun t h=>ht t (bw.mp h).1)))]
    cases (l.filter fun t=>uv t q).isEmpty with
    | false=>rfl
    | true=>rw [if_pos rfl,if_pos rfl,BF (t:=a_ 3) rfl rfl x9 (by omega),BH]
   ·rw [Ht _ hq]
    split
    ·rw [dW,wt];rfl
    ·rw [bM,wt]) ⟨none,rfl,by simp⟩
 show t5 O.length (fin (ER [A,L,none,none] O))=_
 rw [dM] at l1
 have hB:ER [A,L,none,none] O=.rt (.own O.length) (O++[(zF f l).map pr]):=by
  unfold ER
  exact qC (x:=.own O.length) (O1:=O++[[]]) rfl (vW l1 (qQ rfl))
 rw [sD hB]
 have:=LD (X:=[]) hO (l:=zF f l)
 rw [bM] at this
 exact this
theorem Vg (O:Ow) (b:Bool):BS [.bl b,.bl b] O=.ok (.bl true) O:=by cases b<;>kernel_rfl
theorem MB (n:Nat) (l:List Int):(l.map D.int).all (pl n)=true:=aF.mpr fun d hd=>by
 obtain ⟨i,_,rfl⟩:=bb.mp hd
 cases n<;>rfl
theorem JU (O:Ow) (i:Int):oQ qg O (.lst [.int i]) (.lst [.int i])=.ok (.bl false) O:=(xX O (MB _ [i]) (MB _ [i]) (b:=true) ⟨fun _=>rfl,fun _=>rfl⟩).2
theorem K7 (ht:σ[iT]?=some (some (.tab Pt))) (h:tE σ O=r) (hz:Bb Ca 4 1 xV r=z):wD Pt iT Ca 4 1 tE xV σ O=z:=by
 unfold wD
 rw [ht]
 dsimp only
 rw [if_pos rfl,h];exact hz
noncomputable def Nf:List D:=[.non,.tup [],.tup [.int 0],.tup [.int 0,.int 1,.int 0],.tup [.int 0,.int 2],.tup [.int 0,.bl true],.lst [.int 0,.int 1],.tup (ao 32 (.int 0)),.str [48,49],.tup [.str [48],.str [49]],.dct,.int 1,.tup [.int 0,.int 1,.non]]
theorem YO (O:Ow):(Nf.map fun d=>ye [d,.tup []] O)=Nf.map fun _=>R.exc 0 O:=by kernel_rfl
theorem W6 (O:Ow):(Nf.map fun d=>BX [d] O)=Nf.map fun _=>R.exc 0 O:=by kernel_rfl
theorem My (O:Ow):Bb Ca 4 1 xV (.exc 0 O)=.ok (.lst [.int 0]) O:=by kernel_rfl
theorem z6d (hs:nR O m s b):∃ z s',B1 [.own m] O=.ok z (O.set m [.int s',.bl b])/\nR (O.set m [.int s',.bl b]) m s' b/\z∈Nf:=by
 obtain ⟨r,s1,r1,r2,h1⟩:=w8 hs (k:=13) (by decide) (by decide)
 have hr:r<Nf.length:=r1
 refine ⟨Nf[r],s1,?_,h1,cr hr⟩
 show fin (HL [some (.own m),none] O)=_
 unfold HL
 exact sD (qC (x:=.lst Nf) (O1:=O) rfl (qQ (pP (x:=.lst Nf) rfl (o5 (pE rfl rfl) r2) (Bw hr))))
theorem Mi (O:Ow) (l:List (Nat×Nat)):oQ qp O (.lst (l.map pr)) (.lst [])=.ok (.bl l.isEmpty) O:=
 (xX O (b:=l.isEmpty) (K5 l) (y:=[]) rfl (by cases l<;>simp)).1
noncomputable def JS:DE:=(vk (j_ 2 v7 (b_ (a_ 4) (b_ (a_ 8) c_))) (e_ (oQ qp) (j_ 2 BV (b_ (a_ 4) (b_ (a_ 8) c_))) (pT c_)))
theorem Zy (hf:Fn n f) (h:Ask d) (hO:qL O) (h4:a_ 4 σ O=.ok (.tup f) O) (h8:a_ 8 σ O=.ok d O):∃ b,ye [.tup f,d] O=.ok (.bl b) O/\JS σ O=.ok (.bl b) O:=by
 obtain ⟨b,e1,e2,e3⟩:=Y9 hf h O
 cases b with
 | false=>
  refine ⟨false,?_,?_⟩
  ·show fin (Ax [some (.tup f),some d] O)=_
   unfold Ax
   exact Ac (yJ (a:=false) (b:=false) (o5 (pE rfl rfl) e1) fun h=>by cases h)
  ·exact yJ (a:=false) (b:=false) (o5 (pE h4 h8) e2) fun h=>by cases h
 | true=>
  obtain ⟨l,rfl,ht,hl⟩:=e3 rfl
  refine ⟨(zF f l).isEmpty,?_,?_⟩
  ·show fin (Ax [some (.tup f),some (.tup (l.map .str))] O)=_
   unfold Ax
   exact Ac (yJ (a:=true) (b:=(zF f l).isEmpty) (o5 (pE rfl rfl) e1) fun _=>pP (o5 (pE rfl rfl) (Vw hf ht (by omega) O)) rfl (Mi O _))
  ·exact yJ (a:=true) (b:=(zF f l).isEmpty) (o5 (pE h4 h8) e2) fun _=>pP (o5 (pE h4 h8) (Ze hf ht (by omega) hO)) rfl (Mi O _)
noncomputable def KJ:DS:=(m_ (oX 9 JS) (pj (rn (pO (j_ 2 BS (b_ (j_ 2 ye (b_ (a_ 4) (b_ (a_ 8) c_))) (b_ (a_ 9) c_))))) (oS (dC (.bl false))) pC))
noncomputable def OV:DE:=(e_ qB (pT (b_ (a_ 6) (b_ (a_ 5) (b_ (qZ c_) (b_ (oU uz (b_ (j_ 1 AB (b_ (a_ 3) c_)) c_)) c_))))) (pG false 1 (rS (b_ (dC (.int 4)) c_)) (.one 12) [] [] (j_ 3 xb (b_ (a_ 2) (b_ (a_ 6) (b_ (a_ 3) c_))))))
noncomputable def Iq:DE:=(e_ qB (a_ 7) (pG false 1 (rS (b_ (dC (.int 4)) c_)) (.one 12) [] [] (j_ 3 xb (b_ (a_ 2) (b_ (a_ 5) (b_ (a_ 3) c_))))))
noncomputable def Kj (Pt:Nat):DS:=(m_ (pj (oZ (e_ (oQ qg) (wD Pt 11 Ca 4 1 (j_ 2 ye (b_ (a_ 10) (b_ (qZ c_) c_))) xV) (pT (b_ (dC (.int 0)) c_)))) (oS (dC (.bl false))) pC) (pj (oZ (e_ (oQ qg) (wD Pt 11 Ca 4 1 (j_ 1 BX (b_ (a_ 10) c_)) xV) (pT (b_ (dC (.int 0)) c_)))) (oS (dC (.bl false))) pC))
noncomputable def Gg (Pt:Nat):DS:=(m_ (oX 2 (j_ 2 BP (b_ (a_ 0) (b_ (a_ 1) c_)))) (m_ (oX 3 (e_ qB (dC (.int 1)) (j_ 2 q0 (b_ (a_ 2) (b_ (dC (.int 4)) c_))))) (m_ (oX 4 (j_ 3 B2 (b_ (a_ 2) (b_ (a_ 3) (b_ (dC (.bl true)) c_))))) (m_ (oX 5 (oU uz (b_ (j_ 1 AJ (b_ (a_ 4) c_)) c_))) (m_ (oX 6 (j_ 2 B4 (b_ (a_ 2) (b_ (a_ 4) c_)))) (m_ (oX 7 OV) (m_ (r6 (pD Iq) (.one 8) KJ) (m_ (oX 10 (j_ 1 B1 (b_ (a_ 2) c_))) (Kj Pt)))))))))
theorem V1 {Pt:Nat} {ns:List Int} {k:Nat} {O:Ow} (hO:qL O) {y2 y3 y4 y5 y6 y7 y8 y9 y10:Option D}:∃ z2 z3 z4 z5 z6 z7 z8 z9 Ov O',
  Gg Pt [some (.lst (ns.map .int)),some (.int k),y2,y3,y4,y5,y6,y7,y8,y9,y10,some (.tab Pt)] O=.nx [some (.lst (ns.map .int)),some (.int k),z2,z3,z4,z5,z6,z7,z8,z9,Ov,some (.tab Pt)] O'/\qL O':=by
 obtain ⟨s,b,s1,s2⟩:=W0 (ns:=ns) (k:=k) O
 have fl0:qL (O++[[.int s,.bl b]]):=nR.flat hO
 obtain ⟨q,u1,q1,q2,q3⟩:=w8 s2 (k:=4) (by decide) (by decide)
 generalize Jv:(O++[[D.int s,D.bl b]]).set O.length [.int u1,.bl b]=O1 at *
 have PV:qL O1:=by rw [<- Jv];exact x8 fl0 _ _ _
 let n:Nat:=1+q
 have n1:1<=n:=by omega
 have n4:n<=4:=by omega
 obtain ⟨f,u2,hf,f1,f2⟩:=Y0 PV q3 n1 n4 true
 generalize hO2:O1.set O.length [.int u2,.bl b]=O2 at *
 have FI:qL O2:=by rw [<- hO2];exact x8 PV _ _ _
 have g0:=Oa hf FI
 have JA:=D9 hf
 have gt:∀ t∈gr n f,t∈terms n:=fun t h=>Ew h
 have PU:qL (O2++[(gr n f).map .str]):=GZ FI fun d hd=>by obtain ⟨x,_,rfl⟩:=bb.mp hd;rfl
 have f3:=f2.more (X:=[(gr n f).map D.str])
 have e5:uz (O2++[(gr n f).map .str]) [.own O2.length]=.ok (.tup ((gr n f).map .str)) (O2++[(gr n f).map .str]):=by
  show (match (O2++[(gr n f).map D.str])[O2.length]? with|some ds=>R.ok (D.tup ds) _|none=>_)=_
  rw [x9]
 generalize Ju:O2++[(gr n f).map D.str]=O3 at *
 obtain ⟨l,u3,g1,g2,g3,g4,g5⟩:=Zf hf PU f3
 generalize hO4:O3.set O.length [.int u3,.bl b]=O4 at *
 have PR:qL O4:=by rw [<- hO4];exact x8 PU _ _ _
 let st:Option D->Option D->Option D->Option D->Sg:=fun y7 y8 y9 y10=>[some (.lst (ns.map .int)),some (.int k),some (.own O.length),some (.int n),some (.tup f),some (.tup ((gr n f).map .str)),some (.tup (l.map .str)),y7,y8,y9,y10,some (.tab Pt)]
 have Dt:∀ (i:Nat) (w:List (List Nat)) (σ:Sg) (O4:Ow) {u:Int},(∀ t∈w,t∈terms n)->w.length<=54->nR O4 O.length u b->(∀ x OO,a_ 2 (σ++[x]) OO=.ok (.own O.length) OO)->(∀ x OO,a_ i (σ++[x]) OO=.ok (.tup (w.map .str)) OO)->(∀ x OO,a_ 3 (σ++[x]) OO=.ok (.int n) OO)->σ.length=12->
   ∃ vs u4,pG false 1 (rS (b_ (dC (.int 4)) c_)) (.one 12) [] [] (j_ 3 xb (b_ (a_ 2) (b_ (a_ i) (b_ (a_ 3) c_)))) σ O4=.ok (.lst vs) (O4.set O.length [.int u4,.bl b])/\nR (O4.set O.length [.int u4,.bl b]) O.length u4 b/\vs.length=4/\∀ v∈vs,Ask v:=fun i w σ O4 u hw CK rz d2 di d3 Iw=>by
  obtain ⟨vs,u4,v1,v2,v3,v4⟩:=Mc (o:=false) (ext:=1) (i:=12) (te:=j_ 3 xb (b_ (a_ 2) (b_ (a_ i) (b_ (a_ 3) c_)))) (σ:=σ) (it0:=rS (b_ (dC (.int 4)) c_)) (O0:=O4) (P:=Ask) rz
   (ya (n:=4) (o3 rfl) (by decide)) (by simp) (fun d hd s' wK=>by
    obtain ⟨v,qf,r1,r2,r3⟩:=ZL n1 n4 hw CK wK
    have e:((O4.set O.length [D.int s',D.bl b]).set O.length [D.int qf,D.bl b])=O4.set O.length [D.int qf,D.bl b]:=d6 ..
    rw [e] at r1 r2
    have es:(pz (pz (σ++ao 1 none) [12]) [12]).set 12 (some d)=σ++[some d]:=by
     match σ,Iw with
     | [_,_,_,_,_,_,_,_,_,_,_,_],_=>rfl
    rw [es]
    exact ⟨v,qf,o5 (uS (d2 _ _) (pE (di _ _) (d3 _ _))) r1,r2,r3⟩)
  exact ⟨vs,u4,v1,v2,by simpa using v3,v4⟩
 have eT:=N7 n4 PR
 have tfew:=He n1 n4
 obtain ⟨vs,u4,v1,v2,v3,v4⟩:=Dt 6 l (st y7 y8 y9 y10) O4 g4 g5 g2 (fun _ _=>rfl) (fun _ _=>rfl) (fun _ _=>rfl) rfl
 generalize hO5:O4.set O.length [.int u4,.bl b]=O5 at *
 have fl5:qL O5:=by rw [<- hO5];exact x8 PR _ _ _
 let L1:List D:=[.tup (l.map .str),.tup ((gr n f).map .str),.tup [],.tup ((terms n).map .str)]++vs
 have h7:OV (st y7 y8 y9 y10) O4=.ok (.lst L1) O5:=
  pP (x:=.lst [.tup (l.map .str),.tup ((gr n f).map .str),.tup [],.tup ((terms n).map .str)]) (y:=.lst vs) (Gp (uS rfl (uS rfl (uS rfl (o3 (sE (o3 (o5 (o3 rfl) eT)) rfl))))) (by show 4<=100000;decide)) v1 (by
   show (if 4+vs.length<=100000 then R.ok (D.lst L1) O5 else R.bad)=_
   rw [if_pos (by rw [v3];decide)])
 obtain ⟨ws,u5,w1,w2,w3,w4⟩:=Dt 5 (gr n f) (st (some (.lst L1)) y8 y9 y10) O5 gt JA v2 (fun _ _=>rfl) (fun _ _=>rfl) (fun _ _=>rfl) rfl
 generalize hO6:O5.set O.length [.int u5,.bl b]=O6 at *
 have PQ:qL O6:=by rw [<- hO6];exact x8 fl5 _ _ _
 let L:List D:=L1++ws
 have qr:∀ d∈L,Ask d:=fun d hd=>by
  rcases aN.mp hd with hd|hd
  ·rcases aN.mp hd with hd|hd
   ·simp only [aw,aR,or_false] at hd
    rcases hd with rfl|rfl|rfl|rfl
    ·exact .inl ⟨_,rfl,yb n1 n4 g4,by rw [aM];omega⟩
    ·exact .inl ⟨_,rfl,yb n1 n4 gt,by rw [aM];omega⟩
    ·exact .inl ⟨[],rfl,fun x hx=>(by cases hx),by decide⟩
    ·exact .inl ⟨_,rfl,yb n1 n4 fun _ h=>h,by rw [aM];omega⟩
   ·exact v4 d hd
  ·exact w4 d hd
 have CH:L1.length=8:=by
  have e:L1.length=[D.tup (l.map .str),.tup ((gr n f).map .str),.tup [],.tup ((terms n).map .str)].length+vs.length:=ar
  rw [e,v3];rfl
 have h8:Iq (st (some (.lst L1)) y8 y9 y10) O5=.ok (.lst L) O6:=
  pP (x:=.lst L1) (y:=.lst ws) rfl w1 (by
   show (if L1.length+ws.length<=100000 then R.ok (D.lst L) O6 else R.bad)=_
   rw [if_pos (by rw [CH,w3];decide)])
 obtain ⟨σ',O',t1,y8',y9',Iw,hO'⟩:=xR (i:=8) (body:=KJ) (it:=pD Iq) (l:=L) (inj:=fun d=>d) (σ:=st (some (.lst L1)) y8 y9 y10) (O0:=O5) (O:=O6) (by rw [lX];exact ua h8) (fun j σ O'=>∃ y y',σ=st (some (.lst L1)) y y' y10/\O'=O6) (fun j d σ O' hd hI=>by
  obtain ⟨y,y',rfl,rfl⟩:=hI
  obtain ⟨c,c1,c2⟩:=Zy hf (qr d (aC hd)) PQ (σ:=st (some (.lst L1)) (some d) y' y10) rfl rfl
  refine ⟨st (some (.lst L1)) (some d) (some (.bl c)) y10,O',?_,some d,some (.bl c),rfl,rfl⟩
  exact qC c2 ((rV (b:=false) (O1:=O') (uB (b:=true) (q_ (o5 (pE (o5 (pE rfl rfl) c1) rfl) (Vg O' _))))).trans rfl)) ⟨y8,y9,rfl,rfl⟩
 subst Iw
 rw [hO'] at t1
 obtain ⟨z,u6,z1,z2,hz⟩:=z6d w2
 generalize hO7:O6.set O.length [.int u6,.bl b]=O7 at *
 have fl7:qL O7:=by rw [<- hO7];exact x8 PQ _ _ _
 have b1:=cW.mp (YO O7) z hz
 have b2:=cW.mp (W6 O7) z hz
 refine ⟨some (.own O.length),some (.int n),some (.tup f),some (.tup ((gr n f).map .str)),some (.tup (l.map .str)),some (.lst L1),y8',y9',some z,O7,?_,fl7⟩
 unfold Gg
 refine qC (x:=.own O.length) (o5 (pE rfl rfl) s1) (qC (x:=.int n) (O1:=O1) (pP (x:=.int 1) (y:=.int q) rfl (o5 (pE rfl rfl) q2) (oh.trans (by show R.ok (D.int (1+(q:Int))) O1=R.ok (D.int ((1+q:Nat):Int)) O1;push_cast;rfl))) (qC (x:=.tup f) (O1:=O2) (o5 (uS rfl (pE rfl rfl)) f1) (qC (x:=.tup ((gr n f).map .str)) (O1:=O3) (sE (o3 (o5 (o3 rfl) g0)) e5) (qC (x:=.tup (l.map .str)) (O1:=O4) (o5 (pE rfl rfl) g1) (qC (x:=.lst L1) (O1:=O5) h7 (vW t1 (qC (x:=z) (O1:=O7) (o5 (o3 rfl) z1) ?_)))))))
 unfold Kj
 refine vv (O1:=O7) (ra (pP (x:=.lst [.int 0]) (y:=.lst [.int 0]) (K7 rfl (o5 (pE rfl rfl) b1) (My O7)) rfl (JU O7 0))) ?_
 exact (rV (b:=false) (O1:=O7) (ra (pP (x:=.lst [.int 0]) (y:=.lst [.int 0]) (K7 rfl (o5 (o3 rfl) b2) (My O7)) rfl (JU O7 0)))).trans rfl
theorem pure_law (Pt:Nat) (ns:List Int) (hn:ns.length<=63):∃ O,F_law Pt [.lst (ns.map .int)] []=.ok (.bl true) O:=by
 let A:Option D:=some (.lst (ns.map .int))
 let T:Option D:=some (.tab Pt)
 let JQ:Sg:=[A,none,none,none,none,none,none,none,none,none,none,T]
 obtain ⟨m,hm,hr⟩:=Wp hn JQ 8 (by decide) rfl
 obtain ⟨σ',O',l1,y1,y2,y3,y4,y5,y6,y7,y8,y9,y10,rfl,l2⟩:=xR (i:=1) (body:=Gg Pt) (ya (o3 hr) hm) (fun _ σ O'=>∃ y1 y2 y3 y4 y5 y6 y7 y8 y9 y10,σ=[A,y1,y2,y3,y4,y5,y6,y7,y8,y9,y10,T]/\qL O') (fun _ i σ O' _ hI=>by
   obtain ⟨y1,y2,y3,y4,y5,y6,y7,y8,y9,y10,rfl,fl⟩:=hI
   obtain ⟨z2,z3,z4,z5,z6,z7,z8,z9,Ov,O4,t1,t2⟩:=V1 (Pt:=Pt) (ns:=ns) (k:=i) fl (y2:=y2) (y3:=y3) (y4:=y4) (y5:=y5) (y6:=y6) (y7:=y7) (y8:=y8) (y9:=y9) (y10:=y10)
   exact ⟨_,_,t1,_,_,_,_,_,_,_,_,_,_,rfl,t2⟩) ⟨none,none,none,none,none,none,none,none,none,none,rfl,fun c hc=>by cases hc⟩
 refine ⟨O',?_⟩
 show fin (m_ _ (oS (dC (.bl true))) JQ [])=_
 exact sD (vW l1 rfl)
end K86
open PySem PySem.W PyProof.Rows
set_option maxRecDepth 100000 in
set_option maxHeartbeats 0 in
theorem PySem.Challenge.cw_leastterms_k86_smooth_forms_looked_over_holds : PySem.Challenge.rw_leastterms_k86_smooth_forms_looked_over.Holds := by
 w_on;refine PySem.W.holds_law K86.ws fun said=>?_;refine PySem.W.holds_openX (q:=K86.Qv) (loose:=K86.Lv) (N:=7698) (Xt:=K86.Xv) (XP:=nG K86.Qv []) (Yf:=(fun s=>(ms K86.Hk s,decide (0<s.toks)))) (Ya:=(fun w=>(mw K86.Hk w,true))) K86.lw (fun s e=>m9 s (fy.mp e).1) mx (by rfl) (by rfl) (by rfl) (fun s e=>ll (fy.mp e).2) (by rfl) (by first|assumption|decide +kernel) (by decide +kernel) ⟨rfl,rfl,rfl,rfl,rfl,by decide +kernel⟩ ?hw ?hc;(case hw=>w_witness2)
 delta K86.Hk;k_fill
 refine DL.walkT (l:=bS) (k:=11) (x := "_law_script") (Cl:=K86.Cl) (F:=K86.F_law) rfl rfl ⟨rfl,by decide,by decide⟩ (mL K86.Hk) (lC K86.Hk) (fun w h Y=>PySem.W.km_in_of Y) ?R ?F K86.pure_law
 case R=>first|rfl|kernel_rfl
 case F=>
  intro w mg fa h KX G CY
  refine' K86.all_mk KX G CY ⟨K86.fa_mk KX G ?_ ?_ ?_ ?_,K86.fa_mk KX G ?_ ?_ ?_ ?_,K86.fa_mk KX G ?_ ?_ ?_ ?_,K86.fa_mk KX G ?_ ?_ ?_ ?_,K86.fa_mk KX G ?_ ?_ ?_ ?_,K86.fa_mk KX G ?_ ?_ ?_ ?_,K86.fa_mk KX G ?_ ?_ ?_ ?_,K86.fa_mk KX G ?_ ?_ ?_ ?_,K86.fa_mk KX G ?_ ?_ ?_ ?_,K86.fa_mk KX G ?_ ?_ ?_ ?_,K86.fa_mk KX G ?_ ?_ ?_ ?_,K86.fa_mk KX G ?_ ?_ ?_ ?_,K86.fa_mk KX G ?_ ?_ ?_ ?_,K86.fa_mk KX G ?_ ?_ ?_ ?_,K86.fa_mk KX G ?_ ?_ ?_ ?_,K86.fa_mk KX G ?_ ?_ ?_ ?_,K86.fa_mk KX G ?_ ?_ ?_ ?_,K86.fa_mk KX G ?_ ?_ ?_ ?_,K86.fa_mk KX G ?_ ?_ ?_ ?_,K86.fa_mk KX G ?_ ?_ ?_ ?_,K86.fa_mk KX G ?_ ?_ ?_ ?_,K86.fa_mk KX G ?_ ?_ ?_ ?_,K86.fa_mk KX G ?_ ?_ ?_ ?_,K86.fa_mk KX G ?_ ?_ ?_ ?_,K86.fa_mk KX G ?_ ?_ ?_ ?_,K86.fa_mk KX G ?_ ?_ ?_ ?_,K86.fa_mk KX G ?_ ?_ ?_ ?_,K86.fa_mk KX G ?_ ?_ ?_ ?_,K86.fa_mk KX G ?_ ?_ ?_ ?_,K86.fa_mk KX G ?_ ?_ ?_ ?_,K86.fa_mk KX G ?_ ?_ ?_ ?_,K86.fa_mk KX G ?_ ?_ ?_ ?_,K86.fa_mk KX G ?_ ?_ ?_ ?_,K86.fa_mk KX G ?_ ?_ ?_ ?_,K86.fa_mk KX G ?_ ?_ ?_ ?_,K86.fa_mk KX G ?_ ?_ ?_ ?_,K86.fa_mk KX G ?_ ?_ ?_ ?_,K86.fa_mk KX G ?_ ?_ ?_ ?_,K86.fa_mk KX G ?_ ?_ ?_ ?_,K86.fa_mk KX G ?_ ?_ ?_ ?_,K86.fa_mk KX G ?_ ?_ ?_ ?_,K86.fa_mk KX G ?_ ?_ ?_ ?_,bC KX G ?_,bC KX G ?_,bC KX G ?_,bC KX G ?_,bC KX G ?_,bC KX G ?_,bC KX G ?_,bC KX G ?_,bC KX G ?_,bC KX G ?_,bC KX G ?_,bC KX G ?_,bC KX G ?_,bC KX G ?_,bC KX G ?_,bC KX G ?_,K86.gs_mk KX G ?_,K86.gt_mk KX G ?_ ?_ ?_ ?_,K86.gu_mk KX G ?_ ?_ ?_,cC KX G ?_,cC KX G ?_,cC KX G ?_,cC KX G ?_,cC KX G ?_,cC KX G ?_,cC KX G ?_,cC KX G ?_,cC KX G ?_,cC KX G ?_,?_,?_,?_,?_,?_,?_,?_,?_,?_,?_,?_,?_,?_,?_,?_,?_,?_,?_,?_,?_,?_,DL.xck_of ?_ ?_ ?_ ?_ ?_ ?_ ?_ ?_ ?_ ?_ ?_ ?_ ?_ ?_⟩ ?Ha ?Hl ?_ ?_ ?_ ?Gh4 ?Gh5 ?_
  (case' Ha|Hl|Gh4=>k_is)
  (case Gh5=>rfl)
  all_goals first|k_is|kernel_rfl|rfl|skip
end
