import PyProof.Rows.All
import Wide.All
import OpenK.AllK
import Wide.FinOn
import Lean
import PyProof.EqAt
import PyProof.EqKinds
import PyProof.TupleCall
import PySem.Challenge.RW_leastterms_k88_forms_mended
noncomputable section
set_option compiler.extract_closed false
set_option Elab.async false
set_option linter.all false
set_option autoImplicit true
set_option relaxedAutoImplicit true
set_option maxRecDepth 100000
open PySem renaming wpAny_bind->aa,Value->ab,Addr->ae,Shared->ag,wpAny_pure->ah,wpAny->av,model->az,Str->aB,Program->aP,starEach->aR,Expr->aT,World->aZ,Heap->a7,Around->bb,bootBuiltins->bC,wpAny_holding->bH,wpAny_setField_rec->bK,Comprehension->bN,mem_of_lookup->bO,mainGlobals->bQ,foldedSetIterable->bV,rawInt->b9,wpAny_field->cb,wpAny_call_entry->cf,Paired->cj,wpAny_mono->cB,compareOp->cD,cellsFrom->cH,wpAny_callSpecial?_slot->cI,wpAny_newObj_type->cM,Scope->c8,wpAny_truthy_bool->dq,NameKind->dE,wpAny_seqItems->dF,importedModules->dG,wpAny_rule->dN,binaryOp->dU,Builtin->d0,PyData->ei,codeAny_builtin->eD,Stmt->eH,wpAny_standAt->eR,FuncData->fc,wpAny_askSetting->fg,codeAny_mono->ft,wpAny_passesOwn->fy,wpAny_attempt->fG,plainId_quiet->fJ,wpAny_pyIter_list->fL,IsPair->fM,wpAny_setState_of->fN,Keyword->fT,wpAny_with_toks->gc,wpAny_updateSeq->ge,wpAny_letGo->gh,wpAny_tryCatch->gD,assignEach->gH,wpAny_newList->gO,OsState->gR,wpAny_Call_Name_kw->hU,IsPart->h9,IsEnum->ij,wpAny_newTuple->iq,wpAny_assign_Name->iz,wpAny_isInstance->iV,Arguments->iZ,exec_Assign_Name_used->i0,Params->i3,Model->i4,wpAny_execs_nil->i5,wpAny_typeOf->i6,codeAny_of_tree->i7,pushCells_keeps->i8,wpAny_updateSeq_pair->ja,wpAny_setEntries_of->jk,ElemsOf->jr,isSubtype_type->js,wpAny_of_eq->jw,concat_meets->jA,swapsWithSole->jJ,swappedStores->jK,wpAny_onRaise->jQ,wpAny_pyIter_slot->jX,fits_of_scanBound->jY,wpAny_call->j3,IsZip->j7,noFill_tuple_add->kg,wpAny_getItem_of->kh,SetTable->kr,PassesOwn->kG,sizeLine_eq->kO,wpAny_isTrue_Compare1->kY,BindsTo->k9,intText?->lj,isSubtype_stop->ll,builtinLookup_eq_fast->lB,wpAny_loadName_local->lF,codeAny_call_builtin->lH,seq_tuple_add->lQ,wpAny_loadName_cell->lV,nums_intItems->l5,wpAny_pyIter_tuple->ml,pushCells->mm,seqIndex_of->mW,GenState->mY
open Option renaming some->Xy,none->XV
open Bool renaming true->YP,false->Y1
abbrev Kk:=@if_pos
abbrev Ko:=@if_neg
open PyProof.Rows renaming arrOf->Ku,pendingOf->Kv
open PySem renaming sizeLine->Kw
local macro_rules|`(⇑$e)=>`(by simpa using $e)
local macro_rules|`('1')=>`(by walk_at "s")
local macro_rules|`('2')=>`(by walk_at "e")
local macro_rules|`('3')=>`(by walk_at "le")
set_option hygiene false in
local macro_rules|`('4')=>`(K88.fa_mk KX G ?_ ?_ ?_ ?_)
local macro_rules|`('d')=>`(by lia)
local macro_rules|`('k')=>`(by simp)
local macro_rules|`('u')=>`(by decide)
local macro_rules|`('b')=>`(by kernel_rfl)
local macro_rules|`('c')=>`(by decide +kernel)
open PySem.Heap renaming get?_push_of_some->af,get?_push_size->aI,lt_size->aN,get?_update_self->cm,size_push->cz,get?_update_other->cC,SameBut->dg,ExtBut->jx
open PySem.W renaming Frag->ai,mg_none_of->bG,fnOf->cr,boot_heap->cG,keepIn->de,kla_fn->d7,findIn->e9,codeIn->fe,nsIn->gu,mg_of->gQ,cellsFrom_some->iG,InstAt->jm,noTabs->jo,tabIn->jP,methodObj->jV,specialIn->jW,kla_obj->kI,kitOne->lh,mroIn->lP,ofPys->lR,OpenLaw->mh,ofPy->mi,SharedT->mG,holds_law->mH,kitx_bool->mN,kitx_list->mO,kitx_dict->mP,plainGet->mZ,instObj->nD,takesIn->nE,CodeHd->nQ,tabObj->nR,isFn->on
open False renaming elim->aj
open List renaming mem_cons_of_mem->ak,all_eq_true->al,getElem?_eq_getElem->am,getElem?_eq_some_iff->ao,length_map->aq,mem_cons_self->ar,length_append->au,mem_cons->aw,mem_map->ay,mem_filter->aA,mem_append_right->aC,getD_eq_getElem?_getD->aD,mem_of_getElem?->aF,getElem?_append_left->aK,size_toArray->aL,mem_append->aM,length_filter_le->aQ,getElem?_append_right->aS,replicate->aU,range->aV,length_cons->aW,append_assoc->aX,getElem?_eq_none_iff->a9,getElem?_map->bd,mem_range->bg,map_map->bi,contains_iff_mem->bo,map_append->br,mem_append_left->bt,getElem?_set_ne->bu,append_nil->bw,nodup_cons->bz,any_eq_true->bA,map_cons->bB,getElem_mem->bD,getElem?_set_self->bE,pairwise_append->bL,pairwise_cons->bR,length_take->bU,flatMap_cons->bX,not_mem_nil->cg,length_range->ci,take_append_drop->cn,length_drop->cy,map_inj_left->cA,take_length->cF,length_eq_zero_iff->cJ,mem_of_mem_take->cO,take_of_length_le->cP,length_set->cQ,filter_cons->cT,perm_append_comm->cY,take_sublist->cZ,mem_of_mem_drop->dh,mem_flatMap->dj,drop_eq_getElem_cons->dk,drop_sublist->dB,mem_singleton->dH,filter_cons_of_neg->dJ,filter_cons_of_pos->dL,mem_iff_getElem->dM,nodup_append->dS,pairwise_iff_getElem->dZ,lt_irrefl->ee,length_nil->eB,nil_append->eC,drop_drop->eI,take_succ->eJ,find?_cons->eL,length_take_le'->eN,drop_append_of_le_length->eT,getElem?_cons_zero->eU,getElem?_cons_succ->eV,filterMap_cons->eZ,map_congr_left->e8,lookup_cons->fh,drop_of_length_le->fk,filter_eq_nil_iff->fq,set_cons_zero->fw,length_singleton->fz,foldl_cons->fC,eq_nil_or_concat->fD,concat_eq_append->fE,getElem?_take_of_lt->fW,getElem?_replicate->f8,any_cons->f9,set_cons_succ->gg,find?_cons_of_neg->gj,any_eq_false->gp,map_nil->gq,take_take->gz,set_append_right->gC,mem_reverse->gK,length_eraseIdx_of_lt->gP,filter_sublist->gW,map_eq_nil_iff->gX,forIn_cons->g7,mem_or_eq_of_mem_set->g9,mem_filterMap->hJ,length_erase_of_mem->il,filter_append->im,getElem_range->io,nodup_nil->ir,flatten_cons->iB,pairwise_map->iC,not_lt->iI,find?_cons_of_pos->iK,lt_trans->iO,all_cons->iP,zipIdx_cons->iU,getElem_map->iX,isEmpty_iff->iY,mem_erase_of_ne->jg,flatMap_append->jl,countP_eq_length_filter->jt,map_id->jz,getElem?_take->jB,zip_cons_cons->jE,getElem?_take_eq_none->jT,sum_cons->jU,foldl_append->jZ,filter_congr->j0,extract_eq_take_drop->j8,getElem_inj->j9,cons_append->kl,le_antisymm->ko,all_flatMap->kw,pairwise_singleton->kB,eraseIdx_cons_succ->kC,all_eq_not_any_not->kE,of_mem_zip->kH,range_succ->kL,length->kP,length_pos_of_mem->kX,length_replicate->lc,getElem?_toArray->li,drop_zero->lr,cons_lt_cons_iff->lv,countP_mono_left->lC,set_append_left->lN,getElem?_range->lX,filter_eq_self->lY,getElem_of_mem->lZ,length_pos_iff->l7,all_map->mq,getElem?_drop->ms,map_id'->mD,set_set->mE,filter_filter->mF,reverse_cons->mJ,getElem_take->mR,getElem_drop->mS,reverse_perm->mT,ext_getElem?->mU,all_toArray->ng,drop_length->np,ext_getElem->nq,countP_cons->nu,flatMap_nil->nv,map_flatMap->ny,zipIdx_nil->nH,length_zip->nI,sum_append->nM,filter_map->nN,forIn_nil->nT,drop_take->nU,drop_left->nV,take_left->nW,take_zero->n6,take_add->oa
open Nat renaming le_refl->aE,le_trans->aH,lt_of_lt_of_le->be,ne_of_lt->bq,zero_le->bI,add_sub_cancel_left->bM,lt_irrefl->bZ,succ_pos->cS,lt_succ_self->cU,pow_le_pow_right->di,lt_succ_of_lt->dr,le_succ->dR,zero_max->d6,ne_of_gt->eF,le_of_lt->fV,zero_add->fZ,min_eq_left->gf,sub_self->gA,le_of_ble_eq_true->gE,le_add_right->gJ,reduceLeDiff->gL,lt_of_le_of_lt->ic,le_of_eq->ig,reduceAdd->iQ,lt_or_ge->jf,reduceLT->jh,one_le_two_pow->jF,testBit_two_pow_sub_one->jG,add_comm->ki,add_zero->km,testBit_lt_two_pow->kW,add_assoc->lT,succ_mul->mC,le_of_succ_le->mL,succ_le_succ->m8,not_lt->nF,one_ne_zero->nJ,le_antisymm->nK
open Array renaming length_toList->aG,getElem?_eq_getElem->ba,toList_append->bT,size_push->cw,getElem?_toList->cX,perm_iff_toList_perm->dQ,toList_push->eQ,getElem_toList->fQ,size_append->gk,map->gF,toList_setIfInBounds->jR,getElem?_eq_some_iff->jS,size_setIfInBounds->kn,getElem?_eq_none->kU,size_map->lu,mk->lD,toList_extract->lI,toList_reverse->lJ,append_assoc->l8,toList->l9,toList_inj->nj,toList_map->nk,size_zip->nX
open PyProof.Rows renaming wpS_bind->aJ,wpS_pure->aO,KeyKind->a8,Keyed->bh,SortSt->bS,slot_tuple_getitem->cK,wpS_forRange->cV,wpS_mono->dO,callWith_type1->ez,envOfC->eE,wpS_modify->fP,StrsAre->f7,wpS_get->gU,AllBare->ip,listUpdate_at->iN,listItems_at->jd,KeysOf->jj,wpS_lift->jq,seqEpoch_at->jy,SortedToK->jD,Call_->kz,KK_mirror_equal->kJ,entry_list_sort->kK,subscriptTail_builtinR->kQ,wpS_reverse->kS,IntsAre->lf,slot_list_sort->lz,args_list_sort->lA,strKind_oneLt->lU,entry_tuple_getitem->lW,args_tuple_getitem->md,plain_sorted->mw,entry_sorted->mx,args_sorted1->my,kind_sorted->mX
open Bool renaming and_eq_true->aY,false_eq_true->ck,false_ne_true->cE,eq_iff_iff->cR,not_eq_true'->eu,and_eq_true_iff->eM,not_true->eS,false_or->gM,not_false->iu,and_true->iS,or_eq_true->i9,false_and->kZ,true_and->oj,and_self->om
open PySem.PyData renaming eqv->bj,list->ef,eqvAll->fK,tuple->ie,canLay0->jn,int->jO,depth->mn,canLayAll0->mM,depthAll->nG
open PySem.Obj renaming mapSeq->bF,putSet->lL,data_mapFields->mr
open PySem.Builtin.Str renaming occurrences->bJ
open Ne renaming symm->bP
open PySem.Challenge renaming rw_leastterms_k88_forms_mended->cq,pw_leastterms_k88_forms_mended->c9
open Option.some renaming inj->cu
open Classical renaming byContradiction->cx
open PySem.Builtin.SmallTypes renaming nextOf->cN,ownedTupleIsFree->d8,ownedTupleHandOut->fv
open PySem.NameKind renaming free->dD,cell->dP
open Sum renaming inr->dI,inl->gT
open PySem.Heap.SameBut renaming update->dW
open List.Perm renaming refl->d9,append_left->fB,swap->nZ
open List.Pairwise renaming nil->eo
open PySem.Value renaming type->eG,isStrOf->fF,ref->fR,none->gG,builtin->gN,isInt->iF,isStrOf_shape->ji,str->kF,int->n8
open PySem.SetTable renaming below->fi,grown->fU,fits->oi
open True renaming intro->fj
open And renaming intro->fu
open PyProof.Rows.F renaming plain_set_update_loop->fx,entry_set_update_loop->ik
open PySem.F renaming slot_enumerate_next->fA,slot_tuple_iterator_next->fH,called_set->f6,plain_min_loop->gi,slot_dict_getitem->gZ,args_tuple_add_2->hW,entry_tuple_add->iw,plainAttrs_list->iy,slot_tuple_add->iH,entry_min_loop->iJ,slot_zip_next->jb,args_tuple_iterator_next_1->jp,entry_tuple_iterator_next->jC,slot_dict_delitem->j4,args_enumerate_next_1->kA,entry_enumerate_next->kR,slot_list_append->lg,slot_enumerate_iter->lp,slot_list_extend->lq,slot_list_pop->me,attr_ValueError->mK,args_zip_next_1->mQ,entry_zip_next->m9
open PySem.Builtin.Slice renaming slicePlaces->fO,sliceAdjust->gY,sliceApplied->jM
open PySem.Builtin.Tuple renaming tupleExact->fX,tupleItemsOf->jN
open PySem.Builtin.List renaming listTooLong->fY,listSameRef->ku,listItems->kT
open ForInStep renaming yield->gd
open PyProof.Rows.KeyOrd renaming kle_of_klt->gm,kle_trans->iW
open PySem.Calls renaming call_function_entry->g8,Name_function_global->jI,spliced_cons->ma,spliced_nil->mI
open Option renaming isSome_iff_exists->hV,map_eq_some_iff->iE,none->jv,isSome_some->mj,getD_none->m7,map->nB
open Int renaming toNat_natCast->iA,emod_lt_of_pos->jH,fdiv_eq_ediv_of_nonneg->jL,emod_nonneg->kN
open PySem.Str renaming ofString->iD
open PySem.Builtin renaming bitOr->iM,bitAnd->k7,bitXor->k8
open Array.Perm renaming refl->jc
open PySem.Around renaming under_plainId->je,frames_deeper->lG
open Sum.inr renaming inj->ju
open PySem.Builtin.ObjectAttr renaming bindTo->j5
open PySem.Walks renaming list->j6
open PySem.PassesOwn renaming never->kM
open Prod renaming ext->lE
open PyProof.Rows.SortSt renaming mk'->lK
open PySem.Paired renaming length->lO
open PySem.Code renaming compLoop->lS,compStart->nO
open PySem.pickOrder renaming go->mz
open Nat.succ renaming inj->mB
open PySem.SetTable.below renaming go->mV
open PySem.Builtin.Frozenset renaming updateFrom->nY,newClass->og,slot0->oy
open PySem.W.WData renaming int->n9
open PySem.Shared renaming TypeIs->oh
open PySem.SeqAt renaming shaped->ou
open PySem.W.OpenRow renaming toRowW->oz
open Prod.mk renaming inj->oA
open PySem.Heap.IsSliceOf renaming new->oB
namespace K88
open PySem PySem.W
noncomputable def ty(i:Nat):eH:=c9.main.body.getD i (.Pass ⟨0,0,0,0⟩)
def Qv:aP:={ c9 with main:={ c9.main with body:=[ty 1,ty 2,ty 3,ty 5,ty 6,ty 7,ty 9,ty 10,ty 11,ty 12,ty 13,ty 14,ty 16,ty 17,ty 18,ty 19,ty 20,ty 21,ty 22,ty 23,ty 24,ty 26,ty 27,ty 28,ty 29,ty 30,ty 31,ty 33,ty 34,ty 35,ty 36,ty 37,ty 39,ty 40,ty 41,ty 42,ty 43,ty 44,ty 45,ty 47,ty 48,ty 49,ty 50,ty 51,ty 52,ty 53,ty 54,ty 55,ty 56,ty 57,ty 58,ty 59,ty 60,ty 61,ty 62,ty 63,ty 64,ty 65,ty 66,ty 67,ty 68,ty 69] } }
def Lv:List aB:=[iD "SWITCHES_BY_POINTS"]
def Xv:ag → Bool:=λs=>PySem.W.xlAt Qv [] s&&PySem.W.recOk (PySem.W.RowW.records (oz cq.row)) s
def bY{α β a:Type}{x:Option α}{f:α → β}{g:α → a}{b:β}{c:a}(d:x.map f=Xy b)(e:x.map g=Xy c):x.map (λs=>(f s,g s))=Xy (b,c):=by
  cases x with
  |none=>cases d
  | some s=>
    have h:f s=b:=cu d;have i:g s=c:=cu e;show Xy (f s,g s)=_;rw[h,i]
end K88
section
open PySem PySem.W PyProof.Rows
set_option maxRecDepth 100000 in
def K88.ws:cq.wellSaid=YP:=by kernel_rfl
local macro_rules|`(tactic| o_head $H)=>`(tactic| skip)
set_option maxRecDepth 100000 in
set_option maxHeartbeats 0 in
def K88.hp:False → cq.Holds:=by
  intro a
  w_on;refine mH K88.ws λb=>?_;k_head
  all_goals exact a.elim
end

namespace DLT
open PySem PySem.W
noncomputable def pF(tb:String → Option d0)(p:aP)(w:aZ)(m:Nat)(an:Option ab):Nat → mG → Thread → Option mG
  |0,_,_=>XV
  | k+1,a,th=>match through th with
    |true=>Xy a
    | false=>match stepOk m an th with
      |false=>XV
      | true=>match stepT (denote tb) p w a th with
        |some (b,Wi)=>pF tb p w m an k b Wi
        |none=>XV
theorem pM{d:String → Option d0}{p:aP}{w:aZ}{m:Nat}{e:Option ab}:∀{k:Nat}{a z:mG}{c:Thread},pF d p w m e k a c=Xy z → topRun d p w m e k a.abs c=Xy z.abs
  |0,_,_,_,H=>by cases H
  | k+1,a,z,c,H=>by
    unfold pF at H;unfold topRun;cases g:through c with
    |true=>rw[g] at H;cases H;rfl
    | false=>
      rw[g] at H;cases h:stepOk m e c with
      |false=>rw[h] at H;cases H
      | true=>
        rw[h] at H;cases f:stepT (denote d) p w a c with
        |none=>rw[f] at H;cases H
        |some q=>obtain⟨b,i⟩:=q;rw[f] at H;rw[stepT_spec f];exact pM H
def pL:Nat → BT → List Obj → BT
  |_,T,[]=>T
  |i,T,o::os=>pL (i+1) (T.ins i o) os
noncomputable def pk(P:i3):BT:=pL 0 .nil (cG P).objs.toList
def boot_abs:∀P:i3,absHeap (pk P) (cG P).objs.size (cG P).life=cG P:=λP=>by kernel_rfl
noncomputable def Ks(P:i3)(os:gR):mG:=⟨pk P,(cG P).objs.size,(cG P).life,lD [],boot_drawn,boot_toks,os⟩
noncomputable def s0(P:i3)(os:gR):ag:=⟨cG P,lD [],boot_drawn,boot_toks,os⟩
def pP(P:i3)(a:gR):(Ks P a).abs=s0 P a:=by unfold Ks s0 SharedT.abs;rw[boot_abs P]
def pK:∀P:i3,((cG P).isNs bQ&&(lD []:Array mY).size==0,(cG P).objs.size,(cG P).nsMap bQ "__annotations__")=(YP,11,Xy (.ref 6)):=λP=>by kernel_rfl
def chk(p:aP)(h:a7)(s:ag):Bool:=staticsOk (dG p.main.body) h s.heap&&namesBound p s.heap&&gensDone s&&laidKept h s.heap
def pG{p:aP}{w:aZ}{P:i3}{b:gR}{N:Nat}{α:Type}{f:ag → α}{a:α}(h:(pF treeTable p w 11 (Xy (.ref 6)) N (Ks P b) (topStub p)).map (λs=>(chk p (cG P) s.abs,f s.abs))=Xy (YP,a)):(topFrom treeTable p w N (s0 P b)).map f=Xy a:=by
  obtain⟨s,e,d⟩:=iE.mp h;have r:=pM e;rw[pP] at r;obtain⟨g,i,j⟩:_ ∧ _ ∧ _:=by simpa only[Prod.mk.injEq] using pK P
  obtain⟨k,l⟩:=oA d;unfold topFrom;show nB f (match (cG P).isNs bQ&&(lD []:Array mY).size==0 with
    | true=>(topRun treeTable p w (cG P).objs.size ((cG P).nsMap bQ "__annotations__") N (s0 P b) (topStub p)).bind λc=>match chk p (cG P) c with
      |true=>Xy c
      |false=>XV
    |false=>XV)=Xy a
  rw[g,i,j,r];show nB f (match chk p (cG P) s.abs with
      |true=>Xy s.abs
      |false=>XV)=Xy a
  rw[k];exact congrArg Xy l
def pR{α β a e:Type}{x:Option α}{f:α → β×a}{g:α → e}{b:β}{c:a}{d:e}(h:x.map (λs=>((f s).1,g s))=Xy (b,d))(i:x.map (λs=>(f s).2)=Xy c):x.map (λs=>(f s,g s))=Xy ((b,c),d):=by
  cases x with
  |none=>cases h
  | some s=>
    obtain⟨j,k⟩:=oA (cu h);have l:(f s).2=c:=cu i;exact congrArg Xy (lE (lE j l) k)
noncomputable abbrev R(p:aP)(N:Nat)(w:aZ)(P:i3)(os:gR):Option mG:=pF treeTable p w 11 (Xy (.ref 6)) N (Ks P os) (topStub p)
def left_of{p q:aP}{loose:List aB}{Xt:ag → Bool}{α:Type}{Yf:ag → α}{Ya:aZ → α}{N:Nat}{b:Bool}(a:String)(e:opening p=plainProg p.main.scope.names)(i:Nat.ble 600 N=YP)(j:∀s,fenceModules? p s=Xy s)
    (l:∀(v:Bool)(w:aZ)(c:gR),(R p N (w.withFollow a v) w.params c).map (λs=>(chk p (cG w.params) s.abs,((openSeen q loose (dG p.main.body) Xt b s.abs).1,Yf s.abs)))=Xy (YP,(openGood q loose).1,Ya (w.withFollow a v)))
    (m:∀(v:Bool)(w:aZ)(c:gR),(R p N (w.withFollow a v) w.params c).map (λs=>(chk p (cG w.params) s.abs,(openSeen q loose (dG p.main.body) Xt b s.abs).2))=Xy (YP,(openGood q loose).2)):
    LeftO p q loose Xt Yf Ya N b:=LeftO.of_split a λw=>by
  obtain⟨⟨h,n,d,k,c⟩,x,y⟩:=iE.mp (boot_open e i j w);obtain⟨rfl,rfl,rfl,rfl⟩:h=cG w.params ∧ n=lD [] ∧ d=boot_drawn ∧ k=boot_toks:=⇑y
  rw[x];have go (v:Bool):(topFrom treeTable p (w.withFollow a v) N (s0 w.params c)).map (λs=>(openSeen q loose (dG p.main.body) Xt b s,Yf s))=Xy (openGood q loose,Ya (w.withFollow a v)):=
    pR (f:=λs=>openSeen q loose (dG p.main.body) Xt b s) (g:=Yf) (pG (f:=λs=>((openSeen q loose (dG p.main.body) Xt b s).1,Yf s)) (l v w c)) (pG (f:=λs=>(openSeen q loose (dG p.main.body) Xt b s).2) (m v w c))
  exact congrArg Xy (lE (go Y1) (go YP))
end DLT

namespace K88
open PySem PySem.W
abbrev As:List ae:=[2,3,15,22,23,24,25,28,35,36,37,40,47,48,49,52,54,55,57,58,59,61,62,64,65,66,69,70,71,72,74,75,77,78,79,82,83,84,86,87,89,90,91,93,94,96,97,98,101,102,103,106,107,108,111,112,113,116,117,118,120,121,123,124,125,128,129,130,132,133,135,136,137,139,140,142,143,144,147,148,149,152,153,154,157,158,159,162,163,164,166,167,169,170,171,174,175,176,179,180,181,184,185,186,189,190,191,194,195,196,199,200,201,204,205,206,207,209,210,212,213,214,217,218,219,222,223,224,227,228,229,232,233,234,236,237,239,240,241,243,244,246,247,248,250,251,253,254,255,257,258,260,261,262,264,265,267,268,269,271,272,274,275,276,278,279,281,282,283,285,286,288,289,290,293,294,295,298,299,300,303,304,305,308,309,310,313,314,315,318,319,320,323,324,325,327,328,330,331,332,334,335,337,338,339,342,343,344,347,348,349,352,353,354,357,358,359,362,363,364,367,368,369,372,373]
noncomputable def Hk:PySem.W.Hook:=PySem.W.kmHook K88.hp.heap_1 K88.As (λ_=>by kernel_rfl) [197]
abbrev Pg:aP:=cq.row.prog
set_option maxRecDepth 100000 in
def la1:∀(w:aZ)(a:gR),(DLT.R Pg 4768 (w.withFollow "special-get-raises" Y1) w.params a).map (λs=>(DLT.chk Pg (cG w.params) s.abs,((openSeen Qv Lv (dG Pg.main.body) Xv YP s.abs).1,(Hk.obs s.abs,decide (0<s.abs.toks)))))=Xy (YP,((openGood Qv Lv).1,(Hk.val (w.withFollow "special-get-raises" Y1),YP))):=λw a=>by kernel_rfl
set_option maxRecDepth 100000 in
def Kx:∀(w:aZ)(a:gR),(DLT.R Pg 4768 (w.withFollow "special-get-raises" Y1) w.params a).map (λs=>(DLT.chk Pg (cG w.params) s.abs,(openSeen Qv Lv (dG Pg.main.body) Xv YP s.abs).2))=Xy (YP,(openGood Qv Lv).2):=λw a=>by kernel_rfl
set_option maxRecDepth 100000 in
def lb1:∀(w:aZ)(a:gR),(DLT.R Pg 4768 (w.withFollow "special-get-raises" YP) w.params a).map (λs=>(DLT.chk Pg (cG w.params) s.abs,((openSeen Qv Lv (dG Pg.main.body) Xv YP s.abs).1,(Hk.obs s.abs,decide (0<s.abs.toks)))))=Xy (YP,((openGood Qv Lv).1,(Hk.val (w.withFollow "special-get-raises" YP),YP))):=λw a=>by kernel_rfl
set_option maxRecDepth 100000 in
def lb2:∀(w:aZ)(a:gR),(DLT.R Pg 4768 (w.withFollow "special-get-raises" YP) w.params a).map (λs=>(DLT.chk Pg (cG w.params) s.abs,(openSeen Qv Lv (dG Pg.main.body) Xv YP s.abs).2))=Xy (YP,(openGood Qv Lv).2):=λw a=>by kernel_rfl
def lw:PySem.W.LeftO Pg Qv Lv Xv (λs=>(Hk.obs s,decide (0<s.toks))) (λw=>(Hk.val w,YP)) 4768:=DLT.left_of "special-get-raises" rfl rfl (λ_=>rfl) (λv=>match v with|false=>la1|true=>lb1) (λv=>match v with|false=>Kx|true=>lb2)
end K88

abbrev n_:=List Nat
abbrev l_:=List n_
-- PU: your Wo module here, as the last of Wh rows
namespace L2
open PySem PySem.Spec PyProof.Rows
abbrev Key:=Sum Int aB
def D4:Key->ab->Bool
 |.inl k,v=>iF k v
 |.inr x,v=>fF x v
noncomputable def XQ(w:aZ):Key->Int
 |.inl k=>hashInt k
 |.inr x=>hashStr w x
def Ac:∀{k:Key}{v:ab},D4 k v=YP->(∃i t,k=gT i/\v=n8 i t)\/(∃x t,k=dI x/\v=kF x t)
 | .inl i,v,h=>by
  obtain⟨t,e⟩:=Value.isInt_shape (k:=i) (v:=v) h;exact .inl ⟨i,t,rfl,e⟩
 | .inr x,v,h=>by
  obtain⟨t,e⟩:=ji (x:=x) (v:=v) h;exact .inr ⟨x,t,rfl,e⟩
def zek(i:Int)(t:Tok):D4 (.inl i) (.int i t)=YP:=by simp[D4,iF]
def zde(x:aB)(t:Tok):D4 (.inr x) (.str x t)=YP:=by simp[D4,fF]
def ZO(a b:Int):decide ((gT a:Key)=gT b)=(a==b):=by
 by_cases e:a=b
 ·subst e;simp
 ·have h:¬ (gT a:Key)=gT b:=λq=>e (Sum.inl.inj q);rw[decide_eq_false h];exact(beq_eq_false_iff_ne.mpr e).symm
def ZM(a b:aB):decide ((dI a:Key)=dI b)=decide (a=b):=by
 by_cases e:a=b
 ·subst e;simp
 ·have h:¬ (dI a:Key)=dI b:=λq=>e (ju q);rw[decide_eq_false h,decide_eq_false e]
def Zh(a:Int)(b:aB):decide ((gT a:Key)=dI b)=Y1:=decide_eq_false (λq=>nomatch q)
def zkS(a:aB)(b:Int):decide ((dI a:Key)=gT b)=Y1:=decide_eq_false (λq=>nomatch q)
def vD(prog:aP)(w:aZ):PySem.KeyKind prog w Key where
 is:=D4
 hash:=XQ w
 inj:=λv a b ha hb=>by
  rcases Ac ha with⟨i,t,rfl,rfl⟩|⟨x,t,rfl,rfl⟩
  ·rcases Ac hb with⟨j,u,rfl,e⟩|⟨y,u,rfl,e⟩
   ·injection e with e1 _;rw[e1]
   ·exact nomatch e
  ·rcases Ac hb with⟨j,u,rfl,e⟩|⟨y,u,rfl,e⟩
   ·exact nomatch e
   ·injection e with e1 _;rw[e1]
 byValue:=λk v h=>by
  rcases Ac h with⟨i,t,rfl,rfl⟩|⟨x,t,rfl,rfl⟩<;>rfl
 pyHash:=λhv h=>by
  rcases Ac hv with⟨i,t,rfl,rfl⟩|⟨x,t,rfl,rfl⟩
  ·exact wpAny_pyHash_int h
  ·exact wpAny_pyHash_str h
 eqBool:=λhu hv h=>by
  rcases Ac hu with⟨i,t,rfl,rfl⟩|⟨x,t,rfl,rfl⟩
  ·rcases Ac hv with⟨j,u,rfl,rfl⟩|⟨y,u,rfl,rfl⟩
   ·rw[ZO] at h;exact wpAny_eqBool_int h
   ·rw[Zh] at h;exact SeqAt.EqAt.int_str i t y u _ _ _ _ h
  ·rcases Ac hv with⟨j,u,rfl,rfl⟩|⟨y,u,rfl,rfl⟩
   ·rw[zkS] at h;exact SeqAt.EqAt.str_int x t j u _ _ _ _ h
   ·rw[ZM] at h;exact wpAny_eqBool_str h
 «strs»:=λk x t v h=>by
  rcases Ac h with⟨i,u,rfl,e⟩|⟨y,u,rfl,e⟩
  ·exact nomatch e
  ·injection e with e1 _;subst e1;cases v<;>rfl
def z8A(prog:aP)(w:aZ)(i:Int)(t:Tok):(vD prog w).is (.inl i) (.int i t)=YP:=zek i t
def z8u(prog:aP)(w:aZ)(x:aB)(t:Tok):(vD prog w).is (.inr x) (.str x t)=YP:=zde x t
inductive V where
 |non|bl (b:Bool)|int (i:Int)|str (x:aB)|byt (b:Array UInt8)|flt (b:UInt64)|ref (a:ae)|ty (n:String)
 deriving DecidableEq
def RelV:V->ab->Prop
 |.non,u=>u=gG
 |.bl b,u=>u=Value.bool b
 |.int i,u=>∃t,u=n8 i t
 |.str x,u=>∃t,u=kF x t
 |.byt b,u=>∃t,u=Value.bytes b t
 |.flt b,u=>∃t,u=Value.float b t
 |.ref a,u=>u=fR a
 |.ty n,u=>u=eG n
abbrev oF:List V->List ab->Prop:=cj RelV
def oF.length{xs:List V}{a:List ab}(r:oF xs a):xs.length=a.length:=lO r
theorem oF.get:∀{xs:List V}{a:List ab}{i:Nat}{x:V},oF xs a->xs[i]?=Xy x->∃u,a[i]?=Xy u/\RelV x u
 |_,_,_,_,.nil,e=>by simp at e
 |_,_,0,_,.cons r _,e=>by simp at e;subst e;exact⟨_,rfl,r⟩
 | _,_,i+1,x,.cons _ t,e=>by
  obtain⟨u,b,c⟩:=oF.get (i:=i) (x:=x) t ⇑e;exact⟨u,by simpa using b,c⟩
theorem oF.set{x:V}{u:ab}(r:RelV x u):∀{xs:List V}{a:List ab}(i:Nat),oF xs a->oF (xs.set i x) (a.set i u)
 |_,_,_,.nil=>.nil
 |_,_,0,.cons _ t=>.cons r t
 |_,_,i+1,.cons q t=>.cons q (oF.set r i t)
theorem oF.append:∀{xs a:List V}{b c:List ab},oF xs b->oF a c->oF (xs++a) (b++c)
 |_,_,_,_,.nil,s=>s
 |_,_,_,_,.cons r t,s=>.cons r (oF.append t s)
theorem oF.take:∀{xs:List V}{a:List ab}(n:Nat),oF xs a->oF (xs.take n) (a.take n)
 |_,_,0,_=>.nil
 |_,_,_+1,.nil=>.nil
 |_,_,n+1,.cons r t=>.cons r (oF.take n t)
theorem oF.drop:∀{xs:List V}{a:List ab}(n:Nat),oF xs a->oF (xs.drop n) (a.drop n)
 |_,_,0,r=>r
 |_,_,_+1,.nil=>.nil
 |_,_,n+1,.cons _ t=>oF.drop n t
def o3:Option V->Option ab->Prop
 |some v,Xy u=>RelV v u
 |none,XV=>True
 |_,_=>False
def KV{κ:Type}:List (κ×V)->List (κ×ab)->Prop:=cj λ(p:κ×V)(q:κ×ab)=>p.1=q.1/\RelV p.2 q.2
def kV:Key->V
 |.inl i=>.int i
 |.inr x=>.str x
inductive HO where
 |lst (xs:List V)
 |tup (xs:List V)
 |dK (i_:List (Key×V))|dT (i_:List (List Key×V))
 |set (S:Int->Bool) (n:Nat)
 |ins (C dx:ae) (fs:List (aB×V))
 |own (x:ae)
 |xd (fs:List (aB×V))
 |met (f x:ae)
 |rng (lo hi:Int)
 |frz (o:Obj) (u:HO)
 |tbl (ps:Array ab)
 |ext (φ:a7->Prop)
abbrev Hp:=ae->Option HO
noncomputable def upd(H:Hp)(a:ae)(o:HO):Hp:=λb=>if b=a then Xy o else H b
def rZ{H:Hp}{a:ae}{o:HO}:upd H a o a=Xy o:=by unfold upd;rw[Kk rfl]
def qi{H:Hp}{a b:ae}{o:HO}(h:b≠a):upd H a o b=H b:=by unfold upd;rw[Ko h]
def zil:upd (upd H a o) a u=upd H a u:=by funext b;unfold upd;split<;>rfl
def Yg{H:Hp}{a b:ae}{o u:HO}(h:H a=Xy o)(h':H b=Xy u)(d:o≠u):a≠b:=by intro e;subst e;rw[h] at h';exact d (cu h')
def sR{H:Hp}{a b:ae}{o:HO}(h:H a=Xy o)(h':H b=XV):a≠b:=by intro e;subst e;rw[h] at h';cases h'
def oZ(h:a7)(a:ae)(items:Array ab):Prop:=∃o,h.get? a=Xy o/\o.cls=.type "tuple"/\(∃n,o.data=.seq items n)/\o.dict=XV
def oZ.tup{h:a7}{a:ae}{b:Array ab}(x:oZ h a b):IsTup h a b:=let ⟨o,e,c,d,_⟩:=x;⟨o,e,c,d⟩
def oZ.new(h:a7)(a:Array ab):oZ (h.push { cls:=.type "tuple",data:=.seq a }) h.objs.size a:=⟨_,aI _ rfl,rfl,⟨_,rfl⟩,rfl⟩
section
variable(P:aP)(w:aZ)
def oP(H:Hp)(h:a7)(a:ae):HO->Prop
 |.lst xs=>xs.length<=Kw/\∃(d_:List ab)(n:Nat),oF xs d_/\h.get? a=Xy { cls:=.type "list",data:=.seq d_.toArray n }
 |.tup xs=>xs.length<=Kw/\∃d_:List ab,oF xs d_/\oZ h a d_.toArray
 |.dK i_=>i_.length<=Kw/\(a==sysModules)=Y1/\∃vs,KV i_ vs/\h.DictOf (vD P w) a vs
 | .dT i_=>i_.length<=Kw/\(a==sysModules)=Y1/\∃xs:List (List Key×ae×ab),
   cj (λ(p:List Key×V)(q:List Key×ae×ab)=>p.1=q.1/\H q.2.1=Xy (.tup (p.1.map kV))/\RelV p.2 q.2.2) i_ xs/\
   ∃o es ep,h.get? a=Xy o/\o.ExactDict/\o.data=.dict es ep/\es.toList=xs.map (entryOfKey (tupleKind (vD P w)))/\(xs.map (·.1)).Nodup
 |.set S n=>h.SetOf (intKind P w) a S n
 | .ins C dx fs=>H dx=Xy (.own a)/\fs.length<=1000/\dx≠a/\h.get? a=Xy (nD C dx)/\
   ∃mA,h.Ns1 dx mA/\(∀f,o3 (fs.lookup f) (mA f))/\PySem.Within mA (fs.map (·.1))
 |.own _=>∃o,h.get? a=Xy o
 |.xd fs=>∃mA,h.Ns1 a mA/\∀f,o3 (fs.lookup f) (mA f)
 |.rng lo hi=>∃t u v,h.get? a=Xy { cls:=.type "range",data:=.fields #[.int lo t,.int hi u,.int 1 v] }
 |.frz o u=>h.get? a=Xy o/\oP H h a u
 |.tbl ps=>h.get? a=Xy { cls:=.none,data:=.fields ps }
 |.met f x=>h.get? a=Xy (jV (.ref f) (.ref x))
 |.ext φ=>φ h/\(∃o,h.get? a=Xy o)/\∀h1 h2:a7,φ h1->(∀o,h1.get? a=Xy o->h2.get? a=Xy o)->φ h2
def HOk(H:Hp)(h:a7):Prop:=∀a o,H a=Xy o->oP P w H h a o
end
section
variable{P:aP}{w:aZ}{H H':Hp}{h h':a7}{a:ae}{o:HO}
def oP.lt(x:oP P w H h a o):a<h.objs.size:=by
 cases o with
 |lst xs=>obtain⟨_,_,_,_,e⟩:=x;exact aN e
 |tup xs=>obtain⟨_,_,_,p⟩:=x;exact(oZ.tup p).lt
 |dK i_=>obtain⟨_,_,_,_,o,_,_,e,_⟩:=x;exact aN e
 |dT i_=>obtain⟨_,_,_,_,o,_,_,e,_⟩:=x;exact aN e
 |set S n=>obtain⟨o,_,_,_,e,_⟩:=x;exact aN e
 |ins C dx fs=>obtain⟨_,_,_,e,_⟩:=x;exact aN e
 |own y=>obtain⟨_,e⟩:=x;exact aN e
 |xd fs=>obtain⟨_,⟨_,_,_,e,_⟩,_⟩:=x;exact aN e
 |rng lo hi=>obtain⟨_,_,_,e⟩:=x;exact aN e
 |frz ob u=>obtain⟨e,_⟩:=x;exact aN e
 |tbl ps=>exact aN (show h.get? a=Xy _ from x)
 |met f y=>exact aN (show h.get? a=Xy _ from x)
 |ext φ=>obtain⟨_,⟨_,e⟩,_⟩:=x;exact aN e
theorem Paired.mapP{α β:Type}{F G:α->β->Prop}:∀{c:List α}{d:List β},cj F c d->(∀a b,F a b->G a b)->cj G c d
 |_,_,.nil,_=>.nil
 |_,_,.cons r t,f=>.cons (f _ _ r) (Paired.mapP t f)
def oP.stay(x:oP P w H h a o)(k:∀b u,(b=a\/H b=Xy (.own a))->h.get? b=Xy u->h'.get? b=Xy u)
  (B:∀b,H b=Xy (.own a)->H' b=Xy (.own a)) (D:∀b xs,H b=Xy (.tup xs)->H' b=Xy (.tup xs)):oP P w H' h' a o:=by
 induction o with
 |lst xs=>obtain⟨z,l,n,r,e⟩:=x;exact⟨z,l,n,r,k _ _ (.inl rfl) e⟩
 |tup xs=>obtain⟨z,l,r,g,e,c⟩:=x;exact⟨z,l,r,g,k _ _ (.inl rfl) e,c⟩
 |dK i_=>obtain⟨z,y,E,r,g,i,j,e,c⟩:=x;exact⟨z,y,E,r,g,i,j,k _ _ (.inl rfl) e,c⟩
 | dT i_=>
  obtain⟨z,y,xs,r,g,i,j,e,c⟩:=x;exact⟨z,y,xs,Paired.mapP r λp q z=>⟨z.1,D _ _ z.2.1,z.2.2⟩,g,i,j,k _ _ (.inl rfl) e,c⟩
 |set S n=>obtain⟨g,i,j,t,e,c⟩:=x;exact⟨g,i,j,t,k _ _ (.inl rfl) e,c⟩
 | ins C dx fs=>
  obtain⟨d,z,F,e,m,⟨s,i,j,G,c⟩,r⟩:=x;exact⟨B _ d,z,F,k _ _ (.inl rfl) e,m,⟨s,i,j,k _ _ (.inr d) G,c⟩,r⟩
 |own y=>obtain⟨g,e⟩:=x;exact⟨g,k _ _ (.inl rfl) e⟩
 |xd fs=>obtain⟨m,⟨s,i,j,e,c⟩,r⟩:=x;exact⟨m,⟨s,i,j,k _ _ (.inl rfl) e,c⟩,r⟩
 |rng lo hi=>obtain⟨t,u,v,e⟩:=x;exact⟨t,u,v,k _ _ (.inl rfl) e⟩
 |frz g u ih=>obtain⟨e,q⟩:=x;exact⟨k _ _ (.inl rfl) e,ih q⟩
 | tbl ps=>
  have e:h.get? a=Xy { cls:=.none,data:=.fields ps }:=x;show h'.get? a=Xy { cls:=.none,data:=.fields ps };exact k a _ (.inl rfl) e
 | met f y=>
  have e:h.get? a=Xy (jV (.ref f) (.ref y)):=x;show h'.get? a=Xy (jV (.ref f) (.ref y));exact k a _ (.inl rfl) e
 |ext φ=>obtain⟨p,⟨o,e⟩,A⟩:=x;exact⟨A _ _ p λo q=>k _ _ (.inl rfl) q,⟨o,k _ _ (.inl rfl) e⟩,A⟩
def HOk.lt(x:HOk P w H h)(e:H a=Xy o):a<h.objs.size:=(x a o e).lt
def HOk.fresh(x:HOk P w H h)(e:h.objs.size<=a):H a=XV:=by
 cases q:H a with
 |none=>rfl
 |some u=>exact absurd (be (x.lt q) e) (bZ _)
def HOk.kept(x:HOk P w H h)(k:∀b u,h.get? b=Xy u->h'.get? b=Xy u):HOk P w H h':=λa o e=>
 (x a o e).stay (λb u _ q=>k b u q) (λ_ q=>q) λ_ _ q=>q
def HOk.laid(x:HOk P w H h)(k:∀b u,h.get? b=Xy u->h'.get? b=Xy u)(i:h.objs.size<=a)(d:oP P w (upd H a o) h' a o):HOk P w (upd H a o) h':=λb u e=>by
 have f:=x.fresh i;by_cases g:b=a
 ·subst g;rw[rZ] at e;cases e;exact d
 ·rw[qi g] at e;exact(x b u e).stay (λc v _ q=>k c v q) (λc q=>by rw[qi (sR q f)];exact q) λc j q=>by rw[qi (sR q f)];exact q
end
def Rd(H:Hp)(a:ae)(u:HO):Prop:=H a=Xy u \/ ∃o,H a=Xy (.frz o u)
def Rd.of(h:H a=Xy u):Rd H a u:=.inl h
def Rd.ok(r:Rd H a u)(x:HOk P w H h):oP P w H h a u:=by
 rcases r with r|⟨o,r⟩
 ·exact x a u r
 ·obtain⟨_,q⟩:=x a _ r;exact q
def HU:Option HO->Prop
 |some (.lst _)=>True
 |some (.dK _)=>True
 |some (.dT _)=>True
 |some (.set _ _)=>True
 |some (.ins _ _ _)=>True
 |some (.ext _)=>True
 |_=>False
section
variable{P:aP}{w:aZ}{H:Hp}{h h':a7}{x e:ae}{o':HO}
def HOk.write(ok:HOk P w H h)(a:HU (H x))(j:e=x\/H e=Xy (.own x))(k:∀b u,b≠e->h.get? b=Xy u->h'.get? b=Xy u)(n:∃u,h'.get? e=Xy u)
  (i:oP P w (upd H x o') h' x o'):HOk P w (upd H x o') h':=λb u q=>by
 have l:∀c y,H c=Xy (.own y)->c≠x:=λc y r z=>by subst z;rw[r] at a;exact a
 have o:∀c d,H c=Xy (.tup d)->c≠x:=λc d r z=>by subst z;rw[r] at a;exact a
 by_cases f:b=x
 ·subst f;rw[rZ] at q;cases q;exact i
 ·rw[qi f] at q;by_cases g:b=e
  ·have m:H b=Xy (.own x):=by
    rcases j with z|z
    ·exact absurd (g.trans z) f
    ·rw[g];exact z
   rw[q] at m;cases m;obtain⟨v,p⟩:=n;exact⟨v,by rw[g];exact p⟩
  ·refine(ok b u q).stay (λc v hc r=>k c v ?_ r) (λc r=>by rw[qi (l c b r)];exact r) λc d r=>by rw[qi (o c d r)];exact r
   rcases hc with rfl|hc
   ·exact g
   ·rintro rfl;rcases j with z|z
    ·exact l c b hc z
    ·rw[hc] at z;cases z;exact f rfl
end
structure Un(fs ex:List ae)(H H':Hp)(h h':a7):Prop where
 keep:∀b o,h.get? b=Xy o->H b=XV->b∉fs->b∉ex->h'.get? b=Xy o
 slot:∀b o,h.get? b=Xy o->H b=XV->b∈fs->b∉ex->∃sl,h'.get? b=Xy { o with slots:=sl }
 free:∀b o,h.get? b=Xy o->H b=XV->b∉ex->H' b=XV
 there:∀b o,h.get? b=Xy o->b∉ex->∃o',h'.get? b=Xy o'
 tups:∀b xs,H b=Xy (.tup xs)->H' b=Xy (.tup xs)
 frzs:∀b o u,H b=Xy (.frz o u)->H' b=Xy (.frz o u)
 tbls:∀b ps,H b=Xy (.tbl ps)->∃more,H' b=Xy (.tbl (ps++more))
section
variable{fs Xc ex Xi:List ae}{H H1 H2:Hp}{h h1 h2 h':a7}{a x e:ae}{o:HO}
def Un.any(u:Un fs ex H H1 h h1){b:ae}{c:Obj}(q:h.get? b=Xy c)(n:H b=XV)(d:b∉ex):∃g,h1.get? b=Xy { c with slots:=g }:=by
 by_cases f:b∈fs
 ·exact u.slot b c q n f d
 ·exact⟨c.slots,u.keep b c q n f d⟩
def Un.trans(a:Un fs ex H H1 h h1)(b:Un fs ex H1 H2 h1 h2):Un fs ex H H2 h h2 where
 keep:=λc d q n i f=>b.keep c d (a.keep c d q n i f) (a.free c d q n f) i f
 slot:=λc d q n i f=>by
  obtain⟨t,g⟩:=a.slot c d q n i f;obtain⟨m,k⟩:=b.slot c _ g (a.free c d q n f) i f;exact⟨m,k⟩
 free:=λc d q n f=>by
  obtain⟨l,g⟩:=a.there c d q f;exact b.free c l g (a.free c d q n f) f
 there:=λc d q f=>by
  obtain⟨l,g⟩:=a.there c d q f;exact b.there c l g f
 tups:=λc j q=>b.tups c j (a.tups c j q)
 frzs:=λc d j q=>b.frzs c d j (a.frzs c d j q)
 tbls:=λc p q=>by
  obtain⟨r,g⟩:=a.tbls c p q;obtain⟨s,k⟩:=b.tbls c _ g;exact⟨r++s,by rw[k,l8]⟩
def Un.kept(k:∀b u,h.get? b=Xy u->h'.get? b=Xy u):Un fs ex H H h h':=
 ⟨λb c q _ _ _=>k b c q,λb c q _ _ _=>⟨c.slots,k b c q⟩,λ_ _ _ n _=>n,λb c q _=>⟨c,k b c q⟩,λ_ _ q=>q,λ_ _ _ q=>q,λ_ d q=>⟨#[],by rw[q];simp⟩⟩
def Un.refl:Un fs ex H H h h:=Un.kept λ_ _ q=>q
def Un.laid(k:∀b u,h.get? b=Xy u->h'.get? b=Xy u)(d:h.objs.size<=a)(c:H a=XV):Un fs ex H (upd H a o) h h' where
 keep:=λb u q _ _ _=>k b u q
 slot:=λb u q _ _ _=>⟨u.slots,k b u q⟩
 free:=λb u q n _=>by rw[qi (bq (be (aN q) d))];exact n
 there:=λb u q _=>⟨u,k b u q⟩
 tups:=λb f q=>by rw[qi (sR q c)];exact q
 frzs:=λb u f q=>by rw[qi (sR q c)];exact q
 tbls:=λb g q=>⟨#[],by rw[qi (sR q c),q];simp⟩
def Un.write(c:HU (H x))(j:e=x\/H e=Xy (.own x))(k:∀b u,b≠e->h.get? b=Xy u->h'.get? b=Xy u)(l:∃u,h'.get? e=Xy u):Un fs ex H (upd H x o) h h':=by
 have f:∀b,H b=XV->b≠x:=λb n z=>by subst z;rw[n] at c;exact c
 have g:∀b,H b=XV->b≠e:=λb n z=>by
  subst z;rcases j with r|r
  ·exact f b n r
  ·rw[n] at r;cases r
 have d:∀b u,H b=Xy u->¬ HU (Xy u)->b≠x:=λb u q m z=>by subst z;rw[q] at c;exact m c
 refine⟨λb u q n _ _=>k b u (g b n) q,λb u q n _ _=>⟨u.slots,k b u (g b n) q⟩,λb u q n _=>by rw[qi (f b n)];exact n,λb u q _=>?_,
  λb p q=>by rw[qi (d b _ q λz=>z)];exact q,λb u p q=>by rw[qi (d b _ q λz=>z)];exact q,λb s q=>⟨#[],by rw[qi (d b _ q λz=>z),q];simp⟩⟩
 by_cases i:b=e
 ·subst i;exact l
 ·exact⟨u,k b u i q⟩
def Un.mono(u:Un fs ex H H1 h h1)(g:∀b∈fs,b∈Xc)(f:∀b∈ex,b∈Xi):Un Xc Xi H H1 h h1:=
 ⟨λb d q n i c=>u.keep b d q n (λz=>i (g b z)) λz=>c (f b z),λ_ _ q n _ c=>u.any q n λz=>c (f _ z),λb d q n c=>u.free b d q n λz=>c (f b z),λb d q c=>u.there b d q λz=>c (f b z),u.tups,u.frzs,u.tbls⟩
end
def Kj(h:a7)(H:Hp):List ae:=(aV h.objs.size).filter λa=>(H a).isSome
def zR(h:a7)(H:Hp):a7:=PySem.W.hideAll h (Kj h H)
def zcb(h:a7)(H:Hp):(zR h H).objs.size=h.objs.size:=PySem.W.hideAll_size _ _
def zf3(e:h.get? b=Xy o)(n:H b=XV):(zR h H).get? b=Xy o:=
 PySem.W.hideAll_get _ e λa=>by
  have q:(H b).isSome=YP:=(aA.mp a).2;rw[n] at q;simp at q
def zjo(e:(zR h H).get? b=Xy o):h.get? b=Xy o/\H b=XV:=by
 have a:h.get? b=Xy o:=PySem.W.of_hideAll (Kj h H) e;refine⟨a,?_⟩;cases q:H b with
 |none=>rfl
 | some x=>
  have c:b∈Kj h H:=aA.mpr ⟨bg.mpr (aN a),by simp[q]⟩;have z:(zR h H).get? b=XV:=PySem.W.hideAll_none (Kj h H) c;rw[z] at e;cases e
noncomputable def zjB(g h:a7)(L:ae):List (ae×Obj):=(aV h.objs.size).filterMap λa=>if a=L\/(g.get? a).isSome=YP then XV else (h.get? a).map λo=>(a,o)
def rest(g h:a7)(L d:ae):List (ae×Obj):=(zjB g h L).filter λp=>decide (p.1≠d)
structure Mod(K:ai)(mg:aB->Option ab)(base:a7):Prop where
 kin:K.In base
 glob:base.Ns bQ mg
 blt:∃mb,base.Ns builtinsNs mb/\∀x:aB,x ≠ "__name__"->mb x=bC x
 nolimit:base.NoLimit
structure Cx where
 prog:aP
 w:aZ
 K:ai
 mg:aB->Option ab
 base:a7
 A:bb
 N:List aB
 s₀:ag
 H₀:Hp
 env:Env
 outer:List Env
 stack:List Env
 ex:List ae
 fn:aB->Bool
 calm:Bool
 pn:List (ae×Obj)
 xe:ab->ag->Prop
noncomputable def vI(l:List Env):List ae:=l.filterMap (·.frame)
abbrev Cx.fs(X:Cx):List ae:=vI X.outer
def vK(sc:c8)(x:aB):Prop:=sc.names.lookup x=Xy .local\/sc.names.lookup x=Xy .cell\/sc.names.lookup x=Xy .free
def Loc(sc:c8)(x:aB):Prop:=sc.names.lookup x=Xy .local\/sc.names.lookup x=Xy .cell
def Ym(env:Env)(h:a7)(m:aB->Option ab)(x:aB)(u:ab):Prop:=
 (env.kindOf x=Xy .local/\m x=Xy u)\/((env.kindOf x=Xy .cell\/env.kindOf x=Xy .free)/\∃c,env.cells.lookup x=Xy c/\h.IsCell c (Xy u))
structure Cx.Ok(X:Cx):Prop where
 mod:Mod X.K X.mg X.base
 kind:X.env.scope.kind=.function
 glob:X.env.globals=bQ
 blt:X.env.builtins=builtinsNs
 above:X.s₀.heap.objs.size<=X.env.locals
 inj:∀x y c,X.env.cells.lookup x=Xy c->X.env.cells.lookup y=Xy c->x=y
 has:∀x,(X.env.kindOf x=Xy .cell\/X.env.kindOf x=Xy .free)->∃c,X.env.cells.lookup x=Xy c
 cab:∀x c,X.fn x=YP->X.env.cells.lookup x=Xy c->X.s₀.heap.objs.size<=c
 hd:X.calm=YP->X.A.handled=XV
 frames:X.A.frames=Xy X.stack
 stk:X.stack=X.outer\/(X.stack=X.env::X.outer/\X.env.frame=Xy X.env.locals)
 exf:∀b∈X.ex,b≠X.env.locals/\∀x c,X.env.cells.lookup x=Xy c->c≠b
 bs:∀b o,X.base.get? b=Xy o->X.s₀.heap.get? b=Xy o/\X.H₀ b=XV
 bsz:X.base.objs.size<=X.s₀.heap.objs.size
 noex:∀b o,X.base.get? b=Xy o->b∉X.ex
 exfs:∀b∈X.ex,b∉X.fs
 funs:X.s₀.heap.FunFrames X.base X.outer
 frf:∀b∈X.fs,X.H₀ b=XV
structure Inv(X:Cx)(Xa:List (ae×Obj))(σ:List (Option V))(H:Hp)(s:ag):Prop where
 ok:X.Ok
 os:s.os=X.s₀.os
 bare:ip s.gens
 base:Un X.fs X.ex X.H₀ H X.s₀.heap s.heap
 loc:∃m,s.heap.Ns X.env.locals m/\∀(i:Nat)(x:aB)(v:V),X.N[i]?=Xy x->σ[i]?=Xy (Xy v)->vK X.env.scope x->∃u,RelV v u/\Ym X.env s.heap m x u
 cell:∀x c,X.env.cells.lookup x=Xy c->∃v,s.heap.IsCell c v
 free:H X.env.locals=XV
 freeC:∀x c,X.env.cells.lookup x=Xy c->H c=XV
 pin:∀p∈X.pn++Xa,s.heap.get? p.1=Xy p.2/\H p.1=XV/\p.1≠X.env.locals/\p.1∉X.fs/\∀v,p.2.data ≠ .cell v
 hok:HOk X.prog X.w H s.heap
 len:σ.length=X.N.length
 tk:0<s.toks
section
variable{X:Cx}{Xa:List (ae×Obj)}{σ:List (Option V)}{H H':Hp}{s:ag}{h':a7}
def Cx.Ok.nofr(ok:X.Ok)(e:X.base.get? b=Xy o):b∉X.fs:=λa=>by
 have:=(ok.funs.mem a).1;rw[e] at this;cases this
def Inv.bs(I:Inv X Xa σ H s):∀b o,X.base.get? b=Xy o->s.heap.get? b=Xy o/\H b=XV:=λb o e=>
 ⟨I.base.keep b o (I.ok.bs b o e).1 (I.ok.bs b o e).2 (I.ok.nofr e) (I.ok.noex b o e),I.base.free b o (I.ok.bs b o e).1 (I.ok.bs b o e).2 (I.ok.noex b o e)⟩
def Inv.bk(I:Inv X Xa σ H s):∀b o,X.base.get? b=Xy o->s.heap.get? b=Xy o:=λb o e=>(I.bs b o e).1
def Inv.mod(I:Inv X Xa σ H s):Mod X.K X.mg X.base:=I.ok.mod
def Inv.kIn(I:Inv X Xa σ H s):X.K.In s.heap:=I.ok.mod.kin.keeps I.bk
def Inv.lt(I:Inv X Xa σ H s):X.env.locals<s.heap.objs.size:=let ⟨_,hn,_⟩:=I.loc;hn.lt
def Inv.sz(I:Inv X Xa σ H s):X.s₀.heap.objs.size<=s.heap.objs.size:=aH I.ok.above (fV I.lt)
def Inv.nofs(I:Inv X Xa σ H s)(h:s.heap.objs.size<=a):a∉X.fs:=λb=>by
 obtain⟨_,o,c,_⟩:=I.ok.funs.mem b;exact absurd (be (aN c) (aH I.sz h)) (bZ _)
def Inv.cne(I:Inv X Xa σ H s):∀x c,X.env.cells.lookup x=Xy c->c≠X.env.locals:=λx c e z=>by
 obtain⟨v,o,a,b⟩:=I.cell x c e;obtain⟨m,⟨g,h,i,d,f,_⟩,_⟩:=I.loc;rw[z,d] at a;cases a;rw[f] at b;cases b
def Inv.funs(I:Inv X Xa σ H s):s.heap.FunFrames X.base X.outer:=by
 have a:∀(l:List Env),(∀b∈vI l,b∈X.fs)->X.s₀.heap.FunFrames X.base l->s.heap.FunFrames X.base l:=by
  intro l
  induction l with
  |nil=>intro _ _;trivial
  | cons env r ih=>
   intro g h;obtain⟨i,⟨L,o,c,j,k,m⟩,n⟩:=h;have d:L∈X.fs:=g L (by unfold vI;rw[eZ,c];exact ar);obtain⟨p,e⟩:=I.base.slot L o k (I.ok.frf L d) d λz=>I.ok.exfs L z d;exact⟨i,⟨L,_,c,j,e,m⟩,ih (λb f=>g b (by unfold vI;rw[eZ,c];exact ak _ f)) n⟩
 exact a X.outer (λ_ f=>f) I.ok.funs
def Inv.stack(I:Inv X Xa σ H s):s.heap.FunFrames X.base X.stack:=by
 rcases I.ok.stk with e|⟨e,a⟩
 ·rw[e];exact I.funs
 ·rw[e];obtain⟨m,b,_⟩:=I.loc;refine .cons (by rw[I.ok.kind];decide) a b ?_ I.funs;exact Heap.get?_none_of_le (aH I.ok.bsz I.ok.above)
def Inv.stkSub(I:Inv X Xa σ H s):∀b∈vI X.stack,b∈X.env.locals::X.fs:=λb a=>by
 rcases I.ok.stk with e|⟨e,c⟩
 ·rw[e] at a;exact ak _ a
 ·rw[e] at a;unfold vI at a;rw[eZ,c] at a;exact a
def Inv.stkFree(I:Inv X Xa σ H s):∀b∈vI X.stack,H b=XV:=λb hb=>by
 rcases aw.mp (I.stkSub b hb) with e|hb
 ·rw[e];exact I.free
 ·obtain⟨_,o,a,_⟩:=I.ok.funs.mem hb;exact I.base.free b o a (I.ok.frf b hb) λz=>I.ok.exfs b z hb
def Inv.step{g':Array mY}{t':Nat}{d':Drawn}{ch:List ae}(I:Inv X Xa σ H s)
  (C:∀b∈ch,(b∈X.ex\/X.s₀.heap.objs.size<=b)/\b≠X.env.locals/\(∀x c,X.env.cells.lookup x=Xy c->c≠b)/\∀p∈X.pn++Xa,p.1≠b)
  (g:∀b o,b≠X.env.locals->b∉X.fs->b∉ch->s.heap.get? b=Xy o->H b=XV->h'.get? b=Xy o)
  (t:∀b o,b≠X.env.locals->b∈X.fs->b∉ch->s.heap.get? b=Xy o->H b=XV->∃O,h'.get? b=Xy { o with slots:=O }) (f:∀b o,b∉ch->s.heap.get? b=Xy o->H b=XV->H' b=XV)
  (y:∀b o,b∉ch->s.heap.get? b=Xy o->∃D,h'.get? b=Xy D)
  (E:∀b xs,H b=Xy (.tup xs)->H' b=Xy (.tup xs)) (F:∀b o u,H b=Xy (.frz o u)->H' b=Xy (.frz o u)) (G:∀b M,H b=Xy (.tbl M)->∃J,H' b=Xy (.tbl (M++J)))
  (Y:∀m,s.heap.Ns X.env.locals m->h'.Ns X.env.locals m) (P:HOk X.prog X.w H' h') (Z:ip g') (ht:0<t'):
  Inv X Xa σ H' { s with heap:=h',gens:=g',drawn:=d',toks:=t' }:=by
 have R:∀b o,X.s₀.heap.get? b=Xy o->b≠X.env.locals:=λb o e=>bq (be (aN e) I.ok.above);have N:∀b o,X.s₀.heap.get? b=Xy o->b∉X.ex->b∉ch:=λb o e a A=>by
  rcases (C b A).1 with z|z
  ·exact a z
  ·exact absurd (be (aN e) z) (bZ _)
 have h:∀x c,X.env.cells.lookup x=Xy c->∀v,s.heap.IsCell c v->h'.IsCell c v:=λx c e v ⟨o,B,Q⟩=>by
  have K:c∉ch:=λz=>(C c z).2.2.1 x c e rfl;by_cases S:c∈X.fs
  ·obtain⟨O,q⟩:=t c o (I.cne x c e) S K B (I.freeC x c e);exact⟨_,q,Q⟩
  ·exact⟨o,g c o (I.cne x c e) S K B (I.freeC x c e),Q⟩
 refine⟨I.ok,I.os,Z,⟨λb o e n A a=>?_,λb o e n A a=>?_,λb o e n a=>?_,λb o e a=>?_,λb xs e=>E b xs (I.base.tups b xs e),λb o xs e=>F b o xs (I.base.frzs b o xs e),λb M e=>?_⟩,?_,λx c e=>?_,?_,λx c e=>?_,λp T=>?_,P,I.len,ht⟩
 ·exact g b o (R b o e) A (N b o e a) (I.base.keep b o e n A a) (I.base.free b o e n a)
 ·obtain⟨O,j⟩:=I.base.slot b o e n A a;obtain⟨CQ,L⟩:=t b _ (R b o e) A (N b o e a) j (I.base.free b o e n a);exact⟨CQ,L⟩
 ·obtain⟨D,j⟩:=I.base.there b o e a;exact f b D (N b o e a) j (I.base.free b o e n a)
 ·obtain⟨D,j⟩:=I.base.there b o e a;exact y b D (N b o e a) j
 ·obtain⟨m1,j⟩:=I.base.tbls b M e;obtain⟨m2,L⟩:=G b _ j;exact⟨m1++m2,by rw[L,l8]⟩
 ·obtain⟨m,hn,hl⟩:=I.loc;refine⟨m,Y m hn,λi x v j L e3=>?_⟩;obtain⟨u,r,l⟩:=hl i x v j L e3;refine⟨u,r,?_⟩;rcases l with l|⟨k,c,e,z⟩
  ·exact .inl l
  ·exact .inr ⟨k,c,e,h x c e _ z⟩
 ·obtain⟨v,z⟩:=I.cell x c e;exact⟨v,h x c e v z⟩
 ·obtain⟨m,⟨o,_,_,B,_⟩,_⟩:=I.loc;exact f _ o (λz=>(C _ z).2.1 rfl) B I.free
 ·obtain⟨v,o,B,Q⟩:=I.cell x c e;exact f c o (λz=>(C c z).2.2.1 x c e rfl) B (I.freeC x c e)
 ·obtain⟨e,n,U,W,d⟩:=I.pin p T;have K:p.1∉ch:=λz=>(C p.1 z).2.2.2 p T rfl;exact⟨g p.1 p.2 U W K e n,f p.1 p.2 K e n,U,W,d⟩
def Inv.un{t':Nat}(I:Inv X Xa σ H s)(u:Un X.fs [] H H' s.heap h')(a:HOk X.prog X.w H' h')(g:0<t':=by first|exact cS _|exact Inv.tk ‹_›|assumption|lia):Inv X Xa σ H' { s with heap:=h',toks:=t' }:=by
 obtain⟨m,⟨o,p,q,d,r⟩,_⟩:=id I.loc;obtain⟨t,h⟩:=u.any d I.free 'k';exact I.step (g':=s.gens) (d':=s.drawn) (ch:=[]) (λ_ z=>nomatch z) (λb o _ c _ e n=>u.keep b o e n c 'k') (λb o _ c _ e n=>u.slot b o e n c 'k') (λb o _ e n=>u.free b o e n 'k') (λb o _ e=>u.there b o e 'k') u.tups u.frzs u.tbls (λv i=>by
  obtain⟨x,j,k,f,l⟩:=i;rw[d] at f;cases f;exact⟨_,j,k,h,l⟩) a I.bare g
def Inv.call{g':Array mY}{t':Nat}{d':Drawn}{ch:List ae}(I:Inv X Xa σ H s)(u:Un (vI X.stack) ch H H' s.heap h')(d:HOk X.prog X.w H' h')(j:ip g')
  (g:∀b∈ch,(b∈X.ex\/X.s₀.heap.objs.size<=b)/\b≠X.env.locals/\(∀x c,X.env.cells.lookup x=Xy c->c≠b)/\∀p∈X.pn++Xa,p.1≠b) (k:0<t':=by first|exact cS _|exact Inv.tk ‹_›|assumption|lia):
  Inv X Xa σ H' { s with heap:=h',gens:=g',drawn:=d',toks:=t' }:=by
 obtain⟨m,⟨o,A,B,h,r⟩,_⟩:=id I.loc;obtain⟨C,f⟩:=u.any h I.free λz=>(g _ z).2.1 rfl;exact I.step (ch:=ch) g (λb o f l a e n=>u.keep b o e n (λz=>(aw.mp (I.stkSub b z)).elim f l) a) (λb o _ _ a e n=>u.any e n a) (λb o a e n=>u.free b o e n a) (λb o a e=>u.there b o e a) u.tups u.frzs u.tbls (λD q=>by
  obtain⟨E,t,v,i,y⟩:=q;rw[h] at i;cases i;exact⟨_,t,v,f,y⟩) d j k
def Inv.turned{t':Nat}{it:ae}(I:Inv X Xa σ H s)(k:∀b o,b≠it->s.heap.get? b=Xy o->h'.get? b=Xy o)(g:H it=XV)(d:it≠X.env.locals)
  (h:it∈X.ex\/X.s₀.heap.objs.size<=it) (i:∀x c,X.env.cells.lookup x=Xy c->c≠it) (j:∀p∈X.pn++Xa,p.1≠it) (l:0<t':=by first|exact cS _|exact Inv.tk ‹_›|assumption|lia):Inv X Xa σ H { s with heap:=h',toks:=t' }:=by
 have f:∀b u,H b=Xy u->b≠it:=λb u e z=>by rw[z,g] at e;cases e
 refine I.step (g':=s.gens) (d':=s.drawn) (ch:=[it]) (λb t=>?_) (λb o _ _ a e _=>k b o (λz=>a (by simp[z])) e) (λb o _ _ a e _=>⟨o.slots,k b o (λz=>a (by simp[z])) e⟩) (λ_ _ _ _ n=>n)
  (λb o a e=>⟨o,k b o (λz=>a (by simp[z])) e⟩) (λ_ _ e=>e) (λ_ _ _ e=>e) (λb C e=>⟨#[],by rw[e];simp⟩) (λm w=>?_) (λb u e=>?_) I.bare l
 ·have e:b=it:=⇑t
  subst e;exact⟨h,d,i,j⟩
 ·obtain⟨o,y,A,B,r⟩:=w;exact⟨o,y,A,k _ o (bP d) B,r⟩
 ·refine(I.hok b u e).stay (λc v a q=>k c v ?_ q) (λ_ q=>q) λ_ _ q=>q;rcases a with z|z
  ·rw[z];exact f b u e
  ·exact f c _ z
def Inv.tok(I:Inv X Xa σ H s)(t:Nat)(a:0<t:=by first|exact cS _|exact Inv.tk ‹_›|assumption|lia):Inv X Xa σ H { s with toks:=t }:=I.un (h':=s.heap) (t':=t) Un.refl I.hok
def Inv.kept(I:Inv X Xa σ H s)(k:∀b u,s.heap.get? b=Xy u->h'.get? b=Xy u)(a:0<t':=by first|exact cS _|exact Inv.tk ‹_›|assumption|lia):Inv X Xa σ H { s with heap:=h',toks:=t' }:=I.un (Un.kept k) (I.hok.kept k)
def Inv.laid{a:ae}{o:HO}{t':Nat}(I:Inv X Xa σ H s)(k:∀b u,s.heap.get? b=Xy u->h'.get? b=Xy u)(c:s.heap.objs.size<=a)(d:oP X.prog X.w (upd H a o) h' a o)(e:0<t':=by first|exact cS _|exact Inv.tk ‹_›|assumption|lia):
  Inv X Xa σ (upd H a o) { s with heap:=h',toks:=t' }:=I.un (Un.laid k c (I.hok.fresh c)) (I.hok.laid k c d)
def Inv.write(I:Inv X Xa σ H s)(c:HU (H x))(d:e=x\/H e=Xy (.own x))(k:∀b u,b≠e->s.heap.get? b=Xy u->h'.get? b=Xy u)(f:∃u,h'.get? e=Xy u)
  (a:oP X.prog X.w (upd H x o) h' x o) (g:0<t':=by first|exact cS _|exact Inv.tk ‹_›|assumption|lia):Inv X Xa σ (upd H x o) { s with heap:=h',toks:=t' }:=I.un (Un.write c d k f) (I.hok.write c d k f a)
def Inv.pins_of(I:Inv X Xa σ H s)(h:∀p∈Gw,s.heap.get? p.1=Xy p.2/\H p.1=XV/\p.1≠X.env.locals/\p.1∉X.fs/\∀v,p.2.data ≠ .cell v):Inv X Gw σ H s:=
 ⟨I.ok,I.os,I.bare,I.base,I.loc,I.cell,I.free,I.freeC,λp a=>(aM.mp a).elim (λz=>I.pin p (bt _ z)) (h p),I.hok,I.len,I.tk⟩
def Uu{N:List aB}(c:N.Nodup){i j:Nat}{x:aB}(a:N[i]?=Xy x)(b:N[j]?=Xy x):i=j:=by obtain⟨f,d⟩:=ao.mp a;obtain⟨g,e⟩:=ao.mp b;exact(j9 c).mp (d.trans e.symm)
def Jx{M:i4}{A:bb}{E:ab->ag->Prop}{i:Nat}{x:aB}{v:V}{u:ab}{Q:Unit->ag->Prop}(I:Inv X Xa σ H s)(hN:X.N.Nodup)(G:X.N[i]?=Xy x)(t:Loc X.env.scope x)(r:RelV v u)
  (h:∀O,Inv X Xa (σ.set i (Xy v)) H O->(∃a,dg a s.heap O.heap/\(a=X.env.locals\/X.env.cells.lookup x=Xy a))->Q () O) (hf:X.fn x=YP\/X.env.scope.names.lookup x=Xy .local:=by first|exact .inl rfl|exact .inr rfl|assumption):av M A (storeName X.env x u) Q E s:=by
 obtain⟨m,P,hl⟩:=id I.loc;have Dq:(X.env.scope.kind == .class||(X.env.scope.kind == .module&&X.env.locals !=X.env.globals))=Y1:=by rw[I.ok.kind];rfl
 have Ho:i<σ.length:=by rw[I.len];exact(ao.mp G).1
 have C:=I.cne;have g:∀{a:ae}{h':a7},(∃o,s.heap.get? a=Xy o/\H a=XV)->dg a s.heap h'->HOk X.prog X.w H h':=λ{a h'}ha f b ob e=>by
  obtain⟨_,_,rm⟩:=ha;refine(I.hok b ob e).stay (λc J hc q=>(f.2 c ?_).trans q) (λ_ q=>q) λ_ _ q=>q;rintro rfl;rcases hc with rfl|hc
  ·rw[rm] at e;cases e
  ·rw[rm] at hc;cases hc
 rcases t with hk|hk
 ·refine wpAny_storeName_local hk P (λh' KJ f=>?_) Dq;obtain⟨oL,_,_,R,_⟩:=id P;refine h _ ⟨I.ok,I.os,I.bare,⟨λb o e n D t=>?_,λb o e n D t=>?_,I.base.free,λb o e t=>?_,I.base.tups,I.base.frzs,I.base.tbls⟩,⟨_,KJ,λj y S l B T=>?_⟩,λy c e=>?_,I.free,I.freeC,λp U=>?_,g ⟨oL,R,I.free⟩ f,by simpa using I.len,cS _⟩ ⟨_,f,.inl rfl⟩
  ·exact(f.2 b (bq (be (aN e) I.ok.above))).trans (I.base.keep b o e n D t)
  ·obtain⟨W,l⟩:=I.base.slot b o e n D t;exact⟨W,(f.2 b (bq (be (aN e) I.ok.above))).trans l⟩
  ·obtain⟨Y,l⟩:=I.base.there b o e t;exact⟨Y,(f.2 b (bq (be (aN e) I.ok.above))).trans l⟩
  ·by_cases F:j=i
   ·subst F;rw[G] at l;cases l;rw[bE Ho] at B;cases B;exact⟨u,r,.inl ⟨hk,by simp⟩⟩
   ·rw[bu (bP F)] at B;obtain⟨Z,r',q⟩:=hl j y S l B T;refine⟨Z,r',?_⟩;rcases q with⟨k,e⟩|⟨k,c,e,z⟩
    ·refine .inl ⟨k,?_⟩;have:y≠x:=λe=>F (Uu hN l (e▸G));simp[this,e]
    ·exact .inr ⟨k,c,e,z.sameBut f (C y c e)⟩
  ·obtain⟨J,z⟩:=I.cell y c e;exact⟨J,z.sameBut f (C y c e)⟩
  ·obtain⟨e,n,K,nf,d⟩:=I.pin p U;exact⟨(f.2 p.1 K).trans e,n,K,nf,d⟩
 ·have EW:X.fn x=YP:=by
   rcases hf with z|z
   ·exact z
   ·rw[z] at hk;cases hk
  obtain⟨c,hc⟩:=I.ok.has x (.inl hk);obtain⟨J,z⟩:=I.cell x c hc;refine wpAny_storeName_cell I.ok.kind hk hc z (λh' zJ f=>?_);obtain⟨oc,ER,OF⟩:=id z;refine h { s with heap:=h' } ⟨I.ok,I.os,I.bare,⟨λb o e n D t=>?_,λb o e n D t=>?_,I.base.free,λb o e t=>?_,I.base.tups,I.base.frzs,I.base.tbls⟩,⟨m,P.sameBut f (bP (C x c hc)),λj y S l B T=>?_⟩,λy L e=>?_,I.free,I.freeC,λp U=>?_,g ⟨oc,ER,I.freeC x c hc⟩ f,by simpa using I.len,I.tk⟩ ⟨c,f,.inr hc⟩
  ·exact(f.2 b (bq (be (aN e) (I.ok.cab x c EW hc)))).trans (I.base.keep b o e n D t)
  ·obtain⟨W,l⟩:=I.base.slot b o e n D t;exact⟨W,(f.2 b (bq (be (aN e) (I.ok.cab x c EW hc)))).trans l⟩
  ·obtain⟨Y,l⟩:=I.base.there b o e t;exact⟨Y,(f.2 b (bq (be (aN e) (I.ok.cab x c EW hc)))).trans l⟩
  ·by_cases F:j=i
   ·subst F;rw[G] at l;cases l;rw[bE Ho] at B;cases B;exact⟨u,r,.inr ⟨.inl hk,c,hc,zJ⟩⟩
   ·rw[bu (bP F)] at B;obtain⟨Z,r',q⟩:=hl j y S l B T;refine⟨Z,r',?_⟩;rcases q with q|⟨k,L,e,z'⟩
    ·exact .inl q
    ·refine .inr ⟨k,L,e,z'.sameBut f ?_⟩;rintro rfl;exact F (Uu hN l (I.ok.inj _ _ _ e hc▸G))
  ·by_cases ux:L=c
   ·subst ux;exact⟨_,zJ⟩
   ·obtain⟨w2,z2⟩:=I.cell y L e;exact⟨w2,z2.sameBut f ux⟩
  ·obtain⟨e,n,K,nf,d⟩:=I.pin p U;refine⟨(f.2 p.1 ?_).trans e,n,K,nf,d⟩;intro q;rw[q,ER] at e;have q':oc=p.2:=cu e;exact d J (by rw[<- q'];exact OF)
def MP(I:Inv X Xa σ H s)(b:X.N.Nodup)(c:X.N[i]?=Xy x)(d:Loc X.env.scope x)(r:RelV v u)
  (h:∀a,Inv X Xa (σ.set i (Xy v)) H a->Q () a) (e:X.fn x=YP\/X.env.scope.names.lookup x=Xy .local:=by first|exact .inl rfl|exact .inr rfl|assumption):av M A (storeName X.env x u) Q E s:=
 Jx I b c d r (λa f _=>h a f) e
def Inv.call'(I:Inv X Xa σ H s)(d:s'.os=s.os)(u:Un (vI X.stack) ch H H' s.heap s'.heap)(a:HOk X.prog X.w H' s'.heap)(f:ip s'.gens)
  (g:∀b∈ch,(b∈X.ex\/X.s₀.heap.objs.size<=b)/\b≠X.env.locals/\(∀x c,X.env.cells.lookup x=Xy c->c≠b)/\∀p∈X.pn++Xa,p.1≠b) (i:0<s'.toks:=by first|exact cS _|exact Inv.tk ‹_›|assumption|lia):Inv X Xa σ H' s':=by obtain⟨h',g',d',t',h⟩:=s';have e:h=s.os:=d;subst e;exact I.call (g':=g') (t':=t') (d':=d') u a f g
end
abbrev XK:=ab->Option ae->Hp->Prop
abbrev St:=List (Option V)
abbrev VK:=V->Hp->Prop
abbrev TE:=St->Hp->VK->Prop
abbrev TT:=St->Hp->(Bool->Hp->Prop)->Prop
abbrev TA:=St->Hp->(List V->Hp->Prop)->Prop
structure zev where
 nx:St->Hp->Prop
 rt:VK
 bk:St->Hp->Prop:=λ_ _=>False
 ct:St->Hp->Prop:=λ_ _=>False
abbrev TS:=zev->St->Hp->Prop
def EP(X:Cx)(Xa:List (ae×Obj))(σ:St)(Q:VK)(u:ab)(s':ag):Prop:=∃v H',Inv X Xa σ H' s'/\RelV v u/\Q v H'
def TP(X:Cx)(Xa:List (ae×Obj))(σ:St)(Q:Bool->Hp->Prop)(b:Bool)(s':ag):Prop:=∃H',Inv X Xa σ H' s'/\Q b H'
def AP(X:Cx)(Xa:List (ae×Obj))(σ:St)(Q:List V->Hp->Prop)(us:List ab)(s':ag):Prop:=∃vs H',Inv X Xa σ H' s'/\oF vs us/\Q vs H'
def SP(X:Cx)(Xa:List (ae×Obj))(D:zev)(f:Flow)(s':ag):Prop:=
 match f with
 |.next=>∃σ' H',Inv X Xa σ' H' s'/\D.nx σ' H'
 |.brk=>∃σ' H',Inv X Xa σ' H' s'/\D.bk σ' H'
 |.cont=>∃σ' H',Inv X Xa σ' H' s'/\D.ct σ' H'
 |.ret u=>∃v σ' H',Inv X Xa σ' H' s'/\RelV v u/\D.rt v H'
def PE(X:Cx)(e:aT)(t:TE):Prop:=
 ∀(Xa:List (ae×Obj))(s:ag)(σ:St)(H:Hp)(Q:VK),Inv X Xa σ H s->t σ H Q->av (az X.prog X.w) X.A (eval e X.env) (EP X Xa σ Q) X.xe s
def PT(X:Cx)(e:aT)(t:TT):Prop:=
 ∀(Xa:List (ae×Obj))(s:ag)(σ:St)(H:Hp)(Q:Bool->Hp->Prop),Inv X Xa σ H s->t σ H Q->av (az X.prog X.w) X.A (isTrue e X.env (eval e X.env)) (TP X Xa σ Q) X.xe s
def PW(X:Cx)(e:aT)(t:TT):Prop:=
 ∀(o4:Sem ab)(Xa:List (ae×Obj))(s:ag)(σ:St)(H:Hp)(Q:Bool->Hp->Prop),Inv X Xa σ H s->t σ H Q->av (az X.prog X.w) X.A (isTrue e X.env o4) (TP X Xa σ Q) X.xe s
def PW.pt(h:PW X e t):PT X e t:=h _
def PA(X:Cx)(es:List aT)(t:TA):Prop:=
 ∀(pos:Pos)(Xa:List (ae×Obj))(s:ag)(σ:St)(H:Hp)(Q:List V->Hp->Prop),Inv X Xa σ H s->t σ H Q->av (az X.prog X.w) X.A (spliced (backTo pos (aR es X.env))) (AP X Xa σ Q) X.xe s
def PS(X:Cx)(st:eH)(t:TS):Prop:=
 ∀(Xa:List (ae×Obj))(s:ag)(σ:St)(H:Hp)(D:zev),Inv X Xa σ H s->t D σ H->av (az X.prog X.w) X.A (exec st X.env) (SP X Xa D) X.xe s
def t_(X:Cx)(st:List eH)(t:TS):Prop:=
 ∀(Xa:List (ae×Obj))(s:ag)(σ:St)(H:Hp)(D:zev),Inv X Xa σ H s->t D σ H->av (az X.prog X.w) X.A (execs st X.env) (SP X Xa D) X.xe s
def qc{α:Type}{t:Sem α}{Q b:α->ag->Prop}{M:i4}{A:bb}{E:ab->ag->Prop}{s:ag}(h:av M A t Q E s)(c:∀a s,Q a s->b a s):av M A t b E s:=cB h c λ_ _ x=>x
section
variable{X:Cx}
def bin{a b:aT}{i j:TE}(k:PE X a i)(l:PE X b j){c:List (ae×Obj)}{s:ag}{σ:St}{H:Hp}{R:V->V->Hp->Prop}(I:Inv X c σ H s)(h:i σ H λx g=>j σ g λy d=>R x y d)
  {α:Type} {Q:α->ag->Prop} {f:ab->ab->Sem α}
  (m:∀v u e x y d,Inv X c σ d e->RelV x v->RelV y u->R x y d->av (az X.prog X.w) X.A (f v u) Q X.xe e):
  av (az X.prog X.w) X.A (eval a X.env) (λv n=>av (az X.prog X.w) X.A (eval b X.env) (λu o=>av (az X.prog X.w) X.A (f v u) Q X.xe o) X.xe n) X.xe s:=by refine qc (k c s σ H _ I h) λv p ⟨x,g,q,r,t⟩=>?_;refine qc (l c p σ g _ q t) λu e ⟨y,d,z,B,C⟩=>?_;exact m v u e x y d z r B C
def Iu(i:Nat):TE:=λσ H Q=>∃v,σ[i]?=Xy (Xy v)/\Q v H
def tC(v:V):TE:=λ_ H Q=>Q v H
abbrev s9(x:aB):Prop:=(x==("__debug__":aB))=Y1
def IS(j:X.N[i]?=Xy x)(k:vK X.env.scope x)(d:s9 x:=by decide)(n:(x==("__classdict__":aB))=Y1:=by decide):PE X (.Name x pos) (Iu i):=by
 intro b s o H Q I h;obtain⟨v,e,h⟩:=h;obtain⟨m,p,q⟩:=I.loc;obtain⟨u,r,l⟩:=q i x v j e k;have a:EP X b o Q u s:=⟨v,H,I,r,h⟩;rcases l with⟨hk,t⟩|⟨hk,c,f,g⟩
 ·exact wpAny_Name (lF I.ok.kind hk p t a) d
 ·rcases hk with hk|hk
  ·exact wpAny_Name (lV I.ok.kind hk f g a) d
  ·exact wpAny_Name (wpAny_loadName_free I.ok.kind hk f g a n) d
def RO:PE X (.Constant (.int i) j pos) (tC (.int i)):=λ_ _ _ H _ I h=>wpAny_Constant_int ⟨.int i,H,I.tok _,⟨_,rfl⟩,h⟩
def X_:PE X (.Constant (.bool b) j pos) (tC (.bl b)):=λ_ _ _ H _ I h=>Constant_bool ⟨.bl b,H,I,rfl,h⟩
def Rh:PE X (.Constant .none j pos) (tC .non):=λ_ _ _ H _ I h=>Constant_none ⟨.non,H,I,rfl,h⟩
def RM:PE X (.Constant (.str x) j pos) (tC (.str x)):=λ_ _ _ H _ I h=>Calls.Constant_str ⟨.str x,H,I.tok _,⟨_,rfl⟩,h⟩
def Gl(X:Cx)(x:aB):Prop:=X.env.kindOf x=Xy .globalImplicit
def SF(I:Inv X Xa σ H s)(a:Gl X x)(b:X.mg x=Xy u)(h:Q u s)
  (c:s9 x:=by decide):av (az X.prog X.w) X.A (eval (.Name x pos) X.env) Q E s:=
 jI I.ok.kind a (Calls.loadGlobal_global (by rw[I.ok.glob];exact I.mod.glob.keeps I.bk) b h) c
def By(I:Inv X Xa σ H s)(a:Gl X x)(b:X.mg x=XV)(c:bC x=Xy u)(h:Q u s)
  (d:x ≠ "__name__":=by decide) (e:s9 x:=by decide):av (az X.prog X.w) X.A (eval (.Name x pos) X.env) Q E s:=by obtain⟨i,f,g⟩:=I.mod.blt;exact jI I.ok.kind a (Calls.loadGlobal_builtin (by rw[I.ok.glob];exact I.mod.glob.keeps I.bk) b (by rw[I.ok.blt];exact f.keeps I.bk) ((g x d).trans c) h) e
def Jh(a:Gl X x)(b:X.mg x=Xy u)(r:RelV v u)(c:s9 x:=by decide):PE X (.Name x pos) (tC v):=
 λ_ _ _ H _ I h=>SF I a b ⟨v,H,I,r,h⟩ c
def zjx(a:Gl X x)(b:X.mg x=XV)(c:bC x=Xy u)(r:RelV v u)(d:x ≠ "__name__":=by decide)(e:s9 x:=by decide):PE X (.Name x pos) (tC v):=
 λ_ _ _ H _ I h=>By I a b c ⟨v,H,I,r,h⟩ d e
variable{a b:aT}{ta tb:TE}{pos:Pos}
def PC(X:Cx)(op:CmpOp)(a b:aT)(t:TE):Prop:=
 ∀(Xa:List (ae×Obj))(s:ag)(σ:St)(H:Hp)(Q:VK),Inv X Xa σ H s->t σ H Q->
  av (az X.prog X.w) X.A (eval a X.env) (λv pU=>av (az X.prog X.w) X.A (eval b X.env) (λu tN=>av (az X.prog X.w) X.A (cD op v u) (EP X Xa σ Q) X.xe tN) X.xe pU) X.xe s
def UK(b:aT)(h:op ≠ .In)(c:op ≠ .NotIn):behindInMarks op b=Y1:=by
 have d:(op==CmpOp.In)=Y1:=by cases op<;>first|rfl|exact absurd rfl h
 have e:(op==CmpOp.NotIn)=Y1:=by cases op<;>first|rfl|exact absurd rfl c
 cases b<;>simp[behindInMarks,d,e]
def tB(t:TE):TT:=λσ H Q=>t σ H λx H1=>∃c,x=.bl c/\Q c H1
def zkt(h:PC X op a b t)(d:behindInMarks op b=Y1:=by first|exact UK _ 'u' 'u'|rfl):PE X (.Compare a [op] [b] pos) t:=λc s e H Q I f=>wpAny_Compare1 (h c s e H Q I f) d
def zky{f:CmpOp}{t:TE}(h:PC X f a b t)(g:behindInMarks f b=Y1:=by first|exact UK _ 'u' 'u'|rfl):PT X (.Compare a [f] [b] pos) (tB t):=by intro e s i H Q I j;refine kY (qc (h e s i H _ I j) λv p g=>qc g λu r k=>qc k λc w ⟨x,l,m,n,o⟩=>?_) g;obtain⟨d,rfl,q⟩:=o;cases n;exact dq ⟨l,m,q⟩
variable{tA Km:TT}{rest:List aT}
def Yo(t u:TT):TT:=λσ H Q=>t σ H λc H1=>if c=YP then u σ H1 Q else Q Y1 H1
def tOr(t u:TT):TT:=λσ H Q=>t σ H λc H1=>if c=YP then Q YP H1 else u σ H1 Q
def XE(t:TT):TT:=λσ H Q=>t σ H λc H1=>Q (!c) H1
def zjl(f:PT X a tA):PW X (.BoolOp .And [a] pos) tA:=by
 intro i d s g H Q I h;refine isTrue_and (qc (f d s g H Q I h) λc j e=>?_);cases c with
 |true=>exact isTrue_and_nil e
 |false=>exact e
def zl3(f:PT X a tA):PW X (.BoolOp .Or [a] pos) tA:=by
 intro i d s g H Q I h;refine isTrue_or (qc (f d s g H Q I h) λc j e=>?_);cases c with
 |false=>exact isTrue_or_nil e
 |true=>exact e
def ZG(j:PT X a tA)(k:PW X (.BoolOp .And (b::rest) pos) Km):PW X (.BoolOp .And (a::b::rest) pos) (Yo tA Km):=by
 intro l d s e H Q I h;refine isTrue_and (qc (j d s e H _ I h) λc m ⟨f,g,i⟩=>?_);cases c with
 |true=>exact k l d m e f Q g i
 |false=>exact⟨f,g,i⟩
def YU(j:PT X a tA)(k:PW X (.BoolOp .Or (b::rest) pos) Km):PW X (.BoolOp .Or (a::b::rest) pos) (tOr tA Km):=by
 intro l d s e H Q I h;refine isTrue_or (qc (j d s e H _ I h) λc m ⟨f,g,i⟩=>?_);cases c with
 |true=>exact⟨f,g,i⟩
 |false=>exact k l d m e f Q g i
def zlC(e:PT X a tA):PT X (.UnaryOp .Not a pos) (XE tA):=by intro d s f H Q I h;exact isTrue_not (e d s f H (λc g=>Q (!c) g) I h)
def YV(ta tb:TE):TE:=λσ H Q=>ta σ H λx H1=>∃c,x=.bl c/\if c=YP then tb σ H1 Q else Q (.bl Y1) H1
def XW(ta tb:TE):TE:=λσ H Q=>ta σ H λx H1=>∃c,x=.bl c/\if c=YP then Q (.bl YP) H1 else tb σ H1 Q
def Ys(ta:TE):TE:=λσ H Q=>ta σ H λx H1=>∃c,x=.bl c/\Q (.bl (!c)) H1
def zlJ(h:PE X a t):PE X (.BoolOp op [a] pos) t:=λc s d H Q I e=>BoolOp_one (h c s d H Q I e)
def Z_(j:PE X a ta)(k:PE X (.BoolOp .And (b::rest) pos) tb):PE X (.BoolOp .And (a::b::rest) pos) (YV ta tb):=by
 intro d s f H Q I h;refine BoolOp_and (qc (j d s f H _ I h) λv l ⟨x,g,i,m,e⟩=>?_);obtain⟨c,rfl,e⟩:=e;cases m;refine dq ?_;cases c with
 |true=>exact k d l f g Q i e
 |false=>exact⟨.bl Y1,g,i,rfl,e⟩
def YX(j:PE X a ta)(k:PE X (.BoolOp .Or (b::rest) pos) tb):PE X (.BoolOp .Or (a::b::rest) pos) (XW ta tb):=by
 intro d s f H Q I h;refine BoolOp_or (qc (j d s f H _ I h) λv l ⟨x,g,i,m,e⟩=>?_);obtain⟨c,rfl,e⟩:=e;cases m;refine dq ?_;cases c with
 |false=>exact k d l f g Q i e
 |true=>exact⟨.bl YP,g,i,rfl,e⟩
def zkJ(f:PE X a ta):PE X (.UnaryOp .Not a pos) (Ys ta):=by intro d s g H Q I h;refine UnaryOp_ (qc (f d s g H _ I h) λv l ⟨x,i,j,k,e⟩=>?_);obtain⟨c,rfl,e⟩:=e;cases k;exact not_of (dq ⟨.bl (!c),i,j,rfl,e⟩)
end
def rn(K:ai)(H:Hp)(a:ae)(xs:List V):Prop:=
 Rd H a (.lst xs) \/
  ∃(o:Obj)(d_:Array ab)(n:Nat),K.lookup a=Xy o/\o.cls=.type "list"/\o.dict=XV/\o.data=.seq d_ n/\d_.size<=Kw/\oF xs d_.toList
def sC(K:ai)(H:Hp)(a:ae)(xs:List V):Prop:=
 Rd H a (.tup xs) \/
  ∃(o:Obj)(d_:Array ab)(n:Nat),K.lookup a=Xy o/\o.cls=.type "tuple"/\o.data=.seq d_ n/\d_.size<=Kw/\oF xs d_.toList
def XR:ab->Option V
 |.none=>Xy .non
 |.bool b=>Xy (.bl b)
 |.int i _=>Xy (.int i)
 |.str x _=>Xy (.str x)
 |.bytes b _=>Xy (.byt b)
 |.float b _=>Xy (.flt b)
 |.ref a=>Xy (.ref a)
 |.type n=>Xy (.ty n)
 |_=>XV
def RelV.abs(r:RelV x u):XR u=Xy x:=by
 cases x with
 |non=>cases r;rfl
 |bl _=>cases r;rfl
 |int _=>obtain⟨t,rfl⟩:=r;rfl
 |str _=>obtain⟨t,rfl⟩:=r;rfl
 |byt _=>obtain⟨t,rfl⟩:=r;rfl
 |flt _=>obtain⟨t,rfl⟩:=r;rfl
 |ref _=>cases r;rfl
 |ty _=>cases r;rfl
def RelV.inj(r:RelV x u)(q:RelV y u):x=y:=cu (r.abs.symm.trans q.abs)
theorem oF.inj:∀{xs a:List V}{b:List ab},oF xs b->oF a b->xs=a
 |_,_,_,.nil,.nil=>rfl
 |_,_,_,.cons r t,.cons r' t'=>by rw[r.inj r',oF.inj t t']
section
variable{X:Cx}{Xa:List (ae×Obj)}{σ:St}{H:Hp}{s:ag}{a:ae}{xs ys:List V}
def rn.of{K:ai}(h:H a=Xy (.lst xs)):rn K H a xs:=.inl (.inl h)
def sC.of{K:ai}(h:H a=Xy (.tup xs)):sC K H a xs:=.inl (.inl h)
def Inv.list(I:Inv X Xa σ H s)(h:rn X.K H a xs):∃b:List ab,oF xs b/\PlainL s.heap a b.toArray/\xs.length<=Kw:=by
 rcases h with h|⟨o,b,n,c,d,f,g,i,r⟩
 ·obtain⟨z,b,n,r,e⟩:=h.ok I.hok;exact⟨b,r,⟨_,n,e,rfl,rfl,rfl⟩,z⟩
 ·refine⟨b.toList,r,⟨o,n,I.kIn a o c,d,f,by simpa using g⟩,?_⟩;have e:=r.length;simp only[aG] at e;lia
def Inv.tuple(I:Inv X Xa σ H s)(h:sC X.K H a xs):∃b:List ab,oF xs b/\IsTup s.heap a b.toArray/\xs.length<=Kw:=by
 rcases h with h|⟨o,b,n,c,d,f,g,r⟩
 ·obtain⟨z,b,r,p⟩:=h.ok I.hok;exact⟨b,r,p.tup,z⟩
 ·refine⟨b.toList,r,⟨o,I.kIn a o c,d,n,by simpa using f⟩,?_⟩;have e:=r.length;simp only[aG] at e;lia
def Inv.list_inj(I:Inv X Xa σ H s)(h:rn X.K H a xs)(h':rn X.K H a ys):xs=ys:=by
 obtain⟨g,r,⟨o,n,e,_,_,d⟩,_⟩:=I.list h;obtain⟨b,i,⟨j,k,c,_,_,f⟩,_⟩:=I.list h';rw[e] at c;cases c;rw[d] at f;injection f with d1 _;have:g=b:=by simpa using congrArg l9 d1
 subst this;exact r.inj i
def Inv.tuple_inj(I:Inv X Xa σ H s)(h:sC X.K H a xs)(h':sC X.K H a ys):xs=ys:=by
 obtain⟨g,r,⟨o,e,_,n,d⟩,_⟩:=I.tuple h;obtain⟨b,i,⟨j,c,_,k,f⟩,_⟩:=I.tuple h';rw[e] at c;cases c;rw[d] at f;injection f with d1 _;have:g=b:=by simpa using congrArg l9 d1
 subst this;exact r.inj i
end
abbrev Cx.wish(X:Cx)(E:ab->ag->Prop):Cx:={ X with xe:=E }
abbrev Cx.nox(X:Cx):Cx:=X.wish λ_ _=>False
def Cx.Ok.wish{X:Cx}(ok:X.Ok)(E:ab->ag->Prop):(X.wish E).Ok:=
 ⟨ok.mod,ok.kind,ok.glob,ok.blt,ok.above,ok.inj,ok.has,ok.cab,ok.hd,ok.frames,ok.stk,ok.exf,ok.bs,ok.bsz,ok.noex,ok.exfs,ok.funs,ok.frf⟩
def Cx.Ok.unwish{X:Cx}{E:ab->ag->Prop}(ok:(X.wish E).Ok):X.Ok:=
 ⟨ok.mod,ok.kind,ok.glob,ok.blt,ok.above,ok.inj,ok.has,ok.cab,ok.hd,ok.frames,ok.stk,ok.exf,ok.bs,ok.bsz,ok.noex,ok.exfs,ok.funs,ok.frf⟩
section
variable{X:Cx}{Xa:List (ae×Obj)}{σ:St}{H:Hp}{s:ag}{E:ab->ag->Prop}
def Inv.wish(I:Inv X Xa σ H s)(E:ab->ag->Prop):Inv (X.wish E) Xa σ H s:=⟨I.ok.wish E,I.os,I.bare,I.base,I.loc,I.cell,I.free,I.freeC,I.pin,I.hok,I.len,I.tk⟩
def Inv.unwish(I:Inv (X.wish E) Xa σ H s):Inv X Xa σ H s:=⟨I.ok.unwish,I.os,I.bare,I.base,I.loc,I.cell,I.free,I.freeC,I.pin,I.hok,I.len,I.tk⟩
def SP.unwish{D:zev}{f:Flow}{c:ag}(h:SP (X.wish E) Xa D f c):SP X Xa D f c:=by
 cases f with
 |next=>obtain⟨a,b,I,q⟩:=h;exact⟨a,b,I.unwish,q⟩
 |brk=>obtain⟨a,b,I,q⟩:=h;exact⟨a,b,I.unwish,q⟩
 |cont=>obtain⟨a,b,I,q⟩:=h;exact⟨a,b,I.unwish,q⟩
 |ret u=>obtain⟨v,a,b,I,r,q⟩:=h;exact⟨v,a,b,I.unwish,r,q⟩
def PE.nox(h:PE X.nox e t):PE X e t:=λXa s σ H Q I a=>
 cB (h Xa s σ H Q (I.wish _) a) (λ_ _ ⟨v,b,c,r,q⟩=>⟨v,b,c.unwish,r,q⟩) λ_ _ z=>aj z
def PT.nox(h:PT X.nox e t):PT X e t:=λXa s σ H Q I a=>
 cB (h Xa s σ H Q (I.wish _) a) (λ_ _ ⟨b,c,q⟩=>⟨b,c.unwish,q⟩) λ_ _ z=>aj z
def t_.nox{a:List eH}{t:TS}(h:t_ X.nox a t):t_ X a t:=λXa s σ H D I b=>
 cB (h Xa s σ H D (I.wish _) b) (λ_ _ q=>q.unwish) λ_ _ z=>aj z
end
section
variable{X:Cx}{st:eH}{rest:List eH}{t u:TS}{e:aT}{te:TE}{pos:Pos}
def QT:TS:=λD σ H=>D.nx σ H
def XZ(t u:TS):TS:=λD σ H=>t { D with nx:=u D } σ H
def zj9:t_ X [] QT:=λ_ _ a H _ I h=>i5 ⟨a,H,I,h⟩
def F4(c:PS X st t)(d:t_ X rest u):t_ X (st::rest) (XZ t u):=by
 intro a s g H D I h;refine wpAny_execs_cons (qc (c a s g H { D with nx:=u D } I h) λf i q=>?_);cases f with
 | next=>
  obtain⟨b,j,k,q⟩:=q;exact d a i b j D k q
 |ret v=>exact q
 |brk=>exact q
 |cont=>exact q
def Tq(b:PS X st t):t_ X [st] t:=by
 intro a s c H D I h;refine wpAny_execs_cons (qc (b a s c H D I h) λf d q=>?_);cases f with
 |next=>exact i5 q
 |ret v=>exact q
 |brk=>exact q
 |cont=>exact q
def zja:PS X (.Pass pos) QT:=λ_ _ a H _ I h=>wpAny_Pass ⟨a,H,I,h⟩
def Inv.quiet{a:List (ae×Obj)}{σ:St}{H:Hp}{s:ag}(I:Inv X a σ H s):interactive X.env=Y1:=by simp[interactive,I.ok.kind]
def Yx(te:TE):TS:=λD σ H=>te σ H λ_ H1=>D.nx σ H1
def Sr(c:PE X e te)(d:swapsWith e XV pos.line X.env=pure Y1:=by rfl):PS X (.Expr e pos) (Yx te):=by intro a s b H D I h;exact wpAny_Expr_any (qc (c a s b H _ I h) λv j ⟨x,f,g,k,i⟩=>⟨b,f,g,i⟩) I.quiet d
def X3(te:TE):TS:=λD σ H=>te σ H D.rt
def ZH(c:PE X e te):PS X (.Return (Xy e) pos) (X3 te):=by intro a s b H D I h;exact wpAny_Return_some (qc (c a s b H _ I h) λv j ⟨x,d,f,g,i⟩=>⟨x,b,d,f,g,i⟩)
def XY(c:TT)(t u:TS):TS:=λD σ H=>c σ H λb H1=>if b=YP then t D σ H1 else u D σ H1
def YG{c:aT}{a b:List eH}{i:TT}(n:PT X c i)(o:t_ X a t)(p:t_ X b u):PS X (.If c a b pos) (XY i t u):=by
 intro f s g H D I h;refine wpAny_If (qc (n f s g H _ I h) λd j ⟨k,l,m⟩=>?_);cases d with
 |true=>exact o f j g k D l m
 |false=>exact p f j g k D l m
def zkj:TS:=λ_ _ _=>False
def zdJ:t_ X sts zkj:=λ_ _ _ _ _ _ h=>h.elim
end
abbrev TG:=V->St->Hp->(St->Hp->Prop)->Prop
abbrev E6:=List V->St->Hp->(St->Hp->Prop)->Prop
def PG(X:Cx)(target:aT)(t:TG):Prop:=
 ∀(Xa:List (ae×Obj))(s:ag)(σ:St)(H:Hp)(v:V)(u:ab)(Q:St->Hp->Prop),Inv X Xa σ H s->RelV v u->t v σ H Q->
  av (az X.prog X.w) X.A (assign target X.env u) (λ_ s'=>∃σ' H',Inv X Xa σ' H' s'/\Q σ' H') X.xe s
def K0(X:Cx)(ts:List aT)(t:E6):Prop:=
 ∀(Xa:List (ae×Obj))(s:ag)(σ:St)(H:Hp)(vs:List V)(us:List ab)(Q:St->Hp->Prop),Inv X Xa σ H s->oF vs us->t vs σ H Q->
  av (az X.prog X.w) X.A (assignInOrder ((gH ts X.env).map (·.2)) us) (λ_ s'=>∃σ' H',Inv X Xa σ' H' s'/\Q σ' H') X.xe s
abbrev Li:=V->V->V->Hp->(Hp->Prop)->Prop
def Qj(X:Cx)(t:Li):Prop:=
 ∀(Xa:List (ae×Obj))(s:ag)(σ:St)(H:Hp)(o i v:V)(ov iv u:ab)(Q:Hp->Prop),Inv X Xa σ H s->RelV o ov->RelV i iv->RelV v u->t o i v H Q->
  av (az X.prog X.w) X.A (setItem ov iv u) (λ_ s'=>∃H',Inv X Xa σ H' s'/\Q H') X.xe s
abbrev KZ:=V->V->Hp->VK->Prop
def Xq(X:Cx)(op:Operator)(t:KZ):Prop:=
 ∀(Xa:List (ae×Obj))(s:ag)(σ:St)(H:Hp)(x y:V)(v u:ab)(Q:VK),Inv X Xa σ H s->RelV x v->RelV y u->t x y H Q->
  av (az X.prog X.w) X.A (inplaceOp op v u) (EP X Xa σ Q) X.xe s
section
variable{X:Cx}{pos:Pos}
def AB(i:Nat):TG:=λv σ H Q=>Q (σ.set i (Xy v)) H
def Mj(b:X.N.Nodup)(c:X.N[i]?=Xy x)(d:Loc X.env.scope x)(e:X.fn x=YP\/X.env.scope.names.lookup x=Xy .local:=by first|exact .inl rfl|exact .inr rfl|assumption):PG X (.Name x pos) (AB i):=by intro a s g H v u Q I r h;exact iz (MP I b c d r (λj f=>⟨_,H,f,h⟩) e)
def Qk:E6:=λvs σ H Q=>vs=[]/\Q σ H
def LC(t:TG)(u:E6):E6:=λvs σ H Q=>∃v r,vs=v::r/\t v σ H λσ' H'=>u r σ' H' Q
def zjr:K0 X [] Qk:=by intro a s b H c d Q I r h;obtain⟨e,h⟩:=h;subst e;cases r;exact assignInOrder_nil ⟨b,H,I,h⟩
def Ut{e:aT}{b:List aT}{t:TG}{u:E6}(c:PG X e t)(d:K0 X b u)
  (f:(gH (e::b) X.env).map (·.2)=assign e X.env::(gH b X.env).map (·.2):=by rfl):K0 X (e::b) (LC t u):=by
 intro a s g H o p Q I r h;obtain⟨v,q,i,h⟩:=h;subst i;cases r with
 | cons r rr=>
  rw[f];refine assignInOrder_cons (qc (c a s g H _ _ _ I r h) λ_ j ⟨k,l,m,n⟩=>?_);exact d a j k l _ _ Q m rr n
noncomputable def Qe(K:ai)(n:Nat)(t:E6):TG:=λv σ H Q=>∃a xs,v=.ref a/\sC K H a xs/\xs.length=n/\t xs σ H Q
def Zz(i:X.calm=YP)(h:K0 X es t)
  (j:(gH es X.env).length=n:=by rfl) (l:(gH es X.env).findIdx? (·.1)=XV:=by rfl):PG X (.Tuple es k pos) (Qe X.K n t):=by intro c s f H v u Q I r d;obtain⟨a,m,p,q,w,d⟩:=d;subst p;cases r;obtain⟨B,g,x,C⟩:=I.tuple q;refine assign_Tuple_tuple (I.ok.hd i) x (by simp[j,<- w,g.length]) l λy z=>?_;have A:Inv X c f H { s with heap:=y }:=I.kept (t':=s.toks) λb o e=>z b o (bq (aN e)) e;exact h c _ f H m _ Q A ⇑g d
def xm(to ti:TE)(t:Li):TG:=λv σ H Q=>to σ H λo H1=>ti σ H1 λi H2=>t o i v H2 λH3=>Q σ H3
def Zg{o i:aT}{e f:TE}{t:Li}(g:PE X o e)(j:PE X i f)(k:Qj X t)
  (l:∀v,assign (.Subscript o i pos) X.env v=(do
   let b <- holding [v] (eval o X.env);let c <- holding [v,b] (eval i X.env)
   standAt pos
   holding [v,b,c] (setItem b c v)
   release [v,b,c] []):=by intro _;rfl):PG X (.Subscript o i pos) (xm e f t):=by intro a s d H v u Q I r h;rw[l];refine aa (bH (qc (g a s d H _ I h) λb m ⟨x,n,p,q,w⟩=>?_));refine aa (bH (qc (j a m d n _ p w) λc z ⟨y,A,B,C,D⟩=>?_));refine aa (eR (aa (bH (qc (k a z d A x y v b c u _ B q C r D) λ_ J ⟨E,F,G⟩=>?_))));exact wpAny_release ⟨d,E,F,G⟩
def DR(te:TE)(g:TG):TS:=λD σ H=>te σ H λx H1=>g x σ H1 D.nx
def RQ{b e:aT}{te:TE}{g:TG}(d:PE X e te)(f:PG X b g)(i:jJ [b] e pos.line X.env=pure Y1:=by rfl)(j:jK [b] e X.env=pure XV:=by rfl)
  (k:(gH [b] X.env).map (·.2)=[assign b X.env]:=by rfl):PS X (.Assign [b] e pos) (DR te g):=by intro a s c H D I h;refine wpAny_Assign_stores (qc (d a s c H _ I h) λv l ⟨x,m,n,o,p⟩=>?_) i j;rw[k];exact qc (f a l c m x v _ n o p) λ_ r q=>q
def Ro{i:Nat}{x:aB}{e:aT}{te:TE}{a:Pos}(c:X.N.Nodup)(d:X.N[i]?=Xy x)(f:Loc X.env.scope x)(g:PE X e te)(j:swapsWith e (Xy (.Name x a)) pos.line X.env=pure Y1:=by rfl)(k:X.fn x=YP\/X.env.scope.names.lookup x=Xy .local:=by first|exact .inl rfl|exact .inr rfl|assumption):
  PS X (.Assign [.Name x a] e pos) (DR te (AB i)):=by intro b s l H D I h;refine wpAny_Assign_Name (qc (g b s l H _ I h) λv r ⟨y,m,n,o,p⟩=>?_) j;exact MP n c d f o (λt q=>⟨_,m,q,p⟩) k
def Yn(i:Nat)(te:TE)(ti:KZ):TS:=λD σ H=>∃x,σ[i]?=Xy (Xy x)/\te σ H λy H1=>ti x y H1 λz H2=>D.nx (σ.set i (Xy z)) H2
def zl7{i:Nat}{x:aB}{e:aT}{te:TE}{d:Operator}{j:KZ}{b:Pos}(q:X.N.Nodup)(n:X.N[i]?=Xy x)(f:Loc X.env.scope x)(t:PE X e te)(B:Xq X d j)(C:X.fn x=YP\/X.env.scope.names.lookup x=Xy .local:=by first|exact .inl rfl|exact .inr rfl|assumption):
  PS X (.AugAssign (.Name x b) d e pos) (Yn i te j):=by
 intro a s o H D I h;obtain⟨v,E,h⟩:=h;obtain⟨m,F,G⟩:=I.loc;have g:vK X.env.scope x:=by rcases f with k|k;exact .inl k;exact .inr (.inl k)
 obtain⟨u,r,l⟩:=G i x v n E g;refine wpAny_AugAssign_Name ?_;have p:av (az X.prog X.w) X.A (eval e X.env) (λw J=>av (az X.prog X.w) X.A (inplaceOp d u w) (λr K=>av (az X.prog X.w) X.A (storeName X.env x r) (λ_=>SP X a D .next) X.xe K) X.xe J) X.xe s:=by
  refine qc (t a s o H _ I h) λw L ⟨y,M,O,P,Q⟩=>?_;refine qc (B a L o M v y u w _ O r P Q) λz s2 ⟨zv,R,S,T,U⟩=>?_;exact MP S q n f T (λs3 V=>⟨_,R,V,U⟩) C
 rcases l with⟨hk,W⟩|⟨hk,c,Y,Z⟩
 ·exact lF I.ok.kind hk F W p
 ·rcases hk with hk|hk
  ·exact lV I.ok.kind hk Y Z p
  ·rcases f with k|k
   ·have:X.env.scope.names.lookup x=Xy .free:=hk;rw[k] at this;cases this
   ·have:X.env.scope.names.lookup x=Xy .free:=hk;rw[k] at this;cases this
def ipI(f:Int->Int->Int):KZ:=λx y H Q=>∃i j,x=.int i/\y=.int j/\Q (.int (f i j)) H
def Zi:Xq X .Add (ipI λi j=>i+j):=by intro a s f H x y v u Q I b c h;obtain⟨i,j,d,e,q⟩:=h;subst d;subst e;obtain⟨t,rfl⟩:=b;obtain⟨g,rfl⟩:=c;exact iadd_int ⟨.int _,H,I.tok _,⟨_,rfl⟩,q⟩
end
section
variable{X:Cx}{pos:Pos}
noncomputable def Y4(c:TT)(tb:TS):TS:=λD σ H=>∃W:Nat->St->Hp->Prop,(∃m,W m σ H)/\∀m σ H,W m σ H->
 c σ H λb H1=>if b=YP then ∃N:St->Hp->Prop,(∀σ' H',N σ' H'->∃m',m'<m/\W m' σ' H')/\tb { D with nx:=N,ct:=N,bk:=D.nx } σ H1 else D.nx σ H1
def zgc{c:aT}{body:List eH}{t:TT}{u:TS}(x:kG (az X.prog X.w) X.A X.env X.xe)(F:PT X c t)(G:t_ X body u):PS X (.While c body [] pos) (Y4 t u):=by
 intro a s J H D I h;obtain⟨W,⟨K,L⟩,d⟩:=h;refine wpAny_While (codeAny_whileLoop (λn M=>∃e y,Inv X a e y M/\W n e y) ?_ K ⟨J,H,I,L⟩);rintro n O ⟨j,z,P,Q⟩;refine fy x (qc (F a O j z _ P (d n j z Q)) λb R ⟨B,C,k⟩=>?_);cases b with
 | true=>
  obtain⟨N,E,k⟩:=k;rw[Kk rfl];refine fy x (qc (G a R j B _ C k) λf S l=>?_);cases f with
  | next=>
   obtain⟨g,i,m,o⟩:=l;obtain⟨p,q,r⟩:=E g i o;exact⟨p,q,g,i,m,r⟩
  | cont=>
   obtain⟨g,i,m,o⟩:=l;obtain⟨p,q,r⟩:=E g i o;exact⟨p,q,g,i,m,r⟩
  |brk=>exact l
  |ret v=>exact l
 | false=>
  rw[Ko cE];exact i5 ⟨j,B,C,k⟩
end
structure It where
 go:Nat->Hp->Prop
 yld:Nat->Hp->V->Hp->Prop
 stop:Nat->Hp->Prop
def tF(X:Cx)(Xa:List (ae×Obj))(H:Hp)(b:ae):Prop:=
 H b=XV/\b≠X.env.locals/\b∉X.fs/\(b∈X.ex\/X.s₀.heap.objs.size<=b)/\(∀x c,X.env.cells.lookup x=Xy c->c≠b)/\∀p∈X.pn++Xa,p.1≠b
def Inv.fpOk(I:Inv X Xa σ H s)(a:s.heap.objs.size<=b)(d:H' b=XV):tF X Xa H' b:=by
 refine⟨d,eF (be I.lt a),I.nofs a,.inr (aH I.sz a),λx c e z=>?_,λp f z=>?_⟩
 ·obtain⟨v,q⟩:=I.cell x c e;exact absurd (be q.lt (by rw[z];exact a)) (bZ _)
 ·exact absurd (be (aN (I.pin p f).1) (by rw[z];exact a)) (bZ _)
structure yA(P:aP)(w:aZ)(K:ai)(tg:aT)(J:It)(fp:List ae)(it:ae)(tn:Nat->a7->Prop):Prop where
 mem:it∈fp
 obj:∀i h,tn i h->∀b∈fp,∃o,h.get? b=Xy o/\∀v,o.data ≠ .cell v
 keep:∀i h h',tn i h->(∀b∈fp,∀o,h.get? b=Xy o->h'.get? b=Xy o)->tn i h'
 item:∀(X:Cx),X.prog=P->X.w=w->X.K=K->X.calm=YP->∀(i:Nat)(Xa:List (ae×Obj))(s:ag)(σ:St)(H:Hp)(E:ab->ag->Prop),Inv X Xa σ H s->(∀b∈fp,tF X Xa H b)->tn i s.heap->J.go i H->
  av (az P w) X.A (pyNext (.ref it)) (λr s1=>∃u,r=Xy u/\
   av (az P w) X.A (letOwnedTupleGo tg (.ref it) u) (λ_ s2=>∃x H',Inv X Xa σ H' s2/\RelV x u/\J.yld i H x H'/\tn (i+1) s2.heap/\∀b∈fp,H' b=XV) E s1) E s
 done:∀(X:Cx),X.prog=P->X.w=w->X.K=K->X.calm=YP->∀(i:Nat)(Xa:List (ae×Obj))(s:ag)(σ:St)(H:Hp)(E:ab->ag->Prop),Inv X Xa σ H s->(∀b∈fp,tF X Xa H b)->tn i s.heap->J.stop i H->
  av (az P w) X.A (pyNext (.ref it)) (λr s1=>r=XV/\Inv X Xa σ H s1) E s
 self:∀(A:bb)(i:Nat)(s:ag)(Q:ab->ag->Prop)(E:ab->ag->Prop),tn i s.heap->Q (.ref it) s->av (az P w) A (pyIter (.ref it)) Q E s
abbrev TI:=St->Hp->(It->Hp->Prop)->Prop
def Xr(X:Cx)(Xa:List (ae×Obj))(σ:St)(tg:aT)(R:It->Hp->Prop)(GV:ab)(s2:ag):Prop:=
 ∃(it:ae)(fp:List ae)(tn:Nat->a7->Prop)(J:It)(H':Hp),GV=.ref it/\Inv X Xa σ H' s2/\yA X.prog X.w X.K tg J fp it tn/\tn 0 s2.heap/\(∀b∈fp,tF X Xa H' b)/\R J H'
def PI(X:Cx)(tg iter:aT)(wi:TI):Prop:=
 ∀(Xa:List (ae×Obj))(s:ag)(σ:St)(H:Hp)(R:It->Hp->Prop),Inv X Xa σ H s->wi σ H R->
  av (az X.prog X.w) X.A (eval iter X.env) (λv s1=>av (az X.prog X.w) X.A (pyIter v) (Xr X Xa σ tg R) X.xe s1) X.xe s
def Ft(b:s.heap.get? it=Xy o)(c:o.cls=.type n)(d:o.data=.fields vs)
  (e:["enumerate", "zip", "dict_itemiterator", "dict_reverseitemiterator", "odict_iterator", "itertools.zip_longest", "itertools.pairwise"].contains n=Y1) (a:Q () s):av M A (letOwnedTupleGo tg (.ref it) u) Q E s:=by
 unfold letOwnedTupleGo;cases tg<;>first
  |exact ah a
  | (cases u<;>first
    |exact ah a
    | (refine aa (wpAny_load b ?_)
       rw[c,d];show av M A (if (["enumerate", "zip", "dict_itemiterator", "dict_reverseitemiterator", "odict_iterator", "itertools.zip_longest", "itertools.pairwise"].contains n&&vs[0]?==Xy (b9 _))=YP then _ else _) Q E s;rw[Ko (by intro h;rw[e,kZ] at h;cases h)];exact ah a))
noncomputable def PN(K:ai)(a:ae):It:=
 ⟨λi H=>∃xs x,rn K H a xs/\xs[i]?=Xy x,λi H x H'=>H'=H/\∀xs,rn K H a xs->xs[i]?=Xy x,λi H=>∃xs,rn K H a xs/\xs.length<=i⟩
noncomputable def PL(K:ai)(a:ae):It:=
 ⟨λi H=>∃xs x,sC K H a xs/\xs[i]?=Xy x,λi H x H'=>H'=H/\∀xs,sC K H a xs->xs[i]?=Xy x,λi H=>∃xs,sC K H a xs/\xs.length<=i⟩
noncomputable def HV(lo:Int)(n:Nat):It:=⟨λi _=>i<n,λi H x H'=>H'=H/\x=.int (lo+i),λi _=>n<=i⟩
def Va{P:aP}{w:aZ}{K:ai}{O:aT}(a it:ae):yA P w K O (PN K a) [it] it (λi h=>h.IsListIter it a i) where
 mem:=by simp
 obj:=λi h f b j=>by
  have e:b=it:=⇑j
  subst e;obtain⟨o,e,c,d⟩:=f;exact⟨o,e,λv z=>by rw[d] at z;cases z⟩
 keep:=λi h l f k=>f.at λo e=>k it 'k' o e
 item:=by
  intro X q r t L i g s M H E I m f y;subst q r t;obtain⟨Q,x,n,A⟩:=y;obtain⟨R,B,p,S⟩:=I.list n;obtain⟨u,T,U⟩:=B.get A;obtain⟨C,D,V,F,G,J⟩:=m it 'k';refine wpAny_pyNext_list_item f p.isList (x:=u) ⇑T λl N W=>?_;have Y:Inv X g M H { s with heap:=l }:=I.turned (t':=s.toks) (λb o j e=>(W.2 b j).trans e) C D F G J;obtain⟨o,e,c,d⟩:=id N;exact⟨u,rfl,Ft (s:={ s with heap:=l }) e c d 'u' ⟨x,H,Y,U,⟨rfl,λys Z=>by rw[I.list_inj Z n];exact A⟩,N,λb j=>(m b j).1⟩⟩
 done:=by
  intro X q r t L i g s M H E I m f y;subst q r t;obtain⟨Q,n,A⟩:=y;obtain⟨R,B,p,S⟩:=I.list n;obtain⟨C,D,V,F,G,J⟩:=m it 'k';have hl:=B.length;exact wpAny_pyNext_list_end (I.ok.hd L) f p.isList (by simp;lia) λl eb=>⟨rfl,I.turned (t':=s.toks) (λb o j e=>eb b o j e) C D F G J⟩
 self:=λ_ _ _ _ _ f h=>wpAny_pyIter_listiter f h
def zb5{P:aP}{w:aZ}{K:ai}{Q:aT}(a it:ae):yA P w K Q (PL K a) [it] it (λi h=>h.IsTupleIter it a i) where
 mem:=by simp
 obj:=λi h f b j=>by
  have e:b=it:=⇑j
  subst e;obtain⟨o,e,c,d⟩:=f;exact⟨o,e,λv z=>by rw[d] at z;cases z⟩
 keep:=λi h l f k=>f.at λo e=>k it 'k' o e
 item:=by
  intro X q r t M i g s N H E I m f y;subst q r t;obtain⟨R,x,n,A⟩:=y;obtain⟨B,C,p,S⟩:=I.tuple n;obtain⟨u,T,U⟩:=C.get A;obtain⟨D,F,V,G,J,L⟩:=m it 'k';refine wpAny_pyNext_tuple_item f (show s.heap.IsTuple a B.toArray from p) (x:=u) ⇑T λl O W=>?_;have Y:Inv X g N H { s with heap:=l }:=I.turned (t':=s.toks) (λb o j e=>(W.2 b j).trans e) D F G J L;obtain⟨o,e,c,d⟩:=id O;exact⟨u,rfl,Ft (s:={ s with heap:=l }) e c d 'u' ⟨x,H,Y,U,⟨rfl,λys Z=>by rw[I.tuple_inj Z n];exact A⟩,O,λb j=>(m b j).1⟩⟩
 done:=by
  intro X q r t M i g s N H E I m f y;subst q r t;obtain⟨R,n,A⟩:=y;obtain⟨B,C,p,S⟩:=I.tuple n;obtain⟨D,F,V,G,J,L⟩:=m it 'k';have hl:=C.length;exact wpAny_pyNext_tuple_end (I.ok.hd M) f (show s.heap.IsTuple a B.toArray from p) (by simp;lia) λl eb=>⟨rfl,I.turned (t':=s.toks) (λb o j e=>eb b o j e) D F G J L⟩
 self:=λ_ _ _ _ _ f h=>wpAny_pyIter_tupleiter f h
def zbm{P:aP}{w:aZ}{K:ai}{G:aT}(it:ae)(lo:Int)(n:Nat):yA P w K G (HV lo n) [it] it (λi h=>IsRangeIter h it (lo+(i:Nat)*1) ((n:Int)-(i:Nat)) 1) where
 mem:=by simp
 obj:=λi h a b d=>by
  have e:b=it:=⇑d
  subst e;exact⟨_,a,λv z=>by
   have J:Data.fields _=Data.cell v:=z;cases J⟩
 keep:=λi h f a k=>k it 'k' _ a
 item:=by
  intro X j l m p i c s C H E I g a q;subst j l m;obtain⟨r,u,L,x,y,A⟩:=g it 'k';have W:=Walks.range (prog:=X.prog) (w:=X.w) (I.ok.hd p) it lo 1 n;refine gc I.tk (W.item i s _ _ q a λv f B M D N F=>?_);have F:0<B:=F;obtain⟨t,rfl⟩:=M;have O:Inv X c C H { s with heap:=f,toks:=B }:=I.turned (λb o d e=>N b o ⇑d e) r u x y A;refine⟨_,rfl,Ft (s:={ s with heap:=f,toks:=B }) (n := "range_iterator") D rfl rfl 'u' ⟨.int (lo+i),H,O,⟨t,?_⟩,⟨rfl,rfl⟩,D,λb d=>(g b d).1⟩⟩;rw[Int.mul_one]
 done:=by
  intro X j l m p i c s C H E I g a q;subst j l m;obtain⟨r,u,L,x,y,A⟩:=g it 'k';exact wpAny_pyNext_range_end (I.ok.hd p) a (by have:n<=i:=q;lia) λf Q=>⟨rfl,I.turned (t':=s.toks) (λb o d e=>Q b o d e) r u x y A⟩
 self:=λ_ _ _ _ _ a h=>wpAny_pyIter_rangeiter a h
section
variable{X:Cx}{tg:aT}
def TQ{c:List (ae×Obj)}{σ:St}{H:Hp}{s:ag}{R:It->Hp->Prop}{E:ab->ag->Prop}{lo a:Int}{t u v:Tok}{tk:Nat}(I:Inv X c σ H s)(f:-(2 ^ 62)<=lo)(g:lo<2 ^ 62)(h:-(2 ^ 62)<=a)(i:a<2 ^ 62)
  (q:R (HV lo (a-lo).toNat) H) (m:0<tk):av (az X.prog X.w) X.A (pyIter (.ref s.heap.objs.size)) (Xr X c σ tg R) E { s with heap:=s.heap.push { cls:=.type "range",data:=.fields #[.int lo t,.int a u,.int 1 v] },toks:=tk }:=by
 refine wpAny_pyIter_range (IsRange.new ..) (small_one f g h i) ?_;have d:Inv X c σ H { s with heap:=s.heap.push { cls:=.type "range",data:=.fields #[.int lo t,.int a u,.int 1 v] },toks:=tk }:=I.kept λb o e=>af _ e;refine⟨(s.heap.push { cls:=.type "range",data:=.fields #[.int lo t,.int a u,.int 1 v] }).objs.size,[(s.heap.push { cls:=.type "range",data:=.fields #[.int lo t,.int a u,.int 1 v] }).objs.size],_,_,H,rfl,
  d.kept (t':=tk) λb o e=>af _ e,zbm _ lo (a-lo).toNat,?_,λb j=>?_,q⟩
 ·have k:lo+((0:Nat):Int)*1=lo:=by simp
  have l:(((a-lo).toNat:Nat):Int)-((0:Nat):Int)=Builtin.Range.rangeSize lo a 1:=by rw[rangeSize_one];split<;>lia
  show IsRangeIter _ _ (lo+((0:Nat):Int)*1) ((((a-lo).toNat:Nat):Int)-((0:Nat):Int)) 1;rw[k,l];exact aI _ rfl
 ·have e:b=(s.heap.push { cls:=.type "range",data:=.fields #[.int lo t,.int a u,.int 1 v] }).objs.size:=⇑j
  subst e;exact d.fpOk (aE _) (d.hok.fresh (aE _))
def YS(ta:TA):TI:=λσ H R=>ta σ H λvs H1=>∃j:Int,vs=[.int j]/\-(2 ^ 62)<=j/\j<2 ^ 62/\R (HV 0 j.toNat) H1
def X9(ta:TA):TI:=λσ H R=>ta σ H λvs H1=>∃i j:Int,vs=[.int i,.int j]/\(-(2 ^ 62)<=i/\i<2 ^ 62/\-(2 ^ 62)<=j/\j<2 ^ 62)/\R (HV i (j-i).toNat) H1
def ze6{a:aT}{f:TA}{p b:Pos}(i:Gl X "range")(k:X.mg "range" = XV)(l:PA X [a] f)(m:aR [a] X.env=[(Y1,eval a X.env)]:=by rfl):PI X tg (.Call (.Name "range" p) [a] [] b) (YS f):=by
 intro c s n H R I h;refine kz (By I i k boot_range (ez (qc (l b c s n H _ I h) λv w ⟨x,y,g,o,d⟩=>?_) m rfl));obtain⟨j,e,d,u,q⟩:=d;subst e;cases o with
 | cons r rr=>
  cases rr;obtain⟨t,rfl⟩:=r;exact call_range_1 (TQ g 'd' 'd' d u ⇑q (by first|exact cS _|exact g.tk))
def zbE(k:Gl X "range")(l:X.mg "range" = XV)(m:PA X [a,b] ta)(n:aR [a,b] X.env=[(Y1,eval a X.env),(Y1,eval b X.env)]:=by rfl)(f:aR [b] X.env=[(Y1,eval b X.env)]:=by rfl):
  PI X tg (.Call (.Name "range" p) [a,b] [] pos) (X9 ta):=by
 intro c s o H R I h;refine kz (By I k l boot_range (ez (qc (m pos c s o H _ I h) λy z ⟨A,B,g,u,d⟩=>?_) (by rw[n,f]) (by rw[f];rfl)));obtain⟨i,j,e,⟨d,v,w,x⟩,q⟩:=d;subst e;cases u with
 | cons r rr=>
  cases rr with
  | cons r' rr=>
   cases rr;obtain⟨t,rfl⟩:=r;obtain⟨C,rfl⟩:=r';exact call_range_2 (TQ g d v w x q (by first|exact cS _|exact g.tk))
noncomputable def X5(wi:TI)(g:TG)(tb:TS):TS:=λD σ H=>wi σ H λJ H1=>∃W:Nat->Nat->St->Hp->Prop,(∃m,W 0 m σ H1)/\∀i m σ H,W i m σ H->
 (J.stop i H/\D.nx σ H)\/(J.go i H/\∃N:St->Hp->Prop,(∀σ' H',N σ' H'->∃m',m'<m/\W (i+1) m' σ' H')/\∀x H',J.yld i H x H'->g x σ H' λtV H2=>tb { D with nx:=N,ct:=N,bk:=D.nx } tV H2)
def FJ(fp:List ae)(h:a7):List (ae×Obj):=fp.filterMap λb=>(h.get? b).map λo=>(b,o)
def JL(a:b∈fp)(e:h.get? b=Xy o):(b,o)∈FJ fp h:=hJ.mpr ⟨b,a,by rw[e];rfl⟩
def zcg(a:p∈FJ fp h):p.1∈fp/\h.get? p.1=Xy p.2:=by
 obtain⟨b,c,e⟩:=hJ.mp a;cases q:h.get? b with
 |none=>rw[q] at e;cases e
 | some o=>
  rw[q] at e;have d:(b,o)=p:=cu e;subst d;exact⟨c,q⟩
def Inv.pinned(I:Inv X Xa σ H s)(f:∀b∈fp,tF X Xa H b)(g:∀b∈fp,∃o,s.heap.get? b=Xy o/\∀v,o.data ≠ .cell v):Inv X (Xa++FJ fp s.heap) σ H s:=
 I.pins_of λp h=>(aM.mp h).elim (λz=>I.pin p (aC _ z)) λz=>by
  obtain⟨a,e⟩:=zcg z;obtain⟨i,j,k,_⟩:=f p.1 a;obtain⟨o,c,d⟩:=g p.1 a;rw[e] at c;cases c;exact⟨e,i,j,k,d⟩
def Inv.unpinned(I:Inv X (Xa++pl) σ H s):Inv X Xa σ H s:=I.pins_of λp a=>I.pin p (aC _ (bt _ a))
def RE(z:kG (az X.prog X.w) X.A X.env X.xe)(U:X.calm=YP)(hi:PI X tg iter wi)(hg:PG X tg g)(c:t_ X body tb)
  (hs:∀x,bV iter X.env x=pure x:=by intro _;rfl):PS X (.For tg iter body [] pos) (X5 wi g tb):=by
 intro a s V H D I h;refine wpAny_For (qc (hi a s V H _ I h) λv s1 h1=>qc h1 λGV s2 h2=>?_) hs;obtain⟨it,B,Y,J,H2,e,I2,T,qP,Z,W,⟨m0,w0⟩,C⟩:=h2;subst e
 -- what stays YP of the C1 objects through the loop
 have M:∀{t:Hp},(∀b∈B,t b=XV)->∀b∈B,tF X a t b:=λhn b c=>⟨hn b c,(Z b c).2⟩;refine codeAny_forLoop_any (λn s'=>∃i j t,Inv X a j t s'/\Y i s'.heap/\(∀b∈B,t b=XV)/\W i n j t) ?_ m0 ⟨0,V,H2,I2,qP,λb c=>(Z b c).1,w0⟩;rintro n s3 ⟨i,E,L,I3,qz,KS,w3⟩;rcases C i n E L w3 with⟨F,qn⟩|⟨go,N,hN,G⟩
 ·refine fy z (qc (T.done X rfl rfl rfl U i a s3 E L X.xe I3 (M KS) qz F) λr s4 ⟨O,I4⟩=>?_);subst O;exact i5 ⟨E,L,I4,qn⟩
 ·refine fy z (qc (T.item X rfl rfl rfl U i a s3 E L X.xe I3 (M KS) qz go) λr s4 ⟨u,O,h4⟩=>?_);subst O;refine fy z (qc h4 λ_ s5 ⟨x,H5,I5,r5,y5,P,Q⟩=>?_);have R:=I5.pinned (M Q) (T.obj _ _ P);refine fy z (qc (hg _ s5 E H5 x u _ R r5 (G x H5 y5)) λ_ s6 ⟨XB,H6,I6,q6⟩=>?_);refine fy z (qc (c _ s6 XB H6 _ I6 q6) λf S y=>?_);have k:∀{l:St}{p:Hp},Inv X (a++FJ B s5.heap) l p S->N l p->∃m,m<n/\∃i j t,Inv X a j t S/\Y i S.heap/\(∀b∈B,t b=XV)/\W i m j t:=λ{l p}q K=>by
   obtain⟨m',hm,w7⟩:=hN l p K;refine⟨m',hm,i+1,l,p,q.unpinned,T.keep _ _ _ P λb c o e=>(q.pin (b,o) (aC _ (aC _ (JL c e)))).1,λb c=>?_,w7⟩;obtain⟨o,e,d⟩:=T.obj _ _ P b c;exact(q.pin (b,o) (aC _ (aC _ (JL c e)))).2.1
  cases f with
  |next=>obtain⟨l,p,q,K⟩:=y;exact k q K
  |cont=>obtain⟨l,p,q,K⟩:=y;exact k q K
  |brk=>obtain⟨l,p,q,y⟩:=y;exact⟨l,p,q.unpinned,y⟩
  |ret v=>obtain⟨x7,l,p,q,r7,y⟩:=y;exact⟨x7,l,p,q.unpinned,r7,y⟩
end
abbrev R2:=V->V->Hp->VK->Prop
def qZ(X:Cx)(f:ab->ab->Sem ab)(r:R2):Prop:=
 ∀(Xa:List (ae×Obj))(s:ag)(σ:St)(H:Hp)(x y:V)(v u:ab)(Q:VK),Inv X Xa σ H s->RelV x v->RelV y u->r x y H Q->
  av (az X.prog X.w) X.A (f v u) (EP X Xa σ Q) X.xe s
def PJ(X:Cx)(f:ab->Sem ab)(r:V->Hp->VK->Prop):Prop:=
 ∀(Xa:List (ae×Obj))(s:ag)(σ:St)(H:Hp)(x:V)(v:ab)(Q:VK),Inv X Xa σ H s->RelV x v->r x H Q->
  av (az X.prog X.w) X.A (f v) (EP X Xa σ Q) X.xe s
def oN(X:Cx)(f:ab)(r:List V->Hp->VK->Prop):Prop:=
 ∀(Xa:List (ae×Obj))(s:ag)(σ:St)(H:Hp)(xs:List V)(us:List ab)(Q:VK),Inv X Xa σ H s->oF xs us->r xs H Q->
  av (az X.prog X.w) X.A (call f us) (EP X Xa σ Q) X.xe s
def XN(X:Cx)(r:V->Hp->(Bool->Hp->Prop)->Prop):Prop:=
 ∀(Xa:List (ae×Obj))(s:ag)(σ:St)(H:Hp)(x:V)(v:ab)(Q:Bool->Hp->Prop),Inv X Xa σ H s->RelV x v->r x H Q->
  av (az X.prog X.w) X.A (truthy v) (TP X Xa σ Q) X.xe s
def Gv(r:R2)(ta tb:TE):TE:=λσ H Q=>ta σ H λx H1=>tb σ H1 λy H2=>r x y H2 Q
def tUn(r:V->Hp->VK->Prop)(ta:TE):TE:=λσ H Q=>ta σ H λx H1=>r x H1 Q
def rI(C:Int->Int->Prop)(g:Int->Int->V):R2:=λx y H Q=>∃i j,x=.int i/\y=.int j/\C i j/\Q (g i j) H
def uU(g:Int->Int->V):R2:=λx y H Q=>∃i j,x=.int i/\y=.int j/\Q (g i j) H
def rU(g:Int->V):V->Hp->VK->Prop:=λx H Q=>∃i,x=.int i/\Q (g i) H
section
variable{X:Cx}{a b:aT}{ta tb:TE}{pos:Pos}
def K6(i:PE X a ta)(j:PE X b tb){c:List (ae×Obj)}{s:ag}{σ:St}{H:Hp}{R:V->V->Hp->Prop}(I:Inv X c σ H s)
  (h:ta σ H λx g=>tb σ g λy d=>R x y d) {Q:ab->ag->Prop} {f:ab->ab->Sem ab}
  (k:∀v u e x y d,Inv X c σ d e->RelV x v->RelV y u->R x y d->av (az X.prog X.w) X.A (f v u) Q X.xe e):
  av (az X.prog X.w) X.A (eval a X.env) (λv l=>av (az X.prog X.w) X.A (eval b X.env) (λu m=>av (az X.prog X.w) X.A (f v u) Q X.xe m) X.xe l) X.xe s:=by refine qc (i c s σ H _ I h) λv n ⟨x,g,o,p,q⟩=>?_;refine qc (j c n σ g _ o q) λu e ⟨y,d,r,t,z⟩=>?_;exact k v u e x y d r p t z
def YC{d:Operator}{r:R2}(e:qZ X (dU d) r)(f:PE X a ta)(g:PE X b tb):PE X (.BinOp a d b pos) (Gv r ta tb):=by intro c s i H Q I h;exact wpAny_BinOp (K6 f g I h λv u j x y k l m n q=>e c j i k x y v u Q l m n q)
def Yi(e:PJ X (unaryOp op) r)(f:PE X a ta):PE X (.UnaryOp op a pos) (tUn r ta):=by intro c s d H Q I h;exact UnaryOp_ (qc (f c s d H _ I h) λv g ⟨x,i,j,k,l⟩=>e c g d i x v Q j k l)
def EJ{f:ab->ab->Sem ab}{C:Int->Int->Prop}{g:Int->Int->Int}
  (c:∀(i j:Int)(t u:Tok)(s:ag)(Q:ab->ag->Prop)(E:ab->ag->Prop),C i j->Q (.int (g i j) s.toks) { s with toks:=s.toks+1 }->av (az X.prog X.w) X.A (f (.int i t) (.int j u)) Q E s):
  qZ X f (rI C λi j=>.int (g i j)):=by intro d s n H x y v u Q I e k h;obtain⟨i,j,rfl,rfl,l,q⟩:=h;obtain⟨t,rfl⟩:=e;obtain⟨m,rfl⟩:=k;exact c i j t m s _ _ l ⟨.int (g i j),H,I.tok _,⟨_,rfl⟩,q⟩
def E9{f:ab->ab->Sem ab}{g:Int->Int->Int}
  (c:∀(i j:Int)(t u:Tok)(s:ag)(Q:ab->ag->Prop)(E:ab->ag->Prop),Q (.int (g i j) s.toks) { s with toks:=s.toks+1 }->av (az X.prog X.w) X.A (f (.int i t) (.int j u)) Q E s):
  qZ X f (uU λi j=>.int (g i j)):=by intro d s m H x y v u Q I e k h;obtain⟨i,j,rfl,rfl,q⟩:=h;obtain⟨t,rfl⟩:=e;obtain⟨l,rfl⟩:=k;exact c i j t l s _ _ ⟨.int (g i j),H,I.tok _,⟨_,rfl⟩,q⟩
def La{f:ab->ab->Sem ab}{g:Int->Int->Bool}
  (c:∀(i j:Int)(t u:Tok)(s:ag)(Q:ab->ag->Prop)(E:ab->ag->Prop),Q (.bool (g i j)) s->av (az X.prog X.w) X.A (f (.int i t) (.int j u)) Q E s):
  qZ X f (uU λi j=>.bl (g i j)):=by intro d s m H x y v u Q I e k h;obtain⟨i,j,rfl,rfl,q⟩:=h;obtain⟨t,rfl⟩:=e;obtain⟨l,rfl⟩:=k;exact c i j t l s _ _ ⟨.bl (g i j),H,I,rfl,q⟩
def Qb(i j:Int):Prop:=0<j/\j<1073741824
def Ib(i j:Int):Prop:=0<=j/\j<=1000000/\i.natAbs<2 ^ 64
def pI(i j:Int):Prop:=(-(2 ^ 64)<i/\i<2 ^ 64)\/(-(2 ^ 64)<j/\j<2 ^ 64)
def pI.ok(h:pI i j):IntMulOk i j:=by
 rcases h with⟨c,d⟩|⟨c,d⟩
 ·exact .of_left (intBits_le_64 c d)
 ·exact .of_right (intBits_le_64 c d)
def zbl(k:Nat):(0:Int)<=2 ^ k:=by rw[two_pow_cast];exact Int.natCast_nonneg _
def zkk:qZ X (dU .Add) (uU λi j=>.int (i+j)):=E9 λ_ _ _ _ _ _ _ q=>add_int q
def Y0:qZ X (dU .Sub) (uU λi j=>.int (i-j)):=E9 λ_ _ _ _ _ _ _ q=>sub_int q
def ZF:qZ X (dU .Mult) (rI pI λi j=>.int (i*j)):=EJ λ_ _ _ _ _ _ _ c q=>mul_int q c.ok
def zjM:qZ X (dU .FloorDiv) (rI Qb λi j=>.int (i/j)):=EJ λi j _ _ _ _ _ c q=>by
 have d:(0:Int)<j:=c.1;have e:j<1073741824:=c.2;exact floordiv_int 'd' (by rw[jL i 'd'];exact q) (.inl (PyProof.noPylong_small 'd'))
def zlN:qZ X (dU .Mod) (rI (λ_ j=>0<j) λi j=>.int (i%j)):=EJ λi j _ _ _ _ _ c q=>by
 have d:(0:Int)<j:=c;exact mod_int' 'd' (by rw[Int.fmod_eq_emod_of_nonneg i 'd'];exact q)
def zkY:qZ X (dU .Pow) (rI Ib λi j=>.int (i ^ j.toNat)):=EJ λ_ _ _ _ _ _ _ c q=>pow_int_small c.1 c.2.1 c.2.2 q
def Z9:qZ X (dU .LShift) (rI Ib λi j=>.int (i*2 ^ j.toNat)):=EJ λ_ _ _ _ _ _ _ c q=>lshift_int_small c.1 c.2.1 c.2.2 q
def Y6:qZ X (dU .RShift) (rI (λ_ j=>0<=j) λi j=>.int (i/2 ^ j.toNat)):=EJ λi j _ _ _ _ _ c q=>
 rshift_int c (by rw[jL i (zbl _)];exact q)
def Zs:qZ X (dU .BitAnd) (uU λi j=>.int (k7 i j)):=E9 λ_ _ _ _ _ _ _ q=>and_int q
def YD:qZ X (dU .BitOr) (uU λi j=>.int (iM i j)):=E9 λ_ _ _ _ _ _ _ q=>or_int q
def zkR:qZ X (dU .BitXor) (uU λi j=>.int (k8 i j)):=E9 λ_ _ _ _ _ _ _ q=>xor_int q
def unI{f:ab->Sem ab}{g:Int->Int}
  (c:∀(i:Int)(t:Tok)(s:ag)(Q:ab->ag->Prop)(E:ab->ag->Prop),Q (.int (g i) s.toks) { s with toks:=s.toks+1 }->av (az X.prog X.w) X.A (f (.int i t)) Q E s):
  PJ X f (rU λi=>.int (g i)):=by intro d s j H x v Q I e h;obtain⟨i,rfl,q⟩:=h;obtain⟨t,rfl⟩:=e;exact c i t s _ _ ⟨.int (g i),H,I.tok _,⟨_,rfl⟩,q⟩
def Y_:PJ X (unaryOp .USub) (rU λi=>.int (-i)):=unI λ_ _ _ _ _ q=>neg_int q
end
section
variable{X:Cx}{a b c:aT}{ta tb tc:TE}{pos:Pos}
def IQ(I:Inv X Xa σ H s)(q:Q (.bl k) H)(e:k=k'):EP X Xa σ Q (.bool k') s:=by subst e;exact⟨.bl k,H,I,rfl,q⟩
def Lz:qZ X (cD .Lt) (uU λi j=>.bl (decide (i<j))):=La λ_ _ _ _ _ _ _ q=>lt_int q
def Qu:qZ X (cD .LtE) (uU λi j=>.bl (decide (i<=j))):=La λ_ _ _ _ _ _ _ q=>le_int q
def QN:qZ X (cD .GtE) (uU λi j=>.bl (decide (j<=i))):=La λ_ _ _ _ _ _ _ q=>ge_int q
def zcr:qZ X (cD .Lt) (λx y H Q=>∃i j,x=.str i/\y=.str j/\Q (.bl (decide (i.cps.toList<j.cps.toList))) H):=by intro d s g H x y v u Q I e f h;obtain⟨i,j,rfl,rfl,q⟩:=h;obtain⟨t,rfl⟩:=e;obtain⟨k,rfl⟩:=f;exact lt_str (IQ I q rfl)
def zdF:qZ X (cD .In) (λx y H Q=>∃i j,x=.str i/\y=.str j/\Q (.bl (!(bJ j i 0 j.length 1).isEmpty)) H):=by intro d s g H x y v u Q I e f h;obtain⟨i,j,rfl,rfl,q⟩:=h;obtain⟨t,rfl⟩:=e;obtain⟨k,rfl⟩:=f;exact in_str (IQ I q rfl)
def zlM:qZ X (cD .Is) (λx y H Q=>y=.non/\Q (.bl (decide (x=.non))) H):=by
 intro d s g H x y v u Q I e f h;obtain⟨rfl,q⟩:=h;cases f;refine is_none_gen (IQ I q ?_);cases x<;>first
  |(cases e;rfl)
  |(obtain⟨t,rfl⟩:=e;rfl)
def z7E:qZ X (cD .NotIn) (λx y H Q=>∃i j,x=.str i/\y=.str j/\Q (.bl (!(!(bJ j i 0 j.length 1).isEmpty))) H):=by intro d s g H x y v u Q I e f h;obtain⟨i,j,rfl,rfl,q⟩:=h;obtain⟨t,rfl⟩:=e;obtain⟨k,rfl⟩:=f;exact notIn_str (IQ I q rfl)
def qZ.or(h:qZ X f r)(h':qZ X f r'):qZ X f (λx y H Q=>r x y H Q\/r' x y H Q):=by
 intro d s e H x y v u Q I g i q;rcases q with q|q
 ·exact h d s e H x y v u Q I g i q
 ·exact h' d s e H x y v u Q I g i q
def Fz(b:aT)(h:op ≠ .In:=by decide)(d:op ≠ .NotIn:=by decide):behindInMarks op b=Y1:=by
 have e:(op==CmpOp.In)=Y1:=by cases op<;>first|rfl|exact absurd rfl h
 have f:(op==CmpOp.NotIn)=Y1:=by cases op<;>first|rfl|exact absurd rfl d
 cases b<;>simp[behindInMarks,e,f]
def zjQ{e:CmpOp}{r:R2}(f:qZ X (cD e) r)(g:PE X a ta)(i:PE X b tb)(j:behindInMarks e b=Y1):PE X (.Compare a [e] [b] pos) (Gv r ta tb):=by intro d s k H Q I h;exact wpAny_Compare1 (K6 g i I h λv u l x y m n o p q=>f d l k m x y v u Q n o p q) j
def Q6(t:TE):TT:=λσ H Q=>t σ H λx H'=>∃k,x=.bl k/\Q k H'
def zhs(g:qZ X (cD op) r)(i:PE X a ta)(j:PE X b tb)(l:behindInMarks op b=Y1):PT X (.Compare a [op] [b] pos) (Q6 (Gv r ta tb)):=by
 intro d s f H Q I h;refine kY (qc (i d s f H _ I h) λv m ⟨x,n,o,p,q⟩=>qc (j d m f n _ o q) λu t ⟨y,w,A,B,C⟩=>
  qc (g d t f w x y v u _ A p B C) λc J ⟨z,D,E,F,k,e,G⟩=>?_) l
 subst e;cases F;exact dq ⟨D,E,G⟩
noncomputable def ZS(r r':R2)(ta tb tc:TE):TE:=λσ H Q=>ta σ H λx H1=>tb σ H1 λy H2=>r x y H2 λz H3=>∃k,z=.bl k/\
 (if k=YP then tc σ H3 λw' H4=>r' y w' H4 Q else Q (.bl Y1) H3)
def zfl(n:qZ X (cD op) r)(o:qZ X (cD EK) r')(p:PE X a ta)(q:PE X b tb)(t:PE X c tc)
  (w:lastMarks [op,EK] [b,c]=Y1:=by with_unfolding_all rfl):PE X (.Compare a [op,EK] [b,c] pos) (ZS r r' ta tb tc):=by
 intro f s g H Q I h;refine Compare_chain (qc (p f s g H _ I h) λv A ⟨x,B,C,D,E⟩=>chain_link (qc (q f A g B _ C E) λu F ⟨y,G,J,i,K⟩=>
  qc (n f F g G x y v u _ J D i K) λd L ⟨z,j,l,M,k,e,m⟩=>?_)) w
 subst e;cases M;refine dq ?_;cases k with
 |false=>exact ite_ff ⟨.bl Y1,j,l,rfl,m⟩
 |true=>exact ite_tt (chain_last (qc (t f L g j _ l m) λN O ⟨P,R,S,T,U⟩=>o f O g R y P u N Q S i T U))
def P0(K:ai)(x:V)(H:Hp)(k:Bool):Prop:=
 match x with
 |.non=>k=Y1
 |.bl b=>k=b
 |.int i=>k=(i !=0)
 |.str y=>y.length<=Kw/\k=((y.length:Int) !=0)
 |.byt y=>y.size<=Kw/\k=((y.size:Int) !=0)
 |.ref p=>(∃xs,rn K H p xs/\k = !xs.isEmpty)\/(∃xs,sC K H p xs/\k = !xs.isEmpty) \/ ∃i_,H p=Xy (.dK i_)/\k = !i_.isEmpty
 |_=>False
def zaP{κ:Type}{d:List (κ×V)}{e:List (κ×ab)}(r:KV d e):(!e.isEmpty) = !d.isEmpty:=by cases r<;>rfl
def Vr{xs:List V}{d:List ab}(r:oF xs d):(!d.toArray.isEmpty) = !xs.isEmpty:=by cases r<;>simp
def Eh:(Kw:Nat)<2 ^ 63:=by rw[kO];decide
def Z8:XN X (λx H Q=>∃k,P0 X.K x H k/\Q k H):=by
 intro z s E H x v Q I j h;obtain⟨k,e,q⟩:=h;have F:=Eh;have G:Kw=16777216:=kO;cases x with
 | non=>
  cases j;have d:k=Y1:=e;subst d;exact truthy_none ⟨H,I,q⟩
 | bl b=>
  cases j;have d:k=b:=e;subst d;exact dq ⟨H,I,q⟩
 | int i=>
  obtain⟨t,rfl⟩:=j;have d:k=(i !=0):=e;subst d;exact PySem.P.truthy_int ⟨H,I,q⟩
 | str y=>
  obtain⟨t,rfl⟩:=j;obtain⟨B,d⟩:y.length<=Kw/\k=((y.length:Int) !=0):=e;subst d;exact PySem.P.truthy_str 'd' ⟨H,I.tok _,q⟩
 | byt y=>
  obtain⟨t,rfl⟩:=j;obtain⟨B,d⟩:y.size<=Kw/\k=((y.size:Int) !=0):=e;subst d;exact PySem.W.truthy_bytes 'd' ⟨H,I.tok _,q⟩
 | ref p=>
  cases j;have d:(∃g,rn X.K H p g/\k = !g.isEmpty)\/(∃g,sC X.K H p g/\k = !g.isEmpty) \/ ∃l,H p=Xy (.dK l)/\k = !l.isEmpty:=e;rcases d with⟨g,n,d⟩|⟨g,n,d⟩|⟨l,n,d⟩
  ·subst d;obtain⟨C,r,u,A⟩:=I.list n;have f:=r.length;exact wpAny_truthy_list u.isList (by simp only[aL];lia) ⟨H,I.tok _,by rw[Vr r];exact q⟩
  ·subst d;obtain⟨C,r,u,A⟩:=I.tuple n;have f:=r.length;exact truthy_tuple u (by simp only[aL];lia) ⟨H,I.tok _,by rw[Vr r];exact q⟩
  ·subst d;obtain⟨A,D,o,r,m⟩:l.length<=Kw/\(p==sysModules)=Y1/\∃o,KV l o/\s.heap.DictOf (vD X.prog X.w) p o:=I.hok p _ n;have f:l.length=o.length:=lO r;exact wpAny_truthy_dict D m 'd' ⟨H,I.tok _,by rw[zaP r];exact q⟩
 |_=>exact(show False from e).elim
def zgo(f:PE X a ta)(g:∀e,isTrue a X.env e=(do let v <- e;standAt a.pos;holding [v] (truthy v))):
  PT X a (λσ H Q=>ta σ H λx H'=>∃k,P0 X.K x H' k/\Q k H'):=by intro d s σ H Q I h;exact isTrue_plain (qc (f d s σ H _ I h) λv i ⟨x,j,l,m,n⟩=>Z8 d i σ j x v Q l m n) (g _)
def zaR:qZ X (dU .Add) (λx y H Q=>∃i j,x=.str i/\y=.str j/\i.length+j.length<=Kw/\Q (.str (i++j)) H):=by intro d s m H x y v u Q I e f h;obtain⟨i,j,rfl,rfl,g,q⟩:=h;obtain⟨t,rfl⟩:=e;obtain⟨k,rfl⟩:=f;exact gc I.tk (add_str (λk n l=>⟨.str (i++j),H,I.tok _ l,⟨_,rfl⟩,q⟩) g)
def uO(r:oF [x] us):∃u,us=[u]/\RelV x u:=by
 cases r with
 |cons r1 r2=>cases r2;exact⟨_,rfl,r1⟩
def Iz(r:oF [x,y] us):∃u d,us=[u,d]/\RelV x u/\RelV y d:=by
 cases r with
 | cons r1 r2=>
  cases r2 with
  |cons r3 r4=>cases r4;exact⟨_,_,rfl,r1,r3⟩
def zdf(f:X.calm=YP):oN X (.builtin "max") (λxs H Q=>∃i j,xs=[.int i,.int j]/\Q (.int (if j>i then j else i)) H):=by
 intro e s l H xs m Q I r h;obtain⟨i,j,rfl,q⟩:=h;obtain⟨u,n,rfl,⟨t,rfl⟩,⟨o,rfl⟩⟩:=Iz r;refine gc I.tk (max_two_ints (I.ok.hd f) λp v k g=>⟨_,H,I.kept k g,?_,q⟩);by_cases d:j>i
 ·rw[Kk d,Kk d];exact⟨_,rfl⟩
 ·rw[Ko d,Ko d];exact⟨_,rfl⟩
def zbN(f:X.calm=YP):oN X (.builtin "min") (λxs H Q=>∃i j,xs=[.int i,.int j]/\Q (.int (if j<i then j else i)) H):=by
 intro e s l H xs m Q I r h;obtain⟨i,j,rfl,q⟩:=h;obtain⟨u,n,rfl,⟨t,rfl⟩,⟨o,rfl⟩⟩:=Iz r;refine gc I.tk (min_two_ints (I.ok.hd f) λp v k g=>⟨_,H,I.kept k g,?_,q⟩);by_cases d:j<i
 ·rw[Kk d,Kk d];exact⟨_,rfl⟩
 ·rw[Ko d,Ko d];exact⟨_,rfl⟩
def zeh:oN X (.type "int") (λxs H Q=>(∃i,xs=[.int i]/\Q (.int i) H) \/ ∃k,xs=[.bl k]/\Q (.int (if k then 1 else 0)) H):=by
 intro d s f H xs g Q I r h;rcases h with⟨i,rfl,q⟩|⟨k,rfl,q⟩
 ·obtain⟨u,rfl,t,rfl⟩:=uO r;exact call_int_int ⟨.int i,H,I,⟨_,rfl⟩,q⟩
 ·obtain⟨u,rfl,e⟩:=uO r;cases e;exact call_int_bool ⟨.int (if k then 1 else 0),H,I.tok _,⟨_,rfl⟩,q⟩
def z7M:oN X (.type "str") (λxs H Q=>∃i,xs=[.int i]/\i.natAbs.log2<1920/\Q (.str (toString i)) H):=by intro d s f H xs g Q I r h;obtain⟨i,rfl,e,q⟩:=h;obtain⟨u,rfl,t,rfl⟩:=uO r;exact PySem.P.str_of_int e ⟨.str _,H,I.tok _,⟨_,rfl⟩,q⟩
def P4(K:ai)(x:V)(H:Hp)(n:Nat):Prop:=
 match x with
 |.str y=>y.length<=Kw/\n=y.length
 |.byt y=>y.size<=Kw/\n=y.size
 |.ref p=>(∃xs,rn K H p xs/\n=xs.length) \/ ∃xs,sC K H p xs/\n=xs.length
 |_=>False
def zg0:oN X (.builtin "len") (λxs H Q=>∃x n,xs=[x]/\P4 X.K x H n/\Q (.int n) H):=by
 intro l s w H xs z Q I r h;obtain⟨x,n,rfl,e,q⟩:=h;obtain⟨u,rfl,g⟩:=uO r;have A:=Eh;have B:Kw=16777216:=kO;cases x with
 | str y=>
  obtain⟨t,rfl⟩:=g;obtain⟨m,f⟩:y.length<=Kw/\n=y.length:=e;subst f;exact len_str 'd' ⟨.int _,H,I.tok _,⟨_,rfl⟩,q⟩
 | byt y=>
  obtain⟨t,rfl⟩:=g;obtain⟨m,f⟩:y.size<=Kw/\n=y.size:=e;subst f;exact PySem.W.len_bytes 'd' ⟨.int _,H,I.tok _,⟨_,rfl⟩,q⟩
 | ref p=>
  cases g;have f:(∃xs,rn X.K H p xs/\n=xs.length) \/ ∃xs,sC X.K H p xs/\n=xs.length:=e;rcases f with⟨xs,i,f⟩|⟨xs,i,f⟩
  ·subst f;obtain⟨o,j,k,v⟩:=I.list i;have d:=j.length;exact Calls.call_len_list k.isList (by simp only[aL];lia) ⟨.int xs.length,H,I.tok _,⟨_,by simp only[aL];rw[d]⟩,q⟩
  ·subst f;obtain⟨o,j,k,v⟩:=I.tuple i;have d:=j.length;exact len_tuple k (by simp only[aL];lia) ⟨.int xs.length,H,I.tok _,⟨_,by simp only[aL];rw[d]⟩,q⟩
 |_=>exact(show False from e).elim
end
structure zpx(h:a7)(x dx C:ae)(mA:aB->Option ab):Prop where
 obj:h.get? x=Xy (nD C dx)
 ns:h.Ns1 dx mA
 ne:dx≠x
section
end
def o3.some_of(r:o3 (Xy v) o):∃u,o=Xy u/\RelV v u:=by
 cases o with
 |none=>exact(show False from r).elim
 |some u=>exact⟨u,rfl,r⟩
structure PQ(K:ai)(C:ae):Prop where
 pg:mZ K C Str.empty=YP
 hd:PySem.W.hasDictIn K C=YP
 po:PySem.W.plainOver K C=YP
 sa:e9 K (.ref C) "__setattr__" = Xy (Xy (.builtin "object.__setattr__"))
def PQ.get{K:ai}{C:ae}(c:PQ K C)(f:aB):mZ K C f=YP:=c.pg
structure Con(K:ai)(C:ae)(f:aB)(v:V)(u:ab):Prop where
 at_:e9 K (.ref C) f=Xy (Xy u)
 rel:RelV v u
 get:jW K u "__get__" = Xy XV
 cp:PySem.W.copiedNames.contains f=Y1
structure zpy(K:ai)(C:ae)(m:aB)(f:ae):Prop where
 at_:e9 K (.ref C) m=Xy (Xy (.ref f))
 fn:on K (.ref f)=YP
 kp:de K (.ref f)=YP
section
end
section
variable{H:Hp}
inductive yT(K:ai)(H:Hp):V->ab->Prop where
 |non:yT K H .non (.type "NoneType")
 |bl (x:Bool):yT K H (.bl x) (.type "bool")
 |int (i:Int):yT K H (.int i) (.type "int")
 |str (x:aB):yT K H (.str x) (.type "str")
 |flt (x:UInt64):yT K H (.flt x) (.type "float")
 |lst {a:ae} {xs:List V} (e:H a=Xy (.lst xs)):yT K H (.ref a) (.type "list")
 |frz {a:ae} {o:Obj} {xs:List V} (e:H a=Xy (.frz o (.lst xs))):yT K H (.ref a) (.type "list")
 |tup {a:ae} {xs:List V} (e:H a=Xy (.tup xs)):yT K H (.ref a) (.type "tuple")
 |dK {a:ae} {i_:List (Key×V)} (e:H a=Xy (.dK i_)):yT K H (.ref a) (.type "dict")
 |dT {a:ae} {i_:List (List Key×V)} (e:H a=Xy (.dT i_)):yT K H (.ref a) (.type "dict")
 | ins {a C dx:ae} {fs:List (aB×V)} (e:H a=Xy (.ins C dx fs)) (cl:PQ K C) (ha:e9 K (.ref C) "__class__" = Xy (Xy (.builtin "object.__class__")))
   (hn:jW K (.builtin "object.__class__") "__get__" = Xy (Xy (.builtin "getset_descriptor.__get__"))) (rB:nE K (.builtin "object.__class__")=Xy YP)
   (hm:lP K C (.type "object")=Xy YP):yT K H (.ref a) (.ref C)
end
structure oM(k:Nat)(A:bb):Prop where
 hd:A.handled=XV
 dp:A.depth+3*k+5<recursionLimit
 un:A.units+16*k+200<cLine
def oM.mono(r:oM k A)(h:j<=k):oM j A:=⟨r.hd,by have:=r.dp;lia,by have:=r.un;lia⟩
def oM.deeper(r:oM (k+1) A)(a:Env):oM k (A.deeper a):=
 ⟨r.hd,by have:=r.dp;show A.depth+1+3*k+5<_;lia,by have:=r.un;show A.units+3+16*k+200<_;lia⟩
def oM.in1(r:oM (k+1) A):oM k A.in1:=
 ⟨r.hd,by have:=r.dp;show A.depth+3*k+5<_;lia,by have:=r.un;show A.units+1+16*k+200<_;lia⟩
def oM.depth(r:oM k A):A.depth<recursionLimit:=by have:=r.dp;lia
def oM.units(r:oM k A):A.units+64<cLine:=by have:=r.un;lia
def Qa:TA:=λ_ H Q=>Q [] H
def QP(ta:TE)(tr:TA):TA:=λσ H Q=>ta σ H λx H1=>tr σ H1 λxs H2=>Q (x::xs) H2
section
variable{X:Cx}{e:aT}{es:List aT}{te:TE}{t:TA}{pos:Pos}
def IT:PA X [] Qa:=λ_ _ _ _ H Q I h=>mI ⟨[],H,I,.nil,h⟩
def FN(c:PE X e te)(d:PA X es t)(f:aR (e::es) X.env=(Y1,eval e X.env)::aR es X.env:=by rfl):PA X (e::es) (QP te t):=by intro pos a s b H Q I h;rw[f];show av _ _ (spliced ((Y1,eval e X.env)::backTo pos (aR es X.env))) _ _ s;refine ma (qc (c a s b H _ I h) λu g ⟨x,i,j,k,l⟩=>?_);exact qc (d pos a g b i _ j l) λr v ⟨m,n,o,p,q⟩=>⟨x::m,n,o,.cons k p,q⟩
def X4(t:TA):TE:=λσ H Q=>t σ H λxs H1=>xs.length<=Kw/\∀p,H1 p=XV->Q (.ref p) (upd H1 p (.tup xs))
def X0(t:TA):TE:=λσ H Q=>t σ H λxs H1=>xs.length<=Kw/\∀p,H1 p=XV->Q (.ref p) (upd H1 p (.lst xs))
def zlW(h:PA X es t):PE X (.Tuple es x1 pos) (X4 t):=by intro a s g H Q I i;refine wpAny_Tuple_spliced (qc (h pos a s g H _ I i) λj c ⟨k,d,f,r,z,q⟩=>⟨by rw[<- r.length];exact z,?_⟩);have l:d c.heap.objs.size=XV:=f.hok.fresh (aE _);refine⟨.ref c.heap.objs.size,upd d c.heap.objs.size (.tup k),f.laid (t':=c.toks) (λb u e=>af _ e) (aE _) ?_,rfl,q _ l⟩;exact⟨z,j,r,oZ.new _ _⟩
def Rv(h:PA X es t):PE X (.List es pos) (X0 t):=by intro a s g H Q I i;refine wpAny_List_spliced (qc (h pos a s g H _ I i) λj c ⟨k,d,f,r,z,q⟩=>⟨by rw[<- r.length];exact z,?_⟩);have l:d c.heap.objs.size=XV:=f.hok.fresh (aE _);refine⟨.ref c.heap.objs.size,upd d c.heap.objs.size (.lst k),f.laid (t':=c.toks) (λb u e=>af _ e) (aE _) ?_,rfl,q _ l⟩;exact⟨z,j,0,r,aI _ rfl⟩
end
abbrev Sp:=List V->Hp->VK->XK->Prop
abbrev yr:=List Env->Hp->ag->XK->ab->ag->Prop
structure o9(P:aP)(w:aZ)(K:ai)(mg:aB->Option ab)(base:a7)(A:bb)(outer:List Env)(s:ag)(H:Hp):Prop where
 frames:A.frames=Xy outer
 mod:Mod K mg base
 bs:∀b o,base.get? b=Xy o->s.heap.get? b=Xy o/\H b=XV
 bsz:base.objs.size<=s.heap.objs.size
 funs:s.heap.FunFrames base outer
 frf:∀b∈vI outer,H b=XV
 hok:HOk P w H s.heap
 bare:ip s.gens
 tk:0<s.toks
def CE(outer:List Env)(P:aP)(w:aZ)(H:Hp)(s:ag)(Q:VK)(u:ab)(s':ag):Prop:=
 (∃v H',s'.os=s.os/\ip s'.gens/\Un (vI outer) [] H H' s.heap s'.heap/\HOk P w H' s'.heap/\RelV v u/\Q v H')/\0<s'.toks
def CR(CX:yr)(outer:List Env)(P:aP)(w:aZ)(H:Hp)(s:ag)(Q:VK)(E:XK)(r:Result)(s':ag):Prop:=
 match r with
 |.ok (.ret u)=>CE outer P w H s Q u s'
 |.ok _=>False
 |.error e=>CX outer H s E e s'
structure oV(P:aP)(w:aZ)(K:ai)(mg:aB->Option ab)(base:a7)(CX:yr)(k:Nat)(f:ae)(fd:fc)(ps:List aB)(sp:Sp):Prop where
 len:∀vs H Q E,sp vs H Q E->vs.length=ps.length
 run:∀(A:bb)(outer:List Env)(s:ag)(H:Hp)(args:Args)(us:List ab)(vs:List V)(Q:VK)(E:XK),oM k A->o9 P w K mg base A outer s H->k9 s fd args (ps.zip us)->oF vs us->sp vs H Q E->
  codeAny (az P w) A (.call (.ref f) args) (CR CX outer P w H s Q E) s
def oV.mono{P:aP}{w:aZ}{K:ai}{c:aB->Option ab}{base:a7}{d:yr}{j k:Nat}{f:ae}{e:fc}{g:List aB}{i:Sp}(F:oV P w K c base d j f e g i)(h:j<=k):
  oV P w K c base d k f e g i:=⟨F.len,λA a s H b l m Q E n=>F.run A a s H b l m Q E (n.mono h)⟩
def oV.imp{P:aP}{w:aZ}{K:ai}{d:aB->Option ab}{base:a7}{e:yr}{k:Nat}{f:ae}{g:fc}{i:List aB}{j l:Sp}(F:oV P w K d base e k f g i j)
  (h:∀b H Q E,l b H Q E->j b H Q E):oV P w K d base e k f g i l:=
 ⟨λb H Q E q=>F.len b H Q E (h _ _ _ _ q),λA a s H c m b Q E n o p r t=>F.run A a s H c m b Q E n o p r (h _ _ _ _ t)⟩
def o9.in1{P:aP}{w:aZ}{K:ai}{b:aB->Option ab}{base:a7}{A:bb}{a:List Env}{s:ag}{H:Hp}(e:o9 P w K b base A a s H):
  o9 P w K b base A.in1 a s H:=⟨e.frames,e.mod,e.bs,e.bsz,e.funs,e.frf,e.hok,e.bare,e.tk⟩
section
variable{X:Cx}{Xa:List (ae×Obj)}{σ:St}{H:Hp}{s s':ag}
def Inv.env0(I:Inv X Xa σ H s):o9 X.prog X.w X.K X.mg X.base X.A X.stack s H:=
 ⟨I.ok.frames,I.ok.mod,I.bs,aH I.ok.bsz I.sz,I.stack,I.stkFree,I.hok,I.bare,I.tk⟩
def Inv.after(I:Inv X Xa σ H s)(h:CE X.stack X.prog X.w H s Q u s'):EP X Xa σ Q u s':=by obtain⟨⟨v,e,f,a,i,c,r,q⟩,j⟩:=h;obtain⟨k,g,d,t,l⟩:=s';obtain rfl:l=s.os:=f;exact⟨v,e,I.call (h':=k) (g':=g) (d':=d) (t':=t) (ch:=[]) i c a (λb z=>absurd z 'k') j,r,q⟩
end
def Yr(sp:Sp)(Am:List V)(E:XK)(t:TA):TE:=λσ H Q=>t σ H λvs H1=>sp (vs++Am) H1 Q E
def Binds(K:ai)(fd:fc)(ps:List aB)(ds:List ab):Prop:=
 ∀(s:ag)(us:List ab),K.In s.heap->(us++ds).length=ps.length->k9 s fd ⟨us,[]⟩ (ps.zip (us++ds))
def Binds.all{K:ai}{c:fc}{b:List aB}(h:∀a:List ab,a.length=b.length->bindArgs c ⟨a,[]⟩=pure (b.zip a)):Binds K c b []:=λs a _ d=>by
 rw[bw] at d ⊢;exact .of_eq (h a d)
def IZ(CX:yr)(X:Cx)(E:XK):Prop:=∀(Xa:List (ae×Obj))(σ:St)(H:Hp)(s:ag)(e:ab)(s':ag),Inv X Xa σ H s->CX X.stack H s E e s'->X.xe e s'
section
variable{X:Cx}{CX:yr}{k:Nat}{f C:ae}{fd:fc}{ps:List aB}{sp:Sp}{Am:List V}{ds:List ab}{E:XK}{x:aB}{p pos:Pos}{e:aT}{es:List aT}{t:TA}
def zkT(F:oV X.prog X.w X.K X.mg X.base CX k f fd ps sp)(c:oM k X.A)(d:Binds X.K fd ps ds)(g:oF Am ds)(i:IZ CX X E)
  (I:Inv X Xa σ H s) (r:oF vs us) (h:sp (vs++Am) H Q E):av (az X.prog X.w) X.A (call (.ref f) us) (EP X Xa σ Q) X.xe s:=by
 have b:oF (vs++Am) (us++ds):=r.append g;have j:(us++ds).length=ps.length:=by rw[<- b.length];exact F.len _ _ _ _ h
 refine j3 (ft (F.run X.A X.stack s H ⟨us,[]⟩ (us++ds) (vs++Am) Q E c I.env0 (d s us I.kIn j) b h) λr l a=>?_);cases r with
 |error e=>exact i Xa σ H s e l I a
 | ok fl=>
  cases fl with
  |ret u=>exact I.after a
  |next=>exact aj a
  |brk=>exact aj a
  |cont=>exact aj a
def Sl(F:oV X.prog X.w X.K X.mg X.base CX k f fd ps sp)(c:oM k X.A)(d:Gl X x)(g:X.mg x=Xy (.ref f))(i:de X.K (.ref f)=YP)(j:Binds X.K fd ps ds)(l:oF Am ds)(m:IZ CX X E)
  (n:PA X (e::es) t) (o:s9 x:=by decide) (u:aR (e::es) X.env=(Y1,eval e X.env)::aR es X.env:=by rfl) (v:(backTo pos (aR es X.env)).any (·.1)=Y1:=by rfl):
  PE X (.Call (.Name x p) (e::es) [] pos) (Yr sp Am E t):=by intro a s y H Q I h;refine hU (SF I d g ?_ o);refine PySem.W.callWith_K (h₀:=X.base) I.ok.mod.kin i (qc (n pos a s y H _ I h) λz B ⟨D,G,b,r,q⟩=>⟨b.kIn,?_⟩) u v;exact zkT F c j l m b r q
structure Mk(K:ai)(C f:ae):Prop where
 makes:PySem.W.makesIn K C=YP
 init:e9 K (.ref C) "__init__" = Xy (Xy (.ref f))
 fn:on K (.ref f)=YP
 kp:de K (.ref C)=YP
end
section
variable{fd:fc}{ps ks:List aB}
structure zoU(K:ai)(fd:fc)(ps ks:List aB)(g:List ab->List ab->List ab)(gV:List V->List V->List V):Prop where
 to:∀(s:ag)(us ws:List ab),K.In s.heap->(g us ws).length=ps.length->k9 s fd ⟨us,ks.zip ws⟩ (ps.zip (g us ws))
 rel:∀{vs:List V}{us:List ab}{zs:List V}{ws:List ab},oF vs us->oF zs ws->oF (gV vs zs) (g us ws)
end
structure xf(N P:List aB)(sc:c8):Prop where
 kind:sc.kind=.function
 co:sc.isCoroutine=Y1
 gen:sc.isGenerator=Y1
 nd:N.Nodup
 pre:N.take P.length=P
 par:∀x∈P,sc.names.lookup x=Xy .local\/sc.names.lookup x=Xy .cell
 nofree:∀y∈sc.names,y.2 ≠ .free
theorem UU{a:aB->Option dE}{x:aB}:∀{binds:List (aB×ab)}{m:aB->Option ab},(∀v,(x,v)∉binds)->bindL a binds m x=m x
 |[],_,_=>rfl
 | (n,v)::r,m,h=>by
  unfold bindL;rw[UU λw b=>h w (ak _ b)];split
  ·have:x≠n:=by rintro rfl;exact h v ar
   simp[this]
  ·rfl
theorem UX{a:aB->Option dE}{x:aB}:∀{binds:List (aB×ab)}{m:aB->Option ab},(∀v,(x,v)∉binds)->bindC a binds m x=m x
 |[],_,_=>rfl
 | (n,v)::r,m,h=>by
  unfold bindC;rw[UX λw b=>h w (ak _ b)];split
  ·rfl
  ·have:x≠n:=by rintro rfl;exact h v ar
   simp[this]
theorem Vi{a:aB->Option dE}{x:aB}{v:ab}:∀{P:List aB}{b:List ab}{i:Nat}{m:aB->Option ab},P.Nodup->P[i]?=Xy x->b[i]?=Xy v->a x=Xy .local->
  bindL a (P.zip b) m x=Xy v
 |[],_,_,_,_,h,_,_=>by simp at h
 |_::_,[],_,_,_,_,h,_=>by simp at h
 | p::P,w::b,0,m,nd,h1,h2,hk=>by
  simp at h1 h2;subst h1;subst h2;show bindL a ((p,w)::P.zip b) m p=_;unfold bindL;rw[UU λv c=>(bz.mp nd).1 (kH c).1,Kk hk];simp
 | p::P,w::b,i+1,m,nd,h1,h2,hk=>by
  show bindL a ((p,w)::P.zip b) m x=_;unfold bindL;exact Vi (i:=i) (bz.mp nd).2 ⇑h1 ⇑h2 hk
theorem U5{a:aB->Option dE}{x:aB}{v:ab}:∀{P:List aB}{b:List ab}{i:Nat}{m:aB->Option ab},P.Nodup->P[i]?=Xy x->b[i]?=Xy v->a x≠Xy .local->
  bindC a (P.zip b) m x=Xy v
 |[],_,_,_,_,h,_,_=>by simp at h
 |_::_,[],_,_,_,_,h,_=>by simp at h
 | p::P,w::b,0,m,nd,h1,h2,hk=>by
  simp at h1 h2;subst h1;subst h2;show bindC a ((p,w)::P.zip b) m p=_;unfold bindC;rw[UX λv c=>(bz.mp nd).1 (kH c).1,Ko hk];simp
 | p::P,w::b,i+1,m,nd,h1,h2,hk=>by
  show bindC a ((p,w)::P.zip b) m x=_;unfold bindC;exact U5 (i:=i) (bz.mp nd).2 ⇑h1 ⇑h2 hk
def start(N:List aB)(vs:List V):St:=vs.map Xy++aU (N.length-vs.length) XV
noncomputable def B_(CX:yr)(P:aP)(w:aZ)(K:ai)(mg:aB->Option ab)(base:a7)(N:List aB)(qual:aB)(scope:c8)(f:ae)(cd:ab)(A:bb)(outer:List Env)(s:ag)(H:Hp)(E:XK):Cx where
 prog:=P
 w:=w
 K:=K
 mg:=mg
 base:=base
 A:=A.deeper (envOfC qual scope s.heap.objs.size f cd)
 N:=N
 s₀:=s
 H₀:=H
 env:=envOfC qual scope s.heap.objs.size f cd
 outer:=outer
 stack:=envOfC qual scope s.heap.objs.size f cd::outer
 ex:=[]
 calm:=YP
 fn:=λ_=>YP
 pn:=[]
 xe:=λe s'=>av (az P w) (A.deeper (envOfC qual scope s.heap.objs.size f cd)) (leaving (envOfC qual scope s.heap.objs.size f cd) e) (λ_ Af=>CX outer H s E e Af) (λe' Af=>CX outer H s E e' Af) s'
def TB{a:c8}{n:Nat}{x:aB}(h:a.names.lookup x=Xy .cell):∃c,(cH n a.names []).lookup x=Xy c:=by have q:=iG a.names n [] (.inl h);exact hV.mp q
def zc2{M:yr}{P:aP}{w:aZ}{K:ai}{G:aB->Option ab}{base:a7}{N o:List aB}{j:aB}{d:c8}{f:ae}{C:ab}{A:bb}{g:List Env}{s I:ag}{H:Hp}{E:XK}{J:List ab}{t:List V}
  (S:xf N o d) (T:A.handled=XV) (m:o9 P w K G base A g s H) (Y:t.length=o.length) (r:oF t J)
  (x:InCallC s s.heap.objs.size (bindL (envOfC j d s.heap.objs.size f C).kindOf (o.zip J) λ_=>XV) (cH (s.heap.objs.size+1) d.names []) (bindC (envOfC j d s.heap.objs.size f C).kindOf (o.zip J) λ_=>XV) I) (U:0<I.toks):
  Inv (B_ M P w K G base N j d f C A g s H E) [] (start N t) H I:=by
 have Z:o.length<=N.length:=by have:=congrArg kP S.pre;rw[bU] at this;lia
 obtain⟨D,tk,rfl,O⟩:=x.done;have L:∀b:ae,b∉(B_ M P w K G base N j d f C A g s H E).ex:=λb z=>absurd (show b∈([]:List ae) from z) 'k';refine⟨⟨m.mod,S.kind,rfl,rfl,aE _,λy z c D l=>?_,λy hy=>?_,λy c _ h=>?_,λ_=>T,lG m.frames,.inr ⟨rfl,rfl⟩,λb z=>absurd z (L b),m.bs,m.bsz,λb _ _=>L b,λb z=>absurd z (L b),m.funs,m.frf⟩,
  rfl,m.bare,Un.kept O,⟨_,x.toInCall.ns,λi y v D l h3=>?_⟩,λy c h=>⟨_,x.cell y c h⟩,m.hok.fresh (aE _),λy c h=>?_,λp B=>absurd (show p∈([]:List (ae×Obj)) from B) 'k',m.hok.kept O,?_,U⟩
 ·exact name_of_addr x.apart (bO D) (bO l)
 ·have hy:d.names.lookup y=Xy .cell\/d.names.lookup y=Xy .free:=hy;rcases hy with hy|hy
  ·exact TB hy
  ·exact absurd rfl (S.nofree _ (bO hy))
 ·exact fV (x.above y c (bO h))
 ·have F:i<t.length:=by
   unfold start at l;by_cases F:i<t.length
   ·exact F
   ·rw[aS ⇑F] at l;rw[f8] at l;split at l<;>cases l
  have W:t[i]?=Xy v:=by
   unfold start at l;rw[aK ⇑F,bd] at l;cases e:t[i]? with
   |none=>rw[e] at l;cases l
   |some a=>rw[e] at l;cases l;rfl
  obtain⟨u,Q,X⟩:=r.get W;have B:o[i]?=Xy y:=by
   rw[<- S.pre,fW 'd'];exact D
  have R:o.Nodup:=by rw[<- S.pre];exact S.nd.sublist (cZ _ _)
  refine⟨u,X,?_⟩;rcases S.par y (aF B) with k|k
  ·exact .inl ⟨k,Vi R B Q k⟩
  ·obtain⟨c,e⟩:=TB (n:=s.heap.objs.size+1) k;refine .inr ⟨.inl k,c,e,?_⟩;have q:=x.cell y c e;rw[U5 R B Q (by show d.names.lookup y≠_;rw[k];decide)] at q;exact q
 ·exact m.hok.fresh (fV (x.above y c (bO h)))
 ·unfold start;show _=N.length;rw[au,aq,lc];lia
def qr{C:yr}{P:aP}{w:aZ}{K:ai}{D:aB->Option ab}{base:a7}{k:Nat}{f:ae}{name d:aB}{g:iZ}{body:List eH}{a:c8}{T U p X j Y oc:ab}{Z od:Option ae}
  {vF:Array (Option ab)} {N F:List aB} {G:Sp} (lk:K.lookup f=Xy ⟨oc,od,.func (cr name d g body a T U p X Z j Y),vF⟩) (rH:fe K j d=YP) (S:xf N F a)
  (z:∀h H Q E,G h H Q E->h.length=F.length)
  (qR:∀(A:bb)(c:List Env)(s:ag)(H:Hp)(h:List V)(Q:VK)(E:XK),oM k (A.deeper (envOfC d a s.heap.objs.size f j))->G h H Q E->
   ∃t,t_ (B_ C P w K D base N d a f j A c s H E) body t/\t { nx:=λ_ H'=>Q .non H',rt:=Q } (start N h) H):
  oV P w K D base C (k+1) f (cr name d g body a T U p X Z j Y) F G:=by
 refine⟨z,λA c s H args us h Q E L l hb r BU=>?_⟩;have hl:=z _ _ _ _ BU;have KX:K.In s.heap:=l.mod.kin.keeps λb o e=>(l.bs b o e).1;have M:s.heap.NoLimit:=l.mod.nolimit.keeps λb o e=>(l.bs b o e).1;have Hm:∀y∈F.zip us,a.names.lookup y.1=Xy .local\/(a.names.lookup y.1=Xy .cell/\((cH (s.heap.objs.size+1) a.names []).lookup y.1).isSome=YP):=λ⟨n,v⟩ hy=>by
  rcases S.par n (kH hy).1 with q|q
  ·exact .inl q
  ·exact .inr ⟨q,iG _ _ _ (.inl q)⟩
 refine codeAny_call_function L.depth (KX _ _ lk) rfl S.co S.gen rfl (PySem.W.codeRec_of KX rH) (hb _ _ _ _ ?_);refine gc l.tk (wpAny_newFunctionEnv_cells S.kind Hm λenv he s1 x rB=>?_);subst he;refine⟨M.keeps x.toInCall.keep,codeAny_func ?_⟩;obtain⟨t,ht,hq⟩:=qR A c s H h Q E (L.deeper _) BU;have I:Inv (B_ C P w K D base N d a f j A c s H E) [] (start N h) H s1:=zc2 S L.hd l hl r x rB;refine cB (ht [] s1 (start N h) H _ I hq) (λfl O m=>?_) λe O m=>m;have B:∀{i:St}{H':Hp}{v:V}{u:ab},Inv (B_ C P w K D base N d a f j A c s H E) [] i H' O->RelV v u->Q v H'->CE c P w H s Q u O:=
  λ{i H' v u}J R q=>⟨⟨v,H',J.os,J.bare,J.base,J.hok,R,q⟩,J.tk⟩
 cases fl with
 | ret u=>
  obtain⟨v,i,H',J,R,q⟩:=m;exact B J R q
 | next=>
  obtain⟨i,H',J,q⟩:=m;exact B (v:=V.non) (u:=gG) J rfl q
 | brk=>
  obtain⟨_,_,_,q⟩:=m;exact aj q
 | cont=>
  obtain⟨_,_,_,q⟩:=m;exact aj q
section
variable{X:Cx}{x:aB}{p pos:Pos}{e:aT}{es:List aT}{t:TA}{id T:String}{r:List V->Hp->VK->Prop}
def Kl(r:List V->Hp->VK->Prop)(t:TA):TE:=λσ H Q=>t σ H λvs H1=>r vs H1 Q
def MJ(c:oN X (.builtin id) r)(d:Gl X x)(f:X.mg x=XV)(g:bC x=Xy (.builtin id))(i:PA X (e::es) t)(j:x ≠ "__name__":=by decide)(k:s9 x:=by decide)
  (l:aR (e::es) X.env=(Y1,eval e X.env)::aR es X.env:=by rfl) (m:(backTo pos (aR es X.env)).any (·.1)=Y1:=by rfl):PE X (.Call (.Name x p) (e::es) [] pos) (Kl r t):=by intro a s b H Q I h;refine hU (By I d f g ?_ j k);exact PyProof.Rows.callWith_builtin1 (qc (i pos a s b H _ I h) λn o ⟨q,u,v,w,y⟩=>c a o b u q n Q v w y) l m
def MR(c:oN X (.type T) r)(d:Gl X x)(f:X.mg x=XV)(g:bC x=Xy (.type T))(i:PA X (e::es) t)(j:x ≠ "__name__":=by decide)(k:s9 x:=by decide)
  (l:aR (e::es) X.env=(Y1,eval e X.env)::aR es X.env:=by rfl) (m:(backTo pos (aR es X.env)).any (·.1)=Y1:=by rfl):PE X (.Call (.Name x p) (e::es) [] pos) (Kl r t):=by intro a s b H Q I h;refine hU (By I d f g ?_ j k);exact ez (qc (i pos a s b H _ I h) λn o ⟨q,u,v,w,y⟩=>c a o b u q n Q v w y) l m
end
end L2
namespace HT
open PySem PyProof.Rows
section
open PySem.SeqAt
open PySem.AutoSeq1 (wpAny_loadPart')
open PySem.MeetsSeq PySem.MeetsSeq2 PySem.MeetsSeq3
end
section
variable{prog:aP}{w:aZ}{A:bb}{E:ab->ag->Prop}{s:ag}
def cat_tup(u:IsTup s.heap t vs.toArray)(v:IsTup s.heap b ws.toArray)(h:vs≠[])
  (x:ws=[]->Q (.ref t) s) (y:ws≠[]->Q (.ref s.heap.objs.size) { s with heap:=s.heap.push { cls:=.type "tuple",data:=.seq (vs++ws).toArray } })
  (z:vs.length+ws.length<=Kw):av (az prog w) A (dU .Add (.ref t) (.ref b)) Q E s:=by
 obtain⟨⟨cls,i,data,j⟩,c,k,n,l⟩:=id u;obtain⟨⟨m,o,g,p⟩,d,q,r,a⟩:=id v;simp only at k l q a;subst k l q a;have e:vs.toArray++ws.toArray=(vs++ws).toArray:=by simp
 by_cases f:ws=[]
 ·exact jA ⟨_,c,rfl⟩ ⟨_,d,rfl⟩ kg lQ iH iw (hW _ _)
   (tuple_addW1 t b vs.toArray ws.toArray n r i o j p ⇑h (by simp[f])) ⟨c,d,x f⟩
 ·refine jA ⟨_,c,rfl⟩ ⟨_,d,rfl⟩ kg lQ iH iw (hW _ _)
   (tuple_addW2 t b vs.toArray ws.toArray n r i o j p ⇑h ⇑f (by rw[aL,aL];exact z)) ⟨c,d,?_⟩
  rw[e];exact y f
def sIx(n d:Nat):Option Int->Nat
 |none=>d
 |some v=>if v<0 then (v+(n:Int)).toNat else min v.toNat n
def sIx_none(n d:Nat):sIx n d XV=d:=rfl
def sIx_nat(n d k:Nat):sIx n d (Xy (k:Int))=min k n:=by show(if (k:Int)<0 then ((k:Int)+(n:Int)).toNat else min (k:Int).toNat n)=min k n;rw[Ko 'd',iA]
def zlI(n d:Nat)(b:d<=n)(o:Option Int):sIx n d o<=n:=by
 cases o with
 |none=>exact b
 | some v=>
  show(if v<0 then (v+(n:Int)).toNat else min v.toNat n)<=n;by_cases a:v<0
  ·rw[Kk a];lia
  ·rw[Ko a];exact Nat.min_le_right _ _
def SM(v:Int)(n d:Nat):(if v<0 then max (v+(n:Int)) 0 else min v (n:Int))=((sIx n d (Xy v):Nat):Int):=by
 show(if v<0 then max (v+(n:Int)) 0 else min v (n:Int))=(((if v<0 then (v+(n:Int)).toNat else min v.toNat n):Nat):Int);by_cases a:v<0
 ·simp only[Kk a];lia
 ·simp only[Ko a];lia
def zbb(lo a:Option Int)(n:Nat):gY lo a 1 (n:Int)=(((sIx n 0 lo:Nat):Int),((sIx n n a:Nat):Int)):=by
 have b:¬ ((1:Int)<0):=by lia
 unfold gY;simp only[b,if_false];refine lE ?_ ?_
 ·cases lo with
  |none=>rfl
  |some v=>exact SM v n 0
 ·cases a with
  |none=>rfl
  |some v=>exact SM v n n
def zaW(i j:Nat):fO (i:Int) (j:Int) 1=j-i:=by
 unfold fO;have a:(1:Int)>0:=by lia
 simp only[a,if_true,Int.ediv_one];split<;>lia
def VD(p:h9 v o)(h:Q o s):av (az prog w) A (Builtin.Slice.slicePartIndex v) Q E s:=by
 cases p with
 |none=>exact slicePart_none h
 |int i t=>exact slicePart_int h
def sliceApplied_gen{f:ae}{b c:ab}{lo a:Option Int}{n:Nat}{Q:Int×Int×Nat->ag->Prop}(g:s.heap.IsSliceOf f b c .none)(i:h9 b lo)(j:h9 c a)
  (h:Q (((sIx n 0 lo:Nat):Int),1,sIx n n a-sIx n 0 lo) s):av (az prog w) A (jM (.ref f) (pure (n:Int))) Q E s:=by obtain⟨k,d,l,e⟩:=id g;unfold jM Builtin.Slice.sliceFields;refine aa (aa (cb d e (x:=b) rfl (aa (cb d e (x:=c) rfl (aa (cb d e (x:=.none) rfl (ah ?_)))))));refine aa (slicePart_none ?_);show av _ _ (if ((1:Int)==0)=YP then _ else _) _ _ s;rw[Ko 'u'];refine aa (VD i (aa (VD j (aa (ah ?_)))));show av _ _ (match gY lo a 1 (n:Int) with|(lo,a)=>pure (lo,(1:Int),fO lo a 1)) _ _ s;rw[zbb lo a n];show av _ _ (pure (((sIx n 0 lo:Nat):Int),(1:Int),fO ((sIx n 0 lo:Nat):Int) ((sIx n n a:Nat):Int) 1)) _ _ s;rw[zaW];exact ah h
def zeI(xs:Array ab)(i k:Nat):((aV k).filterMap λ(m:Nat)=>xs[((i:Int)+(m:Int)*1).toNat]?).toArray=((xs.toList.drop i).take k).toArray:=by
 have e:(λ(m:Nat)=>xs[((i:Int)+(m:Int)*1).toNat]?)=λm=>xs[i+m]?:=by
  funext m;have:((i:Int)+(m:Int)*1).toNat=i+m:=by lia
  rw[this]
 rw[e];have:=pick_run xs i k;rw[List.filterMap_map] at this;have a:((λx=>xs[x]?)∘λx=>i+x)=λm=>xs[i+m]?:=rfl;rw[a] at this;rw[this]
def getItem_tuple_cut{t e:ae}{a:Array ab}{f g:ab}{lo b:Option Int}{Q:ab->ag->Prop}(c:IsTup s.heap t a)(i:s.heap.IsSliceOf e f g .none)(j:h9 f lo)(k:h9 g b)
  (l:¬ (sIx a.size 0 lo=0/\sIx a.size a.size b=a.size))
  (h:Q (.ref s.heap.objs.size) { s with heap:=s.heap.push { cls:=.type "tuple",data:=.seq ((a.toList.drop (sIx a.size 0 lo)).take (sIx a.size a.size b-sIx a.size 0 lo)).toArray } })
  (v:a.size<=Kw):av (az prog w) A (getItem (.ref t) (.ref e)) Q E s:=by
 have d:sizeOk (.seq ((a.toList.drop (sIx a.size 0 lo)).take (sIx a.size a.size b-sIx a.size 0 lo)).toArray):=by
  show((a.toList.drop (sIx a.size 0 lo)).take (sIx a.size a.size b-sIx a.size 0 lo)).toArray.size<=Kw;rw[aL,bU,cy,aG];lia
 have x:sIx a.size a.size b<=a.size:=zlI _ _ (aE _) b;obtain⟨n,o,p,y⟩:=id i;have r:s.TypeIs (.ref e) "slice":=⟨n,o,p⟩;unfold getItem
 try with_reducible refine bH ?_
 first|refine aa (ah ?_)|skip
 refine aa (wpAny_sequenceKey c.typeIs 'u' ?_);refine aa (cI (name:=iD "__getitem__") c.typeIs cK
  (cf cK c.typeIs lW ?_ (md _ _)))
 show av _ _ (jN (.ref t) >>= _) _ _ s;refine aa (tupleItemsOf_ c ?_);refine aa (i6 r ?_);rw[Kk 'u'];refine aa (sliceApplied_gen i j k ?_);have u:¬ ((((sIx a.size 0 lo:Nat):Int)==0&&(1:Int)==1&&(sIx a.size a.size b-sIx a.size 0 lo)==a.size)=YP):=by
  intro q;rw[aY,aY] at q;have z:((sIx a.size 0 lo:Nat):Int)=0:=eq_of_beq q.1.1;have B:sIx a.size a.size b-sIx a.size 0 lo=a.size:=eq_of_beq q.2;exact l ⟨by lia,by lia⟩
 show av _ _ (if (((sIx a.size 0 lo:Nat):Int)==0&&(1:Int)==1&&(sIx a.size a.size b-sIx a.size 0 lo)==a.size)=YP then _ else _) _ _ s;rw[Ko u,zeI]
 first
  |exact aa (m:=fX _) (cM (ah ⟨_,rfl,ah h⟩) d)
  |exact aa (m:=fX _) (cM (aa (ah (ah ⟨_,rfl,ah h⟩))) d)
  |exact aa (aa (m:=fX _) (cM (ah (ah ⟨_,rfl,ah h⟩)) d))
  |exact aa (aa (m:=fX _) (cM (ah ⟨_,rfl,ah h⟩) d))
end
end HT
namespace L2
open PySem PySem.Spec PyProof.Rows
abbrev TO:=St->Hp->(Option Int->Hp->Prop)->Prop
def PO(X:Cx)(e:Option aT)(t:TO):Prop:=
 ∀(Xa:List (ae×Obj))(s:ag)(σ:St)(H:Hp)(Q:Option Int->Hp->Prop),Inv X Xa σ H s->t σ H Q->
  av (az X.prog X.w) X.A (evalPart e X.env) (λu s'=>∃o H',Inv X Xa σ H' s'/\h9 u o/\Q o H') X.xe s
def zi6:TO:=λ_ H Q=>Q XV H
def Yz(t:TE):TO:=λσ H Q=>t σ H λx H1=>∃i,x=.int i/\Q (Xy i) H1
def Vv:∀{a:List ab},oF (ns.map V.int) a->lf a ns:=by
 induction ns with
 |nil=>intro a r;rw[gq] at r;cases r;exact .nil
 | cons n ns ih=>
  intro a r;rw[bB] at r;cases r with
  | cons r1 r2=>
   obtain⟨t,e⟩:=r1;subst e;exact .cons n t (ih r2)
section
variable{X:Cx}{e:aT}{te:TE}{lo hi:Option aT}{tl th:TO}{pos p2:Pos}
def ziJ:PO X XV zi6:=by intro a s b H Q I h;rw[evalPart_none];exact ah ⟨XV,H,I,.none,h⟩
def ziE(h:PE X e te):PO X (Xy e) (Yz te):=by intro a s b H Q I c;rw[evalPart_some];refine qc (h a s b H _ I c) λu k ⟨x,d,f,g,j⟩=>?_;obtain⟨i,rfl,q⟩:=j;obtain⟨t,rfl⟩:=g;exact⟨Xy i,d,f,.int i t,q⟩
def xR(X:Cx)(r:V->Option Int->Option Int->Hp->VK->Prop):Prop:=
 ∀(Xa:List (ae×Obj))(s:ag)(σ:St)(H:Hp)(x:V)(v vl vu:ab)(lo hi:Option Int)(sl:ae)(Q:VK),Inv X Xa σ H s->RelV x v->s.heap.IsSliceOf sl vl vu .none->h9 vl lo->h9 vu hi->r x lo hi H Q->
  ∃T id,typeLookup (.type T) "__getitem__" = pure (Xy (.builtin id))/\s.TypeIs v T/\av (az X.prog X.w) X.A (getItem v (.ref sl)) (EP X Xa σ Q) X.xe s
def xR.or(h:xR X r)(h':xR X r'):xR X (λx lo hi H Q=>r x lo hi H Q\/r' x lo hi H Q):=by
 intro a s b H x v c d lo hi f Q I g i j k q;rcases q with q|q
 ·exact h a s b H x v c d lo hi f Q I g i j k q
 ·exact h' a s b H x v c d lo hi f Q I g i j k q
noncomputable def tSl(r:V->Option Int->Option Int->Hp->VK->Prop)(te:TE)(tl th:TO):TE:=λσ H Q=>te σ H λx H1=>tl σ H1 λl H2=>th σ H2 λu H3=>r x l u H3 Q
def TU(j:xR X r)(k:PE X e te)(m:PO X lo tl)(n:PO X hi th):PE X (.Subscript e (.Slice lo hi XV p2) pos) (tSl r te tl th):=by intro a s d H Q I h;refine Subscript_ (qc (k a s d H _ I h) λv o ⟨x,p,t,y,z⟩=>?_);refine wpAny_Slice (qc (m a o d p _ t z) λf B ⟨l,C,D,E,F⟩=>qc (n a B d C _ D F) λg c ⟨u,i,G,J,K⟩=>?_);rw[evalPart_none];refine ah ?_;have L:Inv X a d i { c with heap:=c.heap.push { cls:=.type "slice",data:=.fields #[f,g,.none] } }:=G.kept (t':=c.toks) λb P q=>af _ q;obtain⟨T,R,M,N,O⟩:=j a { c with heap:=c.heap.push { cls:=.type "slice",data:=.fields #[f,g,.none] } } d i x v f g l u c.heap.objs.size Q L y (oB ..) E J K;show av (az X.prog X.w) X.A (subscriptTail e (.Slice lo hi XV p2) v (.ref c.heap.objs.size)) (EP X a d Q) X.xe { c with heap:=c.heap.push { cls:=.type "slice",data:=.fields #[f,g,.none] } };exact tail_any (ops:=[.ref c.heap.objs.size,v]) N M O (by with_unfolding_all rfl)
def Bt(xs:List V)(lo hi:Option Int):List V:=(xs.drop (HT.sIx xs.length 0 lo)).take (HT.sIx xs.length xs.length hi-HT.sIx xs.length 0 lo)
def VS(xs:List V)(lo hi:Option Int):(Bt xs lo hi).length<=xs.length:=by unfold Bt;rw[bU,cy];lia
def Qg(K:ai):V->Option Int->Option Int->Hp->VK->Prop:=λx lo hi H Q=>∃a xs,x=.ref a/\sC K H a xs/\
 ¬ (HT.sIx xs.length 0 lo=0/\HT.sIx xs.length xs.length hi=xs.length)/\∀p,H p=XV->Q (.ref p) (upd H p (.tup (Bt xs lo hi)))
def RT:xR X (Qg X.K):=by
 intro f s u H x v w y lo hi z Q I j k l m h;obtain⟨a,d,rfl,n,p,q⟩:=h;cases j;obtain⟨t,r,g,i⟩:=I.tuple n;have c:t.toArray.size=d.length:=by rw[aL];exact r.length.symm
 refine⟨"tuple",_,cK.lookup,g.typeIs,?_⟩;refine HT.getItem_tuple_cut g k l m (by rw[c];exact p) ?_ (by rw[c];exact i);rw[c];refine⟨.ref s.heap.objs.size,_,I.laid (t':=s.toks) (o:=.tup (Bt d lo hi)) (λb A q=>af _ q) (aE _) ?_,rfl,q _ (I.hok.fresh (aE _))⟩;exact⟨aH (VS d lo hi) i,_,(r.drop (HT.sIx d.length 0 lo)).take (HT.sIx d.length d.length hi-HT.sIx d.length 0 lo),oZ.new _ _⟩
def QQ(K:ai):R2:=λx y H Q=>∃a b xs ys,x=.ref a/\y=.ref b/\sC K H a xs/\sC K H b ys/\xs≠[]/\xs.length+ys.length<=Kw/\
 (ys=[]->Q (.ref a) H)/\(ys≠[]->∀p,H p=XV->Q (.ref p) (upd H p (.tup (xs++ys))))
def oF.nil_iff(r:oF xs us):us=[]↔xs=[]:=by
 cases r with
 |nil=>simp
 |cons _ _=>simp
def zhV:qZ X (dU .Add) (QQ X.K):=by intro f s B H x y v u Q I i j h;obtain⟨a,b,k,l,rfl,rfl,m,n,p,g,r,t⟩:=h;cases i;cases j;obtain⟨C,d,A,_⟩:=I.tuple m;obtain⟨D,c,p2,_⟩:=I.tuple n;refine HT.cat_tup A p2 (λz=>p (d.nil_iff.mp z)) (λz=>⟨.ref a,H,I,rfl,r (c.nil_iff.mp z)⟩) (λz=>?_) (by rw[<- d.length,<- c.length];exact g);refine⟨.ref s.heap.objs.size,_,I.laid (t':=s.toks) (o:=.tup (k++l)) (λb E q=>af _ q) (aE _) ?_,rfl,t (λw=>z (c.nil_iff.mpr w)) _ (I.hok.fresh (aE _))⟩;exact⟨by rw[au];exact g,_,d.append c,oZ.new _ _⟩
end
noncomputable def ixN(n:Nat)(i:Int):Option Nat:=if 0<=i then (if i<n then Xy i.toNat else XV) else if -(n:Int)<=i then Xy (i+n).toNat else XV
def atI{α:Type}(xs:List α)(i:Int):Option α:=(ixN xs.length i).bind λj=>xs[j]?
def Tj(h:ixN n i=Xy j):seqIndex? i n=Xy j/\j<n/\-(n:Int)<=i/\i<n:=by
 unfold ixN at h;by_cases b:0<=i
 ·rw[Kk b] at h;by_cases a:i<n
  ·rw[Kk a] at h;have e:i.toNat=j:=cu h;exact⟨by rw[mW b a,e],by lia,by lia,a⟩
  ·rw[Ko a] at h;cases h
 ·rw[Ko b] at h;by_cases a:-(n:Int)<=i
  ·rw[Kk a] at h;have e:(i+n).toNat=j:=cu h;exact⟨by rw[seqIndex_neg 'd' a,e],by lia,a,by lia⟩
  ·rw[Ko a] at h;cases h
def Ml{α:Type}{xs:List α}{i:Int}{v:α}(h:atI xs i=Xy v):∃j,seqIndex? i xs.length=Xy j/\xs[j]?=Xy v/\j<xs.length/\-(xs.length:Int)<=i/\i<xs.length:=by
 unfold atI at h;cases e:ixN xs.length i with
 |none=>rw[e] at h;cases h
 | some j=>
  rw[e] at h;obtain⟨a,b,c,d⟩:=Tj e;exact⟨j,a,h,b,c,d⟩
def atI_nat{α:Type}{xs:List α}{j:Nat}{v:α}(h:xs[j]?=Xy v):atI xs (j:Int)=Xy v:=by
 have a:j<xs.length:=(ao.mp h).1;have e:ixN xs.length (j:Int)=Xy j:=by
  unfold ixN;rw[Kk 'd',Kk 'd'];simp
 unfold atI;rw[e];exact h
def Sw(b:aT):Prop:=∀o i,subscripted b Y1 o i=operate [o,i] (getItem o i)
def Bl(X:Cx)(r:R2):Prop:=
 ∀(value slice:aT)(Xa:List (ae×Obj))(s:ag)(σ:St)(H:Hp)(x y:V)(v u:ab)(Q:VK),Inv X Xa σ H s->RelV x v->RelV y u->r x y H Q->
  subscripted slice Y1 v u=operate [v,u] (getItem v u)->av (az X.prog X.w) X.A (subscriptTail value slice v u) (EP X Xa σ Q) X.xe s
def K1(X:Cx)(id:String)(r:V->List V->Hp->VK->Prop):Prop:=
 ∀(Xa:List (ae×Obj))(s:ag)(σ:St)(H:Hp)(x:V)(xs:List V)(v:ab)(us:List ab)(Q:VK),Inv X Xa σ H s->RelV x v->oF xs us->r x xs H Q->
  av (az X.prog X.w) X.A (call (.builtin id) (v::us)) (EP X Xa σ Q) X.xe s
section
variable{X:Cx}{a b:aT}{ta tb:TE}{pos:Pos}
def Bl.or(h:Bl X r)(h':Bl X r'):Bl X (λx y H Q=>r x y H Q\/r' x y H Q):=by
 intro c d e s f H x y v u Q I g i q j;rcases q with q|q
 ·exact h c d e s f H x y v u Q I g i q j
 ·exact h' c d e s f H x y v u Q I g i q j
def Yu(d:Bl X r)(e:PE X a ta)(f:PE X b tb)(g:Sw b):PE X (.Subscript a b pos) (Gv r ta tb):=by intro c s i H Q I h;exact Subscript_ (K6 e f I h λv u j x y k l m n q=>d a b c j i k x y v u Q l m n q (g _ _))
def Qh(K:ai):R2:=λx y H Q=>∃p xs i v,x=.ref p/\y=.int i/\rn K H p xs/\atI xs i=Xy v/\Q v H
def PX(K:ai):R2:=λx y H Q=>∃p xs i v,x=.ref p/\y=.int i/\sC K H p xs/\atI xs i=Xy v/\Q v H
def P5:R2:=λx y H Q=>∃z i c,x=.str z/\y=.int i/\z.length<=Kw/\atI z.cps.toList i=Xy c/\Q (.str ⟨#[c]⟩) H
def pN:Bl X (Qh X.K):=by
 intro f g c s m H x y v u Q I B C h n;obtain⟨p,P,i,z,rfl,rfl,D,E,q⟩:=h;cases B;obtain⟨t,rfl⟩:=C;obtain⟨F,r,k,R⟩:=I.list D;obtain⟨j,e,G,S,J,L⟩:=Ml E;obtain⟨w,o,M⟩:=r.get G;have N:=r.length;have T:=Eh;have d:EP X c m Q w s:=⟨z,H,I,M,q⟩;by_cases A:0<=i
 ·have l:i.toNat=j:=by
   rw[mW A L] at e;exact cu e
  exact item_listR k.isList A 'd' (by rw[l];simpa using o) d n
 ·have l:(i+(F.toArray.size:Int)).toNat=j:=by
   rw[seqIndex_neg 'd' J] at e;rw[aL,<- N];exact cu e
  exact kQ (x:=w) k.isList.typeIs slot_list_getitem.lookup
   (wpAny_getItem_list_neg (Q:=λr O=>r=w/\EP X c m Q r O) k.isList 'd' (by rw[aL]<;>lia) 'd' (by rw[l];simpa using o) ⟨rfl,d⟩) n
def pQ:Bl X (PX X.K):=by
 intro d e c s g H x y v u Q I l m h n;obtain⟨p,J,i,z,rfl,rfl,o,A,q⟩:=h;cases l;obtain⟨t,rfl⟩:=m;obtain⟨L,r,k,M⟩:=I.tuple o;obtain⟨j,B,C,N,O,P⟩:=Ml A;obtain⟨w,D,E⟩:=r.get C;have F:=r.length;have R:=Eh;have f:EP X c g Q w s:=⟨z,H,I,E,q⟩;exact kQ (x:=w) k.typeIs cK.lookup
  (getItem_tuple (j:=j) (Q:=λr G=>r=w/\EP X c g Q r G) k 'd' 'd' (by rw[aL,<- F];exact B) ⇑D ⟨rfl,f⟩) n
def Z0:Bl X P5:=by
 intro d e f s C H x y v u Q I k l h m;obtain⟨z,i,c,rfl,rfl,D,n,q⟩:=h;obtain⟨t,rfl⟩:=k;obtain⟨E,rfl⟩:=l;obtain⟨j,g,o,F,p,r⟩:=Ml n;have w:z.cps.toList.length=z.length:=by simp[Str.length]
 rw[w] at g p r;have G:=Eh;exact tail_any (typeIs_str s z t) slot_str_getitem.lookup (getItem_str (c:=c) (by
  have A:decide (i < -(2 ^ 63:Int))=Y1:=decide_eq_false 'd';have B:decide (i ≥ 2 ^ 63)=Y1:=decide_eq_false 'd';rw[A,B,Bool.or_false]) (by rw[g];simpa using o) ⟨.str ⟨#[c]⟩,H,I.tok _,⟨_,rfl⟩,q⟩) m
def Wq(K:ai):R2:=λx y H Q=>Qh K x y H Q\/PX K x y H Q\/P5 x y H Q
def zla:Bl X (Wq X.K):=pN.or (pQ.or Z0)
def zb3(c:List ab)(n j:Nat)(u:ab):bF (·.setIfInBounds j u) { cls:=.type "list",data:=.seq c.toArray n } = { cls:=.type "list",data:=.seq (c.set j u).toArray n }:=by simp[bF]
def Inv.lst{c:List (ae×Obj)}{σ:St}{H:Hp}{s:ag}{p:ae}{xs:List V}(I:Inv X c σ H s)(h:H p=Xy (.lst xs)):
  ∃(d:List ab)(n:Nat),oF xs d/\s.heap.get? p=Xy { cls:=.type "list",data:=.seq d.toArray n }/\xs.length<=Kw:=by obtain⟨z,d,n,r,e⟩:=I.hok p _ h;exact⟨d,n,r,e,z⟩
def Inv.lstUpd{c:List (ae×Obj)}{σ:St}{H:Hp}{s:ag}{p:ae}{xs d:List V}{i its':List ab}{n g:Nat}{f:Obj->Obj}(I:Inv X c σ H s)(h:H p=Xy (.lst xs))
  (k:s.heap.get? p=Xy { cls:=.type "list",data:=.seq i.toArray n }) (j:f { cls:=.type "list",data:=.seq i.toArray n } = { cls:=.type "list",data:=.seq its'.toArray g }) (r:oF d its') (l:d.length<=Kw) (t:Nat) (o:0<t:=by first|exact cS _|exact Inv.tk ‹_›|assumption|lia):
  Inv X c σ (upd H p (.lst d)) { s with heap:=s.heap.update p f,toks:=t }:=by
 have e:(s.heap.update p f).get? p=Xy { cls:=.type "list",data:=.seq its'.toArray g }:=by
  rw[cm f k (by rw[j]<;>rfl),j]
 refine I.write (x:=p) (e:=p) (by rw[h];trivial) (.inl rfl) (λb u m q=>(cC _ _ (bP m)).trans q) ⟨_,e⟩ ?_;exact⟨l,its',g,r,e⟩
def YK:V->V->V->Hp->(Hp->Prop)->Prop:=λo i v H Q=>∃p xs k j,o=.ref p/\i=.int k/\H p=Xy (.lst xs)/\ixN xs.length k=Xy j/\Q (upd H p (.lst (xs.set j v)))
def zg6:Qj X YK:=by
 intro c s A H o i v J K u Q I B C D h;obtain⟨p,E,k,j,rfl,rfl,l,F,q⟩:=h;cases B;obtain⟨t,rfl⟩:=C;obtain⟨m,n,r,e,G⟩:=I.lst l;obtain⟨d,L,w,x⟩:=Tj F;have f:=r.length;have M:=Eh;have y:Inv X c A (upd H p (.lst (E.set j v))) { s with heap:=s.heap.update p (bF (·.setIfInBounds j u)) }:=
  I.lstUpd l e (zb3 m n j u) (r.set D j) (by rw[cQ];exact G) s.toks
 by_cases z:0<=k
 ·have g:k.toNat=j:=by
   rw[mW z x] at d;exact cu d
  exact PySem.W.ki_setAt e z 'd' (by rw[aL,<- f];exact x) (by rw[g];exact⟨_,y,q⟩)
 ·have g:(k+(m.toArray.size:Int)).toNat=j:=by
   rw[seqIndex_neg 'd' w] at d;rw[aL,<- f];exact cu d
  exact PySem.W.ki_setBack e 'd' (by rw[aL,<- f];exact w) 'd' (by rw[g];exact⟨_,y,q⟩)
def z7G(lo c:Option Int)(n:Nat):(sliceBounds lo c XV n).1=((HT.sIx n 0 lo:Nat):Int)/\(sliceBounds lo c XV n).2.1=((HT.sIx n n c:Nat):Int)/\(sliceBounds lo c XV n).2.2=1:=by
 refine⟨?_,?_,rfl⟩
 ·cases lo with
  |none=>simp[sliceBounds,HT.sIx]
  | some i=>
   simp only[sliceBounds,HT.sIx,m7,show(1:Int)>0 by decide,if_true];by_cases h:i<0
   ·simp only[h,if_true]<;>lia
   ·simp only[h,if_false]<;>lia
 ·cases c with
  |none=>simp[sliceBounds,HT.sIx]
  | some i=>
   simp only[sliceBounds,HT.sIx,m7,show(1:Int)>0 by decide,if_true];by_cases h:i<0
   ·simp only[h,if_true]<;>lia
   ·simp only[h,if_false]<;>lia
def z6L(c:List ab)(lo d:Option Int):slicePick c.toArray lo d XV=((c.drop (HT.sIx c.length 0 lo)).take (HT.sIx c.length c.length d-HT.sIx c.length 0 lo)).toArray:=by obtain⟨e,f,g⟩:=z7G lo d c.toArray.size;unfold slicePick;rw[e,f,g];simp only[sliceRange_one,pick_run,aL]<;>rfl
def P_(K:ai):V->Option Int->Option Int->Hp->VK->Prop:=λx lo hi H Q=>∃a xs,x=.ref a/\rn K H a xs/\∀p,H p=XV->Q (.ref p) (upd H p (.lst (Bt xs lo hi)))
def Ts:xR X (P_ X.K):=by intro g s t H x v u w e f y Q I j k l m h;obtain⟨a,c,rfl,n,q⟩:=h;cases j;obtain⟨z,r,i,p⟩:=I.list n;have d:=r.length;refine⟨"list",_,slot_list_getitem.lookup,i.isList.typeIs,?_⟩;refine wpAny_getItem_list_slice i.isList k l m .none 'k' ?_ (by rw[aL]<;>lia);rw[z6L,<- d];refine⟨.ref s.heap.objs.size,_,I.laid (t':=s.toks) (o:=.lst (Bt c e f)) (λb A q=>af _ q) (aE _) ?_,rfl,q _ (I.hok.fresh (aE _))⟩;exact⟨aH (VS c e f) p,_,0,(r.drop (HT.sIx c.length 0 e)).take (HT.sIx c.length c.length f-HT.sIx c.length 0 e),aI _ rfl⟩
def oN.or{f:ab}{r d:List V->Hp->VK->Prop}(h:oN X f r)(h':oN X f d):oN X f (λxs H Q=>r xs H Q\/d xs H Q):=by
 intro c s e H xs g Q I i q;rcases q with q|q
 ·exact h c s e H xs g Q I i q
 ·exact h' c s e H xs g Q I i q
def z7y:oN X (.type "list") (λxs H Q=>∃p f,xs=[.ref p]/\(rn X.K H p f\/sC X.K H p f)/\∀l,H l=XV->Q (.ref l) (upd H l (.lst f))):=by
 intro j s C H xs E Q I r h;obtain⟨p,f,rfl,hq,q⟩:=h;obtain⟨u,rfl,D⟩:=uO r;cases D;have k:∀(d:List ab),oF f d->f.length<=Kw->∀(c:a7)(g:Nat),(∀b B,s.heap.get? b=Xy B->c.get? b=Xy B)->
   c.get? s.heap.objs.size=Xy { cls:=.type "list",dict:=XV,data:=.seq d.toArray g,slots:=#[] }->EP X j C Q (.ref s.heap.objs.size) { s with heap:=c }:=λd i m c g t e=>
  ⟨.ref s.heap.objs.size,_,I.laid (t':=s.toks) t (aE _) (show oP X.prog X.w _ c _ (.lst f) from ⟨m,d,g,i,e⟩),rfl,q _ (I.hok.fresh (aE _))⟩
 rcases hq with hq|hq
 ·obtain⟨d,i,x,m⟩:=I.list hq;have v:=i.length;obtain⟨o,y,z,n,A⟩:=x.isList;exact call_list_seq p (.inl rfl) y z A (λc g t e=>k d i m c g t e) (by simp only[aL]<;>lia)
 ·obtain⟨d,i,x,m⟩:=I.tuple hq;have v:=i.length;obtain⟨o,y,z,n,A⟩:=x;exact call_list_seq p (.inr rfl) y z A (λc g t e=>k d i m c g t e) (by simp only[aL]<;>lia)
def z75:oN X (.type "tuple") (λxs H Q=>∃p d,xs=[.ref p]/\((rn X.K H p d/\∀l,H l=XV->Q (.ref l) (upd H l (.tup d)))\/(sC X.K H p d/\Q (.ref p) H))):=by
 intro c s m H xs A Q I r h;obtain⟨p,d,rfl,h⟩:=h;obtain⟨u,rfl,x⟩:=uO r;cases x;rcases h with⟨g,q⟩|⟨g,q⟩
 ·obtain⟨i,j,k,n⟩:=I.list g;have t:=j.length;refine call_tuple_list k.isList (λf y=>?_) (by simp only[aL]<;>lia);have v:Inv X c m H { s with heap:=f }:=I.kept (t':=s.toks) y;have z:Inv X c m (upd H f.objs.size (.tup d)) { s with heap:=f.push { cls:=.type "tuple",data:=.seq i.toArray } }:=
   v.laid (t':=s.toks) (λb o e=>af _ e) (aE _) (show oP X.prog X.w _ _ _ (.tup d) from ⟨n,i,j,oZ.new _ _⟩)
  exact⟨.ref f.objs.size,_,z,rfl,q _ (v.hok.fresh (aE _))⟩
 ·obtain⟨i,j,k,n⟩:=I.tuple g;exact call_tuple_same k ⟨.ref p,H,I,rfl,q⟩
def We(K:ai)(T:String)(x:V)(H:Hp):Prop:=match x with
 |.str _=>T = "str"
 |.int _=>T = "int"
 | .ref p=>(T = "list"/\∃xs,rn K H p xs)\/(T = "tuple"/\∃o,K.lookup p=Xy o/\o.cls=.type "tuple"/\o.dict=XV) \/
   (T = "dict"/\((∃i_,H p=Xy (.dK i_)) \/ ∃i_,H p=Xy (.dT i_)))\/(T = "set"/\∃S n,H p=Xy (.set S n))
 |_=>False
def zkC(I:Inv X Xa σ H s)(r:RelV x v)(g:We X.K T x H):
  s.TypeIs v T/\∀a,v=.ref a->∃k,s.heap.get? a=Xy k/\k.dict=XV:=by
 cases x with
 | str z=>
  obtain⟨t,rfl⟩:=r;cases (show T = "str" from g);exact⟨typeIs_str s z t,λ_ e=>nomatch e⟩
 | int i=>
  obtain⟨t,rfl⟩:=r;cases (show T = "int" from g);exact⟨typeIs_int s i t,λ_ e=>nomatch e⟩
 | ref p=>
  cases r;rcases g with⟨rfl,w,m⟩|⟨rfl,o,d,q,h⟩|⟨rfl,d⟩|⟨rfl,S,n,d⟩
  ·obtain⟨y,_,l,_⟩:=I.list m;refine⟨l.isList.typeIs,λa e=>?_⟩;cases e;obtain⟨o,n,e,c,h,_⟩:=l;exact⟨o,e,h⟩
  ·refine⟨⟨o,I.kIn p o d,q⟩,λa e=>?_⟩;cases e;exact⟨o,I.kIn _ o d,h⟩
  ·have z:∃o,s.heap.get? p=Xy o/\o.ExactDict:=by
    rcases d with⟨u,d⟩|⟨u,d⟩
    ·obtain⟨_,_,_,_,o,_,_,e,f,_⟩:=I.hok p _ d;exact⟨o,e,f⟩
    ·obtain⟨_,_,_,_,o,_,_,e,f,_⟩:=I.hok p _ d;exact⟨o,e,f⟩
   obtain⟨o,e,f⟩:=z;refine⟨⟨o,e,f.1⟩,λa j=>?_⟩;cases j;exact⟨o,e,f.2.1⟩
  ·obtain⟨o,_,_,_,e,f,_⟩:=I.hok p _ d;refine⟨⟨o,e,f.1⟩,λa j=>?_⟩;cases j;exact⟨o,e,f.2.1⟩
 |_=>exact aj g
def tBM(K:ai)(T:String)(r:V->List V->Hp->VK->Prop)(to:TE)(t:TA):TE:=λσ H Q=>to σ H λx H1=>We K T x H1/\t σ H1 λxs H2=>r x xs H2 Q
variable{o e:aT}{es:List aT}{to:TE}{t:TA}{name:aB}{apos qh:Pos}{T id:String}{r:V->List V->Hp->VK->Prop}
def IA(k:PlainAttrs T)(d:Slot T name id)(l:typeOf (.builtin id)=pure (.type "method_descriptor"))(m:K1 X id r)(n:PE X o to)(p:PA X (e::es) t)
  (q:attributeBase o name X.env (eval o X.env)=eval o X.env:=by rfl)
  (u:((backTo qh (aR (e::es) X.env)).all (λx=>!x.1)&&(backToKw qh (keywordEach [] X.env)).all (λx=>x.1.isSome)
   && decide ((e::es).length+([]:List fT).length+(if ([]:List fT).isEmpty then 0 else 1)<30))=YP:=by rfl)
  (w:(apos.endLine==qh.line)=YP:=by rfl) (y:aR (e::es) X.env=(Y1,eval e X.env)::aR es X.env:=by rfl) (z:(backTo qh (aR es X.env)).any (·.1)=Y1:=by rfl):
  PE X (.Call (.Attribute o name apos) (e::es) [] qh) (tBM X.K T r to t):=by intro c s f H Q I h;refine wpAny_Call_method_late q u w rfl (qc (n c s f H _ I h) λv A ⟨x,B,g,i,C,D⟩=>?_);obtain⟨E,F⟩:=zkC g i C;refine⟨T,id,k,d,l,E,F,?_⟩;have j:=p qh c A f B _ g D;rw[y] at j ⊢;refine Calls.callWith_builtin (by show(Y1||(backTo qh (aR es X.env)).any (·.1))=Y1;rw[z]<;>rfl) (Calls.evalArgs_plain ?_);exact qc j λG J ⟨L,M,N,O,P⟩=>m c J f M x L v G Q N i O P
end
def PK(X:Cx)(id:String)(r:V->List V->Hp->VK->Prop):Prop:=
 ∀(Xa:List (ae×Obj))(s:ag)(σ:St)(H:Hp)(x:V)(xs:List V)(v:ab)(us:List ab)(Q:VK),Inv X Xa σ H s->RelV x v->oF xs us->r x xs H Q->
  av (az X.prog X.w) X.A (call (.builtin id) (v::us)) (EP X Xa σ Q) X.xe s
def oF.one:∀{x:V}{a:List ab},oF [x] a->∃u,a=[u]/\RelV x u
 |_,_,.cons r .nil=>⟨_,rfl,r⟩
theorem oF.eraseIdx:∀{xs:List V}{a:List ab}(i:Nat),oF xs a->oF (xs.eraseIdx i) (a.eraseIdx i)
 |_,_,_,.nil=>.nil
 |_,_,0,.cons _ t=>t
 |_,_,i+1,.cons r t=>.cons r (oF.eraseIdx i t)
def oF.reverse{xs:List V}{a:List ab}(h:oF xs a):oF xs.reverse a.reverse:=by
 induction h with
 |nil=>exact .nil
 |cons r t ih=>rw[mJ,mJ];exact oF.append ih (.cons r .nil)
theorem Vb{α:Type}:∀(l:List α)(i:Nat),(l.eraseIdx i).length<=l.length
 |[],_=>aE _
 |_::_,0=>dR _
 |_::r,i+1=>m8 (Vb r i)
section
variable{X:Cx}{Xa:List (ae×Obj)}{σ:St}{H:Hp}{s:ag}{l:ae}{xs ys:List V}
def Inv.lset{a its':List ab}{n:Nat}{f:Array ab->Array ab}{t':Nat}(I:Inv X Xa σ H s)(b:H l=Xy (.lst xs))
  (e:s.heap.get? l=Xy { cls:=.type "list",data:=.seq a.toArray n }) (c:f a.toArray=its'.toArray) (d:oF ys its') (g:ys.length<=Kw) (j:0<t':=by first|exact cS _|exact Inv.tk ‹_›|assumption|lia):
  Inv X Xa σ (upd H l (.lst ys)) { s with heap:=s.heap.update l (bF f),toks:=t' }:=by have q:=PySem.IsL.update e f;rw[c] at q;refine I.write (x:=l) (e:=l) (by rw[b];exact trivial) (.inl rfl) (λk u h i=>(cC s.heap (bF f) (bP h)).trans i) ⟨_,q⟩ ?_;exact⟨g,its',_,d,q⟩
def Inv.lnew(I:Inv X Xa σ H s)(a:oF ys d_)(b:ys.length<=Kw)(c:0<t':=by first|exact cS _|exact Inv.tk ‹_›|assumption|lia):
  Inv X Xa σ (upd H s.heap.objs.size (.lst ys)) { s with heap:=s.heap.push { cls:=.type "list",data:=.seq d_.toArray },toks:=t' }:=
 I.laid (λ_ _ q=>af _ q) (aE _) ⟨b,d_,0,a,aI _ rfl⟩
def Inv.fresh(I:Inv X Xa σ H s):H s.heap.objs.size=XV:=I.hok.fresh (aE _)
def Inv.lstM(I:Inv X Xa σ H s)(b:H l=Xy (.lst xs)):xs.length<=Kw/\∃(a:List ab)(n:Nat),oF xs a/\xs.length=a.length/\s.heap.get? l=Xy { cls:=.type "list",data:=.seq a.toArray n }:=by obtain⟨z,a,n,r,e⟩:=I.hok l _ b;exact⟨z,a,n,r,r.length,e⟩
def zfR{n:Nat}(h:n<=Kw):fY n=Y1:=by unfold fY;exact decide_eq_false 'd'
end
section
variable{X:Cx}
def zhn:V->List V->Hp->VK->Prop:=λx vs H Q=>∃l xs y,x=.ref l/\vs=[y]/\H l=Xy (.lst xs)/\xs.length<Kw/\Q .non (upd H l (.lst (xs++[y])))
def U7:PK X "list.append" zhn:=by intro a s i H x j v k Q I d f h;obtain⟨l,m,y,rfl,rfl,b,o,q⟩:=h;cases d;obtain⟨u,rfl,g⟩:=f.one;obtain⟨z,c,n,r,p,e⟩:=I.lstM b;refine call_meets lg ⟨_,e,rfl⟩ F.entry_list_append (F.args_list_append_2 _ _) (PySem.list_append l c.toArray n u (by rw[aL];lia)) ⟨e,?_⟩;refine⟨.non,_,I.lset (its':=c++[u]) b e 'k' (r.append (.cons g .nil)) ?_,rfl,q⟩;rw[au,fz];lia
def Zl:V->List V->Hp->VK->Prop:=λx vs H Q=>∃l xs i k y,x=.ref l/\vs=[.int i]/\H l=Xy (.lst xs)/\-(2 ^ 63)<=i/\i<2 ^ 63/\seqIndex? i xs.length=Xy k/\xs[k]?=Xy y/\Q y (upd H l (.lst (xs.eraseIdx k)))
def zgn:PK X "list.pop" Zl:=by
 intro b s E H x G v J Q I d f h;obtain⟨l,g,i,k,y,rfl,rfl,c,j,m,o,p,q⟩:=h;cases d;obtain⟨u,rfl,A⟩:=f.one;obtain⟨t,rfl⟩:=A;obtain⟨z,a,n,r,B,e⟩:=I.lstM c;obtain⟨w,C,D⟩:=r.get p;refine call_meets me ⟨_,e,rfl⟩ F.entry_list_pop (F.args_list_pop_2 _ _)
  (MeetsSeq.list_pop_at l a.toArray n i t k w (fitsIndex_both j m) (by rw[aL,<- B];exact o) (by rw[<- cX];exact C) (by rw[aL];lia)) ⟨e,?_⟩
 refine⟨y,_,I.lset (its':=a.eraseIdx k) c e ?_ (r.eraseIdx k) ?_,D,q⟩
 ·show a.toArray.eraseIdxIfInBounds k=(a.eraseIdx k).toArray;rw[List.eraseIdxIfInBounds_toArray]
 ·have:=Vb g k;lia
end
section
end
end L2
namespace Att
open PySem PySem.W PySem.Calls PyProof.Rows
def z5f:∀(c:List Int)(d:List ab),WellAll P h d (c.map n9)->lf d c:=by
 intro c
 induction c with
 | nil=>
  intro d w;rw[gq] at w;cases w;exact .nil
 | cons n c ih=>
  intro d w;rw[bB] at w;cases w with
  | cons a b=>
   cases a;exact .cons _ _ (ih _ b)
def zcz{l:mh}{n:Nat}(o:l.most=Xy n){P:i3}{h:a7}{args:List WData}{c:List ab}
  (j:l.row.toRowW.claim.pre args=YP) (p:WellAll P h c args):
  ∃a k b,c=[fR a]/\args=[WData.list (b.map n9)]/\h.get? a=Xy { cls:=.type "list",data:=.seq k.toArray }/\lf k b/\b.length<=n:=by
 have i:WShape.hasAll [] args [.list .int]=YP:=(pre_splitW j).1;have m:l.pre.holds [] { args:=args } = YP:=(pre_splitW j).2;obtain⟨d,r,rfl,s,t⟩:=hasAllW_cons i;obtain rfl:=hasAllW_nil t;obtain⟨w,rfl,u⟩:=hasW_list s;obtain⟨b,rfl⟩:=items_int u;have e:b.length<=n:=by
  unfold OpenLaw.pre at m;have f:(WTm.not (.lt (.lit (.int (n:Int))) (.len (.arg 0)))).holds [] { args:=[.list (b.map .int)] } = YP:=by
   have f:=(holds_andW m).1;rw[o] at f;exact f
  have g:=condW_of f (w_not (w_lt w_lit (w_len_list (w_arg rfl))));rw[aq] at g;refine Nat.le_of_not_lt λq=>?_;have v:(n:Int)<((b.length:Nat):Int):=by lia
  first
   |(rw[decide_eq_true v] at g;exact absurd g 'u')
   |(simp at g;lia)
 cases p with
 | cons w1 w2=>
  cases w2;cases w1 with
  |list ho sv=>exact⟨_,_,b,rfl,rfl,ho,z5f b _ sv,e⟩
def zcd(l:mh)(args:List WData):l.row.toRowW.claim.post args (.bool YP) args=YP:=
 postW_of (r:=l.row.toRowW) (X:=(YP==YP))
  (show WShape.has [] (.bool YP) .bool=YP by first|rfl|decide|simp[WShape.has,WShape.arms,WShape.armsAll])
  (show(WTm.eq .res (.lit (.bool YP))).value [] { args:=args,res:=Xy (.bool YP),after:=args } = Xy (.bool (YP==YP)) from w_eq_bool (w_res rfl) w_lit) rfl
theorem Vt:∀a:List Int,lR (a.map jO)=a.map n9
 |[]=>by simp[lR]
 |n::a=>by simp only[bB,lR,mi];rw[Vt a]
def attach_call{l:mh}{n:Nat}{q:aP}{loose:List aB}{XP:(aB->Option ab)->a7->Prop}{u:aZ->a7->Prop}{d:DefRec}{α:Type}{Yf:ag->α}{Ya:aZ->α}
  (F:l.most=Xy n) (H:d.params.defaults=[]) (I:∀w s,Yf s=Ya w->u w s.heap) (J:∀w h h',u w h->(∀b o,h.get? b=Xy o->h'.get? b=Xy o)->u w h')
  (k:∀(w:aZ)(c e:ag)(v z:aB->Option ab)(m:ae)(o:Obj)(A x g:ab)(a:ae)(j:List ab)(p:List Int),
   Ground q loose [] XP w c v z e.heap->u w e.heap->
   e.heap.get? m=Xy o->o.data=.func (docDef d.name d.params d.body d.scope A x g)->e.heap.CodeRec x d.name->v d.name=Xy (.ref m)->
   e.heap.get? a=Xy { cls:=.type "list",data:=.seq j.toArray }->lf j p->p.length<=n->e.gens = #[]->0<e.toks->
   codeAny (az l.prog w) callerA (.call (.ref m) ⟨[.ref a],[]⟩) (λr y=>r=.ok (.ret (.bool YP))/\OldK e.heap y.heap/\y.os=e.os/\ip y.gens) e):
  WalkX q loose XP (λs=>(Yf s,decide (0<s.toks))) (λw=>(Ya w,YP)) l.row.toRowW d [] (λf j=>PySem.call f j):=by
 intro w c e v z G Y m o A x g K M N O P B Q R C D S L T E U V ET;obtain rfl:K=.none:=Dflts.none B H;obtain rfl:M=.none:=Dflts.noKw B;have Z:Yf c=Ya w:=congrArg Prod.fst Y;have Y2:0<c.toks:=of_decide_eq_true (congrArg Prod.snd Y);obtain⟨a,j,p,rfl,rfl,Dg,i,t⟩:=zcz F T V;have L':Laid l.row.toRowW.records w c e [mi (ef (p.map jO))] [.ref a] S:=by
  rw[mi,Vt];exact L
 have rB:0<e.toks:=be Y2 (PySem.W.X.script_toks L' rfl);refine enter_call (ft (k w c e v z m o A x g a j p G (J _ _ _ (I w c Z) L.keeps) N (fd_plain O) P Q Dg i t R rB) λr y hq=>?_);obtain⟨rfl,h2,h3,h4⟩:=hq;exact⟨.inl ⟨.bool YP,.bool YP,[],rfl,λ_=>rfl,.bool YP,zcd l _,λ_=>⟨eo,λ_ hm=>(nomatch hm)⟩⟩,h2,h3,h4⟩
section
end
end Att
namespace L2
open PySem PySem.Spec PyProof.Rows
theorem UP:∀{a:List ab}{b:List Int},lf a b->oF (b.map V.int) a
 |_,_,.nil=>.nil
 |_,_,.cons n t h=>.cons ⟨t,rfl⟩ (UP h)
noncomputable def yE(s:eH):iZ:=match s with
 |.FunctionDef _ a _ _ _ _ _ _ _ _=>a
 |_=>{ posonlyargs:=[],args:=[],vararg:=XV,kwonlyargs:=[],kw_defaults:=[],kwarg:=XV,defaults:=[] }
def vE(s:eH):List eH:=match s with
 |.FunctionDef _ _ b _ _ _ _ _ _ _=>b
 |_=>[]
def rR(s:eH):c8:=match s with
 |.FunctionDef _ _ _ _ _ _ sc _ _ _=>sc
 |_=>{ kind:=.function,names:=[],isGenerator:=Y1,isCoroutine:=Y1 }
abbrev yN:yr:=λ_ _ _ _ _ _=>False
abbrev E0:XK:=λ_ _ _=>False
def QE:IZ yN X E0:=λ_ _ _ _ _ _ _ h=>h.elim
structure Fun(K:ai)(x qual:aB)(st:eH)(f:ae)(fd:fc):Prop where
 ex:∃(oc:ab)(od:Option ae)(kV doc pm:ab)(an:Option ae)(qD ct:ab)(vF:Array (Option ab)),
  fd=cr x qual (yE st) (vE st) (rR st) .none kV doc pm an qD ct/\K.lookup f=Xy ⟨oc,od,.func fd,vF⟩/\fe K qD qual=YP
 kp:de K (.ref f)=YP
section
variable{P:aP}{w:aZ}{K:ai}{mg:aB->Option ab}{base:a7}
def Fun.ok{x b:aB}{d:eH}{f:ae}{l:fc}{N g:List aB}{k:Nat}{i:Sp}(F:Fun K x b d f l)(S:xf N g (rR d))(j:∀c H Q E,i c H Q E->c.length=g.length)
  (m:∀(e:ab)(A:bb)(a:List Env)(s:ag)(H:Hp)(c:List V)(Q:VK)(E:XK),oM k (A.deeper (envOfC b (rR d) s.heap.objs.size f e))->i c H Q E->
   ∃t,t_ (B_ yN P w K mg base N b (rR d) f e A a s H E).nox (vE d) t/\t { nx:=λ_ H'=>Q .non H',rt:=Q } (start N c) H):oV P w K mg base yN (k+1) f l g i:=by obtain⟨v,y,z,n,B,C,e,D,G,rfl,o,p⟩:=F.ex;refine qr o p S j λA a s H c Q E r u=>?_;obtain⟨t,h,q⟩:=m e A a s H c Q E r u;exact⟨t,h.nox,q⟩
def Fun.binds{x a:aB}{c:eH}{f:ae}{m:fc}{d:List aB}(F:Fun K x a c f m)
  (h:∀(e b g:ab)(i:Option ae)(j k:ab)(l:List ab),l.length=d.length->bindArgs (cr x a (yE c) (vE c) (rR c) .none e b g i j k) ⟨l,[]⟩=pure (d.zip l)):Binds K m d []:=by obtain⟨n,o,e,b,g,i,j,k,p,rfl,q,r⟩:=F.ex;exact .all (h e b g i j k)
def LO{x a:aB}{b:eH}{f:ae}{m:ab}{n g:Option ae}{o:Array (Option ab)}{h d i e j:ab}(l:K.lookup f=Xy ⟨m,n,.func (cr x a (yE b) (vE b) (rR b) .none h d i g e j),o⟩)
  (c:fe K e a=YP) (k:de K (.ref f)=YP):Fun K x a b f (cr x a (yE b) (vE b) (rR b) .none h d i g e j):=⟨⟨m,n,h,d,i,g,e,j,o,rfl,l,c⟩,k⟩
end
def YE(a:oM k A):A.units+1<cLine:=ic (Nat.add_le_add_left (by decide:1<=64) _) a.units
section
variable{X:Cx}
def pv(i:Nat)(a:X.N[i]?=Xy x:=by rfl)(b:vK X.env.scope x:=by first|exact Or.inl rfl|exact Or.inr (Or.inl rfl)|exact Or.inr (Or.inr rfl))(c:s9 x:=by decide)
  (d:(x==("__classdict__":aB))=Y1:=by decide):PE X (.Name x pos) (Iu i):=IS a b c d
end
def oK(H H':Hp):Prop:=∀b o,H b=Xy o->H' b=Xy o
def oK.refl(H:Hp):oK H H:=λ_ _ h=>h
def oK.trans(a:oK H H1)(b:oK H1 H2):oK H H2:=λc o h=>b c o (a c o h)
def oK.free{H H':Hp}(e:oK H H'){l:ae}(h:H' l=jv):H l=jv:=by
 cases q:H l with
 |none=>rfl
 | some o=>
  rw[e l o q] at h;cases h
def oK.seq{K:ai}{H H':Hp}{a:ae}{xs:List V}(e:oK H H')(h:rn K H a xs):rn K H' a xs:=by
 rcases h with(h|⟨o,h⟩)|h
 ·exact .inl (.inl (e _ _ h))
 ·exact .inl (.inr ⟨o,e _ _ h⟩)
 ·exact .inr h
section
variable{κ:Type}[DecidableEq κ]
def uq(i_:List (κ×V))(k:κ):Option V:=(i_.find? λkv=>decide (kv.1=k)).map (·.2)
noncomputable def yR(i_:List (κ×V))(k:κ)(v:V):List (κ×V):=
 if (i_.any λkv=>decide (kv.1=k))=YP then i_.map (λkv=>if kv.1=k then (kv.1,v) else kv) else i_++[(k,v)]
def AE(i_:List (κ×V))(k:κ):List (κ×V):=i_.filter λkv=>decide (kv.1≠k)
def F2{p:κ×V}{r:List (κ×V)}{k:κ}(e:p.1=k):uq (p::r) k=Xy p.2:=by simp[uq,eL,e]
def Es{p:κ×V}{r:List (κ×V)}{k:κ}(e:¬ p.1=k):uq (p::r) k=uq r k:=by simp[uq,eL,e]
theorem Ux(k:κ):∀a:List (κ×V),(a.any λb=>decide (b.1=k))=(uq a k).isSome
 |[]=>rfl
 | p::r=>by
  rw[f9];by_cases e:p.1=k
  ·simp only[F2 e,decide_eq_true e,Bool.true_or,mj]
  ·rw[Es e,decide_eq_false e,gM];exact Ux k r
def VF(a:List (κ×V))(k:κ)(v:V):(yR a k v).length<=a.length+1:=by
 unfold yR;split
 ·rw[aq];lia
 ·rw[au,aW,eB];lia
def zgl{a:List (κ×V)}{k:κ}(v:V)(h:uq a k=XV):yR a k v=a++[(k,v)]:=by unfold yR;rw[Ux,h];exact Ko 'u'
def o3.isSome_eq(r:o3 o u):o.isSome=u.isSome:=by
 cases o with
 | none=>cases u with
  |none=>rfl
  |some _=>exact(r).elim
 | some _=>cases u with
  |none=>exact(r).elim
  |some _=>rfl
def o3.getD(r:o3 o u)(a:RelV d d'):RelV (o.getD d) (u.getD d'):=by
 cases o with
 | none=>cases u with
  |none=>exact a
  |some _=>exact(show False from r).elim
 | some _=>cases u with
  |none=>exact(show False from r).elim
  |some _=>exact r
def KV.val{c:List (κ×V)}{d:List (κ×ab)}(r:KV c d)(k:κ):o3 (uq c k) (valueAt d k):=by
 induction r with
 |nil=>exact fj
 | @cons p q ps qs h t ih=>
  obtain⟨f,g⟩:=h;by_cases e:p.1=k
  ·have a:=f.symm.trans e;have b:valueAt (q::qs) k=Xy q.2:=by simp[valueAt,eL,a]
   rw[F2 e,b];exact g
  ·have a:¬ q.1=k:=λz=>e (f.trans z);have b:valueAt (q::qs) k=valueAt qs k:=by simp[valueAt,eL,a]
   rw[Es e,b];exact ih
def KV.any{b:List (κ×V)}{c:List (κ×ab)}(r:KV b c)(k:κ):(b.any λa=>decide (a.1=k))=c.any λa=>decide (a.1=k):=by
 induction r with
 |nil=>rfl
 |cons h t ih=>rw[f9,f9,ih,h.1]
def KV.repl(r:KV i_ vs)(k:κ)(c:RelV y u):
  KV (i_.map λa=>if a.1=k then (a.1,y) else a) (vs.map λa=>if a.1=k then (a.1,u) else a):=by
 induction r with
 |nil=>exact .nil
 | @cons p q ps qs h t ih=>
  rw[bB,bB];refine .cons ?_ ih;obtain⟨b,d⟩:=h;by_cases e:p.1=k
  ·rw[Kk e,Kk (b.symm.trans e)];exact⟨b,c⟩
  ·rw[Ko e,Ko (λz=>e (b.trans z))];exact⟨b,d⟩
def KV.put(r:KV i_ vs)(k:κ)(a:RelV y u):KV (yR i_ k y) (stored vs k u):=by
 unfold yR stored;rw[r.any k];by_cases e:(vs.any λb=>decide (b.1=k))=YP
 ·rw[Kk e,Kk e];exact r.repl k a
 ·rw[Ko e,Ko e];exact Paired.snoc r ⟨rfl,a⟩
def KV.drop(r:KV i_ vs)(k:κ):KV (AE i_ k) (without vs k):=by
 unfold AE without
 induction r with
 |nil=>exact .nil
 | @cons p q ps qs h t ih=>
  obtain⟨c,d⟩:=h;rw[cT,cT];by_cases e:p.1=k
  ·have a:¬ decide (p.1≠k)=YP:=by simp[e]
   have b:¬ decide (q.1≠k)=YP:=by simp[c.symm.trans e]
   rw[Ko a,Ko b];exact ih
  ·have f:¬ q.1=k:=λz=>e (c.trans z);have a:decide (p.1≠k)=YP:=by simp[e]
   have b:decide (q.1≠k)=YP:=by simp[f]
   rw[Kk a,Kk b];exact .cons ⟨c,d⟩ ih
def KV.length(r:KV i_ vs):i_.length=vs.length:=lO r
def zfX(a:List (κ×V))(k:κ):(AE a k).length<=a.length:=aQ _ _
end
def D3(r:RelV (kV k) u):(vD P w).is k u=YP:=by
 cases k with
 |inl i=>obtain⟨t,e⟩:=(r);subst e;exact z8A P w i t
 |inr x=>obtain⟨t,e⟩:=(r);subst e;exact z8u P w x t
theorem UT:∀{a:List Key}{b:List ab},oF (a.map kV) b->ItemsAre (vD P w) a b
 |[],_,r=>by rw[gq] at r;cases r;exact .nil
 | k::a,_,r=>by
  cases r with
  |cons h t=>exact .cons (D3 h) (UT t)
abbrev KT(H:Hp):List (List Key×V)->List (List Key×ae×ab)->Prop:=cj λp q=>p.1=q.1/\H q.2.1=Xy (.tup (p.1.map kV))/\RelV p.2 q.2.2
def KT.val{H:Hp}{c:List (List Key×V)}{xs:List (List Key×ae×ab)}(r:KT H c xs)(k:List Key):o3 (uq c k) ((atKey xs k).map (·.2)):=by
 induction r with
 |nil=>exact fj
 | @cons p q ps qs h t ih=>
  obtain⟨d,_,f⟩:=h;by_cases e:p.1=k
  ·have a:=d.symm.trans e;have b:atKey (q::qs) k=Xy q.2:=by simp[atKey,eL,a]
   rw[F2 e,b];exact f
  ·have a:¬ q.1=k:=λz=>e (d.trans z);have b:atKey (q::qs) k=atKey qs k:=by simp[atKey,eL,a]
   rw[Es e,b];exact ih
section
variable{P:aP}{w:aZ}{H:Hp}{h:a7}{a:ae}
def Qt(ok:HOk P w H h)(e:Rd H a u):oP P w H h a u:=e.ok ok
def D_(ok:HOk P w H h)(e:Rd H a (.dK i_)):i_.length<=Kw/\(a==sysModules)=Y1/\∃b,KV i_ b/\h.DictOf (vD P w) a b:=
 show oP P w H h a (.dK i_) from Qt ok e
def IL(ok:HOk P w H h)(e:H a=Xy (.dK i_)):i_.length<=Kw/\(a==sysModules)=Y1/\∃b,KV i_ b/\h.DictOf (vD P w) a b:=D_ ok (.inl e)
def RB(ok:HOk P w H h)(e:H a=Xy (.tup (ks.map kV))):(tupleKind (vD P w)).is h ks a:=by obtain⟨_,b,r,o,c,d,⟨n,f⟩,_⟩:=(ok a _ e);exact⟨o,b.toArray,n,c,d,f,by simpa using UT r⟩
def Q7(ok:HOk P w H h)(e:Rd H a (.dT i_)):i_.length<=Kw/\(a==sysModules)=Y1/\
  ∃xs,KT H i_ xs/\h.DictOfH (tupleKind (vD P w)) a xs:=by
 obtain⟨z,y,xs,r,o,c,d,f,g,i,j,k⟩:=(Qt ok e);refine⟨z,y,xs,r,o,c,d,f,g,i,j,λx hx=>?_,k⟩;have b:∀{l:List (List Key×V)}{m:List (List Key×ae×ab)},KT H l m->∀x∈m,(tupleKind (vD P w)).is h x.1 x.2.1:=by
  intro l m q
  induction q with
  |nil=>intro x hx;exact nomatch hx
  | @cons p q ps qs hq t ih=>
   intro x hx;rcases aw.mp hx with e|hx
   ·subst e;exact RB ok (by rw[<- hq.1];exact hq.2.1)
   ·exact ih x hx
 exact b r x hx
end
def K9(H:Hp)(a:ae)(y:V)(r:Option V):Prop:=
 (∃i_ k,Rd H a (.dK i_)/\y=kV k/\r=uq i_ k) \/ ∃i_ k b,Rd H a (.dT i_)/\y=.ref b/\H b=Xy (.tup (k.map kV))/\r=uq i_ k
section
variable{X:Cx}{Xa:List (ae×Obj)}{σ:St}{H:Hp}{s:ag}{a:ae}{y v:V}{u:ab}{A:bb}{E:ab->ag->Prop}
def Inv.big(I:Inv X Xa σ H s):sysModules<s.heap.objs.size:=by have h:=(I.mod.glob.keeps I.bk).lt;exact Nat.lt_trans 'u' h
def zdM(q:A.units+1<cLine)(I:Inv X Xa σ H s)(g:K9 H a y (Xy v))(n:RelV y u)(h:∀d o,Inv X Xa σ H o->RelV v d->Q d o):
  av (az X.prog X.w) A (getItem (.ref a) u) Q E s:=by
 rcases g with⟨r,k,e,f,l⟩|⟨r,k,b,e,f,t,l⟩
 ·subst f;obtain⟨z,x,D,c,i⟩:=D_ I.hok e;obtain⟨d,j,m⟩:=o3.some_of (by rw[l];exact c.val k);exact kh (D3 n) i.mapOf j (h d _ (I.tok _) m)
 ·subst f;cases (n);obtain⟨z,x,F,c,i⟩:=Q7 I.hok e;obtain⟨d,j,m⟩:=o3.some_of (by rw[l];exact c.val k);obtain⟨p,B,C⟩:=iE.mp j;refine wpAny_getItem_heap (tupleKind_room_in1 q) (RB I.hok t) i B ?_;rw[C];exact h d _ (I.tok _) m
def Mn(I:Inv X Xa σ H s)(d:HU (H a))(e:dg a s.heap h')(f:∃q,h'.get? a=Xy q)(c:oP X.prog X.w (upd H a ob) h' a ob)(h:0<t':=by first|exact cS _|exact Inv.tk ‹_›|assumption|lia):
  Inv X Xa σ (upd H a ob) { s with heap:=h',toks:=t' }:=
 I.write d (.inl rfl) (λb q g z=>(e.2 b g).trans z) f c
def I8(z:i_.length<=Kw)(c:(a==sysModules)=Y1)(b:KV i_ vs)(d:h'.DictOf (vD P w) a vs):
  oP P w H' h' a (.dK i_):=⟨z,c,vs,b,d⟩
end
section
variable{X:Cx}{Xa:List (ae×Obj)}{σ:St}{H:Hp}{s:ag}{a:ae}{i_:List (Key×V)}{k:Key}{u:ab}{A:bb}{E:ab->ag->Prop}
def zbS(I:Inv X Xa σ H s)(e:H a=Xy (.dK i_))(g:RelV (kV k) u)(l:(uq i_ k).isSome=YP)(h:∀d,Inv X Xa σ (upd H a (.dK (AE i_ k))) d->Q () d):
  av (az X.prog X.w) A (delItem (.ref a) u) Q E s:=by
 obtain⟨z,i,j,b,c⟩:=IL I.hok e;refine wpAny_delItem_slot c.typeIs 'u' j4
  (call_meetsIn j4 c.typeIs PySem.F.entry_dict_delitem (PySem.F.args_dict_delitem_2 _ _) (meets_dict_delitem_pairs (vD X.prog X.w) a (D3 g)) ⟨j,c,by rw[<- b.length];exact z,by rw[<- (b.val k).isSome_eq];exact l,λm f n=>h _ ?_⟩)
 have o:∃q,m.get? a=Xy q:=let ⟨q,_,_,hq,_⟩:=f;⟨q,hq⟩;exact Mn I (by rw[e];exact fj) n o (I8 (aH (zfX i_ k) z) i (b.drop k) f)
end
def DV(i:aT):Prop:=∀ov iv,subscripted i Y1 ov iv=operate [ov,iv] (getItem ov iv)
def Mu{prog:aP}{w:aZ}{A:bb}{E:ab->ag->Prop}{s:ag}{c:Env}{b a:aT}{f:Pos}{T id:String}{Q:ab->ag->Prop}
  (l:typeLookup (.type T) "__getitem__" = pure (Xy (.builtin id))) (m:DV a)
  (h:av (az prog w) A (eval b c) (λo j=>av (az prog w) A (eval a c) (λi e=>e.TypeIs o T/\av (az prog w) A (getItem o i) Q E e) E j) E s):
  av (az prog w) A (eval (.Subscript b a f) c) Q E s:=by
 refine Subscript_ (cB h (λo j n=>cB n (λi e g=>?_) λ_ _ x=>x) λ_ _ x=>x);obtain⟨p,g⟩:=g;refine aa ?_;refine aa (wpAny_specialOf p l ?_);have d:av (az prog w) A (subscripted a Y1 o i) (λr k=>av (az prog w) A (letTemporaryGo b o r >>= λ_=>pure r) Q E k) E e:=by
  rw[m o i];exact wpAny_operating (cB g (λr k q=>aa (wpAny_letTemporaryGo (ah q))) λ_ _ x=>x)
 first
  |exact ah (aa d)
  |exact aa (ah (aa d))
  |exact aa d
def z8R(I:Inv X Xa σ H s)(g:K9 H a y o):s.TypeIs (.ref a) "dict":=by
 rcases g with⟨d,k,e,_,_⟩|⟨d,k,b,e,_,_,_⟩
 ·obtain⟨_,_,f,_,c⟩:=D_ I.hok e;exact c.typeIs
 ·obtain⟨_,_,h,_,c⟩:=Q7 I.hok e;exact c.typeIs
def YN(td ty:TE):TE:=λσ H Q=>td σ H λx H1=>ty σ H1 λy H2=>∃a v,x=.ref a/\K9 H2 a y (Xy v)/\Q v H2
def YB(td ty:TE):TS:=λD σ H=>td σ H λx H1=>ty σ H1 λy H2=>∃a i_ k,x=.ref a/\H2 a=Xy (.dK i_)/\y=kV k/\(uq i_ k).isSome=YP/\D.nx σ (upd H2 a (.dK (AE i_ k)))
section
variable{X:Cx}{o i e:aT}{pos NJ:Pos}{td ty:TE}
def zjF(f:X.A.units+1<cLine)(j:PE X o td)(k:PE X i ty)(l:DV i):PE X (.Subscript o i pos) (YN td ty):=by intro b s c H Q I h;refine Mu gZ.lookup l (qc (j b s c H _ I h) λu m ⟨x,n,p,q,r⟩=>qc (k b m c n _ p r) λE F ⟨y,t,d,w,a,v,z,g,B⟩=>?_);subst z;obtain rfl:u=fR a:=q;exact⟨z8R d g,zdM f d g w λG J C D=>⟨v,t,C,D,B⟩⟩
def zj5(d:PE X o td)(f:PE X i ty):PS X (.Delete [.Subscript o i NJ] pos) (YB td ty):=by intro b s c H D I h;refine wpAny_Delete (wpAny_deleteEach_cons (wpAny_delete_Subscript (qc (d b s c H _ I h) λu g ⟨x,j,m,n,p⟩=>qc (f b g c j _ m p) λA B ⟨y,C,q,r,a,E,k,t,e,v,l,w⟩=>?_)));subst t v;obtain rfl:u=fR a:=n;exact zbS q e r l λF z=>wpAny_deleteEach_nil ⟨c,_,z,w⟩
end
def zf7(h:a7)(a:sysModules<h.objs.size):oP P w H (h.push { cls:=.type "dict",data:=.dict #[] }) h.objs.size (.dK []):=
 ⟨bI _,beq_eq_false_iff_ne.mpr (bP (bq a)),[],.nil,Heap.DictOf.new h⟩
noncomputable def FI:List (TE×TE)->St->Hp->(List (V×V)->Hp->Prop)->Prop
 |[],_,H,Q=>Q [] H
 |(tk,tv)::r,σ,H,Q=>tk σ H λx H1=>tv σ H1 λy H2=>FI r σ H2 λps H3=>Q ((x,y)::ps) H3
abbrev VV:List (V×V)->List (ab×ab)->Prop:=cj λp q=>RelV p.1 q.1/\RelV p.2 q.2
def HQ(X:Cx)(pos:Pos)(keys:List (Option aT))(values:List aT)(AU:List (TE×TE)):Prop:=
 ∀(Xa:List (ae×Obj))(s:ag)(σ:St)(H:Hp)(Q:List (V×V)->Hp->Prop),Inv X Xa σ H s->FI AU σ H Q->
  av (az X.prog X.w) X.A (evalPairs (pairTrees keys values X.env pos)) (λvs s'=>∃ps H',Inv X Xa σ H' s'/\VV ps vs/\Q ps H') X.xe s
def zju:HQ X pos [] [] []:=λa s b H Q I h=>pairTrees_nil_walk ⟨[],H,I,.nil,h⟩
def zgb(d:PE X k tk)(e:PE X v tv)(f:HQ X pos ks vs AU):
  HQ X pos (Xy k::ks) (v::vs) ((tk,tv)::AU):=λa s b H Q I h=>
 pairTrees_cons_walk (qc (d a s b H _ I h) λu g ⟨x,i,j,l,m⟩=>qc (e a g b i _ j m) λB n ⟨y,o,p,q,r⟩=>
  qc (f a n b o _ p r) λC D ⟨t,w,z,c,A⟩=>⟨(x,y)::t,w,z,.cons ⟨l,q⟩ c,A⟩)
def AJ(i_ more:List (Key×V)):List (Key×V):=more.foldl (λXo kv=>yR Xo kv.1 kv.2) i_
def KV.merge:∀{a:List (Key×V)}{d:List (Key×ab)}{b:List (Key×V)}{c:List (Key×ab)},KV a d->KV b c->KV (AJ b a) (merged c d):=by
 intro a d b c r
 induction r generalizing b c with
 |nil=>intro q;exact q
 | @cons p q ps qs h t ih=>
  intro f;have e:KV (yR b p.1 p.2) (stored c q.1 q.2):=by
   have:=f.put p.1 h.2;rw[<- h.1];exact this
  exact ih e
theorem VX:∀(more i_:List (Key×V)),(AJ i_ more).length<=i_.length+more.length
 |[],i_=>by show i_.length<=i_.length+0;lia
 | p::r,i_=>by
  have a:=VX r (yR i_ p.1 p.2);have b:=VF i_ p.1 p.2;show(AJ (yR i_ p.1 p.2) r).length<=_;rw[aW];lia
theorem Vs:∀{i_:List (Key×V)}{ws:List (ab×ab)},VV (i_.map λe=>(kV e.1,e.2)) ws->∃d,Carries (vD P w) ws d/\KV i_ d
 |[],_,r=>by rw[gq] at r;cases r;exact⟨[],fj,.nil⟩
 | p::i_,_,r=>by
  cases r with
  | @cons a b as bs h t=>
   obtain⟨d,c,q⟩:=Vs t;obtain⟨g,f⟩:=b;exact⟨(p.1,f)::d,⟨D3 h.1,rfl,c⟩,.cons ⟨rfl,h.2⟩ q⟩
def YJ(AU:List (TE×TE)):TE:=λσ H Q=>∀p,H p=XV->FI AU σ (upd H p (.dK [])) λps H2=>H2 p=Xy (.dK [])/\∃i_:List (Key×V),ps=i_.map (λkv=>(kV kv.1,kv.2))/\i_.length<=15/\Q (.ref p) (upd H2 p (.dK (AJ [] i_)))
def zix(h:HQ X pos keys values AU)(i:keys.all (·.isSome)=YP)(j:keys.length=values.length)(k:keys≠[])
  (l:keys.length<=15):PE X (.Dict keys values pos) (YJ AU):=by
 intro a s m H Q I q;have n:=I.hok.fresh (aE s.heap.objs.size);have o:=I.laid (λ_ _ q=>af _ q) (aE _) (zf7 s.heap I.big);refine wpAny_Dict_walk (knd:=vD X.prog X.w) i j k l (qc (h a _ m _ _ o (q _ n)) λG J ⟨K,L,b,d,e,f,p,M,r⟩=>?_);subst p;obtain⟨t,c,u⟩:=Vs d;obtain⟨z,v,x,y,A⟩:=IL b.hok e;cases y;refine⟨t,c,A,λB g C=>⟨.ref s.heap.objs.size,_,?_,rfl,r⟩⟩;have D:(AJ [] f).length<=Kw:=by
  have E:=VX f [];rw[eB] at E;rw[kO];lia
 have F:∃q,B.get? s.heap.objs.size=Xy q:=let ⟨q,_,_,hq,_⟩:=g;⟨q,hq⟩;exact Mn b (by rw[e];exact fj) C F (I8 D v (u.merge .nil) g) (Nat.add_pos_left b.tk _)
structure M1(X:Cx)(o:aT)(m:aB)(apos:Pos)(e:aT)(qh:Pos):Prop where
 base:attributeBase o m X.env (eval o X.env)=eval o X.env
 few:((backTo qh (aR [e] X.env)).all (λx=>!x.1)&&(backToKw qh (keywordEach [] X.env)).all (λx=>x.1.isSome)
  && decide (([e]:List aT).length+([]:List fT).length+(if ([]:List fT).isEmpty then 0 else 1)<30))=YP
 line:(apos.endLine==qh.line)=YP
 trees:backTo qh (aR [e] X.env)=[(Y1,eval e X.env)]
structure M2(X:Cx)(o:aT)(m:aB)(apos:Pos)(e f:aT)(qh:Pos):Prop where
 base:attributeBase o m X.env (eval o X.env)=eval o X.env
 few:((backTo qh (aR [e,f] X.env)).all (λx=>!x.1)&&(backToKw qh (keywordEach [] X.env)).all (λx=>x.1.isSome)
  && decide (([e,f]:List aT).length+([]:List fT).length+(if ([]:List fT).isEmpty then 0 else 1)<30))=YP
 line:(apos.endLine==qh.line)=YP
 trees:backTo qh (aR [e,f] X.env)=[(Y1,eval e X.env),(Y1,eval f X.env)]
section
end
section
end
end L2
namespace DL
open PySem L2
def wT{X:Cx}{b:List (ae×Obj)}{d:St}{H:Hp}{s:ag}{α:Type}{M:i4}{A:bb}{m:Sem α}{Q:α->ag->Prop}{E:ab->ag->Prop}(I:L2.Inv X b d H s)(h:av M A m (λa c=>0<c.toks->Q a c) (λe c=>0<c.toks->E e c) s):av M A m Q E s:=gc I.tk h
structure KY(K:ai)(C:ae):Prop where
 ga:e9 K (.ref C) "__getattribute__" = Xy (Xy (.builtin "BaseException.__getattribute__"))
 nh:e9 K (.ref C) "__getattr__" = Xy XV
 cl:∃cd,PySem.W.clsIn K C=Xy cd
 at_:e9 K (.ref C) "__class__" = Xy (Xy (.builtin "object.__class__"))
 gt:jW K (.builtin "object.__class__") "__get__" = Xy (Xy (.builtin "getset_descriptor.__get__"))
 tk:nE K (.builtin "object.__class__")=Xy YP
 ob:lP K C (.type "object")=Xy YP
 bx:lP K C (.type "BaseException")=Xy YP
 kit:∀c∈(["int", "bool", "str", "list", "tuple", "dict"]:List String),lh K (.ref C) (.type c)=Xy Y1
section
open PySem.W
variable{prog:aP}{w:aZ}{A:bb}{E:ab->ag->Prop}{s:ag}{K:ai}{x C:ae}{ox:Obj}
def ziQ(X:K.In s.heap)(k:KY K C)(I:jm s.heap x ox C XV)(a:Q () s):av M A (checkBuiltinCall "BaseException.__getattribute__" ⟨[.ref x,GL],[]⟩) Q E s:=by
 have b:builtinKind "BaseException.__getattribute__" = Xy .slot:=by decide +kernel
 have c:splitId "BaseException.__getattribute__" = Xy ("BaseException", "__getattribute__"):=by decide +kernel
 have g:=F.args_bexc_ga (.ref x) GL;have d:=I.type (M:=M);have e:=looks_mroIn (M:=M) X k.bx;have f:Looks M s.heap (isInstance (.ref x) (.type "BaseException")) YP:=d.andThen e;simp only[checkBuiltinCall,b,c];refine aa (f.at ?_)
 repeat (first|wp_step|exact a)
def zhp(X:K.In s.heap)(k:KY K C)(I:jm s.heap x ox C XV)(h:Q (Xy (.ref C)) { s with toks:=s.toks+1 }):av (az prog w) A (getAttr? (.ref x) "__class__") Q E s:=by
 obtain⟨i,c⟩:=k.cl;have d:findObj K C XV "__class__" = Xy (.bind (.builtin "getset_descriptor.__get__") (.builtin "object.__class__")):=by
  unfold findObj;rw[c,k.at_];simp only[Option.bind_some,k.gt,k.tk]
 have b:=I.type (M:=az prog w);have e:=looks_findIn (M:=az prog w) X k.ga;have f:=looks_findIn (M:=az prog w) X k.nh;have g:=looks_find (M:=az prog w) X I d;unfold getAttr? getAttrBy? getAttrBy;refine aa (wpAny_mkText (aa (fG (bH (aa (b.at (aa (e.at ?_))))))));have a:(onTheHeap (fR C)&&gN "BaseException.__getattribute__" == gN "object.__getattribute__")=Y1:=by
  rw[show(gN "BaseException.__getattribute__" == gN "object.__getattribute__")=Y1 from by decide +kernel];rfl
 show av _ _ (if (onTheHeap (fR C)&&gN "BaseException.__getattribute__" == gN "object.__getattribute__")=YP then _ else _) _ _ _;rw[Ko (by rw[a];decide)];unfold getAttrByItsOwn hookBefore;rw[Kk (by rfl)];refine aa (f.at (aa (fG (bH ?_))));unfold callGetattribute boundAndCalled;rw[Ko 'u'];rw[mK.ga.bind (.ref x)];refine aa (ah (j3 ?_));refine lH mK.ga.plain F.entry_bexc_ga (ziQ (s:={ s with toks:=s.toks+1 }) X k I ?_);unfold d0.«object.__getattribute__»;refine aa (ah (aa (ah (aa (b.at (aa (g.at ?_)))))));show av _ _ (j5 _ _ _ _) _ _ _;unfold j5;refine aa (bH (j3 (class_get (s:={ s with toks:=s.toks+1 }) X I k.ob ?_)));exact ah (ah (ah h))
def zlH(k:KY K C):KitX K (.ref x) (.ref C) (λh=>∃ox,jm h x ox C XV) where
 ty:=λ_ _ _ ⟨ox,I⟩=>I.type
 it:=λ_ _ X _=>by
  obtain⟨f,a⟩:=k.cl;unfold clsIn at a;split at a
  ·rename_i g i b j c;intro o p r t l q;unfold isType loadHead;exact aa (wpAny_loadPart (l _ _ (X _ _ c)) (ah q))
  ·cases a
 ne:=λh m u v n y X d=>by
  obtain⟨f,a⟩:=k.cl;refine Bool.eq_false_iff.mpr λq=>?_;have e:C=m:=Value.ref.inj (beq_iff_eq.mp q);subst e;unfold clsIn at a;split at a
  ·rename_i g i b j c;have z:=(X _ _ c).symm.trans d;cases z
  ·cases a
 ca:=λX ⟨ox,I⟩ q=>zhp X k I q
end
end DL
namespace DL
open PySem L2
inductive D where
 |non
 |bl (b:Bool)
 |int (i:Int)
 |str (cs:n_)
 |lst (xs:List D)
 |tup (xs:List D)
 |own (k:Nat)
 |dct
 |exn (C:Nat)
 |tab (P:Nat)
 |map (ks:List (Sum Int n_)) (ds:List D)
 |adr (a:Nat)
 deriving Inhabited
abbrev Ow:=List (List D)
inductive R(α:Type) where
 |ok (a:α) (O:Ow)
 |exc (c:Nat) (O:Ow)
 |bad
 deriving Inhabited
def R.bnd{α β:Type}(r:R α)(k:α->Ow->R β):R β:=match r with
 |.ok a O=>k a O
 |.exc c O=>.exc c O
 |.bad=>.bad
abbrev Sg:=List (Option D)
abbrev DE:=Sg->Ow->R D
abbrev DT:=Sg->Ow->R Bool
abbrev DA:=Sg->Ow->R (List D)
section
variable(K:ai)(H:Hp)(QH μ:List ae)
def XI(K:ai)(a:ae)(xs:List V):Prop:=∃(o:Obj)(d_:Array ab)(n:Nat),K.lookup a=Xy o/\o.cls=.type "list"/\o.dict=XV/\o.data=.seq d_ n/\d_.size<=Kw/\oF xs d_.toList
def XM(K:ai)(a:ae)(xs:List V):Prop:=∃(o:Obj)(d_:Array ab)(n:Nat),K.lookup a=Xy o/\o.cls=.type "tuple"/\o.data=.seq d_ n/\d_.size<=Kw/\oF xs d_.toList
def LstAt(a:ae)(vs:List V):Prop:=(Rd H a (.lst vs)/\a∉QH/\a∉μ)\/XI K a vs
def TupAt(a:ae)(vs:List V):Prop:=(Rd H a (.tup vs)/\a∉QH/\a∉μ)\/XM K a vs/\∃o,K.lookup a=Xy o/\o.dict=XV
end
noncomputable def kD:Sum Int n_->Key
 |.inl i=>.inl i
 |.inr cs=>.inr ⟨cs.toArray⟩
def oQ(H:Hp)(P:ae):Prop:=∃ps,H P=Xy (.tbl ps)/\TriplesOk ps.toList/\∀pos cv,codeAmong pos ps.toList=Xy cv->∃c φ,cv=.ref c/\H c=Xy (.ext φ)/\∀h:a7,φ h->∃q,h.CodeRec (.ref c) q
def Ed(o:HO):Prop:=∀ps,o ≠ .tbl ps
section
variable(K:ai)(H:Hp)(QH μ:List ae)
mutual
def Xf:D->V->Prop
 |.non,v=>v=.non
 |.bl b,v=>v=.bl b
 |.int i,v=>v=.int i
 |.str cs,v=>v=.str ⟨cs.toArray⟩
 |.lst ds,v=>∃a vs,v=.ref a/\LstAt K H QH μ a vs/\oD ds vs
 |.tup ds,v=>∃a vs,v=.ref a/\TupAt K H QH μ a vs/\oD ds vs
 |.own k,v=>∃a,v=.ref a/\μ[k]?=Xy a
 |.dct,v=>∃a,v=.ref a/\Rd H a (.dK [])/\a∉QH/\a∉μ
 |.exn C,v=>∃a φ,v=.ref a/\(KY K C/\∀h:a7,φ h->∃ox,jm h a ox C XV)/\Rd H a (.ext φ)/\a∉QH/\a∉μ
 |.tab P,v=>v=.bl Y1/\oQ H P
 |.map ks ds,v=>∃a vs,v=.ref a/\(∃o,H a=Xy (.frz o (.dK ((ks.map kD).zip vs))))/\a∉QH/\a∉μ/\ks.length=vs.length/\oD ds vs
 |.adr a,v=>v=.ref a
def oD:List D->List V->Prop
 |[],vs=>vs=[]
 |d::ds,vs=>∃v r,vs=v::r/\Xf d v/\oD ds r
end
structure oC(O:Ow):Prop where
 len:μ.length=O.length
 nd:μ.Nodup
 nh:∀a∈μ,a∉QH
 ht:∀a∈QH,H a≠XV
 at_:∀(k:Nat)a,μ[k]?=Xy a->∃ds vs,O[k]?=Xy ds/\H a=Xy (.lst vs)/\oD K H QH μ ds vs
structure oE(σ:Sg)(b_:St):Prop where
 len:σ.length=b_.length
 at_:∀(i:Nat)d,σ[i]?=Xy (Xy d)->∃v,b_[i]?=Xy (Xy v)/\Xf K H QH μ d v
end
structure Ext(H:Hp)(μ:List ae)(H':Hp)(e_:List ae):Prop where
 pre:∃ν,e_=μ++ν
 kept:∀b o,H b=Xy o->b∉μ->Ed o->H' b=Xy o
 fresh:∀b∈e_,b∈μ\/H b=XV
 there:∀b,H b≠XV->H' b≠XV
 tab:∀P,oQ H P->oQ H' P
structure Mv(H:Hp)(QH μ:List ae)(H':Hp)(p9 e_:List ae):Prop where
 pre:∃ν,e_=μ++ν
 kept:∀b o,H b=Xy o->b∉μ->b∉QH->Ed o->H' b=Xy o
 fresh:∀b∈e_,b∈μ\/H b=XV
 hids:∀b∈p9,b∈QH\/H b=XV
 there:∀b,H b≠XV->H' b≠XV
 tab:∀P,oQ H P->oQ H' P
section
variable{K:ai}{H H' H1 H2:Hp}{QH p9 ym Hr μ e_ g_ qe:List ae}
def Ext.keep(e:Ext H μ H' e_)(b:ae)(o:HO)(h:H b=Xy o)(n:b∉μ)(a:Ed o:=by intro c z;cases z):H' b=Xy o:=e.kept b o h n a
def oQ.upd(t:oQ H P)(g:H p=XV \/ ∃a,H p=Xy (.lst a)):oQ (L2.upd H p o) P:=by
 obtain⟨h,b,i,j⟩:=t;have k:P≠p:=by
  rintro rfl;rcases g with z|⟨a,z⟩<;>(rw[z] at b;cases b)
 refine⟨h,by rw[qi k];exact b,i,λd l e=>?_⟩;obtain⟨c,m,rfl,f,n⟩:=j d l e;have q:c≠p:=by
  rintro rfl;rcases g with z|⟨a,z⟩<;>(rw[z] at f;cases f)
 exact⟨c,m,rfl,by rw[qi q];exact f,n⟩
def Ext.refl:Ext H μ H μ:=⟨⟨[],by simp⟩,λ_ _ h _ _=>h,λ_ h=>.inl h,λ_ h=>h,λ_ t=>t⟩
def Ext.trans(a:Ext H μ H1 g_)(b:Ext H1 g_ H2 qe):Ext H μ H2 qe:=by
 refine⟨?_,λc o h n d=>?_,λc h=>?_,λc h=>b.there c (a.there c h),λP t=>b.tab P (a.tab P t)⟩
 ·obtain⟨x,rfl⟩:=a.pre;obtain⟨y,rfl⟩:=b.pre;exact⟨x++y,by simp⟩
 ·refine b.kept c o (a.kept c o h n d) (λm=>?_) d;rcases a.fresh c m with z|z
  ·exact n z
  ·rw[z] at h;cases h
 ·rcases b.fresh c h with z|z
  ·exact a.fresh c z
  ·by_cases f:c∈μ
   ·exact .inl f
   ·cases e:H c with
    |none=>exact .inr rfl
    |some o=>exact absurd z (a.there c (by rw[e];simp))
def Ext.mv(a:Ext H μ H' e_):Mv H QH μ H' QH e_:=⟨a.pre,λb o h n _ c=>a.kept b o h n c,a.fresh,λ_ h=>.inl h,a.there,a.tab⟩
def Mv.refl:Mv H QH μ H QH μ:=Ext.refl.mv
def Mv.trans(a:Mv H QH μ H1 ym g_)(b:Mv H1 ym g_ H2 Hr qe):Mv H QH μ H2 Hr qe:=by
 have d:∀c,H1 c=XV->H c=XV:=λc h=>by
  cases e:H c with
  |none=>rfl
  |some o=>exact absurd h (a.there c (by rw[e];simp))
 refine⟨?_,λc o h f g i=>?_,λc h=>?_,λc h=>?_,λc h=>b.there c (a.there c h),λP t=>b.tab P (a.tab P t)⟩
 ·obtain⟨x,rfl⟩:=a.pre;obtain⟨y,rfl⟩:=b.pre;exact⟨x++y,by simp⟩
 ·refine b.kept c o (a.kept c o h f g i) (λm=>?_) (λm=>?_) i
  ·rcases a.fresh c m with z|z
   ·exact f z
   ·rw[z] at h;cases h
  ·rcases a.hids c m with z|z
   ·exact g z
   ·rw[z] at h;cases h
 ·rcases b.fresh c h with z|z
  ·exact a.fresh c z
  ·exact .inr (d c z)
 ·rcases b.hids c h with z|z
  ·exact a.hids c z
  ·exact .inr (d c z)
def Mv.hide(h:H b=XV):Mv H QH μ H (b::QH) μ:=⟨⟨[],by simp⟩,λ_ _ h _ _ _=>h,λ_ m=>.inl m,λc m=>(aw.mp m).elim (λe=>.inr (by rw[e];exact h)) .inl,λ_ h=>h,λ_ t=>t⟩
def Mv.unhide:Mv H (b::QH) μ H QH μ:=⟨⟨[],by simp⟩,λ_ _ h _ _ _=>h,λ_ m=>.inl m,λ_ m=>.inl (ak _ m),λ_ h=>h,λ_ t=>t⟩
def Rd.mv(r:Rd H a u)(e:Mv H QH μ H' p9 e_)(c:a∉QH)(d:a∉μ)(f:Ed u:=by intro g z;cases z):Rd H' a u/\a∉p9/\a∉e_:=by
 have b:∀o,H a=Xy o->a∉p9/\a∉e_:=by
  intro o h;constructor
  ·intro m;rcases e.hids a m with z|z
   ·exact c z
   ·rw[z] at h;cases h
  ·intro m;rcases e.fresh a m with z|z
   ·exact d z
   ·rw[z] at h;cases h
 rcases r with r|⟨o,r⟩
 ·exact⟨.inl (e.kept _ _ r d c f),b _ r⟩
 ·exact⟨.inr ⟨o,e.kept _ _ r d c (by intro g z;cases z)⟩,b _ r⟩
def LstAt.mv(h:LstAt K H QH μ a vs)(e:Mv H QH μ H' p9 e_):LstAt K H' p9 e_ a vs:=
 h.imp (λz=>Rd.mv z.1 e z.2.1 z.2.2) id
def TupAt.mv(h:TupAt K H QH μ a vs)(e:Mv H QH μ H' p9 e_):TupAt K H' p9 e_ a vs:=
 h.imp (λz=>Rd.mv z.1 e z.2.1 z.2.2) id
def LstAt.sq(h:LstAt K H QH μ a vs):rn K H a vs:=h.elim (λz=>.inl z.1) .inr
def TupAt.sq(h:TupAt K H QH μ a vs):sC K H a vs:=h.elim (λz=>.inl z.1) λz=>.inr z.1
mutual
theorem Xf.mv(e:Mv H QH μ H' p9 e_):∀{d:D}{v:V},Xf K H QH μ d v->Xf K H' p9 e_ d v
 |.non,_,h=>h
 |.bl _,_,h=>h
 |.int _,_,h=>h
 |.str _,_,h=>h
 | .lst ds,v,h=>by
  unfold Xf at h ⊢;obtain⟨a,f,r,l,q⟩:=h;exact⟨a,f,r,l.mv e,oD.mv e q⟩
 | .tup ds,v,h=>by
  unfold Xf at h ⊢;obtain⟨a,f,r,l,q⟩:=h;exact⟨a,f,r,l.mv e,oD.mv e q⟩
 | .own k,v,h=>by
  unfold Xf at h ⊢;obtain⟨a,r,q⟩:=h;obtain⟨x,rfl⟩:=e.pre;exact⟨a,r,by rw[aK (ao.mp q).1];exact q⟩
 | .dct,v,h=>by
  unfold Xf at h ⊢;obtain⟨a,r,q,b,c⟩:=h;exact⟨a,r,Rd.mv q e b c⟩
 | .exn C,v,h=>by
  unfold Xf at h ⊢;obtain⟨a,i,r,g,q,b,c⟩:=h;exact⟨a,i,r,g,Rd.mv q e b c⟩
 | .tab P,v,h=>by
  unfold Xf at h ⊢;exact⟨h.1,e.tab _ h.2⟩
 | .map ks ds,v,h=>by
  unfold Xf at h ⊢;obtain⟨a,f,r,⟨o,q⟩,b,c,j,d⟩:=h;obtain⟨_,m,n⟩:=Rd.mv (.inr ⟨o,q⟩) e b c;exact⟨a,f,r,⟨o,e.kept a _ q c b (by intro p z;cases z)⟩,m,n,j,oD.mv e d⟩
 |.adr _,_,h=>h
theorem oD.mv(e:Mv H QH μ H' p9 e_):∀{ds:List D}{a:List V},oD K H QH μ ds a->oD K H' p9 e_ ds a
 |[],_,h=>h
 | d::ds,a,h=>by
  unfold oD at h ⊢;obtain⟨v,r,b,c,f⟩:=h;exact⟨v,r,b,Xf.mv e c,oD.mv e f⟩
end
def Xf.ext(e:Ext H μ H' e_)(h:Xf K H QH μ d v):Xf K H' QH e_ d v:=h.mv e.mv
def oD.ext(e:Ext H μ H' e_)(h:oD K H QH μ ds vs):oD K H' QH e_ ds vs:=h.mv e.mv
def oE.mv(h:oE K H QH μ σ b_)(e:Mv H QH μ H' p9 e_):oE K H' p9 e_ σ b_:=
 ⟨h.len,λi d q=>let ⟨v,a,b⟩:=h.at_ i d q;⟨v,a,b.mv e⟩⟩
def oE.ext(h:oE K H QH μ σ b_)(e:Ext H μ H' e_):oE K H' QH e_ σ b_:=h.mv e.mv
def oE.set(h:oE K H QH μ σ b_)(q:Xf K H QH μ d v)(i:Nat):oE K H QH μ (σ.set i (Xy d)) (b_.set i (Xy v)):=by
 refine⟨by simp[h.len],λj x e=>?_⟩;by_cases c:i=j
 ·subst c;have f:i<σ.length:=by have:=(ao.mp e).1;simpa using this
  rw[bE f] at e;cases e;exact⟨v,by rw[bE (by rw[<- h.len];exact f)],q⟩
 ·rw[bu c] at e;obtain⟨w,a,b⟩:=h.at_ j x e;exact⟨w,by rw[bu c];exact a,b⟩
theorem oD.length:∀{ds:List D}{a:List V},oD K H QH μ ds a->ds.length=a.length
 |[],_,h=>by unfold oD at h;subst h;rfl
 | d::ds,a,h=>by
  obtain⟨v,r,rfl,_,b⟩:=h;simp[oD.length b]
def oD.nil:oD K H QH μ [] []:=by unfold oD;rfl
def oD.cons(h:Xf K H QH μ d v)(t:oD K H QH μ ds vs):oD K H QH μ (d::ds) (v::vs):=by unfold oD;exact⟨v,vs,rfl,h,t⟩
theorem oD.append:∀{ds a:List D}{b c:List V},oD K H QH μ ds b->oD K H QH μ a c->oD K H QH μ (ds++a) (b++c)
 |[],_,_,_,h,t=>by unfold oD at h;subst h;exact t
 | d::ds,a,b,c,h,t=>by
  obtain⟨v,r,rfl,e,f⟩:=h;exact .cons e (oD.append f t)
theorem oD.get:∀{ds:List D}{c:List V}{i:Nat}{d:D},oD K H QH μ ds c->ds[i]?=Xy d->∃v,c[i]?=Xy v/\Xf K H QH μ d v
 |[],_,_,_,_,e=>by simp at e
 | d::ds,c,0,x,h,e=>by
  obtain⟨v,r,rfl,f,g⟩:=h;simp at e;subst e;exact⟨v,by simp,f⟩
 | d::ds,c,i+1,x,h,e=>by
  obtain⟨v,r,rfl,f,g⟩:=h;obtain⟨z,a,b⟩:=oD.get g ⇑e;exact⟨z,by simpa using a,b⟩
theorem oD.take:∀{ds:List D}{a:List V}(n:Nat),oD K H QH μ ds a->oD K H QH μ (ds.take n) (a.take n)
 |_,_,0,_=>by simpa using oD.nil
 |[],_,n+1,h=>by unfold oD at h;subst h;simpa using oD.nil
 | d::ds,a,n+1,h=>by
  obtain⟨v,r,rfl,b,c⟩:=h;simpa using oD.cons b (oD.take n c)
theorem oD.drop:∀{ds:List D}{a:List V}(n:Nat),oD K H QH μ ds a->oD K H QH μ (ds.drop n) (a.drop n)
 |_,_,0,h=>by simpa using h
 |[],_,n+1,h=>by unfold oD at h;subst h;simpa using oD.nil
 | d::ds,a,n+1,h=>by
  obtain⟨v,r,rfl,c,b⟩:=h;simpa using oD.drop n b
theorem oD.set(q:Xf K H QH μ d v):∀{ds:List D}{a:List V}(i:Nat),oD K H QH μ ds a->oD K H QH μ (ds.set i d) (a.set i v)
 |[],_,i,h=>by unfold oD at h;subst h;simpa using oD.nil
 | x::ds,a,0,h=>by
  obtain⟨w,r,rfl,c,b⟩:=h;simpa using oD.cons q b
 | x::ds,a,i+1,h=>by
  obtain⟨w,r,rfl,c,b⟩:=h;simpa using oD.cons c (oD.set q i b)
theorem oD.rev:∀{ds:List D}{a:List V},oD K H QH μ ds a->oD K H QH μ ds.reverse a.reverse
 |[],_,h=>by unfold oD at h;subst h;simpa using oD.nil
 | d::ds,a,h=>by
  unfold oD at h;obtain⟨v,r,rfl,b,c⟩:=h;simpa using oD.append (oD.rev c) (.cons b .nil)
def yH(b:ae)(h:H b≠XV):upd H p o b≠XV:=by
 by_cases e:b=p
 ·subst e;rw[rZ];simp
 ·rw[qi e];exact h
def Ext.laid(h:H p=XV):Ext H μ (upd H p o) μ:=
 ⟨⟨[],by simp⟩,λb u e _ _=>by rw[qi (sR e h)];exact e,λ_ m=>.inl m,yH,λ_ t=>t.upd (.inl h)⟩
def oC.laid(c:oC K H QH μ O)(h:H p=XV):oC K (upd H p o) QH μ O:=by
 refine⟨c.len,c.nd,c.nh,λa m=>?_,λk a e=>?_⟩
 ·by_cases q:a=p
  ·subst q;rw[rZ];simp
  ·rw[qi q];exact c.ht a m
 ·obtain⟨d,f,g,b,i⟩:=c.at_ k a e;exact⟨d,f,g,by rw[qi (sR b h)];exact b,i.ext (.laid h)⟩
def oC.not_in(c:oC K H QH μ O)(h:H p=XV):p∉QH/\p∉μ:=by refine⟨λm=>c.ht p m h,λm=>?_⟩;obtain⟨k,b,e⟩:=dM.mp m;obtain⟨d,f,_,a,_⟩:=c.at_ k p (by rw[ao];exact⟨b,e⟩);rw[h] at a;cases a
def Xf.newL(c:oC K H QH μ O)(h:H p=XV)(q:oD K H QH μ ds vs):Xf K (upd H p (.lst vs)) QH μ (.lst ds) (.ref p):=by exact⟨p,vs,rfl,.inl ⟨.inl rZ,c.not_in h⟩,q.ext (.laid h)⟩
def Xf.newT(c:oC K H QH μ O)(h:H p=XV)(q:oD K H QH μ ds vs):Xf K (upd H p (.tup vs)) QH μ (.tup ds) (.ref p):=by exact⟨p,vs,rfl,.inl ⟨.inl rZ,c.not_in h⟩,q.ext (.laid h)⟩
def Ext.cell(h:H p=XV):Ext H μ (upd H p o) (μ++[p]):=
 ⟨⟨[p],rfl⟩,λb u e _ _=>by rw[qi (sR e h)];exact e,λb m=>by
  rcases aM.mp m with m|m
  ·exact .inl m
  ·have:b=p:=⇑m
   subst this;exact .inr h,yH,λ_ t=>t.upd (.inl h)⟩
def oC.cell(c:oC K H QH μ O)(h:H p=XV)(q:oD K H QH μ ds vs):oC K (upd H p (.lst vs)) QH (μ++[p]) (O++[ds]):=by
 have d:=c.not_in h;refine⟨by simp[c.len],?_,λa m=>?_,λa m=>?_,λk a e=>?_⟩
 ·rw[dS];refine⟨c.nd,by simp,λa i b j=>?_⟩;have:b=p:=⇑j
  subst this;rintro rfl;exact d.2 i
 ·rcases aM.mp m with m|m
  ·exact c.nh a m
  ·have:a=p:=⇑m
   subst this;exact d.1
 ·by_cases q:a=p
  ·subst q;rw[rZ];simp
  ·rw[qi q];exact c.ht a m
 ·by_cases f:k<μ.length
  ·rw[aK f] at e;obtain⟨l,n,o,g,r⟩:=c.at_ k a e;exact⟨l,n,by rw[aK (by rw[<- c.len];exact f)];exact o,by rw[qi (sR g h)];exact g,r.ext (.cell h)⟩
  ·rw[aS 'd'] at e;have s:k-μ.length=0:=by
    have:=(ao.mp e).1;simp at this;lia
   rw[s] at e;simp at e;subst e;refine⟨ds,vs,?_,rZ,q.ext (.cell h)⟩;have:k=O.length:=by have:=c.len;lia
   subst this;simp
def Ext.put(h:p∈μ)(a:∃c,H p=Xy (.lst c)):Ext H μ (upd H p o) μ:=
 ⟨⟨[],by simp⟩,λb u e n _=>by rw[qi (by rintro rfl;exact n h)];exact e,λ_ m=>.inl m,yH,λ_ t=>t.upd (.inr a)⟩
def oC.put(c:oC K H QH μ O)(d:μ[k]?=Xy p)(q:oD K H QH μ ds b):oC K (upd H p (.lst b)) QH μ (O.set k ds):=by
 have h:=aF d;have i:∃b,H p=Xy (.lst b):=let ⟨_,b,_,f,_⟩:=c.at_ k p d;⟨b,f⟩;refine⟨by simp[c.len],c.nd,c.nh,λa m=>?_,λj a e=>?_⟩
 ·by_cases q:a=p
  ·subst q;rw[rZ];simp
  ·rw[qi q];exact c.ht a m
 ·by_cases g:j=k
  ·subst g;rw[d] at e;cases e;refine⟨ds,b,?_,rZ,q.ext (.put h i)⟩;rw[bE (by rw[<- c.len];exact(ao.mp d).1)]
  ·have n:a≠p:=by
    rintro rfl;obtain⟨l,o⟩:=ao.mp e;obtain⟨f,r⟩:=ao.mp d;exact g ((j9 c.nd).mp (o.trans r.symm))
   obtain⟨s,t,l,f,u⟩:=c.at_ j a e;exact⟨s,t,by rw[bu (bP g)];exact l,by rw[qi n];exact f,u.ext (.put h i)⟩
end
section
variable(Ex:Nat->Hp->Prop)(K:ai)
def post{α β:Type}(rel:Hp->List ae->α->β->Prop)(H:Hp)(QH μ:List ae)(r:R α)(Q:β->Hp->Prop):Prop:=match r with
 |.ok d O'=>∀v H' e_,Ext H μ H' e_->oC K H' QH e_ O'->rel H' e_ d v->Q v H'
 |.exc c O'=>∀H' e_,Ext H μ H' e_->oC K H' QH e_ O'->Ex c H'
 |.bad=>False
abbrev rM(H:Hp)(QH μ:List ae)(r:R D)(Q:VK):Prop:=post Ex K (λH' e_ d v=>Xf K H' QH e_ d v) H QH μ r Q
abbrev yB(H:Hp)(QH μ:List ae)(r:R Bool)(Q:Bool->Hp->Prop):Prop:=post Ex K (λ_ _ d v=>d=v) H QH μ r Q
abbrev Qs(H:Hp)(QH μ:List ae)(r:R (List D))(Q:List V->Hp->Prop):Prop:=post Ex K (λH' e_ d v=>oD K H' QH e_ d v) H QH μ r Q
def rd(t:DE):TE:=λb_ H Q=>∃QH μ σ O,oE K H QH μ σ b_/\oC K H QH μ O/\rM Ex K H QH μ (t σ O) Q
def yI(t:DT):TT:=λb_ H Q=>∃QH μ σ O,oE K H QH μ σ b_/\oC K H QH μ O/\yB Ex K H QH μ (t σ O) Q
def uT(t:DA):TA:=λb_ H Q=>∃QH μ σ O,oE K H QH μ σ b_/\oC K H QH μ O/\Qs Ex K H QH μ (t σ O) Q
end
section
variable{Ex:Nat->Hp->Prop}{K:ai}{H H1:Hp}{QH μ g_:List ae}
def post.ext{α β:Type}{a:Hp->List ae->α->β->Prop}{r:R α}{Q:β->Hp->Prop}(h:post Ex K a H QH μ r Q)(e:Ext H μ H1 g_):post Ex K a H1 QH g_ r Q:=by
 cases r with
 |ok d O'=>exact λv b f g c q=>h v b f (e.trans g) c q
 |exc c O'=>exact λb f g c=>h b f (e.trans g) c
 |bad=>exact h
def post.bnd{α β b f:Type}{a:Hp->List ae->α->β->Prop}{g:Hp->List ae->b->f->Prop}{r:R α}{k:α->Ow->R b}{Q:f->Hp->Prop}{Q1:β->Hp->Prop}
  (h:post Ex K g H QH μ (r.bnd k) Q)
  (i:∀d O1 v H1 g_,Ext H μ H1 g_->oC K H1 QH g_ O1->a H1 g_ d v->post Ex K g H1 QH g_ (k d O1) Q->Q1 v H1):post Ex K a H QH μ r Q1:=by
 cases r with
 |ok d O'=>exact λv j l e c q=>i d O' v j l e c q (post.ext (h) e)
 |exc c O'=>exact h
 |bad=>exact h
def post.ok{α β:Type}{a:Hp->List ae->α->β->Prop}{d:α}{O:Ow}{Q:β->Hp->Prop}{v:β}(h:post Ex K a H QH μ (.ok d O) Q){H':Hp}{b:List ae}(e:Ext H μ H' b)(c:oC K H' QH b O)(q:a H' b d v):Q v H':=h v H' b e c q
def post.here{α β:Type}{a:Hp->List ae->α->β->Prop}{d:α}{O:Ow}{Q:β->Hp->Prop}{v:β}(h:post Ex K a H QH μ (.ok d O) Q)(c:oC K H QH μ O)(q:a H μ d v):Q v H:=h v H μ .refl c q
end
structure PD(X:Cx)(Ex:Nat->Hp->Prop)(e:aT)(t:DE):Prop where
 out:PE X e (rd Ex X.K t)
structure sj(X:Cx)(Ex:Nat->Hp->Prop)(e:aT)(t:DT):Prop where
 out:PT X e (yI Ex X.K t)
structure uA(X:Cx)(Ex:Nat->Hp->Prop)(es:List aT)(t:DA):Prop where
 out:PA X es (uT Ex X.K t)
def PE.imp(h:PE X e t)(f:∀σ H Q,t' σ H Q->t σ H Q):PE X e t':=λa s σ H Q I q=>h a s σ H Q I (f σ H Q q)
def PT.imp(h:PT X e t)(f:∀σ H Q,t' σ H Q->t σ H Q):PT X e t':=λa s σ H Q I q=>h a s σ H Q I (f σ H Q q)
def PA.imp(h:PA X e t)(f:∀σ H Q,t' σ H Q->t σ H Q):PA X e t':=λb a s σ H Q I q=>h b a s σ H Q I (f σ H Q q)
def PW.imp(h:PW X e t)(f:∀σ H Q,t' σ H Q->t σ H Q):PW X e t':=λw a s σ H Q I q=>h w a s σ H Q I (f σ H Q q)
end DL
namespace DL
open PySem L2
def qN(i:Nat):DE:=λσ O=>match σ[i]? with
 |some (Xy d)=>.ok d O
 |_=>.bad
def dC(d:D):DE:=λ_ O=>.ok d O
section
variable{X:Cx}{Ex:Nat->Hp->Prop}{pos:Pos}{a b c:aT}{ta tb tc:DE}
def sE{e:aT}{t:TE}{t':DE}(h:PE X e t)(f:∀QH d σ O g H Q,oE X.K H QH d σ g->oC X.K H QH d O->rM Ex X.K H QH d (t' σ O) Q->t g H Q):PD X Ex e t':=
 ⟨PE.imp h λg H Q ⟨QH,d,σ,O,i,j,q⟩=>f QH d σ O g H Q i j q⟩
def I_{e:aT}{t:TT}{t':DT}(h:PT X e t)(f:∀QH d σ O g H Q,oE X.K H QH d σ g->oC X.K H QH d O->yB Ex X.K H QH d (t' σ O) Q->t g H Q):sj X Ex e t':=
 ⟨PT.imp h λg H Q ⟨QH,d,σ,O,i,j,q⟩=>f QH d σ O g H Q i j q⟩
def RG(h:PA X e t)(f:∀QH d σ O g H Q,oE X.K H QH d σ g->oC X.K H QH d O->Qs Ex X.K H QH d (t' σ O) Q->t g H Q):uA X Ex e t':=
 ⟨PA.imp h λg H Q ⟨QH,d,σ,O,i,j,q⟩=>f QH d σ O g H Q i j q⟩
def rd.go{j l:Type}{m:Hp->List ae->j->l->Prop}{t:DE}{QH h:List ae}{σ:Sg}{O:Ow}{i:St}{H:Hp}{Q1:VK}{k:D->Ow->R j}{Q:l->Hp->Prop}(n:oE X.K H QH h σ i)(o:oC X.K H QH h O)
  (q:post Ex X.K m H QH h ((t σ O).bnd k) Q)
  (f:∀d O1 v e g,oE X.K e QH g σ i->Ext H h e g->oC X.K e QH g O1->Xf X.K e QH g d v->post Ex X.K m e QH g (k d O1) Q->Q1 v e):rd Ex X.K t i H Q1:=
 ⟨QH,h,σ,O,n,o,post.bnd q λd O1 v e g x c r p=>f d O1 v e g (n.ext x) x c r p⟩
def yI.go{j l:Type}{m:Hp->List ae->j->l->Prop}{t:DT}{QH h:List ae}{σ:Sg}{O:Ow}{i:St}{H:Hp}{Q1:Bool->Hp->Prop}{k:Bool->Ow->R j}{Q:l->Hp->Prop}(n:oE X.K H QH h σ i)(o:oC X.K H QH h O)
  (q:post Ex X.K m H QH h ((t σ O).bnd k) Q)
  (f:∀v O1 e g,oE X.K e QH g σ i->Ext H h e g->oC X.K e QH g O1->post Ex X.K m e QH g (k v O1) Q->Q1 v e):yI Ex X.K t i H Q1:=
 ⟨QH,h,σ,O,n,o,post.bnd q λd O1 v e g x c r p=>by
  subst r;exact f d O1 e g (n.ext x) x c p⟩
def uT.go{j l:Type}{m:Hp->List ae->j->l->Prop}{t:DA}{QH h:List ae}{σ:Sg}{O:Ow}{i:St}{H:Hp}{Q1:List V->Hp->Prop}{k:List D->Ow->R j}{Q:l->Hp->Prop}(n:oE X.K H QH h σ i)(o:oC X.K H QH h O)
  (q:post Ex X.K m H QH h ((t σ O).bnd k) Q)
  (f:∀d O1 v e g,oE X.K e QH g σ i->Ext H h e g->oC X.K e QH g O1->oD X.K e QH g d v->post Ex X.K m e QH g (k d O1) Q->Q1 v e):uT Ex X.K t i H Q1:=
 ⟨QH,h,σ,O,n,o,post.bnd q λd O1 v e g x c r p=>f d O1 v e g (n.ext x) x c r p⟩
def zkK(f:X.N[i]?=Xy x)(g:vK X.env.scope x)(e:s9 x:=by decide)(h:(x==("__classdict__":aB))=Y1:=by decide):PD X Ex (.Name x pos) (qN i):=
 sE (IS f g e h) λj o p O r H Q k l q=>by
  unfold qN at q;split at q
  ·rename_i d e;obtain⟨v,m,n⟩:=k.at_ i d e;exact⟨v,m,post.here q l n⟩
  ·exact aj q
def zkW:PD X Ex (.Constant (.int i) j pos) (dC (.int i)):=sE RO λd f g O h H Q k e q=>post.here q e (by unfold Xf;rfl)
def Yd:PD X Ex (.Constant (.bool i) j pos) (dC (.bl i)):=sE X_ λd f g O h H Q k e q=>post.here q e (by unfold Xf;rfl)
def ZN:PD X Ex (.Constant .none j pos) (dC .non):=sE Rh λd f g O h H Q i e q=>post.here q e (by unfold Xf;rfl)
def Zw(cs:n_)(h:x=⟨cs.toArray⟩):PD X Ex (.Constant (.str x) j pos) (dC (.str cs)):=sE RM λd f g O i H Q k e q=>post.here q e (by unfold Xf;rw[h])
def zfq(cs:n_)(d:Gl X x)(e:X.mg x=Xy (.str y t))(h:y=⟨cs.toArray⟩)(f:s9 x:=by decide):PD X Ex (.Name x pos) (dC (.str cs)):=
 sE (Jh (v:=.str y) d e ⟨t,rfl⟩ f) λg j k O l H Q m i q=>post.here q i (by unfold Xf;rw[h])
def c_(f:Ow->D->D->R D)(ta tb:DE):DE:=λσ O=>(ta σ O).bnd λx O1=>(tb σ O1).bnd λy O2=>f O2 x y
def sS(X:Cx)(Ex:Nat->Hp->Prop)(r:R2)(f:Ow->D->D->R D):Prop:=∀(H:Hp)(QH μ:List ae)(O:Ow)(x y:D)(v w:V)(Q:VK),oC X.K H QH μ O->Xf X.K H QH μ x v->Xf X.K H QH μ y w->rM Ex X.K H QH μ (f O x y) Q->r v w H Q
def IY{r:R2}{f:Ow->D->D->R D}(h:sS X Ex r f)(QH d:List ae)(σ:Sg)(O:Ow)(e:St)(H:Hp)(Q:VK)(g:oE X.K H QH d σ e)(i:oC X.K H QH d O)(q:rM Ex X.K H QH d (c_ f ta tb σ O) Q):
  Gv r (rd Ex X.K ta) (rd Ex X.K tb) e H Q:=
 rd.go g i q λx A v B C j E k l m=>rd.go j k m λy n w o p F s t u z=>h o QH p n x y v w Q t (l.ext s) u z
def LB(d:qZ X (dU op) r)(h:sS X Ex r f)(e:PD X Ex a ta)(g:PD X Ex b tb):PD X Ex (.BinOp a op b pos) (c_ f ta tb):=
 sE (YC d e.out g.out) (IY h)
def LV(d:qZ X (cD op) r)(h:sS X Ex r f)(e:PD X Ex a ta)(g:PD X Ex b tb)(i:behindInMarks op b=Y1):PD X Ex (.Compare a [op] [b] pos) (c_ f ta tb):=
 sE (zjQ d e.out g.out i) (IY h)
def qd(t:DE):DT:=λσ O=>(t σ O).bnd λx O1=>match x with
 |.bl k=>.ok k O1
 |_=>.bad
def Ue(f:∀QH e σ O g H Q,oE X.K H QH e σ g->oC X.K H QH e O->rM Ex X.K H QH e (td σ O) Q->t g H Q)(QH e:List ae)(σ:Sg)(O:Ow)(g:St)(H:Hp)(Q:Bool->Hp->Prop)
  (h:oE X.K H QH e σ g) (i:oC X.K H QH e O) (q:yB Ex X.K H QH e (qd td σ O) Q):Q6 t g H Q:=by
 refine f QH e σ O g H _ h i (post.bnd q λd j v l m x c r p=>?_);cases d with
 | bl k=>
  exact⟨k,r,post.here p c rfl⟩
 |_=>exact aj p
def Eo(d:qZ X (cD op) r)(h:sS X Ex r f)(e:PD X Ex a ta)(g:PD X Ex b tb)(i:behindInMarks op b=Y1):sj X Ex (.Compare a [op] [b] pos) (qd (c_ f ta tb)):=
 I_ (zhs d e.out g.out i) (Ue (IY h))
noncomputable def DN(O:Ow):D->R Bool
 |.non=>.ok Y1 O
 |.bl b=>.ok b O
 |.int i=>.ok (i !=0) O
 |.str cs=>if cs.length<=4000000 then .ok (!cs.isEmpty) O else .bad
 |.lst ds=>.ok (!ds.isEmpty) O
 |.tup ds=>.ok (!ds.isEmpty) O
 | .own k=>match O[k]? with
  |some ds=>.ok (!ds.isEmpty) O
  |none=>.bad
 |.dct=>.bad
 |.exn _=>.bad
 |.tab _=>.bad
 |.map _ _=>.bad
 |.adr _=>.bad
def qH(t:DE):DT:=λσ O=>(t σ O).bnd λx O1=>DN O1 x
def zj{n:Nat}(h:n<=4000000):n<=Kw:=aH h 'u'
def Nq{K:ai}{H:Hp}{QH f:List ae}{ds:List D}{d:List V}(h:oD K H QH f ds d):(!ds.isEmpty) = !d.isEmpty:=by have e:=h.length;cases ds<;>cases d<;>simp_all
def zim(u:PD X Ex a ta)(w:∀t,isTrue a X.env t=(do let v <- t;standAt a.pos;holding [v] (truthy v))):sj X Ex a (qH ta):=
 I_ (zgo u.out w) λf E F O G H Q y z q=>rd.go y z q λd h v i j I x c r p=>by
  cases d with
  |non=>unfold Xf at r;subst r;exact⟨_,rfl,post.here p c rfl⟩
  |bl b=>unfold Xf at r;subst r;exact⟨_,rfl,post.here p c rfl⟩
  |int b=>unfold Xf at r;subst r;exact⟨_,rfl,post.here p c rfl⟩
  | str cs=>
   unfold Xf at r;subst r;by_cases o:cs.length<=4000000
   ·have s:yB Ex X.K i f j (.ok (!cs.isEmpty) h) Q:=by
     have g:yB Ex X.K i f j (if cs.length<=4000000 then .ok (!cs.isEmpty) h else .bad) Q:=p;rw[Kk o] at g;exact g
    refine⟨_,⟨?_,rfl⟩,?_⟩
    ·show cs.toArray.size<=_;rw[aL];exact zj o
    ·have e:(((⟨cs.toArray⟩:aB).length:Int) !=0) = !cs.isEmpty:=by
      show((cs.toArray.size:Int) !=0)=_;cases cs<;>simp[bne];lia
     rw[e];exact post.here s c rfl
   ·have g:yB Ex X.K i f j (if cs.length<=4000000 then .ok (!cs.isEmpty) h else .bad) Q:=p;rw[Ko o] at g;exact aj g
  | lst m=>
   obtain⟨a,n,rfl,l,q⟩:=r;exact⟨_,.inl ⟨n,l.sq,rfl⟩,by rw[<- Nq q];exact post.here p c rfl⟩
  | tup m=>
   obtain⟨a,n,rfl,l,q⟩:=r;exact⟨_,.inr (.inl ⟨n,l.sq,rfl⟩),by rw[<- Nq q];exact post.here p c rfl⟩
  | own k=>
   obtain⟨a,rfl,A⟩:=r;obtain⟨m,n,B,C,D⟩:=c.at_ k a A;have s:yB Ex X.K i f j (.ok (!m.isEmpty) h) Q:=by
    have g:yB Ex X.K i f j (match h[k]? with|some m=>.ok (!m.isEmpty) h|none=>.bad) Q:=p;rw[B] at g;exact g
   exact⟨_,.inl ⟨n,.of C,rfl⟩,by rw[<- Nq D];exact post.here s c rfl⟩
  |dct=>exact aj p
  |exn _=>exact aj p
  |tab _=>exact aj p
  |map _ _=>exact aj p
  |adr _=>exact aj p
noncomputable def fI(g:Int->Int->Option D):Ow->D->D->R D:=λO x y=>match x,y with
 | .int i,.int j=>match g i j with
  |some d=>.ok d O
  |none=>.bad
 |_,_=>.bad
def El(h:∀i j d,g i j=Xy d->C i j/\∀K H QH e,Xf K H QH e d (gv i j)):sS X Ex (rI C gv) (fI g):=by
 intro H QH e O x y v w Q c f k q;unfold fI at q;split at q
 ·rename_i i j;subst f;subst k;split at q
  ·rename_i d l;obtain⟨m,n⟩:=h i j d l;exact⟨i,j,rfl,rfl,m,post.here q c (n _ _ _ _)⟩
  ·exact aj q
 ·exact aj q
def Cz(h:∀i j d,g i j=Xy d->∀K H QH e,Xf K H QH e d (gv i j)):sS X Ex (uU gv) (fI g):=by
 intro H QH e O x y v w Q c f k q;unfold fI at q;split at q
 ·rename_i i j;subst f;subst k;split at q
  ·rename_i d l;exact⟨i,j,rfl,rfl,post.here q c (h i j d l _ _ _ _)⟩
  ·exact aj q
 ·exact aj q
def sP:Xf K H QH μ (.int i) (.int i):=by unfold Xf;rfl
def vS{K H QH μ}{i:Bool}:Xf K H QH μ (.bl i) (.bl i):=by unfold Xf;rfl
def Jn:Xf K H QH μ .non .non:=by unfold Xf;rfl
def Ma:Xf K H QH μ (.str cs) (.str ⟨cs.toArray⟩):=by unfold Xf;rfl
def gB(p:Int->Int->Bool):Int->Int->Option D:=λi j=>Xy (.bl (p i j))
noncomputable def gI(p:Int->Int->Int):Int->Int->Option D:=λi j=>Xy (.int (p i j))
def xm:Int->Int->Option D:=gI λi j=>i-j
noncomputable def u4:Int->Int->Option D:=λi j=>if (-1000000000000000<i/\i<1000000000000000)\/(-1000000000000000<j/\j<1000000000000000) then Xy (.int (i*j)) else XV
def yw:Int->Int->Option D:=λi j=>if 0<j/\j<1073741824 then Xy (.int (i/j)) else XV
def uN:Int->Int->Option D:=λi j=>if 0<j then Xy (.int (i%j)) else XV
def Fi:Int->Int->Option D:=λi j=>if 0<=j/\j<=1000000/\i.natAbs<2 ^ 64 then Xy (.int (i ^ j.toNat)) else XV
def xC:Int->Int->Option D:=λi j=>if 0<=j/\j<=1000000/\i.natAbs<2 ^ 64 then Xy (.int (i*2 ^ j.toNat)) else XV
def ziC:sS X Ex (uU λi j=>.int (i-j)) (fI xm):=Cz λi j d h _ _ _ _=>by cases h;exact sP
def zjX:sS X Ex (rI pI λi j=>.int (i*j)) (fI u4):=El λi j d h=>by
 unfold u4 at h;split at h
 ·rename_i e;cases h;exact⟨e.imp (λz=>⟨by lia,by lia⟩) λz=>⟨by lia,by lia⟩,λ_ _ _ _=>sP⟩
 ·cases h
def zhv:sS X Ex (rI Qb λi j=>.int (i/j)) (fI yw):=El λi j d h=>by
 unfold yw at h;split at h
 ·rename_i e;cases h;exact⟨e,λ_ _ _ _=>sP⟩
 ·cases h
def zhi:sS X Ex (rI (λ_ j=>0<j) λi j=>.int (i%j)) (fI uN):=El λi j d h=>by
 unfold uN at h;split at h
 ·rename_i e;cases h;exact⟨e,λ_ _ _ _=>sP⟩
 ·cases h
def zit:sS X Ex (rI Ib λi j=>.int (i ^ j.toNat)) (fI Fi):=El λi j d h=>by
 unfold Fi at h;split at h
 ·rename_i e;cases h;exact⟨e,λ_ _ _ _=>sP⟩
 ·cases h
def zji:sS X Ex (rI Ib λi j=>.int (i*2 ^ j.toNat)) (fI xC):=El λi j d h=>by
 unfold xC at h;split at h
 ·rename_i e;cases h;exact⟨e,λ_ _ _ _=>sP⟩
 ·cases h
def xQ:Ow->D->D->R D:=fI (gB λi j=>decide (i<j))
def HG:Ow->D->D->R D:=fI (gB λi j=>decide (i<=j))
def DB:Ow->D->D->R D:=fI (gB λi j=>decide (j<=i))
def LJ:sS X Ex (uU λi j=>.bl (decide (i<j))) xQ:=Cz λi j d h _ _ _ _=>by cases h;exact vS
def RL:sS X Ex (uU λi j=>.bl (decide (i<=j))) HG:=Cz λi j d h _ _ _ _=>by cases h;exact vS
def Rk:sS X Ex (uU λi j=>.bl (decide (j<=i))) DB:=Cz λi j d h _ _ _ _=>by cases h;exact vS
def QG:D->Bool
 |.non=>YP
 |_=>Y1
def K8:Ow->D->D->R D:=λO x y=>match y with
 |.non=>.ok (.bl (QG x)) O
 |_=>.bad
def zi0(h:Xf K H QH μ x v):decide (v=.non)=QG x:=by
 cases x with
 |non=>unfold Xf at h;subst h;rfl
 |bl _=>unfold Xf at h;subst h;rfl
 |int _=>unfold Xf at h;subst h;rfl
 |str _=>unfold Xf at h;subst h;rfl
 |lst _=>unfold Xf at h;obtain⟨_,_,rfl,_⟩:=h;rfl
 |tup _=>unfold Xf at h;obtain⟨_,_,rfl,_⟩:=h;rfl
 |own _=>unfold Xf at h;obtain⟨_,rfl,_⟩:=h;rfl
 |dct=>unfold Xf at h;obtain⟨_,rfl,_⟩:=h;rfl
 |exn _=>unfold Xf at h;obtain⟨_,_,rfl,_⟩:=h;rfl
 |tab _=>unfold Xf at h;obtain⟨rfl,_⟩:=h;rfl
 |map _ _=>unfold Xf at h;obtain⟨_,_,rfl,_⟩:=h;rfl
 |adr _=>unfold Xf at h;subst h;rfl
def ziI:sS X Ex (λx y H Q=>y=.non/\Q (.bl (decide (x=.non))) H) K8:=by
 intro H e g O x y v w Q c f d q;cases y with
 | non=>
  unfold Xf at d;subst d;refine⟨rfl,?_⟩;rw[zi0 f];exact post.here (q) c vS
 |_=>exact aj q
def zN(t u:DE):DE:=λσ O=>(t σ O).bnd λx O1=>match x with
 |.bl YP=>u σ O1
 |.bl Y1=>.ok (.bl Y1) O1
 |_=>.bad
def PF(t u:DE):DE:=λσ O=>(t σ O).bnd λx O1=>match x with
 |.bl YP=>.ok (.bl YP) O1
 |.bl Y1=>u σ O1
 |_=>.bad
def Fj(t:DE):DE:=λσ O=>(t σ O).bnd λx O1=>match x with
 |.bl b=>.ok (.bl (!b)) O1
 |_=>.bad
def vw(t u:DT):DT:=λσ O=>(t σ O).bnd λx O1=>if x=YP then u σ O1 else .ok Y1 O1
def xB(t u:DT):DT:=λσ O=>(t σ O).bnd λx O1=>if x=YP then .ok YP O1 else u σ O1
def sO(t:DT):DT:=λσ O=>(t σ O).bnd λx O1=>.ok (!x) O1
def zl8(d:PD X Ex a ta):PD X Ex (.BoolOp op [a] pos) ta:=⟨zlJ d.out⟩
def Zr{e:List aT}(g:PD X Ex a ta)(h:PD X Ex (.BoolOp .And (b::e) pos) tb):PD X Ex (.BoolOp .And (a::b::e) pos) (zN ta tb):=
 sE (Z_ g.out h.out) λf s i O t H Q j l q=>rd.go j l q λd m v u n o x c r p=>by
  cases d with
  | bl k=>
   unfold Xf at r;subst r;refine⟨k,rfl,?_⟩;cases k with
   |true=>rw[Kk rfl];exact⟨f,n,i,m,o,c,p⟩
   |false=>rw[Ko cE];exact post.here p c vS
  |_=>exact aj p
def Yb{e:List aT}(g:PD X Ex a ta)(h:PD X Ex (.BoolOp .Or (b::e) pos) tb):PD X Ex (.BoolOp .Or (a::b::e) pos) (PF ta tb):=
 sE (YX g.out h.out) λf s i O t H Q j l q=>rd.go j l q λd m v u n o x c r p=>by
  cases d with
  | bl k=>
   unfold Xf at r;subst r;refine⟨k,rfl,?_⟩;cases k with
   |true=>rw[Kk rfl];exact post.here p c vS
   |false=>rw[Ko cE];exact⟨f,n,i,m,o,c,p⟩
  |_=>exact aj p
def ZR(e:PD X Ex a ta):PD X Ex (.UnaryOp .Not a pos) (Fj ta):=
 sE (zkJ e.out) λf i j O l H Q g h q=>rd.go g h q λd m v n o s x c r p=>by
  cases d with
  |bl k=>unfold Xf at r;subst r;exact⟨k,rfl,post.here p c vS⟩
  |_=>exact aj p
structure xS(X:Cx)(Ex:Nat->Hp->Prop)(e:aT)(t:DT):Prop where
 out:PW X e (yI Ex X.K t)
def xS.pt(h:xS X Ex e t):sj X Ex e t:=⟨L2.PW.pt h.out⟩
def RN{e:aT}{t:TT}{t':DT}(h:PW X e t)(f:∀QH d σ O g H Q,oE X.K H QH d σ g->oC X.K H QH d O->yB Ex X.K H QH d (t' σ O) Q->t g H Q):xS X Ex e t':=
 ⟨PW.imp h λg H Q ⟨QH,d,σ,O,i,j,q⟩=>f QH d σ O g H Q i j q⟩
def zis{d:List aT}{f g:DT}(h:sj X Ex a f)(i:xS X Ex (.BoolOp .And (b::d) pos) g):xS X Ex (.BoolOp .And (a::b::d) pos) (vw f g):=
 RN (ZG h.out i.out) λe s j O t H Q l m q=>yI.go l m q λk n u o r x c p=>by
  cases k with
  |true=>rw[Kk rfl];exact⟨e,o,j,n,r,c,p⟩
  |false=>rw[Ko cE];exact post.here p c rfl
def zkU{d:List aT}{f g:DT}(h:sj X Ex a f)(i:xS X Ex (.BoolOp .Or (b::d) pos) g):xS X Ex (.BoolOp .Or (a::b::d) pos) (xB f g):=
 RN (YU h.out i.out) λe s j O t H Q l m q=>yI.go l m q λk n u o r x c p=>by
  cases k with
  |true=>rw[Kk rfl];exact post.here p c rfl
  |false=>rw[Ko cE];exact⟨e,o,j,n,r,c,p⟩
def zf9(d:sj X Ex a tA):xS X Ex (.BoolOp .And [a] pos) tA:=⟨zjl d.out⟩
def ziZ(d:sj X Ex a tA):xS X Ex (.BoolOp .Or [a] pos) tA:=⟨zl3 d.out⟩
def zhj{d:DT}(e:sj X Ex a d):sj X Ex (.UnaryOp .Not a pos) (sO d):=
 I_ (zlC e.out) λf i j O l H Q g h q=>yI.go g h q λk m n o r x c p=>post.here p c rfl
noncomputable def LK(f g:Ow->D->D->R D)(ta tb tc:DE):DE:=λσ O=>(ta σ O).bnd λx O1=>(tb σ O1).bnd λy O2=>(f O2 x y).bnd λz O3=>match z with
 |.bl YP=>(tc σ O3).bnd λw O4=>g O4 y w
 |.bl Y1=>.ok (.bl Y1) O3
 |_=>.bad
def zfM{e i:CmpOp}{r j:R2}{f g:Ow->D->D->R D}(s:qZ X (cD e) r)(h:sS X Ex r f)(t:qZ X (cD i) j)(h':sS X Ex j g)(A:PD X Ex a ta)(B:PD X Ex b tb)(C:PD X Ex c tc)
  (E:lastMarks [e,i] [b,c]=Y1:=by with_unfolding_all rfl):PD X Ex (.Compare a [e,i] [b,c] pos) (LK f g ta tb tc):=
 sE (zfl s t A.out B.out C.out E) λd μ σ O b_ H Q F G q=>rd.go F G q λx O1 v H1 g_ I x2 J K L=>rd.go I J L λy M w N P S T U l V=>
  h N d P M x y v w _ U (K.ext T) l (post.bnd V λz O3 u H3 DJ m n o p=>by
   cases z with
   | bl k=>
    unfold Xf at o;subst o;refine⟨k,rfl,?_⟩;cases k with
    |true=>rw[Kk rfl];exact rd.go (S.ext m) n p λW Y Z H4 XC e5 x5 c5 d5 q5=>h' H4 d XC Y y W w Z Q c5 ((l.ext m).ext x5) d5 q5
    |false=>rw[Ko cE];exact post.here p n vS
   |_=>exact aj p)
def f_:DA:=λ_ O=>.ok [] O
def a_(t:DE)(u:DA):DA:=λσ O=>(t σ O).bnd λx O1=>(u σ O1).bnd λxs O2=>.ok (x::xs) O2
def ziK:uA X Ex [] f_:=RG IT λd f g O h H Q i e q=>post.here q e .nil
def zfY{d:List aT}{t:DA}(e:PD X Ex a ta)(f:uA X Ex d t)(g:aR (a::d) X.env=(Y1,eval a X.env)::aR d X.env:=by rfl):uA X Ex (a::d) (a_ ta t):=
 RG (FN e.out f.out g) λh u z O A H Q i j q=>rd.go i j q λx B v C D k E l m n=>uT.go k l n λy F w G I J o p r s=>post.here s p (.cons (m.ext o) r)
def vp(t:DA):DE:=λσ O=>(t σ O).bnd λxs O1=>if xs.length<=4000000 then .ok (.tup xs) O1 else .bad
def u6(t:DA):DE:=λσ O=>(t σ O).bnd λxs O1=>if xs.length<=4000000 then .ok (.lst xs) O1 else .bad
def Bv(t:DA):DE:=λσ O=>(t σ O).bnd λxs O1=>if xs.length<=4000000 then .ok (.own O1.length) (O1++[xs]) else .bad
def post.iteN{α β:Type}{K:ai}{H:Hp}{QH e:List ae}{d:Hp->List ae->α->β->Prop}{Q:β->Hp->Prop}{b:Bool}{r:R α}(h:post Ex K d H QH e (if b=YP then .bad else r) Q):b=Y1/\post Ex K d H QH e r Q:=by
 cases b with
 |true=>exact aj h
 |false=>exact⟨rfl,h⟩
def post.ite{α β:Type}{K:ai}{H:Hp}{QH f:List ae}{d:Hp->List ae->α->β->Prop}{Q:β->Hp->Prop}{c:Prop}[Decidable c]{r:R α}(h:post Ex K d H QH f (if c then r else .bad) Q):c/\post Ex K d H QH f r Q:=by
 by_cases e:c
 ·rw[Kk e] at h;exact⟨e,h⟩
 ·rw[Ko e] at h;exact aj h
def Zy(h:uA X Ex es t):PD X Ex (.Tuple es x1 pos) (vp t):=
 sE (zlW h.out) λi m n O o H Q j k q=>uT.go j k q λr s u v w x y f g d=>by
  obtain⟨l,d⟩:=post.ite d;exact⟨by rw[<- g.length];exact zj l,λp e=>post.ok d (.laid e) (f.laid e) (Xf.newT f e g)⟩
def zlK(h:uA X Ex es t):PD X Ex (.List es pos) (u6 t):=
 sE (Rv h.out) λi m n O o H Q j k q=>uT.go j k q λr s u v w x y f g d=>by
  obtain⟨l,d⟩:=post.ite d;exact⟨by rw[<- g.length];exact zj l,λp e=>post.ok d (.laid e) (f.laid e) (Xf.newL f e g)⟩
def Gm(h:μ.length=n):Xf K H QH (μ++[p]) (.own n) (.ref p):=by exact⟨p,rfl,by rw[<- h];simp⟩
def zhO(h:uA X Ex es t):PD X Ex (.List es pos) (Bv t):=
 sE (Rv h.out) λi m n O o H Q j k q=>uT.go j k q λr s u v w x y e f d=>by
  obtain⟨l,d⟩:=post.ite d;exact⟨by rw[<- f.length];exact zj l,λp g=>post.ok d (.cell g) (e.cell g f) (Gm e.len)⟩
end
inductive Src where
 |val (ds:List D)
 |own (k:Nat)
 |zip (a b:Src)
 deriving Inhabited
noncomputable def Src.get:Src->Ow->Nat->Option D
 |.val ds,_,i=>ds[i]?
 | .own k,O,i=>match O[k]? with
  |some ds=>ds[i]?
  |none=>XV
 | .zip a b,O,i=>match a.get O i,b.get O i with
  |some x,Xy y=>Xy (.tup [x,y])
  |_,_=>XV
noncomputable def Src.size:Src->Ow->Nat
 |.val ds,_=>ds.length
 | .own k,O=>match O[k]? with
  |some ds=>ds.length
  |none=>0
 |.zip a b,O=>min (a.size O) (b.size O)
abbrev DI:=Sg->Ow->R Src
def oG(K:ai)(J:It)(src:Src)(H:Hp)(QH μ:List ae):Prop:=∀p9 H' e_ O',Mv H QH μ H' p9 e_->oC K H' p9 e_ O'->∀i,
 match src.get O' i with
 |some d=>J.go i H'/\∀x uo,J.yld i H' x uo->Ext H' e_ uo e_/\oC K uo p9 e_ O'/\Xf K uo p9 e_ d x
 |none=>J.stop i H'
noncomputable def rdI(Ex:Nat->Hp->Prop)(K:ai)(t:DI):TI:=λb_ H Rr=>∃QH μ σ O,oE K H QH μ σ b_/\oC K H QH μ O/\post Ex K (λH' e_ s J=>oG K J s H' QH e_) H QH μ (t σ O) Rr
structure tK(X:Cx)(Ex:Nat->Hp->Prop)(tg iter:aT)(t:DI):Prop where
 out:PI X tg iter (rdI Ex X.K t)
def oG.mv(h:oG K J src H QH μ)(e:Mv H QH μ H1 ym g_):oG K J src H1 ym g_:=
 λa b d f m c=>h a b d f (e.trans m) c
def oG.val(l:LstAt K H QH μ a vs)(q:oD K H QH μ ds vs):oG K (PN K a) (.val ds) H QH μ:=by
 intro j k n o m c i;have b:=(l.mv m).sq;have g:=q.mv m;show match ds[i]? with|some d=>_|none=>_
 cases e:ds[i]? with
 | some d=>
  obtain⟨v,f,h⟩:=g.get e;refine⟨⟨vs,v,b,f⟩,λx p y=>?_⟩;obtain⟨rfl,y⟩:=y;have:=y vs b;rw[f] at this;cases this;exact⟨.refl,c,h⟩
 | none=>
  refine⟨vs,b,?_⟩;have:=a9.mp e;rw[<- q.length];exact this
def oG.tup(l:TupAt K H QH μ a vs)(q:oD K H QH μ ds vs):oG K (PL K a) (.val ds) H QH μ:=by
 intro j k n o m c i;have b:=(l.mv m).sq;have g:=q.mv m;show match ds[i]? with|some d=>_|none=>_
 cases e:ds[i]? with
 | some d=>
  obtain⟨v,f,h⟩:=g.get e;refine⟨⟨vs,v,b,f⟩,λx p y=>?_⟩;obtain⟨rfl,y⟩:=y;have:=y vs b;rw[f] at this;cases this;exact⟨.refl,c,h⟩
 | none=>
  refine⟨vs,b,?_⟩;have:=a9.mp e;rw[<- q.length];exact this
def oG.own(h:μ[k]?=Xy a):oG K (PN K a) (.own k) H QH μ:=by
 intro u n w o m c i;obtain⟨p,rfl⟩:=m.pre;have q:(μ++p)[k]?=Xy a:=by rw[aK (ao.mp h).1];exact h
 obtain⟨b,f,r,s,j⟩:=c.at_ k a q;have g:rn K n a f:=.of s;show match (match o[k]? with|some b=>b[i]?|none=>XV) with|some d=>_|none=>_
 rw[r];show match b[i]? with|some d=>_|none=>_
 cases e:b[i]? with
 | some d=>
  obtain⟨v,l,t⟩:=j.get e;refine⟨⟨f,v,g,l⟩,λx z y=>?_⟩;obtain⟨rfl,y⟩:=y;have:=y f g;rw[l] at this;cases this;exact⟨.refl,c,t⟩
 | none=>
  refine⟨f,g,?_⟩;have:=a9.mp e;rw[<- j.length];exact this
def PM(x:aB):It:=⟨λi _=>i<x.cps.size,λi H v H'=>H'=H/\∃c,x.cps[i]?=Xy c/\v=.str ⟨#[c]⟩,λi _=>x.cps.size<=i⟩
def oG.str{K:ai}{H:Hp}{QH b:List ae}{cs:n_}:oG K (PM ⟨cs.toArray⟩) (.val (cs.map λc=>.str [c])) H QH b:=by
 intro h j k l m c i;show match (cs.map λc=>D.str [c])[i]? with|some d=>_|none=>_
 rw[bd];cases e:cs[i]? with
 | some d=>
  have f:=(ao.mp e).1;refine⟨by show i<cs.toArray.size;simpa using f,λx n y=>?_⟩;obtain⟨rfl,z,g,rfl⟩:=y;have a:=g;rw[li,e] at a;cases a;refine⟨.refl,c,?_⟩;rfl
 | none=>
  have:=a9.mp e;show cs.toArray.size<=i;simpa using this
def oG.rng:oG K (HV lo n) (.val ((aV n).map λi=>.int (lo+(i:Nat)))) H QH μ:=by
 intro b e f g m c i;show match ((aV n).map λi=>D.int (lo+(i:Nat)))[i]? with|some d=>_|none=>_
 rw[bd];by_cases a:i<n
 ·rw[lX a];refine⟨a,λx h y=>?_⟩;obtain⟨rfl,rfl⟩:=y;exact⟨.refl,c,sP⟩
 ·rw[a9.mpr ⇑a];exact nF.mp a
def zgk(x:aB)(t:Tok)(it:ae):yA P w K tg (PM x) [it] it (λi h=>h.IsStrIter it (strIterType x) x t i) where
 mem:=by simp
 obj:=λi h a b j=>by
  have e:b=it:=⇑j
  subst e;obtain⟨o,e,c,d⟩:=a;exact⟨o,e,λv z=>by rw[d] at z;cases z⟩
 keep:=λi h f a k=>by
  obtain⟨o,e,c,d⟩:=a;exact⟨o,k it 'k' o e,c,d⟩
 item:=by
  intro X R S T G i g s J H E I p a L;subst R S T;obtain⟨q,r,W,B,C,D⟩:=p it 'k';obtain⟨U,l⟩:∃c,x.cps[i]?=Xy c:=⟨_,ba (L)⟩;have M:∀(F:String),(["enumerate", "zip", "dict_itemiterator", "dict_reverseitemiterator", "odict_iterator", "itertools.zip_longest", "itertools.pairwise"].contains F=Y1)->strIterType x=F->∀f,f.IsStrIter it F x t (i+1)->dg it s.heap f->
    ∃u,Xy (kF ⟨#[U]⟩ s.toks)=Xy u/\av (az X.prog X.w) X.A (letOwnedTupleGo tg (.ref it) u) (λ_ V=>∃y N,Inv X g J N V/\RelV y u/\(PM x).yld i H y N/\V.heap.IsStrIter it (strIterType x) x t (i+1)/\∀b∈[it],N b=XV) E { s with heap:=f,toks:=s.toks+1 }:=by
   intro F Y Z f m n;have I1:Inv X g J H { s with heap:=f,toks:=s.toks+1 }:=I.turned (λb o j e=>(n.2 b j).trans e) q r B C D;obtain⟨o,e,c,d⟩:=id m;refine⟨_,rfl,Ft e c d Y ⟨.str ⟨#[U]⟩,H,I1,⟨_,rfl⟩,⟨rfl,_,l,rfl⟩,?_,λb j=>(p b j).1⟩⟩;rw[Z];exact m
  unfold strIterType at a M ⊢;split at a
  ·rename_i O;exact wpAny_pyNext_ascii_item a l λf m n=>M "str_ascii_iterator" 'u' (by rw[Kk O]) f m n
  ·rename_i O;exact wpAny_pyNext_wide_item a l λf m n=>M "str_iterator" 'u' (by rw[Ko O]) f m n
 done:=by
  intro X R S T G i g s J H E I p a L;obtain⟨q,r,W,B,C,D⟩:=p it 'k';have l:x.cps[i]?=XV:=by
   have:x.cps.size<=i:=L;simp[this]
  unfold strIterType at a;split at a
  ·exact wpAny_pyNext_ascii_end (I.ok.hd G) a l λf Q=>⟨rfl,I.turned (λb o j e=>Q b o j e) q r B C D⟩
  ·exact wpAny_pyNext_wide_end (I.ok.hd G) a l λf Q=>⟨rfl,I.turned (λb o j e=>Q b o j e) q r B C D⟩
 self:=λ_ _ s _ _ a h=>by
  unfold strIterType at a;split at a
  ·exact wpAny_pyIter_striter_ascii a h
  ·exact wpAny_pyIter_striter_wide a h
section
variable{X:Cx}{Ex:Nat->Hp->Prop}{pos:Pos}{a b c tg:aT}{ta:DE}
noncomputable def QD(O:Ow):D->R Src
 |.lst ds=>.ok (.val ds) O
 |.tup ds=>.ok (.val ds) O
 |.str cs=>.ok (.val (cs.map λc=>.str [c])) O
 |.own k=>.ok (.own k) O
 |_=>.bad
def pY(t:DE):DI:=λσ O=>(t σ O).bnd λx O1=>QD O1 x
def zjg(G:PD X Ex a ta):tK X Ex tg a (pY ta):=by
 refine⟨?_⟩;rintro m s L H M I ⟨f,U,V,O,N,P,q⟩;refine qc (G.out m s L H _ I (rd.go N P q (Q1:=λv g=>∃f n w d,oC X.K g f n w/\Xf X.K g f n d v/\post Ex X.K (λQ R s J=>oG X.K J s Q f R) g f n (QD w d) M)
  λd w v g n W x c r p=>⟨f,n,w,d,c,r,p⟩)) λu h ⟨v,g,i,z,f,n,w,d,c,r,p⟩=>?_
 have j:∀(b:ae),b∈[h.heap.objs.size]->tF X m g b:=λb S=>by
  have e:b=h.heap.objs.size:=⇑S
  subst e;exact i.fpOk (aE _) (i.hok.fresh (aE _))
 cases d with
 | lst A=>
  obtain⟨a,B,rfl,l,q⟩:=r;cases z;obtain⟨C,D,y,E⟩:=i.list l.sq;refine fL y.isList ?_;exact⟨h.heap.objs.size,[h.heap.objs.size],_,_,g,rfl,i.kept λb o e=>af _ e,Va a _,⟨_,aI _ rfl,rfl,rfl⟩,j,post.here p c (.val l q)⟩
 | tup A=>
  obtain⟨a,B,rfl,l,q⟩:=r;cases z;obtain⟨C,D,y,E⟩:=i.tuple l.sq;refine ml (y) ?_;exact⟨h.heap.objs.size,[h.heap.objs.size],_,_,g,rfl,i.kept λb o e=>af _ e,zb5 a _,⟨_,aI _ rfl,rfl,rfl⟩,j,post.here p c (.tup l q)⟩
 | str cs=>
  subst r;obtain⟨t,rfl⟩:=z;refine wpAny_pyIter_strU ?_;exact⟨h.heap.objs.size,[h.heap.objs.size],_,_,g,rfl,i.kept λb o e=>af _ e,zgk ⟨cs.toArray⟩ t _,⟨_,aI _ rfl,rfl,rfl⟩,j,post.here p c .str⟩
 | own k=>
  obtain⟨a,rfl,F⟩:=r;cases z;obtain⟨A,B,Y,T,Z⟩:=c.at_ k a F;obtain⟨C,D,y,E⟩:=i.list (.of T);refine fL y.isList ?_;exact⟨h.heap.objs.size,[h.heap.objs.size],_,_,g,rfl,i.kept λb o e=>af _ e,Va a _,⟨_,aI _ rfl,rfl,rfl⟩,j,post.here p c (.own F)⟩
 |_=>exact aj p
noncomputable def FK(lo hi:Int):Src:=.val ((aV (hi-lo).toNat).map λi=>.int (lo+(i:Nat)))
def tM(t:DA):DI:=λσ O=>(t σ O).bnd λxs O1=>match xs with
 |[.int j]=>if -1000000<=j/\j<=1000000 then .ok (FK 0 j) O1 else .bad
 |_=>.bad
def IG(t:DA):DI:=λσ O=>(t σ O).bnd λxs O1=>match xs with
 |[.int i,.int j]=>if -1000000<=i/\i<=1000000/\-1000000<=j/\j<=1000000 then .ok (FK i j) O1 else .bad
 |_=>.bad
def PI.imp(h:PI X tg iter t)(f:∀σ H Q,t' σ H Q->t σ H Q):PI X tg iter t':=λd s σ H Q I q=>h d s σ H Q I (f σ H Q q)
def uu(h:oD K H QH μ [d] vs):∃v,vs=[v]/\Xf K H QH μ d v:=by obtain⟨v,r,rfl,e,f⟩:=h;subst f;exact⟨v,rfl,e⟩
def D7(h:oD K H QH μ [d,e] vs):∃v w,vs=[v,w]/\Xf K H QH μ d v/\Xf K H QH μ e w:=by obtain⟨v,r,rfl,f,g⟩:=h;obtain⟨w,rfl,i⟩:=uu g;exact⟨v,w,rfl,f,i⟩
def zaT(f:Gl X "range")(g:X.mg "range" = XV)(h:uA X Ex [a] t)(i:aR [a] X.env=[(Y1,eval a X.env)]:=by rfl):tK X Ex tg (.Call (.Name "range" p) [a] [] pos) (tM t):=
 tK.mk <| PI.imp (ze6 f g h.out i) λn H Q ⟨k,o,s,O,l,m,q⟩=>uT.go l m q λd u w y z A x c r p=>by
  split at p
  ·rename_i j;obtain⟨⟨B,C⟩,p⟩:=post.ite p;obtain⟨v,rfl,e⟩:=uu r;unfold Xf at e;subst e;refine⟨j,rfl,by lia,by lia,?_⟩;have:=post.here p c (oG.rng);simpa using this
  ·exact aj p
def zaO(g:Gl X "range")(h:X.mg "range" = XV)(k:uA X Ex [a,b] t)(l:aR [a,b] X.env=[(Y1,eval a X.env),(Y1,eval b X.env)]:=by rfl)(m:aR [b] X.env=[(Y1,eval b X.env)]:=by rfl):
  tK X Ex tg (.Call (.Name "range" p) [a,b] [] pos) (IG t):=
 tK.mk <| PI.imp (zbE g h k.out l m) λu H Q ⟨n,y,z,O,o,s,q⟩=>uT.go o s q λd A B C D E x c r p=>by
  split at p
  ·rename_i i j;obtain⟨F,p⟩:=post.ite p;obtain⟨v,w,rfl,e,f⟩:=D7 r;unfold Xf at e f;subst e;subst f;exact⟨i,j,rfl,⟨by lia,by lia,by lia,by lia⟩,post.here p c (oG.rng)⟩
  ·exact aj p
end
inductive RS where
 |nx (σ:Sg) (O:Ow)
 |rt (d:D) (O:Ow)
 |bk (σ:Sg) (O:Ow)
 |ct (σ:Sg) (O:Ow)
 |exc (c:Nat) (O:Ow)
 |bad
 deriving Inhabited
abbrev DS:=Sg->Ow->RS
def R.bnS{α:Type}(r:R α)(k:α->Ow->RS):RS:=match r with
 |.ok a O=>k a O
 |.exc c O=>.exc c O
 |.bad=>.bad
section
variable(Ex:Nat->Hp->Prop)(K:ai)
def oH(H:Hp)(QH μ:List ae)(r:RS)(E:zev):Prop:=match r with
 |.nx σ O=>∀b_ H' e_,Ext H μ H' e_->oE K H' QH e_ σ b_->oC K H' QH e_ O->E.nx b_ H'
 |.rt d O=>∀v H' e_,Ext H μ H' e_->oC K H' QH e_ O->Xf K H' QH e_ d v->E.rt v H'
 |.bk σ O=>∀b_ H' e_,Ext H μ H' e_->oE K H' QH e_ σ b_->oC K H' QH e_ O->E.bk b_ H'
 |.ct σ O=>∀b_ H' e_,Ext H μ H' e_->oE K H' QH e_ σ b_->oC K H' QH e_ O->E.ct b_ H'
 |.exc c O=>∀H' e_,Ext H μ H' e_->oC K H' QH e_ O->Ex c H'
 |.bad=>False
def NQ(t:DS):TS:=λE b_ H=>∃QH μ σ O,oE K H QH μ σ b_/\oC K H QH μ O/\oH Ex K H QH μ (t σ O) E
end
structure vm(X:Cx)(Ex:Nat->Hp->Prop)(st:eH)(t:DS):Prop where
 out:PS X st (NQ Ex X.K t)
structure ua(X:Cx)(Ex:Nat->Hp->Prop)(st:List eH)(t:DS):Prop where
 out:t_ X st (NQ Ex X.K t)
def PS.imp(h:PS X st t)(f:∀E σ H,t' E σ H->t E σ H):PS X st t':=λa s σ H D I q=>h a s σ H D I (f D σ H q)
def t_.imp(h:t_ X st t)(f:∀E σ H,t' E σ H->t E σ H):t_ X st t':=λa s σ H D I q=>h a s σ H D I (f D σ H q)
section
variable{Ex:Nat->Hp->Prop}{K:ai}{H H1:Hp}{QH μ g_:List ae}
def oH.ext{r:RS}{E:zev}(h:oH Ex K H QH μ r E)(e:Ext H μ H1 g_):oH Ex K H1 QH g_ r E:=by
 cases r with
 |nx σ O=>exact λj f g i a b=>h j f g (e.trans i) a b
 |bk σ O=>exact λj f g i a b=>h j f g (e.trans i) a b
 |ct σ O=>exact λj f g i a b=>h j f g (e.trans i) a b
 |rt d O=>exact λv f g i a b=>h v f g (e.trans i) a b
 |exc c O=>exact λf g i a=>h f g (e.trans i) a
 |bad=>exact h
def oH.bnS{α β:Type}{a:Hp->List ae->α->β->Prop}{r:R α}{k:α->Ow->RS}{E:zev}{Q1:β->Hp->Prop}(h:oH Ex K H QH μ (r.bnS k) E)
  (b:∀d O1 v H1 g_,Ext H μ H1 g_->oC K H1 QH g_ O1->a H1 g_ d v->oH Ex K H1 QH g_ (k d O1) E->Q1 v H1):post Ex K a H QH μ r Q1:=by
 cases r with
 |ok d O'=>exact λv f g e c q=>b d O' v f g e c q (oH.ext (h) e)
 |exc c O'=>exact h
 |bad=>exact h
end
section
variable{X:Cx}{Ex:Nat->Hp->Prop}{pos:Pos}{a b c e tg:aT}{tb tc te:DE}
def zX{i:eH}{t:TS}{t':DS}(h:PS X i t)(f:∀QH d σ O E g H,oE X.K H QH d σ g->oC X.K H QH d O->oH Ex X.K H QH d (t' σ O) E->t E g H):vm X Ex i t':=
 ⟨PS.imp h λE g H ⟨QH,d,σ,O,j,k,q⟩=>f QH d σ O E g H j k q⟩
def L6(h:t_ X st t)(f:∀QH d σ O E g H,oE X.K H QH d σ g->oC X.K H QH d O->oH Ex X.K H QH d (t' σ O) E->t E g H):ua X Ex st t':=
 ⟨t_.imp h λE g H ⟨QH,d,σ,O,i,j,q⟩=>f QH d σ O E g H i j q⟩
def rd.goS{t:DE}{QH i:List ae}{σ:Sg}{O:Ow}{j:St}{H:Hp}{Q1:VK}{k:D->Ow->RS}{E:zev}(l:oE X.K H QH i σ j)(m:oC X.K H QH i O)
  (q:oH Ex X.K H QH i ((t σ O).bnS k) E)
  (f:∀d O1 v g h,oE X.K g QH h σ j->Ext H i g h->oC X.K g QH h O1->Xf X.K g QH h d v->oH Ex X.K g QH h (k d O1) E->Q1 v g):rd Ex X.K t j H Q1:=
 ⟨QH,i,σ,O,l,m,oH.bnS q λd O1 v g h x c r p=>f d O1 v g h (l.ext x) x c r p⟩
def yI.goS{t:DT}{QH i:List ae}{σ:Sg}{O:Ow}{j:St}{H:Hp}{Q1:Bool->Hp->Prop}{k:Bool->Ow->RS}{E:zev}(l:oE X.K H QH i σ j)(m:oC X.K H QH i O)
  (q:oH Ex X.K H QH i ((t σ O).bnS k) E)
  (f:∀v O1 g h,oE X.K g QH h σ j->Ext H i g h->oC X.K g QH h O1->oH Ex X.K g QH h (k v O1) E->Q1 v g):yI Ex X.K t j H Q1:=
 ⟨QH,i,σ,O,l,m,oH.bnS q λd O1 v g h x c r p=>by
  subst r;exact f d O1 g h (l.ext x) x c p⟩
def qS:DS:=λσ O=>.nx σ O
def o_(t u:DS):DS:=λσ O=>match t σ O with
 |.nx σ' O'=>u σ' O'
 |r=>r
def zeV:ua X Ex [] qS:=L6 zj9 λd f j O E g H h i q=>q g H f .refl h i
def qC{i:eH}{f:List eH}{t u:DS}(k:vm X Ex i t)(l:ua X Ex f u):ua X Ex (i::f) (o_ t u):=
 L6 (F4 k.out l.out) λh m j O E s H n o q=>by
  refine⟨h,m,j,O,n,o,?_⟩;unfold o_ at q;cases g:t j O with
  | nx σ' O'=>
   rw[g] at q;exact λv w p r a b=>⟨h,p,σ',O',a,b,q.ext r⟩
  |rt d O'=>rw[g] at q;exact q
  |bk σ' O'=>rw[g] at q;exact q
  |ct σ' O'=>rw[g] at q;exact q
  |exc c O'=>rw[g] at q;exact q
  |bad=>rw[g] at q;exact q
def qU(d:vm X Ex st t):ua X Ex [st] t:=⟨Tq d.out⟩
def p8(t:DE):DS:=λσ O=>(t σ O).bnS λd O1=>.rt d O1
def zjt(f:PD X Ex e te):vm X Ex (.Return (Xy e) pos) (p8 te):=
 zX (ZH f.out) λg l m O E n H h i q=>rd.goS h i q λd o v j k s x c r p=>p v j k .refl c r
def qQ(c:DT)(t u:DS):DS:=λσ O=>(c σ O).bnS λb O1=>if b=YP then t σ O1 else u σ O1
def ZC{c:aT}{x y:List eH}{tc:DT}{t u:DS}(j:sj X Ex c tc)(l:ua X Ex x t)(m:ua X Ex y u):vm X Ex (.If c x y pos) (qQ tc t u):=
 zX (YG j.out l.out m.out) λd r f O E s H n o q=>yI.goS n o q λk g v h i x c p=>by
  cases k with
  |true=>rw[Kk rfl];exact⟨d,h,f,g,i,c,p⟩
  |false=>rw[Ko cE];exact⟨d,h,f,g,i,c,p⟩
def E8:DS:=λ_ _=>.bad
def TM:ua X Ex st E8:=L6 zdJ λd f g O E h H i j q=>q
def sY(t:DE):DS:=λσ O=>(t σ O).bnS λ_ O1=>.nx σ O1
def zfG(f:PD X Ex e te)(g:swapsWith e XV pos.line X.env=pure Y1:=by rfl):vm X Ex (.Expr e pos) (sY te):=
 zX (Sr f.out g) λh o s O E i H j k q=>rd.goS j k q λd t v l m n x c r p=>p i l m .refl n c
def p_(i:Nat)(t:DE):DS:=λσ O=>(t σ O).bnS λd O1=>.nx (σ.set i (Xy d)) O1
def My(f:X.N.Nodup)(g:X.N[i]?=Xy x)(h:Loc X.env.scope x)(j:PD X Ex e te)(k:swapsWith e (Xy (.Name x pos')) pos.line X.env=pure Y1:=by rfl)
  (l:X.fn x=YP\/X.env.scope.names.lookup x=Xy .local:=by first|exact .inl rfl|exact .inr rfl):vm X Ex (.Assign [.Name x pos'] e pos) (p_ i te):=
 zX (Ro f g h j.out k l) λm y z O E n H o s q=>rd.goS o s q λd A v t u w x c r p=>p (n.set i (Xy v)) t u .refl (w.set r i) c
inductive Tg where
 |one (i:Nat)
 |two (i j:Nat)
noncomputable def Tg.put:Tg->D->Sg->Option Sg
 |.one i,d,σ=>Xy (σ.set i (Xy d))
 | .two i j,d,σ=>match d with
  |.tup [x,y]=>Xy ((σ.set i (Xy x)).set j (Xy y))
  |_=>XV
def Tg.rd(K:ai):Tg->TG
 |.one i=>AB i
 |.two i j=>Qe K 2 (LC (AB i) (LC (AB j) Qk))
def Tg.slots:Tg->n_
 |.one i=>[i]
 |.two i j=>[i,j]
def Tg.ok2(g:Tg)(n:oE K H QH μ σ b_)(q:Xf K H QH μ d v)(h:g.put d σ=Xy σ')
  (k:∀f,oE K H QH μ σ' f->(∀i,i∉g.slots->f[i]?=b_[i]?)->Q f H):g.rd K v b_ H Q:=by
 cases g with
 | one i=>
  cases h;exact k _ (n.set q i) λj p=>bu (λe=>p (by simp[Tg.slots,e]))
 | two i j=>
  unfold Tg.put at h;dsimp only at h;split at h
  ·rename_i x y;cases h;obtain⟨a,t,rfl,l,q⟩:=q;obtain⟨u,w,rfl,r,s⟩:=D7 q;refine⟨a,[u,w],rfl,l.sq,rfl,u,[w],rfl,w,[],rfl,rfl,k _ ((n.set r i).set s j) λm o=>?_⟩;rw[bu (λe=>o (by simp[Tg.slots,e])),bu (λe=>o (by simp[Tg.slots,e]))]
  ·cases h
def Tg.ok{K:ai}{H:Hp}{QH f:List ae}{σ σ':Sg}{m:St}{d:D}{v:V}{Q:St->Hp->Prop}(g:Tg)(n:oE K H QH f σ m)(q:Xf K H QH f d v)(h:g.put d σ=Xy σ')(k:∀o,oE K H QH f σ' o->Q o H):g.rd K v m H Q:=by
 cases g with
 |one i=>cases h;exact k _ (n.set q i)
 | two i j=>
  unfold Tg.put at h;dsimp only at h;split at h
  ·rename_i x y;cases h;obtain⟨a,s,rfl,l,q⟩:=q;obtain⟨u,w,rfl,p,r⟩:=D7 q;exact⟨a,[u,w],rfl,l.sq,rfl,u,[w],rfl,w,[],rfl,rfl,k _ ((n.set p i).set r j)⟩
  ·cases h
def Z6(d:X.N.Nodup)(f:X.N[i]?=Xy x)(g:Loc X.env.scope x)(h:X.fn x=YP\/X.env.scope.names.lookup x=Xy .local:=by first|exact .inl rfl|exact .inr rfl|assumption):PG X (.Name x pos) ((Tg.one i).rd X.K):=Mj d f g h
noncomputable def ud(src:Src)(step:D->Sg->Ow->RS):Nat->Nat->Sg->Ow->RS
 | 0,i,σ,O=>match src.get O i with
  |none=>.nx σ O
  |some _=>.bad
 | f+1,i,σ,O=>match src.get O i with
  |none=>.nx σ O
  | some d=>match step d σ O with
   |.nx σ' O'=>ud src step f (i+1) σ' O'
   |.ct σ' O'=>ud src step f (i+1) σ' O'
   |.bk σ' O'=>.nx σ' O'
   |r=>r
def sJ(it:DI)(g:Tg)(body:DS):DS:=λσ O=>(it σ O).bnS λsrc O1=>ud src (λd σ O=>match g.put d σ with|some σ'=>body σ' O|none=>.bad) (src.size O1) 0 σ O1
def zjW{u:aT}{body:List eH}{it:DI}{g:Tg}{tb:DS}(hp:kG (az X.prog X.w) X.A X.env X.xe)(hc:X.calm=YP)(hi:tK X Ex tg u it)(hg:PG X tg (g.rd X.K))(hb:ua X Ex body tb)
  (hs:∀x,bV u X.env x=pure x:=by intro _;rfl):vm X Ex (.For tg u body [] pos) (sJ it g tb):=
 zX (RE hp hc hi.out hg hb.out hs) λk μ Q O E b_ H Y c1 q=>by
  refine⟨k,μ,Q,O,Y,c1,oH.bnS q λo O1 J Z S x1 c2 sa p=>?_⟩;generalize yj:(λ(d:D)(Q:Sg)(O:Ow)=>match g.put d Q with|some j=>tb j O|none=>RS.bad)=n at p;refine⟨λi m L t=>∃s j z,Ext Z S t s/\oE X.K t k s j L/\oC X.K t k s z/\oH Ex X.K t k s (ud o n m i j z) E,⟨_,S,Q,O1,.refl,Y.ext x1,c2,p⟩,?_⟩;rintro i m xU M ⟨F,N,B,x2,T,U,C⟩;have R:=sa k M F B x2.mv U i;cases G:o.get B i with
  | none=>
   rw[G] at R;refine .inl ⟨R,?_⟩;cases m with
   | zero=>
    have l:oH Ex X.K M k F (match o.get B i with|none=>.nx N B|some _=>.bad) E:=C;rw[G] at l;exact l xU M F .refl T U
   | succ f=>
    unfold ud at C;rw[G] at C;exact C xU M F .refl T U
  | some d=>
   rw[G] at R;obtain⟨go,yl⟩:=R;cases m with
   | zero=>
    have l:oH Ex X.K M k F (match o.get B i with|none=>.nx N B|some _=>.bad) E:=C;rw[G] at l;exact aj l
   | succ f=>
    refine .inr ⟨go,λL t=>∃s j z,Ext Z S t s/\oE X.K t k s j L/\oC X.K t k s z/\oH Ex X.K t k s (ud o n f (i+1) j z) E,λj t h=>⟨f,cU f,h⟩,λv H3 y=>?_⟩;obtain⟨V,c4,r⟩:=yl v H3 y;unfold ud at C;rw[G] at C;have l:oH Ex X.K H3 k F (match n d N B with
     |.nx j z=>ud o n f (i+1) j z
     |.ct j z=>ud o n f (i+1) j z
     |.bk j z=>.nx j z
     |r=>r) E:=oH.ext C V
    cases W:g.put d N with
    | none=>
     rw[<- yj] at l;simp only[W] at l;exact aj l
    | some tD=>
     refine Tg.ok g (T.ext V) r W λXA e3=>⟨k,F,tD,B,e3,c4,?_⟩;have De:n d N B=tb tD B:=by rw[<- yj];simp only[W]
     rw[De] at l;have x4:=x2.trans V;cases I:tb tD B with
     |nx HY O4=>rw[I] at l;exact λL t s P a b=>⟨s,HY,O4,x4.trans P,a,b,l.ext P⟩
     |ct HY O4=>rw[I] at l;exact λL t s P a b=>⟨s,HY,O4,x4.trans P,a,b,l.ext P⟩
     |bk HY O4=>rw[I] at l;exact l
     |rt d4 O4=>rw[I] at l;exact l
     |exc c4 O4=>rw[I] at l;exact l
     |bad=>rw[I] at l;exact l
end
structure Cl where
 it:DI
 g:Tg
 ifs:List DT
def qT:List Cl->n_
 |[]=>[]
 |c::cs=>c.g.slots++qT cs
def qM{α:Type}(σ:List (Option α)):n_->List (Option α)
 |[]=>σ
 |i::r=>qM (σ.set i XV) r
def uc:List DT->DT
 |[]=>λ_ O=>.ok YP O
 |c::cs=>λσ O=>(c σ O).bnd λb O1=>if b=YP then uc cs σ O1 else .ok Y1 O1
noncomputable def rg(src:Src)(step:D->Ow->List D->R (List D)):Nat->Nat->Ow->List D->R (List D)
 | 0,i,O,Xo=>match src.get O i with
  |none=>.ok Xo O
  |some _=>.bad
 | f+1,i,O,Xo=>match src.get O i with
  |none=>.ok Xo O
  |some d=>(step d O Xo).bnd λrE O'=>rg src step f (i+1) O' rE
def u9:List Cl->DE->Sg->Ow->List D->R (List D)
 |[],elt,σ,O,Xo=>(elt σ O).bnd λv O1=>if Xo.length<4000000 then .ok (Xo++[v]) O1 else .bad
 | c::cs,elt,σ,O,Xo=>(c.it σ O).bnd λsrc O1=>rg src (λd O2 Xo=>match c.g.put d (qM σ (qT (c::cs))) with
   |some rq=>(uc c.ifs rq O2).bnd λb O3=>if b=YP then u9 cs elt rq O3 Xo else .ok Xo O3
   |none=>.bad) (src.size O1) 0 O1 Xo
def zV(c:Cl)(cs:List Cl)(elt:DE)(σ:Sg):D->Ow->List D->R (List D):=λd O2 Xo=>match c.g.put d (qM σ (qT (c::cs))) with
   |some rq=>(uc c.ifs rq O2).bnd λb O3=>if b=YP then u9 cs elt rq O3 Xo else .ok Xo O3
   |none=>.bad
abbrev Em:=Sg->Ow->List D->R (List D)
def Bg(te:DE):Em:=λσ O Xo=>(te σ O).bnd λv O1=>if Xo.length<4000000 then .ok (Xo++[v]) O1 else .bad
def vN:List Cl->Em->Sg->Ow->List D->R (List D)
 |[],em,σ,O,Xo=>em σ O Xo
 | c::cs,em,σ,O,Xo=>(c.it σ O).bnd λsrc O1=>rg src (λd O2 Xo=>match c.g.put d (qM σ (qT (c::cs))) with
   |some rq=>(uc c.ifs rq O2).bnd λb O3=>if b=YP then vN cs em rq O3 Xo else .ok Xo O3
   |none=>.bad) (src.size O1) 0 O1 Xo
def vB(c:Cl)(cs:List Cl)(em:Em)(σ:Sg):D->Ow->List D->R (List D):=λd O2 Xo=>match c.g.put d (qM σ (qT (c::cs))) with
   |some rq=>(uc c.ifs rq O2).bnd λb O3=>if b=YP then vN cs em rq O3 Xo else .ok Xo O3
   |none=>.bad
theorem SJ(te:DE):∀a:List Cl,vN a (Bg te)=u9 a te
 |[]=>by funext σ O Xo;unfold vN u9 Bg;rfl
 |c::cs=>by funext σ O Xo;unfold vN u9;rw[SJ te cs]
def zie(c:Cl)(cs:List Cl)(te:DE):vB c cs (Bg te)=zV c cs te:=by funext σ d O Xo;unfold vB zV;rw[SJ te cs]
theorem FU{α:Type}:∀(l:n_)(σ:List (Option α)),(qM σ l).length=σ.length
 |[],_=>rfl
 |i::r,σ=>by unfold qM;rw[FU r];simp
theorem Mq{α:Type}:∀(l:n_)(σ:List (Option α))(i:Nat),i∉l->(qM σ l)[i]?=σ[i]?
 |[],σ,i,h=>rfl
 | j::r,σ,i,h=>by
  unfold qM;rw[Mq r _ i λz=>h (ak _ z),bu λz=>h (by simp[z])]
theorem Jr{α:Type}:∀(l:n_)(σ:List (Option α))(i:Nat)(d:α),(qM σ l)[i]?=Xy (Xy d)->σ[i]?=Xy (Xy d)/\i∉l
 |[],σ,i,d,h=>⟨h,by simp⟩
 | j::r,σ,i,d,h=>by
  obtain⟨a,b⟩:=Jr r _ i d h;by_cases e:j=i
  ·subst e;by_cases c:j<σ.length
   ·rw[bE c] at a;cases a
   ·rw[a9.mpr (by simp;lia)] at a;cases a
  ·rw[bu e] at a;exact⟨a,by simp[b];exact λz=>e z.symm⟩
structure Ea(A:ae)(H:Hp)(μ:List ae)(H':Hp)(e_:List ae):Prop where
 pre:∃ν,e_=μ++ν
 kept:∀b o,H b=Xy o->b∉μ->b≠A->Ed o->H' b=Xy o
 fresh:∀b∈e_,b∈μ\/H b=XV
 there:∀b,H b≠XV->H' b≠XV
 tab:∀P,oQ H P->oQ H' P
section
variable{K:ai}{A:ae}{H H' H1 H2:Hp}{QH μ e_ g_ qe:List ae}
def Ext.ea(e:Ext H μ H' e_):Ea A H μ H' e_:=⟨e.pre,λb o h n _ a=>e.kept b o h n a,e.fresh,e.there,e.tab⟩
def Ea.refl:Ea A H μ H μ:=Ext.refl.ea
def Ea.trans(a:Ea A H μ H1 g_)(b:Ea A H1 g_ H2 qe):Ea A H μ H2 qe:=by
 have i:∀c,H1 c=XV->H c=XV:=λc h=>by
  cases e:H c with
  |none=>rfl
  |some o=>exact absurd h (a.there c (by rw[e];simp))
 refine⟨?_,λc o h d f g=>?_,λc h=>?_,λc h=>b.there c (a.there c h),λP t=>b.tab P (a.tab P t)⟩
 ·obtain⟨x,rfl⟩:=a.pre;obtain⟨y,rfl⟩:=b.pre;exact⟨x++y,by simp⟩
 ·refine b.kept c o (a.kept c o h d f g) (λm=>?_) f g;rcases a.fresh c m with z|z
  ·exact d z
  ·rw[z] at h;cases h
 ·rcases b.fresh c h with z|z
  ·exact a.fresh c z
  ·exact .inr (i c z)
def Ea.mv(e:Ea A H μ H' e_):Mv H (A::QH) μ H' (A::QH) e_:=⟨e.pre,λb o h a c d=>e.kept b o h a (λz=>c (by simp[z])) d,e.fresh,λ_ m=>.inl m,e.there,e.tab⟩
def Ea.putX(a:∀P,oQ H P->oQ (upd H A o) P):Ea A H μ (upd H A o) μ:=⟨⟨[],by simp⟩,λb u h _ n _=>by rw[qi n];exact h,λ_ m=>.inl m,yH,a⟩
def oC.putX(c:oC K H (A::QH) μ O)(b:∀P,oQ H P->oQ (upd H A o) P):oC K (upd H A o) (A::QH) μ O:=by refine⟨c.len,c.nd,c.nh,λa m=>yH a (c.ht a m),λk a e=>?_⟩;obtain⟨d,f,g,h,i⟩:=c.at_ k a e;have j:a≠A:=λz=>c.nh a (aF e) (by simp[z]);exact⟨d,f,g,by rw[qi j];exact h,i.mv (Ea.putX b).mv⟩
def Ea.put{o:HO}(a:∃b,H A=Xy (.lst b)):Ea A H μ (upd H A o) μ:=.putX λ_ t=>t.upd (.inr a)
def oC.putA{o:HO}{O:Ow}(c:oC K H (A::QH) μ O)(a:∃b,H A=Xy (.lst b)):oC K (upd H A o) (A::QH) μ O:=c.putX λ_ t=>t.upd (.inr a)
def oC.unhide(c:oC K H (A::QH) μ O):oC K H QH μ O:=
 ⟨c.len,c.nd,λa m z=>c.nh a m (ak _ z),λa m=>c.ht a (ak _ m),λk a e=>
  let ⟨ds,vs,h1,h2,h3⟩:=c.at_ k a e
  ⟨ds,vs,h1,h2,h3.mv .unhide⟩⟩
end
abbrev qV:Nat->Hp->Prop:=λ_ _=>False
inductive oW(X:Cx):List bN->List Cl->Prop where
 |nil:oW X [] []
 | cons {tg iter:aT} {ifs:List aT} {gs:List bN} {c:Cl} {cs:List Cl} (hi:tK X qV tg iter c.it) (hs:∀x,bV iter X.env x=pure x) (hg:PG X tg (c.g.rd X.K))
   (hf:cj (λe t=>sj X qV e t) ifs c.ifs) (r:oW X gs cs):oW X (⟨tg,iter,ifs,0⟩::gs) (c::cs)
section
variable{X:Cx}
def BJ{α:Type}{M:i4}{A:bb}{t:Sem α}{Q c:α->ag->Prop}{E:ab->ag->Prop}{s:ag}(d:X.xe=λ_ _=>False)(h:av M A t Q X.xe s)(k:∀a b,Q a b->c a b):av M A t c E s:=
 cB h k λe b z=>by rw[d] at z;exact z.elim
theorem VQ{a:Env}{M:i4}{A:bb}{E:ab->ag->Prop}{s:ag}{Q:Bool->ag->Prop}(h:Q Y1 s):∀(b:List aT),av M A (forIn b Y1 λc r=>if r=YP then do let ok <- isTrue c a (eval c a);pure (gd ok) else pure (gd r)) Q E s
 |[]=>ah h
 | c::cs=>by
  simp;exact aa (ah (VQ h cs))
theorem UD{E:ab->ag->Prop}{QH:List ae}(j:X.xe=λ_ _=>False):∀{a:List aT}{ts:List DT},cj (λe t=>sj X qV e t) a ts->∀(Xa:List (ae×Obj))(s:ag)(b_:St)(H:Hp)(μ:List ae)(σ:Sg)(O:Ow)(Q:Bool->ag->Prop),
  L2.Inv X Xa b_ H s->oE X.K H QH μ σ b_->oC X.K H QH μ O->
  yB qV X.K H QH μ (uc ts σ O) (λb H'=>∀h,L2.Inv X Xa b_ H' h->Q b h)->
  av (az X.prog X.w) X.A (forIn a YP λc r=>if r=YP then do let ok <- isTrue c X.env (eval c X.env);pure (gd ok) else pure (gd r)) Q E s
 |_,_,.nil,Xa,s,b_,H,μ,σ,O,Q,I,e1,c1,q=>ah (post.here q c1 rfl s I)
 | _::a,_::ts,.cons hc hr,Xa,s,b_,H,μ,σ,O,Q,I,e1,c1,q=>by
  simp only[g7,if_true];refine aa (aa (BJ j (hc.out Xa s b_ H _ I (yI.go e1 c1 q (Q1:=λb g=>∃d f,oE X.K g QH d σ b_/\oC X.K g QH d f/\yB qV X.K g QH d (if b=YP then uc ts σ f else .ok Y1 f) (λb H'=>∀h,L2.Inv X Xa b_ H' h->Q b h))
   λb f g d i x c p=>⟨d,f,i,c,p⟩)) λb k ⟨g,l,d,f,i,m,p⟩=>ah ?_))
  cases b with
  |true=>rw[Kk rfl] at p;exact UD j hr Xa k b_ g d σ f Q l i m p
  |false=>rw[Ko cE] at p;exact VQ (post.here p m rfl k l) a
structure xD where
 ex:List bN->c8->Pos->aT
 emit:ab->Env->Sem Unit
 new:Sem ab
 ho:aP->aZ->ae->HO
 G:ai->aP->aZ->ae->List ae->Hp->List ae->List D->Prop
structure Bs(X:Cx)(C:xD)(A:ae)(QH:List ae)(Xa:List (ae×Obj))(s:ag)(b_:St)(H:Hp)(μ:List ae)(σ:Sg)(O:Ow)(Xo:List D):Prop where
 inv:L2.Inv X Xa b_ H s
 env:oE X.K H (A::QH) μ σ b_
 cells:oC X.K H (A::QH) μ O
 grown:C.G X.K X.prog X.w A QH H μ Xo
def Q8(X:Cx)(C:xD)(A:ae)(QH:List ae)(Xa:List (ae×Obj))(b_:St)(H:Hp)(μ:List ae)(sl:n_)(Xo:List D)(O:Ow)(Q:ag->Prop):Prop:=
 ∀s' qf H' e_,L2.Inv X Xa qf H' s'->Ea A H μ H' e_->oC X.K H' (A::QH) e_ O->C.G X.K X.prog X.w A QH H' e_ Xo->qf.length=b_.length->(∀i,i∉sl->qf[i]?=b_[i]?)->Q s'
def zY(X:Cx)(C:xD)(A:ae)(QH:List ae)(Xa:List (ae×Obj))(b_:St)(H:Hp)(μ:List ae)(sl:n_)(r:R (List D))(Q:ag->Prop):Prop:=match r with
 |.ok Xo O=>Q8 X C A QH Xa b_ H μ sl Xo O Q
 |_=>False
noncomputable def Ci(e:aT)(em:ab->Env->Sem Unit)(gens:List bN)(k:Nat)(Xo:ab)(env:Env):Sem Unit:=match gens[k]? with
 | some g'=>do
  let x <- eval g'.iter env
  standAt g'.iter.pos
  let x <- if g'.is_async !=0 then foldedIterable g'.iter x else bV g'.iter env x
  let _ <- runOwn (.compStart e k (<- holding [x] (if g'.is_async !=0 then asyncIter x else pyIter x)) Xo env) env
 |none=>em Xo env
def zki(C:xD):Prop:=∀(gens:List bN)(scope:c8)(pos:Pos)(k:Nat)(it Xo:ab)(env:Env){tg iter:aT}{ifs:List aT},gens[k]?=Xy ⟨tg,iter,ifs,0⟩->
  (gens[k+1]?=XV \/ ∃CN ug xr,gens[k+1]?=Xy ⟨CN,ug,xr,0⟩)->
  compTurn (C.ex gens scope pos) k it Xo env=(do
   standAt iter.pos
   match <- pyNext it with
   |none=>pure (.done .next)
   | some v=>
    letOwnedTupleGo tg it v
    assign tg env v
    let mut ok:=YP
    for c in ifs do
     if ok then ok <- isTrue c env (eval c env)
    if ok then Ci (C.ex gens scope pos) C.emit gens (k+1) Xo env
    again (.compLoop (C.ex gens scope pos) k it Xo env))
structure Cr(C:xD):Prop where
 cl:∀gens scope pos,clausesOf (C.ex gens scope pos)=gens
 turn:zki C
 keep:∀{K P w A QH H μ Xo H' e_},C.G K P w A QH H μ Xo->A∉μ->Ext H μ H' e_->C.G K P w A QH H' e_ Xo
 new:∀{P:aP}{w:aZ}{A:bb}{E:ab->ag->Prop}{Q:ab->ag->Prop}{s:ag},(∀o:Obj,o.isFreed=Y1->(∀(H:Hp)(h:a7)(a:ae),sysModules<a->h.get? a=Xy o->oP P w (upd H a (C.ho P w a)) h a (C.ho P w a))->Q (.ref s.heap.objs.size) { s with heap:=s.heap.push o })->av (az P w) A C.new Q E s
 g0:∀{K P w a QH H μ},C.G K P w a QH (upd H a (C.ho P w a)) μ []
 q1:∀gens scope pos k it Xo env,(lS (C.ex gens scope pos) k it Xo env).quiet=YP
 u1:∀(A:bb)gens scope pos k it Xo env,A.under (lS (C.ex gens scope pos) k it Xo env)=A
 d1:∀P w gens scope pos k it Xo env,(az P w).den (lS (C.ex gens scope pos) k it Xo env)=(compTurn (C.ex gens scope pos) k it Xo env).onRaise (λx=>do noteFrame x env;theTreesLotGoes x)
 u2:∀(A:bb)gens scope pos k it Xo env,A.under (nO (C.ex gens scope pos) k it Xo env)=A
 d2:∀P w gens scope pos k it Xo env,(az P w).den (nO (C.ex gens scope pos) k it Xo env)=(compStart (C.ex gens scope pos) k it Xo env).onRaise (λx=>do noteFrame x env;standAt theWindowsPlace)
noncomputable def Cg(elt:aT):xD where
 ex:=λgens scope pos=>.ListComp elt gens scope pos
 emit:=λXo env=>do let _ <- call (.builtin "list.append") [Xo,<- eval elt env]
 new:=newList []
 ho:=λ_ _ _=>.lst []
 G:=λK _ _ A QH H μ Xo=>∃vs,H A=Xy (.lst vs)/\oD K H (A::QH) μ Xo vs
def ML(c:aT):Cr (Cg c) where
 cl:=λ_ _ _=>rfl
 turn:=λd b g k n i j t l o m f=>by
  show compTurn (.ListComp c d b g) k n i j=_;unfold compTurn Ci;rcases f with f|⟨u,v,w,f⟩
  ·simp only[m,f];rfl
  ·simp only[m,f,bne_self_eq_false,ck,if_false,bind_assoc,pure_bind]
   first|rfl|congr 1
 keep:=λ⟨p,q,r⟩ s x=>⟨p,x.keep _ _ q s,r.ext x⟩
 new:=λh=>cM (h _ rfl λH h a _ e=>⟨bI _,[],0,.nil,e⟩)
 g0:=⟨[],rZ,.nil⟩
 q1:=λ_ _ _ _ _ _ _=>rfl
 u1:=λ_ _ _ _ _ _ _ _=>rfl
 d1:=λ_ _ _ _ _ _ _ _ _=>rfl
 u2:=λ_ _ _ _ _ _ _ _=>rfl
 d2:=λ_ _ _ _ _ _ _ _ _=>rfl
noncomputable def Wp(Z:St->Hp->List ae->Prop)(K:ai)(QH:List ae)(t:DE):TE:=λb_ H Q=>∃μ σ O,Z b_ H μ/\oE K H QH μ σ b_/\oC K H QH μ O/\rM qV K H QH μ (t σ O) Q
def PD.z{X:Cx}{Z:St->Hp->List ae->Prop}{QH:List ae}{e:aT}{t:DE}(h:PD X qV e t):PE X e (Wp Z X.K QH t):=λa s b H Q I ⟨c,d,O,_,f,g,q⟩=>h.out a s b H Q I ⟨QH,c,d,O,f,g,q⟩
section
variable{C:xD}{Z:St->Hp->List ae->Prop}{A:ae}{QH:List ae}{elt:aT}{gens:List bN}{scope:c8}{pos:Pos}{te:DE}{em:Em}
def AI(X:Cx)(Z:St->Hp->List ae->Prop)(C:xD)(A:ae)(QH:List ae)(e:aT)(gens:List bN)(em:Em)(k:Nat)(cls:List Cl):Prop:=∀(Xa:List (ae×Obj))(s:ag)(b_:St)(H:Hp)(μ:List ae)(σ:Sg)(O:Ow)(Xo:List D)(Q:ag->Prop)(E:ab->ag->Prop),
 Z b_ H μ->Bs X C A QH Xa s b_ H μ σ O Xo->zY X C A QH Xa b_ H μ (qT cls) (vN cls em σ O Xo) Q->av (az X.prog X.w) X.A (Ci e C.emit gens k (.ref A) X.env) (λ_ s'=>Q s') E s
def zgd{k:Nat}{e:aT}(p:X.xe=λ_ _=>False)(F:PE X elt (Wp Z X.K (A::QH) te))(G:gens[k]?=XV):AI X Z (Cg elt) A QH e gens (Bg te) k []:=by
 intro a s h H i t O b Q E z B q;unfold Ci;rw[G];obtain⟨w,I,J⟩:=B.grown;cases j:te t O with
 | ok d O1=>
  have l:zY X (Cg elt) A QH a h H i (qT []) (if b.length<4000000 then .ok (b++[d]) O1 else .bad) Q:=by
   have:=q;unfold vN Bg at this;rw[j] at this;exact this
  by_cases o:b.length<4000000
  ·rw[Kk o] at l;refine aa (BJ p (F a s h H (λv f=>∃g,Ext H i f g/\oC X.K f (A::QH) g O1/\Xf X.K f (A::QH) g d v) B.inv ⟨i,t,O,z,B.env,B.cells,by rw[j];exact λv V L x c r=>⟨L,x,c,r⟩⟩)
    λu M ⟨v,f,N,P,g,x,c,r⟩=>?_)
   have R:A∉i:=λm=>B.cells.nh A m 'k';have n:=x.keep A _ I R;have y:=J.ext x;refine aa (BJ p (U7 a M h f (.ref A) [v] (.ref A) [u] (λ_ D=>D=upd f A (.lst (w++[v]))) N rfl (.cons P .nil)
    ⟨A,w,v,rfl,rfl,n,be (by rw[<- y.length];exact o) 'u',rfl⟩) λW S ⟨Y,D,T,r2,U⟩=>?_)
   subst U;refine ah (l S h _ g T (x.ea.trans (.put ⟨_,n⟩)) (c.putA ⟨_,n⟩) ⟨_,rZ,?_⟩ rfl λ_ _=>rfl);exact(y.append (.cons r .nil)).mv (Ea.put ⟨_,n⟩).mv
  ·rw[Ko o] at l;exact l.elim
 | exc c O1=>
  unfold vN Bg at q;rw[j] at q;exact q.elim
 | bad=>
  unfold vN Bg at q;rw[j] at q;exact q.elim
def SI(co:Cr C){k:Nat}{tg iter:aT}{ifs:List aT}{c:Cl}{cs:List Cl}(hx:X.xe=λ_ _=>False)(pW:X.calm=YP)(hk:gens[k]?=Xy ⟨tg,iter,ifs,0⟩)(hg:PG X tg (c.g.rd X.K))(hf:cj (λe t=>sj X qV e t) ifs c.ifs)
  (hZ:∀(rq tV:St)U M H2 qe,Z rq U M->(∀j,j∉qT (c::cs)->tV[j]?=rq[j]?)->Ea A U M H2 qe->Z tV H2 qe) (E:AI X Z C A QH (C.ex gens scope pos) gens em (k+1) cs) (hn:gens[k+1]?=XV \/ ∃CN ug xr,gens[k+1]?=Xy ⟨CN,ug,xr,0⟩) {it:ae} {fp:List ae} {tn:Nat->a7->Prop} {J:It} {src:Src} (T:yA X.prog X.w X.K tg J fp it tn)
  (a:List (ae×Obj)) (s:ag) (h:St) (H:Hp) (x:List ae) (σ:Sg) (O:Ow) (Xo:List D) (n:Nat) (Q:ag->Prop) (st:tn 0 s.heap) (zE:∀b∈fp,tF X a H b) (sa:oG X.K J src H (A::QH) x)
  (z0:Z h H x) (B:Bs X C A QH a s h H x σ O Xo) (q:zY X C A QH a h H x (qT (c::cs)) (rg src (vB c cs em σ) n 0 O Xo) Q):
  codeAny (az X.prog X.w) X.A (.compLoop (C.ex gens scope pos) k (.ref it) (.ref A) X.env) (λr V=>∃f,r=.ok f/\Q V) s:=by
 have xo:∀{l:Hp},(∀b∈fp,l b=XV)->∀b∈fp,tF X a l b:=λhn b E=>⟨hn b E,(zE b E).2⟩;let P:Nat->ag->Prop:=λm V=>∃i N l R p F,L2.Inv X a N l V/\tn i V.heap/\(∀b∈fp,l b=XV)/\Ea A H x l R/\oC X.K l (A::QH) R p/\C.G X.K X.prog X.w A QH l R F/\
  N.length=h.length/\(∀i,i∉qT (c::cs)->N[i]?=h[i]?)/\zY X C A QH a h H x (qT (c::cs)) (rg src (vB c cs em σ) m i p F) Q
 refine codeAny_loop (co.q1 _ _ _ _ _ _ _) P (λm s1 hP=>?_) n ⟨0,h,H,x,O,Xo,B.inv,st,λb E=>(zE b E).1,.refl,B.cells,B.grown,rfl,λ_ _=>rfl,q⟩;rw[co.u1,co.d1];refine wpAny_noted ?_;rw[co.turn _ _ _ _ _ _ _ hk hn];obtain⟨i,xV,U,M,W,S,I1,rh,Xd,x1,c1,g1,l1,k1,L⟩:=hP;have Kr:=sa (A::QH) U M W x1.mv c1 i
 -- the names that Wk
 have Pw:oE X.K U (A::QH) M (qM σ (qT (c::cs))) xV:=by
  refine⟨by rw[FU,B.env.len,l1],λj d hj=>?_⟩;obtain⟨h1,h2⟩:=Jr _ _ _ _ hj;obtain⟨v,h3,h4⟩:=B.env.at_ j d h1;exact⟨v,by rw[k1 j h2];exact h3,h4.mv x1.mv⟩
 cases rG:src.get W i with
 | none=>
  rw[rG] at Kr;have y:Q8 X C A QH a h H x (qT (c::cs)) S W Q:=by
   cases m with
   |zero=>unfold rg at L;rw[rG] at L;exact L
   |succ f=>unfold rg at L;rw[rG] at L;exact L
  refine aa (eR (aa (qc (T.done X rfl rfl rfl pW i a s1 xV U _ I1 (xo Xd) rh Kr) λr s2 ⟨hr,I2⟩=>?_)));subst hr;exact ah ⟨_,rfl,y s2 xV U M I2 x1 c1 g1 l1 k1⟩
 | some d=>
  rw[rG] at Kr;obtain⟨go,yl⟩:=Kr;cases m with
  | zero=>
   unfold rg at L;rw[rG] at L;exact L.elim
  | succ f=>
   have y:zY X C A QH a h H x (qT (c::cs)) ((vB c cs em σ d W S).bnd λF p=>rg src (vB c cs em σ) f (i+1) p F) Q:=by
    have:=L;unfold rg at this;rw[rG] at this;exact this
   refine aa (eR (aa (qc (T.item X rfl rfl rfl pW i a s1 xV U _ I1 (xo Xd) rh go) λr s2 ⟨u,hr,h2⟩=>?_)));subst hr;refine aa (qc h2 λ_ s3 ⟨v,H3,I3,r3,y3,qz,KS⟩=>?_);obtain⟨x3,c3,d3⟩:=yl v H3 y3;have I3':=I3.pinned (xo KS) (T.obj _ _ qz);cases vi:c.g.put d (qM σ (qT (c::cs))) with
   | none=>
    unfold vB at y;rw[vi] at y;exact y.elim
   | some tD=>
    have GW:vB c cs em σ d W S=((uc c.ifs tD W).bnd λb O3=>if b=YP then vN cs em tD O3 S else .ok S O3):=by
     unfold vB;rw[vi]
    rw[GW] at y;refine aa (BJ hx (hg _ s3 xV H3 v u (λY H4=>H4=H3/\oE X.K H3 (A::QH) M tD Y/\∀j,j∉c.g.slots->Y[j]?=xV[j]?) I3' r3 (Tg.ok2 c.g (Pw.ext x3) d3 vi λY e4 k4=>⟨rfl,e4,k4⟩)) λ_ s4 ⟨Y,H4,I4,e4,HI,k4⟩=>?_);subst e4;have l4:Y.length=h.length:=by rw[I4.len,<- I3.len,l1]
    have Oa:∀j,j∉qT (c::cs)->Y[j]?=h[j]?:=λj hj=>by
     rw[k4 j λz=>hj (bt _ z)];exact k1 j hj
    have nA:A∉M:=λm=>c1.nh A m 'k';have x13:=x1.trans x3.ea;have g3:=co.keep g1 nA x3
    -- behind the step: the next turn
    have I:∀{V:ag}{N:St}{l:Hp}{R:List ae}{p:Ow}{F:List D},L2.Inv X (a++FJ fp s3.heap) N l V->Ea A H x l R->oC X.K l (A::QH) R p->C.G X.K X.prog X.w A QH l R F->N.length=h.length->
      (∀i,i∉qT (c::cs)->N[i]?=h[i]?)->zY X C A QH a h H x (qT (c::cs)) (rg src (vB c cs em σ) f (i+1) p F) Q->∃m,m<f+1/\P m V:=by
     intro V N l R p F I' x' c' g' l' k' p';refine⟨f,cU f,i+1,N,l,R,p,F,I'.unpinned,T.keep _ _ _ qz λb E o e=>(I'.pin (b,o) (aC _ (aC _ (JL E e)))).1,λb E=>?_,x',c',g',l',k',p'⟩;obtain⟨o,e,d⟩:=T.obj _ _ qz b E;exact(I'.pin (b,o) (aC _ (aC _ (JL E e)))).2.1
    cases sv:uc c.ifs tD W with
    |exc c' p=>rw[sv] at y;exact y.elim
    |bad=>rw[sv] at y;exact y.elim
    | ok b O3=>
     rw[sv] at y;have q3:zY X C A QH a h H x (qT (c::cs)) ((if b=YP then vN cs em tD O3 S else .ok S O3).bnd λF p=>rg src (vB c cs em σ) f (i+1) p F) Q:=y;refine aa (UD hx hf _ s4 Y H4 M tD W _ I4 HI c3 ?_);rw[sv];intro b' H5 Bn x5 c5 eb s5 I5;subst eb;have g5:=co.keep g3 nA x5;have NH:=x13.trans x5.ea;cases b with
     | false=>
      exact ah ⟨rfl,I I5 NH c5 g5 l4 Oa q3⟩
     | true=>
      refine aa (E _ s5 Y H5 Bn tD O3 S _ _ (hZ _ _ _ _ _ _ z0 Oa NH) ⟨I5,HI.ext x5,c5,g5⟩ ?_);cases rH:vN cs em tD O3 S with
      |exc c' p=>rw[rH] at q3;exact q3.elim
      |bad=>rw[rH] at q3;exact q3.elim
      | ok acc6 O6=>
       rw[rH] at q3;intro s6 Xz H6 HZ I6 x6 c6 g6 l6 k6;refine ah ⟨rfl,I I6 (NH.trans x6) c6 g6 (l6.trans l4) (λj hj=>?_) q3⟩;rw[k6 j λz=>hj (aC _ z)];exact Oa j hj
end
end
section
variable{X:Cx}{Z:St->Hp->List ae->Prop}{C:xD}{A:ae}{QH:List ae}{gens:List bN}{scope:c8}{pos:Pos}{em:Em}
def Uz(a:Cr C)(b:gens[k]?=Xy ⟨tg,iter,ifs,0⟩)(T:yA X.prog X.w X.K tg J fp it tn)(i:Nat)(c:tn i s.heap)
  (h:codeAny (az X.prog X.w) X.A (.compLoop (C.ex gens scope pos) k (.ref it) Xo env) P s):
  codeAny (az X.prog X.w) X.A (.compStart (C.ex gens scope pos) k (.ref it) Xo env) P s:=by
 refine i7 ?_;rw[a.u2,a.d2];refine wpAny_notedAt ?_;unfold compStart;have d:clausesOf (C.ex gens scope pos)=gens:=a.cl _ _ _;simp only[d,b,Option.elim,bne_self_eq_false,ck,if_false];refine aa (fg (wpAny_ite ?_));split
 ·exact ah (fu (a.q1 _ _ _ _ _ _ _) h)
 ·refine aa (dN ?_);exact aa (eR (aa (T.self _ i s _ _ c (ah (fu (a.q1 _ _ _ _ _ _ _) h)))))
def SX(w:Cr C)(y:X.xe=λ_ _=>False)(V:X.calm=YP){W:n_}(M:∀(D F:St)d b o p,Z D d b->(∀j,j∉W->F[j]?=D[j]?)->Ea A d b o p->Z F o p)(Y:∀k,gens[k]?=XV->AI X Z C A QH (C.ex gens scope pos) gens em k []):∀{i:List bN}{l:List Cl},oW X i l->(∀j∈qT l,j∈W)->∀k,gens.drop k=i->AI X Z C A QH (C.ex gens scope pos) gens em k l
 | _,_,.nil,_,k,hd=>Y k (by
   have:=congrArg kP hd;simp at this;exact a9.mpr 'd')
 | ⟨tg,iter,ifs,_⟩::gs,c::cs,.cons hi hs hg hf r,KD,k,hd=>by
  have N:gens[k]?=Xy ⟨tg,iter,ifs,0⟩:=by
   have:(gens.drop k)[0]?=Xy ⟨tg,iter,ifs,0⟩:=by rw[hd];rfl
   simpa using this
  have KO:gens.drop (k+1)=gs:=by
   have:=congrArg (List.drop 1) hd;simpa [eI,ki] using this
  have hb:=SX w y V M Y r (λj m=>KD j (aC _ m)) (k+1) KO;have hn:gens[k+1]?=XV \/ ∃CN ug xr,gens[k+1]?=Xy ⟨CN,ug,xr,0⟩:=by
   have e:gens[k+1]?=gs[0]?:=by rw[<- KO];simp
   cases r with
   |nil=>exact .inl (by rw[e];rfl)
   |cons _ _ _ _ _=>exact .inr ⟨_,_,_,by rw[e];rfl⟩
  intro a s P H G u O n Q E z B q;unfold Ci;rw[N];simp only[bne_self_eq_false,ck,if_false];cases g:c.it u O with
  |exc R O'=>unfold vN at q;rw[g] at q;exact q.elim
  |bad=>unfold vN at q;rw[g] at q;exact q.elim
  | ok src O1=>
   have t:zY X C A QH a P H G (qT (c::cs)) (rg src (vB c cs em u) (src.size O1) 0 O1 n) Q:=by
    have:=q;unfold vN at this;rw[g] at this;exact this
   refine aa (BJ y (hi.out a s P H (λJ d=>∃b,Ext H G d b/\oC X.K d (A::QH) b O1/\oG X.K J src d (A::QH) b) B.inv ⟨A::QH,G,u,O,B.env,B.cells,by rw[g];exact λJ d b x c S=>⟨b,x,c,S⟩⟩) λv s1 h1=>?_);refine aa (eR ?_);refine aa (jw (hs v) ?_);refine aa (bH (BJ y h1 λGV s2 h2=>?_));obtain⟨it,fp,tn,J,o,e,I2,T,qP,f2,p,I,c2,S⟩:=h2;subst e;refine aa (wpAny_runOwn (h:=XV) ?_);show codeAny _ X.A _ _ _;have nA:A∉G:=λm=>B.cells.nh A m 'k';refine Uz w N T 0 qP ?_;refine ft (SI w (A:=A) (QH:=QH) (em:=em) (c:=c) (cs:=cs) y V N hg hf (λD F d b o p z1 k1 x1=>M D F d b o p z1 (λj hj=>k1 j λm=>hj (KD j m)) x1) hb hn T a s2 P o p u O1 n (src.size O1) (λL=>Q L) qP f2 S (M _ _ _ _ _ _ z (λ_ _=>rfl) I.ea) ⟨I2,B.env.ext I,c2,w.keep B.grown nA I⟩ ?_) λr L hr=>?_
   ·cases U:rg src (vB c cs em u) (src.size O1) 0 O1 n with
    |exc R O'=>rw[U] at t;exact t.elim
    |bad=>rw[U] at t;exact t.elim
    | ok rE O'=>
     rw[U] at t;exact λL qf H' e_ I' x' R g' l' k'=>t L qf H' e_ I' (I.ea.trans x') R g' l' k'
   ·obtain⟨f,rfl,hq⟩:=hr;exact ah hq
end
noncomputable def qY(X:Cx)(N':List aB)(scope:c8)(cells:List (aB×ae))(C:ae)(s:ag)(H:Hp)(fp:List ae):Cx:=
 { X with
  N:=N',s₀:=s,H₀:=H
  env:={ scope:=relabel scope X.env,locals:=C,globals:=X.env.globals,cells:=cells,qual:=X.env.qual,func:=XV,code:=X.env.code,frame:=X.env.frame,builtins:=X.env.builtins }
  outer:=X.stack,ex:=fp,fn:=λx=>scope.names.lookup x==Xy .cell,pn:=[],xe:=λ_ _=>False }
structure yt(sc scope:c8)(N':List aB)(sl:n_):Prop where
 kind:scope.kind=.function
 nd:(scope.names.map (·.1)).Nodup
 frees:∀y∈scope.names,y.2=.free->sc.names.lookup y.1=Xy .cell\/sc.names.lookup y.1=Xy .free
 own:∀(i:Nat)x,N'[i]?=Xy x->(x,NameKind.local)∈scope.names\/(x,dP)∈scope.names->i∈sl
theorem Ab{β:Type}:∀{l:List (aB×β)}{x:aB}{b:β},(l.map (·.1)).Nodup->(x,b)∈l->l.lookup x=Xy b
 |[],_,_,_,h=>by cases h
 | (y,c)::r,x,b,nd,h=>by
  obtain⟨a,d⟩:=bz.mp nd;rcases aw.mp h with e|h
  ·cases e;simp[fh]
  ·have f:x≠y:=λe=>a (ay.mpr ⟨(x,b),h,e⟩);rw[fh];have:(x==y)=Y1:=⇑f
   rw[this];exact Ab d h
theorem Ny(a:Env)(x:aB):∀(names:List (aB×dE)),(names.map λ(n,k)=>if (k==dD&&a.scope.kind == .function&&a.kindOf n==Xy .cell) then (n,dP) else (n,k)).lookup x =
  (names.lookup x).map λk=>if (k==dD&&a.scope.kind == .function&&a.kindOf x==Xy .cell) then dP else k
 |[]=>rfl
 | (n,k)::r=>by
  show List.lookup x ((if (k==dD&&a.scope.kind == .function&&a.kindOf n==Xy .cell)=YP then (n,dP) else (n,k))::_)=_;cases b:x==n with
  | true=>
   have e:x=n:=⇑b
   subst e;simp;split
   ·rename_i h;simp[fh,h]
   ·rename_i h;simp[fh,h]
  | false=>
   have c:=Ny a x r;simp only[fh,b];rw[<- c];split<;>simp only[fh,b]
def VM(h:vK (relabel scope env) x):(x,NameKind.local)∈scope.names\/(x,dP)∈scope.names\/(x,dD)∈scope.names:=by
 unfold vK relabel at h;simp only[Ny] at h;cases e:scope.names.lookup x with
 |none=>rw[e] at h;simp at h
 | some k=>
  have m:=bO e;cases k with
  | «local»=>exact .inl m
  |cell=>exact .inr (.inl m)
  |free=>exact .inr (.inr m)
  |_=>rw[e] at h;simp at h
noncomputable def sQ(cells:List (aB×ae)):List (aB×dE)->List (aB×ae)->List (aB×ae)
 |[],Xo=>Xo
 |(n,k)::r,Xo=>if k == .free then sQ cells r ((n,(cells.lookup n).getD 0)::Xo) else sQ cells r Xo
def VY(h:∀y∈scope.names,y.2=.free->∃c,env.cells.lookup y.1=Xy c):closureFor scope env=pure (sQ env.cells scope.names []):=by
 have f:∀(b:List (aB×dE))(d:List (aB×ae)),(∀y∈b,y.2=.free->∃c,env.cells.lookup y.1=Xy c)->
   (forIn b d λ(x:aB×dE)(e:List (aB×ae))=>(if x.2 == .free then (do let a <- cellOf env x.1;pure (gd ((x.1,a)::e))) else pure (gd e):Sem _))=pure (sQ env.cells b d):=by
  intro b
  induction b with
  |nil=>intro d _;rfl
  | cons y r ih=>
   intro d g;obtain⟨n,k⟩:=y;rw[g7];unfold sQ;by_cases i:(k==dD)=YP
   ·obtain⟨c,l⟩:=g (n,k) ar ⇑i;have o:cellOf env n=pure c:=by unfold cellOf;rw[l]
    simp only[i,if_true,o,pure_bind,l,Option.getD_some];exact ih _ λy j=>g y (ak _ j)
   ·simp only[i,if_false,pure_bind,ck];exact ih _ λy j=>g y (ak _ j)
 have:=f scope.names [] h;refine Eq.trans ?_ (congrArg (λm=>m >>= λe=>pure e) this);congr 1
theorem JM:∀(names:List (aB×dE))(Xo:List (aB×ae)),(x,c)∈sQ cells names Xo->(x,c)∈Xo\/((x,dD)∈names/\c=(cells.lookup x).getD 0)
 |[],Xo,h=>.inl h
 | (n,k)::r,Xo,h=>by
  unfold sQ at h;by_cases a:(k==dD)=YP
  ·rw[Kk a] at h;rcases JM r _ h with m|⟨m,e⟩
   ·rcases aw.mp m with m|m
    ·cases m;have:k=.free:=⇑a
     subst this;exact .inr ⟨ar,rfl⟩
    ·exact .inl m
   ·exact .inr ⟨ak _ m,e⟩
  ·rw[Ko a] at h;rcases JM r _ h with m|⟨m,e⟩
   ·exact .inl m
   ·exact .inr ⟨ak _ m,e⟩
theorem M7:∀(names:List (aB×dE))(Xo:List (aB×ae)),p∈Xo->p∈sQ cells names Xo
 |[],Xo,h=>h
 | (n,k)::r,Xo,h=>by
  unfold sQ;split
  ·exact M7 r _ (ak _ h)
  ·exact M7 r _ h
theorem JK:∀(names:List (aB×dE))(Xo:List (aB×ae)),(x,dD)∈names->(x,(cells.lookup x).getD 0)∈sQ cells names Xo
 | (n,k)::r,Xo,h=>by
  unfold sQ;rcases aw.mp h with e|h
  ·cases e;exact M7 r _ ar
  ·split
   ·exact JK r _ h
   ·exact JK r _ h
theorem LN:∀(names:List (aB×dE))(n:Nat)(Xo:List (aB×ae)),(x,c)∈cH n names Xo->(x,c)∈Xo\/((x,dP)∈names/\n<=c)
 |[],n,Xo,h=>.inl h
 | (y,k)::r,n,Xo,h=>by
  unfold cH at h;by_cases a:(k==dP)=YP
  ·rw[Kk a] at h;rcases LN r _ _ h with m|⟨m,e⟩
   ·rcases aw.mp m with m|m
    ·cases m;have:k=.cell:=⇑a
     subst this;exact .inr ⟨ar,aE _⟩
    ·exact .inl m
   ·exact .inr ⟨ak _ m,mL e⟩
  ·rw[Ko a] at h;rcases LN r _ _ h with m|⟨m,e⟩
   ·exact .inl m
   ·exact .inr ⟨ak _ m,e⟩
theorem LP:∀(names:List (aB×dE))(n:Nat)(Xo:List (aB×ae)),p∈Xo->p∈cH n names Xo
 |[],_,_,h=>h
 | (y,k)::r,n,Xo,h=>by
  unfold cH;split
  ·exact LP r _ _ (ak _ h)
  ·exact LP r _ _ h
theorem MO:∀(names:List (aB×dE))(n:Nat)(Xo:List (aB×ae)),(Xo.Pairwise λx y=>x.2≠y.2)->(∀p∈Xo,p.2<n)->(cH n names Xo).Pairwise λx y=>x.2≠y.2
 |[],_,_,h,_=>h
 | (y,k)::r,n,Xo,h,hl=>by
  unfold cH;split
  ·refine MO r (n+1) _ (bR.mpr ⟨λp hp=>?_,h⟩) λp hp=>?_
   ·exact λe=>absurd (hl p hp) (by show ¬ p.2<n;rw[<- e];exact bZ _)
   ·rcases aw.mp hp with rfl|hp
    ·exact cU _
    ·exact dr (hl p hp)
  ·exact MO r n Xo h hl
theorem MB:∀(names:List (aB×dE))(n:Nat)(Xo:List (aB×ae)),((names.map (·.1)).Nodup)->(Xo.map (·.1)).Nodup->(∀p∈Xo,∀k,(p.1,k)∈names->k≠dP)->((cH n names Xo).map (·.1)).Nodup
 |[],_,_,_,h,_=>h
 | (y,k)::r,n,Xo,nd,h,hl=>by
  obtain⟨f,d⟩:=bz.mp nd;unfold cH;by_cases c:(k==dP)=YP
  ·rw[Kk c];have g:k=.cell:=⇑c
   refine MB r (n+1) _ d (bz.mpr ⟨λm=>?_,h⟩) λp hp a b=>?_
   ·obtain⟨p,hp,e⟩:=ay.mp m;exact hl p hp k (by rw[e];exact ar) g
   ·rcases aw.mp hp with rfl|hp
    ·exact absurd (ay.mpr ⟨(y,a),b,rfl⟩) f
    ·exact hl p hp a (ak _ b)
  ·rw[Ko c];exact MB r n Xo d h λp hp a b=>hl p hp a (ak _ b)
theorem JY:∀(names:List (aB×dE))(Xo:List (aB×ae)),((names.map (·.1)).Nodup)->(Xo.map (·.1)).Nodup->(∀p∈Xo,p.1∉names.map (·.1))->((sQ cells names Xo).map (·.1)).Nodup
 |[],_,_,h,_=>h
 | (y,k)::r,Xo,nd,h,hl=>by
  obtain⟨b,a⟩:=bz.mp nd;unfold sQ;split
  ·refine JY r _ a (bz.mpr ⟨λm=>?_,h⟩) λp hp=>?_
   ·obtain⟨p,hp,e⟩:=ay.mp m;exact hl p hp (by rw[e];simp)
   ·rcases aw.mp hp with rfl|hp
    ·exact b
    ·exact λm=>hl p hp (ak _ m)
  ·exact JY r Xo a h λp hp m=>hl p hp (ak _ m)
theorem L9:∀(names:List (aB×dE))(h:a7)(Xo:List (aB×ae)),(x,c)∈cH h.objs.size names Xo->(x,c)∈Xo\/(mm h names).IsCell c XV
 |[],_,_,m=>.inl m
 | (y,k)::r,h,Xo,m=>by
  unfold cH at m;unfold mm;by_cases a:(k==dP)=YP
  ·rw[Kk a] at m ⊢;have e:h.objs.size+1=(h.push { cls:=.type "cell",data:=.cell XV }).objs.size:=(cz ..).symm;rw[e] at m;rcases L9 r _ _ m with m|m
   ·rcases aw.mp m with m|m
    ·cases m;exact .inr ⟨_,i8 _ _ _ _ (aI _ rfl),rfl⟩
    ·exact .inl m
   ·exact .inr m
  ·rw[Ko a] at m ⊢;exact L9 r _ _ m
def z85{l:List (aB×ae)}(d:(l.map (·.1)).Nodup)(inj:∀p∈l,∀q∈l,p.2=q.2->p.1=q.1):l.Pairwise λx y=>x.2≠y.2:=by
 induction l with
 |nil=>exact .nil
 | cons p r ih=>
  obtain⟨f,g⟩:=bz.mp d;refine bR.mpr ⟨λq c e=>f ?_,ih g λa h b i=>inj a (ak _ h) b (ak _ i)⟩;exact ay.mpr ⟨q,c,(inj p ar q (ak _ c) e).symm⟩
abbrev FA:Obj:={ cls:=.type "dict",data:=.dict #[] }
section
variable{X:Cx}{Xa:List (ae×Obj)}{b_:St}{H:Hp}{s:ag}
abbrev IK(ob:Obj)(h:a7)(names:List (aB×dE)):a7:=mm ((h.push ob).push FA) names
def VR(c:Obj)(h:a7)(a:List (aB×dE))(b:ae)(o:Obj)(e:h.get? b=Xy o):(IK c h a).get? b=Xy o:=i8 _ _ _ _ (af _ (af _ e))
def YQ(a:Obj)(h:a7):((h.push a).push FA).objs.size=h.objs.size+2:=by rw[cz,cz]
def ze1{d:c8}{ext:List aB}{Q:n_}{G:List ae}(I:L2.Inv X Xa b_ H s)(D:∀b∈G,tF X Xa H b)(R:∀b∈G,b<s.heap.objs.size)(j:yt X.env.scope d (X.N++ext) Q){A:Obj}{u:HO}(OS:A.isFreed=Y1)(xM:∀h:a7,h.get? s.heap.objs.size=Xy A->oP X.prog X.w (upd H s.heap.objs.size u) h s.heap.objs.size u):
  L2.Inv (qY X (X.N++ext) d (cH (s.heap.objs.size+2) d.names (sQ X.env.cells d.names [])) (s.heap.objs.size+1) s H G) [] (qM (b_++aU ext.length XV) Q)
   (upd H s.heap.objs.size u) { s with heap:=IK A s.heap d.names }:=by
 have S:∀x c,X.env.cells.lookup x=Xy c->c<s.heap.objs.size:=λx c e=>by
  obtain⟨v,z⟩:=I.cell x c e;exact z.lt
 -- a free name of the block has d_ cell around
 have T:∀x,(x,dD)∈d.names->∃c,X.env.cells.lookup x=Xy c:=λx g=>I.ok.has x (j.frees _ g rfl);have B:∀x c,(x,c)∈sQ X.env.cells d.names []->(x,dD)∈d.names/\X.env.cells.lookup x=Xy c:=λx c hm=>by
  rcases JM _ _ hm with m|⟨m,e⟩
  ·cases m
  ·obtain⟨c',U⟩:=T x m;rw[U] at e;exact⟨m,by rw[e];exact U⟩
 have J:∀x,(x,dD)∈d.names->∀c,X.env.cells.lookup x=Xy c->(x,c)∈sQ X.env.cells d.names []:=λx g c e=>by
  have:=JK (cells:=X.env.cells) d.names [] g;rw[e] at this;exact this
 have V:((sQ X.env.cells d.names []).map (·.1)).Nodup:=JY _ _ j.nd 'k' (by intro p n;cases n);have K:((cH (s.heap.objs.size+2) d.names (sQ X.env.cells d.names [])).map (·.1)).Nodup:=MB _ _ _ j.nd V λp n k hk e=>by
  subst e;have l:=(B p.1 p.2 n).1;have:=Ab j.nd l;rw[Ab j.nd hk] at this;cases this
 have t:(cH (s.heap.objs.size+2) d.names (sQ X.env.cells d.names [])).Pairwise λx y=>x.2≠y.2:=by
  refine MO _ _ _ (z85 V λp n q hq e=>?_) λp n=>be (S _ _ (B p.1 p.2 n).2) (gJ _ _);refine I.ok.inj p.1 q.1 p.2 (B p.1 p.2 n).2 ?_;rw[e];exact(B q.1 q.2 hq).2
 have L:∀x c,(cH (s.heap.objs.size+2) d.names (sQ X.env.cells d.names [])).lookup x=Xy c->((x,dD)∈d.names/\X.env.cells.lookup x=Xy c)\/((x,dP)∈d.names/\s.heap.objs.size+2<=c):=λx c e=>by
  rcases LN _ _ _ (bO e) with m|m
  ·exact .inl (B x c m)
  ·exact .inr m
 have f:∀a,s.heap.objs.size<=a->H a=XV:=λa ha=>I.hok.fresh ha;have E:=VR A s.heap d.names;have W:∀x,(x,dD)∈d.names->∀c,X.env.cells.lookup x=Xy c->(cH (s.heap.objs.size+2) d.names (sQ X.env.cells d.names [])).lookup x=Xy c:=λx g c e=>
  Ab K (LP _ _ _ (J x g c e))
 refine⟨⟨I.ok.mod,j.kind,I.ok.glob,I.ok.blt,dR _,λx y c l M=>name_of_addr t (bO l) (bO M),λx g=>?_,λx c g h=>?_,I.ok.hd,I.ok.frames,.inl rfl,λb r=>⟨?_,λx c e=>?_⟩,I.bs,?_,λb o e r=>?_,λb r z=>?_,I.stack,I.stkFree⟩,
  rfl,I.bare,Un.laid E (aE _) (f _ (aE _)),?_,λx c e=>?_,?_,λx c e=>?_,λp n=>absurd (show p∈([]:List (ae×Obj)) from n) 'k',I.hok.laid E (aE _) ?_,?_,I.tk⟩
 ·-- has
  have g:vK (relabel d X.env) x:=.inr g;rcases VM g with m|m|m
  ·exfalso;have e:=Ab j.nd m;have Y:(relabel d X.env).names.lookup x=Xy .local:=lookup_relabel_local e;rcases (show(relabel d X.env).names.lookup x=Xy .cell\/(relabel d X.env).names.lookup x=Xy .free by rename_i O;exact O) with q|q
   ·rw[Y] at q;cases q
   ·rw[Y] at q;cases q
  ·exact hV.mp (iG d.names _ _ (.inl (Ab j.nd m)))
  ·obtain⟨c,P⟩:=T x m;exact⟨c,W x m c P⟩
 ·-- cab
  have g:(d.names.lookup x==Xy .cell)=YP:=g;rcases L x c h with⟨m,_⟩|⟨_,m⟩
  ·rw[Ab j.nd m] at g;cases g
  ·exact aH (gJ _ _) m
 ·exact bq (dr (R b r))
 ·rcases L x c e with⟨_,m⟩|⟨_,m⟩
  ·exact(D b r).2.2.2.2.1 x c m
  ·have O:=R b r;exact λz=>by
    rw[z] at m;exact absurd (be O (aH (gJ _ 2) m)) (bZ _)
 ·exact aH I.ok.bsz I.sz
 ·rcases (D b r).2.2.2.1 with z|z
  ·exact I.ok.noex b o e z
  ·exact absurd (be (aN e) (aH I.ok.bsz z)) (bZ _)
 ·rcases aw.mp (I.stkSub b z) with q|q
  ·exact(D b r).2.1 q
  ·exact(D b r).2.2.1 q
 ·-- loc
  refine⟨λ_=>XV,?_,λi x v l M h3=>?_⟩
  ·have z:=(Heap.Ns.new (s.heap.push A) (.type "dict")).keeps (i8 d.names _);rw[cz] at z;exact z
  ·obtain⟨C,Z⟩:=Jr _ _ _ _ M;have F:i<b_.length:=by
    by_cases F:i<b_.length
    ·exact F
    ·rw[aS 'd',f8] at C;split at C<;>cases C
   rw[aK F] at C;have A3:X.N[i]?=Xy x:=by
    have l:(X.N++ext)[i]?=Xy x:=l;rw[aK (by rw[<- I.len];exact F)] at l;exact l
   rcases VM h3 with m|m|m
   ·exact absurd (j.own i x l (.inl m)) Z
   ·exact absurd (j.own i x l (.inr m)) Z
   ·obtain⟨m0,hn,hl⟩:=I.loc;have kx:=j.frees _ m rfl;obtain⟨u,ru,lk⟩:=hl i x v A3 C (.inr kx);refine⟨u,ru,?_⟩;rcases lk with⟨q,_⟩|⟨q,c,P,z⟩
    ·exfalso;have q:X.env.scope.names.lookup x=Xy .local:=q;rcases kx with k|k<;>(rw[q] at k;cases k)
    ·refine .inr ⟨?_,c,W x m c P,z.keeps E⟩;have e:=Ab j.nd m;show(relabel d X.env).names.lookup x=Xy .cell\/(relabel d X.env).names.lookup x=Xy .free;unfold relabel;simp only[Ny,e,Option.map_some];split
     ·exact .inl rfl
     ·exact .inr rfl
 ·-- cell
  rcases L9 d.names ((s.heap.push A).push FA) (sQ X.env.cells d.names []) (by rw[YQ];exact bO e) with m|m
  ·obtain⟨v,z⟩:=I.cell x c (B x c m).2;exact⟨v,z.keeps E⟩
  ·exact⟨XV,m⟩
 ·show upd H s.heap.objs.size u (s.heap.objs.size+1)=XV;rw[qi (eF (cU _))];exact f _ (dR _)
 ·rcases L x c e with⟨_,m⟩|⟨_,m⟩
  ·rw[qi (bq (S x c m))];exact I.freeC x c m
  ·have ne:c≠s.heap.objs.size:=λz=>by
    rw[z] at m;exact absurd m 'd'
   rw[qi ne];exact f c (aH (gJ _ 2) m)
 ·exact xM _ (i8 _ _ _ _ (af _ (aI _ OS)))
 ·show _=(X.N++ext).length;rw[FU,au,lc,au,I.len]
end
def zp{α:Type}:R α->R α
 |.ok a O=>.ok a O
 |_=>.bad
def BE(ext:Nat)(it0:DI)(g:Tg)(ts:List DT)(cs:List Cl)(em:Em):Sg->Ow->R (List D):=λσ O=>(it0 σ O).bnd λsrc O1=>
 zp (rg src (vB ⟨it0,g,ts⟩ cs em (qM (σ++aU ext XV) (qT (⟨it0,g,ts⟩::cs)))) (src.size O1) 0 O1 [])
def BB(ext:Nat)(it0:DI)(g:Tg)(ts:List DT)(cs:List Cl)(te:DE):Sg->Ow->R (List D):=λσ O=>(it0 σ O).bnd λsrc O1=>
 zp (rg src (zV ⟨it0,g,ts⟩ cs te (qM (σ++aU ext XV) (qT (⟨it0,g,ts⟩::cs)))) (src.size O1) 0 O1 [])
def M8(ext:Nat)(it0:DI)(g:Tg)(ts:List DT)(cs:List Cl)(te:DE):BE ext it0 g ts cs (Bg te)=BB ext it0 g ts cs te:=by funext σ O;unfold BE BB;rw[zie]
def ZB(b_:St)(n:Nat)(sl:n_)(A:ae)(H0:Hp):St->Hp->List ae->Prop:=λσ H μ=>(∀j,j∉sl->σ[j]?=(b_++aU n XV)[j]?)/\H0 A=XV/\∃H8 o,Ea A (upd H0 A o) H8 H μ/\∀a∈H8,∃vs,H0 a=Xy (.lst vs)
section
variable{C:xD}{em:Em}
variable{X:Cx}{M:i4}{A:bb}{E:ab->ag->Prop}{s:ag}
def z7V
  (h:Q { scope,locals:=s.heap.objs.size,globals,cells:=cH (s.heap.objs.size+1) scope.names cl,qual,func:=XV,code:=env.code,frame:=env.frame,builtins:=env.builtins } { s with heap:=mm (s.heap.push FA) scope.names }):
  av M A (newFunctionEnv scope globals cl [] qual XV .none (Xy env)) Q E s:=by simp only[newFunctionEnv,mj,if_true];refine aa (wpAny_alloc ?_);refine aa (wpAny_layCells _ (λc a cells=>by cases b:a==dP<;>simp[b]) _ _ _ _ ?_);rw[show({ s with heap:=s.heap.push FA }:ag).heap.objs.size=s.heap.objs.size+1 from cz ..];exact ah h
structure Rw(X:Cx)(C:xD)(Xa:List (ae×Obj))(b_:St)(H:Hp)(QH μ:List ae)(L Cn:ae)(Xo:List D)(O:Ow)(s':ag):Prop where
 inv:∃H' e_,L2.Inv X Xa b_ H' s'/\Ext H μ H' e_/\oC X.K H' (L::QH) e_ O/\H L=XV/\H' Cn=XV/\C.G X.K X.prog X.w L QH H' e_ Xo
 ns:∃m,s'.heap.Ns Cn m
 loc:Cn≠X.env.locals
 young:X.s₀.heap.objs.size<=Cn
 cel:∀x c,X.env.cells.lookup x=Xy c->c≠Cn
 pns:∀p∈X.pn++Xa,p.1≠Cn
def Inv.bare{a:List (ae×Obj)}{j:St}{H:Hp}{f:ag}{C:ae}{h':a7}(I:L2.Inv X a j H f)(k:dg C f.heap h')(l:H C=XV)(g:C≠X.env.locals)(d:X.s₀.heap.objs.size<=C)(h:∀x c,X.env.cells.lookup x=Xy c->c≠C)
  (i:∀p∈X.pn++a,p.1≠C):L2.Inv X a j H { f with heap:=h' }:=I.turned (λb o m e=>(k.2 b m).trans e) l g (.inr d) h i
def zaZ(V:Cr C)
  {it:ae} {u:List ae} {tn:Nat->a7->Prop} {J:It} {RR:ab->ae->Result->ag->Prop}
  (pW:X.calm=YP) (W:yt X.env.scope scope (X.N++ext) (qT (⟨it0,g,ts⟩::cs)))
  (tU:∀cells Cn,PG (qY X (X.N++ext) scope cells Cn s H u) tg (g.rd X.K)/\cj (λe t=>sj (qY X (X.N++ext) scope cells Cn s H u) qV e t) ifs ts/\oW (qY X (X.N++ext) scope cells Cn s H u) gs cs/\∀A QH k,(⟨tg,iter,ifs,0⟩::gs:List bN)[k]?=XV->AI (qY X (X.N++ext) scope cells Cn s H u) (ZB b_ ext.length (qT (⟨it0,g,ts⟩::cs)) A H) C A QH (C.ex (⟨tg,iter,ifs,0⟩::gs) scope pos) (⟨tg,iter,ifs,0⟩::gs) em k [])
  (I:L2.Inv X Xa b_ H s) (e1:oE X.K H QH μ σ b_) (L:oC X.K H QH μ O) (T:yA X.prog X.w X.K tg J u it tn) (st:tn 0 s.heap) (zE:∀b∈u,tF X Xa H b) (sa:oG X.K J src H QH μ)
  (hw:rg src (vB ⟨it0,g,ts⟩ cs em (qM (σ++aU ext.length XV) (qT (⟨it0,g,ts⟩::cs)))) (src.size O) 0 O []=.ok Xo O2)
  (hRR:∀f B,Rw X C Xa b_ H QH μ s.heap.objs.size (s.heap.objs.size+1) Xo O2 B->RR (.ref s.heap.objs.size) (s.heap.objs.size+1) (.ok f) B):
  av (az X.prog X.w) X.A C.new (λac ye=>av (az X.prog X.w) X.A (newFunctionEnv scope X.env.globals (sQ X.env.cells scope.names []) [] X.env.qual XV .none (Xy X.env)) (λHM NK=>
   codeAny (az X.prog X.w) X.A (.compStart (C.ex (⟨tg,iter,ifs,0⟩::gs) scope pos) 0 (.ref it) ac { HM with scope:=relabel scope X.env }) (RR ac HM.locals) NK) E ye) E s:=by
 refine V.new λY OS xM=>(z7V ?_);have q9:(s.heap.push Y).objs.size=s.heap.objs.size+1:=cz ..;have qm:∀b∈u,b<s.heap.objs.size:=λb W=>by
  obtain⟨o,ho,_⟩:=T.obj 0 _ st b W;exact aN ho
 have IB:=ze1 I zE qm W OS (λh=>xM H h _ I.big);have D:=I.hok.fresh (aE _);have q_:∀b∈u,b≠s.heap.objs.size:=λb W=>bq (qm b W);obtain⟨b1,b2,b3,b4⟩:=tU (cH (s.heap.objs.size+2) scope.names (sQ X.env.cells scope.names [])) (s.heap.objs.size+1);generalize l:qY X (X.N++ext) scope (cH (s.heap.objs.size+2) scope.names (sQ X.env.cells scope.names [])) (s.heap.objs.size+1) s H u=y at IB b1 b2 b3 b4;have Z:y.prog=X.prog:=by rw[<- l];rfl
 have eW:y.w=X.w:=by rw[<- l];rfl
 have F:y.K=X.K:=by rw[<- l];rfl
 have eA:y.A=X.A:=by rw[<- l];rfl
 have ex:y.xe=λ_ _=>False:=by rw[<- l];rfl
 have ec:y.calm=YP:=by rw[<- l];exact pW
 have DC:y.env={ scope:=relabel scope X.env,locals:=s.heap.objs.size+1,globals:=X.env.globals,cells:=cH (s.heap.objs.size+2) scope.names (sQ X.env.cells scope.names []),qual:=X.env.qual,func:=XV,code:=X.env.code,frame:=X.env.frame,builtins:=X.env.builtins }:=by rw[<- l];rfl
 have HJ:({ ({ scope,locals:=(s.heap.push Y).objs.size,globals:=X.env.globals,cells:=cH ((s.heap.push Y).objs.size+1) scope.names (sQ X.env.cells scope.names []),qual:=X.env.qual,func:=XV,code:=X.env.code,frame:=X.env.frame,builtins:=X.env.builtins }:Env) with scope:=relabel scope X.env }:Env)=y.env:=by
  rw[DC,q9]
 rw[HJ,q9];have NZ:Mv H QH μ (upd H s.heap.objs.size (C.ho X.prog X.w s.heap.objs.size)) (s.heap.objs.size::QH) μ:=(Mv.hide D).trans ⟨⟨[],by simp⟩,λb o h _ n2 _=>by rw[qi (λz=>n2 (by simp[z]))];exact h,λ_ m=>.inl m,λ_ m=>.inl m,yH,λ_ t=>t.upd (.inl D)⟩;have c2:oC X.K (upd H s.heap.objs.size (C.ho X.prog X.w s.heap.objs.size)) (s.heap.objs.size::QH) μ O:=by
  refine⟨L.len,L.nd,λa m z=>?_,λa m=>?_,λk a e=>?_⟩
  ·rcases aw.mp z with rfl|z
   ·exact(L.not_in D).2 m
   ·exact L.nh a m z
  ·rcases aw.mp m with rfl|m
   ·rw[rZ];simp
   ·exact yH a (L.ht a m)
  ·obtain⟨ds,vs,R,S,h3⟩:=L.at_ k a e;exact⟨ds,vs,R,by rw[qi (sR S D)];exact S,h3.mv NZ⟩
 have e2:oE X.K (upd H s.heap.objs.size (C.ho X.prog X.w s.heap.objs.size)) (s.heap.objs.size::QH) μ (qM (σ++aU ext.length XV) (qT (⟨it0,g,ts⟩::cs))) (qM (b_++aU ext.length XV) (qT (⟨it0,g,ts⟩::cs))):=by
  refine⟨by rw[FU,FU,au,au,e1.len];simp,λi d h=>?_⟩;obtain⟨g1,g2⟩:=Jr _ _ _ _ h;have hi:i<σ.length:=by
   by_cases hi:i<σ.length
   ·exact hi
   ·rw[aS 'd',f8] at g1;split at g1<;>cases g1
  rw[aK hi] at g1;obtain⟨v,R,S⟩:=e1.at_ i d g1;exact⟨v,by rw[Mq _ _ _ g2,aK (by rw[<- e1.len];exact hi)];exact R,S.mv NZ⟩
 have OT:∀b∈u,tF y [] (upd H s.heap.objs.size (C.ho X.prog X.w s.heap.objs.size)) b:=λb G=>by
  obtain⟨f0,f1,f2,f3,f4,f5⟩:=zE b G;have R:=IB.ok.exf;refine⟨by rw[qi (q_ b G)];exact f0,?_,?_,.inl ?_,?_,?_⟩
  ·exact(R b (by rw[<- l];exact G)).1
  ·rw[<- l];exact λz=>IB.ok.exfs b (by rw[<- l];exact G) (by rw[<- l];exact z)
  ·rw[<- l];exact G
  ·exact(R b (by rw[<- l];exact G)).2
  ·rw[<- l];exact λp hp=>absurd (show p∈([]:List (ae×Obj)) from hp) 'k'
 have h_:tn 0 (IK Y s.heap scope.names):=T.keep _ _ _ st λb _ o e=>VR _ _ _ _ _ e;have T':yA y.prog y.w y.K tg J u it tn:=by rw[Z,eW,F];exact T
 have W6:∀(rq tV:St)H1 g_ H2 qe,ZB b_ ext.length (qT (⟨it0,g,ts⟩::cs)) s.heap.objs.size H rq H1 g_->(∀j,j∉qT (⟨it0,g,ts⟩::cs)->tV[j]?=rq[j]?)->Ea s.heap.objs.size H1 g_ H2 qe->ZB b_ ext.length (qT (⟨it0,g,ts⟩::cs)) s.heap.objs.size H tV H2 qe:=
  λrq tV H1 g_ H2 qe ⟨z1,z2,H8,o,z3,z4⟩ k1 x1=>⟨λj hj=>(k1 j hj).trans (z1 j hj),z2,H8,o,z3.trans x1,z4⟩
 have key:=SI V ex ec rfl (by rw[F];exact b1) b2 W6 (SX V ex ec W6 (b4 _ _) b3 (λj m=>aC _ m) 1 rfl) (by
   cases b3 with
   |nil=>exact .inl rfl
   |cons _ _ _ _ _=>exact .inr ⟨_,_,_,rfl⟩) T' [] { s with heap:=IK Y s.heap scope.names } (qM (b_++aU ext.length XV) (qT (⟨it0,g,ts⟩::cs))) (upd H s.heap.objs.size (C.ho X.prog X.w s.heap.objs.size)) μ (qM (σ++aU ext.length XV) (qT (⟨it0,g,ts⟩::cs))) O [] (src.size O)
   (λB=>Rw X C Xa b_ H QH μ s.heap.objs.size (s.heap.objs.size+1) Xo O2 B) h_ OT (by rw[F];exact sa.mv NZ) ⟨λj hj=>Mq _ _ _ hj,D,μ,_,.refl,λa m=>by
    obtain⟨k,e⟩:=List.getElem?_of_mem m;obtain⟨_,vs,_,S,_⟩:=L.at_ k a e;exact⟨vs,S⟩⟩ ⟨IB,by rw[F];exact e2,by rw[F];exact c2,by rw[F,Z,eW];exact V.g0⟩ ?_
 ·have GU:=Uz V rfl T' 0 h_ key;rw[Z,eW,eA] at GU;exact ft GU λr B ⟨f,hr,q⟩=>by subst hr;exact hRR f B q
 ·rw[hw];intro B qf H' e_ U x' c' g' l' k';rw[F] at c';rw[F,Z,eW] at g';have xe:Ext H μ H' e_:=⟨x'.pre,λb o h n ht=>x'.kept b o (by rw[qi (sR h D)];exact h) n (sR h D) ht,λb m=>(x'.fresh b m).imp id λz=>by
   by_cases q:b=s.heap.objs.size
   ·rw[q];exact D
   ·rw[qi q] at z;exact z,λb h=>x'.there b (yH b h),λP t=>x'.tab P (t.upd (.inl D))⟩
  have un:Un (vI X.stack) u H H' s.heap B.heap:=by
   have:=U.base;rw[<- l] at this;exact this
  have os:B.os=s.os:=by
   have:=U.os;rw[<- l] at this;exact this
  have hok:HOk X.prog X.w H' B.heap:=by
   have:=U.hok;rw[Z,eW] at this;exact this
  have IX:=I.call' os un hok U.bare λb G=>by
   obtain⟨f0,f1,f2,f3,f4,f5⟩:=zE b G;exact⟨f3,f1,f4,f5⟩
  have Q:∀b,b<s.heap.objs.size->b≠s.heap.objs.size+1:=λb h=>bq (dr h);refine⟨⟨H',e_,IX,xe,c',D,?_,g'⟩,?_,?_,?_,λx c e=>?_,λp hp=>?_⟩
  ·have:=U.free;rw[DC] at this;exact this
  ·obtain⟨m,hn,_⟩:=U.loc;rw[DC] at hn;exact⟨m,hn⟩
  ·exact(Q _ I.lt).symm
  ·exact aH I.sz (dR _)
  ·obtain⟨v,z⟩:=I.cell x c e;exact Q _ z.lt
  ·exact Q _ (aN (I.pin p hp).1)
end
section
variable{X:Cx}{Ex:Nat->Hp->Prop}
def zl2{α:Type}{r:R α}{a:α}{O:Ow}(h:zp r=.ok a O):r=.ok a O:=by
 cases r with
 |ok _ _=>exact h
 |exc _ _=>cases h
 |bad=>cases h
def zhK{α:Type}{r:R α}{c:Nat}{O:Ow}(h:zp r=.exc c O):False:=by cases r<;>cases h
def IC(C:xD)(Ex:Nat->Hp->Prop)(K:ai)(P:aP)(w:aZ)(H:Hp)(QH μ:List ae)(r:R (List D))(Q:ae->Hp->Prop):Prop:=match r with
 |.ok Xo O'=>∀L H' e_,H L=XV->Ext H μ H' e_->oC K H' (L::QH) e_ O'->C.G K P w L QH H' e_ Xo->Q L H'
 |.exc c O'=>∀H' e_,Ext H μ H' e_->oC K H' QH e_ O'->Ex c H'
 |.bad=>False
def Ext.none{H H':Hp}{a b:List ae}(e:Ext H a H' b){L:ae}(h:H' L=jv):H L=jv:=by
 cases q:H L with
 |none=>rfl
 |some o=>exact absurd h (e.there L (by rw[q];simp))
def F1{C:xD}(co:Cr C){em:Em}{D d:aT}{j:List aT}{F:List bN}{a:c8}{G qh:Pos}{ext:List aB}{it0:DI}{g:Tg}{ts:List DT}{cs:List Cl}{h:List (ae×Obj)}{u:St}{H:Hp}{s:ag}{QH r:List ae}{σ:Sg}{O:Ow}
  {use:Option (ab->Sem Unit)} {Q:ab->ag->Prop} (pW:X.calm=YP) (hi:tK X Ex D d it0) (R:yt X.env.scope a (X.N++ext) (qT (⟨it0,g,ts⟩::cs)))
  (tU:∀cells i l H' B,L2.Inv X h u H' l->(∀b∈B,tF X h H' b)->(∃V,Ext H r H' V)->PG (qY X (X.N++ext) a cells i l H' B) D (g.rd X.K)/\cj (λe t=>sj (qY X (X.N++ext) a cells i l H' B) qV e t) j ts/\oW (qY X (X.N++ext) a cells i l H' B) F cs/\∀A QH k,(⟨D,d,j,0⟩::F:List bN)[k]?=XV->AI (qY X (X.N++ext) a cells i l H' B) (ZB u ext.length (qT (⟨it0,g,ts⟩::cs)) A H') C A QH (C.ex (⟨D,d,j,0⟩::F) a G) (⟨D,d,j,0⟩::F) em k [])
  (hs:∀x,bV d X.env x=pure x) (I:L2.Inv X h u H s) (W:oE X.K H QH r σ u) (c1:oC X.K H QH r O)
  (q:IC C Ex X.K X.prog X.w H QH r (BE ext.length it0 g ts cs em σ O)
   (λ(L:ae)H'=>∀l i,L2.Inv X h u H' l->(∃m,l.heap.Ns i m)->H' i=XV->i≠X.env.locals->X.s₀.heap.objs.size<=i->(∀x c,X.env.cells.lookup x=Xy c->c≠i)->(∀p∈X.pn++h,p.1≠i)->
    compPost (az X.prog X.w) X.A X.xe use Q (.ref L) i (.ok .next) l)):
  av (az X.prog X.w) X.A (comprehension (C.ex (⟨D,d,j,0⟩::F) a G) a X.env qh C.new Y1 (eval d X.env) use) Q X.xe s:=by
 have rm:∀y∈a.names,y.2=.free->∃c,X.env.cells.lookup y.1=Xy c:=λy hy hf=>by
  obtain⟨n,k⟩:=y;subst hf;exact I.ok.has n (R.frees _ hy rfl)
 refine wpAny_comprehension_free (co.cl _ _ _) hs (VY rm) R.kind (λx hx hl=>?_) ?_
 ·obtain⟨n,k⟩:=x;subst hl;exact Ab R.nd hx
 unfold BE at q;cases o:it0 σ O with
 |bad=>rw[o] at q;exact aj q
 | exc Y O'=>
  rw[o] at q;refine qc (hi.out h s u H (λJ M=>False) I ⟨QH,r,σ,O,W,c1,by rw[o];exact q⟩) λv s1 Z=>qc Z λGV s2 h2=>?_;obtain⟨it,B,tn,J,H2,e,I2,T,qP,f2,z⟩:=h2;exact z.elim
 | ok src O2=>
  rw[o] at q;refine qc (hi.out h s u H (λJ M=>∃P,Ext H r M P/\oC X.K M QH P O2/\oG X.K J src M QH P) I ⟨QH,r,σ,O,W,c1,by rw[o];exact λJ M P x c sa=>⟨P,x,c,sa⟩⟩) λv s1 Z=>qc Z λGV s2 h2=>?_;obtain⟨it,B,tn,J,H2,e,I2,T,qP,f2,qe,S,c2,sa⟩:=h2;subst e;have p:IC C Ex X.K X.prog X.w H QH r (zp (rg src (vB ⟨it0,g,ts⟩ cs em (qM (σ++aU ext.length XV) (qT (⟨it0,g,ts⟩::cs)))) (src.size O2) 0 O2 [])) _:=q;cases U:zp (rg src (vB ⟨it0,g,ts⟩ cs em (qM (σ++aU ext.length XV) (qT (⟨it0,g,ts⟩::cs)))) (src.size O2) 0 O2 []) with
  |bad=>rw[U] at p;exact aj p
  |exc Y O'=>exact(zhK U).elim
  | ok Xo O3=>
   rw[U] at p;refine zaZ co pW R (λcells i=>tU cells i _ _ _ I2 f2 ⟨_,S⟩) I2 (W.ext S) c2 T qP f2 sa (zl2 U) λf l E=>?_;obtain⟨H',V,I',x',Y,nL,nC,gv⟩:=E.inv;have:=p (s2.heap.objs.size) H' V (S.none nL) (S.trans x') Y gv l (s2.heap.objs.size+1) I' E.ns nC E.loc E.young E.cel E.pns;cases use<;>exact this
def Vm(c:oC K H (L::QH) μ O)(a:L∉QH)(h:H L=Xy (.lst vs))(q:oD K H (L::QH) μ ds vs):Xf K H QH μ (.lst ds) (.ref L):=by exact⟨L,vs,rfl,.inl ⟨.inl h,a,λm=>c.nh L m 'k'⟩,q.mv .unhide⟩
mutual
theorem Xf.swap:∀{d:D}{v:V},Xf K H (L::QH) μ d v->Xf K H QH (μ++[L]) d v
 |.non,_,h=>h
 |.bl _,_,h=>h
 |.int _,_,h=>h
 |.str _,_,h=>h
 | .lst ds,v,h=>by
  unfold Xf at h ⊢;obtain⟨a,c,r,l,q⟩:=h;refine⟨a,c,r,l.imp (λz=>⟨z.1,λm=>z.2.1 (ak _ m),λm=>?_⟩) id,oD.swap q⟩;rcases aM.mp m with m|m
  ·exact z.2.2 m
  ·exact z.2.1 (by simp at m;simp[m])
 | .tup ds,v,h=>by
  unfold Xf at h ⊢;obtain⟨a,c,r,l,q⟩:=h;refine⟨a,c,r,l.imp (λz=>⟨z.1,λm=>z.2.1 (ak _ m),λm=>?_⟩) id,oD.swap q⟩;rcases aM.mp m with m|m
  ·exact z.2.2 m
  ·exact z.2.1 (by simp at m;simp[m])
 | .own k,v,h=>by
  unfold Xf at h ⊢;obtain⟨a,r,q⟩:=h;exact⟨a,r,by rw[aK (ao.mp q).1];exact q⟩
 | .dct,v,h=>by
  unfold Xf at h ⊢;obtain⟨a,r,q,b,e⟩:=h;refine⟨a,r,q,λm=>b (ak _ m),λm=>?_⟩;rcases aM.mp m with m|m
  ·exact e m
  ·exact b (by simp at m;simp[m])
 | .exn C,v,h=>by
  unfold Xf at h ⊢;obtain⟨a,f,r,g,q,b,e⟩:=h;refine⟨a,f,r,g,q,λm=>b (ak _ m),λm=>?_⟩;rcases aM.mp m with m|m
  ·exact e m
  ·exact b (by simp at m;simp[m])
 | .tab P,v,h=>by
  unfold Xf at h ⊢;exact h
 | .map ks ds,v,h=>by
  unfold Xf at h ⊢;obtain⟨a,c,r,q,b,e,i,d⟩:=h;refine⟨a,c,r,q,λm=>b (ak _ m),λm=>?_,i,oD.swap d⟩;rcases aM.mp m with m|m
  ·exact e m
  ·exact b (by simp at m;simp[m])
 |.adr _,_,h=>h
theorem oD.swap:∀{ds:List D}{a:List V},oD K H (L::QH) μ ds a->oD K H QH (μ++[L]) ds a
 |[],_,h=>h
 | d::ds,a,h=>by
  unfold oD at h ⊢;obtain⟨v,r,b,c,e⟩:=h;exact⟨v,r,b,Xf.swap c,oD.swap e⟩
end
def oC.swap(c:oC K H (L::QH) μ O)(f:L∉QH)(h:H L=Xy (.lst vs))(q:oD K H (L::QH) μ ds vs):oC K H QH (μ++[L]) (O++[ds]):=by
 have g:L∉μ:=λm=>c.nh L m 'k';refine⟨by simp[c.len],?_,λa m=>?_,λa m=>c.ht a (ak _ m),λk a e=>?_⟩
 ·rw[dS];refine⟨c.nd,by simp,λa i b j=>?_⟩;have:b=L:=⇑j
  subst this;rintro rfl;exact g i
 ·rcases aM.mp m with m|m
  ·exact λz=>c.nh a m (ak _ z)
  ·have:a=L:=⇑m
   subst this;exact f
 ·by_cases d:k<μ.length
  ·rw[aK d] at e;obtain⟨l,n,o,p,r⟩:=c.at_ k a e;exact⟨l,n,by rw[aK (by rw[<- c.len];exact d)];exact o,p,r.swap⟩
  ·rw[aS 'd'] at e;have s:k-μ.length=0:=by
    have:=(ao.mp e).1;simp at this;lia
   rw[s] at e;simp at e;subst e;refine⟨ds,vs,?_,h,q.swap⟩;have:k=O.length:=by have:=c.len;lia
   subst this;simp
def Ext.grow(e:Ext H μ H' e_)(h:H L=jv):Ext H μ H' (e_++[L]):=by
 obtain⟨a,rfl⟩:=e.pre;refine⟨⟨a++[L],by simp⟩,e.kept,λb m=>?_,e.there,e.tab⟩;rcases aM.mp m with m|m
 ·exact e.fresh b m
 ·have:b=L:=⇑m
  subst this;exact .inr h
def xA(o:Bool)(r:R (List D)):R D:=r.bnd λXo O1=>if o=YP then .ok (.own O1.length) (O1++[Xo]) else .ok (.lst Xo) O1
def TY(f:oC K H QH μ O)(q:rM Ex K H QH μ (xA o r) Q)(h:∀L H',Q (.ref L) H'->Q1 L H'):IC (Cg elt) Ex K P w H QH μ r Q1:=by
 cases r with
 |bad=>exact q
 |exc c' O'=>exact q
 | ok Xo O'=>
  intro L H' g a x c ⟨i,b,d⟩;have e:L∉QH:=λm=>f.ht L m a;cases o with
  |false=>exact h L H' (post.ok (q) x c.unhide (Vm c e b d))
  |true=>exact h L H' (post.ok (q) (x.grow a) (c.swap e b d) (Gm c.len))
def zd9(k:oC K H QH μ O)(b:oE K H QH μ σ b_)(q:oH Ex K H QH μ ((xA o r).bnS λd O1=>.nx (σ.set i (Xy d)) O1) E)(h:∀L H',E.nx (b_.set i (Xy (.ref L))) H'->Q1 L H'):
  IC (Cg elt) Ex K P w H QH μ r Q1:=by
 cases r with
 |bad=>exact q
 |exc c' O'=>exact q
 | ok Xo O'=>
  intro L H' e a x c ⟨l,f,g⟩;have j:L∉QH:=λm=>k.ht L m a;cases o with
  | false=>
   exact h L H' (q _ H' e x ((b.ext x).set (Vm c j f g) i) c.unhide)
  | true=>
   exact h L H' (q _ H' (e++[L]) (x.grow a) ((b.ext (x.grow a)).set (Gm c.len) i) (c.swap j f g))
def Lb{f h b:aT}{c:List aT}{i:List bN}{a:c8}{j:Pos}{ext:List aB}{g:Tg}{ts:List DT}{cs:List Cl}{te:DE}{Z:ae->Hp->St->Hp->List ae->Prop}
  (l:∀cells C s H d,PG (qY X (X.N++ext) a cells C s H d) h (g.rd X.K)/\cj (λe t=>sj (qY X (X.N++ext) a cells C s H d) qV e t) c ts/\oW (qY X (X.N++ext) a cells C s H d) i cs/\PD (qY X (X.N++ext) a cells C s H d) qV f te) (cells Cn s H d):
  PG (qY X (X.N++ext) a cells Cn s H d) h (g.rd X.K)/\cj (λe t=>sj (qY X (X.N++ext) a cells Cn s H d) qV e t) c ts/\oW (qY X (X.N++ext) a cells Cn s H d) i cs/\∀A QH k,(⟨h,b,c,0⟩::i:List bN)[k]?=XV->AI (qY X (X.N++ext) a cells Cn s H d) (Z A H) (Cg f) A QH ((Cg f).ex (⟨h,b,c,0⟩::i) a j) (⟨h,b,c,0⟩::i) (Bg te) k []:=
 let ⟨h1,h2,h3,h4⟩:=l cells Cn s H d
 ⟨h1,h2,h3,λ_ _ _ m=>zgd rfl h4.z m⟩
def qp(o:Bool)(ext:Nat)(it0:DI)(g:Tg)(ts:List DT)(cs:List Cl)(te:DE):DE:=λσ O=>xA o (BB ext it0 g ts cs te σ O)
def ziD(o:Bool)(ext:List aB)(d:X.calm=YP)(f:tK X Ex tg iter it0)(h:yt X.env.scope scope (X.N++ext) (qT (⟨it0,g,ts⟩::cs)))
  (i:∀cells C s H a,PG (qY X (X.N++ext) scope cells C s H a) tg (g.rd X.K)/\cj (λe t=>sj (qY X (X.N++ext) scope cells C s H a) qV e t) ifs ts/\oW (qY X (X.N++ext) scope cells C s H a) gs cs/\PD (qY X (X.N++ext) scope cells C s H a) qV elt te)
  (j:∀x,bV iter X.env x=pure x:=by intro _;rfl):PD X Ex (.ListComp elt (⟨tg,iter,ifs,0⟩::gs) scope pos) (qp o ext.length it0 g ts cs te):=by refine⟨?_⟩;rintro b s F H Q I ⟨k,G,J,O,l,c,q⟩;unfold qp at q;rw[<- M8] at q;refine F1 (ML elt) d f h (λcells n s H a _ _ _=>Lb i cells n s H a) j I l c (TY c q λL p r M C u v w y z A B=>?_);obtain⟨m,D⟩:=v;exact⟨m,D,λP E=>⟨.ref L,p,Inv.bare u E w y z A B,rfl,r⟩⟩
def z8x(o:Bool)(ext:List aB)(r:X.calm=YP)(u:X.N.Nodup)(w:X.N[i]?=Xy y)(f:X.env.scope.names.lookup y=Xy .local)
  (A:tK X Ex tg iter it0) (B:yt X.env.scope scope (X.N++ext) (qT (⟨it0,g,ts⟩::cs)))
  (D:∀cells C s H b,PG (qY X (X.N++ext) scope cells C s H b) tg (g.rd X.K)/\cj (λe t=>sj (qY X (X.N++ext) scope cells C s H b) qV e t) ifs ts/\oW (qY X (X.N++ext) scope cells C s H b) gs cs/\PD (qY X (X.N++ext) scope cells C s H b) qV elt te)
  (F:swapsWith (.ListComp elt (⟨tg,iter,ifs,0⟩::gs) scope pos) (Xy (.Name y py)) sH.line X.env=pure YP)
  (G:∀x,bV iter X.env x=pure x:=by intro _;rfl):vm X Ex (.Assign [.Name y py] (.ListComp elt (⟨tg,iter,ifs,0⟩::gs) scope pos) sH) (p_ i (qp o ext.length it0 g ts cs te)):=by
 refine⟨?_⟩;rintro h s b_ H E I ⟨c,J,j,O,k,l,q⟩;rw[i0 _ _ _ _ F];refine aa (eR (aa ?_));have q:oH Ex X.K H c J ((xA o (BB ext.length it0 g ts cs te j O)).bnS λd M=>.nx (j.set i (Xy d)) M) E:=q;rw[<- M8] at q;refine aa (cB (F1 (ML elt) r A B (λcells P s H b _ _ _=>Lb D cells P s H b) G I k l (zd9 l k q λL Q R S C T U V n W p Y=>?_)) (λ_ S Z=>ah (ah Z)) λ_ _ e=>e);obtain⟨m,hn⟩:=U;refine iz (Jx (v:=.ref L) T u w (.inl f) rfl (λAf HW vY=>?_) (.inr f));obtain⟨a,Dd,ha⟩:=vY;have HB:C≠a:=by
  rcases ha with z|z
  ·rw[z];exact n
  ·exact λe=>p y a z e.symm
 refine⟨m,hn.sameBut Dd HB,λh' zw=>?_⟩;exact⟨_,Q,Inv.bare HW zw V n W p Y,R⟩
end
noncomputable def qv{α β:Type}(f:α->Option β):List α->Option (List β)
 |[]=>Xy []
 | x::xs=>match f x,qv f xs with
  |some p,Xy ps=>Xy (p::ps)
  |_,_=>XV
def zQ(cs:n_):Option ei:=if cs.all (· < 1114112)=YP then Xy (.str ⟨cs.toArray⟩) else XV
def q0(O:Ow):Nat->D->Option ei
 | 0,d=>match d with
  |.non=>Xy .none
  |.bl b=>Xy (.bool b)
  |.int i=>Xy (.int i)
  |.str cs=>zQ cs
  |_=>XV
 | n+1,d=>match d with
  |.non=>Xy .none
  |.bl b=>Xy (.bool b)
  |.int i=>Xy (.int i)
  |.str cs=>zQ cs
  |.lst ds=>(qv (q0 O n) ds).map .list
  |.tup ds=>(qv (q0 O n) ds).map .tuple
  | .own k=>match O[k]? with
   |some ds=>(qv (q0 O n) ds).map .list
   |none=>XV
  |.dct=>XV
  |.exn _=>XV
  |.tab _=>XV
  |.map _ _=>XV
  |.adr _=>XV
section
variable{X:Cx}{Xa:List (ae×Obj)}{b_:St}{H:Hp}{s:ag}{QH μ:List ae}{O:Ow}
theorem JS(I:L2.Inv X Xa b_ H s)(g:∀(d:D)(v:V)(u:ab)(p:ei),Xf X.K H QH μ d v->RelV v u->q0 O n d=Xy p->∃b,Reads s.heap u p b/\p.canLay0=YP/\p.depth<=n):
  ∀(ds:List D)(c:List V)(f:List ab)(a:List ei),oD X.K H QH μ ds c->oF c f->qv (q0 O n) ds=Xy a->∃b,ReadsAll s.heap f a b/\mM a=YP/\nG a<=n
 | [],c,f,a,h,r,e=>by
  unfold oD at h;subst h;cases r;cases e;exact⟨[],.nil,rfl,bI _⟩
 | d::ds,c,f,a,h,r,e=>by
  obtain⟨v,t,rfl,i,j⟩:=h;cases r with
  | cons r1 r2=>
   unfold qv at e;split at e
   ·rename_i p k l m;cases e;obtain⟨b,o,q,w⟩:=g d v _ p i r1 l;obtain⟨x,y,z,A⟩:=JS I g ds t _ k j r2 m;refine⟨b++x,.cons o y,?_,?_⟩
    ·unfold mM;rw[q,z];rfl
    ·unfold nG;exact Nat.max_le.mpr ⟨w,A⟩
   ·cases e
def Vu(e:zQ cs=Xy p):∃a,Reads s.heap (.str ⟨cs.toArray⟩ t) p a/\p.canLay0=YP/\p.depth<=n:=by
 unfold zQ at e;split at e
 ·rename_i b;cases e;exact⟨[],.str _ _,by unfold jn PyData.strOk;simpa using b,bI _⟩
 ·cases e
def BK(I:L2.Inv X Xa b_ H s)(c:oC X.K H QH μ O):∀(n:Nat)(d:D)(v:V)(u:ab)(p:ei),Xf X.K H QH μ d v->RelV v u->q0 O n d=Xy p->∃B,Reads s.heap u p B/\p.canLay0=YP/\p.depth<=n:=by
 intro n
 induction n with
 | zero=>
  intro d v u p h r e;cases d with
  |non=>unfold Xf at h;subst h;cases r;cases e;exact⟨[],.none,rfl,bI _⟩
  |bl b=>unfold Xf at h;subst h;cases r;cases e;exact⟨[],.bool _,rfl,bI _⟩
  |int b=>unfold Xf at h;subst h;obtain⟨t,rfl⟩:=r;cases e;exact⟨[],.int _ _,rfl,bI _⟩
  | str cs=>
   unfold Xf at h;subst h;obtain⟨t,rfl⟩:=r;exact Vu (e)
  |_=>cases e
 | succ n ih=>
  intro d v u p h r e;cases d with
  |non=>unfold Xf at h;subst h;cases r;cases e;exact⟨[],.none,rfl,bI _⟩
  |bl b=>unfold Xf at h;subst h;cases r;cases e;exact⟨[],.bool _,rfl,bI _⟩
  |int b=>unfold Xf at h;subst h;obtain⟨t,rfl⟩:=r;cases e;exact⟨[],.int _ _,rfl,bI _⟩
  | str cs=>
   unfold Xf at h;subst h;obtain⟨t,rfl⟩:=r;exact Vu (e)
  | lst f=>
   obtain⟨a,i,rfl,l,q⟩:=h;cases r;have e:(qv (q0 O n) f).map ef=Xy p:=e;cases g:qv (q0 O n) f with
   |none=>rw[g] at e;cases e
   | some ps=>
    rw[g] at e;cases e;obtain⟨j,m,⟨o,k,w,x,F,y⟩,C⟩:=I.list l.sq;obtain⟨B,z,A,E⟩:=JS I ih f i j ps q m g;exact⟨_,.list w x y ⇑z,by unfold jn;exact A,by unfold mn;lia⟩
  | tup f=>
   obtain⟨a,i,rfl,l,q⟩:=h;cases r;have e:(qv (q0 O n) f).map ie=Xy p:=e;cases g:qv (q0 O n) f with
   |none=>rw[g] at e;cases e
   | some ps=>
    rw[g] at e;cases e;obtain⟨j,m,⟨o,w,x,k,y⟩,C⟩:=I.tuple l.sq;obtain⟨B,z,A,E⟩:=JS I ih f i j ps q m g;exact⟨_,.tuple w x y ⇑z,by unfold jn;exact A,by unfold mn;lia⟩
  | own k=>
   obtain⟨a,rfl,G⟩:=h;cases r;obtain⟨f,i,J,L,M⟩:=c.at_ k a G;have e:(match O[k]? with|some f=>(qv (q0 O n) f).map ef|none=>XV)=Xy p:=e;rw[J] at e;cases g:qv (q0 O n) f with
   |none=>simp only[g] at e;cases e
   | some ps=>
    simp only[g] at e;cases e;obtain⟨j,m,⟨o,N,w,x,F,y⟩,C⟩:=I.list (.of L);obtain⟨B,z,A,E⟩:=JS I ih f i j ps M m g;exact⟨_,.list w x y ⇑z,by unfold jn;exact A,by unfold mn;lia⟩
  |dct=>cases e
  |exn _=>cases e
  |tab _=>cases e
  |map _ _=>cases e
  |adr _=>cases e
end
def py(O:Ow)(d:D):Option ei:=q0 O 8 d
def AW(K:ai)(f:ei->ei->Option Bool):R2:=λv w H Q=>∃QH μ O x y a b k,oC K H QH μ O/\Xf K H QH μ x v/\Xf K H QH μ y w/\py O x=Xy a/\py O y=Xy b/\f a b=Xy k/\Q (.bl k) H
def pZ(f:ei->ei->Option Bool):Ow->D->D->R D:=λO x y=>match py O x,py O y with
 | some a,Xy b=>match f a b with
  |some k=>.ok (.bl k) O
  |none=>.bad
 |_,_=>.bad
section
variable{X:Cx}{Ex:Nat->Hp->Prop}
def Eg:sS X Ex (AW X.K f) (pZ f):=by
 intro H d e O x y v w Q c g h q;unfold pZ at q;split at q
 ·rename_i a b i j;split at q
  ·rename_i k l;exact⟨d,e,O,x,y,a,b,k,c,g,h,i,j,l,post.here q c vS⟩
  ·exact aj q
 ·exact aj q
def rQ:ei->ei->Option Bool:=λa b=>Xy (bj a b)
def rF:ei->ei->Option Bool:=λa b=>Xy (!PyData.eqv a b)
def BQ:ei->ei->Option Bool:=λa b=>match b with
 |.list xs=>Xy (xs.any λy=>bj y a)
 |.tuple xs=>Xy (xs.any λy=>bj y a)
 |_=>XV
def DX:ei->ei->Option Bool:=λa b=>match b with
 |.list xs=>Xy (!xs.any λy=>bj y a)
 |.tuple xs=>Xy (!xs.any λy=>bj y a)
 |_=>XV
def Jq(a:p.canLay0=YP)(b:p.depth<=8):ou p=YP:=by unfold ou;rw[a,decide_eq_true (show p.depth<=64 by lia)];rfl
def S9(e:X.A.units+64<cLine):qZ X (cD .Eq) (AW X.K rQ):=by intro d s E H x y v u Q I f g h;obtain⟨i,F,O,j,l,a,b,k,c,m,n,o,p,r,q⟩:=h;obtain⟨G,t,w,z⟩:=BK I c 8 j x v a m f o;obtain⟨J,B,C,D⟩:=BK I c 8 l y u b n g p;cases r;exact PyProof.Rows.eq_dataH t B (Jq w z) (Jq C D) e ⟨.bl _,H,I,rfl,q⟩
def Sd(e:X.A.units+64<cLine):qZ X (cD .NotEq) (AW X.K rF):=by intro d s E H x y v u Q I f g h;obtain⟨i,F,O,j,l,a,b,k,c,m,n,o,p,r,q⟩:=h;obtain⟨G,t,w,z⟩:=BK I c 8 j x v a m f o;obtain⟨J,B,C,D⟩:=BK I c 8 l y u b n g p;cases r;exact PyProof.Rows.ne_dataH t B (Jq w z) (Jq C D) e ⟨.bl _,H,I,rfl,q⟩
def IE{A:bb}{n m:Nat}(h:m<=8)(a:A.units+64<cLine):A.units+1+min n m<cLine:=by lia
def zhx(e:X.A.units+64<cLine):qZ X (cD .In) (AW X.K BQ):=by
 intro f s D H x y v u Q I n o h;obtain⟨p,E,O,r,t,a,b,k,c,w,z,B,C,d,q⟩:=h;obtain⟨F,g,i,j⟩:=BK I c 8 r x v a w n B;obtain⟨G,l,m,J⟩:=BK I c 8 t y u b z o C;cases b with
 |list xs=>cases d;exact SeqAt.in_list_reads l g m i (IE j e) ⟨.bl _,H,I,rfl,q⟩
 |tuple xs=>cases d;exact SeqAt.in_tuple_reads l g m i (IE j e) ⟨.bl _,H,I,rfl,q⟩
 |_=>cases d
def zeJ(e:X.A.units+64<cLine):qZ X (cD .NotIn) (AW X.K DX):=by
 intro f s D H x y v u Q I n o h;obtain⟨p,E,O,r,t,a,b,k,c,w,z,B,C,d,q⟩:=h;obtain⟨F,g,i,j⟩:=BK I c 8 r x v a w n B;obtain⟨G,l,m,J⟩:=BK I c 8 t y u b z o C;cases b with
 |list xs=>cases d;exact SeqAt.notIn_list_reads l g m i (IE j e) ⟨.bl _,H,I,rfl,q⟩
 |tuple xs=>cases d;exact SeqAt.notIn_tuple_reads l g m i (IE j e) ⟨.bl _,H,I,rfl,q⟩
 |_=>cases d
end
end DL
namespace DL
open PySem L2
section
variable{e:aT}
noncomputable def r9(O:Ow):D->Option (List D)
 |.lst ds=>Xy ds
 |.own k=>O[k]?
 |_=>XV
def AV:D->Option (List D)
 |.tup ds=>Xy ds
 |_=>XV
def vU(b:oC K H QH μ O)(h:Xf K H QH μ d v)(e:r9 O d=Xy ds):∃p a,v=.ref p/\rn K H p a/\oD K H QH μ ds a:=by
 cases d with
 | lst xs=>
  obtain⟨p,a,rfl,l,q⟩:=h;cases e;exact⟨p,a,rfl,l.sq,q⟩
 | own k=>
  obtain⟨p,rfl,c⟩:=h;obtain⟨j,a,f,g,i⟩:=b.at_ k p c;have e:O[k]?=Xy ds:=e;rw[f] at e;cases e;exact⟨p,a,rfl,.of g,i⟩
 |_=>cases e
def Co(h:Xf K H QH μ d v)(e:AV d=Xy ds):∃p a,v=.ref p/\sC K H p a/\oD K H QH μ ds a:=by
 cases d with
 | tup xs=>
  obtain⟨p,a,rfl,l,q⟩:=h;cases e;exact⟨p,a,rfl,l.sq,q⟩
 |_=>cases e
def zpa:Ow->D->D->R D:=λO x y=>match x,y with
 |.str s,.str t=>if s.length+t.length<=4000000 then .ok (.str (s++t)) O else .bad
 |_,_=>.bad
end
def Uk(h:oD K H QH μ ds vs)(e:atI ds i=Xy d):∃v,atI vs i=Xy v/\Xf K H QH μ d v:=by
 unfold atI at e ⊢;rw[<- h.length];cases q:ixN ds.length i with
 |none=>rw[q] at e;cases e
 |some j=>rw[q] at e;exact h.get e
def qw:Ow->D->D->R D:=λO x y=>match y with
 | .int i=>match r9 O x with
  | some ds=>match atI ds i with
   |some d=>.ok d O
   |none=>.bad
  | none=>match AV x with
   | some ds=>match atI ds i with
    |some d=>.ok d O
    |none=>.bad
   | none=>match x with
    | .str cs=>if cs.length<=4000000 then match atI cs i with
      |some ch=>.ok (.str [ch]) O
      |none=>.bad
     else .bad
    |_=>.bad
 |_=>.bad
section
variable{X:Cx}{Ex:Nat->Hp->Prop}{pos:Pos}{a b c e:aT}{ta tb:DE}
def zks:sS X Ex (Wq X.K) qw:=by
 intro H o A O x y v w Q c g n q;unfold qw at q;split at q
 ·rename_i i;unfold Xf at n;subst n;split at q
  ·rename_i r e;obtain⟨p,h,rfl,j,k⟩:=vU c g e;split at q
   ·rename_i d f;obtain⟨z,l,m⟩:=Uk k f;exact .inl ⟨p,h,i,z,rfl,rfl,j,l,post.here q c m⟩
   ·exact aj q
  ·split at q
   ·rename_i r e;obtain⟨p,h,rfl,j,k⟩:=Co g e;split at q
    ·rename_i d f;obtain⟨z,l,m⟩:=Uk k f;exact .inr (.inl ⟨p,h,i,z,rfl,rfl,j,l,post.here q c m⟩)
    ·exact aj q
   ·split at q
    ·rename_i s _ _;unfold Xf at g;subst g;obtain⟨t,q⟩:=post.ite q;split at q
     ·rename_i u f;refine .inr (.inr ⟨_,i,u,rfl,rfl,?_,?_,post.here q c Ma⟩)
      ·show s.toArray.size<=_;rw[aL];exact zj t
      ·simpa using f
     ·exact aj q
    ·exact aj q
 ·exact aj q
def YH(d:PD X Ex a ta)(f:PD X Ex b tb)(g:Sw b):PD X Ex (.Subscript a b pos) (c_ qw ta tb):=sE (Yu zla d.out f.out g) (IY zks)
def pT(f:Ow->List D->R D)(t:DA):DE:=λσ O=>(t σ O).bnd λxs O1=>f O1 xs
def vA(X:Cx)(Ex:Nat->Hp->Prop)(r:List V->Hp->VK->Prop)(f:Ow->List D->R D):Prop:=∀(H:Hp)(QH μ:List ae)(O:Ow)(xs:List D)(vs:List V)(Q:VK),oC X.K H QH μ O->oD X.K H QH μ xs vs->rM Ex X.K H QH μ (f O xs) Q->r vs H Q
def Rf(h:vA X Ex r f)(QH g:List ae)(σ:Sg)(O:Ow)(i:St)(H:Hp)(Q:VK)(j:oE X.K H QH g σ i)(k:oC X.K H QH g O)(q:rM Ex X.K H QH g (pT f t σ O) Q):Kl r (uT Ex X.K t) i H Q:=
 uT.go j k q λl m n o s u x c d p=>h o QH s m l n Q c d p
def zeU{x:aB}{id:String}{p:Pos}{d:List aT}{r:List V->Hp->VK->Prop}{f:Ow->List D->R D}{t:DA}(g:oN X (.builtin id) r)(h:vA X Ex r f)(i:Gl X x)(j:X.mg x=XV)(k:bC x=Xy (.builtin id))(l:uA X Ex (e::d) t)
  (m:x ≠ "__name__":=by decide) (n:s9 x:=by decide) (o:aR (e::d) X.env=(Y1,eval e X.env)::aR d X.env:=by rfl) (q:(backTo pos (aR d X.env)).any (·.1)=Y1:=by rfl):
  PD X Ex (.Call (.Name x p) (e::d) [] pos) (pT f t):=sE (MJ g i j k l.out m n o q) (Rf h)
def Jy(d:oN X (.type T) r)(h:vA X Ex r f)(g:Gl X x)(i:X.mg x=XV)(j:bC x=Xy (.type T))(k:uA X Ex (e::es) t)
  (l:x ≠ "__name__":=by decide) (m:s9 x:=by decide) (n:aR (e::es) X.env=(Y1,eval e X.env)::aR es X.env:=by rfl) (o:(backTo pos (aR es X.env)).any (·.1)=Y1:=by rfl):
  PD X Ex (.Call (.Name x p) (e::es) [] pos) (pT f t):=sE (MR d g i j k.out l m n o) (Rf h)
def qJ:Ow->List D->R D:=λO xs=>match xs with
 | [x]=>match r9 O x with
  |some ds=>.ok (.int ds.length) O
  | none=>match AV x with
   |some ds=>.ok (.int ds.length) O
   | none=>match x with
    |.str cs=>if cs.length<=4000000 then .ok (.int cs.length) O else .bad
    |_=>.bad
 |_=>.bad
def zl6:vA X Ex (λxs H Q=>∃x n,xs=[x]/\P4 X.K x H n/\Q (.int n) H) qJ:=by
 intro H l o O xs r Q c d q;unfold qJ at q;split at q
 ·rename_i x;obtain⟨v,rfl,f⟩:=uu d;split at q
  ·rename_i h e;obtain⟨p,i,rfl,j,k⟩:=vU c f e;exact⟨_,h.length,rfl,.inl ⟨i,j,k.length⟩,post.here q c sP⟩
  ·split at q
   ·rename_i h e;obtain⟨p,i,rfl,j,k⟩:=Co f e;exact⟨_,h.length,rfl,.inr ⟨i,j,k.length⟩,post.here q c sP⟩
   ·split at q
    ·rename_i g _ _;unfold Xf at f;subst f;obtain⟨m,q⟩:=post.ite q;refine⟨_,g.length,rfl,⟨?_,?_⟩,post.here q c sP⟩
     ·show g.toArray.size<=_;rw[aL];exact zj m
     ·show g.length=g.toArray.size;rw[aL]
    ·exact aj q
 ·exact aj q
noncomputable def Ld:Ow->List D->R D:=λO xs=>match xs with
 |[.int i]=>.ok (.int i) O
 |[.bl k]=>.ok (.int (if k then 1 else 0)) O
 |_=>.bad
def ZZ:vA X Ex (λxs H Q=>(∃i,xs=[.int i]/\Q (.int i) H) \/ ∃k,xs=[.bl k]/\Q (.int (if k then 1 else 0)) H) Ld:=by
 intro H g h O xs j Q c d q;unfold Ld at q;split at q
 ·obtain⟨v,rfl,f⟩:=uu d;unfold Xf at f;subst f;exact .inl ⟨_,rfl,post.here q c sP⟩
 ·obtain⟨v,rfl,f⟩:=uu d;unfold Xf at f;subst f;exact .inr ⟨_,rfl,post.here q c sP⟩
 ·exact aj q
def yZ:Ow->List D->R D:=λO xs=>match xs with
 | [x]=>match r9 O x with
  |some ds=>.ok (.tup ds) O
  | none=>match AV x with
   |some ds=>.ok (.tup ds) O
   |none=>.bad
 |_=>.bad
def zfW:vA X Ex (λxs H Q=>∃p f,xs=[.ref p]/\((rn X.K H p f/\∀l,H l=XV->Q (.ref l) (upd H l (.tup f)))\/(sC X.K H p f/\Q (.ref p) H))) yZ:=by
 intro H m o O xs r Q c d q;unfold yZ at q;split at q
 ·rename_i x;obtain⟨v,rfl,g⟩:=uu d;split at q
  ·rename_i n e;obtain⟨p,h,rfl,i,k⟩:=vU c g e;exact⟨p,h,rfl,.inl ⟨i,λl j=>post.ok q (.laid j) (c.laid j) (Xf.newT c j k)⟩⟩
  ·split at q
   ·rename_i n e;obtain⟨p,h,rfl,i,k⟩:=Co g e;refine⟨p,h,rfl,.inr ⟨i,post.here q c ?_⟩⟩;cases x with
    |tup f=>cases e;exact g
    |_=>cases e
   ·exact aj q
 ·exact aj q
def IP(o:Bool):Ow->List D->R D:=λO xs=>match xs with
 | [x]=>match (match r9 O x with|some ds=>Xy ds|none=>AV x) with
  |some ds=>if o=YP then .ok (.own O.length) (O++[ds]) else .ok (.lst ds) O
  |none=>.bad
 |_=>.bad
def zhJ(o:Bool):vA X Ex (λxs H Q=>∃p k,xs=[.ref p]/\(rn X.K H p k\/sC X.K H p k)/\∀l,H l=XV->Q (.ref l) (upd H l (.lst k))) (IP o):=by
 intro H m t O xs w Q c d q;unfold IP at q;split at q
 ·rename_i x;obtain⟨v,rfl,s⟩:=uu d;split at q
  ·rename_i u e;have h:∃p f,v=.ref p/\(rn X.K H p f\/sC X.K H p f)/\oD X.K H m t u f:=by
    cases n:r9 O x with
    | some es=>
     rw[n] at e;cases e;obtain⟨p,f,r,i,g⟩:=vU c s n;exact⟨p,f,r,.inl i,g⟩
    | none=>
     rw[n] at e;obtain⟨p,f,r,i,g⟩:=Co s e;exact⟨p,f,r,.inr i,g⟩
   obtain⟨p,f,rfl,i,g⟩:=h;refine⟨p,f,rfl,i,λl j=>?_⟩;cases o with
   |true=>exact post.ok (q) (.cell j) (c.cell j g) (Gm c.len)
   |false=>exact post.ok (q) (.laid j) (c.laid j) (Xf.newL c j g)
  ·exact aj q
 ·exact aj q
def Cd:Ow->List D->R D:=λO xs=>match xs with
 |[.int i,.int j]=>.ok (.int (if j>i then j else i)) O
 |_=>.bad
def Ck:Ow->List D->R D:=λO xs=>match xs with
 |[.int i,.int j]=>.ok (.int (if j<i then j else i)) O
 |_=>.bad
def zjy:vA X Ex (λxs H Q=>∃i j,xs=[.int i,.int j]/\Q (.int (if j>i then j else i)) H) Cd:=by
 intro H h k O xs l Q c d q;unfold Cd at q;split at q
 ·obtain⟨v,w,rfl,f,g⟩:=D7 d;unfold Xf at f g;subst f;subst g;exact⟨_,_,rfl,post.here q c sP⟩
 ·exact aj q
def ziH:vA X Ex (λxs H Q=>∃i j,xs=[.int i,.int j]/\Q (.int (if j<i then j else i)) H) Ck:=by
 intro H h k O xs l Q c d q;unfold Ck at q;split at q
 ·obtain⟨v,w,rfl,f,g⟩:=D7 d;unfold Xf at f g;subst f;subst g;exact⟨_,_,rfl,post.here q c sP⟩
 ·exact aj q
end
abbrev ql:=List D->Ow->R D
noncomputable def K4(K:ai)(Ec:XK->Nat->Hp->Prop)(n:Nat)(F:ql):Sp:=λvs H Q E=>vs.length=n/\∃QH μ ds O,oD K H QH μ ds vs/\oC K H QH μ O/\rM (Ec E) K H QH μ (F ds O) Q
abbrev Bm:XK->Nat->Hp->Prop:=λ_ _ _=>False
section
variable{X:Cx}{CX:yr}{k:Nat}{f:ae}{fd:fc}{ps:List aB}{E:XK}{Ec:XK->Nat->Hp->Prop}{x:aB}{p pos:Pos}{e:aT}{es:List aT}{t:DA}{F:ql}{n:Nat}
noncomputable def j_(n:Nat)(F:ql)(t:DA):DE:=λσ O=>(t σ O).bnd λds O1=>if ds.length=n then F ds O1 else .bad
def Yk(G:oV X.prog X.w X.K X.mg X.base CX k f fd ps (K4 X.K Ec n F))(d:oM k X.A)(g:Gl X x)(h:X.mg x=Xy (.ref f))(i:de X.K (.ref f)=YP)(j:Binds X.K fd ps [])(l:IZ CX X E)(m:uA X (Ec E) (e::es) t)
  (o:s9 x:=by decide) (r:aR (e::es) X.env=(Y1,eval e X.env)::aR es X.env:=by rfl) (s:(backTo pos (aR es X.env)).any (·.1)=Y1:=by rfl):
  PD X (Ec E) (.Call (.Name x p) (e::es) [] pos) (j_ n F t):=
 sE (Sl G d g h i j .nil l m.out o r s) λa I J O L H Q u v q=>uT.go u v q λy z M N B P R C c b=>by
  obtain⟨D,b⟩:=post.ite b;refine⟨by rw[bw,<- c.length];exact D,a,B,y,z,?_,C,b⟩;rw[bw];exact c
end
noncomputable def fin(r:RS):R D:=match r with
 |.nx _ O=>.ok .non O
 |.rt d O=>.ok d O
 |.exc c O=>.exc c O
 |_=>.bad
def qW(n:Nat)(t:DS):ql:=λds O=>fin (t (ds.map Xy++aU (n-ds.length) XV) O)
def VO(h:oD K H QH μ ds vs)(N:List aB):oE K H QH μ (ds.map Xy++aU (N.length-ds.length) XV) (L2.start N vs):=by
 unfold L2.start;have b:=h.length;refine⟨by simp[b],λi d e=>?_⟩;have a:i<ds.length:=by
  by_cases a:i<ds.length
  ·exact a
  ·rw[aS ⇑a,f8] at e;split at e<;>cases e
 rw[aK ⇑a,bd] at e;cases q:ds[i]? with
 |none=>rw[q] at e;cases e
 | some d'=>
  rw[q] at e;cases e;obtain⟨v,c,f⟩:=h.get q;exact⟨v,by rw[aK (by simp;lia),bd,c];rfl,f⟩
abbrev DF(P:aP)(w:aZ)(K:ai)(mg:aB->Option ab)(base:a7)(N:List aB)(qual:aB)(scope:c8)(f:ae)(qD:ab)(A:bb)(outer:List Env)(s:ag)(H:Hp)(E:XK):Cx:=
 (B_ (λ_ _ _ _ _ _=>False) P w K mg base N qual scope f qD A outer s H E).nox
def YW{P:aP}{w:aZ}{K:ai}{y:aB->Option ab}{base:a7}{k:Nat}{f:ae}{name b:aB}{i:iZ}{body:List eH}{a:c8}{z B j C l ct G:ab}{D I:Option ae}{J:Array (Option ab)}{N p:List aB}{t:DS}
  (L:K.lookup f=Xy ⟨G,I,.func (cr name b i body a z B j C D l ct),J⟩) (M:fe K l b=YP) (S:xf N p a)
  (R:∀(A:bb)(g:List Env)(s:ag)(H:Hp)(E:XK),oM k (A.deeper (eE b a s.heap.objs.size f l))->ua (DF P w K y base N b a f l A g s H E) qV body t):
  oV P w K y base (λ_ _ _ _ _ _=>False) (k+1) f (cr name b i body a z B j C D l ct) p (K4 K Bm p.length (qW N.length t)):=by
 refine qr L M S (λT H Q E h=>h.1) λA g s H T Q E U h=>?_;obtain⟨X,u,V,F,O,d,c,q⟩:=h;refine⟨_,(R A g s H E U).out.nox,u,V,_,O,VO d N,c,?_⟩;unfold qW at q;generalize t (F.map Xy++aU (N.length-F.length) XV) O=r at q;cases r with
 |nx σ O'=>exact λY m n x e o=>q .non m n x o Jn
 |rt d' O'=>exact λv m n x o r=>q v m n x o r
 |bk σ O'=>exact aj q
 |ct σ O'=>exact aj q
 |exc o O'=>exact λm n x W=>q m n x W
 |bad=>exact aj q
noncomputable def Ce:D->String
 |.non => "NoneType"
 |.bl _ => "bool"
 |.int _ => "int"
 |.str _ => "str"
 |.lst _ => "list"
 |.own _ => "list"
 |.tup _ => "tuple"
 |.dct => "dict"
 |.exn _ => "exception"
 |.tab _ => "bool"
 |.map _ _ => "dict"
 |.adr _ => "function"
def H9(t c:String):Bool:=t==c||(t == "bool" && c == "int")
section
variable{X:Cx}{Ex:Nat->Hp->Prop}{pos:Pos}{a b c e:aT}{ta te:DE}{Xa:List (ae×Obj)}{b_:St}{H:Hp}{s:ag}{QH μ:List ae}{O:Ow}
def yD:List String:=["NoneType", "bool", "int", "str", "list", "tuple", "dict"]
def z_(K:ai){t c:String}(d:t∈yD)(f:c∈["int", "bool", "str", "list", "tuple", "dict"]):lh K (.type t) (.type c)=Xy (H9 t c):=by simp only[yD,aw,cg,or_false] at d f;rcases d with rfl|rfl|rfl|rfl|rfl|rfl|rfl<;>rcases f with rfl|rfl|rfl|rfl|rfl|rfl<;>first|rfl|decide
def z8C(I:L2.Inv X Xa b_ H s)(E:oC X.K H QH μ O)(h:Xf X.K H QH μ d v)(r:RelV v u)(F:(Ce d == "function")=Y1):∃(T:ab)(A:a7->Prop),PySem.W.KitX X.K u T A/\A s.heap/\u ≠ .builtin "__main__.__loader__#opaque"/\∀c∈(["int", "bool", "str", "list", "tuple", "dict"]:List String),lh X.K T (.type c)=Xy (H9 (Ce d) c):=by
 cases d with
 |non=>unfold Xf at h;subst h;cases r;exact⟨.type "NoneType",_,PySem.W.kitx_none,fj,(λz=>nomatch z),λc f=>z_ X.K (by simp[yD]) f⟩
 |bl _=>unfold Xf at h;subst h;cases r;exact⟨.type "bool",_,mN,fj,(λz=>nomatch z),λc f=>z_ X.K (by simp[yD]) f⟩
 |int _=>unfold Xf at h;subst h;obtain⟨t,rfl⟩:=r;exact⟨.type "int",_,PySem.W.kitx_int,fj,(λz=>nomatch z),λc f=>z_ X.K (by simp[yD]) f⟩
 |str _=>unfold Xf at h;subst h;obtain⟨t,rfl⟩:=r;exact⟨.type "str",_,PySem.W.kitx_str,fj,(λz=>nomatch z),λc f=>z_ X.K (by simp[yD]) f⟩
 | lst x=>
  obtain⟨p,m,rfl,l,q⟩:=h;cases r;obtain⟨B,D,⟨o,n,j,i,_⟩,_⟩:=I.list l.sq;exact⟨.type "list",_,mO,⟨o,j,i⟩,(λz=>nomatch z),λc f=>z_ X.K (by simp[yD]) f⟩
 | own k=>
  obtain⟨p,rfl,G⟩:=h;cases r;obtain⟨x,m,_,i,_⟩:=E.at_ k p G;obtain⟨B,D,⟨o,n,j,i,_⟩,_⟩:=I.list (.of i);exact⟨.type "list",_,mO,⟨o,j,i⟩,(λz=>nomatch z),λc f=>z_ X.K (by simp[yD]) f⟩
 | tup x=>
  obtain⟨p,m,rfl,l,q⟩:=h;cases r;obtain⟨B,D,⟨o,j,i,_⟩,_⟩:=I.tuple l.sq;exact⟨.type "tuple",_,PySem.W.kitx_tuple,⟨o,j,i⟩,(λz=>nomatch z),λc f=>z_ X.K (by simp[yD]) f⟩
 | dct=>
  obtain⟨p,rfl,w,_⟩:=h;cases r;obtain⟨_,_,m,_,o,J,L,j,i,_⟩:=Rd.ok w I.hok;exact⟨.type "dict",_,mP,⟨o,j,i.1⟩,(λz=>nomatch z),λc f=>z_ X.K (by simp[yD]) f⟩
 |tab _=>unfold Xf at h;obtain⟨rfl,_⟩:=h;cases r;exact⟨.type "bool",_,mN,fj,(λz=>nomatch z),λc f=>z_ X.K (by simp[yD]) f⟩
 | map ks x=>
  obtain⟨p,m,rfl,w,_⟩:=h;cases r;obtain⟨_,_,m,_,o,J,L,j,i,_⟩:=Rd.ok (.inr w) I.hok;exact⟨.type "dict",_,mP,⟨o,j,i.1⟩,(λz=>nomatch z),λc f=>z_ X.K (by simp[yD]) f⟩
 |adr _=>cases F
 | exn C=>
  obtain⟨p,M,rfl,⟨k,g⟩,w,_⟩:=h;cases r;obtain⟨y,_⟩:=Rd.ok w I.hok;refine⟨_,_,zlH k,g _ y,(λz=>nomatch z),λc f=>?_⟩;rw[k.kit c f];simp at f;rcases f with rfl|rfl|rfl|rfl|rfl|rfl<;>rfl
def WD:List String:=["int", "bool", "str", "list", "tuple", "dict"]
def zdk:oN X (.builtin "isinstance") (λxs H Q=>∃x C QH μ O d,xs=[x,.ty C]/\C∈WD/\oC X.K H QH μ O/\Xf X.K H QH μ d x/\(Ce d == "function")=Y1/\Q (.bl (H9 (Ce d) C)) H):=by intro Xa s t H xs v Q I r h;obtain⟨x,C,QH,μ,O,d,rfl,f,g,i,j,q⟩:=h;obtain⟨u,w,rfl,k,l⟩:=Iz r;cases l;obtain⟨T,y,Z,p,m,n⟩:=z8C I g i k j;exact wT I (PySem.W.kia_one Z I.kIn p (n _ f) m λo z=>⟨.bl _,H,I.tok o,rfl,q⟩)
def vM(C:String)(t:DE):DE:=λσ O=>(t σ O).bnd λd O1=>if (Ce d == "function")=YP then .bad else .ok (.bl (H9 (Ce d) C)) O1
def Jd(t:PD X Ex a ta)(u:n∈WD)(w:Gl X "isinstance")(y:X.mg "isinstance" = XV)(z:bC "isinstance" = Xy (.builtin "isinstance"))(f:Gl X C)(g:X.mg C=XV)(h:bC C=Xy (.type n))(i:C ≠ "__name__":=by decide)
  (j:s9 C:=by decide) (m:aR [a,.Name C p'] X.env=(Y1,eval a X.env)::aR [.Name C p'] X.env:=by rfl) (k:aR [.Name C p'] X.env=[(Y1,eval (.Name C p') X.env)]:=by rfl) (A:(backTo pos (aR [.Name C p'] X.env)).any (·.1)=Y1:=by rfl):
  PD X Ex (.Call (.Name "isinstance" p) [a,.Name C p'] [] pos) (vM n ta):=
 sE (MJ (zdk) w y z (FN t.out (FN (zjx (v:=.ty n) f g h rfl i j) IT k) m) 'u' 'u' m A) λQH μ I O b_ H Q B D q=>rd.go B D q λd E v J F K x o r l=>by
  obtain⟨G,l⟩:=post.iteN l;exact⟨v,n,QH,F,E,d,rfl,u,o,r,G,post.here l o vS⟩
noncomputable def yu(to:DE)(t:DA):DE:=λσ O=>(to σ O).bnd λx O1=>match x with
 | .own k=>(t σ O1).bnd λys O2=>match ys,O2[k]? with
  |[y],Xy ds=>if ds.length<4000000 then .ok .non (O2.set k (ds++[y])) else .bad
  |_,_=>.bad
 |_=>.bad
def zdt(n:PD X Ex o to)(u:uA X Ex (e::es) t)(z:attributeBase o "append" X.env (eval o X.env)=eval o X.env:=by rfl)
  (B:((backTo qh (aR (e::es) X.env)).all (λx=>!x.1)&&(backToKw qh (keywordEach [] X.env)).all (λx=>x.1.isSome)&&decide ((e::es).length+([]:List fT).length+(if ([]:List fT).isEmpty then 0 else 1)<30))=YP:=by rfl)
  (C:(apos.endLine==qh.line)=YP:=by rfl) (D:aR (e::es) X.env=(Y1,eval e X.env)::aR es X.env:=by rfl) (E:(backTo qh (aR es X.env)).any (·.1)=Y1:=by rfl):
  PD X Ex (.Call (.Attribute o "append" apos) (e::es) [] qh) (yu to t):=
 sE (IA iy lg PySem.F.type_list_append U7 n.out u.out z B C D E) λQH μ σ O b_ H Q G I q=>rd.go G I q λd O1 v H1 g_ J x h r p=>by
  cases d with
  | own k=>
   have K:=r;obtain⟨A,rfl,L⟩:=r;obtain⟨ds,M,h1,N,h3⟩:=h.at_ k A L;refine⟨.inl ⟨rfl,M,.of N⟩,uT.go J h p λys O2 ws H2 P e3 R i S f=>?_⟩;split at f
   ·rename_i y uK T;obtain⟨U,f⟩:=post.ite f;obtain⟨w,rfl,V⟩:=uu S;have g:P[k]?=Xy A:=by
     have:=K.ext R;obtain⟨A',W,Y⟩:=this;cases W;exact Y
    obtain⟨E4,Z,j,l,m⟩:=i.at_ k A g;rw[T] at j;cases j;refine⟨A,Z,w,rfl,rfl,l,be (by rw[<- m.length];exact U) 'u',?_⟩;exact post.ok f (.put (aF g) ⟨_,l⟩) (i.put g (m.append (.cons V .nil))) Jn
   ·exact aj f
  |_=>exact aj p
def Ar(te to ti:DE):DS:=λσ O=>(te σ O).bnS λy O1=>(to σ O1).bnS λx O2=>(ti σ O2).bnS λi O3=>match x,i with
 | .own k,.int i=>match O3[k]? with
  | some ds=>match ixN ds.length i with
   |some j=>.nx σ (O3.set k (ds.set j y))
   |none=>.bad
  |none=>.bad
 |_,_=>.bad
def zhk(t:PD X Ex e te)(z:PD X Ex o to)(B:PD X Ex i ti)(C:∀v,assign (.Subscript o i pos) X.env v=(do
   let ov <- holding [v] (eval o X.env);let iv <- holding [v,ov] (eval i X.env)
   standAt pos
   holding [v,ov,iv] (setItem ov iv v)
   release [v,ov,iv] []):=by intro _;rfl)(D:jJ [.Subscript o i pos] e sH.line X.env=pure Y1:=by rfl)(F:jK [.Subscript o i pos] e X.env=pure XV:=by rfl)
  (G:(gH [.Subscript o i pos] X.env).map (·.2)=[assign (.Subscript o i pos) X.env]:=by rfl):vm X Ex (.Assign [.Subscript o i pos] e sH) (Ar te to ti):=
 zX (RQ t.out (Zg z.out B.out zg6 C) D F G) λQH μ σ O E b_ H I J q=>rd.goS I J q λy O1 v H1 g_ K x1 L M N=>rd.goS K L N λx O2 u H2 qe P Q R S T=>rd.goS P R T λii O3 w H3 U V l n W d=>by
  split at d
  ·rename_i k j;split at d
   ·rename_i ds Y;split at d
    ·rename_i m Z;have g:=S.ext l;obtain⟨A,rfl,f⟩:=g;subst W;obtain⟨E4,Ad,p,h,r⟩:=n.at_ k A f;rw[Y] at p;cases p;refine⟨A,Ad,j,m,rfl,rfl,h,by rw[<- r.length];exact Z,?_⟩;exact d b_ _ U (.put (aF f) ⟨_,h⟩) (V.ext (.put (aF f) ⟨_,h⟩)) (n.put f (r.set ((M.ext Q).ext l) m))
    ·exact aj d
   ·exact aj d
  ·exact aj d
def yp:List D->Option (List Bool)
 |[]=>Xy []
 |.bl b::r=>(yp r).map (b :: ·)
 |_=>XV
theorem L3:∀{ds:List D}{f:List V}{g:List Bool},oD K H QH μ ds f->yp ds=Xy g->f=g.map V.bl
 |[],f,g,h,e=>by unfold oD at h;subst h;cases e;rfl
 | d::ds,f,g,h,e=>by
  obtain⟨v,r,rfl,i,j⟩:=h;cases d with
  | bl b=>
   unfold yp at e;cases q:yp ds with
   |none=>rw[q] at e;cases e
   | some cs=>
    rw[q] at e;cases e;unfold Xf at i;subst i;rw[L3 j q];rfl
  |_=>cases e
def xE:Ow->List D->R D:=λO xs=>match xs with
 | [x]=>match r9 O x with
  | some ds=>match yp ds with
   |some bs=>.ok (.bl (bs.all id)) O
   |none=>.bad
  |none=>.bad
 |_=>.bad
def DZ:Ow->List D->R D:=λO xs=>match xs with
 | [x]=>match r9 O x with
  | some ds=>match yp ds with
   |some bs=>.ok (.bl (bs.any id)) O
   |none=>.bad
  |none=>.bad
 |_=>.bad
def Zu:vA X Ex (λxs H Q=>∃(p:ae)(f:List Bool),xs=[.ref p]/\rn X.K H p (f.map V.bl)/\Q (.bl (f.all id)) H) xE:=by
 intro H QH μ O xs k Q c d q;unfold xE at q;split at q
 ·rename_i x;obtain⟨v,rfl,g⟩:=uu d;split at q
  ·rename_i l e;obtain⟨p,m,rfl,h,i⟩:=vU c g e;split at q
   ·rename_i f j;refine⟨p,f,rfl,?_,post.here q c vS⟩;rw[<- L3 i j];exact h
   ·exact aj q
  ·exact aj q
 ·exact aj q
def zlY:vA X Ex (λxs H Q=>∃(p:ae)(f:List Bool),xs=[.ref p]/\rn X.K H p (f.map V.bl)/\Q (.bl (f.any id)) H) DZ:=by
 intro H QH μ O xs k Q c d q;unfold DZ at q;split at q
 ·rename_i x;obtain⟨v,rfl,g⟩:=uu d;split at q
  ·rename_i l e;obtain⟨p,m,rfl,h,i⟩:=vU c g e;split at q
   ·rename_i f j;refine⟨p,f,rfl,?_,post.here q c vS⟩;rw[<- L3 i j];exact h
   ·exact aj q
  ·exact aj q
 ·exact aj q
def zdn(f:List Bool):(aV f.length).all (λi=>f.getD i YP)=f.all id:=by
 rw[cR,al,al];constructor
 ·intro h b g;obtain⟨i,d,e⟩:=dM.mp g;have:=h i ⇑d;rw[aD,am d,e] at this;exact this
 ·intro h i d;have d:i<f.length:=⇑d
  rw[aD,am d];exact h _ (bD d)
def zdp(f:List Bool):(aV f.length).any (λi=>f.getD i YP)=f.any id:=by
 rw[cR,bA,bA];constructor
 ·rintro⟨i,d,h⟩;have d:i<f.length:=⇑d
  rw[aD,am d] at h;exact⟨_,bD d,h⟩
 ·rintro⟨b,g,h⟩;obtain⟨i,d,e⟩:=dM.mp g;exact⟨i,by simpa using d,by rw[aD,am d,e];exact h⟩
def Si{d:List Bool}{f:List ab}(r:oF (d.map V.bl) f){i:Nat}{v:ab}(h:f.toArray[i]?=Xy v):v=.bool (d.getD i YP):=by
 have h:f[i]?=Xy v:=⇑h
 have g:i<d.length:=by
  have:=r.length;have:=(ao.mp h).1;simp at *;lia
 obtain⟨u,j,k⟩:=r.get (by rw[bd,am g];rfl);rw[h] at j;cases j;cases k;rw[aD,am g];rfl
def zdN(k:X.calm=YP):oN X (.builtin "all") (λxs H Q=>∃(p:ae)(d:List Bool),xs=[.ref p]/\rn X.K H p (d.map V.bl)/\Q (.bl (d.all id)) H):=by
 intro Xa s B H xs C Q I r h;obtain⟨p,d,rfl,l,q⟩:=h;obtain⟨u,rfl,m⟩:=uO r;cases m;obtain⟨f,j,g,D⟩:=I.list l;have t:f.toArray.size=d.length:=by have:=j.length;simp at *;lia
 have w:p≠s.heap.objs.size:=by obtain⟨o,n,e,_⟩:=g;exact bq (aN e)
 refine wT I (call_all_walk (fL g.isList ?_));refine⟨s.heap.objs.size,_,_,f.toArray.size,_,_,λi=>d.getD i YP,rfl,j6 (show X.A.in1.handled=XV from I.ok.hd k) _ p w f.toArray,⟨⟨_,aI _ rfl,rfl,rfl⟩,g.isList.push _⟩,λi v E F G x y=>?_,λJ L z M=>?_⟩
 ·rw[Si j x];exact dq y
 ·rw[t,zdn];exact⟨.bl _,H,I.kept λb o e=>z b o (by simpa using bq (aN e)) (af _ e),rfl,q⟩
def zbA(k:X.calm=YP):oN X (.builtin "any") (λxs H Q=>∃(p:ae)(d:List Bool),xs=[.ref p]/\rn X.K H p (d.map V.bl)/\Q (.bl (d.any id)) H):=by
 intro Xa s B H xs C Q I r h;obtain⟨p,d,rfl,l,q⟩:=h;obtain⟨u,rfl,m⟩:=uO r;cases m;obtain⟨f,j,g,D⟩:=I.list l;have t:f.toArray.size=d.length:=by have:=j.length;simp at *;lia
 have w:p≠s.heap.objs.size:=by obtain⟨o,n,e,_⟩:=g;exact bq (aN e)
 refine wT I (call_any_walk (fL g.isList ?_));refine⟨s.heap.objs.size,_,_,f.toArray.size,_,_,λi=>d.getD i YP,rfl,j6 (show X.A.in1.handled=XV from I.ok.hd k) _ p w f.toArray,⟨⟨_,aI _ rfl,rfl,rfl⟩,g.isList.push _⟩,λi v E F G x y=>?_,λJ L z M=>?_⟩
 ·rw[Si j x];exact dq y
 ·rw[t,zdp];exact⟨.bl _,H,I.kept λb o e=>z b o (by simpa using bq (aN e)) (af _ e),rfl,q⟩
end
section
variable{X:Cx}{Ex:Nat->Hp->Prop}{pos:Pos}{a b c e o:aT}{ta tb te to:DE}{Xa:List (ae×Obj)}{b_:St}{H:Hp}{s:ag}{QH μ:List ae}{O:Ow}
def Qz(K:ai):R2:=λx y H Q=>∃l b xs zs,x=.ref l/\y=.ref b/\rn K H l xs/\rn K H b zs/\xs.length+zs.length<=Kw/\∀p,H p=XV->Q (.ref p) (upd H p (.lst (xs++zs)))
def zjT:qZ X (dU .Add) (Qz X.K):=by
 intro Xa s P H x y v u Q I m n h;obtain⟨l,b,R,S,rfl,rfl,p,r,T,q⟩:=h;cases m;cases n;obtain⟨d,g,t,U⟩:=I.list p;obtain⟨f,i,w,V⟩:=I.list r;obtain⟨⟨W,Y,Z,z⟩,A,j,B,C,D⟩:=t;obtain⟨⟨c2,d2,t2,E⟩,G,k,J,L,M⟩:=w;subst B C D J L M;have N:d.toArray++f.toArray=(d++f).toArray:=by simp
 have l1:=g.length;have l2:=i.length;refine jA ⟨_,j,rfl⟩ ⟨_,k,rfl⟩ PySem.noFill_list_add PySem.seq_list_add PySem.F.slot_list_add PySem.F.entry_list_add (PySem.F.args_list_add_2 _ _)
  (PyProof.Rows.list_addW l b d.toArray f.toArray A G XV XV z E (by simp;lia)) ⟨j,k,?_⟩
 rw[N];exact⟨.ref _,_,I.lnew (g.append i) (by rw[au];lia),rfl,q _ I.fresh⟩
def rC:Ow->D->D->R D:=λO x y=>match x,y with
 |.int i,.int j=>.ok (.int (i+j)) O
 |.str p,.str q=>if p.length+q.length<=4000000 then .ok (.str (p++q)) O else .bad
 |.tup xs,.tup ys=>if xs≠[]/\xs.length+ys.length<=4000000 then .ok (.tup (xs++ys)) O else .bad
 | x,y=>match r9 O x,r9 O y with
  |some xs,Xy ys=>if xs.length+ys.length<=4000000 then .ok (.lst (xs++ys)) O else .bad
  |_,_=>.bad
def Lr(K:ai):R2:=λx y H Q=>(∃i j,x=.int i/\y=.int j/\Q (.int (i+j)) H)\/(∃i j,x=.str i/\y=.str j/\i.length+j.length<=Kw/\Q (.str (i++j)) H)\/QQ K x y H Q\/Qz K x y H Q
def Te:qZ X (dU .Add) (Lr X.K):=qZ.or zkk (qZ.or zaR (qZ.or zhV zjT))
def R1:sS X Ex (Lr X.K) rC:=by
 intro H QH μ O x y v w Q c d g q;unfold rC at q;split at q
 ·unfold Xf at d g;subst d;subst g;exact .inl ⟨_,_,rfl,rfl,post.here q c sP⟩
 ·rename_i p j;unfold Xf at d g;subst d;subst g;obtain⟨k,q⟩:=post.ite q;refine .inr (.inl ⟨_,_,rfl,rfl,?_,?_⟩)
  ·show p.toArray.size+j.toArray.size<=_;simp;exact zj k
  ·have e:((⟨p.toArray⟩:aB)++(⟨j.toArray⟩:aB))=⟨(p++j).toArray⟩:=by
    show(⟨p.toArray++j.toArray⟩:aB)=_;simp
   rw[e];exact post.here q c Ma
 ·rename_i C D;have m:=d;obtain⟨p,n,rfl,A,h⟩:=d;obtain⟨r,t,rfl,B,i⟩:=g;obtain⟨⟨E,k⟩,q⟩:=post.ite q;have u:=h.length;have z:=i.length;refine .inr (.inr (.inl ⟨p,r,n,t,rfl,rfl,A.sq,B.sq,?_,zj 'd',?_,?_⟩))
  ·rintro rfl;exact E (cJ.mp u)
  ·rintro rfl;have:=cJ.mp z;subst this;rw[bw] at q;exact post.here q c m
  ·intro _ l f;exact post.ok q (.laid f) (c.laid f) (Xf.newT c f (h.append i))
 ·split at q
  ·rename_i C D u z;obtain⟨p,n,rfl,F,h⟩:=vU c d u;obtain⟨r,t,rfl,G,i⟩:=vU c g z;obtain⟨k,q⟩:=post.ite q;have A:=h.length;have B:=i.length;exact .inr (.inr (.inr ⟨p,r,n,t,rfl,rfl,F,G,zj 'd',λl f=>post.ok q (.laid f) (c.laid f) (Xf.newL c f (h.append i))⟩))
  ·exact aj q
def ZQ(d:PD X Ex a ta)(f:PD X Ex b tb):PD X Ex (.BinOp a .Add b pos) (c_ rC ta tb):=LB Te R1 d f
noncomputable def Qm(i:Int):n_:=((toString i:aB)).cps.toList
def IH:Ow->List D->R D:=λO xs=>match xs with
 |[.int i]=>if i.natAbs<2 ^ 64 then .ok (.str (Qm i)) O else .bad
 |_=>.bad
def zb6(h:n<2 ^ 64):n.log2<1920:=by
 by_cases d:n=0
 ·subst d;decide
 ·have:=(Nat.log2_lt d).mpr h;lia
def Mp(x:aB):(⟨x.cps.toList.toArray⟩:aB)=x:=by cases x;simp
def ziF:vA X Ex (λxs H Q=>∃i,xs=[.int i]/\i.natAbs.log2<1920/\Q (.str (toString i)) H) IH:=by
 intro H QH μ O xs h Q c d q;unfold IH at q;split at q
 ·rename_i i;obtain⟨v,rfl,f⟩:=uu d;unfold Xf at f;subst f;obtain⟨g,q⟩:=post.ite q;refine⟨i,rfl,zb6 g,post.here q c ?_⟩;unfold Xf Qm;rw[Mp]
 ·exact aj q
def NR(g:aB->aB->Option V):V->List V->Hp->VK->Prop:=λx xs H Q=>∃i j v,x=.str i/\xs=[.str j]/\g i j=Xy v/\Q v H
def Qc(i j:aB):Option V:=Xy (.int (bJ i j 0 i.length (i.length+1)).length)
def Ia(i j:aB):Option V:=match bJ i j 0 i.length 1 with
 |k::_=>Xy (.int k)
 |[]=>XV
def zf2:K1 X "str.count" (NR Qc):=by intro Xa s k H x l v m Q I d f h;obtain⟨i,j,w,rfl,rfl,g,q⟩:=h;obtain⟨t,rfl⟩:=d;obtain⟨u,rfl,n,rfl⟩:=uO f;cases g;exact SC.count ⟨.int _,H,I.tok _,⟨_,rfl⟩,q⟩
def zfQ:K1 X "str.index" (NR Ia):=by
 intro Xa s l H x m v n Q I f g h;obtain⟨i,j,w,rfl,rfl,d,q⟩:=h;obtain⟨t,rfl⟩:=f;obtain⟨u,rfl,p,rfl⟩:=uO g;unfold Ia at d;split at d
 ·rename_i k r e;cases d;exact SC.index e ⟨.int _,H,I.tok _,⟨_,rfl⟩,q⟩
 ·cases d
def Il(i j:n_):Option D:=Xy (.int (bJ ⟨i.toArray⟩ ⟨j.toArray⟩ 0 i.length (i.length+1)).length)
def Ij(i j:n_):Option D:=match bJ ⟨i.toArray⟩ ⟨j.toArray⟩ 0 i.length 1 with
 |k::_=>Xy (.int k)
 |[]=>XV
noncomputable def E5(g:n_->n_->Option D)(to:DE)(t:DA):DE:=λσ O=>(to σ O).bnd λx O1=>match x with
 | .str i=>(t σ O1).bnd λys O2=>match ys with
  | [.str j]=>match g i j with
   |some d=>.ok d O2
   |none=>.bad
  |_=>.bad
 |_=>.bad
def Q3{t:DA}{h:List aT}{f k:Pos}{name:aB}{id:String}{u:aB->aB->Option V}{g:n_->n_->Option D}(l:Slot "str" name id)(z:typeOf (.builtin id)=pure (.type "method_descriptor"))(A:K1 X id (NR u))
  (n:∀i j d,g i j=Xy d->∃v,u ⟨i.toArray⟩ ⟨j.toArray⟩=Xy v/\∀K H QH μ,Xf K H QH μ d v) (B:PD X Ex o to) (C:uA X Ex (e::h) t) (E:attributeBase o name X.env (eval o X.env)=eval o X.env:=by rfl)
  (G:((backTo k (aR (e::h) X.env)).all (λx=>!x.1)&&(backToKw k (keywordEach [] X.env)).all (λx=>x.1.isSome)&&decide ((e::h).length+([]:List fT).length+(if ([]:List fT).isEmpty then 0 else 1)<30))=YP:=by rfl)
  (I:(f.endLine==k.line)=YP:=by rfl) (J:aR (e::h) X.env=(Y1,eval e X.env)::aR h X.env:=by rfl) (L:(backTo k (aR h X.env)).any (·.1)=Y1:=by rfl):
  PD X Ex (.Call (.Attribute o name f) (e::h) [] k) (E5 g to t):=
 sE (IA PySem.F.plainAttrs_str l z A B.out C.out E G I J L) λQH μ Z O b_ H Q M N q=>rd.go M N q λd O1 v H1 g_ P x R r p=>by
  cases d with
  | str i=>
   subst r;refine⟨rfl,uT.go P R p λys O2 ws H2 qe e3 x3 S T m=>?_⟩;split at m
   ·rename_i j;obtain⟨w,rfl,y⟩:=uu T;unfold Xf at y;subst y;split at m
    ·rename_i d U;obtain⟨v,W,Y⟩:=n _ _ _ U;exact⟨_,_,v,rfl,rfl,W,post.here m S (Y _ _ _ _)⟩
    ·exact aj m
   ·exact aj m
  |_=>exact aj p
def zlZ:∀i j d,Il i j=Xy d->∃v,Qc ⟨i.toArray⟩ ⟨j.toArray⟩=Xy v/\∀K H QH μ,Xf K H QH μ d v:=λi j d h=>by
 cases h;have e:(⟨i.toArray⟩:aB).length=i.length:=by show i.toArray.size=_;simp
 exact⟨_,rfl,λ_ _ _ _=>by unfold Xf;rw[e]⟩
def zkr:∀i j d,Ij i j=Xy d->∃v,Ia ⟨i.toArray⟩ ⟨j.toArray⟩=Xy v/\∀K H QH μ,Xf K H QH μ d v:=λi j d h=>by
 have e:(⟨i.toArray⟩:aB).length=i.length:=by show i.toArray.size=_;simp
 unfold Ij at h;unfold Ia;rw[e];split at h
 ·rename_i k r f;cases h;exact⟨_,rfl,λ_ _ _ _=>sP⟩
 ·cases h
def QI:List D->Option (List aB)
 |[]=>Xy []
 |.str cs::r=>(QI r).map (⟨cs.toArray⟩ :: ·)
 |_=>XV
def Vp:∀{d:List aB}{f:List ab},oF (d.map V.str) f->f7 f d:=by
 intro d
 induction d with
 |nil=>intro f r;rw[gq] at r;cases r;exact .nil
 | cons y d ih=>
  intro f r;cases r with
  | cons r1 r2=>
   obtain⟨t,e⟩:=r1;subst e;exact .cons y t (ih r2)
def zp1(to:DE)(t:DA):DE:=λσ O=>(to σ O).bnd λx O1=>match x with
 | .str i=>(t σ O1).bnd λys O2=>match ys with
  | [z]=>match (match r9 O2 z with|some ds=>Xy ds|none=>AV z) with
   | some ds=>match QI ds with
    |some zs=>if i.length<=16/\(zs.map (·.length)).sum+zs.length<=1048576 then .ok (.str (Txt.join ⟨i.toArray⟩ zs).cps.toList) O2 else .bad
    |none=>.bad
   |none=>.bad
  |_=>.bad
 |_=>.bad
abbrev DO:=Sg->Ow->R (Option Int)
noncomputable def CU(Ex:Nat->Hp->Prop)(K:ai)(t:DO):TO:=λb_ H Q=>∃QH μ σ O,oE K H QH μ σ b_/\oC K H QH μ O/\post Ex K (λ_ _(d v:Option Int)=>d=v) H QH μ (t σ O) Q
structure Bk(X:Cx)(Ex:Nat->Hp->Prop)(e:Option aT)(t:DO):Prop where
 out:PO X e (CU Ex X.K t)
def yC:DO:=λ_ O=>.ok XV O
def yX(t:DE):DO:=λσ O=>(t σ O).bnd λd O1=>match d with
 |.int i=>.ok (Xy i) O1
 |_=>.bad
def PO.imp{e:Option aT}{t t':TO}(h:PO X e t)(f:∀σ H Q,t' σ H Q->t σ H Q):PO X e t':=λXa s σ H Q I q=>h Xa s σ H Q I (f σ H Q q)
def zeX:Bk X Ex XV yC:=Bk.mk <| PO.imp ziJ λb_ H Q ⟨QH,μ,f,O,g,d,q⟩=>post.here q d rfl
def zfy(h:PD X Ex e te):Bk X Ex (Xy e) (yX te):=Bk.mk <| PO.imp (ziE h.out) λb_ H Q ⟨QH,μ,k,O,f,g,q⟩=>rd.go f g q λd l v m n t x j r p=>by
 cases d with
 |int i=>unfold Xf at r;subst r;exact⟨i,rfl,post.here p j rfl⟩
 |_=>exact aj p
def CU.go{i j:Type}{l:Hp->List ae->i->j->Prop}{t:DO}{QH μ:List ae}{σ:Sg}{O:Ow}{b_:St}{H:Hp}{Q1:Option Int->Hp->Prop}{k:Option Int->Ow->R i}{Q:j->Hp->Prop}(m:oE X.K H QH μ σ b_)(n:oC X.K H QH μ O)
  (q:post Ex X.K l H QH μ ((t σ O).bnd k) Q)
  (f:∀v O1 g h,oE X.K g QH h σ b_->Ext H μ g h->oC X.K g QH h O1->post Ex X.K l g QH h (k v O1) Q->Q1 v g):CU Ex X.K t b_ H Q1:=
 ⟨QH,μ,σ,O,m,n,post.bnd q λd O1 v g h x c r p=>by
  subst r;exact f d O1 g h (m.ext x) x c p⟩
def Ql:V->Option Int->Option Int->Hp->VK->Prop:=λx lo hi H Q=>∃i,x=.str i/\i.length<=Kw/\Q (.str (Txt.slice i lo hi)) H
def zbj{h:a7}{m:ae}{n p:ab}{lo q:Option Int}(v:h.IsSliceOf m n p .none)(w:h9 n lo)(r:h9 p q):∃l u:Option (Int×Tok),h.IsSlice m l u XV/\l.map (·.1)=lo/\u.map (·.1)=q:=by
 obtain⟨d,g,f,k⟩:=v;cases w with
 | none=>
  cases r with
  |none=>exact⟨XV,XV,⟨d,g,f,k⟩,rfl,rfl⟩
  |int j t=>exact⟨XV,Xy (j,t),⟨d,g,f,k⟩,rfl,rfl⟩
 | int i t=>
  cases r with
  |none=>exact⟨Xy (i,t),XV,⟨d,g,f,k⟩,rfl,rfl⟩
  |int j t'=>exact⟨Xy (i,t),Xy (j,t'),⟨d,g,f,k⟩,rfl,rfl⟩
def Q9:xR X Ql:=by intro Xa s p H x v r w y z A Q I d f g j h;obtain⟨i,rfl,m,q⟩:=h;obtain⟨t,rfl⟩:=d;obtain⟨l,u,n,rfl,rfl⟩:=zbj f g j;refine⟨"str",_,PySem.F.slot_str_getitem.lookup,typeIs_str s i t,?_⟩;exact wT I (wpAny_getItem_str_slice n rfl (post_val_or_str ⟨aH (Txt.slice_le i _ _) m,λB k C=>⟨.str _,H,I.tok k,⟨_,rfl⟩,q⟩⟩))
def Aw(xs:List D)(lo hi:Option Int):List D:=(xs.drop (HT.sIx xs.length 0 lo)).take (HT.sIx xs.length xs.length hi-HT.sIx xs.length 0 lo)
def Pm(O:Ow)(x:D)(lo hi:Option Int):R D:=match x with
 |.str i=>if i.length<=4000000 then .ok (.str (Txt.slice ⟨i.toArray⟩ lo hi).cps.toList) O else .bad
 |.tup ds=>if HT.sIx ds.length 0 lo=0/\HT.sIx ds.length ds.length hi=ds.length then .bad else .ok (.tup (Aw ds lo hi)) O
 | x=>match r9 O x with
  |some ds=>.ok (.lst (Aw ds lo hi)) O
  |none=>.bad
def B3(te:DE)(tl th:DO):DE:=λσ O=>(te σ O).bnd λx O1=>(tl σ O1).bnd λlo O2=>(th σ O2).bnd λhi O3=>Pm O3 x lo hi
def zpz(K:ai):V->Option Int->Option Int->Hp->VK->Prop:=λx lo hi H Q=>Ql x lo hi H Q\/Qg K x lo hi H Q\/P_ K x lo hi H Q
def F7{K:ai}{ds:List D}{d:List V}(h:oD K H QH μ ds d)(lo f:Option Int):oD K H QH μ (Aw ds lo f) (Bt d lo f):=by unfold Aw Bt;rw[h.length];exact oD.take _ (oD.drop _ h)
def YT{lo w:Option aT}{y z:DO}{A:Pos}(B:PD X Ex e te)(m:Bk X Ex lo y)(C:Bk X Ex w z):PD X Ex (.Subscript e (.Slice lo w XV A) pos) (B3 te y z):=
 sE (TU (xR.or Q9 (xR.or RT Ts)) B.out m.out C.out) λQH μ V O b_ H Q D E q=>rd.go D E q λd W v Y Z F x G r p=>CU.go F G p λl O2 H2 qe I J K L=>CU.go I K L λu O3 H3 DJ e4 M h f=>by
  have j:=(r.ext J).ext M;unfold Pm at f;split at f
  ·rename_i i;unfold Xf at j;subst j;obtain⟨m.out,f⟩:=post.ite f;refine .inl ⟨_,rfl,?_,post.here f h ?_⟩
   ·show i.toArray.size<=_;rw[aL];exact zj m.out
   ·unfold Xf;rw[Mp]
  ·rename_i N;obtain⟨n,t,rfl,P,k⟩:=j;split at f
   ·exact aj f
   ·rename_i R;refine .inr (.inl ⟨n,t,rfl,P.sq,by rw[<- k.length];exact R,λS g=>post.ok f (.laid g) (h.laid g) (Xf.newT h g (F7 k l u))⟩)
  ·split at f
   ·rename_i N T;obtain⟨n,t,rfl,U,k⟩:=vU h j T;exact .inr (.inr ⟨n,t,rfl,U,λS g=>post.ok f (.laid g) (h.laid g) (Xf.newL h g (F7 k l u))⟩)
   ·exact aj f
def Ip:Ow->D->D->R D:=λO x y=>match x,y with
 |.str i,.str j=>.ok (.bl (!(bJ ⟨j.toArray⟩ ⟨i.toArray⟩ 0 j.length 1).isEmpty)) O
 |_,_=>.bad
def zhL:sS X Ex (λx y H Q=>∃i j,x=.str i/\y=.str j/\Q (.bl (!(bJ j i 0 j.length 1).isEmpty)) H) Ip:=by
 intro H QH μ O x y v w Q c d f q;unfold Ip at q;split at q
 ·rename_i i j;unfold Xf at d f;subst d;subst f;refine⟨_,_,rfl,rfl,post.here q c ?_⟩;have e:(⟨j.toArray⟩:aB).length=j.length:=by show j.toArray.size=_;simp
  rw[e];exact vS
 ·exact aj q
end
def qO(K:ai)(mg:aB->Option ab)(x:aB)(st:eH):Prop:=∃f fd,mg x=Xy (.ref f)/\L2.Fun K x x st f fd
structure Callee(P:aP)(w:aZ)(K:ai)(mg:aB->Option ab)(base:a7)(x:aB)(k n:Nat)(F:ql):Prop where
 ex:∃f fd ps,mg x=Xy (.ref f)/\de K (.ref f)=YP/\Binds K fd ps []/\oV P w K mg base yN k f fd ps (K4 K Bm n F)
def Ru(c:Callee X.prog X.w X.K X.mg X.base x k n F)(a:oM j X.A)(b:k<=j)(d:Gl X x)(g:uA X qV (e::es) t)
  (h:s9 x:=by decide) (i:aR (e::es) X.env=(Y1,eval e X.env)::aR es X.env:=by rfl) (l:(backTo pos (aR es X.env)).any (·.1)=Y1:=by rfl):
  PD X qV (.Call (.Name x p) (e::es) [] pos) (j_ n F t):=by obtain⟨f,r,s,m,o,q,G⟩:=c.ex;exact Yk (G.mono b) a d m o q QE g h i l
def fnC(h:qO K mg x st)(S:xf N ps (rR st))
  (l:∀(e c g:ab)(i:Option ae)(b j:ab)(d:List ab),d.length=ps.length->bindArgs (cr x x (yE st) (vE st) (rR st) .none e c g i b j) ⟨d,[]⟩=pure (ps.zip d))
  (m:∀(f:ae)(b:ab)(A:bb)(a:List Env)(s:ag)(H:Hp)(E:XK),oM k (A.deeper (eE x (rR st) s.heap.objs.size f b))->ua (DF P w K mg base N x (rR st) f b A a s H E) qV (vE st) t):
  Callee P w K mg base x (k+1) ps.length (qW N.length t):=by obtain⟨f,n,o,F⟩:=h;refine⟨f,n,ps,o,F.kp,F.binds l,?_⟩;obtain⟨u,v,e,c,g,i,b,j,y,rfl,p,q⟩:=F.ex;exact YW p q S λA a s H E r=>m f b A a s H E r
def Callee.imp(c:Callee P w K mg base x k n F)
  (h:∀ds O H QH a Q,oC K H QH a O->rM qV K H QH a (G ds O) Q->rM qV K H QH a (F ds O) Q):Callee P w K mg base x k n G:=by obtain⟨f,e,g,i,j,l,m⟩:=c.ex;refine⟨f,e,g,i,j,l,m.imp λp H Q E ⟨o,QH,a,ds,O,d,b,q⟩=>⟨o,QH,a,ds,O,d,b,h ds O H QH a Q b q⟩⟩
def frz(O:Ow)(n:Nat):Nat->D->Option D
 | 0,d=>match d with
  |.own k=>if k<n then Xy (.own k) else XV
  |.lst _=>XV
  |.tup _=>XV
  |.map _ _=>XV
  |d=>Xy d
 | f+1,d=>match d with
  | .own k=>if k<n then Xy (.own k) else match O[k]? with
   |some ds=>(qv (frz O n f) ds).map .lst
   |none=>XV
  |.lst ds=>(qv (frz O n f) ds).map .lst
  |.tup ds=>(qv (frz O n f) ds).map .tup
  |.map _ _=>XV
  |d=>Xy d
def uB(n:Nat)(r:R D):R D:=match r with
 | .ok d O=>match frz O n 8 d,qv (qv (frz O n 8)) (O.take n) with
  |some d',Xy O'=>.ok d' O'
  |_,_=>.bad
 |r=>r
section
variable{K:ai}{H:Hp}{QH μ ν:List ae}{O:Ow}{n:Nat}
theorem Gb(c:∀d d' v,f d=Xy d'->Xf K H QH μ d v->Xf K H QH e_ d' v):∀(ds a:List D)(b:List V),qv f ds=Xy a->oD K H QH μ ds b->oD K H QH e_ a b
 |[],a,b,e,h=>by cases e;unfold oD at h ⊢;exact h
 | d::ds,a,b,e,h=>by
  unfold qv at e;split at e
  ·rename_i p g i j;cases e;obtain⟨v,r,rfl,k,l⟩:=h;exact .cons (c d p v i k) (Gb c ds g r j l)
  ·cases e
def Q_(c:oC K H QH (μ++ν) O)(S:μ.length=n):∀(f:Nat)(d d':D)(v:V),frz O n f d=Xy d'->Xf K H QH (μ++ν) d v->Xf K H QH μ d' v:=by
 have s:∀{a:ae},a∉μ++ν->a∉μ:=λh m=>h (bt _ m);have u:∀{k:Nat}{v:V},k<n->Xf K H QH (μ++ν) (.own k) v->Xf K H QH μ (.own k) v:=λ{k v}w h=>by
  obtain⟨a,rfl,e⟩:=h;rw[aK 'd'] at e;exact⟨a,rfl,e⟩
 have B:∀{v:V},Xf K H QH (μ++ν) .dct v->Xf K H QH μ .dct v:=λ{v}h=>by
  obtain⟨a,rfl,r,x,y⟩:=h;exact⟨a,rfl,r,x,s y⟩
 have E:∀{C:Nat}{v:V},Xf K H QH (μ++ν) (.exn C) v->Xf K H QH μ (.exn C) v:=λ{C v}h=>by
  obtain⟨a,G,rfl,g,r,x,y⟩:=h;exact⟨a,G,rfl,g,r,x,s y⟩
 intro f
 induction f with
 | zero=>
  intro d d' v e h;cases d with
  | own k=>
   unfold frz at e;dsimp only at e;split at e
   ·rename_i w;cases e;exact u w h
   ·cases e
  |lst o=>cases e
  |tup o=>cases e
  |dct=>cases e;exact B h
  |map ks o=>cases e
  |adr _=>cases e;unfold Xf at h ⊢;exact h
  |exn C=>cases e;exact E h
  |tab P=>cases e;unfold Xf at h ⊢;exact h
  |non=>cases e;unfold Xf at h ⊢;exact h
  |bl b=>cases e;unfold Xf at h ⊢;exact h
  |int i=>cases e;unfold Xf at h ⊢;exact h
  |str i=>cases e;unfold Xf at h ⊢;exact h
 | succ f ih=>
  intro d d' v e h;cases d with
  | own k=>
   unfold frz at e;dsimp only at e;split at e
   ·rename_i w;cases e;exact u w h
   ·rename_i w;obtain⟨a,rfl,A⟩:=h;obtain⟨o,t,I,J,L⟩:=c.at_ k a A;rw[I] at e;dsimp only at e;cases p:qv (frz O n f) o with
    |none=>rw[p] at e;cases e
    | some ps=>
     rw[p] at e;cases e;refine⟨a,t,rfl,.inl ⟨.inl J,c.nh a (aF A),λm=>?_⟩,Gb ih o ps t p L⟩;obtain⟨j,F,M⟩:=dM.mp m;have N:(μ++ν)[j]?=Xy a:=by rw[aK F,am F,M]
     obtain⟨T,Q⟩:=ao.mp N;obtain⟨U,R⟩:=ao.mp A;have:=(j9 c.nd).mp (Q.trans R.symm);lia
  | lst o=>
   unfold frz at e;dsimp only at e;obtain⟨a,t,rfl,l,q⟩:=h;cases p:qv (frz O n f) o with
   |none=>rw[p] at e;cases e
   | some ps=>
    rw[p] at e;cases e;exact⟨a,t,rfl,l.imp (λz=>⟨z.1,z.2.1,s z.2.2⟩) id,Gb ih o ps t p q⟩
  | tup o=>
   unfold frz at e;dsimp only at e;obtain⟨a,t,rfl,l,q⟩:=h;cases p:qv (frz O n f) o with
   |none=>rw[p] at e;cases e
   | some ps=>
    rw[p] at e;cases e;exact⟨a,t,rfl,l.imp (λz=>⟨z.1,z.2.1,s z.2.2⟩) id,Gb ih o ps t p q⟩
  |dct=>cases e;exact B h
  |map ks o=>cases e
  |adr _=>cases e;unfold Xf at h ⊢;exact h
  |exn C=>cases e;exact E h
  |tab P=>cases e;unfold Xf at h ⊢;exact h
  |non=>cases e;unfold Xf at h ⊢;exact h
  |bl b=>cases e;unfold Xf at h ⊢;exact h
  |int i=>cases e;unfold Xf at h ⊢;exact h
  |str i=>cases e;unfold Xf at h ⊢;exact h
theorem MK{α β:Type}{f:α->Option β}:∀{l:List α}{r:List β},qv f l=Xy r->r.length=l.length
 |[],r,e=>by cases e;rfl
 | x::l,r,e=>by
  unfold qv at e;split at e
  ·rename_i p b c a;cases e;simp[MK a]
  ·cases e
theorem Ua{α β:Type}{f:α->Option β}:∀{l:List α}{r:List β}{k:Nat}{y:β},qv f l=Xy r->r[k]?=Xy y->∃x,l[k]?=Xy x/\f x=Xy y
 |[],r,k,y,e,h=>by cases e;simp at h
 | x::l,r,k,y,e,h=>by
  unfold qv at e;split at e
  ·rename_i p g a b;cases e;cases k with
   |zero=>simp at h;subst h;exact⟨x,by simp,a⟩
   |succ k=>obtain⟨z,c,d⟩:=Ua b ⇑h;exact⟨z,by simpa using c,d⟩
  ·cases e
def MQ{j:Nat->Hp->Prop}{r:R D}{Q:VK}(g:μ.length=n)(q:rM j K H QH μ (uB n r) Q):rM j K H QH μ r Q:=by
 cases r with
 |bad=>exact q
 |exc c O'=>exact q
 | ok d O'=>
  intro v l G x c h;obtain⟨ν,rfl⟩:=x.pre;have b:rM j K H QH μ (match frz O' n 8 d,qv (qv (frz O' n 8)) (O'.take n) with|some d',Xy O2=>.ok d' O2|_,_=>.bad) Q:=q;cases i:frz O' n 8 d with
  |none=>rw[i] at b;exact aj b
  | some d'=>
   cases f:qv (qv (frz O' n 8)) (O'.take n) with
   |none=>rw[i,f] at b;exact aj b
   | some O2=>
    rw[i,f] at b;have u:Ext H μ l μ:=⟨⟨[],by simp⟩,x.kept,λ_ m=>.inl m,x.there,x.tab⟩;have o:=c.len.symm;have w:oC K l QH μ O2:=by
     refine⟨?_,(dS.mp c.nd).1,λa m=>c.nh a (bt _ m),c.ht,λk a e=>?_⟩
     ·rw[MK f,bU,o,au,g];lia
     ·have y:=(ao.mp e).1;obtain⟨z,p,A,B,C⟩:=c.at_ k a (by rw[aK y];exact e);have s:k<O2.length:=by rw[MK f,bU,o,au,g];lia
      obtain⟨E,t,F⟩:=Ua f (am s);have:E=z:=by
       rw[jB,Kk 'd',A] at t;cases t;rfl
      subst this;exact⟨_,p,am s,B,Gb (Q_ c g 8) _ _ p F C⟩
    exact b v l μ u w (Q_ c g 8 d d' v i h)
end
def yU(F:ql):ql:=λds O=>uB O.length (F ds O)
def Callee.frz(c:Callee P w K mg base x k n F):Callee P w K mg base x k n (yU F):=
 c.imp λd O H a e Q b q=>MQ b.len q
noncomputable def P7(sc scope:c8)(N':List aB)(sl:n_):Bool:=
 (match scope.kind with|.function=>YP|_=>Y1)&&decide ((scope.names.map (·.1)).Nodup)&&(scope.names.all λy=>!(y.2 == .free)||sc.names.lookup y.1==Xy .cell||sc.names.lookup y.1==Xy .free) &&
 (N'.zipIdx.all λp=>!((scope.names.any λy=>y.1==p.1&&y.2 == .local)||(scope.names.any λy=>y.1==p.1&&y.2 == .cell))||sl.contains p.2)
def FF(h:P7 sc scope N' sl=YP):yt sc scope N' sl:=by
 unfold P7 at h;simp only[aY,decide_eq_true_eq,al] at h;obtain⟨⟨⟨a,b⟩,c⟩,d⟩:=h;refine⟨?_,b,λy f g=>?_,λi x j k=>?_⟩
 ·cases e:scope.kind<;>rw[e] at a<;>first|rfl|cases a
 ·have:=c y f;rw[g] at this;simpa using this
 ·have l:(x,i)∈N'.zipIdx:=by
   rw[List.mem_zipIdx_iff_getElem?];exact j
  have h:=d _ l;have n:((scope.names.any λy=>y.1==x&&y.2 == .local)||(scope.names.any λy=>y.1==x&&y.2 == .cell))=YP:=by
   rw[i9];exact k.imp (λm=>bA.mpr ⟨_,m,by simp⟩) λm=>bA.mpr ⟨_,m,by simp⟩
  rw[n] at h;simpa using h
structure Lg(mg:aB->Option ab)(x:aB)(cs:n_):Prop where
 ex:∃t,mg x=Xy (.str ⟨cs.toArray⟩ t)
section
variable{X:Cx}{Ex:Nat->Hp->Prop}{pos:Pos}{a b c e:aT}{ta:DE}{b_:St}{H:Hp}{QH μ:List ae}{O:Ow}
def ziP(h:Lg X.mg x cs)(d:Gl X x:=by rfl)(f:s9 x:=by decide):PD X Ex (.Name x pos) (dC (.str cs)):=by obtain⟨t,h⟩:=h.ex;exact zfq cs d h rfl f
def XO(O:Ow):D->R D
 |.int i=>.ok (.int (-i)) O
 |_=>.bad
def Ie(t:DE):DE:=λσ O=>(t σ O).bnd λx O1=>XO O1 x
def zlT(f:PD X Ex a ta):PD X Ex (.UnaryOp .USub a pos) (Ie ta):=
 sE (Yi Y_ f.out) λQH μ k O b_ H Q g h q=>rd.go g h q λd l v m n o x j r p=>by
  cases d with
  |int i=>unfold Xf at r;subst r;exact⟨i,rfl,post.here p j sP⟩
  |_=>exact aj p
def uy:Ow->D->D->R D:=λO x y=>match y with
 |.str _=>Ip O x y
 |_=>pZ BQ O x y
def v_:Ow->D->D->R D:=λO x y=>match y with
 | .str _=>match Ip O x y with
  |.ok (.bl b) O1=>.ok (.bl (!b)) O1
  |_=>.bad
 |_=>pZ DX O x y
def Rn(d:X.A.units+64<cLine):qZ X (cD .In) (λx y H Q=>AW X.K BQ x y H Q \/ ∃i j,x=.str i/\y=.str j/\Q (.bl (!(bJ j i 0 j.length 1).isEmpty)) H):=qZ.or (zhx d) zdF
def Rq:sS X Ex (λx y H Q=>AW X.K BQ x y H Q \/ ∃i j,x=.str i/\y=.str j/\Q (.bl (!(bJ j i 0 j.length 1).isEmpty)) H) uy:=by
 intro H QH μ O x y v w Q c d f q;unfold uy at q;split at q
 ·exact .inr (zhL H QH μ O _ _ v w Q c d f q)
 ·exact .inl (Eg H QH μ O x y v w Q c d f q)
def SA(d:X.A.units+64<cLine):qZ X (cD .NotIn) (λx y H Q=>AW X.K DX x y H Q \/ ∃i j,x=.str i/\y=.str j/\Q (.bl (!(!(bJ j i 0 j.length 1).isEmpty))) H):=qZ.or (zeJ d) z7E
def Tf:sS X Ex (λx y H Q=>AW X.K DX x y H Q \/ ∃i j,x=.str i/\y=.str j/\Q (.bl (!(!(bJ j i 0 j.length 1).isEmpty))) H) v_:=by
 intro H QH μ O x y v w Q c d f q;unfold v_ at q;split at q
 ·rename_i g;cases x with
  | str i=>
   unfold Xf at d f;subst d;subst f;refine .inr ⟨_,_,rfl,rfl,post.here q c ?_⟩;have e:(⟨g.toArray⟩:aB).length=g.length:=by show g.toArray.size=_;simp
   rw[e];exact vS
  |_=>exact aj q
 ·exact .inl (Eg H QH μ O x y v w Q c d f q)
end
section
variable{X:Cx}{Xa:List (ae×Obj)}{b_:St}{H:Hp}{s:ag}
def Inv.turns(ch:List ae)(I:L2.Inv X Xa b_ H s)(k:∀b o,b∉ch->s.heap.get? b=Xy o->h'.get? b=Xy o)(d:∀b∈ch,tF X Xa H b)(j:0<t':=by first|assumption|exact Inv.tk ‹_›):L2.Inv X Xa b_ H { s with heap:=h',toks:=t' }:=by
 have f:∀b u,H b=Xy u->b∉ch:=λb u e z=>by rw[(d b z).1] at e;cases e
 have g:Un (vI X.stack) ch H H s.heap h':=⟨λb o e _ _ n=>k b o n e,λb o e _ _ n=>⟨o.slots,k b o n e⟩,λ_ _ _ n _=>n,λb o e n=>⟨o,k b o n e⟩,λ_ _ e=>e,λ_ _ _ e=>e,λb l e=>⟨#[],by rw[e];simp⟩⟩;have a:HOk X.prog X.w H h':=λb u e=>(I.hok b u e).stay (λc v h q=>k c v (by
  rcases h with z|z
  ·rw[z];exact f b u e
  ·exact f c _ z) q) (λ_ q=>q) λ_ _ q=>q
 exact I.call g a I.bare λb i=>let ⟨_,f1,_,f3,f4,f5⟩:=d b i;⟨f3,f1,f4,f5⟩
end
def Itz(K:ai)(l m:ae):It:=
 ⟨λi H=>∃xs ys x y,rn K H l xs/\rn K H m ys/\xs[i]?=Xy x/\ys[i]?=Xy y,
   λi H v H'=>∃p x y,H p=XV/\v=.ref p/\(∀xs,rn K H l xs->xs[i]?=Xy x)/\(∀ys,rn K H m ys->ys[i]?=Xy y)/\H'=upd H p (.tup [x,y]),
   λi H=>∃xs ys,rn K H l xs/\rn K H m ys/\(xs.length<=i\/ys.length<=i)⟩
def ph(K:ai)(src:Src)(a:ae)(H:Hp)(QH μ:List ae):Prop:=∀p9 H' e_ O',Mv H QH μ H' p9 e_->oC K H' p9 e_ O'->∃ds vs,rn K H' a vs/\oD K H' p9 e_ ds vs/\∀i,src.get O' i=ds[i]?
section
variable{K:ai}{H:Hp}{QH μ:List ae}
def ph.own(d:μ[k]?=Xy a):ph K (.own k) a H QH μ:=by
 intro o p q e m c;obtain⟨f,rfl⟩:=m.pre;have g:(μ++f)[k]?=Xy a:=by rw[aK (ao.mp d).1];exact d
 obtain⟨b,h,j,l,n⟩:=c.at_ k a g;exact⟨b,h,.of l,n,λi=>by show(match e[k]? with|some b=>b[i]?|none=>XV)=_;rw[j]⟩
def ph.mv(h:ph K src a H QH μ)(e:Mv H QH μ H1 ym g_):ph K src a H1 ym g_:=λb d f g m c=>h b d f g (e.trans m) c
def oG.zip(E:ph K s1 a H QH μ)(F:ph K s2 b H QH μ):oG K (Itz K a b) (.zip s1 s2) H QH μ:=by
 intro l n o e m c i;obtain⟨G,f,g,q,I⟩:=E l n o e m c;obtain⟨J,h,j,r,L⟩:=F l n o e m c;show match (match s1.get e i,s2.get e i with|some x,Xy y=>Xy (D.tup [x,y])|_,_=>XV) with|some d=>_|none=>_
 rw[I,L];cases s:G[i]? with
 | none=>
  exact⟨f,h,g,j,.inl (by rw[<- q.length];exact a9.mp s)⟩
 | some x=>
  cases t:J[i]? with
  | none=>
   exact⟨f,h,g,j,.inr (by rw[<- r.length];exact a9.mp t)⟩
  | some y=>
   obtain⟨v,u,M⟩:=q.get s;obtain⟨w,A,N⟩:=r.get t;refine⟨⟨f,h,v,w,g,j,u,A⟩,λz R O=>?_⟩;obtain⟨p,S,T,k,rfl,P,Q,rfl⟩:=O;have B:=P f g;rw[u] at B;cases B;have C:=Q h j;rw[A] at C;cases C;exact⟨.laid k,c.laid k,Xf.newT c k (.cons M (.cons N .nil))⟩
end
noncomputable def Iy:D->Option Src
 |.lst ds=>Xy (.val ds)
 |.own k=>Xy (.own k)
 |_=>XV
def zpv(t:DA):DI:=λσ O=>(t σ O).bnd λxs O1=>match xs with
 | [x,y]=>match Iy x,Iy y with
  |some p,Xy q=>.ok (.zip p q) O1
  |_,_=>.bad
 |_=>.bad
section
variable{X:Cx}{Ex:Nat->Hp->Prop}{c e:aT}{Xa:List (ae×Obj)}{H:Hp}{s:ag}{QH μ:List ae}{O:Ow}
def zeH:bC "zip" = Xy (.type "zip"):=by boot_by_name
def Y9{i j:Nat}{x y:aB}{d f g:Pos}{h:Nat}(k:X.calm=YP)(b:X.N.Nodup)(l:X.N[i]?=Xy x)(m:X.N[j]?=Xy y)(n:Loc X.env.scope x)(o:Loc X.env.scope y)
  (p:X.fn x=YP\/X.env.scope.names.lookup x=Xy .local) (a:X.fn y=YP\/X.env.scope.names.lookup y=Xy .local):PG X (.Tuple [.Name x d,.Name y f] h g) ((Tg.two i j).rd X.K):=
 Zz k (Ut (Mj b l n p) (Ut (Mj b m o a) zjr))
def x9:List D->Option (List Int)
 |[]=>Xy []
 |.int i::r=>(x9 r).map (i :: ·)
 |_=>XV
theorem Mi:∀{ds:List D}{a:List V}{b:List Int},oD K H QH μ ds a->x9 ds=Xy b->a=b.map V.int
 |[],a,ys,h,e=>by unfold oD at h;subst h;cases e;rfl
 | d::ds,a,ys,h,e=>by
  obtain⟨v,r,rfl,f,g⟩:=h;cases d with
  | int i=>
   unfold x9 at e;cases q:x9 ds with
   |none=>rw[q] at e;cases e
   | some zs=>
    rw[q] at e;cases e;unfold Xf at f;subst f;rw[Mi g q];rfl
  |_=>cases e
def AA:Ow->List D->R D:=λO xs=>match xs with
 | [.str cs]=>match lj ⟨cs.toArray⟩ with
  |some n=>if cs.length<=640 then .ok (.int n) O else .bad
  |none=>.bad
 |xs=>Ld O xs
def zcu:oN X (.type "int") (λxs H Q=>∃x n,xs=[.str x]/\lj x=Xy n/\x.length<=640/\Q (.int n) H):=by intro Xa s d H xs f Q I r h;obtain⟨x,n,rfl,a,b,q⟩:=h;obtain⟨u,rfl,t,rfl⟩:=uO r;exact PySem.W.KIN.call_text a b ⟨.int _,H,I.tok _,⟨_,rfl⟩,q⟩
noncomputable def QL:List V->Hp->VK->Prop:=λxs H Q=>((∃i,xs=[.int i]/\Q (.int i) H) \/ ∃k,xs=[.bl k]/\Q (.int (if k then 1 else 0)) H) \/ ∃x n,xs=[.str x]/\lj x=Xy n/\x.length<=640/\Q (.int n) H
def zd8:oN X (.type "int") QL:=oN.or zeh zcu
def zjp:vA X Ex QL AA:=by
 intro H QH μ O i b Q c d q;unfold AA at q;split at q
 ·rename_i f;obtain⟨v,rfl,a⟩:=uu d;unfold Xf at a;subst a;split at q
  ·rename_i n g;obtain⟨h,q⟩:=post.ite q;refine .inr ⟨_,n,rfl,g,?_,post.here q c sP⟩;show f.toArray.size<=640;simpa using h
  ·exact aj q
 ·exact .inl (ZZ H QH μ O _ b Q c d q)
end
def Callee.self(c:Callee P w K mg base x k n F):Callee P w K mg base x k n F:=c
section
variable{X:Cx}{Ex:Nat->Hp->Prop}{pos HK:Pos}{e o i:aT}{ti:DE}{Xa:List (ae×Obj)}{b_:St}{H:Hp}{s:ag}{QH μ:List ae}{O:Ow}
def zfm:vm X Ex (.Pass pos) qS:=zX zja λQH μ c O E b_ H a b q=>q b_ H μ .refl a b
def B5(tab:List (Int×Int)):List (Key×V):=tab.map λkv=>(gT kv.1,V.int kv.2)
noncomputable def u_(tab:List (Int×Int))(i:Int):Option Int:=(tab.find? λkv=>kv.1==i).map (·.2)
def Fb(tab:List (Int×Int))(i:Int):Option Int:=match uq (AJ [] (B5 tab)) (gT i) with
 |some (.int v)=>Xy v
 |_=>XV
def QB(at_:List (Int×Int)->Int->Option Int)(tab:List (Int×Int))(t:DE):DE:=λσ O=>(t σ O).bnd λx O1=>match x with
 | .int i=>match at_ tab i with
  |some v=>.ok (.int v) O1
  |none=>.bad
 |_=>.bad
def Fk:List (Int×Int)->DE->DE:=QB Fb
def Fl:List (Int×Int)->DE->DE:=QB u_
theorem V0:∀{tab:List (Int×Int)},Q (tab.map λkv=>(V.int kv.1,V.int kv.2)) H->FI (tab.map λkv=>(tC (.int kv.1),tC (.int kv.2))) σ H Q
 |[],h=>h
 | kv::r,h=>by
  show FI (r.map λkv=>(tC (.int kv.1),tC (.int kv.2))) σ H λa b=>Q ((V.int kv.1,V.int kv.2)::a) b;exact V0 (tab:=r) h
def ZP(tab:List (Int×Int))(h:HQ X HK keys values AU)(c:AU=tab.map λg=>(tC (.int g.1),tC (.int g.2)))(m:keys.all (·.isSome)=YP)(n:keys.length=values.length)(t:keys≠[])(u:keys.length<=15)(x:tab.length<=15)
  (y:X.A.units+1<cLine) (z:PD X Ex i ti) (B:DV i):PD X Ex (.Subscript (.Dict keys values HK) i pos) (Fk tab ti):=
 sE (zjF y (zix h m n t u) z.out B) λQH μ M O b_ H Q C k q=>λp f=>by
  subst c;refine V0 ⟨rZ,B5 tab,by simp[B5,kV],by simpa [B5] using x,?_⟩;rw[zil];have l:Ext H μ (upd H p (.dK (AJ [] (B5 tab)))) μ:=.laid f;refine rd.go (C.ext l) (k.laid f) (post.ext q l) λd D v E F N G I r a=>?_;cases d with
  | int j=>
   unfold Xf at r;subst r;have a:rM Ex X.K E QH F (match Fb tab j with|some v=>.ok (.int v) D|none=>.bad) Q:=a;cases b:Fb tab j with
   |none=>rw[b] at a;exact aj a
   | some v=>
    rw[b] at a;have J:uq (AJ [] (B5 tab)) (gT j)=Xy (.int v):=by
     unfold Fb at b;split at b
     ·rename_i w L;cases b;exact L
     ·cases b
    refine⟨p,.int v,rfl,.inl ⟨AJ [] (B5 tab),gT j,.inl (G.keep p _ rZ (k.not_in f).2),rfl,J.symm⟩,post.here a I sP⟩
  |_=>exact aj a
noncomputable def Io:List DictEntry->List (Int×Int)->Bool
 |[],[]=>YP
 |e::es,(k,v)::r=>(match e.key with|.int i _=>i==k|_=>Y1)&&(e.hash==hashInt k)&&(match e.val with|.int i _=>i==v|_=>Y1)&&Io es r
 |_,_=>Y1
def Ik(o:Obj)(tab:List (Int×Int)):Bool:=(match o.cls with|.type n=>n == "dict"|_=>Y1)&&o.dict.isNone&&o.slots.isEmpty&&decide ((tab.map (·.1)).Nodup)&&(match o.data with|.dict es _=>Io es.toList tab|_=>Y1)
structure B6(K:ai)(mg:aB->Option ab)(x:aB)(tab:List (Int×Int)):Prop where
 ex:∃e o,mg x=Xy (.ref e)/\K.lookup e=Xy o/\Ik o tab=YP/\(e==sysModules)=Y1
theorem Vq:∀{f:List DictEntry}{tab:List (Int×Int)},Io f tab=YP->∃a:List (Int×ab),Pairs (intKind P w) f a/\(∀e∈f,∃k,(intKind P w).is k e.key=YP/\e.hash=(intKind P w).hash k)/\a.map (·.1)=tab.map (·.1)/\
  ∀i,(valueAt a i).isSome=(u_ tab i).isSome/\∀v,u_ tab i=Xy v->∃t,valueAt a i=Xy (.int v t)
 |[],[],_=>⟨[],.nil,by simp,rfl,λi=>⟨rfl,λv h=>by cases h⟩⟩
 |[],_::_,h=>by cases h
 |_::_,[],h=>by cases h
 | e::f,(k,v)::r,h=>by
  obtain⟨b,x,y⟩:=e;unfold Io at h;simp at h;obtain⟨⟨⟨c,g⟩,d⟩,z⟩:=h;split at c
  ·rename_i i t;split at d
   ·rename_i j u;have c:i=k:=⇑c
    have g:b=hashInt k:=⇑g
    have d:j=v:=⇑d
    subst c d;obtain⟨a,p,A,B,l⟩:=Vq z;have n:(intKind P w).is i (.int i t)=YP:=by show iF i (.int i t)=YP;simp[iF]
    refine⟨(i,.int j u)::a,.cons n rfl p,λe he=>?_,by simp[B],λq=>?_⟩
    ·rcases aw.mp he with rfl|he
     ·exact⟨i,n,g⟩
     ·exact A e he
    ·unfold valueAt u_;by_cases m:i=q
     ·subst m;simp
     ·have C:(decide ((i,n8 j u).1=q))=Y1:=⇑m
      have D:((i,j).1==q)=Y1:=⇑m
      rw[eL,eL,C,D];exact l q
   ·cases d
  ·cases c
def zfi{P:aP}{w:aZ}{o:Obj}{tab:List (Int×Int)}(h:Ik o tab=YP):∃f:Int->Option ab,(∀(b:a7)(e:ae),b.get? e=Xy o->b.MapOf (intKind P w) e f)/\∀i,(f i).isSome=(u_ tab i).isSome/\∀v,u_ tab i=Xy v->∃t,f i=Xy (.int v t):=by
 obtain⟨m,k,l,c⟩:=o;unfold Ik at h;simp at h;obtain⟨⟨⟨⟨a,q⟩,r⟩,u⟩,d⟩:=h;split at a
 ·rename_i n;have a:n = "dict":=⇑a
  split at d
  ·rename_i x y;obtain⟨z,p,A,B,g⟩:=Vq d;refine⟨valueAt z,λb e j=>?_,g⟩;refine Heap.DictOf.mapOf ⟨_,x,y,j,⟨?_,?_,?_⟩,rfl,?_,p,by rw[B];exact u⟩
   ·show eG n=_;rw[a]
   ·simpa using q
   ·simpa using r
   ·intro e j;exact A e ⇑j
  ·cases d
 ·cases a
def R6(h:B6 X.K X.mg x tab):∃e,X.mg x=Xy (.ref e)/\(e==sysModules)=Y1/\∃f:Int->Option ab,(∀(Xa:List (ae×Obj))(b_:St)(H:Hp)(s:ag),L2.Inv X Xa b_ H s->s.heap.MapOf (intKind X.prog X.w) e f)/\
  ∀i,(f i).isSome=(u_ tab i).isSome/\∀v,u_ tab i=Xy v->∃t,f i=Xy (.int v t):=by obtain⟨e,o,b,c,d,g⟩:=h.ex;obtain⟨f,m,a⟩:=zfi d;exact⟨e,b,g,f,λXa b_ H s I=>m _ e (I.kIn e o c),a⟩
def M9(i:Int)(t:Tok):(intKind P w).is i (.int i t)=YP:=by show iF i (.int i t)=YP;simp[iF]
def zjA(h:B6 X.K X.mg x tab)(B:Gl X x)(C:PD X Ex i ti)(D:DV i)(E:s9 x:=by decide):PD X Ex (.Subscript (.Name x p) i pos) (Fl tab ti):=by
 obtain⟨e,F,V,f,G,k⟩:=R6 h;refine⟨?_⟩;rintro Xa s b_ H Q I ⟨QH,μ,W,O,J,L,q⟩;refine Mu gZ.lookup D (Jh (v:=.ref e) B F rfl E Xa s b_ H (λv l=>v=.ref e/\l=H) I ⟨rfl,rfl⟩ |> λz=>qc z λu N ⟨v,l,P,m,R,S⟩=>?_);subst R S;cases m;refine qc (C.out Xa N b_ l _ P (rd.go J L q (Q1:=λy b=>∃QH c g d,oC X.K b QH c g/\Xf X.K b QH c d y/\rM Ex X.K b QH c (match d with|.int i=>(match u_ tab i with|some v=>.ok (.int v) g|none=>.bad)|_=>.bad) Q)
  λd g y b c Y Z n r a=>⟨QH,c,g,d,n,r,a⟩)) λu T ⟨y,b,A,m,QH,c,g,d,n,r,a⟩=>?_
 have M:=G Xa b_ b T A;cases d with
 | int j=>
  unfold Xf at r;subst r;obtain⟨t,rfl⟩:=m;have a:rM Ex X.K b QH c (match u_ tab j with|some v=>.ok (.int v) g|none=>.bad) Q:=a;cases w:u_ tab j with
  |none=>rw[w] at a;exact aj a
  | some v=>
   rw[w] at a;obtain⟨t',U⟩:=(k j).2 v w;exact⟨M.typeIs,kh (M9 j t) M U ⟨.int v,b,A.tok _,⟨_,rfl⟩,post.here a n sP⟩⟩
 |_=>exact aj a
def AH(neg:Bool)(tab:List (Int×Int))(t:DE):DE:=λσ O=>(t σ O).bnd λx O1=>match x with
 |.int i=>.ok (.bl (if neg=YP then !(u_ tab i).isSome else (u_ tab i).isSome)) O1
 |_=>.bad
def T8(a:Bool)(h:B6 X.K X.mg x tab)(B:Gl X x)(C:PD X Ex i ti)(D:s9 x:=by decide):PC X (if a=YP then .NotIn else .In) i (.Name x p) (rd Ex X.K (AH a tab ti)):=by
 obtain⟨e,E,A,f,F,n⟩:=R6 h;rintro Xa s b_ H Q I ⟨QH,μ,W,O,G,J,q⟩;refine qc (C.out Xa s b_ H _ I (rd.go G J q (Q1:=λy c=>∃QH g k d,oC X.K c QH g k/\Xf X.K c QH g d y/\rM Ex X.K c QH g (match d with|.int i=>.ok (.bl (if a=YP then !(u_ tab i).isSome else (u_ tab i).isSome)) k|_=>.bad) Q)
  λd k y c g Y Z l r b=>⟨QH,g,k,d,l,r,b⟩)) λu L ⟨y,c,N,P,QH,g,k,d,l,r,b⟩=>?_
 refine qc (Jh (v:=.ref e) B E rfl D Xa L b_ c (λv R=>v=.ref e/\R=c) N ⟨rfl,rfl⟩) λw S ⟨v,m,z,T,U,V⟩=>?_;subst U V;cases T;have M:=F Xa b_ m S z;cases d with
 | int j=>
  unfold Xf at r;subst r;obtain⟨t,rfl⟩:=P;have b:rM Ex X.K m QH g (.ok (.bl (if a=YP then !(u_ tab j).isSome else (u_ tab j).isSome)) k) Q:=b;rw[<- (n j).1] at b;cases a with
  |false=>exact wpAny_in_of (M9 j t) A M ⟨.bl _,m,z.tok _,rfl,post.here b l vS⟩
  |true=>exact wpAny_notIn_of (M9 j t) A M ⟨.bl _,m,z.tok _,rfl,post.here b l vS⟩
 |_=>exact aj b
def zej(h:B6 X.K X.mg x tab)(a:Gl X x)(b:PD X Ex i ti)(c:s9 x:=by decide)(d:behindInMarks .NotIn (.Name x p)=Y1:=by rfl):PD X Ex (.Compare i [.NotIn] [.Name x p] pos) (AH YP tab ti):=⟨zkt (T8 YP h a b c) d⟩
def Yt(a:oE X.K H QH μ σ b_)(b:oC X.K H QH μ O)(q:yB Ex X.K H QH μ (qd td σ O) Q):tB (rd Ex X.K td) b_ H Q:=
 Ue (λQH μ σ O b_ H Q a b q=>⟨QH,μ,σ,O,a,b,q⟩) QH μ σ O b_ H Q a b q
def zaU(h:B6 X.K X.mg x tab)(a:Gl X x)(b:PD X Ex i ti)(c:s9 x:=by decide)(d:behindInMarks .NotIn (.Name x p)=Y1:=by rfl):sj X Ex (.Compare i [.NotIn] [.Name x p] pos) (qd (AH YP tab ti)):=
 I_ (zky (T8 YP h a b c) d) λQH μ j O b_ H Q f g q=>Yt f g q
end
end DL
namespace DL
open PySem L2 PyProof.Rows
noncomputable def uY:List D->Option l_
 |[]=>Xy []
 |.str cs::r=>(uY r).map (cs :: ·)
 |_=>XV
section
variable{H:Hp}{QH μ:List ae}
theorem FW{K:ai}:∀{ds:List D}{a:List V}{b:l_},oD K H QH μ ds a->uY ds=Xy b->a=b.map λcs=>V.str ⟨cs.toArray⟩
 |[],a,ys,h,e=>by unfold oD at h;subst h;cases e;rfl
 | d::ds,a,ys,h,e=>by
  unfold oD at h;obtain⟨v,r,rfl,c,f⟩:=h;cases d with
  | str cs=>
   unfold uY at e;cases q:uY ds with
   |none=>rw[q] at e;cases e
   | some zs=>
    rw[q] at e;cases e;unfold Xf at c;subst c;rw[FW f q];rfl
  |_=>cases e
def zlQ:bC "len" = Xy (.builtin "len"):=by boot_by_name
def Y7:bC "all" = Xy (.builtin "all"):=by boot_by_name
def Y3:bC "any" = Xy (.builtin "any"):=by boot_by_name
def RC:bC "int" = Xy (.type "int"):=by boot_by_name
def Rx:bC "str" = Xy (.type "str"):=by boot_by_name
def T7:bC "tuple" = Xy (.type "tuple"):=by boot_by_name
def zj1:bC "list" = Xy (.type "list"):=by boot_by_name
def Zt:bC "max" = Xy (.builtin "max"):=by boot_by_name
def LW:bC "min" = Xy (.builtin "min"):=by boot_by_name
def JG:bC "sorted" = Xy (.builtin "sorted"):=by boot_by_name
def J9:bC "isinstance" = Xy (.builtin "isinstance"):=by boot_by_name
def ziL:bC "bool" = Xy (.type "bool"):=by boot_by_name
def zjf:bC "dict" = Xy (.type "dict"):=by boot_by_name
end
end DL
namespace DL
def zje{α:Type}(a ds:List α)(d:α):(a++d::ds)[a.length]?=Xy d:=by simp
theorem U9:∀(ds a Xo:List D)(f:Nat),ds.length<=f->(∀d∈ds,∀Xo:List D,Xo.length<4000000->step d O Xo=.ok (Xo++g d) O)->Xo.length+(ds.flatMap g).length+ds.length<4000000->
  rg (.val (a++ds)) step f a.length O Xo=.ok (Xo++ds.flatMap g) O
 | [],a,Xo,f,_,_,_=>by
  cases f<;>(unfold rg;simp[Src.get])
 |d::ds,a,Xo,0,h,_,_=>by simp at h
 | d::ds,a,Xo,f+1,h,hs,hl=>by
  unfold rg;have e:Src.get (.val (a++d::ds)) O a.length=Xy d:=zje a ds d;rw[e];simp only[bX,au,aW] at hl;show((step d O Xo).bnd λb c=>rg (.val (a++d::ds)) step f (a.length+1) c b)=_;rw[hs d ar Xo 'd'];show rg (.val (a++d::ds)) step f (a.length+1) O (Xo++g d)=_;have:=U9 ds (a++[d]) (Xo++g d) f ⇑h (λi j=>hs i (ak _ j)) (by rw[au];lia);rw[aX,List.singleton_append,au,fz] at this;rw[this];simp
def MZ(n:it0 σ O=.ok (.val ds) O)(u:ds.length<1900000)
  (q:∀d∈ds,uc ts ((qM (qM (σ++aU ext XV) [i]) [i]).set i (Xy d)) O=.ok (p d) O) (r:∀d∈ds,p d=YP->te ((qM (qM (σ++aU ext XV) [i]) [i]).set i (Xy d)) O=.ok (e d) O) (o:Bool):
  qp o ext it0 (.one i) ts [] te σ O=xA o (.ok ((ds.filter p).map e) O):=by
 unfold qp BB;rw[n];show xA o (zp (rg (.val ds) _ ds.length 0 O []))=_;have c:∀d∈ds,∀a:List D,a.length<4000000->zV ⟨it0,.one i,ts⟩ [] te (qM (σ++aU ext XV) (qT [⟨it0,.one i,ts⟩])) d O a=.ok (a++(if p d=YP then [e d] else [])) O:=by
  intro d j a s;show(match Tg.put (.one i) d (qM (qM (σ++aU ext XV) [i]) [i]) with|some rq=>(uc ts rq O).bnd λb k=>if b=YP then u9 [] te rq k a else .ok a k|none=>.bad)=_;show(uc ts ((qM (qM (σ++aU ext XV) [i]) [i]).set i (Xy d)) O).bnd _=_;rw[q d j];show(if p d=YP then u9 [] te _ O a else .ok a O)=_;by_cases f:p d=YP
  ·rw[Kk f,Kk f];unfold u9;rw[r d j f];show(if a.length<4000000 then _ else _)=_;rw[Kk s]
  ·rw[Ko f,Ko f];simp
 have m:∀l:List D,(l.flatMap λd=>if p d=YP then [e d] else [])=(l.filter p).map e:=by
  intro l
  induction l with
  |nil=>rfl
  | cons x l ih=>
   rw[bX,ih,cT];by_cases h:p x=YP
   ·rw[Kk h,Kk h];rfl
   ·rw[Ko h,Ko h];rfl
 have g:((ds.filter p).map e).length<=ds.length:=by rw[aq];exact aQ _ _
 have w:=U9 ds [] [] ds.length (aE _) c (by rw[m];simp at g ⊢;lia);rw[eC,m,eC] at w;have t:rg (.val ds) (zV ⟨it0,.one i,ts⟩ [] te (qM (σ++aU ext XV) (qT [⟨it0,.one i,ts⟩]))) ds.length 0 O []=.ok ((ds.filter p).map e) O:=w;rw[t];rfl
theorem UN(I:Nat->Sg->Ow->Prop)(h:∀i σ O d,I i σ O->ds[i]?=Xy d->∃σ' a,step d σ O=.nx σ' a/\I (i+1) σ' a):
  ∀(f i:Nat)(σ:Sg)(O:Ow),I i σ O->ds.length<=i+f->i<=ds.length->∃σ' a,ud (.val ds) step f i σ O=.nx σ' a/\I ds.length σ' a
 | 0,i,σ,O,hI,h1,h2=>by
  have:i=ds.length:=by lia
  subst this;refine⟨σ,O,?_,hI⟩;unfold ud;have e:Src.get (.val ds) O ds.length=XV:=by simp[Src.get]
  rw[e]
 | f+1,i,σ,O,hI,h1,h2=>by
  unfold ud;have b:Src.get (.val ds) O i=ds[i]?:=rfl;rw[b];cases e:ds[i]? with
  | none=>
   have:i=ds.length:=by have:=a9.mp e;lia
   subst this;exact⟨σ,O,rfl,hI⟩
  | some d=>
   obtain⟨σ',a,c,g⟩:=h i σ O d hI e;dsimp only;rw[c];exact UN I h f (i+1) σ' a g 'd' (by have:=(ao.mp e).1;lia)
def vt(n:Nat):D->Bool
 |.own k=>decide (k<n)
 |.lst _=>Y1
 |.tup _=>Y1
 |.map _ _=>Y1
 |_=>YP
def uZ(O:Ow):Prop:=∀c∈O,∀d∈c,vt O.length d=YP
def AM(h:vt n d=YP):frz O n f d=Xy d:=by
 cases d with
 | own k=>
  have h:k<n:=by simpa [vt] using h
  cases f<;>(unfold frz;dsimp only;rw[Kk h])
 |lst ds=>cases h
 |tup ds=>cases h
 |map _ _=>cases h
 |_=>cases f<;>rfl
theorem vC{α:Type}{f:α->Option α}:∀{l:List α},(∀x∈l,f x=Xy x)->qv f l=Xy l
 |[],_=>rfl
 | x::l,h=>by
  unfold qv;rw[h x ar,vC λy a=>h y (ak _ a)]
def JA{a:Ow}{d:D}{cs:List D}(b:∀c∈a,∀d∈c,vt a.length d=YP)(X:Ow)(h:frz (a++X) a.length 8 d=Xy (.lst cs)):uB a.length (.ok d (a++X))=.ok (.lst cs) a:=by
 unfold uB;dsimp only;rw[h];have:(a++X).take a.length=a:=by simp
 rw[this,vC λc e=>vC λd f=>AM (b c e d f)]
section
variable{σ σ':Sg}{O O1 O2:Ow}{t u ta tb:DE}{tA:DA}{x y:D}{b:Bool}{ds:List D}
def pX(h:t σ O=.ok x O1):a_ t f_ σ O=.ok [x] O1:=by show((t σ O).bnd _)=_;rw[h];rfl
def qE(a:t σ O=.ok x O1)(c:u σ O1=.ok y O2):a_ t (a_ u f_) σ O=.ok [x,y] O2:=by show((t σ O).bnd _)=_;rw[a];show((a_ u f_ σ O1).bnd _)=_;rw[pX c];rfl
def Cw(a:t σ O=.ok x O1)(c:tA σ O1=.ok ds O2):a_ t tA σ O=.ok (x::ds) O2:=by show((t σ O).bnd _)=_;rw[a];show((tA σ O1).bnd _)=_;rw[c];rfl
def vQ(h:tA σ O=.ok ds O1)(a:ds.length=n):j_ n F tA σ O=F ds O1:=by show((tA σ O).bnd _)=_;rw[h];show(if ds.length=n then _ else _)=_;rw[Kk a]
def xH(h:tA σ O=.ok ds O1):pT f tA σ O=f O1 ds:=by show((tA σ O).bnd _)=_;rw[h];rfl
def rN(a:ta σ O=.ok x O1)(c:tb σ O1=.ok y O2):c_ f ta tb σ O=f O2 x y:=by show((ta σ O).bnd _)=_;rw[a];show((tb σ O1).bnd _)=_;rw[c];rfl
def rO(h:t σ O=.ok (.bl b) O1):qd t σ O=.ok b O1:=by show((t σ O).bnd _)=_;rw[h];rfl
def sF(h:t σ O=.ok (.bl b) O1):qH t σ O=.ok b O1:=by show((t σ O).bnd _)=_;rw[h];rfl
def vg(h:c σ O=.ok b O1):sO c σ O=.ok (!b) O1:=by show((c σ O).bnd _)=_;rw[h];rfl
def tu(h:t σ O=.ok (.lst ds) O1):pY t σ O=.ok (.val ds) O1:=by show((t σ O).bnd _)=_;rw[h];rfl
def xb(h:t σ O=.ok (.tup ds) O1):pY t σ O=.ok (.val ds) O1:=by show((t σ O).bnd _)=_;rw[h];rfl
def yF(h:t σ O=.ok x O1):p_ i t σ O=.nx (σ.set i (Xy x)) O1:=by show((t σ O).bnS _)=_;rw[h];rfl
def rY(h:t σ O=.ok x O1):p8 t σ O=.rt x O1:=by show((t σ O).bnS _)=_;rw[h];rfl
def Js(h:t σ O=.ok x O1):sY t σ O=.nx σ O1:=by show((t σ O).bnS _)=_;rw[h];rfl
def tI(h:c σ O=.ok b O1):qQ c a d σ O=if b=YP then a σ O1 else d σ O1:=by show((c σ O).bnS _)=_;rw[h];rfl
def tj(h:a σ O=.nx σ' O1):o_ a d σ O=d σ' O1:=by show(match a σ O with|.nx σ' O'=>_|r=>r)=_;rw[h]
def Cv(h:a σ O=.rt x O1):o_ a d σ O=.rt x O1:=by show(match a σ O with|.nx σ' O'=>_|r=>r)=_;rw[h]
def Mm(h:it σ O=.ok src O1):sJ it g body σ O=ud src (λd σ O=>match g.put d σ with|some σ'=>body σ' O|none=>.bad) (src.size O1) 0 σ O1:=by show((it σ O).bnS _)=_;rw[h];rfl
def zc(h:tA σ O=.ok [.int (n:Nat)] O1)(c:n<100000):tM tA σ O=.ok (.val ((aV n).map λ(i:Nat)=>D.int (i:Int))) O1:=by
 have a:-1000000<=((n:Nat):Int)/\((n:Nat):Int)<=1000000:=by constructor<;>lia
 unfold tM;rw[h];dsimp only[R.bnd];rw[Kk a];unfold FK;have d:(((n:Nat):Int)-0).toNat=n:=by lia
 congr 2;refine e8 λi _=>?_;rw[Int.zero_add]
def Jt(h:cs.length<=4000000):qJ O [.str cs]=.ok (.int cs.length) O:=by show(if cs.length<=4000000 then R.ok (D.int cs.length) O else R.bad)=_;rw[Kk h]
def Sb{cs:n_}{i:Nat}(h:cs.length<=4000000)(a:i<cs.length):qw O (.str cs) (.int (i:Int))=.ok (.str [cs[i]]) O:=by show(if cs.length<=4000000 then (match L2.atI cs (i:Int) with|some ch=>R.ok (D.str [ch]) O|none=>R.bad) else R.bad)=_;rw[Kk h,L2.atI_nat (am a)]
def Jp(a:i<ds.length):qw O (.tup ds) (.int (i:Int))=.ok ds[i] O:=by show(match L2.atI ds (i:Int) with|some d=>R.ok d O|none=>R.bad)=_;rw[L2.atI_nat (am a)]
def Mt(a:i<ds.length):qw O (.lst ds) (.int (i:Int))=.ok ds[i] O:=by show(match L2.atI ds (i:Int) with|some d=>R.ok d O|none=>R.bad)=_;rw[L2.atI_nat (am a)]
end
theorem UB(O:Ow)(n:Nat):∀l:List Int,qv (q0 O n) (l.map D.int)=Xy (l.map jO)
 |[]=>rfl
 | x::l=>by
  have e:q0 O n (.int x)=Xy (.int x):=by cases n<;>rfl
  show qv (q0 O n) (D.int x::l.map D.int)=_;unfold qv;rw[e,UB O n l];rfl
def zkA(O:Ow)(l:List Int):pZ rQ O (.lst (l.map D.int)) (.lst [])=.ok (.bl l.isEmpty) O:=by
 unfold pZ py;have e:q0 O 8 (.lst (l.map D.int))=Xy (.list (l.map jO)):=by
  show(qv (q0 O 7) (l.map D.int)).map ef=_;rw[UB];rfl
 rw[e];cases l<;>rfl
theorem Tz{α:Type}{src:Src}{step:D->Ow->List D->R (List D)}{O:Ow}{inj:α->D}{g:α->List D}{c:List α}(j:∀i,src.get O i=(c.map inj)[i]?):∀(ds b:List α)(Xo:List D)(f:Nat),c=b++ds->ds.length<=f->
  (∀a∈ds,∀Xo:List D,Xo.length<4000000->step (inj a) O Xo=.ok (Xo++g a) O)->Xo.length+(ds.flatMap g).length+ds.length<4000000->rg src step f b.length O Xo=.ok (Xo++ds.flatMap g) O
 | [],b,Xo,f,ha,_,_,_=>by
  have e:src.get O b.length=XV:=by rw[j,ha];simp
  cases f<;>(unfold rg;rw[e];simp)
 |d::ds,b,Xo,0,_,h,_,_=>by simp at h
 | d::ds,b,Xo,f+1,ha,h,hs,hl=>by
  unfold rg;have e:src.get O b.length=Xy (inj d):=by rw[j,ha];simp
  rw[e];simp only[bX,au,aW] at hl;show((step (inj d) O Xo).bnd λk l=>rg src step f (b.length+1) l k)=_;rw[hs d ar Xo 'd'];show rg src step f (b.length+1) O (Xo++g d)=_;have:=Tz j ds (b++[d]) (Xo++g d) f (by rw[ha];simp) ⇑h (λm n=>hs m (ak _ n)) (by rw[au];lia);rw[au,fz] at this;rw[this];simp
theorem Gd{α β:Type}(p:α->Bool)(e:α->β):∀l:List α,(l.flatMap λd=>if p d=YP then [e d] else [])=(l.filter p).map e
 |[]=>rfl
 | x::l=>by
  rw[bX,Gd p e l,cT];by_cases a:p x=YP
  ·rw[Kk a,Kk a];rfl
  ·rw[Ko a,Ko a];rfl
def Cy{α:Type}{ext:Nat}{it0:DI}{g:Tg}{ts:List DT}{te:DE}{σ:Sg}{O O0:Ow}{src:Src}{l:List α}{inj:α->D}{p:α->Bool}{e:α->D}{τ:α->Sg}{o:Bool}(m:it0 σ O0=.ok src O)(n:∀i,src.get O i=(l.map inj)[i]?)(q:src.size O=l.length)(x:l.length<1900000)
  (r:∀a∈l,g.put (inj a) (qM (qM (σ++aU ext XV) (g.slots++[])) (g.slots++[]))=Xy (τ a)) (s:∀a∈l,uc ts (τ a) O=.ok (p a) O) (t:∀a∈l,p a=YP->te (τ a) O=.ok (e a) O):
  qp o ext it0 g ts [] te σ O0=xA o (.ok ((l.filter p).map e) O):=by
 unfold qp BB;rw[m];show xA o (zp (rg src _ (src.size O) 0 O []))=_;have d:∀a∈l,∀c:List D,c.length<4000000->zV ⟨it0,g,ts⟩ [] te (qM (σ++aU ext XV) (qT [⟨it0,g,ts⟩])) (inj a) O c=.ok (c++(if p a=YP then [e a] else [])) O:=by
  intro a j c u;show(match g.put (inj a) (qM (qM (σ++aU ext XV) (g.slots++[])) (g.slots++[])) with|some rq=>(uc ts rq O).bnd λb k=>if b=YP then u9 [] te rq k c else .ok c k|none=>.bad)=_;rw[r a j];show(uc ts (τ a) O).bnd _=_;rw[s a j];show(if p a=YP then u9 [] te _ O c else .ok c O)=_;by_cases f:p a=YP
  ·rw[Kk f,Kk f];unfold u9;rw[t a j f];show(if c.length<4000000 then _ else _)=_;rw[Kk u]
  ·rw[Ko f,Ko f];simp
 have h:((l.filter p).map e).length<=l.length:=by rw[aq];exact aQ _ _
 have w:=Tz n l [] [] l.length rfl (aE _) d (by rw[Gd];simp at h ⊢;lia);rw[Gd,eC] at w;have v:rg src (zV ⟨it0,g,ts⟩ [] te (qM (σ++aU ext XV) (qT [⟨it0,g,ts⟩]))) (src.size O) 0 O []=.ok ((l.filter p).map e) O:=by rw[q];exact w
 rw[v];rfl
section
variable{α:Type}{ext:Nat}{it0:DI}{i:Nat}{t:DT}{te:DE}{σ:Sg}{O O0:Ow}{l:List α}{inj:α->D}{p:α->Bool}{e:α->D}{τ:α->Sg}{o:Bool}
def Er{σ:Sg}{O:Ow}{b:Bool}(h:t σ O=.ok b O):uc [t] σ O=.ok b O:=by show((t σ O).bnd _)=_;rw[h];cases b<;>rfl
def u7(b:it0 σ O0=.ok (.val (l.map inj)) O)(c:l.length<1900000)(d:∀a,(qM (qM (σ++aU ext XV) [i]) [i]).set i (Xy (inj a))=τ a)(f:∀a∈l,t (τ a) O=.ok (p a) O)(g:∀a∈l,p a=YP->te (τ a) O=.ok (e a) O):
  qp o ext it0 (.one i) [t] [] te σ O0=xA o (.ok ((l.filter p).map e) O):=
 Cy b (λ_=>rfl) (by show(l.map inj).length=_;simp) c (λa _=>congrArg Xy (d a)) (λa h=>Er (f a h)) g
def xF(c:it0 σ O0=.ok (.val (l.map inj)) O)(d:l.length<1900000)(f:∀a,(qM (qM (σ++aU ext XV) [i]) [i]).set i (Xy (inj a))=τ a)(h:∀a∈l,te (τ a) O=.ok (e a) O):
  qp o ext it0 (.one i) [] [] te σ O0=xA o (.ok (l.map e) O):=by have:=Cy (o:=o) (g:=.one i) (ts:=[]) c (λ_=>rfl) (by show(l.map inj).length=_;simp) d (λa _=>congrArg Xy (f a)) (λa b=>rfl) λa b _=>h a b;rw[this,lY.mpr (λ_ _=>rfl)]
end
def ya{α:Type}{it:DI}{i:Nat}{body:DS}{σ:Sg}{O0 O:Ow}{l:List α}{inj:α->D}(g:it σ O0=.ok (.val (l.map inj)) O)(I:Nat->Sg->Ow->Prop)(h:∀(k:Nat)a σ O,l[k]?=Xy a->I k σ O->∃σ' b,body (σ.set i (Xy (inj a))) O=.nx σ' b/\I (k+1) σ' b)(m:I 0 σ O):
  ∃σ' b,sJ it (.one i) body σ O0=.nx σ' b/\I l.length σ' b:=by
 obtain⟨σ',b,n,f⟩:=UN (step:=λd σ O=>match Tg.put (.one i) d σ with|some σ'=>body σ' O|none=>.bad) I (λj σ O d o c=>by
  rw[bd] at c;cases e:l[j]? with
  |none=>rw[e] at c;cases c
  | some a=>
   rw[e] at c;cases c;exact h j a σ O e o) (l.map inj).length 0 σ O m 'k' (bI _)
 rw[aq] at f;exact⟨σ',b,(Mm g).trans n,f⟩
theorem MD:∀l:List Bool,yp (l.map D.bl)=Xy l
 |[]=>rfl
 | x::l=>by
  show(yp (l.map D.bl)).map (x :: ·)=_;rw[MD l];rfl
def TF{α:Type}(O:Ow)(l:List α)(p:α->Bool):DZ O [.lst (l.map λa=>D.bl (p a))]=.ok (.bl (l.any p)) O:=by
 show(match yp (l.map λa=>D.bl (p a)) with|some bs=>R.ok (D.bl (bs.any id)) O|none=>R.bad)=_;have:(l.map λa=>D.bl (p a))=(l.map p).map D.bl:=by rw[bi];rfl
 rw[this,MD];show R.ok (D.bl _) O=_;rw[List.any_map];rfl
def EA{α:Type}(O:Ow)(l:List α)(p:α->Bool):xE O [.lst (l.map λa=>D.bl (p a))]=.ok (.bl (l.all p)) O:=by
 show(match yp (l.map λa=>D.bl (p a)) with|some bs=>R.ok (D.bl (bs.all id)) O|none=>R.bad)=_;have:(l.map λa=>D.bl (p a))=(l.map p).map D.bl:=by rw[bi];rfl
 rw[this,MD];show R.ok (D.bl _) O=_;rw[mq];rfl
end DL
namespace DL
open PySem L2
structure XAt(h0:a7)(H:Hp)(h:a7)(a:ae)(C:ab):Prop where
 ex:∃oe vs,h.get? a=Xy oe/\(oe.cls=C/\oe.dict=XV)/\oe.data=.fields vs/\1<vs.size/\(vs[1]?=Xy .none \/ ∃T oT ts,vs[1]?=Xy (.ref T)/\T≠a/\h0.get? T=XV/\H T=XV/\h.get? T=Xy oT/\oT.data=.fields ts/\ts[3]?=Xy .none)
 new:h0.get? a=XV
 free:H a=XV
structure Kp(h0:a7)(H:Hp)(fs:List ae)(h h':a7):Prop where
 keep:∀b o,h.get? b=Xy o->b∉fs->(H b≠XV\/h0.get? b≠XV)->h'.get? b=Xy o
 slot:∀b o,h.get? b=Xy o->b∈fs->∃sl,h'.get? b=Xy { o with slots:=sl }
 there:∀b o,h.get? b=Xy o->∃o',h'.get? b=Xy o'
 size:h.objs.size<=h'.objs.size
open PyProof.Rows (AllBare)
def PR(P:aP)(w:aZ)(Cl:Nat->ab):yr:=λouter H s E e s'=>∃a c H',e=.ref a/\s'.os=s.os/\0<s'.toks/\ip s'.gens/\Un (vI outer) [] H H' s.heap s'.heap/\HOk P w H' s'.heap/\XAt s.heap H' s'.heap a (Cl c)/\E (Cl c) XV H'
abbrev Xk(Cl:Nat->ab)(E:XK):Nat->Hp->Prop:=λc H=>E (Cl c) XV H
def Kp.hok(k:Kp h0 H fs h h')(x:L2.HOk P w H h)(c:∀b∈fs,H b=XV):L2.HOk P w H h':=λa o e=>
 (x a o e).stay (λb u hb q=>k.keep b u q (λz=>by
  rcases hb with rfl|hb
  ·rw[c _ z] at e;cases e
  ·rw[c _ z] at hb;cases hb) (.inl (by
  rcases hb with rfl|hb
  ·rw[e];exact λz=>nomatch z
  ·rw[hb];exact λz=>nomatch z))) (λ_ q=>q) λ_ _ q=>q
section
end
structure o6(Cl:Nat->ab)(P:aP)(w:aZ)(K:ai)(mg:aB->Option ab)(base:a7)(x:aB)(k n:Nat)(F:ql):Prop where
 ex:∃f fd ps,mg x=Xy (.ref f)/\de K (.ref f)=YP/\Binds K fd ps []/\oV P w K mg base (PR P w Cl) k f fd ps (K4 K (Xk Cl) n F)
section
variable{Cl:Nat->ab}{P:aP}{w:aZ}{K:ai}{mg:aB->Option ab}{base:a7}{k n:Nat}{x:aB}{F G:ql}
def o6.imp(c:o6 Cl P w K mg base x k n F)(h:∀ds O H QH a b Q,oC K H QH a O->rM b K H QH a (G ds O) Q->rM b K H QH a (F ds O) Q):o6 Cl P w K mg base x k n G:=by obtain⟨f,g,i,j,l,m,o⟩:=c.ex;refine⟨f,g,i,j,l,m,o.imp λr H Q E ⟨p,QH,a,ds,O,d,e,q⟩=>⟨p,QH,a,ds,O,d,e,h ds O H QH a _ Q e q⟩⟩
end
open PyProof.Rows (AllBare IntsAre)
section
variable{X:Cx}{Xa:List (ae×Obj)}{σ:St}{H:Hp}{s:ag}
def Inv.fake(I:L2.Inv X Xa σ H s)(e:X.N[i]?=Xy x)(f:¬ vK X.env.scope x):L2.Inv X Xa (σ.set i (Xy v)) H s:=by
 obtain⟨m,g,h⟩:=I.loc;refine⟨I.ok,I.os,I.bare,I.base,⟨m,g,λj y w a b c=>?_⟩,I.cell,I.free,I.freeC,I.pin,I.hok,by rw[cQ];exact I.len,I.tk⟩;by_cases d:j=i
 ·subst d;rw[e] at a;cases a;exact absurd c f
 ·rw[bu (bP d)] at b;exact h j y w a b c
def t_.fake(a:X.N[i]?=Xy x)(b:¬ vK X.env.scope x)(h:t_ X body t):t_ X body λD σ H=>t D (σ.set i (Xy v)) H:=
 λXa s σ H D I q=>h Xa s _ H D (Inv.fake I a b) q
end
def oQ.empty(h:H P=Xy (.tbl #[])):oQ H P:=⟨#[],h,trivial,λa b e=>by cases e⟩
noncomputable def Av(K:ai)(Ec:XK->Nat->Hp->Prop)(n:Nat)(P:ae)(F:ql):Sp:=λvs H Q E=>vs.length=n/\∃QH μ ds O,oD K H QH μ ds vs/\oC K H QH μ O/\oQ H P/\rM (Ec E) K H QH μ (F ds O) Q
def yQ(n i:Nat)(P:Nat)(t:DS):ql:=λds O=>fin (t ((ds.map Xy++aU (n-ds.length) XV).set i (Xy (.tab P))) O)
structure xG(mg:aB->Option ab)(base:a7)(c Pt:ae):Prop where
 hd:nQ base c Pt
 bl:base.BuiltinsAt mg Pt
def zcW
  (R:K.In pU.heap) (BX:pU.heap.Ns bQ mg) (g:pU.heap.Ns builtinsNs mb) (S:∀x:aB,x ≠ "__name__"->mb x=bC x) (Dj:pU.heap.NoLimit) (hg:pU.gens = #[]) (rB:0<pU.toks)
  (A:pU.heap.get? a=Xy { cls:=.type "list",data:=.seq t.toArray }) (hi:lf t ns) (hl:ns.length<=Kw) (hr:oM k callerA)
  (hC:nQ pU.heap c Pt) (j:pU.heap.get? Pt=Xy (nR #[])) (hK:jo K=YP) (hB:pU.heap.BuiltinsAt mg Pt)
  (F:∀base:a7,K.In base->base.Ns bQ mg->xG mg base c Pt->oV P w K mg base CX k fa fd [x] sp) (v8:∀(s:ag)(u:ab),k9 s fd ⟨[u],[]⟩ [(x,u)])
  (BU:∀H:Hp,H Pt=Xy (.tbl #[])->rn K H a (ns.map V.int)->sp [.ref a] H (λv _=>v=.bl YP) λ_ _ _=>False)
  (T:∀H e i,CX [] H pU (λ_ _ _=>False) e i->False):
  codeAny (az P w) callerA (.call (.ref fa) ⟨[.ref a],[]⟩) (λr i=>r=.ok (.ret (.bool YP))/\OldK pU.heap i.heap/\i.os=pU.os/\ip i.gens) pU:=by
 have rv:=UP hi;have N7:=hi.length;have U:a≠Pt:=by rintro rfl;rw[A] at j;cases j
 have X:K.lookup Pt=XV:=by
  cases q:K.lookup Pt with
  |none=>rfl
  | some o=>
   have e:=R Pt o q;rw[j] at e;cases e;have Y:=al.mp hK (Pt,_) (PySem.W.mem_of_lookupK q);exact absurd (Y) cE
 -- H: the table, and the NL where it is XV of the GN objects
 have p:∀H:Hp,H Pt=Xy (.tbl #[])->rn K H a (ns.map V.int)->HOk P w H pU.heap->(∀b,H b≠XV->b=a\/b=Pt)->(H a=XV\/(K.lookup a=XV/\∃o xs,H a=Xy (.frz o (.lst xs))))->
   codeAny (az P w) callerA (.call (.ref fa) ⟨[.ref a],[]⟩) (λr i=>r=.ok (.ret (.bool YP))/\OldK pU.heap i.heap/\i.os=pU.os/\ip i.gens) pU:=by
  intro H hT hS C L W_;have f:∀{b:ae}{o:Obj},pU.heap.get? b=Xy o->H b=XV->(zR pU.heap H).get? b=Xy o:=λe n=>zf3 e n;have AY:∀{b:ae}{o:Obj}{M:Array DictEntry}{N:Nat},pU.heap.get? b=Xy o->o.data=.dict M N->H b=XV:=λ{b o M N}e d=>by
   cases q:H b with
   |none=>rfl
   | some u=>
    rcases L b (by rw[q];simp) with e'|e'
    ·subst e';rw[A] at e;cases e;have Z:=d;cases Z
    ·subst e';rw[j] at e;cases e;have Z:=d;cases Z
  have O:∀{b:ae}{m:aB->Option ab},pU.heap.Ns b m->(zR pU.heap H).Ns b m:=λ{b m}⟨o,M,N,e,d,r⟩=>⟨o,M,N,f e (AY e d),d,r⟩;have W9:K.In (zR pU.heap H):=λb o e=>f (R b o e) (by
   cases q:H b with
   |none=>rfl
   | some u=>
    rcases L b (by rw[q];simp) with e'|e'
    ·subst e';rcases W_ with z|⟨z,_⟩
     ·rw[z] at q;cases q
     ·rw[z] at e;cases e
    ·subst e';rw[X] at e;cases e)
  have hM:Mod K mg (zR pU.heap H):=⟨W9,O BX,⟨mb,O g,S⟩,let ⟨mc,h1,Y⟩:=Dj;⟨mc,O h1,Y⟩⟩;have e0:o9 P w K mg (zR pU.heap H) callerA [] pU H:=⟨rfl,hM,λb o e=>zjo e,ig (zcb _ _),trivial,λb g=>absurd (show b∈([]:List ae) from g) 'k',C,.of_eq hg,rB⟩;have Wx:∀{b:ae}{o:Obj},pU.heap.get? b=Xy o->o.cls ≠ .none->(o.cls ≠ .type "list")->H b=XV:=λ{b o}e d1 d2=>by
   cases q:H b with
   |none=>rfl
   | some u=>
    rcases L b (by rw[q];simp) with e'|e'
    ·subst e';rw[A] at e;cases e;exact absurd rfl d2
    ·subst e';rw[j] at e;cases e;exact absurd rfl d1
  have hL:xG mg (zR pU.heap H) c Pt:=by
   obtain⟨o,t,D,tf,y,tg,BQ,E,tt,G,r1,r⟩:=hC;obtain⟨bm,ob,b1,b2,b3,b4,b5,b6,b7,b8⟩:=hB;exact⟨⟨o,t,D,tf,y,tg,BQ,E,tt,f G (Wx G (by rw[r1];exact λz=>nomatch z) (by rw[r1];decide)),r1,r⟩,⟨bm,ob,b1,b2,b3,b4,f b5 (Wx b5 (by rw[b6];exact λz=>nomatch z) (by rw[b6];decide)),b6,b7,b8⟩⟩
  refine ft ((F _ W9 (O BX) hL).run callerA [] pU H ⟨[.ref a],[]⟩ [.ref a] [.ref a] _ _ hr e0 (v8 pU (.ref a)) (.cons rfl .nil) (BU H hT hS)) λr i h=>?_;cases r with
  |error e=>exact(T H e i h).elim
  | ok fl=>
   cases fl with
   |next=>exact aj h
   |brk=>exact aj h
   |cont=>exact aj h
   | ret u=>
    obtain⟨⟨v,H',os,I,Q,G8,r',q⟩,_⟩:=h;have q':=q;subst q';obtain rfl:u=Value.bool YP:=r';obtain⟨J,hT'⟩:=Q.tbls Pt #[] hT;have KQ:=G8 Pt _ hT';refine⟨rfl,⟨λb o e=>?_,λb o e=>?_⟩,os,I⟩
    ·by_cases yK:b=Pt
     ·subst yK;rw[j] at e;cases e;exact .inr (.inl ⟨(hC.tab j).isCodeTable,rfl,#[],J,rfl,KQ⟩)
     ·cases q:H b with
      |none=>exact .inl (Q.keep b o e q (by intro z;exact absurd (show b∈([]:List ae) from z) 'k') 'k')
      | some u=>
       rcases L b (by rw[q];simp) with e'|e'
       ·subst e';rcases W_ with z|⟨_,ob,xs,z⟩
        ·rw[q] at z;cases z
        ·have z2:=Q.frzs b ob _ z;obtain⟨G,_⟩:=C b _ z;obtain⟨e2,_⟩:=G8 b _ z2;rw[e] at G;cases G;exact .inl e2
       ·exact absurd e' yK
    ·exact Q.there b o e 'k'
 cases hk:K.lookup a with
 | some o=>
  have e:=R a o hk;rw[A] at e;cases e;refine p (λb=>if b=Pt then Xy (.tbl #[]) else XV) (Kk rfl) (.inr ⟨_,t.toArray,_,hk,rfl,rfl,rfl,by rw[aL,N7];exact hl,by simpa using rv⟩) (λb u z=>?_) (λb z=>?_) (.inl (Ko U))
  ·by_cases g:b=Pt
   ·have l:=(Kk g).symm.trans z;cases l;subst g;exact j
   ·have l:=(Ko g).symm.trans z;cases l
  ·by_cases g:b=Pt
   ·exact .inr g
   ·exact absurd (Ko g) z
 | none=>
  refine p (λb=>if b=Pt then Xy (.tbl #[]) else if b=a then Xy (.frz { cls:=.type "list",data:=.seq t.toArray } (.lst (ns.map V.int))) else XV) (Kk rfl) (.inl (.inr ⟨{ cls:=.type "list",data:=.seq t.toArray },(Ko U).trans (Kk rfl)⟩)) (λb u z=>?_) (λb z=>?_) (.inr ⟨hk,_,_,(Ko U).trans (Kk rfl)⟩)
  ·by_cases g:b=Pt
   ·have l:=(Kk g).symm.trans z;cases l;subst g;exact j
   ·by_cases B:b=a
    ·have l:=((Ko g).trans (Kk B)).symm.trans z;cases l;subst B;exact⟨A,by rw[aq];exact hl,t,_,rv,A⟩
    ·have l:=((Ko g).trans (Ko B)).symm.trans z;cases l
  ·by_cases g:b=Pt
   ·exact .inr g
   ·by_cases B:b=a
    ·exact .inl B
    ·exact absurd ((Ko g).trans (Ko B)) z
def z6H{f d:Pos}{c g:ab}(l:List ab)(h:TriplesOk l)(e:codeAmong d (l++[b9 f.line,b9 f.col,c])=Xy g):codeAmong d l=Xy g\/g=c:=by
 fun_induction TriplesOk l with
 | case1=>
  simp only[eC,codeAmong,b9] at e;split at e
  ·cases e;exact .inr rfl
  ·cases e
 | case2 a t b u x rest ih=>
  simp only[kl,codeAmong] at e ⊢;split at e
  ·rename_i i;rw[Kk i];exact .inl e
  ·rename_i i;rw[Ko i];exact ih h e
 |case3 l h1 h2=>exact h.elim
def zbz{q:aB}{H:Hp}{P c:ae}{d:Pos}{i:Array ab}(j:H P=Xy (.tbl i))(w:H c=XV)(k:ae)(x:oQ H k):
  oQ (upd (upd H P (.tbl (i ++ #[b9 d.line,b9 d.col,.ref c]))) c (.ext λh=>h.CodeRec (.ref c) q)) k:=by
 have l:∀{b:ae}{o:HO},H b=Xy o->b≠c:=λe=>sR e w;obtain⟨y,g,m,u⟩:=x;have a:∀{b:ae}{f:a7->Prop},H b=Xy (.ext f)->upd (upd H P (.tbl (i ++ #[b9 d.line,b9 d.col,.ref c]))) c (.ext λh=>h.CodeRec (.ref c) q) b=Xy (.ext f):=λ{b f}e=>by
  rw[qi (l e),qi (Yg e j (λz=>nomatch z))];exact e
 by_cases v:k=P
 ·subst v;rw[j] at g;cases g;refine⟨_,by rw[qi (l j),rZ],?_,λp n e=>?_⟩
  ·rw[bT];exact TriplesOk_snoc _ _ _ _ m
  ·rw[bT] at e;rcases z6H _ m e with e|e
   ·obtain⟨r,f,rfl,s,t⟩:=u p n e;exact⟨r,f,rfl,a s,t⟩
   ·exact⟨c,_,e,rZ,λh z=>⟨q,z⟩⟩
 ·refine⟨y,by rw[qi (l g),qi v];exact g,m,λp n e=>?_⟩;obtain⟨r,f,rfl,s,t⟩:=u p n e;exact⟨r,f,rfl,a s,t⟩
section
variable{X:Cx}{Xa:List (ae×Obj)}{b_:St}{H:Hp}{s:ag}{E:ab->ag->Prop}
abbrev Cj(H:Hp)(P c:ae)(ps:Array ab)(pos:Pos)(q:aB):Hp:=upd (upd H P (.tbl (ps ++ #[b9 pos.line,b9 pos.col,.ref c]))) c (.ext λh=>h.CodeRec (.ref c) q)
def EB(a:H P=Xy (.tbl ps))(d:H c=XV)(e:H b=Xy o)(f:Ed o):Cj H P c ps pos q b=Xy o:=by
 have g:b≠P:=by rintro rfl;rw[a] at e;cases e;exact f _ rfl
 show upd (upd H P _) c _ b=Xy o;rw[qi (sR e d),qi g];exact e
def UW(a:H P=Xy (.tbl ps))(d:H c=XV)(f:List ae):Ext H f (Cj H P c ps pos q) f:=
 ⟨⟨[],by simp⟩,λb o e _ g=>EB a d e g,λ_ m=>.inl m,λb h=>yH b (yH b h),λi j=>zbz a d i j⟩
def z9e(d:H P=Xy (.tbl f))(g:H c=XV)(b:oC K H QH μ O):oC K (Cj H P c f pos q) QH μ O:=by refine⟨b.len,b.nd,b.nh,λa m=>yH a (yH a (b.ht a m)),λk a e=>?_⟩;obtain⟨h,i,j,l,n⟩:=b.at_ k a e;exact⟨h,i,j,EB d g l (by intro f z;cases z),n.ext (UW d g μ)⟩
def V4{h h':a7}{c:ae}{q:aB}(x:h.CodeRec (.ref c) q)(k:∀o,h.get? c=Xy o->h'.get? c=Xy o):h'.CodeRec (.ref c) q:=by obtain⟨d,o,a,t,e,b,r⟩:=x;cases e;exact⟨c,o,a,t,rfl,k o b,r⟩
def Z5{c P:ae}{a:iZ}{body:aT}{d:c8}{g:Pos}{y:List (aB×ae)}{Q:ab->ag->Prop}(I:L2.Inv X Xa b_ H s)(L:xG X.mg X.base c P)(Z:X.env.code=.ref c)(ti:oQ H P)
  (su:closureFor d X.env=pure y) (zF:defaultsOf a X.env=([],[]))
  (h:∀(k:ae)(cd l:ab)(h':a7)(tk:Tok)(H':Hp),L2.Inv X Xa b_ H' { s with heap:=h',toks:=tk }->(∀B,Ext H B H' B)->(∀QH B O,oC X.K H QH B O->oC X.K H' QH B O)->H' k=XV->s.heap.objs.size<=k->
   h'.get? k=Xy { cls:=.type "function",data:=.func (d7 "<lambda>" (X.env.qual ++ "<lambda>") a body d y ((X.mg "__name__").getD .none) cd l) }->(∃c F,cd=.ref c/\H' c=Xy (.ext F)/\∀h:a7,F h->∃q,h.CodeRec (.ref c) q)->Q (.ref k) { s with heap:=h',toks:=tk }):
  av (az X.prog X.w) X.A (eval (.Lambda a body d g) X.env) Q E s:=by
 obtain⟨j,i,h2,h3⟩:=id ti;have N:=I.hok P _ i;have R:=I.mod.glob.keeps I.bk;have S:bQ≠P:=λz=>by
  obtain⟨o,es,ep,e,G,_⟩:=R;rw[z,N] at e;cases e;cases G
 have J:s.heap.BuiltinsAt X.mg P:=by
  obtain⟨bm,ob,b1,C,b3,b4,b5,r⟩:=L.bl;exact⟨bm,ob,b1,C,b3,b4,I.bk _ _ b5,r⟩
 have G:=L.hd.keeps I.bk;refine PySem.W.kla_eval zF ?_;cases T:codeAmong g j.toList with
 | some cv=>
  obtain⟨f,F,rfl,k1,k2⟩:=h3 g cv T;refine wT I (PySem.W.kla_makeFunctionHit su I.ok.glob R Z G N h2 T J λl h' tk hk q9 rB=>?_);have x:∀b u,s.heap.get? b=Xy u->(h'.push { cls:=.type "function",data:=.func (d7 "<lambda>" (X.env.qual ++ "<lambda>") a body d y ((X.mg "__name__").getD .none) (.ref f) l) }).get? b=Xy u:=λb u e=>af _ (hk b u e);exact h h'.objs.size (.ref f) l _ tk H (I.kept x) (λB=>.refl) (λ_ _ _ z=>z) (I.hok.fresh q9) q9 (aI _ rfl) ⟨f,F,rfl,k1,k2⟩
 | none=>
  refine wT I (PySem.W.kla_makeFunction su I.ok.glob R Z G N h2 T S J λf l h' tk hx M U vZ V rB=>?_);have v:=I.hok.fresh M;have D:∀{b:ae},H b=XV->b≠P:=λe=>bP (sR i e);have x:∀b u,b≠P->s.heap.get? b=Xy u->(h'.push (kI "<lambda>" (X.env.qual ++ "<lambda>") a body d y ((X.mg "__name__").getD .none) f l)).get? b=Xy u:=λb u n e=>af _ (hx b u n e);have KQ:(h'.push (kI "<lambda>" (X.env.qual ++ "<lambda>") a body d y ((X.mg "__name__").getD .none) f l)).get? P=Xy (nR (j ++ #[b9 g.line,b9 g.col,.ref f])):=af _ V;have BV:(h'.push (kI "<lambda>" (X.env.qual ++ "<lambda>") a body d y ((X.mg "__name__").getD .none) f l)).CodeRec (.ref f) (X.env.qual ++ "<lambda>"):=V4 vZ λo e=>af _ e;have zB:∀{b:ae},s.heap.objs.size<=b->b≠f->Cj H P f j g (X.env.qual ++ "<lambda>") b=XV:=λ{b}J n=>by
   have e:=I.hok.fresh J;show upd (upd H P _) f _ b=XV;rw[qi n,qi (D e)];exact e
  refine h h'.objs.size (.ref f) l _ tk (Cj H P f j g (X.env.qual ++ "<lambda>")) ?_ (UW i v) (λ_ _ _ z=>z9e i v z) (zB (fV (ic M U)) (eF U)) (fV (ic M U)) (aI _ rfl) ⟨f,_,rfl,rZ,λh z=>⟨_,z⟩⟩;have rm:∀b o,s.heap.get? b=Xy o->H b=XV->Cj H P f j g (X.env.qual ++ "<lambda>") b=XV:=λb o e n=>by
   show upd (upd H P _) f _ b=XV;rw[qi (bq (be (aN e) M)),qi (D n)];exact n
  refine I.step (ch:=[]) (λ_ z=>nomatch z) (λb o _ _ _ e n=>x b o (D n) e) (λb o _ _ _ e n=>⟨o.slots,x b o (D n) e⟩) (λb o _ e n=>rm b o e n) (λb o _ e=>?_)
   (λb xs e=>EB i v e (by intro j z;cases z)) (λb o u e=>EB i v e (by intro j z;cases z)) (λb Ws e=>?_) (λm hm=>?_) ?_ I.bare rB
  ·by_cases p:b=P
   ·subst p;exact⟨_,KQ⟩
   ·exact⟨o,x b o p e⟩
  ·by_cases p:b=P
   ·subst p;rw[i] at e;cases e;exact⟨_,by show upd (upd H b _) f _ b=_;rw[qi (sR i v),rZ]⟩
   ·exact⟨#[],by show upd (upd H P _) f _ b=_;rw[qi (sR e v),qi p,e];simp⟩
  ·obtain⟨o,es,ep,e,r⟩:=hm;exact⟨o,es,ep,x _ o (D I.free) e,r⟩
  ·intro b u e;by_cases W3:b=f
   ·subst W3;have e':Cj H P b j g (X.env.qual ++ "<lambda>") b=_:=rZ;rw[e'] at e;cases e;refine⟨BV,?_,λha uI za zk=>V4 za zk⟩;obtain⟨c2,o,vs,t,z,ho,_⟩:=BV;cases z;exact⟨o,ho⟩
   ·have Y:=(qi W3).symm.trans e;by_cases p:b=P
    ·subst p;rw[rZ] at Y;cases Y;exact KQ
    ·have e2:=(qi p).symm.trans Y;refine(I.hok b u e2).stay (λC u2 zK z=>x C u2 (λzz=>?_) z) (λC z=>EB i v z (by intro j z;cases z)) λC xs z=>EB i v z (by intro j z;cases z);rcases zK with rfl|zK
     ·exact p zz
     ·rw[zz,i] at zK;cases zK
end
abbrev yv(q:aB)(scope:c8)(L f:ae)(cd:ab)(cl:List (aB×ae)):Env:={ scope,locals:=L,globals:=bQ,cells:=cl,qual:=q ++ ".<locals>.",func:=Xy f,code:=cd,frame:=Xy L,builtins:=builtinsNs }
section
end
noncomputable def cxL(CX:yr)(P:aP)(w:aZ)(K:ai)(mg:aB->Option ab)(base:a7)(N:List aB)(env:Env)(A:bb)(outer:List Env)(s:ag)(H:Hp)(E:XK):Cx where
 prog:=P
 w:=w
 K:=K
 mg:=mg
 base:=base
 A:=A.deeper env
 N:=N
 s₀:=s
 H₀:=H
 env:=env
 outer:=outer
 stack:=env::outer
 ex:=[]
 calm:=YP
 fn:=λ_=>Y1
 pn:=[]
 xe:=λe s'=>av (az P w) (A.deeper env) (leaving env e) (λ_ Af=>CX outer H s E e Af) (λe' Af=>CX outer H s E e' Af) s'
section
variable{h0:a7}{H:Hp}
def Kp.refl:Kp h0 H fs h h:=⟨λ_ _ e _ _=>e,λb o e _=>⟨o.slots,e⟩,λ_ o e=>⟨o,e⟩,aE _⟩
def Kp.trans(x:Kp h0 H fs h h1)(y:Kp h0 H fs h1 h2):Kp h0 H fs h h2:=
 ⟨λb o e n k=>y.keep b o (x.keep b o e n k) n k,λb o e n=>by
  obtain⟨g,a⟩:=x.slot b o e n;obtain⟨c,d⟩:=y.slot b _ a n;exact⟨c,d⟩,λb o e=>by
  obtain⟨f,a⟩:=x.there b o e;exact y.there b f a,aH x.size y.size⟩
end
section
variable{X:Cx}{Xa:List (ae×Obj)}{σ:St}{H:Hp}{s:ag}
abbrev Cx.mk'(X:Cx)(a:ae):Cx:={ X with A:=X.A.mark (Xy (.ref a)),calm:=Y1,xe:=λ_ _=>False }
def Inv.mk'(I:L2.Inv X Xa σ H s)(a:ae):L2.Inv (Cx.mk' X a) Xa σ H s:=
 ⟨⟨I.ok.mod,I.ok.kind,I.ok.glob,I.ok.blt,I.ok.above,I.ok.inj,I.ok.has,I.ok.cab,λz=>absurd (show Y1=YP from z) 'u',I.ok.frames,I.ok.stk,I.ok.exf,I.ok.bs,I.ok.bsz,I.ok.noex,I.ok.exfs,I.ok.funs,I.ok.frf⟩,I.os,I.bare,I.base,I.loc,I.cell,I.free,I.freeC,I.pin,I.hok,I.len,I.tk⟩
end
section
end
section
end
section
end
structure zpw(nf n y xT:aB)(p0 p1 p2 p3 p5 p6 p7 pq pc:Pos)(kc):Prop where
 hfd:s9 nf:=by decide
 hfcd:(nf==("__classdict__":aB))=Y1:=by decide
 hnd:s9 n:=by decide
 hncd:(n==("__classdict__":aB))=Y1:=by decide
 hTd:s9 xT:=by decide
 hs0:∀env:Env,swapsWith (.Call (.Name nf p1) [] [] p2) XV p3.line env=pure Y1:=by intro _;rfl
 hsA:∀env:Env,swapsWith (.Constant .none kc pc) (Xy (.Name y pq)) p0.line env=pure Y1:=by intro _;rfl
 hs:∀env:Env,jJ [.Name y p5] (.Name n p6) p7.line env=pure Y1:=by intro _;rfl
 hw:∀env:Env,jK [.Name y p5] (.Name n p6) env=pure XV:=by intro _;rfl
section
end
section
end
section
end
section
variable{X:Cx}{Xa:List (ae×Obj)}{σ:St}{H:Hp}{s s2:ag}
def Ti(a:Un fs [] H H h h')(z:h.IsCell c v)(n:H c=XV):h'.IsCell c v:=by obtain⟨o,b,d⟩:=z;obtain⟨f,e⟩:=a.any b n 'k';exact⟨_,e,d⟩
def zb8{b:List (aB×ae)}(I:L2.Inv X Xa σ H s)(d:Un (vI X.stack) [] H H s.heap s2.heap)(a:∀x c,b.lookup x=Xy c->X.env.cells.lookup x=Xy c):∀x c,b.lookup x=Xy c->(∃v,s2.heap.IsCell c v)/\H c=XV:=λx c e=>by
 obtain⟨v,z⟩:=I.cell x c (a x c e);exact⟨⟨v,Ti d z (I.freeC x c (a x c e))⟩,I.freeC x c (a x c e)⟩
def zfZ{a:List (aB×ae)}(I:L2.Inv X Xa σ H s)(b:∀x c,a.lookup x=Xy c->X.env.cells.lookup x=Xy c):∀x y c,a.lookup x=Xy c->a.lookup y=Xy c->x=y:=λx y c d e=>I.ok.inj x y c (b x c d) (b y c e)
def zdB{b:List (aB×ae)}{a:c8}(I:L2.Inv X Xa σ H s)(j:Un (vI X.stack) [] H H s.heap s2.heap)(k:∀x c,b.lookup x=Xy c->X.env.cells.lookup x=Xy c)(d:∀x,a.names.lookup x=Xy .free->∃c,b.lookup x=Xy c)
  (f:∀x,a.names.lookup x=Xy .free->X.env.scope.names.lookup x=Xy .cell\/X.env.scope.names.lookup x=Xy .free):
  ∀(i:Nat)x v,X.N[i]?=Xy x->σ[i]?=Xy (Xy v)->a.names.lookup x=Xy .free->∃u c,RelV v u/\b.lookup x=Xy c/\s2.heap.IsCell c (Xy u):=λi x v n o e=>by
 obtain⟨m,y,p⟩:=I.loc;obtain⟨u,r,l⟩:=p i x v n o (.inr (f x e));obtain⟨c,g⟩:=d x e;refine⟨u,c,r,g,?_⟩;rcases l with⟨z,_⟩|⟨_,A,h,t⟩
 ·have w:X.env.scope.names.lookup x=Xy .local:=z;rcases f x e with q|q<;>(rw[w] at q;cases q)
 ·have:=k x c g;rw[h] at this;cases this;exact Ti j t (I.freeC x _ h)
end
structure zga(out sc:c8):Prop where
 kind:sc.kind=.function
 co:sc.isCoroutine=Y1
 gen:sc.isGenerator=Y1
 nd:(sc.names.map (·.1)).Nodup
 cell:∀x∈sc.names,x.2 ≠ .cell
 loc:∀x∈sc.names,x.2 ≠ .local
 frees:∀y∈sc.names,y.2=.free->out.names.lookup y.1=Xy .cell\/out.names.lookup y.1=Xy .free
section
end
def zkf{K:ai}{c:XK->Nat->Hp->Prop}{Pt:ae}{F:ql}{H:Hp}{a:ae}{b:List Int}(h:∃O,F [.lst (b.map .int)] []=.ok (.bl YP) O)(d:H Pt=Xy (.tbl #[]))(f:rn K H a (b.map V.int)):Av K c 1 Pt F [.ref a] H (λv _=>v=.bl YP) λ_ _ _=>False:=by
 obtain⟨O,h⟩:=h;have g:∀(l:List Int),oD K H [] [] (l.map D.int) (l.map V.int):=λl=>by
  induction l with
  |nil=>exact .nil
  |cons x r ih=>exact .cons sP ih
 refine⟨rfl,[],[],[.lst (b.map .int)],[],.cons ?_ .nil,⟨rfl,by simp,by simp,by simp,λk a e=>by simp at e⟩,oQ.empty d,?_⟩
 ·unfold Xf;exact⟨a,_,rfl,f.imp (λz=>⟨z,by simp,by simp⟩) id,g b⟩
 ·rw[h];intro v i j _ _ r;unfold Xf at r;exact r
def o6.frz{a:Nat->ab}{P:aP}{w:aZ}{K:ai}{b:aB->Option ab}{base:a7}{k n:Nat}{x:aB}{F:ql}(c:o6 a P w K b base x k n F):o6 a P w K b base x k n (yU F):=
 c.imp λf O H d g h Q e q=>MQ e.len q
def DU(h:sc.names.lookup z=XV):¬ vK sc z:=by intro v;rcases v with v|v|v<;>(rw[h] at v;cases v)
def ZI{K:ai}{x name e:aB}{f c Pt:ae}{b:iZ}{body:List eH}{d:c8}{k l g m n o h:ab}{p q i:Option ae}{r s:Array (Option ab)}{j:Array ab}(a:gu K bQ x=Xy (Xy (.ref f)))
  (t:K.lookup f=Xy ⟨o,q,.func (cr name e b body d k l g m p (.ref c) n),r⟩) (u:K.lookup c=Xy ⟨h,i,.fields j,s⟩) (v:j[11]?=Xy (.ref Pt)):jP K x=Xy (c,Pt):=by unfold jP;rw[a];simp only[t];show(match K.lookup c with|some ⟨_,_,.fields j,_⟩=>_|_=>XV)=_;simp only[u,v]
structure oY(P:aP)(w:aZ)(ia:ae)(fp:List ae)(n:Nat)(Pv:Nat->ab->Prop)(Sx:Nat->a7->Prop):Prop where
 stab:∀i h h',Sx i h->(∀b∈ia::fp,∀o,h.get? b=Xy o->h'.get? b=Xy o)->Sx i h'
 item:∀(A:bb)(i:Nat)(s:ag)(Q:ab->ag->Prop)(E:ab->ag->Prop),i<n->Sx i s.heap->(∀v h' tk,Pv i v->Sx (i+1) h'->dg ia s.heap h'->Q v { s with heap:=h',toks:=tk })->av (az P w) A (cN (.ref ia)) Q E s
 done:∀(A:bb)(i:Nat)(s:ag)(Q:ab->ag->Prop)(E:ab->ag->Prop),A.handled=XV->n<=i->Sx i s.heap->(∀h' e,jx ia s.heap h'->(∃o,h'.get? e=Xy o/\o.cls=.type "StopIteration")->E (.ref e) { s with heap:=h' })->av (az P w) A (cN (.ref ia)) Q E s
section
variable{P:aP}{w:aZ}{A:bb}{E:ab->ag->Prop}{s:ag}
def zfC{α:Type}{Q:α->ag->Prop}(c:A.handled=XV)(h:∀h' e,(∀b o,s.heap.get? b=Xy o->h'.get? b=Xy o)->(∃o,h'.get? e=Xy o/\o.cls=.type "StopIteration")->E (.ref e) { s with heap:=h' }):
  av (az P w) A (newExc (.type "StopIteration") [] >>= λe=>(raiseNew e:Sem α)) Q E s:=by refine aa ?_;simp only[newExc,newTuple];refine aa (cM (?_) (by size_fits));refine aa (m:=firstArgMember _ _) (jw (a:=.none) (by first|rfl|(simp only[firstArgMember];rfl)) (cM ?_ (by size_fits)));simp only[raiseNew];refine aa (wpAny_handled ?_);rw[c];refine aa (ah (wpAny_throw (h _ _ (λb o e=>af _ (af _ e)) ⟨_,aI _ rfl,rfl⟩)))
def zcF(l g:ae)(a:Array ab)(J:g≠l):oY P w l [g] a.size (λi v=>a[i]?=Xy v) (λi h=>h.IsTupleIter l g i/\h.IsTuple g a) where
 stab:=by
  rintro i h B ⟨⟨o,e,c,d⟩,⟨C,K,r⟩⟩ k;exact⟨⟨o,k l 'k' o e,c,d⟩,⟨C,k g 'k' C K,r⟩⟩
 item:=by
  rintro A i s Q E t ⟨f,u⟩ y;obtain⟨L,m,D,j⟩:=id f;obtain⟨F,n,G,H,p⟩:=id u;have q:a[i]?=Xy a[i]:=ba t;unfold cN;refine aa (cI (name := "__next__") f.typeIs fH (cf fH f.typeIs jC ?_ (jp _)));show av _ _ (field (.ref l) 0 >>= _) _ _ s;refine aa (cb m j (x:=.ref g) rfl ?_);show av _ _ (if (fR g==gG)=YP then _ else _) _ _ s;rw[Ko (by exact cE)];show av _ _ (field (.ref l) 1 >>= _) _ _ s;refine aa (cb m j (x:=.int i 0) rfl ?_);show av _ _ (seqItems? (.ref g) >>= _) _ _ s;refine aa (dF n p ?_);simp only[iA,q];refine aa (wpAny_setField m j 'k' (ah ⟨_,rfl,ah (y _ _ s.toks q ⟨?_,?_⟩ (dW ..))⟩))
  ·exact⟨_,cm _ m (Obj.isFreed_of_fields (mr j _)),(Obj.cls_mapFields ..).trans D,by rw[mr j];simp[b9]⟩
  ·exact⟨F,(dW ..).extBut _ _ J n,G,H,p⟩
 done:=by
  rintro A i s Q E I t ⟨f,u⟩ y;obtain⟨L,m,D,j⟩:=id f;obtain⟨F,n,G,H,p⟩:=id u;have q:a[i]?=XV:=by simp[t]
  unfold cN;refine aa (cI (name := "__next__") f.typeIs fH (cf fH f.typeIs jC ?_ (jp _)));show av _ _ (field (.ref l) 0 >>= _) _ _ s;refine aa (cb m j (x:=.ref g) rfl ?_);show av _ _ (if (fR g==gG)=YP then _ else _) _ _ s;rw[Ko (by exact cE)];show av _ _ (field (.ref l) 1 >>= _) _ _ s;refine aa (cb m j (x:=.int i 0) rfl ?_);show av _ _ (seqItems? (.ref g) >>= _) _ _ s;refine aa (dF n p ?_);simp only[iA,q];refine aa (dN (aa (wpAny_setField m j 'k' ?_)));refine zfC (by first|exact I|(show A.in1.handled=XV;exact I)) λB e k M=>y B e (λb o N z=>k b o ((dW ..).extBut _ _ N z)) M
end
structure HP(z ti to:ae)(i1 i2:ae)(t8 tR:List ae):Prop where
 a1:ti≠z
 a2:to≠z
 a3:ti≠to
 b1:∀b∈i1::t8,b≠z/\b≠to
 b2:∀b∈i2::tR,b≠z/\b≠to
 c1:i1∉i2::tR
 c2:i2∉i1::t8
 d1:ti≠i1
 d2:ti≠i2
section
variable{P:aP}{w:aZ}{A:bb}{E:ab->ag->Prop}{s:ag}{z ti to i1 i2:ae}{t8 tR:List ae}{n1 n2 k:Nat}{P1 P2:Nat->ab->Prop}{S1 S2:Nat->a7->Prop}{a b:ab}
def oY.but(J:oY P w ia fp n Pv Sx)(x:Sx i h)(e:jx c h h')(d:∀b∈ia::fp,b≠c):Sx i h':=J.stab i h h' x λb f o z=>e b o (d b f) z
def zjq{Q:ab->ag->Prop}(i:oY P w i1 t8 n1 P1 S1)(j:oY P w i2 tR n2 P2 S2)(D:HP z ti to i1 i2 t8 tR)(l:j7 s.heap z ti to .none)(C8:fM s.heap ti (.ref i1) (.ref i2))(C6:fM s.heap to a b)(h1:S1 k s.heap)(h2:S2 k s.heap)(l1:k<n1)(l2:k<n2)
  (hq:∀x y h' tk,P1 k x->P2 k y->j7 h' z ti to (b9 s.heap.objs.size)->fM h' to x y->S1 (k+1) h'->S2 (k+1) h'->fM h' s.heap.objs.size x y->
   (∀c o,c≠z->c≠to->c≠i1->c≠i2->s.heap.get? c=Xy o->h'.get? c=Xy o)->Q (.ref s.heap.objs.size) { s with heap:=h',toks:=tk }):
  av (az P w) A (d0.«zip.__next__» ⟨[.ref z],[]⟩) (λf s'=>∃v,f=.done (.ret v)/\Q v s') E s:=by
 have g:∀b∈i1::t8,b≠z:=λb d=>(D.b1 b d).1;have h:∀b∈i2::tR,b≠z:=λb d=>(D.b2 b d).1;have H:∀b∈i1::t8,b≠to:=λb d=>(D.b1 b d).2;have I:∀b∈i2::tR,b≠to:=λb d=>(D.b2 b d).2;have NX:∀b∈i2::tR,b≠i1:=λb d e=>D.c1 (e▸d);have J:∀b∈i1::t8,b≠i2:=λb d e=>D.c2 (e▸d);have R:i1∈i1::t8:=ar;have S:i2∈i2::tR:=ar;show av _ _ (field (.ref z) 2 >>= _) _ _ s;refine aa (cb l rfl rfl ?_);refine aa (cb l rfl rfl (aa (dF C8 rfl ?_)));refine aa ?_;unfold d8;refine aa (cb l rfl rfl (ah ?_));simp only[if_true];refine aa (dN (aa (cb l rfl rfl ?_)));refine aa (bK l 'k' λha za m=>?_);refine aa ?_;simp only[iU,nH,g7,nT];refine aa (aa (jQ ?_));show av _ _ (cN (.ref i1) >>= _) _ _ _;refine aa (i.item _ k _ _ _ l1 (i.but h1 m.extBut g) λx d uR px Wn n=>ah ?_);have T:=n.extBut _ _ (bP (H _ R)) (m.extBut _ _ D.a2 C6);refine aa (dF T rfl (aa (ja T λhc Wg p=>?_)));refine aa (gh (ah (aa (aa (jQ ?_)))));show av _ _ (cN (.ref i2) >>= _) _ _ _;refine aa (j.item _ k _ _ _ l2 (j.but (j.but (j.but h2 m.extBut h) n.extBut NX) p.extBut I) λy hd tk2 py K r=>ah ?_);have U:=r.extBut _ _ (bP (I _ S)) Wg;refine aa (dF U rfl (aa (ja U λt B u=>?_)));have B:fM t to x y:=B;refine aa (gh (ah (ah (aa (dF B rfl (aa (iq ?_)))))));have V:t.objs.size=s.heap.objs.size:=by rw[u.1,r.1,p.1,n.1,m.1]
 have W:=u.extBut _ _ (bP D.a2) (r.extBut _ _ (bP (h _ S)) (p.extBut _ _ (bP D.a2) (n.extBut _ _ (bP (g _ R)) za)));have ke:∀c o,c≠z->c≠to->c≠i1->c≠i2->s.heap.get? c=Xy o->t.get? c=Xy o:=λc o C F L M e=>u.extBut _ _ F (r.extBut _ _ M (p.extBut _ _ F (n.extBut _ _ L (m.extBut _ _ C e))));have N:=i.but (i.but (i.but Wn p.extBut H) r.extBut J) u.extBut H;have O:=j.but K u.extBut I;have X:=aN W;refine aa ?_;unfold fv;have zf:j7 (t.push { cls:=.type "tuple",data:=.seq #[x,y] }) z ti to .ellipsis:=af _ W;refine aa (bK zf 'k' λhg zg Y=>?_);refine bK zg 'k' λZ zi si=>?_;have G:∀c o,c≠z->t.get? c=Xy o->Z.get? c=Xy o:=λc o q e=>si.extBut _ _ q (Y.extBut _ _ q (af _ e));have pi:=si.extBut _ _ (eF X) (Y.extBut _ _ (eF X) (aI _ rfl));rw[V] at zi pi;refine ah ⟨_,rfl,?_⟩;rw[V];exact hq x y Z _ px py zi (G _ _ D.a2 B) (i.stab _ _ _ N λb d o e=>G b o (g b d) e) (j.stab _ _ _ O λb d o e=>G b o (h b d) e) pi λc o C F L M e=>G c o C (ke c o C F L M e)
def zjb(K:A.handled=XV)(u:oY P w i1 t8 n1 P1 S1)(v:oY P w i2 tR n2 P2 S2)(D:HP z ti to i1 i2 t8 tR)(g:j7 s.heap z ti to .none)(U:fM s.heap ti (.ref i1) (.ref i2))(V:fM s.heap to a b)(L:S1 k s.heap)(W:S2 k s.heap)(l:n1<=k\/(k<n1/\n2<=k))
  (M:∀h' tk e,(∀c o,c≠z->c≠to->c≠i1->c≠i2->s.heap.get? c=Xy o->h'.get? c=Xy o)->(∃o,h'.get? e=Xy o/\o.cls=.type "StopIteration")->E (.ref e) { s with heap:=h',toks:=tk }):
  av (az P w) A (d0.«zip.__next__» ⟨[.ref z],[]⟩) Q E s:=by
 have f:∀b∈i1::t8,b≠z:=λb d=>(D.b1 b d).1;have m:∀b∈i2::tR,b≠z:=λb d=>(D.b2 b d).1;have X:∀b∈i1::t8,b≠to:=λb d=>(D.b1 b d).2;have Y:∀b∈i2::tR,b≠to:=λb d=>(D.b2 b d).2;have Z:∀b∈i2::tR,b≠i1:=λb d e=>D.c1 (e▸d);have C:i1∈i1::t8:=ar;have m2:i2∈i2::tR:=ar;show av _ _ (field (.ref z) 2 >>= _) _ _ s;refine aa (cb g rfl rfl ?_);refine aa (cb g rfl rfl (aa (dF U rfl ?_)));refine aa ?_;unfold d8;refine aa (cb g rfl rfl (ah ?_));simp only[if_true];refine aa (dN (aa (cb g rfl rfl ?_)));refine aa (bK g 'k' λha N i=>?_);refine aa ?_;simp only[iU,nH,g7,nT];refine aa (aa (jQ ?_));show av _ _ (cN (.ref i1) >>= _) _ _ _;have n:∀{h:a7}{e:ae},j7 h z ti to .ellipsis->(∃o,h.get? e=Xy o/\o.cls=.type "StopIteration")->e≠z:=λ{h e}g ⟨o,ho,y⟩ q=>by subst q;rw[g] at ho;cases ho;simp at y
 rcases l with l|⟨l1,l⟩
 ·refine aa (u.done _ k _ _ _ K l (u.but L i.extBut f) λd e p r=>?_);have O:=p _ _ (bP (f _ C)) N;have F:=n O r;obtain⟨G,H,I⟩:=r;exact bK O 'k' λy _ j=>M y _ e (λc o t _ J _ x=>j.extBut _ _ t (p _ _ J (i.extBut _ _ t x))) ⟨G,j.extBut _ _ F H,I⟩
 ·refine aa (u.item _ k _ _ _ l1 (u.but L i.extBut f) λx d uR px Wn B=>ah ?_);have R:=B.extBut _ _ (bP (X _ C)) (i.extBut _ _ D.a2 V);refine aa (dF R rfl (aa (ja R λy Wg j=>?_)));refine aa (gh (ah (aa (aa (jQ ?_)))));show av _ _ (cN (.ref i2) >>= _) _ _ _;refine aa (v.done _ k _ _ _ K l (v.but (v.but (v.but W i.extBut m) B.extBut Z) j.extBut Y) λhd e p r=>?_);have S:=p _ _ (bP (m _ m2)) (j.extBut _ _ (bP D.a2) (B.extBut _ _ (bP (f _ C)) N));have F:=n S r;obtain⟨G,H,I⟩:=r;exact bK S 'k' λhf _ T=>M hf _ e (λc o t q2 J q4 x=>T.extBut _ _ t (p _ _ q4 (j.extBut _ _ q2 (B.extBut _ _ J (i.extBut _ _ t x))))) ⟨G,T.extBut _ _ F H,I⟩
def zjw{Q:Option ab->ag->Prop}(f:oY P w i1 t8 n1 P1 S1)(g:oY P w i2 tR n2 P2 S2)(D:HP z ti to i1 i2 t8 tR)(d:j7 s.heap z ti to .none)(h:fM s.heap ti (.ref i1) (.ref i2))(i:fM s.heap to a b)(j:S1 k s.heap)(l:S2 k s.heap)(m:k<n1)(n:k<n2)
  (p:∀x y h' tk,P1 k x->P2 k y->j7 h' z ti to (b9 s.heap.objs.size)->fM h' to x y->S1 (k+1) h'->S2 (k+1) h'->fM h' s.heap.objs.size x y->
   (∀c o,c≠z->c≠to->c≠i1->c≠i2->s.heap.get? c=Xy o->h'.get? c=Xy o)->Q (Xy (.ref s.heap.objs.size)) { s with heap:=h',toks:=tk }):av (az P w) A (pyNext (.ref z)) Q E s:=by have e:s.TypeIs (.ref z) "zip":=⟨_,d,rfl⟩;exact aa (fG (cI e jb (cf jb e m9 (zjq f g D d h i j l m n λx y h' tk q r t u v B C F=>ah (p x y h' tk q r t u v B C F)) (mQ _))))
def zkF(g:A.handled=XV)(h:oY P w i1 t8 n1 P1 S1)(i:oY P w i2 tR n2 P2 S2)(D:HP z ti to i1 i2 t8 tR)(d:j7 s.heap z ti to .none)(j:fM s.heap ti (.ref i1) (.ref i2))(l:fM s.heap to a b)(m:S1 k s.heap)(n:S2 k s.heap)(p:n1<=k\/(k<n1/\n2<=k))
  (q:∀h' tk,(∀c o,c≠z->c≠to->c≠i1->c≠i2->s.heap.get? c=Xy o->h'.get? c=Xy o)->Q XV { s with heap:=h',toks:=tk }):av (az P w) A (pyNext (.ref z)) Q E s:=by have f:s.TypeIs (.ref z) "zip":=⟨_,d,rfl⟩;refine aa (fG (cI f jb (cf jb f m9 (zjb g h i D d j l m n p λh' tk e r t=>?_) (mQ _))));obtain⟨u,v,x⟩:=t;exact aa (iV ⟨u,v,x⟩ ll (ah (q _ tk r)))
end
inductive ZK where
 |tup (t:ae) (items:Array ab)
 |str (x:aB) (t:Tok)
 |lst (l:ae) (items:Array ab)
def ZK.val:ZK->ab
 |.tup t _=>.ref t
 |.str x t=>.str x t
 |.lst l _=>.ref l
noncomputable def ZK.obj:ZK->Obj
 |.tup t _=>{ cls:=.type "tuple_iterator",data:=.fields #[.ref t,.int 0 0] }
 |.str x t=>{ cls:=.type "str_ascii_iterator",data:=.fields #[.str x t,.int 0 0] }
 |.lst l _=>{ cls:=.type "list_iterator",data:=.fields #[.ref l,.int 0 0] }
def ZK.pre(h:a7):ZK->Prop
 |.tup t items=>h.IsTuple t items
 |.str x _=>x.cps.all (· < 128)=YP
 |.lst l items=>h.IsList l items
def ZK.keep(k:∀b o,h.get? b=Xy o->h'.get? b=Xy o):∀(q:ZK),q.pre h->q.pre h'
 |.tup t items,⟨o,e,r⟩=>⟨o,k _ _ e,r⟩
 |.str x t,e=>e
 |.lst l items,⟨o,e,r⟩=>⟨o,k _ _ e,r⟩
def ZK.iter(q:ZK)(h:q.pre s.heap)(a:Q (.ref s.heap.objs.size) { s with heap:=s.heap.push q.obj }):av (az P w) A (pyIter q.val) Q E s:=by
 cases q with
 |tup t items=>exact ml h a
 |str x t=>exact wpAny_pyIter_ascii h a
 |lst l items=>exact fL h a
abbrev zH(h:a7)(a b:ZK):a7:=(((((h.push a.obj).push b.obj).push { cls:=.type "tuple",data:=.seq #[.ref h.objs.size,.ref (h.push a.obj).objs.size] }).push { cls:=.type "tuple",data:=.seq #[.none,.none] }).push
 { cls:=.type "zip",data:=.fields #[.none,.bool Y1,.bool Y1,.ref ((h.push a.obj).push b.obj).objs.size,.ref (((h.push a.obj).push b.obj).push { cls:=.type "tuple",data:=.seq #[.ref h.objs.size,.ref (h.push a.obj).objs.size] }).objs.size] })
abbrev zA(h:a7)(a b:ZK):ae:=((((h.push a.obj).push b.obj).push { cls:=.type "tuple",data:=.seq #[.ref h.objs.size,.ref (h.push a.obj).objs.size] }).push { cls:=.type "tuple",data:=.seq #[.none,.none] }).objs.size
def zhr(a b:ZK)(k l:ab)(n:a.val=k)(p:b.val=l):Meets (d0.«zip.__new__» ⟨[.type "zip",k,l],[]⟩) (λ_ R s=>a.pre s.heap/\b.pre s.heap/\R (.ok (.ret (.ref (zA s.heap a b)))) { s with heap:=zH s.heap a b }):=
 .of_wp λP w A R s h=>by
  obtain⟨f,g,d,i,j⟩:=s;obtain⟨q,r,h⟩:=h;have v:=sub_zip;have t:∀{E:ab->ag->Prop}{Q:ab->ag->Prop},Q (.ref f.objs.size) ⟨f.push a.obj,g,d,i,j⟩->av (az P w) A.in1 (pyIter k) Q E ⟨f,g,d,i,j⟩:=λ{E Q}hq=>by rw[<- n];exact a.iter (s:=⟨f,g,d,i,j⟩) q hq
  have m:b.pre (f.push a.obj):=b.keep (λc o e=>af _ e) r;have u:∀{E:ab->ag->Prop}{Q:ab->ag->Prop},Q (.ref (f.push a.obj).objs.size) ⟨(f.push a.obj).push b.obj,g,d,i,j⟩->av (az P w) A.in1 (pyIter l) Q E ⟨f.push a.obj,g,d,i,j⟩:=λ{E Q}hq=>by rw[<- p];exact b.iter (s:=⟨f.push a.obj,g,d,i,j⟩) m hq
  wp_walk using t,u
  exact⟨_,rfl,h⟩
section
variable{P:aP}{w:aZ}{A:bb}{E:ab->ag->Prop}{s:ag}
def zbF(a b:ZK)(n:a.pre s.heap)(p:b.pre s.heap)
  (h:∀h',j7 h' (s.heap.objs.size+4) (s.heap.objs.size+2) (s.heap.objs.size+3) .none->fM h' (s.heap.objs.size+2) (.ref s.heap.objs.size) (.ref (s.heap.objs.size+1))->fM h' (s.heap.objs.size+3) .none .none->
   h'.get? s.heap.objs.size=Xy a.obj->h'.get? (s.heap.objs.size+1)=Xy b.obj->(∀c o,s.heap.get? c=Xy o->h'.get? c=Xy o)->Q (.ref (s.heap.objs.size+4)) { s with heap:=h' }):
  av (az P w) A (call (.type "zip") [a.val,b.val]) Q E s:=by
 refine callType_new F.called_zip 'u' (F.typeCall_zip_2 _ _) (F.newCall_zip_2 _ _) (λd=>F.args_object_init_3 d _ _) F.entry_zip_new (zhr a b _ _ rfl rfl) ⟨n,p,?_⟩;have q:a.obj.isFreed=Y1:=by cases a<;>rfl
 have r:b.obj.isFreed=Y1:=by cases b<;>rfl
 have e:(s.heap.push a.obj).objs.size=s.heap.objs.size+1:=cz ..;have f:((s.heap.push a.obj).push b.obj).objs.size=s.heap.objs.size+2:=by rw[cz,e]
 have g:(((s.heap.push a.obj).push b.obj).push { cls:=.type "tuple",data:=.seq #[.ref s.heap.objs.size,.ref (s.heap.push a.obj).objs.size] }).objs.size=s.heap.objs.size+3:=by rw[cz,f]
 have j:zA s.heap a b=s.heap.objs.size+4:=by show Array.size _=_;rw[cz,g]
 have i:(zH s.heap a b).get? (zA s.heap a b)=Xy _:=aI _ rfl;have k:(zH s.heap a b).get? (((s.heap.push a.obj).push b.obj).push { cls:=.type "tuple",data:=.seq #[.ref s.heap.objs.size,.ref (s.heap.push a.obj).objs.size] }).objs.size=Xy _:=af _ (aI _ rfl);have l:(zH s.heap a b).get? ((s.heap.push a.obj).push b.obj).objs.size=Xy _:=af _ (af _ (aI _ rfl));have m:(zH s.heap a b).get? (s.heap.push a.obj).objs.size=Xy _:=af _ (af _ (af _ (aI _ r)));have t:(zH s.heap a b).get? s.heap.objs.size=Xy _:=af _ (af _ (af _ (af _ (aI _ q))));rw[f,g,j] at i;rw[g] at k;rw[e,f] at l;rw[e] at m;rw[j];exact⟨⟨_,i,rfl⟩,h _ i l k t m λc o x=>af _ (af _ (af _ (af _ (af _ x))))⟩
end
def Held(X:Cx)(H:Hp)(h:a7)(b:ae):Prop:=H b≠XV \/ ∃o,X.base.get? b=Xy o
def Held.far{X:Cx}{a:List (ae×Obj)}{σ:St}{H:Hp}{s:ag}{b q:ae}(I:L2.Inv X a σ H s)(x:Held X H s.heap b)(f:tF X a H q):b≠q:=by
 rintro rfl;rcases x with x|⟨o,e⟩
 ·exact x f.1
 ·rcases f.2.2.2.1 with z|z
  ·exact I.ok.noex b o e z
  ·exact absurd (be (aN e) I.ok.bsz) (nF.mpr z)
structure Fh(P:aP)(w:aZ)(K:ai)(J:It)(ia:ae)(S:Nat->a7->Prop):Prop where
 obj:∀i h,S i h->∃o,h.get? ia=Xy o/\∀v,o.data ≠ .cell v
 keep:∀i h h',S i h->(∀o,h.get? ia=Xy o->h'.get? ia=Xy o)->S i h'
 got:∀(X:Cx),X.prog=P->X.w=w->X.K=K->∀(i:Nat)(Xa:List (ae×Obj))(s:ag)(σ:St)(H:Hp),L2.Inv X Xa σ H s->tF X Xa H ia->S i s.heap->(J.go i H\/J.stop i H)->
  ∃fp n Pv Sx,oY P w ia fp n Pv Sx/\Sx i s.heap/\(∀j h,Sx j h->S j h)/\(J.go i H->i<n)/\(J.stop i H->n<=i)/\(∀v,Pv i v->∃x,RelV x v/\J.yld i H x H)/\∀b∈fp,Held X H s.heap b
section
variable{P:aP}{w:aZ}{K:ai}
def RJ{X:Cx}{b:List (ae×Obj)}{σ:St}{H:Hp}{s:ag}{a:ae}{xs:List V}(I:L2.Inv X b σ H s)(h:sC X.K H a xs):Held X H s.heap a:=by
 rcases h with h|⟨o,d,n,c,_⟩
 ·exact .inl (by rcases h with h|⟨_,h⟩<;>(rw[h];simp))
 ·exact .inr ⟨o,I.ok.mod.kin a o c⟩
def U6{xs:List V}{a:List ab}{i:Nat}{v:ab}(r:oF xs a)(e:a[i]?=Xy v):∃x,xs[i]?=Xy x/\RelV x v:=by
 have f:=r.length;have b:i<xs.length:=by have:=(ao.mp e).1;lia
 obtain⟨u,c,d⟩:=r.get (am b);rw[e] at c;cases c;exact⟨_,am b,d⟩
def Y5(a l:ae):Fh P w K (PL K a) l (λi h=>h.IsTupleIter l a i) where
 obj:=λi h ⟨o,e,c,d⟩=>⟨o,e,λv z=>by rw[d] at z;cases z⟩
 keep:=λi h R ⟨o,e,c,d⟩ k=>⟨o,k o e,c,d⟩
 got:=by
  intro X B C D i q s S H I E F G;subst B C D;have J:∃g,sC X.K H a g:=by
   rcases G with⟨g,x,h,_⟩|⟨g,h,_⟩<;>exact⟨g,h⟩
  obtain⟨g,f⟩:=J;obtain⟨r,t,p,T⟩:=I.tuple f;have U:=t.length;refine⟨[a],_,_,_,zcF l a r.toArray ((RJ I f).far I E),⟨F,p⟩,λj h z=>z.1,λ⟨u,y,m,A⟩=>?_,λ⟨u,m,A⟩=>?_,λv L=>?_,λb M=>?_⟩
  ·have e:=I.tuple_inj m f;subst e;have:=(ao.mp A).1;simp;lia
  ·have e:=I.tuple_inj m f;subst e;simp;lia
  ·have n:r[i]?=Xy v:=⇑L
   obtain⟨x,N,O⟩:=U6 t n;exact⟨x,O,rfl,λu Q=>by rw[I.tuple_inj Q f];exact N⟩
  ·have:b=a:=⇑M
   subst this;exact RJ I f
end
def Xs(J1 J2:It):It:=
 ⟨λi H=>J1.go i H/\J2.go i H,λi H v H'=>∃p x y,H p=XV/\v=.ref p/\J1.yld i H x H/\J2.yld i H y H/\H'=upd H p (.tup [x,y]),λi H=>J1.stop i H/\(J2.go i H\/J2.stop i H)\/J1.go i H/\J2.stop i H⟩
def XX(z t o i j:ae)(S1 S2:Nat->a7->Prop)(n:Nat)(h:a7):Prop:=j7 h z t o .none/\fM h t (.ref i) (.ref j)/\(∃a b,fM h o a b)/\S1 n h/\S2 n h
def zdU(z t o i j:ae)(ap:[z,t,o,i,j].Nodup)(W:Fh P w K J1 i S1)(Y:Fh P w K J2 j S2):yA P w K (.Tuple es kt pt) (Xs J1 J2) [z,t,o,i,j] z (XX z t o i j S1 S2):=by
 simp only[bz,aw,cg,or_false,not_or,ir,and_true] at ap;obtain⟨⟨a1,a2,a3,a4⟩,⟨b1,b2,b3⟩,⟨c1,c2⟩,d1,_⟩:=ap;have TC:∀{X:Cx}{d:List (ae×Obj)}{s:ag}{C:St}{H:Hp}{Z tR:List ae},L2.Inv X d C H s->(∀b∈[z,t,o,i,j],tF X d H b)->(∀b∈Z,Held X H s.heap b)->(∀b∈tR,Held X H s.heap b)->HP z t o i j Z tR:=λ{X d s C H Z tR}I r h1 h2=>
  ⟨bP a1,bP a2,b1,λb f=>(aw.mp f).elim (λe=>by rw[e];exact⟨bP a3,bP c1⟩) λf=>⟨(h1 b f).far I (r z 'k'),(h1 b f).far I (r o 'k')⟩,
   λb f=>(aw.mp f).elim (λe=>by rw[e];exact⟨bP a4,bP c2⟩) λf=>⟨(h2 b f).far I (r z 'k'),(h2 b f).far I (r o 'k')⟩,
   λf=>(aw.mp f).elim d1 λf=>(h2 i f).far I (r i 'k') rfl,λf=>(aw.mp f).elim (bP d1) λf=>(h1 j f).far I (r j 'k') rfl,b2,b3⟩
 refine⟨by simp,λn h F b f=>?_,λn h h' F k=>?_,?_,?_,λA n s Q E F q=>wpAny_pyIter_zip F.1 q⟩
 ·obtain⟨J,G,⟨a,b',L⟩,M,N⟩:=F;simp only[aw,cg,or_false] at f;rcases f with rfl|rfl|rfl|rfl|rfl
  ·exact⟨_,J,λv e=>by cases e⟩
  ·exact⟨_,G,λv e=>by cases e⟩
  ·exact⟨_,L,λv e=>by cases e⟩
  ·exact W.obj n h M
  ·exact Y.obj n h N
 ·obtain⟨J,G,⟨a,b',L⟩,M,N⟩:=F;exact⟨k z 'k' _ J,k t 'k' _ G,⟨a,b',k o 'k' _ L⟩,W.keep n h h' M (k i 'k'),Y.keep n h h' N (k j 'k')⟩
 ·intro X O R S l n d s C H E I r F hg;obtain⟨g1,g2⟩:=hg;obtain⟨J,G,⟨a,b,L⟩,M,N⟩:=F;obtain⟨Z,n1,P1,T1,Z1,s1,u1,E3,rh,y1,f1⟩:=W.got X O R S n d s C H I (r i 'k') M (.inl g1);obtain⟨tR,n2,P2,T2,Z2,s2,u2,Xb,qP,y2,f2⟩:=Y.got X O R S n d s C H I (r j 'k') N (.inl g2);have D:=TC I r f1 f2;subst O R S;refine wT I (zjw Z1 Z2 D J G L s1 s2 (E3 g1) (Xb g2) λx y h' tk px py q1 q2 q3 q4 q5 hk rB=>⟨_,rfl,?_⟩);obtain⟨vx,rx,yx⟩:=y1 x px;obtain⟨vy,ry,yy⟩:=y2 y py;refine wpAny_letOwnedTupleGo_zip q1 λT e1 U=>?_;have nb:∀q∈[z,t,o,i,j],s.heap.objs.size≠q:=λq hq e=>by
   have:∃m,s.heap.get? q=Xy m:=by
    simp only[aw,cg,or_false] at hq;rcases hq with rfl|rfl|rfl|rfl|rfl
    ·exact⟨_,J⟩
    ·exact⟨_,G⟩
    ·exact⟨_,L⟩
    ·obtain⟨m,g,_⟩:=W.obj n _ M;exact⟨_,g⟩
    ·obtain⟨m,g,_⟩:=Y.obj n _ N;exact⟨_,g⟩
   obtain⟨m,g⟩:=this;exact absurd (aN g) (by rw[e];exact bZ _)
  have B:∀c m,c∉[z,t,o,i,j]->s.heap.get? c=Xy m->T.get? c=Xy m:=λc m l e=>by
   simp only[aw,cg,or_false,not_or] at l;exact U.extBut _ _ l.1 (hk c m l.1 l.2.2.1 l.2.2.2.1 l.2.2.2.2 e)
  have I1:L2.Inv X d C H { s with heap:=T,toks:=tk }:=Inv.turns [z,t,o,i,j] I B r;have zB:T.get? s.heap.objs.size=Xy { cls:=.type "tuple",data:=.seq #[x,y] }:=U.extBut _ _ (nb z 'k') q5;have V:H s.heap.objs.size=XV:=I.hok.fresh (aE _);have I2:L2.Inv X d C (upd H s.heap.objs.size (.tup [vx,vy])) { s with heap:=T,toks:=tk }:=by
   have un:Un (vI X.stack) [z,t,o,i,j] H (upd H s.heap.objs.size (.tup [vx,vy])) s.heap T:=by
    refine⟨λc m e _ _ l=>B c m l e,λc m e _ _ l=>⟨m.slots,B c m l e⟩,λc m e hn _=>?_,λc m e l=>⟨m,B c m l e⟩,λc zs e=>?_,λc m u e=>?_,λc ps e=>⟨#[],?_⟩⟩
    ·rw[qi (bq (aN e))];exact hn
    ·rw[qi (sR e V)];exact e
    ·rw[qi (sR e V)];exact e
    ·rw[qi (sR e V),e];simp
   have hok:HOk X.prog X.w (upd H s.heap.objs.size (.tup [vx,vy])) T:=by
    intro c u' e;by_cases l:c=s.heap.objs.size
    ·subst l;rw[rZ] at e;cases e;exact⟨by show 2<=Kw;decide,[x,y],.cons rx (.cons ry .nil),⟨_,zB,rfl,⟨_,rfl⟩,rfl⟩⟩
    ·rw[qi l] at e;refine(I1.hok c u' e).stay (λ_ _ _ q=>q) (λp q=>?_) λp zs q=>?_
     ·by_cases hp:p=s.heap.objs.size
      ·subst hp;rw[V] at q;cases q
      ·rw[qi hp];exact q
     ·by_cases hp:p=s.heap.objs.size
      ·subst hp;rw[V] at q;cases q
      ·rw[qi hp];exact q
   exact I.call (t':=tk) (d':=s.drawn) un hok I.bare λb f=>let ⟨_,f1,_,f3,f4,f5⟩:=r b f;⟨f3,f1,f4,f5⟩
  refine⟨.ref s.heap.objs.size,_,I2,rfl,⟨_,vx,vy,V,rfl,yx,yy,rfl⟩,⟨e1,?_,⟨_,_,U.extBut _ _ D.a2 q2⟩,?_,?_⟩,λb f=>?_⟩
  ·exact U.extBut _ _ D.a1 (hk _ _ D.a1 D.a3 D.d1 D.d2 G)
  ·exact u1 _ _ (Z1.but q3 U.extBut λb f=>(D.b1 b f).1)
  ·exact u2 _ _ (Z2.but q4 U.extBut λb f=>(D.b2 b f).1)
  ·rw[qi (bP (nb b f))];exact(r b f).1
 ·intro X O R S l n d s C H E I r F hg;obtain⟨J,G,⟨a,b,L⟩,M,N⟩:=F;have k1:J1.go n H\/J1.stop n H:=hg.elim (λz=>.inr z.1) λz=>.inl z.1;have k2:J2.go n H\/J2.stop n H:=hg.elim (λz=>z.2) λz=>.inr z.2;obtain⟨Z,n1,P1,T1,Z1,s1,u1,E3,rh,y1,f1⟩:=W.got X O R S n d s C H I (r i 'k') M k1;obtain⟨tR,n2,P2,T2,Z2,s2,u2,Xb,qP,y2,f2⟩:=Y.got X O R S n d s C H I (r j 'k') N k2;have D:=TC I r f1 f2;subst O R S;refine wT I (zkF (I.ok.hd l) Z1 Z2 D J G L s1 s2 (hg.elim (λq=>.inl (rh q.1)) λq=>.inr ⟨E3 q.1,qP q.2⟩) λh' tk hk rB=>⟨rfl,?_⟩);refine Inv.turns (t':=tk) [z,t,o,i,j] I (λc m l e=>?_) r;simp only[aw,cg,or_false,not_or] at l;exact hk c m l.1 l.2.2.1 l.2.2.2.1 l.2.2.2.2 e
noncomputable def Bo:D->Option Src
 |.tup ds=>Xy (.val ds)
 |_=>XV
def ID(t:DA):DI:=λσ O=>(t σ O).bnd λxs O1=>match xs with
 | [x,y]=>match Bo x,Bo y with
  |some p,Xy q=>.ok (.zip p q) O1
  |_,_=>.bad
 |_=>.bad
def oG.zipW(n:oG K J1 s1 H QH μ)(o:oG K J2 s2 H QH μ):oG K (Xs J1 J2) (.zip s1 s2) H QH μ:=by
 intro j g k b m c i;have e:=n j g k b m c i;have a:=o j g k b m c i;show match (match s1.get b i,s2.get b i with|some x,Xy y=>Xy (D.tup [x,y])|_,_=>XV) with|some d=>_|none=>_
 cases l:s1.get b i with
 | none=>
  rw[l] at e;refine .inl ⟨e,?_⟩;cases f:s2.get b i with
  |none=>rw[f] at a;exact .inr a
  |some d=>rw[f] at a;exact .inl a.1
 | some d1=>
  rw[l] at e;cases f:s2.get b i with
  |none=>rw[f] at a;exact .inr ⟨e.1,a⟩
  | some d2=>
   rw[f] at a;refine⟨⟨e.1,a.1⟩,λv t q=>?_⟩;obtain⟨p,x,y,h,rfl,r,s,rfl⟩:=q;exact⟨.laid h,c.laid h,Xf.newT c h (.cons (e.2 x g r).2.2 (.cons (a.2 y g s).2.2 .nil))⟩
section
variable{X:Cx}{Ex:Nat->Hp->Prop}{pos:Pos}{a b c e:aT}{Xa:List (ae×Obj)}{b_:St}{H:Hp}{s:ag}{QH μ:List ae}{O:Ow}
def Lx(I:L2.Inv X Xa b_ H s)(c:oC X.K H QH μ O)(h:Xf X.K H QH μ d v)(r:RelV v u)(e:Bo d=Xy src):
  ∃(k:ZK)(J:It),k.val=u/\k.pre s.heap/\oG X.K J src H QH μ/\∀f,∃S,Fh X.prog X.w X.K J f S/\∀h:a7,h.get? f=Xy k.obj->S 0 h:=by
 cases d with
 | tup ds=>
  unfold Xf at h;obtain⟨q,j,rfl,l,g⟩:=h;cases e;cases r;obtain⟨i,_,p,_⟩:=I.tuple l.sq;exact⟨.tup q i.toArray,_,rfl,p,.tup l g,λf=>⟨_,Y5 q f,λh z=>⟨_,z,rfl,rfl⟩⟩⟩
 |_=>cases e
def zeN(C:Gl X "zip")(D:X.mg "zip" = XV)(E:uA X Ex [a,b] t)(F:aR [a,b] X.env=[(Y1,eval a X.env),(Y1,eval b X.env)]:=by rfl)(r:aR [b] X.env=[(Y1,eval b X.env)]:=by rfl):
  tK X Ex (.Tuple uK kt pt) (.Call (.Name "zip" p) [a,b] [] pos) (ID t):=by
 refine⟨?_⟩;rintro Xa s b_ H G I ⟨QH,μ,σ,O,m,L,q⟩;refine kz (By I C D zeH (ez (qc (E.out pos Xa s b_ H _ I (uT.go m L q (Q1:=λo g=>∃QH h i j,oC X.K g QH h i/\oD X.K g QH h j o/\
   post Ex X.K (λH' M s J=>oG X.K J s H' QH M) g QH h (match j with|[x,y]=>(match Bo x,Bo y with|some p,Xy q=>.ok (.zip p q) i|_,_=>.bad)|_=>.bad) G)
  λj i o g h u x k d p=>⟨QH,h,i,j,k,d,p⟩)) λus f ⟨o,g,l,N,QH,h,i,j,k,d,p⟩=>?_) (by rw[F,r]) (by rw[r];rfl)))
 split at p
 ·rename_i x y;split at p
  ·rename_i sp sq m u;obtain⟨v,w,rfl,P,Q⟩:=D7 d;obtain⟨u1,u2,rfl,R,S⟩:=Iz N;obtain⟨T,J1,U,V,W,Y⟩:=Lx l k P R m;obtain⟨Z,J2,v2,p2,t2,i2⟩:=Lx l k Q S u;rw[<- U,<- v2];refine zbF T Z V p2 λh' z g3 g4 g1 g2 hk=>?_;refine wpAny_pyIter_zip z ?_;have I2:L2.Inv X Xa b_ g { f with heap:=h',toks:=f.toks }:=l.kept hk;obtain⟨S1,N1,z1⟩:=Y f.heap.objs.size;obtain⟨S2,N2,z2⟩:=i2 (f.heap.objs.size+1);refine⟨f.heap.objs.size+4,[f.heap.objs.size+4,f.heap.objs.size+2,f.heap.objs.size+3,f.heap.objs.size,f.heap.objs.size+1],_,_,g,rfl,I2,zdU _ _ _ _ _ ?_ N1 N2,⟨z,g3,⟨_,_,g4⟩,z1 _ g1,z2 _ g2⟩,λb A=>?_,post.here p k (.zipW W t2)⟩
   ·have nn:∀(n:ae),[n+4,n+2,n+3,n,n+1].Nodup:=λn=>by
     simp only[bz,aw,cg,or_false,not_or,ir,and_true];refine⟨⟨?_,?_,?_,?_⟩,⟨?_,?_,?_⟩,⟨?_,?_⟩,?_,not_false⟩<;>simp[ae] at * <;> lia
    exact nn _
   ·have B:f.heap.objs.size<=b:=by
     simp only[aw,cg,or_false] at A;rcases A with rfl|rfl|rfl|rfl|rfl<;>lia
    exact l.fpOk (H':=g) B (l.hok.fresh B)
  ·exact aj p
 ·exact aj p
end
end DL
namespace DL
open PySem L2
open AutoSeq1 (wpAny_loadPart')
section
variable{P:aP}{w:aZ}{A:bb}{E:ab->ag->Prop}{s:ag}
variable{ea ia:ae}{fp:List ae}{n k:Nat}{Pv:Nat->ab->Prop}{Sx:Nat->a7->Prop}{old:ab}
def zfH(J:oY P w ia fp n Pv Sx)(u:ij s.heap ea ia (k:Nat) old)(X:Sx k s.heap)(Y:k<n)(j:∀b∈ia::fp,b≠ea)
  (Z:∀x h' tk ti,Pv k x->IsEnumOut h' ea ia ((k:Int)+1) x s.heap.objs.size->Sx (k+1) h'->h'.get? s.heap.objs.size=Xy { cls:=.type "tuple",data:=.seq #[.int (k:Nat) ti,x] }->(∀b o,b≠ea->b≠ia->s.heap.get? b=Xy o->h'.get? b=Xy o)->Q (Xy (.ref s.heap.objs.size)) { s with heap:=h',toks:=tk }):
  av (az P w) A (pyNext (.ref ea)) Q E s:=by
 have S:s.TypeIs (.ref ea) "enumerate":=⟨_,u,rfl⟩;have C:ea≠ia:=bP (j ia ar);unfold pyNext;refine aa (fG (cI (name := "__next__") S fA (cf fA S kR ?_ (kA _))));obtain⟨e,g,d,tk,f⟩:=s;show av _ _ (field (.ref ea) 2 >>= _) _ _ _;refine aa (cb u rfl (x:=.ref ia) rfl (aa (J.item _ k _ _ _ Y X λx h a px D l=>?_)));have l:dg ia e h:=l;have F:ij h ea ia (k:Nat) old:=(l.2 ea C).trans u;show av _ _ (field (.ref ea) 3 >>= _) _ _ ⟨h,g,d,a,f⟩;refine aa (cb F rfl (x:=b9 (k:Nat)) rfl ?_);show av _ _ (field (.ref ea) 4 >>= _) _ _ ⟨h,g,d,a,f⟩;refine aa (cb F rfl (x:=(.none)) rfl ?_);show av _ _ (mkInt (k:Nat) >>= _) _ _ ⟨h,g,d,a,f⟩;refine aa (wpAny_mkInt ?_);show av _ _ (setField (.ref ea) 3 (b9 ((k:Int)+1)) >>= _) _ _ ⟨h,g,d,a+1,f⟩;refine aa (bK F 'k' λv G m=>?_);have m:dg ea h v:=m;have G:ij v ea ia ((k:Int)+1) old:=G;show av _ _ (setField (.ref ea) 4 .none >>= _) _ _ ⟨v,g,d,a+1,f⟩;refine aa (bK G 'k' λc H p=>?_);have p:dg ea v c:=p;have H:ij c ea ia ((k:Int)+1) old:=H;show av _ _ (newTuple [.int (k:Nat) a,x] >>= _) _ _ ⟨c,g,d,a+1,f⟩;refine aa (iq ?_);have y:ij (c.push { cls:=.type "tuple",data:=.seq #[.int (k:Nat) a,x] }) ea ia ((k:Int)+1) old:=af _ H;have T:c.objs.size=e.objs.size:=by rw[p.1,m.1,l.1]
 have I:ea<e.objs.size:=aN u;have U:(c.push { cls:=.type "tuple",data:=.seq #[.int (k:Nat) a,x] }).get? e.objs.size=Xy { cls:=.type "tuple",data:=.seq #[.int (k:Nat) a,x] }:=by rw[<- T];exact aI _ rfl
 have V:∀b o,b≠ea->b≠ia->e.get? b=Xy o->(c.push { cls:=.type "tuple",data:=.seq #[.int (k:Nat) a,x] }).get? b=Xy o:=λb o i K z=>af _ (p.extBut b o i (m.extBut b o i (l.extBut b o K z)));have W:Sx (k+1) (c.push { cls:=.type "tuple",data:=.seq #[.int (k:Nat) a,x] }):=J.stab _ _ _ (J.but (J.but D m.extBut j) p.extBut j) λb _ o z=>af _ z;generalize c.push { cls:=.type "tuple",data:=.seq #[.int (k:Nat) a,x] } = h4 at y U V W;show av _ _ (d8 (.ref ea) >>= _) _ _ ⟨h4,g,d,a+1,f⟩;rw[T];refine aa ?_;unfold d8;refine aa (cb y rfl (x:=(.none)) rfl (ah ?_));simp only[if_true];refine aa (dN (aa (cb y rfl (x:=old) rfl (aa (bK y 'k' λB L q=>?_)))));have q:dg ea h4 B:=q;have L:ij B ea ia ((k:Int)+1) x:=L;show av _ _ (fv (.ref ea) (.ref e.objs.size) >>= _) _ _ ⟨B,g,d,a+1,f⟩;refine aa ?_;unfold fv;refine aa (bK L 'k' λM N r=>?_);have r:dg ea B M:=r;have N:IsEnumOut M ea ia ((k:Int)+1) x e.objs.size:=N;refine bK N 'k' λO R t=>?_;have t:dg ea M O:=t;have R:IsEnumOut O ea ia ((k:Int)+1) x e.objs.size:=R;refine aa (gh (ah ⟨_,rfl,ah (Z x O _ a px R (J.but (J.but (J.but W q.extBut j) r.extBut j) t.extBut j) ?_ λb o i K z=>t.extBut b o i (r.extBut b o i (q.extBut b o i (V b o i K z))))⟩));exact t.extBut _ _ (eF I) (r.extBut _ _ (eF I) (q.extBut _ _ (eF I) U))
def zjv(d:A.handled=XV)(J:oY P w ia fp n Pv Sx)(a:ij s.heap ea ia (k:Nat) old)(f:Sx k s.heap)(g:n<=k)(h:∀h',jx ia s.heap h'->Q XV { s with heap:=h' }):av (az P w) A (pyNext (.ref ea)) Q E s:=by have c:s.TypeIs (.ref ea) "enumerate":=⟨_,a,rfl⟩;unfold pyNext;refine aa (fG (cI (name := "__next__") c fA (cf fA c kR ?_ (kA _))));show av _ _ (field (.ref ea) 2 >>= _) _ _ _;refine aa (cb a rfl (x:=.ref ia) rfl (aa (J.done _ k _ _ _ d g f λh' e i j=>?_)));obtain⟨l,m,o⟩:=j;exact aa (iV (T := "StopIteration") (b:=YP) ⟨l,m,o⟩ ll (ah (h _ i)))
end
end DL
namespace DL
open PySem L2
def Xw(J:It):It:=⟨J.go,λi H v H'=>∃p x,H p=XV/\v=.ref p/\J.yld i H x H/\H'=upd H p (.tup [.int (i:Nat),x]),J.stop⟩
def XS(ea ia:ae)(S:Nat->a7->Prop)(n:Nat)(h:a7):Prop:=(∃old,ij h ea ia (n:Nat) old)/\S n h
def zcJ(f i:ae)(ap:f≠i)(N:Fh P w K J i S)(GZ:∀(A:bb)(n:Nat)(s:ag)(Q E:ab->ag->Prop),(∃o,ij s.heap f i (n:Nat) o)->Q (.ref f) s->av (az P w) A (pyIter (.ref f)) Q E s):yA P w K (.Tuple es kt pt) (Xw J) [f,i] f (XS f i S):=by
 refine⟨by simp,λn h t b r=>?_,λn h R t k=>?_,?_,?_,λA n s Q E t q=>GZ A n s Q E t.1 q⟩
 ·obtain⟨⟨o,y⟩,z⟩:=t;simp at r;rcases r with rfl|rfl
  ·exact⟨_,y,λv e=>by cases e⟩
  ·exact N.obj n h z
 ·obtain⟨⟨o,y⟩,z⟩:=t;exact⟨⟨o,k f 'k' _ y⟩,N.keep n h R z (k i 'k')⟩
 ·intro X U V W d n j s G H E I B t D;obtain⟨⟨o,y⟩,z⟩:=t;obtain⟨fp,m,Pv,T,Z,Y,u1,E3,rh,y1,L⟩:=N.got X U V W n j s G H I (B i 'k') z (.inl D);have ne:∀b∈i::fp,b≠f:=λb r=>(aw.mp r).elim (λe=>by rw[e];exact bP ap) λr=>(L b r).far I (B f 'k');refine wT I (zfH Z y Y (E3 D) ne λx R tk tki px q1 q2 q3 hk rB=>⟨_,rfl,?_⟩);obtain⟨M,rx,yx⟩:=y1 x px;refine wpAny_letOwnedTupleGo_enum q1 λO e1 e2=>?_;have nb:∀q∈[f,i],s.heap.objs.size≠q:=λq hq e=>by
   have:∃a,s.heap.get? q=Xy a:=by
    simp at hq;rcases hq with rfl|rfl
    ·exact⟨_,y⟩
    ·obtain⟨a,g,_⟩:=N.obj n _ z;exact⟨_,g⟩
   obtain⟨a,g⟩:=this;exact absurd (aN g) (by rw[e];exact bZ _)
  have l:∀c a,c∉[f,i]->s.heap.get? c=Xy a->O.get? c=Xy a:=λc a d e=>by
   simp at d;exact e2.extBut _ _ d.1 (hk c a d.1 d.2 e)
  have I1:=Inv.turns [f,i] I l B;have zB:=e2.extBut _ _ (nb f 'k') q3;have C:=I.hok.fresh (aE _);have I2:L2.Inv X j G (upd H s.heap.objs.size (.tup [.int (n:Nat),M])) { s with heap:=O,toks:=tk }:=by
   have un:Un (vI X.stack) [f,i] H (upd H s.heap.objs.size (.tup [.int (n:Nat),M])) s.heap O:=by
    refine⟨λc a e _ _ d=>l c a d e,λc a e _ _ d=>⟨a.slots,l c a d e⟩,λc a e hn _=>?_,λc a e d=>⟨a,l c a d e⟩,λc zs e=>?_,λc a u e=>?_,λc ps e=>⟨#[],?_⟩⟩
    ·rw[qi (bq (aN e))];exact hn
    ·rw[qi (sR e C)];exact e
    ·rw[qi (sR e C)];exact e
    ·rw[qi (sR e C),e];simp
   have hok:HOk X.prog X.w (upd H s.heap.objs.size (.tup [.int (n:Nat),M])) O:=by
    intro c u' e;by_cases d:c=s.heap.objs.size
    ·subst d;rw[rZ] at e;cases e;exact⟨by show 2<=Kw;decide,[.int (n:Nat) tki,x],.cons ⟨_,rfl⟩ (.cons rx .nil),⟨_,zB,rfl,⟨_,rfl⟩,rfl⟩⟩
    ·rw[qi d] at e;refine(I1.hok c u' e).stay (λ_ _ _ q=>q) (λp q=>?_) λp zs q=>?_
     ·by_cases F:p=s.heap.objs.size
      ·subst F;rw[C] at q;cases q
      ·rw[qi F];exact q
     ·by_cases F:p=s.heap.objs.size
      ·subst F;rw[C] at q;cases q
      ·rw[qi F];exact q
   exact I.call un hok I.bare λb r=>let ⟨_,L,_,f3,f4,f5⟩:=B b r;⟨f3,L,f4,f5⟩
  refine⟨.ref s.heap.objs.size,_,I2,rfl,⟨_,M,C,rfl,yx,rfl⟩,⟨⟨_,by exact_mod_cast e1⟩,?_⟩,λb r=>?_⟩
  ·exact u1 _ _ (Z.but q2 e2.extBut ne)
  ·rw[qi (bP (nb b r))];exact(B b r).1
 ·intro X U V W d n j s G H E I B t D;obtain⟨⟨o,y⟩,z⟩:=t;obtain⟨fp,m,Pv,T,Z,Y,u1,E3,rh,y1,L⟩:=N.got X U V W n j s G H I (B i 'k') z (.inr D);refine zjv (I.ok.hd d) Z y Y (rh D) λR eb=>⟨rfl,?_⟩;refine Inv.turns [f,i] I (λc a d e=>?_) B;simp at d;exact eb c a d.2 e
def zU(ds:List D):List D:=ds.zipIdx.map λq=>.tup [.int (q.2:Nat),q.1]
def UR(ds:List D)(i:Nat):(zU ds)[i]?=(ds[i]?).map λd=>D.tup [.int (i:Nat),d]:=by unfold zU;rw[bd,List.getElem?_zipIdx];cases ds[i]?<;>simp
def oG.enum(l:oG K J (.val ds) H QH μ):oG K (Xw J) (.val (zU ds)) H QH μ:=by
 intro g a b j m c i;have e:match ds[i]? with|some d=>J.go i a/\∀x f,J.yld i a x f->Ext a b f b/\oC K f g b j/\Xf K f g b d x|none=>J.stop i a:=l g a b j m c i
 show match (zU ds)[i]? with|some d=>_|none=>_
 rw[UR];cases k:ds[i]? with
 |none=>rw[k] at e;exact e
 | some d1=>
  rw[k] at e;refine⟨e.1,λv f n=>?_⟩;obtain⟨p,x,h,rfl,o,rfl⟩:=n;exact⟨.laid h,c.laid h,Xf.newT c h (.cons sP (.cons (e.2 x a o).2.2 .nil))⟩
section
variable{s:ag}
def zep:bC "enumerate" = Xy (.type "enumerate"):=by boot_by_name
def Vf(b d:ae)(A:bb)(n:Nat)(s:ag)(Q E:ab->ag->Prop)(h:∃a,ij s.heap b d (n:Nat) a)(q:Q (.ref b) s):av (az P w) A (pyIter (.ref b)) Q E s:=by obtain⟨a,h⟩:=h;have c:s.TypeIs (.ref b) "enumerate":=⟨_,h,rfl⟩;refine jX c lp (cf lp c F.entry_enumerate_iter ?_ (F.args_enumerate_iter_1 _));exact ah ⟨_,rfl, "enumerate",_,c,fA.lookup,q⟩
end
end DL
namespace DL
open PySem L2
open PyProof.Rows hiding St
section
variable{X:Cx}{Ex:Nat->Hp->Prop}{pos:Pos}{a b c e:aT}{ta tb te:DE}{Xa:List (ae×Obj)}{b_:L2.St}{H:Hp}{s:ag}{QH μ:List ae}{O:Ow}
def QJ(K:ai):R2:=λx y H Q=>∃a b ys,x=.ref a/\y=.ref b/\sC K H a []/\sC K H b ys/\Q (.ref b) H
def ziG:qZ X (dU .Add) (QJ X.K):=by
 intro Xa s M H x y v u Q I g i h;obtain⟨p,q,N,rfl,rfl,j,k,l⟩:=h;cases g;cases i;obtain⟨m,n,⟨⟨P,o,r,t⟩,d,w,z,A⟩,_⟩:=I.tuple j;obtain⟨B,R,⟨⟨S,C,D,E⟩,f,F,G,J⟩,_⟩:=I.tuple k;have L:m=[]:=by cases n;rfl
 subst L;subst w;subst F;subst A;subst J;exact jA ⟨_,d,rfl⟩ ⟨_,f,rfl⟩ kg lQ iH iw (hW _ _) (PyProof.Rows.tuple_addW0 p q #[] B.toArray z G o C t E rfl) ⟨d,f,⟨.ref q,H,I,rfl,l⟩⟩
def w_:Ow->D->D->R D:=λO x y=>match x,y with
 |.tup [],.tup ys=>.ok (.tup ys) O
 |x,y=>rC O x y
def zfc:sS X Ex (λx y H Q=>QJ X.K x y H Q\/Lr X.K x y H Q) w_:=by
 intro H QH μ O x y v w Q c g d q;unfold w_ at q;split at q
 ·rename_i m;have f:=d;obtain⟨p,n,rfl,l,h⟩:=g;obtain⟨i,j,rfl,k,o⟩:=d;unfold oD at h;subst h;exact .inl ⟨p,i,j,rfl,rfl,l.sq,k.sq,post.here q c f⟩
 ·exact .inr (R1 H QH μ O _ _ v w Q c g d q)
def ziW(d:PD X Ex a ta)(f:PD X Ex b tb):PD X Ex (.BinOp a .Add b pos) (c_ w_ ta tb):=LB (qZ.or ziG Te) zfc d f
noncomputable def XT(K:ai):V->Option Int->Option Int->Hp->VK->Prop:=λx lo hi H Q=>∃a xs,x=.ref a/\sC K H a xs/\(HT.sIx xs.length 0 lo=0/\HT.sIx xs.length xs.length hi=xs.length)/\Q (.ref a) H
def z6J{P:aP}{w:aZ}{A:bb}{E:ab->ag->Prop}{s:ag}{t i:ae}{d:Array ab}{k l:ab}{lo g:Option Int}{Q:ab->ag->Prop}(f:IsTup s.heap t d)(m:s.heap.IsSliceOf i k l .none)(o:h9 k lo)(p:h9 l g)
  (n:HT.sIx d.size 0 lo=0/\HT.sIx d.size d.size g=d.size) (h:Q (.ref t) s):av (az P w) A (getItem (.ref t) (.ref i)) Q E s:=by
 obtain⟨q,r,j,x⟩:=id m;have u:s.TypeIs (.ref i) "slice":=⟨q,r,j⟩;unfold getItem
 try with_reducible refine bH ?_
 first|refine aa (ah ?_)|skip
 refine aa (wpAny_sequenceKey f.typeIs 'u' (aa (cI f.typeIs cK (cf cK f.typeIs lW ?_ (md _ _)))));show av _ _ (jN (.ref t) >>= _) _ _ s;refine aa (tupleItemsOf_ f (aa (i6 u ?_)));refine aa (HT.sliceApplied_gen m o p ?_);have v:(((HT.sIx d.size 0 lo:Nat):Int)==0&&(1:Int)==1&&(HT.sIx d.size d.size g-HT.sIx d.size 0 lo)==d.size)=YP:=by
  rw[n.1,n.2];simp
 show av _ _ (if (((HT.sIx d.size 0 lo:Nat):Int)==0&&(1:Int)==1&&(HT.sIx d.size d.size g-HT.sIx d.size 0 lo)==d.size)=YP then _ else _) _ _ s;rw[Kk v];refine aa ?_;refine aa (i6 f.typeIs (ah ?_));exact aa (dN (ah ⟨_,rfl,ah h⟩))
def zg4:xR X (XT X.K):=by
 intro Xa s t H x v u w y z A Q I g i j k h;obtain⟨p,l,rfl,m,n,q⟩:=h;cases g;obtain⟨o,r,f,B⟩:=I.tuple m;have d:o.toArray.size=l.length:=by rw[aL];exact r.length.symm
 exact⟨"tuple",_,cK.lookup,f.typeIs,z6J f i j k (by rw[d];exact n) ⟨.ref p,H,I,rfl,q⟩⟩
def Yp(O:Ow)(x:D)(lo hi:Option Int):R D:=match x with
 |.tup ds=>if HT.sIx ds.length 0 lo=0/\HT.sIx ds.length ds.length hi=ds.length then .ok (.tup ds) O else .ok (.tup (Aw ds lo hi)) O
 |x=>Pm O x lo hi
def DP(te:DE)(tl th:DO):DE:=λσ O=>(te σ O).bnd λx O1=>(tl σ O1).bnd λlo O2=>(th σ O2).bnd λhi O3=>Yp O3 x lo hi
def zkL{lo B:Option aT}{C D:DO}{J:Pos}(L:PD X Ex e te)(M:Bk X Ex lo C)(N:Bk X Ex B D):PD X Ex (.Subscript e (.Slice lo B XV J) pos) (DP te C D):=
 sE (TU (xR.or zg4 (xR.or Q9 (xR.or RT Ts))) L.out M.out N.out) λQH μ σ O b_ H Q P R q=>rd.go P R q λd O1 v H1 g_ S x T r p=>CU.go S T p λl O2 H2 qe U V W Y=>CU.go U W Y λu y E F e4 Z h w=>by
  have n:=(r.ext V).ext Z;cases d with
  | tup j=>
   have rr:=n;obtain⟨o,t,rfl,G,m⟩:=n;have f:rM Ex X.K E QH F (if HT.sIx j.length 0 l=0/\HT.sIx j.length j.length u=j.length then .ok (.tup j) y else .ok (.tup (Aw j l u)) y) Q:=w;split at f
   ·rename_i z;exact .inl ⟨o,t,rfl,G.sq,by rw[<- m.length];exact z,post.here f h rr⟩
   ·rename_i z;exact .inr (.inr (.inl ⟨o,t,rfl,G.sq,by rw[<- m.length];exact z,λI g=>post.ok f (.laid g) (h.laid g) (Xf.newT h g (F7 m l u))⟩))
  | str i=>
   unfold Xf at n;subst n;have f:=w;obtain⟨EU,f⟩:=post.ite f;refine .inr (.inl ⟨_,rfl,?_,post.here f h ?_⟩)
   ·show i.toArray.size<=_;rw[aL];exact zj EU
   ·unfold Xf;rw[Mp]
  | lst j=>
   have f:=w;obtain⟨o,t,rfl,A,m⟩:=vU h n (rfl);exact .inr (.inr (.inr ⟨o,t,rfl,A,λI g=>post.ok f (.laid g) (h.laid g) (Xf.newL h g (F7 m l u))⟩))
  | own k=>
   have f:rM Ex X.K E QH F (match y[k]? with|some j=>.ok (.lst (Aw j l u)) y|none=>.bad) Q:=w;split at f
   ·rename_i j B2;obtain⟨o,t,rfl,A,m⟩:=vU h n (B2);exact .inr (.inr (.inr ⟨o,t,rfl,A,λI g=>post.ok f (.laid g) (h.laid g) (Xf.newL h g (F7 m l u))⟩))
   ·exact aj f
  |_=>exact aj w
end
end DL
namespace DL
open PySem L2
section
variable{X:Cx}{Ex:Nat->Hp->Prop}
noncomputable def Ff:Ow->D->D->R D:=λO x y=>match x,y with
 |.int i,.int j=>.ok (.bl (decide (i<j))) O
 |.str p,.str q=>.ok (.bl (decide (p<q))) O
 |_,_=>.bad
def Ze:qZ X (cD .Lt) (λx y H Q=>(∃i j,x=.str i/\y=.str j/\Q (.bl (decide (i.cps.toList<j.cps.toList))) H)\/uU (λi j=>.bl (decide (i<j))) x y H Q):=qZ.or zcr Lz
def zjY:sS X Ex (λx y H Q=>(∃i j,x=.str i/\y=.str j/\Q (.bl (decide (i.cps.toList<j.cps.toList))) H)\/uU (λi j=>.bl (decide (i<j))) x y H Q) Ff:=by
 intro H a e O x y v w Q c b d q;unfold Ff at q;split at q
 ·rename_i i j;exact .inr (LJ H a e O (.int i) (.int j) v w Q c b d q)
 ·unfold Xf at b d;subst b;subst d;exact .inl ⟨_,_,rfl,rfl,post.here q c vS⟩
 ·exact aj q
end
section
structure zpt(mg:aB->Option ab)(x:aB)(i:Int):Prop where
 ex:∃t,mg x=Xy (.int i t)
end
section
variable{X:Cx}{Ex:Nat->Hp->Prop}{pos:Pos}{tg e:aT}{te:DE}
def Fe(g:Tg)(te:DE):DS:=λσ O=>(te σ O).bnS λd O1=>match g.put d σ with
 |some σ'=>.nx σ' O1
 |none=>.bad
def zi1(b:PD X Ex e te)(f:PG X tg (g.rd X.K))(h:jJ [tg] e pos.line X.env=pure Y1:=by rfl)(i:jK [tg] e X.env=pure XV:=by rfl)(j:(gH [tg] X.env).map (·.2)=[assign tg X.env]:=by rfl):vm X Ex (.Assign [tg] e pos) (Fe g te):=
 zX (RQ b.out f h i j) λk y l O E z H m n q=>rd.goS m n q λd A v o s t x c r p=>by
  cases a:g.put d l with
  |none=>rw[a] at p;exact aj p
  | some σ'=>
   rw[a] at p;exact g.ok2 t r a λu w _=>p u o s .refl w c
end
end DL
namespace DL
open PySem L2 PySem.Spec PyProof.Rows
end DL
namespace DL
open PySem L2 PySem.Spec PyProof.Rows
open Sem (wp)
end DL
namespace DL
open PySem L2 PySem.Spec PyProof.Rows
end DL
namespace DL
open PySem
def zkZ:bC "set" = Xy (.type "set"):=by boot_by_name
end DL
namespace DL
open PySem L2
open AutoSeq1 (wpAny_loadPart')
section
variable{X:Cx}{Ex:Nat->Hp->Prop}{b e o:aT}{to:DE}
def Iw:Int->Int->Option D:=λi j=>if 0<=j then Xy (.int (i/2 ^ j.toNat)) else XV
def Ii:Int->Int->Option D:=gI k7
def HF:Int->Int->Option D:=gI iM
def Fg:Int->Int->Option D:=gI k8
def zhI:sS X Ex (rI (λ_ j=>0<=j) λi j=>.int (i/2 ^ j.toNat)) (fI Iw):=El λi j d h=>by
 unfold Iw at h;split at h
 ·rename_i a;cases h;exact⟨a,λ_ _ _ _=>sP⟩
 ·cases h
def zjd:sS X Ex (uU λi j=>.int (k7 i j)) (fI Ii):=Cz λi j d h _ _ _ _=>by cases h;exact sP
def ZU:sS X Ex (uU λi j=>.int (iM i j)) (fI HF):=Cz λi j d h _ _ _ _=>by cases h;exact sP
def zhZ:sS X Ex (uU λi j=>.int (k8 i j)) (fI Fg):=Cz λi j d h _ _ _ _=>by cases h;exact sP
def zeq(l:ae)(xs:Array ab)(n:Nat)(b:ae)(a:Array ab)(m:Nat)(f:Array (Option ab))(g:¬(!xs.isEmpty&&fY (xs.size+a.size))=YP)(i:xs.size<=Kw)(j:xs.size+a.size<=Kw+1):
  Meets (d0.«list.extend» ⟨[.ref l,.ref b],[]⟩) (λ_ R s=>s.heap.get? l=Xy { cls:=.type "list",data:=.seq xs n }/\s.heap.get? b=Xy { cls:=.type "list",data:=.seq a m,slots:=f }/\R (.ok (.ret .none)) { s with heap:=s.heap.update l (bF λx=>x++a) }):=
 .of_wp λc w A R s h=>by
  obtain⟨d,k,h⟩:=h;have p:(xs++a).size<=Kw+1:=by rw[gk];exact j
  wp_walk using(ge d rfl),wpAny_loadPart' d,wpAny_loadPart' k
  exact⟨_,rfl,h⟩
def XG(K:ai):V->List V->Hp->VK->Prop:=λx vs H Q=>∃l b xs zs,x=.ref l/\vs=[.ref b]/\H l=Xy (.lst xs)/\rn K H b zs/\xs.length+zs.length<=Kw/\Q .non (upd H l (.lst (xs++zs)))
def Zp:PK X "list.extend" (XG X.K):=by
 intro f s J H x L v M Q I j k h;obtain⟨l,b,N,O,rfl,rfl,g,m,P,q⟩:=h;cases j;obtain⟨u,rfl,p⟩:=k.one;cases p;obtain⟨z,a,n,r,R,e⟩:=I.lstM g;obtain⟨c,i,⟨t,w,y,A,d,B⟩,_⟩:=I.list m;obtain⟨S,C,T,D⟩:=t;subst A;subst d;subst B;have U:=i.length;have E:a.toArray.size+c.toArray.size<=Kw:=by rw[aL,aL];lia
 have G:¬ (!a.toArray.isEmpty&&fY (a.toArray.size+c.toArray.size))=YP:=by
  rw[zfR E,Bool.and_false];exact cE
 refine call_meets lq ⟨_,e,rfl⟩ F.entry_list_extend (F.args_list_extend_2 _ _)
  (zeq l a.toArray n b c.toArray w D G (by rw[aL];lia) 'd') ⟨e,y,?_⟩
 refine⟨.non,_,I.lset g e 'k' (r.append i) ?_,rfl,q⟩;rw[au];lia
def zO(to:DE)(t:DA):DE:=λσ O=>(to σ O).bnd λx O1=>match x with
 | .own k=>(t σ O1).bnd λys O2=>match ys,O2[k]? with
  | [y],Xy ds=>match r9 O2 y with
   |some es=>if ds.length+es.length<=4000000 then .ok .non (O2.set k (ds++es)) else .bad
   |none=>.bad
  |_,_=>.bad
 |_=>.bad
def zcO(m:PD X Ex o to)(n:uA X Ex (e::es) t)(s:attributeBase o "extend" X.env (eval o X.env)=eval o X.env:=by rfl)
  (u:((backTo qh (aR (e::es) X.env)).all (λx=>!x.1)&&(backToKw qh (keywordEach [] X.env)).all (λx=>x.1.isSome)&&decide ((e::es).length+([]:List fT).length+(if ([]:List fT).isEmpty then 0 else 1)<30))=YP:=by rfl)
  (z:(apos.endLine==qh.line)=YP:=by rfl) (B:aR (e::es) X.env=(Y1,eval e X.env)::aR es X.env:=by rfl) (C:(backTo qh (aR es X.env)).any (·.1)=Y1:=by rfl):
  PD X Ex (.Call (.Attribute o "extend" apos) (e::es) [] qh) (zO to t):=
 sE (IA iy lq PySem.F.type_list_extend Zp m.out n.out s u z B C) λD μ σ O b_ H Q E G q=>rd.go E G q λd O1 v H1 g_ I x g r p=>by
  cases d with
  | own k=>
   have J:=r;obtain⟨A,rfl,K⟩:=r;obtain⟨ds,L,h1,M,h3⟩:=g.at_ k A K;refine⟨.inl ⟨rfl,L,.of M⟩,uT.go I g p λys O2 ws H2 N e3 P c R a=>?_⟩;split at a
   ·rename_i y uK S;split at a
    ·rename_i zs T;obtain⟨U,a⟩:=post.ite a;obtain⟨w,rfl,V⟩:=uu R;have f:N[k]?=Xy A:=by
      have:=J.ext P;obtain⟨A',W,Y⟩:=this;cases W;exact Y
     obtain⟨E4,Z,h,i,j⟩:=c.at_ k A f;rw[S] at h;cases h;obtain⟨pb,vz,rfl,sq,l⟩:=vU c V T;refine⟨A,pb,Z,vz,rfl,rfl,i,sq,aH (by rw[<- j.length,<- l.length];exact U) 'u',?_⟩;exact post.ok a (.put (aF f) ⟨_,i⟩) (c.put f (j.append l)) Jn
    ·exact aj a
   ·exact aj a
  |_=>exact aj p
end
set_option maxHeartbeats 1000000 in
def zcU(q:ZK)(a:ab)(i:q.val=a):
  Meets (d0.«enumerate.__new__» ⟨[.type "enumerate",a],[]⟩) (λ_ R s=>q.pre s.heap/\
   R (.ok (.ret (.ref (s.heap.push q.obj).objs.size))) { s with heap:=(s.heap.push q.obj).push { cls:=.type "enumerate",data:=.fields #[.none,.bool Y1,.ref s.heap.objs.size,b9 0,.none,.none] } }):=
 .of_wp λP w A R s h=>by
  obtain⟨b,g,d,e,f⟩:=s;obtain⟨j,h⟩:=h;have l:=sub_enumerate;have c:∀{A:bb}{E:ab->ag->Prop}{Q:ab->ag->Prop},Q (.ref b.objs.size) ⟨b.push q.obj,g,d,e,f⟩->av (az P w) A (pyIter a) Q E ⟨b,g,d,e,f⟩:=λ{A E Q}hq=>by rw[<- i];exact q.iter j hq
  wp_walk
  refine wpAny_stack_any λm=>ah (?_);split
  ·rename_i k _ _ _ _ _;cases (k==eG "enumerate")
   ·wp_walk using c
    exact⟨_,rfl,h⟩
   ·wp_walk using c
    exact⟨_,rfl,h⟩
  ·wp_walk using c
   exact⟨_,rfl,h⟩
section
variable{P:aP}{w:aZ}{A:bb}{E:ab->ag->Prop}{s:ag}
def zbp(q:ZK)(e:q.pre s.heap)
  (h:∀h',ij h' (s.heap.objs.size+1) s.heap.objs.size 0 .none->h'.get? s.heap.objs.size=Xy q.obj->(∀b o,s.heap.get? b=Xy o->h'.get? b=Xy o)->Q (.ref (s.heap.objs.size+1)) { s with heap:=h' }):
  av (az P w) A (call (.type "enumerate") [q.val]) Q E s:=by
 refine callType_new F.called_enumerate 'u' (F.typeCall_enumerate_1 _) (F.newCall_enumerate_1 _) (λa=>F.args_object_init_2 a _) F.entry_enumerate_new (zcU q _ rfl) ⟨e,?_⟩;have f:q.obj.isFreed=Y1:=by cases q<;>rfl
 have c:(s.heap.push q.obj).objs.size=s.heap.objs.size+1:=cz ..;rw[c];have d:ij ((s.heap.push q.obj).push { cls:=.type "enumerate",data:=.fields #[.none,.bool Y1,.ref s.heap.objs.size,b9 0,.none,.none] }) (s.heap.objs.size+1) s.heap.objs.size 0 .none:=by
  have q:=aI (s.heap.push q.obj) (o:={ cls:=.type "enumerate",data:=.fields #[.none,.bool Y1,.ref s.heap.objs.size,b9 0,.none,.none] }) rfl;rw[c] at q;exact q
 exact⟨⟨_,d,rfl⟩,h _ d (af _ (aI _ f)) λb o x=>af _ (af _ x)⟩
end
def Jb(t:DA):DI:=λσ O=>(t σ O).bnd λxs O1=>match xs with
 | [x]=>match Bo x with
  |some (.val ds)=>.ok (.val (zU ds)) O1
  |_=>.bad
 |_=>.bad
section
variable{X:Cx}{Ex:Nat->Hp->Prop}{pos:Pos}{a b:aT}{Xa:List (ae×Obj)}{b_:St}{H:Hp}{s:ag}{QH μ:List ae}{O:Ow}
def zcQ(o:Gl X "enumerate")(r:X.mg "enumerate" = XV)(u:uA X Ex [a] t)(w:aR [a] X.env=[(Y1,eval a X.env)]:=by rfl):
  tK X Ex (.Tuple uK kt pt) (.Call (.Name "enumerate" p) [a] [] pos) (Jb t):=by
 refine⟨?_⟩;rintro Xa s b_ H y I ⟨QH,μ,W,O,z,A,q⟩;refine kz (By I o r zep (ez (qc (u.out pos Xa s b_ H _ I (uT.go z A q (Q1:=λk f=>∃QH g h c,oC X.K f QH g h/\oD X.K f QH g c k/\
   post Ex X.K (λB C s J=>oG X.K J s B QH C) f QH g (match c with|[x]=>(match Bo x with|some (.val c)=>.ok (.val (zU c)) h|_=>.bad)|_=>.bad) y)
  λc h k f g Y x i d p=>⟨QH,g,h,c,i,d,p⟩)) λZ e ⟨k,f,j,D,QH,g,h,c,i,d,p⟩=>?_) (by rw[w];rfl) (by rfl)))
 split at p
 ·rename_i x;split at p
  ·rename_i ts E;obtain⟨v,rfl,F⟩:=uu d;obtain⟨u1,rfl,G⟩:=uO D;obtain⟨L,J1,M,N,P,Q⟩:=Lx j i F G E;rw[<- M];refine zbp L N λh' l R S=>(Vf (e.heap.objs.size+1) e.heap.objs.size _ 0 _ _ _ ⟨_,l⟩ ?_);have T:=j.kept S;obtain⟨S1,U,V⟩:=Q e.heap.objs.size;refine⟨e.heap.objs.size+1,[e.heap.objs.size+1,e.heap.objs.size],_,_,f,rfl,T,zcJ _ _ (Nat.succ_ne_self _) U (Vf _ _),⟨⟨_,l⟩,V _ R⟩,λb m=>?_,post.here p i (.enum P)⟩;have n:e.heap.objs.size<=b:=by
    simp at m;rcases m with rfl|rfl<;>lia
   exact j.fpOk n (j.hok.fresh n)
  ·exact aj p
 ·exact aj p
end
end DL
namespace TS
open PySem PyProof.Rows
abbrev G1:=Bool->bh->Array bh->Nat->Nat->Nat->StateT bS Sem (Option Nat)
abbrev M1:=Array bh->Array bh->StateT bS Sem (Array bh)
def lay(xs:Array bh)(at_:Nat)(m:List bh):Array bh:=m.zipIdx.foldl (λa x=>a.setIfInBounds (at_+x.2) x.1) xs
structure o0 where
 g:G1
 lo:M1
 hi:M1
 at_:∀{M:i4}{A:bb}{E:ab->ag->Prop}{s:ag}{i:Nat}{st:bS}{Q:Bool->bS->Prop}{sa na pw sb nb Kt:Nat}{kb:bh},
  (Kv st)[i]?=Xy (sa,na,pw)->(Kv st)[i+1]?=Xy (sb,nb,Kt)->(Ku st)[sb]?=Xy kb->
  wpS M A E s (g Y1 kb (Ku st) sa na 0) (λr rh=>∃k,r=Xy k/\(na-k=0->Q YP rh)/\(na-k≠0->∃ka,(Ku st)[sa+k+(na-k)-1]?=Xy ka/\
   wpS M A E s (g YP ka (Ku st) sb nb (nb-1)) (λr2 qP=>∃m,r2=Xy m/\(m=0->Q YP qP)/\(m≠0->
    wpS M A E s (if na-k<=m then lo ((Ku st).extract (sa+k) sb) ((Ku st).extract sb (sb+m)) else hi ((Ku st).extract (sa+k) sb) ((Ku st).extract sb (sb+m)))
     (λmg qz=>Q (failedOf qz).isNone (setArr qz (lay (Ku qz) (sa+k) mg.toList))) qP)) rh)) (setPending st (((Kv st).setIfInBounds i (sa,na+nb,pw)).eraseIdxIfInBounds (i+1)))->
  wpS M A E s (mergeAt' i) Q st
def tX{M:i4}{A:bb}{E:ab->ag->Prop}{s:ag}{b:bS}{a:Array bh}{i:Nat}{x:bh}{Q:bh->bS->Prop}(h:a[i]?=Xy x)(q:Q x b):wpS M A E s (elem' a i) Q b:=by rw[elem'_eq,h];exact aO q
def zjc{M:i4}{A:bb}{E:ab->ag->Prop}{s:ag}{σ:Type}{b a:σ}{Q:PUnit->σ->Prop}(q:Q ⟨⟩ a):wpS M A E s (set a) Q b:=fP (f:=λ_=>a) q
noncomputable def o5:o0:=by
 apply o0.mk
 case at_=>
  intro M A E s i st Q sa na pw sb nb Kt kb h1 h2 h3 h;show wpS M A E s (get >>= _) Q st;refine aJ (gU ?_);rw[show(Kv st)[i]?=_ from h1,show(Kv st)[i+1]?=_ from h2];refine aJ (zjc (aJ (tX h3 (aJ (dO h ?_)))));rintro _ rh ⟨k,rfl,e0,e1⟩;by_cases hk:na-k=0
  ·show wpS M A E s (if (na-k==0)=YP then _ else _) Q rh;rw[Kk (by rw[hk];rfl)];exact aO (e0 hk)
  ·show wpS M A E s (if (na-k==0)=YP then _ else _) Q rh;rw[Ko ⇑hk];obtain⟨ka,q1,q2⟩:=e1 hk;refine aJ (tX q1 (aJ (dO q2 ?_)));rintro _ qP ⟨m,rfl,f0,f1⟩;by_cases hm:m=0
   ·subst hm;exact aO (f0 rfl)
   ·show wpS M A E s (if (m==0)=YP then _ else _) Q qP;rw[Ko ⇑hm];have f2:=f1 hm;by_cases hc:na-k<=m
    ·rw[Kk hc] at f2;show wpS M A E s (if na-k<=m then _ else _) Q qP;rw[Kk hc];exact aJ (dO f2 λmg qz q=>aJ (fP (aJ (gU (aO q)))))
    ·rw[Ko hc] at f2;show wpS M A E s (if na-k<=m then _ else _) Q qP;rw[Ko hc];exact aJ (dO f2 λmg qz q=>aJ (fP (aJ (gU (aO q)))))
section
variable{prog:aP}{w:aZ}{A:bb}{E:ab->ag->Prop}{s:ag}{κ:a8}{st:bS}{kd:KT}
def ky(κ:a8)(x:bh):κ.α:=(κ.keyOf x.1).getD κ.dflt
def um(κ:a8)(x:bh):Prop:=∃a,κ.keyOf x.1=Xy a
abbrev Ty{α β:Type}(_:α->β):Type:=β
abbrev KT:Type:=Ty kindOf
def xv(prog:aP)(w:aZ)(A:bb)(s:ag)(κ:a8)(kd:KT):Prop:=∀(x y:bh)(E':ab->ag->Prop){Q:Bool->ag->Prop},um κ x->um κ y->Q (κ.blt (ky κ x) (ky κ y)) s->av (az prog w) A (keyLt' kd x.1 y.1) Q E' s
def xv.one(e:κ.OneLt):xv prog w A s κ oneType':=λx y f Q ⟨a,c⟩ ⟨b,d⟩ q=>by
 have g:ky κ x=a:=by unfold ky;rw[c];rfl
 have h:ky κ y=b:=by unfold ky;rw[d];rfl
 rw[g,h] at q;exact e prog w A f s x.1 y.1 a b c d q
def FL(a:xv prog w A s κ kd)(b:kindOf st=kd)(c:um κ x)(d:um κ y)(q:Q (Xy (κ.blt (ky κ x) (ky κ y))) st):wpS (az prog w) A E s (lt' x y) Q st:=by rw[lt'_eq];refine aJ (gU (aJ (jq (fG ?_))));rw[b];exact a x y _ c d ⟨rfl,aO q⟩
def uz(κ:a8)(left:Bool)(key x:bh):Bool:=if left=YP then κ.blt (ky κ x) (ky κ key) else !κ.blt (ky κ key) (ky κ x)
def Fy{α β:Type}{G:Prop}{H:α->β->Prop}(P:α->β->Prop)(h:(∀x y,H x y->P x y)->G)(k:∀x y,H x y->P x y):G:=h k
def ziN(W:xv prog w A s κ kd){left:Bool}{f:bh}{G:Array bh}{base n hint:Nat}{b:Nat->Bool}(X:kindOf st=kd)(Y:um κ f)(hb:∀i,i<n->∃x,G[base+i]?=Xy x/\um κ x/\uz κ left f x=b i)(hh:hint<n)(u:∀i j,i<=j->j<n->b j=YP->b i=YP)
  {Q:Option Nat->bS->Prop} (q:∀k,k<=n->(∀i,i<k->b i=YP)->(∀i,k<=i->i<n->b i=Y1)->Q (Xy k) st):wpS (az prog w) A E s ((o0.g o5) left f G base n hint) Q st:=by
 have B:∀i,i<n->∀{Q:Option Bool->bS->Prop},Q (Xy (b i)) st->wpS (az prog w) A E s (elem' G (base+i) >>= λx=>if left=YP then lt' x f else lt' f x >>= λr=>pure (r.map λx=>!x)) Q st:=λi a Q Z=>by
  obtain⟨x,v,C,t⟩:=hb i a;refine aJ (tX v ?_);unfold uz at t;cases left with
  | true=>
   rw[Kk rfl] at t;rw[Kk rfl];exact FL W X C Y (by rw[t];exact Z)
  | false=>
   rw[Ko 'u'] at t;rw[Ko 'u'];exact aJ (FL W X Y C (aO (by show Q (Xy (!κ.blt (ky κ f) (ky κ x))) st;rw[t];exact Z)))
 have z:∀i j,i<=j->i<n->j<n->b i=Y1->b j=Y1:=λi j Dl a hj D=>by
  cases e:b j with
  |false=>rfl
  |true=>rw[u i j Dl hj e] at D;cases D
 show wpS _ _ _ _ (_ >>= _) Q st;refine aJ (B hint hh ?_);apply Fy (α:=Nat) (β:=Nat) (H:=λd a=>d<=a/\a<=n/\(∀i,i<d->b i=YP)/\(∀i,a<=i->i<n->b i=Y1));intro f;cases W2:b hint with
 | true=>
  refine aJ (dO (cV (I:=λk c p=>p=st/\∃l o,c=(XV,l,o)/\l<o/\k+1<=o/\hint+l<n/\b (hint+l)=YP) (Q:=λc p=>p=st/\∃l o,c=(XV,l,o)/\l<o/\hint+l<n/\b (hint+l)=YP/\(hint+o<n->b (hint+o)=Y1)) ?_ ?_ ?_) ?_)
  ·rintro k c p _ zD ⟨M,l,o,rfl,v,C,t,y⟩;subst p;show wpS _ _ _ _ (if o ≥ n-hint then _ else _) _ st;by_cases F:o ≥ n-hint
   ·rw[Kk F];exact aO ⟨rfl,l,o,rfl,v,t,y,λh=>by lia⟩
   ·rw[Ko F];refine aJ (B (hint+o) 'd' ?_);cases N:b (hint+o) with
    |true=>exact aO ⟨rfl,o,2*o+1,rfl,by lia,by lia,by lia,N⟩
    |false=>exact aO ⟨rfl,l,o,rfl,v,t,y,λ_=>N⟩
  ·rintro c p ⟨M,l,o,rfl,v,C,t,y⟩;subst p;exact⟨rfl,l,o,rfl,v,t,y,λh=>by rw[d6] at C;lia⟩
  ·exact⟨rfl,0,1,rfl,by lia,by lia,by lia,W2⟩
  ·rintro c p ⟨M,l,o,rfl,v,t,y,T⟩;subst p;have O:hint+l+1<=hint+min o (n-hint):=by lia
   have P:hint+min o (n-hint)<=n:=by lia
   have R:∀i,i<hint+l+1->b i=YP:=λi a=>u i (hint+l) 'd' t y;have D:∀i,hint+min o (n-hint)<=i->i<n->b i=Y1:=λi a S=>by
    have:hint+o<n:=by lia
    exact z (hint+o) i 'd' this S (T this)
   show wpS _ _ _ _ (forIn [:n] (XV,hint+l+1,hint+min o (n-hint)) _ >>= _) Q st;generalize hint+l+1=d at *;generalize hint+min o (n-hint)=a at *;exact f _ _ ⟨O,P,R,D⟩
 | false=>
  refine aJ (dO (cV (I:=λk c p=>p=st/\∃l o,c=(XV,l,o)/\l<o/\k+1<=o/\l<=hint/\b (hint-l)=Y1) (Q:=λc p=>p=st/\∃l o,c=(XV,l,o)/\l<o/\l<=hint/\b (hint-l)=Y1/\(o<=hint->b (hint-o)=YP)) ?_ ?_ ?_) ?_)
  ·rintro k c p _ zD ⟨M,l,o,rfl,v,C,t,y⟩;subst p;show wpS _ _ _ _ (if o ≥ hint+1 then _ else _) _ st;by_cases F:o ≥ hint+1
   ·rw[Kk F];exact aO ⟨rfl,l,o,rfl,v,t,y,λh=>by lia⟩
   ·rw[Ko F];refine aJ (B (hint-o) 'd' ?_);cases N:b (hint-o) with
    |true=>exact aO ⟨rfl,l,o,rfl,v,t,y,λ_=>N⟩
    |false=>exact aO ⟨rfl,o,2*o+1,rfl,by lia,by lia,by lia,N⟩
  ·rintro c p ⟨M,l,o,rfl,v,C,t,y⟩;subst p;exact⟨rfl,l,o,rfl,v,t,y,λh=>by rw[d6] at C;lia⟩
  ·exact⟨rfl,0,1,rfl,by lia,by lia,by lia,W2⟩
  ·rintro c p ⟨M,l,o,rfl,v,t,y,T⟩;subst p;have O:hint+1-min o (hint+1)<=hint-l:=by lia
   have P:hint-l<=n:=by lia
   have R:∀i,i<hint+1-min o (hint+1)->b i=YP:=λi a=>by
    have:o<=hint:=by lia
    exact u i (hint-o) 'd' 'd' (T this)
   have D:∀i,hint-l<=i->i<n->b i=Y1:=λi a S=>z (hint-l) i a 'd' S y;show wpS _ _ _ _ (forIn [:n] (XV,hint+1-min o (hint+1),hint-l) _ >>= _) Q st;generalize hint+1-min o (hint+1)=d at *;generalize hint-l=a at *;exact f _ _ ⟨O,P,R,D⟩
 rintro d a ⟨O,P,R,D⟩;refine aJ (dO (cV (I:=λk c U=>U=st/\∃d a,c=(XV,d,a)/\d<=a/\a<=n/\a-d<=n-k/\(∀i,i<d->b i=YP)/\(∀i,a<=i->i<n->b i=Y1)) (Q:=λc U=>U=st/\∃m,c=(XV,m,m)/\m<=n/\(∀i,i<m->b i=YP)/\(∀i,m<=i->i<n->b i=Y1)) ?_ ?_ ?_) ?_)
 ·rintro k c V _ zD ⟨rfl,d,a,rfl,g1,J,g3,K,L⟩;show wpS _ _ _ _ (if d ≥ a then _ else _) _ V;by_cases F:d ≥ a
  ·rw[Kk F];have:d=a:=by lia
   subst this;exact aO ⟨rfl,d,rfl,J,K,L⟩
  ·rw[Ko F];refine aJ (B (d+(a-d)/2) 'd' ?_);cases uk:b (d+(a-d)/2) with
   |true=>exact aO ⟨rfl,d+(a-d)/2+1,a,rfl,by lia,J,by lia,λi xO=>u i (d+(a-d)/2) 'd' 'd' uk,L⟩
   |false=>exact aO ⟨rfl,d,d+(a-d)/2,rfl,by lia,by lia,by lia,K,λi xO S=>z (d+(a-d)/2) i xO 'd' S uk⟩
 ·rintro c V ⟨rfl,d,a,rfl,g1,J,g3,K,L⟩;rw[d6] at g3;have:d=a:=by lia
  subst this;exact⟨rfl,d,rfl,J,K,L⟩
 ·exact⟨rfl,d,a,rfl,O,P,by lia,R,D⟩
 ·rintro c V ⟨rfl,m,rfl,J,K,L⟩;exact aO (q m J K L)
end
section
variable{κ:a8}
def Le(κ:a8)(x y:bh):Prop:=κ.blt (ky κ y) (ky κ x)=Y1
def Le.refl(x:bh):Le κ x x:=κ.irrefl _
def Le.trans(a:Le κ x y)(b:Le κ y z):Le κ x z:=by
 unfold Le at *;cases e:κ.blt (ky κ z) (ky κ x) with
 |false=>rfl
 | true=>
  rcases κ.negTrans _ (ky κ y) _ e with h|h
  ·rw[b] at h;cases h
  ·rw[a] at h;cases h
def Le.of(h:κ.blt (ky κ x) (ky κ y)=YP):Le κ x y:=by
 unfold Le;cases e:κ.blt (ky κ y) (ky κ x) with
 |false=>rfl
 | true=>
  have:=κ.trans _ _ _ h e;rw[κ.irrefl] at this;cases this
def qX(κ:a8)(l:List bh):Prop:=l.Pairwise (Le κ)
structure Out(κ:a8)(a b r:List bh):Prop where
 perm:r.Perm (a++b)
 srt:qX κ r
structure Mg(κ:a8)(a b o:List bh)(i j:Nat):Prop where
 perm:o.Perm (a.take i++b.take j)
 srt:qX κ o
 la:∀x∈o,∀y∈a.drop i,Le κ x y
 lb:∀x∈o,∀y∈b.drop j,Le κ x y
variable{a b o:List bh}{i j:Nat}
def Mg.len(h:Mg κ a b o i j)(c:i<=a.length)(d:j<=b.length):o.length=i+j:=by rw[h.perm.length_eq,au,bU,bU];lia
def T4{α:Type}(l:List α)(i k:Nat){x:α}(h:x∈l.drop (i+k)):x∈l.drop i:=by rw[<- eI] at h;exact dh h
def qX.take_drop(h:qX κ l)(k:Nat):∀x∈l.take k,∀y∈l.drop k,Le κ x y:=by unfold qX at h;rw[<- cn k l,bL] at h;exact h.2.2
def Mg.addA(h:Mg κ a b o i j)(f:qX κ a)(k:Nat)(d:∀y∈(a.drop i).take k,∀z∈b.drop j,Le κ y z):Mg κ a b (o++(a.drop i).take k) (i+k) j:=by
 have e:qX κ (a.drop i):=f.sublist (dB i a);refine⟨?_,?_,λx hx y c=>?_,λx hx y c=>?_⟩
 ·rw[oa];refine(h.perm.append_right _).trans ?_;rw[aX,aX];exact(cY).append_left _
 ·unfold qX;rw[bL];exact⟨h.srt,e.sublist (cZ k _),λx hx y c=>h.la x hx y (cO c)⟩
 ·rcases aM.mp hx with hx|hx
  ·exact h.la x hx y (T4 a i k c)
  ·exact e.take_drop k x hx y (by rw[eI];exact c)
 ·rcases aM.mp hx with hx|hx
  ·exact h.lb x hx y c
  ·exact d x hx y c
def Mg.addB(h:Mg κ a b o i j)(f:qX κ b)(k:Nat)(d:∀y∈(b.drop j).take k,∀z∈a.drop i,Le κ y z):Mg κ a b (o++(b.drop j).take k) i (j+k):=by
 have e:qX κ (b.drop j):=f.sublist (dB j b);refine⟨?_,?_,λx hx y c=>?_,λx hx y c=>?_⟩
 ·rw[oa];refine(h.perm.append_right _).trans ?_;rw[aX]
 ·unfold qX;rw[bL];exact⟨h.srt,e.sublist (cZ k _),λx hx y c=>h.lb x hx y (cO c)⟩
 ·rcases aM.mp hx with hx|hx
  ·exact h.la x hx y c
  ·exact d x hx y c
 ·rcases aM.mp hx with hx|hx
  ·exact h.lb x hx y (T4 b j k c)
  ·exact e.take_drop k x hx y (by rw[eI];exact c)
def Mg.fin(h:Mg κ a b o i j)(d:qX κ a)(e:qX κ b)(f:∀x∈a.drop i,∀y∈b.drop j,Le κ x y):Out κ a b (o++a.drop i++b.drop j):=by
 refine⟨?_,?_⟩
 ·refine((h.perm.append_right _).append_right _).trans ?_
  conv=>rhs;rw[<- cn i a,<- cn j b]
  simp only[aX];refine fB _ ?_;rw[<- aX,<- aX];exact cY.append_right _
 ·unfold qX;rw[bL,bL];refine⟨⟨h.srt,d.sublist (dB i a),h.la⟩,e.sublist (dB j b),λx g y c=>?_⟩;rcases aM.mp g with h'|h'
  ·exact h.lb x h' y c
  ·exact f x h' y c
def Mg.fin'(h:Mg κ a b o i j)(c:qX κ a)(d:qX κ b)(e:∀y∈b.drop j,∀x∈a.drop i,Le κ y x):Out κ a b (o++b.drop j++a.drop i):=by have f:Mg κ b a o j i:=⟨h.perm.trans cY,h.srt,h.lb,h.la⟩;have:=f.fin d c e;exact⟨this.perm.trans cY,this.srt⟩
def BC{l:List bh}{i:Nat}{x:bh}(h:l[i]?=Xy x):(l.drop i).take 1=[x]:=by obtain⟨c,rfl⟩:=ao.mp h;rw[dk c];rfl
def Ei(h:qX κ l)(e:l[i]?=Xy x):∀y∈l.drop i,Le κ x y:=by
 obtain⟨c,rfl⟩:=ao.mp e;intro y hy;rw[dk c] at hy;have d:qX κ (l.drop i):=h.sublist (dB i l);rw[dk c] at d;rcases aw.mp hy with rfl|hy
 ·exact Le.refl _
 ·exact(bR.mp d).1 y hy
end
structure oK(st h_:bS):Prop where
 kind:kindOf h_=kindOf st
 arr:Ku h_=Ku st
 pend:Kv h_=Kv st
 failed:failedOf h_=failedOf st
def oK.refl(a:bS):oK a a:=⟨rfl,rfl,rfl,rfl⟩
def oK.trans{a b c:bS}(h:oK a b)(g:oK b c):oK a c:=⟨g.kind.trans h.kind,g.arr.trans h.arr,g.pend.trans h.pend,g.failed.trans h.failed⟩
section
variable{prog:aP}{w:aZ}{A:bb}{E:ab->ag->Prop}{s:ag}{κ:a8}{st:bS}{kd:KT}
def x_{a:Array bh}{i:Nat}(h:i<a.size):∃x,a[i]?=Xy x/\a.toList[i]?=Xy x:=⟨a[i],by simp[h],by simp[h]⟩
def SU{M:i4}{f:bS->bS}{Q:PUnit->bS->Prop}(b:oK st (f st))(h:∀a,oK st a->Q ⟨⟩ a):wpS M A E s (modify f) Q st:=fP (h _ b)
def IU(a:Array bh)(i:Nat):(a.extract i).toList=a.toList.drop i:=by simp only[lI,j8];exact cP 'k'
def LZ(a:Array bh)(i k:Nat):(a.extract i (i+k)).toList=(a.toList.drop i).take k:=by simp
def QZ{a b:List bh}{c:Array bh}{d e:Nat}{x:bh}(m:Mg κ a b c.toList d e)(g:qX κ a)(f:a[d]?=Xy x)(h:∀z∈b.drop e,Le κ x z):Mg κ a b (c.push x).toList (d+1) e:=by have:=m.addA g 1 (by rw[BC f];intro y i;rw[dH.mp i];exact h);rw[BC f] at this;rw[eQ];exact this
def Qw{a b:List bh}{c:Array bh}{d e:Nat}{x:bh}(m:Mg κ a b c.toList d e)(g:qX κ b)(f:b[e]?=Xy x)(h:∀z∈a.drop d,Le κ x z):Mg κ a b (c.push x).toList d (e+1):=by have:=m.addB g 1 (by rw[BC f];intro y i;rw[dH.mp i];exact h);rw[BC f] at this;rw[eQ];exact this
def Ey(D:xv prog w A s κ kd){left:Bool}{c:bh}{d:Array bh}{base n hint:Nat}{L:List bh}(C:(d.toList.drop base).take n=L)(F:kindOf st=kd)(G:um κ c)(P:base+n<=d.size)(H:hint<n)(t:∀x∈L,um κ x)(u:qX κ L)
  {Q:Option Nat->bS->Prop} (q:∀k,k<=n->(∀x∈L.take k,uz κ left c x=YP)->(∀x∈L.drop k,uz κ left c x=Y1)->Q (Xy k) st):wpS (az prog w) A E s ((o0.g o5) left c d base n hint) Q st:=by
 have I:L.length=n:=by
  rw[<- C,bU,cy,aG];lia
 have m:∀i,i<n->∃x,d[base+i]?=Xy x/\L[i]?=Xy x:=λi f=>by
  obtain⟨x,v,l⟩:=x_ (a:=d) (i:=base+i) 'd';refine⟨x,v,?_⟩;rw[<- C,fW f,ms];exact l
 refine ziN D (b:=λi=>match L[i]? with|some x=>uz κ left c x|none=>Y1) F G (λi f=>?_) H (λi j R J e=>?_) λk K M N=>q k K (λx o=>?_) λx o=>?_
 ·obtain⟨x,v,l⟩:=m i f;exact⟨x,v,t x (aF l),by rw[l]⟩
 ·obtain⟨x,_,o⟩:=m i 'd';obtain⟨y,_,r⟩:=m j J;rw[r] at e;rw[o]
  replace e:uz κ left c y=YP:=e
  show uz κ left c x=YP;by_cases h:i=j
  ·subst h;rw[o] at r;cases r;exact e
  have p:Le κ x y:=by
   obtain⟨z,rfl⟩:=ao.mp o;obtain⟨B,rfl⟩:=ao.mp r;exact dZ.mp u i j z B 'd'
  unfold uz at e ⊢;cases left with
  | true=>
   rw[Kk rfl] at e ⊢;rcases κ.negTrans _ (ky κ x) _ e with h|h
   ·rw[show κ.blt (ky κ y) (ky κ x)=Y1 from p] at h;cases h
   ·exact h
  | false=>
   rw[Ko 'u'] at e ⊢;have O:Le κ y c:=by unfold Le;simpa using e
   have:Le κ x c:=p.trans O;unfold Le at this;rw[this];rfl
 ·obtain⟨i,f,e⟩:=lZ o;have z:i<k:=by rw[bU] at f;lia
  have:=M i z;have l:L[i]?=Xy x:=by rw[<- e,mR];exact am (by rw[bU] at f;lia)
  rw[l] at this;exact this
 ·obtain⟨i,f,e⟩:=lZ o;rw[cy] at f;have:=N (k+i) 'd' 'd';have l:L[k+i]?=Xy x:=by rw[<- e,mS];exact am 'd'
  rw[l] at this;exact this
def QO{α:Type}{G:Prop}(P:α->Prop)(h:(∀x,P x)->G)(k:∀x,P x):G:=h k
def Zj(ho:xv prog w A s κ kd){a b:Array bh}(hk:kindOf st=kd)(ha:∀x∈a.toList,um κ x)(hb:∀x∈b.toList,um κ x)(U:qX κ a.toList)(R:qX κ b.toList)(pa:1<=a.size)(pb:1<=b.size)
  (h0:∀x∈b.toList.take 1,∀y∈a.toList,Le κ x y) (hl:∀y∈b.toList,∀x∈a.toList.drop (a.size-1),Le κ y x) {Q:Array bh->bS->Prop} (q:∀r D,oK st D->Out κ a.toList b.toList r.toList->Q r D):wpS (az prog w) A E s ((o0.lo o5) a b) Q st:=by
 have N6:a.toList.length=a.size:=aG;have N5:b.toList.length=b.size:=aG;have tT:∀{l:Array bh}{d f:Nat},Mg κ a.toList b.toList l.toList d f->(f=b.size\/d=a.size)->Out κ a.toList b.toList (l++a.extract d++b.extract f).toList:=λ{l d f}m h=>by
  rw[bT,bT,IU,IU];refine m.fin U R λx n y N=>?_;rcases h with rfl|rfl
  ·rw[fk 'd'] at N;cases N
  ·rw[fk 'd'] at n;cases n
 have tS:∀{l:Array bh}{d f:Nat},Mg κ a.toList b.toList l.toList d f->d+1=a.size->Out κ a.toList b.toList (l++b.extract f++a.extract d).toList:=λ{l d f}m h=>by
  rw[bT,bT,IU,IU];refine m.fin' U R λy N x n=>hl y (dh N) x ?_;have:a.size-1=d:=by lia
  rw[this];exact n
 obtain⟨b0,g0,l0⟩:=x_ (a:=b) (i:=0) 'd';have m0:Mg κ a.toList b.toList (#[b0]:Array bh).toList 0 1:=by
  have e:b.toList.take 1=[b0]:=by
   have:=BC l0;simpa using this
  refine⟨by rw[e];exact d9 _,kB _ _,λx n y N=>h0 x (by rw[e];exact n) y N,λx n y N=>?_⟩;have:x=b0:=⇑n
  subst this;exact Ei R l0 y (dh N)
 show wpS _ _ _ _ (_ >>= _) Q st;refine aJ (jq (dN ⟨rfl,aJ (tX g0 ?_)⟩));by_cases c1:1=b.size
 ·show wpS _ _ _ _ (if (1==b.size)=YP then _ else _) Q st;rw[Kk ⇑c1];exact aO (q _ st (oK.refl st) (tT m0 (.inl c1)))
 show wpS _ _ _ _ (if (1==b.size)=YP then _ else _) Q st;rw[Ko ⇑c1];by_cases c2:1=a.size
 ·show wpS _ _ _ _ (if (0+1==a.size)=YP then _ else _) Q st;rw[Kk ⇑c2];exact aO (q _ st (oK.refl st) (tS m0 'd'))
 show wpS _ _ _ _ (if (0+1==a.size)=YP then _ else _) Q st;rw[Ko ⇑c2];refine aJ (gU (aJ (dO (cV (I:=λk c D=>oK st D/\∃l d f G,c=(XV,l,d,f,G)/\Mg κ a.toList b.toList l.toList d f/\d+1<a.size/\f<b.size/\k+1<=l.size) (Q:=λc D=>oK st D/\∃r,c.1=Xy r/\Out κ a.toList b.toList r.toList) ?_ ?_ ?_) ?_)))
 ·rintro k c rh _ hkt ⟨sm,l,d,f,G,rfl,m,J,F,c5⟩;have Hn:kindOf rh=kd:=sm.kind.trans hk;refine aJ (dO (cV (I:=λj c D=>D=rh/\∃o d f t v,c=(XV,o,d,f,t,v)/\Mg κ a.toList b.toList o.toList d f/\d+1<a.size/\f<b.size/\l.size+j<=o.size) (Q:=λc D=>D=rh/\((∃r,c.1=Xy r/\Out κ a.toList b.toList r.toList) \/ ∃o d f t v,c=(XV,o,d,f,t,v)/\Mg κ a.toList b.toList o.toList d f/\d+1<a.size/\f<b.size/\l.size+1<=o.size)) ?_ ?_ ?_) ?_)
  ·rintro j c qP _ OL ⟨rfl,o,d,f,t,v,rfl,m,J,F,c6⟩;obtain⟨y,gy,X⟩:=x_ (a:=b) F;obtain⟨x,gx,S⟩:=x_ (a:=a) (i:=d) 'd';refine aJ (tX gy (aJ (tX gx (aJ (FL ho Hn (hb y (aF X)) (ha x (aF S)) ?_)))));cases hc:κ.blt (ky κ y) (ky κ x) with
   | true=>
    have Y:=Qw m R X λz K=>(Le.of hc).trans (Ei U S z K);refine aJ (tX gy ?_);show wpS _ _ _ _ (if (f+1==b.size)=YP then _ else _) _ qP;by_cases e:f+1=b.size
    ·rw[Kk ⇑e];exact aO ⟨rfl,.inl ⟨_,rfl,tT Y (.inl e)⟩⟩
    ·rw[Ko ⇑e];split
     ·exact aO ⟨rfl,.inr ⟨o.push y,d,f+1,0,v+1,rfl,Y,J,by lia,by rw[cw];lia⟩⟩
     ·exact aO ⟨rfl,o.push y,d,f+1,0,v+1,rfl,Y,J,by lia,by rw[cw];lia⟩
   | false=>
    have Y:=QZ m U S λz K=>Le.trans (show Le κ x y from hc) (Ei R X z K);refine aJ (tX gx ?_);show wpS _ _ _ _ (if (d+1+1==a.size)=YP then _ else _) _ qP;by_cases e:d+1+1=a.size
    ·rw[Kk ⇑e];exact aO ⟨rfl,.inl ⟨_,rfl,tS Y e⟩⟩
    ·rw[Ko ⇑e];split
     ·exact aO ⟨rfl,.inr ⟨o.push x,d+1,f,t+1,0,rfl,Y,by lia,F,by rw[cw];lia⟩⟩
     ·exact aO ⟨rfl,o.push x,d+1,f,t+1,0,rfl,Y,by lia,F,by rw[cw];lia⟩
  ·rintro c qP ⟨rfl,o,d,f,t,v,rfl,m,J,F,c6⟩;have:=m.len 'd' 'd';rw[aG] at this;rw[d6] at c6;lia
  ·exact⟨rfl,l,d,f,0,0,rfl,m,J,F,by lia⟩
  rintro c qP ⟨rfl,h⟩;rcases h with⟨r,e,hr⟩|⟨o,d,f,t,v,rfl,m,J,F,c6⟩
  ·obtain⟨c,c'⟩:=c;dsimp only at e;subst e;exact aO ⟨sm,r,rfl,hr⟩
  refine aJ (jq (dN ⟨rfl,aJ (dO (cV (I:=λj c D=>oK st D/\∃B d f G t v,c=(XV,B,d,f,G,t,v)/\Mg κ a.toList b.toList B.toList d f/\d+1<a.size/\f<b.size/\o.size+j<=B.size) (Q:=λc D=>oK st D/\((∃r,c.1=Xy r/\Out κ a.toList b.toList r.toList) \/ ∃B d f G t v,c=(XV,B,d,f,G,t,v)/\Mg κ a.toList b.toList B.toList d f/\d+1<a.size/\f<b.size/\o.size<=B.size)) ?_ ?_ ?_) ?_)⟩))
  ·rintro j c qz _ OL ⟨T,B,d,f,G,t,v,rfl,m,J,F,c6⟩;obtain⟨y,gy,X⟩:=x_ (a:=b) F;have N:=hb y (aF X);have Dz:∀M,oK st M->∀{Q:Option Nat->bS->Prop},(∀k,k<=a.size-d->(∀x∈(a.toList.drop d).take k,Le κ x y)->(∀x∈a.toList.drop (d+k),Le κ y x)->Q (Xy k) M)->wpS (az prog w) A E s ((o0.g o5) Y1 y a d (a.size-d) 0) Q M:=λM s4 Q h=>
    Ey ho (L:=a.toList.drop d) (cP (by rw[cy];lia)) (s4.kind.trans hk) N 'd' 'd' (λx n=>ha x (dh n)) (U.sublist (dB d _)) λk h1 h2 h3=>h k h1 (λx n=>by
     have:=h2 x n;unfold uz at this;rw[Ko 'u'] at this;unfold Le;simpa using this) λx n=>by
     rw[<- eI] at n;have:=h3 x n;unfold uz at this;rw[Ko 'u'] at this;exact Le.of ⇑this
   have Dy:∀x{C:Nat},a.toList[C]?=Xy x->∀M,oK st M->f+1<b.size->∀{Q:Option Nat->bS->Prop},(∀k,k<=b.size-(f+1)->(∀z∈(b.toList.drop (f+1)).take k,Le κ z x)->(∀z∈b.toList.drop (f+1+k),Le κ x z)->Q (Xy k) M)->wpS (az prog w) A E s ((o0.g o5) YP x b (f+1) (b.size-(f+1)) 0) Q M:=λx C S M s4 h4 Q h=>
    Ey ho (L:=b.toList.drop (f+1)) (cP (by rw[cy];lia)) (s4.kind.trans hk) (ha x (aF S)) 'd' 'd' (λx n=>hb x (dh n)) (R.sublist (dB _ _)) λk h1 h2 h3=>h k h1 (λz K=>by
     have:=h2 z K;unfold uz at this;rw[Kk rfl] at this;exact Le.of this) λz K=>by
     rw[<- eI] at K;have:=h3 z K;unfold uz at this;rw[Kk rfl] at this;exact this
   show wpS _ _ _ _ (if G>1 then _ else _) _ qz;apply QO (α:=Nat)
   ·intro p;split
    ·generalize G-1=GO;exact p GO
    ·exact p G
   intro GO;refine aJ (SU ⟨rfl,rfl,rfl,rfl⟩ λM s4=>aJ (tX gy (aJ (Dz M (T.trans s4) ?_))));have V:=T.trans s4;intro k zD kt kf;have m3:=m.addA U k λx n z K=>(kt x n).trans (Ei R X z K);rw[<- LZ,<- bT] at m3;have n3:B.size<=(B++a.extract d (d+k)).size:=by rw[gk];lia
   show wpS _ _ _ _ (if k>0 then _ else _) _ _;apply Fy (H:=λ(O:Array bh)(C:Nat)=>Mg κ a.toList b.toList O.toList C f/\B.size<=O.size/\C+1<a.size/\∀x∈a.toList.drop C,Le κ y x)
   ·intro p;by_cases yk:k>0
    ·rw[Kk yk];show wpS _ _ _ _ (if (d+k+1==a.size)=YP then _ else _) _ _;by_cases e1:d+k+1=a.size
     ·rw[Kk ⇑e1];exact aO ⟨V,.inl ⟨_,rfl,tS m3 e1⟩⟩
     ·rw[Ko ⇑e1];show wpS _ _ _ _ (if (d+k==a.size)=YP then _ else _) _ _;by_cases e2:d+k=a.size
      ·rw[Kk ⇑e2];exact aO ⟨V,.inl ⟨_,rfl,tT m3 (.inr e2)⟩⟩
      ·rw[Ko ⇑e2];have Z:=fu m3 (fu n3 (fu (show d+k+1<a.size by lia) kf));generalize B++a.extract d (d+k)=O at Z ⊢;generalize d+k=C at Z ⊢;exact p O C Z
    ·rw[Ko yk];have xu:k=0:=by lia
     rw[xu,km] at kf;exact p B d ⟨m,aE _,J,kf⟩
   rintro O C ⟨m3,n3,f3,C0⟩;have m4:=Qw m3 R X C0;refine aJ (tX gy ?_);show wpS _ _ _ _ (if (f+1==b.size)=YP then _ else _) _ _;by_cases e3:f+1=b.size
   ·rw[Kk ⇑e3];exact aO ⟨V,.inl ⟨_,rfl,tT m4 (.inl e3)⟩⟩
   ·rw[Ko ⇑e3];obtain⟨x,gx,S⟩:=x_ (a:=a) (i:=C) 'd';refine aJ (tX gx (aJ (Dy x S _ V 'd' ?_)));intro P sW N8 BP;have m5:=m4.addB R P λz K u hu=>(N8 z K).trans (Ei U S u hu);rw[<- LZ,<- bT] at m5;have n5:O.size+1<=(O.push y++b.extract (f+1) (f+1+P)).size:=by rw[gk,cw];lia
    show wpS _ _ _ _ (if P>0 then _ else _) _ _;apply Fy (H:=λ(xq:Array bh)(W:Nat)=>Mg κ a.toList b.toList xq.toList C W/\O.size+1<=xq.size/\W<b.size/\∀z∈b.toList.drop W,Le κ x z)
    ·intro p;by_cases yk:P>0
     ·rw[Kk yk];show wpS _ _ _ _ (if (f+1+P==b.size)=YP then _ else _) _ _;by_cases e4:f+1+P=b.size
      ·rw[Kk ⇑e4];exact aO ⟨V,.inl ⟨_,rfl,tT m5 (.inl e4)⟩⟩
      ·rw[Ko ⇑e4];have Z:=fu m5 (fu n5 (fu (show f+1+P<b.size by lia) BP));generalize O.push y++b.extract (f+1) (f+1+P)=xq at Z ⊢;generalize f+1+P=W at Z ⊢;exact p xq W Z
     ·rw[Ko yk];have xu:P=0:=by lia
      rw[xu,km] at BP;exact p (O.push y) (f+1) ⟨m4,by rw[cw];exact aE _,by lia,BP⟩
    rintro xq W ⟨m5,n5,f5,BP⟩;have m6:=QZ m5 U S BP;refine aJ (tX gx ?_);show wpS _ _ _ _ (if (C+1+1==a.size)=YP then _ else _) _ _;by_cases e5:C+1+1=a.size
    ·rw[Kk ⇑e5];exact aO ⟨V,.inl ⟨_,rfl,tS m6 e5⟩⟩
    ·rw[Ko ⇑e5];split
     ·exact aO ⟨V,.inr ⟨xq.push x,C+1,W,_,_,_,rfl,m6,by lia,f5,by rw[cw];lia⟩⟩
     ·exact aO ⟨V,xq.push x,C+1,W,_,_,_,rfl,m6,by lia,f5,by rw[cw];lia⟩
  ·rintro c qz ⟨T,B,d,f,G,t,v,rfl,m,J,F,c6⟩;have:=m.len 'd' 'd';rw[aG] at this;rw[d6] at c6;lia
  ·exact⟨sm,o,d,f,_,t,v,rfl,m,J,F,by lia⟩
  rintro c qz ⟨T,h⟩;rcases h with⟨r,e,hr⟩|⟨B,d,f,G,t,v,rfl,m,J,F,c7⟩
  ·obtain⟨c,c'⟩:=c;dsimp only at e;subst e;exact aO ⟨T,r,rfl,hr⟩
  ·exact aJ (fP (aO ⟨⟨T.kind,T.arr,T.pend,T.failed⟩,B,d,f,_,rfl,m,J,F,by lia⟩))
 ·rintro c rh ⟨sm,l,d,f,G,rfl,m,J,F,c5⟩;have:=m.len 'd' 'd';rw[aG] at this;rw[d6] at c5;lia
 ·exact⟨oK.refl st,#[b0],0,1,_,rfl,m0,by lia,by lia,by simp⟩
 ·rintro⟨c,c'⟩ rh ⟨sm,r,e,hr⟩;dsimp only at e;subst e;exact aO (q r rh sm hr)
end
section
variable{κ:a8}
structure Mh(κ:a8)(a b o:List bh)(i j:Nat):Prop where
 perm:o.Perm (a.drop i++b.drop j)
 srt:qX κ o.reverse
 la:∀x∈a.take i,∀y∈o,Le κ x y
 lb:∀x∈b.take j,∀y∈o,Le κ x y
variable{a b o:List bh}{i j:Nat}
def Mh.len(h:Mh κ a b o i j):o.length=(a.length-i)+(b.length-j):=by rw[h.perm.length_eq,au,cy,cy]
def zjj{α:Type}{l:List α}{i k:Nat}(h:k<=i){x:α}(c:x∈l.take k):x∈l.take i:=by
 have:l.take k=(l.take i).take k:=by rw[gz,gf h]
 rw[this] at c;exact cO c
def zf0{α:Type}(l:List α)(h:k<=i):l.drop k=(l.take i).drop k++l.drop i:=by
 by_cases c:i<=l.length
 ·conv=>lhs;rw[<- cn i l]
  rw[eT (by rw[bU];lia)]
 ·rw[cP 'd',fk (i:=i) 'd',bw]
def qX.mid(h:qX κ l)(d:k<=i):∀x∈l.take k,∀y∈(l.take i).drop k,Le κ x y:=by
 have e:qX κ (l.take i):=h.sublist (cZ i l);intro x c y f;have:l.take k=(l.take i).take k:=by rw[gz,gf d]
 rw[this] at c;exact e.take_drop k x c y f
def Mh.addA(h:Mh κ a b o i j)(f:qX κ a){k:Nat}(d:k<=i)(e:∀z∈b.take j,∀y∈(a.take i).drop k,Le κ z y):Mh κ a b (o++((a.take i).drop k).reverse) k j:=by
 refine⟨?_,?_,λx c y hy=>?_,λx c y hy=>?_⟩
 ·rw[zf0 a d];refine(h.perm.append (mT _)).trans ?_;rw[aX];refine cY.trans ?_;rw[aX];exact cY
 ·rw[List.reverse_append,List.reverse_reverse];unfold qX;rw[bL];exact⟨(f.sublist (cZ i a)).sublist (dB k _),h.srt,λx c y hy=>h.la x (dh c) y (gK.mp hy)⟩
 ·rcases aM.mp hy with hy|hy
  ·exact h.la x (zjj d c) y hy
  ·exact f.mid d x c y (gK.mp hy)
 ·rcases aM.mp hy with hy|hy
  ·exact h.lb x c y hy
  ·exact e x c y (gK.mp hy)
def Mh.swap(h:Mh κ a b o i j):Mh κ b a o j i:=⟨h.perm.trans cY,h.srt,h.lb,h.la⟩
def Mh.addB(h:Mh κ a b o i j)(d:qX κ b)(e:k<=j)(c:∀z∈a.take i,∀y∈(b.take j).drop k,Le κ z y):Mh κ a b (o++((b.take j).drop k).reverse) i k:=(h.swap.addA d e c).swap
def Mh.fin(h:Mh κ a b o i j)(d:qX κ a)(e:qX κ b)(f:∀x∈a.take i,∀y∈b.take j,Le κ x y):Out κ a b (a.take i++b.take j++o.reverse):=by
 refine⟨?_,?_⟩
 ·refine(((mT o).trans h.perm).append_left _).trans ?_
  conv=>rhs;rw[<- cn i a,<- cn j b]
  simp only[aX];refine fB _ ?_;rw[<- aX,<- aX];exact cY.append_right _
 ·unfold qX;rw[bL,bL];refine⟨⟨d.sublist (cZ i a),e.sublist (cZ j b),f⟩,h.srt,λx g y c=>?_⟩;rcases aM.mp g with h'|h'
  ·exact h.la x h' y (gK.mp c)
  ·exact h.lb x h' y (gK.mp c)
def Mh.fin'(h:Mh κ a b o i j)(c:qX κ a)(d:qX κ b)(e:∀y∈b.take j,∀x∈a.take i,Le κ y x):Out κ a b (b.take j++a.take i++o.reverse):=by have:=h.swap.fin d c e;exact⟨this.perm.trans cY,this.srt⟩
def Ga{l:List bh}{i:Nat}{x:bh}(h:l[i]?=Xy x):(l.take (i+1)).drop i=[x]:=by obtain⟨c,rfl⟩:=ao.mp h;rw[nU,bM,dk c];rfl
def FT{l:List bh}(h:qX κ l){i:Nat}{x:bh}(c:l[i]?=Xy x):∀y∈l.take (i+1),Le κ y x:=by
 intro y hy;have e:=Ga c;have:l.take (i+1)=l.take i++[x]:=by
  rw[eJ,c];rfl
 rw[this] at hy;rcases aM.mp hy with hy|hy
 ·exact h.mid (dR i) y hy x (by rw[e];simp)
 ·rw[dH.mp hy];exact Le.refl _
def Jc{c:Array bh}{x:bh}(m:Mh κ a b c.toList (i+1) j)(e:qX κ a)(d:a[i]?=Xy x)(h:∀z∈b.take j,Le κ z x):Mh κ a b (c.push x).toList i j:=by have:=m.addA e (k:=i) 'd' (by rw[Ga d];intro z f y g;rw[dH.mp g];exact h z f);rw[Ga d] at this;rw[eQ];exact this
def Rg{c:Array bh}{x:bh}(m:Mh κ a b c.toList i (j+1))(e:qX κ b)(d:b[j]?=Xy x)(h:∀z∈a.take i,Le κ z x):Mh κ a b (c.push x).toList i j:=by have:=m.addB e (k:=j) 'd' (by rw[Ga d];intro z f y g;rw[dH.mp g];exact h z f);rw[Ga d] at this;rw[eQ];exact this
def IF(a:Array bh)(i:Nat):(a.extract 0 i).toList=a.toList.take i:=by simp
def Qx(a:Array bh)(k i:Nat):((a.extract k i).reverse).toList=((a.toList.take i).drop k).reverse:=by simp[nU]
end
section
variable{prog:aP}{w:aZ}{A:bb}{E:ab->ag->Prop}{s:ag}{κ:a8}{st:bS}{kd:KT}
def Ji{n:Nat}{o:Array bh}{x:bh}(h:n<=o.size):n+1<=(o.push x).size:=by rw[cw];lia
def ZE(ho:xv prog w A s κ kd)(hk:kindOf st=kd)(ha:∀x∈a.toList,um κ x)(hb:∀x∈b.toList,um κ x)(U:qX κ a.toList)(Y:qX κ b.toList)(pa:1<=a.size)(pb:1<=b.size)
  (h0:∀x∈b.toList.take 1,∀y∈a.toList,Le κ x y) (hl:∀y∈b.toList,∀x∈a.toList.drop (a.size-1),Le κ y x) {Q:Array bh->bS->Prop} (q:∀r D,oK st D->Out κ a.toList b.toList r.toList->Q r D):wpS (az prog w) A E s ((o0.hi o5) a b) Q st:=by
 have N6:a.toList.length=a.size:=aG;have N5:b.toList.length=b.size:=aG;have tT:∀{l:Array bh}{d f:Nat},Mh κ a.toList b.toList l.toList d f->(d=0\/f=0)->Out κ a.toList b.toList (a.extract 0 d++b.extract 0 f++l.reverse).toList:=λ{l d f}m h=>by
  rw[bT,bT,IF,IF,lJ];refine m.fin U Y λx P y W=>?_;rcases h with rfl|rfl
  ·cases P
  ·cases W
 have tS:∀{l:Array bh}{d f:Nat},Mh κ a.toList b.toList l.toList d f->f=1->Out κ a.toList b.toList (b.extract 0 f++a.extract 0 d++l.reverse).toList:=λ{l d f}m h=>by
  rw[bT,bT,IF,IF,lJ];subst h;exact m.fin' U Y λy W x P=>h0 y W x (cO P)
 obtain⟨x0,g0,l0⟩:=x_ (a:=a) (i:=a.size-1) 'd';have m0:Mh κ a.toList b.toList (#[x0]:Array bh).toList (a.size-1) b.size:=by
  have m00:Mh κ a.toList b.toList (#[]:Array bh).toList (a.size-1+1) b.size:=by
   refine⟨?_,eo,(λx _ y W=>nomatch W),(λx _ y W=>nomatch W)⟩;rw[fk 'd',fk 'd'];exact d9 _
  exact Jc m00 U l0 λz F=>hl z (cO F) x0 (by
   have:=BC l0;exact cO (by rw[this];simp:x0∈(a.toList.drop (a.size-1)).take 1))
 show wpS _ _ _ _ (_ >>= _) Q st;refine aJ (jq (dN ⟨rfl,aJ (tX g0 ?_)⟩));show wpS _ _ _ _ (if (a.size-1==0)=YP then _ else _) Q st;by_cases c1:a.size-1=0
 ·rw[Kk ⇑c1];exact aO (q _ st (oK.refl st) (tT m0 (.inl c1)))
 rw[Ko ⇑c1];show wpS _ _ _ _ (if (b.size==1)=YP then _ else _) Q st;by_cases c2:b.size=1
 ·rw[Kk ⇑c2];exact aO (q _ st (oK.refl st) (tS m0 c2))
 rw[Ko ⇑c2];refine aJ (gU (aJ (dO (cV (I:=λk c D=>oK st D/\∃d f l G,c=(XV,d,f,l,G)/\Mh κ a.toList b.toList l.toList d f/\1<=d/\d<=a.size/\2<=f/\f<=b.size/\k+1<=l.size) (Q:=λc D=>oK st D/\∃r,c.1=Xy r/\Out κ a.toList b.toList r.toList) ?_ ?_ ?_) ?_)))
 ·rintro k c rh _ hkt ⟨sm,d,f,l,G,rfl,m,J,K,N,O,c5⟩;have Hn:kindOf rh=kd:=sm.kind.trans hk;refine aJ (dO (cV (I:=λj c D=>D=rh/\∃d f o v B,c=(XV,d,f,o,v,B)/\Mh κ a.toList b.toList o.toList d f/\1<=d/\d<=a.size/\2<=f/\f<=b.size/\l.size+j<=o.size) (Q:=λc D=>D=rh/\((∃r,c.1=Xy r/\Out κ a.toList b.toList r.toList) \/ ∃d f o v B,c=(XV,d,f,o,v,B)/\Mh κ a.toList b.toList o.toList d f/\1<=d/\d<=a.size/\2<=f/\f<=b.size/\l.size+1<=o.size)) ?_ ?_ ?_) ?_)
  ·rintro j c qP _ OL ⟨rfl,d,f,o,v,B,rfl,m,J,K,N,O,c6⟩;obtain⟨p,rfl⟩:∃p,d=p+1:=⟨d-1,by lia⟩;obtain⟨r,rfl⟩:∃r,f=r+1:=⟨f-1,by lia⟩;obtain⟨y,gy,Z⟩:=x_ (a:=b) (i:=r) 'd';obtain⟨x,gx,V⟩:=x_ (a:=a) (i:=p) 'd';refine aJ (tX gy (aJ (tX gx (aJ (FL ho Hn (hb y (aF Z)) (ha x (aF V)) ?_)))));cases hc:κ.blt (ky κ y) (ky κ x) with
   | true=>
    have m':=Jc m U V λz F=>(FT Y Z z F).trans (Le.of hc);refine aJ (tX gx ?_);show wpS _ _ _ _ (if (p==0)=YP then _ else _) _ qP;by_cases e:p=0
    ·rw[Kk ⇑e];exact aO ⟨rfl,.inl ⟨_,rfl,tT m' (.inl e)⟩⟩
    ·rw[Ko ⇑e];split
     ·exact aO ⟨rfl,.inr ⟨p,r+1,o.push x,v+1,0,rfl,m',by lia,by lia,N,O,by rw[cw];lia⟩⟩
     ·exact aO ⟨rfl,p,r+1,o.push x,v+1,0,rfl,m',by lia,by lia,N,O,by rw[cw];lia⟩
   | false=>
    have m':=Rg m Y Z λz F=>(FT U V z F).trans (show Le κ x y from hc);refine aJ (tX gy ?_);show wpS _ _ _ _ (if (r==1)=YP then _ else _) _ qP;by_cases e:r=1
    ·rw[Kk ⇑e];exact aO ⟨rfl,.inl ⟨_,rfl,tS m' e⟩⟩
    ·rw[Ko ⇑e];split
     ·exact aO ⟨rfl,.inr ⟨p+1,r,o.push y,0,B+1,rfl,m',J,K,by lia,by lia,by rw[cw];lia⟩⟩
     ·exact aO ⟨rfl,p+1,r,o.push y,0,B+1,rfl,m',J,K,by lia,by lia,by rw[cw];lia⟩
  ·rintro c qP ⟨rfl,d,f,o,v,B,rfl,m,J,K,N,O,c6⟩;have:=m.len;rw[aG] at this;rw[d6] at c6;lia
  ·exact⟨rfl,d,f,l,0,0,rfl,m,J,K,N,O,by lia⟩
  rintro c qP ⟨rfl,h⟩;rcases h with⟨r,e,hr⟩|⟨d,f,o,v,B,rfl,m,J,K,N,O,c6⟩
  ·obtain⟨c,c'⟩:=c;dsimp only at e;subst e;exact aO ⟨sm,r,rfl,hr⟩
  refine aJ (jq (dN ⟨rfl,aJ (dO (cV (I:=λj c D=>oK st D/\∃d f C G v B,c=(XV,d,f,C,G,v,B)/\Mh κ a.toList b.toList C.toList d f/\1<=d/\d<=a.size/\2<=f/\f<=b.size/\o.size+j<=C.size) (Q:=λc D=>oK st D/\((∃r,c.1=Xy r/\Out κ a.toList b.toList r.toList) \/ ∃d f C G v B,c=(XV,d,f,C,G,v,B)/\Mh κ a.toList b.toList C.toList d f/\1<=d/\d<=a.size/\2<=f/\f<=b.size/\o.size<=C.size)) ?_ ?_ ?_) ?_)⟩))
  ·rintro j c qz _ OL ⟨X,d,f,C,G,v,B,rfl,m,J,K,N,O,c6⟩;obtain⟨r,rfl⟩:∃r,f=r+1:=⟨f-1,by lia⟩;obtain⟨y,gy,Z⟩:=x_ (a:=b) (i:=r) 'd';have W:=hb y (aF Z);have Dz:∀R,oK st R->∀{Q:Option Nat->bS->Prop},(∀k,k<=d->(∀x∈a.toList.take k,Le κ x y)->(∀x∈(a.toList.take d).drop k,Le κ y x)->Q (Xy k) R)->wpS (az prog w) A E s ((o0.g o5) Y1 y a 0 d (d-1)) Q R:=λR s4 Q h=>
    Ey ho (L:=a.toList.take d) (by rw[lr]) (s4.kind.trans hk) W 'd' 'd' (λx P=>ha x (cO P)) (U.sublist (cZ d _)) λk h1 h2 h3=>h k h1 (λx P=>by
     have:=h2 x (by rw[gz,gf h1];exact P);unfold uz at this;rw[Ko 'u'] at this;unfold Le;simpa using this) λx P=>by
     have:=h3 x P;unfold uz at this;rw[Ko 'u'] at this;exact Le.of ⇑this
   have Dy:∀x{n:Nat},a.toList[n]?=Xy x->∀R,oK st R->1<=r->∀{Q:Option Nat->bS->Prop},(∀k,k<=r->(∀z∈(b.toList.take r).drop k,Le κ x z)->(∀z∈b.toList.take k,Le κ z x)->Q (Xy k) R)->wpS (az prog w) A E s ((o0.g o5) YP x b 0 r (r-1)) Q R:=λx n V R s4 h4 Q h=>
    Ey ho (L:=b.toList.take r) (by rw[lr]) (s4.kind.trans hk) (ha x (aF V)) 'd' 'd' (λx P=>hb x (cO P)) (Y.sublist (cZ _ _)) λk h1 h2 h3=>h k h1 (λz F=>by
     have:=h3 z F;unfold uz at this;rw[Kk rfl] at this;exact this) λz F=>by
     have:=h2 z (by rw[gz,gf h1];exact F);unfold uz at this;rw[Kk rfl] at this;exact Le.of this
   show wpS _ _ _ _ (if G>1 then _ else _) _ qz;apply QO (α:=Nat)
   ·intro S;split
    ·generalize G-1=GO;exact S GO
    ·exact S G
   intro GO;refine aJ (SU ⟨rfl,rfl,rfl,rfl⟩ λR s4=>aJ (tX gy (aJ (Dz R (X.trans s4) ?_))));have T:=X.trans s4;intro k zD C0 kt;have m3:=m.addA U zD λz F u hu=>(FT Y Z z F).trans (kt u hu);rw[<- Qx,<- bT] at m3;have n3:C.size<=(C++(a.extract k d).reverse).size:=by rw[gk];lia
   show wpS _ _ _ _ (if d-k>0 then _ else _) _ _;apply Fy (H:=λ(M:Array bh)(CY:Nat)=>Mh κ a.toList b.toList M.toList CY (r+1)/\C.size<=M.size/\1<=CY/\CY<=a.size/\∀x∈a.toList.take CY,Le κ x y)
   ·intro S;by_cases yk:d-k>0
    ·rw[Kk yk];show wpS _ _ _ _ (if (k==0)=YP then _ else _) _ _;by_cases e1:k=0
     ·rw[Kk ⇑e1];exact aO ⟨T,.inl ⟨_,rfl,tT m3 (.inl e1)⟩⟩
     ·rw[Ko ⇑e1];have hh:=fu m3 (fu n3 (fu (show 1<=k by lia) (fu (show k<=a.size by lia) C0)));generalize C++(a.extract k d).reverse=M at hh ⊢;generalize k=q3 at hh ⊢;exact S M q3 hh
    ·rw[Ko yk];have xu:k=d:=by lia
     rw[xu] at C0 ⊢;exact S C d ⟨m,aE _,J,K,C0⟩
   rintro M CY ⟨m3,n3,f3,f3',C0⟩;have m4:=Rg m3 Y Z C0;refine aJ (tX gy ?_);show wpS _ _ _ _ (if (r==1)=YP then _ else _) _ _;by_cases e3:r=1
   ·rw[Kk ⇑e3];exact aO ⟨T,.inl ⟨_,rfl,tS m4 e3⟩⟩
   ·rw[Ko ⇑e3];obtain⟨n,rfl⟩:∃n,CY=n+1:=⟨CY-1,by lia⟩;obtain⟨x,gx,V⟩:=x_ (a:=a) (i:=n) 'd';refine aJ (tX gx (aJ (Dy x V _ T 'd' ?_)));intro t sW N8 BP;have m5:=m4.addB Y sW λz F u hu=>(FT U V z F).trans (N8 u hu);rw[<- Qx,<- bT] at m5;have n5:M.size+1<=(M.push y++(b.extract t r).reverse).size:=by rw[gk,cw];lia
    by_cases yk:r-t>0
    ·show wpS _ _ _ _ (if r-t>0 then _ else _) _ _;rw[Kk yk];show wpS _ _ _ _ (if (t==1)=YP then _ else _) _ _;by_cases e4:t=1
     ·rw[Kk ⇑e4];exact aO ⟨T,.inl ⟨_,rfl,tS m5 e4⟩⟩
     ·rw[Ko ⇑e4];show wpS _ _ _ _ (if (t==0)=YP then _ else _) _ _;by_cases e6:t=0
      ·rw[Kk ⇑e6];exact aO ⟨T,.inl ⟨_,rfl,tT m5 (.inr e6)⟩⟩
      ·rw[Ko ⇑e6];have f5:2<=t:=by lia
       have m6:=Jc m5 U V BP;refine aJ (tX gx ?_);show wpS _ _ _ _ (if (n==0)=YP then _ else _) _ _;by_cases e5:n=0
       ·rw[Kk ⇑e5];exact aO ⟨T,.inl ⟨_,rfl,tT m6 (.inl e5)⟩⟩
       ·rw[Ko ⇑e5];split
        ·exact aO ⟨T,.inr ⟨n,t,_,_,_,_,rfl,m6,(by lia:1<=n),(by lia:n<=a.size),f5,(by lia:t<=b.size),aH (by lia:o.size<=M.size+1+1) (Ji n5)⟩⟩
        ·exact aO ⟨T,n,t,_,_,_,_,rfl,m6,(by lia:1<=n),(by lia:n<=a.size),f5,(by lia:t<=b.size),aH (by lia:o.size+(j+1)<=M.size+1+1) (Ji n5)⟩
    ·have xu:t=r:=by lia
     subst xu;show wpS _ _ _ _ (if t-t>0 then _ else _) _ _;rw[Ko yk];have f5:2<=t:=by lia
     replace m5:=m4
     replace n5:M.size+1<=(M.push y).size:=by rw[cw];exact aE _
     have m6:=Jc m5 U V BP;refine aJ (tX gx ?_);show wpS _ _ _ _ (if (n==0)=YP then _ else _) _ _;by_cases e5:n=0
     ·rw[Kk ⇑e5];exact aO ⟨T,.inl ⟨_,rfl,tT m6 (.inl e5)⟩⟩
     ·rw[Ko ⇑e5];split
      ·exact aO ⟨T,.inr ⟨n,t,_,_,_,_,rfl,m6,(by lia:1<=n),(by lia:n<=a.size),f5,(by lia:t<=b.size),aH (by lia:o.size<=M.size+1+1) (Ji n5)⟩⟩
      ·exact aO ⟨T,n,t,_,_,_,_,rfl,m6,(by lia:1<=n),(by lia:n<=a.size),f5,(by lia:t<=b.size),aH (by lia:o.size+(j+1)<=M.size+1+1) (Ji n5)⟩
  ·rintro c qz ⟨X,d,f,C,G,v,B,rfl,m,J,K,N,O,c6⟩;have:=m.len;rw[aG] at this;rw[d6] at c6;lia
  ·exact⟨sm,d,f,o,_,v,B,rfl,m,J,K,N,O,by lia⟩
  rintro c qz ⟨X,h⟩;rcases h with⟨r,e,hr⟩|⟨d,f,C,G,v,B,rfl,m,J,K,N,O,c7⟩
  ·obtain⟨c,c'⟩:=c;dsimp only at e;subst e;exact aO ⟨X,r,rfl,hr⟩
  ·exact aJ (fP (aO ⟨⟨X.kind,X.arr,X.pend,X.failed⟩,d,f,C,_,rfl,m,J,K,N,O,by lia⟩))
 ·rintro c rh ⟨sm,d,f,l,G,rfl,m,J,K,N,O,c5⟩;have:=m.len;rw[aG] at this;rw[d6] at c5;lia
 ·exact⟨oK.refl st,a.size-1,b.size,#[x0],_,rfl,m0,by lia,by lia,by lia,by lia,by simp⟩
 ·rintro⟨c,c'⟩ rh ⟨sm,r,e,hr⟩;dsimp only at e;subst e;exact aO (q r rh sm hr)
end
theorem Ri(p:Nat):∀(m:List bh)(j:Nat)(xs:Array bh),p+j+m.length<=xs.size->((m.zipIdx j).foldl (λa x=>a.setIfInBounds (p+x.2) x.1) xs).toList=xs.toList.take (p+j)++m++xs.toList.drop (p+j+m.length)
 |[],j,xs,_=>by simp
 | x::m,j,xs,h=>by
  rw[aW] at h;rw[iU,fC,Ri p m (j+1) _ (by rw[kn];lia),jR,<- lT];have b:p+j<xs.toList.length:=by rw[aG];lia
  have c:(xs.toList.set (p+j) x).take (p+j+1)=xs.toList.take (p+j)++[x]:=by
   rw[eJ,bE b,List.take_set_of_le (aE _)];rfl
  rw[c,List.drop_set_of_lt 'd',aW,aX,aX,aX];have:p+j+1+m.length=p+j+(m.length+1):=by lia
  rw[this];rfl
def zfB(h:p+m.length<=xs.size):(lay xs p m).toList=xs.toList.take p++m++xs.toList.drop (p+m.length):=Ri p m 0 xs h
section
variable{prog:aP}{w:aZ}{A:bb}{E:ab->ag->Prop}{s:ag}{κ:a8}{st:bS}{kd:KT}
def zlD(I:xv prog w A s κ kd)(t:kindOf st=kd)(N:failedOf st=XV)(d:(Ku st).toList=P++(X++(Y++R)))(h1:(Kv st)[i]?=Xy (P.length,X.length,pw))(h2:(Kv st)[i+1]?=Xy (P.length+X.length,Y.length,Kt))
  (J:1<=X.length) (O:1<=Y.length) (C:qX κ X) (D:qX κ Y) (F:∀x∈X++Y,um κ x) {Q:Bool->bS->Prop}
  (q:∀b M,kindOf b=kd->failedOf b=XV->Kv b=((Kv st).setIfInBounds i (P.length,X.length+Y.length,pw)).eraseIdxIfInBounds (i+1)->(Ku b).toList=P++(M++R)->M.Perm (X++Y)->qX κ M->Q YP b):wpS (az prog w) A E s (mergeAt' i) Q st:=by
 have G:(Ku st).size=P.length+(X.length+(Y.length+R.length)):=by
  rw[<- aG,d];simp
 have S:∀x∈X,um κ x:=λx h=>F x (bt _ h);have T:∀x∈Y,um κ x:=λx h=>F x (aC _ h);have f:∀(j:Nat)(x:bh),(P++(X++(Y++R)))[j]?=Xy x->(Ku st)[j]?=Xy x:=λj x h=>by
  rw[<- d] at h;rw[<- h];simp
 obtain⟨g,K⟩:∃g,Y[0]?=Xy g:=⟨Y[0],am _⟩;have gb:(Ku st)[P.length+X.length]?=Xy g:=f _ _ (by
  rw[aS 'd',bM,aS (aE _),gA,aK 'd'];exact K)
 have dX:((Ku st).toList.drop P.length).take X.length=X:=by rw[d];simp
 have dY:((Ku st).toList.drop (P.length+X.length)).take Y.length=Y:=by rw[d,<- aX,eT 'k',<- au];simp
 have U:=T g (aF K);have V:∀y∈Y,Le κ g y:=λy h=>Ei D K y ⇑h;refine(o0.at_ o5) h1 h2 gb ?_;refine Ey (base:=P.length) (n:=X.length) (hint:=0) I dX ?_ U 'd' 'd' S C ?_
 ·exact t
 refine λk zD kt kf=>⟨k,rfl,λyk=>?_,λyk=>?_⟩
 ·have W:k=X.length:=by lia
  refine q _ (X++Y) t N rfl (by show(Ku st).toList=_;rw[d,aX]) (d9 _) ?_;unfold qX;rw[bL];refine⟨C,D,λx h y c=>Le.trans ?_ (V y c)⟩;have:=kt x (by rw[W,cF];exact h);unfold uz at this;rw[Ko 'u'] at this;unfold Le;simpa using this
 have Z:∀x∈X.take k,Le κ x g:=λx h=>by
  have:=kt x h;unfold uz at this;rw[Ko 'u'] at this;unfold Le;simpa using this
 have WC:∀x∈X.drop k,Le κ g x:=λx h=>by
  have:=kf x h;unfold uz at this;rw[Ko 'u'] at this;exact Le.of ⇑this
 obtain⟨l,L⟩:∃l,X[X.length-1]?=Xy l:=⟨X[X.length-1],am _⟩;have ga:(Ku st)[P.length+k+(X.length-k)-1]?=Xy l:=f _ _ (by
  have:P.length+k+(X.length-k)-1=P.length+(X.length-1):=by lia
  rw[this,aS 'd',bM,aK 'd'];exact L)
 have hka:=S l (aF L);have Xp:∀x∈X,Le κ x l:=λx h=>FT C L x (by rw[cP 'd'];exact h);refine⟨l,ga,?_⟩;refine Ey (base:=P.length+X.length) (n:=Y.length) (hint:=Y.length-1) I dY ?_ hka 'd' 'd' T D ?_
 ·exact t
 refine λm hm mt mf=>⟨m,rfl,λWT=>?_,λWT=>?_⟩
 ·refine q _ (X++Y) t N rfl (by show(Ku st).toList=_;rw[d,aX]) (d9 _) ?_;unfold qX;rw[bL];refine⟨C,D,λx h y c=>Le.trans (Xp x h) ?_⟩;have:=mf y (by rw[WT];exact c);unfold uz at this;rw[Kk rfl] at this;exact this
 have WA:∀y∈Y.take m,Le κ y l:=λy h=>by
  have:=mt y h;unfold uz at this;rw[Kk rfl] at this;exact Le.of this
 have WB:∀y∈Y.drop m,Le κ l y:=λy h=>by
  have:=mf y h;unfold uz at this;rw[Kk rfl] at this;exact this
 have u:((Ku st).extract (P.length+k) (P.length+X.length)).toList=X.drop k:=by
  simp only[lI,j8];rw[d,<- eI,nV,eT zD];have:P.length+X.length-(P.length+k)=(X.drop k).length:=by rw[cy];lia
  rw[this,nW]
 have v:((Ku st).extract (P.length+X.length) (P.length+X.length+m)).toList=Y.take m:=by
  rw[LZ];rw[<- dY,gz,gf hm]
 have szX:((Ku st).extract (P.length+k) (P.length+X.length)).size=X.length-k:=by rw[<- aG,u,cy]
 have szY:((Ku st).extract (P.length+X.length) (P.length+X.length+m)).size=m:=by rw[<- aG,v,bU];lia
 have H:∀(B:Array bh)(o:bS),oK (setPending st (((Kv st).setIfInBounds i (P.length,X.length+Y.length,pw)).eraseIdxIfInBounds (i+1))) o->Out κ (X.drop k) (Y.take m) B.toList->Q (failedOf o).isNone (setArr o (lay (Ku o) (P.length+k) B.toList)):=λB o p a=>by
  have WR:B.toList.length=(X.length-k)+m:=by rw[a.perm.length_eq,au,cy,bU];lia
  have EW:failedOf o=XV:=p.failed.trans N;rw[EW];have v9:Ku o=Ku st:=p.arr;refine q _ (X.take k++(B.toList++Y.drop m)) (p.kind.trans t) EW p.pend ?_ ?_ ?_
  ·show(lay (Ku o) (P.length+k) B.toList).toList=_;rw[v9,zfB (by rw[WR,G];lia),d,WR];have e1:(P++(X++(Y++R))).take (P.length+k)=P++X.take k:=by
    rw[List.take_append,cP 'd',bM,List.take_append_of_le_length zD]
   have e2:(P++(X++(Y++R))).drop (P.length+k+(X.length-k+m))=Y.drop m++R:=by
    have:P.length+k+(X.length-k+m)=(P++X).length+m:=by rw[au];lia
    rw[this,<- aX,<- eI,nV,eT hm]
   rw[e1,e2];simp
  ·conv=>rhs;rw[<- cn k X,<- cn m Y]
   rw[aX];refine fB _ ?_;rw[<- aX];exact a.perm.append_right _
  ·unfold qX;rw[bL,bL];have GP:∀z∈B.toList,z∈X.drop k\/z∈Y.take m:=λz hz=>aM.mp (a.perm.mem_iff.mp hz);refine⟨C.sublist (cZ k X),⟨a.srt,D.sublist (dB m Y),λz hz y O=>?_⟩,λx J z hz=>?_⟩
   ·rcases GP z hz with h|h
    ·exact(Xp z (dh h)).trans (WB y O)
    ·exact(WA z h).trans (WB y O)
   ·rcases aM.mp hz with hz|hz
    ·rcases GP z hz with h|h
     ·exact(Z x J).trans (WC z h)
     ·exact(Z x J).trans (V z (cO h))
    ·exact(Z x J).trans (V z (dh hz))
 have p1:∀x∈((Ku st).extract (P.length+k) (P.length+X.length)).toList,um κ x:=by rw[u];exact λx h=>S x (dh h)
 have p2:∀x∈((Ku st).extract (P.length+X.length) (P.length+X.length+m)).toList,um κ x:=by rw[v];exact λx h=>T x (cO h)
 have p3:qX κ ((Ku st).extract (P.length+k) (P.length+X.length)).toList:=by rw[u];exact C.sublist (dB k X)
 have p4:qX κ ((Ku st).extract (P.length+X.length) (P.length+X.length+m)).toList:=by rw[v];exact D.sublist (cZ m Y)
 have p5:∀x∈((Ku st).extract (P.length+X.length) (P.length+X.length+m)).toList.take 1,∀y∈((Ku st).extract (P.length+k) (P.length+X.length)).toList,Le κ x y:=by
  rw[u,v,gz];intro x h y c;have:x=g:=by
   rw[gf 'd'] at h;have e:=BC K;rw[lr] at e;rw[e] at h;simpa using h
  rw[this];exact WC y c
 have p6:∀y∈((Ku st).extract (P.length+X.length) (P.length+X.length+m)).toList,∀x∈((Ku st).extract (P.length+k) (P.length+X.length)).toList.drop (((Ku st).extract (P.length+k) (P.length+X.length)).size-1),Le κ y x:=by
  rw[u,v,szX,eI];intro y h x c;have:k+(X.length-k-1)=X.length-1:=by lia
  rw[this] at c;have e:=BC L;rw[cP (by rw[cy];lia)] at e;rw[e] at c;rw[dH.mp c];exact WA y h
 by_cases hc:X.length-k<=m
 ·rw[Kk hc];refine Zj I ?_ p1 p2 p3 p4 'd' 'd' p5 p6 λr b p a=>H r b p (by rw[u,v] at a;exact a);exact t
 ·rw[Ko hc];refine ZE I ?_ p1 p2 p3 p4 'd' 'd' p5 p6 λr b p a=>H r b p (by rw[u,v] at a;exact a);exact t
end
def Qr{G:Prop}{H:bS->Prop}(P:bS->Prop)(h:(∀x,H x->P x)->G)(k:∀x,H x->P x):G:=h k
structure Rl(rW:bS)(lo:Nat)(st:bS):Prop where
 perm:(Ku st).Perm (Ku rW)
 kind:kindOf st=kindOf rW
 failed:failedOf st=failedOf rW
 pend:Kv st=Kv rW
 fix:∀i,i<lo->(Ku st)[i]?=(Ku rW)[i]?
def Rl.refl(a:bS)(lo:Nat):Rl a lo a:=⟨jc _,rfl,rfl,rfl,λ_ _=>rfl⟩
def Rl.size{a b:bS}{lo:Nat}(r:Rl a lo b):(Ku b).size=(Ku a).size:=r.perm.size_eq
def Rl.rev{b a:bS}{lo i j:Nat}(r:Rl b lo a)(h:lo<=i)(c:j<=(Ku b).size):Rl b lo (setArr a (mirror (Ku a) i j ((j-i)/2))):=by refine⟨(mirror_perm _ _ _ _).trans r.perm,r.kind,r.failed,r.pend,λk d=>?_⟩;show(mirror (Ku a) i j ((j-i)/2))[k]?=_;rw[getElem?_mirror_all (by rw[r.size];exact c),Ko 'd'];exact r.fix k d
section
variable{prog:aP}{w:aZ}{A:bb}{E:ab->ag->Prop}{s:ag}{κ:a8}{rW st:bS}{lo:Nat}{kd:KT}
def Up(κ:a8)(xs:Array bh)(lo n:Nat):Prop:=∀i j,lo<=i->i<=j->j<lo+n->κ.kle (KK κ xs i) (KK κ xs j)
def Dn(κ:a8)(xs:Array bh)(lo n:Nat):Prop:=∀i j,lo<=i->i<=j->j<lo+n->κ.kle (KK κ xs j) (KK κ xs i)
def BH(a:κ.α):κ.kle a a:=κ.irrefl a
def Up.step(h:Up κ xs lo n)(f:1<=n)(a:κ.kle (KK κ xs (lo+n-1)) (KK κ xs (lo+n))):Up κ xs lo (n+1):=λi j b c g=>by
 by_cases e:j=lo+n
 ·subst e;by_cases d:i=lo+n
  ·subst d;exact BH _
  ·exact iW (h i (lo+n-1) b 'd' 'd') a
 ·exact h i j b c 'd'
def Dn.step(h:Dn κ xs lo n)(f:1<=n)(a:κ.kle (KK κ xs (lo+n)) (KK κ xs (lo+n-1))):Dn κ xs lo (n+1):=λi j b c g=>by
 by_cases e:j=lo+n
 ·subst e;by_cases d:i=lo+n
  ·subst d;exact BH _
  ·exact iW a (h i (lo+n-1) b 'd' 'd')
 ·exact h i j b c 'd'
def Up.one(xs:Array bh):Up κ xs lo 1:=λi j c d e=>by
 have a:i=lo:=by lia
 have b:j=lo:=by lia
 rw[a,b];exact BH _
def Dn.one(xs:Array bh):Dn κ xs lo 1:=λi j c d e=>by
 have a:i=lo:=by lia
 have b:j=lo:=by lia
 rw[a,b];exact BH _
def FQ(f:xv prog w A s κ kd)(a:∀x∈(Ku rW).toList,um κ x)(g:kindOf rW=kd)(r:Rl rW lo st)(b:i<(Ku rW).size)(c:j<(Ku rW).size)(q:Q (Xy (κ.blt (KK κ (Ku st) i) (KK κ (Ku st) j))) st):wpS (az prog w) A E s (ltAt' i j) Q st:=by
 rw[<- r.size] at b c;obtain⟨x,d,h⟩:=x_ b;obtain⟨y,e,k⟩:=x_ c;have l:=a x ((dQ.mp r.perm).mem_iff.mp (aF h));have m:=a y ((dQ.mp r.perm).mem_iff.mp (aF k));have n:KK κ (Ku st) i=ky κ x:=by unfold KK ky;rw[d]
 have o:KK κ (Ku st) j=ky κ y:=by unfold KK ky;rw[e]
 rw[n,o] at q;rw[ltAt'_eq];exact aJ (gU (aJ (tX d (aJ (tX e (FL f (r.kind.trans g) l m q))))))
def Up.rev(d:Dn κ xs lo m)(h:lo+m<=xs.size):Up κ (mirror xs lo (lo+m) ((lo+m-lo)/2)) lo m:=λi j a b c=>by
 rw[KK_mirror h,KK_mirror h,Kk 'd',Kk 'd'];exact d _ _ 'd' 'd' 'd'
set_option hygiene false in
local macro_rules|`(tactic| walk_at "asc")=>`(tactic| (
 refine aJ (dO (cV (I:=λk c h_=>h_=rh/\∃ n,c=(none,n)/\n=k/\1<=n/\n<=nrem/\Up κ (arrOf rh) lo n) (Q:=λc h_=>h_=rh/\∃ n,c=(none,n)/\1<=n/\n<=nrem/\Up κ (arrOf rh) lo n/\(n=nrem\/κ.blt (KK κ (arrOf rh) (lo+n)) (KK κ (arrOf rh) (lo+n-1))=true)) ?_ ?_ ?_) ?_)
 ·rintro k c h_ h1 h2 ⟨rfl,n,rfl,rfl,g1,g2,g3⟩
  refine aJ (FQ (i:=lo+n) (j:=lo+n-1) ho hs hk r1 (by lia) (by lia) ?_)
  cases e:κ.blt (KK κ (arrOf h_) (lo+n)) (KK κ (arrOf h_) (lo+n-1)) with
  | true=>exact aO ⟨rfl,n,rfl,g1,g2,g3,.inr e⟩
  | false=>exact aO ⟨rfl,n+1,rfl,rfl,by lia,by lia,g3.step (by lia) e⟩
 ·rintro c h_ ⟨rfl,n,rfl,e,g1,g2,g3⟩
  exact⟨rfl,n,rfl,g1,g2,g3,.inl (by lia)⟩
 ·exact⟨rfl,_,rfl,rfl,Hc,WQ,u1⟩))
def zbV(ho:xv prog w A s κ kd)(hs:∀x∈(Ku rW).toList,um κ x)(hk:kindOf rW=kd){nrem:Nat}(WQ:1<=nrem)(hN:lo+nrem<=(Ku rW).size){rh:bS}(r1:Rl rW lo rh){Q:Option Nat->bS->Prop}(q:∀m h_,Rl rW lo h_->1<=m->m<=nrem->Up κ (Ku h_) lo m->Q (Xy m) h_):wpS (az prog w) A E s (countRun' lo nrem) Q rh:=by
 rw[countRun'_eq];have u1:Up κ (Ku rh) lo 1:=Up.one _;have Hc:1<=1:=aE _;walk_at "asc";rintro c h_ ⟨rfl,n1,rfl,g1,g2,g3,g4⟩;show wpS _ _ _ _ (if (n1==nrem)=YP then _ else _) Q h_;by_cases e0:n1=nrem
 ·rw[Kk ⇑e0];exact aO (q n1 h_ r1 g1 g2 g3)
 rw[Ko ⇑e0];have qm:κ.blt (KK κ (Ku h_) (lo+n1)) (KK κ (Ku h_) (lo+n1-1))=YP:=by
  rcases g4 with h|h
  ·exact absurd h e0
  ·exact h
 apply Qr (H:=λqP=>Rl rW lo qP/\Dn κ (Ku qP) lo (n1+1));intro key;show wpS _ _ _ _ (if n1>1 then _ else _) Q h_;by_cases hc:n1>1
 ·rw[Kk hc];refine aJ (FQ ho hs hk r1 'd' 'd' ?_);cases e:κ.blt (KK κ (Ku h_) lo) (KK κ (Ku h_) (lo+n1-1)) with
  |true=>exact aO (q n1 h_ r1 g1 g2 g3)
  | false=>
   refine aJ (kS ?_);have r2:=r1.rev (i:=lo) (j:=lo+n1) (aE lo) 'd';have all:∀k,lo<=k->k<lo+n1->KK κ (Ku h_) k=KK κ (Ku h_) (lo+n1-1):=λk a b=>
    KeyOrd.kle_antisymm (g3 k (lo+n1-1) a 'd' 'd') (iW (show κ.kle (KK κ (Ku h_) (lo+n1-1)) (KK κ (Ku h_) lo) from e) (g3 lo k (aE _) a b))
   have kk:=kJ (κ:=κ) (xs:=Ku h_) (i:=lo) (j:=lo+n1) (by rw[r1.size];lia) all;have d2:Dn κ (Ku (setArr h_ (mirror (Ku h_) lo (lo+n1) ((lo+n1-lo)/2)))) lo (n1+1):=by
    show Dn κ (mirror (Ku h_) lo (lo+n1) ((lo+n1-lo)/2)) lo (n1+1);refine Dn.step (λi j a b c=>?_) g1 ?_
    ·rw[kk,kk,all i a 'd',all j 'd' c];exact BH _
    ·rw[kk,kk];exact gm qm
   generalize setArr h_ (mirror (Ku h_) lo (lo+n1) ((lo+n1-lo)/2))=qP at *;exact key _ ⟨r2,d2⟩
 ·rw[Ko hc];refine key _ ⟨r1,?_⟩;have e1:n1=1:=by lia
  subst e1;exact Dn.step (Dn.one _) (aE _) (gm qm)
 rintro qP ⟨r2,d2⟩;refine aJ (jq (dN ⟨rfl,aJ (dO (cV (I:=λk c h_=>Rl rW lo h_/\∃n tw,c=(XV,n,tw)/\n=k/\n<=nrem/\Dn κ (Ku h_) lo n/\tw+1<=n/\(∀i,lo+n-(tw+1)<=i->i<lo+n->KK κ (Ku h_) i=KK κ (Ku h_) (lo+n-1))) (Q:=λc h_=>Rl rW lo h_/\∃n tw,c=(XV,n,tw)/\n<=nrem/\Dn κ (Ku h_) lo n/\tw+1<=n/\(∀i,lo+n-(tw+1)<=i->i<lo+n->KK κ (Ku h_) i=KK κ (Ku h_) (lo+n-1))) ?_ ?_ ?_) ?_)⟩))
 ·rintro k c qz h1 h2 ⟨r3,n,tw,rfl,rfl,g2,g3,g4,g5⟩;refine aJ (FQ (i:=lo+n) (j:=lo+n-1) ho hs hk r3 'd' 'd' ?_);cases e:κ.blt (KK κ (Ku qz) (lo+n)) (KK κ (Ku qz) (lo+n-1)) with
  | true=>
   show wpS _ _ _ _ (if tw>0 then _ else _) _ qz;by_cases hq:tw>0
   ·rw[Kk hq];refine aJ (kS (aO ⟨r3.rev (i:=lo+n-(tw+1)) (j:=lo+n) 'd' 'd',n+1,0,rfl,rfl,by lia,?_,by lia,?_⟩))
    ·have kk:=kJ (κ:=κ) (xs:=Ku qz) (i:=lo+n-(tw+1)) (j:=lo+n) (by rw[r3.size];lia) λk a b=>g5 k a b;have d:Dn κ (mirror (Ku qz) (lo+n-(tw+1)) (lo+n) ((lo+n-(lo+n-(tw+1)))/2)) lo n:=λi j a b c=>by rw[kk,kk];exact g3 i j a b c
     refine d.step 'd' ?_;rw[kk,kk];exact gm e
    ·intro i a b;have:i=lo+(n+1)-1:=by lia
     rw[this]
   ·rw[Ko hq];refine aO ⟨r3,n+1,0,rfl,rfl,by lia,g3.step 'd' (gm e),by lia,?_⟩;intro i a b;have:i=lo+(n+1)-1:=by lia
    rw[this]
  | false=>
   refine aJ (FQ (i:=lo+n-1) (j:=lo+n) ho hs hk r3 'd' 'd' ?_);cases e':κ.blt (KK κ (Ku qz) (lo+n-1)) (KK κ (Ku qz) (lo+n)) with
   |true=>exact aO ⟨r3,n,tw,rfl,g2,g3,g4,g5⟩
   | false=>
    have eq:KK κ (Ku qz) (lo+n)=KK κ (Ku qz) (lo+n-1):=κ.total _ _ e e';refine aO ⟨r3,n+1,tw+1,rfl,rfl,by lia,g3.step 'd' e',by lia,?_⟩;intro i a b;have:lo+(n+1)-1=lo+n:=by lia
    rw[this];by_cases hi:i=lo+n
    ·rw[hi]
    ·rw[eq];exact g5 i 'd' 'd'
 ·rintro c qz ⟨r3,n,tw,rfl,e,g2,g3,g4,g5⟩;exact⟨r3,n,tw,rfl,g2,g3,g4,g5⟩
 ·exact⟨r2,n1+1,0,rfl,rfl,by lia,d2,by lia,λi a b=>by
   have:i=lo+(n1+1)-1:=by lia
   rw[this]⟩
 ·rintro c qz ⟨r3,n0,tw,rfl,WQ,g3,g4,g5⟩;have Hc:1<=n0:=by lia
  apply Qr (H:=λrD=>Rl rW lo rD/\Dn κ (Ku rD) lo n0);intro key;show wpS _ _ _ _ (if tw>0 then _ else _) Q qz;by_cases hq:tw>0
  ·rw[Kk hq];refine aJ (kS ?_);have r4:=r3.rev (i:=lo+n0-(tw+1)) (j:=lo+n0) 'd' 'd';have kk:=kJ (κ:=κ) (xs:=Ku qz) (i:=lo+n0-(tw+1)) (j:=lo+n0) (by rw[r3.size];lia) λk a b=>g5 k a b;have d4:Dn κ (Ku (setArr qz (mirror (Ku qz) (lo+n0-(tw+1)) (lo+n0) ((lo+n0-(lo+n0-(tw+1)))/2)))) lo n0:=λi j a b c=>by
    show κ.kle (KK κ (mirror _ _ _ _) j) (KK κ (mirror _ _ _ _) i);rw[kk,kk];exact g3 i j a b c
   generalize setArr qz (mirror (Ku qz) (lo+n0-(tw+1)) (lo+n0) ((lo+n0-(lo+n0-(tw+1)))/2))=rD at *;exact key _ ⟨r4,d4⟩
  ·rw[Ko hq];exact key _ ⟨r3,g3⟩
  rintro rD ⟨r4,d4⟩;refine aJ (kS ?_);have r1:=r4.rev (i:=lo) (j:=lo+n0) (aE lo) 'd';have u1:Up κ (Ku (setArr rD (mirror (Ku rD) lo (lo+n0) ((lo+n0-lo)/2)))) lo n0:=Up.rev d4 (by rw[r4.size];lia);generalize setArr rD (mirror (Ku rD) lo (lo+n0) ((lo+n0-lo)/2))=rh at *;walk_at "asc"
  ·rintro c h_ ⟨rfl,n,rfl,g1,g2,g3,_⟩;exact aO (q n _ r1 g1 g2 g3)
end
section
variable{prog:aP}{w:aZ}{A:bb}{E:ab->ag->Prop}{s:ag}{κ:a8}{rW:bS}{lo:Nat}{kd:KT}
def zjO(H:xv prog w A s κ kd)(J:∀x∈(Ku rW).toList,um κ x)(K:kindOf rW=kd)(L:1<=ok)(U:ok<=n)(V:lo+n<=(Ku rW).size)(M:Rl rW lo rh)(N:Up κ (Ku rh) lo ok)(q:∀f,Rl rW lo f->Up κ (Ku f) lo n->Q YP f):wpS (az prog w) A E s (binarySort' lo n ok) Q rh:=by
 rw[binarySort'_eq];refine aJ (dO (cV (I:=λk c f=>Rl rW lo f/\c=(XV,())/\1<=k/\Up κ (Ku f) lo k) (Q:=λc f=>Rl rW lo f/\c=(XV,())/\Up κ (Ku f) lo n) ?_ ?_ ?_) ?_)
 ·rintro k c g _ W ⟨h,rfl,O,m⟩;refine aJ (dO (cV (I:=λj c f=>f=g/\∃l r,c=(XV,l,r)/\l<=r/\r<=k/\r-l<=k-j/\(∀i,i<l->κ.kle (KK κ (Ku g) (lo+i)) (KK κ (Ku g) (lo+k)))/\(∀i,r<=i->i<k->κ.blt (KK κ (Ku g) (lo+k)) (KK κ (Ku g) (lo+i))=YP)) (Q:=λc f=>f=g/\∃l,c=(XV,l,l)/\l<=k/\(∀i,i<l->κ.kle (KK κ (Ku g) (lo+i)) (KK κ (Ku g) (lo+k)))/\(∀i,l<=i->i<k->κ.blt (KK κ (Ku g) (lo+k)) (KK κ (Ku g) (lo+i))=YP)) ?_ ?_ ?_) ?_)
  ·rintro j c d _ X ⟨rfl,l,r,rfl,P,u,y,o,p⟩;show wpS _ _ _ _ (if l ≥ r then _ else _) _ d;by_cases z:l ≥ r
   ·rw[Kk z];have:l=r:=by lia
    subst this;exact aO ⟨rfl,l,rfl,u,o,p⟩
   ·rw[Ko z];refine aJ (FQ (i:=lo+k) (j:=lo+(l+r)/2) H J K h 'd' 'd' ?_);cases e:κ.blt (KK κ (Ku d) (lo+k)) (KK κ (Ku d) (lo+(l+r)/2)) with
    |true=>exact aO ⟨rfl,l,(l+r)/2,rfl,by lia,by lia,by lia,o,λi v R=>KeyOrd.klt_of_klt_of_kle e (m _ _ 'd' 'd' 'd')⟩
    |false=>exact aO ⟨rfl,(l+r)/2+1,r,rfl,by lia,by lia,by lia,λi v=>iW (m _ (lo+(l+r)/2) 'd' 'd' 'd') e,p⟩
  ·rintro c d ⟨rfl,l,r,rfl,P,u,y,o,p⟩;rw[d6] at y;have:l=r:=by lia
   subst this;exact⟨rfl,l,rfl,u,o,p⟩
  ·exact⟨rfl,0,k,rfl,by lia,by lia,by lia,λi v=>by lia,λi L Y=>by lia⟩
  ·rintro c d ⟨rfl,l,rfl,u,o,p⟩;show wpS (az prog w) A E s (moveDown' (lo+k) (lo+l) >>= _) _ d;rw[moveDown'_eq];have B:lo+k<(Ku d).size:=by rw[h.size];lia
   have Z:lo+k-(lo+l)=k-l:=by lia
   refine aJ (fP (aO ⟨⟨(bubble_perm _ _ _).trans h.perm,h.kind,h.failed,h.pend,λi v=>?_⟩,rfl,by lia,?_⟩))
   ·show(bubble (Ku d) (lo+k) (lo+k-(lo+l)))[i]?=_;rw[getElem?_bubble B _ 'd',Ko 'd',Ko 'd'];exact h.fix i v
   ·show Up κ (bubble (Ku d) (lo+k) (lo+k-(lo+l))) lo (k+1);have C:∀x,KK κ (bubble (Ku d) (lo+k) (lo+k-(lo+l))) x=if x=lo+l then KK κ (Ku d) (lo+k) else if lo+l<x/\x<=lo+k then KK κ (Ku d) (x-1) else KK κ (Ku d) x:=λx=>by
     rw[KK_bubble B 'd'];have:lo+k-(lo+k-(lo+l))=lo+l:=by lia
     rw[this]
    have S:∀x,lo<=x->x<lo+l->κ.kle (KK κ (Ku d) x) (KK κ (Ku d) (lo+k)):=λx a b=>by
     have:=o (x-lo) 'd';rw[show lo+(x-lo)=x by lia] at this;exact this
    have T:∀x,lo+l<=x->x<lo+k->κ.kle (KK κ (Ku d) (lo+k)) (KK κ (Ku d) x):=λx a b=>by
     have:=p (x-lo) 'd' 'd';rw[show lo+(x-lo)=x by lia] at this;exact gm this
    intro i j a b c;rw[C i,C j];by_cases D:i=lo+l
    ·rw[Kk D];by_cases t:j=lo+l
     ·rw[Kk t];exact BH _
     ·rw[Ko t,Kk 'd'];exact T (j-1) 'd' 'd'
    ·rw[Ko D];by_cases F:lo+l<i/\i<=lo+k
     ·rw[Kk F,Ko 'd',Kk 'd'];exact m _ _ 'd' 'd' 'd'
     ·rw[Ko F];by_cases t:j=lo+l
      ·rw[Kk t];exact S i a 'd'
      ·rw[Ko t];by_cases G:lo+l<j/\j<=lo+k
       ·rw[Kk G];exact m _ _ a 'd' 'd'
       ·rw[Ko G];exact m _ _ a b 'd'
 ·rintro c g ⟨h,rfl,O,m⟩;rw[show max (max ok 1) n=n by lia] at m;exact⟨h,rfl,m⟩
 ·exact⟨M,rfl,by lia,by rw[show max ok 1=ok by lia];exact N⟩
 ·rintro c g ⟨h,rfl,m⟩;exact aO (q g h m)
end
def vc:Nat->List (List bh)->List (Nat×Nat)
 |_,[]=>[]
 |b,X::S=>(b,X.length)::vc (b+X.length) S
theorem JN:∀(S T:List (List bh))(b:Nat),vc b (S++T)=vc b S++vc (b+S.flatten.length) T
 |[],T,b=>by simp[vc]
 | X::S,T,b=>by
  rw[kl,vc,vc,kl,JN S T,iB,au,lT]
theorem CG:∀(S:List (List bh))(b:Nat),(vc b S).length=S.length
 |[],_=>rfl
 |X::S,b=>by rw[vc,aW,CG S,aW]
def se(t:Nat×Nat×Nat):Nat×Nat:=(t.1,t.2.1)
structure Pn(κ:a8)(kd:KT)(L0:List bh)(st:bS)(lo:Nat)(S:List (List bh))(R:List bh):Prop where
 arr:(Ku st).toList=S.flatten++R
 lo:S.flatten.length=lo
 pend:(Kv st).toList.map se=vc 0 S
 ne:∀X∈S,1<=X.length
 srt:∀X∈S,qX κ X
 kind:kindOf st=kd
 failed:failedOf st=XV
 perm:(Ku st).toList.Perm L0
def Pn.size{κ:a8}{kd:KT}{b:List bh}{a:bS}{lo:Nat}{S:List (List bh)}{R:List bh}(h:Pn κ kd b a lo S R):(Kv a).size=S.length:=by have:=congrArg kP h.pend;rw[aq,aG,CG] at this;exact this
theorem SE:∀(S:List (List bh)),(∀X∈S,1<=X.length)->S.length<=S.flatten.length
 |[],_=>by simp
 | X::S,h=>by
  rw[iB,au,aW];have:=h X ar;have:=SE S λY a=>h Y (ak _ a);lia
theorem TH{α:Type}:∀(S:List α)(i:Nat),i+1<S.length->∃a X Y b,S=a++X::Y::b/\a.length=i
 |[],i,h=>by simp at h
 |[_],i,h=>by simp at h
 |X::Y::S,0,_=>⟨[],X,Y,S,rfl,rfl⟩
 | X::Y::S,i+1,h=>by
  obtain⟨a,A,B,b,e,l⟩:=TH (Y::S) i ⇑h;exact⟨X::a,A,B,b,by rw[e];rfl,by simp[l]⟩
theorem UO{α β:Type}(f:α->β):∀(l:List α)(i:Nat),(l.eraseIdx i).map f=(l.map f).eraseIdx i
 |[],_=>rfl
 |_::_,0=>rfl
 |x::l,i+1=>by simp[UO f l i]
section
variable{prog:aP}{w:aZ}{A:bb}{E:ab->ag->Prop}{s:ag}{κ:a8}{L0:List bh}{st:bS}{lo:Nat}{kd:KT}
def RF(I:xv prog w A s κ kd)(J:∀x∈L0,um κ x)(p:Pn κ kd L0 st lo S R)(K:i+1<S.length)(q:∀g r,Pn κ kd L0 g lo r R->r.length+1=S.length->Q YP g):wpS (az prog w) A E s (mergeAt' i) Q st:=by
 obtain⟨c,X,Y,d,rfl,j⟩:=TH S i K;have l:=p.pend;rw[JN,vc,vc,fZ] at l;have u:∀k a b,(vc 0 c++(c.flatten.length,X.length)::(c.flatten.length+X.length,Y.length)::vc (c.flatten.length+X.length+Y.length) d)[k]?=Xy (a,b)->∃v,(Kv st)[k]?=Xy (a,b,v):=λk a b h=>by
  rw[<- l,bd] at h;have L:(Kv st)[k]?=(Kv st).toList[k]?:=by simp
  cases e:(Kv st).toList[k]? with
  |none=>rw[e] at h;cases h
  | some t=>
   rw[e] at h;obtain⟨x,y,z⟩:=t;injection h with h;unfold se at h;injection h with h1 h2;dsimp only at h1 h2;exact⟨z,by rw[L,e,h1,h2]⟩
 obtain⟨v,B⟩:=u i c.flatten.length X.length (by rw[aS (by rw[CG];lia),CG,j,gA];rfl);obtain⟨W,C⟩:=u (i+1) (c.flatten.length+X.length) Y.length (by rw[aS (by rw[CG];lia),CG,j,bM];rfl);have m:(Ku st).toList=c.flatten++(X++(Y++(d.flatten++R))):=by rw[p.arr];simp
 have n:X∈c++X::Y::d:=by simp
 have D:Y∈c++X::Y::d:=by simp
 refine zlD I p.kind p.failed m B C (p.ne X n) (p.ne Y D) (p.srt X n) (p.srt Y D) (λx N=>J x (p.perm.mem_iff.mp (by
   rw[m];rcases aM.mp N with h|h<;>simp[h]))) λg M O P T F G U=>?_
 have o:M.length=X.length+Y.length:=by rw[G.length_eq,au]
 refine q g (c++M::d) ⟨?_,?_,?_,?_,?_,O,P,?_⟩ (by simp;lia)
 ·rw[F];simp
 ·rw[<- p.lo];simp[o];lia
 ·rw[T,JN,vc,fZ,o];have De:i<(Kv st).size:=(jS.mp B).1;have V:i+1<(Kv st).size:=(jS.mp C).1;rw[Array.eraseIdxIfInBounds,dif_pos (by rw[kn];exact V),Array.toList_eraseIdx,jR,UO,List.map_set,l];have H:(vc 0 c).length=i:=by rw[CG,j]
  rw[gC _ _ 'd',H,gA,fw,List.eraseIdx_append_of_length_le 'd',H,bM];show _++(_::vc _ d)=_;rw[lT];rfl
 ·intro Z f;simp only[aM,aw] at f;rcases f with h|rfl|h
  ·exact p.ne Z (by simp[h])
  ·rw[o];have:=p.ne X n;lia
  ·exact p.ne Z (by simp[h])
 ·intro Z f;simp only[aM,aw] at f;rcases f with h|rfl|h
  ·exact p.srt Z (by simp[h])
  ·exact U
  ·exact p.srt Z (by simp[h])
 ·rw[F];refine List.Perm.trans ?_ p.perm;rw[m];refine fB _ ?_;rw[<- aX X];exact G.append_right _
end
section
variable{prog:aP}{w:aZ}{A:bb}{E:ab->ag->Prop}{s:ag}{κ:a8}{L0:List bh}{st:bS}{lo:Nat}{kd:KT}
def zkz(u:Up κ xs lo m)(h:lo+m<=xs.size):qX κ ((xs.toList.drop lo).take m):=by
 unfold qX;rw[dZ];intro i j b c d;rw[bU,cy,aG] at b c;have a:∀k,k<m->∀(a:k<((xs.toList.drop lo).take m).length),ky κ ((xs.toList.drop lo).take m)[k]=KK κ xs (lo+k):=λk e a=>by
  rw[mR,mS];unfold KK ky;rw[fQ,ba 'd']
 unfold Le;rw[a i 'd',a j 'd'];exact u _ _ 'd' 'd' 'd'
def Pn.run(p:Pn κ kd L0 st lo S R)(r:Rl st lo h_)(h:lo+m<=(Ku st).size)(u:Up κ (Ku h_) lo m):∃b,Pn κ kd L0 h_ lo S b/\b.length=R.length/\qX κ (b.take m):=by
 have c:=p.lo;have g:=r.size;have a:(Ku h_).toList.length=lo+R.length:=by rw[aG,g,<- aG,p.arr,au,c]
 have d:(Ku h_).toList.take lo=S.flatten:=by
  have e:(Ku st).toList.take lo=S.flatten:=by rw[p.arr,<- c,nW]
  rw[<- e];apply mU;intro i;by_cases f:i<lo
  ·rw[fW f,fW f,cX,cX];exact r.fix i f
  ·rw[jT 'd',jT 'd']
 have j:(Ku h_).toList=S.flatten++(Ku h_).toList.drop lo:=by
  conv=>lhs;rw[<- cn lo (Ku h_).toList]
  rw[d]
 refine⟨(Ku h_).toList.drop lo,⟨j,c,by rw[r.pend];exact p.pend,p.ne,p.srt,r.kind.trans p.kind,r.failed.trans p.failed,(dQ.mp r.perm).trans p.perm⟩,by rw[cy,a];lia,?_⟩;exact zkz u (by rw[g];exact h)
def Pn.push(p:Pn κ kd L0 st lo S R)(c:1<=m)(e:m<=R.length)(d:qX κ (R.take m)):Pn κ kd L0 (setPending st ((Kv st).push (lo,m,pw))) (lo+m) (S++[R.take m]) (R.drop m):=by
 have a:(R.take m).length=m:=by rw[bU];lia
 refine⟨?_,?_,?_,?_,?_,p.kind,p.failed,p.perm⟩
 ·show(Ku st).toList=_;rw[p.arr];simp
 ·rw[List.flatten_append,au,p.lo];show lo+(R.take m++[]).length=_;rw[bw,a]
 ·show((Kv st).push (lo,m,pw)).toList.map se=_;rw[eQ,br,p.pend,JN,p.lo,fZ,vc,vc,a];rfl
 ·intro X b;rcases aM.mp b with h|h
  ·exact p.ne X h
  ·rw[dH.mp h,a];exact c
 ·intro X b;rcases aM.mp b with h|h
  ·exact p.srt X h
  ·rw[dH.mp h];exact d
theorem Vz{α β:Type}(f:α->β)(g:α->α)(h:∀x,f (g x)=f x):∀(l:List α)(i:Nat),(l.modify i g).map f=l.map f
 |[],_=>by simp
 |x::l,0=>by simp[h]
 |x::l,i+1=>by simp[Vz f g h l i]
def Pn.power(p:Pn κ kd L0 st lo S R)(a:∀x,se (g x)=se x)(i:Nat):Pn κ kd L0 (setPending st ((Kv st).modify i g)) lo S R:=by refine⟨p.arr,p.lo,?_,p.ne,p.srt,p.kind,p.failed,p.perm⟩;show((Kv st).modify i g).toList.map se=_;rw[Array.toList_modify,Vz se g a,p.pend]
def Z4(h:qX κ xs.toList):jD κ xs xs.size:=λi j d a=>by
 by_cases e:i=j
 ·subst e;exact BH _
 have b:KK κ xs i=ky κ xs[i]:=by unfold KK ky;rw[ba 'd']
 have c:KK κ xs j=ky κ xs[j]:=by unfold KK ky;rw[ba a]
 rw[b,c];have:=dZ.mp h i j (by rw[aG];lia) (by rw[aG];lia) 'd';rw[fQ,fQ] at this;exact this
set_option maxHeartbeats 0 in
def TV(G:xv prog w A s κ kd)(hs:jj κ a₀)(P:(Ku st).Perm a₀)(bk:kindOf st=kd)(bf:failedOf st=XV)(bn:Kv st = #[])(q:∀d,(Ku d).Perm a₀->failedOf d=XV->jD κ (Ku d) a₀.size->Q () d):wpS (az prog w) A E s sortRuns' Q st:=by
 have u:∀x∈a₀.toList,um κ x:=hs;have p0:Pn κ kd a₀.toList st 0 [] (Ku st).toList:=⟨rfl,rfl,by rw[bn];rfl,by simp,by simp,bk,bf,dQ.mp P⟩;have M:(Ku st).size=a₀.size:=P.size_eq;rw[sortRuns'_eq];refine aJ (gU ?_);show wpS _ _ _ _ (forIn [:(Ku st).size] (XV,0) _ >>= _) Q st;rw[M];refine aJ (dO (cV (I:=λk c d=>∃lo S R,c=(XV,lo)/\Pn κ kd a₀.toList d lo S R/\k<=lo) (Q:=λc d=>∃lo S R,c=(XV,lo)/\Pn κ kd a₀.toList d lo S R/\a₀.size<=lo) ?_ ?_ ?_) ?_)
 ·rintro k c v _ hk ⟨lo,S,R,rfl,p,C⟩;have T:lo+R.length=a₀.size:=by
   have:=p.perm.length_eq;rw[p.arr,au,p.lo,aG] at this;exact this
  have N:(Ku v).size=a₀.size:=by rw[<- aG,p.perm.length_eq,aG]
  show wpS _ _ _ _ (if lo ≥ _ then _ else _) _ v;by_cases l:lo ≥ a₀.size
  ·rw[Kk (by first|exact l|(rw[M];exact l))];exact aO ⟨lo,S,R,rfl,p,l⟩
  rw[Ko (by first|exact l|(rw[M];exact l))];have U:∀x∈(Ku v).toList,um κ x:=λx hx=>u x (p.perm.mem_iff.mp hx);refine aJ (zbV (lo:=lo) (nrem:=a₀.size-lo) G U p.kind 'd' 'd' (Rl.refl v lo) λn o V W n2 Y=>?_);apply Fy (α:=bS) (β:=Nat) (H:=λD m=>∃i,Pn κ kd a₀.toList D lo S i/\1<=m/\m<=i.length/\qX κ (i.take m)/\k<lo+m);intro F;show wpS _ _ _ _ (if n<minRun' a₀.size a₀.size 0 then _ else _) _ o;by_cases Z:n<minRun' a₀.size a₀.size 0
  ·rw[Kk Z];refine aJ (jq (dN ⟨rfl,aJ (zjO (lo:=lo) (n:=min (a₀.size-lo) (minRun' a₀.size a₀.size 0)) (ok:=n) G U p.kind W 'd' 'd' V Y λD r3 u3=>?_)⟩));obtain⟨i,r,l3,z⟩:=p.run r3 'd' u3;have J:1<=min (a₀.size-lo) (minRun' a₀.size a₀.size 0):=by lia
   have K:min (a₀.size-lo) (minRun' a₀.size a₀.size 0)<=i.length:=by lia
   generalize min (a₀.size-lo) (minRun' a₀.size a₀.size 0)=m at *;exact F _ _ ⟨i,r,J,K,z,by lia⟩
  ·rw[Ko Z];obtain⟨i,r,l3,z⟩:=p.run V 'd' Y;exact F _ _ ⟨i,r,W,by lia,z,by lia⟩
  rintro D m ⟨i,r,J,K,z,C⟩;refine aJ (gU ?_);cases hb:(Kv D).back? with
  |none=>exact aJ (fP (aO ⟨lo+m,_,_,rfl,r.push J K z,by lia⟩))
  | some t=>
   obtain⟨s1,n1',pw0⟩:=t;refine aJ (dO (cV (I:=λj c d=>c=(XV,())/\∃e,Pn κ kd a₀.toList d lo e i) (Q:=λc d=>c=(XV,())/\∃e,Pn κ kd a₀.toList d lo e i) ?_ ?_ ?_) ?_)
   ·rintro j c f _ _ ⟨rfl,e,B⟩;refine aJ (gU ?_);show wpS _ _ _ _ (match (if (Kv f).size>1 then (Kv f)[(Kv f).size-2]? else XV) with|some (fst,fst_1,BO)=>_|x=>_) _ f;cases ht:(if (Kv f).size>1 then (Kv f)[(Kv f).size-2]? else XV) with
    |none=>exact aO ⟨rfl,e,B⟩
    | some t=>
     obtain⟨x,y,BO⟩:=t;have O:(Kv f).size>1:=by
      by_cases O:(Kv f).size>1
      ·exact O
      ·rw[Ko O] at ht;cases ht
     show wpS _ _ _ _ (if BO<=_ then _ else _) _ f;split
     ·exact aO ⟨rfl,e,B⟩
     ·exact aJ (RF G u B (by rw[B.size] at *;lia) λKn S5 p5 _=>aO ⟨rfl,S5,p5⟩)
   ·rintro c f h;exact h
   ·exact⟨rfl,S,r⟩
   ·rintro c f ⟨rfl,e,B⟩;refine aJ (fP (aJ (fP (aO ⟨lo+m,_,_,rfl,Pn.push (Pn.power B ?_ _) J K z,by lia⟩))));rintro⟨a,b,c⟩;rfl
 ·rintro c v ⟨lo,S,R,rfl,p,C⟩;exact⟨lo,S,R,rfl,p,by rw[d6] at C;exact C⟩
 ·exact⟨0,[],_,rfl,p0,aE _⟩
 ·rintro c v ⟨lo,S,R,rfl,p,C⟩;have hR:R=[]:=by
   have h:=p.perm.length_eq;rw[p.arr,au,p.lo] at h;have h2:a₀.toList.length=a₀.size:=aG;exact cJ.mp 'd'
  refine aJ (dO (cV (I:=λk c d=>c=(XV,())/\∃S,Pn κ kd a₀.toList d lo S R/\S.length<=a₀.size-k) (Q:=λc d=>c=(XV,())/\∃S,Pn κ kd a₀.toList d lo S R/\S.length<=1) ?_ ?_ ?_) ?_)
  ·rintro k c o _ hk ⟨rfl,e,g,L⟩;refine aJ (gU ?_);show wpS _ _ _ _ (if (Kv o).size<=1 then _ else _) _ o;by_cases l:(Kv o).size<=1
   ·rw[Kk l];exact aO ⟨rfl,e,g,by rw[<- g.size];exact l⟩
   ·rw[Ko l];have N:=g.size;refine aJ (RF G u g ?_ λD S3 r h3=>aO ⟨rfl,S3,r,by lia⟩)
    repeat' split
    all_goals lia
  ·rintro c o ⟨rfl,e,g,L⟩;exact⟨rfl,e,g,by rw[d6] at L;lia⟩
  ·refine⟨rfl,S,p,?_⟩;have h1:=SE S p.ne;have h:=p.perm.length_eq;rw[p.arr,au] at h;have h2:a₀.toList.length=a₀.size:=aG;lia
  ·rintro c o ⟨rfl,e,g,L⟩;have v9:=g.arr;rw[hR,bw] at v9;have N:(Ku o).size=a₀.size:=by rw[<- aG,g.perm.length_eq,aG]
   refine aO (q o (dQ.mpr g.perm) g.failed ?_);rw[<- N];apply Z4;rw[v9]
   match e,L with
   |[],_=>exact eo
   |[X],_=>rw[iB,List.flatten_nil,bw];exact g.srt X ar
end
def list_sort_big(m:κ.OneLt)(g:s.heap.get? a=Xy (seqObj "list" c.toArray n))(o:jj κ (pairsOf c))(p:∀r t b,c=r::t::b->keyKind' (r::t::b).toArray=pure oneType')
  (u:c.length<=4000000) (q:∀d:bS,(Ku d).Perm (pairsOf c)->jD κ (Ku d) (pairsOf c).size->P (Fin.done (Flow.ret gG)) { heap:=sortedHeap s.heap a c (gF (λx=>x.snd) (Ku d)),gens:=s.gens,drawn:=s.drawn,toks:=s.toks,os:=s.os }):av (az prog w) A (d0.«list.sort» { pos:=[fR a] }) P E s:=by
 by_cases v:c.length<64
 ·exact list_sort_treeK m g o p v q
 rw[list_sort_plain];have y:(4000000:Nat)<=Kw:=by decide
 obtain⟨v1,f,b,rfl⟩:∃v1 f b,c=v1::f::b:=by
  match c,v with
  |[],h=>exact absurd (by show 0<64;decide) h
  |[_],h=>exact absurd (by show 1<64;decide) h
  |v1::f::b,_=>exact⟨v1,f,b,rfl⟩
 generalize k:v1::f::b=c at *;have z:=cm (bF λ_=>#[]) g rfl;have B:=af (seqObj "list" #[] 0) (af (seqObj "tuple" c.toArray 0) z);refine aa (jd g rfl (aa (iN g rfl (aa (jy z rfl (aa (iq (aa (gO (bH ?_) 'u')) (by simpa using aH u y))))) (by simpa using aH u y) (by show 0<=Kw+1;lia))));have C:¬ c.toArray.size<2:=by rw[aL];lia
 show av (az prog w) A (if c.toArray.size<2 then _ else _) P E _;rw[Ko C,<- k,p v1 f b k.symm,k];refine aa (ah ?_);rw[Ko C];show av (az prog w) A (sortRuns'.run (lK oneType' (c.toArray.zip c.toArray) #[] 7 XV) >>= _) P E { heap:=((s.heap.update a (bF λx=>#[])).push (seqObj "tuple" c.toArray 0)).push (seqObj "list" #[] 0),gens:=s.gens,drawn:=s.drawn,toks:=s.toks,os:=s.os };refine aa (cB (TV (Q:=λ_ d=>(Ku d).Perm (pairsOf c)/\failedOf d=XV/\jD κ (Ku d) (pairsOf c).size) (xv.one m) (a₀:=pairsOf c) o (jc _) rfl rfl rfl λd i j l=>⟨i,j,l⟩) ?_ λ_ _ h=>h);rintro⟨_,d⟩ D ⟨rfl,i,j,l⟩;have F:(gF (λx=>x.snd) (Ku d)).size<=4000000:=by
  rw[lu,i.size_eq];show(c.toArray.zip c.toArray).size<=_;rw[nX,aL];lia
 refine aa (jy B rfl (aa (iN B rfl ?_ (by show 0<=Kw;lia) (by show(gF _ _).size<=Kw+1;lia))));dsimp only at j;show av (az prog w) A (match failedOf d with|some e=>_|x=>_) P E _;rw[j];show av (az prog w) A (if ((if _ then n else n+1) !=(if _ then n else n+1))=YP then _ else _) P E _;rw[Ko 'k'];exact ah (q d i l)
def D6:ab->Option n_
 |.str x _=>Xy x.cps.toList
 |_=>XV
def allS:List ab->Option l_
 |[]=>Xy []
 | v::vs=>match D6 v,allS vs with
  |some a,Xy r=>Xy (a::r)
  |_,_=>XV
def Bx(h:a7):ab->Option l_
 | .ref t=>match h.get? t with
  | some o=>match o.data with
   |.seq d_ _=>allS d_.toList
   |_=>XV
  |none=>XV
 |_=>XV
def llt_irrefl(a:l_):¬ a<a:=ee a
def llt_trans{a b c:l_}(d:a<b)(e:b<c):a<c:=iO d e
def llt_total{a b:l_}(c:¬ a<b)(d:¬ b<a):a=b:=ko (iI.mp d) (iI.mp c)
def Bz(h:a7):a8 where
 α:=l_
 blt:=λa b=>decide (a<b)
 irrefl:=λa=>decide_eq_false (llt_irrefl a)
 trans:=λa b c h1 h2=>decide_eq_true (llt_trans (of_decide_eq_true h1) (of_decide_eq_true h2))
 negTrans:=λa b c h=>by
  by_cases h1:a<b
  ·exact .inl (decide_eq_true h1)
  ·right;have hac:=of_decide_eq_true h;by_cases h2:b<a
   ·exact decide_eq_true (llt_trans h2 hac)
   ·rw[<- llt_total h1 h2];exact h
 total:=λa b h1 h2=>llt_total (of_decide_eq_false h1) (of_decide_eq_false h2)
 keyOf:=Bx h
 dflt:=[]
def Ax:l_->l_->Option Bool
 |a::as,b::bs=>if a=b then Ax as bs else Xy (decide (a<b))
 |_,_=>XV
theorem Sn:∀c d:l_,(match Ax c d with|some r=>r|none=>decide (c.length<d.length))=decide (c<d)
 |[],[]=>by simp[Ax]
 |[],b::d=>by simp[Ax]
 |a::c,[]=>by simp[Ax]
 | a::c,b::d=>by
  unfold Ax;by_cases e:a=b
  ·subst e;rw[Kk rfl];have:=Sn c d;rw[aW,aW];have f:decide (c.length+1<d.length+1)=decide (c.length<d.length):=by simp
   rw[f,this];simp[lv]
  ·rw[Ko e];show decide (a<b)=_;simp[lv,e]
theorem US
  (n:∀x y i a b{Q:ForInStep (Option Bool×Unit)->ag->Prop},D6 x=Xy a->D6 y=Xy b->Q (if a=b then .yield (XV,()) else .done (Xy (decide (a<b)),())) s->av M A (f ((x,y),i) (XV,())) Q E s):
  ∀(xs g:List ab)(c d:l_)(j:Nat){Q:Option Bool×Unit->ag->Prop},allS xs=Xy c->allS g=Xy d->Q (Ax c d,()) s->av M A (forIn ((xs.zip g).zipIdx j) (XV,()) f) Q E s
 | [],g,c,d,j,Q,h1,h2,q=>by
  cases h1;exact ah (by cases d<;>exact q)
 | x::xs,[],c,d,j,Q,h1,h2,q=>by
  cases h2;exact ah (by cases c<;>exact q)
 | x::xs,y::g,c,d,j,Q,h1,h2,q=>by
  unfold allS at h1 h2;split at h1
  ·rename_i a h o k;split at h2
   ·rename_i b l p m;cases h1;cases h2;rw[jE,iU,g7];refine aa (n x y j a b o p ?_);unfold Ax at q;by_cases e:a=b
    ·rw[Kk e] at q ⊢;exact US n xs g h l (j+1) k m q
    ·rw[Ko e] at q ⊢;exact ah q
   ·cases h2
  ·cases h1
theorem SO{M:i4}{A:bb}{E:ab->ag->Prop}{s:ag}{α β:Type}{f:α->Sem β}(g:α->β):∀(l:List α){Q:List β->ag->Prop},(∀v∈l,∀(a:β->ag->Prop),a (g v) s->av M A (f v) a E s)->Q (l.map g) s->av M A (List.mapM f l) Q E s
 |[],Q,_,q=>by rw[List.mapM_nil];exact ah q
 | v::l,Q,h,q=>by
  rw[List.mapM_cons];exact aa (h v ar _ (aa (SO g l (λu b=>h u (ak _ b)) (ah q))))
def Sk{M:i4}{A:bb}{E:ab->ag->Prop}{s:ag}{α β:Type}{f:α->Sem β}(g:α->β)(l:List α){Q:Array β->ag->Prop}(h:∀v∈l,∀(a:β->ag->Prop),a (g v) s->av M A (f v) a E s)(q:Q (l.map g).toArray s):av M A (Array.mapM f l.toArray) Q E s:=by rw[Array.mapM_eq_mapM_toList];refine aa (SO g l h (ah q))
section
variable{prog:aP}{w:aZ}{A:bb}{E:ab->ag->Prop}{s:ag}
def FC(h:D6 v=Xy a):∃x t,v=.str x t/\x.cps.toList=a:=by
 cases v with
 |str x t=>exact⟨x,t,rfl,by cases h;rfl⟩
 |_=>cases h
def ZW(c:D6 x=Xy a)(d:D6 y=Xy b)(q:Q (decide (a<b)) s):av (az prog w) A (oneLt' o x y) Q E s:=by
 obtain⟨x,t,rfl,rfl⟩:=FC c;obtain⟨y,u,rfl,rfl⟩:=FC d;cases o with
 |true=>exact lU prog w A E s _ _ _ _ rfl rfl q
 | false=>
  rw[oneLt'_eq,Ko 'u'];refine aa (show av (az prog w) A (cD CmpOp.Lt _ _) _ E s from P.lt_str ?_);exact ah q
structure TupS(h:a7)(v:ab)(ks:l_):Prop where
 ok:∃t o d_ c,v=.ref t/\h.get? t=Xy o/\o.cls=.type "tuple"/\o.data=.seq d_ c/\allS d_.toList=Xy ks
noncomputable def Cq(h:a7)(v:ab):Option ab:=match v with
 | .ref t=>match h.get? t with
  | some o=>match o.data with
   |.seq d_ _=>d_[0]?
   |_=>XV
  |none=>XV
 |_=>XV
def T9(g:h.get? t=Xy o)(a:o.data=.seq d_ c):Cq h (.ref t)=d_[0]?:=by show(match h.get? t with|some o=>(match o.data with|.seq d_ _=>d_[0]?|_=>XV)|none=>XV)=_;rw[g];dsimp only;rw[a]
def RU(e:Bx h v=Xy ks):∃t o a c,v=.ref t/\h.get? t=Xy o/\o.data=.seq a c/\allS a.toList=Xy ks:=by
 cases v with
 | ref t=>
  unfold Bx at e;dsimp only at e;cases g:h.get? t with
  |none=>rw[g] at e;cases e
  | some o=>
   rw[g] at e;dsimp only at e;cases b:o.data with
   |seq a c=>rw[b] at e;exact⟨t,o,a,c,rfl,g,b,e⟩
   |_=>rw[b] at e;cases e
 |_=>cases e
def M6(ok:TupS h v ks)(d:ks≠[]):∃x tk,Cq h v=Xy (.str x tk):=by
 obtain⟨t,o,f,c,rfl,g,k,i,b⟩:=ok;rw[T9 g i,<- cX];cases e:f.toList with
 |nil=>rw[e] at b;cases b;exact absurd rfl d
 | cons x r=>
  rw[e] at b;unfold allS at b;split at b
  ·rename_i a l j m;obtain⟨y,tk,rfl,_⟩:=FC j;exact⟨y,tk,rfl⟩
  ·cases b
theorem MH:∀{l:List ab}{b:l_},allS l=Xy b->l.length=b.length
 |[],b,h=>by cases h;rfl
 | v::l,b,h=>by
  unfold allS at h;split at h
  ·rename_i a r d c;cases h;rw[aW,aW,MH c]
  ·cases h
def z97{f:List ab}(T:2<=f.length)(k:∀v∈f,∃l,TupS s.heap v l/\l≠[]){Q:KT->ag->Prop}(q:∀kd:KT,xv prog w A s (Bz s.heap) kd->Q kd s):av (az prog w) A (keyKind' f.toArray) Q E s:=by
 show av (az prog w) A (_ >>= _) Q E s;refine aa (Sk (Cq s.heap) f (λv j m J=>?_) ?_)
 ·obtain⟨l,⟨t,o,U,c,rfl,g,V,L,ha⟩,n⟩:=k v j;show av (az prog w) A (typeOf (.ref t) >>= _) m E s;refine aa (wpAny_typeOf_ref g ?_);rw[V];show av (az prog w) A (kT (.ref t) >>= _) m E s;refine aa (jd g L (ah ?_));rw[<- T9 g L];exact J
 ·have W:((f.map (Cq s.heap)).toArray.all λx=>x.isSome)=YP:=by
   rw[ng,al];intro x d;obtain⟨v,j,rfl⟩:=ay.mp d;obtain⟨l,D,n⟩:=k v j;obtain⟨y,p,e⟩:=M6 D n;rw[e];rfl
  rw[Kk W];refine aa (dN ?_);have X:∀u∈(f.map (Cq s.heap)).filterMap id,∃y p,u=.str y p:=λu Y=>by
   obtain⟨x,d,e⟩:=hJ.mp Y;obtain⟨v,j,rfl⟩:=ay.mp d;obtain⟨l,D,n⟩:=k v j;obtain⟨y,p,F⟩:=M6 D n;rw[F] at e;injection e with e;exact⟨y,p,e.symm⟩
  have G:(f.map (Cq s.heap)).filterMap id≠[]:=by
   match f,T,k with
   | v::_,_,k=>
    obtain⟨l,D,n⟩:=k v ar;obtain⟨y,p,F⟩:=M6 D n;rw[bB,F];simp
  rw[List.filterMap_toArray];generalize (f.map (Cq s.heap)).filterMap id=z at *;refine aa ?_;show av (az prog w) A (Array.mapM typeOf z.toArray >>= _) _ E s;refine aa (Sk (λ_=>eG "str") z (λv j m J=>?_) ?_)
  ·obtain⟨y,p,rfl⟩:=X v j;exact ah J
  ·have Z:((z.map λ_=>eG "str").toArray)[0]?=Xy (eG "str"):=by
    cases z with
    |nil=>exact absurd rfl G
    |cons _ _=>rfl
   rw[Z];have K:((z.map λ_=>eG "str").toArray.all λx=>x==eG "str")=YP:=by
    rw[ng,al];intro x d;obtain⟨_,_,rfl⟩:=ay.mp d;rfl
   show av (az prog w) A (pure (if ((z.map λ_=>eG "str").toArray.all λx=>x==eG "str")=YP then Xy (eG "str") else XV)) _ E s;rw[K];refine ah (ah (q _ ?_));intro x y M m d B C;obtain⟨(H:l_),d⟩:=d;obtain⟨(I:l_),B⟩:=B;have ea:ky (Bz s.heap) x=H:=by unfold ky;rw[d];rfl
   have eb:ky (Bz s.heap) y=I:=by unfold ky;rw[B];rfl
   rw[ea,eb] at C;obtain⟨t,o,U,c,K,g1,d1,N⟩:=RU d;obtain⟨t2,o2,uf,c2,F,g2,d2,O⟩:=RU B;rw[K,F];show av (az prog w) A (kT (.ref t) >>= _) m M s;refine aa (jd g1 d1 (aa (jd g2 d2 (aa (US ?_ _ _ H I 0 N O ?_)))))
   ·intro x y i a b Q d B q;obtain⟨x,t,rfl,rfl⟩:=FC d;obtain⟨y,u,rfl,rfl⟩:=FC B;show av (az prog w) A (eqBool (.str x t) (.str y u) >>= _) Q M s;refine aa (wpAny_eqBool_str ?_);by_cases e:x=y
    ·subst e;rw[Kk rfl] at q;rw[decide_eq_true rfl];exact ah q
    ·have ne:x.cps.toList≠y.cps.toList:=λh=>e (by
      cases x;cases y;dsimp only at h;rw[nj.mp h])
     rw[Ko ne] at q;rw[decide_eq_false e];exact aa (ZW rfl rfl (ah q))
   ·have P:=MH N;have R:=MH O;rw[aG] at P R;have S:=Sn H I;rw[<- P,<- R] at S
    replace C:m (decide (H<I)) s:=C
    rw[<- S] at C;generalize Ax H I=r at *;cases r with
    |none=>exact ah C
    |some r=>exact ah C
end
def keyT(h:a7)(v:ab):l_:=(Bx h v).getD []
def UM(h:p∈(pairsOf vs).toList):p.1=p.2/\p.1∈vs:=by
 have e:(pairsOf vs).toList=vs.zip vs:=by simp[pairsOf]
 rw[e] at h;have a:vs.zip vs=vs.map λv=>(v,v):=by
  clear h e
  induction vs with
  |nil=>rfl
  |cons v r ih=>rw[jE,ih];rfl
 rw[a] at h;obtain⟨v,b,rfl⟩:=ay.mp h;exact⟨rfl,b⟩
def zd6(a:List ab):(pairsOf a).toList.map (λx=>x.2)=a:=by
 have e:(pairsOf a).toList=a.zip a:=by simp[pairsOf]
 rw[e]
 induction a with
 |nil=>rfl
 |cons v r ih=>rw[jE,bB,ih (by simp[pairsOf])]
def z6G(F:s.heap.get? a=Xy (seqObj "list" vs.toArray n))(hv:∀v∈vs,∃f,TupS s.heap v f/\(2<=vs.length->f≠[]))(S:vs.length<=4000000)
  (q:∀d:Array ab,d.toList.Perm vs->d.toList.Pairwise (λx y=>¬ keyT s.heap y<keyT s.heap x)->P (Fin.done (Flow.ret gG)) { heap:=sortedHeap s.heap a vs d,gens:=s.gens,drawn:=s.drawn,toks:=s.toks,os:=s.os }):av (az prog w) A (d0.«list.sort» { pos:=[fR a] }) P E s:=by
 rw[list_sort_plain];have T:(4000000:Nat)<=Kw:=by decide
 have U:=cm (bF λ_=>#[]) F rfl;have G:=af (seqObj "list" #[] 0) (af (seqObj "tuple" vs.toArray 0) U);have l:∀v∈vs,∃f,TupS (((s.heap.update a (bF λx=>#[])).push (seqObj "tuple" vs.toArray 0)).push (seqObj "list" #[] 0)) v f/\(2<=vs.length->f≠[])/\Bx (((s.heap.update a (bF λx=>#[])).push (seqObj "tuple" vs.toArray 0)).push (seqObj "list" #[] 0)) v=Bx s.heap v:=λv h=>by
  obtain⟨f,⟨t,o,m,c,rfl,g,K,L,M⟩,q_⟩:=hv v h;have ne:a≠t:=λe=>by
   subst e;rw[F] at g;cases g;exact absurd K 'k'
  have V:=af (seqObj "list" #[] 0) (af (seqObj "tuple" vs.toArray 0) ((cC s.heap (bF λ_=>#[]) ne).trans g));refine⟨f,⟨t,o,m,c,rfl,V,K,L,M⟩,q_,?_⟩;show(match Heap.get? _ t with|some o=>(match o.data with|.seq m _=>allS m.toList|_=>XV)|none=>XV)=(match s.heap.get? t with|some o=>(match o.data with|.seq m _=>allS m.toList|_=>XV)|none=>XV);rw[V,g]
 refine aa (jd F rfl (aa (iN F rfl (aa (jy U rfl (aa (iq (aa (gO (bH ?_) 'u')) (by simpa using aH S T))))) (by simpa using aH S T) (by show 0<=Kw+1;lia))));show av (az prog w) A _ P E { heap:=((s.heap.update a (bF λx=>#[])).push (seqObj "tuple" vs.toArray 0)).push (seqObj "list" #[] 0),gens:=s.gens,drawn:=s.drawn,toks:=s.toks,os:=s.os };generalize hH:((s.heap.update a (bF λx=>#[])).push (seqObj "tuple" vs.toArray 0)).push (seqObj "list" #[] 0)=H at *;have B:∀b:bS,(Ku b).Perm (pairsOf vs)->failedOf b=XV->jD (Bz H) (Ku b) (pairsOf vs).size->(gF (λx=>x.snd) (Ku b)).toList.Perm vs/\(gF (λx=>x.snd) (Ku b)).toList.Pairwise (λx y=>¬ keyT s.heap y<keyT s.heap x):=λb r _ u=>by
  have W:=dQ.mp r;refine⟨?_,?_⟩
  ·rw[nk];have:=W.map (λx:bh=>x.2);rw[zd6] at this;exact this
  ·rw[nk,dZ];intro i j X I Dl;rw[aq,aG] at X I;rw[iX,iX];have Y:=u i j 'd' (by rw[<- r.size_eq];exact I);have Z:∀k(h:k<(Ku b).size),KK (Bz H) (Ku b) k=keyT s.heap ((Ku b).toList[k]'(by rw[aG];exact h)).2:=λk h=>by
    unfold KK;rw[ba h];have hm:(Ku b)[k]∈(pairsOf vs).toList:=W.mem_iff.mp (by rw[<- fQ];exact bD _);obtain⟨h1,z⟩:=UM hm;obtain⟨f,_,_,h3⟩:=l _ z;dsimp only;show(Bx H (Ku b)[k].1).getD []=_;rw[h3,fQ,<- h1];rfl
   rw[Z i X,Z j I] at Y;exact of_decide_eq_false Y
 have N:jj (Bz H) (pairsOf vs):=λp J=>by
  obtain⟨h1,z⟩:=UM J;obtain⟨f,⟨t,o,m,c,e,g,K,L,M⟩,_⟩:=l _ z;refine⟨f,?_⟩;show Bx H p.1=Xy f;rw[e];show(match H.get? t with|some o=>(match o.data with|.seq m _=>allS m.toList|_=>XV)|none=>XV)=_;rw[g];dsimp only;rw[L];exact M
 have up:∀d:Array ab,H.update a (bF λ_=>d)=sortedHeap s.heap a vs d:=λd=>by rw[<- hH];rfl
 by_cases z:vs.length<2
 ·have C:vs.toArray.size<2:=by rw[aL];exact z
  show av (az prog w) A (if vs.toArray.size<2 then _ else _) P E _;rw[Kk C];refine aa (ah ?_);rw[Kk C];have pz:(pairsOf vs).size=vs.length:=by simp[pairsOf]
  obtain⟨O,R⟩:=B (lK general' (pairsOf vs) #[] 7 XV) (jc _) rfl (λi j Dl I=>by
   have:i=j:=by lia
   subst this;exact BH _)
  refine aa (ah ?_);have J:(gF (λx=>x.snd) (Ku (lK general' (pairsOf vs) #[] 7 XV))).size<=4000000:=by
   rw[lu];show(pairsOf vs).size<=_;lia
  refine aa (jy G rfl (aa (iN G rfl ?_ (by show 0<=Kw;lia) (by show(gF _ _).size<=Kw+1;exact aH J 'd'))));show av (az prog w) A (if ((if _ then n else n+1) !=(if _ then n else n+1))=YP then _ else _) P E _;rw[Ko 'k'];refine ah ?_;have:=q _ O R;rw[<- up] at this;exact this
 ·have C:¬ vs.toArray.size<2:=by rw[aL];exact z
  show av (az prog w) A (if vs.toArray.size<2 then _ else _) P E _;rw[Ko C];refine aa (z97 (s:={ heap:=H,gens:=s.gens,drawn:=s.drawn,toks:=s.toks,os:=s.os }) 'd' (λv h=>by obtain⟨f,k1,k2,_⟩:=l v h;exact⟨f,k1,k2 'd'⟩) λkd ho=>?_);rw[Ko C];show av (az prog w) A (sortRuns'.run (lK kd (vs.toArray.zip vs.toArray) #[] 7 XV) >>= _) P E _;refine aa (cB (TV (kd:=kd) (κ:=Bz H) (Q:=λ_ b=>(Ku b).Perm (pairsOf vs)/\failedOf b=XV/\jD (Bz H) (Ku b) (pairsOf vs).size) ho (a₀:=pairsOf vs) N (jc _) rfl rfl rfl λb r D u=>⟨r,D,u⟩) ?_ λ_ _ h=>h);rintro⟨_,b⟩ s' ⟨rfl,r,D,u⟩;dsimp only at r D u;obtain⟨O,R⟩:=B b r D u;have J:(gF (λx=>x.snd) (Ku b)).size<=4000000:=by
   rw[lu,r.size_eq];show(vs.toArray.zip vs.toArray).size<=_;rw[nX,aL];lia
  refine aa (jy G rfl (aa (iN G rfl ?_ (by show 0<=Kw;lia) (by show(gF _ _).size<=Kw+1;lia))));show av (az prog w) A (match failedOf b with|some e=>_|x=>_) P E _;rw[D];show av (az prog w) A (if ((if _ then n else n+1) !=(if _ then n else n+1))=YP then _ else _) P E _;rw[Ko 'k'];refine ah ?_;have:=q _ O R;rw[<- up] at this;exact this
def TupS.mono(k:∀b o,h.get? b=Xy o->h'.get? b=Xy o)(x:TupS h v ks):TupS h' v ks/\keyT h' v=keyT h v:=by obtain⟨t,o,a,c,rfl,g,e,f,i⟩:=x;have d:=k t o g;refine⟨⟨t,o,a,c,rfl,d,e,f,i⟩,?_⟩;show((match h'.get? t with|some o=>(match o.data with|.seq a _=>allS a.toList|_=>XV)|none=>XV):Option _).getD []=((match h.get? t with|some o=>(match o.data with|.seq a _=>allS a.toList|_=>XV)|none=>XV):Option _).getD [];rw[d,g]
def sorted_tups(u:s.heap.IsList l vs.toArray)(g:∀v∈vs,∃c,TupS s.heap v c/\(2<=vs.length->c≠[]))(i:vs.length<=4000000)
  (h:∀a:Array ab,a.toList.Perm vs->a.toList.Pairwise (λx y=>¬ keyT s.heap y<keyT s.heap x)->Q (.ref (s.heap.objs.size+1)) { heap:=sortedAll s.heap vs a,gens:=s.gens,drawn:=s.drawn,toks:=s.toks,os:=s.os }):av (az prog w) A (call (.builtin "sorted") [.ref l]) Q E s:=by
 have j:vs.length<=Kw:=aH i 'u';refine g8 mX mw mx (my _) ?_;unfold d0.«sorted»;refine aa (m:=checkCount "sorted" 1 1 _) (ah ?_);refine aa (collect_list u (aa (gO ?_ j)) j);have k:∀b o,s.heap.get? b=Xy o->(((s.heap.push (seqObj "list" #[] 0)).update s.heap.objs.size (bF λx=>x++vs.toArray)).push (seqObj "list" vs.toArray 0)).get? b=Xy o:=λb o e=>by
  have z:s.heap.objs.size≠b:=λq=>absurd (aN e) (by rw[<- q];exact bZ _);exact af _ ((cC _ _ z).trans (af _ e))
 have n:(((s.heap.push (seqObj "list" #[] 0)).update s.heap.objs.size (bF λx=>x++vs.toArray)).push (seqObj "list" vs.toArray 0)).get? ((s.heap.push (seqObj "list" #[] 0)).update s.heap.objs.size (bF λx=>x++vs.toArray)).objs.size=Xy (seqObj "list" vs.toArray 0):=aI _ rfl;have B:((s.heap.push (seqObj "list" #[] 0)).update s.heap.objs.size (bF λx=>x++vs.toArray)).objs.size=s.heap.objs.size+1:=by rw[Heap.size_update,cz]
 refine aa (bH (cf lz ⟨_,n,rfl⟩ kK (z6G n (λv d=>by
  obtain⟨c,f,p⟩:=g v d;exact⟨c,(f.mono k).1,p⟩) i λa r C=>⟨_,rfl,?_⟩) (lA _)))
 refine ah ⟨_,rfl,?_⟩;have t:∀v∈a.toList,keyT (((s.heap.push (seqObj "list" #[] 0)).update s.heap.objs.size (bF λx=>x++vs.toArray)).push (seqObj "list" vs.toArray 0)) v=keyT s.heap v:=λv d=>by
  obtain⟨c,f,p⟩:=g v (r.mem_iff.mp d);exact(f.mono k).2
 have D:a.toList.Pairwise (λx y=>¬ keyT s.heap y<keyT s.heap x):=by
  refine List.Pairwise.imp_of_mem ?_ C;intro x y F G H;rw[<- t x F,<- t y G];exact H
 have:=h a r D;unfold sortedAll at this;rw[<- B] at this;exact this
end TS
namespace DL
open PySem
def zio(t:kr)(b:Array (Int×ab))(h:Int)(x:ab):(layNew t b h x).2.1.led=t.led:=by
 unfold layNew;split
 ·rename_i a c _;show((t.put a).1.orStandIn _).led=_;unfold SetTable.orStandIn;split<;>rfl
 ·rfl
def zcT(t:kr)(a:Array (Int×ab))(n:Nat):(relayAll t a n).2.1.led=t.led/\(t.plain=Y1->(relayAll t a n).2.1.plain=Y1):=by
 unfold relayAll;cases h:t.relaid (a.map (·.1)) n with
 |none=>exact⟨rfl,λ_=>rfl⟩
 | some p=>
  obtain⟨c,b⟩:=p;have d:c.led=t.led/\c.plain=t.plain:=by
   unfold SetTable.relaid SetTable.laid at h;cases f:SetTable.layClean (SetTable.sizeAbove n-1) (a.map (·.1)) with
   |none=>rw[f] at h;cases h
   |some ow=>rw[f] at h;cases h;exact⟨rfl,rfl⟩
  dsimp only;split
  ·exact⟨d.1,λe=>d.2.trans e⟩
  ·exact⟨rfl,λ_=>rfl⟩
def yo(w:aZ):Bool:=w.params.followText "set-order"
def ur(e:Int×ab):aB:=match e.2 with
 |.str x _=>x
 |_=>⟨#[]⟩
def oU(P:aP)(w:aZ)(a:ae)(ks:List aB)(h:a7):Prop:=
 ∃o es ep t,h.get? a=Xy o/\o.ExactSet/\o.data=.set es ep t/\jr (strKind P w) es.toList/\(es.toList.map ur).Perm ks/\ks.Nodup/\es.size<scanBound/\t.fits es.size=YP/\(yo w=Y1->t.led=YP)/\(es.size≠0->t.plain=Y1)
section
variable{P:aP}{w:aZ}{A:bb}{E:ab->ag->Prop}{s:ag}{a:ae}{ks:List aB}
def oU.keep(k:∀o,h.get? a=Xy o->h'.get? a=Xy o):oU P w a ks h->oU P w a ks h':=λ⟨o,b,c,t,d,r⟩=>⟨o,b,c,t,k o d,r⟩
def oU.size(x:oU P w a ks h):∃o b c t,h.get? a=Xy o/\o.data=.set b c t/\b.size=ks.length:=by obtain⟨o,b,c,t,d,g,e,i,f,_⟩:=x;exact⟨o,b,c,t,d,e,by rw[<- f.length_eq];simp⟩
def MG(h:jr (strKind P w) l)(b:e∈l):∃t,e.2=.str (ur e) t:=by obtain⟨⟨k,c,_⟩,_⟩:=h e b;obtain⟨t,d⟩:=ji c;exact⟨t,by unfold ur;rw[d]⟩
def RD(h:e.2=.str (ur e) t)(x:aB):(strKind P w).is x e.2=YP↔ur e=x:=by
 rw[h];constructor
 ·intro q;obtain⟨c,b⟩:=ji (v:=.str (ur e) t) q;injection b
 ·intro q;rw[q];show fF x (.str x t)=YP;simp[fF]
def xy(ks:List aB)(x:aB):List aB:=if ks.contains x=YP then ks else ks++[x]
def RH{h:a7}{o:Obj}{f b:Array (Int×ab)}{c:Nat}{t t':kr}{d:List aB}(i:h.get? a=Xy o)(j:o.ExactSet)(e:o.data=.set f c t)(k:jr (strKind P w) b.toList)(l:(b.toList.map ur).Perm d)(m:d.Nodup)
  (n:b.size<scanBound) (p:t'.fits b.size=YP) (q:yo w=Y1->t'.led=YP) (r:b.size≠0->t'.plain=Y1):oU P w a d (h.update a (lL b t'))/\(h.update a (lL b t')).get? a=Xy { o with data:=.set b (c+1) t' }:=by have g:=cm (lL b t') i (by rw[putSet_of b t' e];rfl);rw[putSet_of b t' e] at g;exact⟨⟨_,b,c+1,t',g,j,rfl,k,l,m,n,p,q,r⟩,g⟩
def XF{x:aB}{tk:Tok}{Q:Bool->ag->Prop}(hS:oU P w a ks s.heap)(zx:ks.length+1<scanBound)
  (h:∀b h',dg a s.heap h'->oU P w a (xy ks x) h'->Q b { s with heap:=h' }):
  av (az P w) A (setAddHashed a (.str x tk) ((strKind P w).hash x)) Q E s:=by
 obtain⟨o,g,ep,t,l,y,m,i,k,O,S,B,C,r_⟩:=hS;have T:(strKind P w).is x (.str x tk)=YP:=by show fF x (.str x tk)=YP;simp[fF]
 refine bH (aa (fN l m B ?_));dsimp only;rw[byScan_of rfl S i,Kk rfl];refine aa (aa (dN (aa (wpAny_setScan_of T l m B i ?_))));cases U:List.findIdx? (λe=>(strKind P w).is x e.2) g.toList with
 | some j=>
  obtain⟨V,D,_⟩:=List.findIdx?_eq_some_iff_getElem.mp U;have sh:x∈ks:=by
   obtain⟨t',F⟩:=MG i (bD V);have:=(RD F x).mp D;exact k.mem_iff.mp (ay.mpr ⟨_,bD V,this⟩)
  refine ah (ah ?_);have:=h Y1 s.heap (Heap.SameBut.refl a s.heap) (by
   unfold xy;rw[Kk (bo.mpr sh)];exact⟨o,g,ep,t,l,y,m,i,k,O,S,B,C,r_⟩)
  cases s;exact this
 | none=>
  have W:x∉ks:=λhm=>by
   obtain⟨e,X,ek⟩:=ay.mp (k.mem_iff.mpr hm);obtain⟨t',F⟩:=MG i X;have:=List.findIdx?_eq_none_iff.mp U e X;rw[(RD F x).mpr ek] at this;cases this
  have Y:xy ks x=ks++[x]:=by unfold xy;rw[Ko (λz=>W (bo.mp z))]
  have n:=layNew_perm t g ((strKind P w).hash x) (.str x tk);have G:=layNew_fits t g ((strKind P w).hash x) (.str x tk);have H:=zio t g ((strKind P w).hash x) (.str x tk);generalize layNew t g ((strKind P w).hash x) (.str x tk)=L at n G H ⊢;obtain⟨c,Z,wd,gv⟩:=L;rw[eQ] at n;have Hs:=(i.push T rfl).perm n;have I:(c.toList.map ur).Perm (ks++[x]):=by
   refine(n.map ur).trans ?_;rw[br];exact k.append_right _
  have Hc:(ks++[x]).Nodup:=by
   rw[dS];exact⟨O,by simp,λp k q u=>by
    have:q=x:=⇑u
    subst this;rintro rfl;exact W k⟩
  have De:c.size=ks.length+1:=by rw[<- aG,<- aq,I.length_eq];simp
  have J:c.size<scanBound:=by rw[De];exact zx
  have gw:∀(b:Bool){K:ag}{M:Unit->ag->Prop},M () K->av (az P w) A (match b with|true=>rule "set.scan.the-table-gave-way"|false=>pure ()) M E K:=λb K M u=>by
   cases b
   ·exact ah u
   ·exact dN u
  refine aa (gw _ ?_);have f:∀d:kr,d.led=t.led->d.plain=Y1->d.fits c.size=YP->av (az P w) A (do
    storeSet a c d
    if (!wd&&d.tooFull)=YP then do
      (match (relayAll d c (fU c.size)).2.2 with|true=>rule "set.scan.the-table-gave-way"|false=>pure ())
      storeSet a (relayAll d c (fU c.size)).1 (relayAll d c (fU c.size)).2.1
      pure (Xy YP)
     else pure (Xy YP)) (λr s'=>av (az P w) A (match r with|some added=>(pure added:Sem Bool)|none=>setAddHashedIn a (.str x tk) ((strKind P w).hash x) 99999) Q E s') E s:=by
   intro d h1 h2 h3;obtain⟨S1,g1⟩:=RH l y m Hs I Hc J h3 (λe=>h1.trans (C e)) (λ_=>h2);have sb:=dW s.heap a (lL c d);refine aa (wpAny_storeSet_of l m ?_ (jY J));split
   ·have v:=relayAll_perm d c (fU c.size);have rf:=relayAll_fits d c (fU c.size);have N:=zcT d c (fU c.size);generalize relayAll d c (fU c.size)=R at v rf N ⊢;obtain⟨Xm,t3,gv2⟩:=R;have s2:Xm.size=c.size:=by rw[<- aG,v.length_eq,aG]
    have b2:Xm.size<scanBound:=by rw[s2];exact J
    refine aa (gw _ (aa (wpAny_storeSet_of g1 rfl ?_ (jY b2))));obtain⟨S2,_⟩:=RH g1 y rfl (Hs.perm v) ((v.map ur).trans I) Hc b2 rf (λe=>N.1.trans (h1.trans (C e))) (λ_=>N.2 h2);exact ah (ah (h YP _ (sb.trans (dW _ a _)) (by rw[Y];exact S2)))
   ·exact ah (ah (h YP _ sb (by rw[Y];exact S1)))
  split
  ·rename_i BW;refine aa ?_;exact ah (f { Z with plain:=Y1 } H rfl (SetTable.fits_plain_off G))
  ·rename_i BW;refine aa (ah ?_);exact f Z H ⇑BW G
end
def vJ(l:List aB):List aB:=l.foldl xy []
def zfw(l:List aB)(x:aB):vJ (l++[x])=xy (vJ l) x:=by unfold vJ;rw[jZ];rfl
def zeR(a:List aB)(x:aB):(xy a x).length<=a.length+1:=by unfold xy;split<;>simp
def Sf:∀(l:List aB),(vJ l).length<=l.length:=λl=>by
 have:∀(l a:List aB),(l.foldl xy a).length<=a.length+l.length:=by
  intro l
  induction l with
  |nil=>intro a;exact aE _
  |cons x l ih=>intro a;refine aH (ih (xy a x)) ?_;have:=zeR a x;rw[aW];lia
 have h:=this l [];simpa [vJ] using h
def zeY:y∈xy ks x↔y∈ks\/y=x:=by
 unfold xy;split
 ·rename_i h;exact⟨.inl,λq=>q.elim id λe=>by rw[e];exact bo.mp h⟩
 ·rw[aM,dH]
def Su:∀(l:List aB),y∈vJ l↔y∈l:=λl=>by
 have:∀(l a:List aB),y∈l.foldl xy a↔y∈a\/y∈l:=by
  intro l
  induction l with
  |nil=>intro a;simp
  |cons x l ih=>intro a;rw[fC,ih,zeY,aw];exact⟨λh=>by rcases h with(h|h)|h<;>simp[h],λh=>by rcases h with h|h|h<;>simp[h]⟩
 rw[vJ,this];simp
section
variable{P:aP}{w:aZ}{A:bb}{s:ag}{R:Result->ag->Prop}
variable{I:ae}{fp wr:List ae}{n:Nat}{Pv:Nat->ab->Prop}{St:Nat->a7->Prop}
def X1(W:Walks P w A.in1 I fp wr n Pv St)(S:ae)(m:S∉fp)(a:List aB)(y:a.length=n)(B:∀i v,Pv i v->i<n->∃t,v=.str (a.getD i ⟨#[]⟩) t)(c:n+1<scanBound):
  ∀(k i:Nat)(s:ag),n-i=k->i<=n->St i s.heap->oU P w S (vJ (a.take i)) s.heap->
   (∀h' tk,(∀b o,b∉S::wr->s.heap.get? b=Xy o->h'.get? b=Xy o)->oU P w S (vJ a) h'->R (.ok (.ret .none)) { s with heap:=h',toks:=tk })->
   codeAny (az P w) A (.builtin "set.update.loop" ⟨[.ref S,.ref I],[]⟩) R s:=by
 have p:S∉wr:=λh=>m (W.sub _ h);intro k
 induction k with
 | zero=>
  intro i s C D g f j;have e:i=n:=by lia
  subst e;refine eD ik ?_;rw[je fx _];show av _ A.in1 (pyNext (.ref I) >>= _) _ _ s;refine aa (W.done s _ _ g λh' tk d=>?_);refine ah (j h' tk (λb o c z=>d b o (λq=>c (ak _ q)) z) ?_);rw[<- y,cF] at f;exact f.keep λo z=>d S o p z
 | succ k ih=>
  intro i s C D g f j;have l:i<n:=by lia
  refine eD ik ?_;rw[je fx _];show av _ A.in1 (pyNext (.ref I) >>= _) _ _ s;refine aa (W.item i s _ _ l g λv r E F G d=>?_);obtain⟨t,rfl⟩:=B i v F l;have H:oU P w S (vJ (a.take i)) r:=f.keep λo z=>d S o p z;show av _ A.in1 (holding [_] (setAdd S _) >>= _) _ _ _;unfold setAdd;refine aa (bH (bH (aa ((strKind P w).pyHash (k:=a.getD i ⟨#[]⟩) (by show fF _ (.str _ t)=YP;simp[fF]) ?_))));refine XF (s:={ s with heap:=r,toks:=E+1 }) H (by have:=Sf (a.take i);rw[bU] at this;lia) λb M u x=>?_;have J:xy (vJ (a.take i)) (a.getD i ⟨#[]⟩)=vJ (a.take (i+1)):=by
   rw[<- zfw,eJ,aD,am 'd'];rfl
  rw[J] at x;refine ah ⟨fJ fx _,ih (i+1) _ 'd' l (W.frame _ _ _ G λb c o z=>?_) x λh' tk K L=>?_⟩
  ·rw[u.2 b (λq:b=S=>m (by rw[<- q];exact c))];exact z
  ·refine j h' tk (λb o c z=>K b o c ?_) L;rw[u.2 b (λq:b=S=>c (by rw[q];exact ar))];exact d b o (λq=>c (ak _ q)) z
end
section
variable{P:aP}{w:aZ}{A:bb}{E:ab->ag->Prop}{s:ag}
abbrev xn(w:aZ):Obj:={ cls:=.type "set",dict:=XV,data:=.set #[] 0 (.fresh 0 0 (!yo w)) }
def XH(w:aZ)(h:a7):oU P w h.objs.size [] (h.push (xn w)):=
 ⟨_,#[],0,_,aI _ rfl,⟨rfl,rfl,rfl⟩,rfl,λe a=>by simp at a,by simp,by simp,by decide,by rfl,λe=>by show(!yo w)=YP;rw[e];rfl,λe=>absurd rfl e⟩
def zeu(v:ab)(h:Q1 (.ref s.heap.objs.size) { s with heap:=s.heap.push (xn w) }):
  codeAny (az P w) A (.call (.builtin "set.__new__") ⟨[.type "set",v],[]⟩) (wants Q1 E) s:=by
 refine i7 ?_;show av _ A.in1 (do checkBuiltinCall "set.__new__" ⟨[.type "set",v],[]⟩;again (.builtin "set.__new__" ⟨[.type "set",v],[]⟩)) _ _ s;refine aa (jw (F.newCall_set_1 v) (ah ⟨fJ F.plain_set_new _,eD F.entry_set_new ?_⟩));rw[je F.plain_set_new _];unfold d0.«set.__new__» og;have a:=sub_set_self;obtain⟨b,g,d,c,e⟩:=s;dsimp only
 wp_walk
 refine fg (ah ?_);dsimp only;simp only[newObj];exact aa (wpAny_alloc (ah (ah h)))
def ZK.ty:ZK->String
 |.tup _ _ => "tuple"
 |.str _ _ => "str"
 |.lst _ _ => "list"
def ZT:isSubtype (.type "tuple") (.type "set")=pure Y1:=by rw[js];kernel_rfl
def ZV:isSubtype (.type "tuple") (.type "frozenset")=pure Y1:=by rw[js];kernel_rfl
def ZK.typ(q:ZK)(h:q.pre s.heap)(d:∀x t,q ≠ .str x t):∃b a,q.val=.ref a/\s.heap.get? a=Xy b/\b.cls=.type q.ty:=by
 cases q with
 |tup t items=>obtain⟨o,e,c,_⟩:=h;exact⟨o,t,rfl,e,c⟩
 |str x t=>exact absurd rfl (d x t)
 |lst l items=>obtain⟨o,e,c,_⟩:=h;exact⟨o,l,rfl,e,c⟩
def ZK.vals:ZK->Array ab
 |.tup _ d_=>d_
 |.str _ _=>#[]
 |.lst _ d_=>d_
def ZK.walks(q:ZK)(a:A.handled=XV)(j:∀x t,q ≠ .str x t)(I:ae)(b:q.pre h)(c:h.get? I=Xy q.obj)(d:q.val ≠ .ref I):
  ∃f g,q.val=.ref f/\Walks P w A I [I,f] [I] q.vals.size (λi v=>q.vals[i]?=Xy v) g/\g 0 h:=by
 cases q with
 |tup t items=>exact⟨t,_,rfl,Walks.tuple a I t (λe=>d (by rw[e];rfl)) items,⟨_,c,rfl,rfl⟩,b⟩
 |str x t=>exact absurd rfl (j x t)
 |lst l items=>exact⟨l,_,rfl,j6 a I l (λe=>d (by rw[e];rfl)) items,⟨_,c,rfl,rfl⟩,b⟩
set_option maxHeartbeats 4000000 in
def zdI(q:ZK)(V:A.handled=XV)(I:q.pre s.heap)(f:∀x t,q ≠ .str x t)(a:List aB)(J:a.length=q.vals.size)(X:∀i(v:ab),q.vals[i]?=Xy v->∃t:Tok,v=kF (a.getD i ⟨#[]⟩) t)(g:a.length+1<scanBound)
  (h:∀h' tk,oU P w s.heap.objs.size (vJ a) h'->(∀b o,b<s.heap.objs.size->s.heap.get? b=Xy o->h'.get? b=Xy o)->Q (.ref s.heap.objs.size) { s with heap:=h',toks:=tk }):
  av (az P w) A (call (.type "set") [q.val]) Q E s:=by
 obtain⟨c,tl,K⟩:=f6.mro;have WS:=f6.made;have C9:=f6.sub;obtain⟨Y,l,j,L,m⟩:=q.typ I f;rw[j];refine j3 (i7 ?_);show av _ _ (callAny (.type "set") _) _ _ _;refine ah ⟨Code.quiet_builtin _ 'c',eD F.entry_type_call ?_⟩;rw[Around.under_plain (weight_type_call_type "set" [.ref l] []) rfl];have h1:=f6.notType;have h2:=f6.canCreate;have Z:=F.typeCall_set_1 (.ref l)
 repeat (any_goals (first|assumption|wp_step))
 refine ft (zeu (.ref l) (E:=E) (Q1:=λd M=>d=.ref s.heap.objs.size/\M={ s with heap:=s.heap.push (xn w) }) ⟨rfl,rfl⟩) λr M n=>?_;cases r with
 |error e=>exact n
 | ok fl=>
  cases fl with
  | ret d=>
   obtain⟨rfl,rfl⟩:=n;have hS:(s.heap.push (xn w)).get? s.heap.objs.size=Xy (xn w):=aI _ rfl;have hT:oh { s with heap:=s.heap.push (xn w) } (.ref s.heap.objs.size) "set":=⟨_,hS,rfl⟩;have hli:=f6.init.lookup;have hbi:=f6.init.bind (.ref s.heap.objs.size)
   repeat (any_goals (first|assumption|wp_step))
   refine ft (lH (R:=wants (λr N=>r=.none/\∃h' tk,N={ s with heap:=h',toks:=tk }/\oU P w s.heap.objs.size (vJ a) h'/\(∀b o,b<s.heap.objs.size->s.heap.get? b=Xy o->h'.get? b=Xy o)) E) f6.init.plain F.entry_set_init (check_set_init_1 hT ?_)) λr2 N p=>?_
   ·obtain⟨NT,GA,GB,CW⟩:=Y;have m:NT=.type q.ty:=m;subst m;have O:(s.heap.push (xn w)).get? l=Xy { cls:=.type q.ty,dict:=GA,data:=GB,slots:=CW }:=af _ L;have S:q.pre (s.heap.push (xn w)):=q.keep (λb o e=>af _ e) I;have T:l<s.heap.objs.size:=aN L;have i1:∀{B:bb}{U:ab->ag->Prop}{u:ab->ag->Prop}{tk:Nat},u (.ref (s.heap.push (xn w)).objs.size) { s with heap:=(s.heap.push (xn w)).push q.obj,toks:=tk }->av (az P w) B (pyIter (.ref l)) u U { s with heap:=s.heap.push (xn w),toks:=tk }:=λ{B U u tk}hq=>by
     rw[<- j];exact q.iter (s:={ s with heap:=s.heap.push (xn w),toks:=tk }) S hq
    have De:isSubtype (.type q.ty) (.type "set")=pure Y1:=by
     cases q with
     |tup _ _=>exact ZT
     |str x t=>exact absurd rfl (f x t)
     |lst _ _=>exact F.sub_list_set
    have xh:isSubtype (.type q.ty) (.type "frozenset")=pure Y1:=by
     cases q with
     |tup _ _=>exact ZV
     |str x t=>exact absurd rfl (f x t)
     |lst _ _=>exact F.sub_list_frozenset
    have hnd:(eG q.ty==eG "dict")=Y1:=by cases q<;>rfl
    unfold d0.«set.__init__» noKeywords nY;generalize y:pyIter=PI
    wp_walk
    subst y;refine i1 ?_;refine aa (wpAny_runValue ?_);have z:A.in1.in1.in1.handled=XV:=by simp[V]
    have C:(s.heap.push (xn w)).objs.size=s.heap.objs.size+1:=cz ..;have fo:q.obj.isFreed=Y1:=by cases q<;>rfl
    obtain⟨ax,St,k,W,rW⟩:=q.walks (P:=P) (w:=w) (A:=A.in1.in1.in1) z f (s.heap.push (xn w)).objs.size (h:=(s.heap.push (xn w)).push q.obj) (q.keep (λb o e=>af _ e) S) (aI _ fo) (by rw[j,C];intro e;injection e with e;exact absurd T (by rw[e];exact nF.mpr (dR _)));have D:ax=l:=by rw[j] at k;injection k with k;exact k.symm
    subst D;refine X1 W s.heap.objs.size (by
      rw[C];simp only[aw,cg,or_false,not_or];exact⟨bq (cU _),eF T⟩) a J (λi v e _=>X i v e) (by rw[<- J];exact g) (q.vals.size-0) 0 _ 'd' (bI _) rW ?_ λh' tk G H=>?_
    ·exact(XH (P:=P) w s.heap).keep λo e=>af _ e
    ·refine ah (ah ⟨rfl,h',tk,rfl,H,λb o g e=>G b o ?_ (af _ (af _ e))⟩);rw[C];simp only[aw,cg,or_false,not_or];exact⟨bq g,bq (dr g)⟩
   ·cases r2 with
    |error e=>exact p
    | ok Pk=>
     cases Pk with
     | ret r=>
      obtain⟨rfl,h',tk,rfl,H,G⟩:=p
      repeat (any_goals (first|assumption|wp_step))
      exact h _ _ H G
     |_=>exact p.elim
  |_=>exact n.elim
end
def Rc:Manifest.owners.lookup (String.ofList ['r','o','t','a','r','e','t','i','_','t','e','s'].reverse)=Xy Manifest.sig_set_iterator:=by kernel_rfl
def pd:Slot "set_iterator" "__next__" "set_iterator.__next__":=Slot.of (owner := "set_iterator") (n := "__next__") (by rw[typeLookup_type,lB];kernel_rfl) 'c' 'c' 'c' (by first|exact .inl 'c'|exact .inr 'c') (by rw[js];kernel_rfl)
def R7:Slot "set_iterator" "__iter__" "set_iterator.__iter__":=Slot.of (owner := "set_iterator") (n := "__iter__") (by rw[typeLookup_type,lB];kernel_rfl) 'c' 'c' 'c' (by first|exact .inl 'c'|exact .inr 'c') (by rw[js];kernel_rfl)
def zeL:entryFor table "set_iterator.__next__" = Xy d0.«set_iterator.__next__»:=entryFor_of_tree 'b'
def zjh(a:ab):argsOk "set_iterator.__next__" ⟨[a],[]⟩:=by unfold argsOk;rw[signature?_of (id := "set_iterator.__next__") (n:=['_','_','t','x','e','n','_','_']) (o:=['r','o','t','a','r','e','t','i','_','t','e','s']) 'b' Rc];kernel_rfl
def zjS(a:ab):argsOk "set_iterator.__iter__" ⟨[a],[]⟩:=by unfold argsOk;rw[signature?_of (id := "set_iterator.__iter__") (n:=['_','_','r','e','t','i','_','_']) (o:=['r','o','t','a','r','e','t','i','_','t','e','s']) 'b' Rc];kernel_rfl
def zge:entryFor table "set.__iter__" = Xy d0.«frozenset.__iter__»:=entryFor_alias (id' := "frozenset.__iter__") 'b' rfl 'c' 'b'
def zeP:entryFor table "set_iterator.__iter__" = Xy d0.«dict_keyiterator.__iter__»:=entryFor_alias (id' := "dict_keyiterator.__iter__") 'b' rfl 'c' 'b'
def Gg{α:Type}{l:List α}{i:Nat}{x:α}(h:l[i]?=Xy x):(x::l.eraseIdx i).Perm l:=by
 obtain⟨a,e⟩:=ao.mp h;have q:l.take i++x::l.drop (i+1)=l:=by rw[<- e,List.getElem_cons_drop a,cn]
 rw[List.eraseIdx_eq_take_drop_succ];exact List.perm_middle.symm.trans (by rw[q])
theorem UQ{α:Type}(next:Nat->Nat):∀(fuel k:Nat)(left:List α)(a:Array α),left.length=fuel->(mz next fuel k left a).toList.Perm (a.toList++left)
 | 0,k,left,a,h=>by
  have:left=[]:=cJ.mp h;subst this;unfold mz;simp
 | fuel+1,k,left,a,h=>by
  unfold mz;have b:next k%left.length<left.length:=Nat.mod_lt _ 'd'
  rw[am b];dsimp only;have e:=gP b;refine(UQ next fuel (k+1) _ _ (by rw[e];lia)).trans ?_;rw[eQ,aX];exact fB _ (Gg (am b))
def Kd{α:Type}(next:Nat->Nat)(xs:Array α):(pickOrder next xs).toList.Perm xs.toList:=by
 unfold pickOrder;have:=UQ next xs.size 0 xs.toList #[] 'k'
 simpa using this
section
variable{P:aP}{w:aZ}{A:bb}{E:ab->ag->Prop}{s:ag}{a:ae}
def ziM{src:Source}{n:Nat}{Q:Nat->ag->Prop}(b:n≠0)(h:∀i d,i<n->Q i { s with drawn:=d }):av (az P w) A (choose src n) Q E s:=
 λc p _=>⟨b,h _ _ (Nat.mod_lt _ (Nat.pos_of_ne_zero b))⟩
theorem QX{α:Type}:∀(n:Nat)(xs:List α)(s:ag)(Q:List α->ag->Prop),xs.length=n->(∀b d,b.Perm xs->Q b { s with drawn:=d })->av (az P w) A (drawOrder n xs) Q E s
 | 0,xs,s,Q,h,hq=>by
  have:xs=[]:=cJ.mp h;subst this;unfold drawOrder;exact ah (by have:=hq [] s.drawn (d9 _);cases s;exact this)
 |n+1,[],s,Q,h,hq=>by simp at h
 | n+1,x::xs,s,Q,h,hq=>by
  unfold drawOrder;refine aa (ziM 'k' λi d c=>?_);rw[am c];refine aa (QX n _ _ _ (by rw[gP c];simpa using h) λb e f=>ah ?_);exact hq _ e ((List.Perm.cons _ f).trans (Gg (am c)))
abbrev yh(first:ab)(i:Nat)(a:ae)(n ep:Nat):Obj:={ cls:=.type "set_iterator",data:=.fields #[first,b9 i,.ref a,b9 n,b9 ep] }
def Qy(g:s.TypeIs (.ref I) "set_iterator")(h:av (az P w) A.in1 (d0.«set_iterator.__next__» ⟨[.ref I],[]⟩) (λf c=>∃v,f=.done (.ret v)/\Q (Xy v) c) (λe c=>∃o,e=.ref o/\(∃d,c.heap.get? o=Xy d/\d.cls=.type "StopIteration")/\Q XV c) s):
  av (az P w) A (pyNext (.ref I)) Q E s:=by
 unfold pyNext;refine aa (fG (cI (name := "__next__") g pd (cf pd g zeL ?_ (zjh _))));refine cB h (λf c i=>?_) λe c j=>?_
 ·obtain⟨v,rfl,q⟩:=i;exact⟨v,rfl,ah q⟩
 ·obtain⟨o,rfl,⟨d,k,l⟩,q⟩:=j;exact aa (iV (T := "StopIteration") (b:=YP) ⟨d,k,l⟩ ll (ah q))
end
section
variable{P:aP}{w:aZ}{A:bb}{E:ab->ag->Prop}{s:ag}{a:ae}{o:Obj}{es:Array (Int×ab)}{ep:Nat}{t:kr}
def Vj{α:Type}{Q:α->ag->Prop}(c:A.handled=XV)(h:∀h' e,(∀b o,s.heap.get? b=Xy o->h'.get? b=Xy o)->(∃o,h'.get? e=Xy o/\o.cls=.type "StopIteration")->E (.ref e) { s with heap:=h' }):
  av (az P w) A (newExc (.type "StopIteration") [] >>= λe=>(raiseNew e:Sem α)) Q E s:=by refine aa ?_;refine aa (cM (?_) (by size_fits));refine aa (jw (by first|rfl|(simp;rfl)) (cM ?_ (by size_fits)));refine aa (wpAny_handled ?_);rw[c];refine aa (ah (wpAny_throw (h _ _ (λb o e=>af _ (af _ e)) ⟨_,aI _ rfl,rfl⟩)))
def Rb(b:s.heap.get? a=Xy o)(c:o.data=.set es ep t)(d:t.fits es.size=YP)(g:yo w=YP)(h:Q (((pickOrder (w.params.setOrder a ep) es)[i]?).map λe=>(e.2,sl)) s):
  av (az P w) A (setNext a sl i ep) Q E s:=by have f:(az P w).w.params.followText "set-order" = YP:=g;refine aa (fN b c d ?_);refine aa (aa (fg (ah ?_)));rw[f,Kk rfl,Ko 'k'];refine aa ?_;refine aa (fN b c d ?_);refine aa (aa (fg (ah ?_)));rw[f,Kk rfl];exact aa (fg (ah (ah h)))
def Sm(b:s.heap.get? a=Xy o)(c:o.data=.set es ep t)(d:t.fits es.size=YP)(e:yo w=Y1)(l:es.size<=1)(f:t.led=YP)
  (h:Q (match es[fi t.place sl]?,t.place[fi t.place sl]? with|some (_,x),Xy j=>Xy (x,j+1)|_,_=>XV) s):
  av (az P w) A (setNext a sl i ep) Q E s:=by
 have g:(az P w).w.params.followText "set-order" = Y1:=e;refine aa (fN b c d ?_);refine aa (aa (fg (ah ?_)));rw[g,Ko 'k'];show av _ _ (if (!t.plain&&decide (es.size>1))=YP then _ else _) _ _ _;have k:(!t.plain&&decide (es.size>1))=Y1:=by
  rw[decide_eq_false 'd'];simp
 rw[k,Ko 'k'];refine aa ?_;show av _ _ (if (!t.led && !es.isEmpty)=YP then _ else _) _ _ _;rw[f,Ko 'k'];exact ah (ah h)
def ze9(b:s.heap.get? a=Xy o)(c:o.data=.set es ep t)(d:t.fits es.size=YP)(e:es[pl]?=Xy x)(h:Q x.2 s):
  av (az P w) A (setNextDrawn a pl ep) Q E s:=by refine aa (fN b c d ?_);dsimp only;rw[Ko 'k',e];exact ah h
def zjn(b:s.heap.get? a=Xy o)(c:o.data=.set es ep t)(d:t.fits es.size=YP)(f:es.size≠0->t.plain=Y1)(h:Q (!yo w&&decide (es.size>1)) s):av (az P w) A (setDrawn a) Q E s:=by
 refine aa (fN b c d ?_);refine aa (aa (fg (ah (ah ?_))));have e:(!t.plain&&decide (es.size>1))=decide (es.size>1):=by
  by_cases q:es.size>1
  ·rw[f 'd',decide_eq_true q];rfl
  ·rw[decide_eq_false q];simp
 show Q (!yo w&&(!t.plain&&decide (es.size>1))) s;rw[e];exact h
def II{I:ae}{f i:Nat}{R:Option (ab×Nat)}{Q:Option ab->ag->Prop}(l:s.heap.get? a=Xy o)(m:o.data=.set es ep t)(n:t.fits es.size=YP)(c:s.heap.get? I=Xy (yh (b9 f) i a es.size ep))(K:a≠I)(q:A.handled=XV)
  (r:∀(B:bb)(Q':Option (ab×Nat)->ag->Prop)(E':ab->ag->Prop),Q' R s->av (az P w) B (setNext a f i ep) Q' E' s)
  (u:∀v j,R=Xy (v,j)->∀h',dg I s.heap h'->h'.get? I=Xy (yh (b9 j) (i+1) a es.size ep)->Q (Xy v) { s with heap:=h' })
  (x:R=XV->∀h',jx I s.heap h'->Q XV { s with heap:=h' }):av (az P w) A (pyNext (.ref I)) Q E s:=by
 refine Qy ⟨_,c,rfl⟩ ?_;unfold d0.«set_iterator.__next__» slotArgs;dsimp only;refine aa (ah (aa (wpAny_fieldsOf c rfl ?_)));refine aa (jk l m n ?_);rw[Ko 'k'];refine aa (r _ _ _ ?_);cases g:R with
 | some p=>
  obtain⟨v,j⟩:=p;refine aa (bK c 'k' λy h d=>(aa (bK h 'k' λC D F=>?_)));exact ah ⟨v,rfl,u v j g C (d.trans F) D⟩
 | none=>
  refine aa (bK c 'k' λy h d=>(Vj ⇑q λh' e G H=>⟨e,rfl,H,x g h' λb k J z=>G b k (d.extBut b k J z)⟩))
def QF{I f:ae}{i:Nat}{first:ab}{c:n_}{Q:Option ab->ag->Prop}(m:s.heap.get? a=Xy o)(n:o.data=.set es ep t)(p:t.fits es.size=YP)(d:s.heap.get? I=Xy (yh (.ref f) i a es.size ep))(v:s.heap.get? f=Xy { cls:=.type "tuple",data:=.seq (c.map λ(j:Nat)=>b9 (j:Int)).toArray })(y:A.handled=XV)
  (B:∀j x,c[i]?=Xy j->es[j]?=Xy x->∀h',dg I s.heap h'->h'.get? I=Xy (yh (.ref f) (i+1) a es.size ep)->Q (Xy x.2) { s with heap:=h' }) (C:∀j,c[i]?=Xy j->j<es.size)
  (D:c[i]?=XV->∀h',jx I s.heap h'->Q XV { s with heap:=h' }):av (az P w) A (pyNext (.ref I)) Q E s:=by
 refine Qy ⟨_,d,rfl⟩ ?_;unfold d0.«set_iterator.__next__» slotArgs;dsimp only;refine aa (ah (aa (wpAny_fieldsOf d rfl ?_)));refine aa (jk m n p ?_);rw[Ko 'k'];refine aa (dF v rfl ?_);have F:((c.map λ(j:Nat)=>b9 (j:Int)).toArray)[((i:Int)).toNat]?=(c[i]?).map λ(j:Nat)=>b9 (j:Int):=by
  rw[iA,li,bd]
 dsimp only;rw[F];cases g:c[i]? with
 | some j=>
  have q:=C j g;refine aa (ze9 m n p (ba q) ?_);exact aa (bK d 'k' λr h k=>(ah ⟨_,rfl,B j _ g (ba q) r k h⟩))
 | none=>
  refine aa (bK d 'k' λr h k=>(aa (bK h 'k' λK L G=>?_)));refine Vj ⇑y λh' e H J=>⟨e,rfl,J,D g h' λb l u z=>H b l (G.extBut b l u (k.extBut b l u z))⟩
end
section
variable{P:aP}{w:aZ}{A:bb}{E:ab->ag->Prop}{s:ag}{a:ae}{o:Obj}{es:Array (Int×ab)}{ep:Nat}{t:kr}{I tt:ae}
abbrev DG(os:List aB):Nat->ab->Prop:=λi v=>∃tk:Tok,v=.str (os.getD i ⟨#[]⟩) tk
def Lp(h:∃c,s.heap.get? I=Xy c/\c.cls=.type "set_iterator")(q:Q (.ref I) s):av (az P w) A (pyIter (.ref I)) Q E s:=by
 have b:=h;refine jX b R7 (cf R7 b zeP ?_ (zjS _))
 wp_walk
 exact⟨_,rfl, "set_iterator",_,b,pd.lookup,q⟩
def LR(b:jr (strKind P w) l)(h:l[i]?=Xy e):DG (l.map ur) i e.2:=by obtain⟨c,d⟩:=MG b (aF h);refine⟨c,?_⟩;rw[aD,bd,h];exact d
def zhz(l:o.data=.set es ep t)(m:t.fits es.size=YP)(F:jr (strKind P w) es.toList)(c:yo w=YP)(u:A.handled=XV)(q:a≠I):
  Walks P w A I [I,a] [I] es.size (DG ((pickOrder (w.params.setOrder a ep) es).toList.map ur)) (λi h=>(∃f:Nat,h.get? I=Xy (yh (b9 f) i a es.size ep))/\h.get? a=Xy o) where
 sub:=λb c=>by simp at c;simp[c]
 frame:=λi h n d x=>⟨let ⟨f,e⟩:=d.1;⟨f,x I 'k' _ e⟩,x a 'k' _ d.2⟩
 item:=λi s Q E M d k=>by
  obtain⟨⟨f,r⟩,g⟩:=d;have p:=Kd (w.params.setOrder a ep) es;have G:(pickOrder (w.params.setOrder a ep) es).size=es.size:=by rw[<- aG,p.length_eq,aG]
  have y:i<(pickOrder (w.params.setOrder a ep) es).size:=by lia
  refine II g l m r q u (λB H J h=>Rb g l m c (by rw[ba y];exact h)) (λv j e n C K=>?_) λe=>by cases e
  cases e;refine k _ n s.toks (LR (F.perm p) (by rw[cX];exact ba y)) ⟨⟨_,K⟩,?_⟩ λb D c z=>?_
  ·rw[C.2 a q];exact g
  ·rw[C.2 b ⇑c];exact z
 done:=λs Q E d k=>by
  obtain⟨⟨f,r⟩,g⟩:=d;have p:=Kd (w.params.setOrder a ep) es;have G:(pickOrder (w.params.setOrder a ep) es).size=es.size:=by rw[<- aG,p.length_eq,aG]
  refine II g l m r q u (λB H J h=>Rb g l m c (by rw[kU 'd'];exact h)) (λv j e=>by cases e) λ_ n L=>k n s.toks λb D c z=>L b D ⇑c z
 self:=λi s Q E d k=>Lp (let ⟨⟨f,e⟩,_⟩:=d;⟨_,e,rfl⟩) k
def zjK(F:o.data=.set es ep t)(G:t.fits es.size=YP)(N:jr (strKind P w) es.toList)(H:A.handled=XV)(O:a≠I)(R:tt≠I){c:n_}(v:c.Perm (aV es.size)):
  Walks P w A I [I,a,tt] [I] es.size (DG ((c.filterMap λj=>es[j]?).map ur)) (λi h=>h.get? I=Xy (yh (.ref tt) i a es.size ep)/\h.get? a=Xy o/\h.get? tt=Xy { cls:=.type "tuple",data:=.seq (c.map λ(j:Nat)=>b9 (j:Int)).toArray }) where
 sub:=λb g=>by simp at g;simp[g]
 frame:=λi h p d y=>⟨y I 'k' _ d.1,y a 'k' _ d.2.1,y tt 'k' _ d.2.2⟩
 item:=λi s Q E Y d k=>by
  obtain⟨B,r,u⟩:=d;have m:c.length=es.size:=by rw[v.length_eq];simp
  have C:∀j∈c,j<es.size:=λj f=>bg.mp (v.mem_iff.mp f);refine QF (first:=.ref tt) r F G B u H (λj x n J p D S=>?_) (λj e=>C j (aF e)) λe=>absurd (a9.mp e) 'd';have T:∀(l:n_),(∀j∈l,j<es.size)->(l.filterMap λj=>es[j]?)=l.map λj=>es.getD j default:=by
   intro l
   induction l with
   |nil=>intro _;rfl
   | cons q l ih=>
    intro h;have K:=h q ar;rw[eZ,ba K,ih λj f=>h j (ak _ f),bB];simp[Array.getD,K]
  have U:(c.filterMap λj=>es[j]?)[i]?=Xy x:=by
   rw[T c C,bd,n];have f:=C j (aF n);rw[ba f] at J;have:=cu J;simp[Array.getD,f,this]
  have V:jr (strKind P w) (c.filterMap λj=>es[j]?):=λe W=>by
   obtain⟨j,_,f⟩:=hJ.mp W;exact N e (by rw[<- cX] at f;exact aF f)
  refine k _ p s.toks (LR V U) ⟨S,?_,?_⟩ λb L g z=>?_
  ·rw[D.2 a O];exact r
  ·rw[D.2 tt R];exact u
  ·rw[D.2 b ⇑g];exact z
 done:=λs Q E d k=>by
  obtain⟨B,r,u⟩:=d;have m:c.length=es.size:=by rw[v.length_eq];simp
  have M:c[es.size]?=XV:=a9.mpr 'd';exact QF (first:=.ref tt) r F G B u H (λj x n=>by rw[M] at n;cases n) (λj e=>by rw[M] at e;cases e) λ_ p X=>k p s.toks λb L g z=>X b L ⇑g z
 self:=λi s Q E d k=>Lp ⟨_,d.1,rfl⟩ k
def zjk(xs:Array Nat)(h:xs.size<=1):fi xs 0=0:=by
 unfold fi;have:xs.size=0\/xs.size=1:=by lia
 rcases this with e|e
 ·rw[e];rfl
 ·rw[e];unfold mV;rw[Kk 'd'];rfl
def zi2(xs:Array Nat)(p:Nat)(h:xs.size=1)(b:xs[0]?=Xy p):fi xs (p+1)=1:=by
 unfold fi;rw[h];unfold mV;rw[Kk 'd'];dsimp only;have e:xs.getD ((0+1)/2) (p+1)=p:=by
  rw[Array.getD_eq_getD_getElem?,b];rfl
 rw[e,Kk 'd'];rfl
def zgf(m:o.data=.set es ep t)(g:t.fits es.size=YP)(J:jr (strKind P w) es.toList)(c:yo w=Y1)(x:es.size<=1)(y:t.led=YP)(C:A.handled=XV)(p:a≠I):
  Walks P w A I [I,a] [I] es.size (DG (es.toList.map ur)) (λi h=>(∃f:Nat,h.get? I=Xy (yh (b9 f) i a es.size ep)/\fi t.place f=i)/\h.get? a=Xy o) where
 sub:=λb c=>by simp at c;simp[c]
 frame:=λi h n d D=>⟨let ⟨f,e,q⟩:=d.1;⟨f,D I 'k' _ e,q⟩,D a 'k' _ d.2⟩
 item:=λi s Q E F d l=>by
  obtain⟨⟨f,r,u⟩,k⟩:=d;have K:t.place.size=es.size:=by simp only[oi,aY,beq_iff_eq] at g;exact g.1
  have L:i=0:=by lia
  subst L;have M:t.place.size=1:=by lia
  refine II k m g r p C (λB N O h=>Sm k m g c x y (by rw[u,ba F,ba 'd'];exact h)) (λv j e n G R=>?_) λe=>by cases e
  cases e;refine l _ n s.toks (LR J (by rw[cX];exact ba F)) ⟨⟨_,R,zi2 _ _ M (ba _)⟩,?_⟩ λb H c z=>?_
  ·rw[G.2 a p];exact k
  ·rw[G.2 b ⇑c];exact z
 done:=λs Q E d l=>by
  obtain⟨⟨f,r,u⟩,k⟩:=d;refine II k m g r p C (λB N O h=>Sm k m g c x y (by rw[u,kU (aE _)];exact h)) (λv j e=>by cases e) λ_ n S=>l n s.toks λb H c z=>S b H ⇑c z
 self:=λi s Q E d l=>Lp (let ⟨⟨f,e,_⟩,_⟩:=d;⟨_,e,rfl⟩) l
end
section
variable{P:aP}{w:aZ}{A:bb}{E:ab->ag->Prop}{s:ag}{a:ae}{ks:List aB}
theorem Rm(b:Array (Int×ab)):∀(l:n_),(∀j∈l,j<b.size)->(l.filterMap λj=>b[j]?).length=l.length
 |[],_=>rfl
 | q::l,h=>by
  rw[eZ,ba (h q ar)];rw[aW,aW,Rm b l λj c=>h j (ak _ c)]
structure ItX(P:aP)(w:aZ)(a:ae)(ks:List aB)(s:ag)(I:ae)(s1:ag):Prop where
 ex:∃(os:List aB)(fp:List ae)(St:Nat->a7->Prop),os.Perm ks/\I∈fp/\(∀b∈fp,b<s1.heap.objs.size)/\(∀b∈fp,b=a\/s.heap.objs.size<=b)/\(∀B:bb,B.handled=XV->Walks P w B I fp [I] os.length (DG os) St)/\St 0 s1.heap
 keep:∀b o,s.heap.get? b=Xy o->s1.heap.get? b=Xy o
 ty:∃ob,s1.heap.get? I=Xy ob/\ob.cls=.type "set_iterator"
 new:s.heap.objs.size<=I
 gens:s1.gens=s.gens
 os:s1.os=s.os
def Yj(hS:oU P w a ks s.heap)(h:∀I U,ItX P w a ks s I U->Q (.ref I) U):av (az P w) A (pyIter (.ref a)) Q E s:=by
 obtain⟨o,c,q,t,u,hx,z,R,S,hn,k,x,hl,r_⟩:=hS;have V:s.TypeIs (.ref a) "set":=⟨o,u,hx.1⟩;have l:=aN u;refine jX V F.slot_set_iter (cf F.slot_set_iter V zge ?_ (F.args_set_iter_1 _));unfold d0.«frozenset.__iter__» oy slotArgs;simp only[List.isEmpty_nil,eS,ck,↓reduceIte,bind_assoc,eB,bne_self_eq_false];refine aa (ah (aa (ah (aa (aa (jk u z x (ah (aa (zjn u z x r_ ?_)))))))));have H:∀(first:ab)(p:a7)(d:Drawn),(∀b C,s.heap.get? b=Xy C->p.get? b=Xy C)->s.heap.objs.size<=p.objs.size->
   (∃(J:List aB)(D:List ae)(N:Nat->a7->Prop),J.Perm ks/\p.objs.size∈D/\(∀b∈D,b<p.objs.size+1)/\(∀b∈D,b=a\/s.heap.objs.size<=b)/\(∀B:bb,B.handled=XV->Walks P w B p.objs.size D [p.objs.size] J.length (DG J) N)/\N 0 (p.push (yh first 0 a c.size q)))->
   av (az P w) A.in1 (setEpoch a >>= λe=>newFields "set_iterator" [first,b9 0,.ref a,b9 c.size,b9 e] >>= λv=>ret v) (λf W=>∃r,f=.done (.ret r)/\∃X r',W.TypeIs r X/\typeLookup (.type X) "__next__" = pure (Xy r')/\Q r W) E { s with heap:=p,drawn:=d }:=by
  intro first p d Y hz ⟨J,D,N,p1,p2,p3,p6,p4,p5⟩
  refine aa (wpAny_setEpoch_of (Y a o u) z x ?_);refine aa (cM ?_ (by size_fits));have g:(p.push (yh first 0 a c.size q)).get? p.objs.size=Xy (yh first 0 a c.size q):=aI _ rfl;refine ah ⟨_,rfl, "set_iterator",_,⟨_,g,rfl⟩,pd.lookup,h _ _ ⟨⟨J,D,N,p1,p2,λb k=>?_,p6,p4,p5⟩,λb C e=>af _ (Y b C e),⟨_,g,rfl⟩,hz,rfl,rfl⟩⟩;rw[cz];exact p3 b k
 cases T:(!yo w&&decide (c.size>1)) with
 | true=>
  refine aa (QX c.size (aV c.size) _ _ 'k' λy d K=>aa (iq ?_ ?_))
  ·have L:(s.heap.push { cls:=.type "tuple",data:=.seq (y.map λ(j:Nat)=>b9 (j:Int)).toArray }).objs.size=s.heap.objs.size+1:=cz ..;refine H (.ref s.heap.objs.size) _ d (λb C e=>af _ e) (by rw[L];exact dR _) ?_;refine⟨(y.filterMap λj=>c[j]?).map ur,[(s.heap.push { cls:=.type "tuple",data:=.seq (y.map λ(j:Nat)=>b9 (j:Int)).toArray }).objs.size,a,s.heap.objs.size],(λi h=>h.get? (s.heap.push { cls:=.type "tuple",data:=.seq (y.map λ(j:Nat)=>b9 (j:Int)).toArray }).objs.size=Xy (yh (.ref s.heap.objs.size) i a c.size q)/\h.get? a=Xy o/\h.get? s.heap.objs.size=Xy { cls:=.type "tuple",data:=.seq (y.map λ(j:Nat)=>b9 (j:Int)).toArray }),?_,by simp,?_,?_,λB M=>?_,aI _ rfl,af _ (af _ u),af _ (aI _ rfl)⟩
   ·refine(List.Perm.map ur ?_).trans S;have e1:(aV c.size).filterMap (λj=>c[j]?)=c.toList:=by
     apply mU;intro i;have OU:∀n,n<=c.size->(aV n).filterMap (λj=>c[j]?)=c.toList.take n:=by
      intro n
      induction n with
      |zero=>intro _;simp
      | succ n ih=>
       intro KJ;rw[kL,List.filterMap_append,ih 'd',eZ,List.filterMap_nil,ba 'd',eJ,cX,ba 'd'];rfl
     rw[OU c.size (aE _),cP 'k']
    rw[<- e1];exact K.filterMap _
   ·intro b k;rw[L] at k ⊢;simp at k;rcases k with rfl|rfl|rfl
    ·exact cU _
    ·exact dr (dr l)
    ·exact dr (cU _)
   ·intro b k;rw[L] at k;simp at k;rcases k with rfl|rfl|rfl
    ·exact .inr (dR _)
    ·exact .inl rfl
    ·exact .inr (aE _)
   ·have m:((y.filterMap λj=>c[j]?).map ur).length=c.size:=by
     have Z:=Rm c y λj hj=>bg.mp (K.mem_iff.mp hj);rw[aq,Z,K.length_eq];simp
    rw[m];exact zjK z x R M (by rw[L];exact bq (dr l)) (by rw[L];exact bq (cU _)) K
  ·rw[aq,K.length_eq,ci];exact jY k
 | false=>
  have this:=H (b9 0) s.heap s.drawn (λb C e=>e) (aE _);have Z:({ s with heap:=s.heap,drawn:=s.drawn }:ag)=s:=by cases s;rfl
  refine this ?_;by_cases G:yo w=YP
  ·refine⟨(pickOrder (w.params.setOrder a q) c).toList.map ur,[s.heap.objs.size,a],(λi h=>(∃O:Nat,h.get? s.heap.objs.size=Xy (yh (b9 O) i a c.size q))/\h.get? a=Xy o),((Kd _ c).map ur).trans S,by simp,?_,?_,λB M=>?_,⟨0,aI _ rfl⟩,af _ u⟩
   ·intro b k;simp at k;rcases k with rfl|rfl
    ·exact cU _
    ·exact dr l
   ·intro b k;simp at k;rcases k with rfl|rfl
    ·exact .inr (aE _)
    ·exact .inl rfl
   ·have m:((pickOrder (w.params.setOrder a q) c).toList.map ur).length=c.size:=by rw[aq,(Kd _ c).length_eq];simp
    rw[m];exact zhz z x R G M (bq l)
  ·have G:yo w=Y1:=⇑G
   have p:c.size<=1:=by
    rw[G] at T;simp at T;exact T
   have hpz:t.place.size=c.size:=by simp only[oi,aY,beq_iff_eq] at x;exact x.1
   refine⟨c.toList.map ur,[s.heap.objs.size,a],(λi h=>(∃O:Nat,h.get? s.heap.objs.size=Xy (yh (b9 O) i a c.size q)/\fi t.place O=i)/\h.get? a=Xy o),S,by simp,?_,?_,λB M=>?_,⟨0,aI _ rfl,zjk _ 'd'⟩,af _ u⟩
   ·intro b k;simp at k;rcases k with rfl|rfl
    ·exact cU _
    ·exact dr l
   ·intro b k;simp at k;rcases k with rfl|rfl
    ·exact .inr (aE _)
    ·exact .inl rfl
   ·have m:(c.toList.map ur).length=c.size:=by simp
    rw[m];exact zgf z x R G p (hl G) M (bq l)
end
section
variable{P:aP}{w:aZ}{A:bb}{E:ab->ag->Prop}{s:ag}{a:ae}{ks:List aB}
def Yy(b:s.TypeIs (.ref a) "set")(h:Q Y1 s):av (az P w) A (Builtin.List.listLengthHint (.ref a)) Q E s:=by
 refine aa (wpAny_specialOf b F.slot_set_len.lookup ?_);have d:splitId "set.__len__" = Xy ("set", "__len__"):=by kernel_rfl
 have c:=sub_set_self;dsimp only;rw[d];refine aa (iV b c ?_);exact aa (i6 b (ah h))
theorem VT:∀(b:List aB)(c:List ab),c.length=b.length->(∀j v,c[j]?=Xy v->DG b j v)->f7 c b
 |[],[],_,_=>.nil
 |[],_::_,h,_=>by simp at h
 |_::_,[],h,_=>by simp at h
 | x::b,v::c,h,q=>by
  obtain⟨d,e⟩:=q 0 v rfl;subst e;exact .cons x d (VT b c ⇑h λj u z=>by
   obtain⟨f,g⟩:=q (j+1) u ⇑z;exact⟨f,by simpa [List.getD] using g⟩)
def zeT(z:A.handled=XV)(B:oU P w a ks s.heap)(T:ks.length<=1000)
  (h:∀(C:List ab)(k:List aB)i,k.Perm ks->f7 C k->s.heap.objs.size<=i.heap.objs.size->(∀b o,s.heap.get? b=Xy o->i.heap.get? b=Xy o)->i.gens=s.gens->i.os=s.os->Q C i):
  av (az P w) A (collect (.ref a)) Q E s:=by
 obtain⟨o,es,ep,t,p,D,r⟩:=id B;have f:=aN p;refine aa (wpAny_runValue (eD F.entry_proto_collect ?_));refine aa (cM (ah ⟨fJ F.plain_list_iadd _,eD F.entry_list_iadd ?_⟩));have U:(s.heap.push { cls:=.type "list",data:=.seq ([]:List ab).toArray }).get? s.heap.objs.size=Xy { cls:=.type "list",data:=.seq ([]:List ab).toArray }:=aI _ rfl;have V:oU P w a ks (s.heap.push { cls:=.type "list",data:=.seq ([]:List ab).toArray }):=B.keep λo e=>af _ e;have Y:oh { s with heap:=s.heap.push { cls:=.type "list",data:=.seq ([]:List ab).toArray } } (.ref a) "set":=⟨o,af _ p,D.1⟩;show av _ A.in1 (Builtin.List.listExtendWith (.ref s.heap.objs.size) (.ref a) (.ref s.heap.objs.size)) _ _ _;refine aa (i6 Y ?_);have Z:ku (.ref s.heap.objs.size) (.ref a)=Y1:=by simp[ku,eF f]
 rw[Ko (by rw[Z];decide)];refine aa (Yj V λI i X=>?_);obtain⟨⟨k,fp,St,G,p2,p3,p6,H,p5⟩,u,ty,J,gn,oo⟩:=X;refine aa (bH (Yy ⟨o,u a o (af _ p),D.1⟩ ?_));refine aa (dN (aa ?_));obtain⟨x,g,d,tk,oss⟩:=i;have K:=u _ _ U;refine aa (ge K rfl ?_);have L:=cm (bF (·.push gG)) K rfl;refine ge L rfl ?_;have g3:=cm (bF (·.pop)) L rfl;have M:(Shared.heap { s with heap:=s.heap.push { cls:=.type "list",data:=.seq ([]:List ab).toArray } }).objs.size=s.heap.objs.size+1:=cz ..;have N:s.heap.objs.size∉fp:=λm=>by
  rcases p6 _ m with e|e
  ·exact bZ _ (e▸f)
  ·rw[M] at e;exact Nat.not_succ_le_self _ e
 have W:=(H A.in1 ⇑z).toS;have O:∀b c,b≠s.heap.objs.size->x.get? b=Xy c->((x.update s.heap.objs.size (bF (·.push gG))).update s.heap.objs.size (bF (·.pop))).get? b=Xy c:=
  λb c l e=>(cC _ _ (bP l)).trans ((cC _ _ (bP l)).trans e)
 refine ah ⟨fJ F.plain_extend_loop _,codeAny_extend_loopS W (aH (by rw[G.length_eq];exact T) 'u') _ N _ k.length 0 _ _ _ rfl (bI _) ((H A.in1 ⇑z).frame 0 x _ p5 λb l c e=>O b c (λq=>N (q▸l)) e) g3 (ItemsOf.nil _) λs' n c' y R S=>?_⟩;refine aa (wpAny_load R (ah ?_));have yj:=VT k n.toList ⇑S.1 λj v e=>S.2 j v (by rw[<- cX];exact e);refine h n.toList k s' G yj (fV (aN R)) (λb c e=>y.heap b c ?_ (O b c ?_ (u b c (af _ e)))) (y.gens.trans gn) (y.os.trans oo)
 ·simp;refine⟨λq=>absurd (aN e) (by rw[q];exact bZ _),λq=>?_⟩;have l:=aN e;rw[M] at J;exact absurd (be l (mL J)) (by rw[q];exact bZ _)
 ·exact λq=>absurd (aN e) (by rw[q];exact bZ _)
end
end DL
namespace DL
open PySem PyProof.Rows
section
variable{P:aP}{w:aZ}{A:bb}{E:ab->ag->Prop}{s:ag}{a:ae}{ks:List aB}
def zj2(v:A.handled=XV)(x:oU P w a ks s.heap)(R:ks.length<1000)
  (h:∀(f:Array ab)(g:List aB)l d c,g.Perm ks->sortedS g=YP->f7 f.toList g->s.heap.objs.size<=l->d.heap.get? l=Xy { cls:=.type "list",data:=.seq f c }->(∀b o,s.heap.get? b=Xy o->d.heap.get? b=Xy o)->d.gens=s.gens->d.os=s.os->Q (.ref l) d):
  av (az P w) A (call (.builtin "sorted") [.ref a]) Q E s:=by
 refine g8 mX mw mx (my _) ?_;unfold d0.«sorted»;refine aa (m:=checkCount "sorted" 1 1 _) (ah ?_);refine aa (zeT ⇑v x 'd' λi g d p k y z B C=>?_);have j:i.length=g.length:=k.length;have D:i.length<=4000000:=by rw[j,p.length_eq];lia
 refine aa (gO ?_);have n:(d.heap.push (seqObj "list" i.toArray 0)).get? d.heap.objs.size=Xy (seqObj "list" i.toArray 0):=aI _ rfl;refine aa (bH (cf lz ⟨_,n,rfl⟩ kK (TS.list_sort_big lU n k.keysOf (λS T r e=>keyKind_strs (by rw[<- e];exact k)) D λF G H=>⟨_,rfl,?_⟩) (lA _)));obtain⟨I,J,K,L⟩:=sorted_out_str k G H;refine ah ⟨_,rfl,?_⟩;have M:=cm (bF λ_=>#[]) n rfl;have N:=af (seqObj "list" #[] 0) (af (seqObj "tuple" i.toArray 0) M);have O:=cm (bF λ_=>(Ku F).map (·.2)) N rfl;refine h _ I _ _ _ (K.trans p) L J ?_ O (λb o e=>?_) B C
 ·exact y
 ·have t:=z b o e;have u:d.heap.objs.size≠b:=λq=>absurd (aN t) (by rw[<- q];exact bZ _);exact(cC _ _ u).trans (af _ (af _ ((cC _ _ u).trans (af _ t))))
end
end DL
namespace DL
open PySem L2 PyProof.Rows
noncomputable def xl(x:n_):l_->l_
 |[]=>[x]
 |y::r=>if x<y then x::y::r else if x=y then y::r else y::xl x r
def qB(ss:l_):l_:=ss.foldl (λl x=>xl x l) []
theorem pf:∀{l:l_},y∈xl x l↔y=x\/y∈l
 |[]=>by simp[xl]
 | z::r=>by
  unfold xl;split
  ·simp
  ·split
   ·rename_i h;subst h;simp
   ·rw[aw,pf,aw];exact⟨λh=>by rcases h with h|h|h<;>simp[h],λh=>by rcases h with h|h|h<;>simp[h]⟩
theorem TX:∀{l:l_},l.Pairwise (· < ·)->(xl x l).Pairwise (· < ·)
 |[],_=>by simp[xl]
 | z::r,h=>by
  obtain⟨b,c⟩:=bR.mp h;unfold xl;split
  ·rename_i a;exact bR.mpr ⟨λy hy=>by
    rcases aw.mp hy with rfl|hy
    ·exact a
    ·exact iO a (b y hy),h⟩
  ·rename_i a;split
   ·exact h
   ·rename_i d;refine bR.mpr ⟨λy hy=>?_,TX c⟩;rcases pf.mp hy with rfl|hy
    ·exact cx λq=>d (ko (iI.mp q) (iI.mp a))
    ·exact b y hy
def xg(a:l_):y∈qB a↔y∈a:=by
 have:∀(a l:l_),y∈a.foldl (λl x=>xl x l) l↔y∈l\/y∈a:=by
  intro a
  induction a with
  |nil=>intro l;simp
  |cons x a ih=>intro l;rw[fC,ih,pf,aw];exact⟨λh=>by rcases h with(h|h)|h<;>simp[h],λh=>by rcases h with h|h|h<;>simp[h]⟩
 rw[qB,this];simp
def AK(a:l_):(qB a).Pairwise (· < ·):=by
 have:∀(a l:l_),l.Pairwise (· < ·)->(a.foldl (λl x=>xl x l) l).Pairwise (· < ·):=by
  intro a
  induction a with
  |nil=>intro l h;exact h
  |cons x a ih=>intro l h;exact ih _ (TX h)
 exact this a [] eo
theorem JD:∀{l m:l_},l.Pairwise (· < ·)->m.Pairwise (· < ·)->(∀x,x∈l↔x∈m)->l=m
 |[],[],_,_,_=>rfl
 |[],y::m,_,_,h=>absurd ((h y).mpr ar) 'k'
 |x::l,[],_,_,h=>absurd ((h x).mp ar) 'k'
 | x::l,y::m,hl,hm,h=>by
  obtain⟨c,f⟩:=bR.mp hl;obtain⟨d,g⟩:=bR.mp hm;have b:x=y:=by
   rcases aw.mp ((h x).mp ar) with e|e
   ·exact e
   ·rcases aw.mp ((h y).mpr ar) with e'|e'
    ·exact e'.symm
    ·exact absurd (iO (d x e) (c y e')) (ee _)
  subst b;rw[JD f g λz=>⟨λa=>by
    rcases aw.mp ((h z).mp (ak _ a)) with e|e
    ·subst e;exact absurd (c z a) (ee _)
    ·exact e,λa=>by
    rcases aw.mp ((h z).mpr (ak _ a)) with e|e
    ·subst e;exact absurd (d z a) (ee _)
    ·exact e⟩]
abbrev toS(cs:n_):aB:=⟨cs.toArray⟩
theorem MT:∀(p:aB)(l:List aB),risingS p l=YP->(p::l).Nodup->((p::l).map (·.cps.toList)).Pairwise (· < ·)
 |p,[],_,_=>by simp
 | p,x::r,h,nd=>by
  unfold risingS at h;rw[aY,eu,ltCps_eq,decide_eq_false_iff_not] at h;obtain⟨c,d⟩:=bz.mp nd;have a:=MT x r h.2 d;have b:=cx λq=>c (by
   have:=ko (iI.mp h.1) (iI.mp q);have e:p=x:=by
    obtain⟨f⟩:=p;obtain⟨g⟩:=x;rw[show f=g from nj.mp this]
   rw[e];exact ar)
  refine bR.mpr ⟨λy hy=>?_,a⟩;rcases aw.mp hy with rfl|hy
  ·exact b
  ·exact iO b ((bR.mp a).1 y hy)
def zl5{b:l_}{a:List aB}(c:a.Perm (vJ (b.map toS)))(d:(vJ (b.map toS)).Nodup)(e:sortedS a=YP):a=(qB b).map toS:=by
 have f:(a.map (·.cps.toList)).Pairwise (· < ·):=by
  cases a with
  |nil=>exact eo
  |cons p l=>exact MT p l e (c.nodup_iff.mpr d)
 have g:=JD f (AK b) λx=>by
  rw[xg,ay];constructor
  ·rintro⟨o,h,rfl⟩;have:=(Su _).mp (c.mem_iff.mp h);obtain⟨k,i,rfl⟩:=ay.mp this;exact i
  ·intro j;exact⟨toS x,c.mem_iff.mpr ((Su _).mpr (ay.mpr ⟨x,j,rfl⟩)),rfl⟩
 rw[<- g,bi];refine(jz a).symm.trans (e8 λo _=>?_);rfl
def oU.nd(x:oU P w a ks h):ks.Nodup:=by obtain⟨_,_,_,_,_,_,_,_,_,b,_⟩:=x;exact b
section
variable{X:Cx}{p:Pos}{e:aT}{t:DA}
def YM(K:ai)(P:aP)(w:aZ):List V->Hp->VK->Prop:=λxs H Q=>∃(p:ae)(ss:l_),xs=[.ref p]/\(rn K H p (ss.map λcs=>V.str (toS cs))\/sC K H p (ss.map λcs=>V.str (toS cs)))/\ss.length<=1000/\∀l,H l=XV->Q (.ref l) (upd H l (.ext (oU P w l (vJ (ss.map toS)))))
def zeG{b:l_}{d:List ab}(r:oF (b.map λcs=>V.str (toS cs)) d){i:Nat}{v:ab}(h:d[i]?=Xy v):∃t:Tok,v=kF ((b.map toS).getD i ⟨#[]⟩) t:=by
 obtain⟨x,a,f⟩:=U6 r h;rw[bd] at a;cases c:b[i]? with
 |none=>rw[c] at a;cases a
 | some cs=>
  rw[c] at a;cases a;obtain⟨t,rfl⟩:=f;exact⟨t,by rw[aD,bd,c];rfl⟩
def zd5(y:X.calm=YP):oN X (.type "set") (YM X.K X.prog X.w):=by
 intro f s B H M N Q I r h;obtain⟨p,j,rfl,sq,O,q⟩:=h;obtain⟨u,rfl,C⟩:=uO r;cases C;have c:∀(z:ZK)(a:List ab),z.val=.ref p->z.pre s.heap->(∀x t,z ≠ .str x t)->z.vals=a.toArray->oF (j.map λD=>V.str (toS D)) a->av (az X.prog X.w) X.A (call (.type "set") [.ref p]) (EP X f B Q) X.xe s:=by
  intro z a E F G m d;have g:a.length=j.length:=by rw[<- d.length];simp
  rw[<- E];refine wT I (zdI z (I.ok.hd y) F G (j.map toS) (by rw[m];simp[g]) (λi v e=>zeG d (by rw[m] at e;simpa using e)) (by rw[aq];unfold scanBound;lia) λP R n J S=>?_);refine⟨.ref s.heap.objs.size,_,I.laid (λb L z=>J b L (aN z) z) (aE _) ?_,rfl,q _ (I.hok.fresh (aE _))⟩;exact⟨n,let ⟨o,_,_,_,ho,_⟩:=n;⟨o,ho⟩,λT U x k=>x.keep k⟩
 rcases sq with sq|sq
 ·obtain⟨a,d,l,_⟩:=I.list sq;exact c (.lst p a.toArray) a rfl l.isList (λ_ _ e=>by cases e) rfl d
 ·obtain⟨a,d,l,_⟩:=I.tuple sq;exact c (.tup p a.toArray) a rfl l (λ_ _ e=>by cases e) rfl d
theorem JH:∀{a:List ab}{b:List aB},f7 a b->oF (b.map V.str) a
 |_,_,.nil=>.nil
 |_,_,.cons y t h=>.cons ⟨t,rfl⟩ (JH h)
def zdV(A:X.calm=YP):oN X (.builtin "sorted") (λxs H Q=>∃a f,xs=[.ref a]/\H a=Xy (.ext (oU X.prog X.w a f))/\f.length<1000/\∀l d,d.Perm f->f.Nodup->sortedS d=YP->H l=XV->Q (.ref l) (upd H l (.lst (d.map V.str)))):=by intro n s L H xs M Q I r h;obtain⟨a,f,rfl,B,o,q⟩:=h;obtain⟨u,rfl,C⟩:=uO r;cases C;have v:=(I.hok a _ B).1;refine wT I (zj2 (I.ok.hd A) v o λi d l D c x E F j G y J K N=>?_);have z:=I.hok.fresh j;have g:d.length<=Kw:=aH (fV (by rw[x.length_eq];exact o)) 'u';have k:oP X.prog X.w (upd H l (.lst (d.map V.str))) D.heap l (.lst (d.map V.str)):=⟨by rw[aq];exact g,i.toList,c,JH F,by rw[G]⟩;have m:=I.hok.laid y j k;refine⟨.ref l,_,?_,rfl,q l d x v.nd E z⟩;exact I.call' K (Un.laid y j z) m (by rw[J];exact I.bare) (λb(hb:b∈([]:List ae))=>absurd hb (cg))
end
section
variable{Ex:Nat->Hp->Prop}
theorem Gc{K:ai}{H:Hp}{QH b:List ae}:∀a:l_,oD K H QH b (a.map D.str) (a.map λcs=>V.str (toS cs))
 |[]=>.nil
 |cs::r=>.cons Ma (Gc r)
def Qn(o:Bool)(r:R (List D)):R D:=r.bnd λXo O1=>match uY Xo with
 |some ss=>if ss.length<1000 then (if o=YP then .ok (.own O1.length) (O1++[(qB ss).map .str]) else .ok (.lst ((qB ss).map .str)) O1) else .bad
 |none=>.bad
theorem strL_map:∀a:l_,uY (a.map D.str)=Xy a
 |[]=>rfl
 |cs::r=>by show(uY (r.map D.str)).map _=_;rw[strL_map r];rfl
def zhG{P:aP}{w:aZ}{H H':Hp}{QH g j:List ae}{b:Ow}{L:ae}{Q:VK}{o:Bool}{d:l_}{K:ai}(x:Ext H g H' j)(c:oC K H' QH j b)(k:H' L=Xy (.ext (oU P w L (vJ (d.map toS)))))(m:d.length<1000)
  (q:rM Ex K H QH g (if o=YP then .ok (.own b.length) (b++[(qB d).map .str]) else .ok (.lst ((qB d).map .str)) b) Q):
  ∃a h,[V.ref L]=[V.ref a]/\H' a=Xy (.ext (oU P w a h))/\h.length<1000/\∀l i,i.Perm h->h.Nodup->sortedS i=YP->H' l=XV->Q (.ref l) (upd H' l (.lst (i.map V.str))):=by
 refine⟨L,_,rfl,k,ic (Sf _) (by rw[aq];exact m),λl i n p r f=>?_⟩;have e:=zl5 n p r;subst e;rw[bi];cases o with
 |true=>exact post.ok (show rM Ex K H QH g (.ok (.own b.length) (b++[(qB d).map .str])) Q from q) (x.trans (.cell f)) (c.cell f (Gc _)) (Gm c.len)
 |false=>exact post.ok (show rM Ex K H QH g (.ok (.lst ((qB d).map .str)) b) Q from q) (x.trans (.laid f)) (c.laid f) (Xf.newL c f (Gc _))
end
section
variable{X:Cx}{Ex:Nat->Hp->Prop}{pos AX p p2:Pos}{e:aT}{es:List aT}{t:DA}
def D8(o:Bool)(t:DA):DE:=λσ O=>(t σ O).bnd λxs O1=>match xs with
 | [x]=>match (match r9 O1 x with|some ds=>Xy ds|none=>AV x) with
  |some ds=>Qn o (.ok ds O1)
  |none=>.bad
 |_=>.bad
def ziX(o:Bool)(B:X.calm=YP)(I:Gl X x)(J:X.mg x=XV)(L:bC x=Xy (.builtin "sorted"))(s:Gl X y)(M:X.mg y=XV)(u:bC y=Xy (.type "set"))(N:uA X Ex (e::es) t)
  (P:x ≠ "__name__":=by decide) (R:s9 x:=by decide) (w:y ≠ "__name__":=by decide) (S:s9 y:=by decide) (T:aR (e::es) X.env=(Y1,eval e X.env)::aR es X.env:=by rfl) (U:(backTo AX (aR es X.env)).any (·.1)=Y1:=by rfl)
  (C:aR [.Call (.Name y p2) (e::es) [] AX] X.env=(Y1,eval (.Call (.Name y p2) (e::es) [] AX) X.env)::aR [] X.env:=by rfl):
  PD X Ex (.Call (.Name x p) [.Call (.Name y p2) (e::es) [] AX] [] pos) (D8 o t):=
 sE (MJ (zdV B) I J L (FN (MR (zd5 B) s M u N.out w S T U) IT C) P R C (by rfl)) λb Z σ O b_ H Q f V q=>
  uT.go f V q λxs m vs n D e2 x2 c d p=>by
   split at p
   ·rename_i x;obtain⟨v,rfl,E⟩:=uu d;split at p
    ·rename_i F r;have h:∃g a,v=.ref g/\(rn X.K n g a\/sC X.K n g a)/\oD X.K n b D F a:=by
      cases f:r9 m x with
      | some es=>
       rw[f] at r;cases r;obtain⟨p,a,z,i,j⟩:=vU c E f;exact⟨p,a,z,.inl i,j⟩
      | none=>
       rw[f] at r;obtain⟨p,a,z,i,j⟩:=Co E r;exact⟨p,a,z,.inr i,j⟩
     obtain⟨g,a,rfl,i,j⟩:=h;have p:rM Ex X.K n b D (match uY F with|some k=>if k.length<1000 then (if o=YP then .ok (.own m.length) (m++[(qB k).map .str]) else .ok (.lst ((qB k).map .str)) m) else .bad|none=>.bad) Q:=p;split at p
     ·rename_i k A;obtain⟨W,p⟩:=post.ite p;have Y:=FW j A;subst Y;exact⟨g,k,rfl,i,by lia,λl G=>zhG (.laid G) (c.laid G) rZ W p⟩
     ·exact aj p
    ·exact aj p
   ·exact aj p
end
end DL
namespace DL
open PySem L2
structure Nx(l:List aB):Prop
section
variable{X:Cx}{Ex:Nat->Hp->Prop}{elt tg iter:aT}{ifs:List aT}{gs:List bN}{scope:c8}{pos sH py:Pos}{x y:aB}{i k:Nat}{ext:List aB}{it0:DI}{g:Tg}{ts:List DT}{cs:List Cl}{te:DE}
abbrev IM(X:Cx)(ext:List aB)(scope:c8)(tg:aT)(g:Tg)(ifs:List aT)(ts:List DT)(gs:List bN)(cs:List Cl)(elt:aT)(te:DE):Prop:=∀cells C s H fp,PG (qY X (X.N++ext) scope cells C s H fp) tg (g.rd X.K)/\cj (λe t=>sj (qY X (X.N++ext) scope cells C s H fp) qV e t) ifs ts/\oW (qY X (X.N++ext) scope cells C s H fp) gs cs/\PD (qY X (X.N++ext) scope cells C s H fp) qV elt te
def zfx(_:Nx ext)(o:Bool)(a:X.calm=YP)(b:yt X.env.scope scope (X.N++ext) (qT (⟨it0,g,ts⟩::cs)))(c:tK X Ex tg iter it0)(d:IM X ext scope tg g ifs ts gs cs elt te)(e:ext.length=k:=by rfl)(f:∀x,bV iter X.env x=pure x:=by intro _;rfl):
  PD X Ex (.ListComp elt (⟨tg,iter,ifs,0⟩::gs) scope pos) (qp o k it0 g ts cs te):=e▸ziD o ext a c b d f
def z8l(_:Nx ext)(o:Bool)(a:X.calm=YP)(b:X.N.Nodup)(c:X.N[i]?=Xy y)(d:X.env.scope.names.lookup y=Xy .local)(e:yt X.env.scope scope (X.N++ext) (qT (⟨it0,g,ts⟩::cs)))(f:tK X Ex tg iter it0)(h:IM X ext scope tg g ifs ts gs cs elt te)
  (j:swapsWith (.ListComp elt (⟨tg,iter,ifs,0⟩::gs) scope pos) (Xy (.Name y py)) sH.line X.env=pure YP) (l:ext.length=k:=by rfl) (m:∀x,bV iter X.env x=pure x:=by intro _;rfl):
  vm X Ex (.Assign [.Name y py] (.ListComp elt (⟨tg,iter,ifs,0⟩::gs) scope pos) sH) (p_ i (qp o k it0 g ts cs te)):=l▸z8x o ext a b c d f e h j m
end
noncomputable def uP(c:DT)(b:DS):Nat->Sg->Ow->RS
 |0,_,_=>.bad
 | f+1,σ,O=>(c σ O).bnS λk O1=>if k=YP then (match b σ O1 with
   |.nx σ' O'=>uP c b f σ' O'
   |.ct σ' O'=>uP c b f σ' O'
   |.bk σ' O'=>.nx σ' O'
   |r=>r) else .nx σ O1
def Ja(f:Nat)(c:DT)(b:DS):DS:=uP c b f
section
variable{X:Cx}{Ex:Nat->Hp->Prop}{pos:Pos}
def zbU(f:Nat)(y:kG (az X.prog X.w) X.A X.env X.xe)(B:sj X Ex c tc)(C:ua X Ex body tb):vm X Ex (.While c body [] pos) (Ja f tc tb):=
 zX (zgc y B.out C.out) λa g b O E h H j l q=>by
  refine⟨λm h H=>∃a g b O,oE X.K H a g b h/\oC X.K H a g O/\oH Ex X.K H a g (uP tc tb m b O) E,⟨f,a,g,b,O,j,l,q⟩,?_⟩;rintro m h H ⟨a,g,b,O,j,l,q⟩;cases m with
  |zero=>exact aj q
  | succ f=>
   refine yI.goS j l q λk n t o u G v p=>?_;cases k with
   |false=>exact p h t o .refl u v
   | true=>
    rw[Kk rfl];refine⟨λh H=>∃a g b O,oE X.K H a g b h/\oC X.K H a g O/\oH Ex X.K H a g (uP tc tb f b O) E,λ_ _ z=>⟨f,cU _,z⟩,a,o,b,n,u,v,?_⟩;have p:oH Ex X.K t a o (match tb b n with|.nx σ' O'=>uP tc tb f σ' O'|.ct σ' O'=>uP tc tb f σ' O'|.bk σ' O'=>.nx σ' O'|r=>r) E:=p;cases i:tb b n with
    |nx σ' O'=>rw[i] at p;exact λD F s x e c=>⟨a,s,σ',O',e,c,oH.ext p x⟩
    |ct σ' O'=>rw[i] at p;exact λD F s x e c=>⟨a,s,σ',O',e,c,oH.ext p x⟩
    |bk σ' O'=>rw[i] at p;exact p
    |rt d O'=>rw[i] at p;exact p
    |exc c' O'=>rw[i] at p;exact p
    |bad=>rw[i] at p;exact p
end
noncomputable def IW(to:DE)(t:DA):DE:=λσ O=>(to σ O).bnd λx O1=>match x with
 | .own k=>(t σ O1).bnd λys O2=>match ys,O2[k]? with
  | [.int i],Xy ds=>if 0<=i/\i<4000000 then (match ds[i.toNat]? with
   |some d=>.ok d (O2.set k (ds.eraseIdx i.toNat))
   |none=>.bad) else .bad
  |_,_=>.bad
 |_=>.bad
theorem oD.erase:∀{ds:List D}{a:List V}(i:Nat),oD K H QH μ ds a->oD K H QH μ (ds.eraseIdx i) (a.eraseIdx i)
 | [],a,i,h=>by
  unfold oD at h;subst h;simpa using(oD.nil:oD K H QH μ [] [])
 | d::ds,a,i,h=>by
  unfold oD at h;obtain⟨v,r,rfl,c,b⟩:=h;cases i with
  |zero=>exact b
  |succ i=>exact .cons c (oD.erase i b)
def Yq(h:0<=i)(a:i.toNat<n):seqIndex? i n=Xy i.toNat:=by unfold seqIndex?;split<;>simp_all<;>lia
section
variable{X:Cx}{Ex:Nat->Hp->Prop}{e:aT}
def zfF(s:PD X Ex o to)(u:uA X Ex (e::es) t)(z:attributeBase o "pop" X.env (eval o X.env)=eval o X.env:=by rfl)
  (B:((backTo qh (aR (e::es) X.env)).all (λx=>!x.1)&&(backToKw qh (keywordEach [] X.env)).all (λx=>x.1.isSome)&&decide ((e::es).length+([]:List fT).length+(if ([]:List fT).isEmpty then 0 else 1)<30))=YP:=by rfl)
  (C:(apos.endLine==qh.line)=YP:=by rfl) (D:aR (e::es) X.env=(Y1,eval e X.env)::aR es X.env:=by rfl) (E:(backTo qh (aR es X.env)).any (·.1)=Y1:=by rfl):
  PD X Ex (.Call (.Attribute o "pop" apos) (e::es) [] qh) (IW to t):=
 sE (IA iy me PySem.F.type_list_pop zgn s.out u.out z B C D E) λG μ σ O b_ H Q I J q=>rd.go I J q λd O1 v H1 g_ K x g r p=>by
  cases d with
  | own k=>
   have L:=r;unfold Xf at r;obtain⟨A,rfl,M⟩:=r;obtain⟨ds,N,h1,P,h3⟩:=g.at_ k A M;refine⟨.inl ⟨rfl,N,.of P⟩,uT.go K g p λys O2 ws H2 R e3 S h T a=>?_⟩;split at a
   ·rename_i i uK U;obtain⟨⟨c,V⟩,a⟩:=post.ite a;obtain⟨w,rfl,j⟩:=uu T;unfold Xf at j;subst j;have b:R[k]?=Xy A:=by
     have:=L.ext S;unfold Xf at this;obtain⟨A',W,Y⟩:=this;cases W;exact Y
    obtain⟨E4,Z,l,f,m⟩:=h.at_ k A b;rw[U] at l;cases l;split at a
    ·rename_i d hd;obtain⟨y,n,dy⟩:=m.get hd;have qm:=(ao.mp n).1;refine⟨A,Z,i,i.toNat,y,rfl,rfl,f,by lia,by lia,Yq c qm,n,?_⟩;exact post.ok a (.put (aF b) ⟨_,f⟩) (h.put b (m.erase _)) (dy.ext (.put (aF b) ⟨_,f⟩))
    ·exact aj a
   ·exact aj a
  |_=>exact aj p
end
end DL
namespace DL
open PySem L2 PyProof.Rows
abbrev DK:=Sum Int n_
noncomputable def xY:D->Option DK
 |.int i=>Xy (.inl i)
 |.str cs=>Xy (.inr cs)
 |_=>XV
def DW(k:DK):D->Bool
 |.map [j] _=>decide (j=k)
 |_=>Y1
def EL:List D->List DK
 |.map [k] _::r=>k::EL r
 |_=>[]
def EM:List D->List D
 |.map _ [d]::r=>d::EM r
 |_=>[]
def tW(p:DK×D):D:=.map [p.1] [p.2]
theorem Mo:∀a:List (DK×D),EL (a.map tW)=a.map (·.1)
 |[]=>rfl
 |p::r=>by show p.1::EL (r.map tW)=_;rw[Mo r];rfl
theorem Mc:∀a:List (DK×D),EM (a.map tW)=a.map (·.2)
 |[]=>rfl
 |p::r=>by show p.2::EM (r.map tW)=_;rw[Mc r];rfl
def I9:∀{a b:DK},kD a=kD b->a=b
 |.inl i,.inl j,h=>by cases h;rfl
 | .inr x,.inr y,h=>by
  have h:=ju h;have:x=y:=⇑h
  rw[this]
 |.inl _,.inr _,h=>by cases h
 |.inr _,.inl _,h=>by cases h
def B1(tk tv:DE):Em:=λσ O Xo=>(tk σ O).bnd λx O1=>match xY x with
 |some k=>(tv σ O1).bnd λd O2=>if Xo.length<1000/\Xo.any (DW k)=Y1 then .ok (Xo++[.map [k] [d]]) O2 else .bad
 |none=>.bad
def D5(ke ve:aT):xD where
 ex:=λgens scope pos=>.DictComp ke ve gens scope pos
 emit:=λXo env=>do
  let kv <- eval ke env;let vv <- holding [kv] (eval ve env)
  match Xo with
  | .ref d=>do
   standAt { ke.pos with endLine:=ve.pos.endLine,endCol:=ve.pos.endCol }
   holding [kv,vv] (dictSet d kv vv)
  |_=>unsupported "internal:dictcomp"
 new:=newDict
 ho:=λ_ _ _=>.dK []
 G:=λK _ _ A QH H μ Xo=>∃(ps:List (DK×D))(vs:List V),Xo=ps.map tW/\H A=Xy (.dK ((ps.map λp=>kD p.1).zip vs))/\ps.length=vs.length/\oD K H (A::QH) μ (ps.map (·.2)) vs
def UA(j l:aT):Cr (D5 j l) where
 cl:=λ_ _ _=>rfl
 turn:=λc b f k o g i z m p n d=>by
  show compTurn (.DictComp j l c b f) k o g i=_;unfold compTurn Ci;rcases d with d|⟨A,B,C,d⟩
  ·simp only[n,d];rfl
  ·simp only[n,d,bne_self_eq_false,ck,if_false,bind_assoc,pure_bind]
   first|rfl|congr 1
 keep:=λ⟨q,r,e,s,t,u⟩ v x=>⟨q,r,e,x.keep _ _ s v,t,u.ext x⟩
 new:=λh=>cM (h _ rfl λH h a w e=>by
  refine⟨bI _,beq_eq_false_iff_ne.mpr (bP (bq w)),[],.nil,?_⟩;exact⟨_,#[],0,e,⟨rfl,rfl,rfl⟩,rfl,λ_ y=>by simp at y,Pairs.nil,ir⟩)
 g0:=⟨[],[],rfl,rZ,rfl,.nil⟩
 q1:=λ_ _ _ _ _ _ _=>rfl
 u1:=λ_ _ _ _ _ _ _ _=>rfl
 d1:=λ_ _ _ _ _ _ _ _ _=>rfl
 u2:=λ_ _ _ _ _ _ _ _=>rfl
 d2:=λ_ _ _ _ _ _ _ _ _=>rfl
def yY(g:H A=Xy (.dK i_)):∀a,oQ H a->oQ (upd H A o) a:=by
 rintro a ⟨h,b,i,j⟩;have k:a≠A:=by rintro rfl;rw[g] at b;cases b
 refine⟨h,by rw[qi k];exact b,i,λd l e=>?_⟩;obtain⟨c,m,rfl,f,n⟩:=j d l e;have p:c≠A:=by rintro rfl;rw[g] at f;cases f
 exact⟨c,m,rfl,by rw[qi p];exact f,n⟩
theorem UI:∀(ps:List (DK×D))(vs:List V),(ps.map tW).any (DW k)=Y1->uq ((ps.map λp=>kD p.1).zip vs) (kD k)=XV
 |[],_,_=>rfl
 |_::_,[],_=>rfl
 | p::r,v::vs,h=>by
  rw[bB,f9,Bool.or_eq_false_iff] at h;obtain⟨a,b⟩:=h;have n:¬ p.1=k:=λe=>by
   have:decide (p.1=k)=Y1:=a;rw[decide_eq_true e] at this;cases this
  show uq ((kD p.1,v)::(r.map λp=>kD p.1).zip vs) (kD k)=XV;rw[Es (λe=>n (I9 e))];exact UI r vs b
def Ly{K:ai}{H:Hp}{QH a:List ae}{x:D}{k:DK}{v:V}(e:xY x=Xy k)(h:Xf K H QH a x v):v=kV (kD k):=by
 cases x with
 |int i=>cases e;unfold Xf at h;exact h
 |str cs=>cases e;unfold Xf at h;exact h
 |_=>cases e
section
variable{X:Cx}{A:ae}{QH:List ae}{ke ve:aT}{gens:List bN}{tk tv:DE}
def zc4{Z:L2.St->Hp->List ae->Prop}{k:Nat}{e:aT}(V:X.xe=λ_ _=>False)(L:PD X qV ke tk)(M:PD X qV ve tv)(hk:gens[k]?=XV):AI X Z (D5 ke ve) A QH e gens (B1 tk tv) k []:=by
 intro a s i H j l O Xo Q E _ B q;unfold Ci;rw[hk];show av _ _ (do
  let kv <- eval ke X.env;let vv <- holding [kv] (eval ve X.env)
  (do
   standAt { ke.pos with endLine:=ve.pos.endLine,endCol:=ve.pos.endCol }
   holding [kv,vv] (dictSet A kv vv))) _ _ s
 obtain⟨b,C,rfl,hA,N,dA⟩:=B.grown;unfold vN B1 at q;cases D:tk l O with
 |exc c O1=>rw[D] at q;exact q.elim
 |bad=>rw[D] at q;exact q.elim
 | ok x O1=>
  rw[D] at q;have f:zY X (D5 ke ve) A QH a i H j (qT []) (match xY x with
   |some k=>(tv l O1).bnd λd n=>if (b.map tW).length<1000/\(b.map tW).any (DW k)=Y1 then .ok (b.map tW++[.map [k] [d]]) n else .bad
   |none=>.bad) Q:=q
  cases P:xY x with
  |none=>rw[P] at f;exact f.elim
  | some kk=>
   rw[P] at f;refine aa (BJ V (L.out a s i H (λv g=>∃h,Ext H j g h/\oC X.K g (A::QH) h O1/\Xf X.K g (A::QH) h x v) B.inv ⟨A::QH,j,l,O,B.env,B.cells,by rw[D];exact λv H' R x c r=>⟨R,x,c,r⟩⟩)
    λu s1 ⟨v,g,I1,ru,h,W,c1,r1⟩=>?_)
   cases F:tv l O1 with
   |exc c n=>rw[F] at f;exact f.elim
   |bad=>rw[F] at f;exact f.elim
   | ok d n=>
    rw[F] at f;have G:zY X (D5 ke ve) A QH a i H j (qT []) (if (b.map tW).length<1000/\(b.map tW).any (DW kk)=Y1 then .ok (b.map tW++[.map [kk] [d]]) n else .bad) Q:=f;by_cases I:(b.map tW).length<1000/\(b.map tW).any (DW kk)=Y1
    ·rw[Kk I] at G;refine aa (bH (BJ V (M.out a s1 i g (λv J=>∃o,Ext g h J o/\oC X.K J (A::QH) o n/\Xf X.K J (A::QH) o d v) I1 ⟨A::QH,h,l,O1,B.env.ext W,c1,by rw[F];exact λv H' R x c r=>⟨R,x,c,r⟩⟩)
      λu2 s2 ⟨Y,J,I2,NO,o,x2,c2,r2⟩=>?_))
     refine aa (eR (bH ?_));have nA:A∉j:=λm=>B.cells.nh A m 'k';have S:=W.trans x2;have t:=S.keep A _ hA nA;have T:=dA.ext S;have ek:=Ly P r1;subst ek;obtain⟨z,hd,ws,w,dd⟩:=IL I2.hok t;have y:((b.map λp=>kD p.1).zip C).length=b.length:=by rw[nI,aq,<- N,Nat.min_self]
     have U:b.length<1000:=by have:=I.1;rwa [aq] at this
     have hz:ws.length<=Kw:=by rw[<- w.length];exact z
     refine wpAny_dictSet_pairs (D3 ru) dd λh' An sb=>?_;have he:∃q,h'.get? A=Xy q:=let ⟨q,_,_,hq,_⟩:=An;⟨q,hq⟩;have t7:(yR ((b.map λp=>kD p.1).zip C) (kD kk) Y).length<=Kw:=aH (VF _ _ _) (by rw[y];exact aH U 'u');have I3:=Mn (t':=s2.toks+1) I2 (by rw[t];exact fj) sb he (I8 t7 hd (w.put _ NO) An);rw[zgl _ (UI b C I.2)] at I3;refine G _ i _ o I3 (S.ea.trans (.putX (yY t))) (c2.putX (yY t)) ⟨b++[(kk,d)],C++[Y],by rw[br];rfl,?_,by simp[N],?_⟩ rfl λ_ _=>rfl
     ·rw[rZ,br,List.zip_append (by rw[aq];exact N)];rfl
     ·rw[br];exact(T.append (.cons r2 .nil)).mv (Ea.putX (yY t)).mv
    ·rw[Ko I] at G;exact G.elim
end
def Inv.swapK(I:L2.Inv X Xa σ H s)(e:H a=Xy u0)(h:(∃i,u0=.dK i) \/ ∃o i,u0=.frz o (.dK i))(r:∀o u,X.H₀ a≠Xy (.frz o u))(j:oP X.prog X.w (upd H a u1) s.heap a u1):L2.Inv X Xa σ (upd H a u1) s:=by
 have k:∀{b:ae}{d:List V},H b=Xy (.tup d)->b≠a:=λ{b d}z q=>by
  rw[q,e] at z;rcases h with⟨_,rfl⟩|⟨_,_,rfl⟩<;>cases z
 have f:∀{b:ae},H b=XV->upd H a u1 b=XV:=λ{b}z=>by rw[qi (bP (sR e z))];exact z
 refine⟨I.ok,I.os,I.bare,⟨I.base.keep,I.base.slot,λb o g n t=>f (I.base.free b o g n t),I.base.there,λb d g=>?_,λb o u g=>?_,λb v g=>?_⟩,I.loc,I.cell,f I.free,λx c g=>f (I.freeC x c g),λp y=>let ⟨g1,g2,g3⟩:=I.pin p y;⟨g1,f g2,g3⟩,λb u g=>?_,I.len,I.tk⟩
 ·have z:=I.base.tups b d g;rw[qi (k z)];exact z
 ·have n:b≠a:=λq=>r o u (q▸g);rw[qi n];exact I.base.frzs b o u g
 ·obtain⟨m,z⟩:=I.base.tbls b v g;refine⟨m,?_⟩;rw[qi (λq=>?_)];exact z;rw[q,e] at z;rcases h with⟨_,rfl⟩|⟨_,_,rfl⟩<;>cases z
 ·by_cases l:b=a
  ·subst l;rw[rZ] at g;cases g;exact j
  ·rw[qi l] at g;refine(I.hok b u g).stay (λ_ _ _ z=>z) (λA z=>?_) λA d z=>?_
   ·rw[qi (λq=>?_)];exact z;rw[q,e] at z;rcases h with⟨_,rfl⟩|⟨_,_,rfl⟩<;>cases z
   ·rw[qi (k z)];exact z
def Inv.nofrz(I:L2.Inv X Xa σ H s)(e:H a=Xy (.dK i_)):∀o u,X.H₀ a≠Xy (.frz o u):=λo u z=>by
 have:=I.base.frzs a o u z;rw[e] at this;cases this
def Inv.frzK(I:L2.Inv X Xa σ H s)(e:H a=Xy (.dK i_)):∃o,L2.Inv X Xa σ (upd H a (.frz o (.dK i_))) s:=by obtain⟨z,d,f,b,c⟩:=IL I.hok e;obtain⟨o,h,i,g,r⟩:=id c;exact⟨o,Inv.swapK I e (.inl ⟨_,rfl⟩) (Inv.nofrz I e) ⟨g,z,d,f,b,c⟩⟩
def Inv.thawK(I:L2.Inv X Xa σ H s)(e:H a=Xy (.frz o (.dK i_)))(c:∀o u,X.H₀ a≠Xy (.frz o u)):L2.Inv X Xa σ (upd H a (.dK i_)) s:=by obtain⟨z,d,f,b,g⟩:=D_ I.hok (.inr ⟨o,e⟩);exact Inv.swapK I e (.inr ⟨_,_,rfl⟩) c ⟨z,d,f,b,g⟩
def VN{K:ai}{H:Hp}{QH d:List ae}{O:Ow}{L:ae}{a:List (DK×D)}{b:List V}{o:Obj}(c:oC K H (L::QH) d O)(e:L∉QH)(h:H L=Xy (.frz o (.dK ((a.map λp=>kD p.1).zip b))))(f:a.length=b.length)(q:oD K H (L::QH) d (a.map (·.2)) b):
  Xf K H QH d (.map (EL (a.map tW)) (EM (a.map tW))) (.ref L):=by rw[Mo,Mc];exact⟨L,b,rfl,⟨o,by rw[bi];exact h⟩,e,λm=>c.nh L m 'k',by rw[aq];exact f,q.mv .unhide⟩
def y0(ext:Nat)(it0:DI)(g:Tg)(ts:List DT)(cs:List Cl)(tk tv:DE):DE:=λσ O=>(BE ext it0 g ts cs (B1 tk tv) σ O).bnd λXo O1=>.ok (.map (EL Xo) (EM Xo)) O1
section
variable{X:Cx}{Ex:Nat->Hp->Prop}
def Qd{i j f b:aT}{c:List aT}{h:List bN}{a:c8}{l:Pos}{ext:List aB}{g:Tg}{ts:List DT}{cs:List Cl}{tk tv:DE}
  (m:∀cells C s H d,PG (qY X (X.N++ext) a cells C s H d) f (g.rd X.K)/\cj (λe t=>sj (qY X (X.N++ext) a cells C s H d) qV e t) c ts/\oW (qY X (X.N++ext) a cells C s H d) h cs/\PD (qY X (X.N++ext) a cells C s H d) qV i tk/\PD (qY X (X.N++ext) a cells C s H d) qV j tv) {Z:ae->Hp->L2.St->Hp->List ae->Prop} (cells Cn s H d):
  PG (qY X (X.N++ext) a cells Cn s H d) f (g.rd X.K)/\cj (λe t=>sj (qY X (X.N++ext) a cells Cn s H d) qV e t) c ts/\oW (qY X (X.N++ext) a cells Cn s H d) h cs/\∀A QH k,(⟨f,b,c,0⟩::h:List bN)[k]?=XV->AI (qY X (X.N++ext) a cells Cn s H d) (Z A H) (D5 i j) A QH ((D5 i j).ex (⟨f,b,c,0⟩::h) a l) (⟨f,b,c,0⟩::h) (B1 tk tv) k []:=
 let ⟨h1,h2,h3,h4,h5⟩:=m cells Cn s H d
 ⟨h1,h2,h3,λ_ _ _ n=>zc4 rfl h4 h5 n⟩
def zfK(ext:List aB)(B:X.calm=YP)(D:tK X Ex tg iter it0)(E:yt X.env.scope scope (X.N++ext) (qT (⟨it0,g,ts⟩::cs)))
  (F:∀cells C s H a,PG (qY X (X.N++ext) scope cells C s H a) tg (g.rd X.K)/\cj (λe t=>sj (qY X (X.N++ext) scope cells C s H a) qV e t) ifs ts/\oW (qY X (X.N++ext) scope cells C s H a) gs cs/\PD (qY X (X.N++ext) scope cells C s H a) qV ke tk/\PD (qY X (X.N++ext) scope cells C s H a) qV ve tv)
  (G:∀x,bV iter X.env x=pure x:=by intro _;rfl):PD X Ex (.DictComp ke ve (⟨tg,iter,ifs,0⟩::gs) scope pos) (y0 ext.length it0 g ts cs tk tv):=by
 refine⟨?_⟩;rintro j s b_ H Q I ⟨f,μ,M,O,P,k,q⟩;show av _ _ (comprehension (.DictComp ke ve (⟨tg,iter,ifs,0⟩::gs) scope pos) scope X.env _ newDict Y1 (eval iter X.env)) _ _ s;unfold y0 at q;refine F1 (UA ke ve) (use:=XV) B D E (λcells R s H a _ _ _=>Qd F cells R s H a) G I P k ?_;cases h:BE ext.length it0 g ts cs (B1 tk tv) M O with
 |bad=>rw[h] at q;exact q
 |exc c' O'=>rw[h] at q;exact q
 | ok Xo O'=>
  rw[h] at q;rintro L l r v x c ⟨w,y,rfl,i,S,T⟩ s' C U V W Y Z ce pn;obtain⟨m,hn⟩:=V;have n1:L∉f:=λm=>k.ht L m v;refine⟨m,hn,λh' zw=>?_⟩;obtain⟨o,J⟩:=Inv.frzK (Inv.bare U zw W Y Z ce pn) i;have z:Ea L l r (upd l L (.frz o (.dK ((w.map λp=>kD p.1).zip y)))) r:=.putX (yY i);have A:=c.putX (o:=.frz o (.dK ((w.map λp=>kD p.1).zip y))) (yY i);have d:=x.ea.trans z;exact⟨.ref L,_,J,rfl,post.ok q ⟨d.pre,λb u g n ht=>d.kept b u g n (sR g v) ht,d.fresh,d.there,d.tab⟩ A.unhide (VN A n1 rZ S (T.mv z.mv))⟩
end
def Fx:Ow->List D->R D:=λO xs=>match xs with
 | [x]=>match r9 O x with
  | some ds=>match uY ds with
   |some ss=>if ss.Nodup/\ss.length<64 then .ok (.lst ((qB ss).map .str)) O else .bad
   |none=>.bad
  |none=>.bad
 |_=>.bad
def Td{b:l_}{a:List aB}(d:a.Perm (b.map toS))(f:b.Nodup)(g:sortedS a=YP):a=(qB b).map toS:=by
 have i:(b.map toS).Nodup:=by
  rw[List.nodup_iff_pairwise_ne] at f ⊢;rw[iC];refine f.imp λh e=>h ?_;have e:(toS _).cps=(toS _).cps:=congrArg Str.cps e;simpa using e
 have j:(a.map (·.cps.toList)).Pairwise (· < ·):=by
  cases a with
  |nil=>exact eo
  |cons p l=>exact MT p l g (d.nodup_iff.mpr i)
 have k:a.map (·.cps.toList)=qB b:=JD j (AK b) λx=>by
  rw[xg,ay];constructor
  ·rintro⟨o,m,rfl⟩;obtain⟨r,n,rfl⟩:=ay.mp (d.mem_iff.mp m);exact n
  ·intro q;exact⟨toS x,d.mem_iff.mpr (ay.mpr ⟨x,q,rfl⟩),rfl⟩
 rw[<- k,bi];refine(jz a).symm.trans (e8 λo _=>?_);obtain⟨c⟩:=o;rfl
section
variable{X:Cx}{Ex:Nat->Hp->Prop}{H:Hp}{QH μ:List ae}
def QM(K:ai):List V->Hp->VK->Prop:=λxs H Q=>∃p ss,xs=[.ref p]/\rn K H p (ss.map λcs=>V.str ⟨cs.toArray⟩)/\ss.Nodup/\ss.length<64/\∀l,H l=XV->Q (.ref l) (upd H l (.lst ((qB ss).map λcs=>V.str ⟨cs.toArray⟩)))
def zed:oN X (.builtin "sorted") (QM X.K):=by
 intro g s E H F G Q I r h;obtain⟨p,a,rfl,m,n,i,q⟩:=h;obtain⟨u,rfl,t⟩:=uO r;cases t;obtain⟨d,j,v,J⟩:=I.list m;have w:(a.map λf=>V.str ⟨f.toArray⟩)=(a.map toS).map V.str:=by rw[bi];rfl
 have x:f7 d (a.map toS):=Vp (by rw[<- w];exact j);have b:d.length=a.length:=by have:=j.length;simpa using this.symm
 refine sorted_strs v.isList x (by rw[b];exact i) λc L y k A=>?_;have e:=Td k n A;subst e;obtain⟨e,B⟩:=sortedAll_at s.heap d c;have C:H (s.heap.objs.size+1)=XV:=I.hok.fresh (dR _);refine⟨.ref _,_,I.laid (t':=s.toks) (o:=.lst ((qB a).map λf=>V.str ⟨f.toArray⟩)) (λ_ _ z=>sortedAll_old z) (dR _) ?_,rfl,q _ C⟩;have l:=JH y;rw[bi] at l;refine⟨?_,c.toList,e,l,by rw[B]⟩;have D:(qB a).length=a.length:=by have:=k.length_eq;simpa using this
 rw[aq,D];exact aH (fV i) 'u'
def zih:vA X Ex (QM X.K) Fx:=by
 intro H QH μ O n o Q c d q;unfold Fx at q;split at q
 ·rename_i x;obtain⟨v,rfl,b⟩:=uu d;split at q
  ·rename_i r e;obtain⟨p,s,rfl,f,g⟩:=vU c b e;split at q
   ·rename_i h i;obtain⟨⟨j,k⟩,q⟩:=post.ite q;have m:=FW g i;subst m;exact⟨p,h,rfl,f,j,k,λl a=>post.ok q (.laid a) (c.laid a) (Xf.newL c a (Gc _))⟩
   ·exact aj q
  ·exact aj q
 ·exact aj q
end
def x8(k:DK):List DK->List D->Option D
 |j::ks,d::ds=>if j=k then Xy d else x8 k ks ds
 |_,_=>XV
theorem TZ{K:ai}{H:Hp}{QH c:List ae}{k:DK}{d:D}:∀{a:List DK}{ds:List D}{b:List V},a.length=b.length->oD K H QH c ds b->x8 k a ds=Xy d->∃v,uq ((a.map kD).zip b) (kD k)=Xy v/\Xf K H QH c d v
 |[],_,_,_,_,h=>by unfold x8 at h;cases h
 |_::_,[],_,_,_,h=>by unfold x8 at h;cases h
 |j::a,d'::ds,[],hl,_,_=>by cases hl
 | j::a,d'::ds,v::b,hl,dd,h=>by
  obtain⟨l,m,f,g,i⟩:=(show ∃w r,v::b=w::r/\Xf K H QH c d' w/\oD K H QH c ds r from dd);cases f;unfold x8 at h;show ∃w,uq ((kD j,v)::(a.map kD).zip b) (kD k)=Xy w/\_;by_cases e:j=k
  ·rw[Kk e] at h;cases h;exact⟨v,F2 (p:=(kD j,v)) (congrArg kD e),g⟩
  ·rw[Ko e] at h;rw[Es (p:=(kD j,v)) (λz=>e (I9 z))];exact TZ (mB hl) i h
def Eb(td ty:DE):DE:=λσ O=>(td σ O).bnd λx O1=>match x with
 | .map ks ds=>(ty σ O1).bnd λy O2=>match xY y with
  | some k=>match x8 k ks ds with
   |some d=>.ok d O2
   |none=>.bad
  |none=>.bad
 |_=>.bad
section
variable{X:Cx}{Ex:Nat->Hp->Prop}{o i:aT}{pos:Pos}{td ty:DE}
def zfJ{o i:aT}{pos:Pos}{td ty:TE}(n:PE X o td)(p:PE X i ty)(q:DV i):PE X (.Subscript o i pos) (λσ H Q=>td σ H λx d=>ty σ d λy c=>∃a f k v,x=.ref a/\Rd c a (.dK f)/\y=kV k/\uq f k=Xy v/\Q v c):=by intro b s σ H Q I h;refine Mu (T := "dict") gZ.lookup q (qc (n b s σ H _ I h) λu r ⟨x,d,t,w,A⟩=>qc (p b r σ d _ t A) λK L ⟨y,c,j,B,a,f,k,v,C,e,D,l,E⟩=>?_);subst C D;obtain rfl:u=fR a:=w;obtain⟨z,M,F,g,m⟩:=D_ j.hok e;obtain⟨N,G,J⟩:=o3.some_of (v:=v) (o:=valueAt F k) (by rw[<- l];exact g.val k);exact⟨m.mapOf.typeIs,kh (D3 B) m.mapOf G ⟨v,c,j.tok _,J,E⟩⟩
def zj4(g:PD X Ex o td)(h:PD X Ex i ty)(j:DV i):PD X Ex (.Subscript o i pos) (Eb td ty):=
 sE (zfJ g.out h.out j) λl G I O J H Q m n q=>rd.go m n q λd K v L M s x t r p=>by
  cases d with
  | map ks ds=>
   refine rd.go s t p λy N w P R S u z A b=>?_;have f:=Xf.ext u r;unfold Xf at f;obtain⟨a,T,rfl,B,U,V,C,D⟩:=f;cases c:xY y with
   |none=>rw[c] at b;exact b.elim
   | some k=>
    rw[c] at b;dsimp only at b;cases e:x8 k ks ds with
    |none=>rw[e] at b;exact b.elim
    | some d=>
     rw[e] at b;obtain⟨v,E,F⟩:=TZ C D e;exact⟨a,_,kD k,v,rfl,.inr B,Ly c A,E,post.here b z F⟩
  |_=>exact aj p
end
section
variable{X:Cx}{Ex:Nat->Hp->Prop}
def zlb:bC "sum" = Xy (.builtin "sum"):=by boot_by_name
def ze5(g:X.calm=YP):oN X (.builtin "sum") (λxs H Q=>∃(p:ae)(a:List Int),xs=[.ref p]/\rn X.K H p (a.map V.int)/\Q (.int a.sum) H):=by
 intro c s v H xs w Q I r h;obtain⟨p,a,rfl,i,q⟩:=h;obtain⟨u,rfl,j⟩:=uO r;cases j;obtain⟨x,k,l,y⟩:=I.list i;have d:=Vv k;obtain⟨b,e⟩:=d.allInts.items;have m:a=b.toList.map (·.1):=by rw[<- d.numsOf,<- l5,<- e]
 have f:=l.isList;rw[e] at f;refine wT I (sum_intListG (I.ok.hd g) f λz n t' o A=>?_);have t:preSum (numAt b) b.size=a.sum:=by
  rw[preSum_eq,cP 'k',m]
 rw[t];exact⟨.int _,H,I.kept (t':=n) o,⟨_,rfl⟩,q⟩
def B8:Ow->List D->R D:=λO xs=>match xs with
 | [x]=>match r9 O x with
  | some ds=>match x9 ds with
   |some ns=>.ok (.int ns.sum) O
   |none=>.bad
  |none=>.bad
 |_=>.bad
def zlF:vA X Ex (λxs H Q=>∃(p:ae)(a:List Int),xs=[.ref p]/\rn X.K H p (a.map V.int)/\Q (.int a.sum) H) B8:=by
 intro H b j O xs k Q c d q;unfold B8 at q;split at q
 ·rename_i x;obtain⟨v,rfl,f⟩:=uu d;split at q
  ·rename_i l e;obtain⟨p,m,rfl,g,h⟩:=vU c f e;split at q
   ·rename_i a i;refine⟨p,a,rfl,?_,post.here q c sP⟩;rw[<- Mi h i];exact g
   ·exact aj q
  ·exact aj q
 ·exact aj q
end
section
variable{X:Cx}{Ex:Nat->Hp->Prop}
def zdy(_:Nx ext)(b:X.calm=YP)(c:yt X.env.scope scope (X.N++ext) (qT (⟨it0,g,ts⟩::cs)))(d:tK X Ex tg iter it0)
  (f:∀cells C s H a,PG (qY X (X.N++ext) scope cells C s H a) tg (g.rd X.K)/\cj (λe t=>sj (qY X (X.N++ext) scope cells C s H a) qV e t) ifs ts/\oW (qY X (X.N++ext) scope cells C s H a) gs cs/\PD (qY X (X.N++ext) scope cells C s H a) qV ke tk/\PD (qY X (X.N++ext) scope cells C s H a) qV ve tv)
  (h:ext.length=k:=by rfl) (i:∀x,bV iter X.env x=pure x:=by intro _;rfl):PD X Ex (.DictComp ke ve (⟨tg,iter,ifs,0⟩::gs) scope pos) (y0 k it0 g ts cs tk tv):=h▸zfK ext b d c f i
end
end DL
namespace DL
open PySem L2
open PyProof.Rows (AllBare)
structure znF(Cl:Nat->ab)(P:aP)(w:aZ)(K:ai)(mg:aB->Option ab)(base:a7)(x:aB)(k n:Nat)(Pt:ae)(F:ql):Prop where
 ex:∃f fd ps,mg x=Xy (.ref f)/\de K (.ref f)=YP/\Binds K fd ps []/\oV P w K mg base (PR P w Cl) k f fd ps (Av K (Xk Cl) n Pt F)
structure Au(K:ai)(mg:aB->Option ab)(x:aB)(st:eH)(c:ae):Prop where
 ex:∃f fd,mg x=Xy (.ref f)/\L2.Fun K x x st f fd/\fd.code=.ref c
def vq(Pt iT n:Nat)(F:ql)(t:DA):DE:=λσ O=>match σ[iT]? with
 |some (Xy (.tab p))=>if p=Pt then j_ n F t σ O else .bad
 |_=>.bad
structure K3 where
 params:iZ
 body:aT
 scope:c8
 tE:DE
def zku(X:Cx)(L:K3)(c:ae)(ct:ab):Obj:={ cls:=.type "function",data:=.func (d7 "<lambda>" (X.env.qual ++ "<lambda>") L.params L.body L.scope (sQ X.env.cells L.scope.names []) ((X.mg "__name__").getD .none) (.ref c) ct) }
def o8(X:Cx)(L:K3)(H:Hp)(a:ae):Prop:=∃c φ ct,H a=Xy (.ext λh=>h.get? a=Xy (zku X L c ct))/\H c=Xy (.ext φ)/\∀h:a7,φ h->∃q,h.CodeRec (.ref c) q
structure zpu(Cl:Nat->ab)(X:Cx)(k:Nat)(L:K3):Prop where
 ls:zga X.env.scope L.scope
 df:defaultsOf L.params X.env=([],[])
 bl:∀(name qual:aB)(cl:List (aB×ae))(pm cd ct:ab),bindArgs (d7 name qual L.params L.body L.scope cl pm cd ct) ⟨[],[]⟩=pure []
 E:∀(q:aB)(lam:ae)(cd:ab)(cl:List (aB×ae))(A:bb)(outer:List Env)(s:ag)(H:Hp)(E:XK),oM k (A.deeper (yv q L.scope s.heap.objs.size lam cd cl))->PD (cxL (PR X.prog X.w Cl) X.prog X.w X.K X.mg X.base X.N (yv q L.scope s.heap.objs.size lam cd cl) A outer s H E) (Xk Cl E) L.body L.tE
section
variable{X:Cx}{H H':Hp}
def o8.ext(h:o8 X L H a)(x:Ext H [] H' []):o8 X L H' a:=by obtain⟨c,b,d,e,f,g⟩:=h;exact⟨c,b,d,x.keep _ _ e 'k',x.keep _ _ f 'k',g⟩
end
structure K5(X:Cx)(H0:Hp)(l:ae)(ls:List K3)(as:List ae)(H:Hp):Prop where
 nl:H0 l=XV
 ea:Ea l H0 [] H []
 at_:H l=Xy (.lst (as.map V.ref))
 lam:cj (λL a=>o8 X L H a) ls as
 nd:as.Nodup
def K5.ext(b:K5 X H0 l ls as H)(a:List ae):Ext H0 a H a:=
 ⟨⟨[],by simp⟩,λc o h _ d=>b.ea.kept c o h 'k' (sR h b.nl) d,λ_ m=>.inl m,b.ea.there,b.ea.tab⟩
def K5.cells(b:K5 X H0 l ls as H)(c:oC K H0 QH μ O):oC K H QH μ O:=by refine⟨c.len,c.nd,c.nh,λa m=>b.ea.there a (c.ht a m),λk a e=>?_⟩;obtain⟨f,g,h,d,i⟩:=c.at_ k a e;exact⟨f,g,h,b.ea.kept a _ d 'k' (sR d b.nl) (by intro j z;cases z),i.ext (b.ext μ)⟩
def oE.take(e:oE K H QH μ σ b_)(n:Nat):oE K H QH μ (σ.take n) (b_.take n):=
 ⟨by simp[e.len],λi d h=>by
  rw[jB] at h;split at h
  ·rename_i a;obtain⟨v,b,c⟩:=e.at_ i d h;exact⟨v,by rw[jB,Kk a];exact b,c⟩
  ·cases h⟩
def oE.drop(e:oE K H QH μ σ b_)(i:Nat):oE K H QH μ (σ.set i XV) b_:=
 ⟨by simp[e.len],λj d h=>by
  by_cases a:i=j
  ·subst a;by_cases b:i<σ.length
   ·rw[bE b] at h;cases h
   ·rw[a9.mpr (by simp;lia)] at h;cases h
  ·rw[bu a] at h;exact e.at_ j d h⟩
section
end
def o8.mono(h:o8 X L H a)(k:∀b d,H b=Xy (.ext d)->H' b=Xy (.ext d)):o8 X L H' a:=by obtain⟨c,d,e,f,g,i⟩:=h;exact⟨c,d,e,k _ _ f,k _ _ g,i⟩
end DL
namespace DL
open PySem L2 PySem.Spec PyProof.Rows
open Sem (wp)
theorem Cu{α:Type}(l:List α):∀k:Nat,(aU k l).flatten.length=k*l.length
 |0=>by simp
 |k+1=>by rw[List.replicate_succ,iB,au,Cu l k,mC,ki]
end DL
namespace DL
open PySem L2 PySem.Spec PyProof.Rows
open Sem (wp)
open AutoSeq1 (wpAny_loadPart')
end DL
namespace DL
open PySem L2 PySem.Spec PyProof.Rows
section
end
end DL
namespace DL
open PySem L2
section
variable{Ex:Nat->Hp->Prop}
def oH.seq(q:oH Ex K H QH μ (o_ t u σ O) E):oH Ex K H QH μ (t σ O) { E with nx:=λf H'=>NQ Ex K u E f H' }:=by
 unfold o_ at q;cases e:t σ O with
 | nx σ' O'=>
  rw[e] at q;exact λi H' g h a b=>⟨QH,g,σ',O',a,b,q.ext h⟩
 |rt d O'=>rw[e] at q;exact q
 |bk σ' O'=>rw[e] at q;exact q
 |ct σ' O'=>rw[e] at q;exact q
 |exc c O'=>rw[e] at q;exact q
 |bad=>rw[e] at q;exact q
end
end DL
namespace DL
open PySem L2 PySem.Spec PyProof.Rows
noncomputable def D2:List ab->List Int->Bool
 |[],[]=>YP
 |.int i _::vs,k::ks=>i==k&&D2 vs ks
 |_,_=>Y1
def Lh(o:Obj)(ks:List Int):Bool:=(match o.cls with|.type n=>n == "tuple"|_=>Y1)&&o.dict.isNone&&(match o.data with|.seq d_ _=>D2 d_.toList ks&&decide (d_.size<=1000)|_=>Y1)
structure K7(K:ai)(mg:aB->Option ab)(x:aB)(ks:List Int):Prop where
 ex:∃e o,mg x=Xy (.ref e)/\K.lookup e=Xy o/\Lh o ks=YP
theorem VA:∀{a:List ab}{b:List Int},D2 a b=YP->oF (b.map V.int) a
 |[],[],_=>.nil
 | .int i t::a,k::b,h=>by
  have h:(i==k&&D2 a b)=YP:=h;rw[aY] at h;have e:i=k:=⇑h.1
  subst e;exact .cons ⟨_,rfl⟩ (VA h.2)
 |[],_::_,h=>by cases h
 |v::_,[],h=>by cases v<;>cases h
theorem Vx{K:ai}{H:Hp}{QH b:List ae}:∀a:List Int,oD K H QH b (a.map D.int) (a.map V.int)
 |[]=>.nil
 |_::a=>.cons sP (Vx a)
section
variable{X:Cx}{Ex:Nat->Hp->Prop}{pos:Pos}
def zhq(h:K7 X.K X.mg x ks)(k:Gl X x:=by rfl)(c:s9 x:=by decide):PD X Ex (.Name x pos) (dC (.tup (ks.map .int))):=by
 obtain⟨e,o,l,i,f⟩:=h.ex;unfold Lh at f;rw[aY,aY] at f;obtain⟨⟨d,m⟩,b⟩:=f;obtain⟨a,n,p,r,s⟩:∃a n,o.data=.seq a n/\D2 a.toList ks=YP/\a.size<=1000:=by
  cases c:o.data with
  | seq a n=>
   rw[c] at b;have b:(D2 a.toList ks&&decide (a.size<=1000))=YP:=b;rw[aY] at b;exact⟨a,n,rfl,b.1,by simpa using b.2⟩
  |_=>rw[c] at b;cases b
 have t:o.cls=.type "tuple":=by
  cases j:o.cls with
  | type n=>
   rw[j] at d;have:n = "tuple":=⇑d
   rw[this]
  |_=>rw[j] at d;cases d
 have g:o.dict=XV:=⇑m
 refine sE (Jh (v:=.ref e) k l rfl c) λu y z O A H Q B w q=>post.here q w ?_;unfold Xf;exact⟨e,ks.map V.int,rfl,.inr ⟨⟨o,a,n,i,t,p,aH s 'u',VA r⟩,o,i,g⟩,Vx ks⟩
end
end DL
namespace DL
open PySem L2 PyProof.Rows
def Ay:List D->Option (List l_)
 |[]=>Xy []
 | .tup ds::r=>match uY ds,Ay r with
  |some ks,Xy t=>Xy (ks::t)
  |_,_=>XV
 |_::_=>XV
def D0(x:l_):List l_->List l_
 |[]=>[x]
 |y::l=>if y<x then y::D0 x l else x::y::l
def B9(l:List l_):List l_:=l.foldr D0 []
def toT(ks:l_):D:=.tup (ks.map .str)
def Fq:Ow->List D->R D:=λO xs=>match xs with
 | [x]=>match r9 O x with
  | some ds=>match Ay ds with
   |some rV=>if (2<=rV.length->(rV.all λks=>!ks.isEmpty)=YP)/\rV.length<=4000000 then .ok (.lst ((B9 rV).map toT)) O else .bad
   |none=>.bad
  |none=>.bad
 |_=>.bad
abbrev yq(a b:l_):Prop:=¬ b<a
def yq.trans{a b c:l_}(g:yq a b)(d:yq b c):yq a c:=λh=>by
 by_cases e:b<a
 ·exact g e
 ·by_cases f:a<b
  ·exact d (TS.llt_trans h f)
  ·rw[TS.llt_total f e] at h;exact d h
theorem M0(x:l_):∀l,(D0 x l).Perm (x::l)
 |[]=>d9 _
 | y::l=>by
  unfold D0;split
  ·exact((M0 x l).cons y).trans (nZ x y l)
  ·exact d9 _
theorem MS:∀l,(B9 l).Perm l
 |[]=>d9 _
 |x::l=>(M0 x (B9 l)).trans ((MS l).cons x)
theorem Us(x:l_):∀l,l.Pairwise yq->(D0 x l).Pairwise yq
 |[],_=>kB _ _
 | y::l,h=>by
  unfold D0;have a:=bR.mp h;split
  ·rename_i c;refine bR.mpr ⟨λz hz=>?_,Us x l a.2⟩;rcases aw.mp ((M0 x l).mem_iff.mp hz) with rfl|hz
   ·exact λd=>TS.llt_irrefl _ (TS.llt_trans d c)
   ·exact a.1 z hz
  ·rename_i b;refine bR.mpr ⟨λz hz=>?_,h⟩;rcases aw.mp hz with rfl|hz
   ·exact b
   ·exact yq.trans b (a.1 z hz)
theorem Uy:∀l,(B9 l).Pairwise yq
 |[]=>eo
 |x::l=>Us x _ (Uy l)
theorem U0:∀{a b:List l_},a.Pairwise yq->b.Pairwise yq->a.Perm b->a=b
 |[],b,_,_,p=>p.nil_eq
 |x::a,[],_,_,p=>absurd p.symm.nil_eq 'k'
 | x::a,y::b,ha,hb,p=>by
  have c:=bR.mp ha;have d:=bR.mp hb;have e:x=y:=by
   have f:yq y x:=by
    rcases aw.mp (p.mem_iff.mp ar) with h|h
    ·rw[h];exact TS.llt_irrefl _
    ·exact d.1 x h
   have g:yq x y:=by
    rcases aw.mp (p.mem_iff.mpr ar) with h|h
    ·rw[h];exact TS.llt_irrefl _
    ·exact c.1 y h
   exact TS.llt_total f g
  subst e;rw[U0 c.2 d.2 (List.Perm.cons_inv p)]
def Bp{α:Type}(R:V->α->Prop):List V->List α->Prop
 |[],[]=>True
 |v::vs,k::ks=>R v k/\Bp R vs ks
 |_,_=>False
def P6(K:ai)(H:Hp)(v:V)(ks:l_):Prop:=∃t,v=.ref t/\sC K H t (ks.map λcs=>V.str ⟨cs.toArray⟩)
def vT:ab->V
 |.ref t=>.ref t
 |_=>.non
theorem MV:∀{a:l_}{b:List ab},oF (a.map λcs=>V.str ⟨cs.toArray⟩) b->TS.allS b=Xy a
 |[],_,.nil=>rfl
 | k::a,u::us,.cons r h=>by
  obtain⟨c,rfl⟩:=r;unfold TS.allS;rw[MV h];rfl
section
variable{X:Cx}{Ex:Nat->Hp->Prop}{H:Hp}{QH μ:List ae}
def QW(K:ai):List V->Hp->VK->Prop:=λxs H Q=>∃p vs rV,∃R:V->l_->Prop,xs=[.ref p]/\rn K H p vs/\Bp R vs rV/\(∀v k,R v k->P6 K H v k/\(2<=vs.length->k≠[]))/\vs.length<=4000000/\∀l sG AZ,Bp R sG AZ->AZ.Perm rV->AZ.Pairwise yq->H l=XV->Q (.ref l) (upd H l (.lst sG))
theorem SN{b:List (ae×Obj)}{σ:L2.St}{s:ag}(I:L2.Inv X b σ H s){R:V->l_->Prop}{B:Prop}(f:∀v k,R v k->P6 X.K H v k/\(B->k≠[])):∀{c:List V}{d:List l_}{a:List ab},Bp R c d->oF c a->a.map (TS.keyT s.heap)=d/\∀u∈a,R (vT u) (TS.keyT s.heap u)/\RelV (vT u) u/\∃i,TS.TupS s.heap u i/\(B->i≠[])
 |[],[],_,_,.nil=>⟨rfl,λ_ h=>by cases h⟩
 |[],_::_,_,h,_=>h.elim
 |v::c,[],_,h,_=>h.elim
 | v::c,k::d,u::us,⟨h1,h2⟩,.cons r hv=>by
  obtain⟨e,p⟩:=SN I f h2 hv;obtain⟨⟨t,rfl,q⟩,w⟩:=f v k h1;cases r;obtain⟨a,j,⟨o,g,x,n,l⟩,_⟩:=I.tuple q;have y:TS.TupS s.heap (.ref t) k:=⟨t,o,a.toArray,n,rfl,g,x,l,by simpa using MV j⟩;have m:TS.keyT s.heap (.ref t)=k:=by
   show((match s.heap.get? t with|some o=>(match o.data with|.seq a _=>TS.allS a.toList|_=>XV)|none=>XV):Option _).getD []=_;rw[g];dsimp only;rw[l];dsimp only;rw[show TS.allS a.toArray.toList=Xy k from by simpa using MV j];rfl
  refine⟨by rw[bB,m,e],λu hu=>?_⟩;rcases aw.mp hu with rfl|hu
  ·exact⟨by rw[m];exact h1,rfl,k,y,w⟩
  ·exact p u hu
theorem Um{R:V->l_->Prop}{f:ab->l_}:∀{l:List ab},(∀u∈l,R (vT u) (f u))->Bp R (l.map vT) (l.map f)
 |[],_=>trivial
 |u::l,h=>⟨h u ar,Um λv a=>h v (ak _ a)⟩
theorem UC:∀{l:List ab},(∀u∈l,RelV (vT u) u)->oF (l.map vT) l
 |[],_=>.nil
 |u::l,h=>.cons (h u ar) (UC λv a=>h v (ak _ a))
def zbT:oN X (.builtin "sorted") (QW X.K):=by intro f s C H D E Q I r h;obtain⟨p,F,G,R,rfl,k,l,m,n,q⟩:=h;obtain⟨u,rfl,o⟩:=uO r;cases o;obtain⟨g,i,t,J⟩:=I.list k;obtain⟨w,c⟩:=SN I m l i;have b:=i.length.symm;refine TS.sorted_tups t.isList (λv x=>let ⟨ks,k1,k2⟩:=(c v x).2.2;⟨ks,k1,λz=>k2 'd'⟩) 'd' λa d y=>?_;obtain⟨e,A⟩:=sortedAll_at s.heap g a;have B:=I.hok.fresh (dR _);have j:∀u∈a.toList,u∈g:=λu h=>d.mem_iff.mp h;refine⟨.ref _,_,I.laid (λ_ _ z=>sortedAll_old z) (dR _) ?_,rfl,q _ _ _ (Um λu h=>(c u (j u h)).1) (by rw[<- w];exact d.map _) (iC.mpr y) B⟩;refine⟨?_,a.toList,e,UC λu h=>(c u (j u h)).2.1,by rw[A]⟩;rw[aq,d.length_eq,b];exact aH n 'u'
theorem Tp:∀{ds:List D}{a:l_},uY ds=Xy a->ds=a.map D.str
 |[],a,h=>by cases h;rfl
 | d::ds,a,h=>by
  cases d with
  | str cs=>
   unfold uY at h;cases e:uY ds with
   |none=>rw[e] at h;cases h
   |some r=>rw[e] at h;cases h;rw[Tp e];rfl
  |_=>cases h
theorem Uo:∀{ds:List D}{a:List l_},Ay ds=Xy a->ds.length=a.length
 |[],a,h=>by cases h;rfl
 | d::ds,a,h=>by
  cases d with
  | tup xs=>
   unfold Ay at h;split at h
   ·rename_i c t e b;cases h;rw[aW,aW,Uo b]
   ·cases h
  |_=>cases h
theorem SH{K:ai}{B:Prop}:∀{ds:List D}{b:List V}{a:List l_},oD K H QH μ ds b->Ay ds=Xy a->(∀k∈a,B->k≠[])->Bp (λv k=>Xf K H QH μ (toT k) v/\(B->k≠[])) b a
 | [],b,a,h,e,_=>by
  cases e;subst h;trivial
 | d::ds,b,a,h,e,q_=>by
  obtain⟨v,r,rfl,c,f⟩:=h;cases d with
  | tup xs=>
   unfold Ay at e;split at e
   ·rename_i g t i j;cases e;refine⟨⟨?_,q_ g ar⟩,SH f j λk l=>q_ k (ak _ l)⟩;have:=Tp i;unfold toT;rw[<- this];exact c
   ·cases e
  |_=>cases e
theorem Tx{α:Type}{R:V->α->Prop}:∀{a:List V}{b:List α},Bp R a b->a.length=b.length
 |[],[],_=>rfl
 |[],_::_,h=>h.elim
 |_::_,[],h=>h.elim
 |_::_,_::_,h=>by rw[aW,aW,Tx h.2]
theorem Vd{K:ai}{B:Prop}:∀{a:List V}{b:List l_},Bp (λv k=>Xf K H QH μ (toT k) v/\(B->k≠[])) a b->oD K H QH μ (b.map toT) a
 |[],[],_=>by unfold oD;rfl
 |[],_::_,h=>h.elim
 |v::a,[],h=>h.elim
 | v::a,k::b,h=>by
  exact⟨v,a,rfl,h.1.1,Vd h.2⟩
def zjD:vA X Ex (QW X.K) Fq:=by
 intro H QH μ O C D Q c d q;unfold Fq at q;split at q
 ·rename_i x;obtain⟨v,rfl,o⟩:=uu d;split at q
  ·rename_i E e;obtain⟨p,f,rfl,r,g⟩:=vU c o e;split at q
   ·rename_i a h;obtain⟨⟨s,i⟩,q⟩:=post.ite q;have b:f.length=a.length:=by rw[<- g.length,Uo h]
    have u:∀k∈a,2<=f.length->k≠[]:=λk w i e=>by
     have:=al.mp (s 'd') k w;rw[e] at this;cases this
    have j:=SH g h u;refine⟨p,f,a,_,rfl,r,j,λv k m=>⟨?_,m.2⟩,?_,λl F G y z A b=>?_⟩
    ·obtain⟨t,I,rfl,n,B⟩:=Co m.1 rfl;have:=FW B (strL_map k);rw[this] at n;exact⟨t,rfl,n⟩
    ·rw[Tx j];exact i
    ·have e:=U0 A (Uy a) (z.trans (MS a).symm);subst e;exact post.ok q (.laid b) (c.laid b) (Xf.newL c b (Vd y))
   ·exact aj q
  ·exact aj q
 ·exact aj q
end
end DL
namespace DL
open PySem L2
open PyProof.Rows (AllBare)
section
variable{prog:aP}{w:aZ}{A:bb}{s:ag}{R:Result->ag->Prop}
def zeF(g:A.depth<recursionLimit)
  (i:s.heap.get? lam=Xy { cls:=.type "function",data:=.func (d7 name qual params body scope cl pm cd ct) }) (j:s.heap.CodeRec cd q) (k:scope.isCoroutine=Y1) (l:scope.isGenerator=Y1) (m:scope.kind=.function) (n:∀x∈scope.names,x.2 ≠ .cell) (p:scope.names.lookup x=Xy .local)
  (r:bindArgs (d7 name qual params body scope cl pm cd ct) ⟨[u],[]⟩=pure [(x,u)]) (t:s.heap.NoLimit)
  (h:∀h' tk,0<tk->h'.Ns s.heap.objs.size (λy=>[(x,u)].lookup y)->(∀b o,s.heap.get? b=Xy o->h'.get? b=Xy o)->
   av (az prog w) (A.deeper (yv q scope s.heap.objs.size lam cd cl)) (eval body (yv q scope s.heap.objs.size lam cd cl)) (λv B=>R (.ok (.ret v)) B) (λ_ _=>False) { s with heap:=h',toks:=tk }):
  codeAny (az prog w) A (.call (.ref lam) ⟨[u],[]⟩) R s:=by
 refine i7 ?_;show av _ A.in1 (callAny (.ref lam) ⟨[u],[]⟩) _ _ s;refine aa (wpAny_load i ?_);obtain⟨c,I,J,K,C,D,a,E⟩:=j;subst C;simp only[callFunction,k,l];refine aa (cb D a E (aa (ah ?_)));rw[r];refine aa (ah (aa (wpAny_newFunctionEnv n (λy F=>?_) (λd G H=>?_) m)))
 ·have e:y=(x,u):=⇑F
  rw[e];exact p
 have f:∀b o,s.heap.get? b=Xy o->d.get? b=Xy o:=λb o e=>H.extBut b o (bq (aN e)) (af _ e);refine aa (wpAny_enterFrame (t.keeps f) g (ah ⟨rfl,?_⟩));exact PySem.W.kla_codeExpr (cB (h d _ (cS _) G f) (λ_ _ z=>z) λ_ _ z=>z.elim)
end
noncomputable def HL(P:aP)(w:aZ)(K:ai)(mg:aB->Option ab)(base:a7)(N:List aB)(env:Env)(A:bb)(outer:List Env)(s:ag)(H:Hp):Cx where
 prog:=P
 w:=w
 K:=K
 mg:=mg
 base:=base
 A:=A.deeper env
 N:=N
 s₀:=s
 H₀:=H
 env:=env
 outer:=outer
 stack:=env::outer
 ex:=[]
 calm:=YP
 fn:=λ_=>Y1
 pn:=[]
 xe:=λ_ _=>False
structure Q4(out sc:c8)(x:aB):Prop where
 kind:sc.kind=.function
 co:sc.isCoroutine=Y1
 gen:sc.isGenerator=Y1
 nd:(sc.names.map (·.1)).Nodup
 cell:∀y∈sc.names,y.2 ≠ .cell
 one:sc.names.lookup x=Xy .local
 loc:∀y∈sc.names,y.2=.local->y.1=x
 frees:∀y∈sc.names,y.2=.free->out.names.lookup y.1=Xy .cell\/out.names.lookup y.1=Xy .free
section
variable{P:aP}{w:aZ}{K:ai}{mg:aB->Option ab}{base:a7}{N:List aB}{A:bb}{outer:List Env}{s:ag}{H:Hp}{q x:aB}{scope:c8}{lam:ae}{cd:ab}{cl:List (aB×ae)}{σ:St}{h':a7}{tk:Nat}{v:V}{u:ab}
def zfe(f:o9 P w K mg base A outer s H)(D:A.handled=XV)(E:scope.kind=.function)(B:∀y,vK scope y->scope.names.lookup y=Xy .free\/y=x)(C:scope.names.lookup x=Xy .local)(F:x∉N)
  (cells:∀x c,cl.lookup x=Xy c->(∃v,s.heap.IsCell c v)/\H c=XV) (inj:∀x y c,cl.lookup x=Xy c->cl.lookup y=Xy c->x=y) (k:∀x,scope.names.lookup x=Xy .free->∃c,cl.lookup x=Xy c)
  (h:∀(i:Nat)x v,N[i]?=Xy x->σ[i]?=Xy (Xy v)->scope.names.lookup x=Xy .free->∃u c,RelV v u/\cl.lookup x=Xy c/\s.heap.IsCell c (Xy u)) (l:σ.length=N.length) (G:RelV v u)
  (I:h'.Ns s.heap.objs.size (λy=>[(x,u)].lookup y)) (m:∀b o,s.heap.get? b=Xy o->h'.get? b=Xy o) (J:0<tk):
  L2.Inv (HL P w K mg base (N++[x]) (yv q scope s.heap.objs.size lam cd cl) A outer s H) [] (σ++[Xy v]) H { s with heap:=h',toks:=tk }:=by
 have a:∀{c:ae}{v:Option ab},s.heap.IsCell c v->h'.IsCell c v:=λ{c v}⟨o,ho,r⟩=>⟨o,m c o ho,r⟩;have n:∀b:ae,b∉(HL P w K mg base (N++[x]) (yv q scope s.heap.objs.size lam cd cl) A outer s H).ex:=λb z=>absurd (show b∈([]:List ae) from z) 'k';refine⟨⟨f.mod,E,rfl,rfl,aE _,inj,λy L=>?_,λy c z _=>absurd (show Y1=YP from z) 'u',λ_=>D,lG f.frames,.inr ⟨rfl,rfl⟩,λb z=>absurd z (n b),f.bs,f.bsz,λb _ _=>n b,λb z=>absurd z (n b),f.funs,f.frf⟩,
  rfl,f.bare,Un.kept m,⟨_,I,λi y M d j O=>?_⟩,λy c g=>?_,f.hok.fresh (aE _),λy c g=>(cells y c g).2,λp Q=>absurd (show p∈([]:List (ae×Obj)) from Q) 'k',f.hok.kept m,by show(σ++[Xy v]).length=(N++[x]).length;simp[l],J⟩
 ·have t:scope.names.lookup y=Xy .cell\/scope.names.lookup y=Xy .free:=L;rcases B y (t.elim (λz=>.inr (.inl z)) λz=>.inr (.inr z)) with z|z
  ·exact k y z
  ·rw[z,C] at t;rcases t with z|z<;>cases z
 ·have d:(N++[x])[i]?=Xy y:=d;by_cases R:i<N.length
  ·rw[aK R] at d;rw[aK 'd'] at j;rcases B y O with z|z
   ·obtain⟨u,c,r,S,T⟩:=h i y M d j z;exact⟨u,r,.inr ⟨.inr z,c,S,a T⟩⟩
   ·rw[z] at d;exact absurd (aF d) F
  ·rw[aS 'd'] at d j;have e:i-N.length=0:=by
    have:=(ao.mp d).1;simp at this;lia
   rw[e] at d;rw[show i-σ.length=0 by lia] at j;cases d;cases j;exact⟨u,G,.inl ⟨C,by simp[fh]⟩⟩
 ·obtain⟨⟨v,z⟩,_⟩:=cells y c g;exact⟨v,a z⟩
def zlL(d:oM (k+1) A)(f:o9 P w K mg base A outer s H)
  (m:s.heap.get? lam=Xy { cls:=.type "function",data:=.func (d7 name qual params body scope cl pm cd ct) }) (n:s.heap.CodeRec cd q) (p:scope.isCoroutine=Y1) (r:scope.isGenerator=Y1) (j:scope.kind=.function) (B:∀x∈scope.names,x.2 ≠ .cell)
  (C:bindArgs (d7 name qual params body scope cl pm cd ct) ⟨[u],[]⟩=pure [(x,u)]) (D:∀y,vK scope y->scope.names.lookup y=Xy .free\/y=x) (l:scope.names.lookup x=Xy .local) (E:x∉N)
  (cells:∀x c,cl.lookup x=Xy c->(∃v,s.heap.IsCell c v)/\H c=XV) (inj:∀x y c,cl.lookup x=Xy c->cl.lookup y=Xy c->x=y) (g:∀x,scope.names.lookup x=Xy .free->∃c,cl.lookup x=Xy c)
  (a:∀(i:Nat)x v,N[i]?=Xy x->σ[i]?=Xy (Xy v)->scope.names.lookup x=Xy .free->∃u c,RelV v u/\cl.lookup x=Xy c/\s.heap.IsCell c (Xy u)) (h:σ.length=N.length) (F:RelV v u)
  (G:oM k (A.deeper (yv q scope s.heap.objs.size lam cd cl))->PD (HL P w K mg base (N++[x]) (yv q scope s.heap.objs.size lam cd cl) A outer s H) qV body t)
  (I:oE K H QH μ PV (σ++[Xy v])) (L:oC K H QH μ O) (M:rM qV K H QH μ (t PV O) Q):codeAny (az P w) A (.call (.ref lam) ⟨[u],[]⟩) (CR yN outer P w H s Q E0) s:=by refine zeF d.depth m n p r j B l C (f.mod.nolimit.keeps λb o e=>(f.bs b o e).1) λh' tk R S T=>?_;refine cB ((G (d.deeper _)).out [] _ (σ++[Xy v]) H Q (zfe f d.hd j D l E cells inj g a h F S T R) ⟨QH,μ,PV,O,I,L,M⟩) (λv U ⟨W,X,J,Y,z⟩=>?_) λe U z=>z;exact⟨⟨W,X,J.os,J.bare,J.base,J.hok,Y,z⟩,J.tk⟩
end
end DL
namespace DL
open PySem L2 PyProof.Rows
def minGo(tE:DE)(σ:Sg):List D->D->Int->Ow->R D
 |[],b,_,O=>.ok b O
 | x::xs,b,k,O=>match tE (σ++[Xy x]) O with
  |.ok (.int j) O1=>if j<k then minGo tE σ xs x j O1 else minGo tE σ xs b k O1
  |_=>.bad
def DQ(tE:DE)(σ:Sg)(O:Ow):List D->R D
 |[]=>.bad
 | x::xs=>match tE (σ++[Xy x]) O with
  |.ok (.int j) O1=>minGo tE σ xs x j O1
  |_=>.bad
def D9(Pt iT:Nat)(te tE:DE):DE:=λσ O=>match σ[iT]? with
 | some (Xy (.tab p))=>if p=Pt then (te σ O).bnd λx O1=>match x with
  |.lst ds=>DQ tE σ O1 ds
  |_=>.bad else .bad
 |_=>.bad
def oE.snoc{K:ai}{H:Hp}{QH a:List ae}{σ:Sg}{b:L2.St}{d:D}{v:V}(e:oE K H QH a σ b)(q:Xf K H QH a d v):oE K H QH a (σ++[Xy d]) (b++[Xy v]):=by
 refine⟨by simp[e.len],λi x h=>?_⟩;have k:=e.len;by_cases c:i<σ.length
 ·rw[aK c] at h;obtain⟨w,f,g⟩:=e.at_ i x h;exact⟨w,by rw[aK 'd'];exact f,g⟩
 ·rw[aS 'd'] at h;have j:i-σ.length=0:=by
   have:=(ao.mp h).1;simp at this;lia
  rw[j] at h;cases h;exact⟨v,by rw[aS 'd',show i-b.length=0 by lia];rfl,q⟩
section
variable{X:Cx}{Ex:Nat->Hp->Prop}{QH:List ae}{σ:Sg}{b_:L2.St}{tE:DE}{lam cc:ae}{lo:Obj}
def Ln(X:Cx)(lam:ae)(lo:Obj)(cc:ae)(QH:List ae)(σ:Sg)(b_:L2.St)(tE:DE):Prop:=
 ∀(Xa:List (ae×Obj))(s:ag)(H:Hp)(μ:List ae)(O:Ow)(d:D)(v:V)(u:ab)(Q:VK),L2.Inv X Xa b_ H s->(lam,lo)∈Xa->(∃φ,H cc=Xy (.ext φ)/\∀h:a7,φ h->∃q,h.CodeRec (.ref cc) q)->oE X.K H QH μ σ b_->oC X.K H QH μ O->Xf X.K H QH μ d v->RelV v u->
  rM qV X.K H QH μ (tE (σ++[Xy d]) O) Q->av (az X.prog X.w) X.A.in1 (call (.ref lam) [u]) (EP X Xa b_ Q) (λ_ _=>False) s
def X7{K:ai}{H:Hp}{e:List ae}{d:D}{O:Ow}:rM qV K H QH e (.ok d O) (λv a=>∃b,Ext H e a b/\oC K a QH b O/\Xf K a QH b d v):=λv g f x c r=>⟨f,x,c,r⟩
def Uj{K:ai}{H H':Hp}{a f:List ae}{O:Ow}(c:oC K H QH a O)(x:Ext H a H' f){b:a7->Prop}(h:H cc=Xy (.ext b)):H' cc=Xy (.ext b):=by refine x.kept cc _ h (λm=>?_) (by intro i z;cases z);obtain⟨k,g,e⟩:=dM.mp m;obtain⟨j,l,_,d,_⟩:=c.at_ k cc (by rw[am g,e]);rw[h] at d;cases d
variable{l:ae}{vs:List V}{ds:List D}{Q:VK}{Xa:List (ae×Obj)}{E:ab->ag->Prop}
def T_{a S:ae}{i oI:Obj}{j:Nat}{s:ag}{H:Hp}{c:List ae}{O:Ow}{d:D}{R:ab->ab->ag->Prop}(pW:X.calm=YP)(hK:Ln X lam lo cc QH σ b_ tE)
  (I:L2.Inv X ((S,i)::(a,oI)::(lam,lo)::Xa) b_ H s) (B0:tF X ((S,i)::(lam,lo)::Xa) H a) (hl:l≠a) (k:s.heap.IsListIter a l j) (la:LstAt X.K H QH c l vs) (G:oD X.K H QH c ds vs) (ev:oE X.K H QH c σ b_) (cl:oC X.K H QH c O) (ux:∃J,H cc=Xy (.ext J)/\∀h:a7,J h->∃q,h.CodeRec (.ref cc) q)
  (L:ds[j]?=Xy d) {m:Int} {O1:Ow} (hE:tE (σ++[Xy d]) O=.ok (.int m) O1)
  (h:∀(v:ab)(tk:Tok)(f:Obj)(n:ag)(H':Hp)(t:List ae)(x:V),L2.Inv X ((S,i)::(a,f)::(lam,lo)::Xa) b_ H' n->n.heap.IsListIter a l (j+1)->Ext H c H' t->oC X.K H' QH t O1->RelV x v->Xf X.K H' QH t d x->R v (.int m tk) n) {E2:ab->ag->Prop}:
  av (az X.prog X.w) X.A.in1 (pyNext (.ref a)) (λo s1=>∃v,o=Xy v/\av (az X.prog X.w) X.A.in1 (call (.ref lam) [v]) (λr y=>R v r y) (λ_ _=>False) s1) E2 s:=by
 obtain⟨g,M,pl,hz⟩:=I.list la.sq;have W:=j6 (prog:=X.prog) (w:=X.w) (A:=X.A.in1) (I.ok.hd pW) a l hl g.toArray;have N:ds.length=g.length:=by rw[G.length,M.length]
 have hj:j<g.length:=by have:=(ao.mp L).1;lia
 refine wT I (W.item j _ _ _ ⇑hj ⟨k,pl.isList⟩ λv h' P hP Ot uj rB=>?_);have hv:g[j]?=Xy v:=⇑hP
 obtain⟨T,U,f2,f3,f4,f5⟩:=B0;have I0:=I.pins_of λp hp=>I.pin p (aC _ (by
  rcases aw.mp hp with rfl|hp
  ·exact .head _
  ·exact .tail _ (.tail _ hp)))
 have B:=I0.turned (t':=P) (it:=a) (λb o hb e=>uj b o ⇑hb e) T U f3 f4 f5;obtain⟨f,OG,ER,Y⟩:=id Ot.1;have I2:L2.Inv X ((S,i)::(a,f)::(lam,lo)::Xa) b_ H { s with heap:=h',toks:=P }:=B.pins_of λp hp=>by
  rcases aw.mp hp with rfl|hp
  ·exact B.pin _ (aC _ (.head _))
  ·rcases aw.mp hp with rfl|hp
   ·exact⟨OG,T,U,f2,λv z=>by rw[Y] at z;cases z⟩
   ·exact B.pin p (aC _ (.tail _ hp))
 obtain⟨x,hx,Z⟩:=G.get L;obtain⟨u,hu,ru⟩:∃u,g[j]?=Xy u/\RelV x u:=M.get hx;rw[hv] at hu;cases hu;refine⟨v,rfl,cB (hK _ _ H c O d x v (λv C=>∃F,Ext H c C F/\oC X.K C QH F O1/\Xf X.K C QH F (.int m) v) I2 (.tail _ (.tail _ (.head _))) ux ev cl Z ru (by rw[hE];exact X7)) (λr y ⟨v2,H2,I3,r2,qe,x2,c2,d2⟩=>?_) λ_ _ z=>z⟩;subst d2;obtain⟨t2,rfl⟩:=r2;exact h v t2 f y H2 qe x I3 ⟨f,(I3.pin (a,f) (aC _ (.tail _ (.head _)))).1,ER,Y⟩ x2 c2 ru (Z.ext x2)
def Zc{a S:ae}(pW:X.calm=YP)(hK:Ln X lam lo cc QH σ b_ tE)(hl:l≠a)(Be:S≠a){s0:ag}:
  ∀(r j:Nat)(s:ag)(H:Hp)(n:List ae)(O:Ow)(b:D)(L:V)(g:ab)(f:Int)(k:Tok)(c:Nat)(oI:Obj),ds.length-j=r->j<=ds.length->
   L2.Inv X ((S,seqObj "list" #[g,.int f k] c)::(a,oI)::(lam,lo)::Xa) b_ H s->tF X ((lam,lo)::Xa) H a->tF X ((lam,lo)::Xa) H S->s.heap.IsListIter a l j->LstAt X.K H QH n l vs->oD X.K H QH n ds vs->oE X.K H QH n σ b_->oC X.K H QH n O->(∃F,H cc=Xy (.ext F)/\∀h:a7,F h->∃q,h.CodeRec (.ref cc) q)->
   RelV L g->Xf X.K H QH n b L->rM Ex X.K H QH n (minGo tE σ (ds.drop j) b f O) Q->
   codeAny (az X.prog X.w) X.A (.builtin "min.loop" ⟨[.ref a,.ref lam,.ref S],[]⟩) (λr U=>match r with|.ok (.ret u)=>EP X Xa b_ Q u U|_=>False) s:=by
 have BY:(toString "min" ++ toString ".loop":String) = "min.loop":=by decide
 intro r
 induction r with
 | zero=>
  intro j s H n O b L g f k c oI hr hj I m fS G la dd ev cl ux rb db q;have hjl:j=ds.length:=by lia
  have nS:=I.pin (S,seqObj "list" #[g,.int f k] c) (aC _ (.head _));obtain⟨d_,rv,pl,hz⟩:=I.list la.sq;have W:=j6 (prog:=X.prog) (w:=X.w) (A:=X.A.in1) (I.ok.hd pW) a l hl d_.toArray;have hlen:ds.length=d_.length:=by rw[dd.length,rv.length]
  refine eD iJ ?_;refine aa (dF nS.1 rfl ?_);refine aa (gD (wT I (W.done _ _ _ ⟨by rw[show d_.toArray.size=j by simp;lia];exact G,pl.isList⟩ λh' Gu uj rB=>?_)));have I0:=I.pins_of λp hp=>I.pin p (aC _ (.tail _ (.tail _ hp)));obtain⟨f0,f1,f2,f3,f4,f5⟩:=m;have I1:=I0.turned (t':=Gu) (it:=a) (λb o Y e=>uj b o ⇑Y e) f0 f1 f3 f4 f5;have KP:=uj S _ ⇑Be nS.1;have Z:=dW h' S (bF λ_=>(#[]:Array ab));obtain⟨g0,g1,g2,g3,g4,g5⟩:=fS;refine aa ?_;refine ge KP rfl (aa (gh (ah ?_)));have y:=I1.turned (t':=Gu) (it:=S) (λb o Y e=>(Z.2 b Y).trans e) g0 g1 g3 g4 g5;have I3:=y.pins_of λp hp=>y.pin p (aC _ (.tail _ hp));rw[hjl,np] at q;exact⟨L,H,I3,rb,post.here q cl db⟩
 | succ r ih=>
  intro j s H n O b L g f k c oI hr hj I m fS G la dd ev cl ux rb db q;have qm:j<ds.length:=by lia
  have nS:=I.pin (S,seqObj "list" #[g,.int f k] c) (aC _ (.head _));obtain⟨d,hd⟩:∃d,ds[j]?=Xy d:=⟨_,am qm⟩;rw[dk qm,(ao.mp hd).2] at q;unfold minGo at q;split at q
  case h_2=>exact aj q
  rename_i t O1 hE;refine eD iJ ?_;refine aa (dF nS.1 rfl ?_);have Po:tF X ((S,seqObj "list" #[g,.int f k] c)::(lam,lo)::Xa) H a:=⟨m.1,m.2.1,m.2.2.1,m.2.2.2.1,m.2.2.2.2.1,λp hp=>by
   rcases aM.mp hp with hp|hp
   ·exact m.2.2.2.2.2 p (bt _ hp)
   ·rcases aw.mp hp with rfl|hp
    ·exact Be
    ·exact m.2.2.2.2.2 p (aC _ hp)⟩
  refine aa (gD (cB (T_ pW hK I Po hl G la dd ev cl ux hd hE (R:=λv u U=>∃tk B M e_ x,u=.int t tk/\L2.Inv X ((S,seqObj "list" #[g,.int f k] c)::(a,B)::(lam,lo)::Xa) b_ M U/\U.heap.IsListIter a l (j+1)/\Ext H n M e_/\oC X.K M QH e_ O1/\RelV x v/\Xf X.K M QH e_ d x)
   λv tk B U M e_ x a1 a2 a3 a4 a5 a6=>⟨tk,B,M,e_,x,rfl,a1,a2,a3,a4,a5,a6⟩) (λo Z ho=>?_) λ_ _ z=>z))
  obtain⟨v,rfl,zI⟩:=ho;refine aa (gD (bH (cB zI (λu s2 he=>?_) λ_ _ hF=>hF.elim)));obtain⟨J,B,N,qe,x,rfl,y,A9,P,B4,rx,dx⟩:=he;have T:=y.pin (S,seqObj "list" #[g,.int f k] c) (aC _ (.head _));have NW:=y.pin (a,B) (aC _ (.tail _ (.head _)));have Kx:=la.mv P.mv;have DD:=dd.ext P;have HH:=ev.ext P;have Hv:∃F,N cc=Xy (.ext F)/\∀h:a7,F h->∃q,h.CodeRec (.ref cc) q:=let ⟨F,h1,h2⟩:=ux;⟨F,Uj cl P h1,h2⟩;have Xh:tF X ((lam,lo)::Xa) N a:=⟨NW.2.1,m.2⟩;have C:tF X ((lam,lo)::Xa) N S:=⟨T.2.1,fS.2⟩;have q2:=post.ext q P;refine aa (gD (bH (aa (CmpOf.ints_lt (w:=X.w) (λi=>if i=0 then t else f) (λi v h=>h) 0 1 _ _ _ _ _ ⟨J,rfl⟩ ⟨k,rfl⟩ ?_))));refine aa (bH (dq ?_));refine aa (gh (ah ?_));by_cases uI:t<f
  ·have Z:=dW s2.heap S (bF λ_=>#[v,.int t J]);obtain⟨c2,Ak⟩:∃c2,(s2.heap.update S (bF λ_=>#[v,.int t J])).get? S=Xy (seqObj "list" #[v,.int t J] c2):=⟨_,get?_update_seq T.1 λ_=>#[v,.int t J]⟩;rw[Kk uI] at q2;simp only[nJ,uI,decide_true,if_true,ck,if_false];refine aa (ge T.1 rfl (aa (gh ?_)));have I3:=y.pins_of λp hp=>y.pin p (aC _ (.tail _ hp));have I4:=I3.turned (it:=S) (λb o Y e=>(Z.2 b Y).trans e) C.1 C.2.1 C.2.2.2.1 C.2.2.2.2.1 (λp hp=>by
    rcases aM.mp hp with hp|hp
    ·exact C.2.2.2.2.2 p (bt _ hp)
    ·rcases aw.mp hp with rfl|hp
     ·exact Be.symm
     ·exact C.2.2.2.2.2 p (aC _ hp))
   have I5:L2.Inv X ((S,seqObj "list" #[v,.int t J] c2)::(a,B)::(lam,lo)::Xa) b_ N _:=I4.pins_of λp hp=>by
    rcases aw.mp hp with rfl|hp
    ·exact⟨Ak,T.2.1,T.2.2.1,T.2.2.2.1,λv z=>nomatch z⟩
    ·exact I4.pin p (aC _ hp)
   obtain⟨oq,Oz,KE,Oy⟩:=id A9;exact ah ⟨fJ gi _,ih (j+1) _ N qe O1 d x v t J c2 B 'd' qm I5 Xh C ⟨oq,(Z.2 a Be.symm).trans Oz,KE,Oy⟩ Kx DD HH B4 Hv rx dx q2⟩
  ·rw[Ko uI] at q2;simp only[nJ,uI,decide_false,ck,if_false,if_true];refine aa (gh ?_);exact ah ⟨fJ gi _,ih (j+1) s2 N qe O1 b L g f k c B 'd' qm y Xh C A9 Kx DD HH B4 Hv rb (db.ext P) q2⟩
def zfL{s:ag}{H:Hp}{g:List ae}{O:Ow}(pW:X.calm=YP)(hK:Ln X lam lo cc QH σ b_ tE)(I:L2.Inv X ((lam,lo)::Xa) b_ H s)(W:LstAt X.K H QH g l vs)(dd:oD X.K H QH g ds vs)(ev:oE X.K H QH g σ b_)(cl:oC X.K H QH g O)
  (ux:∃L,H cc=Xy (.ext L)/\∀h:a7,L h->∃q,h.CodeRec (.ref cc) q) (q:rM Ex X.K H QH g (DQ tE σ O ds) Q):av (az X.prog X.w) X.A (call (.builtin "min") [.ref l] [(iD "key",.ref lam)]) (EP X Xa b_ Q) E s:=by
 have BY:(toString "min" ++ toString ".loop":String) = "min.loop":=by decide
 obtain⟨d_,rv,pl,hz⟩:=I.list W.sq;have WU:=pl.isList;obtain⟨ol,A5,_⟩:=id WU;have EU:=aN A5;cases ds with
 |nil=>exact aj q
 |cons d t9=>
 have q:rM Ex X.K H QH g (match tE (σ++[Xy d]) O with|.ok (.int j) M=>minGo tE σ t9 d j M|_=>.bad) Q:=q;split at q
 case h_2=>exact aj q
 rename_i i M hE;refine kmb_tree PySem.F.kind_min PySem.F.plain_min PySem.F.entry_min (kmb_min_key _ _) ?_;refine aa (jw (rfl) ?_);refine aa (ah (aa (fL WU ?_)));refine aa (gO ?_ (bI _));rw[BY];generalize n:s.heap.objs.size=c at *;generalize Y:s.heap.push { cls:=.type "list_iterator",data:=.fields #[.ref l,.int 0 0] } = h1 at *;have Z:h1.objs.size=c+1:=by rw[<- Y,size_push',n]
 generalize hSS:h1.objs.size=S at *;have WW:=bq EU;have N:S≠c:=by rw[Z];exact eF (cU _)
 have kp:∀b o,s.heap.get? b=Xy o->(h1.push (seqObj "list" #[] 0)).get? b=Xy o:=λb o e=>af _ (by rw[<- Y];exact af _ e);have gI:(h1.push (seqObj "list" #[] 0)).get? c=Xy { cls:=.type "list_iterator",data:=.fields #[.ref l,.int 0 0] }:=af _ (by rw[<- Y,<- n];exact aI _ rfl);have gS:(h1.push (seqObj "list" #[] 0)).get? S=Xy (seqObj "list" #[] 0):=by rw[<- hSS];exact aI _ rfl
 have a:=I.fpOk (ig n) (I.hok.fresh (ig n));have P:tF X ((lam,lo)::Xa) H S:=I.fpOk (by rw[Z,n];exact dR _) (I.hok.fresh (by rw[Z,n];exact dR _));have I1:=I.kept kp;have I2:L2.Inv X ((S,seqObj "list" #[] 0)::(c,{ cls:=.type "list_iterator",data:=.fields #[.ref l,.int 0 0] })::(lam,lo)::Xa) b_ H { s with heap:=h1.push (seqObj "list" #[] 0),toks:=s.toks }:=I1.pins_of λp hp=>by
  rcases aw.mp hp with rfl|hp
  ·exact⟨gS,P.1,P.2.1,P.2.2.1,λv z=>nomatch z⟩
  ·rcases aw.mp hp with rfl|hp
   ·exact⟨gI,a.1,a.2.1,a.2.2.1,λv z=>nomatch z⟩
   ·exact I1.pin p (aC _ hp)
 refine ah ⟨fJ gi _,?_⟩;refine ft (R:=λr t=>match r with|.ok (.ret u)=>EP X Xa b_ Q u t|_=>False) ?_ (λr t h=>by
  cases r with
  |error e=>exact h.elim
  |ok f=>cases f<;>first|exact h|exact h.elim)
 refine eD iJ ?_;refine aa (dF gS rfl ?_);have Po:tF X ((S,seqObj "list" #[] 0)::(lam,lo)::Xa) H c:=⟨a.1,a.2.1,a.2.2.1,a.2.2.2.1,a.2.2.2.2.1,λp hp=>by
  rcases aM.mp hp with hp|hp
  ·exact a.2.2.2.2.2 p (bt _ hp)
  ·rcases aw.mp hp with rfl|hp
   ·exact N
   ·exact a.2.2.2.2.2 p (aC _ hp)⟩
 refine aa (gD (cB (T_ pW hK I2 Po WW ⟨_,gI,rfl,rfl⟩ W dd ev cl ux rfl hE (R:=λv u t=>∃tk k y G x,u=.int i tk/\L2.Inv X ((S,seqObj "list" #[] 0)::(c,k)::(lam,lo)::Xa) b_ y t/\t.heap.IsListIter c l (0+1)/\Ext H g y G/\oC X.K y QH G M/\RelV x v/\Xf X.K y QH G d x)
  λv tk k t y G x a1 a2 a3 a4 a5 a6=>⟨tk,k,y,G,x,rfl,a1,a2,a3,a4,a5,a6⟩) (λo s1 ho=>?_) λ_ _ z=>z))
 obtain⟨v,rfl,zI⟩:=ho;refine aa (gD (bH (cB zI (λu s2 he=>?_) λ_ _ hF=>hF.elim)));obtain⟨B,k,H2,qe,x,rfl,T,A9,J,B4,rx,dx⟩:=he;have C:=T.pin (S,seqObj "list" #[] 0) (aC _ (.head _));have NW:=T.pin (c,k) (aC _ (.tail _ (.head _)));have s1:=dW s2.heap S (bF λ_=>#[v,.int i B]);obtain⟨U,Ak⟩:∃U,(s2.heap.update S (bF λ_=>#[v,.int i B])).get? S=Xy (seqObj "list" #[v,.int i B] U):=⟨_,get?_update_seq C.1 λ_=>#[v,.int i B]⟩;refine aa (ge C.1 rfl ?_);have m:tF X ((lam,lo)::Xa) H2 S:=⟨C.2.1,P.2⟩;have I4:=T.pins_of λp hp=>T.pin p (aC _ (.tail _ hp));have I5:=I4.turned (λb o hb e=>(s1.2 b hb).trans e) m.1 m.2.1 m.2.2.2.1 m.2.2.2.2.1 (λp hp=>by
  rcases aM.mp hp with hp|hp
  ·exact m.2.2.2.2.2 p (bt _ hp)
  ·rcases aw.mp hp with rfl|hp
   ·exact N.symm
   ·exact m.2.2.2.2.2 p (aC _ hp))
 have I6:L2.Inv X ((S,seqObj "list" #[v,.int i B] U)::(c,k)::(lam,lo)::Xa) b_ H2 _:=I5.pins_of λp hp=>by
  rcases aw.mp hp with rfl|hp
  ·exact⟨Ak,C.2.1,C.2.2.1,C.2.2.2.1,λv z=>nomatch z⟩
  ·exact I5.pin p (aC _ hp)
 obtain⟨oq,Oz,KE,Oy⟩:=id A9;exact ah ⟨fJ gi _,Zc (ds:=d::t9) pW hK WW N (s0:=s) _ 1 _ H2 qe M d x v i B U k rfl (m8 (bI _)) I6 ⟨NW.2.1,a.2⟩ m ⟨oq,(s1.2 c N.symm).trans Oz,KE,Oy⟩ (W.mv J.mv) (dd.ext J) (ev.ext J) B4 (let ⟨L,h1,h2⟩:=ux;⟨L,Uj cl J h1,h2⟩) rx dx (post.ext q J)⟩
def zjV(hr:oM (k+2) X.A)(pW:X.calm=YP)(L:xG X.mg X.base c Pt)(uX:X.env.code=.ref c)(b:Q4 X.env.scope scope x)(zF:defaultsOf params X.env=([],[]))
  (Ds:∀(name n:aB)(cl:List (aB×ae))(pm o ct u:ab),bindArgs (d7 name n params body scope cl pm o ct) ⟨[u],[]⟩=pure [(x,u)]) (A3:x∉X.N) (he:PD X Ex e te)
  (hE:∀(q:aB)(lam:ae)(o:ab)(cl:List (aB×ae))(A:bb)(outer:List Env)(s:ag)(H:Hp),oM k (A.deeper (yv q scope s.heap.objs.size lam o cl))->PD (HL X.prog X.w X.K X.mg X.base (X.N++[x]) (yv q scope s.heap.objs.size lam o cl) A outer s H) qV body tE)
  (hg:Gl X "min") (hm:X.mg "min" = XV) (C:aR [e] X.env=[(Y1,eval e X.env)]:=by rfl):PD X Ex (.Call (.Name "min" pn) [e] [⟨Xy (iD "key"),.Lambda params body scope pl,kq⟩] pp) (D9 Pt iT te tE):=by
 refine⟨?_⟩;rintro Xa s b_ H Q I ⟨QH,μ,σ,O,ev,c1,q⟩;obtain⟨ti,q⟩:oQ H Pt/\rM Ex X.K H QH μ ((te σ O).bnd λx f=>match x with|.lst ds=>DQ tE σ f ds|_=>.bad) Q:=by
  unfold D9 at q;split at q
  ·rename_i p hp;by_cases F:p=Pt
   ·rw[Kk F] at q;obtain⟨v,_,d⟩:=ev.at_ iT _ hp;rw[F] at d;exact⟨d.2,q⟩
   ·rw[Ko F] at q;exact aj q
  ·exact aj q
 have G:∀{cells:List (aB×ae)},(∀y∈scope.names,y.2=.free->∃c,cells.lookup y.1=Xy c)->∀x c,(sQ cells scope.names []).lookup x=Xy c->cells.lookup x=Xy c:=λ{cells}i x c e=>by
  rcases JM _ _ (bO e) with m|⟨m,z⟩
  ·cases m
  ·obtain⟨c',zJ⟩:=i (x,.free) m rfl;have Ak:=zJ;rw[Ak] at z ⊢;rw[z];rfl
 have i:∀y∈scope.names,y.2=.free->∃c,X.env.cells.lookup y.1=Xy c:=λy J hf=>I.ok.has y.1 (b.frees y J hf);have Hx:∀x,scope.names.lookup x=Xy .free->∃c,(sQ X.env.cells scope.names []).lookup x=Xy c:=λx e=>by
  have m:=JK (cells:=X.env.cells) scope.names [] (bO e);exact⟨_,Ab (JY _ _ b.nd 'k' (by intro p hp;cases hp)) m⟩
 have KN:∀x,scope.names.lookup x=Xy .free->X.env.scope.names.lookup x=Xy .cell\/X.env.scope.names.lookup x=Xy .free:=λx e=>b.frees (x,.free) (bO e) rfl;have yi:∀y,vK scope y->scope.names.lookup y=Xy .free\/y=x:=λy J=>by
  rcases J with z|z|z
  ·exact .inr (b.loc _ (bO z) rfl)
  ·exact absurd rfl (b.cell _ (bO z))
  ·exact .inl z
 refine hU (By I hg hm LW ?_ 'u' 'u');refine callWith_kw ?_ (by rw[C];rfl) (by rw[C];rfl);rw[C];refine ma (qc (he.out Xa s b_ H _ I (rd.go (Q1:=λM h=>∃j f a,oE X.K h QH a σ b_/\Ext H μ h a/\oC X.K h QH a f/\Xf X.K h QH a j M/\rM Ex X.K h QH a (match j with|.lst ds=>DQ tE σ f ds|_=>.bad) Q) ev c1 q λj f M h a P R S r1 T=>⟨j,f,a,P,R,S,r1,T⟩)) λu1 s1 ⟨M,h,I1,U,j,f,a,P,R,S,W,T⟩=>?_);refine mI (kws_cons (Z5 I1 L uX (R.tab _ ti) (VY i) zF λlam o Ao h' tk H' I3 ext cells Y A_ rG vZ=>?_));refine kws_nil ?_;obtain⟨cc,φ,rfl,ux,Z⟩:=vZ;have Pp:=P.ext (ext a);have cl3:=cells QH a f S;have q3:=post.ext T (ext a);have da3:=W.ext (ext a);cases j with
 | lst ds=>
  obtain⟨l,vs,rfl,la,dd⟩:=da3;cases U;have t:=I1.fpOk A_ Y;have I4:L2.Inv X ((lam,_)::Xa) b_ H' { s1 with heap:=h',toks:=tk }:=I3.pins_of λp hp=>by
   rcases aw.mp hp with rfl|hp
   ·exact⟨rG,t.1,t.2.1,t.2.2.1,λv z=>nomatch z⟩
   ·exact I3.pin p (aC _ hp)
  refine zfL pW ?_ I4 la dd Pp cl3 ⟨φ,ux,Z⟩ q3;intro Wt s5 H5 Bn O5 d5 v5 u5 Q5 g G5 Dr KU cl5 dx5 rx5 q5;obtain⟨φ5,Dr,Od⟩:=Dr;obtain⟨qn,hqn⟩:=Od _ (g.hok cc _ Dr).1;have hg5:=(g.pin _ (aC _ G5)).1;refine j3 (ft (zlL hr.in1 g.env0.in1 hg5 hqn b.co b.gen b.kind b.cell (Ds _ _ _ _ _ _ _) yi b.one A3 (zb8 g Un.refl (G i)) (zfZ g (G i)) Hx (zdB g Un.refl (G i) Hx KN) g.len rx5 (hE _ _ _ _ _ _ _ _) (KU.snoc dx5) cl5 q5) λr s8 B=>?_);cases r with
  |error e=>exact B.elim
  | ok t=>
   cases t with
   |ret u=>exact g.after B
   |next=>exact aj B
   |brk=>exact aj B
   |cont=>exact aj B
 |_=>exact aj q3
end
end DL
namespace DL
open PySem L2
mutual
def nm:D->Bool
 |.map _ _=>Y1
 |.dct=>Y1
 |.exn _=>Y1
 |.lst ds=>nms ds
 |.tup ds=>nms ds
 |_=>YP
def nms:List D->Bool
 |[]=>YP
 |d::ds=>nm d&&nms ds
end
section
variable{K:ai}{H:Hp}{QH μ:List ae}{p:ae}{i_:List (Key×V)}
def QY(b:H p=Xy (.frz o (.dK i_)))(h:Rd H a u)(c:∀i_,u ≠ .dK i_)(d:∀o v,u ≠ .frz o v):a≠p:=by
 rintro rfl;rcases h with h|⟨o,h⟩
 ·rw[b] at h;cases h;exact d _ _ rfl
 ·rw[b] at h;cases h;exact c _ rfl
mutual
theorem Xf.hide(b:H p=Xy (.frz o (.dK i_))):∀{d:D}{v:V},nm d=YP->Xf K H QH μ d v->Xf K H (p::QH) μ d v
 |.non,_,_,h=>h
 |.bl _,_,_,h=>h
 |.int _,_,_,h=>h
 |.str _,_,_,h=>h
 | .lst ds,v,n,h=>by
  unfold Xf at h ⊢;obtain⟨a,c,r,l,q⟩:=h;refine⟨a,c,r,l.imp (λz=>⟨z.1,λm=>?_,z.2.2⟩) id,oD.hide b n q⟩;rcases aw.mp m with e|m
  ·exact QY b z.1 (λ_ z=>nomatch z) (λ_ _ z=>nomatch z) e
  ·exact z.2.1 m
 | .tup ds,v,n,h=>by
  unfold Xf at h ⊢;obtain⟨a,c,r,l,q⟩:=h;refine⟨a,c,r,l.imp (λz=>⟨z.1,λm=>?_,z.2.2⟩) id,oD.hide b n q⟩;rcases aw.mp m with e|m
  ·exact QY b z.1 (λ_ z=>nomatch z) (λ_ _ z=>nomatch z) e
  ·exact z.2.1 m
 |.own k,v,_,h=>by unfold Xf at h ⊢;exact h
 |.dct,_,n,_=>by cases n
 |.exn _,_,n,_=>by cases n
 |.tab P,v,_,h=>by unfold Xf at h ⊢;exact h
 |.map _ _,_,n,_=>by cases n
 |.adr _,_,_,h=>h
theorem oD.hide(b:H p=Xy (.frz o (.dK i_))):∀{ds:List D}{a:List V},nms ds=YP->oD K H QH μ ds a->oD K H (p::QH) μ ds a
 |[],_,_,h=>h
 | d::ds,a,n,h=>by
  unfold oD at h ⊢;unfold nms at n;obtain⟨c,e⟩:=eM.mp n;obtain⟨v,r,f,g,i⟩:=h;exact⟨v,r,f,Xf.hide b c g,oD.hide b e i⟩
end
def oC.hide(d:H p=Xy (.frz o (.dK i_)))(n:O.all nms=YP)(c:oC K H QH μ O):oC K H (p::QH) μ O:=by
 refine⟨c.len,c.nd,λa m z=>?_,λa m=>?_,λk a e=>?_⟩
 ·rcases aw.mp z with e|z
  ·obtain⟨k,i,j⟩:=dM.mp m;obtain⟨f,g,_,b,_⟩:=c.at_ k a (by rw[am i,j]);rw[e,d] at b;cases b
  ·exact c.nh a m z
 ·rcases aw.mp m with e|m
  ·rw[e,d];simp
  ·exact c.ht a m
 ·obtain⟨f,g,h,b,l⟩:=c.at_ k a e;exact⟨f,g,h,b,l.hide d (al.mp n f (aF h))⟩
def oE.put(e:oE K H QH μ σ b_)(h:b_[i]?=Xy (Xy v))(q:Xf K H QH μ d v):oE K H QH μ (σ.set i (Xy d)) b_:=by
 refine⟨by simp[e.len],λj x g=>?_⟩;by_cases a:i=j
 ·subst a;have b:i<σ.length:=by have:=(ao.mp g).1;simpa using this
  rw[bE b] at g;cases g;exact⟨v,h,q⟩
 ·rw[bu a] at g;exact e.at_ j x g
def oE.forget(e:oE K H QH μ σ b_)(o:Option V):oE K H QH μ (σ.set i XV) (b_.set i o):=by
 refine⟨by simp[e.len],λj x g=>?_⟩;by_cases a:i=j
 ·subst a;have b:i<σ.length:=by have:=(ao.mp g).1;simpa using this
  rw[bE b] at g;cases g
 ·rw[bu a] at g;obtain⟨v,c,d⟩:=e.at_ j x g;exact⟨v,by rw[bu a];exact c,d⟩
def EN(k:DK)(ks:List DK):Bool:=ks.any λj=>decide (j=k)
def vV(k:DK)(ks:List DK):List DK:=ks.filter λj=>decide (j≠k)
def y_(k:DK):List DK->List D->List D
 |j::ks,d::ds=>if j=k then y_ k ks ds else d::y_ k ks ds
 |_,_=>[]
theorem Th:∀{a:List DK}{ds:List D}{b:List V},a.length=b.length->oD K H QH μ ds b->∃c,AE ((a.map kD).zip b) (kD k)=((vV k a).map kD).zip c/\(vV k a).length=c.length/\oD K H QH μ (y_ k a ds) c
 |[],ds,b,_,_=>⟨[],rfl,rfl,.nil⟩
 |j::a,ds,[],h,_=>by cases h
 |j::a,[],v::b,_,h=>by unfold oD at h;cases h
 | j::a,d::ds,v::b,hl,h=>by
  obtain⟨w,r,e,l,m⟩:=(by unfold oD at h;exact h);cases e;obtain⟨c,f,g,i⟩:=Th (k:=k) (mB hl) m;show ∃c,AE ((kD j,v)::(a.map kD).zip b) (kD k)=_/\_;by_cases e:j=k
  ·subst e;refine⟨c,?_,?_,?_⟩
   ·unfold AE vV at *;rw[dJ 'k',dJ 'k'];exact f
   ·unfold vV at *;rw[dJ 'k'];exact g
   ·unfold y_;rw[Kk rfl];exact i
  ·have n:kD j≠kD k:=λz=>e (I9 z);refine⟨v::c,?_,?_,?_⟩
   ·unfold AE vV at *;rw[dL ⇑n,dL ⇑e,f];rfl
   ·unfold vV at *;rw[dL ⇑e];simpa using g
   ·unfold y_;rw[Ko e];exact .cons l i
theorem U1:∀{a:List DK}{b:List V},a.length=b.length->EN k a=YP->(uq ((a.map kD).zip b) (kD k)).isSome=YP
 |[],_,_,h=>by cases h
 |_::_,[],h,_=>by cases h
 | j::a,v::b,hl,h=>by
  show(uq ((kD j,v)::(a.map kD).zip b) (kD k)).isSome=YP;by_cases e:j=k
  ·rw[F2 (congrArg kD e)];rfl
  ·rw[Es (λz=>e (I9 z))];unfold EN at h;rw[f9,decide_eq_false e,gM] at h;exact U1 (mB hl) h
end
def AF(iR uE iL:Nat)(t1 t3:DE):List D->List DK->List D->Sg->Ow->RS
 |[],_,_,σ,O=>.nx σ O
 | x::xs,ks,ds,σ,O=>match xY x with
  | some k=>if EN k ks=YP then match t1 (σ.set uE (Xy x)) O with
    | .ok d1 O1=>match t3 (((σ.set uE (Xy x)).set iL (Xy d1)).set iR (Xy (.map (vV k ks) (y_ k ks ds)))) O1 with
     |.ok _ O2=>if O2.all nms=YP then AF iR uE iL t1 t3 xs (vV k ks) (y_ k ks ds) ((σ.set uE (Xy x)).set iL (Xy d1)) O2 else .bad
     |_=>.bad
    |_=>.bad
   else .bad
  |none=>.bad
def Fp(iR uE iL:Nat)(tH:DE)(it:DI)(t1 t3:DE)(tt:DS):DS:=λσ O=>(tH σ O).bnS λx O1=>match x with
 | .map ks ds=>(it (σ.set iR XV) O1).bnS λsrc O2=>match src with
  | .val xs=>match AF iR uE iL t1 t3 xs ks ds (σ.set iR XV) O2 with
   |.nx σ' O'=>tt σ' O'
   |_=>.bad
  |_=>.bad
 |_=>.bad
def Ea.ext(e:Ea p H μ H' e_)(h:H p=XV):Ext H μ H' e_:=⟨e.pre,λb o g n a=>e.kept b o g n (sR g h) a,e.fresh,e.there,e.tab⟩
section
variable{X:Cx}{Ex:Nat->Hp->Prop}
def QU(g:H A=Xy (.frz ob u)):∀a,oQ H a->oQ (upd H A o) a:=by
 rintro a ⟨h,b,i,j⟩;have k:a≠A:=by rintro rfl;rw[g] at b;cases b
 refine⟨h,by rw[qi k];exact b,i,λd l e=>?_⟩;obtain⟨c,m,rfl,f,n⟩:=j d l e;have p:c≠A:=by rintro rfl;rw[g] at f;cases f
 exact⟨c,m,rfl,by rw[qi p];exact f,n⟩
def ZJ(d:PE X e te):PE X e (λσ H Q=>∃p a,H p=Xy (.dK a)/\∀o,te σ (upd H p (.frz o (.dK a))) λv H'=>H' p=Xy (.frz o (.dK a))/\Q v (upd H' p (.dK a))):=by rintro b s σ H Q I ⟨p,a,c,h⟩;obtain⟨o,J⟩:=Inv.frzK I c;exact qc (d b s σ _ _ J (h o)) λv i ⟨x,j,f,r,g,q⟩=>⟨x,_,Inv.thawK f g (Inv.nofrz I c),r,q⟩
def zbi:oN X (.type "dict") (λxs H Q=>∃(a:ae)(d:List (Key×V)),xs=[.ref a]/\Rd H a (.dK d)/\∀p,H p=XV->Q (.ref p) (upd H p (.dK d))):=by intro f s w H xs x Q I r h;obtain⟨a,d,rfl,g,q⟩:=h;obtain⟨u,rfl,i⟩:=uO r;cases i;obtain⟨z,j,y,c,k⟩:=D_ I.hok g;refine kt_call_dict j k (by rw[<- c.length];exact z) λl m n=>?_;have t:∀b o,s.heap.get? b=Xy o->l.get? b=Xy o:=λb o e=>(n.2 b (bq (aN e))).trans (af _ e);have v:=I.hok.fresh (aE s.heap.objs.size);exact⟨.ref _,_,I.laid t (aE _) (I8 z (beq_eq_false_iff_ne.mpr (bP (bq I.big))) c m),rfl,q _ v⟩
def zaN{d k c:aT}{f:List aT}{l:List bN}{b:c8}{j n p:Pos}{y:aB}{i:Nat}(o:Bool)(ext:List aB){it0:DI}{g:Tg}{ts:List DT}{cs:List Cl}{te:DE}(B:X.calm=YP)(D:X.N.Nodup)(F:X.N[i]?=Xy y)(r:X.env.scope.names.lookup y=Xy .local)
  (G:tK X Ex k c it0) (J:yt X.env.scope b (X.N++ext) (qT (⟨it0,g,ts⟩::cs)))
  (M:IM X ext b k g f ts l cs d te)
  (P:swapsWith (.ListComp d (⟨k,c,f,0⟩::l) b j) (Xy (.Name y p)) n.line X.env=pure YP)
  (Q:∀x,bV c X.env x=pure x:=by intro _;rfl):PS X (.Assign [.Name y p] (.ListComp d (⟨k,c,f,0⟩::l) b j) n) (DR (rd Ex X.K (qp o ext.length it0 g ts cs te)) (AB i)):=by
 rintro t s b_ H E I ⟨R,μ,σ,O,S,u,q⟩;rw[i0 _ _ _ _ P];refine aa (eR (aa ?_));unfold qp at q;rw[<- M8] at q;refine aa (cB (F1 (ML d) B G J (λh T s H U _ _ _=>Lb M h T s H U) Q I S u (TY u q λL V W Y C Z ns nC w y1 A pn=>?_)) (λ_ Y hq=>ah (ah hq)) λ_ _ e=>e);obtain⟨m,hn⟩:=ns;refine iz (Jx (v:=.ref L) Z D F (.inl r) rfl (λAf HW vY=>?_) (.inr r));obtain⟨a,Dd,ha⟩:=vY;have HB:C≠a:=by
  rcases ha with z|z
  ·rw[z];exact w
  ·exact λe=>A y a z e.symm
 refine⟨m,hn.sameBut Dd HB,λh' zw=>?_⟩;exact⟨_,V,Inv.bare HW zw nC w y1 A pn,W⟩
def zbY(n:kG (az X.prog X.w) X.A X.env X.xe)(hc:X.calm=YP)
  (hA:∀te,PE X e te->PS X sA (DR (Kl (λxs H Q=>∃(a:ae)(i_:List (Key×V)),xs=[.ref a]/\Rd H a (.dK i_)/\∀p,H p=XV->Q (.ref p) (upd H p (.dK i_))) (QP te Qa)) (AB iR))) (hH:PD X Ex e tH)
  (hi:tK X Ex tg iter it) (hg:PG X tg ((Tg.one uE).rd X.K)) (vR:PE X (.Name r p2) (Iu iR)) (vT:PE X (.Name tm p3) (Iu uE)) (hL:PS X sL (DR (rd Ex X.K t1) (AB iL))) (hE:PD X Ex e3 t3) (zu:swapsWith e3 XV pE.line X.env=pure Y1) (ht:ua X Ex xs tt)
  (n1:iR≠uE) (n2:iR≠iL) (hl:iR<X.N.length) (hT:uE<X.N.length) (hs:∀x,bV iter X.env x=pure x:=by intro _;rfl):ua X Ex (sA :: .For tg iter [.Delete [.Subscript (.Name r p2) (.Name tm p3) p4] p1,sL,.Expr e3 pE] [] pos::xs) (Fp iR uE iL tH it t1 t3 tt):=by
 refine⟨?_⟩;rintro U s b_ H E I ⟨b,μ,σ,O,e1,c1,q⟩;have hlv:iR<b_.length:=by rw[I.len];exact hl
 refine(F4 (hA _ hH.out) (F4 (RE n hc hi.out hg (F4 (zj5 vR vT) (F4 hL (Tq (Sr (ZJ hE.out) zu)))) hs) ht.out)) U s b_ H E I (rd.goS e1 c1 q λx O1 v F C ea xa ca da qa=>?_);cases x with
 | map ks ds=>
  obtain⟨a0,W,rfl,ra,na1,na2,Y,Am⟩:=da;refine⟨a0,_,rfl,.inr ra,λp n=>?_⟩;have NY:Mv F b C (upd F p (.dK ((ks.map kD).zip W))) (p::b) C:=(Mv.hide n).trans (Ext.laid n).mv;have Xj:oE X.K (upd F p (.dK ((ks.map kD).zip W))) (p::b) C (σ.set iR XV) (b_.set iR (Xy (.ref p))):=(ea.mv NY).forget _;have Ww:p∉C:=λm=>by
   obtain⟨k,Z,e2⟩:=dM.mp m;obtain⟨_,_,_,h2,_⟩:=ca.at_ k p (by rw[am Z,e2]);rw[n] at h2;cases h2
  have nph:p∉b:=λm=>ca.ht p m n;have cap:oC X.K (upd F p (.dK ((ks.map kD).zip W))) (p::b) C O1:=by
   have c0:=ca.laid (o:=.dK ((ks.map kD).zip W)) n;refine⟨c0.len,c0.nd,λa m z=>?_,λa m=>?_,λk a e=>?_⟩
   ·rcases aw.mp z with e|z
    ·exact Ww (e▸m)
    ·exact c0.nh a m z
   ·rcases aw.mp m with e|m
    ·rw[e,rZ];simp
    ·exact c0.ht a m
   ·obtain⟨G,D,S,h2,T⟩:=ca.at_ k a e;exact⟨G,D,S,by rw[qi (sR h2 n)];exact h2,T.mv NY⟩
  have t:=qa;refine⟨p::b,C,σ.set iR XV,O1,Xj,cap,?_⟩;cases L:it (σ.set iR XV) O1 with
  |bad=>rw[L] at t;exact aj t
  | exc c' l=>
   rw[L] at t;exact λg j x c2=>t g j ((Ext.laid n).trans x) c2.unhide
  | ok src O2=>
   rw[L] at t;intro J H1 g_ x1 c2 sa;cases src with
   |own _=>exact aj t
   |zip _ _=>exact aj t
   | val ys=>
    have t:=t;have e0:Ea p F C H1 g_:=(Ext.laid n).ea.trans x1.ea;have Ai:=x1.keep p _ rZ Ww;refine⟨λi m M g=>∃j f l P G D,m=ys.length-i/\i<=ys.length/\M.length=X.N.length/\Ea p H1 g_ g j/\oE X.K g (p::b) j f M/\oC X.K g (p::b) j l/\M[iR]?=Xy (Xy (.ref p))/\g p=Xy (.dK ((P.map kD).zip D))/\P.length=D.length/\oD X.K g (p::b) j G D/\
     oH Ex X.K F b C (match AF iR uE iL t1 t3 (ys.drop i) P G f l with
      |.nx f l=>tt f l
      |_=>.bad) E,
     ⟨_,g_,_,O2,ks,ds,W,rfl,bI _,by rw[cQ];exact I.len,.refl,Xj.ext x1,c2,by rw[bE hlv],Ai,Y,(Am.mv NY).ext x1,t⟩,?_⟩
    rintro i m xU H2 ⟨u,tV,HS,B,E4,Ad,hm,hile,WI,PB,HH,B4,KD,G6,Hi,DD,c⟩;have EI:=sa (p::b) H2 u HS PB.mv B4 i;have Kq:match ys[i]? with
     |some d=>J.go i H2/\∀x uo,J.yld i H2 x uo->Ext H2 u uo u/\oC X.K uo (p::b) u HS/\Xf X.K uo (p::b) u d x
     |none=>J.stop i H2:=EI
    cases rG:ys[i]? with
    | none=>
     rw[rG] at Kq;have xO:i=ys.length:=by have:=a9.mp rG;lia
     rw[xO,np] at c;exact .inl ⟨Kq,b,u,tV,HS,HH.mv .unhide,B4.unhide,c.ext ((e0.trans PB).ext n)⟩
    | some d=>
     rw[rG] at Kq;obtain⟨go,yl⟩:=Kq;have xO:=(ao.mp rG).1;rw[dk xO,(ao.mp rG).2] at c;unfold AF at c;cases Z:xY d with
     |none=>rw[Z] at c;exact aj c
     | some k=>
      rw[Z] at c;dsimp only at c;by_cases sh:EN k B=YP
      case neg=>rw[Ko sh] at c;exact aj c
      rw[Kk sh] at c;refine .inr ⟨go,λM g=>∃j f l P G D,M.length=X.N.length/\Ea p H1 g_ g j/\oE X.K g (p::b) j f M/\oC X.K g (p::b) j l/\M[iR]?=Xy (Xy (.ref p))/\g p=Xy (.dK ((P.map kD).zip D))/\P.length=D.length/\oD X.K g (p::b) j G D/\
       oH Ex X.K F b C (match AF iR uE iL t1 t3 (ys.drop (i+1)) P G f l with
        |.nx f l=>tt f l
        |_=>.bad) E,λf g ⟨j,tD,O3,ks3,ds3,vs3,h⟩=>⟨ys.length-(i+1),by lia,j,tD,O3,ks3,ds3,vs3,rfl,xO,h⟩,λv H3 y=>?_⟩
      obtain⟨x3,c3,r3⟩:=yl v H3 y;have GD:p∉u:=λm=>B4.nh p m 'k';have OB:=x3.keep p _ G6 GD;have Pp:=(HH.ext x3).set r3 uE;have dd3:=DD.ext x3;have ekv:=Ly Z r3;have GY:(xU.set uE (Xy v))[iR]?=Xy (Xy (.ref p)):=by rw[bu (bP n1)];exact KD
      have Oq:(xU.set uE (Xy v))[uE]?=Xy (Xy v):=by
       rw[bE (by rw[WI];exact hT)]
      refine⟨_,GY,v,Oq,p,_,kD k,rfl,OB,ekv,U1 Hi sh,?_⟩;obtain⟨R,hd1,hd2,hd3⟩:=Th Hi dd3;rw[hd1];have Pz:Ea p H3 u (upd H3 p (.dK (((vV k B).map kD).zip R))) u:=.putX (yY OB);have Xl:=Pp.mv (Pz.mv);have cl4:=c3.putX (o:=.dK (((vV k B).map kD).zip R)) (yY OB);have dd4:=hd3.mv (Pz.mv);cases S:t1 (tV.set uE (Xy d)) HS with
      |bad=>rw[S] at c;exact aj c
      |exc c' l=>rw[S] at c;exact aj c
      | ok d1 O5=>
       rw[S] at c;dsimp only at c;refine⟨p::b,u,tV.set uE (Xy d),HS,Xl,cl4,?_⟩;rw[S];intro v1 H5 Bn x5 c5 r5;have G5:=x5.keep p _ rZ GD;have GC:p∉Bn:=λm=>c5.nh p m 'k';have KU:=(Xl.ext x5).set r5 iL;have Xn:=dd4.ext x5;have GX:((xU.set uE (Xy v)).set iL (Xy v1))[iR]?=Xy (Xy (.ref p)):=by rw[bu (bP n2)];exact GY
       cases T:t3 (((tV.set uE (Xy d)).set iL (Xy d1)).set iR (Xy (.map (vV k B) (y_ k B E4)))) O5 with
       |bad=>rw[T] at c;exact aj c
       |exc c' l=>rw[T] at c;exact aj c
       | ok d3 O6=>
        rw[T] at c;dsimp only at c;by_cases hn:O6.all nms=YP
        case neg=>rw[Ko hn] at c;exact aj c
        rw[Kk hn] at c;refine⟨p,_,G5,λo=>?_⟩;have Py:Ea p H5 Bn (upd H5 p (.frz o (.dK (((vV k B).map kD).zip R)))) Bn:=.putX (yY G5);have dm:Xf X.K (upd H5 p (.frz o (.dK (((vV k B).map kD).zip R)))) b Bn (.map (vV k B) (y_ k B E4)) (.ref p):=by
         exact⟨p,R,rfl,⟨o,rZ⟩,nph,GC,hd2,(Xn.mv (Py.mv)).mv .unhide⟩
        refine⟨b,Bn,_,O5,((KU.mv (Py.mv)).mv .unhide).put GX dm,(c5.putX (yY G5)).unhide,?_⟩;rw[T];intro v3 H6 HZ x6 c6 r6;have KH:=x6.keep p _ rZ GC;have ea7:Ea p H6 HZ (upd H6 p (.dK (((vV k B).map kD).zip R))) HZ:=.putX (QU KH);have Px:=(Py.trans x6.ea).trans ea7;exact⟨KH,HZ,_,O6,_,_,R,by rw[cQ,cQ];exact WI,((PB.trans x3.ea).trans Pz).trans (x5.ea.trans Px),KU.mv (Px.mv),(c6.hide KH hn).putX (QU KH),GX,rZ,hd2,Xn.mv (Px.mv),c⟩
 |_=>exact aj qa
end
end DL
namespace DL
open PySem L2
def Ir(o:Obj):Nat:=match o.data with
 |.dict _ ep=>ep
 |_=>0
def Xu(a:ae)(o:Obj)(i_:List (Key×V)):It:=⟨λi H=>H a=Xy (.frz o (.dK i_))/\i<i_.length,λi H x H'=>H'=H/\∃k v,i_[i]?=Xy (k,v)/\x=kV k,λi H=>H a=Xy (.frz o (.dK i_))/\i_.length<=i⟩
theorem RW:∀{i_:List (Key×V)}{ws:List (Key×ab)}{i:Nat}{k:Key}{v:V},KV i_ ws->i_[i]?=Xy (k,v)->∃u,ws[i]?=Xy (k,u)
 |_,_,_,_,_,.nil,h=>by simp at h
 | (k0,v0)::_,(k1,u1)::_,0,k,v,.cons h _,e=>by
  obtain⟨rfl,rfl⟩:=e;have a:=h.1;subst a;exact⟨u1,rfl⟩
 |_::_,_::_,i+1,k,v,.cons _ t,e=>RW (i:=i) t ⇑e
def ziV(h:(vD P w).is k u=YP):RelV (kV k) u:=by
 rcases Ac h with⟨i,t,rfl,rfl⟩|⟨x,t,rfl,rfl⟩
 ·exact⟨t,rfl⟩
 ·exact⟨t,rfl⟩
def Mz(ok:HOk P w H h)(e:H a=Xy (.frz o (.dK i_))):(a==sysModules)=Y1/\∃b,KV i_ b/\h.DictAt (vD P w) a b (Ir o):=by
 obtain⟨d,z,i,b,c,m,j,k,f,l,g,r⟩:=ok a _ e;rw[d] at f;cases f;have:Ir o=k:=by unfold Ir;rw[g]
 rw[this];exact⟨i,b,c,o,j,d,l,g,r⟩
def zcD(a it:ae)(o:Obj)(n:List (Key×V)):yA P w K tg (Xu a o n) [it] it (λi h=>h.IsKeyIter it a i n.length (Ir o)) where
 mem:=by simp
 obj:=λi h g b j=>by
  have e:b=it:=⇑j
  subst e;obtain⟨o,e,c,d⟩:=g;exact⟨o,e,λv z=>by rw[d] at z;cases z⟩
 keep:=λi h N g k=>g.at λo e=>k it 'k' o e
 item:=by
  intro X q r t O i l s R H E I m g x;subst q r t;obtain⟨y,A⟩:=x;obtain⟨S,T,f,B⟩:=Mz I.hok y;obtain⟨⟨k,v⟩,Q⟩:∃p,n[i]?=Xy p:=⟨_,am A⟩;obtain⟨u,U⟩:=RW f Q;obtain⟨C,D,W,F,G,J⟩:=m it 'k';rw[f.length] at g;refine wpAny_pyNext_dict_item g B U λL N Y M Z=>?_;have I1:=I.turned (λb o j e=>(Z.2 b j).trans e) C D F G J;obtain⟨o2,e,c,d⟩:=id M;rw[<- f.length] at M;exact⟨L,rfl,Ft e c d 'u' ⟨kV k,H,I1,ziV Y,⟨rfl,k,v,Q,rfl⟩,M,λb j=>(m b j).1⟩⟩
 done:=by
  intro X q r t O i l s R H E I m g x;subst q r t;obtain⟨y,A⟩:=x;obtain⟨S,T,f,B⟩:=Mz I.hok y;obtain⟨C,D,W,F,G,J⟩:=m it 'k';rw[f.length] at g;exact wpAny_pyNext_dict_end (I.ok.hd O) g B (a9.mpr (by rw[<- f.length];exact A)) λN eb=>⟨rfl,I.turned (λb o j e=>eb b o j e) C D F G J⟩
 self:=λ_ _ _ _ _ g h=>wpAny_pyIter_keyiter g h
noncomputable def BN:DK->D
 |.inl i=>.int i
 |.inr cs=>.str cs
def zi9:∀k:DK,Xf K H QH μ (BN k) (kV (kD k))
 |.inl _=>by unfold BN Xf;rfl
 |.inr _=>by unfold BN Xf;rfl
def oG.keys{K:ai}{H:Hp}{QH j:List ae}{b:List DK}{g:List V}{a:ae}{o:Obj}(h:H a=Xy (.frz o (.dK ((b.map kD).zip g))))(p:a∉QH)(q:a∉j)(l:b.length=g.length):oG K (Xu a o ((b.map kD).zip g)) (.val (b.map BN)) H QH j:=by
 intro v w A B m c i;have n:=m.kept a _ h q p (by intro C z;cases z);have f:((b.map kD).zip g).length=b.length:=by rw[nI,aq,l,Nat.min_self]
 show match (b.map BN)[i]? with|some d=>_|none=>_
 rw[bd];cases e:b[i]? with
 | some k=>
  have r:=(ao.mp e).1;refine⟨⟨n,by rw[f];exact r⟩,λx D y=>?_⟩;obtain⟨rfl,s,E,t,rfl⟩:=y;have u:s=kD k:=by
   have:=congrArg (nB Prod.fst) t;rw[<- bd,List.map_fst_zip (by rw[aq];exact ig l),bd,e] at this;cases this;rfl
  subst u;exact⟨.refl,c,zi9 k⟩
 | none=>
  exact⟨n,by rw[f];exact a9.mp e⟩
def Iv(t:DE):DI:=λσ O=>(t σ O).bnd λx O1=>match x with
 |.map ks _=>.ok (.val (ks.map BN)) O1
 |_=>.bad
def zfp{X:Cx}{l:Nat->Hp->Prop}{a y:aT}{t:DE}(z:PD X l a t):tK X l y a (Iv t):=by
 refine⟨?_⟩;rintro i s A H B I ⟨f,S,T,O,C,D,q⟩;refine qc (z.out i s A H _ I (rd.go C D q (Q1:=λv g=>∃f h j d,oC X.K g f h j/\Xf X.K g f h d v/\post l X.K (λE F s J=>oG X.K J s E f F) g f h (match d with|.map ks _=>.ok (.val (ks.map BN)) j|_=>.bad) B)
  λd j v g h U x c r p=>⟨f,h,j,d,c,r,p⟩)) λu m ⟨v,g,k,G,f,h,j,d,c,r,p⟩=>?_
 cases d with
 | map ks ds=>
  obtain⟨a,V,rfl,⟨o,w⟩,L,M,N,W⟩:=r;cases G;obtain⟨P,Y,n,Q⟩:=Mz k.hok w;refine wpAny_pyIter_dict P Q ?_;rw[<- n.length];refine⟨m.heap.objs.size,[m.heap.objs.size],_,_,g,rfl,k.kept λb o e=>af _ e,zcD a _ o _,⟨_,aI _ rfl,rfl,rfl⟩,λb R=>?_,post.here p c (.keys w L M N)⟩;have e:b=m.heap.objs.size:=⇑R
  subst e;exact k.fpOk (aE _) (k.hok.fresh (aE _))
 |_=>exact aj p
end DL
namespace DL
open PySem L2 PyProof.Rows
noncomputable def ltP(i j k l:Int):Bool:=decide (i<k)||(decide (i=k)&&decide (j<l))
section
variable{X:Cx}{Ex:Nat->Hp->Prop}
def zps:Ow->D->D->R D:=λO x y=>match x,y with
 |.tup [.int i,.int j],.tup [.int k,.int l]=>.ok (.bl (ltP i j k l)) O
 |_,_=>.bad
def xX:List Int->Int
 |[]=>0
 |x::l=>l.foldl min x
theorem Mx:∀(l:List Int)(x:Int),l.foldl min x<=x/\∀a∈l,l.foldl min x<=a
 |[],x=>⟨Int.le_refl _,λ_ h=>by cases h⟩
 | y::l,x=>by
  obtain⟨c,b⟩:=Mx l (min x y);rw[fC];refine⟨by lia,λa ha=>?_⟩;rcases aw.mp ha with rfl|ha
  ·lia
  ·exact b a ha
theorem F5:∀(l:List Int)(x:Int),l.foldl min x=x\/l.foldl min x∈l
 |[],x=>.inl rfl
 | y::l,x=>by
  rw[fC];rcases F5 l (min x y) with h|h
  ·rcases Int.le_total x y with e|e
   ·left;rw[h];lia
   ·right;rw[h];rw[show min x y=y by lia];exact ar
  ·exact .inr (ak _ h)
def Vc(hm:M∈ns)(b:∀a,a∈ns->M<=a):M=xX ns:=by
 cases ns with
 |nil=>cases hm
 | cons x l=>
  show M=l.foldl min x;obtain⟨c,d⟩:=Mx l x;have f:l.foldl min x<=M:=by
   rcases aw.mp hm with rfl|hm
   ·exact c
   ·exact d M hm
  have g:M<=l.foldl min x:=by
   rcases F5 l x with e|e
   ·rw[e];exact b x ar
   ·exact b _ (ak _ e)
  lia
def zdC(m:X.calm=YP):oN X (.builtin "min") (λxs H Q=>∃(p:ae)(c:List Int),xs=[.ref p]/\rn X.K H p (c.map V.int)/\c≠[]/\Q (.int (xX c)) H):=by
 intro e s J H xs L Q I r h;obtain⟨p,c,rfl,n,o,q⟩:=h;obtain⟨u,rfl,w⟩:=uO r;cases w;obtain⟨M,x,y,N⟩:=I.list n;have f:=Vv x;obtain⟨b,g⟩:=f.allInts.items;have d:c=b.toList.map (·.1):=by rw[<- f.numsOf,<- l5,<- g]
 have k:=y.isList;rw[g] at k;have A:0<b.size:=by
  rcases Nat.eq_zero_or_pos b.size with z|z
  ·exact absurd (by rw[d,Array.eq_empty_of_size_eq_zero z];rfl) o
  ·exact z
 refine wT I (min_intList (I.ok.hd m) k A λv O B C D P=>?_);obtain⟨t,rfl⟩:=intItems_at C;obtain⟨R,E⟩:=argBest_lt (numAt b) (b.size-1);have F:numAt b (argBest (λi j=>decide (numAt b i<numAt b j)) (b.size-1))=xX c:=by
  refine Vc ?_ λa l=>?_
  ·rw[d,numAt_eq];exact getD_mem (by rw[aq,aG];lia)
  ·rw[d] at l;obtain⟨j,G,rfl⟩:=mem_getD l;rw[aq,aG] at G;rw[<- numAt_eq];exact E j 'd'
 rw[F];exact⟨.int _,H,I.kept (t':=B) D,⟨_,rfl⟩,q⟩
def Ee:Ow->List D->R D:=λO xs=>match xs with
 | [x]=>match r9 O x with
  | some ds=>match x9 ds with
   |some ns=>if ns≠[] then .ok (.int (xX ns)) O else .bad
   |none=>.bad
  |none=>.bad
 |_=>.bad
def ziR:vA X Ex (λxs H Q=>∃(p:ae)(a:List Int),xs=[.ref p]/\rn X.K H p (a.map V.int)/\a≠[]/\Q (.int (xX a)) H) Ee:=by
 intro H b k O xs l Q c d q;unfold Ee at q;split at q
 ·rename_i x;obtain⟨v,rfl,f⟩:=uu d;split at q
  ·rename_i m e;obtain⟨p,n,rfl,g,h⟩:=vU c f e;split at q
   ·rename_i a i;obtain⟨j,q⟩:=post.ite q;refine⟨p,a,rfl,?_,j,post.here q c sP⟩;rw[<- Mi h i];exact g
   ·exact aj q
  ·exact aj q
 ·exact aj q
noncomputable def Ig(i:Nat)(t:DE):DS:=λσ O=>match σ[i]? with
 | some (Xy (.int a))=>(t σ O).bnS λd O1=>match d with
  |.int b=>.nx (σ.set i (Xy (.int (a+b)))) O1
  |_=>.bad
 |_=>.bad
def zin(h:X.N.Nodup)(j:X.N[i]?=Xy x)(k:Loc X.env.scope x)(l:PD X Ex e te)(m:X.fn x=YP\/X.env.scope.names.lookup x=Xy .local:=by first|exact .inl rfl|exact .inr rfl):
  vm X Ex (.AugAssign (.Name x pos') .Add e pos) (Ig i te):=
 zX (zl7 h j k l.out Zi m) λn A B O E o H f s q=>by
  unfold Ig at q;split at q
  ·rename_i a t;obtain⟨v,u,g⟩:=f.at_ i _ t;unfold Xf at g;subst g;refine⟨.int a,u,rd.goS f s q λd C v w y z x c r p=>?_⟩;cases d with
   | int b=>
    unfold Xf at r;subst r;exact⟨a,b,rfl,rfl,p (o.set i (Xy (.int (a+b)))) w y .refl (z.set sP i) c⟩
   |_=>exact aj p
  ·exact aj q
end
end DL
namespace DL
open PySem L2
open PyProof.Rows (AllBare)
structure oJ(P:aP)(w:aZ)(K:ai)(mg:aB->Option ab)(base:a7)(x:aB)(k n:Nat)(Pt:ae)(F:ql):Prop where
 ex:∃f fd ps,mg x=Xy (.ref f)/\de K (.ref f)=YP/\Binds K fd ps []/\oV P w K mg base yN k f fd ps (Av K Bm n Pt F)
section
variable{P:aP}{w:aZ}{K:ai}{mg:aB->Option ab}{base:a7}{k n i:Nat}{x z:aB}{Pt c:ae}{F G:ql}
def oJ.imp(c:oJ P w K mg base x k n Pt F)(h:∀ds O H QH a Q,oC K H QH a O->rM qV K H QH a (G ds O) Q->rM qV K H QH a (F ds O) Q):oJ P w K mg base x k n Pt G:=by obtain⟨f,e,g,j,l,m,o⟩:=c.ex;exact⟨f,e,g,j,l,m,o.imp λs H Q E ⟨p,QH,a,ds,O,d,b,r,q⟩=>⟨p,QH,a,ds,O,d,b,r,h ds O H QH a Q b q⟩⟩
def oJ.bad(c:oJ P w K mg base x k n Pt F):oJ P w K mg base x k n Pt (λ_ _=>.bad):=c.imp λ_ _ _ _ _ _ _ q=>aj q
def oJ.self(c:oJ P w K mg base x k n Pt F):oJ P w K mg base x k n Pt F:=c
def oJ.frz(c:oJ P w K mg base x k n Pt F):oJ P w K mg base x k n Pt (yU F):=c.imp λd O H a e Q b q=>MQ b.len q
def LX{f:ae}{name b:aB}{j:iZ}{body:List eH}{a:c8}{C D m I o ct M:ab}{J R:Option ae}{T:Array (Option ab)}{N y:List aB}{t:DS}
  (U:K.lookup f=Xy ⟨M,R,.func (cr name b j body a C D m I J o ct),T⟩) (V:fe K o b=YP) (S:xf N y a) (W:N[i]?=Xy z) (X:¬ vK a z)
  (Y:∀(A:bb)(g:List Env)(s:ag)(H:Hp)(E:XK),oM k (A.deeper (eE b a s.heap.objs.size f o))->ua (DF P w K mg base N b a f o A g s H E) qV body t):
  oV P w K mg base yN (k+1) f (cr name b j body a C D m I J o ct) y (Av K Bm y.length Pt (yQ N.length i Pt t)):=by
 refine qr U V S (λZ H Q E h=>h.1) λA g s H Z Q E hr h=>?_;obtain⟨hl,B,μ,L,O,d,c,ti,l⟩:=h;refine⟨_,(t_.fake W X (Y A g s H E hr).out).nox,B,μ,_,O,(VO d N).set (d:=.tab Pt) (by unfold Xf;exact⟨rfl,ti⟩) i,c,?_⟩;unfold yQ at l;generalize t ((L.map Xy++aU (N.length-L.length) XV).set i (Xy (.tab Pt))) O=r at l;cases r with
 |nx σ O'=>exact λb_ p q x e u=>l .non p q x u Jn
 |rt d' O'=>exact λv p q x u r=>l v p q x u r
 |bk σ O'=>exact aj l
 |ct σ O'=>exact aj l
 |exc u O'=>exact λp q x c2=>l p q x c2
 |bad=>exact aj l
def Pj(h:qO K mg x st)(S:xf N ps (rR st))(o:N[i]?=Xy z)(p:¬ vK (rR st) z)
  (q:∀(g d j:ab)(l:Option ae)(b m:ab)(e:List ab),e.length=ps.length->bindArgs (cr x x (yE st) (vE st) (rR st) .none g d j l b m) ⟨e,[]⟩=pure (ps.zip e))
  (r:∀(f:ae)(b:ab)(A:bb)(a:List Env)(s:ag)(H:Hp)(E:XK),oM k (A.deeper (eE x (rR st) s.heap.objs.size f b))->ua (DF P w K mg base N x (rR st) f b A a s H E) qV (vE st) t):
  oJ P w K mg base x (k+1) ps.length Pt (yQ N.length i Pt t):=by obtain⟨f,u,v,F⟩:=h;refine⟨f,u,ps,v,F.kp,F.binds q,?_⟩;obtain⟨D,I,g,d,j,l,b,m,J,rfl,y,B⟩:=F.ex;exact LX y B S o p λA a s H E C=>r f b A a s H E C
def Qp(h:Au K mg x st c)(S:xf N ps (rR st))(o:N[i]?=Xy z)(p:¬ vK (rR st) z)
  (q:∀(e b g:ab)(j:Option ae)(l m:ab)(d:List ab),d.length=ps.length->bindArgs (cr x x (yE st) (vE st) (rR st) .none e b g j l m) ⟨d,[]⟩=pure (ps.zip d))
  (r:∀(f:ae)(A:bb)(a:List Env)(s:ag)(H:Hp)(E:XK),oM k (A.deeper (eE x (rR st) s.heap.objs.size f (.ref c)))->ua (DF P w K mg base N x (rR st) f (.ref c) A a s H E) qV (vE st) t):
  oJ P w K mg base x (k+1) ps.length Pt (yQ N.length i Pt t):=by obtain⟨f,u,v,F,y⟩:=h.ex;refine⟨f,u,ps,v,F.kp,F.binds q,?_⟩;obtain⟨I,J,e,b,g,j,l,m,L,rfl,B,C⟩:=F.ex;cases (y);exact LX B C S o p λA a s H E D=>r f A a s H E D
def X2(F:L2.Fun K x x st f fd)(S:xf N ps (rR st))(d:N[i]?=Xy z)(e:¬ vK (rR st) z)
  (g:∀(b:ab)(A:bb)(a:List Env)(s:ag)(H:Hp)(E:XK),oM k (A.deeper (eE x (rR st) s.heap.objs.size f b))->ua (DF P w K mg base N x (rR st) f b A a s H E) qV (vE st) t):
  oV P w K mg base yN (k+1) f fd ps (Av K Bm ps.length Pt (yQ N.length i Pt t)):=by obtain⟨o,p,q,h,r,u,b,v,y,rfl,j,l⟩:=F.ex;exact LX j l S d e λA a s H E m=>g b A a s H E m
end
def Ef(c:oJ X.prog X.w X.K X.mg X.base x k n Pt F)(l:oM j X.A)(m:k<=j)(o:Gl X x)(r:uA X qV (e::es) t)
  (s:s9 x:=by decide) (u:aR (e::es) X.env=(Y1,eval e X.env)::aR es X.env:=by rfl) (y:(backTo pos (aR es X.env)).any (·.1)=Y1:=by rfl):
  PD X qV (.Call (.Name x p) (e::es) [] pos) (vq Pt iT n F t):=by
 obtain⟨f,U,V,z,B,C,G⟩:=c.ex;refine sE (Sl (G.mono m) l o z B C .nil QE r.out s u y) λa D E O W H Q h I q=>?_;obtain⟨J,q⟩:oQ H Pt/\rM qV X.K H a D (j_ n F t E O) Q:=by
  unfold vq at q;split at q
  ·rename_i p L;by_cases b:p=Pt
   ·rw[Kk b] at q;obtain⟨v,_,d⟩:=h.at_ iT _ L;rw[b] at d;exact⟨d.2,q⟩
   ·rw[Ko b] at q;exact aj q
  ·exact aj q
 refine uT.go h I q λM N Y Z P e2 R S i g=>?_;obtain⟨T,g⟩:=post.ite g;refine⟨by rw[bw,<- i.length];exact T,a,P,M,N,?_,S,R.tab _ J,g⟩;rw[bw];exact i
def walkU{l:mh}{q:aP}{loose:List aB}{XP:(aB->Option ab)->a7->Prop}{r:aZ->a7->Prop}{d:DefRec}{K:i3->ai}{k:Nat}{x xd:aB}{F:Nat->ql}{α:Type}{Yf:ag->α}{Ya:aZ->α}(M:l.most=Xy 63)(N:d.params.defaults=[])(P:oM k callerA)
  (Q:∀w s,Yf s=Ya w->r w s.heap) (R:∀w h h',r w h->(∀b o,h.get? b=Xy o->h'.get? b=Xy o)->r w h')
  (S:∀(w:aZ)(h:a7),r w h->(K w.params).In h) (U:((PyProof.Rows.recsOf q).find? (λe=>e.name==xd)).isSome=YP)
  (V:∀(w:aZ)(i:aB->Option ab)(t:ae)(h:a7),(K w.params).In h->h.Ns bQ i->i d.name=Xy (.ref t)->
   jo (K w.params)=YP/\∃(c Pt:ae),jP (K w.params) xd=Xy (c,Pt)/\∃y:fc,(∀(s:ag)(u:ab),k9 s y ⟨[u],[]⟩ [(x,u)])/\∀base:a7,(K w.params).In base->base.Ns bQ i->xG i base c Pt->oV l.prog w (K w.params) i base yN k t y [x] (Av (K w.params) Bm 1 Pt (F Pt)))
  (m:∀(Pt:Nat)(v:List Int),v.length<=63->∃O,F Pt [.lst (v.map .int)] []=.ok (.bl YP) O):
  PySem.W.WalkX q loose XP (λs=>(Yf s,decide (0<s.toks))) (λw=>(Ya w,YP)) l.row.toRowW d [] (λf C=>PySem.call f C):=by
 refine Att.attach_call M N Q R λw D X i mb t o pm cd Z a C v G Y ho E rH Hd Dg n j hg rB=>?_;have A:=S w _ Y;obtain⟨hK,c,Pt,ht,y,hb,hG⟩:=V w i t _ A G.T.g Hd;obtain⟨dd,I⟩:=hV.mp U;have hnm:dd.name=xd:=by simpa using List.find?_some I
 obtain⟨hC,J⟩:=PySem.W.tab_of G.T A I ht;have hB:X.heap.BuiltinsAt i Pt:=by
  obtain⟨bm,ob,b1,b2,p,L,b5,B⟩:=G.T.bmain;refine⟨bm,ob,b1,b2,λq=>?_,λq=>?_,p,L,b5,B⟩
  ·obtain⟨o,es,ep,e,E,_⟩:=G.T.g;rw[q,e] at p;cases p;rw[E] at B;cases B
  ·rw[q,J] at p;cases p;cases L
 exact zcW A G.T.g G.T.b G.T.builtins G.T.nolimit hg rB Dg n (aH j 'u') P hC J hK hB hG hb (λH hT hS=>zkf (m Pt v j) hT hS) λH e s' z=>z
end DL
namespace DL
open PySem L2 PyProof.Rows
def z8X(t:T = "list" \/ T = "tuple")(u:s.heap.get? p=Xy o)(v:o.cls=.type T)(x:o.data=.seq vs.toArray n)(g:f7 vs ss)(k:vs.length<=4000000)
  (h:∀(a h':a7)(d:Array ab)(i:List aB)(c:Nat),(∀b f,s.heap.get? b=Xy f->a.get? b=Xy f)->(∀b f,a.get? b=Xy f->h'.get? b=Xy f)->h'.get? a.objs.size=Xy { cls:=.type "list",data:=.seq d c }->f7 d.toList i->i.Perm ss->sortedS i=YP->Q (.ref a.objs.size) { s with heap:=h' }):
  av (az prog w) A (call (.builtin "sorted") [.ref p]) Q E s:=by
 refine g8 mX mw mx (my _) ?_;refine aa (ah ?_);have L:vs.toArray.size<=Kw:=by rw[aL];exact aH k 'u'
 refine aa (wpAny_collect_seq p t u v x λa y=>?_);refine aa (gO ?_);have M:vs.toArray.toList=vs:=by simp
 have j:(a.push (seqObj "list" vs.toArray 0)).get? a.objs.size=Xy (seqObj "list" vs.toArray 0):=aI _ rfl;refine aa (bH (cf lz ⟨_,j,rfl⟩ kK (TS.list_sort_big lU j g.keysOf (λN O l e=>keyKind_strs (by rw[<- e];exact g)) k λz B C=>⟨_,rfl,?_⟩) (lA _)));obtain⟨D,F,G,H⟩:=sorted_out_str g B C;refine ah ⟨_,rfl,?_⟩;have I:=cm (bF λ_=>#[]) j rfl;have J:=af (seqObj "list" #[] 0) (af (seqObj "tuple" vs.toArray 0) I);have K:=cm (bF λ_=>(Ku z).map (·.2)) J rfl;refine h a _ _ D _ y (λb o m=>?_) K F G H;have r:a.objs.size≠b:=λq=>absurd (aN m) (by rw[<- q];exact bZ _);exact(cC _ _ r).trans (af _ (af _ ((cC _ _ r).trans (af _ m))))
section
variable{X:Cx}{Ex:Nat->Hp->Prop}{H:Hp}{QH μ:List ae}
def QR(K:ai):List V->Hp->VK->Prop:=λxs H Q=>∃p ss,xs=[.ref p]/\sC K H p (ss.map λcs=>V.str ⟨cs.toArray⟩)/\ss.Nodup/\ss.length<=1000/\∀l,H l=XV->Q (.ref l) (upd H l (.lst ((qB ss).map λcs=>V.str ⟨cs.toArray⟩)))
def zet:oN X (.builtin "sorted") (QR X.K):=by
 intro g s N H O P Q I r h;obtain⟨p,a,rfl,m,t,v,q⟩:=h;obtain⟨u,rfl,w⟩:=uO r;cases w;obtain⟨x,i,⟨o,y,z,n,A⟩,R⟩:=I.tuple m;have B:(a.map λb=>V.str ⟨b.toArray⟩)=(a.map toS).map V.str:=by rw[bi];rfl
 have C:=Vp (by rw[<- B];exact i);have j:x.length=a.length:=by have:=i.length;simpa using this.symm
 refine z8X (.inr rfl) y z A C 'd' λD S d T c E F G J k L=>?_;have e:=Td k t L;subst e;have l:=I.kept E;have f:oF ((qB a).map λb=>V.str ⟨b.toArray⟩) d.toList:=by
  have f:=JH J;rw[bi] at f;exact f
 have M:(qB a).length=a.length:=by have:=k.length_eq;simpa using this
 exact⟨.ref D.objs.size,_,l.laid (o:=.lst ((qB a).map λb=>V.str ⟨b.toArray⟩)) F (aE _) ⟨by rw[aq,M];exact aH v 'u',d.toList,c,f,by rw[G]⟩,rfl,q _ (l.hok.fresh (aE _))⟩
def zT:Ow->List D->R D:=λO xs=>match xs with
 | [.tup ds]=>match uY ds with
  |some ss=>if ss.Nodup/\ss.length<=1000 then .ok (.lst ((qB ss).map .str)) O else .bad
  |none=>.bad
 |_=>.bad
def zhD:vA X Ex (QR X.K) zT:=by
 intro H QH μ O m n Q c d q;unfold zT at q;split at q
 ·rename_i o;obtain⟨v,rfl,b⟩:=uu d;obtain⟨p,r,rfl,e,f⟩:=Co b rfl;split at q
  ·rename_i g h;obtain⟨⟨i,j⟩,q⟩:=post.ite q;have k:=FW f h;subst k;exact⟨p,g,rfl,e,i,j,λl a=>post.ok q (.laid a) (c.laid a) (Xf.newL c a (Gc _))⟩
  ·exact aj q
 ·exact aj q
end
noncomputable def LD(out sc:c8)(x:aB):Bool:=(match sc.kind with|.function=>YP|_=>Y1) && !sc.isCoroutine && !sc.isGenerator&&decide ((sc.names.map (·.1)).Nodup)&&(sc.names.lookup x==Xy .local)&&(sc.names.all λy=>!(y.2 == .cell)&&(!(y.2 == .local)||y.1==x))&&(sc.names.all λy=>!(y.2 == .free)||out.names.lookup y.1==Xy .cell||out.names.lookup y.1==Xy .free)
def YR(h:LD out sc x=YP):Q4 out sc x:=by
 unfold LD at h;simp only[aY,decide_eq_true_eq,al] at h;obtain⟨⟨⟨⟨⟨⟨c,f⟩,g⟩,i⟩,j⟩,d⟩,k⟩:=h;refine⟨?_,by simpa using f,by simpa using g,i,λy a=>?_,by simpa using j,λy a b=>?_,λy a b=>?_⟩
 ·cases e:sc.kind<;>rw[e] at c<;>first|rfl|cases c
 ·have:=(d y a).1;simpa using this
 ·have:=(d y a).2;rw[b] at this;simpa using this
 ·have:=k y a;rw[b] at this;simpa using this
def zeC(f:oM (k+2) X.A)(g:X.calm=YP)(L:xG X.mg X.base c Pt)(h:X.env.code=.ref c)(i:LD X.env.scope scope x=YP)(j:defaultsOf params X.env=([],[]))
  (l:∀(name a:aB)(cl:List (aB×ae))(pm d ct u:ab),bindArgs (d7 name a params body scope cl pm d ct) ⟨[u],[]⟩=pure [(x,u)]) (m:(X.N++[x]).Nodup) (n:PD X Ex e te)
  (o:∀(q:aB)(b:ae)(d:ab)(cl:List (aB×ae))(A:bb)(outer:List Env)(s:ag)(H:Hp),oM k (A.deeper (yv q scope s.heap.objs.size b d cl))->PD (HL X.prog X.w X.K X.mg X.base (X.N++[x]) (yv q scope s.heap.objs.size b d cl) A outer s H) qV body tE)
  (p:Gl X "min") (r:X.mg "min" = XV) (t:aR [e] X.env=[(Y1,eval e X.env)]:=by rfl):PD X Ex (.Call (.Name "min" pn) [e] [⟨Xy (iD "key"),.Lambda params body scope pl,kq⟩] pp) (D9 Pt iT te tE):=
 zjV f g L h (YR i) j l (λz=>(dS.mp m).2.2 x z x 'k' rfl) n o p r t
def z9k{X:Cx}{j:Nat->Hp->Prop}{c f b:aT}{d:List aT}{h:List bN}{a:c8}{e l m:Pos}{y:aB}{i k:Nat}{ext:List aB}{it0:DI}{g:Tg}{ts:List DT}{cs:List Cl}{te:DE}(_:Nx ext)(o:Bool)(n:X.calm=YP)(p:X.N.Nodup)(q:X.N[i]?=Xy y)(r:X.env.scope.names.lookup y=Xy .local)(s:yt X.env.scope a (X.N++ext) (qT (⟨it0,g,ts⟩::cs)))(t:tK X j f b it0)(u:IM X ext a f g d ts h cs c te)
  (v:swapsWith (.ListComp c (⟨f,b,d,0⟩::h) a e) (Xy (.Name y m)) l.line X.env=pure YP) (w:ext.length=k:=by rfl) (z:∀x,bV b X.env x=pure x:=by intro _;rfl):
  PS X (.Assign [.Name y m] (.ListComp c (⟨f,b,d,0⟩::h) a e) l) (DR (rd j X.K (qp o k it0 g ts cs te)) (AB i)):=w▸zaN o ext n p q r t s u v z
end DL
namespace DL
open PySem L2
section
variable{X:Cx}{Ex:Nat->Hp->Prop}
def z6w{w B D h:aT}{j:List aT}{R:List bN}{f:c8}{l sH F:Pos}{y:aB}{i k:Nat}{ext:List aB}{it0:DI}{g:Tg}{ts:List DT}{cs:List Cl}{tk tv:DE}(_:Nx ext)(pW:X.calm=YP)(hN:X.N.Nodup)(A8:X.N[i]?=Xy y)(hy:X.env.scope.names.lookup y=Xy .local)(hb:yt X.env.scope f (X.N++ext) (qT (⟨it0,g,ts⟩::cs)))(hi:tK X Ex D h it0)
  (tU:∀cells C s H r,PG (qY X (X.N++ext) f cells C s H r) D (g.rd X.K)/\cj (λe t=>sj (qY X (X.N++ext) f cells C s H r) qV e t) j ts/\oW (qY X (X.N++ext) f cells C s H r) R cs/\PD (qY X (X.N++ext) f cells C s H r) qV w tk/\PD (qY X (X.N++ext) f cells C s H r) qV B tv)
  (zu:swapsWith (.DictComp w B (⟨D,h,j,0⟩::R) f l) (Xy (.Name y F)) sH.line X.env=pure YP) (hk:ext.length=k:=by rfl)
  (hs:∀x,bV h X.env x=pure x:=by intro _;rfl):vm X Ex (.Assign [.Name y F] (.DictComp w B (⟨D,h,j,0⟩::R) f l) sH) (p_ i (y0 k it0 g ts cs tk tv)):=by
 subst hk;refine⟨?_⟩;rintro G s b_ H E I ⟨M,μ,U,O,e1,c1,q⟩;rw[i0 _ _ _ _ zu];refine aa (eR (aa ?_));show av _ X.A (do let _ <- comprehension (.DictComp w B (⟨D,h,j,0⟩::R) f l) f X.env _ newDict Y1 (eval h X.env) (Xy (assign (.Name y F) X.env))) _ _ s;have q:oH Ex X.K H M μ ((y0 ext.length it0 g ts cs tk tv U O).bnS λd O1=>.nx (U.set i (Xy d)) O1) E:=q;unfold y0 at q;refine aa (cB (F1 (UA w B) (use:=Xy (assign (.Name y F) X.env)) (Q:=λ_ S=>SP X G E .next S) pW hi hb (λcells Cn s H r _ _ _=>Qd tU cells Cn s H r) hs I e1 c1 ?_) (λ_ S hq=>ah (ah hq)) λ_ _ e=>e);cases V:BE ext.length it0 g ts cs (B1 tk tv) U O with
 |bad=>rw[V] at q;exact q
 |exc c' O'=>rw[V] at q;exact q
 | ok Xo O'=>
  rw[V] at q;rintro L W T nL x c ⟨Y,Z,rfl,hA,hl,dA⟩ S C I' ns nC l1 y1 ce pn;obtain⟨m,hn⟩:=ns;have n1:L∉M:=λm=>c1.ht L m nL;show av _ _ (assign (.Name y F) X.env (.ref L)) _ _ S;refine iz (Jx (v:=.ref L) I' hN A8 (.inl hy) rfl (λAf HW vY=>?_) (.inr hy));obtain⟨a,Dd,ha⟩:=vY;have HB:C≠a:=by
   rcases ha with z|z
   ·rw[z];exact l1
   ·exact λe=>ce y a z e.symm
  refine⟨m,hn.sameBut Dd HB,λh' zw=>?_⟩;obtain⟨o,J⟩:=Inv.frzK (Inv.bare HW zw nC l1 y1 ce pn) hA;have ea:Ea L W T (upd W L (.frz o (.dK ((Y.map λp=>kD p.1).zip Z)))) T:=.putX (yY hA);have c2:=c.putX (o:=.frz o (.dK ((Y.map λp=>kD p.1).zip Z))) (yY hA);have P:=x.ea.trans ea;have x3:Ext H μ (upd W L (.frz o (.dK ((Y.map λp=>kD p.1).zip Z)))) T:=⟨P.pre,λb u g n ht=>P.kept b u g n (sR g nL) ht,P.fresh,P.there,P.tab⟩;exact⟨_,_,J,q _ _ T x3 ((e1.ext x3).set (VN c2 n1 rZ hl (dA.mv ea.mv)) i) c2.unhide⟩
end
end DL
namespace DLC
section
variable{α:Type}[DecidableEq α]
abbrev Held(α:Type):=List (n_×List α)
def keys(h:Held α):l_:=h.map (·.1)
def hold(h:Held α)(x:α):l_:=(h.filter λkv=>kv.2.contains x).map (·.1)
noncomputable def at_(h:Held α)(t:n_):List α:=((h.find? λkv=>decide (kv.1=t)).map (·.2)).getD []
def drop(h:Held α)(t:n_):Held α:=h.filter λkv=>decide (kv.1≠t)
noncomputable def minGo(f:α->Nat):List α->α->α
 |[],b=>b
 |x::xs,b=>if f x<f b then minGo f xs x else minGo f xs b
def left(h:Held α)(w:List α)(t:n_):List α:=w.filter λx=>!(at_ h t).contains x
def covL(rec:Held α->List α->List l_)(h:Held α)(w:List α):l_->Held α->List l_
 |[],_=>[]
 |t::ts,r=>(rec (drop r t) (left h w t)).map (t :: ·)++covL rec h w ts (drop r t)
def cov:Nat->Held α->List α->List l_
 |_,_,[]=>[[]]
 |0,_,_::_=>[]
 |m+1,h,x::w=>covL (cov m) h (x::w) (hold h (minGo (λy=>(hold h y).length) w x)) h
theorem minGo_mem(f:α->Nat):∀(l:List α)(b:α),minGo f l b=b\/minGo f l b∈l
 |[],b=>.inl rfl
 | x::xs,b=>by
  unfold minGo;split
  ·rcases minGo_mem f xs x with h|h
   ·exact .inr (by rw[h];exact ar)
   ·exact .inr (ak _ h)
  ·rcases minGo_mem f xs b with h|h
   ·exact .inl h
   ·exact .inr (ak _ h)
def Cov(h:Held α)(w:List α)(S:l_):Prop:=(∀t∈S,t∈keys h)/\∀x∈w,∃t∈S,x∈at_ h t
def mem_drop{h:Held α}{t:n_}{a:n_×List α}:a∈drop h t↔a∈h/\a.1≠t:=by unfold drop;simp
def keys_drop{h:Held α}{t s:n_}:s∈keys (drop h t)↔s∈keys h/\s≠t:=by
 unfold keys;simp only[ay,mem_drop];constructor
 ·rintro⟨a,⟨b,c⟩,rfl⟩;exact⟨⟨a,b,rfl⟩,c⟩
 ·rintro⟨⟨a,b,rfl⟩,c⟩;exact⟨a,⟨b,c⟩,rfl⟩
def nd_drop{h:Held α}{t:n_}(n:(keys h).Nodup):(keys (drop h t)).Nodup:=by exact n.sublist ((gW).map _)
def S_{h:Held α}{t s:n_}(b:s≠t):at_ (drop h t) s=at_ h s:=by
 unfold at_ drop;congr 2
 induction h with
 |nil=>rfl
 | cons kv r ih=>
  by_cases e:kv.1=t
  ·rw[dJ ⇑e,gj (by simpa using λz=>b (z.symm.trans e)),ih]
  ·rw[dL ⇑e];by_cases a:kv.1=s
   ·rw[iK ⇑a,iK ⇑a]
   ·rw[gj ⇑a,gj ⇑a,ih]
def at_mem{h:Held α}(n:(keys h).Nodup){b:n_×List α}(m:b∈h):at_ h b.1=b.2:=by
 unfold at_
 induction h with
 |nil=>cases m
 | cons a r ih=>
  unfold keys at n;rw[bB,bz] at n;rcases aw.mp m with rfl|m
  ·rw[iK 'k'];rfl
  ·have c:a.1≠b.1:=λz=>n.1 (z▸ay.mpr ⟨b,m,rfl⟩);rw[gj ⇑c];exact ih n.2 m
def mem_hold{h:Held α}(n:(keys h).Nodup){x:α}{t:n_}:t∈hold h x↔t∈keys h/\x∈at_ h t:=by
 unfold hold;simp only[ay,aA,bo];constructor
 ·rintro⟨b,⟨a,c⟩,rfl⟩;exact⟨ay.mpr ⟨b,a,rfl⟩,by rw[at_mem n a];exact c⟩
 ·rintro⟨a,c⟩;obtain⟨b,d,rfl⟩:=ay.mp a;exact⟨b,⟨d,by rw[<- at_mem n d];exact c⟩,rfl⟩
def hold_nd{h:Held α}(n:(keys h).Nodup)(x:α):(hold h x).Nodup:=by exact n.sublist ((gW).map _)
def pB{h:Held α}{w:List α}{t:n_}{x:α}:x∈left h w t↔x∈w/\x∉at_ h t:=by unfold left;simp
theorem cov_sound:∀(m:Nat){h:Held α}{w:List α}{c:l_},(keys h).Nodup->c∈cov m h w->c.length<=m/\c.Nodup/\Cov h w c
 | m,h,[],c,n,hc=>by
  have:c=[]:=by unfold cov at hc;simpa using hc
  subst this;exact⟨bI _,ir,⟨λ_ z=>(cg z).elim,λ_ z=>(cg z).elim⟩⟩
 |0,h,x::w,c,n,hc=>by unfold cov at hc;cases hc
 | m+1,h,x::w,c,n,hc=>by
  have v:∀(b:l_)(r:Held α),(∀t∈b,t∈keys h)->(∀a∈r,a∈h)->(keys r).Nodup->c∈covL (cov m) h (x::w) b r->c.length<=m+1/\c.Nodup/\Cov h (x::w) c:=by
   intro b
   induction b with
   |nil=>intro r _ _ _ hc;cases hc
   | cons t b ih=>
    intro r g j k hc;rcases aM.mp hc with hc|hc
    ·obtain⟨p,A,rfl⟩:=ay.mp hc;obtain⟨B,C,q,D⟩:=cov_sound m (nd_drop k) A;have d:∀s∈p,s∈keys h/\s≠t:=λs hs=>by
      obtain⟨l,o⟩:=keys_drop.mp (q s hs);obtain⟨a,i,rfl⟩:=ay.mp l;exact⟨ay.mpr ⟨a,j a i,rfl⟩,o⟩
     have f:∀s∈p,at_ (drop r t) s=at_ h s:=λs hs=>by
      obtain⟨l,o⟩:=keys_drop.mp (q s hs);rw[S_ o];obtain⟨a,i,rfl⟩:=ay.mp l;rw[at_mem k i,at_mem n (j a i)]
     refine⟨by simpa using B,bz.mpr ⟨λz=>(d t z).2 rfl,C⟩,λs hs=>?_,λy E=>?_⟩
     ·rcases aw.mp hs with rfl|hs
      ·exact g s ar
      ·exact(d s hs).1
     ·by_cases e:y∈at_ h t
      ·exact⟨t,ar,e⟩
      ·obtain⟨s,u,F⟩:=D y (pB.mpr ⟨E,e⟩);exact⟨s,ak _ u,by rw[<- f s u];exact F⟩
    ·exact ih (drop r t) (λs hs=>g s (ak _ hs)) (λa G=>j a (mem_drop.mp G).1) (nd_drop k) hc
  exact v _ h (λt g=>(mem_hold n).mp g |>.1) (λ_ h=>h) n hc
def cov_some:∀(m:Nat){h:Held α}{w:List α}{S:l_},(keys h).Nodup->Cov h w S->S.length<=m->∃c∈cov m h w,∀t∈c,t∈S
 |m,h,[],S,n,hS,hl=>⟨[],by unfold cov;simp,λ_ z=>(cg z).elim⟩
 | 0,h,x::w,S,n,hS,hl=>by
  obtain⟨t,a,_⟩:=hS.2 x ar;have:S=[]:=cJ.mp 'd';subst this;cases a
 | m+1,h,x::w,S,n,hS,hl=>by
  unfold cov;generalize u:minGo (λy=>(hold h y).length) w x=y;have G:y∈x::w:=by
   rcases minGo_mem (λy=>(hold h y).length) w x with e|e
   ·rw[<- u,e];exact ar
   ·rw[<- u];exact ak _ e
  obtain⟨s,v,H⟩:=hS.2 y G;have hs:=(mem_hold n).mpr ⟨hS.1 s v,H⟩;have I:∀(b:l_)(r:Held α),(∃t∈b,t∈S)->(∀d∈r,d∈h)->(keys r).Nodup->(∀t∈S,t∈keys r)->b.Nodup->∃c∈covL (cov m) h (x::w) b r,∀t∈c,t∈S:=by
   intro b
   induction b with
   |nil=>rintro r ⟨_,h,_⟩;cases h
   | cons t b ih=>
    intro r g A i f J;by_cases a:t∈S
    ·have K:Cov (drop r t) (left h (x::w) t) (S.filter λs=>decide (s≠t)):=by
      refine⟨λs hs=>?_,λz L=>?_⟩
      ·obtain⟨j,k⟩:=aA.mp hs;exact keys_drop.mpr ⟨f s j,by simpa using k⟩
      ·obtain⟨j,k⟩:=pB.mp L;obtain⟨l,B,C⟩:=hS.2 z j;have D:l≠t:=λe=>k (e▸C);refine⟨l,aA.mpr ⟨B,by simpa using D⟩,?_⟩;rw[S_ D];obtain⟨d,E,rfl⟩:=ay.mp (f l B);rw[at_mem i E,<- at_mem n (A d E)];exact C
     have N:(S.filter λs=>decide (s≠t)).length<S.length:=by
      rcases jf (S.filter λs=>decide (s≠t)).length S.length with z|z
      ·exact z
      ·have e:=gW.eq_of_length (nK (aQ _ _) z);rw[<- e] at a;have:=(aA.mp a).2;simp at this
     obtain⟨c,o,p⟩:=cov_some m (nd_drop i) K 'd';refine⟨t::c,bt _ (ay.mpr ⟨c,o,rfl⟩),λs hs=>?_⟩;rcases aw.mp hs with rfl|hs
     ·exact a
     ·exact(aA.mp (p s hs)).1
    ·obtain⟨M,q,F⟩:=g;have q:=(aw.mp q).resolve_left (λe=>a (e▸F));obtain⟨c,o,p⟩:=ih (drop r t) ⟨M,q,F⟩ (λd f=>A d (mem_drop.mp f).1) (nd_drop i) (λs hs=>keys_drop.mpr ⟨f s hs,λe=>a (e▸hs)⟩) (bz.mp J).2;exact⟨c,aC _ o,p⟩
  exact I _ h ⟨s,hs,v⟩ (λ_ h=>h) n hS.1 (hold_nd n y)
end
section
variable{α:Type}[DecidableEq α]
def drop_lt{r:Held α}{t:n_}(b:t∈keys r):(drop r t).length<r.length:=by
 obtain⟨a,h,rfl⟩:=ay.mp b;rcases jf (drop r a.1).length r.length with z|z
 ·exact z
 ·have e:drop r a.1=r:=gW.eq_of_length (nK (aQ _ _) z);rw[<- e] at h;exact absurd rfl (mem_drop.mp h).2
theorem Ur(a:∀r w,(keys r).Nodup->(rec r w).length<=2 ^ r.length):∀(ts:l_)(r:Held α),(∀t∈ts,t∈keys r)->ts.Nodup->(keys r).Nodup->(covL rec h w ts r).length<=2 ^ r.length
 |[],r,_,_,_=>bI _
 | t::ts,r,hk,nt,nr=>by
  unfold covL;rw[au,aq];have d:=a (drop r t) (left h w t) (nd_drop nr);have f:=Ur (h:=h) (w:=w) a ts (drop r t) (λs b=>keys_drop.mpr ⟨hk s (ak _ b),λe=>(bz.mp nt).1 (e▸b)⟩) (bz.mp nt).2 (nd_drop nr);have c:2 ^ ((drop r t).length+1)<=2 ^ r.length:=di 'd' (drop_lt (hk t ar));rw[Nat.pow_succ] at c;lia
theorem cov_pow:∀(m:Nat)(h:Held α)(w:List α),(keys h).Nodup->(cov m h w).length<=2 ^ h.length
 |m,h,[],_=>by unfold cov;exact jF
 |0,h,x::w,_=>by unfold cov;exact bI _
 | m+1,h,x::w,n=>by
  unfold cov;exact Ur (cov_pow m) _ h (λt a=>((mem_hold n).mp a).1) (hold_nd n _) n
theorem perm_of_sub:∀{c S:l_},c.Nodup->(∀t∈c,t∈S)->S.length<=c.length->c.Perm S
 | [],S,_,_,h=>by
  have:S=[]:=cJ.mp (Nat.le_zero.mp h);rw[this]
 | a::c,S,n,hs,h=>by
  have b:=hs a ar;have d:=bz.mp n;have:=perm_of_sub (S:=S.erase a) d.2 (λt f=>(jg (λe:t=a=>d.1 (e▸f))).mpr (hs t (ak _ f))) (by
   rw[il b];rw[aW] at h;lia)
  exact(this.cons a).trans (List.perm_cons_erase b).symm
structure Lm(h:Held α)(w:List α)(m:Nat):Prop where
 nd:(keys h).Nodup
 ne:cov m h w≠[]
 no:∀j,j<m->cov j h w=[]
def Lm.le{h:Held α}{w:List α}{m:Nat}(z:Lm h w m){S:l_}(b:Cov h w S):m<=S.length:=by
 rcases jf S.length m with g|g
 ·obtain⟨c,a,_⟩:=cov_some S.length z.nd b (aE _);rw[z.no _ g] at a;cases a
 ·exact g
def Lm.len{h:Held α}{w:List α}{m:Nat}(z:Lm h w m){c:l_}(a:c∈cov m h w):c.length=m:=by obtain⟨d,_,b⟩:=cov_sound m z.nd a;have:=z.le b;lia
def Lm.all{h:Held α}{w:List α}{m:Nat}(z:Lm h w m){S:l_}(d:Cov h w S)(b:S.length=m):∃c∈cov m h w,c.Perm S:=by obtain⟨c,a,e⟩:=cov_some m z.nd d (ig b);exact⟨c,a,perm_of_sub (cov_sound m z.nd a).2.1 e (by rw[z.len a,b];exact aE _)⟩
end
end DLC
namespace DLB
def mkN(p:Nat->Bool):Nat->Nat
 |0=>0
 |N+1=>mkN p N+(if p N=YP then 2 ^ N else 0)
theorem LU(p:Nat->Bool):∀N,mkN p N<2 ^ N
 |0=>Nat.one_pos
 | N+1=>by
  have:=LU p N;unfold mkN;split<;>lia
theorem Jl(p:Nat->Bool)(i:Nat):∀N,(mkN p N).testBit i=(decide (i<N)&&p i)
 |0=>by unfold mkN;simp
 | N+1=>by
  have b:=Jl p i N;have c:=LU p N;unfold mkN;rcases Nat.lt_trichotomy i N with h|h|h
  ·have e:decide (i<N+1)=YP:=by simp;lia
   rw[decide_eq_true h] at b;rw[e];split
   ·rw[ki,Nat.testBit_two_pow_add_gt h];exact b
   ·exact b
  ·subst h;have z:=kW c;by_cases a:p i=YP
   ·rw[Kk a,ki,Nat.testBit_two_pow_add_eq,z,a];simp
   ·rw[Ko a,km,z];simp[a]
  ·have e:decide (i<N+1)=Y1:=by simp;lia
   rw[e,kZ];have d:=LU p (N+1);exact kW (be d (di 'u' h))
def orM{α:Type}(g:α->Nat)(l:List α):Nat:=l.foldl (λa t=>a ||| g t) 0
theorem Rp{α:Type}(g:α->Nat)(i:Nat):∀(l:List α)(a:Nat),(l.foldl (λa t=>a ||| g t) a).testBit i=(a.testBit i||l.any λt=>(g t).testBit i)
 |[],a=>by simp
 |t::l,a=>by rw[fC,Rp g i l,Nat.testBit_or,f9,Bool.or_assoc]
def So{α:Type}(g:α->Nat)(l:List α)(i:Nat):(orM g l).testBit i=l.any λt=>(g t).testBit i:=by unfold orM;rw[Rp,Nat.zero_testBit,gM]
def orM_app{α:Type}(g:α->Nat)(l:List α)(t:α):orM g (l++[t])=orM g l ||| g t:=by unfold orM;rw[jZ];rfl
def full_iff{α:Type}{p:α->Nat->Bool}{N:Nat}(l:List α):orM (λt=>mkN (p t) N) l=2 ^ N-1 ↔ ∀i,i<N->∃t∈l,p t i=YP:=by
 constructor
 ·intro h i a;have:(orM (λt=>mkN (p t) N) l).testBit i=(2 ^ N-1).testBit i:=by rw[h]
  rw[So,jG,decide_eq_true a] at this;obtain⟨t,b,q⟩:=bA.mp this;rw[Jl,aY] at q;exact⟨t,b,q.2⟩
 ·intro h;refine Nat.eq_of_testBit_eq λi=>?_;rw[So,jG];by_cases a:i<N
  ·rw[decide_eq_true a];obtain⟨t,b,q⟩:=h i a;exact bA.mpr ⟨t,b,by rw[Jl,q,decide_eq_true a];rfl⟩
  ·rw[decide_eq_false a,gp];intro t _;rw[Jl,decide_eq_false a];simp
theorem sum_mkN(p:Nat->Bool):∀N,(((aV N).filter p).map λi=>((2 ^ i:Nat):Int)).sum=(mkN p N:Nat)
 |0=>rfl
 | N+1=>by
  rw[kL,im,br,nM,sum_mkN p N];have e:mkN p (N+1)=mkN p N+(if p N=YP then 2 ^ N else 0):=rfl;rw[e,cT,List.filter_nil];by_cases h:p N=YP
  ·rw[Kk h,Kk h];simp
  ·rw[Ko h,Ko h];simp
noncomputable def nxt(r:n_):Nat:=match r.getLast? with
 |some k=>k+1
 |none=>0
def ext(many:Nat)(r:n_):l_:=(aV (many-nxt r)).map λi=>r++[nxt r+i]
def pks(many:Nat):Nat->l_
 |0=>[[]]
 |s+1=>(pks many s).flatMap (ext many)
def nxt_app(r:n_)(k:Nat):nxt (r++[k])=k+1:=by unfold nxt;rw[List.getLast?_concat]
def zlO{r:n_}(h:r.Pairwise (· < ·)){k:Nat}(a:k∈r):k<nxt r:=by
 rcases fD r with rfl|⟨b,z,rfl⟩
 ·cases a
 ·rw[fE] at h a ⊢;rw[nxt_app];rcases aM.mp a with q|q
  ·have:=(bL.mp h).2.2 k q z 'k';lia
  ·have:k=z:=⇑q
   lia
theorem mem_pks{a:Nat}:∀{s:Nat}{r:n_},r∈pks a s↔r.length=s/\r.Pairwise (· < ·)/\∀k∈r,k<a
 | 0,r=>by
  unfold pks;constructor
  ·intro h;have:r=[]:=⇑h
   subst this;exact⟨rfl,eo,λ_ h=>(cg h).elim⟩
  ·rintro⟨h,_⟩;rw[cJ.mp h];simp
 | s+1,r=>by
  unfold pks;rw[dj];constructor
  ·rintro⟨c,m,n⟩;obtain⟨d,e,f⟩:=mem_pks.mp m;obtain⟨i,j,rfl⟩:=ay.mp n;have j:=bg.mp j;refine⟨by rw[au,d];rfl,bL.mpr ⟨e,by simp,λk g z l=>?_⟩,λk g=>?_⟩
   ·have:z=nxt c+i:=⇑l
    have:=zlO e g;lia
   ·rcases aM.mp g with q|q
    ·exact f k q
    ·have:k=nxt c+i:=⇑q
     lia
  ·rintro⟨d,e,f⟩;rcases fD r with rfl|⟨c,z,rfl⟩
   ·cases d
   ·rw[fE] at d e f ⊢;have b:=bL.mp e;have l:nxt c<=z:=by
     rcases fD c with rfl|⟨o,y,rfl⟩
     ·exact bI _
     ·rw[fE,nxt_app];exact b.2.2 y 'k' z 'k'
    have p:=f z 'k';refine⟨c,mem_pks.mpr ⟨by rw[au] at d;simpa using d,b.1,λk g=>f k (bt _ g)⟩,?_⟩;exact ay.mpr ⟨z-nxt c,bg.mpr 'd',by congr 2;lia⟩
def uD(many:Nat)(l:l_):Nat:=(l.map λr=>2 ^ (many-nxt r)).sum
def R8(c:Nat)(a b:l_):uD c (a++b)=uD c a+uD c b:=by unfold uD;rw[br,nM]
def zjE(a:Nat)(r:n_):uD a (ext a r)<=2 ^ (a-nxt r):=by
 have b:∀(d k j:Nat),k+j=d->uD a ((aV k).map λi=>r++[a-d+i])<=2 ^ d-2 ^ j\/a<d:=by
  intro d k
  induction k with
  |zero=>intro j h;left;simp[uD]
  | succ k ih=>
   intro j h;rcases ih (j+1) 'd' with q|q
   ·rcases jf a d with z|z
    ·exact .inr z
    ·left;rw[kL,br,R8];have e:uD a (List.map (λi=>r++[a-d+i]) [k])=2 ^ j:=by
      unfold uD;simp only[bB,gq,jU,List.sum_nil,km,nxt_app];congr 1;lia
     have c:2 ^ (j+1)<=2 ^ d:=di 'u' 'd';lia
   ·exact .inr q
 unfold ext;rcases jf a (nxt r) with z|z
 ·have:a-nxt r=0:=by lia
  rw[this];simp[uD]
 ·rcases b (a-nxt r) (a-nxt r) 0 'd' with q|q
  ·have e:a-(a-nxt r)=nxt r:=by lia
   rw[e] at q;exact aH q (Nat.sub_le _ _)
  ·lia
theorem T5(a:Nat):∀l:l_,uD a (l.flatMap (ext a))<=uD a l
 |[]=>aE _
 | r::l=>by
  rw[bX,R8];have b:=zjE a r;have c:=T5 a l;have e:uD a (r::l)=2 ^ (a-nxt r)+uD a l:=by
   unfold uD;rw[bB,jU]
  lia
theorem SQ(a:Nat):∀s,uD a (pks a s)<=2 ^ a
 | 0=>by
  unfold pks uD;simp[nxt]
 |s+1=>aH (T5 a _) (SQ a s)
theorem SW(a:Nat):∀l:l_,l.length<=uD a l
 |[]=>aE _
 | r::l=>by
  have:=SW a l;have e:uD a (r::l)=2 ^ (a-nxt r)+uD a l:=by
   unfold uD;rw[bB,jU]
  have:=jF (n:=a-nxt r);rw[aW];lia
def pks_few(a s:Nat):(pks a s).length<=2 ^ a:=aH (SW a _) (SQ a s)
end DLB
namespace DL
open PySem L2
def Ih:List aB->Bool
 |[]=>YP
 |x::l=>!(l.contains x)&&Ih l
theorem yb:∀{l:List aB},Ih l=YP->l.Nodup
 |[],_=>ir
 | x::l,h=>by
  unfold Ih at h;rw[aY,eu] at h;refine bz.mpr ⟨λm=>?_,yb h.2⟩;rw[bo.mpr m] at h;exact Bool.noConfusion h.1
noncomputable def K_:Option dE->Bool
 |some .local=>YP
 |some .cell=>YP
 |_=>Y1
def zho(h:K_ o=YP):o=Xy .local\/o=Xy .cell:=by
 unfold K_ at h;split at h
 ·exact .inl rfl
 ·exact .inr rfl
 ·cases h
def kNf:dE->Bool
 |.free=>Y1
 |_=>YP
def Xe(N P:List aB)(sc:c8):Bool:=Ih N&&(N.take P.length==P)&&P.all (λx=>K_ (sc.names.lookup x))&&sc.names.all (λy=>kNf y.2)
def fnS(f:sc.kind=.function)(g:sc.isCoroutine=Y1)(i:sc.isGenerator=Y1)(h:Xe N P sc=YP):xf N P sc:=by unfold Xe at h;simp only[aY] at h;obtain⟨⟨⟨a,b⟩,c⟩,d⟩:=h;refine⟨f,g,i,yb a,eq_of_beq b,λx j=>zho (al.mp c x j),λy k e=>?_⟩;have:=al.mp d y k;rw[e] at this;cases this
end DL
namespace DL
open PySem
noncomputable def pl:Nat->D->Bool
 |n,.non=>YP
 |n,.int _=>YP
 |n,.str cs=>cs.all (· < 1114112)
 |n+1,.lst ds=>ds.all (pl n)
 |n+1,.tup ds=>ds.all (pl n)
 |_,_=>Y1
theorem F9{α β:Type}{f:α->Option β}:∀{l:List α},(∀x∈l,∃y,f x=Xy y)->∃m,qv f l=Xy m
 |[],_=>⟨[],rfl⟩
 | x::l,h=>by
  obtain⟨y,a⟩:=h x ar;obtain⟨m,b⟩:=F9 λz c=>h z (ak _ c);exact⟨y::m,by unfold qv;rw[a,b]⟩
def FP(O:Ow):∀(n:Nat)(d:D),pl n d=YP->∃p,q0 O n d=Xy p:=by
 intro n
 induction n with
 | zero=>
  intro d h;cases d with
  |non=>exact⟨_,rfl⟩
  |int i=>exact⟨_,rfl⟩
  | str cs=>
   refine⟨.str ⟨cs.toArray⟩,?_⟩;show zQ cs=_;unfold zQ;rw[Kk (by simpa [pl] using h)]
  |_=>simp[pl] at h
 | succ n ih=>
  intro d h;cases d with
  |non=>exact⟨_,rfl⟩
  |int i=>exact⟨_,rfl⟩
  | str cs=>
   refine⟨.str ⟨cs.toArray⟩,?_⟩;show zQ cs=_;unfold zQ;rw[Kk (by simpa [pl] using h)]
  | lst ds=>
   obtain⟨m,a⟩:=F9 λx b=>ih x (al.mp h x b);exact⟨.list m,by show(qv (q0 O n) ds).map ef=_;rw[a];rfl⟩
  | tup ds=>
   obtain⟨m,a⟩:=F9 λx b=>ih x (al.mp h x b);exact⟨.tuple m,by show(qv (q0 O n) ds).map ie=_;rw[a];rfl⟩
  |_=>simp[pl] at h
theorem VB{f:D->Option ei}(R:∀x y p q,f x=Xy p->f y=Xy q->pl 0 x=pl 0 x->True){P:D->Prop}(e:∀x y p q,P x->P y->f x=Xy p->f y=Xy q->(bj p q=YP↔x=y)):
  ∀(xs a:List D)(b c:List ei),(∀x∈xs,P x)->(∀y∈a,P y)->qv f xs=Xy b->qv f a=Xy c->(fK b c=YP↔xs=a)
 |[],[],b,c,_,_,e1,e2=>by cases e1;cases e2;simp[fK]
 | [],y::a,b,c,_,_,e1,e2=>by
  cases e1;unfold qv at e2;split at e2
  ·cases e2;simp[fK]
  ·cases e2
 | x::xs,[],b,c,_,_,e1,e2=>by
  cases e2;unfold qv at e1;split at e1
  ·cases e1;simp[fK]
  ·cases e1
 | x::xs,y::a,b,c,h1,h2,e1,e2=>by
  unfold qv at e1 e2;split at e1
  ·rename_i p g i j;cases e1;split at e2
   ·rename_i q h k l;cases e2;have m:=e x y p q (h1 x ar) (h2 y ar) i k;have n:=VB R e xs a g h (λz d=>h1 z (ak _ d)) (λz d=>h2 z (ak _ d)) j l;show(bj p q&&fK g h)=YP↔_;rw[aY,m,n,List.cons.injEq]
   ·cases e2
  ·cases e1
def Aa(h:zQ cs=Xy p):p=.str ⟨cs.toArray⟩:=by
 unfold zQ at h;split at h
 ·cases h;rfl
 ·cases h
def R4(a b:n_):bj (.str ⟨a.toArray⟩) (.str ⟨b.toArray⟩)=YP↔D.str a=D.str b:=by
 show((⟨a.toArray⟩:aB)==⟨b.toArray⟩)=YP↔_;rw[beq_iff_eq];constructor
 ·intro h;have h:a.toArray=b.toArray:=by injection h
  rw[show a=b by simpa using congrArg l9 h]
 ·intro h;injection h with h;rw[h]
def RK(O:Ow):∀(n:Nat)(x y:D)(p q:ei),pl n x=YP->pl n y=YP->q0 O n x=Xy p->q0 O n y=Xy q->(bj p q=YP↔x=y):=by
 intro n
 induction n with
 | zero=>
  intro x y p q v l m f;cases x with
  | non=>cases m;cases y with
   |non=>cases f;simp[bj]
   |int j=>cases f;simp[bj]
   |str b=>have:=Aa f;subst this;simp[bj]
   |_=>simp[pl] at l
  | int i=>cases m;cases y with
   |non=>cases f;simp[bj]
   |int j=>cases f;simp[bj]
   |str b=>have:=Aa f;subst this;simp[bj]
   |_=>simp[pl] at l
  | str a=>have:=Aa m;subst this;cases y with
   |non=>cases f;simp[bj]
   |int j=>cases f;simp[bj]
   |str b=>have:=Aa f;subst this;exact R4 a b
   |_=>simp[pl] at l
  |_=>simp[pl] at v
 | succ n ih=>
  have w:∀s k g r,(s.all (pl n))=YP->(k.all (pl n))=YP->qv (q0 O n) s=Xy g->qv (q0 O n) k=Xy r->(fK g r=YP↔s=k):=λs k g r z A m f=>
   VB (λ_ _ _ _ _ _ _=>trivial) (λx y p q a b c d=>ih x y p q a b c d) s k g r (al.mp z) (al.mp A) m f
  have t:∀{o:List D}{p},q0 O (n+1) (.lst o)=Xy p->∃g,qv (q0 O n) o=Xy g/\p=.list g:=λ{o p}e=>by
   have e:(qv (q0 O n) o).map ef=Xy p:=e;cases h:qv (q0 O n) o with
   |none=>rw[h] at e;cases e
   |some g=>rw[h] at e;cases e;exact⟨g,rfl,rfl⟩
  have u:∀{o:List D}{p},q0 O (n+1) (.tup o)=Xy p->∃g,qv (q0 O n) o=Xy g/\p=.tuple g:=λ{o p}e=>by
   have e:(qv (q0 O n) o).map ie=Xy p:=e;cases h:qv (q0 O n) o with
   |none=>rw[h] at e;cases e
   |some g=>rw[h] at e;cases e;exact⟨g,rfl,rfl⟩
  intro x y p q v l m f;cases x with
  | non=>cases m;cases y with
   |non=>cases f;simp[bj]
   |int j=>cases f;simp[bj]
   |str b=>have:=Aa f;subst this;simp[bj]
   |lst k=>obtain⟨_,_,rfl⟩:=t f;simp[bj]
   |tup k=>obtain⟨_,_,rfl⟩:=u f;simp[bj]
   |_=>simp[pl] at l
  | int i=>cases m;cases y with
   |non=>cases f;simp[bj]
   |int j=>cases f;simp[bj]
   |str b=>have:=Aa f;subst this;simp[bj]
   |lst k=>obtain⟨_,_,rfl⟩:=t f;simp[bj]
   |tup k=>obtain⟨_,_,rfl⟩:=u f;simp[bj]
   |_=>simp[pl] at l
  | str a=>have:=Aa m;subst this;cases y with
   |non=>cases f;simp[bj]
   |int j=>cases f;simp[bj]
   |str b=>have:=Aa f;subst this;exact R4 a b
   |lst k=>obtain⟨_,_,rfl⟩:=t f;simp[bj]
   |tup k=>obtain⟨_,_,rfl⟩:=u f;simp[bj]
   |_=>simp[pl] at l
  | lst s=>obtain⟨g,z,rfl⟩:=t m;cases y with
   |non=>cases f;simp[bj]
   |int j=>cases f;simp[bj]
   |str b=>have:=Aa f;subst this;simp[bj]
   | lst k=>
    obtain⟨r,A,rfl⟩:=t f;show fK g r=YP↔_;rw[w s k g r v l z A,D.lst.injEq]
   |tup k=>obtain⟨_,_,rfl⟩:=u f;simp[bj]
   |_=>simp[pl] at l
  | tup s=>obtain⟨g,z,rfl⟩:=u m;cases y with
   |non=>cases f;simp[bj]
   |int j=>cases f;simp[bj]
   |str b=>have:=Aa f;subst this;simp[bj]
   |lst k=>obtain⟨_,_,rfl⟩:=t f;simp[bj]
   | tup k=>
    obtain⟨r,A,rfl⟩:=u f;show fK g r=YP↔_;rw[w s k g r v l z A,D.tup.injEq]
   |_=>simp[pl] at l
  |_=>simp[pl] at v
def Fv(O:Ow)(a:pl 8 x=YP)(c:pl 8 y=YP)(f:b=YP↔x=y):pZ rQ O x y=.ok (.bl b) O/\pZ rF O x y=.ok (.bl !b) O:=by obtain⟨p,d⟩:=FP O 8 x a;obtain⟨q,e⟩:=FP O 8 y c;have h:=RK O 8 x y p q a c d e;have:=cR.mpr (h.trans f.symm);unfold pZ py;rw[d,e];subst this;exact⟨rfl,rfl⟩
theorem UG(b:pl n x=YP)(c:q0 O n x=Xy p):∀(l:List D)(a:List ei),(l.all (pl n))=YP->qv (q0 O n) l=Xy a->((a.any λy=>bj y p)=YP↔x∈l)
 |[],a,_,e=>by cases e;simp
 | y::l,a,h,e=>by
  unfold qv at e;split at e
  ·rename_i q d f g;cases e;rw[iP,aY] at h;rw[f9,i9,RK O n y x q p h.1 b f c,UG b c l d h.2 g,aw];exact⟨λz=>z.imp Eq.symm id,λz=>z.imp Eq.symm id⟩
  ·cases e
def zcw(O:Ow):∀(n:Nat)(d:D)(p:ei),pl n d=YP->q0 O n d=Xy p->q0 O (n+1) d=Xy p:=by
 intro n
 induction n with
 |zero=>intro d p h e;cases d<;>first|exact e|(simp[pl] at h)
 | succ n ih=>
  have f:∀(a:List D)b,(a.all (pl n))=YP->qv (q0 O n) a=Xy b->qv (q0 O (n+1)) a=Xy b:=by
   intro a
   induction a with
   |nil=>intro b _ e;exact e
   | cons x a ihd=>
    intro b h e;rw[iP,aY] at h;unfold qv at e ⊢;split at e
    ·rename_i q g j k;rw[ih x q h.1 j,ihd g h.2 k];exact e
    ·cases e
  intro d p h e;cases d with
  | lst a=>
   have e:(qv (q0 O n) a).map ef=Xy p:=e;show(qv (q0 O (n+1)) a).map ef=Xy p;cases c:qv (q0 O n) a with
   |none=>rw[c] at e;cases e
   |some b=>rw[c] at e;rw[f a b h c];exact e
  | tup a=>
   have e:(qv (q0 O n) a).map ie=Xy p:=e;show(qv (q0 O (n+1)) a).map ie=Xy p;cases c:qv (q0 O n) a with
   |none=>rw[c] at e;cases e
   |some b=>rw[c] at e;rw[f a b h c];exact e
  |non=>exact e
  |int i=>exact e
  |str cs=>exact e
  |_=>simp[pl] at h
def Fu(O:Ow){x y:D}{l:List D}(j:pl 7 x=YP)(n:l.all (pl 7)=YP)(a:r9 O y=Xy l\/y=.tup l){b:Bool}(q:b=YP↔x∈l):uy O x y=.ok (.bl b) O/\v_ O x y=.ok (.bl !b) O:=by
 obtain⟨p,o⟩:=FP O 7 x j;obtain⟨m,d⟩:=F9 λz r=>FP O 7 z (al.mp n z r);have h:=UG j o l m n d;have e:=cR.mpr (h.trans q.symm);have f:py O x=Xy p:=zcw O 7 x p j o;rcases a with a|rfl
 ·have c:py O y=Xy (.list m):=by
   cases y with
   |lst ds=>cases a;show(qv (q0 O 7) l).map ef=_;rw[d];rfl
   | own k=>
    have a:O[k]?=Xy l:=a;show(match O[k]? with|some ds=>(qv (q0 O 7) ds).map ef|none=>XV)=_;rw[a];dsimp only;rw[d];rfl
   |_=>cases a
  have g:pZ BQ O x y=.ok (.bl b) O:=by unfold pZ;rw[f,c];subst e;rfl
  have i:pZ DX O x y=.ok (.bl !b) O:=by unfold pZ;rw[f,c];subst e;rfl
  cases y with
  |lst ds=>exact⟨g,i⟩
  |own k=>exact⟨g,i⟩
  |_=>cases a
 ·have c:py O (.tup l)=Xy (.tuple m):=by show(qv (q0 O 7) l).map ie=_;rw[d];rfl
  have g:pZ BQ O x (.tup l)=.ok (.bl b) O:=by unfold pZ;rw[f,c];subst e;rfl
  have i:pZ DX O x (.tup l)=.ok (.bl !b) O:=by unfold pZ;rw[f,c];subst e;rfl
  exact⟨g,i⟩
def L8(c:t σ O=.ok (.bl a) O)(d:a=YP->u σ O=.ok (.bl b) O):zN t u σ O=.ok (.bl (a&&b)) O:=by
 show((t σ O).bnd _)=_;rw[c];cases a with
 |true=>exact d rfl
 |false=>rfl
def JF(c:t σ O=.ok a O)(d:a=YP->u σ O=.ok b O):vw t u σ O=.ok (a&&b) O:=by
 show((t σ O).bnd _)=_;rw[c];cases a with
 |true=>exact d rfl
 |false=>rfl
def SD(c:t σ O=.ok a O)(d:a=Y1->u σ O=.ok b O):xB t u σ O=.ok (a||b) O:=by
 show((t σ O).bnd _)=_;rw[c];cases a with
 |false=>exact d rfl
 |true=>rfl
def zZ(O:Ow)(a:x.all (pl 7)=YP)(c:y.all (pl 7)=YP)(d:b=YP↔x=y):pZ rQ O (.lst x) (.lst y)=.ok (.bl b) O/\pZ rF O (.lst x) (.lst y)=.ok (.bl !b) O:=
 Fv O (x:=.lst x) (y:=.lst y) a c (d.trans (by rw[D.lst.injEq]))
def FX(n:Nat)(l:n_):(l.map λ(p:Nat)=>D.int (p:Int)).all (pl n)=YP:=al.mpr λd a=>by
 obtain⟨p,_,rfl⟩:=ay.mp a;cases n<;>rfl
section
variable{σ:Sg}{O O1 O2:Ow}{t u:DE}{d a:DS}{x y:D}{r:RS}{i:Nat}{c:DT}{tA:DA}{ds:List D}
def rK(h:t σ O=.ok x O1)(b:d (σ.set i (Xy x)) O1=r):o_ (p_ i t) d σ O=r:=by rw[tj (yF h)];exact b
def vO(h:a σ O=.nx σ' O1)(b:d σ' O1=r):o_ a d σ O=r:=by rw[tj h];exact b
def Ms(h:t σ O=.ok x O1)(b:d σ O1=r):o_ (sY t) d σ O=r:=by rw[tj (Js h)];exact b
def vP(h:c σ O=.ok Y1 O1)(b:d σ O1=r):o_ (qQ c a' qS) d σ O=r:=by rw[tj (by rw[tI h];rfl)];exact b
def Cp(h:c σ O=.ok YP O1)(b:a' σ O1=.rt x O2):o_ (qQ c a' e) d σ O=.rt x O2:=Cv (by rw[tI h,Kk rfl];exact b)
def tG(h:d σ O=.rt x O1):fin (d σ O)=.ok x O1:=by rw[h];rfl
def Ct(h:t σ O=.ok x O1):fin (p8 t σ O)=.ok x O1:=by rw[rY h];rfl
def qy(b:t σ O=.ok x O1)(e:u σ O1=.ok y O2)(g:f O2 x y=z):c_ f t u σ O=z:=by rw[rN b e];exact g
def rX(b:tA σ O=.ok ds O1)(e:f O1 ds=z):pT f tA σ O=z:=by rw[xH b];exact e
def qr(b:tA σ O=.ok ds O1)(e:F ds O1=z)(f:ds.length=n:=by rfl):j_ n F tA σ O=z:=by rw[vQ b f];exact e
end
end DL
set_option maxHeartbeats 400000
namespace K88
open PySem L2 DL
abbrev k_(x:Int):Option D:=Xy (.int x)
abbrev qj(x:List D):Option D:=Xy (.tup x)
abbrev qK(x:List D):Option D:=Xy (.lst x)
abbrev rT(x:n_):Option D:=Xy (.str x)
abbrev qI(x:Nat):Option D:=Xy (.own x)
abbrev CS(x:Bool):Option D:=Xy (.bl x)
def top(i:Nat):eH:=c9.main.body.getD i (.Pass ⟨0,0,0,0⟩)
def yd:List (Int×Int):=[(2,1),(4,2),(8,3),(16,4)]
def pD:List Int:=[1,2,4,8]
structure Txt(K:ai)(mg:aB->Option ab):Prop where
 w0:qO K mg "is_whole" (top 5)
 w1:qO K mg "is_whole_within" (top 6)
 w2:qO K mg "is_rising" (top 7)
 w3:qO K mg "is_answer" (top 10)
 w4:qO K mg "is_function" (top 11)
 w5:qO K mg "need_function" (top 12)
 w6:qO K mg "switches_of" (top 13)
 w7:qO K mg "points_with" (top 14)
 w8:qO K mg "has_term_signs" (top 17)
 w9:qO K mg "has_rising_terms" (top 18)
 wa:qO K mg "all_terms" (top 19)
 wb:qO K mg "bits_of" (top 20)
 wc:qO K mg "points_of" (top 21)
 wd:qO K mg "with_sign" (top 22)
 we:qO K mg "signs_in" (top 23)
 wf:qO K mg "terms_holding" (top 24)
 wg:qO K mg "holds_no_nought" (top 26)
 wh:qO K mg "holds_a_one" (top 27)
 wi:qO K mg "good_terms" (top 28)
 wj:qO K mg "can_widen_at" (top 29)
 wk:qO K mg "is_widest" (top 30)
 wl:qO K mg "greatest" (top 31)
 wm:qO K mg "is_form" (top 33)
 wn:qO K mg "signs_of" (top 34)
 wo:qO K mg "holders_in" (top 35)
 wp:qO K mg "covers" (top 36)
 wq:qO K mg "least_covers" (top 37)
 wr:qO K mg "need_form" (top 40)
 ws:qO K mg "steps" (top 41)
 wt:qO K mg "kept_by" (top 42)
 wu:qO K mg "open_steps" (top 43)
 wv:qO K mg "least_keepers" (top 44)
 ww:qO K mg "mended" (top 45)
 wx:qO K mg "_law_take" (top 47)
 wy:qO K mg "_law_cell_at" (top 48)
 wz:qO K mg "_law_state" (top 49)
 wA:qO K mg "_law_function" (top 50)
 wB:qO K mg "_law_terms" (top 51)
 wC:qO K mg "_law_switches" (top 52)
 wD:qO K mg "_law_holds" (top 53)
 wE:qO K mg "_law_good" (top 54)
 wF:qO K mg "_law_lies_in" (top 55)
 wG:qO K mg "_law_ones" (top 56)
 wH:qO K mg "_law_greatest" (top 57)
 wI:qO K mg "_law_is_term" (top 58)
 wJ:qO K mg "_law_are_terms" (top 59)
 wK:qO K mg "_law_is_form" (top 60)
 wL:qO K mg "_law_some_form" (top 61)
 wM:qO K mg "_law_steps" (top 62)
 wN:qO K mg "_law_gaps" (top 63)
 wO:qO K mg "_law_signs" (top 64)
 wP:qO K mg "_law_smooth_mask" (top 65)
 wQ:qO K mg "_law_picks" (top 66)
 wR:qO K mg "_law_smooth_cost" (top 67)
 wS:qO K mg "_law_lesser" (top 68)
 wT:qO K mg "law" (top 69)
 wU:mg "all" = XV
 wV:mg "any" = XV
 wW:mg "bool" = XV
 wX:mg "dict" = XV
 wY:mg "enumerate" = XV
 wZ:mg "int" = XV
 w01:mg "isinstance" = XV
 w11:mg "len" = XV
 w21:mg "list" = XV
 w31:mg "max" = XV
 w41:mg "min" = XV
 w51:mg "range" = XV
 w61:mg "set" = XV
 w71:mg "sorted" = XV
 w81:mg "str" = XV
 w91:mg "sum" = XV
 wa1:mg "tuple" = XV
 wb1:mg "zip" = XV
 wc1:Lg mg "SIGNS" [45,48,49]
 wd1:B6 K mg "SWITCHES_BY_POINTS" yd
 we1:K7 K mg "WORTHS" pD
class CI (F:ql) (x:outParam aB) (k n:outParam Nat):Prop where
 out:∀{P:aP}{w:aZ}{K:ai}{mg:aB->Option ab}{base:a7},Txt K mg->Callee P w K mg base x k n F
section
variable{P:aP}{w:aZ}{K:ai}{mg:aB->Option ab}{base:a7}
def us0{C:List ab->Prop}(h:C []):∀a,a.length=0->C a
 |[],_=>h
def us1{C:List ab->Prop}(h:∀a,C [a]):∀b,b.length=1->C b
 |[a],_=>h a
def us2{C:List ab->Prop}(h:∀a b,C [a,b]):∀c,c.length=2->C c
 |[a,b],_=>h a b
def us3{C:List ab->Prop}(h:∀a b c,C [a,b,c]):∀d,d.length=3->C d
 |[a,b,c],_=>h a b c
set_option hygiene false
local macro_rules|`(tactic| exists $t)=>`(tactic| with_reducible show PD _ _ _ $t)
local macro_rules|`(tactic| exists $x,2)=>`(tactic| exact zfx $x _ rfl (FF (by kernel_rfl)) (by walk_at "i") (by walk_at "q4"))
local macro_rules|`(tactic| exists $x,3)=>`(tactic| exact zdy $x rfl (FF (by kernel_rfl)) (by walk_at "i") (by walk_at "q5"))
local macro_rules|`(tactic| exists $x,4)=>`(tactic| exact z8l $x _ rfl (yb (by kernel_rfl)) rfl rfl (FF (by kernel_rfl)) (by walk_at "i") (by walk_at "q4") rfl)
local macro_rules|`(tactic| exists $x,5)=>`(tactic| exact z6w $x rfl (yb (by kernel_rfl)) rfl rfl (FF (by kernel_rfl)) (by walk_at "i") (by walk_at "q5") rfl)
local macro_rules|`(tactic| exists $x,6)=>`(tactic| exact z9k $x _ rfl (yb (by kernel_rfl)) rfl rfl (FF (by kernel_rfl)) (by walk_at "i") (by walk_at "q4") rfl)
local macro_rules|`(tactic| exists $f,$a,$b,$c,$d)=>`(tactic| (with_reducible show PD _ _ _ (pT $f _));refine zeU $a $b rfl $c $d ?_<;>walk_at "a")
local macro_rules|`(tactic| exists $f,$a,$b)=>`(tactic| (with_reducible show PD _ _ _ (c_ $f _ _));refine LB $a $b ?_ ?_<;>walk_at "e")
local macro_rules|`(tactic| exists $f,$a,$b,0)=>`(tactic| (with_reducible show PD _ _ _ (c_ $f _ _));exact LV $a $b '2' '2' (Fz _))
local macro_rules|`(tactic| exists $t,0)=>`(tactic| with_reducible show sj _ _ _ $t)
local macro_rules|`(tactic| exists $t,1)=>`(tactic| with_reducible show vm _ _ _ $t)
local macro_rules|`(tactic| walk_at "q4")=>`(tactic| exact λ_ _ _ _ _=>⟨by walk_at "g",by walk_at "fs",by walk_at "cs",'2'⟩)
local macro_rules|`(tactic| walk_at "q5")=>`(tactic| exact λ_ _ _ _ _=>⟨by walk_at "g",by walk_at "fs",by walk_at "cs",'2','2'⟩)
local macro_rules|`(tactic| walk_at "u")=>`(tactic| intro _ _ _ _ _ _;first|exact us1 λ_=>rfl|exact us2 λ_ _=>rfl|exact us3 λ_ _ _=>rfl|exact us0 rfl)
local macro_rules|`(tactic| walk_at "z")=>`(tactic| exact fnS rfl rfl rfl (by kernel_rfl))
local macro_rules|`(tactic| walk_at "v")=>`(tactic| first|exact .inl rfl|exact .inr (.inl rfl)|exact .inr (.inr rfl))
local macro_rules|`(tactic| walk_at "l")=>`(tactic| first|exact .inl rfl|exact .inr rfl)
local macro_rules|`(tactic| walk_at "le")=>`(tactic| first|decide|exact aE _|lia)
local macro_rules|`(tactic| walk_at "fx")=>`(tactic| first|refine Ru h hr '3' rfl ?_<;>walk_at "a")
local macro_rules|`(tactic| walk_at "f")=>`(tactic| first|exact Ru (CI.out T) hr '3' rfl (by walk_at "a")|((exists (j_ _ _ _));have h:=c_self;walk_at "fx"))
local macro_rules|`(tactic| walk_at "k")=>`(tactic| first|exact zkW|exact Zw _ rfl|exact ZN|exact Yd)
local macro_rules|`(tactic| walk_at "n")=>`(tactic| first|exact ziP T.wc1|exact zhq T.we1)
local macro_rules|`(tactic| walk_at "o")=>`(tactic| first|((exists (c_ rC _ _));refine ZQ ?_ ?_<;>walk_at "e")|((exists (c_ qw _ _));exact YH '2' '2' (λ_ _=>rfl))|((exists (c_ w_ _ _));refine ziW ?_ ?_<;>walk_at "e")|exists (fI xm),Y0,ziC|exists (fI u4),ZF,zjX|exists (fI yw),zjM,zhv|exists (fI uN),zlN,zhi|exists (fI Fi),zkY,zit|exists (fI xC),Z9,zji|exists (fI Iw),Y6,zhI|exists (fI Ii),Zs,zjd|exists (fI HF),YD,ZU|exists (fI Fg),zkR,zhZ|exists xQ,Lz,LJ,0|exists DB,QN,Rk,0|exists (pZ rQ),(S9 hr.units),Eg,0|exists (pZ rF),(Sd hr.units),Eg,0|((exists (c_ uy _ _));exact LV (Rn hr.units) Rq '2' '2' rfl)|((exists (c_ v_ _ _));exact LV (SA hr.units) Tf '2' '2' rfl)|exists K8,zlM,ziI,0|exists Ff,Ze,zjY,0|((exists (AH true yd _));refine zej T.wd1 rfl ?_<;>walk_at "e")|((exists (LK HG HG _ _ _));refine zfM Qu RL Qu RL ?_ ?_ ?_<;>walk_at "e"))
local macro_rules|`(tactic| walk_at "c")=>`(tactic| first|exists qJ,zg0,zl6,T.w11,zlQ|exists xE,(zdN rfl),Zu,T.wU,Y7|exists DZ,(zbA rfl),zlY,T.wV,Y3|exists B8,(ze5 rfl),zlF,T.w91,zlb|exists Cd,(zdf rfl),zjy,T.w31,Zt|exists Ck,(zbN rfl),ziH,T.w41,LW|exists Ee,(zdC rfl),ziR,T.w41,LW|exists Fx,zed,zih,T.w71,JG|((exists (pT AA _));refine Jy zd8 zjp rfl T.wZ RC ?_<;>walk_at "a")|((exists (pT yZ _));refine Jy z75 zfW rfl T.wa1 T7 ?_<;>walk_at "a")|((exists (pT IH _));refine Jy z7M ziF rfl T.w81 Rx ?_<;>walk_at "a")|((exists (pT (IP _) _));refine Jy z7y (zhJ _) rfl T.w21 zj1 ?_<;>walk_at "a")|((exists (vM "bool" _));exact Jd '2' (by decide) rfl T.w01 J9 rfl T.wW ziL)|((exists (vM "int" _));exact Jd '2' (by decide) rfl T.w01 J9 rfl T.wZ RC)|((exists (vM "str" _));exact Jd '2' (by decide) rfl T.w01 J9 rfl T.w81 Rx)|((exists (vM "tuple" _));exact Jd '2' (by decide) rfl T.w01 J9 rfl T.wa1 T7)|((exists (D8 _ _));refine ziX _ rfl rfl T.w71 JG rfl T.w61 zkZ ?_<;>walk_at "a")|((exists (vq _ _ _ (F8 _) _));refine Ef (zca T hT L) hr '3' rfl ?_<;>walk_at "a")|((exists (vq _ _ _ (Ke _) _));refine Ef (z5V T hT L) hr '3' rfl ?_<;>walk_at "a")|((exists (vq _ _ _ (Ka _) _));refine Ef (z4R T hT L) hr '3' rfl ?_<;>walk_at "a")|((exists (vq _ _ _ (Jv _) _));refine Ef (zcy T hT L) hr '3' rfl ?_<;>walk_at "a")|((exists (vq _ _ _ F _));refine Ef c_self hr '3' rfl ?_<;>walk_at "a")|((exists (vq _ _ _ _ _));refine Ef c_self hr '3' rfl ?_<;>walk_at "a")|((exists (D9 _ _ _ _));exact zeC (k:=2) (hr.mono (by lia)) rfl L rfl (by kernel_rfl) rfl (λ_ _ _ _ _ _ _=>rfl) (yb (by kernel_rfl)) '2' (λq lam cd cl A outer s H hr=>'2') rfl T.w41)|exists Fq,zbT,zjD,T.w71,JG|exists zT,zet,zhD,T.w71,JG)
local macro_rules|`(tactic| walk_at "pk")=>`(tactic| first|exact RO|exact RM|exact Rh)
local macro_rules|`(tactic| walk_at "pp")=>`(tactic| first|exact zgb (by walk_at "pk") (by walk_at "pk") (by walk_at "pp")|exact zju)
local macro_rules|`(tactic| walk_at "so")=>`(tactic| first|((with_reducible show Bk _ _ _ yC);exact zeX)|refine zfy ?_<;>walk_at "e")
local macro_rules|`(tactic| walk_at "m")=>`(tactic| first|((exists (yu _ _));exact zdt '2' (by walk_at "a"))|((exists (zO _ _));exact zcO '2' (by walk_at "a"))|((exists (Eb _ _));exact zj4 '2' '2' (λ_ _=>rfl))|((exists (y0 _ _ _ _ _ _ _));first|exists x0,3|exists x1,3|exists x2,3)|((exists (IW _ _));exact zfF '2' (by walk_at "a"))|((exists (E5 Il _ _));exact Q3 PySem.F.slot_str_count PySem.F.type_str_count zf2 zlZ '2' (by walk_at "a"))|((exists (E5 Ij _ _));exact Q3 PySem.F.slot_str_index PySem.F.type_str_index zfQ zkr '2' (by walk_at "a"))|((exists (B3 _ _ _));exact YT '2' (by walk_at "so") (by walk_at "so"))|((exists (DP _ _ _));exact zkL '2' (by walk_at "so") (by walk_at "so"))|((exists (Fl yd _));exact zjA T.wd1 rfl '2' (λ_ _=>rfl))|((exists (Fk _ _));exact ZP _ (by walk_at "pp") rfl rfl rfl (List.cons_ne_nil _ _) (gE rfl) (gE rfl) (YE hr) '2' (λ_ _=>rfl)))
local macro_rules|`(tactic| walk_at "e1")=>`(tactic| first|((exists (qN _));refine zkK rfl ?_<;>walk_at "v")|((exists (dC _));first|walk_at "k"|walk_at "n")|((exists (c_ _ _ _));walk_at "o")|((exists (j_ _ _ _));walk_at "f")|((exists (u6 _));refine zlK ?_<;>walk_at "a")|((exists (vp _));refine Zy ?_<;>walk_at "a")|((exists (qp _ _ _ _ _ _ _));first|exists x0,2|exists x1,2|exists x2,2)|((exists (pT _ _));walk_at "c")|((exists (Bv _));refine zhO ?_<;>walk_at "a")|((exists (zN _ _));refine Zr ?_ ?_<;>walk_at "e")|((exists (PF _ _));refine Yb ?_ ?_<;>walk_at "e")|((exists (Fj _));refine ZR ?_<;>walk_at "e")|((exists (Ie _));refine zlT ?_<;>walk_at "e")|walk_at "c"|walk_at "m"|walk_at "o")
local macro_rules|`(tactic| walk_at "e")=>`(tactic| first|(show PD _ _ (.BoolOp _ [_] _) _;refine zl8 ?_<;>walk_at "e1")|walk_at "e1")
local macro_rules|`(tactic| walk_at "a")=>`(tactic| first|((with_reducible show uA _ _ _ f_);exact ziK)|exact zfY '2' (by walk_at "a"))
local macro_rules|`(tactic| walk_at "t")=>`(tactic| first|((exists (qd (c_ xQ _ _)),0);exact Eo Lz LJ '2' '2' (Fz _))|((exists (qd (c_ DB _ _)),0);exact Eo QN Rk '2' '2' (Fz _))|((with_reducible show sj _ _ _ (qd (c_ (pZ rQ) _ _)));exact Eo (S9 hr.units) Eg '2' '2' (Fz _))|((with_reducible show sj _ _ _ (qd (c_ (pZ rF) _ _)));exact Eo (Sd hr.units) Eg '2' '2' (Fz _))|((exists (qd (c_ uy _ _)),0);exact Eo (Rn hr.units) Rq '2' '2' rfl)|((exists (qd (c_ v_ _ _)),0);exact Eo (SA hr.units) Tf '2' '2' rfl)|((exists (qd (AH true yd _)),0);refine zaU T.wd1 rfl ?_<;>walk_at "e")|(show sj _ _ (.BoolOp _ _ _) _;refine xS.pt ?_<;>walk_at "w")|((with_reducible show sj _ _ _ (sO _));refine zhj ?_<;>walk_at "t")|((with_reducible show sj _ _ _ (qH _));exact zim '2' (λ_=>rfl)))
local macro_rules|`(tactic| walk_at "w")=>`(tactic| first|(show xS _ _ (.BoolOp .And [_] _) _;refine zf9 ?_<;>walk_at "t")|(show xS _ _ (.BoolOp .Or [_] _) _;refine ziZ ?_<;>walk_at "t")|((with_reducible show xS _ _ _ (vw _ _));exact zis (by walk_at "t") (by walk_at "w"))|((with_reducible show xS _ _ _ (xB _ _));exact zkU (by walk_at "t") (by walk_at "w")))
local macro_rules|`(tactic| walk_at "i")=>`(tactic| first|((with_reducible show tK _ _ _ _ (tM _));refine zaT rfl T.w51 ?_<;>walk_at "a")|((with_reducible show tK _ _ _ _ (IG _));refine zaO rfl T.w51 ?_<;>walk_at "a")|((with_reducible show tK _ _ _ _ (ID _));refine zeN rfl T.wb1 ?_<;>walk_at "a")|((with_reducible show tK _ _ _ _ (Jb _));refine zcQ rfl T.wY ?_<;>walk_at "a")|((with_reducible show tK _ _ _ _ (Iv _));refine zfp ?_<;>walk_at "e")|refine zjg ?_<;>walk_at "e")
local macro_rules|`(tactic| walk_at "g")=>`(tactic| first|(show PG _ (.Name _ _) _;refine Z6 (yb (by kernel_rfl)) rfl ?_ ?_<;>walk_at "l")|(show PG _ (.Tuple [_,_] _ _) _;refine Y9 rfl (yb (by kernel_rfl)) rfl rfl ?_ ?_ ?_ ?_<;>walk_at "l"))
local macro_rules|`(tactic| walk_at "fs")=>`(tactic| first|exact .nil|exact .cons (by walk_at "t") (by walk_at "fs"))
local macro_rules|`(tactic| walk_at "cs")=>`(tactic| first|exact .nil|(refine oW.cons ?_ (λ_=>rfl) ?_ ?_ ?_;(dsimp only;walk_at "i");(dsimp only;walk_at "g");(dsimp only;walk_at "fs");walk_at "cs"))
local macro_rules|`(tactic| walk_at "s")=>`(tactic| first|((exists (p8 _),1);refine zjt ?_<;>walk_at "e")|((exists (qQ _ _ _),1);exact ZC (by walk_at "t") (by walk_at "ss") (by walk_at "ss"))|(show vm _ _ (.Assign [.Name _ _] (.ListComp _ _ _ _) _) _;first|exists x0,4|exists x1,4|exists x2,4|exact My (yb (by kernel_rfl)) rfl (by walk_at "l") '2')|(show vm _ _ (.Assign [.Name _ _] (.DictComp _ _ _ _ _) _) _;first|exists x0,5|exists x1,5|exists x2,5|exact My (yb (by kernel_rfl)) rfl (by walk_at "l") '2')|((exists (p_ _ _),1);exact My (yb (by kernel_rfl)) rfl (by walk_at "l") '2')|((exists (sJ _ _ _),1);exact zjW kM rfl (by walk_at "i") (by walk_at "g") (by walk_at "ss"))|((exists (sY _),1);refine zfG ?_<;>walk_at "e")|((exists (Ar _ _ _),1);refine zhk ?_ ?_ ?_<;>walk_at "e")|((exists (Fe _ _),1);exact zi1 '2' (by walk_at "g"))|((exists (Ig _ _),1);exact zin (yb (by kernel_rfl)) rfl (by walk_at "l") '2')|((exists (Ja _ _ _),1);exact zbU _ kM (by walk_at "t") (by walk_at "ss"))|((exists qS,1);exact zfm))
local macro_rules|`(tactic| walk_at "sl")=>`(tactic| first|first|exists x0,6|exists x1,6|exists x2,6)
local macro_rules|`(tactic| walk_at "rs")=>`(tactic| first|(refine zbY kM rfl (λte he=>Ro (yb (by kernel_rfl)) rfl ?_ (MR zbi rfl T.wX zjf (FN he IT))) ?_ ?_ ?_ (IS rfl ?_) (IS rfl ?_) ?_ ?_ rfl ?_ (by decide) (by decide) (gE rfl) (gE rfl);(walk_at "l");(walk_at "e");(walk_at "i");(walk_at "g");(walk_at "v");(walk_at "v");(walk_at "sl");(walk_at "e");(walk_at "ss")))
local macro_rules|`(tactic| walk_at "ss")=>`(tactic| first|((with_reducible show ua _ _ _ (Fp _ _ _ _ _ _ _ _));walk_at "rs")|((with_reducible show ua _ _ _ qS);exact zeV)|((with_reducible show ua _ _ _ E8);exact TM)|((with_reducible show ua _ _ _ (o_ _ _));exact qC '1' (by walk_at "ss"))|refine qU ?_<;>walk_at "s")
def rj{x:aB}{st:eH}{t:DS}(k:Nat)(N:List aB)(j:Nat)(h:qO K mg x st)(qR:∀{f:ae}{qD:ab}{A:bb}{outer:List Env}{s:ag}{H:Hp}{E:XK},oM k (A.deeper (eE x (rR st) s.heap.objs.size f qD))->ua (DF P w K mg base N x (rR st) f qD A outer s H E) qV (vE st) t)(S:xf N (N.take j) (rR st):=by walk_at "z")(hb:∀(kV doc pm:ab)(an:Option ae)(qD ct:ab)(us:List ab),us.length=(N.take j).length->bindArgs (cr x x (yE st) (vE st) (rR st) .none kV doc pm an qD ct) ⟨us,[]⟩=pure ((N.take j).zip us):=by walk_at "u"):Callee P w K mg base x (k+1) (N.take j).length (qW N.length t):=fnC h S hb λ_ _ _ _ _ _ _ hr=>qR hr
abbrev pS:=qN 0
def Vo:DS:=(p8 (zN (vM "int" pS) (Fj (vM "bool" pS))))
def VC:ql:=(qW 1 Vo)
instance:CI VC "is_whole" 1 1:=⟨λT=>
 Callee.self (rj 0 ["thing"] 1 T.w0 λhr=>
  ((qU (by delta Vo;walk_at "s"))))⟩
abbrev m_:=qN 1
abbrev rz:=dC (.int 1)
abbrev pV:=qN 2
def VP:DS:=(p8 (pT xE (a_ (qp Y1 2 (ID (a_ pS (a_ (DP pS (yX rz) yC) f_))) (.two 1 2) [] [] (c_ Ff m_ pV)) f_)))
def Nb:ql:=(qW 1 VP)
instance:CI Nb "is_rising" 1 1:=⟨λT=>
 Callee.self (rj 0 ["things"] 1 T.w2 λhr=>
  (have x0:Nx ["one", "other"]:=⟨⟩;(qU (by delta VP;walk_at "s"))))⟩
abbrev qA:=a_ pS f_
def VW:DS:=(p8 (Fl yd (pT qJ qA)))
def Gj:ql:=(qW 1 VW)
instance:CI Gj "switches_of" 1 1:=⟨λT=>
 Callee.self (rj 0 ["function"] 1 T.w6 λhr=>
  ((qU (by delta VW;walk_at "s"))))⟩
abbrev qg:=qN 3
def V3:DS:=(p8 (qp Y1 2 (Jb qA) (.two 2 3) [(qd (c_ (pZ rQ) qg m_))] [] pV))
def Gi:ql:=(qW 2 V3)
instance:CI Gi "points_with" 1 2:=⟨λT=>
 Callee.self (rj 0 ["function", "answer"] 2 T.w7 λhr=>
  (have x0:Nx ["point", "told"]:=⟨⟩;(qU (by delta V3;walk_at "s"))))⟩
abbrev vn:=p8 (dC (.bl Y1))
def z4S:DS:=(o_ (qQ (xB (sO (qH (vM "str" m_))) (qd (c_ (pZ rF) (pT qJ (a_ m_ f_)) pS))) vn qS) (p8 (pT xE (a_ (qp Y1 1 (pY m_) (.one 2) [] [] (c_ uy pV (dC (.str [45,48,49])))) f_))))
def Kb:ql:=(qW 2 z4S)
instance:CI Kb "has_term_signs" 1 2:=⟨λT=>
 Callee.self (rj 0 ["n", "thing"] 2 T.w8 λhr=>
  (have x0:Nx ["sign"]:=⟨⟩;(qC '1' (qU '1'))))⟩
abbrev qu:=qN 4
def z9j:DS:=(o_ (p_ 1 (u6 (a_ (dC (.str [])) f_))) (o_ (sJ (tM qA) (.one 2) (p_ 1 (qp Y1 2 (pY m_) (.one 3) [] (⟨(pY (dC (.str [45,48,49]))),(.one 4),[]⟩::[]) (c_ rC qg qu)))) (p8 m_)))
def BL:ql:=(qW 3 z9j)
instance:CI BL "all_terms" 1 1:=⟨λT=>
 Callee.self (rj 0 ["n", "terms", "switch"] 1 T.wa λhr=>
  (have x0:Nx ["term", "sign"]:=⟨⟩;(qC '1' (qC '1' (qU '1')))))⟩
abbrev rJ:=dC (.int 0)
abbrev xZ:=dC (.str [45])
def zd4:DS:=(o_ (qQ (qd (c_ (pZ rQ) pS xZ)) (p8 (u6 (a_ rJ (a_ rz f_)))) qS) (p8 (u6 (a_ (pT AA qA) f_))))
def Vh:ql:=(qW 1 zd4)
instance:CI Vh "bits_of" 1 1:=⟨λT=>
 Callee.self (rj 0 ["sign"] 1 T.wb λhr=>
  ((qC '1' (qU '1'))))⟩
def VE:DS:=(p8 (c_ rC (c_ rC (B3 pS yC (yX m_)) pV) (B3 pS (yX (c_ rC m_ rz)) yC)))
def J3:ql:=(qW 3 VE)
instance:CI J3 "with_sign" 1 3:=⟨λT=>
 Callee.self (rj 0 ["term", "switch", "sign"] 3 T.wd λhr=>
  ((qU (by delta VE;walk_at "s"))))⟩
def Vn:DS:=(p8 (c_ (fI xm) (pT qJ qA) (E5 Il pS (a_ xZ f_))))
def Gh:ql:=(qW 1 Vn)
instance:CI Gh "signs_in" 1 1:=⟨λT=>
 Callee.self (rj 0 ["term"] 1 T.we λhr=>
  ((qU (by delta Vn;walk_at "s"))))⟩
def Nh:DS:=(p8 (qp Y1 1 (Iv pS) (.one 2) [(qd (c_ uy m_ (Eb pS pV)))] [] pV))
def CD:ql:=(qW 2 Nh)
instance:CI CD "holders_in" 1 2:=⟨λT=>
 Callee.self (rj 0 ["held", "one"] 2 T.wo λhr=>
  (have x0:Nx ["term"]:=⟨⟩;(qU (by delta Nh;walk_at "s"))))⟩
abbrev Ic:=dC (.int 2147483647)
def z9b:DS:=(o_ (qQ (qH (c_ qw pS rz)) (o_ (p_ 2 (c_ (fI uN) (c_ qw pS rJ) m_)) (o_ (Ar (c_ (fI yw) (c_ qw pS rJ) m_) pS rJ) (p8 pV))) qS) (o_ (Ar (c_ (fI uN) (c_ rC (c_ (fI u4) (c_ qw pS rJ) (dC (.int 48271))) (dC (.int 29))) Ic) pS rJ) (o_ (p_ 3 (c_ (fI uN) (c_ rC (c_ rC (c_ (fI u4) (c_ qw pS rJ) (c_ qw pS rJ)) (c_ (fI u4) (dC (.int 39373)) (c_ qw pS rJ))) (dC (.int 7))) (dC (.int 2147483629)))) (o_ (p_ 3 (c_ (fI uN) (c_ rC (c_ (fI u4) qg qg) (c_ (fI u4) (dC (.int 16807)) qg)) (dC (.int 2147483587)))) (p8 (c_ (fI uN) (c_ (fI yw) qg (dC (.int 8))) m_))))))
def vf:ql:=(qW 4 z9b)
instance:CI vf "_law_take" 1 2:=⟨λT=>
 Callee.self (rj 0 ["_law_state_here", "_law_many", "_law_found", "_law_stirred"] 2 T.wx λhr=>
  ((qC '1' (qC '1' (qC '1' (qC '1' (qU '1')))))))⟩
def z64:DS:=(o_ (qQ (qd (c_ xQ m_ (pT qJ qA))) (p8 (c_ qw pS m_)) qS) (p8 rJ))
def Kg:ql:=(qW 2 z64)
instance:CI Kg "_law_cell_at" 1 2:=⟨λT=>
 Callee.self (rj 0 ["_law_script", "_law_k"] 2 T.wy λhr=>
  ((qC '1' (qU '1'))))⟩
abbrev yV:=Bv f_
def Nf:DS:=(o_ (p_ 1 (u6 (a_ (dC (.str [])) f_))) (o_ (sJ (tM qA) (.one 2) (o_ (p_ 3 yV) (o_ (sJ (pY m_) (.one 4) (sY (zO qg (a_ (u6 (a_ (c_ rC qu xZ) (a_ (c_ rC qu (dC (.str [48]))) (a_ (c_ rC qu (dC (.str [49]))) f_)))) f_)))) (p_ 1 qg)))) (p8 m_)))
def Nk:ql:=yU (qW 5 Nf)
instance:CI Nk "_law_terms" 1 1:=⟨λT=>
 Callee.frz (rj 0 ["_law_n", "_law_found", "_law_turn", "_law_longer", "_law_term"] 1 T.wB λhr=>
  ((qC '1' (qC '1' (qU '1')))))⟩
def V6:DS:=(p8 (Fk [(2,1),(4,2),(8,3),(16,4)] (pT qJ qA)))
def EE:ql:=(qW 1 V6)
instance:CI EE "_law_switches" 1 1:=⟨λT=>
 Callee.self (rj 0 ["_law_function_here"] 1 T.wC λhr=>
  ((qU (by delta V6;walk_at "s"))))⟩
abbrev zP:=dC (.bl YP)
def z7T:DS:=(o_ (p_ 2 (pT qJ qA)) (o_ (sJ (tM (a_ pV f_)) (.one 3) (qQ (vw (qd (c_ (pZ rF) (c_ qw pS qg) xZ)) (qd (c_ (pZ rF) (c_ qw pS qg) (pT IH (a_ (c_ (fI Ii) (c_ (fI Iw) m_ (c_ (fI xm) (c_ (fI xm) pV rz) qg)) rz) f_))))) vn qS)) (p8 zP)))
def vW:ql:=(qW 4 z7T)
instance:CI vW "_law_holds" 1 2:=⟨λT=>
 Callee.self (rj 0 ["_law_term", "_law_point", "_law_n", "_law_k"] 2 T.wD λhr=>
  ((qC '1' (qC '1' (qU '1')))))⟩
abbrev vo:=u6 f_
def Nz:DS:=(p8 (c_ (pZ rQ) (qp Y1 1 (tM (a_ (pT qJ qA) f_)) (.one 2) [(vw (qd (c_ (pZ rF) (c_ qw m_ pV) xZ)) (qd (c_ (pZ rF) (c_ qw m_ pV) (c_ qw pS pV))))] [] pV) vo))
def Nw:ql:=(qW 2 Nz)
instance:CI Nw "_law_lies_in" 1 2:=⟨λT=>
 Callee.self (rj 0 ["_law_one", "_law_other"] 2 T.wF λhr=>
  (have x0:Nx ["_law_k"]:=⟨⟩;(qU (by delta Nz;walk_at "s"))))⟩
def Nm:DS:=(p8 (qp Y1 1 (tM (a_ (pT qJ qA) f_)) (.one 1) [(qd (c_ (pZ rQ) (c_ qw pS m_) rz))] [] m_))
def zl:ql:=(qW 1 Nm)
instance:CI zl "_law_ones" 1 1:=⟨λT=>
 Callee.self (rj 0 ["_law_function_here"] 1 T.wG λhr=>
  (have x0:Nx ["_law_point"]:=⟨⟩;(qU (by delta Nm;walk_at "s"))))⟩
def NA:DS:=(p8 (zN (vM "str" m_) (zN (c_ (pZ rQ) (pT qJ (a_ m_ f_)) pS) (c_ (pZ rQ) (qp Y1 1 (pY m_) (.one 2) [(qd (c_ v_ pV (dC (.str [48,49,45]))))] [] pV) vo))))
def Gk:ql:=(qW 2 NA)
instance:CI Gk "_law_is_term" 1 2:=⟨λT=>
 Callee.self (rj 0 ["_law_n", "_law_thing"] 2 T.wI λhr=>
  (have x0:Nx ["_law_sign"]:=⟨⟩;(qU (by delta NA;walk_at "s"))))⟩
abbrev Wj:DE:=c_ (fI xm) (pT qJ (a_ m_ f_)) (E5 Il m_ (a_ xZ f_))
def Ng:DS:=(p8 (pT B8 (a_ (qp Y1 1 (pY pS) (.one 1) [] [] Wj) f_)))
def JU:ql:=(qW 1 Ng)
instance:CI JU "_law_signs" 1 1:=⟨λT=>
 Callee.self (rj 0 ["_law_terms_here"] 1 T.wO λhr=>
  (have x0:Nx ["_law_term"]:=⟨⟩;(qU (by delta Ng;walk_at "s"))))⟩
abbrev sM:=qN 5
abbrev Cc:=a_ (qN 7) f_
abbrev xW:=qN 6
abbrev Fs:DS:=o_ (p_ 6 rJ) (o_ (qQ (qd (c_ (pZ rF) sM (vp f_))) (p_ 6 (c_ w_ (c_ qw sM (Ie rz)) rz)) qS) (sY (zO qu (a_ (qp Y1 1 (IG (a_ xW qA)) (.one 7) [] [] (c_ w_ sM (vp Cc))) f_))))
def Nd:DS:=(o_ (p_ 2 (u6 (a_ (vp f_) f_))) (o_ (sJ (tM (a_ m_ f_)) (.one 3) (o_ (p_ 4 yV) (o_ (sJ (pY pV) (.one 5) Fs) (p_ 2 qu)))) (p8 pV)))
def JW:ql:=yU (qW 7 Nd)
instance:CI JW "_law_picks" 1 2:=⟨λT=>
 Callee.frz (rj 0 ["_law_many", "_law_size", "_law_found", "_law_turn", "_law_longer", "_law_row", "_law_first"] 2 T.wQ λhr=>
  (have x0:Nx ["_law_k"]:=⟨⟩;(qC '1' (qC '1' (qU '1')))))⟩
def Wd:DS:=(p8 (zN (j_ 1 VC qA) (LK HG HG m_ pS pV)))
def Wb:ql:=(qW 3 Wd)
instance:CI Wb "is_whole_within" 2 3:=⟨λT=>
 Callee.self (rj 1 ["thing", "least", "most"] 3 T.w1 λhr=>
  ((qU (by delta Wd;walk_at "s"))))⟩
def Wa:DS:=(o_ (qQ (sO (qH (vM "tuple" m_))) vn qS) (p8 (zN (pT xE (a_ (qp Y1 1 (pY m_) (.one 2) [] [] (j_ 2 Kb (a_ pS (a_ pV f_)))) f_)) (j_ 1 Nb (a_ m_ f_)))))
def Ki:ql:=(qW 2 Wa)
instance:CI Ki "has_rising_terms" 2 2:=⟨λT=>
 Callee.self (rj 1 ["n", "thing"] 2 T.w9 λhr=>
  (have x0:Nx ["term"]:=⟨⟩;(qC '1' (qU '1'))))⟩
def z95:DS:=(o_ (p_ 1 (u6 (a_ rJ f_))) (o_ (sJ (pY pS) (.one 2) (p_ 1 (qp Y1 2 (pY m_) (.one 3) [] (⟨(pY (j_ 1 Vh (a_ pV f_))),(.one 4),[]⟩::[]) (c_ rC (c_ (fI u4) (dC (.int 2)) qg) qu)))) (p8 m_)))
def AR:ql:=(qW 3 z95)
instance:CI AR "points_of" 2 1:=⟨λT=>
 Callee.self (rj 1 ["term", "points", "sign"] 1 T.wc λhr=>
  (have x0:Nx ["point", "bit"]:=⟨⟩;(qC '1' (qC '1' (qU '1')))))⟩
def M_:DS:=(p8 (pT B8 (a_ (qp Y1 1 (pY pS) (.one 1) [] [] (j_ 1 Gh (a_ m_ f_))) f_)))
def AN:ql:=(qW 1 M_)
instance:CI AN "signs_of" 2 1:=⟨λT=>
 Callee.self (rj 1 ["form"] 1 T.wn λhr=>
  (have x0:Nx ["term"]:=⟨⟩;(qU (by delta M_;walk_at "s"))))⟩
abbrev Ca:DE:=pT qJ (a_ (j_ 2 CD (a_ pS (a_ (qN 9) f_))) f_)
abbrev Cf:DE:=qp Y1 1 (pY m_) (.one 9) [(qd (c_ v_ (qN 9) (Eb pS xW)))] [] (qN 9)
abbrev uM:=a_ xW f_
abbrev Br(Pt:Nat)(F:ql):DE:=zO qu (a_ (qp Y1 1 (pY (vq Pt 8 3 F (a_ sM (a_ (qN 7) (a_ (c_ (fI xm) pV rz) f_))))) (.one 9) [] [] (c_ rC (vp uM) (qN 9))) f_)
def AL(Pt:Nat)(F:ql):DS:=(o_ (qQ (sO (qH m_)) (p8 (u6 (a_ (vp f_) f_))) qS) (o_ (qQ (qd (c_ (pZ rQ) pV rJ)) (p8 vo) qS) (o_ (p_ 3 (D9 Pt 8 m_ Ca)) (o_ (p_ 4 yV) (Fp 5 6 7 pS (pY (j_ 2 CD (a_ pS (a_ qg f_)))) Cf (Br Pt F) (p8 qu))))))
def yc(Pt:Nat):Nat->ql
 |0=>λ_ _=>.bad
 |k+1=>yU (yQ 9 8 Pt (AL Pt (yc Pt k)))
def U_:xf ["held", "wanted", "many", "hardest", "found", "rest", "term", "left", "<tab>"] ["held", "wanted", "many"] (rR (top 36)):=by walk_at "z"
theorem Vy(T:Txt K mg)(hT:Au K mg "covers" (top 36) c)(L:xG mg base c Pt):∀k,oJ P w K mg base "covers" (4+k) 3 Pt (yc Pt k)
 |0=>oJ.bad (F:=yQ 9 8 Pt E8) (Qp (k:=3) (i:=8) (z := "<tab>") hT U_ rfl (DU 'b') (by walk_at "u") λf A outer s H E hr=>TM)
 | k+1=>oJ.frz (Qp (k:=4+k) (i:=8) (z := "<tab>") hT U_ rfl (DU 'b') (by walk_at "u") λf A outer s H E hr=>
  have c_self:=Vy T hT L k
  (have x0:Nx ["one"]:=⟨⟩;have x1:Nx ["cover"]:=⟨⟩;(by unfold AL;walk_at "ss")))
def F8(Pt:Nat):ql:=yc Pt 20
def zca(T:Txt K mg)(a:Au K mg "covers" (top 36) c)(L:xG mg base c Pt):oJ P w K mg base "covers" 24 3 Pt (F8 Pt):=Vy T a L 20
abbrev B7:=c_ (fI Fi) (dC (.int 10)) (dC (.int 18))
def z8a:DS:=(o_ (p_ 2 (j_ 2 Kg (a_ pS (a_ m_ f_)))) (o_ (qQ (qd (c_ DB pV B7)) (p8 (Bv (a_ (c_ (fI xm) pV B7) (a_ zP f_)))) qS) (p8 (Bv (a_ (c_ (fI uN) pV Ic) (a_ (dC (.bl Y1)) f_))))))
def Ni:ql:=(qW 3 z8a)
instance:CI Ni "_law_state" 2 2:=⟨λT=>
 Callee.self (rj 1 ["_law_script", "_law_k", "_law_cell"] 2 T.wz λhr=>
  ((qC '1' (qC '1' (qU '1')))))⟩
abbrev H_:=a_ (dC (.int 3)) f_
def Nr:DS:=(o_ (p_ 3 (c_ qw (u6 (a_ (dC (.int 2)) (a_ (dC (.int 4)) (a_ (dC (.int 6)) f_)))) (j_ 2 vf (a_ pS H_)))) (o_ (p_ 4 (c_ (fI u4) (j_ 2 vf (a_ pS H_)) (pT AA (a_ pV f_)))) (o_ (p_ 5 yV) (o_ (sJ (tM (a_ (c_ (fI xC) rz m_) f_)) (.one 6) (o_ (p_ 7 (pT AA (a_ (c_ xQ (j_ 2 vf (a_ pS (a_ (dC (.int 8)) f_))) qg) f_))) (o_ (qQ (qd (c_ xQ (j_ 2 vf (a_ pS (a_ (dC (.int 5)) f_))) qu)) (p_ 7 (dC .non)) qS) (sY (yu sM Cc))))) (p8 (pT yZ (a_ sM f_)))))))
def J_:ql:=yU (qW 8 Nr)
instance:CI J_ "_law_function" 2 3:=⟨λT=>
 Callee.frz (rj 1 ["_law_state_here", "_law_n", "_law_free", "_law_often", "_law_rest", "_law_found", "_law_point", "_law_answer"] 3 T.wA λhr=>
  ((qC '1' (qC '1' (qC '1' (qC '1' (qU '1')))))))⟩
def JR:DS:=(p8 (c_ (pZ rQ) (qp Y1 1 (tM (a_ (pT qJ qA) f_)) (.one 2) [(vw (qd (c_ (pZ rQ) (c_ qw pS pV) rJ)) (qH (j_ 2 vW (a_ m_ (a_ pV f_)))))] [] pV) vo))
def Ge:ql:=(qW 2 JR)
instance:CI Ge "_law_good" 2 2:=⟨λT=>
 Callee.self (rj 1 ["_law_function_here", "_law_term"] 2 T.wE λhr=>
  (have x0:Nx ["_law_point"]:=⟨⟩;(qU (by delta JR;walk_at "s"))))⟩
def NG:DS:=(o_ (qQ (xB (sO (qH (vM "tuple" m_))) (sO (qH (pT xE (a_ (qp Y1 1 (pY m_) (.one 2) [] [] (j_ 2 Gk (a_ pS (a_ pV f_)))) f_))))) vn qS) (p8 (c_ (pZ rQ) (pT (IP Y1) (a_ m_ f_)) (D8 Y1 (a_ m_ f_)))))
def EF:ql:=(qW 2 NG)
instance:CI EF "_law_are_terms" 2 2:=⟨λT=>
 Callee.self (rj 1 ["_law_n", "_law_thing"] 2 T.wJ λhr=>
  (have x0:Nx ["_law_term"]:=⟨⟩;(qC '1' (qU '1'))))⟩
abbrev cL:DT:=vw (qd (c_ xQ pV qg)) (qd (c_ (pZ rQ) (c_ (fI Ii) qu (c_ (fI xm) qu rz)) rJ))
abbrev tL:DS:=o_ (p_ 4 (c_ (fI Fg) pV qg)) (qQ cL (sY (yu m_ (a_ (vp (a_ pV (a_ qg f_))) f_))) qS)
def JX:DS:=(o_ (p_ 1 yV) (o_ (sJ (pY (j_ 1 zl qA)) (.one 2) (sJ (pY (j_ 1 zl qA)) (.one 3) tL)) (p8 m_)))
def ED:ql:=yU (qW 5 JX)
instance:CI ED "_law_steps" 2 1:=⟨λT=>
 Callee.frz (rj 1 ["_law_function_here", "_law_found", "_law_point", "_law_other", "_law_one"] 1 T.wM λhr=>
  ((qC '1' (qC '1' (qU '1')))))⟩
abbrev Lk:DS:=qQ (vw (qH (j_ 2 vW (a_ pV (a_ (c_ qw (c_ qw m_ qu) rJ) f_)))) (qH (j_ 2 vW (a_ pV (a_ (c_ qw (c_ qw m_ qu) rz) f_))))) (p_ 3 (c_ rC qg (c_ (fI xC) rz (c_ rC (pT qJ qA) qu)))) qS
def V_:DS:=(o_ (p_ 3 (pT B8 (a_ (qp Y1 0 (tM (a_ (pT qJ qA) f_)) (.one 4) [(qH (j_ 2 vW (a_ pV (a_ (c_ qw pS qu) f_))))] [] (c_ (fI xC) rz qu)) f_))) (o_ (sJ (tM (a_ (pT qJ (a_ m_ f_)) f_)) (.one 4) Lk) (p8 qg)))
def Gp:ql:=(qW 5 V_)
instance:CI Gp "_law_smooth_mask" 2 3:=⟨λT=>
 Callee.self (rj 1 ["_law_points", "_law_turns", "_law_term", "_law_found", "_law_at"] 3 T.wP λhr=>
  (have x0:Nx []:=⟨⟩;(qC '1' (qC '1' (qU '1')))))⟩
abbrev PZ:DE:=E5 Ij qu (a_ xZ f_)
abbrev P9:DE:=u6 (a_ (c_ rC (c_ rC (B3 qu yC (yX sM)) (dC (.str [48]))) (B3 qu (yX (c_ rC sM rz)) yC)) (a_ (c_ rC (c_ rC (B3 qu yC (yX sM)) (dC (.str [49]))) (B3 qu (yX (c_ rC sM rz)) yC)) f_))
def Np:DS:=(o_ (p_ 3 (qp Y1 0 (pY pV) (.one 4) [(qd (c_ uy xZ qu))] [] qu)) (o_ (qQ (qd (c_ (pZ rQ) qg vo)) (p8 pV) qS) (o_ (p_ 4 (c_ qw qg (j_ 2 vf (a_ pS (a_ (pT qJ (a_ qg f_)) f_))))) (o_ (p_ 5 PZ) (o_ (p_ 6 P9) (p8 (pT yZ (a_ (D8 Y1 (a_ (c_ rC (qp Y1 1 (pY pV) (.one 7) [(qd (c_ (pZ rF) (qN 7) qu))] [] (qN 7)) xW) f_)) f_))))))))
def J6:ql:=(qW 7 Np)
instance:CI J6 "_law_lesser" 2 3:=⟨λT=>
 Callee.self (rj 1 ["_law_state_here", "_law_function_here", "_law_form", "_law_some", "_law_term", "_law_at", "_law_parts"] 3 T.wS λhr=>
  (have x0:Nx []:=⟨⟩;have x1:Nx ["_law_one"]:=⟨⟩;(qC '1' (qC '1' (qC '1' (qC '1' (qC '1' (qU '1'))))))))⟩
def VG:DS:=(p8 (PF (c_ K8 pS (dC .non)) (j_ 3 Wb (a_ pS (a_ rJ (a_ rz f_))))))
def J0:ql:=(qW 1 VG)
instance:CI J0 "is_answer" 3 1:=⟨λT=>
 Callee.self (rj 2 ["thing"] 1 T.w3 λhr=>
  ((qU (by delta VG;walk_at "s"))))⟩
def NB:DS:=(p8 (qp Y1 1 (pY pS) (.one 2) [(qd (c_ uy m_ (j_ 1 AR (a_ pV f_))))] [] pV))
def Nu:ql:=(qW 2 NB)
instance:CI Nu "terms_holding" 3 2:=⟨λT=>
 Callee.self (rj 2 ["terms", "point"] 2 T.wf λhr=>
  (have x0:Nx ["term"]:=⟨⟩;(qU (by delta NB;walk_at "s"))))⟩
def Wc:DS:=(p8 (pT xE (a_ (qp Y1 1 (pY (j_ 1 AR (a_ m_ f_))) (.one 2) [] [] (c_ (pZ rF) (c_ qw pS pV) rJ)) f_)))
def AQ:ql:=(qW 2 Wc)
instance:CI AQ "holds_no_nought" 3 2:=⟨λT=>
 Callee.self (rj 2 ["function", "term"] 2 T.wg λhr=>
  (have x0:Nx ["point"]:=⟨⟩;(qU (by delta Wc;walk_at "s"))))⟩
def VU:DS:=(p8 (pT DZ (a_ (qp Y1 1 (pY (j_ 1 AR (a_ m_ f_))) (.one 2) [] [] (c_ (pZ rQ) (c_ qw pS pV) rz)) f_)))
def J8:ql:=(qW 2 VU)
instance:CI J8 "holds_a_one" 3 2:=⟨λT=>
 Callee.self (rj 2 ["function", "term"] 2 T.wh λhr=>
  (have x0:Nx ["point"]:=⟨⟩;(qU (by delta VU;walk_at "s"))))⟩
abbrev cW:DT:=sO (qH qg)
abbrev bW(Pt:Nat):DS:=o_ (Ig 2 rz) (p_ 3 (vq Pt 5 3 (F8 Pt) (a_ pS (a_ m_ (a_ pV f_)))))
def V8(Pt:Nat):DS:=(o_ (p_ 2 rJ) (o_ (p_ 3 (vq Pt 5 3 (F8 Pt) (a_ pS (a_ m_ (a_ pV f_))))) (o_ (Ja 20 cW (bW Pt)) (o_ (p_ 4 (pT Ee (a_ (qp Y1 1 (pY qg) (.one 6) [] [] (j_ 1 AN uM)) f_))) (p8 (pT Fq (a_ (qp Y1 1 (pY qg) (.one 6) [(qd (c_ (pZ rQ) (j_ 1 AN uM) qu))] [] (pT yZ (a_ (pT zT uM) f_))) f_)))))))
def Ke(Pt:Nat):ql:=(yQ 6 5 Pt (V8 Pt))
def z5u:xf ["held", "wanted", "many", "found", "fewest", "<tab>"] ["held", "wanted"] (rR (top 37)):=by walk_at "z"
def z5V(T:Txt K mg)(hT:Au K mg "covers" (top 36) c)(L:xG mg base c Pt):oJ P w K mg base "least_covers" 25 2 Pt (Ke Pt):=
 oJ.self (Pj (k:=24) (i:=5) (z := "<tab>") T.wq z5u rfl (DU 'b') (by walk_at "u") λf qD A outer s H E hr=>
  (have x0:Nx ["cover"]:=⟨⟩;(qC '1' (qC '1' (qC '1' (qC '1' (qU '1')))))))
def Vk:DS:=(o_ (p_ 2 (j_ 1 AR qA)) (p8 (qp Y1 2 (pY m_) (.two 3 4) [(vw (qd (c_ uy qg pV)) (qd (c_ uy qu pV)))] [] (vp (a_ qg (a_ qu f_))))))
def CA:ql:=(qW 3 Vk)
instance:CI CA "kept_by" 3 2:=⟨λT=>
 Callee.self (rj 2 ["term", "pairs", "points"] 2 T.wt λhr=>
  (have x0:Nx ["point", "other"]:=⟨⟩;(qC '1' (qU '1'))))⟩
abbrev Lu:DS:=o_ (p_ 4 (qp Y1 1 (pY m_) (.one 6) [(vw (qd (c_ (pZ rF) xW qg)) (qH (j_ 2 Nw (a_ qg uM))))] [] xW)) (o_ (p_ 5 (qp Y1 1 (pY (j_ 1 zl qA)) (.one 6) [(qH (j_ 2 vW (a_ qg uM)))] [] xW)) (qQ (vw (qd (c_ (pZ rQ) qu vo)) (qd (c_ (pZ rF) sM vo))) (sY (yu pV (a_ qg f_))) qS))
def V7:DS:=(o_ (p_ 1 (qp Y1 0 (pY (j_ 1 Nk (a_ (j_ 1 EE qA) f_))) (.one 3) [(qH (j_ 2 Ge (a_ pS (a_ qg f_))))] [] qg)) (o_ (p_ 2 yV) (o_ (sJ (pY m_) (.one 3) Lu) (p8 pV))))
def Gn:ql:=(qW 6 V7)
instance:CI Gn "_law_greatest" 3 1:=⟨λT=>
 Callee.self (rj 2 ["_law_function_here", "_law_some", "_law_found", "_law_term", "_law_wider", "_law_held"] 1 T.wH λhr=>
  (have x0:Nx []:=⟨⟩;have x1:Nx ["_law_other"]:=⟨⟩;have x2:Nx ["_law_point"]:=⟨⟩;(qC '1' (qC '1' (qC '1' (qU '1'))))))⟩
def Nv:DS:=(o_ (qQ (sO (qH (j_ 2 EF (a_ (j_ 1 EE qA) (a_ m_ f_))))) vn qS) (o_ (qQ (qd (c_ (pZ rF) (qp Y1 1 (pY m_) (.one 3) [(sO (qH (j_ 2 Ge (a_ pS (a_ qg f_)))))] [] qg) vo)) vn qS) (o_ (sJ (pY (j_ 1 zl qA)) (.one 2) (qQ (qd (c_ (pZ rQ) (qp Y1 1 (pY m_) (.one 3) [(qH (j_ 2 vW (a_ qg (a_ pV f_))))] [] qg) vo)) vn qS)) (p8 zP))))
def CJ:ql:=(qW 3 Nv)
instance:CI CJ "_law_is_form" 3 2:=⟨λT=>
 Callee.self (rj 2 ["_law_function_here", "_law_thing", "_law_point"] 2 T.wK λhr=>
  (have x0:Nx ["_law_term"]:=⟨⟩;(qC '1' (qC '1' (qC '1' (qU '1'))))))⟩
abbrev LA:DS:=qQ (qd (c_ (pZ rQ) (qp Y1 1 (pY m_) (.one 4) [(vw (qH (j_ 2 vW (a_ qu (a_ (c_ qw qg rJ) f_)))) (qH (j_ 2 vW (a_ qu (a_ (c_ qw qg rz) f_)))))] [] qu) vo)) (sY (yu pV (a_ qg f_))) qS
def J4:DS:=(o_ (p_ 2 yV) (o_ (sJ (pY (j_ 1 ED qA)) (.one 3) LA) (p8 pV)))
def JO:ql:=yU (qW 4 J4)
instance:CI JO "_law_gaps" 3 2:=⟨λT=>
 Callee.frz (rj 2 ["_law_function_here", "_law_form", "_law_found", "_law_step"] 2 T.wN λhr=>
  (have x0:Nx ["_law_term"]:=⟨⟩;(qC '1' (qC '1' (qU '1')))))⟩
abbrev Q0:DS:=p_ 11 (c_ (fI HF) (qN 11) (c_ qw (qN 7) (qN 12)))
abbrev QC:DT:=qd (c_ (pZ rQ) (qN 11) (c_ (fI xm) (c_ (fI xC) rz (c_ rC (pT qJ (a_ qg f_)) (pT qJ (a_ qu f_)))) rz))
abbrev yW:=qN 10
abbrev Wm:DE:=j_ 1 JU (a_ (qp Y1 0 (pY yW) (.one 12) [] [] (c_ qw pV (qN 12))) f_)
abbrev Qi:DS:=o_ (p_ 11 sM) (o_ (sJ (pY yW) (.one 12) Q0) (qQ QC (sY (yu (qN 9) (a_ Wm f_))) qS))
abbrev PY:DS:=o_ (p_ 9 yV) (o_ (sJ (pY (j_ 2 JW (a_ (pT qJ (a_ pV f_)) (a_ (qN 8) f_)))) (.one 10) Qi) (qQ (qd (c_ (pZ rF) (qN 9) vo)) (p8 (vp (a_ (qN 8) (a_ (pT Ee (a_ (qN 9) f_)) f_)))) qS))
abbrev Q2:DS:=p_ 5 (c_ (fI HF) sM (j_ 3 Gp (a_ qg (a_ qu uM))))
def NC:DS:=(o_ (Fe (.two 3 4) (vp (a_ (j_ 1 zl qA) (a_ (j_ 1 ED qA) f_)))) (o_ (p_ 5 rJ) (o_ (sJ (pY m_) (.one 6) Q2) (o_ (p_ 7 (qp Y1 0 (pY pV) (.one 6) [] [] (j_ 3 Gp (a_ qg (a_ qu uM))))) (o_ (sJ (tM (a_ (c_ rC (pT qJ (a_ pV f_)) rz) f_)) (.one 8) PY) (p8 (dC .non)))))))
def Kh:ql:=yU (qW 13 NC)
instance:CI Kh "_law_smooth_cost" 3 3:=⟨λT=>
 Callee.frz (rj 2 ["_law_function_here", "_law_form", "_law_some", "_law_points", "_law_turns", "_law_held", "_law_term", "_law_masks", "_law_size", "_law_found", "_law_row", "_law_whole", "_law_k"] 3 T.wR λhr=>
  (have x0:Nx []:=⟨⟩;(qC '1' (qC '1' (qC '1' (qC '1' (qC '1' (qU '1'))))))))⟩
def z6Q:DS:=(o_ (qQ (xB (sO (qH (vM "tuple" pS))) (qd (AH YP yd (pT qJ qA)))) vn qS) (p8 (pT xE (a_ (qp Y1 1 (pY pS) (.one 1) [] [] (j_ 1 J0 (a_ m_ f_))) f_))))
def J7:ql:=(qW 1 z6Q)
instance:CI J7 "is_function" 4 1:=⟨λT=>
 Callee.self (rj 3 ["thing"] 1 T.w4 λhr=>
  (have x0:Nx ["answer"]:=⟨⟩;(qC '1' (qU '1'))))⟩
def Kc:DS:=(p8 (zN (c_ (pZ rF) (c_ qw m_ pV) xZ) (j_ 2 AQ (a_ pS (a_ (j_ 3 J3 (a_ m_ (a_ pV (a_ xZ f_)))) f_)))))
def Kf:ql:=(qW 3 Kc)
instance:CI Kf "can_widen_at" 4 3:=⟨λT=>
 Callee.self (rj 3 ["function", "term", "switch"] 3 T.wj λhr=>
  ((qU (by delta Kc;walk_at "s"))))⟩
abbrev Fc:DE:=pT yZ (a_ (pT Fx (a_ qg f_)) f_)
abbrev Iq:DS:=sY (yu qg (a_ (IW pV (a_ (j_ 2 vf (a_ pS (a_ (pT qJ (a_ pV f_)) f_))) f_)) f_))
abbrev zW:DT:=vw (qd (c_ (pZ rF) pV vo)) (qH qu)
abbrev E7:=a_ (dC (.int 4)) f_
abbrev zS:DS:=o_ (qQ (qH (j_ 2 CJ (a_ m_ (a_ Fc f_)))) (p_ 4 (c_ (pZ rQ) (j_ 2 vf (a_ pS E7)) rJ)) qS) (qQ (qH qu) Iq qS)
def ND:DS:=(o_ (p_ 2 (j_ 1 Gn (a_ m_ f_))) (o_ (p_ 3 yV) (o_ (p_ 4 zP) (o_ (Ja 100 zW zS) (p8 Fc)))))
def NF:ql:=yU (qW 5 ND)
instance:CI NF "_law_some_form" 4 2:=⟨λT=>
 Callee.frz (rj 3 ["_law_state_here", "_law_function_here", "_law_left", "_law_found", "_law_more"] 2 T.wL λhr=>
  ((qC '1' (qC '1' (qC '1' (qC '1' (qU '1')))))))⟩
def V5:DS:=(qQ (sO (qH (j_ 1 J7 qA))) E8 qS)
def CK:ql:=(qW 1 V5)
instance:CI CK "need_function" 5 1:=⟨λT=>
 Callee.self (rj 4 ["thing"] 1 T.w5 λhr=>
  ((qU (by delta V5;walk_at "s"))))⟩
def J5:DS:=(p8 (Fj (pT DZ (a_ (qp Y1 1 (tM (a_ (pT qJ (a_ m_ f_)) f_)) (.one 2) [] [] (j_ 3 Kf (a_ pS (a_ m_ (a_ pV f_))))) f_))))
def JQ:ql:=(qW 2 J5)
instance:CI JQ "is_widest" 5 2:=⟨λT=>
 Callee.self (rj 4 ["function", "term"] 2 T.wk λhr=>
  (have x0:Nx ["switch"]:=⟨⟩;(qU (by delta J5;walk_at "s"))))⟩
def z8o:DS:=(o_ (sY (j_ 1 CK qA)) (p8 (qp Y1 1 (pY (j_ 1 BL (a_ (j_ 1 Gj qA) f_))) (.one 1) [(qH (j_ 2 AQ (a_ pS (a_ m_ f_))))] [] m_)))
def JZ:ql:=(qW 1 z8o)
instance:CI JZ "good_terms" 6 1:=⟨λT=>
 Callee.self (rj 5 ["function"] 1 T.wi λhr=>
  (have x0:Nx ["term"]:=⟨⟩;(qC '1' (qU '1'))))⟩
def M5:DS:=(o_ (sY (j_ 1 CK qA)) (o_ (qQ (sO (qH (j_ 2 Ki (a_ (j_ 1 Gj qA) (a_ m_ f_))))) vn qS) (o_ (qQ (sO (qH (pT xE (a_ (qp Y1 1 (pY m_) (.one 2) [] [] (j_ 2 AQ (a_ pS (a_ pV f_)))) f_)))) vn qS) (p8 (pT xE (a_ (qp Y1 1 (pY (j_ 2 Gi (a_ pS (a_ rz f_)))) (.one 2) [] [] (c_ (pZ rF) (j_ 2 Nu (a_ m_ (a_ pV f_))) vo)) f_))))))
def MU:ql:=(qW 2 M5)
instance:CI MU "is_form" 6 2:=⟨λT=>
 Callee.self (rj 5 ["function", "thing"] 2 T.wm λhr=>
  (have x0:Nx ["term"]:=⟨⟩;have x1:Nx ["point"]:=⟨⟩;(qC '1' (qC '1' (qC '1' (qU '1'))))))⟩
abbrev tP:DT:=vw (qd (c_ xQ pV qg)) (qd (c_ uy (c_ (fI Fg) pV qg) (dC (.tup (pD.map .int)))))
def Sa:DS:=(o_ (sY (j_ 1 CK qA)) (o_ (p_ 1 (j_ 2 Gi (a_ pS (a_ rz f_)))) (p8 (qp Y1 2 (pY m_) (.one 2) [] (⟨(pY m_),(.one 3),[tP]⟩::[]) (vp (a_ pV (a_ qg f_)))))))
def MA:ql:=(qW 2 Sa)
instance:CI MA "steps" 6 1:=⟨λT=>
 Callee.self (rj 5 ["function", "points"] 1 T.ws λhr=>
  (have x0:Nx ["point", "other"]:=⟨⟩;(qC '1' (qC '1' (qU '1')))))⟩
def JJ:DS:=(p8 (qp Y1 1 (pY (j_ 1 JZ qA)) (.one 1) [(vw (qH (j_ 2 J8 (a_ pS (a_ m_ f_)))) (qH (j_ 2 JQ (a_ pS (a_ m_ f_)))))] [] m_))
def Gf:ql:=(qW 1 JJ)
instance:CI Gf "greatest" 7 1:=⟨λT=>
 Callee.self (rj 6 ["function"] 1 T.wl λhr=>
  (have x0:Nx ["term"]:=⟨⟩;(qU (by delta JJ;walk_at "s"))))⟩
def JT:DS:=(qQ (sO (qH (j_ 2 MU (a_ pS (a_ m_ f_))))) E8 qS)
def Nc:ql:=(qW 2 JT)
instance:CI Nc "need_form" 7 2:=⟨λT=>
 Callee.self (rj 6 ["function", "thing"] 2 T.wr λhr=>
  ((qU (by delta JT;walk_at "s"))))⟩
def Nn:DS:=(o_ (p_ 2 (j_ 1 MA qA)) (o_ (p_ 3 (qp Y1 2 (pY m_) (.one 4) [] (⟨(pY (j_ 2 CA (a_ qu (a_ pV f_)))),(.one 5),[]⟩::[]) sM)) (p8 (qp Y1 1 (pY pV) (.one 4) [(qd (c_ v_ qu qg))] [] qu))))
def Nj:ql:=(qW 4 Nn)
instance:CI Nj "open_steps" 7 2:=⟨λT=>
 Callee.self (rj 6 ["function", "form", "wanted", "kept"] 2 T.wu λhr=>
  (have x0:Nx ["term", "step"]:=⟨⟩;have x1:Nx ["step"]:=⟨⟩;(qC '1' (qC '1' (qU '1')))))⟩
def V9(Pt:Nat):DS:=(o_ (p_ 2 (y0 1 (pY (j_ 1 Gf qA)) (.one 4) [] [] qu (j_ 2 CA (a_ qu (a_ m_ f_))))) (p8 (c_ qw (vq Pt 3 2 (Ke Pt) (a_ pV (a_ m_ f_))) rJ)))
def Ka(Pt:Nat):ql:=(yQ 4 3 Pt (V9 Pt))
def z4Q:xf ["function", "pairs", "held", "<tab>"] ["function", "pairs"] (rR (top 44)):=by walk_at "z"
def z4R(T:Txt K mg)(hT:Au K mg "covers" (top 36) c)(L:xG mg base c Pt):oJ P w K mg base "least_keepers" 26 2 Pt (Ka Pt):=
 oJ.self (Pj (k:=25) (i:=3) (z := "<tab>") T.wv z4Q rfl (DU 'b') (by walk_at "u") λf qD A outer s H E hr=>
  (have x0:Nx ["term"]:=⟨⟩;(qC '1' (qU '1'))))
def Ud(Pt:Nat):DS:=(o_ (sY (j_ 2 Nc (a_ pS (a_ m_ f_)))) (p8 (vq Pt 2 2 (Ka Pt) (a_ pS (a_ (j_ 2 Nj (a_ pS (a_ m_ f_))) f_)))))
def Jv(Pt:Nat):ql:=(yQ 3 2 Pt (Ud Pt))
def zdx:xf ["function", "form", "<tab>"] ["function", "form"] (rR (top 45)):=by walk_at "z"
def zcy(T:Txt K mg)(hT:Au K mg "covers" (top 36) c)(L:xG mg base c Pt):oJ P w K mg base "mended" 27 2 Pt (Jv Pt):=
 oJ.self (Pj (k:=26) (i:=2) (z := "<tab>") T.ww zdx rfl (DU 'b') (by walk_at "u") λf qD A outer s H E hr=>
  ((qC '1' (qU '1'))))
abbrev QV(Pt:Nat):DS:=o_ (p_ 6 (vq Pt 9 2 (Jv Pt) (a_ qg (a_ sM f_)))) (o_ (qQ (xB (sO (qH (j_ 2 EF (a_ (j_ 1 EE (a_ qg f_)) uM)))) (qd (c_ (pZ rF) (qp Y1 1 (pY xW) (.one 10) [(qd (c_ uy yW sM))] [] yW) vo))) vn qS) (o_ (p_ 7 (pT yZ (a_ (pT zT (a_ (c_ w_ sM xW) f_)) f_))) (o_ (qQ (xB (sO (qH (j_ 2 CJ (a_ qg Cc)))) (qd (c_ (pZ rF) (j_ 2 JO (a_ qg Cc)) vo))) vn qS) (o_ (p_ 8 (qp Y1 1 (pY (j_ 1 Gn (a_ qg f_))) (.one 10) [(qd (c_ v_ yW sM))] [] yW)) (qQ (qd (c_ (pZ rF) (vp (a_ (pT qJ uM) (a_ (j_ 1 JU uM) f_))) (j_ 3 Kh (a_ qg (a_ sM (a_ (qN 8) f_)))))) vn qS)))))
abbrev Ll(Pt:Nat):DS:=o_ (p_ 2 (j_ 2 Ni (a_ pS (a_ m_ f_)))) (o_ (p_ 3 (j_ 3 J_ (a_ pV (a_ (c_ w_ rz (j_ 2 vf (a_ pV E7))) (a_ zP f_))))) (o_ (p_ 4 (j_ 2 NF (a_ pV (a_ qg f_)))) (sJ (pY (u6 (a_ qu (a_ (j_ 3 J6 (a_ pV (a_ qg (a_ qu f_)))) f_)))) (.one 5) (QV Pt))))
def Ye(Pt:Nat):DS:=(o_ (sJ (tM (a_ (pT Cd (a_ rz (a_ (pT Ck (a_ (pT qJ qA) H_)) f_))) f_)) (.one 1) (Ll Pt)) (p8 zP))
def F_law(Pt:Nat):ql:=yQ 10 9 Pt (Ye Pt)
def ZA:xf ["_law_script", "_law_k", "_law_state_here", "_law_function_here", "_law_form", "_law_one", "_law_found", "_law_whole", "_law_some", "<tab>"] ["_law_script"] (rR (top 69)):=by walk_at "z"
def zkB(hF:L2.Fun K "law" "law" (top 69) f fd)(T:Txt K mg)(hT:Au K mg "covers" (top 36) c)(L:xG mg base c Pt):oV P w K mg base yN 28 f fd ["_law_script"] (Av K Bm 1 Pt (F_law Pt)):=
 X2 (k:=27) (i:=9) (z := "<tab>") hF ZA rfl (DU 'b') λqD A outer s H E hr=>
  (have x0:Nx ["_law_term"]:=⟨⟩;(qC '1' (qU '1')))
def Zb(a:L2.Fun K "law" "law" (top 69) f fd)(b:Au K mg "covers" (top 36) c)(T:Txt K mg)(L:xG mg base c Pt):oV P w K mg base yN 28 f fd ["_law_script"] (Av K Bm 1 Pt (F_law Pt)):=
 zkB a T b L
end
def fa_mk{K:ai}{h:a7}{c:aB->Option ab}(X:K.In h)(G:h.Ns bQ c){n:aB}{b:eH}{f:ae}{e g:Option ae}{i:Array (Option ab)}{j m o p r d:ab}(a:gu K bQ n=Xy (Xy (.ref f)))
  (l:K.lookup f=Xy ⟨j,e,.func (cr n n (yE b) (vE b) (rR b) .none m o p g d r),i⟩) (q:fe K d n=YP) (k:de K (.ref f)=YP):qO K c n b:=⟨f,_,gQ X G a,LO l q k⟩
def gs_mk(X:K.In h)(G:h.Ns bQ mg)(s:gu K bQ n=Xy (Xy (.str ⟨cs.toArray⟩ t))):Lg mg n cs:=⟨_,gQ X G s⟩
def gu_mk(X:K.In h)(G:h.Ns bQ mg)(d:gu K bQ n=Xy (Xy (.ref e)))(u:K.lookup e=Xy o)(v:Lh o ks=YP):K7 K mg n ks:=⟨_,_,gQ X G d,u,v⟩
def gt_mk(X:K.In h)(G:h.Ns bQ mg)(d:gu K bQ n=Xy (Xy (.ref e)))(u:K.lookup e=Xy o)(v:Ik o tb=YP)(y:(e==sysModules)=Y1):B6 K mg n tb:=⟨_,_,gQ X G d,u,v,y⟩
def all_mk(X:K.In h)(G:h.Ns bQ mg)(n:mg "law" = Xy (.ref fa))(T:Txt K mg)
  {f:ae} {J A:Option ae} {M:Array (Option ab)} {N B C D E:ab} {o:ab} (a:gu K bQ "law" = Xy (Xy (.ref f)))
  (l:K.lookup f=Xy ⟨N,J,.func (cr "law" "law" (yE (top 69)) (vE (top 69)) (rR (top 69)) .none B C D A o E),M⟩) (q:fe K o "law" = YP) (k:de K (.ref f)=YP)
  {m:ae} {p r:Option ae} {O:Array (Option ab)} {t v x y z:ab} {d:ae} (F:gu K bQ "covers" = Xy (Xy (.ref m)))
  (H:K.lookup m=Xy ⟨t,p,.func (cr "covers" "covers" (yE (top 36)) (vE (top 36)) (rR (top 36)) .none v x y r (.ref d) z),O⟩) (Q:fe K (.ref d) "covers" = YP) (R:de K (.ref m)=YP)
  {Pt:ae} {g:ab} {i:Option ae} {j:Array (Option ab)} {b:Array ab} (S:K.lookup d=Xy ⟨g,i,.fields b,j⟩) (U:b[11]?=Xy (.ref Pt)) (V:jo K=YP)
  : jo K=YP/\∃(c Pt:ae),jP K "covers" = Xy (c,Pt)/\∃I:fc,(∀(s:ag)(u:ab),k9 s I ⟨[u],[]⟩ [("_law_script",u)])/\∀base:a7,K.In base->base.Ns bQ mg->xG mg base c Pt->oV P w K mg base yN 28 fa I ["_law_script"] (Av K Bm 1 Pt (F_law Pt)):=by have W:L2.Fun K "law" "law" (top 69) f (cr "law" "law" (yE (top 69)) (vE (top 69)) (rR (top 69)) .none B C D A o E):=LO l q k;have e:=n.symm.trans (gQ X G a);cases e;have Y:Au K mg "covers" (top 36) d:=⟨m,_,gQ X G F,LO H Q R,rfl⟩;exact⟨V,d,Pt,ZI F H S U,_,λs u=>.of_eq rfl,λbase Z nb L=>Zb W Y T L⟩
end K88
-- Xx 28
namespace K88
open PySem DL
noncomputable def Lo:D->Bool
 |.own _=>Y1
 |.lst _=>Y1
 |.tup _=>Y1
 |.map _ _=>Y1
 |_=>YP
def vt(n:Nat):D->Bool
 |.own k=>decide (k<n)
 |.lst _=>Y1
 |.tup ds=>ds.all Lo
 |.map _ _=>Y1
 |_=>YP
def uZ(O:Ow):Prop:=∀c∈O,∀d∈c,vt O.length d=YP
def QK(h:Lo d=YP):frz O n f d=Xy d:=by
 cases d with
 |own k=>cases h
 |lst ds=>cases h
 |tup ds=>cases h
 |map ks ds=>cases h
 |_=>cases f<;>rfl
def AM(h:vt n d=YP):frz O n (f+1) d=Xy d:=by
 cases d with
 | own k=>
  have h:k<n:=by simpa [vt] using h
  unfold frz;dsimp only;rw[Kk h]
 |lst ds=>cases h
 | tup ds=>
  show(qv (frz O n f) ds).map D.tup=_;rw[vC λd a=>QK (al.mp h d a)];rfl
 |map ks ds=>cases h
 |_=>rfl
def JA(a:∀c∈O',∀d∈c,vt O'.length d=YP)(X:Ow)(h:frz (O'++X) O'.length 8 d=qK cs):uB O'.length (.ok d (O'++X))=.ok (.lst cs) O':=by
 unfold uB;dsimp only;rw[h];have:(O'++X).take O'.length=O':=by simp
 rw[this,vC λc b=>vC λd e=>AM (a c b d e)]
def zbo(h:a<=b)(c:vt a d=YP):vt b d=YP:=by
 cases d with
 |own k=>simp[vt] at c ⊢;lia
 |_=>exact c
def zff(h:uZ O)(b:∀c∈X,∀d∈c,vt (O.length+X.length) d=YP):uZ (O++X):=by
 intro c hc d a;rw[au];rcases aM.mp hc with hc|hc
 ·exact zbo (gJ _ _) (h c hc d a)
 ·exact b c hc d a
def zfj(h:uZ O)(a:∀d∈c,vt (O.length+1) d=YP):uZ (O++[c]):=zff h λx b d e=>by
 have:x=c:=⇑b
 subst this;exact a d e
def Xg:Nat->l_
 |0=>[[]]
 |n+1=>(Xg n).flatMap λt=>[t++[45],t++[48],t++[49]]
noncomputable def Ry:Nat->n_
 |45=>[0,1]
 |49=>[1]
 |_=>[0]
def qL(cs:n_):n_:=cs.foldl (λps c=>ps.flatMap λp=>(Ry c).map (2*p + ·)) [0]
def rL(l:n_):List D:=l.map λ(p:Nat)=>D.int (p:Int)
def oO:l_:=Xg 1++Xg 2++Xg 3++Xg 4
def ziu(O:Ow):(oO.map λcs=>AR [.str cs] O)=oO.map λcs=>R.ok (.lst (rL (qL cs))) O:=by kernel_rfl
def Bw:Nat->Nat->n_
 |0,_=>[]
 |n+1,p=>Bw n (p/2)++[48+p%2]
def pA:List (n_×Nat):=oO.flatMap λcs=>(aV (2 ^ cs.length)).map λp=>(cs,p)
def pJ:List (Nat×Nat):=[1,2,3,4].flatMap λn=>(aV (2 ^ n)).map λp=>(n,p)
def TK(b:1<=n)(c:n<=4)(a:p<2 ^ n):(n,p)∈pJ:=by
 unfold pJ;rw[dj];refine⟨n,?_,ay.mpr ⟨p,bg.mpr a,rfl⟩⟩;have:n=1\/n=2\/n=3\/n=4:=by lia
 rcases this with rfl|rfl|rfl|rfl<;>simp
def LQ(cs bs:n_):Bool:=(aV cs.length).all λi=>cs.getD i 0==45||cs.getD i 0==bs.getD i 1
noncomputable def sgn(c:Nat):Bool:=c==45||c==48||c==49
def bit(c:Nat):Bool:=c==48||c==49
def zdQ:(pA.all λq=>LQ q.1 (Bw q.1.length q.2)==(qL q.1).contains q.2&&(Bw q.1.length q.2).length==q.1.length&&(Bw q.1.length q.2).all bit&&q.1.all sgn)=YP:=by decide +kernel
def Ug(h:cs∈oO)(a:p<2 ^ cs.length):(cs,p)∈pA:=by unfold pA;rw[dj];exact⟨cs,h,ay.mpr ⟨p,bg.mpr a,rfl⟩⟩
def JV(h:cs∈oO)(O:Ow):AR [.str cs] O=.ok (.lst (rL (qL cs))) O:=cA.mp (ziu O) cs h
def z6D(O:Ow):BL [.int 1] O=.ok (.lst ((Xg 1).map .str)) O:=by kernel_rfl
def z6A(O:Ow):BL [.int 2] O=.ok (.lst ((Xg 2).map .str)) O:=by kernel_rfl
def z6O(O:Ow):BL [.int 3] O=.ok (.lst ((Xg 3).map .str)) O:=by kernel_rfl
def z7k(O:Ow):BL [.int 4] O=.ok (.lst ((Xg 4).map .str)) O:=by kernel_rfl
def zoA(O:Ow)(a:sgn c=YP)(d:bit b=YP):v_ O (.str [c]) (.tup [.str [45],.str [b]])=.ok (.bl (!(c==45||c==b))) O:=by unfold sgn at a;unfold bit at d;simp only[i9,beq_iff_eq] at a d;rcases a with(rfl|rfl)|rfl<;>rcases d with rfl|rfl<;>kernel_rfl
def yO(d:D):Prop:=d=.int 0\/d=.int 1\/d=.non
def uh:D->Bool
 |.int i=>i==0
 |_=>Y1
structure Fn(n:Nat)(f:List D):Prop where
 n1:1<=n
 n4:n<=4
 len:f.length=2 ^ n
 ans:∀d∈f,yO d
def sN(f:List D)(cs:n_):Bool:=(qL cs).all λp=>!uh (f.getD p .non)
def ne0(O:Ow)(h:yO d):pZ rF O d (.int 0)=.ok (.bl (!uh d)) O:=by rcases h with rfl|rfl|rfl<;>kernel_rfl
def eq0(O:Ow)(h:yO d):pZ rQ O d (.int 0)=.ok (.bl (uh d)) O:=by rcases h with rfl|rfl|rfl<;>kernel_rfl
def zM(a:1<=n)(b:n<=4):n=1\/n=2\/n=3\/n=4:=by lia
def uQ{n:Nat}(a:1<=n)(b:n<=4){cs:n_}(h:cs∈Xg n):cs∈oO:=by unfold oO;rcases zM a b with rfl|rfl|rfl|rfl<;>simp[h]
def z6M:([1,2,3,4].all λn=>(Xg n).all λcs=>cs.length==n)=YP:=by decide +kernel
def sZ{n:Nat}(a:1<=n)(b:n<=4){cs:n_}(h:cs∈Xg n):cs.length=n:=by have:=al.mp z6M n (by rcases zM a b with rfl|rfl|rfl|rfl<;>simp);simpa using al.mp this cs h
def zbk:(oO.all λcs=>(qL cs).all λp=>decide (p<2 ^ cs.length))=YP:=by decide +kernel
def Je(h:cs∈oO)(a:p∈qL cs):p<2 ^ cs.length:=by have:=al.mp zbk cs h;simpa using al.mp this p a
def z8N:(oO.all λcs=>decide ((qL cs).length<=16))=YP:=by decide +kernel
def Tc(h:cs∈oO):(qL cs).length<=16:=by simpa using al.mp z8N cs h
theorem S8:∀l:List Bool,yp (l.map D.bl)=Xy l
 |[]=>rfl
 | b::l=>by
  show(yp (l.map D.bl)).map (b :: ·)=_;rw[S8 l];rfl
def Ub(O:Ow)(l:List Bool):xE O [.lst (l.map D.bl)]=.ok (.bl (l.all id)) O:=by show(match yp (l.map D.bl) with|some bs=>R.ok (D.bl (bs.all id)) O|none=>R.bad)=_;rw[S8]
def BA{f:List D}{p:Nat}(h:p<f.length):f.getD p .non=f[p]:=by rw[aD,am h];rfl
def Nl{α:Type}(l:List α):l.filter (λ_=>YP)=l:=by simp
def MI{n:Nat}{f:List D}(a:Fn n f){cs:n_}(h:cs∈Xg n)(O:Ow):AQ [.tup f,.str cs] O=.ok (.bl (sN f cs)) O:=by
 have b:=uQ a.n1 a.n4 h;have l:=sZ a.n1 a.n4 h;have c:pY (j_ 1 AR (a_ m_ f_)) [qj f,rT cs] O=.ok (.val (rL (qL cs))) O:=tu ((vQ (pX rfl) rfl).trans (JV b O));have j:=MZ (ext:=1) (i:=2) (ts:=[]) (te:=c_ (pZ rF) (c_ qw pS pV) rJ) (e:=λd=>.bl (match d with|.int i=>!uh (f.getD i.toNat .non)|_=>Y1)) c (by unfold rL;have:=Tc b;simp;lia) (λd k=>rfl) (λd k _=>by
  obtain⟨q,m,rfl⟩:=ay.mp k;have g:q<f.length:=by rw[a.len,<- l];exact Je b m
  refine(rN ((rN rfl rfl).trans (Jp g)) rfl).trans ((ne0 O (a.ans _ (bD g))).trans ?_);have:((q:Int)).toNat=q:=by lia
  show _=R.ok (D.bl (!uh (f.getD ((q:Int)).toNat .non))) O;rw[this,BA g]) Y1
 have o:(((rL (qL cs)).filter λ_=>YP).map λd=>D.bl (match d with|.int i=>!uh (f.getD i.toNat .non)|_=>Y1))=((qL cs).map λp=>!uh (f.getD p .non)).map D.bl:=by
  rw[Nl];unfold rL;rw[bi,bi];exact e8 λq _=>by
   show D.bl (!uh (f.getD ((q:Int)).toNat .non))=D.bl (!uh (f.getD q .non));have:((q:Int)).toNat=q:=by lia
   rw[this]
 rw[o] at j;show fin (p8 _ [qj f,rT cs] O)=_;rw[rY ((xH (pX j)).trans (Ub O _))];congr 2;rw[mq];rfl
def zdE(O:Ow)(h:yO d):J0 [d] O=.ok (.bl YP) O:=by rcases h with rfl|rfl|rfl<;>kernel_rfl
def CC(a:n<=4):2 ^ n<=16:=aH (di 'u' a) 'u'
def TR(O:Ow)(f:List D):qJ O [.tup f]=.ok (.int f.length) O:=rfl
def z60(a:Fn n f)(O:Ow):J7 [.tup f] O=.ok (.bl YP) O:=by
 have b:=MZ (ext:=1) (i:=1) (ts:=[]) (te:=j_ 1 J0 (a_ m_ f_)) (it0:=pY pS) (σ:=[qj f]) rfl (by have:=CC a.n4;have:=a.len;lia) (λd c=>rfl) (λd c _=>(vQ (pX rfl) rfl).trans (zdE O (a.ans d c))) Y1;have e:(f.filter λ_=>YP).map (λ_=>D.bl YP)=(f.map λ_=>YP).map D.bl:=by rw[Nl,bi];rfl
 rw[e] at b;have g:qQ (xB (sO (qH (vM "tuple" pS))) (qd (AH YP yd (pT qJ qA)))) vn qS [qj f] O=.nx [qj f] O:=by
  have:xB (sO (qH (vM "tuple" pS))) (qd (AH YP yd (pT qJ qA))) [qj f] O=.ok Y1 O:=by
   show(qd (AH YP yd (pT qJ qA)) [qj f] O)=_;refine rO ?_;show R.ok (D.bl (if YP=YP then !(u_ yd (f.length:Nat)).isSome else _)) O=_;rw[a.len];rcases zM a.n1 a.n4 with rfl|rfl|rfl|rfl<;>rfl
  rw[tI this];rfl
 show fin (o_ _ _ [qj f] O)=_;rw[tj g,rY ((xH (pX b)).trans (Ub O _))];show R.ok (D.bl _) O=_;congr 2;rw[mq];exact al.mpr λ_ _=>rfl
def Me{n:Nat}{f:List D}(a:Fn n f)(O:Ow):CK [.tup f] O=.ok .non O:=by show fin (qQ _ _ qS [qj f] O)=_;have b:j_ 1 J7 qA [qj f] O=.ok (.bl YP) O:=(vQ (pX rfl) rfl).trans (z60 a O);rw[tI (vg (sF b))];rfl
def VL{n:Nat}{f:List D}(a:Fn n f)(O:Ow):Gj [.tup f] O=.ok (.int n) O:=by
 show fin (p8 (Fl yd (pT qJ qA)) [qj f] O)=_;have:Fl yd (pT qJ qA) [qj f] O=.ok (.int n) O:=by
  show(match u_ yd (f.length:Nat) with|some v=>R.ok (D.int v) O|none=>R.bad)=_;rw[a.len];rcases zM a.n1 a.n4 with rfl|rfl|rfl|rfl<;>rfl
 rw[rY this];rfl
def Nt{n:Nat}{f:List D}(a:Fn n f)(O:Ow):EE [.tup f] O=.ok (.int n) O:=by
 show fin (p8 (Fk [(2,1),(4,2),(8,3),(16,4)] (pT qJ qA)) [qj f] O)=_;have:Fk [(2,1),(4,2),(8,3),(16,4)] (pT qJ qA) [qj f] O=.ok (.int n) O:=by
  show(match Fb [(2,1),(4,2),(8,3),(16,4)] (f.length:Nat) with|some v=>R.ok (D.int v) O|none=>R.bad)=_;rw[a.len];rcases zM a.n1 a.n4 with rfl|rfl|rfl|rfl<;>rfl
 rw[rY this];rfl
def MW(a:1<=n)(b:n<=4):(Xg n).length<=81:=by rcases zM a b with rfl|rfl|rfl|rfl<;>decide
def s_(n:Nat)(f:List D):l_:=(Xg n).filter (sN f)
def Az:D->n_
 |.str cs=>cs
 |_=>[]
def zaM(l:l_)(p:n_->Bool):((l.map D.str).filter λd=>p (Az d)).map (λd=>d)=(l.filter p).map D.str:=by rw[mD,nN];rfl
structure oR(O:Ow)(m:Nat)(s:Int)(b:Bool):Prop where
 at_:O[m]?=Xy [.int s,.bl b]
 nn:0<=s
 lt:b=Y1->s<2147483647
def oR.len{O:Ow}{m:Nat}{s:Int}{b:Bool}(h:oR O m s b):m<O.length:=(ao.mp h.at_).1
def JE(h:O[m]?=Xy [x,y]):qw O (.own m) (.int 0)=.ok x O:=by show(match O[m]? with|some ds=>(match L2.atI ds 0 with|some d=>R.ok d O|none=>R.bad)|none=>_)=_;rw[h];rfl
def Ul(h:O[m]?=Xy [x,y]):qw O (.own m) (.int 1)=.ok y O:=by show(match O[m]? with|some ds=>(match L2.atI ds 1 with|some d=>R.ok d O|none=>R.bad)|none=>_)=_;rw[h];rfl
def SV(a:te σ O=.ok y O1)(b:to σ O1=.ok (.own k) O2)(c:ti σ O2=.ok (.int i) O3)(d:O3[k]?=Xy ds)(e:L2.ixN ds.length i=Xy j):
  Ar te to ti σ O=.nx σ (O3.set k (ds.set j y)):=by show((te σ O).bnS _)=_;rw[a];show((to σ O1).bnS _)=_;rw[b];show((ti σ O2).bnS _)=_;rw[c];show(match O3[k]? with|some ds=>(match L2.ixN ds.length i with|some j=>RS.nx σ (O3.set k (ds.set j y))|none=>RS.bad)|none=>RS.bad)=_;rw[d];show(match L2.ixN ds.length i with|some j=>RS.nx σ (O3.set k (ds.set j y))|none=>RS.bad)=_;rw[e]
def FD(h:0<j):fI uN O (.int i) (.int j)=.ok (.int (i%j)) O:=by show(match uN i j with|some d=>R.ok d O|none=>R.bad)=_;unfold uN;rw[Kk h]
def RA(h:0<j)(a:j<1073741824):fI yw O (.int i) (.int j)=.ok (.int (i/j)) O:=by show(match yw i j with|some d=>R.ok d O|none=>R.bad)=_;unfold yw;rw[Kk ⟨h,a⟩]
def Ek(h:-1000000000000000<i)(a:i<1000000000000000):fI u4 O (.int i) (.int j)=.ok (.int (i*j)) O:=by show(match u4 i j with|some d=>R.ok d O|none=>R.bad)=_;unfold u4;rw[Kk (.inl ⟨h,a⟩)]
def BF:rC O (.int i) (.int j)=.ok (.int (i+j)) O:=rfl
def F0(h:oR O m s b)(F:1<=k)(G:k<=1000):
  ∃(r:Nat)(d:Int),r<k/\vf [.own m,.int k] O=.ok (.int r) (O.set m [.int d,.bl b])/\oR (O.set m [.int d,.bl b]) m d b:=by
 have f:(0:Int)<(k:Int):=by lia
 have g:∀d,(O.set m [.int d,.bl b])[m]?=Xy [D.int d,D.bl b]:=λd=>by rw[bE h.len]
 have A:∀x:Int,∃r:Nat,r<k/\x%(k:Int)=(r:Int):=λx=>by
  have H:=kN x (show(k:Int)≠0 by lia);have I:=jH x f;exact⟨(x%(k:Int)).toNat,by lia,by lia⟩
 cases b with
 | true=>
  obtain⟨r,i,l⟩:=A s;refine⟨r,s/k,i,?_,g _,Int.ediv_nonneg h.nn 'd',λz=>by cases z⟩;have n:qH (c_ qw pS rz) [qI m,k_ k,XV,XV] O=.ok YP O:=sF ((rN rfl rfl).trans (Ul h.at_));have o:p_ 2 (c_ (fI uN) (c_ qw pS rJ) m_) [qI m,k_ k,XV,XV] O=.nx [qI m,k_ k,k_ r,XV] O:=by
   rw[yF ((rN ((rN rfl rfl).trans (JE h.at_)) rfl).trans (FD f)),l];rfl
  have p:Ar (c_ (fI yw) (c_ qw pS rJ) m_) pS rJ [qI m,k_ k,k_ r,XV] O=.nx [qI m,k_ k,k_ r,XV] (O.set m [.int (s/k),.bl YP]):=
   SV (j:=0) ((rN ((rN rfl rfl).trans (JE h.at_)) rfl).trans (RA f 'd')) rfl rfl h.at_ rfl
  show fin (o_ (qQ _ _ _) _ [qI m,k_ k,XV,XV] O)=_;have q:qQ (qH (c_ qw pS rz)) (o_ (p_ 2 (c_ (fI uN) (c_ qw pS rJ) m_)) (o_ (Ar (c_ (fI yw) (c_ qw pS rJ) m_) pS rJ) (p8 pV))) qS [qI m,k_ k,XV,XV] O=.rt (.int r) (O.set m [.int (s/k),.bl YP]):=by
   rw[tI n,Kk rfl,tj o,tj p];rfl
  rw[Cv q];rfl
 | false=>
  have J:=h.lt rfl;let a:Int:=(s*48271+29)%2147483647;have t:0<=a:=kN _ 'u';have u:a<2147483647:=jH _ 'u';let c:=O.set m [.int a,.bl Y1];have B:=g a;let e:Int:=(a*a+39373*a+7)%2147483629;let v:Int:=(e*e+16807*e)%2147483587;have n:qH (c_ qw pS rz) [qI m,k_ k,XV,XV] O=.ok Y1 O:=sF ((rN rfl rfl).trans (Ul h.at_));have C:qQ (qH (c_ qw pS rz)) (o_ (p_ 2 (c_ (fI uN) (c_ qw pS rJ) m_)) (o_ (Ar (c_ (fI yw) (c_ qw pS rJ) m_) pS rJ) (p8 pV))) qS [qI m,k_ k,XV,XV] O=.nx [qI m,k_ k,XV,XV] O:=by
   rw[tI n];rfl
  have o:Ar (c_ (fI uN) (c_ rC (c_ (fI u4) (c_ qw pS rJ) (dC (.int 48271))) (dC (.int 29))) Ic) pS rJ [qI m,k_ k,XV,XV] O=.nx [qI m,k_ k,XV,XV] c:=
   SV (j:=0) ((rN ((rN ((rN ((rN rfl rfl).trans (JE h.at_)) rfl).trans (Ek (by have:=h.nn;lia) 'd')) rfl).trans BF) rfl).trans (FD 'u')) rfl rfl h.at_ rfl
  have y:∀z w,c_ qw pS rJ [qI m,k_ k,z,w] c=.ok (.int a) c:=λz w=>(rN rfl rfl).trans (JE B);have p:p_ 3 (c_ (fI uN) (c_ rC (c_ rC (c_ (fI u4) (c_ qw pS rJ) (c_ qw pS rJ)) (c_ (fI u4) (dC (.int 39373)) (c_ qw pS rJ))) (dC (.int 7))) (dC (.int 2147483629))) [qI m,k_ k,XV,XV] c=.nx [qI m,k_ k,XV,k_ e] c:=
   yF ((rN ((rN ((rN ((rN (y XV XV) (y XV XV)).trans (Ek 'd' 'd')) ((rN rfl (y XV XV)).trans (Ek 'u' 'u'))).trans BF) rfl).trans BF) rfl).trans (FD 'u'))
  have q:p_ 3 (c_ (fI uN) (c_ rC (c_ (fI u4) qg qg) (c_ (fI u4) (dC (.int 16807)) qg)) (dC (.int 2147483587))) [qI m,k_ k,XV,k_ e] c=.nx [qI m,k_ k,XV,k_ v] c:=
   yF ((rN ((rN ((rN rfl rfl).trans (Ek 'd' 'd')) ((rN rfl rfl).trans (Ek 'u' 'u'))).trans BF) rfl).trans (FD 'u'))
  obtain⟨r,i,l⟩:=A (v/8);refine⟨r,a,i,?_,g _,t,λ_=>u⟩;have E:p8 (c_ (fI uN) (c_ (fI yw) qg (dC (.int 8))) m_) [qI m,k_ k,XV,k_ v] c=.rt (.int r) c:=by
   rw[rY ((rN ((rN rfl rfl).trans (RA 'u' 'u')) rfl).trans (FD f)),l]
  show fin (o_ _ _ [qI m,k_ k,XV,XV] O)=_;rw[tj C,tj o,tj p,tj q,E];rfl
def zeD{a:List Int}{k:Nat}(O:Ow):∃s b,Ni [.lst (a.map .int),.int k] O=.ok (.own O.length) (O++[[.int s,.bl b]])/\oR (O++[[.int s,.bl b]]) O.length s b:=by
 have g:∀s b,(O++[[D.int s,D.bl b]])[O.length]?=Xy [D.int s,D.bl b]:=λs b=>by simp
 obtain⟨c,m⟩:∃c:Int,Kg [.lst (a.map .int),.int k] O=.ok (.int c) O:=by
  have e:qd (c_ xQ m_ (pT qJ qA)) [qK (a.map .int),k_ k] O=.ok (decide ((k:Int)<(a.map D.int).length)) O:=rO ((rN rfl ((xH (pX rfl)).trans rfl)).trans rfl);by_cases h:(k:Int)<(a.map D.int).length
  ·have f:k<(a.map D.int).length:=by lia
   have n:c_ qw pS m_ [qK (a.map .int),k_ k] O=.ok (a.map D.int)[k] O:=(rN rfl rfl).trans (Mt f);refine⟨a[k]'⇑f,?_⟩;show fin (o_ _ _ [qK (a.map .int),k_ k] O)=_;have d:qQ (qd (c_ xQ m_ (pT qJ qA))) (p8 (c_ qw pS m_)) qS [qK (a.map .int),k_ k] O=.rt (.int (a[k]'⇑f)) O:=by
    rw[tI e,Kk (decide_eq_true h),rY n];simp
   rw[Cv d];rfl
  ·refine⟨0,?_⟩;show fin (o_ _ _ [qK (a.map .int),k_ k] O)=_;have d:qQ (qd (c_ xQ m_ (pT qJ qA))) (p8 (c_ qw pS m_)) qS [qK (a.map .int),k_ k] O=.nx [qK (a.map .int),k_ k] O:=by
    rw[tI e,Ko ⇑h];rfl
   rw[tj d];rfl
 have i:p_ 2 (j_ 2 Kg (a_ pS (a_ m_ f_))) [qK (a.map .int),k_ k,XV] O=.nx [qK (a.map .int),k_ k,k_ c] O:=yF ((vQ (qE rfl rfl) rfl).trans m);have o:∀j,c_ (fI Fi) (dC (.int 10)) (dC (.int 18)) j O=.ok (.int 1000000000000000000) O:=λj=>by
  refine(rN rfl rfl).trans ?_;kernel_rfl
 have e:qd (c_ DB pV B7) [qK (a.map .int),k_ k,k_ c] O=.ok (decide ((1000000000000000000:Int)<=c)) O:=rO ((rN rfl (o _)).trans rfl);by_cases l:(1000000000000000000:Int)<=c
 ·refine⟨c-1000000000000000000,YP,?_,g _ _,by lia,λz=>by cases z⟩;have d:qQ (qd (c_ DB pV B7)) (p8 (Bv (a_ (c_ (fI xm) pV B7) (a_ zP f_)))) qS [qK (a.map .int),k_ k,k_ c] O=.rt (.own O.length) (O++[[.int (c-1000000000000000000),.bl YP]]):=by
   rw[tI e,Kk (decide_eq_true l)];refine rY ?_;show((a_ _ _ _ O).bnd _)=_;rfl
  show fin (o_ _ _ [qK (a.map .int),k_ k,XV] O)=_;rw[tj i,Cv d];rfl
 ·refine⟨c%2147483647,Y1,?_,g _ _,kN _ 'u',λ_=>jH _ 'u'⟩;have d:qQ (qd (c_ DB pV B7)) (p8 (Bv (a_ (c_ (fI xm) pV B7) (a_ zP f_)))) qS [qK (a.map .int),k_ k,k_ c] O=.nx [qK (a.map .int),k_ k,k_ c] O:=by
   rw[tI e,Ko ⇑l];rfl
  show fin (o_ _ _ [qK (a.map .int),k_ k,XV] O)=_;rw[tj i,tj d];have p:Bv (a_ (c_ (fI uN) pV Ic) (a_ (dC (.bl Y1)) f_)) [qK (a.map .int),k_ k,k_ c] O=.ok (.own O.length) (O++[[.int (c%2147483647),.bl Y1]]):=by
   show((a_ _ _ _ O).bnd _)=_;rfl
  rw[rY p];rfl
def JC{O:Ow}{m:Nat}{x:List D}(h:O[m]?=Xy x):O.set m x=O:=by obtain⟨a,rfl⟩:=ao.mp h;exact List.set_getElem_self a
def UE(h:uZ O)(m:Nat)(s:Int)(b:Bool):uZ (O.set m [.int s,.bl b]):=by
 intro c e d a;rw[cQ];rcases g9 e with f|rfl
 ·exact h c f d a
 ·simp at a;rcases a with rfl|rfl<;>rfl
def T6(a:uZ O')(X:Ow)(h:frz (O'++X) O'.length 8 d=Xy d'):uB O'.length (.ok d (O'++X))=.ok d' O':=by
 unfold uB;dsimp only;rw[h];have:(O'++X).take O'.length=O':=by simp
 rw[this,vC λc b=>vC λd e=>AM (a c b d e)]
theorem M4:∀(n:Nat)(cs:n_),cs.length=n->(∀c∈cs,sgn c=YP)->cs∈Xg n
 | 0,cs,h,_=>by
  have:=cJ.mp h;subst this;simp[Xg]
 | n+1,cs,h,hs=>by
  have b:cs≠[]:=by intro e;subst e;simp at h
  obtain⟨t,c,rfl⟩:∃t c,cs=t++[c]:=⟨_,_,(List.dropLast_concat_getLast b).symm⟩;have d:=M4 n t ⇑h λc f=>hs c (bt _ f);unfold Xg;rw[dj];refine⟨t,d,?_⟩;have a:=hs c 'k';unfold sgn at a;simp at a;rcases a with(z|z)|z<;>rw[z]<;>simp
def Zf{σ:Sg}{O:Ow}{t:DE}{n:Nat}(a:n<=4)(h:t σ O=.ok (.int n) O):c_ (fI xC) rz t σ O=.ok (.int ((2 ^ n:Nat):Int)) O:=by
 refine(rN rfl h).trans ?_;have:n=0\/n=1\/n=2\/n=3\/n=4:=by lia
 rcases this with rfl|rfl|rfl|rfl|rfl<;>rfl
def L4(h:∀d∈ds,vt n d=YP):frz O n (f+2) (.tup ds)=qj ds:=by show(qv (frz O n (f+1)) ds).map D.tup=_;rw[vC λd a=>AM (h d a)];rfl
def zf1(h:yO d)(n:Nat):vt n d=YP:=by rcases h with rfl|rfl|rfl<;>rfl
theorem UY{src:Src}{step:D->Ow->List D->R (List D)}{O:Ow}{g:D->List D}{b:List D}(c:∀i,src.get O i=b[i]?):∀(ds a Xo:List D)(f:Nat),b=a++ds->ds.length<=f->(∀d∈ds,∀Xo:List D,Xo.length<4000000->step d O Xo=.ok (Xo++g d) O)->Xo.length+(ds.flatMap g).length+ds.length<4000000->
  rg src step f a.length O Xo=.ok (Xo++ds.flatMap g) O
 | [],a,Xo,f,ha,_,_,_=>by
  have e:src.get O a.length=XV:=by rw[c,ha];simp
  cases f<;>(unfold rg;rw[e];simp)
 |d::ds,a,Xo,0,_,h,_,_=>by simp at h
 | d::ds,a,Xo,f+1,ha,h,hs,hl=>by
  unfold rg;have e:src.get O a.length=Xy d:=by rw[c,ha];simp
  rw[e];simp only[bX,au,aW] at hl;show((step d O Xo).bnd λj k=>rg src step f (a.length+1) k j)=_;rw[hs d ar Xo 'd'];show rg src step f (a.length+1) O (Xo++g d)=_;have:=UY c ds (a++[d]) (Xo++g d) f (by rw[ha];simp) ⇑h (λl m=>hs l (ak _ m)) (by rw[au];lia);rw[au,fz] at this;rw[this];simp
def zl9{ext:Nat}{it0:DI}{g:Tg}{ts:List DT}{te:DE}{σ:Sg}{O:Ow}{src:Src}{ds:List D}{p:D->Bool}{e:D->D}{τ:D->Sg}(q:it0 σ O=.ok src O)(r:∀i,src.get O i=ds[i]?)(s:src.size O=ds.length)(A:ds.length<1900000)
  (t:∀d∈ds,g.put d (qM (qM (σ++aU ext XV) (g.slots++[])) (g.slots++[]))=Xy (τ d)) (u:∀d∈ds,uc ts (τ d) O=.ok (p d) O) (v:∀d∈ds,p d=YP->te (τ d) O=.ok (e d) O) (o:Bool):
  qp o ext it0 g ts [] te σ O=xA o (.ok ((ds.filter p).map e) O):=by
 unfold qp BB;rw[q];show xA o (zp (rg src _ (src.size O) 0 O []))=_;have c:∀d∈ds,∀a:List D,a.length<4000000->zV ⟨it0,g,ts⟩ [] te (qM (σ++aU ext XV) (qT [⟨it0,g,ts⟩])) d O a=.ok (a++(if p d=YP then [e d] else [])) O:=by
  intro d k a y;show(match g.put d (qM (qM (σ++aU ext XV) (g.slots++[])) (g.slots++[])) with|some rq=>(uc ts rq O).bnd λb m=>if b=YP then u9 [] te rq m a else .ok a m|none=>.bad)=_;rw[t d k];show(uc ts (τ d) O).bnd _=_;rw[u d k];show(if p d=YP then u9 [] te _ O a else .ok a O)=_;by_cases f:p d=YP
  ·rw[Kk f,Kk f];unfold u9;rw[v d k f];show(if a.length<4000000 then _ else _)=_;rw[Kk y]
  ·rw[Ko f,Ko f];simp
 have n:∀l:List D,(l.flatMap λd=>if p d=YP then [e d] else [])=(l.filter p).map e:=by
  intro l
  induction l with
  |nil=>rfl
  | cons x l ih=>
   rw[bX,ih,cT];by_cases j:p x=YP
   ·rw[Kk j,Kk j];rfl
   ·rw[Ko j,Ko j];rfl
 have h:((ds.filter p).map e).length<=ds.length:=by rw[aq];exact aQ _ _
 have w:=UY (O:=O) (g:=λd=>if p d=YP then [e d] else []) r ds [] [] ds.length rfl (aE _) c (by rw[n];simp at h ⊢;lia);rw[n,eC] at w;have z:rg src (zV ⟨it0,g,ts⟩ [] te (qM (σ++aU ext XV) (qT [⟨it0,g,ts⟩]))) (src.size O) 0 O []=.ok ((ds.filter p).map e) O:=by rw[s];exact w
 rw[z];rfl
def CB(h:r9 O x=Xy xs):∃src,Iy x=Xy src/\(∀i,src.get O i=xs[i]?)/\src.size O=xs.length:=by
 cases x with
 |lst ds=>cases h;exact⟨.val xs,rfl,λ_=>rfl,rfl⟩
 | own k=>
  have h:O[k]?=Xy xs:=h;refine⟨.own k,rfl,λi=>?_,?_⟩
  ·show(match O[k]? with|some ds=>ds[i]?|none=>XV)=_;rw[h]
  ·show(match O[k]? with|some ds=>ds.length|none=>0)=_;rw[h]
 |_=>cases h
def Mf(h:r9 O x=Xy xs):qJ O [x]=.ok (.int xs.length) O:=by show(match r9 O x with|some ds=>R.ok (D.int ds.length) O|none=>_)=_;rw[h]
structure Sq(O:Ow)(x:D)(xs:List D)(kd:String):Prop where
 zk:∃src,Bo x=Xy src/\(∀i,src.get O i=xs[i]?)/\src.size O=xs.length
 ln:qJ O [x]=.ok (.int xs.length) O
 kind:Ce x=kd
def SS{α:Type}{it:DI}{g:Tg}{body:DS}{σ:Sg}{O0 O:Ow}{src:Src}{l:List α}{inj:α->D}(o:it σ O0=.ok src O)(z:src.size O=l.length)(I:Nat->Sg->Ow->Prop)
  (h:∀(k:Nat)a σ O,l[k]?=Xy a->I k σ O->src.get O k=Xy (inj a)/\∃j σ' b,g.put (inj a) σ=Xy j/\body j O=.nx σ' b/\I (k+1) σ' b) (n:∀σ O,I l.length σ O->src.get O l.length=XV) (p:I 0 σ O):
  ∃σ' b,sJ it g body σ O0=.nx σ' b/\I l.length σ' b:=by
 have e:∀(f i:Nat)(σ:Sg)(O:Ow),I i σ O->l.length<=i+f->i<=l.length->∃σ' b,ud src (λd σ O=>match g.put d σ with|some σ'=>body σ' O|none=>.bad) f i σ O=.nx σ' b/\I l.length σ' b:=by
  intro f
  induction f with
  | zero=>
   intro i σ O c q r;have:i=l.length:=by lia
   subst this;unfold ud;rw[n σ O c];exact⟨σ,O,rfl,c⟩
  | succ f ih=>
   intro i σ O c q r;by_cases m:i=l.length
   ·subst m;unfold ud;rw[n σ O c];exact⟨σ,O,rfl,c⟩
   ·have s:i<l.length:=by lia
    obtain⟨t,j,σ',b,u,v,w⟩:=h i l[i] σ O (am s) c;unfold ud;rw[t];dsimp only;rw[u];dsimp only;rw[v];exact ih (i+1) σ' b w 'd' 'd'
 obtain⟨σ',b,x,y⟩:=e (src.size O) 0 σ O p 'd' (bI _);exact⟨σ',b,(Mm o).trans x,y⟩
def Uw(a:σ[i]?=Xy (qI k))(b:t σ O=.ok y O1)(c:r9 O1 y=Xy es)(d:O1[k]?=Xy ds)(e:ds.length+es.length<=4000000):
  sY (zO (qN i) (a_ t f_)) σ O=.nx σ (O1.set k (ds++es)):=by refine Js (x:=.non) ?_;unfold zO qN;rw[a];show((a_ t f_ σ O).bnd _)=_;rw[pX b];show(match [y],O1[k]? with|[y],Xy ds=>(match r9 O1 y with|some es=>if ds.length+es.length<=4000000 then R.ok D.non (O1.set k (ds++es)) else R.bad|none=>R.bad)|_,_=>R.bad)=_;rw[d];dsimp only;rw[c];dsimp only;rw[Kk e]
def Ep(a:σ[i]?=Xy (qI k))(b:t σ O=.ok y O1)(c:O1[k]?=Xy ds)(d:ds.length<4000000):
  sY (yu (qN i) (a_ t f_)) σ O=.nx σ (O1.set k (ds++[y])):=by refine Js (x:=.non) ?_;unfold yu qN;rw[a];show((a_ t f_ σ O).bnd _)=_;rw[pX b];show(match [y],O1[k]? with|[y],Xy ds=>if ds.length<4000000 then R.ok D.non (O1.set k (ds++[y])) else R.bad|_,_=>R.bad)=_;rw[c];dsimp only;rw[Kk d]
def BI:(O++[x]).set O.length y=O++[y]:=by rw[gC _ _ (aE _),gA];rfl
def xI:(O++[x])[O.length]?=Xy x:=by simp
def LL(h:t σ O=.ok x O1)(a:Iy x=Xy src):pY t σ O=.ok src O1:=by
 unfold pY;rw[h];cases x with
 |lst ds=>cases a;rfl
 |own k=>cases a;rfl
 |_=>cases a
def Eu(h:r9 O x=Xy xs):r9 (O++X) x=Xy xs:=by
 cases x with
 |lst ds=>exact h
 | own k=>
  show(O++X)[k]?=Xy xs;rw[aK (ao.mp h).1];exact h
 |_=>cases h
def oR.more(h:oR O m s b):oR (O++X) m s b:=⟨by rw[aK h.len];exact h.at_,h.nn,h.lt⟩
def D1(t:n_):l_:=[t++[45],t++[48],t++[49]]
def z7s{n:Nat}(V:n<=4){O:Ow}(G:uZ O):Nk [.int n] O=.ok (.lst ((Xg n).map .str)) O:=by
 have s:∀i,i<=4->(Xg i).length<=81:=λi H=>by
  have:i=0\/i=1\/i=2\/i=3\/i=4:=by lia
  rcases this with rfl|rfl|rfl|rfl|rfl<;>decide
 have I:∀i,i<=4->∀t∈Xg i,t.length<=4:=λi H t b=>by
  have:i=0\/i=1\/i=2\/i=3\/i=4:=by lia
  rcases this with rfl|rfl|rfl|rfl|rfl
  ·simp[Xg] at b;simp[b]
  ·rw[sZ 'u' 'u' b];decide
  ·rw[sZ 'u' 'u' b];decide
  ·rw[sZ 'u' 'u' b];decide
  ·rw[sZ 'u' 'u' b];decide
 let N:Option D:=k_ n;let E:Ow->D->List D->Prop:=λX d o=>d=.lst o \/ ∃k,d=.own (O.length+k)/\X[k]?=Xy o;have u:∀{X d o},E X d o->r9 (O++X) d=Xy o:=λ{X d o}h=>by
  rcases h with rfl|⟨k,rfl,h⟩
  ·rfl
  ·show(O++X)[O.length+k]?=_;rw[aS 'd',bM];exact h
 show uB O.length (fin (Nf [N,XV,XV,XV,XV] O))=_;unfold Nf;rw[tj (σ':=[N,Xy (.lst [.str []]),XV,XV,XV]) (O1:=O) (by rfl)];obtain⟨σ',m,v,d,w,z,f,X,rfl,rfl,e⟩:=ya (i:=2) (O:=O) (l:=aV n) (body:=(o_ (p_ 3 yV) (o_ (sJ (pY m_) (.one 4) (sY (zO qg (a_ (u6 (a_ (c_ rC qu xZ) (a_ (c_ rC qu (dC (.str [48]))) (a_ (c_ rC qu (dC (.str [49]))) f_)))) f_)))) (p_ 1 qg))))
  (zc (σ:=[N,Xy (.lst [.str []]),XV,XV,XV]) (O:=O) (pX (t:=qN 0) rfl) 'd') (λi σ m=>∃d w z f X,σ=[N,Xy d,w,z,f]/\m=O++X/\E X d ((Xg i).map .str)) (λi a σ m J p=>by
   obtain⟨d,w,z,f,X,rfl,rfl,e⟩:=p;have W:i<n:=by
    have:=(ao.mp J).1;simpa using this
   have F:i<=4:=by lia
   rw[tj (σ':=[N,Xy d,k_ a,Xy (.own (O++X).length),f]) (by rfl)];obtain⟨K,A,Y,L⟩:=CB (Eu (X:=[[]]) (u e));obtain⟨σ',m,v,M,rfl,rfl⟩:=SS (α:=n_) (g:=.one 4) (l:=Xg i) (inj:=.str) (body:=(sY (zO qg (a_ (u6 (a_ (c_ rC qu xZ) (a_ (c_ rC qu (dC (.str [48]))) (a_ (c_ rC qu (dC (.str [49]))) f_)))) f_))))
    (LL (t:=qN 1) rfl A) (by rw[L];simp)
    (λj σ m=>∃f,σ=[N,Xy d,k_ a,Xy (.own (O++X).length),f]/\m=O++X++[(((Xg i).take j).flatMap D1).map .str]) (λj t σ m b p=>by
     obtain⟨f,rfl,rfl⟩:=p;have Z:=(ao.mp b).1;obtain⟨P,r,B,Q⟩:=CB (Eu (u e));rw[A] at r;cases r;refine⟨by rw[B,bd,b];rfl,[N,Xy d,k_ a,Xy (.own (O++X).length),rT t],_,_,rfl,Uw (y:=.lst ((D1 t).map .str)) (ds:=(((Xg i).take j).flatMap D1).map .str) rfl ?_ rfl xI ?_,_,rfl,?_⟩
     ·have S:=I i F t (aF b);have T:∀c C,rC C (.str t) (.str [c])=.ok (.str (t++[c])) C:=λc C=>by
       match t,S with
       |[],_=>rfl
       |[_],_=>rfl
       |[_,_],_=>rfl
       |[_,_,_],_=>rfl
       |[_,_,_,_],_=>rfl
      simp only[o_,p_,qQ,p8,sY,qS,qN,dC,a_,f_,j_,pT,c_,qd,qH,sO,DN,R.bnd,R.bnS,fin,eU,eV,fw,gg,aW,eB,fZ,iQ,gL,jh,if_true,if_false,eS,iu,ck,ite_true,ite_false,u6,T,D1,bB,gq]
     ·have h1:=s i F;have U:∀l:l_,(l.flatMap D1).length=3*l.length:=λl=>by
       induction l with
       |nil=>rfl
       |cons x l ih=>rw[bX,au,ih,aW];show 3+_=_;lia
      rw[aq,U,aq];have h3:=List.length_take_le j (Xg i);show 3*((Xg i).take j).length+3<=_;lia
     ·rw[BI,<- br];have:(Xg i).take (j+1)=(Xg i).take j++[t]:=by
       rw[eJ,b];rfl
      rw[this,jl];simp) (λσ m p=>by
     obtain⟨f,rfl,rfl⟩:=p;obtain⟨P,r,B,Q⟩:=CB (Eu (u e));rw[A] at r;cases r;rw[B];simp) ⟨f,rfl,by simp⟩
   rw[tj v];refine⟨_,_,rfl,.own (O++X).length,_,_,_,X++[(((Xg i).take (Xg i).length).flatMap D1).map .str],rfl,by simp,.inr ⟨X.length,by simp,?_⟩⟩;rw[xI,cF];rfl) ⟨_,_,_,_,[],rfl,by simp,.inl rfl⟩
 rw[tj v,rY (x:=d) rfl];rw[ci] at e;refine JA G X ?_;rcases e with rfl|⟨k,rfl,h⟩
 ·show(qv (frz (O++X) O.length 7) ((Xg n).map D.str)).map D.lst=_;rw[vC λd e=>by obtain⟨q,_,rfl⟩:=ay.mp e;exact AM rfl];rfl
 ·unfold frz;dsimp only;rw[Ko 'd',aS 'd',bM,h];dsimp only;rw[vC λd e=>by obtain⟨q,_,rfl⟩:=ay.mp e;exact AM rfl];rfl
def z7j(O:Ow):(pA.map λq=>vW [.str q.1,.int (q.2:Nat)] O)=pA.map λq=>R.ok (.bl ((qL q.1).contains q.2)) O:=by kernel_rfl
def CF{cs:n_}{p:Nat}(h:cs∈oO)(a:p<2 ^ cs.length)(O:Ow):vW [.str cs,.int (p:Nat)] O=.ok (.bl ((qL cs).contains p)) O:=cA.mp (z7j O) _ (Ug h a)
def F6(e:c σ O=.ok a O)(f:a=YP->d σ O=.ok b O):vw c d σ O=.ok (a&&b) O:=by
 show((c σ O).bnd _)=_;rw[e];cases a with
 |true=>exact f rfl
 |false=>rfl
def VI{n:Nat}{f:List D}(b:Fn n f){cs:n_}(h:cs∈Xg n)(O:Ow):Ge [.tup f,.str cs] O=.ok (.bl (sN f cs)) O:=by
 have d:=uQ b.n1 b.n4 h;have e:=sZ b.n1 b.n4 h;have k:=CC b.n4;have g:=b.len;show fin (JR [qj f,rT cs] O)=_;unfold JR;rw[rY ((rN (u7 (p:=λp=>uh (f.getD p .non)&&(qL cs).contains p) (zc (pX ((xH (pX rfl)).trans rfl)) 'd') (by simp;lia) (λ_=>rfl) (λq a=>by
   have a:=bg.mp a;refine F6 (rO ((rN ((rN rfl rfl).trans (Jp a)) rfl).trans ((eq0 O (b.ans _ (bD a))).trans (by rw[BA a])))) λ_=>sF ((vQ (qE rfl rfl) rfl).trans (CF d (by rw[e,<- g];exact a) O))) (λ_ _ _=>rfl)) rfl).trans (by
  have:=zkA O (((aV f.length).filter λp=>uh (f.getD p .non)&&(qL cs).contains p).map λ(p:Nat)=>(p:Int));rw[bi] at this;exact this))]
 show R.ok (D.bl _) O=_;congr 2;unfold sN;rw[cR,iY,gX,fq,al];constructor
 ·intro h p c;have i:p<f.length:=by rw[g,<- e];exact Je d c
  have:=h p (bg.mpr i);simp at this;cases j:uh (f.getD p .non) with
  |true=>exact absurd c (this j)
  |false=>rfl
 ·intro h p c a;simp only[aY,bo] at a;have:=h p a.2;rw[a.1] at this;cases this
noncomputable def allS:List (n_×Nat):=oO.flatMap λcs=>(aV cs.length).map λk=>(cs,k)
def zgj(h:cs∈oO)(a:k<cs.length):(cs,k)∈allS:=by unfold allS;rw[dj];exact⟨cs,h,ay.mpr ⟨k,bg.mpr a,rfl⟩⟩
def z76:(oO.all λcs=>cs.all sgn)=YP:=by decide +kernel
def F_(a:1<=n)(b:n<=4)(h:cs∈Xg n):∀c∈cs,sgn c=YP:=al.mp (al.mp z76 cs (uQ a b h))
def Jw(b:1<=n)(d:n<=4)(h:cs∈Xg n)(e:sgn c=YP):cs.set k c∈Xg n:=by
 refine M4 n _ (by rw[cQ];exact sZ b d h) λx a=>?_;rcases g9 a with a|rfl
 ·exact F_ b d h x a
 ·exact e
def S6(O:Ow)(h:sgn c=YP):pZ rF O (.str [c]) (.str [45])=.ok (.bl (c !=45)) O:=by unfold sgn at h;simp at h;rcases h with(rfl|rfl)|rfl<;>kernel_rfl
def F3{cs:n_}{k:Nat}(h:k<cs.length):cs.getD k 0=cs[k]:=by rw[aD,am h];rfl
def zhM(O:Ow)(l:n_):pZ rF O (.lst (rL l)) (.lst [])=.ok (.bl (!l.isEmpty)) O:=
 (zZ O (FX 7 l) rfl (by cases l<;>simp)).2
def zij(O:Ow)(l:n_):pZ rQ O (.lst (rL l)) (.lst [])=.ok (.bl l.isEmpty) O:=
 (zZ O (FX 7 l) rfl (by cases l<;>simp)).1
def U4:(oO.all λcs=>cs.all λc=>decide (c<1114112))=YP:=by decide +kernel
def Ej(a:1<=n)(b:n<=4)(h:cs∈Xg n):pl k (.str cs)=YP:=by have:=al.mp U4 cs (uQ a b h);cases k<;>exact this
def Ew{n k:Nat}(a:1<=n)(b:n<=4){l:l_}(h:∀cs∈l,cs∈Xg n):(l.map D.str).all (pl k)=YP:=al.mpr λd c=>by
 obtain⟨cs,e,rfl⟩:=ay.mp c;exact Ej a b (h cs e)
def zi5(O:Ow)(c:1<=n)(d:n<=4)(e:a∈Xg n)(f:b∈Xg n):pZ rF O (.str a) (.str b)=.ok (.bl (decide (a≠b))) O:=by have:=(Fv O (b:=decide (a=b)) (Ej c d e) (Ej c d f) 'k').2;rw[this];congr 2;by_cases h:a=b<;>simp[h]
def zng(O:Ow)(k:Nat)(l:n_):v_ O (.int (k:Nat)) (.lst (rL l))=.ok (.bl (!l.contains k)) O:=
 (Fu O (l:=rL l) (b:=l.contains k) rfl (FX 7 l) (.inl rfl) (by
  rw[bo];unfold rL;rw[ay];constructor
  ·intro h;exact⟨k,h,rfl⟩
  ·rintro⟨j,h,e⟩;injection e with e;have:j=k:=by lia
   rw[<- this];exact h)).2
def zfE:(O++([x]++X))[O.length]?=Xy x:=by rw[aS (aE _),gA];rfl
def JP{α:Type}(p:α->Bool){l:List α}{j:Nat}{x:α}(h:l[j]?=Xy x):(l.take (j+1)).filter p=(l.take j).filter p++(if p x=YP then [x] else []):=by rw[eJ,h,im];congr 1;show List.filter p [x]=_;rw[cT];split<;>rfl
def JB{O:Ow}{m:Nat}{s:Int}{b:Bool}(h:oR (O.set m [.int s,.bl b]) m s b)(X:Ow){k:Nat}(e:1<=k)(f:k<=1000):
  ∃(r:Nat)(a:Int),r<k/\vf [.own m,.int k] (O.set m [.int s,.bl b]++X)=.ok (.int r) (O.set m [.int a,.bl b]++X)/\oR (O.set m [.int a,.bl b]) m a b:=by
 obtain⟨r,a,g,d,c⟩:=F0 (h.more) e f;rw[lN _ _ h.len,mE] at d c;refine⟨r,a,g,d,?_,c.nn,c.lt⟩;have i:m<(O.set m [.int a,.bl b]).length:=by have:=h.len;rw[cQ] at this ⊢;exact this
 have:=c.at_;rwa [aK i] at this
def Jf(O:Ow)(i j:Int):xQ O (.int i) (.int j)=.ok (.bl (decide (i<j))) O:=rfl
def L7(O:Ow)(q:Bool):AA O [.bl q]=.ok (.int (if q=YP then 1 else 0)) O:=by cases q<;>rfl
def zg8(O:Ow){r:Nat}(h:r<3):∃i:Int,qw O (.lst [.int 2,.int 4,.int 6]) (.int r)=.ok (.int i) O:=by
 have:r=0\/r=1\/r=2:=by lia
 rcases this with rfl|rfl|rfl
 ·exact⟨2,rfl⟩
 ·exact⟨4,rfl⟩
 ·exact⟨6,rfl⟩
def z99{O:Ow}(S:uZ O){m:Nat}{s:Int}{b:Bool}(h:oR O m s b){n:Nat}(T:1<=n)(x:n<=4)(l:Bool):
  ∃f g,Fn n f/\J_ [.own m,.int n,.bl l] O=.ok (.tup f) (O.set m [.int g,.bl b])/\oR (O.set m [.int g,.bl b]) m g b:=by
 have hp:=CC x;obtain⟨r,F,U,V,W⟩:=F0 h (k:=3) 'u' 'u';obtain⟨w,y,w1,G,H⟩:=F0 W (k:=3) 'u' 'u';rw[mE] at G H;obtain⟨i,X⟩:=zg8 (O.set m [.int F,.bl b]) U;obtain⟨z,Y⟩:∃z:Int,c_ (fI u4) (j_ 2 vf (a_ pS H_)) (pT AA (a_ pV f_)) [qI m,k_ n,CS l,k_ i,XV,XV,XV,XV] (O.set m [.int F,.bl b])=.ok (.int z) (O.set m [.int y,.bl b]):=by
  refine⟨_,qy (qr (qE rfl rfl) G) (rX (pX rfl) (L7 _ l)) (Ek 'd' 'd')⟩
 let A:Option D:=qI m;let k:=O.length;have c:∀g,(O.set m [D.int g,D.bl b]).length=O.length:=λg=>cQ;obtain⟨Z,B,l1,e,p,C,E,rfl,rfl,h3,t,u⟩:=ya (i:=6) (it:=tM (a_ (c_ (fI xC) rz m_) f_)) (body:=(o_ (p_ 7 (pT AA (a_ (c_ xQ (j_ 2 vf (a_ pS (a_ (dC (.int 8)) f_))) qg) f_))) (o_ (qQ (qd (c_ xQ (j_ 2 vf (a_ pS (a_ (dC (.int 5)) f_))) qu)) (p_ 7 (dC .non)) qS) (sY (yu sM Cc)))))
  (zc (pX (Zf x rfl)) 'd') (λj I B=>∃e g C E,I=[A,k_ n,CS l,k_ i,k_ z,qI O.length,C,E]/\B=O.set m [.int g,.bl b]++[e]/\oR (O.set m [.int g,.bl b]) m g b/\e.length=j/\∀d∈e,yO d) (λj a I B ha hI=>by
   obtain⟨e,g,C,E,rfl,rfl,hs,t,u⟩:=hI;have hj:j<2 ^ n:=by have:=(ao.mp ha).1;simpa using this
   obtain⟨J,t1,_,K,g1⟩:=JB hs [e] (k:=8) 'u' 'u';obtain⟨q2,o,_,L,M⟩:=JB g1 [e] (k:=5) 'u' 'u';have N:yO (.int (if (decide ((J:Int)<i))=YP then 1 else 0)):=by
    by_cases h:(J:Int)<i
    ·exact .inr (.inl (by simp[h]))
    ·exact .inl (by simp[h])
   have q:∀v,yO v->sY (yu sM Cc) [A,k_ n,CS l,k_ i,k_ z,qI O.length,k_ a,Xy v] (O.set m [.int o,.bl b]++[e])=.nx [A,k_ n,CS l,k_ i,k_ z,qI O.length,k_ a,Xy v] (O.set m [.int o,.bl b]++[e++[v]]):=λv _=>by
    rw[Ep rfl rfl (by rw[<- c o];exact xI) 'd'];congr 1;rw[<- c o];exact BI
   have P:∀v,yO v->(e++[v]).length=j+1/\∀d∈e++[v],yO d:=λv hv=>⟨by simp[t],λd hd=>by
    rcases aM.mp hd with hd|hd
    ·exact u d hd
    ·have:d=v:=⇑hd
     rw[this];exact hv⟩
   by_cases Q:(q2:Int)<z
   ·refine⟨_,_,rK (rX (pX (qy (qr (qE rfl rfl) K) rfl (Jf _ _ _))) (L7 _ _)) (vO ?_ (q .non (.inr (.inr rfl)))),e++[.non],o,_,_,rfl,rfl,M,P _ (.inr (.inr rfl))⟩;rw[tI (rO ((qy (qr (qE rfl rfl) L) rfl (Jf _ _ _)).trans (by rw[decide_eq_true Q])))];rfl
   ·refine⟨_,_,rK (rX (pX (qy (qr (qE rfl rfl) K) rfl (Jf _ _ _))) (L7 _ _)) (vP (rO ((qy (qr (qE rfl rfl) L) rfl (Jf _ _ _)).trans (by rw[decide_eq_false Q]))) (q _ N)),_,o,_,_,rfl,rfl,M,P _ N⟩) ⟨[],y,_,_,rfl,rfl,H,rfl,by simp⟩
 rw[ci] at t;refine⟨e,p,⟨T,x,t,u⟩,?_,h3⟩;show uB O.length (fin (Nr [qI m,k_ n,CS l,XV,XV,XV,XV,XV] O))=_;have hB:Nr [qI m,k_ n,CS l,XV,XV,XV,XV,XV] O=.rt (.tup e) (O.set m [.int p,.bl b]++[e]):=by
  refine rK (qy rfl (qr (qE rfl rfl) V) X) (rK Y (rK ?_ (vO l1 (rY (rX (pX rfl) ?_)))))
  ·show R.ok (D.own (O.set m [D.int y,D.bl b]).length) _=_;rw[c]
  ·show(match (O.set m [.int p,.bl b]++[e])[O.length]? with|some ds=>R.ok (D.tup ds) _|none=>_)=_;rw[<- c p,xI]
 rw[tG hB];have:=T6 (UE S m p b) [e] (L4 λd hd=>zf1 (u d hd) _);rw[c] at this;exact this
def zg1{a:List Int}(g:a.length<=63)(σ:Sg)(c:Nat)(h:c<1000)(b:qN 0 σ []=.ok (.lst (a.map .int)) []):∃m:Nat,m<100000/\pT Cd (a_ rz (a_ (pT Ck (a_ (pT qJ qA) (a_ (dC (.int (c:Nat))) f_))) f_)) σ []=.ok (.int (m:Nat)) []:=by
 have d:pT Ck (a_ (pT qJ qA) (a_ (dC (.int (c:Nat))) f_)) σ []=.ok (.int (if (c:Int)<((a.map D.int).length:Nat) then (c:Int) else ((a.map D.int).length:Nat))) []:=(xH (qE ((xH (pX b)).trans rfl) rfl)).trans rfl;have e:=(xH (f:=Cd) (qE (t:=dC (.int 1)) rfl d));refine⟨(if (if (c:Int)<((a.map D.int).length:Nat) then (c:Int) else ((a.map D.int).length:Nat))>1 then (if (c:Int)<((a.map D.int).length:Nat) then (c:Int) else ((a.map D.int).length:Nat)) else 1).toNat,?_,e.trans ?_⟩
 ·rw[aq];split<;>split<;>lia
 ·show R.ok (D.int (if (if (c:Int)<((a.map D.int).length:Nat) then (c:Int) else ((a.map D.int).length:Nat))>1 then (if (c:Int)<((a.map D.int).length:Nat) then (c:Int) else ((a.map D.int).length:Nat)) else 1)) []=_;congr 2;rw[aq];split<;>split<;>lia
noncomputable def sT(n:Nat)(a b:n_):Bool:=(aV n).all λi=>b.getD i 0==45||b.getD i 0==a.getD i 0
def Tt(a:1<=n)(b:n<=4)(h:cs∈Xg n)(d:p<2 ^ n):p∈qL cs↔LQ cs (Bw n p)=YP:=by have c:=sZ a b h;have:=al.mp zdQ _ (Ug (uQ a b h) (by rw[c];exact d));simp at this;rw[c] at this;rw[this.1.1.1];simp
def Jo(a:1<=n)(b:n<=4)(h:cs∈Xg n)(c:p∈qL cs):p<2 ^ n:=by have:=Je (uQ a b h) c;rw[sZ a b h] at this;exact this
def MN(c:1<=n)(d:n<=4)(e:a∈Xg n)(f:b∈Xg n)(h:sT n a b=YP)(g:p∈qL a):p∈qL b:=by
 have j:=Jo c d e g;have m:=(Tt c d e j).mp g;refine(Tt c d f j).mpr ?_;unfold LQ at m ⊢;unfold sT at h;rw[sZ c d e] at m;rw[sZ c d f];rw[al] at h m ⊢;intro i k;have e1:=h i k;have e2:=m i k;simp at e1 e2 ⊢;rcases e1 with e1|e1
 ·exact .inl e1
 ·rcases e2 with e2|e2
  ·exact .inl (e1.trans e2)
  ·exact .inr (e1.trans e2)
def Vl(n:Nat)(a:n_):sT n a a=YP:=by unfold sT;rw[al];intro i _;simp
def VZ{α:Type}(f:Nat->α):((aV n).map f)[i]?=if i<n then Xy (f i) else XV:=by
 rw[bd];by_cases h:i<n
 ·rw[lX h,Kk h];rfl
 ·rw[a9.mpr ⇑h,Ko h];rfl
def ME(a:1<=n)(b:n<=4)(h:cs∈Xg n)(c:i<n):sgn (cs.getD i 0)=YP:=by have d:=sZ a b h;rw[F3 'd'];exact F_ a b h _ (bD _)
def zdK{α β:Type}(l:List α)(e:α->β):(l.filter λ_=>YP).map e=l.map e:=by rw[lY.mpr (λ_ _=>rfl)]
def zeZ(O:Ow)(h:sgn c=YP)(h':sgn d=YP):pZ rF O (.str [c]) (.str [d])=.ok (.bl (c !=d)) O:=by unfold sgn at h h';simp at h h';rcases h with(rfl|rfl)|rfl<;>rcases h' with(rfl|rfl)|rfl<;>kernel_rfl
def Jj(h:sT n a b=YP)(c:k<n):b.getD k 0=45\/b.getD k 0=a.getD k 0:=by have:=al.mp h k (bg.mpr c);simpa using this
def Mr(h:∀k,k<n->b.getD k 0=45\/b.getD k 0=a.getD k 0):sT n a b=YP:=by unfold sT;rw[al];intro k c;have:=h k (bg.mp c);simpa using this
def zfk{n:Nat}{a b:n_}(e:a.length=n)(f:b.length=n)(h:∀k,k<n->a.getD k 0=b.getD k 0):a=b:=by refine nq 'd' λi c d=>?_;have:=h i 'd';rw[F3 c,F3 d] at this;exact this
def Y8(O:Ow)(ds:List D)(σ:Sg)(c:ds.length<4000000)(b:qN 0 σ O=.ok (.tup ds) O):DP pS (yX rz) yC σ O=.ok (.tup (ds.drop 1)) O:=by
 show((qN 0 σ O).bnd _)=_;rw[b];show(if HT.sIx ds.length 0 (Xy 1)=0/\HT.sIx ds.length ds.length XV=ds.length then R.ok (D.tup ds) O else R.ok (D.tup (Aw ds (Xy 1) XV)) O)=_;have a:HT.sIx ds.length 0 (Xy 1)=min 1 ds.length:=HT.sIx_nat ds.length 0 1;cases ds with
 |nil=>rfl
 | cons d r=>
  have:¬ (HT.sIx (d::r).length 0 (Xy 1)=0/\HT.sIx (d::r).length (d::r).length XV=(d::r).length):=by
   rw[a];simp
  unfold Aw;rw[a,HT.sIx_none];simp
def LH{n:Nat}(a:n<=4){cs:n_}(b:cs.length=n){k:Nat}(c:k<n)(O:Ow):qw O (.str cs) (.int (k:Int))=.ok (.str [cs.getD k 0]) O:=by rw[Sb 'd' 'd',F3 'd']
def zk1(b:n<=4)(a:cs.length=n)(h:qN 0 σ O=.ok (.str cs) O):tM (a_ (pT qJ qA) f_) σ O=.ok (.val ((aV n).map λ(i:Nat)=>D.int (i:Int))) O:=
 zc (pX (rX (pX h) ((Jt 'd').trans (by rw[a])))) 'd'
def zfT(h:∀k,k<n->p k=q k):(!((aV n).filter p).isEmpty)=(aV n).any q:=by
 rw[cR,eu,bA];constructor
 ·intro c;have:((aV n).filter p)≠[]:=λe=>by rw[e] at c;cases c
  obtain⟨k,f⟩:=List.exists_mem_of_ne_nil _ this;obtain⟨a,b⟩:=aA.mp f;exact⟨k,a,by rw[<- h k (bg.mp a)];exact b⟩
 ·rintro⟨k,a,b⟩;have d:k∈(aV n).filter p:=aA.mpr ⟨a,by rw[h k (bg.mp a)];exact b⟩;cases e:(aV n).filter p with
  |nil=>rw[e] at d;cases d
  |cons _ _=>rfl
def z8E{n:Nat}(e:1<=n)(c:n<=4){a b:n_}(g:a∈Xg n)(f:b∈Xg n)(O:Ow):Nw [.str a,.str b] O=.ok (.bl (sT n a b)) O:=by
 have i:=sZ e c g;have j:=sZ e c f;show fin (Nz [rT a,rT b] O)=_;refine Ct ((qy ((u7 (p:=λk=>b.getD k 0 !=45&&b.getD k 0 !=a.getD k 0) (zk1 c i rfl) (by simp;lia) (λ_=>rfl) (λk d=>?_) (λ_ _ _=>rfl)).trans rfl) rfl (zij O _)).trans ?_)
 ·have d:=bg.mp d;exact JF (rO (qy (qy rfl rfl (LH c j d O)) rfl (S6 O (ME e c f d)))) λ_=>rO (qy (qy rfl rfl (LH c j d O)) (qy rfl rfl (LH c i d O)) (zeZ O (ME e c f d) (ME e c g d)))
 ·congr 2;have h:=zfT (n:=n) (p:=λk=>b.getD k 0 !=45&&b.getD k 0 !=a.getD k 0) (q:=λk=>!(b.getD k 0==45||b.getD k 0==a.getD k 0)) λk _=>by simp[bne]
  rw[<- Bool.not_not (b:=((aV n).filter _).isEmpty),h];unfold sT;rw[List.any_eq_not_all_not];simp
def Mb(O:Ow){n:Nat}(a:1<=n)(b:n<=4){l:l_}(h:∀cs∈l,cs∈Xg n):pZ rQ O (.lst (l.map D.str)) (.lst [])=.ok (.bl l.isEmpty) O:=
 (zZ O (Ew a b h) rfl (by cases l<;>simp)).1
def SG(O:Ow){n:Nat}(a:1<=n)(b:n<=4){l:l_}(h:∀cs∈l,cs∈Xg n):pZ rF O (.lst (l.map D.str)) (.lst [])=.ok (.bl (!l.isEmpty)) O:=
 (zZ O (Ew a b h) rfl (by cases l<;>simp)).2
def CH{α:Type}{l:List α}{p:α->Bool}:(l.filter p).isEmpty=l.all λx=>!p x:=by rw[cR,iY,fq,al];exact forall_congr' λa=>forall_congr' λ_=>by simp
noncomputable def C3:D->Bool
 |.int i=>i==1
 |_=>Y1
def eq1(O:Ow)(h:yO d):pZ rQ O d (.int 1)=.ok (.bl (C3 d)) O:=by rcases h with rfl|rfl|rfl<;>kernel_rfl
def qx(f:List D):n_:=(aV f.length).filter λp=>C3 (f.getD p .non)
def FZ{n:Nat}{f:List D}(b:Fn n f)(O:Ow):zl [.tup f] O=.ok (.lst (rL (qx f))) O:=by have c:=b.len;have d:=CC b.n4;show fin (Nm [qj f] O)=_;refine Ct ((u7 (zc (pX (rX (pX rfl) (TR O f))) 'd') (by simp;lia) (λ_=>rfl) (λp a=>?_) (λ_ _ _=>rfl)).trans rfl);have a:=bg.mp a;refine rO (qy (qy rfl rfl (Jp a)) rfl ?_);rw[eq1 O (b.ans _ (bD _)),BA a]
def oX:p∈qx f↔p<f.length/\C3 (f.getD p .non)=YP:=by unfold qx;rw[aA,bg]
def AG(f:List D)(t:n_):Bool:=!((qx f).filter λp=>(qL t).contains p).isEmpty
def yS(n:Nat)(f:List D)(t:n_):Bool:=((s_ n f).filter λo=>decide (o≠t)&&sT n t o).isEmpty&&AG f t
def gr(n:Nat)(f:List D):l_:=(s_ n f).filter (yS n f)
def yG(h:t∈s_ n f):t∈Xg n:=(aA.mp h).1
def MX(a:Fn n f):(s_ n f).length<=81:=aH (aQ _ _) (MW a.n1 a.n4)
def BG{n:Nat}{f:List D}(a:Fn n f):(qx f).length<=16:=by have b:=aQ (λp=>C3 (f.getD p .non)) (aV f.length);rw[ci] at b;have c:=CC a.n4;have d:=a.len;unfold qx;lia
def zgq{n:Nat}{f:List D}(a:Fn n f){t:n_}(i:t∈s_ n f){k:Nat}{O:Ow}{l:List D}(j:O[k]?=Xy l)(v:l.length<1000){m q:Option D}:
  Lu [qj f,qK ((s_ n f).map .str),qI k,rT t,m,q] O=.nx [qj f,qK ((s_ n f).map .str),qI k,rT t,qK (((s_ n f).filter λo=>decide (o≠t)&&sT n t o).map .str),qK (rL ((qx f).filter λp=>(qL t).contains p))] (if yS n f t=YP then O.set k (l++[.str t]) else O):=by
 have d:=a.n1;have e:=a.n4;have w:=MX a;have h:=BG a;have g:=yG i;have r:=sZ d e g;refine rK ((u7 (tu rfl) 'd' (λ_=>rfl) (λo h=>JF (rO (qy rfl rfl (zi5 O d e (yG h) g))) λ_=>sF (qr (qE rfl rfl) (z8E d e g (yG h) O))) (λ_ _ _=>rfl)).trans rfl) (rK ((u7 (tu (qr (pX rfl) (FZ a O))) 'd' (λ_=>rfl) (λp s=>sF (qr (qE rfl rfl) (CF (uQ d e g) (by rw[r,<- a.len];exact(oX.mp s).1) O))) (λ_ _ _=>rfl)).trans rfl) ?_);rw[tI (b:=yS n f t) (JF (rO (qy rfl rfl (Mb O d e λc u=>yG (aA.mp u).1))) λ_=>rO (qy rfl rfl (zhM O _)))];cases yS n f t with
 |true=>rw[Kk rfl,Kk rfl];exact Ep rfl rfl j 'd'
 |false=>rfl
def VH(a:Fn n f)(s:uZ O):Gn [.tup f] O=.ok (.own O.length) (O++[(gr n f).map .str]):=by
 have m:=a.n1;have o:=a.n4;have w:=MX a;have x:=MW m o;let A:Option D:=qj f;let S:Option D:=qK ((s_ n f).map .str);obtain⟨σ',h,q,b,c,d,rfl,rfl⟩:=ya (i:=3) (it:=pY m_) (body:=Lu) (O:=O++[[]]) (l:=s_ n f) (inj:=D.str) rfl
  (λj r h=>∃b c d,r=[A,S,qI O.length,b,c,d]/\h=O++[(((s_ n f).take j).filter (yS n f)).map D.str]) (λj t r h g u=>by
   obtain⟨b,c,d,rfl,rfl⟩:=u;have v:((((s_ n f).take j).filter (yS n f)).map D.str).length<1000:=by
    have m:=aQ (yS n f) ((s_ n f).take j);have y:=eN j (s_ n f);rw[aq];lia
   refine⟨_,_,zgq a (aF g) (k:=O.length) xI v,_,_,_,rfl,?_⟩;rw[JP _ g];split
   ·rw[BI,br];rfl
   ·rw[bw]) ⟨XV,XV,XV,rfl,by simp⟩
 rw[cF] at q;show fin (V7 [A,XV,XV,XV,XV,XV] O)=_;refine tG (rK (O1:=O) ((u7 (l:=Xg n) (inj:=D.str) (p:=sN f) (e:=D.str) (tu (qr (pX (qr (pX rfl) (Nt a O))) (z7s o s))) 'd' (λ_=>rfl) (λt g=>sF (qr (qE rfl rfl) (VI a g O))) (λ_ _ _=>rfl)).trans rfl) (rK rfl (vO (σ':=[A,S,qI O.length,b,c,d]) ?_ (rY rfl))));exact q
def BD(h:t∈gr n f):t∈Xg n:=yG (aA.mp h).1
def zeO(h:∀t∈Xg 4,∀o∈Xg 4,q t=YP->q o=YP->sT 4 t o=YP->t=o):((Xg 4).filter q).length<=54:=by
 have e:Xg 4=(Xg 3).flatMap λt=>[t++[45],t++[48],t++[49]]:=rfl;have f:∀l:l_,(∀x∈l,x∈Xg 3)->((l.flatMap λt=>[t++[45],t++[48],t++[49]]).filter q).length<=l.length*2:=λl=>by
  induction l with
  |nil=>intro _;simp
  | cons x r ih=>
   intro g;rw[bX,im,au,aW,mC];have w:=ih λy p=>g y (ak _ p);have i:=g x ar;have b:=sZ 'u' 'u' i;have j:∀c,c=45\/c=48\/c=49->x++[c]∈Xg 4:=λc d=>by
    rw[e,dj];refine⟨x,i,?_⟩;rcases d with rfl|rfl|rfl<;>simp
   have s:∀c,sT 4 (x++[c]) (x++[45])=YP:=λc=>Mr λk z=>by
    by_cases u:k<3
    ·right;rw[aD,aD,aK 'd',aK 'd']
    ·have:k=3:=by lia
     subst this;left;rw[aD,aS 'd',b];rfl
   have m:∀c,c=48\/c=49->q (x++[45])=YP->q (x++[c])=Y1:=λc d a=>by
    cases v:q (x++[c]) with
    |false=>rfl
    | true=>
     have:=h _ (j c (by rcases d with rfl|rfl<;>simp)) _ (j 45 'k') v a (s c);have n:=List.append_cancel_left this;rcases d with rfl|rfl<;>cases n
   have n:([x++[45],x++[48],x++[49]].filter q).length<=2:=by
    cases a:q (x++[45]) with
    |true=>rw[cT,a,cT,m 48 'k' a,cT,m 49 'k' a];simp
    | false=>
     rw[cT,a,Ko 'u'];exact aQ _ _
   lia
 exact aH (f (Xg 3) λ_ h=>h) 'u'
def A0(f:List D)(l:l_):Bool:=(qx f).all λp=>l.any λt=>(qL t).contains p
theorem Uv{α:Type}{l:List α}{inj:α->D}{i:Nat}{body:DS}{τ:Option D->Sg}{O:Ow}{q:α->Bool}{d:D}(g:∀y x,(τ y).set i x=τ x)(h:∀a∈l,body (τ (Xy (inj a))) O=if q a=YP then .nx (τ (Xy (inj a))) O else .rt d O):
  ∀(f k:Nat)(y:Option D),k<=l.length->l.length<=k+f->∃b,ud (.val (l.map inj)) (λd σ O=>match Tg.put (.one i) d σ with|some σ'=>body σ' O|none=>.bad) f k (τ y) O=if (l.drop k).all q=YP then .nx (τ b) O else .rt d O
 | 0,k,y,h1,h2=>by
  have:k=l.length:=by lia
  subst this;refine⟨y,?_⟩;have e:(Src.val (l.map inj)).get O l.length=XV:=by simp[Src.get]
  unfold ud;rw[e];simp
 | f+1,k,y,h1,h2=>by
  by_cases j:k=l.length
  ·subst j;refine⟨y,?_⟩;have e:(Src.val (l.map inj)).get O l.length=XV:=by simp[Src.get]
   unfold ud;rw[e];simp
  ·have c:k<l.length:=by lia
   have e:(Src.val (l.map inj)).get O k=Xy (inj l[k]):=by
    show(l.map inj)[k]?=_;rw[bd,am c];rfl
   obtain⟨b,m⟩:=Uv g h f (k+1) (Xy (inj l[k])) 'd' 'd';refine⟨b,?_⟩;unfold ud;rw[e];dsimp only;have n:Tg.put (.one i) (inj l[k]) (τ y)=Xy (τ (Xy (inj l[k]))):=congrArg Xy (g y _);rw[n];dsimp only;rw[h _ (bD c),dk c,iP];cases o:q l[k] with
   |true=>rw[Kk rfl,oj];exact m
   |false=>simp
def zhX{α:Type}{l:List α}{inj:α->D}{i:Nat}{it:DI}{body:DS}{τ:Option D->Sg}{O:Ow}{q:α->Bool}{d:D}{y:Option D}(c:it (τ y) O=.ok (.val (l.map inj)) O)(e:∀y x,(τ y).set i x=τ x)(f:∀a∈l,body (τ (Xy (inj a))) O=if q a=YP then .nx (τ (Xy (inj a))) O else .rt d O):
  ∃b,sJ it (.one i) body (τ y) O=if l.all q=YP then .nx (τ b) O else .rt d O:=by obtain⟨b,h⟩:=Uv e f (l.map inj).length 0 y (bI _) 'k';exact⟨b,(Mm c).trans h⟩
def zbH(h:l.Pairwise (· < ·)):qB l=l:=JD (AK l) h λx=>xg l
def To{σ:Sg}{O O1:Ow}{t:DA}{x:D}{l:l_}(h:t σ O=.ok [x] O1)(a:r9 O1 x=Xy (l.map .str)\/x=.tup (l.map .str))(b:l.length<1000):D8 Y1 t σ O=.ok (.lst ((qB l).map .str)) O1:=by
 unfold D8;rw[h];show(match (match r9 O1 x with|some ds=>Xy ds|none=>AV x) with|some ds=>Qn Y1 (.ok ds O1)|none=>.bad)=_;have e:(match r9 O1 x with|some ds=>Xy ds|none=>AV x)=Xy (l.map .str):=by
  rcases a with a|rfl
  ·rw[a]
  ·rfl
 rw[e];show(match uY (l.map D.str) with|some ss=>if ss.length<1000 then (if Y1=YP then R.ok (D.own _) _ else R.ok (D.lst ((qB ss).map .str)) O1) else .bad|none=>.bad)=_;rw[DL.strL_map];show(if l.length<1000 then _ else _)=_;rw[Kk b];rfl
def Lj(h:A.length=k):(A++[x,y])[k]?=Xy x:=by subst h;simp
def Lq(h:A.length=k):(A++[x,y])[k+1]?=Xy y:=by subst h;rw[aS 'd',bM];rfl
def YF(h:A.length=k):(A++[x,y]).set k z=A++[z,y]:=by subst h;rw[gC _ _ (aE _),gA];rfl
def YO(h:A.length=k):(A++[x,y]).set (k+1) z=A++[x,z]:=by subst h;rw[gC _ _ 'd',bM];rfl
def zjP(O:Ow){n:Nat}(b:1<=n)(c:n<=4){l:l_}(h:∀cs∈l,cs∈Xg n){k:Nat}(d:O[k]?=Xy (l.map D.str)):pZ rF O (.own k) (.lst [])=.ok (.bl (!l.isEmpty)) O:=by
 obtain⟨f,a⟩:=F9 λz g=>FP O 7 z (al.mp (Ew b c h) z g);unfold pZ py;have e:q0 O 8 (.own k)=Xy (.list f):=by
  show(match O[k]? with|some ds=>(qv (q0 O 7) ds).map ef|none=>XV)=_;rw[d];dsimp only;rw[a];rfl
 rw[e];cases l with
 |nil=>cases a;rfl
 | cons x l=>
  rw[bB] at a;unfold qv at a;split at a
  ·cases a;rfl
  ·cases a
def zir(a:O[k]?=Xy (l.map .str))(b:l.Nodup)(c:l.length<64):Fx O [.own k]=.ok (.lst ((qB l).map .str)) O:=by show(match O[k]? with|some ds=>(match uY ds with|some ss=>if ss.Nodup/\ss.length<64 then R.ok (D.lst ((qB ss).map .str)) O else R.bad|none=>R.bad)|none=>R.bad)=_;rw[a];dsimp only;rw[DL.strL_map];dsimp only;rw[Kk ⟨b,c⟩]
theorem Ve{α β:Type}(f:α->β):∀(l:List α)(i:Nat),(l.map f).eraseIdx i=(l.eraseIdx i).map f
 |[],_=>by simp
 |x::l,0=>rfl
 | x::l,i+1=>by
  rw[bB,kC,kC,bB,Ve f l i]
theorem Gg{α:Type}:∀(l:List α)(i:Nat)(h:i<l.length),(l[i]::l.eraseIdx i).Perm l
 |[],_,h=>by simp at h
 |x::l,0,_=>d9 _
 | x::l,i+1,h=>by
  exact(nZ _ _ _).trans ((Gg l i ⇑h).cons x)
def A7:n_:=[48,49,45,50]
def zgg(O:Ow):(A7.map λc=>uy O (.str [c]) (.str [45,48,49]))=A7.map λc=>R.ok (.bl (sgn c)) O:=by kernel_rfl
def neI(O:Ow)(a b:Int):pZ rF O (.int a) (.int b)=.ok (.bl (a !=b)) O:=rfl
def Pr(O:Ow)(a b:Int):pZ rQ O (.int a) (.int b)=.ok (.bl (a==b)) O:=rfl
def zec(f:∀c∈cs,c∈A7)(k:cs.length<=10)(O:Ow):Kb [.int (n:Nat),.str cs] O=.ok (.bl (cs.length==n&&cs.all sgn)) O:=by
 have a:pT qJ (a_ m_ f_) [k_ (n:Nat),rT cs] O=.ok (.int (cs.length:Nat)) O:=(xH (pX rfl)).trans (Jt 'd');have b:xB (sO (qH (vM "str" m_))) (qd (c_ (pZ rF) (pT qJ (a_ m_ f_)) pS)) [k_ (n:Nat),rT cs] O=.ok (((cs.length:Nat):Int) !=(n:Nat)) O:=by
  have:qd (c_ (pZ rF) (pT qJ (a_ m_ f_)) pS) [k_ (n:Nat),rT cs] O=.ok (((cs.length:Nat):Int) !=(n:Nat)) O:=rO ((rN a rfl).trans (neI O _ _));exact this
 have g:(((cs.length:Nat):Int) !=(n:Nat)) = !(cs.length==n):=by
  rw[cR];simp;lia
 rw[g] at b;have j:=xF (o:=Y1) (ext:=1) (i:=2) (it0:=pY m_) (σ:=[k_ (n:Nat),rT cs]) (te:=c_ uy pV (dC (.str [45,48,49]))) rfl 'd' (λ_=>rfl) (λc h=>(rN rfl rfl).trans (cA.mp (zgg O) c (f c h)));show fin (o_ (qQ _ vn qS) (p8 _) [k_ (n:Nat),rT cs] O)=_;cases e:(cs.length==n) with
 | false=>
  rw[e] at b;have d:qQ (xB (sO (qH (vM "str" m_))) (qd (c_ (pZ rF) (pT qJ (a_ m_ f_)) pS))) vn qS [k_ (n:Nat),rT cs] O=.rt (.bl Y1) O:=by rw[tI b];rfl
  rw[Cv d];rfl
 | true=>
  rw[e] at b;have d:qQ (xB (sO (qH (vM "str" m_))) (qd (c_ (pZ rF) (pT qJ (a_ m_ f_)) pS))) vn qS [k_ (n:Nat),rT cs] O=.nx [k_ (n:Nat),rT cs] O:=by rw[tI b];rfl
  rw[tj d,rY ((xH (pX j)).trans (EA O _ _))];rfl
def zdg(O:Ow):(A7.map λc=>v_ O (.str [c]) (.str [48,49,45]))=A7.map λc=>R.ok (.bl (!sgn c)) O:=by kernel_rfl
def YA(h:c∈A7):pl k (.str [c])=YP:=by
 have a:(A7.all λc=>decide (c<1114112))=YP:=by decide
 have b:=al.mp a c h;have:([c].all λc=>decide (c<1114112))=YP:=⇑b
 cases k<;>exact this
def ziv{n:Nat}{cs:n_}(a:∀c∈cs,c∈A7)(f:cs.length<=10)(O:Ow):Gk [.int (n:Nat),.str cs] O=.ok (.bl (cs.length==n&&cs.all sgn)) O:=by
 show fin (NA [k_ (n:Nat),rT cs] O)=_;refine Ct ((L8 rfl λ_=>L8 (qy (rX (pX rfl) (Jt 'd')) rfl ?_) λ_=>?_).trans rfl)
 ·rw[Pr];congr 2;rw[cR];simp;lia
 ·refine(qy ((u7 rfl 'd' (λ_=>rfl) (λc h=>rO (qy rfl rfl (cA.mp (zdg O) c (a c h)))) (λ_ _ _=>rfl)).trans rfl) rfl ((zZ O (b:=(cs.filter λc=>!sgn c).isEmpty) (al.mpr λd e=>?_) rfl ?_).1)).trans ?_
  ·obtain⟨c,h,rfl⟩:=ay.mp e;exact YA (a c (aA.mp h).1)
  ·cases (cs.filter λc=>!sgn c)<;>simp
  ·congr 2;rw[CH];simp
def HR(d:D):Prop:=(∃w:n_,d=.str w/\(∀c∈w,c∈A7)/\w.length<=10)\/(∃xs,d=.tup xs)\/d=.non\/d=.int 0\/d=.bl YP
def Bu(n:Nat):D->Bool
 |.str w=>w.length==n&&w.all sgn
 |_=>Y1
def z8M(n:Nat){d:D}(h:HR d)(O:Ow):Kb [.int (n:Nat),d] O=.ok (.bl (Bu n d)) O:=by
 rcases h with⟨w,rfl,a,b⟩|⟨c,rfl⟩|rfl|rfl|rfl
 ·exact zec a b O
 all_goals rfl
def zer{n:Nat}{d:D}(h:HR d)(O:Ow):Gk [.int (n:Nat),d] O=.ok (.bl (Bu n d)) O:=by
 rcases h with⟨w,rfl,a,b⟩|⟨c,rfl⟩|rfl|rfl|rfl
 ·exact ziv a b O
 all_goals rfl
def E_(l:l_):Bool:=(aV (l.length-1)).all λk=>decide (l.getD k []<l.getD (k+1) [])
def zef{l:l_}(c:l.length<10000)(O:Ow):Nb [.tup (l.map D.str)] O=.ok (.bl (E_ l)) O:=by
 have a:ID (a_ pS (a_ (DP pS (yX rz) yC) f_)) [qj (l.map D.str)] O=.ok (.zip (.val (l.map D.str)) (.val ((l.map D.str).drop 1))) O:=by
  show((a_ pS (a_ (DP pS (yX rz) yC) f_) _ O).bnd _)=_;rw[qE rfl (Y8 O (l.map D.str) [qj (l.map D.str)] (by simp;lia) rfl)];rfl
 have b:=Cy (o:=Y1) (ext:=2) (g:=.two 1 2) (ts:=[]) (te:=c_ Ff m_ pV) (inj:=λk=>D.tup [.str (l.getD k []),.str (l.getD (k+1) [])])
  a (λi=>by
   rw[VZ];show(match (l.map D.str)[i]?,((l.map D.str).drop 1)[i]? with|some x,Xy y=>Xy (D.tup [x,y])|_,_=>XV)=_;rw[ms,bd,bd];by_cases a:i<l.length-1
   ·rw[Kk a,am 'd',show 1+i=i+1 from by lia,am 'd'];rw[aD,aD,am 'd',am 'd'];rfl
   ·rw[Ko a,show l[1+i]?=XV from a9.mpr 'd'];cases l[i]?<;>rfl) (by
   show min (l.map D.str).length ((l.map D.str).drop 1).length=_;simp) (by rw[ci];lia) (λk _=>rfl) (λk _=>rfl) (λk d _=>rfl)
 rw[zdK] at b;show fin (p8 _ [qj (l.map D.str)] O)=_;rw[rY ((xH (pX b)).trans (EA O _ _))];rfl
def pH:E_ l=YP↔l.Pairwise (· < ·):=by
 constructor
 ·intro h;have a:∀k,k+1<l.length->l.getD k []<l.getD (k+1) []:=λk c=>by
   have:=al.mp h k (bg.mpr 'd');simpa using this
  have e:∀d i,i+d+1<l.length->l.getD i []<l.getD (i+d+1) []:=by
   intro d
   induction d with
   |zero=>intro i b;exact a i b
   |succ d ih=>intro i b;exact iO (ih i 'd') (a (i+d+1) 'd')
  refine dZ.mpr λi j b f m=>?_;have:=e (j-i-1) i 'd';rw[show i+(j-i-1)+1=j by lia,aD,aD,am b,am f] at this;exact this
 ·intro g;unfold E_;rw[al];intro k c;have c:=bg.mp c;have:=dZ.mp g k (k+1) 'd' 'd' 'd';rw[aD,aD,am 'd',am 'd'];exact decide_eq_true this
def zid{l:l_}:E_ l=YP↔l=qB l:=by rw[pH];exact⟨λh=>(zbH h).symm,λh=>by rw[h];exact AK l⟩
def Gz(n:Nat)(ds:List D):Bool:=ds.all (Bu n)&&E_ (ds.map Az)
def Vg{n:Nat}{ds:List D}(h:ds.all (Bu n)=YP):ds=(ds.map Az).map D.str/\∀cs∈ds.map Az,cs∈Xg n:=by
 have a:∀d∈ds,d=.str (Az d)/\Az d∈Xg n:=λd b=>by
  have:=al.mp h d b;cases d with
  | str w=>
   have this:(w.length==n&&w.all sgn)=YP:=this;rw[aY] at this;exact⟨rfl,M4 n w ⇑this.1 (al.mp this.2)⟩
  |_=>cases this
 constructor
 ·rw[bi]
  conv=>lhs;rw[<- jz ds]
  exact e8 λd b=>(a d b).1
 ·intro cs c;obtain⟨d,b,rfl⟩:=ay.mp c;exact(a d b).2
section
variable{n:Nat}(h1:1<=n)(h4:n<=4){ds:List D}(hd:∀d∈ds,HR d)(hl:ds.length<100)(O:Ow)
include hd hl
theorem z7O:Ki [.int (n:Nat),.tup ds] O=.ok (.bl (Gz n ds)) O:=by show fin (Wa [k_ (n:Nat),qj ds] O)=_;refine tG (vP (O1:=O) (vg (sF (b:=YP) rfl)) (rY (L8 (rX (pX ((xF (l:=ds) (by rw[mD];exact xb rfl) 'd' (λ_=>rfl) (λd h=>qr (qE rfl rfl) (z8M n (hd d h) O))).trans rfl)) (EA O ds (Bu n))) λa=>qr (pX rfl) ?_)));have e:=(Vg a).1;have r:=zef (l:=ds.map Az) (by rw[aq];lia) O;rw[<- e] at r;exact r
include h1 h4
theorem M3:EF [.int (n:Nat),.tup ds] O=.ok (.bl (Gz n ds)) O:=by
 have c:=rX (f:=xE) (pX ((xF (o:=Y1) (ext:=1) (i:=2) (σ:=[k_ (n:Nat),qj ds]) (it0:=pY m_) (O0:=O) (O:=O) (te:=j_ 2 Gk (a_ pS (a_ pV f_))) (l:=ds) (by rw[mD];exact xb rfl) 'd' (λ_=>rfl) (λd h=>qr (qE rfl rfl) (zer (hd d h) O))).trans rfl)) (EA O ds (Bu n));show fin (NG [k_ (n:Nat),qj ds] O)=_;unfold NG Gz;cases g:ds.all (Bu n) with
 | false=>
  rw[g] at c;exact tG (Cp (O1:=O) (SD (b:=YP) (vg (b:=YP) (sF (b:=YP) rfl)) λ_=>vg (sF c)) rfl)
 | true=>
  rw[g] at c;obtain⟨e,j⟩:=Vg g;refine tG (vP (O1:=O) (SD (b:=Y1) (vg (b:=YP) (sF (b:=YP) rfl)) λ_=>vg (b:=YP) (sF c)) (rY (qy (rX (pX rfl) rfl) (To (pX rfl) (.inr (congrArg D.tup e)) (by rw[aq];exact(be hl 'u'))) ?_)));have q:=(zZ O (Ew h1 h4 j) (Ew h1 h4 λk m=>j k ((xg _).mp m)) (by
   rw[zid];constructor
   ·intro h;exact congrArg (List.map D.str) h
   ·intro h;exact(List.map_inj_right λa b h=>by injection h).mp h)).1
  rw[<- e] at q;exact q
end
def zbB(a:Fn n f)(O:Ow):Gi [.tup f,.int 1] O=.ok (.lst (((aV (2 ^ n)).filter λp=>C3 (f.getD p .non)).map λ(p:Nat)=>D.int (p:Int))) O:=by
 have e:=CC a.n4;have b:Jb qA [qj f,k_ 1] O=.ok (.val (zU f)) O:=rfl;have h:=Cy (o:=Y1) (ext:=2) (g:=.two 2 3) (ts:=[(qd (c_ (pZ rQ) qg m_))]) (te:=qN 2) (inj:=λ(p:Nat)=>D.tup [.int (p:Int),f.getD p .non])
  b (λi=>by
   rw[VZ];show(zU f)[i]?=_;rw[UR];by_cases b:i<2 ^ n
   ·have d:i<f.length:=by rw[a.len];exact b
    rw[Kk b,am d];show Xy (D.tup [.int (i:Nat),f[i]])=_;rw[BA d]
   ·rw[Ko b,a9.mpr (by rw[a.len];lia)];rfl) (by
   show(zU f).length=_;unfold zU;simp[a.len]) (by rw[ci];lia) (λk _=>rfl) (λp c=>Er (by
   have c:=bg.mp c;have j:yO (f.getD p .non):=by
    rw[BA (by rw[a.len];exact c)];exact a.ans _ (bD _)
   exact rO ((rN rfl rfl).trans (eq1 O j)))) (λp _ _=>rfl)
 show fin (p8 _ [qj f,k_ 1] O)=_;rw[rY (h.trans rfl)];rfl
def VJ{n:Nat}{f:List D}(a:Fn n f)(O:Ow):Gi [.tup f,.int 1] O=.ok (.lst (rL (qx f))) O:=by rw[zbB a O];unfold qx rL;rw[a.len]
def L5(O:Ow)(k:Nat)(l:n_):uy O (.int (k:Nat)) (.lst (rL l))=.ok (.bl (l.contains k)) O:=
 (Fu O (l:=rL l) rfl (FX 7 l) (.inl rfl) (by
  rw[bo];unfold rL;rw[ay];constructor
  ·intro h;exact⟨k,h,rfl⟩
  ·rintro⟨j,h,e⟩;injection e with e;have:j=k:=by lia
   rw[<- this];exact h)).1
section
variable{n:Nat}{f:List D}(hf:Fn n f){l:l_}(ht:∀t∈l,t∈Xg n)(hlen:l.length<100)(O:Ow)
include hf ht hlen
theorem zbg(p:Nat):Nu [.tup (l.map .str),.int (p:Nat)] O=.ok (.lst ((l.filter λt=>(qL t).contains p).map .str)) O:=by show fin (NB [qj (l.map .str),k_ (p:Nat)] O)=_;exact Ct ((u7 (xb rfl) 'd' (λ_=>rfl) (λt h=>rO (qy rfl (qr (pX rfl) (JV (uQ hf.n1 hf.n4 (ht t h)) O)) (L5 O p _))) (λ_ _ _=>rfl)).trans rfl)
def vG(f:List D)(l:l_):Bool:=l.all (sN f)&&A0 f l
theorem zdo(c:Ki [.int (n:Nat),.tup (l.map .str)] O=.ok (.bl YP) O):MU [.tup f,.tup (l.map .str)] O=.ok (.bl (vG f l)) O:=by
 have d:=BG hf;have a:=rX (pX ((xF (o:=Y1) (ext:=1) (i:=2) (σ:=[qj f,qj (l.map .str)]) (it0:=pY m_) (te:=j_ 2 AQ (a_ pS (a_ pV f_))) (xb rfl) 'd' (λ_=>rfl) (λt h=>qr (qE rfl rfl) (MI hf (ht t h) O))).trans rfl)) (EA O l (sN f));show fin (M5 [qj f,qj (l.map .str)] O)=_;unfold M5 vG;refine tG (Ms (qr (pX rfl) (Me hf O)) (vP (vg (sF (qr (qE (qr (pX rfl) (VL hf O)) rfl) c))) ?_));cases b:l.all (sN f) with
 | false=>
  rw[b] at a;exact Cp (vg (sF a)) rfl
 | true=>
  rw[b] at a;refine vP (vg (sF a)) (rY (rX (pX ((xF (tu (qr (qE rfl rfl) (VJ hf O))) 'd' (λ_=>rfl) (λp e=>?_)).trans rfl)) (EA O (qx f) λp=>l.any λt=>(qL t).contains p)));refine(qy (qr (qE rfl rfl) (zbg hf ht hlen O p)) rfl (SG O hf.n1 hf.n4 λt h=>ht t (aA.mp h).1)).trans ?_;rw[CH,kE];simp
theorem TJ(r:EF [.int (n:Nat),.tup (l.map .str)] O=.ok (.bl YP) O):CJ [.tup f,.tup (l.map .str)] O=.ok (.bl (vG f l)) O:=by
 have b:=hf.n1;have d:=hf.n4;let A:Option D:=qj f;let T:Option D:=qj (l.map .str);show fin (Nv [A,T,XV] O)=_;unfold Nv vG;obtain⟨u,e⟩:=zhX (i:=2) (it:=pY (j_ 1 zl qA)) (body:=qQ (qd (c_ (pZ rQ) (qp Y1 1 (pY m_) (.one 3) [(qH (j_ 2 vW (a_ qg (a_ pV f_))))] [] qg) vo)) vn qS) (τ:=λy=>[A,T,y]) (q:=λp=>l.any λt=>(qL t).contains p) (tu (qr (pX rfl) (FZ hf O))) (λ_ _=>rfl) (λp s=>by
  rw[tI (rO ((qy ((u7 (xb rfl) 'd' (λ_=>rfl) (λt h=>sF (qr (qE rfl rfl) (CF (uQ b d (ht t h)) (by rw[sZ b d (ht t h),<- hf.len];exact(oX.mp s).1) O))) (λ_ _ _=>rfl)).trans rfl) rfl (Mb O b d λc g=>ht c (aA.mp g).1))))];rw[CH,kE];simp only[Bool.not_not];cases (l.any λt=>(qL t).contains p)<;>rfl)
 have j:sO (qH (j_ 2 EF (a_ (j_ 1 EE qA) (a_ m_ f_)))) [A,T,XV] O=.ok Y1 O:=vg (sF (qr (qE (qr (pX rfl) (Nt hf O)) rfl) r));have a:qd (c_ (pZ rF) (qp Y1 1 (pY m_) (.one 3) [(sO (qH (j_ 2 Ge (a_ pS (a_ qg f_)))))] [] qg) vo) [A,T,XV] O=.ok (!l.all (sN f)) O:=by
  refine rO ((qy ((u7 (xb rfl) 'd' (λ_=>rfl) (λt h=>vg (sF (qr (qE rfl rfl) (VI hf (ht t h) O)))) (λ_ _ _=>rfl)).trans rfl) rfl (SG O b d λc g=>ht c (aA.mp g).1)).trans ?_);rw[CH];simp
 cases m:l.all (sN f) with
 | false=>
  rw[m] at a;exact tG (vP j (Cp a rfl))
 | true=>
  rw[m] at a;cases o:A0 f l with
  | true=>
   have k:((qx f).all λp=>l.any λt=>(qL t).contains p)=YP:=o;rw[k,Kk rfl] at e;exact tG (vP j (vP a (vO e (rY rfl))))
  | false=>
   have k:((qx f).all λp=>l.any λt=>(qL t).contains p)=Y1:=o;rw[k] at e;exact tG (vP j (vP a (Cv e)))
end
def z8h{n:Nat}(a:1<=n)(b:n<=4)(O:Ow):BL [.int n] O=.ok (.lst ((Xg n).map .str)) O:=by
 rcases zM a b with rfl|rfl|rfl|rfl
 ·exact z6D O
 ·exact z6A O
 ·exact z6O O
 ·exact z7k O
def z7i(a:Fn n f)(O:Ow):JZ [.tup f] O=.ok (.lst ((s_ n f).map .str)) O:=by
 have c:pY (j_ 1 BL (a_ (j_ 1 Gj qA) f_)) [qj f] O=.ok (.val ((Xg n).map .str)) O:=
  tu ((vQ (pX ((vQ (pX rfl) rfl).trans (VL a O))) rfl).trans (z8h a.n1 a.n4 O))
 have e:=MZ (ext:=1) (i:=1) (ts:=[(qH (j_ 2 AQ (a_ pS (a_ m_ f_))))]) (te:=qN 1) (p:=λd=>sN f (Az d)) c (by have:=MW a.n1 a.n4;simp;lia) (λd g=>by
  obtain⟨b,h,rfl⟩:=ay.mp g;have j:qH (j_ 2 AQ (a_ pS (a_ m_ f_))) [qj f,rT b] O=.ok (sN f b) O:=sF ((vQ (qE rfl rfl) rfl).trans (MI a h O));show((qH (j_ 2 AQ (a_ pS (a_ m_ f_))) [qj f,rT b] O).bnd _)=R.ok (sN f b) O;rw[j];cases sN f b<;>rfl) (λd g _=>rfl) Y1
 rw[zaM] at e;show fin (o_ (sY (j_ 1 CK qA)) _ [qj f] O)=_;have k:j_ 1 CK qA [qj f] O=.ok .non O:=(vQ (pX rfl) rfl).trans (Me a O);rw[tj (Js k),rY e];rfl
def zaV(e:sT n a b=YP)(f:sT n b c=YP):sT n a c=YP:=Mr λk d=>by
 rcases Jj f d with z|z
 ·exact .inl z
 ·rcases Jj e d with y|y
  ·exact .inl (z.trans y)
  ·exact .inr (z.trans y)
def DM(n:Nat)(l:l_):l_:=l.filter λt=>!(l.any λo=>decide (t≠o)&&sT n t o)
def o7:t∈DM n l↔t∈l/\∀o∈l,sT n t o=YP->t=o:=by
 unfold DM;rw[aA];refine and_congr_right λ_=>?_;rw[eu,gp];constructor
 ·intro h o a c;have:=h o a;simp only[aY,decide_eq_true_eq,not_and] at this;exact cx λd=>this d c
 ·intro h o a b;simp at b;exact b.1 (h o a b.2)
def Im(n:Nat)(a:n_):Nat:=(aV n).countP λk=>a.getD k 0==45
theorem U3{α:Type}{p q:α->Bool}:∀(l:List α),(∀x∈l,p x=YP->q x=YP)->(∃x∈l,q x=YP/\p x=Y1)->l.countP p<l.countP q
 |[],_,h=>by obtain⟨_,h,_⟩:=h;cases h
 | x::l,h,he=>by
  have e:=lC λy hy=>h y (ak _ hy);rw[nu,nu];obtain⟨y,hy,b,c⟩:=he;rcases aw.mp hy with rfl|hy
  ·rw[b,c];simp;lia
  ·have f:=U3 l (λy hy=>h y (ak _ hy)) ⟨y,hy,b,c⟩;have d:=h x ar;by_cases a:p x=YP
   ·rw[Kk a,Kk (d a)];lia
   ·rw[Ko a];lia
def Tr{n:Nat}{a b:n_}(f:a.length=n)(g:b.length=n)(h:sT n a b=YP)(i:a≠b):Im n a<Im n b:=by
 refine U3 _ (λk c d=>?_) ?_
 ·have d:a.getD k 0=45:=⇑d
  rcases Jj h (bg.mp c) with z|z
  ·simpa using z
  ·rw[z,d];rfl
 ·refine cx λj=>i (zfk f g λk c=>?_);rcases Jj h c with z|z
  ·refine cx λe=>j ⟨k,bg.mpr c,by simpa using z,?_⟩;rw[z] at e;simpa using e
  ·exact z.symm
def zik(n:Nat)(a:n_):Im n a<=n:=by have:=List.countP_le_length (p:=λk=>a.getD k 0==45) (l:=aV n);rw[ci] at this;exact this
theorem T3(b:∀t∈l,t.length=n):∀(f:Nat)(s:n_),s∈l->n<=Im n s+f->∃t∈DM n l,sT n s t=YP
 | 0,s,hs,hd=>⟨s,o7.mpr ⟨hs,λo a h=>cx λc=>by
   have:=Tr (b s hs) (b o a) h c;have:=zik n o;lia⟩,Vl n s⟩
 | f+1,s,hs,hd=>by
  by_cases d:s∈DM n l
  ·exact⟨s,d,Vl n s⟩
  ·rw[o7] at d;have:∃o∈l,sT n s o=YP/\s≠o:=cx λe=>d ⟨hs,λo a h=>cx λc=>e ⟨o,a,h,c⟩⟩;obtain⟨o,a,h,c⟩:=this;have j:=Tr (b s hs) (b o a) h c;obtain⟨t,g,i⟩:=T3 b f o a 'd';exact⟨t,g,zaV h i⟩
def Qo(a:∀t∈l,t.length=n)(b:s∈l):∃t∈DM n l,sT n s t=YP:=T3 a n s b 'd'
def zjJ(h:∀t,t∈l↔t∈m):A0 f l=A0 f m:=by unfold A0;congr 1;funext p;rw[cR,bA,bA];exact exists_congr λt=>and_congr_left λ_=>h t
def zd1:(pJ.all λq=>decide (qL (Bw q.1 q.2)=[q.2])&&decide (Bw q.1 q.2∈Xg q.1))=YP:=by decide +kernel
def Sy(b:t∈DM n (s_ n f))(c:AG f t=YP):t∈gr n f:=by obtain⟨d,e⟩:=o7.mp b;refine aA.mpr ⟨d,?_⟩;unfold yS;rw[c,iS,iY,fq];intro o g a;simp at a;exact a.1 (e o g a.2).symm
def Sj(h:Fn n f):A0 f (gr n f)=YP:=by
 have b:=h.n1;have c:=h.n4;unfold A0;rw[al];intro p i;obtain⟨d,g⟩:=oX.mp i;have j:=d;rw[h.len] at d;have a:=al.mp zd1 (n,p) (TK b c d);simp at a;have o:uh (f.getD p .non)=Y1:=by
  rw[BA j] at g ⊢;rcases h.ans _ (bD j) with e|e|e<;>rw[e] at g ⊢ <;> first|rfl|cases g
 have q:Bw n p∈s_ n f:=aA.mpr ⟨a.2,by
  unfold sN;rw[a.1];simp only[iP,List.all_nil,iS,o];rfl⟩
 obtain⟨w,k,r⟩:=Qo (λt s=>sZ b c (yG s)) q;have l:=MN b c a.2 (yG (o7.mp k).1) r (p:=p) (by rw[a.1];simp);rw[bA];refine⟨w,Sy k ?_,by simpa using l⟩;unfold AG;have m:p∈(qx f).filter λp=>(qL w).contains p:=aA.mpr ⟨i,by simpa using l⟩;cases e:(qx f).filter λp=>(qL w).contains p with
 |nil=>rw[e] at m;cases m
 |cons _ _=>rfl
def zkV(h:Fn n f)(a:∀t,t∈l↔t∈gr n f):vG f l=YP:=by unfold vG;rw[zjJ a,Sj h,iS,al];intro t b;exact(aA.mp (aA.mp ((a t).mp b)).1).2
def DY(f:List D)(cs:n_):Bool:=(qL cs).any λp=>C3 (f.getD p .non)
def z66(a:Fn n f)(h:cs∈Xg n)(O:Ow):J8 [.tup f,.str cs] O=.ok (.bl (DY f cs)) O:=by
 have b:=uQ a.n1 a.n4 h;have g:=sZ a.n1 a.n4 h;have c:pY (j_ 1 AR (a_ m_ f_)) [qj f,rT cs] O=.ok (.val (rL (qL cs))) O:=tu ((vQ (pX rfl) rfl).trans (JV b O));have j:=xF (o:=Y1) (ext:=1) (i:=2) (te:=c_ (pZ rQ) (c_ qw pS pV) rz) (e:=λp=>D.bl (C3 (f.getD p .non))) c (by have:=Tc b;lia) (λ_=>rfl) (λq k=>by
  have d:q<f.length:=by rw[a.len,<- g];exact Je b k
  refine(rN ((rN rfl rfl).trans (Jp d)) rfl).trans ((eq1 O (a.ans _ (bD d))).trans ?_);rw[BA d])
 show fin (p8 _ [qj f,rT cs] O)=_;rw[rY ((xH (pX j)).trans (TF O _ _))];rfl
def zfh(O:Ow):(allS.map λq=>J3 [.str q.1,.int (q.2:Nat),.str [45]] O)=allS.map λq=>R.ok (.str (q.1.set q.2 45)) O:=by kernel_rfl
def zjL(h:cs∈oO)(a:k<cs.length)(O:Ow):J3 [.str cs,.int (k:Nat),.str [45]] O=.ok (.str (cs.set k 45)) O:=cA.mp (zfh O) _ (zgj h a)
def Bq(f:List D)(cs:n_)(k:Nat):Bool:=cs.getD k 0 !=45&&sN f (cs.set k 45)
def En(f:List D)(cs:n_):Bool:=!(aV cs.length).any (Bq f cs)
def Zk(a:Fn n f)(h:cs∈Xg n)(b:k<cs.length)(O:Ow):Kf [.tup f,.str cs,.int (k:Nat)] O=.ok (.bl (Bq f cs k)) O:=by
 have d:=uQ a.n1 a.n4 h;have g:cs.length<=4:=by rw[sZ a.n1 a.n4 h];exact a.n4
 have e:=F_ a.n1 a.n4 h _ (bD b);show fin (Kc [qj f,rT cs,k_ (k:Nat)] O)=_;unfold Kc Bq;rw[F3 b];simp only[o_,p_,qQ,p8,sY,qS,qN,dC,a_,f_,j_,pT,c_,qd,qH,sO,DN,R.bnd,R.bnS,fin,eU,eV,fw,gg,aW,eB,fZ,iQ,gL,jh,if_true,if_false,eS,iu,ck,ite_true,ite_false,zN];rw[show qw O (D.str cs) (D.int (k:Nat))=.ok (.str [cs[k]]) O from Sb 'd' b];simp only[o_,p_,qQ,p8,sY,qS,qN,dC,a_,f_,j_,pT,c_,qd,qH,sO,DN,R.bnd,R.bnS,fin,eU,eV,fw,gg,aW,eB,fZ,iQ,gL,jh,if_true,if_false,eS,iu,ck,ite_true,ite_false,S6 O e];cases i:(cs[k] !=45) with
 | true=>
  simp only[o_,p_,qQ,p8,sY,qS,qN,dC,a_,f_,j_,pT,c_,qd,qH,sO,DN,R.bnd,R.bnS,fin,eU,eV,fw,gg,aW,eB,fZ,iQ,gL,jh,if_true,if_false,eS,iu,ck,ite_true,ite_false,zjL d b O,MI a (Jw a.n1 a.n4 h (c:=45) rfl) O,oj]
 |false=>simp only[o_,p_,qQ,p8,sY,qS,qN,dC,a_,f_,j_,pT,c_,qd,qH,sO,DN,R.bnd,R.bnS,fin,eU,eV,fw,gg,aW,eB,fZ,iQ,gL,jh,if_true,if_false,eS,iu,ck,ite_true,ite_false,kZ]
def zbI(a:Fn n f)(h:cs∈Xg n)(O:Ow):JQ [.tup f,.str cs] O=.ok (.bl (En f cs)) O:=by
 have e:cs.length<=4:=by rw[sZ a.n1 a.n4 h];exact a.n4
 have b:tM (a_ (pT qJ (a_ m_ f_)) f_) [qj f,rT cs] O=.ok (.val ((aV cs.length).map λ(i:Nat)=>D.int (i:Int))) O:=zc (pX ((xH (pX rfl)).trans (Jt 'd'))) 'd';have c:=xF (o:=Y1) (ext:=1) (i:=2) (te:=j_ 3 Kf (a_ pS (a_ m_ (a_ pV f_)))) b (by rw[ci];lia) (λ_=>rfl) (λk d=>by
  exact(vQ (Cw rfl (qE rfl rfl)) rfl).trans (Zk a h (bg.mp d) O))
 show fin (J5 [qj f,rT cs] O)=_;unfold J5 En;have:=(xH (pX c)).trans (TF O _ _);unfold p8 Fj;rw[this];rfl
def Ph(f:List D)(cs:n_):Bool:=DY f cs&&En f cs
def IV(n:Nat)(f:List D):l_:=(s_ n f).filter (Ph f)
def zf5(h:cs∈s_ n f):cs∈Xg n/\sN f cs=YP:=aA.mp h
def zbP(a:Fn n f)(O:Ow):Gf [.tup f] O=.ok (.lst ((IV n f).map .str)) O:=by
 have c:pY (j_ 1 JZ qA) [qj f] O=.ok (.val ((s_ n f).map .str)) O:=tu ((vQ (pX rfl) rfl).trans (z7i a O));have d:=u7 (o:=Y1) (ext:=1) (i:=1) (t:=vw (qH (j_ 2 J8 (a_ pS (a_ m_ f_)))) (qH (j_ 2 JQ (a_ pS (a_ m_ f_))))) (te:=qN 1) c (by have:=MX a;lia) (λ_=>rfl) (λe g=>by
  obtain⟨b,h⟩:=zf5 g;exact F6 (sF ((vQ (qE rfl rfl) rfl).trans (z66 a b O))) λ_=>sF ((vQ (qE rfl rfl) rfl).trans (zbI a b O))) (λe _ _=>rfl)
 show fin (JJ [qj f] O)=_;unfold JJ;rw[rY (d.trans rfl)];rfl
theorem Qq{α:Type}{src:Src}{step:D->Ow->List D->R (List D)}{O:Ow}{inj:α->D}{g:α->D}{c:List α}(j:∀i,src.get O i=(c.map inj)[i]?)(k:∀b a r,c=b++a::r->step (inj a) O (b.map g)=.ok (b.map g++[g a]) O):∀(ds b:List α)(f:Nat),c=b++ds->ds.length<=f->rg src step f b.length O (b.map g)=.ok (c.map g) O
 | [],b,f,ha,_=>by
  have e:src.get O b.length=XV:=by rw[j,ha];simp
  have l:c=b:=by rw[ha];simp
  cases f<;>(unfold rg;rw[e,l])
 |d::ds,b,0,_,h=>by simp at h
 | d::ds,b,f+1,ha,h=>by
  unfold rg;have e:src.get O b.length=Xy (inj d):=by rw[j,ha];simp
  rw[e];show((step (inj d) O (b.map g)).bnd λm n=>rg src step f (b.length+1) n m)=_;rw[k b d ds ha];have:=Qq j k ds (b++[d]) f (by rw[ha];simp) ⇑h;rw[au,fz,br] at this;exact this
def zeK{α:Type}{ext i:Nat}{it0:DI}{tk tv:DE}{σ:Sg}{O O0:Ow}{l:List α}{inj f c:α->D}{kk:α->DK}{τ:α->Sg}(o:it0 σ O0=.ok (.val (l.map inj)) O)(z:l.length<1000)(m:(l.map kk).Nodup)
  (p:∀a,(qM (qM (σ++aU ext XV) [i]) [i]).set i (Xy (inj a))=τ a) (q:∀a∈l,tk (τ a) O=.ok (f a) O) (s:∀a∈l,xY (f a)=Xy (kk a)) (t:∀a∈l,tv (τ a) O=.ok (c a) O):
  y0 ext it0 (.one i) [] [] tk tv σ O0=.ok (.map (l.map kk) (l.map c)) O:=by
 unfold y0 BE;rw[o];show((zp (rg (.val (l.map inj)) _ ((l.map inj).length) 0 O [])).bnd _)=_;have w:=Qq (src:=.val (l.map inj)) (step:=vB ⟨it0,.one i,[]⟩ [] (B1 tk tv) (qM (σ++aU ext XV) (qT [⟨it0,.one i,[]⟩]))) (λ_=>rfl) (λd a r h=>by
  have j:a∈l:=by rw[h];simp
  show(match (Xy ((qM (qM (σ++aU ext XV) [i]) [i]).set i (Xy (inj a))):Option Sg) with|some rq=>(uc [] rq O).bnd λb n=>if b=YP then vN [] (B1 tk tv) rq n (d.map λa=>tW (kk a,c a)) else .ok (d.map λa=>tW (kk a,c a)) n|none=>.bad)=_;rw[p a];show((tk (τ a) O).bnd _)=_;rw[q a j];show(match xY (f a) with|some k=>_|none=>_)=_;rw[s a j];rw[t a j];have g:(d.map λa=>tW (kk a,c a)).length<1000:=by
   rw[aq];have:=congrArg kP h;simp at this;lia
  have u:(d.map λa=>tW (kk a,c a)).any (DW (kk a))=Y1:=by
   rw[gp];intro x v;obtain⟨b,y,rfl⟩:=ay.mp v;have:kk b≠kk a:=by
    rw[h,br,bB,dS] at m;exact m.2.2 _ (ay.mpr ⟨b,y,rfl⟩) _ ar
   show ¬ decide (kk b=kk a)=YP;rw[decide_eq_true_eq];exact this
  show(if _/\_ then R.ok _ O else R.bad)=_;rw[Kk ⟨g,u⟩];rfl) l [] ((l.map inj).length) rfl 'k'
 rw[show rg (.val (l.map inj)) _ ((l.map inj).length) 0 O []=_ from w];show R.ok (D.map (EL (l.map λa=>tW (kk a,c a))) (EM (l.map λa=>tW (kk a,c a)))) O=_;have e:(l.map λa=>tW (kk a,c a))=(l.map λa=>(kk a,c a)).map tW:=by rw[bi];rfl
 rw[e,Mo,Mc,bi,bi];rfl
theorem U8{α:Type}{kk:α->DK}{c:α->D}{a:α}:∀{l:List α},a∈l->(l.map kk).Nodup->x8 (kk a) (l.map kk) (l.map c)=Xy (c a)
 |[],h,_=>by cases h
 | b::l,h,hn=>by
  rw[bB,bz] at hn;show(if kk b=kk a then Xy (c b) else x8 (kk a) (l.map kk) (l.map c))=_;rcases aw.mp h with rfl|h
  ·rw[Kk rfl]
  ·rw[Ko (λe=>hn.1 (by rw[e];exact ay.mpr ⟨a,h,rfl⟩))];exact U8 h hn.2
def R5(a:td σ O=.ok (.map ks ds) O)(b:tz σ O=.ok y O)(c:xY y=Xy k)(e:x8 k ks ds=Xy d):Eb td tz σ O=.ok d O:=by unfold Eb;rw[a];show((tz σ O).bnd _)=_;rw[b];show(match xY y with|some k=>_|none=>_)=_;rw[c];show(match x8 k ks ds with|some d=>R.ok d O|none=>R.bad)=_;rw[e]
abbrev Tm(ts:l_):Prop:=∀cs∈ts,cs∈oO
def Yl(h:Tm ts)(k:Nat):(ts.map D.str).all (pl k)=YP:=al.mpr λd b=>by
 obtain⟨a,c,rfl⟩:=ay.mp b;have:=al.mp U4 a (h a c);cases k<;>exact this
def zf4(a:1<=n)(b:n<=4):(Xg n).Pairwise (· < ·):=by rcases zM a b with rfl|rfl|rfl|rfl<;>decide +kernel
theorem Ui(x:n_):∀l:l_,(xl x l).length<=l.length+1
 |[]=>by simp[xl]
 | y::r=>by
  unfold xl;split
  ·simp
  ·split
   ·simp
   ·have:=Ui x r;simp;lia
def Ju(c:l_):(qB c).length<=c.length:=by
 have:∀(l b:l_),(l.foldl (λl x=>xl x l) b).length<=b.length+l.length:=λl=>by
  induction l with
  |nil=>intro b;simp
  | cons a l ih=>
   intro b;rw[fC];have d:=ih (xl a b);have e:=Ui a b;rw[aW];lia
 have h:=this c [];simpa [qB] using h
def LY(a:Fn n f):(gr n f).Pairwise (· < ·):=((zf4 a.n1 a.n4).filter _).filter _
def zf6(b:t∈gr n f)(c:o∈gr n f)(d:sT n t o=YP):t=o:=by
 have a:=(aA.mp b).2;unfold yS at a;rw[aY,CH] at a;have:=al.mp a.1 o (aA.mp c).1;rw[d] at this;by_cases e:o=t
 ·exact e.symm
 ·simp[e] at this
def Jg(b:Fn n f):(gr n f).length<=54:=by
 have k:=b.n1;have l:=b.n4;by_cases m:n<=3
 ·have a:(Xg n).length<=54:=by
   have:n=1\/n=2\/n=3:=by lia
   rcases this with rfl|rfl|rfl<;>decide
  exact aH (aH (aQ _ _) (aQ _ _)) a
 ·have:n=4:=by lia
  subst this;have e:gr 4 f=(Xg 4).filter λt=>yS 4 f t&&sN f t:=by
   unfold gr s_;rw[mF]
  rw[e];refine zeO λt c o d g h a=>?_;have i:t∈gr 4 f:=by rw[e];exact aA.mpr ⟨c,g⟩
  have j:o∈gr 4 f:=by rw[e];exact aA.mpr ⟨d,h⟩
  exact zf6 i j a
def zkH(h:sgn c=YP):c∈A7:=by unfold sgn at h;simp at h;rcases h with(rfl|rfl)|rfl<;>decide
def zfO(a:1<=n)(b:n<=4)(h:cs∈Xg n):HR (.str cs):=.inl ⟨cs,rfl,λc d=>zkH (F_ a b h c d),by rw[sZ a b h];lia⟩
def Jz{n:Nat}(a:1<=n)(b:n<=4){l:l_}(h:∀t∈l,t∈Xg n):∀d∈l.map D.str,HR d:=λd c=>by
 obtain⟨e,f,rfl⟩:=ay.mp c;exact zfO a b (h e f)
def zdO(a:1<=n)(b:n<=4)(h:cs∈Xg n):Bu n (.str cs)=YP:=by show(cs.length==n&&cs.all sgn)=YP;rw[sZ a b h,al.mpr (F_ a b h)];simp
def Jm{n:Nat}(b:1<=n)(c:n<=4){l:l_}(h:∀t∈l,t∈Xg n)(f:l.Pairwise (· < ·)):Gz n (l.map D.str)=YP:=by
 unfold Gz;have e:(l.map D.str).map Az=l:=by
  rw[bi];exact(e8 λa _=>rfl).trans (jz l)
 rw[e,pH.mpr f,iS,al];intro d g;obtain⟨i,j,rfl⟩:=ay.mp g;exact zdO b c (h i j)
def Sv(a:qN 3 σ O=.ok (.own k) O)(b:O[k]?=Xy (l.map .str))(c:l.Nodup)(d:l.length<64):Fc σ O=.ok (.tup ((qB l).map .str)) O:=
 rX (pX (rX (pX a) (zir b c d))) rfl
section
variable{n m:Nat}{g:List D}(hg:Fn n g){O:Ow}{b:Bool}
def OO(O:Ow)(m:Nat)(b:Bool)(s:Int)(L Fd:l_):Ow:=O.set m [.int s,.bl b]++[L.map .str,Fd.map .str]
def uw(O:Ow)(m:Nat)(g:List D)(mo:Bool):Sg:=[qI m,qj g,qI O.length,qI (O.length+1),CS mo]
include hg
theorem Zn(h:oR (O.set m [.int s,.bl b]) m s b)(j:(Fd++L).Perm (gr n g))(l:L≠[]):
  ∃a r,∃y:r<L.length,Iq (uw O m g mo) (OO O m b s L Fd)=.nx (uw O m g mo) (OO O m b a (L.eraseIdx r) (Fd++[L[r]]))/\oR (O.set m [.int a,.bl b]) m a b:=by
 have c:∀a,(O.set m [D.int a,D.bl b]).length=O.length:=λa=>cQ;have z:=Jg hg;have o:=j.length_eq;rw[au] at o;have A:=l7.mpr l;obtain⟨r,a,e,p,q⟩:=JB h [L.map .str,Fd.map .str] (k:=L.length) 'd' 'd';refine⟨a,r,e,?_,q⟩;unfold Iq;have t:(((r:Nat):Int)).toNat=r:=by lia
 have u:IW pV (a_ (j_ 2 vf (a_ pS (a_ (pT qJ (a_ pV f_)) f_))) f_) (uw O m g mo) (OO O m b s L Fd)=.ok (.str L[r]) (OO O m b a (L.eraseIdx r) Fd):=by
  have v:a_ (j_ 2 vf (a_ pS (a_ (pT qJ (a_ pV f_)) f_))) f_ (uw O m g mo) (OO O m b s L Fd)=.ok [.int (r:Nat)] (OO O m b a L Fd):=
   pX (qr (qE rfl (rX (pX rfl) ((Mf (O:=OO O m b s L Fd) (x:=.own O.length) (Lj (c s))).trans (by rw[aq];rfl)))) p)
  show(((a_ _ _ (uw O m g mo) (OO O m b s L Fd)).bnd λw f=>match w,f[O.length]? with|[.int i],Xy ds=>if 0<=i/\i<4000000 then (match ds[i.toNat]? with|some d=>R.ok d (f.set O.length (ds.eraseIdx i.toNat))|none=>R.bad) else R.bad|_,_=>R.bad))=_;rw[v];show(match [D.int (r:Nat)],(OO O m b a L Fd)[O.length]? with|[.int i],Xy ds=>if 0<=i/\i<4000000 then (match ds[i.toNat]? with|some d=>R.ok d ((OO O m b a L Fd).set O.length (ds.eraseIdx i.toNat))|none=>R.bad) else R.bad|_,_=>R.bad)=_;rw[show(OO O m b a L Fd)[O.length]?=Xy (L.map .str) from Lj (c a)];dsimp only;rw[Kk 'd',t,bd,am e];dsimp;congr 1;rw[Ve];exact YF (c a)
 rw[Ep rfl u (Lq (c a)) (by rw[aq];lia)];congr 1;unfold OO;rw[YO (c a),br];rfl
theorem R9(d:(Fd++L).Perm (gr n g)):zW (uw O m g mo) (OO O m b s L Fd)=.ok (!L.isEmpty&&mo) (OO O m b s L Fd):=by have a:∀c,(O.set m [D.int c,D.bl b]).length=O.length:=λc=>cQ;exact JF (rO (qy rfl rfl (zjP _ hg.n1 hg.n4 (λt e=>BD (d.mem_iff.mp (aC _ e))) (Lj (a s))))) λ_=>sF rfl
end
def Cs(h:tA σ O=.ok ds O1)(a:ds.length<=4000000):vp tA σ O=.ok (.tup ds) O1:=by show((tA σ O).bnd _)=_;rw[h];show(if ds.length<=4000000 then _ else _)=_;rw[Kk a]
def ZY(h:tA σ O=.ok ds O1)(a:ds.length<=4000000):u6 tA σ O=.ok (.lst ds) O1:=by show((tA σ O).bnd _)=_;rw[h];show(if ds.length<=4000000 then _ else _)=_;rw[Kk a]
structure Sub(ds l:List D)(lo hi:Option Int):Prop where
 mem:∀d∈l,d∈ds
 len:l.length<=ds.length
 cut:l.length<=HT.sIx ds.length ds.length hi-HT.sIx ds.length 0 lo
def X6(O:Ow)(a:xs.length+ys.length<=4000000):w_ O (.tup xs) (.tup ys)=.ok (.tup (xs++ys)) O:=by
 cases xs with
 |nil=>rfl
 | cons x xs=>
  show(if x::xs≠[]/\(x::xs).length+ys.length<=4000000 then R.ok (D.tup (x::xs++ys)) O else R.bad)=_;rw[Kk ⟨by simp,a⟩]
section
variable{n:Nat}(h1:1<=n)(h4:n<=4){l:l_}(qm:∀t∈l,t∈Xg n)(hlen:l.length<=54)
include h1 h4 qm hlen
end
theorem MY{α:Type}{src:Src}{step:D->Ow->List D->R (List D)}{O:Ow}{inj:α->D}{g:α->List D}{l:List α}{Xo:List D}(b:∀i,src.get O i=(l.map inj)[i]?)(c:∀(i:Nat)a,l[i]?=Xy a->step (inj a) O (Xo++(l.take i).flatMap g)=.ok (Xo++(l.take (i+1)).flatMap g) O):
  ∀(f i:Nat),i<=l.length->l.length<=i+f->rg src step f i O (Xo++(l.take i).flatMap g)=.ok (Xo++l.flatMap g) O
 | 0,i,h1,h2=>by
  have:i=l.length:=by lia
  subst this;have e:src.get O l.length=XV:=by rw[b];simp
  unfold rg;rw[e,cF]
 | f+1,i,h1,h2=>by
  by_cases h:i=l.length
  ·subst h;have e:src.get O l.length=XV:=by rw[b];simp
   unfold rg;rw[e,cF]
  ·have d:i<l.length:=by lia
   have e:src.get O i=Xy (inj l[i]):=by rw[b,bd,am d];rfl
   unfold rg;rw[e];show((step (inj l[i]) O (Xo++(l.take i).flatMap g)).bnd _)=_;rw[c i l[i] (am d)];exact MY b c f (i+1) 'd' 'd'
def Ez{α β:Type}{g:α->List β}{l:List α}{i:Nat}{a:α}(h:l[i]?=Xy a):(l.take (i+1)).flatMap g=(l.take i).flatMap g++g a:=by rw[eJ,h,jl];simp
def V1{α β:Type}{g:α->List β}(l:List α)(i:Nat):((l.take i).flatMap g).length<=(l.flatMap g).length:=by
 conv=>rhs;rw[<- cn i l]
 rw[jl,au];lia
def RX{α β:Type}{ext:Nat}{it0 c:DI}{i j:Nat}{ts:List DT}{te:DE}{σ:Sg}{O O0:Ow}{src:Src}{l:List α}{inj:α->D}{m:α->List β}{inj2:β->D}{p:α->β->Bool}{e:α->β->D}{τ:α->Sg}{h:α->β->Sg}{o:Bool}
  (A:it0 σ O0=.ok src O) (B:∀i,src.get O i=(l.map inj)[i]?) (C:src.size O=l.length) (u:(l.flatMap m).length<1900000)
  (E:∀a,(qM (qM (σ++aU ext XV) [i,j]) [i,j]).set i (Xy (inj a))=τ a) (F:∀a b,(qM (τ a) [j]).set j (Xy (inj2 b))=h a b)
  (G:∀a∈l,c (τ a) O=.ok (.val ((m a).map inj2)) O) (H:∀a∈l,∀b∈m a,uc ts (h a b) O=.ok (p a b) O) (I:∀a∈l,∀b∈m a,te (h a b) O=.ok (e a b) O):
  qp o ext it0 (.one i) [] [⟨c,.one j,ts⟩] te σ O0=xA o (.ok (l.flatMap λa=>((m a).filter (p a)).map (e a)) O):=by
 unfold qp BB;rw[A];show xA o (zp (rg src _ (src.size O) 0 O []))=_;have J:∀(a:α)(k:List β),(k.flatMap λb=>if p a b=YP then [e a b] else []).length<=k.length:=λa k=>by
  rw[Gd,aq];exact aQ _ _
 have K:∀k:List α,(k.flatMap λa=>((m a).filter (p a)).map (e a)).length<=(k.flatMap m).length:=λk=>by
  induction k with
  |nil=>simp
  | cons x k ih=>
   rw[bX,bX,au,au,aq];have:=aQ (p x) (m x);lia
 have w:=MY (step:=zV ⟨it0,.one i,[]⟩ [⟨c,.one j,ts⟩] te (qM (σ++aU ext XV) (qT [⟨it0,.one i,[]⟩,⟨c,.one j,ts⟩]))) B (λk a r=>by
  have s:=aF r;show u9 [⟨c,.one j,ts⟩] te ((qM (qM (σ++aU ext XV) [i,j]) [i,j]).set i (Xy (inj a))) O _=_;rw[E];show((c (τ a) O).bnd _)=_;rw[G a s];have t:=V1 (g:=m) l (k+1);rw[Ez r,au] at t;have N:=K (l.take k);rw[Ez r];have v:=MY (src:=.val ((m a).map inj2)) (step:=λd L Xo=>match Tg.put (.one j) d (qM (τ a) (qT [⟨c,.one j,ts⟩])) with|some rq=>(uc ts rq L).bnd λb f=>if b=YP then u9 [] te rq f Xo else .ok Xo f|none=>.bad) (g:=λb=>if p a b=YP then [e a b] else []) (Xo:=[]++(l.take k).flatMap λa=>((m a).filter (p a)).map (e a)) (λ_=>rfl) (λq b y=>by
   have z:=aF y;show((uc ts ((qM (τ a) [j]).set j (Xy (inj2 b))) O).bnd λM f=>if M=YP then u9 [] te ((qM (τ a) [j]).set j (Xy (inj2 b))) f _ else .ok _ f)=_;rw[F,H a s b z,Ez y];show(if p a b=YP then u9 [] te (h a b) O _ else .ok _ O)=_;have P:=J a ((m a).take q);have Q:=eN q (m a);by_cases n:p a b=YP
   ·rw[Kk n,Kk n];unfold u9;rw[I a s b z];show(if _<4000000 then _ else _)=_;rw[Kk (by rw[eC,au];lia)];simp
   ·rw[Ko n,Ko n,bw]) ((m a).map inj2).length 0 (bI _) 'k'
  rw[n6,nv,bw,Gd] at v;refine Eq.trans (v) ?_;rw[eC];rfl) l.length 0 (bI _) 'k'
 rw[n6,nv,bw,eC] at w;rw[C,w];rfl
theorem Na{α β:Type}{f g:α->List β}:∀{l:List α},(∀a∈l,f a=g a)->l.flatMap f=l.flatMap g
 |[],_=>rfl
 |x::l,h=>by rw[bX,bX,h x ar,Na λa b=>h a (ak _ b)]
def Bj(p q:Nat):Bool:=decide (p<q)&&[1,2,4,8].contains (p^^^q)
def pj:List (Nat×Nat):=(aV 16).flatMap λp=>(aV 16).map λq=>(p,q)
def UH(a:p<16)(b:q<16):(p,q)∈pj:=dj.mpr ⟨p,bg.mpr a,ay.mpr ⟨q,bg.mpr b,rfl⟩⟩
def YZ(O:Ow)(a b:Option D):(pj.map λq=>tP [a,b,k_ (q.1:Nat),k_ (q.2:Nat)] O)=pj.map λq=>R.ok (Bj q.1 q.2) O:=by kernel_rfl
def ziU(O:Ow)(a b c:Option D):(pj.map λq=>c_ (fI Fg) pV qg [a,b,k_ (q.1:Nat),k_ (q.2:Nat),c] O)=pj.map λq=>R.ok (.int ((q.1^^^q.2:Nat))) O:=by kernel_rfl
def Zd(O:Ow)(a b:Option D):(pj.map λq=>cL [a,b,k_ (q.1:Nat),k_ (q.2:Nat),k_ ((q.1^^^q.2:Nat))] O)=pj.map λq=>R.ok (Bj q.1 q.2) O:=by kernel_rfl
def pr(q:Nat×Nat):D:=.tup [.int (q.1:Nat),.int (q.2:Nat)]
def AD(f:List D)(p:Nat):List (Nat×Nat):=((qx f).filter (Bj p)).map λq=>(p,q)
def sk(f:List D):List (Nat×Nat):=(qx f).flatMap (AD f)
def Jk(a:Fn n f)(h:p∈qx f):p<16:=by have b:=(oX.mp h).1;have c:=CC a.n4;have d:=a.len;lia
def SY(h:q∈sk f):q.1∈qx f/\q.2∈qx f:=by obtain⟨p,a,b⟩:=dj.mp h;obtain⟨r,c,rfl⟩:=ay.mp b;exact⟨a,(aA.mp c).1⟩
theorem Cu{α β:Type}{g:α->List β}{k:Nat}:∀l:List α,(∀a∈l,(g a).length<=k)->(l.flatMap g).length<=l.length*k
 |[],_=>by simp
 | x::l,h=>by
  rw[bX,au,aW,mC];have:=h x ar;have:=Cu l λa b=>h a (ak _ b);lia
def TN(a:Fn n f)(p:Nat):(AD f p).length<=16:=by unfold AD;rw[aq];exact aH (aQ _ _) (BG a)
def FY{n:Nat}{f:List D}(b:Fn n f):(sk f).length<=256:=by have c:=Cu (qx f) λa _=>TN b a;have d:=BG b;unfold sk;lia
def zfr{n:Nat}{f:List D}(c:Fn n f)(O:Ow):MA [.tup f] O=.ok (.lst ((sk f).map pr)) O:=by
 have h:=BG c;let A:Option D:=qj f;let S:Option D:=qK (rL (qx f));show fin (Sa [A,XV] O)=_;refine tG (Ms (qr (pX rfl) (Me c O)) (rK (qr (qE rfl rfl) (VJ c O)) (rY ?_)));refine(RX (p:=Bj) (e:=λp q=>pr (p,q)) (tu rfl) (λ_=>rfl) ?_ ?_ (λ_=>rfl) (λ_ _=>rfl) (λa d=>tu rfl) (λa d b g=>Er ?_) (λa d b g=>?_)).trans ?_
 ·show(rL (qx f)).length=_;unfold rL;rw[aq]
 ·have:=Cu (qx f) λa _=>h;lia
 ·exact cA.mp (YZ O A S) (a,b) (UH (Jk c d) (Jk c g))
 ·exact Cs (qE rfl rfl) (by show 2<=4000000;decide)
 ·show R.ok (D.lst _) O=_;congr 2;unfold sk AD;rw[ny];refine Na λa _=>?_;rw[bi];rfl
def Yh(a:Fn n f)(c:p∈qx f)(d:q∈qx f)(i:l.length<1000):
  tL [x0,qI O.length,k_ (p:Nat),k_ (q:Nat),x4] (O++[l])=.nx [x0,qI O.length,k_ (p:Nat),k_ (q:Nat),k_ ((p^^^q:Nat))] (O++[if Bj p q=YP then l++[pr (p,q)] else l]):=by
 have b:=UH (Jk a c) (Jk a d);have e:=cA.mp (ziU (O++[l]) x0 (qI O.length) x4) (p,q) b;have g:=cA.mp (Zd (O++[l]) x0 (qI O.length)) (p,q) b;generalize p^^^q=x at *;unfold tL;rw[tj (yF e)];show qQ cL _ _ [x0,qI O.length,k_ (p:Nat),k_ (q:Nat),k_ (x:Nat)] (O++[l])=_;rw[tI g];cases h:Bj p q with
 |false=>rfl
 | true=>
  rw[Kk rfl,Kk rfl,Ep (y:=pr (p,q)) rfl (Cs (qE rfl rfl) (by show 2<=4000000;decide)) xI 'd',BI]
def Sh{O X:Ow}(b:uZ O){l:List (Nat×Nat)}:uB O.length (.ok (.own O.length) (O++[l.map pr]++X))=.ok (.lst (l.map pr)) O:=by
 rw[aX];refine JA b _ ?_;unfold frz;dsimp only;rw[Ko (bZ _),zfE];dsimp only;rw[vC λd a=>?_]
 ·rfl
 ·obtain⟨q,_,rfl⟩:=ay.mp a;exact L4 λd a=>by
   simp at a;rcases a with rfl|rfl<;>rfl
def V2{n:Nat}{f:List D}(c:Fn n f){O:Ow}(w:uZ O):ED [.tup f] O=.ok (.lst ((sk f).map pr)) O:=by
 have F:=BG c;let A:Option D:=qj f;let C:Option D:=qI O.length;obtain⟨m,b,h,o,d,e,rfl,rfl⟩:=ya (i:=2) (it:=pY (j_ 1 zl qA)) (σ:=[A,C,XV,XV,XV]) (O0:=O++[[]]) (O:=O++[[]]) (l:=qx f) (inj:=λ(p:Nat)=>D.int (p:Int)) (tu (qr (pX rfl) (FZ c _)))
  (λj σ b=>∃o d e,σ=[A,C,o,d,e]/\b=O++[((((qx f).take j).flatMap (AD f)).map pr)]) (λj p σ b u r=>by
   obtain⟨o,d,e,rfl,rfl⟩:=r;have y:=aF u;have G:=Cu (g:=AD f) (k:=16) ((qx f).take j) λa _=>TN c a;have H:=eN j (qx f);obtain⟨m,b,h,s,t,rfl,rfl⟩:=ya (i:=3) (it:=pY (j_ 1 zl qA)) (body:=tL) (σ:=[A,C,k_ (p:Int),d,e]) (O:=O++[((((qx f).take j).flatMap (AD f)).map pr)]) (l:=qx f) (inj:=λ(p:Nat)=>D.int (p:Int)) (tu (qr (pX rfl) (FZ c _)))
    (λi σ b=>∃s t,σ=[A,C,k_ (p:Int),s,t]/\b=O++[(((qx f).take j).flatMap (AD f)).map pr++((((qx f).take i).filter (Bj p)).map λq=>pr (p,q))]) (λi q σ b v r=>by
     obtain⟨s,t,rfl,rfl⟩:=r;have z:=aQ (Bj p) ((qx f).take i);have B:=eN i (qx f);refine⟨_,_,Yh c y (aF v) (O:=O) (by rw[au,aq,aq];lia),_,_,rfl,?_⟩;rw[JP _ v];congr 2;split
     ·rw[br,aX];rfl
     ·rw[bw]) ⟨d,e,rfl,by simp⟩
   refine⟨_,_,h,_,_,_,rfl,?_⟩;rw[Ez u,cF,br];congr 3;unfold AD;rw[bi];rfl) ⟨XV,XV,XV,rfl,by simp⟩
 show uB O.length (fin (JX [A,XV,XV,XV,XV] O))=_;rw[cF] at h;have E:JX [A,XV,XV,XV,XV] O=.rt (.own O.length) (O++[(sk f).map pr]):=by
  unfold JX;exact rK (x:=.own O.length) (O1:=O++[[]]) rfl (vO h (rY rfl))
 rw[tG E];have:=Sh (X:=[]) w (l:=sk f);rw[bw] at this;exact this
def hold(t:n_)(q:Nat×Nat):Bool:=(qL t).contains q.1&&(qL t).contains q.2
def vj(f:List D)(l:l_):List (Nat×Nat):=(sk f).filter λq=>(l.filter λt=>hold t q).isEmpty
def QA(q:Nat×Nat):pl 7 (pr q)=YP:=rfl
def Rt(l:List (Nat×Nat)):(l.map pr).all (pl 7)=YP:=al.mpr λd a=>by
 obtain⟨q,_,rfl⟩:=ay.mp a;rfl
def RI(h:pr a=pr b):a=b:=by injection h with h;injection h with h1 h2;injection h2 with h2 _;injection h1 with h1;injection h2 with h2;exact lE 'd' 'd'
def Ss{n:Nat}(a:1<=n)(b:n<=4){t:n_}(c:t∈Xg n){O:Ow}{l:List (Nat×Nat)}(d:l.length<1000):CA [.str t,.lst (l.map pr)] O=.ok (.lst ((l.filter (hold t)).map pr)) O:=by show fin (Vk [rT t,qK (l.map pr),XV] O)=_;refine tG (rK (qr (pX rfl) (JV (uQ a b c) O)) (rY ?_));exact(Cy (tu rfl) (λ_=>rfl) (by show(l.map pr).length=_;simp) 'd' (λ_ _=>rfl) (λq _=>Er (F6 (rO (qy rfl rfl (L5 O _ _))) λ_=>rO (qy rfl rfl (L5 O _ _)))) (λq _ _=>Cs (qE rfl rfl) (by show 2<=4000000;decide))).trans rfl
def zib{n:Nat}{f:List D}(d:Fn n f){l:l_}(m:∀t∈l,t∈Xg n)(c:l.length<=100)(O:Ow):Nj [.tup f,.tup (l.map .str)] O=.ok (.lst ((vj f l).map pr)) O:=by
 have s:=FY d;let A:Option D:=qj f;let L:Option D:=qj (l.map .str);let W:Option D:=qK ((sk f).map pr);let K:List (Nat×Nat):=l.flatMap λt=>(sk f).filter (hold t);have B:K.length<=100*256:=by
  have:=Cu (g:=λt=>(sk f).filter (hold t)) (k:=256) l λt _=>aH (aQ _ _) s;have i:l.length*256<=100*256:=Nat.mul_le_mul_right _ c;exact aH this i
 have u:qp Y1 2 (pY m_) (.one 4) [] [⟨(pY (j_ 2 CA (a_ qu (a_ pV f_)))),(.one 5),[]⟩] sM [A,L,W,XV] O=.ok (.lst (K.map pr)) O:=by
  refine(RX (o:=Y1) (O:=O) (l:=l) (inj:=D.str) (inj2:=pr) (p:=λ_ _=>YP) (e:=λ_ q=>pr q) (xb rfl) (λ_=>rfl) (by show(l.map D.str).length=_;simp) (by show K.length<_;lia) (λ_=>rfl) (λ_ _=>rfl) (λt h=>tu (qr (qE rfl rfl) (Ss d.n1 d.n4 (m t h) 'd'))) (λ_ _ _ _=>rfl) (λ_ _ _ _=>rfl)).trans ?_;show R.ok (D.lst _) O=_;congr 2;rw[ny];refine Na λa _=>?_;rw[Nl]
 show fin (Nn [A,L,XV,XV] O)=_;unfold Nn;refine tG (rK (O1:=O) (qr (pX rfl) (zfr d O)) (rK (x:=.lst (K.map pr)) (O1:=O) u (rY ?_)));refine(Cy (o:=Y1) (O:=O) (l:=sk f) (inj:=pr) (e:=pr) (tu rfl) (λ_=>rfl) (by show((sk f).map pr).length=_;simp) 'd' (λ_ _=>rfl) (λq _=>Er (rO (qy rfl rfl (Fu O (l:=K.map pr) (b:=K.contains q) (QA q) (Rt K) (.inl rfl) ?_).2))) (λq _ _=>rfl)).trans ?_
 ·rw[bo,ay];constructor
  ·intro h;exact⟨q,h,rfl⟩
  ·rintro⟨r,h,e⟩;rw[<- RI e];exact h
 ·show R.ok (D.lst _) O=_;congr 3;refine j0 λq v=>?_;rw[CH,cR,eu,al];constructor
  ·intro h t w;cases y:hold t q with
   |false=>rfl
   | true=>
    have:q∈K:=dj.mpr ⟨t,w,aA.mpr ⟨v,y⟩⟩;rw[<- bo,h] at this;cases this
  ·intro h;cases j:K.contains q with
   |false=>rfl
   | true=>
    rw[bo] at j;obtain⟨t,z,i⟩:=dj.mp j;have:=h t z;rw[(aA.mp i).2] at this;cases this
def z93{n:Nat}{f:List D}(a:Fn n f){l:l_}(e:∀t∈l,t∈Xg n)(o:l.length<=100){O:Ow}(r:uZ O):JO [.tup f,.tup (l.map .str)] O=.ok (.lst ((vj f l).map pr)) O:=by
 have F:=FY a;let A:Option D:=qj f;let L:Option D:=qj (l.map .str);let W:Option D:=qI O.length;have y:uZ (O++[[]]):=zfj r 'k';obtain⟨z,g,s,k,rfl,rfl⟩:=ya (i:=3) (it:=pY (j_ 1 ED qA)) (σ:=[A,L,W,XV]) (O0:=O++[[]]) (tu (qr (pX rfl) (V2 a y)))
  (λj σ g=>∃k,σ=[A,L,W,k]/\g=O++[(((sk f).take j).filter λq=>(l.filter λt=>hold t q).isEmpty).map pr]) (λj q σ g u B=>by
   obtain⟨k,rfl,rfl⟩:=B;have v:=SY (aF u);generalize m:(((sk f).take j).filter λq=>(l.filter λt=>hold t q).isEmpty).map pr=c;have G:c.length<1000:=by
    rw[<- m,aq];have H:=aQ (λq=>(l.filter λt=>hold t q).isEmpty) ((sk f).take j);have I:=eN j (sk f);lia
   refine⟨[A,L,W,Xy (pr q)],O++[if (l.filter λt=>hold t q).isEmpty=YP then c++[pr q] else c],?_,Xy (pr q),rfl,?_⟩
   ·have w:∀t∈l,∀p∈qx f,vW [.str t,.int (p:Nat)] (O++[c])=.ok (.bl ((qL t).contains p)) (O++[c]):=λt d p C=>CF (uQ a.n1 a.n4 (e t d)) (by rw[sZ a.n1 a.n4 (e t d),<- a.len];exact(oX.mp C).1) _;show LA [A,L,W,Xy (pr q)] (O++[c])=_;unfold LA;rw[tI (b:=(l.filter λt=>hold t q).isEmpty) (rO (qy ((u7 (p:=λt=>hold t q) (τ:=λt=>[A,L,W,Xy (pr q),rT t]) (xb rfl) 'd' (λ_=>rfl) (λt d=>F6 (sF (qr (qE rfl rfl) (w t d _ v.1))) λ_=>sF (qr (qE rfl rfl) (w t d _ v.2))) (λ_ _ _=>rfl)).trans rfl) rfl (Mb _ a.n1 a.n4 λt h=>e t (aA.mp h).1)))];cases (l.filter λt=>hold t q).isEmpty with
    |false=>rfl
    |true=>rw[Kk rfl,Kk rfl,Ep rfl rfl xI 'd',BI]
   ·rw[JP _ u];split
    ·rw[br,m];rfl
    ·rw[bw,m]) ⟨XV,rfl,by simp⟩
 show uB O.length (fin (J4 [A,L,XV,XV] O))=_;rw[cF] at s;have E:J4 [A,L,XV,XV] O=.rt (.own O.length) (O++[(vj f l).map pr]):=by
  unfold J4;exact rK (x:=.own O.length) (O1:=O++[[]]) rfl (vO s (rY rfl))
 rw[tG E];have:=Sh (X:=[]) r (l:=vj f l);rw[bw] at this;exact this
section
variable{n m:Nat}{g:List D}(hg:Fn n g){O:Ow}{b:Bool}
include hg
theorem zf8(B:oR (O.set m [.int s,.bl b]) m s b)(j:(Fd++L).Perm (gr n g))(H:L≠[]):
  ∃a mo d f,zS (uw O m g YP) (OO O m b s L Fd)=.nx (uw O m g mo) (OO O m b a d f)/\oR (O.set m [.int a,.bl b]) m a b/\(f++d).Perm (gr n g)/\((mo=YP/\d.length+1=L.length)\/(mo=Y1/\vG g (qB f)=YP)):=by
 have l:∀a,(O.set m [D.int a,D.bl b]).length=O.length:=λa=>cQ;have N:=Jg hg;have I:=j.length_eq;rw[au] at I;have v:Fd.Nodup:=by
  have:(gr n g).Nodup:=(LY hg).imp λh e=>by subst e;exact absurd h (ee _)
  exact(dS.mp (j.nodup_iff.mpr this)).1
 have J:∀t∈Fd,t∈gr n g:=λt w=>j.mem_iff.mp (bt _ w);have q:qH (j_ 2 CJ (a_ m_ (a_ Fc f_))) (uw O m g YP) (OO O m b s L Fd)=.ok (vG g (qB Fd)) (OO O m b s L Fd):=by
  have x:∀t∈qB Fd,t∈Xg n:=λt w=>BD (J t ((xg Fd).mp w));have C:(qB Fd).length<100:=by have:=Ju Fd;lia
  have e:=TJ hg x C (OO O m b s L Fd) ((M3 hg.n1 hg.n4 (Jz hg.n1 hg.n4 x) (by rw[aq];exact C) _).trans (by rw[Jm hg.n1 hg.n4 x (AK Fd)]));exact sF (qr (qE rfl (Sv rfl (Lq (l s)) v 'd')) e)
 have c:∀i,oR (O.set m [.int i,.bl b]) m i b->∃a mo d f,qQ (qH qu) Iq qS (uw O m g YP) (OO O m b i L Fd)=.nx (uw O m g mo) (OO O m b a d f)/\oR (O.set m [.int a,.bl b]) m a b/\(f++d).Perm (gr n g)/\((mo=YP/\d.length+1=L.length)\/(mo=Y1/\vG g (qB f)=YP)):=λi K=>by
  obtain⟨a,r,E,o,p⟩:=Zn hg K j H;refine⟨a,YP,L.eraseIdx r,Fd++[L[r]],?_,p,?_,.inl ⟨rfl,by rw[gP E];lia⟩⟩
  ·rw[tI rfl,Kk rfl];exact o
  ·rw[aX];exact((Gg L r E).append_left Fd).trans j
 cases y:vG g (qB Fd) with
 | false=>
  rw[y] at q;obtain⟨a,mo,d,f,o,p,z,A⟩:=c s B;exact⟨a,mo,d,f,vP q o,p,z,A⟩
 | true=>
  rw[y] at q;obtain⟨r,i,P,M,F⟩:=JB B [L.map .str,Fd.map .str] (k:=4) 'u' 'u';have u:qQ (qH (j_ 2 CJ (a_ m_ (a_ Fc f_)))) (p_ 4 (c_ (pZ rQ) (j_ 2 vf (a_ pS E7)) rJ)) qS (uw O m g YP) (OO O m b s L Fd)=.nx (uw O m g ((r:Int)==0)) (OO O m b i L Fd):=by
   rw[tI q,Kk rfl];exact yF (qy (qr (qE rfl rfl) M) rfl rfl)
  cases G:((r:Int)==0) with
  | true=>
   rw[G] at u;obtain⟨a,mo,d,f,o,p,z,A⟩:=c i F;exact⟨a,mo,d,f,vO u o,p,z,A⟩
  | false=>
   rw[G] at u;refine⟨i,Y1,L,Fd,vO u ?_,F,j,.inr ⟨rfl,y⟩⟩;rw[tI rfl];rfl
theorem Uq:∀(f:Nat){s:Int}{L Fd:l_}{mo:Bool},oR (O.set m [.int s,.bl b]) m s b->(Fd++L).Perm (gr n g)->(mo=YP->L.length+2<=f)->1<=f->(mo=Y1->vG g (qB Fd)=YP)->
  ∃a i c d,uP zW zS f (uw O m g mo) (OO O m b s L Fd)=.nx (uw O m g i) (OO O m b a c d)/\oR (O.set m [.int a,.bl b]) m a b/\(d++c).Perm (gr n g)/\(c=[]\/vG g (qB d)=YP)
 |0,s,L,Fd,mo,_,_,_,h1,_=>by lia
 | f+1,s,L,Fd,mo,hs,hp,hf,_,hq=>by
  have p:(!L.isEmpty&&mo)=Y1->(L=[]\/vG g (qB Fd)=YP)->∃a i c d,uP zW zS (f+1) (uw O m g mo) (OO O m b s L Fd)=.nx (uw O m g i) (OO O m b a c d)/\oR (O.set m [.int a,.bl b]) m a b/\(d++c).Perm (gr n g)/\(c=[]\/vG g (qB d)=YP):=λj u=>by
   refine⟨s,mo,L,Fd,?_,hs,hp,u⟩;show((zW (uw O m g mo) (OO O m b s L Fd)).bnS _)=_;rw[R9 hg hp,j];rfl
  cases mo with
  |false=>exact p 'k' (.inr (hq rfl))
  | true=>
   by_cases e:L=[]
   ·exact p (by simp[e]) (.inl e)
   ·have j:(!L.isEmpty&&YP)=YP:=by
     cases L with
     |nil=>exact absurd rfl e
     |cons _ _=>rfl
    obtain⟨a,mo,c,d,v,w,x,q⟩:=zf8 hg hs hp e;have y:=hf rfl;obtain⟨A,l,B,o,C,E,F⟩:=Uq f (s:=a) (L:=c) (Fd:=d) (mo:=mo) w x (λh=>by
     rcases q with⟨_,z⟩|⟨z,_⟩
     ·lia
     ·rw[h] at z;cases z) 'd' (λh=>by
     rcases q with⟨z,_⟩|⟨_,z⟩
     ·rw[h] at z;cases z
     ·exact z)
    refine⟨A,l,B,o,?_,E,F⟩;show((zW (uw O m g YP) (OO O m b s L Fd)).bnS λk t=>if k=YP then (match zS (uw O m g YP) t with|.nx σ' O'=>uP zW zS f σ' O'|.ct σ' O'=>uP zW zS f σ' O'|.bk σ' O'=>.nx σ' O'|r=>r) else .nx (uw O m g YP) t)=_;rw[R9 hg hp,j];show(match zS (uw O m g YP) (OO O m b s L Fd) with|.nx σ' O'=>uP zW zS f σ' O'|.ct σ' O'=>uP zW zS f σ' O'|.bk σ' O'=>.nx σ' O'|r=>r)=_;rw[v];exact C
theorem z7W(k:uZ O)(i:oR O m s b):∃(l:l_)(a:Int),NF [.own m,.tup g] O=.ok (.tup (l.map .str)) (O.set m [.int a,.bl b])/\oR (O.set m [.int a,.bl b]) m a b/\l.Pairwise (· < ·)/\(∀t∈l,t∈gr n g)/\vG g l=YP:=by
 have c:∀a,(O.set m [D.int a,D.bl b]).length=O.length:=λa=>cQ;have z:=Jg hg;have o:oR (O.set m [.int s,.bl b]) m s b:=by rw[JC i.at_];exact i
 obtain⟨a,mo,L,Fd,p,q,f,e4⟩:=Uq hg 100 (L:=gr n g) (Fd:=[]) (mo:=YP) o (d9 _) (λ_=>by lia) 'u' (λh=>by cases h);have r:=f.length_eq;rw[au] at r;have j:Fd.Nodup:=by
  have:(gr n g).Nodup:=(LY hg).imp λh e=>by subst e;exact absurd h (ee _)
  exact(dS.mp (f.nodup_iff.mpr this)).1
 refine⟨qB Fd,a,?_,q,AK Fd,λt u=>f.mem_iff.mp (bt _ ((xg Fd).mp u)),?_⟩
 rotate_left
 ·rcases e4 with rfl|e4
  ·rw[bw] at f;exact zkV hg λt=>(xg Fd).trans f.mem_iff
  ·exact e4
 show uB O.length (fin (ND [qI m,qj g,XV,XV,XV] O))=_;have v:O++[(gr n g).map .str]++[[]]=OO O m b s (gr n g) []:=by
  unfold OO;rw[JC i.at_,aX];rfl
 have w:ND [qI m,qj g,XV,XV,XV] O=.rt (.tup ((qB Fd).map .str)) (OO O m b a L Fd):=by
  refine rK (qr (pX rfl) (VH hg k)) (rK ?_ (rK rfl (vO p (rY ?_))))
  ·rw[<- v];show R.ok (D.own (O++[(gr n g).map D.str]).length) _=_;rw[au];rfl
  ·exact Sv rfl (Lq (c a)) j 'd'
 rw[tG w];have:=T6 (UE k m a b) [L.map .str,Fd.map .str] (d':=.tup ((qB Fd).map .str)) (L4 λd y=>by obtain⟨x,_,rfl⟩:=ay.mp y;rfl);rw[c] at this;exact this
end
def z8Q(d:Fn n f)(h:cs∈Xg n):DY f cs=AG f cs:=by
 have:AG f cs=YP↔DY f cs=YP:=by
  unfold AG DY;simp only[eu,bA];constructor
  ·intro e;cases b:(qx f).filter λp=>(qL cs).contains p with
   |nil=>rw[b] at e;cases e
   | cons p l=>
    have g:p∈(qx f).filter λp=>(qL cs).contains p:=by rw[b];exact ar
    obtain⟨a,c⟩:=aA.mp g;exact⟨p,by simpa using c,(oX.mp a).2⟩
  ·rintro⟨p,a,c⟩;cases b:(qx f).filter λp=>(qL cs).contains p with
   | nil=>
    have:p∈(qx f).filter λp=>(qL cs).contains p:=aA.mpr ⟨oX.mpr ⟨by rw[d.len];exact Jo d.n1 d.n4 h a,c⟩,by simpa using a⟩;rw[b] at this;cases this
   |cons p l=>rfl
 cases a:DY f cs<;>cases c:AG f cs<;>simp_all
def zhu:(oO.all λa=>oO.all λb=>!(a.length==b.length&&sT a.length a b&&decide (a≠b))||(aV a.length).any λk=>a.getD k 0 !=45&&sT a.length (a.set k 45) b)=YP:=by decide +kernel
def zfv(b:a.length=n):sT n a (a.set k 45)=YP:=Mr λj c=>by
 by_cases e:k=j
 ·subst e;left;rw[aD,bE 'd'];rfl
 ·right;rw[aD,bu e,<- aD]
def zcE(c:Fn n f)(d:a∈Xg n)(e:b∈Xg n)(h:sT n a b=YP)(g:sN f b=YP):sN f a=YP:=by unfold sN at *;rw[al] at *;exact λp i=>g p (MN c.n1 c.n4 d e h i)
def U2{n:Nat}{f:List D}(a:Fn n f):IV n f=gr n f:=by
 refine j0 λt u=>?_;have i:=yG u;have b:=sZ a.n1 a.n4 i;unfold Ph yS;rw[z8Q a i,Bool.and_comm];congr 1;unfold En;rw[CH];have j:(aV t.length).any (Bq f t)=YP ↔ ∃o∈s_ n f,o≠t/\sT n t o=YP:=by
  rw[bA];constructor
  ·rintro⟨k,l,d⟩;have l:=bg.mp l;unfold Bq at d;rw[aY] at d;have v:=Jw a.n1 a.n4 i (k:=k) (c:=45) rfl;refine⟨t.set k 45,aA.mpr ⟨v,d.2⟩,λe=>?_,zfv b⟩;have w:t.getD k 0≠45:=⇑d.1
   have:(t.set k 45).getD k 0=45:=by rw[aD,bE l];rfl
   rw[e] at this;exact w this
  ·rintro⟨o,g,m,p⟩;have q:=yG g;have h:=al.mp (al.mp zhu t (uQ a.n1 a.n4 i)) o (uQ a.n1 a.n4 q);rw[b,sZ a.n1 a.n4 q,p,decide_eq_true (bP m)] at h;simp only[beq_self_eq_true,om,eS,gM] at h;rw[bA] at h;obtain⟨k,l,r⟩:=h;rw[aY] at r;refine⟨k,by rw[b];exact l,?_⟩;unfold Bq;rw[aY];exact⟨r.1,zcE a (Jw a.n1 a.n4 i rfl) q r.2 (aA.mp g).2⟩
 cases d:(aV t.length).any (Bq f t) with
 | true=>
  obtain⟨o,g,m,p⟩:=j.mp d;symm;show(s_ n f).all _=Y1;rw[List.all_eq_false];exact⟨o,g,by simp[m,p]⟩
 | false=>
  symm;show(s_ n f).all _=YP;rw[al];intro o g;cases s:(decide (o≠t)&&sT n t o) with
  |false=>rfl
  | true=>
   rw[aY] at s;have:=j.mpr ⟨o,g,of_decide_eq_true s.1,s.2⟩;rw[d] at this;cases this
def yL(g:Nat->Bool)(t:n_):Bool:=(qL t).all g
def CL(g:Nat->Bool)(t:n_):Bool:=yL g t && !(aV t.length).any λk=>t.getD k 0 !=45&&yL g (t.set k 45)
def ziy:∀a b c d e f g h:Bool,((Xg 3).filter (CL λp=>[a,b,c,d,e,f,g,h].getD p Y1)).length<=6:=by decide +kernel
def Rj(h:∀p,p<8->g p=k p)(b:t∈Xg 3):yL g t=yL k t:=by
 unfold yL;rw[cR,al,al];constructor
 ·intro q p a;rw[<- h p (Jo 'u' 'u' b a)];exact q p a
 ·intro q p a;rw[h p (Jo 'u' 'u' b a)];exact q p a
def zlU(h:∀p,p<8->g p=k p)(a:t∈Xg 3):CL g t=CL k t:=by unfold CL;rw[Rj h a];congr 3;funext i;rw[Rj h (Jw 'u' 'u' a rfl)]
def six(g:Nat->Bool):((Xg 3).filter (CL g)).length<=6:=by
 have:=ziy (g 0) (g 1) (g 2) (g 3) (g 4) (g 5) (g 6) (g 7);rwa [j0 λt a=>zlU (λp b=>by
  have:p=0\/p=1\/p=2\/p=3\/p=4\/p=5\/p=6\/p=7:=by lia
  rcases this with rfl|rfl|rfl|rfl|rfl|rfl|rfl|rfl<;>rfl) a] at this
def qG(f:List D)(t:n_):Bool:=sN f t&&En f t
def zhB{α:Type}{p q:α->Bool}{l:List α}(h:∀x∈l,p x=YP->q x=YP):(l.filter p).length<=(l.filter q).length:=by rw[<- jt,<- jt];exact lC h
def zfD(n:Nat)(f:List D):(IV n f).length<=((Xg n).filter (qG f)).length:=by unfold IV s_;rw[mF];refine zhB λt _ h=>?_;unfold Ph at h;unfold qG;simp at h ⊢;exact⟨h.2,h.1.2⟩
theorem QS{q a b c:n_->Bool}:∀(l:l_),(∀t∈l,(q (t++[45])=YP->a t=YP)/\(q (t++[48])=YP->b t=YP)/\(q (t++[49])=YP->c t=YP))->((l.flatMap λt=>[t++[45],t++[48],t++[49]]).filter q).length<=(l.filter a).length+(l.filter b).length+(l.filter c).length
 |[],_=>by simp
 | t::l,h=>by
  have g:=QS l λs f=>h s (ak _ f);rw[bX,im,au];have e:([t++[45],t++[48],t++[49]].filter q).length<=(if a t=YP then 1 else 0)+(if b t=YP then 1 else 0)+(if c t=YP then 1 else 0):=by
   cases i:q (t++[45])<;>cases j:q (t++[48])<;>cases k:q (t++[49])<;>simp_all<;>(repeat' split)<;>lia
  have d:∀p:n_->Bool,((t::l).filter p).length=(if p t=YP then 1 else 0)+(l.filter p).length:=λp=>by
   rw[cT];split<;>simp<;>lia
  rw[d a,d b,d c];lia
def Md(t:n_)(c:Nat):qL (t++[c])=(qL t).flatMap λp=>(Ry c).map (2*p + ·):=by unfold qL;rw[jZ];rfl
def LG{f:List D}{c:Nat}{g:Nat->Bool}(a:∀s,sN f (s++[c])=yL g s){t:n_}(h:qG f (t++[c])=YP):CL g t=YP:=by unfold qG En at h;simp only[aY,eu,gp] at h;unfold CL;simp only[aY,eu,gp];refine⟨by rw[<- a];exact h.1,λk d=>?_⟩;have b:=bg.mp d;have:=h.2 k (bg.mpr (by rw[au];lia));unfold Bq at this;rw[lN _ _ b,a,aD,aK b,<- aD,aY] at this;exact this
def ZX(f:List D)(s:n_):sN f (s++[45])=yL (λp=>!uh (f.getD (2*p) .non) && !uh (f.getD (2*p+1) .non)) s:=by unfold sN yL;rw[Md,kw];congr 1;funext p;show([2*p+0,2*p+1].all _)=_;simp
def ZD(f:List D)(s:n_):sN f (s++[48])=yL (λp=>!uh (f.getD (2*p) .non)) s:=by unfold sN yL;rw[Md,kw];congr 1;funext p;show([2*p+0].all _)=_;simp
def ZL(f:List D)(s:n_):sN f (s++[49])=yL (λp=>!uh (f.getD (2*p+1) .non)) s:=by unfold sN yL;rw[Md,kw];congr 1;funext p;show([2*p+1].all _)=_;simp
def Fw{n:Nat}{f:List D}(d:Fn n f):(gr n f).length<=18:=by
 rw[<- U2 d];refine aH (zfD n f) ?_;rcases zM d.n1 d.n4 with rfl|rfl|rfl|rfl
 ·exact aH (aQ _ _) 'u'
 ·exact aH (aQ _ _) 'u'
 ·have:=six λp=>!uh (f.getD p .non);exact aH (aH (ig rfl) this) 'u'
 ·have h:=QS (Xg 3) λt _=>⟨LG (ZX f),LG (ZD f),LG (ZL f)⟩;have a:=six λp=>!uh (f.getD (2*p) .non) && !uh (f.getD (2*p+1) .non);have b:=six λp=>!uh (f.getD (2*p) .non);have c:=six λp=>!uh (f.getD (2*p+1) .non);have e:Xg 4=(Xg 3).flatMap λt=>[t++[45],t++[48],t++[49]]:=rfl;rw[e];lia
def Bi:D->Bool
 |.non=>YP
 |.bl _=>YP
 |.int _=>YP
 |.str _=>YP
 |_=>Y1
def CV:D->Bool
 |.tup ds=>ds.all Bi
 |d=>Bi d
def Pl(O:Ow):Prop:=∀c∈O,∀d∈c,CV d=YP
def At(O:Ow):Prop:=∀c∈O,∀d∈c,Bi d=YP
def zfU:∀{d:D},Bi d=YP->vt n d=YP
 |.non,_=>rfl
 |.bl _,_=>rfl
 |.int _,_=>rfl
 |.str _,_=>rfl
def Zq:∀{d:D},Bi d=YP->nm d=YP
 |.non,_=>rfl
 |.bl _,_=>rfl
 |.int _,_=>rfl
 |.str _,_=>rfl
def Zx:∀{d:D},Bi d=YP->CV d=YP
 |.non,_=>rfl
 |.bl _,_=>rfl
 |.int _,_=>rfl
 |.str _,_=>rfl
def At.flat(h:At O):uZ O:=λc a d b=>zfU (h c a d b)
def At.pl(h:At O):Pl O:=λc a d b=>Zx (h c a d b)
theorem LM:∀{ds:List D},(∀d∈ds,nm d=YP)->nms ds=YP
 |[],_=>rfl
 | d::ds,h=>by
  unfold nms;rw[h d ar,LM λx a=>h x (ak _ a)];rfl
def Zv:∀{d:D},CV d=YP->nm d=YP
 | .tup ds,h=>by
  exact LM λd a=>Zq (al.mp h d a)
 |.non,_=>rfl
 |.bl _,_=>rfl
 |.int _,_=>rfl
 |.str _,_=>rfl
def Pl.nms(h:Pl O):O.all nms=YP:=al.mpr λc a=>LM λd b=>Zv (h c a d b)
def Yw:∀{d:D},Bi d=YP->Lo d=YP
 |.non,_=>rfl
 |.bl _,_=>rfl
 |.int _,_=>rfl
 |.str _,_=>rfl
def Tu:∀{d:D},CV d=YP->frz O n (f+1) d=Xy d
 | .tup ds,h=>by
  show(qv (frz O n f) ds).map D.tup=_;rw[vC λd a=>QK (Yw (al.mp h d a))];rfl
 |.non,_=>rfl
 |.bl _,_=>rfl
 |.int _,_=>rfl
 |.str _,_=>rfl
def FV(a:Pl O')(X:Ow)(h:frz (O'++X) O'.length 8 d=Xy d'):uB O'.length (.ok d (O'++X))=.ok d' O':=by
 unfold uB;dsimp only;rw[h];have:(O'++X).take O'.length=O':=by simp
 rw[this,vC λc b=>vC λd e=>Tu (a c b d e)]
def Pl.one(h:Pl O)(a:∀d∈c,CV d=YP):Pl (O++[c]):=λx hx=>by
 rcases aM.mp hx with hx|hx
 ·exact h x hx
 ·have:x=c:=⇑hx
  subst this;exact a
def toT(c:l_):D:=.tup (c.map .str)
def Zo(c:l_):CV (toT c)=YP:=by show(c.map D.str).all Bi=YP;rw[al];intro d a;obtain⟨x,_,rfl⟩:=ay.mp a;rfl
def Mw(l:List l_):∀d∈l.map toT,CV d=YP:=λd a=>by
 obtain⟨x,_,rfl⟩:=ay.mp a;exact Zo x
section
variable{α:Type}[DecidableEq α]
noncomputable def uF(inj:α->D)(h:DLC.Held α):D:=.map ((DLC.keys h).map dI) (h.map λkv=>.lst (kv.2.map inj))
structure Inj(inj:α->D):Prop where
 in_:∀(O:Ow)(x:α)(l:List α),uy O (inj x) (.lst (l.map inj))=.ok (.bl (l.contains x)) O
 nin:∀(O:Ow)(x:α)(l:List α),v_ O (inj x) (.lst (l.map inj))=.ok (.bl (!l.contains x)) O
variable{inj:α->D}(J:Inj inj)
def RP(n:(DLC.keys h).Nodup)(m:a∈h):x8 (.inr a.1) ((DLC.keys h).map dI) (h.map λa=>D.lst (a.2.map inj))=qK (a.2.map inj):=by
 have e:(DLC.keys h).map dI=h.map λa=>(dI a.1:DK):=by unfold DLC.keys;rw[bi];rfl
 rw[e];refine U8 (kk:=λa:n_×List α=>(dI a.1:DK)) m ?_;rw[<- e];exact iC.mpr (List.Pairwise.imp (λb e=>b (ju e)) n)
def ziq(n:(DLC.keys h).Nodup)(m:t∈DLC.keys h):x8 (.inr t) ((DLC.keys h).map dI) (h.map λa=>D.lst (a.2.map inj))=qK ((DLC.at_ h t).map inj):=by obtain⟨a,b,rfl⟩:=ay.mp m;rw[RP n b,DLC.at_mem n b]
include J in
theorem Vw(n:(DLC.keys h).Nodup)(b:h.length<=100)(x:α)(O:Ow):CD [uF inj h,inj x] O=.ok (.lst ((DLC.hold h x).map .str)) O:=by
 show fin (Nh [Xy (uF inj h),Xy (inj x)] O)=_;have c:Iv pS [Xy (uF inj h),Xy (inj x)] O=.ok (.val (h.map λa=>D.str a.1)) O:=by
  show R.ok (Src.val (((DLC.keys h).map dI).map BN)) O=_;unfold DLC.keys;rw[bi,bi];rfl
 refine Ct ((u7 c 'd' (λ_=>rfl) (λa d=>rO (qy rfl (R5 rfl rfl rfl (RP n d)) (J.in_ O x a.2))) (λ_ _ _=>rfl)).trans ?_);unfold DLC.hold;rw[bi];rfl
theorem MM:∀(w:List α)(b:α),(∀y∈w,tE (σ++[Xy (inj y)]) O=.ok (.int (f y:Nat)) O)->DL.minGo tE σ (w.map inj) (inj b) (f b:Nat) O=.ok (inj (DLC.minGo f w b)) O
 |[],b,_=>rfl
 | x::w,b,h=>by
  rw[bB];unfold DL.minGo DLC.minGo;rw[h x ar];dsimp only;by_cases c:f x<f b
  ·rw[Kk (show((f x:Nat):Int)<(f b:Nat) by lia),Kk c];exact MM w x λy a=>h y (ak _ a)
  ·rw[Ko (show ¬ ((f x:Nat):Int)<(f b:Nat) by lia),Ko c];exact MM w b λy a=>h y (ak _ a)
def stC(inj:α->D)(h:DLC.Held α)(w:List α)(m:Int)(y:Option D)(k:Nat)(a b c:Option D)(Pt:Nat):Sg:=[Xy (uF inj h),qK (w.map inj),k_ m,y,qI k,a,b,c,Xy (.tab Pt)]
include J in
theorem ziA(n:(DLC.keys h).Nodup)(d:w.length<=300)(b:t∈DLC.keys h)(O:Ow):Cf (stC inj h w m y k a (rT t) c Pt) O=.ok (.lst ((DLC.left h w t).map inj)) O:=
 (u7 (tu rfl) 'd' (λ_=>rfl) (λx e=>rO (qy rfl (R5 rfl rfl rfl (ziq n b)) (J.nin O x _))) (λ_ _ _=>rfl)).trans rfl
def FG(a:σ[iT]?=Xy (Xy (.tab Pt)))(b:t σ O=.ok ds O1)(c:F ds O1=z)(d:ds.length=n:=by rfl):vq Pt iT n F t σ O=z:=by unfold vq;rw[a];dsimp only;rw[Kk rfl];exact qr b c d
def Z7{h r:DLC.Held α}{w l:List α}{t:n_}{m:Nat}{y:Option D}{Pt:Nat}{F:ql}{O:Ow}{Xo cs:List l_}(b:F [uF inj r,.lst (l.map inj),.int (m:Nat)] (O++[Xo.map toT])=.ok (.lst (cs.map toT)) (O++[Xo.map toT]))(k:Xo.length+cs.length<=1700000)(a:∀c∈cs,c.length<=1000):
  Br Pt F (stC inj h w ((m+1:Nat):Int) y O.length (Xy (uF inj r)) (rT t) (qK (l.map inj)) Pt) (O++[Xo.map toT])=.ok .non (O++[(Xo++cs.map (t :: ·)).map toT]):=by
 have d:((m+1:Nat):Int)-1=(m:Nat):=by lia
 have f:vq Pt 8 3 F (a_ sM (a_ (qN 7) (a_ (c_ (fI xm) pV rz) f_))) (stC inj h w ((m+1:Nat):Int) y O.length (Xy (uF inj r)) (rT t) (qK (l.map inj)) Pt) (O++[Xo.map toT])=.ok (.lst (cs.map toT)) (O++[Xo.map toT]):=by
  refine FG rfl ?_ b;show R.ok [uF inj r,.lst (l.map inj),.int (((m+1:Nat):Int)-1)] _=_;rw[d]
 have g:=xF (o:=Y1) (ext:=1) (i:=9) (te:=c_ rC (vp uM) (qN 9)) (e:=λc=>toT (t::c)) (tu f) 'd' (λ_=>rfl) (λc j=>by
  refine qy rfl rfl ?_;show(if [D.str t]≠[]/\[D.str t].length+(c.map D.str).length<=4000000 then R.ok (D.tup ([D.str t]++c.map D.str)) (O++[Xo.map toT]) else .bad)=_;rw[Kk ⟨by simp,by rw[aq];have:=a c j;simp;lia⟩];rfl)
 unfold Br zO;show((a_ _ f_ _ (O++[Xo.map toT])).bnd _)=_;rw[pX (g.trans (rfl))];show(match [D.lst (cs.map λc=>toT (t::c))],(O++[Xo.map toT])[O.length]? with|[y],Xy ds=>(match r9 (O++[Xo.map toT]) y with|some es=>if ds.length+es.length<=4000000 then R.ok D.non ((O++[Xo.map toT]).set O.length (ds++es)) else R.bad|none=>R.bad)|_,_=>R.bad)=_;rw[xI];dsimp only[r9];rw[Kk (by simp;lia),BI,br,bi];rfl
def Lf(inj:α->D)(Pt k m:Nat):Prop:=∀(h:DLC.Held α)(w:List α)(O:Ow),Pl O->(DLC.keys h).Nodup->h.length<=20->w.length<=300->yc Pt k [uF inj h,.lst (w.map inj),.int (m:Nat)] O=.ok (.lst ((DLC.cov m h w).map toT)) O
def UJ(h:DLC.Held α)(t:n_):(DLC.drop h t).length<=h.length:=aQ _ _
def zdT(r:DLC.Held α)(t:n_):vV (.inr t) ((DLC.keys r).map dI)=(DLC.keys (DLC.drop r t)).map dI:=by
 unfold vV DLC.keys DLC.drop
 induction r with
 |nil=>rfl
 | cons kv r ih=>
  simp only[bB];by_cases e:kv.1=t
  ·rw[dJ (by simp[e]),dJ (by simp[e])];exact ih
  ·rw[dL ⇑e,dL ⇑e];simp only[bB];rw[ih]
def zco(r:DLC.Held α)(t:n_):y_ (.inr t) ((DLC.keys r).map dI) (r.map λa=>D.lst (a.2.map inj))=(DLC.drop r t).map λa=>D.lst (a.2.map inj):=by
 unfold DLC.keys DLC.drop
 induction r with
 |nil=>rfl
 | cons a r ih=>
  simp only[bB];unfold y_;by_cases e:a.1=t
  ·rw[Kk (by rw[e]),dJ (by simp[e])];exact ih
  ·rw[Ko (λz=>e (ju z)),dL ⇑e,bB,ih]
def Z3(h:t∈DLC.keys r):EN (.inr t) ((DLC.keys r).map dI)=YP:=by unfold EN;rw[bA];exact⟨.inr t,ay.mpr ⟨t,h,rfl⟩,by simp⟩
include J in
theorem S7{Pt k m:Nat}(x:Lf inj Pt k m)(z:m<=100){h:DLC.Held α}{w:List α}(n:(DLC.keys h).Nodup)(j:h.length<=20)(l:w.length<=300){O:Ow}(o:Pl O){y:Option D}:
  ∀(ts:l_)(r:DLC.Held α)(Xo:List l_)(b c:Option D),(∀t∈ts,t∈DLC.keys r)->ts.Nodup->(∀d∈r,d∈h)->(DLC.keys r).Nodup->r.length<=20->Xo.length+2 ^ r.length<=1700000->(∀t∈ts,t∈DLC.keys h)->
   ∃p q,AF 5 6 7 Cf (Br Pt (yc Pt k)) (ts.map D.str) ((DLC.keys r).map dI) (r.map λd=>D.lst (d.2.map inj)) (stC inj h w ((m+1:Nat):Int) y O.length XV b c Pt) (O++[Xo.map toT])=.nx (stC inj h w ((m+1:Nat):Int) y O.length XV p q Pt) (O++[(Xo++DLC.covL (DLC.cov m) h w ts r).map toT])
 |[],r,Xo,b,c,_,_,_,_,_,_,_=>⟨b,c,by unfold DLC.covL;rw[bw];rfl⟩
 | t::ts,r,Xo,b,c,f,nt,hr,nr,fr,hl,WX=>by
  have A:∀d∈DLC.drop r t,d∈h:=λd f=>hr d (DLC.mem_drop.mp f).1;have K:=DLC.cov_pow m (DLC.drop r t) (DLC.left h w t) (DLC.nd_drop nr);have B:=DLC.drop_lt (f t ar);have C:2 ^ ((DLC.drop r t).length+1)<=2 ^ r.length:=di 'd' B;rw[Nat.pow_succ] at C;have E:=ziA J n l (WX t ar) (m:=((m+1:Nat):Int)) (y:=y) (k:=O.length) (Pt:=Pt) (a:=XV) (c:=c) (O++[Xo.map toT]);have F:=x (DLC.drop r t) (DLC.left h w t) (O++[Xo.map toT]) (o.one (Mw Xo)) (DLC.nd_drop nr) (aH (UJ r t) fr) (aH (aQ _ _) l);have g:Xo.length+(DLC.cov m (DLC.drop r t) (DLC.left h w t)).length<=1700000:=by lia
  have G:=Z7 (h:=h) (w:=w) (t:=t) (y:=y) (Pt:=Pt) F g λc H=>by have:=(DLC.cov_sound m (DLC.nd_drop nr) H).1;lia
  obtain⟨p,q,I⟩:=S7 x z n j l o ts (DLC.drop r t) (Xo++(DLC.cov m (DLC.drop r t) (DLC.left h w t)).map (t :: ·)) (rT t) (qK ((DLC.left h w t).map inj))
   (λs i=>DLC.keys_drop.mpr ⟨f s (ak _ i),λe=>(bz.mp nt).1 (e▸i)⟩) (bz.mp nt).2 A (DLC.nd_drop nr) (aH (UJ r t) fr) (by rw[au,aq];lia) (λs i=>WX s (ak _ i))
  refine⟨p,q,?_⟩;rw[bB];unfold AF;dsimp only[xY];rw[Kk (Z3 (f t ar))];have u:Cf ((stC inj h w ((m+1:Nat):Int) y O.length XV b c Pt).set 6 (rT t)) (O++[Xo.map toT])=.ok (.lst ((DLC.left h w t).map inj)) (O++[Xo.map toT]):=E;rw[u];dsimp only;rw[zdT,zco];have v:Br Pt (yc Pt k) ((((stC inj h w ((m+1:Nat):Int) y O.length XV b c Pt).set 6 (rT t)).set 7 (qK ((DLC.left h w t).map inj))).set 5 (Xy (.map ((DLC.keys (DLC.drop r t)).map dI) ((DLC.drop r t).map λd=>D.lst (d.2.map inj))))) (O++[Xo.map toT])=_:=G;rw[v];dsimp only;rw[Kk (o.one (Mw _)).nms];refine Eq.trans I ?_;show _=RS.nx _ (O++[(Xo++((DLC.cov m (DLC.drop r t) (DLC.left h w t)).map (t :: ·)++DLC.covL (DLC.cov m) h w ts (DLC.drop r t))).map toT]);rw[aX]
include J in
theorem UZ:∀(m k:Nat),m<k->m<=100->Lf inj Pt k m
 |m,0,hk,_=>by lia
 | 0,k+1,_,_=>by
  intro h w O f n a q;show uB O.length (fin (AL Pt (yc Pt k) [Xy (uF inj h),qK (w.map inj),k_ 0,XV,XV,XV,XV,XV,Xy (.tab Pt)] O))=_;unfold AL;cases w with
  | nil=>
   rw[tG (Cp (O1:=O) (x:=.lst [.tup []]) (vg (b:=Y1) rfl) rfl)];have:=FV f [] (d:=.lst [.tup []]) (d':=.lst [.tup []]) rfl;rw[bw] at this;exact this
  | cons x w=>
   rw[tG (vP (O1:=O) (vg (b:=YP) rfl) (Cp (O1:=O) (x:=.lst []) (rO (b:=YP) rfl) rfl))];have:=FV f [] (d:=.lst []) (d':=.lst []) rfl;rw[bw] at this;exact this
 | m+1,k+1,hk,hm=>by
  intro h w O f n a q;cases w with
  | nil=>
   show uB O.length (fin (AL Pt (yc Pt k) [Xy (uF inj h),Xy (.lst []),k_ ((m+1:Nat):Int),XV,XV,XV,XV,XV,Xy (.tab Pt)] O))=_;unfold AL;rw[tG (Cp (O1:=O) (x:=.lst [.tup []]) (vg (b:=Y1) rfl) rfl)];have:=FV f [] (d:=.lst [.tup []]) (d':=.lst [.tup []]) rfl;rw[bw] at this;exact this
  | cons x w=>
   have u:Lf inj Pt k m:=UZ m k 'd' 'd';let c:Sg:=[Xy (uF inj h),qK ((x::w).map inj),k_ ((m+1:Nat):Int),XV,XV,XV,XV,XV,Xy (.tab Pt)];have r:∀y,Ca (c++[Xy (inj y)]) O=.ok (.int ((DLC.hold h y).length:Nat)) O:=λy=>rX (pX (qr (qE rfl rfl) (Vw J n 'd' y O))) (by show R.ok (D.int (((DLC.hold h y).map D.str).length:Nat)) O=_;rw[aq]);generalize g:DLC.minGo (λy=>(DLC.hold h y).length) w x=y;have v:y∈x::w:=by
    rcases DLC.minGo_mem (λy=>(DLC.hold h y).length) w x with e|e
    ·rw[<- g,e];exact ar
    ·rw[<- g];exact ak _ e
   have z:D9 Pt 8 m_ Ca c O=.ok (inj y) O:=by
    show(if Pt=Pt then (R.bnd (R.ok (D.lst ((x::w).map inj)) O) λx O1=>match x with|.lst ds=>DQ Ca c O1 ds|_=>.bad) else .bad)=_;rw[Kk rfl];show DQ Ca c O (inj x::w.map inj)=_;show(match Ca (c++[Xy (inj x)]) O with|.ok (.int j) O1=>DL.minGo Ca c (w.map inj) (inj x) j O1|_=>.bad)=_;rw[r x];dsimp only;rw[<- g];exact MM w x λy _=>r y
   have s:2 ^ h.length<=1700000:=by
    have:=di (n:=2) 'u' a;lia
   obtain⟨I,K,A⟩:=S7 J u 'd' n a q f (y:=Xy (inj y)) (DLC.hold h y) h [] XV XV (λt i=>((DLC.mem_hold n).mp i).1) (DLC.hold_nd n y) (λ_ h=>h) n a (by simp only[eB];lia) (λt i=>((DLC.mem_hold n).mp i).1);have B:((m+1:Nat):Int)≠0:=by lia
   have C:qd (c_ (pZ rQ) pV rJ) c O=.ok Y1 O:=rO (qy rfl rfl (show pZ rQ O (.int ((m+1:Nat):Int)) (.int 0)=_ from by
    show R.ok (D.bl (((m+1:Nat):Int)==0)) O=_;rw[beq_eq_false_iff_ne.mpr B]))
   have l:pY (j_ 2 CD (a_ pS (a_ qg f_))) (stC inj h (x::w) ((m+1:Nat):Int) (Xy (inj y)) O.length XV XV XV Pt) (O++[[]])=.ok (.val ((DLC.hold h y).map D.str)) (O++[[]]):=tu (qr (qE rfl rfl) (Vw J n 'd' y (O++[[]])));have E:Fp 5 6 7 pS (pY (j_ 2 CD (a_ pS (a_ qg f_)))) Cf (Br Pt (yc Pt k)) (p8 qu) (stC inj h (x::w) ((m+1:Nat):Int) (Xy (inj y)) O.length XV XV XV Pt) (O++[[]])=.rt (.own O.length) (O++[((DLC.covL (DLC.cov m) h (x::w) (DLC.hold h y) h)).map toT]):=by
    unfold Fp;show(R.bnS (R.ok (uF inj h) (O++[[]])) _)=_;show(R.bnS (pY (j_ 2 CD (a_ pS (a_ qg f_))) (stC inj h (x::w) ((m+1:Nat):Int) (Xy (inj y)) O.length XV XV XV Pt) (O++[[]])) _)=_;rw[l];show(match AF 5 6 7 Cf (Br Pt (yc Pt k)) ((DLC.hold h y).map D.str) ((DLC.keys h).map dI) (h.map λo=>D.lst (o.2.map inj)) (stC inj h (x::w) ((m+1:Nat):Int) (Xy (inj y)) O.length XV XV XV Pt) (O++[[]]) with|.nx σ' O'=>p8 qu σ' O'|_=>.bad)=_;have F:AF 5 6 7 Cf (Br Pt (yc Pt k)) ((DLC.hold h y).map D.str) ((DLC.keys h).map dI) (h.map λo=>D.lst (o.2.map inj)) (stC inj h (x::w) ((m+1:Nat):Int) (Xy (inj y)) O.length XV XV XV Pt) (O++[[]])=_:=A;rw[F];rw[eC];rfl
   have p:AL Pt (yc Pt k) c O=.rt (.own O.length) (O++[((DLC.covL (DLC.cov m) h (x::w) (DLC.hold h y) h)).map toT]):=by
    unfold AL;exact vP (O1:=O) (vg (b:=YP) rfl) (vP C (rK (x:=inj y) z (rK (x:=.own O.length) (O1:=O++[[]]) rfl E)))
   show uB O.length (fin (AL Pt (yc Pt k) c O))=_;rw[tG p];have G:=FV f [(DLC.covL (DLC.cov m) h (x::w) (DLC.hold h y) h).map toT] (d:=.own O.length) (d':=.lst ((DLC.covL (DLC.cov m) h (x::w) (DLC.hold h y) h).map toT)) (by
    unfold frz;dsimp only;rw[Ko (bZ _),xI];dsimp only;rw[vC λd H=>Tu (Mw _ d H)];rfl)
   refine G.trans ?_;show _=R.ok (D.lst ((DLC.covL (DLC.cov m) h (x::w) (DLC.hold h (DLC.minGo (λy=>(DLC.hold h y).length) w x)) h).map toT)) O;rw[g]
end
def zfP(h:t σ O=.ok (.lst ds) O1):qH t σ O=.ok (!ds.isEmpty) O1:=by show((t σ O).bnd _)=_;rw[h];rfl
noncomputable def Ae(t:n_):Int:=((t.length-t.count 45:Nat):Int)
def zgi(O:Ow):(oO.map λcs=>Gh [.str cs] O)=oO.map λcs=>R.ok (D.int (Ae cs)) O:=by kernel_rfl
def zhP(h:cs∈oO)(O:Ow):Gh [.str cs] O=.ok (.int (Ae cs)) O:=cA.mp (zgi O) cs h
def rS(c:l_):Int:=(c.map Ae).sum
theorem EC:∀l:List Int,x9 (l.map D.int)=Xy l
 |[]=>rfl
 | x::l=>by
  show(x9 (l.map D.int)).map (x :: ·)=_;rw[EC l];rfl
def zig(a:∀t∈c,t∈oO)(e:c.length<=1000)(O:Ow):AN [toT c] O=.ok (.int (rS c)) O:=by
 have b:=xF (o:=Y1) (ext:=1) (i:=1) (it0:=pY pS) (σ:=[Xy (toT c)]) (te:=j_ 1 Gh (a_ m_ f_)) (xb rfl) 'd' (λ_=>rfl) (λt d=>qr (pX rfl) (zhP (a t d) O));show fin (M_ [Xy (toT c)] O)=_;refine Ct (rX (pX b) ?_);show(match x9 (c.map λt=>D.int (Ae t)) with|some ns=>R.ok (D.int ns.sum) O|none=>.bad)=_;have:(c.map λt=>D.int (Ae t))=(c.map Ae).map D.int:=by rw[bi];rfl
 rw[this,EC];rfl
section
variable{α:Type}[DecidableEq α]{inj:α->D}(J:Inj inj)
def uC(inj:α->D)(h:DLC.Held α)(w:List α)(Pt m:Nat)(x:Option D):Sg:=[Xy (uF inj h),qK (w.map inj),k_ (m:Nat),qK ((DLC.cov m h w).map toT),x,Xy (.tab Pt)]
structure Sz(h:DLC.Held α)(w:List α):Prop where
 nd:(DLC.keys h).Nodup
 few:h.length<=18
 wl:w.length<=300
include J in
theorem RZ(z:Sz h w)(d:m<=18)(c:Pl O):vq Pt 5 3 (F8 Pt) (a_ pS (a_ m_ (a_ pV f_))) [Xy (uF inj h),qK (w.map inj),k_ (m:Nat),a,b,Xy (.tab Pt)] O=.ok (.lst ((DLC.cov m h w).map toT)) O:=
 FG rfl (Cw rfl (qE rfl rfl)) (UZ J m 20 'd' 'd' h w O c z.nd (aH z.few 'u') z.wl)
include J in
theorem UL(z:Sz h w)(g:DLC.cov 18 h w≠[]):∀(fuel m:Nat),m<=18->18<m+fuel->∃c,m<=c/\c<=18/\DLC.cov c h w≠[]/\(∀j,m<=j->j<c->DLC.cov j h w=[])/\∀(Pt:Nat)(O:Ow),Pl O->uP cW (bW Pt) fuel (uC inj h w Pt m XV) O=.nx (uC inj h w Pt c XV) O
 |0,m,h1,h2=>by lia
 | fuel+1,m,h1,h2=>by
  by_cases e:DLC.cov m h w=[]
  ·have x:m≠18:=λq=>g (q▸e);obtain⟨c,y,i,l,n,o⟩:=UL z g fuel (m+1) 'd' 'd';refine⟨c,by lia,i,l,λj p s=>?_,λPt O d=>?_⟩
   ·by_cases q:j=m
    ·rw[q];exact e
    ·exact n j 'd' s
   ·have f:cW (uC inj h w Pt m XV) O=.ok YP O:=by
     unfold uC;rw[e];rfl
    have u:bW Pt (uC inj h w Pt m XV) O=.nx (uC inj h w Pt (m+1) XV) O:=by
     refine vO (σ':=[Xy (uF inj h),qK (w.map inj),k_ ((m+1:Nat):Int),qK ((DLC.cov m h w).map toT),XV,Xy (.tab Pt)]) (O1:=O) rfl ?_;rw[yF (RZ J z 'd' d)];rfl
    show((cW (uC inj h w Pt m XV) O).bnS λk O1=>if k=YP then (match bW Pt (uC inj h w Pt m XV) O1 with
     |.nx σ' O'=>uP cW (bW Pt) fuel σ' O'
     |.ct σ' O'=>uP cW (bW Pt) fuel σ' O'
     |.bk σ' O'=>.nx σ' O'
     |r=>r) else .nx (uC inj h w Pt m XV) O1)=_
    rw[f];show(if YP=YP then (match bW Pt (uC inj h w Pt m XV) O with
     |.nx σ' O'=>uP cW (bW Pt) fuel σ' O'
     |.ct σ' O'=>uP cW (bW Pt) fuel σ' O'
     |.bk σ' O'=>.nx σ' O'
     |r=>r) else RS.nx (uC inj h w Pt m XV) O)=_
    rw[Kk rfl,u];exact o Pt O d
  ·refine⟨m,aE _,h1,e,λj a b=>by lia,λPt O d=>?_⟩;have f:cW (uC inj h w Pt m XV) O=.ok Y1 O:=by
    refine vg (b:=YP) ?_;rw[zfP (t:=qN 3) (σ:=uC inj h w Pt m XV) (O:=O) (O1:=O) (ds:=(DLC.cov m h w).map toT) rfl];cases v:DLC.cov m h w with
    |nil=>exact absurd v e
    |cons _ _=>rfl
   show((cW (uC inj h w Pt m XV) O).bnS λk O1=>if k=YP then (match bW Pt (uC inj h w Pt m XV) O1 with
     |.nx σ' O'=>uP cW (bW Pt) fuel σ' O'
     |.ct σ' O'=>uP cW (bW Pt) fuel σ' O'
     |.bk σ' O'=>.nx σ' O'
     |r=>r) else .nx (uC inj h w Pt m XV) O1)=_
   rw[f];rfl
theorem Tw:∀l:List l_,Ay (l.map toT)=Xy l
 |[]=>rfl
 | x::l=>by
  show(match uY (x.map D.str),Ay (l.map toT) with|some ks,Xy t=>Xy (ks::t)|_,_=>XV)=_;rw[strL_map,Tw l]
def few(h:DLC.Held α)(w:List α)(m:Nat):Int:=xX ((DLC.cov m h w).map rS)
def Cb(h:DLC.Held α)(w:List α)(m:Nat):List l_:=B9 (((DLC.cov m h w).filter λc=>rS c==few h w m).map qB)
theorem F5:∀(l:List Int)(x:Int),l.foldl min x=x\/l.foldl min x∈l
 |[],x=>.inl rfl
 | y::l,x=>by
  rcases F5 l (min x y) with e|e
  ·rw[show(List.foldl min x (y::l))=l.foldl min (min x y) from rfl,e];rcases Int.le_total x y with g|g
   ·left;lia
   ·right;rw[show min x y=y by lia];exact ar
  ·right;exact ak _ e
def Tv{h:DLC.Held α}{w:List α}{m:Nat}(a:DLC.cov m h w≠[]):∃c∈DLC.cov m h w,rS c=few h w m:=by
 unfold few;cases b:DLC.cov m h w with
 |nil=>exact absurd b a
 | cons c l=>
  rcases F5 (l.map rS) (rS c) with e|e
  ·exact⟨c,ar,e.symm⟩
  ·obtain⟨d,f,q⟩:=ay.mp e;exact⟨d,ak _ f,q⟩
def pC{h:DLC.Held α}{w:List α}{m:Nat}{x:l_}:x∈Cb h w m ↔ ∃c∈DLC.cov m h w,rS c=few h w m/\qB c=x:=by
 unfold Cb;rw[(MS _).mem_iff,ay];constructor
 ·rintro⟨c,d,rfl⟩;obtain⟨a,b⟩:=aA.mp d;exact⟨c,a,by simpa using b,rfl⟩
 ·rintro⟨c,a,b,rfl⟩;exact⟨c,aA.mpr ⟨a,by simpa using b⟩,rfl⟩
def zhE{h:DLC.Held α}{w:List α}{m:Nat}(a:DLC.cov m h w≠[]):Cb h w m≠[]:=by obtain⟨c,b,e⟩:=Tv a;have:=pC.mpr ⟨c,b,e,rfl⟩;intro q;rw[q] at this;cases this
include J in
theorem Yv(z:Sz h w)(u:∀t∈DLC.keys h,t∈oO)(v:DLC.cov 18 h w≠[]):∃m,m<=18/\DLC.Lm h w m/\∀(Pt:Nat)(O:Ow),Pl O->Ke Pt [uF inj h,.lst (w.map inj)] O=.ok (.lst ((Cb h w m).map toT)) O:=by
 obtain⟨m,_,y,l,A,B⟩:=UL J z v 20 0 'd' 'd';refine⟨m,y,⟨z.nd,l,λj C=>A j 'd' C⟩,λPt O n=>?_⟩;show fin (V8 Pt [Xy (uF inj h),qK (w.map inj),XV,XV,XV,Xy (.tab Pt)] O)=_;have p:(DLC.cov m h w).length<=262144:=aH (DLC.cov_pow m h w z.nd) (aH (di 'u' z.few) 'u');have r:∀c∈DLC.cov m h w,∀O,AN [toT c] O=.ok (.int (rS c)) O:=λc a O=>by
  obtain⟨s,e,b⟩:=DLC.cov_sound m z.nd a;exact zig (λt f=>u t (b.1 t f)) 'd' O
 have E:pT Ee (a_ (qp Y1 1 (pY qg) (.one 6) [] [] (j_ 1 AN uM)) f_) (uC inj h w Pt m XV) O=.ok (.int (few h w m)) O:=by
  have g:=xF (o:=Y1) (ext:=1) (i:=6) (it0:=pY qg) (σ:=uC inj h w Pt m XV) (te:=j_ 1 AN uM) (tu rfl) 'd' (λ_=>rfl) (λc a=>qr (pX rfl) (r c a O));refine rX (pX g) ?_;show(match x9 ((DLC.cov m h w).map λc=>D.int (rS c)) with|some ns=>(if ns≠[] then R.ok (D.int (xX ns)) O else .bad)|none=>.bad)=_;have:((DLC.cov m h w).map λc=>D.int (rS c))=((DLC.cov m h w).map rS).map D.int:=by rw[bi];rfl
  rw[this,EC];show(if (DLC.cov m h w).map rS≠[] then R.ok (D.int (xX ((DLC.cov m h w).map rS))) O else .bad)=_;rw[Kk (by intro q;exact l (gX.mp q))];rfl
 have F:pT Fq (a_ (qp Y1 1 (pY qg) (.one 6) [(qd (c_ (pZ rQ) (j_ 1 AN uM) qu))] [] (pT yZ (a_ (pT zT uM) f_))) f_) (uC inj h w Pt m (k_ (few h w m))) O=.ok (.lst ((Cb h w m).map toT)) O:=by
  have g:=u7 (o:=Y1) (ext:=1) (i:=6) (it0:=pY qg) (σ:=uC inj h w Pt m (k_ (few h w m))) (t:=qd (c_ (pZ rQ) (j_ 1 AN uM) qu)) (te:=pT yZ (a_ (pT zT uM) f_)) (tu rfl) 'd' (λ_=>rfl)
   (λc a=>rO ((rN (qr (pX rfl) (r c a O)) rfl).trans (Pr O _ _)))
   (λc a _=>by
    obtain⟨s,e,b⟩:=DLC.cov_sound m z.nd a;have G:pT zT uM (uC inj h w Pt m (k_ (few h w m))++[Xy (toT c)]) O=.ok (.lst ((qB c).map .str)) O:=by
     refine rX (pX rfl) ?_;show(match uY (c.map D.str) with|some ss=>(if ss.Nodup/\ss.length<=1000 then R.ok (D.lst ((qB ss).map .str)) O else .bad)|none=>.bad)=_;rw[strL_map];show(if c.Nodup/\c.length<=1000 then R.ok (D.lst ((qB c).map .str)) O else .bad)=_;rw[Kk ⟨e,by lia⟩]
    exact rX (pX G) rfl)
  refine rX (pX g) ?_;have H:(((DLC.cov m h w).filter λc=>rS c==few h w m).map λc=>toT (qB c))=(((DLC.cov m h w).filter λc=>rS c==few h w m).map qB).map toT:=by rw[bi];rfl
  show(match Ay (((DLC.cov m h w).filter λc=>rS c==few h w m).map λc=>toT (qB c)) with|some rV=>(if (2<=rV.length->(rV.all λd=>!d.isEmpty)=YP)/\rV.length<=4000000 then R.ok (D.lst ((B9 rV).map DL.toT)) O else .bad)|none=>.bad)=_;rw[H,Tw];have I:(((DLC.cov m h w).filter λc=>rS c==few h w m).map qB).length<=4000000:=by
   rw[aq];have:=aQ (λc=>rS c==few h w m) (DLC.cov m h w);lia
  have k:2<=(((DLC.cov m h w).filter λc=>rS c==few h w m).map qB).length->((((DLC.cov m h w).filter λc=>rS c==few h w m).map qB).all λd=>!d.isEmpty)=YP:=by
   intro K;cases w with
   | nil=>
    exfalso;rw[aq] at K;have N:=aQ (λc=>rS c==few h ([]:List α) m) (DLC.cov m h []);have P:(DLC.cov m h ([]:List α)).length=1:=by unfold DLC.cov;rfl
    lia
   | cons x w=>
    rw[al];intro d L;obtain⟨c,a,rfl⟩:=ay.mp L;have a:=(aA.mp a).1;obtain⟨s,e,b⟩:=DLC.cov_sound m z.nd a;obtain⟨t,f,_⟩:=b.2 x ar;have:=(xg _).mpr f;cases M:qB c with
    |nil=>rw[M] at this;cases this
    |cons _ _=>rfl
  show(if _/\_ then R.ok (D.lst ((B9 (((DLC.cov m h w).filter λc=>rS c==few h w m).map qB)).map DL.toT)) O else .bad)=_;rw[Kk ⟨k,I⟩];rfl
 refine tG (rK rfl (rK (RZ J z (m:=0) 'd' n) (vO ?_ (rK E ?_))))
 ·exact B Pt O n
 ·exact rY F
end
def zdW(b:p∈qx f)(c:p∈qL t):AG f t=YP:=by
 unfold AG;have a:p∈(qx f).filter λp=>(qL t).contains p:=aA.mpr ⟨b,by simpa using c⟩;cases e:(qx f).filter λp=>(qL t).contains p with
 |nil=>rw[e] at a;cases a
 |cons _ _=>rfl
def uv(f:List D):List (Nat×Nat):=((qx f).map λp=>(p,p))++sk f
def uG(n:Nat)(f:List D)(w:List (Nat×Nat)):DLC.Held (Nat×Nat):=(gr n f).map λt=>(t,w.filter (hold t))
def RY(O:Ow)(x:Nat×Nat)(l:List (Nat×Nat)){b:Bool}(a:b=YP↔x∈l):uy O (pr x) (.lst (l.map pr))=.ok (.bl b) O/\v_ O (pr x) (.lst (l.map pr))=.ok (.bl !b) O:=Fu O (QA x) (Rt l) (.inl rfl) (a.trans (by
 rw[ay];exact⟨λh=>⟨x,h,rfl⟩,λ⟨y,h,e⟩=>RI e▸h⟩))
def ct{α:Type}[DecidableEq α]{l:List α}{x:α}:l.contains x=YP↔x∈l:=bo
def XD:Inj pr:=⟨λO x l=>(RY O x l ct).1,λO x l=>(RY O x l ct).2⟩
def Et(n:Nat)(f:List D)(w:List (Nat×Nat)):DLC.keys (uG n f w)=gr n f:=by unfold DLC.keys uG;rw[bi];exact jz _
def zgh:(pJ.all λq=>(aV (2 ^ q.1)).all λr=>!Bj q.2 r||(Xg q.1).any λs=>decide (qL s=[q.2,r]))=YP:=by decide +kernel
section
variable{n:Nat}{f:List D}(hf:Fn n f)
include hf
theorem Lw:(gr n f).Nodup:=(LY hf).imp λh e=>by subst e;exact absurd h (ee _)
theorem Cm(w:List (Nat×Nat)):(DLC.keys (uG n f w)).Nodup:=by rw[Et];exact Lw hf
theorem zj0(w:List (Nat×Nat)):(uG n f w).length<=18:=by unfold uG;rw[aq];exact Fw hf
theorem zhA:(uv f).length<=300:=by unfold uv;rw[au,aq];have:=BG hf;have:=FY hf;lia
theorem Uh(c:p∈qx f):uh (f.getD p .non)=Y1:=by obtain⟨b,a⟩:=oX.mp c;rw[BA b] at a ⊢;rcases hf.ans _ (bD b) with e|e|e<;>rw[e] at a ⊢ <;> first|rfl|cases a
theorem zeM(a:s∈s_ n f)(d:p∈qx f)(e:p∈qL s):∃t∈gr n f,∀q∈qL s,q∈qL t:=by obtain⟨w,b,g⟩:=Qo (λt h=>sZ hf.n1 hf.n4 (yG h)) a;have c:∀q∈qL s,q∈qL w:=λq i=>MN hf.n1 hf.n4 (yG a) (yG (o7.mp b).1) g i;exact⟨w,Sy b (zdW d (c p e)),c⟩
theorem Zm(l:x∈uv f):∃t∈gr n f,hold t x=YP:=by
 rcases aM.mp l with h|h
 ·obtain⟨p,m,rfl⟩:=ay.mp h;have:=Sj hf;obtain⟨t,c,o⟩:=bA.mp (al.mp this p m);exact⟨t,c,by unfold hold;simp only[o];rfl⟩
 ·obtain⟨p,q⟩:=x;obtain⟨a,d,u⟩:=dj.mp h;obtain⟨r,v,e⟩:=ay.mp u;cases e;obtain⟨g,w⟩:=aA.mp v;have i:∀{z},z∈qx f->z<2 ^ n:=λ{z}hz=>by have:=(oX.mp hz).1;rw[hf.len] at this;exact this
  have j:=al.mp (al.mp zgh (n,p) (TK hf.n1 hf.n4 (i d))) q (bg.mpr (i g));simp only[w,eS,gM] at j;obtain⟨s,y,b⟩:=bA.mp j;have b:=of_decide_eq_true b;have A:s∈s_ n f:=aA.mpr ⟨y,by
   unfold sN;rw[b];simp only[iP,List.all_nil,iS,Uh hf d,Uh hf g];rfl⟩
  obtain⟨t,c,k⟩:=zeM hf A d (by rw[b];simp);refine⟨t,c,?_⟩;unfold hold;rw[aY,bo,bo];exact⟨k p (by rw[b];simp),k q (by rw[b];simp)⟩
variable{w:List (Nat×Nat)}(hw:∀x∈w,x∈uv f)(Ah:w.length<=300)
theorem IJ(h:t∈gr n f):DLC.at_ (uG n f w) t=w.filter (hold t):=DLC.at_mem (Cm hf w) (ay.mpr ⟨t,h,rfl⟩)
theorem FR(d:∀t∈S,t∈gr n f):DLC.Cov (uG n f w) w S ↔ ∀x∈w,∃t∈S,hold t x=YP:=by
 constructor
 ·rintro⟨_,h⟩ x b;obtain⟨t,a,c⟩:=h x b;rw[IJ hf (d t a)] at c;exact⟨t,a,(aA.mp c).2⟩
 ·intro h;refine⟨λt a=>by rw[Et];exact d t a,λx b=>?_⟩;obtain⟨t,a,c⟩:=h x b;exact⟨t,a,by rw[IJ hf (d t a)];exact aA.mpr ⟨b,c⟩⟩
include hw in
theorem Yc:DLC.cov 18 (uG n f w) w≠[]:=by obtain⟨c,a,_⟩:=DLC.cov_some 18 (Cm hf w) ((FR hf λt b=>b).mpr λx d=>Zm hf (hw x d)) (Fw hf);intro e;rw[e] at a;cases a
include Ah in
theorem XU:Sz (uG n f w) w:=⟨Cm hf w,zj0 hf w,Ah⟩
include Ah in
theorem zjm(O:Ow):y0 1 (pY (j_ 1 Gf qA)) (.one 4) [] [] qu (j_ 2 CA (a_ qu (a_ m_ f_))) [qj f,qK (w.map pr),z,Xy (.tab Pt)] O=.ok (uF pr (uG n f w)) O:=by
 have c:=zbP hf O;rw[U2 hf] at c;have j:=Fw hf;have d:=zeK (ext:=1) (i:=4) (it0:=pY (j_ 1 Gf qA)) (tk:=qN 4) (tv:=j_ 2 CA (a_ qu (a_ m_ f_))) (σ:=[qj f,qK (w.map pr),z,Xy (.tab Pt)]) (tu ((vQ (pX rfl) rfl).trans c)) 'd' (by
  refine iC.mpr ((Lw hf).imp ?_);intro a b h e;exact h (ju e)) (λ_=>rfl) (λ_ _=>rfl) (λ_ _=>rfl) (λt g=>(vQ (qE rfl rfl) rfl).trans (Ss hf.n1 hf.n4 (BD g) 'd'))
 have e:uF pr (uG n f w)=.map ((gr n f).map dI) ((gr n f).map λt=>.lst ((w.filter (hold t)).map pr)):=by
  unfold uF;rw[Et];unfold uG;rw[bi];rfl
 rw[e];exact d
end
structure K2(n:Nat)(f:List D)(w:List (Nat×Nat))(m:Nat)(l:l_):Prop where
 lm:DLC.Lm (uG n f w) w m
 few:l.length=m
 m18:m<=18
 srt:l.Pairwise (· < ·)
 inn:∀t∈l,t∈gr n f
 all:∀x∈w,∃t∈l,hold t x=YP
 use:∀t∈l,∃x∈w,hold t x=YP
 sg:rS l=K88.few (uG n f w) w m
def Rz{α:Type}[DecidableEq α]{h:DLC.Held α}{w:List α}{m:Nat}(z:DLC.Lm h w m)(k:(DLC.keys h).Nodup){c:l_}(d:c∈DLC.cov m h w){t:n_}(f:t∈c):∃x∈w,x∈DLC.at_ h t:=by
 obtain⟨o,p,g⟩:=DLC.cov_sound m k d;refine cx λl=>?_;have a:=z.le ⟨λs b=>g.1 s (List.mem_of_mem_erase b),λx i=>by
  obtain⟨s,b,j⟩:=g.2 x i;have n:s≠t:=λe=>l ⟨x,i,e▸j⟩;exact⟨s,(jg n).mpr b,j⟩⟩
 have:=kX f;rw[il f,z.len d] at a;lia
def MF(h:a.Perm b):rS a=rS b:=by
 unfold rS
 induction h with
 |nil=>rfl
 |cons x _ ih=>simp only[bB,jU,ih]
 |swap x y l=>simp;lia
 |trans _ _ h1 h2=>exact h1.trans h2
def zhl(b:Fn n f)(s:∀x∈w,x∈uv f)(o:w.length<=300):∃m l,K2 n f w m l/\∀(Pt:Nat)(O:Ow),Pl O->Ka Pt [.tup f,.lst (w.map pr)] O=.ok (.tup (l.map .str)) O:=by
 obtain⟨m,i,g,u⟩:=Yv XD (XU b o) (λt a=>by rw[Et] at a;exact uQ b.n1 b.n4 (BD a)) (Yc b s);cases j:Cb (uG n f w) w m with
 |nil=>exact absurd j (zhE g.ne)
 | cons x r=>
  have e:x∈Cb (uG n f w) w m:=by rw[j];exact ar
  obtain⟨c,d,v,rfl⟩:=pC.mp e;obtain⟨A,y,p⟩:=DLC.cov_sound m (Cm b w) d;have k:∀t∈c,t∈gr n f:=λt a=>by have:=p.1 t a;rwa [Et] at this
  have q:=DLC.perm_of_sub y (λt a=>(xg c).mpr a) (Ju c);refine⟨m,qB c,⟨g,by rw[<- q.length_eq];exact g.len d,i,AK c,λt a=>k t ((xg c).mp a),λx e=>?_,λt a=>?_,by rw[<- MF q];exact v⟩,λPt O z=>?_⟩
  ·obtain⟨t,a,h⟩:=(FR b k).mp p x e;exact⟨t,(xg c).mpr a,h⟩
  ·have a:=(xg c).mp a;obtain⟨x,e,h⟩:=Rz g (Cm b w) d a;rw[IJ b (k t a)] at h;exact⟨x,e,(aA.mp h).2⟩
  ·have d:=u Pt O z;rw[j] at d;show fin (V9 Pt [qj f,qK (w.map pr),XV,Xy (.tab Pt)] O)=_;exact tG (rK (zjm b o O) (rY (qy (FG rfl (qE rfl rfl) d) rfl (Mt 'k'))))
structure Fm(n:Nat)(f:List D)(F:l_):Prop where
 srt:F.Pairwise (· < ·)
 tm:∀t∈F,t∈Xg n
 ok:vG f F=YP
 len:F.length<100
section
variable{n:Nat}{f:List D}{F:l_}(hf:Fn n f)(g:Fm n f F)
def Se:∀x∈vj f F,x∈uv f:=λx a=>aC _ (aA.mp a).1
def FE(b:x∈vj f F)(c:t∈F):hold t x=Y1:=by
 have:=(aA.mp b).2;cases e:hold t x with
 |false=>rfl
 | true=>
  have a:t∈F.filter λt=>hold t x:=aA.mpr ⟨c,e⟩;rw[iY.mp this] at a;cases a
def SR(b:x∈sk f)(c:x∉vj f F):∃t∈F,hold t x=YP:=by
 cases e:F.filter λt=>hold t x with
 |nil=>exact absurd (aA.mpr ⟨b,by rw[e];rfl⟩) c
 | cons t r=>
  have a:t∈F.filter λt=>hold t x:=by rw[e];exact ar
  exact⟨t,(aA.mp a).1,(aA.mp a).2⟩
include hf in
theorem zic:(vj f F).length<=300:=by have:=FY hf;have:=aQ (λq=>(F.filter λt=>hold t q).isEmpty) (sk f);unfold vj;lia
include hf g
theorem zeQ(O:Ow):CJ [.tup f,.tup (F.map .str)] O=.ok (.bl YP) O:=by rw[TJ hf g.tm (by have:=g.len;lia) O ((M3 hf.n1 hf.n4 (Jz hf.n1 hf.n4 g.tm) (by rw[aq];have:=g.len;lia) O).trans (by rw[Jm hf.n1 hf.n4 g.tm g.srt])),g.ok]
theorem zdR:∃m l,K2 n f (vj f F) m l/\∀(Pt:Nat)(O:Ow),Pl O->Jv Pt [.tup f,.tup (F.map .str)] O=.ok (.tup (l.map .str)) O:=by
 obtain⟨m,l,h,b⟩:=zhl hf Se (zic hf);refine⟨m,l,h,λPt O c=>?_⟩;have d:Nc [.tup f,.tup (F.map .str)] O=.ok .non O:=by
  have a:=zdo hf g.tm (by have:=g.len;lia) O ((z7O (Jz hf.n1 hf.n4 g.tm) (by rw[aq];have:=g.len;lia) O).trans (by rw[Jm hf.n1 hf.n4 g.tm g.srt]));rw[g.ok] at a;show fin (JT [qj f,qj (F.map .str)] O)=_;unfold JT;rw[tI (vg (sF (qr (qE rfl rfl) a)))];rfl
 show fin (Ud Pt [qj f,qj (F.map .str),Xy (.tab Pt)] O)=_;exact tG (Ms (qr (qE rfl rfl) d) (rY (FG rfl (qE rfl (qr (qE rfl rfl) (zib hf g.tm (by have:=g.len;lia) O))) (b Pt O c))))
variable{m:Nat}{l:l_}(h:K2 n f (vj f F) m l)
include h
omit g in
theorem P8:∀t∈l,t∈Xg n:=λt a=>BD (h.inn t a)
omit g in
theorem Ls(b:t∈l):t∉F:=λc=>by
 obtain⟨x,d,a⟩:=h.use t b;rw[FE d c] at a;cases a
theorem o4(j:F.length<=60):Fm n f (qB (F++l)):=by
 have a:∀t,t∈qB (F++l)↔t∈F\/t∈l:=λt=>(xg _).trans aM;have k:=h.few;have:=h.m18;have:=g.ok;obtain⟨b,c⟩:=eM.mp this;refine⟨AK _,λt d=>?_,?_,?_⟩
 ·rcases (a t).mp d with q|q
  ·exact g.tm t q
  ·exact P8 hf h t q
 ·unfold vG A0;rw[aY,al,al];refine⟨λt q=>?_,λp e=>?_⟩
  ·rcases (a t).mp q with q|q
   ·exact al.mp b t q
   ·exact(aA.mp (aA.mp (h.inn t q)).1).2
  ·obtain⟨t,q,i⟩:=bA.mp (al.mp c p e);exact bA.mpr ⟨t,(a t).mpr (.inl q),i⟩
 ·have:=Ju (F++l);rw[au] at this;lia
theorem zhY(c:F.length<=60)(d:uZ O):JO [.tup f,.tup ((qB (F++l)).map .str)] O=.ok (.lst []) O:=by
 have w:=o4 hf g h c;rw[z93 hf w.tm (by have:=w.len;lia) d];have:vj f (qB (F++l))=[]:=by
  refine List.eq_nil_iff_forall_not_mem.mpr λx b=>?_;have i:=(aA.mp b).1;by_cases e:x∈vj f F
  ·obtain⟨t,q,a⟩:=h.all x e;rw[FE b ((xg _).mpr (aC _ q))] at a;cases a
  ·obtain⟨t,q,a⟩:=SR i e;rw[FE b ((xg _).mpr (bt _ q))] at a;cases a
 rw[this];rfl
end
def zkG(a b:Nat):iM (a:Int) (b:Int)=((a ||| b:Nat):Int):=by
 have c:decide ((0:Int) <= -(a:Int)-1)=Y1:=decide_eq_false 'd';have d:decide ((0:Int) <= -(b:Int)-1)=Y1:=decide_eq_false 'd';show -(match decide ((0:Int) <= -(a:Int)-1),decide ((0:Int) <= -(b:Int)-1) with|true,YP=>_|true,Y1=>_|false,YP=>_|false,Y1=>-((((-(-(a:Int)-1)-1).toNat ||| (-(-(b:Int)-1)-1).toNat:Nat)):Int)-1)-1=_;rw[c,d];have e:(-(-(a:Int)-1)-1).toNat=a:=by lia
 have f:(-(-(b:Int)-1)-1).toNat=b:=by lia
 rw[e,f];show -(-((a ||| b:Nat):Int)-1)-1=_;lia
def Wv(O:Ow)(a b:Nat):fI HF O (.int (a:Nat)) (.int (b:Nat))=.ok (.int ((a ||| b:Nat))) O:=by show R.ok (D.int (iM (a:Int) (b:Int))) O=_;rw[zkG]
def Lc(O:Ow)(h:n<=1000000):fI xC O (.int 1) (.int (n:Nat))=.ok (.int ((2 ^ n:Nat))) O:=by show(match xC 1 (n:Nat) with|some d=>R.ok d O|none=>.bad)=_;unfold xC;rw[Kk ⟨by lia,by lia,by decide⟩];simp
def tx(f:List D)(t:n_):Nat:=DLB.mkN (λi=>hold t ((uv f).getD i (0,0))) (uv f).length
def YI(a:i<(qx f).length):(uv f).getD i (0,0)=((qx f)[i],(qx f)[i]):=by unfold uv;rw[aD,aK (by rw[aq];exact a),bd,am a];rfl
def X8(a:j<(sk f).length):(uv f).getD ((qx f).length+j) (0,0)=(sk f)[j]:=by unfold uv;rw[aD,aS (by rw[aq];lia),aq,bM,am a];rfl
def Ta(f:List D):(uv f).length=(qx f).length+(sk f).length:=by unfold uv;rw[au,aq]
def MC(O:Ow)(l:n_):qJ O [.lst (rL l)]=.ok (.int (l.length:Nat)) O:=(Mf rfl).trans (by unfold rL;rw[aq])
def FO{α:Type}(O:Ow)(g:α->D)(l:List α):qJ O [.lst (l.map g)]=.ok (.int (l.length:Nat)) O:=(Mf rfl).trans (by rw[aq])
def FH{α:Type}(O:Ow)(g:α->D)(l:List α)(h:i<l.length):qw O (.lst (l.map g)) (.int (i:Nat))=.ok (g l[i]) O:=(Mt (by rw[aq];exact h)).trans (by rw[iX])
def Tn(d:Fn n f)(r:t∈Xg n)(O:Ow):Gp [.lst (rL (qx f)),.lst ((sk f).map pr),.str t] O=.ok (.int (tx f t:Nat)) O:=by
 have M:=BG d;have s:=FY d;let P:Option D:=qK (rL (qx f));let T:Option D:=qK ((sk f).map pr);let S:Option D:=rT t;let q:Nat->Bool:=λi=>hold t ((uv f).getD i (0,0));have k:=uQ d.n1 d.n4 r;have l:∀{z},z∈qx f->z<2 ^ t.length:=λ{z}hz=>by rw[sZ d.n1 d.n4 r,<- d.len];exact(oX.mp hz).1
 have A:=u7 (o:=Y1) (ext:=0) (i:=4) (it0:=tM (a_ (pT qJ qA) f_)) (t:=qH (j_ 2 vW (a_ pV (a_ (c_ qw pS qu) f_)))) (te:=c_ (fI xC) rz qu) (σ:=[P,T,S,XV,XV]) (p:=q) (zc (pX (rX (pX rfl) (MC O _))) 'd') (by rw[ci];lia) (λ_=>rfl) (λi c=>by
   have c:=bg.mp c;have e:(qL t).contains (qx f)[i]=q i:=by
    show _=hold t ((uv f).getD i (0,0));rw[YI c];unfold hold;rw[om]
   rw[<- e];exact sF (qr (qE rfl (qy rfl rfl (FH O _ _ c))) (CF k (l (bD c)) O))) (λi c _=>by
   have c:=bg.mp c;exact qy rfl rfl (Lc O 'd'))
 have B:pT B8 (a_ (qp Y1 0 (tM (a_ (pT qJ qA) f_)) (.one 4) [(qH (j_ 2 vW (a_ pV (a_ (c_ qw pS qu) f_))))] [] (c_ (fI xC) rz qu)) f_) [P,T,S,XV,XV] O=.ok (.int ((DLB.mkN q (qx f).length:Nat))) O:=by
  refine rX (pX A) ?_;show(match x9 (((aV (qx f).length).filter q).map λi=>D.int ((2 ^ i:Nat):Int)) with|some ns=>R.ok (D.int ns.sum) O|none=>.bad)=_;have:(((aV (qx f).length).filter q).map λi=>D.int ((2 ^ i:Nat):Int))=(((aV (qx f).length).filter q).map λi=>((2 ^ i:Nat):Int)).map D.int:=by rw[bi];rfl
  rw[this,EC];show R.ok (D.int _) O=_;rw[DLB.sum_mkN]
 obtain⟨m,b,u,⟨y,rfl⟩,C⟩:=ya (i:=4) (it:=tM (a_ (pT qJ (a_ m_ f_)) f_)) (zc (pX (rX (pX rfl) (FO O pr (sk f)))) 'd')
  (λj σ b=>(∃y,σ=[P,T,S,k_ ((DLB.mkN q ((qx f).length+j):Nat)),y])/\b=O) (λj a σ b E F=>by
   obtain⟨⟨y,rfl⟩,rfl⟩:=F;obtain⟨g,e⟩:=ao.mp E;rw[io] at e;subst e;have g:j<(sk f).length:=by rwa [ci] at g
   have v:=SY (bD g);have w:=FH b pr (sk f) g;generalize G:(sk f)[j]=x at *;have H:vw (qH (j_ 2 vW (a_ pV (a_ (c_ qw (c_ qw m_ qu) rJ) f_)))) (qH (j_ 2 vW (a_ pV (a_ (c_ qw (c_ qw m_ qu) rz) f_)))) [P,T,S,k_ ((DLB.mkN q ((qx f).length+j):Nat)),k_ (j:Nat)] b=.ok (hold t x) b:=
    F6 (sF (qr (qE rfl (qy (qy rfl rfl w) rfl rfl)) (CF k (l v.1) b))) (λ_=>sF (qr (qE rfl (qy (qy rfl rfl w) rfl rfl)) (CF k (l v.2) b)))
   have I:q ((qx f).length+j)=hold t x:=by
    show hold t ((uv f).getD _ (0,0))=_;rw[X8 g,G]
   have J:DLB.mkN q ((qx f).length+(j+1))=DLB.mkN q ((qx f).length+j)+(if hold t x=YP then 2 ^ ((qx f).length+j) else 0):=by
    rw[<- I];rfl
   show ∃m K,Lk [P,T,S,k_ ((DLB.mkN q ((qx f).length+j):Nat)),k_ (j:Nat)] b=_/\_;unfold Lk;rw[tI H,J];by_cases h:hold t x=YP
   ·rw[Kk h,Kk h];have L:c_ rC (pT qJ qA) qu [P,T,S,k_ ((DLB.mkN q ((qx f).length+j):Nat)),k_ (j:Nat)] b=.ok (.int (((qx f).length+j:Nat))) b:=qy (rX (pX rfl) (MC b _)) rfl BF;exact⟨_,_,yF (qy rfl (qy rfl L (Lc b 'd')) BF),⟨k_ (j:Nat),rfl⟩,rfl⟩
   ·rw[Ko h,Ko h];exact⟨_,_,rfl,⟨_,rfl⟩,rfl⟩) ⟨⟨XV,rfl⟩,rfl⟩
 rw[ci,<- Ta,C] at u;show fin (V_ [P,T,S,XV,XV] O)=_;refine tG (rK B (vO u (rY ?_)));rfl
def sD(r:n_):D:=.tup (rL r)
def zjG(O:Ow)(r:n_)(z:Nat):qw O (sD (r++[z])) (.int (-1))=.ok (.int (z:Nat)) O:=by
 have a:(rL (r++[z])).length=r.length+1:=by unfold rL;rw[aq,au];rfl
 have e:L2.atI (rL (r++[z])) (-1)=k_ (z:Nat):=by
  unfold L2.atI L2.ixN;rw[a,Ko 'u',Kk 'd'];show(rL (r++[z]))[_]?=_;have:((-1:Int)+((r.length+1:Nat):Int)).toNat=r.length:=by lia
  rw[this];unfold rL;rw[br,aS (by rw[aq];exact aE _),aq,gA];rfl
 show(match L2.atI (rL (r++[z])) (-1) with|some d=>R.ok d O|none=>.bad)=_;rw[e]
def zhw(O:Ow)(r:n_):pZ rF O (sD r) (.tup [])=.ok (.bl (!r.isEmpty)) O:=by
 refine(Fv O (x:=sD r) (FX 7 r) rfl ?_).2;cases r with
 |nil=>exact⟨λ_=>rfl,λ_=>rfl⟩
 |cons x l=>exact⟨λh=>(by cases h),λh=>(by cases h)⟩
def zhT(O:Ow)(k:Nat)(h:r.length<=1000):w_ O (sD r) (.tup [.int (k:Nat)])=.ok (sD (r++[k])) O:=by
 cases r with
 |nil=>rfl
 | cons x l=>
  show(if rL (x::l)≠[]/\(rL (x::l)).length+[D.int (k:Nat)].length<=4000000 then R.ok (D.tup (rL (x::l)++[.int (k:Nat)])) O else .bad)=_;rw[Kk ⟨by unfold rL;simp,by unfold rL;rw[aq];simp at *;lia⟩];unfold sD rL;rw[br];rfl
def zg9(g:many<=1000)(a:r.length<=1000)(h:DLB.nxt r<=many)(b:O[k]?=Xy Xo)(c:Xo.length+(DLB.ext many r).length<=4000000):
  Fs [k_ (many:Nat),x1,x2,x3,qI k,Xy (sD r),x6] O=.nx [k_ (many:Nat),x1,x2,x3,qI k,Xy (sD r),k_ ((DLB.nxt r:Nat))] (O.set k (Xo++(DLB.ext many r).map sD)):=by
 have d:qQ (qd (c_ (pZ rF) sM (vp f_))) (p_ 6 (c_ w_ (c_ qw sM (Ie rz)) rz)) qS [k_ (many:Nat),x1,x2,x3,qI k,Xy (sD r),k_ 0] O=.nx [k_ (many:Nat),x1,x2,x3,qI k,Xy (sD r),k_ ((DLB.nxt r:Nat))] O:=by
  rw[tI (rO (qy rfl rfl (zhw O r)))];rcases fD r with rfl|⟨e,z,rfl⟩
  ·rfl
  ·rw[fE,Kk 'k',DLB.nxt_app];refine(yF (qy (qy rfl rfl (zjG O e z)) rfl (rfl))).trans ?_;rfl
 refine rK rfl (vO d ?_);have f:qp Y1 1 (IG (a_ xW qA)) (.one 7) [] [] (c_ w_ sM (vp Cc)) [k_ (many:Nat),x1,x2,x3,qI k,Xy (sD r),k_ ((DLB.nxt r:Nat))] O=.ok (.lst ((DLB.ext many r).map sD)) O:=by
  refine(xF (l:=aV (many-DLB.nxt r)) (τ:=λ(i:Nat)=>[k_ (many:Nat),x1,x2,x3,qI k,Xy (sD r),k_ ((DLB.nxt r:Nat)),k_ ((DLB.nxt r+i:Nat):Int)]) ?_ (by rw[ci];lia) (λ_=>rfl) (λi _=>qy rfl (Cs (pX rfl) (by show 1<=4000000;decide)) (zhT O _ a))).trans ?_
  ·show(if _ then R.ok (FK ((DLB.nxt r:Nat):Int) (many:Nat)) O else .bad)=_;rw[Kk ⟨by lia,by lia,by lia,by lia⟩];unfold FK;have:(((many:Nat):Int)-((DLB.nxt r:Nat):Int)).toNat=many-DLB.nxt r:=by lia
   rw[this];congr 3
  ·unfold DLB.ext;rw[bi];rfl
 exact Uw rfl f rfl b (by rw[aq];exact c)
def zhU(d:s<=1000)(h:r∈DLB.pks many s):r.length<=1000/\DLB.nxt r<=many:=by
 obtain⟨a,b,c⟩:=DLB.mem_pks.mp h;refine⟨by lia,?_⟩;rcases fD r with rfl|⟨e,z,rfl⟩
 ·exact bI _
 ·rw[fE] at c ⊢;rw[DLB.nxt_app];exact c z 'k'
def TL(n:Nat)(r:n_):vt n (sD r)=YP:=al.mpr λd a=>by
 obtain⟨x,_,rfl⟩:=ay.mp a;rfl
def zg7(G:many<=18)(R:s<=100)(H:uZ O):JW [.int (many:Nat),.int (s:Nat)] O=.ok (.lst ((DLB.pks many s).map sD)) O:=by
 have u:∀i,(DLB.pks many i).length<=262144:=λi=>aH (DLB.pks_few many i) (aH (di 'u' G) 'u');let N:Option D:=k_ (many:Nat);let B:Option D:=k_ (s:Nat);let E:Ow->D->List D->Prop:=λX d m=>d=.lst m \/ ∃k,d=.own (O.length+k)/\X[k]?=Xy m;have v:∀{X d m},E X d m->r9 (O++X) d=Xy m:=λ{X d m}h=>by
  rcases h with rfl|⟨k,rfl,h⟩
  ·rfl
  ·show(O++X)[O.length+k]?=_;rw[aS 'd',bM];exact h
 show uB O.length (fin (Nd [N,B,XV,XV,XV,XV,XV] O))=_;unfold Nd;rw[tj (σ':=[N,B,Xy (.lst [sD []]),XV,XV,XV,XV]) (O1:=O) (by rfl)];obtain⟨σ',f,p,d,w,y,e,b,X,rfl,rfl,c⟩:=ya (i:=3) (O:=O) (body:=(o_ (p_ 4 yV) (o_ (sJ (pY pV) (.one 5) Fs) (p_ 2 qu))))
  (zc (σ:=[N,B,Xy (.lst [sD []]),XV,XV,XV,XV]) (O:=O) (pX (t:=qN 1) rfl) 'd') (λi σ f=>∃d w y e b X,σ=[N,B,Xy d,w,y,e,b]/\f=O++X/\E X d ((DLB.pks many i).map sD)) (λi a σ f I n=>by
   obtain⟨d,w,y,e,b,X,rfl,rfl,c⟩:=n;have S:i<s:=by
    have:=(ao.mp I).1;simpa using this
   rw[tj (σ':=[N,B,Xy d,k_ a,Xy (.own (O++X).length),e,b]) (by rfl)];obtain⟨J,z,T,K⟩:=CB (Eu (X:=[[]]) (v c));obtain⟨σ',f,p,L,M,rfl,rfl⟩:=SS (α:=n_) (g:=.one 5) (l:=DLB.pks many i) (inj:=sD) (body:=Fs)
    (LL (t:=qN 2) rfl z) (by rw[K];simp)
    (λj σ f=>∃e b,σ=[N,B,Xy d,k_ a,Xy (.own (O++X).length),e,b]/\f=O++X++[(((DLB.pks many i).take j).flatMap (DLB.ext many)).map sD]) (λj t σ f r n=>by
     obtain⟨e,b,rfl,rfl⟩:=n;obtain⟨P,o,A,Q⟩:=CB (Eu (v c));rw[z] at o;cases o;have F:=zhU 'd' (aF r);have C:=V1 (g:=DLB.ext many) (DLB.pks many i) (j+1);have U:((DLB.pks many i).flatMap (DLB.ext many)).length<=262144:=u (i+1);rw[Ez r,au] at C;refine⟨by rw[A,bd,r];rfl,[N,B,Xy d,k_ a,Xy (.own (O++X).length),Xy (sD t),b],_,_,rfl,zg9 'd' F.1 F.2 xI (by rw[aq];lia),_,_,rfl,?_⟩;rw[BI,<- br,Ez r]) (λσ f n=>by
     obtain⟨e,b,rfl,rfl⟩:=n;obtain⟨P,o,A,Q⟩:=CB (Eu (v c));rw[z] at o;cases o;rw[A];simp) ⟨e,b,rfl,by simp⟩
   rw[tj p];refine⟨_,_,rfl,.own (O++X).length,_,_,_,_,X++[(((DLB.pks many i).take (DLB.pks many i).length).flatMap (DLB.ext many)).map sD],rfl,by simp,.inr ⟨X.length,by simp,?_⟩⟩;rw[xI,cF];rfl) ⟨_,_,_,_,_,[],rfl,by simp,.inl rfl⟩
 unfold Fs at p;rw[tj p,rY (x:=d) rfl];rw[ci] at c;refine JA H X ?_;rcases c with rfl|⟨k,rfl,h⟩
 ·show(qv (frz (O++X) O.length 7) ((DLB.pks many s).map sD)).map D.lst=_;rw[vC λd c=>by obtain⟨q,_,rfl⟩:=ay.mp c;exact AM (TL _ _)];rfl
 ·unfold frz;dsimp only;rw[Ko 'd',aS 'd',bM,h];dsimp only;rw[vC λd c=>by obtain⟨q,_,rfl⟩:=ay.mp c;exact AM (TL _ _)];rfl
def zi3{α:Type}{it:DI}{i:Nat}{body:DS}{σ:Sg}{O0 O:Ow}{l:List α}{inj:α->D}{d:D}{k:Nat}(J:Ow->Prop)(q:it σ O0=.ok (.val (l.map inj)) O)(v:k<l.length)(I:Nat->Sg->Ow->Prop)(h:∀(j:Nat)a σ O,j<k->l[j]?=Xy a->I j σ O->∃σ' b,body (σ.set i (Xy (inj a))) O=.nx σ' b/\I (j+1) σ' b)(r:∀a σ O,l[k]?=Xy a->I k σ O->∃b,body (σ.set i (Xy (inj a))) O=.rt d b/\J b)(s:I 0 σ O):
  ∃b,sJ it (.one i) body σ O0=.rt d b/\J b:=by
 have c:∀(f j:Nat)(σ:Sg)(O:Ow),I j σ O->j<=k->l.length<=j+f->∃b,ud (.val (l.map inj)) (λd σ O=>match Tg.put (.one i) d σ with|some σ'=>body σ' O|none=>.bad) f j σ O=.rt d b/\J b:=by
  intro f
  induction f with
  |zero=>intro j σ O _ t u;lia
  | succ f ih=>
   intro j σ O p t u;have n:j<l.length:=by lia
   have e:(Src.val (l.map inj)).get O j=Xy (inj l[j]):=by
    show(l.map inj)[j]?=_;rw[bd,am n];rfl
   unfold ud;rw[e];dsimp only;rw[show(Tg.one i).put (inj l[j]) σ=Xy (σ.set i (Xy (inj l[j]))) from rfl];dsimp only;by_cases o:j=k
   ·subst o;obtain⟨b,g,m⟩:=r l[j] σ O (am n) p;rw[g];exact⟨b,rfl,m⟩
   ·obtain⟨σ',b,g,m⟩:=h j l[j] σ O 'd' (am n) p;rw[g];exact ih (j+1) σ' b m 'd' 'd'
 obtain⟨b,g,m⟩:=c (l.map inj).length 0 σ O s (bI _) 'k';refine⟨b,?_,m⟩;show((it σ O0).bnS _)=_;rw[q];exact g
def YL(h:t σ O=.ok (.tup [x,y]) O1):Fe (.two i j) t σ O=.nx ((σ.set i (Xy x)).set j (Xy y)) O1:=by show((t σ O).bnS _)=_;rw[h];rfl
def zhN(O:Ow)(x:Option D):(oO.map λcs=>Wj [x,rT cs] O)=oO.map λcs=>R.ok (D.int (Ae cs)) O:=by kernel_rfl
def Ra(a:pY pS [Xy x] O=.ok (.val (l.map D.str)) O)(d:l.length<=1000)(b:∀t∈l,t∈oO):JU [x] O=.ok (.int (rS l)) O:=by
 have c:=xF (o:=Y1) (ext:=1) (i:=1) a 'd' (λ_=>rfl) (λt h=>cA.mp (zhN O (Xy x)) t (b t h));show fin (Ng [Xy x] O)=_;refine Ct (rX (pX c) ?_);show(match x9 (l.map λt=>D.int (Ae t)) with|some ns=>R.ok (D.int ns.sum) O|none=>.bad)=_;have:(l.map λt=>D.int (Ae t))=(l.map Ae).map D.int:=by rw[bi];rfl
 rw[this,EC];rfl
def sub(S:l_)(r:n_):l_:=r.map λk=>S.getD k []
def yz(f:List D)(F S:l_)(r:n_):Bool:=DLB.orM (tx f) (F++sub S r)==2 ^ (uv f).length-1
def Uc{l:List (Nat×Nat)}{i:Nat}(h:i<l.length):l.getD i (0,0)=l[i]:=by rw[aD,am h];rfl
def pO{f:List D}{F S:l_}{r:n_}:yz f F S r=YP ↔ ∀x∈uv f,∃t∈F++sub S r,hold t x=YP:=by
 unfold yz;rw[beq_iff_eq];refine(DLB.full_iff (F++sub S r)).trans ?_;constructor
 ·intro h x c;obtain⟨i,a,rfl⟩:=dM.mp c;obtain⟨t,b,q⟩:=h i a;rw[Uc a] at q;exact⟨t,b,q⟩
 ·intro h i a;obtain⟨t,b,q⟩:=h _ (bD a);exact⟨t,b,by rw[Uc a];exact q⟩
section
variable{n:Nat}{f:List D}(hf:Fn n f){F S:l_}(hS:∀t∈S,t∈Xg n)(Al:S.length<=18)
def stK(f:List D)(F S:l_)(y6:Option D)(j:Nat)(y9 BM AS zm:Option D):Sg:=[qj f,qj (F.map .str),qK (S.map .str),qK (rL (qx f)),qK ((sk f).map pr),k_ ((DLB.orM (tx f) F:Nat)),y6,qK (S.map λt=>D.int (tx f t:Nat)),k_ (j:Nat),y9,BM,AS,zm]
include hf hS Al in
theorem zhR(d:∀q∈r,q<S.length)(h:r.length<=1000)(p:O[k]?=Xy Xo)(s:Xo.length<4000000):
  ∃u a,Qi (stK f F S y6 j (qI k) (Xy (sD r)) AS zm) O=.nx (stK f F S y6 j (qI k) (Xy (sD r)) u a) (if yz f F S r=YP then O.set k (Xo++[.int (rS (sub S r))]) else O):=by
 obtain⟨v,c,l,⟨a,rfl⟩,w⟩:=ya (i:=12) (it:=pY yW) (body:=Q0) (σ:=stK f F S y6 j (qI k) (Xy (sD r)) (k_ ((DLB.orM (tx f) F:Nat))) zm) (xb rfl)
  (λi σ c=>(∃a,σ=stK f F S y6 j (qI k) (Xy (sD r)) (k_ ((DLB.orM (tx f) (F++sub S (r.take i)):Nat))) a)/\c=O) (λi q σ c b x=>by
   obtain⟨⟨a,rfl⟩,rfl⟩:=x;have m:=d q (aF b);have y:c_ qw (qN 7) (qN 12) (stK f F S y6 j (qI k) (Xy (sD r)) (k_ ((DLB.orM (tx f) (F++sub S (r.take i)):Nat))) (k_ (q:Nat))) c=.ok (.int ((tx f S[q]:Nat))) c:=qy rfl rfl (FH c _ S m);have z:DLB.orM (tx f) (F++sub S (r.take (i+1)))=DLB.orM (tx f) (F++sub S (r.take i)) ||| tx f S[q]:=by
    rw[<- DLB.orM_app];unfold sub;rw[eJ,b,br,<- aX];show DLB.orM (tx f) (_++[S.getD q []])=_;rw[aD,am m];rfl
   refine⟨_,_,yF (qy rfl y (Wv c _ _)),⟨k_ (q:Nat),?_⟩,rfl⟩;rw[<- z];rfl) ⟨⟨zm,by simp[sub]⟩,rfl⟩
 rw[cF,w] at l;have A:c_ rC (pT qJ (a_ qg f_)) (pT qJ (a_ qu f_)) (stK f F S y6 j (qI k) (Xy (sD r)) (k_ ((DLB.orM (tx f) (F++sub S r):Nat))) a) O=.ok (.int ((uv f).length:Nat)) O:=by
  rw[Ta];exact qy (rX (pX rfl) (MC O _)) (rX (pX rfl) (FO O pr (sk f))) BF
 have E:=zhA hf;have B:QC (stK f F S y6 j (qI k) (Xy (sD r)) (k_ ((DLB.orM (tx f) (F++sub S r):Nat))) a) O=.ok (yz f F S r) O:=by
  refine rO (qy rfl (qy (qy rfl A (Lc O 'd')) rfl rfl) ((Pr O _ _).trans ?_));have:(((DLB.orM (tx f) (F++sub S r):Nat):Int)==((2 ^ (uv f).length:Nat):Int)-1)=yz f F S r:=by
   unfold yz;have G:=jF (n:=(uv f).length);rw[cR,beq_iff_eq,beq_iff_eq];lia
  rw[this]
 refine⟨k_ ((DLB.orM (tx f) (F++sub S r):Nat)),a,?_⟩;refine rK rfl (vO l ?_);rw[tI B];by_cases g:yz f F S r=YP
 ·rw[Kk g,Kk g];have C:Wm (stK f F S y6 j (qI k) (Xy (sD r)) (k_ ((DLB.orM (tx f) (F++sub S r):Nat))) a) O=.ok (.int (rS (sub S r))) O:=by
   refine qr (pX (xF (e:=λq=>D.str (S.getD q [])) (xb rfl) 'd' (λ_=>rfl) (λq b=>qy rfl rfl ((FH O D.str S (d q b)).trans (by rw[aD,am (d q b)];rfl))))) ?_;refine Ra ?_ (by unfold sub;rw[aq];exact h) (λt o=>?_)
   ·refine tu ?_;unfold sub;rw[bi];rfl
   ·unfold sub at o;obtain⟨q,b,rfl⟩:=ay.mp o;rw[aD,am (d q b)];exact uQ hf.n1 hf.n4 (hS _ (bD (d q b)))
  exact Ep rfl C p s
 ·rw[Ko g,Ko g];rfl
end
def uV(f:List D)(F S:l_)(j:Nat):List Int:=((DLB.pks S.length j).filter (yz f F S)).map λr=>rS (sub S r)
def zgm(h:O[k]?=Xy ds):q0 O 8 (.own k)=q0 O 8 (.lst ds):=by show(match O[k]? with|some ds=>(qv (q0 O 7) ds).map ef|none=>XV)=_;rw[h];rfl
def zjC{O:Ow}{k:Nat}{l:List Int}(h:O[k]?=Xy (l.map D.int)):pZ rF O (.own k) (.lst [])=.ok (.bl (!l.isEmpty)) O:=by
 have e:pZ rF O (.own k) (.lst [])=pZ rF O (.lst (l.map D.int)) (.lst []):=by
  unfold pZ py;rw[zgm h]
 rw[e];refine(zZ O (al.mpr λd a=>?_) rfl ?_).2
 ·obtain⟨x,_,rfl⟩:=ay.mp a;rfl
 ·cases l with
  |nil=>exact⟨λ_=>rfl,λ_=>rfl⟩
  |cons x l=>exact⟨λh=>(by cases h),λh=>(by cases h)⟩
def At.ints(h:At O)(l:List Int):At (O++[l.map D.int]):=λc b d a=>by
 rcases aM.mp b with q|q
 ·exact h c q d a
 ·have:c=l.map D.int:=⇑q
  subst this;obtain⟨x,_,rfl⟩:=ay.mp a;rfl
section
variable{n:Nat}{f:List D}(hf:Fn n f){F S:l_}(hF:∀t∈F,t∈Xg n)(hS:∀t∈S,t∈Xg n)(hFl:F.length<=100)(Al:S.length<=18)
include hf hS Al in
theorem SK{e u h k l:Option D}{j:Nat}(v:j<=100){O:Ow}(w:At O):
  ∃x a b c,PY (stK f F S e j u h k l) O=(if uV f F S j≠[] then .rt (.tup [.int (j:Nat),.int (xX (uV f F S j))]) (O++[(uV f F S j).map D.int]) else .nx (stK f F S e j x a b c) (O++[(uV f F S j).map D.int])):=by
 have y:(DLB.pks S.length j).length<=262144:=aH (DLB.pks_few S.length j) (aH (di 'u' Al) 'u');obtain⟨z,g,m,a,b,c,rfl,rfl⟩:=ya (i:=10) (it:=pY (j_ 2 JW (a_ (pT qJ (a_ pV f_)) (a_ (qN 8) f_)))) (tu (qr (qE (rX (pX rfl) (FO _ D.str S)) rfl) (zg7 Al v (w.ints []).flat)))
  (λi o g=>∃a b c,o=stK f F S e j (qI O.length) a b c/\g=O++[((((DLB.pks S.length j).take i).filter (yz f F S)).map λr=>rS (sub S r)).map D.int]) (λi r o g p A=>by
   obtain⟨a,b,c,rfl,rfl⟩:=A;obtain⟨I,J,B⟩:=DLB.mem_pks.mp (aF p);have K:=aQ (yz f F S) ((DLB.pks S.length j).take i);have L:=eN i (DLB.pks S.length j);obtain⟨C,E,q⟩:=zhR hf hS Al (O:=O++[((((DLB.pks S.length j).take i).filter (yz f F S)).map λr=>rS (sub S r)).map D.int]) B 'd' xI (by rw[aq,aq];lia);refine⟨_,_,q,_,_,_,rfl,?_⟩;rw[JP _ p];split
   ·rw[BI,br,br];rfl
   ·rw[bw]) ⟨h,k,l,rfl,by simp⟩
 rw[cF] at m;refine⟨qI O.length,a,b,c,?_⟩;refine rK rfl (vO m ?_);have s:(O++[(uV f F S j).map D.int])[O.length]?=Xy ((uV f F S j).map D.int):=xI;rw[tI (rO (qy rfl rfl (zjC s)))];by_cases d:uV f F S j=[]
 ·rw[Ko (by rw[d];simp),Ko (by rw[d];simp)];rfl
 ·have G:(!(uV f F S j).isEmpty)=YP:=by
   cases H:uV f F S j with
   |nil=>exact absurd H d
   |cons _ _=>rfl
  rw[Kk G,Kk d];refine rY (Cs (qE rfl (rX (pX rfl) ?_)) (by show 2<=4000000;decide));show(match (O++[(uV f F S j).map D.int])[O.length]? with|some ds=>(match x9 ds with|some ns=>if ns≠[] then R.ok (D.int (xX ns)) _ else .bad|none=>.bad)|none=>.bad)=_;rw[s];dsimp only;rw[EC];dsimp only;rw[Kk d]
include hf hF hS hFl Al in
theorem zii(hs:s<=S.length)(J:∀j,j<s->uV f F S j=[])(K:uV f F S s≠[])(o:At O):Kh [.tup f,.tup (F.map .str),.lst (S.map .str)] O=.ok (.tup [.int (s:Nat),.int (xX (uV f F S s))]) O:=by
 let A:Option D:=qj f;let G:Option D:=qj (F.map .str);let C:Option D:=qK (S.map .str);let P:Option D:=qK (rL (qx f));let T:Option D:=qK ((sk f).map pr);have L:Fe (.two 3 4) (vp (a_ (j_ 1 zl qA) (a_ (j_ 1 ED qA) f_))) [A,G,C,XV,XV,XV,XV,XV,XV,XV,XV,XV,XV] O=.nx [A,G,C,P,T,XV,XV,XV,XV,XV,XV,XV,XV] O:=
  (YL (Cs (qE (qr (pX rfl) (FZ hf O)) (qr (pX rfl) (V2 hf o.flat))) (by show 2<=4000000;decide))).trans rfl
 obtain⟨M,b,z,⟨c,rfl⟩,N⟩:=ya (i:=6) (it:=pY m_) (body:=Q2) (xb rfl)
  (λi g b=>(∃c,g=[A,G,C,P,T,k_ ((DLB.orM (tx f) (F.take i):Nat)),c,XV,XV,XV,XV,XV,XV])/\b=O) (λi t g b l h=>by
   obtain⟨⟨c,rfl⟩,rfl⟩:=h;have Q:DLB.orM (tx f) (F.take (i+1))=DLB.orM (tx f) (F.take i) ||| tx f t:=by
    rw[<- DLB.orM_app,eJ,l];rfl
   refine⟨_,_,yF (qy rfl (qr (Cw rfl (qE rfl rfl)) (Tn hf (hF t (aF l)) b)) (Wv b _ _)),⟨rT t,?_⟩,rfl⟩;rw[<- Q];rfl) ⟨⟨XV,rfl⟩,rfl⟩
 rw[cF,N] at z;have R:qp Y1 0 (pY pV) (.one 6) [] [] (j_ 3 Gp (a_ qg (a_ qu uM))) [A,G,C,P,T,k_ ((DLB.orM (tx f) F:Nat)),c,XV,XV,XV,XV,XV,XV] O=.ok (.lst (S.map λt=>D.int (tx f t:Nat))) O:=
  (xF (tu rfl) 'd' (λ_=>rfl) (λt l=>qr (Cw rfl (qE rfl rfl)) (Tn hf (hS t l) O))).trans rfl
 have U:tM (a_ (c_ rC (pT qJ (a_ pV f_)) rz) f_) [A,G,C,P,T,k_ ((DLB.orM (tx f) F:Nat)),c,qK (S.map λt=>D.int (tx f t:Nat)),XV,XV,XV,XV,XV] O=.ok (.val ((aV (S.length+1)).map λ(i:Nat)=>D.int (i:Int))) O:=
  zc (pX ((qy (rX (pX rfl) (FO O D.str S)) rfl BF).trans (by rfl))) 'd'
 obtain⟨b,V,X,rfl⟩:=zi3 (i:=8) (k:=s) (λb=>∃X,b=O++X) U (by rw[ci];lia)
  (λj g b=>∃p r u v w X,g=[A,G,C,P,T,k_ ((DLB.orM (tx f) F:Nat)),c,qK (S.map λt=>D.int (tx f t:Nat)),p,r,u,v,w]/\b=O++X/\At b)
  (λj a g b x y h=>by
   obtain⟨p,r,u,v,w,X,rfl,rfl,m⟩:=h;obtain⟨W,e⟩:=ao.mp y;rw[io] at e;subst e;obtain⟨B,E,H,I,q⟩:=SK hf hS Al (j:=j) 'd' m;rw[J j x,Ko 'k'] at q;exact⟨_,_,q,k_ (j:Nat),B,E,H,I,X++[[]],rfl,by rw[aX];rfl,m.ints []⟩)
  (λa g b y h=>by
   obtain⟨p,r,u,v,w,X,rfl,rfl,m⟩:=h;obtain⟨W,e⟩:=ao.mp y;rw[io] at e;subst e;obtain⟨B,E,H,I,q⟩:=SK hf hS Al (j:=s) 'd' m;rw[Kk K] at q;exact⟨_,q,X++[(uV f F S s).map D.int],by rw[aX]⟩) ⟨XV,XV,XV,XV,XV,[],rfl,by simp,o⟩
 show uB O.length (fin (NC [A,G,C,XV,XV,XV,XV,XV,XV,XV,XV,XV,XV] O))=_;have Y:=vO L (rK (t:=dC (.int 0)) (i:=5) rfl (vO z (rK (i:=7) R (Cv (d:=p8 (dC .non)) V))));have Z:NC [A,G,C,XV,XV,XV,XV,XV,XV,XV,XV,XV,XV] O=.rt (.tup [.int (s:Nat),.int (xX (uV f F S s))]) (O++X):=Y;rw[tG Z];exact FV o.pl X rfl
end
def xi(c:Nat)(t:n_):n_:=t.set (t.idxOf 45) c
def KW:l_:=oO.filter λt=>t.contains 45
def zhS(O:Ow):(oO.map λcs=>uy O (.str [45]) (.str cs))=oO.map λcs=>R.ok (D.bl (cs.contains 45)) O:=by kernel_rfl
def ziO(O:Ow)(a b c d e f:Option D):(KW.map λcs=>PZ [a,b,c,d,rT cs,e,f] O)=KW.map λcs=>R.ok (D.int (cs.idxOf 45:Nat)) O:=by kernel_rfl
def zi7(O:Ow)(a b c d e:Option D):(KW.map λcs=>P9 [a,b,c,d,rT cs,k_ (cs.idxOf 45:Nat),e] O)=KW.map λcs=>R.ok (D.lst [.str (xi 48 cs),.str (xi 49 cs)]) O:=by kernel_rfl
def zj7:([1,2,3,4].all λn=>(Xg n).all λt=>!t.contains 45||([48,49].all λc=>decide (xi c t∈Xg n)&&(qL (xi c t)).all (qL t).contains)&&(qL t).all λp=>(qL (xi 48 t)).contains p||(qL (xi 49 t)).contains p)=YP:=by decide +kernel
def YY(a:1<=n)(b:n<=4)(d:t∈Xg n)(e:t.contains 45=YP):(∀c∈[48,49],xi c t∈Xg n/\∀p∈qL (xi c t),p∈qL t)/\∀p∈qL t,∃c∈[48,49],p∈qL (xi c t):=by
 have:=al.mp (al.mp zj7 n (by rcases zM a b with rfl|rfl|rfl|rfl<;>decide)) t d;rw[e] at this;simp only[eS,gM,aY,al,decide_eq_true_eq,i9,bo] at this;refine⟨this.1,λp f=>?_⟩;rcases this.2 p f with q|q
 ·exact⟨48,by simp,q⟩
 ·exact⟨49,by simp,q⟩
def zd7(i:Fn n f)(g:Fm n f F)(hF:F.length<=54)(w:oR O m s b):
  ∃G v,J6 [.own m,.tup f,.tup (F.map .str)] O=.ok (.tup (G.map .str)) (O.set m [.int v,.bl b])/\oR (O.set m [.int v,.bl b]) m v b/\Fm n f G/\G.length<=60:=by
 let A:Option D:=qI m;let B:Option D:=qj f;let C:Option D:=qj (F.map .str);let S:=F.filter λt=>t.contains 45;have H:Tm F:=λt d=>uQ i.n1 i.n4 (g.tm t d);have I:Tm S:=λt d=>H t (aA.mp d).1;have Al:S.length<=F.length:=aQ _ _;have L:qp Y1 0 (pY pV) (.one 4) [(qd (c_ uy xZ qu))] [] qu [A,B,C,XV,XV,XV,XV] O=.ok (.lst (S.map .str)) O:=
  (u7 (xb rfl) 'd' (λ_=>rfl) (λt d=>rO (qy rfl rfl (cA.mp (zhS O) t (H t d)))) (λ_ _ _=>rfl)).trans rfl
 have a:qd (c_ (pZ rQ) qg vo) [A,B,C,qK (S.map .str),XV,XV,XV] O=.ok (S==[]) O:=
  rO (qy rfl rfl (zZ O (Yl I 7) rfl (by rw[beq_iff_eq];exact gX.symm)).1)
 cases y:S==[] with
 | true=>
  rw[y] at a;refine⟨F,s,?_,by rw[JC w.at_];exact w,g,by lia⟩;rw[JC w.at_];show fin (Np [A,B,C,XV,XV,XV,XV] O)=_;exact tG (rK L (Cp a rfl))
 | false=>
  rw[y] at a;have W:S≠[]:=λe=>by rw[e] at y;cases y
  have OA:=l7.mpr W;obtain⟨r,v,M,X,Z⟩:=F0 w (k:=S.length) 'd' 'd';generalize N:O.set m [D.int v,D.bl b]=j at *;obtain⟨z,P⟩:=aA.mp (bD M);generalize J:S[r]=u at *;have Q:=aA.mpr ⟨H u z,P⟩;obtain⟨T,k2⟩:=YY i.n1 i.n4 (g.tm u z) P;let l:=F.filter λt=>t !=u;have hRl:l.length<=F.length:=aQ _ _;let Y:=l++[xi 48 u,xi 49 u];have E:∀t,t∈qB Y↔(t∈F/\t≠u) \/ ∃c∈[48,49],t=xi c u:=λt=>(xg _).trans (by simp[Y,l]);have hY:Y.length<=56:=by show(l++_).length<=56;rw[au];simp;lia
  have o:=g.ok;obtain⟨U,o2⟩:=eM.mp o;have hl:=Ju Y;refine⟨qB Y,v,?_,N▸Z,⟨AK _,λt d=>?_,?_,by lia⟩,by lia⟩
  ·rw[N];show fin (Np [A,B,C,XV,XV,XV,XV] O)=_;have hR:qp Y1 1 (pY pV) (.one 7) [(qd (c_ (pZ rF) (qN 7) qu))] [] (qN 7) [A,B,C,qK (S.map .str),rT u,k_ (u.idxOf 45:Nat),Xy (.lst [.str (xi 48 u),.str (xi 49 u)])] j=.ok (.lst (l.map .str)) j:=
    (u7 (xb rfl) 'd' (λ_=>rfl) (λt d=>rO (qy rfl rfl (Fv j (Ej i.n1 i.n4 (g.tm t d)) (Ej i.n1 i.n4 (g.tm u z)) (by rw[beq_iff_eq];exact⟨λh=>h▸rfl,λh=>by cases h;rfl⟩)).2)) (λ_ _ _=>rfl)).trans rfl
   refine tG (rK L (vP a (rK (qy rfl (qr (qE rfl (rX (pX rfl) (FO O D.str S))) X) ((FH j D.str S M).trans (by rw[J]))) (rK (cA.mp (ziO j A B C (qK (S.map .str)) XV XV) u Q) (rK (cA.mp (zi7 j A B C (qK (S.map .str)) XV) u Q) (rY (rX (pX (To (x:=.lst (Y.map .str)) (pX (qy hR rfl ?_)) (.inl rfl) 'd')) rfl)))))));show(if (l.map D.str).length+2<=4000000 then R.ok (D.lst (l.map D.str++[.str (xi 48 u),.str (xi 49 u)])) j else .bad)=_;rw[Kk (by rw[aq];lia)];rw[br];rfl
  ·rcases (E t).mp d with q|⟨c,a,rfl⟩
   ·exact g.tm t q.1
   ·exact(T c a).1
  ·unfold vG A0;rw[aY,al,al];refine⟨λt q=>?_,λp K=>?_⟩
   ·rcases (E t).mp q with q|⟨c,a,rfl⟩
    ·exact al.mp U t q.1
    ·have:=al.mp U u z;exact al.mpr λp K=>al.mp this p ((T c a).2 p K)
   ·obtain⟨t,q,V⟩:=bA.mp (al.mp o2 p K);by_cases e:t=u
    ·subst e;obtain⟨c,a,h3⟩:=k2 p (bo.mp V);exact bA.mpr ⟨_,(E _).mpr (.inr ⟨c,a,rfl⟩),bo.mpr h3⟩
    ·exact bA.mpr ⟨t,(E t).mpr (.inl ⟨q,e⟩),V⟩
def At.set(h:At O)(m:Nat)(s:Int)(b:Bool):At (O.set m [.int s,.bl b]):=λc e d a=>by
 rcases g9 e with q|q
 ·exact h c q d a
 ·subst q;simp at a;rcases a with rfl|rfl<;>rfl
def At.one{O:Ow}(h:At O){c:List D}(b:∀d∈c,Bi d=YP):At (O++[c]):=λx e d a=>by
 rcases aM.mp e with q|q
 ·exact h x q d a
 ·have:x=c:=⇑q
  subst this;exact b d a
def RV(a:c σ O=.ok Y1 O1)(b:d σ O1=.ok Y1 O2):xB c d σ O=.ok Y1 O2:=by show((c σ O).bnd _)=_;rw[a];exact b
theorem JI{α:Type}[DecidableEq α]:∀{a b:List α},a.Nodup->(∀t∈a,t∈b)->a.length<=b.length
 |[],_,_,_=>bI _
 | x::a,b,n,h=>by
  have c:=h x ar;have d:=bz.mp n;have:=JI d.2 λt f=>(jg (λe:t=x=>d.1 (e▸f))).mpr (h t (ak _ f));rw[il c] at this;have:=kX c;rw[aW];lia
def zbh(S:l_)(p:n_->Bool):sub S ((aV S.length).filter λk=>p (S.getD k []))=S.filter p:=by
 have e:((aV S.length).map λk=>S.getD k [])=S:=by
  refine nq 'k' λi b a=>?_;rw[iX,io,aD,am a];rfl
 conv=>rhs;rw[<- e]
 rw[nN];rfl
def Za{α:Type}[DecidableEq α]{h:DLC.Held α}{w:List α}{m:Nat}{c:l_}(e:c∈DLC.cov m h w):few h w m<=rS c:=by
 unfold few;cases f:DLC.cov m h w with
 |nil=>rw[f] at e;cases e
 | cons d l=>
  obtain⟨a,b⟩:=Mx (l.map rS) (rS d);rw[f] at e;rcases aw.mp e with rfl|h
  ·exact a
  ·exact b _ (ay.mpr ⟨c,h,rfl⟩)
def tY(n:Nat)(f:List D)(F:l_):l_:=(gr n f).filter λt=>!F.contains t
section
variable{n m:Nat}{f:List D}{F l:l_}(hf:Fn n f)(g:Fm n f F)(h:K2 n f (vj f F) m l)
def pe:t∈tY n f F↔t∈gr n f/\t∉F:=by unfold tY;simp
def R_{r:n_}(a:∀k∈r,k<(tY n f F).length):∀t∈sub (tY n f F) r,t∈gr n f:=λt c=>by
 obtain⟨k,b,rfl⟩:=ay.mp c;rw[aD,am (a k b)];exact(pe.mp (bD (a k b))).1
include hf g
theorem L_{r:n_}(b:∀k∈r,k<(tY n f F).length):yz f F (tY n f F) r=YP↔DLC.Cov (uG n f (vj f F)) (vj f F) (sub (tY n f F) r):=by
 refine pO.trans (Iff.trans ?_ (FR hf (R_ b)).symm);constructor
 ·intro q x hx;obtain⟨t,ht,a⟩:=q x (Se x hx);rcases aM.mp ht with ht|ht
  ·rw[FE hx ht] at a;cases a
  ·exact⟨t,ht,a⟩
 ·intro q x hx;by_cases e:x∈vj f F
  ·obtain⟨t,ht,a⟩:=q x e;exact⟨t,aC _ ht,a⟩
  ·rcases aM.mp hx with hx|hx
   ·obtain⟨p,c,rfl⟩:=ay.mp hx;have o:=g.ok;obtain⟨t,ht,a⟩:=bA.mp (al.mp (eM.mp o).2 p c);exact⟨t,bt _ ht,by unfold hold;simp only[a];rfl⟩
   ·obtain⟨t,ht,a⟩:=SR hx e;exact⟨t,bt _ ht,a⟩
include h
theorem zlP(d:j<m):uV f F (tY n f F) j=[]:=by unfold uV;rw[gX,fq];intro r a b;obtain⟨e,i,c⟩:=DLB.mem_pks.mp a;have:=h.lm.le ((L_ hf g c).mp b);unfold sub at this;rw[aq] at this;lia
theorem S4:uV f F (tY n f F) m≠[]/\xX (uV f F (tY n f F) m)=rS l:=by
 obtain⟨c,j,B⟩:=Tv h.lm.ne;obtain⟨P,C,A⟩:=DLC.cov_sound m (Cm hf (vj f F)) j;have o:∀t∈c,t∈gr n f:=λt b=>by have:=A.1 t b;rwa [Et] at this
 have E:∀t∈c,t∈tY n f F:=λt b=>pe.mpr ⟨o t b,λG=>by
  obtain⟨x,p,i⟩:=Rz h.lm (Cm hf (vj f F)) j b;rw[IJ hf (o t b)] at i;have:=(aA.mp i).2;rw[FE p G] at this;cases this⟩
 let r:=(aV (tY n f F).length).filter λk=>decide ((tY n f F).getD k []∈c);have H:=zbh (tY n f F) λt=>decide (t∈c);have s:c.Perm (sub (tY n f F) r):=by
  rw[H];refine DLC.perm_of_sub C (λt b=>aA.mpr ⟨E t b,by simpa using b⟩) (JI (((Lw hf).filter _).filter _) λt b=>?_);simpa using(aA.mp b).2
 have d:r.length=m:=by
  have:=s.length_eq;unfold sub at this;rw[aq,h.lm.len j] at this;exact this.symm
 have u:∀k∈r,k<(tY n f F).length:=λk I=>bg.mp (aA.mp I).1;have v:=DLB.mem_pks.mpr ⟨d,List.pairwise_lt_range.filter _,u⟩;have w:=(FR hf (R_ u)).mpr λx p=>by
  obtain⟨t,b,q⟩:=(FR hf o).mp A x p;exact⟨t,s.mem_iff.mp b,q⟩
 have y:rS l∈uV f F (tY n f F) m:=by
  refine ay.mpr ⟨r,aA.mpr ⟨v,(L_ hf g u).mpr w⟩,?_⟩;rw[<- MF s,B,h.sg]
 refine⟨λe=>(by rw[e] at y;cases y),(Vc y λa J=>?_).symm⟩;obtain⟨Q,K,rfl⟩:=ay.mp J;obtain⟨L,i⟩:=aA.mp K;obtain⟨M,R,N⟩:=DLB.mem_pks.mp L;obtain⟨S,O,z⟩:=h.lm.all ((L_ hf g N).mp i) (by unfold sub;rw[aq];exact M);rw[<- MF z,h.sg];exact Za O
theorem XJ:m<=(tY n f F).length:=by rw[<- h.few];refine JI (h.srt.imp λb e=>?_) λt a=>pe.mpr ⟨h.inn t a,Ls hf h a⟩;subst e;exact absurd b (ee _)
theorem zk0(d:F.length<=60)(a:At O):Kh [.tup f,.tup (F.map .str),.lst ((tY n f F).map .str)] O=.ok (.tup [.int (m:Nat),.int (rS l)]) O:=by have:=zii hf g.tm (λt b=>BD (pe.mp b).1) 'd' (aH (aQ _ _) (Fw hf)) (XJ hf g h) (λj c=>zlP hf g h c) (S4 hf g h).1 a;rw[(S4 hf g h).2] at this;exact this
end
def zjH(O:Ow)(i j:Int):pZ rF O (.tup [.int i,.int j]) (.tup [.int i,.int j])=.ok (.bl Y1) O:=(Fv O rfl rfl (b:=YP) 'k').2
def Qf(O:Ow){n:Nat}(a:1<=n)(b:n<=4){x:n_}(c:x∈Xg n){l:l_}(d:∀t∈l,t∈Xg n):uy O (.str x) (.tup (l.map D.str))=.ok (.bl (l.contains x)) O/\v_ O (.str x) (.tup (l.map D.str))=.ok (.bl (!l.contains x)) O:=by refine Fu O (Ej a b c) (Ew a b d) (.inr rfl) ?_;rw[bo,ay];exact⟨λh=>⟨x,h,rfl⟩,λ⟨q,h,e⟩=>by cases e;exact h⟩
def zfa{Pt n:Nat}{f:List D}{F:l_}(c:Fn n f)(g:Fm n f F)(s:F.length<=60){O:Ow}(o:At O){A B S G K q k:Option D}:
  ∃M N P y,QV Pt [A,B,S,qj f,G,qj (F.map .str),K,q,k,Xy (.tab Pt)] O=.nx [A,B,S,qj f,G,qj (F.map .str),M,N,P,Xy (.tab Pt)] y/\At y:=by
 obtain⟨m,l,h,u⟩:=zdR c g;let E:Option D:=qj f;let C:Option D:=qj (F.map .str);let r:Option D:=Xy (.tab Pt);let L:Option D:=qj (l.map .str);let W:Option D:=qj ((qB (F++l)).map .str);have j:=P8 c h;have Q:∀t∈l,t∈oO:=λt i=>uQ c.n1 c.n4 (j t i);have H:l.length<=18:=by have:=h.few;have:=h.m18;lia
 have w:=o4 c g h s;have I:At (O++[(gr n f).map .str]):=o.one λd T=>by obtain⟨x,_,rfl⟩:=ay.mp T;rfl
 have U:qp Y1 1 (pY xW) (.one 10) [(qd (c_ uy yW sM))] [] yW [A,B,S,E,G,C,L,q,k,r] O=.ok (.lst []) O:=by
  refine(u7 (xb rfl) 'd' (λ_=>rfl) (λt i=>rO (qy rfl rfl (Qf O c.n1 c.n4 (j t i) g.tm).1)) (λ_ _ _=>rfl)).trans ?_;rw[fq.mpr λt i=>by rw[bo];exact Ls c h i];rfl
 have v:(F++l).Nodup:=by
  have J:∀{z:l_},z.Pairwise (· < ·)->z.Nodup:=λp=>p.imp λj e=>by subst e;exact absurd j (ee _)
  exact dS.mpr ⟨J g.srt,J h.srt,λa V b X e=>Ls c h X (e▸V)⟩
 have Y:pT yZ (a_ (pT zT (a_ (c_ w_ sM xW) f_)) f_) [A,B,S,E,G,C,L,q,k,r] O=.ok (.tup ((qB (F++l)).map .str)) O:=by
  have Z:pT zT (a_ (c_ w_ sM xW) f_) [A,B,S,E,G,C,L,q,k,r] O=.ok (.lst ((qB (F++l)).map .str)) O:=by
   refine rX (pX (x:=toT (F++l)) ((qy rfl rfl (X6 O (by rw[aq,aq];lia))).trans (by unfold toT;rw[br]))) ?_;show(match uY ((F++l).map D.str) with|some ss=>(if ss.Nodup/\ss.length<=1000 then R.ok (D.lst ((qB ss).map .str)) O else .bad)|none=>.bad)=_;rw[strL_map];show(if (F++l).Nodup/\(F++l).length<=1000 then R.ok (D.lst ((qB (F++l)).map .str)) O else .bad)=_;rw[Kk ⟨v,by rw[au];lia⟩]
  exact rX (pX Z) rfl
 obtain⟨src,s1,s2,s3⟩:=CB (x:=.own O.length) xI;have OC:qp Y1 1 (pY (j_ 1 Gn (a_ qg f_))) (.one 10) [(qd (c_ v_ yW sM))] [] yW [A,B,S,E,G,C,L,W,k,r] O=.ok (.lst ((tY n f F).map .str)) (O++[(gr n f).map .str]):=by
  have:=Fw c;exact(Cy (LL (qr (pX rfl) (VH c o.flat)) s1) s2 (by rw[s3,aq]) 'd' (λ_ _=>rfl) (λt i=>Er (rO (qy rfl rfl (Qf _ c.n1 c.n4 (BD i) g.tm).2))) (λ_ _ _=>rfl)).trans rfl
 refine⟨L,W,qK ((tY n f F).map .str),O++[(gr n f).map .str],?_,I⟩;refine rK (FG rfl (qE rfl rfl) (u Pt O o.pl)) ?_;refine vP (RV (vg (sF (qr (qE (qr (pX rfl) (Nt c O)) rfl) ((M3 c.n1 c.n4 (Jz c.n1 c.n4 j) (by rw[aq];lia) O).trans (by rw[Jm c.n1 c.n4 j h.srt]))))) (rO (qy U rfl (zZ O rfl rfl (b:=YP) 'k').2))) ?_;refine rK Y ?_;refine vP (RV (vg (sF (qr (qE rfl rfl) (zeQ c w O)))) (rO (qy (qr (qE rfl rfl) (zhY c g h s o.flat)) rfl (zZ O rfl rfl (b:=YP) 'k').2))) ?_;refine rK OC ?_;rw[tI (rO (qy (Cs (qE (rX (pX rfl) ((TR _ _).trans (by rw[aq,h.few]))) (qr (pX rfl) (Ra (xb rfl) 'd' Q))) (by show 2<=4000000;decide)) (qr (Cw rfl (qE rfl rfl)) (zk0 c g h s I)) (zjH _ _ _)))];rfl
def zfV{Pt:Nat}{C:List Int}{k:Nat}{O:Ow}(hO:At O){y2 H I o p q u:Option D}:
  ∃z2 z3 z4 c h j l a,Ll Pt [qK (C.map .int),k_ (k:Int),y2,H,I,o,p,q,u,Xy (.tab Pt)] O=.nx [qK (C.map .int),k_ (k:Int),z2,z3,z4,c,h,j,l,Xy (.tab Pt)] a/\At a:=by
 let A:Option D:=qK (C.map .int);let B:Option D:=k_ (k:Int);let v:Option D:=Xy (.tab Pt);obtain⟨s,b,s1,s2⟩:=zeD O;have M:At (O++[[.int s,.bl b]]):=hO.one λd N=>by
  simp at N;rcases N with rfl|rfl<;>rfl
 generalize hm:O.length=m at *;generalize HA:O++[[D.int s,D.bl b]]=w at *;obtain⟨r,P,r1,r2,r3⟩:=F0 s2 (k:=4) 'u' 'u';have h1:1<=1+r:=by lia
 have h4:1+r<=4:=by lia
 have en:c_ w_ rz (j_ 2 vf (a_ pV E7)) [A,B,qI m,H,I,o,p,q,u,v] w=.ok (.int ((1+r:Nat):Int)) (w.set m [.int P,.bl b]):=(qy rfl (qr (qE rfl rfl) r2) (rfl)).trans (by congr 2);generalize hn:1+r=n at *;have Pk:=M.set m P b;obtain⟨f,Q,y,R,T⟩:=z99 Pk.flat r3 h1 h4 YP;rw[mE] at R T;have U:=M.set m Q b;generalize hO4:w.set m [D.int Q,D.bl b]=V at *;have OQ:j_ 3 J_ (a_ pV (a_ (c_ w_ rz (j_ 2 vf (a_ pV E7))) (a_ zP f_))) [A,B,qI m,H,I,o,p,q,u,v] w=.ok (.tup f) V:=
  qr (Cw rfl (qE en rfl)) R
 obtain⟨F,W,g1,g2,X,Y,g5⟩:=z7W y U.flat T;have J:=U.set m W b;generalize hO5:V.set m [D.int W,D.bl b]=Z at *;have hF:=aH (JI (X.imp λqm e=>by subst e;exact absurd qm (ee _)) Y) (Jg y);have g:Fm n f F:=⟨X,λt ht=>BD (Y t ht),g5,by lia⟩;obtain⟨F',t6,l1,l2,l3,l4⟩:=zd7 y g hF g2;have K:=J.set m t6 b;generalize hO6:Z.set m [D.int t6,D.bl b]=O6 at *;let S:Option D:=qI m;let E:Option D:=qj f;let G:Option D:=qj (F.map .str);have L:pY (u6 (a_ qu (a_ (j_ 3 J6 (a_ pV (a_ qg (a_ qu f_)))) f_))) [A,B,S,E,G,o,p,q,u,v] Z=.ok (.val ([F,F'].map λx=>.tup (x.map .str))) O6:=
  tu (ZY (qE rfl (qr (Cw rfl (qE rfl rfl)) l1)) (by show 2<=4000000;decide))
 obtain⟨σ',a,q1,c,h,j,l,rfl,q2⟩:=ya (i:=5) L (λ_ σ a=>∃c h j l,σ=[A,B,S,E,G,c,h,j,l,v]/\At a) (λi x σ a z hI=>by
   obtain⟨c,h,j,l,rfl,fl⟩:=hI;have z:=aF z;have hg:Fm n f x/\x.length<=60:=by
    simp at z;rcases z with rfl|rfl
    ·exact⟨g,by lia⟩
    ·exact⟨l3,l4⟩
   obtain⟨w6,w7,w8,O'',e1,e2⟩:=zfa y hg.1 hg.2 fl;exact⟨_,_,e1,_,_,_,_,rfl,e2⟩) ⟨o,p,q,u,rfl,K⟩
 refine⟨S,E,G,c,h,j,l,a,?_,q2⟩;exact rK (qr (qE rfl rfl) s1) (rK OQ (rK (qr (qE rfl rfl) g1) q1))
def pure_law(Pt:Nat)(b:List Int)(p:b.length<=63):∃O,F_law Pt [.lst (b.map .int)] []=.ok (.bl YP) O:=by
 let A:Option D:=qK (b.map .int);let d:Option D:=Xy (.tab Pt);obtain⟨m,q,r⟩:=zg1 p [A,XV,XV,XV,XV,XV,XV,XV,XV,d] 3 'u' rfl;obtain⟨s,a,t,e,f,g,h,j,k,l,n,rfl,z⟩:=ya (i:=1) (zc (pX r) q) (λ_ o a=>∃e f g h j k l n,o=[A,e,f,g,h,j,k,l,n,d]/\At a) (λ_ i o a _ u=>by
   obtain⟨e,f,g,h,j,k,l,n,rfl,v⟩:=u;obtain⟨B,C,E,F,G,H,I,J,w,x⟩:=zfV v;exact⟨_,_,w,_,_,_,_,_,_,_,_,rfl,x⟩) ⟨XV,XV,XV,XV,XV,XV,XV,XV,rfl,λc y=>by cases y⟩
 refine⟨a,?_⟩;show fin (o_ (sJ (tM (a_ (pT Cd (a_ rz (a_ (pT Ck (a_ (pT qJ qA) (a_ (dC (.int ((3:Nat):Int))) f_))) f_))) f_)) (.one 1) (Ll Pt)) (p8 zP) [A,XV,XV,XV,XV,XV,XV,XV,XV,d] [])=_;rw[tj t];rfl
end K88
open PySem PySem.W PyProof.Rows
set_option maxRecDepth 100000 in
set_option maxHeartbeats 0 in
theorem PySem.Challenge.cw_leastterms_k88_forms_mended_holds : PySem.Challenge.rw_leastterms_k88_forms_mended.Holds := by
 w_on;refine mH K88.ws fun NM=>?_;refine PySem.W.holds_openX (q:=K88.Qv) (loose:=K88.Lv) (N:=4768) (Xt:=K88.Xv) (XP:=PySem.W.XL K88.Qv []) (Yf:=(fun s=>(PySem.W.Hook.obs K88.Hk s,decide (0<s.toks)))) (Ya:=(fun w=>(PySem.W.Hook.val K88.Hk w,true))) K88.lw (fun s e=>PySem.W.xl_of s (eM.mp e).1) PySem.W.XL.keeps (by rfl) (by rfl) (by rfl) (fun s e=>PySem.W.recFacts_of (eM.mp e).2) (by rfl) (by first|assumption|decide +kernel) (by decide +kernel) ⟨rfl,rfl,rfl,rfl,rfl,by decide +kernel⟩ ?hw ?hc;(case hw=>w_witness2)
 delta K88.Hk;k_fill
 refine DL.walkU (xd := "covers") (l:=cq) (k:=28) (x := "_law_script") (F:=K88.F_law) rfl rfl ⟨rfl,by decide,by decide⟩ (PySem.W.Hook.of K88.Hk) (PySem.W.Hook.keeps K88.Hk) (fun w h Y=>PySem.W.km_in_of Y) ?R ?F K88.pure_law
 case R=>first|rfl|kernel_rfl
 case F=>
  intro w mg fa h KX G Hd
  refine' K88.all_mk KX G Hd ⟨'4','4','4','4','4','4','4','4','4','4','4','4','4','4','4','4','4','4','4','4','4','4','4','4','4','4','4','4','4','4','4','4','4','4','4','4','4','4','4','4','4','4','4','4','4','4','4','4','4','4','4','4','4','4','4','4',bG KX G ?_,bG KX G ?_,bG KX G ?_,bG KX G ?_,bG KX G ?_,bG KX G ?_,bG KX G ?_,bG KX G ?_,bG KX G ?_,bG KX G ?_,bG KX G ?_,bG KX G ?_,bG KX G ?_,bG KX G ?_,bG KX G ?_,bG KX G ?_,bG KX G ?_,bG KX G ?_,K88.gs_mk KX G ?_,K88.gt_mk KX G ?_ ?_ ?_ ?_,K88.gu_mk KX G ?_ ?_ ?_⟩ ?Ha ?Hl ?_ ?_ ?Ha2 ?Hl2 ?_ ?_ ?Gh4 ?Gh5 ?_
  (case' Ha|Hl|Ha2|Hl2|Gh4=>k_is)
  (case Gh5=>rfl)
  all_goals first|k_is|kernel_rfl|rfl|skip
end
