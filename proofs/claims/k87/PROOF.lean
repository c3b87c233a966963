import PyProof.Rows.All
import Wide.All
import OpenK.AllK
import Wide.FinOn
import Lean
import PyProof.EqAt
import PyProof.EqKinds
import PyProof.TupleCall
import PySem.Challenge.RW_leastterms_k87_least_smooth_forms
noncomputable section
set_option compiler.extract_closed false
set_option Elab.async false
set_option linter.all false
set_option autoImplicit true
set_option relaxedAutoImplicit true
set_option maxRecDepth 100000
open PySem renaming wpAny_bind->aa,Value->ab,Addr->ae,Shared->ag,wpAny_pure->ai,wpAny->ao,model->ay,starEach->aN,Program->aP,Expr->aT,Heap->aX,World->aY,Around->ba,bootBuiltins->br,wpAny_setField_rec->bF,wpAny_holding->bH,mainGlobals->bI,Comprehension->bJ,mem_of_lookup->bK,rawInt->bO,foldedSetIterable->bU,wpAny_field->cb,Paired->cj,wpAny_call_entry->cw,wpAny_mono->cy,cellsFrom->cA,wpAny_newObj_type->cH,compareOp->cM,Scope->cT,wpAny_callSpecial?_slot->cU,wpAny_truthy_bool->de,NameKind->dq,wpAny_seqItems->dr,importedModules->dD,Builtin->dF,binaryOp->dO,wpAny_rule->dR,PyData->d7,codeAny_builtin->ei,IsPair->eu,FuncData->eB,Stmt->eI,wpAny_standAt->eS,wpAny_askSetting->fh,codeAny_mono->fv,wpAny_passesOwn->fz,wpAny_attempt->fH,plainId_quiet->fK,wpAny_pyIter_list->fO,wpAny_setState_of->fP,wpAny_with_toks->f9,wpAny_updateSeq->gf,wpAny_letGo->gi,IsZip->gk,Keyword->gA,wpAny_tryCatch->gF,assignEach->gK,wpAny_newList->gP,OsState->gR,wpAny_Call_Name_kw->hJ,IsEnum->ic,wpAny_newTuple->im,wpAny_assign_Name->ir,wpAny_isInstance->iP,Arguments->iU,exec_Assign_Name_used->iV,ElemsOf->iW,Params->iX,Model->iY,wpAny_execs_nil->iZ,IsPart->i0,codeAny_of_tree->i3,pushCells_keeps->i4,wpAny_updateSeq_pair->i5,wpAny_setEntries_of->jf,isSubtype_type->jn,wpAny_of_eq->jr,concat_meets->jw,swapsWithSole->jI,swappedStores->jJ,wpAny_onRaise->jO,wpAny_pyIter_slot->jX,fits_of_scanBound->jY,wpAny_call->j0,noFill_tuple_add->j9,wpAny_getItem_of->kg,SetTable->kr,PassesOwn->kH,sizeLine_eq->kP,wpAny_isTrue_Compare1->kY,BindsTo->k9,intText?->ll,isSubtype_stop->lq,builtinLookup_eq_fast->lE,wpAny_loadName_local->lI,codeAny_call_builtin->lK,seq_tuple_add->lU,wpAny_loadName_cell->lZ,nums_intItems->l8,wpAny_typeOf->mh,wpAny_pyIter_tuple->mn,pushCells->mo,seqIndex_of->mU,GenState->mW
open Option renaming some->KF,none->KM
open Bool renaming true->qb,false->qh
abbrev qq:=@if_pos
abbrev qM:=@if_neg
open PyProof.Rows renaming arrOf->q7,pendingOf->q8
open PySem renaming sizeLine->xc
local macro_rules|`('1')=>`(by walk_at "s")
local macro_rules|`('2')=>`(by walk_at "e")
local macro_rules|`('3')=>`(by walk_at "u")
local macro_rules|`('4')=>`(by walk_at "z")
local macro_rules|`('5')=>`(by walk_at "g")
local macro_rules|`('6')=>`(by walk_at "i")
local macro_rules|`('7')=>`(by walk_at "fs")
local macro_rules|`('8')=>`(by walk_at "cs")
set_option hygiene false in
local macro_rules|`('9')=>`(K87.fa_mk KX G ?_ ?_ ?_ ?_)
local macro_rules|`('d')=>`(by lia)
local macro_rules|`('k')=>`(by simp)
local macro_rules|`('u')=>`(by decide)
local macro_rules|`('b')=>`(by kernel_rfl)
local macro_rules|`('c')=>`(by decide +kernel)
open PySem.Heap renaming get?_push_of_some->af,get?_push_size->aE,lt_size->aK,get?_update_self->cm,size_push->cx,get?_update_other->cz,SameBut->cX,ExtBut->js
open PySem.W renaming Frag->ah,mg_none_of->bC,fnOf->cB,boot_heap->cF,keepIn->cV,kla_fn->d6,findIn->fe,codeIn->fg,nsIn->gC,mg_of->gQ,cellsFrom_some->iB,InstAt->ji,noTabs->jk,tabIn->jN,methodObj->jU,specialIn->jV,kla_obj->kK,kitOne->lh,tabObj->lp,mroIn->lT,ofPys->lV,OpenLaw->mi,ofPy->mj,SharedT->mD,holds_law->mE,kitx_bool->mK,kitx_list->mL,kitx_dict->mM,plainGet->mX,instObj->nv,takesIn->ny,kitAny->nN,CodeHd->nO,isFn->oh
open List renaming mem_cons_of_mem->aj,getElem?_eq_getElem->al,mem_cons->am,getElem?_eq_some_iff->aq,mem_cons_self->ar,length_map->au,all_eq_true->av,length_append->aw,mem_map->az,mem_append_right->aA,mem_of_getElem?->aD,getD_eq_getElem?_getD->aG,getElem?_append_left->aH,size_toArray->aJ,mem_filter->aM,range->aO,mem_append->aQ,replicate->aS,getElem?_append_right->aU,length_cons->aV,not_mem_nil->aW,append_assoc->aZ,getElem?_eq_none_iff->a8,mem_range->bd,getElem?_map->be,length_filter_le->bg,map_map->bi,map_cons->bq,getElem?_set_ne->bt,nodup_cons->bu,append_nil->bz,map_append->bA,getElem?_set_self->bB,getElem_mem->bD,pairwise_append->bG,mem_append_left->bM,pairwise_cons->bP,length_take->bT,contains_iff_mem->b9,any_eq_true->cf,flatMap_cons->cg,length_range->ci,take_append_drop->cn,length_drop->cu,take_length->cE,length_eq_zero_iff->cG,mem_of_mem_take->cJ,take_of_length_le->cN,perm_append_comm->cR,take_sublist->cS,mem_iff_getElem->cY,mem_of_mem_drop->cZ,drop_eq_getElem_cons->c9,drop_sublist->dh,map_inj_left->di,mem_singleton->dE,filter_cons_of_neg->dG,filter_cons_of_pos->dH,length_nil->dQ,pairwise_iff_getElem->dU,filter_cons->dW,length_set->ee,nil_append->ef,lookup_cons->eC,mem_flatMap->eD,drop_drop->eF,take_succ->eH,find?_cons->eL,length_take_le'->eN,drop_append_of_le_length->eT,getElem?_cons_zero->eV,getElem?_cons_succ->eZ,filterMap_cons->e8,map_congr_left->fc,drop_of_length_le->fq,filter_eq_nil_iff->ft,set_cons_zero->fx,length_singleton->fA,foldl_cons->fD,eq_nil_or_concat->fE,concat_eq_append->fF,nodup_append->fN,getElem?_take_of_lt->fV,getElem?_replicate->f6,any_cons->f7,forIn_cons->ge,set_cons_succ->gh,find?_cons_of_neg->gj,any_eq_false->gq,map_nil->gz,take_take->gD,lt_irrefl->gE,mem_reverse->gM,filter_sublist->gW,length_zip->g7,mem_or_eq_of_mem_set->g8,mem_filterMap->g9,getElem_range->ik,nodup_nil->io,flatten_cons->iu,pairwise_map->iy,not_lt->iD,find?_cons_of_pos->iF,lt_trans->iJ,sum_cons->iK,all_cons->iM,zipIdx_cons->iO,getElem_map->iS,flatMap_append->jg,map_eq_nil_iff->jh,countP_eq_length_filter->jo,map_id->ju,getElem?_take->jx,zip_cons_cons->jA,filter_append->jG,getElem?_take_eq_none->jR,length_eraseIdx_of_lt->jS,foldl_append->jZ,extract_eq_take_drop->j6,getElem?_zip_eq_some->j7,getElem_inj->j8,all_map->ki,cons_append->kl,le_antisymm->ko,length_erase_of_mem->kz,isEmpty_iff->kA,all_flatMap->kB,pairwise_singleton->kG,of_mem_zip->kI,range_succ->kN,length->kQ,length_replicate->lc,getElem?_toArray->li,forIn_nil->lj,drop_zero->lv,set_append_right->lz,cons_lt_cons_iff->lB,countP_mono_left->lF,mem_erase_of_ne->lQ,set_append_left->lR,getElem?_range->l5,getElem_of_mem->l7,set_set->mB,reverse_cons->mG,getElem_take->mO,getElem_drop->mP,reverse_perm->mQ,ext_getElem?->mR,filter_congr->mT,all_toArray->m8,drop_length->nj,ext_getElem->nk,countP_cons->np,flatMap_nil->nq,zipIdx_nil->nE,sum_append->nH,filter_nil->nJ,filter_map->nK,drop_take->nQ,drop_left->nR,take_left->nT,take_zero->nX,take_add->nZ,map->on
open False renaming elim->ak
open Array renaming length_toList->aB,getElem?_eq_getElem->a9,toList_append->bQ,size_push->cr,getElem?_toList->dB,perm_iff_toList_perm->dM,toList_push->eQ,getElem_toList->fT,size_append->gm,map->gH,toList_setIfInBounds->jP,getElem?_eq_some_iff->jQ,size_setIfInBounds->kn,getElem?_eq_none->kW,size_map->lA,mk->lG,toList_extract->lL,toList_reverse->lN,append_assoc->ma,toList->md,toList_inj->m9,toList_map->ng,size_zip->nU
open Nat renaming le_refl->aC,le_trans->aI,lt_of_lt_of_le->bb,ne_of_lt->bo,zero_le->bE,lt_irrefl->bS,add_sub_cancel_left->bV,succ_pos->cO,lt_succ_self->cP,pow_le_pow_right->c8,lt_succ_of_lt->dg,zero_max->d0,ne_of_gt->eo,le_succ->eJ,zero_add->fY,lt_of_le_of_lt->gc,min_eq_left->gg,le_of_lt->gu,le_of_ble_eq_true->gG,le_add_right->gL,reduceLeDiff->gN,le_of_eq->h9,sub_self->ie,reduceAdd->iN,lt_or_ge->ja,reduceLT->jc,one_le_two_pow->jE,testBit_two_pow_sub_one->jF,add_comm->kh,add_zero->km,pow_succ->kw,testBit_lt_two_pow->kX,add_assoc->lX,le_of_succ_le->mI,min_le_right->mY,not_lt->nB,one_ne_zero->nF,le_antisymm->nG
open PyProof.Rows renaming wpS_bind->aF,wpS_pure->aL,KeyKind->a7,Keyed->bh,SortSt->bZ,wpS_forRange->cQ,wpS_mono->dI,callWith_type1->d9,StrsAre->eU,envOfC->e9,slot_tuple_getitem->fj,wpS_modify->fR,wpS_get->gU,AllBare->il,listUpdate_at->iI,listItems_at->i8,KeysOf->je,wpS_lift->jm,seqEpoch_at->jt,SortedToK->jz,Call_->kC,KK_mirror_equal->kL,entry_list_sort->kM,subscriptTail_builtinR->kR,wpS_reverse->kT,IntsAre->lf,slot_list_sort->lC,args_list_sort->lD,strKind_oneLt->lY,plain_sorted->ms,entry_sorted->mw,args_sorted1->mx,kind_sorted->mV
open Bool renaming and_eq_true->aR,false_eq_true->bX,false_ne_true->ck,eq_iff_iff->dS,or_eq_true->eM,not_eq_true'->eR,not_true->fL,not_false->ip,false_or->iH,and_eq_true_iff->i9,and_true->jT,false_and->kZ,not_not->mC,true_and->oa,and_self->og
open PySem.PyData renaming eqv->bj,list->eE,eqvAll->fM,tuple->hW,canLay0->jj,int->jM,depth->mq,canLayAll0->mJ,depthAll->nD
open PySem.Obj renaming mapSeq->bw,putSet->lP,data_mapFields->mr
open Ne renaming symm->bL
open PySem.Builtin.Str renaming occurrences->bN
open PySem.Challenge renaming rw_leastterms_k87_least_smooth_forms->bR,pw_leastterms_k87_least_smooth_forms->cD
open Option.some renaming inj->cq
open PySem.Builtin.SmallTypes renaming ownedTupleIsFree->cC,nextOf->cI,ownedTupleHandOut->dZ
open Classical renaming byContradiction->cK
open PySem.NameKind renaming free->dj,cell->dL
open Sum renaming inr->dk,inl->gT
open PySem.Around renaming under_plainId->dJ,frames_deeper->lJ
open PySem.F renaming plain_min_loop->dN,slot_enumerate_next->fB,slot_tuple_iterator_next->fJ,called_set->fZ,slot_dict_getitem->gY,args_tuple_add_2->hV,entry_tuple_add->iq,slot_tuple_add->iC,entry_min_loop->iE,slot_zip_next->i6,args_tuple_iterator_next_1->jl,entry_tuple_iterator_next->jy,slot_dict_delitem->j3,plainAttrs_list->kE,args_enumerate_next_1->kF,entry_enumerate_next->kS,slot_list_append->lg,slot_enumerate_iter->lr,slot_list_extend->lu,attr_ValueError->mH,args_zip_next_1->mN,plain_list_iadd->mS,entry_zip_next->m7
open PySem.Heap.SameBut renaming update->dP
open List.Pairwise renaming nil->d8
open PySem.Value renaming type->ez,ref->fu,isStrOf->fG,none->gJ,builtin->gO,isInt->iA,isStrOf_shape->jd,str->jv,int->l9
open List.Perm renaming refl->eG,append_left->fC,swap->nW
open PySem.SetTable renaming below->fi,grown->fU,fits->n9
open True renaming intro->fk
open And renaming intro->fw
open PyProof.Rows.F renaming plain_set_update_loop->fy,entry_set_update_loop->ig
open PySem.Builtin.Slice renaming slicePlaces->fQ,sliceAdjust->gX,sliceApplied->jL
open PySem.Builtin.Tuple renaming tupleExact->fW
open PySem.Builtin.List renaming listTooLong->fX,listLengthHint->jB,listExtendWith->jC,listSameRef->ku,listItems->kU
open PySem.Str renaming ofString->f8
open ForInStep renaming yield->gd
open PyProof.Rows.KeyOrd renaming kle_of_klt->gp,kle_trans->iQ
open PySem.Calls renaming call_function_entry->gZ,Name_function_global->jH,spliced_cons->me,spliced_nil->mF
open Option renaming isSome_iff_exists->hU,map_eq_some_iff->iz,none->jq,map_some->kJ,isSome_some->ml,getD_none->mZ,map->nu
open Int renaming emod_lt_of_pos->ij,emod_nonneg->jb,fdiv_eq_ediv_of_nonneg->jK,toNat_natCast->jW
open PySem.SetTable.below renaming go->iw
open PySem.Builtin renaming bitOr->iG,bitAnd->k7,bitXor->k8
open Array.Perm renaming refl->i7
open Sum.inr renaming inj->jp
open PySem.Builtin.Builtins renaming bindParams->jD
open PySem.Builtin.ObjectAttr renaming bindTo->j4
open PySem.Walks renaming list->j5
open PySem.PassesOwn renaming never->kO
open Prod renaming ext->lH
open PyProof.Rows.SortSt renaming mk'->lO
open PySem.Paired renaming length->lS
open PySem.Code renaming compLoop->lW,compStart->nM
open PySem.pickOrder renaming go->my
open Nat.succ renaming inj->mz
open PySem.Builtin.Frozenset renaming updateFrom->nV,newClass->n6,addrOf->oj,sizeOf->om,slot0->ou
open PySem.W.WData renaming int->nY
open PySem.Shared renaming TypeIs->n8
open PySem.SeqAt renaming shaped->oi
open PySem.W.OpenRow renaming toRowW->oy
open Prod.mk renaming inj->oz
open PySem.Heap.IsSliceOf renaming new->oA
namespace K87
open PySem PySem.W
noncomputable def ty(i:Nat):eI:=cD.main.body.getD i (.Pass ⟨0,0,0,0⟩)
def Qv:aP:={ cD with main:={ cD.main with body:=[ty 1,ty 2,ty 4,ty 5,ty 7,ty 8,ty 9,ty 10,ty 11,ty 12,ty 14,ty 15,ty 16,ty 17,ty 18,ty 19,ty 21,ty 22,ty 23,ty 24,ty 25,ty 26,ty 28,ty 29,ty 30,ty 31,ty 33,ty 34,ty 35,ty 36,ty 37,ty 39,ty 40,ty 41,ty 42,ty 43,ty 44,ty 45,ty 46,ty 47,ty 48,ty 49,ty 50,ty 51,ty 52,ty 53,ty 54,ty 55,ty 56,ty 57,ty 58,ty 59,ty 60] } }
def Lv:List PySem.Str:=[f8 "SWITCHES_BY_POINTS"]
def Xv:ag → Bool:=λs=>PySem.W.xlAt Qv [] s&&PySem.W.recOk (PySem.W.RowW.records (oy bR.row)) s
def bY{α a d:Type}{x:Option α}{f:α → a}{g:α → d}{b:a}{c:d}(e:x.map f=KF b)(h:x.map g=KF c):x.map (λs=>(f s,g s))=KF (b,c):=by
  cases x with
  |none=>cases e
  | some s=>
    have i:f s=b:=cq e;have j:g s=c:=cq h;show KF (f s,g s)=_;rw[i,j]
end K87
section
open PySem PySem.W PyProof.Rows
set_option maxRecDepth 100000 in
def K87.ws:bR.wellSaid=qb:=by kernel_rfl
local macro_rules|`(tactic| o_head $H)=>`(tactic| skip)
set_option maxRecDepth 100000 in
set_option maxHeartbeats 0 in
def K87.hp:False → bR.Holds:=by
  intro a
  w_on;refine mE K87.ws λb=>?_;k_head
  all_goals exact a.elim
end

namespace DLT
open PySem PySem.W
noncomputable def pj(tb:String → Option dF)(p:aP)(w:aY)(m:Nat)(an:Option ab):Nat → mD → Thread → Option mD
  |0,_,_=>KM
  | k+1,a,th=>match through th with
    |true=>KF a
    | false=>match stepOk m an th with
      |false=>KM
      | true=>match stepT (denote tb) p w a th with
        |some (b,Tq)=>pj tb p w m an k b Tq
        |none=>KM
theorem pI{d:String → Option dF}{p:aP}{w:aY}{m:Nat}{e:Option ab}:∀{k:Nat}{a z:mD}{c:Thread},pj d p w m e k a c=KF z → topRun d p w m e k a.abs c=KF z.abs
  |0,_,_,_,H=>by cases H
  | k+1,a,z,c,H=>by
    unfold pj at H;unfold topRun;cases g:through c with
    |true=>rw[g] at H;cases H;rfl
    | false=>
      rw[g] at H;cases h:stepOk m e c with
      |false=>rw[h] at H;cases H
      | true=>
        rw[h] at H;cases f:stepT (denote d) p w a c with
        |none=>rw[f] at H;cases H
        |some q=>obtain⟨b,i⟩:=q;rw[f] at H;rw[stepT_spec f];exact pI H
def pJ:Nat → BT → List Obj → BT
  |_,T,[]=>T
  |i,T,o::os=>pJ (i+1) (T.ins i o) os
noncomputable def pB(P:iX):BT:=pJ 0 .nil (cF P).objs.toList
def boot_abs:∀P:iX,absHeap (pB P) (cF P).objs.size (cF P).life=cF P:=λP=>by kernel_rfl
noncomputable def H8(P:iX)(os:gR):mD:=⟨pB P,(cF P).objs.size,(cF P).life,lG [],boot_drawn,boot_toks,os⟩
noncomputable def s0(P:iX)(os:gR):ag:=⟨cF P,lG [],boot_drawn,boot_toks,os⟩
def pN(P:iX)(a:gR):(H8 P a).abs=s0 P a:=by unfold H8 s0 SharedT.abs;rw[boot_abs P]
def pH:∀P:iX,((cF P).isNs bI&&(lG []:Array mW).size==0,(cF P).objs.size,(cF P).nsMap bI "__annotations__")=(qb,11,KF (.ref 6)):=λP=>by kernel_rfl
def chk(p:aP)(h:aX)(s:ag):Bool:=staticsOk (dD p.main.body) h s.heap&&namesBound p s.heap&&gensDone s&&laidKept h s.heap
def pC{p:aP}{w:aY}{P:iX}{b:gR}{N:Nat}{α:Type}{f:ag → α}{a:α}(h:(pj treeTable p w 11 (KF (.ref 6)) N (H8 P b) (topStub p)).map (λs=>(chk p (cF P) s.abs,f s.abs))=KF (qb,a)):(topFrom treeTable p w N (s0 P b)).map f=KF a:=by
  obtain⟨s,e,d⟩:=iz.mp h;have r:=pI e;rw[pN] at r;obtain⟨g,i,j⟩:_ ∧ _ ∧ _:=by simpa only[Prod.mk.injEq] using pH P
  obtain⟨k,l⟩:=oz d;unfold topFrom;show nu f (match (cF P).isNs bI&&(lG []:Array mW).size==0 with
    | true=>(topRun treeTable p w (cF P).objs.size ((cF P).nsMap bI "__annotations__") N (s0 P b) (topStub p)).bind λc=>match chk p (cF P) c with
      |true=>KF c
      |false=>KM
    |false=>KM)=KF a
  rw[g,i,j,r];show nu f (match chk p (cF P) s.abs with
      |true=>KF s.abs
      |false=>KM)=KF a
  rw[k];exact congrArg KF l
def pO{α a e h:Type}{x:Option α}{f:α → a×e}{g:α → h}{b:a}{c:e}{d:h}(i:x.map (λs=>((f s).1,g s))=KF (b,d))(j:x.map (λs=>(f s).2)=KF c):x.map (λs=>(f s,g s))=KF ((b,c),d):=by
  cases x with
  |none=>cases i
  | some s=>
    obtain⟨k,l⟩:=oz (cq i);have m:(f s).2=c:=cq j;exact congrArg KF (lH (lH k m) l)
noncomputable abbrev R(p:aP)(N:Nat)(w:aY)(P:iX)(os:gR):Option mD:=pj treeTable p w 11 (KF (.ref 6)) N (H8 P os) (topStub p)
def left_of{p q:aP}{loose:List Str}{Xt:ag → Bool}{α:Type}{Yf:ag → α}{Ya:aY → α}{N:Nat}{b:Bool}(a:String)(e:opening p=plainProg p.main.scope.names)(i:Nat.ble 600 N=qb)(j:∀s,fenceModules? p s=KF s)
    (l:∀(v:Bool)(w:aY)(c:gR),(R p N (w.withFollow a v) w.params c).map (λs=>(chk p (cF w.params) s.abs,((openSeen q loose (dD p.main.body) Xt b s.abs).1,Yf s.abs)))=KF (qb,(openGood q loose).1,Ya (w.withFollow a v)))
    (m:∀(v:Bool)(w:aY)(c:gR),(R p N (w.withFollow a v) w.params c).map (λs=>(chk p (cF w.params) s.abs,(openSeen q loose (dD p.main.body) Xt b s.abs).2))=KF (qb,(openGood q loose).2)):
    LeftO p q loose Xt Yf Ya N b:=LeftO.of_split a λw=>by
  obtain⟨⟨h,n,d,k,c⟩,x,y⟩:=iz.mp (boot_open e i j w);obtain⟨rfl,rfl,rfl,rfl⟩:h=cF w.params ∧ n=lG [] ∧ d=boot_drawn ∧ k=boot_toks:=by simpa using y
  rw[x];have go (v:Bool):(topFrom treeTable p (w.withFollow a v) N (s0 w.params c)).map (λs=>(openSeen q loose (dD p.main.body) Xt b s,Yf s))=KF (openGood q loose,Ya (w.withFollow a v)):=
    pO (f:=λs=>openSeen q loose (dD p.main.body) Xt b s) (g:=Yf) (pC (f:=λs=>((openSeen q loose (dD p.main.body) Xt b s).1,Yf s)) (l v w c)) (pC (f:=λs=>(openSeen q loose (dD p.main.body) Xt b s).2) (m v w c))
  exact congrArg KF (lH (go qh) (go qb))
end DLT

namespace K87
open PySem PySem.W
abbrev As:List ae:=[2,3,15,22,23,24,25,28,35,36,37,40,42,43,45,46,47,49,50,52,53,54,55,57,58,60,61,62,65,66,67,69,70,72,73,74,76,77,79,80,81,84,85,86,89,90,91,93,94,96,97,98,101,102,103,105,106,108,109,110,112,113,115,116,117,120,121,122,125,126,127,130,131,132,134,135,137,138,139,142,143,144,147,148,149,152,153,154,157,158,159,162,163,164,167,168,169,170,173,174,175,178,179,180,183,184,185,188,189,190,192,193,195,196,197,199,200,202,203,204,206,207,209,210,211,213,214,216,217,218,221,222,223,226,227,228,230,231,233,234,235,237,238,240,241,242,245,246,247,250,251,252,255,256,257,259,260,262,263,264,267,268,269,272,273,274,277,278,279,282,283,284,287,288,289,291,292,294,295,296,299,300,301,304,305,306,309,310,311,313,314,316,317]
noncomputable def Hk:PySem.W.Hook:=PySem.W.kmHook K87.hp.heap_1 K87.As (λ_=>by kernel_rfl) [160]
abbrev Pg:aP:=bR.row.prog
set_option maxRecDepth 100000 in
def la1:∀(w:aY)(a:gR),(DLT.R Pg 3912 (w.withFollow "special-get-raises" qh) w.params a).map (λs=>(DLT.chk Pg (cF w.params) s.abs,((openSeen Qv Lv (dD Pg.main.body) Xv qb s.abs).1,(Hk.obs s.abs,decide (0<s.abs.toks)))))=KF (qb,((openGood Qv Lv).1,(Hk.val (w.withFollow "special-get-raises" qh),qb))):=λw a=>by kernel_rfl
set_option maxRecDepth 100000 in
def Ie:∀(w:aY)(a:gR),(DLT.R Pg 3912 (w.withFollow "special-get-raises" qh) w.params a).map (λs=>(DLT.chk Pg (cF w.params) s.abs,(openSeen Qv Lv (dD Pg.main.body) Xv qb s.abs).2))=KF (qb,(openGood Qv Lv).2):=λw a=>by kernel_rfl
set_option maxRecDepth 100000 in
def lb1:∀(w:aY)(a:gR),(DLT.R Pg 3912 (w.withFollow "special-get-raises" qb) w.params a).map (λs=>(DLT.chk Pg (cF w.params) s.abs,((openSeen Qv Lv (dD Pg.main.body) Xv qb s.abs).1,(Hk.obs s.abs,decide (0<s.abs.toks)))))=KF (qb,((openGood Qv Lv).1,(Hk.val (w.withFollow "special-get-raises" qb),qb))):=λw a=>by kernel_rfl
set_option maxRecDepth 100000 in
def lb2:∀(w:aY)(a:gR),(DLT.R Pg 3912 (w.withFollow "special-get-raises" qb) w.params a).map (λs=>(DLT.chk Pg (cF w.params) s.abs,(openSeen Qv Lv (dD Pg.main.body) Xv qb s.abs).2))=KF (qb,(openGood Qv Lv).2):=λw a=>by kernel_rfl
def lw:PySem.W.LeftO Pg Qv Lv Xv (λs=>(Hk.obs s,decide (0<s.toks))) (λw=>(Hk.val w,qb)) 3912:=DLT.left_of "special-get-raises" rfl rfl (λ_=>rfl) (λv=>match v with|false=>la1|true=>lb1) (λv=>match v with|false=>Ie|true=>lb2)
end K87

-- Nr: your Tw module here, as the last of Tp rows
namespace L2
open PySem PySem.Spec PyProof.Rows
abbrev Key:=Sum Int Str
def B2:Key->ab->Bool
 |.inl k,v=>iA k v
 |.inr x,v=>fG x v
noncomputable def Va(w:aY):Key->Int
 |.inl k=>hashInt k
 |.inr x=>hashStr w x
def yk:∀{k:Key}{v:ab},B2 k v=qb->(∃i t,k=gT i/\v=l9 i t)\/(∃x t,k=dk x/\v=jv x t)
 | .inl i,v,h=>by
  obtain⟨t,e⟩:=Value.isInt_shape (k:=i) (v:=v) h;exact .inl ⟨i,t,rfl,e⟩
 | .inr x,v,h=>by
  obtain⟨t,e⟩:=jd (x:=x) (v:=v) h;exact .inr ⟨x,t,rfl,e⟩
def zcU(i:Int)(t:Tok):B2 (.inl i) (.int i t)=qb:=by simp[B2,iA]
def zdw(x:Str)(t:Tok):B2 (.inr x) (.str x t)=qb:=by simp[B2,fG]
def Xc(a b:Int):decide ((gT a:Key)=gT b)=(a==b):=by
 by_cases e:a=b
 ·subst e;simp
 ·have h:¬ (gT a:Key)=gT b:=λq=>e (Sum.inl.inj q);rw[decide_eq_false h];exact(beq_eq_false_iff_ne.mpr e).symm
def Xl(a b:Str):decide ((dk a:Key)=dk b)=decide (a=b):=by
 by_cases e:a=b
 ·subst e;simp
 ·have h:¬ (dk a:Key)=dk b:=λq=>e (jp q);rw[decide_eq_false h,decide_eq_false e]
def Wm(a:Int)(b:Str):decide ((gT a:Key)=dk b)=qh:=decide_eq_false (λq=>nomatch q)
def WQ(a:Str)(b:Int):decide ((dk a:Key)=gT b)=qh:=decide_eq_false (λq=>nomatch q)
def uM(prog:aP)(w:aY):PySem.KeyKind prog w Key where
 is:=B2
 hash:=Va w
 inj:=λv a b ha hb=>by
  rcases yk ha with⟨i,t,rfl,rfl⟩|⟨x,t,rfl,rfl⟩
  ·rcases yk hb with⟨j,u,rfl,e⟩|⟨y,u,rfl,e⟩
   ·injection e with e1 _;rw[e1]
   ·exact nomatch e
  ·rcases yk hb with⟨j,u,rfl,e⟩|⟨y,u,rfl,e⟩
   ·exact nomatch e
   ·injection e with e1 _;rw[e1]
 byValue:=λk v h=>by
  rcases yk h with⟨i,t,rfl,rfl⟩|⟨x,t,rfl,rfl⟩<;>rfl
 pyHash:=λhv h=>by
  rcases yk hv with⟨i,t,rfl,rfl⟩|⟨x,t,rfl,rfl⟩
  ·exact wpAny_pyHash_int h
  ·exact wpAny_pyHash_str h
 eqBool:=λhu hv h=>by
  rcases yk hu with⟨i,t,rfl,rfl⟩|⟨x,t,rfl,rfl⟩
  ·rcases yk hv with⟨j,u,rfl,rfl⟩|⟨y,u,rfl,rfl⟩
   ·rw[Xc] at h;exact wpAny_eqBool_int h
   ·rw[Wm] at h;exact SeqAt.EqAt.int_str i t y u _ _ _ _ h
  ·rcases yk hv with⟨j,u,rfl,rfl⟩|⟨y,u,rfl,rfl⟩
   ·rw[WQ] at h;exact SeqAt.EqAt.str_int x t j u _ _ _ _ h
   ·rw[Xl] at h;exact wpAny_eqBool_str h
 «strs»:=λk x t v h=>by
  rcases yk h with⟨i,u,rfl,e⟩|⟨y,u,rfl,e⟩
  ·exact nomatch e
  ·injection e with e1 _;subst e1;cases v<;>rfl
def z9H(prog:aP)(w:aY)(i:Int)(t:Tok):(uM prog w).is (.inl i) (.int i t)=qb:=zcU i t
def z9u(prog:aP)(w:aY)(x:Str)(t:Tok):(uM prog w).is (.inr x) (.str x t)=qb:=zdw x t
inductive V where
 |non|bl (b:Bool)|int (i:Int)|str (x:Str)|byt (b:Array UInt8)|flt (b:UInt64)|ref (a:ae)|ty (n:String)
 deriving DecidableEq
def RelV:V->ab->Prop
 |.non,u=>u=gJ
 |.bl b,u=>u=Value.bool b
 |.int i,u=>∃t,u=l9 i t
 |.str x,u=>∃t,u=jv x t
 |.byt b,u=>∃t,u=Value.bytes b t
 |.flt b,u=>∃t,u=Value.float b t
 |.ref a,u=>u=fu a
 |.ty n,u=>u=ez n
abbrev oE:List V->List ab->Prop:=cj RelV
def oE.length{xs:List V}{a:List ab}(r:oE xs a):xs.length=a.length:=lS r
theorem oE.get:∀{xs:List V}{a:List ab}{i:Nat}{x:V},oE xs a->xs[i]?=KF x->∃u,a[i]?=KF u/\RelV x u
 |_,_,_,_,.nil,e=>by simp at e
 |_,_,0,_,.cons r _,e=>by simp at e;subst e;exact⟨_,rfl,r⟩
 | _,_,i+1,x,.cons _ t,e=>by
  obtain⟨u,b,c⟩:=oE.get (i:=i) (x:=x) t (by simpa using e);exact⟨u,by simpa using b,c⟩
theorem oE.set{x:V}{u:ab}(r:RelV x u):∀{xs:List V}{a:List ab}(i:Nat),oE xs a->oE (xs.set i x) (a.set i u)
 |_,_,_,.nil=>.nil
 |_,_,0,.cons _ t=>.cons r t
 |_,_,i+1,.cons q t=>.cons q (oE.set r i t)
theorem oE.append:∀{xs a:List V}{b c:List ab},oE xs b->oE a c->oE (xs++a) (b++c)
 |_,_,_,_,.nil,s=>s
 |_,_,_,_,.cons r t,s=>.cons r (oE.append t s)
theorem oE.take:∀{xs:List V}{a:List ab}(n:Nat),oE xs a->oE (xs.take n) (a.take n)
 |_,_,0,_=>.nil
 |_,_,_+1,.nil=>.nil
 |_,_,n+1,.cons r t=>.cons r (oE.take n t)
theorem oE.drop:∀{xs:List V}{a:List ab}(n:Nat),oE xs a->oE (xs.drop n) (a.drop n)
 |_,_,0,r=>r
 |_,_,_+1,.nil=>.nil
 |_,_,n+1,.cons _ t=>oE.drop n t
def o0:Option V->Option ab->Prop
 |some v,KF u=>RelV v u
 |none,KM=>True
 |_,_=>False
def KV{κ:Type}:List (κ×V)->List (κ×ab)->Prop:=cj λ(p:κ×V)(q:κ×ab)=>p.1=q.1/\RelV p.2 q.2
def kV:Key->V
 |.inl i=>.int i
 |.inr x=>.str x
inductive HO where
 |lst (xs:List V)
 |tup (xs:List V)
 |dK (k_:List (Key×V))|dT (k_:List (List Key×V))
 |set (S:Int->Bool) (n:Nat)
 |ins (C dx:ae) (fs:List (Str×V))
 |own (x:ae)
 |xd (fs:List (Str×V))
 |met (f x:ae)
 |rng (lo hi:Int)
 |frz (o:Obj) (u:HO)
 |tbl (ps:Array ab)
 |ext (φ:aX->Prop)
abbrev Hp:=ae->Option HO
noncomputable def upd(H:Hp)(a:ae)(o:HO):Hp:=λb=>if b=a then KF o else H b
def rq{H:Hp}{a:ae}{o:HO}:upd H a o a=KF o:=by unfold upd;rw[qq rfl]
def p9{H:Hp}{a b:ae}{o:HO}(h:b≠a):upd H a o b=H b:=by unfold upd;rw[qM h]
def Z_:upd (upd H a o) a u=upd H a u:=by funext b;unfold upd;split<;>rfl
def Vl{H:Hp}{a b:ae}{o u:HO}(h:H a=KF o)(h':H b=KF u)(d:o≠u):a≠b:=by intro e;subst e;rw[h] at h';exact d (cq h')
def rX{H:Hp}{a b:ae}{o:HO}(h:H a=KF o)(h':H b=KM):a≠b:=by intro e;subst e;rw[h] at h';cases h'
def oX(h:aX)(a:ae)(items:Array ab):Prop:=∃o,h.get? a=KF o/\o.cls=.type "tuple"/\(∃n,o.data=.seq items n)/\o.dict=KM
def oX.tup{h:aX}{a:ae}{b:Array ab}(x:oX h a b):IsTup h a b:=let ⟨o,e,c,d,_⟩:=x;⟨o,e,c,d⟩
def oX.new(h:aX)(a:Array ab):oX (h.push { cls:=.type "tuple",data:=.seq a }) h.objs.size a:=⟨_,aE _ rfl,rfl,⟨_,rfl⟩,rfl⟩
section
variable(P:aP)(w:aY)
def oN(H:Hp)(h:aX)(a:ae):HO->Prop
 |.lst xs=>xs.length<=xc/\∃(g_:List ab)(n:Nat),oE xs g_/\h.get? a=KF { cls:=.type "list",data:=.seq g_.toArray n }
 |.tup xs=>xs.length<=xc/\∃g_:List ab,oE xs g_/\oX h a g_.toArray
 |.dK k_=>k_.length<=xc/\(a==sysModules)=qh/\∃vs,KV k_ vs/\h.DictOf (uM P w) a vs
 | .dT k_=>k_.length<=xc/\(a==sysModules)=qh/\∃xs:List (List Key×ae×ab),
   cj (λ(p:List Key×V)(q:List Key×ae×ab)=>p.1=q.1/\H q.2.1=KF (.tup (p.1.map kV))/\RelV p.2 q.2.2) k_ xs/\
   ∃o es ep,h.get? a=KF o/\o.ExactDict/\o.data=.dict es ep/\es.toList=xs.map (entryOfKey (tupleKind (uM P w)))/\(xs.map (·.1)).Nodup
 |.set S n=>h.SetOf (intKind P w) a S n
 | .ins C dx fs=>H dx=KF (.own a)/\fs.length<=1000/\dx≠a/\h.get? a=KF (nv C dx)/\
   ∃mA,h.Ns1 dx mA/\(∀f,o0 (fs.lookup f) (mA f))/\PySem.Within mA (fs.map (·.1))
 |.own _=>∃o,h.get? a=KF o
 |.xd fs=>∃mA,h.Ns1 a mA/\∀f,o0 (fs.lookup f) (mA f)
 |.rng lo hi=>∃t u v,h.get? a=KF { cls:=.type "range",data:=.fields #[.int lo t,.int hi u,.int 1 v] }
 |.frz o u=>h.get? a=KF o/\oN H h a u
 |.tbl ps=>h.get? a=KF { cls:=.none,data:=.fields ps }
 |.met f x=>h.get? a=KF (jU (.ref f) (.ref x))
 |.ext φ=>φ h/\(∃o,h.get? a=KF o)/\∀h1 h2:aX,φ h1->(∀o,h1.get? a=KF o->h2.get? a=KF o)->φ h2
def HOk(H:Hp)(h:aX):Prop:=∀a o,H a=KF o->oN P w H h a o
end
section
variable{P:aP}{w:aY}{H H':Hp}{h h':aX}{a:ae}{o:HO}
def oN.lt(x:oN P w H h a o):a<h.objs.size:=by
 cases o with
 |lst xs=>obtain⟨_,_,_,_,e⟩:=x;exact aK e
 |tup xs=>obtain⟨_,_,_,p⟩:=x;exact(oX.tup p).lt
 |dK k_=>obtain⟨_,_,_,_,o,_,_,e,_⟩:=x;exact aK e
 |dT k_=>obtain⟨_,_,_,_,o,_,_,e,_⟩:=x;exact aK e
 |set S n=>obtain⟨o,_,_,_,e,_⟩:=x;exact aK e
 |ins C dx fs=>obtain⟨_,_,_,e,_⟩:=x;exact aK e
 |own y=>obtain⟨_,e⟩:=x;exact aK e
 |xd fs=>obtain⟨_,⟨_,_,_,e,_⟩,_⟩:=x;exact aK e
 |rng lo hi=>obtain⟨_,_,_,e⟩:=x;exact aK e
 |frz ob u=>obtain⟨e,_⟩:=x;exact aK e
 |tbl ps=>exact aK (show h.get? a=KF _ from x)
 |met f y=>exact aK (show h.get? a=KF _ from x)
 |ext φ=>obtain⟨_,⟨_,e⟩,_⟩:=x;exact aK e
theorem Paired.mapP{α c:Type}{F G:α->c->Prop}:∀{d:List α}{e:List c},cj F d e->(∀a b,F a b->G a b)->cj G d e
 |_,_,.nil,_=>.nil
 |_,_,.cons r t,f=>.cons (f _ _ r) (Paired.mapP t f)
def oN.stay(x:oN P w H h a o)(k:∀b u,(b=a\/H b=KF (.own a))->h.get? b=KF u->h'.get? b=KF u)
  (B:∀b,H b=KF (.own a)->H' b=KF (.own a)) (D:∀b xs,H b=KF (.tup xs)->H' b=KF (.tup xs)):oN P w H' h' a o:=by
 induction o with
 |lst xs=>obtain⟨z,l,n,r,e⟩:=x;exact⟨z,l,n,r,k _ _ (.inl rfl) e⟩
 |tup xs=>obtain⟨z,l,r,g,e,c⟩:=x;exact⟨z,l,r,g,k _ _ (.inl rfl) e,c⟩
 |dK k_=>obtain⟨z,y,E,r,g,i,j,e,c⟩:=x;exact⟨z,y,E,r,g,i,j,k _ _ (.inl rfl) e,c⟩
 | dT k_=>
  obtain⟨z,y,xs,r,g,i,j,e,c⟩:=x;exact⟨z,y,xs,Paired.mapP r λp q z=>⟨z.1,D _ _ z.2.1,z.2.2⟩,g,i,j,k _ _ (.inl rfl) e,c⟩
 |set S n=>obtain⟨g,i,j,t,e,c⟩:=x;exact⟨g,i,j,t,k _ _ (.inl rfl) e,c⟩
 | ins C dx fs=>
  obtain⟨d,z,F,e,m,⟨s,i,j,G,c⟩,r⟩:=x;exact⟨B _ d,z,F,k _ _ (.inl rfl) e,m,⟨s,i,j,k _ _ (.inr d) G,c⟩,r⟩
 |own y=>obtain⟨g,e⟩:=x;exact⟨g,k _ _ (.inl rfl) e⟩
 |xd fs=>obtain⟨m,⟨s,i,j,e,c⟩,r⟩:=x;exact⟨m,⟨s,i,j,k _ _ (.inl rfl) e,c⟩,r⟩
 |rng lo hi=>obtain⟨t,u,v,e⟩:=x;exact⟨t,u,v,k _ _ (.inl rfl) e⟩
 |frz g u ih=>obtain⟨e,q⟩:=x;exact⟨k _ _ (.inl rfl) e,ih q⟩
 | tbl ps=>
  have e:h.get? a=KF { cls:=.none,data:=.fields ps }:=x;show h'.get? a=KF { cls:=.none,data:=.fields ps };exact k a _ (.inl rfl) e
 | met f y=>
  have e:h.get? a=KF (jU (.ref f) (.ref y)):=x;show h'.get? a=KF (jU (.ref f) (.ref y));exact k a _ (.inl rfl) e
 |ext φ=>obtain⟨p,⟨o,e⟩,A⟩:=x;exact⟨A _ _ p λo q=>k _ _ (.inl rfl) q,⟨o,k _ _ (.inl rfl) e⟩,A⟩
def HOk.lt(x:HOk P w H h)(e:H a=KF o):a<h.objs.size:=(x a o e).lt
def HOk.fresh(x:HOk P w H h)(e:h.objs.size<=a):H a=KM:=by
 cases q:H a with
 |none=>rfl
 |some u=>exact absurd (bb (x.lt q) e) (bS _)
def HOk.kept(x:HOk P w H h)(k:∀b u,h.get? b=KF u->h'.get? b=KF u):HOk P w H h':=λa o e=>
 (x a o e).stay (λb u _ q=>k b u q) (λ_ q=>q) λ_ _ q=>q
def HOk.laid(x:HOk P w H h)(k:∀b u,h.get? b=KF u->h'.get? b=KF u)(i:h.objs.size<=a)(d:oN P w (upd H a o) h' a o):HOk P w (upd H a o) h':=λb u e=>by
 have f:=x.fresh i;by_cases g:b=a
 ·subst g;rw[rq] at e;cases e;exact d
 ·rw[p9 g] at e;exact(x b u e).stay (λc v _ q=>k c v q) (λc q=>by rw[p9 (rX q f)];exact q) λc j q=>by rw[p9 (rX q f)];exact q
end
def Rd(H:Hp)(a:ae)(u:HO):Prop:=H a=KF u \/ ∃o,H a=KF (.frz o u)
def Rd.of(h:H a=KF u):Rd H a u:=.inl h
def Rd.ok(r:Rd H a u)(x:HOk P w H h):oN P w H h a u:=by
 rcases r with r|⟨o,r⟩
 ·exact x a u r
 ·obtain⟨_,q⟩:=x a _ r;exact q
def F5:Option HO->Prop
 |some (.lst _)=>True
 |some (.dK _)=>True
 |some (.dT _)=>True
 |some (.set _ _)=>True
 |some (.ins _ _ _)=>True
 |some (.ext _)=>True
 |_=>False
section
variable{P:aP}{w:aY}{H:Hp}{h h':aX}{x e:ae}{o':HO}
def HOk.write(ok:HOk P w H h)(a:F5 (H x))(j:e=x\/H e=KF (.own x))(k:∀b u,b≠e->h.get? b=KF u->h'.get? b=KF u)(n:∃u,h'.get? e=KF u)
  (i:oN P w (upd H x o') h' x o'):HOk P w (upd H x o') h':=λb u q=>by
 have l:∀c y,H c=KF (.own y)->c≠x:=λc y r z=>by subst z;rw[r] at a;exact a
 have o:∀c d,H c=KF (.tup d)->c≠x:=λc d r z=>by subst z;rw[r] at a;exact a
 by_cases f:b=x
 ·subst f;rw[rq] at q;cases q;exact i
 ·rw[p9 f] at q;by_cases g:b=e
  ·have m:H b=KF (.own x):=by
    rcases j with z|z
    ·exact absurd (g.trans z) f
    ·rw[g];exact z
   rw[q] at m;cases m;obtain⟨v,p⟩:=n;exact⟨v,by rw[g];exact p⟩
  ·refine(ok b u q).stay (λc v hc r=>k c v ?_ r) (λc r=>by rw[p9 (l c b r)];exact r) λc d r=>by rw[p9 (o c d r)];exact r
   rcases hc with rfl|hc
   ·exact g
   ·rintro rfl;rcases j with z|z
    ·exact l c b hc z
    ·rw[hc] at z;cases z;exact f rfl
end
structure Un(fs ex:List ae)(H H':Hp)(h h':aX):Prop where
 keep:∀b o,h.get? b=KF o->H b=KM->b∉fs->b∉ex->h'.get? b=KF o
 slot:∀b o,h.get? b=KF o->H b=KM->b∈fs->b∉ex->∃sl,h'.get? b=KF { o with slots:=sl }
 free:∀b o,h.get? b=KF o->H b=KM->b∉ex->H' b=KM
 there:∀b o,h.get? b=KF o->b∉ex->∃o',h'.get? b=KF o'
 tups:∀b xs,H b=KF (.tup xs)->H' b=KF (.tup xs)
 frzs:∀b o u,H b=KF (.frz o u)->H' b=KF (.frz o u)
 tbls:∀b ps,H b=KF (.tbl ps)->∃more,H' b=KF (.tbl (ps++more))
section
variable{fs UB ex UI:List ae}{H H1 H2:Hp}{h h1 h2 h':aX}{a x e:ae}{o:HO}
def Un.any(u:Un fs ex H H1 h h1){b:ae}{ob:Obj}(q:h.get? b=KF ob)(n:H b=KM)(c:b∉ex):∃sl,h1.get? b=KF { ob with slots:=sl }:=by
 by_cases d:b∈fs
 ·exact u.slot b ob q n d c
 ·exact⟨ob.slots,u.keep b ob q n d c⟩
def Un.trans(a:Un fs ex H H1 h h1)(b:Un fs ex H1 H2 h1 h2):Un fs ex H H2 h h2 where
 keep:=λc d q n i f=>b.keep c d (a.keep c d q n i f) (a.free c d q n f) i f
 slot:=λc d q n i f=>by
  obtain⟨t,g⟩:=a.slot c d q n i f;obtain⟨m,k⟩:=b.slot c _ g (a.free c d q n f) i f;exact⟨m,k⟩
 free:=λc d q n f=>by
  obtain⟨l,g⟩:=a.there c d q f;exact b.free c l g (a.free c d q n f) f
 there:=λc d q f=>by
  obtain⟨l,g⟩:=a.there c d q f;exact b.there c l g f
 tups:=λc j q=>b.tups c j (a.tups c j q)
 frzs:=λc d j q=>b.frzs c d j (a.frzs c d j q)
 tbls:=λc p q=>by
  obtain⟨r,g⟩:=a.tbls c p q;obtain⟨s,k⟩:=b.tbls c _ g;exact⟨r++s,by rw[k,ma]⟩
def Un.kept(k:∀b u,h.get? b=KF u->h'.get? b=KF u):Un fs ex H H h h':=
 ⟨λb c q _ _ _=>k b c q,λb c q _ _ _=>⟨c.slots,k b c q⟩,λ_ _ _ n _=>n,λb c q _=>⟨c,k b c q⟩,λ_ _ q=>q,λ_ _ _ q=>q,λ_ d q=>⟨#[],by rw[q];simp⟩⟩
def Un.refl:Un fs ex H H h h:=Un.kept λ_ _ q=>q
def Un.laid(k:∀b u,h.get? b=KF u->h'.get? b=KF u)(d:h.objs.size<=a)(c:H a=KM):Un fs ex H (upd H a o) h h' where
 keep:=λb u q _ _ _=>k b u q
 slot:=λb u q _ _ _=>⟨u.slots,k b u q⟩
 free:=λb u q n _=>by rw[p9 (bo (bb (aK q) d))];exact n
 there:=λb u q _=>⟨u,k b u q⟩
 tups:=λb f q=>by rw[p9 (rX q c)];exact q
 frzs:=λb u f q=>by rw[p9 (rX q c)];exact q
 tbls:=λb g q=>⟨#[],by rw[p9 (rX q c),q];simp⟩
def Un.write(c:F5 (H x))(j:e=x\/H e=KF (.own x))(k:∀b u,b≠e->h.get? b=KF u->h'.get? b=KF u)(l:∃u,h'.get? e=KF u):Un fs ex H (upd H x o) h h':=by
 have f:∀b,H b=KM->b≠x:=λb n z=>by subst z;rw[n] at c;exact c
 have g:∀b,H b=KM->b≠e:=λb n z=>by
  subst z;rcases j with r|r
  ·exact f b n r
  ·rw[n] at r;cases r
 have d:∀b u,H b=KF u->¬ F5 (KF u)->b≠x:=λb u q m z=>by subst z;rw[q] at c;exact m c
 refine⟨λb u q n _ _=>k b u (g b n) q,λb u q n _ _=>⟨u.slots,k b u (g b n) q⟩,λb u q n _=>by rw[p9 (f b n)];exact n,λb u q _=>?_,
  λb p q=>by rw[p9 (d b _ q λz=>z)];exact q,λb u p q=>by rw[p9 (d b _ q λz=>z)];exact q,λb s q=>⟨#[],by rw[p9 (d b _ q λz=>z),q];simp⟩⟩
 by_cases i:b=e
 ·subst i;exact l
 ·exact⟨u,k b u i q⟩
def Un.mono(u:Un fs ex H H1 h h1)(g:∀b∈fs,b∈UB)(f:∀b∈ex,b∈UI):Un UB UI H H1 h h1:=
 ⟨λb d q n i c=>u.keep b d q n (λz=>i (g b z)) λz=>c (f b z),λ_ _ q n _ c=>u.any q n λz=>c (f _ z),λb d q n c=>u.free b d q n λz=>c (f b z),λb d q c=>u.there b d q λz=>c (f b z),u.tups,u.frzs,u.tbls⟩
end
def HQ(h:aX)(H:Hp):List ae:=(aO h.objs.size).filter λa=>(H a).isSome
def x8(h:aX)(H:Hp):aX:=PySem.W.hideAll h (HQ h H)
def zdV(h:aX)(H:Hp):(x8 h H).objs.size=h.objs.size:=PySem.W.hideAll_size _ _
def zfi(e:h.get? b=KF o)(n:H b=KM):(x8 h H).get? b=KF o:=
 PySem.W.hideAll_get _ e λa=>by
  have q:(H b).isSome=qb:=(aM.mp a).2;rw[n] at q;simp at q
def YB(e:(x8 h H).get? b=KF o):h.get? b=KF o/\H b=KM:=by
 have a:h.get? b=KF o:=PySem.W.of_hideAll (HQ h H) e;refine⟨a,?_⟩;cases q:H b with
 |none=>rfl
 | some x=>
  have c:b∈HQ h H:=aM.mpr ⟨bd.mpr (aK a),by simp[q]⟩;have z:(x8 h H).get? b=KM:=PySem.W.hideAll_none (HQ h H) c;rw[z] at e;cases e
noncomputable def zi7(g h:aX)(L:ae):List (ae×Obj):=(aO h.objs.size).filterMap λa=>if a=L\/(g.get? a).isSome=qb then KM else (h.get? a).map λo=>(a,o)
def rest(g h:aX)(L d:ae):List (ae×Obj):=(zi7 g h L).filter λp=>decide (p.1≠d)
structure Mod(K:ah)(mg:Str->Option ab)(base:aX):Prop where
 kin:K.In base
 glob:base.Ns bI mg
 blt:∃mb,base.Ns builtinsNs mb/\∀x:Str,x ≠ "__name__"->mb x=br x
 nolimit:base.NoLimit
structure Cx where
 prog:aP
 w:aY
 K:ah
 mg:Str->Option ab
 base:aX
 A:ba
 N:List Str
 s₀:ag
 H₀:Hp
 env:Env
 outer:List Env
 stack:List Env
 ex:List ae
 fn:Str->Bool
 calm:Bool
 pn:List (ae×Obj)
 xe:ab->ag->Prop
noncomputable def uT(l:List Env):List ae:=l.filterMap (·.frame)
abbrev Cx.fs(X:Cx):List ae:=uT X.outer
def uU(sc:cT)(x:Str):Prop:=sc.names.lookup x=KF .local\/sc.names.lookup x=KF .cell\/sc.names.lookup x=KF .free
def Loc(sc:cT)(x:Str):Prop:=sc.names.lookup x=KF .local\/sc.names.lookup x=KF .cell
def VH(env:Env)(h:aX)(m:Str->Option ab)(x:Str)(u:ab):Prop:=
 (env.kindOf x=KF .local/\m x=KF u)\/((env.kindOf x=KF .cell\/env.kindOf x=KF .free)/\∃c,env.cells.lookup x=KF c/\h.IsCell c (KF u))
structure Cx.Ok(X:Cx):Prop where
 mod:Mod X.K X.mg X.base
 kind:X.env.scope.kind=.function
 glob:X.env.globals=bI
 blt:X.env.builtins=builtinsNs
 above:X.s₀.heap.objs.size<=X.env.locals
 inj:∀x y c,X.env.cells.lookup x=KF c->X.env.cells.lookup y=KF c->x=y
 has:∀x,(X.env.kindOf x=KF .cell\/X.env.kindOf x=KF .free)->∃c,X.env.cells.lookup x=KF c
 cab:∀x c,X.fn x=qb->X.env.cells.lookup x=KF c->X.s₀.heap.objs.size<=c
 hd:X.calm=qb->X.A.handled=KM
 frames:X.A.frames=KF X.stack
 stk:X.stack=X.outer\/(X.stack=X.env::X.outer/\X.env.frame=KF X.env.locals)
 exf:∀b∈X.ex,b≠X.env.locals/\∀x c,X.env.cells.lookup x=KF c->c≠b
 bs:∀b o,X.base.get? b=KF o->X.s₀.heap.get? b=KF o/\X.H₀ b=KM
 bsz:X.base.objs.size<=X.s₀.heap.objs.size
 noex:∀b o,X.base.get? b=KF o->b∉X.ex
 exfs:∀b∈X.ex,b∉X.fs
 funs:X.s₀.heap.FunFrames X.base X.outer
 frf:∀b∈X.fs,X.H₀ b=KM
structure Inv(X:Cx)(Y1:List (ae×Obj))(σ:List (Option V))(H:Hp)(s:ag):Prop where
 ok:X.Ok
 os:s.os=X.s₀.os
 bare:il s.gens
 base:Un X.fs X.ex X.H₀ H X.s₀.heap s.heap
 loc:∃m,s.heap.Ns X.env.locals m/\∀(i:Nat)(x:Str)(v:V),X.N[i]?=KF x->σ[i]?=KF (KF v)->uU X.env.scope x->∃u,RelV v u/\VH X.env s.heap m x u
 cell:∀x c,X.env.cells.lookup x=KF c->∃v,s.heap.IsCell c v
 free:H X.env.locals=KM
 freeC:∀x c,X.env.cells.lookup x=KF c->H c=KM
 pin:∀p∈X.pn++Y1,s.heap.get? p.1=KF p.2/\H p.1=KM/\p.1≠X.env.locals/\p.1∉X.fs/\∀v,p.2.data ≠ .cell v
 hok:HOk X.prog X.w H s.heap
 len:σ.length=X.N.length
 tk:0<s.toks
section
variable{X:Cx}{Y1:List (ae×Obj)}{σ:List (Option V)}{H H':Hp}{s:ag}{h':aX}
def Cx.Ok.nofr(ok:X.Ok)(e:X.base.get? b=KF o):b∉X.fs:=λa=>by
 have:=(ok.funs.mem a).1;rw[e] at this;cases this
def Inv.bs(I:Inv X Y1 σ H s):∀b o,X.base.get? b=KF o->s.heap.get? b=KF o/\H b=KM:=λb o e=>
 ⟨I.base.keep b o (I.ok.bs b o e).1 (I.ok.bs b o e).2 (I.ok.nofr e) (I.ok.noex b o e),I.base.free b o (I.ok.bs b o e).1 (I.ok.bs b o e).2 (I.ok.noex b o e)⟩
def Inv.bk(I:Inv X Y1 σ H s):∀b o,X.base.get? b=KF o->s.heap.get? b=KF o:=λb o e=>(I.bs b o e).1
def Inv.mod(I:Inv X Y1 σ H s):Mod X.K X.mg X.base:=I.ok.mod
def Inv.kIn(I:Inv X Y1 σ H s):X.K.In s.heap:=I.ok.mod.kin.keeps I.bk
def Inv.lt(I:Inv X Y1 σ H s):X.env.locals<s.heap.objs.size:=let ⟨_,hn,_⟩:=I.loc;hn.lt
def Inv.sz(I:Inv X Y1 σ H s):X.s₀.heap.objs.size<=s.heap.objs.size:=aI I.ok.above (gu I.lt)
def Inv.nofs(I:Inv X Y1 σ H s)(h:s.heap.objs.size<=a):a∉X.fs:=λb=>by
 obtain⟨_,o,c,_⟩:=I.ok.funs.mem b;exact absurd (bb (aK c) (aI I.sz h)) (bS _)
def Inv.cne(I:Inv X Y1 σ H s):∀x c,X.env.cells.lookup x=KF c->c≠X.env.locals:=λx c e z=>by
 obtain⟨v,o,a,b⟩:=I.cell x c e;obtain⟨m,⟨g,h,i,d,f,_⟩,_⟩:=I.loc;rw[z,d] at a;cases a;rw[f] at b;cases b
def Inv.funs(I:Inv X Y1 σ H s):s.heap.FunFrames X.base X.outer:=by
 have a:∀(l:List Env),(∀b∈uT l,b∈X.fs)->X.s₀.heap.FunFrames X.base l->s.heap.FunFrames X.base l:=by
  intro l
  induction l with
  |nil=>intro _ _;trivial
  | cons env r ih=>
   intro g h;obtain⟨i,⟨L,o,c,j,k,m⟩,n⟩:=h;have d:L∈X.fs:=g L (by unfold uT;rw[e8,c];exact ar);obtain⟨p,e⟩:=I.base.slot L o k (I.ok.frf L d) d λz=>I.ok.exfs L z d;exact⟨i,⟨L,_,c,j,e,m⟩,ih (λb f=>g b (by unfold uT;rw[e8,c];exact aj _ f)) n⟩
 exact a X.outer (λ_ f=>f) I.ok.funs
def Inv.stack(I:Inv X Y1 σ H s):s.heap.FunFrames X.base X.stack:=by
 rcases I.ok.stk with e|⟨e,a⟩
 ·rw[e];exact I.funs
 ·rw[e];obtain⟨m,b,_⟩:=I.loc;refine .cons (by rw[I.ok.kind];decide) a b ?_ I.funs;exact Heap.get?_none_of_le (aI I.ok.bsz I.ok.above)
def Inv.stkSub(I:Inv X Y1 σ H s):∀b∈uT X.stack,b∈X.env.locals::X.fs:=λb a=>by
 rcases I.ok.stk with e|⟨e,c⟩
 ·rw[e] at a;exact aj _ a
 ·rw[e] at a;unfold uT at a;rw[e8,c] at a;exact a
def Inv.stkFree(I:Inv X Y1 σ H s):∀b∈uT X.stack,H b=KM:=λb hb=>by
 rcases am.mp (I.stkSub b hb) with e|hb
 ·rw[e];exact I.free
 ·obtain⟨_,o,a,_⟩:=I.ok.funs.mem hb;exact I.base.free b o a (I.ok.frf b hb) λz=>I.ok.exfs b z hb
def Inv.step{g':Array mW}{t':Nat}{d':Drawn}{ch:List ae}(I:Inv X Y1 σ H s)
  (C:∀b∈ch,(b∈X.ex\/X.s₀.heap.objs.size<=b)/\b≠X.env.locals/\(∀x c,X.env.cells.lookup x=KF c->c≠b)/\∀p∈X.pn++Y1,p.1≠b)
  (g:∀b o,b≠X.env.locals->b∉X.fs->b∉ch->s.heap.get? b=KF o->H b=KM->h'.get? b=KF o)
  (t:∀b o,b≠X.env.locals->b∈X.fs->b∉ch->s.heap.get? b=KF o->H b=KM->∃sl,h'.get? b=KF { o with slots:=sl }) (f:∀b o,b∉ch->s.heap.get? b=KF o->H b=KM->H' b=KM)
  (y:∀b o,b∉ch->s.heap.get? b=KF o->∃D,h'.get? b=KF D)
  (E:∀b xs,H b=KF (.tup xs)->H' b=KF (.tup xs)) (F:∀b o u,H b=KF (.frz o u)->H' b=KF (.frz o u)) (G:∀b M,H b=KF (.tbl M)->∃J,H' b=KF (.tbl (M++J)))
  (ns:∀m,s.heap.Ns X.env.locals m->h'.Ns X.env.locals m) (O:HOk X.prog X.w H' h') (W:il g') (Y:0<t'):
  Inv X Y1 σ H' { s with heap:=h',gens:=g',drawn:=d',toks:=t' }:=by
 have Q:∀b o,X.s₀.heap.get? b=KF o->b≠X.env.locals:=λb o e=>bo (bb (aK e) I.ok.above);have N:∀b o,X.s₀.heap.get? b=KF o->b∉X.ex->b∉ch:=λb o e a A=>by
  rcases (C b A).1 with z|z
  ·exact a z
  ·exact absurd (bb (aK e) z) (bS _)
 have h:∀x c,X.env.cells.lookup x=KF c->∀v,s.heap.IsCell c v->h'.IsCell c v:=λx c e v ⟨o,B,P⟩=>by
  have K:c∉ch:=λz=>(C c z).2.2.1 x c e rfl;by_cases R:c∈X.fs
  ·obtain⟨sl,q⟩:=t c o (I.cne x c e) R K B (I.freeC x c e);exact⟨_,q,P⟩
  ·exact⟨o,g c o (I.cne x c e) R K B (I.freeC x c e),P⟩
 refine⟨I.ok,I.os,W,⟨λb o e n A a=>?_,λb o e n A a=>?_,λb o e n a=>?_,λb o e a=>?_,λb xs e=>E b xs (I.base.tups b xs e),λb o xs e=>F b o xs (I.base.frzs b o xs e),λb M e=>?_⟩,?_,λx c e=>?_,?_,λx c e=>?_,λp S=>?_,O,I.len,Y⟩
 ·exact g b o (Q b o e) A (N b o e a) (I.base.keep b o e n A a) (I.base.free b o e n a)
 ·obtain⟨sl,j⟩:=I.base.slot b o e n A a;obtain⟨Z,L⟩:=t b _ (Q b o e) A (N b o e a) j (I.base.free b o e n a);exact⟨Z,L⟩
 ·obtain⟨D,j⟩:=I.base.there b o e a;exact f b D (N b o e a) j (I.base.free b o e n a)
 ·obtain⟨D,j⟩:=I.base.there b o e a;exact y b D (N b o e a) j
 ·obtain⟨m1,j⟩:=I.base.tbls b M e;obtain⟨m2,L⟩:=G b _ j;exact⟨m1++m2,by rw[L,ma]⟩
 ·obtain⟨m,hn,hl⟩:=I.loc;refine⟨m,ns m hn,λi x v j L e3=>?_⟩;obtain⟨u,r,l⟩:=hl i x v j L e3;refine⟨u,r,?_⟩;rcases l with l|⟨k,c,e,z⟩
  ·exact .inl l
  ·exact .inr ⟨k,c,e,h x c e _ z⟩
 ·obtain⟨v,z⟩:=I.cell x c e;exact⟨v,h x c e v z⟩
 ·obtain⟨m,⟨o,_,_,B,_⟩,_⟩:=I.loc;exact f _ o (λz=>(C _ z).2.1 rfl) B I.free
 ·obtain⟨v,o,B,P⟩:=I.cell x c e;exact f c o (λz=>(C c z).2.2.1 x c e rfl) B (I.freeC x c e)
 ·obtain⟨e,n,T,U,d⟩:=I.pin p S;have K:p.1∉ch:=λz=>(C p.1 z).2.2.2 p S rfl;exact⟨g p.1 p.2 T U K e n,f p.1 p.2 K e n,T,U,d⟩
def Inv.un{t':Nat}(I:Inv X Y1 σ H s)(u:Un X.fs [] H H' s.heap h')(a:HOk X.prog X.w H' h')(h:0<t':=by first|exact cO _|exact Inv.tk ‹_›|assumption|lia):Inv X Y1 σ H' { s with heap:=h',toks:=t' }:=by
 obtain⟨m,⟨o,p,q,f,r⟩,_⟩:=id I.loc;obtain⟨t,i⟩:=u.any f I.free 'k';exact I.step (g':=s.gens) (d':=s.drawn) (ch:=[]) (λ_ z=>nomatch z) (λb o _ c _ e n=>u.keep b o e n c 'k') (λb o _ c _ e n=>u.slot b o e n c 'k') (λb o _ e n=>u.free b o e n 'k') (λb o _ e=>u.there b o e 'k') u.tups u.frzs u.tbls (λv j=>by
  obtain⟨x,d,k,g,l⟩:=j;rw[f] at g;cases g;exact⟨_,d,k,i,l⟩) a I.bare h
def Inv.call{g':Array mW}{t':Nat}{d':Drawn}{ch:List ae}(I:Inv X Y1 σ H s)(u:Un (uT X.stack) ch H H' s.heap h')(d:HOk X.prog X.w H' h')(k:il g')
  (h:∀b∈ch,(b∈X.ex\/X.s₀.heap.objs.size<=b)/\b≠X.env.locals/\(∀x c,X.env.cells.lookup x=KF c->c≠b)/\∀p∈X.pn++Y1,p.1≠b) (l:0<t':=by first|exact cO _|exact Inv.tk ‹_›|assumption|lia):
  Inv X Y1 σ H' { s with heap:=h',gens:=g',drawn:=d',toks:=t' }:=by
 obtain⟨m,⟨o,A,B,i,r⟩,_⟩:=id I.loc;obtain⟨C,f⟩:=u.any i I.free λz=>(h _ z).2.1 rfl;exact I.step (ch:=ch) h (λb o f q a e n=>u.keep b o e n (λz=>(am.mp (I.stkSub b z)).elim f q) a) (λb o _ _ a e n=>u.any e n a) (λb o a e n=>u.free b o e n a) (λb o a e=>u.there b o e a) u.tups u.frzs u.tbls (λD t=>by
  obtain⟨E,g,v,j,y⟩:=t;rw[i] at j;cases j;exact⟨_,g,v,f,y⟩) d k l
def Inv.turned{t':Nat}{it:ae}(I:Inv X Y1 σ H s)(k:∀b o,b≠it->s.heap.get? b=KF o->h'.get? b=KF o)(g:H it=KM)(d:it≠X.env.locals)
  (h:it∈X.ex\/X.s₀.heap.objs.size<=it) (i:∀x c,X.env.cells.lookup x=KF c->c≠it) (j:∀p∈X.pn++Y1,p.1≠it) (l:0<t':=by first|exact cO _|exact Inv.tk ‹_›|assumption|lia):Inv X Y1 σ H { s with heap:=h',toks:=t' }:=by
 have f:∀b u,H b=KF u->b≠it:=λb u e z=>by rw[z,g] at e;cases e
 refine I.step (g':=s.gens) (d':=s.drawn) (ch:=[it]) (λb t=>?_) (λb o _ _ a e _=>k b o (λz=>a (by simp[z])) e) (λb o _ _ a e _=>⟨o.slots,k b o (λz=>a (by simp[z])) e⟩) (λ_ _ _ _ n=>n)
  (λb o a e=>⟨o,k b o (λz=>a (by simp[z])) e⟩) (λ_ _ e=>e) (λ_ _ _ e=>e) (λb C e=>⟨#[],by rw[e];simp⟩) (λm w=>?_) (λb u e=>?_) I.bare l
 ·have e:b=it:=by simpa using t
  subst e;exact⟨h,d,i,j⟩
 ·obtain⟨o,y,A,B,r⟩:=w;exact⟨o,y,A,k _ o (bL d) B,r⟩
 ·refine(I.hok b u e).stay (λc v a q=>k c v ?_ q) (λ_ q=>q) λ_ _ q=>q;rcases a with z|z
  ·rw[z];exact f b u e
  ·exact f c _ z
def Inv.tok(I:Inv X Y1 σ H s)(t:Nat)(a:0<t:=by first|exact cO _|exact Inv.tk ‹_›|assumption|lia):Inv X Y1 σ H { s with toks:=t }:=I.un (h':=s.heap) (t':=t) Un.refl I.hok
def Inv.kept(I:Inv X Y1 σ H s)(k:∀b u,s.heap.get? b=KF u->h'.get? b=KF u)(a:0<t':=by first|exact cO _|exact Inv.tk ‹_›|assumption|lia):Inv X Y1 σ H { s with heap:=h',toks:=t' }:=I.un (Un.kept k) (I.hok.kept k)
def Inv.laid{a:ae}{o:HO}{t':Nat}(I:Inv X Y1 σ H s)(k:∀b u,s.heap.get? b=KF u->h'.get? b=KF u)(c:s.heap.objs.size<=a)(d:oN X.prog X.w (upd H a o) h' a o)(e:0<t':=by first|exact cO _|exact Inv.tk ‹_›|assumption|lia):
  Inv X Y1 σ (upd H a o) { s with heap:=h',toks:=t' }:=I.un (Un.laid k c (I.hok.fresh c)) (I.hok.laid k c d)
def Inv.write(I:Inv X Y1 σ H s)(c:F5 (H x))(d:e=x\/H e=KF (.own x))(k:∀b u,b≠e->s.heap.get? b=KF u->h'.get? b=KF u)(f:∃u,h'.get? e=KF u)
  (a:oN X.prog X.w (upd H x o) h' x o) (g:0<t':=by first|exact cO _|exact Inv.tk ‹_›|assumption|lia):Inv X Y1 σ (upd H x o) { s with heap:=h',toks:=t' }:=I.un (Un.write c d k f) (I.hok.write c d k f a)
def Inv.pins_of(I:Inv X Y1 σ H s)(h:∀p∈EG,s.heap.get? p.1=KF p.2/\H p.1=KM/\p.1≠X.env.locals/\p.1∉X.fs/\∀v,p.2.data ≠ .cell v):Inv X EG σ H s:=
 ⟨I.ok,I.os,I.bare,I.base,I.loc,I.cell,I.free,I.freeC,λp a=>(aQ.mp a).elim (λz=>I.pin p (bM _ z)) (h p),I.hok,I.len,I.tk⟩
def Ru{N:List Str}(c:N.Nodup){i j:Nat}{x:Str}(a:N[i]?=KF x)(b:N[j]?=KF x):i=j:=by obtain⟨f,d⟩:=aq.mp a;obtain⟨g,e⟩:=aq.mp b;exact(j8 c).mp (d.trans e.symm)
def Hi{M:iY}{A:ba}{E:ab->ag->Prop}{i:Nat}{x:Str}{v:V}{u:ab}{Q:Unit->ag->Prop}(I:Inv X Y1 σ H s)(hN:X.N.Nodup)(G:X.N[i]?=KF x)(t:Loc X.env.scope x)(r:RelV v u)
  (h:∀O,Inv X Y1 (σ.set i (KF v)) H O->(∃a,cX a s.heap O.heap/\(a=X.env.locals\/X.env.cells.lookup x=KF a))->Q () O) (hf:X.fn x=qb\/X.env.scope.names.lookup x=KF .local:=by first|exact .inl rfl|exact .inr rfl|assumption):ao M A (storeName X.env x u) Q E s:=by
 obtain⟨m,P,hl⟩:=id I.loc;have Bw:(X.env.scope.kind == .class||(X.env.scope.kind == .module&&X.env.locals !=X.env.globals))=qh:=by rw[I.ok.kind];rfl
 have FA:i<σ.length:=by rw[I.len];exact(aq.mp G).1
 have C:=I.cne;have g:∀{a:ae}{h':aX},(∃o,s.heap.get? a=KF o/\H a=KM)->cX a s.heap h'->HOk X.prog X.w H h':=λ{a h'}ha f b ob e=>by
  obtain⟨_,_,qK⟩:=ha;refine(I.hok b ob e).stay (λc J hc q=>(f.2 c ?_).trans q) (λ_ q=>q) λ_ _ q=>q;rintro rfl;rcases hc with rfl|hc
  ·rw[qK] at e;cases e
  ·rw[qK] at hc;cases hc
 rcases t with hk|hk
 ·refine wpAny_storeName_local hk P (λh' C5 f=>?_) Bw;obtain⟨oL,_,_,R,_⟩:=id P;refine h _ ⟨I.ok,I.os,I.bare,⟨λb o e n D t=>?_,λb o e n D t=>?_,I.base.free,λb o e t=>?_,I.base.tups,I.base.frzs,I.base.tbls⟩,⟨_,C5,λj y S l B T=>?_⟩,λy c e=>?_,I.free,I.freeC,λp U=>?_,g ⟨oL,R,I.free⟩ f,by simpa using I.len,cO _⟩ ⟨_,f,.inl rfl⟩
  ·exact(f.2 b (bo (bb (aK e) I.ok.above))).trans (I.base.keep b o e n D t)
  ·obtain⟨W,l⟩:=I.base.slot b o e n D t;exact⟨W,(f.2 b (bo (bb (aK e) I.ok.above))).trans l⟩
  ·obtain⟨Y,l⟩:=I.base.there b o e t;exact⟨Y,(f.2 b (bo (bb (aK e) I.ok.above))).trans l⟩
  ·by_cases F:j=i
   ·subst F;rw[G] at l;cases l;rw[bB FA] at B;cases B;exact⟨u,r,.inl ⟨hk,by simp⟩⟩
   ·rw[bt (bL F)] at B;obtain⟨Z,r',q⟩:=hl j y S l B T;refine⟨Z,r',?_⟩;rcases q with⟨k,e⟩|⟨k,c,e,z⟩
    ·refine .inl ⟨k,?_⟩;have:y≠x:=λe=>F (Ru hN l (e▸G));simp[this,e]
    ·exact .inr ⟨k,c,e,z.sameBut f (C y c e)⟩
  ·obtain⟨J,z⟩:=I.cell y c e;exact⟨J,z.sameBut f (C y c e)⟩
  ·obtain⟨e,n,K,nf,d⟩:=I.pin p U;exact⟨(f.2 p.1 K).trans e,n,K,nf,d⟩
 ·have C7:X.fn x=qb:=by
   rcases hf with z|z
   ·exact z
   ·rw[z] at hk;cases hk
  obtain⟨c,hc⟩:=I.ok.has x (.inl hk);obtain⟨J,z⟩:=I.cell x c hc;refine wpAny_storeName_cell I.ok.kind hk hc z (λh' xV f=>?_);obtain⟨oc,C4,Mn⟩:=id z;refine h { s with heap:=h' } ⟨I.ok,I.os,I.bare,⟨λb o e n D t=>?_,λb o e n D t=>?_,I.base.free,λb o e t=>?_,I.base.tups,I.base.frzs,I.base.tbls⟩,⟨m,P.sameBut f (bL (C x c hc)),λj y S l B T=>?_⟩,λy L e=>?_,I.free,I.freeC,λp U=>?_,g ⟨oc,C4,I.freeC x c hc⟩ f,by simpa using I.len,I.tk⟩ ⟨c,f,.inr hc⟩
  ·exact(f.2 b (bo (bb (aK e) (I.ok.cab x c C7 hc)))).trans (I.base.keep b o e n D t)
  ·obtain⟨W,l⟩:=I.base.slot b o e n D t;exact⟨W,(f.2 b (bo (bb (aK e) (I.ok.cab x c C7 hc)))).trans l⟩
  ·obtain⟨Y,l⟩:=I.base.there b o e t;exact⟨Y,(f.2 b (bo (bb (aK e) (I.ok.cab x c C7 hc)))).trans l⟩
  ·by_cases F:j=i
   ·subst F;rw[G] at l;cases l;rw[bB FA] at B;cases B;exact⟨u,r,.inr ⟨.inl hk,c,hc,xV⟩⟩
   ·rw[bt (bL F)] at B;obtain⟨Z,r',q⟩:=hl j y S l B T;refine⟨Z,r',?_⟩;rcases q with q|⟨k,L,e,z'⟩
    ·exact .inl q
    ·refine .inr ⟨k,L,e,z'.sameBut f ?_⟩;rintro rfl;exact F (Ru hN l (I.ok.inj _ _ _ e hc▸G))
  ·by_cases t9:L=c
   ·subst t9;exact⟨_,xV⟩
   ·obtain⟨w2,z2⟩:=I.cell y L e;exact⟨w2,z2.sameBut f t9⟩
  ·obtain⟨e,n,K,nf,d⟩:=I.pin p U;refine⟨(f.2 p.1 ?_).trans e,n,K,nf,d⟩;intro q;rw[q,C4] at e;have q':oc=p.2:=cq e;exact d J (by rw[<- q'];exact Mn)
def Ky(I:Inv X Y1 σ H s)(b:X.N.Nodup)(c:X.N[i]?=KF x)(d:Loc X.env.scope x)(r:RelV v u)
  (h:∀a,Inv X Y1 (σ.set i (KF v)) H a->Q () a) (e:X.fn x=qb\/X.env.scope.names.lookup x=KF .local:=by first|exact .inl rfl|exact .inr rfl|assumption):ao M A (storeName X.env x u) Q E s:=
 Hi I b c d r (λa f _=>h a f) e
def Inv.call'(I:Inv X Y1 σ H s)(d:s'.os=s.os)(u:Un (uT X.stack) ch H H' s.heap s'.heap)(a:HOk X.prog X.w H' s'.heap)(f:il s'.gens)
  (g:∀b∈ch,(b∈X.ex\/X.s₀.heap.objs.size<=b)/\b≠X.env.locals/\(∀x c,X.env.cells.lookup x=KF c->c≠b)/\∀p∈X.pn++Y1,p.1≠b) (i:0<s'.toks:=by first|exact cO _|exact Inv.tk ‹_›|assumption|lia):Inv X Y1 σ H' s':=by obtain⟨h',g',d',t',h⟩:=s';have e:h=s.os:=d;subst e;exact I.call (g':=g') (t':=t') (d':=d') u a f g
end
abbrev XK:=ab->Option ae->Hp->Prop
abbrev St:=List (Option V)
abbrev VK:=V->Hp->Prop
abbrev TE:=St->Hp->VK->Prop
abbrev TT:=St->Hp->(Bool->Hp->Prop)->Prop
abbrev TA:=St->Hp->(List V->Hp->Prop)->Prop
structure xZ where
 nx:St->Hp->Prop
 rt:VK
 bk:St->Hp->Prop:=λ_ _=>False
 ct:St->Hp->Prop:=λ_ _=>False
abbrev TS:=xZ->St->Hp->Prop
def EP(X:Cx)(Y1:List (ae×Obj))(σ:St)(Q:VK)(u:ab)(s':ag):Prop:=∃v H',Inv X Y1 σ H' s'/\RelV v u/\Q v H'
def TP(X:Cx)(Y1:List (ae×Obj))(σ:St)(Q:Bool->Hp->Prop)(b:Bool)(s':ag):Prop:=∃H',Inv X Y1 σ H' s'/\Q b H'
def AP(X:Cx)(Y1:List (ae×Obj))(σ:St)(Q:List V->Hp->Prop)(us:List ab)(s':ag):Prop:=∃vs H',Inv X Y1 σ H' s'/\oE vs us/\Q vs H'
def SP(X:Cx)(Y1:List (ae×Obj))(D:xZ)(f:Flow)(s':ag):Prop:=
 match f with
 |.next=>∃σ' H',Inv X Y1 σ' H' s'/\D.nx σ' H'
 |.brk=>∃σ' H',Inv X Y1 σ' H' s'/\D.bk σ' H'
 |.cont=>∃σ' H',Inv X Y1 σ' H' s'/\D.ct σ' H'
 |.ret u=>∃v σ' H',Inv X Y1 σ' H' s'/\RelV v u/\D.rt v H'
def PE(X:Cx)(e:aT)(t:TE):Prop:=
 ∀(Y1:List (ae×Obj))(s:ag)(σ:St)(H:Hp)(Q:VK),Inv X Y1 σ H s->t σ H Q->ao (ay X.prog X.w) X.A (eval e X.env) (EP X Y1 σ Q) X.xe s
def PT(X:Cx)(e:aT)(t:TT):Prop:=
 ∀(Y1:List (ae×Obj))(s:ag)(σ:St)(H:Hp)(Q:Bool->Hp->Prop),Inv X Y1 σ H s->t σ H Q->ao (ay X.prog X.w) X.A (isTrue e X.env (eval e X.env)) (TP X Y1 σ Q) X.xe s
def PW(X:Cx)(e:aT)(t:TT):Prop:=
 ∀(whole:Sem ab)(Y1:List (ae×Obj))(s:ag)(σ:St)(H:Hp)(Q:Bool->Hp->Prop),Inv X Y1 σ H s->t σ H Q->ao (ay X.prog X.w) X.A (isTrue e X.env whole) (TP X Y1 σ Q) X.xe s
def PW.pt(h:PW X e t):PT X e t:=h _
def PA(X:Cx)(es:List aT)(t:TA):Prop:=
 ∀(pos:Pos)(Y1:List (ae×Obj))(s:ag)(σ:St)(H:Hp)(Q:List V->Hp->Prop),Inv X Y1 σ H s->t σ H Q->ao (ay X.prog X.w) X.A (spliced (backTo pos (aN es X.env))) (AP X Y1 σ Q) X.xe s
def PS(X:Cx)(st:eI)(t:TS):Prop:=
 ∀(Y1:List (ae×Obj))(s:ag)(σ:St)(H:Hp)(D:xZ),Inv X Y1 σ H s->t D σ H->ao (ay X.prog X.w) X.A (exec st X.env) (SP X Y1 D) X.xe s
def tF(X:Cx)(st:List eI)(t:TS):Prop:=
 ∀(Y1:List (ae×Obj))(s:ag)(σ:St)(H:Hp)(D:xZ),Inv X Y1 σ H s->t D σ H->ao (ay X.prog X.w) X.A (execs st X.env) (SP X Y1 D) X.xe s
def pV{α:Type}{t:Sem α}{Q b:α->ag->Prop}{M:iY}{A:ba}{E:ab->ag->Prop}{s:ag}(h:ao M A t Q E s)(c:∀a s,Q a s->b a s):ao M A t b E s:=cy h c λ_ _ x=>x
section
variable{X:Cx}
def bin{a b:aT}{i j:TE}(k:PE X a i)(l:PE X b j){c:List (ae×Obj)}{s:ag}{σ:St}{H:Hp}{R:V->V->Hp->Prop}(I:Inv X c σ H s)(h:i σ H λx g=>j σ g λy d=>R x y d)
  {α:Type} {Q:α->ag->Prop} {f:ab->ab->Sem α}
  (m:∀v u e x y d,Inv X c σ d e->RelV x v->RelV y u->R x y d->ao (ay X.prog X.w) X.A (f v u) Q X.xe e):
  ao (ay X.prog X.w) X.A (eval a X.env) (λv n=>ao (ay X.prog X.w) X.A (eval b X.env) (λu o=>ao (ay X.prog X.w) X.A (f v u) Q X.xe o) X.xe n) X.xe s:=by refine pV (k c s σ H _ I h) λv p ⟨x,g,q,r,t⟩=>?_;refine pV (l c p σ g _ q t) λu e ⟨y,d,z,B,C⟩=>?_;exact m v u e x y d z r B C
def Ga(i:Nat):TE:=λσ H Q=>∃v,σ[i]?=KF (KF v)/\Q v H
def tC(v:V):TE:=λ_ H Q=>Q v H
def GH(j:X.N[i]?=KF x)(k:uU X.env.scope x)(d:(x==("__debug__":Str))=qh:=by decide)(n:(x==("__classdict__":Str))=qh:=by decide):PE X (.Name x pos) (Ga i):=by
 intro b s o H Q I h;obtain⟨v,e,h⟩:=h;obtain⟨m,p,q⟩:=I.loc;obtain⟨u,r,l⟩:=q i x v j e k;have a:EP X b o Q u s:=⟨v,H,I,r,h⟩;rcases l with⟨hk,t⟩|⟨hk,c,f,g⟩
 ·exact wpAny_Name (lI I.ok.kind hk p t a) d
 ·rcases hk with hk|hk
  ·exact wpAny_Name (lZ I.ok.kind hk f g a) d
  ·exact wpAny_Name (wpAny_loadName_free I.ok.kind hk f g a n) d
def OI:PE X (.Constant (.int i) j pos) (tC (.int i)):=λ_ _ _ H _ I h=>wpAny_Constant_int ⟨.int i,H,I.tok _,⟨_,rfl⟩,h⟩
def Wi:PE X (.Constant (.bool b) j pos) (tC (.bl b)):=λ_ _ _ H _ I h=>Constant_bool ⟨.bl b,H,I,rfl,h⟩
def Pk:PE X (.Constant .none j pos) (tC .non):=λ_ _ _ H _ I h=>Constant_none ⟨.non,H,I,rfl,h⟩
def OW:PE X (.Constant (.str x) j pos) (tC (.str x)):=λ_ _ _ H _ I h=>Calls.Constant_str ⟨.str x,H,I.tok _,⟨_,rfl⟩,h⟩
def Gl(X:Cx)(x:Str):Prop:=X.env.kindOf x=KF .globalImplicit
def QJ(I:Inv X Y1 σ H s)(a:Gl X x)(b:X.mg x=KF u)(h:Q u s)
  (c:(x==("__debug__":Str))=qh:=by decide):ao (ay X.prog X.w) X.A (eval (.Name x pos) X.env) Q E s:=
 jH I.ok.kind a (Calls.loadGlobal_global (by rw[I.ok.glob];exact I.mod.glob.keeps I.bk) b h) c
def zV(I:Inv X Y1 σ H s)(a:Gl X x)(b:X.mg x=KM)(c:br x=KF u)(h:Q u s)
  (d:x ≠ "__name__":=by decide) (e:(x==("__debug__":Str))=qh:=by decide):ao (ay X.prog X.w) X.A (eval (.Name x pos) X.env) Q E s:=by obtain⟨i,f,g⟩:=I.mod.blt;exact jH I.ok.kind a (Calls.loadGlobal_builtin (by rw[I.ok.glob];exact I.mod.glob.keeps I.bk) b (by rw[I.ok.blt];exact f.keeps I.bk) ((g x d).trans c) h) e
def G6(a:Gl X x)(b:X.mg x=KF u)(r:RelV v u)(c:(x==("__debug__":Str))=qh:=by decide):PE X (.Name x pos) (tC v):=
 λ_ _ _ H _ I h=>QJ I a b ⟨v,H,I,r,h⟩ c
def J4(a:Gl X x)(b:X.mg x=KM)(c:br x=KF u)(r:RelV v u)(d:x ≠ "__name__":=by decide)(e:(x==("__debug__":Str))=qh:=by decide):PE X (.Name x pos) (tC v):=
 λ_ _ _ H _ I h=>zV I a b c ⟨v,H,I,r,h⟩ d e
variable{a b:aT}{ta tb:TE}{pos:Pos}
def PC(X:Cx)(op:CmpOp)(a b:aT)(t:TE):Prop:=
 ∀(Y1:List (ae×Obj))(s:ag)(σ:St)(H:Hp)(Q:VK),Inv X Y1 σ H s->t σ H Q->
  ao (ay X.prog X.w) X.A (eval a X.env) (λv n_=>ao (ay X.prog X.w) X.A (eval b X.env) (λu sR=>ao (ay X.prog X.w) X.A (cM op v u) (EP X Y1 σ Q) X.xe sR) X.xe n_) X.xe s
def Rw(b:aT)(h:op ≠ .In)(c:op ≠ .NotIn):behindInMarks op b=qh:=by
 have d:(op==CmpOp.In)=qh:=by cases op<;>first|rfl|exact absurd rfl h
 have e:(op==CmpOp.NotIn)=qh:=by cases op<;>first|rfl|exact absurd rfl c
 cases b<;>simp[behindInMarks,d,e]
def tB(t:TE):TT:=λσ H Q=>t σ H λx H1=>∃c,x=.bl c/\Q c H1
def Yg(h:PC X op a b t)(d:behindInMarks op b=qh:=by first|exact Rw _ 'u' 'u'|rfl):PE X (.Compare a [op] [b] pos) t:=λc s e H Q I f=>wpAny_Compare1 (h c s e H Q I f) d
def Wy{f:CmpOp}{t:TE}(h:PC X f a b t)(g:behindInMarks f b=qh:=by first|exact Rw _ 'u' 'u'|rfl):PT X (.Compare a [f] [b] pos) (tB t):=by intro e s i H Q I j;refine kY (pV (h e s i H _ I j) λv p g=>pV g λu r k=>pV k λc w ⟨x,l,m,n,o⟩=>?_) g;obtain⟨d,rfl,q⟩:=o;cases n;exact de ⟨l,m,q⟩
variable{tA HV:TT}{rest:List aT}
def Vc(t u:TT):TT:=λσ H Q=>t σ H λc H1=>if c=qb then u σ H1 Q else Q qh H1
def tOr(t u:TT):TT:=λσ H Q=>t σ H λc H1=>if c=qb then Q qb H1 else u σ H1 Q
def Vh(t:TT):TT:=λσ H Q=>t σ H λc H1=>Q (!c) H1
def Yw(f:PT X a tA):PW X (.BoolOp .And [a] pos) tA:=by
 intro i d s g H Q I h;refine isTrue_and (pV (f d s g H Q I h) λc j e=>?_);cases c with
 |true=>exact isTrue_and_nil e
 |false=>exact e
def WB(f:PT X a tA):PW X (.BoolOp .Or [a] pos) tA:=by
 intro i d s g H Q I h;refine isTrue_or (pV (f d s g H Q I h) λc j e=>?_);cases c with
 |false=>exact isTrue_or_nil e
 |true=>exact e
def X8(j:PT X a tA)(k:PW X (.BoolOp .And (b::rest) pos) HV):PW X (.BoolOp .And (a::b::rest) pos) (Vc tA HV):=by
 intro l d s e H Q I h;refine isTrue_and (pV (j d s e H _ I h) λc m ⟨f,g,i⟩=>?_);cases c with
 |true=>exact k l d m e f Q g i
 |false=>exact⟨f,g,i⟩
def V_(j:PT X a tA)(k:PW X (.BoolOp .Or (b::rest) pos) HV):PW X (.BoolOp .Or (a::b::rest) pos) (tOr tA HV):=by
 intro l d s e H Q I h;refine isTrue_or (pV (j d s e H _ I h) λc m ⟨f,g,i⟩=>?_);cases c with
 |true=>exact⟨f,g,i⟩
 |false=>exact k l d m e f Q g i
def VX(e:PT X a tA):PT X (.UnaryOp .Not a pos) (Vh tA):=by intro d s f H Q I h;exact isTrue_not (e d s f H (λc g=>Q (!c) g) I h)
def VU(ta tb:TE):TE:=λσ H Q=>ta σ H λx H1=>∃c,x=.bl c/\if c=qb then tb σ H1 Q else Q (.bl qh) H1
def U7(ta tb:TE):TE:=λσ H Q=>ta σ H λx H1=>∃c,x=.bl c/\if c=qb then Q (.bl qb) H1 else tb σ H1 Q
def V9(ta:TE):TE:=λσ H Q=>ta σ H λx H1=>∃c,x=.bl c/\Q (.bl (!c)) H1
def V2(h:PE X a t):PE X (.BoolOp op [a] pos) t:=λc s d H Q I e=>BoolOp_one (h c s d H Q I e)
def Ym(j:PE X a ta)(k:PE X (.BoolOp .And (b::rest) pos) tb):PE X (.BoolOp .And (a::b::rest) pos) (VU ta tb):=by
 intro d s f H Q I h;refine BoolOp_and (pV (j d s f H _ I h) λv l ⟨x,g,i,m,e⟩=>?_);obtain⟨c,rfl,e⟩:=e;cases m;refine de ?_;cases c with
 |true=>exact k d l f g Q i e
 |false=>exact⟨.bl qh,g,i,rfl,e⟩
def VT(j:PE X a ta)(k:PE X (.BoolOp .Or (b::rest) pos) tb):PE X (.BoolOp .Or (a::b::rest) pos) (U7 ta tb):=by
 intro d s f H Q I h;refine BoolOp_or (pV (j d s f H _ I h) λv l ⟨x,g,i,m,e⟩=>?_);obtain⟨c,rfl,e⟩:=e;cases m;refine de ?_;cases c with
 |false=>exact k d l f g Q i e
 |true=>exact⟨.bl qb,g,i,rfl,e⟩
def XN(f:PE X a ta):PE X (.UnaryOp .Not a pos) (V9 ta):=by intro d s g H Q I h;refine UnaryOp_ (pV (f d s g H _ I h) λv l ⟨x,i,j,k,e⟩=>?_);obtain⟨c,rfl,e⟩:=e;cases k;exact not_of (de ⟨.bl (!c),i,j,rfl,e⟩)
end
def qO(K:ah)(H:Hp)(a:ae)(xs:List V):Prop:=
 Rd H a (.lst xs) \/
  ∃(o:Obj)(g_:Array ab)(n:Nat),K.lookup a=KF o/\o.cls=.type "list"/\o.dict=KM/\o.data=.seq g_ n/\g_.size<=xc/\oE xs g_.toList
def rG(K:ah)(H:Hp)(a:ae)(xs:List V):Prop:=
 Rd H a (.tup xs) \/
  ∃(o:Obj)(g_:Array ab)(n:Nat),K.lookup a=KF o/\o.cls=.type "tuple"/\o.data=.seq g_ n/\g_.size<=xc/\oE xs g_.toList
def Vg:ab->Option V
 |.none=>KF .non
 |.bool b=>KF (.bl b)
 |.int i _=>KF (.int i)
 |.str x _=>KF (.str x)
 |.bytes b _=>KF (.byt b)
 |.float b _=>KF (.flt b)
 |.ref a=>KF (.ref a)
 |.type n=>KF (.ty n)
 |_=>KM
def RelV.abs(r:RelV x u):Vg u=KF x:=by
 cases x with
 |non=>cases r;rfl
 |bl _=>cases r;rfl
 |int _=>obtain⟨t,rfl⟩:=r;rfl
 |str _=>obtain⟨t,rfl⟩:=r;rfl
 |byt _=>obtain⟨t,rfl⟩:=r;rfl
 |flt _=>obtain⟨t,rfl⟩:=r;rfl
 |ref _=>cases r;rfl
 |ty _=>cases r;rfl
def RelV.inj(r:RelV x u)(q:RelV y u):x=y:=cq (r.abs.symm.trans q.abs)
theorem oE.inj:∀{xs a:List V}{b:List ab},oE xs b->oE a b->xs=a
 |_,_,_,.nil,.nil=>rfl
 |_,_,_,.cons r t,.cons r' t'=>by rw[r.inj r',oE.inj t t']
section
variable{X:Cx}{Y1:List (ae×Obj)}{σ:St}{H:Hp}{s:ag}{a:ae}{xs ys:List V}
def qO.of{K:ah}(h:H a=KF (.lst xs)):qO K H a xs:=.inl (.inl h)
def rG.of{K:ah}(h:H a=KF (.tup xs)):rG K H a xs:=.inl (.inl h)
def Inv.list(I:Inv X Y1 σ H s)(h:qO X.K H a xs):∃b:List ab,oE xs b/\PlainL s.heap a b.toArray/\xs.length<=xc:=by
 rcases h with h|⟨o,b,n,c,d,f,g,i,r⟩
 ·obtain⟨z,b,n,r,e⟩:=h.ok I.hok;exact⟨b,r,⟨_,n,e,rfl,rfl,rfl⟩,z⟩
 ·refine⟨b.toList,r,⟨o,n,I.kIn a o c,d,f,by simpa using g⟩,?_⟩;have e:=r.length;simp only[aB] at e;lia
def Inv.tuple(I:Inv X Y1 σ H s)(h:rG X.K H a xs):∃b:List ab,oE xs b/\IsTup s.heap a b.toArray/\xs.length<=xc:=by
 rcases h with h|⟨o,b,n,c,d,f,g,r⟩
 ·obtain⟨z,b,r,p⟩:=h.ok I.hok;exact⟨b,r,p.tup,z⟩
 ·refine⟨b.toList,r,⟨o,I.kIn a o c,d,n,by simpa using f⟩,?_⟩;have e:=r.length;simp only[aB] at e;lia
def Inv.list_inj(I:Inv X Y1 σ H s)(h:qO X.K H a xs)(h':qO X.K H a ys):xs=ys:=by
 obtain⟨g,r,⟨o,n,e,_,_,d⟩,_⟩:=I.list h;obtain⟨b,i,⟨j,k,c,_,_,f⟩,_⟩:=I.list h';rw[e] at c;cases c;rw[d] at f;injection f with d1 _;have:g=b:=by simpa using congrArg md d1
 subst this;exact r.inj i
def Inv.tuple_inj(I:Inv X Y1 σ H s)(h:rG X.K H a xs)(h':rG X.K H a ys):xs=ys:=by
 obtain⟨g,r,⟨o,e,_,n,d⟩,_⟩:=I.tuple h;obtain⟨b,i,⟨j,c,_,k,f⟩,_⟩:=I.tuple h';rw[e] at c;cases c;rw[d] at f;injection f with d1 _;have:g=b:=by simpa using congrArg md d1
 subst this;exact r.inj i
end
abbrev Cx.wish(X:Cx)(E:ab->ag->Prop):Cx:={ X with xe:=E }
abbrev Cx.nox(X:Cx):Cx:=X.wish λ_ _=>False
def Cx.Ok.wish{X:Cx}(ok:X.Ok)(E:ab->ag->Prop):(X.wish E).Ok:=
 ⟨ok.mod,ok.kind,ok.glob,ok.blt,ok.above,ok.inj,ok.has,ok.cab,ok.hd,ok.frames,ok.stk,ok.exf,ok.bs,ok.bsz,ok.noex,ok.exfs,ok.funs,ok.frf⟩
def Cx.Ok.unwish{X:Cx}{E:ab->ag->Prop}(ok:(X.wish E).Ok):X.Ok:=
 ⟨ok.mod,ok.kind,ok.glob,ok.blt,ok.above,ok.inj,ok.has,ok.cab,ok.hd,ok.frames,ok.stk,ok.exf,ok.bs,ok.bsz,ok.noex,ok.exfs,ok.funs,ok.frf⟩
section
variable{X:Cx}{Y1:List (ae×Obj)}{σ:St}{H:Hp}{s:ag}{E:ab->ag->Prop}
def Inv.wish(I:Inv X Y1 σ H s)(E:ab->ag->Prop):Inv (X.wish E) Y1 σ H s:=⟨I.ok.wish E,I.os,I.bare,I.base,I.loc,I.cell,I.free,I.freeC,I.pin,I.hok,I.len,I.tk⟩
def Inv.unwish(I:Inv (X.wish E) Y1 σ H s):Inv X Y1 σ H s:=⟨I.ok.unwish,I.os,I.bare,I.base,I.loc,I.cell,I.free,I.freeC,I.pin,I.hok,I.len,I.tk⟩
def SP.unwish{D:xZ}{f:Flow}{c:ag}(h:SP (X.wish E) Y1 D f c):SP X Y1 D f c:=by
 cases f with
 |next=>obtain⟨a,b,I,q⟩:=h;exact⟨a,b,I.unwish,q⟩
 |brk=>obtain⟨a,b,I,q⟩:=h;exact⟨a,b,I.unwish,q⟩
 |cont=>obtain⟨a,b,I,q⟩:=h;exact⟨a,b,I.unwish,q⟩
 |ret u=>obtain⟨v,a,b,I,r,q⟩:=h;exact⟨v,a,b,I.unwish,r,q⟩
def PE.nox(h:PE X.nox e t):PE X e t:=λY1 s σ H Q I a=>
 cy (h Y1 s σ H Q (I.wish _) a) (λ_ _ ⟨v,b,c,r,q⟩=>⟨v,b,c.unwish,r,q⟩) λ_ _ z=>ak z
def PT.nox(h:PT X.nox e t):PT X e t:=λY1 s σ H Q I a=>
 cy (h Y1 s σ H Q (I.wish _) a) (λ_ _ ⟨b,c,q⟩=>⟨b,c.unwish,q⟩) λ_ _ z=>ak z
def tF.nox{st:List eI}{t:TS}(h:tF X.nox st t):tF X st t:=λY1 s σ H D I a=>
 cy (h Y1 s σ H D (I.wish _) a) (λ_ _ q=>q.unwish) λ_ _ z=>ak z
end
section
variable{X:Cx}{st:eI}{rest:List eI}{t u:TS}{e:aT}{te:TE}{pos:Pos}
def Ou:TS:=λD σ H=>D.nx σ H
def NM(t u:TS):TS:=λD σ H=>t { D with nx:=u D } σ H
def ZM:tF X [] Ou:=λ_ _ a H _ I h=>iZ ⟨a,H,I,h⟩
def D9(c:PS X st t)(d:tF X rest u):tF X (st::rest) (NM t u):=by
 intro a s g H D I h;refine wpAny_execs_cons (pV (c a s g H { D with nx:=u D } I h) λf i q=>?_);cases f with
 | next=>
  obtain⟨b,j,k,q⟩:=q;exact d a i b j D k q
 |ret v=>exact q
 |brk=>exact q
 |cont=>exact q
def PU(b:PS X st t):tF X [st] t:=by
 intro a s c H D I h;refine wpAny_execs_cons (pV (b a s c H D I h) λf d q=>?_);cases f with
 |next=>exact iZ q
 |ret v=>exact q
 |brk=>exact q
 |cont=>exact q
def zi4:PS X (.Pass pos) Ou:=λ_ _ a H _ I h=>wpAny_Pass ⟨a,H,I,h⟩
def Inv.quiet{a:List (ae×Obj)}{σ:St}{H:Hp}{s:ag}(I:Inv X a σ H s):interactive X.env=qh:=by simp[interactive,I.ok.kind]
def Vm(te:TE):TS:=λD σ H=>te σ H λ_ H1=>D.nx σ H1
def Pz(c:PE X e te)(d:swapsWith e KM pos.line X.env=pure qh:=by rfl):PS X (.Expr e pos) (Vm te):=by intro a s b H D I h;exact wpAny_Expr_any (pV (c a s b H _ I h) λv j ⟨x,f,g,k,i⟩=>⟨b,f,g,i⟩) I.quiet d
def U8(te:TE):TS:=λD σ H=>te σ H D.rt
def Yk(c:PE X e te):PS X (.Return (KF e) pos) (U8 te):=by intro a s b H D I h;exact wpAny_Return_some (pV (c a s b H _ I h) λv j ⟨x,d,f,g,i⟩=>⟨x,b,d,f,g,i⟩)
def Vd(c:TT)(t u:TS):TS:=λD σ H=>c σ H λb H1=>if b=qb then t D σ H1 else u D σ H1
def VS{c:aT}{a b:List eI}{i:TT}(n:PT X c i)(o:tF X a t)(p:tF X b u):PS X (.If c a b pos) (Vd i t u):=by
 intro f s g H D I h;refine wpAny_If (pV (n f s g H _ I h) λd j ⟨k,l,m⟩=>?_);cases d with
 |true=>exact o f j g k D l m
 |false=>exact p f j g k D l m
def Wu:TS:=λ_ _ _=>False
def zdr:tF X sts Wu:=λ_ _ _ _ _ _ h=>h.elim
end
abbrev TG:=V->St->Hp->(St->Hp->Prop)->Prop
abbrev Df:=List V->St->Hp->(St->Hp->Prop)->Prop
def PG(X:Cx)(target:aT)(t:TG):Prop:=
 ∀(Y1:List (ae×Obj))(s:ag)(σ:St)(H:Hp)(v:V)(u:ab)(Q:St->Hp->Prop),Inv X Y1 σ H s->RelV v u->t v σ H Q->
  ao (ay X.prog X.w) X.A (assign target X.env u) (λ_ s'=>∃σ' H',Inv X Y1 σ' H' s'/\Q σ' H') X.xe s
def IH(X:Cx)(ts:List aT)(t:Df):Prop:=
 ∀(Y1:List (ae×Obj))(s:ag)(σ:St)(H:Hp)(vs:List V)(us:List ab)(Q:St->Hp->Prop),Inv X Y1 σ H s->oE vs us->t vs σ H Q->
  ao (ay X.prog X.w) X.A (assignInOrder ((gK ts X.env).map (·.2)) us) (λ_ s'=>∃σ' H',Inv X Y1 σ' H' s'/\Q σ' H') X.xe s
abbrev I8:=V->V->V->Hp->(Hp->Prop)->Prop
def NQ(X:Cx)(t:I8):Prop:=
 ∀(Y1:List (ae×Obj))(s:ag)(σ:St)(H:Hp)(o i v:V)(ov iv u:ab)(Q:Hp->Prop),Inv X Y1 σ H s->RelV o ov->RelV i iv->RelV v u->t o i v H Q->
  ao (ay X.prog X.w) X.A (setItem ov iv u) (λ_ s'=>∃H',Inv X Y1 σ H' s'/\Q H') X.xe s
abbrev IG:=V->V->Hp->VK->Prop
def UQ(X:Cx)(op:Operator)(t:IG):Prop:=
 ∀(Y1:List (ae×Obj))(s:ag)(σ:St)(H:Hp)(x y:V)(v u:ab)(Q:VK),Inv X Y1 σ H s->RelV x v->RelV y u->t x y H Q->
  ao (ay X.prog X.w) X.A (inplaceOp op v u) (EP X Y1 σ Q) X.xe s
section
variable{X:Cx}{pos:Pos}
def x_(i:Nat):TG:=λv σ H Q=>Q (σ.set i (KF v)) H
def JL(b:X.N.Nodup)(c:X.N[i]?=KF x)(d:Loc X.env.scope x)(e:X.fn x=qb\/X.env.scope.names.lookup x=KF .local:=by first|exact .inl rfl|exact .inr rfl|assumption):PG X (.Name x pos) (x_ i):=by intro a s g H v u Q I r h;exact ir (Ky I b c d r (λj f=>⟨_,H,f,h⟩) e)
def NP:Df:=λvs σ H Q=>vs=[]/\Q σ H
def Jk(t:TG)(u:Df):Df:=λvs σ H Q=>∃v r,vs=v::r/\t v σ H λσ' H'=>u r σ' H' Q
def YM:IH X [] NP:=by intro a s b H c d Q I r h;obtain⟨e,h⟩:=h;subst e;cases r;exact assignInOrder_nil ⟨b,H,I,h⟩
def Rg{e:aT}{es:List aT}{t:TG}{u:Df}(b:PG X e t)(c:IH X es u)
  (d:(gK (e::es) X.env).map (·.2)=assign e X.env::(gK es X.env).map (·.2):=by rfl):IH X (e::es) (Jk t u):=by
 intro a s f H n o Q I r h;obtain⟨v,p,g,h⟩:=h;subst g;cases r with
 | cons r rr=>
  rw[d];refine assignInOrder_cons (pV (b a s f H _ _ _ I r h) λ_ i ⟨j,k,l,m⟩=>?_);exact c a i j k _ _ Q l rr m
noncomputable def NI(K:ah)(n:Nat)(t:Df):TG:=λv σ H Q=>∃a xs,v=.ref a/\rG K H a xs/\xs.length=n/\t xs σ H Q
def Xs(i:X.calm=qb)(h:IH X es t)
  (j:(gK es X.env).length=n:=by rfl) (l:(gK es X.env).findIdx? (·.1)=KM:=by rfl):PG X (.Tuple es k pos) (NI X.K n t):=by intro c s f H v u Q I r d;obtain⟨a,m,p,q,w,d⟩:=d;subst p;cases r;obtain⟨B,g,x,C⟩:=I.tuple q;refine assign_Tuple_tuple (I.ok.hd i) x (by simp[j,<- w,g.length]) l λy z=>?_;have A:Inv X c f H { s with heap:=y }:=I.kept (t':=s.toks) λb o e=>z b o (bo (aK e)) e;exact h c _ f H m _ Q A (by simpa using g) d
def uu(to ti:TE)(t:I8):TG:=λv σ H Q=>to σ H λo H1=>ti σ H1 λi H2=>t o i v H2 λH3=>Q σ H3
def Wl{o i:aT}{e f:TE}{t:I8}(g:PE X o e)(j:PE X i f)(k:NQ X t)
  (l:∀v,assign (.Subscript o i pos) X.env v=(do
   let b <- holding [v] (eval o X.env);let c <- holding [v,b] (eval i X.env)
   standAt pos
   holding [v,b,c] (setItem b c v)
   release [v,b,c] []):=by intro _;rfl):PG X (.Subscript o i pos) (uu e f t):=by intro a s d H v u Q I r h;rw[l];refine aa (bH (pV (g a s d H _ I h) λb m ⟨x,n,p,q,w⟩=>?_));refine aa (bH (pV (j a m d n _ p w) λc z ⟨y,A,B,C,D⟩=>?_));refine aa (eS (aa (bH (pV (k a z d A x y v b c u _ B q C r D) λ_ J ⟨E,F,G⟩=>?_))));exact wpAny_release ⟨d,E,F,G⟩
def BW(te:TE)(g:TG):TS:=λD σ H=>te σ H λx H1=>g x σ H1 D.nx
def OP{b e:aT}{te:TE}{g:TG}(d:PE X e te)(f:PG X b g)(i:jI [b] e pos.line X.env=pure qh:=by rfl)(j:jJ [b] e X.env=pure KM:=by rfl)
  (k:(gK [b] X.env).map (·.2)=[assign b X.env]:=by rfl):PS X (.Assign [b] e pos) (BW te g):=by intro a s c H D I h;refine wpAny_Assign_stores (pV (d a s c H _ I h) λv l ⟨x,m,n,o,p⟩=>?_) i j;rw[k];exact pV (f a l c m x v _ n o p) λ_ r q=>q
def OZ{i:Nat}{x:Str}{e:aT}{te:TE}{a:Pos}(c:X.N.Nodup)(d:X.N[i]?=KF x)(f:Loc X.env.scope x)(g:PE X e te)(j:swapsWith e (KF (.Name x a)) pos.line X.env=pure qh:=by rfl)(k:X.fn x=qb\/X.env.scope.names.lookup x=KF .local:=by first|exact .inl rfl|exact .inr rfl|assumption):
  PS X (.Assign [.Name x a] e pos) (BW te (x_ i)):=by intro b s l H D I h;refine wpAny_Assign_Name (pV (g b s l H _ I h) λv r ⟨y,m,n,o,p⟩=>?_) j;exact Ky n c d f o (λt q=>⟨_,m,q,p⟩) k
def Vz(i:Nat)(te:TE)(ti:IG):TS:=λD σ H=>∃x,σ[i]?=KF (KF x)/\te σ H λy H1=>ti x y H1 λz H2=>D.nx (σ.set i (KF z)) H2
def XX{i:Nat}{x:Str}{e:aT}{te:TE}{d:Operator}{j:IG}{b:Pos}(q:X.N.Nodup)(n:X.N[i]?=KF x)(f:Loc X.env.scope x)(t:PE X e te)(B:UQ X d j)(C:X.fn x=qb\/X.env.scope.names.lookup x=KF .local:=by first|exact .inl rfl|exact .inr rfl|assumption):
  PS X (.AugAssign (.Name x b) d e pos) (Vz i te j):=by
 intro a s o H D I h;obtain⟨v,E,h⟩:=h;obtain⟨m,F,G⟩:=I.loc;have g:uU X.env.scope x:=by rcases f with k|k;exact .inl k;exact .inr (.inl k)
 obtain⟨u,r,l⟩:=G i x v n E g;refine wpAny_AugAssign_Name ?_;have p:ao (ay X.prog X.w) X.A (eval e X.env) (λw J=>ao (ay X.prog X.w) X.A (inplaceOp d u w) (λr K=>ao (ay X.prog X.w) X.A (storeName X.env x r) (λ_=>SP X a D .next) X.xe K) X.xe J) X.xe s:=by
  refine pV (t a s o H _ I h) λw L ⟨y,M,O,P,Q⟩=>?_;refine pV (B a L o M v y u w _ O r P Q) λz s2 ⟨zv,R,S,T,U⟩=>?_;exact Ky S q n f T (λs3 V=>⟨_,R,V,U⟩) C
 rcases l with⟨hk,W⟩|⟨hk,c,Y,Z⟩
 ·exact lI I.ok.kind hk F W p
 ·rcases hk with hk|hk
  ·exact lZ I.ok.kind hk Y Z p
  ·rcases f with k|k
   ·have:X.env.scope.names.lookup x=KF .free:=hk;rw[k] at this;cases this
   ·have:X.env.scope.names.lookup x=KF .free:=hk;rw[k] at this;cases this
def ipI(f:Int->Int->Int):IG:=λx y H Q=>∃i j,x=.int i/\y=.int j/\Q (.int (f i j)) H
def W_:UQ X .Add (ipI λi j=>i+j):=by intro a s f H x y v u Q I b c h;obtain⟨i,j,d,e,q⟩:=h;subst d;subst e;obtain⟨t,rfl⟩:=b;obtain⟨g,rfl⟩:=c;exact iadd_int ⟨.int _,H,I.tok _,⟨_,rfl⟩,q⟩
end
section
variable{X:Cx}{pos:Pos}
noncomputable def XG(c:TT)(tb:TS):TS:=λD σ H=>∃W:Nat->St->Hp->Prop,(∃m,W m σ H)/\∀m σ H,W m σ H->
 c σ H λb H1=>if b=qb then ∃N:St->Hp->Prop,(∀σ' H',N σ' H'->∃m',m'<m/\W m' σ' H')/\tb { D with nx:=N,ct:=N,bk:=D.nx } σ H1 else D.nx σ H1
def zfV{c:aT}{body:List eI}{t:TT}{u:TS}(x:kH (ay X.prog X.w) X.A X.env X.xe)(F:PT X c t)(G:tF X body u):PS X (.While c body [] pos) (XG t u):=by
 intro a s J H D I h;obtain⟨W,⟨K,L⟩,d⟩:=h;refine wpAny_While (codeAny_whileLoop (λn M=>∃e y,Inv X a e y M/\W n e y) ?_ K ⟨J,H,I,L⟩);rintro n O ⟨j,z,P,Q⟩;refine fz x (pV (F a O j z _ P (d n j z Q)) λb R ⟨B,C,k⟩=>?_);cases b with
 | true=>
  obtain⟨N,E,k⟩:=k;rw[qq rfl];refine fz x (pV (G a R j B _ C k) λf S l=>?_);cases f with
  | next=>
   obtain⟨g,i,m,o⟩:=l;obtain⟨p,q,r⟩:=E g i o;exact⟨p,q,g,i,m,r⟩
  | cont=>
   obtain⟨g,i,m,o⟩:=l;obtain⟨p,q,r⟩:=E g i o;exact⟨p,q,g,i,m,r⟩
  |brk=>exact l
  |ret v=>exact l
 | false=>
  rw[qM ck];exact iZ ⟨j,B,C,k⟩
end
structure It where
 go:Nat->Hp->Prop
 yld:Nat->Hp->V->Hp->Prop
 stop:Nat->Hp->Prop
def su(X:Cx)(Y1:List (ae×Obj))(H:Hp)(b:ae):Prop:=
 H b=KM/\b≠X.env.locals/\b∉X.fs/\(b∈X.ex\/X.s₀.heap.objs.size<=b)/\(∀x c,X.env.cells.lookup x=KF c->c≠b)/\∀p∈X.pn++Y1,p.1≠b
def Inv.fpOk(I:Inv X Y1 σ H s)(a:s.heap.objs.size<=b)(d:H' b=KM):su X Y1 H' b:=by
 refine⟨d,eo (bb I.lt a),I.nofs a,.inr (aI I.sz a),λx c e z=>?_,λp f z=>?_⟩
 ·obtain⟨v,q⟩:=I.cell x c e;exact absurd (bb q.lt (by rw[z];exact a)) (bS _)
 ·exact absurd (bb (aK (I.pin p f).1) (by rw[z];exact a)) (bS _)
structure wQ(P:aP)(w:aY)(K:ah)(tg:aT)(J:It)(fp:List ae)(it:ae)(tn:Nat->aX->Prop):Prop where
 mem:it∈fp
 obj:∀i h,tn i h->∀b∈fp,∃o,h.get? b=KF o/\∀v,o.data ≠ .cell v
 keep:∀i h h',tn i h->(∀b∈fp,∀o,h.get? b=KF o->h'.get? b=KF o)->tn i h'
 item:∀(X:Cx),X.prog=P->X.w=w->X.K=K->X.calm=qb->∀(i:Nat)(Y1:List (ae×Obj))(s:ag)(σ:St)(H:Hp)(E:ab->ag->Prop),Inv X Y1 σ H s->(∀b∈fp,su X Y1 H b)->tn i s.heap->J.go i H->
  ao (ay P w) X.A (pyNext (.ref it)) (λr s1=>∃u,r=KF u/\
   ao (ay P w) X.A (letOwnedTupleGo tg (.ref it) u) (λ_ s2=>∃x H',Inv X Y1 σ H' s2/\RelV x u/\J.yld i H x H'/\tn (i+1) s2.heap/\∀b∈fp,H' b=KM) E s1) E s
 done:∀(X:Cx),X.prog=P->X.w=w->X.K=K->X.calm=qb->∀(i:Nat)(Y1:List (ae×Obj))(s:ag)(σ:St)(H:Hp)(E:ab->ag->Prop),Inv X Y1 σ H s->(∀b∈fp,su X Y1 H b)->tn i s.heap->J.stop i H->
  ao (ay P w) X.A (pyNext (.ref it)) (λr s1=>r=KM/\Inv X Y1 σ H s1) E s
 self:∀(A:ba)(i:Nat)(s:ag)(Q:ab->ag->Prop)(E:ab->ag->Prop),tn i s.heap->Q (.ref it) s->ao (ay P w) A (pyIter (.ref it)) Q E s
abbrev TI:=St->Hp->(It->Hp->Prop)->Prop
def UR(X:Cx)(Y1:List (ae×Obj))(σ:St)(tg:aT)(R:It->Hp->Prop)(E5:ab)(s2:ag):Prop:=
 ∃(it:ae)(fp:List ae)(tn:Nat->aX->Prop)(J:It)(H':Hp),E5=.ref it/\Inv X Y1 σ H' s2/\wQ X.prog X.w X.K tg J fp it tn/\tn 0 s2.heap/\(∀b∈fp,su X Y1 H' b)/\R J H'
def PI(X:Cx)(tg iter:aT)(wi:TI):Prop:=
 ∀(Y1:List (ae×Obj))(s:ag)(σ:St)(H:Hp)(R:It->Hp->Prop),Inv X Y1 σ H s->wi σ H R->
  ao (ay X.prog X.w) X.A (eval iter X.env) (λv s1=>ao (ay X.prog X.w) X.A (pyIter v) (UR X Y1 σ tg R) X.xe s1) X.xe s
def DB(b:s.heap.get? it=KF o)(c:o.cls=.type n)(d:o.data=.fields vs)
  (e:["enumerate", "zip", "dict_itemiterator", "dict_reverseitemiterator", "odict_iterator", "itertools.zip_longest", "itertools.pairwise"].contains n=qh) (a:Q () s):ao M A (letOwnedTupleGo tg (.ref it) u) Q E s:=by
 unfold letOwnedTupleGo;cases tg<;>first
  |exact ai a
  | (cases u<;>first
    |exact ai a
    | (refine aa (wpAny_load b ?_)
       rw[c,d];show ao M A (if (["enumerate", "zip", "dict_itemiterator", "dict_reverseitemiterator", "odict_iterator", "itertools.zip_longest", "itertools.pairwise"].contains n&&vs[0]?==KF (bO _))=qb then _ else _) Q E s;rw[qM (by intro h;rw[e,kZ] at h;cases h)];exact ai a))
noncomputable def Nn(K:ah)(a:ae):It:=
 ⟨λi H=>∃xs x,qO K H a xs/\xs[i]?=KF x,λi H x H'=>H'=H/\∀xs,qO K H a xs->xs[i]?=KF x,λi H=>∃xs,qO K H a xs/\xs.length<=i⟩
noncomputable def Nl(K:ah)(a:ae):It:=
 ⟨λi H=>∃xs x,rG K H a xs/\xs[i]?=KF x,λi H x H'=>H'=H/\∀xs,rG K H a xs->xs[i]?=KF x,λi H=>∃xs,rG K H a xs/\xs.length<=i⟩
noncomputable def F6(lo:Int)(n:Nat):It:=⟨λi _=>i<n,λi H x H'=>H'=H/\x=.int (lo+i),λi _=>n<=i⟩
def RW{P:aP}{w:aY}{K:ah}{O:aT}(a it:ae):wQ P w K O (Nn K a) [it] it (λi h=>h.IsListIter it a i) where
 mem:=by simp
 obj:=λi h f b j=>by
  have e:b=it:=by simpa using j
  subst e;obtain⟨o,e,c,d⟩:=f;exact⟨o,e,λv z=>by rw[d] at z;cases z⟩
 keep:=λi h l f k=>f.at λo e=>k it 'k' o e
 item:=by
  intro X q r t L i g s M H E I m f y;subst q r t;obtain⟨Q,x,n,A⟩:=y;obtain⟨R,B,p,S⟩:=I.list n;obtain⟨u,T,U⟩:=B.get A;obtain⟨C,D,V,F,G,J⟩:=m it 'k';refine wpAny_pyNext_list_item f p.isList (x:=u) (by simpa using T) λl N W=>?_;have Y:Inv X g M H { s with heap:=l }:=I.turned (t':=s.toks) (λb o j e=>(W.2 b j).trans e) C D F G J;obtain⟨o,e,c,d⟩:=id N;exact⟨u,rfl,DB (s:={ s with heap:=l }) e c d 'u' ⟨x,H,Y,U,⟨rfl,λys Z=>by rw[I.list_inj Z n];exact A⟩,N,λb j=>(m b j).1⟩⟩
 done:=by
  intro X q r t L i g s M H E I m f y;subst q r t;obtain⟨Q,n,A⟩:=y;obtain⟨R,B,p,S⟩:=I.list n;obtain⟨C,D,V,F,G,J⟩:=m it 'k';have hl:=B.length;exact wpAny_pyNext_list_end (I.ok.hd L) f p.isList (by simp;lia) λl eb=>⟨rfl,I.turned (t':=s.toks) (λb o j e=>eb b o j e) C D F G J⟩
 self:=λ_ _ _ _ _ f h=>wpAny_pyIter_listiter f h
def zbV{P:aP}{w:aY}{K:ah}{Q:aT}(a it:ae):wQ P w K Q (Nl K a) [it] it (λi h=>h.IsTupleIter it a i) where
 mem:=by simp
 obj:=λi h f b j=>by
  have e:b=it:=by simpa using j
  subst e;obtain⟨o,e,c,d⟩:=f;exact⟨o,e,λv z=>by rw[d] at z;cases z⟩
 keep:=λi h l f k=>f.at λo e=>k it 'k' o e
 item:=by
  intro X q r t M i g s N H E I m f y;subst q r t;obtain⟨R,x,n,A⟩:=y;obtain⟨B,C,p,S⟩:=I.tuple n;obtain⟨u,T,U⟩:=C.get A;obtain⟨D,F,V,G,J,L⟩:=m it 'k';refine wpAny_pyNext_tuple_item f (show s.heap.IsTuple a B.toArray from p) (x:=u) (by simpa using T) λl O W=>?_;have Y:Inv X g N H { s with heap:=l }:=I.turned (t':=s.toks) (λb o j e=>(W.2 b j).trans e) D F G J L;obtain⟨o,e,c,d⟩:=id O;exact⟨u,rfl,DB (s:={ s with heap:=l }) e c d 'u' ⟨x,H,Y,U,⟨rfl,λys Z=>by rw[I.tuple_inj Z n];exact A⟩,O,λb j=>(m b j).1⟩⟩
 done:=by
  intro X q r t M i g s N H E I m f y;subst q r t;obtain⟨R,n,A⟩:=y;obtain⟨B,C,p,S⟩:=I.tuple n;obtain⟨D,F,V,G,J,L⟩:=m it 'k';have hl:=C.length;exact wpAny_pyNext_tuple_end (I.ok.hd M) f (show s.heap.IsTuple a B.toArray from p) (by simp;lia) λl eb=>⟨rfl,I.turned (t':=s.toks) (λb o j e=>eb b o j e) D F G J L⟩
 self:=λ_ _ _ _ _ f h=>wpAny_pyIter_tupleiter f h
def zbP{P:aP}{w:aY}{K:ah}{G:aT}(it:ae)(lo:Int)(n:Nat):wQ P w K G (F6 lo n) [it] it (λi h=>IsRangeIter h it (lo+(i:Nat)*1) ((n:Int)-(i:Nat)) 1) where
 mem:=by simp
 obj:=λi h a b d=>by
  have e:b=it:=by simpa using d
  subst e;exact⟨_,a,λv z=>by
   have J:Data.fields _=Data.cell v:=z;cases J⟩
 keep:=λi h f a k=>k it 'k' _ a
 item:=by
  intro X j l m p i c s C H E I g a q;subst j l m;obtain⟨r,u,L,x,y,A⟩:=g it 'k';have W:=Walks.range (prog:=X.prog) (w:=X.w) (I.ok.hd p) it lo 1 n;refine f9 I.tk (W.item i s _ _ q a λv f B M D N F=>?_);have F:0<B:=F;obtain⟨t,rfl⟩:=M;have O:Inv X c C H { s with heap:=f,toks:=B }:=I.turned (λb o d e=>N b o (by simpa using d) e) r u x y A;refine⟨_,rfl,DB (s:={ s with heap:=f,toks:=B }) (n := "range_iterator") D rfl rfl 'u' ⟨.int (lo+i),H,O,⟨t,?_⟩,⟨rfl,rfl⟩,D,λb d=>(g b d).1⟩⟩;rw[Int.mul_one]
 done:=by
  intro X j l m p i c s C H E I g a q;subst j l m;obtain⟨r,u,L,x,y,A⟩:=g it 'k';exact wpAny_pyNext_range_end (I.ok.hd p) a (by have:n<=i:=q;lia) λf Q=>⟨rfl,I.turned (t':=s.toks) (λb o d e=>Q b o d e) r u x y A⟩
 self:=λ_ _ _ _ _ a h=>wpAny_pyIter_rangeiter a h
section
variable{X:Cx}{tg:aT}
def Ro{c:List (ae×Obj)}{σ:St}{H:Hp}{s:ag}{R:It->Hp->Prop}{E:ab->ag->Prop}{lo a:Int}{t u v:Tok}{tk:Nat}(I:Inv X c σ H s)(f:-(2 ^ 62)<=lo)(g:lo<2 ^ 62)(h:-(2 ^ 62)<=a)(i:a<2 ^ 62)
  (q:R (F6 lo (a-lo).toNat) H) (m:0<tk):ao (ay X.prog X.w) X.A (pyIter (.ref s.heap.objs.size)) (UR X c σ tg R) E { s with heap:=s.heap.push { cls:=.type "range",data:=.fields #[.int lo t,.int a u,.int 1 v] },toks:=tk }:=by
 refine wpAny_pyIter_range (IsRange.new ..) (small_one f g h i) ?_;have d:Inv X c σ H { s with heap:=s.heap.push { cls:=.type "range",data:=.fields #[.int lo t,.int a u,.int 1 v] },toks:=tk }:=I.kept λb o e=>af _ e;refine⟨(s.heap.push { cls:=.type "range",data:=.fields #[.int lo t,.int a u,.int 1 v] }).objs.size,[(s.heap.push { cls:=.type "range",data:=.fields #[.int lo t,.int a u,.int 1 v] }).objs.size],_,_,H,rfl,
  d.kept (t':=tk) λb o e=>af _ e,zbP _ lo (a-lo).toNat,?_,λb j=>?_,q⟩
 ·have k:lo+((0:Nat):Int)*1=lo:=by simp
  have l:(((a-lo).toNat:Nat):Int)-((0:Nat):Int)=Builtin.Range.rangeSize lo a 1:=by rw[rangeSize_one];split<;>lia
  show IsRangeIter _ _ (lo+((0:Nat):Int)*1) ((((a-lo).toNat:Nat):Int)-((0:Nat):Int)) 1;rw[k,l];exact aE _ rfl
 ·have e:b=(s.heap.push { cls:=.type "range",data:=.fields #[.int lo t,.int a u,.int 1 v] }).objs.size:=by simpa using j
  subst e;exact d.fpOk (aC _) (d.hok.fresh (aC _))
def VP(ta:TA):TI:=λσ H R=>ta σ H λvs H1=>∃j:Int,vs=[.int j]/\-(2 ^ 62)<=j/\j<2 ^ 62/\R (F6 0 j.toNat) H1
def Wd(ta:TA):TI:=λσ H R=>ta σ H λvs H1=>∃i j:Int,vs=[.int i,.int j]/\(-(2 ^ 62)<=i/\i<2 ^ 62/\-(2 ^ 62)<=j/\j<2 ^ 62)/\R (F6 i (j-i).toNat) H1
def zd1{a:aT}{d:TA}{p pos:Pos}(g:Gl X "range")(i:X.mg "range" = KM)(k:PA X [a] d)(l:aN [a] X.env=[(qh,eval a X.env)]:=by rfl):PI X tg (.Call (.Name "range" p) [a] [] pos) (VP d):=by
 intro b s m H R I h;refine kC (zV I g i boot_range (d9 (pV (k pos b s m H _ I h) λu v ⟨w,x,f,n,c⟩=>?_) l rfl));obtain⟨j,e,c,o,q⟩:=c;subst e;cases n with
 | cons r rr=>
  cases rr;obtain⟨t,rfl⟩:=r;exact call_range_1 (Ro f 'd' 'd' c o (by simpa using q) (by first|exact cO _|exact f.tk))
def ze8(k:Gl X "range")(l:X.mg "range" = KM)(m:PA X [a,b] ta)(n:aN [a,b] X.env=[(qh,eval a X.env),(qh,eval b X.env)]:=by rfl)(f:aN [b] X.env=[(qh,eval b X.env)]:=by rfl):
  PI X tg (.Call (.Name "range" p) [a,b] [] pos) (Wd ta):=by
 intro c s o H R I h;refine kC (zV I k l boot_range (d9 (pV (m pos c s o H _ I h) λy z ⟨A,B,g,u,d⟩=>?_) (by rw[n,f]) (by rw[f];rfl)));obtain⟨i,j,e,⟨d,v,w,x⟩,q⟩:=d;subst e;cases u with
 | cons r rr=>
  cases rr with
  | cons r' rr=>
   cases rr;obtain⟨t,rfl⟩:=r;obtain⟨C,rfl⟩:=r';exact call_range_2 (Ro g d v w x q (by first|exact cO _|exact g.tk))
noncomputable def U3(wi:TI)(g:TG)(tb:TS):TS:=λD σ H=>wi σ H λJ H1=>∃W:Nat->Nat->St->Hp->Prop,(∃m,W 0 m σ H1)/\∀i m σ H,W i m σ H->
 (J.stop i H/\D.nx σ H)\/(J.go i H/\∃N:St->Hp->Prop,(∀σ' H',N σ' H'->∃m',m'<m/\W (i+1) m' σ' H')/\∀x H',J.yld i H x H'->g x σ H' λsN H2=>tb { D with nx:=N,ct:=N,bk:=D.nx } sN H2)
def DH(fp:List ae)(h:aX):List (ae×Obj):=fp.filterMap λb=>(h.get? b).map λo=>(b,o)
def Hv(a:b∈fp)(e:h.get? b=KF o):(b,o)∈DH fp h:=g9.mpr ⟨b,a,by rw[e];rfl⟩
def zdW(a:p∈DH fp h):p.1∈fp/\h.get? p.1=KF p.2:=by
 obtain⟨b,c,e⟩:=g9.mp a;cases q:h.get? b with
 |none=>rw[q] at e;cases e
 | some o=>
  rw[q] at e;have d:(b,o)=p:=cq e;subst d;exact⟨c,q⟩
def Inv.pinned(I:Inv X Y1 σ H s)(f:∀b∈fp,su X Y1 H b)(g:∀b∈fp,∃o,s.heap.get? b=KF o/\∀v,o.data ≠ .cell v):Inv X (Y1++DH fp s.heap) σ H s:=
 I.pins_of λp h=>(aQ.mp h).elim (λz=>I.pin p (aA _ z)) λz=>by
  obtain⟨a,e⟩:=zdW z;obtain⟨i,j,k,_⟩:=f p.1 a;obtain⟨o,c,d⟩:=g p.1 a;rw[e] at c;cases c;exact⟨e,i,j,k,d⟩
def Inv.unpinned(I:Inv X (Y1++pl) σ H s):Inv X Y1 σ H s:=I.pins_of λp a=>I.pin p (aA _ (bM _ a))
def O7(z:kH (ay X.prog X.w) X.A X.env X.xe)(U:X.calm=qb)(hi:PI X tg iter wi)(hg:PG X tg g)(c:tF X body tb)
  (hs:∀x,bU iter X.env x=pure x:=by intro _;rfl):PS X (.For tg iter body [] pos) (U3 wi g tb):=by
 intro a s V H D I h;refine wpAny_For (pV (hi a s V H _ I h) λv s1 h1=>pV h1 λE5 s2 h2=>?_) hs;obtain⟨it,B,Y,J,H2,e,I2,T,qv,Z,W,⟨m0,w0⟩,C⟩:=h2;subst e
 -- what stays qb of the Bd objects through the loop
 have M:∀{t:Hp},(∀b∈B,t b=KM)->∀b∈B,su X a t b:=λhn b c=>⟨hn b c,(Z b c).2⟩;refine codeAny_forLoop_any (λn s'=>∃i j t,Inv X a j t s'/\Y i s'.heap/\(∀b∈B,t b=KM)/\W i n j t) ?_ m0 ⟨0,V,H2,I2,qv,λb c=>(Z b c).1,w0⟩;rintro n s3 ⟨i,E,L,I3,qf,IC,w3⟩;rcases C i n E L w3 with⟨F,qn⟩|⟨go,N,hN,G⟩
 ·refine fz z (pV (T.done X rfl rfl rfl U i a s3 E L X.xe I3 (M IC) qf F) λr s4 ⟨O,I4⟩=>?_);subst O;exact iZ ⟨E,L,I4,qn⟩
 ·refine fz z (pV (T.item X rfl rfl rfl U i a s3 E L X.xe I3 (M IC) qf go) λr s4 ⟨u,O,h4⟩=>?_);subst O;refine fz z (pV h4 λ_ s5 ⟨x,H5,I5,r5,y5,P,Q⟩=>?_);have R:=I5.pinned (M Q) (T.obj _ _ P);refine fz z (pV (hg _ s5 E H5 x u _ R r5 (G x H5 y5)) λ_ s6 ⟨U1,H6,I6,q6⟩=>?_);refine fz z (pV (c _ s6 U1 H6 _ I6 q6) λf S y=>?_);have k:∀{l:St}{p:Hp},Inv X (a++DH B s5.heap) l p S->N l p->∃m,m<n/\∃i j t,Inv X a j t S/\Y i S.heap/\(∀b∈B,t b=KM)/\W i m j t:=λ{l p}q K=>by
   obtain⟨m',hm,w7⟩:=hN l p K;refine⟨m',hm,i+1,l,p,q.unpinned,T.keep _ _ _ P λb c o e=>(q.pin (b,o) (aA _ (aA _ (Hv c e)))).1,λb c=>?_,w7⟩;obtain⟨o,e,d⟩:=T.obj _ _ P b c;exact(q.pin (b,o) (aA _ (aA _ (Hv c e)))).2.1
  cases f with
  |next=>obtain⟨l,p,q,K⟩:=y;exact k q K
  |cont=>obtain⟨l,p,q,K⟩:=y;exact k q K
  |brk=>obtain⟨l,p,q,y⟩:=y;exact⟨l,p,q.unpinned,y⟩
  |ret v=>obtain⟨x7,l,p,q,r7,y⟩:=y;exact⟨x7,l,p,q.unpinned,r7,y⟩
end
abbrev R2:=V->V->Hp->VK->Prop
def qI(X:Cx)(f:ab->ab->Sem ab)(r:R2):Prop:=
 ∀(Y1:List (ae×Obj))(s:ag)(σ:St)(H:Hp)(x y:V)(v u:ab)(Q:VK),Inv X Y1 σ H s->RelV x v->RelV y u->r x y H Q->
  ao (ay X.prog X.w) X.A (f v u) (EP X Y1 σ Q) X.xe s
def Ni(X:Cx)(f:ab->Sem ab)(r:V->Hp->VK->Prop):Prop:=
 ∀(Y1:List (ae×Obj))(s:ag)(σ:St)(H:Hp)(x:V)(v:ab)(Q:VK),Inv X Y1 σ H s->RelV x v->r x H Q->
  ao (ay X.prog X.w) X.A (f v) (EP X Y1 σ Q) X.xe s
def oM(X:Cx)(f:ab)(r:List V->Hp->VK->Prop):Prop:=
 ∀(Y1:List (ae×Obj))(s:ag)(σ:St)(H:Hp)(xs:List V)(us:List ab)(Q:VK),Inv X Y1 σ H s->oE xs us->r xs H Q->
  ao (ay X.prog X.w) X.A (call f us) (EP X Y1 σ Q) X.xe s
def Vf(X:Cx)(r:V->Hp->(Bool->Hp->Prop)->Prop):Prop:=
 ∀(Y1:List (ae×Obj))(s:ag)(σ:St)(H:Hp)(x:V)(v:ab)(Q:Bool->Hp->Prop),Inv X Y1 σ H s->RelV x v->r x H Q->
  ao (ay X.prog X.w) X.A (truthy v) (TP X Y1 σ Q) X.xe s
def EE(r:R2)(ta tb:TE):TE:=λσ H Q=>ta σ H λx H1=>tb σ H1 λy H2=>r x y H2 Q
def tUn(r:V->Hp->VK->Prop)(ta:TE):TE:=λσ H Q=>ta σ H λx H1=>r x H1 Q
def rI(C:Int->Int->Prop)(g:Int->Int->V):R2:=λx y H Q=>∃i j,x=.int i/\y=.int j/\C i j/\Q (g i j) H
def uP(g:Int->Int->V):R2:=λx y H Q=>∃i j,x=.int i/\y=.int j/\Q (g i j) H
def rU(g:Int->V):V->Hp->VK->Prop:=λx H Q=>∃i,x=.int i/\Q (g i) H
section
variable{X:Cx}{a b:aT}{ta tb:TE}{pos:Pos}
def IU(i:PE X a ta)(j:PE X b tb){c:List (ae×Obj)}{s:ag}{σ:St}{H:Hp}{R:V->V->Hp->Prop}(I:Inv X c σ H s)
  (h:ta σ H λx g=>tb σ g λy d=>R x y d) {Q:ab->ag->Prop} {f:ab->ab->Sem ab}
  (k:∀v u e x y d,Inv X c σ d e->RelV x v->RelV y u->R x y d->ao (ay X.prog X.w) X.A (f v u) Q X.xe e):
  ao (ay X.prog X.w) X.A (eval a X.env) (λv l=>ao (ay X.prog X.w) X.A (eval b X.env) (λu m=>ao (ay X.prog X.w) X.A (f v u) Q X.xe m) X.xe l) X.xe s:=by refine pV (i c s σ H _ I h) λv n ⟨x,g,o,p,q⟩=>?_;refine pV (j c n σ g _ o q) λu e ⟨y,d,r,t,z⟩=>?_;exact k v u e x y d r p t z
def Wg{d:Operator}{r:R2}(e:qI X (dO d) r)(f:PE X a ta)(g:PE X b tb):PE X (.BinOp a d b pos) (EE r ta tb):=by intro c s i H Q I h;exact wpAny_BinOp (IU f g I h λv u j x y k l m n q=>e c j i k x y v u Q l m n q)
def Vt(e:Ni X (unaryOp op) r)(f:PE X a ta):PE X (.UnaryOp op a pos) (tUn r ta):=by intro c s d H Q I h;exact UnaryOp_ (pV (f c s d H _ I h) λv g ⟨x,i,j,k,l⟩=>e c g d i x v Q j k l)
def CV{f:ab->ab->Sem ab}{C:Int->Int->Prop}{g:Int->Int->Int}
  (c:∀(i j:Int)(t u:Tok)(s:ag)(Q:ab->ag->Prop)(E:ab->ag->Prop),C i j->Q (.int (g i j) s.toks) { s with toks:=s.toks+1 }->ao (ay X.prog X.w) X.A (f (.int i t) (.int j u)) Q E s):
  qI X f (rI C λi j=>.int (g i j)):=by intro d s n H x y v u Q I e k h;obtain⟨i,j,rfl,rfl,l,q⟩:=h;obtain⟨t,rfl⟩:=e;obtain⟨m,rfl⟩:=k;exact c i j t m s _ _ l ⟨.int (g i j),H,I.tok _,⟨_,rfl⟩,q⟩
def Dh{f:ab->ab->Sem ab}{g:Int->Int->Int}
  (c:∀(i j:Int)(t u:Tok)(s:ag)(Q:ab->ag->Prop)(E:ab->ag->Prop),Q (.int (g i j) s.toks) { s with toks:=s.toks+1 }->ao (ay X.prog X.w) X.A (f (.int i t) (.int j u)) Q E s):
  qI X f (uP λi j=>.int (g i j)):=by intro d s m H x y v u Q I e k h;obtain⟨i,j,rfl,rfl,q⟩:=h;obtain⟨t,rfl⟩:=e;obtain⟨l,rfl⟩:=k;exact c i j t l s _ _ ⟨.int (g i j),H,I.tok _,⟨_,rfl⟩,q⟩
def Ja{f:ab->ab->Sem ab}{g:Int->Int->Bool}
  (c:∀(i j:Int)(t u:Tok)(s:ag)(Q:ab->ag->Prop)(E:ab->ag->Prop),Q (.bool (g i j)) s->ao (ay X.prog X.w) X.A (f (.int i t) (.int j u)) Q E s):
  qI X f (uP λi j=>.bl (g i j)):=by intro d s m H x y v u Q I e k h;obtain⟨i,j,rfl,rfl,q⟩:=h;obtain⟨t,rfl⟩:=e;obtain⟨l,rfl⟩:=k;exact c i j t l s _ _ ⟨.bl (g i j),H,I,rfl,q⟩
def NA(i j:Int):Prop:=0<j/\j<1073741824
def Ge(i j:Int):Prop:=0<=j/\j<=1000000/\i.natAbs<2 ^ 64
def pF(i j:Int):Prop:=(-(2 ^ 64)<i/\i<2 ^ 64)\/(-(2 ^ 64)<j/\j<2 ^ 64)
def pF.ok(h:pF i j):IntMulOk i j:=by
 rcases h with⟨c,d⟩|⟨c,d⟩
 ·exact .of_left (intBits_le_64 c d)
 ·exact .of_right (intBits_le_64 c d)
def zbW(k:Nat):(0:Int)<=2 ^ k:=by rw[two_pow_cast];exact Int.natCast_nonneg _
def Wr:qI X (dO .Add) (uP λi j=>.int (i+j)):=Dh λ_ _ _ _ _ _ _ q=>add_int q
def Xj:qI X (dO .Sub) (uP λi j=>.int (i-j)):=Dh λ_ _ _ _ _ _ _ q=>sub_int q
def Yp:qI X (dO .Mult) (rI pF λi j=>.int (i*j)):=CV λ_ _ _ _ _ _ _ c q=>mul_int q c.ok
def zhJ:qI X (dO .FloorDiv) (rI NA λi j=>.int (i/j)):=CV λi j _ _ _ _ _ c q=>by
 have d:(0:Int)<j:=c.1;have e:j<1073741824:=c.2;exact floordiv_int 'd' (by rw[jK i 'd'];exact q) (.inl (PyProof.noPylong_small 'd'))
def Wo:qI X (dO .Mod) (rI (λ_ j=>0<j) λi j=>.int (i%j)):=CV λi j _ _ _ _ _ c q=>by
 have d:(0:Int)<j:=c;exact mod_int' 'd' (by rw[Int.fmod_eq_emod_of_nonneg i 'd'];exact q)
def Xq:qI X (dO .Pow) (rI Ge λi j=>.int (i ^ j.toNat)):=CV λ_ _ _ _ _ _ _ c q=>pow_int_small c.1 c.2.1 c.2.2 q
def X9:qI X (dO .LShift) (rI Ge λi j=>.int (i*2 ^ j.toNat)):=CV λ_ _ _ _ _ _ _ c q=>lshift_int_small c.1 c.2.1 c.2.2 q
def Wv:qI X (dO .RShift) (rI (λ_ j=>0<=j) λi j=>.int (i/2 ^ j.toNat)):=CV λi j _ _ _ _ _ c q=>
 rshift_int c (by rw[jK i (zbW _)];exact q)
def X_:qI X (dO .BitAnd) (uP λi j=>.int (k7 i j)):=Dh λ_ _ _ _ _ _ _ q=>and_int q
def VN:qI X (dO .BitOr) (uP λi j=>.int (iG i j)):=Dh λ_ _ _ _ _ _ _ q=>or_int q
def Xm:qI X (dO .BitXor) (uP λi j=>.int (k8 i j)):=Dh λ_ _ _ _ _ _ _ q=>xor_int q
def unI{f:ab->Sem ab}{g:Int->Int}
  (c:∀(i:Int)(t:Tok)(s:ag)(Q:ab->ag->Prop)(E:ab->ag->Prop),Q (.int (g i) s.toks) { s with toks:=s.toks+1 }->ao (ay X.prog X.w) X.A (f (.int i t)) Q E s):
  Ni X f (rU λi=>.int (g i)):=by intro d s j H x v Q I e h;obtain⟨i,rfl,q⟩:=h;obtain⟨t,rfl⟩:=e;exact c i t s _ _ ⟨.int (g i),H,I.tok _,⟨_,rfl⟩,q⟩
def WO:Ni X (unaryOp .USub) (rU λi=>.int (-i)):=unI λ_ _ _ _ _ q=>neg_int q
end
section
variable{X:Cx}{a b c:aT}{ta tb tc:TE}{pos:Pos}
def JG(I:Inv X Y1 σ H s)(q:Q (.bl k) H)(e:k=k'):EP X Y1 σ Q (.bool k') s:=by subst e;exact⟨.bl k,H,I,rfl,q⟩
def NS:qI X (cM .Lt) (uP λi j=>.bl (decide (i<j))):=Ja λ_ _ _ _ _ _ _ q=>lt_int q
def N4:qI X (cM .LtE) (uP λi j=>.bl (decide (i<=j))):=Ja λ_ _ _ _ _ _ _ q=>le_int q
def N8:qI X (cM .GtE) (uP λi j=>.bl (decide (j<=i))):=Ja λ_ _ _ _ _ _ _ q=>ge_int q
def zd2:qI X (cM .In) (λx y H Q=>∃i j,x=.str i/\y=.str j/\Q (.bl (!(bN j i 0 j.length 1).isEmpty)) H):=by intro d s g H x y v u Q I e f h;obtain⟨i,j,rfl,rfl,q⟩:=h;obtain⟨t,rfl⟩:=e;obtain⟨k,rfl⟩:=f;exact in_str (JG I q rfl)
def Yn:qI X (cM .Is) (λx y H Q=>y=.non/\Q (.bl (decide (x=.non))) H):=by
 intro d s g H x y v u Q I e f h;obtain⟨rfl,q⟩:=h;cases f;refine is_none_gen (JG I q ?_);cases x<;>first
  |(cases e;rfl)
  |(obtain⟨t,rfl⟩:=e;rfl)
def z90:qI X (cM .NotIn) (λx y H Q=>∃i j,x=.str i/\y=.str j/\Q (.bl (!(!(bN j i 0 j.length 1).isEmpty))) H):=by intro d s g H x y v u Q I e f h;obtain⟨i,j,rfl,rfl,q⟩:=h;obtain⟨t,rfl⟩:=e;obtain⟨k,rfl⟩:=f;exact notIn_str (JG I q rfl)
def qI.or(h:qI X f r)(h':qI X f r'):qI X f (λx y H Q=>r x y H Q\/r' x y H Q):=by
 intro d s e H x y v u Q I g i q;rcases q with q|q
 ·exact h d s e H x y v u Q I g i q
 ·exact h' d s e H x y v u Q I g i q
def yL(b:aT)(h:op ≠ .In:=by decide)(d:op ≠ .NotIn:=by decide):behindInMarks op b=qh:=by
 have e:(op==CmpOp.In)=qh:=by cases op<;>first|rfl|exact absurd rfl h
 have f:(op==CmpOp.NotIn)=qh:=by cases op<;>first|rfl|exact absurd rfl d
 cases b<;>simp[behindInMarks,e,f]
def YV{e:CmpOp}{r:R2}(f:qI X (cM e) r)(g:PE X a ta)(i:PE X b tb)(j:behindInMarks e b=qh):PE X (.Compare a [e] [b] pos) (EE r ta tb):=by intro d s k H Q I h;exact wpAny_Compare1 (IU g i I h λv u l x y m n o p q=>f d l k m x y v u Q n o p q) j
def Ov(t:TE):TT:=λσ H Q=>t σ H λx H'=>∃k,x=.bl k/\Q k H'
def Y9(g:qI X (cM op) r)(i:PE X a ta)(j:PE X b tb)(l:behindInMarks op b=qh):PT X (.Compare a [op] [b] pos) (Ov (EE r ta tb)):=by
 intro d s f H Q I h;refine kY (pV (i d s f H _ I h) λv m ⟨x,n,o,p,q⟩=>pV (j d m f n _ o q) λu t ⟨y,w,A,B,C⟩=>
  pV (g d t f w x y v u _ A p B C) λc J ⟨z,D,E,F,k,e,G⟩=>?_) l
 subst e;cases F;exact de ⟨D,E,G⟩
noncomputable def V0(r r':R2)(ta tb tc:TE):TE:=λσ H Q=>ta σ H λx H1=>tb σ H1 λy H2=>r x y H2 λz H3=>∃k,z=.bl k/\
 (if k=qb then tc σ H3 λw' H4=>r' y w' H4 Q else Q (.bl qh) H3)
def zfR(n:qI X (cM op) r)(o:qI X (cM CW) r')(p:PE X a ta)(q:PE X b tb)(t:PE X c tc)
  (w:lastMarks [op,CW] [b,c]=qh:=by with_unfolding_all rfl):PE X (.Compare a [op,CW] [b,c] pos) (V0 r r' ta tb tc):=by
 intro f s g H Q I h;refine Compare_chain (pV (p f s g H _ I h) λv A ⟨x,B,C,D,E⟩=>chain_link (pV (q f A g B _ C E) λu F ⟨y,G,J,i,K⟩=>
  pV (n f F g G x y v u _ J D i K) λd L ⟨z,j,l,M,k,e,m⟩=>?_)) w
 subst e;cases M;refine de ?_;cases k with
 |false=>exact ite_ff ⟨.bl qh,j,l,rfl,m⟩
 |true=>exact ite_tt (chain_last (pV (t f L g j _ l m) λN O ⟨P,R,S,T,U⟩=>o f O g R y P u N Q S i T U))
def NJ(K:ah)(x:V)(H:Hp)(k:Bool):Prop:=
 match x with
 |.non=>k=qh
 |.bl b=>k=b
 |.int i=>k=(i !=0)
 |.str y=>y.length<=xc/\k=((y.length:Int) !=0)
 |.byt y=>y.size<=xc/\k=((y.size:Int) !=0)
 |.ref p=>(∃xs,qO K H p xs/\k = !xs.isEmpty)\/(∃xs,rG K H p xs/\k = !xs.isEmpty) \/ ∃k_,H p=KF (.dK k_)/\k = !k_.isEmpty
 |_=>False
def zc8{κ:Type}{d:List (κ×V)}{vs:List (κ×ab)}(r:KV d vs):(!vs.isEmpty) = !d.isEmpty:=by cases r<;>rfl
def SD{xs:List V}{d:List ab}(r:oE xs d):(!d.toArray.isEmpty) = !xs.isEmpty:=by cases r<;>simp
def Cc:(xc:Nat)<2 ^ 63:=by rw[kP];decide
def Wn:Vf X (λx H Q=>∃k,NJ X.K x H k/\Q k H):=by
 intro z s E H x v Q I j h;obtain⟨k,e,q⟩:=h;have F:=Cc;have G:xc=16777216:=kP;cases x with
 | non=>
  cases j;have d:k=qh:=e;subst d;exact truthy_none ⟨H,I,q⟩
 | bl b=>
  cases j;have d:k=b:=e;subst d;exact de ⟨H,I,q⟩
 | int i=>
  obtain⟨t,rfl⟩:=j;have d:k=(i !=0):=e;subst d;exact PySem.P.truthy_int ⟨H,I,q⟩
 | str y=>
  obtain⟨t,rfl⟩:=j;obtain⟨B,d⟩:y.length<=xc/\k=((y.length:Int) !=0):=e;subst d;exact PySem.P.truthy_str 'd' ⟨H,I.tok _,q⟩
 | byt y=>
  obtain⟨t,rfl⟩:=j;obtain⟨B,d⟩:y.size<=xc/\k=((y.size:Int) !=0):=e;subst d;exact PySem.W.truthy_bytes 'd' ⟨H,I.tok _,q⟩
 | ref p=>
  cases j;have d:(∃g,qO X.K H p g/\k = !g.isEmpty)\/(∃g,rG X.K H p g/\k = !g.isEmpty) \/ ∃l,H p=KF (.dK l)/\k = !l.isEmpty:=e;rcases d with⟨g,n,d⟩|⟨g,n,d⟩|⟨l,n,d⟩
  ·subst d;obtain⟨C,r,u,A⟩:=I.list n;have f:=r.length;exact wpAny_truthy_list u.isList (by simp only[aJ];lia) ⟨H,I.tok _,by rw[SD r];exact q⟩
  ·subst d;obtain⟨C,r,u,A⟩:=I.tuple n;have f:=r.length;exact truthy_tuple u (by simp only[aJ];lia) ⟨H,I.tok _,by rw[SD r];exact q⟩
  ·subst d;obtain⟨A,D,o,r,m⟩:l.length<=xc/\(p==sysModules)=qh/\∃o,KV l o/\s.heap.DictOf (uM X.prog X.w) p o:=I.hok p _ n;have f:l.length=o.length:=lS r;exact wpAny_truthy_dict D m 'd' ⟨H,I.tok _,by rw[zc8 r];exact q⟩
 |_=>exact(show False from e).elim
def zfJ(f:PE X a ta)(g:∀d,isTrue a X.env d=(do let v <- d;standAt a.pos;holding [v] (truthy v))):
  PT X a (λσ H Q=>ta σ H λx H'=>∃k,NJ X.K x H' k/\Q k H'):=by intro e s σ H Q I h;exact isTrue_plain (pV (f e s σ H _ I h) λv i ⟨x,j,l,m,n⟩=>Wn e i σ j x v Q l m n) (g _)
def zbS:qI X (dO .Add) (λx y H Q=>∃i j,x=.str i/\y=.str j/\i.length+j.length<=xc/\Q (.str (i++j)) H):=by intro d s m H x y v u Q I e f h;obtain⟨i,j,rfl,rfl,g,q⟩:=h;obtain⟨t,rfl⟩:=e;obtain⟨k,rfl⟩:=f;exact f9 I.tk (add_str (λk n l=>⟨.str (i++j),H,I.tok _ l,⟨_,rfl⟩,q⟩) g)
def uL(r:oE [x] us):∃u,us=[u]/\RelV x u:=by
 cases r with
 |cons r1 r2=>cases r2;exact⟨_,rfl,r1⟩
def B7(r:oE [x,y] us):∃u d,us=[u,d]/\RelV x u/\RelV y d:=by
 cases r with
 | cons r1 r2=>
  cases r2 with
  |cons r3 r4=>cases r4;exact⟨_,_,rfl,r1,r3⟩
def zeV(f:X.calm=qb):oM X (.builtin "max") (λxs H Q=>∃i j,xs=[.int i,.int j]/\Q (.int (if j>i then j else i)) H):=by
 intro e s l H xs m Q I r h;obtain⟨i,j,rfl,q⟩:=h;obtain⟨u,n,rfl,⟨t,rfl⟩,⟨o,rfl⟩⟩:=B7 r;refine f9 I.tk (max_two_ints (I.ok.hd f) λp v k g=>⟨_,H,I.kept k g,?_,q⟩);by_cases d:j>i
 ·rw[qq d,qq d];exact⟨_,rfl⟩
 ·rw[qM d,qM d];exact⟨_,rfl⟩
def zdS(f:X.calm=qb):oM X (.builtin "min") (λxs H Q=>∃i j,xs=[.int i,.int j]/\Q (.int (if j<i then j else i)) H):=by
 intro e s l H xs m Q I r h;obtain⟨i,j,rfl,q⟩:=h;obtain⟨u,n,rfl,⟨t,rfl⟩,⟨o,rfl⟩⟩:=B7 r;refine f9 I.tk (min_two_ints (I.ok.hd f) λp v k g=>⟨_,H,I.kept k g,?_,q⟩);by_cases d:j<i
 ·rw[qq d,qq d];exact⟨_,rfl⟩
 ·rw[qM d,qM d];exact⟨_,rfl⟩
def zdM:oM X (.type "int") (λxs H Q=>(∃i,xs=[.int i]/\Q (.int i) H) \/ ∃k,xs=[.bl k]/\Q (.int (if k then 1 else 0)) H):=by
 intro d s f H xs g Q I r h;rcases h with⟨i,rfl,q⟩|⟨k,rfl,q⟩
 ·obtain⟨u,rfl,t,rfl⟩:=uL r;exact call_int_int ⟨.int i,H,I,⟨_,rfl⟩,q⟩
 ·obtain⟨u,rfl,e⟩:=uL r;cases e;exact call_int_bool ⟨.int (if k then 1 else 0),H,I.tok _,⟨_,rfl⟩,q⟩
def z94:oM X (.type "str") (λxs H Q=>∃i,xs=[.int i]/\i.natAbs.log2<1920/\Q (.str (toString i)) H):=by intro d s f H xs g Q I r h;obtain⟨i,rfl,e,q⟩:=h;obtain⟨u,rfl,t,rfl⟩:=uL r;exact PySem.P.str_of_int e ⟨.str _,H,I.tok _,⟨_,rfl⟩,q⟩
def NC(K:ah)(x:V)(H:Hp)(n:Nat):Prop:=
 match x with
 |.str y=>y.length<=xc/\n=y.length
 |.byt y=>y.size<=xc/\n=y.size
 |.ref p=>(∃xs,qO K H p xs/\n=xs.length) \/ ∃xs,rG K H p xs/\n=xs.length
 |_=>False
def zgC:oM X (.builtin "len") (λxs H Q=>∃x n,xs=[x]/\NC X.K x H n/\Q (.int n) H):=by
 intro l s w H xs z Q I r h;obtain⟨x,n,rfl,e,q⟩:=h;obtain⟨u,rfl,g⟩:=uL r;have A:=Cc;have B:xc=16777216:=kP;cases x with
 | str y=>
  obtain⟨t,rfl⟩:=g;obtain⟨m,f⟩:y.length<=xc/\n=y.length:=e;subst f;exact len_str 'd' ⟨.int _,H,I.tok _,⟨_,rfl⟩,q⟩
 | byt y=>
  obtain⟨t,rfl⟩:=g;obtain⟨m,f⟩:y.size<=xc/\n=y.size:=e;subst f;exact PySem.W.len_bytes 'd' ⟨.int _,H,I.tok _,⟨_,rfl⟩,q⟩
 | ref p=>
  cases g;have f:(∃xs,qO X.K H p xs/\n=xs.length) \/ ∃xs,rG X.K H p xs/\n=xs.length:=e;rcases f with⟨xs,i,f⟩|⟨xs,i,f⟩
  ·subst f;obtain⟨o,j,k,v⟩:=I.list i;have d:=j.length;exact Calls.call_len_list k.isList (by simp only[aJ];lia) ⟨.int xs.length,H,I.tok _,⟨_,by simp only[aJ];rw[d]⟩,q⟩
  ·subst f;obtain⟨o,j,k,v⟩:=I.tuple i;have d:=j.length;exact len_tuple k (by simp only[aJ];lia) ⟨.int xs.length,H,I.tok _,⟨_,by simp only[aJ];rw[d]⟩,q⟩
 |_=>exact(show False from e).elim
end
structure zpk(h:aX)(x dx C:ae)(mA:Str->Option ab):Prop where
 obj:h.get? x=KF (nv C dx)
 ns:h.Ns1 dx mA
 ne:dx≠x
section
end
def o0.some_of(r:o0 (KF v) o):∃u,o=KF u/\RelV v u:=by
 cases o with
 |none=>exact(show False from r).elim
 |some u=>exact⟨u,rfl,r⟩
structure Np(K:ah)(C:ae):Prop where
 pg:mX K C Str.empty=qb
 hd:PySem.W.hasDictIn K C=qb
 po:PySem.W.plainOver K C=qb
 sa:fe K (.ref C) "__setattr__" = KF (KF (.builtin "object.__setattr__"))
def Np.get{K:ah}{C:ae}(c:Np K C)(f:Str):mX K C f=qb:=c.pg
structure Con(K:ah)(C:ae)(f:Str)(v:V)(u:ab):Prop where
 at_:fe K (.ref C) f=KF (KF u)
 rel:RelV v u
 get:jV K u "__get__" = KF KM
 cp:PySem.W.copiedNames.contains f=qh
structure zpl(K:ah)(C:ae)(m:Str)(f:ae):Prop where
 at_:fe K (.ref C) m=KF (KF (.ref f))
 fn:oh K (.ref f)=qb
 kp:cV K (.ref f)=qb
section
end
section
variable{H:Hp}
inductive xq(K:ah)(H:Hp):V->ab->Prop where
 |non:xq K H .non (.type "NoneType")
 |bl (x:Bool):xq K H (.bl x) (.type "bool")
 |int (i:Int):xq K H (.int i) (.type "int")
 |str (x:Str):xq K H (.str x) (.type "str")
 |flt (x:UInt64):xq K H (.flt x) (.type "float")
 |lst {a:ae} {xs:List V} (e:H a=KF (.lst xs)):xq K H (.ref a) (.type "list")
 |frz {a:ae} {o:Obj} {xs:List V} (e:H a=KF (.frz o (.lst xs))):xq K H (.ref a) (.type "list")
 |tup {a:ae} {xs:List V} (e:H a=KF (.tup xs)):xq K H (.ref a) (.type "tuple")
 |dK {a:ae} {k_:List (Key×V)} (e:H a=KF (.dK k_)):xq K H (.ref a) (.type "dict")
 |dT {a:ae} {k_:List (List Key×V)} (e:H a=KF (.dT k_)):xq K H (.ref a) (.type "dict")
 | ins {a C dx:ae} {fs:List (Str×V)} (e:H a=KF (.ins C dx fs)) (cl:Np K C) (ha:fe K (.ref C) "__class__" = KF (KF (.builtin "object.__class__")))
   (hn:jV K (.builtin "object.__class__") "__get__" = KF (KF (.builtin "getset_descriptor.__get__"))) (qR:ny K (.builtin "object.__class__")=KF qb)
   (hm:lT K C (.type "object")=KF qb):xq K H (.ref a) (.ref C)
end
structure oK(k:Nat)(A:ba):Prop where
 hd:A.handled=KM
 dp:A.depth+3*k+5<recursionLimit
 un:A.units+16*k+200<cLine
def oK.mono(r:oK k A)(h:j<=k):oK j A:=⟨r.hd,by have:=r.dp;lia,by have:=r.un;lia⟩
def oK.deeper(r:oK (k+1) A)(env:Env):oK k (A.deeper env):=
 ⟨r.hd,by have:=r.dp;show A.depth+1+3*k+5<_;lia,by have:=r.un;show A.units+3+16*k+200<_;lia⟩
def oK.in1(r:oK (k+1) A):oK k A.in1:=
 ⟨r.hd,by have:=r.dp;show A.depth+3*k+5<_;lia,by have:=r.un;show A.units+1+16*k+200<_;lia⟩
def oK.depth(r:oK k A):A.depth<recursionLimit:=by have:=r.dp;lia
def oK.units(r:oK k A):A.units+64<cLine:=by have:=r.un;lia
def NK:TA:=λ_ H Q=>Q [] H
def Oa(ta:TE)(tr:TA):TA:=λσ H Q=>ta σ H λx H1=>tr σ H1 λxs H2=>Q (x::xs) H2
section
variable{X:Cx}{e:aT}{es:List aT}{te:TE}{t:TA}{pos:Pos}
def Cd:PA X [] NK:=λ_ _ _ _ H Q I h=>mF ⟨[],H,I,.nil,h⟩
def yQ(c:PE X e te)(d:PA X es t)(f:aN (e::es) X.env=(qh,eval e X.env)::aN es X.env:=by rfl):PA X (e::es) (Oa te t):=by intro pos a s b H Q I h;rw[f];show ao _ _ (spliced ((qh,eval e X.env)::backTo pos (aN es X.env))) _ _ s;refine me (pV (c a s b H _ I h) λu g ⟨x,i,j,k,l⟩=>?_);exact pV (d pos a g b i _ j l) λr v ⟨m,n,o,p,q⟩=>⟨x::m,n,o,.cons k p,q⟩
def VC(t:TA):TE:=λσ H Q=>t σ H λxs H1=>xs.length<=xc/\∀p,H1 p=KM->Q (.ref p) (upd H1 p (.tup xs))
def Vi(t:TA):TE:=λσ H Q=>t σ H λxs H1=>xs.length<=xc/\∀p,H1 p=KM->Q (.ref p) (upd H1 p (.lst xs))
def OD(h:PA X es t):PE X (.Tuple es x1 pos) (VC t):=by intro a s g H Q I i;refine wpAny_Tuple_spliced (pV (h pos a s g H _ I i) λj c ⟨k,d,f,r,z,q⟩=>⟨by rw[<- r.length];exact z,?_⟩);have l:d c.heap.objs.size=KM:=f.hok.fresh (aC _);refine⟨.ref c.heap.objs.size,upd d c.heap.objs.size (.tup k),f.laid (t':=c.toks) (λb u e=>af _ e) (aC _) ?_,rfl,q _ l⟩;exact⟨z,j,r,oX.new _ _⟩
def OG(h:PA X es t):PE X (.List es pos) (Vi t):=by intro a s g H Q I i;refine wpAny_List_spliced (pV (h pos a s g H _ I i) λj c ⟨k,d,f,r,z,q⟩=>⟨by rw[<- r.length];exact z,?_⟩);have l:d c.heap.objs.size=KM:=f.hok.fresh (aC _);refine⟨.ref c.heap.objs.size,upd d c.heap.objs.size (.lst k),f.laid (t':=c.toks) (λb u e=>af _ e) (aC _) ?_,rfl,q _ l⟩;exact⟨z,j,0,r,aE _ rfl⟩
end
abbrev Sp:=List V->Hp->VK->XK->Prop
abbrev wI:=List Env->Hp->ag->XK->ab->ag->Prop
structure o6(P:aP)(w:aY)(K:ah)(mg:Str->Option ab)(base:aX)(A:ba)(outer:List Env)(s:ag)(H:Hp):Prop where
 frames:A.frames=KF outer
 mod:Mod K mg base
 bs:∀b o,base.get? b=KF o->s.heap.get? b=KF o/\H b=KM
 bsz:base.objs.size<=s.heap.objs.size
 funs:s.heap.FunFrames base outer
 frf:∀b∈uT outer,H b=KM
 hok:HOk P w H s.heap
 bare:il s.gens
 tk:0<s.toks
def CE(outer:List Env)(P:aP)(w:aY)(H:Hp)(s:ag)(Q:VK)(u:ab)(s':ag):Prop:=
 (∃v H',s'.os=s.os/\il s'.gens/\Un (uT outer) [] H H' s.heap s'.heap/\HOk P w H' s'.heap/\RelV v u/\Q v H')/\0<s'.toks
def CR(CX:wI)(outer:List Env)(P:aP)(w:aY)(H:Hp)(s:ag)(Q:VK)(E:XK)(r:Result)(s':ag):Prop:=
 match r with
 |.ok (.ret u)=>CE outer P w H s Q u s'
 |.ok _=>False
 |.error e=>CX outer H s E e s'
structure oR(P:aP)(w:aY)(K:ah)(mg:Str->Option ab)(base:aX)(CX:wI)(k:Nat)(f:ae)(fd:eB)(ps:List Str)(sp:Sp):Prop where
 len:∀vs H Q E,sp vs H Q E->vs.length=ps.length
 run:∀(A:ba)(outer:List Env)(s:ag)(H:Hp)(args:Args)(us:List ab)(vs:List V)(Q:VK)(E:XK),oK k A->o6 P w K mg base A outer s H->k9 s fd args (ps.zip us)->oE vs us->sp vs H Q E->
  codeAny (ay P w) A (.call (.ref f) args) (CR CX outer P w H s Q E) s
def oR.mono{P:aP}{w:aY}{K:ah}{mg:Str->Option ab}{base:aX}{c:wI}{j k:Nat}{f:ae}{d:eB}{e:List Str}{g:Sp}(F:oR P w K mg base c j f d e g)(h:j<=k):
  oR P w K mg base c k f d e g:=⟨F.len,λA a s H b i l Q E m=>F.run A a s H b i l Q E (m.mono h)⟩
def oR.imp{P:aP}{w:aY}{K:ah}{mg:Str->Option ab}{base:aX}{c:wI}{k:Nat}{f:ae}{d:eB}{e:List Str}{g i:Sp}(F:oR P w K mg base c k f d e g)
  (h:∀vs H Q E,i vs H Q E->g vs H Q E):oR P w K mg base c k f d e i:=
 ⟨λvs H Q E q=>F.len vs H Q E (h _ _ _ _ q),λA a s H b j vs Q E l m n o p=>F.run A a s H b j vs Q E l m n o (h _ _ _ _ p)⟩
def o6.in1{P:aP}{w:aY}{K:ah}{mg:Str->Option ab}{base:aX}{A:ba}{a:List Env}{s:ag}{H:Hp}(e:o6 P w K mg base A a s H):
  o6 P w K mg base A.in1 a s H:=⟨e.frames,e.mod,e.bs,e.bsz,e.funs,e.frf,e.hok,e.bare,e.tk⟩
section
variable{X:Cx}{Y1:List (ae×Obj)}{σ:St}{H:Hp}{s s':ag}
def Inv.env0(I:Inv X Y1 σ H s):o6 X.prog X.w X.K X.mg X.base X.A X.stack s H:=
 ⟨I.ok.frames,I.ok.mod,I.bs,aI I.ok.bsz I.sz,I.stack,I.stkFree,I.hok,I.bare,I.tk⟩
def Inv.after(I:Inv X Y1 σ H s)(h:CE X.stack X.prog X.w H s Q u s'):EP X Y1 σ Q u s':=by obtain⟨⟨v,e,f,a,i,c,r,q⟩,j⟩:=h;obtain⟨k,g,d,t,l⟩:=s';obtain rfl:l=s.os:=f;exact⟨v,e,I.call (h':=k) (g':=g) (d':=d) (t':=t) (ch:=[]) i c a (λb z=>absurd z 'k') j,r,q⟩
end
def V7(sp:Sp)(dvs:List V)(E:XK)(t:TA):TE:=λσ H Q=>t σ H λvs H1=>sp (vs++dvs) H1 Q E
def Binds(K:ah)(fd:eB)(ps:List Str)(ds:List ab):Prop:=
 ∀(s:ag)(us:List ab),K.In s.heap->(us++ds).length=ps.length->k9 s fd ⟨us,[]⟩ (ps.zip (us++ds))
def Binds.all{K:ah}{c:eB}{b:List Str}(h:∀a:List ab,a.length=b.length->bindArgs c ⟨a,[]⟩=pure (b.zip a)):Binds K c b []:=λs a _ d=>by
 rw[bz] at d ⊢;exact .of_eq (h a d)
def GQ(CX:wI)(X:Cx)(E:XK):Prop:=∀(Y1:List (ae×Obj))(σ:St)(H:Hp)(s:ag)(e:ab)(s':ag),Inv X Y1 σ H s->CX X.stack H s E e s'->X.xe e s'
section
variable{X:Cx}{CX:wI}{k:Nat}{f C:ae}{fd:eB}{ps:List Str}{sp:Sp}{dvs:List V}{ds:List ab}{E:XK}{x:Str}{p pos:Pos}{e:aT}{es:List aT}{t:TA}
def Xr(F:oR X.prog X.w X.K X.mg X.base CX k f fd ps sp)(c:oK k X.A)(d:Binds X.K fd ps ds)(g:oE dvs ds)(i:GQ CX X E)
  (I:Inv X Y1 σ H s) (r:oE vs us) (h:sp (vs++dvs) H Q E):ao (ay X.prog X.w) X.A (call (.ref f) us) (EP X Y1 σ Q) X.xe s:=by
 have b:oE (vs++dvs) (us++ds):=r.append g;have j:(us++ds).length=ps.length:=by rw[<- b.length];exact F.len _ _ _ _ h
 refine j0 (fv (F.run X.A X.stack s H ⟨us,[]⟩ (us++ds) (vs++dvs) Q E c I.env0 (d s us I.kIn j) b h) λr l a=>?_);cases r with
 |error e=>exact i Y1 σ H s e l I a
 | ok fl=>
  cases fl with
  |ret u=>exact I.after a
  |next=>exact ak a
  |brk=>exact ak a
  |cont=>exact ak a
def Ql(F:oR X.prog X.w X.K X.mg X.base CX k f fd ps sp)(c:oK k X.A)(d:Gl X x)(g:X.mg x=KF (.ref f))(i:cV X.K (.ref f)=qb)(j:Binds X.K fd ps ds)(l:oE dvs ds)(m:GQ CX X E)
  (n:PA X (e::es) t) (o:(x==("__debug__":Str))=qh:=by decide) (u:aN (e::es) X.env=(qh,eval e X.env)::aN es X.env:=by rfl) (v:(backTo pos (aN es X.env)).any (·.1)=qh:=by rfl):
  PE X (.Call (.Name x p) (e::es) [] pos) (V7 sp dvs E t):=by intro a s y H Q I h;refine hJ (QJ I d g ?_ o);refine PySem.W.callWith_K (h₀:=X.base) I.ok.mod.kin i (pV (n pos a s y H _ I h) λz B ⟨D,G,b,r,q⟩=>⟨b.kIn,?_⟩) u v;exact Xr F c j l m b r q
structure Mk(K:ah)(C f:ae):Prop where
 makes:PySem.W.makesIn K C=qb
 init:fe K (.ref C) "__init__" = KF (KF (.ref f))
 fn:oh K (.ref f)=qb
 kp:cV K (.ref C)=qb
end
section
variable{fd:eB}{ps ks:List Str}
structure zoJ(K:ah)(fd:eB)(ps ks:List Str)(g:List ab->List ab->List ab)(gV:List V->List V->List V):Prop where
 to:∀(s:ag)(us ws:List ab),K.In s.heap->(g us ws).length=ps.length->k9 s fd ⟨us,ks.zip ws⟩ (ps.zip (g us ws))
 rel:∀{vs:List V}{us:List ab}{zs:List V}{ws:List ab},oE vs us->oE zs ws->oE (gV vs zs) (g us ws)
end
structure qt(N P:List Str)(sc:cT):Prop where
 kind:sc.kind=.function
 co:sc.isCoroutine=qh
 gen:sc.isGenerator=qh
 nd:N.Nodup
 pre:N.take P.length=P
 par:∀x∈P,sc.names.lookup x=KF .local\/sc.names.lookup x=KF .cell
 nofree:∀y∈sc.names,y.2 ≠ .free
theorem RL{a:Str->Option dq}{x:Str}:∀{binds:List (Str×ab)}{m:Str->Option ab},(∀v,(x,v)∉binds)->bindL a binds m x=m x
 |[],_,_=>rfl
 | (n,v)::r,m,h=>by
  unfold bindL;rw[RL λw b=>h w (aj _ b)];split
  ·have:x≠n:=by rintro rfl;exact h v ar
   simp[this]
  ·rfl
theorem R8{a:Str->Option dq}{x:Str}:∀{binds:List (Str×ab)}{m:Str->Option ab},(∀v,(x,v)∉binds)->bindC a binds m x=m x
 |[],_,_=>rfl
 | (n,v)::r,m,h=>by
  unfold bindC;rw[R8 λw b=>h w (aj _ b)];split
  ·rfl
  ·have:x≠n:=by rintro rfl;exact h v ar
   simp[this]
theorem RU{a:Str->Option dq}{x:Str}{v:ab}:∀{P:List Str}{vs:List ab}{i:Nat}{m:Str->Option ab},P.Nodup->P[i]?=KF x->vs[i]?=KF v->a x=KF .local->
  bindL a (P.zip vs) m x=KF v
 |[],_,_,_,_,h,_,_=>by simp at h
 |_::_,[],_,_,_,_,h,_=>by simp at h
 | p::P,w::vs,0,m,nd,h1,h2,hk=>by
  simp at h1 h2;subst h1;subst h2;show bindL a ((p,w)::P.zip vs) m p=_;unfold bindL;rw[RL λv b=>(bu.mp nd).1 (kI b).1,qq hk];simp
 | p::P,w::vs,i+1,m,nd,h1,h2,hk=>by
  show bindL a ((p,w)::P.zip vs) m x=_;unfold bindL;exact RU (i:=i) (bu.mp nd).2 (by simpa using h1) (by simpa using h2) hk
theorem Sf{a:Str->Option dq}{x:Str}{v:ab}:∀{P:List Str}{vs:List ab}{i:Nat}{m:Str->Option ab},P.Nodup->P[i]?=KF x->vs[i]?=KF v->a x≠KF .local->
  bindC a (P.zip vs) m x=KF v
 |[],_,_,_,_,h,_,_=>by simp at h
 |_::_,[],_,_,_,_,h,_=>by simp at h
 | p::P,w::vs,0,m,nd,h1,h2,hk=>by
  simp at h1 h2;subst h1;subst h2;show bindC a ((p,w)::P.zip vs) m p=_;unfold bindC;rw[R8 λv b=>(bu.mp nd).1 (kI b).1,qM hk];simp
 | p::P,w::vs,i+1,m,nd,h1,h2,hk=>by
  show bindC a ((p,w)::P.zip vs) m x=_;unfold bindC;exact Sf (i:=i) (bu.mp nd).2 (by simpa using h1) (by simpa using h2) hk
def start(N:List Str)(vs:List V):St:=vs.map KF++aS (N.length-vs.length) KM
noncomputable def Av(CX:wI)(P:aP)(w:aY)(K:ah)(mg:Str->Option ab)(base:aX)(N:List Str)(qual:Str)(scope:cT)(f:ae)(cd:ab)(A:ba)(outer:List Env)(s:ag)(H:Hp)(E:XK):Cx where
 prog:=P
 w:=w
 K:=K
 mg:=mg
 base:=base
 A:=A.deeper (envOfC qual scope s.heap.objs.size f cd)
 N:=N
 s₀:=s
 H₀:=H
 env:=envOfC qual scope s.heap.objs.size f cd
 outer:=outer
 stack:=envOfC qual scope s.heap.objs.size f cd::outer
 ex:=[]
 calm:=qb
 fn:=λ_=>qb
 pn:=[]
 xe:=λe s'=>ao (ay P w) (A.deeper (envOfC qual scope s.heap.objs.size f cd)) (leaving (envOfC qual scope s.heap.objs.size f cd) e) (λ_ ym=>CX outer H s E e ym) (λe' ym=>CX outer H s E e' ym) s'
def RA{a:cT}{n:Nat}{x:Str}(h:a.names.lookup x=KF .cell):∃c,(cA n a.names []).lookup x=KF c:=by have q:=iB a.names n [] (.inl h);exact hU.mp q
def zdB{I:wI}{P:aP}{w:aY}{K:ah}{mg:Str->Option ab}{base:aX}{N m:List Str}{g:Str}{scope:cT}{f:ae}{t:ab}{A:ba}{d:List Env}{s D:ag}{H:Hp}{E:XK}{F:List ab}{vs:List V}
  (S:qt N m scope) (O:A.handled=KM) (l:o6 P w K mg base A d s H) (U:vs.length=m.length) (r:oE vs F)
  (x:InCallC s s.heap.objs.size (bindL (envOfC g scope s.heap.objs.size f t).kindOf (m.zip F) λ_=>KM) (cA (s.heap.objs.size+1) scope.names []) (bindC (envOfC g scope s.heap.objs.size f t).kindOf (m.zip F) λ_=>KM) D) (Q:0<D.toks):
  Inv (Av I P w K mg base N g scope f t A d s H E) [] (start N vs) H D:=by
 have W:m.length<=N.length:=by have:=congrArg kQ S.pre;rw[bT] at this;lia
 obtain⟨B,X,rfl,J⟩:=x.done;have G:∀b:ae,b∉(Av I P w K mg base N g scope f t A d s H E).ex:=λb z=>absurd (show b∈([]:List ae) from z) 'k';refine⟨⟨l.mod,S.kind,rfl,rfl,aC _,λy z c B j=>?_,λy hy=>?_,λy c _ h=>?_,λ_=>O,lJ l.frames,.inr ⟨rfl,rfl⟩,λb z=>absurd z (G b),l.bs,l.bsz,λb _ _=>G b,λb z=>absurd z (G b),l.funs,l.frf⟩,
  rfl,l.bare,Un.kept J,⟨_,x.toInCall.ns,λi y v B j Y=>?_⟩,λy c h=>⟨_,x.cell y c h⟩,l.hok.fresh (aC _),λy c h=>?_,λp o=>absurd (show p∈([]:List (ae×Obj)) from o) 'k',l.hok.kept J,?_,Q⟩
 ·exact name_of_addr x.apart (bK B) (bK j)
 ·have hy:scope.names.lookup y=KF .cell\/scope.names.lookup y=KF .free:=hy;rcases hy with hy|hy
  ·exact RA hy
  ·exact absurd rfl (S.nofree _ (bK hy))
 ·exact gu (x.above y c (bK h))
 ·have C:i<vs.length:=by
   unfold start at j;by_cases C:i<vs.length
   ·exact C
   ·rw[aU (by simpa using C)] at j;rw[f6] at j;split at j<;>cases j
  have R:vs[i]?=KF v:=by
   unfold start at j;rw[aH (by simpa using C),be] at j;cases e:vs[i]? with
   |none=>rw[e] at j;cases j
   |some a=>rw[e] at j;cases j;rfl
  obtain⟨u,L,T⟩:=r.get R;have o:m[i]?=KF y:=by
   rw[<- S.pre,fV 'd'];exact B
  have M:m.Nodup:=by rw[<- S.pre];exact S.nd.sublist (cS _ _)
  refine⟨u,T,?_⟩;rcases S.par y (aD o) with k|k
  ·exact .inl ⟨k,RU M o L k⟩
  ·obtain⟨c,e⟩:=RA (n:=s.heap.objs.size+1) k;refine .inr ⟨.inl k,c,e,?_⟩;have q:=x.cell y c e;rw[Sf M o L (by show scope.names.lookup y≠_;rw[k];decide)] at q;exact q
 ·exact l.hok.fresh (gu (x.above y c (bK h)))
 ·unfold start;show _=N.length;rw[aw,au,lc];lia
def qw{z:wI}{P:aP}{w:aY}{K:ah}{mg:Str->Option ab}{base:aX}{k:Nat}{f:ae}{name c:Str}{d:iU}{body:List eI}{scope:cT}{M O l R h T oc:ab}{U od:Option ae}
  {uQ:Array (Option ab)} {N B:List Str} {C:Sp} (lk:K.lookup f=KF ⟨oc,od,.func (cB name c d body scope M O l R U h T),uQ⟩) (q_:fg K h c=qb) (S:qt N B scope)
  (m:∀vs H Q E,C vs H Q E->vs.length=B.length)
  (qE:∀(A:ba)(a:List Env)(s:ag)(H:Hp)(vs:List V)(Q:VK)(E:XK),oK k (A.deeper (envOfC c scope s.heap.objs.size f h))->C vs H Q E->
   ∃t,tF (Av z P w K mg base N c scope f h A a s H E) body t/\t { nx:=λ_ H'=>Q .non H',rt:=Q } (start N vs) H):
  oR P w K mg base z (k+1) f (cB name c d body scope M O l R U h T) B C:=by
 refine⟨m,λA a s H X us vs Q E D i hb r Y=>?_⟩;have hl:=m _ _ _ _ Y;have Z:K.In s.heap:=i.mod.kin.keeps λb o e=>(i.bs b o e).1;have F:s.heap.NoLimit:=i.mod.nolimit.keeps λb o e=>(i.bs b o e).1;have Fy:∀y∈B.zip us,scope.names.lookup y.1=KF .local\/(scope.names.lookup y.1=KF .cell/\((cA (s.heap.objs.size+1) scope.names []).lookup y.1).isSome=qb):=λ⟨n,v⟩ hy=>by
  rcases S.par n (kI hy).1 with q|q
  ·exact .inl q
  ·exact .inr ⟨q,iB _ _ _ (.inl q)⟩
 refine codeAny_call_function D.depth (Z _ _ lk) rfl S.co S.gen rfl (PySem.W.codeRec_of Z q_) (hb _ _ _ _ ?_);refine f9 i.tk (wpAny_newFunctionEnv_cells S.kind Fy λenv he s1 x qR=>?_);subst he;refine⟨F.keeps x.toInCall.keep,codeAny_func ?_⟩;obtain⟨t,ht,hq⟩:=qE A a s H vs Q E (D.deeper _) Y;have I:Inv (Av z P w K mg base N c scope f h A a s H E) [] (start N vs) H s1:=zdB S D.hd i hl r x qR;refine cy (ht [] s1 (start N vs) H _ I hq) (λfl G j=>?_) λe G j=>j;have p:∀{g:St}{H':Hp}{v:V}{u:ab},Inv (Av z P w K mg base N c scope f h A a s H E) [] g H' G->RelV v u->Q v H'->CE a P w H s Q u G:=
  λ{g H' v u}J L q=>⟨⟨v,H',J.os,J.bare,J.base,J.hok,L,q⟩,J.tk⟩
 cases fl with
 | ret u=>
  obtain⟨v,g,H',J,L,q⟩:=j;exact p J L q
 | next=>
  obtain⟨g,H',J,q⟩:=j;exact p (v:=V.non) (u:=gJ) J rfl q
 | brk=>
  obtain⟨_,_,_,q⟩:=j;exact ak q
 | cont=>
  obtain⟨_,_,_,q⟩:=j;exact ak q
section
variable{X:Cx}{x:Str}{p pos:Pos}{e:aT}{es:List aT}{t:TA}{id T:String}{r:List V->Hp->VK->Prop}
def HU(r:List V->Hp->VK->Prop)(t:TA):TE:=λσ H Q=>t σ H λvs H1=>r vs H1 Q
def He(c:oM X (.builtin id) r)(d:Gl X x)(f:X.mg x=KM)(g:br x=KF (.builtin id))(i:PA X (e::es) t)(j:x ≠ "__name__":=by decide)(k:(x==("__debug__":Str))=qh:=by decide)
  (l:aN (e::es) X.env=(qh,eval e X.env)::aN es X.env:=by rfl) (m:(backTo pos (aN es X.env)).any (·.1)=qh:=by rfl):PE X (.Call (.Name x p) (e::es) [] pos) (HU r t):=by intro a s b H Q I h;refine hJ (zV I d f g ?_ j k);exact PyProof.Rows.callWith_builtin1 (pV (i pos a s b H _ I h) λn o ⟨q,u,v,w,y⟩=>c a o b u q n Q v w y) l m
def KE(c:oM X (.type T) r)(d:Gl X x)(f:X.mg x=KM)(g:br x=KF (.type T))(i:PA X (e::es) t)(j:x ≠ "__name__":=by decide)(k:(x==("__debug__":Str))=qh:=by decide)
  (l:aN (e::es) X.env=(qh,eval e X.env)::aN es X.env:=by rfl) (m:(backTo pos (aN es X.env)).any (·.1)=qh:=by rfl):PE X (.Call (.Name x p) (e::es) [] pos) (HU r t):=by intro a s b H Q I h;refine hJ (zV I d f g ?_ j k);exact d9 (pV (i pos a s b H _ I h) λn o ⟨q,u,v,w,y⟩=>c a o b u q n Q v w y) l m
end
end L2
namespace HT
open PySem PyProof.Rows
section
open PySem.SeqAt
open PySem.AutoSeq1 (wpAny_loadPart')
open PySem.MeetsSeq PySem.MeetsSeq2 PySem.MeetsSeq3
end
section
variable{prog:aP}{w:aY}{A:ba}{E:ab->ag->Prop}{s:ag}
def cat_tup(u:IsTup s.heap t vs.toArray)(v:IsTup s.heap b ws.toArray)(h:vs≠[])
  (x:ws=[]->Q (.ref t) s) (y:ws≠[]->Q (.ref s.heap.objs.size) { s with heap:=s.heap.push { cls:=.type "tuple",data:=.seq (vs++ws).toArray } })
  (hsz:vs.length+ws.length<=xc):ao (ay prog w) A (dO .Add (.ref t) (.ref b)) Q E s:=by
 obtain⟨⟨cls,i,data,j⟩,c,k,n,l⟩:=id u;obtain⟨⟨m,o,g,p⟩,d,q,r,a⟩:=id v;simp only at k l q a;subst k l q a;have e:vs.toArray++ws.toArray=(vs++ws).toArray:=by simp
 by_cases f:ws=[]
 ·exact jw ⟨_,c,rfl⟩ ⟨_,d,rfl⟩ j9 lU iC iq (hV _ _)
   (tuple_addW1 t b vs.toArray ws.toArray n r i o j p (by simpa using h) (by simp[f])) ⟨c,d,x f⟩
 ·refine jw ⟨_,c,rfl⟩ ⟨_,d,rfl⟩ j9 lU iC iq (hV _ _)
   (tuple_addW2 t b vs.toArray ws.toArray n r i o j p (by simpa using h) (by simpa using f) (by rw[aJ,aJ];exact hsz)) ⟨c,d,?_⟩
  rw[e];exact y f
def sIx(n d:Nat):Option Int->Nat
 |none=>d
 |some v=>if v<0 then (v+(n:Int)).toNat else min v.toNat n
def XJ(n d:Nat)(b:d<=n)(o:Option Int):sIx n d o<=n:=by
 cases o with
 |none=>exact b
 | some v=>
  show(if v<0 then (v+(n:Int)).toNat else min v.toNat n)<=n;by_cases a:v<0
  ·rw[qq a];lia
  ·rw[qM a];exact mY _ _
def Qg(v:Int)(n d:Nat):(if v<0 then max (v+(n:Int)) 0 else min v (n:Int))=((sIx n d (KF v):Nat):Int):=by
 show(if v<0 then max (v+(n:Int)) 0 else min v (n:Int))=(((if v<0 then (v+(n:Int)).toNat else min v.toNat n):Nat):Int);by_cases a:v<0
 ·simp only[qq a];lia
 ·simp only[qM a];lia
def zbH(lo a:Option Int)(n:Nat):gX lo a 1 (n:Int)=(((sIx n 0 lo:Nat):Int),((sIx n n a:Nat):Int)):=by
 have b:¬ ((1:Int)<0):=by lia
 unfold gX;simp only[b,if_false];refine lH ?_ ?_
 ·cases lo with
  |none=>rfl
  |some v=>exact Qg v n 0
 ·cases a with
  |none=>rfl
  |some v=>exact Qg v n n
def zbJ(i j:Nat):fQ (i:Int) (j:Int) 1=j-i:=by
 unfold fQ;have a:(1:Int)>0:=by lia
 simp only[a,if_true,Int.ediv_one];split<;>lia
def SA(p:i0 v o)(h:Q o s):ao (ay prog w) A (Builtin.Slice.slicePartIndex v) Q E s:=by
 cases p with
 |none=>exact slicePart_none h
 |int i t=>exact slicePart_int h
def z4Q{sl:ae}{b c:ab}{lo a:Option Int}{n:Nat}{Q:Int×Int×Nat->ag->Prop}(f:s.heap.IsSliceOf sl b c .none)(pl:i0 b lo)(g:i0 c a)
  (h:Q (((sIx n 0 lo:Nat):Int),1,sIx n n a-sIx n 0 lo) s):ao (ay prog w) A (jL (.ref sl) (pure (n:Int))) Q E s:=by obtain⟨i,d,j,e⟩:=id f;unfold jL Builtin.Slice.sliceFields;refine aa (aa (cb d e (x:=b) rfl (aa (cb d e (x:=c) rfl (aa (cb d e (x:=.none) rfl (ai ?_)))))));refine aa (slicePart_none ?_);show ao _ _ (if ((1:Int)==0)=qb then _ else _) _ _ s;rw[qM 'u'];refine aa (SA pl (aa (SA g (aa (ai ?_)))));show ao _ _ (match gX lo a 1 (n:Int) with|(lo,a)=>pure (lo,(1:Int),fQ lo a 1)) _ _ s;rw[zbH lo a n];show ao _ _ (pure (((sIx n 0 lo:Nat):Int),(1:Int),fQ ((sIx n 0 lo:Nat):Int) ((sIx n n a:Nat):Int) 1)) _ _ s;rw[zbJ];exact ai h
def zgT(xs:Array ab)(i k:Nat):((aO k).filterMap λ(m:Nat)=>xs[((i:Int)+(m:Int)*1).toNat]?).toArray=((xs.toList.drop i).take k).toArray:=by
 have e:(λ(m:Nat)=>xs[((i:Int)+(m:Int)*1).toNat]?)=λm=>xs[i+m]?:=by
  funext m;have:((i:Int)+(m:Int)*1).toNat=i+m:=by lia
  rw[this]
 rw[e];have:=pick_run xs i k;rw[List.filterMap_map] at this;have a:((λx=>xs[x]?)∘λx=>i+x)=λm=>xs[i+m]?:=rfl;rw[a] at this;rw[this]
def getItem_tuple_cut{t sl:ae}{a:Array ab}{f g:ab}{lo b:Option Int}{Q:ab->ag->Prop}(c:IsTup s.heap t a)(i:s.heap.IsSliceOf sl f g .none)(pl:i0 f lo)(j:i0 g b)
  (k:¬ (sIx a.size 0 lo=0/\sIx a.size a.size b=a.size))
  (h:Q (.ref s.heap.objs.size) { s with heap:=s.heap.push { cls:=.type "tuple",data:=.seq ((a.toList.drop (sIx a.size 0 lo)).take (sIx a.size a.size b-sIx a.size 0 lo)).toArray } })
  (hsz:a.size<=xc):ao (ay prog w) A (getItem (.ref t) (.ref sl)) Q E s:=by
 have d:sizeOk (.seq ((a.toList.drop (sIx a.size 0 lo)).take (sIx a.size a.size b-sIx a.size 0 lo)).toArray):=by
  show((a.toList.drop (sIx a.size 0 lo)).take (sIx a.size a.size b-sIx a.size 0 lo)).toArray.size<=xc;rw[aJ,bT,cu,aB];lia
 have r:sIx a.size a.size b<=a.size:=XJ _ _ (aC _) b;obtain⟨l,n,o,u⟩:=id i;have e:s.TypeIs (.ref sl) "slice":=⟨l,n,o⟩;unfold getItem
 try with_reducible refine bH ?_
 first|refine aa (ai ?_)|skip
 refine aa (wpAny_sequenceKey c.typeIs 'u' ?_);refine aa (cU (name:=f8 "__getitem__") c.typeIs fj
  (cw fj c.typeIs entry_tuple_getitem ?_ (args_tuple_getitem _ _)))
 show ao _ _ (Builtin.Tuple.tupleItemsOf (.ref t) >>= _) _ _ s;refine aa (tupleItemsOf_ c ?_);refine aa (mh e ?_);rw[qq 'u'];refine aa (z4Q i pl j ?_);have p:¬ ((((sIx a.size 0 lo:Nat):Int)==0&&(1:Int)==1&&(sIx a.size a.size b-sIx a.size 0 lo)==a.size)=qb):=by
  intro q;rw[aR,aR] at q;have v:((sIx a.size 0 lo:Nat):Int)=0:=eq_of_beq q.1.1;have x:sIx a.size a.size b-sIx a.size 0 lo=a.size:=eq_of_beq q.2;exact k ⟨by lia,by lia⟩
 show ao _ _ (if (((sIx a.size 0 lo:Nat):Int)==0&&(1:Int)==1&&(sIx a.size a.size b-sIx a.size 0 lo)==a.size)=qb then _ else _) _ _ s;rw[qM p,zgT]
 first
  |exact aa (m:=fW _) (cH (ai ⟨_,rfl,ai h⟩) d)
  |exact aa (m:=fW _) (cH (aa (ai (ai ⟨_,rfl,ai h⟩))) d)
  |exact aa (aa (m:=fW _) (cH (ai (ai ⟨_,rfl,ai h⟩)) d))
  |exact aa (aa (m:=fW _) (cH (ai ⟨_,rfl,ai h⟩) d))
end
end HT
namespace L2
open PySem PySem.Spec PyProof.Rows
abbrev TO:=St->Hp->(Option Int->Hp->Prop)->Prop
def PO(X:Cx)(e:Option aT)(t:TO):Prop:=
 ∀(Y1:List (ae×Obj))(s:ag)(σ:St)(H:Hp)(Q:Option Int->Hp->Prop),Inv X Y1 σ H s->t σ H Q->
  ao (ay X.prog X.w) X.A (evalPart e X.env) (λu s'=>∃o H',Inv X Y1 σ H' s'/\i0 u o/\Q o H') X.xe s
def Zq:TO:=λ_ H Q=>Q KM H
def Wb(t:TE):TO:=λσ H Q=>t σ H λx H1=>∃i,x=.int i/\Q (KF i) H1
def SI:∀{a:List ab},oE (ns.map V.int) a->lf a ns:=by
 induction ns with
 |nil=>intro a r;rw[gz] at r;cases r;exact .nil
 | cons n ns ih=>
  intro a r;rw[bq] at r;cases r with
  | cons r1 r2=>
   obtain⟨t,e⟩:=r1;subst e;exact .cons n t (ih r2)
section
variable{X:Cx}{e:aT}{te:TE}{lo hi:Option aT}{tl th:TO}{pos p2:Pos}
def Ys:PO X KM Zq:=by intro a s b H Q I h;rw[evalPart_none];exact ai ⟨KM,H,I,.none,h⟩
def Yu(h:PE X e te):PO X (KF e) (Wb te):=by intro a s b H Q I c;rw[evalPart_some];refine pV (h a s b H _ I c) λu k ⟨x,d,f,g,j⟩=>?_;obtain⟨i,rfl,q⟩:=j;obtain⟨t,rfl⟩:=g;exact⟨KF i,d,f,.int i t,q⟩
def yu(X:Cx)(r:V->Option Int->Option Int->Hp->VK->Prop):Prop:=
 ∀(Y1:List (ae×Obj))(s:ag)(σ:St)(H:Hp)(x:V)(v vl vu:ab)(lo hi:Option Int)(sl:ae)(Q:VK),Inv X Y1 σ H s->RelV x v->s.heap.IsSliceOf sl vl vu .none->i0 vl lo->i0 vu hi->r x lo hi H Q->
  ∃T id,typeLookup (.type T) "__getitem__" = pure (KF (.builtin id))/\s.TypeIs v T/\ao (ay X.prog X.w) X.A (getItem v (.ref sl)) (EP X Y1 σ Q) X.xe s
def yu.or(h:yu X r)(h':yu X r'):yu X (λx lo hi H Q=>r x lo hi H Q\/r' x lo hi H Q):=by
 intro a s b H x v c d lo hi f Q I g i j k q;rcases q with q|q
 ·exact h a s b H x v c d lo hi f Q I g i j k q
 ·exact h' a s b H x v c d lo hi f Q I g i j k q
noncomputable def tSl(r:V->Option Int->Option Int->Hp->VK->Prop)(te:TE)(tl th:TO):TE:=λσ H Q=>te σ H λx H1=>tl σ H1 λl H2=>th σ H2 λu H3=>r x l u H3 Q
def zgL(j:yu X r)(k:PE X e te)(m:PO X lo tl)(n:PO X hi th):PE X (.Subscript e (.Slice lo hi KM p2) pos) (tSl r te tl th):=by intro a s d H Q I h;refine Subscript_ (pV (k a s d H _ I h) λv o ⟨x,p,t,y,z⟩=>?_);refine wpAny_Slice (pV (m a o d p _ t z) λf B ⟨l,C,D,E,F⟩=>pV (n a B d C _ D F) λg c ⟨u,i,G,J,K⟩=>?_);rw[evalPart_none];refine ai ?_;have L:Inv X a d i { c with heap:=c.heap.push { cls:=.type "slice",data:=.fields #[f,g,.none] } }:=G.kept (t':=c.toks) λb P q=>af _ q;obtain⟨T,R,M,N,O⟩:=j a { c with heap:=c.heap.push { cls:=.type "slice",data:=.fields #[f,g,.none] } } d i x v f g l u c.heap.objs.size Q L y (oA ..) E J K;show ao (ay X.prog X.w) X.A (subscriptTail e (.Slice lo hi KM p2) v (.ref c.heap.objs.size)) (EP X a d Q) X.xe { c with heap:=c.heap.push { cls:=.type "slice",data:=.fields #[f,g,.none] } };exact tail_any (ops:=[.ref c.heap.objs.size,v]) N M O (by with_unfolding_all rfl)
def zM(xs:List V)(lo hi:Option Int):List V:=(xs.drop (HT.sIx xs.length 0 lo)).take (HT.sIx xs.length xs.length hi-HT.sIx xs.length 0 lo)
def Sk(xs:List V)(lo hi:Option Int):(zM xs lo hi).length<=xs.length:=by unfold zM;rw[bT,cu];lia
def Nu(K:ah):V->Option Int->Option Int->Hp->VK->Prop:=λx lo hi H Q=>∃a xs,x=.ref a/\rG K H a xs/\
 ¬ (HT.sIx xs.length 0 lo=0/\HT.sIx xs.length xs.length hi=xs.length)/\∀p,H p=KM->Q (.ref p) (upd H p (.tup (zM xs lo hi)))
def Xd:yu X (Nu X.K):=by
 intro f s u H x v w y lo hi z Q I j k l m h;obtain⟨a,d,rfl,n,p,q⟩:=h;cases j;obtain⟨t,r,g,i⟩:=I.tuple n;have c:t.toArray.size=d.length:=by rw[aJ];exact r.length.symm
 refine⟨"tuple",_,fj.lookup,g.typeIs,?_⟩;refine HT.getItem_tuple_cut g k l m (by rw[c];exact p) ?_ (by rw[c];exact i);rw[c];refine⟨.ref s.heap.objs.size,_,I.laid (t':=s.toks) (o:=.tup (zM d lo hi)) (λb A q=>af _ q) (aC _) ?_,rfl,q _ (I.hok.fresh (aC _))⟩;exact⟨aI (Sk d lo hi) i,_,(r.drop (HT.sIx d.length 0 lo)).take (HT.sIx d.length d.length hi-HT.sIx d.length 0 lo),oX.new _ _⟩
def Of(K:ah):R2:=λx y H Q=>∃a b xs ys,x=.ref a/\y=.ref b/\rG K H a xs/\rG K H b ys/\xs≠[]/\xs.length+ys.length<=xc/\
 (ys=[]->Q (.ref a) H)/\(ys≠[]->∀p,H p=KM->Q (.ref p) (upd H p (.tup (xs++ys))))
def oE.nil_iff(r:oE xs us):us=[]↔xs=[]:=by
 cases r with
 |nil=>simp
 |cons _ _=>simp
def Zw:qI X (dO .Add) (Of X.K):=by intro f s B H x y v u Q I i j h;obtain⟨a,b,k,l,rfl,rfl,m,n,p,g,r,t⟩:=h;cases i;cases j;obtain⟨C,d,A,_⟩:=I.tuple m;obtain⟨D,c,p2,_⟩:=I.tuple n;refine HT.cat_tup A p2 (λz=>p (d.nil_iff.mp z)) (λz=>⟨.ref a,H,I,rfl,r (c.nil_iff.mp z)⟩) (λz=>?_) (by rw[<- d.length,<- c.length];exact g);refine⟨.ref s.heap.objs.size,_,I.laid (t':=s.toks) (o:=.tup (k++l)) (λb E q=>af _ q) (aC _) ?_,rfl,t (λw=>z (c.nil_iff.mpr w)) _ (I.hok.fresh (aC _))⟩;exact⟨by rw[aw];exact g,_,d.append c,oX.new _ _⟩
end
noncomputable def ixN(n:Nat)(i:Int):Option Nat:=if 0<=i then (if i<n then KF i.toNat else KM) else if -(n:Int)<=i then KF (i+n).toNat else KM
def atI{α:Type}(xs:List α)(i:Int):Option α:=(ixN xs.length i).bind λj=>xs[j]?
def Qu(h:ixN n i=KF j):seqIndex? i n=KF j/\j<n/\-(n:Int)<=i/\i<n:=by
 unfold ixN at h;by_cases b:0<=i
 ·rw[qq b] at h;by_cases a:i<n
  ·rw[qq a] at h;have e:i.toNat=j:=cq h;exact⟨by rw[mU b a,e],by lia,by lia,a⟩
  ·rw[qM a] at h;cases h
 ·rw[qM b] at h;by_cases a:-(n:Int)<=i
  ·rw[qq a] at h;have e:(i+n).toNat=j:=cq h;exact⟨by rw[seqIndex_neg 'd' a,e],by lia,a,by lia⟩
  ·rw[qM a] at h;cases h
def JZ{α:Type}{xs:List α}{i:Int}{v:α}(h:atI xs i=KF v):∃j,seqIndex? i xs.length=KF j/\xs[j]?=KF v/\j<xs.length/\-(xs.length:Int)<=i/\i<xs.length:=by
 unfold atI at h;cases e:ixN xs.length i with
 |none=>rw[e] at h;cases h
 | some j=>
  rw[e] at h;obtain⟨a,b,c,d⟩:=Qu e;exact⟨j,a,h,b,c,d⟩
def atI_nat{α:Type}{xs:List α}{j:Nat}{v:α}(h:xs[j]?=KF v):atI xs (j:Int)=KF v:=by
 have a:j<xs.length:=(aq.mp h).1;have e:ixN xs.length (j:Int)=KF j:=by
  unfold ixN;rw[qq 'd',qq 'd'];simp
 unfold atI;rw[e];exact h
def P0(b:aT):Prop:=∀o i,subscripted b qh o i=operate [o,i] (getItem o i)
def zL(X:Cx)(r:R2):Prop:=
 ∀(value slice:aT)(Y1:List (ae×Obj))(s:ag)(σ:St)(H:Hp)(x y:V)(v u:ab)(Q:VK),Inv X Y1 σ H s->RelV x v->RelV y u->r x y H Q->
  subscripted slice qh v u=operate [v,u] (getItem v u)->ao (ay X.prog X.w) X.A (subscriptTail value slice v u) (EP X Y1 σ Q) X.xe s
def Nj(X:Cx)(id:String)(r:V->List V->Hp->VK->Prop):Prop:=
 ∀(Y1:List (ae×Obj))(s:ag)(σ:St)(H:Hp)(x:V)(xs:List V)(v:ab)(us:List ab)(Q:VK),Inv X Y1 σ H s->RelV x v->oE xs us->r x xs H Q->
  ao (ay X.prog X.w) X.A (call (.builtin id) (v::us)) (EP X Y1 σ Q) X.xe s
section
variable{X:Cx}{a b:aT}{ta tb:TE}{pos:Pos}
def zL.or(h:zL X r)(h':zL X r'):zL X (λx y H Q=>r x y H Q\/r' x y H Q):=by
 intro c d e s f H x y v u Q I g i q j;rcases q with q|q
 ·exact h c d e s f H x y v u Q I g i q j
 ·exact h' c d e s f H x y v u Q I g i q j
def Vk(d:zL X r)(e:PE X a ta)(f:PE X b tb)(g:P0 b):PE X (.Subscript a b pos) (EE r ta tb):=by intro c s i H Q I h;exact Subscript_ (IU e f I h λv u j x y k l m n q=>d a b c j i k x y v u Q l m n q (g _ _))
def NG(K:ah):R2:=λx y H Q=>∃p xs i v,x=.ref p/\y=.int i/\qO K H p xs/\atI xs i=KF v/\Q v H
def Nz(K:ah):R2:=λx y H Q=>∃p xs i v,x=.ref p/\y=.int i/\rG K H p xs/\atI xs i=KF v/\Q v H
def NO:R2:=λx y H Q=>∃z i c,x=.str z/\y=.int i/\z.length<=xc/\atI z.cps.toList i=KF c/\Q (.str ⟨#[c]⟩) H
def pK:zL X (NG X.K):=by
 intro f g c s m H x y v u Q I B C h n;obtain⟨p,P,i,z,rfl,rfl,D,E,q⟩:=h;cases B;obtain⟨t,rfl⟩:=C;obtain⟨F,r,k,R⟩:=I.list D;obtain⟨j,e,G,S,J,L⟩:=JZ E;obtain⟨w,o,M⟩:=r.get G;have N:=r.length;have T:=Cc;have d:EP X c m Q w s:=⟨z,H,I,M,q⟩;by_cases A:0<=i
 ·have l:i.toNat=j:=by
   rw[mU A L] at e;exact cq e
  exact item_listR k.isList A 'd' (by rw[l];simpa using o) d n
 ·have l:(i+(F.toArray.size:Int)).toNat=j:=by
   rw[seqIndex_neg 'd' J] at e;rw[aJ,<- N];exact cq e
  exact kR (x:=w) k.isList.typeIs slot_list_getitem.lookup
   (wpAny_getItem_list_neg (Q:=λr O=>r=w/\EP X c m Q r O) k.isList 'd' (by rw[aJ]<;>lia) 'd' (by rw[l];simpa using o) ⟨rfl,d⟩) n
def pM:zL X (Nz X.K):=by
 intro d e c s g H x y v u Q I l m h n;obtain⟨p,J,i,z,rfl,rfl,o,A,q⟩:=h;cases l;obtain⟨t,rfl⟩:=m;obtain⟨L,r,k,M⟩:=I.tuple o;obtain⟨j,B,C,N,O,P⟩:=JZ A;obtain⟨w,D,E⟩:=r.get C;have F:=r.length;have R:=Cc;have f:EP X c g Q w s:=⟨z,H,I,E,q⟩;exact kR (x:=w) k.typeIs fj.lookup
  (getItem_tuple (j:=j) (Q:=λr G=>r=w/\EP X c g Q r G) k 'd' 'd' (by rw[aJ,<- F];exact B) (by simpa using D) ⟨rfl,f⟩) n
def WX:zL X NO:=by
 intro d e f s C H x y v u Q I k l h m;obtain⟨z,i,c,rfl,rfl,D,n,q⟩:=h;obtain⟨t,rfl⟩:=k;obtain⟨E,rfl⟩:=l;obtain⟨j,g,o,F,p,r⟩:=JZ n;have w:z.cps.toList.length=z.length:=by simp[Str.length]
 rw[w] at g p r;have G:=Cc;exact tail_any (typeIs_str s z t) slot_str_getitem.lookup (getItem_str (c:=c) (by
  have A:decide (i < -(2 ^ 63:Int))=qh:=decide_eq_false 'd';have B:decide (i ≥ 2 ^ 63)=qh:=decide_eq_false 'd';rw[A,B,Bool.or_false]) (by rw[g];simpa using o) ⟨.str ⟨#[c]⟩,H,I.tok _,⟨_,rfl⟩,q⟩) m
def TB(K:ah):R2:=λx y H Q=>NG K x y H Q\/Nz K x y H Q\/NO x y H Q
def XC:zL X (TB X.K):=pK.or (pM.or WX)
def zc7(c:List ab)(n j:Nat)(u:ab):bw (·.setIfInBounds j u) { cls:=.type "list",data:=.seq c.toArray n } = { cls:=.type "list",data:=.seq (c.set j u).toArray n }:=by simp[bw]
def Inv.lst{c:List (ae×Obj)}{σ:St}{H:Hp}{s:ag}{p:ae}{xs:List V}(I:Inv X c σ H s)(h:H p=KF (.lst xs)):
  ∃(d:List ab)(n:Nat),oE xs d/\s.heap.get? p=KF { cls:=.type "list",data:=.seq d.toArray n }/\xs.length<=xc:=by obtain⟨z,d,n,r,e⟩:=I.hok p _ h;exact⟨d,n,r,e,z⟩
def Inv.lstUpd{c:List (ae×Obj)}{σ:St}{H:Hp}{s:ag}{p:ae}{xs d:List V}{i its':List ab}{n g:Nat}{f:Obj->Obj}(I:Inv X c σ H s)(h:H p=KF (.lst xs))
  (k:s.heap.get? p=KF { cls:=.type "list",data:=.seq i.toArray n }) (j:f { cls:=.type "list",data:=.seq i.toArray n } = { cls:=.type "list",data:=.seq its'.toArray g }) (r:oE d its') (hz:d.length<=xc) (t:Nat) (m:0<t:=by first|exact cO _|exact Inv.tk ‹_›|assumption|lia):
  Inv X c σ (upd H p (.lst d)) { s with heap:=s.heap.update p f,toks:=t }:=by
 have e:(s.heap.update p f).get? p=KF { cls:=.type "list",data:=.seq its'.toArray g }:=by
  rw[cm f k (by rw[j]<;>rfl),j]
 refine I.write (x:=p) (e:=p) (by rw[h];trivial) (.inl rfl) (λb u l q=>(cz _ _ (bL l)).trans q) ⟨_,e⟩ ?_;exact⟨hz,its',g,r,e⟩
def VI:V->V->V->Hp->(Hp->Prop)->Prop:=λo i v H Q=>∃p xs k j,o=.ref p/\i=.int k/\H p=KF (.lst xs)/\ixN xs.length k=KF j/\Q (upd H p (.lst (xs.set j v)))
def zfs:NQ X VI:=by
 intro c s A H o i v J K u Q I B C D h;obtain⟨p,E,k,j,rfl,rfl,l,F,q⟩:=h;cases B;obtain⟨t,rfl⟩:=C;obtain⟨m,n,r,e,G⟩:=I.lst l;obtain⟨d,L,w,x⟩:=Qu F;have f:=r.length;have M:=Cc;have y:Inv X c A (upd H p (.lst (E.set j v))) { s with heap:=s.heap.update p (bw (·.setIfInBounds j u)) }:=
  I.lstUpd l e (zc7 m n j u) (r.set D j) (by rw[ee];exact G) s.toks
 by_cases z:0<=k
 ·have g:k.toNat=j:=by
   rw[mU z x] at d;exact cq d
  exact PySem.W.ki_setAt e z 'd' (by rw[aJ,<- f];exact x) (by rw[g];exact⟨_,y,q⟩)
 ·have g:(k+(m.toArray.size:Int)).toNat=j:=by
   rw[seqIndex_neg 'd' w] at d;rw[aJ,<- f];exact cq d
  exact PySem.W.ki_setBack e 'd' (by rw[aJ,<- f];exact w) 'd' (by rw[g];exact⟨_,y,q⟩)
def z8U(lo c:Option Int)(n:Nat):(sliceBounds lo c KM n).1=((HT.sIx n 0 lo:Nat):Int)/\(sliceBounds lo c KM n).2.1=((HT.sIx n n c:Nat):Int)/\(sliceBounds lo c KM n).2.2=1:=by
 refine⟨?_,?_,rfl⟩
 ·cases lo with
  |none=>simp[sliceBounds,HT.sIx]
  | some i=>
   simp only[sliceBounds,HT.sIx,mZ,show(1:Int)>0 by decide,if_true];by_cases h:i<0
   ·simp only[h,if_true]<;>lia
   ·simp only[h,if_false]<;>lia
 ·cases c with
  |none=>simp[sliceBounds,HT.sIx]
  | some i=>
   simp only[sliceBounds,HT.sIx,mZ,show(1:Int)>0 by decide,if_true];by_cases h:i<0
   ·simp only[h,if_true]<;>lia
   ·simp only[h,if_false]<;>lia
def z7A(c:List ab)(lo d:Option Int):slicePick c.toArray lo d KM=((c.drop (HT.sIx c.length 0 lo)).take (HT.sIx c.length c.length d-HT.sIx c.length 0 lo)).toArray:=by obtain⟨e,f,g⟩:=z8U lo d c.toArray.size;unfold slicePick;rw[e,f,g];simp only[sliceRange_one,pick_run,aJ]<;>rfl
def Nv(K:ah):V->Option Int->Option Int->Hp->VK->Prop:=λx lo hi H Q=>∃a xs,x=.ref a/\qO K H a xs/\∀p,H p=KM->Q (.ref p) (upd H p (.lst (zM xs lo hi)))
def Zc:yu X (Nv X.K):=by intro g s t H x v u w e f y Q I j k l m h;obtain⟨a,c,rfl,n,q⟩:=h;cases j;obtain⟨z,r,i,p⟩:=I.list n;have d:=r.length;refine⟨"list",_,slot_list_getitem.lookup,i.isList.typeIs,?_⟩;refine wpAny_getItem_list_slice i.isList k l m .none 'k' ?_ (by rw[aJ]<;>lia);rw[z7A,<- d];refine⟨.ref s.heap.objs.size,_,I.laid (t':=s.toks) (o:=.lst (zM c e f)) (λb A q=>af _ q) (aC _) ?_,rfl,q _ (I.hok.fresh (aC _))⟩;exact⟨aI (Sk c e f) p,_,0,(r.drop (HT.sIx c.length 0 e)).take (HT.sIx c.length c.length f-HT.sIx c.length 0 e),aE _ rfl⟩
def oM.or{f:ab}{r d:List V->Hp->VK->Prop}(h:oM X f r)(h':oM X f d):oM X f (λxs H Q=>r xs H Q\/d xs H Q):=by
 intro c s e H xs g Q I i q;rcases q with q|q
 ·exact h c s e H xs g Q I i q
 ·exact h' c s e H xs g Q I i q
def z8i:oM X (.type "list") (λxs H Q=>∃p f,xs=[.ref p]/\(qO X.K H p f\/rG X.K H p f)/\∀l,H l=KM->Q (.ref l) (upd H l (.lst f))):=by
 intro j s C H xs E Q I r h;obtain⟨p,f,rfl,hq,q⟩:=h;obtain⟨u,rfl,D⟩:=uL r;cases D;have k:∀(d:List ab),oE f d->f.length<=xc->∀(c:aX)(g:Nat),(∀b B,s.heap.get? b=KF B->c.get? b=KF B)->
   c.get? s.heap.objs.size=KF { cls:=.type "list",dict:=KM,data:=.seq d.toArray g,slots:=#[] }->EP X j C Q (.ref s.heap.objs.size) { s with heap:=c }:=λd i m c g t e=>
  ⟨.ref s.heap.objs.size,_,I.laid (t':=s.toks) t (aC _) (show oN X.prog X.w _ c _ (.lst f) from ⟨m,d,g,i,e⟩),rfl,q _ (I.hok.fresh (aC _))⟩
 rcases hq with hq|hq
 ·obtain⟨d,i,x,m⟩:=I.list hq;have v:=i.length;obtain⟨o,y,z,n,A⟩:=x.isList;exact call_list_seq p (.inl rfl) y z A (λc g t e=>k d i m c g t e) (by simp only[aJ]<;>lia)
 ·obtain⟨d,i,x,m⟩:=I.tuple hq;have v:=i.length;obtain⟨o,y,z,n,A⟩:=x;exact call_list_seq p (.inr rfl) y z A (λc g t e=>k d i m c g t e) (by simp only[aJ]<;>lia)
def z6Z:oM X (.type "tuple") (λxs H Q=>∃p d,xs=[.ref p]/\((qO X.K H p d/\∀l,H l=KM->Q (.ref l) (upd H l (.tup d)))\/(rG X.K H p d/\Q (.ref p) H))):=by
 intro c s m H xs A Q I r h;obtain⟨p,d,rfl,h⟩:=h;obtain⟨u,rfl,x⟩:=uL r;cases x;rcases h with⟨g,q⟩|⟨g,q⟩
 ·obtain⟨i,j,k,n⟩:=I.list g;have t:=j.length;refine call_tuple_list k.isList (λf y=>?_) (by simp only[aJ]<;>lia);have v:Inv X c m H { s with heap:=f }:=I.kept (t':=s.toks) y;have z:Inv X c m (upd H f.objs.size (.tup d)) { s with heap:=f.push { cls:=.type "tuple",data:=.seq i.toArray } }:=
   v.laid (t':=s.toks) (λb o e=>af _ e) (aC _) (show oN X.prog X.w _ _ _ (.tup d) from ⟨n,i,j,oX.new _ _⟩)
  exact⟨.ref f.objs.size,_,z,rfl,q _ (v.hok.fresh (aC _))⟩
 ·obtain⟨i,j,k,n⟩:=I.tuple g;exact call_tuple_same k ⟨.ref p,H,I,rfl,q⟩
def Tj(K:ah)(T:String)(x:V)(H:Hp):Prop:=match x with
 |.str _=>T = "str"
 |.int _=>T = "int"
 | .ref p=>(T = "list"/\∃xs,qO K H p xs)\/(T = "tuple"/\∃o,K.lookup p=KF o/\o.cls=.type "tuple"/\o.dict=KM) \/
   (T = "dict"/\((∃k_,H p=KF (.dK k_)) \/ ∃k_,H p=KF (.dT k_)))\/(T = "set"/\∃S n,H p=KF (.set S n))
 |_=>False
def Xp(I:Inv X Y1 σ H s)(r:RelV x v)(g:Tj X.K T x H):
  s.TypeIs v T/\∀a,v=.ref a->∃ob,s.heap.get? a=KF ob/\ob.dict=KM:=by
 cases x with
 | str z=>
  obtain⟨t,rfl⟩:=r;cases (show T = "str" from g);exact⟨typeIs_str s z t,λ_ e=>nomatch e⟩
 | int i=>
  obtain⟨t,rfl⟩:=r;cases (show T = "int" from g);exact⟨typeIs_int s i t,λ_ e=>nomatch e⟩
 | ref p=>
  cases r;rcases g with⟨rfl,u,l⟩|⟨rfl,o,d,m,h⟩|⟨rfl,d⟩|⟨rfl,S,n,d⟩
  ·obtain⟨w,_,k,_⟩:=I.list l;refine⟨k.isList.typeIs,λa e=>?_⟩;cases e;obtain⟨o,n,e,c,h,_⟩:=k;exact⟨o,e,h⟩
  ·refine⟨⟨o,I.kIn p o d,m⟩,λa e=>?_⟩;cases e;exact⟨o,I.kIn _ o d,h⟩
  ·have z:∃o,s.heap.get? p=KF o/\o.ExactDict:=by
    rcases d with⟨q,d⟩|⟨q,d⟩
    ·obtain⟨_,_,_,_,o,_,_,e,f,_⟩:=I.hok p _ d;exact⟨o,e,f⟩
    ·obtain⟨_,_,_,_,o,_,_,e,f,_⟩:=I.hok p _ d;exact⟨o,e,f⟩
   obtain⟨o,e,f⟩:=z;refine⟨⟨o,e,f.1⟩,λa j=>?_⟩;cases j;exact⟨o,e,f.2.1⟩
  ·obtain⟨o,_,_,_,e,f,_⟩:=I.hok p _ d;refine⟨⟨o,e,f.1⟩,λa j=>?_⟩;cases j;exact⟨o,e,f.2.1⟩
 |_=>exact ak g
def tBM(K:ah)(T:String)(r:V->List V->Hp->VK->Prop)(to:TE)(t:TA):TE:=λσ H Q=>to σ H λx H1=>Tj K T x H1/\t σ H1 λxs H2=>r x xs H2 Q
variable{o e:aT}{es:List aT}{to:TE}{t:TA}{name:Str}{apos qe:Pos}{T id:String}{r:V->List V->Hp->VK->Prop}
def Jq(k:PlainAttrs T)(d:Slot T name id)(l:typeOf (.builtin id)=pure (.type "method_descriptor"))(m:Nj X id r)(n:PE X o to)(p:PA X (e::es) t)
  (q:attributeBase o name X.env (eval o X.env)=eval o X.env:=by rfl)
  (u:((backTo qe (aN (e::es) X.env)).all (λx=>!x.1)&&(backToKw qe (keywordEach [] X.env)).all (λx=>x.1.isSome)
   && decide ((e::es).length+([]:List gA).length+(if ([]:List gA).isEmpty then 0 else 1)<30))=qb:=by rfl)
  (w:(apos.endLine==qe.line)=qb:=by rfl) (y:aN (e::es) X.env=(qh,eval e X.env)::aN es X.env:=by rfl) (z:(backTo qe (aN es X.env)).any (·.1)=qh:=by rfl):
  PE X (.Call (.Attribute o name apos) (e::es) [] qe) (tBM X.K T r to t):=by intro c s f H Q I h;refine wpAny_Call_method_late q u w rfl (pV (n c s f H _ I h) λv A ⟨x,B,g,i,C,D⟩=>?_);obtain⟨E,F⟩:=Xp g i C;refine⟨T,id,k,d,l,E,F,?_⟩;have j:=p qe c A f B _ g D;rw[y] at j ⊢;refine Calls.callWith_builtin (by show(qh||(backTo qe (aN es X.env)).any (·.1))=qh;rw[z]<;>rfl) (Calls.evalArgs_plain ?_);exact pV j λG J ⟨L,M,N,O,P⟩=>m c J f M x L v G Q N i O P
end
def US(X:Cx)(id:String)(r:V->List V->Hp->VK->Prop):Prop:=
 ∀(Y1:List (ae×Obj))(s:ag)(σ:St)(H:Hp)(x:V)(xs:List V)(v:ab)(us:List ab)(Q:VK),Inv X Y1 σ H s->RelV x v->oE xs us->r x xs H Q->
  ao (ay X.prog X.w) X.A (call (.builtin id) (v::us)) (EP X Y1 σ Q) X.xe s
def oE.one:∀{x:V}{a:List ab},oE [x] a->∃u,a=[u]/\RelV x u
 |_,_,.cons r .nil=>⟨_,rfl,r⟩
theorem oE.eraseIdx:∀{xs:List V}{a:List ab}(i:Nat),oE xs a->oE (xs.eraseIdx i) (a.eraseIdx i)
 |_,_,_,.nil=>.nil
 |_,_,0,.cons _ t=>t
 |_,_,i+1,.cons r t=>.cons r (oE.eraseIdx i t)
def oE.reverse{xs:List V}{a:List ab}(h:oE xs a):oE xs.reverse a.reverse:=by
 induction h with
 |nil=>exact .nil
 |cons r t ih=>rw[mG,mG];exact oE.append ih (.cons r .nil)
section
variable{X:Cx}{Y1:List (ae×Obj)}{σ:St}{H:Hp}{s:ag}{l:ae}{xs ys:List V}
def Inv.lset{a its':List ab}{n:Nat}{f:Array ab->Array ab}{t':Nat}(I:Inv X Y1 σ H s)(b:H l=KF (.lst xs))
  (e:s.heap.get? l=KF { cls:=.type "list",data:=.seq a.toArray n }) (c:f a.toArray=its'.toArray) (d:oE ys its') (hz:ys.length<=xc) (i:0<t':=by first|exact cO _|exact Inv.tk ‹_›|assumption|lia):
  Inv X Y1 σ (upd H l (.lst ys)) { s with heap:=s.heap.update l (bw f),toks:=t' }:=by have q:=PySem.IsL.update e f;rw[c] at q;refine I.write (x:=l) (e:=l) (by rw[b];exact trivial) (.inl rfl) (λj u g h=>(cz s.heap (bw f) (bL g)).trans h) ⟨_,q⟩ ?_;exact⟨hz,its',_,d,q⟩
def Inv.lnew(I:Inv X Y1 σ H s)(a:oE ys g_)(hz:ys.length<=xc)(b:0<t':=by first|exact cO _|exact Inv.tk ‹_›|assumption|lia):
  Inv X Y1 σ (upd H s.heap.objs.size (.lst ys)) { s with heap:=s.heap.push { cls:=.type "list",data:=.seq g_.toArray },toks:=t' }:=
 I.laid (λ_ _ q=>af _ q) (aC _) ⟨hz,g_,0,a,aE _ rfl⟩
def Inv.fresh(I:Inv X Y1 σ H s):H s.heap.objs.size=KM:=I.hok.fresh (aC _)
def Inv.lstM(I:Inv X Y1 σ H s)(b:H l=KF (.lst xs)):xs.length<=xc/\∃(a:List ab)(n:Nat),oE xs a/\xs.length=a.length/\s.heap.get? l=KF { cls:=.type "list",data:=.seq a.toArray n }:=by obtain⟨z,a,n,r,e⟩:=I.hok l _ b;exact⟨z,a,n,r,r.length,e⟩
def zfp{n:Nat}(h:n<=xc):fX n=qh:=by unfold fX;exact decide_eq_false 'd'
end
section
variable{X:Cx}
def Yx:V->List V->Hp->VK->Prop:=λx vs H Q=>∃l xs y,x=.ref l/\vs=[y]/\H l=KF (.lst xs)/\xs.length<xc/\Q .non (upd H l (.lst (xs++[y])))
def RQ:US X "list.append" Yx:=by intro a s i H x j v k Q I d f h;obtain⟨l,m,y,rfl,rfl,b,o,q⟩:=h;cases d;obtain⟨u,rfl,g⟩:=f.one;obtain⟨z,c,n,r,p,e⟩:=I.lstM b;refine call_meets lg ⟨_,e,rfl⟩ F.entry_list_append (F.args_list_append_2 _ _) (PySem.list_append l c.toArray n u (by rw[aJ];lia)) ⟨e,?_⟩;refine⟨.non,_,I.lset (its':=c++[u]) b e 'k' (r.append (.cons g .nil)) ?_,rfl,q⟩;rw[aw,fA];lia
end
section
end
end L2
namespace Att
open PySem PySem.W PySem.Calls PyProof.Rows
def z5p:∀(ns:List Int)(vs:List ab),WellAll P h vs (ns.map nY)->lf vs ns:=by
 intro ns
 induction ns with
 | nil=>
  intro vs w;rw[gz] at w;cases w;exact .nil
 | cons n ns ih=>
  intro vs w;rw[bq] at w;cases w with
  | cons a b=>
   cases a;exact .cons _ _ (ih _ b)
def zeR{l:mi}{n:Nat}(k:l.most=KF n){P:iX}{h:aX}{args:List WData}{b:List ab}
  (i:l.row.toRowW.claim.pre args=qb) (m:WellAll P h b args):
  ∃a vs ns,b=[fu a]/\args=[WData.list (ns.map nY)]/\h.get? a=KF { cls:=.type "list",data:=.seq vs.toArray }/\lf vs ns/\ns.length<=n:=by
 have g:WShape.hasAll [] args [.list .int]=qb:=(pre_splitW i).1;have j:l.pre.holds [] { args:=args } = qb:=(pre_splitW i).2;obtain⟨d,r,rfl,o,p⟩:=hasAllW_cons g;obtain rfl:=hasAllW_nil p;obtain⟨u,rfl,s⟩:=hasW_list o;obtain⟨ns,rfl⟩:=items_int s;have c:ns.length<=n:=by
  unfold OpenLaw.pre at j;have e:(WTm.not (.lt (.lit (.int (n:Int))) (.len (.arg 0)))).holds [] { args:=[.list (ns.map .int)] } = qb:=by
   have e:=(holds_andW j).1;rw[k] at e;exact e
  have f:=condW_of e (w_not (w_lt w_lit (w_len_list (w_arg rfl))));rw[au] at f;refine Nat.le_of_not_lt λq=>?_;have t:(n:Int)<((ns.length:Nat):Int):=by lia
  first
   |(rw[decide_eq_true t] at f;exact absurd f 'u')
   |(simp at f;lia)
 cases m with
 | cons w1 w2=>
  cases w2;cases w1 with
  |list ho rF=>exact⟨_,_,ns,rfl,rfl,ho,z5p ns _ rF,c⟩
def zcR(l:mi)(args:List WData):l.row.toRowW.claim.post args (.bool qb) args=qb:=
 postW_of (r:=l.row.toRowW) (X:=(qb==qb))
  (show WShape.has [] (.bool qb) .bool=qb by first|rfl|decide|simp[WShape.has,WShape.arms,WShape.armsAll])
  (show(WTm.eq .res (.lit (.bool qb))).value [] { args:=args,res:=KF (.bool qb),after:=args } = KF (.bool (qb==qb)) from w_eq_bool (w_res rfl) w_lit) rfl
theorem Sj:∀ns:List Int,lV (ns.map jM)=ns.map nY
 |[]=>by simp[lV]
 |n::ns=>by simp only[bq,lV,mj];rw[Sj ns]
def attach_call{l:mi}{n:Nat}{q:aP}{loose:List Str}{XP:(Str->Option ab)->aX->Prop}{p:aY->aX->Prop}{d:DefRec}{α:Type}{Yf:ag->α}{Ya:aY->α}
  (C:l.most=KF n) (D:d.params.defaults=[]) (E:∀w s,Yf s=Ya w->p w s.heap) (F:∀w h h',p w h->(∀b o,h.get? b=KF o->h'.get? b=KF o)->p w h')
  (j:∀(w:aY)(c e:ag)(mg v:Str->Option ab)(k:ae)(o:Obj)(x t g:ab)(a:ae)(vs:List ab)(ns:List Int),
   Ground q loose [] XP w c mg v e.heap->p w e.heap->
   e.heap.get? k=KF o->o.data=.func (docDef d.name d.params d.body d.scope x t g)->e.heap.CodeRec t d.name->mg d.name=KF (.ref k)->
   e.heap.get? a=KF { cls:=.type "list",data:=.seq vs.toArray }->lf vs ns->ns.length<=n->e.gens = #[]->0<e.toks->
   codeAny (ay l.prog w) callerA (.call (.ref k) ⟨[.ref a],[]⟩) (λr u=>r=.ok (.ret (.bool qb))/\OldK e.heap u.heap/\u.os=e.os/\il u.gens) e):
  WalkX q loose XP (λs=>(Yf s,decide (0<s.toks))) (λw=>(Ya w,qb)) l.row.toRowW d [] (λf vs=>PySem.call f vs):=by
 intro w c e mg v G Y k o x t g H I J K M y N O z A P L Q B R S Fv;obtain rfl:H=.none:=Dflts.none y D;obtain rfl:I=.none:=Dflts.noKw y;have T:Yf c=Ya w:=congrArg Prod.fst Y;have U:0<c.toks:=of_decide_eq_true (congrArg Prod.snd Y);obtain⟨a,vs,ns,rfl,rfl,V,i,m⟩:=zeR C Q S;have Z:Laid l.row.toRowW.records w c e [mj (eE (ns.map jM))] [.ref a] P:=by
  rw[mj,Sj];exact L
 have qR:0<e.toks:=bb U (PySem.W.X.script_toks Z rfl);refine enter_call (fv (j w c e mg v k o x t g a vs ns G (F _ _ _ (E w c T) L.keeps) J (fd_plain K) M N V i m O qR) λr u hq=>?_);obtain⟨rfl,h2,h3,h4⟩:=hq;exact⟨.inl ⟨.bool qb,.bool qb,[],rfl,λ_=>rfl,.bool qb,zcR l _,λ_=>⟨d8,λ_ hm=>(nomatch hm)⟩⟩,h2,h3,h4⟩
section
end
end Att
namespace L2
open PySem PySem.Spec PyProof.Rows
theorem R9:∀{vs:List ab}{ns:List Int},lf vs ns->oE (ns.map V.int) vs
 |_,_,.nil=>.nil
 |_,_,.cons n t h=>.cons ⟨t,rfl⟩ (R9 h)
noncomputable def xD(s:eI):iU:=match s with
 |.FunctionDef _ a _ _ _ _ _ _ _ _=>a
 |_=>{ posonlyargs:=[],args:=[],vararg:=KM,kwonlyargs:=[],kw_defaults:=[],kwarg:=KM,defaults:=[] }
def vh(s:eI):List eI:=match s with
 |.FunctionDef _ _ b _ _ _ _ _ _ _=>b
 |_=>[]
def qc(s:eI):cT:=match s with
 |.FunctionDef _ _ _ _ _ _ sc _ _ _=>sc
 |_=>{ kind:=.function,names:=[],isGenerator:=qh,isCoroutine:=qh }
abbrev xn:wI:=λ_ _ _ _ _ _=>False
abbrev E0:XK:=λ_ _ _=>False
def Ob:GQ xn X E0:=λ_ _ _ _ _ _ _ h=>h.elim
structure Fun(K:ah)(x qual:Str)(st:eI)(f:ae)(fd:eB):Prop where
 ex:∃(oc:ab)(od:Option ae)(kV doc pm:ab)(an:Option ae)(o_ ct:ab)(uQ:Array (Option ab)),
  fd=cB x qual (xD st) (vh st) (qc st) .none kV doc pm an o_ ct/\K.lookup f=KF ⟨oc,od,.func fd,uQ⟩/\fg K o_ qual=qb
 kp:cV K (.ref f)=qb
section
variable{P:aP}{w:aY}{K:ah}{mg:Str->Option ab}{base:aX}
def Fun.ok{x b:Str}{st:eI}{f:ae}{i:eB}{N d:List Str}{k:Nat}{e:Sp}(F:Fun K x b st f i)(S:qt N d (qc st))(g:∀vs H Q E,e vs H Q E->vs.length=d.length)
  (j:∀(c:ab)(A:ba)(a:List Env)(s:ag)(H:Hp)(vs:List V)(Q:VK)(E:XK),oK k (A.deeper (envOfC b (qc st) s.heap.objs.size f c))->e vs H Q E->
   ∃t,tF (Av xn P w K mg base N b (qc st) f c A a s H E).nox (vh st) t/\t { nx:=λ_ H'=>Q .non H',rt:=Q } (start N vs) H):oR P w K mg base xn (k+1) f i d e:=by obtain⟨r,u,v,l,y,z,c,B,C,rfl,m,n⟩:=F.ex;refine qw m n S g λA a s H vs Q E o p=>?_;obtain⟨t,h,q⟩:=j c A a s H vs Q E o p;exact⟨t,h.nox,q⟩
def Fun.binds{x a:Str}{st:eI}{f:ae}{l:eB}{c:List Str}(F:Fun K x a st f l)
  (h:∀(d b e:ab)(g:Option ae)(i j:ab)(k:List ab),k.length=c.length->bindArgs (cB x a (xD st) (vh st) (qc st) .none d b e g i j) ⟨k,[]⟩=pure (c.zip k)):Binds K l c []:=by obtain⟨m,n,d,b,e,g,i,j,o,rfl,p,q⟩:=F.ex;exact .all (h d b e g i j)
def JH{x a:Str}{st:eI}{f:ae}{j:ab}{m e:Option ae}{n:Array (Option ab)}{g b h d i:ab}(l:K.lookup f=KF ⟨j,m,.func (cB x a (xD st) (vh st) (qc st) .none g b h e d i),n⟩)
  (c:fg K d a=qb) (k:cV K (.ref f)=qb):Fun K x a st f (cB x a (xD st) (vh st) (qc st) .none g b h e d i):=⟨⟨j,m,g,b,h,e,d,i,n,rfl,l,c⟩,k⟩
end
def Vp(a:oK k A):A.units+1<cLine:=gc (Nat.add_le_add_left (by decide:1<=64) _) a.units
section
variable{X:Cx}
def pv(i:Nat)(a:X.N[i]?=KF x:=by rfl)(b:uU X.env.scope x:=by first|exact Or.inl rfl|exact Or.inr (Or.inl rfl)|exact Or.inr (Or.inr rfl))(c:(x==("__debug__":Str))=qh:=by decide)
  (d:(x==("__classdict__":Str))=qh:=by decide):PE X (.Name x pos) (Ga i):=GH a b c d
end
def oJ(H H':Hp):Prop:=∀b o,H b=KF o->H' b=KF o
def oJ.refl(H:Hp):oJ H H:=λ_ _ h=>h
def oJ.trans(a:oJ H H1)(b:oJ H1 H2):oJ H H2:=λc o h=>b c o (a c o h)
def oJ.free{H H':Hp}(e:oJ H H'){l:ae}(h:H' l=jq):H l=jq:=by
 cases q:H l with
 |none=>rfl
 | some o=>
  rw[e l o q] at h;cases h
def oJ.seq{K:ah}{H H':Hp}{a:ae}{xs:List V}(e:oJ H H')(h:qO K H a xs):qO K H' a xs:=by
 rcases h with(h|⟨o,h⟩)|h
 ·exact .inl (.inl (e _ _ h))
 ·exact .inl (.inr ⟨o,e _ _ h⟩)
 ·exact .inr h
section
variable{κ:Type}[DecidableEq κ]
def t8(k_:List (κ×V))(k:κ):Option V:=(k_.find? λkv=>decide (kv.1=k)).map (·.2)
noncomputable def wU(k_:List (κ×V))(k:κ)(v:V):List (κ×V):=
 if (k_.any λkv=>decide (kv.1=k))=qb then k_.map (λkv=>if kv.1=k then (kv.1,v) else kv) else k_++[(k,v)]
def yJ(k_:List (κ×V))(k:κ):List (κ×V):=k_.filter λkv=>decide (kv.1≠k)
def D4{p:κ×V}{r:List (κ×V)}{k:κ}(e:p.1=k):t8 (p::r) k=KF p.2:=by simp[t8,eL,e]
def Ct{p:κ×V}{r:List (κ×V)}{k:κ}(e:¬ p.1=k):t8 (p::r) k=t8 r k:=by simp[t8,eL,e]
theorem Q6(k:κ):∀a:List (κ×V),(a.any λkv=>decide (kv.1=k))=(t8 a k).isSome
 |[]=>rfl
 | p::r=>by
  rw[f7];by_cases e:p.1=k
  ·simp only[D4 e,decide_eq_true e,Bool.true_or,ml]
  ·rw[Ct e,decide_eq_false e,iH];exact Q6 k r
def SR(a:List (κ×V))(k:κ)(v:V):(wU a k v).length<=a.length+1:=by
 unfold wU;split
 ·rw[au];lia
 ·rw[aw,aV,dQ];lia
def zfh{a:List (κ×V)}{k:κ}(v:V)(h:t8 a k=KM):wU a k v=a++[(k,v)]:=by unfold wU;rw[Q6,h];exact qM 'u'
def o0.isSome_eq(r:o0 o u):o.isSome=u.isSome:=by
 cases o with
 | none=>cases u with
  |none=>rfl
  |some _=>exact(show False from r).elim
 | some _=>cases u with
  |none=>exact(show False from r).elim
  |some _=>rfl
def o0.getD(r:o0 o u)(a:RelV d d'):RelV (o.getD d) (u.getD d'):=by
 cases o with
 | none=>cases u with
  |none=>exact a
  |some _=>exact(show False from r).elim
 | some _=>cases u with
  |none=>exact(show False from r).elim
  |some _=>exact r
def KV.val{c:List (κ×V)}{vs:List (κ×ab)}(r:KV c vs)(k:κ):o0 (t8 c k) (valueAt vs k):=by
 unfold KV at r
 induction r with
 |nil=>exact fk
 | @cons p q ps qs h t ih=>
  obtain⟨d,f⟩:=h;by_cases e:p.1=k
  ·have a:q.1=k:=d.symm.trans e;have b:valueAt (q::qs) k=KF q.2:=by simp[valueAt,eL,a]
   rw[D4 e,b];exact f
  ·have a:¬ q.1=k:=λz=>e (d.trans z);have b:valueAt (q::qs) k=valueAt qs k:=by simp[valueAt,eL,a]
   rw[Ct e,b];exact ih
def KV.any{a:List (κ×V)}{vs:List (κ×ab)}(r:KV a vs)(k:κ):(a.any λkv=>decide (kv.1=k))=vs.any λkv=>decide (kv.1=k):=by
 unfold KV at r
 induction r with
 |nil=>rfl
 |cons h t ih=>rw[f7,f7,ih,h.1]
def KV.repl(r:KV k_ vs)(k:κ)(b:RelV y u):
  KV (k_.map λkv=>if kv.1=k then (kv.1,y) else kv) (vs.map λkv=>if kv.1=k then (kv.1,u) else kv):=by
 unfold KV at r ⊢
 induction r with
 |nil=>exact .nil
 | @cons p q ps qs h t ih=>
  rw[bq,bq];refine .cons ?_ ih;obtain⟨a,c⟩:=h;by_cases e:p.1=k
  ·rw[qq e,qq (a.symm.trans e)];exact⟨a,b⟩
  ·rw[qM e,qM (λz=>e (a.trans z))];exact⟨a,c⟩
def KV.put(r:KV k_ vs)(k:κ)(a:RelV y u):KV (wU k_ k y) (stored vs k u):=by
 unfold wU stored;rw[r.any k];by_cases e:(vs.any λb=>decide (b.1=k))=qb
 ·rw[qq e,qq e];exact r.repl k a
 ·rw[qM e,qM e];exact Paired.snoc r ⟨rfl,a⟩
def KV.drop(r:KV k_ vs)(k:κ):KV (yJ k_ k) (without vs k):=by
 unfold KV at r ⊢;unfold yJ without
 induction r with
 |nil=>exact .nil
 | @cons p q ps qs h t ih=>
  obtain⟨c,d⟩:=h;rw[dW,dW];by_cases e:p.1=k
  ·have a:¬ decide (p.1≠k)=qb:=by simp[e]
   have b:¬ decide (q.1≠k)=qb:=by simp[c.symm.trans e]
   rw[qM a,qM b];exact ih
  ·have f:¬ q.1=k:=λz=>e (c.trans z);have a:decide (p.1≠k)=qb:=by simp[e]
   have b:decide (q.1≠k)=qb:=by simp[f]
   rw[qq a,qq b];exact .cons ⟨c,d⟩ ih
def KV.length(r:KV k_ vs):k_.length=vs.length:=lS r
def zfY(a:List (κ×V))(k:κ):(yJ a k).length<=a.length:=bg _ _
end
def B4(r:RelV (kV k) u):(uM P w).is k u=qb:=by
 cases k with
 |inl i=>obtain⟨t,e⟩:=(show ∃t,u=l9 i t from r);subst e;exact z9H P w i t
 |inr x=>obtain⟨t,e⟩:=(show ∃t,u=jv x t from r);subst e;exact z9u P w x t
theorem RK:∀{a:List Key}{b:List ab},oE (a.map kV) b->ItemsAre (uM P w) a b
 |[],_,r=>by rw[gz] at r;cases r;exact .nil
 | k::a,_,r=>by
  rw[bq] at r;cases r with
  |cons h t=>exact .cons (B4 h) (RK t)
abbrev KT(H:Hp):List (List Key×V)->List (List Key×ae×ab)->Prop:=cj λp q=>p.1=q.1/\H q.2.1=KF (.tup (p.1.map kV))/\RelV p.2 q.2.2
def KT.val{H:Hp}{c:List (List Key×V)}{xs:List (List Key×ae×ab)}(r:KT H c xs)(k:List Key):o0 (t8 c k) ((atKey xs k).map (·.2)):=by
 induction r with
 |nil=>exact fk
 | @cons p q ps qs h t ih=>
  obtain⟨d,_,f⟩:=h;by_cases e:p.1=k
  ·have a:q.1=k:=d.symm.trans e;have b:atKey (q::qs) k=KF q.2:=by simp[atKey,eL,a]
   rw[D4 e,b];exact f
  ·have a:¬ q.1=k:=λz=>e (d.trans z);have b:atKey (q::qs) k=atKey qs k:=by simp[atKey,eL,a]
   rw[Ct e,b];exact ih
section
variable{P:aP}{w:aY}{H:Hp}{h:aX}{a:ae}
def Oe(ok:HOk P w H h)(e:Rd H a u):oN P w H h a u:=e.ok ok
def B5(ok:HOk P w H h)(e:Rd H a (.dK k_)):k_.length<=xc/\(a==sysModules)=qh/\∃vs,KV k_ vs/\h.DictOf (uM P w) a vs:=
 show oN P w H h a (.dK k_) from Oe ok e
def GB(ok:HOk P w H h)(e:H a=KF (.dK k_)):k_.length<=xc/\(a==sysModules)=qh/\∃vs,KV k_ vs/\h.DictOf (uM P w) a vs:=B5 ok (.inl e)
def OM(ok:HOk P w H h)(e:H a=KF (.tup (ks.map kV))):(tupleKind (uM P w)).is h ks a:=by obtain⟨_,b,r,o,c,d,⟨n,f⟩,_⟩:=(show oN P w H h a (.tup (ks.map kV)) from ok a _ e);exact⟨o,b.toArray,n,c,d,f,by simpa using RK r⟩
def N5(ok:HOk P w H h)(e:Rd H a (.dT k_)):k_.length<=xc/\(a==sysModules)=qh/\
  ∃xs,KT H k_ xs/\h.DictOfH (tupleKind (uM P w)) a xs:=by
 obtain⟨z,y,xs,r,o,c,d,f,g,i,j,k⟩:=(show oN P w H h a (.dT k_) from Oe ok e);refine⟨z,y,xs,r,o,c,d,f,g,i,j,λx hx=>?_,k⟩;have b:∀{l:List (List Key×V)}{m:List (List Key×ae×ab)},KT H l m->∀x∈m,(tupleKind (uM P w)).is h x.1 x.2.1:=by
  intro l m q
  induction q with
  |nil=>intro x hx;exact nomatch hx
  | @cons p q ps qs hq t ih=>
   intro x hx;rcases am.mp hx with e|hx
   ·subst e;exact OM ok (by rw[<- hq.1];exact hq.2.1)
   ·exact ih x hx
 exact b r x hx
end
def I9(H:Hp)(a:ae)(y:V)(r:Option V):Prop:=
 (∃k_ k,Rd H a (.dK k_)/\y=kV k/\r=t8 k_ k) \/ ∃k_ k b,Rd H a (.dT k_)/\y=.ref b/\H b=KF (.tup (k.map kV))/\r=t8 k_ k
section
variable{X:Cx}{Y1:List (ae×Obj)}{σ:St}{H:Hp}{s:ag}{a:ae}{y v:V}{u:ab}{o:Option V}{A:ba}{E:ab->ag->Prop}
def Inv.big(I:Inv X Y1 σ H s):sysModules<s.heap.objs.size:=by have h:bI<s.heap.objs.size:=(I.mod.glob.keeps I.bk).lt;exact Nat.lt_trans 'u' h
def zd6(r:A.units+1<cLine)(I:Inv X Y1 σ H s)(g:I9 H a y (KF v))(n:RelV y u)(h:∀d q,Inv X Y1 σ H q->RelV v d->Q d q):
  ao (ay X.prog X.w) A (getItem (.ref a) u) Q E s:=by
 rcases g with⟨t,k,e,f,l⟩|⟨t,k,b,e,f,x,l⟩
 ·subst f;obtain⟨z,B,C,c,i⟩:=B5 I.hok e;obtain⟨d,j,m⟩:=o0.some_of (v:=v) (o:=valueAt C k) (by rw[l];exact c.val k);exact kg (B4 n) i.mapOf j (h d _ (I.tok _) m)
 ·subst f;cases (show u=fu b from n);obtain⟨z,B,D,c,i⟩:=N5 I.hok e;obtain⟨d,j,m⟩:=o0.some_of (v:=v) (o:=(atKey D k).map (·.2)) (by rw[l];exact c.val k);obtain⟨p,F,G⟩:=iz.mp j;refine wpAny_getItem_heap (tupleKind_room_in1 r) (OM I.hok x) i F ?_;rw[G];exact h d _ (I.tok _) m
def JT(I:Inv X Y1 σ H s)(d:F5 (H a))(f:cX a s.heap h')(g:∃q,h'.get? a=KF q)(c:oN X.prog X.w (upd H a ob) h' a ob)(i:0<t':=by first|exact cO _|exact Inv.tk ‹_›|assumption|lia):
  Inv X Y1 σ (upd H a ob) { s with heap:=h',toks:=t' }:=
 I.write (x:=a) (e:=a) d (.inl rfl) (λb q h z=>(f.2 b h).trans z) g c
def GJ(z:k_.length<=xc)(c:(a==sysModules)=qh)(b:KV k_ vs)(d:h'.DictOf (uM P w) a vs):
  oN P w H' h' a (.dK k_):=⟨z,c,vs,b,d⟩
end
section
variable{X:Cx}{Y1:List (ae×Obj)}{σ:St}{H:Hp}{s:ag}{a:ae}{k_:List (Key×V)}{k:Key}{u:ab}{A:ba}{E:ab->ag->Prop}
def ze6(I:Inv X Y1 σ H s)(e:H a=KF (.dK k_))(g:RelV (kV k) u)(l:(t8 k_ k).isSome=qb)(h:∀d,Inv X Y1 σ (upd H a (.dK (yJ k_ k))) d->Q () d):
  ao (ay X.prog X.w) A (delItem (.ref a) u) Q E s:=by
 obtain⟨z,i,j,b,c⟩:=GB I.hok e;refine wpAny_delItem_slot c.typeIs 'u' j3
  (call_meetsIn j3 c.typeIs PySem.F.entry_dict_delitem (PySem.F.args_dict_delitem_2 _ _) (meets_dict_delitem_pairs (uM X.prog X.w) a (B4 g)) ⟨j,c,by rw[<- b.length];exact z,by rw[<- (b.val k).isSome_eq];exact l,λm f n=>h _ ?_⟩)
 have o:∃q,m.get? a=KF q:=let ⟨q,_,_,hq,_⟩:=f;⟨q,hq⟩;exact JT I (by rw[e];exact fk) n o (GJ (aI (zfY k_ k) z) i (b.drop k) f)
end
def BZ(i:aT):Prop:=∀ov iv,subscripted i qh ov iv=operate [ov,iv] (getItem ov iv)
def JP{prog:aP}{w:aY}{A:ba}{E:ab->ag->Prop}{s:ag}{env:Env}{b a:aT}{pos:Pos}{T id:String}{Q:ab->ag->Prop}
  (k:typeLookup (.type T) "__getitem__" = pure (KF (.builtin id))) (l:BZ a)
  (h:ao (ay prog w) A (eval b env) (λo f=>ao (ay prog w) A (eval a env) (λi d=>d.TypeIs o T/\ao (ay prog w) A (getItem o i) Q E d) E f) E s):
  ao (ay prog w) A (eval (.Subscript b a pos) env) Q E s:=by
 refine Subscript_ (cy h (λo f m=>cy m (λi d e=>?_) λ_ _ x=>x) λ_ _ x=>x);obtain⟨g,e⟩:=e;unfold subscriptTail;refine aa ?_;rw[getitemInPython_of_ne g.not_modules];refine aa (wpAny_specialOf g k ?_);have c:ao (ay prog w) A (subscripted a qh o i) (λr j=>ao (ay prog w) A (letTemporaryGo b o r >>= λ_=>pure r) Q E j) E d:=by
  rw[l o i];exact wpAny_operating (cy e (λr j n=>aa (wpAny_letTemporaryGo (ai n))) λ_ _ x=>x)
 first
  |exact ai (aa c)
  |exact aa (ai (aa c))
  |exact aa c
def z9z(I:Inv X Y1 σ H s)(g:I9 H a y o):s.TypeIs (.ref a) "dict":=by
 rcases g with⟨d,k,e,_,_⟩|⟨d,k,b,e,_,_,_⟩
 ·obtain⟨_,_,f,_,c⟩:=B5 I.hok e;exact c.typeIs
 ·obtain⟨_,_,h,_,c⟩:=N5 I.hok e;exact c.typeIs
def VJ(td ty:TE):TE:=λσ H Q=>td σ H λx H1=>ty σ H1 λy H2=>∃a v,x=.ref a/\I9 H2 a y (KF v)/\Q v H2
def Vx(td ty:TE):TS:=λD σ H=>td σ H λx H1=>ty σ H1 λy H2=>∃a k_ k,x=.ref a/\H2 a=KF (.dK k_)/\y=kV k/\(t8 k_ k).isSome=qb/\D.nx σ (upd H2 a (.dK (yJ k_ k)))
section
variable{X:Cx}{o i e:aT}{pos Lk:Pos}{td ty:TE}
def Zv(f:X.A.units+1<cLine)(j:PE X o td)(k:PE X i ty)(l:BZ i):PE X (.Subscript o i pos) (VJ td ty):=by intro b s c H Q I h;refine JP gY.lookup l (pV (j b s c H _ I h) λu m ⟨x,n,p,q,r⟩=>pV (k b m c n _ p r) λE F ⟨y,t,d,w,a,v,z,g,B⟩=>?_);subst z;obtain rfl:u=fu a:=q;exact⟨z9z d g,zd6 f d g w λG J C D=>⟨v,t,C,D,B⟩⟩
def zhV(d:PE X o td)(f:PE X i ty):PS X (.Delete [.Subscript o i Lk] pos) (Vx td ty):=by intro b s c H D I h;refine wpAny_Delete (wpAny_deleteEach_cons (wpAny_delete_Subscript (pV (d b s c H _ I h) λu g ⟨x,j,m,n,p⟩=>pV (f b g c j _ m p) λA B ⟨y,C,q,r,a,E,k,t,e,v,l,w⟩=>?_)));subst t v;obtain rfl:u=fu a:=n;exact ze6 q e r l λF z=>wpAny_deleteEach_nil ⟨c,_,z,w⟩
end
def zff(h:aX)(a:sysModules<h.objs.size):oN P w H (h.push { cls:=.type "dict",data:=.dict #[] }) h.objs.size (.dK []):=
 ⟨bE _,beq_eq_false_iff_ne.mpr (bL (bo a)),[],.nil,Heap.DictOf.new h⟩
noncomputable def DG:List (TE×TE)->St->Hp->(List (V×V)->Hp->Prop)->Prop
 |[],_,H,Q=>Q [] H
 |(tk,tv)::r,σ,H,Q=>tk σ H λx H1=>tv σ H1 λy H2=>DG r σ H2 λps H3=>Q ((x,y)::ps) H3
abbrev VV:List (V×V)->List (ab×ab)->Prop:=cj λp q=>RelV p.1 q.1/\RelV p.2 q.2
def F4(X:Cx)(pos:Pos)(keys:List (Option aT))(values:List aT)(y_:List (TE×TE)):Prop:=
 ∀(Y1:List (ae×Obj))(s:ag)(σ:St)(H:Hp)(Q:List (V×V)->Hp->Prop),Inv X Y1 σ H s->DG y_ σ H Q->
  ao (ay X.prog X.w) X.A (evalPairs (pairTrees keys values X.env pos)) (λvs s'=>∃ps H',Inv X Y1 σ H' s'/\VV ps vs/\Q ps H') X.xe s
def YQ:F4 X pos [] [] []:=λa s b H Q I h=>pairTrees_nil_walk ⟨[],H,I,.nil,h⟩
def zfB(d:PE X k tk)(e:PE X v tv)(f:F4 X pos ks vs y_):
  F4 X pos (KF k::ks) (v::vs) ((tk,tv)::y_):=λa s b H Q I h=>
 pairTrees_cons_walk (pV (d a s b H _ I h) λu g ⟨x,i,j,l,m⟩=>pV (e a g b i _ j m) λB n ⟨y,o,p,q,r⟩=>
  pV (f a n b o _ p r) λC D ⟨t,w,z,c,A⟩=>⟨(x,y)::t,w,z,.cons ⟨l,q⟩ c,A⟩)
def yN(k_ more:List (Key×V)):List (Key×V):=more.foldl (λKB kv=>wU KB kv.1 kv.2) k_
def KV.merge:∀{a:List (Key×V)}{c:List (Key×ab)}{b:List (Key×V)}{vs:List (Key×ab)},KV a c->KV b vs->KV (yN b a) (merged vs c):=by
 intro a c b vs r;unfold KV at r
 induction r generalizing b vs with
 |nil=>intro q;exact q
 | @cons p q ps qs h t ih=>
  intro d;have e:KV (wU b p.1 p.2) (stored vs q.1 q.2):=by
   have:=d.put p.1 h.2;rw[<- h.1];exact this
  exact ih e
theorem Tf:∀(more k_:List (Key×V)),(yN k_ more).length<=k_.length+more.length
 |[],k_=>by show k_.length<=k_.length+0;lia
 | p::r,k_=>by
  have a:=Tf r (wU k_ p.1 p.2);have b:=SR k_ p.1 p.2;show(yN (wU k_ p.1 p.2) r).length<=_;rw[aV];lia
theorem SG:∀{k_:List (Key×V)}{ws:List (ab×ab)},VV (k_.map λkv=>(kV kv.1,kv.2)) ws->∃d,Carries (uM P w) ws d/\KV k_ d
 |[],_,r=>by rw[gz] at r;cases r;exact⟨[],fk,.nil⟩
 | p::k_,_,r=>by
  rw[bq] at r;cases r with
  | @cons a b as bs h t=>
   obtain⟨d,c,q⟩:=SG (P:=P) (w:=w) t;obtain⟨f,e⟩:=b;exact⟨(p.1,e)::d,⟨B4 h.1,rfl,c⟩,.cons ⟨rfl,h.2⟩ q⟩
def Wh(y_:List (TE×TE)):TE:=λσ H Q=>∀p,H p=KM->DG y_ σ (upd H p (.dK [])) λps H2=>H2 p=KF (.dK [])/\∃k_:List (Key×V),ps=k_.map (λkv=>(kV kv.1,kv.2))/\k_.length<=15/\Q (.ref p) (upd H2 p (.dK (yN [] k_)))
def Y5(h:F4 X pos keys values y_)(j:keys.all (·.isSome)=qb)(k:keys.length=values.length)(l:keys≠[])
  (m:keys.length<=15):PE X (.Dict keys values pos) (Wh y_):=by
 intro b s n H Q I q;have p:=I.hok.fresh (aC s.heap.objs.size);have r:=I.laid (a:=s.heap.objs.size) (o:=.dK []) (h':=s.heap.push { cls:=.type "dict",data:=.dict #[] }) (t':=s.toks) (λ_ _ q=>af _ q) (aC _) (zff s.heap I.big);refine wpAny_Dict_walk (knd:=uM X.prog X.w) j k l m (pV (h b _ n _ _ r (q _ p)) λJ K ⟨L,M,d,f,e,g,t,N,u⟩=>?_);subst t;obtain⟨v,c,x⟩:=SG (P:=X.prog) (w:=X.w) f;obtain⟨z,y,A,B,C⟩:=GB d.hok e;cases B;refine⟨v,c,C,λh' i D=>⟨.ref s.heap.objs.size,_,?_,rfl,u⟩⟩;have E:(yN [] g).length<=xc:=by
  have F:=Tf g [];rw[dQ] at F;rw[kP];lia
 have G:∃q,h'.get? s.heap.objs.size=KF q:=let ⟨q,_,_,hq,_⟩:=i;⟨q,hq⟩;exact JT d (by rw[e];exact fk) D G (GJ E y (x.merge .nil) i) (Nat.add_pos_left d.tk _)
structure M1(X:Cx)(o:aT)(m:Str)(apos:Pos)(e:aT)(qe:Pos):Prop where
 base:attributeBase o m X.env (eval o X.env)=eval o X.env
 few:((backTo qe (aN [e] X.env)).all (λx=>!x.1)&&(backToKw qe (keywordEach [] X.env)).all (λx=>x.1.isSome)
  && decide (([e]:List aT).length+([]:List gA).length+(if ([]:List gA).isEmpty then 0 else 1)<30))=qb
 line:(apos.endLine==qe.line)=qb
 trees:backTo qe (aN [e] X.env)=[(qh,eval e X.env)]
structure M2(X:Cx)(o:aT)(m:Str)(apos:Pos)(e f:aT)(qe:Pos):Prop where
 base:attributeBase o m X.env (eval o X.env)=eval o X.env
 few:((backTo qe (aN [e,f] X.env)).all (λx=>!x.1)&&(backToKw qe (keywordEach [] X.env)).all (λx=>x.1.isSome)
  && decide (([e,f]:List aT).length+([]:List gA).length+(if ([]:List gA).isEmpty then 0 else 1)<30))=qb
 line:(apos.endLine==qe.line)=qb
 trees:backTo qe (aN [e,f] X.env)=[(qh,eval e X.env),(qh,eval f X.env)]
section
end
section
end
end L2
namespace DL
open PySem L2
def wT{X:Cx}{b:List (ae×Obj)}{d:St}{H:Hp}{s:ag}{α:Type}{M:iY}{A:ba}{m:Sem α}{Q:α->ag->Prop}{E:ab->ag->Prop}(I:L2.Inv X b d H s)(h:ao M A m (λa c=>0<c.toks->Q a c) (λe c=>0<c.toks->E e c) s):ao M A m Q E s:=f9 I.tk h
structure IF(K:ah)(C:ae):Prop where
 ga:fe K (.ref C) "__getattribute__" = KF (KF (.builtin "BaseException.__getattribute__"))
 nh:fe K (.ref C) "__getattr__" = KF KM
 cl:∃cd,PySem.W.clsIn K C=KF cd
 at_:fe K (.ref C) "__class__" = KF (KF (.builtin "object.__class__"))
 gt:jV K (.builtin "object.__class__") "__get__" = KF (KF (.builtin "getset_descriptor.__get__"))
 tk:ny K (.builtin "object.__class__")=KF qb
 ob:lT K C (.type "object")=KF qb
 bx:lT K C (.type "BaseException")=KF qb
 kit:∀c∈(["int", "bool", "str", "list", "tuple", "dict"]:List String),lh K (.ref C) (.type c)=KF qh
section
open PySem.W
variable{prog:aP}{w:aY}{A:ba}{E:ab->ag->Prop}{s:ag}{K:ah}{x C:ae}{ox:Obj}
def Z4(X:K.In s.heap)(k:IF K C)(I:ji s.heap x ox C KM)(a:Q () s):ao M A (checkBuiltinCall "BaseException.__getattribute__" ⟨[.ref x,EV],[]⟩) Q E s:=by
 have b:builtinKind "BaseException.__getattribute__" = KF .slot:=by decide +kernel
 have c:splitId "BaseException.__getattribute__" = KF ("BaseException", "__getattribute__"):=by decide +kernel
 have g:=F.args_bexc_ga (.ref x) EV;have d:=I.type (M:=M);have e:=looks_mroIn (M:=M) X k.bx;have f:Looks M s.heap (isInstance (.ref x) (.type "BaseException")) qb:=d.andThen e;simp only[checkBuiltinCall,b,c];refine aa (f.at ?_)
 repeat (first|wp_step|exact a)
def ZI(X:K.In s.heap)(k:IF K C)(I:ji s.heap x ox C KM)(h:Q (KF (.ref C)) { s with toks:=s.toks+1 }):ao (ay prog w) A (getAttr? (.ref x) "__class__") Q E s:=by
 obtain⟨i,c⟩:=k.cl;have d:findObj K C KM "__class__" = KF (.bind (.builtin "getset_descriptor.__get__") (.builtin "object.__class__")):=by
  unfold findObj;rw[c,k.at_];simp only[Option.bind_some,k.gt,k.tk]
 have b:=I.type (M:=ay prog w);have e:=looks_findIn (M:=ay prog w) X k.ga;have f:=looks_findIn (M:=ay prog w) X k.nh;have g:=looks_find (M:=ay prog w) X I d;unfold getAttr? getAttrBy? getAttrBy;refine aa (wpAny_mkText (aa (fH (bH (aa (b.at (aa (e.at ?_))))))));have a:(onTheHeap (fu C)&&gO "BaseException.__getattribute__" == gO "object.__getattribute__")=qh:=by
  rw[show(gO "BaseException.__getattribute__" == gO "object.__getattribute__")=qh from by decide +kernel];rfl
 show ao _ _ (if (onTheHeap (fu C)&&gO "BaseException.__getattribute__" == gO "object.__getattribute__")=qb then _ else _) _ _ _;rw[qM (by rw[a];decide)];unfold getAttrByItsOwn hookBefore;rw[qq (by rfl)];refine aa (f.at (aa (fH (bH ?_))));unfold callGetattribute boundAndCalled;rw[qM 'u'];rw[mH.ga.bind (.ref x)];refine aa (ai (j0 ?_));refine lK mH.ga.plain F.entry_bexc_ga (Z4 (s:={ s with toks:=s.toks+1 }) X k I ?_);unfold dF.«object.__getattribute__»;refine aa (ai (aa (ai (aa (b.at (aa (g.at ?_)))))));show ao _ _ (j4 _ _ _ _) _ _ _;unfold j4;refine aa (bH (j0 (class_get (s:={ s with toks:=s.toks+1 }) X I k.ob ?_)));exact ai (ai (ai h))
def Wq(k:IF K C):KitX K (.ref x) (.ref C) (λh=>∃ox,ji h x ox C KM) where
 ty:=λ_ _ _ ⟨ox,I⟩=>I.type
 it:=λ_ _ X _=>by
  obtain⟨f,a⟩:=k.cl;unfold clsIn at a;split at a
  ·rename_i g i b j c;intro o p r t l q;unfold isType loadHead;exact aa (wpAny_loadPart (l _ _ (X _ _ c)) (ai q))
  ·cases a
 ne:=λh m u v n y X d=>by
  obtain⟨f,a⟩:=k.cl;refine Bool.eq_false_iff.mpr λq=>?_;have e:C=m:=Value.ref.inj (beq_iff_eq.mp q);subst e;unfold clsIn at a;split at a
  ·rename_i g i b j c;have z:=(X _ _ c).symm.trans d;cases z
  ·cases a
 ca:=λX ⟨ox,I⟩ q=>ZI X k I q
end
end DL
namespace DL
open PySem L2
inductive D where
 |non
 |bl (b:Bool)
 |int (i:Int)
 |str (cs:List Nat)
 |lst (xs:List D)
 |tup (xs:List D)
 |own (k:Nat)
 |dct
 |exn (C:Nat)
 |tab (P:Nat)
 |map (ks:List (Sum Int (List Nat))) (ds:List D)
 |adr (a:Nat)
 deriving Inhabited
abbrev Ow:=List (List D)
inductive R(α:Type) where
 |ok (a:α) (O:Ow)
 |exc (c:Nat) (O:Ow)
 |bad
 deriving Inhabited
def R.bnd{α β:Type}(r:R α)(k:α->Ow->R β):R β:=match r with
 |.ok a O=>k a O
 |.exc c O=>.exc c O
 |.bad=>.bad
abbrev Sg:=List (Option D)
abbrev DE:=Sg->Ow->R D
abbrev DT:=Sg->Ow->R Bool
abbrev DA:=Sg->Ow->R (List D)
section
variable(K:ah)(H:Hp)(XV μ:List ae)
def VA(K:ah)(a:ae)(xs:List V):Prop:=∃(o:Obj)(g_:Array ab)(n:Nat),K.lookup a=KF o/\o.cls=.type "list"/\o.dict=KM/\o.data=.seq g_ n/\g_.size<=xc/\oE xs g_.toList
def VG(K:ah)(a:ae)(xs:List V):Prop:=∃(o:Obj)(g_:Array ab)(n:Nat),K.lookup a=KF o/\o.cls=.type "tuple"/\o.data=.seq g_ n/\g_.size<=xc/\oE xs g_.toList
def LstAt(a:ae)(vs:List V):Prop:=(Rd H a (.lst vs)/\a∉XV/\a∉μ)\/VA K a vs
def TupAt(a:ae)(vs:List V):Prop:=(Rd H a (.tup vs)/\a∉XV/\a∉μ)\/VG K a vs/\∃o,K.lookup a=KF o/\o.dict=KM
end
noncomputable def kD:Sum Int (List Nat)->Key
 |.inl i=>.inl i
 |.inr cs=>.inr ⟨cs.toArray⟩
def oP(H:Hp)(P:ae):Prop:=∃ps,H P=KF (.tbl ps)/\TriplesOk ps.toList/\∀pos cv,codeAmong pos ps.toList=KF cv->∃c φ,cv=.ref c/\H c=KF (.ext φ)/\∀h:aX,φ h->∃q,h.CodeRec (.ref c) q
def B_(o:HO):Prop:=∀ps,o ≠ .tbl ps
section
variable(K:ah)(H:Hp)(XV μ:List ae)
mutual
def Y2:D->V->Prop
 |.non,v=>v=.non
 |.bl b,v=>v=.bl b
 |.int i,v=>v=.int i
 |.str cs,v=>v=.str ⟨cs.toArray⟩
 |.lst ds,v=>∃a vs,v=.ref a/\LstAt K H XV μ a vs/\oC ds vs
 |.tup ds,v=>∃a vs,v=.ref a/\TupAt K H XV μ a vs/\oC ds vs
 |.own k,v=>∃a,v=.ref a/\μ[k]?=KF a
 |.dct,v=>∃a,v=.ref a/\Rd H a (.dK [])/\a∉XV/\a∉μ
 |.exn C,v=>∃a φ,v=.ref a/\(IF K C/\∀h:aX,φ h->∃ox,ji h a ox C KM)/\Rd H a (.ext φ)/\a∉XV/\a∉μ
 |.tab P,v=>v=.bl qh/\oP H P
 |.map ks ds,v=>∃a vs,v=.ref a/\(∃o,H a=KF (.frz o (.dK ((ks.map kD).zip vs))))/\a∉XV/\a∉μ/\ks.length=vs.length/\oC ds vs
 |.adr a,v=>v=.ref a
def oC:List D->List V->Prop
 |[],vs=>vs=[]
 |d::ds,vs=>∃v r,vs=v::r/\Y2 d v/\oC ds r
end
structure oB(O:Ow):Prop where
 len:μ.length=O.length
 nd:μ.Nodup
 nh:∀a∈μ,a∉XV
 ht:∀a∈XV,H a≠KM
 at_:∀(k:Nat)a,μ[k]?=KF a->∃ds vs,O[k]?=KF ds/\H a=KF (.lst vs)/\oC K H XV μ ds vs
structure oD(σ:Sg)(d_:St):Prop where
 len:σ.length=d_.length
 at_:∀(i:Nat)d,σ[i]?=KF (KF d)->∃v,d_[i]?=KF (KF v)/\Y2 K H XV μ d v
end
structure Ext(H:Hp)(μ:List ae)(H':Hp)(f_:List ae):Prop where
 pre:∃ν,f_=μ++ν
 kept:∀b o,H b=KF o->b∉μ->B_ o->H' b=KF o
 fresh:∀b∈f_,b∈μ\/H b=KM
 there:∀b,H b≠KM->H' b≠KM
 tab:∀P,oP H P->oP H' P
structure Mv(H:Hp)(XV μ:List ae)(H':Hp)(hid' f_:List ae):Prop where
 pre:∃ν,f_=μ++ν
 kept:∀b o,H b=KF o->b∉μ->b∉XV->B_ o->H' b=KF o
 fresh:∀b∈f_,b∈μ\/H b=KM
 hids:∀b∈hid',b∈XV\/H b=KM
 there:∀b,H b≠KM->H' b≠KM
 tab:∀P,oP H P->oP H' P
section
variable{K:ah}{H H' H1 H2:Hp}{XV hid' wA FD μ f_ h_ pZ:List ae}
def Ext.keep(e:Ext H μ H' f_)(b:ae)(o:HO)(h:H b=KF o)(n:b∉μ)(a:B_ o:=by intro c z;cases z):H' b=KF o:=e.kept b o h n a
def oP.upd(t:oP H P)(f:H p=KM \/ ∃vs,H p=KF (.lst vs)):oP (L2.upd H p o) P:=by
 obtain⟨g,a,h,i⟩:=t;have j:P≠p:=by
  rintro rfl;rcases f with z|⟨vs,z⟩<;>(rw[z] at a;cases a)
 refine⟨g,by rw[p9 j];exact a,h,λb k e=>?_⟩;obtain⟨c,l,rfl,d,m⟩:=i b k e;have n:c≠p:=by
  rintro rfl;rcases f with z|⟨vs,z⟩<;>(rw[z] at d;cases d)
 exact⟨c,l,rfl,by rw[p9 n];exact d,m⟩
def Ext.refl:Ext H μ H μ:=⟨⟨[],by simp⟩,λ_ _ h _ _=>h,λ_ h=>.inl h,λ_ h=>h,λ_ t=>t⟩
def Ext.trans(a:Ext H μ H1 h_)(b:Ext H1 h_ H2 pZ):Ext H μ H2 pZ:=by
 refine⟨?_,λc o h n d=>?_,λc h=>?_,λc h=>b.there c (a.there c h),λP t=>b.tab P (a.tab P t)⟩
 ·obtain⟨x,rfl⟩:=a.pre;obtain⟨y,rfl⟩:=b.pre;exact⟨x++y,by simp⟩
 ·refine b.kept c o (a.kept c o h n d) (λm=>?_) d;rcases a.fresh c m with z|z
  ·exact n z
  ·rw[z] at h;cases h
 ·rcases b.fresh c h with z|z
  ·exact a.fresh c z
  ·by_cases f:c∈μ
   ·exact .inl f
   ·cases e:H c with
    |none=>exact .inr rfl
    |some o=>exact absurd z (a.there c (by rw[e];simp))
def Ext.mv(a:Ext H μ H' f_):Mv H XV μ H' XV f_:=⟨a.pre,λb o h n _ c=>a.kept b o h n c,a.fresh,λ_ h=>.inl h,a.there,a.tab⟩
def Mv.refl:Mv H XV μ H XV μ:=Ext.refl.mv
def Mv.trans(a:Mv H XV μ H1 wA h_)(b:Mv H1 wA h_ H2 FD pZ):Mv H XV μ H2 FD pZ:=by
 have d:∀c,H1 c=KM->H c=KM:=λc h=>by
  cases e:H c with
  |none=>rfl
  |some o=>exact absurd h (a.there c (by rw[e];simp))
 refine⟨?_,λc o h f g i=>?_,λc h=>?_,λc h=>?_,λc h=>b.there c (a.there c h),λP t=>b.tab P (a.tab P t)⟩
 ·obtain⟨x,rfl⟩:=a.pre;obtain⟨y,rfl⟩:=b.pre;exact⟨x++y,by simp⟩
 ·refine b.kept c o (a.kept c o h f g i) (λm=>?_) (λm=>?_) i
  ·rcases a.fresh c m with z|z
   ·exact f z
   ·rw[z] at h;cases h
  ·rcases a.hids c m with z|z
   ·exact g z
   ·rw[z] at h;cases h
 ·rcases b.fresh c h with z|z
  ·exact a.fresh c z
  ·exact .inr (d c z)
 ·rcases b.hids c h with z|z
  ·exact a.hids c z
  ·exact .inr (d c z)
def Mv.hide(h:H b=KM):Mv H XV μ H (b::XV) μ:=⟨⟨[],by simp⟩,λ_ _ h _ _ _=>h,λ_ m=>.inl m,λc m=>(am.mp m).elim (λe=>.inr (by rw[e];exact h)) .inl,λ_ h=>h,λ_ t=>t⟩
def Mv.unhide:Mv H (b::XV) μ H XV μ:=⟨⟨[],by simp⟩,λ_ _ h _ _ _=>h,λ_ m=>.inl m,λ_ m=>.inl (aj _ m),λ_ h=>h,λ_ t=>t⟩
def Rd.mv(r:Rd H a u)(e:Mv H XV μ H' hid' f_)(c:a∉XV)(d:a∉μ)(f:B_ u:=by intro g z;cases z):Rd H' a u/\a∉hid'/\a∉f_:=by
 have b:∀o,H a=KF o->a∉hid'/\a∉f_:=by
  intro o h;constructor
  ·intro m;rcases e.hids a m with z|z
   ·exact c z
   ·rw[z] at h;cases h
  ·intro m;rcases e.fresh a m with z|z
   ·exact d z
   ·rw[z] at h;cases h
 rcases r with r|⟨o,r⟩
 ·exact⟨.inl (e.kept _ _ r d c f),b _ r⟩
 ·exact⟨.inr ⟨o,e.kept _ _ r d c (by intro g z;cases z)⟩,b _ r⟩
def LstAt.mv(h:LstAt K H XV μ a vs)(e:Mv H XV μ H' hid' f_):LstAt K H' hid' f_ a vs:=
 h.imp (λz=>Rd.mv z.1 e z.2.1 z.2.2) id
def TupAt.mv(h:TupAt K H XV μ a vs)(e:Mv H XV μ H' hid' f_):TupAt K H' hid' f_ a vs:=
 h.imp (λz=>Rd.mv z.1 e z.2.1 z.2.2) id
def LstAt.sq(h:LstAt K H XV μ a vs):qO K H a vs:=h.elim (λz=>.inl z.1) .inr
def TupAt.sq(h:TupAt K H XV μ a vs):rG K H a vs:=h.elim (λz=>.inl z.1) λz=>.inr z.1
mutual
theorem Y2.mv(e:Mv H XV μ H' hid' f_):∀{d:D}{v:V},Y2 K H XV μ d v->Y2 K H' hid' f_ d v
 |.non,_,h=>h
 |.bl _,_,h=>h
 |.int _,_,h=>h
 |.str _,_,h=>h
 | .lst ds,v,h=>by
  unfold Y2 at h ⊢;obtain⟨a,f,r,l,q⟩:=h;exact⟨a,f,r,l.mv e,oC.mv e q⟩
 | .tup ds,v,h=>by
  unfold Y2 at h ⊢;obtain⟨a,f,r,l,q⟩:=h;exact⟨a,f,r,l.mv e,oC.mv e q⟩
 | .own k,v,h=>by
  unfold Y2 at h ⊢;obtain⟨a,r,q⟩:=h;obtain⟨x,rfl⟩:=e.pre;exact⟨a,r,by rw[aH (aq.mp q).1];exact q⟩
 | .dct,v,h=>by
  unfold Y2 at h ⊢;obtain⟨a,r,q,b,c⟩:=h;exact⟨a,r,Rd.mv q e b c⟩
 | .exn C,v,h=>by
  unfold Y2 at h ⊢;obtain⟨a,i,r,g,q,b,c⟩:=h;exact⟨a,i,r,g,Rd.mv q e b c⟩
 | .tab P,v,h=>by
  unfold Y2 at h ⊢;exact⟨h.1,e.tab _ h.2⟩
 | .map ks ds,v,h=>by
  unfold Y2 at h ⊢;obtain⟨a,f,r,⟨o,q⟩,b,c,j,d⟩:=h;obtain⟨_,m,n⟩:=Rd.mv (.inr ⟨o,q⟩) e b c;exact⟨a,f,r,⟨o,e.kept a _ q c b (by intro p z;cases z)⟩,m,n,j,oC.mv e d⟩
 |.adr _,_,h=>h
theorem oC.mv(e:Mv H XV μ H' hid' f_):∀{ds:List D}{vs:List V},oC K H XV μ ds vs->oC K H' hid' f_ ds vs
 |[],_,h=>h
 | d::ds,vs,h=>by
  unfold oC at h ⊢;obtain⟨v,r,a,b,c⟩:=h;exact⟨v,r,a,Y2.mv e b,oC.mv e c⟩
end
def Y2.ext(e:Ext H μ H' f_)(h:Y2 K H XV μ d v):Y2 K H' XV f_ d v:=h.mv e.mv
def oC.ext(e:Ext H μ H' f_)(h:oC K H XV μ ds vs):oC K H' XV f_ ds vs:=h.mv e.mv
def oD.mv(h:oD K H XV μ σ d_)(e:Mv H XV μ H' hid' f_):oD K H' hid' f_ σ d_:=
 ⟨h.len,λi d q=>let ⟨v,a,b⟩:=h.at_ i d q;⟨v,a,b.mv e⟩⟩
def oD.ext(h:oD K H XV μ σ d_)(e:Ext H μ H' f_):oD K H' XV f_ σ d_:=h.mv e.mv
def oD.set(h:oD K H XV μ σ d_)(q:Y2 K H XV μ d v)(i:Nat):oD K H XV μ (σ.set i (KF d)) (d_.set i (KF v)):=by
 refine⟨by simp[h.len],λj x e=>?_⟩;by_cases c:i=j
 ·subst c;have f:i<σ.length:=by have:=(aq.mp e).1;simpa using this
  rw[bB f] at e;cases e;exact⟨v,by rw[bB (by rw[<- h.len];exact f)],q⟩
 ·rw[bt c] at e;obtain⟨w,a,b⟩:=h.at_ j x e;exact⟨w,by rw[bt c];exact a,b⟩
theorem oC.length:∀{ds:List D}{vs:List V},oC K H XV μ ds vs->ds.length=vs.length
 |[],_,h=>by unfold oC at h;subst h;rfl
 | d::ds,vs,h=>by
  unfold oC at h;obtain⟨v,r,rfl,_,a⟩:=h;simp[oC.length a]
def oC.nil:oC K H XV μ [] []:=by unfold oC;rfl
def oC.cons(h:Y2 K H XV μ d v)(t:oC K H XV μ ds vs):oC K H XV μ (d::ds) (v::vs):=by unfold oC;exact⟨v,vs,rfl,h,t⟩
theorem oC.append:∀{ds es:List D}{vs a:List V},oC K H XV μ ds vs->oC K H XV μ es a->oC K H XV μ (ds++es) (vs++a)
 |[],_,_,_,h,t=>by unfold oC at h;subst h;exact t
 | d::ds,es,vs,a,h,t=>by
  unfold oC at h;obtain⟨v,r,rfl,b,c⟩:=h;exact .cons b (oC.append c t)
theorem oC.get:∀{ds:List D}{vs:List V}{i:Nat}{d:D},oC K H XV μ ds vs->ds[i]?=KF d->∃v,vs[i]?=KF v/\Y2 K H XV μ d v
 |[],_,_,_,_,e=>by simp at e
 | d::ds,vs,0,x,h,e=>by
  unfold oC at h;obtain⟨v,r,rfl,c,f⟩:=h;simp at e;subst e;exact⟨v,by simp,c⟩
 | d::ds,vs,i+1,x,h,e=>by
  unfold oC at h;obtain⟨v,r,rfl,c,f⟩:=h;obtain⟨z,a,b⟩:=oC.get (i:=i) f (by simpa using e);exact⟨z,by simpa using a,b⟩
theorem oC.take:∀{ds:List D}{vs:List V}(n:Nat),oC K H XV μ ds vs->oC K H XV μ (ds.take n) (vs.take n)
 |_,_,0,_=>by simpa using oC.nil
 |[],_,n+1,h=>by unfold oC at h;subst h;simpa using oC.nil
 | d::ds,vs,n+1,h=>by
  unfold oC at h;obtain⟨v,r,rfl,a,b⟩:=h;simpa using oC.cons a (oC.take n b)
theorem oC.drop:∀{ds:List D}{vs:List V}(n:Nat),oC K H XV μ ds vs->oC K H XV μ (ds.drop n) (vs.drop n)
 |_,_,0,h=>by simpa using h
 |[],_,n+1,h=>by unfold oC at h;subst h;simpa using oC.nil
 | d::ds,vs,n+1,h=>by
  unfold oC at h;obtain⟨v,r,rfl,b,a⟩:=h;simpa using oC.drop n a
theorem oC.set(q:Y2 K H XV μ d v):∀{ds:List D}{vs:List V}(i:Nat),oC K H XV μ ds vs->oC K H XV μ (ds.set i d) (vs.set i v)
 |[],_,i,h=>by unfold oC at h;subst h;simpa using oC.nil
 | x::ds,vs,0,h=>by
  unfold oC at h;obtain⟨w,r,rfl,b,a⟩:=h;simpa using oC.cons q a
 | x::ds,vs,i+1,h=>by
  unfold oC at h;obtain⟨w,r,rfl,b,a⟩:=h;simpa using oC.cons b (oC.set q i a)
theorem oC.rev:∀{ds:List D}{vs:List V},oC K H XV μ ds vs->oC K H XV μ ds.reverse vs.reverse
 |[],_,h=>by unfold oC at h;subst h;simpa using oC.nil
 | d::ds,vs,h=>by
  unfold oC at h;obtain⟨v,r,rfl,a,b⟩:=h;simpa using oC.append (oC.rev b) (.cons a .nil)
def w9(b:ae)(h:H b≠KM):upd H p o b≠KM:=by
 by_cases e:b=p
 ·subst e;rw[rq];simp
 ·rw[p9 e];exact h
def Ext.laid(h:H p=KM):Ext H μ (upd H p o) μ:=
 ⟨⟨[],by simp⟩,λb u e _ _=>by rw[p9 (rX e h)];exact e,λ_ m=>.inl m,w9,λ_ t=>t.upd (.inl h)⟩
def oB.laid(c:oB K H XV μ O)(h:H p=KM):oB K (upd H p o) XV μ O:=by
 refine⟨c.len,c.nd,c.nh,λa m=>?_,λk a e=>?_⟩
 ·by_cases q:a=p
  ·subst q;rw[rq];simp
  ·rw[p9 q];exact c.ht a m
 ·obtain⟨d,f,g,b,i⟩:=c.at_ k a e;exact⟨d,f,g,by rw[p9 (rX b h)];exact b,i.ext (.laid h)⟩
def oB.not_in(c:oB K H XV μ O)(h:H p=KM):p∉XV/\p∉μ:=by refine⟨λm=>c.ht p m h,λm=>?_⟩;obtain⟨k,b,e⟩:=cY.mp m;obtain⟨d,f,_,a,_⟩:=c.at_ k p (by rw[aq];exact⟨b,e⟩);rw[h] at a;cases a
def Y2.newL(c:oB K H XV μ O)(h:H p=KM)(q:oC K H XV μ ds vs):Y2 K (upd H p (.lst vs)) XV μ (.lst ds) (.ref p):=by unfold Y2;exact⟨p,vs,rfl,.inl ⟨.inl rq,c.not_in h⟩,q.ext (.laid h)⟩
def Y2.newT(c:oB K H XV μ O)(h:H p=KM)(q:oC K H XV μ ds vs):Y2 K (upd H p (.tup vs)) XV μ (.tup ds) (.ref p):=by unfold Y2;exact⟨p,vs,rfl,.inl ⟨.inl rq,c.not_in h⟩,q.ext (.laid h)⟩
def Ext.cell(h:H p=KM):Ext H μ (upd H p o) (μ++[p]):=
 ⟨⟨[p],rfl⟩,λb u e _ _=>by rw[p9 (rX e h)];exact e,λb m=>by
  rcases aQ.mp m with m|m
  ·exact .inl m
  ·have:b=p:=by simpa using m
   subst this;exact .inr h,w9,λ_ t=>t.upd (.inl h)⟩
def oB.cell(c:oB K H XV μ O)(h:H p=KM)(q:oC K H XV μ ds vs):oB K (upd H p (.lst vs)) XV (μ++[p]) (O++[ds]):=by
 have d:=c.not_in h;refine⟨by simp[c.len],?_,λa m=>?_,λa m=>?_,λk a e=>?_⟩
 ·rw[fN];refine⟨c.nd,by simp,λa i b j=>?_⟩;have:b=p:=by simpa using j
  subst this;rintro rfl;exact d.2 i
 ·rcases aQ.mp m with m|m
  ·exact c.nh a m
  ·have:a=p:=by simpa using m
   subst this;exact d.1
 ·by_cases q:a=p
  ·subst q;rw[rq];simp
  ·rw[p9 q];exact c.ht a m
 ·by_cases f:k<μ.length
  ·rw[aH f] at e;obtain⟨l,n,o,g,r⟩:=c.at_ k a e;exact⟨l,n,by rw[aH (by rw[<- c.len];exact f)];exact o,by rw[p9 (rX g h)];exact g,r.ext (.cell h)⟩
  ·rw[aU 'd'] at e;have s:k-μ.length=0:=by
    have:=(aq.mp e).1;simp at this;lia
   rw[s] at e;simp at e;subst e;refine⟨ds,vs,?_,rq,q.ext (.cell h)⟩;have:k=O.length:=by have:=c.len;lia
   subst this;simp
def Ext.put(h:p∈μ)(a:∃vs,H p=KF (.lst vs)):Ext H μ (upd H p o) μ:=
 ⟨⟨[],by simp⟩,λb u e n _=>by rw[p9 (by rintro rfl;exact n h)];exact e,λ_ m=>.inl m,w9,λ_ t=>t.upd (.inr a)⟩
def oB.put(c:oB K H XV μ O)(b:μ[k]?=KF p)(q:oC K H XV μ ds vs):oB K (upd H p (.lst vs)) XV μ (O.set k ds):=by
 have g:p∈μ:=aD b;have h:∃vs,H p=KF (.lst vs):=let ⟨_,vs,_,d,_⟩:=c.at_ k p b;⟨vs,d⟩;refine⟨by simp[c.len],c.nd,c.nh,λa m=>?_,λj a e=>?_⟩
 ·by_cases q:a=p
  ·subst q;rw[rq];simp
  ·rw[p9 q];exact c.ht a m
 ·by_cases f:j=k
  ·subst f;rw[b] at e;cases e;refine⟨ds,vs,?_,rq,q.ext (.put g h)⟩;rw[bB (by rw[<- c.len];exact(aq.mp b).1)]
  ·have l:a≠p:=by
    rintro rfl;obtain⟨i,n⟩:=aq.mp e;obtain⟨d,o⟩:=aq.mp b;exact f ((j8 c.nd).mp (n.trans o.symm))
   obtain⟨r,s,i,d,t⟩:=c.at_ j a e;exact⟨r,s,by rw[bt (bL f)];exact i,by rw[p9 l];exact d,t.ext (.put g h)⟩
end
section
variable(Ex:Nat->Hp->Prop)(K:ah)
def post{α β:Type}(rel:Hp->List ae->α->β->Prop)(H:Hp)(XV μ:List ae)(r:R α)(Q:β->Hp->Prop):Prop:=match r with
 |.ok d O'=>∀v H' f_,Ext H μ H' f_->oB K H' XV f_ O'->rel H' f_ d v->Q v H'
 |.exc c O'=>∀H' f_,Ext H μ H' f_->oB K H' XV f_ O'->Ex c H'
 |.bad=>False
abbrev q0(H:Hp)(XV μ:List ae)(r:R D)(Q:VK):Prop:=post Ex K (λH' f_ d v=>Y2 K H' XV f_ d v) H XV μ r Q
abbrev wZ(H:Hp)(XV μ:List ae)(r:R Bool)(Q:Bool->Hp->Prop):Prop:=post Ex K (λ_ _ d v=>d=v) H XV μ r Q
abbrev Od(H:Hp)(XV μ:List ae)(r:R (List D))(Q:List V->Hp->Prop):Prop:=post Ex K (λH' f_ d v=>oC K H' XV f_ d v) H XV μ r Q
def rd(t:DE):TE:=λd_ H Q=>∃XV μ σ O,oD K H XV μ σ d_/\oB K H XV μ O/\q0 Ex K H XV μ (t σ O) Q
def xf(t:DT):TT:=λd_ H Q=>∃XV μ σ O,oD K H XV μ σ d_/\oB K H XV μ O/\wZ Ex K H XV μ (t σ O) Q
def uC(t:DA):TA:=λd_ H Q=>∃XV μ σ O,oD K H XV μ σ d_/\oB K H XV μ O/\Od Ex K H XV μ (t σ O) Q
end
section
variable{Ex:Nat->Hp->Prop}{K:ah}{H H1:Hp}{XV μ h_:List ae}
def post.ext{α i:Type}{a:Hp->List ae->α->i->Prop}{r:R α}{Q:i->Hp->Prop}(h:post Ex K a H XV μ r Q)(e:Ext H μ H1 h_):post Ex K a H1 XV h_ r Q:=by
 cases r with
 |ok d O'=>exact λv b f g c q=>h v b f (e.trans g) c q
 |exc c O'=>exact λb f g c=>h b f (e.trans g) c
 |bad=>exact h
def post.bnd{α f g i:Type}{a:Hp->List ae->α->f->Prop}{b:Hp->List ae->g->i->Prop}{r:R α}{k:α->Ow->R g}{Q:i->Hp->Prop}{Q1:f->Hp->Prop}
  (h:post Ex K b H XV μ (r.bnd k) Q)
  (j:∀d O1 v H1 h_,Ext H μ H1 h_->oB K H1 XV h_ O1->a H1 h_ d v->post Ex K b H1 XV h_ (k d O1) Q->Q1 v H1):post Ex K a H XV μ r Q1:=by
 cases r with
 |ok d O'=>exact λv l m e c q=>j d O' v l m e c q (post.ext (show post Ex K b H XV μ (k d O') Q from h) e)
 |exc c O'=>exact h
 |bad=>exact h
def post.ok{α f:Type}{a:Hp->List ae->α->f->Prop}{d:α}{O:Ow}{Q:f->Hp->Prop}{v:f}(h:post Ex K a H XV μ (.ok d O) Q){H':Hp}{b:List ae}(e:Ext H μ H' b)(c:oB K H' XV b O)(q:a H' b d v):Q v H':=h v H' b e c q
def post.here{α b:Type}{a:Hp->List ae->α->b->Prop}{d:α}{O:Ow}{Q:b->Hp->Prop}{v:b}(h:post Ex K a H XV μ (.ok d O) Q)(c:oB K H XV μ O)(q:a H μ d v):Q v H:=h v H μ .refl c q
end
structure PD(X:Cx)(Ex:Nat->Hp->Prop)(e:aT)(t:DE):Prop where
 out:PE X e (rd Ex X.K t)
structure rm(X:Cx)(Ex:Nat->Hp->Prop)(e:aT)(t:DT):Prop where
 out:PT X e (xf Ex X.K t)
structure ug(X:Cx)(Ex:Nat->Hp->Prop)(es:List aT)(t:DA):Prop where
 out:PA X es (uC Ex X.K t)
def PE.imp(h:PE X e t)(f:∀σ H Q,t' σ H Q->t σ H Q):PE X e t':=λa s σ H Q I q=>h a s σ H Q I (f σ H Q q)
def PT.imp(h:PT X e t)(f:∀σ H Q,t' σ H Q->t σ H Q):PT X e t':=λa s σ H Q I q=>h a s σ H Q I (f σ H Q q)
def PA.imp(h:PA X e t)(f:∀σ H Q,t' σ H Q->t σ H Q):PA X e t':=λb a s σ H Q I q=>h b a s σ H Q I (f σ H Q q)
def PW.imp(h:PW X e t)(f:∀σ H Q,t' σ H Q->t σ H Q):PW X e t':=λw a s σ H Q I q=>h w a s σ H Q I (f σ H Q q)
end DL
namespace DL
open PySem L2
def a_(i:Nat):DE:=λσ O=>match σ[i]? with
 |some (KF d)=>.ok d O
 |_=>.bad
def dC(d:D):DE:=λ_ O=>.ok d O
section
variable{X:Cx}{Ex:Nat->Hp->Prop}{pos:Pos}{a b c:aT}{ta tb tc:DE}
def rM{e:aT}{t:TE}{t':DE}(h:PE X e t)(f:∀XV μ σ O d H Q,oD X.K H XV μ σ d->oB X.K H XV μ O->q0 Ex X.K H XV μ (t' σ O) Q->t d H Q):PD X Ex e t':=
 ⟨PE.imp h λd H Q ⟨XV,μ,σ,O,g,i,q⟩=>f XV μ σ O d H Q g i q⟩
def GK{e:aT}{t:TT}{t':DT}(h:PT X e t)(f:∀XV μ σ O d H Q,oD X.K H XV μ σ d->oB X.K H XV μ O->wZ Ex X.K H XV μ (t' σ O) Q->t d H Q):rm X Ex e t':=
 ⟨PT.imp h λd H Q ⟨XV,μ,σ,O,g,i,q⟩=>f XV μ σ O d H Q g i q⟩
def Pj(h:PA X e t)(f:∀XV μ σ O d H Q,oD X.K H XV μ σ d->oB X.K H XV μ O->Od Ex X.K H XV μ (t' σ O) Q->t d H Q):ug X Ex e t':=
 ⟨PA.imp h λd H Q ⟨XV,μ,σ,O,g,i,q⟩=>f XV μ σ O d H Q g i q⟩
def rd.go{i j:Type}{l:Hp->List ae->i->j->Prop}{t:DE}{XV μ:List ae}{σ:Sg}{O:Ow}{h:St}{H:Hp}{Q1:VK}{k:D->Ow->R i}{Q:j->Hp->Prop}(m:oD X.K H XV μ σ h)(n:oB X.K H XV μ O)
  (q:post Ex X.K l H XV μ ((t σ O).bnd k) Q)
  (f:∀d O1 v e g,oD X.K e XV g σ h->Ext H μ e g->oB X.K e XV g O1->Y2 X.K e XV g d v->post Ex X.K l e XV g (k d O1) Q->Q1 v e):rd Ex X.K t h H Q1:=
 ⟨XV,μ,σ,O,m,n,post.bnd q λd O1 v e g x c r p=>f d O1 v e g (m.ext x) x c r p⟩
def xf.go{i j:Type}{l:Hp->List ae->i->j->Prop}{t:DT}{XV μ:List ae}{σ:Sg}{O:Ow}{h:St}{H:Hp}{Q1:Bool->Hp->Prop}{k:Bool->Ow->R i}{Q:j->Hp->Prop}(m:oD X.K H XV μ σ h)(n:oB X.K H XV μ O)
  (q:post Ex X.K l H XV μ ((t σ O).bnd k) Q)
  (f:∀v O1 e g,oD X.K e XV g σ h->Ext H μ e g->oB X.K e XV g O1->post Ex X.K l e XV g (k v O1) Q->Q1 v e):xf Ex X.K t h H Q1:=
 ⟨XV,μ,σ,O,m,n,post.bnd q λd O1 v e g x c r p=>by
  have r:d=v:=r;subst r;exact f d O1 e g (m.ext x) x c p⟩
def uC.go{i j:Type}{l:Hp->List ae->i->j->Prop}{t:DA}{XV μ:List ae}{σ:Sg}{O:Ow}{h:St}{H:Hp}{Q1:List V->Hp->Prop}{k:List D->Ow->R i}{Q:j->Hp->Prop}(m:oD X.K H XV μ σ h)(n:oB X.K H XV μ O)
  (q:post Ex X.K l H XV μ ((t σ O).bnd k) Q)
  (f:∀d O1 v e g,oD X.K e XV g σ h->Ext H μ e g->oB X.K e XV g O1->oC X.K e XV g d v->post Ex X.K l e XV g (k d O1) Q->Q1 v e):uC Ex X.K t h H Q1:=
 ⟨XV,μ,σ,O,m,n,post.bnd q λd O1 v e g x c r p=>f d O1 v e g (m.ext x) x c r p⟩
def W9(f:X.N[i]?=KF x)(g:uU X.env.scope x)(e:(x==("__debug__":Str))=qh:=by decide)(h:(x==("__classdict__":Str))=qh:=by decide):PD X Ex (.Name x pos) (a_ i):=
 rM (GH f g e h) λj o p O r H Q k l q=>by
  unfold a_ at q;split at q
  ·rename_i d e;obtain⟨v,m,n⟩:=k.at_ i d e;exact⟨v,m,post.here q l n⟩
  ·exact ak q
def VZ:PD X Ex (.Constant (.int i) j pos) (dC (.int i)):=rM OI λd f g O h H Q k e q=>post.here q e (by unfold Y2;rfl)
def Wc:PD X Ex (.Constant (.bool i) j pos) (dC (.bl i)):=rM Wi λd f g O h H Q k e q=>post.here q e (by unfold Y2;rfl)
def XM:PD X Ex (.Constant .none j pos) (dC .non):=rM Pk λd f g O h H Q i e q=>post.here q e (by unfold Y2;rfl)
def WY(cs:List Nat)(h:x=⟨cs.toArray⟩):PD X Ex (.Constant (.str x) j pos) (dC (.str cs)):=rM OW λd f g O i H Q k e q=>post.here q e (by unfold Y2;rw[h])
def zgj(cs:List Nat)(d:Gl X x)(e:X.mg x=KF (.str y t))(h:y=⟨cs.toArray⟩)(f:(x==("__debug__":Str))=qh:=by decide):PD X Ex (.Name x pos) (dC (.str cs)):=
 rM (G6 (v:=.str y) d e ⟨t,rfl⟩ f) λg j k O l H Q m i q=>post.here q i (by unfold Y2;rw[h])
def e_(f:Ow->D->D->R D)(ta tb:DE):DE:=λσ O=>(ta σ O).bnd λx O1=>(tb σ O1).bnd λy O2=>f O2 x y
def sj(X:Cx)(Ex:Nat->Hp->Prop)(r:R2)(f:Ow->D->D->R D):Prop:=∀(H:Hp)(XV μ:List ae)(O:Ow)(x y:D)(v w:V)(Q:VK),oB X.K H XV μ O->Y2 X.K H XV μ x v->Y2 X.K H XV μ y w->q0 Ex X.K H XV μ (f O x y) Q->r v w H Q
def GG{r:R2}{f:Ow->D->D->R D}(h:sj X Ex r f)(XV μ:List ae)(σ:Sg)(O:Ow)(d:St)(H:Hp)(Q:VK)(e:oD X.K H XV μ σ d)(g:oB X.K H XV μ O)(q:q0 Ex X.K H XV μ (e_ f ta tb σ O) Q):
  EE r (rd Ex X.K ta) (rd Ex X.K tb) d H Q:=
 rd.go e g q λx z v A B i C j k l=>rd.go i j l λy m w n o E p s t u=>h n XV o m x y v w Q s (k.ext p) t u
def w4(d:qI X (dO op) r)(h:sj X Ex r f)(e:PD X Ex a ta)(g:PD X Ex b tb):PD X Ex (.BinOp a op b pos) (e_ f ta tb):=
 rM (Wg d e.out g.out) (GG h)
def AL(d:qI X (cM op) r)(h:sj X Ex r f)(e:PD X Ex a ta)(g:PD X Ex b tb)(i:behindInMarks op b=qh):PD X Ex (.Compare a [op] [b] pos) (e_ f ta tb):=
 rM (YV d e.out g.out i) (GG h)
def pT(t:DE):DT:=λσ O=>(t σ O).bnd λx O1=>match x with
 |.bl k=>.ok k O1
 |_=>.bad
def RC(f:∀XV μ σ O e H Q,oD X.K H XV μ σ e->oB X.K H XV μ O->q0 Ex X.K H XV μ (td σ O) Q->t e H Q)(XV μ:List ae)(σ:Sg)(O:Ow)(e:St)(H:Hp)(Q:Bool->Hp->Prop)
  (g:oD X.K H XV μ σ e) (h:oB X.K H XV μ O) (q:wZ Ex X.K H XV μ (pT td σ O) Q):Ov t e H Q:=by
 refine f XV μ σ O e H _ g h ?_;refine post.bnd q λd i v j l x c r p=>?_;cases d with
 | bl k=>
  have r:v=.bl k:=by unfold Y2 at r;exact r
  exact⟨k,r,post.here p c rfl⟩
 |_=>exact ak p
def Ck(d:qI X (cM op) r)(h:sj X Ex r f)(e:PD X Ex a ta)(g:PD X Ex b tb)(i:behindInMarks op b=qh):rm X Ex (.Compare a [op] [b] pos) (pT (e_ f ta tb)):=
 GK (Y9 d e.out g.out i) (RC (GG h))
noncomputable def BU(O:Ow):D->R Bool
 |.non=>.ok qh O
 |.bl b=>.ok b O
 |.int i=>.ok (i !=0) O
 |.str cs=>if cs.length<=4000000 then .ok (!cs.isEmpty) O else .bad
 |.lst ds=>.ok (!ds.isEmpty) O
 |.tup ds=>.ok (!ds.isEmpty) O
 | .own k=>match O[k]? with
  |some ds=>.ok (!ds.isEmpty) O
  |none=>.bad
 |.dct=>.bad
 |.exn _=>.bad
 |.tab _=>.bad
 |.map _ _=>.bad
 |.adr _=>.bad
def qj(t:DE):DT:=λσ O=>(t σ O).bnd λx O1=>BU O1 x
def yf{n:Nat}(h:n<=4000000):n<=xc:=aI h 'u'
def K8{K:ah}{H:Hp}{XV μ:List ae}{ds:List D}{vs:List V}(h:oC K H XV μ ds vs):(!ds.isEmpty) = !vs.isEmpty:=by have e:=h.length;cases ds<;>cases vs<;>simp_all
def YW(u:PD X Ex a ta)(w:∀f,isTrue a X.env f=(do let v <- f;standAt a.pos;holding [v] (truthy v))):rm X Ex a (qj ta):=
 GK (zfJ u.out w) λg E F O G H Q y z q=>rd.go y z q λd i v j m I x c r p=>by
  cases d with
  |non=>unfold Y2 at r;subst r;exact⟨_,rfl,post.here p c rfl⟩
  |bl b=>unfold Y2 at r;subst r;exact⟨_,rfl,post.here p c rfl⟩
  |int b=>unfold Y2 at r;subst r;exact⟨_,rfl,post.here p c rfl⟩
  | str cs=>
   unfold Y2 at r;subst r;by_cases s:cs.length<=4000000
   ·have t:wZ Ex X.K j g m (.ok (!cs.isEmpty) i) Q:=by
     have h:wZ Ex X.K j g m (if cs.length<=4000000 then .ok (!cs.isEmpty) i else .bad) Q:=p;rw[qq s] at h;exact h
    refine⟨_,⟨?_,rfl⟩,?_⟩
    ·show cs.toArray.size<=_;rw[aJ];exact yf s
    ·have e:(((⟨cs.toArray⟩:Str).length:Int) !=0) = !cs.isEmpty:=by
      show((cs.toArray.size:Int) !=0)=_;rw[aJ];cases cs<;>simp[bne];lia
     rw[e];exact post.here t c rfl
   ·have h:wZ Ex X.K j g m (if cs.length<=4000000 then .ok (!cs.isEmpty) i else .bad) Q:=p;rw[qM s] at h;exact ak h
  | lst n=>
   unfold Y2 at r;obtain⟨a,o,rfl,l,q⟩:=r;exact⟨_,.inl ⟨o,l.sq,rfl⟩,by rw[<- K8 q];exact post.here p c rfl⟩
  | tup n=>
   unfold Y2 at r;obtain⟨a,o,rfl,l,q⟩:=r;exact⟨_,.inr (.inl ⟨o,l.sq,rfl⟩),by rw[<- K8 q];exact post.here p c rfl⟩
  | own k=>
   unfold Y2 at r;obtain⟨a,rfl,A⟩:=r;obtain⟨n,o,B,C,D⟩:=c.at_ k a A;have t:wZ Ex X.K j g m (.ok (!n.isEmpty) i) Q:=by
    have h:wZ Ex X.K j g m (match i[k]? with|some n=>.ok (!n.isEmpty) i|none=>.bad) Q:=p;rw[B] at h;exact h
   exact⟨_,.inl ⟨o,.of C,rfl⟩,by rw[<- K8 D];exact post.here t c rfl⟩
  |dct=>exact ak p
  |exn _=>exact ak p
  |tab _=>exact ak p
  |map _ _=>exact ak p
  |adr _=>exact ak p
noncomputable def fI(g:Int->Int->Option D):Ow->D->D->R D:=λO x y=>match x,y with
 | .int i,.int j=>match g i j with
  |some d=>.ok d O
  |none=>.bad
 |_,_=>.bad
def Co(h:∀i j d,g i j=KF d->C i j/\∀K H XV μ,Y2 K H XV μ d (gv i j)):sj X Ex (rI C gv) (fI g):=by
 intro H XV μ O x y v w Q c e f q;unfold fI at q;split at q
 ·rename_i i j;unfold Y2 at e f;subst e;subst f;split at q
  ·rename_i d k;obtain⟨l,m⟩:=h i j d k;exact⟨i,j,rfl,rfl,l,post.here q c (m _ _ _ _)⟩
  ·exact ak q
 ·exact ak q
def AQ(h:∀i j d,g i j=KF d->∀K H XV μ,Y2 K H XV μ d (gv i j)):sj X Ex (uP gv) (fI g):=by
 intro H XV μ O x y v w Q c e f q;unfold fI at q;split at q
 ·rename_i i j;unfold Y2 at e f;subst e;subst f;split at q
  ·rename_i d k;exact⟨i,j,rfl,rfl,post.here q c (h i j d k _ _ _ _)⟩
  ·exact ak q
 ·exact ak q
def r9:Y2 K H XV μ (.int i) (.int i):=by unfold Y2;rfl
def uY{K H XV μ}{i:Bool}:Y2 K H XV μ (.bl i) (.bl i):=by unfold Y2;rfl
def GY:Y2 K H XV μ .non .non:=by unfold Y2;rfl
def JX:Y2 K H XV μ (.str cs) (.str ⟨cs.toArray⟩):=by unfold Y2;rfl
def gB(p:Int->Int->Bool):Int->Int->Option D:=λi j=>KF (.bl (p i j))
noncomputable def gI(p:Int->Int->Int):Int->Int->Option D:=λi j=>KF (.int (p i j))
def uu:Int->Int->Option D:=gI λi j=>i-j
noncomputable def ur:Int->Int->Option D:=λi j=>if (-1000000000000000<i/\i<1000000000000000)\/(-1000000000000000<j/\j<1000000000000000) then KF (.int (i*j)) else KM
def wO:Int->Int->Option D:=λi j=>if 0<j/\j<1073741824 then KF (.int (i/j)) else KM
def uh:Int->Int->Option D:=λi j=>if 0<j then KF (.int (i%j)) else KM
def xt:Int->Int->Option D:=λi j=>if 0<=j/\j<=1000000/\i.natAbs<2 ^ 64 then KF (.int (i ^ j.toNat)) else KM
def vg:Int->Int->Option D:=λi j=>if 0<=j/\j<=1000000/\i.natAbs<2 ^ 64 then KF (.int (i*2 ^ j.toNat)) else KM
def zi9:sj X Ex (uP λi j=>.int (i-j)) (fI uu):=AQ λi j d h _ _ _ _=>by cases h;exact r9
def ZR:sj X Ex (rI pF λi j=>.int (i*j)) (fI ur):=Co λi j d h=>by
 unfold ur at h;split at h
 ·rename_i e;cases h;exact⟨e.imp (λz=>⟨by lia,by lia⟩) λz=>⟨by lia,by lia⟩,λ_ _ _ _=>r9⟩
 ·cases h
def Zt:sj X Ex (rI NA λi j=>.int (i/j)) (fI wO):=Co λi j d h=>by
 unfold wO at h;split at h
 ·rename_i e;cases h;exact⟨e,λ_ _ _ _=>r9⟩
 ·cases h
def Zb:sj X Ex (rI (λ_ j=>0<j) λi j=>.int (i%j)) (fI uh):=Co λi j d h=>by
 unfold uh at h;split at h
 ·rename_i e;cases h;exact⟨e,λ_ _ _ _=>r9⟩
 ·cases h
def zi8:sj X Ex (rI Ge λi j=>.int (i ^ j.toNat)) (fI xt):=Co λi j d h=>by
 unfold xt at h;split at h
 ·rename_i e;cases h;exact⟨e,λ_ _ _ _=>r9⟩
 ·cases h
def Z5:sj X Ex (rI Ge λi j=>.int (i*2 ^ j.toNat)) (fI vg):=Co λi j d h=>by
 unfold vg at h;split at h
 ·rename_i e;cases h;exact⟨e,λ_ _ _ _=>r9⟩
 ·cases h
def vm:Ow->D->D->R D:=fI (gB λi j=>decide (i<j))
def FT:Ow->D->D->R D:=fI (gB λi j=>decide (i<=j))
def BI:Ow->D->D->R D:=fI (gB λi j=>decide (j<=i))
def Pq:sj X Ex (uP λi j=>.bl (decide (i<j))) vm:=AQ λi j d h _ _ _ _=>by cases h;exact uY
def OL:sj X Ex (uP λi j=>.bl (decide (i<=j))) FT:=AQ λi j d h _ _ _ _=>by cases h;exact uY
def Oz:sj X Ex (uP λi j=>.bl (decide (j<=i))) BI:=AQ λi j d h _ _ _ _=>by cases h;exact uY
def Jh:D->Bool
 |.non=>qb
 |_=>qh
def IP:Ow->D->D->R D:=λO x y=>match y with
 |.non=>.ok (.bl (Jh x)) O
 |_=>.bad
def Zu(h:Y2 K H XV μ x v):decide (v=.non)=Jh x:=by
 cases x with
 |non=>unfold Y2 at h;subst h;rfl
 |bl _=>unfold Y2 at h;subst h;rfl
 |int _=>unfold Y2 at h;subst h;rfl
 |str _=>unfold Y2 at h;subst h;rfl
 |lst _=>unfold Y2 at h;obtain⟨_,_,rfl,_⟩:=h;rfl
 |tup _=>unfold Y2 at h;obtain⟨_,_,rfl,_⟩:=h;rfl
 |own _=>unfold Y2 at h;obtain⟨_,rfl,_⟩:=h;rfl
 |dct=>unfold Y2 at h;obtain⟨_,rfl,_⟩:=h;rfl
 |exn _=>unfold Y2 at h;obtain⟨_,_,rfl,_⟩:=h;rfl
 |tab _=>unfold Y2 at h;obtain⟨rfl,_⟩:=h;rfl
 |map _ _=>unfold Y2 at h;obtain⟨_,_,rfl,_⟩:=h;rfl
 |adr _=>unfold Y2 at h;subst h;rfl
def ZT:sj X Ex (λx y H Q=>y=.non/\Q (.bl (decide (x=.non))) H) IP:=by
 intro H d f O x y v w Q c g e q;cases y with
 | non=>
  unfold Y2 at e;subst e;refine⟨rfl,?_⟩;rw[Zu g];exact post.here (show q0 Ex X.K H d f (.ok (.bl (Jh x)) O) Q from q) c uY
 |_=>exact ak q
def wN(t u:DE):DE:=λσ O=>(t σ O).bnd λx O1=>match x with
 |.bl qb=>u σ O1
 |.bl qh=>.ok (.bl qh) O1
 |_=>.bad
def Ng(t u:DE):DE:=λσ O=>(t σ O).bnd λx O1=>match x with
 |.bl qb=>.ok (.bl qb) O1
 |.bl qh=>u σ O1
 |_=>.bad
def Dl(t:DE):DE:=λσ O=>(t σ O).bnd λx O1=>match x with
 |.bl b=>.ok (.bl (!b)) O1
 |_=>.bad
def tM(t u:DT):DT:=λσ O=>(t σ O).bnd λx O1=>if x=qb then u σ O1 else .ok qh O1
def wW(t u:DT):DT:=λσ O=>(t σ O).bnd λx O1=>if x=qb then .ok qb O1 else u σ O1
def sQ(t:DT):DT:=λσ O=>(t σ O).bnd λx O1=>.ok (!x) O1
def WS(d:PD X Ex a ta):PD X Ex (.BoolOp op [a] pos) ta:=⟨V2 d.out⟩
def Yj{e:List aT}(g:PD X Ex a ta)(h:PD X Ex (.BoolOp .And (b::e) pos) tb):PD X Ex (.BoolOp .And (a::b::e) pos) (wN ta tb):=
 rM (Ym g.out h.out) λf s i O t H Q j l q=>rd.go j l q λd m v u n o x c r p=>by
  cases d with
  | bl k=>
   unfold Y2 at r;subst r;refine⟨k,rfl,?_⟩;cases k with
   |true=>rw[qq rfl];exact⟨f,n,i,m,o,c,p⟩
   |false=>rw[qM ck];exact post.here p c uY
  |_=>exact ak p
def V3{e:List aT}(g:PD X Ex a ta)(h:PD X Ex (.BoolOp .Or (b::e) pos) tb):PD X Ex (.BoolOp .Or (a::b::e) pos) (Ng ta tb):=
 rM (VT g.out h.out) λf s i O t H Q j l q=>rd.go j l q λd m v u n o x c r p=>by
  cases d with
  | bl k=>
   unfold Y2 at r;subst r;refine⟨k,rfl,?_⟩;cases k with
   |true=>rw[qq rfl];exact post.here p c uY
   |false=>rw[qM ck];exact⟨f,n,i,m,o,c,p⟩
  |_=>exact ak p
def XD(e:PD X Ex a ta):PD X Ex (.UnaryOp .Not a pos) (Dl ta):=
 rM (XN e.out) λf i j O l H Q g h q=>rd.go g h q λd m v n o s x c r p=>by
  cases d with
  |bl k=>unfold Y2 at r;subst r;exact⟨k,rfl,post.here p c uY⟩
  |_=>exact ak p
structure v7(X:Cx)(Ex:Nat->Hp->Prop)(e:aT)(t:DT):Prop where
 out:PW X e (xf Ex X.K t)
def v7.pt(h:v7 X Ex e t):rm X Ex e t:=⟨L2.PW.pt h.out⟩
def Pp{e:aT}{t:TT}{t':DT}(h:PW X e t)(f:∀XV μ σ O d H Q,oD X.K H XV μ σ d->oB X.K H XV μ O->wZ Ex X.K H XV μ (t' σ O) Q->t d H Q):v7 X Ex e t':=
 ⟨PW.imp h λd H Q ⟨XV,μ,σ,O,g,i,q⟩=>f XV μ σ O d H Q g i q⟩
def Y4{d:List aT}{f g:DT}(h:rm X Ex a f)(i:v7 X Ex (.BoolOp .And (b::d) pos) g):v7 X Ex (.BoolOp .And (a::b::d) pos) (tM f g):=
 Pp (X8 h.out i.out) λe s j O t H Q l m q=>xf.go l m q λk n u o r x c p=>by
  cases k with
  |true=>rw[qq rfl];exact⟨e,o,j,n,r,c,p⟩
  |false=>rw[qM ck];exact post.here p c rfl
def XU{d:List aT}{f g:DT}(h:rm X Ex a f)(i:v7 X Ex (.BoolOp .Or (b::d) pos) g):v7 X Ex (.BoolOp .Or (a::b::d) pos) (wW f g):=
 Pp (V_ h.out i.out) λe s j O t H Q l m q=>xf.go l m q λk n u o r x c p=>by
  cases k with
  |true=>rw[qq rfl];exact post.here p c rfl
  |false=>rw[qM ck];exact⟨e,o,j,n,r,c,p⟩
def zfM(d:rm X Ex a tA):v7 X Ex (.BoolOp .And [a] pos) tA:=⟨Yw d.out⟩
def zhI(d:rm X Ex a tA):v7 X Ex (.BoolOp .Or [a] pos) tA:=⟨WB d.out⟩
def X4{d:DT}(e:rm X Ex a d):rm X Ex (.UnaryOp .Not a pos) (sQ d):=
 GK (VX e.out) λf i j O l H Q g h q=>xf.go g h q λk m n o r x c p=>post.here p c rfl
noncomputable def Jy(f g:Ow->D->D->R D)(ta tb tc:DE):DE:=λσ O=>(ta σ O).bnd λx O1=>(tb σ O1).bnd λy O2=>(f O2 x y).bnd λz O3=>match z with
 |.bl qb=>(tc σ O3).bnd λw O4=>g O4 y w
 |.bl qh=>.ok (.bl qh) O3
 |_=>.bad
def zgp{e i:CmpOp}{r j:R2}{f g:Ow->D->D->R D}(s:qI X (cM e) r)(h:sj X Ex r f)(t:qI X (cM i) j)(h':sj X Ex j g)(A:PD X Ex a ta)(B:PD X Ex b tb)(C:PD X Ex c tc)
  (E:lastMarks [e,i] [b,c]=qh:=by with_unfolding_all rfl):PD X Ex (.Compare a [e,i] [b,c] pos) (Jy f g ta tb tc):=
 rM (zfR s t A.out B.out C.out E) λd μ σ O d_ H Q F G q=>rd.go F G q λx O1 v H1 h_ I x2 J K L=>rd.go I J L λy M w N P S T U l V=>
  h N d P M x y v w _ U (K.ext T) l (post.bnd V λz O3 u H3 IM m n o p=>by
   cases z with
   | bl k=>
    unfold Y2 at o;subst o;refine⟨k,rfl,?_⟩;cases k with
    |true=>rw[qq rfl];exact rd.go (S.ext m) n p λW Y Z H4 U2 e5 x5 c5 d5 q5=>h' H4 d U2 Y y W w Z Q c5 ((l.ext m).ext x5) d5 q5
    |false=>rw[qM ck];exact post.here p n uY
   |_=>exact ak p)
def c_:DA:=λ_ O=>.ok [] O
def b_(t:DE)(u:DA):DA:=λσ O=>(t σ O).bnd λx O1=>(u σ O1).bnd λxs O2=>.ok (x::xs) O2
def ZX:ug X Ex [] c_:=Pj Cd λd f g O h H Q i e q=>post.here q e .nil
def zfE{es:List aT}{t:DA}(d:PD X Ex a ta)(e:ug X Ex es t)(f:aN (a::es) X.env=(qh,eval a X.env)::aN es X.env:=by rfl):ug X Ex (a::es) (b_ ta t):=
 Pj (yQ d.out e.out f) λg s u O z H Q h i q=>rd.go h i q λx A v B C j D k l m=>uC.go j k m λy E w F G I n o p r=>post.here r o (.cons (l.ext n) p)
def sk(t:DA):DE:=λσ O=>(t σ O).bnd λxs O1=>if xs.length<=4000000 then .ok (.tup xs) O1 else .bad
def rH(t:DA):DE:=λσ O=>(t σ O).bnd λxs O1=>if xs.length<=4000000 then .ok (.lst xs) O1 else .bad
def uK(t:DA):DE:=λσ O=>(t σ O).bnd λxs O1=>if xs.length<=4000000 then .ok (.own O1.length) (O1++[xs]) else .bad
def post.iteN{α e:Type}{K:ah}{H:Hp}{XV μ:List ae}{d:Hp->List ae->α->e->Prop}{Q:e->Hp->Prop}{b:Bool}{r:R α}(h:post Ex K d H XV μ (if b=qb then .bad else r) Q):b=qh/\post Ex K d H XV μ r Q:=by
 cases b with
 |true=>exact ak h
 |false=>exact⟨rfl,h⟩
def post.ite{α f:Type}{K:ah}{H:Hp}{XV μ:List ae}{d:Hp->List ae->α->f->Prop}{Q:f->Hp->Prop}{c:Prop}[Decidable c]{r:R α}(h:post Ex K d H XV μ (if c then r else .bad) Q):c/\post Ex K d H XV μ r Q:=by
 by_cases e:c
 ·rw[qq e] at h;exact⟨e,h⟩
 ·rw[qM e] at h;exact ak h
def WV(h:ug X Ex es t):PD X Ex (.Tuple es x1 pos) (sk t):=
 rM (OD h.out) λi m n O o H Q j k q=>uC.go j k q λr s u v w x y f g d=>by
  obtain⟨l,d⟩:=post.ite d;exact⟨by rw[<- g.length];exact yf l,λp e=>post.ok d (.laid e) (f.laid e) (Y2.newT f e g)⟩
def W0(h:ug X Ex es t):PD X Ex (.List es pos) (rH t):=
 rM (OG h.out) λi m n O o H Q j k q=>uC.go j k q λr s u v w x y f g d=>by
  obtain⟨l,d⟩:=post.ite d;exact⟨by rw[<- g.length];exact yf l,λp e=>post.ok d (.laid e) (f.laid e) (Y2.newL f e g)⟩
def Eo(h:μ.length=n):Y2 K H XV (μ++[p]) (.own n) (.ref p):=by unfold Y2;exact⟨p,rfl,by rw[<- h];simp⟩
def Zk(h:ug X Ex es t):PD X Ex (.List es pos) (uK t):=
 rM (OG h.out) λi m n O o H Q j k q=>uC.go j k q λr s u v w x y e f d=>by
  obtain⟨l,d⟩:=post.ite d;exact⟨by rw[<- f.length];exact yf l,λp g=>post.ok d (.cell g) (e.cell g f) (Eo e.len)⟩
end
inductive Src where
 |val (ds:List D)
 |own (k:Nat)
 |zip (a b:Src)
 deriving Inhabited
noncomputable def Src.get:Src->Ow->Nat->Option D
 |.val ds,_,i=>ds[i]?
 | .own k,O,i=>match O[k]? with
  |some ds=>ds[i]?
  |none=>KM
 | .zip a b,O,i=>match a.get O i,b.get O i with
  |some x,KF y=>KF (.tup [x,y])
  |_,_=>KM
noncomputable def Src.size:Src->Ow->Nat
 |.val ds,_=>ds.length
 | .own k,O=>match O[k]? with
  |some ds=>ds.length
  |none=>0
 |.zip a b,O=>min (a.size O) (b.size O)
abbrev DI:=Sg->Ow->R Src
def oG(K:ah)(J:It)(src:Src)(H:Hp)(XV μ:List ae):Prop:=∀hid' H' f_ O',Mv H XV μ H' hid' f_->oB K H' hid' f_ O'->∀i,
 match src.get O' i with
 |some d=>J.go i H'/\∀x t6,J.yld i H' x t6->Ext H' f_ t6 f_/\oB K t6 hid' f_ O'/\Y2 K t6 hid' f_ d x
 |none=>J.stop i H'
noncomputable def rdI(Ex:Nat->Hp->Prop)(K:ah)(t:DI):TI:=λd_ H Rr=>∃XV μ σ O,oD K H XV μ σ d_/\oB K H XV μ O/\post Ex K (λH' f_ s J=>oG K J s H' XV f_) H XV μ (t σ O) Rr
structure sM(X:Cx)(Ex:Nat->Hp->Prop)(tg iter:aT)(t:DI):Prop where
 out:PI X tg iter (rdI Ex X.K t)
def oG.mv(h:oG K J src H XV μ)(e:Mv H XV μ H1 wA h_):oG K J src H1 wA h_:=
 λa b d f m c=>h a b d f (e.trans m) c
def oG.val(l:LstAt K H XV μ a vs)(q:oC K H XV μ ds vs):oG K (Nn K a) (.val ds) H XV μ:=by
 intro f k n o m c i;have b:=(l.mv m).sq;have h:=q.mv m;show match ds[i]? with|some d=>_|none=>_
 cases e:ds[i]? with
 | some d=>
  obtain⟨v,g,j⟩:=h.get e;refine⟨⟨vs,v,b,g⟩,λx p y=>?_⟩;obtain⟨rfl,y⟩:=y;have:=y vs b;rw[g] at this;cases this;exact⟨.refl,c,j⟩
 | none=>
  refine⟨vs,b,?_⟩;have:=a8.mp e;rw[<- q.length];exact this
def oG.tup(l:TupAt K H XV μ a vs)(q:oC K H XV μ ds vs):oG K (Nl K a) (.val ds) H XV μ:=by
 intro f k n o m c i;have b:=(l.mv m).sq;have h:=q.mv m;show match ds[i]? with|some d=>_|none=>_
 cases e:ds[i]? with
 | some d=>
  obtain⟨v,g,j⟩:=h.get e;refine⟨⟨vs,v,b,g⟩,λx p y=>?_⟩;obtain⟨rfl,y⟩:=y;have:=y vs b;rw[g] at this;cases this;exact⟨.refl,c,j⟩
 | none=>
  refine⟨vs,b,?_⟩;have:=a8.mp e;rw[<- q.length];exact this
def oG.own(h:μ[k]?=KF a):oG K (Nn K a) (.own k) H XV μ:=by
 intro j o w p m c i;obtain⟨q,rfl⟩:=m.pre;have r:(μ++q)[k]?=KF a:=by rw[aH (aq.mp h).1];exact h
 obtain⟨b,f,s,t,l⟩:=c.at_ k a r;have g:qO K o a f:=.of t;show match (match p[k]? with|some b=>b[i]?|none=>KM) with|some d=>_|none=>_
 rw[s];show match b[i]? with|some d=>_|none=>_
 cases e:b[i]? with
 | some d=>
  obtain⟨v,n,u⟩:=l.get e;refine⟨⟨f,v,g,n⟩,λx z y=>?_⟩;obtain⟨rfl,y⟩:=y;have:=y f g;rw[n] at this;cases this;exact⟨.refl,c,u⟩
 | none=>
  refine⟨f,g,?_⟩;have:=a8.mp e;rw[<- l.length];exact this
def Nm(x:Str):It:=⟨λi _=>i<x.cps.size,λi H v H'=>H'=H/\∃c,x.cps[i]?=KF c/\v=.str ⟨#[c]⟩,λi _=>x.cps.size<=i⟩
def oG.str{K:ah}{H:Hp}{XV μ:List ae}{cs:List Nat}:oG K (Nm ⟨cs.toArray⟩) (.val (cs.map λc=>.str [c])) H XV μ:=by
 intro a h j k m c i;show match (cs.map λc=>D.str [c])[i]? with|some d=>_|none=>_
 rw[be];cases e:cs[i]? with
 | some d=>
  have f:=(aq.mp e).1;refine⟨by show i<cs.toArray.size;simpa using f,λx l y=>?_⟩;obtain⟨rfl,z,g,rfl⟩:=y;have b:cs.toArray[i]?=KF z:=g;rw[li,e] at b;cases b;refine⟨.refl,c,?_⟩;unfold Y2;rfl
 | none=>
  have:=a8.mp e;show cs.toArray.size<=i;simpa using this
def oG.rng:oG K (F6 lo n) (.val ((aO n).map λi=>.int (lo+(i:Nat)))) H XV μ:=by
 intro b e f g m c i;show match ((aO n).map λi=>D.int (lo+(i:Nat)))[i]? with|some d=>_|none=>_
 rw[be];by_cases a:i<n
 ·rw[l5 a];refine⟨a,λx h y=>?_⟩;obtain⟨rfl,rfl⟩:=y;exact⟨.refl,c,r9⟩
 ·rw[a8.mpr (by simpa using a)];exact nB.mp a
def zgf(x:Str)(t:Tok)(it:ae):wQ P w K tg (Nm x) [it] it (λi h=>h.IsStrIter it (strIterType x) x t i) where
 mem:=by simp
 obj:=λi h a b j=>by
  have e:b=it:=by simpa using j
  subst e;obtain⟨o,e,c,d⟩:=a;exact⟨o,e,λv z=>by rw[d] at z;cases z⟩
 keep:=λi h f a k=>by
  obtain⟨o,e,c,d⟩:=a;exact⟨o,k it 'k' o e,c,d⟩
 item:=by
  intro X G J L M i g s N H E I p a O;subst G J L;obtain⟨q,r,W,B,C,D⟩:=p it 'k';obtain⟨U,l⟩:∃c,x.cps[i]?=KF c:=⟨_,a9 (show i<x.cps.size from O)⟩;have Q:∀(F:String),(["enumerate", "zip", "dict_itemiterator", "dict_reverseitemiterator", "odict_iterator", "itertools.zip_longest", "itertools.pairwise"].contains F=qh)->strIterType x=F->∀f,f.IsStrIter it F x t (i+1)->cX it s.heap f->
    ∃u,KF (jv ⟨#[U]⟩ s.toks)=KF u/\ao (ay X.prog X.w) X.A (letOwnedTupleGo tg (.ref it) u) (λ_ V=>∃y R,Inv X g N R V/\RelV y u/\(Nm x).yld i H y R/\V.heap.IsStrIter it (strIterType x) x t (i+1)/\∀b∈[it],R b=KM) E { s with heap:=f,toks:=s.toks+1 }:=by
   intro F Y Z f m n;have I1:Inv X g N H { s with heap:=f,toks:=s.toks+1 }:=I.turned (t':=s.toks+1) (λb o j e=>(n.2 b j).trans e) q r B C D;obtain⟨o,e,c,d⟩:=id m;refine⟨_,rfl,DB (s:={ s with heap:=f,toks:=s.toks+1 }) e c d Y ⟨.str ⟨#[U]⟩,H,I1,⟨_,rfl⟩,⟨rfl,_,l,rfl⟩,?_,λb j=>(p b j).1⟩⟩;rw[Z];exact m
  unfold strIterType at a Q ⊢;split at a
  ·rename_i S;exact wpAny_pyNext_ascii_item a l λf m n=>Q "str_ascii_iterator" 'u' (by rw[qq S]) f m n
  ·rename_i S;exact wpAny_pyNext_wide_item a l λf m n=>Q "str_iterator" 'u' (by rw[qM S]) f m n
 done:=by
  intro X G J L M i g s N H E I p a O;subst G J L;obtain⟨q,r,W,B,C,D⟩:=p it 'k';have l:x.cps[i]?=KM:=by
   have:x.cps.size<=i:=O;simp[this]
  unfold strIterType at a;split at a
  ·exact wpAny_pyNext_ascii_end (I.ok.hd M) a l λf T=>⟨rfl,I.turned (t':=s.toks) (λb o j e=>T b o j e) q r B C D⟩
  ·exact wpAny_pyNext_wide_end (I.ok.hd M) a l λf T=>⟨rfl,I.turned (t':=s.toks) (λb o j e=>T b o j e) q r B C D⟩
 self:=λ_ _ s _ _ a h=>by
  unfold strIterType at a;split at a
  ·exact wpAny_pyIter_striter_ascii a h
  ·exact wpAny_pyIter_striter_wide a h
section
variable{X:Cx}{Ex:Nat->Hp->Prop}{pos:Pos}{a b c tg:aT}{ta:DE}
noncomputable def NY(O:Ow):D->R Src
 |.lst ds=>.ok (.val ds) O
 |.tup ds=>.ok (.val ds) O
 |.str cs=>.ok (.val (cs.map λc=>.str [c])) O
 |.own k=>.ok (.own k) O
 |_=>.bad
def pU(t:DE):DI:=λσ O=>(t σ O).bnd λx O1=>NY O1 x
def ZJ(G:PD X Ex a ta):sM X Ex tg a (pU ta):=by
 refine⟨?_⟩;rintro m s L H M I ⟨f,U,V,O,N,P,q⟩;refine pV (G.out m s L H _ I (rd.go N P q (Q1:=λv h=>∃f n w d,oB X.K h f n w/\Y2 X.K h f n d v/\post Ex X.K (λQ R s J=>oG X.K J s Q f R) h f n (NY w d) M)
  λd w v h n W x c r p=>⟨f,n,w,d,c,r,p⟩)) λu g ⟨v,h,i,z,f,n,w,d,c,r,p⟩=>?_
 have j:∀(b:ae),b∈[g.heap.objs.size]->su X m h b:=λb S=>by
  have e:b=g.heap.objs.size:=by simpa using S
  subst e;exact i.fpOk (aC _) (i.hok.fresh (aC _))
 cases d with
 | lst B=>
  unfold Y2 at r;obtain⟨a,C,rfl,l,q⟩:=r;cases z;obtain⟨A,D,y,E⟩:=i.list l.sq;refine fO y.isList ?_;exact⟨g.heap.objs.size,[g.heap.objs.size],_,_,h,rfl,i.kept (t':=g.toks) λb o e=>af _ e,RW a _,⟨_,aE _ rfl,rfl,rfl⟩,j,post.here p c (.val l q)⟩
 | tup B=>
  unfold Y2 at r;obtain⟨a,C,rfl,l,q⟩:=r;cases z;obtain⟨A,D,y,E⟩:=i.tuple l.sq;refine mn (show g.heap.IsTuple a A.toArray from y) ?_;exact⟨g.heap.objs.size,[g.heap.objs.size],_,_,h,rfl,i.kept (t':=g.toks) λb o e=>af _ e,zbV a _,⟨_,aE _ rfl,rfl,rfl⟩,j,post.here p c (.tup l q)⟩
 | str cs=>
  unfold Y2 at r;subst r;obtain⟨t,rfl⟩:=z;refine wpAny_pyIter_strU ?_;exact⟨g.heap.objs.size,[g.heap.objs.size],_,_,h,rfl,i.kept (t':=g.toks) λb o e=>af _ e,zgf ⟨cs.toArray⟩ t _,⟨_,aE _ rfl,rfl,rfl⟩,j,post.here p c .str⟩
 | own k=>
  unfold Y2 at r;obtain⟨a,rfl,F⟩:=r;cases z;obtain⟨B,C,Y,T,Z⟩:=c.at_ k a F;obtain⟨A,D,y,E⟩:=i.list (.of T);refine fO y.isList ?_;exact⟨g.heap.objs.size,[g.heap.objs.size],_,_,h,rfl,i.kept (t':=g.toks) λb o e=>af _ e,RW a _,⟨_,aE _ rfl,rfl,rfl⟩,j,post.here p c (.own F)⟩
 |_=>exact ak p
noncomputable def DU(lo hi:Int):Src:=.val ((aO (hi-lo).toNat).map λi=>.int (lo+(i:Nat)))
def sO(t:DA):DI:=λσ O=>(t σ O).bnd λxs O1=>match xs with
 |[.int j]=>if -1000000<=j/\j<=1000000 then .ok (DU 0 j) O1 else .bad
 |_=>.bad
def DC(t:DA):DI:=λσ O=>(t σ O).bnd λxs O1=>match xs with
 |[.int i,.int j]=>if -1000000<=i/\i<=1000000/\-1000000<=j/\j<=1000000 then .ok (DU i j) O1 else .bad
 |_=>.bad
def PI.imp(h:PI X tg iter t)(f:∀σ H Q,t' σ H Q->t σ H Q):PI X tg iter t':=λd s σ H Q I q=>h d s σ H Q I (f σ H Q q)
def uj(h:oC K H XV μ [d] vs):∃v,vs=[v]/\Y2 K H XV μ d v:=by unfold oC at h;obtain⟨v,r,rfl,f,e⟩:=h;unfold oC at e;subst e;exact⟨v,rfl,f⟩
def B6(h:oC K H XV μ [d,e] vs):∃v w,vs=[v,w]/\Y2 K H XV μ d v/\Y2 K H XV μ e w:=by unfold oC at h;obtain⟨v,r,rfl,f,g⟩:=h;obtain⟨w,rfl,i⟩:=uj g;exact⟨v,w,rfl,f,i⟩
def zbU(f:Gl X "range")(g:X.mg "range" = KM)(h:ug X Ex [a] t)(i:aN [a] X.env=[(qh,eval a X.env)]:=by rfl):sM X Ex tg (.Call (.Name "range" p) [a] [] pos) (sO t):=
 sM.mk <| PI.imp (zd1 f g h.out i) λo H Q ⟨k,s,u,O,l,m,q⟩=>uC.go l m q λd w y z A B x c r p=>by
  split at p
  ·rename_i j;obtain⟨⟨C,D⟩,p⟩:=post.ite p;obtain⟨v,rfl,e⟩:=uj r;unfold Y2 at e;subst e;refine⟨j,rfl,by lia,by lia,?_⟩;have:=post.here p c (oG.rng (lo:=0) (n:=(j-0).toNat));simpa using this
  ·exact ak p
def zbw(g:Gl X "range")(h:X.mg "range" = KM)(k:ug X Ex [a,b] t)(l:aN [a,b] X.env=[(qh,eval a X.env),(qh,eval b X.env)]:=by rfl)(m:aN [b] X.env=[(qh,eval b X.env)]:=by rfl):
  sM X Ex tg (.Call (.Name "range" p) [a,b] [] pos) (DC t):=
 sM.mk <| PI.imp (ze8 g h k.out l m) λy H Q ⟨o,z,A,O,s,u,q⟩=>uC.go s u q λd B C D E F x c r p=>by
  split at p
  ·rename_i i j;obtain⟨G,p⟩:=post.ite p;obtain⟨v,w,rfl,e,f⟩:=B6 r;unfold Y2 at e f;subst e;subst f;exact⟨i,j,rfl,⟨by lia,by lia,by lia,by lia⟩,post.here p c (oG.rng (lo:=i) (n:=(j-i).toNat))⟩
  ·exact ak p
end
inductive RS where
 |nx (σ:Sg) (O:Ow)
 |rt (d:D) (O:Ow)
 |bk (σ:Sg) (O:Ow)
 |ct (σ:Sg) (O:Ow)
 |exc (c:Nat) (O:Ow)
 |bad
 deriving Inhabited
abbrev DS:=Sg->Ow->RS
def R.bnS{α:Type}(r:R α)(k:α->Ow->RS):RS:=match r with
 |.ok a O=>k a O
 |.exc c O=>.exc c O
 |.bad=>.bad
section
variable(Ex:Nat->Hp->Prop)(K:ah)
def oF(H:Hp)(XV μ:List ae)(r:RS)(E:xZ):Prop:=match r with
 |.nx σ O=>∀d_ H' f_,Ext H μ H' f_->oD K H' XV f_ σ d_->oB K H' XV f_ O->E.nx d_ H'
 |.rt d O=>∀v H' f_,Ext H μ H' f_->oB K H' XV f_ O->Y2 K H' XV f_ d v->E.rt v H'
 |.bk σ O=>∀d_ H' f_,Ext H μ H' f_->oD K H' XV f_ σ d_->oB K H' XV f_ O->E.bk d_ H'
 |.ct σ O=>∀d_ H' f_,Ext H μ H' f_->oD K H' XV f_ σ d_->oB K H' XV f_ O->E.ct d_ H'
 |.exc c O=>∀H' f_,Ext H μ H' f_->oB K H' XV f_ O->Ex c H'
 |.bad=>False
def Ls(t:DS):TS:=λE d_ H=>∃XV μ σ O,oD K H XV μ σ d_/\oB K H XV μ O/\oF Ex K H XV μ (t σ O) E
end
structure sC(X:Cx)(Ex:Nat->Hp->Prop)(st:eI)(t:DS):Prop where
 out:PS X st (Ls Ex X.K t)
structure t7(X:Cx)(Ex:Nat->Hp->Prop)(st:List eI)(t:DS):Prop where
 out:tF X st (Ls Ex X.K t)
def PS.imp(h:PS X st t)(f:∀E σ H,t' E σ H->t E σ H):PS X st t':=λa s σ H D I q=>h a s σ H D I (f D σ H q)
def tF.imp(h:tF X st t)(f:∀E σ H,t' E σ H->t E σ H):tF X st t':=λa s σ H D I q=>h a s σ H D I (f D σ H q)
section
variable{Ex:Nat->Hp->Prop}{K:ah}{H H1:Hp}{XV μ h_:List ae}
def oF.ext{r:RS}{E:xZ}(h:oF Ex K H XV μ r E)(e:Ext H μ H1 h_):oF Ex K H1 XV h_ r E:=by
 cases r with
 |nx σ O=>exact λj f g i a b=>h j f g (e.trans i) a b
 |bk σ O=>exact λj f g i a b=>h j f g (e.trans i) a b
 |ct σ O=>exact λj f g i a b=>h j f g (e.trans i) a b
 |rt d O=>exact λv f g i a b=>h v f g (e.trans i) a b
 |exc c O=>exact λf g i a=>h f g (e.trans i) a
 |bad=>exact h
def oF.bnS{α b:Type}{a:Hp->List ae->α->b->Prop}{r:R α}{k:α->Ow->RS}{E:xZ}{Q1:b->Hp->Prop}(h:oF Ex K H XV μ (r.bnS k) E)
  (f:∀d O1 v H1 h_,Ext H μ H1 h_->oB K H1 XV h_ O1->a H1 h_ d v->oF Ex K H1 XV h_ (k d O1) E->Q1 v H1):post Ex K a H XV μ r Q1:=by
 cases r with
 |ok d O'=>exact λv g i e c q=>f d O' v g i e c q (oF.ext (show oF Ex K H XV μ (k d O') E from h) e)
 |exc c O'=>exact h
 |bad=>exact h
end
section
variable{X:Cx}{Ex:Nat->Hp->Prop}{pos:Pos}{a b c e tg:aT}{tb tc te:DE}
def yc{st:eI}{t:TS}{t':DS}(h:PS X st t)(f:∀XV μ σ O E d H,oD X.K H XV μ σ d->oB X.K H XV μ O->oF Ex X.K H XV μ (t' σ O) E->t E d H):sC X Ex st t':=
 ⟨PS.imp h λE d H ⟨XV,μ,σ,O,g,i,q⟩=>f XV μ σ O E d H g i q⟩
def J8(h:tF X st t)(f:∀XV μ σ O E d H,oD X.K H XV μ σ d->oB X.K H XV μ O->oF Ex X.K H XV μ (t' σ O) E->t E d H):t7 X Ex st t':=
 ⟨tF.imp h λE d H ⟨XV,μ,σ,O,g,i,q⟩=>f XV μ σ O E d H g i q⟩
def rd.goS{t:DE}{XV μ:List ae}{σ:Sg}{O:Ow}{i:St}{H:Hp}{Q1:VK}{k:D->Ow->RS}{E:xZ}(j:oD X.K H XV μ σ i)(l:oB X.K H XV μ O)
  (q:oF Ex X.K H XV μ ((t σ O).bnS k) E)
  (f:∀d O1 v g h,oD X.K g XV h σ i->Ext H μ g h->oB X.K g XV h O1->Y2 X.K g XV h d v->oF Ex X.K g XV h (k d O1) E->Q1 v g):rd Ex X.K t i H Q1:=
 ⟨XV,μ,σ,O,j,l,oF.bnS q λd O1 v g h x c r p=>f d O1 v g h (j.ext x) x c r p⟩
def xf.goS{t:DT}{XV μ:List ae}{σ:Sg}{O:Ow}{i:St}{H:Hp}{Q1:Bool->Hp->Prop}{k:Bool->Ow->RS}{E:xZ}(j:oD X.K H XV μ σ i)(l:oB X.K H XV μ O)
  (q:oF Ex X.K H XV μ ((t σ O).bnS k) E)
  (f:∀v O1 g h,oD X.K g XV h σ i->Ext H μ g h->oB X.K g XV h O1->oF Ex X.K g XV h (k v O1) E->Q1 v g):xf Ex X.K t i H Q1:=
 ⟨XV,μ,σ,O,j,l,oF.bnS q λd O1 v g h x c r p=>by
  have r:d=v:=r;subst r;exact f d O1 g h (j.ext x) x c p⟩
def qo:DS:=λσ O=>.nx σ O
def l_(t u:DS):DS:=λσ O=>match t σ O with
 |.nx σ' O'=>u σ' O'
 |r=>r
def zg5:t7 X Ex [] qo:=J8 ZM λd f j O E g H h i q=>q g H f .refl h i
def qx{st:eI}{f:List eI}{t u:DS}(j:sC X Ex st t)(k:t7 X Ex f u):t7 X Ex (st::f) (l_ t u):=
 J8 (D9 j.out k.out) λh l i O E r H m n q=>by
  refine⟨h,l,i,O,m,n,?_⟩;unfold l_ at q;cases g:t i O with
  | nx σ' O'=>
   rw[g] at q;exact λs v o p a b=>⟨h,o,σ',O',a,b,q.ext p⟩
  |rt d O'=>rw[g] at q;exact q
  |bk σ' O'=>rw[g] at q;exact q
  |ct σ' O'=>rw[g] at q;exact q
  |exc c O'=>rw[g] at q;exact q
  |bad=>rw[g] at q;exact q
def qQ(d:sC X Ex st t):t7 X Ex [st] t:=⟨PU d.out⟩
def pR(t:DE):DS:=λσ O=>(t σ O).bnS λd O1=>.rt d O1
def YJ(f:PD X Ex e te):sC X Ex (.Return (KF e) pos) (pR te):=
 yc (Yk f.out) λg l m O E n H h i q=>rd.goS h i q λd o v j k s x c r p=>p v j k .refl c r
def qm(c:DT)(t u:DS):DS:=λσ O=>(c σ O).bnS λb O1=>if b=qb then t σ O1 else u σ O1
def WK{c:aT}{x y:List eI}{tc:DT}{t u:DS}(j:rm X Ex c tc)(l:t7 X Ex x t)(m:t7 X Ex y u):sC X Ex (.If c x y pos) (qm tc t u):=
 yc (VS j.out l.out m.out) λd r f O E s H n o q=>xf.goS n o q λk g v h i x c p=>by
  cases k with
  |true=>rw[qq rfl];exact⟨d,h,f,g,i,c,p⟩
  |false=>rw[qM ck];exact⟨d,h,f,g,i,c,p⟩
def Dw:DS:=λ_ _=>.bad
def Kw:t7 X Ex st Dw:=J8 zdr λd f g O E h H i j q=>q
def rL(t:DE):DS:=λσ O=>(t σ O).bnS λ_ O1=>.nx σ O1
def zg0(f:PD X Ex e te)(g:swapsWith e KM pos.line X.env=pure qh:=by rfl):sC X Ex (.Expr e pos) (rL te):=
 yc (Pz f.out g) λh o s O E i H j k q=>rd.goS j k q λd t v l m n x c r p=>p i l m .refl n c
def pS(i:Nat)(t:DE):DS:=λσ O=>(t σ O).bnS λd O1=>.nx (σ.set i (KF d)) O1
def J7(f:X.N.Nodup)(g:X.N[i]?=KF x)(h:Loc X.env.scope x)(j:PD X Ex e te)(k:swapsWith e (KF (.Name x pos')) pos.line X.env=pure qh:=by rfl)
  (l:X.fn x=qb\/X.env.scope.names.lookup x=KF .local:=by first|exact .inl rfl|exact .inr rfl):sC X Ex (.Assign [.Name x pos'] e pos) (pS i te):=
 yc (OZ f g h j.out k l) λm y z O E n H o s q=>rd.goS o s q λd A v t u w x c r p=>p (n.set i (KF v)) t u .refl (w.set r i) c
inductive Tg where
 |one (i:Nat)
 |two (i j:Nat)
noncomputable def Tg.put:Tg->D->Sg->Option Sg
 |.one i,d,σ=>KF (σ.set i (KF d))
 | .two i j,d,σ=>match d with
  |.tup [x,y]=>KF ((σ.set i (KF x)).set j (KF y))
  |_=>KM
def Tg.rd(K:ah):Tg->TG
 |.one i=>x_ i
 |.two i j=>NI K 2 (Jk (x_ i) (Jk (x_ j) NP))
def Tg.slots:Tg->List Nat
 |.one i=>[i]
 |.two i j=>[i,j]
def Tg.ok2(g:Tg)(n:oD K H XV μ σ d_)(q:Y2 K H XV μ d v)(h:g.put d σ=KF σ')
  (k:∀f,oD K H XV μ σ' f->(∀i,i∉g.slots->f[i]?=d_[i]?)->Q f H):g.rd K v d_ H Q:=by
 cases g with
 | one i=>
  cases h;exact k _ (n.set q i) λj p=>bt (λe=>p (by simp[Tg.slots,e]))
 | two i j=>
  unfold Tg.put at h;dsimp only at h;split at h
  ·rename_i x y;cases h;unfold Y2 at q;obtain⟨a,t,rfl,l,q⟩:=q;obtain⟨u,w,rfl,r,s⟩:=B6 q;refine⟨a,[u,w],rfl,l.sq,rfl,u,[w],rfl,w,[],rfl,rfl,k _ ((n.set r i).set s j) λm o=>?_⟩;rw[bt (λe=>o (by simp[Tg.slots,e])),bt (λe=>o (by simp[Tg.slots,e]))]
  ·cases h
def Tg.ok{K:ah}{H:Hp}{XV μ:List ae}{σ σ':Sg}{f:St}{d:D}{v:V}{Q:St->Hp->Prop}(g:Tg)(m:oD K H XV μ σ f)(q:Y2 K H XV μ d v)(h:g.put d σ=KF σ')(k:∀n,oD K H XV μ σ' n->Q n H):g.rd K v f H Q:=by
 cases g with
 |one i=>cases h;exact k _ (m.set q i)
 | two i j=>
  unfold Tg.put at h;dsimp only at h;split at h
  ·rename_i x y;cases h;unfold Y2 at q;obtain⟨a,r,rfl,l,q⟩:=q;obtain⟨u,w,rfl,o,p⟩:=B6 q;exact⟨a,[u,w],rfl,l.sq,rfl,u,[w],rfl,w,[],rfl,rfl,k _ ((m.set o i).set p j)⟩
  ·cases h
def XH(d:X.N.Nodup)(f:X.N[i]?=KF x)(g:Loc X.env.scope x)(h:X.fn x=qb\/X.env.scope.names.lookup x=KF .local:=by first|exact .inl rfl|exact .inr rfl|assumption):PG X (.Name x pos) ((Tg.one i).rd X.K):=JL d f g h
noncomputable def tN(src:Src)(step:D->Sg->Ow->RS):Nat->Nat->Sg->Ow->RS
 | 0,i,σ,O=>match src.get O i with
  |none=>.nx σ O
  |some _=>.bad
 | f+1,i,σ,O=>match src.get O i with
  |none=>.nx σ O
  | some d=>match step d σ O with
   |.nx σ' O'=>tN src step f (i+1) σ' O'
   |.ct σ' O'=>tN src step f (i+1) σ' O'
   |.bk σ' O'=>.nx σ' O'
   |r=>r
def rC(it:DI)(g:Tg)(body:DS):DS:=λσ O=>(it σ O).bnS λsrc O1=>tN src (λd σ O=>match g.put d σ with|some σ'=>body σ' O|none=>.bad) (src.size O1) 0 σ O1
def YH{u:aT}{body:List eI}{it:DI}{g:Tg}{tb:DS}(hp:kH (ay X.prog X.w) X.A X.env X.xe)(hc:X.calm=qb)(hi:sM X Ex tg u it)(hg:PG X tg (g.rd X.K))(hb:t7 X Ex body tb)
  (hs:∀x,bU u X.env x=pure x:=by intro _;rfl):sC X Ex (.For tg u body [] pos) (rC it g tb):=
 yc (O7 hp hc hi.out hg hb.out hs) λk μ Q O E d_ H Y c1 q=>by
  refine⟨k,μ,Q,O,Y,c1,oF.bnS q λo O1 J Z S x1 c2 sa p=>?_⟩;generalize wy:(λ(d:D)(Q:Sg)(O:Ow)=>match g.put d Q with|some j=>tb j O|none=>RS.bad)=n at p;refine⟨λi m L t=>∃s j z,Ext Z S t s/\oD X.K t k s j L/\oB X.K t k s z/\oF Ex X.K t k s (tN o n m i j z) E,⟨_,S,Q,O1,.refl,Y.ext x1,c2,p⟩,?_⟩;rintro i m v8 M ⟨F,N,B,x2,T,U,C⟩;have R:=sa k M F B x2.mv U i;cases G:o.get B i with
  | none=>
   rw[G] at R;refine .inl ⟨R,?_⟩;cases m with
   | zero=>
    have l:oF Ex X.K M k F (match o.get B i with|none=>.nx N B|some _=>.bad) E:=C;rw[G] at l;exact l v8 M F .refl T U
   | succ f=>
    unfold tN at C;rw[G] at C;exact C v8 M F .refl T U
  | some d=>
   rw[G] at R;obtain⟨go,yl⟩:=R;cases m with
   | zero=>
    have l:oF Ex X.K M k F (match o.get B i with|none=>.nx N B|some _=>.bad) E:=C;rw[G] at l;exact ak l
   | succ f=>
    refine .inr ⟨go,λL t=>∃s j z,Ext Z S t s/\oD X.K t k s j L/\oB X.K t k s z/\oF Ex X.K t k s (tN o n f (i+1) j z) E,λj t h=>⟨f,cP f,h⟩,λv H3 y=>?_⟩;obtain⟨V,c4,r⟩:=yl v H3 y;unfold tN at C;rw[G] at C;have l:oF Ex X.K H3 k F (match n d N B with
     |.nx j z=>tN o n f (i+1) j z
     |.ct j z=>tN o n f (i+1) j z
     |.bk j z=>.nx j z
     |r=>r) E:=oF.ext C V
    cases W:g.put d N with
    | none=>
     rw[<- wy] at l;simp only[W] at l;exact ak l
    | some sF=>
     refine Tg.ok g (T.ext V) r W λU0 e3=>⟨k,F,sF,B,e3,c4,?_⟩;have Fc:n d N B=tb sF B:=by rw[<- wy];simp only[W]
     rw[Fc] at l;have x4:=x2.trans V;cases I:tb sF B with
     |nx F8 O4=>rw[I] at l;exact λL t s P a b=>⟨s,F8,O4,x4.trans P,a,b,l.ext P⟩
     |ct F8 O4=>rw[I] at l;exact λL t s P a b=>⟨s,F8,O4,x4.trans P,a,b,l.ext P⟩
     |bk F8 O4=>rw[I] at l;exact l
     |rt d4 O4=>rw[I] at l;exact l
     |exc c4 O4=>rw[I] at l;exact l
     |bad=>rw[I] at l;exact l
end
structure Cl where
 it:DI
 g:Tg
 ifs:List DT
def qu:List Cl->List Nat
 |[]=>[]
 |c::cs=>c.g.slots++qu cs
def ql{α:Type}(σ:List (Option α)):List Nat->List (Option α)
 |[]=>σ
 |i::r=>ql (σ.set i KM) r
def tG:List DT->DT
 |[]=>λ_ O=>.ok qb O
 |c::cs=>λσ O=>(c σ O).bnd λb O1=>if b=qb then tG cs σ O1 else .ok qh O1
noncomputable def qD(src:Src)(step:D->Ow->List D->R (List D)):Nat->Nat->Ow->List D->R (List D)
 | 0,i,O,KB=>match src.get O i with
  |none=>.ok KB O
  |some _=>.bad
 | f+1,i,O,KB=>match src.get O i with
  |none=>.ok KB O
  |some d=>(step d O KB).bnd λqX O'=>qD src step f (i+1) O' qX
def ui:List Cl->DE->Sg->Ow->List D->R (List D)
 |[],elt,σ,O,KB=>(elt σ O).bnd λv O1=>if KB.length<4000000 then .ok (KB++[v]) O1 else .bad
 | c::cs,elt,σ,O,KB=>(c.it σ O).bnd λsrc O1=>qD src (λd O2 KB=>match c.g.put d (ql σ (qu (c::cs))) with
   |some qL=>(tG c.ifs qL O2).bnd λb O3=>if b=qb then ui cs elt qL O3 KB else .ok KB O3
   |none=>.bad) (src.size O1) 0 O1 KB
def yb(c:Cl)(cs:List Cl)(elt:DE)(σ:Sg):D->Ow->List D->R (List D):=λd O2 KB=>match c.g.put d (ql σ (qu (c::cs))) with
   |some qL=>(tG c.ifs qL O2).bnd λb O3=>if b=qb then ui cs elt qL O3 KB else .ok KB O3
   |none=>.bad
abbrev Em:=Sg->Ow->List D->R (List D)
def zK(te:DE):Em:=λσ O KB=>(te σ O).bnd λv O1=>if KB.length<4000000 then .ok (KB++[v]) O1 else .bad
def uX:List Cl->Em->Sg->Ow->List D->R (List D)
 |[],em,σ,O,KB=>em σ O KB
 | c::cs,em,σ,O,KB=>(c.it σ O).bnd λsrc O1=>qD src (λd O2 KB=>match c.g.put d (ql σ (qu (c::cs))) with
   |some qL=>(tG c.ifs qL O2).bnd λb O3=>if b=qb then uX cs em qL O3 KB else .ok KB O3
   |none=>.bad) (src.size O1) 0 O1 KB
def uJ(c:Cl)(cs:List Cl)(em:Em)(σ:Sg):D->Ow->List D->R (List D):=λd O2 KB=>match c.g.put d (ql σ (qu (c::cs))) with
   |some qL=>(tG c.ifs qL O2).bnd λb O3=>if b=qb then uX cs em qL O3 KB else .ok KB O3
   |none=>.bad
theorem P4(te:DE):∀a:List Cl,uX a (zK te)=ui a te
 |[]=>by funext σ O KB;unfold uX ui zK;rfl
 |c::cs=>by funext σ O KB;unfold uX ui;rw[P4 te cs]
def YC(c:Cl)(cs:List Cl)(te:DE):uJ c cs (zK te)=yb c cs te:=by funext σ d O KB;unfold uJ yb;rw[P4 te cs]
theorem DW{α:Type}:∀(l:List Nat)(σ:List (Option α)),(ql σ l).length=σ.length
 |[],_=>rfl
 |i::r,σ=>by unfold ql;rw[DW r];simp
theorem JM{α:Type}:∀(l:List Nat)(σ:List (Option α))(i:Nat),i∉l->(ql σ l)[i]?=σ[i]?
 |[],σ,i,h=>rfl
 | j::r,σ,i,h=>by
  unfold ql;rw[JM r _ i λz=>h (aj _ z),bt λz=>h (by simp[z])]
theorem GX{α:Type}:∀(l:List Nat)(σ:List (Option α))(i:Nat)(d:α),(ql σ l)[i]?=KF (KF d)->σ[i]?=KF (KF d)/\i∉l
 |[],σ,i,d,h=>⟨h,by simp⟩
 | j::r,σ,i,d,h=>by
  unfold ql at h;obtain⟨a,b⟩:=GX r _ i d h;by_cases e:j=i
  ·subst e;by_cases c:j<σ.length
   ·rw[bB c] at a;cases a
   ·rw[a8.mpr (by simp;lia)] at a;cases a
  ·rw[bt e] at a;exact⟨a,by simp[b];exact λz=>e z.symm⟩
structure Ea(A:ae)(H:Hp)(μ:List ae)(H':Hp)(f_:List ae):Prop where
 pre:∃ν,f_=μ++ν
 kept:∀b o,H b=KF o->b∉μ->b≠A->B_ o->H' b=KF o
 fresh:∀b∈f_,b∈μ\/H b=KM
 there:∀b,H b≠KM->H' b≠KM
 tab:∀P,oP H P->oP H' P
section
variable{K:ah}{A:ae}{H H' H1 H2:Hp}{XV μ f_ h_ pZ:List ae}
def Ext.ea(e:Ext H μ H' f_):Ea A H μ H' f_:=⟨e.pre,λb o h n _ a=>e.kept b o h n a,e.fresh,e.there,e.tab⟩
def Ea.refl:Ea A H μ H μ:=Ext.refl.ea
def Ea.trans(a:Ea A H μ H1 h_)(b:Ea A H1 h_ H2 pZ):Ea A H μ H2 pZ:=by
 have i:∀c,H1 c=KM->H c=KM:=λc h=>by
  cases e:H c with
  |none=>rfl
  |some o=>exact absurd h (a.there c (by rw[e];simp))
 refine⟨?_,λc o h d f g=>?_,λc h=>?_,λc h=>b.there c (a.there c h),λP t=>b.tab P (a.tab P t)⟩
 ·obtain⟨x,rfl⟩:=a.pre;obtain⟨y,rfl⟩:=b.pre;exact⟨x++y,by simp⟩
 ·refine b.kept c o (a.kept c o h d f g) (λm=>?_) f g;rcases a.fresh c m with z|z
  ·exact d z
  ·rw[z] at h;cases h
 ·rcases b.fresh c h with z|z
  ·exact a.fresh c z
  ·exact .inr (i c z)
def Ea.mv(e:Ea A H μ H' f_):Mv H (A::XV) μ H' (A::XV) f_:=⟨e.pre,λb o h a c d=>e.kept b o h a (λz=>c (by simp[z])) d,e.fresh,λ_ m=>.inl m,e.there,e.tab⟩
def Ea.putX(a:∀P,oP H P->oP (upd H A o) P):Ea A H μ (upd H A o) μ:=⟨⟨[],by simp⟩,λb u h _ n _=>by rw[p9 n];exact h,λ_ m=>.inl m,w9,a⟩
def oB.putX(c:oB K H (A::XV) μ O)(b:∀P,oP H P->oP (upd H A o) P):oB K (upd H A o) (A::XV) μ O:=by refine⟨c.len,c.nd,c.nh,λa m=>w9 a (c.ht a m),λk a e=>?_⟩;obtain⟨d,f,g,h,i⟩:=c.at_ k a e;have j:a≠A:=λz=>c.nh a (aD e) (by simp[z]);exact⟨d,f,g,by rw[p9 j];exact h,i.mv (Ea.putX (A:=A) b).mv⟩
def Ea.put{o:HO}(a:∃vs,H A=KF (.lst vs)):Ea A H μ (upd H A o) μ:=.putX λ_ t=>t.upd (.inr a)
def oB.putA{o:HO}{O:Ow}(c:oB K H (A::XV) μ O)(a:∃vs,H A=KF (.lst vs)):oB K (upd H A o) (A::XV) μ O:=c.putX λ_ t=>t.upd (.inr a)
def oB.unhide(c:oB K H (A::XV) μ O):oB K H XV μ O:=
 ⟨c.len,c.nd,λa m z=>c.nh a m (aj _ z),λa m=>c.ht a (aj _ m),λk a e=>
  let ⟨ds,vs,h1,h2,h3⟩:=c.at_ k a e
  ⟨ds,vs,h1,h2,h3.mv .unhide⟩⟩
end
abbrev qy:Nat->Hp->Prop:=λ_ _=>False
inductive oU(X:Cx):List bJ->List Cl->Prop where
 |nil:oU X [] []
 | cons {tg iter:aT} {ifs:List aT} {gs:List bJ} {c:Cl} {cs:List Cl} (hi:sM X qy tg iter c.it) (hs:∀x,bU iter X.env x=pure x) (hg:PG X tg (c.g.rd X.K))
   (hf:cj (λe t=>rm X qy e t) ifs c.ifs) (r:oU X gs cs):oU X (⟨tg,iter,ifs,0⟩::gs) (c::cs)
section
variable{X:Cx}
def Aa{α:Type}{M:iY}{A:ba}{t:Sem α}{Q c:α->ag->Prop}{E:ab->ag->Prop}{s:ag}(d:X.xe=λ_ _=>False)(h:ao M A t Q X.xe s)(k:∀a b,Q a b->c a b):ao M A t c E s:=
 cy h k λe b z=>by rw[d] at z;exact z.elim
theorem SO{env:Env}{M:iY}{A:ba}{E:ab->ag->Prop}{s:ag}{Q:Bool->ag->Prop}(h:Q qh s):∀(a:List aT),ao M A (forIn a qh λc r=>if r=qb then do let ok <- isTrue c env (eval c env);pure (gd ok) else pure (gd r)) Q E s
 |[]=>ai h
 | c::cs=>by
  simp only[ge,bX,if_false];exact aa (ai (SO h cs))
theorem QN{E:ab->ag->Prop}{XV:List ae}(j:X.xe=λ_ _=>False):∀{a:List aT}{ts:List DT},cj (λe t=>rm X qy e t) a ts->∀(Y1:List (ae×Obj))(s:ag)(d_:St)(H:Hp)(μ:List ae)(σ:Sg)(O:Ow)(Q:Bool->ag->Prop),
  L2.Inv X Y1 d_ H s->oD X.K H XV μ σ d_->oB X.K H XV μ O->
  wZ qy X.K H XV μ (tG ts σ O) (λb H'=>∀h,L2.Inv X Y1 d_ H' h->Q b h)->
  ao (ay X.prog X.w) X.A (forIn a qb λc r=>if r=qb then do let ok <- isTrue c X.env (eval c X.env);pure (gd ok) else pure (gd r)) Q E s
 |_,_,.nil,Y1,s,d_,H,μ,σ,O,Q,I,e1,c1,q=>ai (post.here (v:=qb) q c1 rfl s I)
 | _::a,_::ts,.cons hc hr,Y1,s,d_,H,μ,σ,O,Q,I,e1,c1,q=>by
  simp only[ge,if_true];refine aa (aa (Aa j (hc.out Y1 s d_ H _ I (xf.go e1 c1 q (Q1:=λb g=>∃d f,oD X.K g XV d σ d_/\oB X.K g XV d f/\wZ qy X.K g XV d (if b=qb then tG ts σ f else .ok qh f) (λb H'=>∀h,L2.Inv X Y1 d_ H' h->Q b h))
   λb f g d i x c p=>⟨d,f,i,c,p⟩)) λb k ⟨g,l,d,f,i,m,p⟩=>ai ?_))
  show ao _ _ (forIn a b _) _ _ _;cases b with
  |true=>rw[qq rfl] at p;exact QN j hr Y1 k d_ g d σ f Q l i m p
  |false=>rw[qM ck] at p;exact SO (post.here (v:=qh) p m rfl k l) a
structure vL where
 ex:List bJ->cT->Pos->aT
 emit:ab->Env->Sem Unit
 new:Sem ab
 ho:aP->aY->ae->HO
 G:ah->aP->aY->ae->List ae->Hp->List ae->List D->Prop
structure Bs(X:Cx)(C:vL)(A:ae)(XV:List ae)(Y1:List (ae×Obj))(s:ag)(d_:St)(H:Hp)(μ:List ae)(σ:Sg)(O:Ow)(KB:List D):Prop where
 inv:L2.Inv X Y1 d_ H s
 env:oD X.K H (A::XV) μ σ d_
 cells:oB X.K H (A::XV) μ O
 grown:C.G X.K X.prog X.w A XV H μ KB
def N7(X:Cx)(C:vL)(A:ae)(XV:List ae)(Y1:List (ae×Obj))(d_:St)(H:Hp)(μ:List ae)(sl:List Nat)(KB:List D)(O:Ow)(Q:ag->Prop):Prop:=
 ∀s' pY H' f_,L2.Inv X Y1 pY H' s'->Ea A H μ H' f_->oB X.K H' (A::XV) f_ O->C.G X.K X.prog X.w A XV H' f_ KB->pY.length=d_.length->(∀i,i∉sl->pY[i]?=d_[i]?)->Q s'
def yd(X:Cx)(C:vL)(A:ae)(XV:List ae)(Y1:List (ae×Obj))(d_:St)(H:Hp)(μ:List ae)(sl:List Nat)(r:R (List D))(Q:ag->Prop):Prop:=match r with
 |.ok KB O=>N7 X C A XV Y1 d_ H μ sl KB O Q
 |_=>False
noncomputable def AH(e:aT)(em:ab->Env->Sem Unit)(gens:List bJ)(k:Nat)(KB:ab)(env:Env):Sem Unit:=match gens[k]? with
 | some g'=>do
  let x <- eval g'.iter env
  standAt g'.iter.pos
  let x <- if g'.is_async !=0 then foldedIterable g'.iter x else bU g'.iter env x
  let _ <- runOwn (.compStart e k (<- holding [x] (if g'.is_async !=0 then asyncIter x else pyIter x)) KB env) env
 |none=>em KB env
def XO(C:vL):Prop:=∀(gens:List bJ)(scope:cT)(pos:Pos)(k:Nat)(it KB:ab)(env:Env){tg iter:aT}{ifs:List aT},gens[k]?=KF ⟨tg,iter,ifs,0⟩->
  (gens[k+1]?=KM \/ ∃A3 tR vE,gens[k+1]?=KF ⟨A3,tR,vE,0⟩)->
  compTurn (C.ex gens scope pos) k it KB env=(do
   standAt iter.pos
   match <- pyNext it with
   |none=>pure (.done .next)
   | some v=>
    letOwnedTupleGo tg it v
    assign tg env v
    let mut ok:=qb
    for c in ifs do
     if ok then ok <- isTrue c env (eval c env)
    if ok then AH (C.ex gens scope pos) C.emit gens (k+1) KB env
    again (.compLoop (C.ex gens scope pos) k it KB env))
structure AM(C:vL):Prop where
 cl:∀gens scope pos,clausesOf (C.ex gens scope pos)=gens
 turn:XO C
 keep:∀{K P w A XV H μ KB H' f_},C.G K P w A XV H μ KB->A∉μ->Ext H μ H' f_->C.G K P w A XV H' f_ KB
 new:∀{P:aP}{w:aY}{A:ba}{E:ab->ag->Prop}{Q:ab->ag->Prop}{s:ag},(∀o:Obj,o.isFreed=qh->(∀(H:Hp)(h:aX)(a:ae),sysModules<a->h.get? a=KF o->oN P w (upd H a (C.ho P w a)) h a (C.ho P w a))->Q (.ref s.heap.objs.size) { s with heap:=s.heap.push o })->ao (ay P w) A C.new Q E s
 g0:∀{K P w a XV H μ},C.G K P w a XV (upd H a (C.ho P w a)) μ []
 q1:∀gens scope pos k it KB env,(lW (C.ex gens scope pos) k it KB env).quiet=qb
 u1:∀(A:ba)gens scope pos k it KB env,A.under (lW (C.ex gens scope pos) k it KB env)=A
 d1:∀P w gens scope pos k it KB env,(ay P w).den (lW (C.ex gens scope pos) k it KB env)=(compTurn (C.ex gens scope pos) k it KB env).onRaise (λx=>do noteFrame x env;theTreesLotGoes x)
 u2:∀(A:ba)gens scope pos k it KB env,A.under (nM (C.ex gens scope pos) k it KB env)=A
 d2:∀P w gens scope pos k it KB env,(ay P w).den (nM (C.ex gens scope pos) k it KB env)=(compStart (C.ex gens scope pos) k it KB env).onRaise (λx=>do noteFrame x env;standAt theWindowsPlace)
noncomputable def AB(elt:aT):vL where
 ex:=λgens scope pos=>.ListComp elt gens scope pos
 emit:=λKB env=>do let _ <- call (.builtin "list.append") [KB,<- eval elt env]
 new:=newList []
 ho:=λ_ _ _=>.lst []
 G:=λK _ _ A XV H μ KB=>∃vs,H A=KF (.lst vs)/\oC K H (A::XV) μ KB vs
def Kr(c:aT):AM (AB c) where
 cl:=λ_ _ _=>rfl
 turn:=λd b g k n i j t l o m f=>by
  show compTurn (.ListComp c d b g) k n i j=_;unfold compTurn AH;rcases f with f|⟨u,v,w,f⟩
  ·simp only[m,f];rfl
  ·simp only[m,f,bne_self_eq_false,bX,if_false,bind_assoc,pure_bind]
   first|rfl|congr 1
 keep:=λ⟨p,q,r⟩ s x=>⟨p,x.keep _ _ q s,r.ext x⟩
 new:=λh=>cH (h _ rfl λH h a _ e=>⟨bE _,[],0,.nil,e⟩)
 g0:=⟨[],rq,.nil⟩
 q1:=λ_ _ _ _ _ _ _=>rfl
 u1:=λ_ _ _ _ _ _ _ _=>rfl
 d1:=λ_ _ _ _ _ _ _ _ _=>rfl
 u2:=λ_ _ _ _ _ _ _ _=>rfl
 d2:=λ_ _ _ _ _ _ _ _ _=>rfl
noncomputable def Tx(Z:St->Hp->List ae->Prop)(K:ah)(XV:List ae)(t:DE):TE:=λd_ H Q=>∃μ σ O,Z d_ H μ/\oD K H XV μ σ d_/\oB K H XV μ O/\q0 qy K H XV μ (t σ O) Q
def PD.z{X:Cx}{Z:St->Hp->List ae->Prop}{XV:List ae}{e:aT}{t:DE}(h:PD X qy e t):PE X e (Tx Z X.K XV t):=λa s b H Q I ⟨c,d,O,_,f,g,q⟩=>h.out a s b H Q I ⟨XV,c,d,O,f,g,q⟩
section
variable{C:vL}{Z:St->Hp->List ae->Prop}{A:ae}{XV:List ae}{elt:aT}{gens:List bJ}{scope:cT}{pos:Pos}{te:DE}{em:Em}
def yO(X:Cx)(Z:St->Hp->List ae->Prop)(C:vL)(A:ae)(XV:List ae)(e:aT)(gens:List bJ)(em:Em)(k:Nat)(cls:List Cl):Prop:=∀(Y1:List (ae×Obj))(s:ag)(d_:St)(H:Hp)(μ:List ae)(σ:Sg)(O:Ow)(KB:List D)(Q:ag->Prop)(E:ab->ag->Prop),
 Z d_ H μ->Bs X C A XV Y1 s d_ H μ σ O KB->yd X C A XV Y1 d_ H μ (qu cls) (uX cls em σ O KB) Q->ao (ay X.prog X.w) X.A (AH e C.emit gens k (.ref A) X.env) (λ_ s'=>Q s') E s
def zg1{k:Nat}{e:aT}(t:X.xe=λ_ _=>False)(F:PE X elt (Tx Z X.K (A::XV) te))(G:gens[k]?=KM):yO X Z (AB elt) A XV e gens (zK te) k []:=by
 intro a s h H i w O b Q E z B q;unfold AH;rw[G];show ao _ _ (do let _ <- call (.builtin "list.append") [.ref A,<- eval elt X.env]) _ _ s;obtain⟨o,I,J⟩:=B.grown;cases j:te w O with
 | ok d O1=>
  have l:yd X (AB elt) A XV a h H i (qu []) (if b.length<4000000 then .ok (b++[d]) O1 else .bad) Q:=by
   have:=q;unfold uX zK at this;rw[j] at this;exact this
  by_cases p:b.length<4000000
  ·rw[qq p] at l;refine aa (Aa t (F a s h H (λv f=>∃g,Ext H i f g/\oB X.K f (A::XV) g O1/\Y2 X.K f (A::XV) g d v) B.inv ⟨i,w,O,z,B.env,B.cells,by rw[j];exact λv V L x c r=>⟨L,x,c,r⟩⟩)
    λu M ⟨v,f,N,P,g,x,c,r⟩=>?_)
   have R:A∉i:=λm=>B.cells.nh A m 'k';have n:f A=KF (.lst o):=x.keep A _ I R;have y:=J.ext x;refine aa (Aa t (RQ a M h f (.ref A) [v] (.ref A) [u] (λ_ D=>D=upd f A (.lst (o++[v]))) N rfl (.cons P .nil)
    ⟨A,o,v,rfl,rfl,n,bb (by rw[<- y.length];exact p) 'u',rfl⟩) λW S ⟨Y,D,T,r2,U⟩=>?_)
   subst U;refine ai (l S h _ g T (x.ea.trans (.put ⟨_,n⟩)) (c.putA ⟨_,n⟩) ⟨_,rq,?_⟩ rfl λ_ _=>rfl);exact(y.append (.cons r .nil)).mv (Ea.put ⟨_,n⟩).mv
  ·rw[qM p] at l;exact l.elim
 | exc c O1=>
  unfold uX zK at q;rw[j] at q;exact q.elim
 | bad=>
  unfold uX zK at q;rw[j] at q;exact q.elim
def PL(co:AM C){k:Nat}{tg iter:aT}{ifs:List aT}{c:Cl}{cs:List Cl}(hx:X.xe=λ_ _=>False)(pQ:X.calm=qb)(hk:gens[k]?=KF ⟨tg,iter,ifs,0⟩)(hg:PG X tg (c.g.rd X.K))(hf:cj (λe t=>rm X qy e t) ifs c.ifs)
  (hZ:∀(qL sN:St)U I H2 pZ,Z qL U I->(∀j,j∉qu (c::cs)->sN[j]?=qL[j]?)->Ea A U I H2 pZ->Z sN H2 pZ) (y:yO X Z C A XV (C.ex gens scope pos) gens em (k+1) cs) (hn:gens[k+1]?=KM \/ ∃A3 tR vE,gens[k+1]?=KF ⟨A3,tR,vE,0⟩) {it:ae} {fp:List ae} {tn:Nat->aX->Prop} {J:It} {src:Src} (T:wQ X.prog X.w X.K tg J fp it tn)
  (a:List (ae×Obj)) (s:ag) (h:St) (H:Hp) (μ:List ae) (σ:Sg) (O:Ow) (KB:List D) (n:Nat) (Q:ag->Prop) (st:tn 0 s.heap) (xQ:∀b∈fp,su X a H b) (sa:oG X.K J src H (A::XV) μ)
  (z0:Z h H μ) (B:Bs X C A XV a s h H μ σ O KB) (q:yd X C A XV a h H μ (qu (c::cs)) (qD src (uJ c cs em σ) n 0 O KB) Q):
  codeAny (ay X.prog X.w) X.A (.compLoop (C.ex gens scope pos) k (.ref it) (.ref A) X.env) (λr V=>∃f,r=.ok f/\Q V) s:=by
 have vC:∀{l:Hp},(∀b∈fp,l b=KM)->∀b∈fp,su X a l b:=λhn b y=>⟨hn b y,(xQ b y).2⟩;let P:Nat->ag->Prop:=λm V=>∃i M l N p E,L2.Inv X a M l V/\tn i V.heap/\(∀b∈fp,l b=KM)/\Ea A H μ l N/\oB X.K l (A::XV) N p/\C.G X.K X.prog X.w A XV l N E/\
  M.length=h.length/\(∀i,i∉qu (c::cs)->M[i]?=h[i]?)/\yd X C A XV a h H μ (qu (c::cs)) (qD src (uJ c cs em σ) m i p E) Q
 refine codeAny_loop (co.q1 _ _ _ _ _ _ _) P (λm s1 hP=>?_) n ⟨0,h,H,μ,O,KB,B.inv,st,λb y=>(xQ b y).1,.refl,B.cells,B.grown,rfl,λ_ _=>rfl,q⟩;rw[co.u1,co.d1];refine wpAny_noted ?_;rw[co.turn _ _ _ _ _ _ _ hk hn];obtain⟨i,v9,U,I,W,R,I1,qH,UC,x1,c1,g1,l1,k1,L⟩:=hP;have HZ:=sa (A::XV) U I W x1.mv c1 i
 -- the names that Ts
 have Na:oD X.K U (A::XV) I (ql σ (qu (c::cs))) v9:=by
  refine⟨by rw[DW,B.env.len,l1],λj d hj=>?_⟩;obtain⟨h1,h2⟩:=GX _ _ _ _ hj;obtain⟨v,h3,h4⟩:=B.env.at_ j d h1;exact⟨v,by rw[k1 j h2];exact h3,h4.mv x1.mv⟩
 cases q9:src.get W i with
 | none=>
  rw[q9] at HZ;have x:N7 X C A XV a h H μ (qu (c::cs)) R W Q:=by
   cases m with
   |zero=>unfold qD at L;rw[q9] at L;exact L
   |succ f=>unfold qD at L;rw[q9] at L;exact L
  refine aa (eS (aa (pV (T.done X rfl rfl rfl pQ i a s1 v9 U _ I1 (vC UC) qH HZ) λr s2 ⟨hr,I2⟩=>?_)));subst hr;exact ai ⟨_,rfl,x s2 v9 U I I2 x1 c1 g1 l1 k1⟩
 | some d=>
  rw[q9] at HZ;obtain⟨go,yl⟩:=HZ;cases m with
  | zero=>
   unfold qD at L;rw[q9] at L;exact L.elim
  | succ f=>
   have x:yd X C A XV a h H μ (qu (c::cs)) ((uJ c cs em σ d W R).bnd λE p=>qD src (uJ c cs em σ) f (i+1) p E) Q:=by
    have:=L;unfold qD at this;rw[q9] at this;exact this
   refine aa (eS (aa (pV (T.item X rfl rfl rfl pQ i a s1 v9 U _ I1 (vC UC) qH go) λr s2 ⟨u,hr,h2⟩=>?_)));subst hr;refine aa (pV h2 λ_ s3 ⟨v,H3,I3,r3,y3,qf,IC⟩=>?_);obtain⟨x3,c3,d3⟩:=yl v H3 y3;have I3':=I3.pinned (vC IC) (T.obj _ _ qf);cases uD:c.g.put d (ql σ (qu (c::cs))) with
   | none=>
    unfold uJ at x;rw[uD] at x;exact x.elim
   | some sF=>
    have E7:uJ c cs em σ d W R=((tG c.ifs sF W).bnd λb O3=>if b=qb then uX cs em sF O3 R else .ok R O3):=by
     unfold uJ;rw[uD]
    rw[E7] at x;refine aa (Aa hx (hg _ s3 v9 H3 v u (λY H4=>H4=H3/\oD X.K H3 (A::XV) I sF Y/\∀j,j∉c.g.slots->Y[j]?=v9[j]?) I3' r3 (Tg.ok2 c.g (Na.ext x3) d3 uD λY e4 k4=>⟨rfl,e4,k4⟩)) λ_ s4 ⟨Y,H4,I4,e4,FV,k4⟩=>?_);subst e4;have l4:Y.length=h.length:=by rw[I4.len,<- I3.len,l1]
    have LO:∀j,j∉qu (c::cs)->Y[j]?=h[j]?:=λj hj=>by
     rw[k4 j λz=>hj (bM _ z)];exact k1 j hj
    have nA:A∉I:=λm=>c1.nh A m 'k';have x13:Ea A H μ H4 I:=x1.trans x3.ea;have g3:=co.keep g1 nA x3
    -- behind the step: the next turn
    have F:∀{V:ag}{M:St}{l:Hp}{N:List ae}{p:Ow}{E:List D},L2.Inv X (a++DH fp s3.heap) M l V->Ea A H μ l N->oB X.K l (A::XV) N p->C.G X.K X.prog X.w A XV l N E->M.length=h.length->
      (∀i,i∉qu (c::cs)->M[i]?=h[i]?)->yd X C A XV a h H μ (qu (c::cs)) (qD src (uJ c cs em σ) f (i+1) p E) Q->∃m,m<f+1/\P m V:=by
     intro V M l N p E I' x' c' g' l' k' p';refine⟨f,cP f,i+1,M,l,N,p,E,I'.unpinned,T.keep _ _ _ qf λb y o e=>(I'.pin (b,o) (aA _ (aA _ (Hv y e)))).1,λb y=>?_,x',c',g',l',k',p'⟩;obtain⟨o,e,d⟩:=T.obj _ _ qf b y;exact(I'.pin (b,o) (aA _ (aA _ (Hv y e)))).2.1
    cases rF:tG c.ifs sF W with
    |exc c' p=>rw[rF] at x;exact x.elim
    |bad=>rw[rF] at x;exact x.elim
    | ok b O3=>
     rw[rF] at x;have S:yd X C A XV a h H μ (qu (c::cs)) ((if b=qb then uX cs em sF O3 R else .ok R O3).bnd λE p=>qD src (uJ c cs em σ) f (i+1) p E) Q:=x;refine aa (QN (XV:=A::XV) hx hf _ s4 Y H4 I sF W _ I4 FV c3 ?_);rw[rF];intro b' H5 xX x5 c5 eb s5 I5;have eb:b=b':=eb;subst eb;have g5:=co.keep g3 nA x5;have Li:Ea A H μ H5 xX:=x13.trans x5.ea;cases b with
     | false=>
      rw[qM ck] at S;exact ai ⟨rfl,F I5 Li c5 g5 l4 LO S⟩
     | true=>
      rw[qq rfl] at S;refine aa (y _ s5 Y H5 xX sF O3 R _ _ (hZ _ _ _ _ _ _ z0 LO Li) ⟨I5,FV.ext x5,c5,g5⟩ ?_);cases q_:uX cs em sF O3 R with
      |exc c' p=>rw[q_] at S;exact S.elim
      |bad=>rw[q_] at S;exact S.elim
      | ok acc6 O6=>
       rw[q_] at S;intro s6 UZ H6 F9 I6 x6 c6 g6 l6 k6;refine ai ⟨rfl,F I6 (Li.trans x6) c6 g6 (l6.trans l4) (λj hj=>?_) S⟩;rw[k6 j λz=>hj (aA _ z)];exact LO j hj
end
end
section
variable{X:Cx}{Z:St->Hp->List ae->Prop}{C:vL}{A:ae}{XV:List ae}{gens:List bJ}{scope:cT}{pos:Pos}{em:Em}
def QS(a:AM C)(b:gens[k]?=KF ⟨tg,iter,ifs,0⟩)(T:wQ X.prog X.w X.K tg J fp it tn)(i:Nat)(st:tn i s.heap)
  (h:codeAny (ay X.prog X.w) X.A (.compLoop (C.ex gens scope pos) k (.ref it) KB env) P s):
  codeAny (ay X.prog X.w) X.A (.compStart (C.ex gens scope pos) k (.ref it) KB env) P s:=by
 refine i3 ?_;rw[a.u2,a.d2];refine wpAny_notedAt ?_;unfold compStart;have c:clausesOf (C.ex gens scope pos)=gens:=a.cl _ _ _;simp only[c,b,Option.elim,bne_self_eq_false,bX,if_false];refine aa (fh (wpAny_ite ?_));split
 ·exact ai (fw (a.q1 _ _ _ _ _ _ _) h)
 ·refine aa (dR ?_);exact aa (eS (aa (T.self _ i s _ _ st (ai (fw (a.q1 _ _ _ _ _ _ _) h)))))
def Qs(w:AM C)(y:X.xe=λ_ _=>False)(V:X.calm=qb){sl:List Nat}(M:∀(D F:St)d b o p,Z D d b->(∀j,j∉sl->F[j]?=D[j]?)->Ea A d b o p->Z F o p)(W:∀k,gens[k]?=KM->yO X Z C A XV (C.ex gens scope pos) gens em k []):∀{i:List bJ}{l:List Cl},oU X i l->(∀j∈qu l,j∈sl)->∀k,gens.drop k=i->yO X Z C A XV (C.ex gens scope pos) gens em k l
 | _,_,.nil,_,k,hd=>W k (by
   have:=congrArg kQ hd;simp at this;exact a8.mpr 'd')
 | ⟨tg,iter,ifs,_⟩::gs,c::cs,.cons hi hs hg hf r,Il,k,hd=>by
  have N:gens[k]?=KF ⟨tg,iter,ifs,0⟩:=by
   have:(gens.drop k)[0]?=KF ⟨tg,iter,ifs,0⟩:=by rw[hd];rfl
   simpa using this
  have Y:gens.drop (k+1)=gs:=by
   have:=congrArg (List.drop 1) hd;simpa [eF,kh] using this
  have hb:=Qs w y V M W r (λj m=>Il j (aA _ m)) (k+1) Y;have hn:gens[k+1]?=KM \/ ∃A3 tR vE,gens[k+1]?=KF ⟨A3,tR,vE,0⟩:=by
   have e:gens[k+1]?=gs[0]?:=by rw[<- Y];simp
   cases r with
   |nil=>exact .inl (by rw[e];rfl)
   |cons _ _ _ _ _=>exact .inr ⟨_,_,_,by rw[e];rfl⟩
  intro a s P H G u O n Q E z B q;unfold AH;rw[N];simp only[bne_self_eq_false,bX,if_false];cases g:c.it u O with
  |exc R O'=>unfold uX at q;rw[g] at q;exact q.elim
  |bad=>unfold uX at q;rw[g] at q;exact q.elim
  | ok src O1=>
   have t:yd X C A XV a P H G (qu (c::cs)) (qD src (uJ c cs em u) (src.size O1) 0 O1 n) Q:=by
    have:=q;unfold uX at this;rw[g] at this;exact this
   refine aa (Aa y (hi.out a s P H (λJ d=>∃b,Ext H G d b/\oB X.K d (A::XV) b O1/\oG X.K J src d (A::XV) b) B.inv ⟨A::XV,G,u,O,B.env,B.cells,by rw[g];exact λJ d b x c S=>⟨b,x,c,S⟩⟩) λv s1 h1=>?_);refine aa (eS ?_);refine aa (jr (hs v) ?_);refine aa (bH (Aa y h1 λE5 s2 h2=>?_));obtain⟨it,fp,tn,J,o,e,I2,T,qv,f2,p,I,c2,S⟩:=h2;subst e;refine aa (wpAny_runOwn (h:=KM) ?_);show codeAny _ X.A _ _ _;have nA:A∉G:=λm=>B.cells.nh A m 'k';refine QS w N T 0 qv ?_;refine fv (PL w (A:=A) (XV:=XV) (em:=em) (c:=c) (cs:=cs) y V N hg hf (λD F d b o p z1 k1 x1=>M D F d b o p z1 (λj hj=>k1 j λm=>hj (Il j m)) x1) hb hn T a s2 P o p u O1 n (src.size O1) (λL=>Q L) qv f2 S (M _ _ _ _ _ _ z (λ_ _=>rfl) I.ea) ⟨I2,B.env.ext I,c2,w.keep B.grown nA I⟩ ?_) λr L hr=>?_
   ·cases U:qD src (uJ c cs em u) (src.size O1) 0 O1 n with
    |exc R O'=>rw[U] at t;exact t.elim
    |bad=>rw[U] at t;exact t.elim
    | ok qX O'=>
     rw[U] at t;exact λL pY H' f_ I' x' R g' l' k'=>t L pY H' f_ I' (I.ea.trans x') R g' l' k'
   ·obtain⟨f,rfl,hq⟩:=hr;exact ai hq
end
noncomputable def qB(X:Cx)(N':List Str)(scope:cT)(cells:List (Str×ae))(C:ae)(s:ag)(H:Hp)(fp:List ae):Cx:=
 { X with
  N:=N',s₀:=s,H₀:=H
  env:={ scope:=relabel scope X.env,locals:=C,globals:=X.env.globals,cells:=cells,qual:=X.env.qual,func:=KM,code:=X.env.code,frame:=X.env.frame,builtins:=X.env.builtins }
  outer:=X.stack,ex:=fp,fn:=λx=>scope.names.lookup x==KF .cell,pn:=[],xe:=λ_ _=>False }
structure wJ(sc scope:cT)(N':List Str)(sl:List Nat):Prop where
 kind:scope.kind=.function
 nd:(scope.names.map (·.1)).Nodup
 frees:∀y∈scope.names,y.2=.free->sc.names.lookup y.1=KF .cell\/sc.names.lookup y.1=KF .free
 own:∀(i:Nat)x,N'[i]?=KF x->(x,NameKind.local)∈scope.names\/(x,dL)∈scope.names->i∈sl
theorem yg{a:Type}:∀{l:List (Str×a)}{x:Str}{b:a},(l.map (·.1)).Nodup->(x,b)∈l->l.lookup x=KF b
 |[],_,_,_,h=>by cases h
 | (y,c)::r,x,b,nd,h=>by
  obtain⟨d,f⟩:=bu.mp nd;rcases am.mp h with e|h
  ·cases e;simp[eC]
  ·have g:x≠y:=λe=>d (az.mpr ⟨(x,b),h,e⟩);rw[eC];have:(x==y)=qh:=by simpa using g
   rw[this];exact yg f h
theorem Lc(env:Env)(x:Str):∀(names:List (Str×dq)),(names.map λ(n,k)=>if (k==dj&&env.scope.kind == .function&&env.kindOf n==KF .cell) then (n,dL) else (n,k)).lookup x =
  (names.lookup x).map λk=>if (k==dj&&env.scope.kind == .function&&env.kindOf x==KF .cell) then dL else k
 |[]=>rfl
 | (n,k)::r=>by
  show List.lookup x ((if (k==dj&&env.scope.kind == .function&&env.kindOf n==KF .cell)=qb then (n,dL) else (n,k))::_)=_;cases a:x==n with
  | true=>
   have e:x=n:=by simpa using a
   subst e;simp only[eC,a,kJ];split
   ·rename_i h;simp[eC,h]
   ·rename_i h;simp[eC,h]
  | false=>
   have b:=Lc env x r;simp only[eC,a];rw[<- b];split<;>simp only[eC,a]
def Sm(h:uU (relabel scope env) x):(x,NameKind.local)∈scope.names\/(x,dL)∈scope.names\/(x,dj)∈scope.names:=by
 unfold uU relabel at h;simp only[Lc] at h;cases e:scope.names.lookup x with
 |none=>rw[e] at h;simp at h
 | some k=>
  have m:=bK e;cases k with
  | «local»=>exact .inl m
  |cell=>exact .inr (.inl m)
  |free=>exact .inr (.inr m)
  |_=>rw[e] at h;simp at h
noncomputable def rN(cells:List (Str×ae)):List (Str×dq)->List (Str×ae)->List (Str×ae)
 |[],KB=>KB
 |(n,k)::r,KB=>if k == .free then rN cells r ((n,(cells.lookup n).getD 0)::KB) else rN cells r KB
def S6(h:∀y∈scope.names,y.2=.free->∃c,env.cells.lookup y.1=KF c):closureFor scope env=pure (rN env.cells scope.names []):=by
 have f:∀(b:List (Str×dq))(d:List (Str×ae)),(∀y∈b,y.2=.free->∃c,env.cells.lookup y.1=KF c)->
   (forIn b d λ(x:Str×dq)(e:List (Str×ae))=>(if x.2 == .free then (do let a <- cellOf env x.1;pure (gd ((x.1,a)::e))) else pure (gd e):Sem _))=pure (rN env.cells b d):=by
  intro b
  induction b with
  |nil=>intro d _;rfl
  | cons y r ih=>
   intro d g;obtain⟨n,k⟩:=y;rw[ge];unfold rN;by_cases i:(k==dj)=qb
   ·obtain⟨c,l⟩:=g (n,k) ar (by simpa using i);have o:cellOf env n=pure c:=by unfold cellOf;rw[l]
    simp only[i,if_true,o,pure_bind,l,Option.getD_some];exact ih _ λy j=>g y (aj _ j)
   ·simp only[i,if_false,pure_bind,bX];exact ih _ λy j=>g y (aj _ j)
 have:=f scope.names [] h;unfold closureFor;refine Eq.trans ?_ (congrArg (λm=>m >>= λe=>pure e) this);congr 1
theorem Hw:∀(names:List (Str×dq))(KB:List (Str×ae)),(x,c)∈rN cells names KB->(x,c)∈KB\/((x,dj)∈names/\c=(cells.lookup x).getD 0)
 |[],KB,h=>.inl h
 | (n,k)::r,KB,h=>by
  unfold rN at h;by_cases a:(k==dj)=qb
  ·rw[qq a] at h;rcases Hw r _ h with m|⟨m,e⟩
   ·rcases am.mp m with m|m
    ·cases m;have:k=.free:=by simpa using a
     subst this;exact .inr ⟨ar,rfl⟩
    ·exact .inl m
   ·exact .inr ⟨aj _ m,e⟩
  ·rw[qM a] at h;rcases Hw r _ h with m|⟨m,e⟩
   ·exact .inl m
   ·exact .inr ⟨aj _ m,e⟩
theorem KY:∀(names:List (Str×dq))(KB:List (Str×ae)),p∈KB->p∈rN cells names KB
 |[],KB,h=>h
 | (n,k)::r,KB,h=>by
  unfold rN;split
  ·exact KY r _ (aj _ h)
  ·exact KY r _ h
theorem Hs:∀(names:List (Str×dq))(KB:List (Str×ae)),(x,dj)∈names->(x,(cells.lookup x).getD 0)∈rN cells names KB
 | (n,k)::r,KB,h=>by
  unfold rN;rcases am.mp h with e|h
  ·cases e;rw[qq 'u'];exact KY r _ ar
  ·split
   ·exact Hs r _ h
   ·exact Hs r _ h
theorem JA:∀(names:List (Str×dq))(n:Nat)(KB:List (Str×ae)),(x,c)∈cA n names KB->(x,c)∈KB\/((x,dL)∈names/\n<=c)
 |[],n,KB,h=>.inl h
 | (y,k)::r,n,KB,h=>by
  unfold cA at h;by_cases a:(k==dL)=qb
  ·rw[qq a] at h;rcases JA r _ _ h with m|⟨m,e⟩
   ·rcases am.mp m with m|m
    ·cases m;have:k=.cell:=by simpa using a
     subst this;exact .inr ⟨ar,aC _⟩
    ·exact .inl m
   ·exact .inr ⟨aj _ m,mI e⟩
  ·rw[qM a] at h;rcases JA r _ _ h with m|⟨m,e⟩
   ·exact .inl m
   ·exact .inr ⟨aj _ m,e⟩
theorem Jz:∀(names:List (Str×dq))(n:Nat)(KB:List (Str×ae)),p∈KB->p∈cA n names KB
 |[],_,_,h=>h
 | (y,k)::r,n,KB,h=>by
  unfold cA;split
  ·exact Jz r _ _ (aj _ h)
  ·exact Jz r _ _ h
theorem Kv:∀(names:List (Str×dq))(n:Nat)(KB:List (Str×ae)),(KB.Pairwise λx y=>x.2≠y.2)->(∀p∈KB,p.2<n)->(cA n names KB).Pairwise λx y=>x.2≠y.2
 |[],_,_,h,_=>h
 | (y,k)::r,n,KB,h,hl=>by
  unfold cA;split
  ·refine Kv r (n+1) _ (bP.mpr ⟨λp hp=>?_,h⟩) λp hp=>?_
   ·exact λe=>absurd (hl p hp) (by show ¬ p.2<n;rw[<- e];exact bS _)
   ·rcases am.mp hp with rfl|hp
    ·exact cP _
    ·exact dg (hl p hp)
  ·exact Kv r n KB h hl
theorem Kz:∀(names:List (Str×dq))(n:Nat)(KB:List (Str×ae)),((names.map (·.1)).Nodup)->(KB.map (·.1)).Nodup->(∀p∈KB,∀k,(p.1,k)∈names->k≠dL)->((cA n names KB).map (·.1)).Nodup
 |[],_,_,_,h,_=>h
 | (y,k)::r,n,KB,nd,h,hl=>by
  obtain⟨f,d⟩:=bu.mp nd;unfold cA;by_cases c:(k==dL)=qb
  ·rw[qq c];have g:k=.cell:=by simpa using c
   refine Kz r (n+1) _ d (bu.mpr ⟨λm=>?_,h⟩) λp hp a b=>?_
   ·obtain⟨p,hp,e⟩:=az.mp m;exact hl p hp k (by rw[e];exact ar) g
   ·rcases am.mp hp with rfl|hp
    ·exact absurd (az.mpr ⟨(y,a),b,rfl⟩) f
    ·exact hl p hp a (aj _ b)
  ·rw[qM c];exact Kz r n KB d h λp hp a b=>hl p hp a (aj _ b)
theorem HE:∀(names:List (Str×dq))(KB:List (Str×ae)),((names.map (·.1)).Nodup)->(KB.map (·.1)).Nodup->(∀p∈KB,p.1∉names.map (·.1))->((rN cells names KB).map (·.1)).Nodup
 |[],_,_,h,_=>h
 | (y,k)::r,KB,nd,h,hl=>by
  obtain⟨b,a⟩:=bu.mp nd;unfold rN;split
  ·refine HE r _ a (bu.mpr ⟨λm=>?_,h⟩) λp hp=>?_
   ·obtain⟨p,hp,e⟩:=az.mp m;exact hl p hp (by rw[e];simp)
   ·rcases am.mp hp with rfl|hp
    ·exact b
    ·exact λm=>hl p hp (aj _ m)
  ·exact HE r KB a h λp hp m=>hl p hp (aj _ m)
theorem JV:∀(names:List (Str×dq))(h:aX)(KB:List (Str×ae)),(x,c)∈cA h.objs.size names KB->(x,c)∈KB\/(mo h names).IsCell c KM
 |[],_,_,m=>.inl m
 | (y,k)::r,h,KB,m=>by
  unfold cA at m;unfold mo;by_cases a:(k==dL)=qb
  ·rw[qq a] at m ⊢;have e:h.objs.size+1=(h.push { cls:=.type "cell",data:=.cell KM }).objs.size:=(cx ..).symm;rw[e] at m;rcases JV r _ _ m with m|m
   ·rcases am.mp m with m|m
    ·cases m;exact .inr ⟨_,i4 _ _ _ _ (aE _ rfl),rfl⟩
    ·exact .inl m
   ·exact .inr m
  ·rw[qM a] at m ⊢;exact JV r _ _ m
def z8X{l:List (Str×ae)}(d:(l.map (·.1)).Nodup)(inj:∀p∈l,∀q∈l,p.2=q.2->p.1=q.1):l.Pairwise λx y=>x.2≠y.2:=by
 induction l with
 |nil=>exact .nil
 | cons p r ih=>
  obtain⟨f,g⟩:=bu.mp d;refine bP.mpr ⟨λq c e=>f ?_,ih g λa h b i=>inj a (aj _ h) b (aj _ i)⟩;exact az.mpr ⟨q,c,(inj p ar q (aj _ c) e).symm⟩
abbrev DJ:Obj:={ cls:=.type "dict",data:=.dict #[] }
section
variable{X:Cx}{Y1:List (ae×Obj)}{d_:St}{H:Hp}{s:ag}
abbrev Gr(ob:Obj)(h:aX)(names:List (Str×dq)):aX:=mo ((h.push ob).push DJ) names
def Sl(ob:Obj)(h:aX)(a:List (Str×dq))(b:ae)(o:Obj)(e:h.get? b=KF o):(Gr ob h a).get? b=KF o:=i4 _ _ _ _ (af _ (af _ e))
def Vq(ob:Obj)(h:aX):((h.push ob).push DJ).objs.size=h.objs.size+2:=by rw[cx,cx]
def zcy{scope:cT}{ext:List Str}{sl:List Nat}{E:List ae}(I:L2.Inv X Y1 d_ H s)(B:∀b∈E,su X Y1 H b)(O:∀b∈E,b<s.heap.objs.size)(g:wJ X.env.scope scope (X.N++ext) sl){ob:Obj}{u:HO}(Y:ob.isFreed=qh)(Z:∀h:aX,h.get? s.heap.objs.size=KF ob->oN X.prog X.w (upd H s.heap.objs.size u) h s.heap.objs.size u):
  L2.Inv (qB X (X.N++ext) scope (cA (s.heap.objs.size+2) scope.names (rN X.env.cells scope.names [])) (s.heap.objs.size+1) s H E) [] (ql (d_++aS ext.length KM) sl)
   (upd H s.heap.objs.size u) { s with heap:=Gr ob s.heap scope.names }:=by
 have P:∀x c,X.env.cells.lookup x=KF c->c<s.heap.objs.size:=λx c e=>by
  obtain⟨v,z⟩:=I.cell x c e;exact z.lt
 -- a free name of the block has g_ cell around
 have Q:∀x,(x,dj)∈scope.names->∃c,X.env.cells.lookup x=KF c:=λx f=>I.ok.has x (g.frees _ f rfl);have t:∀x c,(x,c)∈rN X.env.cells scope.names []->(x,dj)∈scope.names/\X.env.cells.lookup x=KF c:=λx c hm=>by
  rcases Hw _ _ hm with m|⟨m,e⟩
  ·cases m
  ·obtain⟨c',R⟩:=Q x m;rw[R] at e;exact⟨m,by rw[e];exact R⟩
 have F:∀x,(x,dj)∈scope.names->∀c,X.env.cells.lookup x=KF c->(x,c)∈rN X.env.cells scope.names []:=λx f c e=>by
  have:=Hs (cells:=X.env.cells) scope.names [] f;rw[e] at this;exact this
 have S:((rN X.env.cells scope.names []).map (·.1)).Nodup:=HE _ _ g.nd 'k' (by intro p l;cases l);have G:((cA (s.heap.objs.size+2) scope.names (rN X.env.cells scope.names [])).map (·.1)).Nodup:=Kz _ _ _ g.nd S λp l k hk e=>by
  subst e;have j:=(t p.1 p.2 l).1;have:=yg g.nd j;rw[yg g.nd hk] at this;cases this
 have r:(cA (s.heap.objs.size+2) scope.names (rN X.env.cells scope.names [])).Pairwise λx y=>x.2≠y.2:=by
  refine Kv _ _ _ (z8X S λp l q hq e=>?_) λp l=>bb (P _ _ (t p.1 p.2 l).2) (gL _ _);refine I.ok.inj p.1 q.1 p.2 (t p.1 p.2 l).2 ?_;rw[e];exact(t q.1 q.2 hq).2
 have J:∀x c,(cA (s.heap.objs.size+2) scope.names (rN X.env.cells scope.names [])).lookup x=KF c->((x,dj)∈scope.names/\X.env.cells.lookup x=KF c)\/((x,dL)∈scope.names/\s.heap.objs.size+2<=c):=λx c e=>by
  rcases JA _ _ _ (bK e) with m|m
  ·exact .inl (t x c m)
  ·exact .inr m
 have d:∀a,s.heap.objs.size<=a->H a=KM:=λa ha=>I.hok.fresh ha;have C:=Sl ob s.heap scope.names;have T:∀x,(x,dj)∈scope.names->∀c,X.env.cells.lookup x=KF c->(cA (s.heap.objs.size+2) scope.names (rN X.env.cells scope.names [])).lookup x=KF c:=λx f c e=>
  yg G (Jz _ _ _ (F x f c e))
 refine⟨⟨I.ok.mod,g.kind,I.ok.glob,I.ok.blt,eJ _,λx y c j K=>name_of_addr r (bK j) (bK K),λx f=>?_,λx c f h=>?_,I.ok.hd,I.ok.frames,.inl rfl,λb n=>⟨?_,λx c e=>?_⟩,I.bs,?_,λb o e n=>?_,λb n z=>?_,I.stack,I.stkFree⟩,
  rfl,I.bare,Un.laid C (aC _) (d _ (aC _)),?_,λx c e=>?_,?_,λx c e=>?_,λp l=>absurd (show p∈([]:List (ae×Obj)) from l) 'k',I.hok.laid C (aC _) ?_,?_,I.tk⟩
 ·-- has
  have f:uU (relabel scope X.env) x:=.inr f;rcases Sm f with m|m|m
  ·exfalso;have e:=yg g.nd m;have U:(relabel scope X.env).names.lookup x=KF .local:=lookup_relabel_local e;rcases (show(relabel scope X.env).names.lookup x=KF .cell\/(relabel scope X.env).names.lookup x=KF .free by rename_i L;exact L) with q|q
   ·rw[U] at q;cases q
   ·rw[U] at q;cases q
  ·exact hU.mp (iB scope.names _ _ (.inl (yg g.nd m)))
  ·obtain⟨c,M⟩:=Q x m;exact⟨c,T x m c M⟩
 ·-- cab
  have f:(scope.names.lookup x==KF .cell)=qb:=f;rcases J x c h with⟨m,_⟩|⟨_,m⟩
  ·rw[yg g.nd m] at f;cases f
  ·exact aI (gL _ _) m
 ·exact bo (dg (O b n))
 ·rcases J x c e with⟨_,m⟩|⟨_,m⟩
  ·exact(B b n).2.2.2.2.1 x c m
  ·have L:b<s.heap.objs.size:=O b n;exact λz=>by
    rw[z] at m;exact absurd (bb L (aI (gL _ 2) m)) (bS _)
 ·exact aI I.ok.bsz I.sz
 ·rcases (B b n).2.2.2.1 with z|z
  ·exact I.ok.noex b o e z
  ·exact absurd (bb (aK e) (aI I.ok.bsz z)) (bS _)
 ·rcases am.mp (I.stkSub b z) with q|q
  ·exact(B b n).2.1 q
  ·exact(B b n).2.2.1 q
 ·-- loc
  refine⟨λ_=>KM,?_,λi x v j K h3=>?_⟩
  ·have z:=(Heap.Ns.new (s.heap.push ob) (.type "dict")).keeps (i4 scope.names _);rw[cx] at z;exact z
  ·obtain⟨A,V⟩:=GX _ _ _ _ K;have D:i<d_.length:=by
    by_cases D:i<d_.length
    ·exact D
    ·rw[aU 'd',f6] at A;split at A<;>cases A
   rw[aH D] at A;have zr:X.N[i]?=KF x:=by
    have j:(X.N++ext)[i]?=KF x:=j;rw[aH (by rw[<- I.len];exact D)] at j;exact j
   rcases Sm h3 with m|m|m
   ·exact absurd (g.own i x j (.inl m)) V
   ·exact absurd (g.own i x j (.inr m)) V
   ·obtain⟨m0,hn,hl⟩:=I.loc;have W:=g.frees _ m rfl;obtain⟨u,ru,lk⟩:=hl i x v zr A (.inr W);refine⟨u,ru,?_⟩;rcases lk with⟨q,_⟩|⟨q,c,M,z⟩
    ·exfalso;have q:X.env.scope.names.lookup x=KF .local:=q;rcases W with k|k<;>(rw[q] at k;cases k)
    ·refine .inr ⟨?_,c,T x m c M,z.keeps C⟩;have e:=yg g.nd m;show(relabel scope X.env).names.lookup x=KF .cell\/(relabel scope X.env).names.lookup x=KF .free;unfold relabel;simp only[Lc,e,kJ];split
     ·exact .inl rfl
     ·exact .inr rfl
 ·-- cell
  rcases JV scope.names ((s.heap.push ob).push DJ) (rN X.env.cells scope.names []) (x:=x) (c:=c) (by rw[Vq];exact bK e) with m|m
  ·obtain⟨v,z⟩:=I.cell x c (t x c m).2;exact⟨v,z.keeps C⟩
  ·exact⟨KM,m⟩
 ·show upd H s.heap.objs.size u (s.heap.objs.size+1)=KM;rw[p9 (eo (cP _))];exact d _ (eJ _)
 ·rcases J x c e with⟨_,m⟩|⟨_,m⟩
  ·rw[p9 (bo (P x c m))];exact I.freeC x c m
  ·have ne:c≠s.heap.objs.size:=λz=>by
    rw[z] at m;exact absurd m 'd'
   rw[p9 ne];exact d c (aI (gL _ 2) m)
 ·exact Z _ (i4 _ _ _ _ (af _ (aE _ Y)))
 ·show _=(X.N++ext).length;rw[DW,aw,lc,aw,I.len]
end
def xH{α:Type}:R α->R α
 |.ok a O=>.ok a O
 |_=>.bad
def z_(ext:Nat)(it0:DI)(g:Tg)(ts:List DT)(cs:List Cl)(em:Em):Sg->Ow->R (List D):=λσ O=>(it0 σ O).bnd λsrc O1=>
 xH (qD src (uJ ⟨it0,g,ts⟩ cs em (ql (σ++aS ext KM) (qu (⟨it0,g,ts⟩::cs)))) (src.size O1) 0 O1 [])
def zY(ext:Nat)(it0:DI)(g:Tg)(ts:List DT)(cs:List Cl)(te:DE):Sg->Ow->R (List D):=λσ O=>(it0 σ O).bnd λsrc O1=>
 xH (qD src (yb ⟨it0,g,ts⟩ cs te (ql (σ++aS ext KM) (qu (⟨it0,g,ts⟩::cs)))) (src.size O1) 0 O1 [])
def K0(ext:Nat)(it0:DI)(g:Tg)(ts:List DT)(cs:List Cl)(te:DE):z_ ext it0 g ts cs (zK te)=zY ext it0 g ts cs te:=by funext σ O;unfold z_ zY;rw[YC]
def ZB(d_:St)(n:Nat)(sl:List Nat)(A:ae)(H0:Hp):St->Hp->List ae->Prop:=λσ H μ=>(∀j,j∉sl->σ[j]?=(d_++aS n KM)[j]?)/\H0 A=KM/\∃F_ o,Ea A (upd H0 A o) F_ H μ/\∀a∈F_,∃vs,H0 a=KF (.lst vs)
section
variable{C:vL}{em:Em}
variable{X:Cx}{M:iY}{A:ba}{E:ab->ag->Prop}{s:ag}
def z9b
  (h:Q { scope,locals:=s.heap.objs.size,globals,cells:=cA (s.heap.objs.size+1) scope.names cl,qual,func:=KM,code:=env.code,frame:=env.frame,builtins:=env.builtins } { s with heap:=mo (s.heap.push DJ) scope.names }):
  ao M A (newFunctionEnv scope globals cl [] qual KM .none (KF env)) Q E s:=by simp only[newFunctionEnv,ml,if_true];refine aa (wpAny_alloc ?_);refine aa (wpAny_layCells _ (λc a cells=>by cases b:a==dL<;>simp[b]) _ _ _ _ ?_);rw[show({ s with heap:=s.heap.push DJ }:ag).heap.objs.size=s.heap.objs.size+1 from cx ..];simp only[lj,pure_bind];exact ai h
structure OF(X:Cx)(C:vL)(Y1:List (ae×Obj))(d_:St)(H:Hp)(XV μ:List ae)(L Cn:ae)(KB:List D)(O:Ow)(s':ag):Prop where
 inv:∃H' f_,L2.Inv X Y1 d_ H' s'/\Ext H μ H' f_/\oB X.K H' (L::XV) f_ O/\H L=KM/\H' Cn=KM/\C.G X.K X.prog X.w L XV H' f_ KB
 ns:∃m,s'.heap.Ns Cn m
 loc:Cn≠X.env.locals
 young:X.s₀.heap.objs.size<=Cn
 cel:∀x c,X.env.cells.lookup x=KF c->c≠Cn
 pns:∀p∈X.pn++Y1,p.1≠Cn
def Inv.bare{a:List (ae×Obj)}{j:St}{H:Hp}{f:ag}{C:ae}{h':aX}(I:L2.Inv X a j H f)(k:cX C f.heap h')(l:H C=KM)(g:C≠X.env.locals)(d:X.s₀.heap.objs.size<=C)(h:∀x c,X.env.cells.lookup x=KF c->c≠C)
  (i:∀p∈X.pn++a,p.1≠C):L2.Inv X a j H { f with heap:=h' }:=I.turned (t':=f.toks) (λb o m e=>(k.2 b m).trans e) l g (.inr d) h i
def zbZ(Y:AM C)
  {it:ae} {B:List ae} {tn:Nat->aX->Prop} {J:It} {RR:ab->ae->Result->ag->Prop}
  (pQ:X.calm=qb) (Z:wJ X.env.scope scope (X.N++ext) (qu (⟨it0,g,ts⟩::cs)))
  (sY:∀cells Cn,PG (qB X (X.N++ext) scope cells Cn s H B) tg (g.rd X.K)/\cj (λe t=>rm (qB X (X.N++ext) scope cells Cn s H B) qy e t) ifs ts/\oU (qB X (X.N++ext) scope cells Cn s H B) gs cs/\∀A XV k,(⟨tg,iter,ifs,0⟩::gs:List bJ)[k]?=KM->yO (qB X (X.N++ext) scope cells Cn s H B) (ZB d_ ext.length (qu (⟨it0,g,ts⟩::cs)) A H) C A XV (C.ex (⟨tg,iter,ifs,0⟩::gs) scope pos) (⟨tg,iter,ifs,0⟩::gs) em k [])
  (I:L2.Inv X Y1 d_ H s) (e1:oD X.K H XV μ σ d_) (R:oB X.K H XV μ O) (T:wQ X.prog X.w X.K tg J B it tn) (st:tn 0 s.heap) (xQ:∀b∈B,su X Y1 H b) (sa:oG X.K J src H XV μ)
  (hw:qD src (uJ ⟨it0,g,ts⟩ cs em (ql (σ++aS ext.length KM) (qu (⟨it0,g,ts⟩::cs)))) (src.size O) 0 O []=.ok KB O2)
  (hRR:∀f D,OF X C Y1 d_ H XV μ s.heap.objs.size (s.heap.objs.size+1) KB O2 D->RR (.ref s.heap.objs.size) (s.heap.objs.size+1) (.ok f) D):
  ao (ay X.prog X.w) X.A C.new (λac wm=>ao (ay X.prog X.w) X.A (newFunctionEnv scope X.env.globals (rN X.env.cells scope.names []) [] X.env.qual KM .none (KF X.env)) (λF1 Ll=>
   codeAny (ay X.prog X.w) X.A (.compStart (C.ex (⟨tg,iter,ifs,0⟩::gs) scope pos) 0 (.ref it) ac { F1 with scope:=relabel scope X.env }) (RR ac F1.locals) Ll) E wm) E s:=by
 refine Y.new λG ME xh=>?_;refine z9b ?_;have hsz:(s.heap.push G).objs.size=s.heap.objs.size+1:=cx ..;have qk:∀b∈B,b<s.heap.objs.size:=λb Z=>by
  obtain⟨o,ho,_⟩:=T.obj 0 _ st b Z;exact aK ho
 have IB:=zcy (u:=C.ho X.prog X.w s.heap.objs.size) I xQ qk Z ME (λh=>xh H h _ I.big);have F:H s.heap.objs.size=KM:=I.hok.fresh (aC _);have qJ:∀b∈B,b≠s.heap.objs.size:=λb Z=>bo (qk b Z);obtain⟨b1,b2,b3,b4⟩:=sY (cA (s.heap.objs.size+2) scope.names (rN X.env.cells scope.names [])) (s.heap.objs.size+1);generalize l:qB X (X.N++ext) scope (cA (s.heap.objs.size+2) scope.names (rN X.env.cells scope.names [])) (s.heap.objs.size+1) s H B=y at IB b1 b2 b3 b4;have eP:y.prog=X.prog:=by rw[<- l];rfl
 have eW:y.w=X.w:=by rw[<- l];rfl
 have L:y.K=X.K:=by rw[<- l];rfl
 have eA:y.A=X.A:=by rw[<- l];rfl
 have ex:y.xe=λ_ _=>False:=by rw[<- l];rfl
 have ec:y.calm=qb:=by rw[<- l];exact pQ
 have BJ:y.env={ scope:=relabel scope X.env,locals:=s.heap.objs.size+1,globals:=X.env.globals,cells:=cA (s.heap.objs.size+2) scope.names (rN X.env.cells scope.names []),qual:=X.env.qual,func:=KM,code:=X.env.code,frame:=X.env.frame,builtins:=X.env.builtins }:=by rw[<- l];rfl
 have FW:({ ({ scope,locals:=(s.heap.push G).objs.size,globals:=X.env.globals,cells:=cA ((s.heap.push G).objs.size+1) scope.names (rN X.env.cells scope.names []),qual:=X.env.qual,func:=KM,code:=X.env.code,frame:=X.env.frame,builtins:=X.env.builtins }:Env) with scope:=relabel scope X.env }:Env)=y.env:=by
  rw[BJ,hsz]
 show codeAny _ _ (.compStart _ 0 _ _ ({ ({ scope,locals:=(s.heap.push G).objs.size,globals:=X.env.globals,cells:=cA ((s.heap.push G).objs.size+1) scope.names (rN X.env.cells scope.names []),qual:=X.env.qual,func:=KM,code:=X.env.code,frame:=X.env.frame,builtins:=X.env.builtins }:Env) with scope:=relabel scope X.env }:Env)) (RR _ (s.heap.push G).objs.size) _;rw[FW,hsz];have LC:Mv H XV μ (upd H s.heap.objs.size (C.ho X.prog X.w s.heap.objs.size)) (s.heap.objs.size::XV) μ:=(Mv.hide F).trans ⟨⟨[],by simp⟩,λb o h _ n2 _=>by rw[p9 (λz=>n2 (by simp[z]))];exact h,λ_ m=>.inl m,λ_ m=>.inl m,w9,λ_ t=>t.upd (.inl F)⟩;have c2:oB X.K (upd H s.heap.objs.size (C.ho X.prog X.w s.heap.objs.size)) (s.heap.objs.size::XV) μ O:=by
  refine⟨R.len,R.nd,λa m z=>?_,λa m=>?_,λk a e=>?_⟩
  ·rcases am.mp z with rfl|z
   ·exact(R.not_in F).2 m
   ·exact R.nh a m z
  ·rcases am.mp m with rfl|m
   ·rw[rq];simp
   ·exact w9 a (R.ht a m)
  ·obtain⟨ds,vs,U,V,h3⟩:=R.at_ k a e;exact⟨ds,vs,U,by rw[p9 (rX V F)];exact V,h3.mv LC⟩
 have e2:oD X.K (upd H s.heap.objs.size (C.ho X.prog X.w s.heap.objs.size)) (s.heap.objs.size::XV) μ (ql (σ++aS ext.length KM) (qu (⟨it0,g,ts⟩::cs))) (ql (d_++aS ext.length KM) (qu (⟨it0,g,ts⟩::cs))):=by
  refine⟨by rw[DW,DW,aw,aw,e1.len];simp,λi d h=>?_⟩;obtain⟨g1,g2⟩:=GX _ _ _ _ h;have hi:i<σ.length:=by
   by_cases hi:i<σ.length
   ·exact hi
   ·rw[aU 'd',f6] at g1;split at g1<;>cases g1
  rw[aH hi] at g1;obtain⟨v,U,V⟩:=e1.at_ i d g1;exact⟨v,by rw[JM _ _ _ g2,aH (by rw[<- e1.len];exact hi)];exact U,V.mv LC⟩
 have MF:∀b∈B,su y [] (upd H s.heap.objs.size (C.ho X.prog X.w s.heap.objs.size)) b:=λb Q=>by
  obtain⟨f0,f1,f2,f3,f4,f5⟩:=xQ b Q;have U:=IB.ok.exf;refine⟨by rw[p9 (qJ b Q)];exact f0,?_,?_,.inl ?_,?_,?_⟩
  ·exact(U b (by rw[<- l];exact Q)).1
  ·rw[<- l];exact λz=>IB.ok.exfs b (by rw[<- l];exact Q) (by rw[<- l];exact z)
  ·rw[<- l];exact Q
  ·exact(U b (by rw[<- l];exact Q)).2
  ·rw[<- l];exact λp hp=>absurd (show p∈([]:List (ae×Obj)) from hp) 'k'
 have i_:tn 0 (Gr G s.heap scope.names):=T.keep _ _ _ st λb _ o e=>Sl _ _ _ _ _ e;have T':wQ y.prog y.w y.K tg J B it tn:=by rw[eP,eW,L];exact T
 have Uu:∀(qL sN:St)H1 h_ H2 pZ,ZB d_ ext.length (qu (⟨it0,g,ts⟩::cs)) s.heap.objs.size H qL H1 h_->(∀j,j∉qu (⟨it0,g,ts⟩::cs)->sN[j]?=qL[j]?)->Ea s.heap.objs.size H1 h_ H2 pZ->ZB d_ ext.length (qu (⟨it0,g,ts⟩::cs)) s.heap.objs.size H sN H2 pZ:=
  λqL sN H1 h_ H2 pZ ⟨z1,z2,F_,o,z3,z4⟩ k1 x1=>⟨λj hj=>(k1 j hj).trans (z1 j hj),z2,F_,o,z3.trans x1,z4⟩
 have key:=PL (X:=y) Y (A:=s.heap.objs.size) (XV:=XV) (gens:=⟨tg,iter,ifs,0⟩::gs) (scope:=scope) (pos:=pos) (em:=em) (k:=0) (c:=⟨it0,g,ts⟩) (cs:=cs) ex ec rfl (by rw[L];exact b1) b2 Uu (Qs Y ex ec (sl:=qu (⟨it0,g,ts⟩::cs)) Uu (b4 _ _) b3 (λj m=>aA _ m) 1 rfl) (by
   cases b3 with
   |nil=>exact .inl rfl
   |cons _ _ _ _ _=>exact .inr ⟨_,_,_,rfl⟩) T' [] { s with heap:=Gr G s.heap scope.names } (ql (d_++aS ext.length KM) (qu (⟨it0,g,ts⟩::cs))) (upd H s.heap.objs.size (C.ho X.prog X.w s.heap.objs.size)) μ (ql (σ++aS ext.length KM) (qu (⟨it0,g,ts⟩::cs))) O [] (src.size O)
   (λD=>OF X C Y1 d_ H XV μ s.heap.objs.size (s.heap.objs.size+1) KB O2 D) i_ MF (by rw[L];exact sa.mv LC) ⟨λj hj=>JM _ _ _ hj,F,μ,_,.refl,λa m=>by
    obtain⟨k,e⟩:=List.getElem?_of_mem m;obtain⟨_,vs,_,V,_⟩:=R.at_ k a e;exact⟨vs,V⟩⟩ ⟨IB,by rw[L];exact e2,by rw[L];exact c2,by rw[L,eP,eW];exact Y.g0⟩ ?_
 ·have E4:=QS (X:=y) Y (gens:=⟨tg,iter,ifs,0⟩::gs) (scope:=scope) (pos:=pos) (env:=y.env) rfl T' 0 i_ key;rw[eP,eW,eA] at E4;exact fv E4 λr D ⟨f,hr,q⟩=>by subst hr;exact hRR f D q
 ·rw[hw];intro D pY H' f_ W x' c' g' l' k';rw[L] at c';rw[L,eP,eW] at g';have xe:Ext H μ H' f_:=⟨x'.pre,λb o h n ht=>x'.kept b o (by rw[p9 (rX h F)];exact h) n (rX h F) ht,λb m=>(x'.fresh b m).imp id λz=>by
   by_cases q:b=s.heap.objs.size
   ·rw[q];exact F
   ·rw[p9 q] at z;exact z,λb h=>x'.there b (w9 b h),λP t=>x'.tab P (t.upd (.inl F))⟩
  have un:Un (uT X.stack) B H H' s.heap D.heap:=by
   have:=W.base;rw[<- l] at this;exact this
  have os:D.os=s.os:=by
   have:=W.os;rw[<- l] at this;exact this
  have hok:HOk X.prog X.w H' D.heap:=by
   have:=W.hok;rw[eP,eW] at this;exact this
  have IX:L2.Inv X Y1 d_ H' D:=I.call' os un hok W.bare λb Q=>by
   obtain⟨f0,f1,f2,f3,f4,f5⟩:=xQ b Q;exact⟨f3,f1,f4,f5⟩
  have S:∀b,b<s.heap.objs.size->b≠s.heap.objs.size+1:=λb h=>bo (dg h);refine⟨⟨H',f_,IX,xe,c',F,?_,g'⟩,?_,?_,?_,λx c e=>?_,λp hp=>?_⟩
  ·have:=W.free;rw[BJ] at this;exact this
  ·obtain⟨m,hn,_⟩:=W.loc;rw[BJ] at hn;exact⟨m,hn⟩
  ·exact(S _ I.lt).symm
  ·exact aI I.sz (eJ _)
  ·obtain⟨v,z⟩:=I.cell x c e;exact S _ z.lt
  ·exact S _ (aK (I.pin p hp).1)
end
section
variable{X:Cx}{Ex:Nat->Hp->Prop}
def WG{α:Type}{r:R α}{a:α}{O:Ow}(h:xH r=.ok a O):r=.ok a O:=by
 cases r with
 |ok _ _=>exact h
 |exc _ _=>cases h
 |bad=>cases h
def Yz{α:Type}{r:R α}{c:Nat}{O:Ow}(h:xH r=.exc c O):False:=by cases r<;>cases h
def Gs(C:vL)(Ex:Nat->Hp->Prop)(K:ah)(P:aP)(w:aY)(H:Hp)(XV μ:List ae)(r:R (List D))(Q:ae->Hp->Prop):Prop:=match r with
 |.ok KB O'=>∀L H' f_,H L=KM->Ext H μ H' f_->oB K H' (L::XV) f_ O'->C.G K P w L XV H' f_ KB->Q L H'
 |.exc c O'=>∀H' f_,Ext H μ H' f_->oB K H' XV f_ O'->Ex c H'
 |.bad=>False
def Ext.none{H H':Hp}{μ a:List ae}(e:Ext H μ H' a){L:ae}(h:H' L=jq):H L=jq:=by
 cases q:H L with
 |none=>rfl
 |some o=>exact absurd h (e.there L (by rw[q];simp))
def Eb{C:vL}(co:AM C){em:Em}{o a:aT}{i:List aT}{gs:List bJ}{scope:cT}{pos qe:Pos}{ext:List Str}{it0:DI}{g:Tg}{ts:List DT}{cs:List Cl}{d:List (ae×Obj)}{r:St}{H:Hp}{s:ag}{XV μ:List ae}{σ:Sg}{O:Ow}
  {use:Option (ab->Sem Unit)} {Q:ab->ag->Prop} (pQ:X.calm=qb) (hi:sM X Ex o a it0) (F:wJ X.env.scope scope (X.N++ext) (qu (⟨it0,g,ts⟩::cs)))
  (sY:∀cells h j H' u,L2.Inv X d r H' j->(∀b∈u,su X d H' b)->(∃P,Ext H μ H' P)->PG (qB X (X.N++ext) scope cells h j H' u) o (g.rd X.K)/\cj (λe t=>rm (qB X (X.N++ext) scope cells h j H' u) qy e t) i ts/\oU (qB X (X.N++ext) scope cells h j H' u) gs cs/\∀A XV k,(⟨o,a,i,0⟩::gs:List bJ)[k]?=KM->yO (qB X (X.N++ext) scope cells h j H' u) (ZB r ext.length (qu (⟨it0,g,ts⟩::cs)) A H') C A XV (C.ex (⟨o,a,i,0⟩::gs) scope pos) (⟨o,a,i,0⟩::gs) em k [])
  (hs:∀x,bU a X.env x=pure x) (I:L2.Inv X d r H s) (R:oD X.K H XV μ σ r) (c1:oB X.K H XV μ O)
  (q:Gs C Ex X.K X.prog X.w H XV μ (z_ ext.length it0 g ts cs em σ O)
   (λ(L:ae)H'=>∀j h,L2.Inv X d r H' j->(∃m,j.heap.Ns h m)->H' h=KM->h≠X.env.locals->X.s₀.heap.objs.size<=h->(∀x c,X.env.cells.lookup x=KF c->c≠h)->(∀p∈X.pn++d,p.1≠h)->
    compPost (ay X.prog X.w) X.A X.xe use Q (.ref L) h (.ok .next) j)):
  ao (ay X.prog X.w) X.A (comprehension (C.ex (⟨o,a,i,0⟩::gs) scope pos) scope X.env qe C.new qh (eval a X.env) use) Q X.xe s:=by
 have qK:∀y∈scope.names,y.2=.free->∃c,X.env.cells.lookup y.1=KF c:=λy hy hf=>by
  obtain⟨n,k⟩:=y;subst hf;exact I.ok.has n (F.frees _ hy rfl)
 refine wpAny_comprehension_free (g:=⟨o,a,i,0⟩) (gs:=gs) (co.cl _ _ _) hs (S6 qK) F.kind (λx hx hl=>?_) ?_
 ·obtain⟨n,k⟩:=x;subst hl;exact yg F.nd hx
 unfold z_ at q;cases l:it0 σ O with
 |bad=>rw[l] at q;exact ak q
 | exc S O'=>
  rw[l] at q;refine pV (hi.out d s r H (λJ D=>False) I ⟨XV,μ,σ,O,R,c1,by rw[l];exact q⟩) λv s1 U=>pV U λE5 V W=>?_;obtain⟨it,u,tn,J,H2,e,Y,T,qv,Z,z⟩:=W;exact z.elim
 | ok src O2=>
  rw[l] at q;refine pV (hi.out d s r H (λJ D=>∃E,Ext H μ D E/\oB X.K D XV E O2/\oG X.K J src D XV E) I ⟨XV,μ,σ,O,R,c1,by rw[l];exact λJ D E x c sa=>⟨E,x,c,sa⟩⟩) λv s1 U=>pV U λE5 V W=>?_;obtain⟨it,u,tn,J,H2,e,Y,T,qv,Z,pZ,G,c2,sa⟩:=W;subst e;have p:Gs C Ex X.K X.prog X.w H XV μ (xH (qD src (uJ ⟨it0,g,ts⟩ cs em (ql (σ++aS ext.length KM) (qu (⟨it0,g,ts⟩::cs)))) (src.size O2) 0 O2 [])) _:=q;cases M:xH (qD src (uJ ⟨it0,g,ts⟩ cs em (ql (σ++aS ext.length KM) (qu (⟨it0,g,ts⟩::cs)))) (src.size O2) 0 O2 []) with
  |bad=>rw[M] at p;exact ak p
  |exc S O'=>exact(Yz M).elim
  | ok KB O3=>
   rw[M] at p;refine zbZ co (RR:=λac h=>compPost (ay X.prog X.w) X.A X.xe use Q ac h) pQ F (λcells h=>sY cells h _ _ _ Y Z ⟨_,G⟩) Y (R.ext G) c2 T qv Z sa (WG M) λf j B=>?_;obtain⟨H',P,I',x',S,nL,nC,gv⟩:=B.inv;have:=p (V.heap.objs.size) H' P (G.none nL) (G.trans x') S gv j (V.heap.objs.size+1) I' B.ns nC B.loc B.young B.cel B.pns;unfold compPost at this ⊢;cases use<;>exact this
def So(c:oB K H (L::XV) μ O)(a:L∉XV)(h:H L=KF (.lst vs))(q:oC K H (L::XV) μ ds vs):Y2 K H XV μ (.lst ds) (.ref L):=by unfold Y2;exact⟨L,vs,rfl,.inl ⟨.inl h,a,λm=>c.nh L m 'k'⟩,q.mv .unhide⟩
mutual
theorem Y2.swap:∀{d:D}{v:V},Y2 K H (L::XV) μ d v->Y2 K H XV (μ++[L]) d v
 |.non,_,h=>h
 |.bl _,_,h=>h
 |.int _,_,h=>h
 |.str _,_,h=>h
 | .lst ds,v,h=>by
  unfold Y2 at h ⊢;obtain⟨a,c,r,l,q⟩:=h;refine⟨a,c,r,l.imp (λz=>⟨z.1,λm=>z.2.1 (aj _ m),λm=>?_⟩) id,oC.swap q⟩;rcases aQ.mp m with m|m
  ·exact z.2.2 m
  ·exact z.2.1 (by simp at m;simp[m])
 | .tup ds,v,h=>by
  unfold Y2 at h ⊢;obtain⟨a,c,r,l,q⟩:=h;refine⟨a,c,r,l.imp (λz=>⟨z.1,λm=>z.2.1 (aj _ m),λm=>?_⟩) id,oC.swap q⟩;rcases aQ.mp m with m|m
  ·exact z.2.2 m
  ·exact z.2.1 (by simp at m;simp[m])
 | .own k,v,h=>by
  unfold Y2 at h ⊢;obtain⟨a,r,q⟩:=h;exact⟨a,r,by rw[aH (aq.mp q).1];exact q⟩
 | .dct,v,h=>by
  unfold Y2 at h ⊢;obtain⟨a,r,q,b,e⟩:=h;refine⟨a,r,q,λm=>b (aj _ m),λm=>?_⟩;rcases aQ.mp m with m|m
  ·exact e m
  ·exact b (by simp at m;simp[m])
 | .exn C,v,h=>by
  unfold Y2 at h ⊢;obtain⟨a,f,r,g,q,b,e⟩:=h;refine⟨a,f,r,g,q,λm=>b (aj _ m),λm=>?_⟩;rcases aQ.mp m with m|m
  ·exact e m
  ·exact b (by simp at m;simp[m])
 | .tab P,v,h=>by
  unfold Y2 at h ⊢;exact h
 | .map ks ds,v,h=>by
  unfold Y2 at h ⊢;obtain⟨a,c,r,q,b,e,i,d⟩:=h;refine⟨a,c,r,q,λm=>b (aj _ m),λm=>?_,i,oC.swap d⟩;rcases aQ.mp m with m|m
  ·exact e m
  ·exact b (by simp at m;simp[m])
 |.adr _,_,h=>h
theorem oC.swap:∀{ds:List D}{vs:List V},oC K H (L::XV) μ ds vs->oC K H XV (μ++[L]) ds vs
 |[],_,h=>h
 | d::ds,vs,h=>by
  unfold oC at h ⊢;obtain⟨v,r,a,b,c⟩:=h;exact⟨v,r,a,Y2.swap b,oC.swap c⟩
end
def oB.swap(c:oB K H (L::XV) μ O)(f:L∉XV)(h:H L=KF (.lst vs))(q:oC K H (L::XV) μ ds vs):oB K H XV (μ++[L]) (O++[ds]):=by
 have g:L∉μ:=λm=>c.nh L m 'k';refine⟨by simp[c.len],?_,λa m=>?_,λa m=>c.ht a (aj _ m),λk a e=>?_⟩
 ·rw[fN];refine⟨c.nd,by simp,λa i b j=>?_⟩;have:b=L:=by simpa using j
  subst this;rintro rfl;exact g i
 ·rcases aQ.mp m with m|m
  ·exact λz=>c.nh a m (aj _ z)
  ·have:a=L:=by simpa using m
   subst this;exact f
 ·by_cases d:k<μ.length
  ·rw[aH d] at e;obtain⟨l,n,o,p,r⟩:=c.at_ k a e;exact⟨l,n,by rw[aH (by rw[<- c.len];exact d)];exact o,p,r.swap⟩
  ·rw[aU 'd'] at e;have s:k-μ.length=0:=by
    have:=(aq.mp e).1;simp at this;lia
   rw[s] at e;simp at e;subst e;refine⟨ds,vs,?_,h,q.swap⟩;have:k=O.length:=by have:=c.len;lia
   subst this;simp
def Ext.grow(e:Ext H μ H' f_)(h:H L=jq):Ext H μ H' (f_++[L]):=by
 obtain⟨a,rfl⟩:=e.pre;refine⟨⟨a++[L],by simp⟩,e.kept,λb m=>?_,e.there,e.tab⟩;rcases aQ.mp m with m|m
 ·exact e.fresh b m
 ·have:b=L:=by simpa using m
  subst this;exact .inr h
def vo(o:Bool)(r:R (List D)):R D:=r.bnd λKB O1=>if o=qb then .ok (.own O1.length) (O1++[KB]) else .ok (.lst KB) O1
def Rq(f:oB K H XV μ O)(q:q0 Ex K H XV μ (vo o r) Q)(h:∀L H',Q (.ref L) H'->Q1 L H'):Gs (AB elt) Ex K P w H XV μ r Q1:=by
 cases r with
 |bad=>exact q
 |exc c' O'=>exact q
 | ok KB O'=>
  intro L H' g a x c ⟨i,b,d⟩;have e:L∉XV:=λm=>f.ht L m a;cases o with
  |false=>exact h L H' (post.ok (show q0 Ex K H XV μ (.ok (.lst KB) O') Q from q) x c.unhide (So c e b d))
  |true=>exact h L H' (post.ok (show q0 Ex K H XV μ (.ok (.own O'.length) (O'++[KB])) Q from q) (x.grow a) (c.swap e b d) (Eo c.len))
def zeg(k:oB K H XV μ O)(b:oD K H XV μ σ d_)(q:oF Ex K H XV μ ((vo o r).bnS λd O1=>.nx (σ.set i (KF d)) O1) E)(h:∀L H',E.nx (d_.set i (KF (.ref L))) H'->Q1 L H'):
  Gs (AB elt) Ex K P w H XV μ r Q1:=by
 cases r with
 |bad=>exact q
 |exc c' O'=>exact q
 | ok KB O'=>
  intro L H' e a x c ⟨l,f,g⟩;have j:L∉XV:=λm=>k.ht L m a;cases o with
  | false=>
   have q:oF Ex K H XV μ (.nx (σ.set i (KF (.lst KB))) O') E:=q;exact h L H' (q _ H' e x ((b.ext x).set (So c j f g) i) c.unhide)
  | true=>
   have q:oF Ex K H XV μ (.nx (σ.set i (KF (.own O'.length))) (O'++[KB])) E:=q;exact h L H' (q _ H' (e++[L]) (x.grow a) ((b.ext (x.grow a)).set (Eo c.len) i) (c.swap j f g))
def IS{d f a:aT}{b:List aT}{gs:List bJ}{scope:cT}{pos:Pos}{ext:List Str}{g:Tg}{ts:List DT}{cs:List Cl}{te:DE}{Z:ae->Hp->St->Hp->List ae->Prop}
  (h:∀cells C s H c,PG (qB X (X.N++ext) scope cells C s H c) f (g.rd X.K)/\cj (λe t=>rm (qB X (X.N++ext) scope cells C s H c) qy e t) b ts/\oU (qB X (X.N++ext) scope cells C s H c) gs cs/\PD (qB X (X.N++ext) scope cells C s H c) qy d te) (cells Cn s H c):
  PG (qB X (X.N++ext) scope cells Cn s H c) f (g.rd X.K)/\cj (λe t=>rm (qB X (X.N++ext) scope cells Cn s H c) qy e t) b ts/\oU (qB X (X.N++ext) scope cells Cn s H c) gs cs/\∀A XV k,(⟨f,a,b,0⟩::gs:List bJ)[k]?=KM->yO (qB X (X.N++ext) scope cells Cn s H c) (Z A H) (AB d) A XV ((AB d).ex (⟨f,a,b,0⟩::gs) scope pos) (⟨f,a,b,0⟩::gs) (zK te) k []:=
 let ⟨h1,h2,h3,h4⟩:=h cells Cn s H c
 ⟨h1,h2,h3,λ_ _ _ i=>zg1 rfl h4.z i⟩
def qg(o:Bool)(ext:Nat)(it0:DI)(g:Tg)(ts:List DT)(cs:List Cl)(te:DE):DE:=λσ O=>vo o (zY ext it0 g ts cs te σ O)
def YR(o:Bool)(ext:List Str)(d:X.calm=qb)(f:sM X Ex tg iter it0)(h:wJ X.env.scope scope (X.N++ext) (qu (⟨it0,g,ts⟩::cs)))
  (i:∀cells C s H a,PG (qB X (X.N++ext) scope cells C s H a) tg (g.rd X.K)/\cj (λe t=>rm (qB X (X.N++ext) scope cells C s H a) qy e t) ifs ts/\oU (qB X (X.N++ext) scope cells C s H a) gs cs/\PD (qB X (X.N++ext) scope cells C s H a) qy elt te)
  (j:∀x,bU iter X.env x=pure x:=by intro _;rfl):PD X Ex (.ListComp elt (⟨tg,iter,ifs,0⟩::gs) scope pos) (qg o ext.length it0 g ts cs te):=by refine⟨?_⟩;rintro b s F H Q I ⟨k,G,J,O,l,c,q⟩;rw[eval_ListComp];unfold qg at q;rw[<- K0] at q;refine Eb (Kr elt) (use:=KM) d f h (λcells n s H a _ _ _=>IS i cells n s H a) j I l c (Rq c q λL p r M C u v w y z A B=>?_);obtain⟨m,D⟩:=v;exact⟨m,D,λP E=>⟨.ref L,p,Inv.bare u E w y z A B,rfl,r⟩⟩
def za3(o:Bool)(ext:List Str)(u:X.calm=qb)(w:X.N.Nodup)(B:X.N[i]?=KF y)(j:X.env.scope.names.lookup y=KF .local)
  (D:sM X Ex tg iter it0) (F:wJ X.env.scope scope (X.N++ext) (qu (⟨it0,g,ts⟩::cs)))
  (G:∀cells C s H b,PG (qB X (X.N++ext) scope cells C s H b) tg (g.rd X.K)/\cj (λe t=>rm (qB X (X.N++ext) scope cells C s H b) qy e t) ifs ts/\oU (qB X (X.N++ext) scope cells C s H b) gs cs/\PD (qB X (X.N++ext) scope cells C s H b) qy elt te)
  (J:swapsWith (.ListComp elt (⟨tg,iter,ifs,0⟩::gs) scope pos) (KF (.Name y py)) rP.line X.env=pure qb)
  (M:∀x,bU iter X.env x=pure x:=by intro _;rfl):sC X Ex (.Assign [.Name y py] (.ListComp elt (⟨tg,iter,ifs,0⟩::gs) scope pos) rP) (pS i (qg o ext.length it0 g ts cs te)):=by
 refine⟨?_⟩;rintro c s d_ H E I ⟨h,P,k,O,l,n,q⟩;rw[iV _ _ _ _ J];refine aa (eS (aa ?_));show ao _ X.A (do let _ <- comprehension (.ListComp elt (⟨tg,iter,ifs,0⟩::gs) scope pos) scope X.env _ (newList []) qh (eval iter X.env) (KF (assign (.Name y py) X.env))) _ _ s;have q:oF Ex X.K H h P ((vo o (zY ext.length it0 g ts cs te k O)).bnS λd R=>.nx (k.set i (KF d)) R) E:=q;rw[<- K0] at q;refine aa (cy (Eb (Kr elt) (use:=KF (assign (.Name y py) X.env)) (Q:=λ_ f=>SP X c E .next f) u D F (λcells S s H b _ _ _=>IS G cells S s H b) M I l n (zeg n l q λL T U f C V W Y p Z r pn=>?_)) (λ_ f hq=>ai (ai hq)) λ_ _ e=>e);obtain⟨m,hn⟩:=W;show ao _ _ (assign (.Name y py) X.env (.ref L)) _ _ f;refine ir (Hi (v:=.ref L) V w B (.inl j) rfl (λym F7 u4=>?_) (.inr j));obtain⟨a,Bk,ha⟩:=u4;have FN:C≠a:=by
  rcases ha with z|z
  ·rw[z];exact p
  ·exact λe=>r y a z e.symm
 refine⟨m,hn.sameBut Bk FN,λh' zt=>?_⟩;exact⟨_,T,Inv.bare F7 zt Y p Z r pn,U⟩
end
noncomputable def qd{α β:Type}(f:α->Option β):List α->Option (List β)
 |[]=>KF []
 | x::xs=>match f x,qd f xs with
  |some p,KF ps=>KF (p::ps)
  |_,_=>KM
def wV(cs:List Nat):Option d7:=if cs.all (· < 1114112)=qb then KF (.str ⟨cs.toArray⟩) else KM
def qz(O:Ow):Nat->D->Option d7
 | 0,d=>match d with
  |.non=>KF .none
  |.bl b=>KF (.bool b)
  |.int i=>KF (.int i)
  |.str cs=>wV cs
  |_=>KM
 | n+1,d=>match d with
  |.non=>KF .none
  |.bl b=>KF (.bool b)
  |.int i=>KF (.int i)
  |.str cs=>wV cs
  |.lst ds=>(qd (qz O n) ds).map .list
  |.tup ds=>(qd (qz O n) ds).map .tuple
  | .own k=>match O[k]? with
   |some ds=>(qd (qz O n) ds).map .list
   |none=>KM
  |.dct=>KM
  |.exn _=>KM
  |.tab _=>KM
  |.map _ _=>KM
  |.adr _=>KM
section
variable{X:Cx}{Y1:List (ae×Obj)}{d_:St}{H:Hp}{s:ag}{XV μ:List ae}{O:Ow}
theorem Hz(I:L2.Inv X Y1 d_ H s)(f:∀(d:D)(v:V)(u:ab)(p:d7),Y2 X.K H XV μ d v->RelV v u->qz O n d=KF p->∃b,Reads s.heap u p b/\p.canLay0=qb/\p.depth<=n):
  ∀(ds:List D)(vs:List V)(c:List ab)(a:List d7),oC X.K H XV μ ds vs->oE vs c->qd (qz O n) ds=KF a->∃b,ReadsAll s.heap c a b/\mJ a=qb/\nD a<=n
 | [],vs,c,a,h,r,e=>by
  unfold oC at h;subst h;cases r;cases e;exact⟨[],.nil,rfl,bE _⟩
 | d::ds,vs,c,a,h,r,e=>by
  unfold oC at h;obtain⟨v,t,rfl,g,i⟩:=h;cases r with
  | cons r1 r2=>
   unfold qd at e;split at e
   ·rename_i p j k l;cases e;obtain⟨b,m,o,q⟩:=f d v _ p g r1 k;obtain⟨w,x,y,z⟩:=Hz I f ds t _ j i r2 l;refine⟨b++w,.cons m x,?_,?_⟩
    ·unfold mJ;rw[o,y];rfl
    ·unfold nD;exact Nat.max_le.mpr ⟨q,z⟩
   ·cases e
def SJ(e:wV cs=KF p):∃a,Reads s.heap (.str ⟨cs.toArray⟩ t) p a/\p.canLay0=qb/\p.depth<=n:=by
 unfold wV at e;split at e
 ·rename_i b;cases e;exact⟨[],.str _ _,by unfold jj PyData.strOk;simpa using b,bE _⟩
 ·cases e
def Ab(I:L2.Inv X Y1 d_ H s)(c:oB X.K H XV μ O):∀(n:Nat)(d:D)(v:V)(u:ab)(p:d7),Y2 X.K H XV μ d v->RelV v u->qz O n d=KF p->∃B,Reads s.heap u p B/\p.canLay0=qb/\p.depth<=n:=by
 intro n
 induction n with
 | zero=>
  intro d v u p h r e;cases d with
  |non=>unfold Y2 at h;subst h;cases r;cases e;exact⟨[],.none,rfl,bE _⟩
  |bl b=>unfold Y2 at h;subst h;cases r;cases e;exact⟨[],.bool _,rfl,bE _⟩
  |int b=>unfold Y2 at h;subst h;obtain⟨t,rfl⟩:=r;cases e;exact⟨[],.int _ _,rfl,bE _⟩
  | str cs=>
   unfold Y2 at h;subst h;obtain⟨t,rfl⟩:=r;exact SJ (show wV cs=KF p from e)
  |_=>cases e
 | succ n ih=>
  intro d v u p h r e;cases d with
  |non=>unfold Y2 at h;subst h;cases r;cases e;exact⟨[],.none,rfl,bE _⟩
  |bl b=>unfold Y2 at h;subst h;cases r;cases e;exact⟨[],.bool _,rfl,bE _⟩
  |int b=>unfold Y2 at h;subst h;obtain⟨t,rfl⟩:=r;cases e;exact⟨[],.int _ _,rfl,bE _⟩
  | str cs=>
   unfold Y2 at h;subst h;obtain⟨t,rfl⟩:=r;exact SJ (show wV cs=KF p from e)
  | lst f=>
   unfold Y2 at h;obtain⟨a,i,rfl,l,q⟩:=h;cases r;have e:(qd (qz O n) f).map eE=KF p:=e;cases g:qd (qz O n) f with
   |none=>rw[g] at e;cases e
   | some ps=>
    rw[g] at e;cases e;obtain⟨j,m,⟨o,k,w,x,F,y⟩,C⟩:=I.list l.sq;obtain⟨B,z,A,E⟩:=Hz I ih f i j ps q m g;exact⟨_,.list w x y (by simpa using z),by unfold jj;exact A,by unfold mq;lia⟩
  | tup f=>
   unfold Y2 at h;obtain⟨a,i,rfl,l,q⟩:=h;cases r;have e:(qd (qz O n) f).map hW=KF p:=e;cases g:qd (qz O n) f with
   |none=>rw[g] at e;cases e
   | some ps=>
    rw[g] at e;cases e;obtain⟨j,m,⟨o,w,x,k,y⟩,C⟩:=I.tuple l.sq;obtain⟨B,z,A,E⟩:=Hz I ih f i j ps q m g;exact⟨_,.tuple w x y (by simpa using z),by unfold jj;exact A,by unfold mq;lia⟩
  | own k=>
   unfold Y2 at h;obtain⟨a,rfl,G⟩:=h;cases r;obtain⟨f,i,J,L,M⟩:=c.at_ k a G;have e:(match O[k]? with|some f=>(qd (qz O n) f).map eE|none=>KM)=KF p:=e;rw[J] at e;cases g:qd (qz O n) f with
   |none=>simp only[g] at e;cases e
   | some ps=>
    simp only[g] at e;cases e;obtain⟨j,m,⟨o,N,w,x,F,y⟩,C⟩:=I.list (.of L);obtain⟨B,z,A,E⟩:=Hz I ih f i j ps M m g;exact⟨_,.list w x y (by simpa using z),by unfold jj;exact A,by unfold mq;lia⟩
  |dct=>cases e
  |exn _=>cases e
  |tab _=>cases e
  |map _ _=>cases e
  |adr _=>cases e
end
def py(O:Ow)(d:D):Option d7:=qz O 8 d
def zh(K:ah)(f:d7->d7->Option Bool):R2:=λv w H Q=>∃XV μ O x y a b k,oB K H XV μ O/\Y2 K H XV μ x v/\Y2 K H XV μ y w/\py O x=KF a/\py O y=KF b/\f a b=KF k/\Q (.bl k) H
def pP(f:d7->d7->Option Bool):Ow->D->D->R D:=λO x y=>match py O x,py O y with
 | some a,KF b=>match f a b with
  |some k=>.ok (.bl k) O
  |none=>.bad
 |_,_=>.bad
section
variable{X:Cx}{Ex:Nat->Hp->Prop}
def Cj:sj X Ex (zh X.K f) (pP f):=by
 intro H d e O x y v w Q c g h q;unfold pP at q;split at q
 ·rename_i a b i j;split at q
  ·rename_i k l;exact⟨d,e,O,x,y,a,b,k,c,g,h,i,j,l,post.here q c uY⟩
  ·exact ak q
 ·exact ak q
def qW:d7->d7->Option Bool:=λa b=>KF (bj a b)
def qN:d7->d7->Option Bool:=λa b=>KF (!PyData.eqv a b)
def Ah:d7->d7->Option Bool:=λa b=>match b with
 |.list xs=>KF (xs.any λy=>bj y a)
 |.tuple xs=>KF (xs.any λy=>bj y a)
 |_=>KM
def BO:d7->d7->Option Bool:=λa b=>match b with
 |.list xs=>KF (!xs.any λy=>bj y a)
 |.tuple xs=>KF (!xs.any λy=>bj y a)
 |_=>KM
def G7(a:p.canLay0=qb)(b:p.depth<=8):oi p=qb:=by unfold oi;rw[a,decide_eq_true (show p.depth<=64 by lia)];rfl
def PF(e:X.A.units+64<cLine):qI X (cM .Eq) (zh X.K qW):=by intro d s E H x y v u Q I f g h;obtain⟨i,F,O,j,l,a,b,k,c,m,n,o,p,r,q⟩:=h;obtain⟨G,t,w,z⟩:=Ab I c 8 j x v a m f o;obtain⟨J,B,C,D⟩:=Ab I c 8 l y u b n g p;cases r;exact PyProof.Rows.eq_dataH t B (G7 w z) (G7 C D) e ⟨.bl _,H,I,rfl,q⟩
def PK(e:X.A.units+64<cLine):qI X (cM .NotEq) (zh X.K qN):=by intro d s E H x y v u Q I f g h;obtain⟨i,F,O,j,l,a,b,k,c,m,n,o,p,r,q⟩:=h;obtain⟨G,t,w,z⟩:=Ab I c 8 j x v a m f o;obtain⟨J,B,C,D⟩:=Ab I c 8 l y u b n g p;cases r;exact PyProof.Rows.ne_dataH t B (G7 w z) (G7 C D) e ⟨.bl _,H,I,rfl,q⟩
def Gu{A:ba}{n m:Nat}(h:m<=8)(a:A.units+64<cLine):A.units+1+min n m<cLine:=by have:=mY n m;lia
def zhO(e:X.A.units+64<cLine):qI X (cM .In) (zh X.K Ah):=by
 intro f s D H x y v u Q I n o h;obtain⟨p,E,O,r,t,a,b,k,c,w,z,B,C,d,q⟩:=h;obtain⟨F,g,i,j⟩:=Ab I c 8 r x v a w n B;obtain⟨G,l,m,J⟩:=Ab I c 8 t y u b z o C;cases b with
 |list xs=>cases d;exact SeqAt.in_list_reads l g m i (Gu j e) ⟨.bl _,H,I,rfl,q⟩
 |tuple xs=>cases d;exact SeqAt.in_tuple_reads l g m i (Gu j e) ⟨.bl _,H,I,rfl,q⟩
 |_=>cases d
def zgb(e:X.A.units+64<cLine):qI X (cM .NotIn) (zh X.K BO):=by
 intro f s D H x y v u Q I n o h;obtain⟨p,E,O,r,t,a,b,k,c,w,z,B,C,d,q⟩:=h;obtain⟨F,g,i,j⟩:=Ab I c 8 r x v a w n B;obtain⟨G,l,m,J⟩:=Ab I c 8 t y u b z o C;cases b with
 |list xs=>cases d;exact SeqAt.notIn_list_reads l g m i (Gu j e) ⟨.bl _,H,I,rfl,q⟩
 |tuple xs=>cases d;exact SeqAt.notIn_tuple_reads l g m i (Gu j e) ⟨.bl _,H,I,rfl,q⟩
 |_=>cases d
end
end DL
namespace DL
open PySem L2
section
variable{e:aT}
noncomputable def rD(O:Ow):D->Option (List D)
 |.lst ds=>KF ds
 |.own k=>O[k]?
 |_=>KM
def zc:D->Option (List D)
 |.tup ds=>KF ds
 |_=>KM
def vO(a:oB K H XV μ O)(h:Y2 K H XV μ d v)(e:rD O d=KF ds):∃p vs,v=.ref p/\qO K H p vs/\oC K H XV μ ds vs:=by
 cases d with
 | lst xs=>
  unfold Y2 at h;obtain⟨p,vs,rfl,l,q⟩:=h;cases e;exact⟨p,vs,rfl,l.sq,q⟩
 | own k=>
  unfold Y2 at h;obtain⟨p,rfl,b⟩:=h;obtain⟨i,vs,c,f,g⟩:=a.at_ k p b;have e:O[k]?=KF ds:=e;rw[c] at e;cases e;exact⟨p,vs,rfl,.of f,g⟩
 |_=>cases e
def AK(h:Y2 K H XV μ d v)(e:zc d=KF ds):∃p vs,v=.ref p/\rG K H p vs/\oC K H XV μ ds vs:=by
 cases d with
 | tup xs=>
  unfold Y2 at h;obtain⟨p,vs,rfl,l,q⟩:=h;cases e;exact⟨p,vs,rfl,l.sq,q⟩
 |_=>cases e
def zp9:Ow->D->D->R D:=λO x y=>match x,y with
 |.str s,.str t=>if s.length+t.length<=4000000 then .ok (.str (s++t)) O else .bad
 |_,_=>.bad
end
def QK(h:oC K H XV μ ds vs)(e:atI ds i=KF d):∃v,atI vs i=KF v/\Y2 K H XV μ d v:=by
 unfold atI at e ⊢;rw[<- h.length];cases q:ixN ds.length i with
 |none=>rw[q] at e;cases e
 |some j=>rw[q] at e;exact h.get e
def p8:Ow->D->D->R D:=λO x y=>match y with
 | .int i=>match rD O x with
  | some ds=>match atI ds i with
   |some d=>.ok d O
   |none=>.bad
  | none=>match zc x with
   | some ds=>match atI ds i with
    |some d=>.ok d O
    |none=>.bad
   | none=>match x with
    | .str cs=>if cs.length<=4000000 then match atI cs i with
      |some ch=>.ok (.str [ch]) O
      |none=>.bad
     else .bad
    |_=>.bad
 |_=>.bad
section
variable{X:Cx}{Ex:Nat->Hp->Prop}{pos:Pos}{a b c e:aT}{ta tb:DE}
def XW:sj X Ex (TB X.K) p8:=by
 intro H o A O x y v w Q c g n q;unfold p8 at q;split at q
 ·rename_i i;unfold Y2 at n;subst n;split at q
  ·rename_i r e;obtain⟨p,h,rfl,j,k⟩:=vO c g e;split at q
   ·rename_i d f;obtain⟨z,l,m⟩:=QK k f;exact .inl ⟨p,h,i,z,rfl,rfl,j,l,post.here q c m⟩
   ·exact ak q
  ·split at q
   ·rename_i r e;obtain⟨p,h,rfl,j,k⟩:=AK g e;split at q
    ·rename_i d f;obtain⟨z,l,m⟩:=QK k f;exact .inr (.inl ⟨p,h,i,z,rfl,rfl,j,l,post.here q c m⟩)
    ·exact ak q
   ·split at q
    ·rename_i s _ _;unfold Y2 at g;subst g;obtain⟨t,q⟩:=post.ite q;split at q
     ·rename_i u f;refine .inr (.inr ⟨_,i,u,rfl,rfl,?_,?_,post.here q c JX⟩)
      ·show s.toArray.size<=_;rw[aJ];exact yf t
      ·simpa using f
     ·exact ak q
    ·exact ak q
 ·exact ak q
def VW(d:PD X Ex a ta)(f:PD X Ex b tb)(g:P0 b):PD X Ex (.Subscript a b pos) (e_ p8 ta tb):=rM (Vk XC d.out f.out g) (GG XW)
def m_(f:Ow->List D->R D)(t:DA):DE:=λσ O=>(t σ O).bnd λxs O1=>f O1 xs
def uW(X:Cx)(Ex:Nat->Hp->Prop)(r:List V->Hp->VK->Prop)(f:Ow->List D->R D):Prop:=∀(H:Hp)(XV μ:List ae)(O:Ow)(xs:List D)(vs:List V)(Q:VK),oB X.K H XV μ O->oC X.K H XV μ xs vs->q0 Ex X.K H XV μ (f O xs) Q->r vs H Q
def OU(h:uW X Ex r f)(XV μ:List ae)(σ:Sg)(O:Ow)(g:St)(H:Hp)(Q:VK)(i:oD X.K H XV μ σ g)(j:oB X.K H XV μ O)(q:q0 Ex X.K H XV μ (m_ f t σ O) Q):HU r (uC Ex X.K t) g H Q:=
 uC.go i j q λk l m n o s x c d p=>h n XV o l k m Q c d p
def yR{x:Str}{id:String}{p:Pos}{es:List aT}{r:List V->Hp->VK->Prop}{f:Ow->List D->R D}{t:DA}(d:oM X (.builtin id) r)(h:uW X Ex r f)(g:Gl X x)(i:X.mg x=KM)(j:br x=KF (.builtin id))(k:ug X Ex (e::es) t)
  (l:x ≠ "__name__":=by decide) (m:(x==("__debug__":Str))=qh:=by decide) (n:aN (e::es) X.env=(qh,eval e X.env)::aN es X.env:=by rfl) (o:(backTo pos (aN es X.env)).any (·.1)=qh:=by rfl):
  PD X Ex (.Call (.Name x p) (e::es) [] pos) (m_ f t):=rM (He d g i j k.out l m n o) (OU h)
def Hm(d:oM X (.type T) r)(h:uW X Ex r f)(g:Gl X x)(i:X.mg x=KM)(j:br x=KF (.type T))(k:ug X Ex (e::es) t)
  (l:x ≠ "__name__":=by decide) (m:(x==("__debug__":Str))=qh:=by decide) (n:aN (e::es) X.env=(qh,eval e X.env)::aN es X.env:=by rfl) (o:(backTo pos (aN es X.env)).any (·.1)=qh:=by rfl):
  PD X Ex (.Call (.Name x p) (e::es) [] pos) (m_ f t):=rM (KE d g i j k.out l m n o) (OU h)
def qi:Ow->List D->R D:=λO xs=>match xs with
 | [x]=>match rD O x with
  |some ds=>.ok (.int ds.length) O
  | none=>match zc x with
   |some ds=>.ok (.int ds.length) O
   | none=>match x with
    |.str cs=>if cs.length<=4000000 then .ok (.int cs.length) O else .bad
    |_=>.bad
 |_=>.bad
def X6:uW X Ex (λxs H Q=>∃x n,xs=[x]/\NC X.K x H n/\Q (.int n) H) qi:=by
 intro H l o O xs r Q c d q;unfold qi at q;split at q
 ·rename_i x;obtain⟨v,rfl,f⟩:=uj d;split at q
  ·rename_i h e;obtain⟨p,i,rfl,j,k⟩:=vO c f e;exact⟨_,h.length,rfl,.inl ⟨i,j,k.length⟩,post.here q c r9⟩
  ·split at q
   ·rename_i h e;obtain⟨p,i,rfl,j,k⟩:=AK f e;exact⟨_,h.length,rfl,.inr ⟨i,j,k.length⟩,post.here q c r9⟩
   ·split at q
    ·rename_i g _ _;unfold Y2 at f;subst f;obtain⟨m,q⟩:=post.ite q;refine⟨_,g.length,rfl,⟨?_,?_⟩,post.here q c r9⟩
     ·show g.toArray.size<=_;rw[aJ];exact yf m
     ·show g.length=g.toArray.size;rw[aJ]
    ·exact ak q
 ·exact ak q
noncomputable def Jb:Ow->List D->R D:=λO xs=>match xs with
 |[.int i]=>.ok (.int i) O
 |[.bl k]=>.ok (.int (if k then 1 else 0)) O
 |_=>.bad
def Yb:uW X Ex (λxs H Q=>(∃i,xs=[.int i]/\Q (.int i) H) \/ ∃k,xs=[.bl k]/\Q (.int (if k then 1 else 0)) H) Jb:=by
 intro H g h O xs j Q c d q;unfold Jb at q;split at q
 ·obtain⟨v,rfl,f⟩:=uj d;unfold Y2 at f;subst f;exact .inl ⟨_,rfl,post.here q c r9⟩
 ·obtain⟨v,rfl,f⟩:=uj d;unfold Y2 at f;subst f;exact .inr ⟨_,rfl,post.here q c r9⟩
 ·exact ak q
def AJ:Ow->List D->R D:=λO xs=>match xs with
 | [x]=>match rD O x with
  |some ds=>.ok (.tup ds) O
  | none=>match zc x with
   |some ds=>.ok (.tup ds) O
   |none=>.bad
 |_=>.bad
def zfX:uW X Ex (λxs H Q=>∃p f,xs=[.ref p]/\((qO X.K H p f/\∀l,H l=KM->Q (.ref l) (upd H l (.tup f)))\/(rG X.K H p f/\Q (.ref p) H))) AJ:=by
 intro H m o O xs r Q c d q;unfold AJ at q;split at q
 ·rename_i x;obtain⟨v,rfl,g⟩:=uj d;split at q
  ·rename_i n e;obtain⟨p,h,rfl,i,k⟩:=vO c g e;exact⟨p,h,rfl,.inl ⟨i,λl j=>post.ok q (.laid j) (c.laid j) (Y2.newT c j k)⟩⟩
  ·split at q
   ·rename_i n e;obtain⟨p,h,rfl,i,k⟩:=AK g e;refine⟨p,h,rfl,.inr ⟨i,post.here q c ?_⟩⟩;cases x with
    |tup f=>cases e;exact g
    |_=>cases e
   ·exact ak q
 ·exact ak q
def GA(o:Bool):Ow->List D->R D:=λO xs=>match xs with
 | [x]=>match (match rD O x with|some ds=>KF ds|none=>zc x) with
  |some ds=>if o=qb then .ok (.own O.length) (O++[ds]) else .ok (.lst ds) O
  |none=>.bad
 |_=>.bad
def zhP(o:Bool):uW X Ex (λxs H Q=>∃p m,xs=[.ref p]/\(qO X.K H p m\/rG X.K H p m)/\∀l,H l=KM->Q (.ref l) (upd H l (.lst m))) (GA o):=by
 intro H g n O xs w Q c d q;unfold GA at q;split at q
 ·rename_i x;obtain⟨v,rfl,u⟩:=uj d;split at q
  ·rename_i r e;have h:∃p f,v=.ref p/\(qO X.K H p f\/rG X.K H p f)/\oC X.K H g n r f:=by
    cases s:rD O x with
    | some es=>
     rw[s] at e;cases e;obtain⟨p,f,t,j,i⟩:=vO c u s;exact⟨p,f,t,.inl j,i⟩
    | none=>
     rw[s] at e;obtain⟨p,f,t,j,i⟩:=AK u e;exact⟨p,f,t,.inr j,i⟩
   obtain⟨p,f,rfl,j,i⟩:=h;refine⟨p,f,rfl,j,λl k=>?_⟩;cases o with
   |true=>exact post.ok (show q0 Ex X.K H g n (.ok (.own O.length) (O++[r])) Q from q) (.cell k) (c.cell k i) (Eo c.len)
   |false=>exact post.ok (show q0 Ex X.K H g n (.ok (.lst r) O) Q from q) (.laid k) (c.laid k) (Y2.newL c k i)
  ·exact ak q
 ·exact ak q
def AA:Ow->List D->R D:=λO xs=>match xs with
 |[.int i,.int j]=>.ok (.int (if j>i then j else i)) O
 |_=>.bad
def AI:Ow->List D->R D:=λO xs=>match xs with
 |[.int i,.int j]=>.ok (.int (if j<i then j else i)) O
 |_=>.bad
def YZ:uW X Ex (λxs H Q=>∃i j,xs=[.int i,.int j]/\Q (.int (if j>i then j else i)) H) AA:=by
 intro H h k O xs l Q c d q;unfold AA at q;split at q
 ·obtain⟨v,w,rfl,f,g⟩:=B6 d;unfold Y2 at f g;subst f;subst g;exact⟨_,_,rfl,post.here q c r9⟩
 ·exact ak q
def Y8:uW X Ex (λxs H Q=>∃i j,xs=[.int i,.int j]/\Q (.int (if j<i then j else i)) H) AI:=by
 intro H h k O xs l Q c d q;unfold AI at q;split at q
 ·obtain⟨v,w,rfl,f,g⟩:=B6 d;unfold Y2 at f g;subst f;subst g;exact⟨_,_,rfl,post.here q c r9⟩
 ·exact ak q
end
noncomputable def IK(K:ah)(Ec:XK->Nat->Hp->Prop)(n:Nat)(F:List D->Ow->R D):Sp:=λvs H Q E=>vs.length=n/\∃XV μ ds O,oC K H XV μ ds vs/\oB K H XV μ O/\q0 (Ec E) K H XV μ (F ds O) Q
abbrev yv:XK->Nat->Hp->Prop:=λ_ _ _=>False
section
variable{X:Cx}{CX:wI}{k:Nat}{f:ae}{fd:eB}{ps:List Str}{E:XK}{Ec:XK->Nat->Hp->Prop}{x:Str}{p pos:Pos}{e:aT}{es:List aT}{t:DA}{F:List D->Ow->R D}{n:Nat}
noncomputable def j_(n:Nat)(F:List D->Ow->R D)(t:DA):DE:=λσ O=>(t σ O).bnd λds O1=>if ds.length=n then F ds O1 else .bad
def VL(G:oR X.prog X.w X.K X.mg X.base CX k f fd ps (IK X.K Ec n F))(d:oK k X.A)(g:Gl X x)(h:X.mg x=KF (.ref f))(i:cV X.K (.ref f)=qb)(j:Binds X.K fd ps [])(l:GQ CX X E)(m:ug X (Ec E) (e::es) t)
  (o:(x==("__debug__":Str))=qh:=by decide) (r:aN (e::es) X.env=(qh,eval e X.env)::aN es X.env:=by rfl) (s:(backTo pos (aN es X.env)).any (·.1)=qh:=by rfl):
  PD X (Ec E) (.Call (.Name x p) (e::es) [] pos) (j_ n F t):=
 rM (Ql (dvs:=[]) (ds:=[]) G d g h i j .nil l m.out o r s) λa I J O L H Q u v q=>uC.go u v q λds y M N z P S B c b=>by
  obtain⟨C,b⟩:=post.ite b;refine⟨by rw[bz,<- c.length];exact C,a,z,ds,y,?_,B,b⟩;rw[bz];exact c
end
noncomputable def fin(r:RS):R D:=match r with
 |.nx _ O=>.ok .non O
 |.rt d O=>.ok d O
 |.exc c O=>.exc c O
 |_=>.bad
def qT(n:Nat)(t:DS):List D->Ow->R D:=λds O=>fin (t (ds.map KF++aS (n-ds.length) KM) O)
def SS(h:oC K H XV μ ds vs)(N:List Str):oD K H XV μ (ds.map KF++aS (N.length-ds.length) KM) (L2.start N vs):=by
 unfold L2.start;have b:=h.length;refine⟨by simp[b],λi d e=>?_⟩;have a:i<ds.length:=by
  by_cases a:i<ds.length
  ·exact a
  ·rw[aU (by simpa using a),f6] at e;split at e<;>cases e
 rw[aH (by simpa using a),be] at e;cases q:ds[i]? with
 |none=>rw[q] at e;cases e
 | some d'=>
  rw[q] at e;cases e;obtain⟨v,c,f⟩:=h.get q;exact⟨v,by rw[aH (by simp;lia),be,c];rfl,f⟩
abbrev De(P:aP)(w:aY)(K:ah)(mg:Str->Option ab)(base:aX)(N:List Str)(qual:Str)(scope:cT)(f:ae)(o_:ab)(A:ba)(outer:List Env)(s:ag)(H:Hp)(E:XK):Cx:=
 (Av (λ_ _ _ _ _ _=>False) P w K mg base N qual scope f o_ A outer s H E).nox
def We{P:aP}{w:aY}{K:ah}{mg:Str->Option ab}{base:aX}{k:Nat}{f:ae}{name a:Str}{g:iU}{body:List eI}{scope:cT}{u y i z j ct D:ab}{B F:Option ae}{G:Array (Option ab)}{N o:List Str}{t:DS}
  (I:K.lookup f=KF ⟨D,F,.func (cB name a g body scope u y i z B j ct),G⟩) (J:fg K j a=qb) (S:qt N o scope)
  (L:∀(A:ba)(b:List Env)(s:ag)(H:Hp)(E:XK),oK k (A.deeper (e9 a scope s.heap.objs.size f j))->t7 (De P w K mg base N a scope f j A b s H E) qy body t):
  oR P w K mg base (λ_ _ _ _ _ _=>False) (k+1) f (cB name a g body scope u y i z B j ct) o (IK K yv o.length (qT N.length t)):=by
 refine qw I J S (λM H Q E h=>h.1) λA b s H M Q E R h=>?_;obtain⟨V,p,T,C,O,d,c,q⟩:=h;refine⟨_,(L A b s H E R).out.nox,p,T,_,O,SS d N,c,?_⟩;unfold qT at q;generalize t (C.map KF++aS (N.length-C.length) KM) O=r at q;cases r with
 |nx σ O'=>exact λW l m x e n=>q .non l m x n GY
 |rt d' O'=>exact λv l m x n r=>q v l m x n r
 |bk σ O'=>exact ak q
 |ct σ O'=>exact ak q
 |exc n O'=>exact λl m x U=>q l m x U
 |bad=>exact ak q
noncomputable def sG:D->String
 |.non => "NoneType"
 |.bl _ => "bool"
 |.int _ => "int"
 |.str _ => "str"
 |.lst _ => "list"
 |.own _ => "list"
 |.tup _ => "tuple"
 |.dct => "dict"
 |.exn _ => "exception"
 |.tab _ => "bool"
 |.map _ _ => "dict"
 |.adr _ => "function"
def uH(t c:String):Bool:=t==c||(t == "bool" && c == "int")
section
variable{X:Cx}{Ex:Nat->Hp->Prop}{pos:Pos}{a b c e:aT}{ta te:DE}{Y1:List (ae×Obj)}{d_:St}{H:Hp}{s:ag}{XV μ:List ae}{O:Ow}
def w5:List String:=["NoneType", "bool", "int", "str", "list", "tuple", "dict"]
def ye(K:ah){t c:String}(d:t∈w5)(f:c∈["int", "bool", "str", "list", "tuple", "dict"]):lh K (.type t) (.type c)=KF (uH t c):=by simp only[w5,am,aW,or_false] at d f;rcases d with rfl|rfl|rfl|rfl|rfl|rfl|rfl<;>rcases f with rfl|rfl|rfl|rfl|rfl|rfl<;>first|rfl|decide
def SQ(I:L2.Inv X Y1 d_ H s)(E:oB X.K H XV μ O)(h:Y2 X.K H XV μ d v)(r:RelV v u)(F:(sG d == "function")=qh):∃(T:ab)(A:aX->Prop),PySem.W.KitX X.K u T A/\A s.heap/\u ≠ .builtin "__main__.__loader__#opaque"/\∀c∈(["int", "bool", "str", "list", "tuple", "dict"]:List String),lh X.K T (.type c)=KF (uH (sG d) c):=by
 cases d with
 |non=>unfold Y2 at h;subst h;cases r;exact⟨.type "NoneType",_,PySem.W.kitx_none,fk,(λz=>nomatch z),λc f=>ye X.K (t := "NoneType") (by simp[w5]) f⟩
 |bl _=>unfold Y2 at h;subst h;cases r;exact⟨.type "bool",_,mK,fk,(λz=>nomatch z),λc f=>ye X.K (t := "bool") (by simp[w5]) f⟩
 |int _=>unfold Y2 at h;subst h;obtain⟨t,rfl⟩:=r;exact⟨.type "int",_,PySem.W.kitx_int,fk,(λz=>nomatch z),λc f=>ye X.K (t := "int") (by simp[w5]) f⟩
 |str _=>unfold Y2 at h;subst h;obtain⟨t,rfl⟩:=r;exact⟨.type "str",_,PySem.W.kitx_str,fk,(λz=>nomatch z),λc f=>ye X.K (t := "str") (by simp[w5]) f⟩
 | lst x=>
  unfold Y2 at h;obtain⟨p,m,rfl,l,q⟩:=h;cases r;obtain⟨B,D,⟨o,n,j,i,_⟩,_⟩:=I.list l.sq;exact⟨.type "list",_,mL,⟨o,j,i⟩,(λz=>nomatch z),λc f=>ye X.K (t := "list") (by simp[w5]) f⟩
 | own k=>
  unfold Y2 at h;obtain⟨p,rfl,G⟩:=h;cases r;obtain⟨x,m,_,i,_⟩:=E.at_ k p G;obtain⟨B,D,⟨o,n,j,i,_⟩,_⟩:=I.list (.of i);exact⟨.type "list",_,mL,⟨o,j,i⟩,(λz=>nomatch z),λc f=>ye X.K (t := "list") (by simp[w5]) f⟩
 | tup x=>
  unfold Y2 at h;obtain⟨p,m,rfl,l,q⟩:=h;cases r;obtain⟨B,D,⟨o,j,i,_⟩,_⟩:=I.tuple l.sq;exact⟨.type "tuple",_,PySem.W.kitx_tuple,⟨o,j,i⟩,(λz=>nomatch z),λc f=>ye X.K (t := "tuple") (by simp[w5]) f⟩
 | dct=>
  unfold Y2 at h;obtain⟨p,rfl,w,_⟩:=h;cases r;obtain⟨_,_,m,_,o,J,L,j,i,_⟩:=Rd.ok w I.hok;exact⟨.type "dict",_,mM,⟨o,j,i.1⟩,(λz=>nomatch z),λc f=>ye X.K (t := "dict") (by simp[w5]) f⟩
 |tab _=>unfold Y2 at h;obtain⟨rfl,_⟩:=h;cases r;exact⟨.type "bool",_,mK,fk,(λz=>nomatch z),λc f=>ye X.K (t := "bool") (by simp[w5]) f⟩
 | map ks x=>
  unfold Y2 at h;obtain⟨p,m,rfl,w,_⟩:=h;cases r;obtain⟨_,_,m,_,o,J,L,j,i,_⟩:=Rd.ok (.inr w) I.hok;exact⟨.type "dict",_,mM,⟨o,j,i.1⟩,(λz=>nomatch z),λc f=>ye X.K (t := "dict") (by simp[w5]) f⟩
 |adr _=>cases F
 | exn C=>
  unfold Y2 at h;obtain⟨p,M,rfl,⟨k,g⟩,w,_⟩:=h;cases r;obtain⟨y,_⟩:=Rd.ok w I.hok;refine⟨_,_,Wq k,g _ y,(λz=>nomatch z),λc f=>?_⟩;rw[k.kit c f];simp only[am,aW,or_false] at f;rcases f with rfl|rfl|rfl|rfl|rfl|rfl<;>rfl
def C0:List String:=["int", "bool", "str", "list", "tuple", "dict"]
def zf0:oM X (.builtin "isinstance") (λxs H Q=>∃x C XV μ O d,xs=[x,.ty C]/\C∈C0/\oB X.K H XV μ O/\Y2 X.K H XV μ d x/\(sG d == "function")=qh/\Q (.bl (uH (sG d) C)) H):=by intro Y1 s t H xs v Q I r h;obtain⟨x,C,XV,μ,O,d,rfl,f,g,i,j,q⟩:=h;obtain⟨u,w,rfl,k,l⟩:=B7 r;cases l;obtain⟨T,y,Z,p,m,n⟩:=SQ I g i k j;exact wT I (PySem.W.kia_one Z I.kIn p (n _ f) m λo z=>⟨.bl _,H,I.tok o,rfl,q⟩)
def rz(C:String)(t:DE):DE:=λσ O=>(t σ O).bnd λd O1=>if (sG d == "function")=qb then .bad else .ok (.bl (uH (sG d) C)) O1
def DN(i:PD X Ex a ta)(j:n∈C0)(k:Gl X "isinstance")(l:X.mg "isinstance" = KM)(m:br "isinstance" = KF (.builtin "isinstance"))(o:Gl X C)(t:X.mg C=KM)(u:br C=KF (.type n))(w:C ≠ "__name__":=by decide)
  (y:(C==("__debug__":Str))=qh:=by decide) (g:aN [a,.Name C p'] X.env=(qh,eval a X.env)::aN [.Name C p'] X.env:=by rfl) (z:aN [.Name C p'] X.env=[(qh,eval (.Name C p') X.env)]:=by rfl) (A:(backTo pos (aN [.Name C p'] X.env)).any (·.1)=qh:=by rfl):
  PD X Ex (.Call (.Name "isinstance" p) [a,.Name C p'] [] pos) (rz n ta):=
 rM (He (zf0 (X:=X)) k l m (yQ i.out (yQ (J4 (v:=.ty n) o t u rfl w y) Cd z) g) 'u' 'u' g A) λXV μ I O d_ H Q B D q=>rd.go B D q λd E v J F K x h r f=>by
  obtain⟨G,f⟩:=post.iteN f;exact⟨v,n,XV,F,E,d,rfl,j,h,r,G,post.here f h uY⟩
noncomputable def vn(to:DE)(t:DA):DE:=λσ O=>(to σ O).bnd λx O1=>match x with
 | .own k=>(t σ O1).bnd λys O2=>match ys,O2[k]? with
  |[y],KF ds=>if ds.length<4000000 then .ok .non (O2.set k (ds++[y])) else .bad
  |_,_=>.bad
 |_=>.bad
def zcY(n:PD X Ex o to)(u:ug X Ex (e::es) t)(z:attributeBase o "append" X.env (eval o X.env)=eval o X.env:=by rfl)
  (B:((backTo qe (aN (e::es) X.env)).all (λx=>!x.1)&&(backToKw qe (keywordEach [] X.env)).all (λx=>x.1.isSome)&&decide ((e::es).length+([]:List gA).length+(if ([]:List gA).isEmpty then 0 else 1)<30))=qb:=by rfl)
  (C:(apos.endLine==qe.line)=qb:=by rfl) (D:aN (e::es) X.env=(qh,eval e X.env)::aN es X.env:=by rfl) (E:(backTo qe (aN es X.env)).any (·.1)=qh:=by rfl):
  PD X Ex (.Call (.Attribute o "append" apos) (e::es) [] qe) (vn to t):=
 rM (Jq kE lg PySem.F.type_list_append RQ n.out u.out z B C D E) λXV μ σ O d_ H Q G I q=>rd.go G I q λd O1 v H1 h_ J x h r p=>by
  cases d with
  | own k=>
   have K:=r;unfold Y2 at r;obtain⟨A,rfl,L⟩:=r;obtain⟨ds,M,h1,N,h3⟩:=h.at_ k A L;refine⟨.inl ⟨rfl,M,.of N⟩,uC.go J h p λys O2 ws H2 P e3 R i S f=>?_⟩;split at f
   ·rename_i y T U;obtain⟨V,f⟩:=post.ite f;obtain⟨w,rfl,W⟩:=uj S;have g:P[k]?=KF A:=by
     have:=K.ext R;unfold Y2 at this;obtain⟨A',Y,Z⟩:=this;cases Y;exact Z
    obtain⟨FX,y0,j,l,m⟩:=i.at_ k A g;rw[U] at j;cases j;refine⟨A,y0,w,rfl,rfl,l,bb (by rw[<- m.length];exact V) 'u',?_⟩;exact post.ok f (.put (aD g) ⟨_,l⟩) (i.put g (m.append (.cons W .nil))) GY
   ·exact ak f
  |_=>exact ak p
def yF(te to ti:DE):DS:=λσ O=>(te σ O).bnS λy O1=>(to σ O1).bnS λx O2=>(ti σ O2).bnS λi O3=>match x,i with
 | .own k,.int i=>match O3[k]? with
  | some ds=>match ixN ds.length i with
   |some j=>.nx σ (O3.set k (ds.set j y))
   |none=>.bad
  |none=>.bad
 |_,_=>.bad
def ziA(z:PD X Ex e te)(B:PD X Ex o to)(C:PD X Ex i ti)(D:∀v,assign (.Subscript o i pos) X.env v=(do
   let ov <- holding [v] (eval o X.env);let iv <- holding [v,ov] (eval i X.env)
   standAt pos
   holding [v,ov,iv] (setItem ov iv v)
   release [v,ov,iv] []):=by intro _;rfl)(F:jI [.Subscript o i pos] e rP.line X.env=pure qh:=by rfl)(G:jJ [.Subscript o i pos] e X.env=pure KM:=by rfl)
  (I:(gK [.Subscript o i pos] X.env).map (·.2)=[assign (.Subscript o i pos) X.env]:=by rfl):sC X Ex (.Assign [.Subscript o i pos] e rP) (yF te to ti):=
 yc (OP z.out (Wl B.out C.out zfs D) F G I) λXV μ σ O E d_ H J K q=>rd.goS J K q λy O1 v H1 h_ L x1 M N P=>rd.goS L M P λx O2 u H2 pZ Q R S T U=>rd.goS Q S U λii O3 w H3 V W h l n d=>by
  split at d
  ·rename_i k j;split at d
   ·rename_i ds Y;split at d
    ·rename_i m Z;have p:=T.ext h;unfold Y2 at p n;obtain⟨A,rfl,f⟩:=p;subst n;obtain⟨FX,y0,r,g,t⟩:=l.at_ k A f;rw[Y] at r;cases r;refine⟨A,y0,j,m,rfl,rfl,g,by rw[<- t.length];exact Z,?_⟩;exact d d_ _ V (.put (aD f) ⟨_,g⟩) (W.ext (.put (aD f) ⟨_,g⟩)) (l.put f (t.set ((N.ext R).ext h) m))
    ·exact ak d
   ·exact ak d
  ·exact ak d
def wG:List D->Option (List Bool)
 |[]=>KF []
 |.bl b::r=>(wG r).map (b :: ·)
 |_=>KM
theorem Jv:∀{ds:List D}{vs:List V}{f:List Bool},oC K H XV μ ds vs->wG ds=KF f->vs=f.map V.bl
 |[],vs,f,h,e=>by unfold oC at h;subst h;cases e;rfl
 | d::ds,vs,f,h,e=>by
  unfold oC at h;obtain⟨v,r,rfl,g,i⟩:=h;cases d with
  | bl b=>
   unfold wG at e;cases q:wG ds with
   |none=>rw[q] at e;cases e
   | some cs=>
    rw[q] at e;cases e;unfold Y2 at g;subst g;rw[Jv i q];rfl
  |_=>cases e
def x9:Ow->List D->R D:=λO xs=>match xs with
 | [x]=>match rD O x with
  | some ds=>match wG ds with
   |some bs=>.ok (.bl (bs.all id)) O
   |none=>.bad
  |none=>.bad
 |_=>.bad
def BX:Ow->List D->R D:=λO xs=>match xs with
 | [x]=>match rD O x with
  | some ds=>match wG ds with
   |some bs=>.ok (.bl (bs.any id)) O
   |none=>.bad
  |none=>.bad
 |_=>.bad
def WA:uW X Ex (λxs H Q=>∃(p:ae)(f:List Bool),xs=[.ref p]/\qO X.K H p (f.map V.bl)/\Q (.bl (f.all id)) H) x9:=by
 intro H XV μ O xs k Q c d q;unfold x9 at q;split at q
 ·rename_i x;obtain⟨v,rfl,g⟩:=uj d;split at q
  ·rename_i l e;obtain⟨p,m,rfl,h,i⟩:=vO c g e;split at q
   ·rename_i f j;refine⟨p,f,rfl,?_,post.here q c uY⟩;rw[<- Jv i j];exact h
   ·exact ak q
  ·exact ak q
 ·exact ak q
def WJ:uW X Ex (λxs H Q=>∃(p:ae)(f:List Bool),xs=[.ref p]/\qO X.K H p (f.map V.bl)/\Q (.bl (f.any id)) H) BX:=by
 intro H XV μ O xs k Q c d q;unfold BX at q;split at q
 ·rename_i x;obtain⟨v,rfl,g⟩:=uj d;split at q
  ·rename_i l e;obtain⟨p,m,rfl,h,i⟩:=vO c g e;split at q
   ·rename_i f j;refine⟨p,f,rfl,?_,post.here q c uY⟩;rw[<- Jv i j];exact h
   ·exact ak q
  ·exact ak q
 ·exact ak q
def zeq(f:List Bool):(aO f.length).all (λi=>f.getD i qb)=f.all id:=by
 rw[dS,av,av];constructor
 ·intro h b g;obtain⟨i,d,e⟩:=cY.mp g;have:=h i (by simpa using d);rw[aG,al d,e] at this;exact this
 ·intro h i d;have d:i<f.length:=by simpa using d
  rw[aG,al d];exact h _ (bD d)
def zey(f:List Bool):(aO f.length).any (λi=>f.getD i qb)=f.any id:=by
 rw[dS,cf,cf];constructor
 ·rintro⟨i,d,h⟩;have d:i<f.length:=by simpa using d
  rw[aG,al d] at h;exact⟨_,bD d,h⟩
 ·rintro⟨b,g,h⟩;obtain⟨i,d,e⟩:=cY.mp g;exact⟨i,by simpa using d,by rw[aG,al d,e];exact h⟩
def Qn{d:List Bool}{f:List ab}(r:oE (d.map V.bl) f){i:Nat}{v:ab}(h:f.toArray[i]?=KF v):v=.bool (d.getD i qb):=by
 have h:f[i]?=KF v:=by simpa using h
 have g:i<d.length:=by
  have:=r.length;have:=(aq.mp h).1;simp at *;lia
 obtain⟨u,j,k⟩:=r.get (i:=i) (x:=.bl d[i]) (by rw[be,al g];rfl);rw[h] at j;cases j;cases k;rw[aG,al g];rfl
def zdK(k:X.calm=qb):oM X (.builtin "all") (λxs H Q=>∃(p:ae)(d:List Bool),xs=[.ref p]/\qO X.K H p (d.map V.bl)/\Q (.bl (d.all id)) H):=by
 intro Y1 s C H xs D Q I r h;obtain⟨p,d,rfl,l,q⟩:=h;obtain⟨u,rfl,m⟩:=uL r;cases m;obtain⟨f,j,g,E⟩:=I.list l;have t:f.toArray.size=d.length:=by have:=j.length;simp at *;lia
 have w:p≠s.heap.objs.size:=by obtain⟨o,n,e,_⟩:=g;exact bo (aK e)
 refine wT I (call_all_walk (fO g.isList ?_));refine⟨s.heap.objs.size,_,_,f.toArray.size,_,_,λi=>d.getD i qb,rfl,j5 (show X.A.in1.handled=KM from I.ok.hd k) _ p w f.toArray,⟨⟨_,aE _ rfl,rfl,rfl⟩,g.isList.push _⟩,λi v F G J x y=>?_,λL z B M=>?_⟩
 ·rw[Qn j x];exact de y
 ·rw[t,zeq];exact⟨.bl _,H,I.kept (t':=z) λb o e=>B b o (by simpa using bo (aK e)) (af _ e),rfl,q⟩
def zeY(k:X.calm=qb):oM X (.builtin "any") (λxs H Q=>∃(p:ae)(d:List Bool),xs=[.ref p]/\qO X.K H p (d.map V.bl)/\Q (.bl (d.any id)) H):=by
 intro Y1 s C H xs D Q I r h;obtain⟨p,d,rfl,l,q⟩:=h;obtain⟨u,rfl,m⟩:=uL r;cases m;obtain⟨f,j,g,E⟩:=I.list l;have t:f.toArray.size=d.length:=by have:=j.length;simp at *;lia
 have w:p≠s.heap.objs.size:=by obtain⟨o,n,e,_⟩:=g;exact bo (aK e)
 refine wT I (call_any_walk (fO g.isList ?_));refine⟨s.heap.objs.size,_,_,f.toArray.size,_,_,λi=>d.getD i qb,rfl,j5 (show X.A.in1.handled=KM from I.ok.hd k) _ p w f.toArray,⟨⟨_,aE _ rfl,rfl,rfl⟩,g.isList.push _⟩,λi v F G J x y=>?_,λL z B M=>?_⟩
 ·rw[Qn j x];exact de y
 ·rw[t,zey];exact⟨.bl _,H,I.kept (t':=z) λb o e=>B b o (by simpa using bo (aK e)) (af _ e),rfl,q⟩
end
section
variable{X:Cx}{Ex:Nat->Hp->Prop}{pos:Pos}{a b c e o:aT}{ta tb te to:DE}{Y1:List (ae×Obj)}{d_:St}{H:Hp}{s:ag}{XV μ:List ae}{O:Ow}
def NZ(K:ah):R2:=λx y H Q=>∃l b xs zs,x=.ref l/\y=.ref b/\qO K H l xs/\qO K H b zs/\xs.length+zs.length<=xc/\∀p,H p=KM->Q (.ref p) (upd H p (.lst (xs++zs)))
def ZF:qI X (dO .Add) (NZ X.K):=by
 intro Y1 s P H x y v u Q I z A h;obtain⟨l,b,R,S,rfl,rfl,B,C,T,q⟩:=h;cases z;cases A;obtain⟨d,g,D,U⟩:=I.list B;obtain⟨f,i,E,V⟩:=I.list C;obtain⟨⟨W,Y,Z,G⟩,J,j,k,m,n⟩:=D;obtain⟨⟨c2,d2,t2,L⟩,M,p,r,t,w⟩:=E;simp only at k m n r t w;subst k m n r t w;have N:d.toArray++f.toArray=(d++f).toArray:=by simp
 have l1:=g.length;have l2:=i.length;refine jw ⟨_,j,rfl⟩ ⟨_,p,rfl⟩ PySem.noFill_list_add PySem.seq_list_add PySem.F.slot_list_add PySem.F.entry_list_add (PySem.F.args_list_add_2 _ _)
  (PyProof.Rows.list_addW l b d.toArray f.toArray J M KM KM G L (by simp only[aJ];lia)) ⟨j,p,?_⟩
 rw[N];exact⟨.ref _,_,I.lnew (t':=s.toks) (g.append i) (by rw[aw];lia),rfl,q _ I.fresh⟩
def qP:Ow->D->D->R D:=λO x y=>match x,y with
 |.int i,.int j=>.ok (.int (i+j)) O
 |.str p,.str q=>if p.length+q.length<=4000000 then .ok (.str (p++q)) O else .bad
 |.tup xs,.tup ys=>if xs≠[]/\xs.length+ys.length<=4000000 then .ok (.tup (xs++ys)) O else .bad
 | x,y=>match rD O x,rD O y with
  |some xs,KF ys=>if xs.length+ys.length<=4000000 then .ok (.lst (xs++ys)) O else .bad
  |_,_=>.bad
def Js(K:ah):R2:=λx y H Q=>(∃i j,x=.int i/\y=.int j/\Q (.int (i+j)) H)\/(∃i j,x=.str i/\y=.str j/\i.length+j.length<=xc/\Q (.str (i++j)) H)\/Of K x y H Q\/NZ K x y H Q
def PB:qI X (dO .Add) (Js X.K):=qI.or Wr (qI.or zbS (qI.or Zw ZF))
def Qp:sj X Ex (Js X.K) qP:=by
 intro H XV μ O x y v w Q c d f q;unfold qP at q;split at q
 ·unfold Y2 at d f;subst d;subst f;exact .inl ⟨_,_,rfl,rfl,post.here q c r9⟩
 ·rename_i p j;unfold Y2 at d f;subst d;subst f;obtain⟨k,q⟩:=post.ite q;refine .inr (.inl ⟨_,_,rfl,rfl,?_,?_⟩)
  ·show p.toArray.size+j.toArray.size<=_;simp only[aJ];exact yf k
  ·have e:((⟨p.toArray⟩:Str)++(⟨j.toArray⟩:Str))=⟨(p++j).toArray⟩:=by
    show(⟨p.toArray++j.toArray⟩:Str)=_;simp
   rw[e];exact post.here q c JX
 ·rename_i D A;have m:=d;unfold Y2 at d f;obtain⟨p,n,rfl,B,h⟩:=d;obtain⟨r,t,rfl,C,i⟩:=f;obtain⟨⟨E,k⟩,q⟩:=post.ite q;have u:=h.length;have z:=i.length;refine .inr (.inr (.inl ⟨p,r,n,t,rfl,rfl,B.sq,C.sq,?_,yf 'd',?_,?_⟩))
  ·rintro rfl;exact E (cG.mp u)
  ·rintro rfl;have:A=[]:=cG.mp z;subst this;rw[bz] at q;exact post.here q c m
  ·intro _ l g;exact post.ok q (.laid g) (c.laid g) (Y2.newT c g (h.append i))
 ·split at q
  ·rename_i D A u z;obtain⟨p,n,rfl,F,h⟩:=vO c d u;obtain⟨r,t,rfl,G,i⟩:=vO c f z;obtain⟨k,q⟩:=post.ite q;have B:=h.length;have C:=i.length;exact .inr (.inr (.inr ⟨p,r,n,t,rfl,rfl,F,G,yf 'd',λl g=>post.ok q (.laid g) (c.laid g) (Y2.newL c g (h.append i))⟩))
  ·exact ak q
def Xe(d:PD X Ex a ta)(f:PD X Ex b tb):PD X Ex (.BinOp a .Add b pos) (e_ qP ta tb):=w4 PB Qp d f
noncomputable def Ny(i:Int):List Nat:=((toString i:Str)).cps.toList
def Gz:Ow->List D->R D:=λO xs=>match xs with
 |[.int i]=>if i.natAbs<2 ^ 64 then .ok (.str (Ny i)) O else .bad
 |_=>.bad
def zbQ(h:n<2 ^ 64):n.log2<1920:=by
 by_cases d:n=0
 ·subst d;decide
 ·have:=(Nat.log2_lt d (k:=64)).mpr h;lia
def QG(x:Str):(⟨x.cps.toList.toArray⟩:Str)=x:=by cases x;simp
def ZZ:uW X Ex (λxs H Q=>∃i,xs=[.int i]/\i.natAbs.log2<1920/\Q (.str (toString i)) H) Gz:=by
 intro H XV μ O xs h Q c d q;unfold Gz at q;split at q
 ·rename_i i;obtain⟨v,rfl,f⟩:=uj d;unfold Y2 at f;subst f;obtain⟨g,q⟩:=post.ite q;refine⟨i,rfl,zbQ g,post.here q c ?_⟩;unfold Y2 Ny;rw[QG]
 ·exact ak q
def Tz(g:Str->Str->Option V):V->List V->Hp->VK->Prop:=λx xs H Q=>∃i j v,x=.str i/\xs=[.str j]/\g i j=KF v/\Q v H
def ND(i j:Str):Option V:=KF (.int (bN i j 0 i.length (i.length+1)).length)
def zgE:Nj X "str.count" (Tz ND):=by intro Y1 s k H x l v m Q I d f h;obtain⟨i,j,w,rfl,rfl,g,q⟩:=h;obtain⟨t,rfl⟩:=d;obtain⟨u,rfl,n,rfl⟩:=uL f;cases g;exact SC.count ⟨.int _,H,I.tok _,⟨_,rfl⟩,q⟩
def Dk(i j:List Nat):Option D:=KF (.int (bN ⟨i.toArray⟩ ⟨j.toArray⟩ 0 i.length (i.length+1)).length)
noncomputable def FZ(g:List Nat->List Nat->Option D)(to:DE)(t:DA):DE:=λσ O=>(to σ O).bnd λx O1=>match x with
 | .str i=>(t σ O1).bnd λys O2=>match ys with
  | [.str j]=>match g i j with
   |some d=>.ok d O2
   |none=>.bad
  |_=>.bad
 |_=>.bad
def V5{t:DA}{es:List aT}{f h:Pos}{name:Str}{id:String}{n:Str->Str->Option V}{g:List Nat->List Nat->Option D}(k:Slot "str" name id)(y:typeOf (.builtin id)=pure (.type "method_descriptor"))(z:Nj X id (Tz n))
  (m:∀i j d,g i j=KF d->∃v,n ⟨i.toArray⟩ ⟨j.toArray⟩=KF v/\∀K H XV μ,Y2 K H XV μ d v) (A:PD X Ex o to) (B:ug X Ex (e::es) t) (C:attributeBase o name X.env (eval o X.env)=eval o X.env:=by rfl)
  (E:((backTo h (aN (e::es) X.env)).all (λx=>!x.1)&&(backToKw h (keywordEach [] X.env)).all (λx=>x.1.isSome)&&decide ((e::es).length+([]:List gA).length+(if ([]:List gA).isEmpty then 0 else 1)<30))=qb:=by rfl)
  (G:(f.endLine==h.line)=qb:=by rfl) (I:aN (e::es) X.env=(qh,eval e X.env)::aN es X.env:=by rfl) (J:(backTo h (aN es X.env)).any (·.1)=qh:=by rfl):
  PD X Ex (.Call (.Attribute o name f) (e::es) [] h) (FZ g to t):=
 rM (Jq PySem.F.plainAttrs_str k y z A.out B.out C E G I J) λXV μ Y O d_ H Q L M q=>rd.go L M q λd Z v H1 h_ N x P r p=>by
  cases d with
  | str i=>
   unfold Y2 at r;subst r;refine⟨rfl,uC.go N P p λys O2 ws H2 pZ e3 x3 R S l=>?_⟩;split at l
   ·rename_i j;obtain⟨w,rfl,u⟩:=uj S;unfold Y2 at u;subst u;split at l
    ·rename_i d T;obtain⟨v,U,W⟩:=m _ _ _ T;exact⟨_,_,v,rfl,rfl,U,post.here l R (W _ _ _ _)⟩
    ·exact ak l
   ·exact ak l
  |_=>exact ak p
def Xx:∀i j d,Dk i j=KF d->∃v,ND ⟨i.toArray⟩ ⟨j.toArray⟩=KF v/\∀K H XV μ,Y2 K H XV μ d v:=λi j d h=>by
 cases h;have e:(⟨i.toArray⟩:Str).length=i.length:=by show i.toArray.size=_;simp
 exact⟨_,rfl,λ_ _ _ _=>by unfold Y2;rw[e]⟩
def NX:List D->Option (List Str)
 |[]=>KF []
 |.str cs::r=>(NX r).map (⟨cs.toArray⟩ :: ·)
 |_=>KM
def zbx:∀{d:List Str}{f:List ab},oE (d.map V.str) f->eU f d:=by
 intro d
 induction d with
 |nil=>intro f r;rw[gz] at r;cases r;exact .nil
 | cons y d ih=>
  intro f r;rw[bq] at r;cases r with
  | cons r1 r2=>
   obtain⟨t,e⟩:=r1;subst e;exact .cons y t (ih r2)
def zp7(to:DE)(t:DA):DE:=λσ O=>(to σ O).bnd λx O1=>match x with
 | .str i=>(t σ O1).bnd λys O2=>match ys with
  | [z]=>match (match rD O2 z with|some ds=>KF ds|none=>zc z) with
   | some ds=>match NX ds with
    |some zs=>if i.length<=16/\(zs.map (·.length)).sum+zs.length<=1048576 then .ok (.str (Txt.join ⟨i.toArray⟩ zs).cps.toList) O2 else .bad
    |none=>.bad
   |none=>.bad
  |_=>.bad
 |_=>.bad
abbrev DO:=Sg->Ow->R (Option Int)
noncomputable def EF(Ex:Nat->Hp->Prop)(K:ah)(t:DO):TO:=λd_ H Q=>∃XV μ σ O,oD K H XV μ σ d_/\oB K H XV μ O/\post Ex K (λ_ _(d v:Option Int)=>d=v) H XV μ (t σ O) Q
structure BM(X:Cx)(Ex:Nat->Hp->Prop)(e:Option aT)(t:DO):Prop where
 out:PO X e (EF Ex X.K t)
def Gn:DO:=λ_ O=>.ok KM O
def Jf(t:DE):DO:=λσ O=>(t σ O).bnd λd O1=>match d with
 |.int i=>.ok (KF i) O1
 |_=>.bad
def PO.imp{e:Option aT}{t t':TO}(h:PO X e t)(f:∀σ H Q,t' σ H Q->t σ H Q):PO X e t':=λY1 s σ H Q I q=>h Y1 s σ H Q I (f σ H Q q)
def zfL:BM X Ex KM Gn:=BM.mk <| PO.imp Ys λd_ H Q ⟨XV,μ,f,O,g,d,q⟩=>post.here (v:=KM) q d rfl
def zfK(h:PD X Ex e te):BM X Ex (KF e) (Jf te):=BM.mk <| PO.imp (Yu h.out) λd_ H Q ⟨XV,μ,k,O,f,g,q⟩=>rd.go f g q λd l v m n t x j r p=>by
 cases d with
 |int i=>unfold Y2 at r;subst r;exact⟨i,rfl,post.here (v:=KF i) p j rfl⟩
 |_=>exact ak p
def EF.go{i j:Type}{l:Hp->List ae->i->j->Prop}{t:DO}{XV μ:List ae}{σ:Sg}{O:Ow}{d_:St}{H:Hp}{Q1:Option Int->Hp->Prop}{k:Option Int->Ow->R i}{Q:j->Hp->Prop}(m:oD X.K H XV μ σ d_)(n:oB X.K H XV μ O)
  (q:post Ex X.K l H XV μ ((t σ O).bnd k) Q)
  (f:∀v O1 g h,oD X.K g XV h σ d_->Ext H μ g h->oB X.K g XV h O1->post Ex X.K l g XV h (k v O1) Q->Q1 v g):EF Ex X.K t d_ H Q1:=
 ⟨XV,μ,σ,O,m,n,post.bnd q λd O1 v g h x c r p=>by
  have r:d=v:=r;subst r;exact f d O1 g h (m.ext x) x c p⟩
def NF:V->Option Int->Option Int->Hp->VK->Prop:=λx lo hi H Q=>∃i,x=.str i/\i.length<=xc/\Q (.str (Txt.slice i lo hi)) H
def zbD{h:aX}{sl:ae}{m n:ab}{lo p:Option Int}(r:h.IsSliceOf sl m n .none)(pl:i0 m lo)(q:i0 n p):∃l u:Option (Int×Tok),h.IsSlice sl l u KM/\l.map (·.1)=lo/\u.map (·.1)=p:=by
 obtain⟨d,g,f,k⟩:=r;cases pl with
 | none=>
  cases q with
  |none=>exact⟨KM,KM,⟨d,g,f,k⟩,rfl,rfl⟩
  |int j t=>exact⟨KM,KF (j,t),⟨d,g,f,k⟩,rfl,rfl⟩
 | int i t=>
  cases q with
  |none=>exact⟨KF (i,t),KM,⟨d,g,f,k⟩,rfl,rfl⟩
  |int j t'=>exact⟨KF (i,t),KF (j,t'),⟨d,g,f,k⟩,rfl,rfl⟩
def Xz:yu X NF:=by intro Y1 s p H x v r w y z A Q I d f g j h;obtain⟨i,rfl,m,q⟩:=h;obtain⟨t,rfl⟩:=d;obtain⟨l,u,n,rfl,rfl⟩:=zbD f g j;refine⟨"str",_,PySem.F.slot_str_getitem.lookup,typeIs_str s i t,?_⟩;exact wT I (wpAny_getItem_str_slice (l:=l) (u:=u) (st:=KM) n rfl (post_val_or_str ⟨aI (Txt.slice_le i _ _) m,λB k C=>⟨.str _,H,I.tok k,⟨_,rfl⟩,q⟩⟩))
def Gk(xs:List D)(lo hi:Option Int):List D:=(xs.drop (HT.sIx xs.length 0 lo)).take (HT.sIx xs.length xs.length hi-HT.sIx xs.length 0 lo)
def UG(O:Ow)(x:D)(lo hi:Option Int):R D:=match x with
 |.str i=>if i.length<=4000000 then .ok (.str (Txt.slice ⟨i.toArray⟩ lo hi).cps.toList) O else .bad
 |.tup ds=>if HT.sIx ds.length 0 lo=0/\HT.sIx ds.length ds.length hi=ds.length then .bad else .ok (.tup (Gk ds lo hi)) O
 | x=>match rD O x with
  |some ds=>.ok (.lst (Gk ds lo hi)) O
  |none=>.bad
def IE(te:DE)(tl th:DO):DE:=λσ O=>(te σ O).bnd λx O1=>(tl σ O1).bnd λlo O2=>(th σ O2).bnd λhi O3=>UG O3 x lo hi
def Ve(K:ah):V->Option Int->Option Int->Hp->VK->Prop:=λx lo hi H Q=>NF x lo hi H Q\/Nu K x lo hi H Q\/Nv K x lo hi H Q
def QU{K:ah}{ds:List D}{vs:List V}(h:oC K H XV μ ds vs)(lo d:Option Int):oC K H XV μ (Gk ds lo d) (zM vs lo d):=by unfold Gk zM;rw[h.length];exact oC.take _ (oC.drop _ h)
def Vu{lo w:Option aT}{y z:DO}{A:Pos}(B:PD X Ex e te)(m:BM X Ex lo y)(C:BM X Ex w z):PD X Ex (.Subscript e (.Slice lo w KM A) pos) (IE te y z):=
 rM (zgL (r:=Ve X.K) (yu.or Xz (yu.or Xd Zc)) B.out m.out C.out) λXV μ W O d_ H Q D E q=>rd.go D E q λd Y v Z h_ F x G r p=>EF.go F G p λl O2 H2 pZ I J L M=>EF.go I L M λu O3 H3 IM e4 N h f=>by
  have j:=(r.ext J).ext N;unfold UG at f;split at f
  ·rename_i i;unfold Y2 at j;subst j;obtain⟨m.out,f⟩:=post.ite f;refine .inl ⟨_,rfl,?_,post.here f h ?_⟩
   ·show i.toArray.size<=_;rw[aJ];exact yf m.out
   ·unfold Y2;rw[QG]
  ·rename_i P;unfold Y2 at j;obtain⟨n,t,rfl,R,k⟩:=j;split at f
   ·exact ak f
   ·rename_i S;refine .inr (.inl ⟨n,t,rfl,R.sq,by rw[<- k.length];exact S,λT g=>post.ok f (.laid g) (h.laid g) (Y2.newT h g (QU k l u))⟩)
  ·split at f
   ·rename_i P U;obtain⟨n,t,rfl,V,k⟩:=vO h j U;exact .inr (.inr ⟨n,t,rfl,V,λT g=>post.ok f (.laid g) (h.laid g) (Y2.newL h g (QU k l u))⟩)
   ·exact ak f
def Gd:Ow->D->D->R D:=λO x y=>match x,y with
 |.str i,.str j=>.ok (.bl (!(bN ⟨j.toArray⟩ ⟨i.toArray⟩ 0 j.length 1).isEmpty)) O
 |_,_=>.bad
def YA:sj X Ex (λx y H Q=>∃i j,x=.str i/\y=.str j/\Q (.bl (!(bN j i 0 j.length 1).isEmpty)) H) Gd:=by
 intro H XV μ O x y v w Q c d f q;unfold Gd at q;split at q
 ·rename_i i j;unfold Y2 at d f;subst d;subst f;refine⟨_,_,rfl,rfl,post.here q c ?_⟩;have e:(⟨j.toArray⟩:Str).length=j.length:=by show j.toArray.size=_;simp
  rw[e];exact uY
 ·exact ak q
end
def qF(K:ah)(mg:Str->Option ab)(x:Str)(st:eI):Prop:=∃f fd,mg x=KF (.ref f)/\L2.Fun K x x st f fd
structure Callee(P:aP)(w:aY)(K:ah)(mg:Str->Option ab)(base:aX)(x:Str)(k n:Nat)(F:List D->Ow->R D):Prop where
 ex:∃f fd ps,mg x=KF (.ref f)/\cV K (.ref f)=qb/\Binds K fd ps []/\oR P w K mg base xn k f fd ps (IK K yv n F)
def Xb(c:Callee X.prog X.w X.K X.mg X.base x k n F)(a:oK j X.A)(b:k<=j)(d:Gl X x)(g:ug X qy (e::es) t)
  (h:(x==("__debug__":Str))=qh:=by decide) (i:aN (e::es) X.env=(qh,eval e X.env)::aN es X.env:=by rfl) (l:(backTo pos (aN es X.env)).any (·.1)=qh:=by rfl):
  PD X qy (.Call (.Name x p) (e::es) [] pos) (j_ n F t):=by obtain⟨f,r,s,m,o,q,G⟩:=c.ex;exact VL (Ec:=yv) (E:=E0) (G.mono b) a d m o q Ob g h i l
def qZ(h:qF K mg x st)(S:qt N ps (qc st))
  (l:∀(e c g:ab)(i:Option ae)(b j:ab)(d:List ab),d.length=ps.length->bindArgs (cB x x (xD st) (vh st) (qc st) .none e c g i b j) ⟨d,[]⟩=pure (ps.zip d))
  (m:∀(f:ae)(b:ab)(A:ba)(a:List Env)(s:ag)(H:Hp)(E:XK),oK k (A.deeper (e9 x (qc st) s.heap.objs.size f b))->t7 (De P w K mg base N x (qc st) f b A a s H E) qy (vh st) t):
  Callee P w K mg base x (k+1) ps.length (qT N.length t):=by obtain⟨f,n,o,F⟩:=h;refine⟨f,n,ps,o,F.kp,F.binds l,?_⟩;obtain⟨u,v,e,c,g,i,b,j,y,rfl,p,q⟩:=F.ex;exact We p q S λA a s H E r=>m f b A a s H E r
def Callee.imp(c:Callee P w K mg base x k n F)
  (h:∀ds O H XV μ Q,oB K H XV μ O->q0 qy K H XV μ (G ds O) Q->q0 qy K H XV μ (F ds O) Q):Callee P w K mg base x k n G:=by obtain⟨f,b,e,g,i,j,l⟩:=c.ex;refine⟨f,b,e,g,i,j,l.imp λo H Q E ⟨m,XV,μ,ds,O,d,a,q⟩=>⟨m,XV,μ,ds,O,d,a,h ds O H XV μ Q a q⟩⟩
def Callee.bad(c:Callee P w K mg base x k n F):Callee P w K mg base x k n (λ_ _=>.bad):=
 c.imp λ_ _ _ _ _ _ _ q=>ak q
def frz(O:Ow)(n:Nat):Nat->D->Option D
 | 0,d=>match d with
  |.own k=>if k<n then KF (.own k) else KM
  |.lst _=>KM
  |.tup _=>KM
  |.map _ _=>KM
  |d=>KF d
 | f+1,d=>match d with
  | .own k=>if k<n then KF (.own k) else match O[k]? with
   |some ds=>(qd (frz O n f) ds).map .lst
   |none=>KM
  |.lst ds=>(qd (frz O n f) ds).map .lst
  |.tup ds=>(qd (frz O n f) ds).map .tup
  |.map _ _=>KM
  |d=>KF d
def tK(n:Nat)(r:R D):R D:=match r with
 | .ok d O=>match frz O n 8 d,qd (qd (frz O n 8)) (O.take n) with
  |some d',KF O'=>.ok d' O'
  |_,_=>.bad
 |r=>r
section
variable{K:ah}{H:Hp}{XV μ ν:List ae}{O:Ow}{n:Nat}
theorem Ed(b:∀d d' v,f d=KF d'->Y2 K H XV μ d v->Y2 K H XV f_ d' v):∀(ds a:List D)(vs:List V),qd f ds=KF a->oC K H XV μ ds vs->oC K H XV f_ a vs
 |[],a,vs,e,h=>by cases e;unfold oC at h ⊢;exact h
 | d::ds,a,vs,e,h=>by
  unfold qd at e;split at e
  ·rename_i p c g i;cases e;unfold oC at h;obtain⟨v,r,rfl,j,k⟩:=h;exact .cons (b d p v g j) (Ed b ds c r i k)
  ·cases e
def OK(c:oB K H XV (μ++ν) O)(S:μ.length=n):∀(f:Nat)(d d':D)(v:V),frz O n f d=KF d'->Y2 K H XV (μ++ν) d v->Y2 K H XV μ d' v:=by
 have s:∀{a:ae},a∉μ++ν->a∉μ:=λh m=>h (bM _ m);have u:∀{k:Nat}{v:V},k<n->Y2 K H XV (μ++ν) (.own k) v->Y2 K H XV μ (.own k) v:=λ{k v}w h=>by
  unfold Y2 at h ⊢;obtain⟨a,rfl,e⟩:=h;rw[aH 'd'] at e;exact⟨a,rfl,e⟩
 have B:∀{v:V},Y2 K H XV (μ++ν) .dct v->Y2 K H XV μ .dct v:=λ{v}h=>by
  unfold Y2 at h ⊢;obtain⟨a,rfl,r,x,y⟩:=h;exact⟨a,rfl,r,x,s y⟩
 have E:∀{C:Nat}{v:V},Y2 K H XV (μ++ν) (.exn C) v->Y2 K H XV μ (.exn C) v:=λ{C v}h=>by
  unfold Y2 at h ⊢;obtain⟨a,G,rfl,g,r,x,y⟩:=h;exact⟨a,G,rfl,g,r,x,s y⟩
 intro f
 induction f with
 | zero=>
  intro d d' v e h;cases d with
  | own k=>
   unfold frz at e;dsimp only at e;split at e
   ·rename_i w;cases e;exact u w h
   ·cases e
  |lst o=>cases e
  |tup o=>cases e
  |dct=>cases e;exact B h
  |map ks o=>cases e
  |adr _=>cases e;unfold Y2 at h ⊢;exact h
  |exn C=>cases e;exact E h
  |tab P=>cases e;unfold Y2 at h ⊢;exact h
  |non=>cases e;unfold Y2 at h ⊢;exact h
  |bl b=>cases e;unfold Y2 at h ⊢;exact h
  |int i=>cases e;unfold Y2 at h ⊢;exact h
  |str i=>cases e;unfold Y2 at h ⊢;exact h
 | succ f ih=>
  intro d d' v e h;cases d with
  | own k=>
   unfold frz at e;dsimp only at e;split at e
   ·rename_i w;cases e;exact u w h
   ·rename_i w;unfold Y2 at h;obtain⟨a,rfl,A⟩:=h;obtain⟨o,t,I,J,L⟩:=c.at_ k a A;rw[I] at e;dsimp only at e;cases p:qd (frz O n f) o with
    |none=>rw[p] at e;cases e
    | some ps=>
     rw[p] at e;cases e;unfold Y2;refine⟨a,t,rfl,.inl ⟨.inl J,c.nh a (aD A),λm=>?_⟩,Ed ih o ps t p L⟩;obtain⟨j,F,M⟩:=cY.mp m;have N:(μ++ν)[j]?=KF a:=by rw[aH F,al F,M]
     obtain⟨T,Q⟩:=aq.mp N;obtain⟨U,R⟩:=aq.mp A;have:=(j8 c.nd).mp (Q.trans R.symm);lia
  | lst o=>
   unfold frz at e;dsimp only at e;unfold Y2 at h;obtain⟨a,t,rfl,l,q⟩:=h;cases p:qd (frz O n f) o with
   |none=>rw[p] at e;cases e
   | some ps=>
    rw[p] at e;cases e;unfold Y2;exact⟨a,t,rfl,l.imp (λz=>⟨z.1,z.2.1,s z.2.2⟩) id,Ed ih o ps t p q⟩
  | tup o=>
   unfold frz at e;dsimp only at e;unfold Y2 at h;obtain⟨a,t,rfl,l,q⟩:=h;cases p:qd (frz O n f) o with
   |none=>rw[p] at e;cases e
   | some ps=>
    rw[p] at e;cases e;unfold Y2;exact⟨a,t,rfl,l.imp (λz=>⟨z.1,z.2.1,s z.2.2⟩) id,Ed ih o ps t p q⟩
  |dct=>cases e;exact B h
  |map ks o=>cases e
  |adr _=>cases e;unfold Y2 at h ⊢;exact h
  |exn C=>cases e;exact E h
  |tab P=>cases e;unfold Y2 at h ⊢;exact h
  |non=>cases e;unfold Y2 at h ⊢;exact h
  |bl b=>cases e;unfold Y2 at h ⊢;exact h
  |int i=>cases e;unfold Y2 at h ⊢;exact h
  |str i=>cases e;unfold Y2 at h ⊢;exact h
theorem Kf{α a:Type}{f:α->Option a}:∀{l:List α}{r:List a},qd f l=KF r->r.length=l.length
 |[],r,e=>by cases e;rfl
 | x::l,r,e=>by
  unfold qd at e;split at e
  ·rename_i p c d b;cases e;simp[Kf b]
  ·cases e
theorem QO{α a:Type}{f:α->Option a}:∀{l:List α}{r:List a}{k:Nat}{y:a},qd f l=KF r->r[k]?=KF y->∃x,l[k]?=KF x/\f x=KF y
 |[],r,k,y,e,h=>by cases e;simp at h
 | x::l,r,k,y,e,h=>by
  unfold qd at e;split at e
  ·rename_i p i b c;cases e;cases k with
   |zero=>simp at h;subst h;exact⟨x,by simp,b⟩
   |succ k=>obtain⟨z,d,g⟩:=QO (k:=k) c (by simpa using h);exact⟨z,by simpa using d,g⟩
  ·cases e
def Km{j:Nat->Hp->Prop}{r:R D}{Q:VK}(g:μ.length=n)(q:q0 j K H XV μ (tK n r) Q):q0 j K H XV μ r Q:=by
 cases r with
 |bad=>exact q
 |exc c O'=>exact q
 | ok d O'=>
  intro v l G x c h;obtain⟨ν,rfl⟩:=x.pre;have b:q0 j K H XV μ (match frz O' n 8 d,qd (qd (frz O' n 8)) (O'.take n) with|some d',KF O2=>.ok d' O2|_,_=>.bad) Q:=q;cases i:frz O' n 8 d with
  |none=>rw[i] at b;exact ak b
  | some d'=>
   cases f:qd (qd (frz O' n 8)) (O'.take n) with
   |none=>rw[i,f] at b;exact ak b
   | some O2=>
    rw[i,f] at b;have u:Ext H μ l μ:=⟨⟨[],by simp⟩,x.kept,λ_ m=>.inl m,x.there,x.tab⟩;have o:O'.length=(μ++ν).length:=c.len.symm;have w:oB K l XV μ O2:=by
     refine⟨?_,(fN.mp c.nd).1,λa m=>c.nh a (bM _ m),c.ht,λk a e=>?_⟩
     ·rw[Kf f,bT,o,aw,g];lia
     ·have y:k<μ.length:=(aq.mp e).1;obtain⟨z,p,A,B,C⟩:=c.at_ k a (by rw[aH y];exact e);have s:k<O2.length:=by rw[Kf f,bT,o,aw,g];lia
      obtain⟨E,t,F⟩:=QO f (al s);have:E=z:=by
       rw[jx,qq 'd',A] at t;cases t;rfl
      subst this;exact⟨_,p,al s,B,Ed (OK c g 8) _ _ p F C⟩
    exact b v l μ u w (OK c g 8 d d' v i h)
end
def xr(F:List D->Ow->R D):List D->Ow->R D:=λds O=>tK O.length (F ds O)
def Callee.frz(c:Callee P w K mg base x k n F):Callee P w K mg base x k n (xr F):=
 c.imp λd O H a e Q b q=>Km b.len q
noncomputable def Nt(sc scope:cT)(N':List Str)(sl:List Nat):Bool:=
 (match scope.kind with|.function=>qb|_=>qh)&&decide ((scope.names.map (·.1)).Nodup)&&(scope.names.all λy=>!(y.2 == .free)||sc.names.lookup y.1==KF .cell||sc.names.lookup y.1==KF .free) &&
 (N'.zipIdx.all λp=>!((scope.names.any λy=>y.1==p.1&&y.2 == .local)||(scope.names.any λy=>y.1==p.1&&y.2 == .cell))||sl.contains p.2)
def vA(h:Nt sc scope N' sl=qb):wJ sc scope N' sl:=by
 unfold Nt at h;simp only[aR,decide_eq_true_eq,av] at h;obtain⟨⟨⟨a,b⟩,c⟩,d⟩:=h;refine⟨?_,b,λy f g=>?_,λi x j k=>?_⟩
 ·cases e:scope.kind<;>rw[e] at a<;>first|rfl|cases a
 ·have:=c y f;rw[g] at this;simpa using this
 ·have l:(x,i)∈N'.zipIdx:=by
   rw[List.mem_zipIdx_iff_getElem?];exact j
  have h:=d _ l;have n:((scope.names.any λy=>y.1==x&&y.2 == .local)||(scope.names.any λy=>y.1==x&&y.2 == .cell))=qb:=by
   rw[eM];exact k.imp (λm=>cf.mpr ⟨_,m,by simp⟩) λm=>cf.mpr ⟨_,m,by simp⟩
  have h:(!((scope.names.any λy=>y.1==x&&y.2 == .local)||(scope.names.any λy=>y.1==x&&y.2 == .cell))||sl.contains i)=qb:=h;rw[n] at h;simpa using h
structure IQ(mg:Str->Option ab)(x:Str)(cs:List Nat):Prop where
 ex:∃t,mg x=KF (.str ⟨cs.toArray⟩ t)
section
variable{X:Cx}{Ex:Nat->Hp->Prop}{pos:Pos}{a b c e:aT}{ta:DE}{Y1:List (ae×Obj)}{d_:St}{H:Hp}{s:ag}{XV μ:List ae}{O:Ow}
def Zd(h:IQ X.mg x cs)(d:Gl X x:=by rfl)(f:(x==("__debug__":Str))=qh:=by decide):PD X Ex (.Name x pos) (dC (.str cs)):=by obtain⟨t,h⟩:=h.ex;exact zgj cs d h rfl f
def Cb(C C':String)(t:DE):DE:=λσ O=>(t σ O).bnd λd O1=>if (sG d == "function")=qb then .bad else .ok (.bl (uH (sG d) C||uH (sG d) C')) O1
def zdI:oM X (.builtin "isinstance") (λxs H Q=>∃x p C f XV μ O d,xs=[x,.ref p]/\rG X.K H p [.ty C,.ty f]/\C∈C0/\f∈C0/\oB X.K H XV μ O/\Y2 X.K H XV μ d x/\(sG d == "function")=qh/\Q (.bl (uH (sG d) C||uH (sG d) f)) H):=by
 intro Y1 s G H xs J Q I r h;obtain⟨x,L,C,f,XV,μ,O,d,rfl,l,m,g,o,t,v,q⟩:=h;obtain⟨u,M,rfl,w,y⟩:=B7 r;cases y;obtain⟨T,N,Z,p,z,i⟩:=SQ I o t w v;obtain⟨P,A,⟨⟨R,S,U,V⟩,B,j,n,k⟩,Y⟩:=I.tuple l;simp only at j k;subst j k;obtain⟨v1,v2,rfl,D,E⟩:=B7 A;cases D;cases E;refine wT I (PySem.W.kia_tup (b:=uH (sG d) C||uH (sG d) f) Z I.kIn p B ?_ z λF qR=>⟨.bl _,H,I.tok F,rfl,q⟩);unfold nN;rw[i _ m];cases uH (sG d) C with
 |true=>rfl
 | false=>
  dsimp only;unfold nN;rw[i _ g];cases uH (sG d) f<;>rfl
def Yy(j:PD X Ex a ta)(k:n∈C0)(m:n'∈C0)(o:Gl X "isinstance")(t:X.mg "isinstance" = KM)(u:br "isinstance" = KF (.builtin "isinstance"))(w:Gl X C)(y:X.mg C=KM)(z:br C=KF (.type n))
  (A:Gl X C') (B:X.mg C'=KM) (D:br C'=KF (.type n')) (E:C ≠ "__name__":=by decide) (F:(C==("__debug__":Str))=qh:=by decide) (G:C' ≠ "__name__":=by decide) (I:(C'==("__debug__":Str))=qh:=by decide)
  (h:aN [a,.Tuple [.Name C p',.Name C' zl] kt pt] X.env=(qh,eval a X.env)::aN [.Tuple [.Name C p',.Name C' zl] kt pt] X.env:=by rfl) (J:aN [.Tuple [.Name C p',.Name C' zl] kt pt] X.env=[(qh,eval (.Tuple [.Name C p',.Name C' zl] kt pt) X.env)]:=by rfl)
  (K:(backTo pos (aN [.Tuple [.Name C p',.Name C' zl] kt pt] X.env)).any (·.1)=qh:=by rfl) (L:aN [.Name C p',.Name C' zl] X.env=(qh,eval (.Name C p') X.env)::aN [.Name C' zl] X.env:=by rfl) (M:aN [.Name C' zl] X.env=[(qh,eval (.Name C' zl) X.env)]:=by rfl):
  PD X Ex (.Call (.Name "isinstance" p) [a,.Tuple [.Name C p',.Name C' zl] kt pt] [] pos) (Cb n n' ta):=
 rM (He (zdI (X:=X)) o t u (yQ j.out (yQ (OD (yQ (J4 (v:=.ty n) w y z rfl E F) (yQ (J4 (v:=.ty n') A B D rfl G I) Cd M) L)) Cd J) h) 'u' 'u' h K) λXV μ U O d_ H Q N P q=>rd.go N P q λd R v V S W x i r g=>by
  obtain⟨T,g⟩:=post.iteN g;exact⟨by show 2<=xc;decide,λl f=>⟨v,l,n,n',XV,S,R,d,rfl,.of rq,k,m,i.laid f,r.ext (.laid f),T,post.ok g (.laid f) (i.laid f) uY⟩⟩
def Vb(O:Ow):D->R D
 |.int i=>.ok (.int (-i)) O
 |_=>.bad
def Dm(t:DE):DE:=λσ O=>(t σ O).bnd λx O1=>Vb O1 x
def XS(f:PD X Ex a ta):PD X Ex (.UnaryOp .USub a pos) (Dm ta):=
 rM (Vt WO f.out) λXV μ k O d_ H Q g h q=>rd.go g h q λd l v m n o x j r p=>by
  cases d with
  |int i=>unfold Y2 at r;subst r;exact⟨i,rfl,post.here p j r9⟩
  |_=>exact ak p
def wC:Ow->D->D->R D:=λO x y=>match y with
 |.str _=>Gd O x y
 |_=>pP Ah O x y
def wa:Ow->D->D->R D:=λO x y=>match y with
 | .str _=>match Gd O x y with
  |.ok (.bl b) O1=>.ok (.bl (!b)) O1
  |_=>.bad
 |_=>pP BO O x y
def OR(d:X.A.units+64<cLine):qI X (cM .In) (λx y H Q=>zh X.K Ah x y H Q \/ ∃i j,x=.str i/\y=.str j/\Q (.bl (!(bN j i 0 j.length 1).isEmpty)) H):=qI.or (zhO d) zd2
def Pb:sj X Ex (λx y H Q=>zh X.K Ah x y H Q \/ ∃i j,x=.str i/\y=.str j/\Q (.bl (!(bN j i 0 j.length 1).isEmpty)) H) wC:=by
 intro H XV μ O x y v w Q c d f q;unfold wC at q;split at q
 ·exact .inr (YA H XV μ O _ _ v w Q c d f q)
 ·exact .inl (Cj H XV μ O x y v w Q c d f q)
def Qa(d:X.A.units+64<cLine):qI X (cM .NotIn) (λx y H Q=>zh X.K BO x y H Q \/ ∃i j,x=.str i/\y=.str j/\Q (.bl (!(!(bN j i 0 j.length 1).isEmpty))) H):=qI.or (zgb d) z90
def PY:sj X Ex (λx y H Q=>zh X.K BO x y H Q \/ ∃i j,x=.str i/\y=.str j/\Q (.bl (!(!(bN j i 0 j.length 1).isEmpty))) H) wa:=by
 intro H XV μ O x y v w Q c g h q;unfold wa at q;split at q
 ·rename_i f;cases x with
  | str i=>
   unfold Y2 at g h;subst g;subst h;refine .inr ⟨_,_,rfl,rfl,post.here (d:=D.bl (!(!(bN ⟨f.toArray⟩ ⟨i.toArray⟩ 0 f.length 1).isEmpty))) q c ?_⟩;have e:(⟨f.toArray⟩:Str).length=f.length:=by show f.toArray.size=_;simp
   rw[e];exact uY
  |_=>exact ak q
 ·exact .inl (Cj H XV μ O x y v w Q c g h q)
end
section
variable{X:Cx}{Y1:List (ae×Obj)}{d_:St}{H:Hp}{s:ag}
def Inv.turns(ch:List ae)(I:L2.Inv X Y1 d_ H s)(k:∀b o,b∉ch->s.heap.get? b=KF o->h'.get? b=KF o)(d:∀b∈ch,su X Y1 H b)(j:0<t':=by first|assumption|exact Inv.tk ‹_›):L2.Inv X Y1 d_ H { s with heap:=h',toks:=t' }:=by
 have f:∀b u,H b=KF u->b∉ch:=λb u e z=>by rw[(d b z).1] at e;cases e
 have g:Un (uT X.stack) ch H H s.heap h':=⟨λb o e _ _ n=>k b o n e,λb o e _ _ n=>⟨o.slots,k b o n e⟩,λ_ _ _ n _=>n,λb o e n=>⟨o,k b o n e⟩,λ_ _ e=>e,λ_ _ _ e=>e,λb l e=>⟨#[],by rw[e];simp⟩⟩;have a:HOk X.prog X.w H h':=λb u e=>(I.hok b u e).stay (λc v h q=>k c v (by
  rcases h with z|z
  ·rw[z];exact f b u e
  ·exact f c _ z) q) (λ_ q=>q) λ_ _ q=>q
 exact I.call (t':=t') (d':=s.drawn) g a I.bare λb i=>let ⟨_,f1,_,f3,f4,f5⟩:=d b i;⟨f3,f1,f4,f5⟩
end
def Itz(K:ah)(l m:ae):It:=
 ⟨λi H=>∃xs ys x y,qO K H l xs/\qO K H m ys/\xs[i]?=KF x/\ys[i]?=KF y,
   λi H v H'=>∃p x y,H p=KM/\v=.ref p/\(∀xs,qO K H l xs->xs[i]?=KF x)/\(∀ys,qO K H m ys->ys[i]?=KF y)/\H'=upd H p (.tup [x,y]),
   λi H=>∃xs ys,qO K H l xs/\qO K H m ys/\(xs.length<=i\/ys.length<=i)⟩
def pf(K:ah)(src:Src)(a:ae)(H:Hp)(XV μ:List ae):Prop:=∀hid' H' f_ O',Mv H XV μ H' hid' f_->oB K H' hid' f_ O'->∃ds vs,qO K H' a vs/\oC K H' hid' f_ ds vs/\∀i,src.get O' i=ds[i]?
section
variable{K:ah}{H:Hp}{XV μ:List ae}
def pf.own(d:μ[k]?=KF a):pf K (.own k) a H XV μ:=by
 intro e p q f m c;obtain⟨g,rfl⟩:=m.pre;have h:(μ++g)[k]?=KF a:=by rw[aH (aq.mp d).1];exact d
 obtain⟨b,j,l,n,o⟩:=c.at_ k a h;exact⟨b,j,.of n,o,λi=>by show(match f[k]? with|some b=>b[i]?|none=>KM)=_;rw[l]⟩
def pf.mv(h:pf K src a H XV μ)(e:Mv H XV μ H1 wA h_):pf K src a H1 wA h_:=λb d f g m c=>h b d f g (e.trans m) c
def oG.zip(E:pf K s1 a H XV μ)(F:pf K s2 b H XV μ):oG K (Itz K a b) (.zip s1 s2) H XV μ:=by
 intro e n o f m c i;obtain⟨G,g,h,q,I⟩:=E e n o f m c;obtain⟨J,j,k,r,L⟩:=F e n o f m c;show match (match s1.get f i,s2.get f i with|some x,KF y=>KF (D.tup [x,y])|_,_=>KM) with|some d=>_|none=>_
 rw[I,L];cases s:G[i]? with
 | none=>
  dsimp only;exact⟨g,j,h,k,.inl (by rw[<- q.length];exact a8.mp s)⟩
 | some x=>
  cases t:J[i]? with
  | none=>
   dsimp only;exact⟨g,j,h,k,.inr (by rw[<- r.length];exact a8.mp t)⟩
  | some y=>
   dsimp only;obtain⟨v,u,M⟩:=q.get s;obtain⟨w,A,N⟩:=r.get t;refine⟨⟨g,j,v,w,h,k,u,A⟩,λz R O=>?_⟩;obtain⟨p,S,T,l,rfl,P,Q,rfl⟩:=O;have B:=P g h;rw[u] at B;cases B;have C:=Q j k;rw[A] at C;cases C;exact⟨.laid l,c.laid l,Y2.newT c l (.cons M (.cons N .nil))⟩
end
noncomputable def Gy:D->Option Src
 |.lst ds=>KF (.val ds)
 |.own k=>KF (.own k)
 |_=>KM
def zpq(t:DA):DI:=λσ O=>(t σ O).bnd λxs O1=>match xs with
 | [x,y]=>match Gy x,Gy y with
  |some p,KF q=>.ok (.zip p q) O1
  |_,_=>.bad
 |_=>.bad
section
variable{X:Cx}{Ex:Nat->Hp->Prop}{c e:aT}{Y1:List (ae×Obj)}{H:Hp}{s:ag}{XV μ:List ae}{O:Ow}
def zfH:br "zip" = KF (.type "zip"):=by boot_by_name
def XQ{i j:Nat}{x y:Str}{d f g:Pos}{h:Nat}(k:X.calm=qb)(b:X.N.Nodup)(l:X.N[i]?=KF x)(m:X.N[j]?=KF y)(n:Loc X.env.scope x)(o:Loc X.env.scope y)
  (p:X.fn x=qb\/X.env.scope.names.lookup x=KF .local) (a:X.fn y=qb\/X.env.scope.names.lookup y=KF .local):PG X (.Tuple [.Name x d,.Name y f] h g) ((Tg.two i j).rd X.K):=
 Xs k (Rg (JL b l n p) (Rg (JL b m o a) YM))
def wb:List D->Option (List Int)
 |[]=>KF []
 |.int i::r=>(wb r).map (i :: ·)
 |_=>KM
theorem JU:∀{ds:List D}{vs:List V}{ns:List Int},oC K H XV μ ds vs->wb ds=KF ns->vs=ns.map V.int
 |[],vs,ys,h,e=>by unfold oC at h;subst h;cases e;rfl
 | d::ds,vs,ys,h,e=>by
  unfold oC at h;obtain⟨v,r,rfl,a,b⟩:=h;cases d with
  | int i=>
   unfold wb at e;cases q:wb ds with
   |none=>rw[q] at e;cases e
   | some zs=>
    rw[q] at e;cases e;unfold Y2 at a;subst a;rw[JU b q];rfl
  |_=>cases e
def yI:Ow->List D->R D:=λO xs=>match xs with
 | [.str cs]=>match ll ⟨cs.toArray⟩ with
  |some n=>if cs.length<=640 then .ok (.int n) O else .bad
  |none=>.bad
 |xs=>Jb O xs
def zdn:oM X (.type "int") (λxs H Q=>∃x n,xs=[.str x]/\ll x=KF n/\x.length<=640/\Q (.int n) H):=by intro Y1 s d H xs f Q I r h;obtain⟨x,n,rfl,a,b,q⟩:=h;obtain⟨u,rfl,t,rfl⟩:=uL r;exact PySem.W.KIN.call_text a b ⟨.int _,H,I.tok _,⟨_,rfl⟩,q⟩
noncomputable def Oy:List V->Hp->VK->Prop:=λxs H Q=>((∃i,xs=[.int i]/\Q (.int i) H) \/ ∃k,xs=[.bl k]/\Q (.int (if k then 1 else 0)) H) \/ ∃x n,xs=[.str x]/\ll x=KF n/\x.length<=640/\Q (.int n) H
def zeH:oM X (.type "int") Oy:=oM.or zdM zdn
def zhH:uW X Ex Oy yI:=by
 intro H XV μ O i b Q c d q;unfold yI at q;split at q
 ·rename_i f;obtain⟨v,rfl,a⟩:=uj d;unfold Y2 at a;subst a;split at q
  ·rename_i n g;obtain⟨h,q⟩:=post.ite q;refine .inr ⟨_,n,rfl,g,?_,post.here q c r9⟩;show f.toArray.size<=640;simpa using h
  ·exact ak q
 ·exact .inl (Yb H XV μ O _ b Q c d q)
end
def Callee.self(c:Callee P w K mg base x k n F):Callee P w K mg base x k n F:=c
section
variable{X:Cx}{Ex:Nat->Hp->Prop}{pos FY:Pos}{e o i:aT}{ti:DE}{Y1:List (ae×Obj)}{d_:St}{H:Hp}{s:ag}{XV μ:List ae}{O:Ow}
def zfN:sC X Ex (.Pass pos) qo:=yc zi4 λXV μ c O E d_ H a b q=>q d_ H μ .refl a b
def Az(tab:List (Int×Int)):List (Key×V):=tab.map λkv=>(gT kv.1,V.int kv.2)
noncomputable def uw(tab:List (Int×Int))(i:Int):Option Int:=(tab.find? λkv=>kv.1==i).map (·.2)
def Dq(tab:List (Int×Int))(i:Int):Option Int:=match t8 (yN [] (Az tab)) (gT i) with
 |some (.int v)=>KF v
 |_=>KM
def Ol(at_:List (Int×Int)->Int->Option Int)(tab:List (Int×Int))(t:DE):DE:=λσ O=>(t σ O).bnd λx O1=>match x with
 | .int i=>match at_ tab i with
  |some v=>.ok (.int v) O1
  |none=>.bad
 |_=>.bad
def Du:List (Int×Int)->DE->DE:=Ol Dq
def Dp:List (Int×Int)->DE->DE:=Ol uw
theorem S8:∀{tab:List (Int×Int)},Q (tab.map λkv=>(V.int kv.1,V.int kv.2)) H->DG (tab.map λkv=>(tC (.int kv.1),tC (.int kv.2))) σ H Q
 |[],h=>h
 | kv::r,h=>by
  show DG (r.map λkv=>(tC (.int kv.1),tC (.int kv.2))) σ H λa b=>Q ((V.int kv.1,V.int kv.2)::a) b;exact S8 (tab:=r) h
def XT(tab:List (Int×Int))(h:F4 X FY keys values y_)(c:y_=tab.map λkv=>(tC (.int kv.1),tC (.int kv.2)))(l:keys.all (·.isSome)=qb)(m:keys.length=values.length)(n:keys≠[])(t:keys.length<=15)(u:tab.length<=15)
  (x:X.A.units+1<cLine) (y:PD X Ex i ti) (z:BZ i):PD X Ex (.Subscript (.Dict keys values FY) i pos) (Du tab ti):=
 rM (Zv x (Y5 h l m n t) y.out z) λXV μ L O d_ H Q B g q=>λp f=>by
  subst c;refine S8 ⟨rq,Az tab,by simp[Az,kV],by simpa [Az] using u,?_⟩;rw[Z_];have k:Ext H μ (upd H p (.dK (yN [] (Az tab)))) μ:=.laid f;refine rd.go (B.ext k) (g.laid f) (post.ext q k) λd C v D E M F G r a=>?_;cases d with
  | int j=>
   unfold Y2 at r;subst r;have a:q0 Ex X.K D XV E (match Dq tab j with|some v=>.ok (.int v) C|none=>.bad) Q:=a;cases b:Dq tab j with
   |none=>rw[b] at a;exact ak a
   | some v=>
    rw[b] at a;have I:t8 (yN [] (Az tab)) (gT j)=KF (.int v):=by
     unfold Dq at b;split at b
     ·rename_i w J;cases b;exact J
     ·cases b
    refine⟨p,.int v,rfl,.inl ⟨yN [] (Az tab),gT j,.inl (F.keep p _ rq (g.not_in f).2),rfl,I.symm⟩,post.here a G r9⟩
  |_=>exact ak a
noncomputable def Gj:List DictEntry->List (Int×Int)->Bool
 |[],[]=>qb
 |e::es,(k,v)::r=>(match e.key with|.int i _=>i==k|_=>qh)&&(e.hash==hashInt k)&&(match e.val with|.int i _=>i==v|_=>qh)&&Gj es r
 |_,_=>qh
def Gi(o:Obj)(tab:List (Int×Int)):Bool:=(match o.cls with|.type n=>n == "dict"|_=>qh)&&o.dict.isNone&&o.slots.isEmpty&&decide ((tab.map (·.1)).Nodup)&&(match o.data with|.dict es _=>Gj es.toList tab|_=>qh)
structure Ay(K:ah)(mg:Str->Option ab)(x:Str)(tab:List (Int×Int)):Prop where
 ex:∃e o,mg x=KF (.ref e)/\K.lookup e=KF o/\Gi o tab=qb/\(e==sysModules)=qh
theorem SE:∀{es:List DictEntry}{tab:List (Int×Int)},Gj es tab=qb->∃a:List (Int×ab),Pairs (intKind P w) es a/\(∀e∈es,∃k,(intKind P w).is k e.key=qb/\e.hash=(intKind P w).hash k)/\a.map (·.1)=tab.map (·.1)/\
  ∀i,(valueAt a i).isSome=(uw tab i).isSome/\∀v,uw tab i=KF v->∃t,valueAt a i=KF (.int v t)
 |[],[],_=>⟨[],.nil,by simp,rfl,λi=>⟨rfl,λv h=>by cases h⟩⟩
 |[],_::_,h=>by cases h
 |_::_,[],h=>by cases h
 | e::es,(k,v)::r,h=>by
  obtain⟨b,key,n⟩:=e;unfold Gj at h;simp only[aR] at h;obtain⟨⟨⟨c,f⟩,d⟩,x⟩:=h;split at c
  ·rename_i i t;split at d
   ·rename_i j u;have c:i=k:=by simpa using c
    have f:b=hashInt k:=by simpa using f
    have d:j=v:=by simpa using d
    subst c d;obtain⟨a,p,y,z,g⟩:=SE (P:=P) (w:=w) x;have m:(intKind P w).is i (.int i t)=qb:=by show iA i (.int i t)=qb;simp[iA]
    refine⟨(i,.int j u)::a,.cons m rfl p,λe he=>?_,by simp[z],λq=>?_⟩
    ·rcases am.mp he with rfl|he
     ·exact⟨i,m,f⟩
     ·exact y e he
    ·unfold valueAt uw;by_cases l:i=q
     ·subst l;simp
     ·have A:(decide ((i,l9 j u).1=q))=qh:=by simpa using l
      have B:((i,j).1==q)=qh:=by simpa using l
      rw[eL,eL,A,B];exact g q
   ·cases d
  ·cases c
def zgv{P:aP}{w:aY}{o:Obj}{tab:List (Int×Int)}(h:Gi o tab=qb):∃f:Int->Option ab,(∀(b:aX)(e:ae),b.get? e=KF o->b.MapOf (intKind P w) e f)/\∀i,(f i).isSome=(uw tab i).isSome/\∀v,uw tab i=KF v->∃t,f i=KF (.int v t):=by
 obtain⟨m,k,l,c⟩:=o;unfold Gi at h;simp only[aR,decide_eq_true_eq] at h;obtain⟨⟨⟨⟨a,q⟩,r⟩,u⟩,d⟩:=h;split at a
 ·rename_i n;have a:n = "dict":=by simpa using a
  split at d
  ·rename_i x y;obtain⟨z,p,A,B,g⟩:=SE (P:=P) (w:=w) d;refine⟨valueAt z,λb e j=>?_,g⟩;refine Heap.DictOf.mapOf (knd:=intKind P w) ⟨_,x,y,j,⟨?_,?_,?_⟩,rfl,?_,p,by rw[B];exact u⟩
   ·show ez n=_;rw[a]
   ·simpa using q
   ·simpa using r
   ·intro e j;exact A e (by simpa using j)
  ·cases d
 ·cases a
def Qd(h:Ay X.K X.mg x tab):∃e,X.mg x=KF (.ref e)/\(e==sysModules)=qh/\∃f:Int->Option ab,(∀(Y1:List (ae×Obj))(d_:St)(H:Hp)(s:ag),L2.Inv X Y1 d_ H s->s.heap.MapOf (intKind X.prog X.w) e f)/\
  ∀i,(f i).isSome=(uw tab i).isSome/\∀v,uw tab i=KF v->∃t,f i=KF (.int v t):=by obtain⟨e,o,b,c,d,g⟩:=h.ex;obtain⟨f,m,a⟩:=zgv (P:=X.prog) (w:=X.w) d;exact⟨e,b,g,f,λY1 d_ H s I=>m _ e (I.kIn e o c),a⟩
def KW(i:Int)(t:Tok):(intKind P w).is i (.int i t)=qb:=by show iA i (.int i t)=qb;simp[iA]
def Y6(h:Ay X.K X.mg x tab)(B:Gl X x)(C:PD X Ex i ti)(D:BZ i)(E:(x==("__debug__":Str))=qh:=by decide):PD X Ex (.Subscript (.Name x p) i pos) (Dp tab ti):=by
 obtain⟨e,F,W,f,G,k⟩:=Qd h;refine⟨?_⟩;rintro Y1 s d_ H Q I ⟨XV,μ,Y,O,J,L,q⟩;refine JP (T := "dict") gY.lookup D (G6 (v:=.ref e) B F rfl E Y1 s d_ H (λv l=>v=.ref e/\l=H) I ⟨rfl,rfl⟩ |> λz=>pV z λu N ⟨v,l,P,m,R,S⟩=>?_);subst R S;cases m;refine pV (C.out Y1 N d_ l _ P (rd.go J L q (Q1:=λy b=>∃XV c g d,oB X.K b XV c g/\Y2 X.K b XV c d y/\q0 Ex X.K b XV c (match d with|.int i=>(match uw tab i with|some v=>.ok (.int v) g|none=>.bad)|_=>.bad) Q)
  λd g y b c Z x2 n r a=>⟨XV,c,g,d,n,r,a⟩)) λu U ⟨y,b,A,m,XV,c,g,d,n,r,a⟩=>?_
 have M:=G Y1 d_ b U A;cases d with
 | int j=>
  unfold Y2 at r;subst r;obtain⟨t,rfl⟩:=m;have a:q0 Ex X.K b XV c (match uw tab j with|some v=>.ok (.int v) g|none=>.bad) Q:=a;cases w:uw tab j with
  |none=>rw[w] at a;exact ak a
  | some v=>
   rw[w] at a;obtain⟨t',V⟩:=(k j).2 v w;exact⟨M.typeIs,kg (KW j t) M V ⟨.int v,b,A.tok _,⟨_,rfl⟩,post.here a n r9⟩⟩
 |_=>exact ak a
def yK(neg:Bool)(tab:List (Int×Int))(t:DE):DE:=λσ O=>(t σ O).bnd λx O1=>match x with
 |.int i=>.ok (.bl (if neg=qb then !(uw tab i).isSome else (uw tab i).isSome)) O1
 |_=>.bad
def Q4(a:Bool)(h:Ay X.K X.mg x tab)(B:Gl X x)(C:PD X Ex i ti)(D:(x==("__debug__":Str))=qh:=by decide):PC X (if a=qb then .NotIn else .In) i (.Name x p) (rd Ex X.K (yK a tab ti)):=by
 obtain⟨e,E,A,f,F,n⟩:=Qd h;rintro Y1 s d_ H Q I ⟨XV,μ,W,O,G,J,q⟩;refine pV (C.out Y1 s d_ H _ I (rd.go G J q (Q1:=λy c=>∃XV g k d,oB X.K c XV g k/\Y2 X.K c XV g d y/\q0 Ex X.K c XV g (match d with|.int i=>.ok (.bl (if a=qb then !(uw tab i).isSome else (uw tab i).isSome)) k|_=>.bad) Q)
  λd k y c g Y Z l r b=>⟨XV,g,k,d,l,r,b⟩)) λu L ⟨y,c,N,P,XV,g,k,d,l,r,b⟩=>?_
 refine pV (G6 (v:=.ref e) B E rfl D Y1 L d_ c (λv R=>v=.ref e/\R=c) N ⟨rfl,rfl⟩) λw S ⟨v,m,z,T,U,V⟩=>?_;subst U V;cases T;have M:=F Y1 d_ m S z;cases d with
 | int j=>
  unfold Y2 at r;subst r;obtain⟨t,rfl⟩:=P;have b:q0 Ex X.K m XV g (.ok (.bl (if a=qb then !(uw tab j).isSome else (uw tab j).isSome)) k) Q:=b;rw[<- (n j).1] at b;cases a with
  |false=>exact wpAny_in_of (KW j t) A M ⟨.bl _,m,z.tok _,rfl,post.here b l uY⟩
  |true=>exact wpAny_notIn_of (KW j t) A M ⟨.bl _,m,z.tok _,rfl,post.here b l uY⟩
 |_=>exact ak b
def zcp(h:Ay X.K X.mg x tab)(a:Gl X x)(b:PD X Ex i ti)(c:(x==("__debug__":Str))=qh:=by decide)(d:behindInMarks .NotIn (.Name x p)=qh:=by rfl):PD X Ex (.Compare i [.NotIn] [.Name x p] pos) (yK qb tab ti):=⟨Yg (Q4 qb h a b c) d⟩
def VR(a:oD X.K H XV μ σ d_)(b:oB X.K H XV μ O)(q:wZ Ex X.K H XV μ (pT td σ O) Q):tB (rd Ex X.K td) d_ H Q:=
 RC (X:=X) (t:=rd Ex X.K td) (td:=td) (λXV μ σ O d_ H Q a b q=>⟨XV,μ,σ,O,a,b,q⟩) XV μ σ O d_ H Q a b q
def zbt(h:Ay X.K X.mg x tab)(a:Gl X x)(b:PD X Ex i ti)(c:(x==("__debug__":Str))=qh:=by decide)(d:behindInMarks .NotIn (.Name x p)=qh:=by rfl):rm X Ex (.Compare i [.NotIn] [.Name x p] pos) (pT (yK qb tab ti)):=
 GK (Wy (Q4 qb h a b c) d) λXV μ j O d_ H Q f g q=>VR f g q
end
end DL
namespace DL
open PySem L2 PyProof.Rows
noncomputable def vf:List D->Option (List (List Nat))
 |[]=>KF []
 |.str cs::r=>(vf r).map (cs :: ·)
 |_=>KM
section
variable{H:Hp}{XV μ:List ae}
theorem GS{K:ah}:∀{ds:List D}{vs:List V}{ss:List (List Nat)},oC K H XV μ ds vs->vf ds=KF ss->vs=ss.map λcs=>V.str ⟨cs.toArray⟩
 |[],vs,ys,h,e=>by unfold oC at h;subst h;cases e;rfl
 | d::ds,vs,ys,h,e=>by
  unfold oC at h;obtain⟨v,r,rfl,a,b⟩:=h;cases d with
  | str cs=>
   unfold vf at e;cases q:vf ds with
   |none=>rw[q] at e;cases e
   | some zs=>
    rw[q] at e;cases e;unfold Y2 at a;subst a;rw[GS b q];rfl
  |_=>cases e
def WZ:br "len" = KF (.builtin "len"):=by boot_by_name
def Ye:br "all" = KF (.builtin "all"):=by boot_by_name
def Yq:br "any" = KF (.builtin "any"):=by boot_by_name
def OB:br "int" = KF (.type "int"):=by boot_by_name
def O9:br "str" = KF (.type "str"):=by boot_by_name
def Ku:br "tuple" = KF (.type "tuple"):=by boot_by_name
def JK:br "list" = KF (.type "list"):=by boot_by_name
def Xn:br "max" = KF (.builtin "max"):=by boot_by_name
def JJ:br "min" = KF (.builtin "min"):=by boot_by_name
def KA:br "sorted" = KF (.builtin "sorted"):=by boot_by_name
def CI:br "isinstance" = KF (.builtin "isinstance"):=by boot_by_name
def Z7:br "bool" = KF (.type "bool"):=by boot_by_name
def ZS:br "dict" = KF (.type "dict"):=by boot_by_name
end
end DL
namespace DL
def zhX{α:Type}(a ds:List α)(d:α):(a++d::ds)[a.length]?=KF d:=by simp
theorem RN:∀(ds a KB:List D)(f:Nat),ds.length<=f->(∀d∈ds,∀KB:List D,KB.length<4000000->step d O KB=.ok (KB++g d) O)->KB.length+(ds.flatMap g).length+ds.length<4000000->
  qD (.val (a++ds)) step f a.length O KB=.ok (KB++ds.flatMap g) O
 | [],a,KB,f,_,_,_=>by
  cases f<;>(unfold qD;simp[Src.get])
 |d::ds,a,KB,0,h,_,_=>by simp at h
 | d::ds,a,KB,f+1,h,hs,hl=>by
  unfold qD;have e:Src.get (.val (a++d::ds)) O a.length=KF d:=zhX a ds d;rw[e];simp only[cg,aw,aV] at hl;show((step d O KB).bnd λb c=>qD (.val (a++d::ds)) step f (a.length+1) c b)=_;rw[hs d ar KB 'd'];show qD (.val (a++d::ds)) step f (a.length+1) O (KB++g d)=_;have:=RN ds (a++[d]) (KB++g d) f (by simpa using h) (λi j=>hs i (aj _ j)) (by rw[aw];lia);rw[aZ,List.singleton_append,aw,fA] at this;rw[this];simp
def KS(q:it0 σ O=.ok (.val ds) O)(v:ds.length<1900000)
  (r:∀d∈ds,tG ts ((ql (ql (σ++aS ext KM) [i]) [i]).set i (KF d)) O=.ok (p d) O) (s:∀d∈ds,p d=qb->te ((ql (ql (σ++aS ext KM) [i]) [i]).set i (KF d)) O=.ok (e d) O) (o:Bool):
  qg o ext it0 (.one i) ts [] te σ O=vo o (.ok ((ds.filter p).map e) O):=by
 unfold qg zY;rw[q];show vo o (xH (qD (.val ds) _ ds.length 0 O []))=_;have c:∀d∈ds,∀a:List D,a.length<4000000->yb ⟨it0,.one i,ts⟩ [] te (ql (σ++aS ext KM) (qu [⟨it0,.one i,ts⟩])) d O a=.ok (a++(if p d=qb then [e d] else [])) O:=by
  intro d k a t;show(match Tg.put (.one i) d (ql (ql (σ++aS ext KM) [i]) [i]) with|some qL=>(tG ts qL O).bnd λb m=>if b=qb then ui [] te qL m a else .ok a m|none=>.bad)=_;show(tG ts ((ql (ql (σ++aS ext KM) [i]) [i]).set i (KF d)) O).bnd _=_;rw[r d k];show(if p d=qb then ui [] te _ O a else .ok a O)=_;by_cases f:p d=qb
  ·rw[qq f,qq f];unfold ui;rw[s d k f];show(if a.length<4000000 then _ else _)=_;rw[qq t]
  ·rw[qM f,qM f];simp
 have n:∀l:List D,(l.flatMap λd=>if p d=qb then [e d] else [])=(l.filter p).map e:=by
  intro l
  induction l with
  |nil=>rfl
  | cons x l ih=>
   rw[cg,ih,dW];by_cases j:p x=qb
   ·rw[qq j,qq j];rfl
   ·rw[qM j,qM j];rfl
 have h:((ds.filter p).map e).length<=ds.length:=by rw[au];exact bg _ _
 have w:=RN (O:=O) (g:=λd=>if p d=qb then [e d] else []) ds [] [] ds.length (aC _) c (by rw[n];simp at h ⊢;lia);rw[ef,n,ef] at w;have u:qD (.val ds) (yb ⟨it0,.one i,ts⟩ [] te (ql (σ++aS ext KM) (qu [⟨it0,.one i,ts⟩]))) ds.length 0 O []=.ok ((ds.filter p).map e) O:=w;rw[u];rfl
theorem R0(I:Nat->Sg->Ow->Prop)(h:∀i σ O d,I i σ O->ds[i]?=KF d->∃σ' a,step d σ O=.nx σ' a/\I (i+1) σ' a):
  ∀(f i:Nat)(σ:Sg)(O:Ow),I i σ O->ds.length<=i+f->i<=ds.length->∃σ' a,tN (.val ds) step f i σ O=.nx σ' a/\I ds.length σ' a
 | 0,i,σ,O,hI,h1,h2=>by
  have:i=ds.length:=by lia
  subst this;refine⟨σ,O,?_,hI⟩;unfold tN;have e:Src.get (.val ds) O ds.length=KM:=by simp[Src.get]
  rw[e]
 | f+1,i,σ,O,hI,h1,h2=>by
  unfold tN;have b:Src.get (.val ds) O i=ds[i]?:=rfl;rw[b];cases e:ds[i]? with
  | none=>
   have:i=ds.length:=by have:=a8.mp e;lia
   subst this;exact⟨σ,O,rfl,hI⟩
  | some d=>
   obtain⟨σ',a,c,g⟩:=h i σ O d hI e;dsimp only;rw[c];exact R0 I h f (i+1) σ' a g 'd' (by have:=(aq.mp e).1;lia)
def uI(n:Nat):D->Bool
 |.own k=>decide (k<n)
 |.lst _=>qh
 |.tup _=>qh
 |.map _ _=>qh
 |_=>qb
def uv(O:Ow):Prop:=∀c∈O,∀d∈c,uI O.length d=qb
def yV(h:uI n d=qb):frz O n f d=KF d:=by
 cases d with
 | own k=>
  have h:k<n:=by simpa [uI] using h
  cases f<;>(unfold frz;dsimp only;rw[qq h])
 |lst ds=>cases h
 |tup ds=>cases h
 |map _ _=>cases h
 |_=>cases f<;>rfl
theorem uA{α:Type}{f:α->Option α}:∀{l:List α},(∀x∈l,f x=KF x)->qd f l=KF l
 |[],_=>rfl
 | x::l,h=>by
  unfold qd;rw[h x ar,uA λy a=>h y (aj _ a)]
def Ee{a:Ow}{d:D}{cs:List D}(b:∀c∈a,∀d∈c,uI a.length d=qb)(X:Ow)(h:frz (a++X) a.length 8 d=KF (.lst cs)):tK a.length (.ok d (a++X))=.ok (.lst cs) a:=by
 unfold tK;dsimp only;rw[h];have:(a++X).take a.length=a:=by simp
 rw[this,uA λc e=>uA λd f=>yV (b c e d f)]
section
variable{σ σ':Sg}{O O1 O2:Ow}{t u ta tb:DE}{tA:DA}{x y:D}{b:Bool}{ds:List D}
def pX(h:t σ O=.ok x O1):b_ t c_ σ O=.ok [x] O1:=by show((t σ O).bnd _)=_;rw[h];rfl
def qA(a:t σ O=.ok x O1)(c:u σ O1=.ok y O2):b_ t (b_ u c_) σ O=.ok [x,y] O2:=by show((t σ O).bnd _)=_;rw[a];show((b_ u c_ σ O1).bnd _)=_;rw[pX c];rfl
def Cw(a:t σ O=.ok x O1)(c:tA σ O1=.ok ds O2):b_ t tA σ O=.ok (x::ds) O2:=by show((t σ O).bnd _)=_;rw[a];show((tA σ O1).bnd _)=_;rw[c];rfl
def uN(h:tA σ O=.ok ds O1)(a:ds.length=n):j_ n F tA σ O=F ds O1:=by show((tA σ O).bnd _)=_;rw[h];show(if ds.length=n then _ else _)=_;rw[qq a]
def vQ(h:tA σ O=.ok ds O1):m_ f tA σ O=f O1 ds:=by show((tA σ O).bnd _)=_;rw[h];rfl
def qY(a:ta σ O=.ok x O1)(c:tb σ O1=.ok y O2):e_ f ta tb σ O=f O2 x y:=by show((ta σ O).bnd _)=_;rw[a];show((tb σ O1).bnd _)=_;rw[c];rfl
def rK(h:t σ O=.ok (.bl b) O1):pT t σ O=.ok b O1:=by show((t σ O).bnd _)=_;rw[h];rfl
def s9(h:t σ O=.ok (.bl b) O1):qj t σ O=.ok b O1:=by show((t σ O).bnd _)=_;rw[h];rfl
def vS(h:c σ O=.ok b O1):sQ c σ O=.ok (!b) O1:=by show((c σ O).bnd _)=_;rw[h];rfl
def s_(h:t σ O=.ok (.lst ds) O1):pU t σ O=.ok (.val ds) O1:=by show((t σ O).bnd _)=_;rw[h];rfl
def yP(h:t σ O=.ok (.tup ds) O1):pU t σ O=.ok (.val ds) O1:=by show((t σ O).bnd _)=_;rw[h];rfl
def xC(h:t σ O=.ok x O1):pS i t σ O=.nx (σ.set i (KF x)) O1:=by show((t σ O).bnS _)=_;rw[h];rfl
def rW(h:t σ O=.ok x O1):pR t σ O=.rt x O1:=by show((t σ O).bnS _)=_;rw[h];rfl
def Hb(h:t σ O=.ok x O1):rL t σ O=.nx σ O1:=by show((t σ O).bnS _)=_;rw[h];rfl
def tO(h:c σ O=.ok b O1):qm c a d σ O=if b=qb then a σ O1 else d σ O1:=by show((c σ O).bnS _)=_;rw[h];rfl
def sv(h:a σ O=.nx σ' O1):l_ a d σ O=d σ' O1:=by show(match a σ O with|.nx σ' O'=>_|r=>r)=_;rw[h]
def Cm(h:a σ O=.rt x O1):l_ a d σ O=.rt x O1:=by show(match a σ O with|.nx σ' O'=>_|r=>r)=_;rw[h]
def J_(h:it σ O=.ok src O1):rC it g body σ O=tN src (λd σ O=>match g.put d σ with|some σ'=>body σ' O|none=>.bad) (src.size O1) 0 σ O1:=by show((it σ O).bnS _)=_;rw[h];rfl
def xE(h:tA σ O=.ok [.int (n:Nat)] O1)(d:n<100000):sO tA σ O=.ok (.val ((aO n).map λ(i:Nat)=>D.int (i:Int))) O1:=by
 have a:-1000000<=((n:Nat):Int)/\((n:Nat):Int)<=1000000:=by constructor<;>lia
 unfold sO;rw[h];dsimp only[R.bnd];rw[qq a];unfold DU;have c:(((n:Nat):Int)-0).toNat=n:=by lia
 rw[c];congr 2;refine fc λi _=>?_;rw[Int.zero_add]
def Kg(h:cs.length<=4000000):qi O [.str cs]=.ok (.int cs.length) O:=by show(if cs.length<=4000000 then R.ok (D.int cs.length) O else R.bad)=_;rw[qq h]
def J3{cs:List Nat}{i:Nat}(h:cs.length<=4000000)(a:i<cs.length):p8 O (.str cs) (.int (i:Int))=.ok (.str [cs[i]]) O:=by show(if cs.length<=4000000 then (match L2.atI cs (i:Int) with|some ch=>R.ok (D.str [ch]) O|none=>R.bad) else R.bad)=_;rw[qq h,L2.atI_nat (al a)]
def G5(a:i<ds.length):p8 O (.tup ds) (.int (i:Int))=.ok ds[i] O:=by show(match L2.atI ds (i:Int) with|some d=>R.ok d O|none=>R.bad)=_;rw[L2.atI_nat (al a)]
def J0(a:i<ds.length):p8 O (.lst ds) (.int (i:Int))=.ok ds[i] O:=by show(match L2.atI ds (i:Int) with|some d=>R.ok d O|none=>R.bad)=_;rw[L2.atI_nat (al a)]
end
theorem Rf(O:Ow)(n:Nat):∀l:List Int,qd (qz O n) (l.map D.int)=KF (l.map jM)
 |[]=>rfl
 | x::l=>by
  have e:qz O n (.int x)=KF (.int x):=by cases n<;>rfl
  show qd (qz O n) (D.int x::l.map D.int)=_;unfold qd;rw[e,Rf O n l];rfl
def Yi(O:Ow)(l:List Int):pP qW O (.lst (l.map D.int)) (.lst [])=.ok (.bl l.isEmpty) O:=by
 unfold pP py;have e:qz O 8 (.lst (l.map D.int))=KF (.list (l.map jM)):=by
  show(qd (qz O 7) (l.map D.int)).map eE=_;rw[Rf];rfl
 rw[e];cases l<;>rfl
theorem Rh{α:Type}{src:Src}{step:D->Ow->List D->R (List D)}{O:Ow}{inj:α->D}{g:α->List D}{all:List α}(c:∀i,src.get O i=(all.map inj)[i]?):∀(ds b:List α)(KB:List D)(f:Nat),all=b++ds->ds.length<=f->
  (∀a∈ds,∀KB:List D,KB.length<4000000->step (inj a) O KB=.ok (KB++g a) O)->KB.length+(ds.flatMap g).length+ds.length<4000000->qD src step f b.length O KB=.ok (KB++ds.flatMap g) O
 | [],b,KB,f,ha,_,_,_=>by
  have e:src.get O b.length=KM:=by rw[c,ha];simp
  cases f<;>(unfold qD;rw[e];simp)
 |d::ds,b,KB,0,_,h,_,_=>by simp at h
 | d::ds,b,KB,f+1,ha,h,hs,hl=>by
  unfold qD;have e:src.get O b.length=KF (inj d):=by rw[c,ha];simp
  rw[e];simp only[cg,aw,aV] at hl;show((step (inj d) O KB).bnd λj k=>qD src step f (b.length+1) k j)=_;rw[hs d ar KB 'd'];show qD src step f (b.length+1) O (KB++g d)=_;have:=Rh c ds (b++[d]) (KB++g d) f (by rw[ha];simp) (by simpa using h) (λl m=>hs l (aj _ m)) (by rw[aw];lia);rw[aw,fA] at this;rw[this];simp
theorem El{α b:Type}(p:α->Bool)(e:α->b):∀l:List α,(l.flatMap λd=>if p d=qb then [e d] else [])=(l.filter p).map e
 |[]=>rfl
 | x::l=>by
  rw[cg,El p e l,dW];by_cases a:p x=qb
  ·rw[qq a,qq a];rfl
  ·rw[qM a,qM a];rfl
def Hc{α:Type}{ext:Nat}{it0:DI}{g:Tg}{ts:List DT}{te:DE}{σ:Sg}{O O0:Ow}{src:Src}{l:List α}{inj:α->D}{p:α->Bool}{e:α->D}{τ:α->Sg}{o:Bool}(n:it0 σ O0=.ok src O)(q:∀i,src.get O i=(l.map inj)[i]?)(hsz:src.size O=l.length)(x:l.length<1900000)
  (r:∀a∈l,g.put (inj a) (ql (ql (σ++aS ext KM) (g.slots++[])) (g.slots++[]))=KF (τ a)) (s:∀a∈l,tG ts (τ a) O=.ok (p a) O) (t:∀a∈l,p a=qb->te (τ a) O=.ok (e a) O):
  qg o ext it0 g ts [] te σ O0=vo o (.ok ((l.filter p).map e) O):=by
 unfold qg zY;rw[n];show vo o (xH (qD src _ (src.size O) 0 O []))=_;have f:∀a∈l,∀c:List D,c.length<4000000->yb ⟨it0,g,ts⟩ [] te (ql (σ++aS ext KM) (qu [⟨it0,g,ts⟩])) (inj a) O c=.ok (c++(if p a=qb then [e a] else [])) O:=by
  intro a k c u;show(match g.put (inj a) (ql (ql (σ++aS ext KM) (g.slots++[])) (g.slots++[])) with|some qL=>(tG ts qL O).bnd λb m=>if b=qb then ui [] te qL m c else .ok c m|none=>.bad)=_;rw[r a k];show(tG ts (τ a) O).bnd _=_;rw[s a k];show(if p a=qb then ui [] te _ O c else .ok c O)=_;by_cases h:p a=qb
  ·rw[qq h,qq h];unfold ui;rw[t a k h];show(if c.length<4000000 then _ else _)=_;rw[qq u]
  ·rw[qM h,qM h];simp
 have j:((l.filter p).map e).length<=l.length:=by rw[au];exact bg _ _
 have w:=Rh (O:=O) (inj:=inj) (g:=λd=>if p d=qb then [e d] else []) q l [] [] l.length rfl (aC _) f (by rw[El];simp at j ⊢;lia);rw[El,ef] at w;have v:qD src (yb ⟨it0,g,ts⟩ [] te (ql (σ++aS ext KM) (qu [⟨it0,g,ts⟩]))) (src.size O) 0 O []=.ok ((l.filter p).map e) O:=by rw[hsz];exact w
 rw[v];rfl
section
variable{α:Type}{ext:Nat}{it0:DI}{i:Nat}{t:DT}{te:DE}{σ:Sg}{O O0:Ow}{l:List α}{inj:α->D}{p:α->Bool}{e:α->D}{τ:α->Sg}{o:Bool}
def Hd{σ:Sg}{O:Ow}{b:Bool}(h:t σ O=.ok b O):tG [t] σ O=.ok b O:=by show((t σ O).bnd _)=_;rw[h];cases b<;>rfl
def vt(b:it0 σ O0=.ok (.val (l.map inj)) O)(c:l.length<1900000)(d:∀a,(ql (ql (σ++aS ext KM) [i]) [i]).set i (KF (inj a))=τ a)(f:∀a∈l,t (τ a) O=.ok (p a) O)(h:∀a∈l,p a=qb->te (τ a) O=.ok (e a) O):
  qg o ext it0 (.one i) [t] [] te σ O0=vo o (.ok ((l.filter p).map e) O):=
 Hc (g:=.one i) b (λ_=>rfl) (by show(l.map inj).length=_;simp) c (λa _=>congrArg KF (d a)) (λa j=>Hd (f a j)) h
def xw(c:it0 σ O0=.ok (.val (l.map inj)) O)(d:l.length<1900000)(f:∀a,(ql (ql (σ++aS ext KM) [i]) [i]).set i (KF (inj a))=τ a)(h:∀a∈l,te (τ a) O=.ok (e a) O):
  qg o ext it0 (.one i) [] [] te σ O0=vo o (.ok (l.map e) O):=by have:=Hc (o:=o) (g:=.one i) (ts:=[]) (p:=λ_=>qb) (te:=te) c (λ_=>rfl) (by show(l.map inj).length=_;simp) d (λa _=>congrArg KF (f a)) (λa b=>rfl) λa b _=>h a b;rw[this,List.filter_eq_self.mpr (λ_ _=>rfl)]
end
def w8{α:Type}{it:DI}{i:Nat}{body:DS}{σ:Sg}{O0 O:Ow}{l:List α}{inj:α->D}(g:it σ O0=.ok (.val (l.map inj)) O)(I:Nat->Sg->Ow->Prop)(h:∀(k:Nat)a σ O,l[k]?=KF a->I k σ O->∃σ' b,body (σ.set i (KF (inj a))) O=.nx σ' b/\I (k+1) σ' b)(m:I 0 σ O):
  ∃σ' b,rC it (.one i) body σ O0=.nx σ' b/\I l.length σ' b:=by
 obtain⟨σ',b,n,f⟩:=R0 (ds:=l.map inj) (step:=λd σ O=>match Tg.put (.one i) d σ with|some σ'=>body σ' O|none=>.bad) I (λj σ O d o c=>by
  rw[be] at c;cases e:l[j]? with
  |none=>rw[e] at c;cases c
  | some a=>
   rw[e] at c;cases c;exact h j a σ O e o) (l.map inj).length 0 σ O m 'k' (bE _)
 rw[au] at f;exact⟨σ',b,(J_ g).trans n,f⟩
theorem Ki:∀l:List Bool,wG (l.map D.bl)=KF l
 |[]=>rfl
 | x::l=>by
  show(wG (l.map D.bl)).map (x :: ·)=_;rw[Ki l];rfl
def QW{α:Type}(O:Ow)(l:List α)(p:α->Bool):BX O [.lst (l.map λa=>D.bl (p a))]=.ok (.bl (l.any p)) O:=by
 show(match wG (l.map λa=>D.bl (p a)) with|some bs=>R.ok (D.bl (bs.any id)) O|none=>R.bad)=_;have:(l.map λa=>D.bl (p a))=(l.map p).map D.bl:=by rw[bi];rfl
 rw[this,Ki];show R.ok (D.bl _) O=_;rw[List.any_map];rfl
def zdJ{α:Type}(O:Ow)(l:List α)(p:α->Bool):x9 O [.lst (l.map λa=>D.bl (p a))]=.ok (.bl (l.all p)) O:=by
 show(match wG (l.map λa=>D.bl (p a)) with|some bs=>R.ok (D.bl (bs.all id)) O|none=>R.bad)=_;have:(l.map λa=>D.bl (p a))=(l.map p).map D.bl:=by rw[bi];rfl
 rw[this,Ki];show R.ok (D.bl _) O=_;rw[ki];rfl
end DL
namespace DL
open PySem L2
structure XAt(h0:aX)(H:Hp)(h:aX)(a:ae)(C:ab):Prop where
 ex:∃oe vs,h.get? a=KF oe/\(oe.cls=C/\oe.dict=KM)/\oe.data=.fields vs/\1<vs.size/\(vs[1]?=KF .none \/ ∃T oT ts,vs[1]?=KF (.ref T)/\T≠a/\h0.get? T=KM/\H T=KM/\h.get? T=KF oT/\oT.data=.fields ts/\ts[3]?=KF .none)
 new:h0.get? a=KM
 free:H a=KM
structure Kp(h0:aX)(H:Hp)(fs:List ae)(h h':aX):Prop where
 keep:∀b o,h.get? b=KF o->b∉fs->(H b≠KM\/h0.get? b≠KM)->h'.get? b=KF o
 slot:∀b o,h.get? b=KF o->b∈fs->∃sl,h'.get? b=KF { o with slots:=sl }
 there:∀b o,h.get? b=KF o->∃o',h'.get? b=KF o'
 size:h.objs.size<=h'.objs.size
open PyProof.Rows (AllBare)
def Nq(P:aP)(w:aY)(Cl:Nat->ab):wI:=λouter H s E e s'=>∃a c H',e=.ref a/\s'.os=s.os/\0<s'.toks/\il s'.gens/\Un (uT outer) [] H H' s.heap s'.heap/\HOk P w H' s'.heap/\XAt s.heap H' s'.heap a (Cl c)/\E (Cl c) KM H'
abbrev Xk(Cl:Nat->ab)(E:XK):Nat->Hp->Prop:=λc H=>E (Cl c) KM H
def Kp.hok(k:Kp h0 H fs h h')(x:L2.HOk P w H h)(c:∀b∈fs,H b=KM):L2.HOk P w H h':=λa o e=>
 (x a o e).stay (λb u hb q=>k.keep b u q (λz=>by
  rcases hb with rfl|hb
  ·rw[c _ z] at e;cases e
  ·rw[c _ z] at hb;cases hb) (.inl (by
  rcases hb with rfl|hb
  ·rw[e];exact λz=>nomatch z
  ·rw[hb];exact λz=>nomatch z))) (λ_ q=>q) λ_ _ q=>q
section
end
structure o4(Cl:Nat->ab)(P:aP)(w:aY)(K:ah)(mg:Str->Option ab)(base:aX)(x:Str)(k n:Nat)(F:List D->Ow->R D):Prop where
 ex:∃f fd ps,mg x=KF (.ref f)/\cV K (.ref f)=qb/\Binds K fd ps []/\oR P w K mg base (Nq P w Cl) k f fd ps (IK K (Xk Cl) n F)
section
variable{Cl:Nat->ab}{P:aP}{w:aY}{K:ah}{mg:Str->Option ab}{base:aX}{k n:Nat}{x:Str}{F G:List D->Ow->R D}
def o4.imp(c:o4 Cl P w K mg base x k n F)(h:∀ds O H XV μ a Q,oB K H XV μ O->q0 a K H XV μ (G ds O) Q->q0 a K H XV μ (F ds O) Q):o4 Cl P w K mg base x k n G:=by obtain⟨f,e,g,i,j,l,m⟩:=c.ex;refine⟨f,e,g,i,j,l,m.imp λp H Q E ⟨o,XV,μ,ds,O,d,b,q⟩=>⟨o,XV,μ,ds,O,d,b,h ds O H XV μ _ Q b q⟩⟩
end
open PyProof.Rows (AllBare IntsAre)
section
variable{X:Cx}{Y1:List (ae×Obj)}{σ:St}{H:Hp}{s:ag}
def Inv.fake(I:L2.Inv X Y1 σ H s)(e:X.N[i]?=KF x)(f:¬ uU X.env.scope x):L2.Inv X Y1 (σ.set i (KF v)) H s:=by
 obtain⟨m,g,h⟩:=I.loc;refine⟨I.ok,I.os,I.bare,I.base,⟨m,g,λj y w a b c=>?_⟩,I.cell,I.free,I.freeC,I.pin,I.hok,by rw[ee];exact I.len,I.tk⟩;by_cases d:j=i
 ·subst d;rw[e] at a;cases a;exact absurd c f
 ·rw[bt (bL d)] at b;exact h j y w a b c
def tF.fake(a:X.N[i]?=KF x)(b:¬ uU X.env.scope x)(h:tF X body t):tF X body λD σ H=>t D (σ.set i (KF v)) H:=
 λY1 s σ H D I q=>h Y1 s _ H D (Inv.fake I a b) q
end
def oP.empty(h:H P=KF (.tbl #[])):oP H P:=⟨#[],h,trivial,λa b e=>by cases e⟩
noncomputable def yA(K:ah)(Ec:XK->Nat->Hp->Prop)(n:Nat)(P:ae)(F:List D->Ow->R D):Sp:=λvs H Q E=>vs.length=n/\∃XV μ ds O,oC K H XV μ ds vs/\oB K H XV μ O/\oP H P/\q0 (Ec E) K H XV μ (F ds O) Q
def xu(n i:Nat)(P:Nat)(t:DS):List D->Ow->R D:=λds O=>fin (t ((ds.map KF++aS (n-ds.length) KM).set i (KF (.tab P))) O)
structure vM(mg:Str->Option ab)(base:aX)(c Pt:ae):Prop where
 hd:nO base c Pt
 bl:base.BuiltinsAt mg Pt
def zct
  (Q:K.In n_.heap) (Am:n_.heap.Ns bI mg) (g:n_.heap.Ns builtinsNs mb) (R:∀x:Str,x ≠ "__name__"->mb x=br x) (Bq:n_.heap.NoLimit) (hg:n_.gens = #[]) (qR:0<n_.toks)
  (A:n_.heap.get? a=KF { cls:=.type "list",data:=.seq vs.toArray }) (hi:lf vs ns) (hl:ns.length<=xc) (hr:oK k callerA)
  (hC:nO n_.heap c Pt) (j:n_.heap.get? Pt=KF (lp #[])) (hK:jk K=qb) (hB:n_.heap.BuiltinsAt mg Pt)
  (F:∀base:aX,K.In base->base.Ns bI mg->vM mg base c Pt->oR P w K mg base CX k fa fd [x] sp) (vc:∀(s:ag)(u:ab),k9 s fd ⟨[u],[]⟩ [(x,u)])
  (Aj:∀H:Hp,H Pt=KF (.tbl #[])->qO K H a (ns.map V.int)->sp [.ref a] H (λv _=>v=.bl qb) λ_ _ _=>False)
  (S:∀H e i,CX [] H n_ (λ_ _ _=>False) e i->False):
  codeAny (ay P w) callerA (.call (.ref fa) ⟨[.ref a],[]⟩) (λr i=>r=.ok (.ret (.bool qb))/\OldK n_.heap i.heap/\i.os=n_.os/\il i.gens) n_:=by
 have rv:=R9 hi;have LK:=hi.length;have T:a≠Pt:=by rintro rfl;rw[A] at j;cases j
 have U:K.lookup Pt=KM:=by
  cases q:K.lookup Pt with
  |none=>rfl
  | some o=>
   have e:=Q Pt o q;rw[j] at e;cases e;have X:=av.mp hK (Pt,_) (PySem.W.mem_of_lookupK q);exact absurd (show qh=qb from X) ck
 -- H: the table, and the Ln where it is KM of the EW objects
 have p:∀H:Hp,H Pt=KF (.tbl #[])->qO K H a (ns.map V.int)->HOk P w H n_.heap->(∀b,H b≠KM->b=a\/b=Pt)->(H a=KM\/(K.lookup a=KM/\∃o xs,H a=KF (.frz o (.lst xs))))->
   codeAny (ay P w) callerA (.call (.ref fa) ⟨[.ref a],[]⟩) (λr i=>r=.ok (.ret (.bool qb))/\OldK n_.heap i.heap/\i.os=n_.os/\il i.gens) n_:=by
  intro H hT hS E M Uy;have f:∀{b:ae}{o:Obj},n_.heap.get? b=KF o->H b=KM->(x8 n_.heap H).get? b=KF o:=λe n=>zfi e n;have zm:∀{b:ae}{o:Obj}{B:Array DictEntry}{C:Nat},n_.heap.get? b=KF o->o.data=.dict B C->H b=KM:=λ{b o B C}e d=>by
   cases q:H b with
   |none=>rfl
   | some u=>
    rcases M b (by rw[q];simp) with e'|e'
    ·subst e';rw[A] at e;cases e;have Y:Data.seq vs.toArray _=Data.dict B C:=d;cases Y
    ·subst e';rw[j] at e;cases e;have Y:Data.fields #[]=Data.dict B C:=d;cases Y
  have N:∀{b:ae}{m:Str->Option ab},n_.heap.Ns b m->(x8 n_.heap H).Ns b m:=λ{b m}⟨o,B,C,e,d,r⟩=>⟨o,B,C,f e (zm e d),d,r⟩;have Ux:K.In (x8 n_.heap H):=λb o e=>f (Q b o e) (by
   cases q:H b with
   |none=>rfl
   | some u=>
    rcases M b (by rw[q];simp) with e'|e'
    ·subst e';rcases Uy with z|⟨z,_⟩
     ·rw[z] at q;cases q
     ·rw[z] at e;cases e
    ·subst e';rw[U] at e;cases e)
  have hM:Mod K mg (x8 n_.heap H):=⟨Ux,N Am,⟨mb,N g,R⟩,let ⟨mc,h1,X⟩:=Bq;⟨mc,N h1,X⟩⟩;have e0:o6 P w K mg (x8 n_.heap H) callerA [] n_ H:=⟨rfl,hM,λb o e=>YB e,h9 (zdV _ _),trivial,λb g=>absurd (show b∈([]:List ae) from g) 'k',E,.of_eq hg,qR⟩;have TQ:∀{b:ae}{o:Obj},n_.heap.get? b=KF o->o.cls ≠ .none->(o.cls ≠ .type "list")->H b=KM:=λ{b o}e d1 d2=>by
   cases q:H b with
   |none=>rfl
   | some u=>
    rcases M b (by rw[q];simp) with e'|e'
    ·subst e';rw[A] at e;cases e;exact absurd rfl d2
    ·subst e';rw[j] at e;cases e;exact absurd rfl d1
  have hL:vM mg (x8 n_.heap H) c Pt:=by
   obtain⟨o,vs,G,tf,y,tg,Ah,I,tt,J,Z,r⟩:=hC;obtain⟨bm,ob,b1,b2,b3,b4,b5,b6,b7,b8⟩:=hB;exact⟨⟨o,vs,G,tf,y,tg,Ah,I,tt,f J (TQ J (by rw[Z];exact λz=>nomatch z) (by rw[Z];decide)),Z,r⟩,⟨bm,ob,b1,b2,b3,b4,f b5 (TQ b5 (by rw[b6];exact λz=>nomatch z) (by rw[b6];decide)),b6,b7,b8⟩⟩
  refine fv ((F _ Ux (N Am) hL).run callerA [] n_ H ⟨[.ref a],[]⟩ [.ref a] [.ref a] _ _ hr e0 (vc n_ (.ref a)) (.cons rfl .nil) (Aj H hT hS)) λr i h=>?_;cases r with
  |error e=>exact(S H e i h).elim
  | ok fl=>
   cases fl with
   |next=>exact ak h
   |brk=>exact ak h
   |cont=>exact ak h
   | ret u=>
    obtain⟨⟨v,H',os,L,O,Fk,r',q⟩,_⟩:=h;have q':v=.bl qb:=q;subst q';obtain rfl:u=Value.bool qb:=r';obtain⟨t,hT'⟩:=O.tbls Pt #[] hT;have Iy:i.heap.get? Pt=KF { cls:=.none,data:=.fields (#[]++t) }:=Fk Pt _ hT';refine⟨rfl,⟨λb o e=>?_,λb o e=>?_⟩,os,L⟩
    ·by_cases xk:b=Pt
     ·subst xk;rw[j] at e;cases e;exact .inr (.inl ⟨(hC.tab j).isCodeTable,rfl,#[],t,rfl,Iy⟩)
     ·cases q:H b with
      |none=>exact .inl (O.keep b o e q (by intro z;exact absurd (show b∈([]:List ae) from z) 'k') 'k')
      | some u=>
       rcases M b (by rw[q];simp) with e'|e'
       ·subst e';rcases Uy with z|⟨_,ob,xs,z⟩
        ·rw[q] at z;cases z
        ·have z2:=O.frzs b ob _ z;obtain⟨J,_⟩:=E b _ z;obtain⟨e2,_⟩:=Fk b _ z2;rw[e] at J;cases J;exact .inl e2
       ·exact absurd e' xk
    ·exact O.there b o e 'k'
 cases hk:K.lookup a with
 | some o=>
  have e:=Q a o hk;rw[A] at e;cases e;refine p (λb=>if b=Pt then KF (.tbl #[]) else KM) (qq rfl) (.inr ⟨_,vs.toArray,_,hk,rfl,rfl,rfl,by rw[aJ,LK];exact hl,by simpa using rv⟩) (λb u z=>?_) (λb z=>?_) (.inl (qM T))
  ·by_cases g:b=Pt
   ·have l:=(qq g).symm.trans z;cases l;subst g;exact j
   ·have l:=(qM g).symm.trans z;cases l
  ·by_cases g:b=Pt
   ·exact .inr g
   ·exact absurd (qM g) z
 | none=>
  refine p (λb=>if b=Pt then KF (.tbl #[]) else if b=a then KF (.frz { cls:=.type "list",data:=.seq vs.toArray } (.lst (ns.map V.int))) else KM) (qq rfl) (.inl (.inr ⟨{ cls:=.type "list",data:=.seq vs.toArray },(qM T).trans (qq rfl)⟩)) (λb u z=>?_) (λb z=>?_) (.inr ⟨hk,_,_,(qM T).trans (qq rfl)⟩)
  ·by_cases g:b=Pt
   ·have l:=(qq g).symm.trans z;cases l;subst g;exact j
   ·by_cases D:b=a
    ·have l:=((qM g).trans (qq D)).symm.trans z;cases l;subst D;exact⟨A,by rw[au];exact hl,vs,_,rv,A⟩
    ·have l:=((qM g).trans (qM D)).symm.trans z;cases l
  ·by_cases g:b=Pt
   ·exact .inr g
   ·by_cases D:b=a
    ·exact .inl D
    ·exact absurd ((qM g).trans (qM D)) z
def z7t{pos d:Pos}{c f:ab}(l:List ab)(h:TriplesOk l)(e:codeAmong d (l++[bO pos.line,bO pos.col,c])=KF f):codeAmong d l=KF f\/f=c:=by
 fun_induction TriplesOk l with
 | case1=>
  simp only[ef,codeAmong,bO] at e;split at e
  ·cases e;exact .inr rfl
  ·cases e
 | case2 a t b u x rest ih=>
  simp only[kl,codeAmong] at e ⊢;split at e
  ·rename_i g;rw[qq g];exact .inl e
  ·rename_i g;rw[qM g];exact ih h e
 |case3 l h1 h2=>exact h.elim
def zcv{q:Str}{H:Hp}{P c:ae}{pos:Pos}{g:Array ab}(i:H P=KF (.tbl g))(v:H c=KM)(j:ae)(w:oP H j):
  oP (upd (upd H P (.tbl (g ++ #[bO pos.line,bO pos.col,.ref c]))) c (.ext λh=>h.CodeRec (.ref c) q)) j:=by
 have k:∀{b:ae}{o:HO},H b=KF o->b≠c:=λe=>rX e v;obtain⟨x,f,l,t⟩:=w;have a:∀{b:ae}{d:aX->Prop},H b=KF (.ext d)->upd (upd H P (.tbl (g ++ #[bO pos.line,bO pos.col,.ref c]))) c (.ext λh=>h.CodeRec (.ref c) q) b=KF (.ext d):=λ{b d}e=>by
  rw[p9 (k e),p9 (Vl e i (λz=>nomatch z))];exact e
 by_cases u:j=P
 ·subst u;rw[i] at f;cases f;refine⟨_,by rw[p9 (k i),rq],?_,λp m e=>?_⟩
  ·rw[bQ];exact TriplesOk_snoc _ _ _ _ l
  ·rw[bQ] at e;rcases z7t _ l e with e|e
   ·obtain⟨n,d,rfl,r,s⟩:=t p m e;exact⟨n,d,rfl,a r,s⟩
   ·exact⟨c,_,e,rq,λh z=>⟨q,z⟩⟩
 ·refine⟨x,by rw[p9 (k f),p9 u];exact f,l,λp m e=>?_⟩;obtain⟨n,d,rfl,r,s⟩:=t p m e;exact⟨n,d,rfl,a r,s⟩
section
variable{X:Cx}{Y1:List (ae×Obj)}{d_:St}{H:Hp}{s:ag}{E:ab->ag->Prop}
abbrev AF(H:Hp)(P c:ae)(ps:Array ab)(pos:Pos)(q:Str):Hp:=upd (upd H P (.tbl (ps ++ #[bO pos.line,bO pos.col,.ref c]))) c (.ext λh=>h.CodeRec (.ref c) q)
def CC(a:H P=KF (.tbl ps))(d:H c=KM)(e:H b=KF o)(f:B_ o):AF H P c ps pos q b=KF o:=by
 have g:b≠P:=by rintro rfl;rw[a] at e;cases e;exact f _ rfl
 show upd (upd H P _) c _ b=KF o;rw[p9 (rX e d),p9 g];exact e
def RI(a:H P=KF (.tbl ps))(d:H c=KM)(μ:List ae):Ext H μ (AF H P c ps pos q) μ:=
 ⟨⟨[],by simp⟩,λb o e _ f=>CC a d e f,λ_ m=>.inl m,λb h=>w9 b (w9 b h),λg i=>zcv a d g i⟩
def z9W(d:H P=KF (.tbl f))(g:H c=KM)(b:oB K H XV μ O):oB K (AF H P c f pos q) XV μ O:=by refine⟨b.len,b.nd,b.nh,λa m=>w9 a (w9 a (b.ht a m)),λk a e=>?_⟩;obtain⟨h,i,j,l,n⟩:=b.at_ k a e;exact⟨h,i,j,CC d g l (by intro f z;cases z),n.ext (RI d g μ)⟩
def Ta{h h':aX}{c:ae}{q:Str}(x:h.CodeRec (.ref c) q)(k:∀o,h.get? c=KF o->h'.get? c=KF o):h'.CodeRec (.ref c) q:=by obtain⟨d,o,a,t,e,b,r⟩:=x;cases e;exact⟨c,o,a,t,rfl,k o b,r⟩
def VY{c P:ae}{a:iU}{body:aT}{scope:cT}{pos:Pos}{v:List (Str×ae)}{Q:ab->ag->Prop}(I:L2.Inv X Y1 d_ H s)(L:vM X.mg X.base c P)(V:X.env.code=.ref c)(ti:oP H P)
  (Y:closureFor scope X.env=pure v) (xR:defaultsOf a X.env=([],[]))
  (h:∀(i:ae)(Z j:ab)(h':aX)(tk:Tok)(H':Hp),L2.Inv X Y1 d_ H' { s with heap:=h',toks:=tk }->(∀μ,Ext H μ H' μ)->(∀XV μ O,oB X.K H XV μ O->oB X.K H' XV μ O)->H' i=KM->s.heap.objs.size<=i->
   h'.get? i=KF { cls:=.type "function",data:=.func (d6 "<lambda>" (X.env.qual ++ "<lambda>") a body scope v ((X.mg "__name__").getD .none) Z j) }->(∃c C,Z=.ref c/\H' c=KF (.ext C)/\∀h:aX,C h->∃q,h.CodeRec (.ref c) q)->Q (.ref i) { s with heap:=h',toks:=tk }):
  ao (ay X.prog X.w) X.A (eval (.Lambda a body scope pos) X.env) Q E s:=by
 obtain⟨f,g,h2,h3⟩:=id ti;have J:s.heap.get? P=KF (lp f):=I.hok P _ g;have M:s.heap.Ns bI X.mg:=I.mod.glob.keeps I.bk;have N:bI≠P:=λz=>by
  obtain⟨o,es,ep,e,D,_⟩:=M;rw[z,J] at e;cases e;cases D
 have F:s.heap.BuiltinsAt X.mg P:=by
  obtain⟨bm,ob,b1,x,b3,b4,b5,r⟩:=L.bl;exact⟨bm,ob,b1,x,b3,b4,I.bk _ _ b5,r⟩
 have D:=L.hd.keeps I.bk;refine PySem.W.kla_eval xR ?_;cases R:codeAmong pos f.toList with
 | some cv=>
  obtain⟨d,C,rfl,k1,k2⟩:=h3 pos cv R;obtain⟨q,k3⟩:=k2 _ (I.hok d _ k1).1;refine wT I (PySem.W.kla_makeFunctionHit (mg:=X.mg) Y I.ok.glob M V D J h2 R F λj h' tk hk y qR=>?_);have p:∀b u,s.heap.get? b=KF u->(h'.push { cls:=.type "function",data:=.func (d6 "<lambda>" (X.env.qual ++ "<lambda>") a body scope v ((X.mg "__name__").getD .none) (.ref d) j) }).get? b=KF u:=λb u e=>af _ (hk b u e);exact h h'.objs.size (.ref d) j _ tk H (I.kept (t':=tk) p) (λμ=>.refl) (λ_ _ _ z=>z) (I.hok.fresh y) y (aE _ rfl) ⟨d,C,rfl,k1,k2⟩
 | none=>
  refine wT I (PySem.W.kla_makeFunction (mg:=X.mg) Y I.ok.glob M V D J h2 R N F λd j h' tk hx G S u6 T qR=>?_);have l:H d=KM:=I.hok.fresh G;have B:∀{b:ae},H b=KM->b≠P:=λe=>bL (rX g e);have p:∀b u,b≠P->s.heap.get? b=KF u->(h'.push (kK "<lambda>" (X.env.qual ++ "<lambda>") a body scope v ((X.mg "__name__").getD .none) d j)).get? b=KF u:=λb u n e=>af _ (hx b u n e);have Iy:(h'.push (kK "<lambda>" (X.env.qual ++ "<lambda>") a body scope v ((X.mg "__name__").getD .none) d j)).get? P=KF (lp (f ++ #[bO pos.line,bO pos.col,.ref d])):=af _ T;have Ak:(h'.push (kK "<lambda>" (X.env.qual ++ "<lambda>") a body scope v ((X.mg "__name__").getD .none) d j)).CodeRec (.ref d) (X.env.qual ++ "<lambda>"):=Ta u6 λo e=>af _ e;have xO:∀{b:ae},s.heap.objs.size<=b->b≠d->AF H P d f pos (X.env.qual ++ "<lambda>") b=KM:=λ{b}F n=>by
   have e:=I.hok.fresh F;show upd (upd H P _) d _ b=KM;rw[p9 n,p9 (B e)];exact e
  refine h h'.objs.size (.ref d) j _ tk (AF H P d f pos (X.env.qual ++ "<lambda>")) ?_ (RI g l) (λ_ _ _ z=>z9W g l z) (xO (gu (gc G S)) (eo S)) (gu (gc G S)) (aE _ rfl) ⟨d,_,rfl,rq,λh z=>⟨_,z⟩⟩;have qK:∀b o,s.heap.get? b=KF o->H b=KM->AF H P d f pos (X.env.qual ++ "<lambda>") b=KM:=λb o e n=>by
   show upd (upd H P _) d _ b=KM;rw[p9 (bo (bb (aK e) G)),p9 (B n)];exact n
  refine I.step (g':=s.gens) (d':=s.drawn) (ch:=[]) (λ_ z=>nomatch z) (λb o _ _ _ e n=>p b o (B n) e) (λb o _ _ _ e n=>⟨o.slots,p b o (B n) e⟩) (λb o _ e n=>qK b o e n) (λb o _ e=>?_)
   (λb xs e=>CC g l e (by intro f z;cases z)) (λb o u e=>CC g l e (by intro f z;cases z)) (λb TF e=>?_) (λm hm=>?_) ?_ I.bare qR
  ·by_cases k:b=P
   ·subst k;exact⟨_,Iy⟩
   ·exact⟨o,p b o k e⟩
  ·by_cases k:b=P
   ·subst k;rw[g] at e;cases e;exact⟨_,by show upd (upd H b _) d _ b=_;rw[p9 (rX g l),rq]⟩
   ·exact⟨#[],by show upd (upd H P _) d _ b=_;rw[p9 (rX e l),p9 k,e];simp⟩
  ·obtain⟨o,es,ep,e,r⟩:=hm;exact⟨o,es,ep,p _ o (B I.free) e,r⟩
  ·intro b u e;by_cases Ur:b=d
   ·subst Ur;have e':AF H P b f pos (X.env.qual ++ "<lambda>") b=_:=rq;rw[e'] at e;cases e;refine⟨Ak,?_,λha uf za zk=>Ta za zk⟩;obtain⟨c2,o,vs,t,z,ho,_⟩:=Ak;cases z;exact⟨o,ho⟩
   ·have U:upd H P (.tbl (f ++ #[bO pos.line,bO pos.col,.ref d])) b=KF u:=(p9 Ur).symm.trans e;by_cases k:b=P
    ·subst k;rw[rq] at U;cases U;exact Iy
    ·have e2:H b=KF u:=(p9 k).symm.trans U;refine(I.hok b u e2).stay (λx u2 xW z=>p x u2 (λzz=>?_) z) (λx z=>CC g l z (by intro f z;cases z)) λx xs z=>CC g l z (by intro f z;cases z);rcases xW with rfl|xW
     ·exact k zz
     ·rw[zz,g] at xW;cases xW
end
abbrev wL(q:Str)(scope:cT)(L f:ae)(cd:ab)(cl:List (Str×ae)):Env:={ scope,locals:=L,globals:=bI,cells:=cl,qual:=q ++ ".<locals>.",func:=KF f,code:=cd,frame:=KF L,builtins:=builtinsNs }
section
end
noncomputable def cxL(CX:wI)(P:aP)(w:aY)(K:ah)(mg:Str->Option ab)(base:aX)(N:List Str)(env:Env)(A:ba)(outer:List Env)(s:ag)(H:Hp)(E:XK):Cx where
 prog:=P
 w:=w
 K:=K
 mg:=mg
 base:=base
 A:=A.deeper env
 N:=N
 s₀:=s
 H₀:=H
 env:=env
 outer:=outer
 stack:=env::outer
 ex:=[]
 calm:=qb
 fn:=λ_=>qh
 pn:=[]
 xe:=λe s'=>ao (ay P w) (A.deeper env) (leaving env e) (λ_ ym=>CX outer H s E e ym) (λe' ym=>CX outer H s E e' ym) s'
section
variable{h0:aX}{H:Hp}
def Kp.refl:Kp h0 H fs h h:=⟨λ_ _ e _ _=>e,λb o e _=>⟨o.slots,e⟩,λ_ o e=>⟨o,e⟩,aC _⟩
def Kp.trans(x:Kp h0 H fs h h1)(y:Kp h0 H fs h1 h2):Kp h0 H fs h h2:=
 ⟨λb o e n k=>y.keep b o (x.keep b o e n k) n k,λb o e n=>by
  obtain⟨g,a⟩:=x.slot b o e n;obtain⟨c,d⟩:=y.slot b _ a n;exact⟨c,d⟩,λb o e=>by
  obtain⟨f,a⟩:=x.there b o e;exact y.there b f a,aI x.size y.size⟩
end
section
variable{X:Cx}{Y1:List (ae×Obj)}{σ:St}{H:Hp}{s:ag}
abbrev Cx.mk'(X:Cx)(a:ae):Cx:={ X with A:=X.A.mark (KF (.ref a)),calm:=qh,xe:=λ_ _=>False }
def Inv.mk'(I:L2.Inv X Y1 σ H s)(a:ae):L2.Inv (Cx.mk' X a) Y1 σ H s:=
 ⟨⟨I.ok.mod,I.ok.kind,I.ok.glob,I.ok.blt,I.ok.above,I.ok.inj,I.ok.has,I.ok.cab,λz=>absurd (show qh=qb from z) 'u',I.ok.frames,I.ok.stk,I.ok.exf,I.ok.bs,I.ok.bsz,I.ok.noex,I.ok.exfs,I.ok.funs,I.ok.frf⟩,I.os,I.bare,I.base,I.loc,I.cell,I.free,I.freeC,I.pin,I.hok,I.len,I.tk⟩
end
section
end
section
end
section
end
structure zpn(nf n y xT:Str)(p0 p1 p2 p3 p5 p6 p7 pq pc:Pos)(kc):Prop where
 hfd:(nf==("__debug__":Str))=qh:=by decide
 hfcd:(nf==("__classdict__":Str))=qh:=by decide
 hnd:(n==("__debug__":Str))=qh:=by decide
 hncd:(n==("__classdict__":Str))=qh:=by decide
 hTd:(xT==("__debug__":Str))=qh:=by decide
 hs0:∀env:Env,swapsWith (.Call (.Name nf p1) [] [] p2) KM p3.line env=pure qh:=by intro _;rfl
 hsA:∀env:Env,swapsWith (.Constant .none kc pc) (KF (.Name y pq)) p0.line env=pure qh:=by intro _;rfl
 hs:∀env:Env,jI [.Name y p5] (.Name n p6) p7.line env=pure qh:=by intro _;rfl
 hw:∀env:Env,jJ [.Name y p5] (.Name n p6) env=pure KM:=by intro _;rfl
section
end
section
end
section
end
section
variable{X:Cx}{Y1:List (ae×Obj)}{σ:St}{H:Hp}{s s2:ag}
def QC(a:Un fs [] H H h h')(z:h.IsCell c v)(n:H c=KM):h'.IsCell c v:=by obtain⟨o,b,d⟩:=z;obtain⟨f,e⟩:=a.any b n 'k';exact⟨_,e,d⟩
def zbu{b:List (Str×ae)}(I:L2.Inv X Y1 σ H s)(d:Un (uT X.stack) [] H H s.heap s2.heap)(a:∀x c,b.lookup x=KF c->X.env.cells.lookup x=KF c):∀x c,b.lookup x=KF c->(∃v,s2.heap.IsCell c v)/\H c=KM:=λx c e=>by
 obtain⟨v,z⟩:=I.cell x c (a x c e);exact⟨⟨v,QC d z (I.freeC x c (a x c e))⟩,I.freeC x c (a x c e)⟩
def zgP{a:List (Str×ae)}(I:L2.Inv X Y1 σ H s)(b:∀x c,a.lookup x=KF c->X.env.cells.lookup x=KF c):∀x y c,a.lookup x=KF c->a.lookup y=KF c->x=y:=λx y c d e=>I.ok.inj x y c (b x c d) (b y c e)
def zeh{a:List (Str×ae)}{scope:cT}(I:L2.Inv X Y1 σ H s)(h:Un (uT X.stack) [] H H s.heap s2.heap)(j:∀x c,a.lookup x=KF c->X.env.cells.lookup x=KF c)(b:∀x,scope.names.lookup x=KF .free->∃c,a.lookup x=KF c)
  (e:∀x,scope.names.lookup x=KF .free->X.env.scope.names.lookup x=KF .cell\/X.env.scope.names.lookup x=KF .free):
  ∀(i:Nat)x v,X.N[i]?=KF x->σ[i]?=KF (KF v)->scope.names.lookup x=KF .free->∃u c,RelV v u/\a.lookup x=KF c/\s2.heap.IsCell c (KF u):=λi x v k n d=>by
 obtain⟨m,w,o⟩:=I.loc;obtain⟨u,r,l⟩:=o i x v k n (.inr (e x d));obtain⟨c,f⟩:=b x d;refine⟨u,c,r,f,?_⟩;rcases l with⟨z,_⟩|⟨_,y,g,p⟩
 ·have t:X.env.scope.names.lookup x=KF .local:=z;rcases e x d with q|q<;>(rw[t] at q;cases q)
 ·have:=j x c f;rw[g] at this;cases this;exact QC h p (I.freeC x _ g)
end
structure zf7(out sc:cT):Prop where
 kind:sc.kind=.function
 co:sc.isCoroutine=qh
 gen:sc.isGenerator=qh
 nd:(sc.names.map (·.1)).Nodup
 cell:∀x∈sc.names,x.2 ≠ .cell
 loc:∀x∈sc.names,x.2 ≠ .local
 frees:∀y∈sc.names,y.2=.free->out.names.lookup y.1=KF .cell\/out.names.lookup y.1=KF .free
section
end
def WM{K:ah}{Ec:XK->Nat->Hp->Prop}{Pt:ae}{F:List D->Ow->R D}{H:Hp}{a:ae}{ns:List Int}(h:∃O,F [.lst (ns.map .int)] []=.ok (.bl qb) O)(b:H Pt=KF (.tbl #[]))(c:qO K H a (ns.map V.int)):yA K Ec 1 Pt F [.ref a] H (λv _=>v=.bl qb) λ_ _ _=>False:=by
 obtain⟨O,h⟩:=h;have d:∀(l:List Int),oC K H [] [] (l.map D.int) (l.map V.int):=λl=>by
  induction l with
  |nil=>exact .nil
  |cons x r ih=>exact .cons r9 ih
 refine⟨rfl,[],[],[.lst (ns.map .int)],[],.cons ?_ .nil,⟨rfl,by simp,by simp,by simp,λk a e=>by simp at e⟩,oP.empty b,?_⟩
 ·unfold Y2;exact⟨a,_,rfl,c.imp (λz=>⟨z,by simp,by simp⟩) id,d ns⟩
 ·rw[h];intro v f g _ _ r;unfold Y2 at r;exact r
def o4.frz{a:Nat->ab}{P:aP}{w:aY}{K:ah}{mg:Str->Option ab}{base:aX}{k n:Nat}{x:Str}{F:List D->Ow->R D}(c:o4 a P w K mg base x k n F):o4 a P w K mg base x k n (xr F):=
 c.imp λe O H b f g Q d q=>Km d.len q
def BV(h:sc.names.lookup z=KM):¬ uU sc z:=by intro v;rcases v with v|v|v<;>(rw[h] at v;cases v)
def WH{K:ah}{x name d:Str}{f c Pt:ae}{b:iU}{body:List eI}{scope:cT}{i j e k l m g:ab}{n o h:Option ae}{p q:Array (Option ab)}{vs:Array ab}(a:gC K bI x=KF (KF (.ref f)))
  (r:K.lookup f=KF ⟨m,o,.func (cB name d b body scope i j e k n (.ref c) l),p⟩) (s:K.lookup c=KF ⟨g,h,.fields vs,q⟩) (t:vs[11]?=KF (.ref Pt)):jN K x=KF (c,Pt):=by unfold jN;rw[a];simp only[r];show(match K.lookup c with|some ⟨_,_,.fields vs,_⟩=>_|_=>KM)=_;simp only[s,t]
structure oW(P:aP)(w:aY)(ia:ae)(fp:List ae)(n:Nat)(Pv:Nat->ab->Prop)(Sx:Nat->aX->Prop):Prop where
 stab:∀i h h',Sx i h->(∀b∈ia::fp,∀o,h.get? b=KF o->h'.get? b=KF o)->Sx i h'
 item:∀(A:ba)(i:Nat)(s:ag)(Q:ab->ag->Prop)(E:ab->ag->Prop),i<n->Sx i s.heap->(∀v h' tk,Pv i v->Sx (i+1) h'->cX ia s.heap h'->Q v { s with heap:=h',toks:=tk })->ao (ay P w) A (cI (.ref ia)) Q E s
 done:∀(A:ba)(i:Nat)(s:ag)(Q:ab->ag->Prop)(E:ab->ag->Prop),A.handled=KM->n<=i->Sx i s.heap->(∀h' e,js ia s.heap h'->(∃o,h'.get? e=KF o/\o.cls=.type "StopIteration")->E (.ref e) { s with heap:=h' })->ao (ay P w) A (cI (.ref ia)) Q E s
section
variable{P:aP}{w:aY}{A:ba}{E:ab->ag->Prop}{s:ag}
def zf8{α:Type}{Q:α->ag->Prop}(c:A.handled=KM)(h:∀h' e,(∀b o,s.heap.get? b=KF o->h'.get? b=KF o)->(∃o,h'.get? e=KF o/\o.cls=.type "StopIteration")->E (.ref e) { s with heap:=h' }):
  ao (ay P w) A (newExc (.type "StopIteration") [] >>= λe=>(raiseNew e:Sem α)) Q E s:=by refine aa ?_;simp only[newExc,newTuple];refine aa (cH (?_) (by size_fits));refine aa (m:=firstArgMember _ _) (jr (a:=.none) (by first|rfl|(simp only[firstArgMember];rfl)) (cH ?_ (by size_fits)));simp only[raiseNew];refine aa (wpAny_handled ?_);rw[c];refine aa (ai (wpAny_throw (h _ _ (λb o e=>af _ (af _ e)) ⟨_,aE _ rfl,rfl⟩)))
def zcu(l g:ae)(a:Array ab)(J:g≠l):oW P w l [g] a.size (λi v=>a[i]?=KF v) (λi h=>h.IsTupleIter l g i/\h.IsTuple g a) where
 stab:=by
  rintro i h B ⟨⟨o,e,c,d⟩,⟨C,K,r⟩⟩ k;exact⟨⟨o,k l 'k' o e,c,d⟩,⟨C,k g 'k' C K,r⟩⟩
 item:=by
  rintro A i s Q E t ⟨f,u⟩ y;obtain⟨L,m,D,j⟩:=id f;obtain⟨F,n,G,H,p⟩:=id u;have q:a[i]?=KF a[i]:=a9 t;unfold cI;refine aa (cU (name := "__next__") f.typeIs fJ (cw fJ f.typeIs jy ?_ (jl _)));show ao _ _ (field (.ref l) 0 >>= _) _ _ s;refine aa (cb m j (x:=.ref g) rfl ?_);show ao _ _ (if (fu g==gJ)=qb then _ else _) _ _ s;rw[qM (by exact ck)];show ao _ _ (field (.ref l) 1 >>= _) _ _ s;refine aa (cb m j (x:=.int i 0) rfl ?_);show ao _ _ (seqItems? (.ref g) >>= _) _ _ s;refine aa (dr n p ?_);simp only[jW,q];refine aa (wpAny_setField m j 'k' (ai ⟨_,rfl,ai (y _ _ s.toks q ⟨?_,?_⟩ (dP ..))⟩))
  ·exact⟨_,cm _ m (Obj.isFreed_of_fields (mr j _)),(Obj.cls_mapFields ..).trans D,by rw[mr j];simp[bO]⟩
  ·exact⟨F,(dP ..).extBut _ _ J n,G,H,p⟩
 done:=by
  rintro A i s Q E I t ⟨f,u⟩ y;obtain⟨L,m,D,j⟩:=id f;obtain⟨F,n,G,H,p⟩:=id u;have q:a[i]?=KM:=by simp[t]
  unfold cI;refine aa (cU (name := "__next__") f.typeIs fJ (cw fJ f.typeIs jy ?_ (jl _)));show ao _ _ (field (.ref l) 0 >>= _) _ _ s;refine aa (cb m j (x:=.ref g) rfl ?_);show ao _ _ (if (fu g==gJ)=qb then _ else _) _ _ s;rw[qM (by exact ck)];show ao _ _ (field (.ref l) 1 >>= _) _ _ s;refine aa (cb m j (x:=.int i 0) rfl ?_);show ao _ _ (seqItems? (.ref g) >>= _) _ _ s;refine aa (dr n p ?_);simp only[jW,q];refine aa (dR (aa (wpAny_setField m j 'k' ?_)));refine zf8 (by first|exact I|(show A.in1.handled=KM;exact I)) λB e k M=>y B e (λb o N z=>k b o ((dP ..).extBut _ _ N z)) M
end
structure F3(z ti to:ae)(i1 i2:ae)(tx sV:List ae):Prop where
 a1:ti≠z
 a2:to≠z
 a3:ti≠to
 b1:∀b∈i1::tx,b≠z/\b≠to
 b2:∀b∈i2::sV,b≠z/\b≠to
 c1:i1∉i2::sV
 c2:i2∉i1::tx
 d1:ti≠i1
 d2:ti≠i2
section
variable{P:aP}{w:aY}{A:ba}{E:ab->ag->Prop}{s:ag}{z ti to i1 i2:ae}{tx sV:List ae}{n1 n2 k:Nat}{P1 P2:Nat->ab->Prop}{S1 S2:Nat->aX->Prop}{a b:ab}
def oW.but(J:oW P w ia fp n Pv Sx)(x:Sx i h)(e:js c h h')(d:∀b∈ia::fp,b≠c):Sx i h':=J.stab i h h' x λb f o z=>e b o (d b f) z
def X3{Q:ab->ag->Prop}(j:oW P w i1 tx n1 P1 S1)(l:oW P w i2 sV n2 P2 S2)(D:F3 z ti to i1 i2 tx sV)(hz:gk s.heap z ti to .none)(Bi:eu s.heap ti (.ref i1) (.ref i2))(Bg:eu s.heap to a b)(h1:S1 k s.heap)(h2:S2 k s.heap)(l1:k<n1)(l2:k<n2)
  (hq:∀x y h' tk,P1 k x->P2 k y->gk h' z ti to (bO s.heap.objs.size)->eu h' to x y->S1 (k+1) h'->S2 (k+1) h'->eu h' s.heap.objs.size x y->
   (∀c o,c≠z->c≠to->c≠i1->c≠i2->s.heap.get? c=KF o->h'.get? c=KF o)->Q (.ref s.heap.objs.size) { s with heap:=h',toks:=tk }):
  ao (ay P w) A (dF.«zip.__next__» ⟨[.ref z],[]⟩) (λf s'=>∃v,f=.done (.ret v)/\Q v s') E s:=by
 have h:∀b∈i1::tx,b≠z:=λb d=>(D.b1 b d).1;have i:∀b∈i2::sV,b≠z:=λb d=>(D.b2 b d).1;have J:∀b∈i1::tx,b≠to:=λb d=>(D.b1 b d).2;have K:∀b∈i2::sV,b≠to:=λb d=>(D.b2 b d).2;have LA:∀b∈i2::sV,b≠i1:=λb d e=>D.c1 (e▸d);have L:∀b∈i1::tx,b≠i2:=λb d e=>D.c2 (e▸d);have W:i1∈i1::tx:=ar;have X:i2∈i2::sV:=ar;show ao _ _ (field (.ref z) 2 >>= _) _ _ s;refine aa (cb hz rfl (x:=(.bool qh)) rfl ?_);show ao _ _ (field (.ref z) 3 >>= _) _ _ s;refine aa (cb hz rfl (x:=(.ref ti)) rfl (aa (dr Bi rfl ?_)));show ao _ _ (cC (.ref z) >>= _) _ _ s;refine aa ?_;unfold cC;refine aa (cb hz rfl (x:=(.none)) rfl (ai ?_));simp only[if_true];refine aa (dR (aa (cb hz rfl (x:=(.ref to)) rfl ?_)));refine aa (bF hz 'k' λha M m=>?_);have M:gk ha z ti to .ellipsis:=M;refine aa ?_;simp only[iO,nE,ge,lj];refine aa (aa (jO ?_));show ao _ _ (cI (.ref i1) >>= _) _ _ _;refine aa (j.item _ k _ _ _ l1 (j.but h1 m.extBut h) λx d um px Tv n=>ai ?_);have Y:eu d to a b:=n.extBut _ _ (bL (J _ W)) (m.extBut _ _ D.a2 Bg);refine aa (dr Y rfl (aa (i5 Y λhc N p=>?_)));have N:eu hc to x b:=N;refine aa (gi (ai (aa (aa (jO ?_)))));show ao _ _ (cI (.ref i2) >>= _) _ _ _;refine aa (l.item _ k _ _ _ l2 (l.but (l.but (l.but h2 m.extBut i) n.extBut LA) p.extBut K) λy hd tk2 py O r=>ai ?_);have Z:eu hd to x b:=r.extBut _ _ (bL (K _ X)) N;refine aa (dr Z rfl (aa (i5 Z λg B t=>?_)));have B:eu g to x y:=B;refine aa (gi (ai (ai (aa (dr B rfl (aa (im ?_)))))));have u:g.objs.size=s.heap.objs.size:=by rw[t.1,r.1,p.1,n.1,m.1]
 have ze:gk g z ti to .ellipsis:=t.extBut _ _ (bL D.a2) (r.extBut _ _ (bL (i _ X)) (p.extBut _ _ (bL D.a2) (n.extBut _ _ (bL (h _ W)) M)));have ke:∀c o,c≠z->c≠to->c≠i1->c≠i2->s.heap.get? c=KF o->g.get? c=KF o:=λc o C F R S e=>t.extBut _ _ F (r.extBut _ _ S (p.extBut _ _ F (n.extBut _ _ R (m.extBut _ _ C e))));have T:S1 (k+1) g:=j.but (j.but (j.but Tv p.extBut J) r.extBut L) t.extBut J;have U:S2 (k+1) g:=l.but O t.extBut K;have N6:z<g.objs.size:=aK ze;show ao _ _ (dZ (.ref z) (.ref g.objs.size) >>= _) _ _ _;refine aa ?_;unfold dZ;have zf:gk (g.push { cls:=.type "tuple",data:=.seq #[x,y] }) z ti to .ellipsis:=af _ ze;refine aa (bF zf 'k' λhg V sg=>?_);have V:gk hg z ti to (bO g.objs.size):=V;refine bF V 'k' λG H si=>?_;have H:gk G z ti to (bO g.objs.size):=H;have I:∀c o,c≠z->g.get? c=KF o->G.get? c=KF o:=λc o q e=>si.extBut _ _ q (sg.extBut _ _ q (af _ e));have pi:eu G g.objs.size x y:=si.extBut _ _ (eo N6) (sg.extBut _ _ (eo N6) (aE _ rfl));rw[u] at H pi;refine ai ⟨_,rfl,?_⟩;show Q (.ref g.objs.size) _;rw[u];exact hq x y G _ px py H (I _ _ D.a2 B) (j.stab _ _ _ T λb d o e=>I b o (h b d) e) (l.stab _ _ _ U λb d o e=>I b o (i b d) e) pi λc o C F R S e=>I c o C (ke c o C F R S e)
def YU(K:A.handled=KM)(t:oW P w i1 tx n1 P1 S1)(u:oW P w i2 sV n2 P2 S2)(D:F3 z ti to i1 i2 tx sV)(hz:gk s.heap z ti to .none)(T:eu s.heap ti (.ref i1) (.ref i2))(U:eu s.heap to a b)(L:S1 k s.heap)(V:S2 k s.heap)(j:n1<=k\/(k<n1/\n2<=k))
  (M:∀h' tk e,(∀c o,c≠z->c≠to->c≠i1->c≠i2->s.heap.get? c=KF o->h'.get? c=KF o)->(∃o,h'.get? e=KF o/\o.cls=.type "StopIteration")->E (.ref e) { s with heap:=h',toks:=tk }):
  ao (ay P w) A (dF.«zip.__next__» ⟨[.ref z],[]⟩) Q E s:=by
 have f:∀b∈i1::tx,b≠z:=λb d=>(D.b1 b d).1;have l:∀b∈i2::sV,b≠z:=λb d=>(D.b2 b d).1;have W:∀b∈i1::tx,b≠to:=λb d=>(D.b1 b d).2;have X:∀b∈i2::sV,b≠to:=λb d=>(D.b2 b d).2;have Y:∀b∈i2::sV,b≠i1:=λb d e=>D.c1 (e▸d);have C:i1∈i1::tx:=ar;have Z:i2∈i2::sV:=ar;show ao _ _ (field (.ref z) 2 >>= _) _ _ s;refine aa (cb hz rfl (x:=(.bool qh)) rfl ?_);show ao _ _ (field (.ref z) 3 >>= _) _ _ s;refine aa (cb hz rfl (x:=(.ref ti)) rfl (aa (dr T rfl ?_)));show ao _ _ (cC (.ref z) >>= _) _ _ s;refine aa ?_;unfold cC;refine aa (cb hz rfl (x:=(.none)) rfl (ai ?_));simp only[if_true];refine aa (dR (aa (cb hz rfl (x:=(.ref to)) rfl ?_)));refine aa (bF hz 'k' λha v g=>?_);have v:gk ha z ti to .ellipsis:=v;refine aa ?_;simp only[iO,nE,ge,lj];refine aa (aa (jO ?_));show ao _ _ (cI (.ref i1) >>= _) _ _ _;have m:∀{h:aX}{e:ae},gk h z ti to .ellipsis->(∃o,h.get? e=KF o/\o.cls=.type "StopIteration")->e≠z:=λ{h e}hz ⟨o,ho,y⟩ q=>by subst q;rw[hz] at ho;cases ho;simp at y
 rcases j with j|⟨l1,j⟩
 ·refine aa (t.done _ k _ _ _ K j (t.but L g.extBut f) λd e n p=>?_);have N:gk d z ti to .ellipsis:=n _ _ (bL (f _ C)) v;have F:=m N p;obtain⟨G,H,I⟩:=p;exact bF N 'k' λy _ i=>M y _ e (λc o r _ J _ x=>i.extBut _ _ r (n _ _ J (g.extBut _ _ r x))) ⟨G,i.extBut _ _ F H,I⟩
 ·refine aa (t.item _ k _ _ _ l1 (t.but L g.extBut f) λx d um px Tv B=>ai ?_);have O:eu d to a b:=B.extBut _ _ (bL (W _ C)) (g.extBut _ _ D.a2 U);refine aa (dr O rfl (aa (i5 O λy HS i=>?_)));refine aa (gi (ai (aa (aa (jO ?_)))));show ao _ _ (cI (.ref i2) >>= _) _ _ _;refine aa (u.done _ k _ _ _ K j (u.but (u.but (u.but V g.extBut l) B.extBut Y) i.extBut X) λhd e n p=>?_);have R:gk hd z ti to .ellipsis:=n _ _ (bL (l _ Z)) (i.extBut _ _ (bL D.a2) (B.extBut _ _ (bL (f _ C)) v));have F:=m R p;obtain⟨G,H,I⟩:=p;exact bF R 'k' λhf _ S=>M hf _ e (λc o r q2 J q4 x=>S.extBut _ _ r (n _ _ q4 (i.extBut _ _ q2 (B.extBut _ _ J (g.extBut _ _ r x))))) ⟨G,S.extBut _ _ F H,I⟩
def YT{Q:Option ab->ag->Prop}(e:oW P w i1 tx n1 P1 S1)(f:oW P w i2 sV n2 P2 S2)(D:F3 z ti to i1 i2 tx sV)(hz:gk s.heap z ti to .none)(g:eu s.heap ti (.ref i1) (.ref i2))(h:eu s.heap to a b)(i:S1 k s.heap)(j:S2 k s.heap)(l:k<n1)(m:k<n2)
  (n:∀x y h' tk,P1 k x->P2 k y->gk h' z ti to (bO s.heap.objs.size)->eu h' to x y->S1 (k+1) h'->S2 (k+1) h'->eu h' s.heap.objs.size x y->
   (∀c o,c≠z->c≠to->c≠i1->c≠i2->s.heap.get? c=KF o->h'.get? c=KF o)->Q (KF (.ref s.heap.objs.size)) { s with heap:=h',toks:=tk }):ao (ay P w) A (pyNext (.ref z)) Q E s:=by have d:s.TypeIs (.ref z) "zip":=⟨_,hz,rfl⟩;unfold pyNext;exact aa (fH (cU (name := "__next__") d i6 (cw i6 d m7 (X3 e f D hz g h i j l m λx y h' tk p q r t u v B C=>ai (n x y h' tk p q r t u v B C)) (mN _))))
def XR(f:A.handled=KM)(g:oW P w i1 tx n1 P1 S1)(h:oW P w i2 sV n2 P2 S2)(D:F3 z ti to i1 i2 tx sV)(hz:gk s.heap z ti to .none)(i:eu s.heap ti (.ref i1) (.ref i2))(j:eu s.heap to a b)(l:S1 k s.heap)(m:S2 k s.heap)(n:n1<=k\/(k<n1/\n2<=k))
  (p:∀h' tk,(∀c o,c≠z->c≠to->c≠i1->c≠i2->s.heap.get? c=KF o->h'.get? c=KF o)->Q KM { s with heap:=h',toks:=tk }):ao (ay P w) A (pyNext (.ref z)) Q E s:=by have d:s.TypeIs (.ref z) "zip":=⟨_,hz,rfl⟩;unfold pyNext;refine aa (fH (cU (name := "__next__") d i6 (cw i6 d m7 (YU f g h D hz i j l m n λh' tk e q r=>?_) (mN _))));obtain⟨t,u,v⟩:=r;exact aa (iP (T := "StopIteration") (b:=qb) ⟨t,u,v⟩ lq (ai (p _ tk q)))
end
inductive ZK where
 |tup (t:ae) (items:Array ab)
 |str (x:Str) (t:Tok)
 |lst (l:ae) (items:Array ab)
def ZK.val:ZK->ab
 |.tup t _=>.ref t
 |.str x t=>.str x t
 |.lst l _=>.ref l
noncomputable def ZK.obj:ZK->Obj
 |.tup t _=>{ cls:=.type "tuple_iterator",data:=.fields #[.ref t,.int 0 0] }
 |.str x t=>{ cls:=.type "str_ascii_iterator",data:=.fields #[.str x t,.int 0 0] }
 |.lst l _=>{ cls:=.type "list_iterator",data:=.fields #[.ref l,.int 0 0] }
def ZK.pre(h:aX):ZK->Prop
 |.tup t items=>h.IsTuple t items
 |.str x _=>x.cps.all (· < 128)=qb
 |.lst l items=>h.IsList l items
def ZK.keep(k:∀b o,h.get? b=KF o->h'.get? b=KF o):∀(q:ZK),q.pre h->q.pre h'
 |.tup t items,⟨o,e,r⟩=>⟨o,k _ _ e,r⟩
 |.str x t,e=>e
 |.lst l items,⟨o,e,r⟩=>⟨o,k _ _ e,r⟩
def ZK.iter(q:ZK)(h:q.pre s.heap)(a:Q (.ref s.heap.objs.size) { s with heap:=s.heap.push q.obj }):ao (ay P w) A (pyIter q.val) Q E s:=by
 cases q with
 |tup t items=>exact mn h a
 |str x t=>exact wpAny_pyIter_ascii h a
 |lst l items=>exact fO h a
abbrev zH(h:aX)(a b:ZK):aX:=(((((h.push a.obj).push b.obj).push { cls:=.type "tuple",data:=.seq #[.ref h.objs.size,.ref (h.push a.obj).objs.size] }).push { cls:=.type "tuple",data:=.seq #[.none,.none] }).push
 { cls:=.type "zip",data:=.fields #[.none,.bool qh,.bool qh,.ref ((h.push a.obj).push b.obj).objs.size,.ref (((h.push a.obj).push b.obj).push { cls:=.type "tuple",data:=.seq #[.ref h.objs.size,.ref (h.push a.obj).objs.size] }).objs.size] })
abbrev zA(h:aX)(a b:ZK):ae:=((((h.push a.obj).push b.obj).push { cls:=.type "tuple",data:=.seq #[.ref h.objs.size,.ref (h.push a.obj).objs.size] }).push { cls:=.type "tuple",data:=.seq #[.none,.none] }).objs.size
def YO(a b:ZK)(k l:ab)(n:a.val=k)(p:b.val=l):Meets (dF.«zip.__new__» ⟨[.type "zip",k,l],[]⟩) (λ_ R s=>a.pre s.heap/\b.pre s.heap/\R (.ok (.ret (.ref (zA s.heap a b)))) { s with heap:=zH s.heap a b }):=
 .of_wp λP w A R s h=>by
  obtain⟨f,g,d,i,j⟩:=s;obtain⟨q,r,h⟩:=h;have v:=sub_zip;have t:∀{E:ab->ag->Prop}{Q:ab->ag->Prop},Q (.ref f.objs.size) ⟨f.push a.obj,g,d,i,j⟩->ao (ay P w) A.in1 (pyIter k) Q E ⟨f,g,d,i,j⟩:=λ{E Q}hq=>by rw[<- n];exact a.iter (s:=⟨f,g,d,i,j⟩) q hq
  have m:b.pre (f.push a.obj):=b.keep (λc o e=>af _ e) r;have u:∀{E:ab->ag->Prop}{Q:ab->ag->Prop},Q (.ref (f.push a.obj).objs.size) ⟨(f.push a.obj).push b.obj,g,d,i,j⟩->ao (ay P w) A.in1 (pyIter l) Q E ⟨f.push a.obj,g,d,i,j⟩:=λ{E Q}hq=>by rw[<- p];exact b.iter (s:=⟨f.push a.obj,g,d,i,j⟩) m hq
  wp_walk using t,u
  exact⟨_,rfl,h⟩
section
variable{P:aP}{w:aY}{A:ba}{E:ab->ag->Prop}{s:ag}
def zd7(a b:ZK)(n:a.pre s.heap)(p:b.pre s.heap)
  (h:∀h',gk h' (s.heap.objs.size+4) (s.heap.objs.size+2) (s.heap.objs.size+3) .none->eu h' (s.heap.objs.size+2) (.ref s.heap.objs.size) (.ref (s.heap.objs.size+1))->eu h' (s.heap.objs.size+3) .none .none->
   h'.get? s.heap.objs.size=KF a.obj->h'.get? (s.heap.objs.size+1)=KF b.obj->(∀c o,s.heap.get? c=KF o->h'.get? c=KF o)->Q (.ref (s.heap.objs.size+4)) { s with heap:=h' }):
  ao (ay P w) A (call (.type "zip") [a.val,b.val]) Q E s:=by
 refine callType_new F.called_zip 'u' (F.typeCall_zip_2 _ _) (F.newCall_zip_2 _ _) (λd=>F.args_object_init_3 d _ _) F.entry_zip_new (YO a b _ _ rfl rfl) ⟨n,p,?_⟩;have q:a.obj.isFreed=qh:=by cases a<;>rfl
 have r:b.obj.isFreed=qh:=by cases b<;>rfl
 have e:(s.heap.push a.obj).objs.size=s.heap.objs.size+1:=cx ..;have f:((s.heap.push a.obj).push b.obj).objs.size=s.heap.objs.size+2:=by rw[cx,e]
 have g:(((s.heap.push a.obj).push b.obj).push { cls:=.type "tuple",data:=.seq #[.ref s.heap.objs.size,.ref (s.heap.push a.obj).objs.size] }).objs.size=s.heap.objs.size+3:=by rw[cx,f]
 have j:zA s.heap a b=s.heap.objs.size+4:=by show Array.size _=_;rw[cx,g]
 have i:(zH s.heap a b).get? (zA s.heap a b)=KF _:=aE _ rfl;have k:(zH s.heap a b).get? (((s.heap.push a.obj).push b.obj).push { cls:=.type "tuple",data:=.seq #[.ref s.heap.objs.size,.ref (s.heap.push a.obj).objs.size] }).objs.size=KF _:=af _ (aE _ rfl);have l:(zH s.heap a b).get? ((s.heap.push a.obj).push b.obj).objs.size=KF _:=af _ (af _ (aE _ rfl));have m:(zH s.heap a b).get? (s.heap.push a.obj).objs.size=KF _:=af _ (af _ (af _ (aE _ r)));have t:(zH s.heap a b).get? s.heap.objs.size=KF _:=af _ (af _ (af _ (af _ (aE _ q))));show _/\_;rw[f,g,j] at i;rw[g] at k;rw[e,f] at l;rw[e] at m;rw[j];exact⟨⟨_,i,rfl⟩,h _ i l k t m λc o x=>af _ (af _ (af _ (af _ (af _ x))))⟩
end
def Held(X:Cx)(H:Hp)(h:aX)(b:ae):Prop:=H b≠KM \/ ∃o,X.base.get? b=KF o
def Held.far{X:Cx}{a:List (ae×Obj)}{σ:St}{H:Hp}{s:ag}{b q:ae}(I:L2.Inv X a σ H s)(x:Held X H s.heap b)(f:su X a H q):b≠q:=by
 rintro rfl;rcases x with x|⟨o,e⟩
 ·exact x f.1
 ·rcases f.2.2.2.1 with z|z
  ·exact I.ok.noex b o e z
  ·exact absurd (bb (aK e) I.ok.bsz) (nB.mpr z)
structure Ds(P:aP)(w:aY)(K:ah)(J:It)(ia:ae)(S:Nat->aX->Prop):Prop where
 obj:∀i h,S i h->∃o,h.get? ia=KF o/\∀v,o.data ≠ .cell v
 keep:∀i h h',S i h->(∀o,h.get? ia=KF o->h'.get? ia=KF o)->S i h'
 got:∀(X:Cx),X.prog=P->X.w=w->X.K=K->∀(i:Nat)(Y1:List (ae×Obj))(s:ag)(σ:St)(H:Hp),L2.Inv X Y1 σ H s->su X Y1 H ia->S i s.heap->(J.go i H\/J.stop i H)->
  ∃fp n Pv Sx,oW P w ia fp n Pv Sx/\Sx i s.heap/\(∀j h,Sx j h->S j h)/\(J.go i H->i<n)/\(J.stop i H->n<=i)/\(∀v,Pv i v->∃x,RelV x v/\J.yld i H x H)/\∀b∈fp,Held X H s.heap b
section
variable{P:aP}{w:aY}{K:ah}
def O8{X:Cx}{b:List (ae×Obj)}{σ:St}{H:Hp}{s:ag}{a:ae}{xs:List V}(I:L2.Inv X b σ H s)(h:rG X.K H a xs):Held X H s.heap a:=by
 rcases h with h|⟨o,d,n,c,_⟩
 ·exact .inl (by rcases h with h|⟨_,h⟩<;>(rw[h];simp))
 ·exact .inr ⟨o,I.ok.mod.kin a o c⟩
def R5{xs:List V}{a:List ab}{i:Nat}{v:ab}(r:oE xs a)(e:a[i]?=KF v):∃x,xs[i]?=KF x/\RelV x v:=by
 have f:=r.length;have b:i<xs.length:=by have:=(aq.mp e).1;lia
 obtain⟨u,c,d⟩:=r.get (al b);rw[e] at c;cases c;exact⟨_,al b,d⟩
def XZ(a l:ae):Ds P w K (Nl K a) l (λi h=>h.IsTupleIter l a i) where
 obj:=λi h ⟨o,e,c,d⟩=>⟨o,e,λv z=>by rw[d] at z;cases z⟩
 keep:=λi h R ⟨o,e,c,d⟩ k=>⟨o,k o e,c,d⟩
 got:=by
  intro X B C D i q s S H I E F G;subst B C D;have J:∃g,rG X.K H a g:=by
   rcases G with⟨g,x,h,_⟩|⟨g,h,_⟩<;>exact⟨g,h⟩
  obtain⟨g,f⟩:=J;obtain⟨r,t,p,T⟩:=I.tuple f;have U:=t.length;refine⟨[a],_,_,_,zcu l a r.toArray ((O8 I f).far I E),⟨F,p⟩,λj h z=>z.1,λ⟨u,y,m,A⟩=>?_,λ⟨u,m,A⟩=>?_,λv L=>?_,λb M=>?_⟩
  ·have e:=I.tuple_inj m f;subst e;have:=(aq.mp A).1;simp;lia
  ·have e:=I.tuple_inj m f;subst e;simp;lia
  ·have n:r[i]?=KF v:=by simpa using L
   obtain⟨x,N,O⟩:=R5 t n;exact⟨x,O,rfl,λu Q=>by rw[I.tuple_inj Q f];exact N⟩
  ·have:b=a:=by simpa using M
   subst this;exact O8 I f
end
def UT(J1 J2:It):It:=
 ⟨λi H=>J1.go i H/\J2.go i H,λi H v H'=>∃p x y,H p=KM/\v=.ref p/\J1.yld i H x H/\J2.yld i H y H/\H'=upd H p (.tup [x,y]),λi H=>J1.stop i H/\(J2.go i H\/J2.stop i H)\/J1.go i H/\J2.stop i H⟩
def U5(z t o i j:ae)(S1 S2:Nat->aX->Prop)(n:Nat)(h:aX):Prop:=gk h z t o .none/\eu h t (.ref i) (.ref j)/\(∃a b,eu h o a b)/\S1 n h/\S2 n h
def ze3(z t o i j:ae)(ap:[z,t,o,i,j].Nodup)(W:Ds P w K J1 i S1)(Y:Ds P w K J2 j S2):wQ P w K (.Tuple es kt pt) (UT J1 J2) [z,t,o,i,j] z (U5 z t o i j S1 S2):=by
 simp only[bu,am,aW,or_false,not_or,io,and_true] at ap;obtain⟨⟨a1,a2,a3,a4⟩,⟨b1,b2,b3⟩,⟨c1,c2⟩,d1,_⟩:=ap;have Rm:∀{X:Cx}{d:List (ae×Obj)}{s:ag}{C:St}{H:Hp}{Z sV:List ae},L2.Inv X d C H s->(∀b∈[z,t,o,i,j],su X d H b)->(∀b∈Z,Held X H s.heap b)->(∀b∈sV,Held X H s.heap b)->F3 z t o i j Z sV:=λ{X d s C H Z sV}I r h1 h2=>
  ⟨bL a1,bL a2,b1,λb f=>(am.mp f).elim (λe=>by rw[e];exact⟨bL a3,bL c1⟩) λf=>⟨(h1 b f).far I (r z 'k'),(h1 b f).far I (r o 'k')⟩,
   λb f=>(am.mp f).elim (λe=>by rw[e];exact⟨bL a4,bL c2⟩) λf=>⟨(h2 b f).far I (r z 'k'),(h2 b f).far I (r o 'k')⟩,
   λf=>(am.mp f).elim d1 λf=>(h2 i f).far I (r i 'k') rfl,λf=>(am.mp f).elim (bL d1) λf=>(h1 j f).far I (r j 'k') rfl,b2,b3⟩
 refine⟨by simp,λn h F b f=>?_,λn h h' F k=>?_,?_,?_,λA n s Q E F q=>wpAny_pyIter_zip F.1 q⟩
 ·obtain⟨J,G,⟨a,b',L⟩,M,N⟩:=F;simp only[am,aW,or_false] at f;rcases f with rfl|rfl|rfl|rfl|rfl
  ·exact⟨_,J,λv e=>by cases e⟩
  ·exact⟨_,G,λv e=>by cases e⟩
  ·exact⟨_,L,λv e=>by cases e⟩
  ·exact W.obj n h M
  ·exact Y.obj n h N
 ·obtain⟨J,G,⟨a,b',L⟩,M,N⟩:=F;exact⟨k z 'k' _ J,k t 'k' _ G,⟨a,b',k o 'k' _ L⟩,W.keep n h h' M (k i 'k'),Y.keep n h h' N (k j 'k')⟩
 ·intro X O R S l n d s C H E I r F hg;obtain⟨g1,g2⟩:=hg;obtain⟨J,G,⟨a,b,L⟩,M,N⟩:=F;obtain⟨Z,n1,P1,T1,Z1,s1,u1,Dc,qH,y1,f1⟩:=W.got X O R S n d s C H I (r i 'k') M (.inl g1);obtain⟨sV,n2,P2,T2,Z2,s2,u2,UA,qv,y2,f2⟩:=Y.got X O R S n d s C H I (r j 'k') N (.inl g2);have D:=Rm I r f1 f2;subst O R S;refine wT I (YT Z1 Z2 D J G L s1 s2 (Dc g1) (UA g2) λx y h' tk px py q1 q2 q3 q4 q5 hk qR=>⟨_,rfl,?_⟩);obtain⟨vx,rx,yx⟩:=y1 x px;obtain⟨vy,ry,yy⟩:=y2 y py;refine wpAny_letOwnedTupleGo_zip q1 λT e1 U=>?_;have nb:∀q∈[z,t,o,i,j],s.heap.objs.size≠q:=λq hq e=>by
   have:∃m,s.heap.get? q=KF m:=by
    simp only[am,aW,or_false] at hq;rcases hq with rfl|rfl|rfl|rfl|rfl
    ·exact⟨_,J⟩
    ·exact⟨_,G⟩
    ·exact⟨_,L⟩
    ·obtain⟨m,g,_⟩:=W.obj n _ M;exact⟨_,g⟩
    ·obtain⟨m,g,_⟩:=Y.obj n _ N;exact⟨_,g⟩
   obtain⟨m,g⟩:=this;exact absurd (aK g) (by rw[e];exact bS _)
  have B:∀c m,c∉[z,t,o,i,j]->s.heap.get? c=KF m->T.get? c=KF m:=λc m l e=>by
   simp only[am,aW,or_false,not_or] at l;exact U.extBut _ _ l.1 (hk c m l.1 l.2.2.1 l.2.2.2.1 l.2.2.2.2 e)
  have I1:L2.Inv X d C H { s with heap:=T,toks:=tk }:=Inv.turns [z,t,o,i,j] I B r;have xO:T.get? s.heap.objs.size=KF { cls:=.type "tuple",data:=.seq #[x,y] }:=U.extBut _ _ (nb z 'k') q5;have V:H s.heap.objs.size=KM:=I.hok.fresh (aC _);have I2:L2.Inv X d C (upd H s.heap.objs.size (.tup [vx,vy])) { s with heap:=T,toks:=tk }:=by
   have un:Un (uT X.stack) [z,t,o,i,j] H (upd H s.heap.objs.size (.tup [vx,vy])) s.heap T:=by
    refine⟨λc m e _ _ l=>B c m l e,λc m e _ _ l=>⟨m.slots,B c m l e⟩,λc m e hn _=>?_,λc m e l=>⟨m,B c m l e⟩,λc zs e=>?_,λc m u e=>?_,λc ps e=>⟨#[],?_⟩⟩
    ·rw[p9 (bo (aK e))];exact hn
    ·rw[p9 (rX e V)];exact e
    ·rw[p9 (rX e V)];exact e
    ·rw[p9 (rX e V),e];simp
   have hok:HOk X.prog X.w (upd H s.heap.objs.size (.tup [vx,vy])) T:=by
    intro c u' e;by_cases l:c=s.heap.objs.size
    ·subst l;rw[rq] at e;cases e;exact⟨by show 2<=xc;decide,[x,y],.cons rx (.cons ry .nil),⟨_,xO,rfl,⟨_,rfl⟩,rfl⟩⟩
    ·rw[p9 l] at e;refine(I1.hok c u' e).stay (λ_ _ _ q=>q) (λp q=>?_) λp zs q=>?_
     ·by_cases hp:p=s.heap.objs.size
      ·subst hp;rw[V] at q;cases q
      ·rw[p9 hp];exact q
     ·by_cases hp:p=s.heap.objs.size
      ·subst hp;rw[V] at q;cases q
      ·rw[p9 hp];exact q
   exact I.call (t':=tk) (d':=s.drawn) un hok I.bare λb f=>let ⟨_,f1,_,f3,f4,f5⟩:=r b f;⟨f3,f1,f4,f5⟩
  refine⟨.ref s.heap.objs.size,_,I2,rfl,⟨_,vx,vy,V,rfl,yx,yy,rfl⟩,⟨e1,?_,⟨_,_,U.extBut _ _ D.a2 q2⟩,?_,?_⟩,λb f=>?_⟩
  ·exact U.extBut _ _ D.a1 (hk _ _ D.a1 D.a3 D.d1 D.d2 G)
  ·exact u1 _ _ (Z1.but q3 U.extBut λb f=>(D.b1 b f).1)
  ·exact u2 _ _ (Z2.but q4 U.extBut λb f=>(D.b2 b f).1)
  ·rw[p9 (bL (nb b f))];exact(r b f).1
 ·intro X O R S l n d s C H E I r F hg;obtain⟨J,G,⟨a,b,L⟩,M,N⟩:=F;have k1:J1.go n H\/J1.stop n H:=hg.elim (λz=>.inr z.1) λz=>.inl z.1;have k2:J2.go n H\/J2.stop n H:=hg.elim (λz=>z.2) λz=>.inr z.2;obtain⟨Z,n1,P1,T1,Z1,s1,u1,Dc,qH,y1,f1⟩:=W.got X O R S n d s C H I (r i 'k') M k1;obtain⟨sV,n2,P2,T2,Z2,s2,u2,UA,qv,y2,f2⟩:=Y.got X O R S n d s C H I (r j 'k') N k2;have D:=Rm I r f1 f2;subst O R S;refine wT I (XR (I.ok.hd l) Z1 Z2 D J G L s1 s2 (hg.elim (λq=>.inl (qH q.1)) λq=>.inr ⟨Dc q.1,qv q.2⟩) λh' tk hk qR=>⟨rfl,?_⟩);refine Inv.turns (t':=tk) [z,t,o,i,j] I (λc m l e=>?_) r;simp only[am,aW,or_false,not_or] at l;exact hk c m l.1 l.2.2.1 l.2.2.2.1 l.2.2.2.2 e
noncomputable def xY:D->Option Src
 |.tup ds=>KF (.val ds)
 |_=>KM
def Gx(t:DA):DI:=λσ O=>(t σ O).bnd λxs O1=>match xs with
 | [x,y]=>match xY x,xY y with
  |some p,KF q=>.ok (.zip p q) O1
  |_,_=>.bad
 |_=>.bad
def oG.zipW(n:oG K J1 s1 H XV μ)(o:oG K J2 s2 H XV μ):oG K (UT J1 J2) (.zip s1 s2) H XV μ:=by
 intro b h k e m c i;have f:=n b h k e m c i;have a:=o b h k e m c i;show match (match s1.get e i,s2.get e i with|some x,KF y=>KF (D.tup [x,y])|_,_=>KM) with|some d=>_|none=>_
 cases l:s1.get e i with
 | none=>
  rw[l] at f;refine .inl ⟨f,?_⟩;cases g:s2.get e i with
  |none=>rw[g] at a;exact .inr a
  |some d=>rw[g] at a;exact .inl a.1
 | some d1=>
  rw[l] at f;cases g:s2.get e i with
  |none=>rw[g] at a;exact .inr ⟨f.1,a⟩
  | some d2=>
   rw[g] at a;refine⟨⟨f.1,a.1⟩,λv t q=>?_⟩;obtain⟨p,x,y,j,rfl,r,s,rfl⟩:=q;exact⟨.laid j,c.laid j,Y2.newT c j (.cons (f.2 x h r).2.2 (.cons (a.2 y h s).2.2 .nil))⟩
section
variable{X:Cx}{Ex:Nat->Hp->Prop}{pos:Pos}{a b c e:aT}{Y1:List (ae×Obj)}{d_:St}{H:Hp}{s:ag}{XV μ:List ae}{O:Ow}
def Jt(I:L2.Inv X Y1 d_ H s)(c:oB X.K H XV μ O)(h:Y2 X.K H XV μ d v)(r:RelV v u)(e:xY d=KF src):
  ∃(k:ZK)(J:It),k.val=u/\k.pre s.heap/\oG X.K J src H XV μ/\∀f,∃S,Ds X.prog X.w X.K J f S/\∀h:aX,h.get? f=KF k.obj->S 0 h:=by
 cases d with
 | tup ds=>
  unfold Y2 at h;obtain⟨q,j,rfl,l,g⟩:=h;cases e;cases r;obtain⟨i,_,p,_⟩:=I.tuple l.sq;exact⟨.tup q i.toArray,_,rfl,p,.tup l g,λf=>⟨_,XZ q f,λh z=>⟨_,z,rfl,rfl⟩⟩⟩
 |_=>cases e
def zfj(C:Gl X "zip")(D:X.mg "zip" = KM)(E:ug X Ex [a,b] t)(F:aN [a,b] X.env=[(qh,eval a X.env),(qh,eval b X.env)]:=by rfl)(r:aN [b] X.env=[(qh,eval b X.env)]:=by rfl):
  sM X Ex (.Tuple es' kt pt) (.Call (.Name "zip" p) [a,b] [] pos) (Gx t):=by
 refine⟨?_⟩;rintro Y1 s d_ H G I ⟨XV,μ,σ,O,m,L,q⟩;refine kC (zV I C D zfH (d9 (pV (E.out pos Y1 s d_ H _ I (uC.go m L q (Q1:=λo g=>∃XV h i j,oB X.K g XV h i/\oC X.K g XV h j o/\
   post Ex X.K (λH' M s J=>oG X.K J s H' XV M) g XV h (match j with|[x,y]=>(match xY x,xY y with|some p,KF q=>.ok (.zip p q) i|_,_=>.bad)|_=>.bad) G)
  λj i o g h u x k d p=>⟨XV,h,i,j,k,d,p⟩)) λus f ⟨o,g,l,N,XV,h,i,j,k,d,p⟩=>?_) (by rw[F,r]) (by rw[r];rfl)))
 split at p
 ·rename_i x y;split at p
  ·rename_i sp sq m u;obtain⟨v,w,rfl,P,Q⟩:=B6 d;obtain⟨u1,u2,rfl,R,S⟩:=B7 N;obtain⟨T,J1,U,V,W,Y⟩:=Jt l k P R m;obtain⟨Z,J2,v2,p2,t2,i2⟩:=Jt l k Q S u;rw[<- U,<- v2];refine zd7 T Z V p2 λh' z g3 g4 g1 g2 hk=>?_;refine wpAny_pyIter_zip z ?_;have I2:L2.Inv X Y1 d_ g { f with heap:=h',toks:=f.toks }:=l.kept hk;obtain⟨S1,N1,z1⟩:=Y f.heap.objs.size;obtain⟨S2,N2,z2⟩:=i2 (f.heap.objs.size+1);refine⟨f.heap.objs.size+4,[f.heap.objs.size+4,f.heap.objs.size+2,f.heap.objs.size+3,f.heap.objs.size,f.heap.objs.size+1],_,_,g,rfl,I2,ze3 _ _ _ _ _ ?_ N1 N2,⟨z,g3,⟨_,_,g4⟩,z1 _ g1,z2 _ g2⟩,λb A=>?_,post.here p k (.zipW W t2)⟩
   ·have nn:∀(n:ae),[n+4,n+2,n+3,n,n+1].Nodup:=λn=>by
     simp only[bu,am,aW,or_false,not_or,io,and_true];refine⟨⟨?_,?_,?_,?_⟩,⟨?_,?_,?_⟩,⟨?_,?_⟩,?_,not_false⟩<;>simp[ae] at * <;> lia
    exact nn _
   ·have B:f.heap.objs.size<=b:=by
     simp only[am,aW,or_false] at A;rcases A with rfl|rfl|rfl|rfl|rfl<;>lia
    exact l.fpOk (H':=g) B (l.hok.fresh B)
  ·exact ak p
 ·exact ak p
end
end DL
namespace DL
open PySem L2
open AutoSeq1 (wpAny_loadPart')
section
variable{P:aP}{w:aY}{A:ba}{E:ab->ag->Prop}{s:ag}
variable{ea ia:ae}{fp:List ae}{n k:Nat}{Pv:Nat->ab->Prop}{Sx:Nat->aX->Prop}{old:ab}
def zgF(J:oW P w ia fp n Pv Sx)(v:ic s.heap ea ia (k:Nat) old)(X:Sx k s.heap)(Y:k<n)(j:∀b∈ia::fp,b≠ea)
  (Z:∀x h' tk ti,Pv k x->IsEnumOut h' ea ia ((k:Int)+1) x s.heap.objs.size->Sx (k+1) h'->h'.get? s.heap.objs.size=KF { cls:=.type "tuple",data:=.seq #[.int (k:Nat) ti,x] }->(∀b o,b≠ea->b≠ia->s.heap.get? b=KF o->h'.get? b=KF o)->Q (KF (.ref s.heap.objs.size)) { s with heap:=h',toks:=tk }):
  ao (ay P w) A (pyNext (.ref ea)) Q E s:=by
 have T:s.TypeIs (.ref ea) "enumerate":=⟨_,v,rfl⟩;have D:ea≠ia:=bL (j ia ar);unfold pyNext;refine aa (fH (cU (name := "__next__") T fB (cw fB T kS ?_ (kF _))));obtain⟨e,g,d,tk,f⟩:=s;show ao _ _ (field (.ref ea) 2 >>= _) _ _ _;refine aa (cb v rfl (x:=.ref ia) rfl (aa (J.item _ k _ _ _ Y X λx h a px F l=>?_)));have l:cX ia e h:=l;have G:ic h ea ia (k:Nat) old:=(l.2 ea D).trans v;show ao _ _ (field (.ref ea) 3 >>= _) _ _ ⟨h,g,d,a,f⟩;refine aa (cb G rfl (x:=bO (k:Nat)) rfl ?_);show ao _ _ (field (.ref ea) 4 >>= _) _ _ ⟨h,g,d,a,f⟩;refine aa (cb G rfl (x:=(.none)) rfl ?_);show ao _ _ (mkInt (k:Nat) >>= _) _ _ ⟨h,g,d,a,f⟩;refine aa (wpAny_mkInt ?_);show ao _ _ (setField (.ref ea) 3 (bO ((k:Int)+1)) >>= _) _ _ ⟨h,g,d,a+1,f⟩;refine aa (bF G 'k' λy H m=>?_);have m:cX ea h y:=m;have H:ic y ea ia ((k:Int)+1) old:=H;show ao _ _ (setField (.ref ea) 4 .none >>= _) _ _ ⟨y,g,d,a+1,f⟩;refine aa (bF H 'k' λc I p=>?_);have p:cX ea y c:=p;have I:ic c ea ia ((k:Int)+1) old:=I;show ao _ _ (newTuple [.int (k:Nat) a,x] >>= _) _ _ ⟨c,g,d,a+1,f⟩;refine aa (im ?_);have B:ic (c.push { cls:=.type "tuple",data:=.seq #[.int (k:Nat) a,x] }) ea ia ((k:Int)+1) old:=af _ I;have q:c.objs.size=e.objs.size:=by rw[p.1,m.1,l.1]
 have K:ea<e.objs.size:=aK v;have U:(c.push { cls:=.type "tuple",data:=.seq #[.int (k:Nat) a,x] }).get? e.objs.size=KF { cls:=.type "tuple",data:=.seq #[.int (k:Nat) a,x] }:=by rw[<- q];exact aE _ rfl
 have V:∀b o,b≠ea->b≠ia->e.get? b=KF o->(c.push { cls:=.type "tuple",data:=.seq #[.int (k:Nat) a,x] }).get? b=KF o:=λb o i L z=>af _ (p.extBut b o i (m.extBut b o i (l.extBut b o L z)));have W:Sx (k+1) (c.push { cls:=.type "tuple",data:=.seq #[.int (k:Nat) a,x] }):=J.stab _ _ _ (J.but (J.but F m.extBut j) p.extBut j) λb _ o z=>af _ z;generalize c.push { cls:=.type "tuple",data:=.seq #[.int (k:Nat) a,x] } = h4 at B U V W;show ao _ _ (cC (.ref ea) >>= _) _ _ ⟨h4,g,d,a+1,f⟩;rw[q];refine aa ?_;unfold cC;refine aa (cb B rfl (x:=(.none)) rfl (ai ?_));simp only[if_true];refine aa (dR (aa (cb B rfl (x:=old) rfl (aa (bF B 'k' λC M r=>?_)))));have r:cX ea h4 C:=r;have M:ic C ea ia ((k:Int)+1) x:=M;show ao _ _ (dZ (.ref ea) (.ref e.objs.size) >>= _) _ _ ⟨C,g,d,a+1,f⟩;refine aa ?_;unfold dZ;refine aa (bF M 'k' λN O t=>?_);have t:cX ea C N:=t;have O:IsEnumOut N ea ia ((k:Int)+1) x e.objs.size:=O;refine bF O 'k' λR S u=>?_;have u:cX ea N R:=u;have S:IsEnumOut R ea ia ((k:Int)+1) x e.objs.size:=S;refine aa (gi (ai ⟨_,rfl,ai (Z x R _ a px S (J.but (J.but (J.but W r.extBut j) t.extBut j) u.extBut j) ?_ λb o i L z=>u.extBut b o i (t.extBut b o i (r.extBut b o i (V b o i L z))))⟩));exact u.extBut _ _ (eo K) (t.extBut _ _ (eo K) (r.extBut _ _ (eo K) U))
def ZL(d:A.handled=KM)(J:oW P w ia fp n Pv Sx)(a:ic s.heap ea ia (k:Nat) old)(f:Sx k s.heap)(g:n<=k)(h:∀h',js ia s.heap h'->Q KM { s with heap:=h' }):ao (ay P w) A (pyNext (.ref ea)) Q E s:=by have c:s.TypeIs (.ref ea) "enumerate":=⟨_,a,rfl⟩;unfold pyNext;refine aa (fH (cU (name := "__next__") c fB (cw fB c kS ?_ (kF _))));show ao _ _ (field (.ref ea) 2 >>= _) _ _ _;refine aa (cb a rfl (x:=.ref ia) rfl (aa (J.done _ k _ _ _ d g f λh' e i j=>?_)));obtain⟨l,m,o⟩:=j;exact aa (iP (T := "StopIteration") (b:=qb) ⟨l,m,o⟩ lq (ai (h _ i)))
end
end DL
namespace DL
open PySem L2
def UW(J:It):It:=⟨J.go,λi H v H'=>∃p x,H p=KM/\v=.ref p/\J.yld i H x H/\H'=upd H p (.tup [.int (i:Nat),x]),J.stop⟩
def U9(ea ia:ae)(S:Nat->aX->Prop)(n:Nat)(h:aX):Prop:=(∃old,ic h ea ia (n:Nat) old)/\S n h
def zdA(i j:ae)(ap:i≠j)(N:Ds P w K J j S)(Fb:∀(A:ba)(n:Nat)(s:ag)(Q E:ab->ag->Prop),(∃o,ic s.heap i j (n:Nat) o)->Q (.ref i) s->ao (ay P w) A (pyIter (.ref i)) Q E s):wQ P w K (.Tuple es kt pt) (UW J) [i,j] i (U9 i j S):=by
 refine⟨by simp,λn h t b r=>?_,λn h W t k=>?_,?_,?_,λA n s Q E t q=>Fb A n s Q E t.1 q⟩
 ·obtain⟨⟨o,z⟩,B⟩:=t;simp only[am,aW,or_false] at r;rcases r with rfl|rfl
  ·exact⟨_,z,λv e=>by cases e⟩
  ·exact N.obj n h B
 ·obtain⟨⟨o,z⟩,B⟩:=t;exact⟨⟨o,k i 'k' _ z⟩,N.keep n h W B (k j 'k')⟩
 ·intro X G L M d n f s O H E I C t y;have y:J.go n H:=y;obtain⟨⟨o,z⟩,B⟩:=t;obtain⟨fp,m,Pv,T,Z,Y,u1,Dc,qH,y1,U⟩:=N.got X G L M n f s O H I (C j 'k') B (.inl y);subst G L M;have ne:∀b∈j::fp,b≠i:=λb r=>(am.mp r).elim (λe=>by rw[e];exact bL ap) λr=>(U b r).far I (C i 'k');refine wT I (zgF Z z Y (Dc y) ne λx W tk To px q1 q2 q3 hk qR=>⟨_,rfl,?_⟩);obtain⟨V,rx,yx⟩:=y1 x px;refine wpAny_letOwnedTupleGo_enum q1 λD e1 e2=>?_;have nb:∀q∈[i,j],s.heap.objs.size≠q:=λq hq e=>by
   have:∃a,s.heap.get? q=KF a:=by
    simp only[am,aW,or_false] at hq;rcases hq with rfl|rfl
    ·exact⟨_,z⟩
    ·obtain⟨a,g,_⟩:=N.obj n _ B;exact⟨_,g⟩
   obtain⟨a,g⟩:=this;exact absurd (aK g) (by rw[e];exact bS _)
  have l:∀c a,c∉[i,j]->s.heap.get? c=KF a->D.get? c=KF a:=λc a d e=>by
   simp only[am,aW,or_false,not_or] at d;exact e2.extBut _ _ d.1 (hk c a d.1 d.2 e)
  have I1:L2.Inv X f O H { s with heap:=D,toks:=tk }:=Inv.turns [i,j] I l C;have xO:D.get? s.heap.objs.size=KF { cls:=.type "tuple",data:=.seq #[.int (n:Nat) To,x] }:=e2.extBut _ _ (nb i 'k') q3;have F:H s.heap.objs.size=KM:=I.hok.fresh (aC _);have I2:L2.Inv X f O (upd H s.heap.objs.size (.tup [.int (n:Nat),V])) { s with heap:=D,toks:=tk }:=by
   have un:Un (uT X.stack) [i,j] H (upd H s.heap.objs.size (.tup [.int (n:Nat),V])) s.heap D:=by
    refine⟨λc a e _ _ d=>l c a d e,λc a e _ _ d=>⟨a.slots,l c a d e⟩,λc a e hn _=>?_,λc a e d=>⟨a,l c a d e⟩,λc zs e=>?_,λc a u e=>?_,λc ps e=>⟨#[],?_⟩⟩
    ·rw[p9 (bo (aK e))];exact hn
    ·rw[p9 (rX e F)];exact e
    ·rw[p9 (rX e F)];exact e
    ·rw[p9 (rX e F),e];simp
   have hok:HOk X.prog X.w (upd H s.heap.objs.size (.tup [.int (n:Nat),V])) D:=by
    intro c u' e;by_cases d:c=s.heap.objs.size
    ·subst d;rw[rq] at e;cases e;exact⟨by show 2<=xc;decide,[.int (n:Nat) To,x],.cons ⟨_,rfl⟩ (.cons rx .nil),⟨_,xO,rfl,⟨_,rfl⟩,rfl⟩⟩
    ·rw[p9 d] at e;refine(I1.hok c u' e).stay (λ_ _ _ q=>q) (λp q=>?_) λp zs q=>?_
     ·by_cases R:p=s.heap.objs.size
      ·subst R;rw[F] at q;cases q
      ·rw[p9 R];exact q
     ·by_cases R:p=s.heap.objs.size
      ·subst R;rw[F] at q;cases q
      ·rw[p9 R];exact q
   exact I.call (t':=tk) (d':=s.drawn) un hok I.bare λb r=>let ⟨_,U,_,f3,f4,f5⟩:=C b r;⟨f3,U,f4,f5⟩
  refine⟨.ref s.heap.objs.size,_,I2,rfl,⟨_,V,F,rfl,yx,rfl⟩,⟨⟨_,by exact_mod_cast e1⟩,?_⟩,λb r=>?_⟩
  ·exact u1 _ _ (Z.but q2 e2.extBut ne)
  ·rw[p9 (bL (nb b r))];exact(C b r).1
 ·intro X G L M d n f s O H E I C t y;have y:J.stop n H:=y;obtain⟨⟨o,z⟩,B⟩:=t;obtain⟨fp,m,Pv,T,Z,Y,u1,Dc,qH,y1,U⟩:=N.got X G L M n f s O H I (C j 'k') B (.inr y);subst G L M;refine ZL (I.ok.hd d) Z z Y (qH y) λW eb=>⟨rfl,?_⟩;refine Inv.turns (t':=s.toks) [i,j] I (λc a d e=>?_) C;simp only[am,aW,or_false,not_or] at d;exact eb c a d.2 e
def ya(ds:List D):List D:=ds.zipIdx.map λq=>.tup [.int (q.2:Nat),q.1]
def R6(ds:List D)(i:Nat):(ya ds)[i]?=(ds[i]?).map λd=>D.tup [.int (i:Nat),d]:=by unfold ya;rw[be,List.getElem?_zipIdx];cases ds[i]?<;>simp
def oG.enum(l:oG K J (.val ds) H XV μ):oG K (UW J) (.val (ya ds)) H XV μ:=by
 intro a b e j m c i;have f:match ds[i]? with|some d=>J.go i b/\∀x g,J.yld i b x g->Ext b e g e/\oB K g a e j/\Y2 K g a e d x|none=>J.stop i b:=l a b e j m c i
 show match (ya ds)[i]? with|some d=>_|none=>_
 rw[R6];cases k:ds[i]? with
 |none=>rw[k] at f;exact f
 | some d1=>
  rw[k] at f;refine⟨f.1,λv g n=>?_⟩;obtain⟨p,x,h,rfl,o,rfl⟩:=n;exact⟨.laid h,c.laid h,Y2.newT c h (.cons r9 (.cons (f.2 x b o).2.2 .nil))⟩
section
variable{s:ag}
def zcV:br "enumerate" = KF (.type "enumerate"):=by boot_by_name
def Sh(a d:ae)(A:ba)(n:Nat)(s:ag)(Q E:ab->ag->Prop)(h:∃b,ic s.heap a d (n:Nat) b)(q:Q (.ref a) s):ao (ay P w) A (pyIter (.ref a)) Q E s:=by obtain⟨b,h⟩:=h;have c:s.TypeIs (.ref a) "enumerate":=⟨_,h,rfl⟩;refine jX c lr (cw lr c F.entry_enumerate_iter ?_ (F.args_enumerate_iter_1 _));show ao _ _ (ret (.ref a)) _ _ s;exact ai ⟨_,rfl, "enumerate",_,c,fB.lookup,q⟩
end
end DL
namespace DL
open PySem L2
open PyProof.Rows hiding St
section
variable{X:Cx}{Ex:Nat->Hp->Prop}{pos:Pos}{a b c:aT}{ta tb:DE}{Y1:List (ae×Obj)}{H:Hp}{s:ag}{XV μ:List ae}{O:Ow}
def Oj(K:ah):R2:=λx y H Q=>∃a b ys,x=.ref a/\y=.ref b/\rG K H a []/\rG K H b ys/\Q (.ref b) H
def zi2:qI X (dO .Add) (Oj X.K):=by
 intro Y1 s N H x y v u Q I r t h;obtain⟨p,q,P,rfl,rfl,w,z,A⟩:=h;cases r;cases t;obtain⟨B,C,⟨⟨D,E,d,F⟩,k,e,l,f⟩,_⟩:=I.tuple w;obtain⟨m,R,⟨⟨G,J,g,L⟩,n,i,o,j⟩,_⟩:=I.tuple z;have M:B=[]:=by cases C;rfl
 subst M;have e:D=.type "tuple":=e;have i:G=.type "tuple":=i;have f:d=.seq #[] l:=f;have j:g=.seq m.toArray o:=j;subst e;subst i;subst f;subst j;exact jw ⟨_,k,rfl⟩ ⟨_,n,rfl⟩ j9 lU iC iq (hV _ _) (PyProof.Rows.tuple_addW0 p q #[] m.toArray l o E J F L rfl) ⟨k,n,⟨.ref q,H,I,rfl,A⟩⟩
def wY:Ow->D->D->R D:=λO x y=>match x,y with
 |.tup [],.tup ys=>.ok (.tup ys) O
 |x,y=>qP O x y
def zfe:sj X Ex (λx y H Q=>Oj X.K x y H Q\/Js X.K x y H Q) wY:=by
 intro H XV μ O x y v w Q c e d q;unfold wY at q;split at q
 ·rename_i k;have f:=d;unfold Y2 at e d;obtain⟨p,m,rfl,l,g⟩:=e;obtain⟨h,i,rfl,j,n⟩:=d;unfold oC at g;subst g;exact .inl ⟨p,h,i,rfl,rfl,l.sq,j.sq,post.here q c f⟩
 ·exact .inr (Qp H XV μ O _ _ v w Q c e d q)
def Za(d:PD X Ex a ta)(e:PD X Ex b tb):PD X Ex (.BinOp a .Add b pos) (e_ wY ta tb):=w4 (qI.or zi2 PB) zfe d e
end
end DL
namespace DL
open PySem L2
section
end
section
structure zpo(mg:Str->Option ab)(x:Str)(i:Int):Prop where
 ex:∃t,mg x=KF (.int i t)
end
section
variable{X:Cx}{Ex:Nat->Hp->Prop}{pos:Pos}{tg e:aT}{te:DE}
def Dr(g:Tg)(te:DE):DS:=λσ O=>(te σ O).bnS λd O1=>match g.put d σ with
 |some σ'=>.nx σ' O1
 |none=>.bad
def Z0(b:PD X Ex e te)(f:PG X tg (g.rd X.K))(h:jI [tg] e pos.line X.env=pure qh:=by rfl)(i:jJ [tg] e X.env=pure KM:=by rfl)(j:(gK [tg] X.env).map (·.2)=[assign tg X.env]:=by rfl):sC X Ex (.Assign [tg] e pos) (Dr g te):=
 yc (OP b.out f h i j) λk y l O E z H m n q=>rd.goS m n q λd A v o s t x c r p=>by
  cases a:g.put d l with
  |none=>rw[a] at p;exact ak p
  | some σ'=>
   rw[a] at p;exact g.ok2 t r a λu w _=>p u o s .refl w c
end
end DL
namespace DL
open PySem L2 PySem.Spec PyProof.Rows
end DL
namespace DL
open PySem L2 PySem.Spec PyProof.Rows
open Sem (wp)
end DL
namespace DL
open PySem L2 PySem.Spec PyProof.Rows
end DL
namespace DL
open PySem
def XI:br "set" = KF (.type "set"):=by boot_by_name
end DL
namespace DL
open PySem L2
open AutoSeq1 (wpAny_loadPart')
section
variable{X:Cx}{Ex:Nat->Hp->Prop}{b e o:aT}{to:DE}
def Gc:Int->Int->Option D:=λi j=>if 0<=j then KF (.int (i/2 ^ j.toNat)) else KM
def Dt:Int->Int->Option D:=gI k7
def BH:Int->Int->Option D:=gI iG
def zQ:Int->Int->Option D:=gI k8
def YF:sj X Ex (rI (λ_ j=>0<=j) λi j=>.int (i/2 ^ j.toNat)) (fI Gc):=Co λi j d h=>by
 unfold Gc at h;split at h
 ·rename_i a;cases h;exact⟨a,λ_ _ _ _=>r9⟩
 ·cases h
def Zj:sj X Ex (uP λi j=>.int (k7 i j)) (fI Dt):=AQ λi j d h _ _ _ _=>by cases h;exact r9
def XY:sj X Ex (uP λi j=>.int (iG i j)) (fI BH):=AQ λi j d h _ _ _ _=>by cases h;exact r9
def Y7:sj X Ex (uP λi j=>.int (k8 i j)) (fI zQ):=AQ λi j d h _ _ _ _=>by cases h;exact r9
def zdH(l:ae)(xs:Array ab)(n:Nat)(b:ae)(a:Array ab)(m:Nat)(sl:Array (Option ab))(j:¬(!xs.isEmpty&&fX (xs.size+a.size))=qb)(c:xs.size<=xc)(k:xs.size+a.size<=xc+1):
  Meets (dF.«list.extend» ⟨[.ref l,.ref b],[]⟩) (λ_ R s=>s.heap.get? l=KF { cls:=.type "list",data:=.seq xs n }/\s.heap.get? b=KF { cls:=.type "list",data:=.seq a m,slots:=sl }/\R (.ok (.ret .none)) { s with heap:=s.heap.update l (bw λx=>x++a) }):=
 .of_wp λf w A R s h=>by
  obtain⟨q,g,d,r,t⟩:=s;obtain⟨i,p,h⟩:=h;have u:=AutoSeq1.sub_tuple_tuple;have v:=AutoSeq1.sub_list_list;have y:=AutoSeq1.sub_tuple_list;have z:=AutoSeq1.sub_list_tuple;have hz:(xs++a).size<=xc+1:=by rw[gm];exact k
  wp_walk using(gf i rfl (hz:=c) (_hz':=hz)),wpAny_loadPart' i,wpAny_loadPart' p
  exact⟨_,rfl,h⟩
def Vj(K:ah):V->List V->Hp->VK->Prop:=λx vs H Q=>∃l b xs zs,x=.ref l/\vs=[.ref b]/\H l=KF (.lst xs)/\qO K H b zs/\xs.length+zs.length<=xc/\Q .non (upd H l (.lst (xs++zs)))
def Wz:US X "list.extend" (Vj X.K):=by
 intro k s M H x N v O Q I w y h;obtain⟨l,b,P,R,rfl,rfl,m,A,S,q⟩:=h;cases w;obtain⟨u,rfl,B⟩:=y.one;cases B;obtain⟨z,c,n,r,T,e⟩:=I.lstM m;obtain⟨d,p,⟨C,t,D,f,a,g⟩,_⟩:=I.list A;obtain⟨E,i,G,J⟩:=C;have f:E=.type "list":=f;have a:i=KM:=a;have g:G=.seq d.toArray t:=g;subst f;subst a;subst g;have U:=p.length;have j:c.toArray.size+d.toArray.size<=xc:=by rw[aJ,aJ];lia
 have L:¬ (!c.toArray.isEmpty&&fX (c.toArray.size+d.toArray.size))=qb:=by
  rw[zfp j,Bool.and_false];exact ck
 refine call_meets lu ⟨_,e,rfl⟩ F.entry_list_extend (F.args_list_extend_2 _ _)
  (zdH l c.toArray n b d.toArray t J L (by rw[aJ];lia) 'd') ⟨e,D,?_⟩
 refine⟨.non,_,I.lset (its':=c++d) m e 'k' (r.append p) ?_,rfl,q⟩;rw[aw];lia
def wM(to:DE)(t:DA):DE:=λσ O=>(to σ O).bnd λx O1=>match x with
 | .own k=>(t σ O1).bnd λys O2=>match ys,O2[k]? with
  | [y],KF ds=>match rD O2 y with
   |some es=>if ds.length+es.length<=4000000 then .ok .non (O2.set k (ds++es)) else .bad
   |none=>.bad
  |_,_=>.bad
 |_=>.bad
def zev(m:PD X Ex o to)(n:ug X Ex (e::es) t)(s:attributeBase o "extend" X.env (eval o X.env)=eval o X.env:=by rfl)
  (u:((backTo qe (aN (e::es) X.env)).all (λx=>!x.1)&&(backToKw qe (keywordEach [] X.env)).all (λx=>x.1.isSome)&&decide ((e::es).length+([]:List gA).length+(if ([]:List gA).isEmpty then 0 else 1)<30))=qb:=by rfl)
  (z:(apos.endLine==qe.line)=qb:=by rfl) (B:aN (e::es) X.env=(qh,eval e X.env)::aN es X.env:=by rfl) (C:(backTo qe (aN es X.env)).any (·.1)=qh:=by rfl):
  PD X Ex (.Call (.Attribute o "extend" apos) (e::es) [] qe) (wM to t):=
 rM (Jq kE lu PySem.F.type_list_extend Wz m.out n.out s u z B C) λD μ σ O d_ H Q E G q=>rd.go E G q λd O1 v H1 h_ I x g r p=>by
  cases d with
  | own k=>
   have J:=r;unfold Y2 at r;obtain⟨A,rfl,K⟩:=r;obtain⟨ds,L,h1,M,h3⟩:=g.at_ k A K;refine⟨.inl ⟨rfl,L,.of M⟩,uC.go I g p λys O2 ws H2 N e3 P c R a=>?_⟩;split at a
   ·rename_i y S T;split at a
    ·rename_i zs U;obtain⟨V,a⟩:=post.ite a;obtain⟨w,rfl,W⟩:=uj R;have f:N[k]?=KF A:=by
      have:=J.ext P;unfold Y2 at this;obtain⟨A',Y,Z⟩:=this;cases Y;exact Z
     obtain⟨FX,y0,h,i,j⟩:=c.at_ k A f;rw[T] at h;cases h;obtain⟨pb,vz,rfl,sq,l⟩:=vO c W U;refine⟨A,pb,y0,vz,rfl,rfl,i,sq,aI (by rw[<- j.length,<- l.length];exact V) 'u',?_⟩;exact post.ok a (.put (aD f) ⟨_,i⟩) (c.put f (j.append l)) GY
    ·exact ak a
   ·exact ak a
  |_=>exact ak p
end
set_option maxHeartbeats 1000000 in
def zds(q:ZK)(b:ab)(i:q.val=b):
  Meets (dF.«enumerate.__new__» ⟨[.type "enumerate",b],[]⟩) (λ_ R s=>q.pre s.heap/\
   R (.ok (.ret (.ref (s.heap.push q.obj).objs.size))) { s with heap:=(s.heap.push q.obj).push { cls:=.type "enumerate",data:=.fields #[.none,.bool qh,.ref s.heap.objs.size,bO 0,.none,.none] } }):=
 .of_wp λP w A R s h=>by
  obtain⟨a,g,d,c,e⟩:=s;obtain⟨j,h⟩:=h;have l:=sub_enumerate;have f:∀{A:ba}{E:ab->ag->Prop}{Q:ab->ag->Prop},Q (.ref a.objs.size) ⟨a.push q.obj,g,d,c,e⟩->ao (ay P w) A (pyIter b) Q E ⟨a,g,d,c,e⟩:=λ{A E Q}hq=>by rw[<- i];exact q.iter (s:=⟨a,g,d,c,e⟩) j hq
  wp_walk
  refine wpAny_stack_any λm=>ai (?_);split
  ·rename_i k _ _ _ _ _;cases (k==ez "enumerate")
   ·wp_walk using f
    exact⟨_,rfl,h⟩
   ·wp_walk using f
    exact⟨_,rfl,h⟩
  ·wp_walk using f
   exact⟨_,rfl,h⟩
section
variable{P:aP}{w:aY}{A:ba}{E:ab->ag->Prop}{s:ag}
def zbT(q:ZK)(e:q.pre s.heap)
  (h:∀h',ic h' (s.heap.objs.size+1) s.heap.objs.size 0 .none->h'.get? s.heap.objs.size=KF q.obj->(∀b o,s.heap.get? b=KF o->h'.get? b=KF o)->Q (.ref (s.heap.objs.size+1)) { s with heap:=h' }):
  ao (ay P w) A (call (.type "enumerate") [q.val]) Q E s:=by
 refine callType_new F.called_enumerate 'u' (F.typeCall_enumerate_1 _) (F.newCall_enumerate_1 _) (λa=>F.args_object_init_2 a _) F.entry_enumerate_new (zds q _ rfl) ⟨e,?_⟩;have f:q.obj.isFreed=qh:=by cases q<;>rfl
 have c:(s.heap.push q.obj).objs.size=s.heap.objs.size+1:=cx ..;show _/\_;rw[c];have d:ic ((s.heap.push q.obj).push { cls:=.type "enumerate",data:=.fields #[.none,.bool qh,.ref s.heap.objs.size,bO 0,.none,.none] }) (s.heap.objs.size+1) s.heap.objs.size 0 .none:=by
  have q:=aE (s.heap.push q.obj) (o:={ cls:=.type "enumerate",data:=.fields #[.none,.bool qh,.ref s.heap.objs.size,bO 0,.none,.none] }) rfl;rw[c] at q;exact q
 exact⟨⟨_,d,rfl⟩,h _ d (af _ (aE _ f)) λb o x=>af _ (af _ x)⟩
end
def GN(t:DA):DI:=λσ O=>(t σ O).bnd λxs O1=>match xs with
 | [x]=>match xY x with
  |some (.val ds)=>.ok (.val (ya ds)) O1
  |_=>.bad
 |_=>.bad
section
variable{X:Cx}{Ex:Nat->Hp->Prop}{pos:Pos}{a b:aT}{Y1:List (ae×Obj)}{d_:St}{H:Hp}{s:ag}{XV μ:List ae}{O:Ow}
def zdz(o:Gl X "enumerate")(r:X.mg "enumerate" = KM)(u:ug X Ex [a] t)(w:aN [a] X.env=[(qh,eval a X.env)]:=by rfl):
  sM X Ex (.Tuple es' kt pt) (.Call (.Name "enumerate" p) [a] [] pos) (GN t):=by
 refine⟨?_⟩;rintro Y1 s d_ H y I ⟨XV,μ,W,O,z,A,q⟩;refine kC (zV I o r zcV (d9 (pV (u.out pos Y1 s d_ H _ I (uC.go z A q (Q1:=λk e=>∃XV g h f,oB X.K e XV g h/\oC X.K e XV g f k/\
   post Ex X.K (λH' B s J=>oG X.K J s H' XV B) e XV g (match f with|[x]=>(match xY x with|some (.val f)=>.ok (.val (ya f)) h|_=>.bad)|_=>.bad) y)
  λf h k e g Y x i d p=>⟨XV,g,h,f,i,d,p⟩)) λZ c ⟨k,e,j,C,XV,g,h,f,i,d,p⟩=>?_) (by rw[w];rfl) (by rfl)))
 split at p
 ·rename_i x;split at p
  ·rename_i ts D;obtain⟨v,rfl,E⟩:=uj d;obtain⟨u1,rfl,F⟩:=uL C;obtain⟨G,J1,L,M,N,P⟩:=Jt j i E F D;rw[<- L];refine zbT G M λQ l R S=>?_;refine Sh (c.heap.objs.size+1) c.heap.objs.size _ 0 _ _ _ ⟨_,l⟩ ?_;have T:L2.Inv X Y1 d_ e { c with heap:=Q,toks:=c.toks }:=j.kept S;obtain⟨S1,U,V⟩:=P c.heap.objs.size;refine⟨c.heap.objs.size+1,[c.heap.objs.size+1,c.heap.objs.size],_,_,e,rfl,T,zdA _ _ (Nat.succ_ne_self _) U (Sh _ _),⟨⟨_,l⟩,V _ R⟩,λb m=>?_,post.here p i (.enum N)⟩;have n:c.heap.objs.size<=b:=by
    simp only[am,aW,or_false] at m;rcases m with rfl|rfl<;>lia
   exact j.fpOk (H':=e) n (j.hok.fresh n)
  ·exact ak p
 ·exact ak p
end
end DL
namespace TS
open PySem PyProof.Rows
abbrev G1:=Bool->bh->Array bh->Nat->Nat->Nat->StateT bZ Sem (Option Nat)
abbrev M1:=Array bh->Array bh->StateT bZ Sem (Array bh)
def lay(xs:Array bh)(at_:Nat)(m:List bh):Array bh:=m.zipIdx.foldl (λa x=>a.setIfInBounds (at_+x.2) x.1) xs
structure oY where
 g:G1
 lo:M1
 hi:M1
 at_:∀{M:iY}{A:ba}{E:ab->ag->Prop}{s:ag}{i:Nat}{st:bZ}{Q:Bool->bZ->Prop}{sa na pw sb nb H9:Nat}{kb:bh},
  (q8 st)[i]?=KF (sa,na,pw)->(q8 st)[i+1]?=KF (sb,nb,H9)->(q7 st)[sb]?=KF kb->
  wpS M A E s (g qh kb (q7 st) sa na 0) (λr qH=>∃k,r=KF k/\(na-k=0->Q qb qH)/\(na-k≠0->∃ka,(q7 st)[sa+k+(na-k)-1]?=KF ka/\
   wpS M A E s (g qb ka (q7 st) sb nb (nb-1)) (λr2 qv=>∃m,r2=KF m/\(m=0->Q qb qv)/\(m≠0->
    wpS M A E s (if na-k<=m then lo ((q7 st).extract (sa+k) sb) ((q7 st).extract sb (sb+m)) else hi ((q7 st).extract (sa+k) sb) ((q7 st).extract sb (sb+m)))
     (λmg qf=>Q (failedOf qf).isNone (setArr qf (lay (q7 qf) (sa+k) mg.toList))) qv)) qH)) (setPending st (((q8 st).setIfInBounds i (sa,na+nb,pw)).eraseIdxIfInBounds (i+1)))->
  wpS M A E s (mergeAt' i) Q st
def sZ{M:iY}{A:ba}{E:ab->ag->Prop}{s:ag}{st:bZ}{a:Array bh}{i:Nat}{x:bh}{Q:bh->bZ->Prop}(h:a[i]?=KF x)(q:Q x st):wpS M A E s (elem' a i) Q st:=by rw[elem'_eq,h];exact aL q
def Zx{M:iY}{A:ba}{E:ab->ag->Prop}{s:ag}{σ:Type}{st a:σ}{Q:PUnit->σ->Prop}(q:Q ⟨⟩ a):wpS M A E s (set a) Q st:=fR (f:=λ_=>a) q
noncomputable def o3:oY:=by
 apply oY.mk
 case at_=>
  intro M A E s i st Q sa na pw sb nb H9 kb h1 h2 h3 h;show wpS M A E s (get >>= _) Q st;refine aF (gU ?_);rw[show(q8 st)[i]?=_ from h1,show(q8 st)[i+1]?=_ from h2];refine aF (Zx (aF (sZ h3 (aF (dI h ?_)))));rintro _ qH ⟨k,rfl,e0,e1⟩;by_cases hk:na-k=0
  ·show wpS M A E s (if (na-k==0)=qb then _ else _) Q qH;rw[qq (by rw[hk];rfl)];exact aL (e0 hk)
  ·show wpS M A E s (if (na-k==0)=qb then _ else _) Q qH;rw[qM (by simpa using hk)];obtain⟨ka,q1,q2⟩:=e1 hk;refine aF (sZ q1 (aF (dI q2 ?_)));rintro _ qv ⟨m,rfl,f0,f1⟩;by_cases hm:m=0
   ·subst hm;exact aL (f0 rfl)
   ·show wpS M A E s (if (m==0)=qb then _ else _) Q qv;rw[qM (by simpa using hm)];have f2:=f1 hm;by_cases hc:na-k<=m
    ·rw[qq hc] at f2;show wpS M A E s (if na-k<=m then _ else _) Q qv;rw[qq hc];exact aF (dI f2 λmg qf q=>aF (fR (aF (gU (aL q)))))
    ·rw[qM hc] at f2;show wpS M A E s (if na-k<=m then _ else _) Q qv;rw[qM hc];exact aF (dI f2 λmg qf q=>aF (fR (aF (gU (aL q)))))
section
variable{prog:aP}{w:aY}{A:ba}{E:ab->ag->Prop}{s:ag}{κ:a7}{st:bZ}{kd:KT}
def ky(κ:a7)(x:bh):κ.α:=(κ.keyOf x.1).getD κ.dflt
def t5(κ:a7)(x:bh):Prop:=∃a,κ.keyOf x.1=KF a
abbrev Ty{α β:Type}(_:α->β):Type:=β
abbrev KT:Type:=Ty kindOf
def vH(prog:aP)(w:aY)(A:ba)(s:ag)(κ:a7)(kd:KT):Prop:=∀(x y:bh)(E':ab->ag->Prop){Q:Bool->ag->Prop},t5 κ x->t5 κ y->Q (κ.blt (ky κ x) (ky κ y)) s->ao (ay prog w) A (keyLt' kd x.1 y.1) Q E' s
def vH.one(e:κ.OneLt):vH prog w A s κ oneType':=λx y f Q ⟨a,c⟩ ⟨b,d⟩ q=>by
 have g:ky κ x=a:=by unfold ky;rw[c];rfl
 have h:ky κ y=b:=by unfold ky;rw[d];rfl
 rw[g,h] at q;rw[keyLt'_oneType];exact e prog w A f s x.1 y.1 a b c d q
def DR(a:vH prog w A s κ kd)(b:kindOf st=kd)(c:t5 κ x)(d:t5 κ y)(q:Q (KF (κ.blt (ky κ x) (ky κ y))) st):wpS (ay prog w) A E s (lt' x y) Q st:=by rw[lt'_eq];refine aF (gU (aF (jm (fH ?_))));rw[b];exact a x y _ c d ⟨rfl,aL q⟩
def t_(κ:a7)(left:Bool)(key x:bh):Bool:=if left=qb then κ.blt (ky κ x) (ky κ key) else !κ.blt (ky κ key) (ky κ x)
set_option hygiene false in
local macro_rules|`(tactic| walk_at "tail")=>`(tactic| (
 refine aF (dI (cQ (I:=λk c A4=>A4=i_/\∃ lo hi,c=(none,lo,hi)/\lo<=hi/\hi<=n/\hi-lo<=n-k/\(∀ i,i<lo->b i=true)/\(∀ i,hi<=i->i<n->b i=false)) (Q:=λc A4=>A4=i_/\∃ m,c=(none,m,m)/\m<=n/\(∀ i,i<m->b i=true)/\(∀ i,m<=i->i<n->b i=false)) ?_ ?_ ?_) ?_)
 ·rintro k c qv _ xP ⟨rfl,lo,hi,rfl,g1,g2,g3,g4,g5⟩
  show wpS _ _ _ _ (if lo ≥ hi then _ else _) _ qv
  by_cases hc:lo ≥ hi
  ·rw[if_pos hc]
   have:lo=hi:=by lia
   subst this
   exact aL ⟨rfl,lo,rfl,g2,g4,g5⟩
  ·rw[if_neg hc]
   refine aF (one (lo+(hi-lo)/2) (by lia) ?_)
   cases tX:b (lo+(hi-lo)/2) with
   | true=>exact aL ⟨rfl,lo+(hi-lo)/2+1,hi,rfl,by lia,g2,by lia,λi vZ=>mono i (lo+(hi-lo)/2) (by lia) (by lia) tX,g5⟩
   | false=>exact aL ⟨rfl,lo,lo+(hi-lo)/2,rfl,by lia,by lia,by lia,g4,λi vZ rT=>down (lo+(hi-lo)/2) i vZ (by lia) rT tX⟩
 ·rintro c qv ⟨rfl,lo,hi,rfl,g1,g2,g3,g4,g5⟩
  rw[d0] at g3
  have:lo=hi:=by lia
  subst this
  exact⟨rfl,lo,rfl,g2,g4,g5⟩
 ·exact⟨rfl,lo,hi,rfl,hl,hn,by lia,ht,hf⟩
 ·rintro c qv ⟨rfl,m,rfl,g2,g4,g5⟩
  exact aL (q m g2 g4 g5)))
def zhN(ho:vH prog w A s κ kd){left:Bool}{key:bh}{arr:Array bh}{base n hint:Nat}{b:Nat->Bool}(hk:kindOf st=kd)(sT:t5 κ key)(hb:∀i,i<n->∃x,arr[base+i]?=KF x/\t5 κ x/\t_ κ left key x=b i)(hh:hint<n)(mono:∀i j,i<=j->j<n->b j=qb->b i=qb)
  {Q:Option Nat->bZ->Prop} (q:∀k,k<=n->(∀i,i<k->b i=qb)->(∀i,k<=i->i<n->b i=qh)->Q (KF k) st):wpS (ay prog w) A E s ((oY.g o3) left key arr base n hint) Q st:=by
 have one:∀i,i<n->∀{Q:Option Bool->bZ->Prop},Q (KF (b i)) st->wpS (ay prog w) A E s (elem' arr (base+i) >>= λx=>if left=qb then lt' x key else lt' key x >>= λr=>pure (r.map λx=>!x)) Q st:=λi hi Q hq=>by
  obtain⟨x,h1,h2,h3⟩:=hb i hi;refine aF (sZ h1 ?_);unfold t_ at h3;cases left with
  | true=>
   rw[qq rfl] at h3;rw[qq rfl];exact DR ho hk h2 sT (by rw[h3];exact hq)
  | false=>
   rw[qM 'u'] at h3;rw[qM 'u'];exact aF (DR ho hk sT h2 (aL (by show Q (KF (!κ.blt (ky κ key) (ky κ x))) st;rw[h3];exact hq)))
 have down:∀i j,i<=j->i<n->j<n->b i=qh->b j=qh:=λi j Bt hi hj hf=>by
  cases e:b j with
  |false=>rfl
  |true=>rw[mono i j Bt hj e] at hf;cases hf
 show wpS _ _ _ _ (_ >>= _) Q st;refine aF (one hint hh ?_);cases Uq:b hint with
 | true=>
  refine aF (dI (cQ (I:=λk c i_=>i_=st/\∃l o,c=(KM,l,o)/\l<o/\k+1<=o/\hint+l<n/\b (hint+l)=qb) (Q:=λc i_=>i_=st/\∃l o,c=(KM,l,o)/\l<o/\hint+l<n/\b (hint+l)=qb/\(hint+o<n->b (hint+o)=qh)) ?_ ?_ ?_) ?_)
  ·rintro k c i_ _ xP ⟨rfl,l,o,rfl,h1,h2,h3,h4⟩;show wpS _ _ _ _ (if o ≥ n-hint then _ else _) _ i_;by_cases hc:o ≥ n-hint
   ·rw[qq hc];exact aL ⟨rfl,l,o,rfl,h1,h3,h4,λh=>by lia⟩
   ·rw[qM hc];refine aF (one (hint+o) 'd' ?_);cases FI:b (hint+o) with
    |true=>exact aL ⟨rfl,o,2*o+1,rfl,by lia,by lia,by lia,FI⟩
    |false=>exact aL ⟨rfl,l,o,rfl,h1,h3,h4,λ_=>FI⟩
  ·rintro c i_ ⟨rfl,l,o,rfl,h1,h2,h3,h4⟩;exact⟨rfl,l,o,rfl,h1,h3,h4,λh=>by rw[d0] at h2;lia⟩
  ·exact⟨rfl,0,1,rfl,by lia,by lia,by lia,Uq⟩
  ·rintro c i_ ⟨rfl,l,o,rfl,h1,h3,h4,h5⟩;have hl:hint+l+1<=hint+min o (n-hint):=by lia
   have hn:hint+min o (n-hint)<=n:=by lia
   have ht:∀i,i<hint+l+1->b i=qb:=λi hi=>mono i (hint+l) 'd' h3 h4;have hf:∀i,hint+min o (n-hint)<=i->i<n->b i=qh:=λi hi rT=>by
    have:hint+o<n:=by lia
    exact down (hint+o) i 'd' this rT (h5 this)
   show wpS _ _ _ _ (forIn [:n] (KM,hint+l+1,hint+min o (n-hint)) _ >>= _) Q i_;generalize hint+l+1=lo at *;generalize hint+min o (n-hint)=hi at *;walk_at "tail"
 | false=>
  refine aF (dI (cQ (I:=λk c i_=>i_=st/\∃l o,c=(KM,l,o)/\l<o/\k+1<=o/\l<=hint/\b (hint-l)=qh) (Q:=λc i_=>i_=st/\∃l o,c=(KM,l,o)/\l<o/\l<=hint/\b (hint-l)=qh/\(o<=hint->b (hint-o)=qb)) ?_ ?_ ?_) ?_)
  ·rintro k c i_ _ xP ⟨rfl,l,o,rfl,h1,h2,h3,h4⟩;show wpS _ _ _ _ (if o ≥ hint+1 then _ else _) _ i_;by_cases hc:o ≥ hint+1
   ·rw[qq hc];exact aL ⟨rfl,l,o,rfl,h1,h3,h4,λh=>by lia⟩
   ·rw[qM hc];refine aF (one (hint-o) 'd' ?_);cases FI:b (hint-o) with
    |true=>exact aL ⟨rfl,l,o,rfl,h1,h3,h4,λ_=>FI⟩
    |false=>exact aL ⟨rfl,o,2*o+1,rfl,by lia,by lia,by lia,FI⟩
  ·rintro c i_ ⟨rfl,l,o,rfl,h1,h2,h3,h4⟩;exact⟨rfl,l,o,rfl,h1,h3,h4,λh=>by rw[d0] at h2;lia⟩
  ·exact⟨rfl,0,1,rfl,by lia,by lia,by lia,Uq⟩
  ·rintro c i_ ⟨rfl,l,o,rfl,h1,h3,h4,h5⟩;have hl:hint+1-min o (hint+1)<=hint-l:=by lia
   have hn:hint-l<=n:=by lia
   have ht:∀i,i<hint+1-min o (hint+1)->b i=qb:=λi hi=>by
    have:o<=hint:=by lia
    exact mono i (hint-o) 'd' 'd' (h5 this)
   have hf:∀i,hint-l<=i->i<n->b i=qh:=λi hi rT=>down (hint-l) i hi 'd' rT h4;show wpS _ _ _ _ (forIn [:n] (KM,hint+1-min o (hint+1),hint-l) _ >>= _) Q i_;generalize hint+1-min o (hint+1)=lo at *;generalize hint-l=hi at *;walk_at "tail"
end
section
variable{κ:a7}
def Le(κ:a7)(x y:bh):Prop:=κ.blt (ky κ y) (ky κ x)=qh
def Le.refl(x:bh):Le κ x x:=κ.irrefl _
def Le.trans(a:Le κ x y)(b:Le κ y z):Le κ x z:=by
 unfold Le at *;cases e:κ.blt (ky κ z) (ky κ x) with
 |false=>rfl
 | true=>
  rcases κ.negTrans _ (ky κ y) _ e with h|h
  ·rw[b] at h;cases h
  ·rw[a] at h;cases h
def Le.of(h:κ.blt (ky κ x) (ky κ y)=qb):Le κ x y:=by
 unfold Le;cases e:κ.blt (ky κ y) (ky κ x) with
 |false=>rfl
 | true=>
  have:=κ.trans _ _ _ h e;rw[κ.irrefl] at this;cases this
def qC(κ:a7)(l:List bh):Prop:=l.Pairwise (Le κ)
structure Out(κ:a7)(a b r:List bh):Prop where
 perm:r.Perm (a++b)
 srt:qC κ r
structure Mg(κ:a7)(a b o:List bh)(i j:Nat):Prop where
 perm:o.Perm (a.take i++b.take j)
 srt:qC κ o
 la:∀x∈o,∀y∈a.drop i,Le κ x y
 lb:∀x∈o,∀y∈b.drop j,Le κ x y
variable{a b o:List bh}{i j:Nat}
def Mg.len(h:Mg κ a b o i j)(c:i<=a.length)(d:j<=b.length):o.length=i+j:=by rw[h.perm.length_eq,aw,bT,bT];lia
def QP{α:Type}(l:List α)(i k:Nat){x:α}(h:x∈l.drop (i+k)):x∈l.drop i:=by rw[<- eF] at h;exact cZ h
def qC.take_drop(h:qC κ l)(k:Nat):∀x∈l.take k,∀y∈l.drop k,Le κ x y:=by unfold qC at h;rw[<- cn k l,bG] at h;exact h.2.2
def Mg.addA(h:Mg κ a b o i j)(f:qC κ a)(k:Nat)(d:∀y∈(a.drop i).take k,∀z∈b.drop j,Le κ y z):Mg κ a b (o++(a.drop i).take k) (i+k) j:=by
 have e:qC κ (a.drop i):=f.sublist (dh i a);refine⟨?_,?_,λx hx y c=>?_,λx hx y c=>?_⟩
 ·rw[nZ];refine(h.perm.append_right _).trans ?_;rw[aZ,aZ];exact(cR).append_left _
 ·unfold qC;rw[bG];exact⟨h.srt,e.sublist (cS k _),λx hx y c=>h.la x hx y (cJ c)⟩
 ·rcases aQ.mp hx with hx|hx
  ·exact h.la x hx y (QP a i k c)
  ·exact e.take_drop k x hx y (by rw[eF];exact c)
 ·rcases aQ.mp hx with hx|hx
  ·exact h.lb x hx y c
  ·exact d x hx y c
def Mg.addB(h:Mg κ a b o i j)(f:qC κ b)(k:Nat)(d:∀y∈(b.drop j).take k,∀z∈a.drop i,Le κ y z):Mg κ a b (o++(b.drop j).take k) i (j+k):=by
 have e:qC κ (b.drop j):=f.sublist (dh j b);refine⟨?_,?_,λx hx y c=>?_,λx hx y c=>?_⟩
 ·rw[nZ];refine(h.perm.append_right _).trans ?_;rw[aZ]
 ·unfold qC;rw[bG];exact⟨h.srt,e.sublist (cS k _),λx hx y c=>h.lb x hx y (cJ c)⟩
 ·rcases aQ.mp hx with hx|hx
  ·exact h.la x hx y c
  ·exact d x hx y c
 ·rcases aQ.mp hx with hx|hx
  ·exact h.lb x hx y (QP b j k c)
  ·exact e.take_drop k x hx y (by rw[eF];exact c)
def Mg.fin(h:Mg κ a b o i j)(d:qC κ a)(e:qC κ b)(f:∀x∈a.drop i,∀y∈b.drop j,Le κ x y):Out κ a b (o++a.drop i++b.drop j):=by
 refine⟨?_,?_⟩
 ·refine((h.perm.append_right _).append_right _).trans ?_
  conv=>rhs;rw[<- cn i a,<- cn j b]
  simp only[aZ];refine fC _ ?_;rw[<- aZ,<- aZ];exact cR.append_right _
 ·unfold qC;rw[bG,bG];refine⟨⟨h.srt,d.sublist (dh i a),h.la⟩,e.sublist (dh j b),λx g y c=>?_⟩;rcases aQ.mp g with h'|h'
  ·exact h.lb x h' y c
  ·exact f x h' y c
def Mg.fin'(h:Mg κ a b o i j)(c:qC κ a)(d:qC κ b)(e:∀y∈b.drop j,∀x∈a.drop i,Le κ y x):Out κ a b (o++b.drop j++a.drop i):=by have f:Mg κ b a o j i:=⟨h.perm.trans cR,h.srt,h.lb,h.la⟩;have:=f.fin d c e;exact⟨this.perm.trans cR,this.srt⟩
def z7{l:List bh}{i:Nat}{x:bh}(h:l[i]?=KF x):(l.drop i).take 1=[x]:=by obtain⟨c,rfl⟩:=aq.mp h;rw[c9 c];rfl
def Cp(h:qC κ l)(e:l[i]?=KF x):∀y∈l.drop i,Le κ x y:=by
 obtain⟨c,rfl⟩:=aq.mp e;intro y hy;rw[c9 c] at hy;have d:qC κ (l.drop i):=h.sublist (dh i l);rw[c9 c] at d;rcases am.mp hy with rfl|hy
 ·exact Le.refl _
 ·exact(bP.mp d).1 y hy
end
structure oJ(st i_:bZ):Prop where
 kind:kindOf i_=kindOf st
 arr:q7 i_=q7 st
 pend:q8 i_=q8 st
 failed:failedOf i_=failedOf st
def oJ.refl(st:bZ):oJ st st:=⟨rfl,rfl,rfl,rfl⟩
def oJ.trans{a b c:bZ}(h:oJ a b)(g:oJ b c):oJ a c:=⟨g.kind.trans h.kind,g.arr.trans h.arr,g.pend.trans h.pend,g.failed.trans h.failed⟩
section
variable{prog:aP}{w:aY}{A:ba}{E:ab->ag->Prop}{s:ag}{κ:a7}{st:bZ}{kd:KT}
def we{a:Array bh}{i:Nat}(h:i<a.size):∃x,a[i]?=KF x/\a.toList[i]?=KF x:=⟨a[i],by simp[h],by simp[h]⟩
def Py{M:iY}{f:bZ->bZ}{Q:PUnit->bZ->Prop}(b:oJ st (f st))(h:∀a,oJ st a->Q ⟨⟩ a):wpS M A E s (modify f) Q st:=fR (h _ b)
def GO(a:Array bh)(i:Nat):(a.extract i).toList=a.toList.drop i:=by simp only[lL,j6];exact cN 'k'
def JD(a:Array bh)(i k:Nat):(a.extract i (i+k)).toList=(a.toList.drop i).take k:=by simp
def Oi{a b:List bh}{c:Array bh}{d e:Nat}{x:bh}(m:Mg κ a b c.toList d e)(g:qC κ a)(f:a[d]?=KF x)(h:∀z∈b.drop e,Le κ x z):Mg κ a b (c.push x).toList (d+1) e:=by have:=m.addA g 1 (by rw[z7 f];intro y i;rw[dE.mp i];exact h);rw[z7 f] at this;rw[eQ];exact this
def N_{a b:List bh}{c:Array bh}{d e:Nat}{x:bh}(m:Mg κ a b c.toList d e)(g:qC κ b)(f:b[e]?=KF x)(h:∀z∈a.drop d,Le κ x z):Mg κ a b (c.push x).toList d (e+1):=by have:=m.addB g 1 (by rw[z7 f];intro y i;rw[dE.mp i];exact h);rw[z7 f] at this;rw[eQ];exact this
def Cz(C:vH prog w A s κ kd){left:Bool}{key:bh}{c:Array bh}{base n hint:Nat}{L:List bh}(B:(c.toList.drop base).take n=L)(D:kindOf st=kd)(F:t5 κ key)(O:base+n<=c.size)(G:hint<n)(r:∀x∈L,t5 κ x)(t:qC κ L)
  {Q:Option Nat->bZ->Prop} (q:∀k,k<=n->(∀x∈L.take k,t_ κ left key x=qb)->(∀x∈L.drop k,t_ κ left key x=qh)->Q (KF k) st):wpS (ay prog w) A E s ((oY.g o3) left key c base n hint) Q st:=by
 have H:L.length=n:=by
  rw[<- B,bT,cu,aB];lia
 have l:∀i,i<n->∃x,c[base+i]?=KF x/\L[i]?=KF x:=λi d=>by
  obtain⟨x,u,f⟩:=we (a:=c) (i:=base+i) 'd';refine⟨x,u,?_⟩;rw[<- B,fV d,List.getElem?_drop];exact f
 refine zhN C (b:=λi=>match L[i]? with|some x=>t_ κ left key x|none=>qh) D F (λi d=>?_) G (λi j P I e=>?_) λk J K M=>q k J (λx m=>?_) λx m=>?_
 ·obtain⟨x,u,f⟩:=l i d;exact⟨x,u,r x (aD f),by rw[f]⟩
 ·obtain⟨x,_,m⟩:=l i 'd';obtain⟨y,_,p⟩:=l j I;rw[p] at e;rw[m]
  replace e:t_ κ left key y=qb:=e
  show t_ κ left key x=qb;by_cases h:i=j
  ·subst h;rw[m] at p;cases p;exact e
  have o:Le κ x y:=by
   obtain⟨v,rfl⟩:=aq.mp m;obtain⟨z,rfl⟩:=aq.mp p;exact dU.mp t i j v z 'd'
  unfold t_ at e ⊢;cases left with
  | true=>
   rw[qq rfl] at e ⊢;rcases κ.negTrans _ (ky κ x) _ e with h|h
   ·rw[show κ.blt (ky κ y) (ky κ x)=qh from o] at h;cases h
   ·exact h
  | false=>
   rw[qM 'u'] at e ⊢;have N:Le κ y key:=by unfold Le;simpa using e
   have:Le κ x key:=o.trans N;unfold Le at this;rw[this];rfl
 ·obtain⟨i,d,e⟩:=l7 m;have v:i<k:=by rw[bT] at d;lia
  have:=K i v;have f:L[i]?=KF x:=by rw[<- e,mO];exact al (by rw[bT] at d;lia)
  rw[f] at this;exact this
 ·obtain⟨i,d,e⟩:=l7 m;rw[cu] at d;have:=M (k+i) 'd' 'd';have f:L[k+i]?=KF x:=by rw[<- e,mP];exact al 'd'
  rw[f] at this;exact this
def Oo{α:Type}{G:Prop}(P:α->Prop)(h:(∀x,P x)->G)(k:∀x,P x):G:=h k
def Jl{α a:Type}{G:Prop}{H:α->a->Prop}(P:α->a->Prop)(h:(∀x y,H x y->P x y)->G)(k:∀x y,H x y->P x y):G:=h k
def Xh(ho:vH prog w A s κ kd){a b:Array bh}(hk:kindOf st=kd)(ha:∀x∈a.toList,t5 κ x)(hb:∀x∈b.toList,t5 κ x)(U:qC κ a.toList)(R:qC κ b.toList)(pa:1<=a.size)(pb:1<=b.size)
  (h0:∀x∈b.toList.take 1,∀y∈a.toList,Le κ x y) (hl:∀y∈b.toList,∀x∈a.toList.drop (a.size-1),Le κ y x) {Q:Array bh->bZ->Prop} (q:∀r D,oJ st D->Out κ a.toList b.toList r.toList->Q r D):wpS (ay prog w) A E s ((oY.lo o3) a b) Q st:=by
 have LJ:a.toList.length=a.size:=aB;have LH:b.toList.length=b.size:=aB;have sX:∀{l:Array bh}{d f:Nat},Mg κ a.toList b.toList l.toList d f->(f=b.size\/d=a.size)->Out κ a.toList b.toList (l++a.extract d++b.extract f).toList:=λ{l d f}m h=>by
  rw[bQ,bQ,GO,GO];refine m.fin U R λx n y N=>?_;rcases h with rfl|rfl
  ·rw[fq 'd'] at N;cases N
  ·rw[fq 'd'] at n;cases n
 have sW:∀{l:Array bh}{d f:Nat},Mg κ a.toList b.toList l.toList d f->d+1=a.size->Out κ a.toList b.toList (l++b.extract f++a.extract d).toList:=λ{l d f}m h=>by
  rw[bQ,bQ,GO,GO];refine m.fin' U R λy N x n=>hl y (cZ N) x ?_;have:a.size-1=d:=by lia
  rw[this];exact n
 obtain⟨b0,g0,l0⟩:=we (a:=b) (i:=0) 'd';have m0:Mg κ a.toList b.toList (#[b0]:Array bh).toList 0 1:=by
  have e:b.toList.take 1=[b0]:=by
   have:=z7 l0;simpa using this
  refine⟨by rw[e];exact eG _,kG _ _,λx n y N=>h0 x (by rw[e];exact n) y N,λx n y N=>?_⟩;have:x=b0:=by simpa using n
  subst this;exact Cp R l0 y (cZ N)
 show wpS _ _ _ _ (_ >>= _) Q st;refine aF (jm (dR ⟨rfl,aF (sZ g0 ?_)⟩));by_cases c1:1=b.size
 ·show wpS _ _ _ _ (if (1==b.size)=qb then _ else _) Q st;rw[qq (by simpa using c1)];exact aL (q _ st (oJ.refl st) (sX m0 (.inl c1)))
 show wpS _ _ _ _ (if (1==b.size)=qb then _ else _) Q st;rw[qM (by simpa using c1)];by_cases c2:1=a.size
 ·show wpS _ _ _ _ (if (0+1==a.size)=qb then _ else _) Q st;rw[qq (by simpa using c2)];exact aL (q _ st (oJ.refl st) (sW m0 'd'))
 show wpS _ _ _ _ (if (0+1==a.size)=qb then _ else _) Q st;rw[qM (by simpa using c2)];refine aF (gU (aF (dI (cQ (I:=λk c D=>oJ st D/\∃l d f G,c=(KM,l,d,f,G)/\Mg κ a.toList b.toList l.toList d f/\d+1<a.size/\f<b.size/\k+1<=l.size) (Q:=λc D=>oJ st D/\∃r,c.1=KF r/\Out κ a.toList b.toList r.toList) ?_ ?_ ?_) ?_)))
 ·rintro k c qH _ hkt ⟨sm,l,d,f,G,rfl,m,J,F,c5⟩;have Fz:kindOf qH=kd:=sm.kind.trans hk;refine aF (dI (cQ (I:=λj c D=>D=qH/\∃o d f t v,c=(KM,o,d,f,t,v)/\Mg κ a.toList b.toList o.toList d f/\d+1<a.size/\f<b.size/\l.size+j<=o.size) (Q:=λc D=>D=qH/\((∃r,c.1=KF r/\Out κ a.toList b.toList r.toList) \/ ∃o d f t v,c=(KM,o,d,f,t,v)/\Mg κ a.toList b.toList o.toList d f/\d+1<a.size/\f<b.size/\l.size+1<=o.size)) ?_ ?_ ?_) ?_)
  ·rintro j c qv _ Mz ⟨rfl,o,d,f,t,v,rfl,m,J,F,c6⟩;obtain⟨y,gy,X⟩:=we (a:=b) F;obtain⟨x,gx,S⟩:=we (a:=a) (i:=d) 'd';refine aF (sZ gy (aF (sZ gx (aF (DR ho Fz (hb y (aD X)) (ha x (aD S)) ?_)))));cases hc:κ.blt (ky κ y) (ky κ x) with
   | true=>
    have Y:=N_ m R X λz K=>(Le.of hc).trans (Cp U S z K);refine aF (sZ gy ?_);show wpS _ _ _ _ (if (f+1==b.size)=qb then _ else _) _ qv;by_cases e:f+1=b.size
    ·rw[qq (by simpa using e)];exact aL ⟨rfl,.inl ⟨_,rfl,sX Y (.inl e)⟩⟩
    ·rw[qM (by simpa using e)];split
     ·exact aL ⟨rfl,.inr ⟨o.push y,d,f+1,0,v+1,rfl,Y,J,by lia,by rw[cr];lia⟩⟩
     ·exact aL ⟨rfl,o.push y,d,f+1,0,v+1,rfl,Y,J,by lia,by rw[cr];lia⟩
   | false=>
    have Y:=Oi m U S λz K=>Le.trans (show Le κ x y from hc) (Cp R X z K);refine aF (sZ gx ?_);show wpS _ _ _ _ (if (d+1+1==a.size)=qb then _ else _) _ qv;by_cases e:d+1+1=a.size
    ·rw[qq (by simpa using e)];exact aL ⟨rfl,.inl ⟨_,rfl,sW Y e⟩⟩
    ·rw[qM (by simpa using e)];split
     ·exact aL ⟨rfl,.inr ⟨o.push x,d+1,f,t+1,0,rfl,Y,by lia,F,by rw[cr];lia⟩⟩
     ·exact aL ⟨rfl,o.push x,d+1,f,t+1,0,rfl,Y,by lia,F,by rw[cr];lia⟩
  ·rintro c qv ⟨rfl,o,d,f,t,v,rfl,m,J,F,c6⟩;have:=m.len 'd' 'd';rw[aB] at this;rw[d0] at c6;lia
  ·exact⟨rfl,l,d,f,0,0,rfl,m,J,F,by lia⟩
  rintro c qv ⟨rfl,h⟩;rcases h with⟨r,e,hr⟩|⟨o,d,f,t,v,rfl,m,J,F,c6⟩
  ·obtain⟨c,c'⟩:=c;dsimp only at e;subst e;exact aL ⟨sm,r,rfl,hr⟩
  refine aF (jm (dR ⟨rfl,aF (dI (cQ (I:=λj c D=>oJ st D/\∃B d f G t v,c=(KM,B,d,f,G,t,v)/\Mg κ a.toList b.toList B.toList d f/\d+1<a.size/\f<b.size/\o.size+j<=B.size) (Q:=λc D=>oJ st D/\((∃r,c.1=KF r/\Out κ a.toList b.toList r.toList) \/ ∃B d f G t v,c=(KM,B,d,f,G,t,v)/\Mg κ a.toList b.toList B.toList d f/\d+1<a.size/\f<b.size/\o.size<=B.size)) ?_ ?_ ?_) ?_)⟩))
  ·rintro j c qf _ Mz ⟨T,B,d,f,G,t,v,rfl,m,J,F,c6⟩;obtain⟨y,gy,X⟩:=we (a:=b) F;have N:=hb y (aD X);have BG:∀M,oJ st M->∀{Q:Option Nat->bZ->Prop},(∀k,k<=a.size-d->(∀x∈(a.toList.drop d).take k,Le κ x y)->(∀x∈a.toList.drop (d+k),Le κ y x)->Q (KF k) M)->wpS (ay prog w) A E s ((oY.g o3) qh y a d (a.size-d) 0) Q M:=λM s4 Q h=>
    Cz ho (L:=a.toList.drop d) (cN (by rw[cu];lia)) (s4.kind.trans hk) N 'd' 'd' (λx n=>ha x (cZ n)) (U.sublist (dh d _)) λk h1 h2 h3=>h k h1 (λx n=>by
     have:=h2 x n;unfold t_ at this;rw[qM 'u'] at this;unfold Le;simpa using this) λx n=>by
     rw[<- eF] at n;have:=h3 x n;unfold t_ at this;rw[qM 'u'] at this;exact Le.of (by simpa using this)
   have BF:∀x{C:Nat},a.toList[C]?=KF x->∀M,oJ st M->f+1<b.size->∀{Q:Option Nat->bZ->Prop},(∀k,k<=b.size-(f+1)->(∀z∈(b.toList.drop (f+1)).take k,Le κ z x)->(∀z∈b.toList.drop (f+1+k),Le κ x z)->Q (KF k) M)->wpS (ay prog w) A E s ((oY.g o3) qb x b (f+1) (b.size-(f+1)) 0) Q M:=λx C S M s4 h4 Q h=>
    Cz ho (L:=b.toList.drop (f+1)) (cN (by rw[cu];lia)) (s4.kind.trans hk) (ha x (aD S)) 'd' 'd' (λx n=>hb x (cZ n)) (R.sublist (dh _ _)) λk h1 h2 h3=>h k h1 (λz K=>by
     have:=h2 z K;unfold t_ at this;rw[qq rfl] at this;exact Le.of this) λz K=>by
     rw[<- eF] at K;have:=h3 z K;unfold t_ at this;rw[qq rfl] at this;exact this
   show wpS _ _ _ _ (if G>1 then _ else _) _ qf;apply Oo (α:=Nat)
   ·intro p;split
    ·generalize G-1=EX;exact p EX
    ·exact p G
   intro EX;refine aF (Py ⟨rfl,rfl,rfl,rfl⟩ λM s4=>aF (sZ gy (aF (BG M (T.trans s4) ?_))));have V:=T.trans s4;intro k xP kt kf;have m3:=m.addA U k λx n z K=>(kt x n).trans (Cp R X z K);rw[<- JD,<- bQ] at m3;have n3:B.size<=(B++a.extract d (d+k)).size:=by rw[gm];lia
   show wpS _ _ _ _ (if k>0 then _ else _) _ _;apply Jl (H:=λ(O:Array bh)(C:Nat)=>Mg κ a.toList b.toList O.toList C f/\B.size<=O.size/\C+1<a.size/\∀x∈a.toList.drop C,Le κ y x)
   ·intro p;by_cases wz:k>0
    ·rw[qq wz];show wpS _ _ _ _ (if (d+k+1==a.size)=qb then _ else _) _ _;by_cases e1:d+k+1=a.size
     ·rw[qq (by simpa using e1)];exact aL ⟨V,.inl ⟨_,rfl,sW m3 e1⟩⟩
     ·rw[qM (by simpa using e1)];show wpS _ _ _ _ (if (d+k==a.size)=qb then _ else _) _ _;by_cases e2:d+k=a.size
      ·rw[qq (by simpa using e2)];exact aL ⟨V,.inl ⟨_,rfl,sX m3 (.inr e2)⟩⟩
      ·rw[qM (by simpa using e2)];have Z:=fw m3 (fw n3 (fw (show d+k+1<a.size by lia) kf));generalize B++a.extract d (d+k)=O at Z ⊢;generalize d+k=C at Z ⊢;exact p O C Z
    ·rw[qM wz];have vG:k=0:=by lia
     rw[vG,km] at kf;exact p B d ⟨m,aC _,J,kf⟩
   rintro O C ⟨m3,n3,f3,Bc⟩;have m4:=N_ m3 R X Bc;refine aF (sZ gy ?_);show wpS _ _ _ _ (if (f+1==b.size)=qb then _ else _) _ _;by_cases e3:f+1=b.size
   ·rw[qq (by simpa using e3)];exact aL ⟨V,.inl ⟨_,rfl,sX m4 (.inl e3)⟩⟩
   ·rw[qM (by simpa using e3)];obtain⟨x,gx,S⟩:=we (a:=a) (i:=C) 'd';refine aF (sZ gx (aF (BF x S _ V 'd' ?_)));intro P tw LL Ag;have m5:=m4.addB R P λz K u hu=>(LL z K).trans (Cp U S u hu);rw[<- JD,<- bQ] at m5;have n5:O.size+1<=(O.push y++b.extract (f+1) (f+1+P)).size:=by rw[gm,cr];lia
    show wpS _ _ _ _ (if P>0 then _ else _) _ _;apply Jl (H:=λ(vD:Array bh)(W:Nat)=>Mg κ a.toList b.toList vD.toList C W/\O.size+1<=vD.size/\W<b.size/\∀z∈b.toList.drop W,Le κ x z)
    ·intro p;by_cases wz:P>0
     ·rw[qq wz];show wpS _ _ _ _ (if (f+1+P==b.size)=qb then _ else _) _ _;by_cases e4:f+1+P=b.size
      ·rw[qq (by simpa using e4)];exact aL ⟨V,.inl ⟨_,rfl,sX m5 (.inl e4)⟩⟩
      ·rw[qM (by simpa using e4)];have Z:=fw m5 (fw n5 (fw (show f+1+P<b.size by lia) Ag));generalize O.push y++b.extract (f+1) (f+1+P)=vD at Z ⊢;generalize f+1+P=W at Z ⊢;exact p vD W Z
     ·rw[qM wz];have vG:P=0:=by lia
      rw[vG,km] at Ag;exact p (O.push y) (f+1) ⟨m4,by rw[cr];exact aC _,by lia,Ag⟩
    rintro vD W ⟨m5,n5,f5,Ag⟩;have m6:=Oi m5 U S Ag;refine aF (sZ gx ?_);show wpS _ _ _ _ (if (C+1+1==a.size)=qb then _ else _) _ _;by_cases e5:C+1+1=a.size
    ·rw[qq (by simpa using e5)];exact aL ⟨V,.inl ⟨_,rfl,sW m6 e5⟩⟩
    ·rw[qM (by simpa using e5)];split
     ·exact aL ⟨V,.inr ⟨vD.push x,C+1,W,_,_,_,rfl,m6,by lia,f5,by rw[cr];lia⟩⟩
     ·exact aL ⟨V,vD.push x,C+1,W,_,_,_,rfl,m6,by lia,f5,by rw[cr];lia⟩
  ·rintro c qf ⟨T,B,d,f,G,t,v,rfl,m,J,F,c6⟩;have:=m.len 'd' 'd';rw[aB] at this;rw[d0] at c6;lia
  ·exact⟨sm,o,d,f,_,t,v,rfl,m,J,F,by lia⟩
  rintro c qf ⟨T,h⟩;rcases h with⟨r,e,hr⟩|⟨B,d,f,G,t,v,rfl,m,J,F,c7⟩
  ·obtain⟨c,c'⟩:=c;dsimp only at e;subst e;exact aL ⟨T,r,rfl,hr⟩
  ·exact aF (fR (aL ⟨⟨T.kind,T.arr,T.pend,T.failed⟩,B,d,f,_,rfl,m,J,F,by lia⟩))
 ·rintro c qH ⟨sm,l,d,f,G,rfl,m,J,F,c5⟩;have:=m.len 'd' 'd';rw[aB] at this;rw[d0] at c5;lia
 ·exact⟨oJ.refl st,#[b0],0,1,_,rfl,m0,by lia,by lia,by simp⟩
 ·rintro⟨c,c'⟩ qH ⟨sm,r,e,hr⟩;dsimp only at e;subst e;exact aL (q r qH sm hr)
end
section
variable{κ:a7}
structure Mh(κ:a7)(a b o:List bh)(i j:Nat):Prop where
 perm:o.Perm (a.drop i++b.drop j)
 srt:qC κ o.reverse
 la:∀x∈a.take i,∀y∈o,Le κ x y
 lb:∀x∈b.take j,∀y∈o,Le κ x y
variable{a b o:List bh}{i j:Nat}
def Mh.len(h:Mh κ a b o i j):o.length=(a.length-i)+(b.length-j):=by rw[h.perm.length_eq,aw,cu,cu]
def X5{α:Type}{l:List α}{i k:Nat}(h:k<=i){x:α}(c:x∈l.take k):x∈l.take i:=by
 have:l.take k=(l.take i).take k:=by rw[gD,gg h]
 rw[this] at c;exact cJ c
def zf6{α:Type}(l:List α)(h:k<=i):l.drop k=(l.take i).drop k++l.drop i:=by
 by_cases c:i<=l.length
 ·conv=>lhs;rw[<- cn i l]
  rw[eT (by rw[bT];lia)]
 ·rw[cN 'd',fq (i:=i) 'd',bz]
def qC.mid(h:qC κ l)(d:k<=i):∀x∈l.take k,∀y∈(l.take i).drop k,Le κ x y:=by
 have e:qC κ (l.take i):=h.sublist (cS i l);intro x c y f;have:l.take k=(l.take i).take k:=by rw[gD,gg d]
 rw[this] at c;exact e.take_drop k x c y f
def Mh.addA(h:Mh κ a b o i j)(f:qC κ a){k:Nat}(d:k<=i)(e:∀z∈b.take j,∀y∈(a.take i).drop k,Le κ z y):Mh κ a b (o++((a.take i).drop k).reverse) k j:=by
 refine⟨?_,?_,λx c y hy=>?_,λx c y hy=>?_⟩
 ·rw[zf6 a d];refine(h.perm.append (mQ _)).trans ?_;rw[aZ];refine cR.trans ?_;rw[aZ];exact cR
 ·rw[List.reverse_append,List.reverse_reverse];unfold qC;rw[bG];exact⟨(f.sublist (cS i a)).sublist (dh k _),h.srt,λx c y hy=>h.la x (cZ c) y (gM.mp hy)⟩
 ·rcases aQ.mp hy with hy|hy
  ·exact h.la x (X5 d c) y hy
  ·exact f.mid d x c y (gM.mp hy)
 ·rcases aQ.mp hy with hy|hy
  ·exact h.lb x c y hy
  ·exact e x c y (gM.mp hy)
def Mh.swap(h:Mh κ a b o i j):Mh κ b a o j i:=⟨h.perm.trans cR,h.srt,h.lb,h.la⟩
def Mh.addB(h:Mh κ a b o i j)(d:qC κ b)(e:k<=j)(c:∀z∈a.take i,∀y∈(b.take j).drop k,Le κ z y):Mh κ a b (o++((b.take j).drop k).reverse) i k:=(h.swap.addA d e c).swap
def Mh.fin(h:Mh κ a b o i j)(d:qC κ a)(e:qC κ b)(f:∀x∈a.take i,∀y∈b.take j,Le κ x y):Out κ a b (a.take i++b.take j++o.reverse):=by
 refine⟨?_,?_⟩
 ·refine(((mQ o).trans h.perm).append_left _).trans ?_
  conv=>rhs;rw[<- cn i a,<- cn j b]
  simp only[aZ];refine fC _ ?_;rw[<- aZ,<- aZ];exact cR.append_right _
 ·unfold qC;rw[bG,bG];refine⟨⟨d.sublist (cS i a),e.sublist (cS j b),f⟩,h.srt,λx g y c=>?_⟩;rcases aQ.mp g with h'|h'
  ·exact h.la x h' y (gM.mp c)
  ·exact h.lb x h' y (gM.mp c)
def Mh.fin'(h:Mh κ a b o i j)(c:qC κ a)(d:qC κ b)(e:∀y∈b.take j,∀x∈a.take i,Le κ y x):Out κ a b (b.take j++a.take i++o.reverse):=by have:=h.swap.fin d c e;exact⟨this.perm.trans cR,this.srt⟩
def Eg{l:List bh}{i:Nat}{x:bh}(h:l[i]?=KF x):(l.take (i+1)).drop i=[x]:=by obtain⟨c,rfl⟩:=aq.mp h;rw[nQ,bV,c9 c];rfl
def DY{l:List bh}(h:qC κ l){i:Nat}{x:bh}(c:l[i]?=KF x):∀y∈l.take (i+1),Le κ y x:=by
 intro y hy;have e:=Eg c;have:l.take (i+1)=l.take i++[x]:=by
  rw[eH,c];rfl
 rw[this] at hy;rcases aQ.mp hy with hy|hy
 ·exact h.mid (eJ i) y hy x (by rw[e];simp)
 ·rw[dE.mp hy];exact Le.refl _
def GI{c:Array bh}{x:bh}(m:Mh κ a b c.toList (i+1) j)(e:qC κ a)(d:a[i]?=KF x)(h:∀z∈b.take j,Le κ z x):Mh κ a b (c.push x).toList i j:=by have:=m.addA e (k:=i) 'd' (by rw[Eg d];intro z f y g;rw[dE.mp g];exact h z f);rw[Eg d] at this;rw[eQ];exact this
def Pc{c:Array bh}{x:bh}(m:Mh κ a b c.toList i (j+1))(e:qC κ b)(d:b[j]?=KF x)(h:∀z∈a.take i,Le κ z x):Mh κ a b (c.push x).toList i j:=by have:=m.addB e (k:=j) 'd' (by rw[Eg d];intro z f y g;rw[dE.mp g];exact h z f);rw[Eg d] at this;rw[eQ];exact this
def Gw(a:Array bh)(i:Nat):(a.extract 0 i).toList=a.toList.take i:=by simp
def NR(a:Array bh)(k i:Nat):((a.extract k i).reverse).toList=((a.toList.take i).drop k).reverse:=by simp[nQ]
end
section
variable{prog:aP}{w:aY}{A:ba}{E:ab->ag->Prop}{s:ag}{κ:a7}{st:bZ}{kd:KT}
def GW{n:Nat}{o:Array bh}{x:bh}(h:n<=o.size):n+1<=(o.push x).size:=by rw[cr];lia
def WN(ho:vH prog w A s κ kd){a b:Array bh}(hk:kindOf st=kd)(ha:∀x∈a.toList,t5 κ x)(hb:∀x∈b.toList,t5 κ x)(U:qC κ a.toList)(Y:qC κ b.toList)(pa:1<=a.size)(pb:1<=b.size)
  (h0:∀x∈b.toList.take 1,∀y∈a.toList,Le κ x y) (hl:∀y∈b.toList,∀x∈a.toList.drop (a.size-1),Le κ y x) {Q:Array bh->bZ->Prop} (q:∀r D,oJ st D->Out κ a.toList b.toList r.toList->Q r D):wpS (ay prog w) A E s ((oY.hi o3) a b) Q st:=by
 have LJ:a.toList.length=a.size:=aB;have LH:b.toList.length=b.size:=aB;have sX:∀{l:Array bh}{d f:Nat},Mh κ a.toList b.toList l.toList d f->(d=0\/f=0)->Out κ a.toList b.toList (a.extract 0 d++b.extract 0 f++l.reverse).toList:=λ{l d f}m h=>by
  rw[bQ,bQ,Gw,Gw,lN];refine m.fin U Y λx P y W=>?_;rcases h with rfl|rfl
  ·cases P
  ·cases W
 have sW:∀{l:Array bh}{d f:Nat},Mh κ a.toList b.toList l.toList d f->f=1->Out κ a.toList b.toList (b.extract 0 f++a.extract 0 d++l.reverse).toList:=λ{l d f}m h=>by
  rw[bQ,bQ,Gw,Gw,lN];subst h;exact m.fin' U Y λy W x P=>h0 y W x (cJ P)
 obtain⟨x0,g0,l0⟩:=we (a:=a) (i:=a.size-1) 'd';have m0:Mh κ a.toList b.toList (#[x0]:Array bh).toList (a.size-1) b.size:=by
  have m00:Mh κ a.toList b.toList (#[]:Array bh).toList (a.size-1+1) b.size:=by
   refine⟨?_,d8,(λx _ y W=>nomatch W),(λx _ y W=>nomatch W)⟩;rw[fq 'd',fq 'd'];exact eG _
  exact GI m00 U l0 λz F=>hl z (cJ F) x0 (by
   have:=z7 l0;exact cJ (by rw[this];simp:x0∈(a.toList.drop (a.size-1)).take 1))
 show wpS _ _ _ _ (_ >>= _) Q st;refine aF (jm (dR ⟨rfl,aF (sZ g0 ?_)⟩));show wpS _ _ _ _ (if (a.size-1==0)=qb then _ else _) Q st;by_cases c1:a.size-1=0
 ·rw[qq (by simpa using c1)];exact aL (q _ st (oJ.refl st) (sX m0 (.inl c1)))
 rw[qM (by simpa using c1)];show wpS _ _ _ _ (if (b.size==1)=qb then _ else _) Q st;by_cases c2:b.size=1
 ·rw[qq (by simpa using c2)];exact aL (q _ st (oJ.refl st) (sW m0 c2))
 rw[qM (by simpa using c2)];refine aF (gU (aF (dI (cQ (I:=λk c D=>oJ st D/\∃d f l G,c=(KM,d,f,l,G)/\Mh κ a.toList b.toList l.toList d f/\1<=d/\d<=a.size/\2<=f/\f<=b.size/\k+1<=l.size) (Q:=λc D=>oJ st D/\∃r,c.1=KF r/\Out κ a.toList b.toList r.toList) ?_ ?_ ?_) ?_)))
 ·rintro k c qH _ hkt ⟨sm,d,f,l,G,rfl,m,J,K,N,O,c5⟩;have Fz:kindOf qH=kd:=sm.kind.trans hk;refine aF (dI (cQ (I:=λj c D=>D=qH/\∃d f o v B,c=(KM,d,f,o,v,B)/\Mh κ a.toList b.toList o.toList d f/\1<=d/\d<=a.size/\2<=f/\f<=b.size/\l.size+j<=o.size) (Q:=λc D=>D=qH/\((∃r,c.1=KF r/\Out κ a.toList b.toList r.toList) \/ ∃d f o v B,c=(KM,d,f,o,v,B)/\Mh κ a.toList b.toList o.toList d f/\1<=d/\d<=a.size/\2<=f/\f<=b.size/\l.size+1<=o.size)) ?_ ?_ ?_) ?_)
  ·rintro j c qv _ Mz ⟨rfl,d,f,o,v,B,rfl,m,J,K,N,O,c6⟩;obtain⟨p,rfl⟩:∃p,d=p+1:=⟨d-1,by lia⟩;obtain⟨r,rfl⟩:∃r,f=r+1:=⟨f-1,by lia⟩;obtain⟨y,gy,Z⟩:=we (a:=b) (i:=r) 'd';obtain⟨x,gx,V⟩:=we (a:=a) (i:=p) 'd';refine aF (sZ gy (aF (sZ gx (aF (DR ho Fz (hb y (aD Z)) (ha x (aD V)) ?_)))));cases hc:κ.blt (ky κ y) (ky κ x) with
   | true=>
    have m':=GI m U V λz F=>(DY Y Z z F).trans (Le.of hc);refine aF (sZ gx ?_);show wpS _ _ _ _ (if (p==0)=qb then _ else _) _ qv;by_cases e:p=0
    ·rw[qq (by simpa using e)];exact aL ⟨rfl,.inl ⟨_,rfl,sX m' (.inl e)⟩⟩
    ·rw[qM (by simpa using e)];split
     ·exact aL ⟨rfl,.inr ⟨p,r+1,o.push x,v+1,0,rfl,m',by lia,by lia,N,O,by rw[cr];lia⟩⟩
     ·exact aL ⟨rfl,p,r+1,o.push x,v+1,0,rfl,m',by lia,by lia,N,O,by rw[cr];lia⟩
   | false=>
    have m':=Pc m Y Z λz F=>(DY U V z F).trans (show Le κ x y from hc);refine aF (sZ gy ?_);show wpS _ _ _ _ (if (r==1)=qb then _ else _) _ qv;by_cases e:r=1
    ·rw[qq (by simpa using e)];exact aL ⟨rfl,.inl ⟨_,rfl,sW m' e⟩⟩
    ·rw[qM (by simpa using e)];split
     ·exact aL ⟨rfl,.inr ⟨p+1,r,o.push y,0,B+1,rfl,m',J,K,by lia,by lia,by rw[cr];lia⟩⟩
     ·exact aL ⟨rfl,p+1,r,o.push y,0,B+1,rfl,m',J,K,by lia,by lia,by rw[cr];lia⟩
  ·rintro c qv ⟨rfl,d,f,o,v,B,rfl,m,J,K,N,O,c6⟩;have:=m.len;rw[aB] at this;rw[d0] at c6;lia
  ·exact⟨rfl,d,f,l,0,0,rfl,m,J,K,N,O,by lia⟩
  rintro c qv ⟨rfl,h⟩;rcases h with⟨r,e,hr⟩|⟨d,f,o,v,B,rfl,m,J,K,N,O,c6⟩
  ·obtain⟨c,c'⟩:=c;dsimp only at e;subst e;exact aL ⟨sm,r,rfl,hr⟩
  refine aF (jm (dR ⟨rfl,aF (dI (cQ (I:=λj c D=>oJ st D/\∃d f C G v B,c=(KM,d,f,C,G,v,B)/\Mh κ a.toList b.toList C.toList d f/\1<=d/\d<=a.size/\2<=f/\f<=b.size/\o.size+j<=C.size) (Q:=λc D=>oJ st D/\((∃r,c.1=KF r/\Out κ a.toList b.toList r.toList) \/ ∃d f C G v B,c=(KM,d,f,C,G,v,B)/\Mh κ a.toList b.toList C.toList d f/\1<=d/\d<=a.size/\2<=f/\f<=b.size/\o.size<=C.size)) ?_ ?_ ?_) ?_)⟩))
  ·rintro j c qf _ Mz ⟨X,d,f,C,G,v,B,rfl,m,J,K,N,O,c6⟩;obtain⟨r,rfl⟩:∃r,f=r+1:=⟨f-1,by lia⟩;obtain⟨y,gy,Z⟩:=we (a:=b) (i:=r) 'd';have W:=hb y (aD Z);have BG:∀R,oJ st R->∀{Q:Option Nat->bZ->Prop},(∀k,k<=d->(∀x∈a.toList.take k,Le κ x y)->(∀x∈(a.toList.take d).drop k,Le κ y x)->Q (KF k) R)->wpS (ay prog w) A E s ((oY.g o3) qh y a 0 d (d-1)) Q R:=λR s4 Q h=>
    Cz ho (L:=a.toList.take d) (by rw[lv]) (s4.kind.trans hk) W 'd' 'd' (λx P=>ha x (cJ P)) (U.sublist (cS d _)) λk h1 h2 h3=>h k h1 (λx P=>by
     have:=h2 x (by rw[gD,gg h1];exact P);unfold t_ at this;rw[qM 'u'] at this;unfold Le;simpa using this) λx P=>by
     have:=h3 x P;unfold t_ at this;rw[qM 'u'] at this;exact Le.of (by simpa using this)
   have BF:∀x{n:Nat},a.toList[n]?=KF x->∀R,oJ st R->1<=r->∀{Q:Option Nat->bZ->Prop},(∀k,k<=r->(∀z∈(b.toList.take r).drop k,Le κ x z)->(∀z∈b.toList.take k,Le κ z x)->Q (KF k) R)->wpS (ay prog w) A E s ((oY.g o3) qb x b 0 r (r-1)) Q R:=λx n V R s4 h4 Q h=>
    Cz ho (L:=b.toList.take r) (by rw[lv]) (s4.kind.trans hk) (ha x (aD V)) 'd' 'd' (λx P=>hb x (cJ P)) (Y.sublist (cS _ _)) λk h1 h2 h3=>h k h1 (λz F=>by
     have:=h3 z F;unfold t_ at this;rw[qq rfl] at this;exact this) λz F=>by
     have:=h2 z (by rw[gD,gg h1];exact F);unfold t_ at this;rw[qq rfl] at this;exact Le.of this
   show wpS _ _ _ _ (if G>1 then _ else _) _ qf;apply Oo (α:=Nat)
   ·intro S;split
    ·generalize G-1=EX;exact S EX
    ·exact S G
   intro EX;refine aF (Py ⟨rfl,rfl,rfl,rfl⟩ λR s4=>aF (sZ gy (aF (BG R (X.trans s4) ?_))));have T:=X.trans s4;intro k xP Bc kt;have m3:=m.addA U xP λz F u hu=>(DY Y Z z F).trans (kt u hu);rw[<- NR,<- bQ] at m3;have n3:C.size<=(C++(a.extract k d).reverse).size:=by rw[gm];lia
   show wpS _ _ _ _ (if d-k>0 then _ else _) _ _;apply Jl (H:=λ(M:Array bh)(Ba:Nat)=>Mh κ a.toList b.toList M.toList Ba (r+1)/\C.size<=M.size/\1<=Ba/\Ba<=a.size/\∀x∈a.toList.take Ba,Le κ x y)
   ·intro S;by_cases wz:d-k>0
    ·rw[qq wz];show wpS _ _ _ _ (if (k==0)=qb then _ else _) _ _;by_cases e1:k=0
     ·rw[qq (by simpa using e1)];exact aL ⟨T,.inl ⟨_,rfl,sX m3 (.inl e1)⟩⟩
     ·rw[qM (by simpa using e1)];have hh:=fw m3 (fw n3 (fw (show 1<=k by lia) (fw (show k<=a.size by lia) Bc)));generalize C++(a.extract k d).reverse=M at hh ⊢;generalize k=q3 at hh ⊢;exact S M q3 hh
    ·rw[qM wz];have vG:k=d:=by lia
     rw[vG] at Bc ⊢;exact S C d ⟨m,aC _,J,K,Bc⟩
   rintro M Ba ⟨m3,n3,f3,f3',Bc⟩;have m4:=Pc m3 Y Z Bc;refine aF (sZ gy ?_);show wpS _ _ _ _ (if (r==1)=qb then _ else _) _ _;by_cases e3:r=1
   ·rw[qq (by simpa using e3)];exact aL ⟨T,.inl ⟨_,rfl,sW m4 e3⟩⟩
   ·rw[qM (by simpa using e3)];obtain⟨n,rfl⟩:∃n,Ba=n+1:=⟨Ba-1,by lia⟩;obtain⟨x,gx,V⟩:=we (a:=a) (i:=n) 'd';refine aF (sZ gx (aF (BF x V _ T 'd' ?_)));intro t tw LL Ag;have m5:=m4.addB Y tw λz F u hu=>(DY U V z F).trans (LL u hu);rw[<- NR,<- bQ] at m5;have n5:M.size+1<=(M.push y++(b.extract t r).reverse).size:=by rw[gm,cr];lia
    by_cases wz:r-t>0
    ·show wpS _ _ _ _ (if r-t>0 then _ else _) _ _;rw[qq wz];show wpS _ _ _ _ (if (t==1)=qb then _ else _) _ _;by_cases e4:t=1
     ·rw[qq (by simpa using e4)];exact aL ⟨T,.inl ⟨_,rfl,sW m5 e4⟩⟩
     ·rw[qM (by simpa using e4)];show wpS _ _ _ _ (if (t==0)=qb then _ else _) _ _;by_cases e6:t=0
      ·rw[qq (by simpa using e6)];exact aL ⟨T,.inl ⟨_,rfl,sX m5 (.inr e6)⟩⟩
      ·rw[qM (by simpa using e6)];have f5:2<=t:=by lia
       have m6:=GI m5 U V Ag;refine aF (sZ gx ?_);show wpS _ _ _ _ (if (n==0)=qb then _ else _) _ _;by_cases e5:n=0
       ·rw[qq (by simpa using e5)];exact aL ⟨T,.inl ⟨_,rfl,sX m6 (.inl e5)⟩⟩
       ·rw[qM (by simpa using e5)];split
        ·exact aL ⟨T,.inr ⟨n,t,_,_,_,_,rfl,m6,(by lia:1<=n),(by lia:n<=a.size),f5,(by lia:t<=b.size),aI (by lia:o.size<=M.size+1+1) (GW n5)⟩⟩
        ·exact aL ⟨T,n,t,_,_,_,_,rfl,m6,(by lia:1<=n),(by lia:n<=a.size),f5,(by lia:t<=b.size),aI (by lia:o.size+(j+1)<=M.size+1+1) (GW n5)⟩
    ·have vG:t=r:=by lia
     subst vG;show wpS _ _ _ _ (if t-t>0 then _ else _) _ _;rw[qM wz];have f5:2<=t:=by lia
     replace m5:=m4
     replace n5:M.size+1<=(M.push y).size:=by rw[cr];exact aC _
     have m6:=GI m5 U V Ag;refine aF (sZ gx ?_);show wpS _ _ _ _ (if (n==0)=qb then _ else _) _ _;by_cases e5:n=0
     ·rw[qq (by simpa using e5)];exact aL ⟨T,.inl ⟨_,rfl,sX m6 (.inl e5)⟩⟩
     ·rw[qM (by simpa using e5)];split
      ·exact aL ⟨T,.inr ⟨n,t,_,_,_,_,rfl,m6,(by lia:1<=n),(by lia:n<=a.size),f5,(by lia:t<=b.size),aI (by lia:o.size<=M.size+1+1) (GW n5)⟩⟩
      ·exact aL ⟨T,n,t,_,_,_,_,rfl,m6,(by lia:1<=n),(by lia:n<=a.size),f5,(by lia:t<=b.size),aI (by lia:o.size+(j+1)<=M.size+1+1) (GW n5)⟩
  ·rintro c qf ⟨X,d,f,C,G,v,B,rfl,m,J,K,N,O,c6⟩;have:=m.len;rw[aB] at this;rw[d0] at c6;lia
  ·exact⟨sm,d,f,o,_,v,B,rfl,m,J,K,N,O,by lia⟩
  rintro c qf ⟨X,h⟩;rcases h with⟨r,e,hr⟩|⟨d,f,C,G,v,B,rfl,m,J,K,N,O,c7⟩
  ·obtain⟨c,c'⟩:=c;dsimp only at e;subst e;exact aL ⟨X,r,rfl,hr⟩
  ·exact aF (fR (aL ⟨⟨X.kind,X.arr,X.pend,X.failed⟩,d,f,C,_,rfl,m,J,K,N,O,by lia⟩))
 ·rintro c qH ⟨sm,d,f,l,G,rfl,m,J,K,N,O,c5⟩;have:=m.len;rw[aB] at this;rw[d0] at c5;lia
 ·exact⟨oJ.refl st,a.size-1,b.size,#[x0],_,rfl,m0,by lia,by lia,by lia,by lia,by simp⟩
 ·rintro⟨c,c'⟩ qH ⟨sm,r,e,hr⟩;dsimp only at e;subst e;exact aL (q r qH sm hr)
end
theorem Pe(p:Nat):∀(m:List bh)(j:Nat)(xs:Array bh),p+j+m.length<=xs.size->((m.zipIdx j).foldl (λa x=>a.setIfInBounds (p+x.2) x.1) xs).toList=xs.toList.take (p+j)++m++xs.toList.drop (p+j+m.length)
 |[],j,xs,_=>by simp
 | x::m,j,xs,h=>by
  rw[aV] at h;rw[iO,fD,Pe p m (j+1) _ (by rw[kn];lia),jP,<- lX];have b:p+j<xs.toList.length:=by rw[aB];lia
  have c:(xs.toList.set (p+j) x).take (p+j+1)=xs.toList.take (p+j)++[x]:=by
   rw[eH,bB b,List.take_set_of_le (aC _)];rfl
  rw[c,List.drop_set_of_lt 'd',aV,aZ,aZ,aZ];have:p+j+1+m.length=p+j+(m.length+1):=by lia
  rw[this];rfl
def zgD(h:p+m.length<=xs.size):(lay xs p m).toList=xs.toList.take p++m++xs.toList.drop (p+m.length):=Pe p m 0 xs h
section
variable{prog:aP}{w:aY}{A:ba}{E:ab->ag->Prop}{s:ag}{κ:a7}{st:bZ}{kd:KT}
def Wt(I:vH prog w A s κ kd)(t:kindOf st=kd)(N:failedOf st=KM)(d:(q7 st).toList=P++(X++(Y++R)))(h1:(q8 st)[i]?=KF (P.length,X.length,pw))(h2:(q8 st)[i+1]?=KF (P.length+X.length,Y.length,H9))
  (J:1<=X.length) (O:1<=Y.length) (C:qC κ X) (D:qC κ Y) (F:∀x∈X++Y,t5 κ x) {Q:Bool->bZ->Prop}
  (q:∀b M,kindOf b=kd->failedOf b=KM->q8 b=((q8 st).setIfInBounds i (P.length,X.length+Y.length,pw)).eraseIdxIfInBounds (i+1)->(q7 b).toList=P++(M++R)->M.Perm (X++Y)->qC κ M->Q qb b):wpS (ay prog w) A E s (mergeAt' i) Q st:=by
 have G:(q7 st).size=P.length+(X.length+(Y.length+R.length)):=by
  rw[<- aB,d];simp
 have S:∀x∈X,t5 κ x:=λx h=>F x (bM _ h);have T:∀x∈Y,t5 κ x:=λx h=>F x (aA _ h);have f:∀(j:Nat)(x:bh),(P++(X++(Y++R)))[j]?=KF x->(q7 st)[j]?=KF x:=λj x h=>by
  rw[<- d] at h;rw[<- h];simp
 obtain⟨g,K⟩:∃g,Y[0]?=KF g:=⟨Y[0],al _⟩;have gb:(q7 st)[P.length+X.length]?=KF g:=f _ _ (by
  rw[aU 'd',bV,aU (aC _),ie,aH 'd'];exact K)
 have dX:((q7 st).toList.drop P.length).take X.length=X:=by rw[d];simp
 have dY:((q7 st).toList.drop (P.length+X.length)).take Y.length=Y:=by rw[d,<- aZ,eT 'k',<- aw];simp
 have U:=T g (aD K);have V:∀y∈Y,Le κ g y:=λy h=>Cp D K y (by simpa using h);refine(oY.at_ o3) h1 h2 gb ?_;refine Cz (base:=P.length) (n:=X.length) (hint:=0) I dX ?_ U 'd' 'd' S C ?_
 ·exact t
 refine λk xP kt kf=>⟨k,rfl,λwz=>?_,λwz=>?_⟩
 ·have W:k=X.length:=by lia
  refine q _ (X++Y) t N rfl (by show(q7 st).toList=_;rw[d,aZ]) (eG _) ?_;unfold qC;rw[bG];refine⟨C,D,λx h y c=>Le.trans ?_ (V y c)⟩;have:=kt x (by rw[W,cE];exact h);unfold t_ at this;rw[qM 'u'] at this;unfold Le;simpa using this
 have Z:∀x∈X.take k,Le κ x g:=λx h=>by
  have:=kt x h;unfold t_ at this;rw[qM 'u'] at this;unfold Le;simpa using this
 have TY:∀x∈X.drop k,Le κ g x:=λx h=>by
  have:=kf x h;unfold t_ at this;rw[qM 'u'] at this;exact Le.of (by simpa using this)
 obtain⟨l,L⟩:∃l,X[X.length-1]?=KF l:=⟨X[X.length-1],al _⟩;have ga:(q7 st)[P.length+k+(X.length-k)-1]?=KF l:=f _ _ (by
  have:P.length+k+(X.length-k)-1=P.length+(X.length-1):=by lia
  rw[this,aU 'd',bV,aH 'd'];exact L)
 have hka:=S l (aD L);have UP:∀x∈X,Le κ x l:=λx h=>DY C L x (by rw[cN 'd'];exact h);refine⟨l,ga,?_⟩;refine Cz (base:=P.length+X.length) (n:=Y.length) (hint:=Y.length-1) I dY ?_ hka 'd' 'd' T D ?_
 ·exact t
 refine λm hm mt mf=>⟨m,rfl,λUe=>?_,λUe=>?_⟩
 ·refine q _ (X++Y) t N rfl (by show(q7 st).toList=_;rw[d,aZ]) (eG _) ?_;unfold qC;rw[bG];refine⟨C,D,λx h y c=>Le.trans (UP x h) ?_⟩;have:=mf y (by rw[Ue];exact c);unfold t_ at this;rw[qq rfl] at this;exact this
 have TV:∀y∈Y.take m,Le κ y l:=λy h=>by
  have:=mt y h;unfold t_ at this;rw[qq rfl] at this;exact Le.of this
 have TX:∀y∈Y.drop m,Le κ l y:=λy h=>by
  have:=mf y h;unfold t_ at this;rw[qq rfl] at this;exact this
 have u:((q7 st).extract (P.length+k) (P.length+X.length)).toList=X.drop k:=by
  simp only[lL,j6];rw[d,<- eF,nR,eT xP];have:P.length+X.length-(P.length+k)=(X.drop k).length:=by rw[cu];lia
  rw[this,nT]
 have v:((q7 st).extract (P.length+X.length) (P.length+X.length+m)).toList=Y.take m:=by
  rw[JD];rw[<- dY,gD,gg hm]
 have szX:((q7 st).extract (P.length+k) (P.length+X.length)).size=X.length-k:=by rw[<- aB,u,cu]
 have szY:((q7 st).extract (P.length+X.length) (P.length+X.length+m)).size=m:=by rw[<- aB,v,bT];lia
 have H:∀(B:Array bh)(o:bZ),oJ (setPending st (((q8 st).setIfInBounds i (P.length,X.length+Y.length,pw)).eraseIdxIfInBounds (i+1))) o->Out κ (X.drop k) (Y.take m) B.toList->Q (failedOf o).isNone (setArr o (lay (q7 o) (P.length+k) B.toList)):=λB o p a=>by
  have Uc:B.toList.length=(X.length-k)+m:=by rw[a.perm.length_eq,aw,cu,bT];lia
  have C7:failedOf o=KM:=p.failed.trans N;rw[C7];have vd:q7 o=q7 st:=p.arr;refine q _ (X.take k++(B.toList++Y.drop m)) (p.kind.trans t) C7 p.pend ?_ ?_ ?_
  ·show(lay (q7 o) (P.length+k) B.toList).toList=_;rw[vd,zgD (by rw[Uc,G];lia),d,Uc];have e1:(P++(X++(Y++R))).take (P.length+k)=P++X.take k:=by
    rw[List.take_append,cN 'd',bV,List.take_append_of_le_length xP]
   have e2:(P++(X++(Y++R))).drop (P.length+k+(X.length-k+m))=Y.drop m++R:=by
    have:P.length+k+(X.length-k+m)=(P++X).length+m:=by rw[aw];lia
    rw[this,<- aZ,<- eF,nR,eT hm]
   rw[e1,e2];simp
  ·conv=>rhs;rw[<- cn k X,<- cn m Y]
   rw[aZ];refine fC _ ?_;rw[<- aZ];exact a.perm.append_right _
  ·unfold qC;rw[bG,bG];have EY:∀z∈B.toList,z∈X.drop k\/z∈Y.take m:=λz hz=>aQ.mp (a.perm.mem_iff.mp hz);refine⟨C.sublist (cS k X),⟨a.srt,D.sublist (dh m Y),λz hz y O=>?_⟩,λx J z hz=>?_⟩
   ·rcases EY z hz with h|h
    ·exact(UP z (cZ h)).trans (TX y O)
    ·exact(TV z h).trans (TX y O)
   ·rcases aQ.mp hz with hz|hz
    ·rcases EY z hz with h|h
     ·exact(Z x J).trans (TY z h)
     ·exact(Z x J).trans (V z (cJ h))
    ·exact(Z x J).trans (V z (cZ hz))
 have p1:∀x∈((q7 st).extract (P.length+k) (P.length+X.length)).toList,t5 κ x:=by rw[u];exact λx h=>S x (cZ h)
 have p2:∀x∈((q7 st).extract (P.length+X.length) (P.length+X.length+m)).toList,t5 κ x:=by rw[v];exact λx h=>T x (cJ h)
 have p3:qC κ ((q7 st).extract (P.length+k) (P.length+X.length)).toList:=by rw[u];exact C.sublist (dh k X)
 have p4:qC κ ((q7 st).extract (P.length+X.length) (P.length+X.length+m)).toList:=by rw[v];exact D.sublist (cS m Y)
 have p5:∀x∈((q7 st).extract (P.length+X.length) (P.length+X.length+m)).toList.take 1,∀y∈((q7 st).extract (P.length+k) (P.length+X.length)).toList,Le κ x y:=by
  rw[u,v,gD];intro x h y c;have:x=g:=by
   rw[gg 'd'] at h;have e:=z7 K;rw[lv] at e;rw[e] at h;simpa using h
  rw[this];exact TY y c
 have p6:∀y∈((q7 st).extract (P.length+X.length) (P.length+X.length+m)).toList,∀x∈((q7 st).extract (P.length+k) (P.length+X.length)).toList.drop (((q7 st).extract (P.length+k) (P.length+X.length)).size-1),Le κ y x:=by
  rw[u,v,szX,eF];intro y h x c;have:k+(X.length-k-1)=X.length-1:=by lia
  rw[this] at c;have e:=z7 L;rw[cN (by rw[cu];lia)] at e;rw[e] at c;rw[dE.mp c];exact TV y h
 by_cases hc:X.length-k<=m
 ·rw[qq hc];refine Xh I ?_ p1 p2 p3 p4 'd' 'd' p5 p6 λr b p a=>H r b p (by rw[u,v] at a;exact a);exact t
 ·rw[qM hc];refine WN I ?_ p1 p2 p3 p4 'd' 'd' p5 p6 λr b p a=>H r b p (by rw[u,v] at a;exact a);exact t
end
structure Rl(rA:bZ)(lo:Nat)(st:bZ):Prop where
 perm:(q7 st).Perm (q7 rA)
 kind:kindOf st=kindOf rA
 failed:failedOf st=failedOf rA
 pend:q8 st=q8 rA
 fix:∀i,i<lo->(q7 st)[i]?=(q7 rA)[i]?
def Rl.refl(st:bZ)(lo:Nat):Rl st lo st:=⟨i7 _,rfl,rfl,rfl,λ_ _=>rfl⟩
def Rl.size{a st:bZ}{lo:Nat}(r:Rl a lo st):(q7 st).size=(q7 a).size:=r.perm.size_eq
def Rl.rev{a st:bZ}{lo i j:Nat}(r:Rl a lo st)(h:lo<=i)(b:j<=(q7 a).size):Rl a lo (setArr st (mirror (q7 st) i j ((j-i)/2))):=by refine⟨(mirror_perm _ _ _ _).trans r.perm,r.kind,r.failed,r.pend,λk c=>?_⟩;show(mirror (q7 st) i j ((j-i)/2))[k]?=_;rw[getElem?_mirror_all (by rw[r.size];exact b),qM 'd'];exact r.fix k c
section
variable{prog:aP}{w:aY}{A:ba}{E:ab->ag->Prop}{s:ag}{κ:a7}{rA st:bZ}{lo:Nat}{kd:KT}
def Up(κ:a7)(xs:Array bh)(lo n:Nat):Prop:=∀i j,lo<=i->i<=j->j<lo+n->κ.kle (KK κ xs i) (KK κ xs j)
def Dn(κ:a7)(xs:Array bh)(lo n:Nat):Prop:=∀i j,lo<=i->i<=j->j<lo+n->κ.kle (KK κ xs j) (KK κ xs i)
def z6(a:κ.α):κ.kle a a:=κ.irrefl a
def Up.step(h:Up κ xs lo n)(f:1<=n)(a:κ.kle (KK κ xs (lo+n-1)) (KK κ xs (lo+n))):Up κ xs lo (n+1):=λi j b c g=>by
 by_cases e:j=lo+n
 ·subst e;by_cases d:i=lo+n
  ·subst d;exact z6 _
  ·exact iQ (h i (lo+n-1) b 'd' 'd') a
 ·exact h i j b c 'd'
def Dn.step(h:Dn κ xs lo n)(f:1<=n)(a:κ.kle (KK κ xs (lo+n)) (KK κ xs (lo+n-1))):Dn κ xs lo (n+1):=λi j b c g=>by
 by_cases e:j=lo+n
 ·subst e;by_cases d:i=lo+n
  ·subst d;exact z6 _
  ·exact iQ a (h i (lo+n-1) b 'd' 'd')
 ·exact h i j b c 'd'
def Up.one(xs:Array bh):Up κ xs lo 1:=λi j c d e=>by
 have a:i=lo:=by lia
 have b:j=lo:=by lia
 rw[a,b];exact z6 _
def Dn.one(xs:Array bh):Dn κ xs lo 1:=λi j c d e=>by
 have a:i=lo:=by lia
 have b:j=lo:=by lia
 rw[a,b];exact z6 _
def D3(f:vH prog w A s κ kd)(a:∀x∈(q7 rA).toList,t5 κ x)(g:kindOf rA=kd)(r:Rl rA lo st)(b:i<(q7 rA).size)(c:j<(q7 rA).size)(q:Q (KF (κ.blt (KK κ (q7 st) i) (KK κ (q7 st) j))) st):wpS (ay prog w) A E s (ltAt' i j) Q st:=by
 rw[<- r.size] at b c;obtain⟨x,d,h⟩:=we b;obtain⟨y,e,k⟩:=we c;have l:=a x ((dM.mp r.perm).mem_iff.mp (aD h));have m:=a y ((dM.mp r.perm).mem_iff.mp (aD k));have n:KK κ (q7 st) i=ky κ x:=by unfold KK ky;rw[d]
 have o:KK κ (q7 st) j=ky κ y:=by unfold KK ky;rw[e]
 rw[n,o] at q;rw[ltAt'_eq];exact aF (gU (aF (sZ d (aF (sZ e (DR f (r.kind.trans g) l m q))))))
def Up.rev(d:Dn κ xs lo m)(h:lo+m<=xs.size):Up κ (mirror xs lo (lo+m) ((lo+m-lo)/2)) lo m:=λi j a b c=>by
 rw[KK_mirror h,KK_mirror h,qq 'd',qq 'd'];exact d _ _ 'd' 'd' 'd'
set_option hygiene false in
local macro_rules|`(tactic| walk_at "asc")=>`(tactic| (
 refine aF (dI (cQ (I:=λk c i_=>i_=qH/\∃ n,c=(none,n)/\n=k/\1<=n/\n<=nrem/\Up κ (arrOf qH) lo n) (Q:=λc i_=>i_=qH/\∃ n,c=(none,n)/\1<=n/\n<=nrem/\Up κ (arrOf qH) lo n/\(n=nrem\/κ.blt (KK κ (arrOf qH) (lo+n)) (KK κ (arrOf qH) (lo+n-1))=true)) ?_ ?_ ?_) ?_)
 ·rintro k c i_ h1 h2 ⟨rfl,n,rfl,rfl,g1,g2,g3⟩
  refine aF (D3 (i:=lo+n) (j:=lo+n-1) ho hs hk r1 (by lia) (by lia) ?_)
  cases e:κ.blt (KK κ (arrOf i_) (lo+n)) (KK κ (arrOf i_) (lo+n-1)) with
  | true=>exact aL ⟨rfl,n,rfl,g1,g2,g3,.inr e⟩
  | false=>exact aL ⟨rfl,n+1,rfl,rfl,by lia,by lia,g3.step (by lia) e⟩
 ·rintro c i_ ⟨rfl,n,rfl,e,g1,g2,g3⟩
  exact⟨rfl,n,rfl,g1,g2,g3,.inl (by lia)⟩
 ·exact⟨rfl,_,rfl,rfl,Fm,Ub,u1⟩))
set_option hygiene false in
local macro_rules|`(tactic| walk_at "fin")=>`(tactic| (
 refine aF (kT ?_)
 have r1:=r4.rev (i:=lo) (j:=lo+n0) (aC lo) (by lia)
 have u1:Up κ (arrOf (setArr rg (mirror (arrOf rg) lo (lo+n0) ((lo+n0-lo)/2)))) lo n0:=Up.rev d4 (by rw[r4.size];lia)
 generalize setArr rg (mirror (arrOf rg) lo (lo+n0) ((lo+n0-lo)/2))=qH at *
 walk_at "asc"
 ·rintro c i_ ⟨rfl,n,rfl,g1,g2,g3,_⟩
  exact aL (q n _ r1 g1 g2 g3)))
set_option hygiene false in
local macro_rules|`(tactic| walk_at "desc")=>`(tactic| (
 refine aF (jm (dR ⟨rfl,aF (dI (cQ (I:=λk c i_=>Rl rA lo i_/\∃ n sE,c=(none,n,sE)/\n=k/\n<=nrem/\Dn κ (arrOf i_) lo n/\sE+1<=n/\(∀ i,lo+n-(sE+1)<=i->i<lo+n->KK κ (arrOf i_) i=KK κ (arrOf i_) (lo+n-1))) (Q:=λc i_=>Rl rA lo i_/\∃ n sE,c=(none,n,sE)/\n<=nrem/\Dn κ (arrOf i_) lo n/\sE+1<=n/\(∀ i,lo+n-(sE+1)<=i->i<lo+n->KK κ (arrOf i_) i=KK κ (arrOf i_) (lo+n-1))) ?_ ?_ ?_) ?_)⟩))
 ·rintro k c qf h1 h2 ⟨r3,n,sE,rfl,rfl,g2,g3,g4,g5⟩
  refine aF (D3 (i:=lo+n) (j:=lo+n-1) ho hs hk r3 (by lia) (by lia) ?_)
  cases e:κ.blt (KK κ (arrOf qf) (lo+n)) (KK κ (arrOf qf) (lo+n-1)) with
  | true=>
   show wpS _ _ _ _ (if sE>0 then _ else _) _ qf
   by_cases hq:sE>0
   ·rw[if_pos hq]
    refine aF (kT (aL ⟨r3.rev (i:=lo+n-(sE+1)) (j:=lo+n) (by lia) (by lia),n+1,0,rfl,rfl,by lia,?_,by lia,?_⟩))
    ·have kk:=kL (κ:=κ) (xs:=arrOf qf) (i:=lo+n-(sE+1)) (j:=lo+n) (by rw[r3.size];lia) λk a b=>g5 k a b
     have d:Dn κ (mirror (arrOf qf) (lo+n-(sE+1)) (lo+n) ((lo+n-(lo+n-(sE+1)))/2)) lo n:=λi j a b c=>by rw[kk,kk];exact g3 i j a b c
     refine d.step (by lia) ?_
     rw[kk,kk]
     exact gp e
    ·intro i a b
     have:i=lo+(n+1)-1:=by lia
     rw[this]
   ·rw[if_neg hq]
    refine aL ⟨r3,n+1,0,rfl,rfl,by lia,g3.step (by lia) (gp e),by lia,?_⟩
    intro i a b
    have:i=lo+(n+1)-1:=by lia
    rw[this]
  | false=>
   refine aF (D3 (i:=lo+n-1) (j:=lo+n) ho hs hk r3 (by lia) (by lia) ?_)
   cases e':κ.blt (KK κ (arrOf qf) (lo+n-1)) (KK κ (arrOf qf) (lo+n)) with
   | true=>exact aL ⟨r3,n,sE,rfl,g2,g3,g4,g5⟩
   | false=>
    have eq:KK κ (arrOf qf) (lo+n)=KK κ (arrOf qf) (lo+n-1):=κ.total _ _ e e'
    refine aL ⟨r3,n+1,sE+1,rfl,rfl,by lia,g3.step (by lia) e',by lia,?_⟩
    intro i a b
    have:lo+(n+1)-1=lo+n:=by lia
    rw[this]
    by_cases hi:i=lo+n
    ·rw[hi]
    ·rw[eq];exact g5 i (by lia) (by lia)
 ·rintro c qf ⟨r3,n,sE,rfl,e,g2,g3,g4,g5⟩
  exact⟨r3,n,sE,rfl,g2,g3,g4,g5⟩
 ·exact⟨r2,n1+1,0,rfl,rfl,by lia,d2,by lia,λi a b=>by
   have:i=lo+(n1+1)-1:=by lia
   rw[this]⟩
 ·rintro c qf ⟨r3,n0,sE,rfl,Ub,g3,g4,g5⟩
  have Fm:1<=n0:=by lia
  show wpS _ _ _ _ (if sE>0 then _ else _) Q qf
  by_cases hq:sE>0
  ·rw[if_pos hq]
   refine aF (kT ?_)
   have r4:=r3.rev (i:=lo+n0-(sE+1)) (j:=lo+n0) (by lia) (by lia)
   have kk:=kL (κ:=κ) (xs:=arrOf qf) (i:=lo+n0-(sE+1)) (j:=lo+n0) (by rw[r3.size];lia) λk a b=>g5 k a b
   have d4:Dn κ (arrOf (setArr qf (mirror (arrOf qf) (lo+n0-(sE+1)) (lo+n0) ((lo+n0-(lo+n0-(sE+1)))/2)))) lo n0:=λi j a b c=>by
    show κ.kle (KK κ (mirror _ _ _ _) j) (KK κ (mirror _ _ _ _) i)
    rw[kk,kk];exact g3 i j a b c
   generalize setArr qf (mirror (arrOf qf) (lo+n0-(sE+1)) (lo+n0) ((lo+n0-(lo+n0-(sE+1)))/2))=rg at *
   walk_at "fin"
  ·rw[if_neg hq]
   have r4:=r3
   have d4:=g3
   generalize hst4:qf=rg at *
   walk_at "fin"))
def zdR(ho:vH prog w A s κ kd)(hs:∀x∈(q7 rA).toList,t5 κ x)(hk:kindOf rA=kd){nrem:Nat}(Ub:1<=nrem)(hN:lo+nrem<=(q7 rA).size){qH:bZ}(r1:Rl rA lo qH){Q:Option Nat->bZ->Prop}(q:∀m i_,Rl rA lo i_->1<=m->m<=nrem->Up κ (q7 i_) lo m->Q (KF m) i_):wpS (ay prog w) A E s (countRun' lo nrem) Q qH:=by
 rw[countRun'_eq];have u1:Up κ (q7 qH) lo 1:=Up.one _;have Fm:1<=1:=aC _;walk_at "asc";rintro c i_ ⟨rfl,n1,rfl,g1,g2,g3,g4⟩;show wpS _ _ _ _ (if (n1==nrem)=qb then _ else _) Q i_;by_cases e0:n1=nrem
 ·rw[qq (by simpa using e0)];exact aL (q n1 i_ r1 g1 g2 g3)
 rw[qM (by simpa using e0)];have qk:κ.blt (KK κ (q7 i_) (lo+n1)) (KK κ (q7 i_) (lo+n1-1))=qb:=by
  rcases g4 with h|h
  ·exact absurd h e0
  ·exact h
 show wpS _ _ _ _ (if n1>1 then _ else _) Q i_;by_cases hc:n1>1
 ·rw[qq hc];refine aF (D3 ho hs hk r1 'd' 'd' ?_);cases e:κ.blt (KK κ (q7 i_) lo) (KK κ (q7 i_) (lo+n1-1)) with
  |true=>exact aL (q n1 i_ r1 g1 g2 g3)
  | false=>
   refine aF (kT ?_);have r2:=r1.rev (i:=lo) (j:=lo+n1) (aC lo) 'd';have all:∀k,lo<=k->k<lo+n1->KK κ (q7 i_) k=KK κ (q7 i_) (lo+n1-1):=λk a b=>
    KeyOrd.kle_antisymm (g3 k (lo+n1-1) a 'd' 'd') (iQ (show κ.kle (KK κ (q7 i_) (lo+n1-1)) (KK κ (q7 i_) lo) from e) (g3 lo k (aC _) a b))
   have kk:=kL (κ:=κ) (xs:=q7 i_) (i:=lo) (j:=lo+n1) (by rw[r1.size];lia) all;have d2:Dn κ (q7 (setArr i_ (mirror (q7 i_) lo (lo+n1) ((lo+n1-lo)/2)))) lo (n1+1):=by
    show Dn κ (mirror (q7 i_) lo (lo+n1) ((lo+n1-lo)/2)) lo (n1+1);refine Dn.step (λi j a b c=>?_) g1 ?_
    ·rw[kk,kk,all i a 'd',all j 'd' c];exact z6 _
    ·rw[kk,kk];exact gp qk
   generalize setArr i_ (mirror (q7 i_) lo (lo+n1) ((lo+n1-lo)/2))=qv at *;walk_at "desc"
 ·rw[qM hc];have r2:=r1;have d2:Dn κ (q7 i_) lo (n1+1):=by
   have e1:n1=1:=by lia
   subst e1;exact Dn.step (Dn.one _) (aC _) (gp qk)
  generalize hst2:i_=qv at *;walk_at "desc"
end
section
variable{prog:aP}{w:aY}{A:ba}{E:ab->ag->Prop}{s:ag}{κ:a7}{rA:bZ}{lo:Nat}{kd:KT}
def Z3(H:vH prog w A s κ kd)(J:∀x∈(q7 rA).toList,t5 κ x)(K:kindOf rA=kd)(L:1<=ok)(U:ok<=n)(V:lo+n<=(q7 rA).size)(M:Rl rA lo qH)(N:Up κ (q7 qH) lo ok)(q:∀f,Rl rA lo f->Up κ (q7 f) lo n->Q qb f):wpS (ay prog w) A E s (binarySort' lo n ok) Q qH:=by
 rw[binarySort'_eq];refine aF (dI (cQ (I:=λk c f=>Rl rA lo f/\c=(KM,())/\1<=k/\Up κ (q7 f) lo k) (Q:=λc f=>Rl rA lo f/\c=(KM,())/\Up κ (q7 f) lo n) ?_ ?_ ?_) ?_)
 ·rintro k c g _ W ⟨h,rfl,O,m⟩;refine aF (dI (cQ (I:=λj c f=>f=g/\∃l r,c=(KM,l,r)/\l<=r/\r<=k/\r-l<=k-j/\(∀i,i<l->κ.kle (KK κ (q7 g) (lo+i)) (KK κ (q7 g) (lo+k)))/\(∀i,r<=i->i<k->κ.blt (KK κ (q7 g) (lo+k)) (KK κ (q7 g) (lo+i))=qb)) (Q:=λc f=>f=g/\∃l,c=(KM,l,l)/\l<=k/\(∀i,i<l->κ.kle (KK κ (q7 g) (lo+i)) (KK κ (q7 g) (lo+k)))/\(∀i,l<=i->i<k->κ.blt (KK κ (q7 g) (lo+k)) (KK κ (q7 g) (lo+i))=qb)) ?_ ?_ ?_) ?_)
  ·rintro j c d _ X ⟨rfl,l,r,rfl,P,v,z,o,p⟩;show wpS _ _ _ _ (if l ≥ r then _ else _) _ d;by_cases B:l ≥ r
   ·rw[qq B];have:l=r:=by lia
    subst this;exact aL ⟨rfl,l,rfl,v,o,p⟩
   ·rw[qM B];refine aF (D3 (i:=lo+k) (j:=lo+(l+r)/2) H J K h 'd' 'd' ?_);cases e:κ.blt (KK κ (q7 d) (lo+k)) (KK κ (q7 d) (lo+(l+r)/2)) with
    |true=>exact aL ⟨rfl,l,(l+r)/2,rfl,by lia,by lia,by lia,o,λi y R=>KeyOrd.klt_of_klt_of_kle e (m _ _ 'd' 'd' 'd')⟩
    |false=>exact aL ⟨rfl,(l+r)/2+1,r,rfl,by lia,by lia,by lia,λi y=>iQ (m _ (lo+(l+r)/2) 'd' 'd' 'd') e,p⟩
  ·rintro c d ⟨rfl,l,r,rfl,P,v,z,o,p⟩;rw[d0] at z;have:l=r:=by lia
   subst this;exact⟨rfl,l,rfl,v,o,p⟩
  ·exact⟨rfl,0,k,rfl,by lia,by lia,by lia,λi y=>by lia,λi L Y=>by lia⟩
  ·rintro c d ⟨rfl,l,rfl,v,o,p⟩;show wpS (ay prog w) A E s (moveDown' (lo+k) (lo+l) >>= _) _ d;rw[moveDown'_eq];have t:lo+k<(q7 d).size:=by rw[h.size];lia
   have Z:lo+k-(lo+l)=k-l:=by lia
   refine aF (fR (aL ⟨⟨(bubble_perm _ _ _).trans h.perm,h.kind,h.failed,h.pend,λi y=>?_⟩,rfl,by lia,?_⟩))
   ·show(bubble (q7 d) (lo+k) (lo+k-(lo+l)))[i]?=_;rw[getElem?_bubble t _ 'd',qM 'd',qM 'd'];exact h.fix i y
   ·show Up κ (bubble (q7 d) (lo+k) (lo+k-(lo+l))) lo (k+1);have C:∀x,KK κ (bubble (q7 d) (lo+k) (lo+k-(lo+l))) x=if x=lo+l then KK κ (q7 d) (lo+k) else if lo+l<x/\x<=lo+k then KK κ (q7 d) (x-1) else KK κ (q7 d) x:=λx=>by
     rw[KK_bubble t 'd'];have:lo+k-(lo+k-(lo+l))=lo+l:=by lia
     rw[this]
    have S:∀x,lo<=x->x<lo+l->κ.kle (KK κ (q7 d) x) (KK κ (q7 d) (lo+k)):=λx a b=>by
     have:=o (x-lo) 'd';rw[show lo+(x-lo)=x by lia] at this;exact this
    have T:∀x,lo+l<=x->x<lo+k->κ.kle (KK κ (q7 d) (lo+k)) (KK κ (q7 d) x):=λx a b=>by
     have:=p (x-lo) 'd' 'd';rw[show lo+(x-lo)=x by lia] at this;exact gp this
    intro i j a b c;rw[C i,C j];by_cases D:i=lo+l
    ·rw[qq D];by_cases u:j=lo+l
     ·rw[qq u];exact z6 _
     ·rw[qM u,qq 'd'];exact T (j-1) 'd' 'd'
    ·rw[qM D];by_cases F:lo+l<i/\i<=lo+k
     ·rw[qq F,qM 'd',qq 'd'];exact m _ _ 'd' 'd' 'd'
     ·rw[qM F];by_cases u:j=lo+l
      ·rw[qq u];exact S i a 'd'
      ·rw[qM u];by_cases G:lo+l<j/\j<=lo+k
       ·rw[qq G];exact m _ _ a 'd' 'd'
       ·rw[qM G];exact m _ _ a b 'd'
 ·rintro c g ⟨h,rfl,O,m⟩;rw[show max (max ok 1) n=n by lia] at m;exact⟨h,rfl,m⟩
 ·exact⟨M,rfl,by lia,by rw[show max ok 1=ok by lia];exact N⟩
 ·rintro c g ⟨h,rfl,m⟩;exact aL (q g h m)
end
def ux:Nat->List (List bh)->List (Nat×Nat)
 |_,[]=>[]
 |b,X::S=>(b,X.length)::ux (b+X.length) S
theorem Hu:∀(S T:List (List bh))(b:Nat),ux b (S++T)=ux b S++ux (b+S.flatten.length) T
 |[],T,b=>by simp[ux]
 | X::S,T,b=>by
  rw[kl,ux,ux,kl,Hu S T,iu,aw,lX]
theorem AX:∀(S:List (List bh))(b:Nat),(ux b S).length=S.length
 |[],_=>rfl
 |X::S,b=>by rw[ux,aV,AX S,aV]
def se(t:Nat×Nat×Nat):Nat×Nat:=(t.1,t.2.1)
structure Pn(κ:a7)(kd:KT)(L0:List bh)(st:bZ)(lo:Nat)(S:List (List bh))(R:List bh):Prop where
 arr:(q7 st).toList=S.flatten++R
 lo:S.flatten.length=lo
 pend:(q8 st).toList.map se=ux 0 S
 ne:∀X∈S,1<=X.length
 srt:∀X∈S,qC κ X
 kind:kindOf st=kd
 failed:failedOf st=KM
 perm:(q7 st).toList.Perm L0
def Pn.size{κ:a7}{kd:KT}{a:List bh}{st:bZ}{lo:Nat}{S:List (List bh)}{R:List bh}(h:Pn κ kd a st lo S R):(q8 st).size=S.length:=by have:=congrArg kQ h.pend;rw[au,aB,AX] at this;exact this
theorem Qr:∀(S:List (List bh)),(∀X∈S,1<=X.length)->S.length<=S.flatten.length
 |[],_=>by simp
 | X::S,h=>by
  rw[iu,aw,aV];have:=h X ar;have:=Qr S λY a=>h Y (aj _ a);lia
theorem RG{α:Type}:∀(S:List α)(i:Nat),i+1<S.length->∃a X Y b,S=a++X::Y::b/\a.length=i
 |[],i,h=>by simp at h
 |[_],i,h=>by simp at h
 |X::Y::S,0,_=>⟨[],X,Y,S,rfl,rfl⟩
 | X::Y::S,i+1,h=>by
  obtain⟨a,A,B,b,e,l⟩:=RG (Y::S) i (by simpa using h);exact⟨X::a,A,B,b,by rw[e];rfl,by simp[l]⟩
theorem Sa{α a:Type}(f:α->a):∀(l:List α)(i:Nat),(l.eraseIdx i).map f=(l.map f).eraseIdx i
 |[],_=>rfl
 |_::_,0=>rfl
 |x::l,i+1=>by simp[Sa f l i]
section
variable{prog:aP}{w:aY}{A:ba}{E:ab->ag->Prop}{s:ag}{κ:a7}{L0:List bh}{st:bZ}{lo:Nat}{kd:KT}
def Pd(I:vH prog w A s κ kd)(J:∀x∈L0,t5 κ x)(p:Pn κ kd L0 st lo S R)(K:i+1<S.length)(q:∀g r,Pn κ kd L0 g lo r R->r.length+1=S.length->Q qb g):wpS (ay prog w) A E s (mergeAt' i) Q st:=by
 obtain⟨c,X,Y,d,rfl,j⟩:=RG S i K;have l:=p.pend;rw[Hu,ux,ux,fY] at l;have u:∀k a b,(ux 0 c++(c.flatten.length,X.length)::(c.flatten.length+X.length,Y.length)::ux (c.flatten.length+X.length+Y.length) d)[k]?=KF (a,b)->∃v,(q8 st)[k]?=KF (a,b,v):=λk a b h=>by
  rw[<- l,be] at h;have L:(q8 st)[k]?=(q8 st).toList[k]?:=by simp
  cases e:(q8 st).toList[k]? with
  |none=>rw[e] at h;cases h
  | some t=>
   rw[e] at h;obtain⟨x,y,z⟩:=t;injection h with h;unfold se at h;injection h with h1 h2;dsimp only at h1 h2;exact⟨z,by rw[L,e,h1,h2]⟩
 obtain⟨v,B⟩:=u i c.flatten.length X.length (by rw[aU (by rw[AX];lia),AX,j,ie];rfl);obtain⟨W,C⟩:=u (i+1) (c.flatten.length+X.length) Y.length (by rw[aU (by rw[AX];lia),AX,j,bV];rfl);have m:(q7 st).toList=c.flatten++(X++(Y++(d.flatten++R))):=by rw[p.arr];simp
 have n:X∈c++X::Y::d:=by simp
 have D:Y∈c++X::Y::d:=by simp
 refine Wt I p.kind p.failed m B C (p.ne X n) (p.ne Y D) (p.srt X n) (p.srt Y D) (λx N=>J x (p.perm.mem_iff.mp (by
   rw[m];rcases aQ.mp N with h|h<;>simp[h]))) λg M O P T F G U=>?_
 have o:M.length=X.length+Y.length:=by rw[G.length_eq,aw]
 refine q g (c++M::d) ⟨?_,?_,?_,?_,?_,O,P,?_⟩ (by simp;lia)
 ·rw[F];simp
 ·rw[<- p.lo];simp[o];lia
 ·rw[T,Hu,ux,fY,o];have Fc:i<(q8 st).size:=(jQ.mp B).1;have V:i+1<(q8 st).size:=(jQ.mp C).1;rw[Array.eraseIdxIfInBounds,dif_pos (by rw[kn];exact V),Array.toList_eraseIdx,jP,Sa,List.map_set,l];have H:(ux 0 c).length=i:=by rw[AX,j]
  rw[lz _ _ 'd',H,ie,fx,List.eraseIdx_append_of_length_le 'd',H,bV];show _++(_::ux _ d)=_;rw[lX];rfl
 ·intro Z f;simp only[aQ,am] at f;rcases f with h|rfl|h
  ·exact p.ne Z (by simp[h])
  ·rw[o];have:=p.ne X n;lia
  ·exact p.ne Z (by simp[h])
 ·intro Z f;simp only[aQ,am] at f;rcases f with h|rfl|h
  ·exact p.srt Z (by simp[h])
  ·exact U
  ·exact p.srt Z (by simp[h])
 ·rw[F];refine List.Perm.trans ?_ p.perm;rw[m];refine fC _ ?_;rw[<- aZ X];exact G.append_right _
end
section
variable{prog:aP}{w:aY}{A:ba}{E:ab->ag->Prop}{s:ag}{κ:a7}{L0:List bh}{st:bZ}{lo:Nat}{kd:KT}
def XA(u:Up κ xs lo m)(h:lo+m<=xs.size):qC κ ((xs.toList.drop lo).take m):=by
 unfold qC;rw[dU];intro i j b c d;rw[bT,cu,aB] at b c;have a:∀k,k<m->∀(a:k<((xs.toList.drop lo).take m).length),ky κ ((xs.toList.drop lo).take m)[k]=KK κ xs (lo+k):=λk e a=>by
  rw[mO,mP];unfold KK ky;rw[fT,a9 'd']
 unfold Le;rw[a i 'd',a j 'd'];exact u _ _ 'd' 'd' 'd'
def Pn.run(p:Pn κ kd L0 st lo S R)(r:Rl st lo i_)(h:lo+m<=(q7 st).size)(u:Up κ (q7 i_) lo m):∃c,Pn κ kd L0 i_ lo S c/\c.length=R.length/\qC κ (c.take m):=by
 have d:=p.lo;have a:=r.size;have b:(q7 i_).toList.length=lo+R.length:=by rw[aB,a,<- aB,p.arr,aw,d]
 have f:(q7 i_).toList.take lo=S.flatten:=by
  have e:(q7 st).toList.take lo=S.flatten:=by rw[p.arr,<- d,nT]
  rw[<- e];apply mR;intro i;by_cases g:i<lo
  ·rw[fV g,fV g,dB,dB];exact r.fix i g
  ·rw[jR 'd',jR 'd']
 have j:(q7 i_).toList=S.flatten++(q7 i_).toList.drop lo:=by
  conv=>lhs;rw[<- cn lo (q7 i_).toList]
  rw[f]
 refine⟨(q7 i_).toList.drop lo,⟨j,d,by rw[r.pend];exact p.pend,p.ne,p.srt,r.kind.trans p.kind,r.failed.trans p.failed,(dM.mp r.perm).trans p.perm⟩,by rw[cu,b];lia,?_⟩;exact XA u (by rw[a];exact h)
def Pn.push(p:Pn κ kd L0 st lo S R)(c:1<=m)(e:m<=R.length)(d:qC κ (R.take m)):Pn κ kd L0 (setPending st ((q8 st).push (lo,m,pw))) (lo+m) (S++[R.take m]) (R.drop m):=by
 have a:(R.take m).length=m:=by rw[bT];lia
 refine⟨?_,?_,?_,?_,?_,p.kind,p.failed,p.perm⟩
 ·show(q7 st).toList=_;rw[p.arr];simp
 ·rw[List.flatten_append,aw,p.lo];show lo+(R.take m++[]).length=_;rw[bz,a]
 ·show((q8 st).push (lo,m,pw)).toList.map se=_;rw[eQ,bA,p.pend,Hu,p.lo,fY,ux,ux,a];rfl
 ·intro X b;rcases aQ.mp b with h|h
  ·exact p.ne X h
  ·rw[dE.mp h,a];exact c
 ·intro X b;rcases aQ.mp b with h|h
  ·exact p.srt X h
  ·rw[dE.mp h];exact d
theorem Sy{α a:Type}(f:α->a)(g:α->α)(h:∀x,f (g x)=f x):∀(l:List α)(i:Nat),(l.modify i g).map f=l.map f
 |[],_=>by simp
 |x::l,0=>by simp[h]
 |x::l,i+1=>by simp[Sy f g h l i]
def Pn.power(p:Pn κ kd L0 st lo S R)(a:∀x,se (g x)=se x)(i:Nat):Pn κ kd L0 (setPending st ((q8 st).modify i g)) lo S R:=by refine⟨p.arr,p.lo,?_,p.ne,p.srt,p.kind,p.failed,p.perm⟩;show((q8 st).modify i g).toList.map se=_;rw[Array.toList_modify,Sy se g a,p.pend]
def W1(h:qC κ xs.toList):jz κ xs xs.size:=λi j d a=>by
 by_cases e:i=j
 ·subst e;exact z6 _
 have b:KK κ xs i=ky κ xs[i]:=by unfold KK ky;rw[a9 'd']
 have c:KK κ xs j=ky κ xs[j]:=by unfold KK ky;rw[a9 a]
 rw[b,c];have:=dU.mp h i j (by rw[aB];lia) (by rw[aB];lia) 'd';rw[fT,fT] at this;exact this
set_option hygiene false in
local macro_rules|`(tactic| walk_at "jp")=>`(tactic| (
 refine aF (gU ?_)
 cases hb:(pendingOf qf).back? with
 | none=>exact aF (fR (aL ⟨lo+m,_,_,rfl,p3.push Mu Fs s3,by lia⟩))
 | some t=>
  obtain⟨s1,n1',pw0⟩:=t
  refine aF (dI (cQ (I:=λj c i_=>c=(none,())/\∃ S',Pn κ kd a₀.toList i_ lo S' R3) (Q:=λc i_=>c=(none,())/\∃ S',Pn κ kd a₀.toList i_ lo S' R3) ?_ ?_ ?_) ?_)
  ·rintro j c rg _ _ ⟨rfl,S',p4⟩
   refine aF (gU ?_)
   show wpS _ _ _ _ (match (if (pendingOf rg).size>1 then (pendingOf rg)[(pendingOf rg).size-2]? else none) with|some (fst,fst_1,Af)=>_|x=>_) _ rg
   cases ht:(if (pendingOf rg).size>1 then (pendingOf rg)[(pendingOf rg).size-2]? else none) with
   | none=>exact aL ⟨rfl,S',p4⟩
   | some t=>
    obtain⟨x,y,Af⟩:=t
    have hz:(pendingOf rg).size>1:=by
     by_cases hz:(pendingOf rg).size>1
     ·exact hz
     ·rw[if_neg hz] at ht;cases ht
    show wpS _ _ _ _ (if Af<=_ then _ else _) _ rg
    split
    ·exact aL ⟨rfl,S',p4⟩
    ·exact aF (Pd ho has p4 (by rw[p4.size] at *;lia) λHW S5 p5 _=>aL ⟨rfl,S5,p5⟩)
  ·rintro c rg h;exact h
  ·exact⟨rfl,S,p3⟩
  ·rintro c rg ⟨rfl,S',p4⟩
   refine aF (fR (aF (fR (aL ⟨lo+m,_,_,rfl,Pn.push (Pn.power p4 ?_ _) Mu Fs s3,by lia⟩))))
   rintro⟨a,b,c⟩
   rfl))
set_option maxHeartbeats 0 in
def Q3(ho:vH prog w A s κ kd)(hs:je κ a₀)(bp:(q7 st).Perm a₀)(bk:kindOf st=kd)(bf:failedOf st=KM)(bn:q8 st = #[])(q:∀i_,(q7 i_).Perm a₀->failedOf i_=KM->jz κ (q7 i_) a₀.size->Q () i_):wpS (ay prog w) A E s sortRuns' Q st:=by
 have has:∀x∈a₀.toList,t5 κ x:=hs;have p0:Pn κ kd a₀.toList st 0 [] (q7 st).toList:=⟨rfl,rfl,by rw[bn];rfl,by simp,by simp,bk,bf,dM.mp bp⟩;have hN:(q7 st).size=a₀.size:=bp.size_eq;rw[sortRuns'_eq];refine aF (gU ?_);show wpS _ _ _ _ (forIn [:(q7 st).size] (KM,0) _ >>= _) Q st;rw[hN];refine aF (dI (cQ (I:=λk c i_=>∃lo S R,c=(KM,lo)/\Pn κ kd a₀.toList i_ lo S R/\k<=lo) (Q:=λc i_=>∃lo S R,c=(KM,lo)/\Pn κ kd a₀.toList i_ lo S R/\a₀.size<=lo) ?_ ?_ ?_) ?_)
 ·rintro k c qH _ hk ⟨lo,S,R,rfl,p,Fv⟩;have hlen:lo+R.length=a₀.size:=by
   have:=p.perm.length_eq;rw[p.arr,aw,p.lo,aB] at this;exact this
  have hsz:(q7 qH).size=a₀.size:=by rw[<- aB,p.perm.length_eq,aB]
  show wpS _ _ _ _ (if lo ≥ _ then _ else _) _ qH;by_cases hc:lo ≥ a₀.size
  ·rw[qq (by first|exact hc|(rw[hN];exact hc))];exact aL ⟨lo,S,R,rfl,p,hc⟩
  rw[qM (by first|exact hc|(rw[hN];exact hc))];have FK:∀x∈(q7 qH).toList,t5 κ x:=λx hx=>has x (p.perm.mem_iff.mp hx);refine aF (zdR (lo:=lo) (nrem:=a₀.size-lo) ho FK p.kind 'd' 'd' (Rl.refl qH lo) λn qv r2 n1 n2 u2=>?_);show wpS _ _ _ _ (if n<minRun' a₀.size a₀.size 0 then _ else _) _ qv;by_cases hm:n<minRun' a₀.size a₀.size 0
  ·rw[qq hm];refine aF (jm (dR ⟨rfl,aF (Z3 (lo:=lo) (n:=min (a₀.size-lo) (minRun' a₀.size a₀.size 0)) (ok:=n) ho FK p.kind n1 'd' 'd' r2 u2 λqf r3 u3=>?_)⟩));obtain⟨R3,p3,l3,s3⟩:=p.run r3 'd' u3;have Mu:1<=min (a₀.size-lo) (minRun' a₀.size a₀.size 0):=by lia
   have Fs:min (a₀.size-lo) (minRun' a₀.size a₀.size 0)<=R3.length:=by lia
   generalize min (a₀.size-lo) (minRun' a₀.size a₀.size 0)=m at *;walk_at "jp"
  ·rw[qM hm];obtain⟨R3,p3,l3,s3⟩:=p.run r2 'd' u2;have Mu:1<=n:=n1;have Fs:n<=R3.length:=by lia
   generalize E8:qv=qf at *;generalize hmn:n=m at *;walk_at "jp"
 ·rintro c qH ⟨lo,S,R,rfl,p,Fv⟩;exact⟨lo,S,R,rfl,p,by rw[d0] at Fv;exact Fv⟩
 ·exact⟨0,[],_,rfl,p0,aC _⟩
 ·rintro c qH ⟨lo,S,R,rfl,p,Fv⟩;have hR:R=[]:=by
   have h:=p.perm.length_eq;rw[p.arr,aw,p.lo] at h;have h2:a₀.toList.length=a₀.size:=aB;exact cG.mp 'd'
  refine aF (dI (cQ (I:=λk c i_=>c=(KM,())/\∃S,Pn κ kd a₀.toList i_ lo S R/\S.length<=a₀.size-k) (Q:=λc i_=>c=(KM,())/\∃S,Pn κ kd a₀.toList i_ lo S R/\S.length<=1) ?_ ?_ ?_) ?_)
  ·rintro k c qv _ hk ⟨rfl,S',p2,hS⟩;refine aF (gU ?_);show wpS _ _ _ _ (if (q8 qv).size<=1 then _ else _) _ qv;by_cases hc:(q8 qv).size<=1
   ·rw[qq hc];exact aL ⟨rfl,S',p2,by rw[<- p2.size];exact hc⟩
   ·rw[qM hc];have hsz:=p2.size;refine aF (Pd ho has p2 ?_ λqf S3 p3 h3=>aL ⟨rfl,S3,p3,by lia⟩)
    repeat' split
    all_goals lia
  ·rintro c qv ⟨rfl,S',p2,hS⟩;exact⟨rfl,S',p2,by rw[d0] at hS;lia⟩
  ·refine⟨rfl,S,p,?_⟩;have h1:=Qr S p.ne;have h:=p.perm.length_eq;rw[p.arr,aw] at h;have h2:a₀.toList.length=a₀.size:=aB;lia
  ·rintro c qv ⟨rfl,S',p2,hS⟩;have vd:=p2.arr;rw[hR,bz] at vd;have hsz:(q7 qv).size=a₀.size:=by rw[<- aB,p2.perm.length_eq,aB]
   refine aL (q qv (dM.mpr p2.perm) p2.failed ?_);rw[<- hsz];apply W1;rw[vd]
   match S',hS with
   |[],_=>exact d8
   |[X],_=>rw[iu,List.flatten_nil,bz];exact p2.srt X ar
end
def list_sort_big(m:κ.OneLt)(g:s.heap.get? a=KF (seqObj "list" vs.toArray n))(o:je κ (pairsOf vs))(p:∀r t b,vs=r::t::b->keyKind' (r::t::b).toArray=pure oneType')
  (u:vs.length<=4000000) (q:∀c:bZ,(q7 c).Perm (pairsOf vs)->jz κ (q7 c) (pairsOf vs).size->P (Fin.done (Flow.ret gJ)) { heap:=sortedHeap s.heap a vs (gH (λx=>x.snd) (q7 c)),gens:=s.gens,drawn:=s.drawn,toks:=s.toks,os:=s.os }):ao (ay prog w) A (dF.«list.sort» { pos:=[fu a] }) P E s:=by
 by_cases v:vs.length<64
 ·exact list_sort_treeK m g o p v q
 rw[list_sort_plain];have y:(4000000:Nat)<=xc:=by decide
 obtain⟨v1,d,b,rfl⟩:∃v1 d b,vs=v1::d::b:=by
  match vs,v with
  |[],h=>exact absurd (by show 0<64;decide) h
  |[_],h=>exact absurd (by show 1<64;decide) h
  |v1::d::b,_=>exact⟨v1,d,b,rfl⟩
 generalize k:v1::d::b=vs at *;have z:=cm (bw λ_=>#[]) g rfl;have B:=af (seqObj "list" #[] 0) (af (seqObj "tuple" vs.toArray 0) z);refine aa (i8 g rfl (aa (iI g rfl (aa (jt z rfl (aa (im (aa (gP (bH ?_) 'u')) (by simpa using aI u y))))) (by simpa using aI u y) (by show 0<=xc+1;lia))));have f:¬ vs.toArray.size<2:=by rw[aJ];lia
 show ao (ay prog w) A (if vs.toArray.size<2 then _ else _) P E _;rw[qM f,<- k,p v1 d b k.symm,k];refine aa (ai ?_);rw[qM f];show ao (ay prog w) A (sortRuns'.run (lO oneType' (vs.toArray.zip vs.toArray) #[] 7 KM) >>= _) P E { heap:=((s.heap.update a (bw λx=>#[])).push (seqObj "tuple" vs.toArray 0)).push (seqObj "list" #[] 0),gens:=s.gens,drawn:=s.drawn,toks:=s.toks,os:=s.os };refine aa (cy (Q3 (Q:=λ_ c=>(q7 c).Perm (pairsOf vs)/\failedOf c=KM/\jz κ (q7 c) (pairsOf vs).size) (vH.one m) (a₀:=pairsOf vs) o (i7 _) rfl rfl rfl λc i j l=>⟨i,j,l⟩) ?_ λ_ _ h=>h);rintro⟨_,c⟩ C ⟨rfl,i,j,l⟩;have D:(gH (λx=>x.snd) (q7 c)).size<=4000000:=by
  rw[lA,i.size_eq];show(vs.toArray.zip vs.toArray).size<=_;rw[nU,aJ];lia
 refine aa (jt B rfl (aa (iI B rfl ?_ (by show 0<=xc;lia) (by show(gH _ _).size<=xc+1;lia))));dsimp only at j;show ao (ay prog w) A (match failedOf c with|some e=>_|x=>_) P E _;rw[j];show ao (ay prog w) A (if ((if _ then n else n+1) !=(if _ then n else n+1))=qb then _ else _) P E _;rw[qM 'k'];exact ai (q c i l)
def B1:ab->Option (List Nat)
 |.str x _=>KF x.cps.toList
 |_=>KM
def allS:List ab->Option (List (List Nat))
 |[]=>KF []
 | v::vs=>match B1 v,allS vs with
  |some a,KF r=>KF (a::r)
  |_,_=>KM
def zS(h:aX):ab->Option (List (List Nat))
 | .ref t=>match h.get? t with
  | some o=>match o.data with
   |.seq g_ _=>allS g_.toList
   |_=>KM
  |none=>KM
 |_=>KM
def llt_irrefl(a:List (List Nat)):¬ a<a:=gE a
def llt_trans{a b c:List (List Nat)}(d:a<b)(e:b<c):a<c:=iJ d e
def llt_total{a b:List (List Nat)}(c:¬ a<b)(d:¬ b<a):a=b:=ko (iD.mp d) (iD.mp c)
def zW(h:aX):a7 where
 α:=List (List Nat)
 blt:=λa b=>decide (a<b)
 irrefl:=λa=>decide_eq_false (llt_irrefl a)
 trans:=λa b c h1 h2=>decide_eq_true (llt_trans (of_decide_eq_true h1) (of_decide_eq_true h2))
 negTrans:=λa b c h=>by
  by_cases h1:a<b
  ·exact .inl (decide_eq_true h1)
  ·right;have hac:=of_decide_eq_true h;by_cases h2:b<a
   ·exact decide_eq_true (llt_trans h2 hac)
   ·rw[<- llt_total h1 h2];exact h
 total:=λa b h1 h2=>llt_total (of_decide_eq_false h1) (of_decide_eq_false h2)
 keyOf:=zS h
 dflt:=[]
def yz:List (List Nat)->List (List Nat)->Option Bool
 |a::as,b::bs=>if a=b then yz as bs else KF (decide (a<b))
 |_,_=>KM
theorem Qm:∀c d:List (List Nat),(match yz c d with|some r=>r|none=>decide (c.length<d.length))=decide (c<d)
 |[],[]=>by simp[yz]
 |[],b::d=>by simp[yz]
 |a::c,[]=>by simp[yz]
 | a::c,b::d=>by
  unfold yz;by_cases e:a=b
  ·subst e;rw[qq rfl];have:=Qm c d;rw[aV,aV];have f:decide (c.length+1<d.length+1)=decide (c.length<d.length):=by simp
   rw[f,this];simp[lB]
  ·rw[qM e];show decide (a<b)=_;simp[lB,e]
theorem R1
  (l:∀x y i a b{Q:ForInStep (Option Bool×Unit)->ag->Prop},B1 x=KF a->B1 y=KF b->Q (if a=b then .yield (KM,()) else .done (KF (decide (a<b)),())) s->ao M A (f ((x,y),i) (KM,())) Q E s):
  ∀(xs c:List ab)(as bs:List (List Nat))(j:Nat){Q:Option Bool×Unit->ag->Prop},allS xs=KF as->allS c=KF bs->Q (yz as bs,()) s->ao M A (forIn ((xs.zip c).zipIdx j) (KM,()) f) Q E s
 | [],c,as,bs,j,Q,h1,h2,q=>by
  cases h1;exact ai (by cases bs<;>exact q)
 | x::xs,[],as,bs,j,Q,h1,h2,q=>by
  cases h2;exact ai (by cases as<;>exact q)
 | x::xs,y::c,as,bs,j,Q,h1,h2,q=>by
  unfold allS at h1 h2;split at h1
  ·rename_i a d m g;split at h2
   ·rename_i b h n k;cases h1;cases h2;rw[jA,iO,ge];refine aa (l x y j a b m n ?_);unfold yz at q;by_cases e:a=b
    ·rw[qq e] at q ⊢;exact R1 l xs c d h (j+1) g k q
    ·rw[qM e] at q ⊢;exact ai q
   ·cases h2
  ·cases h1
theorem PM{M:iY}{A:ba}{E:ab->ag->Prop}{s:ag}{α a:Type}{f:α->Sem a}(g:α->a):∀(l:List α){Q:List a->ag->Prop},(∀v∈l,∀(b:a->ag->Prop),b (g v) s->ao M A (f v) b E s)->Q (l.map g) s->ao M A (List.mapM f l) Q E s
 |[],Q,_,q=>by rw[List.mapM_nil];exact ai q
 | v::l,Q,h,q=>by
  rw[List.mapM_cons];exact aa (h v ar _ (aa (PM g l (λu c=>h u (aj _ c)) (ai q))))
def P5{M:iY}{A:ba}{E:ab->ag->Prop}{s:ag}{α a:Type}{f:α->Sem a}(g:α->a)(l:List α){Q:Array a->ag->Prop}(h:∀v∈l,∀(b:a->ag->Prop),b (g v) s->ao M A (f v) b E s)(q:Q (l.map g).toArray s):ao M A (Array.mapM f l.toArray) Q E s:=by rw[Array.mapM_eq_mapM_toList];refine aa (PM g l h (ai q))
section
variable{prog:aP}{w:aY}{A:ba}{E:ab->ag->Prop}{s:ag}
def DQ(h:B1 v=KF a):∃x t,v=.str x t/\x.cps.toList=a:=by
 cases v with
 |str x t=>exact⟨x,t,rfl,by cases h;rfl⟩
 |_=>cases h
def Xo(c:B1 x=KF a)(d:B1 y=KF b)(q:Q (decide (a<b)) s):ao (ay prog w) A (oneLt' o x y) Q E s:=by
 obtain⟨x,t,rfl,rfl⟩:=DQ c;obtain⟨y,u,rfl,rfl⟩:=DQ d;cases o with
 |true=>exact lY prog w A E s _ _ _ _ rfl rfl q
 | false=>
  rw[oneLt'_eq,qM 'u'];refine aa (show ao (ay prog w) A (cM CmpOp.Lt _ _) _ E s from P.lt_str ?_);exact ai q
structure TupS(h:aX)(v:ab)(ks:List (List Nat)):Prop where
 ok:∃t o g_ c,v=.ref t/\h.get? t=KF o/\o.cls=.type "tuple"/\o.data=.seq g_ c/\allS g_.toList=KF ks
noncomputable def AN(h:aX)(v:ab):Option ab:=match v with
 | .ref t=>match h.get? t with
  | some o=>match o.data with
   |.seq g_ _=>g_[0]?
   |_=>KM
  |none=>KM
 |_=>KM
def RF(g:h.get? t=KF o)(a:o.data=.seq g_ c):AN h (.ref t)=g_[0]?:=by show(match h.get? t with|some o=>(match o.data with|.seq g_ _=>g_[0]?|_=>KM)|none=>KM)=_;rw[g];dsimp only;rw[a]
def OA(e:zS h v=KF ks):∃t o a c,v=.ref t/\h.get? t=KF o/\o.data=.seq a c/\allS a.toList=KF ks:=by
 cases v with
 | ref t=>
  unfold zS at e;dsimp only at e;cases g:h.get? t with
  |none=>rw[g] at e;cases e
  | some o=>
   rw[g] at e;dsimp only at e;cases b:o.data with
   |seq a c=>rw[b] at e;exact⟨t,o,a,c,rfl,g,b,e⟩
   |_=>rw[b] at e;cases e
 |_=>cases e
def KQ(ok:TupS h v ks)(d:ks≠[]):∃x tk,AN h v=KF (.str x tk):=by
 obtain⟨t,o,f,c,rfl,g,k,i,b⟩:=ok;rw[RF g i,<- dB];cases e:f.toList with
 |nil=>rw[e] at b;cases b;exact absurd rfl d
 | cons x r=>
  rw[e] at b;unfold allS at b;split at b
  ·rename_i a l j m;obtain⟨y,tk,rfl,_⟩:=DQ j;exact⟨y,tk,rfl⟩
  ·cases b
theorem Kh:∀{l:List ab}{ks:List (List Nat)},allS l=KF ks->l.length=ks.length
 |[],ks,h=>by cases h;rfl
 | v::l,ks,h=>by
  unfold allS at h;split at h
  ·rename_i a r c b;cases h;rw[aV,aV,Kh b]
  ·cases h
def zaa{vs:List ab}(S:2<=vs.length)(j:∀v∈vs,∃k,TupS s.heap v k/\k≠[]){Q:KT->ag->Prop}(q:∀kd:KT,vH prog w A s (zW s.heap) kd->Q kd s):ao (ay prog w) A (keyKind' vs.toArray) Q E s:=by
 show ao (ay prog w) A (_ >>= _) Q E s;refine aa (P5 (AN s.heap) vs (λv f l I=>?_) ?_)
 ·obtain⟨k,⟨t,o,T,c,rfl,g,U,K,ha⟩,m⟩:=j v f;show ao (ay prog w) A (typeOf (.ref t) >>= _) l E s;refine aa (wpAny_typeOf_ref g ?_);rw[U];show ao (ay prog w) A (kU (.ref t) >>= _) l E s;refine aa (i8 g K (ai ?_));rw[<- RF g K];exact I
 ·have V:((vs.map (AN s.heap)).toArray.all λx=>x.isSome)=qb:=by
   rw[m8,av];intro x d;obtain⟨v,f,rfl⟩:=az.mp d;obtain⟨k,C,m⟩:=j v f;obtain⟨y,n,e⟩:=KQ C m;rw[e];rfl
  rw[qq V];refine aa (dR ?_);have W:∀u∈(vs.map (AN s.heap)).filterMap id,∃y n,u=.str y n:=λu X=>by
   obtain⟨x,d,e⟩:=g9.mp X;obtain⟨v,f,rfl⟩:=az.mp d;obtain⟨k,C,m⟩:=j v f;obtain⟨y,n,D⟩:=KQ C m;rw[D] at e;injection e with e;exact⟨y,n,e.symm⟩
  have F:(vs.map (AN s.heap)).filterMap id≠[]:=by
   match vs,S,j with
   | v::_,_,j=>
    obtain⟨k,C,m⟩:=j v ar;obtain⟨y,n,D⟩:=KQ C m;rw[bq,D];simp
  rw[List.filterMap_toArray];generalize (vs.map (AN s.heap)).filterMap id=p at *;refine aa ?_;show ao (ay prog w) A (Array.mapM typeOf p.toArray >>= _) _ E s;refine aa (P5 (λ_=>ez "str") p (λv f l I=>?_) ?_)
  ·obtain⟨y,n,rfl⟩:=W v f;exact ai I
  ·have Y:((p.map λ_=>ez "str").toArray)[0]?=KF (ez "str"):=by
    cases p with
    |nil=>exact absurd rfl F
    |cons _ _=>rfl
   rw[Y];have J:((p.map λ_=>ez "str").toArray.all λx=>x==ez "str")=qb:=by
    rw[m8,av];intro x d;obtain⟨_,_,rfl⟩:=az.mp d;rfl
   show ao (ay prog w) A (pure (if ((p.map λ_=>ez "str").toArray.all λx=>x==ez "str")=qb then KF (ez "str") else KM)) _ E s;rw[J];refine ai (ai (q _ ?_));intro x y L l d z B;obtain⟨(G:List (List Nat)),d⟩:=d;obtain⟨(H:List (List Nat)),z⟩:=z;have Z:ky (zW s.heap) x=G:=by unfold ky;rw[d];rfl
   have eb:ky (zW s.heap) y=H:=by unfold ky;rw[z];rfl
   rw[Z,eb] at B;obtain⟨t,o,T,c,J,g1,d1,M⟩:=OA d;obtain⟨t2,o2,sh,c2,D,g2,d2,N⟩:=OA z;rw[J,D];show ao (ay prog w) A (kU (.ref t) >>= _) l L s;refine aa (i8 g1 d1 (aa (i8 g2 d2 (aa (R1 ?_ _ _ G H 0 M N ?_)))))
   ·intro x y i a b Q d z q;obtain⟨x,t,rfl,rfl⟩:=DQ d;obtain⟨y,u,rfl,rfl⟩:=DQ z;show ao (ay prog w) A (eqBool (.str x t) (.str y u) >>= _) Q L s;refine aa (wpAny_eqBool_str ?_);by_cases e:x=y
    ·subst e;rw[qq rfl] at q;rw[decide_eq_true rfl];exact ai q
    ·have ne:x.cps.toList≠y.cps.toList:=λh=>e (by
      cases x;cases y;dsimp only at h;rw[m9.mp h])
     rw[qM ne] at q;rw[decide_eq_false e];exact aa (Xo rfl rfl (ai q))
   ·have O:=Kh M;have P:=Kh N;rw[aB] at O P;have R:=Qm G H;rw[<- O,<- P] at R
    replace B:l (decide (G<H)) s:=B
    rw[<- R] at B;generalize yz G H=r at *;cases r with
    |none=>exact ai B
    |some r=>exact ai B
end
def keyT(h:aX)(v:ab):List (List Nat):=(zS h v).getD []
def Sb(h:p∈(pairsOf vs).toList):p.1=p.2/\p.1∈vs:=by
 have e:(pairsOf vs).toList=vs.zip vs:=by simp[pairsOf]
 rw[e] at h;have a:vs.zip vs=vs.map λv=>(v,v):=by
  clear h e
  induction vs with
  |nil=>rfl
  |cons v r ih=>rw[jA,ih];rfl
 rw[a] at h;obtain⟨v,b,rfl⟩:=az.mp h;exact⟨rfl,b⟩
def zdP(vs:List ab):(pairsOf vs).toList.map (λx=>x.2)=vs:=by
 have e:(pairsOf vs).toList=vs.zip vs:=by simp[pairsOf]
 rw[e]
 induction vs with
 |nil=>rfl
 |cons v r ih=>rw[jA,bq,ih (by simp[pairsOf])]
def z7h(F:s.heap.get? a=KF (seqObj "list" vs.toArray n))(hv:∀v∈vs,∃f,TupS s.heap v f/\(2<=vs.length->f≠[]))(S:vs.length<=4000000)
  (q:∀d:Array ab,d.toList.Perm vs->d.toList.Pairwise (λx y=>¬ keyT s.heap y<keyT s.heap x)->P (Fin.done (Flow.ret gJ)) { heap:=sortedHeap s.heap a vs d,gens:=s.gens,drawn:=s.drawn,toks:=s.toks,os:=s.os }):ao (ay prog w) A (dF.«list.sort» { pos:=[fu a] }) P E s:=by
 rw[list_sort_plain];have T:(4000000:Nat)<=xc:=by decide
 have U:=cm (bw λ_=>#[]) F rfl;have G:=af (seqObj "list" #[] 0) (af (seqObj "tuple" vs.toArray 0) U);have l:∀v∈vs,∃f,TupS (((s.heap.update a (bw λx=>#[])).push (seqObj "tuple" vs.toArray 0)).push (seqObj "list" #[] 0)) v f/\(2<=vs.length->f≠[])/\zS (((s.heap.update a (bw λx=>#[])).push (seqObj "tuple" vs.toArray 0)).push (seqObj "list" #[] 0)) v=zS s.heap v:=λv h=>by
  obtain⟨f,⟨t,o,r,c,rfl,g,K,L,M⟩,qJ⟩:=hv v h;have ne:a≠t:=λe=>by
   subst e;rw[F] at g;cases g;exact absurd K 'k'
  have V:=af (seqObj "list" #[] 0) (af (seqObj "tuple" vs.toArray 0) ((cz s.heap (bw λ_=>#[]) ne).trans g));refine⟨f,⟨t,o,r,c,rfl,V,K,L,M⟩,qJ,?_⟩;show(match Heap.get? _ t with|some o=>(match o.data with|.seq r _=>allS r.toList|_=>KM)|none=>KM)=(match s.heap.get? t with|some o=>(match o.data with|.seq r _=>allS r.toList|_=>KM)|none=>KM);rw[V,g]
 refine aa (i8 F rfl (aa (iI F rfl (aa (jt U rfl (aa (im (aa (gP (bH ?_) 'u')) (by simpa using aI S T))))) (by simpa using aI S T) (by show 0<=xc+1;lia))));show ao (ay prog w) A _ P E { heap:=((s.heap.update a (bw λx=>#[])).push (seqObj "tuple" vs.toArray 0)).push (seqObj "list" #[] 0),gens:=s.gens,drawn:=s.drawn,toks:=s.toks,os:=s.os };generalize hH:((s.heap.update a (bw λx=>#[])).push (seqObj "tuple" vs.toArray 0)).push (seqObj "list" #[] 0)=H at *;have C:∀b:bZ,(q7 b).Perm (pairsOf vs)->failedOf b=KM->jz (zW H) (q7 b) (pairsOf vs).size->(gH (λx=>x.snd) (q7 b)).toList.Perm vs/\(gH (λx=>x.snd) (q7 b)).toList.Pairwise (λx y=>¬ keyT s.heap y<keyT s.heap x):=λb u _ z=>by
  have W:=dM.mp u;refine⟨?_,?_⟩
  ·rw[ng];have:=W.map (λx:bh=>x.2);rw[zdP] at this;exact this
  ·rw[ng,dU];intro i j X I Bt;rw[au,aB] at X I;rw[iS,iS];have Y:=z i j 'd' (by rw[<- u.size_eq];exact I);have Z:∀k(h:k<(q7 b).size),KK (zW H) (q7 b) k=keyT s.heap ((q7 b).toList[k]'(by rw[aB];exact h)).2:=λk h=>by
    unfold KK;rw[a9 h];have hm:(q7 b)[k]∈(pairsOf vs).toList:=W.mem_iff.mp (by rw[<- fT];exact bD _);obtain⟨h1,B⟩:=Sb hm;obtain⟨f,_,_,h3⟩:=l _ B;dsimp only;show(zS H (q7 b)[k].1).getD []=_;rw[h3,fT,<- h1];rfl
   rw[Z i X,Z j I] at Y;exact of_decide_eq_false Y
 have N:je (zW H) (pairsOf vs):=λp J=>by
  obtain⟨h1,B⟩:=Sb J;obtain⟨f,⟨t,o,r,c,e,g,K,L,M⟩,_⟩:=l _ B;refine⟨f,?_⟩;show zS H p.1=KF f;rw[e];show(match H.get? t with|some o=>(match o.data with|.seq r _=>allS r.toList|_=>KM)|none=>KM)=_;rw[g];dsimp only;rw[L];exact M
 have up:∀d:Array ab,H.update a (bw λ_=>d)=sortedHeap s.heap a vs d:=λd=>by rw[<- hH];rfl
 by_cases B:vs.length<2
 ·have m:vs.toArray.size<2:=by rw[aJ];exact B
  show ao (ay prog w) A (if vs.toArray.size<2 then _ else _) P E _;rw[qq m];refine aa (ai ?_);rw[qq m];have pz:(pairsOf vs).size=vs.length:=by simp[pairsOf]
  obtain⟨O,R⟩:=C (lO general' (pairsOf vs) #[] 7 KM) (i7 _) rfl (λi j Bt I=>by
   have:i=j:=by lia
   subst this;exact z6 _)
  refine aa (ai ?_);have J:(gH (λx=>x.snd) (q7 (lO general' (pairsOf vs) #[] 7 KM))).size<=4000000:=by
   rw[lA];show(pairsOf vs).size<=_;lia
  refine aa (jt G rfl (aa (iI G rfl ?_ (by show 0<=xc;lia) (by show(gH _ _).size<=xc+1;exact aI J 'd'))));show ao (ay prog w) A (if ((if _ then n else n+1) !=(if _ then n else n+1))=qb then _ else _) P E _;rw[qM 'k'];refine ai ?_;have:=q _ O R;rw[<- up] at this;exact this
 ·have m:¬ vs.toArray.size<2:=by rw[aJ];exact B
  show ao (ay prog w) A (if vs.toArray.size<2 then _ else _) P E _;rw[qM m];refine aa (zaa (s:={ heap:=H,gens:=s.gens,drawn:=s.drawn,toks:=s.toks,os:=s.os }) 'd' (λv h=>by obtain⟨f,k1,k2,_⟩:=l v h;exact⟨f,k1,k2 'd'⟩) λkd ho=>?_);rw[qM m];show ao (ay prog w) A (sortRuns'.run (lO kd (vs.toArray.zip vs.toArray) #[] 7 KM) >>= _) P E _;refine aa (cy (Q3 (kd:=kd) (κ:=zW H) (Q:=λ_ b=>(q7 b).Perm (pairsOf vs)/\failedOf b=KM/\jz (zW H) (q7 b) (pairsOf vs).size) ho (a₀:=pairsOf vs) N (i7 _) rfl rfl rfl λb u D z=>⟨u,D,z⟩) ?_ λ_ _ h=>h);rintro⟨_,b⟩ s' ⟨rfl,u,D,z⟩;dsimp only at u D z;obtain⟨O,R⟩:=C b u D z;have J:(gH (λx=>x.snd) (q7 b)).size<=4000000:=by
   rw[lA,u.size_eq];show(vs.toArray.zip vs.toArray).size<=_;rw[nU,aJ];lia
  refine aa (jt G rfl (aa (iI G rfl ?_ (by show 0<=xc;lia) (by show(gH _ _).size<=xc+1;lia))));show ao (ay prog w) A (match failedOf b with|some e=>_|x=>_) P E _;rw[D];show ao (ay prog w) A (if ((if _ then n else n+1) !=(if _ then n else n+1))=qb then _ else _) P E _;rw[qM 'k'];refine ai ?_;have:=q _ O R;rw[<- up] at this;exact this
def TupS.mono(k:∀b o,h.get? b=KF o->h'.get? b=KF o)(x:TupS h v ks):TupS h' v ks/\keyT h' v=keyT h v:=by obtain⟨t,o,a,c,rfl,g,e,f,i⟩:=x;have d:=k t o g;refine⟨⟨t,o,a,c,rfl,d,e,f,i⟩,?_⟩;show((match h'.get? t with|some o=>(match o.data with|.seq a _=>allS a.toList|_=>KM)|none=>KM):Option _).getD []=((match h.get? t with|some o=>(match o.data with|.seq a _=>allS a.toList|_=>KM)|none=>KM):Option _).getD [];rw[d,g]
def sorted_tups(u:s.heap.IsList l vs.toArray)(g:∀v∈vs,∃c,TupS s.heap v c/\(2<=vs.length->c≠[]))(i:vs.length<=4000000)
  (h:∀a:Array ab,a.toList.Perm vs->a.toList.Pairwise (λx y=>¬ keyT s.heap y<keyT s.heap x)->Q (.ref (s.heap.objs.size+1)) { heap:=sortedAll s.heap vs a,gens:=s.gens,drawn:=s.drawn,toks:=s.toks,os:=s.os }):ao (ay prog w) A (call (.builtin "sorted") [.ref l]) Q E s:=by
 have j:vs.length<=xc:=aI i 'u';refine gZ mV ms mw (mx _) ?_;unfold dF.«sorted»;refine aa (m:=checkCount "sorted" 1 1 _) (ai ?_);refine aa (collect_list u (aa (gP ?_ j)) j);have k:∀b o,s.heap.get? b=KF o->(((s.heap.push (seqObj "list" #[] 0)).update s.heap.objs.size (bw λx=>x++vs.toArray)).push (seqObj "list" vs.toArray 0)).get? b=KF o:=λb o e=>by
  have z:s.heap.objs.size≠b:=λq=>absurd (aK e) (by rw[<- q];exact bS _);exact af _ ((cz _ _ z).trans (af _ e))
 have n:(((s.heap.push (seqObj "list" #[] 0)).update s.heap.objs.size (bw λx=>x++vs.toArray)).push (seqObj "list" vs.toArray 0)).get? ((s.heap.push (seqObj "list" #[] 0)).update s.heap.objs.size (bw λx=>x++vs.toArray)).objs.size=KF (seqObj "list" vs.toArray 0):=aE _ rfl;have B:((s.heap.push (seqObj "list" #[] 0)).update s.heap.objs.size (bw λx=>x++vs.toArray)).objs.size=s.heap.objs.size+1:=by rw[Heap.size_update,cx]
 refine aa (bH (cw lC ⟨_,n,rfl⟩ kM (z7h n (λv d=>by
  obtain⟨c,f,p⟩:=g v d;exact⟨c,(f.mono k).1,p⟩) i λa r C=>⟨_,rfl,?_⟩) (lD _)))
 refine ai ⟨_,rfl,?_⟩;have t:∀v∈a.toList,keyT (((s.heap.push (seqObj "list" #[] 0)).update s.heap.objs.size (bw λx=>x++vs.toArray)).push (seqObj "list" vs.toArray 0)) v=keyT s.heap v:=λv d=>by
  obtain⟨c,f,p⟩:=g v (r.mem_iff.mp d);exact(f.mono k).2
 have D:a.toList.Pairwise (λx y=>¬ keyT s.heap y<keyT s.heap x):=by
  refine List.Pairwise.imp_of_mem ?_ C;intro x y F G H;rw[<- t x F,<- t y G];exact H
 have:=h a r D;unfold sortedAll at this;rw[<- B] at this;exact this
end TS
namespace DL
open PySem
def Zi(t:kr)(es:Array (Int×ab))(h:Int)(x:ab):(layNew t es h x).2.1.led=t.led:=by
 unfold layNew;split
 ·rename_i a b _;show((t.put a).1.orStandIn _).led=_;unfold SetTable.orStandIn;split<;>rfl
 ·rfl
def zcO(t:kr)(es:Array (Int×ab))(n:Nat):(relayAll t es n).2.1.led=t.led/\(t.plain=qh->(relayAll t es n).2.1.plain=qh):=by
 unfold relayAll;cases h:t.relaid (es.map (·.1)) n with
 |none=>exact⟨rfl,λ_=>rfl⟩
 | some p=>
  obtain⟨b,a⟩:=p;have c:b.led=t.led/\b.plain=t.plain:=by
   unfold SetTable.relaid SetTable.laid at h;cases d:SetTable.layClean (SetTable.sizeAbove n-1) (es.map (·.1)) with
   |none=>rw[d] at h;cases h
   |some ow=>rw[d] at h;cases h;exact⟨rfl,rfl⟩
  dsimp only;split
  ·exact⟨c.1,λe=>c.2.trans e⟩
  ·exact⟨rfl,λ_=>rfl⟩
def wF(w:aY):Bool:=w.params.followText "set-order"
def tI(e:Int×ab):Str:=match e.2 with
 |.str x _=>x
 |_=>⟨#[]⟩
def oQ(P:aP)(w:aY)(a:ae)(ks:List Str)(h:aX):Prop:=
 ∃o es ep t,h.get? a=KF o/\o.ExactSet/\o.data=.set es ep t/\iW (strKind P w) es.toList/\(es.toList.map tI).Perm ks/\ks.Nodup/\es.size<scanBound/\t.fits es.size=qb/\(wF w=qh->t.led=qb)/\(es.size≠0->t.plain=qh)
section
variable{P:aP}{w:aY}{A:ba}{E:ab->ag->Prop}{s:ag}{a:ae}{ks:List Str}
def oQ.keep(k:∀o,h.get? a=KF o->h'.get? a=KF o):oQ P w a ks h->oQ P w a ks h':=λ⟨o,b,c,t,d,r⟩=>⟨o,b,c,t,k o d,r⟩
def oQ.size(x:oQ P w a ks h):∃o es b t,h.get? a=KF o/\o.data=.set es b t/\es.size=ks.length:=by obtain⟨o,es,b,t,c,f,d,g,e,_⟩:=x;exact⟨o,es,b,t,c,d,by rw[<- e.length_eq];simp⟩
def Kj(h:iW (strKind P w) l)(b:e∈l):∃t,e.2=.str (tI e) t:=by obtain⟨⟨k,c,_⟩,_⟩:=h e b;obtain⟨t,d⟩:=jd (x:=k) (v:=e.2) c;exact⟨t,by unfold tI;rw[d]⟩
def OC(h:e.2=.str (tI e) t)(x:Str):(strKind P w).is x e.2=qb↔tI e=x:=by
 rw[h];constructor
 ·intro q;obtain⟨c,b⟩:=jd (x:=x) (v:=.str (tI e) t) q;injection b
 ·intro q;rw[q];show fG x (.str x t)=qb;simp[fG]
def vK(ks:List Str)(x:Str):List Str:=if ks.contains x=qb then ks else ks++[x]
def OY{h:aX}{o:Obj}{es es':Array (Int×ab)}{b:Nat}{t t':kr}{ks':List Str}(d:h.get? a=KF o)(e:o.ExactSet)(c:o.data=.set es b t)(f:iW (strKind P w) es'.toList)(i:(es'.toList.map tI).Perm ks')(j:ks'.Nodup)
  (k:es'.size<scanBound) (l:t'.fits es'.size=qb) (m:wF w=qh->t'.led=qb) (n:es'.size≠0->t'.plain=qh):oQ P w a ks' (h.update a (lP es' t'))/\(h.update a (lP es' t')).get? a=KF { o with data:=.set es' (b+1) t' }:=by have g:=cm (lP es' t') d (by rw[putSet_of es' t' c];rfl);rw[putSet_of es' t' c] at g;exact⟨⟨_,es',b+1,t',g,e,rfl,f,i,j,k,l,m,n⟩,g⟩
def VD{x:Str}{tk:Tok}{Q:Bool->ag->Prop}(hS:oQ P w a ks s.heap)(xN:ks.length+1<scanBound)
  (h:∀b h',cX a s.heap h'->oQ P w a (vK ks x) h'->Q b { s with heap:=h' }):
  ao (ay P w) A (setAddHashed a (.str x tk) ((strKind P w).hash x)) Q E s:=by
 obtain⟨o,i,ep,t,m,F,n,l,k,U,V,G,H,rZ⟩:=hS;have W:(strKind P w).is x (.str x tk)=qb:=by show fG x (.str x tk)=qb;simp[fG]
 have hsz:i.size=ks.length:=by rw[<- k.length_eq];simp
 unfold setAddHashed setAddHashedIn;refine bH (aa (fP m n G ?_));dsimp only;rw[byScan_of (x:=.str x tk) rfl V l,qq rfl];unfold setAddByScan;refine aa (aa (dR (aa (wpAny_setScan_of W m n G l ?_))));cases X:List.findIdx? (λe=>(strKind P w).is x e.2) i.toList with
 | some j=>
  dsimp only;obtain⟨Y,I,_⟩:=List.findIdx?_eq_some_iff_getElem.mp X;have rT:x∈ks:=by
   obtain⟨t',J⟩:=Kj l (bD Y);have:=(OC J x).mp I;exact k.mem_iff.mp (az.mpr ⟨_,bD Y,this⟩)
  refine ai (ai ?_);have:=h qh s.heap (Heap.SameBut.refl a s.heap) (by
   unfold vK;rw[qq (b9.mpr rT)];exact⟨o,i,ep,t,m,F,n,l,k,U,V,G,H,rZ⟩)
  cases s;exact this
 | none=>
  dsimp only;have Z:x∉ks:=λhm=>by
   obtain⟨e,he,ek⟩:=az.mp (k.mem_iff.mpr hm);obtain⟨t',J⟩:=Kj l he;have:=List.findIdx?_eq_none_iff.mp X e he;rw[(OC J x).mpr ek] at this;cases this
  have ea:vK ks x=ks++[x]:=by unfold vK;rw[qM (λz=>Z (b9.mp z))]
  have u:=layNew_perm t i ((strKind P w).hash x) (.str x tk);have y:=layNew_fits t i ((strKind P w).hash x) (.str x tk);have B:=Zi t i ((strKind P w).hash x) (.str x tk);generalize layNew t i ((strKind P w).hash x) (.str x tk)=L at u y B ⊢;obtain⟨c,t1,wd,gv⟩:=L;dsimp only at u y B ⊢;rw[eQ] at u;have FE:iW (strKind P w) c.toList:=(l.push W rfl).perm u;have K:(c.toList.map tI).Perm (ks++[x]):=by
   refine(u.map tI).trans ?_;rw[bA];exact k.append_right _
  have Fm:(ks++[x]).Nodup:=by
   rw[fN];exact⟨U,by simp,λp k q C=>by
    have:q=x:=by simpa using C
    subst this;rintro rfl;exact Z k⟩
  have Fc:c.size=ks.length+1:=by rw[<- aB,<- au (f:=tI),K.length_eq];simp
  have M:c.size<scanBound:=by rw[Fc];exact xN
  have gw:∀(b:Bool){N:ag}{O:Unit->ag->Prop},O () N->ao (ay P w) A (match b with|true=>rule "set.scan.the-table-gave-way"|false=>pure ()) O E N:=λb N O C=>by
   cases b
   ·exact ai C
   ·exact dR C
  refine aa (gw _ ?_);have g:∀d:kr,d.led=t.led->d.plain=qh->d.fits c.size=qb->ao (ay P w) A (do
    storeSet a c d
    if (!wd&&d.tooFull)=qb then do
      (match (relayAll d c (fU c.size)).2.2 with|true=>rule "set.scan.the-table-gave-way"|false=>pure ())
      storeSet a (relayAll d c (fU c.size)).1 (relayAll d c (fU c.size)).2.1
      pure (KF qb)
     else pure (KF qb)) (λr s'=>ao (ay P w) A (match r with|some added=>(pure added:Sem Bool)|none=>setAddHashedIn a (.str x tk) ((strKind P w).hash x) 99999) Q E s') E s:=by
   intro d h1 h2 h3;obtain⟨S1,g1⟩:=OY (P:=P) (w:=w) (ks':=ks++[x]) (es':=c) (t':=d) m F n FE K Fm M h3 (λe=>h1.trans (H e)) (λ_=>h2);have sb:=dP s.heap a (lP c d);refine aa (wpAny_storeSet_of m n ?_ (jY M));split
   ·have v:=relayAll_perm d c (fU c.size);have S:=relayAll_fits d c (fU c.size);have D:=zcO d c (fU c.size);generalize relayAll d c (fU c.size)=R at v S D ⊢;obtain⟨T,t3,gv2⟩:=R;dsimp only at v S D ⊢;have s2:T.size=c.size:=by rw[<- aB,v.length_eq,aB]
    have b2:T.size<scanBound:=by rw[s2];exact M
    refine aa (gw _ (aa (wpAny_storeSet_of g1 rfl ?_ (jY b2))));obtain⟨S2,_⟩:=OY (P:=P) (w:=w) (ks':=ks++[x]) (es':=T) (t':=t3) g1 F rfl (FE.perm v) ((v.map tI).trans K) Fm b2 S (λe=>D.1.trans (h1.trans (H e))) (λ_=>D.2 h2);exact ai (ai (h qb _ (sb.trans (dP _ a _)) (by rw[ea];exact S2)))
   ·exact ai (ai (h qb _ sb (by rw[ea];exact S1)))
  split
  ·rename_i Al;refine aa ?_;rw[hashByValue_scannable 8 (x:=.str x tk) rfl];refine ai ?_;exact g { t1 with plain:=qh } B rfl (SetTable.fits_plain_off y)
  ·rename_i Al;refine aa (ai ?_);rw[qq rfl];exact g t1 B (by simpa using Al) y
end
def uF(l:List Str):List Str:=l.foldl vK []
def zfb(l:List Str)(x:Str):uF (l++[x])=vK (uF l) x:=by unfold uF;rw[jZ];rfl
def zfr(a:List Str)(x:Str):(vK a x).length<=a.length+1:=by unfold vK;split<;>simp
def QH:∀(l:List Str),(uF l).length<=l.length:=λl=>by
 have:∀(l a:List Str),(l.foldl vK a).length<=a.length+l.length:=by
  intro l
  induction l with
  |nil=>intro a;exact aC _
  |cons x l ih=>intro a;refine aI (ih (vK a x)) ?_;have:=zfr a x;rw[aV];lia
 have h:=this l [];simpa [uF] using h
def zfm:y∈vK ks x↔y∈ks\/y=x:=by
 unfold vK;split
 ·rename_i h;exact⟨.inl,λq=>q.elim id λe=>by rw[e];exact b9.mp h⟩
 ·rw[aQ,dE]
def Qw:∀(l:List Str),y∈uF l↔y∈l:=λl=>by
 have:∀(l a:List Str),y∈l.foldl vK a↔y∈a\/y∈l:=by
  intro l
  induction l with
  |nil=>intro a;simp
  |cons x l ih=>intro a;rw[fD,ih,zfm,am];exact⟨λh=>by rcases h with(h|h)|h<;>simp[h],λh=>by rcases h with h|h|h<;>simp[h]⟩
 rw[uF,this];simp
section
variable{P:aP}{w:aY}{A:ba}{s:ag}{R:Result->ag->Prop}
variable{I:ae}{fp wr:List ae}{n:Nat}{Pv:Nat->ab->Prop}{St:Nat->aX->Prop}
def U_(W:Walks P w A.in1 I fp wr n Pv St)(S:ae)(l:S∉fp)(vs:List Str)(x:vs.length=n)(y:∀i v,Pv i v->i<n->∃t,v=.str (vs.getD i ⟨#[]⟩) t)(a:n+1<scanBound):
  ∀(k i:Nat)(s:ag),n-i=k->i<=n->St i s.heap->oQ P w S (uF (vs.take i)) s.heap->
   (∀h' tk,(∀b o,b∉S::wr->s.heap.get? b=KF o->h'.get? b=KF o)->oQ P w S (uF vs) h'->R (.ok (.ret .none)) { s with heap:=h',toks:=tk })->
   codeAny (ay P w) A (.builtin "set.update.loop" ⟨[.ref S,.ref I],[]⟩) R s:=by
 have m:S∉wr:=λh=>l (W.sub _ h);intro k
 induction k with
 | zero=>
  intro i s B C f d g;have e:i=n:=by lia
  subst e;refine ei ig ?_;rw[dJ fy _];show ao _ A.in1 (pyNext (.ref I) >>= _) _ _ s;refine aa (W.done s _ _ f λh' tk c=>?_);refine ai (g h' tk (λb o a z=>c b o (λq=>a (aj _ q)) z) ?_);rw[<- x,cE] at d;exact d.keep λo z=>c S o m z
 | succ k ih=>
  intro i s B C f d g;have j:i<n:=by lia
  refine ei ig ?_;rw[dJ fy _];show ao _ A.in1 (pyNext (.ref I) >>= _) _ _ s;refine aa (W.item i s _ _ j f λv p D E F c=>?_);obtain⟨t,rfl⟩:=y i v E j;have G:oQ P w S (uF (vs.take i)) p:=d.keep λo z=>c S o m z;show ao _ A.in1 (holding [_] (setAdd S _) >>= _) _ _ _;unfold setAdd;refine aa (bH (bH (aa ((strKind P w).pyHash (k:=vs.getD i ⟨#[]⟩) (by show fG _ (.str _ t)=qb;simp[fG]) ?_))));refine VD (s:={ s with heap:=p,toks:=D+1 }) G (by have:=QH (vs.take i);rw[bT] at this;lia) λb L r u=>?_;have H:vK (uF (vs.take i)) (vs.getD i ⟨#[]⟩)=uF (vs.take (i+1)):=by
   rw[<- zfb,eH,aG,al 'd'];rfl
  rw[H] at u;refine ai ⟨fK fy _,ih (i+1) _ 'd' j (W.frame _ _ _ F λb a o z=>?_) u λh' tk J K=>?_⟩
  ·rw[r.2 b (λq:b=S=>l (by rw[<- q];exact a))];exact z
  ·refine g h' tk (λb o a z=>J b o a ?_) K;rw[r.2 b (λq:b=S=>a (by rw[q];exact ar))];exact c b o (λq=>a (aj _ q)) z
end
section
variable{P:aP}{w:aY}{A:ba}{E:ab->ag->Prop}{s:ag}
abbrev vw(w:aY):Obj:={ cls:=.type "set",dict:=KM,data:=.set #[] 0 (.fresh 0 0 (!wF w)) }
def U4(w:aY)(h:aX):oQ P w h.objs.size [] (h.push (vw w)):=
 ⟨_,#[],0,_,aE _ rfl,⟨rfl,rfl,rfl⟩,rfl,λe a=>by simp at a,by simp,by simp,by decide,by rfl,λe=>by show(!wF w)=qb;rw[e];rfl,λe=>absurd rfl e⟩
def zdO(v:ab)(h:Q1 (.ref s.heap.objs.size) { s with heap:=s.heap.push (vw w) }):
  codeAny (ay P w) A (.call (.builtin "set.__new__") ⟨[.type "set",v],[]⟩) (wants Q1 E) s:=by
 refine i3 ?_;show ao _ A.in1 (do checkBuiltinCall "set.__new__" ⟨[.type "set",v],[]⟩;again (.builtin "set.__new__" ⟨[.type "set",v],[]⟩)) _ _ s;refine aa (jr (F.newCall_set_1 v) (ai ⟨fK F.plain_set_new _,ei F.entry_set_new ?_⟩));rw[dJ F.plain_set_new _];unfold dF.«set.__new__» n6;have a:=sub_set_self;obtain⟨b,g,d,c,e⟩:=s;dsimp only
 wp_walk
 refine fh (ai ?_);dsimp only;simp only[newObj];exact aa (wpAny_alloc (ai (ai h)))
def ZK.ty:ZK->String
 |.tup _ _ => "tuple"
 |.str _ _ => "str"
 |.lst _ _ => "list"
def Xi:isSubtype (.type "tuple") (.type "set")=pure qh:=by rw[jn];kernel_rfl
def WE:isSubtype (.type "tuple") (.type "frozenset")=pure qh:=by rw[jn];kernel_rfl
def ZK.typ(q:ZK)(h:q.pre s.heap)(b:∀x t,q ≠ .str x t):∃ob a,q.val=.ref a/\s.heap.get? a=KF ob/\ob.cls=.type q.ty:=by
 cases q with
 |tup t items=>obtain⟨o,e,c,_⟩:=h;exact⟨o,t,rfl,e,c⟩
 |str x t=>exact absurd rfl (b x t)
 |lst l items=>obtain⟨o,e,c,_⟩:=h;exact⟨o,l,rfl,e,c⟩
def ZK.vals:ZK->Array ab
 |.tup _ g_=>g_
 |.str _ _=>#[]
 |.lst _ g_=>g_
def ZK.walks(q:ZK)(a:A.handled=KM)(j:∀x t,q ≠ .str x t)(I:ae)(b:q.pre h)(c:h.get? I=KF q.obj)(d:q.val ≠ .ref I):
  ∃f g,q.val=.ref f/\Walks P w A I [I,f] [I] q.vals.size (λi v=>q.vals[i]?=KF v) g/\g 0 h:=by
 cases q with
 |tup t items=>exact⟨t,_,rfl,Walks.tuple a I t (λe=>d (by rw[e];rfl)) items,⟨_,c,rfl,rfl⟩,b⟩
 |str x t=>exact absurd rfl (j x t)
 |lst l items=>exact⟨l,_,rfl,j5 a I l (λe=>d (by rw[e];rfl)) items,⟨_,c,rfl,rfl⟩,b⟩
set_option maxHeartbeats 4000000 in
def zed(q:ZK)(U:A.handled=KM)(H:q.pre s.heap)(f:∀x t,q ≠ .str x t)(vs:List Str)(I:vs.length=q.vals.size)(V:∀i(v:ab),q.vals[i]?=KF v->∃t:Tok,v=jv (vs.getD i ⟨#[]⟩) t)(g:vs.length+1<scanBound)
  (h:∀h' tk,oQ P w s.heap.objs.size (uF vs) h'->(∀b o,b<s.heap.objs.size->s.heap.get? b=KF o->h'.get? b=KF o)->Q (.ref s.heap.objs.size) { s with heap:=h',toks:=tk }):
  ao (ay P w) A (call (.type "set") [q.val]) Q E s:=by
 obtain⟨c,tl,J⟩:=fZ.mro;have Ud:=fZ.made;have Bj:=fZ.sub;obtain⟨X,l,j,K,m⟩:=q.typ H f;rw[j];refine j0 (i3 ?_);show ao _ _ (callAny (.type "set") _) _ _ _;refine ai ⟨Code.quiet_builtin _ 'c',ei F.entry_type_call ?_⟩;rw[Around.under_plain (weight_type_call_type "set" [.ref l] []) rfl];have h1:=fZ.notType;have h2:=fZ.canCreate;have Y:=F.typeCall_set_1 (.ref l)
 repeat (any_goals (first|assumption|wp_step))
 refine fv (zdO (.ref l) (E:=E) (Q1:=λd L=>d=.ref s.heap.objs.size/\L={ s with heap:=s.heap.push (vw w) }) ⟨rfl,rfl⟩) λr L n=>?_;cases r with
 |error e=>exact n
 | ok fl=>
  cases fl with
  | ret d=>
   obtain⟨rfl,rfl⟩:=n;have Z:(s.heap.push (vw w)).get? s.heap.objs.size=KF (vw w):=aE _ rfl;have hT:n8 { s with heap:=s.heap.push (vw w) } (.ref s.heap.objs.size) "set":=⟨_,Z,rfl⟩;have hli:=fZ.init.lookup;have hbi:=fZ.init.bind (.ref s.heap.objs.size)
   repeat (any_goals (first|assumption|wp_step))
   refine fv (lK (R:=wants (λr M=>r=.none/\∃h' tk,M={ s with heap:=h',toks:=tk }/\oQ P w s.heap.objs.size (uF vs) h'/\(∀b o,b<s.heap.objs.size->s.heap.get? b=KF o->h'.get? b=KF o)) E) fZ.init.plain F.entry_set_init (check_set_init_1 hT ?_)) λr2 M p=>?_
   ·obtain⟨Lw,EJ,EK,A_⟩:=X;have m:Lw=.type q.ty:=m;subst m;have N:(s.heap.push (vw w)).get? l=KF { cls:=.type q.ty,dict:=EJ,data:=EK,slots:=A_ }:=af _ K;have O:q.pre (s.heap.push (vw w)):=q.keep (λb o e=>af _ e) H;have S:l<s.heap.objs.size:=aK K;have i1:∀{B:ba}{T:ab->ag->Prop}{u:ab->ag->Prop}{tk:Nat},u (.ref (s.heap.push (vw w)).objs.size) { s with heap:=(s.heap.push (vw w)).push q.obj,toks:=tk }->ao (ay P w) B (pyIter (.ref l)) u T { s with heap:=s.heap.push (vw w),toks:=tk }:=λ{B T u tk}hq=>by
     rw[<- j];exact q.iter (s:={ s with heap:=s.heap.push (vw w),toks:=tk }) O hq
    have Fc:isSubtype (.type q.ty) (.type "set")=pure qh:=by
     cases q with
     |tup _ _=>exact Xi
     |str x t=>exact absurd rfl (f x t)
     |lst _ _=>exact F.sub_list_set
    have uR:isSubtype (.type q.ty) (.type "frozenset")=pure qh:=by
     cases q with
     |tup _ _=>exact WE
     |str x t=>exact absurd rfl (f x t)
     |lst _ _=>exact F.sub_list_frozenset
    have hnd:(ez q.ty==ez "dict")=qh:=by cases q<;>rfl
    unfold dF.«set.__init__» noKeywords nV;generalize y:pyIter=PI
    wp_walk
    subst y;refine i1 ?_;refine aa (wpAny_runValue ?_);have z:A.in1.in1.in1.handled=KM:=by simp[U]
    have a:(s.heap.push (vw w)).objs.size=s.heap.objs.size+1:=cx ..;have fo:q.obj.isFreed=qh:=by cases q<;>rfl
    obtain⟨ax,St,k,W,rA⟩:=q.walks (P:=P) (w:=w) (A:=A.in1.in1.in1) z f (s.heap.push (vw w)).objs.size (h:=(s.heap.push (vw w)).push q.obj) (q.keep (λb o e=>af _ e) O) (aE _ fo) (by rw[j,a];intro e;injection e with e;exact absurd S (by rw[e];exact nB.mpr (eJ _)));have C:ax=l:=by rw[j] at k;injection k with k;exact k.symm
    subst C;refine U_ W s.heap.objs.size (by
      rw[a];simp only[am,aW,or_false,not_or];exact⟨bo (cP _),eo S⟩) vs I (λi v e _=>V i v e) (by rw[<- I];exact g) (q.vals.size-0) 0 _ 'd' (bE _) rA ?_ λh' tk D G=>?_
    ·exact(U4 (P:=P) w s.heap).keep λo e=>af _ e
    ·refine ai (ai ⟨rfl,h',tk,rfl,G,λb o g e=>D b o ?_ (af _ (af _ e))⟩);rw[a];simp only[am,aW,or_false,not_or];exact⟨bo g,bo (dg g)⟩
   ·cases r2 with
    |error e=>exact p
    | ok M4=>
     cases M4 with
     | ret r=>
      obtain⟨rfl,h',tk,rfl,G,D⟩:=p
      repeat (any_goals (first|assumption|wp_step))
      exact h _ _ G D
     |_=>exact p.elim
  |_=>exact n.elim
end
def Po:Manifest.owners.lookup (String.ofList ['r','o','t','a','r','e','t','i','_','t','e','s'].reverse)=KF Manifest.sig_set_iterator:=by kernel_rfl
def o8:Slot "set_iterator" "__next__" "set_iterator.__next__":=Slot.of (owner := "set_iterator") (n := "__next__") (by rw[typeLookup_type,lE];kernel_rfl) 'c' 'c' 'c' (by first|exact .inl 'c'|exact .inr 'c') (by rw[jn];kernel_rfl)
def PQ:Slot "set_iterator" "__iter__" "set_iterator.__iter__":=Slot.of (owner := "set_iterator") (n := "__iter__") (by rw[typeLookup_type,lE];kernel_rfl) 'c' 'c' 'c' (by first|exact .inl 'c'|exact .inr 'c') (by rw[jn];kernel_rfl)
def zgJ:entryFor table "set_iterator.__next__" = KF dF.«set_iterator.__next__»:=entryFor_of_tree 'b'
def ZQ(a:ab):argsOk "set_iterator.__next__" ⟨[a],[]⟩:=by unfold argsOk;rw[signature?_of (id := "set_iterator.__next__") (n:=['_','_','t','x','e','n','_','_']) (o:=['r','o','t','a','r','e','t','i','_','t','e','s']) 'b' Po];kernel_rfl
def X1(a:ab):argsOk "set_iterator.__iter__" ⟨[a],[]⟩:=by unfold argsOk;rw[signature?_of (id := "set_iterator.__iter__") (n:=['_','_','r','e','t','i','_','_']) (o:=['r','o','t','a','r','e','t','i','_','t','e','s']) 'b' Po];kernel_rfl
def zg9:entryFor table "set.__iter__" = KF dF.«frozenset.__iter__»:=entryFor_alias (id' := "frozenset.__iter__") 'b' rfl 'c' 'b'
def zgg:entryFor table "set_iterator.__iter__" = KF dF.«dict_keyiterator.__iter__»:=entryFor_alias (id' := "dict_keyiterator.__iter__") 'b' rfl 'c' 'b'
def Ht{α:Type}{l:List α}{i:Nat}{x:α}(h:l[i]?=KF x):(x::l.eraseIdx i).Perm l:=by
 obtain⟨a,e⟩:=aq.mp h;have q:l.take i++x::l.drop (i+1)=l:=by rw[<- e,List.getElem_cons_drop a,cn]
 rw[List.eraseIdx_eq_take_drop_succ];exact List.perm_middle.symm.trans (by rw[q])
theorem R_{α:Type}(next:Nat->Nat):∀(fuel k:Nat)(left:List α)(a:Array α),left.length=fuel->(my next fuel k left a).toList.Perm (a.toList++left)
 | 0,k,left,a,h=>by
  have:left=[]:=cG.mp h;subst this;unfold my;simp
 | fuel+1,k,left,a,h=>by
  unfold my;have b:next k%left.length<left.length:=Nat.mod_lt _ 'd'
  rw[al b];dsimp only;have e:=jS b;refine(R_ next fuel (k+1) _ _ (by rw[e];lia)).trans ?_;rw[eQ,aZ];exact fC _ (Ht (al b))
def HL{α:Type}(next:Nat->Nat)(xs:Array α):(pickOrder next xs).toList.Perm xs.toList:=by
 unfold pickOrder;have:=R_ next xs.size 0 xs.toList #[] 'k'
 simpa using this
section
variable{P:aP}{w:aY}{A:ba}{E:ab->ag->Prop}{s:ag}{a:ae}
def Ze{src:Source}{n:Nat}{Q:Nat->ag->Prop}(b:n≠0)(h:∀i d,i<n->Q i { s with drawn:=d }):ao (ay P w) A (choose src n) Q E s:=
 λc p _=>⟨b,h _ _ (Nat.mod_lt _ (Nat.pos_of_ne_zero b))⟩
theorem NV{α:Type}:∀(n:Nat)(xs:List α)(s:ag)(Q:List α->ag->Prop),xs.length=n->(∀b d,b.Perm xs->Q b { s with drawn:=d })->ao (ay P w) A (drawOrder n xs) Q E s
 | 0,xs,s,Q,h,hq=>by
  have:xs=[]:=cG.mp h;subst this;unfold drawOrder;exact ai (by have:=hq [] s.drawn (eG _);cases s;exact this)
 |n+1,[],s,Q,h,hq=>by simp at h
 | n+1,x::xs,s,Q,h,hq=>by
  unfold drawOrder;refine aa (Ze 'k' λi d c=>?_);rw[al c];refine aa (NV n _ _ _ (by rw[jS c];simpa using h) λb e f=>ai ?_);exact hq _ e ((List.Perm.cons _ f).trans (Ht (al c)))
abbrev wu(first:ab)(i:Nat)(a:ae)(n ep:Nat):Obj:={ cls:=.type "set_iterator",data:=.fields #[first,bO i,.ref a,bO n,bO ep] }
def NU(d:s.TypeIs (.ref I) "set_iterator")(h:ao (ay P w) A.in1 (dF.«set_iterator.__next__» ⟨[.ref I],[]⟩) (λf c=>∃v,f=.done (.ret v)/\Q (KF v) c) (λe c=>∃o,e=.ref o/\(∃ob,c.heap.get? o=KF ob/\ob.cls=.type "StopIteration")/\Q KM c) s):
  ao (ay P w) A (pyNext (.ref I)) Q E s:=by
 unfold pyNext;refine aa (fH (cU (name := "__next__") d o8 (cw o8 d zgJ ?_ (ZQ _))));refine cy h (λf c g=>?_) λe c i=>?_
 ·obtain⟨v,rfl,q⟩:=g;exact⟨v,rfl,ai q⟩
 ·obtain⟨o,rfl,⟨ob,j,k⟩,q⟩:=i;exact aa (iP (T := "StopIteration") (b:=qb) ⟨ob,j,k⟩ lq (ai q))
end
section
variable{P:aP}{w:aY}{A:ba}{E:ab->ag->Prop}{s:ag}{a:ae}{o:Obj}{es:Array (Int×ab)}{ep:Nat}{t:kr}
def RJ{α:Type}{Q:α->ag->Prop}(c:A.handled=KM)(h:∀h' e,(∀b o,s.heap.get? b=KF o->h'.get? b=KF o)->(∃o,h'.get? e=KF o/\o.cls=.type "StopIteration")->E (.ref e) { s with heap:=h' }):
  ao (ay P w) A (newExc (.type "StopIteration") [] >>= λe=>(raiseNew e:Sem α)) Q E s:=by refine aa ?_;simp only[newExc,newTuple];refine aa (cH (?_) (by size_fits));refine aa (m:=firstArgMember _ _) (jr (a:=.none) (by first|rfl|(simp only[firstArgMember];rfl)) (cH ?_ (by size_fits)));simp only[raiseNew];refine aa (wpAny_handled ?_);rw[c];refine aa (ai (wpAny_throw (h _ _ (λb o e=>af _ (af _ e)) ⟨_,aE _ rfl,rfl⟩)))
def O_(b:s.heap.get? a=KF o)(c:o.data=.set es ep t)(d:t.fits es.size=qb)(g:wF w=qb)(h:Q (((pickOrder (w.params.setOrder a ep) es)[i]?).map λe=>(e.2,sl)) s):
  ao (ay P w) A (setNext a sl i ep) Q E s:=by have f:(ay P w).w.params.followText "set-order" = qb:=g;unfold setNext setsByText;refine aa (fP b c d ?_);dsimp only;refine aa (aa (fh (ai ?_)));rw[f,qq rfl,qM 'k'];refine aa ?_;unfold setWalk setsByText;refine aa (fP b c d ?_);dsimp only;refine aa (aa (fh (ai ?_)));rw[f,qq rfl];exact aa (fh (ai (ai h)))
def Qc(b:s.heap.get? a=KF o)(c:o.data=.set es ep t)(d:t.fits es.size=qb)(e:wF w=qh)(l:es.size<=1)(f:t.led=qb)
  (h:Q (match es[fi t.place sl]?,t.place[fi t.place sl]? with|some (_,x),KF j=>KF (x,j+1)|_,_=>KM) s):
  ao (ay P w) A (setNext a sl i ep) Q E s:=by
 have g:(ay P w).w.params.followText "set-order" = qh:=e;unfold setNext setsByText;refine aa (fP b c d ?_);dsimp only;refine aa (aa (fh (ai ?_)));rw[g,qM 'k'];show ao _ _ (if (!t.plain&&decide (es.size>1))=qb then _ else _) _ _ _;have k:(!t.plain&&decide (es.size>1))=qh:=by
  rw[decide_eq_false 'd'];simp
 rw[k,qM 'k'];refine aa ?_;show ao _ _ (if (!t.led && !es.isEmpty)=qb then _ else _) _ _ _;rw[f,qM 'k'];exact ai (ai h)
def zeX(b:s.heap.get? a=KF o)(c:o.data=.set es ep t)(d:t.fits es.size=qb)(e:es[pl]?=KF x)(h:Q x.2 s):
  ao (ay P w) A (setNextDrawn a pl ep) Q E s:=by unfold setNextDrawn;refine aa (fP b c d ?_);dsimp only;rw[qM 'k',e];exact ai h
def Zz(b:s.heap.get? a=KF o)(c:o.data=.set es ep t)(d:t.fits es.size=qb)(f:es.size≠0->t.plain=qh)(h:Q (!wF w&&decide (es.size>1)) s):ao (ay P w) A (setDrawn a) Q E s:=by
 unfold setDrawn setsByText;refine aa (fP b c d ?_);dsimp only;refine aa (aa (fh (ai (ai ?_))));have e:(!t.plain&&decide (es.size>1))=decide (es.size>1):=by
  by_cases q:es.size>1
  ·rw[f 'd',decide_eq_true q];rfl
  ·rw[decide_eq_false q];simp
 show Q (!wF w&&(!t.plain&&decide (es.size>1))) s;rw[e];exact h
def GD{I:ae}{sl i:Nat}{R:Option (ab×Nat)}{Q:Option ab->ag->Prop}(m:s.heap.get? a=KF o)(n:o.data=.set es ep t)(q:t.fits es.size=qb)(c:s.heap.get? I=KF (wu (bO sl) i a es.size ep))(K:a≠I)(r:A.handled=KM)
  (u:∀(B:ba)(Q':Option (ab×Nat)->ag->Prop)(E':ab->ag->Prop),Q' R s->ao (ay P w) B (setNext a sl i ep) Q' E' s)
  (x:∀v j,R=KF (v,j)->∀h',cX I s.heap h'->h'.get? I=KF (wu (bO j) (i+1) a es.size ep)->Q (KF v) { s with heap:=h' })
  (hz:R=KM->∀h',js I s.heap h'->Q KM { s with heap:=h' }):ao (ay P w) A (pyNext (.ref I)) Q E s:=by
 refine NU ⟨_,c,rfl⟩ ?_;unfold dF.«set_iterator.__next__» slotArgs;dsimp only;rw[qM 'k',qM 'k'];refine aa (ai (aa (wpAny_fieldsOf c rfl ?_)));show ao _ _ (setEntries a >>= _) _ _ _;refine aa (jf m n q ?_);rw[qM 'k'];show ao _ _ (setNext a sl i ep >>= _) _ _ _;refine aa (u _ _ _ ?_);obtain⟨L,g,d,M,N⟩:=s;cases h:R with
 | some p=>
  obtain⟨v,j⟩:=p;dsimp only;refine aa (bF c 'k' λy k f=>?_);refine aa (bF k 'k' λC D F=>?_);exact ai ⟨v,rfl,x v j h C (f.trans F) D⟩
 | none=>
  dsimp only;refine aa (bF c 'k' λy k f=>?_);refine RJ (by simpa using r) λh' e G H=>⟨e,rfl,H,hz h h' λb l J z=>G b l (f.extBut b l J z)⟩
def Oq{I f:ae}{i:Nat}{first:ab}{c:List Nat}{Q:Option ab->ag->Prop}(p:s.heap.get? a=KF o)(q:o.data=.set es ep t)(r:t.fits es.size=qb)(h:s.heap.get? I=KF (wu (.ref f) i a es.size ep))(B:s.heap.get? f=KF { cls:=.type "tuple",data:=.seq (c.map λ(j:Nat)=>bO (j:Int)).toArray })(C:A.handled=KM)
  (D:∀j x,c[i]?=KF j->es[j]?=KF x->∀h',cX I s.heap h'->h'.get? I=KF (wu (.ref f) (i+1) a es.size ep)->Q (KF x.2) { s with heap:=h' }) (F:∀j,c[i]?=KF j->j<es.size)
  (hz:c[i]?=KM->∀h',js I s.heap h'->Q KM { s with heap:=h' }):ao (ay P w) A (pyNext (.ref I)) Q E s:=by
 refine NU ⟨_,h,rfl⟩ ?_;unfold dF.«set_iterator.__next__» slotArgs;dsimp only;rw[qM 'k',qM 'k'];refine aa (ai (aa (wpAny_fieldsOf h rfl ?_)));show ao _ _ (setEntries a >>= _) _ _ _;refine aa (jf p q r ?_);rw[qM 'k'];show ao _ _ (seqItems? (.ref f) >>= _) _ _ _;refine aa (dr B rfl ?_);obtain⟨L,g,d,M,N⟩:=s;have G:((c.map λ(j:Nat)=>bO (j:Int)).toArray)[((i:Int)).toNat]?=(c[i]?).map λ(j:Nat)=>bO (j:Int):=by
  rw[jW,li,be]
 dsimp only;rw[G];cases k:c[i]? with
 | some j=>
  have u:=F j k;dsimp only[kJ,bO];refine aa (zeX (pl:=j) (x:=es[j]) p q r (a9 u) ?_);refine aa (bF h 'k' λv l m=>?_);exact ai ⟨_,rfl,D j _ k (a9 u) v m l⟩
 | none=>
  dsimp only[Option.map_none];refine aa (bF h 'k' λv l m=>?_);refine aa (bF l 'k' λO R H=>?_);refine RJ (by simpa using C) λh' e J K=>⟨e,rfl,K,hz k h' λb n y z=>J b n (H.extBut b n y (m.extBut b n y z))⟩
end
section
variable{P:aP}{w:aY}{A:ba}{E:ab->ag->Prop}{s:ag}{a:ae}{o:Obj}{es:Array (Int×ab)}{ep:Nat}{t:kr}{I tt:ae}
abbrev BL(os:List Str):Nat->ab->Prop:=λi v=>∃tk:Tok,v=.str (os.getD i ⟨#[]⟩) tk
def Jg(h:∃ob,s.heap.get? I=KF ob/\ob.cls=.type "set_iterator")(q:Q (.ref I) s):ao (ay P w) A (pyIter (.ref I)) Q E s:=by
 have b:s.TypeIs (.ref I) "set_iterator":=h;refine jX b PQ (cw PQ b zgg ?_ (X1 _));unfold dF.«dict_keyiterator.__iter__»;obtain⟨c,g,d,e,f⟩:=s
 wp_walk
 exact⟨_,rfl, "set_iterator",_,b,o8.lookup,q⟩
def Jw(b:iW (strKind P w) l)(h:l[i]?=KF e):BL (l.map tI) i e.2:=by obtain⟨c,d⟩:=Kj b (aD h);refine⟨c,?_⟩;rw[aG,be,h];exact d
def Zn(k:o.data=.set es ep t)(l:t.fits es.size=qb)(F:iW (strKind P w) es.toList)(c:wF w=qb)(u:A.handled=KM)(p:a≠I):
  Walks P w A I [I,a] [I] es.size (BL ((pickOrder (w.params.setOrder a ep) es).toList.map tI)) (λi h=>(∃sl:Nat,h.get? I=KF (wu (bO sl) i a es.size ep))/\h.get? a=KF o) where
 sub:=λb c=>by simp at c;simp[c]
 frame:=λi h m d x=>⟨let ⟨sl,e⟩:=d.1;⟨sl,x I 'k' _ e⟩,x a 'k' _ d.2⟩
 item:=λi s Q E L d g=>by
  obtain⟨⟨sl,q⟩,f⟩:=d;have n:=HL (w.params.setOrder a ep) es;have r:(pickOrder (w.params.setOrder a ep) es).size=es.size:=by rw[<- aB,n.length_eq,aB]
  have y:i<(pickOrder (w.params.setOrder a ep) es).size:=by lia
  refine GD (R:=KF ((pickOrder (w.params.setOrder a ep) es)[i].2,sl)) f k l q p u (λB G H h=>O_ f k l c (by rw[a9 y];exact h)) (λv j e m C J=>?_) λe=>by cases e
  cases e;refine g _ m s.toks (Jw (F.perm n) (by rw[dB];exact a9 y)) ⟨⟨_,J⟩,?_⟩ λb D c z=>?_
  ·rw[C.2 a p];exact f
  ·rw[C.2 b (by simpa using c)];exact z
 done:=λs Q E d g=>by
  obtain⟨⟨sl,q⟩,f⟩:=d;have n:=HL (w.params.setOrder a ep) es;have r:(pickOrder (w.params.setOrder a ep) es).size=es.size:=by rw[<- aB,n.length_eq,aB]
  refine GD (R:=KM) f k l q p u (λB G H h=>O_ f k l c (by rw[kW 'd'];exact h)) (λv j e=>by cases e) λ_ m K=>g m s.toks λb D c z=>K b D (by simpa using c) z
 self:=λi s Q E d g=>Jg (let ⟨⟨sl,e⟩,_⟩:=d;⟨_,e,rfl⟩) g
def ZH(F:o.data=.set es ep t)(G:t.fits es.size=qb)(N:iW (strKind P w) es.toList)(H:A.handled=KM)(O:a≠I)(R:tt≠I){c:List Nat}(v:c.Perm (aO es.size)):
  Walks P w A I [I,a,tt] [I] es.size (BL ((c.filterMap λj=>es[j]?).map tI)) (λi h=>h.get? I=KF (wu (.ref tt) i a es.size ep)/\h.get? a=KF o/\h.get? tt=KF { cls:=.type "tuple",data:=.seq (c.map λ(j:Nat)=>bO (j:Int)).toArray }) where
 sub:=λb g=>by simp at g;simp[g]
 frame:=λi h p d y=>⟨y I 'k' _ d.1,y a 'k' _ d.2.1,y tt 'k' _ d.2.2⟩
 item:=λi s Q E Y d k=>by
  obtain⟨B,r,u⟩:=d;have m:c.length=es.size:=by rw[v.length_eq];simp
  have C:∀j∈c,j<es.size:=λj f=>bd.mp (v.mem_iff.mp f);refine Oq (first:=.ref tt) r F G B u H (λj x n J p D S=>?_) (λj e=>C j (aD e)) λe=>absurd (a8.mp e) 'd';have T:∀(l:List Nat),(∀j∈l,j<es.size)->(l.filterMap λj=>es[j]?)=l.map λj=>es.getD j default:=by
   intro l
   induction l with
   |nil=>intro _;rfl
   | cons q l ih=>
    intro h;have K:=h q ar;rw[e8,a9 K,ih λj f=>h j (aj _ f),bq];simp[Array.getD,K]
  have U:(c.filterMap λj=>es[j]?)[i]?=KF x:=by
   rw[T c C,be,n];have f:=C j (aD n);rw[a9 f] at J;have:es[j]=x:=cq J;simp[Array.getD,f,this]
  have V:iW (strKind P w) (c.filterMap λj=>es[j]?):=λe W=>by
   obtain⟨j,_,f⟩:=g9.mp W;exact N e (by rw[<- dB] at f;exact aD f)
  refine k _ p s.toks (Jw V U) ⟨S,?_,?_⟩ λb L g z=>?_
  ·rw[D.2 a O];exact r
  ·rw[D.2 tt R];exact u
  ·rw[D.2 b (by simpa using g)];exact z
 done:=λs Q E d k=>by
  obtain⟨B,r,u⟩:=d;have m:c.length=es.size:=by rw[v.length_eq];simp
  have M:c[es.size]?=KM:=a8.mpr 'd';exact Oq (first:=.ref tt) r F G B u H (λj x n=>by rw[M] at n;cases n) (λj e=>by rw[M] at e;cases e) λ_ p X=>k p s.toks λb L g z=>X b L (by simpa using g) z
 self:=λi s Q E d k=>Jg ⟨_,d.1,rfl⟩ k
def ZW(xs:Array Nat)(h:xs.size<=1):fi xs 0=0:=by
 unfold fi;have:xs.size=0\/xs.size=1:=by lia
 rcases this with e|e
 ·rw[e];rfl
 ·rw[e];unfold iw;rw[qq 'd'];dsimp only;rw[qM 'k'];unfold iw;rfl
def Yr(xs:Array Nat)(p:Nat)(h:xs.size=1)(b:xs[0]?=KF p):fi xs (p+1)=1:=by
 unfold fi;rw[h];unfold iw;rw[qq 'd'];dsimp only;have e:xs.getD ((0+1)/2) (p+1)=p:=by
  show xs.getD 0 (p+1)=p;rw[Array.getD_eq_getD_getElem?,b];rfl
 rw[e,qq 'd'];unfold iw;rfl
def zfF(l:o.data=.set es ep t)(f:t.fits es.size=qb)(H:iW (strKind P w) es.toList)(c:wF w=qh)(u:es.size<=1)(x:t.led=qb)(y:A.handled=KM)(n:a≠I):
  Walks P w A I [I,a] [I] es.size (BL (es.toList.map tI)) (λi h=>(∃sl:Nat,h.get? I=KF (wu (bO sl) i a es.size ep)/\fi t.place sl=i)/\h.get? a=KF o) where
 sub:=λb c=>by simp at c;simp[c]
 frame:=λi h m d C=>⟨let ⟨sl,e,q⟩:=d.1;⟨sl,C I 'k' _ e,q⟩,C a 'k' _ d.2⟩
 item:=λi s Q E D d k=>by
  obtain⟨⟨sl,p,r⟩,g⟩:=d;have J:t.place.size=es.size:=by simp only[n9,aR,beq_iff_eq] at f;exact f.1
  have T:es.size=1:=by lia
  have K:i=0:=by lia
  subst K;have L:t.place.size=1:=by lia
  refine GD (R:=KF (es[0].2,t.place[0]+1)) g l f p n y (λB M N h=>Qc g l f c u x (by rw[r,a9 D,a9 'd'];exact h)) (λv j e m F O=>?_) λe=>by cases e
  cases e;refine k _ m s.toks (Jw H (by rw[dB];exact a9 D)) ⟨⟨_,O,Yr _ _ L (a9 _)⟩,?_⟩ λb G c z=>?_
  ·rw[F.2 a n];exact g
  ·rw[F.2 b (by simpa using c)];exact z
 done:=λs Q E d k=>by
  obtain⟨⟨sl,p,r⟩,g⟩:=d;refine GD (R:=KM) g l f p n y (λB M N h=>Qc g l f c u x (by rw[r,kW (aC _)];exact h)) (λv j e=>by cases e) λ_ m S=>k m s.toks λb G c z=>S b G (by simpa using c) z
 self:=λi s Q E d k=>Jg (let ⟨⟨sl,e,_⟩,_⟩:=d;⟨_,e,rfl⟩) k
end
section
variable{P:aP}{w:aY}{A:ba}{E:ab->ag->Prop}{s:ag}{a:ae}{ks:List Str}
theorem OX(es:Array (Int×ab)):∀(l:List Nat),(∀j∈l,j<es.size)->(l.filterMap λj=>es[j]?).length=l.length
 |[],_=>rfl
 | q::l,h=>by
  rw[e8,a9 (h q ar)];show(_::_).length=_;rw[aV,aV,OX es l λj b=>h j (aj _ b)]
structure ItX(P:aP)(w:aY)(a:ae)(ks:List Str)(s:ag)(I:ae)(s1:ag):Prop where
 ex:∃(os:List Str)(fp:List ae)(St:Nat->aX->Prop),os.Perm ks/\I∈fp/\(∀b∈fp,b<s1.heap.objs.size)/\(∀b∈fp,b=a\/s.heap.objs.size<=b)/\(∀B:ba,B.handled=KM->Walks P w B I fp [I] os.length (BL os) St)/\St 0 s1.heap
 keep:∀b o,s.heap.get? b=KF o->s1.heap.get? b=KF o
 ty:∃ob,s1.heap.get? I=KF ob/\ob.cls=.type "set_iterator"
 new:s.heap.objs.size<=I
 gens:s1.gens=s.gens
 os:s1.os=s.os
def V8(hS:oQ P w a ks s.heap)(h:∀I V,ItX P w a ks s I V->Q (.ref I) V):ao (ay P w) A (pyIter (.ref a)) Q E s:=by
 obtain⟨o,c,q,t,u,hx,z,S,N,hn,k,x,hl,rZ⟩:=hS;have W:s.TypeIs (.ref a) "set":=⟨o,u,hx.1⟩;have hsz:c.size=ks.length:=by rw[<- N.length_eq];simp
 have l:a<s.heap.objs.size:=aK u;refine jX W F.slot_set_iter (cw F.slot_set_iter W zg9 ?_ (F.args_set_iter_1 _));unfold dF.«frozenset.__iter__» ou slotArgs;simp only[List.isEmpty_nil,fL,bX,↓reduceIte,bind_assoc,dQ,bne_self_eq_false];unfold oj om;refine aa (ai (aa (ai (aa (aa (jf u z x (ai ?_)))))));refine aa (Zz u z x rZ ?_);have H:∀(first:ab)(p:aX)(d:Drawn),(∀b C,s.heap.get? b=KF C->p.get? b=KF C)->s.heap.objs.size<=p.objs.size->
   (∃(J:List Str)(D:List ae)(O:Nat->aX->Prop),J.Perm ks/\p.objs.size∈D/\(∀b∈D,b<p.objs.size+1)/\(∀b∈D,b=a\/s.heap.objs.size<=b)/\(∀B:ba,B.handled=KM->Walks P w B p.objs.size D [p.objs.size] J.length (BL J) O)/\O 0 (p.push (wu first 0 a c.size q)))->
   ao (ay P w) A.in1 (setEpoch a >>= λe=>newFields "set_iterator" [first,bO 0,.ref a,bO c.size,bO e] >>= λv=>ret v) (λf X=>∃r,f=.done (.ret r)/\∃Y r',X.TypeIs r Y/\typeLookup (.type Y) "__next__" = pure (KF r')/\Q r X) E { s with heap:=p,drawn:=d }:=by
  intro first p d Z hz ⟨J,D,O,p1,p2,p3,p6,p4,p5⟩
  refine aa (wpAny_setEpoch_of (Z a o u) z x ?_);unfold newFields;refine aa (cH ?_ (by size_fits));have g:(p.push (wu first 0 a c.size q)).get? p.objs.size=KF (wu first 0 a c.size q):=aE _ rfl;refine ai ⟨_,rfl, "set_iterator",_,⟨_,g,rfl⟩,o8.lookup,h _ _ ⟨⟨J,D,O,p1,p2,λb k=>?_,p6,p4,p5⟩,λb C e=>af _ (Z b C e),⟨_,g,rfl⟩,hz,rfl,rfl⟩⟩;rw[cx];exact p3 b k
 cases T:(!wF w&&decide (c.size>1)) with
 | true=>
  rw[qq rfl];refine aa (NV c.size (aO c.size) _ _ 'k' λy d K=>aa (im ?_ ?_))
  ·have L:(s.heap.push { cls:=.type "tuple",data:=.seq (y.map λ(j:Nat)=>bO (j:Int)).toArray }).objs.size=s.heap.objs.size+1:=cx ..;refine H (.ref s.heap.objs.size) _ d (λb C e=>af _ e) (by rw[L];exact eJ _) ?_;refine⟨(y.filterMap λj=>c[j]?).map tI,[(s.heap.push { cls:=.type "tuple",data:=.seq (y.map λ(j:Nat)=>bO (j:Int)).toArray }).objs.size,a,s.heap.objs.size],(λi h=>h.get? (s.heap.push { cls:=.type "tuple",data:=.seq (y.map λ(j:Nat)=>bO (j:Int)).toArray }).objs.size=KF (wu (.ref s.heap.objs.size) i a c.size q)/\h.get? a=KF o/\h.get? s.heap.objs.size=KF { cls:=.type "tuple",data:=.seq (y.map λ(j:Nat)=>bO (j:Int)).toArray }),?_,by simp,?_,?_,λB M=>?_,aE _ rfl,af _ (af _ u),af _ (aE _ rfl)⟩
   ·refine(List.Perm.map tI ?_).trans N;have e1:(aO c.size).filterMap (λj=>c[j]?)=c.toList:=by
     apply mR;intro i;have MG:∀n,n<=c.size->(aO n).filterMap (λj=>c[j]?)=c.toList.take n:=by
      intro n
      induction n with
      |zero=>intro _;simp
      | succ n ih=>
       intro C5;rw[kN,List.filterMap_append,ih 'd',e8,List.filterMap_nil,a9 'd',eH,dB,a9 'd'];rfl
     rw[MG c.size (aC _),cN 'k']
    rw[<- e1];exact K.filterMap _
   ·intro b k;rw[L] at k ⊢;simp only[am,aW,or_false] at k;rcases k with rfl|rfl|rfl
    ·exact cP _
    ·exact dg (dg l)
    ·exact dg (cP _)
   ·intro b k;rw[L] at k;simp only[am,aW,or_false] at k;rcases k with rfl|rfl|rfl
    ·exact .inr (eJ _)
    ·exact .inl rfl
    ·exact .inr (aC _)
   ·have m:((y.filterMap λj=>c[j]?).map tI).length=c.size:=by
     have U:=OX c y λj hj=>bd.mp (K.mem_iff.mp hj);rw[au,U,K.length_eq];simp
    rw[m];exact ZH z x S M (by rw[L];exact bo (dg l)) (by rw[L];exact bo (cP _)) K
  ·rw[au,K.length_eq,ci];exact jY k
 | false=>
  rw[qM 'k'];have this:=H (bO 0) s.heap s.drawn (λb C e=>e) (aC _);have U:({ s with heap:=s.heap,drawn:=s.drawn }:ag)=s:=by cases s;rfl
  rw[U] at this;refine this ?_;by_cases G:wF w=qb
  ·refine⟨(pickOrder (w.params.setOrder a q) c).toList.map tI,[s.heap.objs.size,a],(λi h=>(∃R:Nat,h.get? s.heap.objs.size=KF (wu (bO R) i a c.size q))/\h.get? a=KF o),((HL _ c).map tI).trans N,by simp,?_,?_,λB M=>?_,⟨0,aE _ rfl⟩,af _ u⟩
   ·intro b k;simp only[am,aW,or_false] at k;rcases k with rfl|rfl
    ·exact cP _
    ·exact dg l
   ·intro b k;simp only[am,aW,or_false] at k;rcases k with rfl|rfl
    ·exact .inr (aC _)
    ·exact .inl rfl
   ·have m:((pickOrder (w.params.setOrder a q) c).toList.map tI).length=c.size:=by rw[au,(HL _ c).length_eq];simp
    rw[m];exact Zn z x S G M (bo l)
  ·have G:wF w=qh:=by simpa using G
   have p:c.size<=1:=by
    rw[G] at T;simp at T;exact T
   have hpz:t.place.size=c.size:=by simp only[n9,aR,beq_iff_eq] at x;exact x.1
   refine⟨c.toList.map tI,[s.heap.objs.size,a],(λi h=>(∃R:Nat,h.get? s.heap.objs.size=KF (wu (bO R) i a c.size q)/\fi t.place R=i)/\h.get? a=KF o),N,by simp,?_,?_,λB M=>?_,⟨0,aE _ rfl,ZW _ 'd'⟩,af _ u⟩
   ·intro b k;simp only[am,aW,or_false] at k;rcases k with rfl|rfl
    ·exact cP _
    ·exact dg l
   ·intro b k;simp only[am,aW,or_false] at k;rcases k with rfl|rfl
    ·exact .inr (aC _)
    ·exact .inl rfl
   ·have m:(c.toList.map tI).length=c.size:=by simp
    rw[m];exact zfF z x S G p (hl G) M (bo l)
end
section
variable{P:aP}{w:aY}{A:ba}{E:ab->ag->Prop}{s:ag}{a:ae}{ks:List Str}
def V4(b:s.TypeIs (.ref a) "set")(h:Q qh s):ao (ay P w) A (jB (.ref a)) Q E s:=by
 unfold jB;refine aa (wpAny_specialOf b F.slot_set_len.lookup ?_);have e:splitId "set.__len__" = KF ("set", "__len__"):=by kernel_rfl
 have c:=sub_set_self;obtain⟨f,g,d,i,j⟩:=s;dsimp only;rw[e];dsimp only;refine aa (iP b c ?_);rw[qM 'k',qq 'b'];exact aa (mh b (ai h))
theorem SW:∀(b:List Str)(vs:List ab),vs.length=b.length->(∀j v,vs[j]?=KF v->BL b j v)->eU vs b
 |[],[],_,_=>.nil
 |[],_::_,h,_=>by simp at h
 |_::_,[],h,_=>by simp at h
 | x::b,v::vs,h,q=>by
  obtain⟨c,e⟩:=q 0 v rfl;have e:v=.str x c:=e;subst e;exact .cons x c (SW b vs (by simpa using h) λj u z=>by
   obtain⟨d,f⟩:=q (j+1) u (by simpa using z);exact⟨d,by simpa [List.getD] using f⟩)
def zg3(C:A.handled=KM)(D:oQ P w a ks s.heap)(U:ks.length<=1000)
  (h:∀(vs:List ab)(i:List Str)k,i.Perm ks->eU vs i->s.heap.objs.size<=k.heap.objs.size->(∀b o,s.heap.get? b=KF o->k.heap.get? b=KF o)->k.gens=s.gens->k.os=s.os->Q vs k):
  ao (ay P w) A (collect (.ref a)) Q E s:=by
 obtain⟨o,es,ep,t,u,y,r⟩:=id D;have hT:s.TypeIs (.ref a) "set":=⟨o,u,y.1⟩;have f:a<s.heap.objs.size:=aK u;unfold collect;refine aa (wpAny_runValue (ei F.entry_proto_collect ?_));rw[dJ F.plain_proto_collect _];show ao _ A.in1 (newList [] >>= λl=>again (.builtin "list.__iadd__" ⟨[l,.ref a],[]⟩)) _ _ s;refine aa (cH (ai ⟨fK mS _,ei F.entry_list_iadd ?_⟩));rw[dJ mS _];have V:(s.heap.push { cls:=.type "list",data:=.seq ([]:List ab).toArray }).get? s.heap.objs.size=KF { cls:=.type "list",data:=.seq ([]:List ab).toArray }:=aE _ rfl;have Y:oQ P w a ks (s.heap.push { cls:=.type "list",data:=.seq ([]:List ab).toArray }):=D.keep λo e=>af _ e;have Z:n8 { s with heap:=s.heap.push { cls:=.type "list",data:=.seq ([]:List ab).toArray } } (.ref a) "set":=⟨o,af _ u,y.1⟩;show ao _ A.in1 (jC (.ref s.heap.objs.size) (.ref a) (.ref s.heap.objs.size)) _ _ _;unfold jC;refine aa (mh Z ?_);have h1:ku (.ref s.heap.objs.size) (.ref a)=qh:=by simp[ku,eo f]
 rw[qM (by rw[h1];decide)];refine aa (V8 (s:={ s with heap:=s.heap.push { cls:=.type "list",data:=.seq ([]:List ab).toArray } }) Y λI k X=>?_);obtain⟨⟨i,fp,St,G,p2,p3,p6,H,p5⟩,z,ty,J,gn,oo⟩:=X;refine aa (bH (V4 ⟨o,z a o (af _ u),y.1⟩ ?_));rw[qq 'b'];refine aa (dR ?_);refine aa ?_;obtain⟨x,g,d,tk,oss⟩:=k;have K:x.get? s.heap.objs.size=KF { cls:=.type "list",data:=.seq ([]:List ab).toArray }:=z _ _ V;show ao _ A.in1 (updateSeq s.heap.objs.size (·.push .none) >>= λ_=>updateSeq s.heap.objs.size (·.pop)) _ _ _;refine aa (gf K rfl ?_);have L:=cm (bw (·.push gJ)) K rfl;refine gf L rfl ?_;have g3:=cm (bw (·.pop)) L rfl;have M:(Shared.heap { s with heap:=s.heap.push { cls:=.type "list",data:=.seq ([]:List ab).toArray } }).objs.size=s.heap.objs.size+1:=cx ..;have N:s.heap.objs.size∉fp:=λm=>by
  rcases p6 _ m with e|e
  ·exact bS _ (e▸f)
  ·rw[M] at e;exact Nat.not_succ_le_self _ e
 have W:=(H A.in1 (by simpa using C)).toS;have O:∀b c,b≠s.heap.objs.size->x.get? b=KF c->((x.update s.heap.objs.size (bw (·.push gJ))).update s.heap.objs.size (bw (·.pop))).get? b=KF c:=
  λb c p e=>(cz _ _ (bL p)).trans ((cz _ _ (bL p)).trans e)
 refine ai ⟨fK F.plain_extend_loop _,codeAny_extend_loopS W (aI (by rw[G.length_eq];exact U) 'u') _ N _ i.length 0 _ _ _ rfl (bE _) ((H A.in1 (by simpa using C)).frame 0 x _ p5 λb p c e=>O b c (λq=>N (q▸p)) e) g3 (ItemsOf.nil _) λR n c' B S T=>?_⟩;show ao _ A (load s.heap.objs.size >>= _) _ _ R;refine aa (wpAny_load S (ai ?_));have wy:eU n.toList i:=SW i n.toList (by simpa using T.1) λj v e=>T.2 j v (by rw[<- dB];exact e);refine h n.toList i R G wy (gu (aK S)) (λb c e=>B.heap b c ?_ (O b c ?_ (z b c (af _ e)))) (B.gens.trans gn) (B.os.trans oo)
 ·simp only[am,aW,or_false,not_or];refine⟨λq=>absurd (aK e) (by rw[q];exact bS _),λq=>?_⟩;have p:=aK e;rw[M] at J;exact absurd (bb p (mI J)) (by rw[q];exact bS _)
 ·exact λq=>absurd (aK e) (by rw[q];exact bS _)
end
end DL
namespace DL
open PySem PyProof.Rows
section
variable{P:aP}{w:aY}{A:ba}{E:ab->ag->Prop}{s:ag}{a:ae}{ks:List Str}
def Y_(x:A.handled=KM)(y:oQ P w a ks s.heap)(R:ks.length<1000)
  (h:∀(f:Array ab)(g:List Str)l d c,g.Perm ks->sortedS g=qb->eU f.toList g->s.heap.objs.size<=l->d.heap.get? l=KF { cls:=.type "list",data:=.seq f c }->(∀b o,s.heap.get? b=KF o->d.heap.get? b=KF o)->d.gens=s.gens->d.os=s.os->Q (.ref l) d):
  ao (ay P w) A (call (.builtin "sorted") [.ref a]) Q E s:=by
 refine gZ mV ms mw (mx _) ?_;unfold dF.«sorted»;refine aa (m:=checkCount "sorted" 1 1 _) (ai ?_);refine aa (zg3 (by simpa using x) y 'd' λi g d r k n z B C=>?_);have j:i.length=g.length:=k.length;have D:i.length<=4000000:=by rw[j,r.length_eq];lia
 refine aa (gP ?_);have p:(d.heap.push (seqObj "list" i.toArray 0)).get? d.heap.objs.size=KF (seqObj "list" i.toArray 0):=aE _ rfl;refine aa (bH (cw lC ⟨_,p,rfl⟩ kM (TS.list_sort_big lY p k.keysOf (λS T t e=>keyKind_strs (by rw[<- e];exact k)) D λF G H=>⟨_,rfl,?_⟩) (lD _)));obtain⟨I,J,K,L⟩:=sorted_out_str k G H;refine ai ⟨_,rfl,?_⟩;have M:=cm (bw λ_=>#[]) p rfl;have N:=af (seqObj "list" #[] 0) (af (seqObj "tuple" i.toArray 0) M);have O:=cm (bw λ_=>(q7 F).map (·.2)) N rfl;refine h _ I _ _ _ (K.trans r) L J ?_ O (λb o e=>?_) B C
 ·exact n
 ·have u:=z b o e;have v:d.heap.objs.size≠b:=λq=>absurd (aK u) (by rw[<- q];exact bS _);exact(cz _ _ v).trans (af _ (af _ ((cz _ _ v).trans (af _ u))))
end
end DL
namespace DL
open PySem L2 PyProof.Rows
noncomputable def vq(x:List Nat):List (List Nat)->List (List Nat)
 |[]=>[x]
 |y::r=>if x<y then x::y::r else if x=y then y::r else y::vq x r
def qS(ss:List (List Nat)):List (List Nat):=ss.foldl (λl x=>vq x l) []
theorem o9:∀{l:List (List Nat)},y∈vq x l↔y=x\/y∈l
 |[]=>by simp[vq]
 | z::r=>by
  unfold vq;split
  ·simp
  ·split
   ·rename_i h;subst h;simp
   ·rw[am,o9,am];exact⟨λh=>by rcases h with h|h|h<;>simp[h],λh=>by rcases h with h|h|h<;>simp[h]⟩
theorem Rz:∀{l:List (List Nat)},l.Pairwise (· < ·)->(vq x l).Pairwise (· < ·)
 |[],_=>by simp[vq]
 | z::r,h=>by
  obtain⟨b,c⟩:=bP.mp h;unfold vq;split
  ·rename_i a;exact bP.mpr ⟨λy hy=>by
    rcases am.mp hy with rfl|hy
    ·exact a
    ·exact iJ a (b y hy),h⟩
  ·rename_i a;split
   ·exact h
   ·rename_i d;refine bP.mpr ⟨λy hy=>?_,Rz c⟩;rcases o9.mp hy with rfl|hy
    ·exact cK λq=>d (ko (iD.mp q) (iD.mp a))
    ·exact b y hy
def zZ(a:List (List Nat)):y∈qS a↔y∈a:=by
 have:∀(a l:List (List Nat)),y∈a.foldl (λl x=>vq x l) l↔y∈l\/y∈a:=by
  intro a
  induction a with
  |nil=>intro l;simp
  |cons x a ih=>intro l;rw[fD,ih,o9,am];exact⟨λh=>by rcases h with(h|h)|h<;>simp[h],λh=>by rcases h with h|h|h<;>simp[h]⟩
 rw[qS,this];simp
def D_(a:List (List Nat)):(qS a).Pairwise (· < ·):=by
 have:∀(a l:List (List Nat)),l.Pairwise (· < ·)->(a.foldl (λl x=>vq x l) l).Pairwise (· < ·):=by
  intro a
  induction a with
  |nil=>intro l h;exact h
  |cons x a ih=>intro l h;exact ih _ (Rz h)
 exact this a [] d8
theorem Hf:∀{l m:List (List Nat)},l.Pairwise (· < ·)->m.Pairwise (· < ·)->(∀x,x∈l↔x∈m)->l=m
 |[],[],_,_,_=>rfl
 |[],y::m,_,_,h=>absurd ((h y).mpr ar) 'k'
 |x::l,[],_,_,h=>absurd ((h x).mp ar) 'k'
 | x::l,y::m,hl,hm,h=>by
  obtain⟨c,f⟩:=bP.mp hl;obtain⟨d,g⟩:=bP.mp hm;have b:x=y:=by
   rcases am.mp ((h x).mp ar) with e|e
   ·exact e
   ·rcases am.mp ((h y).mpr ar) with e'|e'
    ·exact e'.symm
    ·exact absurd (iJ (d x e) (c y e')) (gE _)
  subst b;rw[Hf f g λz=>⟨λa=>by
    rcases am.mp ((h z).mp (aj _ a)) with e|e
    ·subst e;exact absurd (c z a) (gE _)
    ·exact e,λa=>by
    rcases am.mp ((h z).mpr (aj _ a)) with e|e
    ·subst e;exact absurd (d z a) (gE _)
    ·exact e⟩]
abbrev toS(cs:List Nat):Str:=⟨cs.toArray⟩
theorem KH:∀(p:Str)(l:List Str),risingS p l=qb->(p::l).Nodup->((p::l).map (·.cps.toList)).Pairwise (· < ·)
 |p,[],_,_=>by simp
 | p,x::r,h,nd=>by
  unfold risingS at h;rw[aR,eR,ltCps_eq,decide_eq_false_iff_not] at h;obtain⟨f,g⟩:=bu.mp nd;have a:=KH x r h.2 g;have b:p.cps.toList<x.cps.toList:=cK λq=>f (by
   have:=ko (iD.mp h.1) (iD.mp q);have e:p=x:=by
    obtain⟨c⟩:=p;obtain⟨d⟩:=x;have this:c.toList=d.toList:=this;rw[show c=d from m9.mp this]
   rw[e];exact ar)
  rw[bq];refine bP.mpr ⟨λy hy=>?_,a⟩;rw[bq] at hy a;rcases am.mp hy with rfl|hy
  ·exact b
  ·exact iJ b ((bP.mp a).1 y hy)
def Xg{b:List (List Nat)}{a:List Str}(d:a.Perm (uF (b.map toS)))(e:(uF (b.map toS)).Nodup)(f:sortedS a=qb):a=(qS b).map toS:=by
 have g:(a.map (·.cps.toList)).Pairwise (· < ·):=by
  cases a with
  |nil=>exact d8
  |cons p l=>exact KH p l f (d.nodup_iff.mpr e)
 have h:a.map (·.cps.toList)=qS b:=Hf g (D_ b) λx=>by
  rw[zZ,az];constructor
  ·rintro⟨o,i,rfl⟩;have:=(Qw _).mp (d.mem_iff.mp i);obtain⟨m,j,rfl⟩:=az.mp this;exact j
  ·intro k;exact⟨toS x,d.mem_iff.mpr ((Qw _).mpr (az.mpr ⟨x,k,rfl⟩)),rfl⟩
 rw[<- h,bi];refine(ju a).symm.trans (fc λo _=>?_);obtain⟨c⟩:=o;rfl
def oQ.nd(x:oQ P w a ks h):ks.Nodup:=by obtain⟨_,_,_,_,_,_,_,_,_,b,_⟩:=x;exact b
section
variable{X:Cx}{p:Pos}{e:aT}{t:DA}
def V6(K:ah)(P:aP)(w:aY):List V->Hp->VK->Prop:=λxs H Q=>∃(p:ae)(ss:List (List Nat)),xs=[.ref p]/\(qO K H p (ss.map λcs=>V.str (toS cs))\/rG K H p (ss.map λcs=>V.str (toS cs)))/\ss.length<=1000/\∀l,H l=KM->Q (.ref l) (upd H l (.ext (oQ P w l (uF (ss.map toS)))))
def zgG{b:List (List Nat)}{d:List ab}(r:oE (b.map λcs=>V.str (toS cs)) d){i:Nat}{v:ab}(h:d[i]?=KF v):∃t:Tok,v=jv ((b.map toS).getD i ⟨#[]⟩) t:=by
 obtain⟨x,a,f⟩:=R5 r h;rw[be] at a;cases c:b[i]? with
 |none=>rw[c] at a;cases a
 | some cs=>
  rw[c] at a;cases a;obtain⟨t,rfl⟩:=f;exact⟨t,by rw[aG,be,c];rfl⟩
def zdb(y:X.calm=qb):oM X (.type "set") (V6 X.K X.prog X.w):=by
 intro f s B H N O Q I r h;obtain⟨p,j,rfl,sq,P,q⟩:=h;obtain⟨u,rfl,C⟩:=uL r;cases C;have c:∀(z:ZK)(a:List ab),z.val=.ref p->z.pre s.heap->(∀x t,z ≠ .str x t)->z.vals=a.toArray->oE (j.map λD=>V.str (toS D)) a->ao (ay X.prog X.w) X.A (call (.type "set") [.ref p]) (EP X f B Q) X.xe s:=by
  intro z a E F G m d;have g:a.length=j.length:=by rw[<- d.length];simp
  rw[<- E];refine wT I (zed z (I.ok.hd y) F G (j.map toS) (by rw[m];simp[g]) (λi v e=>zgG d (by rw[m] at e;simpa using e)) (by rw[au];unfold scanBound;lia) λR J n L S=>?_);refine⟨.ref s.heap.objs.size,_,I.laid (t':=J) (o:=.ext (oQ X.prog X.w s.heap.objs.size (uF (j.map toS)))) (λb M z=>L b M (aK z) z) (aC _) ?_,rfl,q _ (I.hok.fresh (aC _))⟩;exact⟨n,let ⟨o,_,_,_,ho,_⟩:=n;⟨o,ho⟩,λT U x k=>x.keep k⟩
 rcases sq with sq|sq
 ·obtain⟨a,d,l,_⟩:=I.list sq;exact c (.lst p a.toArray) a rfl l.isList (λ_ _ e=>by cases e) rfl d
 ·obtain⟨a,d,l,_⟩:=I.tuple sq;exact c (.tup p a.toArray) a rfl l (λ_ _ e=>by cases e) rfl d
theorem KD:∀{vs:List ab}{a:List Str},eU vs a->oE (a.map V.str) vs
 |_,_,.nil=>.nil
 |_,_,.cons y t h=>.cons ⟨t,rfl⟩ (KD h)
def zdu(A:X.calm=qb):oM X (.builtin "sorted") (λxs H Q=>∃a f,xs=[.ref a]/\H a=KF (.ext (oQ X.prog X.w a f))/\f.length<1000/\∀l d,d.Perm f->f.Nodup->sortedS d=qb->H l=KM->Q (.ref l) (upd H l (.lst (d.map V.str)))):=by intro n s L H xs M Q I r h;obtain⟨a,f,rfl,B,o,q⟩:=h;obtain⟨u,rfl,C⟩:=uL r;cases C;have v:oQ X.prog X.w a f s.heap:=(I.hok a _ B).1;refine wT I (Y_ (I.ok.hd A) v o λi d l D c x E F j G y J K N=>?_);have z:H l=KM:=I.hok.fresh j;have g:d.length<=xc:=aI (gu (by rw[x.length_eq];exact o)) 'u';have k:oN X.prog X.w (upd H l (.lst (d.map V.str))) D.heap l (.lst (d.map V.str)):=⟨by rw[au];exact g,i.toList,c,KD F,by rw[G]⟩;have m:=I.hok.laid y j k;refine⟨.ref l,_,?_,rfl,q l d x v.nd E z⟩;exact I.call' K (Un.laid y j z) m (by rw[J];exact I.bare) (λb(hb:b∈([]:List ae))=>absurd hb (aW))
end
section
variable{Ex:Nat->Hp->Prop}
theorem Hj{K:ah}{H:Hp}{XV μ:List ae}:∀a:List (List Nat),oC K H XV μ (a.map D.str) (a.map λcs=>V.str (toS cs))
 |[]=>.nil
 |cs::r=>.cons JX (Hj r)
def Nw(o:Bool)(r:R (List D)):R D:=r.bnd λKB O1=>match vf KB with
 |some ss=>if ss.length<1000 then (if o=qb then .ok (.own O1.length) (O1++[(qS ss).map .str]) else .ok (.lst ((qS ss).map .str)) O1) else .bad
 |none=>.bad
theorem strL_map:∀a:List (List Nat),vf (a.map D.str)=KF a
 |[]=>rfl
 |cs::r=>by show(vf (r.map D.str)).map _=_;rw[strL_map r];rfl
def Zr{P:aP}{w:aY}{H H':Hp}{XV μ i:List ae}{b:Ow}{L:ae}{Q:VK}{o:Bool}{d:List (List Nat)}{K:ah}(x:Ext H μ H' i)(c:oB K H' XV i b)(j:H' L=KF (.ext (oQ P w L (uF (d.map toS)))))(k:d.length<1000)
  (q:q0 Ex K H XV μ (if o=qb then .ok (.own b.length) (b++[(qS d).map .str]) else .ok (.lst ((qS d).map .str)) b) Q):
  ∃a g,[V.ref L]=[V.ref a]/\H' a=KF (.ext (oQ P w a g))/\g.length<1000/\∀l h,h.Perm g->g.Nodup->sortedS h=qb->H' l=KM->Q (.ref l) (upd H' l (.lst (h.map V.str))):=by
 refine⟨L,_,rfl,j,gc (QH _) (by rw[au];exact k),λl h m n p f=>?_⟩;have e:=Xg m n p;subst e;rw[bi];cases o with
 |true=>exact post.ok (show q0 Ex K H XV μ (.ok (.own b.length) (b++[(qS d).map .str])) Q from q) (x.trans (.cell f)) (c.cell f (Hj _)) (Eo c.len)
 |false=>exact post.ok (show q0 Ex K H XV μ (.ok (.lst ((qS d).map .str)) b) Q from q) (x.trans (.laid f)) (c.laid f) (Y2.newL c f (Hj _))
end
section
variable{X:Cx}{Ex:Nat->Hp->Prop}{pos zj p p2:Pos}{e:aT}{es:List aT}{t:DA}
def Dz(o:Bool)(t:DA):DE:=λσ O=>(t σ O).bnd λxs O1=>match xs with
 | [x]=>match (match rD O1 x with|some ds=>KF ds|none=>zc x) with
  |some ds=>Nw o (.ok ds O1)
  |none=>.bad
 |_=>.bad
def X2(o:Bool)(B:X.calm=qb)(I:Gl X x)(J:X.mg x=KM)(L:br x=KF (.builtin "sorted"))(s:Gl X y)(M:X.mg y=KM)(u:br y=KF (.type "set"))(N:ug X Ex (e::es) t)
  (P:x ≠ "__name__":=by decide) (R:(x==("__debug__":Str))=qh:=by decide) (w:y ≠ "__name__":=by decide) (S:(y==("__debug__":Str))=qh:=by decide) (T:aN (e::es) X.env=(qh,eval e X.env)::aN es X.env:=by rfl) (U:(backTo zj (aN es X.env)).any (·.1)=qh:=by rfl)
  (C:aN [.Call (.Name y p2) (e::es) [] zj] X.env=(qh,eval (.Call (.Name y p2) (e::es) [] zj) X.env)::aN [] X.env:=by rfl):
  PD X Ex (.Call (.Name x p) [.Call (.Name y p2) (e::es) [] zj] [] pos) (Dz o t):=
 rM (He (zdu B) I J L (yQ (KE (zdb B) s M u N.out w S T U) Cd C) P R C (by rfl)) λb Z σ O d_ H Q f V q=>
  uC.go f V q λxs m vs n D e2 x2 c d p=>by
   split at p
   ·rename_i x;obtain⟨v,rfl,E⟩:=uj d;split at p
    ·rename_i F r;have h:∃g a,v=.ref g/\(qO X.K n g a\/rG X.K n g a)/\oC X.K n b D F a:=by
      cases f:rD m x with
      | some es=>
       rw[f] at r;cases r;obtain⟨p,a,z,i,j⟩:=vO c E f;exact⟨p,a,z,.inl i,j⟩
      | none=>
       rw[f] at r;obtain⟨p,a,z,i,j⟩:=AK E r;exact⟨p,a,z,.inr i,j⟩
     obtain⟨g,a,rfl,i,j⟩:=h;have p:q0 Ex X.K n b D (match vf F with|some k=>if k.length<1000 then (if o=qb then .ok (.own m.length) (m++[(qS k).map .str]) else .ok (.lst ((qS k).map .str)) m) else .bad|none=>.bad) Q:=p;split at p
     ·rename_i k A;obtain⟨W,p⟩:=post.ite p;have Y:=GS j A;subst Y;exact⟨g,k,rfl,i,by lia,λl G=>Zr (.laid G) (c.laid G) rq W p⟩
     ·exact ak p
    ·exact ak p
   ·exact ak p
end
end DL
namespace DL
open PySem L2
structure Nx(l:List Str):Prop
section
variable{X:Cx}{Ex:Nat->Hp->Prop}{elt tg iter:aT}{ifs:List aT}{gs:List bJ}{scope:cT}{pos rP py:Pos}{x y:Str}{i k:Nat}{ext:List Str}{it0:DI}{g:Tg}{ts:List DT}{cs:List Cl}{te:DE}
abbrev GC(X:Cx)(ext:List Str)(scope:cT)(tg:aT)(g:Tg)(ifs:List aT)(ts:List DT)(gs:List bJ)(cs:List Cl)(elt:aT)(te:DE):Prop:=∀cells C s H fp,PG (qB X (X.N++ext) scope cells C s H fp) tg (g.rd X.K)/\cj (λe t=>rm (qB X (X.N++ext) scope cells C s H fp) qy e t) ifs ts/\oU (qB X (X.N++ext) scope cells C s H fp) gs cs/\PD (qB X (X.N++ext) scope cells C s H fp) qy elt te
def Ke(_:Nx ext)(o:Bool)(a:X.calm=qb)(b:wJ X.env.scope scope (X.N++ext) (qu (⟨it0,g,ts⟩::cs)))(c:sM X Ex tg iter it0)(d:GC X ext scope tg g ifs ts gs cs elt te)(e:ext.length=k:=by rfl)(f:∀x,bU iter X.env x=pure x:=by intro _;rfl):
  PD X Ex (.ListComp elt (⟨tg,iter,ifs,0⟩::gs) scope pos) (qg o k it0 g ts cs te):=e▸YR o ext a c b d f
def K1(_:Nx ext)(o:Bool)(a:X.calm=qb)(b:X.N.Nodup)(c:X.N[i]?=KF y)(d:X.env.scope.names.lookup y=KF .local)(e:wJ X.env.scope scope (X.N++ext) (qu (⟨it0,g,ts⟩::cs)))(f:sM X Ex tg iter it0)(h:GC X ext scope tg g ifs ts gs cs elt te)
  (j:swapsWith (.ListComp elt (⟨tg,iter,ifs,0⟩::gs) scope pos) (KF (.Name y py)) rP.line X.env=pure qb) (l:ext.length=k:=by rfl) (m:∀x,bU iter X.env x=pure x:=by intro _;rfl):
  sC X Ex (.Assign [.Name y py] (.ListComp elt (⟨tg,iter,ifs,0⟩::gs) scope pos) rP) (pS i (qg o k it0 g ts cs te)):=l▸za3 o ext a b c d f e h j m
end
noncomputable def vN(c:DT)(b:DS):Nat->Sg->Ow->RS
 |0,_,_=>.bad
 | f+1,σ,O=>(c σ O).bnS λk O1=>if k=qb then (match b σ O1 with
   |.nx σ' O'=>vN c b f σ' O'
   |.ct σ' O'=>vN c b f σ' O'
   |.bk σ' O'=>.nx σ' O'
   |r=>r) else .nx σ O1
def JF(f:Nat)(c:DT)(b:DS):DS:=vN c b f
section
variable{X:Cx}{Ex:Nat->Hp->Prop}{pos:Pos}
def zcB(f:Nat)(y:kH (ay X.prog X.w) X.A X.env X.xe)(B:rm X Ex c tc)(C:t7 X Ex body tb):sC X Ex (.While c body [] pos) (JF f tc tb):=
 yc (zfV y B.out C.out) λa g b O E h H j l q=>by
  refine⟨λm h H=>∃a g b O,oD X.K H a g b h/\oB X.K H a g O/\oF Ex X.K H a g (vN tc tb m b O) E,⟨f,a,g,b,O,j,l,q⟩,?_⟩;rintro m h H ⟨a,g,b,O,j,l,q⟩;cases m with
  |zero=>exact ak q
  | succ f=>
   refine xf.goS j l q λk n t o u G v p=>?_;cases k with
   |false=>exact p h t o .refl u v
   | true=>
    rw[qq rfl];refine⟨λh H=>∃a g b O,oD X.K H a g b h/\oB X.K H a g O/\oF Ex X.K H a g (vN tc tb f b O) E,λ_ _ z=>⟨f,cP _,z⟩,a,o,b,n,u,v,?_⟩;have p:oF Ex X.K t a o (match tb b n with|.nx σ' O'=>vN tc tb f σ' O'|.ct σ' O'=>vN tc tb f σ' O'|.bk σ' O'=>.nx σ' O'|r=>r) E:=p;cases i:tb b n with
    |nx σ' O'=>rw[i] at p;exact λD F s x e c=>⟨a,s,σ',O',e,c,oF.ext p x⟩
    |ct σ' O'=>rw[i] at p;exact λD F s x e c=>⟨a,s,σ',O',e,c,oF.ext p x⟩
    |bk σ' O'=>rw[i] at p;exact p
    |rt d O'=>rw[i] at p;exact p
    |exc c' O'=>rw[i] at p;exact p
    |bad=>rw[i] at p;exact p
end
end DL
namespace DL
open PySem L2 PyProof.Rows
abbrev DK:=Sum Int (List Nat)
noncomputable def v_:D->Option DK
 |.int i=>KF (.inl i)
 |.str cs=>KF (.inr cs)
 |_=>KM
def BP(k:DK):D->Bool
 |.map [j] _=>decide (j=k)
 |_=>qh
def CY:List D->List DK
 |.map [k] _::r=>k::CY r
 |_=>[]
def CZ:List D->List D
 |.map _ [d]::r=>d::CZ r
 |_=>[]
def sP(p:DK×D):D:=.map [p.1] [p.2]
theorem Kb:∀a:List (DK×D),CY (a.map sP)=a.map (·.1)
 |[]=>rfl
 |p::r=>by show p.1::CY (r.map sP)=_;rw[Kb r];rfl
theorem J5:∀a:List (DK×D),CZ (a.map sP)=a.map (·.2)
 |[]=>rfl
 |p::r=>by show p.2::CZ (r.map sP)=_;rw[J5 r];rfl
def GR:∀{a b:DK},kD a=kD b->a=b
 |.inl i,.inl j,h=>by cases h;rfl
 | .inr x,.inr y,h=>by
  have h:(⟨x.toArray⟩:Str)=⟨y.toArray⟩:=jp h;have h:x.toArray=y.toArray:=congrArg Str.cps h;have:x=y:=by simpa using h
  rw[this]
 |.inl _,.inr _,h=>by cases h
 |.inr _,.inl _,h=>by cases h
def Ap(tk tv:DE):Em:=λσ O KB=>(tk σ O).bnd λx O1=>match v_ x with
 |some k=>(tv σ O1).bnd λd O2=>if KB.length<1000/\KB.any (BP k)=qh then .ok (KB++[.map [k] [d]]) O2 else .bad
 |none=>.bad
def B8(ke ve:aT):vL where
 ex:=λgens scope pos=>.DictComp ke ve gens scope pos
 emit:=λKB env=>do
  let kv <- eval ke env;let vv <- holding [kv] (eval ve env)
  match KB with
  | .ref d=>do
   standAt { ke.pos with endLine:=ve.pos.endLine,endCol:=ve.pos.endCol }
   holding [kv,vv] (dictSet d kv vv)
  |_=>unsupported "internal:dictcomp"
 new:=newDict
 ho:=λ_ _ _=>.dK []
 G:=λK _ _ A XV H μ KB=>∃(ps:List (DK×D))(vs:List V),KB=ps.map sP/\H A=KF (.dK ((ps.map λp=>kD p.1).zip vs))/\ps.length=vs.length/\oC K H (A::XV) μ (ps.map (·.2)) vs
def QM(j l:aT):AM (B8 j l) where
 cl:=λ_ _ _=>rfl
 turn:=λc b f k o g i z m p n d=>by
  show compTurn (.DictComp j l c b f) k o g i=_;unfold compTurn AH;rcases d with d|⟨A,B,C,d⟩
  ·simp only[n,d];rfl
  ·simp only[n,d,bne_self_eq_false,bX,if_false,bind_assoc,pure_bind]
   first|rfl|congr 1
 keep:=λ⟨q,r,e,s,t,u⟩ v x=>⟨q,r,e,x.keep _ _ s v,t,u.ext x⟩
 new:=λh=>cH (h _ rfl λH h a w e=>by
  refine⟨bE _,beq_eq_false_iff_ne.mpr (bL (bo w)),[],.nil,?_⟩;exact⟨_,#[],0,e,⟨rfl,rfl,rfl⟩,rfl,λ_ y=>by simp at y,Pairs.nil,io⟩)
 g0:=⟨[],[],rfl,rq,rfl,.nil⟩
 q1:=λ_ _ _ _ _ _ _=>rfl
 u1:=λ_ _ _ _ _ _ _ _=>rfl
 d1:=λ_ _ _ _ _ _ _ _ _=>rfl
 u2:=λ_ _ _ _ _ _ _ _=>rfl
 d2:=λ_ _ _ _ _ _ _ _ _=>rfl
def xv(g:H A=KF (.dK k_)):∀a,oP H a->oP (upd H A o) a:=by
 rintro a ⟨h,b,i,j⟩;have k:a≠A:=by rintro rfl;rw[g] at b;cases b
 refine⟨h,by rw[p9 k];exact b,i,λd l e=>?_⟩;obtain⟨c,m,rfl,f,n⟩:=j d l e;have p:c≠A:=by rintro rfl;rw[g] at f;cases f
 exact⟨c,m,rfl,by rw[p9 p];exact f,n⟩
theorem Rn:∀(ps:List (DK×D))(vs:List V),(ps.map sP).any (BP k)=qh->t8 ((ps.map λp=>kD p.1).zip vs) (kD k)=KM
 |[],_,_=>rfl
 |_::_,[],_=>rfl
 | p::r,v::vs,h=>by
  rw[bq,f7,Bool.or_eq_false_iff] at h;obtain⟨a,b⟩:=h;have n:¬ p.1=k:=λe=>by
   have:decide (p.1=k)=qh:=a;rw[decide_eq_true e] at this;cases this
  show t8 ((kD p.1,v)::(r.map λp=>kD p.1).zip vs) (kD k)=KM;rw[Ct (p:=(kD p.1,v)) (λe=>n (GR e))];exact Rn r vs b
def Jn{K:ah}{H:Hp}{XV μ:List ae}{x:D}{k:DK}{v:V}(e:v_ x=KF k)(h:Y2 K H XV μ x v):v=kV (kD k):=by
 cases x with
 |int i=>cases e;unfold Y2 at h;exact h
 |str cs=>cases e;unfold Y2 at h;exact h
 |_=>cases e
section
variable{X:Cx}{A:ae}{XV:List ae}{ke ve:aT}{gens:List bJ}{tk tv:DE}
def zeS{Z:L2.St->Hp->List ae->Prop}{k:Nat}{e:aT}(W:X.xe=λ_ _=>False)(L:PD X qy ke tk)(M:PD X qy ve tv)(hk:gens[k]?=KM):yO X Z (B8 ke ve) A XV e gens (Ap tk tv) k []:=by
 intro b s i H j l O KB Q E _ B q;unfold AH;rw[hk];show ao _ _ (do
  let kv <- eval ke X.env;let vv <- holding [kv] (eval ve X.env)
  (do
   standAt { ke.pos with endLine:=ve.pos.endLine,endCol:=ve.pos.endCol }
   holding [kv,vv] (dictSet A kv vv))) _ _ s
 obtain⟨a,n,rfl,hA,N,dA⟩:=B.grown;unfold uX Ap at q;cases D:tk l O with
 |exc c O1=>rw[D] at q;exact q.elim
 |bad=>rw[D] at q;exact q.elim
 | ok x O1=>
  rw[D] at q;have f:yd X (B8 ke ve) A XV b i H j (qu []) (match v_ x with
   |some k=>(tv l O1).bnd λd o=>if (a.map sP).length<1000/\(a.map sP).any (BP k)=qh then .ok (a.map sP++[.map [k] [d]]) o else .bad
   |none=>.bad) Q:=q
  cases P:v_ x with
  |none=>rw[P] at f;exact f.elim
  | some kk=>
   rw[P] at f;dsimp only at f;refine aa (Aa W (L.out b s i H (λv g=>∃h,Ext H j g h/\oB X.K g (A::XV) h O1/\Y2 X.K g (A::XV) h x v) B.inv ⟨A::XV,j,l,O,B.env,B.cells,by rw[D];exact λv H' R x c r=>⟨R,x,c,r⟩⟩)
    λu s1 ⟨v,g,I1,ru,h,Y,c1,r1⟩=>?_)
   cases F:tv l O1 with
   |exc c o=>rw[F] at f;exact f.elim
   |bad=>rw[F] at f;exact f.elim
   | ok d o=>
    rw[F] at f;have G:yd X (B8 ke ve) A XV b i H j (qu []) (if (a.map sP).length<1000/\(a.map sP).any (BP kk)=qh then .ok (a.map sP++[.map [kk] [d]]) o else .bad) Q:=f;by_cases I:(a.map sP).length<1000/\(a.map sP).any (BP kk)=qh
    ·rw[qq I] at G;refine aa (bH (Aa W (M.out b s1 i g (λv J=>∃t,Ext g h J t/\oB X.K J (A::XV) t o/\Y2 X.K J (A::XV) t d v) I1 ⟨A::XV,h,l,O1,B.env.ext Y,c1,by rw[F];exact λv H' R x c r=>⟨R,x,c,r⟩⟩)
      λu2 s2 ⟨S,J,I2,Lq,t,x2,c2,r2⟩=>?_))
     refine aa (eS (bH ?_));have nA:A∉j:=λm=>B.cells.nh A m 'k';have T:=Y.trans x2;have w:=T.keep A _ hA nA;have U:=dA.ext T;have ek:=Jn P r1;subst ek;obtain⟨z,hd,ws,y,dd⟩:=GB I2.hok w;have C:((a.map λp=>kD p.1).zip n).length=a.length:=by rw[g7,au,<- N,Nat.min_self]
     have V:a.length<1000:=by have:=I.1;rwa [au] at this
     have hz:ws.length<=xc:=by rw[<- y.length];exact z
     refine wpAny_dictSet_pairs (hsz:=hz) (B4 ru) dd λh' yq sb=>?_;have he:∃q,h'.get? A=KF q:=let ⟨q,_,_,hq,_⟩:=yq;⟨q,hq⟩;have xi:(wU ((a.map λp=>kD p.1).zip n) (kD kk) S).length<=xc:=aI (SR _ _ _) (by rw[C];exact aI V 'u');have I3:=JT (t':=s2.toks+1) (ob:=.dK (wU ((a.map λp=>kD p.1).zip n) (kD kk) S)) I2 (by rw[w];exact fk) sb he (GJ xi hd (y.put _ Lq) yq);rw[zfh _ (Rn a n I.2)] at I3;refine G _ i _ t I3 (T.ea.trans (.putX (xv w))) (c2.putX (xv w)) ⟨a++[(kk,d)],n++[S],by rw[bA];rfl,?_,by simp[N],?_⟩ rfl λ_ _=>rfl
     ·rw[rq,bA,List.zip_append (by rw[au];exact N)];rfl
     ·rw[bA];exact(U.append (.cons r2 .nil)).mv (Ea.putX (A:=A) (xv w)).mv
    ·rw[qM I] at G;exact G.elim
end
def Inv.swapK(I:L2.Inv X Y1 σ H s)(e:H a=KF u0)(h:(∃i,u0=.dK i) \/ ∃o i,u0=.frz o (.dK i))(r:∀o u,X.H₀ a≠KF (.frz o u))(j:oN X.prog X.w (upd H a u1) s.heap a u1):L2.Inv X Y1 σ (upd H a u1) s:=by
 have k:∀{b:ae}{d:List V},H b=KF (.tup d)->b≠a:=λ{b d}z q=>by
  rw[q,e] at z;rcases h with⟨_,rfl⟩|⟨_,_,rfl⟩<;>cases z
 have f:∀{b:ae},H b=KM->upd H a u1 b=KM:=λ{b}z=>by rw[p9 (bL (rX e z))];exact z
 refine⟨I.ok,I.os,I.bare,⟨I.base.keep,I.base.slot,λb o g n t=>f (I.base.free b o g n t),I.base.there,λb d g=>?_,λb o u g=>?_,λb v g=>?_⟩,I.loc,I.cell,f I.free,λx c g=>f (I.freeC x c g),λp y=>let ⟨g1,g2,g3⟩:=I.pin p y;⟨g1,f g2,g3⟩,λb u g=>?_,I.len,I.tk⟩
 ·have z:=I.base.tups b d g;rw[p9 (k z)];exact z
 ·have n:b≠a:=λq=>r o u (q▸g);rw[p9 n];exact I.base.frzs b o u g
 ·obtain⟨m,z⟩:=I.base.tbls b v g;refine⟨m,?_⟩;rw[p9 (λq=>?_)];exact z;rw[q,e] at z;rcases h with⟨_,rfl⟩|⟨_,_,rfl⟩<;>cases z
 ·by_cases l:b=a
  ·subst l;rw[rq] at g;cases g;exact j
  ·rw[p9 l] at g;refine(I.hok b u g).stay (λ_ _ _ z=>z) (λA z=>?_) λA d z=>?_
   ·rw[p9 (λq=>?_)];exact z;rw[q,e] at z;rcases h with⟨_,rfl⟩|⟨_,_,rfl⟩<;>cases z
   ·rw[p9 (k z)];exact z
def Inv.nofrz(I:L2.Inv X Y1 σ H s)(e:H a=KF (.dK k_)):∀o u,X.H₀ a≠KF (.frz o u):=λo u z=>by
 have:=I.base.frzs a o u z;rw[e] at this;cases this
def Inv.frzK(I:L2.Inv X Y1 σ H s)(e:H a=KF (.dK k_)):∃o,L2.Inv X Y1 σ (upd H a (.frz o (.dK k_))) s:=by obtain⟨z,d,f,b,c⟩:=GB I.hok e;obtain⟨o,h,i,g,r⟩:=id c;exact⟨o,Inv.swapK I e (.inl ⟨_,rfl⟩) (Inv.nofrz I e) ⟨g,z,d,f,b,c⟩⟩
def Inv.thawK(I:L2.Inv X Y1 σ H s)(e:H a=KF (.frz o (.dK k_)))(c:∀o u,X.H₀ a≠KF (.frz o u)):L2.Inv X Y1 σ (upd H a (.dK k_)) s:=by obtain⟨z,d,f,b,g⟩:=B5 I.hok (.inr ⟨o,e⟩);exact Inv.swapK I e (.inr ⟨_,_,rfl⟩) c ⟨z,d,f,b,g⟩
def SM{K:ah}{H:Hp}{XV μ:List ae}{O:Ow}{L:ae}{a:List (DK×D)}{vs:List V}{o:Obj}(c:oB K H (L::XV) μ O)(b:L∉XV)(h:H L=KF (.frz o (.dK ((a.map λp=>kD p.1).zip vs))))(d:a.length=vs.length)(q:oC K H (L::XV) μ (a.map (·.2)) vs):
  Y2 K H XV μ (.map (CY (a.map sP)) (CZ (a.map sP))) (.ref L):=by rw[Kb,J5];unfold Y2;exact⟨L,vs,rfl,⟨o,by rw[bi];exact h⟩,b,λm=>c.nh L m 'k',by rw[au];exact d,q.mv .unhide⟩
def xA(ext:Nat)(it0:DI)(g:Tg)(ts:List DT)(cs:List Cl)(tk tv:DE):DE:=λσ O=>(z_ ext it0 g ts cs (Ap tk tv) σ O).bnd λKB O1=>.ok (.map (CY KB) (CZ KB)) O1
section
variable{X:Cx}{Ex:Nat->Hp->Prop}
def NB{f h d a:aT}{b:List aT}{gs:List bJ}{scope:cT}{pos:Pos}{ext:List Str}{g:Tg}{ts:List DT}{cs:List Cl}{tk tv:DE}
  (i:∀cells C s H c,PG (qB X (X.N++ext) scope cells C s H c) d (g.rd X.K)/\cj (λe t=>rm (qB X (X.N++ext) scope cells C s H c) qy e t) b ts/\oU (qB X (X.N++ext) scope cells C s H c) gs cs/\PD (qB X (X.N++ext) scope cells C s H c) qy f tk/\PD (qB X (X.N++ext) scope cells C s H c) qy h tv) {Z:ae->Hp->L2.St->Hp->List ae->Prop} (cells Cn s H c):
  PG (qB X (X.N++ext) scope cells Cn s H c) d (g.rd X.K)/\cj (λe t=>rm (qB X (X.N++ext) scope cells Cn s H c) qy e t) b ts/\oU (qB X (X.N++ext) scope cells Cn s H c) gs cs/\∀A XV k,(⟨d,a,b,0⟩::gs:List bJ)[k]?=KM->yO (qB X (X.N++ext) scope cells Cn s H c) (Z A H) (B8 f h) A XV ((B8 f h).ex (⟨d,a,b,0⟩::gs) scope pos) (⟨d,a,b,0⟩::gs) (Ap tk tv) k []:=
 let ⟨h1,h2,h3,h4,h5⟩:=i cells Cn s H c
 ⟨h1,h2,h3,λ_ _ _ j=>zeS rfl h4 h5 j⟩
def zgr(ext:List Str)(B:X.calm=qb)(D:sM X Ex tg iter it0)(E:wJ X.env.scope scope (X.N++ext) (qu (⟨it0,g,ts⟩::cs)))
  (F:∀cells C s H a,PG (qB X (X.N++ext) scope cells C s H a) tg (g.rd X.K)/\cj (λe t=>rm (qB X (X.N++ext) scope cells C s H a) qy e t) ifs ts/\oU (qB X (X.N++ext) scope cells C s H a) gs cs/\PD (qB X (X.N++ext) scope cells C s H a) qy ke tk/\PD (qB X (X.N++ext) scope cells C s H a) qy ve tv)
  (G:∀x,bU iter X.env x=pure x:=by intro _;rfl):PD X Ex (.DictComp ke ve (⟨tg,iter,ifs,0⟩::gs) scope pos) (xA ext.length it0 g ts cs tk tv):=by
 refine⟨?_⟩;rintro j s d_ H Q I ⟨f,μ,M,O,P,k,q⟩;show ao _ _ (comprehension (.DictComp ke ve (⟨tg,iter,ifs,0⟩::gs) scope pos) scope X.env _ newDict qh (eval iter X.env)) _ _ s;unfold xA at q;refine Eb (QM ke ve) (use:=KM) B D E (λcells R s H a _ _ _=>NB F cells R s H a) G I P k ?_;cases h:z_ ext.length it0 g ts cs (Ap tk tv) M O with
 |bad=>rw[h] at q;exact q
 |exc c' O'=>rw[h] at q;exact q
 | ok KB O'=>
  rw[h] at q;rintro L l r v x c ⟨w,y,rfl,i,S,T⟩ s' C U V W Y Z ce pn;obtain⟨m,hn⟩:=V;have n1:L∉f:=λm=>k.ht L m v;refine⟨m,hn,λh' zt=>?_⟩;obtain⟨o,J⟩:=Inv.frzK (Inv.bare U zt W Y Z ce pn) i;have z:Ea L l r (upd l L (.frz o (.dK ((w.map λp=>kD p.1).zip y)))) r:=.putX (xv i);have A:=c.putX (o:=.frz o (.dK ((w.map λp=>kD p.1).zip y))) (xv i);have d:=x.ea.trans z;exact⟨.ref L,_,J,rfl,post.ok q ⟨d.pre,λb u g n ht=>d.kept b u g n (rX g v) ht,d.fresh,d.there,d.tab⟩ A.unhide (SM A n1 rq S (T.mv z.mv))⟩
end
def Zs{b:List (List Nat)}{a:List Str}(d:a.Perm (b.map toS))(f:b.Nodup)(g:sortedS a=qb):a=(qS b).map toS:=by
 have i:(b.map toS).Nodup:=by
  rw[List.nodup_iff_pairwise_ne] at f ⊢;rw[iy];refine f.imp λh e=>h ?_;have e:(toS _).cps=(toS _).cps:=congrArg Str.cps e;simpa using e
 have j:(a.map (·.cps.toList)).Pairwise (· < ·):=by
  cases a with
  |nil=>exact d8
  |cons p l=>exact KH p l g (d.nodup_iff.mpr i)
 have k:a.map (·.cps.toList)=qS b:=Hf j (D_ b) λx=>by
  rw[zZ,az];constructor
  ·rintro⟨o,m,rfl⟩;obtain⟨r,n,rfl⟩:=az.mp (d.mem_iff.mp m);exact n
  ·intro q;exact⟨toS x,d.mem_iff.mpr (az.mpr ⟨x,q,rfl⟩),rfl⟩
 rw[<- k,bi];refine(ju a).symm.trans (fc λo _=>?_);obtain⟨c⟩:=o;rfl
def wc(k:DK):List DK->List D->Option D
 |j::ks,d::ds=>if j=k then KF d else wc k ks ds
 |_,_=>KM
theorem RE{K:ah}{H:Hp}{XV μ:List ae}{k:DK}{d:D}:∀{a:List DK}{ds:List D}{vs:List V},a.length=vs.length->oC K H XV μ ds vs->wc k a ds=KF d->∃v,t8 ((a.map kD).zip vs) (kD k)=KF v/\Y2 K H XV μ d v
 |[],_,_,_,_,h=>by unfold wc at h;cases h
 |_::_,[],_,_,_,h=>by unfold wc at h;cases h
 |j::a,d'::ds,[],hl,_,_=>by cases hl
 | j::a,d'::ds,v::vs,hl,dd,h=>by
  obtain⟨g,i,b,c,f⟩:=(show ∃w r,v::vs=w::r/\Y2 K H XV μ d' w/\oC K H XV μ ds r from dd);cases b;unfold wc at h;show ∃w,t8 ((kD j,v)::(a.map kD).zip vs) (kD k)=KF w/\_;by_cases e:j=k
  ·rw[qq e] at h;cases h;exact⟨v,D4 (p:=(kD j,v)) (congrArg kD e),c⟩
  ·rw[qM e] at h;rw[Ct (p:=(kD j,v)) (λz=>e (GR z))];exact RE (mz hl) f h
def AD(td ty:DE):DE:=λσ O=>(td σ O).bnd λx O1=>match x with
 | .map ks ds=>(ty σ O1).bnd λy O2=>match v_ y with
  | some k=>match wc k ks ds with
   |some d=>.ok d O2
   |none=>.bad
  |none=>.bad
 |_=>.bad
section
variable{X:Cx}{Ex:Nat->Hp->Prop}{o i:aT}{pos:Pos}{td ty:DE}
def zfv{o i:aT}{pos:Pos}{td ty:TE}(n:PE X o td)(p:PE X i ty)(q:BZ i):PE X (.Subscript o i pos) (λσ H Q=>td σ H λx d=>ty σ d λy c=>∃a f k v,x=.ref a/\Rd c a (.dK f)/\y=kV k/\t8 f k=KF v/\Q v c):=by intro b s σ H Q I h;refine JP (T := "dict") gY.lookup q (pV (n b s σ H _ I h) λu r ⟨x,d,t,w,A⟩=>pV (p b r σ d _ t A) λK L ⟨y,c,j,B,a,f,k,v,C,e,D,l,E⟩=>?_);subst C D;obtain rfl:u=fu a:=w;obtain⟨z,M,F,g,m⟩:=B5 j.hok e;obtain⟨N,G,J⟩:=o0.some_of (v:=v) (o:=valueAt F k) (by rw[<- l];exact g.val k);exact⟨m.mapOf.typeIs,kg (B4 B) m.mapOf G ⟨v,c,j.tok _,J,E⟩⟩
def zi5(g:PD X Ex o td)(h:PD X Ex i ty)(j:BZ i):PD X Ex (.Subscript o i pos) (AD td ty):=
 rM (zfv g.out h.out j) λl G I O J H Q m n q=>rd.go m n q λd K v L M s x t r p=>by
  cases d with
  | map ks ds=>
   refine rd.go s t p λy N w P R S u z A b=>?_;have f:=Y2.ext u r;unfold Y2 at f;obtain⟨a,T,rfl,B,U,V,C,D⟩:=f;cases c:v_ y with
   |none=>rw[c] at b;exact b.elim
   | some k=>
    rw[c] at b;dsimp only at b;cases e:wc k ks ds with
    |none=>rw[e] at b;exact b.elim
    | some d=>
     rw[e] at b;obtain⟨v,E,F⟩:=RE C D e;exact⟨a,_,kD k,v,rfl,.inr B,Jn c A,E,post.here b z F⟩
  |_=>exact ak p
end
section
variable{X:Cx}{Ex:Nat->Hp->Prop}
def Ww:br "sum" = KF (.builtin "sum"):=by boot_by_name
def zdD(f:X.calm=qb):oM X (.builtin "sum") (λxs H Q=>∃(p:ae)(ns:List Int),xs=[.ref p]/\qO X.K H p (ns.map V.int)/\Q (.int ns.sum) H):=by
 intro b s t H xs v Q I r h;obtain⟨p,ns,rfl,g,q⟩:=h;obtain⟨u,rfl,i⟩:=uL r;cases i;obtain⟨w,j,k,x⟩:=I.list g;have c:=SI j;obtain⟨a,d⟩:=c.allInts.items;have l:ns=a.toList.map (·.1):=by rw[<- c.numsOf,<- l8,<- d]
 have e:=k.isList;rw[d] at e;refine wT I (sum_intListG (I.ok.hd f) e λy m t' n z=>?_);have o:preSum (numAt a) a.size=ns.sum:=by
  rw[preSum_eq,cN 'k',l]
 rw[o];exact⟨.int _,H,I.kept (t':=m) n,⟨_,rfl⟩,q⟩
def Au:Ow->List D->R D:=λO xs=>match xs with
 | [x]=>match rD O x with
  | some ds=>match wb ds with
   |some ns=>.ok (.int ns.sum) O
   |none=>.bad
  |none=>.bad
 |_=>.bad
def WC:uW X Ex (λxs H Q=>∃(p:ae)(ns:List Int),xs=[.ref p]/\qO X.K H p (ns.map V.int)/\Q (.int ns.sum) H) Au:=by
 intro H a i O xs j Q c d q;unfold Au at q;split at q
 ·rename_i x;obtain⟨v,rfl,b⟩:=uj d;split at q
  ·rename_i k e;obtain⟨p,l,rfl,f,g⟩:=vO c b e;split at q
   ·rename_i ns h;refine⟨p,ns,rfl,?_,post.here q c r9⟩;rw[<- JU g h];exact f
   ·exact ak q
  ·exact ak q
 ·exact ak q
end
section
variable{X:Cx}{Ex:Nat->Hp->Prop}
def KG(_:Nx ext)(b:X.calm=qb)(c:wJ X.env.scope scope (X.N++ext) (qu (⟨it0,g,ts⟩::cs)))(d:sM X Ex tg iter it0)
  (f:∀cells C s H a,PG (qB X (X.N++ext) scope cells C s H a) tg (g.rd X.K)/\cj (λe t=>rm (qB X (X.N++ext) scope cells C s H a) qy e t) ifs ts/\oU (qB X (X.N++ext) scope cells C s H a) gs cs/\PD (qB X (X.N++ext) scope cells C s H a) qy ke tk/\PD (qB X (X.N++ext) scope cells C s H a) qy ve tv)
  (h:ext.length=k:=by rfl) (i:∀x,bU iter X.env x=pure x:=by intro _;rfl):PD X Ex (.DictComp ke ve (⟨tg,iter,ifs,0⟩::gs) scope pos) (xA k it0 g ts cs tk tv):=h▸zgr ext b d c f i
end
end DL
namespace DL
open PySem L2
open PyProof.Rows (AllBare)
structure zoe(Cl:Nat->ab)(P:aP)(w:aY)(K:ah)(mg:Str->Option ab)(base:aX)(x:Str)(k n:Nat)(Pt:ae)(F:List D->Ow->R D):Prop where
 ex:∃f fd ps,mg x=KF (.ref f)/\cV K (.ref f)=qb/\Binds K fd ps []/\oR P w K mg base (Nq P w Cl) k f fd ps (yA K (Xk Cl) n Pt F)
structure yC(K:ah)(mg:Str->Option ab)(x:Str)(st:eI)(c:ae):Prop where
 ex:∃f fd,mg x=KF (.ref f)/\L2.Fun K x x st f fd/\fd.code=.ref c
def tJ(Pt iT n:Nat)(F:List D->Ow->R D)(t:DA):DE:=λσ O=>match σ[iT]? with
 |some (KF (.tab p))=>if p=Pt then j_ n F t σ O else .bad
 |_=>.bad
structure IJ where
 params:iU
 body:aT
 scope:cT
 tE:DE
def Xa(X:Cx)(L:IJ)(c:ae)(ct:ab):Obj:={ cls:=.type "function",data:=.func (d6 "<lambda>" (X.env.qual ++ "<lambda>") L.params L.body L.scope (rN X.env.cells L.scope.names []) ((X.mg "__name__").getD .none) (.ref c) ct) }
def o7(X:Cx)(L:IJ)(H:Hp)(a:ae):Prop:=∃c φ ct,H a=KF (.ext λh=>h.get? a=KF (Xa X L c ct))/\H c=KF (.ext φ)/\∀h:aX,φ h->∃q,h.CodeRec (.ref c) q
structure zpm(Cl:Nat->ab)(X:Cx)(k:Nat)(L:IJ):Prop where
 ls:zf7 X.env.scope L.scope
 df:defaultsOf L.params X.env=([],[])
 bl:∀(name qual:Str)(cl:List (Str×ae))(pm cd ct:ab),bindArgs (d6 name qual L.params L.body L.scope cl pm cd ct) ⟨[],[]⟩=pure []
 E:∀(q:Str)(lam:ae)(cd:ab)(cl:List (Str×ae))(A:ba)(outer:List Env)(s:ag)(H:Hp)(E:XK),oK k (A.deeper (wL q L.scope s.heap.objs.size lam cd cl))->PD (cxL (Nq X.prog X.w Cl) X.prog X.w X.K X.mg X.base X.N (wL q L.scope s.heap.objs.size lam cd cl) A outer s H E) (Xk Cl E) L.body L.tE
section
variable{X:Cx}{H H':Hp}
def o7.ext(h:o7 X L H a)(x:Ext H [] H' []):o7 X L H' a:=by obtain⟨c,b,d,e,f,g⟩:=h;exact⟨c,b,d,x.keep _ _ e 'k',x.keep _ _ f 'k',g⟩
end
structure IL(X:Cx)(H0:Hp)(l:ae)(ls:List IJ)(as:List ae)(H:Hp):Prop where
 nl:H0 l=KM
 ea:Ea l H0 [] H []
 at_:H l=KF (.lst (as.map V.ref))
 lam:cj (λL a=>o7 X L H a) ls as
 nd:as.Nodup
def IL.ext(b:IL X H0 l ls as H)(μ:List ae):Ext H0 μ H μ:=
 ⟨⟨[],by simp⟩,λc o h _ a=>b.ea.kept c o h 'k' (rX h b.nl) a,λ_ m=>.inl m,b.ea.there,b.ea.tab⟩
def IL.cells(b:IL X H0 l ls as H)(c:oB K H0 XV μ O):oB K H XV μ O:=by refine⟨c.len,c.nd,c.nh,λa m=>b.ea.there a (c.ht a m),λk a e=>?_⟩;obtain⟨f,g,h,d,i⟩:=c.at_ k a e;exact⟨f,g,h,b.ea.kept a _ d 'k' (rX d b.nl) (by intro j z;cases z),i.ext (b.ext μ)⟩
def oD.take(e:oD K H XV μ σ d_)(n:Nat):oD K H XV μ (σ.take n) (d_.take n):=
 ⟨by simp[e.len],λi d h=>by
  rw[jx] at h;split at h
  ·rename_i a;obtain⟨v,b,c⟩:=e.at_ i d h;exact⟨v,by rw[jx,qq a];exact b,c⟩
  ·cases h⟩
def oD.drop(e:oD K H XV μ σ d_)(i:Nat):oD K H XV μ (σ.set i KM) d_:=
 ⟨by simp[e.len],λj d h=>by
  by_cases a:i=j
  ·subst a;by_cases b:i<σ.length
   ·rw[bB b] at h;cases h
   ·rw[a8.mpr (by simp;lia)] at h;cases h
  ·rw[bt a] at h;exact e.at_ j d h⟩
section
end
def o7.mono(h:o7 X L H a)(k:∀b d,H b=KF (.ext d)->H' b=KF (.ext d)):o7 X L H' a:=by obtain⟨c,d,e,f,g,i⟩:=h;exact⟨c,d,e,k _ _ f,k _ _ g,i⟩
end DL
namespace DL
open PySem L2 PySem.Spec PyProof.Rows
open Sem (wp)
theorem Cs{α:Type}(l:List α):∀k:Nat,(aS k l).flatten.length=k*l.length
 |0=>by simp
 |k+1=>by rw[List.replicate_succ,iu,aw,Cs l k,Nat.succ_mul,kh]
end DL
namespace DL
open PySem L2 PySem.Spec PyProof.Rows
open Sem (wp)
open AutoSeq1 (wpAny_loadPart')
end DL
namespace DL
open PySem L2 PySem.Spec PyProof.Rows
section
end
end DL
namespace DL
open PySem L2
section
variable{Ex:Nat->Hp->Prop}
def oF.seq(q:oF Ex K H XV μ (l_ t u σ O) E):oF Ex K H XV μ (t σ O) { E with nx:=λf H'=>Ls Ex K u E f H' }:=by
 unfold l_ at q;cases e:t σ O with
 | nx σ' O'=>
  rw[e] at q;exact λi H' g h a b=>⟨XV,g,σ',O',a,b,q.ext h⟩
 |rt d O'=>rw[e] at q;exact q
 |bk σ' O'=>rw[e] at q;exact q
 |ct σ' O'=>rw[e] at q;exact q
 |exc c O'=>rw[e] at q;exact q
 |bad=>rw[e] at q;exact q
end
end DL
namespace DL
open PySem L2 PySem.Spec PyProof.Rows
noncomputable def B9:List ab->List Int->Bool
 |[],[]=>qb
 |.int i _::vs,k::ks=>i==k&&B9 vs ks
 |_,_=>qh
def IT(o:Obj)(ks:List Int):Bool:=(match o.cls with|.type n=>n == "tuple"|_=>qh)&&o.dict.isNone&&(match o.data with|.seq g_ _=>B9 g_.toList ks&&decide (g_.size<=1000)|_=>qh)
structure IW(K:ah)(mg:Str->Option ab)(x:Str)(ks:List Int):Prop where
 ex:∃e o,mg x=KF (.ref e)/\K.lookup e=KF o/\IT o ks=qb
theorem SF:∀{vs:List ab}{a:List Int},B9 vs a=qb->oE (a.map V.int) vs
 |[],[],_=>.nil
 | .int i t::vs,k::a,h=>by
  have h:(i==k&&B9 vs a)=qb:=h;rw[aR] at h;have e:i=k:=by simpa using h.1
  subst e;exact .cons ⟨_,rfl⟩ (SF h.2)
 |[],_::_,h=>by cases h
 |v::_,[],h=>by cases v<;>cases h
theorem Sr{K:ah}{H:Hp}{XV μ:List ae}:∀a:List Int,oC K H XV μ (a.map D.int) (a.map V.int)
 |[]=>.nil
 |_::a=>.cons r9 (Sr a)
section
variable{X:Cx}{Ex:Nat->Hp->Prop}{pos:Pos}
def ZY(h:IW X.K X.mg x ks)(k:Gl X x:=by rfl)(c:(x==("__debug__":Str))=qh:=by decide):PD X Ex (.Name x pos) (dC (.tup (ks.map .int))):=by
 obtain⟨e,o,l,i,f⟩:=h.ex;unfold IT at f;rw[aR,aR] at f;obtain⟨⟨d,m⟩,b⟩:=f;obtain⟨a,n,p,r,s⟩:∃a n,o.data=.seq a n/\B9 a.toList ks=qb/\a.size<=1000:=by
  cases c:o.data with
  | seq a n=>
   rw[c] at b;have b:(B9 a.toList ks&&decide (a.size<=1000))=qb:=b;rw[aR] at b;exact⟨a,n,rfl,b.1,by simpa using b.2⟩
  |_=>rw[c] at b;cases b
 have t:o.cls=.type "tuple":=by
  cases j:o.cls with
  | type n=>
   rw[j] at d;have:n = "tuple":=by simpa using d
   rw[this]
  |_=>rw[j] at d;cases d
 have g:o.dict=KM:=by simpa using m
 refine rM (G6 (v:=.ref e) k l rfl c) λu y z O A H Q B w q=>post.here q w ?_;unfold Y2;exact⟨e,ks.map V.int,rfl,.inr ⟨⟨o,a,n,i,t,p,aI s 'u',SF r⟩,o,i,g⟩,Sr ks⟩
end
end DL
namespace DL
open PySem L2 PyProof.Rows
def yD:List D->Option (List (List (List Nat)))
 |[]=>KF []
 | .tup ds::r=>match vf ds,yD r with
  |some ks,KF t=>KF (ks::t)
  |_,_=>KM
 |_::_=>KM
noncomputable def BY(x:List (List Nat)):List (List (List Nat))->List (List (List Nat))
 |[]=>[x]
 |y::l=>if y<x then y::BY x l else x::y::l
def zP(l:List (List (List Nat))):List (List (List Nat)):=l.foldr BY []
def toT(ks:List (List Nat)):D:=.tup (ks.map .str)
def Dx:Ow->List D->R D:=λO xs=>match xs with
 | [x]=>match rD O x with
  | some ds=>match yD ds with
   |some rj=>if (2<=rj.length->(rj.all λks=>!ks.isEmpty)=qb)/\rj.length<=4000000 then .ok (.lst ((zP rj).map toT)) O else .bad
   |none=>.bad
  |none=>.bad
 |_=>.bad
abbrev wH(a b:List (List Nat)):Prop:=¬ b<a
def wH.trans{a b c:List (List Nat)}(g:wH a b)(d:wH b c):wH a c:=λh=>by
 by_cases e:b<a
 ·exact g e
 ·by_cases f:a<b
  ·exact d (TS.llt_trans h f)
  ·rw[TS.llt_total f e] at h;exact d h
theorem KL(x:List (List Nat)):∀l,(BY x l).Perm (x::l)
 |[]=>eG _
 | y::l=>by
  unfold BY;split
  ·exact((KL x l).cons y).trans (nW x y l)
  ·exact eG _
theorem KO:∀l,(zP l).Perm l
 |[]=>eG _
 |x::l=>(KL x (zP l)).trans ((KO l).cons x)
theorem Rb(x:List (List Nat)):∀l,l.Pairwise wH->(BY x l).Pairwise wH
 |[],_=>kG _ _
 | y::l,h=>by
  unfold BY;have a:=bP.mp h;split
  ·rename_i c;refine bP.mpr ⟨λz hz=>?_,Rb x l a.2⟩;rcases am.mp ((KL x l).mem_iff.mp hz) with rfl|hz
   ·exact λd=>TS.llt_irrefl _ (TS.llt_trans d c)
   ·exact a.1 z hz
  ·rename_i b;refine bP.mpr ⟨λz hz=>?_,h⟩;rcases am.mp hz with rfl|hz
   ·exact b
   ·exact wH.trans b (a.1 z hz)
theorem Ra:∀l,(zP l).Pairwise wH
 |[]=>d8
 |x::l=>Rb x _ (Ra l)
theorem RV:∀{a b:List (List (List Nat))},a.Pairwise wH->b.Pairwise wH->a.Perm b->a=b
 |[],b,_,_,p=>p.nil_eq
 |x::a,[],_,_,p=>absurd p.symm.nil_eq 'k'
 | x::a,y::b,ha,hb,p=>by
  have c:=bP.mp ha;have d:=bP.mp hb;have e:x=y:=by
   have f:wH y x:=by
    rcases am.mp (p.mem_iff.mp ar) with h|h
    ·rw[h];exact TS.llt_irrefl _
    ·exact d.1 x h
   have g:wH x y:=by
    rcases am.mp (p.mem_iff.mpr ar) with h|h
    ·rw[h];exact TS.llt_irrefl _
    ·exact c.1 y h
   exact TS.llt_total f g
  subst e;rw[RV c.2 d.2 (List.Perm.cons_inv p)]
def zO{α:Type}(R:V->α->Prop):List V->List α->Prop
 |[],[]=>True
 |v::vs,k::ks=>R v k/\zO R vs ks
 |_,_=>False
def NN(K:ah)(H:Hp)(v:V)(ks:List (List Nat)):Prop:=∃t,v=.ref t/\rG K H t (ks.map λcs=>V.str ⟨cs.toArray⟩)
def vT:ab->V
 |.ref t=>.ref t
 |_=>.non
theorem KP:∀{ks:List (List Nat)}{g_:List ab},oE (ks.map λcs=>V.str ⟨cs.toArray⟩) g_->TS.allS g_=KF ks
 |[],_,.nil=>rfl
 | k::ks,u::us,.cons r h=>by
  obtain⟨a,rfl⟩:=r;unfold TS.allS;rw[KP h];rfl
section
variable{X:Cx}{Ex:Nat->Hp->Prop}{H:Hp}{XV μ:List ae}
def Oc(K:ah):List V->Hp->VK->Prop:=λxs H Q=>∃p vs rj,∃R:V->List (List Nat)->Prop,xs=[.ref p]/\qO K H p vs/\zO R vs rj/\(∀v k,R v k->NN K H v k/\(2<=vs.length->k≠[]))/\vs.length<=4000000/\∀l rO xI,zO R rO xI->xI.Perm rj->xI.Pairwise wH->H l=KM->Q (.ref l) (upd H l (.lst rO))
theorem QA{b:List (ae×Obj)}{σ:L2.St}{s:ag}(I:L2.Inv X b σ H s){R:V->List (List Nat)->Prop}{B:Prop}(c:∀v k,R v k->NN X.K H v k/\(B->k≠[])):∀{vs:List V}{rj:List (List (List Nat))}{a:List ab},zO R vs rj->oE vs a->a.map (TS.keyT s.heap)=rj/\∀u∈a,R (vT u) (TS.keyT s.heap u)/\RelV (vT u) u/\∃d,TS.TupS s.heap u d/\(B->d≠[])
 |[],[],_,_,.nil=>⟨rfl,λ_ h=>by cases h⟩
 |[],_::_,_,h,_=>h.elim
 |v::vs,[],_,h,_=>h.elim
 | v::vs,k::rj,u::us,⟨h1,h2⟩,.cons r hv=>by
  obtain⟨e,l⟩:=QA I c h2 hv;obtain⟨⟨t,rfl,m⟩,p⟩:=c v k h1;cases r;obtain⟨a,f,⟨o,g,q,n,i⟩,_⟩:=I.tuple m;have w:TS.TupS s.heap (.ref t) k:=⟨t,o,a.toArray,n,rfl,g,q,i,by simpa using KP f⟩;have j:TS.keyT s.heap (.ref t)=k:=by
   show((match s.heap.get? t with|some o=>(match o.data with|.seq a _=>TS.allS a.toList|_=>KM)|none=>KM):Option _).getD []=_;rw[g];dsimp only;rw[i];dsimp only;rw[show TS.allS a.toArray.toList=KF k from by simpa using KP f];rfl
  refine⟨by rw[bq,j,e],λu hu=>?_⟩;rcases am.mp hu with rfl|hu
  ·exact⟨by rw[j];exact h1,rfl,k,w,p⟩
  ·exact l u hu
theorem Ry{R:V->List (List Nat)->Prop}{f:ab->List (List Nat)}:∀{l:List ab},(∀u∈l,R (vT u) (f u))->zO R (l.map vT) (l.map f)
 |[],_=>trivial
 |u::l,h=>⟨h u ar,Ry λv a=>h v (aj _ a)⟩
theorem QT:∀{l:List ab},(∀u∈l,RelV (vT u) u)->oE (l.map vT) l
 |[],_=>.nil
 |u::l,h=>.cons (h u ar) (QT λv a=>h v (aj _ a))
def zcj:oM X (.builtin "sorted") (Oc X.K):=by intro i s F H G J Q I r h;obtain⟨p,l,L,R,rfl,m,n,t,w,q⟩:=h;obtain⟨u,rfl,x⟩:=uL r;cases x;obtain⟨c,j,y,M⟩:=I.list m;obtain⟨A,d⟩:=QA I t n j;have b:c.length=l.length:=j.length.symm;refine TS.sorted_tups y.isList (λv B=>let ⟨ks,k1,k2⟩:=(d v B).2.2;⟨ks,k1,λz=>k2 'd'⟩) 'd' λa g C=>?_;obtain⟨e,D⟩:=sortedAll_at s.heap c a;have E:H (s.heap.objs.size+1)=KM:=I.hok.fresh (eJ _);have k:∀u∈a.toList,u∈c:=λu h=>g.mem_iff.mp h;refine⟨.ref _,_,I.laid (t':=s.toks) (o:=.lst (a.toList.map vT)) (λ_ _ z=>sortedAll_old z) (eJ _) ?_,rfl,q _ _ _ (Ry (f:=TS.keyT s.heap) λu h=>(d u (k u h)).1) (by rw[<- A];exact g.map _) (iy.mpr C) E⟩;refine⟨?_,a.toList,e,QT λu h=>(d u (k u h)).2.1,by rw[D]⟩;rw[au,g.length_eq,b];exact aI w 'u'
theorem Px:∀{ds:List D}{ks:List (List Nat)},vf ds=KF ks->ds=ks.map D.str
 |[],ks,h=>by cases h;rfl
 | d::ds,ks,h=>by
  cases d with
  | str cs=>
   unfold vf at h;cases e:vf ds with
   |none=>rw[e] at h;cases h
   |some r=>rw[e] at h;cases h;rw[Px e];rfl
  |_=>cases h
theorem Q9:∀{ds:List D}{rj:List (List (List Nat))},yD ds=KF rj->ds.length=rj.length
 |[],rj,h=>by cases h;rfl
 | d::ds,rj,h=>by
  cases d with
  | tup xs=>
   unfold yD at h;split at h
   ·rename_i b t c a;cases h;rw[aV,aV,Q9 a]
   ·cases h
  |_=>cases h
theorem PR{K:ah}{B:Prop}:∀{ds:List D}{vs:List V}{rj:List (List (List Nat))},oC K H XV μ ds vs->yD ds=KF rj->(∀k∈rj,B->k≠[])->zO (λv k=>Y2 K H XV μ (toT k) v/\(B->k≠[])) vs rj
 | [],vs,rj,h,e,_=>by
  unfold oC at h;cases e;subst h;trivial
 | d::ds,vs,rj,h,e,qJ=>by
  unfold oC at h;obtain⟨v,r,rfl,b,c⟩:=h;cases d with
  | tup xs=>
   unfold yD at e;split at e
   ·rename_i a t f g;cases e;refine⟨⟨?_,qJ a ar⟩,PR c g λk i=>qJ k (aj _ i)⟩;have:xs=a.map D.str:=Px f;unfold toT;rw[<- this];exact b
   ·cases e
  |_=>cases e
theorem Rk{α:Type}{R:V->α->Prop}:∀{vs:List V}{a:List α},zO R vs a->vs.length=a.length
 |[],[],_=>rfl
 |[],_::_,h=>h.elim
 |_::_,[],h=>h.elim
 |_::_,_::_,h=>by rw[aV,aV,Rk h.2]
theorem RO{K:ah}{B:Prop}:∀{vs:List V}{rj:List (List (List Nat))},zO (λv k=>Y2 K H XV μ (toT k) v/\(B->k≠[])) vs rj->oC K H XV μ (rj.map toT) vs
 |[],[],_=>by unfold oC;rfl
 |[],_::_,h=>h.elim
 |v::vs,[],h=>h.elim
 | v::vs,k::rj,h=>by
  unfold oC;exact⟨v,vs,rfl,h.1.1,RO h.2⟩
def ZG:uW X Ex (Oc X.K) Dx:=by
 intro H XV μ O D E Q c d q;unfold Dx at q;split at q
 ·rename_i x;obtain⟨v,rfl,o⟩:=uj d;split at q
  ·rename_i F e;obtain⟨p,f,rfl,r,g⟩:=vO c o e;split at q
   ·rename_i a h;obtain⟨⟨s,i⟩,q⟩:=post.ite q;have b:f.length=a.length:=by rw[<- g.length,Q9 h]
    have u:∀k∈a,2<=f.length->k≠[]:=λk w i e=>by
     have:=av.mp (s 'd') k w;rw[e] at this;cases this
    have j:=PR g h u;refine⟨p,f,a,_,rfl,r,j,λv k m=>⟨?_,m.2⟩,?_,λl G y z A B b=>?_⟩
    ·obtain⟨t,I,rfl,n,C⟩:=AK m.1 rfl;have:=GS C (strL_map k);rw[this] at n;exact⟨t,rfl,n⟩
    ·rw[Rk j];exact i
    ·have e:y=zP a:=RV B (Ra a) (A.trans (KO a).symm);subst e;exact post.ok q (.laid b) (c.laid b) (Y2.newL c b (RO z))
   ·exact ak q
  ·exact ak q
 ·exact ak q
end
end DL
namespace DL
open PySem L2
open PyProof.Rows (AllBare)
section
variable{prog:aP}{w:aY}{A:ba}{s:ag}{R:Result->ag->Prop}
def zgw(g:A.depth<recursionLimit)
  (i:s.heap.get? lam=KF { cls:=.type "function",data:=.func (d6 name qual params body scope cl pm cd ct) }) (j:s.heap.CodeRec cd q) (k:scope.isCoroutine=qh) (l:scope.isGenerator=qh) (n:scope.kind=.function) (p:∀x∈scope.names,x.2 ≠ .cell) (r:scope.names.lookup x=KF .local)
  (t:bindArgs (d6 name qual params body scope cl pm cd ct) ⟨[u],[]⟩=pure [(x,u)]) (B:s.heap.NoLimit)
  (h:∀h' tk,0<tk->h'.Ns s.heap.objs.size (λy=>[(x,u)].lookup y)->(∀b o,s.heap.get? b=KF o->h'.get? b=KF o)->
   ao (ay prog w) (A.deeper (wL q scope s.heap.objs.size lam cd cl)) (eval body (wL q scope s.heap.objs.size lam cd cl)) (λv C=>R (.ok (.ret v)) C) (λ_ _=>False) { s with heap:=h',toks:=tk }):
  codeAny (ay prog w) A (.call (.ref lam) ⟨[u],[]⟩) R s:=by
 refine i3 ?_;show ao _ A.in1 (callAny (.ref lam) ⟨[u],[]⟩) _ _ s;simp only[callAny];refine aa (wpAny_load i ?_);obtain⟨c,J,K,L,D,E,a,F⟩:=j;subst D;simp only[callFunction,k,l];refine aa (m:=field (.ref c) 1) (cb E a F (aa (ai ?_)));rw[t];refine aa (ai (aa ?_));refine wpAny_newFunctionEnv p (λy G=>?_) (λd H I=>?_) n
 ·have e:y=(x,u):=by simpa using G
  rw[e];exact r
 have f:∀b o,s.heap.get? b=KF o->d.get? b=KF o:=λb o e=>I.extBut b o (bo (aK e)) (af _ e);refine aa (wpAny_enterFrame (B.keeps f) g (ai ⟨rfl,?_⟩));exact PySem.W.kla_codeExpr (cy (h d _ (cO _) H f) (λ_ _ z=>z) λ_ _ z=>z.elim)
end
noncomputable def F0(P:aP)(w:aY)(K:ah)(mg:Str->Option ab)(base:aX)(N:List Str)(env:Env)(A:ba)(outer:List Env)(s:ag)(H:Hp):Cx where
 prog:=P
 w:=w
 K:=K
 mg:=mg
 base:=base
 A:=A.deeper env
 N:=N
 s₀:=s
 H₀:=H
 env:=env
 outer:=outer
 stack:=env::outer
 ex:=[]
 calm:=qb
 fn:=λ_=>qh
 pn:=[]
 xe:=λ_ _=>False
structure N9(out sc:cT)(x:Str):Prop where
 kind:sc.kind=.function
 co:sc.isCoroutine=qh
 gen:sc.isGenerator=qh
 nd:(sc.names.map (·.1)).Nodup
 cell:∀y∈sc.names,y.2 ≠ .cell
 one:sc.names.lookup x=KF .local
 loc:∀y∈sc.names,y.2=.local->y.1=x
 frees:∀y∈sc.names,y.2=.free->out.names.lookup y.1=KF .cell\/out.names.lookup y.1=KF .free
section
variable{P:aP}{w:aY}{K:ah}{mg:Str->Option ab}{base:aX}{N:List Str}{A:ba}{outer:List Env}{s:ag}{H:Hp}{q x:Str}{scope:cT}{lam:ae}{cd:ab}{cl:List (Str×ae)}{σ:St}{h':aX}{tk:Nat}{v:V}{u:ab}
def zgm(f:o6 P w K mg base A outer s H)(D:A.handled=KM)(E:scope.kind=.function)(B:∀y,uU scope y->scope.names.lookup y=KF .free\/y=x)(C:scope.names.lookup x=KF .local)(F:x∉N)
  (cells:∀x c,cl.lookup x=KF c->(∃v,s.heap.IsCell c v)/\H c=KM) (inj:∀x y c,cl.lookup x=KF c->cl.lookup y=KF c->x=y) (k:∀x,scope.names.lookup x=KF .free->∃c,cl.lookup x=KF c)
  (h:∀(i:Nat)x v,N[i]?=KF x->σ[i]?=KF (KF v)->scope.names.lookup x=KF .free->∃u c,RelV v u/\cl.lookup x=KF c/\s.heap.IsCell c (KF u)) (l:σ.length=N.length) (G:RelV v u)
  (I:h'.Ns s.heap.objs.size (λy=>[(x,u)].lookup y)) (m:∀b o,s.heap.get? b=KF o->h'.get? b=KF o) (J:0<tk):
  L2.Inv (F0 P w K mg base (N++[x]) (wL q scope s.heap.objs.size lam cd cl) A outer s H) [] (σ++[KF v]) H { s with heap:=h',toks:=tk }:=by
 have a:∀{c:ae}{v:Option ab},s.heap.IsCell c v->h'.IsCell c v:=λ{c v}⟨o,ho,r⟩=>⟨o,m c o ho,r⟩;have n:∀b:ae,b∉(F0 P w K mg base (N++[x]) (wL q scope s.heap.objs.size lam cd cl) A outer s H).ex:=λb z=>absurd (show b∈([]:List ae) from z) 'k';refine⟨⟨f.mod,E,rfl,rfl,aC _,inj,λy L=>?_,λy c z _=>absurd (show qh=qb from z) 'u',λ_=>D,lJ f.frames,.inr ⟨rfl,rfl⟩,λb z=>absurd z (n b),f.bs,f.bsz,λb _ _=>n b,λb z=>absurd z (n b),f.funs,f.frf⟩,
  rfl,f.bare,Un.kept m,⟨_,I,λi y M d j O=>?_⟩,λy c g=>?_,f.hok.fresh (aC _),λy c g=>(cells y c g).2,λp Q=>absurd (show p∈([]:List (ae×Obj)) from Q) 'k',f.hok.kept m,by show(σ++[KF v]).length=(N++[x]).length;simp[l],J⟩
 ·have t:scope.names.lookup y=KF .cell\/scope.names.lookup y=KF .free:=L;rcases B y (t.elim (λz=>.inr (.inl z)) λz=>.inr (.inr z)) with z|z
  ·exact k y z
  ·rw[z,C] at t;rcases t with z|z<;>cases z
 ·have d:(N++[x])[i]?=KF y:=d;by_cases R:i<N.length
  ·rw[aH R] at d;rw[aH 'd'] at j;rcases B y O with z|z
   ·obtain⟨u,c,r,S,T⟩:=h i y M d j z;exact⟨u,r,.inr ⟨.inr z,c,S,a T⟩⟩
   ·rw[z] at d;exact absurd (aD d) F
  ·rw[aU 'd'] at d j;have e:i-N.length=0:=by
    have:=(aq.mp d).1;simp at this;lia
   rw[e] at d;rw[show i-σ.length=0 by lia] at j;cases d;cases j;exact⟨u,G,.inl ⟨C,by simp[eC]⟩⟩
 ·obtain⟨⟨v,z⟩,_⟩:=cells y c g;exact⟨v,a z⟩
def Yh(d:oK (k+1) A)(f:o6 P w K mg base A outer s H)
  (m:s.heap.get? lam=KF { cls:=.type "function",data:=.func (d6 name qual params body scope cl pm cd ct) }) (n:s.heap.CodeRec cd q) (p:scope.isCoroutine=qh) (r:scope.isGenerator=qh) (j:scope.kind=.function) (B:∀x∈scope.names,x.2 ≠ .cell)
  (C:bindArgs (d6 name qual params body scope cl pm cd ct) ⟨[u],[]⟩=pure [(x,u)]) (D:∀y,uU scope y->scope.names.lookup y=KF .free\/y=x) (l:scope.names.lookup x=KF .local) (E:x∉N)
  (cells:∀x c,cl.lookup x=KF c->(∃v,s.heap.IsCell c v)/\H c=KM) (inj:∀x y c,cl.lookup x=KF c->cl.lookup y=KF c->x=y) (g:∀x,scope.names.lookup x=KF .free->∃c,cl.lookup x=KF c)
  (a:∀(i:Nat)x v,N[i]?=KF x->σ[i]?=KF (KF v)->scope.names.lookup x=KF .free->∃u c,RelV v u/\cl.lookup x=KF c/\s.heap.IsCell c (KF u)) (h:σ.length=N.length) (F:RelV v u)
  (G:oK k (A.deeper (wL q scope s.heap.objs.size lam cd cl))->PD (F0 P w K mg base (N++[x]) (wL q scope s.heap.objs.size lam cd cl) A outer s H) qy body t)
  (I:oD K H XV μ σd (σ++[KF v])) (L:oB K H XV μ O) (M:q0 qy K H XV μ (t σd O) Q):codeAny (ay P w) A (.call (.ref lam) ⟨[u],[]⟩) (CR xn outer P w H s Q E0) s:=by refine zgw d.depth m n p r j B l C (f.mod.nolimit.keeps λb o e=>(f.bs b o e).1) λh' tk R S T=>?_;refine cy ((G (d.deeper _)).out [] _ (σ++[KF v]) H Q (zgm f d.hd j D l E cells inj g a h F S T R) ⟨XV,μ,σd,O,I,L,M⟩) (λv U ⟨W,X,J,Y,z⟩=>?_) λe U z=>z;exact⟨⟨W,X,J.os,J.bare,J.base,J.hok,Y,z⟩,J.tk⟩
end
end DL
namespace DL
open PySem L2 PyProof.Rows
def minGo(tE:DE)(σ:Sg):List D->D->Int->Ow->R D
 |[],b,_,O=>.ok b O
 | x::xs,b,k,O=>match tE (σ++[KF x]) O with
  |.ok (.int j) O1=>if j<k then minGo tE σ xs x j O1 else minGo tE σ xs b k O1
  |_=>.bad
def B0(tE:DE)(σ:Sg)(O:Ow):List D->R D
 |[]=>.bad
 | x::xs=>match tE (σ++[KF x]) O with
  |.ok (.int j) O1=>minGo tE σ xs x j O1
  |_=>.bad
def B3(Pt iT:Nat)(te tE:DE):DE:=λσ O=>match σ[iT]? with
 | some (KF (.tab p))=>if p=Pt then (te σ O).bnd λx O1=>match x with
  |.lst ds=>B0 tE σ O1 ds
  |_=>.bad else .bad
 |_=>.bad
def oD.snoc{K:ah}{H:Hp}{XV μ:List ae}{σ:Sg}{a:L2.St}{d:D}{v:V}(e:oD K H XV μ σ a)(q:Y2 K H XV μ d v):oD K H XV μ (σ++[KF d]) (a++[KF v]):=by
 refine⟨by simp[e.len],λi x h=>?_⟩;have j:=e.len;by_cases b:i<σ.length
 ·rw[aH b] at h;obtain⟨w,c,f⟩:=e.at_ i x h;exact⟨w,by rw[aH 'd'];exact c,f⟩
 ·rw[aU 'd'] at h;have g:i-σ.length=0:=by
   have:=(aq.mp h).1;simp at this;lia
  rw[g] at h;cases h;exact⟨v,by rw[aU 'd',show i-a.length=0 by lia];rfl,q⟩
section
variable{X:Cx}{Ex:Nat->Hp->Prop}{XV:List ae}{σ:Sg}{d_:L2.St}{tE:DE}{lam cc:ae}{lo:Obj}
def Je(X:Cx)(lam:ae)(lo:Obj)(cc:ae)(XV:List ae)(σ:Sg)(d_:L2.St)(tE:DE):Prop:=
 ∀(Y1:List (ae×Obj))(s:ag)(H:Hp)(μ:List ae)(O:Ow)(d:D)(v:V)(u:ab)(Q:VK),L2.Inv X Y1 d_ H s->(lam,lo)∈Y1->(∃φ,H cc=KF (.ext φ)/\∀h:aX,φ h->∃q,h.CodeRec (.ref cc) q)->oD X.K H XV μ σ d_->oB X.K H XV μ O->Y2 X.K H XV μ d v->RelV v u->
  q0 qy X.K H XV μ (tE (σ++[KF d]) O) Q->ao (ay X.prog X.w) X.A.in1 (call (.ref lam) [u]) (EP X Y1 d_ Q) (λ_ _=>False) s
def Wa{K:ah}{H:Hp}{μ:List ae}{d:D}{O:Ow}:q0 qy K H XV μ (.ok d O) (λv a=>∃b,Ext H μ a b/\oB K a XV b O/\Y2 K a XV b d v):=λv f e x c r=>⟨e,x,c,r⟩
def QR{K:ah}{H H':Hp}{μ d:List ae}{O:Ow}(c:oB K H XV μ O)(x:Ext H μ H' d){a:aX->Prop}(h:H cc=KF (.ext a)):H' cc=KF (.ext a):=by refine x.kept cc _ h (λm=>?_) (by intro g z;cases z);obtain⟨k,f,e⟩:=cY.mp m;obtain⟨i,j,_,b,_⟩:=c.at_ k cc (by rw[al f,e]);rw[h] at b;cases b
variable{l:ae}{vs:List V}{ds:List D}{Q:VK}{Y1:List (ae×Obj)}{E:ab->ag->Prop}
def Rj{a S:ae}{c oI:Obj}{j:Nat}{s:ag}{H:Hp}{μ:List ae}{O:Ow}{d:D}{R:ab->ab->ag->Prop}(pQ:X.calm=qb)(hK:Je X lam lo cc XV σ d_ tE)
  (I:L2.Inv X ((S,c)::(a,oI)::(lam,lo)::Y1) d_ H s) (Ao:su X ((S,c)::(lam,lo)::Y1) H a) (hl:l≠a) (i:s.heap.IsListIter a l j) (la:LstAt X.K H XV μ l vs) (G:oC X.K H XV μ ds vs) (ev:oD X.K H XV μ σ d_) (cl:oB X.K H XV μ O) (t9:∃J,H cc=KF (.ext J)/\∀h:aX,J h->∃q,h.CodeRec (.ref cc) q)
  (L:ds[j]?=KF d) {k:Int} {O1:Ow} (hE:tE (σ++[KF d]) O=.ok (.int k) O1)
  (h:∀(v:ab)(tk:Tok)(f:Obj)(m:ag)(H':Hp)(n:List ae)(x:V),L2.Inv X ((S,c)::(a,f)::(lam,lo)::Y1) d_ H' m->m.heap.IsListIter a l (j+1)->Ext H μ H' n->oB X.K H' XV n O1->RelV x v->Y2 X.K H' XV n d x->R v (.int k tk) m) {E2:ab->ag->Prop}:
  ao (ay X.prog X.w) X.A.in1 (pyNext (.ref a)) (λo s1=>∃v,o=KF v/\ao (ay X.prog X.w) X.A.in1 (call (.ref lam) [v]) (λr t=>R v r t) (λ_ _=>False) s1) E2 s:=by
 obtain⟨g,M,pl,hz⟩:=I.list la.sq;have W:=j5 (prog:=X.prog) (w:=X.w) (A:=X.A.in1) (I.ok.hd pQ) a l hl g.toArray;have N:ds.length=g.length:=by rw[G.length,M.length]
 have hj:j<g.length:=by have:=(aq.mp L).1;lia
 refine wT I (W.item j _ _ _ (by simpa using hj) ⟨i,pl.isList⟩ λv P y hP L_ ud qR=>?_);have hv:g[j]?=KF v:=by simpa using hP
 obtain⟨T,U,f2,f3,f4,f5⟩:=Ao;have I0:L2.Inv X ((S,c)::(lam,lo)::Y1) d_ H s:=I.pins_of λp hp=>I.pin p (aA _ (by
  rcases am.mp hp with rfl|hp
  ·exact .head _
  ·exact .tail _ (.tail _ hp)))
 have B:L2.Inv X ((S,c)::(lam,lo)::Y1) d_ H { s with heap:=P,toks:=y }:=I0.turned (t':=y) (it:=a) (λb o hb e=>ud b o (by simpa using hb) e) T U f3 f4 f5;obtain⟨f,Mo,C4,Y⟩:=id L_.1;have I2:L2.Inv X ((S,c)::(a,f)::(lam,lo)::Y1) d_ H { s with heap:=P,toks:=y }:=B.pins_of λp hp=>by
  rcases am.mp hp with rfl|hp
  ·exact B.pin _ (aA _ (.head _))
  ·rcases am.mp hp with rfl|hp
   ·exact⟨Mo,T,U,f2,λv z=>by rw[Y] at z;cases z⟩
   ·exact B.pin p (aA _ (.tail _ hp))
 obtain⟨x,hx,Z⟩:=G.get L;obtain⟨u,hu,ru⟩:∃u,g[j]?=KF u/\RelV x u:=M.get hx;rw[hv] at hu;cases hu;refine⟨v,rfl,cy (hK _ _ H μ O d x v (λv C=>∃F,Ext H μ C F/\oB X.K C XV F O1/\Y2 X.K C XV F (.int k) v) I2 (.tail _ (.tail _ (.head _))) t9 ev cl Z ru (by rw[hE];exact Wa)) (λr t ⟨v2,H2,I3,r2,pZ,x2,c2,d2⟩=>?_) λ_ _ z=>z⟩;unfold Y2 at d2;subst d2;obtain⟨t2,rfl⟩:=r2;exact h v t2 f t H2 pZ x I3 ⟨f,(I3.pin (a,f) (aA _ (.tail _ (.head _)))).1,C4,Y⟩ x2 c2 ru (Z.ext x2)
def W8{a S:ae}(pQ:X.calm=qb)(hK:Je X lam lo cc XV σ d_ tE)(hl:l≠a)(zJ:S≠a){s0:ag}:
  ∀(r j:Nat)(s:ag)(H:Hp)(μ:List ae)(O:Ow)(b:D)(N:V)(m:ab)(f:Int)(k:Tok)(c:Nat)(oI:Obj),ds.length-j=r->j<=ds.length->
   L2.Inv X ((S,seqObj "list" #[m,.int f k] c)::(a,oI)::(lam,lo)::Y1) d_ H s->su X ((lam,lo)::Y1) H a->su X ((lam,lo)::Y1) H S->s.heap.IsListIter a l j->LstAt X.K H XV μ l vs->oC X.K H XV μ ds vs->oD X.K H XV μ σ d_->oB X.K H XV μ O->(∃L,H cc=KF (.ext L)/\∀h:aX,L h->∃q,h.CodeRec (.ref cc) q)->
   RelV N m->Y2 X.K H XV μ b N->q0 Ex X.K H XV μ (minGo tE σ (ds.drop j) b f O) Q->
   codeAny (ay X.prog X.w) X.A (.builtin "min.loop" ⟨[.ref a,.ref lam,.ref S],[]⟩) (λr Z=>match r with|.ok (.ret u)=>EP X Y1 d_ Q u Z|_=>False) s:=by
 have u9:(toString "min" ++ toString ".loop":String) = "min.loop":=by decide
 intro r
 induction r with
 | zero=>
  intro j s H μ O b N m f k c oI hr hj I n fS M la dd ev cl t9 rb db q;have hjl:j=ds.length:=by lia
  have nS:=I.pin (S,seqObj "list" #[m,.int f k] c) (aA _ (.head _));obtain⟨g_,rv,pl,hz⟩:=I.list la.sq;have W:=j5 (prog:=X.prog) (w:=X.w) (A:=X.A.in1) (I.ok.hd pQ) a l hl g_.toArray;have hlen:ds.length=g_.length:=by rw[dd.length,rv.length]
  refine ei iE ?_;rw[dJ dN _];show ao _ X.A.in1 (seqItems? (.ref S) >>= _) _ _ _;refine aa (dr nS.1 rfl ?_);show ao _ X.A.in1 (tryCatch (pyNext (.ref a)) _ >>= _) _ _ _;refine aa (gF (wT I (W.done _ _ _ ⟨by rw[show g_.toArray.size=j by simp;lia];exact M,pl.isList⟩ λh' A2 ud qR=>?_)));have I0:L2.Inv X ((lam,lo)::Y1) d_ H s:=I.pins_of λp hp=>I.pin p (aA _ (.tail _ (.tail _ hp)));obtain⟨f0,f1,f2,f3,f4,f5⟩:=n;have I1:L2.Inv X ((lam,lo)::Y1) d_ H { s with heap:=h',toks:=A2 }:=I0.turned (t':=A2) (it:=a) (λb o hb e=>ud b o (by simpa using hb) e) f0 f1 f3 f4 f5;have Iw:=ud S _ (by simpa using zJ) nS.1;have s1:=dP h' S (bw λ_=>(#[]:Array ab));obtain⟨g0,g1,g2,g3,g4,g5⟩:=fS;show ao _ X.A.in1 (updateSeq S (λ_=>#[]) >>= _) _ _ _;refine aa ?_;refine gf Iw rfl (aa (gi (ai ?_)));have C:=I1.turned (h':=h'.update S (bw λ_=>(#[]:Array ab))) (t':=A2) (it:=S) (λb o hb e=>(s1.2 b hb).trans e) g0 g1 g3 g4 g5;have I3:L2.Inv X Y1 d_ H _:=C.pins_of λp hp=>C.pin p (aA _ (.tail _ hp));rw[hjl,nj] at q;exact⟨N,H,I3,rb,post.here q cl db⟩
 | succ r ih=>
  intro j s H μ O b N m f k c oI hr hj I n fS M la dd ev cl t9 rb db q;have qk:j<ds.length:=by lia
  have nS:=I.pin (S,seqObj "list" #[m,.int f k] c) (aA _ (.head _));have nI:=I.pin (a,oI) (aA _ (.tail _ (.head _)));obtain⟨d,hd⟩:∃d,ds[j]?=KF d:=⟨_,al qk⟩;rw[c9 qk,(aq.mp hd).2] at q;unfold minGo at q;split at q
  case h_2=>exact ak q
  rename_i g O1 hE;refine ei iE ?_;rw[dJ dN _];show ao _ X.A.in1 (seqItems? (.ref S) >>= _) _ _ _;refine aa (dr nS.1 rfl ?_);show ao _ X.A.in1 (tryCatch (pyNext (.ref a)) _ >>= _) _ _ _;have M5:su X ((S,seqObj "list" #[m,.int f k] c)::(lam,lo)::Y1) H a:=⟨n.1,n.2.1,n.2.2.1,n.2.2.2.1,n.2.2.2.2.1,λp hp=>by
   rcases aQ.mp hp with hp|hp
   ·exact n.2.2.2.2.2 p (bM _ hp)
   ·rcases am.mp hp with rfl|hp
    ·exact zJ
    ·exact n.2.2.2.2.2 p (aA _ hp)⟩
  refine aa (gF (cy (Rj pQ hK I M5 hl M la dd ev cl t9 hd hE (R:=λv u Z=>∃tk y T f_ x,u=.int g tk/\L2.Inv X ((S,seqObj "list" #[m,.int f k] c)::(a,y)::(lam,lo)::Y1) d_ T Z/\Z.heap.IsListIter a l (j+1)/\Ext H μ T f_/\oB X.K T XV f_ O1/\RelV x v/\Y2 X.K T XV f_ d x)
   λv tk y Z T f_ x a1 a2 a3 a4 a5 a6=>⟨tk,y,T,f_,x,rfl,a1,a2,a3,a4,a5,a6⟩) (λo s1 ho=>?_) λ_ _ z=>z))
  obtain⟨v,rfl,xU⟩:=ho;show ao _ X.A.in1 (tryCatch (holding [v] (call (.ref lam) [v])) _ >>= _) _ _ _;refine aa (gF (bH (cy xU (λu F he=>?_) λ_ _ hF=>hF.elim)));obtain⟨B,y,G,pZ,x,rfl,C,zB,U,Aq,rx,dx⟩:=he;have Y:=C.pin (S,seqObj "list" #[m,.int f k] c) (aA _ (.head _));have Lz:=C.pin (a,y) (aA _ (.tail _ (.head _)));have Ie:=la.mv U.mv (hid':=XV);have BK:=dd.ext U;have FU:=ev.ext U;have FH:∃L,G cc=KF (.ext L)/\∀h:aX,L h->∃q,h.CodeRec (.ref cc) q:=let ⟨L,h1,h2⟩:=t9;⟨L,QR cl U h1,h2⟩;have UH:su X ((lam,lo)::Y1) G a:=⟨Lz.2.1,n.2⟩;have J:su X ((lam,lo)::Y1) G S:=⟨Y.2.1,fS.2⟩;have q2:=post.ext q U;show ao _ X.A.in1 (tryCatch (holding [v,.int g B] (richCompare .Lt (.int g B) (.int f k) >>= _)) _ >>= _) _ _ _;refine aa (gF (bH (aa (CmpOf.ints_lt (prog:=X.prog) (w:=X.w) (A:=X.A.in1) (P:=λ(i:Nat)v=>∃t,v=.int (if i=0 then g else f) t) (λi=>if i=0 then g else f) (λi v h=>h) 0 1 _ _ _ _ _ ⟨B,rfl⟩ ⟨k,rfl⟩ ?_))));refine aa (bH (de ?_));refine aa (gi (ai ?_));by_cases uf:g<f
  ·have s1:=dP F.heap S (bw λ_=>#[v,.int g B]);obtain⟨c2,xj⟩:∃c2,(F.heap.update S (bw λ_=>#[v,.int g B])).get? S=KF (seqObj "list" #[v,.int g B] c2):=⟨_,get?_update_seq Y.1 λ_=>#[v,.int g B]⟩;rw[qq uf] at q2;simp only[nF,uf,decide_true,if_true,bX,if_false];refine aa ?_;refine gf Y.1 rfl (aa (gi ?_));rw[u9];have I3:L2.Inv X ((a,y)::(lam,lo)::Y1) d_ G F:=C.pins_of λp hp=>C.pin p (aA _ (.tail _ hp));have I4:L2.Inv X ((a,y)::(lam,lo)::Y1) d_ G { F with heap:=F.heap.update S (bw λ_=>#[v,.int g B]),toks:=F.toks }:=I3.turned (t':=F.toks) (it:=S) (λb o hb e=>(s1.2 b hb).trans e) J.1 J.2.1 J.2.2.2.1 J.2.2.2.2.1 (λp hp=>by
    rcases aQ.mp hp with hp|hp
    ·exact J.2.2.2.2.2 p (bM _ hp)
    ·rcases am.mp hp with rfl|hp
     ·exact zJ.symm
     ·exact J.2.2.2.2.2 p (aA _ hp))
   have I5:L2.Inv X ((S,seqObj "list" #[v,.int g B] c2)::(a,y)::(lam,lo)::Y1) d_ G _:=I4.pins_of λp hp=>by
    rcases am.mp hp with rfl|hp
    ·exact⟨xj,Y.2.1,Y.2.2.1,Y.2.2.2.1,λv z=>nomatch z⟩
    ·exact I4.pin p (aA _ hp)
   obtain⟨oq,Mf,Im,Me⟩:=id zB;exact ai ⟨fK dN _,ih (j+1) _ G pZ O1 d x v g B c2 y 'd' qk I5 UH J ⟨oq,(s1.2 a zJ.symm).trans Mf,Im,Me⟩ Ie BK FU Aq FH rx dx q2⟩
  ·rw[qM uf] at q2;simp only[nF,uf,decide_false,bX,if_false,if_true];refine aa (gi ?_);rw[u9];exact ai ⟨fK dN _,ih (j+1) F G pZ O1 b N m f k c y 'd' qk C UH J zB Ie BK FU Aq FH rb (db.ext U) q2⟩
def zfP{s:ag}{H:Hp}{μ:List ae}{O:Ow}(pQ:X.calm=qb)(hK:Je X lam lo cc XV σ d_ tE)(I:L2.Inv X ((lam,lo)::Y1) d_ H s)(Y:LstAt X.K H XV μ l vs)(dd:oC X.K H XV μ ds vs)(ev:oD X.K H XV μ σ d_)(cl:oB X.K H XV μ O)
  (t9:∃L,H cc=KF (.ext L)/\∀h:aX,L h->∃q,h.CodeRec (.ref cc) q) (q:q0 Ex X.K H XV μ (B0 tE σ O ds) Q):ao (ay X.prog X.w) X.A (call (.builtin "min") [.ref l] [(f8 "key",.ref lam)]) (EP X Y1 d_ Q) E s:=by
 have u9:(toString "min" ++ toString ".loop":String) = "min.loop":=by decide
 obtain⟨g_,rv,pl,hz⟩:=I.list Y.sq;have Ug:=pl.isList;obtain⟨ol,zw,_⟩:=id Ug;have Z:l<s.heap.objs.size:=aK zw;cases ds with
 |nil=>exact ak q
 |cons d tD=>
 have q:q0 Ex X.K H XV μ (match tE (σ++[KF d]) O with|.ok (.int j) M=>minGo tE σ tD d j M|_=>.bad) Q:=q;split at q
 case h_2=>exact ak q
 rename_i g M hE;refine kmb_tree PySem.F.kind_min PySem.F.plain_min PySem.F.entry_min (kmb_min_key _ _) ?_;show ao _ X.A.in1 (jD "min" ["key", "default"] 0 ⟨[],[(f8 "key",.ref lam)]⟩ >>= _) _ _ s;refine aa (jr (show jD "min" ["key", "default"] 0 ⟨[],[(f8 "key",.ref lam)]⟩=pure [KF (.ref lam),KM] from rfl) ?_);refine aa (ai ?_);refine aa (fO Ug ?_);refine aa (gP ?_ (bE _));rw[u9];generalize n:s.heap.objs.size=a at *;generalize MA:s.heap.push { cls:=.type "list_iterator",data:=.fields #[.ref l,.int 0 0] } = h1 at *;have hS:h1.objs.size=a+1:=by rw[<- MA,size_push',n]
 generalize hSS:h1.objs.size=S at *;have Ui:l≠a:=bo Z;have N:S≠a:=by rw[hS];exact eo (cP _)
 have kp:∀b o,s.heap.get? b=KF o->(h1.push (seqObj "list" #[] 0)).get? b=KF o:=λb o e=>af _ (by rw[<- MA];exact af _ e);have gI:(h1.push (seqObj "list" #[] 0)).get? a=KF { cls:=.type "list_iterator",data:=.fields #[.ref l,.int 0 0] }:=af _ (by rw[<- MA,<- n];exact aE _ rfl);have gS:(h1.push (seqObj "list" #[] 0)).get? S=KF (seqObj "list" #[] 0):=by rw[<- hSS];exact aE _ rfl
 have c:su X ((lam,lo)::Y1) H a:=I.fpOk (h9 n) (I.hok.fresh (h9 n));have P:su X ((lam,lo)::Y1) H S:=I.fpOk (by rw[hS,n];exact eJ _) (I.hok.fresh (by rw[hS,n];exact eJ _));have I1:L2.Inv X ((lam,lo)::Y1) d_ H { s with heap:=h1.push (seqObj "list" #[] 0),toks:=s.toks }:=I.kept (t':=s.toks) kp;have I2:L2.Inv X ((S,seqObj "list" #[] 0)::(a,{ cls:=.type "list_iterator",data:=.fields #[.ref l,.int 0 0] })::(lam,lo)::Y1) d_ H { s with heap:=h1.push (seqObj "list" #[] 0),toks:=s.toks }:=I1.pins_of λp hp=>by
  rcases am.mp hp with rfl|hp
  ·exact⟨gS,P.1,P.2.1,P.2.2.1,λv z=>nomatch z⟩
  ·rcases am.mp hp with rfl|hp
   ·exact⟨gI,c.1,c.2.1,c.2.2.1,λv z=>nomatch z⟩
   ·exact I1.pin p (aA _ hp)
 refine ai ⟨fK dN _,?_⟩;refine fv (R:=λr t=>match r with|.ok (.ret u)=>EP X Y1 d_ Q u t|_=>False) ?_ (λr t h=>by
  cases r with
  |error e=>exact h.elim
  |ok f=>cases f<;>first|exact h|exact h.elim)
 refine ei iE ?_;rw[dJ dN _];show ao _ X.A.in1 (seqItems? (.ref _) >>= _) _ _ _;refine aa (dr gS rfl ?_);show ao _ X.A.in1 (tryCatch (pyNext (.ref a)) _ >>= _) _ _ _;have M5:su X ((S,seqObj "list" #[] 0)::(lam,lo)::Y1) H a:=⟨c.1,c.2.1,c.2.2.1,c.2.2.2.1,c.2.2.2.2.1,λp hp=>by
  rcases aQ.mp hp with hp|hp
  ·exact c.2.2.2.2.2 p (bM _ hp)
  ·rcases am.mp hp with rfl|hp
   ·exact N
   ·exact c.2.2.2.2.2 p (aA _ hp)⟩
 refine aa (gF (cy (Rj pQ hK I2 M5 Ui (j:=0) ⟨_,gI,rfl,rfl⟩ Y dd ev cl t9 rfl hE (R:=λv u t=>∃tk i y C x,u=.int g tk/\L2.Inv X ((S,seqObj "list" #[] 0)::(a,i)::(lam,lo)::Y1) d_ y t/\t.heap.IsListIter a l (0+1)/\Ext H μ y C/\oB X.K y XV C M/\RelV x v/\Y2 X.K y XV C d x)
  λv tk i t y C x a1 a2 a3 a4 a5 a6=>⟨tk,i,y,C,x,rfl,a1,a2,a3,a4,a5,a6⟩) (λo s1 ho=>?_) λ_ _ z=>z))
 obtain⟨v,rfl,xU⟩:=ho;show ao _ X.A.in1 (tryCatch (holding [v] (call (.ref lam) [v])) _ >>= _) _ _ _;refine aa (gF (bH (cy xU (λu G he=>?_) λ_ _ hF=>hF.elim)));obtain⟨k,i,T,pZ,x,rfl,U,zB,J,Aq,rx,dx⟩:=he;have B:=U.pin (S,seqObj "list" #[] 0) (aA _ (.head _));have Lz:=U.pin (a,i) (aA _ (.tail _ (.head _)));have s1:=dP G.heap S (bw λ_=>#[v,.int g k]);obtain⟨W,xj⟩:∃W,(G.heap.update S (bw λ_=>#[v,.int g k])).get? S=KF (seqObj "list" #[v,.int g k] W):=⟨_,get?_update_seq B.1 λ_=>#[v,.int g k]⟩;show ao _ X.A.in1 (updateSeq S (λ_=>#[v,.int g k]) >>= _) _ _ _;refine aa ?_;refine gf B.1 rfl ?_;rw[u9];have m:su X ((lam,lo)::Y1) T S:=⟨B.2.1,P.2⟩;have I4:L2.Inv X ((a,i)::(lam,lo)::Y1) d_ T G:=U.pins_of λp hp=>U.pin p (aA _ (.tail _ hp));have I5:=I4.turned (h':=G.heap.update S (bw λ_=>#[v,.int g k])) (t':=G.toks) (it:=S) (λb o hb e=>(s1.2 b hb).trans e) m.1 m.2.1 m.2.2.2.1 m.2.2.2.2.1 (λp hp=>by
  rcases aQ.mp hp with hp|hp
  ·exact m.2.2.2.2.2 p (bM _ hp)
  ·rcases am.mp hp with rfl|hp
   ·exact N.symm
   ·exact m.2.2.2.2.2 p (aA _ hp))
 have I6:L2.Inv X ((S,seqObj "list" #[v,.int g k] W)::(a,i)::(lam,lo)::Y1) d_ T _:=I5.pins_of λp hp=>by
  rcases am.mp hp with rfl|hp
  ·exact⟨xj,B.2.1,B.2.2.1,B.2.2.2.1,λv z=>nomatch z⟩
  ·exact I5.pin p (aA _ hp)
 obtain⟨oq,Mf,Im,Me⟩:=id zB;exact ai ⟨fK dN _,W8 (ds:=d::tD) (vs:=vs) pQ hK Ui N (s0:=s) _ 1 _ T pZ M d x v g k W i rfl (Nat.succ_le_succ (bE _)) I6 ⟨Lz.2.1,c.2⟩ m ⟨oq,(s1.2 a N.symm).trans Mf,Im,Me⟩ (Y.mv J.mv (hid':=XV)) (dd.ext J) (ev.ext J) Aq (let ⟨L,h1,h2⟩:=t9;⟨L,QR cl J h1,h2⟩) rx dx (post.ext q J)⟩
def Zp(hr:oK (k+2) X.A)(pQ:X.calm=qb)(L:vM X.mg X.base c Pt)(uq:X.env.code=.ref c)(b:N9 X.env.scope scope x)(xR:defaultsOf params X.env=([],[]))
  (By:∀(name n:Str)(cl:List (Str×ae))(pm o ct u:ab),bindArgs (d6 name n params body scope cl pm o ct) ⟨[u],[]⟩=pure [(x,u)]) (zr:x∉X.N) (he:PD X Ex e te)
  (hE:∀(q:Str)(lam:ae)(o:ab)(cl:List (Str×ae))(A:ba)(outer:List Env)(s:ag)(H:Hp),oK k (A.deeper (wL q scope s.heap.objs.size lam o cl))->PD (F0 X.prog X.w X.K X.mg X.base (X.N++[x]) (wL q scope s.heap.objs.size lam o cl) A outer s H) qy body tE)
  (hg:Gl X "min") (hm:X.mg "min" = KM) (F:aN [e] X.env=[(qh,eval e X.env)]:=by rfl):PD X Ex (.Call (.Name "min" pn) [e] [⟨KF (f8 "key"),.Lambda params body scope pl,kq⟩] pp) (B3 Pt iT te tE):=by
 refine⟨?_⟩;rintro Y1 s d_ H Q I ⟨XV,μ,σ,O,ev,c1,q⟩;obtain⟨ti,q⟩:oP H Pt/\q0 Ex X.K H XV μ ((te σ O).bnd λx f=>match x with|.lst ds=>B0 tE σ f ds|_=>.bad) Q:=by
  unfold B3 at q;split at q
  ·rename_i p hp;by_cases G:p=Pt
   ·rw[qq G] at q;obtain⟨v,_,d⟩:=ev.at_ iT _ hp;unfold Y2 at d;rw[G] at d;exact⟨d.2,q⟩
   ·rw[qM G] at q;exact ak q
  ·exact ak q
 have J:∀{cells:List (Str×ae)},(∀y∈scope.names,y.2=.free->∃c,cells.lookup y.1=KF c)->∀x c,(rN cells scope.names []).lookup x=KF c->cells.lookup x=KF c:=λ{cells}i x c e=>by
  rcases Hw _ _ (bK e) with m|⟨m,z⟩
  ·cases m
  ·obtain⟨c',xV⟩:=i (x,.free) m rfl;have xj:cells.lookup x=KF c':=xV;rw[xj] at z ⊢;rw[z];rfl
 have i:∀y∈scope.names,y.2=.free->∃c,X.env.cells.lookup y.1=KF c:=λy M hf=>I.ok.has y.1 (b.frees y M hf);have FJ:∀x,scope.names.lookup x=KF .free->∃c,(rN X.env.cells scope.names []).lookup x=KF c:=λx e=>by
  have m:=Hs (cells:=X.env.cells) scope.names [] (bK e);exact⟨_,yg (HE _ _ b.nd 'k' (by intro p hp;cases hp)) m⟩
 have Ir:∀x,scope.names.lookup x=KF .free->X.env.scope.names.lookup x=KF .cell\/X.env.scope.names.lookup x=KF .free:=λx e=>b.frees (x,.free) (bK e) rfl;have wx:∀y,uU scope y->scope.names.lookup y=KF .free\/y=x:=λy M=>by
  rcases M with z|z|z
  ·exact .inr (b.loc _ (bK z) rfl)
  ·exact absurd rfl (b.cell _ (bK z))
  ·exact .inl z
 refine hJ (zV I hg hm JJ ?_ 'u' 'u');refine callWith_kw ?_ (by rw[F];rfl) (by rw[F];rfl);rw[F];show ao _ _ (spliced ((qh,eval e X.env)::backTo pp [])) _ _ s;refine me (pV (he.out Y1 s d_ H _ I (rd.go (Q1:=λP h=>∃j f a,oD X.K h XV a σ d_/\Ext H μ h a/\oB X.K h XV a f/\Y2 X.K h XV a j P/\q0 Ex X.K h XV a (match j with|.lst ds=>B0 tE σ f ds|_=>.bad) Q) ev c1 q λj f P h a R S T r1 U=>⟨j,f,a,R,S,T,r1,U⟩)) λu1 s1 ⟨P,h,I1,W,j,f,a,R,S,T,Y,U⟩=>?_);refine mF ?_;refine kws_cons (VY I1 L uq (S.tab _ ti) (S6 i) xR λlam o yr h' tk H' I3 ext cells Z zC q9 u6=>?_);refine kws_nil ?_;obtain⟨cc,φ,rfl,t9,hφ⟩:=u6;have M6:=R.ext (ext a);have cl3:=cells XV a f T;have q3:=post.ext U (ext a);have UM:=Y.ext (ext a);cases j with
 | lst ds=>
  unfold Y2 at UM;obtain⟨l,vs,rfl,la,dd⟩:=UM;cases W;have B:su X Y1 H' lam:=I1.fpOk zC Z;have I4:L2.Inv X ((lam,_)::Y1) d_ H' { s1 with heap:=h',toks:=tk }:=I3.pins_of λp hp=>by
   rcases am.mp hp with rfl|hp
   ·exact⟨q9,B.1,B.2.1,B.2.2.1,λv z=>nomatch z⟩
   ·exact I3.pin p (aA _ hp)
  refine zfP (cc:=cc) pQ ?_ I4 la dd M6 cl3 ⟨φ,t9,hφ⟩ q3;intro TJ s5 H5 xX O5 d5 v5 u5 Q5 g Fh Bx ID cl5 dx5 rx5 q5;obtain⟨φ5,Bx,LR⟩:=Bx;obtain⟨qn,hqn⟩:=LR _ (g.hok cc _ Bx).1;have hg5:=(g.pin _ (aA _ Fh)).1;refine j0 (fv (Yh (k:=k) (t:=tE) (XV:=XV) (μ:=xX) (σd:=σ++[KF d5]) (O:=O5) (Q:=Q5) (N:=X.N) (σ:=d_) hr.in1 g.env0.in1 hg5 hqn b.co b.gen b.kind b.cell (By _ _ _ _ _ _ _) wx b.one zr (zbu g Un.refl (J i)) (zgP g (J i)) FJ (zeh g Un.refl (J i) FJ Ir) g.len rx5 (hE _ _ _ _ _ _ _ _) (ID.snoc dx5) cl5 q5) λr s8 C=>?_);cases r with
  |error e=>exact C.elim
  | ok B=>
   cases B with
   |ret u=>exact g.after C
   |next=>exact ak C
   |brk=>exact ak C
   |cont=>exact ak C
 |_=>exact ak q3
end
end DL
namespace DL
open PySem L2
mutual
def nm:D->Bool
 |.map _ _=>qh
 |.dct=>qh
 |.exn _=>qh
 |.lst ds=>nms ds
 |.tup ds=>nms ds
 |_=>qb
def nms:List D->Bool
 |[]=>qb
 |d::ds=>nm d&&nms ds
end
section
variable{K:ah}{H:Hp}{XV μ:List ae}{p:ae}{k_:List (Key×V)}
def Ox(b:H p=KF (.frz o (.dK k_)))(h:Rd H a u)(c:∀k_,u ≠ .dK k_)(d:∀o v,u ≠ .frz o v):a≠p:=by
 rintro rfl;rcases h with h|⟨o,h⟩
 ·rw[b] at h;cases h;exact d _ _ rfl
 ·rw[b] at h;cases h;exact c _ rfl
mutual
theorem Y2.hide(b:H p=KF (.frz o (.dK k_))):∀{d:D}{v:V},nm d=qb->Y2 K H XV μ d v->Y2 K H (p::XV) μ d v
 |.non,_,_,h=>h
 |.bl _,_,_,h=>h
 |.int _,_,_,h=>h
 |.str _,_,_,h=>h
 | .lst ds,v,n,h=>by
  unfold Y2 at h ⊢;obtain⟨a,c,r,l,q⟩:=h;refine⟨a,c,r,l.imp (λz=>⟨z.1,λm=>?_,z.2.2⟩) id,oC.hide b n q⟩;rcases am.mp m with e|m
  ·exact Ox b z.1 (λ_ z=>nomatch z) (λ_ _ z=>nomatch z) e
  ·exact z.2.1 m
 | .tup ds,v,n,h=>by
  unfold Y2 at h ⊢;obtain⟨a,c,r,l,q⟩:=h;refine⟨a,c,r,l.imp (λz=>⟨z.1,λm=>?_,z.2.2⟩) id,oC.hide b n q⟩;rcases am.mp m with e|m
  ·exact Ox b z.1 (λ_ z=>nomatch z) (λ_ _ z=>nomatch z) e
  ·exact z.2.1 m
 |.own k,v,_,h=>by unfold Y2 at h ⊢;exact h
 |.dct,_,n,_=>by cases n
 |.exn _,_,n,_=>by cases n
 |.tab P,v,_,h=>by unfold Y2 at h ⊢;exact h
 |.map _ _,_,n,_=>by cases n
 |.adr _,_,_,h=>h
theorem oC.hide(a:H p=KF (.frz o (.dK k_))):∀{ds:List D}{vs:List V},nms ds=qb->oC K H XV μ ds vs->oC K H (p::XV) μ ds vs
 |[],_,_,h=>h
 | d::ds,vs,n,h=>by
  unfold oC at h ⊢;unfold nms at n;obtain⟨b,c⟩:=i9.mp n;obtain⟨v,r,e,f,g⟩:=h;exact⟨v,r,e,Y2.hide a b f,oC.hide a c g⟩
end
def oB.hide(d:H p=KF (.frz o (.dK k_)))(n:O.all nms=qb)(c:oB K H XV μ O):oB K H (p::XV) μ O:=by
 refine⟨c.len,c.nd,λa m z=>?_,λa m=>?_,λk a e=>?_⟩
 ·rcases am.mp z with e|z
  ·obtain⟨k,i,j⟩:=cY.mp m;obtain⟨f,g,_,b,_⟩:=c.at_ k a (by rw[al i,j]);rw[e,d] at b;cases b
  ·exact c.nh a m z
 ·rcases am.mp m with e|m
  ·rw[e,d];simp
  ·exact c.ht a m
 ·obtain⟨f,g,h,b,l⟩:=c.at_ k a e;exact⟨f,g,h,b,l.hide d (av.mp n f (aD h))⟩
def oD.put(e:oD K H XV μ σ d_)(h:d_[i]?=KF (KF v))(q:Y2 K H XV μ d v):oD K H XV μ (σ.set i (KF d)) d_:=by
 refine⟨by simp[e.len],λj x g=>?_⟩;by_cases a:i=j
 ·subst a;have b:i<σ.length:=by have:=(aq.mp g).1;simpa using this
  rw[bB b] at g;cases g;exact⟨v,h,q⟩
 ·rw[bt a] at g;exact e.at_ j x g
def oD.forget(e:oD K H XV μ σ d_)(o:Option V):oD K H XV μ (σ.set i KM) (d_.set i o):=by
 refine⟨by simp[e.len],λj x g=>?_⟩;by_cases a:i=j
 ·subst a;have b:i<σ.length:=by have:=(aq.mp g).1;simpa using this
  rw[bB b] at g;cases g
 ·rw[bt a] at g;obtain⟨v,c,d⟩:=e.at_ j x g;exact⟨v,by rw[bt a];exact c,d⟩
def C1(k:DK)(ks:List DK):Bool:=ks.any λj=>decide (j=k)
def uy(k:DK)(ks:List DK):List DK:=ks.filter λj=>decide (j≠k)
def xB(k:DK):List DK->List D->List D
 |j::ks,d::ds=>if j=k then xB k ks ds else d::xB k ks ds
 |_,_=>[]
theorem Qo:∀{a:List DK}{ds:List D}{vs:List V},a.length=vs.length->oC K H XV μ ds vs->∃b,yJ ((a.map kD).zip vs) (kD k)=((uy k a).map kD).zip b/\(uy k a).length=b.length/\oC K H XV μ (xB k a ds) b
 |[],ds,vs,_,_=>⟨[],rfl,rfl,.nil⟩
 |j::a,ds,[],h,_=>by cases h
 |j::a,[],v::vs,_,h=>by unfold oC at h;cases h
 | j::a,d::ds,v::vs,hl,h=>by
  obtain⟨w,r,e,i,l⟩:=(show ∃w r,v::vs=w::r/\Y2 K H XV μ d w/\oC K H XV μ ds r from by unfold oC at h;exact h);cases e;obtain⟨b,c,f,g⟩:=Qo (k:=k) (mz hl) l;show ∃b,yJ ((kD j,v)::(a.map kD).zip vs) (kD k)=_/\_;by_cases e:j=k
  ·subst e;refine⟨b,?_,?_,?_⟩
   ·unfold yJ uy at *;rw[dG 'k',dG 'k'];exact c
   ·unfold uy at *;rw[dG 'k'];exact f
   ·unfold xB;rw[qq rfl];exact g
  ·have m:kD j≠kD k:=λz=>e (GR z);refine⟨v::b,?_,?_,?_⟩
   ·unfold yJ uy at *;rw[dH (by simpa using m),dH (by simpa using e),c];rfl
   ·unfold uy at *;rw[dH (by simpa using e)];simpa using f
   ·unfold xB;rw[qM e];exact .cons i g
theorem RY:∀{a:List DK}{vs:List V},a.length=vs.length->C1 k a=qb->(t8 ((a.map kD).zip vs) (kD k)).isSome=qb
 |[],_,_,h=>by cases h
 |_::_,[],h,_=>by cases h
 | j::a,v::vs,hl,h=>by
  show(t8 ((kD j,v)::(a.map kD).zip vs) (kD k)).isSome=qb;by_cases e:j=k
  ·rw[D4 (p:=(kD j,v)) (congrArg kD e)];rfl
  ·rw[Ct (p:=(kD j,v)) (λz=>e (GR z))];unfold C1 at h;rw[f7,decide_eq_false e,iH] at h;exact RY (mz hl) h
end
def xx(iR tT iL:Nat)(t1 t3:DE):List D->List DK->List D->Sg->Ow->RS
 |[],_,_,σ,O=>.nx σ O
 | x::xs,ks,ds,σ,O=>match v_ x with
  | some k=>if C1 k ks=qb then match t1 (σ.set tT (KF x)) O with
    | .ok d1 O1=>match t3 (((σ.set tT (KF x)).set iL (KF d1)).set iR (KF (.map (uy k ks) (xB k ks ds)))) O1 with
     |.ok _ O2=>if O2.all nms=qb then xx iR tT iL t1 t3 xs (uy k ks) (xB k ks ds) ((σ.set tT (KF x)).set iL (KF d1)) O2 else .bad
     |_=>.bad
    |_=>.bad
   else .bad
  |none=>.bad
def DD(iR tT iL:Nat)(tH:DE)(it:DI)(t1 t3:DE)(tt:DS):DS:=λσ O=>(tH σ O).bnS λx O1=>match x with
 | .map ks ds=>(it (σ.set iR KM) O1).bnS λsrc O2=>match src with
  | .val xs=>match xx iR tT iL t1 t3 xs ks ds (σ.set iR KM) O2 with
   |.nx σ' O'=>tt σ' O'
   |_=>.bad
  |_=>.bad
 |_=>.bad
def Ea.ext(e:Ea p H μ H' f_)(h:H p=KM):Ext H μ H' f_:=⟨e.pre,λb o g n a=>e.kept b o g n (rX g h) a,e.fresh,e.there,e.tab⟩
section
variable{X:Cx}{Ex:Nat->Hp->Prop}
def Ot(g:H A=KF (.frz ob u)):∀a,oP H a->oP (upd H A o) a:=by
 rintro a ⟨h,b,i,j⟩;have k:a≠A:=by rintro rfl;rw[g] at b;cases b
 refine⟨h,by rw[p9 k];exact b,i,λd l e=>?_⟩;obtain⟨c,m,rfl,f,n⟩:=j d l e;have p:c≠A:=by rintro rfl;rw[g] at f;cases f
 exact⟨c,m,rfl,by rw[p9 p];exact f,n⟩
def X7(d:PE X e te):PE X e (λσ H Q=>∃p a,H p=KF (.dK a)/\∀o,te σ (upd H p (.frz o (.dK a))) λv H'=>H' p=KF (.frz o (.dK a))/\Q v (upd H' p (.dK a))):=by rintro b s σ H Q I ⟨p,a,c,h⟩;obtain⟨o,J⟩:=Inv.frzK I c;exact pV (d b s σ _ _ J (h o)) λv i ⟨x,j,f,r,g,q⟩=>⟨x,_,Inv.thawK f g (Inv.nofrz I c),r,q⟩
def zbN:oM X (.type "dict") (λxs H Q=>∃(a:ae)(d:List (Key×V)),xs=[.ref a]/\Rd H a (.dK d)/\∀p,H p=KM->Q (.ref p) (upd H p (.dK d))):=by intro f s w H xs x Q I r h;obtain⟨a,d,rfl,g,q⟩:=h;obtain⟨u,rfl,i⟩:=uL r;cases i;obtain⟨z,j,y,c,k⟩:=B5 I.hok g;refine kt_call_dict j k (by rw[<- c.length];exact z) λl m n=>?_;have t:∀b o,s.heap.get? b=KF o->l.get? b=KF o:=λb o e=>(n.2 b (bo (aK e))).trans (af _ e);have v:=I.hok.fresh (aC s.heap.objs.size);exact⟨.ref _,_,I.laid (t':=s.toks) (o:=.dK d) t (aC _) (GJ z (beq_eq_false_iff_ne.mpr (bL (bo I.big))) c m),rfl,q _ v⟩
def zc2{c h b:aT}{d:List aT}{gs:List bJ}{scope:cT}{pos n j:Pos}{y:Str}{i:Nat}(o:Bool)(ext:List Str){it0:DI}{g:Tg}{ts:List DT}{cs:List Cl}{te:DE}(w:X.calm=qb)(B:X.N.Nodup)(D:X.N[i]?=KF y)(p:X.env.scope.names.lookup y=KF .local)
  (F:sM X Ex h b it0) (G:wJ X.env.scope scope (X.N++ext) (qu (⟨it0,g,ts⟩::cs)))
  (J:GC X ext scope h g d ts gs cs c te)
  (M:swapsWith (.ListComp c (⟨h,b,d,0⟩::gs) scope pos) (KF (.Name y j)) n.line X.env=pure qb)
  (P:∀x,bU b X.env x=pure x:=by intro _;rfl):PS X (.Assign [.Name y j] (.ListComp c (⟨h,b,d,0⟩::gs) scope pos) n) (BW (rd Ex X.K (qg o ext.length it0 g ts cs te)) (x_ i)):=by
 rintro k s d_ H E I ⟨R,μ,σ,O,S,r,q⟩;rw[iV _ _ _ _ M];refine aa (eS (aa ?_));show ao _ X.A (do let _ <- comprehension (.ListComp c (⟨h,b,d,0⟩::gs) scope pos) scope X.env _ (newList []) qh (eval b X.env) (KF (assign (.Name y j) X.env))) _ _ s;unfold qg at q;rw[<- K0] at q;refine aa (cy (Eb (Kr c) (use:=KF (assign (.Name y j) X.env)) (Q:=λ_ l=>SP X k E .next l) w F G (λf T s H U _ _ _=>IS J f T s H U) P I S r (Rq r q λL V W l C Y Z nC t y1 u pn=>?_)) (λ_ l hq=>ai (ai hq)) λ_ _ e=>e);obtain⟨m,hn⟩:=Z;show ao _ _ (assign (.Name y j) X.env (.ref L)) _ _ l;refine ir (Hi (v:=.ref L) Y B D (.inl p) rfl (λym F7 u4=>?_) (.inr p));obtain⟨a,Bk,ha⟩:=u4;have FN:C≠a:=by
  rcases ha with z|z
  ·rw[z];exact t
  ·exact λe=>u y a z e.symm
 refine⟨m,hn.sameBut Bk FN,λh' zt=>?_⟩;exact⟨_,V,Inv.bare F7 zt nC t y1 u pn,W⟩
def ze1(u:kH (ay X.prog X.w) X.A X.env X.xe)(hc:X.calm=qb)
  (hA:∀te,PE X e te->PS X sA (BW (HU (λxs H Q=>∃(a:ae)(k_:List (Key×V)),xs=[.ref a]/\Rd H a (.dK k_)/\∀p,H p=KM->Q (.ref p) (upd H p (.dK k_))) (Oa te NK)) (x_ iR))) (hH:PD X Ex e tH)
  (hi:sM X Ex tg iter it) (hg:PG X tg ((Tg.one tT).rd X.K)) (vR:PE X (.Name r p2) (Ga iR)) (vT:PE X (.Name tm p3) (Ga tT)) (hL:PS X sL (BW (rd Ex X.K t1) (x_ iL))) (hE:PD X Ex e3 t3) (xM:swapsWith e3 KM pE.line X.env=pure qh) (ht:t7 X Ex xs tt)
  (n1:iR≠tT) (n2:iR≠iL) (hl:iR<X.N.length) (hT:tT<X.N.length) (hs:∀x,bU iter X.env x=pure x:=by intro _;rfl):t7 X Ex (sA :: .For tg iter [.Delete [.Subscript (.Name r p2) (.Name tm p3) p4] p1,sL,.Expr e3 pE] [] pos::xs) (DD iR tT iL tH it t1 t3 tt):=by
 refine⟨?_⟩;rintro Z s d_ H E I ⟨XV,μ,T,O,e1,c1,q⟩;have hlv:iR<d_.length:=by rw[I.len];exact hl
 refine(D9 (hA _ hH.out) (D9 (O7 u hc hi.out hg (D9 (zhV vR vT) (D9 hL (PU (Pz (X7 hE.out) xM)))) hs) ht.out)) Z s d_ H E I ?_;refine rd.goS e1 c1 q λx O1 v B t ea xa ca da qa=>?_;cases x with
 | map ks ds=>
  unfold Y2 at da;obtain⟨a0,L,rfl,ra,na1,na2,hlen,dvs⟩:=da;refine⟨a0,_,rfl,.inr ra,λp u=>?_⟩;show NM _ _ _ (d_.set iR (KF (.ref p))) (upd B p (.dK ((ks.map kD).zip L)));have LB:Mv B XV t (upd B p (.dK ((ks.map kD).zip L))) (p::XV) t:=(Mv.hide u).trans (Ext.laid u).mv;have UJ:oD X.K (upd B p (.dK ((ks.map kD).zip L))) (p::XV) t (T.set iR KM) (d_.set iR (KF (.ref p))):=(ea.mv LB).forget _;have TN:p∉t:=λm=>by
   obtain⟨k,hk,e2⟩:=cY.mp m;obtain⟨_,_,_,h2,_⟩:=ca.at_ k p (by rw[al hk,e2]);rw[u] at h2;cases h2
  have nph:p∉XV:=λm=>ca.ht p m u;have cap:oB X.K (upd B p (.dK ((ks.map kD).zip L))) (p::XV) t O1:=by
   have c0:=ca.laid (o:=.dK ((ks.map kD).zip L)) u;refine⟨c0.len,c0.nd,λa m z=>?_,λa m=>?_,λk a e=>?_⟩
   ·rcases am.mp z with e|z
    ·exact TN (e▸m)
    ·exact c0.nh a m z
   ·rcases am.mp m with e|m
    ·rw[e,rq];simp
    ·exact c0.ht a m
   ·obtain⟨M,F,U,h2,W⟩:=ca.at_ k a e;exact⟨M,F,U,by rw[p9 (rX h2 u)];exact h2,W.mv LB⟩
  have C:oF Ex X.K B XV t ((it (T.set iR KM) O1).bnS λP O2=>match P with
   | .val xs=>match xx iR tT iL t1 t3 xs ks ds (T.set iR KM) O2 with
    |.nx b f=>tt b f
    |_=>.bad
   |_=>.bad) E:=qa
  refine⟨p::XV,t,T.set iR KM,O1,UJ,cap,?_⟩;cases R:it (T.set iR KM) O1 with
  |bad=>rw[R] at C;exact ak C
  | exc c' f=>
   rw[R] at C;exact λj l x c2=>C j l ((Ext.laid u).trans x) c2.unhide
  | ok P O2=>
   rw[R] at C;intro J H1 h_ x1 c2 sa;cases P with
   |own _=>exact ak C
   |zip _ _=>exact ak C
   | val ys=>
    have C:oF Ex X.K B XV t (match xx iR tT iL t1 t3 ys ks ds (T.set iR KM) O2 with
     |.nx b f=>tt b f
     |_=>.bad) E:=C
    have e0:Ea p B t H1 h_:=(Ext.laid u).ea.trans x1.ea;have yn:H1 p=KF (.dK ((ks.map kD).zip L)):=x1.keep p _ rq TN;refine⟨λi m S j=>∃l b f g M F,m=ys.length-i/\i<=ys.length/\S.length=X.N.length/\Ea p H1 h_ j l/\oD X.K j (p::XV) l b S/\oB X.K j (p::XV) l f/\S[iR]?=KF (KF (.ref p))/\j p=KF (.dK ((g.map kD).zip F))/\g.length=F.length/\oC X.K j (p::XV) l M F/\
     oF Ex X.K B XV t (match xx iR tT iL t1 t3 (ys.drop i) g M b f with
      |.nx b f=>tt b f
      |_=>.bad) E,
     ⟨_,h_,_,O2,ks,ds,L,rfl,bE _,by rw[ee];exact I.len,.refl,UJ.ext x1,c2,by rw[bB hlv],yn,hlen,(dvs.mv LB).ext x1,C⟩,?_⟩
    rintro i m v8 H2 ⟨D,sN,Y,n,FX,y0,hm,hile,T6,Nf,FU,Aq,Il,Fi,Fw,BK,c⟩;have CU:=sa (p::XV) H2 D Y Nf.mv Aq i;have HY:match ys[i]? with
     |some d=>J.go i H2/\∀x t6,J.yld i H2 x t6->Ext H2 D t6 D/\oB X.K t6 (p::XV) D Y/\Y2 X.K t6 (p::XV) D d x
     |none=>J.stop i H2:=CU
    cases q9:ys[i]? with
    | none=>
     rw[q9] at HY;have vZ:i=ys.length:=by have:=a8.mp q9;lia
     rw[vZ,nj] at c;have c:oF Ex X.K B XV t (tt sN Y) E:=c;exact .inl ⟨HY,XV,D,sN,Y,FU.mv .unhide,Aq.unhide,c.ext ((e0.trans Nf).ext u)⟩
    | some d=>
     rw[q9] at HY;obtain⟨go,yl⟩:=HY;have vZ:i<ys.length:=(aq.mp q9).1;rw[c9 vZ,(aq.mp q9).2] at c;unfold xx at c;cases hk:v_ d with
     |none=>rw[hk] at c;exact ak c
     | some k=>
      rw[hk] at c;dsimp only at c;by_cases rT:C1 k n=qb
      case neg=>rw[qM rT] at c;exact ak c
      rw[qq rT] at c;refine .inr ⟨go,λS j=>∃l b f g M F,S.length=X.N.length/\Ea p H1 h_ j l/\oD X.K j (p::XV) l b S/\oB X.K j (p::XV) l f/\S[iR]?=KF (KF (.ref p))/\j p=KF (.dK ((g.map kD).zip F))/\g.length=F.length/\oC X.K j (p::XV) l M F/\
       oF Ex X.K B XV t (match xx iR tT iL t1 t3 (ys.drop (i+1)) g M b f with
        |.nx b f=>tt b f
        |_=>.bad) E,λb j ⟨l,sF,O3,ks3,ds3,vs3,h⟩=>⟨ys.length-(i+1),by lia,l,sF,O3,ks3,ds3,vs3,rfl,vZ,h⟩,λv H3 y=>?_⟩
      obtain⟨x3,c3,r3⟩:=yl v H3 y;have EM:p∉D:=λm=>Aq.nh p m 'k';have Mi:H3 p=KF (.dK ((n.map kD).zip y0)):=x3.keep p _ Fi EM;have M6:=(FU.ext x3).set r3 tT;have dd3:=BK.ext x3;have ekv:=Jn hk r3;have E_:(v8.set tT (KF v))[iR]?=KF (KF (.ref p)):=by rw[bt (bL n1)];exact Il
      have E8:(v8.set tT (KF v))[tT]?=KF (KF v):=by
       rw[bB (by rw[T6];exact hT)]
      dsimp only[Tg.rd,x_];refine⟨_,E_,v,E8,p,_,kD k,rfl,Mi,ekv,RY Fw rT,?_⟩;obtain⟨G,hd1,hd2,hd3⟩:=Qo (k:=k) Fw dd3;rw[hd1];have Nd:Ea p H3 D (upd H3 p (.dK (((uy k n).map kD).zip G))) D:=.putX (xv Mi);have UK:=M6.mv (Nd.mv (XV:=XV));have cl4:=c3.putX (o:=.dK (((uy k n).map kD).zip G)) (xv Mi);have dd4:=hd3.mv (Nd.mv (XV:=XV));cases U:t1 (sN.set tT (KF d)) Y with
      |bad=>rw[U] at c;exact ak c
      |exc c' f=>rw[U] at c;exact ak c
      | ok d1 O5=>
       rw[U] at c;dsimp only at c;refine⟨p::XV,D,sN.set tT (KF d),Y,UK,cl4,?_⟩;rw[U];intro v1 H5 xX x5 c5 r5;have Fh:H5 p=KF (.dK (((uy k n).map kD).zip G)):=x5.keep p _ rq EM;have EL:p∉xX:=λm=>c5.nh p m 'k';have ID:=(UK.ext x5).set r5 iL;have UL:=dd4.ext x5;have E9:((v8.set tT (KF v)).set iL (KF v1))[iR]?=KF (KF (.ref p)):=by rw[bt (bL n2)];exact E_
       cases W:t3 (((sN.set tT (KF d)).set iL (KF d1)).set iR (KF (.map (uy k n) (xB k n FX)))) O5 with
       |bad=>rw[W] at c;exact ak c
       |exc c' f=>rw[W] at c;exact ak c
       | ok d3 O6=>
        rw[W] at c;dsimp only at c;by_cases hn:O6.all nms=qb
        case neg=>rw[qM hn] at c;exact ak c
        rw[qq hn] at c;refine⟨p,_,Fh,λo=>?_⟩;have Nc:Ea p H5 xX (upd H5 p (.frz o (.dK (((uy k n).map kD).zip G)))) xX:=.putX (xv Fh);have dm:Y2 X.K (upd H5 p (.frz o (.dK (((uy k n).map kD).zip G)))) XV xX (.map (uy k n) (xB k n FX)) (.ref p):=by
         unfold Y2;exact⟨p,G,rfl,⟨o,rq⟩,nph,EL,hd2,(UL.mv (Nc.mv (XV:=XV))).mv .unhide⟩
        refine⟨XV,xX,_,O5,((ID.mv (Nc.mv (XV:=XV))).mv .unhide).put E9 dm,(c5.putX (xv Fh)).unhide,?_⟩;rw[W];intro v3 H6 F9 x6 c6 r6;have Ip:H6 p=KF (.frz o (.dK (((uy k n).map kD).zip G))):=x6.keep p _ rq EL;have ea7:Ea p H6 F9 (upd H6 p (.dK (((uy k n).map kD).zip G))) F9:=.putX (Ot Ip);have Nb:=(Nc.trans x6.ea).trans ea7;exact⟨Ip,F9,_,O6,_,_,G,by rw[ee,ee];exact T6,((Nf.trans x3.ea).trans Nd).trans (x5.ea.trans Nb),ID.mv (Nb.mv (XV:=XV)),(c6.hide Ip hn).putX (Ot Ip),E9,rq,hd2,UL.mv (Nb.mv (XV:=XV)),c⟩
 |_=>exact ak qa
end
end DL
namespace DL
open PySem L2
def Gg(o:Obj):Nat:=match o.data with
 |.dict _ ep=>ep
 |_=>0
def UU(a:ae)(o:Obj)(k_:List (Key×V)):It:=⟨λi H=>H a=KF (.frz o (.dK k_))/\i<k_.length,λi H x H'=>H'=H/\∃k v,k_[i]?=KF (k,v)/\x=kV k,λi H=>H a=KF (.frz o (.dK k_))/\k_.length<=i⟩
theorem OH:∀{k_:List (Key×V)}{ws:List (Key×ab)}{i:Nat}{k:Key}{v:V},KV k_ ws->k_[i]?=KF (k,v)->∃u,ws[i]?=KF (k,u)
 |_,_,_,_,_,.nil,h=>by simp at h
 | (k0,v0)::_,(k1,u1)::_,0,k,v,.cons h _,e=>by
  simp at e;obtain⟨rfl,rfl⟩:=e;have a:k0=k1:=h.1;subst a;exact⟨u1,rfl⟩
 |_::_,_::_,i+1,k,v,.cons _ t,e=>OH (i:=i) t (by simpa using e)
def ZV(h:(uM P w).is k u=qb):RelV (kV k) u:=by
 rcases yk (k:=k) (v:=u) h with⟨i,t,rfl,rfl⟩|⟨x,t,rfl,rfl⟩
 ·exact⟨t,rfl⟩
 ·exact⟨t,rfl⟩
def Kc(ok:HOk P w H h)(e:H a=KF (.frz o (.dK k_))):(a==sysModules)=qh/\∃b,KV k_ b/\h.DictAt (uM P w) a b (Gg o):=by
 obtain⟨d,z,i,b,c,m,j,k,f,l,g,r⟩:=ok a _ e;rw[d] at f;cases f;have:Gg o=k:=by unfold Gg;rw[g]
 rw[this];exact⟨i,b,c,o,j,d,l,g,r⟩
def zeQ(a it:ae)(o:Obj)(q:List (Key×V)):wQ P w K tg (UU a o q) [it] it (λi h=>h.IsKeyIter it a i q.length (Gg o)) where
 mem:=by simp
 obj:=λi h g b l=>by
  have e:b=it:=by simpa using l
  subst e;obtain⟨o,e,c,d⟩:=g;exact⟨o,e,λv z=>by rw[d] at z;cases z⟩
 keep:=λi h m g k=>g.at λo e=>k it 'k' o e
 item:=by
  intro X r t x O i j s Q H E I n g y;subst r t x;obtain⟨A,B⟩:=y;obtain⟨S,T,f,C⟩:=Kc I.hok A;obtain⟨⟨k,v⟩,R⟩:∃p,q[i]?=KF p:=⟨_,al B⟩;obtain⟨u,U⟩:=OH f R;obtain⟨D,F,W,G,J,L⟩:=n it 'k';rw[f.length] at g;refine wpAny_pyNext_dict_item g C U λM m Y N Z=>?_;have I1:Inv X j Q H { s with heap:=m }:=I.turned (t':=s.toks) (λb o l e=>(Z.2 b l).trans e) D F G J L;obtain⟨o2,e,c,d⟩:=id N;rw[<- f.length] at N;exact⟨M,rfl,DB (s:={ s with heap:=m }) e c d 'u' ⟨kV k,H,I1,ZV Y,⟨rfl,k,v,R,rfl⟩,N,λb l=>(n b l).1⟩⟩
 done:=by
  intro X r t x O i j s Q H E I n g y;subst r t x;obtain⟨A,B⟩:=y;obtain⟨S,T,f,C⟩:=Kc I.hok A;obtain⟨D,F,W,G,J,L⟩:=n it 'k';rw[f.length] at g;exact wpAny_pyNext_dict_end (I.ok.hd O) g C (a8.mpr (by rw[<- f.length];exact B)) λm eb=>⟨rfl,I.turned (t':=s.toks) (λb o l e=>eb b o l e) D F G J L⟩
 self:=λ_ _ _ _ _ g h=>wpAny_pyIter_keyiter g h
noncomputable def Ae:DK->D
 |.inl i=>.int i
 |.inr cs=>.str cs
def Z6:∀k:DK,Y2 K H XV μ (Ae k) (kV (kD k))
 |.inl _=>by unfold Ae Y2;rfl
 |.inr _=>by unfold Ae Y2;rfl
def oG.keys{K:ah}{H:Hp}{XV μ:List ae}{b:List DK}{vs:List V}{a:ae}{o:Obj}(h:H a=KF (.frz o (.dK ((b.map kD).zip vs))))(n:a∉XV)(p:a∉μ)(g:b.length=vs.length):oG K (UU a o ((b.map kD).zip vs)) (.val (b.map Ae)) H XV μ:=by
 intro j u v w m c i;have l:=m.kept a _ h p n (by intro A z;cases z);have f:((b.map kD).zip vs).length=b.length:=by rw[g7,au,g,Nat.min_self]
 show match (b.map Ae)[i]? with|some d=>_|none=>_
 rw[be];cases e:b[i]? with
 | some k=>
  have q:=(aq.mp e).1;refine⟨⟨l,by rw[f];exact q⟩,λx B y=>?_⟩;obtain⟨rfl,r,C,s,rfl⟩:=y;have t:r=kD k:=by
   have:=congrArg (nu Prod.fst) s;rw[<- be,List.map_fst_zip (by rw[au];exact h9 g),be,e] at this;cases this;rfl
  subst t;exact⟨.refl,c,Z6 k⟩
 | none=>
  exact⟨l,by rw[f];exact a8.mp e⟩
def Gb(t:DE):DI:=λσ O=>(t σ O).bnd λx O1=>match x with
 |.map ks _=>.ok (.val (ks.map Ae)) O1
 |_=>.bad
def zga{X:Cx}{m:Nat->Hp->Prop}{a y:aT}{t:DE}(z:PD X m a t):sM X m y a (Gb t):=by
 refine⟨?_⟩;rintro i s A H B I ⟨f,S,T,O,C,D,q⟩;refine pV (z.out i s A H _ I (rd.go C D q (Q1:=λv g=>∃f h j d,oB X.K g f h j/\Y2 X.K g f h d v/\post m X.K (λE F s J=>oG X.K J s E f F) g f h (match d with|.map ks _=>.ok (.val (ks.map Ae)) j|_=>.bad) B)
  λd j v g h U x c r p=>⟨f,h,j,d,c,r,p⟩)) λu k ⟨v,g,l,G,f,h,j,d,c,r,p⟩=>?_
 cases d with
 | map ks ds=>
  unfold Y2 at r;obtain⟨a,V,rfl,⟨o,w⟩,L,M,N,W⟩:=r;cases G;obtain⟨P,Y,n,Q⟩:=Kc l.hok w;refine wpAny_pyIter_dict P Q ?_;rw[<- n.length];refine⟨k.heap.objs.size,[k.heap.objs.size],_,_,g,rfl,l.kept (t':=k.toks) λb o e=>af _ e,zeQ a _ o _,⟨_,aE _ rfl,rfl,rfl⟩,λb R=>?_,post.here p c (.keys w L M N)⟩;have e:b=k.heap.objs.size:=by simpa using R
  subst e;exact l.fpOk (aC _) (l.hok.fresh (aC _))
 |_=>exact ak p
end DL
namespace DL
open PySem L2 PyProof.Rows
noncomputable def ltP(i j k l:Int):Bool:=decide (i<k)||(decide (i=k)&&decide (j<l))
section
variable{X:Cx}{Ex:Nat->Hp->Prop}
def zpp:Ow->D->D->R D:=λO x y=>match x,y with
 |.tup [.int i,.int j],.tup [.int k,.int l]=>.ok (.bl (ltP i j k l)) O
 |_,_=>.bad
def vp:List Int->Int
 |[]=>0
 |x::l=>l.foldl min x
theorem JR:∀(l:List Int)(x:Int),l.foldl min x<=x/\∀a∈l,l.foldl min x<=a
 |[],x=>⟨Int.le_refl _,λ_ h=>by cases h⟩
 | y::l,x=>by
  obtain⟨c,b⟩:=JR l (min x y);rw[fD];refine⟨by lia,λa ha=>?_⟩;rcases am.mp ha with rfl|ha
  ·lia
  ·exact b a ha
theorem D5:∀(l:List Int)(x:Int),l.foldl min x=x\/l.foldl min x∈l
 |[],x=>.inl rfl
 | y::l,x=>by
  rw[fD];rcases D5 l (min x y) with h|h
  ·rcases Int.le_total x y with e|e
   ·left;rw[h];lia
   ·right;rw[h];rw[show min x y=y by lia];exact ar
  ·exact .inr (aj _ h)
def RX(hm:M∈ns)(b:∀a,a∈ns->M<=a):M=vp ns:=by
 cases ns with
 |nil=>cases hm
 | cons x l=>
  show M=l.foldl min x;obtain⟨c,d⟩:=JR l x;have f:l.foldl min x<=M:=by
   rcases am.mp hm with rfl|hm
   ·exact c
   ·exact d M hm
  have g:M<=l.foldl min x:=by
   rcases D5 l x with e|e
   ·rw[e];exact b x ar
   ·exact b _ (aj _ e)
  lia
def zes(m:X.calm=qb):oM X (.builtin "min") (λxs H Q=>∃(p:ae)(ns:List Int),xs=[.ref p]/\qO X.K H p (ns.map V.int)/\ns≠[]/\Q (.int (vp ns)) H):=by
 intro e s G H xs J Q I r h;obtain⟨p,ns,rfl,n,o,q⟩:=h;obtain⟨u,rfl,w⟩:=uL r;cases w;obtain⟨L,x,y,M⟩:=I.list n;have f:=SI x;obtain⟨b,g⟩:=f.allInts.items;have c:ns=b.toList.map (·.1):=by rw[<- f.numsOf,<- l8,<- g]
 have k:=y.isList;rw[g] at k;have d:0<b.size:=by
  rcases Nat.eq_zero_or_pos b.size with z|z
  ·exact absurd (by rw[c,Array.eq_empty_of_size_eq_zero z];rfl) o
  ·exact z
 refine wT I (min_intList (I.ok.hd m) k d λv N A B C O=>?_);obtain⟨t,rfl⟩:=intItems_at B;obtain⟨P,D⟩:=argBest_lt (numAt b) (b.size-1);have E:numAt b (argBest (λi j=>decide (numAt b i<numAt b j)) (b.size-1))=vp ns:=by
  refine RX ?_ λa l=>?_
  ·rw[c,numAt_eq];exact getD_mem (by rw[au,aB];lia)
  ·rw[c] at l;obtain⟨j,F,rfl⟩:=mem_getD l;rw[au,aB] at F;rw[<- numAt_eq];exact D j 'd'
 rw[E];exact⟨.int _,H,I.kept (t':=A) C,⟨_,rfl⟩,q⟩
def AE:Ow->List D->R D:=λO xs=>match xs with
 | [x]=>match rD O x with
  | some ds=>match wb ds with
   |some ns=>if ns≠[] then .ok (.int (vp ns)) O else .bad
   |none=>.bad
  |none=>.bad
 |_=>.bad
def Zy:uW X Ex (λxs H Q=>∃(p:ae)(ns:List Int),xs=[.ref p]/\qO X.K H p (ns.map V.int)/\ns≠[]/\Q (.int (vp ns)) H) AE:=by
 intro H a j O xs k Q c d q;unfold AE at q;split at q
 ·rename_i x;obtain⟨v,rfl,b⟩:=uj d;split at q
  ·rename_i l e;obtain⟨p,m,rfl,f,g⟩:=vO c b e;split at q
   ·rename_i ns h;obtain⟨i,q⟩:=post.ite q;refine⟨p,ns,rfl,?_,i,post.here q c r9⟩;rw[<- JU g h];exact f
   ·exact ak q
  ·exact ak q
 ·exact ak q
noncomputable def Dj(i:Nat)(t:DE):DS:=λσ O=>match σ[i]? with
 | some (KF (.int a))=>(t σ O).bnS λd O1=>match d with
  |.int b=>.nx (σ.set i (KF (.int (a+b)))) O1
  |_=>.bad
 |_=>.bad
def ziC(h:X.N.Nodup)(j:X.N[i]?=KF x)(k:Loc X.env.scope x)(l:PD X Ex e te)(m:X.fn x=qb\/X.env.scope.names.lookup x=KF .local:=by first|exact .inl rfl|exact .inr rfl):
  sC X Ex (.AugAssign (.Name x pos') .Add e pos) (Dj i te):=
 yc (XX h j k l.out W_ m) λn A B O E o H f s q=>by
  unfold Dj at q;split at q
  ·rename_i a t;obtain⟨v,u,g⟩:=f.at_ i _ t;unfold Y2 at g;subst g;refine⟨.int a,u,rd.goS f s q λd C v w y z x c r p=>?_⟩;cases d with
   | int b=>
    unfold Y2 at r;subst r;exact⟨a,b,rfl,rfl,p (o.set i (KF (.int (a+b)))) w y .refl (z.set r9 i) c⟩
   |_=>exact ak p
  ·exact ak q
end
end DL
namespace DL
open PySem L2
open PyProof.Rows (AllBare)
structure oH(P:aP)(w:aY)(K:ah)(mg:Str->Option ab)(base:aX)(x:Str)(k n:Nat)(Pt:ae)(F:List D->Ow->R D):Prop where
 ex:∃f fd ps,mg x=KF (.ref f)/\cV K (.ref f)=qb/\Binds K fd ps []/\oR P w K mg base xn k f fd ps (yA K yv n Pt F)
section
variable{P:aP}{w:aY}{K:ah}{mg:Str->Option ab}{base:aX}{k n i:Nat}{x z:Str}{Pt c:ae}{F G:List D->Ow->R D}
def oH.imp(c:oH P w K mg base x k n Pt F)(h:∀ds O H XV μ Q,oB K H XV μ O->q0 qy K H XV μ (G ds O) Q->q0 qy K H XV μ (F ds O) Q):oH P w K mg base x k n Pt G:=by obtain⟨f,b,e,g,j,l,m⟩:=c.ex;exact⟨f,b,e,g,j,l,m.imp λr H Q E ⟨o,XV,μ,ds,O,d,a,p,q⟩=>⟨o,XV,μ,ds,O,d,a,p,h ds O H XV μ Q a q⟩⟩
def oH.bad(c:oH P w K mg base x k n Pt F):oH P w K mg base x k n Pt (λ_ _=>.bad):=c.imp λ_ _ _ _ _ _ _ q=>ak q
def oH.self(c:oH P w K mg base x k n Pt F):oH P w K mg base x k n Pt F:=c
def oH.frz(c:oH P w K mg base x k n Pt F):oH P w K mg base x k n Pt (xr F):=c.imp λd O H a e Q b q=>Km b.len q
def JB{f:ae}{name a:Str}{g:iU}{body:List eI}{scope:cT}{B C l I m ct M:ab}{J T:Option ae}{U:Array (Option ab)}{N u:List Str}{t:DS}
  (V:K.lookup f=KF ⟨M,T,.func (cB name a g body scope B C l I J m ct),U⟩) (W:fg K m a=qb) (S:qt N u scope) (X:N[i]?=KF z) (hz:¬ uU scope z)
  (Y:∀(A:ba)(b:List Env)(s:ag)(H:Hp)(E:XK),oK k (A.deeper (e9 a scope s.heap.objs.size f m))->t7 (De P w K mg base N a scope f m A b s H E) qy body t):
  oR P w K mg base xn (k+1) f (cB name a g body scope B C l I J m ct) u (yA K yv u.length Pt (xu N.length i Pt t)):=by
 refine qw V W S (λZ H Q E h=>h.1) λA b s H Z Q E hr h=>?_;obtain⟨hl,y,μ,L,O,d,c,ti,j⟩:=h;refine⟨_,(tF.fake (v:=.bl qh) X hz (Y A b s H E hr).out).nox,y,μ,_,O,(SS d N).set (d:=.tab Pt) (v:=.bl qh) (by unfold Y2;exact⟨rfl,ti⟩) i,c,?_⟩;unfold xu at j;generalize t ((L.map KF++aS (N.length-L.length) KM).set i (KF (.tab Pt))) O=r at j;cases r with
 |nx σ O'=>exact λd_ o p x e q=>j .non o p x q GY
 |rt d' O'=>exact λv o p x q r=>j v o p x q r
 |bk σ O'=>exact ak j
 |ct σ O'=>exact ak j
 |exc q O'=>exact λo p x c2=>j o p x c2
 |bad=>exact ak j
def M3(h:qF K mg x st)(S:qt N ps (qc st))(o:N[i]?=KF z)(hz:¬ uU (qc st) z)
  (p:∀(g d j:ab)(l:Option ae)(b m:ab)(e:List ab),e.length=ps.length->bindArgs (cB x x (xD st) (vh st) (qc st) .none g d j l b m) ⟨e,[]⟩=pure (ps.zip e))
  (q:∀(f:ae)(b:ab)(A:ba)(a:List Env)(s:ag)(H:Hp)(E:XK),oK k (A.deeper (e9 x (qc st) s.heap.objs.size f b))->t7 (De P w K mg base N x (qc st) f b A a s H E) qy (vh st) t):
  oH P w K mg base x (k+1) ps.length Pt (xu N.length i Pt t):=by obtain⟨f,r,u,F⟩:=h;refine⟨f,r,ps,u,F.kp,F.binds p,?_⟩;obtain⟨C,I,g,d,j,l,b,m,J,rfl,v,y⟩:=F.ex;exact JB v y S o hz λA a s H E B=>q f b A a s H E B
def NL(h:yC K mg x st c)(S:qt N ps (qc st))(o:N[i]?=KF z)(hz:¬ uU (qc st) z)
  (p:∀(g b j:ab)(l:Option ae)(d m:ab)(e:List ab),e.length=ps.length->bindArgs (cB x x (xD st) (vh st) (qc st) .none g b j l d m) ⟨e,[]⟩=pure (ps.zip e))
  (q:∀(f:ae)(A:ba)(a:List Env)(s:ag)(H:Hp)(E:XK),oK k (A.deeper (e9 x (qc st) s.heap.objs.size f (.ref c)))->t7 (De P w K mg base N x (qc st) f (.ref c) A a s H E) qy (vh st) t):
  oH P w K mg base x (k+1) ps.length Pt (xu N.length i Pt t):=by obtain⟨f,r,u,F,v⟩:=h.ex;refine⟨f,r,ps,u,F.kp,F.binds p,?_⟩;obtain⟨I,J,g,b,j,l,d,m,L,rfl,y,B⟩:=F.ex;cases (show d=.ref c from v);exact JB y B S o hz λA a s H E C=>q f A a s H E C
def U6(F:L2.Fun K x x st f fd)(S:qt N ps (qc st))(d:N[i]?=KF z)(hz:¬ uU (qc st) z)
  (e:∀(b:ab)(A:ba)(a:List Env)(s:ag)(H:Hp)(E:XK),oK k (A.deeper (e9 x (qc st) s.heap.objs.size f b))->t7 (De P w K mg base N x (qc st) f b A a s H E) qy (vh st) t):
  oR P w K mg base xn (k+1) f fd ps (yA K yv ps.length Pt (xu N.length i Pt t)):=by obtain⟨m,o,p,g,q,r,b,u,v,rfl,h,j⟩:=F.ex;exact JB h j S d hz λA a s H E l=>e b A a s H E l
end
def Ce(c:oH X.prog X.w X.K X.mg X.base x k n Pt F)(l:oK j X.A)(m:k<=j)(o:Gl X x)(r:ug X qy (e::es) t)
  (s:(x==("__debug__":Str))=qh:=by decide) (u:aN (e::es) X.env=(qh,eval e X.env)::aN es X.env:=by rfl) (y:(backTo pos (aN es X.env)).any (·.1)=qh:=by rfl):
  PD X qy (.Call (.Name x p) (e::es) [] pos) (tJ Pt iT n F t):=by
 obtain⟨f,U,V,z,B,C,G⟩:=c.ex;refine rM (Ql (dvs:=[]) (ds:=[]) (E:=E0) (G.mono m) l o z B C .nil Ob r.out s u y) λa D I O W H Q h J q=>?_;obtain⟨L,q⟩:oP H Pt/\q0 qy X.K H a D (j_ n F t I O) Q:=by
  unfold tJ at q;split at q
  ·rename_i p M;by_cases b:p=Pt
   ·rw[qq b] at q;obtain⟨v,_,d⟩:=h.at_ iT _ M;unfold Y2 at d;rw[b] at d;exact⟨d.2,q⟩
   ·rw[qM b] at q;exact ak q
  ·exact ak q
 refine uC.go h J q λds N Y Z P e2 R S i g=>?_;obtain⟨T,g⟩:=post.ite g;refine⟨by rw[bz,<- i.length];exact T,a,P,ds,N,?_,S,R.tab _ L,g⟩;rw[bz];exact i
def walkU{l:mi}{q:aP}{loose:List Str}{XP:(Str->Option ab)->aX->Prop}{p:aY->aX->Prop}{d:DefRec}{K:iX->ah}{k:Nat}{x xd:Str}{F:Nat->List D->Ow->R D}{α:Type}{Yf:ag->α}{Ya:aY->α}(L:l.most=KF 63)(M:d.params.defaults=[])(N:oK k callerA)
  (P:∀w s,Yf s=Ya w->p w s.heap) (Q:∀w h h',p w h->(∀b o,h.get? b=KF o->h'.get? b=KF o)->p w h')
  (S:∀(w:aY)(h:aX),p w h->(K w.params).In h) (U:((PyProof.Rows.recsOf q).find? (λe=>e.name==xd)).isSome=qb)
  (V:∀(w:aY)(mg:Str->Option ab)(r:ae)(h:aX),(K w.params).In h->h.Ns bI mg->mg d.name=KF (.ref r)->
   jk (K w.params)=qb/\∃(c Pt:ae),jN (K w.params) xd=KF (c,Pt)/\∃t:eB,(∀(s:ag)(u:ab),k9 s t ⟨[u],[]⟩ [(x,u)])/\∀base:aX,(K w.params).In base->base.Ns bI mg->vM mg base c Pt->oR l.prog w (K w.params) mg base xn k r t [x] (yA (K w.params) yv 1 Pt (F Pt)))
  (j:∀(Pt:Nat)(ns:List Int),ns.length<=63->∃O,F Pt [.lst (ns.map .int)] []=.ok (.bl qb) O):
  PySem.W.WalkX q loose XP (λs=>(Yf s,decide (0<s.toks))) (λw=>(Ya w,qb)) l.row.toRowW d [] (λf vs=>PySem.call f vs):=by
 refine Att.attach_call L M P Q λw B X mg mb r o pm cd Z a vs ns G Y ho C q_ Fp Bm m i hg qR=>?_;have v:=S w _ Y;obtain⟨hK,c,Pt,ht,t,hb,hG⟩:=V w mg r _ v G.T.g Fp;obtain⟨dd,E⟩:=hU.mp U;have y:dd.name=xd:=by simpa using List.find?_some E
 subst y;obtain⟨hC,I⟩:=PySem.W.tab_of G.T v E ht;have hB:X.heap.BuiltinsAt mg Pt:=by
  obtain⟨bm,ob,b1,b2,n,J,b5,A⟩:=G.T.bmain;refine⟨bm,ob,b1,b2,λq=>?_,λq=>?_,n,J,b5,A⟩
  ·obtain⟨o,es,ep,e,C,_⟩:=G.T.g;rw[q,e] at n;cases n;rw[C] at A;cases A
  ·rw[q,I] at n;cases n;cases J
 exact zct v G.T.g G.T.b G.T.builtins G.T.nolimit hg qR Bm m (aI i 'u') N hC I hK hB hG hb (λH hT hS=>WM (j Pt ns i) hT hS) λH e s' z=>z
end DL
namespace DL
open PySem L2 PyProof.Rows
def za8(u:T = "list" \/ T = "tuple")(v:s.heap.get? p=KF o)(x:o.cls=.type T)(y:o.data=.seq vs.toArray n)(g:eU vs ss)(k:vs.length<=4000000)
  (h:∀(a h':aX)(d:Array ab)(i:List Str)(c:Nat),(∀b f,s.heap.get? b=KF f->a.get? b=KF f)->(∀b f,a.get? b=KF f->h'.get? b=KF f)->h'.get? a.objs.size=KF { cls:=.type "list",data:=.seq d c }->eU d.toList i->i.Perm ss->sortedS i=qb->Q (.ref a.objs.size) { s with heap:=h' }):
  ao (ay prog w) A (call (.builtin "sorted") [.ref p]) Q E s:=by
 refine gZ mV ms mw (mx _) ?_;unfold dF.«sorted»;refine aa (m:=checkCount "sorted" 1 1 _) (ai ?_);have hsz:vs.toArray.size<=xc:=by rw[aJ];exact aI k 'u'
 refine aa (wpAny_collect_seq (hsz:=hsz) p u v x y λa z=>?_);refine aa (gP ?_);have B:vs.toArray.toList=vs:=by simp
 rw[B];have j:(a.push (seqObj "list" vs.toArray 0)).get? a.objs.size=KF (seqObj "list" vs.toArray 0):=aE _ rfl;refine aa (bH (cw lC (s:={ s with heap:=a.push (seqObj "list" vs.toArray 0) }) ⟨_,j,rfl⟩ kM (TS.list_sort_big lY j g.keysOf (λN O l e=>keyKind_strs (by rw[<- e];exact g)) k λC D F=>⟨_,rfl,?_⟩) (lD _)));obtain⟨G,H,I,J⟩:=sorted_out_str g D F;refine ai ⟨_,rfl,?_⟩;have K:=cm (bw λ_=>#[]) j rfl;have L:=af (seqObj "list" #[] 0) (af (seqObj "tuple" vs.toArray 0) K);have M:=cm (bw λ_=>(q7 C).map (·.2)) L rfl;refine h a _ _ G _ z (λb o r=>?_) M H I J;have t:a.objs.size≠b:=λq=>absurd (aK r) (by rw[<- q];exact bS _);exact(cz _ _ t).trans (af _ (af _ ((cz _ _ t).trans (af _ r))))
section
variable{X:Cx}{Ex:Nat->Hp->Prop}{H:Hp}{XV μ:List ae}
def Og(K:ah):List V->Hp->VK->Prop:=λxs H Q=>∃p ss,xs=[.ref p]/\rG K H p (ss.map λcs=>V.str ⟨cs.toArray⟩)/\ss.Nodup/\ss.length<=1000/\∀l,H l=KM->Q (.ref l) (upd H l (.lst ((qS ss).map λcs=>V.str ⟨cs.toArray⟩)))
def zcl:oM X (.builtin "sorted") (Og X.K):=by
 intro b s v H O P Q I r h;obtain⟨p,a,rfl,w,x,y,q⟩:=h;obtain⟨u,rfl,z⟩:=uL r;cases z;obtain⟨i,j,⟨o,A,B,n,C⟩,R⟩:=I.tuple w;have D:(a.map λd=>V.str ⟨d.toArray⟩)=(a.map toS).map V.str:=by rw[bi];rfl
 have E:eU i (a.map toS):=zbx (by rw[<- D];exact j);have k:i.length=a.length:=by have:=j.length;simpa using this.symm
 refine za8 (.inr rfl) A B C E 'd' λl S f T c F G J L m M=>?_;have e:=Zs m x M;subst e;have t:L2.Inv X b v H { s with heap:=l }:=I.kept (t':=s.toks) F;have g:oE ((qS a).map λd=>V.str ⟨d.toArray⟩) f.toList:=by
  have g:=KD L;rw[bi] at g;exact g
 have N:(qS a).length=a.length:=by have:=m.length_eq;simpa using this
 exact⟨.ref l.objs.size,_,t.laid (t':=s.toks) (o:=.lst ((qS a).map λd=>V.str ⟨d.toArray⟩)) G (aC _) ⟨by rw[au,N];exact aI y 'u',f.toList,c,g,by rw[J]⟩,rfl,q _ (t.hok.fresh (aC _))⟩
def AG:Ow->List D->R D:=λO xs=>match xs with
 | [.tup ds]=>match vf ds with
  |some ss=>if ss.Nodup/\ss.length<=1000 then .ok (.lst ((qS ss).map .str)) O else .bad
  |none=>.bad
 |_=>.bad
def zhY:uW X Ex (Og X.K) AG:=by
 intro H XV μ O m n Q c d q;unfold AG at q;split at q
 ·rename_i o;obtain⟨v,rfl,b⟩:=uj d;obtain⟨p,r,rfl,e,f⟩:=AK b rfl;split at q
  ·rename_i g h;obtain⟨⟨i,j⟩,q⟩:=post.ite q;have k:=GS f h;subst k;exact⟨p,g,rfl,e,i,j,λl a=>post.ok q (.laid a) (c.laid a) (Y2.newL c a (Hj _))⟩
  ·exact ak q
 ·exact ak q
end
noncomputable def Jd(out sc:cT)(x:Str):Bool:=(match sc.kind with|.function=>qb|_=>qh) && !sc.isCoroutine && !sc.isGenerator&&decide ((sc.names.map (·.1)).Nodup)&&(sc.names.lookup x==KF .local)&&(sc.names.all λy=>!(y.2 == .cell)&&(!(y.2 == .local)||y.1==x))&&(sc.names.all λy=>!(y.2 == .free)||out.names.lookup y.1==KF .cell||out.names.lookup y.1==KF .free)
def Vs(h:Jd out sc x=qb):N9 out sc x:=by
 unfold Jd at h;simp only[aR,decide_eq_true_eq,av] at h;obtain⟨⟨⟨⟨⟨⟨c,f⟩,g⟩,i⟩,j⟩,d⟩,k⟩:=h;refine⟨?_,by simpa using f,by simpa using g,i,λy a=>?_,by simpa using j,λy a b=>?_,λy a b=>?_⟩
 ·cases e:sc.kind<;>rw[e] at c<;>first|rfl|cases c
 ·have:=(d y a).1;simpa using this
 ·have:=(d y a).2;rw[b] at this;simpa using this
 ·have:=k y a;rw[b] at this;simpa using this
def zg7(f:oK (k+2) X.A)(g:X.calm=qb)(L:vM X.mg X.base c Pt)(h:X.env.code=.ref c)(i:Jd X.env.scope scope x=qb)(j:defaultsOf params X.env=([],[]))
  (l:∀(name a:Str)(cl:List (Str×ae))(pm d ct u:ab),bindArgs (d6 name a params body scope cl pm d ct) ⟨[u],[]⟩=pure [(x,u)]) (m:(X.N++[x]).Nodup) (n:PD X Ex e te)
  (o:∀(q:Str)(b:ae)(d:ab)(cl:List (Str×ae))(A:ba)(outer:List Env)(s:ag)(H:Hp),oK k (A.deeper (wL q scope s.heap.objs.size b d cl))->PD (F0 X.prog X.w X.K X.mg X.base (X.N++[x]) (wL q scope s.heap.objs.size b d cl) A outer s H) qy body tE)
  (p:Gl X "min") (r:X.mg "min" = KM) (t:aN [e] X.env=[(qh,eval e X.env)]:=by rfl):PD X Ex (.Call (.Name "min" pn) [e] [⟨KF (f8 "key"),.Lambda params body scope pl,kq⟩] pp) (B3 Pt iT te tE):=
 Zp f g L h (Vs i) j l (λz=>(fN.mp m).2.2 x z x 'k' rfl) n o p r t
def K5{X:Cx}{e:Nat->Hp->Prop}{b d a:aT}{c:List aT}{gs:List bJ}{scope:cT}{pos f h:Pos}{y:Str}{i k:Nat}{ext:List Str}{it0:DI}{g:Tg}{ts:List DT}{cs:List Cl}{te:DE}(_:Nx ext)(o:Bool)(j:X.calm=qb)(l:X.N.Nodup)(m:X.N[i]?=KF y)(n:X.env.scope.names.lookup y=KF .local)(p:wJ X.env.scope scope (X.N++ext) (qu (⟨it0,g,ts⟩::cs)))(q:sM X e d a it0)(r:GC X ext scope d g c ts gs cs b te)
  (s:swapsWith (.ListComp b (⟨d,a,c,0⟩::gs) scope pos) (KF (.Name y h)) f.line X.env=pure qb) (t:ext.length=k:=by rfl) (u:∀x,bU a X.env x=pure x:=by intro _;rfl):
  PS X (.Assign [.Name y h] (.ListComp b (⟨d,a,c,0⟩::gs) scope pos) f) (BW (rd e X.K (qg o k it0 g ts cs te)) (x_ i)):=t▸zc2 o ext j l m n q p r s u
end DL
namespace DL
open PySem L2
section
variable{X:Cx}{Ex:Nat->Hp->Prop}
def K7{l r w f:aT}{h:List aT}{gs:List bJ}{scope:cT}{pos Y B:Pos}{y:Str}{i k:Nat}{ext:List Str}{it0:DI}{g:Tg}{ts:List DT}{cs:List Cl}{tk tv:DE}(_:Nx ext)(pQ:X.calm=qb)(hN:X.N.Nodup)(zy:X.N[i]?=KF y)(Z:X.env.scope.names.lookup y=KF .local)(hb:wJ X.env.scope scope (X.N++ext) (qu (⟨it0,g,ts⟩::cs)))(hi:sM X Ex w f it0)
  (sY:∀cells C s H j,PG (qB X (X.N++ext) scope cells C s H j) w (g.rd X.K)/\cj (λe t=>rm (qB X (X.N++ext) scope cells C s H j) qy e t) h ts/\oU (qB X (X.N++ext) scope cells C s H j) gs cs/\PD (qB X (X.N++ext) scope cells C s H j) qy l tk/\PD (qB X (X.N++ext) scope cells C s H j) qy r tv)
  (xM:swapsWith (.DictComp l r (⟨w,f,h,0⟩::gs) scope pos) (KF (.Name y B)) Y.line X.env=pure qb) (hk:ext.length=k:=by rfl)
  (hs:∀x,bU f X.env x=pure x:=by intro _;rfl):sC X Ex (.Assign [.Name y B] (.DictComp l r (⟨w,f,h,0⟩::gs) scope pos) Y) (pS i (xA k it0 g ts cs tk tv)):=by
 subst hk;refine⟨?_⟩;rintro D s d_ H E I ⟨F,μ,R,O,e1,c1,q⟩;rw[iV _ _ _ _ xM];refine aa (eS (aa ?_));show ao _ X.A (do let _ <- comprehension (.DictComp l r (⟨w,f,h,0⟩::gs) scope pos) scope X.env _ newDict qh (eval f X.env) (KF (assign (.Name y B) X.env))) _ _ s;have q:oF Ex X.K H F μ ((xA ext.length it0 g ts cs tk tv R O).bnS λd O1=>.nx (R.set i (KF d)) O1) E:=q;unfold xA at q;refine aa (cy (Eb (QM l r) (use:=KF (assign (.Name y B) X.env)) (Q:=λ_ M=>SP X D E .next M) pQ hi hb (λcells Cn s H j _ _ _=>NB sY cells Cn s H j) hs I e1 c1 ?_) (λ_ M hq=>ai (ai hq)) λ_ _ e=>e);cases S:z_ ext.length it0 g ts cs (Ap tk tv) R O with
 |bad=>rw[S] at q;exact q
 |exc c' O'=>rw[S] at q;exact q
 | ok KB O'=>
  rw[S] at q;rintro L T P nL x c ⟨U,V,rfl,W,hl,dA⟩ M C I' ns nC l1 y1 ce pn;obtain⟨m,hn⟩:=ns;have n1:L∉F:=λm=>c1.ht L m nL;show ao _ _ (assign (.Name y B) X.env (.ref L)) _ _ M;refine ir (Hi (v:=.ref L) I' hN zy (.inl Z) rfl (λym F7 u4=>?_) (.inr Z));obtain⟨a,Bk,ha⟩:=u4;have FN:C≠a:=by
   rcases ha with z|z
   ·rw[z];exact l1
   ·exact λe=>ce y a z e.symm
  refine⟨m,hn.sameBut Bk FN,λh' zt=>?_⟩;obtain⟨o,J⟩:=Inv.frzK (Inv.bare F7 zt nC l1 y1 ce pn) W;have ea:Ea L T P (upd T L (.frz o (.dK ((U.map λp=>kD p.1).zip V)))) P:=.putX (xv W);have c2:=c.putX (o:=.frz o (.dK ((U.map λp=>kD p.1).zip V))) (xv W);have G:=x.ea.trans ea;have x3:Ext H μ (upd T L (.frz o (.dK ((U.map λp=>kD p.1).zip V)))) P:=⟨G.pre,λb u g n ht=>G.kept b u g n (rX g nL) ht,G.fresh,G.there,G.tab⟩;exact⟨_,_,J,q _ _ P x3 ((e1.ext x3).set (SM c2 n1 rq hl (dA.mv ea.mv)) i) c2.unhide⟩
end
end DL
namespace DLC
section
variable{α:Type}[DecidableEq α]
abbrev Held(α:Type):=List (List Nat×List α)
def keys(h:Held α):List (List Nat):=h.map (·.1)
def hold(h:Held α)(x:α):List (List Nat):=(h.filter λkv=>kv.2.contains x).map (·.1)
noncomputable def at_(h:Held α)(t:List Nat):List α:=((h.find? λkv=>decide (kv.1=t)).map (·.2)).getD []
def drop(h:Held α)(t:List Nat):Held α:=h.filter λkv=>decide (kv.1≠t)
noncomputable def minGo(f:α->Nat):List α->α->α
 |[],b=>b
 |x::xs,b=>if f x<f b then minGo f xs x else minGo f xs b
def left(h:Held α)(w:List α)(t:List Nat):List α:=w.filter λx=>!(at_ h t).contains x
def covL(rec:Held α->List α->List (List (List Nat)))(h:Held α)(w:List α):List (List Nat)->Held α->List (List (List Nat))
 |[],_=>[]
 |t::ts,r=>(rec (drop r t) (left h w t)).map (t :: ·)++covL rec h w ts (drop r t)
def cov:Nat->Held α->List α->List (List (List Nat))
 |_,_,[]=>[[]]
 |0,_,_::_=>[]
 |m+1,h,x::w=>covL (cov m) h (x::w) (hold h (minGo (λy=>(hold h y).length) w x)) h
theorem minGo_mem(f:α->Nat):∀(l:List α)(b:α),minGo f l b=b\/minGo f l b∈l
 |[],b=>.inl rfl
 | x::xs,b=>by
  unfold minGo;split
  ·rcases minGo_mem f xs x with h|h
   ·exact .inr (by rw[h];exact ar)
   ·exact .inr (aj _ h)
  ·rcases minGo_mem f xs b with h|h
   ·exact .inl h
   ·exact .inr (aj _ h)
def Cov(h:Held α)(w:List α)(S:List (List Nat)):Prop:=(∀t∈S,t∈keys h)/\∀x∈w,∃t∈S,x∈at_ h t
def mem_drop{h:Held α}{t:List Nat}{kv:List Nat×List α}:kv∈drop h t↔kv∈h/\kv.1≠t:=by unfold drop;simp
def keys_drop{h:Held α}{t s:List Nat}:s∈keys (drop h t)↔s∈keys h/\s≠t:=by
 unfold keys;simp only[az,mem_drop];constructor
 ·rintro⟨a,⟨b,c⟩,rfl⟩;exact⟨⟨a,b,rfl⟩,c⟩
 ·rintro⟨⟨a,b,rfl⟩,c⟩;exact⟨a,⟨b,c⟩,rfl⟩
def nd_drop{h:Held α}{t:List Nat}(n:(keys h).Nodup):(keys (drop h t)).Nodup:=by unfold keys drop at *;exact n.sublist ((gW).map _)
def Qe{h:Held α}{t s:List Nat}(b:s≠t):at_ (drop h t) s=at_ h s:=by
 unfold at_ drop;congr 2
 induction h with
 |nil=>rfl
 | cons kv r ih=>
  by_cases e:kv.1=t
  ·rw[dG (by simpa using e),gj (by simpa using λz=>b (z.symm.trans e)),ih]
  ·rw[dH (by simpa using e)];by_cases a:kv.1=s
   ·rw[iF (by simpa using a),iF (by simpa using a)]
   ·rw[gj (by simpa using a),gj (by simpa using a),ih]
def at_mem{h:Held α}(n:(keys h).Nodup){kv:List Nat×List α}(m:kv∈h):at_ h kv.1=kv.2:=by
 unfold at_
 induction h with
 |nil=>cases m
 | cons a r ih=>
  unfold keys at n;rw[bq,bu] at n;rcases am.mp m with rfl|m
  ·rw[iF 'k'];rfl
  ·have b:a.1≠kv.1:=λz=>n.1 (z▸az.mpr ⟨kv,m,rfl⟩);rw[gj (by simpa using b)];exact ih n.2 m
def mem_hold{h:Held α}(n:(keys h).Nodup){x:α}{t:List Nat}:t∈hold h x↔t∈keys h/\x∈at_ h t:=by
 unfold hold;simp only[az,aM,b9];constructor
 ·rintro⟨b,⟨a,c⟩,rfl⟩;exact⟨az.mpr ⟨b,a,rfl⟩,by rw[at_mem n a];exact c⟩
 ·rintro⟨a,c⟩;obtain⟨b,d,rfl⟩:=az.mp a;exact⟨b,⟨d,by rw[<- at_mem n d];exact c⟩,rfl⟩
def hold_nd{h:Held α}(n:(keys h).Nodup)(x:α):(hold h x).Nodup:=by unfold keys at n;unfold hold;exact n.sublist ((gW).map _)
def pA{h:Held α}{w:List α}{t:List Nat}{x:α}:x∈left h w t↔x∈w/\x∉at_ h t:=by unfold left;simp
theorem cov_sound:∀(m:Nat){h:Held α}{w:List α}{c:List (List Nat)},(keys h).Nodup->c∈cov m h w->c.length<=m/\c.Nodup/\Cov h w c
 | m,h,[],c,n,hc=>by
  have:c=[]:=by unfold cov at hc;simpa using hc
  subst this;exact⟨bE _,io,⟨λ_ z=>(aW z).elim,λ_ z=>(aW z).elim⟩⟩
 |0,h,x::w,c,n,hc=>by unfold cov at hc;cases hc
 | m+1,h,x::w,c,n,hc=>by
  unfold cov at hc;have v:∀(b:List (List Nat))(r:Held α),(∀t∈b,t∈keys h)->(∀a∈r,a∈h)->(keys r).Nodup->c∈covL (cov m) h (x::w) b r->c.length<=m+1/\c.Nodup/\Cov h (x::w) c:=by
   intro b
   induction b with
   |nil=>intro r _ _ _ hc;cases hc
   | cons t b ih=>
    intro r g j k hc;unfold covL at hc;rcases aQ.mp hc with hc|hc
    ·obtain⟨p,A,rfl⟩:=az.mp hc;obtain⟨B,C,q,D⟩:=cov_sound m (nd_drop k) A;have d:∀s∈p,s∈keys h/\s≠t:=λs hs=>by
      obtain⟨l,o⟩:=keys_drop.mp (q s hs);obtain⟨a,i,rfl⟩:=az.mp l;exact⟨az.mpr ⟨a,j a i,rfl⟩,o⟩
     have f:∀s∈p,at_ (drop r t) s=at_ h s:=λs hs=>by
      obtain⟨l,o⟩:=keys_drop.mp (q s hs);rw[Qe o];obtain⟨a,i,rfl⟩:=az.mp l;rw[at_mem k i,at_mem n (j a i)]
     refine⟨by simpa using B,bu.mpr ⟨λz=>(d t z).2 rfl,C⟩,λs hs=>?_,λy E=>?_⟩
     ·rcases am.mp hs with rfl|hs
      ·exact g s ar
      ·exact(d s hs).1
     ·by_cases e:y∈at_ h t
      ·exact⟨t,ar,e⟩
      ·obtain⟨s,u,F⟩:=D y (pA.mpr ⟨E,e⟩);exact⟨s,aj _ u,by rw[<- f s u];exact F⟩
    ·exact ih (drop r t) (λs hs=>g s (aj _ hs)) (λa G=>j a (mem_drop.mp G).1) (nd_drop k) hc
  exact v _ h (λt g=>(mem_hold n).mp g |>.1) (λ_ h=>h) n hc
def cov_some:∀(m:Nat){h:Held α}{w:List α}{S:List (List Nat)},(keys h).Nodup->Cov h w S->S.length<=m->∃c∈cov m h w,∀t∈c,t∈S
 |m,h,[],S,n,hS,hl=>⟨[],by unfold cov;simp,λ_ z=>(aW z).elim⟩
 | 0,h,x::w,S,n,hS,hl=>by
  obtain⟨t,a,_⟩:=hS.2 x ar;have:S=[]:=cG.mp 'd';subst this;cases a
 | m+1,h,x::w,S,n,hS,hl=>by
  unfold cov;generalize u:minGo (λy=>(hold h y).length) w x=y;have H:y∈x::w:=by
   rcases minGo_mem (λy=>(hold h y).length) w x with e|e
   ·rw[<- u,e];exact ar
   ·rw[<- u];exact aj _ e
  obtain⟨s,v,I⟩:=hS.2 y H;have hs:s∈hold h y:=(mem_hold n).mpr ⟨hS.1 s v,I⟩;have J:∀(b:List (List Nat))(r:Held α),(∃t∈b,t∈S)->(∀d∈r,d∈h)->(keys r).Nodup->(∀t∈S,t∈keys r)->b.Nodup->∃c∈covL (cov m) h (x::w) b r,∀t∈c,t∈S:=by
   intro b
   induction b with
   |nil=>rintro r ⟨_,h,_⟩;cases h
   | cons t b ih=>
    intro r g A i f K;unfold covL;by_cases a:t∈S
    ·have L:Cov (drop r t) (left h (x::w) t) (S.filter λs=>decide (s≠t)):=by
      refine⟨λs hs=>?_,λz M=>?_⟩
      ·obtain⟨j,k⟩:=aM.mp hs;exact keys_drop.mpr ⟨f s j,by simpa using k⟩
      ·obtain⟨j,k⟩:=pA.mp M;obtain⟨l,B,C⟩:=hS.2 z j;have D:l≠t:=λe=>k (e▸C);refine⟨l,aM.mpr ⟨B,by simpa using D⟩,?_⟩;rw[Qe D];obtain⟨d,E,rfl⟩:=az.mp (f l B);rw[at_mem i E,<- at_mem n (A d E)];exact C
     have N:(S.filter λs=>decide (s≠t)).length<S.length:=by
      rcases ja (S.filter λs=>decide (s≠t)).length S.length with z|z
      ·exact z
      ·have e:(S.filter λs=>decide (s≠t))=S:=gW.eq_of_length (nG (bg _ _) z);rw[<- e] at a;have:=(aM.mp a).2;simp at this
     obtain⟨c,o,p⟩:=cov_some m (nd_drop i) L 'd';refine⟨t::c,bM _ (az.mpr ⟨c,o,rfl⟩),λs hs=>?_⟩;rcases am.mp hs with rfl|hs
     ·exact a
     ·exact(aM.mp (p s hs)).1
    ·obtain⟨F,q,G⟩:=g;have q:F∈b:=(am.mp q).resolve_left (λe=>a (e▸G));obtain⟨c,o,p⟩:=ih (drop r t) ⟨F,q,G⟩ (λd f=>A d (mem_drop.mp f).1) (nd_drop i) (λs hs=>keys_drop.mpr ⟨f s hs,λe=>a (e▸hs)⟩) (bu.mp K).2;exact⟨c,aA _ o,p⟩
  exact J _ h ⟨s,hs,v⟩ (λ_ h=>h) n hS.1 (hold_nd n y)
end
section
variable{α:Type}[DecidableEq α]
def drop_lt{r:Held α}{t:List Nat}(b:t∈keys r):(drop r t).length<r.length:=by
 obtain⟨a,h,rfl⟩:=az.mp b;rcases ja (drop r a.1).length r.length with z|z
 ·exact z
 ·have e:drop r a.1=r:=gW.eq_of_length (nG (bg _ _) z);rw[<- e] at h;exact absurd rfl (mem_drop.mp h).2
theorem Rp(a:∀r w,(keys r).Nodup->(rec r w).length<=2 ^ r.length):∀(ts:List (List Nat))(r:Held α),(∀t∈ts,t∈keys r)->ts.Nodup->(keys r).Nodup->(covL rec h w ts r).length<=2 ^ r.length
 |[],r,_,_,_=>bE _
 | t::ts,r,hk,nt,nr=>by
  unfold covL;rw[aw,au];have d:=a (drop r t) (left h w t) (nd_drop nr);have f:=Rp (h:=h) (w:=w) a ts (drop r t) (λs b=>keys_drop.mpr ⟨hk s (aj _ b),λe=>(bu.mp nt).1 (e▸b)⟩) (bu.mp nt).2 (nd_drop nr);have c:2 ^ ((drop r t).length+1)<=2 ^ r.length:=c8 'd' (drop_lt (hk t ar));rw[kw] at c;lia
theorem cov_pow:∀(m:Nat)(h:Held α)(w:List α),(keys h).Nodup->(cov m h w).length<=2 ^ h.length
 |m,h,[],_=>by unfold cov;exact jE
 |0,h,x::w,_=>by unfold cov;exact bE _
 | m+1,h,x::w,n=>by
  unfold cov;exact Rp (cov_pow m) _ h (λt a=>((mem_hold n).mp a).1) (hold_nd n _) n
theorem perm_of_sub:∀{c S:List (List Nat)},c.Nodup->(∀t∈c,t∈S)->S.length<=c.length->c.Perm S
 | [],S,_,_,h=>by
  have:S=[]:=cG.mp (Nat.le_zero.mp h);rw[this]
 | a::c,S,n,hs,h=>by
  have b:=hs a ar;have d:=bu.mp n;have:=perm_of_sub (S:=S.erase a) d.2 (λt f=>(lQ (λe:t=a=>d.1 (e▸f))).mpr (hs t (aj _ f))) (by
   rw[kz b];rw[aV] at h;lia)
  exact(this.cons a).trans (List.perm_cons_erase b).symm
structure Lm(h:Held α)(w:List α)(m:Nat):Prop where
 nd:(keys h).Nodup
 ne:cov m h w≠[]
 no:∀j,j<m->cov j h w=[]
def Lm.le{h:Held α}{w:List α}{m:Nat}(z:Lm h w m){S:List (List Nat)}(b:Cov h w S):m<=S.length:=by
 rcases ja S.length m with g|g
 ·obtain⟨c,a,_⟩:=cov_some S.length z.nd b (aC _);rw[z.no _ g] at a;cases a
 ·exact g
def Lm.len{h:Held α}{w:List α}{m:Nat}(z:Lm h w m){c:List (List Nat)}(a:c∈cov m h w):c.length=m:=by obtain⟨d,_,b⟩:=cov_sound m z.nd a;have:=z.le b;lia
def Lm.all{h:Held α}{w:List α}{m:Nat}(z:Lm h w m){S:List (List Nat)}(d:Cov h w S)(b:S.length=m):∃c∈cov m h w,c.Perm S:=by obtain⟨c,a,e⟩:=cov_some m z.nd d (h9 b);exact⟨c,a,perm_of_sub (cov_sound m z.nd a).2.1 e (by rw[z.len a,b];exact aC _)⟩
end
end DLC
namespace DLB
def mkN(p:Nat->Bool):Nat->Nat
 |0=>0
 |N+1=>mkN p N+(if p N=qb then 2 ^ N else 0)
theorem Jx(p:Nat->Bool):∀N,mkN p N<2 ^ N
 |0=>Nat.one_pos
 | N+1=>by
  have:=Jx p N;unfold mkN;rw[kw];split<;>lia
theorem GV(p:Nat->Bool)(i:Nat):∀N,(mkN p N).testBit i=(decide (i<N)&&p i)
 |0=>by unfold mkN;simp
 | N+1=>by
  have b:=GV p i N;have c:=Jx p N;unfold mkN;rcases Nat.lt_trichotomy i N with h|h|h
  ·have e:decide (i<N+1)=qb:=by simp;lia
   rw[decide_eq_true h] at b;rw[e];split
   ·rw[kh,Nat.testBit_two_pow_add_gt h];exact b
   ·exact b
  ·subst h;have z:=kX c;by_cases a:p i=qb
   ·rw[qq a,kh,Nat.testBit_two_pow_add_eq,z,a];simp
   ·rw[qM a,km,z];simp[a]
  ·have e:decide (i<N+1)=qh:=by simp;lia
   rw[e,kZ];have d:mkN p N+(if p N=qb then 2 ^ N else 0)<2 ^ (N+1):=Jx p (N+1);exact kX (bb d (c8 'u' h))
def orM{α:Type}(g:α->Nat)(l:List α):Nat:=l.foldl (λa t=>a ||| g t) 0
theorem OT{α:Type}(g:α->Nat)(i:Nat):∀(l:List α)(a:Nat),(l.foldl (λa t=>a ||| g t) a).testBit i=(a.testBit i||l.any λt=>(g t).testBit i)
 |[],a=>by simp
 |t::l,a=>by rw[fD,OT g i l,Nat.testBit_or,f7,Bool.or_assoc]
def PN{α:Type}(g:α->Nat)(l:List α)(i:Nat):(orM g l).testBit i=l.any λt=>(g t).testBit i:=by unfold orM;rw[OT,Nat.zero_testBit,iH]
def orM_app{α:Type}(g:α->Nat)(l:List α)(t:α):orM g (l++[t])=orM g l ||| g t:=by unfold orM;rw[jZ];rfl
def full_iff{α:Type}{p:α->Nat->Bool}{N:Nat}(l:List α):orM (λt=>mkN (p t) N) l=2 ^ N-1 ↔ ∀i,i<N->∃t∈l,p t i=qb:=by
 constructor
 ·intro h i a;have:(orM (λt=>mkN (p t) N) l).testBit i=(2 ^ N-1).testBit i:=by rw[h]
  rw[PN,jF,decide_eq_true a] at this;obtain⟨t,b,q⟩:=cf.mp this;rw[GV,aR] at q;exact⟨t,b,q.2⟩
 ·intro h;refine Nat.eq_of_testBit_eq λi=>?_;rw[PN,jF];by_cases a:i<N
  ·rw[decide_eq_true a];obtain⟨t,b,q⟩:=h i a;exact cf.mpr ⟨t,b,by rw[GV,q,decide_eq_true a];rfl⟩
  ·rw[decide_eq_false a,gq];intro t _;rw[GV,decide_eq_false a];simp
theorem sum_mkN(p:Nat->Bool):∀N,(((aO N).filter p).map λi=>((2 ^ i:Nat):Int)).sum=(mkN p N:Nat)
 |0=>rfl
 | N+1=>by
  rw[kN,jG,bA,nH,sum_mkN p N];have e:mkN p (N+1)=mkN p N+(if p N=qb then 2 ^ N else 0):=rfl;rw[e,dW,nJ];by_cases h:p N=qb
  ·rw[qq h,qq h];simp
  ·rw[qM h,qM h];simp
noncomputable def nxt(r:List Nat):Nat:=match r.getLast? with
 |some k=>k+1
 |none=>0
def ext(many:Nat)(r:List Nat):List (List Nat):=(aO (many-nxt r)).map λi=>r++[nxt r+i]
def pks(many:Nat):Nat->List (List Nat)
 |0=>[[]]
 |s+1=>(pks many s).flatMap (ext many)
def nxt_app(r:List Nat)(k:Nat):nxt (r++[k])=k+1:=by unfold nxt;rw[List.getLast?_concat]
def W3{r:List Nat}(h:r.Pairwise (· < ·)){k:Nat}(a:k∈r):k<nxt r:=by
 rcases fE r with rfl|⟨b,z,rfl⟩
 ·cases a
 ·rw[fF] at h a ⊢;rw[nxt_app];rcases aQ.mp a with q|q
  ·have:=(bG.mp h).2.2 k q z 'k';lia
  ·have:k=z:=by simpa using q
   lia
theorem mem_pks{a:Nat}:∀{s:Nat}{r:List Nat},r∈pks a s↔r.length=s/\r.Pairwise (· < ·)/\∀k∈r,k<a
 | 0,r=>by
  unfold pks;constructor
  ·intro h;have:r=[]:=by simpa using h
   subst this;exact⟨rfl,d8,λ_ h=>(aW h).elim⟩
  ·rintro⟨h,_⟩;rw[cG.mp h];simp
 | s+1,r=>by
  unfold pks;rw[eD];constructor
  ·rintro⟨c,n,j⟩;obtain⟨d,e,f⟩:=mem_pks.mp n;unfold ext at j;obtain⟨i,l,rfl⟩:=az.mp j;have l:=bd.mp l;refine⟨by rw[aw,d];rfl,bG.mpr ⟨e,by simp,λk g z m=>?_⟩,λk g=>?_⟩
   ·have:z=nxt c+i:=by simpa using m
    have:=W3 e g;lia
   ·rcases aQ.mp g with q|q
    ·exact f k q
    ·have:k=nxt c+i:=by simpa using q
     lia
  ·rintro⟨d,e,f⟩;rcases fE r with rfl|⟨c,z,rfl⟩
   ·cases d
   ·rw[fF] at d e f ⊢;have b:=bG.mp e;have m:nxt c<=z:=by
     rcases fE c with rfl|⟨o,y,rfl⟩
     ·exact bE _
     ·rw[fF,nxt_app];exact b.2.2 y 'k' z 'k'
    have p:=f z 'k';refine⟨c,mem_pks.mpr ⟨by rw[aw] at d;simpa using d,b.1,λk g=>f k (bM _ g)⟩,?_⟩;unfold ext;exact az.mpr ⟨z-nxt c,bd.mpr 'd',by congr 2;lia⟩
def uc(many:Nat)(l:List (List Nat)):Nat:=(l.map λr=>2 ^ (many-nxt r)).sum
def Qb(c:Nat)(a b:List (List Nat)):uc c (a++b)=uc c a+uc c b:=by unfold uc;rw[bA,nH]
def Zo(a:Nat)(r:List Nat):uc a (ext a r)<=2 ^ (a-nxt r):=by
 have b:∀(d k j:Nat),k+j=d->uc a ((aO k).map λi=>r++[a-d+i])<=2 ^ d-2 ^ j\/a<d:=by
  intro d k
  induction k with
  |zero=>intro j h;left;simp[uc]
  | succ k ih=>
   intro j h;rcases ih (j+1) 'd' with q|q
   ·rcases ja a d with z|z
    ·exact .inr z
    ·left;rw[kN,bA,Qb];have e:uc a (on (λi=>r++[a-d+i]) [k])=2 ^ j:=by
      unfold uc;simp only[bq,gz,iK,List.sum_nil,km,nxt_app];congr 1;lia
     rw[e];have c:2 ^ (j+1)<=2 ^ d:=c8 'u' 'd';rw[kw] at c q;lia
   ·exact .inr q
 unfold ext;rcases ja a (nxt r) with z|z
 ·have:a-nxt r=0:=by lia
  rw[this];simp[uc]
 ·rcases b (a-nxt r) (a-nxt r) 0 'd' with q|q
  ·have e:a-(a-nxt r)=nxt r:=by lia
   rw[e] at q;exact aI q (Nat.sub_le _ _)
  ·lia
theorem RH(a:Nat):∀l:List (List Nat),uc a (l.flatMap (ext a))<=uc a l
 |[]=>aC _
 | r::l=>by
  rw[cg,Qb];have b:=Zo a r;have c:=RH a l;have e:uc a (r::l)=2 ^ (a-nxt r)+uc a l:=by
   unfold uc;rw[bq,iK]
  lia
theorem PZ(a:Nat):∀s,uc a (pks a s)<=2 ^ a
 | 0=>by
  unfold pks uc;simp[nxt]
 |s+1=>aI (RH a _) (PZ a s)
theorem Qz(a:Nat):∀l:List (List Nat),l.length<=uc a l
 |[]=>aC _
 | r::l=>by
  have:=Qz a l;have e:uc a (r::l)=2 ^ (a-nxt r)+uc a l:=by
   unfold uc;rw[bq,iK]
  have:=jE (n:=a-nxt r);rw[aV];lia
def pks_few(a s:Nat):(pks a s).length<=2 ^ a:=aI (Qz a _) (PZ a s)
end DLB
namespace DL
open PySem L2
def Gh:List Str->Bool
 |[]=>qb
 |x::l=>!(l.contains x)&&Gh l
theorem uz:∀{l:List Str},Gh l=qb->l.Nodup
 |[],_=>io
 | x::l,h=>by
  unfold Gh at h;rw[aR,eR] at h;refine bu.mpr ⟨λm=>?_,uz h.2⟩;rw[b9.mpr m] at h;exact Bool.noConfusion h.1
noncomputable def IZ:Option dq->Bool
 |some .local=>qb
 |some .cell=>qb
 |_=>qh
def zhW(h:IZ o=qb):o=KF .local\/o=KF .cell:=by
 unfold IZ at h;split at h
 ·exact .inl rfl
 ·exact .inr rfl
 ·cases h
def kNf:dq->Bool
 |.free=>qh
 |_=>qb
def UD(N P:List Str)(sc:cT):Bool:=Gh N&&(N.take P.length==P)&&P.all (λx=>IZ (sc.names.lookup x))&&sc.names.all (λy=>kNf y.2)
def fnS(f:sc.kind=.function)(g:sc.isCoroutine=qh)(i:sc.isGenerator=qh)(h:UD N P sc=qb):qt N P sc:=by unfold UD at h;simp only[aR] at h;obtain⟨⟨⟨a,b⟩,c⟩,d⟩:=h;refine⟨f,g,i,uz a,eq_of_beq b,λx j=>zhW (av.mp c x j),λy k e=>?_⟩;have:=av.mp d y k;rw[e] at this;cases this
end DL
namespace DL
open PySem
noncomputable def pl:Nat->D->Bool
 |n,.non=>qb
 |n,.int _=>qb
 |n,.str cs=>cs.all (· < 1114112)
 |n+1,.lst ds=>ds.all (pl n)
 |n+1,.tup ds=>ds.all (pl n)
 |_,_=>qh
theorem Hg{α a:Type}{f:α->Option a}:∀{l:List α},(∀x∈l,∃y,f x=KF y)->∃m,qd f l=KF m
 |[],_=>⟨[],rfl⟩
 | x::l,h=>by
  obtain⟨y,b⟩:=h x ar;obtain⟨m,c⟩:=Hg (l:=l) λz d=>h z (aj _ d);exact⟨y::m,by unfold qd;rw[b,c]⟩
def G2(O:Ow):∀(n:Nat)(d:D),pl n d=qb->∃p,qz O n d=KF p:=by
 intro n
 induction n with
 | zero=>
  intro d h;cases d with
  |non=>exact⟨_,rfl⟩
  |int i=>exact⟨_,rfl⟩
  | str cs=>
   refine⟨.str ⟨cs.toArray⟩,?_⟩;show wV cs=_;unfold wV;rw[qq (by simpa [pl] using h)]
  |_=>simp[pl] at h
 | succ n ih=>
  intro d h;cases d with
  |non=>exact⟨_,rfl⟩
  |int i=>exact⟨_,rfl⟩
  | str cs=>
   refine⟨.str ⟨cs.toArray⟩,?_⟩;show wV cs=_;unfold wV;rw[qq (by simpa [pl] using h)]
  | lst ds=>
   have h:ds.all (pl n)=qb:=h;obtain⟨m,a⟩:=Hg (f:=qz O n) (l:=ds) λx b=>ih x (av.mp h x b);exact⟨.list m,by show(qd (qz O n) ds).map eE=_;rw[a];rfl⟩
  | tup ds=>
   have h:ds.all (pl n)=qb:=h;obtain⟨m,a⟩:=Hg (f:=qz O n) (l:=ds) λx b=>ih x (av.mp h x b);exact⟨.tuple m,by show(qd (qz O n) ds).map hW=_;rw[a];rfl⟩
  |_=>simp[pl] at h
theorem Ss{f:D->Option d7}(R:∀x y p q,f x=KF p->f y=KF q->pl 0 x=pl 0 x->True){P:D->Prop}(e:∀x y p q,P x->P y->f x=KF p->f y=KF q->(bj p q=qb↔x=y)):
  ∀(xs a:List D)(b c:List d7),(∀x∈xs,P x)->(∀y∈a,P y)->qd f xs=KF b->qd f a=KF c->(fM b c=qb↔xs=a)
 |[],[],b,c,_,_,e1,e2=>by cases e1;cases e2;simp[fM]
 | [],y::a,b,c,_,_,e1,e2=>by
  cases e1;unfold qd at e2;split at e2
  ·cases e2;simp[fM]
  ·cases e2
 | x::xs,[],b,c,_,_,e1,e2=>by
  cases e2;unfold qd at e1;split at e1
  ·cases e1;simp[fM]
  ·cases e1
 | x::xs,y::a,b,c,h1,h2,e1,e2=>by
  unfold qd at e1 e2;split at e1
  ·rename_i p g i j;cases e1;split at e2
   ·rename_i q h k l;cases e2;have m:=e x y p q (h1 x ar) (h2 y ar) i k;have n:=Ss R e xs a g h (λz d=>h1 z (aj _ d)) (λz d=>h2 z (aj _ d)) j l;show(bj p q&&fM g h)=qb↔_;rw[aR,m,n,List.cons.injEq]
   ·cases e2
  ·cases e1
def yi(h:wV cs=KF p):p=.str ⟨cs.toArray⟩:=by
 unfold wV at h;split at h
 ·cases h;rfl
 ·cases h
def QE(a b:List Nat):bj (.str ⟨a.toArray⟩) (.str ⟨b.toArray⟩)=qb↔D.str a=D.str b:=by
 show((⟨a.toArray⟩:Str)==⟨b.toArray⟩)=qb↔_;rw[beq_iff_eq];constructor
 ·intro h;have h:a.toArray=b.toArray:=by injection h
  rw[show a=b by simpa using congrArg md h]
 ·intro h;injection h with h;rw[h]
def OQ(O:Ow):∀(n:Nat)(x y:D)(p q:d7),pl n x=qb->pl n y=qb->qz O n x=KF p->qz O n y=KF q->(bj p q=qb↔x=y):=by
 intro n
 induction n with
 | zero=>
  intro x y p q v l m f;cases x with
  | non=>cases m;cases y with
   |non=>cases f;simp[bj]
   |int j=>cases f;simp[bj]
   |str b=>have:=yi f;subst this;simp[bj]
   |_=>simp[pl] at l
  | int i=>cases m;cases y with
   |non=>cases f;simp[bj]
   |int j=>cases f;simp[bj]
   |str b=>have:=yi f;subst this;simp[bj]
   |_=>simp[pl] at l
  | str a=>have:=yi m;subst this;cases y with
   |non=>cases f;simp[bj]
   |int j=>cases f;simp[bj]
   |str b=>have:=yi f;subst this;exact QE a b
   |_=>simp[pl] at l
  |_=>simp[pl] at v
 | succ n ih=>
  have w:∀s k g r,(s.all (pl n))=qb->(k.all (pl n))=qb->qd (qz O n) s=KF g->qd (qz O n) k=KF r->(fM g r=qb↔s=k):=λs k g r z A m f=>
   Ss (λ_ _ _ _ _ _ _=>trivial) (P:=λd=>pl n d=qb) (λx y p q a b c d=>ih x y p q a b c d) s k g r (av.mp z) (av.mp A) m f
  have t:∀{o:List D}{p},qz O (n+1) (.lst o)=KF p->∃g,qd (qz O n) o=KF g/\p=.list g:=λ{o p}e=>by
   have e:(qd (qz O n) o).map eE=KF p:=e;cases h:qd (qz O n) o with
   |none=>rw[h] at e;cases e
   |some g=>rw[h] at e;cases e;exact⟨g,rfl,rfl⟩
  have u:∀{o:List D}{p},qz O (n+1) (.tup o)=KF p->∃g,qd (qz O n) o=KF g/\p=.tuple g:=λ{o p}e=>by
   have e:(qd (qz O n) o).map hW=KF p:=e;cases h:qd (qz O n) o with
   |none=>rw[h] at e;cases e
   |some g=>rw[h] at e;cases e;exact⟨g,rfl,rfl⟩
  intro x y p q v l m f;cases x with
  | non=>cases m;cases y with
   |non=>cases f;simp[bj]
   |int j=>cases f;simp[bj]
   |str b=>have:=yi f;subst this;simp[bj]
   |lst k=>obtain⟨_,_,rfl⟩:=t f;simp[bj]
   |tup k=>obtain⟨_,_,rfl⟩:=u f;simp[bj]
   |_=>simp[pl] at l
  | int i=>cases m;cases y with
   |non=>cases f;simp[bj]
   |int j=>cases f;simp[bj]
   |str b=>have:=yi f;subst this;simp[bj]
   |lst k=>obtain⟨_,_,rfl⟩:=t f;simp[bj]
   |tup k=>obtain⟨_,_,rfl⟩:=u f;simp[bj]
   |_=>simp[pl] at l
  | str a=>have:=yi m;subst this;cases y with
   |non=>cases f;simp[bj]
   |int j=>cases f;simp[bj]
   |str b=>have:=yi f;subst this;exact QE a b
   |lst k=>obtain⟨_,_,rfl⟩:=t f;simp[bj]
   |tup k=>obtain⟨_,_,rfl⟩:=u f;simp[bj]
   |_=>simp[pl] at l
  | lst s=>obtain⟨g,z,rfl⟩:=t m;cases y with
   |non=>cases f;simp[bj]
   |int j=>cases f;simp[bj]
   |str b=>have:=yi f;subst this;simp[bj]
   | lst k=>
    obtain⟨r,A,rfl⟩:=t f;show fM g r=qb↔_;rw[w s k g r v l z A,D.lst.injEq]
   |tup k=>obtain⟨_,_,rfl⟩:=u f;simp[bj]
   |_=>simp[pl] at l
  | tup s=>obtain⟨g,z,rfl⟩:=u m;cases y with
   |non=>cases f;simp[bj]
   |int j=>cases f;simp[bj]
   |str b=>have:=yi f;subst this;simp[bj]
   |lst k=>obtain⟨_,_,rfl⟩:=t f;simp[bj]
   | tup k=>
    obtain⟨r,A,rfl⟩:=u f;show fM g r=qb↔_;rw[w s k g r v l z A,D.tup.injEq]
   |_=>simp[pl] at l
  |_=>simp[pl] at v
def Gv(O:Ow)(a:pl 8 x=qb)(c:pl 8 y=qb)(f:b=qb↔x=y):pP qW O x y=.ok (.bl b) O/\pP qN O x y=.ok (.bl !b) O:=by obtain⟨p,d⟩:=G2 O 8 x a;obtain⟨q,e⟩:=G2 O 8 y c;have h:=OQ O 8 x y p q a c d e;have:bj p q=b:=dS.mpr (h.trans f.symm);unfold pP py;rw[d,e];subst this;exact⟨rfl,rfl⟩
theorem Q0(b:pl n x=qb)(c:qz O n x=KF p):∀(l:List D)(a:List d7),(l.all (pl n))=qb->qd (qz O n) l=KF a->((a.any λy=>bj y p)=qb↔x∈l)
 |[],a,_,e=>by cases e;simp
 | y::l,a,h,e=>by
  unfold qd at e;split at e
  ·rename_i q d f g;cases e;rw[iM,aR] at h;rw[f7,eM,OQ O n y x q p h.1 b f c,Q0 b c l d h.2 g,am];exact⟨λz=>z.imp Eq.symm id,λz=>z.imp Eq.symm id⟩
  ·cases e
def zeP(O:Ow):∀(n:Nat)(d:D)(p:d7),pl n d=qb->qz O n d=KF p->qz O (n+1) d=KF p:=by
 intro n
 induction n with
 |zero=>intro d p h e;cases d<;>first|exact e|(simp[pl] at h)
 | succ n ih=>
  have f:∀(a:List D)b,(a.all (pl n))=qb->qd (qz O n) a=KF b->qd (qz O (n+1)) a=KF b:=by
   intro a
   induction a with
   |nil=>intro b _ e;exact e
   | cons x a ihd=>
    intro b h e;rw[iM,aR] at h;unfold qd at e ⊢;split at e
    ·rename_i q g j k;rw[ih x q h.1 j,ihd g h.2 k];exact e
    ·cases e
  intro d p h e;cases d with
  | lst a=>
   have e:(qd (qz O n) a).map eE=KF p:=e;show(qd (qz O (n+1)) a).map eE=KF p;cases c:qd (qz O n) a with
   |none=>rw[c] at e;cases e
   |some b=>rw[c] at e;rw[f a b h c];exact e
  | tup a=>
   have e:(qd (qz O n) a).map hW=KF p:=e;show(qd (qz O (n+1)) a).map hW=KF p;cases c:qd (qz O n) a with
   |none=>rw[c] at e;cases e
   |some b=>rw[c] at e;rw[f a b h c];exact e
  |non=>exact e
  |int i=>exact e
  |str cs=>exact e
  |_=>simp[pl] at h
def Jr(O:Ow){x y:D}{l:List D}(n:pl 7 x=qb)(o:l.all (pl 7)=qb)(a:rD O y=KF l\/y=.tup l){b:Bool}(r:b=qb↔x∈l):wC O x y=.ok (.bl b) O/\wa O x y=.ok (.bl !b) O:=by
 obtain⟨p,q⟩:=G2 O 7 x n;obtain⟨d,g⟩:=Hg (f:=qz O 7) (l:=l) λz s=>G2 O 7 z (av.mp o z s);have h:=Q0 n q l d o g;have e:(d.any λz=>bj z p)=b:=dS.mpr (h.trans r.symm);have i:py O x=KF p:=zeP O 7 x p n q;rcases a with a|rfl
 ·have c:py O y=KF (.list d):=by
   cases y with
   |lst ds=>cases a;show(qd (qz O 7) l).map eE=_;rw[g];rfl
   | own k=>
    have a:O[k]?=KF l:=a;show(match O[k]? with|some ds=>(qd (qz O 7) ds).map eE|none=>KM)=_;rw[a];dsimp only;rw[g];rfl
   |_=>cases a
  have j:pP Ah O x y=.ok (.bl b) O:=by unfold pP;rw[i,c];subst e;rfl
  have m:pP BO O x y=.ok (.bl !b) O:=by unfold pP;rw[i,c];subst e;rfl
  cases y with
  |lst ds=>exact⟨j,m⟩
  |own k=>exact⟨j,m⟩
  |_=>cases a
 ·have c:py O (.tup l)=KF (.tuple d):=by show(qd (qz O 7) l).map hW=_;rw[g];rfl
  have j:pP Ah O x (.tup l)=.ok (.bl b) O:=by unfold pP;rw[i,c];subst e;rfl
  have m:pP BO O x (.tup l)=.ok (.bl !b) O:=by unfold pP;rw[i,c];subst e;rfl
  exact⟨j,m⟩
def Qj(c:t σ O=.ok (.bl a) O)(d:a=qb->u σ O=.ok (.bl b) O):wN t u σ O=.ok (.bl (a&&b)) O:=by
 show((t σ O).bnd _)=_;rw[c];cases a with
 |true=>exact d rfl
 |false=>rfl
def Kk(c:t σ O=.ok a O)(d:a=qb->u σ O=.ok b O):tM t u σ O=.ok (a&&b) O:=by
 show((t σ O).bnd _)=_;rw[c];cases a with
 |true=>exact d rfl
 |false=>rfl
def PJ(c:t σ O=.ok a O)(d:a=qh->u σ O=.ok b O):wW t u σ O=.ok (a||b) O:=by
 show((t σ O).bnd _)=_;rw[c];cases a with
 |false=>exact d rfl
 |true=>rfl
def zT(O:Ow)(a:x.all (pl 7)=qb)(c:y.all (pl 7)=qb)(d:b=qb↔x=y):pP qW O (.lst x) (.lst y)=.ok (.bl b) O/\pP qN O (.lst x) (.lst y)=.ok (.bl !b) O:=
 Gv O (x:=.lst x) (y:=.lst y) a c (d.trans (by rw[D.lst.injEq]))
def D0(n:Nat)(l:List Nat):(l.map λ(p:Nat)=>D.int (p:Int)).all (pl n)=qb:=av.mpr λd a=>by
 obtain⟨p,_,rfl⟩:=az.mp a;cases n<;>rfl
section
variable{σ:Sg}{O O1 O2:Ow}{t u:DE}{d a:DS}{x y:D}{r:RS}{i:Nat}{c:DT}{tA:DA}{ds:List D}
def rY(h:t σ O=.ok x O1)(b:d (σ.set i (KF x)) O1=r):l_ (pS i t) d σ O=r:=by rw[sv (xC h)];exact b
def vP(h:a σ O=.nx σ' O1)(b:d σ' O1=r):l_ a d σ O=r:=by rw[sv h];exact b
def QD(h:t σ O=.ok x O1)(b:d σ O1=r):l_ (rL t) d σ O=r:=by rw[sv (Hb h)];exact b
def w6(h:c σ O=.ok qh O1)(b:d σ O1=r):l_ (qm c a' qo) d σ O=r:=by rw[sv (σ':=σ) (O1:=O1) (by rw[tO h];rfl)];exact b
def DM(h:c σ O=.ok qb O1)(b:a' σ O1=.rt x O2):l_ (qm c a' e) d σ O=.rt x O2:=Cm (by rw[tO h,qq rfl];exact b)
def uk(h:d σ O=.rt x O1):fin (d σ O)=.ok x O1:=by rw[h];rfl
def Ci(h:t σ O=.ok x O1):fin (pR t σ O)=.ok x O1:=by rw[rW h];rfl
def qr(b:t σ O=.ok x O1)(e:u σ O1=.ok y O2)(g:f O2 x y=z):e_ f t u σ O=z:=by rw[qY b e];exact g
def sH(b:tA σ O=.ok ds O1)(e:f O1 ds=z):m_ f tA σ O=z:=by rw[vQ b];exact e
def qw(b:tA σ O=.ok ds O1)(e:F ds O1=z)(f:ds.length=n:=by rfl):j_ n F tA σ O=z:=by rw[uN b f];exact e
end
end DL
set_option maxHeartbeats 400000
namespace K87
open PySem L2 DL
def top(i:Nat):eI:=cD.main.body.getD i (.Pass ⟨0,0,0,0⟩)
def wj:List (Int×Int):=[(2,1),(4,2),(8,3),(16,4)]
def pd:List Int:=[1,2,4,8]
structure Txt(K:ah)(mg:Str->Option ab):Prop where
 d_is_whole:qF K mg "is_whole" (top 4)
 d_is_whole_within:qF K mg "is_whole_within" (top 5)
 d_is_answer:qF K mg "is_answer" (top 8)
 d_is_function:qF K mg "is_function" (top 9)
 d_need_function:qF K mg "need_function" (top 10)
 d_switches_of:qF K mg "switches_of" (top 11)
 d_points_with:qF K mg "points_with" (top 12)
 d_all_terms:qF K mg "all_terms" (top 15)
 d_bits_of:qF K mg "bits_of" (top 16)
 d_points_of:qF K mg "points_of" (top 17)
 d_with_sign:qF K mg "with_sign" (top 18)
 d_signs_in:qF K mg "signs_in" (top 19)
 d_holds_no_nought:qF K mg "holds_no_nought" (top 21)
 d_holds_a_one:qF K mg "holds_a_one" (top 22)
 d_good_terms:qF K mg "good_terms" (top 23)
 d_can_widen_at:qF K mg "can_widen_at" (top 24)
 d_is_widest:qF K mg "is_widest" (top 25)
 d_greatest:qF K mg "greatest" (top 26)
 d_signs_of:qF K mg "signs_of" (top 28)
 d_holders_in:qF K mg "holders_in" (top 29)
 d_covers:qF K mg "covers" (top 30)
 d_least_covers:qF K mg "least_covers" (top 31)
 d_steps:qF K mg "steps" (top 34)
 d_kept_by:qF K mg "kept_by" (top 35)
 d_least_keepers:qF K mg "least_keepers" (top 36)
 d_least_smooth:qF K mg "least_smooth" (top 37)
 d__law_cell_at:qF K mg "_law_cell_at" (top 39)
 d__law_state:qF K mg "_law_state" (top 40)
 d__law_take:qF K mg "_law_take" (top 41)
 d__law_function:qF K mg "_law_function" (top 42)
 d__law_is_term:qF K mg "_law_is_term" (top 43)
 d__law_are_terms:qF K mg "_law_are_terms" (top 44)
 d__law_switches:qF K mg "_law_switches" (top 45)
 d__law_holds:qF K mg "_law_holds" (top 46)
 d__law_good:qF K mg "_law_good" (top 47)
 d__law_ones:qF K mg "_law_ones" (top 48)
 d__law_is_form:qF K mg "_law_is_form" (top 49)
 d__law_steps:qF K mg "_law_steps" (top 50)
 d__law_gaps:qF K mg "_law_gaps" (top 51)
 d__law_signs:qF K mg "_law_signs" (top 52)
 d__law_smooth_mask:qF K mg "_law_smooth_mask" (top 53)
 d__law_picks:qF K mg "_law_picks" (top 54)
 d__law_smooth_cost:qF K mg "_law_smooth_cost" (top 55)
 d__law_terms:qF K mg "_law_terms" (top 56)
 d__law_lies_in:qF K mg "_law_lies_in" (top 57)
 d__law_greatest:qF K mg "_law_greatest" (top 58)
 d__law_same:qF K mg "_law_same" (top 59)
 d_law:qF K mg "law" (top 60)
 b_all:mg "all" = KM
 b_any:mg "any" = KM
 b_bool:mg "bool" = KM
 b_dict:mg "dict" = KM
 b_enumerate:mg "enumerate" = KM
 b_int:mg "int" = KM
 b_isinstance:mg "isinstance" = KM
 b_len:mg "len" = KM
 b_list:mg "list" = KM
 b_max:mg "max" = KM
 b_min:mg "min" = KM
 b_range:mg "range" = KM
 b_set:mg "set" = KM
 b_sorted:mg "sorted" = KM
 b_str:mg "str" = KM
 b_sum:mg "sum" = KM
 b_tuple:mg "tuple" = KM
 b_zip:mg "zip" = KM
 c_SIGNS:IQ mg "SIGNS" [45,48,49]
 z00:Ay K mg "SWITCHES_BY_POINTS" wj
 u_WORTHS:IW K mg "WORTHS" pd
section
variable{P:aP}{w:aY}{K:ah}{mg:Str->Option ab}{base:aX}
set_option hygiene false
local macro_rules|`(tactic| exists $t)=>`(tactic| with_reducible show PD _ _ _ $t)
local macro_rules|`(tactic| walk_at "u")=>`(tactic| first|exact λ_ _ _ _ _ _ us hl=>(match us,hl with|[_],_=>rfl)|exact λ_ _ _ _ _ _ us hl=>(match us,hl with|[_,_],_=>rfl)|exact λ_ _ _ _ _ _ us hl=>(match us,hl with|[_,_,_],_=>rfl)|exact λ_ _ _ _ _ _ us hl=>(match us,hl with|[],_=>rfl))
local macro_rules|`(tactic| walk_at "z")=>`(tactic| exact fnS rfl rfl rfl (by kernel_rfl))
local macro_rules|`(tactic| walk_at "v")=>`(tactic| first|exact .inl rfl|exact .inr (.inl rfl)|exact .inr (.inr rfl))
local macro_rules|`(tactic| walk_at "l")=>`(tactic| first|exact .inl rfl|exact .inr rfl)
local macro_rules|`(tactic| walk_at "le")=>`(tactic| first|decide|exact aC _|lia)
local macro_rules|`(tactic| walk_at "fx")=>`(tactic| first|refine Xb h hr (by walk_at "le") rfl ?_<;>walk_at "a")
local macro_rules|`(tactic| walk_at "f")=>`(tactic| first|((exists (j_ _ KZ _));have h:=@zai P w K mg base T;walk_at "fx")|((exists (j_ _ EA _));have h:=@z6u P w K mg base T;walk_at "fx")|((exists (j_ _ AZ _));have h:=@z6w P w K mg base T;walk_at "fx")|((exists (j_ _ yX _));have h:=@z8E P w K mg base T;walk_at "fx")|((exists (j_ _ KR _));have h:=@zbI P w K mg base T;walk_at "fx")|((exists (j_ _ Ek _));have h:=@z8I P w K mg base T;walk_at "fx")|((exists (j_ _ CA _));have h:=@z9Q P w K mg base T;walk_at "fx")|((exists (j_ _ yY _));have h:=@z7q P w K mg base T;walk_at "fx")|((exists (j_ _ Er _));have h:=@z5z P w K mg base T;walk_at "fx")|((exists (j_ _ vB _));have h:=@z9e P w K mg base T;walk_at "fx")|((exists (j_ _ CL _));have h:=@z5W P w K mg base T;walk_at "fx")|((exists (j_ _ CO _));have h:=@z4Y P w K mg base T;walk_at "fx")|((exists (j_ _ tQ _));have h:=@z7b P w K mg base T;walk_at "fx")|((exists (j_ _ vV _));have h:=@z8P P w K mg base T;walk_at "fx")|((exists (j_ _ AR _));have h:=@z7D P w K mg base T;walk_at "fx")|((exists (j_ _ AV _));have h:=@z7v P w K mg base T;walk_at "fx")|((exists (j_ _ HF _));have h:=@z7s P w K mg base T;walk_at "fx")|((exists (j_ _ Es _));have h:=@z5m P w K mg base T;walk_at "fx")|((exists (j_ _ Eh _));have h:=@z8z P w K mg base T;walk_at "fx")|((exists (j_ _ Lf _));have h:=@z3Z P w K mg base T;walk_at "fx")|((exists (j_ _ yW _));have h:=@z98 P w K mg base T;walk_at "fx")|((exists (j_ _ yh _));have h:=@zak P w K mg base T;walk_at "fx")|((exists (j_ _ En _));have h:=@z7i P w K mg base T;walk_at "fx")|((exists (j_ _ CP _));have h:=@z52 P w K mg base T;walk_at "fx")|((exists (j_ _ CQ _));have h:=@z4H P w K mg base T;walk_at "fx")|((exists (j_ _ CK _));have h:=@z9f P w K mg base T;walk_at "fx")|((exists (j_ _ AU _));have h:=@z7W P w K mg base T;walk_at "fx")|((exists (j_ _ AY _));have h:=@z3R P w K mg base T;walk_at "fx")|((exists (j_ _ Ei _));have h:=@z8M P w K mg base T;walk_at "fx")|((exists (j_ _ Ad _));have h:=@z4g P w K mg base T;walk_at "fx")|((exists (j_ _ Ey _));have h:=@z6v P w K mg base T;walk_at "fx")|((exists (j_ _ CD _));have h:=@zbR P w K mg base T;walk_at "fx")|((exists (j_ _ CM _));have h:=@z5C P w K mg base T;walk_at "fx")|((exists (j_ _ CJ _));have h:=@z8C P w K mg base T;walk_at "fx")|((exists (j_ _ CN _));have h:=@z3Q P w K mg base T;walk_at "fx")|((exists (j_ _ Eu _));have h:=@z4R P w K mg base T;walk_at "fx")|((exists (j_ _ Ez _));have h:=@z6o P w K mg base T;walk_at "fx")|((exists (j_ _ Ep _));have h:=@z5M P w K mg base T;walk_at "fx")|((exists (j_ _ Ac _));have h:=@z4Z P w K mg base T;walk_at "fx")|((exists (j_ _ Ej _));have h:=@z8R P w K mg base T;walk_at "fx")|((exists (j_ _ Ew _));have h:=@z83 P w K mg base T;walk_at "fx")|((exists (j_ _ DV _));have h:=@zgQ P w K mg base T;walk_at "fx")|((exists (j_ _ CB _));have h:=@z9o P w K mg base T;walk_at "fx")|((exists (j_ _ _ _));have h:=c_self;walk_at "fx"))
local macro_rules|`(tactic| walk_at "k")=>`(tactic| first|exact VZ|exact WY _ rfl|exact XM|exact Wc)
local macro_rules|`(tactic| walk_at "n")=>`(tactic| first|exact Zd T.c_SIGNS|exact ZY T.u_WORTHS)
local macro_rules|`(tactic| walk_at "o")=>`(tactic| first|((exists (e_ qP _ _));refine Xe ?_ ?_<;>walk_at "e")|((exists (e_ p8 _ _));exact VW '2' '2' (λ_ _=>rfl))|((exists (e_ wY _ _));refine Za ?_ ?_<;>walk_at "e")|((exists (e_ (fI uu) _ _));refine w4 Xj zi9 ?_ ?_<;>walk_at "e")|((exists (e_ (fI ur) _ _));refine w4 Yp ZR ?_ ?_<;>walk_at "e")|((exists (e_ (fI wO) _ _));refine w4 zhJ Zt ?_ ?_<;>walk_at "e")|((exists (e_ (fI uh) _ _));refine w4 Wo Zb ?_ ?_<;>walk_at "e")|((exists (e_ (fI xt) _ _));refine w4 Xq zi8 ?_ ?_<;>walk_at "e")|((exists (e_ (fI vg) _ _));refine w4 X9 Z5 ?_ ?_<;>walk_at "e")|((exists (e_ (fI Gc) _ _));refine w4 Wv YF ?_ ?_<;>walk_at "e")|((exists (e_ (fI Dt) _ _));refine w4 X_ Zj ?_ ?_<;>walk_at "e")|((exists (e_ (fI BH) _ _));refine w4 VN XY ?_ ?_<;>walk_at "e")|((exists (e_ (fI zQ) _ _));refine w4 Xm Y7 ?_ ?_<;>walk_at "e")|((exists (e_ vm _ _));exact AL NS Pq '2' '2' (yL _))|((exists (e_ BI _ _));exact AL N8 Oz '2' '2' (yL _))|((exists (e_ (pP qW) _ _));exact AL (PF hr.units) Cj '2' '2' (yL _))|((exists (e_ (pP qN) _ _));exact AL (PK hr.units) Cj '2' '2' (yL _))|((exists (e_ wC _ _));exact AL (OR hr.units) Pb '2' '2' rfl)|((exists (e_ wa _ _));exact AL (Qa hr.units) PY '2' '2' rfl)|((exists (e_ IP _ _));exact AL Yn ZT '2' '2' (yL _))|((exists (yK true wj _));refine zcp T.z00 rfl ?_<;>walk_at "e")|((exists (Jy FT FT _ _ _));refine zgp N4 OL N4 OL ?_ ?_ ?_<;>walk_at "e"))
local macro_rules|`(tactic| walk_at "c")=>`(tactic| first|((exists (m_ qi _));refine yR zgC X6 rfl T.b_len WZ ?_<;>walk_at "a")|((exists (m_ x9 _));refine yR (zdK rfl) WA rfl T.b_all Ye ?_<;>walk_at "a")|((exists (m_ BX _));refine yR (zeY rfl) WJ rfl T.b_any Yq ?_<;>walk_at "a")|((exists (m_ Au _));refine yR (zdD rfl) WC rfl T.b_sum Ww ?_<;>walk_at "a")|((exists (m_ AA _));refine yR (zeV rfl) YZ rfl T.b_max Xn ?_<;>walk_at "a")|((exists (m_ AI _));refine yR (zdS rfl) Y8 rfl T.b_min JJ ?_<;>walk_at "a")|((exists (m_ AE _));refine yR (zes rfl) Zy rfl T.b_min JJ ?_<;>walk_at "a")|((exists (m_ yI _));refine Hm zeH zhH rfl T.b_int OB ?_<;>walk_at "a")|((exists (m_ AJ _));refine Hm z6Z zfX rfl T.b_tuple Ku ?_<;>walk_at "a")|((exists (m_ Gz _));refine Hm z94 ZZ rfl T.b_str O9 ?_<;>walk_at "a")|((exists (m_ (GA _) _));refine Hm z8i (zhP _) rfl T.b_list JK ?_<;>walk_at "a")|((exists (rz "bool" _));exact DN '2' (by decide) rfl T.b_isinstance CI rfl T.b_bool Z7)|((exists (rz "int" _));exact DN '2' (by decide) rfl T.b_isinstance CI rfl T.b_int OB)|((exists (rz "list" _));exact DN '2' (by decide) rfl T.b_isinstance CI rfl T.b_list JK)|((exists (rz "str" _));exact DN '2' (by decide) rfl T.b_isinstance CI rfl T.b_str O9)|((exists (rz "tuple" _));exact DN '2' (by decide) rfl T.b_isinstance CI rfl T.b_tuple Ku)|((exists (Cb "tuple" "list" _));exact Yy '2' (by decide) (by decide) rfl T.b_isinstance CI rfl T.b_tuple Ku rfl T.b_list JK)|((exists (Dz _ _));refine X2 _ rfl rfl T.b_sorted KA rfl T.b_set XI ?_<;>walk_at "a")|((exists (tJ _ _ _ (Cv _) _));refine Ce (zcT T hT L) hr (by walk_at "le") rfl ?_<;>walk_at "a")|((exists (tJ _ _ _ (HK _) _));refine Ce (z5u T hT L) hr (by walk_at "le") rfl ?_<;>walk_at "a")|((exists (tJ _ _ _ (HP _) _));refine Ce (z50 T hT L) hr (by walk_at "le") rfl ?_<;>walk_at "a")|((exists (tJ _ _ _ (A0 _) _));refine Ce (z5Z T hT L) hr (by walk_at "le") rfl ?_<;>walk_at "a")|((exists (tJ _ _ _ F _));refine Ce c_self hr (by walk_at "le") rfl ?_<;>walk_at "a")|((exists (tJ _ _ _ _ _));refine Ce c_self hr (by walk_at "le") rfl ?_<;>walk_at "a")|((exists (B3 _ _ _ _));exact zg7 (k:=2) (hr.mono (by lia)) rfl L rfl (by kernel_rfl) rfl (λ_ _ _ _ _ _ _=>rfl) (uz (by kernel_rfl)) '2' (λq lam cd cl A outer s H hr=>'2') rfl T.b_min)|((exists (m_ Dx _));refine yR zcj ZG rfl T.b_sorted KA ?_<;>walk_at "a")|((exists (m_ AG _));refine yR zcl zhY rfl T.b_sorted KA ?_<;>walk_at "a"))
local macro_rules|`(tactic| walk_at "pk")=>`(tactic| first|exact OI|exact OW|exact Pk)
local macro_rules|`(tactic| walk_at "pp")=>`(tactic| first|exact zfB (by walk_at "pk") (by walk_at "pk") (by walk_at "pp")|exact YQ)
local macro_rules|`(tactic| walk_at "so")=>`(tactic| first|((with_reducible show BM _ _ _ Gn);exact zfL)|refine zfK ?_<;>walk_at "e")
local macro_rules|`(tactic| walk_at "m")=>`(tactic| first|((exists (vn _ _));exact zcY '2' (by walk_at "a"))|((exists (wM _ _));exact zev '2' (by walk_at "a"))|((exists (AD _ _));exact zi5 '2' '2' (λ_ _=>rfl))|((exists (xA _ _ _ _ _ _ _));first|exact KG x0 rfl (vA (by kernel_rfl)) '6' (λ_ _ _ _ _=>⟨'5','7','8','2','2'⟩)|exact KG x1 rfl (vA (by kernel_rfl)) '6' (λ_ _ _ _ _=>⟨'5','7','8','2','2'⟩)|exact KG x2 rfl (vA (by kernel_rfl)) '6' (λ_ _ _ _ _=>⟨'5','7','8','2','2'⟩))|((exists (FZ Dk _ _));exact V5 PySem.F.slot_str_count PySem.F.type_str_count zgE Xx '2' (by walk_at "a"))|((exists (IE _ _ _));exact Vu '2' (by walk_at "so") (by walk_at "so"))|((exists (Dp wj _));exact Y6 T.z00 rfl '2' (λ_ _=>rfl))|((exists (Du _ _));exact XT _ (by walk_at "pp") rfl rfl rfl (List.cons_ne_nil _ _) (gG rfl) (gG rfl) (Vp hr) '2' (λ_ _=>rfl)))
local macro_rules|`(tactic| walk_at "e1")=>`(tactic| first|((exists (a_ _));refine W9 rfl ?_<;>walk_at "v")|((exists (dC _));first|walk_at "k"|walk_at "n")|((exists (e_ _ _ _));walk_at "o")|((exists (j_ _ _ _));walk_at "f")|((exists (rH _));refine W0 ?_<;>walk_at "a")|((exists (sk _));refine WV ?_<;>walk_at "a")|((exists (qg _ _ _ _ _ _ _));first|exact Ke x0 _ rfl (vA (by kernel_rfl)) '6' (λ_ _ _ _ _=>⟨'5','7','8','2'⟩)|exact Ke x1 _ rfl (vA (by kernel_rfl)) '6' (λ_ _ _ _ _=>⟨'5','7','8','2'⟩)|exact Ke x2 _ rfl (vA (by kernel_rfl)) '6' (λ_ _ _ _ _=>⟨'5','7','8','2'⟩))|((exists (m_ _ _));walk_at "c")|((exists (uK _));refine Zk ?_<;>walk_at "a")|((exists (wN _ _));refine Yj ?_ ?_<;>walk_at "e")|((exists (Ng _ _));refine V3 ?_ ?_<;>walk_at "e")|((exists (Dl _));refine XD ?_<;>walk_at "e")|((exists (Dm _));refine XS ?_<;>walk_at "e")|walk_at "c"|walk_at "m"|walk_at "o")
local macro_rules|`(tactic| walk_at "e")=>`(tactic| first|(show PD _ _ (.BoolOp _ [_] _) _;refine WS ?_<;>walk_at "e1")|walk_at "e1")
local macro_rules|`(tactic| walk_at "a")=>`(tactic| first|((with_reducible show ug _ _ _ c_);exact ZX)|exact zfE '2' (by walk_at "a"))
local macro_rules|`(tactic| walk_at "t")=>`(tactic| first|((with_reducible show rm _ _ _ (pT (e_ vm _ _)));exact Ck NS Pq '2' '2' (yL _))|((with_reducible show rm _ _ _ (pT (e_ BI _ _)));exact Ck N8 Oz '2' '2' (yL _))|((with_reducible show rm _ _ _ (pT (e_ (pP qW) _ _)));exact Ck (PF hr.units) Cj '2' '2' (yL _))|((with_reducible show rm _ _ _ (pT (e_ (pP qN) _ _)));exact Ck (PK hr.units) Cj '2' '2' (yL _))|((with_reducible show rm _ _ _ (pT (e_ wC _ _)));exact Ck (OR hr.units) Pb '2' '2' rfl)|((with_reducible show rm _ _ _ (pT (e_ wa _ _)));exact Ck (Qa hr.units) PY '2' '2' rfl)|((with_reducible show rm _ _ _ (pT (yK true wj _)));refine zbt T.z00 rfl ?_<;>walk_at "e")|(show rm _ _ (.BoolOp _ _ _) _;refine v7.pt ?_<;>walk_at "w")|((with_reducible show rm _ _ _ (sQ _));refine X4 ?_<;>walk_at "t")|((with_reducible show rm _ _ _ (qj _));exact YW '2' (λ_=>rfl)))
local macro_rules|`(tactic| walk_at "w")=>`(tactic| first|(show v7 _ _ (.BoolOp .And [_] _) _;refine zfM ?_<;>walk_at "t")|(show v7 _ _ (.BoolOp .Or [_] _) _;refine zhI ?_<;>walk_at "t")|((with_reducible show v7 _ _ _ (tM _ _));exact Y4 (by walk_at "t") (by walk_at "w"))|((with_reducible show v7 _ _ _ (wW _ _));exact XU (by walk_at "t") (by walk_at "w")))
local macro_rules|`(tactic| walk_at "i")=>`(tactic| first|((with_reducible show sM _ _ _ _ (sO _));refine zbU rfl T.b_range ?_<;>walk_at "a")|((with_reducible show sM _ _ _ _ (DC _));refine zbw rfl T.b_range ?_<;>walk_at "a")|((with_reducible show sM _ _ _ _ (Gx _));refine zfj rfl T.b_zip ?_<;>walk_at "a")|((with_reducible show sM _ _ _ _ (GN _));refine zdz rfl T.b_enumerate ?_<;>walk_at "a")|((with_reducible show sM _ _ _ _ (Gb _));refine zga ?_<;>walk_at "e")|refine ZJ ?_<;>walk_at "e")
local macro_rules|`(tactic| walk_at "g")=>`(tactic| first|(show PG _ (.Name _ _) _;refine XH (uz (by kernel_rfl)) rfl ?_ ?_<;>walk_at "l")|(show PG _ (.Tuple [_,_] _ _) _;refine XQ rfl (uz (by kernel_rfl)) rfl rfl ?_ ?_ ?_ ?_<;>walk_at "l"))
local macro_rules|`(tactic| walk_at "fs")=>`(tactic| first|exact .nil|exact .cons (by walk_at "t") '7')
local macro_rules|`(tactic| walk_at "cs")=>`(tactic| first|exact .nil|(refine oU.cons ?_ (λ_=>rfl) ?_ ?_ ?_;(dsimp only;walk_at "i");(dsimp only;walk_at "g");(dsimp only;walk_at "fs");walk_at "cs"))
local macro_rules|`(tactic| walk_at "s")=>`(tactic| first|((with_reducible show sC _ _ _ (pR _));refine YJ ?_<;>walk_at "e")|((with_reducible show sC _ _ _ (qm _ _ _));exact WK (by walk_at "t") (by walk_at "ss") (by walk_at "ss"))|(show sC _ _ (.Assign [.Name _ _] (.ListComp _ _ _ _) _) _;first|exact K1 x0 _ rfl (uz (by kernel_rfl)) rfl rfl (vA (by kernel_rfl)) '6' (λ_ _ _ _ _=>⟨'5','7','8','2'⟩) rfl|exact K1 x1 _ rfl (uz (by kernel_rfl)) rfl rfl (vA (by kernel_rfl)) '6' (λ_ _ _ _ _=>⟨'5','7','8','2'⟩) rfl|exact K1 x2 _ rfl (uz (by kernel_rfl)) rfl rfl (vA (by kernel_rfl)) '6' (λ_ _ _ _ _=>⟨'5','7','8','2'⟩) rfl|exact J7 (uz (by kernel_rfl)) rfl (by walk_at "l") '2')|(show sC _ _ (.Assign [.Name _ _] (.DictComp _ _ _ _ _) _) _;first|exact K7 x0 rfl (uz (by kernel_rfl)) rfl rfl (vA (by kernel_rfl)) '6' (λ_ _ _ _ _=>⟨'5','7','8','2','2'⟩) rfl|exact K7 x1 rfl (uz (by kernel_rfl)) rfl rfl (vA (by kernel_rfl)) '6' (λ_ _ _ _ _=>⟨'5','7','8','2','2'⟩) rfl|exact K7 x2 rfl (uz (by kernel_rfl)) rfl rfl (vA (by kernel_rfl)) '6' (λ_ _ _ _ _=>⟨'5','7','8','2','2'⟩) rfl|exact J7 (uz (by kernel_rfl)) rfl (by walk_at "l") '2')|((with_reducible show sC _ _ _ (pS _ _));exact J7 (uz (by kernel_rfl)) rfl (by walk_at "l") '2')|((with_reducible show sC _ _ _ (rC _ _ _));exact YH kO rfl '6' '5' (by walk_at "ss"))|((with_reducible show sC _ _ _ (rL _));refine zg0 ?_<;>walk_at "e")|((with_reducible show sC _ _ _ (yF _ _ _));refine ziA ?_ ?_ ?_<;>walk_at "e")|((with_reducible show sC _ _ _ (Dr _ _));exact Z0 '2' '5')|((with_reducible show sC _ _ _ (Dj _ _));exact ziC (uz (by kernel_rfl)) rfl (by walk_at "l") '2')|((with_reducible show sC _ _ _ (JF _ _ _));exact zcB _ kO (by walk_at "t") (by walk_at "ss"))|((with_reducible show sC _ _ _ qo);exact zfN))
local macro_rules|`(tactic| walk_at "sl")=>`(tactic| first|first|exact K5 x0 _ rfl (uz (by kernel_rfl)) rfl rfl (vA (by kernel_rfl)) '6' (λ_ _ _ _ _=>⟨'5','7','8','2'⟩) rfl|exact K5 x1 _ rfl (uz (by kernel_rfl)) rfl rfl (vA (by kernel_rfl)) '6' (λ_ _ _ _ _=>⟨'5','7','8','2'⟩) rfl|exact K5 x2 _ rfl (uz (by kernel_rfl)) rfl rfl (vA (by kernel_rfl)) '6' (λ_ _ _ _ _=>⟨'5','7','8','2'⟩) rfl)
local macro_rules|`(tactic| walk_at "rs")=>`(tactic| first|(refine ze1 kO rfl (λte he=>OZ (uz (by kernel_rfl)) rfl ?_ (KE zbN rfl T.b_dict ZS (yQ he Cd))) ?_ ?_ ?_ (GH rfl ?_) (GH rfl ?_) ?_ ?_ rfl ?_ (by decide) (by decide) (gG rfl) (gG rfl);(walk_at "l");(walk_at "e");(walk_at "i");(walk_at "g");(walk_at "v");(walk_at "v");(walk_at "sl");(walk_at "e");(walk_at "ss")))
local macro_rules|`(tactic| walk_at "ss")=>`(tactic| first|((with_reducible show t7 _ _ _ (DD _ _ _ _ _ _ _ _));walk_at "rs")|((with_reducible show t7 _ _ _ qo);exact zg5)|((with_reducible show t7 _ _ _ Dw);exact Kw)|((with_reducible show t7 _ _ _ (l_ _ _));exact qx '1' (by walk_at "ss"))|refine qQ ?_<;>walk_at "s")
def Si:DS:=
 (pR (wN (rz "int" (a_ 0)) (Dl (rz "bool" (a_ 0)))))
def KZ:List D->Ow->R D:=(qT 1 Si)
def z9N:qt ["thing"] ["thing"] (qc (top 4)):='4'
def zai(T:Txt K mg):Callee P w K mg base "is_whole" 1 1 KZ:=
 Callee.self (qZ (k:=0) T.d_is_whole z9N '3' λf o_ A outer s H E hr=>
  ((qQ (by delta Si;walk_at "s"))))
def S4:DS:=
 (pR (Dp wj (m_ qi (b_ (a_ 0) c_))))
def EA:List D->Ow->R D:=(qT 1 S4)
def z6m:qt ["function"] ["function"] (qc (top 11)):='4'
def z6u(T:Txt K mg):Callee P w K mg base "switches_of" 1 1 EA:=
 Callee.self (qZ (k:=0) T.d_switches_of z6m '3' λf o_ A outer s H E hr=>
  ((qQ (by delta S4;walk_at "s"))))
def SY:DS:=
 (pR (qg qh 2 (GN (b_ (a_ 0) c_)) (.two 2 3) [(pT (e_ (pP qW) (a_ 3) (a_ 1)))] [] (a_ 2)))
def AZ:List D->Ow->R D:=(qT 2 SY)
def z6r:qt ["function", "answer"] ["function", "answer"] (qc (top 12)):='4'
def z6w(T:Txt K mg):Callee P w K mg base "points_with" 1 2 AZ:=
 Callee.self (qZ (k:=0) T.d_points_with z6r '3' λf o_ A outer s H E hr=>
  (have x0:Nx ["point", "told"]:=⟨⟩;(qQ (by delta SY;walk_at "s"))))
def z9I:DS:=
 (l_ (pS 1 (rH (b_ (dC (.str [])) c_))) (l_ (rC (sO (b_ (a_ 0) c_)) (.one 2) (pS 1 (qg qh 2 (pU (a_ 1)) (.one 3) [] (⟨(pU (dC (.str [45,48,49]))),(.one 4),[]⟩::[]) (e_ qP (a_ 3) (a_ 4))))) (pR (a_ 1))))
def yX:List D->Ow->R D:=(qT 3 z9I)
def z9c:qt ["n", "terms", "switch"] ["n"] (qc (top 15)):='4'
def z8E(T:Txt K mg):Callee P w K mg base "all_terms" 1 1 yX:=
 Callee.self (qZ (k:=0) T.d_all_terms z9c '3' λf o_ A outer s H E hr=>
  (have x0:Nx ["term", "sign"]:=⟨⟩;(qx '1' (qx '1' (qQ '1')))))
def zcI:DS:=
 (l_ (qm (pT (e_ (pP qW) (a_ 0) (dC (.str [45])))) (pR (rH (b_ (dC (.int 0)) (b_ (dC (.int 1)) c_)))) qo) (pR (rH (b_ (m_ yI (b_ (a_ 0) c_)) c_))))
def KR:List D->Ow->R D:=(qT 1 zcI)
def zc0:qt ["sign"] ["sign"] (qc (top 16)):='4'
def zbI(T:Txt K mg):Callee P w K mg base "bits_of" 1 1 KR:=
 Callee.self (qZ (k:=0) T.d_bits_of zc0 '3' λf o_ A outer s H E hr=>
  ((qx '1' (qQ '1'))))
def SK:DS:=
 (pR (e_ qP (e_ qP (IE (a_ 0) Gn (Jf (a_ 1))) (a_ 2)) (IE (a_ 0) (Jf (e_ qP (a_ 1) (dC (.int 1)))) Gn)))
def Ek:List D->Ow->R D:=(qT 3 SK)
def z8N:qt ["term", "switch", "sign"] ["term", "switch", "sign"] (qc (top 18)):='4'
def z8I(T:Txt K mg):Callee P w K mg base "with_sign" 1 3 Ek:=
 Callee.self (qZ (k:=0) T.d_with_sign z8N '3' λf o_ A outer s H E hr=>
  ((qQ (by delta SK;walk_at "s"))))
def Sv:DS:=
 (pR (e_ (fI uu) (m_ qi (b_ (a_ 0) c_)) (FZ Dk (a_ 0) (b_ (dC (.str [45])) c_))))
def CA:List D->Ow->R D:=(qT 1 Sv)
def za0:qt ["term"] ["term"] (qc (top 19)):='4'
def z9Q(T:Txt K mg):Callee P w K mg base "signs_in" 1 1 CA:=
 Callee.self (qZ (k:=0) T.d_signs_in za0 '3' λf o_ A outer s H E hr=>
  ((qQ (by delta Sv;walk_at "s"))))
def HB:DS:=
 (pR (qg qh 1 (Gb (a_ 0)) (.one 2) [(pT (e_ wC (a_ 1) (AD (a_ 0) (a_ 2))))] [] (a_ 2)))
def yY:List D->Ow->R D:=(qT 2 HB)
def z82:qt ["held", "one"] ["held", "one"] (qc (top 29)):='4'
def z7q(T:Txt K mg):Callee P w K mg base "holders_in" 1 2 yY:=
 Callee.self (qZ (k:=0) T.d_holders_in z82 '3' λf o_ A outer s H E hr=>
  (have x0:Nx ["term"]:=⟨⟩;(qQ (by delta HB;walk_at "s"))))
def z6k:DS:=
 (l_ (qm (pT (e_ vm (a_ 1) (m_ qi (b_ (a_ 0) c_)))) (pR (e_ p8 (a_ 0) (a_ 1))) qo) (pR (dC (.int 0))))
def Er:List D->Ow->R D:=(qT 2 z6k)
def z5T:qt ["_law_script", "_law_k"] ["_law_script", "_law_k"] (qc (top 39)):='4'
def z5z(T:Txt K mg):Callee P w K mg base "_law_cell_at" 1 2 Er:=
 Callee.self (qZ (k:=0) T.d__law_cell_at z5T '3' λf o_ A outer s H E hr=>
  ((qx '1' (qQ '1'))))
def z9j:DS:=
 (l_ (qm (qj (e_ p8 (a_ 0) (dC (.int 1)))) (l_ (pS 2 (e_ (fI uh) (e_ p8 (a_ 0) (dC (.int 0))) (a_ 1))) (l_ (yF (e_ (fI wO) (e_ p8 (a_ 0) (dC (.int 0))) (a_ 1)) (a_ 0) (dC (.int 0))) (pR (a_ 2)))) qo) (l_ (yF (e_ (fI uh) (e_ qP (e_ (fI ur) (e_ p8 (a_ 0) (dC (.int 0))) (dC (.int 48271))) (dC (.int 29))) (dC (.int 2147483647))) (a_ 0) (dC (.int 0))) (l_ (pS 3 (e_ (fI uh) (e_ qP (e_ qP (e_ (fI ur) (e_ p8 (a_ 0) (dC (.int 0))) (e_ p8 (a_ 0) (dC (.int 0)))) (e_ (fI ur) (dC (.int 39373)) (e_ p8 (a_ 0) (dC (.int 0))))) (dC (.int 7))) (dC (.int 2147483629)))) (l_ (pS 3 (e_ (fI uh) (e_ qP (e_ (fI ur) (a_ 3) (a_ 3)) (e_ (fI ur) (dC (.int 16807)) (a_ 3))) (dC (.int 2147483587)))) (pR (e_ (fI uh) (e_ (fI wO) (a_ 3) (dC (.int 8))) (a_ 1)))))))
def vB:List D->Ow->R D:=(qT 4 z9j)
def z89:qt ["_law_state_here", "_law_many", "_law_found", "_law_stirred"] ["_law_state_here", "_law_many"] (qc (top 41)):='4'
def z9e(T:Txt K mg):Callee P w K mg base "_law_take" 1 2 vB:=
 Callee.self (qZ (k:=0) T.d__law_take z89 '3' λf o_ A outer s H E hr=>
  ((qx '1' (qx '1' (qx '1' (qx '1' (qQ '1')))))))
def HM:DS:=
 (pR (wN (rz "str" (a_ 1)) (wN (e_ (pP qW) (m_ qi (b_ (a_ 1) c_)) (a_ 0)) (e_ (pP qW) (qg qh 1 (pU (a_ 1)) (.one 2) [(pT (e_ wa (a_ 2) (dC (.str [48,49,45]))))] [] (a_ 2)) (rH c_)))))
def CL:List D->Ow->R D:=(qT 2 HM)
def z5h:qt ["_law_n", "_law_thing"] ["_law_n", "_law_thing"] (qc (top 43)):='4'
def z5W(T:Txt K mg):Callee P w K mg base "_law_is_term" 1 2 CL:=
 Callee.self (qZ (k:=0) T.d__law_is_term z5h '3' λf o_ A outer s H E hr=>
  (have x0:Nx ["_law_sign"]:=⟨⟩;(qQ (by delta HM;walk_at "s"))))
def Te:DS:=
 (pR (Du [(2,1),(4,2),(8,3),(16,4)] (m_ qi (b_ (a_ 0) c_))))
def CO:List D->Ow->R D:=(qT 1 Te)
def z55:qt ["_law_function_here"] ["_law_function_here"] (qc (top 45)):='4'
def z4Y(T:Txt K mg):Callee P w K mg base "_law_switches" 1 1 CO:=
 Callee.self (qZ (k:=0) T.d__law_switches z55 '3' λf o_ A outer s H E hr=>
  ((qQ (by delta Te;walk_at "s"))))
def z8s:DS:=
 (l_ (pS 2 (m_ qi (b_ (a_ 0) c_))) (l_ (rC (sO (b_ (a_ 2) c_)) (.one 3) (qm (tM (pT (e_ (pP qN) (e_ p8 (a_ 0) (a_ 3)) (dC (.str [45])))) (pT (e_ (pP qN) (e_ p8 (a_ 0) (a_ 3)) (m_ Gz (b_ (e_ (fI Dt) (e_ (fI Gc) (a_ 1) (e_ (fI uu) (e_ (fI uu) (a_ 2) (dC (.int 1))) (a_ 3))) (dC (.int 1))) c_))))) (pR (dC (.bl qh))) qo)) (pR (dC (.bl qb)))))
def tQ:List D->Ow->R D:=(qT 4 z8s)
def z7P:qt ["_law_term", "_law_point", "_law_n", "_law_k"] ["_law_term", "_law_point"] (qc (top 46)):='4'
def z7b(T:Txt K mg):Callee P w K mg base "_law_holds" 1 2 tQ:=
 Callee.self (qZ (k:=0) T.d__law_holds z7P '3' λf o_ A outer s H E hr=>
  ((qx '1' (qx '1' (qQ '1')))))
def HA:DS:=
 (pR (qg qh 1 (sO (b_ (m_ qi (b_ (a_ 0) c_)) c_)) (.one 1) [(pT (e_ (pP qW) (e_ p8 (a_ 0) (a_ 1)) (dC (.int 1))))] [] (a_ 1)))
def vV:List D->Ow->R D:=(qT 1 HA)
def z9d:qt ["_law_function_here"] ["_law_function_here"] (qc (top 48)):='4'
def z8P(T:Txt K mg):Callee P w K mg base "_law_ones" 1 1 vV:=
 Callee.self (qZ (k:=0) T.d__law_ones z9d '3' λf o_ A outer s H E hr=>
  (have x0:Nx ["_law_point"]:=⟨⟩;(qQ (by delta HA;walk_at "s"))))
def HH:DS:=
 (pR (m_ Au (b_ (qg qh 1 (pU (a_ 0)) (.one 1) [] [] (e_ (fI uu) (m_ qi (b_ (a_ 1) c_)) (FZ Dk (a_ 1) (b_ (dC (.str [45])) c_)))) c_)))
def AR:List D->Ow->R D:=(qT 1 HH)
def z75:qt ["_law_terms_here"] ["_law_terms_here"] (qc (top 52)):='4'
def z7D(T:Txt K mg):Callee P w K mg base "_law_signs" 1 1 AR:=
 Callee.self (qZ (k:=0) T.d__law_signs z75 '3' λf o_ A outer s H E hr=>
  (have x0:Nx ["_law_term"]:=⟨⟩;(qQ (by delta HH;walk_at "s"))))
def K2:DS:=
 (l_ (pS 2 (rH (b_ (sk c_) c_))) (l_ (rC (sO (b_ (a_ 1) c_)) (.one 3) (l_ (pS 4 (uK c_)) (l_ (rC (pU (a_ 2)) (.one 5) (l_ (pS 6 (dC (.int 0))) (l_ (qm (pT (e_ (pP qN) (a_ 5) (sk c_))) (pS 6 (e_ wY (e_ p8 (a_ 5) (Dm (dC (.int 1)))) (dC (.int 1)))) qo) (rL (wM (a_ 4) (b_ (qg qh 1 (DC (b_ (a_ 6) (b_ (a_ 0) c_))) (.one 7) [] [] (e_ wY (a_ 5) (sk (b_ (a_ 7) c_)))) c_)))))) (pS 2 (a_ 4))))) (pR (a_ 2))))
def AV:List D->Ow->R D:=xr (qT 7 K2)
def z7E:qt ["_law_many", "_law_size", "_law_found", "_law_turn", "_law_longer", "_law_row", "_law_first"] ["_law_many", "_law_size"] (qc (top 54)):='4'
def z7v(T:Txt K mg):Callee P w K mg base "_law_picks" 1 2 AV:=
 Callee.frz (qZ (k:=0) T.d__law_picks z7E '3' λf o_ A outer s H E hr=>
  (have x0:Nx ["_law_k"]:=⟨⟩;(qx '1' (qx '1' (qQ '1')))))
def K3:DS:=
 (l_ (pS 1 (rH (b_ (dC (.str [])) c_))) (l_ (rC (sO (b_ (a_ 0) c_)) (.one 2) (l_ (pS 3 (uK c_)) (l_ (rC (pU (a_ 1)) (.one 4) (rL (wM (a_ 3) (b_ (rH (b_ (e_ qP (a_ 4) (dC (.str [45]))) (b_ (e_ qP (a_ 4) (dC (.str [48]))) (b_ (e_ qP (a_ 4) (dC (.str [49]))) c_)))) c_)))) (pS 1 (a_ 3))))) (pR (a_ 1))))
def HF:List D->Ow->R D:=xr (qT 5 K3)
def z7o:qt ["_law_n", "_law_found", "_law_turn", "_law_longer", "_law_term"] ["_law_n"] (qc (top 56)):='4'
def z7s(T:Txt K mg):Callee P w K mg base "_law_terms" 1 1 HF:=
 Callee.frz (qZ (k:=0) T.d__law_terms z7o '3' λf o_ A outer s H E hr=>
  ((qx '1' (qx '1' (qQ '1')))))
def HI:DS:=
 (pR (e_ (pP qW) (qg qh 1 (sO (b_ (m_ qi (b_ (a_ 0) c_)) c_)) (.one 2) [(tM (pT (e_ (pP qN) (e_ p8 (a_ 1) (a_ 2)) (dC (.str [45])))) (pT (e_ (pP qN) (e_ p8 (a_ 1) (a_ 2)) (e_ p8 (a_ 0) (a_ 2)))))] [] (a_ 2)) (rH c_)))
def Es:List D->Ow->R D:=(qT 2 HI)
def z5r:qt ["_law_one", "_law_other"] ["_law_one", "_law_other"] (qc (top 57)):='4'
def z5m(T:Txt K mg):Callee P w K mg base "_law_lies_in" 1 2 Es:=
 Callee.self (qZ (k:=0) T.d__law_lies_in z5r '3' λf o_ A outer s H E hr=>
  (have x0:Nx ["_law_k"]:=⟨⟩;(qQ (by delta HI;walk_at "s"))))
def z9F(F:List D->Ow->R D):DS:=
 (l_ (qm (qj (Cb "tuple" "list" (a_ 1))) (l_ (qm (wW (pT (e_ (pP qN) (rz "tuple" (a_ 0)) (rz "tuple" (a_ 1)))) (pT (e_ (pP qN) (rz "list" (a_ 0)) (rz "list" (a_ 1))))) (pR (dC (.bl qh))) qo) (l_ (qm (pT (e_ (pP qN) (m_ qi (b_ (a_ 0) c_)) (m_ qi (b_ (a_ 1) c_)))) (pR (dC (.bl qh))) qo) (pR (m_ x9 (b_ (qg qh 2 (Gx (b_ (a_ 0) (b_ (a_ 1) c_))) (.two 2 3) [] [] (j_ 2 F (b_ (a_ 2) (b_ (a_ 3) c_)))) c_))))) qo) (pR (wN (e_ (pP qW) (a_ 0) (a_ 1)) (e_ (pP qW) (rz "bool" (a_ 0)) (rz "bool" (a_ 1))))))
def AW:Nat->List D->Ow->R D
 |0=>λ_ _=>.bad
 |k+1=>(qT 2 (z9F (AW k)))
def S7:qt ["_law_found", "_law_due"] ["_law_found", "_law_due"] (qc (top 59)):='4'
theorem SX(T:Txt K mg):∀k,Callee P w K mg base "_law_same" (1+k) 2 (AW k)
 |0=>Callee.bad (F:=qT 2 Dw) (qZ T.d__law_same S7 '3' λf o_ A outer s H E hr=>Kw)
 | k+1=>Callee.self (qZ (k:=1+k) T.d__law_same S7 '3' λf o_ A outer s H E hr=>
  have c_self:=SX T k
  (have x0:Nx ["_law_one", "_law_other"]:=⟨⟩;(qx '1' (qQ '1'))))
def Eh:List D->Ow->R D:=AW 3
def z8z(T:Txt K mg):Callee P w K mg base "_law_same" 4 2 Eh:=SX T 3
def Ti:DS:=
 (pR (wN (j_ 1 KZ (b_ (a_ 0) c_)) (Jy FT FT (a_ 1) (a_ 0) (a_ 2))))
def Lf:List D->Ow->R D:=(qT 3 Ti)
def z4r:qt ["thing", "least", "most"] ["thing", "least", "most"] (qc (top 5)):='4'
def z3Z(T:Txt K mg):Callee P w K mg base "is_whole_within" 2 3 Lf:=
 Callee.self (qZ (k:=1) T.d_is_whole_within z4r '3' λf o_ A outer s H E hr=>
  ((qQ (by delta Ti;walk_at "s"))))
def zaj:DS:=
 (l_ (pS 1 (rH (b_ (dC (.int 0)) c_))) (l_ (rC (pU (a_ 0)) (.one 2) (pS 1 (qg qh 2 (pU (a_ 1)) (.one 3) [] (⟨(pU (j_ 1 KR (b_ (a_ 2) c_))),(.one 4),[]⟩::[]) (e_ qP (e_ (fI ur) (dC (.int 2)) (a_ 3)) (a_ 4))))) (pR (a_ 1))))
def yW:List D->Ow->R D:=(qT 3 zaj)
def z8A:qt ["term", "points", "sign"] ["term"] (qc (top 17)):='4'
def z98(T:Txt K mg):Callee P w K mg base "points_of" 2 1 yW:=
 Callee.self (qZ (k:=1) T.d_points_of z8A '3' λf o_ A outer s H E hr=>
  (have x0:Nx ["point", "bit"]:=⟨⟩;(qx '1' (qx '1' (qQ '1')))))
def Ho:DS:=
 (pR (m_ Au (b_ (qg qh 1 (pU (a_ 0)) (.one 1) [] [] (j_ 1 CA (b_ (a_ 1) c_))) c_)))
def yh:List D->Ow->R D:=(qT 1 Ho)
def z9U:qt ["form"] ["form"] (qc (top 28)):='4'
def zak(T:Txt K mg):Callee P w K mg base "signs_of" 2 1 yh:=
 Callee.self (qZ (k:=1) T.d_signs_of z9U '3' λf o_ A outer s H E hr=>
  (have x0:Nx ["term"]:=⟨⟩;(qQ (by delta Ho;walk_at "s"))))
def yU(Pt:Nat)(F:List D->Ow->R D):DS:=
 (l_ (qm (sQ (qj (a_ 1))) (pR (rH (b_ (sk c_) c_))) qo) (l_ (qm (pT (e_ (pP qW) (a_ 2) (dC (.int 0)))) (pR (rH c_)) qo) (l_ (pS 3 (B3 Pt 8 (a_ 1) (m_ qi (b_ (j_ 2 yY (b_ (a_ 0) (b_ (a_ 9) c_))) c_)))) (l_ (pS 4 (uK c_)) (DD 5 6 7 (a_ 0) (pU (j_ 2 yY (b_ (a_ 0) (b_ (a_ 3) c_)))) (qg qh 1 (pU (a_ 1)) (.one 9) [(pT (e_ wa (a_ 9) (AD (a_ 0) (a_ 6))))] [] (a_ 9)) (wM (a_ 4) (b_ (qg qh 1 (pU (tJ Pt 8 3 F (b_ (a_ 5) (b_ (a_ 7) (b_ (e_ (fI uu) (a_ 2) (dC (.int 1))) c_))))) (.one 9) [] [] (e_ qP (sk (b_ (a_ 6) c_)) (a_ 9))) c_)) (pR (a_ 4)))))))
def wk(Pt:Nat):Nat->List D->Ow->R D
 |0=>λ_ _=>.bad
 |k+1=>xr (xu 9 8 Pt (yU Pt (wk Pt k)))
def RM:qt ["held", "wanted", "many", "hardest", "found", "rest", "term", "left", "<tab>"] ["held", "wanted", "many"] (qc (top 30)):='4'
theorem Sw{c Pt:ae}(T:Txt K mg)(hT:yC K mg "covers" (top 30) c)(L:vM mg base c Pt):∀k,oH P w K mg base "covers" (4+k) 3 Pt (wk Pt k)
 |0=>oH.bad (F:=xu 9 8 Pt Dw) (NL (k:=3) (i:=8) (z := "<tab>") hT RM rfl (BV 'b') '3' λf A outer s H E hr=>Kw)
 | k+1=>oH.frz (NL (k:=4+k) (i:=8) (z := "<tab>") hT RM rfl (BV 'b') '3' λf A outer s H E hr=>
  have c_self:=Sw T hT L k
  (have x0:Nx ["one"]:=⟨⟩;have x1:Nx ["cover"]:=⟨⟩;(by unfold yU;walk_at "ss")))
def Cv(Pt:Nat):List D->Ow->R D:=wk Pt 20
def zcT{c Pt:ae}(T:Txt K mg)(a:yC K mg "covers" (top 30) c)(L:vM mg base c Pt):oH P w K mg base "covers" 24 3 Pt (Cv Pt):=Sw T a L 20
def z86:DS:=
 (l_ (pS 2 (j_ 2 Er (b_ (a_ 0) (b_ (a_ 1) c_)))) (l_ (qm (pT (e_ BI (a_ 2) (e_ (fI xt) (dC (.int 10)) (dC (.int 18))))) (pR (uK (b_ (e_ (fI uu) (a_ 2) (e_ (fI xt) (dC (.int 10)) (dC (.int 18)))) (b_ (dC (.bl qb)) c_)))) qo) (pR (uK (b_ (e_ (fI uh) (a_ 2) (dC (.int 2147483647))) (b_ (dC (.bl qh)) c_))))))
def En:List D->Ow->R D:=(qT 3 z86)
def z7X:qt ["_law_script", "_law_k", "_law_cell"] ["_law_script", "_law_k"] (qc (top 40)):='4'
def z7i(T:Txt K mg):Callee P w K mg base "_law_state" 2 2 En:=
 Callee.self (qZ (k:=1) T.d__law_state z7X '3' λf o_ A outer s H E hr=>
  ((qx '1' (qx '1' (qQ '1')))))
def HN:DS:=
 (l_ (pS 3 (e_ p8 (rH (b_ (dC (.int 2)) (b_ (dC (.int 4)) (b_ (dC (.int 6)) c_)))) (j_ 2 vB (b_ (a_ 0) (b_ (dC (.int 3)) c_))))) (l_ (pS 4 (e_ (fI ur) (j_ 2 vB (b_ (a_ 0) (b_ (dC (.int 3)) c_))) (m_ yI (b_ (a_ 2) c_)))) (l_ (pS 5 (uK c_)) (l_ (rC (sO (b_ (e_ (fI vg) (dC (.int 1)) (a_ 1)) c_)) (.one 6) (l_ (pS 7 (m_ yI (b_ (e_ vm (j_ 2 vB (b_ (a_ 0) (b_ (dC (.int 8)) c_))) (a_ 3)) c_))) (l_ (qm (pT (e_ vm (j_ 2 vB (b_ (a_ 0) (b_ (dC (.int 5)) c_))) (a_ 4))) (pS 7 (dC .non)) qo) (rL (vn (a_ 5) (b_ (a_ 7) c_)))))) (pR (m_ AJ (b_ (a_ 5) c_)))))))
def CP:List D->Ow->R D:=xr (qT 8 HN)
def z4U:qt ["_law_state_here", "_law_n", "_law_free", "_law_often", "_law_rest", "_law_found", "_law_point", "_law_answer"] ["_law_state_here", "_law_n", "_law_free"] (qc (top 42)):='4'
def z52(T:Txt K mg):Callee P w K mg base "_law_function" 2 3 CP:=
 Callee.frz (qZ (k:=1) T.d__law_function z4U '3' λf o_ A outer s H E hr=>
  ((qx '1' (qx '1' (qx '1' (qx '1' (qQ '1')))))))
def Ld:DS:=
 (l_ (qm (wW (sQ (qj (rz "tuple" (a_ 1)))) (sQ (qj (m_ x9 (b_ (qg qh 1 (pU (a_ 1)) (.one 2) [] [] (j_ 2 CL (b_ (a_ 0) (b_ (a_ 2) c_)))) c_))))) (pR (dC (.bl qh))) qo) (pR (e_ (pP qW) (m_ (GA qh) (b_ (a_ 1) c_)) (Dz qh (b_ (a_ 1) c_)))))
def CQ:List D->Ow->R D:=(qT 2 Ld)
def z4A:qt ["_law_n", "_law_thing"] ["_law_n", "_law_thing"] (qc (top 44)):='4'
def z4H(T:Txt K mg):Callee P w K mg base "_law_are_terms" 2 2 CQ:=
 Callee.self (qZ (k:=1) T.d__law_are_terms z4A '3' λf o_ A outer s H E hr=>
  (have x0:Nx ["_law_term"]:=⟨⟩;(qx '1' (qQ '1'))))
def HC:DS:=
 (pR (e_ (pP qW) (qg qh 1 (sO (b_ (m_ qi (b_ (a_ 0) c_)) c_)) (.one 2) [(tM (pT (e_ (pP qW) (e_ p8 (a_ 0) (a_ 2)) (dC (.int 0)))) (qj (j_ 2 tQ (b_ (a_ 1) (b_ (a_ 2) c_)))))] [] (a_ 2)) (rH c_)))
def CK:List D->Ow->R D:=(qT 2 HC)
def z8g:qt ["_law_function_here", "_law_term"] ["_law_function_here", "_law_term"] (qc (top 47)):='4'
def z9f(T:Txt K mg):Callee P w K mg base "_law_good" 2 2 CK:=
 Callee.self (qZ (k:=1) T.d__law_good z8g '3' λf o_ A outer s H E hr=>
  (have x0:Nx ["_law_point"]:=⟨⟩;(qQ (by delta HC;walk_at "s"))))
def HG:DS:=
 (l_ (pS 1 (uK c_)) (l_ (rC (pU (j_ 1 vV (b_ (a_ 0) c_))) (.one 2) (rC (pU (j_ 1 vV (b_ (a_ 0) c_))) (.one 3) (l_ (pS 4 (e_ (fI zQ) (a_ 2) (a_ 3))) (qm (tM (pT (e_ vm (a_ 2) (a_ 3))) (pT (e_ (pP qW) (e_ (fI Dt) (a_ 4) (e_ (fI uu) (a_ 4) (dC (.int 1)))) (dC (.int 0))))) (rL (vn (a_ 1) (b_ (sk (b_ (a_ 2) (b_ (a_ 3) c_))) c_))) qo)))) (pR (a_ 1))))
def AU:List D->Ow->R D:=xr (qT 5 HG)
def z7c:qt ["_law_function_here", "_law_found", "_law_point", "_law_other", "_law_one"] ["_law_function_here"] (qc (top 50)):='4'
def z7W(T:Txt K mg):Callee P w K mg base "_law_steps" 2 1 AU:=
 Callee.frz (qZ (k:=1) T.d__law_steps z7c '3' λf o_ A outer s H E hr=>
  ((qx '1' (qx '1' (qQ '1')))))
def Lg:DS:=
 (l_ (pS 3 (m_ Au (b_ (qg qh 0 (sO (b_ (m_ qi (b_ (a_ 0) c_)) c_)) (.one 4) [(qj (j_ 2 tQ (b_ (a_ 2) (b_ (e_ p8 (a_ 0) (a_ 4)) c_))))] [] (e_ (fI vg) (dC (.int 1)) (a_ 4))) c_))) (l_ (rC (sO (b_ (m_ qi (b_ (a_ 1) c_)) c_)) (.one 4) (qm (tM (qj (j_ 2 tQ (b_ (a_ 2) (b_ (e_ p8 (e_ p8 (a_ 1) (a_ 4)) (dC (.int 0))) c_)))) (qj (j_ 2 tQ (b_ (a_ 2) (b_ (e_ p8 (e_ p8 (a_ 1) (a_ 4)) (dC (.int 1))) c_))))) (pS 3 (e_ qP (a_ 3) (e_ (fI vg) (dC (.int 1)) (e_ qP (m_ qi (b_ (a_ 0) c_)) (a_ 4))))) qo)) (pR (a_ 3))))
def AY:List D->Ow->R D:=(qT 5 Lg)
def z3V:qt ["_law_points", "_law_turns", "_law_term", "_law_found", "_law_at"] ["_law_points", "_law_turns", "_law_term"] (qc (top 53)):='4'
def z3R(T:Txt K mg):Callee P w K mg base "_law_smooth_mask" 2 3 AY:=
 Callee.self (qZ (k:=1) T.d__law_smooth_mask z3V '3' λf o_ A outer s H E hr=>
  (have x0:Nx []:=⟨⟩;(qx '1' (qx '1' (qQ '1')))))
def SU:DS:=
 (pR (Ng (e_ IP (a_ 0) (dC .non)) (j_ 3 Lf (b_ (a_ 0) (b_ (dC (.int 0)) (b_ (dC (.int 1)) c_))))))
def Ei:List D->Ow->R D:=(qT 1 SU)
def z8j:qt ["thing"] ["thing"] (qc (top 8)):='4'
def z8M(T:Txt K mg):Callee P w K mg base "is_answer" 3 1 Ei:=
 Callee.self (qZ (k:=2) T.d_is_answer z8j '3' λf o_ A outer s H E hr=>
  ((qQ (by delta SU;walk_at "s"))))
def Th:DS:=
 (pR (m_ x9 (b_ (qg qh 1 (pU (j_ 1 yW (b_ (a_ 1) c_))) (.one 2) [] [] (e_ (pP qN) (e_ p8 (a_ 0) (a_ 2)) (dC (.int 0)))) c_)))
def Ad:List D->Ow->R D:=(qT 2 Th)
def z3X:qt ["function", "term"] ["function", "term"] (qc (top 21)):='4'
def z4g(T:Txt K mg):Callee P w K mg base "holds_no_nought" 3 2 Ad:=
 Callee.self (qZ (k:=2) T.d_holds_no_nought z3X '3' λf o_ A outer s H E hr=>
  (have x0:Nx ["point"]:=⟨⟩;(qQ (by delta Th;walk_at "s"))))
def SV:DS:=
 (pR (m_ BX (b_ (qg qh 1 (pU (j_ 1 yW (b_ (a_ 1) c_))) (.one 2) [] [] (e_ (pP qW) (e_ p8 (a_ 0) (a_ 2)) (dC (.int 1)))) c_)))
def Ey:List D->Ow->R D:=(qT 2 SV)
def z6p:qt ["function", "term"] ["function", "term"] (qc (top 22)):='4'
def z6v(T:Txt K mg):Callee P w K mg base "holds_a_one" 3 2 Ey:=
 Callee.self (qZ (k:=2) T.d_holds_a_one z6p '3' λf o_ A outer s H E hr=>
  (have x0:Nx ["point"]:=⟨⟩;(qQ (by delta SV;walk_at "s"))))
def La(Pt:Nat):DS:=
 (l_ (pS 2 (dC (.int 0))) (l_ (pS 3 (tJ Pt 5 3 (Cv Pt) (b_ (a_ 0) (b_ (a_ 1) (b_ (a_ 2) c_))))) (l_ (JF 20 (sQ (qj (a_ 3))) (l_ (Dj 2 (dC (.int 1))) (pS 3 (tJ Pt 5 3 (Cv Pt) (b_ (a_ 0) (b_ (a_ 1) (b_ (a_ 2) c_))))))) (l_ (pS 4 (m_ AE (b_ (qg qh 1 (pU (a_ 3)) (.one 6) [] [] (j_ 1 yh (b_ (a_ 6) c_))) c_))) (pR (m_ Dx (b_ (qg qh 1 (pU (a_ 3)) (.one 6) [(pT (e_ (pP qW) (j_ 1 yh (b_ (a_ 6) c_)) (a_ 4)))] [] (m_ AJ (b_ (m_ AG (b_ (a_ 6) c_)) c_))) c_)))))))
def HK(Pt:Nat):List D->Ow->R D:=(xu 6 5 Pt (La Pt))
def z5i:qt ["held", "wanted", "many", "found", "fewest", "<tab>"] ["held", "wanted"] (qc (top 31)):='4'
def z5u{c Pt:ae}(T:Txt K mg)(hT:yC K mg "covers" (top 30) c)(L:vM mg base c Pt):oH P w K mg base "least_covers" 25 2 Pt (HK Pt):=
 oH.self (M3 (k:=24) (i:=5) (z := "<tab>") T.d_least_covers z5i rfl (BV 'b') '3' λf o_ A outer s H E hr=>
  (have x0:Nx ["cover"]:=⟨⟩;(qx '1' (qx '1' (qx '1' (qx '1' (qQ '1')))))))
def Kx:DS:=
 (l_ (pS 2 (j_ 1 yW (b_ (a_ 0) c_))) (pR (qg qh 2 (pU (a_ 1)) (.two 3 4) [(tM (pT (e_ wC (a_ 3) (a_ 2))) (pT (e_ wC (a_ 4) (a_ 2))))] [] (sk (b_ (a_ 3) (b_ (a_ 4) c_))))))
def CD:List D->Ow->R D:=(qT 3 Kx)
def zbX:qt ["term", "pairs", "points"] ["term", "pairs"] (qc (top 35)):='4'
def zbR(T:Txt K mg):Callee P w K mg base "kept_by" 3 2 CD:=
 Callee.self (qZ (k:=2) T.d_kept_by zbX '3' λf o_ A outer s H E hr=>
  (have x0:Nx ["point", "other"]:=⟨⟩;(qx '1' (qQ '1'))))
def Lb:DS:=
 (l_ (qm (sQ (qj (j_ 2 CQ (b_ (j_ 1 CO (b_ (a_ 0) c_)) (b_ (a_ 1) c_))))) (pR (dC (.bl qh))) qo) (l_ (qm (pT (e_ (pP qN) (qg qh 1 (pU (a_ 1)) (.one 3) [(sQ (qj (j_ 2 CK (b_ (a_ 0) (b_ (a_ 3) c_)))))] [] (a_ 3)) (rH c_))) (pR (dC (.bl qh))) qo) (l_ (rC (pU (j_ 1 vV (b_ (a_ 0) c_))) (.one 2) (qm (pT (e_ (pP qW) (qg qh 1 (pU (a_ 1)) (.one 3) [(qj (j_ 2 tQ (b_ (a_ 3) (b_ (a_ 2) c_))))] [] (a_ 3)) (rH c_))) (pR (dC (.bl qh))) qo)) (pR (dC (.bl qb))))))
def CM:List D->Ow->R D:=(qT 3 Lb)
def z5j:qt ["_law_function_here", "_law_thing", "_law_point"] ["_law_function_here", "_law_thing"] (qc (top 49)):='4'
def z5C(T:Txt K mg):Callee P w K mg base "_law_is_form" 3 2 CM:=
 Callee.self (qZ (k:=2) T.d__law_is_form z5j '3' λf o_ A outer s H E hr=>
  (have x0:Nx ["_law_term"]:=⟨⟩;(qx '1' (qx '1' (qx '1' (qQ '1'))))))
def Hx:DS:=
 (l_ (pS 2 (uK c_)) (l_ (rC (pU (j_ 1 AU (b_ (a_ 0) c_))) (.one 3) (qm (pT (e_ (pP qW) (qg qh 1 (pU (a_ 1)) (.one 4) [(tM (qj (j_ 2 tQ (b_ (a_ 4) (b_ (e_ p8 (a_ 3) (dC (.int 0))) c_)))) (qj (j_ 2 tQ (b_ (a_ 4) (b_ (e_ p8 (a_ 3) (dC (.int 1))) c_)))))] [] (a_ 4)) (rH c_))) (rL (vn (a_ 2) (b_ (a_ 3) c_))) qo)) (pR (a_ 2))))
def CJ:List D->Ow->R D:=xr (qT 4 Hx)
def z8e:qt ["_law_function_here", "_law_form", "_law_found", "_law_step"] ["_law_function_here", "_law_form"] (qc (top 51)):='4'
def z8C(T:Txt K mg):Callee P w K mg base "_law_gaps" 3 2 CJ:=
 Callee.frz (qZ (k:=2) T.d__law_gaps z8e '3' λf o_ A outer s H E hr=>
  (have x0:Nx ["_law_term"]:=⟨⟩;(qx '1' (qx '1' (qQ '1')))))
def Lh:DS:=
 (l_ (Dr (.two 3 4) (sk (b_ (j_ 1 vV (b_ (a_ 0) c_)) (b_ (j_ 1 AU (b_ (a_ 0) c_)) c_)))) (l_ (pS 5 (dC (.int 0))) (l_ (rC (pU (a_ 1)) (.one 6) (pS 5 (e_ (fI BH) (a_ 5) (j_ 3 AY (b_ (a_ 3) (b_ (a_ 4) (b_ (a_ 6) c_))))))) (l_ (pS 7 (qg qh 0 (pU (a_ 2)) (.one 6) [] [] (j_ 3 AY (b_ (a_ 3) (b_ (a_ 4) (b_ (a_ 6) c_)))))) (l_ (rC (sO (b_ (e_ qP (m_ qi (b_ (a_ 2) c_)) (dC (.int 1))) c_)) (.one 8) (l_ (pS 9 (uK c_)) (l_ (rC (pU (j_ 2 AV (b_ (m_ qi (b_ (a_ 2) c_)) (b_ (a_ 8) c_)))) (.one 10) (l_ (pS 11 (a_ 5)) (l_ (rC (pU (a_ 10)) (.one 12) (pS 11 (e_ (fI BH) (a_ 11) (e_ p8 (a_ 7) (a_ 12))))) (qm (pT (e_ (pP qW) (a_ 11) (e_ (fI uu) (e_ (fI vg) (dC (.int 1)) (e_ qP (m_ qi (b_ (a_ 3) c_)) (m_ qi (b_ (a_ 4) c_)))) (dC (.int 1))))) (rL (vn (a_ 9) (b_ (j_ 1 AR (b_ (qg qh 0 (pU (a_ 10)) (.one 12) [] [] (e_ p8 (a_ 2) (a_ 12))) c_)) c_))) qo)))) (qm (pT (e_ (pP qN) (a_ 9) (rH c_))) (pR (sk (b_ (a_ 8) (b_ (m_ AE (b_ (a_ 9) c_)) c_)))) qo)))) (pR (dC .non)))))))
def CN:List D->Ow->R D:=xr (qT 13 Lh)
def z3S:qt ["_law_function_here", "_law_form", "_law_some", "_law_points", "_law_turns", "_law_held", "_law_term", "_law_masks", "_law_size", "_law_found", "_law_row", "_law_whole", "_law_k"] ["_law_function_here", "_law_form", "_law_some"] (qc (top 55)):='4'
def z3Q(T:Txt K mg):Callee P w K mg base "_law_smooth_cost" 3 3 CN:=
 Callee.frz (qZ (k:=2) T.d__law_smooth_cost z3S '3' λf o_ A outer s H E hr=>
  (have x0:Nx []:=⟨⟩;(qx '1' (qx '1' (qx '1' (qx '1' (qx '1' (qQ '1'))))))))
def Et:DS:=
 (l_ (pS 1 (qg qh 0 (pU (j_ 1 HF (b_ (j_ 1 CO (b_ (a_ 0) c_)) c_))) (.one 3) [(qj (j_ 2 CK (b_ (a_ 0) (b_ (a_ 3) c_))))] [] (a_ 3))) (l_ (pS 2 (uK c_)) (l_ (rC (pU (a_ 1)) (.one 3) (l_ (pS 4 (qg qh 1 (pU (a_ 1)) (.one 6) [(tM (pT (e_ (pP qN) (a_ 6) (a_ 3))) (qj (j_ 2 Es (b_ (a_ 3) (b_ (a_ 6) c_)))))] [] (a_ 6))) (l_ (pS 5 (qg qh 1 (pU (j_ 1 vV (b_ (a_ 0) c_))) (.one 6) [(qj (j_ 2 tQ (b_ (a_ 3) (b_ (a_ 6) c_))))] [] (a_ 6))) (qm (tM (pT (e_ (pP qW) (a_ 4) (rH c_))) (pT (e_ (pP qN) (a_ 5) (rH c_)))) (rL (vn (a_ 2) (b_ (a_ 3) c_))) qo)))) (pR (a_ 2)))))
def Eu:List D->Ow->R D:=xr (qT 6 Et)
def z4W:qt ["_law_function_here", "_law_some", "_law_found", "_law_term", "_law_wider", "_law_held"] ["_law_function_here"] (qc (top 58)):='4'
def z4R(T:Txt K mg):Callee P w K mg base "_law_greatest" 3 1 Eu:=
 Callee.frz (qZ (k:=2) T.d__law_greatest z4W '3' λf o_ A outer s H E hr=>
  (have x0:Nx []:=⟨⟩;have x1:Nx ["_law_other"]:=⟨⟩;have x2:Nx ["_law_point"]:=⟨⟩;(qx '1' (qx '1' (qx '1' (qQ '1'))))))
def z77:DS:=
 (l_ (qm (wW (sQ (qj (rz "tuple" (a_ 0)))) (pT (yK qb wj (m_ qi (b_ (a_ 0) c_))))) (pR (dC (.bl qh))) qo) (pR (m_ x9 (b_ (qg qh 1 (pU (a_ 0)) (.one 1) [] [] (j_ 1 Ei (b_ (a_ 1) c_))) c_))))
def Ez:List D->Ow->R D:=(qT 1 z77)
def z6t:qt ["thing"] ["thing"] (qc (top 9)):='4'
def z6o(T:Txt K mg):Callee P w K mg base "is_function" 4 1 Ez:=
 Callee.self (qZ (k:=3) T.d_is_function z6t '3' λf o_ A outer s H E hr=>
  (have x0:Nx ["answer"]:=⟨⟩;(qx '1' (qQ '1'))))
def HJ:DS:=
 (pR (wN (e_ (pP qN) (e_ p8 (a_ 1) (a_ 2)) (dC (.str [45]))) (j_ 2 Ad (b_ (a_ 0) (b_ (j_ 3 Ek (b_ (a_ 1) (b_ (a_ 2) (b_ (dC (.str [45])) c_)))) c_)))))
def Ep:List D->Ow->R D:=(qT 3 HJ)
def z5f:qt ["function", "term", "switch"] ["function", "term", "switch"] (qc (top 24)):='4'
def z5M(T:Txt K mg):Callee P w K mg base "can_widen_at" 4 3 Ep:=
 Callee.self (qZ (k:=3) T.d_can_widen_at z5f '3' λf o_ A outer s H E hr=>
  ((qQ (by delta HJ;walk_at "s"))))
def Tc:DS:=
 (qm (sQ (qj (j_ 1 Ez (b_ (a_ 0) c_)))) Dw qo)
def Ac:List D->Ow->R D:=(qT 1 Tc)
def z53:qt ["thing"] ["thing"] (qc (top 10)):='4'
def z4Z(T:Txt K mg):Callee P w K mg base "need_function" 5 1 Ac:=
 Callee.self (qZ (k:=4) T.d_need_function z53 '3' λf o_ A outer s H E hr=>
  ((qQ (by delta Tc;walk_at "s"))))
def HD:DS:=
 (pR (Dl (m_ BX (b_ (qg qh 1 (sO (b_ (m_ qi (b_ (a_ 1) c_)) c_)) (.one 2) [] [] (j_ 3 Ep (b_ (a_ 0) (b_ (a_ 1) (b_ (a_ 2) c_))))) c_))))
def Ej:List D->Ow->R D:=(qT 2 HD)
def z8B:qt ["function", "term"] ["function", "term"] (qc (top 25)):='4'
def z8R(T:Txt K mg):Callee P w K mg base "is_widest" 5 2 Ej:=
 Callee.self (qZ (k:=4) T.d_is_widest z8B '3' λf o_ A outer s H E hr=>
  (have x0:Nx ["switch"]:=⟨⟩;(qQ (by delta HD;walk_at "s"))))
def z8f:DS:=
 (l_ (rL (j_ 1 Ac (b_ (a_ 0) c_))) (pR (qg qh 1 (pU (j_ 1 yX (b_ (j_ 1 EA (b_ (a_ 0) c_)) c_))) (.one 1) [(qj (j_ 2 Ad (b_ (a_ 0) (b_ (a_ 1) c_))))] [] (a_ 1))))
def Ew:List D->Ow->R D:=(qT 1 z8f)
def z7O:qt ["function"] ["function"] (qc (top 23)):='4'
def z83(T:Txt K mg):Callee P w K mg base "good_terms" 6 1 Ew:=
 Callee.self (qZ (k:=5) T.d_good_terms z7O '3' λf o_ A outer s H E hr=>
  (have x0:Nx ["term"]:=⟨⟩;(qx '1' (qQ '1'))))
def JY:DS:=
 (l_ (rL (j_ 1 Ac (b_ (a_ 0) c_))) (l_ (pS 1 (j_ 2 AZ (b_ (a_ 0) (b_ (dC (.int 1)) c_)))) (pR (qg qh 2 (pU (a_ 1)) (.one 2) [] (⟨(pU (a_ 1)),(.one 3),[(tM (pT (e_ vm (a_ 2) (a_ 3))) (pT (e_ wC (e_ (fI zQ) (a_ 2) (a_ 3)) (dC (.tup (pd.map .int))))))]⟩::[]) (sk (b_ (a_ 2) (b_ (a_ 3) c_)))))))
def DV:List D->Ow->R D:=(qT 2 JY)
def zgO:qt ["function", "points"] ["function"] (qc (top 34)):='4'
def zgQ(T:Txt K mg):Callee P w K mg base "steps" 6 1 DV:=
 Callee.self (qZ (k:=5) T.d_steps zgO '3' λf o_ A outer s H E hr=>
  (have x0:Nx ["point", "other"]:=⟨⟩;(qx '1' (qx '1' (qQ '1')))))
def Hr:DS:=
 (pR (qg qh 1 (pU (j_ 1 Ew (b_ (a_ 0) c_))) (.one 1) [(tM (qj (j_ 2 Ey (b_ (a_ 0) (b_ (a_ 1) c_)))) (qj (j_ 2 Ej (b_ (a_ 0) (b_ (a_ 1) c_)))))] [] (a_ 1)))
def CB:List D->Ow->R D:=(qT 1 Hr)
def zal:qt ["function"] ["function"] (qc (top 26)):='4'
def z9o(T:Txt K mg):Callee P w K mg base "greatest" 7 1 CB:=
 Callee.self (qZ (k:=6) T.d_greatest zal '3' λf o_ A outer s H E hr=>
  (have x0:Nx ["term"]:=⟨⟩;(qQ (by delta Hr;walk_at "s"))))
def K9(Pt:Nat):DS:=
 (l_ (pS 2 (xA 1 (pU (j_ 1 CB (b_ (a_ 0) c_))) (.one 4) [] [] (a_ 4) (j_ 2 CD (b_ (a_ 4) (b_ (a_ 1) c_))))) (pR (e_ p8 (tJ Pt 3 2 (HK Pt) (b_ (a_ 2) (b_ (a_ 1) c_))) (dC (.int 0)))))
def HP(Pt:Nat):List D->Ow->R D:=(xu 4 3 Pt (K9 Pt))
def z51:qt ["function", "pairs", "held", "<tab>"] ["function", "pairs"] (qc (top 36)):='4'
def z50{c Pt:ae}(T:Txt K mg)(hT:yC K mg "covers" (top 30) c)(L:vM mg base c Pt):oH P w K mg base "least_keepers" 26 2 Pt (HP Pt):=
 oH.self (M3 (k:=25) (i:=3) (z := "<tab>") T.d_least_keepers z51 rfl (BV 'b') '3' λf o_ A outer s H E hr=>
  (have x0:Nx ["term"]:=⟨⟩;(qx '1' (qQ '1'))))
def K_(Pt:Nat):DS:=
 (l_ (rL (j_ 1 Ac (b_ (a_ 0) c_))) (l_ (pS 1 (qg qh 1 (pU (j_ 2 AZ (b_ (a_ 0) (b_ (dC (.int 1)) c_)))) (.one 3) [] [] (sk (b_ (a_ 3) (b_ (a_ 3) c_))))) (pR (tJ Pt 2 2 (HP Pt) (b_ (a_ 0) (b_ (e_ qP (a_ 1) (j_ 1 DV (b_ (a_ 0) c_))) c_))))))
def A0(Pt:Nat):List D->Ow->R D:=(xu 3 2 Pt (K_ Pt))
def z5q:qt ["function", "own_pairs", "<tab>"] ["function"] (qc (top 37)):='4'
def z5Z{c Pt:ae}(T:Txt K mg)(hT:yC K mg "covers" (top 30) c)(L:vM mg base c Pt):oH P w K mg base "least_smooth" 27 1 Pt (A0 Pt):=
 oH.self (M3 (k:=26) (i:=2) (z := "<tab>") T.d_least_smooth z5q rfl (BV 'b') '3' λf o_ A outer s H E hr=>
  (have x0:Nx ["point"]:=⟨⟩;(qx '1' (qx '1' (qQ '1')))))
def Vy(Pt:Nat):DS:=
 (l_ (rC (sO (b_ (m_ AA (b_ (dC (.int 1)) (b_ (m_ AI (b_ (m_ qi (b_ (a_ 0) c_)) (b_ (dC (.int 3)) c_))) c_))) c_)) (.one 1) (l_ (pS 2 (j_ 2 En (b_ (a_ 0) (b_ (a_ 1) c_)))) (l_ (pS 3 (j_ 3 CP (b_ (a_ 2) (b_ (e_ qP (dC (.int 1)) (j_ 2 vB (b_ (a_ 2) (b_ (dC (.int 4)) c_)))) (b_ (dC (.bl qb)) c_))))) (l_ (pS 4 (tJ Pt 6 1 (A0 Pt) (b_ (a_ 3) c_))) (l_ (qm (wW (sQ (qj (j_ 2 CM (b_ (a_ 3) (b_ (a_ 4) c_))))) (pT (e_ (pP qN) (j_ 2 CJ (b_ (a_ 3) (b_ (a_ 4) c_))) (rH c_)))) (pR (dC (.bl qh))) qo) (l_ (pS 5 (j_ 3 CN (b_ (a_ 3) (b_ (sk c_) (b_ (j_ 1 Eu (b_ (a_ 3) c_)) c_))))) (l_ (qm (pT (e_ (pP qN) (sk (b_ (m_ qi (b_ (a_ 4) c_)) (b_ (j_ 1 AR (b_ (a_ 4) c_)) c_))) (a_ 5))) (pR (dC (.bl qh))) qo) (qm (sQ (qj (j_ 2 Eh (b_ (tJ Pt 6 1 (A0 Pt) (b_ (a_ 3) c_)) (b_ (a_ 4) c_))))) (pR (dC (.bl qh))) qo)))))))) (pR (dC (.bl qb))))
def F_law(Pt:Nat):List D->Ow->R D:=xu 7 6 Pt (Vy Pt)
def WL:qt ["_law_script", "_law_k", "_law_state_here", "_law_function_here", "_law_found", "_law_cost", "<tab>"] ["_law_script"] (qc (top 60)):='4'
def W2{f c Pt:ae}{fd:eB}(hF:L2.Fun K "law" "law" (top 60) f fd)(T:Txt K mg)(hT:yC K mg "covers" (top 30) c)(L:vM mg base c Pt):oR P w K mg base xn 28 f fd ["_law_script"] (yA K yv 1 Pt (F_law Pt)):=
 U6 (k:=27) (i:=6) (z := "<tab>") hF WL rfl (BV 'b') λo_ A outer s H E hr=>
  ((qx '1' (qQ '1')))
def Xy{f c Pt:ae}{a:eB}(b:L2.Fun K "law" "law" (top 60) f a)(d:yC K mg "covers" (top 30) c)(T:Txt K mg)(L:vM mg base c Pt):oR P w K mg base xn 28 f a ["_law_script"] (yA K yv 1 Pt (F_law Pt)):=
 W2 b T d L
end
def fa_mk{K:ah}{h:aX}{mg:Str->Option ab}(X:K.In h)(G:h.Ns bI mg){n:Str}{st:eI}{f:ae}{c d:Option ae}{sl:Array (Option ab)}{e g i j m b:ab}(a:gC K bI n=KF (KF (.ref f)))
  (l:K.lookup f=KF ⟨e,c,.func (cB n n (xD st) (vh st) (qc st) .none g i j d b m),sl⟩) (q:fg K b n=qb) (k:cV K (.ref f)=qb):qF K mg n st:=⟨f,_,gQ X G a,JH l q k⟩
def gs_mk{K:ah}{h:aX}{mg:Str->Option ab}(X:K.In h)(G:h.Ns bI mg){n:Str}{cs:List Nat}{t:Tok}(s:gC K bI n=KF (KF (.str ⟨cs.toArray⟩ t))):IQ mg n cs:=⟨_,gQ X G s⟩
def gu_mk{K:ah}{h:aX}{mg:Str->Option ab}(X:K.In h)(G:h.Ns bI mg){n:Str}{a:List Int}{e:ae}{o:Obj}(d:gC K bI n=KF (KF (.ref e)))(u:K.lookup e=KF o)(v:IT o a=qb):IW K mg n a:=⟨_,_,gQ X G d,u,v⟩
def gt_mk{K:ah}{h:aX}{mg:Str->Option ab}(X:K.In h)(G:h.Ns bI mg){n:Str}{a:List (Int×Int)}{e:ae}{o:Obj}(d:gC K bI n=KF (KF (.ref e)))(u:K.lookup e=KF o)(v:Gi o a=qb)(y:(e==sysModules)=qh):Ay K mg n a:=⟨_,_,gQ X G d,u,v,y⟩
def all_mk{P:aP}{w:aY}{K:ah}{h:aX}{mg:Str->Option ab}{A:ae}(X:K.In h)(G:h.Ns bI mg)(n:mg "law" = KF (.ref A))(T:Txt K mg)
  {f:ae} {M B:Option ae} {sl:Array (Option ab)} {N C D E F:ab} {o:ab} (a:gC K bI "law" = KF (KF (.ref f)))
  (l:K.lookup f=KF ⟨N,M,.func (cB "law" "law" (xD (top 60)) (vh (top 60)) (qc (top 60)) .none C D E B o F),sl⟩) (q:fg K o "law" = qb) (k:cV K (.ref f)=qb)
  {m:ae} {p r:Option ae} {O:Array (Option ab)} {t v x y z:ab} {d:ae} (H:gC K bI "covers" = KF (KF (.ref m)))
  (I:K.lookup m=KF ⟨t,p,.func (cB "covers" "covers" (xD (top 30)) (vh (top 30)) (qc (top 30)) .none v x y r (.ref d) z),O⟩) (Q:fg K (.ref d) "covers" = qb) (R:cV K (.ref m)=qb)
  {Pt:ae} {g:ab} {i:Option ae} {j:Array (Option ab)} {b:Array ab} (S:K.lookup d=KF ⟨g,i,.fields b,j⟩) (U:b[11]?=KF (.ref Pt)) (V:jk K=qb)
  : jk K=qb/\∃(c Pt:ae),jN K "covers" = KF (c,Pt)/\∃J:eB,(∀(s:ag)(u:ab),k9 s J ⟨[u],[]⟩ [("_law_script",u)])/\∀base:aX,K.In base->base.Ns bI mg->vM mg base c Pt->oR P w K mg base xn 28 A J ["_law_script"] (yA K yv 1 Pt (F_law Pt)):=by have W:L2.Fun K "law" "law" (top 60) f (cB "law" "law" (xD (top 60)) (vh (top 60)) (qc (top 60)) .none C D E B o F):=JH l q k;have e:=n.symm.trans (gQ X G a);cases e;have Y:yC K mg "covers" (top 30) d:=⟨m,_,gQ X G H,JH I Q R,rfl⟩;exact⟨V,d,Pt,WH H I S U,_,λs u=>.of_eq rfl,λbase Z nb L=>Xy W Y T L⟩
end K87
-- UX 28
namespace K87
open PySem DL
noncomputable def Ji:D->Bool
 |.own _=>qh
 |.lst _=>qh
 |.tup _=>qh
 |.map _ _=>qh
 |_=>qb
def uI(n:Nat):D->Bool
 |.own k=>decide (k<n)
 |.lst _=>qh
 |.tup ds=>ds.all Ji
 |.map _ _=>qh
 |_=>qb
def uv(O:Ow):Prop:=∀c∈O,∀d∈c,uI O.length d=qb
def NW(h:Ji d=qb):frz O n f d=KF d:=by
 cases d with
 |own k=>cases h
 |lst ds=>cases h
 |tup ds=>cases h
 |map ks ds=>cases h
 |_=>cases f<;>rfl
def yV(h:uI n d=qb):frz O n (f+1) d=KF d:=by
 cases d with
 | own k=>
  have h:k<n:=by simpa [uI] using h
  unfold frz;dsimp only;rw[qq h]
 |lst ds=>cases h
 | tup ds=>
  show(qd (frz O n f) ds).map D.tup=_;rw[uA λd a=>NW (av.mp h d a)];rfl
 |map ks ds=>cases h
 |_=>rfl
def Ee(a:∀c∈O',∀d∈c,uI O'.length d=qb)(X:Ow)(h:frz (O'++X) O'.length 8 d=KF (.lst cs)):tK O'.length (.ok d (O'++X))=.ok (.lst cs) O':=by
 unfold tK;dsimp only;rw[h];have:(O'++X).take O'.length=O':=by simp
 rw[this,uA λc b=>uA λd e=>yV (a c b d e)]
def zbY(h:a<=b)(c:uI a d=qb):uI b d=qb:=by
 cases d with
 |own k=>simp[uI] at c ⊢;lia
 |_=>exact c
def zgh(h:uv O)(b:∀c∈X,∀d∈c,uI (O.length+X.length) d=qb):uv (O++X):=by
 intro c hc d a;rw[aw];rcases aQ.mp hc with hc|hc
 ·exact zbY (gL _ _) (h c hc d a)
 ·exact b c hc d a
def zfk(h:uv O)(a:∀d∈c,uI (O.length+1) d=qb):uv (O++[c]):=zgh h λx b d e=>by
 have:x=c:=by simpa using b
 subst this;exact a d e
def YP:Nat->List (List Nat)
 |0=>[[]]
 |n+1=>(YP n).flatMap λt=>[t++[45],t++[48],t++[49]]
noncomputable def Ph:Nat->List Nat
 |45=>[0,1]
 |49=>[1]
 |_=>[0]
def qp(cs:List Nat):List Nat:=cs.foldl (λps c=>ps.flatMap λp=>(Ph c).map (2*p + ·)) [0]
def qU(l:List Nat):List D:=l.map λ(p:Nat)=>D.int (p:Int)
def oO:List (List Nat):=YP 1++YP 2++YP 3++YP 4
def ZO(O:Ow):(oO.map λcs=>yW [.str cs] O)=oO.map λcs=>R.ok (.lst (qU (qp cs))) O:=by kernel_rfl
def zR:Nat->Nat->List Nat
 |0,_=>[]
 |n+1,p=>zR n (p/2)++[48+p%2]
def pk:List (List Nat×Nat):=oO.flatMap λcs=>(aO (2 ^ cs.length)).map λp=>(cs,p)
def pG:List (Nat×Nat):=[1,2,3,4].flatMap λn=>(aO (2 ^ n)).map λp=>(n,p)
def RD(b:1<=n)(c:n<=4)(a:p<2 ^ n):(n,p)∈pG:=by
 unfold pG;rw[eD];refine⟨n,?_,az.mpr ⟨p,bd.mpr a,rfl⟩⟩;have:n=1\/n=2\/n=3\/n=4:=by lia
 rcases this with rfl|rfl|rfl|rfl<;>simp
def JE(cs bs:List Nat):Bool:=(aO cs.length).all λi=>cs.getD i 0==45||cs.getD i 0==bs.getD i 1
noncomputable def sgn(c:Nat):Bool:=c==45||c==48||c==49
def bit(c:Nat):Bool:=c==48||c==49
def zcs:(pk.all λq=>JE q.1 (zR q.1.length q.2)==(qp q.1).contains q.2&&(zR q.1.length q.2).length==q.1.length&&(zR q.1.length q.2).all bit&&q.1.all sgn)=qb:=by decide +kernel
def QL(h:cs∈oO)(a:p<2 ^ cs.length):(cs,p)∈pk:=by unfold pk;rw[eD];exact⟨cs,h,az.mpr ⟨p,bd.mpr a,rfl⟩⟩
def K4(h:cs∈oO)(O:Ow):yW [.str cs] O=.ok (.lst (qU (qp cs))) O:=di.mp (ZO O) cs h
def z81(O:Ow):yX [.int 1] O=.ok (.lst ((YP 1).map .str)) O:=by kernel_rfl
def z7R(O:Ow):yX [.int 2] O=.ok (.lst ((YP 2).map .str)) O:=by kernel_rfl
def z72(O:Ow):yX [.int 3] O=.ok (.lst ((YP 3).map .str)) O:=by kernel_rfl
def z7L(O:Ow):yX [.int 4] O=.ok (.lst ((YP 4).map .str)) O:=by kernel_rfl
def zoN(O:Ow)(a:sgn c=qb)(d:bit b=qb):wa O (.str [c]) (.tup [.str [45],.str [b]])=.ok (.bl (!(c==45||c==b))) O:=by unfold sgn at a;unfold bit at d;simp only[eM,beq_iff_eq] at a d;rcases a with(rfl|rfl)|rfl<;>rcases d with rfl|rfl<;>kernel_rfl
def xo(d:D):Prop:=d=.int 0\/d=.int 1\/d=.non
def tS:D->Bool
 |.int i=>i==0
 |_=>qh
structure Fn(n:Nat)(f:List D):Prop where
 n1:1<=n
 n4:n<=4
 len:f.length=2 ^ n
 ans:∀d∈f,xo d
def r8(f:List D)(cs:List Nat):Bool:=(qp cs).all λp=>!tS (f.getD p .non)
def ne0(O:Ow)(h:xo d):pP qN O d (.int 0)=.ok (.bl (!tS d)) O:=by rcases h with rfl|rfl|rfl<;>kernel_rfl
def eq0(O:Ow)(h:xo d):pP qW O d (.int 0)=.ok (.bl (tS d)) O:=by rcases h with rfl|rfl|rfl<;>kernel_rfl
def yE(a:1<=n)(b:n<=4):n=1\/n=2\/n=3\/n=4:=by lia
def uO{n:Nat}(a:1<=n)(b:n<=4){cs:List Nat}(h:cs∈YP n):cs∈oO:=by unfold oO;rcases yE a b with rfl|rfl|rfl|rfl<;>simp[h]
def z7l:([1,2,3,4].all λn=>(YP n).all λcs=>cs.length==n)=qb:=by decide +kernel
def sD{n:Nat}(a:1<=n)(b:n<=4){cs:List Nat}(h:cs∈YP n):cs.length=n:=by have:=av.mp z7l n (by rcases yE a b with rfl|rfl|rfl|rfl<;>simp);simpa using av.mp this cs h
def zbK:(oO.all λcs=>(qp cs).all λp=>decide (p<2 ^ cs.length))=qb:=by decide +kernel
def GL(h:cs∈oO)(a:p∈qp cs):p<2 ^ cs.length:=by have:=av.mp zbK cs h;simpa using av.mp this p a
def z9T:(oO.all λcs=>decide ((qp cs).length<=16))=qb:=by decide +kernel
def P7(h:cs∈oO):(qp cs).length<=16:=by simpa using av.mp z9T cs h
theorem Qy:∀l:List Bool,wG (l.map D.bl)=KF l
 |[]=>rfl
 | b::l=>by
  show(wG (l.map D.bl)).map (b :: ·)=_;rw[Qy l];rfl
def Kq(O:Ow)(l:List Bool):x9 O [.lst (l.map D.bl)]=.ok (.bl (l.all id)) O:=by show(match wG (l.map D.bl) with|some bs=>R.ok (D.bl (bs.all id)) O|none=>R.bad)=_;rw[Qy]
def zX{f:List D}{p:Nat}(h:p<f.length):f.getD p .non=f[p]:=by rw[aG,al h];rfl
def K6{α:Type}(l:List α):l.filter (λ_=>qb)=l:=by simp
def Rx{n:Nat}{f:List D}(a:Fn n f){cs:List Nat}(h:cs∈YP n)(O:Ow):Ad [.tup f,.str cs] O=.ok (.bl (r8 f cs)) O:=by
 have b:=uO a.n1 a.n4 h;have l:=sD a.n1 a.n4 h;have c:pU (j_ 1 yW (b_ (a_ 1) c_)) [KF (.tup f),KF (.str cs)] O=.ok (.val (qU (qp cs))) O:=s_ ((uN (pX rfl) rfl).trans (K4 b O));have j:=KS (ext:=1) (i:=2) (ts:=[]) (te:=e_ (pP qN) (e_ p8 (a_ 0) (a_ 2)) (dC (.int 0))) (p:=λ_=>qb) (e:=λd=>.bl (match d with|.int i=>!tS (f.getD i.toNat .non)|_=>qh)) c (by unfold qU;have:=P7 b;simp;lia) (λd k=>rfl) (λd k _=>by
  obtain⟨q,m,rfl⟩:=az.mp k;have g:q<f.length:=by rw[a.len,<- l];exact GL b m
  refine(qY ((qY rfl rfl).trans (G5 (i:=q) g)) rfl).trans ((ne0 O (a.ans _ (bD g))).trans ?_);have:((q:Int)).toNat=q:=by lia
  show _=R.ok (D.bl (!tS (f.getD ((q:Int)).toNat .non))) O;rw[this,zX g]) qh
 have o:(((qU (qp cs)).filter λ_=>qb).map λd=>D.bl (match d with|.int i=>!tS (f.getD i.toNat .non)|_=>qh))=((qp cs).map λp=>!tS (f.getD p .non)).map D.bl:=by
  rw[K6];unfold qU;rw[bi,bi];exact fc λq _=>by
   show D.bl (!tS (f.getD ((q:Int)).toNat .non))=D.bl (!tS (f.getD q .non));have:((q:Int)).toNat=q:=by lia
   rw[this]
 rw[o] at j;show fin (pR _ [KF (.tup f),KF (.str cs)] O)=_;rw[rW ((vQ (pX j)).trans (Kq O _))];show R.ok (D.bl _) O=_;unfold r8;congr 2;rw[ki];rfl
def zeW(O:Ow)(h:xo d):Ei [d] O=.ok (.bl qb) O:=by rcases h with rfl|rfl|rfl<;>kernel_rfl
def AO(a:n<=4):2 ^ n<=16:=aI (c8 'u' a) 'u'
def Q2(O:Ow)(f:List D):qi O [.tup f]=.ok (.int f.length) O:=rfl
def z6s(a:Fn n f)(O:Ow):Ez [.tup f] O=.ok (.bl qb) O:=by
 have b:=KS (ext:=1) (i:=1) (ts:=[]) (te:=j_ 1 Ei (b_ (a_ 1) c_)) (it0:=pU (a_ 0)) (σ:=[KF (.tup f)]) (O:=O) (ds:=f) (p:=λ_=>qb) (e:=λ_=>.bl qb) rfl (by have:=AO a.n4;have:=a.len;lia) (λd c=>rfl) (λd c _=>(uN (pX rfl) rfl).trans (zeW O (a.ans d c))) qh;have g:(f.filter λ_=>qb).map (λ_=>D.bl qb)=(f.map λ_=>qb).map D.bl:=by rw[K6,bi];rfl
 rw[g] at b;have h:qm (wW (sQ (qj (rz "tuple" (a_ 0)))) (pT (yK qb wj (m_ qi (b_ (a_ 0) c_))))) (pR (dC (.bl qh))) qo [KF (.tup f)] O=.nx [KF (.tup f)] O:=by
  have:wW (sQ (qj (rz "tuple" (a_ 0)))) (pT (yK qb wj (m_ qi (b_ (a_ 0) c_)))) [KF (.tup f)] O=.ok qh O:=by
   show(pT (yK qb wj (m_ qi (b_ (a_ 0) c_))) [KF (.tup f)] O)=_;refine rK ?_;show R.ok (D.bl (if qb=qb then !(uw wj (f.length:Nat)).isSome else _)) O=_;rw[a.len];rcases yE a.n1 a.n4 with rfl|rfl|rfl|rfl<;>rfl
  rw[tO this];rfl
 show fin (l_ _ _ [KF (.tup f)] O)=_;rw[sv h,rW ((vQ (pX b)).trans (Kq O _))];show R.ok (D.bl _) O=_;congr 2;rw[ki];exact av.mpr λ_ _=>rfl
def JO(a:Fn n f)(O:Ow):Ac [.tup f] O=.ok .non O:=by show fin (qm _ _ qo [KF (.tup f)] O)=_;have b:j_ 1 Ez (b_ (a_ 0) c_) [KF (.tup f)] O=.ok (.bl qb) O:=(uN (pX rfl) rfl).trans (z6s a O);rw[tO (vS (s9 b))];rfl
def zah(a:Fn n f)(O:Ow):EA [.tup f] O=.ok (.int n) O:=by
 show fin (pR (Dp wj (m_ qi (b_ (a_ 0) c_))) [KF (.tup f)] O)=_;have:Dp wj (m_ qi (b_ (a_ 0) c_)) [KF (.tup f)] O=.ok (.int n) O:=by
  show(match uw wj (f.length:Nat) with|some v=>R.ok (D.int v) O|none=>R.bad)=_;rw[a.len];rcases yE a.n1 a.n4 with rfl|rfl|rfl|rfl<;>rfl
 rw[rW this];rfl
def Td{n:Nat}{f:List D}(a:Fn n f)(O:Ow):CO [.tup f] O=.ok (.int n) O:=by
 show fin (pR (Du [(2,1),(4,2),(8,3),(16,4)] (m_ qi (b_ (a_ 0) c_))) [KF (.tup f)] O)=_;have:Du [(2,1),(4,2),(8,3),(16,4)] (m_ qi (b_ (a_ 0) c_)) [KF (.tup f)] O=.ok (.int n) O:=by
  show(match Dq [(2,1),(4,2),(8,3),(16,4)] (f.length:Nat) with|some v=>R.ok (D.int v) O|none=>R.bad)=_;rw[a.len];rcases yE a.n1 a.n4 with rfl|rfl|rfl|rfl<;>rfl
 rw[rW this];rfl
def KN(a:1<=n)(b:n<=4):(YP n).length<=81:=by rcases yE a b with rfl|rfl|rfl|rfl<;>decide
def rJ(n:Nat)(f:List D):List (List Nat):=(YP n).filter (r8 f)
def wX:D->List Nat
 |.str cs=>cs
 |_=>[]
def zbM(l:List (List Nat))(p:List Nat->Bool):((l.map D.str).filter λd=>p (wX d)).map (λd=>d)=(l.filter p).map D.str:=by rw[List.map_id',nK];rfl
structure oZ(O:Ow)(m:Nat)(s:Int)(b:Bool):Prop where
 at_:O[m]?=KF [.int s,.bl b]
 nn:0<=s
 lt:b=qh->s<2147483647
def oZ.len{O:Ow}{m:Nat}{s:Int}{b:Bool}(h:oZ O m s b):m<O.length:=(aq.mp h.at_).1
def G_(h:O[m]?=KF [x,y]):p8 O (.own m) (.int 0)=.ok x O:=by show(match O[m]? with|some ds=>(match L2.atI ds 0 with|some d=>R.ok d O|none=>R.bad)|none=>_)=_;rw[h];rfl
def Ri(h:O[m]?=KF [x,y]):p8 O (.own m) (.int 1)=.ok y O:=by show(match O[m]? with|some ds=>(match L2.atI ds 1 with|some d=>R.ok d O|none=>R.bad)|none=>_)=_;rw[h];rfl
def QF(a:te σ O=.ok y O1)(b:to σ O1=.ok (.own k) O2)(c:ti σ O2=.ok (.int i) O3)(d:O3[k]?=KF ds)(e:L2.ixN ds.length i=KF j):
  yF te to ti σ O=.nx σ (O3.set k (ds.set j y)):=by show((te σ O).bnS _)=_;rw[a];show((to σ O1).bnS _)=_;rw[b];show((ti σ O2).bnS _)=_;rw[c];show(match O3[k]? with|some ds=>(match L2.ixN ds.length i with|some j=>RS.nx σ (O3.set k (ds.set j y))|none=>RS.bad)|none=>RS.bad)=_;rw[d];show(match L2.ixN ds.length i with|some j=>RS.nx σ (O3.set k (ds.set j y))|none=>RS.bad)=_;rw[e]
def Cg(h:0<j):fI uh O (.int i) (.int j)=.ok (.int (i%j)) O:=by show(match uh i j with|some d=>R.ok d O|none=>R.bad)=_;unfold uh;rw[qq h]
def OJ(h:0<j)(a:j<1073741824):fI wO O (.int i) (.int j)=.ok (.int (i/j)) O:=by show(match wO i j with|some d=>R.ok d O|none=>R.bad)=_;unfold wO;rw[qq ⟨h,a⟩]
def Cq(h:-1000000000000000<i)(a:i<1000000000000000):fI ur O (.int i) (.int j)=.ok (.int (i*j)) O:=by show(match ur i j with|some d=>R.ok d O|none=>R.bad)=_;unfold ur;rw[qq (.inl ⟨h,a⟩)]
def yS:qP O (.int i) (.int j)=.ok (.int (i+j)) O:=rfl
def GU(h:oZ O m s b)(H:1<=k)(I:k<=1000):
  ∃(r:Nat)(d:Int),r<k/\vB [.own m,.int k] O=.ok (.int r) (O.set m [.int d,.bl b])/\oZ (O.set m [.int d,.bl b]) m d b:=by
 have f:(0:Int)<(k:Int):=by lia
 have g:∀d,(O.set m [.int d,.bl b])[m]?=KF [D.int d,D.bl b]:=λd=>by rw[bB h.len]
 have A:∀x:Int,∃r:Nat,r<k/\x%(k:Int)=(r:Int):=λx=>by
  have J:=jb x (show(k:Int)≠0 by lia);have K:=ij x f;exact⟨(x%(k:Int)).toNat,by lia,by lia⟩
 cases b with
 | true=>
  obtain⟨r,i,l⟩:=A s;refine⟨r,s/k,i,?_,g _,Int.ediv_nonneg h.nn 'd',λz=>by cases z⟩;have n:qj (e_ p8 (a_ 0) (dC (.int 1))) [KF (.own m),KF (.int k),KM,KM] O=.ok qb O:=s9 ((qY rfl rfl).trans (Ri h.at_));have o:pS 2 (e_ (fI uh) (e_ p8 (a_ 0) (dC (.int 0))) (a_ 1)) [KF (.own m),KF (.int k),KM,KM] O=.nx [KF (.own m),KF (.int k),KF (.int r),KM] O:=by
   rw[xC ((qY ((qY rfl rfl).trans (G_ h.at_)) rfl).trans (Cg f)),l];rfl
  have p:yF (e_ (fI wO) (e_ p8 (a_ 0) (dC (.int 0))) (a_ 1)) (a_ 0) (dC (.int 0)) [KF (.own m),KF (.int k),KF (.int r),KM] O=.nx [KF (.own m),KF (.int k),KF (.int r),KM] (O.set m [.int (s/k),.bl qb]):=
   QF (ds:=[.int s,.bl qb]) (j:=0) ((qY ((qY rfl rfl).trans (G_ h.at_)) rfl).trans (OJ f 'd')) rfl rfl h.at_ rfl
  show fin (l_ (qm _ _ _) _ [KF (.own m),KF (.int k),KM,KM] O)=_;have q:qm (qj (e_ p8 (a_ 0) (dC (.int 1)))) (l_ (pS 2 (e_ (fI uh) (e_ p8 (a_ 0) (dC (.int 0))) (a_ 1))) (l_ (yF (e_ (fI wO) (e_ p8 (a_ 0) (dC (.int 0))) (a_ 1)) (a_ 0) (dC (.int 0))) (pR (a_ 2)))) qo [KF (.own m),KF (.int k),KM,KM] O=.rt (.int r) (O.set m [.int (s/k),.bl qb]):=by
   rw[tO n,qq rfl,sv o,sv p];rfl
  rw[Cm q];rfl
 | false=>
  have L:=h.lt rfl;let a:Int:=(s*48271+29)%2147483647;have t:0<=a:=jb _ 'u';have u:a<2147483647:=ij _ 'u';let c:=O.set m [.int a,.bl qh];have B:c[m]?=KF [D.int a,D.bl qh]:=g a;let e:Int:=(a*a+39373*a+7)%2147483629;have C:0<=e:=jb _ 'u';have E:e<2147483629:=ij _ 'u';let v:Int:=(e*e+16807*e)%2147483587;have n:qj (e_ p8 (a_ 0) (dC (.int 1))) [KF (.own m),KF (.int k),KM,KM] O=.ok qh O:=s9 ((qY rfl rfl).trans (Ri h.at_));have F:qm (qj (e_ p8 (a_ 0) (dC (.int 1)))) (l_ (pS 2 (e_ (fI uh) (e_ p8 (a_ 0) (dC (.int 0))) (a_ 1))) (l_ (yF (e_ (fI wO) (e_ p8 (a_ 0) (dC (.int 0))) (a_ 1)) (a_ 0) (dC (.int 0))) (pR (a_ 2)))) qo [KF (.own m),KF (.int k),KM,KM] O=.nx [KF (.own m),KF (.int k),KM,KM] O:=by
   rw[tO n];rfl
  have o:yF (e_ (fI uh) (e_ qP (e_ (fI ur) (e_ p8 (a_ 0) (dC (.int 0))) (dC (.int 48271))) (dC (.int 29))) (dC (.int 2147483647))) (a_ 0) (dC (.int 0)) [KF (.own m),KF (.int k),KM,KM] O=.nx [KF (.own m),KF (.int k),KM,KM] c:=
   QF (ds:=[.int s,.bl qh]) (j:=0) ((qY ((qY ((qY ((qY rfl rfl).trans (G_ h.at_)) rfl).trans (Cq (by have:=h.nn;lia) 'd')) rfl).trans yS) rfl).trans (Cg 'u')) rfl rfl h.at_ rfl
  have y:∀z w,e_ p8 (a_ 0) (dC (.int 0)) [KF (.own m),KF (.int k),z,w] c=.ok (.int a) c:=λz w=>(qY rfl rfl).trans (G_ B);have p:pS 3 (e_ (fI uh) (e_ qP (e_ qP (e_ (fI ur) (e_ p8 (a_ 0) (dC (.int 0))) (e_ p8 (a_ 0) (dC (.int 0)))) (e_ (fI ur) (dC (.int 39373)) (e_ p8 (a_ 0) (dC (.int 0))))) (dC (.int 7))) (dC (.int 2147483629))) [KF (.own m),KF (.int k),KM,KM] c=.nx [KF (.own m),KF (.int k),KM,KF (.int e)] c:=
   xC ((qY ((qY ((qY ((qY (y KM KM) (y KM KM)).trans (Cq 'd' 'd')) ((qY rfl (y KM KM)).trans (Cq 'u' 'u'))).trans yS) rfl).trans yS) rfl).trans (Cg 'u'))
  have q:pS 3 (e_ (fI uh) (e_ qP (e_ (fI ur) (a_ 3) (a_ 3)) (e_ (fI ur) (dC (.int 16807)) (a_ 3))) (dC (.int 2147483587))) [KF (.own m),KF (.int k),KM,KF (.int e)] c=.nx [KF (.own m),KF (.int k),KM,KF (.int v)] c:=
   xC ((qY ((qY ((qY rfl rfl).trans (Cq 'd' 'd')) ((qY rfl rfl).trans (Cq 'u' 'u'))).trans yS) rfl).trans (Cg 'u'))
  obtain⟨r,i,l⟩:=A (v/8);refine⟨r,a,i,?_,g _,t,λ_=>u⟩;have G:pR (e_ (fI uh) (e_ (fI wO) (a_ 3) (dC (.int 8))) (a_ 1)) [KF (.own m),KF (.int k),KM,KF (.int v)] c=.rt (.int r) c:=by
   rw[rW ((qY ((qY rfl rfl).trans (OJ 'u' 'u')) rfl).trans (Cg f)),l]
  show fin (l_ _ _ [KF (.own m),KF (.int k),KM,KM] O)=_;rw[sv F,sv o,sv p,sv q,G];rfl
def zgM{ns:List Int}{k:Nat}(O:Ow):∃s b,En [.lst (ns.map .int),.int k] O=.ok (.own O.length) (O++[[.int s,.bl b]])/\oZ (O++[[.int s,.bl b]]) O.length s b:=by
 have f:∀s b,(O++[[D.int s,D.bl b]])[O.length]?=KF [D.int s,D.bl b]:=λs b=>by simp
 obtain⟨c,l⟩:∃c:Int,Er [.lst (ns.map .int),.int k] O=.ok (.int c) O:=by
  have d:pT (e_ vm (a_ 1) (m_ qi (b_ (a_ 0) c_))) [KF (.lst (ns.map .int)),KF (.int k)] O=.ok (decide ((k:Int)<(ns.map D.int).length)) O:=rK ((qY rfl ((vQ (pX rfl)).trans rfl)).trans rfl);by_cases g:(k:Int)<(ns.map D.int).length
  ·have e:k<(ns.map D.int).length:=by lia
   have m:e_ p8 (a_ 0) (a_ 1) [KF (.lst (ns.map .int)),KF (.int k)] O=.ok (ns.map D.int)[k] O:=(qY rfl rfl).trans (J0 e);refine⟨ns[k]'(by simpa using e),?_⟩;show fin (l_ _ _ [KF (.lst (ns.map .int)),KF (.int k)] O)=_;have a:qm (pT (e_ vm (a_ 1) (m_ qi (b_ (a_ 0) c_)))) (pR (e_ p8 (a_ 0) (a_ 1))) qo [KF (.lst (ns.map .int)),KF (.int k)] O=.rt (.int (ns[k]'(by simpa using e))) O:=by
    rw[tO d,qq (decide_eq_true g),rW m];simp
   rw[Cm a];rfl
  ·refine⟨0,?_⟩;show fin (l_ _ _ [KF (.lst (ns.map .int)),KF (.int k)] O)=_;have a:qm (pT (e_ vm (a_ 1) (m_ qi (b_ (a_ 0) c_)))) (pR (e_ p8 (a_ 0) (a_ 1))) qo [KF (.lst (ns.map .int)),KF (.int k)] O=.nx [KF (.lst (ns.map .int)),KF (.int k)] O:=by
    rw[tO d,qM (by simpa using g)];rfl
   rw[sv a];rfl
 have h:pS 2 (j_ 2 Er (b_ (a_ 0) (b_ (a_ 1) c_))) [KF (.lst (ns.map .int)),KF (.int k),KM] O=.nx [KF (.lst (ns.map .int)),KF (.int k),KF (.int c)] O:=xC ((uN (qA rfl rfl) rfl).trans l);have i:∀σ,e_ (fI xt) (dC (.int 10)) (dC (.int 18)) σ O=.ok (.int 1000000000000000000) O:=λσ=>by
  refine(qY (σ:=σ) (O:=O) rfl rfl).trans ?_;kernel_rfl
 have d:pT (e_ BI (a_ 2) (e_ (fI xt) (dC (.int 10)) (dC (.int 18)))) [KF (.lst (ns.map .int)),KF (.int k),KF (.int c)] O=.ok (decide ((1000000000000000000:Int)<=c)) O:=rK ((qY rfl (i _)).trans rfl);by_cases j:(1000000000000000000:Int)<=c
 ·refine⟨c-1000000000000000000,qb,?_,f _ _,by lia,λz=>by cases z⟩;have a:qm (pT (e_ BI (a_ 2) (e_ (fI xt) (dC (.int 10)) (dC (.int 18))))) (pR (uK (b_ (e_ (fI uu) (a_ 2) (e_ (fI xt) (dC (.int 10)) (dC (.int 18)))) (b_ (dC (.bl qb)) c_)))) qo [KF (.lst (ns.map .int)),KF (.int k),KF (.int c)] O=.rt (.own O.length) (O++[[.int (c-1000000000000000000),.bl qb]]):=by
   rw[tO d,qq (decide_eq_true j)];refine rW ?_;show((b_ _ _ _ O).bnd _)=_;rw[qA ((qY rfl (i _)).trans rfl) rfl];rfl
  show fin (l_ _ _ [KF (.lst (ns.map .int)),KF (.int k),KM] O)=_;rw[sv h,Cm a];rfl
 ·refine⟨c%2147483647,qh,?_,f _ _,jb _ 'u',λ_=>ij _ 'u'⟩;have a:qm (pT (e_ BI (a_ 2) (e_ (fI xt) (dC (.int 10)) (dC (.int 18))))) (pR (uK (b_ (e_ (fI uu) (a_ 2) (e_ (fI xt) (dC (.int 10)) (dC (.int 18)))) (b_ (dC (.bl qb)) c_)))) qo [KF (.lst (ns.map .int)),KF (.int k),KF (.int c)] O=.nx [KF (.lst (ns.map .int)),KF (.int k),KF (.int c)] O:=by
   rw[tO d,qM (by simpa using j)];rfl
  show fin (l_ _ _ [KF (.lst (ns.map .int)),KF (.int k),KM] O)=_;rw[sv h,sv a];have n:uK (b_ (e_ (fI uh) (a_ 2) (dC (.int 2147483647))) (b_ (dC (.bl qh)) c_)) [KF (.lst (ns.map .int)),KF (.int k),KF (.int c)] O=.ok (.own O.length) (O++[[.int (c%2147483647),.bl qh]]):=by
   show((b_ _ _ _ O).bnd _)=_;rw[qA ((qY rfl rfl).trans (Cg 'u')) rfl];rfl
  rw[rW n];rfl
def zgN(h:uv O)(m:Nat)(s:Int)(b:Bool):uv (O.set m [.int s,.bl b]):=by
 intro c e d a;rw[ee];rcases g8 e with f|rfl
 ·exact h c f d a
 ·simp only[am,aW,or_false] at a;rcases a with rfl|rfl<;>rfl
def zgR(a:uv O')(X:Ow)(h:frz (O'++X) O'.length 8 d=KF d'):tK O'.length (.ok d (O'++X))=.ok d' O':=by
 unfold tK;dsimp only;rw[h];have:(O'++X).take O'.length=O':=by simp
 rw[this,uA λc b=>uA λd e=>yV (a c b d e)]
theorem KC:∀(n:Nat)(cs:List Nat),cs.length=n->(∀c∈cs,sgn c=qb)->cs∈YP n
 | 0,cs,h,_=>by
  have:cs=[]:=cG.mp h;subst this;simp[YP]
 | n+1,cs,h,hs=>by
  have b:cs≠[]:=by intro e;subst e;simp at h
  obtain⟨t,c,rfl⟩:∃t c,cs=t++[c]:=⟨_,_,(List.dropLast_concat_getLast b).symm⟩;have d:=KC n t (by simpa using h) λc f=>hs c (bM _ f);unfold YP;rw[eD];refine⟨t,d,?_⟩;have a:=hs c 'k';unfold sgn at a;simp only[eM,beq_iff_eq] at a;rcases a with(z|z)|z<;>rw[z]<;>simp
def XF{σ:Sg}{O:Ow}{t:DE}{n:Nat}(a:n<=4)(h:t σ O=.ok (.int n) O):e_ (fI vg) (dC (.int 1)) t σ O=.ok (.int ((2 ^ n:Nat):Int)) O:=by
 refine(qY rfl h).trans ?_;have:n=0\/n=1\/n=2\/n=3\/n=4:=by lia
 rcases this with rfl|rfl|rfl|rfl|rfl<;>rfl
def PX(h:∀d∈ds,uI n d=qb):frz O n (f+2) (.tup ds)=KF (.tup ds):=by show(qd (frz O n (f+1)) ds).map D.tup=_;rw[uA λd a=>yV (h d a)];rfl
def zfa(h:xo d)(n:Nat):uI n d=qb:=by rcases h with rfl|rfl|rfl<;>rfl
theorem Se{src:Src}{step:D->Ow->List D->R (List D)}{O:Ow}{g:D->List D}{all:List D}(b:∀i,src.get O i=all[i]?):∀(ds a KB:List D)(f:Nat),all=a++ds->ds.length<=f->(∀d∈ds,∀KB:List D,KB.length<4000000->step d O KB=.ok (KB++g d) O)->KB.length+(ds.flatMap g).length+ds.length<4000000->
  qD src step f a.length O KB=.ok (KB++ds.flatMap g) O
 | [],a,KB,f,ha,_,_,_=>by
  have e:src.get O a.length=KM:=by rw[b,ha];simp
  cases f<;>(unfold qD;rw[e];simp)
 |d::ds,a,KB,0,_,h,_,_=>by simp at h
 | d::ds,a,KB,f+1,ha,h,hs,hl=>by
  unfold qD;have e:src.get O a.length=KF d:=by rw[b,ha];simp
  rw[e];simp only[cg,aw,aV] at hl;show((step d O KB).bnd λc j=>qD src step f (a.length+1) j c)=_;rw[hs d ar KB 'd'];show qD src step f (a.length+1) O (KB++g d)=_;have:=Se b ds (a++[d]) (KB++g d) f (by rw[ha];simp) (by simpa using h) (λk l=>hs k (aj _ l)) (by rw[aw];lia);rw[aw,fA] at this;rw[this];simp
def zdh{ext:Nat}{it0:DI}{g:Tg}{ts:List DT}{te:DE}{σ:Sg}{O:Ow}{src:Src}{ds:List D}{p:D->Bool}{e:D->D}{τ:D->Sg}(q:it0 σ O=.ok src O)(r:∀i,src.get O i=ds[i]?)(hsz:src.size O=ds.length)(z:ds.length<1900000)
  (s:∀d∈ds,g.put d (ql (ql (σ++aS ext KM) (g.slots++[])) (g.slots++[]))=KF (τ d)) (t:∀d∈ds,tG ts (τ d) O=.ok (p d) O) (u:∀d∈ds,p d=qb->te (τ d) O=.ok (e d) O) (o:Bool):
  qg o ext it0 g ts [] te σ O=vo o (.ok ((ds.filter p).map e) O):=by
 unfold qg zY;rw[q];show vo o (xH (qD src _ (src.size O) 0 O []))=_;have c:∀d∈ds,∀a:List D,a.length<4000000->yb ⟨it0,g,ts⟩ [] te (ql (σ++aS ext KM) (qu [⟨it0,g,ts⟩])) d O a=.ok (a++(if p d=qb then [e d] else [])) O:=by
  intro d k a v;show(match g.put d (ql (ql (σ++aS ext KM) (g.slots++[])) (g.slots++[])) with|some qL=>(tG ts qL O).bnd λb m=>if b=qb then ui [] te qL m a else .ok a m|none=>.bad)=_;rw[s d k];show(tG ts (τ d) O).bnd _=_;rw[t d k];show(if p d=qb then ui [] te _ O a else .ok a O)=_;by_cases f:p d=qb
  ·rw[qq f,qq f];unfold ui;rw[u d k f];show(if a.length<4000000 then _ else _)=_;rw[qq v]
  ·rw[qM f,qM f];simp
 have n:∀l:List D,(l.flatMap λd=>if p d=qb then [e d] else [])=(l.filter p).map e:=by
  intro l
  induction l with
  |nil=>rfl
  | cons x l ih=>
   rw[cg,ih,dW];by_cases j:p x=qb
   ·rw[qq j,qq j];rfl
   ·rw[qM j,qM j];rfl
 have h:((ds.filter p).map e).length<=ds.length:=by rw[au];exact bg _ _
 have w:=Se (O:=O) (g:=λd=>if p d=qb then [e d] else []) r ds [] [] ds.length rfl (aC _) c (by rw[n];simp at h ⊢;lia);rw[n,ef] at w;have y:qD src (yb ⟨it0,g,ts⟩ [] te (ql (σ++aS ext KM) (qu [⟨it0,g,ts⟩]))) (src.size O) 0 O []=.ok ((ds.filter p).map e) O:=by rw[hsz];exact w
 rw[y];rfl
def CF(h:rD O x=KF xs):∃src,Gy x=KF src/\(∀i,src.get O i=xs[i]?)/\src.size O=xs.length:=by
 cases x with
 |lst ds=>cases h;exact⟨.val xs,rfl,λ_=>rfl,rfl⟩
 | own k=>
  have h:O[k]?=KF xs:=h;refine⟨.own k,rfl,λi=>?_,?_⟩
  ·show(match O[k]? with|some ds=>ds[i]?|none=>KM)=_;rw[h]
  ·show(match O[k]? with|some ds=>ds.length|none=>0)=_;rw[h]
 |_=>cases h
def P6(h:rD O x=KF xs):qi O [x]=.ok (.int xs.length) O:=by show(match rD O x with|some ds=>R.ok (D.int ds.length) O|none=>_)=_;rw[h]
structure Sq(O:Ow)(x:D)(xs:List D)(kd:String):Prop where
 zk:∃src,xY x=KF src/\(∀i,src.get O i=xs[i]?)/\src.size O=xs.length
 ln:qi O [x]=.ok (.int xs.length) O
 kind:sG x=kd
def Pa(O:Ow)(xs:List D):Sq O (.tup xs) xs "tuple":=⟨⟨_,rfl,λ_=>rfl,rfl⟩,rfl,rfl⟩
def zfz{k:Nat}{O:Ow}{x y:D}{xs c:List D}{kd:String}(o:Sq O x xs kd)(s:Sq O y c kd)(t:kd = "list" \/ kd = "tuple")(H:xs.length=c.length)(Y:c.length<10000)(I:∀(i:Nat)(x y:D),xs[i]?=KF x->c[i]?=KF y->AW k [x,y] O=.ok (.bl qb) O):AW (k+1) [x,y] O=.ok (.bl qb) O:=by
 obtain⟨f,J,K,L⟩:=o.zk;obtain⟨l,M,N,P⟩:=s.zk;have B:=o.kind;have u:=s.kind;have h:Gx (b_ (a_ 0) (b_ (a_ 1) c_)) [KF x,KF y] O=.ok (.zip f l) O:=by
  show(match xY x,xY y with|some p,KF q=>R.ok (Src.zip p q) O|_,_=>R.bad)=_;rw[J,M]
 have v:∀i,(Src.zip f l).get O i=((xs.zip c).map λq=>D.tup [q.1,q.2])[i]?:=by
  intro i;show(match f.get O i,l.get O i with|some x,KF y=>KF (D.tup [x,y])|_,_=>KM)=_;rw[K,N,be];cases m:xs[i]? with
  | none=>
   have:(xs.zip c)[i]?=KM:=by
    rw[a8] at m ⊢;rw[g7];lia
   rw[this];rfl
  | some a=>
   have h:=(aq.mp m).1;have j:c[i]?=KF c[i]:=al 'd';have:(xs.zip c)[i]?=KF (a,c[i]):=j7.mpr ⟨m,j⟩;rw[this,j];rfl
 have w:(Src.zip f l).size O=((xs.zip c).map λq=>D.tup [q.1,q.2]).length:=by
  show min (f.size O) (l.size O)=_;rw[L,P,au,g7]
 have C:=zdh (ext:=2) (g:=.two 2 3) (ts:=[]) (te:=j_ 2 (AW k) (b_ (a_ 2) (b_ (a_ 3) c_))) (p:=λ_=>qb) (e:=λ_=>.bl qb) (τ:=λd=>match d with|.tup [a,b]=>[KF x,KF y,KF a,KF b]|_=>[]) h v w (by rw[au,g7];lia)
  (λd n=>by obtain⟨q,_,rfl⟩:=az.mp n;rfl) (λd n=>rfl) (λd n _=>by
   obtain⟨q,Q,rfl⟩:=az.mp n;obtain⟨i,h,e⟩:=cY.mp Q;have e:(xs.zip c)[i]?=KF (q.1,q.2):=by rw[al h,e]
   obtain⟨m,j⟩:=j7.mp e;exact(uN (qA rfl rfl) rfl).trans (I i q.1 q.2 m j)) qh
 have j:((((xs.zip c).map λq=>D.tup [q.1,q.2]).filter λ_=>qb).map λ_=>D.bl qb)=((xs.zip c).map λ_=>qb).map D.bl:=by rw[K6,bi,bi];rfl
 rw[j] at C;have S:qj (Cb "tuple" "list" (a_ 1)) [KF x,KF y] O=.ok qb O:=by
  show qj (λ_ O=>if (sG y == "function")=qb then .bad else R.ok (D.bl (uH (sG y) "tuple" || uH (sG y) "list")) O) [KF x,KF y] O=_;rw[u];rcases t with rfl|rfl<;>rfl
 have E:∀z:D,sG z=kd->∀i,([KF x,KF y]:Sg)[i]?=KF (KF z)->rz "tuple" (a_ i) [KF x,KF y] O=.ok (.bl (uH kd "tuple")) O:=λz A i h=>by
  show(((match ([KF x,KF y]:Sg)[i]? with|some (KF d)=>R.ok d O|_=>R.bad):R D).bnd _)=_;rw[h];show(if (sG z == "function")=qb then R.bad else R.ok (D.bl (uH (sG z) "tuple")) O)=_;rw[A];rcases t with rfl|rfl<;>rfl
 have F:∀z:D,sG z=kd->∀i,([KF x,KF y]:Sg)[i]?=KF (KF z)->rz "list" (a_ i) [KF x,KF y] O=.ok (.bl (uH kd "list")) O:=λz A i h=>by
  show(((match ([KF x,KF y]:Sg)[i]? with|some (KF d)=>R.ok d O|_=>R.bad):R D).bnd _)=_;rw[h];show(if (sG z == "function")=qb then R.bad else R.ok (D.bl (uH (sG z) "list")) O)=_;rw[A];rcases t with rfl|rfl<;>rfl
 have G:∀b:Bool,pP qN O (.bl b) (.bl b)=.ok (.bl qh) O:=λb=>by cases b<;>kernel_rfl
 have T:wW (pT (e_ (pP qN) (rz "tuple" (a_ 0)) (rz "tuple" (a_ 1)))) (pT (e_ (pP qN) (rz "list" (a_ 0)) (rz "list" (a_ 1)))) [KF x,KF y] O=.ok qh O:=by
  have U:pT (e_ (pP qN) (rz "tuple" (a_ 0)) (rz "tuple" (a_ 1))) [KF x,KF y] O=.ok qh O:=rK ((qY (E x B 0 rfl) (E y u 1 rfl)).trans (G _));have V:pT (e_ (pP qN) (rz "list" (a_ 0)) (rz "list" (a_ 1))) [KF x,KF y] O=.ok qh O:=rK ((qY (F x B 0 rfl) (F y u 1 rfl)).trans (G _));show((pT (e_ (pP qN) (rz "tuple" (a_ 0)) (rz "tuple" (a_ 1))) [KF x,KF y] O).bnd _)=_;rw[U];exact V
 have W:pT (e_ (pP qN) (m_ qi (b_ (a_ 0) c_)) (m_ qi (b_ (a_ 1) c_))) [KF x,KF y] O=.ok qh O:=by
  refine rK ((qY ((vQ (pX rfl)).trans o.ln) ((vQ (pX rfl)).trans s.ln)).trans ?_);rw[H];show R.ok (D.bl (!((c.length:Int)==(c.length:Int)))) O=_;simp
 show fin (l_ _ _ [KF x,KF y] O)=_;have X:∀(a:DS),l_ (qm (qj (Cb "tuple" "list" (a_ 1))) a qo) (pR (wN (e_ (pP qW) (a_ 0) (a_ 1)) (e_ (pP qW) (rz "bool" (a_ 0)) (rz "bool" (a_ 1))))) [KF x,KF y] O=match a [KF x,KF y] O with|.nx σ' O'=>pR (wN (e_ (pP qW) (a_ 0) (a_ 1)) (e_ (pP qW) (rz "bool" (a_ 0)) (rz "bool" (a_ 1)))) σ' O'|r=>r:=λa=>by
  show(match qm (qj (Cb "tuple" "list" (a_ 1))) a qo [KF x,KF y] O with|.nx σ' O'=>_|r=>r)=_;rw[tO S,qq rfl]
 rw[X,sv (σ':=[KF x,KF y]) (O1:=O) (by rw[tO T];rfl),sv (σ':=[KF x,KF y]) (O1:=O) (by rw[tO W];rfl),rW ((vQ (pX C)).trans (Kq O _))];show R.ok (D.bl _) O=_;congr 2;rw[ki];exact av.mpr λ_ _=>rfl
def Qh{α:Type}{it:DI}{g:Tg}{body:DS}{σ:Sg}{O0 O:Ow}{src:Src}{l:List α}{inj:α->D}(o:it σ O0=.ok src O)(hsz:src.size O=l.length)(I:Nat->Sg->Ow->Prop)
  (h:∀(k:Nat)a σ O,l[k]?=KF a->I k σ O->src.get O k=KF (inj a)/\∃j σ' b,g.put (inj a) σ=KF j/\body j O=.nx σ' b/\I (k+1) σ' b) (n:∀σ O,I l.length σ O->src.get O l.length=KM) (p:I 0 σ O):
  ∃σ' b,rC it g body σ O0=.nx σ' b/\I l.length σ' b:=by
 have e:∀(f i:Nat)(σ:Sg)(O:Ow),I i σ O->l.length<=i+f->i<=l.length->∃σ' b,tN src (λd σ O=>match g.put d σ with|some σ'=>body σ' O|none=>.bad) f i σ O=.nx σ' b/\I l.length σ' b:=by
  intro f
  induction f with
  | zero=>
   intro i σ O c q r;have:i=l.length:=by lia
   subst this;unfold tN;rw[n σ O c];exact⟨σ,O,rfl,c⟩
  | succ f ih=>
   intro i σ O c q r;by_cases m:i=l.length
   ·subst m;unfold tN;rw[n σ O c];exact⟨σ,O,rfl,c⟩
   ·have s:i<l.length:=by lia
    obtain⟨t,j,σ',b,u,v,w⟩:=h i l[i] σ O (al s) c;unfold tN;rw[t];dsimp only;rw[u];dsimp only;rw[v];exact ih (i+1) σ' b w 'd' 'd'
 obtain⟨σ',b,x,y⟩:=e (src.size O) 0 σ O p 'd' (bE _);exact⟨σ',b,(J_ o).trans x,y⟩
def Q_(a:σ[i]?=KF (KF (.own k)))(b:t σ O=.ok y O1)(c:rD O1 y=KF es)(d:O1[k]?=KF ds)(e:ds.length+es.length<=4000000):
  rL (wM (a_ i) (b_ t c_)) σ O=.nx σ (O1.set k (ds++es)):=by refine Hb (x:=.non) ?_;unfold wM a_;rw[a];show((b_ t c_ σ O).bnd _)=_;rw[pX b];show(match [y],O1[k]? with|[y],KF ds=>(match rD O1 y with|some es=>if ds.length+es.length<=4000000 then R.ok D.non (O1.set k (ds++es)) else R.bad|none=>R.bad)|_,_=>R.bad)=_;rw[d];dsimp only;rw[c];dsimp only;rw[qq e]
def D7(a:σ[i]?=KF (KF (.own k)))(b:t σ O=.ok y O1)(c:O1[k]?=KF ds)(d:ds.length<4000000):
  rL (vn (a_ i) (b_ t c_)) σ O=.nx σ (O1.set k (ds++[y])):=by refine Hb (x:=.non) ?_;unfold vn a_;rw[a];show((b_ t c_ σ O).bnd _)=_;rw[pX b];show(match [y],O1[k]? with|[y],KF ds=>if ds.length<4000000 then R.ok D.non (O1.set k (ds++[y])) else R.bad|_,_=>R.bad)=_;rw[c];dsimp only;rw[qq d]
def z8:(O++[x]).set O.length y=O++[y]:=by rw[lz _ _ (aC _),ie];rfl
def vU:(O++[x])[O.length]?=KF x:=by simp
def OV(h:t σ O=.ok x O1)(a:Gy x=KF src):pU t σ O=.ok src O1:=by
 unfold pU;rw[h];cases x with
 |lst ds=>cases a;rfl
 |own k=>cases a;rfl
 |_=>cases a
def Cu(h:rD O x=KF xs):rD (O++X) x=KF xs:=by
 cases x with
 |lst ds=>exact h
 | own k=>
  have h:O[k]?=KF xs:=h;show(O++X)[k]?=KF xs;rw[aH (aq.mp h).1];exact h
 |_=>cases h
def oZ.more(h:oZ O m s b):oZ (O++X) m s b:=⟨by rw[aH h.len];exact h.at_,h.nn,h.lt⟩
def yH(t:List Nat):List (List Nat):=[t++[45],t++[48],t++[49]]
def z8a{n:Nat}(V:n<=4){O:Ow}(G:uv O):HF [.int n] O=.ok (.lst ((YP n).map .str)) O:=by
 have u:∀i,i<=4->(YP i).length<=81:=λi H=>by
  have:i=0\/i=1\/i=2\/i=3\/i=4:=by lia
  rcases this with rfl|rfl|rfl|rfl|rfl<;>decide
 have I:∀i,i<=4->∀t∈YP i,t.length<=4:=λi H t b=>by
  have:i=0\/i=1\/i=2\/i=3\/i=4:=by lia
  rcases this with rfl|rfl|rfl|rfl|rfl
  ·simp[YP] at b;simp[b]
  ·rw[sD 'u' 'u' b];decide
  ·rw[sD 'u' 'u' b];decide
  ·rw[sD 'u' 'u' b];decide
  ·rw[sD 'u' 'u' b];decide
 let N:Option D:=KF (.int n);let E:Ow->D->List D->Prop:=λX d o=>d=.lst o \/ ∃k,d=.own (O.length+k)/\X[k]?=KF o;have v:∀{X d o},E X d o->rD (O++X) d=KF o:=λ{X d o}h=>by
  rcases h with rfl|⟨k,rfl,h⟩
  ·rfl
  ·show(O++X)[O.length+k]?=_;rw[aU 'd',bV];exact h
 show tK O.length (fin (K3 [N,KM,KM,KM,KM] O))=_;unfold K3;rw[sv (σ':=[N,KF (.lst [.str []]),KM,KM,KM]) (O1:=O) (by rfl)];obtain⟨σ',m,w,d,z,s,e,X,rfl,rfl,f⟩:=w8 (i:=2) (O:=O) (l:=aO n) (body:=(l_ (pS 3 (uK c_)) (l_ (rC (pU (a_ 1)) (.one 4) (rL (wM (a_ 3) (b_ (rH (b_ (e_ qP (a_ 4) (dC (.str [45]))) (b_ (e_ qP (a_ 4) (dC (.str [48]))) (b_ (e_ qP (a_ 4) (dC (.str [49]))) c_)))) c_)))) (pS 1 (a_ 3)))))
  (xE (σ:=[N,KF (.lst [.str []]),KM,KM,KM]) (O:=O) (pX (t:=a_ 0) rfl) 'd') (λi σ m=>∃d z s e X,σ=[N,KF d,z,s,e]/\m=O++X/\E X d ((YP i).map .str)) (λi a σ m J p=>by
   obtain⟨d,z,s,e,X,rfl,rfl,f⟩:=p;have W:i<n:=by
    have:=(aq.mp J).1;simpa using this
   have F:i<=4:=by lia
   show ∃σ' m,l_ _ _ [N,KF d,KF (.int a),s,e] (O++X)=_/\_;rw[sv (σ':=[N,KF d,KF (.int a),KF (.own (O++X).length),e]) (O1:=O++X++[[]]) (by rfl)];obtain⟨K,A,Y,L⟩:=CF (Cu (X:=[[]]) (v f));obtain⟨σ',m,w,M,rfl,rfl⟩:=Qh (α:=List Nat) (g:=.one 4) (l:=YP i) (inj:=.str) (body:=(rL (wM (a_ 3) (b_ (rH (b_ (e_ qP (a_ 4) (dC (.str [45]))) (b_ (e_ qP (a_ 4) (dC (.str [48]))) (b_ (e_ qP (a_ 4) (dC (.str [49]))) c_)))) c_))))
    (OV (σ:=[N,KF d,KF (.int a),KF (.own (O++X).length),e]) (O:=O++X++[[]]) (t:=a_ 1) rfl A) (by rw[L];simp)
    (λj σ m=>∃e,σ=[N,KF d,KF (.int a),KF (.own (O++X).length),e]/\m=O++X++[(((YP i).take j).flatMap yH).map .str]) (λj t σ m b p=>by
     obtain⟨e,rfl,rfl⟩:=p;have Z:=(aq.mp b).1;obtain⟨P,r,B,Q⟩:=CF (Cu (X:=[(((YP i).take j).flatMap yH).map .str]) (v f));rw[A] at r;cases r;refine⟨by rw[B,be,b];rfl,[N,KF d,KF (.int a),KF (.own (O++X).length),KF (.str t)],_,_,rfl,Q_ (y:=.lst ((yH t).map .str)) (ds:=(((YP i).take j).flatMap yH).map .str) (es:=(yH t).map .str) rfl ?_ rfl vU ?_,_,rfl,?_⟩
     ·have S:=I i F t (aD b);have T:∀c C,qP C (.str t) (.str [c])=.ok (.str (t++[c])) C:=λc C=>by
       match t,S with
       |[],_=>rfl
       |[_],_=>rfl
       |[_,_],_=>rfl
       |[_,_,_],_=>rfl
       |[_,_,_,_],_=>rfl
      simp only[l_,pS,qm,pR,rL,qo,a_,dC,b_,c_,j_,m_,e_,pT,qj,sQ,BU,R.bnd,R.bnS,fin,eV,eZ,fx,gh,aV,dQ,fY,iN,gN,jc,if_true,if_false,fL,ip,bX,ite_true,ite_false,rH,T,yH,bq,gz]
     ·have h1:=u i F;have U:∀l:List (List Nat),(l.flatMap yH).length=3*l.length:=λl=>by
       induction l with
       |nil=>rfl
       |cons x l ih=>rw[cg,aw,ih,aV];show 3+_=_;lia
      rw[au,U,au];have h3:=List.length_take_le j (YP i);show 3*((YP i).take j).length+3<=_;lia
     ·rw[z8,<- bA];have:(YP i).take (j+1)=(YP i).take j++[t]:=by
       rw[eH,b];rfl
      rw[this,jg];simp) (λσ m p=>by
     obtain⟨e,rfl,rfl⟩:=p;obtain⟨P,r,B,Q⟩:=CF (Cu (X:=[(((YP i).take (YP i).length).flatMap yH).map .str]) (v f));rw[A] at r;cases r;rw[B];simp) ⟨e,rfl,by simp⟩
   rw[sv w];refine⟨_,_,rfl,.own (O++X).length,_,_,_,X++[(((YP i).take (YP i).length).flatMap yH).map .str],rfl,by simp,.inr ⟨X.length,by simp,?_⟩⟩;rw[vU,cE];rfl) ⟨_,_,_,_,[],rfl,by simp,.inl rfl⟩
 rw[sv w,rW (x:=d) rfl];rw[ci] at f;show tK O.length (.ok d (O++X))=_;refine Ee G X ?_;rcases f with rfl|⟨k,rfl,h⟩
 ·show(qd (frz (O++X) O.length 7) ((YP n).map D.str)).map D.lst=_;rw[uA λd f=>by obtain⟨q,_,rfl⟩:=az.mp f;exact yV rfl];rfl
 ·unfold frz;dsimp only;rw[qM 'd',aU 'd',bV,h];dsimp only;rw[uA λd f=>by obtain⟨q,_,rfl⟩:=az.mp f;exact yV rfl];rfl
def z7S(O:Ow):(pk.map λq=>tQ [.str q.1,.int (q.2:Nat)] O)=pk.map λq=>R.ok (.bl ((qp q.1).contains q.2)) O:=by kernel_rfl
def AS{cs:List Nat}{p:Nat}(h:cs∈oO)(a:p<2 ^ cs.length)(O:Ow):tQ [.str cs,.int (p:Nat)] O=.ok (.bl ((qp cs).contains p)) O:=di.mp (z7S O) _ (QL h a)
def D6(e:c σ O=.ok a O)(f:a=qb->d σ O=.ok b O):tM c d σ O=.ok (a&&b) O:=by
 show((c σ O).bnd _)=_;rw[e];cases a with
 |true=>exact f rfl
 |false=>rfl
def SN{n:Nat}{f:List D}(b:Fn n f){cs:List Nat}(h:cs∈YP n)(O:Ow):CK [.tup f,.str cs] O=.ok (.bl (r8 f cs)) O:=by
 have d:=uO b.n1 b.n4 h;have g:=sD b.n1 b.n4 h;have o:=AO b.n4;have j:=b.len;show fin (HC [KF (.tup f),KF (.str cs)] O)=_;unfold HC;rw[rW ((qY (vt (l:=aO f.length) (p:=λp=>tS (f.getD p .non)&&(qp cs).contains p) (e:=λ(p:Nat)=>D.int (p:Int)) (τ:=λ(p:Nat)=>[KF (.tup f),KF (.str cs),KF (.int (p:Int))]) (xE (pX ((vQ (pX (t:=a_ 0) rfl)).trans rfl)) 'd') (by simp;lia) (λ_=>rfl) (λq a=>by
   have a:=bd.mp a;refine D6 (rK ((qY ((qY rfl rfl).trans (G5 (i:=q) a)) rfl).trans ((eq0 O (b.ans _ (bD a))).trans (by rw[zX a])))) λ_=>s9 ((uN (qA rfl rfl) rfl).trans (AS d (by rw[g,<- j];exact a) O))) (λ_ _ _=>rfl)) rfl).trans (by
  have:=Yi O (((aO f.length).filter λp=>tS (f.getD p .non)&&(qp cs).contains p).map λ(p:Nat)=>(p:Int));rw[bi] at this;exact this))]
 show R.ok (D.bl _) O=_;congr 2;unfold r8;rw[dS,kA,jh,ft,av];constructor
 ·intro h p c;have k:p<f.length:=by rw[j,<- g];exact GL d c
  have:=h p (bd.mpr k);simp only[aR,b9,not_and] at this;cases m:tS (f.getD p .non) with
  |true=>exact absurd c (this m)
  |false=>rfl
 ·intro h p c a;simp only[aR,b9] at a;have:=h p a.2;rw[a.1] at this;cases this
noncomputable def allS:List (List Nat×Nat):=oO.flatMap λcs=>(aO cs.length).map λk=>(cs,k)
def zfZ(h:cs∈oO)(a:k<cs.length):(cs,k)∈allS:=by unfold allS;rw[eD];exact⟨cs,h,az.mpr ⟨k,bd.mpr a,rfl⟩⟩
def z6X:(oO.all λcs=>cs.all sgn)=qb:=by decide +kernel
def Ef(a:1<=n)(b:n<=4)(h:cs∈YP n):∀c∈cs,sgn c=qb:=av.mp (av.mp z6X cs (uO a b h))
def Hn(b:1<=n)(d:n<=4)(h:cs∈YP n)(e:sgn c=qb):cs.set k c∈YP n:=by
 refine KC n _ (by rw[ee];exact sD b d h) λx a=>?_;rcases g8 a with a|rfl
 ·exact Ef b d h x a
 ·exact e
def JS(O:Ow)(h:sgn c=qb):pP qN O (.str [c]) (.str [45])=.ok (.bl (c !=45)) O:=by unfold sgn at h;simp only[eM,beq_iff_eq] at h;rcases h with(rfl|rfl)|rfl<;>kernel_rfl
def D8{cs:List Nat}{k:Nat}(h:k<cs.length):cs.getD k 0=cs[k]:=by rw[aG,al h];rfl
def ZC(O:Ow)(l:List Nat):pP qN O (.lst (qU l)) (.lst [])=.ok (.bl (!l.isEmpty)) O:=
 (zT O (b:=l.isEmpty) (D0 7 l) (y:=[]) rfl (by cases l<;>simp)).2
def YI(O:Ow)(l:List Nat):pP qW O (.lst (qU l)) (.lst [])=.ok (.bl l.isEmpty) O:=
 (zT O (b:=l.isEmpty) (D0 7 l) (y:=[]) rfl (by cases l<;>simp)).1
def zdq:(oO.all λcs=>cs.all λc=>decide (c<1114112))=qb:=by decide +kernel
def Kd(a:1<=n)(b:n<=4)(h:cs∈YP n):pl k (.str cs)=qb:=by have:=av.mp zdq cs (uO a b h);cases k<;>exact this
def G8{n k:Nat}(a:1<=n)(b:n<=4){l:List (List Nat)}(h:∀cs∈l,cs∈YP n):(l.map D.str).all (pl k)=qb:=av.mpr λd c=>by
 obtain⟨cs,e,rfl⟩:=az.mp c;exact Kd a b (h cs e)
def YS(O:Ow)(c:1<=n)(d:n<=4)(e:a∈YP n)(f:b∈YP n):pP qN O (.str a) (.str b)=.ok (.bl (decide (a≠b))) O:=by have:=(Gv O (b:=decide (a=b)) (Kd (k:=8) c d e) (Kd c d f) 'k').2;rw[this];congr 2;by_cases h:a=b<;>simp[h]
def znl(O:Ow)(k:Nat)(l:List Nat):wa O (.int (k:Nat)) (.lst (qU l))=.ok (.bl (!l.contains k)) O:=
 (Jr O (l:=qU l) (b:=l.contains k) rfl (D0 7 l) (.inl rfl) (by
  rw[b9];unfold qU;rw[az];constructor
  ·intro h;exact⟨k,h,rfl⟩
  ·rintro⟨j,h,e⟩;injection e with e;have:j=k:=by lia
   rw[<- this];exact h)).2
def zfx:(O++([x]++X))[O.length]?=KF x:=by rw[aU (aC _),ie];rfl
def Hy{α:Type}(p:α->Bool){l:List α}{j:Nat}{x:α}(h:l[j]?=KF x):(l.take (j+1)).filter p=(l.take j).filter p++(if p x=qb then [x] else []):=by rw[eH,h,jG];congr 1;show List.filter p [x]=_;rw[dW];split<;>rfl
def RP{O:Ow}{m:Nat}{s:Int}{b:Bool}(h:oZ (O.set m [.int s,.bl b]) m s b)(X:Ow){k:Nat}(e:1<=k)(f:k<=1000):
  ∃(r:Nat)(a:Int),r<k/\vB [.own m,.int k] (O.set m [.int s,.bl b]++X)=.ok (.int r) (O.set m [.int a,.bl b]++X)/\oZ (O.set m [.int a,.bl b]) m a b:=by
 obtain⟨r,a,g,d,c⟩:=GU (h.more (X:=X)) e f;rw[lR _ _ h.len,mB] at d c;refine⟨r,a,g,d,?_,c.nn,c.lt⟩;have i:m<(O.set m [.int a,.bl b]).length:=by have:=h.len;rw[ee] at this ⊢;exact this
 have:=c.at_;rwa [aH i] at this
def GF(O:Ow)(i j:Int):vm O (.int i) (.int j)=.ok (.bl (decide (i<j))) O:=rfl
def Ka(O:Ow)(q:Bool):yI O [.bl q]=.ok (.int (if q=qb then 1 else 0)) O:=by cases q<;>rfl
def zgo(O:Ow){r:Nat}(h:r<3):∃i:Int,p8 O (.lst [.int 2,.int 4,.int 6]) (.int r)=.ok (.int i) O:=by
 have:r=0\/r=1\/r=2:=by lia
 rcases this with rfl|rfl|rfl
 ·exact⟨2,rfl⟩
 ·exact⟨4,rfl⟩
 ·exact⟨6,rfl⟩
def z9Z{O:Ow}(V:uv O){m:Nat}{s:Int}{b:Bool}(h:oZ O m s b){n:Nat}(W:1<=n)(F:n<=4)(o:Bool):
  ∃f g,Fn n f/\CP [.own m,.int n,.bl o] O=.ok (.tup f) (O.set m [.int g,.bl b])/\oZ (O.set m [.int g,.bl b]) m g b:=by
 have hp:=AO F;obtain⟨r,G,X,Y,Z⟩:=GU h (k:=3) 'u' 'u';obtain⟨w,q,w1,K,L⟩:=GU Z (k:=3) 'u' 'u';rw[mB] at K L;obtain⟨i,hi⟩:=zgo (O.set m [.int G,.bl b]) X;obtain⟨z,hz⟩:∃z:Int,e_ (fI ur) (j_ 2 vB (b_ (a_ 0) (b_ (dC (.int 3)) c_))) (m_ yI (b_ (a_ 2) c_)) [KF (.own m),KF (.int n),KF (.bl o),KF (.int i),KM,KM,KM,KM] (O.set m [.int G,.bl b])=.ok (.int z) (O.set m [.int q,.bl b]):=by
  refine⟨_,qr (qw (qA rfl rfl) K) (sH (pX rfl) (Ka _ o)) (Cq 'd' 'd')⟩
 let A:Option D:=KF (.own m);let k:=O.length;have e:∀g,(O.set m [D.int g,D.bl b]).length=O.length:=λg=>ee;obtain⟨σ',H,l1,c,u,I,J,rfl,rfl,h3,B,C⟩:=w8 (i:=6) (l:=aO (2 ^ n)) (inj:=λ(i:Nat)=>D.int (i:Int)) (O:=O.set m [.int q,.bl b]++[[]]) (σ:=[A,KF (.int n),KF (.bl o),KF (.int i),KF (.int z),KF (.own O.length),KM,KM]) (O0:=O.set m [.int q,.bl b]++[[]]) (it:=sO (b_ (e_ (fI vg) (dC (.int 1)) (a_ 1)) c_)) (body:=(l_ (pS 7 (m_ yI (b_ (e_ vm (j_ 2 vB (b_ (a_ 0) (b_ (dC (.int 8)) c_))) (a_ 3)) c_))) (l_ (qm (pT (e_ vm (j_ 2 vB (b_ (a_ 0) (b_ (dC (.int 5)) c_))) (a_ 4))) (pS 7 (dC .non)) qo) (rL (vn (a_ 5) (b_ (a_ 7) c_))))))
  (xE (pX (XF F rfl)) 'd') (λj σ H=>∃c g I J,σ=[A,KF (.int n),KF (.bl o),KF (.int i),KF (.int z),KF (.own O.length),I,J]/\H=O.set m [.int g,.bl b]++[c]/\oZ (O.set m [.int g,.bl b]) m g b/\c.length=j/\∀d∈c,xo d) (λj a σ H ha hI=>by
   obtain⟨c,g,I,J,rfl,rfl,hs,B,C⟩:=hI;have hj:j<2 ^ n:=by have:=(aq.mp ha).1;simpa using this
   obtain⟨E,M,_,N,g1⟩:=RP hs [c] (k:=8) 'u' 'u';obtain⟨q2,p,_,P,Q⟩:=RP g1 [c] (k:=5) 'u' 'u';have S:xo (.int (if (decide ((E:Int)<i))=qb then 1 else 0)):=by
    by_cases h:(E:Int)<i
    ·exact .inr (.inl (by simp[h]))
    ·exact .inl (by simp[h])
   have y:∀v,xo v->rL (vn (a_ 5) (b_ (a_ 7) c_)) [A,KF (.int n),KF (.bl o),KF (.int i),KF (.int z),KF (.own O.length),KF (.int a),KF v] (O.set m [.int p,.bl b]++[c])=.nx [A,KF (.int n),KF (.bl o),KF (.int i),KF (.int z),KF (.own O.length),KF (.int a),KF v] (O.set m [.int p,.bl b]++[c++[v]]):=λv _=>by
    rw[D7 (ds:=c) (t:=a_ 7) rfl rfl (by rw[<- e p];exact vU) 'd'];congr 1;rw[<- e p];exact z8
   have T:∀v,xo v->(c++[v]).length=j+1/\∀d∈c++[v],xo d:=λv hv=>⟨by simp[B],λd hd=>by
    rcases aQ.mp hd with hd|hd
    ·exact C d hd
    ·have:d=v:=by simpa using hd
     rw[this];exact hv⟩
   by_cases U:(q2:Int)<z
   ·refine⟨_,_,rY (x:=.int (if (decide ((E:Int)<i))=qb then 1 else 0)) (O1:=O.set m [.int M,.bl b]++[c]) (sH (pX (qr (qw (qA rfl rfl) N) rfl (GF _ _ _))) (Ka _ _)) (vP (σ':=[A,KF (.int n),KF (.bl o),KF (.int i),KF (.int z),KF (.own O.length),KF (.int a),KF .non]) (O1:=O.set m [.int p,.bl b]++[c]) ?_ (y .non (.inr (.inr rfl)))),c++[.non],p,_,_,rfl,rfl,Q,T _ (.inr (.inr rfl))⟩;rw[tO (b:=qb) (rK ((qr (qw (qA rfl rfl) P) rfl (GF _ _ _)).trans (by rw[decide_eq_true U])))];rfl
   ·refine⟨_,_,rY (x:=.int (if (decide ((E:Int)<i))=qb then 1 else 0)) (O1:=O.set m [.int M,.bl b]++[c]) (sH (pX (qr (qw (qA rfl rfl) N) rfl (GF _ _ _))) (Ka _ _)) (w6 (O1:=O.set m [.int p,.bl b]++[c]) (rK ((qr (qw (qA rfl rfl) P) rfl (GF _ _ _)).trans (by rw[decide_eq_false U]))) (y _ S)),_,p,_,_,rfl,rfl,Q,T _ S⟩) ⟨[],q,_,_,rfl,rfl,L,rfl,by simp⟩
 rw[ci] at B;refine⟨c,u,⟨W,F,B,C⟩,?_,h3⟩;show tK O.length (fin (HN [KF (.own m),KF (.int n),KF (.bl o),KM,KM,KM,KM,KM] O))=_;have hB:HN [KF (.own m),KF (.int n),KF (.bl o),KM,KM,KM,KM,KM] O=.rt (.tup c) (O.set m [.int u,.bl b]++[c]):=by
  unfold HN;refine rY (x:=.int i) (O1:=O.set m [.int G,.bl b]) (qr (x:=.lst [.int 2,.int 4,.int 6]) rfl (qw (qA rfl rfl) Y) hi) (rY hz (rY (x:=.own O.length) (O1:=O.set m [.int q,.bl b]++[[]]) ?_ (vP l1 (rW (sH (pX rfl) ?_)))))
  ·show R.ok (D.own (O.set m [D.int q,D.bl b]).length) _=_;rw[e]
  ·show(match (O.set m [.int u,.bl b]++[c])[O.length]? with|some ds=>R.ok (D.tup ds) _|none=>_)=_;rw[<- e u,vU]
 rw[uk hB];have:=zgR (zgN V m u b) [c] (d:=.tup c) (d':=.tup c) (PX λd hd=>zfa (C d hd) _);rw[e] at this;exact this
def zgu{ns:List Int}(e:ns.length<=63)(σ:Sg)(c:Nat)(g:c<1000)(a:a_ 0 σ []=.ok (.lst (ns.map .int)) []):∃m:Nat,m<100000/\m_ AA (b_ (dC (.int 1)) (b_ (m_ AI (b_ (m_ qi (b_ (a_ 0) c_)) (b_ (dC (.int (c:Nat))) c_))) c_)) σ []=.ok (.int (m:Nat)) []:=by
 have b:m_ AI (b_ (m_ qi (b_ (a_ 0) c_)) (b_ (dC (.int (c:Nat))) c_)) σ []=.ok (.int (if (c:Int)<((ns.map D.int).length:Nat) then (c:Int) else ((ns.map D.int).length:Nat))) []:=(vQ (qA ((vQ (pX a)).trans rfl) rfl)).trans rfl;have d:=(vQ (f:=AA) (qA (t:=dC (.int 1)) rfl b));refine⟨(if (if (c:Int)<((ns.map D.int).length:Nat) then (c:Int) else ((ns.map D.int).length:Nat))>1 then (if (c:Int)<((ns.map D.int).length:Nat) then (c:Int) else ((ns.map D.int).length:Nat)) else 1).toNat,?_,d.trans ?_⟩
 ·rw[au];split<;>split<;>lia
 ·show R.ok (D.int (if (if (c:Int)<((ns.map D.int).length:Nat) then (c:Int) else ((ns.map D.int).length:Nat))>1 then (if (c:Int)<((ns.map D.int).length:Nat) then (c:Int) else ((ns.map D.int).length:Nat)) else 1)) []=_;congr 2;rw[au];split<;>split<;>lia
noncomputable def rV(n:Nat)(a b:List Nat):Bool:=(aO n).all λi=>b.getD i 0==45||b.getD i 0==a.getD i 0
def Pw(a:1<=n)(b:n<=4)(h:cs∈YP n)(d:p<2 ^ n):p∈qp cs↔JE cs (zR n p)=qb:=by have c:=sD a b h;have:=av.mp zcs _ (QL (uO a b h) (by rw[c];exact d));simp only[aR,beq_iff_eq] at this;rw[c] at this;rw[this.1.1.1];simp
def G0(a:1<=n)(b:n<=4)(h:cs∈YP n)(c:p∈qp cs):p<2 ^ n:=by have:=GL (uO a b h) c;rw[sD a b h] at this;exact this
def Kn(c:1<=n)(d:n<=4)(e:a∈YP n)(f:b∈YP n)(h:rV n a b=qb)(g:p∈qp a):p∈qp b:=by
 have j:=G0 c d e g;have m:=(Pw c d e j).mp g;refine(Pw c d f j).mpr ?_;unfold JE at m ⊢;unfold rV at h;rw[sD c d e] at m;rw[sD c d f];rw[av] at h m ⊢;intro i k;have e1:=h i k;have e2:=m i k;simp only[eM,beq_iff_eq] at e1 e2 ⊢;rcases e1 with e1|e1
 ·exact .inl e1
 ·rcases e2 with e2|e2
  ·exact .inl (e1.trans e2)
  ·exact .inr (e1.trans e2)
def R7(n:Nat)(a:List Nat):rV n a a=qb:=by unfold rV;rw[av];intro i _;simp
def z7J{α:Type}(f:Nat->α):((aO n).map f)[i]?=if i<n then KF (f i) else KM:=by
 rw[be];by_cases h:i<n
 ·rw[l5 h,qq h];rfl
 ·rw[a8.mpr (by simpa using h),qM h];rfl
def Ko(a:1<=n)(b:n<=4)(h:cs∈YP n)(c:i<n):sgn (cs.getD i 0)=qb:=by have d:=sD a b h;rw[D8 'd'];exact Ef a b h _ (bD _)
def zgq(O:Ow)(h:sgn c=qb)(h':sgn d=qb):pP qN O (.str [c]) (.str [d])=.ok (.bl (c !=d)) O:=by unfold sgn at h h';simp only[eM,beq_iff_eq] at h h';rcases h with(rfl|rfl)|rfl<;>rcases h' with(rfl|rfl)|rfl<;>kernel_rfl
def G3(h:rV n a b=qb)(c:k<n):b.getD k 0=45\/b.getD k 0=a.getD k 0:=by unfold rV at h;have:=av.mp h k (bd.mpr c);simpa using this
def Qi(h:∀k,k<n->b.getD k 0=45\/b.getD k 0=a.getD k 0):rV n a b=qb:=by unfold rV;rw[av];intro k c;have:=h k (bd.mp c);simpa using this
def zgA{n:Nat}{a b:List Nat}(e:a.length=n)(f:b.length=n)(h:∀k,k<n->a.getD k 0=b.getD k 0):a=b:=by refine nk 'd' λi c d=>?_;have:=h i 'd';rw[D8 c,D8 d] at this;exact this
def JI{n:Nat}(a:n<=4){cs:List Nat}(b:cs.length=n){k:Nat}(c:k<n)(O:Ow):p8 O (.str cs) (.int (k:Int))=.ok (.str [cs.getD k 0]) O:=by rw[J3 'd' 'd',D8 'd']
def Yv(b:n<=4)(a:cs.length=n)(h:a_ 0 σ O=.ok (.str cs) O):sO (b_ (m_ qi (b_ (a_ 0) c_)) c_) σ O=.ok (.val ((aO n).map λ(i:Nat)=>D.int (i:Int))) O:=
 xE (pX (sH (pX h) ((Kg 'd').trans (by rw[a])))) 'd'
def zgK(h:∀k,k<n->p k=q k):(!((aO n).filter p).isEmpty)=(aO n).any q:=by
 rw[dS,eR,cf];constructor
 ·intro c;have:((aO n).filter p)≠[]:=λe=>by rw[e] at c;cases c
  obtain⟨k,f⟩:=List.exists_mem_of_ne_nil _ this;obtain⟨a,b⟩:=aM.mp f;exact⟨k,a,by rw[<- h k (bd.mp a)];exact b⟩
 ·rintro⟨k,a,b⟩;have d:k∈(aO n).filter p:=aM.mpr ⟨a,by rw[h k (bd.mp a)];exact b⟩;cases e:(aO n).filter p with
  |nil=>rw[e] at d;cases d
  |cons _ _=>rfl
def z9n{n:Nat}(f:1<=n)(c:n<=4){a b:List Nat}(i:a∈YP n)(g:b∈YP n)(O:Ow):Es [.str a,.str b] O=.ok (.bl (rV n a b)) O:=by
 have j:=sD f c i;have m:=sD f c g;show fin (HI [KF (.str a),KF (.str b)] O)=_;unfold HI;refine Ci ((qr ((vt (l:=aO n) (p:=λk=>b.getD k 0 !=45&&b.getD k 0 !=a.getD k 0) (e:=λ(k:Nat)=>D.int (k:Int)) (τ:=λ(k:Nat)=>[KF (.str a),KF (.str b),KF (.int (k:Int))]) (Yv c j rfl) (by simp;lia) (λ_=>rfl) (λk d=>?_) (λ_ _ _=>rfl)).trans rfl) rfl (YI O _)).trans ?_)
 ·have d:=bd.mp d;exact Kk (rK (qr (qr rfl rfl (JI c m d O)) rfl (JS O (Ko f c g d)))) λ_=>rK (qr (qr rfl rfl (JI c m d O)) (qr rfl rfl (JI c j d O)) (zgq O (Ko f c g d) (Ko f c i d)))
 ·congr 2;have h:=zgK (n:=n) (p:=λk=>b.getD k 0 !=45&&b.getD k 0 !=a.getD k 0) (q:=λk=>!(b.getD k 0==45||b.getD k 0==a.getD k 0)) λk _=>by simp[bne]
  rw[<- mC (b:=((aO n).filter _).isEmpty),h];unfold rV;rw[List.any_eq_not_all_not];simp
def JN(O:Ow){n:Nat}(a:1<=n)(c:n<=4){l:List (List Nat)}(h:∀cs∈l,cs∈YP n):pP qW O (.lst (l.map D.str)) (.lst [])=.ok (.bl l.isEmpty) O:=
 (zT O (b:=l.isEmpty) (G8 a c h) (y:=[]) rfl (by cases l<;>simp)).1
def Y0(O:Ow){n:Nat}(a:1<=n)(c:n<=4){l:List (List Nat)}(h:∀cs∈l,cs∈YP n):pP qN O (.lst (l.map D.str)) (.lst [])=.ok (.bl (!l.isEmpty)) O:=
 (zT O (b:=l.isEmpty) (G8 a c h) (y:=[]) rfl (by cases l<;>simp)).2
def Hq{α:Type}{l:List α}{p:α->Bool}:(l.filter p).isEmpty=l.all λx=>!p x:=by rw[dS,kA,ft,av];exact forall_congr' λa=>forall_congr' λ_=>by simp
noncomputable def zo:D->Bool
 |.int i=>i==1
 |_=>qh
def eq1(O:Ow)(h:xo d):pP qW O d (.int 1)=.ok (.bl (zo d)) O:=by rcases h with rfl|rfl|rfl<;>kernel_rfl
def pW(f:List D):List Nat:=(aO f.length).filter λp=>zo (f.getD p .non)
def DZ{n:Nat}{f:List D}(b:Fn n f)(O:Ow):vV [.tup f] O=.ok (.lst (qU (pW f))) O:=by have c:=b.len;have d:=AO b.n4;show fin (HA [KF (.tup f)] O)=_;unfold HA;refine Ci ((vt (l:=aO f.length) (p:=λp=>zo (f.getD p .non)) (e:=λ(p:Nat)=>D.int (p:Int)) (τ:=λ(p:Nat)=>[KF (.tup f),KF (.int (p:Int))]) (xE (pX (sH (pX rfl) (Q2 O f))) 'd') (by simp;lia) (λ_=>rfl) (λp a=>?_) (λ_ _ _=>rfl)).trans rfl);have a:=bd.mp a;refine rK (qr (qr rfl rfl (G5 a)) rfl ?_);rw[eq1 O (b.ans _ (bD _)),zX a]
def oV:p∈pW f↔p<f.length/\zo (f.getD p .non)=qb:=by unfold pW;rw[aM,bd]
def yM(f:List D)(t:List Nat):Bool:=!((pW f).filter λp=>(qp t).contains p).isEmpty
def yG(n:Nat)(f:List D)(t:List Nat):Bool:=((rJ n f).filter λo=>decide (o≠t)&&rV n t o).isEmpty&&yM f t
def gr(n:Nat)(f:List D):List (List Nat):=(rJ n f).filter (yG n f)
def w_(h:t∈rJ n f):t∈YP n:=(aM.mp h).1
def KJ(a:Fn n f):(rJ n f).length<=81:=aI (bg _ _) (KN a.n1 a.n4)
def yT(a:Fn n f):(pW f).length<=16:=by have b:=bg (λp=>zo (f.getD p .non)) (aO f.length);rw[ci] at b;have c:=AO a.n4;have d:=a.len;unfold pW;lia
def Gp:DS:=(l_ (pS 4 (qg qh 1 (pU (a_ 1)) (.one 6) [(tM (pT (e_ (pP qN) (a_ 6) (a_ 3))) (qj (j_ 2 Es (b_ (a_ 3) (b_ (a_ 6) c_)))))] [] (a_ 6))) (l_ (pS 5 (qg qh 1 (pU (j_ 1 vV (b_ (a_ 0) c_))) (.one 6) [(qj (j_ 2 tQ (b_ (a_ 3) (b_ (a_ 6) c_))))] [] (a_ 6))) (qm (tM (pT (e_ (pP qW) (a_ 4) (rH c_))) (pT (e_ (pP qN) (a_ 5) (rH c_)))) (rL (vn (a_ 2) (b_ (a_ 3) c_))) qo)))
def zf4{n:Nat}{f:List D}(a:Fn n f){t:List Nat}(j:t∈rJ n f){k:Nat}{O:Ow}{l:List D}(m:O[k]?=KF l)(u:l.length<1000){y4 y5:Option D}:
  Gp [KF (.tup f),KF (.lst ((rJ n f).map .str)),KF (.own k),KF (.str t),y4,y5] O=.nx [KF (.tup f),KF (.lst ((rJ n f).map .str)),KF (.own k),KF (.str t),KF (.lst (((rJ n f).filter λo=>decide (o≠t)&&rV n t o).map .str)),KF (.lst (qU ((pW f).filter λp=>(qp t).contains p)))] (if yG n f t=qb then O.set k (l++[.str t]) else O):=by
 have d:=a.n1;have g:=a.n4;have v:=KJ a;have i:=yT a;have h:=w_ j;have q:=sD d g h;unfold Gp;refine rY (x:=.lst (((rJ n f).filter λo=>decide (o≠t)&&rV n t o).map .str)) (O1:=O) ((vt (l:=rJ n f) (inj:=D.str) (p:=λo=>decide (o≠t)&&rV n t o) (e:=D.str) (τ:=λo=>[KF (.tup f),KF (.lst ((rJ n f).map .str)),KF (.own k),KF (.str t),y4,y5,KF (.str o)]) (s_ rfl) 'd' (λ_=>rfl) (λo i=>Kk (rK (qr rfl rfl (YS O d g (w_ i) h))) λ_=>s9 (qw (qA rfl rfl) (z9n d g h (w_ i) O))) (λ_ _ _=>rfl)).trans rfl) (rY (x:=.lst (qU ((pW f).filter λp=>(qp t).contains p))) (O1:=O) ((vt (l:=pW f) (inj:=λ(p:Nat)=>D.int (p:Int)) (p:=λp=>(qp t).contains p) (e:=λ(p:Nat)=>D.int (p:Int)) (τ:=λ(p:Nat)=>[KF (.tup f),KF (.lst ((rJ n f).map .str)),KF (.own k),KF (.str t),KF (.lst (((rJ n f).filter λo=>decide (o≠t)&&rV n t o).map .str)),y5,KF (.int (p:Int))]) (s_ (qw (pX rfl) (DZ a O))) 'd' (λ_=>rfl) (λp r=>s9 (qw (qA rfl rfl) (AS (uO d g h) (by rw[q,<- a.len];exact(oV.mp r).1) O))) (λ_ _ _=>rfl)).trans rfl) ?_);rw[tO (b:=yG n f t) (O1:=O) (Kk (rK (qr rfl rfl (JN O d g λc s=>w_ (aM.mp s).1))) λ_=>rK (qr rfl rfl (ZC O _)))];cases yG n f t with
 |true=>rw[qq rfl,qq rfl];exact D7 (t:=a_ 3) rfl rfl m 'd'
 |false=>rfl
def zcz(a:Fn n f)(r:uv O):fin (Et [KF (.tup f),KM,KM,KM,KM,KM] O)=.ok (.own O.length) (O++[(gr n f).map .str]):=by
 have o:=a.n1;have q:=a.n4;have v:=KJ a;have w:=KN o q;let A:Option D:=KF (.tup f);let S:Option D:=KF (.lst ((rJ n f).map .str));obtain⟨σ',h,m,b,c,d,rfl,rfl⟩:=w8 (i:=3) (it:=pU (a_ 1)) (body:=Gp) (σ:=[A,S,KF (.own O.length),KM,KM,KM]) (O0:=O++[[]]) (O:=O++[[]]) (l:=rJ n f) (inj:=D.str) rfl
  (λj σ h=>∃b c d,σ=[A,S,KF (.own O.length),b,c,d]/\h=O++[(((rJ n f).take j).filter (yG n f)).map D.str]) (λj t σ h g s=>by
   obtain⟨b,c,d,rfl,rfl⟩:=s;have u:((((rJ n f).take j).filter (yG n f)).map D.str).length<1000:=by
    have o:=bg (yG n f) ((rJ n f).take j);have y:=eN j (rJ n f);rw[au];lia
   refine⟨_,_,zf4 a (aD g) (k:=O.length) vU u,_,_,_,rfl,?_⟩;rw[Hy _ g];split
   ·rw[z8,bA];rfl
   ·rw[bz]) ⟨KM,KM,KM,rfl,by simp⟩
 rw[cE] at m;unfold Gp at m;show fin (Et [A,KM,KM,KM,KM,KM] O)=_;unfold Et;refine uk (rY (x:=.lst ((rJ n f).map .str)) (O1:=O) ((vt (l:=YP n) (inj:=D.str) (p:=r8 f) (e:=D.str) (τ:=λt=>[A,KM,KM,KF (.str t),KM,KM]) (s_ (qw (pX (qw (pX rfl) (Td a O))) (z8a q r))) 'd' (λ_=>rfl) (λt g=>s9 (qw (qA rfl rfl) (SN a g O))) (λ_ _ _=>rfl)).trans rfl) (rY (x:=.own O.length) (O1:=O++[[]]) rfl (vP (σ':=[A,S,KF (.own O.length),b,c,d]) (O1:=O++[(gr n f).map .str]) ?_ (rW rfl))));exact m
def z9m(b:Fn n f)(a:uv O):Eu [.tup f] O=.ok (.lst ((gr n f).map .str)) O:=by
 show tK O.length (fin (Et [KF (.tup f),KM,KM,KM,KM,KM] O))=_;rw[zcz b a];refine Ee a _ ?_;unfold frz;dsimp only;rw[qM (bS _),vU];dsimp only;rw[uA λd c=>?_]
 ·rfl
 ·obtain⟨x,_,rfl⟩:=az.mp c;rfl
def G9(h:t∈gr n f):t∈YP n:=w_ (aM.mp h).1
def C2(f:List D)(l:List (List Nat)):Bool:=(pW f).all λp=>l.any λt=>(qp t).contains p
theorem Q7{α:Type}{l:List α}{inj:α->D}{i:Nat}{body:DS}{τ:Option D->Sg}{O:Ow}{q:α->Bool}{d:D}(g:∀y x,(τ y).set i x=τ x)(h:∀a∈l,body (τ (KF (inj a))) O=if q a=qb then .nx (τ (KF (inj a))) O else .rt d O):
  ∀(f k:Nat)(y:Option D),k<=l.length->l.length<=k+f->∃b,tN (.val (l.map inj)) (λd σ O=>match Tg.put (.one i) d σ with|some σ'=>body σ' O|none=>.bad) f k (τ y) O=if (l.drop k).all q=qb then .nx (τ b) O else .rt d O
 | 0,k,y,h1,h2=>by
  have:k=l.length:=by lia
  subst this;refine⟨y,?_⟩;have e:(Src.val (l.map inj)).get O l.length=KM:=by simp[Src.get]
  unfold tN;rw[e];simp
 | f+1,k,y,h1,h2=>by
  by_cases j:k=l.length
  ·subst j;refine⟨y,?_⟩;have e:(Src.val (l.map inj)).get O l.length=KM:=by simp[Src.get]
   unfold tN;rw[e];simp
  ·have c:k<l.length:=by lia
   have e:(Src.val (l.map inj)).get O k=KF (inj l[k]):=by
    show(l.map inj)[k]?=_;rw[be,al c];rfl
   obtain⟨b,m⟩:=Q7 g h f (k+1) (KF (inj l[k])) 'd' 'd';refine⟨b,?_⟩;unfold tN;rw[e];dsimp only;have n:Tg.put (.one i) (inj l[k]) (τ y)=KF (τ (KF (inj l[k]))):=congrArg KF (g y _);rw[n];dsimp only;rw[h _ (bD c),c9 c,iM];cases o:q l[k] with
   |true=>rw[qq rfl,oa];exact m
   |false=>simp
def Yt{α:Type}{l:List α}{inj:α->D}{i:Nat}{it:DI}{body:DS}{τ:Option D->Sg}{O:Ow}{q:α->Bool}{d:D}{y:Option D}(c:it (τ y) O=.ok (.val (l.map inj)) O)(e:∀y x,(τ y).set i x=τ x)(f:∀a∈l,body (τ (KF (inj a))) O=if q a=qb then .nx (τ (KF (inj a))) O else .rt d O):
  ∃b,rC it (.one i) body (τ y) O=if l.all q=qb then .nx (τ b) O else .rt d O:=by obtain⟨b,h⟩:=Q7 e f (l.map inj).length 0 y (bE _) 'k';exact⟨b,(J_ c).trans h⟩
def zcw(h:l.Pairwise (· < ·)):qS l=l:=Hf (D_ l) h λx=>zZ l
def YX{σ:Sg}{O O1:Ow}{t:DA}{x:D}{l:List (List Nat)}(h:t σ O=.ok [x] O1)(a:rD O1 x=KF (l.map .str)\/x=.tup (l.map .str))(b:l.length<1000):Dz qh t σ O=.ok (.lst ((qS l).map .str)) O1:=by
 unfold Dz;rw[h];show(match (match rD O1 x with|some ds=>KF ds|none=>zc x) with|some ds=>Nw qh (.ok ds O1)|none=>.bad)=_;have e:(match rD O1 x with|some ds=>KF ds|none=>zc x)=KF (l.map .str):=by
  rcases a with a|rfl
  ·rw[a]
  ·rfl
 rw[e];show(match vf (l.map D.str) with|some ss=>if ss.length<1000 then (if qh=qb then R.ok (D.own _) _ else R.ok (D.lst ((qS ss).map .str)) O1) else .bad|none=>.bad)=_;rw[DL.strL_map];show(if l.length<1000 then _ else _)=_;rw[qq b];rfl
theorem Ht{α:Type}:∀(l:List α)(i:Nat)(h:i<l.length),(l[i]::l.eraseIdx i).Perm l
 |[],_,h=>by simp at h
 |x::l,0,_=>eG _
 | x::l,i+1,h=>by
  rw[List.eraseIdx_cons_succ,List.getElem_cons_succ];exact(nW _ _ _).trans ((Ht l i (by simpa using h)).cons x)
def A7:List Nat:=[48,49,45,50]
def M9(O:Ow)(a b:Int):pP qW O (.int a) (.int b)=.ok (.bl (a==b)) O:=rfl
def zdE(O:Ow):(A7.map λc=>wa O (.str [c]) (.str [48,49,45]))=A7.map λc=>R.ok (.bl (!sgn c)) O:=by kernel_rfl
def Vo(h:c∈A7):pl k (.str [c])=qb:=by
 have a:(A7.all λc=>decide (c<1114112))=qb:=by decide
 have b:=av.mp a c h;have:([c].all λc=>decide (c<1114112))=qb:=by simpa using b
 cases k<;>exact this
def zhL{n:Nat}{cs:List Nat}(f:∀c∈cs,c∈A7)(i:cs.length<=10)(O:Ow):CL [.int (n:Nat),.str cs] O=.ok (.bl (cs.length==n&&cs.all sgn)) O:=by
 show fin (HM [KF (.int (n:Nat)),KF (.str cs)] O)=_;unfold HM;refine Ci ((Qj (a:=qb) (b:=cs.length==n&&cs.all sgn) rfl λ_=>Qj (a:=cs.length==n) (qr (sH (pX rfl) (Kg 'd')) rfl ?_) λ_=>?_).trans rfl)
 ·rw[M9];congr 2;rw[dS];simp;lia
 ·refine(qr ((vt (l:=cs) (inj:=λc=>D.str [c]) (p:=λc=>!sgn c) (e:=λc=>D.str [c]) (τ:=λc=>[KF (.int (n:Nat)),KF (.str cs),KF (.str [c])]) rfl 'd' (λ_=>rfl) (λc h=>rK (qr rfl rfl (di.mp (zdE O) c (f c h)))) (λ_ _ _=>rfl)).trans rfl) rfl ((zT O (b:=(cs.filter λc=>!sgn c).isEmpty) (av.mpr λd g=>?_) (y:=[]) rfl ?_).1)).trans ?_
  ·obtain⟨c,h,rfl⟩:=az.mp g;exact Vo (f c (aM.mp h).1)
  ·cases (cs.filter λc=>!sgn c)<;>simp
  ·congr 2;rw[Hq];simp
def II(d:D):Prop:=(∃w:List Nat,d=.str w/\(∀c∈w,c∈A7)/\w.length<=10)\/(∃xs,d=.tup xs)\/d=.non\/d=.int 0\/d=.bl qb
def Aw(n:Nat):D->Bool
 |.str w=>w.length==n&&w.all sgn
 |_=>qh
def zeI{n:Nat}{d:D}(h:II d)(O:Ow):CL [.int (n:Nat),d] O=.ok (.bl (Aw n d)) O:=by
 rcases h with⟨w,rfl,a,b⟩|⟨c,rfl⟩|rfl|rfl|rfl
 ·exact zhL a b O
 all_goals rfl
def Di(l:List (List Nat)):Bool:=(aO (l.length-1)).all λk=>decide (l.getD k []<l.getD (k+1) [])
def pD:Di l=qb↔l.Pairwise (· < ·):=by
 constructor
 ·intro h;have a:∀k,k+1<l.length->l.getD k []<l.getD (k+1) []:=λk c=>by
   have:=av.mp h k (bd.mpr 'd');simpa using this
  have e:∀d i,i+d+1<l.length->l.getD i []<l.getD (i+d+1) []:=by
   intro d
   induction d with
   |zero=>intro i b;exact a i b
   |succ d ih=>intro i b;exact iJ (ih i 'd') (a (i+d+1) 'd')
  refine dU.mpr λi j b f m=>?_;have:=e (j-i-1) i 'd';rw[show i+(j-i-1)+1=j by lia,aG,aG,al b,al f] at this;exact this
 ·intro g;unfold Di;rw[av];intro k c;have c:=bd.mp c;have:=dU.mp g k (k+1) 'd' 'd' 'd';rw[aG,aG,al 'd',al 'd'];exact decide_eq_true this
def zhT{l:List (List Nat)}:Di l=qb↔l=qS l:=by rw[pD];exact⟨λh=>(zcw h).symm,λh=>by rw[h];exact D_ l⟩
def Ia(n:Nat)(ds:List D):Bool:=ds.all (Aw n)&&Di (ds.map wX)
def zdj{n:Nat}{ds:List D}(h:ds.all (Aw n)=qb):ds=(ds.map wX).map D.str/\∀cs∈ds.map wX,cs∈YP n:=by
 have a:∀d∈ds,d=.str (wX d)/\wX d∈YP n:=λd b=>by
  have:=av.mp h d b;cases d with
  | str w=>
   have this:(w.length==n&&w.all sgn)=qb:=this;rw[aR] at this;exact⟨rfl,KC n w (by simpa using this.1) (av.mp this.2)⟩
  |_=>cases this
 constructor
 ·rw[bi]
  conv=>lhs;rw[<- ju ds]
  exact fc λd b=>(a d b).1
 ·intro cs c;obtain⟨d,b,rfl⟩:=az.mp c;exact(a d b).2
section
variable{n:Nat}(h1:1<=n)(h4:n<=4){ds:List D}(hd:∀d∈ds,II d)(hl:ds.length<100)(O:Ow)
include hd hl
include h1 h4
theorem zeo:CQ [.int (n:Nat),.tup ds] O=.ok (.bl (Ia n ds)) O:=by
 have c:=sH (f:=x9) (pX ((xw (o:=qh) (ext:=1) (i:=2) (σ:=[KF (.int (n:Nat)),KF (.tup ds)]) (it0:=pU (a_ 1)) (O0:=O) (O:=O) (te:=j_ 2 CL (b_ (a_ 0) (b_ (a_ 2) c_))) (l:=ds) (inj:=λd=>d) (e:=λd=>D.bl (Aw n d)) (τ:=λd=>[KF (.int (n:Nat)),KF (.tup ds),KF d]) (by rw[List.map_id'];exact yP rfl) 'd' (λ_=>rfl) (λd h=>qw (qA rfl rfl) (zeI (hd d h) O))).trans rfl)) (zdJ O ds (Aw n));show fin (Ld [KF (.int (n:Nat)),KF (.tup ds)] O)=_;unfold Ld Ia;cases g:ds.all (Aw n) with
 | false=>
  rw[g] at c;exact uk (DM (O1:=O) (PJ (a:=qh) (b:=qb) (vS (b:=qb) (s9 (b:=qb) rfl)) λ_=>vS (b:=qh) (s9 c)) rfl)
 | true=>
  rw[g] at c;obtain⟨e,j⟩:=zdj g;refine uk (w6 (O1:=O) (PJ (a:=qh) (b:=qh) (vS (b:=qb) (s9 (b:=qb) rfl)) λ_=>vS (b:=qb) (s9 c)) (rW (qr (x:=.lst ds) (sH (pX rfl) rfl) (YX (l:=ds.map wX) (x:=.tup ds) (pX rfl) (.inr (congrArg D.tup e)) (by rw[au];exact(bb hl 'u'))) ?_)));have q:=(zT O (b:=Di (ds.map wX)) (x:=(ds.map wX).map .str) (y:=(qS (ds.map wX)).map .str) (G8 h1 h4 j) (G8 h1 h4 λk m=>j k ((zZ _).mp m)) (by
   rw[zhT];constructor
   ·intro h;exact congrArg (on D.str) h
   ·intro h;exact(List.map_inj_right λa b h=>by injection h).mp h)).1
  rw[<- e] at q;exact q
end
def zdg(a:Fn n f)(O:Ow):AZ [.tup f,.int 1] O=.ok (.lst (((aO (2 ^ n)).filter λp=>zo (f.getD p .non)).map λ(p:Nat)=>D.int (p:Int))) O:=by
 have h:=AO a.n4;have b:GN (b_ (a_ 0) c_) [KF (.tup f),KF (.int 1)] O=.ok (.val (ya f)) O:=rfl;have j:=Hc (o:=qh) (ext:=2) (g:=.two 2 3) (ts:=[(pT (e_ (pP qW) (a_ 3) (a_ 1)))]) (te:=a_ 2) (l:=aO (2 ^ n)) (inj:=λ(p:Nat)=>D.tup [.int (p:Int),f.getD p .non]) (p:=λp=>zo (f.getD p .non)) (e:=λ(p:Nat)=>D.int (p:Int))
  (τ:=λ(p:Nat)=>[KF (.tup f),KF (.int 1),KF (.int (p:Int)),KF (f.getD p .non)]) b (λi=>by
   rw[z7J];show(ya f)[i]?=_;rw[R6];by_cases b:i<2 ^ n
   ·have d:i<f.length:=by rw[a.len];exact b
    rw[qq b,al d];show KF (D.tup [.int (i:Nat),f[i]])=_;rw[zX d]
   ·rw[qM b,a8.mpr (by rw[a.len];lia)];rfl) (by
   show(ya f).length=_;unfold ya;simp[a.len]) (by rw[ci];lia) (λk _=>rfl) (λp c=>Hd (by
   have c:=bd.mp c;have m:xo (f.getD p .non):=by
    rw[zX (by rw[a.len];exact c)];exact a.ans _ (bD _)
   exact rK ((qY rfl rfl).trans (eq1 O m)))) (λp _ _=>rfl)
 show fin (pR _ [KF (.tup f),KF (.int 1)] O)=_;rw[rW (j.trans rfl)];rfl
def Sn(a:Fn n f)(O:Ow):AZ [.tup f,.int 1] O=.ok (.lst (qU (pW f))) O:=by rw[zdg a O];unfold pW qU;rw[a.len]
def Qt(O:Ow)(k:Nat)(l:List Nat):wC O (.int (k:Nat)) (.lst (qU l))=.ok (.bl (l.contains k)) O:=
 (Jr O (l:=qU l) (b:=l.contains k) rfl (D0 7 l) (.inl rfl) (by
  rw[b9];unfold qU;rw[az];constructor
  ·intro h;exact⟨k,h,rfl⟩
  ·rintro⟨j,h,e⟩;injection e with e;have:j=k:=by lia
   rw[<- this];exact h)).1
section
variable{n:Nat}{f:List D}(hf:Fn n f){l:List (List Nat)}(ht:∀t∈l,t∈YP n)(hlen:l.length<100)(O:Ow)
include hf ht hlen
def Ig(f:List D)(l:List (List Nat)):Bool:=l.all (r8 f)&&C2 f l
theorem zgz(v:CQ [.int (n:Nat),.tup (l.map .str)] O=.ok (.bl qb) O):CM [.tup f,.tup (l.map .str)] O=.ok (.bl (Ig f l)) O:=by
 have g:=hf.n1;have j:=hf.n4;let A:Option D:=KF (.tup f);let T:Option D:=KF (.tup (l.map .str));show fin (Lb [A,T,KM] O)=_;unfold Lb Ig;obtain⟨x,k⟩:=Yt (l:=pW f) (inj:=λ(p:Nat)=>D.int (p:Int)) (i:=2) (it:=pU (j_ 1 vV (b_ (a_ 0) c_))) (body:=qm (pT (e_ (pP qW) (qg qh 1 (pU (a_ 1)) (.one 3) [(qj (j_ 2 tQ (b_ (a_ 3) (b_ (a_ 2) c_))))] [] (a_ 3)) (rH c_))) (pR (dC (.bl qh))) qo) (τ:=λy=>[A,T,y]) (O:=O) (q:=λp=>l.any λt=>(qp t).contains p) (d:=.bl qh) (y:=KM) (s_ (qw (pX rfl) (DZ hf O))) (λ_ _=>rfl) (λp w=>by
  rw[tO (b:=(l.filter λt=>(qp t).contains p).isEmpty) (O1:=O) (rK ((qr ((vt (l:=l) (inj:=D.str) (p:=λt=>(qp t).contains p) (e:=D.str) (τ:=λt=>[A,T,KF (.int (p:Int)),KF (.str t)]) (yP rfl) 'd' (λ_=>rfl) (λt h=>s9 (qw (qA rfl rfl) (AS (uO g j (ht t h)) (by rw[sD g j (ht t h),<- hf.len];exact(oV.mp w).1) O))) (λ_ _ _=>rfl)).trans rfl) rfl (JN O g j λc m=>ht c (aM.mp m).1))))];rw[Hq,List.all_eq_not_any_not];simp only[mC];cases (l.any λt=>(qp t).contains p)<;>rfl)
 have o:sQ (qj (j_ 2 CQ (b_ (j_ 1 CO (b_ (a_ 0) c_)) (b_ (a_ 1) c_)))) [A,T,KM] O=.ok qh O:=vS (b:=qb) (s9 (qw (qA (qw (pX rfl) (Td hf O)) rfl) v));have a:pT (e_ (pP qN) (qg qh 1 (pU (a_ 1)) (.one 3) [(sQ (qj (j_ 2 CK (b_ (a_ 0) (b_ (a_ 3) c_)))))] [] (a_ 3)) (rH c_)) [A,T,KM] O=.ok (!l.all (r8 f)) O:=by
  refine rK ((qr ((vt (l:=l) (inj:=D.str) (p:=λt=>!r8 f t) (e:=D.str) (τ:=λt=>[A,T,KM,KF (.str t)]) (yP rfl) 'd' (λ_=>rfl) (λt h=>vS (s9 (qw (qA rfl rfl) (SN hf (ht t h) O)))) (λ_ _ _=>rfl)).trans rfl) rfl (Y0 O g j λc m=>ht c (aM.mp m).1)).trans ?_);rw[Hq];simp only[mC]
 cases s:l.all (r8 f) with
 | false=>
  rw[s] at a;exact uk (w6 o (DM a rfl))
 | true=>
  rw[s] at a;cases u:C2 f l with
  | true=>
   have r:((pW f).all λp=>l.any λt=>(qp t).contains p)=qb:=u;rw[r,qq rfl] at k;exact uk (w6 o (w6 a (vP k (rW rfl))))
  | false=>
   have r:((pW f).all λp=>l.any λt=>(qp t).contains p)=qh:=u;rw[r] at k;exact uk (w6 o (w6 a (Cm k)))
end
def z8m{n:Nat}(a:1<=n)(b:n<=4)(O:Ow):yX [.int n] O=.ok (.lst ((YP n).map .str)) O:=by
 rcases yE a b with rfl|rfl|rfl|rfl
 ·exact z81 O
 ·exact z7R O
 ·exact z72 O
 ·exact z7L O
def z74(a:Fn n f)(O:Ow):Ew [.tup f] O=.ok (.lst ((rJ n f).map .str)) O:=by
 have c:pU (j_ 1 yX (b_ (j_ 1 EA (b_ (a_ 0) c_)) c_)) [KF (.tup f)] O=.ok (.val ((YP n).map .str)) O:=
  s_ ((uN (pX ((uN (pX rfl) rfl).trans (zah a O))) rfl).trans (z8m a.n1 a.n4 O))
 have g:=KS (ext:=1) (i:=1) (ts:=[(qj (j_ 2 Ad (b_ (a_ 0) (b_ (a_ 1) c_))))]) (te:=a_ 1) (p:=λd=>r8 f (wX d)) (e:=λd=>d) c (by have:=KN a.n1 a.n4;simp;lia) (λd h=>by
  obtain⟨b,j,rfl⟩:=az.mp h;have k:qj (j_ 2 Ad (b_ (a_ 0) (b_ (a_ 1) c_))) [KF (.tup f),KF (.str b)] O=.ok (r8 f b) O:=s9 ((uN (qA rfl rfl) rfl).trans (Rx a j O));show((qj (j_ 2 Ad (b_ (a_ 0) (b_ (a_ 1) c_))) [KF (.tup f),KF (.str b)] O).bnd _)=R.ok (r8 f b) O;rw[k];cases r8 f b<;>rfl) (λd h _=>rfl) qh
 rw[zbM] at g;show fin (l_ (rL (j_ 1 Ac (b_ (a_ 0) c_))) _ [KF (.tup f)] O)=_;have l:j_ 1 Ac (b_ (a_ 0) c_) [KF (.tup f)] O=.ok .non O:=(uN (pX rfl) rfl).trans (JO a O);rw[sv (Hb l),rW g];rfl
def zbG(e:rV n a b=qb)(f:rV n b c=qb):rV n a c=qb:=Qi λk d=>by
 rcases G3 f d with z|z
 ·exact .inl z
 ·rcases G3 e d with y|y
  ·exact .inl (z.trans y)
  ·exact .inr (z.trans y)
def BQ(n:Nat)(l:List (List Nat)):List (List Nat):=l.filter λt=>!(l.any λo=>decide (t≠o)&&rV n t o)
def o5:t∈BQ n l↔t∈l/\∀o∈l,rV n t o=qb->t=o:=by
 unfold BQ;rw[aM];refine and_congr_right λ_=>?_;rw[eR,gq];constructor
 ·intro h o a c;have:=h o a;simp only[aR,decide_eq_true_eq,not_and] at this;exact cK λd=>this d c
 ·intro h o a b;simp only[aR,decide_eq_true_eq] at b;exact b.1 (h o a b.2)
def Gf(n:Nat)(a:List Nat):Nat:=(aO n).countP λk=>a.getD k 0==45
theorem RZ{α:Type}{p q:α->Bool}:∀(l:List α),(∀x∈l,p x=qb->q x=qb)->(∃x∈l,q x=qb/\p x=qh)->l.countP p<l.countP q
 |[],_,h=>by obtain⟨_,h,_⟩:=h;cases h
 | x::l,h,he=>by
  have e:l.countP p<=l.countP q:=lF λy hy=>h y (aj _ hy);rw[np,np];obtain⟨y,hy,b,c⟩:=he;rcases am.mp hy with rfl|hy
  ·rw[b,c];simp;lia
  ·have f:=RZ l (λy hy=>h y (aj _ hy)) ⟨y,hy,b,c⟩;have d:=h x ar;by_cases a:p x=qb
   ·rw[qq a,qq (d a)];lia
   ·rw[qM a];lia
def Qx{n:Nat}{a b:List Nat}(f:a.length=n)(g:b.length=n)(h:rV n a b=qb)(i:a≠b):Gf n a<Gf n b:=by
 refine RZ _ (λk c d=>?_) ?_
 ·have d:a.getD k 0=45:=by simpa using d
  rcases G3 h (bd.mp c) with z|z
  ·simpa using z
  ·rw[z,d];rfl
 ·refine cK λj=>i (zgA f g λk c=>?_);rcases G3 h c with z|z
  ·refine cK λe=>j ⟨k,bd.mpr c,by simpa using z,?_⟩;rw[z] at e;simpa using e
  ·exact z.symm
def ZE(n:Nat)(a:List Nat):Gf n a<=n:=by have:=List.countP_le_length (p:=λk=>a.getD k 0==45) (l:=aO n);rw[ci] at this;exact this
theorem Rv(b:∀t∈l,t.length=n):∀(f:Nat)(s:List Nat),s∈l->n<=Gf n s+f->∃t∈BQ n l,rV n s t=qb
 | 0,s,hs,hd=>⟨s,o5.mpr ⟨hs,λo a h=>cK λc=>by
   have:=Qx (b s hs) (b o a) h c;have:=ZE n o;lia⟩,R7 n s⟩
 | f+1,s,hs,hd=>by
  by_cases d:s∈BQ n l
  ·exact⟨s,d,R7 n s⟩
  ·rw[o5] at d;have:∃o∈l,rV n s o=qb/\s≠o:=cK λe=>d ⟨hs,λo a h=>cK λc=>e ⟨o,a,h,c⟩⟩;obtain⟨o,a,h,c⟩:=this;have j:=Qx (b s hs) (b o a) h c;obtain⟨t,g,i⟩:=Rv b f o a 'd';exact⟨t,g,zbG h i⟩
def NH(a:∀t∈l,t.length=n)(b:s∈l):∃t∈BQ n l,rV n s t=qb:=Rv a n s b 'd'
def zdc:(pG.all λq=>decide (qp (zR q.1 q.2)=[q.2])&&decide (zR q.1 q.2∈YP q.1))=qb:=by decide +kernel
def P_(b:t∈BQ n (rJ n f))(c:yM f t=qb):t∈gr n f:=by obtain⟨d,e⟩:=o5.mp b;refine aM.mpr ⟨d,?_⟩;unfold yG;rw[c,jT,kA,ft];intro o g a;simp only[aR,decide_eq_true_eq] at a;exact a.1 (e o g a.2).symm
def zhK(h:Fn n f):C2 f (gr n f)=qb:=by
 have b:=h.n1;have c:=h.n4;unfold C2;rw[av];intro p i;obtain⟨d,g⟩:=oV.mp i;have j:=d;rw[h.len] at d;have a:=av.mp zdc (n,p) (RD b c d);simp only[aR,decide_eq_true_eq] at a;have o:tS (f.getD p .non)=qh:=by
  rw[zX j] at g ⊢;rcases h.ans _ (bD j) with e|e|e<;>rw[e] at g ⊢ <;> first|rfl|cases g
 have q:zR n p∈rJ n f:=aM.mpr ⟨a.2,by
  unfold r8;rw[a.1];simp only[iM,List.all_nil,jT,o];rfl⟩
 obtain⟨w,k,r⟩:=NH (λt s=>sD b c (w_ s)) q;have l:=Kn b c a.2 (w_ (o5.mp k).1) r (p:=p) (by rw[a.1];simp);rw[cf];refine⟨w,P_ k ?_,by simpa using l⟩;unfold yM;have m:p∈(pW f).filter λp=>(qp w).contains p:=aM.mpr ⟨i,by simpa using l⟩;cases e:(pW f).filter λp=>(qp w).contains p with
 |nil=>rw[e] at m;cases m
 |cons _ _=>rfl
def BR(f:List D)(cs:List Nat):Bool:=(qp cs).any λp=>zo (f.getD p .non)
def z6j(a:Fn n f)(h:cs∈YP n)(O:Ow):Ey [.tup f,.str cs] O=.ok (.bl (BR f cs)) O:=by
 have b:=uO a.n1 a.n4 h;have g:=sD a.n1 a.n4 h;have c:pU (j_ 1 yW (b_ (a_ 1) c_)) [KF (.tup f),KF (.str cs)] O=.ok (.val (qU (qp cs))) O:=s_ ((uN (pX rfl) rfl).trans (K4 b O));have j:=xw (o:=qh) (ext:=1) (i:=2) (te:=e_ (pP qW) (e_ p8 (a_ 0) (a_ 2)) (dC (.int 1))) (e:=λp=>D.bl (zo (f.getD p .non))) (τ:=λp=>[KF (.tup f),KF (.str cs),KF (.int (p:Nat))]) c (by have:=P7 b;lia) (λ_=>rfl) (λq k=>by
  have d:q<f.length:=by rw[a.len,<- g];exact GL b k
  refine(qY ((qY rfl rfl).trans (G5 (i:=q) d)) rfl).trans ((eq1 O (a.ans _ (bD d))).trans ?_);rw[zX d])
 show fin (pR _ [KF (.tup f),KF (.str cs)] O)=_;rw[rW ((vQ (pX j)).trans (QW O _ _))];rfl
def zg8(O:Ow):(allS.map λq=>Ek [.str q.1,.int (q.2:Nat),.str [45]] O)=allS.map λq=>R.ok (.str (q.1.set q.2 45)) O:=by kernel_rfl
def ZU(h:cs∈oO)(a:k<cs.length)(O:Ow):Ek [.str cs,.int (k:Nat),.str [45]] O=.ok (.str (cs.set k 45)) O:=di.mp (zg8 O) _ (zfZ h a)
def yB(f:List D)(cs:List Nat)(k:Nat):Bool:=cs.getD k 0 !=45&&r8 f (cs.set k 45)
def Cr(f:List D)(cs:List Nat):Bool:=!(aO cs.length).any (yB f cs)
def XB(b:Fn n f)(h:cs∈YP n)(d:k<cs.length)(O:Ow):Ep [.tup f,.str cs,.int (k:Nat)] O=.ok (.bl (yB f cs k)) O:=by
 have g:=uO b.n1 b.n4 h;have j:cs.length<=4:=by rw[sD b.n1 b.n4 h];exact b.n4
 have e:=Ef b.n1 b.n4 h _ (bD d);show fin (HJ [KF (.tup f),KF (.str cs),KF (.int (k:Nat))] O)=_;have l:e_ (pP qN) (e_ p8 (a_ 1) (a_ 2)) (dC (.str [45])) [KF (.tup f),KF (.str cs),KF (.int (k:Nat))] O=.ok (.bl (cs[k] !=45)) O:=(qY ((qY rfl rfl).trans (J3 'd' d)) rfl).trans (JS O e);unfold HJ yB;rw[D8 d];simp only[l_,pS,qm,pR,rL,qo,a_,dC,b_,c_,j_,m_,e_,pT,qj,sQ,BU,R.bnd,R.bnS,fin,eV,eZ,fx,gh,aV,dQ,fY,iN,gN,jc,if_true,if_false,fL,ip,bX,ite_true,ite_false,wN];have i:(match (match e_ p8 (a_ 1) (a_ 2) [KF (.tup f),KF (.str cs),KF (.int (k:Nat))] O with|.ok a O=>R.ok a O|r=>r) with|_=>True):=trivial;rw[show p8 O (D.str cs) (D.int (k:Nat))=.ok (.str [cs[k]]) O from J3 'd' d];simp only[l_,pS,qm,pR,rL,qo,a_,dC,b_,c_,j_,m_,e_,pT,qj,sQ,BU,R.bnd,R.bnS,fin,eV,eZ,fx,gh,aV,dQ,fY,iN,gN,jc,if_true,if_false,fL,ip,bX,ite_true,ite_false,JS O e];cases m:(cs[k] !=45) with
 | true=>
  simp only[l_,pS,qm,pR,rL,qo,a_,dC,b_,c_,j_,m_,e_,pT,qj,sQ,BU,R.bnd,R.bnS,fin,eV,eZ,fx,gh,aV,dQ,fY,iN,gN,jc,if_true,if_false,fL,ip,bX,ite_true,ite_false,ZU g d O,Rx b (Hn b.n1 b.n4 h (k:=k) (c:=45) rfl) O,oa]
 |false=>simp only[l_,pS,qm,pR,rL,qo,a_,dC,b_,c_,j_,m_,e_,pT,qj,sQ,BU,R.bnd,R.bnS,fin,eV,eZ,fx,gh,aV,dQ,fY,iN,gN,jc,if_true,if_false,fL,ip,bX,ite_true,ite_false,kZ]
def zeA(a:Fn n f)(h:cs∈YP n)(O:Ow):Ej [.tup f,.str cs] O=.ok (.bl (Cr f cs)) O:=by
 have g:cs.length<=4:=by rw[sD a.n1 a.n4 h];exact a.n4
 have b:sO (b_ (m_ qi (b_ (a_ 1) c_)) c_) [KF (.tup f),KF (.str cs)] O=.ok (.val ((aO cs.length).map λ(i:Nat)=>D.int (i:Int))) O:=xE (pX ((vQ (pX rfl)).trans (Kg 'd'))) 'd';have c:=xw (o:=qh) (ext:=1) (i:=2) (te:=j_ 3 Ep (b_ (a_ 0) (b_ (a_ 1) (b_ (a_ 2) c_)))) (e:=λk=>D.bl (yB f cs k)) (τ:=λp=>[KF (.tup f),KF (.str cs),KF (.int (p:Nat))]) b (by rw[ci];lia) (λ_=>rfl) (λk d=>by
  exact(uN (Cw rfl (qA rfl rfl)) rfl).trans (XB a h (bd.mp d) O))
 show fin (HD [KF (.tup f),KF (.str cs)] O)=_;unfold HD Cr;have:=(vQ (pX c)).trans (QW O _ _);unfold pR Dl;rw[this];rfl
def IA(f:List D)(cs:List Nat):Bool:=BR f cs&&Cr f cs
def DP(n:Nat)(f:List D):List (List Nat):=(rJ n f).filter (IA f)
def zfo(h:cs∈rJ n f):cs∈YP n/\r8 f cs=qb:=aM.mp h
def zd5(a:Fn n f)(O:Ow):CB [.tup f] O=.ok (.lst ((DP n f).map .str)) O:=by
 have d:pU (j_ 1 Ew (b_ (a_ 0) c_)) [KF (.tup f)] O=.ok (.val ((rJ n f).map .str)) O:=s_ ((uN (pX rfl) rfl).trans (z74 a O));have g:=vt (o:=qh) (ext:=1) (i:=1) (t:=tM (qj (j_ 2 Ey (b_ (a_ 0) (b_ (a_ 1) c_)))) (qj (j_ 2 Ej (b_ (a_ 0) (b_ (a_ 1) c_))))) (te:=a_ 1) (p:=IA f) (e:=D.str) (τ:=λb=>[KF (.tup f),KF (.str b)]) d (by have:=KJ a;lia) (λ_=>rfl) (λb h=>by
  obtain⟨c,j⟩:=zfo h;exact D6 (s9 ((uN (qA rfl rfl) rfl).trans (z6j a c O))) λ_=>s9 ((uN (qA rfl rfl) rfl).trans (zeA a c O))) (λb _ _=>rfl)
 show fin (Hr [KF (.tup f)] O)=_;unfold Hr;rw[rW (g.trans rfl)];rfl
theorem N0{α:Type}{src:Src}{step:D->Ow->List D->R (List D)}{O:Ow}{inj:α->D}{g:α->D}{all:List α}(c:∀i,src.get O i=(all.map inj)[i]?)(j:∀b a r,all=b++a::r->step (inj a) O (b.map g)=.ok (b.map g++[g a]) O):∀(ds b:List α)(f:Nat),all=b++ds->ds.length<=f->qD src step f b.length O (b.map g)=.ok (all.map g) O
 | [],b,f,ha,_=>by
  have e:src.get O b.length=KM:=by rw[c,ha];simp
  have k:all=b:=by rw[ha];simp
  cases f<;>(unfold qD;rw[e,k])
 |d::ds,b,0,_,h=>by simp at h
 | d::ds,b,f+1,ha,h=>by
  unfold qD;have e:src.get O b.length=KF (inj d):=by rw[c,ha];simp
  rw[e];show((step (inj d) O (b.map g)).bnd λl m=>qD src step f (b.length+1) m l)=_;rw[j b d ds ha];show qD src step f (b.length+1) O (b.map g++[g d])=_;have:=N0 c j ds (b++[d]) f (by rw[ha];simp) (by simpa using h);rw[aw,fA,bA] at this;exact this
def zfA{α:Type}{ext i:Nat}{it0:DI}{tk tv:DE}{σ:Sg}{O O0:Ow}{l:List α}{inj key val:α->D}{kk:α->DK}{τ:α->Sg}(n:it0 σ O0=.ok (.val (l.map inj)) O)(y:l.length<1000)(j:(l.map kk).Nodup)
  (o:∀a,(ql (ql (σ++aS ext KM) [i]) [i]).set i (KF (inj a))=τ a) (p:∀a∈l,tk (τ a) O=.ok (key a) O) (q:∀a∈l,v_ (key a)=KF (kk a)) (s:∀a∈l,tv (τ a) O=.ok (val a) O):
  xA ext it0 (.one i) [] [] tk tv σ O0=.ok (.map (l.map kk) (l.map val)) O:=by
 unfold xA z_;rw[n];show((xH (qD (.val (l.map inj)) _ ((l.map inj).length) 0 O [])).bnd _)=_;have w:=N0 (O:=O) (src:=.val (l.map inj)) (step:=uJ ⟨it0,.one i,[]⟩ [] (Ap tk tv) (ql (σ++aS ext KM) (qu [⟨it0,.one i,[]⟩]))) (inj:=inj) (g:=λa=>sP (kk a,val a)) (all:=l) (λ_=>rfl) (λc a r f=>by
  have h:a∈l:=by rw[f];simp
  show(match (KF ((ql (ql (σ++aS ext KM) [i]) [i]).set i (KF (inj a))):Option Sg) with|some qL=>(tG [] qL O).bnd λb m=>if b=qb then uX [] (Ap tk tv) qL m (c.map λa=>sP (kk a,val a)) else .ok (c.map λa=>sP (kk a,val a)) m|none=>.bad)=_;rw[o a];show((tk (τ a) O).bnd _)=_;rw[p a h];show(match v_ (key a) with|some k=>_|none=>_)=_;rw[q a h];show((tv (τ a) O).bnd _)=_;rw[s a h];have d:(c.map λa=>sP (kk a,val a)).length<1000:=by
   rw[au];have:=congrArg kQ f;simp at this;lia
  have t:(c.map λa=>sP (kk a,val a)).any (BP (kk a))=qh:=by
   rw[gq];intro x u;obtain⟨b,v,rfl⟩:=az.mp u;have:kk b≠kk a:=by
    rw[f,bA,bq,fN] at j;exact j.2.2 _ (az.mpr ⟨b,v,rfl⟩) _ ar
   show ¬ decide (kk b=kk a)=qb;rw[decide_eq_true_eq];exact this
  show(if _/\_ then R.ok _ O else R.bad)=_;rw[qq ⟨d,t⟩];rfl) l [] ((l.map inj).length) rfl 'k'
 rw[show qD (.val (l.map inj)) _ ((l.map inj).length) 0 O []=_ from w];show R.ok (D.map (CY (l.map λa=>sP (kk a,val a))) (CZ (l.map λa=>sP (kk a,val a)))) O=_;have e:(l.map λa=>sP (kk a,val a))=(l.map λa=>(kk a,val a)).map sP:=by rw[bi];rfl
 rw[e,Kb,J5,bi,bi];rfl
theorem RT{α:Type}{kk:α->DK}{val:α->D}{a:α}:∀{l:List α},a∈l->(l.map kk).Nodup->wc (kk a) (l.map kk) (l.map val)=KF (val a)
 |[],h,_=>by cases h
 | b::l,h,hn=>by
  rw[bq,bu] at hn;show(if kk b=kk a then KF (val b) else wc (kk a) (l.map kk) (l.map val))=_;rcases am.mp h with rfl|h
  ·rw[qq rfl]
  ·rw[qM (λ(e:kk b=kk a)=>hn.1 (by rw[e];exact az.mpr ⟨a,h,rfl⟩))];exact RT h hn.2
def QB(a:td σ O=.ok (.map ks ds) O)(b:tz σ O=.ok y O)(c:v_ y=KF k)(e:wc k ks ds=KF d):AD td tz σ O=.ok d O:=by unfold AD;rw[a];show((tz σ O).bnd _)=_;rw[b];show(match v_ y with|some k=>_|none=>_)=_;rw[c];show(match wc k ks ds with|some d=>R.ok d O|none=>R.bad)=_;rw[e]
def zfn(a:1<=n)(b:n<=4):(YP n).Pairwise (· < ·):=by rcases yE a b with rfl|rfl|rfl|rfl<;>decide +kernel
theorem QV(x:List Nat):∀l:List (List Nat),(vq x l).length<=l.length+1
 |[]=>by simp[vq]
 | y::r=>by
  unfold vq;split
  ·simp
  ·split
   ·simp
   ·have:=QV x r;simp;lia
def zgk(c:List (List Nat)):(qS c).length<=c.length:=by
 have:∀(l b:List (List Nat)),(l.foldl (λl x=>vq x l) b).length<=b.length+l.length:=λl=>by
  induction l with
  |nil=>intro b;simp
  | cons a l ih=>
   intro b;rw[fD];have d:=ih (vq a b);have e:=QV a b;rw[aV];lia
 have h:=this c [];simpa [qS] using h
def W6(a:Fn n f):(gr n f).Pairwise (· < ·):=((zfn a.n1 a.n4).filter _).filter _
def WI(h:sgn c=qb):c∈A7:=by unfold sgn at h;simp only[eM,beq_iff_eq] at h;rcases h with(rfl|rfl)|rfl<;>decide
def zfQ(a:1<=n)(b:n<=4)(h:cs∈YP n):II (.str cs):=.inl ⟨cs,rfl,λc d=>WI (Ef a b h c d),by rw[sD a b h];lia⟩
def zcX{n:Nat}(a:1<=n)(b:n<=4){l:List (List Nat)}(h:∀t∈l,t∈YP n):∀d∈l.map D.str,II d:=λd c=>by
 obtain⟨e,f,rfl⟩:=az.mp c;exact zfQ a b (h e f)
def zcP(a:1<=n)(b:n<=4)(h:cs∈YP n):Aw n (.str cs)=qb:=by show(cs.length==n&&cs.all sgn)=qb;rw[sD a b h,av.mpr (Ef a b h)];simp
def YL{n:Nat}(b:1<=n)(c:n<=4){l:List (List Nat)}(h:∀t∈l,t∈YP n)(f:l.Pairwise (· < ·)):Ia n (l.map D.str)=qb:=by
 unfold Ia;have e:(l.map D.str).map wX=l:=by
  rw[bi];exact(fc λa _=>rfl).trans (ju l)
 rw[e,pD.mpr f,jT,av];intro d g;obtain⟨i,j,rfl⟩:=az.mp g;exact zcP b c (h i j)
section
variable{n:Nat}{g:List D}(hg:Fn n g)
include hg
end
def zU(h:tA σ O=.ok ds O1)(a:ds.length<=4000000):sk tA σ O=.ok (.tup ds) O1:=by show((tA σ O).bnd _)=_;rw[h];show(if ds.length<=4000000 then _ else _)=_;rw[qq a]
structure Sub(ds l:List D)(lo hi:Option Int):Prop where
 mem:∀d∈l,d∈ds
 len:l.length<=ds.length
 cut:l.length<=HT.sIx ds.length ds.length hi-HT.sIx ds.length 0 lo
section
variable{n:Nat}(h1:1<=n)(h4:n<=4){l:List (List Nat)}(qk:∀t∈l,t∈YP n)(hlen:l.length<=54)
include h1 h4 qk hlen
end
theorem KI{α:Type}{src:Src}{step:D->Ow->List D->R (List D)}{O:Ow}{inj:α->D}{g:α->List D}{l:List α}{KB:List D}(b:∀i,src.get O i=(l.map inj)[i]?)(c:∀(i:Nat)a,l[i]?=KF a->step (inj a) O (KB++(l.take i).flatMap g)=.ok (KB++(l.take (i+1)).flatMap g) O):
  ∀(f i:Nat),i<=l.length->l.length<=i+f->qD src step f i O (KB++(l.take i).flatMap g)=.ok (KB++l.flatMap g) O
 | 0,i,h1,h2=>by
  have:i=l.length:=by lia
  subst this;have e:src.get O l.length=KM:=by rw[b];simp
  unfold qD;rw[e,cE]
 | f+1,i,h1,h2=>by
  by_cases h:i=l.length
  ·subst h;have e:src.get O l.length=KM:=by rw[b];simp
   unfold qD;rw[e,cE]
  ·have d:i<l.length:=by lia
   have e:src.get O i=KF (inj l[i]):=by rw[b,be,al d];rfl
   unfold qD;rw[e];show((step (inj l[i]) O (KB++(l.take i).flatMap g)).bnd _)=_;rw[c i l[i] (al d)];exact KI b c f (i+1) 'd' 'd'
def CG{α b:Type}{g:α->List b}{l:List α}{i:Nat}{a:α}(h:l[i]?=KF a):(l.take (i+1)).flatMap g=(l.take i).flatMap g++g a:=by rw[eH,h,jg];simp
def S_{α a:Type}{g:α->List a}(l:List α)(i:Nat):((l.take i).flatMap g).length<=(l.flatMap g).length:=by
 conv=>rhs;rw[<- cn i l]
 rw[jg,aw];lia
def W5{α f:Type}{ext:Nat}{it0 c:DI}{i j:Nat}{ts:List DT}{te:DE}{σ:Sg}{O O0:Ow}{src:Src}{l:List α}{inj:α->D}{m:α->List f}{inj2:f->D}{p:α->f->Bool}{e:α->f->D}{τ:α->Sg}{τ2:α->f->Sg}{o:Bool}
  (A:it0 σ O0=.ok src O) (B:∀i,src.get O i=(l.map inj)[i]?) (hsz:src.size O=l.length) (u:(l.flatMap m).length<1900000)
  (C:∀a,(ql (ql (σ++aS ext KM) [i,j]) [i,j]).set i (KF (inj a))=τ a) (E:∀a b,(ql (τ a) [j]).set j (KF (inj2 b))=τ2 a b)
  (F:∀a∈l,c (τ a) O=.ok (.val ((m a).map inj2)) O) (G:∀a∈l,∀b∈m a,tG ts (τ2 a b) O=.ok (p a b) O) (H:∀a∈l,∀b∈m a,te (τ2 a b) O=.ok (e a b) O):
  qg o ext it0 (.one i) [] [⟨c,.one j,ts⟩] te σ O0=vo o (.ok (l.flatMap λa=>((m a).filter (p a)).map (e a)) O):=by
 unfold qg zY;rw[A];show vo o (xH (qD src _ (src.size O) 0 O []))=_;have I:∀(a:α)(k:List f),(k.flatMap λb=>if p a b=qb then [e a b] else []).length<=k.length:=λa k=>by
  rw[El,au];exact bg _ _
 have J:∀k:List α,(k.flatMap λa=>((m a).filter (p a)).map (e a)).length<=(k.flatMap m).length:=λk=>by
  induction k with
  |nil=>simp
  | cons x k ih=>
   rw[cg,cg,aw,aw,au];have:=bg (p x) (m x);lia
 have w:=KI (O:=O) (src:=src) (step:=yb ⟨it0,.one i,[]⟩ [⟨c,.one j,ts⟩] te (ql (σ++aS ext KM) (qu [⟨it0,.one i,[]⟩,⟨c,.one j,ts⟩]))) (g:=λa=>((m a).filter (p a)).map (e a)) (KB:=[]) B (λk a r=>by
  have s:=aD r;show ui [⟨c,.one j,ts⟩] te ((ql (ql (σ++aS ext KM) [i,j]) [i,j]).set i (KF (inj a))) O _=_;rw[C];unfold ui;show((c (τ a) O).bnd _)=_;rw[F a s];show qD (.val ((m a).map inj2)) _ ((m a).map inj2).length 0 O _=_;have t:=S_ (g:=m) l (k+1);rw[CG r,aw] at t;have M:=J (l.take k);rw[CG r];have v:=KI (O:=O) (src:=.val ((m a).map inj2)) (step:=λd K KB=>match Tg.put (.one j) d (ql (τ a) (qu [⟨c,.one j,ts⟩])) with|some qL=>(tG ts qL K).bnd λb h=>if b=qb then ui [] te qL h KB else .ok KB h|none=>.bad) (g:=λb=>if p a b=qb then [e a b] else []) (l:=m a) (inj:=inj2) (KB:=[]++(l.take k).flatMap λa=>((m a).filter (p a)).map (e a)) (λ_=>rfl) (λq b y=>by
   have z:=aD y;show((tG ts ((ql (τ a) [j]).set j (KF (inj2 b))) O).bnd λL h=>if L=qb then ui [] te ((ql (τ a) [j]).set j (KF (inj2 b))) h _ else .ok _ h)=_;rw[E,G a s b z,CG y];show(if p a b=qb then ui [] te (τ2 a b) O _ else .ok _ O)=_;have N:=I a ((m a).take q);have P:=eN q (m a);by_cases n:p a b=qb
   ·rw[qq n,qq n];unfold ui;rw[H a s b z];show(if _<4000000 then _ else _)=_;rw[qq (by rw[ef,aw];lia)];simp
   ·rw[qM n,qM n,bz]) ((m a).map inj2).length 0 (bE _) 'k'
  rw[nX,nq,bz,El] at v;refine Eq.trans (show _=_ from v) ?_;rw[ef];rfl) l.length 0 (bE _) 'k'
 rw[nX,nq,bz,ef] at w;rw[hsz,w];rfl
theorem SH{α b:Type}{f g:α->List b}:∀{l:List α},(∀a∈l,f a=g a)->l.flatMap f=l.flatMap g
 |[],_=>rfl
 |x::l,h=>by rw[cg,cg,h x ar,SH λa c=>h a (aj _ c)]
def yt(p q:Nat):Bool:=decide (p<q)&&[1,2,4,8].contains (p^^^q)
def pe:List (Nat×Nat):=(aO 16).flatMap λp=>(aO 16).map λq=>(p,q)
def QX(a:p<16)(b:q<16):(p,q)∈pe:=eD.mpr ⟨p,bd.mpr a,az.mpr ⟨q,bd.mpr b,rfl⟩⟩
def tP:DT:=(tM (pT (e_ vm (a_ 2) (a_ 3))) (pT (e_ wC (e_ (fI zQ) (a_ 2) (a_ 3)) (dC (.tup (pd.map .int))))))
def WT(O:Ow)(a b:Option D):(pe.map λq=>tP [a,b,KF (.int (q.1:Nat)),KF (.int (q.2:Nat))] O)=pe.map λq=>R.ok (yt q.1 q.2) O:=by kernel_rfl
def cL:DT:=(tM (pT (e_ vm (a_ 2) (a_ 3))) (pT (e_ (pP qW) (e_ (fI Dt) (a_ 4) (e_ (fI uu) (a_ 4) (dC (.int 1)))) (dC (.int 0)))))
def tL:DS:=(l_ (pS 4 (e_ (fI zQ) (a_ 2) (a_ 3))) (qm cL (rL (vn (a_ 1) (b_ (sk (b_ (a_ 2) (b_ (a_ 3) c_))) c_))) qo))
def YN(O:Ow)(a b c:Option D):(pe.map λq=>e_ (fI zQ) (a_ 2) (a_ 3) [a,b,KF (.int (q.1:Nat)),KF (.int (q.2:Nat)),c] O)=pe.map λq=>R.ok (.int ((q.1^^^q.2:Nat))) O:=by kernel_rfl
def WR(O:Ow)(a b:Option D):(pe.map λq=>cL [a,b,KF (.int (q.1:Nat)),KF (.int (q.2:Nat)),KF (.int ((q.1^^^q.2:Nat)))] O)=pe.map λq=>R.ok (yt q.1 q.2) O:=by kernel_rfl
def pr(q:Nat×Nat):D:=.tup [.int (q.1:Nat),.int (q.2:Nat)]
def xy(f:List D)(p:Nat):List (Nat×Nat):=((pW f).filter (yt p)).map λq=>(p,q)
def r_(f:List D):List (Nat×Nat):=(pW f).flatMap (xy f)
def G4(a:Fn n f)(h:p∈pW f):p<16:=by have b:=(oV.mp h).1;have c:=AO a.n4;have d:=a.len;lia
def P9(h:q∈r_ f):q.1∈pW f/\q.2∈pW f:=by obtain⟨p,a,b⟩:=eD.mp h;obtain⟨r,c,rfl⟩:=az.mp b;exact⟨a,(aM.mp c).1⟩
theorem Cs{α b:Type}{g:α->List b}{k:Nat}:∀l:List α,(∀a∈l,(g a).length<=k)->(l.flatMap g).length<=l.length*k
 |[],_=>by simp
 | x::l,h=>by
  rw[cg,aw,aV,Nat.succ_mul];have:=h x ar;have:=Cs l λa c=>h a (aj _ c);lia
def RB(a:Fn n f)(p:Nat):(xy f p).length<=16:=by unfold xy;rw[au];exact aI (bg _ _) (yT a)
def DX{n:Nat}{f:List D}(b:Fn n f):(r_ f).length<=256:=by have c:=Cs (g:=xy f) (k:=16) (pW f) λa _=>RB b a;have d:=yT b;unfold r_;lia
def zf9{n:Nat}{f:List D}(c:Fn n f)(O:Ow):DV [.tup f] O=.ok (.lst ((r_ f).map pr)) O:=by
 have i:=yT c;let A:Option D:=KF (.tup f);let S:Option D:=KF (.lst (qU (pW f)));show fin (JY [A,KM] O)=_;unfold JY;refine uk (QD (qw (pX rfl) (JO c O)) (rY (x:=.lst (qU (pW f))) (O1:=O) (qw (qA rfl rfl) (Sn c O)) (rW ?_)));refine(W5 (o:=qh) (O:=O) (src:=.val (qU (pW f))) (l:=pW f) (inj:=λ(p:Nat)=>D.int (p:Int)) (m:=λ_=>pW f) (inj2:=λ(p:Nat)=>D.int (p:Int)) (p:=yt) (e:=λp q=>pr (p,q)) (τ:=λ(p:Nat)=>[A,S,KF (.int (p:Int)),KM]) (τ2:=λ(p q:Nat)=>[A,S,KF (.int (p:Int)),KF (.int (q:Int))]) (s_ rfl) (λ_=>rfl) ?_ ?_ (λ_=>rfl) (λ_ _=>rfl) (λa d=>s_ rfl) (λa d b h=>Hd ?_) (λa d b h=>?_)).trans ?_
 ·show(qU (pW f)).length=_;unfold qU;rw[au]
 ·have:=Cs (g:=λ_=>pW f) (k:=16) (pW f) λa _=>i;lia
 ·exact di.mp (WT O A S) (a,b) (QX (G4 c d) (G4 c h))
 ·exact zU (qA rfl rfl) (by show 2<=4000000;decide)
 ·show R.ok (D.lst _) O=_;congr 2;unfold r_ xy;rw[List.map_flatMap];refine SH λa _=>?_;rw[bi];rfl
def Vw(a:Fn n f)(c:p∈pW f)(d:q∈pW f)(i:l.length<1000):
  tL [x0,KF (.own O.length),KF (.int (p:Nat)),KF (.int (q:Nat)),x4] (O++[l])=.nx [x0,KF (.own O.length),KF (.int (p:Nat)),KF (.int (q:Nat)),KF (.int ((p^^^q:Nat)))] (O++[if yt p q=qb then l++[pr (p,q)] else l]):=by
 have b:=QX (G4 a c) (G4 a d);have e:e_ (fI zQ) (a_ 2) (a_ 3) [x0,KF (.own O.length),KF (.int (p:Nat)),KF (.int (q:Nat)),x4] (O++[l])=.ok (.int ((p^^^q:Nat))) (O++[l]):=di.mp (YN (O++[l]) x0 (KF (.own O.length)) x4) (p,q) b;have g:cL [x0,KF (.own O.length),KF (.int (p:Nat)),KF (.int (q:Nat)),KF (.int ((p^^^q:Nat)))] (O++[l])=.ok (yt p q) (O++[l]):=di.mp (WR (O++[l]) x0 (KF (.own O.length))) (p,q) b;generalize p^^^q=x at *;unfold tL;rw[sv (xC e)];show qm cL _ _ [x0,KF (.own O.length),KF (.int (p:Nat)),KF (.int (q:Nat)),KF (.int (x:Nat))] (O++[l])=_;rw[tO g];cases h:yt p q with
 |false=>rfl
 | true=>
  rw[qq rfl,qq rfl,D7 (ds:=l) (y:=pr (p,q)) rfl (zU (qA rfl rfl) (by show 2<=4000000;decide)) vU 'd',z8]
def P8{O X:Ow}(b:uv O){l:List (Nat×Nat)}:tK O.length (.ok (.own O.length) (O++[l.map pr]++X))=.ok (.lst (l.map pr)) O:=by
 rw[aZ];refine Ee b _ ?_;unfold frz;dsimp only;rw[qM (bS _),zfx];dsimp only;rw[uA λd a=>?_]
 ·rfl
 ·obtain⟨q,_,rfl⟩:=az.mp a;exact PX λd a=>by
   simp only[am,aW,or_false] at a;rcases a with rfl|rfl<;>rfl
def S9{n:Nat}{f:List D}(c:Fn n f){O:Ow}(w:uv O):AU [.tup f] O=.ok (.lst ((r_ f).map pr)) O:=by
 have F:=yT c;let A:Option D:=KF (.tup f);let C:Option D:=KF (.own O.length);obtain⟨m,b,h,o,d,e,rfl,rfl⟩:=w8 (i:=2) (it:=pU (j_ 1 vV (b_ (a_ 0) c_))) (body:=rC (pU (j_ 1 vV (b_ (a_ 0) c_))) (.one 3) tL) (σ:=[A,C,KM,KM,KM]) (O0:=O++[[]]) (O:=O++[[]]) (l:=pW f) (inj:=λ(p:Nat)=>D.int (p:Int)) (s_ (qw (pX rfl) (DZ c _)))
  (λj σ b=>∃o d e,σ=[A,C,o,d,e]/\b=O++[((((pW f).take j).flatMap (xy f)).map pr)]) (λj p σ b u r=>by
   obtain⟨o,d,e,rfl,rfl⟩:=r;have y:=aD u;have G:=Cs (g:=xy f) (k:=16) ((pW f).take j) λa _=>RB c a;have H:=eN j (pW f);obtain⟨m,b,h,s,t,rfl,rfl⟩:=w8 (i:=3) (it:=pU (j_ 1 vV (b_ (a_ 0) c_))) (body:=tL) (σ:=[A,C,KF (.int (p:Int)),d,e]) (O0:=O++[((((pW f).take j).flatMap (xy f)).map pr)]) (O:=O++[((((pW f).take j).flatMap (xy f)).map pr)]) (l:=pW f) (inj:=λ(p:Nat)=>D.int (p:Int)) (s_ (qw (pX rfl) (DZ c _)))
    (λi σ b=>∃s t,σ=[A,C,KF (.int (p:Int)),s,t]/\b=O++[(((pW f).take j).flatMap (xy f)).map pr++((((pW f).take i).filter (yt p)).map λq=>pr (p,q))]) (λi q σ b v r=>by
     obtain⟨s,t,rfl,rfl⟩:=r;have z:=bg (yt p) ((pW f).take i);have B:=eN i (pW f);refine⟨_,_,Vw c y (aD v) (O:=O) (by rw[aw,au,au];lia),_,_,rfl,?_⟩;rw[Hy _ v];congr 2;split
     ·rw[bA,aZ];rfl
     ·rw[bz]) ⟨d,e,rfl,by simp⟩
   refine⟨_,_,h,_,_,_,rfl,?_⟩;rw[CG u,cE,bA];congr 3;unfold xy;rw[bi];rfl) ⟨KM,KM,KM,rfl,by simp⟩
 show tK O.length (fin (HG [A,KM,KM,KM,KM] O))=_;rw[cE] at h;have E:HG [A,KM,KM,KM,KM] O=.rt (.own O.length) (O++[(r_ f).map pr]):=by
  unfold HG;exact rY (x:=.own O.length) (O1:=O++[[]]) rfl (vP h (rW rfl))
 rw[uk E];have:=P8 (X:=[]) w (l:=r_ f);rw[bz] at this;exact this
def hold(t:List Nat)(q:Nat×Nat):Bool:=(qp t).contains q.1&&(qp t).contains q.2
def FP(f:List D)(l:List (List Nat)):List (Nat×Nat):=(r_ f).filter λq=>(l.filter λt=>hold t q).isEmpty
def Vn(q:Nat×Nat):pl 7 (pr q)=qb:=rfl
def Ws(l:List (Nat×Nat)):(l.map pr).all (pl 7)=qb:=av.mpr λd a=>by
 obtain⟨q,_,rfl⟩:=az.mp a;rfl
def Wx(h:pr a=pr b):a=b:=by unfold pr at h;injection h with h;injection h with h1 h2;injection h2 with h2 _;injection h1 with h1;injection h2 with h2;exact lH 'd' 'd'
def YK{n:Nat}(a:1<=n)(b:n<=4){t:List Nat}(c:t∈YP n){O:Ow}{l:List (Nat×Nat)}(d:l.length<1000):CD [.str t,.lst (l.map pr)] O=.ok (.lst ((l.filter (hold t)).map pr)) O:=by show fin (Kx [KF (.str t),KF (.lst (l.map pr)),KM] O)=_;unfold Kx;refine uk (rY (x:=.lst (qU (qp t))) (O1:=O) (qw (pX rfl) (K4 (uO a b c) O)) (rW ?_));exact(Hc (o:=qh) (O:=O) (src:=.val (l.map pr)) (l:=l) (inj:=pr) (p:=hold t) (e:=pr) (τ:=λq=>[KF (.str t),KF (.lst (l.map pr)),KF (.lst (qU (qp t))),KF (.int (q.1:Nat)),KF (.int (q.2:Nat))]) (s_ rfl) (λ_=>rfl) (by show(l.map pr).length=_;simp) 'd' (λ_ _=>rfl) (λq _=>Hd (D6 (rK (qr rfl rfl (Qt O _ _))) λ_=>rK (qr rfl rfl (Qt O _ _)))) (λq _ _=>zU (qA rfl rfl) (by show 2<=4000000;decide))).trans rfl
def Jo:DS:=(qm (pT (e_ (pP qW) (qg qh 1 (pU (a_ 1)) (.one 4) [(tM (qj (j_ 2 tQ (b_ (a_ 4) (b_ (e_ p8 (a_ 3) (dC (.int 0))) c_)))) (qj (j_ 2 tQ (b_ (a_ 4) (b_ (e_ p8 (a_ 3) (dC (.int 1))) c_)))))] [] (a_ 4)) (rH c_))) (rL (vn (a_ 2) (b_ (a_ 3) c_))) qo)
def z9q{n:Nat}{f:List D}(a:Fn n f){l:List (List Nat)}(g:∀t∈l,t∈YP n)(r:l.length<=100){O:Ow}(s:uv O):CJ [.tup f,.tup (l.map .str)] O=.ok (.lst ((FP f l).map pr)) O:=by
 have G:=DX a;let A:Option D:=KF (.tup f);let L:Option D:=KF (.tup (l.map .str));let W:Option D:=KF (.own O.length);have z:uv (O++[[]]):=zfk s 'k';obtain⟨B,k,u,m,rfl,rfl⟩:=w8 (i:=3) (it:=pU (j_ 1 AU (b_ (a_ 0) c_))) (body:=Jo) (l:=r_ f) (inj:=pr) (σ:=[A,L,W,KM]) (O0:=O++[[]]) (O:=O++[[]]) (s_ (qw (pX rfl) (S9 a z)))
  (λj σ k=>∃m,σ=[A,L,W,m]/\k=O++[(((r_ f).take j).filter λq=>(l.filter λt=>hold t q).isEmpty).map pr]) (λj q σ k v C=>by
   obtain⟨m,rfl,rfl⟩:=C;have w:=P9 (aD v);generalize o:(((r_ f).take j).filter λq=>(l.filter λt=>hold t q).isEmpty).map pr=c;have H:c.length<1000:=by
    rw[<- o,au];have I:=bg (λq=>(l.filter λt=>hold t q).isEmpty) ((r_ f).take j);have J:=eN j (r_ f);lia
   refine⟨[A,L,W,KF (pr q)],O++[if (l.filter λt=>hold t q).isEmpty=qb then c++[pr q] else c],?_,KF (pr q),rfl,?_⟩
   ·have y:∀t∈l,∀p∈pW f,tQ [.str t,.int (p:Nat)] (O++[c])=.ok (.bl ((qp t).contains p)) (O++[c]):=λt d p E=>AS (uO a.n1 a.n4 (g t d)) (by rw[sD a.n1 a.n4 (g t d),<- a.len];exact(oV.mp E).1) _;show Jo [A,L,W,KF (pr q)] (O++[c])=_;unfold Jo;rw[tO (b:=(l.filter λt=>hold t q).isEmpty) (O1:=O++[c]) (rK (qr ((vt (l:=l) (inj:=D.str) (p:=λt=>hold t q) (e:=D.str) (τ:=λt=>[A,L,W,KF (pr q),KF (.str t)]) (yP rfl) 'd' (λ_=>rfl) (λt d=>D6 (s9 (qw (qA rfl rfl) (y t d _ w.1))) λ_=>s9 (qw (qA rfl rfl) (y t d _ w.2))) (λ_ _ _=>rfl)).trans rfl) rfl (JN _ a.n1 a.n4 λt h=>g t (aM.mp h).1)))];cases (l.filter λt=>hold t q).isEmpty with
    |false=>rfl
    |true=>rw[qq rfl,qq rfl,D7 (t:=a_ 3) rfl rfl vU 'd',z8]
   ·rw[Hy _ v];split
    ·rw[bA,o];rfl
    ·rw[bz,o]) ⟨KM,rfl,by simp⟩
 show tK O.length (fin (Hx [A,L,KM,KM] O))=_;rw[cE] at u;have F:Hx [A,L,KM,KM] O=.rt (.own O.length) (O++[(FP f l).map pr]):=by
  unfold Hx;exact rY (x:=.own O.length) (O1:=O++[[]]) rfl (vP u (rW rfl))
 rw[uk F];have:=P8 (X:=[]) s (l:=FP f l);rw[bz] at this;exact this
def z9L(d:Fn n f)(h:cs∈YP n):BR f cs=yM f cs:=by
 have:yM f cs=qb↔BR f cs=qb:=by
  unfold yM BR;simp only[eR,cf];constructor
  ·intro e;cases b:(pW f).filter λp=>(qp cs).contains p with
   |nil=>rw[b] at e;cases e
   | cons p l=>
    have g:p∈(pW f).filter λp=>(qp cs).contains p:=by rw[b];exact ar
    obtain⟨a,c⟩:=aM.mp g;exact⟨p,by simpa using c,(oV.mp a).2⟩
  ·rintro⟨p,a,c⟩;cases b:(pW f).filter λp=>(qp cs).contains p with
   | nil=>
    have:p∈(pW f).filter λp=>(qp cs).contains p:=aM.mpr ⟨oV.mpr ⟨by rw[d.len];exact G0 d.n1 d.n4 h a,c⟩,by simpa using a⟩;rw[b] at this;cases this
   |cons p l=>rfl
 cases a:BR f cs<;>cases c:yM f cs<;>simp_all
def zi3:(oO.all λa=>oO.all λb=>!(a.length==b.length&&rV a.length a b&&decide (a≠b))||(aO a.length).any λk=>a.getD k 0 !=45&&rV a.length (a.set k 45) b)=qb:=by decide +kernel
def zfU(b:a.length=n):rV n a (a.set k 45)=qb:=Qi λj c=>by
 by_cases e:k=j
 ·subst e;left;rw[aG,bB 'd'];rfl
 ·right;rw[aG,bt e,<- aG]
def zei(c:Fn n f)(d:a∈YP n)(e:b∈YP n)(h:rV n a b=qb)(g:r8 f b=qb):r8 f a=qb:=by unfold r8 at *;rw[av] at *;exact λp i=>g p (Kn c.n1 c.n4 d e h i)
def Sd{n:Nat}{f:List D}(a:Fn n f):DP n f=gr n f:=by
 unfold DP gr;refine mT λt u=>?_;have i:=w_ u;have b:=sD a.n1 a.n4 i;unfold IA yG;rw[z9L a i,Bool.and_comm];congr 1;unfold Cr;rw[Hq];have j:(aO t.length).any (yB f t)=qb ↔ ∃o∈rJ n f,o≠t/\rV n t o=qb:=by
  rw[cf];constructor
  ·rintro⟨k,l,d⟩;have l:=bd.mp l;unfold yB at d;rw[aR] at d;have v:=Hn a.n1 a.n4 i (k:=k) (c:=45) rfl;refine⟨t.set k 45,aM.mpr ⟨v,d.2⟩,λe=>?_,zfU b⟩;have w:t.getD k 0≠45:=by simpa using d.1
   have:(t.set k 45).getD k 0=45:=by rw[aG,bB l];rfl
   rw[e] at this;exact w this
  ·rintro⟨o,g,m,p⟩;have q:=w_ g;have h:=av.mp (av.mp zi3 t (uO a.n1 a.n4 i)) o (uO a.n1 a.n4 q);rw[b,sD a.n1 a.n4 q,p,decide_eq_true (bL m)] at h;simp only[beq_self_eq_true,og,fL,iH] at h;rw[cf] at h;obtain⟨k,l,r⟩:=h;rw[aR] at r;refine⟨k,by rw[b];exact l,?_⟩;unfold yB;rw[aR];exact⟨r.1,zei a (Hn a.n1 a.n4 i rfl) q r.2 (aM.mp g).2⟩
 cases d:(aO t.length).any (yB f t) with
 | true=>
  obtain⟨o,g,m,p⟩:=j.mp d;symm;show(rJ n f).all _=qh;rw[List.all_eq_false];exact⟨o,g,by simp[m,p]⟩
 | false=>
  symm;show(rJ n f).all _=qb;rw[av];intro o g;cases s:(decide (o≠t)&&rV n t o) with
  |false=>rfl
  | true=>
   rw[aR] at s;have:=j.mpr ⟨o,g,of_decide_eq_true s.1,s.2⟩;rw[d] at this;cases this
def xl(g:Nat->Bool)(t:List Nat):Bool:=(qp t).all g
def A1(g:Nat->Bool)(t:List Nat):Bool:=xl g t && !(aO t.length).any λk=>t.getD k 0 !=45&&xl g (t.set k 45)
def ZN:∀a b c d e f g h:Bool,((YP 3).filter (A1 λp=>[a,b,c,d,e,f,g,h].getD p qh)).length<=6:=by decide +kernel
def OS(h:∀p,p<8->g p=k p)(b:t∈YP 3):xl g t=xl k t:=by
 unfold xl;rw[dS,av,av];constructor
 ·intro q p a;rw[<- h p (G0 (n:=3) 'u' 'u' b a)];exact q p a
 ·intro q p a;rw[h p (G0 (n:=3) 'u' 'u' b a)];exact q p a
def Xf(h:∀p,p<8->g p=k p)(a:t∈YP 3):A1 g t=A1 k t:=by unfold A1;rw[OS h a];congr 3;funext i;rw[OS h (Hn (n:=3) 'u' 'u' a rfl)]
def six(g:Nat->Bool):((YP 3).filter (A1 g)).length<=6:=by
 have:=ZN (g 0) (g 1) (g 2) (g 3) (g 4) (g 5) (g 6) (g 7);rwa [mT λt a=>Xf (k:=g) (λp b=>by
  have:p=0\/p=1\/p=2\/p=3\/p=4\/p=5\/p=6\/p=7:=by lia
  rcases this with rfl|rfl|rfl|rfl|rfl|rfl|rfl|rfl<;>rfl) a] at this
def qG(f:List D)(t:List Nat):Bool:=r8 f t&&Cr f t
def ZD{α:Type}{p q:α->Bool}{l:List α}(h:∀x∈l,p x=qb->q x=qb):(l.filter p).length<=(l.filter q).length:=by rw[<- jo,<- jo];exact lF h
def zfy(n:Nat)(f:List D):(DP n f).length<=((YP n).filter (qG f)).length:=by unfold DP rJ;rw[List.filter_filter];refine ZD λt _ h=>?_;unfold IA at h;unfold qG;simp only[aR] at h ⊢;exact⟨h.2,h.1.2⟩
theorem N3{q a b c:List Nat->Bool}:∀(l:List (List Nat)),(∀t∈l,(q (t++[45])=qb->a t=qb)/\(q (t++[48])=qb->b t=qb)/\(q (t++[49])=qb->c t=qb))->((l.flatMap λt=>[t++[45],t++[48],t++[49]]).filter q).length<=(l.filter a).length+(l.filter b).length+(l.filter c).length
 |[],_=>by simp
 | t::l,h=>by
  obtain⟨g,i,j⟩:=h t ar;have k:=N3 l λs f=>h s (aj _ f);rw[cg,jG,aw];have e:([t++[45],t++[48],t++[49]].filter q).length<=(if a t=qb then 1 else 0)+(if b t=qb then 1 else 0)+(if c t=qb then 1 else 0):=by
   simp only[dW,nJ];cases m:q (t++[45])<;>cases n:q (t++[48])<;>cases o:q (t++[49])<;>simp_all<;>(repeat' split)<;>lia
  have d:∀p:List Nat->Bool,((t::l).filter p).length=(if p t=qb then 1 else 0)+(l.filter p).length:=λp=>by
   rw[dW];split<;>simp<;>lia
  rw[d a,d b,d c];lia
def J9(t:List Nat)(c:Nat):qp (t++[c])=(qp t).flatMap λp=>(Ph c).map (2*p + ·):=by unfold qp;rw[jZ];rfl
def Jm{f:List D}{c:Nat}{g:Nat->Bool}(a:∀s,r8 f (s++[c])=xl g s){t:List Nat}(h:qG f (t++[c])=qb):A1 g t=qb:=by unfold qG Cr at h;simp only[aR,eR,gq] at h;unfold A1;simp only[aR,eR,gq];refine⟨by rw[<- a];exact h.1,λk d=>?_⟩;have b:=bd.mp d;have:=h.2 k (bd.mpr (by rw[aw];lia));unfold yB at this;rw[lR _ _ b,a,aG,aH b,<- aG,aR] at this;exact this
def Xu(f:List D)(s:List Nat):r8 f (s++[45])=xl (λp=>!tS (f.getD (2*p) .non) && !tS (f.getD (2*p+1) .non)) s:=by unfold r8 xl;rw[J9,kB];congr 1;funext p;show([2*p+0,2*p+1].all _)=_;simp
def Xw(f:List D)(s:List Nat):r8 f (s++[48])=xl (λp=>!tS (f.getD (2*p) .non)) s:=by unfold r8 xl;rw[J9,kB];congr 1;funext p;show([2*p+0].all _)=_;simp
def Yd(f:List D)(s:List Nat):r8 f (s++[49])=xl (λp=>!tS (f.getD (2*p+1) .non)) s:=by unfold r8 xl;rw[J9,kB];congr 1;funext p;show([2*p+1].all _)=_;simp
def Gm{n:Nat}{f:List D}(d:Fn n f):(gr n f).length<=18:=by
 rw[<- Sd d];refine aI (zfy n f) ?_;rcases yE d.n1 d.n4 with rfl|rfl|rfl|rfl
 ·exact aI (bg _ _) 'u'
 ·exact aI (bg _ _) 'u'
 ·have:=six λp=>!tS (f.getD p .non);exact aI (aI (h9 rfl) this) 'u'
 ·have h:=N3 (q:=qG f) (YP 3) λt _=>⟨Jm (Xu f),Jm (Xw f),Jm (Yd f)⟩;have a:=six λp=>!tS (f.getD (2*p) .non) && !tS (f.getD (2*p+1) .non);have b:=six λp=>!tS (f.getD (2*p) .non);have c:=six λp=>!tS (f.getD (2*p+1) .non);have e:YP 4=(YP 3).flatMap λt=>[t++[45],t++[48],t++[49]]:=rfl;rw[e];lia
def Ar:D->Bool
 |.non=>qb
 |.bl _=>qb
 |.int _=>qb
 |.str _=>qb
 |_=>qh
def A9:D->Bool
 |.tup ds=>ds.all Ar
 |d=>Ar d
def Pl(O:Ow):Prop:=∀c∈O,∀d∈c,A9 d=qb
def At(O:Ow):Prop:=∀c∈O,∀d∈c,Ar d=qb
def zg6:∀{d:D},Ar d=qb->uI n d=qb
 |.non,_=>rfl
 |.bl _,_=>rfl
 |.int _,_=>rfl
 |.str _,_=>rfl
def Wp:∀{d:D},Ar d=qb->nm d=qb
 |.non,_=>rfl
 |.bl _,_=>rfl
 |.int _,_=>rfl
 |.str _,_=>rfl
def WU:∀{d:D},Ar d=qb->A9 d=qb
 |.non,_=>rfl
 |.bl _,_=>rfl
 |.int _,_=>rfl
 |.str _,_=>rfl
def At.flat(h:At O):uv O:=λc a d b=>zg6 (h c a d b)
def At.pl(h:At O):Pl O:=λc a d b=>WU (h c a d b)
theorem JC:∀{ds:List D},(∀d∈ds,nm d=qb)->nms ds=qb
 |[],_=>rfl
 | d::ds,h=>by
  unfold nms;rw[h d ar,JC λx a=>h x (aj _ a)];rfl
def XE:∀{d:D},A9 d=qb->nm d=qb
 | .tup ds,h=>by
  unfold nm;exact JC λd a=>Wp (av.mp h d a)
 |.non,_=>rfl
 |.bl _,_=>rfl
 |.int _,_=>rfl
 |.str _,_=>rfl
def Pl.nms(h:Pl O):O.all nms=qb:=av.mpr λc a=>JC λd b=>XE (h c a d b)
def VM:∀{d:D},Ar d=qb->Ji d=qb
 |.non,_=>rfl
 |.bl _,_=>rfl
 |.int _,_=>rfl
 |.str _,_=>rfl
def PH:∀{d:D},A9 d=qb->frz O n (f+1) d=KF d
 | .tup ds,h=>by
  show(qd (frz O n f) ds).map D.tup=_;rw[uA λd a=>NW (VM (av.mp h d a))];rfl
 |.non,_=>rfl
 |.bl _,_=>rfl
 |.int _,_=>rfl
 |.str _,_=>rfl
def D1(a:Pl O')(X:Ow)(h:frz (O'++X) O'.length 8 d=KF d'):tK O'.length (.ok d (O'++X))=.ok d' O':=by
 unfold tK;dsimp only;rw[h];have:(O'++X).take O'.length=O':=by simp
 rw[this,uA λc b=>uA λd e=>PH (a c b d e)]
def Pl.one(h:Pl O)(a:∀d∈c,A9 d=qb):Pl (O++[c]):=λx hx=>by
 rcases aQ.mp hx with hx|hx
 ·exact h x hx
 ·have:x=c:=by simpa using hx
  subst this;exact a
def toT(c:List (List Nat)):D:=.tup (c.map .str)
def Yl(c:List (List Nat)):A9 (toT c)=qb:=by show(c.map D.str).all Ar=qb;rw[av];intro d a;obtain⟨x,_,rfl⟩:=az.mp a;rfl
def J6(l:List (List (List Nat))):∀d∈l.map toT,A9 d=qb:=λd a=>by
 obtain⟨x,_,rfl⟩:=az.mp a;exact Yl x
section
variable{α:Type}[DecidableEq α]
noncomputable def tu(inj:α->D)(h:DLC.Held α):D:=.map ((DLC.keys h).map dk) (h.map λkv=>.lst (kv.2.map inj))
structure Inj(inj:α->D):Prop where
 in_:∀(O:Ow)(x:α)(l:List α),wC O (inj x) (.lst (l.map inj))=.ok (.bl (l.contains x)) O
 nin:∀(O:Ow)(x:α)(l:List α),wa O (inj x) (.lst (l.map inj))=.ok (.bl (!l.contains x)) O
variable{inj:α->D}(J:Inj inj)
def ON(n:(DLC.keys h).Nodup)(m:kv∈h):wc (.inr kv.1) ((DLC.keys h).map dk) (h.map λkv=>D.lst (kv.2.map inj))=KF (.lst (kv.2.map inj)):=by
 have e:(DLC.keys h).map dk=h.map λkv=>(dk kv.1:DK):=by unfold DLC.keys;rw[bi];rfl
 rw[e];refine RT (kk:=λkv:List Nat×List α=>(dk kv.1:DK)) (val:=λkv=>D.lst (kv.2.map inj)) m ?_;rw[<- e];exact iy.mpr (List.Pairwise.imp (λa e=>a (jp e)) n)
def Zf(n:(DLC.keys h).Nodup)(m:t∈DLC.keys h):wc (.inr t) ((DLC.keys h).map dk) (h.map λkv=>D.lst (kv.2.map inj))=KF (.lst ((DLC.at_ h t).map inj)):=by obtain⟨kv,a,rfl⟩:=az.mp m;rw[ON n a,DLC.at_mem n a]
include J in
theorem Su(n:(DLC.keys h).Nodup)(b:h.length<=100)(x:α)(O:Ow):yY [tu inj h,inj x] O=.ok (.lst ((DLC.hold h x).map .str)) O:=by
 show fin (HB [KF (tu inj h),KF (inj x)] O)=_;unfold HB;have c:Gb (a_ 0) [KF (tu inj h),KF (inj x)] O=.ok (.val (h.map λa=>D.str a.1)) O:=by
  show R.ok (Src.val (((DLC.keys h).map dk).map Ae)) O=_;unfold DLC.keys;rw[bi,bi];rfl
 refine Ci ((vt (l:=h) (inj:=λa=>D.str a.1) (p:=λa=>a.2.contains x) (e:=λa=>.str a.1) (τ:=λa=>[KF (tu inj h),KF (inj x),KF (.str a.1)]) c 'd' (λ_=>rfl) (λa d=>rK (qr rfl (QB rfl rfl rfl (ON n d)) (J.in_ O x a.2))) (λ_ _ _=>rfl)).trans ?_);show R.ok (D.lst _) O=_;unfold DLC.hold;rw[bi];rfl
theorem Kt:∀(w:List α)(b:α),(∀y∈w,tE (σ++[KF (inj y)]) O=.ok (.int (f y:Nat)) O)->DL.minGo tE σ (w.map inj) (inj b) (f b:Nat) O=.ok (inj (DLC.minGo f w b)) O
 |[],b,_=>rfl
 | x::w,b,h=>by
  rw[bq];unfold DL.minGo DLC.minGo;rw[h x ar];dsimp only;by_cases c:f x<f b
  ·rw[qq (show((f x:Nat):Int)<(f b:Nat) by lia),qq c];exact Kt w x λy a=>h y (aj _ a)
  ·rw[qM (show ¬ ((f x:Nat):Int)<(f b:Nat) by lia),qM c];exact Kt w b λy a=>h y (aj _ a)
def BS:DE:=m_ qi (b_ (j_ 2 yY (b_ (a_ 0) (b_ (a_ 9) c_))) c_)
def Ca:DE:=qg qh 1 (pU (a_ 1)) (.one 9) [(pT (e_ wa (a_ 9) (AD (a_ 0) (a_ 6))))] [] (a_ 9)
def Ax(Pt:Nat)(F:List D->Ow->R D):DE:=wM (a_ 4) (b_ (qg qh 1 (pU (tJ Pt 8 3 F (b_ (a_ 5) (b_ (a_ 7) (b_ (e_ (fI uu) (a_ 2) (dC (.int 1))) c_))))) (.one 9) [] [] (e_ qP (sk (b_ (a_ 6) c_)) (a_ 9))) c_)
def stC(inj:α->D)(h:DLC.Held α)(w:List α)(m:Int)(y:Option D)(k:Nat)(a b c:Option D)(Pt:Nat):Sg:=[KF (tu inj h),KF (.lst (w.map inj)),KF (.int m),y,KF (.own k),a,b,c,KF (.tab Pt)]
include J in
theorem Y3(n:(DLC.keys h).Nodup)(d:w.length<=300)(b:t∈DLC.keys h)(O:Ow):Ca (stC inj h w m y k a (KF (.str t)) c Pt) O=.ok (.lst ((DLC.left h w t).map inj)) O:=
 (vt (o:=qh) (l:=w) (inj:=inj) (p:=λx=>!(DLC.at_ h t).contains x) (e:=inj) (τ:=λx=>stC inj h w m y k a (KF (.str t)) c Pt++[KF (inj x)]) (s_ rfl) 'd' (λ_=>rfl) (λx f=>rK (qr rfl (QB rfl rfl rfl (Zf n b)) (J.nin O x _))) (λ_ _ _=>rfl)).trans rfl
def Cf(a:σ[iT]?=KF (KF (.tab Pt)))(b:t σ O=.ok ds O1)(c:F ds O1=z)(d:ds.length=n:=by rfl):tJ Pt iT n F t σ O=z:=by unfold tJ;rw[a];dsimp only;rw[qq rfl];exact qw b c d
def Wk{h r:DLC.Held α}{w l:List α}{t:List Nat}{m:Nat}{y:Option D}{Pt:Nat}{F:List D->Ow->R D}{O:Ow}{KB cs:List (List (List Nat))}(b:F [tu inj r,.lst (l.map inj),.int (m:Nat)] (O++[KB.map toT])=.ok (.lst (cs.map toT)) (O++[KB.map toT]))(k:KB.length+cs.length<=1700000)(a:∀c∈cs,c.length<=1000):
  Ax Pt F (stC inj h w ((m+1:Nat):Int) y O.length (KF (tu inj r)) (KF (.str t)) (KF (.lst (l.map inj))) Pt) (O++[KB.map toT])=.ok .non (O++[(KB++cs.map (t :: ·)).map toT]):=by
 have d:((m+1:Nat):Int)-1=(m:Nat):=by lia
 have f:tJ Pt 8 3 F (b_ (a_ 5) (b_ (a_ 7) (b_ (e_ (fI uu) (a_ 2) (dC (.int 1))) c_))) (stC inj h w ((m+1:Nat):Int) y O.length (KF (tu inj r)) (KF (.str t)) (KF (.lst (l.map inj))) Pt) (O++[KB.map toT])=.ok (.lst (cs.map toT)) (O++[KB.map toT]):=by
  refine Cf rfl (ds:=[tu inj r,.lst (l.map inj),.int (m:Nat)]) ?_ b;show R.ok [tu inj r,.lst (l.map inj),.int (((m+1:Nat):Int)-1)] _=_;rw[d]
 have g:=xw (o:=qh) (ext:=1) (i:=9) (l:=cs) (inj:=toT) (te:=e_ qP (sk (b_ (a_ 6) c_)) (a_ 9)) (e:=λc=>toT (t::c)) (τ:=λc=>stC inj h w ((m+1:Nat):Int) y O.length (KF (tu inj r)) (KF (.str t)) (KF (.lst (l.map inj))) Pt++[KF (toT c)]) (s_ f) 'd' (λ_=>rfl) (λc j=>by
  refine qr (x:=.tup [.str t]) (y:=toT c) (O1:=O++[KB.map toT]) (O2:=O++[KB.map toT]) rfl rfl ?_;show(if [D.str t]≠[]/\[D.str t].length+(c.map D.str).length<=4000000 then R.ok (D.tup ([D.str t]++c.map D.str)) (O++[KB.map toT]) else .bad)=_;rw[qq ⟨by simp,by rw[au];have:=a c j;simp;lia⟩];rfl)
 unfold Ax wM;show(R.bnd (R.ok (D.own O.length) (O++[KB.map toT])) _)=_;show((b_ _ c_ _ (O++[KB.map toT])).bnd _)=_;rw[pX (g.trans (show vo qh _=R.ok (D.lst (cs.map λc=>toT (t::c))) (O++[KB.map toT]) from rfl))];show(match [D.lst (cs.map λc=>toT (t::c))],(O++[KB.map toT])[O.length]? with|[y],KF ds=>(match rD (O++[KB.map toT]) y with|some es=>if ds.length+es.length<=4000000 then R.ok D.non ((O++[KB.map toT]).set O.length (ds++es)) else R.bad|none=>R.bad)|_,_=>R.bad)=_;rw[vU];dsimp only[rD];rw[qq (by simp;lia),z8,bA,bi];rfl
def Jc(inj:α->D)(Pt k m:Nat):Prop:=∀(h:DLC.Held α)(w:List α)(O:Ow),Pl O->(DLC.keys h).Nodup->h.length<=20->w.length<=300->wk Pt k [tu inj h,.lst (w.map inj),.int (m:Nat)] O=.ok (.lst ((DLC.cov m h w).map toT)) O
def QY(h:DLC.Held α)(t:List Nat):(DLC.drop h t).length<=h.length:=bg _ _
def zdf(r:DLC.Held α)(t:List Nat):uy (.inr t) ((DLC.keys r).map dk)=(DLC.keys (DLC.drop r t)).map dk:=by
 unfold uy DLC.keys DLC.drop
 induction r with
 |nil=>rfl
 | cons kv r ih=>
  simp only[bq];by_cases e:kv.1=t
  ·rw[dG (by simp[e]),dG (by simp[e])];exact ih
  ·rw[dH (by simpa using e),dH (by simpa using e)];simp only[bq];rw[ih]
def zco(r:DLC.Held α)(t:List Nat):xB (.inr t) ((DLC.keys r).map dk) (r.map λkv=>D.lst (kv.2.map inj))=(DLC.drop r t).map λkv=>D.lst (kv.2.map inj):=by
 unfold DLC.keys DLC.drop
 induction r with
 |nil=>rfl
 | cons kv r ih=>
  simp only[bq];unfold xB;by_cases e:kv.1=t
  ·rw[qq (by rw[e]),dG (by simp[e])];exact ih
  ·rw[qM (λz=>e (jp z)),dH (by simpa using e),bq,ih]
def Yo(h:t∈DLC.keys r):C1 (.inr t) ((DLC.keys r).map dk)=qb:=by unfold C1;rw[cf];exact⟨.inr t,az.mpr ⟨t,h,rfl⟩,by simp⟩
include J in
theorem Qk{Pt k m:Nat}(v:Jc inj Pt k m)(x:m<=100){h:DLC.Held α}{w:List α}(n:(DLC.keys h).Nodup)(i:h.length<=20)(j:w.length<=300){O:Ow}(l:Pl O){y:Option D}:
  ∀(ts:List (List Nat))(r:DLC.Held α)(KB:List (List (List Nat)))(b c:Option D),(∀t∈ts,t∈DLC.keys r)->ts.Nodup->(∀kv∈r,kv∈h)->(DLC.keys r).Nodup->r.length<=20->KB.length+2 ^ r.length<=1700000->(∀t∈ts,t∈DLC.keys h)->
   ∃o p,xx 5 6 7 Ca (Ax Pt (wk Pt k)) (ts.map D.str) ((DLC.keys r).map dk) (r.map λkv=>D.lst (kv.2.map inj)) (stC inj h w ((m+1:Nat):Int) y O.length KM b c Pt) (O++[KB.map toT])=.nx (stC inj h w ((m+1:Nat):Int) y O.length KM o p Pt) (O++[(KB++DLC.covL (DLC.cov m) h w ts r).map toT])
 |[],r,KB,b,c,_,_,_,_,_,_,_=>⟨b,c,by unfold DLC.covL;rw[bz];rfl⟩
 | t::ts,r,KB,b,c,d,nt,hr,nr,fr,hl,Uj=>by
  have z:∀kv∈DLC.drop r t,kv∈h:=λkv d=>hr kv (DLC.mem_drop.mp d).1;have I:=DLC.cov_pow m (DLC.drop r t) (DLC.left h w t) (DLC.nd_drop nr);have A:=DLC.drop_lt (d t ar);have B:2 ^ ((DLC.drop r t).length+1)<=2 ^ r.length:=c8 'd' A;rw[kw] at B;have C:=Y3 J n j (Uj t ar) (m:=((m+1:Nat):Int)) (y:=y) (k:=O.length) (Pt:=Pt) (a:=KM) (c:=c) (O++[KB.map toT]);have E:=v (DLC.drop r t) (DLC.left h w t) (O++[KB.map toT]) (l.one (J6 KB)) (DLC.nd_drop nr) (aI (QY r t) fr) (aI (bg _ _) j);have f:KB.length+(DLC.cov m (DLC.drop r t) (DLC.left h w t)).length<=1700000:=by lia
  have F:=Wk (h:=h) (w:=w) (t:=t) (y:=y) (Pt:=Pt) E f λc G=>by have:=(DLC.cov_sound m (DLC.nd_drop nr) G).1;lia
  obtain⟨o,p,H⟩:=Qk v x n i j l ts (DLC.drop r t) (KB++(DLC.cov m (DLC.drop r t) (DLC.left h w t)).map (t :: ·)) (KF (.str t)) (KF (.lst ((DLC.left h w t).map inj)))
   (λs g=>DLC.keys_drop.mpr ⟨d s (aj _ g),λe=>(bu.mp nt).1 (e▸g)⟩) (bu.mp nt).2 z (DLC.nd_drop nr) (aI (QY r t) fr) (by rw[aw,au];lia) (λs g=>Uj s (aj _ g))
  refine⟨o,p,?_⟩;rw[bq];unfold xx;dsimp only[v_];rw[qq (Yo (d t ar))];have q:Ca ((stC inj h w ((m+1:Nat):Int) y O.length KM b c Pt).set 6 (KF (.str t))) (O++[KB.map toT])=.ok (.lst ((DLC.left h w t).map inj)) (O++[KB.map toT]):=C;rw[q];dsimp only;rw[zdf,zco];have u:Ax Pt (wk Pt k) ((((stC inj h w ((m+1:Nat):Int) y O.length KM b c Pt).set 6 (KF (.str t))).set 7 (KF (.lst ((DLC.left h w t).map inj)))).set 5 (KF (.map ((DLC.keys (DLC.drop r t)).map dk) ((DLC.drop r t).map λkv=>D.lst (kv.2.map inj))))) (O++[KB.map toT])=_:=F;rw[u];dsimp only;rw[qq (l.one (J6 _)).nms];refine Eq.trans H ?_;show _=RS.nx _ (O++[(KB++((DLC.cov m (DLC.drop r t) (DLC.left h w t)).map (t :: ·)++DLC.covL (DLC.cov m) h w ts (DLC.drop r t))).map toT]);rw[aZ]
include J in
theorem R4:∀(m k:Nat),m<k->m<=100->Jc inj Pt k m
 |m,0,hk,_=>by lia
 | 0,k+1,_,_=>by
  intro h w O f n a q;show tK O.length (fin (yU Pt (wk Pt k) [KF (tu inj h),KF (.lst (w.map inj)),KF (.int 0),KM,KM,KM,KM,KM,KF (.tab Pt)] O))=_;unfold yU;cases w with
  | nil=>
   rw[uk (DM (O1:=O) (x:=.lst [.tup []]) (vS (b:=qh) rfl) rfl)];have:=D1 f [] (d:=.lst [.tup []]) (d':=.lst [.tup []]) rfl;rw[bz] at this;exact this
  | cons x w=>
   rw[uk (w6 (O1:=O) (vS (b:=qb) rfl) (DM (O1:=O) (x:=.lst []) (rK (b:=qb) rfl) rfl))];have:=D1 f [] (d:=.lst []) (d':=.lst []) rfl;rw[bz] at this;exact this
 | m+1,k+1,hk,hm=>by
  intro h w O f n a q;cases w with
  | nil=>
   show tK O.length (fin (yU Pt (wk Pt k) [KF (tu inj h),KF (.lst []),KF (.int ((m+1:Nat):Int)),KM,KM,KM,KM,KM,KF (.tab Pt)] O))=_;unfold yU;rw[uk (DM (O1:=O) (x:=.lst [.tup []]) (vS (b:=qh) rfl) rfl)];have:=D1 f [] (d:=.lst [.tup []]) (d':=.lst [.tup []]) rfl;rw[bz] at this;exact this
  | cons x w=>
   have u:Jc inj Pt k m:=R4 m k 'd' 'd';let c:Sg:=[KF (tu inj h),KF (.lst ((x::w).map inj)),KF (.int ((m+1:Nat):Int)),KM,KM,KM,KM,KM,KF (.tab Pt)];have r:∀y,BS (c++[KF (inj y)]) O=.ok (.int ((DLC.hold h y).length:Nat)) O:=λy=>sH (pX (qw (qA rfl rfl) (Su J n 'd' y O))) (by show R.ok (D.int (((DLC.hold h y).map D.str).length:Nat)) O=_;rw[au]);generalize g:DLC.minGo (λy=>(DLC.hold h y).length) w x=y;have v:y∈x::w:=by
    rcases DLC.minGo_mem (λy=>(DLC.hold h y).length) w x with e|e
    ·rw[<- g,e];exact ar
    ·rw[<- g];exact aj _ e
   have z:B3 Pt 8 (a_ 1) BS c O=.ok (inj y) O:=by
    show(if Pt=Pt then (R.bnd (R.ok (D.lst ((x::w).map inj)) O) λx O1=>match x with|.lst ds=>B0 BS c O1 ds|_=>.bad) else .bad)=_;rw[qq rfl];show B0 BS c O (inj x::w.map inj)=_;show(match BS (c++[KF (inj x)]) O with|.ok (.int j) O1=>DL.minGo BS c (w.map inj) (inj x) j O1|_=>.bad)=_;rw[r x];dsimp only;rw[<- g];exact Kt w x λy _=>r y
   have s:2 ^ h.length<=1700000:=by
    have:=c8 (n:=2) 'u' a;lia
   obtain⟨I,K,A⟩:=Qk J u 'd' n a q f (y:=KF (inj y)) (DLC.hold h y) h [] KM KM (λt i=>((DLC.mem_hold n).mp i).1) (DLC.hold_nd n y) (λ_ h=>h) n a (by simp only[dQ];lia) (λt i=>((DLC.mem_hold n).mp i).1);have B:((m+1:Nat):Int)≠0:=by lia
   have C:pT (e_ (pP qW) (a_ 2) (dC (.int 0))) c O=.ok qh O:=rK (qr rfl rfl (show pP qW O (.int ((m+1:Nat):Int)) (.int 0)=_ from by
    show R.ok (D.bl (((m+1:Nat):Int)==0)) O=_;rw[beq_eq_false_iff_ne.mpr B]))
   have l:pU (j_ 2 yY (b_ (a_ 0) (b_ (a_ 3) c_))) (stC inj h (x::w) ((m+1:Nat):Int) (KF (inj y)) O.length KM KM KM Pt) (O++[[]])=.ok (.val ((DLC.hold h y).map D.str)) (O++[[]]):=s_ (qw (qA rfl rfl) (Su J n 'd' y (O++[[]])));have E:DD 5 6 7 (a_ 0) (pU (j_ 2 yY (b_ (a_ 0) (b_ (a_ 3) c_)))) Ca (Ax Pt (wk Pt k)) (pR (a_ 4)) (stC inj h (x::w) ((m+1:Nat):Int) (KF (inj y)) O.length KM KM KM Pt) (O++[[]])=.rt (.own O.length) (O++[((DLC.covL (DLC.cov m) h (x::w) (DLC.hold h y) h)).map toT]):=by
    unfold DD;show(R.bnS (R.ok (tu inj h) (O++[[]])) _)=_;show(R.bnS (pU (j_ 2 yY (b_ (a_ 0) (b_ (a_ 3) c_))) (stC inj h (x::w) ((m+1:Nat):Int) (KF (inj y)) O.length KM KM KM Pt) (O++[[]])) _)=_;rw[l];show(match xx 5 6 7 Ca (Ax Pt (wk Pt k)) ((DLC.hold h y).map D.str) ((DLC.keys h).map dk) (h.map λo=>D.lst (o.2.map inj)) (stC inj h (x::w) ((m+1:Nat):Int) (KF (inj y)) O.length KM KM KM Pt) (O++[[]]) with|.nx σ' O'=>pR (a_ 4) σ' O'|_=>.bad)=_;have F:xx 5 6 7 Ca (Ax Pt (wk Pt k)) ((DLC.hold h y).map D.str) ((DLC.keys h).map dk) (h.map λo=>D.lst (o.2.map inj)) (stC inj h (x::w) ((m+1:Nat):Int) (KF (inj y)) O.length KM KM KM Pt) (O++[[]])=_:=A;rw[F];rw[ef];rfl
   have p:yU Pt (wk Pt k) c O=.rt (.own O.length) (O++[((DLC.covL (DLC.cov m) h (x::w) (DLC.hold h y) h)).map toT]):=by
    unfold yU;exact w6 (O1:=O) (vS (b:=qb) rfl) (w6 C (rY (x:=inj y) z (rY (x:=.own O.length) (O1:=O++[[]]) rfl E)))
   show tK O.length (fin (yU Pt (wk Pt k) c O))=_;rw[uk p];have G:=D1 f [(DLC.covL (DLC.cov m) h (x::w) (DLC.hold h y) h).map toT] (d:=.own O.length) (d':=.lst ((DLC.covL (DLC.cov m) h (x::w) (DLC.hold h y) h).map toT)) (by
    unfold frz;dsimp only;rw[qM (bS _),vU];dsimp only;rw[uA λd H=>PH (J6 _ d H)];rfl)
   refine G.trans ?_;show _=R.ok (D.lst ((DLC.covL (DLC.cov m) h (x::w) (DLC.hold h (DLC.minGo (λy=>(DLC.hold h y).length) w x)) h).map toT)) O;rw[g]
end
def zfw(h:t σ O=.ok (.lst ds) O1):qj t σ O=.ok (!ds.isEmpty) O1:=by show((t σ O).bnd _)=_;rw[h];rfl
noncomputable def xb(t:List Nat):Int:=((t.length-t.count 45:Nat):Int)
def zfq(O:Ow):(oO.map λcs=>CA [.str cs] O)=oO.map λcs=>R.ok (D.int (xb cs)) O:=by kernel_rfl
def YG(h:cs∈oO)(O:Ow):CA [.str cs] O=.ok (.int (xb cs)) O:=di.mp (zfq O) cs h
def rh(c:List (List Nat)):Int:=(c.map xb).sum
theorem CH:∀l:List Int,wb (l.map D.int)=KF l
 |[]=>rfl
 | x::l=>by
  show(wb (l.map D.int)).map (x :: ·)=_;rw[CH l];rfl
def Z8(a:∀t∈c,t∈oO)(f:c.length<=1000)(O:Ow):yh [toT c] O=.ok (.int (rh c)) O:=by
 have b:=xw (o:=qh) (ext:=1) (i:=1) (it0:=pU (a_ 0)) (σ:=[KF (toT c)]) (O0:=O) (O:=O) (l:=c) (inj:=D.str) (te:=j_ 1 CA (b_ (a_ 1) c_)) (e:=λt=>D.int (xb t)) (τ:=λt=>[KF (toT c),KF (.str t)]) (yP rfl) 'd' (λ_=>rfl) (λt d=>qw (pX rfl) (YG (a t d) O));show fin (Ho [KF (toT c)] O)=_;unfold Ho;refine Ci (sH (pX b) ?_);show(match wb (c.map λt=>D.int (xb t)) with|some ns=>R.ok (D.int ns.sum) O|none=>.bad)=_;have:(c.map λt=>D.int (xb t))=(c.map xb).map D.int:=by rw[bi];rfl
 rw[this,CH];rfl
def cW:DT:=sQ (qj (a_ 3))
def bW(Pt:Nat):DS:=l_ (Dj 2 (dC (.int 1))) (pS 3 (tJ Pt 5 3 (Cv Pt) (b_ (a_ 0) (b_ (a_ 1) (b_ (a_ 2) c_)))))
section
variable{α:Type}[DecidableEq α]{inj:α->D}(J:Inj inj)
def tj(inj:α->D)(h:DLC.Held α)(w:List α)(Pt m:Nat)(x:Option D):Sg:=[KF (tu inj h),KF (.lst (w.map inj)),KF (.int (m:Nat)),KF (.lst ((DLC.cov m h w).map toT)),x,KF (.tab Pt)]
structure Sz(h:DLC.Held α)(w:List α):Prop where
 nd:(DLC.keys h).Nodup
 few:h.length<=18
 wl:w.length<=300
include J in
theorem Pr(z:Sz h w)(d:m<=18)(c:Pl O):tJ Pt 5 3 (Cv Pt) (b_ (a_ 0) (b_ (a_ 1) (b_ (a_ 2) c_))) [KF (tu inj h),KF (.lst (w.map inj)),KF (.int (m:Nat)),a,b,KF (.tab Pt)] O=.ok (.lst ((DLC.cov m h w).map toT)) O:=
 Cf rfl (Cw rfl (qA rfl rfl)) (R4 J m 20 'd' 'd' h w O c z.nd (aI z.few 'u') z.wl)
include J in
theorem QQ(z:Sz h w)(g:DLC.cov 18 h w≠[]):∀(fuel m:Nat),m<=18->18<m+fuel->∃c,m<=c/\c<=18/\DLC.cov c h w≠[]/\(∀j,m<=j->j<c->DLC.cov j h w=[])/\∀(Pt:Nat)(O:Ow),Pl O->vN cW (bW Pt) fuel (tj inj h w Pt m KM) O=.nx (tj inj h w Pt c KM) O
 |0,m,h1,h2=>by lia
 | fuel+1,m,h1,h2=>by
  by_cases e:DLC.cov m h w=[]
  ·have x:m≠18:=λq=>g (q▸e);obtain⟨c,y,i,l,n,o⟩:=QQ z g fuel (m+1) 'd' 'd';refine⟨c,by lia,i,l,λj p s=>?_,λPt O d=>?_⟩
   ·by_cases q:j=m
    ·rw[q];exact e
    ·exact n j 'd' s
   ·have f:cW (tj inj h w Pt m KM) O=.ok qb O:=by
     unfold tj;rw[e];rfl
    have u:bW Pt (tj inj h w Pt m KM) O=.nx (tj inj h w Pt (m+1) KM) O:=by
     refine vP (σ':=[KF (tu inj h),KF (.lst (w.map inj)),KF (.int ((m+1:Nat):Int)),KF (.lst ((DLC.cov m h w).map toT)),KM,KF (.tab Pt)]) (O1:=O) rfl ?_;rw[xC (Pr J z 'd' d)];rfl
    show((cW (tj inj h w Pt m KM) O).bnS λk O1=>if k=qb then (match bW Pt (tj inj h w Pt m KM) O1 with
     |.nx σ' O'=>vN cW (bW Pt) fuel σ' O'
     |.ct σ' O'=>vN cW (bW Pt) fuel σ' O'
     |.bk σ' O'=>.nx σ' O'
     |r=>r) else .nx (tj inj h w Pt m KM) O1)=_
    rw[f];show(if qb=qb then (match bW Pt (tj inj h w Pt m KM) O with
     |.nx σ' O'=>vN cW (bW Pt) fuel σ' O'
     |.ct σ' O'=>vN cW (bW Pt) fuel σ' O'
     |.bk σ' O'=>.nx σ' O'
     |r=>r) else RS.nx (tj inj h w Pt m KM) O)=_
    rw[qq rfl,u];exact o Pt O d
  ·refine⟨m,aC _,h1,e,λj a b=>by lia,λPt O d=>?_⟩;have f:cW (tj inj h w Pt m KM) O=.ok qh O:=by
    refine vS (b:=qb) ?_;rw[zfw (t:=a_ 3) (σ:=tj inj h w Pt m KM) (O:=O) (O1:=O) (ds:=(DLC.cov m h w).map toT) rfl];cases v:DLC.cov m h w with
    |nil=>exact absurd v e
    |cons _ _=>rfl
   show((cW (tj inj h w Pt m KM) O).bnS λk O1=>if k=qb then (match bW Pt (tj inj h w Pt m KM) O1 with
     |.nx σ' O'=>vN cW (bW Pt) fuel σ' O'
     |.ct σ' O'=>vN cW (bW Pt) fuel σ' O'
     |.bk σ' O'=>.nx σ' O'
     |r=>r) else .nx (tj inj h w Pt m KM) O1)=_
   rw[f];rfl
theorem Q8:∀l:List (List (List Nat)),yD (l.map toT)=KF l
 |[]=>rfl
 | x::l=>by
  show(match vf (x.map D.str),yD (l.map toT) with|some ks,KF t=>KF (ks::t)|_,_=>KM)=_;rw[strL_map,Q8 l]
def few(h:DLC.Held α)(w:List α)(m:Nat):Int:=vp ((DLC.cov m h w).map rh)
def zN(h:DLC.Held α)(w:List α)(m:Nat):List (List (List Nat)):=zP (((DLC.cov m h w).filter λc=>rh c==few h w m).map qS)
theorem D5:∀(l:List Int)(x:Int),l.foldl min x=x\/l.foldl min x∈l
 |[],x=>.inl rfl
 | y::l,x=>by
  show l.foldl min (min x y)=x\/_;rcases D5 l (min x y) with e|e
  ·rw[show(List.foldl min x (y::l))=l.foldl min (min x y) from rfl,e];rcases Int.le_total x y with g|g
   ·left;lia
   ·right;rw[show min x y=y by lia];exact ar
  ·right;exact aj _ e
def PV{h:DLC.Held α}{w:List α}{m:Nat}(a:DLC.cov m h w≠[]):∃c∈DLC.cov m h w,rh c=few h w m:=by
 unfold few;cases b:DLC.cov m h w with
 |nil=>exact absurd b a
 | cons c l=>
  rcases D5 (l.map rh) (rh c) with e|e
  ·exact⟨c,ar,e.symm⟩
  ·obtain⟨d,f,q⟩:=az.mp e;exact⟨d,aj _ f,q⟩
def ph{h:DLC.Held α}{w:List α}{m:Nat}{x:List (List Nat)}:x∈zN h w m ↔ ∃c∈DLC.cov m h w,rh c=few h w m/\qS c=x:=by
 unfold zN;rw[(KO _).mem_iff,az];constructor
 ·rintro⟨c,d,rfl⟩;obtain⟨a,b⟩:=aM.mp d;exact⟨c,a,by simpa using b,rfl⟩
 ·rintro⟨c,a,b,rfl⟩;exact⟨c,aM.mpr ⟨a,by simpa using b⟩,rfl⟩
def Zg{h:DLC.Held α}{w:List α}{m:Nat}(a:DLC.cov m h w≠[]):zN h w m≠[]:=by obtain⟨c,b,e⟩:=PV a;have:qS c∈zN h w m:=ph.mpr ⟨c,b,e,rfl⟩;intro q;rw[q] at this;cases this
include J in
theorem VQ(z:Sz h w)(A:∀t∈DLC.keys h,t∈oO)(B:DLC.cov 18 h w≠[]):∃m,m<=18/\DLC.Lm h w m/\∀(Pt:Nat)(O:Ow),Pl O->HK Pt [tu inj h,.lst (w.map inj)] O=.ok (.lst ((zN h w m).map toT)) O:=by
 obtain⟨m,_,C,r,E,F⟩:=QQ J z B 20 0 'd' 'd';refine⟨m,C,⟨z.nd,r,λj G=>E j 'd' G⟩,λPt O s=>?_⟩;show fin (La Pt [KF (tu inj h),KF (.lst (w.map inj)),KM,KM,KM,KF (.tab Pt)] O)=_;unfold La;have u:(DLC.cov m h w).length<=262144:=aI (DLC.cov_pow m h w z.nd) (aI (c8 'u' z.few) 'u');have v:∀c∈DLC.cov m h w,∀O,yh [toT c] O=.ok (.int (rh c)) O:=λc a O=>by
  obtain⟨y,f,b⟩:=DLC.cov_sound m z.nd a;exact Z8 (λt g=>A t (b.1 t g)) 'd' O
 have H:m_ AE (b_ (qg qh 1 (pU (a_ 3)) (.one 6) [] [] (j_ 1 yh (b_ (a_ 6) c_))) c_) (tj inj h w Pt m KM) O=.ok (.int (few h w m)) O:=by
  have k:=xw (o:=qh) (ext:=1) (i:=6) (it0:=pU (a_ 3)) (σ:=tj inj h w Pt m KM) (O0:=O) (O:=O) (l:=DLC.cov m h w) (inj:=toT) (te:=j_ 1 yh (b_ (a_ 6) c_)) (e:=λc=>D.int (rh c)) (τ:=λc=>tj inj h w Pt m KM++[KF (toT c)]) (s_ rfl) 'd' (λ_=>rfl) (λc a=>qw (pX rfl) (v c a O));refine sH (pX k) ?_;show(match wb ((DLC.cov m h w).map λc=>D.int (rh c)) with|some ns=>(if ns≠[] then R.ok (D.int (vp ns)) O else .bad)|none=>.bad)=_;have:((DLC.cov m h w).map λc=>D.int (rh c))=((DLC.cov m h w).map rh).map D.int:=by rw[bi];rfl
  rw[this,CH];show(if (DLC.cov m h w).map rh≠[] then R.ok (D.int (vp ((DLC.cov m h w).map rh))) O else .bad)=_;rw[qq (by intro q;exact r (jh.mp q))];rfl
 have I:m_ Dx (b_ (qg qh 1 (pU (a_ 3)) (.one 6) [(pT (e_ (pP qW) (j_ 1 yh (b_ (a_ 6) c_)) (a_ 4)))] [] (m_ AJ (b_ (m_ AG (b_ (a_ 6) c_)) c_))) c_) (tj inj h w Pt m (KF (.int (few h w m)))) O=.ok (.lst ((zN h w m).map toT)) O:=by
  have k:=vt (o:=qh) (ext:=1) (i:=6) (it0:=pU (a_ 3)) (σ:=tj inj h w Pt m (KF (.int (few h w m)))) (O0:=O) (O:=O) (l:=DLC.cov m h w) (inj:=toT) (t:=pT (e_ (pP qW) (j_ 1 yh (b_ (a_ 6) c_)) (a_ 4))) (te:=m_ AJ (b_ (m_ AG (b_ (a_ 6) c_)) c_)) (p:=λc=>rh c==few h w m) (e:=λc=>toT (qS c)) (τ:=λc=>tj inj h w Pt m (KF (.int (few h w m)))++[KF (toT c)]) (s_ rfl) 'd' (λ_=>rfl)
   (λc a=>rK ((qY (qw (pX rfl) (v c a O)) rfl).trans (M9 O _ _)))
   (λc a _=>by
    obtain⟨y,f,b⟩:=DLC.cov_sound m z.nd a;have K:m_ AG (b_ (a_ 6) c_) (tj inj h w Pt m (KF (.int (few h w m)))++[KF (toT c)]) O=.ok (.lst ((qS c).map .str)) O:=by
     refine sH (pX (x:=toT c) (O1:=O) rfl) ?_;show(match vf (c.map D.str) with|some ss=>(if ss.Nodup/\ss.length<=1000 then R.ok (D.lst ((qS ss).map .str)) O else .bad)|none=>.bad)=_;rw[strL_map];show(if c.Nodup/\c.length<=1000 then R.ok (D.lst ((qS c).map .str)) O else .bad)=_;rw[qq ⟨f,by lia⟩]
    exact sH (pX K) rfl)
  refine sH (pX k) ?_;have L:(((DLC.cov m h w).filter λc=>rh c==few h w m).map λc=>toT (qS c))=(((DLC.cov m h w).filter λc=>rh c==few h w m).map qS).map toT:=by rw[bi];rfl
  show(match yD (((DLC.cov m h w).filter λc=>rh c==few h w m).map λc=>toT (qS c)) with|some rj=>(if (2<=rj.length->(rj.all λd=>!d.isEmpty)=qb)/\rj.length<=4000000 then R.ok (D.lst ((zP rj).map DL.toT)) O else .bad)|none=>.bad)=_;rw[L,Q8];have M:(((DLC.cov m h w).filter λc=>rh c==few h w m).map qS).length<=4000000:=by
   rw[au];have:=bg (λc=>rh c==few h w m) (DLC.cov m h w);lia
  have n:2<=(((DLC.cov m h w).filter λc=>rh c==few h w m).map qS).length->((((DLC.cov m h w).filter λc=>rh c==few h w m).map qS).all λd=>!d.isEmpty)=qb:=by
   intro N;cases w with
   | nil=>
    exfalso;rw[au] at N;have S:=bg (λc=>rh c==few h ([]:List α) m) (DLC.cov m h []);have T:(DLC.cov m h ([]:List α)).length=1:=by unfold DLC.cov;rfl
    lia
   | cons x w=>
    rw[av];intro d P;obtain⟨c,a,rfl⟩:=az.mp P;have a:=(aM.mp a).1;obtain⟨y,f,b⟩:=DLC.cov_sound m z.nd a;obtain⟨t,g,_⟩:=b.2 x ar;have:t∈qS c:=(zZ _).mpr g;cases Q:qS c with
    |nil=>rw[Q] at this;cases this
    |cons _ _=>rfl
  show(if _/\_ then R.ok (D.lst ((zP (((DLC.cov m h w).filter λc=>rh c==few h w m).map qS)).map DL.toT)) O else .bad)=_;rw[qq ⟨n,M⟩];rfl
 refine uk (O1:=O) (rY (O1:=O) (x:=.int 0) rfl (rY (O1:=O) (Pr J z (m:=0) 'd' s) (vP (σ':=tj inj h w Pt m KM) (O1:=O) ?_ (rY (O1:=O) H ?_))))
 ·exact F Pt O s
 ·exact rW I
end
def zcH(b:p∈pW f)(c:p∈qp t):yM f t=qb:=by
 unfold yM;have a:p∈(pW f).filter λp=>(qp t).contains p:=aM.mpr ⟨b,by simpa using c⟩;cases e:(pW f).filter λp=>(qp t).contains p with
 |nil=>rw[e] at a;cases a
 |cons _ _=>rfl
def qV(f:List D):List (Nat×Nat):=((pW f).map λp=>(p,p))++r_ f
def tW(n:Nat)(f:List D):DLC.Held (Nat×Nat):=(gr n f).map λt=>(t,(qV f).filter (hold t))
def Pf(O:Ow)(x:Nat×Nat)(l:List (Nat×Nat)){b:Bool}(a:b=qb↔x∈l):wC O (pr x) (.lst (l.map pr))=.ok (.bl b) O/\wa O (pr x) (.lst (l.map pr))=.ok (.bl !b) O:=Jr O (x:=pr x) (y:=.lst (l.map pr)) (l:=l.map pr) (Vn x) (Ws l) (.inl rfl) (b:=b) (a.trans (by
 rw[az];exact⟨λh=>⟨x,h,rfl⟩,λ⟨y,h,e⟩=>Wx e▸h⟩))
def ct{α:Type}[DecidableEq α]{l:List α}{x:α}:l.contains x=qb↔x∈l:=b9
def VB:Inj pr:=⟨λO x l=>(Pf O x l ct).1,λO x l=>(Pf O x l ct).2⟩
def Cy(n:Nat)(f:List D):DLC.keys (tW n f)=gr n f:=by unfold DLC.keys tW;rw[bi];exact ju _
def zfC:(pG.all λq=>(aO (2 ^ q.1)).all λr=>!yt q.2 r||(YP q.1).any λs=>decide (qp s=[q.2,r]))=qb:=by decide +kernel
section
variable{n:Nat}{f:List D}(hf:Fn n f)
include hf
theorem Ju:(gr n f).Nodup:=(W6 hf).imp λh e=>by subst e;exact absurd h (gE _)
theorem DF:(DLC.keys (tW n f)).Nodup:=by rw[Cy];exact Ju hf
theorem ZA:(tW n f).length<=18:=by unfold tW;rw[au];exact Gm hf
theorem JW:(qV f).length<=300:=by unfold qV;rw[aw,au];have:=yT hf;have:=DX hf;lia
theorem NT(h:t∈gr n f):DLC.at_ (tW n f) t=(qV f).filter (hold t):=DLC.at_mem (DF hf) (kv:=(t,(qV f).filter (hold t))) (az.mpr ⟨t,h,rfl⟩)
theorem Rt(c:p∈pW f):tS (f.getD p .non)=qh:=by obtain⟨b,a⟩:=oV.mp c;rw[zX b] at a ⊢;rcases hf.ans _ (bD b) with e|e|e<;>rw[e] at a ⊢ <;> first|rfl|cases a
theorem zfT(a:s∈rJ n f)(d:p∈pW f)(e:p∈qp s):∃t∈gr n f,∀q∈qp s,q∈qp t:=by obtain⟨w,b,g⟩:=NH (λt h=>sD hf.n1 hf.n4 (w_ h)) a;have c:∀q∈qp s,q∈qp w:=λq i=>Kn hf.n1 hf.n4 (w_ a) (w_ (o5.mp b).1) g i;exact⟨w,P_ b (zcH d (c p e)),c⟩
theorem W7(g:x∈qV f):∃t∈gr n f,hold t x=qb:=by
 unfold qV at g;rcases aQ.mp g with h|h
 ·obtain⟨p,m,rfl⟩:=az.mp h;have:=zhK hf;unfold C2 at this;obtain⟨t,c,o⟩:=cf.mp (av.mp this p m);exact⟨t,c,by unfold hold;simp only[o];rfl⟩
 ·obtain⟨p,q⟩:=x;obtain⟨a,d,u⟩:=eD.mp h;obtain⟨r,v,e⟩:=az.mp u;cases e;obtain⟨i,w⟩:=aM.mp v;have j:∀{z},z∈pW f->z<2 ^ n:=λ{z}hz=>by have:=(oV.mp hz).1;rw[hf.len] at this;exact this
  have k:=av.mp (av.mp zfC (n,p) (RD hf.n1 hf.n4 (j d))) q (bd.mpr (j i));simp only[w,fL,iH] at k;obtain⟨s,y,b⟩:=cf.mp k;have b:qp s=[p,q]:=of_decide_eq_true b;have A:s∈rJ n f:=aM.mpr ⟨y,by
   unfold r8;rw[b];simp only[iM,List.all_nil,jT,Rt hf d,Rt hf i];rfl⟩
  obtain⟨t,c,l⟩:=zfT hf A d (by rw[b];simp);refine⟨t,c,?_⟩;unfold hold;rw[aR,b9,b9];exact⟨l p (by rw[b];simp),l q (by rw[b];simp)⟩
theorem D2(d:∀t∈S,t∈gr n f):DLC.Cov (tW n f) (qV f) S ↔ ∀x∈qV f,∃t∈S,hold t x=qb:=by
 constructor
 ·rintro⟨_,h⟩ x b;obtain⟨t,a,c⟩:=h x b;rw[NT hf (d t a)] at c;exact⟨t,a,(aM.mp c).2⟩
 ·intro h;refine⟨λt a=>by rw[Cy];exact d t a,λx b=>?_⟩;obtain⟨t,a,c⟩:=h x b;exact⟨t,a,by rw[NT hf (d t a)];exact aM.mpr ⟨b,c⟩⟩
theorem Vv:DLC.cov 18 (tW n f) (qV f)≠[]:=by obtain⟨c,a,_⟩:=DLC.cov_some 18 (DF hf) ((D2 hf λt b=>b).mpr λx d=>W7 hf d) (Gm hf);intro e;rw[e] at a;cases a
theorem VE:Sz (tW n f) (qV f):=⟨DF hf,ZA hf,JW hf⟩
theorem Zl(O:Ow):xA 1 (pU (j_ 1 CB (b_ (a_ 0) c_))) (.one 4) [] [] (a_ 4) (j_ 2 CD (b_ (a_ 4) (b_ (a_ 1) c_))) [KF (.tup f),KF (.lst ((qV f).map pr)),z,KF (.tab Pt)] O=.ok (tu pr (tW n f)) O:=by
 have c:=zd5 hf O;rw[Sd hf] at c;have j:=Gm hf;have d:=zfA (ext:=1) (i:=4) (it0:=pU (j_ 1 CB (b_ (a_ 0) c_))) (tk:=a_ 4) (tv:=j_ 2 CD (b_ (a_ 4) (b_ (a_ 1) c_))) (σ:=[KF (.tup f),KF (.lst ((qV f).map pr)),z,KF (.tab Pt)]) (O0:=O) (O:=O) (l:=gr n f) (inj:=D.str) (key:=D.str) (val:=λt=>.lst (((qV f).filter (hold t)).map pr)) (kk:=dk) (τ:=λt=>[KF (.tup f),KF (.lst ((qV f).map pr)),z,KF (.tab Pt),KF (.str t)]) (s_ ((uN (pX rfl) rfl).trans c)) 'd' (by
  refine iy.mpr ((Ju hf).imp ?_);intro a b h e;exact h (jp e)) (λ_=>rfl) (λ_ _=>rfl) (λ_ _=>rfl) (λt g=>(uN (qA rfl rfl) rfl).trans (YK hf.n1 hf.n4 (G9 g) (gc (JW hf) 'u')))
 have e:tu pr (tW n f)=.map ((gr n f).map dk) ((gr n f).map λt=>.lst (((qV f).filter (hold t)).map pr)):=by
  unfold tu;rw[Cy];unfold tW;rw[bi];rfl
 rw[e];exact d
end
structure Nk(n:Nat)(f:List D)(m:Nat)(l:List (List Nat)):Prop where
 lm:DLC.Lm (tW n f) (qV f) m
 few:l.length=m
 m18:m<=18
 srt:l.Pairwise (· < ·)
 inn:∀t∈l,t∈gr n f
 all:∀x∈qV f,∃t∈l,hold t x=qb
 sg:rh l=K87.few (tW n f) (qV f) m
def Ks(h:a.Perm b):rh a=rh b:=by
 unfold rh
 induction h with
 |nil=>rfl
 |cons x _ ih=>simp only[bq,iK,ih]
 |swap x y l=>simp only[bq,iK];lia
 |trans _ _ h1 h2=>exact h1.trans h2
def zdk(a:Fn n f):∃m l,Nk n f m l/\∀(Pt:Nat)(O:Ow),Pl O->A0 Pt [.tup f] O=.ok (.tup (l.map .str)) O:=by
 obtain⟨m,g,h,v⟩:=VQ VB (VE a) (λt b=>by rw[Cy] at b;exact uO a.n1 a.n4 (G9 b)) (Vv a);cases j:zN (tW n f) (qV f) m with
 |nil=>exact absurd j (Zg h.ne)
 | cons x r=>
  have k:x∈zN (tW n f) (qV f) m:=by rw[j];exact ar
  obtain⟨c,d,w,rfl⟩:=ph.mp k;obtain⟨F,y,q⟩:=DLC.cov_sound m (DF a) d;have s:∀t∈c,t∈gr n f:=λt b=>by have:=q.1 t b;rwa [Cy] at this
  have u:c.Perm (qS c):=DLC.perm_of_sub y (λt b=>(zZ c).mpr b) (zgk c);refine⟨m,qS c,⟨h,by rw[<- u.length_eq];exact h.len d,g,D_ c,λt b=>s t ((zZ c).mp b),λx k=>?_,by rw[<- Ks u];exact w⟩,λPt O z=>?_⟩
  ·obtain⟨t,b,A⟩:=(D2 a s).mp q x k;exact⟨t,(zZ c).mpr b,A⟩
  ·have B:HP Pt [.tup f,.lst ((qV f).map pr)] O=.ok (.tup ((qS c).map .str)) O:=by
    have d:=v Pt O z;rw[j] at d;show fin (K9 Pt [KF (.tup f),KF (.lst ((qV f).map pr)),KM,KF (.tab Pt)] O)=_;unfold K9;exact uk (rY (Zl a O) (rW (qr (Cf rfl (qA rfl rfl) d) rfl (J0 (i:=0) (ds:=on toT (qS c::r)) 'k'))))
   have G:=yT a;have C:qg qh 1 (pU (j_ 2 AZ (b_ (a_ 0) (b_ (dC (.int 1)) c_)))) (.one 3) [] [] (sk (b_ (a_ 3) (b_ (a_ 3) c_))) [KF (.tup f),KM,KF (.tab Pt)] O=.ok (.lst (((pW f).map λp=>(p,p)).map pr)) O:=by
    refine(xw (o:=qh) (ext:=1) (i:=3) (l:=pW f) (inj:=λ(p:Nat)=>D.int (p:Int)) (e:=λp=>pr (p,p)) (τ:=λ(p:Nat)=>[KF (.tup f),KM,KF (.tab Pt),KF (.int (p:Int))]) (s_ (qw (qA rfl rfl) (Sn a O))) 'd' (λ_=>rfl) (λp _=>zU (qA rfl rfl) (by show 2<=4000000;decide))).trans ?_;rw[bi];rfl
   have E:e_ qP (a_ 1) (j_ 1 DV (b_ (a_ 0) c_)) [KF (.tup f),KF (.lst (((pW f).map λp=>(p,p)).map pr)),KF (.tab Pt)] O=.ok (.lst ((qV f).map pr)) O:=by
    refine qr rfl (qw (pX rfl) (zf9 a O)) ?_;show(if _ then R.ok (D.lst (((pW f).map λp=>(p,p)).map pr++(r_ f).map pr)) O else .bad)=_;have:=DX a;rw[qq (by rw[au,au,au];lia)];unfold qV;rw[bA]
   show fin (K_ Pt [KF (.tup f),KM,KF (.tab Pt)] O)=_;unfold K_;exact uk (QD (qw (pX rfl) (JO a O)) (rY C (rW (Cf rfl (qA rfl E) B))))
section
variable{n m:Nat}{f:List D}{l:List (List Nat)}(hf:Fn n f)(h:Nk n f m l)
include hf h
theorem I_:∀t∈l,t∈YP n:=λt a=>G9 (h.inn t a)
theorem Jp:l.length<=18:=by have:=h.few;have:=h.m18;lia
theorem Zm(O:Ow):CM [.tup f,.tup (l.map .str)] O=.ok (.bl qb) O:=by
 have d:=Jp hf h;have a:=I_ hf h;rw[zgz hf a 'd' O ((zeo hf.n1 hf.n4 (zcX hf.n1 hf.n4 a) (by rw[au];lia) O).trans (by rw[YL hf.n1 hf.n4 a h.srt]))];have:Ig f l=qb:=by
  unfold Ig C2;rw[aR,av,av];refine⟨λt q=>(aM.mp (aM.mp (h.inn t q)).1).2,λp c=>?_⟩;obtain⟨t,q,b⟩:=h.all (p,p) (bM _ (az.mpr ⟨p,c,rfl⟩));unfold hold at b;rw[aR] at b;exact cf.mpr ⟨t,q,b.1⟩
 rw[this]
theorem Z9(b:uv O):CJ [.tup f,.tup (l.map .str)] O=.ok (.lst []) O:=by
 have g:=Jp hf h;rw[z9q hf (I_ hf h) 'd' b];have:FP f l=[]:=by
  unfold FP;rw[ft];intro x c;obtain⟨t,q,d⟩:=h.all x (aA _ c);have a:t∈l.filter λt=>hold t x:=aM.mpr ⟨q,d⟩;cases e:l.filter λt=>hold t x with
  |nil=>rw[e] at a;cases a
  |cons _ _=>simp
 rw[this];rfl
end
def Yc(a b:Nat):iG (a:Int) (b:Int)=((a ||| b:Nat):Int):=by
 have d:decide ((0:Int) <= -(a:Int)-1)=qh:=decide_eq_false 'd';have e:decide ((0:Int) <= -(b:Int)-1)=qh:=decide_eq_false 'd';show -(match decide ((0:Int) <= -(a:Int)-1),decide ((0:Int) <= -(b:Int)-1) with|true,qb=>_|true,qh=>_|false,qb=>_|false,qh=>-((((-(-(a:Int)-1)-1).toNat ||| (-(-(b:Int)-1)-1).toNat:Nat)):Int)-1)-1=_;rw[d,e];have f:(-(-(a:Int)-1)-1).toNat=a:=by lia
 have g:(-(-(b:Int)-1)-1).toNat=b:=by lia
 dsimp only;rw[f,g];show -(-((a ||| b:Nat):Int)-1)-1=_;generalize a ||| b=c;lia
def TM(O:Ow)(a b:Nat):fI BH O (.int (a:Nat)) (.int (b:Nat))=.ok (.int ((a ||| b:Nat))) O:=by show R.ok (D.int (iG (a:Int) (b:Int))) O=_;rw[Yc]
def IY(O:Ow)(h:n<=1000000):fI vg O (.int 1) (.int (n:Nat))=.ok (.int ((2 ^ n:Nat))) O:=by show(match vg 1 (n:Nat) with|some d=>R.ok d O|none=>.bad)=_;unfold vg;rw[qq ⟨by lia,by lia,by decide⟩];simp
def rR(f:List D)(t:List Nat):Nat:=DLB.mkN (λi=>hold t ((qV f).getD i (0,0))) (qV f).length
def Wf(a:i<(pW f).length):(qV f).getD i (0,0)=((pW f)[i],(pW f)[i]):=by unfold qV;rw[aG,aH (by rw[au];exact a),be,al a];rfl
def Wj(a:j<(r_ f).length):(qV f).getD ((pW f).length+j) (0,0)=(r_ f)[j]:=by unfold qV;rw[aG,aU (by rw[au];lia),au,bV,al a];rfl
def Qq(f:List D):(qV f).length=(pW f).length+(r_ f).length:=by unfold qV;rw[aw,au]
def Jj:DS:=(qm (tM (qj (j_ 2 tQ (b_ (a_ 2) (b_ (e_ p8 (e_ p8 (a_ 1) (a_ 4)) (dC (.int 0))) c_)))) (qj (j_ 2 tQ (b_ (a_ 2) (b_ (e_ p8 (e_ p8 (a_ 1) (a_ 4)) (dC (.int 1))) c_))))) (pS 3 (e_ qP (a_ 3) (e_ (fI vg) (dC (.int 1)) (e_ qP (m_ qi (b_ (a_ 0) c_)) (a_ 4))))) qo)
def Kl(O:Ow)(l:List Nat):qi O [.lst (qU l)]=.ok (.int (l.length:Nat)) O:=(P6 (xs:=qU l) rfl).trans (by unfold qU;rw[au])
def GZ{α:Type}(O:Ow)(g:α->D)(l:List α):qi O [.lst (l.map g)]=.ok (.int (l.length:Nat)) O:=(P6 (xs:=l.map g) rfl).trans (by rw[au])
def GP{α:Type}(O:Ow)(g:α->D)(l:List α)(h:i<l.length):p8 O (.lst (l.map g)) (.int (i:Nat))=.ok (g l[i]) O:=(J0 (by rw[au];exact h)).trans (by rw[iS])
def Pu(d:Fn n f)(s:t∈YP n)(O:Ow):AY [.lst (qU (pW f)),.lst ((r_ f).map pr),.str t] O=.ok (.int (rR f t:Nat)) O:=by
 have M:=yT d;have N:=DX d;let P:Option D:=KF (.lst (qU (pW f)));let T:Option D:=KF (.lst ((r_ f).map pr));let S:Option D:=KF (.str t);let q:Nat->Bool:=λi=>hold t ((qV f).getD i (0,0));have k:=uO d.n1 d.n4 s;have m:∀{z},z∈pW f->z<2 ^ t.length:=λ{z}hz=>by rw[sD d.n1 d.n4 s,<- d.len];exact(oV.mp hz).1
 have A:=vt (o:=qh) (ext:=0) (i:=4) (l:=aO (pW f).length) (inj:=λ(i:Nat)=>D.int (i:Int)) (it0:=sO (b_ (m_ qi (b_ (a_ 0) c_)) c_)) (t:=qj (j_ 2 tQ (b_ (a_ 2) (b_ (e_ p8 (a_ 0) (a_ 4)) c_)))) (te:=e_ (fI vg) (dC (.int 1)) (a_ 4)) (σ:=[P,T,S,KM,KM]) (O0:=O) (O:=O) (p:=q) (e:=λ(i:Nat)=>D.int ((2 ^ i:Nat):Int)) (τ:=λ(i:Nat)=>[P,T,S,KM,KF (.int (i:Int))]) (xE (pX (sH (pX rfl) (Kl O _))) 'd') (by rw[ci];lia) (λ_=>rfl) (λi c=>by
   have c:=bd.mp c;have e:(qp t).contains (pW f)[i]=q i:=by
    show _=hold t ((qV f).getD i (0,0));rw[Wf c];unfold hold;rw[og]
   rw[<- e];exact s9 (qw (qA rfl (qr rfl rfl (GP O _ _ c))) (AS k (m (bD c)) O))) (λi c _=>by
   have c:=bd.mp c;exact qr rfl rfl (IY O 'd'))
 have B:m_ Au (b_ (qg qh 0 (sO (b_ (m_ qi (b_ (a_ 0) c_)) c_)) (.one 4) [(qj (j_ 2 tQ (b_ (a_ 2) (b_ (e_ p8 (a_ 0) (a_ 4)) c_))))] [] (e_ (fI vg) (dC (.int 1)) (a_ 4))) c_) [P,T,S,KM,KM] O=.ok (.int ((DLB.mkN q (pW f).length:Nat))) O:=by
  refine sH (pX A) ?_;show(match wb (((aO (pW f).length).filter q).map λ(i:Nat)=>D.int ((2 ^ i:Nat):Int)) with|some ns=>R.ok (D.int ns.sum) O|none=>.bad)=_;have:(((aO (pW f).length).filter q).map λ(i:Nat)=>D.int ((2 ^ i:Nat):Int))=(((aO (pW f).length).filter q).map λ(i:Nat)=>((2 ^ i:Nat):Int)).map D.int:=by rw[bi];rfl
  rw[this,CH];show R.ok (D.int _) O=_;rw[DLB.sum_mkN]
 obtain⟨r,b,u,⟨y,rfl⟩,C⟩:=w8 (i:=4) (it:=sO (b_ (m_ qi (b_ (a_ 1) c_)) c_)) (body:=Jj) (σ:=[P,T,S,KF (.int ((DLB.mkN q (pW f).length:Nat))),KM]) (O0:=O) (O:=O) (l:=aO (r_ f).length) (inj:=λ(i:Nat)=>D.int (i:Int)) (xE (pX (sH (pX rfl) (GZ O pr (r_ f)))) 'd')
  (λj σ b=>(∃y,σ=[P,T,S,KF (.int ((DLB.mkN q ((pW f).length+j):Nat))),y])/\b=O) (λj a σ b E F=>by
   obtain⟨⟨y,rfl⟩,rfl⟩:=F;obtain⟨g,e⟩:=aq.mp E;rw[ik] at e;subst e;have g:j<(r_ f).length:=by rwa [ci] at g
   have v:=P9 (bD g);have w:=GP b pr (r_ f) g;generalize G:(r_ f)[j]=x at *;have H:tM (qj (j_ 2 tQ (b_ (a_ 2) (b_ (e_ p8 (e_ p8 (a_ 1) (a_ 4)) (dC (.int 0))) c_)))) (qj (j_ 2 tQ (b_ (a_ 2) (b_ (e_ p8 (e_ p8 (a_ 1) (a_ 4)) (dC (.int 1))) c_)))) [P,T,S,KF (.int ((DLB.mkN q ((pW f).length+j):Nat))),KF (.int (j:Nat))] b=.ok (hold t x) b:=
    D6 (s9 (qw (qA rfl (qr (qr rfl rfl w) rfl rfl)) (AS k (m v.1) b))) (λ_=>s9 (qw (qA rfl (qr (qr rfl rfl w) rfl rfl)) (AS k (m v.2) b)))
   have I:q ((pW f).length+j)=hold t x:=by
    show hold t ((qV f).getD _ (0,0))=_;rw[Wj g,G]
   have J:DLB.mkN q ((pW f).length+(j+1))=DLB.mkN q ((pW f).length+j)+(if hold t x=qb then 2 ^ ((pW f).length+j) else 0):=by
    rw[<- I];rfl
   show ∃r K,Jj [P,T,S,KF (.int ((DLB.mkN q ((pW f).length+j):Nat))),KF (.int (j:Nat))] b=_/\_;unfold Jj;rw[tO H,J];by_cases h:hold t x=qb
   ·rw[qq h,qq h];have L:e_ qP (m_ qi (b_ (a_ 0) c_)) (a_ 4) [P,T,S,KF (.int ((DLB.mkN q ((pW f).length+j):Nat))),KF (.int (j:Nat))] b=.ok (.int (((pW f).length+j:Nat))) b:=qr (sH (pX rfl) (Kl b _)) rfl yS;exact⟨_,_,xC (qr rfl (qr rfl L (IY b 'd')) yS),⟨KF (.int (j:Nat)),rfl⟩,rfl⟩
   ·rw[qM h,qM h];exact⟨_,_,rfl,⟨_,rfl⟩,rfl⟩) ⟨⟨KM,rfl⟩,rfl⟩
 rw[ci,<- Qq,C] at u;show fin (Lg [P,T,S,KM,KM] O)=_;unfold Lg;refine uk (rY B (vP u (rW ?_)));rfl
def rn(r:List Nat):D:=.tup (qU r)
def ziB(O:Ow)(r:List Nat)(z:Nat):p8 O (rn (r++[z])) (.int (-1))=.ok (.int (z:Nat)) O:=by
 have a:(qU (r++[z])).length=r.length+1:=by unfold qU;rw[au,aw];rfl
 have e:L2.atI (qU (r++[z])) (-1)=KF (.int (z:Nat)):=by
  unfold L2.atI L2.ixN;rw[a,qM 'u',qq 'd'];show(qU (r++[z]))[_]?=_;have:((-1:Int)+((r.length+1:Nat):Int)).toNat=r.length:=by lia
  rw[this];unfold qU;rw[bA,aU (by rw[au];exact aC _),au,ie];rfl
 show(match L2.atI (qU (r++[z])) (-1) with|some d=>R.ok d O|none=>.bad)=_;rw[e]
def ZP(O:Ow)(r:List Nat):pP qN O (rn r) (.tup [])=.ok (.bl (!r.isEmpty)) O:=by
 refine(Gv O (x:=rn r) (y:=.tup []) (D0 7 r) rfl (b:=r.isEmpty) ?_).2;cases r with
 |nil=>exact⟨λ_=>rfl,λ_=>rfl⟩
 |cons x l=>exact⟨λh=>(by cases h),λh=>(by cases h)⟩
def YD(O:Ow)(k:Nat)(h:r.length<=1000):wY O (rn r) (.tup [.int (k:Nat)])=.ok (rn (r++[k])) O:=by
 cases r with
 |nil=>rfl
 | cons x l=>
  show(if qU (x::l)≠[]/\(qU (x::l)).length+[D.int (k:Nat)].length<=4000000 then R.ok (D.tup (qU (x::l)++[.int (k:Nat)])) O else .bad)=_;rw[qq ⟨by unfold qU;simp,by unfold qU;rw[au];simp only[aV,dQ] at *;lia⟩];unfold rn qU;rw[bA];rfl
def Dy:DS:=(l_ (pS 6 (dC (.int 0))) (l_ (qm (pT (e_ (pP qN) (a_ 5) (sk c_))) (pS 6 (e_ wY (e_ p8 (a_ 5) (Dm (dC (.int 1)))) (dC (.int 1)))) qo) (rL (wM (a_ 4) (b_ (qg qh 1 (DC (b_ (a_ 6) (b_ (a_ 0) c_))) (.one 7) [] [] (e_ wY (a_ 5) (sk (b_ (a_ 7) c_)))) c_)))))
def zgn(h:many<=1000)(a:r.length<=1000)(j:DLB.nxt r<=many)(b:O[k]?=KF KB)(c:KB.length+(DLB.ext many r).length<=4000000):
  Dy [KF (.int (many:Nat)),x1,x2,x3,KF (.own k),KF (rn r),x6] O=.nx [KF (.int (many:Nat)),x1,x2,x3,KF (.own k),KF (rn r),KF (.int ((DLB.nxt r:Nat)))] (O.set k (KB++(DLB.ext many r).map rn)):=by
 have d:qm (pT (e_ (pP qN) (a_ 5) (sk c_))) (pS 6 (e_ wY (e_ p8 (a_ 5) (Dm (dC (.int 1)))) (dC (.int 1)))) qo [KF (.int (many:Nat)),x1,x2,x3,KF (.own k),KF (rn r),KF (.int 0)] O=.nx [KF (.int (many:Nat)),x1,x2,x3,KF (.own k),KF (rn r),KF (.int ((DLB.nxt r:Nat)))] O:=by
  rw[tO (rK (qr rfl rfl (ZP O r)))];rcases fE r with rfl|⟨f,z,rfl⟩
  ·rfl
  ·rw[fF,qq 'k',DLB.nxt_app];refine(xC (qr (y:=.int 1) (O2:=O) (qr rfl rfl (ziB O f z)) rfl (show wY O (.int (z:Nat)) (.int 1)=.ok (.int ((z:Nat)+1)) O from rfl))).trans ?_;rfl
 unfold Dy;refine rY (O1:=O) (x:=.int 0) rfl (vP d ?_);have g:qg qh 1 (DC (b_ (a_ 6) (b_ (a_ 0) c_))) (.one 7) [] [] (e_ wY (a_ 5) (sk (b_ (a_ 7) c_))) [KF (.int (many:Nat)),x1,x2,x3,KF (.own k),KF (rn r),KF (.int ((DLB.nxt r:Nat)))] O=.ok (.lst ((DLB.ext many r).map rn)) O:=by
  refine(xw (o:=qh) (ext:=1) (i:=7) (l:=aO (many-DLB.nxt r)) (inj:=λ(i:Nat)=>D.int ((DLB.nxt r+i:Nat):Int)) (e:=λi=>rn (r++[DLB.nxt r+i])) (τ:=λ(i:Nat)=>[KF (.int (many:Nat)),x1,x2,x3,KF (.own k),KF (rn r),KF (.int ((DLB.nxt r:Nat))),KF (.int ((DLB.nxt r+i:Nat):Int))]) ?_ (by rw[ci];lia) (λ_=>rfl) (λi _=>qr rfl (zU (pX rfl) (by show 1<=4000000;decide)) (YD O _ a))).trans ?_
  ·show(if _ then R.ok (DU ((DLB.nxt r:Nat):Int) (many:Nat)) O else .bad)=_;rw[qq ⟨by lia,by lia,by lia,by lia⟩];unfold DU;have:(((many:Nat):Int)-((DLB.nxt r:Nat):Int)).toNat=many-DLB.nxt r:=by lia
   rw[this];congr 3
  ·unfold DLB.ext;rw[bi];rfl
 exact Q_ rfl g rfl b (by rw[au];exact c)
def X0(d:s<=1000)(h:r∈DLB.pks many s):r.length<=1000/\DLB.nxt r<=many:=by
 obtain⟨a,b,c⟩:=DLB.mem_pks.mp h;refine⟨by lia,?_⟩;rcases fE r with rfl|⟨e,z,rfl⟩
 ·exact bE _
 ·rw[fF] at c ⊢;rw[DLB.nxt_app];exact c z 'k'
def Rc(n:Nat)(r:List Nat):uI n (rn r)=qb:=av.mpr λd a=>by
 obtain⟨x,_,rfl⟩:=az.mp a;rfl
def zfG(G:many<=18)(R:s<=100)(H:uv O):AV [.int (many:Nat),.int (s:Nat)] O=.ok (.lst ((DLB.pks many s).map rn)) O:=by
 have v:∀i,(DLB.pks many i).length<=262144:=λi=>aI (DLB.pks_few many i) (aI (c8 'u' G) 'u');let N:Option D:=KF (.int (many:Nat));let B:Option D:=KF (.int (s:Nat));let E:Ow->D->List D->Prop:=λX d m=>d=.lst m \/ ∃k,d=.own (O.length+k)/\X[k]?=KF m;have w:∀{X d m},E X d m->rD (O++X) d=KF m:=λ{X d m}h=>by
  rcases h with rfl|⟨k,rfl,h⟩
  ·rfl
  ·show(O++X)[O.length+k]?=_;rw[aU 'd',bV];exact h
 show tK O.length (fin (K2 [N,B,KM,KM,KM,KM,KM] O))=_;unfold K2;rw[sv (σ':=[N,B,KF (.lst [rn []]),KM,KM,KM,KM]) (O1:=O) (by rfl)];obtain⟨σ',f,p,d,y,r,c,b,X,rfl,rfl,e⟩:=w8 (i:=3) (O:=O) (l:=aO s) (body:=(l_ (pS 4 (uK c_)) (l_ (rC (pU (a_ 2)) (.one 5) Dy) (pS 2 (a_ 4)))))
  (xE (σ:=[N,B,KF (.lst [rn []]),KM,KM,KM,KM]) (O:=O) (pX (t:=a_ 1) rfl) 'd') (λi σ f=>∃d y r c b X,σ=[N,B,KF d,y,r,c,b]/\f=O++X/\E X d ((DLB.pks many i).map rn)) (λi a σ f I n=>by
   obtain⟨d,y,r,c,b,X,rfl,rfl,e⟩:=n;have S:i<s:=by
    have:=(aq.mp I).1;simpa using this
   show ∃σ' f,l_ _ _ [N,B,KF d,KF (.int a),r,c,b] (O++X)=_/\_;rw[sv (σ':=[N,B,KF d,KF (.int a),KF (.own (O++X).length),c,b]) (O1:=O++X++[[]]) (by rfl)];obtain⟨J,z,T,K⟩:=CF (Cu (X:=[[]]) (w e));obtain⟨σ',f,p,L,M,rfl,rfl⟩:=Qh (α:=List Nat) (g:=.one 5) (l:=DLB.pks many i) (inj:=rn) (body:=Dy)
    (OV (σ:=[N,B,KF d,KF (.int a),KF (.own (O++X).length),c,b]) (O:=O++X++[[]]) (t:=a_ 2) rfl z) (by rw[K];simp)
    (λj σ f=>∃c b,σ=[N,B,KF d,KF (.int a),KF (.own (O++X).length),c,b]/\f=O++X++[(((DLB.pks many i).take j).flatMap (DLB.ext many)).map rn]) (λj t σ f u n=>by
     obtain⟨c,b,rfl,rfl⟩:=n;obtain⟨P,o,A,Q⟩:=CF (Cu (X:=[(((DLB.pks many i).take j).flatMap (DLB.ext many)).map rn]) (w e));rw[z] at o;cases o;have F:=X0 'd' (aD u);have C:=S_ (g:=DLB.ext many) (DLB.pks many i) (j+1);have U:((DLB.pks many i).flatMap (DLB.ext many)).length<=262144:=v (i+1);rw[CG u,aw] at C;refine⟨by rw[A,be,u];rfl,[N,B,KF d,KF (.int a),KF (.own (O++X).length),KF (rn t),b],_,_,rfl,zgn 'd' F.1 F.2 vU (by rw[au];lia),_,_,rfl,?_⟩;rw[z8,<- bA,CG u]) (λσ f n=>by
     obtain⟨c,b,rfl,rfl⟩:=n;obtain⟨P,o,A,Q⟩:=CF (Cu (X:=[(((DLB.pks many i).take (DLB.pks many i).length).flatMap (DLB.ext many)).map rn]) (w e));rw[z] at o;cases o;rw[A];simp) ⟨c,b,rfl,by simp⟩
   rw[sv p];refine⟨_,_,rfl,.own (O++X).length,_,_,_,_,X++[(((DLB.pks many i).take (DLB.pks many i).length).flatMap (DLB.ext many)).map rn],rfl,by simp,.inr ⟨X.length,by simp,?_⟩⟩;rw[vU,cE];rfl) ⟨_,_,_,_,_,[],rfl,by simp,.inl rfl⟩
 unfold Dy at p;rw[sv p,rW (x:=d) rfl];rw[ci] at e;show tK O.length (.ok d (O++X))=_;refine Ee H X ?_;rcases e with rfl|⟨k,rfl,h⟩
 ·show(qd (frz (O++X) O.length 7) ((DLB.pks many s).map rn)).map D.lst=_;rw[uA λd e=>by obtain⟨q,_,rfl⟩:=az.mp e;exact yV (Rc _ _)];rfl
 ·unfold frz;dsimp only;rw[qM 'd',aU 'd',bV,h];dsimp only;rw[uA λd e=>by obtain⟨q,_,rfl⟩:=az.mp e;exact yV (Rc _ _)];rfl
def YE{α:Type}{it:DI}{i:Nat}{body:DS}{σ:Sg}{O0 O:Ow}{l:List α}{inj:α->D}{d:D}{k:Nat}(J:Ow->Prop)(q:it σ O0=.ok (.val (l.map inj)) O)(v:k<l.length)(I:Nat->Sg->Ow->Prop)(h:∀(j:Nat)a σ O,j<k->l[j]?=KF a->I j σ O->∃σ' b,body (σ.set i (KF (inj a))) O=.nx σ' b/\I (j+1) σ' b)(r:∀a σ O,l[k]?=KF a->I k σ O->∃b,body (σ.set i (KF (inj a))) O=.rt d b/\J b)(s:I 0 σ O):
  ∃b,rC it (.one i) body σ O0=.rt d b/\J b:=by
 have c:∀(f j:Nat)(σ:Sg)(O:Ow),I j σ O->j<=k->l.length<=j+f->∃b,tN (.val (l.map inj)) (λd σ O=>match Tg.put (.one i) d σ with|some σ'=>body σ' O|none=>.bad) f j σ O=.rt d b/\J b:=by
  intro f
  induction f with
  |zero=>intro j σ O _ t u;lia
  | succ f ih=>
   intro j σ O p t u;have n:j<l.length:=by lia
   have e:(Src.val (l.map inj)).get O j=KF (inj l[j]):=by
    show(l.map inj)[j]?=_;rw[be,al n];rfl
   unfold tN;rw[e];dsimp only;rw[show(Tg.one i).put (inj l[j]) σ=KF (σ.set i (KF (inj l[j]))) from rfl];dsimp only;by_cases o:j=k
   ·subst o;obtain⟨b,g,m⟩:=r l[j] σ O (al n) p;rw[g];exact⟨b,rfl,m⟩
   ·obtain⟨σ',b,g,m⟩:=h j l[j] σ O 'd' (al n) p;rw[g];exact ih (j+1) σ' b m 'd' 'd'
 obtain⟨b,g,m⟩:=c (l.map inj).length 0 σ O s (bE _) 'k';refine⟨b,?_,m⟩;show((it σ O0).bnS _)=_;rw[q];exact g
def VO(h:t σ O=.ok (.tup [x,y]) O1):Dr (.two i j) t σ O=.nx ((σ.set i (KF x)).set j (KF y)) O1:=by show((t σ O).bnS _)=_;rw[h];rfl
def Tr:DE:=(e_ (fI uu) (m_ qi (b_ (a_ 1) c_)) (FZ Dk (a_ 1) (b_ (dC (.str [45])) c_)))
def YY(O:Ow)(x:Option D):(oO.map λcs=>Tr [x,KF (.str cs)] O)=oO.map λcs=>R.ok (D.int (xb cs)) O:=by kernel_rfl
def Pm(a:pU (a_ 0) [KF x] O=.ok (.val (l.map D.str)) O)(d:l.length<=1000)(b:∀t∈l,t∈oO):AR [x] O=.ok (.int (rh l)) O:=by
 have c:=xw (o:=qh) (ext:=1) (i:=1) (it0:=pU (a_ 0)) (σ:=[KF x]) (O0:=O) (O:=O) (l:=l) (inj:=D.str) (te:=Tr) (e:=λt=>D.int (xb t)) (τ:=λt=>[KF x,KF (.str t)]) a 'd' (λ_=>rfl) (λt h=>di.mp (YY O (KF x)) t (b t h));show fin (HH [KF x] O)=_;unfold HH;refine Ci (sH (pX c) ?_);show(match wb (l.map λt=>D.int (xb t)) with|some ns=>R.ok (D.int ns.sum) O|none=>.bad)=_;have:(l.map λt=>D.int (xb t))=(l.map xb).map D.int:=by rw[bi];rfl
 rw[this,CH];rfl
def sub(S:List (List Nat))(r:List Nat):List (List Nat):=r.map λk=>S.getD k []
def wR(f:List D)(F S:List (List Nat))(r:List Nat):Bool:=DLB.orM (rR f) (F++sub S r)==2 ^ (qV f).length-1
def QZ{l:List (Nat×Nat)}{i:Nat}(h:i<l.length):l.getD i (0,0)=l[i]:=by rw[aG,al h];rfl
def pL{f:List D}{F S:List (List Nat)}{r:List Nat}:wR f F S r=qb ↔ ∀x∈qV f,∃t∈F++sub S r,hold t x=qb:=by
 unfold wR;rw[beq_iff_eq];refine(DLB.full_iff (p:=λt i=>hold t ((qV f).getD i (0,0))) (N:=(qV f).length) (F++sub S r)).trans ?_;constructor
 ·intro h x c;obtain⟨i,a,rfl⟩:=cY.mp c;obtain⟨t,b,q⟩:=h i a;rw[QZ a] at q;exact⟨t,b,q⟩
 ·intro h i a;obtain⟨t,b,q⟩:=h _ (bD a);exact⟨t,b,by rw[QZ a];exact q⟩
def Oh:DS:=(pS 11 (e_ (fI BH) (a_ 11) (e_ p8 (a_ 7) (a_ 12))))
def Om:DT:=(pT (e_ (pP qW) (a_ 11) (e_ (fI uu) (e_ (fI vg) (dC (.int 1)) (e_ qP (m_ qi (b_ (a_ 3) c_)) (m_ qi (b_ (a_ 4) c_)))) (dC (.int 1)))))
def Tu:DE:=(j_ 1 AR (b_ (qg qh 0 (pU (a_ 10)) (.one 12) [] [] (e_ p8 (a_ 2) (a_ 12))) c_))
def Dv:DS:=(l_ (pS 11 (a_ 5)) (l_ (rC (pU (a_ 10)) (.one 12) Oh) (qm Om (rL (vn (a_ 9) (b_ Tu c_))) qo)))
section
variable{n:Nat}{f:List D}(hf:Fn n f){F S:List (List Nat)}(hS:∀t∈S,t∈YP n)(zI:S.length<=18)
def stK(f:List D)(F S:List (List Nat))(y6:Option D)(j:Nat)(y9 y10 y11 y12:Option D):Sg:=[KF (.tup f),KF (.tup (F.map .str)),KF (.lst (S.map .str)),KF (.lst (qU (pW f))),KF (.lst ((r_ f).map pr)),KF (.int ((DLB.orM (rR f) F:Nat))),y6,KF (.lst (S.map λt=>D.int (rR f t:Nat))),KF (.int (j:Nat)),y9,y10,y11,y12]
include hf hS zI in
theorem zhQ(d:∀q∈r,q<S.length)(h:r.length<=1000)(u:O[k]?=KF KB)(v:KB.length<4000000):
  ∃w a,Dv (stK f F S y6 j (KF (.own k)) (KF (rn r)) y11 y12) O=.nx (stK f F S y6 j (KF (.own k)) (KF (rn r)) w a) (if wR f F S r=qb then O.set k (KB++[.int (rh (sub S r))]) else O):=by
 have I:=yT hf;have J:=DX hf;obtain⟨y,c,m,⟨a,rfl⟩,z⟩:=w8 (i:=12) (it:=pU (a_ 10)) (body:=Oh) (σ:=stK f F S y6 j (KF (.own k)) (KF (rn r)) (KF (.int ((DLB.orM (rR f) F:Nat)))) y12) (O0:=O) (O:=O) (l:=r) (inj:=λ(q:Nat)=>D.int (q:Int)) (yP rfl)
  (λi σ c=>(∃a,σ=stK f F S y6 j (KF (.own k)) (KF (rn r)) (KF (.int ((DLB.orM (rR f) (F++sub S (r.take i)):Nat)))) a)/\c=O) (λi q σ c b A=>by
   obtain⟨⟨a,rfl⟩,rfl⟩:=A;have p:=d q (aD b);have B:e_ p8 (a_ 7) (a_ 12) (stK f F S y6 j (KF (.own k)) (KF (rn r)) (KF (.int ((DLB.orM (rR f) (F++sub S (r.take i)):Nat)))) (KF (.int (q:Nat)))) c=.ok (.int ((rR f S[q]:Nat))) c:=qr rfl rfl (GP c _ S p);have C:DLB.orM (rR f) (F++sub S (r.take (i+1)))=DLB.orM (rR f) (F++sub S (r.take i)) ||| rR f S[q]:=by
    rw[<- DLB.orM_app];unfold sub;rw[eH,b,bA,<- aZ];show DLB.orM (rR f) (_++[S.getD q []])=_;rw[aG,al p];rfl
   refine⟨_,_,xC (qr rfl B (TM c _ _)),⟨KF (.int (q:Nat)),?_⟩,rfl⟩;rw[<- C];rfl) ⟨⟨y12,by simp[sub]⟩,rfl⟩
 rw[cE,z] at m;have E:e_ qP (m_ qi (b_ (a_ 3) c_)) (m_ qi (b_ (a_ 4) c_)) (stK f F S y6 j (KF (.own k)) (KF (rn r)) (KF (.int ((DLB.orM (rR f) (F++sub S r):Nat)))) a) O=.ok (.int ((qV f).length:Nat)) O:=by
  rw[Qq];exact qr (sH (pX rfl) (Kl O _)) (sH (pX rfl) (GZ O pr (r_ f))) yS
 have K:=JW hf;have G:Om (stK f F S y6 j (KF (.own k)) (KF (rn r)) (KF (.int ((DLB.orM (rR f) (F++sub S r):Nat)))) a) O=.ok (wR f F S r) O:=by
  refine rK (qr rfl (qr (qr rfl E (IY O 'd')) rfl rfl) ((M9 O _ _).trans ?_));have:(((DLB.orM (rR f) (F++sub S r):Nat):Int)==((2 ^ (qV f).length:Nat):Int)-1)=wR f F S r:=by
   unfold wR;have L:=jE (n:=(qV f).length);rw[dS,beq_iff_eq,beq_iff_eq];lia
  rw[this]
 refine⟨KF (.int ((DLB.orM (rR f) (F++sub S r):Nat))),a,?_⟩;unfold Dv;refine rY (x:=.int ((DLB.orM (rR f) F:Nat))) (O1:=O) rfl (vP m ?_);rw[tO G];by_cases g:wR f F S r=qb
 ·rw[qq g,qq g];have H:Tu (stK f F S y6 j (KF (.own k)) (KF (rn r)) (KF (.int ((DLB.orM (rR f) (F++sub S r):Nat)))) a) O=.ok (.int (rh (sub S r))) O:=by
   refine qw (pX (xw (o:=qh) (ext:=0) (i:=12) (l:=r) (inj:=λ(q:Nat)=>D.int (q:Int)) (e:=λq=>D.str (S.getD q [])) (τ:=λ(q:Nat)=>stK f F S y6 j (KF (.own k)) (KF (rn r)) (KF (.int ((DLB.orM (rR f) (F++sub S r):Nat)))) (KF (.int (q:Int)))) (yP rfl) 'd' (λ_=>rfl) (λq b=>qr rfl rfl ((GP O D.str S (d q b)).trans (by rw[aG,al (d q b)];rfl))))) ?_;refine Pm (l:=sub S r) ?_ (by unfold sub;rw[au];exact h) (λt s=>?_)
   ·refine s_ (ds:=(sub S r).map D.str) ?_;unfold sub;rw[bi];rfl
   ·unfold sub at s;obtain⟨q,b,rfl⟩:=az.mp s;rw[aG,al (d q b)];exact uO hf.n1 hf.n4 (hS _ (bD (d q b)))
  exact D7 rfl H u v
 ·rw[qM g,qM g];rfl
end
def IV:DS:=(l_ (pS 9 (uK c_)) (l_ (rC (pU (j_ 2 AV (b_ (m_ qi (b_ (a_ 2) c_)) (b_ (a_ 8) c_)))) (.one 10) Dv) (qm (pT (e_ (pP qN) (a_ 9) (rH c_))) (pR (sk (b_ (a_ 8) (b_ (m_ AE (b_ (a_ 9) c_)) c_)))) qo)))
def sS(f:List D)(F S:List (List Nat))(j:Nat):List Int:=((DLB.pks S.length j).filter (wR f F S)).map λr=>rh (sub S r)
def zfO(h:O[k]?=KF ds):qz O 8 (.own k)=qz O 8 (.lst ds):=by show(match O[k]? with|some ds=>(qd (qz O 7) ds).map eE|none=>KM)=_;rw[h];rfl
def zi6{O:Ow}{k:Nat}{l:List Int}(h:O[k]?=KF (l.map D.int)):pP qN O (.own k) (.lst [])=.ok (.bl (!l.isEmpty)) O:=by
 have e:pP qN O (.own k) (.lst [])=pP qN O (.lst (l.map D.int)) (.lst []):=by
  unfold pP py;rw[zfO h]
 rw[e];refine(zT O (x:=l.map D.int) (y:=[]) (av.mpr λd a=>?_) rfl (b:=l.isEmpty) ?_).2
 ·obtain⟨x,_,rfl⟩:=az.mp a;rfl
 ·cases l with
  |nil=>exact⟨λ_=>rfl,λ_=>rfl⟩
  |cons x l=>exact⟨λh=>(by cases h),λh=>(by cases h)⟩
def At.ints(h:At O)(l:List Int):At (O++[l.map D.int]):=λc b d a=>by
 rcases aQ.mp b with q|q
 ·exact h c q d a
 ·have:c=l.map D.int:=by simpa using q
  subst this;obtain⟨x,_,rfl⟩:=az.mp a;rfl
section
variable{n:Nat}{f:List D}(hf:Fn n f){F S:List (List Nat)}(hF:∀t∈F,t∈YP n)(hS:∀t∈S,t∈YP n)(hFl:F.length<=100)(zI:S.length<=18)
include hf hS zI in
theorem QI{y6 y9 y10 y11 y12:Option D}{j:Nat}(o:j<=100){O:Ow}(p:At O):
  ∃s c a b,IV (stK f F S y6 j y9 y10 y11 y12) O=(if sS f F S j≠[] then .rt (.tup [.int (j:Nat),.int (vp (sS f F S j))]) (O++[(sS f F S j).map D.int]) else .nx (stK f F S y6 j s c a b) (O++[(sS f F S j).map D.int])):=by
 have u:(DLB.pks S.length j).length<=262144:=aI (DLB.pks_few S.length j) (aI (c8 'u' zI) 'u');obtain⟨v,g,e,c,a,b,rfl,rfl⟩:=w8 (i:=10) (it:=pU (j_ 2 AV (b_ (m_ qi (b_ (a_ 2) c_)) (b_ (a_ 8) c_)))) (body:=Dv) (σ:=stK f F S y6 j (KF (.own O.length)) y10 y11 y12) (O0:=O++[[]]) (O:=O++[[]]) (l:=DLB.pks S.length j) (inj:=rn) (s_ (qw (qA (sH (pX rfl) (GZ _ D.str S)) rfl) (zfG zI o (p.ints []).flat)))
  (λi σ g=>∃c a b,σ=stK f F S y6 j (KF (.own O.length)) c a b/\g=O++[((((DLB.pks S.length j).take i).filter (wR f F S)).map λr=>rh (sub S r)).map D.int]) (λi r σ g h w=>by
   obtain⟨c,a,b,rfl,rfl⟩:=w;obtain⟨E,G,y⟩:=DLB.mem_pks.mp (aD h);have H:=bg (wR f F S) ((DLB.pks S.length j).take i);have I:=eN i (DLB.pks S.length j);obtain⟨z,A,q⟩:=zhQ (F:=F) hf hS zI (y6:=y6) (y11:=a) (y12:=b) (j:=j) (k:=O.length) (O:=O++[((((DLB.pks S.length j).take i).filter (wR f F S)).map λr=>rh (sub S r)).map D.int]) y 'd' vU (by rw[au,au];lia);refine⟨_,_,q,_,_,_,rfl,?_⟩;rw[Hy _ h];split
   ·rw[z8,bA,bA];rfl
   ·rw[bz]) ⟨y10,y11,y12,rfl,by simp⟩
 rw[cE] at e;have e:rC (pU (j_ 2 AV (b_ (m_ qi (b_ (a_ 2) c_)) (b_ (a_ 8) c_)))) (.one 10) Dv (stK f F S y6 j (KF (.own O.length)) y10 y11 y12) (O++[[]])=.nx (stK f F S y6 j (KF (.own O.length)) c a b) (O++[(sS f F S j).map D.int]):=e;refine⟨KF (.own O.length),c,a,b,?_⟩;unfold IV;refine rY (x:=.own O.length) (O1:=O++[[]]) rfl (vP e ?_);have m:(O++[(sS f F S j).map D.int])[O.length]?=KF ((sS f F S j).map D.int):=vU;rw[tO (rK (qr rfl rfl (zi6 m)))];by_cases d:sS f F S j=[]
 ·rw[qM (by rw[d];simp),qM (by rw[d];simp)];rfl
 ·have B:(!(sS f F S j).isEmpty)=qb:=by
   cases C:sS f F S j with
   |nil=>exact absurd C d
   |cons _ _=>rfl
  rw[qq B,qq d];refine rW (zU (qA rfl (sH (pX rfl) ?_)) (by show 2<=4000000;decide));show(match (O++[(sS f F S j).map D.int])[O.length]? with|some ds=>(match wb ds with|some ns=>if ns≠[] then R.ok (D.int (vp ns)) _ else .bad|none=>.bad)|none=>.bad)=_;rw[m];dsimp only;rw[CH];dsimp only;rw[qq d]
def Vr:DS:=(pS 5 (e_ (fI BH) (a_ 5) (j_ 3 AY (b_ (a_ 3) (b_ (a_ 4) (b_ (a_ 6) c_))))))
include hf hF hS hFl zI in
theorem zhZ(W:s<=S.length)(H:∀j,j<s->sS f F S j=[])(I:sS f F S s≠[])(m:At O):CN [.tup f,.tup (F.map .str),.lst (S.map .str)] O=.ok (.tup [.int (s:Nat),.int (vp (sS f F S s))]) O:=by
 let A:Option D:=KF (.tup f);let G:Option D:=KF (.tup (F.map .str));let C:Option D:=KF (.lst (S.map .str));let P:Option D:=KF (.lst (qU (pW f)));let T:Option D:=KF (.lst ((r_ f).map pr));have J:Dr (.two 3 4) (sk (b_ (j_ 1 vV (b_ (a_ 0) c_)) (b_ (j_ 1 AU (b_ (a_ 0) c_)) c_))) [A,G,C,KM,KM,KM,KM,KM,KM,KM,KM,KM,KM] O=.nx [A,G,C,P,T,KM,KM,KM,KM,KM,KM,KM,KM] O:=
  (VO (zU (qA (qw (pX rfl) (DZ hf O)) (qw (pX rfl) (S9 hf m.flat))) (by show 2<=4000000;decide))).trans rfl
 obtain⟨K,b,v,⟨y6,rfl⟩,L⟩:=w8 (i:=6) (it:=pU (a_ 1)) (body:=Vr) (σ:=[A,G,C,P,T,KF (.int 0),KM,KM,KM,KM,KM,KM,KM]) (O0:=O) (O:=O) (l:=F) (inj:=D.str) (yP rfl)
  (λi σ b=>(∃y6,σ=[A,G,C,P,T,KF (.int ((DLB.orM (rR f) (F.take i):Nat))),y6,KM,KM,KM,KM,KM,KM])/\b=O) (λi t σ b g c=>by
   obtain⟨⟨y6,rfl⟩,rfl⟩:=c;have M:DLB.orM (rR f) (F.take (i+1))=DLB.orM (rR f) (F.take i) ||| rR f t:=by
    rw[<- DLB.orM_app,eH,g];rfl
   refine⟨_,_,xC (qr rfl (qw (Cw rfl (qA rfl rfl)) (Pu hf (hF t (aD g)) b)) (TM b _ _)),⟨KF (.str t),?_⟩,rfl⟩;rw[<- M];rfl) ⟨⟨KM,rfl⟩,rfl⟩
 rw[cE,L] at v;have N:qg qh 0 (pU (a_ 2)) (.one 6) [] [] (j_ 3 AY (b_ (a_ 3) (b_ (a_ 4) (b_ (a_ 6) c_)))) [A,G,C,P,T,KF (.int ((DLB.orM (rR f) F:Nat))),y6,KM,KM,KM,KM,KM,KM] O=.ok (.lst (S.map λt=>D.int (rR f t:Nat))) O:=
  (xw (o:=qh) (ext:=0) (i:=6) (l:=S) (inj:=D.str) (e:=λt=>D.int (rR f t:Nat)) (τ:=λt=>[A,G,C,P,T,KF (.int ((DLB.orM (rR f) F:Nat))),KF (.str t),KM,KM,KM,KM,KM,KM]) (s_ rfl) 'd' (λ_=>rfl) (λt g=>qw (Cw rfl (qA rfl rfl)) (Pu hf (hS t g) O))).trans rfl
 have Q:sO (b_ (e_ qP (m_ qi (b_ (a_ 2) c_)) (dC (.int 1))) c_) [A,G,C,P,T,KF (.int ((DLB.orM (rR f) F:Nat))),y6,KF (.lst (S.map λt=>D.int (rR f t:Nat))),KM,KM,KM,KM,KM] O=.ok (.val ((aO (S.length+1)).map λ(i:Nat)=>D.int (i:Int))) O:=
  xE (n:=S.length+1) (pX ((qr (sH (pX rfl) (GZ O D.str S)) rfl yS).trans (by rfl))) 'd'
 obtain⟨b,R,X,rfl⟩:=YE (i:=8) (body:=IV) (d:=.tup [.int (s:Nat),.int (vp (sS f F S s))]) (k:=s) (λb=>∃X,b=O++X) Q (by rw[ci];lia)
  (λj σ b=>∃p y9 y10 y11 y12 X,σ=[A,G,C,P,T,KF (.int ((DLB.orM (rR f) F:Nat))),y6,KF (.lst (S.map λt=>D.int (rR f t:Nat))),p,y9,y10,y11,y12]/\b=O++X/\At b)
  (λj a σ b r u c=>by
   obtain⟨p,y9,y10,y11,y12,X,rfl,rfl,h⟩:=c;obtain⟨w,e⟩:=aq.mp u;rw[ik] at e;subst e;rw[ci] at w;obtain⟨y,z,B,E,q⟩:=QI (F:=F) hf hS zI (y6:=y6) (y9:=y9) (y10:=y10) (y11:=y11) (y12:=y12) (j:=j) 'd' h;rw[H j r,qM 'k'] at q;exact⟨_,_,q,KF (.int (j:Nat)),y,z,B,E,X++[[]],rfl,by rw[aZ];rfl,h.ints []⟩)
  (λa σ b u c=>by
   obtain⟨p,y9,y10,y11,y12,X,rfl,rfl,h⟩:=c;obtain⟨w,e⟩:=aq.mp u;rw[ik] at e;subst e;obtain⟨y,z,B,E,q⟩:=QI (F:=F) hf hS zI (y6:=y6) (y9:=y9) (y10:=y10) (y11:=y11) (y12:=y12) (j:=s) 'd' h;rw[qq I] at q;exact⟨_,q,X++[(sS f F S s).map D.int],by rw[aZ]⟩) ⟨KM,KM,KM,KM,KM,[],rfl,by simp,m⟩
 show tK O.length (fin (Lh [A,G,C,KM,KM,KM,KM,KM,KM,KM,KM,KM,KM] O))=_;have U:=vP J (rY (x:=.int 0) (O1:=O) (t:=dC (.int 0)) (i:=5) rfl (vP v (rY (i:=7) N (Cm (d:=pR (dC .non)) R))));have V:Lh [A,G,C,KM,KM,KM,KM,KM,KM,KM,KM,KM,KM] O=.rt (.tup [.int (s:Nat),.int (vp (sS f F S s))]) (O++X):=U;rw[uk V];exact D1 m.pl X (d:=.tup [.int (s:Nat),.int (vp (sS f F S s))]) rfl
end
def At.set(h:At O)(m:Nat)(s:Int)(b:Bool):At (O.set m [.int s,.bl b]):=λc e d a=>by
 rcases g8 e with q|q
 ·exact h c q d a
 ·subst q;simp only[am,aW,or_false] at a;rcases a with rfl|rfl<;>rfl
def At.app(h:At O)(s:Int)(b:Bool):At (O++[[.int s,.bl b]]):=λc e d a=>by
 rcases aQ.mp e with q|q
 ·exact h c q d a
 ·have:c=[.int s,.bl b]:=by simpa using q
  subst this;simp only[am,aW,or_false] at a;rcases a with rfl|rfl<;>rfl
def V1(a:c σ O=.ok qh O1)(b:d σ O1=.ok qh O2):wW c d σ O=.ok qh O2:=by show((c σ O).bnd _)=_;rw[a];exact b
theorem KU{α:Type}[DecidableEq α]:∀{a b:List α},a.Nodup->(∀t∈a,t∈b)->a.length<=b.length
 |[],_,_,_=>bE _
 | x::a,b,n,h=>by
  have c:=h x ar;have d:=bu.mp n;have:=KU (b:=b.erase x) d.2 λt f=>(lQ (λe:t=x=>d.1 (e▸f))).mpr (h t (aj _ f));rw[kz c] at this;have:=List.length_pos_of_mem c;rw[aV];lia
def zbO(S:List (List Nat))(p:List Nat->Bool):sub S ((aO S.length).filter λk=>p (S.getD k []))=S.filter p:=by
 have e:((aO S.length).map λk=>S.getD k [])=S:=by
  refine nk 'k' λi b a=>?_;rw[iS,ik,aG,al a];rfl
 unfold sub
 conv=>rhs;rw[<- e]
 rw[nK];rfl
def WD{α:Type}[DecidableEq α]{h:DLC.Held α}{w:List α}{m:Nat}{c:List (List Nat)}(e:c∈DLC.cov m h w):few h w m<=rh c:=by
 unfold few;cases f:DLC.cov m h w with
 |nil=>rw[f] at e;cases e
 | cons d l=>
  obtain⟨a,b⟩:=JR (l.map rh) (rh d);rw[f] at e;rcases am.mp e with rfl|h
  ·exact a
  ·exact b _ (az.mpr ⟨c,h,rfl⟩)
section
variable{n m:Nat}{f:List D}{l:List (List Nat)}(hf:Fn n f)(h:Nk n f m l)
include hf
theorem OE{r:List Nat}(a:∀k∈r,k<(gr n f).length):∀t∈sub (gr n f) r,t∈gr n f:=λt b=>by
 unfold sub at b;obtain⟨k,c,rfl⟩:=az.mp b;rw[aG,al (a k c)];exact bD (a k c)
theorem JQ{r:List Nat}(a:∀k∈r,k<(gr n f).length):wR f [] (gr n f) r=qb↔DLC.Cov (tW n f) (qV f) (sub (gr n f) r):=pL.trans (D2 hf (OE hf a)).symm
include h
theorem W4(d:j<m):sS f [] (gr n f) j=[]:=by unfold sS;rw[jh,ft];intro r a b;obtain⟨e,g,c⟩:=DLB.mem_pks.mp a;have:=h.lm.le ((JQ hf c).mp b);unfold sub at this;rw[au] at this;lia
theorem Qf:sS f [] (gr n f) m≠[]/\vp (sS f [] (gr n f) m)=rh l:=by
 obtain⟨c,u,z⟩:=PV h.lm.ne;obtain⟨L,A,v⟩:=DLC.cov_sound m (DF hf) u;have w:∀t∈c,t∈gr n f:=λt b=>by have:=v.1 t b;rwa [Cy] at this
 let r:=(aO (gr n f).length).filter λk=>decide ((gr n f).getD k []∈c);have B:sub (gr n f) r=(gr n f).filter λt=>decide (t∈c):=zbO (gr n f) λt=>decide (t∈c);have g:c.Perm (sub (gr n f) r):=by
  rw[B];refine DLC.perm_of_sub A (λt b=>aM.mpr ⟨w t b,by simpa using b⟩) (KU ((Ju hf).filter _) λt b=>?_);simpa using(aM.mp b).2
 have d:r.length=m:=by
  have:=g.length_eq;unfold sub at this;rw[au,h.lm.len u] at this;exact this.symm
 have i:∀k∈r,k<(gr n f).length:=λk C=>bd.mp (aM.mp C).1;have j:r∈DLB.pks (gr n f).length m:=DLB.mem_pks.mpr ⟨d,List.pairwise_lt_range.filter _,i⟩;have o:DLC.Cov (tW n f) (qV f) (sub (gr n f) r):=(D2 hf (OE hf i)).mpr λx E=>by
  obtain⟨t,b,q⟩:=(D2 hf w).mp v x E;exact⟨t,g.mem_iff.mp b,q⟩
 have p:rh l∈sS f [] (gr n f) m:=by
  unfold sS;refine az.mpr ⟨r,aM.mpr ⟨j,(JQ hf i).mpr o⟩,?_⟩;rw[<- Ks g,z,h.sg]
 refine⟨λe=>(by rw[e] at p;cases p),(RX p λa y=>?_).symm⟩;unfold sS at y;obtain⟨M,F,rfl⟩:=az.mp y;obtain⟨G,H⟩:=aM.mp F;obtain⟨I,N,J⟩:=DLB.mem_pks.mp G;obtain⟨O,K,s⟩:=h.lm.all ((JQ hf J).mp H) (by unfold sub;rw[au];exact I);rw[<- Ks s,h.sg];exact WD K
theorem VF:m<=(gr n f).length:=by rw[<- h.few];refine KU (h.srt.imp λa e=>?_) h.inn;subst e;exact absurd a (gE _)
theorem zhM(a:At O):CN [.tup f,.tup [],.lst ((gr n f).map .str)] O=.ok (.tup [.int (m:Nat),.int (rh l)]) O:=by have:=zhZ (F:=[]) (S:=gr n f) hf (λ_ h=>(aW h).elim) (λt b=>G9 b) (bE _) (Gm hf) (VF hf h) (λj c=>W4 hf h c) (Qf hf h).1 a;rw[(Qf hf h).2] at this;exact this
end
def zgc(O:Ow):(oO.map λcs=>AW 2 [.str cs,.str cs] O)=oO.map λ_=>R.ok (D.bl qb) O:=by kernel_rfl
def WW{l:List (List Nat)}(c:∀t∈l,t∈oO)(d:l.length<=1000)(O:Ow):Eh [.tup (l.map .str),.tup (l.map .str)] O=.ok (.bl qb) O:=
 zfz (k:=2) (Pa O _) (Pa O _) (.inr rfl) rfl (by rw[au];lia) λi x y a b=>by
  rw[a] at b;cases b;rw[be] at a;cases e:l[i]? with
  |none=>rw[e] at a;cases a
  | some t=>
   rw[e] at a;cases a;exact di.mp (zgc O) t (c t (aD e))
def Zh(O:Ow)(i j:Int):pP qN O (.tup [.int i,.int j]) (.tup [.int i,.int j])=.ok (.bl qh) O:=(Gv O (x:=.tup [.int i,.int j]) (y:=.tup [.int i,.int j]) rfl rfl (b:=qb) 'k').2
def Gq(Pt:Nat):DS:=(l_ (pS 2 (j_ 2 En (b_ (a_ 0) (b_ (a_ 1) c_)))) (l_ (pS 3 (j_ 3 CP (b_ (a_ 2) (b_ (e_ qP (dC (.int 1)) (j_ 2 vB (b_ (a_ 2) (b_ (dC (.int 4)) c_)))) (b_ (dC (.bl qb)) c_))))) (l_ (pS 4 (tJ Pt 6 1 (A0 Pt) (b_ (a_ 3) c_))) (l_ (qm (wW (sQ (qj (j_ 2 CM (b_ (a_ 3) (b_ (a_ 4) c_))))) (pT (e_ (pP qN) (j_ 2 CJ (b_ (a_ 3) (b_ (a_ 4) c_))) (rH c_)))) (pR (dC (.bl qh))) qo) (l_ (pS 5 (j_ 3 CN (b_ (a_ 3) (b_ (sk c_) (b_ (j_ 1 Eu (b_ (a_ 3) c_)) c_))))) (l_ (qm (pT (e_ (pP qN) (sk (b_ (m_ qi (b_ (a_ 4) c_)) (b_ (j_ 1 AR (b_ (a_ 4) c_)) c_))) (a_ 5))) (pR (dC (.bl qh))) qo) (qm (sQ (qj (j_ 2 Eh (b_ (tJ Pt 6 1 (A0 Pt) (b_ (a_ 3) c_)) (b_ (a_ 4) c_))))) (pR (dC (.bl qh))) qo)))))))
def zgl{Pt:Nat}{ns:List Int}{k:Nat}{O:Ow}(z:At O){y2 y3 y4 y5:Option D}:
  ∃E G H I g,Gq Pt [KF (.lst (ns.map .int)),KF (.int (k:Int)),y2,y3,y4,y5,KF (.tab Pt)] O=.nx [KF (.lst (ns.map .int)),KF (.int (k:Int)),E,G,H,I,KF (.tab Pt)] g/\At g:=by
 let A:Option D:=KF (.lst (ns.map .int));let B:Option D:=KF (.int (k:Int));let i:Option D:=KF (.tab Pt);obtain⟨s,b,J,K⟩:=zgM (ns:=ns) (k:=k) O;have j:At (O++[[.int s,.bl b]]):=z.app s b;generalize Z:O.length=m at *;generalize Uw:O++[[D.int s,D.bl b]]=O1 at *;obtain⟨r,o,r1,M,N⟩:=GU K (k:=4) 'u' 'u';have P:1<=1+r:=by lia
 have Q:1+r<=4:=by lia
 have R:e_ qP (dC (.int 1)) (j_ 2 vB (b_ (a_ 2) (b_ (dC (.int 4)) c_))) [A,B,KF (.own m),y3,y4,y5,i] O1=.ok (.int ((1+r:Nat):Int)) (O1.set m [.int o,.bl b]):=(qr rfl (qw (qA rfl rfl) M) yS).trans (by congr 2);generalize hn:1+r=n at *;have T:=j.set m o b;obtain⟨f,p,c,q,U⟩:=z9Z T.flat N P Q qb;rw[mB] at q U;have d:=j.set m p b;generalize V:O1.set m [D.int p,D.bl b]=a at *;have u:=d.pl;obtain⟨W,l,h,e⟩:=zdk c;have v:∀t∈l,t∈oO:=λt X=>uO c.n1 c.n4 (I_ c h t X);have w:=Jp c h;have Y:j_ 3 CP (b_ (a_ 2) (b_ (e_ qP (dC (.int 1)) (j_ 2 vB (b_ (a_ 2) (b_ (dC (.int 4)) c_)))) (b_ (dC (.bl qb)) c_))) [A,B,KF (.own m),y3,y4,y5,i] O1=.ok (.tup f) a:=
  qw (Cw rfl (qA R rfl)) q
 let S:Option D:=KF (.own m);let F:Option D:=KF (.tup f);let L:Option D:=KF (.tup (l.map .str));let C:Option D:=KF (.tup [.int (W:Nat),.int (rh l)]);refine⟨S,F,L,C,a,?_,d⟩;unfold Gq;refine rY (qw (qA rfl rfl) J) (rY Y (rY (Cf rfl (pX rfl) (e Pt a u)) ?_));refine w6 (O1:=a) (V1 (vS (b:=qb) (s9 (qw (qA rfl rfl) (Zm c h a)))) (rK (qr (qw (qA rfl rfl) (Z9 c h d.flat)) rfl (zT a (x:=[]) (y:=[]) rfl rfl (b:=qb) 'k').2))) ?_;refine rY (qw (Cw rfl (qA rfl (qw (pX rfl) (z9m c d.flat)))) (zhM c h d)) ?_;refine w6 (O1:=a) (rK (qr (zU (qA (sH (pX rfl) ((Q2 a _).trans (by rw[au,h.few]))) (qw (pX rfl) (Pm (l:=l) (yP rfl) 'd' v))) (by show 2<=4000000;decide)) rfl (Zh a _ _))) ?_;rw[tO (vS (b:=qb) (s9 (qw (qA (Cf rfl (pX rfl) (e Pt a u)) rfl) (WW v 'd' a))))];rfl
def pure_law(Pt:Nat)(ns:List Int)(f:ns.length<=63):∃O,F_law Pt [.lst (ns.map .int)] []=.ok (.bl qb) O:=by
 let A:Option D:=KF (.lst (ns.map .int));let b:Option D:=KF (.tab Pt);obtain⟨m,g,h⟩:=zgu f [A,KM,KM,KM,KM,KM,b] 3 'u' rfl;obtain⟨j,a,l,d,y2,y3,y4,y5,rfl,s⟩:=w8 (i:=1) (body:=Gq Pt) (xE (pX h) g) (λ_ e a=>∃d y2 y3 y4 y5,e=[A,d,y2,y3,y4,y5,b]/\At a) (λ_ i e a _ n=>by
   obtain⟨d,y2,y3,y4,y5,rfl,o⟩:=n;obtain⟨t,u,v,w,x,p,q⟩:=zgl (Pt:=Pt) (ns:=ns) (k:=i) o (y2:=y2) (y3:=y3) (y4:=y4) (y5:=y5);exact⟨_,_,p,_,_,_,_,_,rfl,q⟩) ⟨KM,KM,KM,KM,KM,rfl,λc r=>by cases r⟩
 refine⟨a,?_⟩;show fin (l_ (rC (sO (b_ (m_ AA (b_ (dC (.int 1)) (b_ (m_ AI (b_ (m_ qi (b_ (a_ 0) c_)) (b_ (dC (.int ((3:Nat):Int))) c_))) c_))) c_)) (.one 1) (Gq Pt)) (pR (dC (.bl qb))) [A,KM,KM,KM,KM,KM,b] [])=_;rw[sv l];rfl
end K87
open PySem PySem.W PyProof.Rows
set_option maxRecDepth 100000 in
set_option maxHeartbeats 0 in
theorem PySem.Challenge.cw_leastterms_k87_least_smooth_forms_holds : PySem.Challenge.rw_leastterms_k87_least_smooth_forms.Holds := by
 w_on;refine mE K87.ws fun Lo=>?_;refine PySem.W.holds_openX (q:=K87.Qv) (loose:=K87.Lv) (N:=3912) (Xt:=K87.Xv) (XP:=PySem.W.XL K87.Qv []) (Yf:=(fun s=>(PySem.W.Hook.obs K87.Hk s,decide (0<s.toks)))) (Ya:=(fun w=>(PySem.W.Hook.val K87.Hk w,true))) K87.lw (fun s e=>PySem.W.xl_of s (i9.mp e).1) PySem.W.XL.keeps (by rfl) (by rfl) (by rfl) (fun s e=>PySem.W.recFacts_of (i9.mp e).2) (by rfl) (by first|assumption|decide +kernel) (by decide +kernel) ⟨rfl,rfl,rfl,rfl,rfl,by decide +kernel⟩ ?hw ?hc;(case hw=>w_witness2)
 delta K87.Hk;k_fill
 refine DL.walkU (xd := "covers") (l:=bR) (k:=28) (x := "_law_script") (F:=K87.F_law) rfl rfl ⟨rfl,by decide,by decide⟩ (PySem.W.Hook.of K87.Hk) (PySem.W.Hook.keeps K87.Hk) (fun w h Y=>PySem.W.km_in_of Y) ?R ?F K87.pure_law
 case R=>first|rfl|kernel_rfl
 case F=>
  intro w mg fa h KX G Fp
  refine' K87.all_mk KX G Fp ⟨'9','9','9','9','9','9','9','9','9','9','9','9','9','9','9','9','9','9','9','9','9','9','9','9','9','9','9','9','9','9','9','9','9','9','9','9','9','9','9','9','9','9','9','9','9','9','9','9',bC KX G ?_,bC KX G ?_,bC KX G ?_,bC KX G ?_,bC KX G ?_,bC KX G ?_,bC KX G ?_,bC KX G ?_,bC KX G ?_,bC KX G ?_,bC KX G ?_,bC KX G ?_,bC KX G ?_,bC KX G ?_,bC KX G ?_,bC KX G ?_,bC KX G ?_,bC KX G ?_,K87.gs_mk KX G ?_,K87.gt_mk KX G ?_ ?_ ?_ ?_,K87.gu_mk KX G ?_ ?_ ?_⟩ ?Ha ?Hl ?_ ?_ ?Ha2 ?Hl2 ?_ ?_ ?Gh4 ?Gh5 ?_
  (case' Ha|Hl|Ha2|Hl2|Gh4=>k_is)
  (case Gh5=>rfl)
  all_goals first|k_is|kernel_rfl|rfl|skip
end
