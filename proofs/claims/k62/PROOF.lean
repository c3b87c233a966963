import PyProof.Rows.All
import Wide.All
import OpenK.AllK
import Wide.FinOn
import Lean
import PyProof.EqAt
import PyProof.EqKinds
import PyProof.TupleCall
import PySem.Challenge.RW_leastterms_k62_least_shared_forms
noncomputable section
set_option compiler.extract_closed false
set_option Elab.async false
set_option linter.all false
set_option autoImplicit true
set_option relaxedAutoImplicit true
set_option maxRecDepth 100000
open PySem renaming wpAny_bind->aa,Value->ae,Addr->af,wpAny_pure->ah,Shared->ai,wpAny->aq,model->av,Str->aA,starEach->aL,sizeLine->aM,Program->aU,Heap->aX,World->be,Expr->bi,bootBuiltins->bA,Around->bD,wpAny_holding->bI,wpAny_setField_rec->bQ,wpAny_field->bV,mem_of_lookup->bZ,mainGlobals->b9,foldedSetIterable->cb,wpAny_call_entry->cj,rawInt->cr,Paired->cy,wpAny_callSpecial?_slot->cB,wpAny_newObj_type->cF,wpAny_mono->cG,cellsFrom->cI,wpAny_seqItems->cJ,Comprehension->cL,compareOp->cN,wpAny_truthy_bool->cZ,codeAny_builtin->dD,importedModules->dO,Builtin->dQ,Scope->dS,wpAny_rule->dU,plainId_quiet->d7,wpAny_letGo->eu,wpAny_tryCatch->eC,wpAny_updateSeq->eJ,Stmt->eO,PyData->eQ,binaryOp->e8,FuncData->fj,wpAny_pyIter_list->fv,wpAny_standAt->fx,wpAny_askSetting->fD,codeAny_mono->fM,wpAny_passesOwn->fT,wpAny_attempt->f6,IsPair->f9,wpAny_setState_of->gc,wpAny_with_toks->gq,Keyword->gK,NameKind->gU,wpAny_newList->hJ,OsState->hW,wpAny_Call_Name_kw->im,IsEnum->iu,assignEach->iz,wpAny_newTuple->iB,wpAny_assign_Name->iC,wpAny_of_eq->iG,wpAny_isInstance->iQ,exec_Assign_Name_used->iU,Params->iX,wpAny_execs_nil->iY,IsPart->iZ,codeAny_of_tree->i3,pushCells_keeps->i4,wpAny_updateSeq_pair->i7,wpAny_setEntries_of->jk,wpAny_setField->jq,ElemsOf->js,isSubtype_type->jt,PassesOwn->jA,Arguments->jB,tupleKind_room_in1->jC,wpAny_onRaise->jN,wpAny_pyIter_slot->jU,fits_of_scanBound->jX,wpAny_call->jY,IsZip->j3,wpAny_getItem_of->j9,Walks->kJ,sizeLine_eq->kM,wpAny_isTrue_Compare1->kU,BindsTo->kW,concat_meets->kY,intText?->lh,isSubtype_stop->lj,builtinLookup_eq_fast->lB,wpAny_loadName_local->lE,codeAny_call_builtin->lG,swapsWithSole->lN,swappedStores->lO,wpAny_loadName_cell->lU,nums_intItems->lW,wpAny_typeOf->l8,wpAny_pyIter_tuple->mi,pushCells->ml,seqIndex_of->mX,GenState->m9,SetTable->nv
open Option renaming some->JU,none->J9
open Bool renaming true->Ka,false->Kb
abbrev Kd:=@if_pos
abbrev Kf:=@if_neg
open PyProof.Rows renaming arrOf->Kg
open PyProof.Rows renaming pendingOf->Ki
local macro_rules|`(⇑$e)=>`(by simpa using $e)
local macro_rules|`('1')=>`(by walk_at "s")
local macro_rules|`('2')=>`(by walk_at "e")
local macro_rules|`('3')=>`(by walk_at "u")
local macro_rules|`('4')=>`(by walk_at "le")
set_option hygiene false in
local macro_rules|`('5')=>`(K62.fa_mk KX G ?_ ?_ ?_ ?_)
local macro_rules|`('d')=>`(by lia)
local macro_rules|`('k')=>`(by simp)
local macro_rules|`('u')=>`(by decide)
local macro_rules|`('b')=>`(by kernel_rfl)
local macro_rules|`('c')=>`(by decide +kernel)
open PySem.Heap renaming get?_push_of_some->ab,get?_push_size->aB,lt_size->aG,get?_update_other->bC,get?_update_self->bR,size_push->cx,SameBut->dr,ExtBut->jy
open List renaming mem_cons_of_mem->ag,mem_cons_self->al,mem_cons->am,getElem?_eq_some_iff->ao,length_map->ar,getElem?_eq_getElem->au,mem_map->ay,mem_append_right->az,length_append->aC,all_eq_true->aD,getElem?_append_left->aH,mem_of_getElem?->aJ,range->aN,mem_append->aO,getElem?_eq_none_iff->aP,replicate->aR,size_toArray->aS,length_cons->aV,getElem?_map->aZ,mem_range->ba,contains_iff_mem->bb,getElem?_set_ne->bg,getElem?_append_right->bj,append_assoc->bq,length_filter_le->bu,map_map->bw,getD_eq_getElem?_getD->bz,not_mem_nil->bB,mem_filter->bE,nodup_cons->bF,map_cons->bH,mem_append_left->bK,length_take->bL,length_range->bS,getElem_mem->bT,getElem?_set_self->bU,append_nil->bX,pairwise_cons->cg,take_append_drop->cm,pairwise_append->cw,mem_singleton->cA,length_drop->cD,mem_of_mem_take->cH,map_append->cK,length_eq_zero_iff->cO,mem_iff_getElem->cQ,take_of_length_le->cT,perm_append_comm->cY,take_sublist->de,filter_cons_of_neg->di,filter_cons_of_pos->dj,mem_of_mem_drop->dB,drop_eq_getElem_cons->dH,flatMap_cons->dI,drop_sublist->dJ,length_set->d9,filter_cons->eo,nodup_append->eD,map_inj_left->eE,take_length->e9,getElem_map->fe,drop_drop->fg,take_succ->fh,find?_cons->fk,nil_append->fq,drop_append_of_le_length->fz,filterMap_cons->fA,lookup_cons->fE,any_eq_true->fF,drop_of_length_le->fK,set_set->fR,foldl_cons->fY,pairwise_iff_getElem->gf,getElem?_take_of_lt->gj,filter_sublist->gm,getElem?_replicate->gp,length_nil->gr,find?_cons_of_neg->gC,pairwise_map->gH,length_singleton->gL,nodup_nil->gN,take_take->gO,lt_irrefl->gP,cons_append->gW,mem_reverse->gX,mem_flatMap->gZ,any_cons->g8,forIn_cons->ig,mem_or_eq_of_mem_set->ik,mem_filterMap->il,getElem?_take->iq,not_lt->iH,find?_cons_of_pos->iI,filter_eq_nil_iff->iJ,all_cons->iM,zipIdx_cons->iP,map_nil->i0,getElem?_range->jg,map_congr_left->jh,filter_eq_self->ji,flatMap_append->jl,map->ju,countP_eq_length_filter->jv,zip_cons_cons->jF,getElem?_take_eq_none->jQ,lt_trans->jR,length_eraseIdx_of_lt->jS,flatten_cons->jV,ext_getElem?->jW,extract_eq_take_drop->j4,getElem_inj->j7,le_antisymm->kl,pairwise_singleton->kC,of_mem_zip->kF,length_zip->kK,length->kN,length_replicate->kX,getElem?_toArray->lf,forIn_nil->lg,drop_zero->lp,set_append_right->lq,cons_lt_cons_iff->lu,getElem_of_mem->lV,length_take_le->lX,map_eq_nil_iff->lY,set_cons_zero->mo,filter_append->mz,reverse_cons->mE,getElem_take->mP,getElem_drop->mQ,reverse_perm->mR,any_eq_false->mW,map_id->mZ,all_toArray->np,drop_length->ny,isEmpty_iff->nD,flatMap_nil->nE,map_flatMap->nF,zipIdx_nil->nQ,range_succ->nR,drop_take->n8,drop_left->n9,take_left->oa,take_zero->oi,take_add->on,sum_cons->oC
open False renaming elim->aj
open PySem.W renaming Frag->ak,mg_none_of->bJ,fnOf->ck,boot_heap->cM,keepIn->cU,kla_fn->ez,findIn->fB,codeIn->fC,nsIn->gM,mg_of->hV,cellsFrom_some->iF,InstAt->jm,noTabs->jo,tabIn->jM,specialIn->jT,kla_obj->kG,kitOne->lc,mroIn->lP,ofPys->lQ,OpenLaw->l9,ofPy->me,SharedT->mB,holds_law->mC,kitx_bool->mK,kitx_list->mL,kitx_dict->mM,plainGet->ng,instObj->nK,takesIn->nM,kitAny->nY,CodeHd->nZ,tabObj->n6,isFn->oD
open Nat renaming le_refl->aw,le_trans->aI,lt_of_lt_of_le->aW,ne_of_lt->bo,lt_irrefl->bM,zero_le->bO,lt_succ_self->cE,pow_le_pow_right->cR,lt_succ_of_lt->dg,add_sub_cancel_left->dh,succ_pos->dq,ne_of_gt->dZ,lt_of_le_of_lt->ei,zero_max->er,testBit_lt_two_pow->eS,le_succ->fi,min_eq_left->gz,le_of_lt->gJ,le_of_ble_eq_true->gQ,le_add_right->iN,le_of_eq->i6,exists_testBit_of_ne_zero->jd,add_le_add_left->jf,testBit_two_pow_sub_one->jG,sub_self->kh,zero_add->ki,min_self->kn,succ_le_succ->kr,lt_or_ge->kw,testBit_and->kL,eq_of_testBit_eq->lL,add_assoc->lS,add_comm->mj,add_zero->mn,le_of_succ_le->mH,lt_of_succ_lt->mV,zero_testBit->nG,not_lt->nN,one_ne_zero->nT,le_antisymm->nU,and_le_left->nW
open Array renaming length_toList->aE,getElem?_eq_getElem->aQ,toList_append->ci,size_push->cC,getElem?_toList->dN,perm_iff_toList_perm->d6,toList_push->fw,getElem_toList->gg,size_append->gD,map->gR,toList_setIfInBounds->jO,getElem?_eq_some_iff->jP,size_setIfInBounds->kg,getElem?_eq_none->kT,size_map->lr,mk->lD,toList_extract->lH,toList_reverse->lI,append_assoc->lZ,toList->l5,toList_inj->nq,toList_map->nu,size_zip->og
open PyProof.Rows renaming wpS_bind->aF,wpS_pure->aK,KeyKind->aY,Keyed->bh,SortSt->cu,wpS_forRange->cV,wpS_mono->dW,envOfC->d8,slot_tuple_getitem->fJ,callWith_type1->fL,wpS_modify->ge,StrsAre->gA,wpS_get->h9,AllBare->iy,listUpdate_at->iK,listItems_at->ja,KeysOf->jj,wpS_lift->jr,seqEpoch_at->jz,SortedToK->jE,KK_mirror_equal->kH,entry_list_sort->kI,subscriptTail_builtinR->kP,wpS_reverse->kR,IntsAre->kZ,slot_list_sort->lz,args_list_sort->lA,Call_->lC,strKind_oneLt->lT,plain_sorted->mq,entry_sorted->mr,args_sorted1->mw,kind_sorted->mY
open Bool renaming and_eq_true->aT,false_ne_true->cz,false_eq_true->cS,eq_iff_iff->ee,or_eq_true->fV,not_eq_true'->gF,or_eq_false_iff->gY,true_and->hU,false_and->iA,and_eq_false_iff->iV,and_eq_true_iff->jb,false_or->jL,not_true->oA,and_true->oB
open PySem.PyData renaming eqv->br,list->fy,eqvAll->f8,tuple->ip,canLay0->jn,int->jK,depth->mm,canLayAll0->mJ,depthAll->nO
open PySem.Obj renaming mapSeq->bG,data_mapFields->ir,isFreed_of_fields->li,putSet->lK,cls_mapFields->mN
open Ne renaming symm->bN
open PySem.F renaming plain_min_loop->bP,entry_min_loop->eR,slot_str_ascii_iterator_next->ft,slot_enumerate_next->fW,slot_tuple_iterator_next->f7,called_set->gk,slot_dict_getitem->ie,args_str_ascii_iterator_next_1->iO,entry_str_ascii_iterator_next->iW,slot_zip_next->i8,args_tuple_iterator_next_1->jp,entry_tuple_iterator_next->jD,slot_dict_delitem->jZ,args_tuple_add_2->j8,entry_tuple_add->kz,plainAttrs_list->kA,args_enumerate_next_1->kB,slot_tuple_add->kO,entry_enumerate_next->kQ,slot_list_append->k8,slot_enumerate_iter->ll,slot_list_extend->ln,attr_ValueError->mG,args_zip_next_1->mO,plain_min->mT,entry_min->mU,entry_zip_next->nk,kind_min->nB
open Option.some renaming inj->cf
open PySem.Builtin.SmallTypes renaming nextOf->cn,ownedTupleIsFree->eB,ownedTupleHandOut->fO
open PySem.Builtin.Str renaming occurrences->cq
open Int renaming toNat_natCast->cP,fdiv_eq_ediv_of_nonneg->jJ,le_refl->m7
open PySem.Heap.SameBut renaming update->cX
open PySem.Builtin renaming bitNot->dk,bitAnd->dM
open PySem.Around renaming under_plainId->dE,frames_deeper->lF
open PySem.NameKind renaming free->dL,cell->d0
open Sum renaming inr->dR,inl->eN
open PySem.Value renaming ref->ef,type->eU,isStrOf->fZ,none->gT,builtin->g9,isInt->iE,isStrOf_shape->je,str->kE,bool->nJ,int->oj
open True renaming intro->eV
open List.Pairwise renaming nil->fu
open List.Perm renaming refl->fG,append_left->fX
open PySem.SetTable renaming below->fH,grown->gh,fits->oz
open And renaming intro->fN
open PyProof.Rows.F renaming plain_set_update_loop->fP,entry_set_update_loop->iw
open PySem.Builtin.Builtins renaming bindParams->fQ
open Option renaming map_some->fU,isSome_iff_exists->gi,map_eq_some_iff->iD,none->jx,isSome_some->mh,isSome_map->mF,getD_none->nj,map->nH
open PySem.Builtin.Slice renaming slicePlaces->gd,sliceAdjust->ic
open ForInStep renaming yield->gu
open PyProof.Rows.KeyOrd renaming kle_of_klt->gE,kle_trans->iS
open PySem.Str renaming ofString->g7
open PySem.Calls renaming call_function_entry->ij,Name_function_global->jI,spliced_cons->l7,spliced_nil->mD
open PySem.Builtin.List renaming listTooLong->io,listSameRef->km,listItems->kS
open PySem.Walks renaming list->i5
open Array.Perm renaming refl->i9
open PySem.PassesOwn renaming never->jc
open Sum.inr renaming inj->jw
open PySem.Paired renaming length->jH,snoc->oK
open PySem.Builtin.ObjectAttr renaming bindTo->j0
open Classical renaming byContradiction->j5
open Prod renaming ext->j6
open PySem.SeqAt.EqAt renaming int_int->ku
open PyProof.Rows.SortSt renaming mk'->lJ
open PySem.Code renaming compLoop->lR,compStart->nX
open PySem.pickOrder renaming go->mx
open Nat.succ renaming inj->my
open PySem.SetTable.below renaming go->mS
open List.cons renaming injEq->nV
open PySem.Builtin.Frozenset renaming updateFrom->oh,newClass->ou,slot0->oG
open PySem.W.WData renaming int->om
open PySem.Shared renaming TypeIs->oy
open PySem.SeqAt renaming shaped->oE
open PySem.Flow renaming ret->oF
open PySem.W.OpenRow renaming toRowW->oH
open Prod.mk renaming inj->oJ
open PySem.Heap.IsSliceOf renaming new->oM
namespace K62
open PySem PySem.W
noncomputable def ty(i:Nat):eO:=PySem.Challenge.pw_leastterms_k62_least_shared_forms.main.body.getD i (.Pass ⟨0,0,0,0⟩)
def Qv:aU:={ PySem.Challenge.pw_leastterms_k62_least_shared_forms with main:={ PySem.Challenge.pw_leastterms_k62_least_shared_forms.main with body:=[ty 1,ty 2,ty 4,ty 5,ty 7,ty 8,ty 9,ty 10,ty 11,ty 13,ty 14,ty 15,ty 16,ty 17,ty 18,ty 20,ty 22,ty 23,ty 24,ty 25,ty 27,ty 28,ty 29,ty 30,ty 31,ty 32,ty 33,ty 34,ty 35,ty 36,ty 38,ty 39,ty 40,ty 41,ty 42,ty 43,ty 44,ty 45,ty 46,ty 47,ty 48,ty 49,ty 50,ty 51,ty 52,ty 53,ty 54,ty 55,ty 56,ty 57,ty 58,ty 59] } }
def Lv:List aA:=[g7 "SWITCHES_BY_POINTS"]
def Xv:ai → Bool:=λs=>PySem.W.xlAt Qv [] s&&PySem.W.recOk (PySem.W.RowW.records (oH PySem.Challenge.rw_leastterms_k62_least_shared_forms.row)) s
def bY{α β a:Type}{x:Option α}{f:α → β}{g:α → a}{b:β}{c:a}(d:x.map f=JU b)(e:x.map g=JU c):x.map (λs=>(f s,g s))=JU (b,c):=by
  cases x with
  |none=>cases d
  | some s=>
    have h:f s=b:=cf d;have i:g s=c:=cf e;show JU (f s,g s)=_;rw[h,i]
end K62
section
open PySem PySem.W PyProof.Rows
set_option maxRecDepth 100000 in
def K62.ws:PySem.Challenge.rw_leastterms_k62_least_shared_forms.wellSaid=Ka:=by kernel_rfl
local macro_rules|`(tactic| o_head $H)=>`(tactic| skip)
set_option maxRecDepth 100000 in
set_option maxHeartbeats 0 in
def K62.hp:False → PySem.Challenge.rw_leastterms_k62_least_shared_forms.Holds:=by
  intro a
  w_on;refine mC K62.ws λb=>?_;k_head
  all_goals exact a.elim
end

namespace DLT
open PySem PySem.W
noncomputable def pL(tb:String → Option dQ)(p:aU)(w:be)(m:Nat)(an:Option ae):Nat → mB → Thread → Option mB
  |0,_,_=>J9
  | k+1,a,th=>match through th with
    |true=>JU a
    | false=>match stepOk m an th with
      |false=>J9
      | true=>match stepT (denote tb) p w a th with
        |some (b,VQ)=>pL tb p w m an k b VQ
        |none=>J9
theorem pS{d:String → Option dQ}{p:aU}{w:be}{m:Nat}{e:Option ae}:∀{k:Nat}{a z:mB}{c:Thread},pL d p w m e k a c=JU z → topRun d p w m e k a.abs c=JU z.abs
  |0,_,_,_,H=>by cases H
  | k+1,a,z,c,H=>by
    unfold pL at H;unfold topRun;cases g:through c with
    |true=>rw[g] at H;cases H;rfl
    | false=>
      rw[g] at H;cases h:stepOk m e c with
      |false=>rw[h] at H;cases H
      | true=>
        rw[h] at H;cases f:stepT (denote d) p w a c with
        |none=>rw[f] at H;cases H
        |some q=>obtain⟨b,i⟩:=q;rw[f] at H;rw[stepT_spec f];exact pS H
def pT:Nat → BT → List Obj → BT
  |_,T,[]=>T
  |i,T,o::os=>pT (i+1) (T.ins i o) os
noncomputable def pO(P:iX):BT:=pT 0 .nil (cM P).objs.toList
def boot_abs:∀P:iX,absHeap (pO P) (cM P).objs.size (cM P).life=cM P:=λP=>by kernel_rfl
noncomputable def J3(P:iX)(os:hW):mB:=⟨pO P,(cM P).objs.size,(cM P).life,lD [],boot_drawn,boot_toks,os⟩
noncomputable def s0(P:iX)(os:hW):ai:=⟨cM P,lD [],boot_drawn,boot_toks,os⟩
def pX(P:iX)(a:hW):(J3 P a).abs=s0 P a:=by unfold J3 s0 SharedT.abs;rw[boot_abs P]
def pR:∀P:iX,((cM P).isNs b9&&(lD []:Array m9).size==0,(cM P).objs.size,(cM P).nsMap b9 "__annotations__")=(Ka,11,JU (.ref 6)):=λP=>by kernel_rfl
def chk(p:aU)(h:aX)(s:ai):Bool:=staticsOk (dO p.main.body) h s.heap&&namesBound p s.heap&&gensDone s&&laidKept h s.heap
def pP{p:aU}{w:be}{P:iX}{b:hW}{N:Nat}{α:Type}{f:ai → α}{a:α}(h:(pL treeTable p w 11 (JU (.ref 6)) N (J3 P b) (topStub p)).map (λs=>(chk p (cM P) s.abs,f s.abs))=JU (Ka,a)):(topFrom treeTable p w N (s0 P b)).map f=JU a:=by
  obtain⟨s,e,d⟩:=iD.mp h;have r:=pS e;rw[pX] at r;obtain⟨g,i,j⟩:_ ∧ _ ∧ _:=by simpa only[Prod.mk.injEq] using pR P
  obtain⟨l,m⟩:=oJ d;unfold topFrom;show nH f (match (cM P).isNs b9&&(lD []:Array m9).size==0 with
    | true=>(topRun treeTable p w (cM P).objs.size ((cM P).nsMap b9 "__annotations__") N (s0 P b) (topStub p)).bind λc=>match chk p (cM P) c with
      |true=>JU c
      |false=>J9
    |false=>J9)=JU a
  rw[g,i,j,r];show nH f (match chk p (cM P) s.abs with
      |true=>JU s.abs
      |false=>J9)=JU a
  rw[l];exact congrArg JU m
def pY{α β a e:Type}{x:Option α}{f:α → β×a}{g:α → e}{b:β}{c:a}{d:e}(h:x.map (λs=>((f s).1,g s))=JU (b,d))(i:x.map (λs=>(f s).2)=JU c):x.map (λs=>(f s,g s))=JU ((b,c),d):=by
  cases x with
  |none=>cases h
  | some s=>
    obtain⟨j,l⟩:=oJ (cf h);have m:(f s).2=c:=cf i;exact congrArg JU (j6 (j6 j m) l)
noncomputable abbrev R(p:aU)(N:Nat)(w:be)(P:iX)(os:hW):Option mB:=pL treeTable p w 11 (JU (.ref 6)) N (J3 P os) (topStub p)
def left_of{p q:aU}{loose:List aA}{Xt:ai → Bool}{α:Type}{Yf:ai → α}{Ya:be → α}{N:Nat}{b:Bool}(a:String)(e:opening p=plainProg p.main.scope.names)(i:Nat.ble 600 N=Ka)(j:∀s,fenceModules? p s=JU s)
    (l:∀(v:Bool)(w:be)(c:hW),(R p N (w.withFollow a v) w.params c).map (λs=>(chk p (cM w.params) s.abs,((openSeen q loose (dO p.main.body) Xt b s.abs).1,Yf s.abs)))=JU (Ka,(openGood q loose).1,Ya (w.withFollow a v)))
    (m:∀(v:Bool)(w:be)(c:hW),(R p N (w.withFollow a v) w.params c).map (λs=>(chk p (cM w.params) s.abs,(openSeen q loose (dO p.main.body) Xt b s.abs).2))=JU (Ka,(openGood q loose).2)):
    LeftO p q loose Xt Yf Ya N b:=LeftO.of_split a λw=>by
  obtain⟨⟨h,n,d,k,c⟩,x,y⟩:=iD.mp (boot_open e i j w);obtain⟨rfl,rfl,rfl,rfl⟩:h=cM w.params ∧ n=lD [] ∧ d=boot_drawn ∧ k=boot_toks:=⇑y
  rw[x];have go (v:Bool):(topFrom treeTable p (w.withFollow a v) N (s0 w.params c)).map (λs=>(openSeen q loose (dO p.main.body) Xt b s,Yf s))=JU (openGood q loose,Ya (w.withFollow a v)):=
    pY (f:=λs=>openSeen q loose (dO p.main.body) Xt b s) (g:=Yf) (pP (f:=λs=>((openSeen q loose (dO p.main.body) Xt b s).1,Yf s)) (l v w c)) (pP (f:=λs=>(openSeen q loose (dO p.main.body) Xt b s).2) (m v w c))
  exact congrArg JU (j6 (go Kb) (go Ka))
end DLT

namespace K62
open PySem PySem.W
abbrev As:List af:=[2,3,15,22,23,24,25,28,35,36,37,40,42,43,45,46,47,49,50,52,53,54,55,57,58,60,61,62,65,66,67,69,70,72,73,74,77,78,79,82,83,84,86,87,89,90,91,94,95,96,98,99,101,102,103,105,106,108,109,110,113,114,115,118,119,120,123,124,125,128,129,130,133,134,135,138,139,140,142,143,145,146,147,150,151,152,155,156,157,160,161,162,165,166,167,170,171,172,175,176,177,179,180,182,183,184,186,187,189,190,191,193,194,196,197,198,201,202,203,205,206,208,209,210,212,213,215,216,217,220,221,222,225,226,227,229,230,232,233,234,236,237,239,240,241,244,245,246,249,250,251,254,255,256,259,260,261,263,264,266,267,268,271,272,273,276,277,278,281,282,283,285,286,288,289,290,293,294,295,297,298,300,301,302,305,306,307,309,310,312,313]
noncomputable def Hk:PySem.W.Hook:=PySem.W.kmHook K62.hp.heap_1 K62.As (λ_=>by kernel_rfl) [126]
abbrev Pg:aU:=PySem.Challenge.rw_leastterms_k62_least_shared_forms.row.prog
set_option maxRecDepth 100000 in
def la1:∀(w:be)(a:hW),(DLT.R Pg 3860 (w.withFollow "special-get-raises" Kb) w.params a).map (λs=>(DLT.chk Pg (cM w.params) s.abs,((openSeen Qv Lv (dO Pg.main.body) Xv Ka s.abs).1,(Hk.obs s.abs,decide (0<s.abs.toks)))))=JU (Ka,((openGood Qv Lv).1,(Hk.val (w.withFollow "special-get-raises" Kb),Ka))):=λw a=>by kernel_rfl
set_option maxRecDepth 100000 in
def J8:∀(w:be)(a:hW),(DLT.R Pg 3860 (w.withFollow "special-get-raises" Kb) w.params a).map (λs=>(DLT.chk Pg (cM w.params) s.abs,(openSeen Qv Lv (dO Pg.main.body) Xv Ka s.abs).2))=JU (Ka,(openGood Qv Lv).2):=λw a=>by kernel_rfl
set_option maxRecDepth 100000 in
def lb1:∀(w:be)(a:hW),(DLT.R Pg 3860 (w.withFollow "special-get-raises" Ka) w.params a).map (λs=>(DLT.chk Pg (cM w.params) s.abs,((openSeen Qv Lv (dO Pg.main.body) Xv Ka s.abs).1,(Hk.obs s.abs,decide (0<s.abs.toks)))))=JU (Ka,((openGood Qv Lv).1,(Hk.val (w.withFollow "special-get-raises" Ka),Ka))):=λw a=>by kernel_rfl
set_option maxRecDepth 100000 in
def lb2:∀(w:be)(a:hW),(DLT.R Pg 3860 (w.withFollow "special-get-raises" Ka) w.params a).map (λs=>(DLT.chk Pg (cM w.params) s.abs,(openSeen Qv Lv (dO Pg.main.body) Xv Ka s.abs).2))=JU (Ka,(openGood Qv Lv).2):=λw a=>by kernel_rfl
def lw:PySem.W.LeftO Pg Qv Lv Xv (λs=>(Hk.obs s,decide (0<s.toks))) (λw=>(Hk.val w,Ka)) 3860:=DLT.left_of "special-get-raises" rfl rfl (λ_=>rfl) (λv=>match v with|false=>la1|true=>lb1) (λv=>match v with|false=>J8|true=>lb2)
end K62

abbrev k_:=List Nat
abbrev l_:=List k_
-- P9: your VW module here, as the last of VP rows
namespace L2
open PySem PySem.Spec PyProof.Rows
abbrev Key:=Sum Int aA
def Eg:Key->ae->Bool
 |.inl k,v=>iE k v
 |.inr x,v=>fZ x v
noncomputable def Xf(w:be):Key->Int
 |.inl k=>hashInt k
 |.inr x=>hashStr w x
def Al:∀{k}{v},Eg k v=Ka->(∃i t,k=eN i/\v=oj i t)\/(∃x t,k=dR x/\v=kE x t)
 | .inl i,v,h=>by
  obtain⟨t,e⟩:=Value.isInt_shape h;exact .inl ⟨i,t,rfl,e⟩
 | .inr x,v,h=>by
  obtain⟨t,e⟩:=je h;exact .inr ⟨x,t,rfl,e⟩
def zc7(i)(t):Eg (.inl i) (.int i t)=Ka:=by simp[Eg,iE]
def zbL(x)(t):Eg (.inr x) (.str x t)=Ka:=by simp[Eg,fZ]
def Zf(a b):decide ((eN a:Key)=eN b)=(a==b):=by
 by_cases e:a=b
 ·subst e;simp
 ·have h:¬ (eN a:Key)=eN b:=λq=>e (Sum.inl.inj q);rw[decide_eq_false h];exact(beq_eq_false_iff_ne.mpr e).symm
def Y7(a b):decide ((dR a:Key)=dR b)=decide (a=b):=by
 by_cases e:a=b
 ·subst e;simp
 ·have h:¬ (dR a:Key)=dR b:=λq=>e (jw q);rw[decide_eq_false h,decide_eq_false e]
def Yu(a)(b):decide ((eN a:Key)=dR b)=Kb:=decide_eq_false (λq=>nomatch q)
def ziW(a)(b):decide ((dR a:Key)=eN b)=Kb:=decide_eq_false (λq=>nomatch q)
def u6(prog)(w):PySem.KeyKind prog w Key where
 is:=Eg
 hash:=Xf w
 inj:=λv a b ha hb=>by
  rcases Al ha with⟨i,t,rfl,rfl⟩|⟨x,t,rfl,rfl⟩
  ·rcases Al hb with⟨j,u,rfl,e⟩|⟨y,u,rfl,e⟩
   ·injection e with e1 _;rw[e1]
   ·exact nomatch e
  ·rcases Al hb with⟨j,u,rfl,e⟩|⟨y,u,rfl,e⟩
   ·exact nomatch e
   ·injection e with e1 _;rw[e1]
 byValue:=λk v h=>by
  rcases Al h with⟨i,t,rfl,rfl⟩|⟨x,t,rfl,rfl⟩<;>rfl
 pyHash:=λhv h=>by
  rcases Al hv with⟨i,t,rfl,rfl⟩|⟨x,t,rfl,rfl⟩
  ·exact wpAny_pyHash_int h
  ·exact wpAny_pyHash_str h
 eqBool:=λhu hv h=>by
  rcases Al hu with⟨i,t,rfl,rfl⟩|⟨x,t,rfl,rfl⟩
  ·rcases Al hv with⟨j,u,rfl,rfl⟩|⟨y,u,rfl,rfl⟩
   ·rw[Zf] at h;exact wpAny_eqBool_int h
   ·rw[Yu] at h;exact SeqAt.EqAt.int_str i t y u _ _ _ _ h
  ·rcases Al hv with⟨j,u,rfl,rfl⟩|⟨y,u,rfl,rfl⟩
   ·rw[ziW] at h;exact SeqAt.EqAt.str_int x t j u _ _ _ _ h
   ·rw[Y7] at h;exact wpAny_eqBool_str h
 «strs»:=λk x t v h=>by
  rcases Al h with⟨i,u,rfl,e⟩|⟨y,u,rfl,e⟩
  ·exact nomatch e
  ·injection e with e1 _;subst e1;cases v<;>rfl
def z8m(prog)(w)(i)(t):(u6 prog w).is (.inl i) (.int i t)=Ka:=zc7 i t
def z8H(prog)(w)(x)(t):(u6 prog w).is (.inr x) (.str x t)=Ka:=zbL x t
inductive V where
 |non|bl (b:Bool)|int (i:Int)|str (x:aA)|byt (b:Array UInt8)|flt (b:UInt64)|ref (a:af)|ty (n:String)
 deriving DecidableEq
def RelV:V->ae->Prop
 |.non,u=>u=gT
 |.bl b,u=>u=nJ b
 |.int i,u=>∃t,u=oj i t
 |.str x,u=>∃t,u=kE x t
 |.byt b,u=>∃t,u=Value.bytes b t
 |.flt b,u=>∃t,u=Value.float b t
 |.ref a,u=>u=ef a
 |.ty n,u=>u=eU n
abbrev oQ:List V->List ae->Prop:=cy RelV
def oQ.length{xs:List V}{a:List ae}(r:oQ xs a):xs.length=a.length:=jH r
theorem oQ.get:∀{xs:List V}{a:List ae}{i:Nat}{x:V},oQ xs a->xs[i]?=JU x->∃u,a[i]?=JU u/\RelV x u
 |_,_,_,_,.nil,e=>by simp at e
 |_,_,0,_,.cons r _,e=>by simp at e;subst e;exact⟨_,rfl,r⟩
 | _,_,i+1,x,.cons _ t,e=>by
  obtain⟨u,b,c⟩:=oQ.get t ⇑e;exact⟨u,by simpa using b,c⟩
theorem oQ.set{x:V}{u:ae}(r:RelV x u):∀{xs:List V}{a:List ae}(i:Nat),oQ xs a->oQ (xs.set i x) (a.set i u)
 |_,_,_,.nil=>.nil
 |_,_,0,.cons _ t=>.cons r t
 |_,_,i+1,.cons q t=>.cons q (oQ.set r i t)
theorem oQ.append:∀{xs a:List V}{b c:List ae},oQ xs b->oQ a c->oQ (xs++a) (b++c)
 |_,_,_,_,.nil,s=>s
 |_,_,_,_,.cons r t,s=>.cons r (oQ.append t s)
theorem oQ.take:∀{xs:List V}{a:List ae}(n:Nat),oQ xs a->oQ (xs.take n) (a.take n)
 |_,_,0,_=>.nil
 |_,_,_+1,.nil=>.nil
 |_,_,n+1,.cons r t=>.cons r (oQ.take n t)
theorem oQ.drop:∀{xs:List V}{a:List ae}(n:Nat),oQ xs a->oQ (xs.drop n) (a.drop n)
 |_,_,0,r=>r
 |_,_,_+1,.nil=>.nil
 |_,_,n+1,.cons _ t=>oQ.drop n t
def pj:Option V->Option ae->Prop
 |some v,JU u=>RelV v u
 |none,J9=>True
 |_,_=>False
def KV{κ:Type}:List (κ×V)->List (κ×ae)->Prop:=cy λ(p:κ×V)(q:κ×ae)=>p.1=q.1/\RelV p.2 q.2
def kV:Key->V
 |.inl i=>.int i
 |.inr x=>.str x
inductive HO where
 |lst (xs:List V)
 |tup (xs:List V)
 |dK (d_:List (Key×V))|dT (d_:List (List Key×V))
 |set (S:Int->Bool) (n:Nat)
 |ins (C dx:af) (fs:List (aA×V))
 |own (x:af)
 |xd (fs:List (aA×V))
 |met (f x:af)
 |rng (lo hi:Int)
 |frz (o:Obj) (u:HO)
 |tbl (ps:Array ae)
 |ext (φ:aX->Prop)
abbrev Hp:=af->Option HO
noncomputable def upd(H:Hp)(a:af)(o:HO):Hp:=λb=>if b=a then JU o else H b
def rO{H:Hp}{a:af}{o:HO}:upd H a o a=JU o:=by unfold upd;rw[Kd rfl]
def qi{H:Hp}{a b:af}{o:HO}(h:b≠a):upd H a o b=H b:=by unfold upd;rw[Kf h]
def zhn:upd (upd H a o) a u=upd H a u:=by funext b;unfold upd;split<;>rfl
def QV{H:Hp}{a b:af}{o u:HO}(h:H a=JU o)(c:H b=JU u)(d:o≠u):a≠b:=by intro e;subst e;rw[h] at c;exact d (cf c)
def sQ{H:Hp}{a b:af}{o:HO}(h:H a=JU o)(c:H b=J9):a≠b:=by intro e;subst e;rw[h] at c;cases c
def pe(h:aX)(a:af)(items:Array ae):Prop:=∃o,h.get? a=JU o/\o.cls=.type "tuple"/\(∃n,o.data=.seq items n)/\o.dict=J9
def pe.tup{h:aX}{a:af}{b:Array ae}(x:pe h a b):IsTup h a b:=let ⟨o,e,c,d,_⟩:=x;⟨o,e,c,d⟩
def pe.new(h:aX)(a:Array ae):pe (h.push { cls:=.type "tuple",data:=.seq a }) h.objs.size a:=⟨_,aB _ rfl,rfl,⟨_,rfl⟩,rfl⟩
section
variable(P:aU)(w:be)
def o0(H:Hp)(h:aX)(a:af):HO->Prop
 |.lst xs=>xs.length<=aM/\∃(e_:List ae)(n:Nat),oQ xs e_/\h.get? a=JU { cls:=.type "list",data:=.seq e_.toArray n }
 |.tup xs=>xs.length<=aM/\∃e_:List ae,oQ xs e_/\pe h a e_.toArray
 |.dK d_=>d_.length<=aM/\(a==sysModules)=Kb/\∃vs,KV d_ vs/\h.DictOf (u6 P w) a vs
 | .dT d_=>d_.length<=aM/\(a==sysModules)=Kb/\∃xs:List (List Key×af×ae),
   cy (λ(p:List Key×V)(q:List Key×af×ae)=>p.1=q.1/\H q.2.1=JU (.tup (p.1.map kV))/\RelV p.2 q.2.2) d_ xs/\
   ∃o es ep,h.get? a=JU o/\o.ExactDict/\o.data=.dict es ep/\es.toList=xs.map (entryOfKey (tupleKind (u6 P w)))/\(xs.map (·.1)).Nodup
 |.set S n=>h.SetOf (intKind P w) a S n
 | .ins C dx fs=>H dx=JU (.own a)/\fs.length<=1000/\dx≠a/\h.get? a=JU (nK C dx)/\
   ∃mA,h.Ns1 dx mA/\(∀f,pj (fs.lookup f) (mA f))/\PySem.Within mA (fs.map (·.1))
 |.own _=>∃o,h.get? a=JU o
 |.xd fs=>∃mA,h.Ns1 a mA/\∀f,pj (fs.lookup f) (mA f)
 |.rng lo hi=>∃t u v,h.get? a=JU { cls:=.type "range",data:=.fields #[.int lo t,.int hi u,.int 1 v] }
 |.frz o u=>h.get? a=JU o/\o0 H h a u
 |.tbl ps=>h.get? a=JU { cls:=.none,data:=.fields ps }
 |.met f x=>h.get? a=JU (PySem.W.methodObj (.ref f) (.ref x))
 |.ext φ=>φ h/\(∃o,h.get? a=JU o)/\∀h1 h2:aX,φ h1->(∀o,h1.get? a=JU o->h2.get? a=JU o)->φ h2
def HOk(H:Hp)(h:aX):Prop:=∀a o,H a=JU o->o0 P w H h a o
end
section
variable{P:aU}{w:be}{H H':Hp}{h h':aX}{a:af}{o:HO}
def o0.lt(x:o0 P w H h a o):a<h.objs.size:=by
 cases o with
 |lst xs=>obtain⟨_,_,_,_,e⟩:=x;exact aG e
 |tup xs=>obtain⟨_,_,_,p⟩:=x;exact(pe.tup p).lt
 |dK d_=>obtain⟨_,_,_,_,o,_,_,e,_⟩:=x;exact aG e
 |dT d_=>obtain⟨_,_,_,_,o,_,_,e,_⟩:=x;exact aG e
 |set S n=>obtain⟨o,_,_,_,e,_⟩:=x;exact aG e
 |ins C dx fs=>obtain⟨_,_,_,e,_⟩:=x;exact aG e
 |own y=>obtain⟨_,e⟩:=x;exact aG e
 |xd fs=>obtain⟨_,⟨_,_,_,e,_⟩,_⟩:=x;exact aG e
 |rng lo hi=>obtain⟨_,_,_,e⟩:=x;exact aG e
 |frz ob u=>obtain⟨e,_⟩:=x;exact aG e
 |tbl ps=>exact aG (x)
 |met f y=>exact aG (x)
 |ext φ=>obtain⟨_,⟨_,e⟩,_⟩:=x;exact aG e
theorem Paired.mapP{α β:Type}{F G:α->β->Prop}:∀{c:List α}{l₂:List β},cy F c l₂->(∀a b,F a b->G a b)->cy G c l₂
 |_,_,.nil,_=>.nil
 |_,_,.cons r t,f=>.cons (f _ _ r) (Paired.mapP t f)
def o0.stay(x:o0 P w H h a o)(k:∀b u,(b=a\/H b=JU (.own a))->h.get? b=JU u->h'.get? b=JU u)
  (B:∀b,H b=JU (.own a)->H' b=JU (.own a)) (E:∀b xs,H b=JU (.tup xs)->H' b=JU (.tup xs)):o0 P w H' h' a o:=by
 induction o with
 |lst xs=>obtain⟨z,l,n,r,e⟩:=x;exact⟨z,l,n,r,k _ _ (.inl rfl) e⟩
 |tup xs=>obtain⟨z,l,r,g,e,c⟩:=x;exact⟨z,l,r,g,k _ _ (.inl rfl) e,c⟩
 |dK d_=>obtain⟨z,y,G,r,g,i,j,e,c⟩:=x;exact⟨z,y,G,r,g,i,j,k _ _ (.inl rfl) e,c⟩
 | dT d_=>
  obtain⟨z,y,xs,r,g,i,j,e,c⟩:=x;exact⟨z,y,xs,Paired.mapP r λp q z=>⟨z.1,E _ _ z.2.1,z.2.2⟩,g,i,j,k _ _ (.inl rfl) e,c⟩
 |set S n=>obtain⟨g,i,j,t,e,c⟩:=x;exact⟨g,i,j,t,k _ _ (.inl rfl) e,c⟩
 | ins C dx fs=>
  obtain⟨d,z,I,e,m,⟨s,i,j,J,c⟩,r⟩:=x;exact⟨B _ d,z,I,k _ _ (.inl rfl) e,m,⟨s,i,j,k _ _ (.inr d) J,c⟩,r⟩
 |own y=>obtain⟨g,e⟩:=x;exact⟨g,k _ _ (.inl rfl) e⟩
 |xd fs=>obtain⟨m,⟨s,i,j,e,c⟩,r⟩:=x;exact⟨m,⟨s,i,j,k _ _ (.inl rfl) e,c⟩,r⟩
 |rng lo hi=>obtain⟨t,u,v,e⟩:=x;exact⟨t,u,v,k _ _ (.inl rfl) e⟩
 |frz g u ih=>obtain⟨e,q⟩:=x;exact⟨k _ _ (.inl rfl) e,ih q⟩
 | tbl ps=>
  have e:=x;exact k a _ (.inl rfl) e
 | met f y=>
  have e:=x;exact k a _ (.inl rfl) e
 |ext φ=>obtain⟨p,⟨o,e⟩,A⟩:=x;exact⟨A _ _ p λo q=>k _ _ (.inl rfl) q,⟨o,k _ _ (.inl rfl) e⟩,A⟩
def HOk.lt(x:HOk P w H h)(e:H a=JU o):a<h.objs.size:=(x a o e).lt
def HOk.fresh(x:HOk P w H h)(e:h.objs.size<=a):H a=J9:=by
 cases q:H a with
 |none=>rfl
 |some u=>exact absurd (aW (x.lt q) e) (bM _)
def HOk.kept(x:HOk P w H h)(k:∀b u,h.get? b=JU u->h'.get? b=JU u):HOk P w H h':=λa o e=>
 (x a o e).stay (λb u _ q=>k b u q) (λ_ q=>q) λ_ _ q=>q
def HOk.laid(x:HOk P w H h)(k:∀b u,h.get? b=JU u->h'.get? b=JU u)(i:h.objs.size<=a)(d:o0 P w (upd H a o) h' a o):HOk P w (upd H a o) h':=λb u e=>by
 have f:=x.fresh i;by_cases g:b=a
 ·subst g;rw[rO] at e;cases e;exact d
 ·rw[qi g] at e;exact(x b u e).stay (λc v _ q=>k c v q) (λc q=>by rw[qi (sQ q f)];exact q) λc j q=>by rw[qi (sQ q f)];exact q
end
def Rd(H:Hp)(a:af)(u:HO):Prop:=H a=JU u \/ ∃o,H a=JU (.frz o u)
def Rd.of(h:H a=JU u):Rd H a u:=.inl h
def Rd.ok(r:Rd H a u)(x:HOk P w H h):o0 P w H h a u:=by
 rcases r with r|⟨o,r⟩
 ·exact x a u r
 ·obtain⟨_,q⟩:=x a _ r;exact q
def HC:Option HO->Prop
 |some (.lst _)=>True
 |some (.dK _)=>True
 |some (.dT _)=>True
 |some (.set _ _)=>True
 |some (.ins _ _ _)=>True
 |some (.ext _)=>True
 |_=>False
section
variable{P:aU}{w:be}{H:Hp}{h h':aX}{x e:af}{o':HO}
def HOk.write(ok:HOk P w H h)(a:HC (H x))(j:e=x\/H e=JU (.own x))(k:∀b u,b≠e->h.get? b=JU u->h'.get? b=JU u)(n:∃u,h'.get? e=JU u)
  (i:o0 P w (upd H x o') h' x o'):HOk P w (upd H x o') h':=λb u q=>by
 have l:∀c y,H c=JU (.own y)->c≠x:=λc y r z=>by subst z;rw[r] at a;exact a
 have o:∀c d,H c=JU (.tup d)->c≠x:=λc d r z=>by subst z;rw[r] at a;exact a
 by_cases f:b=x
 ·subst f;rw[rO] at q;cases q;exact i
 ·rw[qi f] at q;by_cases g:b=e
  ·have m:H b=JU (.own x):=by
    rcases j with z|z
    ·exact absurd (g.trans z) f
    ·rw[g];exact z
   rw[q] at m;cases m;obtain⟨v,p⟩:=n;exact⟨v,by rw[g];exact p⟩
  ·refine(ok b u q).stay (λc v hc r=>k c v ?_ r) (λc r=>by rw[qi (l c b r)];exact r) λc d r=>by rw[qi (o c d r)];exact r
   rcases hc with rfl|hc
   ·exact g
   ·rintro rfl;rcases j with z|z
    ·exact l c b hc z
    ·rw[hc] at z;cases z;exact f rfl
end
structure Un(fs ex:List af)(H H':Hp)(h h':aX):Prop where
 keep:∀b o,h.get? b=JU o->H b=J9->b∉fs->b∉ex->h'.get? b=JU o
 slot:∀b o,h.get? b=JU o->H b=J9->b∈fs->b∉ex->∃sl,h'.get? b=JU { o with slots:=sl }
 free:∀b o,h.get? b=JU o->H b=J9->b∉ex->H' b=J9
 there:∀b o,h.get? b=JU o->b∉ex->∃o',h'.get? b=JU o'
 tups:∀b xs,H b=JU (.tup xs)->H' b=JU (.tup xs)
 frzs:∀b o u,H b=JU (.frz o u)->H' b=JU (.frz o u)
 tbls:∀b ps,H b=JU (.tbl ps)->∃more,H' b=JU (.tbl (ps++more))
section
variable{fs Hr ex WQ:List af}{H H1 H2:Hp}{h h1 h2 h':aX}{a x e:af}{o:HO}
def Un.any(u:Un fs ex H H1 h h1){b:af}{c:Obj}(q:h.get? b=JU c)(n:H b=J9)(d:b∉ex):∃g,h1.get? b=JU { c with slots:=g }:=by
 by_cases f:b∈fs
 ·exact u.slot b c q n f d
 ·exact⟨c.slots,u.keep b c q n f d⟩
def Un.trans(a:Un fs ex H H1 h h1)(b:Un fs ex H1 H2 h1 h2):Un fs ex H H2 h h2 where
 keep:=λc d q n i f=>b.keep c d (a.keep c d q n i f) (a.free c d q n f) i f
 slot:=λc d q n i f=>by
  obtain⟨u,g⟩:=a.slot c d q n i f;obtain⟨p,l⟩:=b.slot c _ g (a.free c d q n f) i f;exact⟨p,l⟩
 free:=λc d q n f=>by
  obtain⟨m,g⟩:=a.there c d q f;exact b.free c m g (a.free c d q n f) f
 there:=λc d q f=>by
  obtain⟨m,g⟩:=a.there c d q f;exact b.there c m g f
 tups:=λc j q=>b.tups c j (a.tups c j q)
 frzs:=λc d j q=>b.frzs c d j (a.frzs c d j q)
 tbls:=λc r q=>by
  obtain⟨s,g⟩:=a.tbls c r q;obtain⟨t,l⟩:=b.tbls c _ g;exact⟨s++t,by rw[l,lZ]⟩
def Un.kept(k:∀b u,h.get? b=JU u->h'.get? b=JU u):Un fs ex H H h h':=
 ⟨λb c q _ _ _=>k b c q,λb c q _ _ _=>⟨c.slots,k b c q⟩,λ_ _ _ n _=>n,λb c q _=>⟨c,k b c q⟩,λ_ _ q=>q,λ_ _ _ q=>q,λ_ d q=>⟨#[],by rw[q];simp⟩⟩
def Un.refl:Un fs ex H H h h:=Un.kept λ_ _ q=>q
def Un.laid(k:∀b u,h.get? b=JU u->h'.get? b=JU u)(d:h.objs.size<=a)(c:H a=J9):Un fs ex H (upd H a o) h h' where
 keep:=λb u q _ _ _=>k b u q
 slot:=λb u q _ _ _=>⟨u.slots,k b u q⟩
 free:=λb u q n _=>by rw[qi (bo (aW (aG q) d))];exact n
 there:=λb u q _=>⟨u,k b u q⟩
 tups:=λb f q=>by rw[qi (sQ q c)];exact q
 frzs:=λb u f q=>by rw[qi (sQ q c)];exact q
 tbls:=λb g q=>⟨#[],by rw[qi (sQ q c),q];simp⟩
def Un.write(c:HC (H x))(j:e=x\/H e=JU (.own x))(k:∀b u,b≠e->h.get? b=JU u->h'.get? b=JU u)(l:∃u,h'.get? e=JU u):Un fs ex H (upd H x o) h h':=by
 have f:∀b,H b=J9->b≠x:=λb n z=>by subst z;rw[n] at c;exact c
 have g:∀b,H b=J9->b≠e:=λb n z=>by
  subst z;rcases j with r|r
  ·exact f b n r
  ·rw[n] at r;cases r
 have d:∀b u,H b=JU u->¬ HC (JU u)->b≠x:=λb u q m z=>by subst z;rw[q] at c;exact m c
 refine⟨λb u q n _ _=>k b u (g b n) q,λb u q n _ _=>⟨u.slots,k b u (g b n) q⟩,λb u q n _=>by rw[qi (f b n)];exact n,λb u q _=>?_,
  λb p q=>by rw[qi (d b _ q λz=>z)];exact q,λb u p q=>by rw[qi (d b _ q λz=>z)];exact q,λb s q=>⟨#[],by rw[qi (d b _ q λz=>z),q];simp⟩⟩
 by_cases i:b=e
 ·subst i;exact l
 ·exact⟨u,k b u i q⟩
def Un.mono(u:Un fs ex H H1 h h1)(g:∀b∈fs,b∈Hr)(f:∀b∈ex,b∈WQ):Un Hr WQ H H1 h h1:=
 ⟨λb d q n i c=>u.keep b d q n (λz=>i (g b z)) λz=>c (f b z),λ_ _ q n _ c=>u.any q n λz=>c (f _ z),λb d q n c=>u.free b d q n λz=>c (f b z),λb d q c=>u.there b d q λz=>c (f b z),u.tups,u.frzs,u.tbls⟩
end
def JT(h:aX)(H:Hp):List af:=(aN h.objs.size).filter λa=>(H a).isSome
def Ae(h:aX)(H:Hp):aX:=PySem.W.hideAll h (JT h H)
def zbB(h:aX)(H:Hp):(Ae h H).objs.size=h.objs.size:=PySem.W.hideAll_size _ _
def zeA(e:h.get? b=JU o)(n:H b=J9):(Ae h H).get? b=JU o:=
 PySem.W.hideAll_get _ e λa=>by
  have q:=(bE.mp a).2;rw[n] at q;simp at q
def Z9(e:(Ae h H).get? b=JU o):h.get? b=JU o/\H b=J9:=by
 have a:=PySem.W.of_hideAll (JT h H) e;refine⟨a,?_⟩;cases q:H b with
 |none=>rfl
 | some x=>
  have c:b∈JT h H:=bE.mpr ⟨ba.mpr (aG a),by simp[q]⟩;have z:(Ae h H).get? b=J9:=PySem.W.hideAll_none (JT h H) c;rw[z] at e;cases e
noncomputable def zgM(g h:aX)(L:af):List (af×Obj):=(aN h.objs.size).filterMap λa=>if a=L\/(g.get? a).isSome=Ka then J9 else (h.get? a).map λo=>(a,o)
def rest(g h:aX)(L d:af):List (af×Obj):=(zgM g h L).filter λp=>decide (p.1≠d)
structure Mod(K:ak)(mg:aA->Option ae)(base:aX):Prop where
 kin:K.In base
 glob:base.Ns b9 mg
 blt:∃mb,base.Ns builtinsNs mb/\∀x:aA,x ≠ "__name__"->mb x=bA x
 nolimit:base.NoLimit
structure Cx where
 prog:aU
 w:be
 K:ak
 mg:aA->Option ae
 base:aX
 A:bD
 N:List aA
 s₀:ai
 H₀:Hp
 env:Env
 outer:List Env
 stack:List Env
 ex:List af
 fn:aA->Bool
 calm:Bool
 pn:List (af×Obj)
 xe:ae->ai->Prop
noncomputable def vD(l:List Env):List af:=l.filterMap (·.frame)
abbrev Cx.fs(X:Cx):List af:=vD X.outer
def vH(sc:dS)(x:aA):Prop:=sc.names.lookup x=JU .local\/sc.names.lookup x=JU .cell\/sc.names.lookup x=JU .free
def Loc(sc:dS)(x:aA):Prop:=sc.names.lookup x=JU .local\/sc.names.lookup x=JU .cell
def XF(env:Env)(h:aX)(m:aA->Option ae)(x:aA)(u:ae):Prop:=
 (env.kindOf x=JU .local/\m x=JU u)\/((env.kindOf x=JU .cell\/env.kindOf x=JU .free)/\∃c,env.cells.lookup x=JU c/\h.IsCell c (JU u))
structure Cx.Ok(X:Cx):Prop where
 mod:Mod X.K X.mg X.base
 kind:X.env.scope.kind=.function
 glob:X.env.globals=b9
 blt:X.env.builtins=builtinsNs
 above:X.s₀.heap.objs.size<=X.env.locals
 inj:∀x y c,X.env.cells.lookup x=JU c->X.env.cells.lookup y=JU c->x=y
 has:∀x,(X.env.kindOf x=JU .cell\/X.env.kindOf x=JU .free)->∃c,X.env.cells.lookup x=JU c
 cab:∀x c,X.fn x=Ka->X.env.cells.lookup x=JU c->X.s₀.heap.objs.size<=c
 hd:X.calm=Ka->X.A.handled=J9
 frames:X.A.frames=JU X.stack
 stk:X.stack=X.outer\/(X.stack=X.env::X.outer/\X.env.frame=JU X.env.locals)
 exf:∀b∈X.ex,b≠X.env.locals/\∀x c,X.env.cells.lookup x=JU c->c≠b
 bs:∀b o,X.base.get? b=JU o->X.s₀.heap.get? b=JU o/\X.H₀ b=J9
 bsz:X.base.objs.size<=X.s₀.heap.objs.size
 noex:∀b o,X.base.get? b=JU o->b∉X.ex
 exfs:∀b∈X.ex,b∉X.fs
 funs:X.s₀.heap.FunFrames X.base X.outer
 frf:∀b∈X.fs,X.H₀ b=J9
structure Inv(X:Cx)(YP:List (af×Obj))(σ:List (Option V))(H:Hp)(s:ai):Prop where
 ok:X.Ok
 os:s.os=X.s₀.os
 bare:iy s.gens
 base:Un X.fs X.ex X.H₀ H X.s₀.heap s.heap
 loc:∃m,s.heap.Ns X.env.locals m/\∀(i:Nat)(x:aA)(v:V),X.N[i]?=JU x->σ[i]?=JU (JU v)->vH X.env.scope x->∃u,RelV v u/\XF X.env s.heap m x u
 cell:∀x c,X.env.cells.lookup x=JU c->∃v,s.heap.IsCell c v
 free:H X.env.locals=J9
 freeC:∀x c,X.env.cells.lookup x=JU c->H c=J9
 pin:∀p∈X.pn++YP,s.heap.get? p.1=JU p.2/\H p.1=J9/\p.1≠X.env.locals/\p.1∉X.fs/\∀v,p.2.data ≠ .cell v
 hok:HOk X.prog X.w H s.heap
 len:σ.length=X.N.length
 tk:0<s.toks
section
variable{X:Cx}{YP:List (af×Obj)}{σ:List (Option V)}{H H':Hp}{s:ai}{h':aX}
def Cx.Ok.nofr(ok:X.Ok)(e:X.base.get? b=JU o):b∉X.fs:=λa=>by
 have:=(ok.funs.mem a).1;rw[e] at this;cases this
def Inv.bs(I:Inv X YP σ H s):∀b o,X.base.get? b=JU o->s.heap.get? b=JU o/\H b=J9:=λb o e=>
 ⟨I.base.keep b o (I.ok.bs b o e).1 (I.ok.bs b o e).2 (I.ok.nofr e) (I.ok.noex b o e),I.base.free b o (I.ok.bs b o e).1 (I.ok.bs b o e).2 (I.ok.noex b o e)⟩
def Inv.bk(I:Inv X YP σ H s):∀b o,X.base.get? b=JU o->s.heap.get? b=JU o:=λb o e=>(I.bs b o e).1
def Inv.mod(I:Inv X YP σ H s):Mod X.K X.mg X.base:=I.ok.mod
def Inv.kIn(I:Inv X YP σ H s):X.K.In s.heap:=I.ok.mod.kin.keeps I.bk
def Inv.lt(I:Inv X YP σ H s):X.env.locals<s.heap.objs.size:=let ⟨_,hn,_⟩:=I.loc;hn.lt
def Inv.sz(I:Inv X YP σ H s):X.s₀.heap.objs.size<=s.heap.objs.size:=aI I.ok.above (gJ I.lt)
def Inv.nofs(I:Inv X YP σ H s)(h:s.heap.objs.size<=a):a∉X.fs:=λb=>by
 obtain⟨_,o,c,_⟩:=I.ok.funs.mem b;exact absurd (aW (aG c) (aI I.sz h)) (bM _)
def Inv.cne(I:Inv X YP σ H s):∀x c,X.env.cells.lookup x=JU c->c≠X.env.locals:=λx c e z=>by
 obtain⟨v,o,a,b⟩:=I.cell x c e;obtain⟨m,⟨g,h,i,d,f,_⟩,_⟩:=I.loc;rw[z,d] at a;cases a;rw[f] at b;cases b
def Inv.funs(I:Inv X YP σ H s):s.heap.FunFrames X.base X.outer:=by
 have a:∀(l:List Env),(∀b∈vD l,b∈X.fs)->X.s₀.heap.FunFrames X.base l->s.heap.FunFrames X.base l:=by
  intro l
  induction l with
  |nil=>intro _ _;trivial
  | cons env r ih=>
   intro g h;obtain⟨i,⟨L,o,c,j,m,n⟩,p⟩:=h;have d:=g L (by unfold vD;rw[fA,c];exact al);obtain⟨q,e⟩:=I.base.slot L o m (I.ok.frf L d) d λz=>I.ok.exfs L z d;exact⟨i,⟨L,_,c,j,e,n⟩,ih (λb f=>g b (by unfold vD;rw[fA,c];exact ag _ f)) p⟩
 exact a X.outer (λ_ f=>f) I.ok.funs
def Inv.stack(I:Inv X YP σ H s):s.heap.FunFrames X.base X.stack:=by
 rcases I.ok.stk with e|⟨e,a⟩
 ·rw[e];exact I.funs
 ·rw[e];obtain⟨m,b,_⟩:=I.loc;refine .cons (by rw[I.ok.kind];decide) a b ?_ I.funs;exact Heap.get?_none_of_le (aI I.ok.bsz I.ok.above)
def Inv.stkSub(I:Inv X YP σ H s):∀b∈vD X.stack,b∈X.env.locals::X.fs:=λb a=>by
 rcases I.ok.stk with e|⟨e,c⟩
 ·rw[e] at a;exact ag _ a
 ·rw[e] at a;unfold vD at a;rw[fA,c] at a;exact a
def Inv.stkFree(I:Inv X YP σ H s):∀b∈vD X.stack,H b=J9:=λb hb=>by
 rcases am.mp (I.stkSub b hb) with e|hb
 ·rw[e];exact I.free
 ·obtain⟨_,o,a,_⟩:=I.ok.funs.mem hb;exact I.base.free b o a (I.ok.frf b hb) λz=>I.ok.exfs b z hb
def Inv.step{Y:Array m9}{t':Nat}{d':Drawn}{ch:List af}(I:Inv X YP σ H s)
  (C:∀b∈ch,(b∈X.ex\/X.s₀.heap.objs.size<=b)/\b≠X.env.locals/\(∀x c,X.env.cells.lookup x=JU c->c≠b)/\∀p∈X.pn++YP,p.1≠b)
  (g:∀b o,b≠X.env.locals->b∉X.fs->b∉ch->s.heap.get? b=JU o->H b=J9->h'.get? b=JU o)
  (t:∀b o,b≠X.env.locals->b∈X.fs->b∉ch->s.heap.get? b=JU o->H b=J9->∃Q,h'.get? b=JU { o with slots:=Q }) (f:∀b o,b∉ch->s.heap.get? b=JU o->H b=J9->H' b=J9)
  (y:∀b o,b∉ch->s.heap.get? b=JU o->∃E,h'.get? b=JU E)
  (G:∀b xs,H b=JU (.tup xs)->H' b=JU (.tup xs)) (J:∀b o u,H b=JU (.frz o u)->H' b=JU (.frz o u)) (L:∀b ps,H b=JU (.tbl ps)->∃M,H' b=JU (.tbl (ps++M)))
  (ns:∀m,s.heap.Ns X.env.locals m->h'.Ns X.env.locals m) (S:HOk X.prog X.w H' h') (hg:iy Y) (ht:0<t'):
  Inv X YP σ H' { s with heap:=h',gens:=Y,drawn:=d',toks:=t' }:=by
 have Z:∀b o,X.s₀.heap.get? b=JU o->b≠X.env.locals:=λb o e=>bo (aW (aG e) I.ok.above);have P:∀b o,X.s₀.heap.get? b=JU o->b∉X.ex->b∉ch:=λb o e a A=>by
  rcases (C b A).1 with z|z
  ·exact a z
  ·exact absurd (aW (aG e) z) (bM _)
 have h:∀x c,X.env.cells.lookup x=JU c->∀v,s.heap.IsCell c v->h'.IsCell c v:=λx c e v ⟨o,B,U⟩=>by
  have N:c∉ch:=λz=>(C c z).2.2.1 x c e rfl;by_cases hc:c∈X.fs
  ·obtain⟨Q,q⟩:=t c o (I.cne x c e) hc N B (I.freeC x c e);exact⟨_,q,U⟩
  ·exact⟨o,g c o (I.cne x c e) hc N B (I.freeC x c e),U⟩
 refine⟨I.ok,I.os,hg,⟨λb o e n A a=>?_,λb o e n A a=>?_,λb o e n a=>?_,λb o e a=>?_,λb xs e=>G b xs (I.base.tups b xs e),λb o xs e=>J b o xs (I.base.frzs b o xs e),λb ps e=>?_⟩,?_,λx c e=>?_,?_,λx c e=>?_,λp hp=>?_,S,I.len,ht⟩
 ·exact g b o (Z b o e) A (P b o e a) (I.base.keep b o e n A a) (I.base.free b o e n a)
 ·obtain⟨Q,j⟩:=I.base.slot b o e n A a;obtain⟨C5,O⟩:=t b _ (Z b o e) A (P b o e a) j (I.base.free b o e n a);exact⟨C5,O⟩
 ·obtain⟨E,j⟩:=I.base.there b o e a;exact f b E (P b o e a) j (I.base.free b o e n a)
 ·obtain⟨E,j⟩:=I.base.there b o e a;exact y b E (P b o e a) j
 ·obtain⟨m1,j⟩:=I.base.tbls b ps e;obtain⟨m2,O⟩:=L b _ j;exact⟨m1++m2,by rw[O,lZ]⟩
 ·obtain⟨m,hn,hl⟩:=I.loc;refine⟨m,ns m hn,λi x v j O e3=>?_⟩;obtain⟨u,r,l⟩:=hl i x v j O e3;refine⟨u,r,?_⟩;rcases l with l|⟨k,c,e,z⟩
  ·exact .inl l
  ·exact .inr ⟨k,c,e,h x c e _ z⟩
 ·obtain⟨v,z⟩:=I.cell x c e;exact⟨v,h x c e v z⟩
 ·obtain⟨m,⟨o,_,_,B,_⟩,_⟩:=I.loc;exact f _ o (λz=>(C _ z).2.1 rfl) B I.free
 ·obtain⟨v,o,B,U⟩:=I.cell x c e;exact f c o (λz=>(C c z).2.2.1 x c e rfl) B (I.freeC x c e)
 ·obtain⟨e,n,ne,nf,d⟩:=I.pin p hp;have N:p.1∉ch:=λz=>(C p.1 z).2.2.2 p hp rfl;exact⟨g p.1 p.2 ne nf N e n,f p.1 p.2 N e n,ne,nf,d⟩
def Inv.un{t':Nat}(I:Inv X YP σ H s)(u:Un X.fs [] H H' s.heap h')(a:HOk X.prog X.w H' h')(g:0<t':=by first|exact dq _|exact Inv.tk ‹_›|assumption|lia):Inv X YP σ H' { s with heap:=h',toks:=t' }:=by
 obtain⟨m,⟨o,q,t,d,r⟩,_⟩:=id I.loc;obtain⟨v,h⟩:=u.any d I.free 'k';exact I.step (ch:=[]) (λ_ z=>nomatch z) (λb o _ c _ e n=>u.keep b o e n c 'k') (λb o _ c _ e n=>u.slot b o e n c 'k') (λb o _ e n=>u.free b o e n 'k') (λb o _ e=>u.there b o e 'k') u.tups u.frzs u.tbls (λx i=>by
  obtain⟨y,j,l,f,p⟩:=i;rw[d] at f;cases f;exact⟨_,j,l,h,p⟩) a I.bare g
def Inv.call{g:Array m9}{t':Nat}{d':Drawn}{ch:List af}(I:Inv X YP σ H s)(u:Un (vD X.stack) ch H H' s.heap h')(d:HOk X.prog X.w H' h')(l:iy g)
  (h:∀b∈ch,(b∈X.ex\/X.s₀.heap.objs.size<=b)/\b≠X.env.locals/\(∀x c,X.env.cells.lookup x=JU c->c≠b)/\∀p∈X.pn++YP,p.1≠b) (q:0<t':=by first|exact dq _|exact Inv.tk ‹_›|assumption|lia):
  Inv X YP σ H' { s with heap:=h',gens:=g,drawn:=d',toks:=t' }:=by
 obtain⟨m,⟨o,C,E,i,r⟩,_⟩:=id I.loc;obtain⟨G,f⟩:=u.any i I.free λz=>(h _ z).2.1 rfl;exact I.step h (λb o f t a e n=>u.keep b o e n (λz=>(am.mp (I.stkSub b z)).elim f t) a) (λb o _ _ a e n=>u.any e n a) (λb o a e n=>u.free b o e n a) (λb o a e=>u.there b o e a) u.tups u.frzs u.tbls (λJ v=>by
  obtain⟨L,y,A,j,B⟩:=v;rw[i] at j;cases j;exact⟨_,y,A,f,B⟩) d l q
def Inv.turned{t':Nat}{it:af}(I:Inv X YP σ H s)(k:∀b o,b≠it->s.heap.get? b=JU o->h'.get? b=JU o)(g:H it=J9)(d:it≠X.env.locals)
  (h:it∈X.ex\/X.s₀.heap.objs.size<=it) (i:∀x c,X.env.cells.lookup x=JU c->c≠it) (j:∀p∈X.pn++YP,p.1≠it) (l:0<t':=by first|exact dq _|exact Inv.tk ‹_›|assumption|lia):Inv X YP σ H { s with heap:=h',toks:=t' }:=by
 have f:∀b u,H b=JU u->b≠it:=λb u e z=>by rw[z,g] at e;cases e
 refine I.step (ch:=[it]) (λb t=>?_) (λb o _ _ a e _=>k b o (λz=>a (by simp[z])) e) (λb o _ _ a e _=>⟨o.slots,k b o (λz=>a (by simp[z])) e⟩) (λ_ _ _ _ n=>n)
  (λb o a e=>⟨o,k b o (λz=>a (by simp[z])) e⟩) (λ_ _ e=>e) (λ_ _ _ e=>e) (λb C e=>⟨#[],by rw[e];simp⟩) (λm w=>?_) (λb u e=>?_) I.bare l
 ·have e:b=it:=⇑t
  subst e;exact⟨h,d,i,j⟩
 ·obtain⟨o,y,A,B,r⟩:=w;exact⟨o,y,A,k _ o (bN d) B,r⟩
 ·refine(I.hok b u e).stay (λc v a q=>k c v ?_ q) (λ_ q=>q) λ_ _ q=>q;rcases a with z|z
  ·rw[z];exact f b u e
  ·exact f c _ z
def Inv.tok(I:Inv X YP σ H s)(t:Nat)(a:0<t:=by first|exact dq _|exact Inv.tk ‹_›|assumption|lia):Inv X YP σ H { s with toks:=t }:=I.un Un.refl I.hok
def Inv.kept(I:Inv X YP σ H s)(k:∀b u,s.heap.get? b=JU u->h'.get? b=JU u)(a:0<t':=by first|exact dq _|exact Inv.tk ‹_›|assumption|lia):Inv X YP σ H { s with heap:=h',toks:=t' }:=I.un (Un.kept k) (I.hok.kept k)
def Inv.laid{a:af}{o:HO}{t':Nat}(I:Inv X YP σ H s)(k:∀b u,s.heap.get? b=JU u->h'.get? b=JU u)(c:s.heap.objs.size<=a)(d:o0 X.prog X.w (upd H a o) h' a o)(e:0<t':=by first|exact dq _|exact Inv.tk ‹_›|assumption|lia):
  Inv X YP σ (upd H a o) { s with heap:=h',toks:=t' }:=I.un (Un.laid k c (I.hok.fresh c)) (I.hok.laid k c d)
def Inv.write(I:Inv X YP σ H s)(c:HC (H x))(d:e=x\/H e=JU (.own x))(k:∀b u,b≠e->s.heap.get? b=JU u->h'.get? b=JU u)(f:∃u,h'.get? e=JU u)
  (a:o0 X.prog X.w (upd H x o) h' x o) (g:0<t':=by first|exact dq _|exact Inv.tk ‹_›|assumption|lia):Inv X YP σ (upd H x o) { s with heap:=h',toks:=t' }:=I.un (Un.write c d k f) (I.hok.write c d k f a)
def Inv.pins_of(I:Inv X YP σ H s)(h:∀p∈Gj,s.heap.get? p.1=JU p.2/\H p.1=J9/\p.1≠X.env.locals/\p.1∉X.fs/\∀v,p.2.data ≠ .cell v):Inv X Gj σ H s:=
 ⟨I.ok,I.os,I.bare,I.base,I.loc,I.cell,I.free,I.freeC,λp a=>(aO.mp a).elim (λz=>I.pin p (bK _ z)) (h p),I.hok,I.len,I.tk⟩
def Tf{N:List aA}(c:N.Nodup){i j:Nat}{x:aA}(a:N[i]?=JU x)(b:N[j]?=JU x):i=j:=by obtain⟨f,d⟩:=ao.mp a;obtain⟨g,e⟩:=ao.mp b;exact(j7 c).mp (d.trans e.symm)
def Jj{M:Model}{A:bD}{E:ae->ai->Prop}{i:Nat}{x:aA}{v:V}{u:ae}{Q:Unit->ai->Prop}(I:Inv X YP σ H s)(hN:X.N.Nodup)(L:X.N[i]?=JU x)(t:Loc X.env.scope x)(r:RelV v u)
  (h:∀U,Inv X YP (σ.set i (JU v)) H U->(∃a,dr a s.heap U.heap/\(a=X.env.locals\/X.env.cells.lookup x=JU a))->Q () U) (hf:X.fn x=Ka\/X.env.scope.names.lookup x=JU .local:=by first|exact .inl rfl|exact .inr rfl|assumption):aq M A (storeName X.env x u) Q E s:=by
 obtain⟨m,Y,hl⟩:=id I.loc;have Pb:(X.env.scope.kind == .class||(X.env.scope.kind == .module&&X.env.locals !=X.env.globals))=Kb:=by rw[I.ok.kind];rfl
 have G3:i<σ.length:=by rw[I.len];exact(ao.mp L).1
 have C:=I.cne;have g:∀{a:af}{h':aX},(∃o,s.heap.get? a=JU o/\H a=J9)->dr a s.heap h'->HOk X.prog X.w H h':=λ{a h'}ha f b ob e=>by
  obtain⟨_,_,qV⟩:=ha;refine(I.hok b ob e).stay (λc O hc q=>(f.2 c ?_).trans q) (λ_ q=>q) λ_ _ q=>q;rintro rfl;rcases hc with rfl|hc
  ·rw[qV] at e;cases e
  ·rw[qV] at hc;cases hc
 rcases t with hk|hk
 ·refine wpAny_storeName_local hk Y (λh' Dr f=>?_) Pb;obtain⟨oL,_,_,Z,_⟩:=id Y;refine h _ ⟨I.ok,I.os,I.bare,⟨λb o e n G t=>?_,λb o e n G t=>?_,I.base.free,λb o e t=>?_,I.base.tups,I.base.frzs,I.base.tbls⟩,⟨_,Dr,λj y v' l B e3=>?_⟩,λy c e=>?_,I.free,I.freeC,λp hp=>?_,g ⟨oL,Z,I.free⟩ f,by simpa using I.len,dq _⟩ ⟨_,f,.inl rfl⟩
  ·exact(f.2 b (bo (aW (aG e) I.ok.above))).trans (I.base.keep b o e n G t)
  ·obtain⟨sl,l⟩:=I.base.slot b o e n G t;exact⟨sl,(f.2 b (bo (aW (aG e) I.ok.above))).trans l⟩
  ·obtain⟨o',l⟩:=I.base.there b o e t;exact⟨o',(f.2 b (bo (aW (aG e) I.ok.above))).trans l⟩
  ·by_cases J:j=i
   ·subst J;rw[L] at l;cases l;rw[bU G3] at B;cases B;exact⟨u,r,.inl ⟨hk,by simp⟩⟩
   ·rw[bg (bN J)] at B;obtain⟨u',r',q⟩:=hl j y v' l B e3;refine⟨u',r',?_⟩;rcases q with⟨k,e⟩|⟨k,c,e,z⟩
    ·refine .inl ⟨k,?_⟩;have:y≠x:=λe=>J (Tf hN l (e▸L));simp[this,e]
    ·exact .inr ⟨k,c,e,z.sameBut f (C y c e)⟩
  ·obtain⟨O,z⟩:=I.cell y c e;exact⟨O,z.sameBut f (C y c e)⟩
  ·obtain⟨e,n,P,nf,d⟩:=I.pin p hp;exact⟨(f.2 p.1 P).trans e,n,P,nf,d⟩
 ·have E3:X.fn x=Ka:=by
   rcases hf with z|z
   ·exact z
   ·rw[z] at hk;cases hk
  obtain⟨c,hc⟩:=I.ok.has x (.inl hk);obtain⟨O,z⟩:=I.cell x c hc;refine wpAny_storeName_cell I.ok.kind hk hc z (λh' Bq f=>?_);obtain⟨oc,EX,OC⟩:=id z;refine h { s with heap:=h' } ⟨I.ok,I.os,I.bare,⟨λb o e n G t=>?_,λb o e n G t=>?_,I.base.free,λb o e t=>?_,I.base.tups,I.base.frzs,I.base.tbls⟩,⟨m,Y.sameBut f (bN (C x c hc)),λj y v' l B e3=>?_⟩,λy S e=>?_,I.free,I.freeC,λp hp=>?_,g ⟨oc,EX,I.freeC x c hc⟩ f,by simpa using I.len,I.tk⟩ ⟨c,f,.inr hc⟩
  ·exact(f.2 b (bo (aW (aG e) (I.ok.cab x c E3 hc)))).trans (I.base.keep b o e n G t)
  ·obtain⟨sl,l⟩:=I.base.slot b o e n G t;exact⟨sl,(f.2 b (bo (aW (aG e) (I.ok.cab x c E3 hc)))).trans l⟩
  ·obtain⟨o',l⟩:=I.base.there b o e t;exact⟨o',(f.2 b (bo (aW (aG e) (I.ok.cab x c E3 hc)))).trans l⟩
  ·by_cases J:j=i
   ·subst J;rw[L] at l;cases l;rw[bU G3] at B;cases B;exact⟨u,r,.inr ⟨.inl hk,c,hc,Bq⟩⟩
   ·rw[bg (bN J)] at B;obtain⟨u',r',q⟩:=hl j y v' l B e3;refine⟨u',r',?_⟩;rcases q with q|⟨k,S,e,z'⟩
    ·exact .inl q
    ·refine .inr ⟨k,S,e,z'.sameBut f ?_⟩;rintro rfl;exact J (Tf hN l (I.ok.inj _ _ _ e hc▸L))
  ·by_cases uQ:S=c
   ·subst uQ;exact⟨_,Bq⟩
   ·obtain⟨w2,z2⟩:=I.cell y S e;exact⟨w2,z2.sameBut f uQ⟩
  ·obtain⟨e,n,P,nf,d⟩:=I.pin p hp;refine⟨(f.2 p.1 ?_).trans e,n,P,nf,d⟩;intro q;rw[q,EX] at e;have q':=cf e;exact d O (by rw[<- q'];exact OC)
def Mr(I:Inv X YP σ H s)(b:X.N.Nodup)(c:X.N[i]?=JU x)(d:Loc X.env.scope x)(r:RelV v u)
  (h:∀a,Inv X YP (σ.set i (JU v)) H a->Q () a) (e:X.fn x=Ka\/X.env.scope.names.lookup x=JU .local:=by first|exact .inl rfl|exact .inr rfl|assumption):aq M A (storeName X.env x u) Q E s:=
 Jj I b c d r (λa f _=>h a f) e
def Inv.call'(I:Inv X YP σ H s)(d:s'.os=s.os)(u:Un (vD X.stack) ch H H' s.heap s'.heap)(a:HOk X.prog X.w H' s'.heap)(f:iy s'.gens)
  (g:∀b∈ch,(b∈X.ex\/X.s₀.heap.objs.size<=b)/\b≠X.env.locals/\(∀x c,X.env.cells.lookup x=JU c->c≠b)/\∀p∈X.pn++YP,p.1≠b) (h:0<s'.toks:=by first|exact dq _|exact Inv.tk ‹_›|assumption|lia):Inv X YP σ H' s':=by obtain⟨h',i,j,l,m⟩:=s';have e:=d;subst e;exact I.call u a f g
end
abbrev XK:=ae->Option af->Hp->Prop
abbrev St:=List (Option V)
abbrev VK:=V->Hp->Prop
abbrev TE:=St->Hp->VK->Prop
abbrev TT:=St->Hp->(Bool->Hp->Prop)->Prop
abbrev TA:=St->Hp->(List V->Hp->Prop)->Prop
structure z9 where
 nx:St->Hp->Prop
 rt:VK
 bk:St->Hp->Prop:=λ_ _=>False
 ct:St->Hp->Prop:=λ_ _=>False
abbrev TS:=z9->St->Hp->Prop
def EP(X:Cx)(YP:List (af×Obj))(σ:St)(Q:VK)(u:ae)(s':ai):Prop:=∃v H',Inv X YP σ H' s'/\RelV v u/\Q v H'
def TP(X:Cx)(YP:List (af×Obj))(σ:St)(Q:Bool->Hp->Prop)(b:Bool)(s':ai):Prop:=∃H',Inv X YP σ H' s'/\Q b H'
def AP(X:Cx)(YP:List (af×Obj))(σ:St)(Q:List V->Hp->Prop)(us:List ae)(s':ai):Prop:=∃vs H',Inv X YP σ H' s'/\oQ vs us/\Q vs H'
def SP(X:Cx)(YP:List (af×Obj))(D:z9)(f:Flow)(s':ai):Prop:=
 match f with
 |.next=>∃σ' H',Inv X YP σ' H' s'/\D.nx σ' H'
 |.brk=>∃σ' H',Inv X YP σ' H' s'/\D.bk σ' H'
 |.cont=>∃σ' H',Inv X YP σ' H' s'/\D.ct σ' H'
 |.ret u=>∃v σ' H',Inv X YP σ' H' s'/\RelV v u/\D.rt v H'
def PE(X:Cx)(e:bi)(t:TE):Prop:=
 ∀(YP:List (af×Obj))(s:ai)(σ:St)(H:Hp)(Q:VK),Inv X YP σ H s->t σ H Q->aq (av X.prog X.w) X.A (eval e X.env) (EP X YP σ Q) X.xe s
def PT(X:Cx)(e:bi)(t:TT):Prop:=
 ∀(YP:List (af×Obj))(s:ai)(σ:St)(H:Hp)(Q:Bool->Hp->Prop),Inv X YP σ H s->t σ H Q->aq (av X.prog X.w) X.A (isTrue e X.env (eval e X.env)) (TP X YP σ Q) X.xe s
def PW(X:Cx)(e:bi)(t:TT):Prop:=
 ∀(whole:Sem ae)(YP:List (af×Obj))(s:ai)(σ:St)(H:Hp)(Q:Bool->Hp->Prop),Inv X YP σ H s->t σ H Q->aq (av X.prog X.w) X.A (isTrue e X.env whole) (TP X YP σ Q) X.xe s
def PW.pt(h:PW X e t):PT X e t:=h _
def PA(X:Cx)(es:List bi)(t:TA):Prop:=
 ∀(pos:Pos)(YP:List (af×Obj))(s:ai)(σ:St)(H:Hp)(Q:List V->Hp->Prop),Inv X YP σ H s->t σ H Q->aq (av X.prog X.w) X.A (spliced (backTo pos (aL es X.env))) (AP X YP σ Q) X.xe s
def PS(X:Cx)(st:eO)(t:TS):Prop:=
 ∀(YP:List (af×Obj))(s:ai)(σ:St)(H:Hp)(D:z9),Inv X YP σ H s->t D σ H->aq (av X.prog X.w) X.A (exec st X.env) (SP X YP D) X.xe s
def tL(X:Cx)(st:List eO)(t:TS):Prop:=
 ∀(YP:List (af×Obj))(s:ai)(σ:St)(H:Hp)(D:z9),Inv X YP σ H s->t D σ H->aq (av X.prog X.w) X.A (execs st X.env) (SP X YP D) X.xe s
def qe{α:Type}{t:Sem α}{Q b:α->ai->Prop}{M}{A}{E}{s}(h:aq M A t Q E s)(c:∀a s,Q a s->b a s):aq M A t b E s:=cG h c λ_ _ x=>x
section
variable{X:Cx}
def bin{a b:bi}{i j:TE}(l:PE X a i)(m:PE X b j){c:List (af×Obj)}{s:ai}{σ:St}{H:Hp}{R:V->V->Hp->Prop}(I:Inv X c σ H s)(h:i σ H λx g=>j σ g λy d=>R x y d)
  {α:Type} {Q:α->ai->Prop} {f:ae->ae->Sem α}
  (n:∀v u e x y d,Inv X c σ d e->RelV x v->RelV y u->R x y d->aq (av X.prog X.w) X.A (f v u) Q X.xe e):
  aq (av X.prog X.w) X.A (eval a X.env) (λv o=>aq (av X.prog X.w) X.A (eval b X.env) (λu p=>aq (av X.prog X.w) X.A (f v u) Q X.xe p) X.xe o) X.xe s:=by refine qe (l c s σ H _ I h) λv q ⟨x,g,r,t,B⟩=>?_;refine qe (m c q σ g _ r B) λu e ⟨y,d,C,E,G⟩=>?_;exact n v u e x y d C t E G
def yf(i:Nat):TE:=λσ H Q=>∃v,σ[i]?=JU (JU v)/\Q v H
def tC(v:V):TE:=λ_ H Q=>Q v H
abbrev sU(x:aA):Prop:=(x==("__debug__":aA))=Kb
def BK(j:X.N[i]?=JU x)(n:vH X.env.scope x)(d:sU x:=by decide)(o:(x==("__classdict__":aA))=Kb:=by decide):PE X (.Name x pos) (yf i):=by
 intro b s p H Q I h;obtain⟨v,e,h⟩:=h;obtain⟨m,q,t⟩:=I.loc;obtain⟨u,r,l⟩:=t i x v j e n;have a:EP X b p Q u s:=⟨v,H,I,r,h⟩;rcases l with⟨hk,w⟩|⟨hk,c,f,g⟩
 ·exact wpAny_Name (lE I.ok.kind hk q w a) d
 ·rcases hk with hk|hk
  ·exact wpAny_Name (lU I.ok.kind hk f g a) d
  ·exact wpAny_Name (wpAny_loadName_free I.ok.kind hk f g a o) d
def Rc:PE X (.Constant (.int i) j pos) (tC (.int i)):=λ_ _ _ H _ I h=>wpAny_Constant_int ⟨.int i,H,I.tok _,⟨_,rfl⟩,h⟩
def X0:PE X (.Constant (.bool b) j pos) (tC (.bl b)):=λ_ _ _ H _ I h=>Constant_bool ⟨.bl b,H,I,rfl,h⟩
def RM:PE X (.Constant .none j pos) (tC .non):=λ_ _ _ H _ I h=>Constant_none ⟨.non,H,I,rfl,h⟩
def RX:PE X (.Constant (.str x) j pos) (tC (.str x)):=λ_ _ _ H _ I h=>Calls.Constant_str ⟨.str x,H,I.tok _,⟨_,rfl⟩,h⟩
def Gl(X:Cx)(x:aA):Prop:=X.env.kindOf x=JU .globalImplicit
def Sw(I:Inv X YP σ H s)(a:Gl X x)(b:X.mg x=JU u)(h:Q u s)
  (c:sU x:=by decide):aq (av X.prog X.w) X.A (eval (.Name x pos) X.env) Q E s:=
 jI I.ok.kind a (Calls.loadGlobal_global (by rw[I.ok.glob];exact I.mod.glob.keeps I.bk) b h) c
def CS(I:Inv X YP σ H s)(a:Gl X x)(b:X.mg x=J9)(c:bA x=JU u)(h:Q u s)
  (d:x ≠ "__name__":=by decide) (e:sU x:=by decide):aq (av X.prog X.w) X.A (eval (.Name x pos) X.env) Q E s:=by obtain⟨i,f,g⟩:=I.mod.blt;exact jI I.ok.kind a (Calls.loadGlobal_builtin (by rw[I.ok.glob];exact I.mod.glob.keeps I.bk) b (by rw[I.ok.blt];exact f.keeps I.bk) ((g x d).trans c) h) e
def IK(a:Gl X x)(b:X.mg x=JU u)(r:RelV v u)(c:sU x:=by decide):PE X (.Name x pos) (tC v):=
 λ_ _ _ H _ I h=>Sw I a b ⟨v,H,I,r,h⟩ c
def LO(a:Gl X x)(b:X.mg x=J9)(c:bA x=JU u)(r:RelV v u)(d:x ≠ "__name__":=by decide)(e:sU x:=by decide):PE X (.Name x pos) (tC v):=
 λ_ _ _ H _ I h=>CS I a b c ⟨v,H,I,r,h⟩ d e
variable{a b:bi}{ta tb:TE}{pos:Pos}
def PC(X:Cx)(op:CmpOp)(a b:bi)(t:TE):Prop:=
 ∀(YP:List (af×Obj))(s:ai)(σ:St)(H:Hp)(Q:VK),Inv X YP σ H s->t σ H Q->
  aq (av X.prog X.w) X.A (eval a X.env) (λv m_=>aq (av X.prog X.w) X.A (eval b X.env) (λu tS=>aq (av X.prog X.w) X.A (cN op v u) (EP X YP σ Q) X.xe tS) X.xe m_) X.xe s
def TB(b)(h:op ≠ .In)(c:op ≠ .NotIn):behindInMarks op b=Kb:=by
 have d:(op==CmpOp.In)=Kb:=by cases op<;>first|rfl|exact absurd rfl h
 have e:(op==CmpOp.NotIn)=Kb:=by cases op<;>first|rfl|exact absurd rfl c
 cases b<;>simp[behindInMarks,d,e]
def tB(t:TE):TT:=λσ H Q=>t σ H λx H1=>∃c,x=.bl c/\Q c H1
def YA(h:PC X op a b t)(d:behindInMarks op b=Kb:=by first|exact TB _ 'u' 'u'|rfl):PE X (.Compare a [op] [b] pos) t:=λc s e H Q I f=>wpAny_Compare1 (h c s e H Q I f) d
def Ri{f:CmpOp}{t:TE}(h:PC X f a b t)(g:behindInMarks f b=Kb:=by first|exact TB _ 'u' 'u'|rfl):PT X (.Compare a [f] [b] pos) (tB t):=by intro e s i H Q I j;refine kU (qe (h e s i H _ I j) λv r g=>qe g λu w l=>qe l λc y ⟨x,m,n,o,p⟩=>?_) g;obtain⟨d,rfl,q⟩:=p;cases o;exact cZ ⟨m,n,q⟩
variable{tA JW:TT}{rest:List bi}
def Xq(t u:TT):TT:=λσ H Q=>t σ H λc H1=>if c=Ka then u σ H1 Q else Q Kb H1
def tOr(t u:TT):TT:=λσ H Q=>t σ H λc H1=>if c=Ka then Q Ka H1 else u σ H1 Q
def XH(t:TT):TT:=λσ H Q=>t σ H λc H1=>Q (!c) H1
def zgG(f:PT X a tA):PW X (.BoolOp .And [a] pos) tA:=by
 intro i d s g H Q I h;refine isTrue_and (qe (f d s g H Q I h) λc j e=>?_);cases c with
 |true=>exact isTrue_and_nil e
 |false=>exact e
def Yx(f:PT X a tA):PW X (.BoolOp .Or [a] pos) tA:=by
 intro i d s g H Q I h;refine isTrue_or (qe (f d s g H Q I h) λc j e=>?_);cases c with
 |false=>exact isTrue_or_nil e
 |true=>exact e
def Y0(j:PT X a tA)(l:PW X (.BoolOp .And (b::rest) pos) JW):PW X (.BoolOp .And (a::b::rest) pos) (Xq tA JW):=by
 intro m d s e H Q I h;refine isTrue_and (qe (j d s e H _ I h) λc n ⟨f,g,i⟩=>?_);cases c with
 |true=>exact l m d n e f Q g i
 |false=>exact⟨f,g,i⟩
def Yo(j:PT X a tA)(l:PW X (.BoolOp .Or (b::rest) pos) JW):PW X (.BoolOp .Or (a::b::rest) pos) (tOr tA JW):=by
 intro m d s e H Q I h;refine isTrue_or (qe (j d s e H _ I h) λc n ⟨f,g,i⟩=>?_);cases c with
 |true=>exact⟨f,g,i⟩
 |false=>exact l m d n e f Q g i
def Zt(e:PT X a tA):PT X (.UnaryOp .Not a pos) (XH tA):=by intro d s f H Q I h;exact isTrue_not (e d s f H (λc g=>Q (!c) g) I h)
def Yg(ta tb:TE):TE:=λσ H Q=>ta σ H λx H1=>∃c,x=.bl c/\if c=Ka then tb σ H1 Q else Q (.bl Kb) H1
def Xy(ta tb:TE):TE:=λσ H Q=>ta σ H λx H1=>∃c,x=.bl c/\if c=Ka then Q (.bl Ka) H1 else tb σ H1 Q
def XY(ta:TE):TE:=λσ H Q=>ta σ H λx H1=>∃c,x=.bl c/\Q (.bl (!c)) H1
def Zx(h:PE X a t):PE X (.BoolOp op [a] pos) t:=λc s d H Q I e=>BoolOp_one (h c s d H Q I e)
def Zs(j:PE X a ta)(l:PE X (.BoolOp .And (b::rest) pos) tb):PE X (.BoolOp .And (a::b::rest) pos) (Yg ta tb):=by
 intro d s f H Q I h;refine BoolOp_and (qe (j d s f H _ I h) λv m ⟨x,g,i,n,e⟩=>?_);obtain⟨c,rfl,e⟩:=e;cases n;refine cZ ?_;cases c with
 |true=>exact l d m f g Q i e
 |false=>exact⟨.bl Kb,g,i,rfl,e⟩
def Yi(j:PE X a ta)(l:PE X (.BoolOp .Or (b::rest) pos) tb):PE X (.BoolOp .Or (a::b::rest) pos) (Xy ta tb):=by
 intro d s f H Q I h;refine BoolOp_or (qe (j d s f H _ I h) λv m ⟨x,g,i,n,e⟩=>?_);obtain⟨c,rfl,e⟩:=e;cases n;refine cZ ?_;cases c with
 |false=>exact l d m f g Q i e
 |true=>exact⟨.bl Ka,g,i,rfl,e⟩
def Y_(f:PE X a ta):PE X (.UnaryOp .Not a pos) (XY ta):=by intro d s g H Q I h;refine UnaryOp_ (qe (f d s g H _ I h) λv m ⟨x,i,j,l,e⟩=>?_);obtain⟨c,rfl,e⟩:=e;cases l;exact not_of (cZ ⟨.bl (!c),i,j,rfl,e⟩)
end
def qS(K:ak)(H:Hp)(a:af)(xs:List V):Prop:=
 Rd H a (.lst xs) \/
  ∃(o:Obj)(e_:Array ae)(n:Nat),K.lookup a=JU o/\o.cls=.type "list"/\o.dict=J9/\o.data=.seq e_ n/\e_.size<=aM/\oQ xs e_.toList
def sH(K:ak)(H:Hp)(a:af)(xs:List V):Prop:=
 Rd H a (.tup xs) \/
  ∃(o:Obj)(e_:Array ae)(n:Nat),K.lookup a=JU o/\o.cls=.type "tuple"/\o.data=.seq e_ n/\e_.size<=aM/\oQ xs e_.toList
def Xa:ae->Option V
 |.none=>JU .non
 |.bool b=>JU (.bl b)
 |.int i _=>JU (.int i)
 |.str x _=>JU (.str x)
 |.bytes b _=>JU (.byt b)
 |.float b _=>JU (.flt b)
 |.ref a=>JU (.ref a)
 |.type n=>JU (.ty n)
 |_=>J9
def RelV.abs(r:RelV x u):Xa u=JU x:=by
 cases x with
 |non=>cases r;rfl
 |bl _=>cases r;rfl
 |int _=>obtain⟨t,rfl⟩:=r;rfl
 |str _=>obtain⟨t,rfl⟩:=r;rfl
 |byt _=>obtain⟨t,rfl⟩:=r;rfl
 |flt _=>obtain⟨t,rfl⟩:=r;rfl
 |ref _=>cases r;rfl
 |ty _=>cases r;rfl
def RelV.inj(r:RelV x u)(q:RelV y u):x=y:=cf (r.abs.symm.trans q.abs)
theorem oQ.inj:∀{xs a:List V}{b:List ae},oQ xs b->oQ a b->xs=a
 |_,_,_,.nil,.nil=>rfl
 |_,_,_,.cons r t,.cons r' t'=>by rw[r.inj r',oQ.inj t t']
section
variable{X:Cx}{YP:List (af×Obj)}{σ:St}{H:Hp}{s:ai}{a:af}{xs:List V}
def qS.of{K:ak}(h:H a=JU (.lst xs)):qS K H a xs:=.inl (.inl h)
def sH.of{K:ak}(h:H a=JU (.tup xs)):sH K H a xs:=.inl (.inl h)
def Inv.list(I:Inv X YP σ H s)(h:qS X.K H a xs):∃b:List ae,oQ xs b/\PlainL s.heap a b.toArray/\xs.length<=aM:=by
 rcases h with h|⟨o,b,n,c,d,f,g,i,r⟩
 ·obtain⟨z,b,n,r,e⟩:=h.ok I.hok;exact⟨b,r,⟨_,n,e,rfl,rfl,rfl⟩,z⟩
 ·refine⟨b.toList,r,⟨o,n,I.kIn a o c,d,f,by simpa using g⟩,?_⟩;have e:=r.length;simp at e;lia
def Inv.tuple(I:Inv X YP σ H s)(h:sH X.K H a xs):∃b:List ae,oQ xs b/\IsTup s.heap a b.toArray/\xs.length<=aM:=by
 rcases h with h|⟨o,b,n,c,d,f,g,r⟩
 ·obtain⟨z,b,r,p⟩:=h.ok I.hok;exact⟨b,r,p.tup,z⟩
 ·refine⟨b.toList,r,⟨o,I.kIn a o c,d,n,by simpa using f⟩,?_⟩;have e:=r.length;simp at e;lia
def Inv.list_inj(I:Inv X YP σ H s)(h:qS X.K H a xs)(f:qS X.K H a ys):xs=ys:=by
 obtain⟨g,r,⟨o,n,e,_,_,d⟩,_⟩:=I.list h;obtain⟨i,j,⟨l,m,b,_,_,c⟩,_⟩:=I.list f;rw[e] at b;cases b;rw[d] at c;injection c with d1 _;have:g=i:=by simpa using congrArg l5 d1
 subst this;exact r.inj j
def Inv.tuple_inj(I:Inv X YP σ H s)(h:sH X.K H a xs)(f:sH X.K H a ys):xs=ys:=by
 obtain⟨g,r,⟨o,e,_,n,d⟩,_⟩:=I.tuple h;obtain⟨i,j,⟨l,b,_,m,c⟩,_⟩:=I.tuple f;rw[e] at b;cases b;rw[d] at c;injection c with d1 _;have:g=i:=by simpa using congrArg l5 d1
 subst this;exact r.inj j
end
abbrev Cx.wish(X:Cx)(E:ae->ai->Prop):Cx:={ X with xe:=E }
abbrev Cx.nox(X:Cx):Cx:=X.wish λ_ _=>False
def Cx.Ok.wish{X:Cx}(ok:X.Ok)(E:ae->ai->Prop):(X.wish E).Ok:=
 ⟨ok.mod,ok.kind,ok.glob,ok.blt,ok.above,ok.inj,ok.has,ok.cab,ok.hd,ok.frames,ok.stk,ok.exf,ok.bs,ok.bsz,ok.noex,ok.exfs,ok.funs,ok.frf⟩
def Cx.Ok.unwish{X:Cx}{E:ae->ai->Prop}(ok:(X.wish E).Ok):X.Ok:=
 ⟨ok.mod,ok.kind,ok.glob,ok.blt,ok.above,ok.inj,ok.has,ok.cab,ok.hd,ok.frames,ok.stk,ok.exf,ok.bs,ok.bsz,ok.noex,ok.exfs,ok.funs,ok.frf⟩
section
variable{X:Cx}{YP:List (af×Obj)}{σ:St}{H:Hp}{s:ai}{E:ae->ai->Prop}
def Inv.wish(I:Inv X YP σ H s)(E:ae->ai->Prop):Inv (X.wish E) YP σ H s:=⟨I.ok.wish E,I.os,I.bare,I.base,I.loc,I.cell,I.free,I.freeC,I.pin,I.hok,I.len,I.tk⟩
def Inv.unwish(I:Inv (X.wish E) YP σ H s):Inv X YP σ H s:=⟨I.ok.unwish,I.os,I.bare,I.base,I.loc,I.cell,I.free,I.freeC,I.pin,I.hok,I.len,I.tk⟩
def SP.unwish{D:z9}{f:Flow}{c:ai}(h:SP (X.wish E) YP D f c):SP X YP D f c:=by
 cases f with
 |next=>obtain⟨a,b,I,q⟩:=h;exact⟨a,b,I.unwish,q⟩
 |brk=>obtain⟨a,b,I,q⟩:=h;exact⟨a,b,I.unwish,q⟩
 |cont=>obtain⟨a,b,I,q⟩:=h;exact⟨a,b,I.unwish,q⟩
 |ret u=>obtain⟨v,a,b,I,r,q⟩:=h;exact⟨v,a,b,I.unwish,r,q⟩
def PE.nox(h:PE X.nox e t):PE X e t:=λYP s σ H Q I a=>
 cG (h YP s σ H Q (I.wish _) a) (λ_ _ ⟨v,b,c,r,q⟩=>⟨v,b,c.unwish,r,q⟩) λ_ _ z=>aj z
def PT.nox(h:PT X.nox e t):PT X e t:=λYP s σ H Q I a=>
 cG (h YP s σ H Q (I.wish _) a) (λ_ _ ⟨b,c,q⟩=>⟨b,c.unwish,q⟩) λ_ _ z=>aj z
def tL.nox{a:List eO}{t:TS}(h:tL X.nox a t):tL X a t:=λYP s σ H D I b=>
 cG (h YP s σ H D (I.wish _) b) (λ_ _ q=>q.unwish) λ_ _ z=>aj z
end
section
variable{X:Cx}{st:eO}{rest:List eO}{t u:TS}{e:bi}{te:TE}{pos:Pos}
def QH:TS:=λD σ H=>D.nx σ H
def Xl(t u:TS):TS:=λD σ H=>t { D with nx:=u D } σ H
def IS:tL X [] QH:=λ_ _ a H _ I h=>iY ⟨a,H,I,h⟩
def zx(c:PS X st t)(d:tL X rest u):tL X (st::rest) (Xl t u):=by
 intro a s g H D I h;refine wpAny_execs_cons (qe (c a s g H { D with nx:=u D } I h) λf i q=>?_);cases f with
 | next=>
  obtain⟨b,j,l,q⟩:=q;exact d a i b j D l q
 |ret v=>exact q
 |brk=>exact q
 |cont=>exact q
def CU(b:PS X st t):tL X [st] t:=by
 intro a s c H D I h;refine wpAny_execs_cons (qe (b a s c H D I h) λf d q=>?_);cases f with
 |next=>exact iY q
 |ret v=>exact q
 |brk=>exact q
 |cont=>exact q
def zi0:PS X (.Pass pos) QH:=λ_ _ a H _ I h=>wpAny_Pass ⟨a,H,I,h⟩
def Inv.quiet{a:List (af×Obj)}{σ:St}{H:Hp}{s:ai}(I:Inv X a σ H s):interactive X.env=Kb:=by simp[interactive,I.ok.kind]
def Yj(te:TE):TS:=λD σ H=>te σ H λ_ H1=>D.nx σ H1
def LP(c:PE X e te)(d:swapsWith e J9 pos.line X.env=pure Kb:=by rfl):PS X (.Expr e pos) (Yj te):=by intro a s b H D I h;exact wpAny_Expr_any (qe (c a s b H _ I h) λv j ⟨x,f,g,l,i⟩=>⟨b,f,g,i⟩) I.quiet d
def XD(te:TE):TS:=λD σ H=>te σ H D.rt
def Ld(c:PE X e te):PS X (.Return (JU e) pos) (XD te):=by intro a s b H D I h;exact wpAny_Return_some (qe (c a s b H _ I h) λv j ⟨x,d,f,g,i⟩=>⟨x,b,d,f,g,i⟩)
def Xe(c:TT)(t u:TS):TS:=λD σ H=>c σ H λb H1=>if b=Ka then t D σ H1 else u D σ H1
def HZ{c:bi}{a b:List eO}{i:TT}(o:PT X c i)(p:tL X a t)(q:tL X b u):PS X (.If c a b pos) (Xe i t u):=by
 intro f s g H D I h;refine wpAny_If (qe (o f s g H _ I h) λd j ⟨l,m,n⟩=>?_);cases d with
 |true=>exact p f j g l D m n
 |false=>exact q f j g l D m n
def YV:TS:=λ_ _ _=>False
def zcF:tL X sts YV:=λ_ _ _ _ _ _ h=>h.elim
end
abbrev TG:=V->St->Hp->(St->Hp->Prop)->Prop
abbrev E_:=List V->St->Hp->(St->Hp->Prop)->Prop
def PG(X:Cx)(target:bi)(t:TG):Prop:=
 ∀(YP:List (af×Obj))(s:ai)(σ:St)(H:Hp)(v:V)(u:ae)(Q:St->Hp->Prop),Inv X YP σ H s->RelV v u->t v σ H Q->
  aq (av X.prog X.w) X.A (assign target X.env u) (λ_ s'=>∃σ' H',Inv X YP σ' H' s'/\Q σ' H') X.xe s
def Kw(X:Cx)(ts:List bi)(t:E_):Prop:=
 ∀(YP:List (af×Obj))(s:ai)(σ:St)(H:Hp)(vs:List V)(us:List ae)(Q:St->Hp->Prop),Inv X YP σ H s->oQ vs us->t vs σ H Q->
  aq (av X.prog X.w) X.A (assignInOrder ((iz ts X.env).map (·.2)) us) (λ_ s'=>∃σ' H',Inv X YP σ' H' s'/\Q σ' H') X.xe s
abbrev KL:=V->V->V->Hp->(Hp->Prop)->Prop
def Qf(X:Cx)(t:KL):Prop:=
 ∀(YP:List (af×Obj))(s:ai)(σ:St)(H:Hp)(o i v:V)(ov iv u:ae)(Q:Hp->Prop),Inv X YP σ H s->RelV o ov->RelV i iv->RelV v u->t o i v H Q->
  aq (av X.prog X.w) X.A (setItem ov iv u) (λ_ s'=>∃H',Inv X YP σ H' s'/\Q H') X.xe s
abbrev Kv:=V->V->Hp->VK->Prop
def W1(X:Cx)(op:Operator)(t:Kv):Prop:=
 ∀(YP:List (af×Obj))(s:ai)(σ:St)(H:Hp)(x y:V)(v u:ae)(Q:VK),Inv X YP σ H s->RelV x v->RelV y u->t x y H Q->
  aq (av X.prog X.w) X.A (inplaceOp op v u) (EP X YP σ Q) X.xe s
section
variable{X:Cx}{pos:Pos}
def yS(i:Nat):TG:=λv σ H Q=>Q (σ.set i (JU v)) H
def L6(b:X.N.Nodup)(c:X.N[i]?=JU x)(d:Loc X.env.scope x)(e:X.fn x=Ka\/X.env.scope.names.lookup x=JU .local:=by first|exact .inl rfl|exact .inr rfl|assumption):PG X (.Name x pos) (yS i):=by intro a s g H v u Q I r h;exact iC (Mr I b c d r (λj f=>⟨_,H,f,h⟩) e)
def Qt:E_:=λvs σ H Q=>vs=[]/\Q σ H
def Lc(t:TG)(u:E_):E_:=λvs σ H Q=>∃v r,vs=v::r/\t v σ H λσ' H'=>u r σ' H' Q
def zgY:Kw X [] Qt:=by intro a s b H c d Q I r h;obtain⟨e,h⟩:=h;subst e;exact assignInOrder_nil ⟨b,H,I,h⟩
def Tt{e:bi}{es:List bi}{t:TG}{u:E_}(b:PG X e t)(c:Kw X es u)
  (d:(iz (e::es) X.env).map (·.2)=assign e X.env::(iz es X.env).map (·.2):=by rfl):Kw X (e::es) (Lc t u):=by
 intro a s f H o p Q I r h;obtain⟨v,q,g,h⟩:=h;subst g;cases r with
 | cons r rr=>
  rw[d];exact assignInOrder_cons (qe (b a s f H _ _ _ I r h) λ_ i ⟨j,l,m,n⟩=>(c a i j l _ _ Q m rr n))
noncomputable def Qs(K:ak)(n:Nat)(t:E_):TG:=λv σ H Q=>∃a xs,v=.ref a/\sH K H a xs/\xs.length=n/\t xs σ H Q
def Zl(g:X.calm=Ka)(h:Kw X es t)
  (i:(iz es X.env).length=n:=by rfl) (j:(iz es X.env).findIdx? (·.1)=J9:=by rfl):PG X (.Tuple es k pos) (Qs X.K n t):=by intro c s l H v u Q I r d;obtain⟨a,m,p,q,w,d⟩:=d;subst p;cases r;obtain⟨B,f,x,C⟩:=I.tuple q;refine assign_Tuple_tuple (I.ok.hd g) x (by simp[i,<- w,f.length]) j λE y=>?_;have A:=I.kept λb o e=>y b o (bo (aG e)) e;exact h c _ l H m _ Q A ⇑f d
def xt(to ti:TE)(t:KL):TG:=λv σ H Q=>to σ H λo H1=>ti σ H1 λi H2=>t o i v H2 λH3=>Q σ H3
def YZ{o i:bi}{e f:TE}{t:KL}(g:PE X o e)(j:PE X i f)(l:Qf X t)
  (N:∀v,assign (.Subscript o i pos) X.env v=(do
   let b <- holding [v] (eval o X.env);let c <- holding [v,b] (eval i X.env)
   standAt pos
   holding [v,b,c] (setItem b c v)
   release [v,b,c] []):=by intro _;rfl):PG X (.Subscript o i pos) (xt e f t):=by intro a s d H v u Q I r h;refine aa (bI (qe (g a s d H _ I h) λb m ⟨x,n,p,q,w⟩=>?_));refine aa (bI (qe (j a m d n _ p w) λc A ⟨y,B,C,E,G⟩=>?_));refine aa (fx (aa (bI (qe (l a A d B x y v b c u _ C q E r G) λ_ O ⟨J,L,M⟩=>?_))));exact wpAny_release ⟨d,J,L,M⟩
def AJ(te:TE)(g:TG):TS:=λD σ H=>te σ H λx H1=>g x σ H1 D.nx
def ZL{b e:bi}{te:TE}{g:TG}(d:PE X e te)(f:PG X b g)(i:lN [b] e pos.line X.env=pure Kb:=by rfl)(j:lO [b] e X.env=pure J9:=by rfl)
  (l:(iz [b] X.env).map (·.2)=[assign b X.env]:=by rfl):PS X (.Assign [b] e pos) (AJ te g):=by intro a s c H D I h;refine wpAny_Assign_stores (qe (d a s c H _ I h) λv m ⟨x,n,o,p,r⟩=>?_) i j;rw[l];exact qe (f a m c n x v _ o p r) λ_ t q=>q
def Fu{i:Nat}{x:aA}{e:bi}{te:TE}{a:Pos}(c:X.N.Nodup)(d:X.N[i]?=JU x)(f:Loc X.env.scope x)(g:PE X e te)(j:swapsWith e (JU (.Name x a)) pos.line X.env=pure Kb:=by rfl)(l:X.fn x=Ka\/X.env.scope.names.lookup x=JU .local:=by first|exact .inl rfl|exact .inr rfl|assumption):
  PS X (.Assign [.Name x a] e pos) (AJ te (yS i)):=by intro b s m H D I h;refine wpAny_Assign_Name (qe (g b s m H _ I h) λv t ⟨y,n,o,p,q⟩=>?_) j;exact Mr o c d f p (λu r=>⟨_,n,r,q⟩) l
def Xr(i:Nat)(te:TE)(ti:Kv):TS:=λD σ H=>∃x,σ[i]?=JU (JU x)/\te σ H λy H1=>ti x y H1 λz H2=>D.nx (σ.set i (JU z)) H2
def Zy{i:Nat}{x:aA}{e:bi}{te:TE}{d:Operator}{j:Kv}{b:Pos}(q:X.N.Nodup)(n:X.N[i]?=JU x)(f:Loc X.env.scope x)(t:PE X e te)(B:W1 X d j)(C:X.fn x=Ka\/X.env.scope.names.lookup x=JU .local:=by first|exact .inl rfl|exact .inr rfl|assumption):
  PS X (.AugAssign (.Name x b) d e pos) (Xr i te j):=by
 intro a s o H D I h;obtain⟨v,E,h⟩:=h;obtain⟨m,G,J⟩:=I.loc;have g:vH X.env.scope x:=by rcases f with k|k;exact .inl k;exact .inr (.inl k)
 obtain⟨u,r,l⟩:=J i x v n E g;refine wpAny_AugAssign_Name ?_;have p:aq (av X.prog X.w) X.A (eval e X.env) (λw L=>aq (av X.prog X.w) X.A (inplaceOp d u w) (λr M=>aq (av X.prog X.w) X.A (storeName X.env x r) (λ_=>SP X a D .next) X.xe M) X.xe L) X.xe s:=by
  refine qe (t a s o H _ I h) λw O ⟨y,P,Q,S,U⟩=>?_;exact qe (B a O o P v y u w _ Q r S U) λz s2 ⟨zv,Y,Z,r2,q2⟩=>(Mr Z q n f r2 (λs3 I3=>⟨_,Y,I3,q2⟩) C)
 rcases l with⟨hk,hm⟩|⟨hk,c,hc,tK⟩
 ·exact lE I.ok.kind hk G hm p
 ·rcases hk with hk|hk
  ·exact lU I.ok.kind hk hc tK p
  ·rcases f with k|k
   ·have:X.env.scope.names.lookup x=JU .free:=hk;rw[k] at this;cases this
   ·have:X.env.scope.names.lookup x=JU .free:=hk;rw[k] at this;cases this
def ipI(f:Int->Int->Int):Kv:=λx y H Q=>∃i j,x=.int i/\y=.int j/\Q (.int (f i j)) H
def YJ:W1 X .Add (ipI λi j=>i+j):=by intro a s f H x y v u Q I b c h;obtain⟨i,j,d,e,q⟩:=h;subst d;subst e;obtain⟨t,rfl⟩:=b;obtain⟨g,rfl⟩:=c;exact iadd_int ⟨.int _,H,I.tok _,⟨_,rfl⟩,q⟩
end
section
variable{X:Cx}{pos:Pos}
noncomputable def YU(c:TT)(tb:TS):TS:=λD σ H=>∃W:Nat->St->Hp->Prop,(∃m,W m σ H)/\∀m σ H,W m σ H->
 c σ H λb H1=>if b=Ka then ∃N:St->Hp->Prop,(∀σ' H',N σ' H'->∃m',m'<m/\W m' σ' H')/\tb { D with nx:=N,ct:=N,bk:=D.nx } σ H1 else D.nx σ H1
def zdI{c:bi}{body:List eO}{u:TT}{x:TS}(y:jA (av X.prog X.w) X.A X.env X.xe)(L:PT X c u)(M:tL X body x):PS X (.While c body [] pos) (YU u x):=by
 intro a s O H D I h;obtain⟨W,⟨P,Q⟩,d⟩:=h;refine wpAny_While (codeAny_whileLoop (λn S=>∃e B,Inv X a e B S/\W n e B) ?_ P ⟨O,H,I,Q⟩);rintro n U ⟨j,C,Y,Z⟩;refine fT y (qe (L a U j C _ Y (d n j C Z)) λb s2 ⟨E,G,l⟩=>?_);cases b with
 | true=>
  obtain⟨N,J,l⟩:=l;refine fT y (qe (M a s2 j E _ G l) λf s3 m=>?_);cases f with
  | next=>
   obtain⟨g,i,o,p⟩:=m;obtain⟨q,r,t⟩:=J g i p;exact⟨q,r,g,i,o,t⟩
  | cont=>
   obtain⟨g,i,o,p⟩:=m;obtain⟨q,r,t⟩:=J g i p;exact⟨q,r,g,i,o,t⟩
  |brk=>exact m
  |ret v=>exact m
 | false=>
  exact iY ⟨j,E,G,l⟩
end
structure It where
 go:Nat->Hp->Prop
 yld:Nat->Hp->V->Hp->Prop
 stop:Nat->Hp->Prop
def sY(X:Cx)(YP:List (af×Obj))(H:Hp)(b:af):Prop:=
 H b=J9/\b≠X.env.locals/\b∉X.fs/\(b∈X.ex\/X.s₀.heap.objs.size<=b)/\(∀x c,X.env.cells.lookup x=JU c->c≠b)/\∀p∈X.pn++YP,p.1≠b
def Inv.fpOk(I:Inv X YP σ H s)(a:s.heap.objs.size<=b)(d:H' b=J9):sY X YP H' b:=by
 refine⟨d,dZ (aW I.lt a),I.nofs a,.inr (aI I.sz a),λx c e z=>?_,λp f z=>?_⟩
 ·obtain⟨v,q⟩:=I.cell x c e;exact absurd (aW q.lt (by rw[z];exact a)) (bM _)
 ·exact absurd (aW (aG (I.pin p f).1) (by rw[z];exact a)) (bM _)
structure yL(P:aU)(w:be)(K:ak)(tg:bi)(J:It)(fp:List af)(it:af)(tn:Nat->aX->Prop):Prop where
 mem:it∈fp
 obj:∀i h,tn i h->∀b∈fp,∃o,h.get? b=JU o/\∀v,o.data ≠ .cell v
 keep:∀i h h',tn i h->(∀b∈fp,∀o,h.get? b=JU o->h'.get? b=JU o)->tn i h'
 item:∀(X:Cx),X.prog=P->X.w=w->X.K=K->X.calm=Ka->∀(i:Nat)(YP:List (af×Obj))(s:ai)(σ:St)(H:Hp)(E:ae->ai->Prop),Inv X YP σ H s->(∀b∈fp,sY X YP H b)->tn i s.heap->J.go i H->
  aq (av P w) X.A (pyNext (.ref it)) (λr s1=>∃u,r=JU u/\
   aq (av P w) X.A (letOwnedTupleGo tg (.ref it) u) (λ_ s2=>∃x H',Inv X YP σ H' s2/\RelV x u/\J.yld i H x H'/\tn (i+1) s2.heap/\∀b∈fp,H' b=J9) E s1) E s
 done:∀(X:Cx),X.prog=P->X.w=w->X.K=K->X.calm=Ka->∀(i:Nat)(YP:List (af×Obj))(s:ai)(σ:St)(H:Hp)(E:ae->ai->Prop),Inv X YP σ H s->(∀b∈fp,sY X YP H b)->tn i s.heap->J.stop i H->
  aq (av P w) X.A (pyNext (.ref it)) (λr s1=>r=J9/\Inv X YP σ H s1) E s
 self:∀(A:bD)(i:Nat)(s:ai)(Q:ae->ai->Prop)(E:ae->ai->Prop),tn i s.heap->Q (.ref it) s->aq (av P w) A (pyIter (.ref it)) Q E s
abbrev TI:=St->Hp->(It->Hp->Prop)->Prop
def W2(X:Cx)(YP:List (af×Obj))(σ:St)(tg:bi)(R:It->Hp->Prop)(GI:ae)(s2:ai):Prop:=
 ∃(it:af)(fp:List af)(tn:Nat->aX->Prop)(J:It)(H':Hp),GI=.ref it/\Inv X YP σ H' s2/\yL X.prog X.w X.K tg J fp it tn/\tn 0 s2.heap/\(∀b∈fp,sY X YP H' b)/\R J H'
def PI(X:Cx)(tg iter:bi)(wi:TI):Prop:=
 ∀(YP:List (af×Obj))(s:ai)(σ:St)(H:Hp)(R:It->Hp->Prop),Inv X YP σ H s->wi σ H R->
  aq (av X.prog X.w) X.A (eval iter X.env) (λv s1=>aq (av X.prog X.w) X.A (pyIter v) (W2 X YP σ tg R) X.xe s1) X.xe s
def Fq(b:s.heap.get? it=JU o)(c:o.cls=.type n)(d:o.data=.fields vs)
  (e:["enumerate", "zip", "dict_itemiterator", "dict_reverseitemiterator", "odict_iterator", "itertools.zip_longest", "itertools.pairwise"].contains n=Kb) (a:Q () s):aq M A (letOwnedTupleGo tg (.ref it) u) Q E s:=by
 cases tg<;>first
  |exact ah a
  | (cases u<;>first
    |exact ah a
    | (refine aa (wpAny_load b ?_)
       rw[c,d];show aq M A (if (["enumerate", "zip", "dict_itemiterator", "dict_reverseitemiterator", "odict_iterator", "itertools.zip_longest", "itertools.pairwise"].contains n&&vs[0]?==JU (cr _))=Ka then _ else _) Q E s;rw[Kf (by intro h;rw[e,iA] at h;cases h)];exact ah a))
noncomputable def KC(K:ak)(a:af):It:=
 ⟨λi H=>∃xs x,qS K H a xs/\xs[i]?=JU x,λi H x H'=>H'=H/\∀xs,qS K H a xs->xs[i]?=JU x,λi H=>∃xs,qS K H a xs/\xs.length<=i⟩
noncomputable def P5(K:ak)(a:af):It:=
 ⟨λi H=>∃xs x,sH K H a xs/\xs[i]?=JU x,λi H x H'=>H'=H/\∀xs,sH K H a xs->xs[i]?=JU x,λi H=>∃xs,sH K H a xs/\xs.length<=i⟩
noncomputable def KA(lo:Int)(n:Nat):It:=⟨λi _=>i<n,λi H x H'=>H'=H/\x=.int (lo+i),λi _=>n<=i⟩
def UI{P:aU}{w:be}{K:ak}{Q:bi}(a it:af):yL P w K Q (KC K a) [it] it (λi h=>h.IsListIter it a i) where
 mem:=by simp
 obj:=λi h f b g=>by
  have e:b=it:=⇑g
  subst e;obtain⟨o,e,c,d⟩:=f;exact⟨o,e,λv z=>by rw[d] at z;cases z⟩
 keep:=λi h M f k=>f.at λo e=>k it 'k' o e
 item:=by
  intro X n q r N i j s S H E I l f t;subst n q r;obtain⟨U,x,m,y⟩:=t;obtain⟨Y,A,p,Z⟩:=I.list m;obtain⟨u,hu,ru⟩:=A.get y;obtain⟨B,C,f2,G,J,L⟩:=l it 'k';refine wpAny_pyNext_list_item f p.isList ⇑hu λM O sb=>?_;have I1:=I.turned (λb o g e=>(sb.2 b g).trans e) B C G J L;obtain⟨o,e,c,d⟩:=id O;exact⟨u,rfl,Fq e c d 'u' ⟨x,H,I1,ru,⟨rfl,λys hy=>by rw[I.list_inj hy m];exact y⟩,O,λb g=>(l b g).1⟩⟩
 done:=by
  intro X n q r N i j s S H E I l f t;subst n q r;obtain⟨U,m,y⟩:=t;obtain⟨Y,A,p,Z⟩:=I.list m;obtain⟨B,C,f2,G,J,L⟩:=l it 'k';have hl:=A.length;exact wpAny_pyNext_list_end (I.ok.hd N) f p.isList (by simp;lia) λM eb=>⟨rfl,I.turned (λb o g e=>eb b o g e) B C G J L⟩
 self:=λ_ _ _ _ _ f h=>wpAny_pyIter_listiter f h
def zan{P:aU}{w:be}{K:ak}{Q:bi}(a it:af):yL P w K Q (P5 K a) [it] it (λi h=>h.IsTupleIter it a i) where
 mem:=by simp
 obj:=λi h f b g=>by
  have e:b=it:=⇑g
  subst e;obtain⟨o,e,c,d⟩:=f;exact⟨o,e,λv z=>by rw[d] at z;cases z⟩
 keep:=λi h M f k=>f.at λo e=>k it 'k' o e
 item:=by
  intro X n q r N i j s S H E I l f t;subst n q r;obtain⟨U,x,m,y⟩:=t;obtain⟨Y,A,p,Z⟩:=I.tuple m;obtain⟨u,hu,ru⟩:=A.get y;obtain⟨B,C,f2,G,J,L⟩:=l it 'k';refine wpAny_pyNext_tuple_item f (p) ⇑hu λM O sb=>?_;have I1:=I.turned (λb o g e=>(sb.2 b g).trans e) B C G J L;obtain⟨o,e,c,d⟩:=id O;exact⟨u,rfl,Fq e c d 'u' ⟨x,H,I1,ru,⟨rfl,λys hy=>by rw[I.tuple_inj hy m];exact y⟩,O,λb g=>(l b g).1⟩⟩
 done:=by
  intro X n q r N i j s S H E I l f t;subst n q r;obtain⟨U,m,y⟩:=t;obtain⟨Y,A,p,Z⟩:=I.tuple m;obtain⟨B,C,f2,G,J,L⟩:=l it 'k';have hl:=A.length;exact wpAny_pyNext_tuple_end (I.ok.hd N) f (p) (by simp;lia) λM eb=>⟨rfl,I.turned (λb o g e=>eb b o g e) B C G J L⟩
 self:=λ_ _ _ _ _ f h=>wpAny_pyIter_tupleiter f h
def z9P{P:aU}{w:be}{K:ak}{J:bi}(it:af)(f:Int)(n:Nat):yL P w K J (KA f n) [it] it (λi h=>IsRangeIter h it (f+(i:Nat)*1) ((n:Int)-(i:Nat)) 1) where
 mem:=by simp
 obj:=λi h a b d=>by
  have e:b=it:=⇑d
  subst e;exact⟨_,a,λv z=>by
   have L:=z;cases L⟩
 keep:=λi h j a k=>k it 'k' _ a
 item:=by
  intro X y A B l i c s C H E I g a m;subst y A B;obtain⟨p,q,M,r,u,x⟩:=g it 'k';have W:=Walks.range (prog:=X.prog) (w:=X.w) (I.ok.hd l) it f 1 n;refine gq I.tk (W.item i s _ _ m a λv j N O G Q Y=>?_);obtain⟨t,rfl⟩:=O;have S:Inv X c C H { s with heap:=j,toks:=N }:=I.turned (λb o d e=>Q b o ⇑d e) p q r u x;refine⟨_,rfl,Fq G rfl rfl 'u' ⟨.int (f+i),H,S,⟨t,?_⟩,⟨rfl,rfl⟩,G,λb d=>(g b d).1⟩⟩;rw[Int.mul_one]
 done:=by
  intro X y A B l i c s C H E I g a m;obtain⟨p,q,M,r,u,x⟩:=g it 'k';exact wpAny_pyNext_range_end (I.ok.hd l) a (by have:n<=i:=m;lia) λj U=>⟨rfl,I.turned (λb o d e=>U b o d e) p q r u x⟩
 self:=λ_ _ _ _ _ a h=>wpAny_pyIter_rangeiter a h
section
variable{X:Cx}
def zeh{c:List (af×Obj)}{σ:St}{H:Hp}{s:ai}{R:It->Hp->Prop}{E:ae->ai->Prop}{a d:Int}{t u v:Tok}{f:Nat}(I:Inv X c σ H s)(h:-(2 ^ 62)<=a)(i:a<2 ^ 62)(j:-(2 ^ 62)<=d)(l:d<2 ^ 62)
  (q:R (KA a (d-a).toNat) H) (r:0<f):aq (av X.prog X.w) X.A (pyIter (.ref s.heap.objs.size)) (W2 X c σ tg R) E { s with heap:=s.heap.push { cls:=.type "range",data:=.fields #[.int a t,.int d u,.int 1 v] },toks:=f }:=by
 refine wpAny_pyIter_range (IsRange.new ..) (small_one h i j l) ?_;have g:Inv X c σ H { s with heap:=s.heap.push { cls:=.type "range",data:=.fields #[.int a t,.int d u,.int 1 v] },toks:=f }:=I.kept λb o e=>ab _ e;refine⟨(s.heap.push { cls:=.type "range",data:=.fields #[.int a t,.int d u,.int 1 v] }).objs.size,[(s.heap.push { cls:=.type "range",data:=.fields #[.int a t,.int d u,.int 1 v] }).objs.size],_,_,H,rfl,
  g.kept λb o e=>ab _ e,z9P _ a (d-a).toNat,?_,λb m=>?_,q⟩
 ·have n:a+((0:Nat):Int)*1=a:=by simp
  have p:(((d-a).toNat:Nat):Int)-((0:Nat):Int)=Builtin.Range.rangeSize a d 1:=by rw[rangeSize_one];split<;>lia
  rw[n,p];exact aB _ rfl
 ·have e:b=(s.heap.push { cls:=.type "range",data:=.fields #[.int a t,.int d u,.int 1 v] }).objs.size:=⇑m
  subst e;exact g.fpOk (aw _) (g.hok.fresh (aw _))
def XO(ta:TA):TI:=λσ H R=>ta σ H λvs H1=>∃j:Int,vs=[.int j]/\-(2 ^ 62)<=j/\j<2 ^ 62/\R (KA 0 j.toNat) H1
def zcI{a:bi}{f:TA}{p b:Pos}(i:Gl X "range")(l:X.mg "range" = J9)(m:PA X [a] f)(n:aL [a] X.env=[(Kb,eval a X.env)]:=by rfl):PI X tg (.Call (.Name "range" p) [a] [] b) (XO f):=by
 intro c s o H R I h;refine lC (CS I i l boot_range (fL (qe (m b c s o H _ I h) λw x ⟨y,A,g,u,d⟩=>?_) n rfl));obtain⟨j,e,d,v,q⟩:=d;subst e;cases u with
 | cons r rr=>
  cases rr;obtain⟨t,rfl⟩:=r;exact call_range_1 (zeh g 'd' 'd' d v ⇑q (by first|exact dq _|exact g.tk))
noncomputable def Xd(wi:TI)(g:TG)(tb:TS):TS:=λD σ H=>wi σ H λJ H1=>∃W:Nat->Nat->St->Hp->Prop,(∃m,W 0 m σ H1)/\∀i m σ H,W i m σ H->
 (J.stop i H/\D.nx σ H)\/(J.go i H/\∃N:St->Hp->Prop,(∀σ' H',N σ' H'->∃m',m'<m/\W (i+1) m' σ' H')/\∀x H',J.yld i H x H'->g x σ H' λt5 H2=>tb { D with nx:=N,ct:=N,bk:=D.nx } t5 H2)
def Fx(fp:List af)(h:aX):List (af×Obj):=fp.filterMap λb=>(h.get? b).map λo=>(b,o)
def Jh(a:b∈fp)(e:h.get? b=JU o):(b,o)∈Fx fp h:=il.mpr ⟨b,a,by rw[e];rfl⟩
def zcD(a:p∈Fx fp h):p.1∈fp/\h.get? p.1=JU p.2:=by
 obtain⟨b,c,e⟩:=il.mp a;cases q:h.get? b with
 |none=>rw[q] at e;cases e
 | some o=>
  rw[q] at e;have d:=cf e;subst d;exact⟨c,q⟩
def Inv.pinned(I:Inv X YP σ H s)(f:∀b∈fp,sY X YP H b)(g:∀b∈fp,∃o,s.heap.get? b=JU o/\∀v,o.data ≠ .cell v):Inv X (YP++Fx fp s.heap) σ H s:=
 I.pins_of λp h=>(aO.mp h).elim (λz=>I.pin p (az _ z)) λz=>by
  obtain⟨a,e⟩:=zcD z;obtain⟨i,j,l,_⟩:=f p.1 a;obtain⟨o,c,d⟩:=g p.1 a;rw[e] at c;cases c;exact⟨e,i,j,l,d⟩
def Inv.unpinned(I:Inv X (YP++pl) σ H s):Inv X YP σ H s:=I.pins_of λp a=>I.pin p (az _ (bK _ a))
def LA(C:jA (av X.prog X.w) X.A X.env X.xe)(hc:X.calm=Ka)(hi:PI X tg iter wi)(hg:PG X tg g)(c:tL X body tb)
  (hs:∀x,cb iter X.env x=pure x:=by intro _;rfl):PS X (.For tg iter body [] pos) (Xd wi g tb):=by
 intro a s σ H D I h;refine wpAny_For (qe (hi a s σ H _ I h) λv s1 h1=>qe h1 λGI s2 h2=>?_) hs;obtain⟨it,E,tn,J,H2,e,I2,T,qF,f2,W,⟨m0,w0⟩,G⟩:=h2;subst e
 -- what stays Ka of the Dc objects through the loop
 have S:∀{y:Hp},(∀b∈E,y b=J9)->∀b∈E,sY X a y b:=λhn b c=>⟨hn b c,(f2 b c).2⟩;refine codeAny_forLoop_any (λn s'=>∃i j y,Inv X a j y s'/\tn i s'.heap/\(∀b∈E,y b=J9)/\W i n j y) ?_ m0 ⟨0,σ,H2,I2,qF,λb c=>(f2 b c).1,w0⟩;rintro n s3 ⟨i,L,Q,I3,qy,Ko,w3⟩;rcases G i n L Q w3 with⟨M,qn⟩|⟨go,N,hN,O⟩
 ·refine fT C (qe (T.done X rfl rfl rfl hc i a s3 L Q X.xe I3 (S Ko) qy M) λr s4 ⟨U,I4⟩=>?_);subst U;exact iY ⟨L,Q,I4,qn⟩
 ·refine fT C (qe (T.item X rfl rfl rfl hc i a s3 L Q X.xe I3 (S Ko) qy go) λr s4 ⟨u,U,h4⟩=>?_);subst U;refine fT C (qe h4 λ_ s5 ⟨x,H5,I5,r5,y5,Y,Z⟩=>?_);have I5':=I5.pinned (S Z) (T.obj _ _ Y);refine fT C (qe (hg _ s5 L H5 x u _ I5' r5 (O x H5 y5)) λ_ s6 ⟨xq,H6,I6,q6⟩=>(fT C (qe (c _ s6 xq H6 _ I6 q6) λf s7 B=>?_)));have l:∀{p:St}{q:Hp},Inv X (a++Fx E s5.heap) p q s7->N p q->∃m,m<n/\∃i j y,Inv X a j y s7/\tn i s7.heap/\(∀b∈E,y b=J9)/\W i m j y:=λ{p q}t P=>by
   obtain⟨m',hm,w7⟩:=hN p q P;refine⟨m',hm,i+1,p,q,t.unpinned,T.keep _ _ _ Y λb c o e=>(t.pin (b,o) (az _ (az _ (Jh c e)))).1,λb c=>?_,w7⟩;obtain⟨o,e,d⟩:=T.obj _ _ Y b c;exact(t.pin (b,o) (az _ (az _ (Jh c e)))).2.1
  cases f with
  |next=>obtain⟨p,q,t,P⟩:=B;exact l t P
  |cont=>obtain⟨p,q,t,P⟩:=B;exact l t P
  |brk=>obtain⟨p,q,t,B⟩:=B;exact⟨p,q,t.unpinned,B⟩
  |ret v=>obtain⟨x7,p,q,t,r7,B⟩:=B;exact⟨x7,p,q,t.unpinned,r7,B⟩
end
abbrev R2:=V->V->Hp->VK->Prop
def rg(X:Cx)(f:ae->ae->Sem ae)(r:R2):Prop:=
 ∀(YP:List (af×Obj))(s:ai)(σ:St)(H:Hp)(x y:V)(v u:ae)(Q:VK),Inv X YP σ H s->RelV x v->RelV y u->r x y H Q->
  aq (av X.prog X.w) X.A (f v u) (EP X YP σ Q) X.xe s
def P0(X:Cx)(f:ae->Sem ae)(r:V->Hp->VK->Prop):Prop:=
 ∀(YP:List (af×Obj))(s:ai)(σ:St)(H:Hp)(x:V)(v:ae)(Q:VK),Inv X YP σ H s->RelV x v->r x H Q->
  aq (av X.prog X.w) X.A (f v) (EP X YP σ Q) X.xe s
def oY(X:Cx)(f:ae)(r:List V->Hp->VK->Prop):Prop:=
 ∀(YP:List (af×Obj))(s:ai)(σ:St)(H:Hp)(xs:List V)(us:List ae)(Q:VK),Inv X YP σ H s->oQ xs us->r xs H Q->
  aq (av X.prog X.w) X.A (call f us) (EP X YP σ Q) X.xe s
def Xu(X:Cx)(r:V->Hp->(Bool->Hp->Prop)->Prop):Prop:=
 ∀(YP:List (af×Obj))(s:ai)(σ:St)(H:Hp)(x:V)(v:ae)(Q:Bool->Hp->Prop),Inv X YP σ H s->RelV x v->r x H Q->
  aq (av X.prog X.w) X.A (truthy v) (TP X YP σ Q) X.xe s
def Gg(r:R2)(ta tb:TE):TE:=λσ H Q=>ta σ H λx H1=>tb σ H1 λy H2=>r x y H2 Q
def tUn(r:V->Hp->VK->Prop)(ta:TE):TE:=λσ H Q=>ta σ H λx H1=>r x H1 Q
def rI(C:Int->Int->Prop)(g:Int->Int->V):R2:=λx y H Q=>∃i j,x=.int i/\y=.int j/\C i j/\Q (g i j) H
def xS(g:Int->Int->V):R2:=λx y H Q=>∃i j,x=.int i/\y=.int j/\Q (g i j) H
def rU(g:Int->V):V->Hp->VK->Prop:=λx H Q=>∃i,x=.int i/\Q (g i) H
section
variable{X:Cx}{a b:bi}{pos:Pos}
def KY(i:PE X a ta)(j:PE X b tb){c:List (af×Obj)}{s:ai}{σ:St}{H:Hp}{R:V->V->Hp->Prop}(I:Inv X c σ H s)
  (h:ta σ H λx g=>tb σ g λy d=>R x y d) {Q:ae->ai->Prop} {f:ae->ae->Sem ae}
  (l:∀v u e x y d,Inv X c σ d e->RelV x v->RelV y u->R x y d->aq (av X.prog X.w) X.A (f v u) Q X.xe e):
  aq (av X.prog X.w) X.A (eval a X.env) (λv m=>aq (av X.prog X.w) X.A (eval b X.env) (λu n=>aq (av X.prog X.w) X.A (f v u) Q X.xe n) X.xe m) X.xe s:=by refine qe (i c s σ H _ I h) λv o ⟨x,g,p,q,r⟩=>?_;exact qe (j c o σ g _ p r) λu e ⟨y,d,t,B,C⟩=>(l v u e x y d t q B C)
def X9{d:Operator}{r:R2}(e:rg X (e8 d) r)(f:PE X a ta)(g:PE X b tb):PE X (.BinOp a d b pos) (Gg r ta tb):=by intro c s i H Q I h;exact wpAny_BinOp (KY f g I h λv u j x y l m n o q=>e c j i l x y v u Q m n o q)
def X5(e:P0 X (unaryOp op) r)(f:PE X a ta):PE X (.UnaryOp op a pos) (tUn r ta):=by intro c s d H Q I h;exact UnaryOp_ (qe (f c s d H _ I h) λv g ⟨x,i,j,l,m⟩=>e c g d i x v Q j l m)
def EO{f:ae->ae->Sem ae}{C:Int->Int->Prop}{g:Int->Int->Int}
  (c:∀(i j:Int)(t u:Tok)(s:ai)(Q:ae->ai->Prop)(E:ae->ai->Prop),C i j->Q (.int (g i j) s.toks) { s with toks:=s.toks+1 }->aq (av X.prog X.w) X.A (f (.int i t) (.int j u)) Q E s):
  rg X f (rI C λi j=>.int (g i j)):=by intro d s o H x y v u Q I e l h;obtain⟨i,j,rfl,rfl,m,q⟩:=h;obtain⟨t,rfl⟩:=e;obtain⟨n,rfl⟩:=l;exact c i j t n s _ _ m ⟨.int (g i j),H,I.tok _,⟨_,rfl⟩,q⟩
def KI{f:ae->ae->Sem ae}{g:Int->Int->Int}
  (c:∀(i j:Int)(t u:Tok)(s:ai)(Q:ae->ai->Prop)(E:ae->ai->Prop),Q (.int (g i j) s.toks) { s with toks:=s.toks+1 }->aq (av X.prog X.w) X.A (f (.int i t) (.int j u)) Q E s):
  rg X f (xS λi j=>.int (g i j)):=by intro d s n H x y v u Q I e l h;obtain⟨i,j,rfl,rfl,q⟩:=h;obtain⟨t,rfl⟩:=e;obtain⟨m,rfl⟩:=l;exact c i j t m s _ _ ⟨.int (g i j),H,I.tok _,⟨_,rfl⟩,q⟩
def K0{f:ae->ae->Sem ae}{g:Int->Int->Bool}
  (c:∀(i j:Int)(t u:Tok)(s:ai)(Q:ae->ai->Prop)(E:ae->ai->Prop),Q (.bool (g i j)) s->aq (av X.prog X.w) X.A (f (.int i t) (.int j u)) Q E s):
  rg X f (xS λi j=>.bl (g i j)):=by intro d s n H x y v u Q I e l h;obtain⟨i,j,rfl,rfl,q⟩:=h;obtain⟨t,rfl⟩:=e;obtain⟨m,rfl⟩:=l;exact c i j t m s _ _ ⟨.bl (g i j),H,I,rfl,q⟩
def Qw(i j:Int):Prop:=0<j/\j<1073741824
def HK(i j:Int):Prop:=0<=j/\j<=1000000/\i.natAbs<2 ^ 64
def pQ(i j:Int):Prop:=(-(2 ^ 64)<i/\i<2 ^ 64)\/(-(2 ^ 64)<j/\j<2 ^ 64)
def pQ.ok(h:pQ i j):IntMulOk i j:=by
 rcases h with⟨c,d⟩|⟨c,d⟩
 ·exact .of_left (intBits_le_64 c d)
 ·exact .of_right (intBits_le_64 c d)
def z9Q(k):(0:Int)<=2 ^ k:=by rw[two_pow_cast];exact Int.natCast_nonneg _
def ziK:rg X (e8 .Add) (xS λi j=>.int (i+j)):=KI λ_ _ _ _ _ _ _ q=>add_int q
def ZD:rg X (e8 .Sub) (xS λi j=>.int (i-j)):=KI λ_ _ _ _ _ _ _ q=>sub_int q
def ziP:rg X (e8 .Mult) (rI pQ λi j=>.int (i*j)):=EO λ_ _ _ _ _ _ _ c q=>mul_int q c.ok
def zg4:rg X (e8 .FloorDiv) (rI Qw λi j=>.int (i/j)):=EO λi j _ _ _ _ _ c q=>by
 have d:=c.1;have e:=c.2;exact floordiv_int 'd' (by rw[jJ i 'd'];exact q) (.inl (PyProof.noPylong_small 'd'))
def Yy:rg X (e8 .Mod) (rI (λ_ j=>0<j) λi j=>.int (i%j)):=EO λi j _ _ _ _ _ c q=>by
 exact mod_int' 'd' (by rw[Int.fmod_eq_emod_of_nonneg i 'd'];exact q)
def Z6:rg X (e8 .Pow) (rI HK λi j=>.int (i ^ j.toNat)):=EO λ_ _ _ _ _ _ _ c q=>pow_int_small c.1 c.2.1 c.2.2 q
def ziS:rg X (e8 .LShift) (rI HK λi j=>.int (i*2 ^ j.toNat)):=EO λ_ _ _ _ _ _ _ c q=>lshift_int_small c.1 c.2.1 c.2.2 q
def YD:rg X (e8 .RShift) (rI (λ_ j=>0<=j) λi j=>.int (i/2 ^ j.toNat)):=EO λi j _ _ _ _ _ c q=>
 rshift_int c (by rw[jJ i (z9Q _)];exact q)
def Y8:rg X (e8 .BitAnd) (xS λi j=>.int (dM i j)):=KI λ_ _ _ _ _ _ _ q=>and_int q
def unI{f:ae->Sem ae}{g:Int->Int}
  (c:∀(i:Int)(t:Tok)(s:ai)(Q:ae->ai->Prop)(E:ae->ai->Prop),Q (.int (g i) s.toks) { s with toks:=s.toks+1 }->aq (av X.prog X.w) X.A (f (.int i t)) Q E s):
  P0 X f (rU λi=>.int (g i)):=by intro d s j H x v Q I e h;obtain⟨i,rfl,q⟩:=h;obtain⟨t,rfl⟩:=e;exact c i t s _ _ ⟨.int (g i),H,I.tok _,⟨_,rfl⟩,q⟩
def Zu:P0 X (unaryOp .Invert) (rU λi=>.int (dk i)):=unI λ_ _ _ _ _ q=>invert_int q
end
section
variable{X:Cx}{a b c:bi}{pos:Pos}
def Lz(I:Inv X YP σ H s)(q:Q (.bl k) H)(e:k=k'):EP X YP σ Q (.bool k') s:=by subst e;exact⟨.bl k,H,I,rfl,q⟩
def Q6:rg X (cN .Lt) (xS λi j=>.bl (decide (i<j))):=K0 λ_ _ _ _ _ _ _ q=>lt_int q
def Lb:rg X (cN .LtE) (xS λi j=>.bl (decide (i<=j))):=K0 λ_ _ _ _ _ _ _ q=>le_int q
def Qz:rg X (cN .GtE) (xS λi j=>.bl (decide (j<=i))):=K0 λ_ _ _ _ _ _ _ q=>ge_int q
def zaL:rg X (cN .In) (λx y H Q=>∃i j,x=.str i/\y=.str j/\Q (.bl (!(cq j i 0 j.length 1).isEmpty)) H):=by intro d s g H x y v u Q I e f h;obtain⟨i,j,rfl,rfl,q⟩:=h;obtain⟨t,rfl⟩:=e;obtain⟨l,rfl⟩:=f;exact in_str (Lz I q rfl)
def ziM:rg X (cN .Is) (λx y H Q=>y=.non/\Q (.bl (decide (x=.non))) H):=by
 intro d s g H x y v u Q I e f h;obtain⟨rfl,q⟩:=h;cases f;refine is_none_gen (Lz I q ?_);cases x<;>first
  |(cases e;rfl)
  |(obtain⟨t,rfl⟩:=e;rfl)
def z7c:rg X (cN .NotIn) (λx y H Q=>∃i j,x=.str i/\y=.str j/\Q (.bl (!(!(cq j i 0 j.length 1).isEmpty))) H):=by intro d s g H x y v u Q I e f h;obtain⟨i,j,rfl,rfl,q⟩:=h;obtain⟨t,rfl⟩:=e;obtain⟨l,rfl⟩:=f;exact notIn_str (Lz I q rfl)
def rg.or(h:rg X f r)(j:rg X f r'):rg X f (λx y H Q=>r x y H Q\/r' x y H Q):=by
 intro d s e H x y v u Q I g i q;rcases q with q|q
 ·exact h d s e H x y v u Q I g i q
 ·exact j d s e H x y v u Q I g i q
def FK(b)(h:op ≠ .In:=by decide)(d:op ≠ .NotIn:=by decide):behindInMarks op b=Kb:=by
 have e:(op==CmpOp.In)=Kb:=by cases op<;>first|rfl|exact absurd rfl h
 have f:(op==CmpOp.NotIn)=Kb:=by cases op<;>first|rfl|exact absurd rfl d
 cases b<;>simp[behindInMarks,e,f]
def zgc{e:CmpOp}{r:R2}(f:rg X (cN e) r)(g:PE X a ta)(i:PE X b tb)(j:behindInMarks e b=Kb):PE X (.Compare a [e] [b] pos) (Gg r ta tb):=by intro d s l H Q I h;exact wpAny_Compare1 (KY g i I h λv u m x y n o p t q=>f d m l n x y v u Q o p t q) j
def QE(t:TE):TT:=λσ H Q=>t σ H λx H'=>∃k,x=.bl k/\Q k H'
def zga(g:rg X (cN op) r)(i:PE X a ta)(j:PE X b tb)(l:behindInMarks op b=Kb):PT X (.Compare a [op] [b] pos) (QE (Gg r ta tb)):=by
 intro d s f H Q I h;refine kU (qe (i d s f H _ I h) λv m ⟨x,n,o,p,q⟩=>qe (j d m f n _ o q) λu t ⟨y,w,A,B,C⟩=>
  qe (g d t f w x y v u _ A p B C) λc M ⟨z,E,G,J,k,e,L⟩=>?_) l
 subst e;cases J;exact cZ ⟨E,G,L⟩
noncomputable def Zg(r r':R2)(ta tb tc:TE):TE:=λσ H Q=>ta σ H λx H1=>tb σ H1 λy H2=>r x y H2 λz H3=>∃k,z=.bl k/\
 (if k=Ka then tc σ H3 λw' H4=>r' y w' H4 Q else Q (.bl Kb) H3)
def zdX(n:rg X (cN op) r)(o:rg X (cN ER) r')(p:PE X a ta)(q:PE X b tb)(t:PE X c tc)
  (w:lastMarks [op,ER] [b,c]=Kb:=by with_unfolding_all rfl):PE X (.Compare a [op,ER] [b,c] pos) (Zg r r' ta tb tc):=by
 intro f s g H Q I h;refine Compare_chain (qe (p f s g H _ I h) λv A ⟨x,B,C,E,G⟩=>chain_link (qe (q f A g B _ C G) λu J ⟨y,L,M,i,N⟩=>
  qe (n f J g L x y v u _ M E i N) λd O ⟨z,j,l,P,k,e,m⟩=>?_)) w
 subst e;cases P;refine cZ ?_;cases k with
 |false=>exact ite_ff ⟨.bl Kb,j,l,rfl,m⟩
 |true=>exact ite_tt (chain_last (qe (t f O g j _ l m) λS U ⟨Y,Z,I4,r4,q4⟩=>o f U g Z y Y u S Q I4 i r4 q4))
def Qu(K:ak)(x:V)(H:Hp)(k:Bool):Prop:=
 match x with
 |.non=>k=Kb
 |.bl b=>k=b
 |.int i=>k=(i !=0)
 |.str y=>y.length<=aM/\k=((y.length:Int) !=0)
 |.byt y=>y.size<=aM/\k=((y.size:Int) !=0)
 |.ref p=>(∃xs,qS K H p xs/\k = !xs.isEmpty)\/(∃xs,sH K H p xs/\k = !xs.isEmpty) \/ ∃d_,H p=JU (.dK d_)/\k = !d_.isEmpty
 |_=>False
def za1{κ:Type}{d:List (κ×V)}{e:List (κ×ae)}(r:KV d e):(!e.isEmpty) = !d.isEmpty:=by cases r<;>rfl
def U9{xs:List V}{d:List ae}(r:oQ xs d):(!d.toArray.isEmpty) = !xs.isEmpty:=by cases r<;>simp
def IH:(aM)<2 ^ 63:=by rw[kM];decide
def Z5:Xu X (λx H Q=>∃k,Qu X.K x H k/\Q k H):=by
 intro o s J H x v Q I g h;obtain⟨k,e,q⟩:=h;have L:=kM;cases x with
 | non=>
  cases g;have d:=e;subst d;exact truthy_none ⟨H,I,q⟩
 | bl b=>
  cases g;have d:=e;subst d;exact cZ ⟨H,I,q⟩
 | int i=>
  obtain⟨t,rfl⟩:=g;have d:=e;subst d;exact PySem.P.truthy_int ⟨H,I,q⟩
 | str y=>
  obtain⟨t,rfl⟩:=g;obtain⟨B,d⟩:y.length<=aM/\k=((y.length:Int) !=0):=e;subst d;exact PySem.P.truthy_str 'd' ⟨H,I.tok _,q⟩
 | byt y=>
  obtain⟨t,rfl⟩:=g;obtain⟨B,d⟩:y.size<=aM/\k=((y.size:Int) !=0):=e;subst d;exact PySem.W.truthy_bytes 'd' ⟨H,I.tok _,q⟩
 | ref p=>
  cases g;have d:=e;rcases d with⟨C,j,d⟩|⟨C,j,d⟩|⟨u,j,d⟩
  ·subst d;obtain⟨E,r,l,A⟩:=I.list j;have f:=r.length;exact wpAny_truthy_list l.isList (by simp;lia) ⟨H,I.tok _,by rw[U9 r];exact q⟩
  ·subst d;obtain⟨E,r,l,A⟩:=I.tuple j;have f:=r.length;exact truthy_tuple l (by simp;lia) ⟨H,I.tok _,by rw[U9 r];exact q⟩
  ·subst d;obtain⟨A,G,n,r,m⟩:u.length<=aM/\(p==sysModules)=Kb/\∃n,KV u n/\s.heap.DictOf (u6 X.prog X.w) p n:=I.hok p _ j;have f:=jH r;exact wpAny_truthy_dict G m 'd' ⟨H,I.tok _,by rw[za1 r];exact q⟩
 |_=>exact(e).elim
def zec(f:PE X a ta)(g:∀d,isTrue a X.env d=(do let v <- d;standAt a.pos;holding [v] (truthy v))):
  PT X a (λσ H Q=>ta σ H λx H'=>∃k,Qu X.K x H' k/\Q k H'):=by intro e s σ H Q I h;exact isTrue_plain (qe (f e s σ H _ I h) λv i ⟨x,j,l,m,n⟩=>Z5 e i σ j x v Q l m n) (g _)
def z9U:rg X (e8 .Add) (λx y H Q=>∃i j,x=.str i/\y=.str j/\i.length+j.length<=aM/\Q (.str (i++j)) H):=by intro d s n H x y v u Q I e f h;obtain⟨i,j,rfl,rfl,g,q⟩:=h;obtain⟨t,rfl⟩:=e;obtain⟨l,rfl⟩:=f;exact gq I.tk (add_str (λl o m=>⟨.str (i++j),H,I.tok _ m,⟨_,rfl⟩,q⟩) g)
def uW(r:oQ [x] us):∃u,us=[u]/\RelV x u:=by
 cases r with
 |cons r1 r2=>cases r2;exact⟨_,rfl,r1⟩
def CG(r:oQ [x,y] us):∃u d,us=[u,d]/\RelV x u/\RelV y d:=by
 cases r with
 | cons r1 r2=>
  cases r2 with
  |cons r3 r4=>cases r4;exact⟨_,_,rfl,r1,r3⟩
def zcH(f:X.calm=Ka):oY X (.builtin "max") (λxs H Q=>∃i j,xs=[.int i,.int j]/\Q (.int (if j>i then j else i)) H):=by
 intro e s l H xs m Q I r h;obtain⟨i,j,rfl,q⟩:=h;obtain⟨u,n,rfl,⟨t,rfl⟩,⟨o,rfl⟩⟩:=CG r;refine gq I.tk (max_two_ints (I.ok.hd f) λp v k g=>⟨_,H,I.kept k g,?_,q⟩);by_cases d:j>i
 ·rw[Kd d,Kd d];exact⟨_,rfl⟩
 ·rw[Kf d,Kf d];exact⟨_,rfl⟩
def zaT(f:X.calm=Ka):oY X (.builtin "min") (λxs H Q=>∃i j,xs=[.int i,.int j]/\Q (.int (if j<i then j else i)) H):=by
 intro e s l H xs m Q I r h;obtain⟨i,j,rfl,q⟩:=h;obtain⟨u,n,rfl,⟨t,rfl⟩,⟨o,rfl⟩⟩:=CG r;refine gq I.tk (min_two_ints (I.ok.hd f) λp v k g=>⟨_,H,I.kept k g,?_,q⟩);by_cases d:j<i
 ·rw[Kd d,Kd d];exact⟨_,rfl⟩
 ·rw[Kf d,Kf d];exact⟨_,rfl⟩
def zau:oY X (.type "int") (λxs H Q=>(∃i,xs=[.int i]/\Q (.int i) H) \/ ∃k,xs=[.bl k]/\Q (.int (if k then 1 else 0)) H):=by
 intro d s f H xs g Q I r h;rcases h with⟨i,rfl,q⟩|⟨k,rfl,q⟩
 ·obtain⟨u,rfl,t,rfl⟩:=uW r;exact call_int_int ⟨.int i,H,I,⟨_,rfl⟩,q⟩
 ·obtain⟨u,rfl,e⟩:=uW r;cases e;exact call_int_bool ⟨.int (if k then 1 else 0),H,I.tok _,⟨_,rfl⟩,q⟩
def z6M:oY X (.type "str") (λxs H Q=>∃i,xs=[.int i]/\i.natAbs.log2<1920/\Q (.str (toString i)) H):=by intro d s f H xs g Q I r h;obtain⟨i,rfl,e,q⟩:=h;obtain⟨u,rfl,t,rfl⟩:=uW r;exact PySem.P.str_of_int e ⟨.str _,H,I.tok _,⟨_,rfl⟩,q⟩
def Qr(K:ak)(x:V)(H:Hp)(n:Nat):Prop:=
 match x with
 |.str y=>y.length<=aM/\n=y.length
 |.byt y=>y.size<=aM/\n=y.size
 |.ref p=>(∃xs,qS K H p xs/\n=xs.length) \/ ∃xs,sH K H p xs/\n=xs.length
 |_=>False
def zdZ:oY X (.builtin "len") (λxs H Q=>∃x n,xs=[x]/\Qr X.K x H n/\Q (.int n) H):=by
 intro m s A H xs B Q I r h;obtain⟨x,n,rfl,e,q⟩:=h;obtain⟨u,rfl,g⟩:=uW r;have C:=kM;cases x with
 | str y=>
  obtain⟨t,rfl⟩:=g;obtain⟨o,f⟩:y.length<=aM/\n=y.length:=e;subst f;exact len_str 'd' ⟨.int _,H,I.tok _,⟨_,rfl⟩,q⟩
 | byt y=>
  obtain⟨t,rfl⟩:=g;obtain⟨o,f⟩:y.size<=aM/\n=y.size:=e;subst f;exact PySem.W.len_bytes 'd' ⟨.int _,H,I.tok _,⟨_,rfl⟩,q⟩
 | ref p=>
  cases g;have f:=e;rcases f with⟨xs,i,f⟩|⟨xs,i,f⟩
  ·subst f;obtain⟨v,j,l,w⟩:=I.list i;have d:=j.length;exact Calls.call_len_list l.isList (by simp;lia) ⟨.int xs.length,H,I.tok _,⟨_,by simp only[aS];rw[d]⟩,q⟩
  ·subst f;obtain⟨v,j,l,w⟩:=I.tuple i;have d:=j.length;exact len_tuple l (by simp;lia) ⟨.int xs.length,H,I.tok _,⟨_,by simp only[aS];rw[d]⟩,q⟩
 |_=>exact(e).elim
end
structure zna(h:aX)(x dx C:af)(mA:aA->Option ae):Prop where
 obj:h.get? x=JU (nK C dx)
 ns:h.Ns1 dx mA
 ne:dx≠x
section
end
def pj.some_of(r:pj (JU v) o):∃u,o=JU u/\RelV v u:=by
 cases o with
 |none=>exact(r).elim
 |some u=>exact⟨u,rfl,r⟩
structure P7(K:ak)(C:af):Prop where
 pg:ng K C Str.empty=Ka
 hd:PySem.W.hasDictIn K C=Ka
 po:PySem.W.plainOver K C=Ka
 sa:fB K (.ref C) "__setattr__" = JU (JU (.builtin "object.__setattr__"))
def P7.get{K:ak}{C:af}(c:P7 K C)(f:aA):ng K C f=Ka:=c.pg
structure Con(K:ak)(C:af)(f:aA)(v:V)(u:ae):Prop where
 at_:fB K (.ref C) f=JU (JU u)
 rel:RelV v u
 get:jT K u "__get__" = JU J9
 cp:PySem.W.copiedNames.contains f=Kb
structure znb(K:ak)(C:af)(m:aA)(f:af):Prop where
 at_:fB K (.ref C) m=JU (JU (.ref f))
 fn:oD K (.ref f)=Ka
 kp:cU K (.ref f)=Ka
section
end
section
variable{H:Hp}
inductive zp(K:ak)(H:Hp):V->ae->Prop where
 |non:zp K H .non (.type "NoneType")
 |bl (x:Bool):zp K H (.bl x) (.type "bool")
 |int (i:Int):zp K H (.int i) (.type "int")
 |str (x:aA):zp K H (.str x) (.type "str")
 |flt (x:UInt64):zp K H (.flt x) (.type "float")
 |lst {a:af} {xs:List V} (e:H a=JU (.lst xs)):zp K H (.ref a) (.type "list")
 |frz {a:af} {o:Obj} {xs:List V} (e:H a=JU (.frz o (.lst xs))):zp K H (.ref a) (.type "list")
 |tup {a:af} {xs:List V} (e:H a=JU (.tup xs)):zp K H (.ref a) (.type "tuple")
 |dK {a:af} {d_:List (Key×V)} (e:H a=JU (.dK d_)):zp K H (.ref a) (.type "dict")
 |dT {a:af} {d_:List (List Key×V)} (e:H a=JU (.dT d_)):zp K H (.ref a) (.type "dict")
 | ins {a C dx:af} {fs:List (aA×V)} (e:H a=JU (.ins C dx fs)) (cl:P7 K C) (ha:fB K (.ref C) "__class__" = JU (JU (.builtin "object.__class__")))
   (hn:jT K (.builtin "object.__class__") "__get__" = JU (JU (.builtin "getset_descriptor.__get__"))) (qY:nM K (.builtin "object.__class__")=JU Ka)
   (hm:lP K C (.type "object")=JU Ka):zp K H (.ref a) (.ref C)
end
structure oW(k:Nat)(A:bD):Prop where
 hd:A.handled=J9
 dp:A.depth+3*k+5<recursionLimit
 un:A.units+16*k+200<cLine
def oW.mono(r:oW k A)(h:j<=k):oW j A:=⟨r.hd,by have:=r.dp;lia,by have:=r.un;lia⟩
def oW.deeper(r:oW (k+1) A)(env):oW k (A.deeper env):=
 ⟨r.hd,by have:=r.dp;show A.depth+1+3*k+5<_;lia,by have:=r.un;show A.units+3+16*k+200<_;lia⟩
def oW.in1(r:oW (k+1) A):oW k A.in1:=
 ⟨r.hd,by have:=r.dp;show A.depth+3*k+5<_;lia,by have:=r.un;show A.units+1+16*k+200<_;lia⟩
def oW.depth(r:oW k A):A.depth<recursionLimit:=by have:=r.dp;lia
def oW.units(r:oW k A):A.units+64<cLine:=by have:=r.un;lia
def KP:TA:=λ_ H Q=>Q [] H
def D6(ta:TE)(tr:TA):TA:=λσ H Q=>ta σ H λx H1=>tr σ H1 λxs H2=>Q (x::xs) H2
section
variable{X:Cx}{e:bi}{es:List bi}{te:TE}{t:TA}{pos:Pos}
def BM:PA X [] KP:=λ_ _ _ _ H Q I h=>mD ⟨[],H,I,.nil,h⟩
def vP(c:PE X e te)(d:PA X es t)(f:aL (e::es) X.env=(Kb,eval e X.env)::aL es X.env:=by rfl):PA X (e::es) (D6 te t):=by intro pos a s b H Q I h;rw[f];refine l7 (qe (c a s b H _ I h) λu g ⟨x,i,j,l,m⟩=>?_);exact qe (d pos a g b i _ j m) λv w ⟨n,o,p,q,r⟩=>⟨x::n,o,p,.cons l q,r⟩
def XM(t:TA):TE:=λσ H Q=>t σ H λxs H1=>xs.length<=aM/\∀p,H1 p=J9->Q (.ref p) (upd H1 p (.tup xs))
def XE(t:TA):TE:=λσ H Q=>t σ H λxs H1=>xs.length<=aM/\∀p,H1 p=J9->Q (.ref p) (upd H1 p (.lst xs))
def RL(h:PA X es t):PE X (.Tuple es x1 pos) (XM t):=by intro a s f H Q I g;refine wpAny_Tuple_spliced (qe (h pos a s f H _ I g) λi c ⟨j,l,d,r,z,q⟩=>⟨by rw[<- r.length];exact z,?_⟩);have m:=d.hok.fresh (aw _);refine⟨.ref c.heap.objs.size,upd l c.heap.objs.size (.tup j),d.laid (λb u e=>ab _ e) (aw _) ?_,rfl,q _ m⟩;exact⟨z,i,r,pe.new _ _⟩
def R1(h:PA X es t):PE X (.List es pos) (XE t):=by intro a s f H Q I g;refine wpAny_List_spliced (qe (h pos a s f H _ I g) λi c ⟨j,l,d,r,z,q⟩=>⟨by rw[<- r.length];exact z,?_⟩);have m:=d.hok.fresh (aw _);refine⟨.ref c.heap.objs.size,upd l c.heap.objs.size (.lst j),d.laid (λb u e=>ab _ e) (aw _) ?_,rfl,q _ m⟩;exact⟨z,i,0,r,aB _ rfl⟩
end
abbrev Sp:=List V->Hp->VK->XK->Prop
abbrev zh:=List Env->Hp->ai->XK->ae->ai->Prop
structure pC(P:aU)(w:be)(K:ak)(mg:aA->Option ae)(base:aX)(A:bD)(outer:List Env)(s:ai)(H:Hp):Prop where
 frames:A.frames=JU outer
 mod:Mod K mg base
 bs:∀b o,base.get? b=JU o->s.heap.get? b=JU o/\H b=J9
 bsz:base.objs.size<=s.heap.objs.size
 funs:s.heap.FunFrames base outer
 frf:∀b∈vD outer,H b=J9
 hok:HOk P w H s.heap
 bare:iy s.gens
 tk:0<s.toks
def CE(outer:List Env)(P:aU)(w:be)(H:Hp)(s:ai)(Q:VK)(u:ae)(s':ai):Prop:=
 (∃v H',s'.os=s.os/\iy s'.gens/\Un (vD outer) [] H H' s.heap s'.heap/\HOk P w H' s'.heap/\RelV v u/\Q v H')/\0<s'.toks
def CR(CX:zh)(outer:List Env)(P:aU)(w:be)(H:Hp)(s:ai)(Q:VK)(E:XK)(r:Result)(s':ai):Prop:=
 match r with
 |.ok (.ret u)=>CE outer P w H s Q u s'
 |.ok _=>False
 |.error e=>CX outer H s E e s'
structure o5(P:aU)(w:be)(K:ak)(mg:aA->Option ae)(base:aX)(CX:zh)(k:Nat)(f:af)(fd:fj)(ps:List aA)(sp:Sp):Prop where
 len:∀vs H Q E,sp vs H Q E->vs.length=ps.length
 run:∀(A:bD)(outer:List Env)(s:ai)(H:Hp)(args:Args)(us:List ae)(vs:List V)(Q:VK)(E:XK),oW k A->pC P w K mg base A outer s H->kW s fd args (ps.zip us)->oQ vs us->sp vs H Q E->
  codeAny (av P w) A (.call (.ref f) args) (CR CX outer P w H s Q E) s
def o5.mono{P:aU}{w:be}{K:ak}{c:aA->Option ae}{base:aX}{d:zh}{j k:Nat}{f:af}{e:fj}{ps:List aA}{g:Sp}(F:o5 P w K c base d j f e ps g)(h:j<=k):
  o5 P w K c base d k f e ps g:=⟨F.len,λA a s H b i l Q E m=>F.run A a s H b i l Q E (m.mono h)⟩
def o5.imp{P:aU}{w:be}{K:ak}{d:aA->Option ae}{base:aX}{e:zh}{k:Nat}{f:af}{g:fj}{ps:List aA}{i j:Sp}(F:o5 P w K d base e k f g ps i)
  (h:∀b H Q E,j b H Q E->i b H Q E):o5 P w K d base e k f g ps j:=
 ⟨λb H Q E q=>F.len b H Q E (h _ _ _ _ q),λA a s H c l b Q E m n o p r=>F.run A a s H c l b Q E m n o p (h _ _ _ _ r)⟩
def pC.in1{P:aU}{w:be}{K:ak}{b:aA->Option ae}{base:aX}{A:bD}{a:List Env}{s:ai}{H:Hp}(e:pC P w K b base A a s H):
  pC P w K b base A.in1 a s H:=⟨e.frames,e.mod,e.bs,e.bsz,e.funs,e.frf,e.hok,e.bare,e.tk⟩
section
variable{X:Cx}{YP:List (af×Obj)}{σ:St}{H:Hp}{s s':ai}
def Inv.env0(I:Inv X YP σ H s):pC X.prog X.w X.K X.mg X.base X.A X.stack s H:=
 ⟨I.ok.frames,I.ok.mod,I.bs,aI I.ok.bsz I.sz,I.stack,I.stkFree,I.hok,I.bare,I.tk⟩
def Inv.after(I:Inv X YP σ H s)(h:CE X.stack X.prog X.w H s Q u s'):EP X YP σ Q u s':=by obtain⟨⟨v,e,f,a,i,c,r,q⟩,j⟩:=h;obtain⟨m,g,d,t,l⟩:=s';obtain rfl:l=s.os:=f;exact⟨v,e,I.call i c a (λb z=>absurd z 'k') j,r,q⟩
end
def Q7(sp:Sp)(Cm:List V)(E:XK)(t:TA):TE:=λσ H Q=>t σ H λvs H1=>sp (vs++Cm) H1 Q E
def Binds(K:ak)(fd:fj)(ps:List aA)(ds:List ae):Prop:=
 ∀(s:ai)(us:List ae),K.In s.heap->(us++ds).length=ps.length->kW s fd ⟨us,[]⟩ (ps.zip (us++ds))
def Binds.all{K:ak}{b:fj}{ps:List aA}(h:∀a:List ae,a.length=ps.length->bindArgs b ⟨a,[]⟩=pure (ps.zip a)):Binds K b ps []:=λs a _ c=>by
 rw[bX] at c ⊢;exact .of_eq (h a c)
def Iw(CX:zh)(X:Cx)(E:XK):Prop:=∀(YP:List (af×Obj))(σ:St)(H:Hp)(s:ai)(e:ae)(s':ai),Inv X YP σ H s->CX X.stack H s E e s'->X.xe e s'
section
variable{X:Cx}{CX:zh}{k:Nat}{f C:af}{fd:fj}{ps:List aA}{sp:Sp}{E:XK}{x:aA}{p pos:Pos}{e:bi}{es:List bi}{t:TA}
def YI(F:o5 X.prog X.w X.K X.mg X.base CX k f fd ps sp)(c:oW k X.A)(d:Binds X.K fd ps ds)(g:oQ Cm ds)(i:Iw CX X E)
  (I:Inv X YP σ H s) (r:oQ vs us) (h:sp (vs++Cm) H Q E):aq (av X.prog X.w) X.A (call (.ref f) us) (EP X YP σ Q) X.xe s:=by
 have b:=r.append g;have j:(us++ds).length=ps.length:=by rw[<- b.length];exact F.len _ _ _ _ h
 refine jY (fM (F.run X.A X.stack s H ⟨us,[]⟩ (us++ds) (vs++Cm) Q E c I.env0 (d s us I.kIn j) b h) λr l a=>?_);cases r with
 |error e=>exact i YP σ H s e l I a
 | ok fl=>
  cases fl with
  |ret u=>exact I.after a
  |next=>exact aj a
  |brk=>exact aj a
  |cont=>exact aj a
def IL(F:o5 X.prog X.w X.K X.mg X.base CX k f fd ps sp)(c:oW k X.A)(d:Gl X x)(g:X.mg x=JU (.ref f))(i:cU X.K (.ref f)=Ka)(j:Binds X.K fd ps ds)(l:oQ Cm ds)(m:Iw CX X E)
  (n:PA X (e::es) t) (o:sU x:=by decide) (u:aL (e::es) X.env=(Kb,eval e X.env)::aL es X.env:=by rfl) (v:(backTo pos (aL es X.env)).any (·.1)=Kb:=by rfl):
  PE X (.Call (.Name x p) (e::es) [] pos) (Q7 sp Cm E t):=by intro a s y H Q I h;refine im (Sw I d g ?_ o);refine PySem.W.callWith_K I.ok.mod.kin i (qe (n pos a s y H _ I h) λB G ⟨J,L,b,r,q⟩=>⟨b.kIn,?_⟩) u v;exact YI F c j l m b r q
structure Mk(K:ak)(C f:af):Prop where
 makes:PySem.W.makesIn K C=Ka
 init:fB K (.ref C) "__init__" = JU (JU (.ref f))
 fn:oD K (.ref f)=Ka
 kp:cU K (.ref C)=Ka
end
section
variable{fd:fj}{ps:List aA}
structure zmf(K:ak)(fd:fj)(ps ks:List aA)(g:List ae->List ae->List ae)(gV:List V->List V->List V):Prop where
 to:∀(s:ai)(us ws:List ae),K.In s.heap->(g us ws).length=ps.length->kW s fd ⟨us,ks.zip ws⟩ (ps.zip (g us ws))
 rel:∀{vs:List V}{us:List ae}{zs:List V}{ws:List ae},oQ vs us->oQ zs ws->oQ (gV vs zs) (g us ws)
end
structure vt(N P:List aA)(sc:dS):Prop where
 kind:sc.kind=.function
 co:sc.isCoroutine=Kb
 gen:sc.isGenerator=Kb
 nd:N.Nodup
 pre:N.take P.length=P
 par:∀x∈P,sc.names.lookup x=JU .local\/sc.names.lookup x=JU .cell
 nofree:∀y∈sc.names,y.2 ≠ .free
theorem UE{a:aA->Option gU}{x}:∀{binds}{m:aA->Option ae},(∀v,(x,v)∉binds)->bindL a binds m x=m x
 |[],_,_=>rfl
 | (n,v)::r,m,h=>by
  unfold bindL;rw[UE λw b=>h w (ag _ b)];split
  ·have:x≠n:=by rintro rfl;exact h v al
   simp[this]
  ·rfl
theorem UR{a:aA->Option gU}{x}:∀{binds}{m:aA->Option ae},(∀v,(x,v)∉binds)->bindC a binds m x=m x
 |[],_,_=>rfl
 | (n,v)::r,m,h=>by
  unfold bindC;rw[UR λw b=>h w (ag _ b)];split
  ·rfl
  ·have:x≠n:=by rintro rfl;exact h v al
   simp[this]
theorem Ut{a:aA->Option gU}{x:aA}{v:ae}:∀{P:List aA}{b:List ae}{i:Nat}{m:aA->Option ae},P.Nodup->P[i]?=JU x->b[i]?=JU v->a x=JU .local->
  bindL a (P.zip b) m x=JU v
 |[],_,_,_,_,h,_,_=>by simp at h
 |_::_,[],_,_,_,_,h,_=>by simp at h
 | p::P,w::b,0,m,nd,h1,h2,hk=>by
  simp at h1 h2;subst h1;subst h2;show bindL a ((p,w)::P.zip b) m p=_;unfold bindL;rw[UE λv c=>(bF.mp nd).1 (kF c).1,Kd hk];simp
 | p::P,w::b,i+1,m,nd,h1,h2,hk=>by
  unfold bindL;exact Ut (i:=i) (bF.mp nd).2 ⇑h1 ⇑h2 hk
theorem Um{a:aA->Option gU}{x:aA}{v:ae}:∀{P:List aA}{b:List ae}{i:Nat}{m:aA->Option ae},P.Nodup->P[i]?=JU x->b[i]?=JU v->a x≠JU .local->
  bindC a (P.zip b) m x=JU v
 |[],_,_,_,_,h,_,_=>by simp at h
 |_::_,[],_,_,_,_,h,_=>by simp at h
 | p::P,w::b,0,m,nd,h1,h2,hk=>by
  simp at h1 h2;subst h1;subst h2;show bindC a ((p,w)::P.zip b) m p=_;unfold bindC;rw[UR λv c=>(bF.mp nd).1 (kF c).1,Kf hk];simp
 | p::P,w::b,i+1,m,nd,h1,h2,hk=>by
  unfold bindC;exact Um (i:=i) (bF.mp nd).2 ⇑h1 ⇑h2 hk
def start(N:List aA)(vs:List V):St:=vs.map JU++aR (N.length-vs.length) J9
noncomputable def CA(CX:zh)(P:aU)(w:be)(K:ak)(mg:aA->Option ae)(base:aX)(N:List aA)(qual:aA)(scope:dS)(f:af)(cd:ae)(A:bD)(outer:List Env)(s:ai)(H:Hp)(E:XK):Cx where
 prog:=P
 w:=w
 K:=K
 mg:=mg
 base:=base
 A:=A.deeper (envOfC qual scope s.heap.objs.size f cd)
 N:=N
 s₀:=s
 H₀:=H
 env:=envOfC qual scope s.heap.objs.size f cd
 outer:=outer
 stack:=envOfC qual scope s.heap.objs.size f cd::outer
 ex:=[]
 calm:=Ka
 fn:=λ_=>Ka
 pn:=[]
 xe:=λe s'=>aq (av P w) (A.deeper (envOfC qual scope s.heap.objs.size f cd)) (leaving (envOfC qual scope s.heap.objs.size f cd) e) (λ_ vw=>CX outer H s E e vw) (λe' vw=>CX outer H s E e' vw) s'
def T3{a:dS}{n:Nat}{x:aA}(h:a.names.lookup x=JU .cell):∃c,(cI n a.names []).lookup x=JU c:=by have q:=iF a.names n [] (.inl h);exact gi.mp q
def zbu{M:zh}{P:aU}{w:be}{K:ak}{G:aA->Option ae}{base:aX}{N ps:List aA}{j:aA}{d:dS}{f:af}{t:ae}{A:bD}{g:List Env}{s I:ai}{H:Hp}{E:XK}{J:List ae}{n:List V}
  (S:vt N ps d) (Y:A.handled=J9) (m:pC P w K G base A g s H) (hl:n.length=ps.length) (r:oQ n J)
  (x:InCallC s s.heap.objs.size (bindL (envOfC j d s.heap.objs.size f t).kindOf (ps.zip J) λ_=>J9) (cI (s.heap.objs.size+1) d.names []) (bindC (envOfC j d s.heap.objs.size f t).kindOf (ps.zip J) λ_=>J9) I) (Z:0<I.toks):
  Inv (CA M P w K G base N j d f t A g s H E) [] (start N n) H I:=by
 have r9:ps.length<=N.length:=by have:=congrArg kN S.pre;rw[bL] at this;lia
 obtain⟨B,tk,rfl,O⟩:=x.done;have L:∀b:af,b∉(CA M P w K G base N j d f t A g s H E).ex:=λb z=>absurd (show b∈([]:List af) from z) 'k';refine⟨⟨m.mod,S.kind,rfl,rfl,aw _,λy z c B l=>?_,λy hy=>?_,λy c _ h=>?_,λ_=>Y,lF m.frames,.inr ⟨rfl,rfl⟩,λb z=>absurd z (L b),m.bs,m.bsz,λb _ _=>L b,λb z=>absurd z (L b),m.funs,m.frf⟩,
  rfl,m.bare,Un.kept O,⟨_,x.toInCall.ns,λi y v B l h3=>?_⟩,λy c h=>⟨_,x.cell y c h⟩,m.hok.fresh (aw _),λy c h=>?_,λp o=>absurd (show p∈([]:List (af×Obj)) from o) 'k',m.hok.kept O,?_,Z⟩
 ·exact name_of_addr x.apart (bZ B) (bZ l)
 ·have hy:=hy;rcases hy with hy|hy
  ·exact T3 hy
  ·exact absurd rfl (S.nofree _ (bZ hy))
 ·exact gJ (x.above y c (bZ h))
 ·have C:i<n.length:=by
   unfold start at l;by_cases C:i<n.length
   ·exact C
   ·rw[bj ⇑C] at l;rw[gp] at l;split at l<;>cases l
  have ha:n[i]?=JU v:=by
   unfold start at l;rw[aH ⇑C,aZ] at l;cases e:n[i]? with
   |none=>rw[e] at l;cases l
   |some a=>rw[e] at l;cases l;rfl
  obtain⟨u,Q,rv⟩:=r.get ha;have o:ps[i]?=JU y:=by
   rw[<- S.pre,gj 'd'];exact B
  have U:ps.Nodup:=by rw[<- S.pre];exact S.nd.sublist (de _ _)
  refine⟨u,rv,?_⟩;rcases S.par y (aJ o) with k|k
  ·exact .inl ⟨k,Ut U o Q k⟩
  ·obtain⟨c,e⟩:=T3 k;refine .inr ⟨.inl k,c,e,?_⟩;have q:=x.cell y c e;rw[Um U o Q (by show d.names.lookup y≠_;rw[k];decide)] at q;exact q
 ·exact m.hok.fresh (gJ (x.above y c (bZ h)))
 ·unfold start;show _=N.length;rw[aC,ar,kX];lia
def qz{G:zh}{P:aU}{w:be}{K:ak}{L:aA->Option ae}{base:aX}{k:Nat}{f:af}{name d:aA}{g:jB}{body:List eO}{a:dS}{dV kV p pm j ct oc:ae}{an od:Option af}
  {u_:Array (Option ae)} {N ps:List aA} {M:Sp} (lk:K.lookup f=JU ⟨oc,od,.func (ck name d g body a dV kV p pm an j ct),u_⟩) (rA:fC K j d=Ka) (S:vt N ps a)
  (B:∀h H Q E,M h H Q E->h.length=ps.length)
  (qC:∀(A:bD)(c:List Env)(s:ai)(H:Hp)(h:List V)(Q:VK)(E:XK),oW k (A.deeper (envOfC d a s.heap.objs.size f j))->M h H Q E->
   ∃t,tL (CA G P w K L base N d a f j A c s H E) body t/\t { nx:=λ_ H'=>Q .non H',rt:=Q } (start N h) H):
  o5 P w K L base G (k+1) f (ck name d g body a dV kV p pm an j ct) ps M:=by
 refine⟨B,λA c s H args us h Q E O l hb r B_=>?_⟩;have hl:=B _ _ _ _ B_;have KX:=l.mod.kin.keeps λb o e=>(l.bs b o e).1;have U:=l.mod.nolimit.keeps λb o e=>(l.bs b o e).1;have G2:∀y∈ps.zip us,a.names.lookup y.1=JU .local\/(a.names.lookup y.1=JU .cell/\((cI (s.heap.objs.size+1) a.names []).lookup y.1).isSome=Ka):=λ⟨n,v⟩ hy=>by
  rcases S.par n (kF hy).1 with q|q
  ·exact .inl q
  ·exact .inr ⟨q,iF _ _ _ (.inl q)⟩
 refine codeAny_call_function O.depth (KX _ _ lk) rfl S.co S.gen rfl (PySem.W.codeRec_of KX rA) (hb _ _ _ _ (gq l.tk (wpAny_newFunctionEnv_cells S.kind G2 λenv he s1 x qY=>?_)));subst he;refine⟨U.keeps x.toInCall.keep,codeAny_func ?_⟩;obtain⟨t,ht,hq⟩:=qC A c s H h Q E (O.deeper _) B_;have I:Inv (CA G P w K L base N d a f j A c s H E) [] (start N h) H s1:=zbu S O.hd l hl r x qY;refine cG (ht [] s1 (start N h) H _ I hq) (λfl Y m=>?_) λe Y m=>m;have C:∀{i:St}{H':Hp}{v:V}{u:ae},Inv (CA G P w K L base N d a f j A c s H E) [] i H' Y->RelV v u->Q v H'->CE c P w H s Q u Y:=
  λ{i H' v u}J Z q=>⟨⟨v,H',J.os,J.bare,J.base,J.hok,Z,q⟩,J.tk⟩
 cases fl with
 | ret u=>
  obtain⟨v,i,H',J,Z,q⟩:=m;exact C J Z q
 | next=>
  obtain⟨i,H',J,q⟩:=m;exact C (v:=V.non) J rfl q
 | brk=>
  obtain⟨_,_,_,q⟩:=m;exact aj q
 | cont=>
  obtain⟨_,_,_,q⟩:=m;exact aj q
section
variable{X:Cx}{x:aA}{p pos:Pos}{e:bi}{es:List bi}{t:TA}{id T:String}{r:List V->Hp->VK->Prop}
def JV(r:List V->Hp->VK->Prop)(t:TA):TE:=λσ H Q=>t σ H λvs H1=>r vs H1 Q
def Jc(c:oY X (.builtin id) r)(d:Gl X x)(f:X.mg x=J9)(g:bA x=JU (.builtin id))(i:PA X (e::es) t)(j:x ≠ "__name__":=by decide)(l:sU x:=by decide)
  (m:aL (e::es) X.env=(Kb,eval e X.env)::aL es X.env:=by rfl) (n:(backTo pos (aL es X.env)).any (·.1)=Kb:=by rfl):PE X (.Call (.Name x p) (e::es) [] pos) (JV r t):=by intro a s b H Q I h;refine im (CS I d f g ?_ j l);exact PyProof.Rows.callWith_builtin1 (qe (i pos a s b H _ I h) λo q ⟨u,v,w,y,A⟩=>c a q b v u o Q w y A) m n
def MJ(c:oY X (.type T) r)(d:Gl X x)(f:X.mg x=J9)(g:bA x=JU (.type T))(i:PA X (e::es) t)(j:x ≠ "__name__":=by decide)(l:sU x:=by decide)
  (m:aL (e::es) X.env=(Kb,eval e X.env)::aL es X.env:=by rfl) (n:(backTo pos (aL es X.env)).any (·.1)=Kb:=by rfl):PE X (.Call (.Name x p) (e::es) [] pos) (JV r t):=by intro a s b H Q I h;refine im (CS I d f g ?_ j l);exact fL (qe (i pos a s b H _ I h) λo q ⟨u,v,w,y,A⟩=>c a q b v u o Q w y A) m n
end
end L2
namespace HT
open PySem PyProof.Rows
section
open PySem.SeqAt
open PySem.AutoSeq1 (wpAny_loadPart')
open PySem.MeetsSeq PySem.MeetsSeq2 PySem.MeetsSeq3
end
section
variable{prog:aU}{w:be}{A:bD}{E:ae->ai->Prop}{s:ai}
def cat_tup(p:IsTup s.heap t vs.toArray)(q:IsTup s.heap b ws.toArray)(h:vs≠[])
  (r:ws=[]->Q (.ref t) s) (u:ws≠[]->Q (.ref s.heap.objs.size) { s with heap:=s.heap.push { cls:=.type "tuple",data:=.seq (vs++ws).toArray } })
  (v:vs.length+ws.length<=aM):aq (av prog w) A (e8 .Add (.ref t) (.ref b)) Q E s:=by
 obtain⟨⟨cls,i,data,j⟩,a,x,n,y⟩:=id p;obtain⟨⟨C,l,f,m⟩,c,B,o,g⟩:=id q;subst x y B g;have e:vs.toArray++ws.toArray=(vs++ws).toArray:=by simp
 by_cases d:ws=[]
 ·exact kY ⟨_,a,rfl⟩ ⟨_,c,rfl⟩ noFill_tuple_add seq_tuple_add kO kz (j8 _ _)
   (tuple_addW1 t b vs.toArray ws.toArray n o i l j m ⇑h (by simp[d])) ⟨a,c,r d⟩
 ·refine kY ⟨_,a,rfl⟩ ⟨_,c,rfl⟩ noFill_tuple_add seq_tuple_add kO kz (j8 _ _)
   (tuple_addW2 t b vs.toArray ws.toArray n o i l j m ⇑h ⇑d (by rw[aS,aS];exact v)) ⟨a,c,?_⟩
  rw[e];exact u d
def sIx(n d:Nat):Option Int->Nat
 |none=>d
 |some v=>if v<0 then (v+(n:Int)).toNat else min v.toNat n
def zmc(n d:Nat)(b:d<=n)(o:Option Int):sIx n d o<=n:=by
 cases o with
 |none=>exact b
 | some v=>
  show(if v<0 then (v+(n:Int)).toNat else min v.toNat n)<=n;by_cases a:v<0
  ·rw[Kd a];lia
  ·rw[Kf a];exact Nat.min_le_right _ _
def SE(v:Int)(n d:Nat):(if v<0 then max (v+(n:Int)) 0 else min v (n:Int))=((sIx n d (JU v):Nat):Int):=by
 show(if v<0 then max (v+(n:Int)) 0 else min v (n:Int))=(((if v<0 then (v+(n:Int)).toNat else min v.toNat n):Nat):Int);by_cases a:v<0
 ·simp only[Kd a];lia
 ·simp only[Kf a];lia
def za4(a b:Option Int)(n:Nat):ic a b 1 (n:Int)=(((sIx n 0 a:Nat):Int),((sIx n n b:Nat):Int)):=by
 have c:¬ ((1:Int)<0):=by lia
 unfold ic;refine j6 ?_ ?_
 ·cases a with
  |none=>rfl
  |some v=>exact SE v n 0
 ·cases b with
  |none=>rfl
  |some v=>exact SE v n n
def z9S(i j:Nat):gd (i:Int) (j:Int) 1=j-i:=by
 unfold gd;have a:(1:Int)>0:=by lia
 split<;>lia
def U5(p:iZ v o)(h:Q o s):aq (av prog w) A (Builtin.Slice.slicePartIndex v) Q E s:=by
 cases p with
 |none=>exact slicePart_none h
 |int i t=>exact slicePart_int h
def z4v{e:af}{f g:ae}{a b:Option Int}{n:Nat}{Q:Int×Int×Nat->ai->Prop}(i:s.heap.IsSliceOf e f g .none)(j:iZ f a)(l:iZ g b)
  (h:Q (((sIx n 0 a:Nat):Int),1,sIx n n b-sIx n 0 a) s):aq (av prog w) A (Builtin.Slice.sliceApplied (.ref e) (pure (n:Int))) Q E s:=by obtain⟨m,c,o,d⟩:=id i;refine aa (aa (bV c d rfl (aa (bV c d rfl (aa (bV c d rfl (ah ?_)))))));refine aa (slicePart_none ?_);refine aa (U5 j (aa (U5 l (aa (ah ?_)))));show aq _ _ (match ic a b 1 (n:Int) with|(a,b)=>pure (a,(1:Int),gd a b 1)) _ _ s;rw[za4 a b n];show aq _ _ (pure (((sIx n 0 a:Nat):Int),(1:Int),gd ((sIx n 0 a:Nat):Int) ((sIx n n b:Nat):Int) 1)) _ _ s;rw[z9S];exact ah h
def zeg(xs:Array ae)(i k:Nat):((aN k).filterMap λ(m:Nat)=>xs[((i:Int)+(m:Int)*1).toNat]?).toArray=((xs.toList.drop i).take k).toArray:=by
 have e:(λ(m:Nat)=>xs[((i:Int)+(m:Int)*1).toNat]?)=λm=>xs[i+m]?:=by
  funext m;have:((i:Int)+(m:Int)*1).toNat=i+m:=by lia
  rw[this]
 rw[e];have:=pick_run xs i k;rw[List.filterMap_map] at this;have a:((λx=>xs[x]?)∘λx=>i+x)=λm=>xs[i+m]?:=rfl;rw[a] at this;rw[this]
def getItem_tuple_cut{t f:af}{a:Array ae}{j l:ae}{b c:Option Int}{Q:ae->ai->Prop}(d:IsTup s.heap t a)(m:s.heap.IsSliceOf f j l .none)(n:iZ j b)(o:iZ l c)
  (p:¬ (sIx a.size 0 b=0/\sIx a.size a.size c=a.size))
  (h:Q (.ref s.heap.objs.size) { s with heap:=s.heap.push { cls:=.type "tuple",data:=.seq ((a.toList.drop (sIx a.size 0 b)).take (sIx a.size a.size c-sIx a.size 0 b)).toArray } })
  (x:a.size<=aM):aq (av prog w) A (getItem (.ref t) (.ref f)) Q E s:=by
 have e:sizeOk (.seq ((a.toList.drop (sIx a.size 0 b)).take (sIx a.size a.size c-sIx a.size 0 b)).toArray):=by
  show((a.toList.drop (sIx a.size 0 b)).take (sIx a.size a.size c-sIx a.size 0 b)).toArray.size<=aM;rw[aS,bL,cD,aE];lia
 obtain⟨r,u,v,y⟩:=id m;have g:s.TypeIs (.ref f) "slice":=⟨r,u,v⟩;unfold getItem
 try with_reducible refine bI ?_
 first|refine aa (ah ?_)|skip
 refine aa (wpAny_sequenceKey d.typeIs 'u' ?_);refine aa (cB d.typeIs fJ
  (cj fJ d.typeIs entry_tuple_getitem ?_ (args_tuple_getitem _ _)))
 show aq _ _ (Builtin.Tuple.tupleItemsOf (.ref t) >>= _) _ _ s;refine aa (tupleItemsOf_ d (aa (l8 g ?_)));refine aa (z4v m n o ?_);have i:¬ ((((sIx a.size 0 b:Nat):Int)==0&&(1:Int)==1&&(sIx a.size a.size c-sIx a.size 0 b)==a.size)=Ka):=by
  intro q;rw[aT,aT] at q;have B:=eq_of_beq q.1.1;have C:=eq_of_beq q.2;exact p ⟨by lia,by lia⟩
 show aq _ _ (if (((sIx a.size 0 b:Nat):Int)==0&&(1:Int)==1&&(sIx a.size a.size c-sIx a.size 0 b)==a.size)=Ka then _ else _) _ _ s;rw[Kf i,zeg]
 first
  |exact aa (cF (ah ⟨_,rfl,ah h⟩) e)
  |exact aa (cF (aa (ah (ah ⟨_,rfl,ah h⟩))) e)
  |exact aa (aa (cF (ah (ah ⟨_,rfl,ah h⟩)) e))
  |exact aa (aa (cF (ah ⟨_,rfl,ah h⟩) e))
end
end HT
namespace L2
open PySem PySem.Spec PyProof.Rows
abbrev TO:=St->Hp->(Option Int->Hp->Prop)->Prop
def PO(X:Cx)(e:Option bi)(t:TO):Prop:=
 ∀(YP:List (af×Obj))(s:ai)(σ:St)(H:Hp)(Q:Option Int->Hp->Prop),Inv X YP σ H s->t σ H Q->
  aq (av X.prog X.w) X.A (evalPart e X.env) (λu s'=>∃o H',Inv X YP σ H' s'/\iZ u o/\Q o H') X.xe s
def zi2:TO:=λ_ H Q=>Q J9 H
def XU(t:TE):TO:=λσ H Q=>t σ H λx H1=>∃i,x=.int i/\Q (JU i) H1
def Vd:∀{a:List ae},oQ (ns.map V.int) a->kZ a ns:=by
 induction ns with
 |nil=>intro a r;rw[i0] at r;cases r;exact .nil
 | cons n ns ih=>
  intro a r;cases r with
  | cons r1 r2=>
   obtain⟨t,e⟩:=r1;subst e;exact .cons n t (ih r2)
section
variable{X:Cx}{e:bi}{te:TE}{lo hi:Option bi}{tl th:TO}{pos p2:Pos}
def zht:PO X J9 zi2:=by intro a s b H Q I h;exact ah ⟨J9,H,I,.none,h⟩
def zi9(h:PE X e te):PO X (JU e) (XU te):=by intro a s b H Q I c;refine qe (h a s b H _ I c) λu l ⟨x,d,f,g,j⟩=>?_;obtain⟨i,rfl,q⟩:=j;obtain⟨t,rfl⟩:=g;exact⟨JU i,d,f,.int i t,q⟩
def AF(X:Cx)(r:V->Option Int->Option Int->Hp->VK->Prop):Prop:=
 ∀(YP:List (af×Obj))(s:ai)(σ:St)(H:Hp)(x:V)(v vl vu:ae)(lo hi:Option Int)(sl:af)(Q:VK),Inv X YP σ H s->RelV x v->s.heap.IsSliceOf sl vl vu .none->iZ vl lo->iZ vu hi->r x lo hi H Q->
  ∃T id,typeLookup (.type T) "__getitem__" = pure (JU (.builtin id))/\s.TypeIs v T/\aq (av X.prog X.w) X.A (getItem v (.ref sl)) (EP X YP σ Q) X.xe s
def AF.or(h:AF X r)(m:AF X r'):AF X (λx lo hi H Q=>r x lo hi H Q\/r' x lo hi H Q):=by
 intro a s b H x v c d lo hi f Q I g i j l q;rcases q with q|q
 ·exact h a s b H x v c d lo hi f Q I g i j l q
 ·exact m a s b H x v c d lo hi f Q I g i j l q
noncomputable def tSl(r:V->Option Int->Option Int->Hp->VK->Prop)(te:TE)(tl th:TO):TE:=λσ H Q=>te σ H λx H1=>tl σ H1 λl H2=>th σ H2 λu H3=>r x l u H3 Q
def zel(j:AF X r)(m:PE X e te)(n:PO X lo tl)(o:PO X hi th):PE X (.Subscript e (.Slice lo hi J9 p2) pos) (tSl r te tl th):=by intro a s c H Q I h;refine Subscript_ (qe (m a s c H _ I h) λv p ⟨x,t,w,y,A⟩=>?_);refine wpAny_Slice (qe (n a p c t _ w A) λf B ⟨l,C,E,G,J⟩=>qe (o a B c C _ E J) λg d ⟨u,i,L,M,N⟩=>?_);refine ah ?_;have O:Inv X a c i { d with heap:=d.heap.push { cls:=.type "slice",data:=.fields #[f,g,.none] } }:=L.kept λb Y q=>ab _ q;obtain⟨T,Z,P,S,U⟩:=j a { d with heap:=d.heap.push { cls:=.type "slice",data:=.fields #[f,g,.none] } } c i x v f g l u d.heap.objs.size Q O y (oM ..) G M N;exact tail_any S P U (by with_unfolding_all rfl)
def DZ(xs:List V)(lo hi:Option Int):List V:=(xs.drop (HT.sIx xs.length 0 lo)).take (HT.sIx xs.length xs.length hi-HT.sIx xs.length 0 lo)
def UZ(xs:List V)(lo hi:Option Int):(DZ xs lo hi).length<=xs.length:=by unfold DZ;rw[bL,cD];lia
def XB(K:ak):V->Option Int->Option Int->Hp->VK->Prop:=λx lo hi H Q=>∃a xs,x=.ref a/\sH K H a xs/\
 ¬ (HT.sIx xs.length 0 lo=0/\HT.sIx xs.length xs.length hi=xs.length)/\∀p,H p=J9->Q (.ref p) (upd H p (.tup (DZ xs lo hi)))
def Z0:AF X (XB X.K):=by
 intro f s u H x v w y lo hi A Q I j l m n h;obtain⟨a,d,rfl,o,p,q⟩:=h;cases j;obtain⟨t,r,g,i⟩:=I.tuple o;have c:t.toArray.size=d.length:=by rw[aS];exact r.length.symm
 refine⟨"tuple",_,fJ.lookup,g.typeIs,?_⟩;refine HT.getItem_tuple_cut g l m n (by rw[c];exact p) ?_ (by rw[c];exact i);rw[c];refine⟨.ref s.heap.objs.size,_,I.laid (λb B q=>ab _ q) (aw _) ?_,rfl,q _ (I.hok.fresh (aw _))⟩;exact⟨aI (UZ d lo hi) i,_,(r.drop (HT.sIx d.length 0 lo)).take (HT.sIx d.length d.length hi-HT.sIx d.length 0 lo),pe.new _ _⟩
def QR(K:ak):R2:=λx y H Q=>∃a b xs ys,x=.ref a/\y=.ref b/\sH K H a xs/\sH K H b ys/\xs≠[]/\xs.length+ys.length<=aM/\
 (ys=[]->Q (.ref a) H)/\(ys≠[]->∀p,H p=J9->Q (.ref p) (upd H p (.tup (xs++ys))))
def oQ.nil_iff(r:oQ xs us):us=[]↔xs=[]:=by
 cases r with
 |nil=>simp
 |cons _ _=>simp
def zhu:rg X (e8 .Add) (QR X.K):=by intro f s t H x y v u Q I i j h;obtain⟨a,b,A,B,rfl,rfl,l,m,n,g,o,p⟩:=h;cases i;cases j;obtain⟨C,d,r,_⟩:=I.tuple l;obtain⟨E,c,p2,_⟩:=I.tuple m;refine HT.cat_tup r p2 (λz=>n (d.nil_iff.mp z)) (λz=>⟨.ref a,H,I,rfl,o (c.nil_iff.mp z)⟩) (λz=>?_) (by rw[<- d.length,<- c.length];exact g);refine⟨.ref s.heap.objs.size,_,I.laid (λb G q=>ab _ q) (aw _) ?_,rfl,p (λw=>z (c.nil_iff.mpr w)) _ (I.hok.fresh (aw _))⟩;exact⟨by rw[aC];exact g,_,d.append c,pe.new _ _⟩
end
noncomputable def ixN(n:Nat)(i:Int):Option Nat:=if 0<=i then (if i<n then JU i.toNat else J9) else if -(n:Int)<=i then JU (i+n).toNat else J9
def atI{α:Type}(xs:List α)(i:Int):Option α:=(ixN xs.length i).bind λj=>xs[j]?
def SH(h:ixN n i=JU j):seqIndex? i n=JU j/\j<n/\-(n:Int)<=i/\i<n:=by
 unfold ixN at h;by_cases b:0<=i
 ·rw[Kd b] at h;by_cases a:i<n
  ·rw[Kd a] at h;have e:=cf h;exact⟨by rw[mX b a,e],by lia,by lia,a⟩
  ·rw[Kf a] at h;cases h
 ·rw[Kf b] at h;by_cases a:-(n:Int)<=i
  ·rw[Kd a] at h;have e:=cf h;exact⟨by rw[seqIndex_neg 'd' a,e],by lia,a,by lia⟩
  ·rw[Kf a] at h;cases h
def LJ{α:Type}{xs:List α}{i:Int}{v:α}(h:atI xs i=JU v):∃j,seqIndex? i xs.length=JU j/\xs[j]?=JU v/\j<xs.length/\-(xs.length:Int)<=i/\i<xs.length:=by
 unfold atI at h;cases e:ixN xs.length i with
 |none=>rw[e] at h;cases h
 | some j=>
  rw[e] at h;obtain⟨a,b,c,d⟩:=SH e;exact⟨j,a,h,b,c,d⟩
def atI_nat{α:Type}{xs:List α}{j:Nat}{v:α}(h:xs[j]?=JU v):atI xs (j:Int)=JU v:=by
 have a:=(ao.mp h).1;have e:ixN xs.length (j:Int)=JU j:=by
  unfold ixN;rw[Kd 'd',Kd 'd'];simp
 unfold atI;rw[e];exact h
def Sh(b:bi):Prop:=∀o i,subscripted b Kb o i=operate [o,i] (getItem o i)
def By(X:Cx)(r:R2):Prop:=
 ∀(value slice:bi)(YP:List (af×Obj))(s:ai)(σ:St)(H:Hp)(x y:V)(v u:ae)(Q:VK),Inv X YP σ H s->RelV x v->RelV y u->r x y H Q->
  subscripted slice Kb v u=operate [v,u] (getItem v u)->aq (av X.prog X.w) X.A (subscriptTail value slice v u) (EP X YP σ Q) X.xe s
def P4(X:Cx)(id:String)(r:V->List V->Hp->VK->Prop):Prop:=
 ∀(YP:List (af×Obj))(s:ai)(σ:St)(H:Hp)(x:V)(xs:List V)(v:ae)(us:List ae)(Q:VK),Inv X YP σ H s->RelV x v->oQ xs us->r x xs H Q->
  aq (av X.prog X.w) X.A (call (.builtin id) (v::us)) (EP X YP σ Q) X.xe s
section
variable{X:Cx}{a b:bi}
def By.or(h:By X r)(l:By X r'):By X (λx y H Q=>r x y H Q\/r' x y H Q):=by
 intro c d e s f H x y v u Q I g i q j;rcases q with q|q
 ·exact h c d e s f H x y v u Q I g i q j
 ·exact l c d e s f H x y v u Q I g i q j
def X3(d:By X r)(e:PE X a ta)(f:PE X b tb)(g:Sh b):PE X (.Subscript a b pos) (Gg r ta tb):=by intro c s i H Q I h;exact Subscript_ (KY e f I h λv u j x y l m n o q=>d a b c j i l x y v u Q m n o q (g _ _))
def Qd(K:ak):R2:=λx y H Q=>∃p xs i v,x=.ref p/\y=.int i/\qS K H p xs/\atI xs i=JU v/\Q v H
def Qe(K:ak):R2:=λx y H Q=>∃p xs i v,x=.ref p/\y=.int i/\sH K H p xs/\atI xs i=JU v/\Q v H
def Ql:R2:=λx y H Q=>∃z i c,x=.str z/\y=.int i/\z.length<=aM/\atI z.cps.toList i=JU c/\Q (.str ⟨#[c]⟩) H
def pV:By X (Qd X.K):=by
 intro f g c s B H x y v u Q I C E h n;obtain⟨p,U,i,z,rfl,rfl,G,J,q⟩:=h;cases C;obtain⟨t,rfl⟩:=E;obtain⟨L,r,l,Y⟩:=I.list G;obtain⟨j,e,M,Z,N,O⟩:=LJ J;obtain⟨w,o,P⟩:=r.get M;have S:=r.length;have hn:=IH;have d:EP X c B Q w s:=⟨z,H,I,P,q⟩;by_cases A:0<=i
 ·have m:i.toNat=j:=by
   rw[mX A O] at e;exact cf e
  exact item_listR l.isList A 'd' (by rw[m];simpa using o) d n
 ·have m:(i+(L.toArray.size:Int)).toNat=j:=by
   rw[seqIndex_neg 'd' N] at e;rw[aS,<- S];exact cf e
  exact kP l.isList.typeIs slot_list_getitem.lookup
   (wpAny_getItem_list_neg l.isList 'd' (by rw[aS]<;>lia) 'd' (by rw[m];simpa using o) ⟨rfl,d⟩) n
def pW:By X (Qe X.K):=by
 intro d e c s l H x y v u Q I m n h o;obtain⟨p,M,i,z,rfl,rfl,A,B,q⟩:=h;cases m;obtain⟨t,rfl⟩:=n;obtain⟨N,r,g,O⟩:=I.tuple A;obtain⟨j,C,E,P,S,U⟩:=LJ B;obtain⟨w,G,J⟩:=r.get E;have L:=r.length;have Y:=IH;have f:EP X c l Q w s:=⟨z,H,I,J,q⟩;exact kP g.typeIs fJ.lookup
  (getItem_tuple g 'd' 'd' (by rw[aS,<- L];exact C) ⇑G ⟨rfl,f⟩) o
def YX:By X Ql:=by
 intro d e f s E H x y v u Q I l m h n;obtain⟨z,i,c,rfl,rfl,G,o,q⟩:=h;obtain⟨t,rfl⟩:=l;obtain⟨J,rfl⟩:=m;obtain⟨j,g,p,L,r,w⟩:=LJ o;have A:z.cps.toList.length=z.length:=by simp[Str.length]
 rw[A] at g r w;have M:=IH;exact tail_any (typeIs_str s z t) slot_str_getitem.lookup (getItem_str (by
  have B:decide (i < -(2 ^ 63:Int))=Kb:=decide_eq_false 'd';have C:decide (i ≥ 2 ^ 63)=Kb:=decide_eq_false 'd';rw[B,C,Bool.or_false]) (by rw[g];simpa using p) ⟨.str ⟨#[c]⟩,H,I.tok _,⟨_,rfl⟩,q⟩) n
def VZ(K:ak):R2:=λx y H Q=>Qd K x y H Q\/Qe K x y H Q\/Ql x y H Q
def ziX:By X (VZ X.K):=pV.or (pW.or YX)
def za0(c:List ae)(n j:Nat)(u:ae):bG (·.setIfInBounds j u) { cls:=.type "list",data:=.seq c.toArray n } = { cls:=.type "list",data:=.seq (c.set j u).toArray n }:=by simp[bG]
def Inv.lst{c:List (af×Obj)}{σ:St}{H:Hp}{s:ai}{p:af}{xs:List V}(I:Inv X c σ H s)(h:H p=JU (.lst xs)):
  ∃(d:List ae)(n:Nat),oQ xs d/\s.heap.get? p=JU { cls:=.type "list",data:=.seq d.toArray n }/\xs.length<=aM:=by obtain⟨z,d,n,r,e⟩:=I.hok p _ h;exact⟨d,n,r,e,z⟩
def Inv.lstUpd{c:List (af×Obj)}{σ:St}{H:Hp}{s:ai}{p:af}{xs g:List V}{j d:List ae}{n i:Nat}{f:Obj->Obj}(I:Inv X c σ H s)(h:H p=JU (.lst xs))
  (m:s.heap.get? p=JU { cls:=.type "list",data:=.seq j.toArray n }) (l:f { cls:=.type "list",data:=.seq j.toArray n } = { cls:=.type "list",data:=.seq d.toArray i }) (r:oQ g d) (o:g.length<=aM) (t:Nat) (w:0<t:=by first|exact dq _|exact Inv.tk ‹_›|assumption|lia):
  Inv X c σ (upd H p (.lst g)) { s with heap:=s.heap.update p f,toks:=t }:=by
 have e:(s.heap.update p f).get? p=JU { cls:=.type "list",data:=.seq d.toArray i }:=by
  rw[bR f m (by rw[l]<;>rfl),l]
 refine I.write (by rw[h];trivial) (.inl rfl) (λb u v q=>(bC _ _ (bN v)).trans q) ⟨_,e⟩ ?_;exact⟨o,d,i,r,e⟩
def X7:V->V->V->Hp->(Hp->Prop)->Prop:=λo i v H Q=>∃p xs k j,o=.ref p/\i=.int k/\H p=JU (.lst xs)/\ixN xs.length k=JU j/\Q (upd H p (.lst (xs.set j v)))
def zdK:Qf X X7:=by
 intro c s B H o i v N O u Q I C E G h;obtain⟨p,J,k,j,rfl,rfl,l,L,q⟩:=h;cases C;obtain⟨t,rfl⟩:=E;obtain⟨m,n,r,e,M⟩:=I.lst l;obtain⟨d,P,w,x⟩:=SH L;have f:=r.length;have S:=IH;have y:Inv X c B (upd H p (.lst (J.set j v))) { s with heap:=s.heap.update p (bG (·.setIfInBounds j u)) }:=
  I.lstUpd l e (za0 m n j u) (r.set G j) (by rw[d9];exact M) s.toks
 by_cases A:0<=k
 ·have g:k.toNat=j:=by
   rw[mX A x] at d;exact cf d
  exact PySem.W.ki_setAt e A 'd' (by rw[aS,<- f];exact x) (by rw[g];exact⟨_,y,q⟩)
 ·have g:(k+(m.toArray.size:Int)).toNat=j:=by
   rw[seqIndex_neg 'd' w] at d;rw[aS,<- f];exact cf d
  exact PySem.W.ki_setBack e 'd' (by rw[aS,<- f];exact w) 'd' (by rw[g];exact⟨_,y,q⟩)
def z6Y(c d:Option Int)(n:Nat):(sliceBounds c d J9 n).1=((HT.sIx n 0 c:Nat):Int)/\(sliceBounds c d J9 n).2.1=((HT.sIx n n d:Nat):Int)/\(sliceBounds c d J9 n).2.2=1:=by
 refine⟨?_,?_,rfl⟩
 ·cases c with
  |none=>simp[sliceBounds,HT.sIx]
  | some i=>
   simp only[sliceBounds,HT.sIx,nj,show(1:Int)>0 by decide,if_true];by_cases h:i<0
   ·simp only[h,if_true]<;>lia
   ·simp only[h,if_false]<;>lia
 ·cases d with
  |none=>simp[sliceBounds,HT.sIx]
  | some i=>
   simp only[sliceBounds,HT.sIx,nj,show(1:Int)>0 by decide,if_true];by_cases h:i<0
   ·simp only[h,if_true]<;>lia
   ·simp only[h,if_false]<;>lia
def z63(c:List ae)(d e:Option Int):slicePick c.toArray d e J9=((c.drop (HT.sIx c.length 0 d)).take (HT.sIx c.length c.length e-HT.sIx c.length 0 d)).toArray:=by obtain⟨f,g,h⟩:=z6Y d e c.toArray.size;unfold slicePick;rw[f,g,h];simp only[sliceRange_one,pick_run,aS]<;>rfl
def XJ(K:ak):V->Option Int->Option Int->Hp->VK->Prop:=λx lo hi H Q=>∃a xs,x=.ref a/\qS K H a xs/\∀p,H p=J9->Q (.ref p) (upd H p (.lst (DZ xs lo hi)))
def zh4:AF X (XJ X.K):=by intro f s t H x v u w e g y Q I j l m n h;obtain⟨a,c,rfl,o,q⟩:=h;cases j;obtain⟨A,r,i,p⟩:=I.list o;have d:=r.length;refine⟨"list",_,slot_list_getitem.lookup,i.isList.typeIs,?_⟩;refine wpAny_getItem_list_slice i.isList l m n .none 'k' ?_ (by rw[aS]<;>lia);rw[z63,<- d];refine⟨.ref s.heap.objs.size,_,I.laid (λb B q=>ab _ q) (aw _) ?_,rfl,q _ (I.hok.fresh (aw _))⟩;exact⟨aI (UZ c e g) p,_,0,(r.drop (HT.sIx c.length 0 e)).take (HT.sIx c.length c.length g-HT.sIx c.length 0 e),aB _ rfl⟩
def oY.or{f:ae}{r d:List V->Hp->VK->Prop}(h:oY X f r)(j:oY X f d):oY X f (λxs H Q=>r xs H Q\/d xs H Q):=by
 intro c s e H xs g Q I i q;rcases q with q|q
 ·exact h c s e H xs g Q I i q
 ·exact j c s e H xs g Q I i q
def z6T:oY X (.type "list") (λxs H Q=>∃p f,xs=[.ref p]/\(qS X.K H p f\/sH X.K H p f)/\∀l,H l=J9->Q (.ref l) (upd H l (.lst f))):=by
 intro j s G H xs L Q I r h;obtain⟨p,f,rfl,hq,q⟩:=h;obtain⟨u,rfl,J⟩:=uW r;cases J;have m:∀(d:List ae),oQ f d->f.length<=aM->∀(c:aX)(g:Nat),(∀b E,s.heap.get? b=JU E->c.get? b=JU E)->
   c.get? s.heap.objs.size=JU { cls:=.type "list",dict:=J9,data:=.seq d.toArray g,slots:=#[] }->EP X j G Q (.ref s.heap.objs.size) { s with heap:=c }:=λd i t c g v e=>
  ⟨.ref s.heap.objs.size,_,I.laid v (aw _) (show o0 X.prog X.w _ c _ (.lst f) from ⟨t,d,g,i,e⟩),rfl,q _ (I.hok.fresh (aw _))⟩
 rcases hq with hq|hq
 ·obtain⟨d,i,y,t⟩:=I.list hq;have x:=i.length;obtain⟨o,A,B,n,C⟩:=y.isList;exact call_list_seq p (.inl rfl) A B C (λc g v e=>m d i t c g v e) (by simp<;>lia)
 ·obtain⟨d,i,y,t⟩:=I.tuple hq;have x:=i.length;obtain⟨o,A,B,n,C⟩:=y;exact call_list_seq p (.inr rfl) A B C (λc g v e=>m d i t c g v e) (by simp<;>lia)
def z6e:oY X (.type "tuple") (λxs H Q=>∃p c,xs=[.ref p]/\((qS X.K H p c/\∀l,H l=J9->Q (.ref l) (upd H l (.tup c)))\/(sH X.K H p c/\Q (.ref p) H))):=by
 intro d s w H xs B Q I r h;obtain⟨p,c,rfl,h⟩:=h;obtain⟨u,rfl,x⟩:=uW r;cases x;rcases h with⟨f,q⟩|⟨f,q⟩
 ·obtain⟨g,i,j,n⟩:=I.list f;have t:=i.length;refine call_tuple_list j.isList (λm y=>?_) (by simp<;>lia);have v:=I.kept y;have A:Inv X d w (upd H m.objs.size (.tup c)) { s with heap:=m.push { cls:=.type "tuple",data:=.seq g.toArray } }:=
   v.laid (λb o e=>ab _ e) (aw _) (⟨n,g,i,pe.new _ _⟩)
  exact⟨.ref m.objs.size,_,A,rfl,q _ (v.hok.fresh (aw _))⟩
 ·obtain⟨g,i,j,n⟩:=I.tuple f;exact call_tuple_same j ⟨.ref p,H,I,rfl,q⟩
def VM(K:ak)(T:String)(x:V)(H:Hp):Prop:=match x with
 |.str _=>T = "str"
 |.int _=>T = "int"
 | .ref p=>(T = "list"/\∃xs,qS K H p xs)\/(T = "tuple"/\∃o,K.lookup p=JU o/\o.cls=.type "tuple"/\o.dict=J9) \/
   (T = "dict"/\((∃d_,H p=JU (.dK d_)) \/ ∃d_,H p=JU (.dT d_)))\/(T = "set"/\∃S n,H p=JU (.set S n))
 |_=>False
def YY(I:Inv X YP σ H s)(r:RelV x v)(g:VM X.K T x H):
  s.TypeIs v T/\∀a,v=.ref a->∃l,s.heap.get? a=JU l/\l.dict=J9:=by
 cases x with
 | str z=>
  obtain⟨t,rfl⟩:=r;cases (g);exact⟨typeIs_str s z t,λ_ e=>nomatch e⟩
 | int i=>
  obtain⟨t,rfl⟩:=r;cases (g);exact⟨typeIs_int s i t,λ_ e=>nomatch e⟩
 | ref p=>
  cases r;rcases g with⟨rfl,y,q⟩|⟨rfl,o,d,u,h⟩|⟨rfl,d⟩|⟨rfl,S,n,d⟩
  ·obtain⟨A,_,m,_⟩:=I.list q;refine⟨m.isList.typeIs,λa e=>?_⟩;cases e;obtain⟨o,n,e,c,h,_⟩:=m;exact⟨o,e,h⟩
  ·refine⟨⟨o,I.kIn p o d,u⟩,λa e=>?_⟩;cases e;exact⟨o,I.kIn _ o d,h⟩
  ·have z:∃o,s.heap.get? p=JU o/\o.ExactDict:=by
    rcases d with⟨w,d⟩|⟨w,d⟩
    ·obtain⟨_,_,_,_,o,_,_,e,f,_⟩:=I.hok p _ d;exact⟨o,e,f⟩
    ·obtain⟨_,_,_,_,o,_,_,e,f,_⟩:=I.hok p _ d;exact⟨o,e,f⟩
   obtain⟨o,e,f⟩:=z;refine⟨⟨o,e,f.1⟩,λa j=>?_⟩;cases j;exact⟨o,e,f.2.1⟩
  ·obtain⟨o,_,_,_,e,f,_⟩:=I.hok p _ d;refine⟨⟨o,e,f.1⟩,λa j=>?_⟩;cases j;exact⟨o,e,f.2.1⟩
 |_=>exact aj g
def tBM(K:ak)(T:String)(r:V->List V->Hp->VK->Prop)(to:TE)(t:TA):TE:=λσ H Q=>to σ H λx H1=>VM K T x H1/\t σ H1 λxs H2=>r x xs H2 Q
variable{o e:bi}{es:List bi}{to:TE}{t:TA}{name:aA}{apos qw:Pos}{T id:String}{r:V->List V->Hp->VK->Prop}
def K6(l:PlainAttrs T)(d:Slot T name id)(m:typeOf (.builtin id)=pure (.type "method_descriptor"))(n:P4 X id r)(p:PE X o to)(q:PA X (e::es) t)
  (u:attributeBase o name X.env (eval o X.env)=eval o X.env:=by rfl)
  (w:((backTo qw (aL (e::es) X.env)).all (λx=>!x.1)&&(backToKw qw (keywordEach [] X.env)).all (λx=>x.1.isSome)
   && decide ((e::es).length+([]:List gK).length+(if ([]:List gK).isEmpty then 0 else 1)<30))=Ka:=by rfl)
  (y:(apos.endLine==qw.line)=Ka:=by rfl) (A:aL (e::es) X.env=(Kb,eval e X.env)::aL es X.env:=by rfl) (B:(backTo qw (aL es X.env)).any (·.1)=Kb:=by rfl):
  PE X (.Call (.Attribute o name apos) (e::es) [] qw) (tBM X.K T r to t):=by intro c s f H Q I h;refine wpAny_Call_method_late u w y rfl (qe (p c s f H _ I h) λv C ⟨x,E,g,i,G,J⟩=>?_);obtain⟨L,M⟩:=YY g i G;refine⟨T,id,l,d,m,L,M,?_⟩;have j:=q qw c C f E _ g J;rw[A] at j ⊢;refine Calls.callWith_builtin (by show(Kb||(backTo qw (aL es X.env)).any (·.1))=Kb;rw[B]<;>rfl) (Calls.evalArgs_plain ?_);exact qe j λN O ⟨P,S,U,Y,Z⟩=>n c O f S x P v N Q U i Y Z
end
def W3(X:Cx)(id:String)(r:V->List V->Hp->VK->Prop):Prop:=
 ∀(YP:List (af×Obj))(s:ai)(σ:St)(H:Hp)(x:V)(xs:List V)(v:ae)(us:List ae)(Q:VK),Inv X YP σ H s->RelV x v->oQ xs us->r x xs H Q->
  aq (av X.prog X.w) X.A (call (.builtin id) (v::us)) (EP X YP σ Q) X.xe s
def oQ.one:∀{x:V}{a:List ae},oQ [x] a->∃u,a=[u]/\RelV x u
 |_,_,.cons r .nil=>⟨_,rfl,r⟩
theorem oQ.eraseIdx:∀{xs:List V}{a:List ae}(i:Nat),oQ xs a->oQ (xs.eraseIdx i) (a.eraseIdx i)
 |_,_,_,.nil=>.nil
 |_,_,0,.cons _ t=>t
 |_,_,i+1,.cons r t=>.cons r (oQ.eraseIdx i t)
def oQ.reverse{xs:List V}{a:List ae}(h:oQ xs a):oQ xs.reverse a.reverse:=by
 induction h with
 |nil=>exact .nil
 |cons r t ih=>rw[mE,mE];exact oQ.append ih (.cons r .nil)
section
variable{X:Cx}{H:Hp}{s:ai}{l:af}
def Inv.lset{b a:List ae}{n:Nat}{f:Array ae->Array ae}{t':Nat}(I:Inv X YP σ H s)(c:H l=JU (.lst xs))
  (e:s.heap.get? l=JU { cls:=.type "list",data:=.seq b.toArray n }) (d:f b.toArray=a.toArray) (g:oQ ys a) (h:ys.length<=aM) (m:0<t':=by first|exact dq _|exact Inv.tk ‹_›|assumption|lia):
  Inv X YP σ (upd H l (.lst ys)) { s with heap:=s.heap.update l (bG f),toks:=t' }:=by have q:=PySem.IsL.update e f;rw[d] at q;refine I.write (by rw[c];exact trivial) (.inl rfl) (λo u i j=>(bC s.heap (bG f) (bN i)).trans j) ⟨_,q⟩ ?_;exact⟨h,a,_,g,q⟩
def Inv.lnew(I:Inv X YP σ H s)(a:oQ ys e_)(b:ys.length<=aM)(c:0<t':=by first|exact dq _|exact Inv.tk ‹_›|assumption|lia):
  Inv X YP σ (upd H s.heap.objs.size (.lst ys)) { s with heap:=s.heap.push { cls:=.type "list",data:=.seq e_.toArray },toks:=t' }:=
 I.laid (λ_ _ q=>ab _ q) (aw _) ⟨b,e_,0,a,aB _ rfl⟩
def Inv.fresh(I:Inv X YP σ H s):H s.heap.objs.size=J9:=I.hok.fresh (aw _)
def Inv.lstM(I:Inv X YP σ H s)(b:H l=JU (.lst xs)):xs.length<=aM/\∃(a:List ae)(n:Nat),oQ xs a/\xs.length=a.length/\s.heap.get? l=JU { cls:=.type "list",data:=.seq a.toArray n }:=by obtain⟨z,a,n,r,e⟩:=I.hok l _ b;exact⟨z,a,n,r,r.length,e⟩
def ze5{n}(h:n<=aM):io n=Kb:=by exact decide_eq_false 'd'
end
section
variable{X:Cx}
def zgH:V->List V->Hp->VK->Prop:=λx vs H Q=>∃l xs y,x=.ref l/\vs=[y]/\H l=JU (.lst xs)/\xs.length<aM/\Q .non (upd H l (.lst (xs++[y])))
def UJ:W3 X "list.append" zgH:=by intro a s i H x j v m Q I c d h;obtain⟨l,o,y,rfl,rfl,b,p,q⟩:=h;cases c;obtain⟨u,rfl,f⟩:=d.one;obtain⟨z,g,n,r,t,e⟩:=I.lstM b;refine call_meets k8 ⟨_,e,rfl⟩ F.entry_list_append (F.args_list_append_2 _ _) (PySem.list_append l g.toArray n u (by rw[aS];lia)) ⟨e,?_⟩;refine⟨.non,_,I.lset b e 'k' (r.append (.cons f .nil)) ?_,rfl,q⟩;rw[aC,gL];lia
end
section
end
end L2
namespace Att
open PySem PySem.W PySem.Calls PyProof.Rows
def z4V:∀(ns)(c),WellAll P h c (ns.map om)->kZ c ns:=by
 intro ns
 induction ns with
 | nil=>
  intro c w;cases w;exact .nil
 | cons n ns ih=>
  intro c w;cases w with
  | cons a b=>
   cases a;exact .cons _ _ (ih _ b)
def zbN{l:l9}{n:Nat}(j:l.most=JU n){P:iX}{h:aX}{args:List WData}{b:List ae}
  (g:l.row.toRowW.claim.pre args=Ka) (m:WellAll P h b args):
  ∃a i ns,b=[ef a]/\args=[WData.list (ns.map om)]/\h.get? a=JU { cls:=.type "list",data:=.seq i.toArray }/\kZ i ns/\ns.length<=n:=by
 have o:=(pre_splitW g).1;have p:l.pre.holds [] { args:=args } = Ka:=(pre_splitW g).2;obtain⟨d,r,rfl,s,t⟩:=hasAllW_cons o;obtain rfl:=hasAllW_nil t;obtain⟨v,rfl,u⟩:=hasW_list s;obtain⟨ns,rfl⟩:=items_int u;have c:ns.length<=n:=by
  have e:(WTm.not (.lt (.lit (.int (n:Int))) (.len (.arg 0)))).holds [] { args:=[.list (ns.map .int)] } = Ka:=by
   have e:=(holds_andW p).1;rw[j] at e;exact e
  have f:=condW_of e (w_not (w_lt w_lit (w_len_list (w_arg rfl))));refine Nat.le_of_not_lt λq=>?_
  first
   |(rw[decide_eq_true q'] at f;exact absurd f 'u')
   |(simp at f;lia)
 cases m with
 | cons w1 w2=>
  cases w2;cases w1 with
  |list ho sX=>exact⟨_,_,ns,rfl,rfl,ho,z4V ns _ sX,c⟩
def zaX(l:l9)(a:List WData):l.row.toRowW.claim.post a (.bool Ka) a=Ka:=
 postW_of
  (show WShape.has [] (.bool Ka) .bool=Ka by first|rfl|decide|simp[WShape.has,WShape.arms,WShape.armsAll])
  (w_eq_bool (w_res rfl) w_lit) rfl
theorem Vf:∀ns:List Int,lQ (ns.map jK)=ns.map om
 |[]=>by simp[lQ]
 |n::ns=>by simp only[bH,lQ,me];rw[Vf ns]
def attach_call{l:l9}{n:Nat}{q:aU}{loose:List aA}{XP:(aA->Option ae)->aX->Prop}{u:be->aX->Prop}{d:DefRec}{α:Type}{Yf:ai->α}{Ya:be->α}
  (M:l.most=JU n) (N:d.params.defaults=[]) (O:∀w s,Yf s=Ya w->u w s.heap) (P:∀w h C,u w h->(∀b o,h.get? b=JU o->C.get? b=JU o)->u w C)
  (m:∀(w:be)(c e:ai)(v A:aA->Option ae)(p:af)(o:Obj)(B x g:ae)(a:af)(j:List ae)(ns:List Int),
   Ground q loose [] XP w c v A e.heap->u w e.heap->
   e.heap.get? p=JU o->o.data=.func (docDef d.name d.params d.body d.scope B x g)->e.heap.CodeRec x d.name->v d.name=JU (.ref p)->
   e.heap.get? a=JU { cls:=.type "list",data:=.seq j.toArray }->kZ j ns->ns.length<=n->e.gens = #[]->0<e.toks->
   codeAny (av l.prog w) callerA (.call (.ref p) ⟨[.ref a],[]⟩) (λr y=>r=.ok (.ret (.bool Ka))/\OldK e.heap y.heap/\y.os=e.os/\iy y.gens) e):
  WalkX q loose XP (λs=>(Yf s,decide (0<s.toks))) (λw=>(Ya w,Ka)) l.row.toRowW d [] (λf j=>PySem.call f j):=by
 intro w c e v A G Y p o B x g Q S U Z rA E GX hg H I as L Bg J hrd J_ xW;obtain rfl:Q=.none:=Dflts.none E N;obtain rfl:S=.none:=Dflts.noKw E;have Y1:=congrArg Prod.fst Y;have Y2:=of_decide_eq_true (congrArg Prod.snd Y);obtain⟨a,j,ns,rfl,rfl,Dp,i,t⟩:=zbN M Bg J_;have L':Laid l.row.toRowW.records w c e [me (fy (ns.map jK))] [.ref a] as:=by
  rw[me,Vf];exact L
 have qY:=aW Y2 (PySem.W.X.script_toks L' rfl);refine enter_call (fM (m w c e v A p o B x g a j ns G (P _ _ _ (O w c Y1) L.keeps) U (fd_plain Z) rA GX Dp i t hg qY) λr y hq=>?_);obtain⟨rfl,h2,h3,h4⟩:=hq;exact⟨.inl ⟨.bool Ka,.bool Ka,[],rfl,λ_=>rfl,.bool Ka,zaX l _,λ_=>⟨fu,λ_ hm=>(nomatch hm)⟩⟩,h2,h3,h4⟩
section
end
end Att
namespace L2
open PySem PySem.Spec PyProof.Rows
theorem Uv:∀{a:List ae}{ns:List Int},kZ a ns->oQ (ns.map V.int) a
 |_,_,.nil=>.nil
 |_,_,.cons n t h=>.cons ⟨t,rfl⟩ (Uv h)
noncomputable def xP(s:eO):jB:=match s with
 |.FunctionDef _ a _ _ _ _ _ _ _ _=>a
 |_=>{ posonlyargs:=[],args:=[],vararg:=J9,kwonlyargs:=[],kw_defaults:=[],kwarg:=J9,defaults:=[] }
def uF(s:eO):List eO:=match s with
 |.FunctionDef _ _ b _ _ _ _ _ _ _=>b
 |_=>[]
def rC(s:eO):dS:=match s with
 |.FunctionDef _ _ _ _ _ _ sc _ _ _=>sc
 |_=>{ kind:=.function,names:=[],isGenerator:=Kb,isCoroutine:=Kb }
abbrev yI:zh:=λ_ _ _ _ _ _=>False
abbrev E0:XK:=λ_ _ _=>False
def Ip:Iw yI X E0:=λ_ _ _ _ _ _ _ h=>h.elim
structure Fun(K:ak)(x qual:aA)(st:eO)(f:af)(fd:fj):Prop where
 ex:∃(oc:ae)(od:Option af)(kV doc pm:ae)(an:Option af)(qk ct:ae)(u_:Array (Option ae)),
  fd=ck x qual (xP st) (uF st) (rC st) .none kV doc pm an qk ct/\K.lookup f=JU ⟨oc,od,.func fd,u_⟩/\fC K qk qual=Ka
 kp:cU K (.ref f)=Ka
section
variable{P:aU}{w:be}{K:ak}{mg:aA->Option ae}{base:aX}
def Fun.ok{x b:aA}{d:eO}{f:af}{j:fj}{N ps:List aA}{k:Nat}{g:Sp}(F:Fun K x b d f j)(S:vt N ps (rC d))(i:∀c H Q E,g c H Q E->c.length=ps.length)
  (l:∀(e:ae)(A:bD)(a:List Env)(s:ai)(H:Hp)(c:List V)(Q:VK)(E:XK),oW k (A.deeper (envOfC b (rC d) s.heap.objs.size f e))->g c H Q E->
   ∃t,tL (CA yI P w K mg base N b (rC d) f e A a s H E).nox (uF d) t/\t { nx:=λ_ H'=>Q .non H',rt:=Q } (start N c) H):o5 P w K mg base yI (k+1) f j ps g:=by obtain⟨u,v,y,m,B,C,e,G,I,rfl,n,o⟩:=F.ex;refine qz n o S i λA a s H c Q E p r=>?_;obtain⟨t,h,q⟩:=l e A a s H c Q E p r;exact⟨t,h.nox,q⟩
def Fun.binds{x a:aA}{c:eO}{f:af}{m:fj}{ps:List aA}(F:Fun K x a c f m)
  (h:∀(d b e:ae)(g:Option af)(i j:ae)(l:List ae),l.length=ps.length->bindArgs (ck x a (xP c) (uF c) (rC c) .none d b e g i j) ⟨l,[]⟩=pure (ps.zip l)):Binds K m ps []:=by obtain⟨n,o,d,b,e,g,i,j,p,rfl,q,r⟩:=F.ex;exact .all (h d b e g i j)
def Lr{x a:aA}{b:eO}{f:af}{m:ae}{n g:Option af}{o:Array (Option ae)}{h d i e j:ae}(l:K.lookup f=JU ⟨m,n,.func (ck x a (xP b) (uF b) (rC b) .none h d i g e j),o⟩)
  (c:fC K e a=Ka) (k:cU K (.ref f)=Ka):Fun K x a b f (ck x a (xP b) (uF b) (rC b) .none h d i g e j):=⟨⟨m,n,h,d,i,g,e,j,o,rfl,l,c⟩,k⟩
end
def Yn(a:oW k A):A.units+1<cLine:=ei (jf (by decide:1<=64) _) a.units
section
def pv(i:Nat)(a:X.N[i]?=JU x:=by rfl)(b:vH X.env.scope x:=by first|exact Or.inl rfl|exact Or.inr (Or.inl rfl)|exact Or.inr (Or.inr rfl))(c:sU x:=by decide)
  (d:(x==("__classdict__":aA))=Kb:=by decide):PE X (.Name x pos) (yf i):=BK a b c d
end
def oX(H H':Hp):Prop:=∀b o,H b=JU o->H' b=JU o
def oX.refl(H:Hp):oX H H:=λ_ _ h=>h
def oX.trans(a:oX H H1)(b:oX H1 H2):oX H H2:=λc o h=>b c o (a c o h)
def oX.free{H H':Hp}(e:oX H H'){l:af}(h:H' l=jx):H l=jx:=by
 cases q:H l with
 |none=>rfl
 | some o=>
  rw[e l o q] at h;cases h
def oX.seq{K:ak}{H H':Hp}{a:af}{xs:List V}(e:oX H H')(h:qS K H a xs):qS K H' a xs:=by
 rcases h with(h|⟨o,h⟩)|h
 ·exact .inl (.inl (e _ _ h))
 ·exact .inl (.inr ⟨o,e _ _ h⟩)
 ·exact .inr h
section
variable{κ:Type}[DecidableEq κ]
def rR(d_:List (κ×V))(k:κ):Option V:=(d_.find? λkv=>decide (kv.1=k)).map (·.2)
noncomputable def t6(d_:List (κ×V))(k:κ)(v:V):List (κ×V):=
 if (d_.any λkv=>decide (kv.1=k))=Ka then d_.map (λkv=>if kv.1=k then (kv.1,v) else kv) else d_++[(k,v)]
def AV(d_:List (κ×V))(k:κ):List (κ×V):=d_.filter λkv=>decide (kv.1≠k)
def xx{p:κ×V}{r:List (κ×V)}{k:κ}(e:p.1=k):rR (p::r) k=JU p.2:=by simp[rR,fk,e]
def xk{p:κ×V}{r:List (κ×V)}{k:κ}(e:¬ p.1=k):rR (p::r) k=rR r k:=by simp[rR,fk,e]
theorem Eu(k:κ):∀a:List (κ×V),(a.any λkv=>decide (kv.1=k))=(rR a k).isSome
 |[]=>rfl
 | p::r=>by
  rw[g8];by_cases e:p.1=k
  ·simp only[xx e,decide_eq_true e,Bool.true_or,mh]
  ·rw[xk e,decide_eq_false e,jL];exact Eu k r
theorem Te(k j:κ)(y):∀a:List (κ×V),rR (a.map λkv=>if kv.1=k then (kv.1,y) else kv) j=(rR a j).map λx=>if j=k then y else x
 |[]=>rfl
 | p::r=>by
  have b:=Te k j y r;rw[bH];by_cases h:p.1=k
  ·rw[Kd h];by_cases e:p.1=j
   ·rw[xx (p:=(p.1,y)) e,xx e,fU,Kd (e.symm.trans h)]
   ·rw[xk (p:=(p.1,y)) e,xk e,b]
  ·rw[Kf h];by_cases e:p.1=j
   ·rw[xx e,xx e,fU,Kf (λz=>h (e.trans z))]
   ·rw[xk e,xk e,b]
theorem UG(k j:κ)(y):∀a:List (κ×V),rR a k=J9->rR (a++[(k,y)]) j=if j=k then JU y else rR a j
 | [],_=>by
  by_cases e:k=j
  ·rw[Kd e.symm];exact xx e
  ·rw[Kf (λz=>e z.symm)];exact xk e
 | p::r,hn=>by
  rw[gW];have b:¬ p.1=k:=λz=>by rw[xx z] at hn;cases hn
  rw[xk b] at hn;have c:=UG k j y r hn;by_cases e:p.1=j
  ·rw[xx e,xx e,Kf (λz=>b (e.trans z))]
  ·rw[xk e,xk e,c]
def zeE(b:List (κ×V))(k j:κ)(y):rR (t6 b k y) j=if j=k then JU y else rR b j:=by
 unfold t6;by_cases a:(b.any λc=>decide (c.1=k))=Ka
 ·rw[Kd a,Te];rw[Eu] at a;by_cases e:j=k
  ·obtain⟨x,d⟩:=gi.mp a;rw[Kd e,e,d,fU,Kd rfl]
  ·rw[Kf e];cases rR b j with
   |none=>rfl
   |some x=>rw[fU,Kf e]
 ·rw[Kf a];refine UG k j y b ?_;rw[Eu] at a;cases q:rR b k with
  |none=>rfl
  |some x=>rw[q] at a;exact(a rfl).elim
def Js(a:List (κ×V))(k:κ)(v):(t6 a k v).length<=a.length+1:=by
 unfold t6;split
 ·rw[ar];lia
 ·rw[aC,aV,gr];lia
def TX{a:List (κ×V)}{k:κ}(v)(h:rR a k=J9):t6 a k v=a++[(k,v)]:=by unfold t6;rw[Eu,h];exact Kf 'u'
def pj.isSome_eq(r:pj o u):o.isSome=u.isSome:=by
 cases o with
 | none=>cases u with
  |none=>rfl
  |some _=>exact(r).elim
 | some _=>cases u with
  |none=>exact(r).elim
  |some _=>rfl
def pj.getD(r:pj o u)(a:RelV d d'):RelV (o.getD d) (u.getD d'):=by
 cases o with
 | none=>cases u with
  |none=>exact a
  |some _=>exact(show False from r).elim
 | some _=>cases u with
  |none=>exact(show False from r).elim
  |some _=>exact r
def KV.val{c:List (κ×V)}{d:List (κ×ae)}(r:KV c d)(k:κ):pj (rR c k) (valueAt d k):=by
 induction r with
 |nil=>exact eV
 | @cons p q ps qs h t ih=>
  obtain⟨f,g⟩:=h;by_cases e:p.1=k
  ·have a:=f.symm.trans e;have b:valueAt (q::qs) k=JU q.2:=by simp[valueAt,fk,a]
   rw[xx e,b];exact g
  ·have a:¬ q.1=k:=λz=>e (f.trans z);have b:valueAt (q::qs) k=valueAt qs k:=by simp[valueAt,fk,a]
   rw[xk e,b];exact ih
def KV.any{a:List (κ×V)}{b:List (κ×ae)}(r:KV a b)(k:κ):(a.any λkv=>decide (kv.1=k))=b.any λkv=>decide (kv.1=k):=by
 induction r with
 |nil=>rfl
 |cons h t ih=>rw[g8,g8,ih,h.1]
def KV.repl(r:KV d_ vs)(k:κ)(b:RelV y u):
  KV (d_.map λkv=>if kv.1=k then (kv.1,y) else kv) (vs.map λkv=>if kv.1=k then (kv.1,u) else kv):=by
 induction r with
 |nil=>exact .nil
 | @cons p q ps qs h t ih=>
  rw[bH,bH];refine .cons ?_ ih;obtain⟨a,c⟩:=h;by_cases e:p.1=k
  ·rw[Kd e,Kd (a.symm.trans e)];exact⟨a,b⟩
  ·rw[Kf e,Kf (λz=>e (a.trans z))];exact⟨a,c⟩
def KV.put(r:KV d_ vs)(k:κ)(a:RelV y u):KV (t6 d_ k y) (stored vs k u):=by
 unfold t6 stored;rw[r.any k];by_cases e:(vs.any λb=>decide (b.1=k))=Ka
 ·rw[Kd e,Kd e];exact r.repl k a
 ·rw[Kf e,Kf e];exact oK r ⟨rfl,a⟩
def KV.drop(r:KV d_ vs)(k:κ):KV (AV d_ k) (without vs k):=by
 unfold AV without
 induction r with
 |nil=>exact .nil
 | @cons p q ps qs h t ih=>
  obtain⟨c,d⟩:=h;rw[eo,eo];by_cases e:p.1=k
  ·have a:¬ decide (p.1≠k)=Ka:=by simp[e]
   have b:¬ decide (q.1≠k)=Ka:=by simp[c.symm.trans e]
   rw[Kf a,Kf b];exact ih
  ·have f:¬ q.1=k:=λz=>e (c.trans z);have a:decide (p.1≠k)=Ka:=by simp[e]
   have b:decide (q.1≠k)=Ka:=by simp[f]
   rw[Kd a,Kd b];exact .cons ⟨c,d⟩ ih
def KV.length(r:KV d_ vs):d_.length=vs.length:=jH r
def zev(a:List (κ×V))(k:κ):(AV a k).length<=a.length:=bu _ _
end
def BI(r:RelV (kV k) u):(u6 P w).is k u=Ka:=by
 cases k with
 |inl i=>obtain⟨t,e⟩:=(r);subst e;exact z8m P w i t
 |inr x=>obtain⟨t,e⟩:=(r);subst e;exact z8H P w x t
theorem UC:∀{ks}{us},oQ (ks.map kV) us->ItemsAre (u6 P w) ks us
 |[],_,r=>by rw[i0] at r;cases r;exact .nil
 | k::ks,_,r=>by
  cases r with
  |cons h t=>exact .cons (BI h) (UC t)
abbrev KT(H:Hp):List (List Key×V)->List (List Key×af×ae)->Prop:=cy λp q=>p.1=q.1/\H q.2.1=JU (.tup (p.1.map kV))/\RelV p.2 q.2.2
def KT.val{H}{c:List (List Key×V)}{xs:List (List Key×af×ae)}(r:KT H c xs)(k):pj (rR c k) ((atKey xs k).map (·.2)):=by
 induction r with
 |nil=>exact eV
 | @cons p q ps qs h t ih=>
  obtain⟨d,_,f⟩:=h;by_cases e:p.1=k
  ·have a:=d.symm.trans e;have b:atKey (q::qs) k=JU q.2:=by simp[atKey,fk,a]
   rw[xx e,b];exact f
  ·have a:¬ q.1=k:=λz=>e (d.trans z);have b:atKey (q::qs) k=atKey qs k:=by simp[atKey,fk,a]
   rw[xk e,b];exact ih
def KT.repl(r:KT H d_ xs)(k)(c:RelV y u):
  KT H (d_.map λkv=>if kv.1=k then (kv.1,y) else kv) (xs.map (putAt k u)):=by
 induction r with
 |nil=>exact .nil
 | @cons p q ps qs h t ih=>
  rw[bH,bH];refine .cons ?_ ih;obtain⟨a,b,d⟩:=h;unfold putAt;by_cases e:p.1=k
  ·rw[Kd e,Kd (a.symm.trans e)];exact⟨a,b,c⟩
  ·rw[Kf e,Kf (λz=>e (a.trans z))];exact⟨a,b,d⟩
def KT.put(r:KT H d_ xs)(k)(c:H b=JU (.tup (k.map kV)))(a:RelV y u):
  KT H (t6 d_ k y) (storedH xs k b u):=by
 have e:(d_.any λd=>decide (d.1=k))=(atKey xs k).isSome:=by
  rw[Eu,(r.val k).isSome_eq,mF]
 unfold t6 storedH;rw[e];by_cases q:(atKey xs k).isSome=Ka
 ·rw[Kd q,Kd q];exact r.repl k a
 ·rw[Kf q,Kf q];exact oK r ⟨rfl,c,a⟩
def KT.keeps(r:KT H d_ xs)(c:∀b a,H b=JU (.tup a)->H' b=JU (.tup a)):KT H' d_ xs:=
 Paired.mapP r λ_ _ z=>⟨z.1,c _ _ z.2.1,z.2.2⟩
section
def Q0(ok:HOk P w H h)(e:Rd H a u):o0 P w H h a u:=e.ok ok
def CO(ok:HOk P w H h)(e:Rd H a (.dK d_)):d_.length<=aM/\(a==sysModules)=Kb/\∃b,KV d_ b/\h.DictOf (u6 P w) a b:=
 show o0 P w H h a (.dK d_) from Q0 ok e
def Fj(ok:HOk P w H h)(e:H a=JU (.dK d_)):d_.length<=aM/\(a==sysModules)=Kb/\∃b,KV d_ b/\h.DictOf (u6 P w) a b:=CO ok (.inl e)
def IA(ok:HOk P w H h)(e:H a=JU (.tup (ks.map kV))):(tupleKind (u6 P w)).is h ks a:=by obtain⟨_,b,r,o,c,d,⟨n,f⟩,_⟩:=(ok a _ e);exact⟨o,b.toArray,n,c,d,f,by simpa using UC r⟩
def Iq(ok:HOk P w H h)(e:Rd H a (.dT d_)):d_.length<=aM/\(a==sysModules)=Kb/\
  ∃xs,KT H d_ xs/\h.DictOfH (tupleKind (u6 P w)) a xs:=by
 obtain⟨z,y,xs,r,o,c,d,f,g,i,j,n⟩:=(Q0 ok e);refine⟨z,y,xs,r,o,c,d,f,g,i,j,λx hx=>?_,n⟩;have b:∀{l:List (List Key×V)}{m:List (List Key×af×ae)},KT H l m->∀x∈m,(tupleKind (u6 P w)).is h x.1 x.2.1:=by
  intro l m q
  induction q with
  |nil=>intro x hx;exact nomatch hx
  | @cons p q ps qs hq t ih=>
   intro x hx;rcases am.mp hx with e|hx
   ·subst e;exact IA ok (by rw[<- hq.1];exact hq.2.1)
   ·exact ih x hx
 exact b r x hx
def XZ(ok:HOk P w H h)(e:H a=JU (.dT d_)):d_.length<=aM/\(a==sysModules)=Kb/\
  ∃xs,KT H d_ xs/\h.DictOfH (tupleKind (u6 P w)) a xs:=Iq ok (.inl e)
end
def pA(H:Hp)(a:af)(y:V)(r:Option V):Prop:=
 (∃d_ k,Rd H a (.dK d_)/\y=kV k/\r=rR d_ k) \/ ∃d_ k b,Rd H a (.dT d_)/\y=.ref b/\H b=JU (.tup (k.map kV))/\r=rR d_ k
def pM(H:Hp)(a:af)(y v:V)(H':Hp):Prop:=
 (∃d_ k,H a=JU (.dK d_)/\y=kV k/\d_.length<aM/\H'=upd H a (.dK (t6 d_ k v))) \/
 ∃d_ k b,H a=JU (.dT d_)/\y=.ref b/\H b=JU (.tup (k.map kV))/\d_.length<aM/\H'=upd H a (.dT (t6 d_ k v))
def pA.k{H}{a}{d_}{k}(e:H a=JU (.dK d_)):pA H a (kV k) (rR d_ k):=.inl ⟨d_,k,.inl e,rfl,rfl⟩
def pM.k{H}{a}{d_}{k}{v}(e:H a=JU (.dK d_))(b:d_.length<aM):pM H a (kV k) v (upd H a (.dK (t6 d_ k v))):=.inl ⟨d_,k,e,rfl,b,rfl⟩
section
def Inv.big(I:Inv X YP σ H s):sysModules<s.heap.objs.size:=by have h:=(I.mod.glob.keeps I.bk).lt;exact Nat.lt_trans 'u' h
def zbI(q:A.units+1<cLine)(I:Inv X YP σ H s)(g:pA H a y (JU v))(n:RelV y u)(h:∀d o,Inv X YP σ H o->RelV v d->Q d o):
  aq (av X.prog X.w) A (getItem (.ref a) u) Q E s:=by
 rcases g with⟨r,k,e,f,l⟩|⟨r,k,b,e,f,t,l⟩
 ·subst f;obtain⟨z,x,G,c,i⟩:=CO I.hok e;obtain⟨d,j,m⟩:=pj.some_of (by rw[l];exact c.val k);exact j9 (BI n) i.mapOf j (h d _ (I.tok _) m)
 ·subst f;cases (n);obtain⟨z,x,J,c,i⟩:=Iq I.hok e;obtain⟨d,j,m⟩:=pj.some_of (by rw[l];exact c.val k);obtain⟨p,B,C⟩:=iD.mp j;refine wpAny_getItem_heap (jC q) (IA I.hok t) i B ?_;rw[C];exact h d _ (I.tok _) m
def zh6(n:A.units+1<cLine)(I:Inv X YP σ H s)(g:pA H a y o)(j:RelV y u)(h:∀m,Inv X YP σ H m->Q (.bool (!o.isSome)) m):
  aq (av X.prog X.w) A (cN .NotIn u (.ref a)) Q E s:=by
 rcases g with⟨p,k,e,d,l⟩|⟨p,k,b,e,d,r,l⟩
 ·subst d;obtain⟨z,f,t,c,i⟩:=CO I.hok e;refine wpAny_notIn_of (BI j) f i.mapOf ?_;rw[<- (c.val k).isSome_eq,<- l];exact h _ (I.tok _)
 ·subst d;cases (show u=ef b from j);obtain⟨z,f,v,c,i⟩:=Iq I.hok e;refine wpAny_notIn_heap (jC n) (IA I.hok r) f i ?_;have q:=(c.val k).isSome_eq;rw[mF] at q;rw[<- q,<- l];exact h _ (I.tok _)
def FO(I:Inv X YP σ H s)(d:HC (H a))(e:dr a s.heap h')(f:∃q,h'.get? a=JU q)(c:o0 X.prog X.w (upd H a ob) h' a ob)(h:0<t':=by first|exact dq _|exact Inv.tk ‹_›|assumption|lia):
  Inv X YP σ (upd H a ob) { s with heap:=h',toks:=t' }:=
 I.write d (.inl rfl) (λb q g z=>(e.2 b g).trans z) f c
def FJ(z:d_.length<=aM)(c:(a==sysModules)=Kb)(b:KV d_ vs)(d:h'.DictOf (u6 P w) a vs):
  o0 P w H' h' a (.dK d_):=⟨z,c,vs,b,d⟩
def zcW(N:A.units+1<cLine)(I:Inv X YP σ H s)(g:pM H a y v H')(B:RelV y u)(C:RelV v r)(h:∀G,Inv X YP σ H' G->Q () G):
  aq (av X.prog X.w) A (setItem (.ref a) u r) Q E s:=by
 rcases g with⟨f,k,e,m,l,n⟩|⟨f,k,b,e,m,J,l,n⟩
 ·subst m n;obtain⟨z,o,O,d,p⟩:=Fj I.hok e;have P:O.length<=aM:=by rw[<- d.length];exact z
  have t:(t6 f k v).length<=aM:=by have:=Js f k v;lia
  refine wpAny_setItem_pairs (BI B) p λL i x=>h _ ?_;have S:∃q,L.get? a=JU q:=let ⟨q,_,_,j,_⟩:=i;⟨q,j⟩;exact FO I (by rw[e];exact eV) x S (FJ t o (d.put k C) i)
 ·subst m n;cases (show u=ef b from B);obtain⟨z,o,U,d,p⟩:=XZ I.hok e;have P:U.length<=aM:=by rw[<- jH d];exact z
  have t:(t6 f k v).length<=aM:=by have:=Js f k v;lia
  refine wpAny_setItem_heap (jC N) (IA I.hok J) p λL i x=>h _ ?_;obtain⟨q,Y,Z,j,h2,h3,h4,_,h5⟩:=i;refine FO I (by rw[e];exact eV) x ⟨q,j⟩ ⟨t,o,_,(d.put k J C).keeps λc ys M=>?_,q,Y,Z,j,h2,h3,h4,h5⟩;rw[qi (QV M e (λz=>nomatch z))];exact M
end
section
def zc3(I:Inv X YP σ H s)(e:H a=JU (.dK d_))(g:RelV (kV k) u)(l:(rR d_ k).isSome=Ka)(h:∀d,Inv X YP σ (upd H a (.dK (AV d_ k))) d->Q () d):
  aq (av X.prog X.w) A (delItem (.ref a) u) Q E s:=by
 obtain⟨z,i,j,b,c⟩:=Fj I.hok e;refine wpAny_delItem_slot c.typeIs 'u' jZ
  (call_meetsIn jZ c.typeIs PySem.F.entry_dict_delitem (PySem.F.args_dict_delitem_2 _ _) (meets_dict_delitem_pairs (u6 X.prog X.w) a (BI g)) ⟨j,c,by rw[<- b.length];exact z,by rw[<- (b.val k).isSome_eq];exact l,λm f n=>h _ ?_⟩)
 have o:∃q,m.get? a=JU q:=let ⟨q,_,_,hq,_⟩:=f;⟨q,hq⟩;exact FO I (by rw[e];exact eV) n o (FJ (aI (zev d_ k) z) i (b.drop k) f)
end
def Cu(i:bi):Prop:=∀ov iv,subscripted i Kb ov iv=operate [ov,iv] (getItem ov iv)
def LB{prog}{w}{A}{E}{s}{env}{value slice}{pos}{T id}{Q}
  (f:typeLookup (.type T) "__getitem__" = pure (JU (.builtin id))) (g:Cu slice)
  (h:aq (av prog w) A (eval value env) (λo d=>aq (av prog w) A (eval slice env) (λi b=>b.TypeIs o T/\aq (av prog w) A (getItem o i) Q E b) E d) E s):
  aq (av prog w) A (eval (.Subscript value slice pos) env) Q E s:=by
 refine Subscript_ (cG h (λo d j=>cG j (λi b c=>?_) λ_ _ x=>x) λ_ _ x=>x);obtain⟨l,c⟩:=c;refine aa ?_;refine aa (wpAny_specialOf l f ?_);have a:aq (av prog w) A (subscripted slice Kb o i) (λr e=>aq (av prog w) A (letTemporaryGo value o r >>= λ_=>pure r) Q E e) E b:=by
  rw[g o i];exact wpAny_operating (cG c (λr e m=>aa (wpAny_letTemporaryGo (ah m))) λ_ _ x=>x)
 first
  |exact ah (aa a)
  |exact aa (ah (aa a))
  |exact aa a
def z8w(I:Inv X YP σ H s)(g:pA H a y o):s.TypeIs (.ref a) "dict":=by
 rcases g with⟨d,k,e,_,_⟩|⟨d,k,b,e,_,_,_⟩
 ·obtain⟨_,_,f,_,c⟩:=CO I.hok e;exact c.typeIs
 ·obtain⟨_,_,h,_,c⟩:=Iq I.hok e;exact c.typeIs
def X4(td ty:TE):TE:=λσ H Q=>td σ H λx H1=>ty σ H1 λy H2=>∃a v,x=.ref a/\pA H2 a y (JU v)/\Q v H2
def zid(ty td:TE):TE:=λσ H Q=>ty σ H λy H1=>td σ H1 λx H2=>∃a o,x=.ref a/\pA H2 a y o/\Q (.bl (!o.isSome)) H2
def XW(td ty tv:TE):TS:=λD σ H=>tv σ H λv H1=>td σ H1 λx H2=>ty σ H2 λy H3=>∃a H4,x=.ref a/\pM H3 a y v H4/\D.nx σ H4
def Yq(td ty:TE):TS:=λD σ H=>td σ H λx H1=>ty σ H1 λy H2=>∃a d_ k,x=.ref a/\H2 a=JU (.dK d_)/\y=kV k/\(rR d_ k).isSome=Ka/\D.nx σ (upd H2 a (.dK (AV d_ k)))
section
def So(e:X.A.units+1<cLine)(f:PE X o td)(j:PE X i ty)(l:Cu i):PE X (.Subscript o i pos) (X4 td ty):=by intro b s c H Q I h;refine LB ie.lookup l (qe (f b s c H _ I h) λu m ⟨x,n,p,q,r⟩=>qe (j b m c n _ p r) λJ L ⟨y,t,d,w,a,v,B,g,C⟩=>?_);subst B;obtain rfl:u=ef a:=q;exact⟨z8w d g,zbI e d g w λM N E G=>⟨v,t,E,G,C⟩⟩
def zav(d:X.A.units+1<cLine)(e:PE X i ty)(f:PE X o td):PC X .NotIn i o (zid ty td):=by intro b s c H Q I h;refine qe (e b s c H _ I h) λE j ⟨y,l,m,n,p⟩=>qe (f b j c l _ m p) λu G ⟨x,q,r,t,a,v,w,g,B⟩=>?_;subst w;obtain rfl:u=ef a:=t;exact zh6 d r g n λJ C=>⟨.bl (!v.isSome),q,C,rfl,B⟩
def zg6(d:X.A.units+1<cLine)(e:PE X o td)(f:PE X i ty)(j:PE X value tv)(l:swapsWith value (JU (.Subscript o i pos')) pos.line X.env=pure Kb):
  PS X (.Assign [.Subscript o i pos'] value pos) (XW td ty tv):=by intro b s c H D I h;refine wpAny_Assign_Subscript (qe (j b s c H _ I h) λr m ⟨v,n,p,q,t⟩=>qe (e b m c n _ p t) λu w ⟨x,B,C,E,G⟩=>qe (f b w c B _ C G) λQ S ⟨y,U,J,L,a,M,N,g,O⟩=>?_) l;subst N;obtain rfl:u=ef a:=E;exact zcW d J g L q λY P=>⟨c,M,P,O⟩
def zgE(d:PE X o td)(f:PE X i ty):PS X (.Delete [.Subscript o i tpos] pos) (Yq td ty):=by intro b s c H D I h;refine wpAny_Delete (wpAny_deleteEach_cons (wpAny_delete_Subscript (qe (d b s c H _ I h) λu g ⟨x,j,m,n,p⟩=>qe (f b g c j _ m p) λB C ⟨y,E,q,r,a,G,k,t,e,v,l,w⟩=>?_)));subst t v;obtain rfl:u=ef a:=n;exact zc3 q e r l λJ A=>wpAny_deleteEach_nil ⟨c,_,A,w⟩
end
def TY(h:aX)(a:sysModules<h.objs.size):o0 P w H (h.push { cls:=.type "dict",data:=.dict #[] }) h.objs.size (.dK []):=
 ⟨bO _,beq_eq_false_iff_ne.mpr (bN (bo a)),[],.nil,Heap.DictOf.new h⟩
def Y5:TE:=λ_ H Q=>∀p,H p=J9->Q (.ref p) (upd H p (.dK []))
section
def zeJ:PE X (.Dict [] [] pos) Y5:=λa s b H Q I h=>
 wpAny_Dict_empty ⟨.ref s.heap.objs.size,_,I.laid (λ_ _ q=>ab _ q) (aw _) (TY s.heap I.big),rfl,h _ (I.hok.fresh (aw _))⟩
end
noncomputable def FA:List (TE×TE)->St->Hp->(List (V×V)->Hp->Prop)->Prop
 |[],_,H,Q=>Q [] H
 |(tk,tv)::r,σ,H,Q=>tk σ H λx H1=>tv σ H1 λy H2=>FA r σ H2 λps H3=>Q ((x,y)::ps) H3
abbrev VV:List (V×V)->List (ae×ae)->Prop:=cy λp q=>RelV p.1 q.1/\RelV p.2 q.2
def HA(X:Cx)(pos:Pos)(keys:List (Option bi))(values:List bi)(A6:List (TE×TE)):Prop:=
 ∀(YP)(s)(σ:St)(H)(Q:List (V×V)->Hp->Prop),Inv X YP σ H s->FA A6 σ H Q->
  aq (av X.prog X.w) X.A (evalPairs (pairTrees keys values X.env pos)) (λvs s'=>∃ps H',Inv X YP σ H' s'/\VV ps vs/\Q ps H') X.xe s
def zhJ:HA X pos [] [] []:=λa s b H Q I h=>pairTrees_nil_walk ⟨[],H,I,.nil,h⟩
def zdY(d:PE X k tk)(e:PE X v tv)(f:HA X pos ks vs A6):
  HA X pos (JU k::ks) (v::vs) ((tk,tv)::A6):=λa s b H Q I h=>
 pairTrees_cons_walk (qe (d a s b H _ I h) λu g ⟨x,i,j,l,m⟩=>qe (e a g b i _ j m) λC n ⟨y,o,p,q,r⟩=>
  qe (f a n b o _ p r) λE G ⟨t,w,A,c,B⟩=>⟨(x,y)::t,w,A,.cons ⟨l,q⟩ c,B⟩)
def AX(d_ more:List (Key×V)):List (Key×V):=more.foldl (λJ7 kv=>t6 J7 kv.1 kv.2) d_
def KV.merge:∀{a}{d}{b}{c:List (Key×ae)},KV a d->KV b c->KV (AX b a) (merged c d):=by
 intro a d b c r
 induction r generalizing b c with
 |nil=>intro q;exact q
 | @cons p q ps qs h t ih=>
  intro f;have e:KV (t6 b p.1 p.2) (stored c q.1 q.2):=by
   have:=f.put p.1 h.2;rw[<- h.1];exact this
  exact ih e
theorem Vv:∀(more d_:List (Key×V)),(AX d_ more).length<=d_.length+more.length
 |[],d_=>by show d_.length<=d_.length+0;lia
 | p::r,d_=>by
  have a:=Vv r (t6 d_ p.1 p.2);have b:=Js d_ p.1 p.2;show(AX (t6 d_ p.1 p.2) r).length<=_;rw[aV];lia
theorem U1:∀{d_}{ws},VV (d_.map λkv=>(kV kv.1,kv.2)) ws->∃d,Carries (u6 P w) ws d/\KV d_ d
 |[],_,r=>by rw[i0] at r;cases r;exact⟨[],eV,.nil⟩
 | p::d_,_,r=>by
  cases r with
  | @cons a b as bs h t=>
   obtain⟨d,c,q⟩:=U1 t;obtain⟨f,e⟩:=b;exact⟨(p.1,e)::d,⟨BI h.1,rfl,c⟩,.cons ⟨rfl,h.2⟩ q⟩
def Yb(A6:List (TE×TE)):TE:=λσ H Q=>∀p,H p=J9->FA A6 σ (upd H p (.dK [])) λps H2=>H2 p=JU (.dK [])/\∃d_:List (Key×V),ps=d_.map (λkv=>(kV kv.1,kv.2))/\d_.length<=15/\Q (.ref p) (upd H2 p (.dK (AX [] d_)))
def zhW(h:HA X pos keys values A6)(i:keys.all (·.isSome)=Ka)(j:keys.length=values.length)(l:keys≠[])
  (m:keys.length<=15):PE X (.Dict keys values pos) (Yb A6):=by
 intro a s n H Q I q;have o:=I.hok.fresh (aw s.heap.objs.size);have p:=I.laid (λ_ _ q=>ab _ q) (aw _) (TY s.heap I.big);refine wpAny_Dict_walk (knd:=u6 X.prog X.w) i j l m (qe (h a _ n _ _ p (q _ o)) λM N ⟨O,P,b,d,e,f,r,S,t⟩=>?_);subst r;obtain⟨u,c,v⟩:=U1 d;obtain⟨z,x,y,A,B⟩:=Fj b.hok e;cases A;refine⟨u,c,B,λC g E=>⟨.ref s.heap.objs.size,_,?_,rfl,t⟩⟩;have G:(AX [] f).length<=aM:=by
  have J:=Vv f [];rw[gr] at J;rw[kM];lia
 have L:∃q,C.get? s.heap.objs.size=JU q:=let ⟨q,_,_,hq,_⟩:=g;⟨q,hq⟩;exact FO b (by rw[e];exact eV) E L (FJ G x (v.merge .nil) g) (Nat.add_pos_left b.tk _)
structure M1(X:Cx)(o:bi)(m:aA)(apos:Pos)(e:bi)(qw:Pos):Prop where
 base:attributeBase o m X.env (eval o X.env)=eval o X.env
 few:((backTo qw (aL [e] X.env)).all (λx=>!x.1)&&(backToKw qw (keywordEach [] X.env)).all (λx=>x.1.isSome)
  && decide (([e]:List bi).length+([]:List gK).length+(if ([]:List gK).isEmpty then 0 else 1)<30))=Ka
 line:(apos.endLine==qw.line)=Ka
 trees:backTo qw (aL [e] X.env)=[(Kb,eval e X.env)]
structure M2(X:Cx)(o:bi)(m:aA)(apos:Pos)(e f:bi)(qw:Pos):Prop where
 base:attributeBase o m X.env (eval o X.env)=eval o X.env
 few:((backTo qw (aL [e,f] X.env)).all (λx=>!x.1)&&(backToKw qw (keywordEach [] X.env)).all (λx=>x.1.isSome)
  && decide (([e,f]:List bi).length+([]:List gK).length+(if ([]:List gK).isEmpty then 0 else 1)<30))=Ka
 line:(apos.endLine==qw.line)=Ka
 trees:backTo qw (aL [e,f] X.env)=[(Kb,eval e X.env),(Kb,eval f X.env)]
section
end
section
end
section
end
section
end
end L2
namespace DL
open PySem L2
def wT{X:Cx}{b:List (af×Obj)}{d:St}{H:Hp}{s:ai}{α:Type}{M:Model}{A:bD}{m:Sem α}{Q:α->ai->Prop}{E:ae->ai->Prop}(I:L2.Inv X b d H s)(h:aq M A m (λa c=>0<c.toks->Q a c) (λe c=>0<c.toks->E e c) s):aq M A m Q E s:=gq I.tk h
structure Ku(K:ak)(C:af):Prop where
 ga:fB K (.ref C) "__getattribute__" = JU (JU (.builtin "BaseException.__getattribute__"))
 nh:fB K (.ref C) "__getattr__" = JU J9
 cl:∃cd,PySem.W.clsIn K C=JU cd
 at_:fB K (.ref C) "__class__" = JU (JU (.builtin "object.__class__"))
 gt:jT K (.builtin "object.__class__") "__get__" = JU (JU (.builtin "getset_descriptor.__get__"))
 tk:nM K (.builtin "object.__class__")=JU Ka
 ob:lP K C (.type "object")=JU Ka
 bx:lP K C (.type "BaseException")=JU Ka
 kit:∀c∈(["int", "bool", "str", "list", "tuple", "dict"]:List String),lc K (.ref C) (.type c)=JU Kb
section
open PySem.W
def zg0(X:K.In s.heap)(k:Ku K C)(I:jm s.heap x ox C J9)(a:Q () s):aq M A (checkBuiltinCall "BaseException.__getattribute__" ⟨[.ref x,GA],[]⟩) Q E s:=by
 have b:builtinKind "BaseException.__getattribute__" = JU .slot:=by decide +kernel
 have c:splitId "BaseException.__getattribute__" = JU ("BaseException", "__getattribute__"):=by decide +kernel
 have g:=F.args_bexc_ga (.ref x) GA;have d:=I.type (M:=M);have e:=looks_mroIn (M:=M) X k.bx;have f:Looks M s.heap (isInstance (.ref x) (.type "BaseException")) Ka:=d.andThen e;simp only[checkBuiltinCall,b,c];refine aa (f.at ?_)
 repeat (first|wp_step|exact a)
def zfT(X:K.In s.heap)(k:Ku K C)(I:jm s.heap x ox C J9)(h:Q (JU (.ref C)) { s with toks:=s.toks+1 }):aq (av prog w) A (getAttr? (.ref x) "__class__") Q E s:=by
 obtain⟨i,c⟩:=k.cl;have d:findObj K C J9 "__class__" = JU (.bind (.builtin "getset_descriptor.__get__") (.builtin "object.__class__")):=by
  unfold findObj;rw[c,k.at_];simp only[Option.bind_some,k.gt,k.tk]
 have b:=I.type (M:=av prog w);have e:=looks_findIn (M:=av prog w) X k.ga;have f:=looks_findIn (M:=av prog w) X k.nh;have g:=looks_find (M:=av prog w) X I d;unfold getAttr? getAttrBy? getAttrBy;refine aa (wpAny_mkText (aa (f6 (bI (aa (b.at (aa (e.at ?_))))))));have a:(onTheHeap (ef C)&&g9 "BaseException.__getattribute__" == g9 "object.__getattribute__")=Kb:=by
  rw[show(g9 "BaseException.__getattribute__" == g9 "object.__getattribute__")=Kb from by decide +kernel];rfl
 show aq _ _ (if (onTheHeap (ef C)&&g9 "BaseException.__getattribute__" == g9 "object.__getattribute__")=Ka then _ else _) _ _ _;rw[Kf (by rw[a];decide)];unfold getAttrByItsOwn hookBefore;rw[Kd (by rfl)];refine aa (f.at (aa (f6 (bI ?_))));unfold callGetattribute boundAndCalled;rw[Kf 'u'];rw[mG.ga.bind (.ref x)];refine aa (ah (jY ?_));refine lG mG.ga.plain F.entry_bexc_ga (zg0 X k I ?_);unfold dQ.«object.__getattribute__»;refine aa (ah (aa (ah (aa (b.at (aa (g.at ?_)))))));show aq _ _ (j0 _ _ _ _) _ _ _;unfold j0;refine aa (bI (jY (class_get X I k.ob ?_)));exact ah (ah (ah h))
def Z4(k:Ku K C):KitX K (.ref x) (.ref C) (λh=>∃b,jm h x b C J9) where
 ty:=λ_ _ _ ⟨b,I⟩=>I.type
 it:=λ_ _ X _=>by
  obtain⟨g,a⟩:=k.cl;unfold clsIn at a;split at a
  ·rename_i i j c l d;intro p r s t m q;unfold isType loadHead;exact aa (wpAny_loadPart (m _ _ (X _ _ d)) (ah q))
  ·cases a
 ne:=λh o u v n w X f=>by
  obtain⟨g,a⟩:=k.cl;refine Bool.eq_false_iff.mpr λq=>?_;have e:C=o:=Value.ref.inj (beq_iff_eq.mp q);subst e;unfold clsIn at a;split at a
  ·rename_i i j c l d;have z:=(X _ _ d).symm.trans f;cases z
  ·cases a
 ca:=λX ⟨b,I⟩ q=>zfT X k I q
end
end DL
namespace DL
open PySem L2
inductive D where
 |non
 |bl (b:Bool)
 |int (i:Int)
 |str (cs:k_)
 |lst (xs:List D)
 |tup (xs:List D)
 |own (k:Nat)
 |dct
 |exn (C:Nat)
 |tab (P:Nat)
 |map (ks:List (Sum Int k_)) (ds:List D)
 |adr (a:Nat)
 deriving Inhabited
abbrev Ow:=List (List D)
inductive R(α:Type) where
 |ok (a:α) (O:Ow)
 |exc (c:Nat) (O:Ow)
 |bad
 deriving Inhabited
def R.bnd{α β:Type}(r:R α)(k:α->Ow->R β):R β:=match r with
 |.ok a O=>k a O
 |.exc c O=>.exc c O
 |.bad=>.bad
abbrev Sg:=List (Option D)
abbrev DE:=Sg->Ow->R D
abbrev DT:=Sg->Ow->R Bool
abbrev DA:=Sg->Ow->R (List D)
section
variable(K:ak)(H:Hp)(XV μ:List af)
def XA(K:ak)(a:af)(xs:List V):Prop:=∃(o:Obj)(e_:Array ae)(n:Nat),K.lookup a=JU o/\o.cls=.type "list"/\o.dict=J9/\o.data=.seq e_ n/\e_.size<=aM/\oQ xs e_.toList
def Xh(K:ak)(a:af)(xs:List V):Prop:=∃(o:Obj)(e_:Array ae)(n:Nat),K.lookup a=JU o/\o.cls=.type "tuple"/\o.data=.seq e_ n/\e_.size<=aM/\oQ xs e_.toList
def LstAt(a:af)(vs:List V):Prop:=(Rd H a (.lst vs)/\a∉XV/\a∉μ)\/XA K a vs
def TupAt(a:af)(vs:List V):Prop:=(Rd H a (.tup vs)/\a∉XV/\a∉μ)\/Xh K a vs/\∃o,K.lookup a=JU o/\o.dict=J9
end
noncomputable def kD:Sum Int k_->Key
 |.inl i=>.inl i
 |.inr cs=>.inr ⟨cs.toArray⟩
def o4(H:Hp)(P:af):Prop:=∃ps,H P=JU (.tbl ps)/\TriplesOk ps.toList/\∀pos cv,codeAmong pos ps.toList=JU cv->∃c φ,cv=.ref c/\H c=JU (.ext φ)/\∀h:aX,φ h->∃q,h.CodeRec (.ref c) q
def Ef(o:HO):Prop:=∀ps,o ≠ .tbl ps
section
variable(K:ak)(H:Hp)(XV μ:List af)
mutual
def J5:D->V->Prop
 |.non,v=>v=.non
 |.bl b,v=>v=.bl b
 |.int i,v=>v=.int i
 |.str cs,v=>v=.str ⟨cs.toArray⟩
 |.lst ds,v=>∃a vs,v=.ref a/\LstAt K H XV μ a vs/\oO ds vs
 |.tup ds,v=>∃a vs,v=.ref a/\TupAt K H XV μ a vs/\oO ds vs
 |.own k,v=>∃a,v=.ref a/\μ[k]?=JU a
 |.dct,v=>∃a,v=.ref a/\Rd H a (.dK [])/\a∉XV/\a∉μ
 |.exn C,v=>∃a φ,v=.ref a/\(Ku K C/\∀h:aX,φ h->∃ox,jm h a ox C J9)/\Rd H a (.ext φ)/\a∉XV/\a∉μ
 |.tab P,v=>v=.bl Kb/\o4 H P
 |.map ks ds,v=>∃a vs,v=.ref a/\(∃o,H a=JU (.frz o (.dK ((ks.map kD).zip vs))))/\a∉XV/\a∉μ/\ks.length=vs.length/\oO ds vs
 |.adr a,v=>v=.ref a
def oO:List D->List V->Prop
 |[],vs=>vs=[]
 |d::ds,vs=>∃v r,vs=v::r/\J5 d v/\oO ds r
end
structure oN(O:Ow):Prop where
 len:μ.length=O.length
 nd:μ.Nodup
 nh:∀a∈μ,a∉XV
 ht:∀a∈XV,H a≠J9
 at_:∀(k:Nat)a,μ[k]?=JU a->∃ds vs,O[k]?=JU ds/\H a=JU (.lst vs)/\oO K H XV μ ds vs
structure oP(σ:Sg)(a_:St):Prop where
 len:σ.length=a_.length
 at_:∀(i:Nat)d,σ[i]?=JU (JU d)->∃v,a_[i]?=JU (JU v)/\J5 K H XV μ d v
end
structure Ext(H:Hp)(μ:List af)(H':Hp)(c_:List af):Prop where
 pre:∃ν,c_=μ++ν
 kept:∀b o,H b=JU o->b∉μ->Ef o->H' b=JU o
 fresh:∀b∈c_,b∈μ\/H b=J9
 there:∀b,H b≠J9->H' b≠J9
 tab:∀P,o4 H P->o4 H' P
structure Mv(H:Hp)(XV μ:List af)(H':Hp)(hid' c_:List af):Prop where
 pre:∃ν,c_=μ++ν
 kept:∀b o,H b=JU o->b∉μ->b∉XV->Ef o->H' b=JU o
 fresh:∀b∈c_,b∈μ\/H b=J9
 hids:∀b∈hid',b∈XV\/H b=J9
 there:∀b,H b≠J9->H' b≠J9
 tab:∀P,o4 H P->o4 H' P
section
def Ext.keep(e:Ext H μ H' c_)(b:af)(o:HO)(h:H b=JU o)(n:b∉μ)(a:Ef o:=by intro ps z;cases z):H' b=JU o:=e.kept b o h n a
def o4.upd(t:o4 H P)(g:H p=J9 \/ ∃a,H p=JU (.lst a)):o4 (L2.upd H p o) P:=by
 obtain⟨h,b,i,j⟩:=t;have l:P≠p:=by
  rintro rfl;rcases g with z|⟨a,z⟩<;>(rw[z] at b;cases b)
 refine⟨h,by rw[qi l];exact b,i,λd m e=>?_⟩;obtain⟨c,n,rfl,f,q⟩:=j d m e;have r:c≠p:=by
  rintro rfl;rcases g with z|⟨a,z⟩<;>(rw[z] at f;cases f)
 exact⟨c,n,rfl,by rw[qi r];exact f,q⟩
def Ext.refl:Ext H μ H μ:=⟨⟨[],by simp⟩,λ_ _ h _ _=>h,λ_ h=>.inl h,λ_ h=>h,λ_ t=>t⟩
def Ext.trans(a:Ext H μ H1 f_)(b:Ext H1 f_ H2 qg):Ext H μ H2 qg:=by
 refine⟨?_,λc o h n d=>?_,λc h=>?_,λc h=>b.there c (a.there c h),λP t=>b.tab P (a.tab P t)⟩
 ·obtain⟨x,rfl⟩:=a.pre;obtain⟨y,rfl⟩:=b.pre;exact⟨x++y,by simp⟩
 ·refine b.kept c o (a.kept c o h n d) (λm=>?_) d;rcases a.fresh c m with z|z
  ·exact n z
  ·rw[z] at h;cases h
 ·rcases b.fresh c h with z|z
  ·exact a.fresh c z
  ·by_cases f:c∈μ
   ·exact .inl f
   ·cases e:H c with
    |none=>exact .inr rfl
    |some o=>exact absurd z (a.there c (by rw[e];simp))
def Ext.mv(a:Ext H μ H' c_):Mv H XV μ H' XV c_:=⟨a.pre,λb o h n _ c=>a.kept b o h n c,a.fresh,λ_ h=>.inl h,a.there,a.tab⟩
def Mv.refl:Mv H XV μ H XV μ:=Ext.refl.mv
def Mv.trans(a:Mv H XV μ H1 zU f_)(b:Mv H1 zU f_ H2 OK qg):Mv H XV μ H2 OK qg:=by
 have d:∀c,H1 c=J9->H c=J9:=λc h=>by
  cases e:H c with
  |none=>rfl
  |some o=>exact absurd h (a.there c (by rw[e];simp))
 refine⟨?_,λc o h f g i=>?_,λc h=>?_,λc h=>?_,λc h=>b.there c (a.there c h),λP t=>b.tab P (a.tab P t)⟩
 ·obtain⟨x,rfl⟩:=a.pre;obtain⟨y,rfl⟩:=b.pre;exact⟨x++y,by simp⟩
 ·refine b.kept c o (a.kept c o h f g i) (λm=>?_) (λm=>?_) i
  ·rcases a.fresh c m with z|z
   ·exact f z
   ·rw[z] at h;cases h
  ·rcases a.hids c m with z|z
   ·exact g z
   ·rw[z] at h;cases h
 ·rcases b.fresh c h with z|z
  ·exact a.fresh c z
  ·exact .inr (d c z)
 ·rcases b.hids c h with z|z
  ·exact a.hids c z
  ·exact .inr (d c z)
def Mv.hide(h:H b=J9):Mv H XV μ H (b::XV) μ:=⟨⟨[],by simp⟩,λ_ _ h _ _ _=>h,λ_ m=>.inl m,λc m=>(am.mp m).elim (λe=>.inr (by rw[e];exact h)) .inl,λ_ h=>h,λ_ t=>t⟩
def Mv.unhide:Mv H (b::XV) μ H XV μ:=⟨⟨[],by simp⟩,λ_ _ h _ _ _=>h,λ_ m=>.inl m,λ_ m=>.inl (ag _ m),λ_ h=>h,λ_ t=>t⟩
def Rd.mv(r:Rd H a u)(e:Mv H XV μ H' hid' c_)(c:a∉XV)(d:a∉μ)(f:Ef u:=by intro ps z;cases z):Rd H' a u/\a∉hid'/\a∉c_:=by
 have b:∀o,H a=JU o->a∉hid'/\a∉c_:=by
  intro o h;constructor
  ·intro m;rcases e.hids a m with z|z
   ·exact c z
   ·rw[z] at h;cases h
  ·intro m;rcases e.fresh a m with z|z
   ·exact d z
   ·rw[z] at h;cases h
 rcases r with r|⟨o,r⟩
 ·exact⟨.inl (e.kept _ _ r d c f),b _ r⟩
 ·exact⟨.inr ⟨o,e.kept _ _ r d c (by intro ps z;cases z)⟩,b _ r⟩
def LstAt.mv(h:LstAt K H XV μ a vs)(e:Mv H XV μ H' hid' c_):LstAt K H' hid' c_ a vs:=
 h.imp (λz=>Rd.mv z.1 e z.2.1 z.2.2) id
def TupAt.mv(h:TupAt K H XV μ a vs)(e:Mv H XV μ H' hid' c_):TupAt K H' hid' c_ a vs:=
 h.imp (λz=>Rd.mv z.1 e z.2.1 z.2.2) id
def LstAt.sq(h:LstAt K H XV μ a vs):qS K H a vs:=h.elim (λz=>.inl z.1) .inr
def TupAt.sq(h:TupAt K H XV μ a vs):sH K H a vs:=h.elim (λz=>.inl z.1) λz=>.inr z.1
mutual
theorem J5.mv(e:Mv H XV μ H' hid' c_):∀{d:D}{v:V},J5 K H XV μ d v->J5 K H' hid' c_ d v
 |.non,_,h=>h
 |.bl _,_,h=>h
 |.int _,_,h=>h
 |.str _,_,h=>h
 | .lst ds,v,h=>by
  unfold J5 at h ⊢;obtain⟨a,f,r,l,q⟩:=h;exact⟨a,f,r,l.mv e,oO.mv e q⟩
 | .tup ds,v,h=>by
  unfold J5 at h ⊢;obtain⟨a,f,r,l,q⟩:=h;exact⟨a,f,r,l.mv e,oO.mv e q⟩
 | .own k,v,h=>by
  unfold J5 at h ⊢;obtain⟨a,r,q⟩:=h;obtain⟨x,rfl⟩:=e.pre;exact⟨a,r,by rw[aH (ao.mp q).1];exact q⟩
 | .dct,v,h=>by
  unfold J5 at h ⊢;obtain⟨a,r,q,b,c⟩:=h;exact⟨a,r,Rd.mv q e b c⟩
 | .exn C,v,h=>by
  unfold J5 at h ⊢;obtain⟨a,i,r,g,q,b,c⟩:=h;exact⟨a,i,r,g,Rd.mv q e b c⟩
 | .tab P,v,h=>by
  unfold J5 at h ⊢;exact⟨h.1,e.tab _ h.2⟩
 | .map ks ds,v,h=>by
  unfold J5 at h ⊢;obtain⟨a,f,r,⟨o,q⟩,b,c,j,d⟩:=h;obtain⟨_,m,n⟩:=Rd.mv (.inr ⟨o,q⟩) e b c;exact⟨a,f,r,⟨o,e.kept a _ q c b (by intro p z;cases z)⟩,m,n,j,oO.mv e d⟩
 |.adr _,_,h=>h
theorem oO.mv(e:Mv H XV μ H' hid' c_):∀{ds:List D}{a:List V},oO K H XV μ ds a->oO K H' hid' c_ ds a
 |[],_,h=>h
 | d::ds,a,h=>by
  unfold oO at h ⊢;obtain⟨v,r,b,c,f⟩:=h;exact⟨v,r,b,J5.mv e c,oO.mv e f⟩
end
def J5.ext(e:Ext H μ H' c_)(h:J5 K H XV μ d v):J5 K H' XV c_ d v:=h.mv e.mv
def oO.ext(e:Ext H μ H' c_)(h:oO K H XV μ ds vs):oO K H' XV c_ ds vs:=h.mv e.mv
def oP.mv(h:oP K H XV μ σ a_)(e:Mv H XV μ H' hid' c_):oP K H' hid' c_ σ a_:=
 ⟨h.len,λi d q=>let ⟨v,a,b⟩:=h.at_ i d q;⟨v,a,b.mv e⟩⟩
def oP.ext(h:oP K H XV μ σ a_)(e:Ext H μ H' c_):oP K H' XV c_ σ a_:=h.mv e.mv
def oP.set(h:oP K H XV μ σ a_)(q:J5 K H XV μ d v)(i:Nat):oP K H XV μ (σ.set i (JU d)) (a_.set i (JU v)):=by
 refine⟨by simp[h.len],λj x e=>?_⟩;by_cases c:i=j
 ·subst c;have f:i<σ.length:=by have:=(ao.mp e).1;simpa using this
  rw[bU f] at e;cases e;exact⟨v,by rw[bU (by rw[<- h.len];exact f)],q⟩
 ·rw[bg c] at e;obtain⟨w,a,b⟩:=h.at_ j x e;exact⟨w,by rw[bg c];exact a,b⟩
theorem oO.length:∀{ds:List D}{a:List V},oO K H XV μ ds a->ds.length=a.length
 |[],_,h=>by unfold oO at h;subst h;rfl
 | d::ds,a,h=>by
  obtain⟨v,r,rfl,_,b⟩:=h;simp[oO.length b]
def oO.nil:oO K H XV μ [] []:=by unfold oO;rfl
def oO.cons(h:J5 K H XV μ d v)(t:oO K H XV μ ds vs):oO K H XV μ (d::ds) (v::vs):=by unfold oO;exact⟨v,vs,rfl,h,t⟩
theorem oO.append:∀{ds es:List D}{a b:List V},oO K H XV μ ds a->oO K H XV μ es b->oO K H XV μ (ds++es) (a++b)
 |[],_,_,_,h,t=>by unfold oO at h;subst h;exact t
 | d::ds,es,a,b,h,t=>by
  obtain⟨v,r,rfl,c,e⟩:=h;exact .cons c (oO.append e t)
theorem oO.get:∀{ds:List D}{c:List V}{i:Nat}{d:D},oO K H XV μ ds c->ds[i]?=JU d->∃v,c[i]?=JU v/\J5 K H XV μ d v
 |[],_,_,_,_,e=>by simp at e
 | d::ds,c,0,x,h,e=>by
  obtain⟨v,r,rfl,f,g⟩:=h;simp at e;subst e;exact⟨v,by simp,f⟩
 | d::ds,c,i+1,x,h,e=>by
  obtain⟨v,r,rfl,f,g⟩:=h;obtain⟨z,a,b⟩:=oO.get g ⇑e;exact⟨z,by simpa using a,b⟩
theorem oO.take:∀{ds:List D}{a:List V}(n:Nat),oO K H XV μ ds a->oO K H XV μ (ds.take n) (a.take n)
 |_,_,0,_=>by simpa using oO.nil
 |[],_,n+1,h=>by unfold oO at h;subst h;simpa using oO.nil
 | d::ds,a,n+1,h=>by
  obtain⟨v,r,rfl,b,c⟩:=h;simpa using oO.cons b (oO.take n c)
theorem oO.drop:∀{ds:List D}{a:List V}(n:Nat),oO K H XV μ ds a->oO K H XV μ (ds.drop n) (a.drop n)
 |_,_,0,h=>by simpa using h
 |[],_,n+1,h=>by unfold oO at h;subst h;simpa using oO.nil
 | d::ds,a,n+1,h=>by
  obtain⟨v,r,rfl,c,b⟩:=h;simpa using oO.drop n b
theorem oO.set(q:J5 K H XV μ d v):∀{ds:List D}{a:List V}(i:Nat),oO K H XV μ ds a->oO K H XV μ (ds.set i d) (a.set i v)
 |[],_,i,h=>by unfold oO at h;subst h;simpa using oO.nil
 | x::ds,a,0,h=>by
  obtain⟨w,r,rfl,c,b⟩:=h;simpa using oO.cons q b
 | x::ds,a,i+1,h=>by
  obtain⟨w,r,rfl,c,b⟩:=h;simpa using oO.cons c (oO.set q i b)
theorem oO.rev:∀{ds:List D}{a:List V},oO K H XV μ ds a->oO K H XV μ ds.reverse a.reverse
 |[],_,h=>by unfold oO at h;subst h;simpa using oO.nil
 | d::ds,a,h=>by
  unfold oO at h;obtain⟨v,r,rfl,b,c⟩:=h;simpa using oO.append (oO.rev c) (.cons b .nil)
def yW(b)(h:H b≠J9):upd H p o b≠J9:=by
 by_cases e:b=p
 ·subst e;rw[rO];simp
 ·rw[qi e];exact h
def Ext.laid(h:H p=J9):Ext H μ (upd H p o) μ:=
 ⟨⟨[],by simp⟩,λb u e _ _=>by rw[qi (sQ e h)];exact e,λ_ m=>.inl m,yW,λ_ t=>t.upd (.inl h)⟩
def oN.laid(c:oN K H XV μ O)(h:H p=J9):oN K (upd H p o) XV μ O:=by
 refine⟨c.len,c.nd,c.nh,λa m=>?_,λk a e=>?_⟩
 ·by_cases q:a=p
  ·subst q;rw[rO];simp
  ·rw[qi q];exact c.ht a m
 ·obtain⟨d,f,g,b,i⟩:=c.at_ k a e;exact⟨d,f,g,by rw[qi (sQ b h)];exact b,i.ext (.laid h)⟩
def oN.not_in(c:oN K H XV μ O)(h:H p=J9):p∉XV/\p∉μ:=by refine⟨λm=>c.ht p m h,λm=>?_⟩;obtain⟨k,b,e⟩:=cQ.mp m;obtain⟨d,f,_,a,_⟩:=c.at_ k p (by rw[ao];exact⟨b,e⟩);rw[h] at a;cases a
def J5.newL(c:oN K H XV μ O)(h:H p=J9)(q:oO K H XV μ ds vs):J5 K (upd H p (.lst vs)) XV μ (.lst ds) (.ref p):=by exact⟨p,vs,rfl,.inl ⟨.inl rO,c.not_in h⟩,q.ext (.laid h)⟩
def J5.newT(c:oN K H XV μ O)(h:H p=J9)(q:oO K H XV μ ds vs):J5 K (upd H p (.tup vs)) XV μ (.tup ds) (.ref p):=by exact⟨p,vs,rfl,.inl ⟨.inl rO,c.not_in h⟩,q.ext (.laid h)⟩
def Ext.cell(h:H p=J9):Ext H μ (upd H p o) (μ++[p]):=
 ⟨⟨[p],rfl⟩,λb u e _ _=>by rw[qi (sQ e h)];exact e,λb m=>by
  rcases aO.mp m with m|m
  ·exact .inl m
  ·have:b=p:=⇑m
   subst this;exact .inr h,yW,λ_ t=>t.upd (.inl h)⟩
def oN.cell(c:oN K H XV μ O)(h:H p=J9)(q:oO K H XV μ ds vs):oN K (upd H p (.lst vs)) XV (μ++[p]) (O++[ds]):=by
 have d:=c.not_in h;refine⟨by simp[c.len],?_,λa m=>?_,λa m=>?_,λk a e=>?_⟩
 ·rw[eD];refine⟨c.nd,by simp,λa i b j=>?_⟩;have:b=p:=⇑j
  subst this;rintro rfl;exact d.2 i
 ·rcases aO.mp m with m|m
  ·exact c.nh a m
  ·have:a=p:=⇑m
   subst this;exact d.1
 ·by_cases q:a=p
  ·subst q;rw[rO];simp
  ·rw[qi q];exact c.ht a m
 ·by_cases f:k<μ.length
  ·rw[aH f] at e;obtain⟨l,n,o,g,r⟩:=c.at_ k a e;exact⟨l,n,by rw[aH (by rw[<- c.len];exact f)];exact o,by rw[qi (sQ g h)];exact g,r.ext (.cell h)⟩
  ·rw[bj 'd'] at e;have s:k-μ.length=0:=by
    have:=(ao.mp e).1;simp at this;lia
   rw[s] at e;simp at e;subst e;refine⟨ds,vs,?_,rO,q.ext (.cell h)⟩;have:k=O.length:=by have:=c.len;lia
   subst this;simp
def Ext.put(h:p∈μ)(a:∃c,H p=JU (.lst c)):Ext H μ (upd H p o) μ:=
 ⟨⟨[],by simp⟩,λb u e n _=>by rw[qi (by rintro rfl;exact n h)];exact e,λ_ m=>.inl m,yW,λ_ t=>t.upd (.inr a)⟩
def oN.put(c:oN K H XV μ O)(d:μ[k]?=JU p)(q:oO K H XV μ ds b):oN K (upd H p (.lst b)) XV μ (O.set k ds):=by
 have h:=aJ d;have i:∃b,H p=JU (.lst b):=let ⟨_,b,_,f,_⟩:=c.at_ k p d;⟨b,f⟩;refine⟨by simp[c.len],c.nd,c.nh,λa m=>?_,λj a e=>?_⟩
 ·by_cases q:a=p
  ·subst q;rw[rO];simp
  ·rw[qi q];exact c.ht a m
 ·by_cases g:j=k
  ·subst g;rw[d] at e;cases e;refine⟨ds,b,?_,rO,q.ext (.put h i)⟩;rw[bU (by rw[<- c.len];exact(ao.mp d).1)]
  ·have n:a≠p:=by
    rintro rfl;obtain⟨l,o⟩:=ao.mp e;obtain⟨f,r⟩:=ao.mp d;exact g ((j7 c.nd).mp (o.trans r.symm))
   obtain⟨s,t,l,f,u⟩:=c.at_ j a e;exact⟨s,t,by rw[bg (bN g)];exact l,by rw[qi n];exact f,u.ext (.put h i)⟩
end
section
variable(Ex:Nat->Hp->Prop)(K:ak)
def post{α β:Type}(rel:Hp->List af->α->β->Prop)(H:Hp)(XV μ:List af)(r:R α)(Q:β->Hp->Prop):Prop:=match r with
 |.ok d O'=>∀v H' c_,Ext H μ H' c_->oN K H' XV c_ O'->rel H' c_ d v->Q v H'
 |.exc c O'=>∀H' c_,Ext H μ H' c_->oN K H' XV c_ O'->Ex c H'
 |.bad=>False
abbrev rP(H:Hp)(XV μ:List af)(r:R D)(Q:VK):Prop:=post Ex K (λH' c_ d v=>J5 K H' XV c_ d v) H XV μ r Q
abbrev yR(H:Hp)(XV μ:List af)(r:R Bool)(Q:Bool->Hp->Prop):Prop:=post Ex K (λ_ _ d v=>d=v) H XV μ r Q
abbrev QZ(H:Hp)(XV μ:List af)(r:R (List D))(Q:List V->Hp->Prop):Prop:=post Ex K (λH' c_ d v=>oO K H' XV c_ d v) H XV μ r Q
def rd(t:DE):TE:=λa_ H Q=>∃XV μ σ O,oP K H XV μ σ a_/\oN K H XV μ O/\rP Ex K H XV μ (t σ O) Q
def yX(t:DT):TT:=λa_ H Q=>∃XV μ σ O,oP K H XV μ σ a_/\oN K H XV μ O/\yR Ex K H XV μ (t σ O) Q
def vA(t:DA):TA:=λa_ H Q=>∃XV μ σ O,oP K H XV μ σ a_/\oN K H XV μ O/\QZ Ex K H XV μ (t σ O) Q
end
section
def post.ext{α β:Type}{a:Hp->List af->α->β->Prop}{r:R α}{Q:β->Hp->Prop}(h:post Ex K a H XV μ r Q)(e:Ext H μ H1 f_):post Ex K a H1 XV f_ r Q:=by
 cases r with
 |ok d O'=>exact λv b f g c q=>h v b f (e.trans g) c q
 |exc c O'=>exact λb f g c=>h b f (e.trans g) c
 |bad=>exact h
def post.bnd{α β g i:Type}{a:Hp->List af->α->β->Prop}{j:Hp->List af->g->i->Prop}{r:R α}{k:α->Ow->R g}{Q:i->Hp->Prop}{Q1:β->Hp->Prop}
  (h:post Ex K j H XV μ (r.bnd k) Q)
  (l:∀d O1 v b f,Ext H μ b f->oN K b XV f O1->a b f d v->post Ex K j b XV f (k d O1) Q->Q1 v b):post Ex K a H XV μ r Q1:=by
 cases r with
 |ok d O'=>exact λv m n e c q=>l d O' v m n e c q (post.ext (h) e)
 |exc c O'=>exact h
 |bad=>exact h
def post.ok{α β:Type}{a:Hp->List af->α->β->Prop}{d:α}{O:Ow}{Q:β->Hp->Prop}{v:β}(h:post Ex K a H XV μ (.ok d O) Q){H':Hp}{b:List af}(e:Ext H μ H' b)(c:oN K H' XV b O)(q:a H' b d v):Q v H':=h v H' b e c q
def post.here{α β:Type}{a:Hp->List af->α->β->Prop}{d:α}{O:Ow}{Q:β->Hp->Prop}{v:β}(h:post Ex K a H XV μ (.ok d O) Q)(c:oN K H XV μ O)(q:a H μ d v):Q v H:=h v H μ .refl c q
end
structure PD(X:Cx)(Ex:Nat->Hp->Prop)(e:bi)(t:DE):Prop where
 out:PE X e (rd Ex X.K t)
structure rX(X:Cx)(Ex:Nat->Hp->Prop)(e:bi)(t:DT):Prop where
 out:PT X e (yX Ex X.K t)
structure uS(X:Cx)(Ex:Nat->Hp->Prop)(es:List bi)(t:DA):Prop where
 out:PA X es (vA Ex X.K t)
def PE.imp(h:PE X e t)(f:∀σ H Q,t' σ H Q->t σ H Q):PE X e t':=λa s σ H Q I q=>h a s σ H Q I (f σ H Q q)
def PT.imp(h:PT X e t)(f:∀σ H Q,t' σ H Q->t σ H Q):PT X e t':=λa s σ H Q I q=>h a s σ H Q I (f σ H Q q)
def PA.imp(h:PA X e t)(f:∀σ H Q,t' σ H Q->t σ H Q):PA X e t':=λb a s σ H Q I q=>h b a s σ H Q I (f σ H Q q)
def PW.imp(h:PW X e t)(f:∀σ H Q,t' σ H Q->t σ H Q):PW X e t':=λw a s σ H Q I q=>h w a s σ H Q I (f σ H Q q)
def rM(i:Nat):DE:=λσ O=>match σ[i]? with
 |some (JU d)=>.ok d O
 |_=>.bad
def dC(d:D):DE:=λ_ O=>.ok d O
section
variable{X:Cx}{Ex:Nat->Hp->Prop}{pos:Pos}{a b c:bi}{ta tb tc:DE}
def sJ{e}{t}{t'}(h:PE X e t)(f:∀XV μ σ O d H Q,oP X.K H XV μ σ d->oN X.K H XV μ O->rP Ex X.K H XV μ (t' σ O) Q->t d H Q):PD X Ex e t':=
 ⟨PE.imp h λd H Q ⟨XV,μ,σ,O,g,i,q⟩=>f XV μ σ O d H Q g i q⟩
def IF{e}{t}{t'}(h:PT X e t)(f:∀XV μ σ O d H Q,oP X.K H XV μ σ d->oN X.K H XV μ O->yR Ex X.K H XV μ (t' σ O) Q->t d H Q):rX X Ex e t':=
 ⟨PT.imp h λd H Q ⟨XV,μ,σ,O,g,i,q⟩=>f XV μ σ O d H Q g i q⟩
def Rk(h:PA X e t)(f:∀XV μ σ O d H Q,oP X.K H XV μ σ d->oN X.K H XV μ O->QZ Ex X.K H XV μ (t' σ O) Q->t d H Q):uS X Ex e t':=
 ⟨PA.imp h λd H Q ⟨XV,μ,σ,O,g,i,q⟩=>f XV μ σ O d H Q g i q⟩
def rd.go{h i:Type}{j:Hp->List af->h->i->Prop}{t}{XV μ}{σ}{O}{a_}{H}{Q1}{k:D->Ow->R h}{Q:i->Hp->Prop}(l:oP X.K H XV μ σ a_)(m:oN X.K H XV μ O)
  (q:post Ex X.K j H XV μ ((t σ O).bnd k) Q)
  (f:∀d O1 v e g,oP X.K e XV g σ a_->Ext H μ e g->oN X.K e XV g O1->J5 X.K e XV g d v->post Ex X.K j e XV g (k d O1) Q->Q1 v e):rd Ex X.K t a_ H Q1:=
 ⟨XV,μ,σ,O,l,m,post.bnd q λd O1 v e g x c r p=>f d O1 v e g (l.ext x) x c r p⟩
def yX.go{h i:Type}{j:Hp->List af->h->i->Prop}{t}{XV μ}{σ}{O}{a_}{H}{Q1}{k:Bool->Ow->R h}{Q:i->Hp->Prop}(l:oP X.K H XV μ σ a_)(m:oN X.K H XV μ O)
  (q:post Ex X.K j H XV μ ((t σ O).bnd k) Q)
  (f:∀v O1 e g,oP X.K e XV g σ a_->Ext H μ e g->oN X.K e XV g O1->post Ex X.K j e XV g (k v O1) Q->Q1 v e):yX Ex X.K t a_ H Q1:=
 ⟨XV,μ,σ,O,l,m,post.bnd q λd O1 v e g x c r p=>by
  subst r;exact f d O1 e g (l.ext x) x c p⟩
def vA.go{h i:Type}{j:Hp->List af->h->i->Prop}{t}{XV μ}{σ}{O}{a_}{H}{Q1:List V->Hp->Prop}{k:List D->Ow->R h}{Q:i->Hp->Prop}(l:oP X.K H XV μ σ a_)(m:oN X.K H XV μ O)
  (q:post Ex X.K j H XV μ ((t σ O).bnd k) Q)
  (f:∀d O1 v e g,oP X.K e XV g σ a_->Ext H μ e g->oN X.K e XV g O1->oO X.K e XV g d v->post Ex X.K j e XV g (k d O1) Q->Q1 v e):vA Ex X.K t a_ H Q1:=
 ⟨XV,μ,σ,O,l,m,post.bnd q λd O1 v e g x c r p=>f d O1 v e g (l.ext x) x c r p⟩
def Zz(f:X.N[i]?=JU x)(g:vH X.env.scope x)(e:sU x:=by decide)(h:(x==("__classdict__":aA))=Kb:=by decide):PD X Ex (.Name x pos) (rM i):=
 sJ (BK f g e h) λj p r O s H Q l m q=>by
  unfold rM at q;split at q
  ·rename_i d e;obtain⟨v,n,o⟩:=l.at_ i d e;exact⟨v,n,post.here q m o⟩
  ·exact aj q
def ziA:PD X Ex (.Constant (.int i) j pos) (dC (.int i)):=sJ Rc λd f g O h H Q l e q=>post.here q e (by unfold J5;rfl)
def X6:PD X Ex (.Constant (.bool i) j pos) (dC (.bl i)):=sJ X0 λd f g O h H Q l e q=>post.here q e (by unfold J5;rfl)
def ZJ:PD X Ex (.Constant .none j pos) (dC .non):=sJ RM λd f g O h H Q i e q=>post.here q e (by unfold J5;rfl)
def ZP(cs)(h:x=⟨cs.toArray⟩):PD X Ex (.Constant (.str x) j pos) (dC (.str cs)):=sJ RX λd f g O i H Q l e q=>post.here q e (by unfold J5;rw[h])
def zdB(cs)(d:Gl X x)(e:X.mg x=JU (.str y t))(h:y=⟨cs.toArray⟩)(f:sU x:=by decide):PD X Ex (.Name x pos) (dC (.str cs)):=
 sJ (IK (v:=.str y) d e ⟨t,rfl⟩ f) λg j l O m H Q n i q=>post.here q i (by unfold J5;rw[h])
def i_(f:Ow->D->D->R D)(ta tb:DE):DE:=λσ O=>(ta σ O).bnd λx O1=>(tb σ O1).bnd λy O2=>f O2 x y
def tM(X:Cx)(Ex:Nat->Hp->Prop)(r:R2)(f:Ow->D->D->R D):Prop:=∀(H)(XV μ)(O)(x y)(v w)(Q),oN X.K H XV μ O->J5 X.K H XV μ x v->J5 X.K H XV μ y w->rP Ex X.K H XV μ (f O x y) Q->r v w H Q
def Iz{r:R2}{f:Ow->D->D->R D}(h:tM X Ex r f)(XV μ)(σ)(O)(a_)(H)(Q:VK)(d:oP X.K H XV μ σ a_)(e:oN X.K H XV μ O)(q:rP Ex X.K H XV μ (i_ f ta tb σ O) Q):
  Gg r (rd Ex X.K ta) (rd Ex X.K tb) a_ H Q:=
 rd.go d e q λx A v B C g E i j l=>rd.go g i l λy m w n o G p s t u=>h n XV o m x y v w Q s (j.ext p) t u
def QK(d:rg X (e8 op) r)(h:tM X Ex r f)(e:PD X Ex a ta)(g:PD X Ex b tb):PD X Ex (.BinOp a op b pos) (i_ f ta tb):=
 sJ (X9 d e.out g.out) (Iz h)
def Ln(d:rg X (cN op) r)(h:tM X Ex r f)(e:PD X Ex a ta)(g:PD X Ex b tb)(i:behindInMarks op b=Kb):PD X Ex (.Compare a [op] [b] pos) (i_ f ta tb):=
 sJ (zgc d e.out g.out i) (Iz h)
def qI(t:DE):DT:=λσ O=>(t σ O).bnd λx O1=>match x with
 |.bl k=>.ok k O1
 |_=>.bad
def TC(f:∀XV μ σ O e H Q,oP X.K H XV μ σ e->oN X.K H XV μ O->rP Ex X.K H XV μ (td σ O) Q->t e H Q)(XV μ)(σ)(O)(e)(H)(Q:Bool->Hp->Prop)
  (g:oP X.K H XV μ σ e) (h:oN X.K H XV μ O) (q:yR Ex X.K H XV μ (qI td σ O) Q):QE t e H Q:=by
 refine f XV μ σ O e H _ g h (post.bnd q λd i v j l x c r p=>?_);cases d with
 | bl k=>
  exact⟨k,r,post.here p c rfl⟩
 |_=>exact aj p
def El(d:rg X (cN op) r)(h:tM X Ex r f)(e:PD X Ex a ta)(g:PD X Ex b tb)(i:behindInMarks op b=Kb):rX X Ex (.Compare a [op] [b] pos) (qI (i_ f ta tb)):=
 IF (zga d e.out g.out i) (TC (Iz h))
noncomputable def Qx(O:Ow):D->R Bool
 |.non=>.ok Kb O
 |.bl b=>.ok b O
 |.int i=>.ok (i !=0) O
 |.str cs=>if cs.length<=4000000 then .ok (!cs.isEmpty) O else .bad
 |.lst ds=>.ok (!ds.isEmpty) O
 |.tup ds=>.ok (!ds.isEmpty) O
 | .own k=>match O[k]? with
  |some ds=>.ok (!ds.isEmpty) O
  |none=>.bad
 |.dct=>.bad
 |.exn _=>.bad
 |.tab _=>.bad
 |.map _ _=>.bad
 |.adr _=>.bad
def sI(t:DE):DT:=λσ O=>(t σ O).bnd λx O1=>Qx O1 x
def Am{n}(h:n<=4000000):n<=aM:=aI h 'u'
def Nv{K}{H}{XV μ}{ds}{vs}(h:oO K H XV μ ds vs):(!ds.isEmpty) = !vs.isEmpty:=by have e:=h.length;cases ds<;>cases vs<;>simp_all
def zgI(u:PD X Ex a ta)(w:∀f,isTrue a X.env f=(do let v <- f;standAt a.pos;holding [v] (truthy v))):rX X Ex a (sI ta):=
 IF (zec u.out w) λg I J O L H Q y A q=>rd.go y A q λd i v j m M x c r p=>by
  cases d with
  |non=>unfold J5 at r;subst r;exact⟨_,rfl,post.here p c rfl⟩
  |bl b=>unfold J5 at r;subst r;exact⟨_,rfl,post.here p c rfl⟩
  |int b=>unfold J5 at r;subst r;exact⟨_,rfl,post.here p c rfl⟩
  | str cs=>
   unfold J5 at r;subst r;by_cases s:cs.length<=4000000
   ·have t:yR Ex X.K j g m (.ok (!cs.isEmpty) i) Q:=by
     have h:yR Ex X.K j g m (if cs.length<=4000000 then .ok (!cs.isEmpty) i else .bad) Q:=p;rw[Kd s] at h;exact h
    refine⟨_,⟨?_,rfl⟩,?_⟩
    ·show cs.toArray.size<=_;rw[aS];exact Am s
    ·have e:(((⟨cs.toArray⟩:aA).length:Int) !=0) = !cs.isEmpty:=by
      show((cs.toArray.size:Int) !=0)=_;cases cs<;>simp[bne];lia
     rw[e];exact post.here t c rfl
   ·have h:yR Ex X.K j g m (if cs.length<=4000000 then .ok (!cs.isEmpty) i else .bad) Q:=p;rw[Kf s] at h;exact aj h
  | lst n=>
   obtain⟨a,o,rfl,l,q⟩:=r;exact⟨_,.inl ⟨o,l.sq,rfl⟩,by rw[<- Nv q];exact post.here p c rfl⟩
  | tup n=>
   obtain⟨a,o,rfl,l,q⟩:=r;exact⟨_,.inr (.inl ⟨o,l.sq,rfl⟩),by rw[<- Nv q];exact post.here p c rfl⟩
  | own k=>
   obtain⟨a,rfl,B⟩:=r;obtain⟨n,o,C,E,G⟩:=c.at_ k a B;have t:yR Ex X.K j g m (.ok (!n.isEmpty) i) Q:=by
    have h:yR Ex X.K j g m (match i[k]? with|some n=>.ok (!n.isEmpty) i|none=>.bad) Q:=p;rw[C] at h;exact h
   exact⟨_,.inl ⟨o,.of E,rfl⟩,by rw[<- Nv G];exact post.here t c rfl⟩
  |dct=>exact aj p
  |exn _=>exact aj p
  |tab _=>exact aj p
  |map _ _=>exact aj p
  |adr _=>exact aj p
noncomputable def fI(g:Int->Int->Option D):Ow->D->D->R D:=λO x y=>match x,y with
 | .int i,.int j=>match g i j with
  |some d=>.ok d O
  |none=>.bad
 |_,_=>.bad
def Eo(h:∀i j d,g i j=JU d->C i j/\∀K H XV μ,J5 K H XV μ d (gv i j)):tM X Ex (rI C gv) (fI g):=by
 intro H XV μ O x y v w Q c e f q;unfold fI at q;split at q
 ·rename_i i j;subst e;subst f;split at q
  ·rename_i d l;obtain⟨m,n⟩:=h i j d l;exact⟨i,j,rfl,rfl,m,post.here q c (n _ _ _ _)⟩
  ·exact aj q
 ·exact aj q
def FW(h:∀i j d,g i j=JU d->∀K H XV μ,J5 K H XV μ d (gv i j)):tM X Ex (xS gv) (fI g):=by
 intro H XV μ O x y v w Q c e f q;unfold fI at q;split at q
 ·rename_i i j;subst e;subst f;split at q
  ·rename_i d l;exact⟨i,j,rfl,rfl,post.here q c (h i j d l _ _ _ _)⟩
  ·exact aj q
 ·exact aj q
def s9:J5 K H XV μ (.int i) (.int i):=by unfold J5;rfl
def vN{K H XV μ}{i}:J5 K H XV μ (.bl i) (.bl i):=by unfold J5;rfl
def IJ:J5 K H XV μ .non .non:=by unfold J5;rfl
def LC:J5 K H XV μ (.str cs) (.str ⟨cs.toArray⟩):=by unfold J5;rfl
def gB(p:Int->Int->Bool):Int->Int->Option D:=λi j=>JU (.bl (p i j))
noncomputable def gI(p:Int->Int->Int):Int->Int->Option D:=λi j=>JU (.int (p i j))
def xt:Int->Int->Option D:=gI λi j=>i-j
noncomputable def xM:Int->Int->Option D:=λi j=>if (-1000000000000000<i/\i<1000000000000000)\/(-1000000000000000<j/\j<1000000000000000) then JU (.int (i*j)) else J9
def BG:Int->Int->Option D:=λi j=>if 0<j/\j<1073741824 then JU (.int (i/j)) else J9
def yN:Int->Int->Option D:=λi j=>if 0<j then JU (.int (i%j)) else J9
def Ct:Int->Int->Option D:=λi j=>if 0<=j/\j<=1000000/\i.natAbs<2 ^ 64 then JU (.int (i ^ j.toNat)) else J9
def v7:Int->Int->Option D:=λi j=>if 0<=j/\j<=1000000/\i.natAbs<2 ^ 64 then JU (.int (i*2 ^ j.toNat)) else J9
def zfV:tM X Ex (xS λi j=>.int (i-j)) (fI xt):=FW λi j d h _ _ _ _=>by cases h;exact s9
def zhF:tM X Ex (rI pQ λi j=>.int (i*j)) (fI xM):=Eo λi j d h=>by
 unfold xM at h;split at h
 ·rename_i e;cases h;exact⟨e.imp (λz=>⟨by lia,by lia⟩) λz=>⟨by lia,by lia⟩,λ_ _ _ _=>s9⟩
 ·cases h
def zgx:tM X Ex (rI Qw λi j=>.int (i/j)) (fI BG):=Eo λi j d h=>by
 unfold BG at h;split at h
 ·rename_i e;cases h;exact⟨e,λ_ _ _ _=>s9⟩
 ·cases h
def zgB:tM X Ex (rI (λ_ j=>0<j) λi j=>.int (i%j)) (fI yN):=Eo λi j d h=>by
 unfold yN at h;split at h
 ·rename_i e;cases h;exact⟨e,λ_ _ _ _=>s9⟩
 ·cases h
def zgg:tM X Ex (rI HK λi j=>.int (i ^ j.toNat)) (fI Ct):=Eo λi j d h=>by
 unfold Ct at h;split at h
 ·rename_i e;cases h;exact⟨e,λ_ _ _ _=>s9⟩
 ·cases h
def zie:tM X Ex (rI HK λi j=>.int (i*2 ^ j.toNat)) (fI v7):=Eo λi j d h=>by
 unfold v7 at h;split at h
 ·rename_i e;cases h;exact⟨e,λ_ _ _ _=>s9⟩
 ·cases h
def Az:Ow->D->D->R D:=fI (gB λi j=>decide (i<j))
def DP:Ow->D->D->R D:=fI (gB λi j=>decide (i<=j))
def Hs:Ow->D->D->R D:=fI (gB λi j=>decide (j<=i))
def RI:tM X Ex (xS λi j=>.bl (decide (i<j))) Az:=FW λi j d h _ _ _ _=>by cases h;exact vN
def Ly:tM X Ex (xS λi j=>.bl (decide (i<=j))) DP:=FW λi j d h _ _ _ _=>by cases h;exact vN
def Rz:tM X Ex (xS λi j=>.bl (decide (j<=i))) Hs:=FW λi j d h _ _ _ _=>by cases h;exact vN
def QP:D->Bool
 |.non=>Ka
 |_=>Kb
def KO:Ow->D->D->R D:=λO x y=>match y with
 |.non=>.ok (.bl (QP x)) O
 |_=>.bad
def zhj(h:J5 K H XV μ x v):decide (v=.non)=QP x:=by
 cases x with
 |non=>unfold J5 at h;subst h;rfl
 |bl _=>unfold J5 at h;subst h;rfl
 |int _=>unfold J5 at h;subst h;rfl
 |str _=>unfold J5 at h;subst h;rfl
 |lst _=>unfold J5 at h;obtain⟨_,_,rfl,_⟩:=h;rfl
 |tup _=>unfold J5 at h;obtain⟨_,_,rfl,_⟩:=h;rfl
 |own _=>unfold J5 at h;obtain⟨_,rfl,_⟩:=h;rfl
 |dct=>unfold J5 at h;obtain⟨_,rfl,_⟩:=h;rfl
 |exn _=>unfold J5 at h;obtain⟨_,_,rfl,_⟩:=h;rfl
 |tab _=>unfold J5 at h;obtain⟨rfl,_⟩:=h;rfl
 |map _ _=>unfold J5 at h;obtain⟨_,_,rfl,_⟩:=h;rfl
 |adr _=>unfold J5 at h;subst h;rfl
def zhb:tM X Ex (λx y H Q=>y=.non/\Q (.bl (decide (x=.non))) H) KO:=by
 intro H e g O x y v w Q c f d q;cases y with
 | non=>
  unfold J5 at d;subst d;refine⟨rfl,?_⟩;rw[zhj f];exact post.here (q) c vN
 |_=>exact aj q
def zm(t u:DE):DE:=λσ O=>(t σ O).bnd λx O1=>match x with
 |.bl Ka=>u σ O1
 |.bl Kb=>.ok (.bl Kb) O1
 |_=>.bad
def PV(t u:DE):DE:=λσ O=>(t σ O).bnd λx O1=>match x with
 |.bl Ka=>.ok (.bl Ka) O1
 |.bl Kb=>u σ O1
 |_=>.bad
def Fd(t:DE):DE:=λσ O=>(t σ O).bnd λx O1=>match x with
 |.bl b=>.ok (.bl (!b)) O1
 |_=>.bad
def Fp(t u:DT):DT:=λσ O=>(t σ O).bnd λx O1=>if x=Ka then u σ O1 else .ok Kb O1
def Ad(t u:DT):DT:=λσ O=>(t σ O).bnd λx O1=>if x=Ka then .ok Ka O1 else u σ O1
def vo(t:DT):DT:=λσ O=>(t σ O).bnd λx O1=>.ok (!x) O1
def Ys(d:PD X Ex a ta):PD X Ex (.BoolOp op [a] pos) ta:=⟨Zx d.out⟩
def YG{e:List bi}(g:PD X Ex a ta)(h:PD X Ex (.BoolOp .And (b::e) pos) tb):PD X Ex (.BoolOp .And (a::b::e) pos) (zm ta tb):=
 sJ (Zs g.out h.out) λf s i O t H Q j l q=>rd.go j l q λd m v u n o x c r p=>by
  cases d with
  | bl k=>
   unfold J5 at r;subst r;refine⟨k,rfl,?_⟩;cases k with
   |true=>rw[Kd rfl];exact⟨f,n,i,m,o,c,p⟩
   |false=>rw[Kf cz];exact post.here p c vN
  |_=>exact aj p
def Yl{e:List bi}(g:PD X Ex a ta)(h:PD X Ex (.BoolOp .Or (b::e) pos) tb):PD X Ex (.BoolOp .Or (a::b::e) pos) (PV ta tb):=
 sJ (Yi g.out h.out) λf s i O t H Q j l q=>rd.go j l q λd m v u n o x c r p=>by
  cases d with
  | bl k=>
   unfold J5 at r;subst r;refine⟨k,rfl,?_⟩;cases k with
   |true=>rw[Kd rfl];exact post.here p c vN
   |false=>rw[Kf cz];exact⟨f,n,i,m,o,c,p⟩
  |_=>exact aj p
def ZF(e:PD X Ex a ta):PD X Ex (.UnaryOp .Not a pos) (Fd ta):=
 sJ (Y_ e.out) λf i j O l H Q g h q=>rd.go g h q λd m v n o s x c r p=>by
  cases d with
  |bl k=>unfold J5 at r;subst r;exact⟨k,rfl,post.here p c vN⟩
  |_=>exact aj p
structure x9(X:Cx)(Ex:Nat->Hp->Prop)(e:bi)(t:DT):Prop where
 out:PW X e (yX Ex X.K t)
def x9.pt(h:x9 X Ex e t):rX X Ex e t:=⟨L2.PW.pt h.out⟩
def RJ{e}{t}{t'}(h:PW X e t)(f:∀XV μ σ O d H Q,oP X.K H XV μ σ d->oN X.K H XV μ O->yR Ex X.K H XV μ (t' σ O) Q->t d H Q):x9 X Ex e t':=
 ⟨PW.imp h λd H Q ⟨XV,μ,σ,O,g,i,q⟩=>f XV μ σ O d H Q g i q⟩
def zi1{rest}{e f:DT}(g:rX X Ex a e)(h:x9 X Ex (.BoolOp .And (b::rest) pos) f):x9 X Ex (.BoolOp .And (a::b::rest) pos) (Fp e f):=
 RJ (Y0 g.out h.out) λd r i O s H Q j l q=>yX.go j l q λk m t n o x c p=>by
  cases k with
  |true=>rw[Kd rfl];exact⟨d,n,i,m,o,c,p⟩
  |false=>rw[Kf cz];exact post.here p c rfl
def Za{rest}{e f:DT}(g:rX X Ex a e)(h:x9 X Ex (.BoolOp .Or (b::rest) pos) f):x9 X Ex (.BoolOp .Or (a::b::rest) pos) (Ad e f):=
 RJ (Yo g.out h.out) λd r i O s H Q j l q=>yX.go j l q λk m t n o x c p=>by
  cases k with
  |true=>rw[Kd rfl];exact post.here p c rfl
  |false=>rw[Kf cz];exact⟨d,n,i,m,o,c,p⟩
def zeB(d:rX X Ex a tA):x9 X Ex (.BoolOp .And [a] pos) tA:=⟨zgG d.out⟩
def zhL(d:rX X Ex a tA):x9 X Ex (.BoolOp .Or [a] pos) tA:=⟨Yx d.out⟩
def zgN{d:DT}(e:rX X Ex a d):rX X Ex (.UnaryOp .Not a pos) (vo d):=
 IF (Zt e.out) λf i j O l H Q g h q=>yX.go g h q λk m n o r x c p=>post.here p c rfl
noncomputable def Lx(f g:Ow->D->D->R D)(ta tb tc:DE):DE:=λσ O=>(ta σ O).bnd λx O1=>(tb σ O1).bnd λy O2=>(f O2 x y).bnd λz O3=>match z with
 |.bl Ka=>(tc σ O3).bnd λw O4=>g O4 y w
 |.bl Kb=>.ok (.bl Kb) O3
 |_=>.bad
def zdk{op ER}{r e:R2}{f g:Ow->D->D->R D}(n:rg X (cN op) r)(h:tM X Ex r f)(o:rg X (cN ER) e)(s:tM X Ex e g)(t:PD X Ex a ta)(A:PD X Ex b tb)(B:PD X Ex c tc)
  (C:lastMarks [op,ER] [b,c]=Kb:=by with_unfolding_all rfl):PD X Ex (.Compare a [op,ER] [b,c] pos) (Lx f g ta tb tc):=
 sJ (zdX n o t.out A.out B.out C) λd μ σ O a_ H Q E G q=>rd.go E G q λx O1 v H1 f_ I x2 J L M=>rd.go I J M λy N w P S U Y Z i q3=>
  h P d S N x y v w _ Z (L.ext Y) i (post.bnd q3 λz O3 u H3 z7 j l m p=>by
   cases z with
   | bl k=>
    unfold J5 at m;subst m;refine⟨k,rfl,?_⟩;cases k with
    |true=>rw[Kd rfl];exact rd.go (U.ext j) l p λw2 O4 v4 H4 DY e5 x5 c5 d5 q5=>s H4 d DY O4 y w2 w v4 Q c5 ((i.ext j).ext x5) d5 q5
    |false=>rw[Kf cz];exact post.here p l vN
   |_=>exact aj p)
def g_:DA:=λ_ O=>.ok [] O
def b_(t:DE)(u:DA):DA:=λσ O=>(t σ O).bnd λx O1=>(u σ O1).bnd λxs O2=>.ok (x::xs) O2
def zia:uS X Ex [] g_:=Rk BM λd f g O h H Q i e q=>post.here q e .nil
def zdJ{es:List bi}{t:DA}(d:PD X Ex a ta)(e:uS X Ex es t)(f:aL (a::es) X.env=(Kb,eval a X.env)::aL es X.env:=by rfl):uS X Ex (a::es) (b_ ta t):=
 Rk (vP d.out e.out f) λg u A O B H Q h i q=>rd.go h i q λx C v E G j I l m n=>vA.go j l n λy J w L M N o p r s=>post.here s p (.cons (m.ext o) r)
def vZ(t:DA):DE:=λσ O=>(t σ O).bnd λxs O1=>if xs.length<=4000000 then .ok (.tup xs) O1 else .bad
def vm(t:DA):DE:=λσ O=>(t σ O).bnd λxs O1=>if xs.length<=4000000 then .ok (.lst xs) O1 else .bad
def yP(t:DA):DE:=λσ O=>(t σ O).bnd λxs O1=>if xs.length<=4000000 then .ok (.own O1.length) (O1++[xs]) else .bad
def post.iteN{α β:Type}{K}{H}{XV μ}{d:Hp->List af->α->β->Prop}{Q:β->Hp->Prop}{b}{r:R α}(h:post Ex K d H XV μ (if b=Ka then .bad else r) Q):b=Kb/\post Ex K d H XV μ r Q:=by
 cases b with
 |true=>exact aj h
 |false=>exact⟨rfl,h⟩
def post.ite{α β:Type}{K}{H}{XV μ}{d:Hp->List af->α->β->Prop}{Q:β->Hp->Prop}{c:Prop}[Decidable c]{r:R α}(h:post Ex K d H XV μ (if c then r else .bad) Q):c/\post Ex K d H XV μ r Q:=by
 by_cases e:c
 ·rw[Kd e] at h;exact⟨e,h⟩
 ·rw[Kf e] at h;exact aj h
def YM(h:uS X Ex es t):PD X Ex (.Tuple es x1 pos) (vZ t):=
 sJ (RL h.out) λi n o O r H Q j l q=>vA.go j l q λs u v w x y A f g d=>by
  obtain⟨m,d⟩:=post.ite d;exact⟨by rw[<- g.length];exact Am m,λp e=>post.ok d (.laid e) (f.laid e) (J5.newT f e g)⟩
def ziR(h:uS X Ex es t):PD X Ex (.List es pos) (vm t):=
 sJ (R1 h.out) λi n o O r H Q j l q=>vA.go j l q λs u v w x y A f g d=>by
  obtain⟨m,d⟩:=post.ite d;exact⟨by rw[<- g.length];exact Am m,λp e=>post.ok d (.laid e) (f.laid e) (J5.newL f e g)⟩
def F8(h:μ.length=n):J5 K H XV (μ++[p]) (.own n) (.ref p):=by exact⟨p,rfl,by rw[<- h];simp⟩
def zh1(h:uS X Ex es t):PD X Ex (.List es pos) (yP t):=
 sJ (R1 h.out) λi n o O r H Q j l q=>vA.go j l q λs u v w x y A e f d=>by
  obtain⟨m,d⟩:=post.ite d;exact⟨by rw[<- f.length];exact Am m,λp g=>post.ok d (.cell g) (e.cell g f) (F8 e.len)⟩
end
inductive Src where
 |val (ds:List D)
 |own (k:Nat)
 |zip (a b:Src)
 deriving Inhabited
noncomputable def Src.get:Src->Ow->Nat->Option D
 |.val ds,_,i=>ds[i]?
 | .own k,O,i=>match O[k]? with
  |some ds=>ds[i]?
  |none=>J9
 | .zip a b,O,i=>match a.get O i,b.get O i with
  |some x,JU y=>JU (.tup [x,y])
  |_,_=>J9
noncomputable def Src.size:Src->Ow->Nat
 |.val ds,_=>ds.length
 | .own k,O=>match O[k]? with
  |some ds=>ds.length
  |none=>0
 |.zip a b,O=>min (a.size O) (b.size O)
abbrev DI:=Sg->Ow->R Src
def oU(K:ak)(J:It)(src:Src)(H:Hp)(XV μ:List af):Prop:=∀hid' H' c_ O',Mv H XV μ H' hid' c_->oN K H' hid' c_ O'->∀i,
 match src.get O' i with
 |some d=>J.go i H'/\∀x uw,J.yld i H' x uw->Ext H' c_ uw c_/\oN K uw hid' c_ O'/\J5 K uw hid' c_ d x
 |none=>J.stop i H'
noncomputable def rdI(Ex:Nat->Hp->Prop)(K:ak)(t:DI):TI:=λa_ H Rr=>∃XV μ σ O,oP K H XV μ σ a_/\oN K H XV μ O/\post Ex K (λH' c_ s J=>oU K J s H' XV c_) H XV μ (t σ O) Rr
structure ud(X:Cx)(Ex:Nat->Hp->Prop)(tg iter:bi)(t:DI):Prop where
 out:PI X tg iter (rdI Ex X.K t)
def oU.mv(h:oU K J src H XV μ)(e:Mv H XV μ H1 zU f_):oU K J src H1 zU f_:=
 λa b d f m c=>h a b d f (e.trans m) c
def oU.val(l:LstAt K H XV μ a vs)(q:oO K H XV μ ds vs):oU K (KC K a) (.val ds) H XV μ:=by
 intro f n o p m c i;have b:=(l.mv m).sq;have h:=q.mv m;show match ds[i]? with|some d=>_|none=>_
 cases e:ds[i]? with
 | some d=>
  obtain⟨v,g,j⟩:=h.get e;refine⟨⟨vs,v,b,g⟩,λx r y=>?_⟩;obtain⟨rfl,y⟩:=y;have:=y vs b;rw[g] at this;cases this;exact⟨.refl,c,j⟩
 | none=>
  refine⟨vs,b,?_⟩;have:=aP.mp e;rw[<- q.length];exact this
def oU.tup(l:TupAt K H XV μ a vs)(q:oO K H XV μ ds vs):oU K (P5 K a) (.val ds) H XV μ:=by
 intro f n o p m c i;have b:=(l.mv m).sq;have h:=q.mv m;show match ds[i]? with|some d=>_|none=>_
 cases e:ds[i]? with
 | some d=>
  obtain⟨v,g,j⟩:=h.get e;refine⟨⟨vs,v,b,g⟩,λx r y=>?_⟩;obtain⟨rfl,y⟩:=y;have:=y vs b;rw[g] at this;cases this;exact⟨.refl,c,j⟩
 | none=>
  refine⟨vs,b,?_⟩;have:=aP.mp e;rw[<- q.length];exact this
def oU.own(h:μ[k]?=JU a):oU K (KC K a) (.own k) H XV μ:=by
 intro j o w p m c i;obtain⟨q,rfl⟩:=m.pre;have r:(μ++q)[k]?=JU a:=by rw[aH (ao.mp h).1];exact h
 obtain⟨b,f,s,t,l⟩:=c.at_ k a r;have g:qS K o a f:=.of t;show match (match p[k]? with|some b=>b[i]?|none=>J9) with|some d=>_|none=>_
 rw[s];show match b[i]? with|some d=>_|none=>_
 cases e:b[i]? with
 | some d=>
  obtain⟨v,n,u⟩:=l.get e;refine⟨⟨f,v,g,n⟩,λx A y=>?_⟩;obtain⟨rfl,y⟩:=y;have:=y f g;rw[n] at this;cases this;exact⟨.refl,c,u⟩
 | none=>
  refine⟨f,g,?_⟩;have:=aP.mp e;rw[<- l.length];exact this
def Kz(x:aA):It:=⟨λi _=>i<x.cps.size,λi H v H'=>H'=H/\∃c,x.cps[i]?=JU c/\v=.str ⟨#[c]⟩,λi _=>x.cps.size<=i⟩
def oU.str{K:ak}{H:Hp}{XV μ:List af}{a:k_}:oU K (Kz ⟨a.toArray⟩) (.val (a.map λc=>.str [c])) H XV μ:=by
 intro b j l n m c i;show match (a.map λc=>D.str [c])[i]? with|some d=>_|none=>_
 rw[aZ];cases e:a[i]? with
 | some d=>
  have g:=(ao.mp e).1;refine⟨by show i<a.toArray.size;simpa using g,λx o y=>?_⟩;obtain⟨rfl,z,h,rfl⟩:=y;have f:=h;rw[lf,e] at f;cases f;refine⟨.refl,c,?_⟩;rfl
 | none=>
  have:=aP.mp e;show a.toArray.size<=i;simpa using this
def oU.rng:oU K (KA lo n) (.val ((aN n).map λi=>.int (lo+(i:Nat)))) H XV μ:=by
 intro b e f g m c i;show match ((aN n).map λi=>D.int (lo+(i:Nat)))[i]? with|some d=>_|none=>_
 rw[aZ];by_cases a:i<n
 ·rw[jg a];refine⟨a,λx h y=>?_⟩;obtain⟨rfl,rfl⟩:=y;exact⟨.refl,c,s9⟩
 ·rw[aP.mpr ⇑a];exact nN.mp a
def zef(x)(t)(it):yL P w K tg (Kz x) [it] it (λi h=>h.IsStrIter it (strIterType x) x t i) where
 mem:=by simp
 obj:=λi h a b j=>by
  have e:b=it:=⇑j
  subst e;obtain⟨o,e,c,d⟩:=a;exact⟨o,e,λv z=>by rw[d] at z;cases z⟩
 keep:=λi h f a k=>by
  obtain⟨o,e,c,d⟩:=a;exact⟨o,k it 'k' o e,c,d⟩
 item:=by
  intro X Y Z hK L i g s M H E I p a N;subst Y Z hK;obtain⟨q,r,f2,B,C,G⟩:=p it 'k';obtain⟨ch,l⟩:∃c,x.cps[i]?=JU c:=⟨_,aQ (N)⟩;have O:∀(J:String),(["enumerate", "zip", "dict_itemiterator", "dict_reverseitemiterator", "odict_iterator", "itertools.zip_longest", "itertools.pairwise"].contains J=Kb)->strIterType x=J->∀f,f.IsStrIter it J x t (i+1)->dr it s.heap f->
    ∃u,JU (kE ⟨#[ch]⟩ s.toks)=JU u/\aq (av X.prog X.w) X.A (letOwnedTupleGo tg (.ref it) u) (λ_ s2=>∃y Q,Inv X g M Q s2/\RelV y u/\(Kz x).yld i H y Q/\s2.heap.IsStrIter it (strIterType x) x t (i+1)/\∀b∈[it],Q b=J9) E { s with heap:=f,toks:=s.toks+1 }:=by
   intro J hn et f m n;have I1:Inv X g M H { s with heap:=f,toks:=s.toks+1 }:=I.turned (λb o j e=>(n.2 b j).trans e) q r B C G;obtain⟨o,e,c,d⟩:=id m;refine⟨_,rfl,Fq e c d hn ⟨.str ⟨#[ch]⟩,H,I1,⟨_,rfl⟩,⟨rfl,_,l,rfl⟩,?_,λb j=>(p b j).1⟩⟩;rw[et];exact m
  unfold strIterType at a O ⊢;split at a
  ·rename_i S;exact wpAny_pyNext_ascii_item a l λf m n=>O "str_ascii_iterator" 'u' (by rw[Kd S]) f m n
  ·rename_i S;exact wpAny_pyNext_wide_item a l λf m n=>O "str_iterator" 'u' (by rw[Kf S]) f m n
 done:=by
  intro X Y Z hK L i g s M H E I p a N;obtain⟨q,r,f2,B,C,G⟩:=p it 'k';have l:x.cps[i]?=J9:=by
   have:x.cps.size<=i:=N;simp[this]
  unfold strIterType at a;split at a
  ·exact wpAny_pyNext_ascii_end (I.ok.hd L) a l λf U=>⟨rfl,I.turned (λb o j e=>U b o j e) q r B C G⟩
  ·exact wpAny_pyNext_wide_end (I.ok.hd L) a l λf U=>⟨rfl,I.turned (λb o j e=>U b o j e) q r B C G⟩
 self:=λ_ _ s _ _ a h=>by
  unfold strIterType at a;split at a
  ·exact wpAny_pyIter_striter_ascii a h
  ·exact wpAny_pyIter_striter_wide a h
section
variable{X:Cx}{Ex:Nat->Hp->Prop}{pos:Pos}{a b c:bi}
noncomputable def Q3(O:Ow):D->R Src
 |.lst ds=>.ok (.val ds) O
 |.tup ds=>.ok (.val ds) O
 |.str cs=>.ok (.val (cs.map λc=>.str [c])) O
 |.own k=>.ok (.own k) O
 |_=>.bad
def qG(t:DE):DI:=λσ O=>(t σ O).bnd λx O1=>Q3 O1 x
def zgk(N:PD X Ex a ta):ud X Ex tg a (qG ta):=by
 refine⟨?_⟩;rintro m s P H Q I ⟨f,μ,σ,O,S,U,q⟩;refine qe (N.out m s P H _ I (rd.go S U q (Q1:=λv g=>∃f n w d,oN X.K g f n w/\J5 X.K g f n d v/\post Ex X.K (λY Z s J=>oU X.K J s Y f Z) g f n (Q3 w d) Q)
  λd w v g n e2 x c r p=>⟨f,n,w,d,c,r,p⟩)) λu h ⟨v,g,i,A,f,n,w,d,c,r,p⟩=>?_
 have j:∀(b:af),b∈[h.heap.objs.size]->sY X m g b:=λb hb=>by
  have e:b=h.heap.objs.size:=⇑hb
  subst e;exact i.fpOk (aw _) (i.hok.fresh (aw _))
 cases d with
 | lst B=>
  obtain⟨a,C,rfl,l,q⟩:=r;cases A;obtain⟨E,G,y,L⟩:=i.list l.sq;refine fv y.isList ?_;exact⟨h.heap.objs.size,[h.heap.objs.size],_,_,g,rfl,i.kept λb o e=>ab _ e,UI a _,⟨_,aB _ rfl,rfl,rfl⟩,j,post.here p c (.val l q)⟩
 | tup B=>
  obtain⟨a,C,rfl,l,q⟩:=r;cases A;obtain⟨E,G,y,L⟩:=i.tuple l.sq;refine mi (y) ?_;exact⟨h.heap.objs.size,[h.heap.objs.size],_,_,g,rfl,i.kept λb o e=>ab _ e,zan a _,⟨_,aB _ rfl,rfl,rfl⟩,j,post.here p c (.tup l q)⟩
 | str cs=>
  subst r;obtain⟨t,rfl⟩:=A;refine wpAny_pyIter_strU ?_;exact⟨h.heap.objs.size,[h.heap.objs.size],_,_,g,rfl,i.kept λb o e=>ab _ e,zef ⟨cs.toArray⟩ t _,⟨_,aB _ rfl,rfl,rfl⟩,j,post.here p c .str⟩
 | own k=>
  obtain⟨a,rfl,M⟩:=r;cases A;obtain⟨B,C,h1,h2,h3⟩:=c.at_ k a M;obtain⟨E,G,y,L⟩:=i.list (.of h2);refine fv y.isList ?_;exact⟨h.heap.objs.size,[h.heap.objs.size],_,_,g,rfl,i.kept λb o e=>ab _ e,UI a _,⟨_,aB _ rfl,rfl,rfl⟩,j,post.here p c (.own M)⟩
 |_=>exact aj p
noncomputable def Rq(lo hi:Int):Src:=.val ((aN (hi-lo).toNat).map λi=>.int (lo+(i:Nat)))
def uE(t:DA):DI:=λσ O=>(t σ O).bnd λxs O1=>match xs with
 |[.int j]=>if -1000000<=j/\j<=1000000 then .ok (Rq 0 j) O1 else .bad
 |_=>.bad
def PI.imp(h:PI X tg iter t)(f:∀σ H Q,t' σ H Q->t σ H Q):PI X tg iter t':=λd s σ H Q I q=>h d s σ H Q I (f σ H Q q)
def uz(h:oO K H XV μ [d] vs):∃v,vs=[v]/\J5 K H XV μ d v:=by obtain⟨v,r,rfl,e,f⟩:=h;subst f;exact⟨v,rfl,e⟩
def CD(h:oO K H XV μ [d,e] vs):∃v w,vs=[v,w]/\J5 K H XV μ d v/\J5 K H XV μ e w:=by obtain⟨v,r,rfl,f,g⟩:=h;obtain⟨w,rfl,i⟩:=uz g;exact⟨v,w,rfl,f,i⟩
def z9Y(f:Gl X "range")(g:X.mg "range" = J9)(h:uS X Ex [a] t)(i:aL [a] X.env=[(Kb,eval a X.env)]:=by rfl):ud X Ex tg (.Call (.Name "range" p) [a] [] pos) (uE t):=
 ud.mk <| PI.imp (zcI f g h.out i) λo H Q ⟨l,s,u,O,m,n,q⟩=>vA.go m n q λd w y A B C x c r p=>by
  split at p
  ·rename_i j;obtain⟨⟨E,G⟩,p⟩:=post.ite p;obtain⟨v,rfl,e⟩:=uz r;unfold J5 at e;subst e;refine⟨j,rfl,by lia,by lia,?_⟩;have:=post.here p c (oU.rng);simpa using this
  ·exact aj p
end
inductive RS where
 |nx (σ:Sg) (O:Ow)
 |rt (d:D) (O:Ow)
 |bk (σ:Sg) (O:Ow)
 |ct (σ:Sg) (O:Ow)
 |exc (c:Nat) (O:Ow)
 |bad
 deriving Inhabited
abbrev DS:=Sg->Ow->RS
def R.bnS{α:Type}(r:R α)(k:α->Ow->RS):RS:=match r with
 |.ok a O=>k a O
 |.exc c O=>.exc c O
 |.bad=>.bad
section
variable(Ex:Nat->Hp->Prop)(K:ak)
def oR(H:Hp)(XV μ:List af)(r:RS)(E:z9):Prop:=match r with
 |.nx σ O=>∀a_ H' c_,Ext H μ H' c_->oP K H' XV c_ σ a_->oN K H' XV c_ O->E.nx a_ H'
 |.rt d O=>∀v H' c_,Ext H μ H' c_->oN K H' XV c_ O->J5 K H' XV c_ d v->E.rt v H'
 |.bk σ O=>∀a_ H' c_,Ext H μ H' c_->oP K H' XV c_ σ a_->oN K H' XV c_ O->E.bk a_ H'
 |.ct σ O=>∀a_ H' c_,Ext H μ H' c_->oP K H' XV c_ σ a_->oN K H' XV c_ O->E.ct a_ H'
 |.exc c O=>∀H' c_,Ext H μ H' c_->oN K H' XV c_ O->Ex c H'
 |.bad=>False
def NO(t:DS):TS:=λE a_ H=>∃XV μ σ O,oP K H XV μ σ a_/\oN K H XV μ O/\oR Ex K H XV μ (t σ O) E
end
structure vI(X:Cx)(Ex:Nat->Hp->Prop)(st:eO)(t:DS):Prop where
 out:PS X st (NO Ex X.K t)
structure ue(X:Cx)(Ex:Nat->Hp->Prop)(st:List eO)(t:DS):Prop where
 out:tL X st (NO Ex X.K t)
def PS.imp(h:PS X st t)(f:∀E σ H,t' E σ H->t E σ H):PS X st t':=λa s σ H D I q=>h a s σ H D I (f D σ H q)
def tL.imp(h:tL X st t)(f:∀E σ H,t' E σ H->t E σ H):tL X st t':=λa s σ H D I q=>h a s σ H D I (f D σ H q)
section
variable{Ex:Nat->Hp->Prop}{K:ak}{H H1:Hp}{XV μ f_:List af}
def oR.ext{r:RS}{E:z9}(h:oR Ex K H XV μ r E)(e:Ext H μ H1 f_):oR Ex K H1 XV f_ r E:=by
 cases r with
 |nx σ O=>exact λj f g i a b=>h j f g (e.trans i) a b
 |bk σ O=>exact λj f g i a b=>h j f g (e.trans i) a b
 |ct σ O=>exact λj f g i a b=>h j f g (e.trans i) a b
 |rt d O=>exact λv f g i a b=>h v f g (e.trans i) a b
 |exc c O=>exact λf g i a=>h f g (e.trans i) a
 |bad=>exact h
def oR.bnS{α β:Type}{a:Hp->List af->α->β->Prop}{r:R α}{k:α->Ow->RS}{E:z9}{Q1:β->Hp->Prop}(h:oR Ex K H XV μ (r.bnS k) E)
  (b:∀d O1 v H1 f_,Ext H μ H1 f_->oN K H1 XV f_ O1->a H1 f_ d v->oR Ex K H1 XV f_ (k d O1) E->Q1 v H1):post Ex K a H XV μ r Q1:=by
 cases r with
 |ok d O'=>exact λv f g e c q=>b d O' v f g e c q (oR.ext (h) e)
 |exc c O'=>exact h
 |bad=>exact h
end
section
variable{X:Cx}{Ex:Nat->Hp->Prop}{pos:Pos}{b c:bi}{tc:DE}
def AZ{d:eO}{t:TS}{t':DS}(h:PS X d t)(f:∀XV μ σ O E a H,oP X.K H XV μ σ a->oN X.K H XV μ O->oR Ex X.K H XV μ (t' σ O) E->t E a H):vI X Ex d t':=
 ⟨PS.imp h λE a H ⟨XV,μ,σ,O,e,g,q⟩=>f XV μ σ O E a H e g q⟩
def LY(h:tL X st t)(f:∀XV μ σ O E a H,oP X.K H XV μ σ a->oN X.K H XV μ O->oR Ex X.K H XV μ (t' σ O) E->t E a H):ue X Ex st t':=
 ⟨tL.imp h λE a H ⟨XV,μ,σ,O,d,e,q⟩=>f XV μ σ O E a H d e q⟩
def rd.goS{t:DE}{XV μ:List af}{σ:Sg}{O:Ow}{g:St}{H:Hp}{Q1:VK}{k:D->Ow->RS}{E:z9}(h:oP X.K H XV μ σ g)(i:oN X.K H XV μ O)
  (q:oR Ex X.K H XV μ ((t σ O).bnS k) E)
  (f:∀d O1 v a e,oP X.K a XV e σ g->Ext H μ a e->oN X.K a XV e O1->J5 X.K a XV e d v->oR Ex X.K a XV e (k d O1) E->Q1 v a):rd Ex X.K t g H Q1:=
 ⟨XV,μ,σ,O,h,i,oR.bnS q λd O1 v a e x c r p=>f d O1 v a e (h.ext x) x c r p⟩
def yX.goS{t:DT}{XV μ:List af}{σ:Sg}{O:Ow}{g:St}{H:Hp}{Q1:Bool->Hp->Prop}{k:Bool->Ow->RS}{E:z9}(h:oP X.K H XV μ σ g)(i:oN X.K H XV μ O)
  (q:oR Ex X.K H XV μ ((t σ O).bnS k) E)
  (f:∀v O1 a e,oP X.K a XV e σ g->Ext H μ a e->oN X.K a XV e O1->oR Ex X.K a XV e (k v O1) E->Q1 v a):yX Ex X.K t g H Q1:=
 ⟨XV,μ,σ,O,h,i,oR.bnS q λd O1 v a e x c r p=>by
  subst r;exact f d O1 a e (h.ext x) x c p⟩
def rY:DS:=λσ O=>.nx σ O
def qd(t u:DS):DS:=λσ O=>match t σ O with
 |.nx σ' O'=>u σ' O'
 |r=>r
def zdn:ue X Ex [] rY:=LY IS λa d h O E e H f g q=>q e H d .refl f g
def q0{h:eO}{e:List eO}{t u:DS}(j:vI X Ex h t)(l:ue X Ex e u):ue X Ex (h::e) (qd t u):=
 LY (zx j.out l.out) λg m i O E s H n o q=>by
  refine⟨g,m,i,O,n,o,?_⟩;unfold qd at q;cases f:t i O with
  | nx σ' O'=>
   rw[f] at q;exact λv w p r a b=>⟨g,p,σ',O',a,b,q.ext r⟩
  |rt d O'=>rw[f] at q;exact q
  |bk σ' O'=>rw[f] at q;exact q
  |ct σ' O'=>rw[f] at q;exact q
  |exc c O'=>rw[f] at q;exact q
  |bad=>rw[f] at q;exact q
def rh(a:vI X Ex st t):ue X Ex [st] t:=⟨CU a.out⟩
def qm(t:DE):DS:=λσ O=>(t σ O).bnS λd O1=>.rt d O1
def zhv(a:PD X Ex e te):vI X Ex (.Return (JU e) pos) (qm te):=
 AZ (Ld a.out) λf l m O E n H g h q=>rd.goS g h q λd o v i j s x c r p=>p v i j .refl c r
def rW(c:DT)(t u:DS):DS:=λσ O=>(c σ O).bnS λb O1=>if b=Ka then t σ O1 else u σ O1
def Z3{c:bi}{x y:List eO}{tc:DT}{t u:DS}(h:rX X Ex c tc)(i:ue X Ex x t)(j:ue X Ex y u):vI X Ex (.If c x y pos) (rW tc t u):=
 AZ (HZ h.out i.out j.out) λa n d O E o H l m q=>yX.goS l m q λk e r f g x c p=>by
  cases k with
  |true=>rw[Kd rfl];exact⟨a,f,d,e,g,c,p⟩
  |false=>rw[Kf cz];exact⟨a,f,d,e,g,c,p⟩
def Fc:DS:=λ_ _=>.bad
def My:ue X Ex st Fc:=LY zcF λa d e O E f H g h q=>q
def t7(t:DE):DS:=λσ O=>(t σ O).bnS λ_ O1=>.nx σ O1
def ze6(a:PD X Ex e te)(f:swapsWith e J9 pos.line X.env=pure Kb:=by rfl):vI X Ex (.Expr e pos) (t7 te):=
 AZ (LP a.out f) λg o s O E h H i j q=>rd.goS i j q λd t v l m n x c r p=>p h l m .refl n c
def qH(i:Nat)(t:DE):DS:=λσ O=>(t σ O).bnS λd O1=>.nx (σ.set i (JU d)) O1
def L3(a:X.N.Nodup)(f:X.N[i]?=JU x)(g:Loc X.env.scope x)(h:PD X Ex e te)(j:swapsWith e (JU (.Name x pos')) pos.line X.env=pure Kb:=by rfl)
  (l:X.fn x=Ka\/X.env.scope.names.lookup x=JU .local:=by first|exact .inl rfl|exact .inr rfl):vI X Ex (.Assign [.Name x pos'] e pos) (qH i te):=
 AZ (Fu a f g h.out j l) λm y A O E n H o s q=>rd.goS o s q λd B v t u w x c r p=>p (n.set i (JU v)) t u .refl (w.set r i) c
inductive Tg where
 |one (i:Nat)
 |two (i j:Nat)
noncomputable def Tg.put:Tg->D->Sg->Option Sg
 |.one i,d,σ=>JU (σ.set i (JU d))
 | .two i j,d,σ=>match d with
  |.tup [x,y]=>JU ((σ.set i (JU x)).set j (JU y))
  |_=>J9
def Tg.rd(K:ak):Tg->TG
 |.one i=>yS i
 |.two i j=>Qs K 2 (Lc (yS i) (Lc (yS j) Qt))
def Tg.slots:Tg->k_
 |.one i=>[i]
 |.two i j=>[i,j]
def Tg.ok2(g:Tg)(n:oP K H XV μ σ a_)(q:J5 K H XV μ d v)(h:g.put d σ=JU σ')
  (k:∀f,oP K H XV μ σ' f->(∀i,i∉g.slots->f[i]?=a_[i]?)->Q f H):g.rd K v a_ H Q:=by
 cases g with
 | one i=>
  cases h;exact k _ (n.set q i) λj p=>bg (λe=>p (by simp[Tg.slots,e]))
 | two i j=>
  unfold Tg.put at h;dsimp only at h;split at h
  ·rename_i x y;cases h;obtain⟨a,t,rfl,l,q⟩:=q;obtain⟨u,w,rfl,r,s⟩:=CD q;refine⟨a,[u,w],rfl,l.sq,rfl,u,[w],rfl,w,[],rfl,rfl,k _ ((n.set r i).set s j) λm o=>?_⟩;rw[bg (λe=>o (by simp[Tg.slots,e])),bg (λe=>o (by simp[Tg.slots,e]))]
  ·cases h
def Tg.ok{K}{H}{XV μ}{σ σ'}{a_}{d}{v}{Q:St->Hp->Prop}(g:Tg)(e:oP K H XV μ σ a_)(q:J5 K H XV μ d v)(h:g.put d σ=JU σ')(k:∀f,oP K H XV μ σ' f->Q f H):g.rd K v a_ H Q:=by
 cases g with
 |one i=>cases h;exact k _ (e.set q i)
 | two i j=>
  unfold Tg.put at h;dsimp only at h;split at h
  ·rename_i x y;cases h;obtain⟨a,o,rfl,l,q⟩:=q;obtain⟨u,w,rfl,m,n⟩:=CD q;exact⟨a,[u,w],rfl,l.sq,rfl,u,[w],rfl,w,[],rfl,rfl,k _ ((e.set m i).set n j)⟩
  ·cases h
def ZS(a:X.N.Nodup)(d:X.N[i]?=JU x)(e:Loc X.env.scope x)(f:X.fn x=Ka\/X.env.scope.names.lookup x=JU .local:=by first|exact .inl rfl|exact .inr rfl|assumption):PG X (.Name x pos) ((Tg.one i).rd X.K):=L6 a d e f
noncomputable def sj(src:Src)(step:D->Sg->Ow->RS):Nat->Nat->Sg->Ow->RS
 | 0,i,σ,O=>match src.get O i with
  |none=>.nx σ O
  |some _=>.bad
 | f+1,i,σ,O=>match src.get O i with
  |none=>.nx σ O
  | some d=>match step d σ O with
   |.nx σ' O'=>sj src step f (i+1) σ' O'
   |.ct σ' O'=>sj src step f (i+1) σ' O'
   |.bk σ' O'=>.nx σ' O'
   |r=>r
def uC(it:DI)(g:Tg)(body:DS):DS:=λσ O=>(it σ O).bnS λsrc O1=>sj src (λd σ O=>match g.put d σ with|some σ'=>body σ' O|none=>.bad) (src.size O1) 0 σ O1
def zhw{u:bi}{body:List eO}{it:DI}{g:Tg}{N:DS}(hp:jA (av X.prog X.w) X.A X.env X.xe)(hc:X.calm=Ka)(hi:ud X Ex tg u it)(hg:PG X tg (g.rd X.K))(hb:ue X Ex body N)
  (hs:∀x,cb u X.env x=pure x:=by intro _;rfl):vI X Ex (.For tg u body [] pos) (uC it g N):=
 AZ (LA hp hc hi.out hg hb.out hs) λj μ Y O E a_ H e1 c1 q=>by
  refine⟨j,μ,Y,O,e1,c1,oR.bnS q λo O1 J H1 f_ x1 c2 sa p=>?_⟩;generalize uA:(λ(d:D)(Y:Sg)(O:Ow)=>match g.put d Y with|some e=>N e O|none=>RS.bad)=n at p;refine⟨λi m P t=>∃s e B,Ext H1 f_ t s/\oP X.K t j s e P/\oN X.K t j s B/\oR Ex X.K t j s (sj o n m i e B) E,⟨_,f_,Y,O1,.refl,e1.ext x1,c2,p⟩,?_⟩;rintro i m xp Q ⟨I,S,C,x2,e2,c3,G⟩;have Z:=sa j Q I C x2.mv c3 i;cases L:o.get C i with
  | none=>
   rw[L] at Z;refine .inl ⟨Z,?_⟩;cases m with
   | zero=>
    have l:oR Ex X.K Q j I (match o.get C i with|none=>.nx S C|some _=>.bad) E:=G;rw[L] at l;exact l xp Q I .refl e2 c3
   | succ f=>
    unfold sj at G;rw[L] at G;exact G xp Q I .refl e2 c3
  | some d=>
   rw[L] at Z;obtain⟨go,yl⟩:=Z;cases m with
   | zero=>
    have l:oR Ex X.K Q j I (match o.get C i with|none=>.nx S C|some _=>.bad) E:=G;rw[L] at l;exact aj l
   | succ f=>
    refine .inr ⟨go,λP t=>∃s e B,Ext H1 f_ t s/\oP X.K t j s e P/\oN X.K t j s B/\oR Ex X.K t j s (sj o n f (i+1) e B) E,λe t h=>⟨f,cE f,h⟩,λv H3 y=>?_⟩;obtain⟨x3,c4,r⟩:=yl v H3 y;unfold sj at G;rw[L] at G;have l:oR Ex X.K H3 j I (match n d S C with
     |.nx e B=>sj o n f (i+1) e B
     |.ct e B=>sj o n f (i+1) e B
     |.bk e B=>.nx e B
     |r=>r) E:=oR.ext G x3
    cases uj:g.put d S with
    | none=>
     rw[<- uA] at l;simp only[uj] at l;exact aj l
    | some tx=>
     refine Tg.ok g (e2.ext x3) r uj λW_ e3=>⟨j,I,tx,C,e3,c4,?_⟩;have GO:n d S C=N tx C:=by rw[<- uA];simp only[uj]
     rw[GO] at l;have x4:=x2.trans x3;cases M:N tx C with
     |nx HE O4=>rw[M] at l;exact λP t s U a b=>⟨s,HE,O4,x4.trans U,a,b,l.ext U⟩
     |ct HE O4=>rw[M] at l;exact λP t s U a b=>⟨s,HE,O4,x4.trans U,a,b,l.ext U⟩
     |bk HE O4=>rw[M] at l;exact l
     |rt d4 O4=>rw[M] at l;exact l
     |exc c4 O4=>rw[M] at l;exact l
     |bad=>rw[M] at l;exact l
end
structure Cl where
 it:DI
 g:Tg
 ifs:List DT
def qM:List Cl->k_
 |[]=>[]
 |c::cs=>c.g.slots++qM cs
def qD{α:Type}(σ:List (Option α)):k_->List (Option α)
 |[]=>σ
 |i::r=>qD (σ.set i J9) r
def uD:List DT->DT
 |[]=>λ_ O=>.ok Ka O
 |c::cs=>λσ O=>(c σ O).bnd λb O1=>if b=Ka then uD cs σ O1 else .ok Kb O1
noncomputable def qU(src:Src)(step:D->Ow->List D->R (List D)):Nat->Nat->Ow->List D->R (List D)
 | 0,i,O,J7=>match src.get O i with
  |none=>.ok J7 O
  |some _=>.bad
 | f+1,i,O,J7=>match src.get O i with
  |none=>.ok J7 O
  |some d=>(step d O J7).bnd λqL O'=>qU src step f (i+1) O' qL
def uM:List Cl->DE->Sg->Ow->List D->R (List D)
 |[],elt,σ,O,J7=>(elt σ O).bnd λv O1=>if J7.length<4000000 then .ok (J7++[v]) O1 else .bad
 | c::cs,elt,σ,O,J7=>(c.it σ O).bnd λsrc O1=>qU src (λd O2 J7=>match c.g.put d (qD σ (qM (c::cs))) with
   |some qW=>(uD c.ifs qW O2).bnd λb O3=>if b=Ka then uM cs elt qW O3 J7 else .ok J7 O3
   |none=>.bad) (src.size O1) 0 O1 J7
def AS(c:Cl)(cs:List Cl)(elt:DE)(σ:Sg):D->Ow->List D->R (List D):=λd O2 J7=>match c.g.put d (qD σ (qM (c::cs))) with
   |some qW=>(uD c.ifs qW O2).bnd λb O3=>if b=Ka then uM cs elt qW O3 J7 else .ok J7 O3
   |none=>.bad
abbrev Em:=Sg->Ow->List D->R (List D)
def Bw(te:DE):Em:=λσ O J7=>(te σ O).bnd λv O1=>if J7.length<4000000 then .ok (J7++[v]) O1 else .bad
def vM:List Cl->Em->Sg->Ow->List D->R (List D)
 |[],em,σ,O,J7=>em σ O J7
 | c::cs,em,σ,O,J7=>(c.it σ O).bnd λsrc O1=>qU src (λd O2 J7=>match c.g.put d (qD σ (qM (c::cs))) with
   |some qW=>(uD c.ifs qW O2).bnd λb O3=>if b=Ka then vM cs em qW O3 J7 else .ok J7 O3
   |none=>.bad) (src.size O1) 0 O1 J7
def vq(c:Cl)(cs:List Cl)(em:Em)(σ:Sg):D->Ow->List D->R (List D):=λd O2 J7=>match c.g.put d (qD σ (qM (c::cs))) with
   |some qW=>(uD c.ifs qW O2).bnd λb O3=>if b=Ka then vM cs em qW O3 J7 else .ok J7 O3
   |none=>.bad
theorem Se(te:DE):∀a:List Cl,vM a (Bw te)=uM a te
 |[]=>by funext σ O J7;unfold vM uM Bw;rfl
 |c::cs=>by funext σ O J7;unfold vM uM;rw[Se te cs]
def zgK(c)(cs)(te:DE):vq c cs (Bw te)=AS c cs te:=by funext σ d O J7;unfold vq AS;rw[Se te cs]
theorem FT{α:Type}:∀(l)(σ:List (Option α)),(qD σ l).length=σ.length
 |[],_=>rfl
 |i::r,σ=>by unfold qD;rw[FT r];simp
theorem L4{α:Type}:∀(l)(σ:List (Option α))(i),i∉l->(qD σ l)[i]?=σ[i]?
 |[],σ,i,h=>rfl
 | j::r,σ,i,h=>by
  unfold qD;rw[L4 r _ i λz=>h (ag _ z),bg λz=>h (by simp[z])]
theorem IV{α:Type}:∀(l)(σ:List (Option α))(i)(d:α),(qD σ l)[i]?=JU (JU d)->σ[i]?=JU (JU d)/\i∉l
 |[],σ,i,d,h=>⟨h,by simp⟩
 | j::r,σ,i,d,h=>by
  obtain⟨a,b⟩:=IV r _ i d h;by_cases e:j=i
  ·subst e;by_cases c:j<σ.length
   ·rw[bU c] at a;cases a
   ·rw[aP.mpr (by simp;lia)] at a;cases a
  ·rw[bg e] at a;exact⟨a,by simp[b];exact λz=>e z.symm⟩
structure Ea(A:af)(H:Hp)(μ:List af)(H':Hp)(c_:List af):Prop where
 pre:∃ν,c_=μ++ν
 kept:∀b o,H b=JU o->b∉μ->b≠A->Ef o->H' b=JU o
 fresh:∀b∈c_,b∈μ\/H b=J9
 there:∀b,H b≠J9->H' b≠J9
 tab:∀P,o4 H P->o4 H' P
section
variable{K:ak}{A:af}{H H' H1 H2:Hp}{XV μ c_ f_ qg:List af}
def Ext.ea(e:Ext H μ H' c_):Ea A H μ H' c_:=⟨e.pre,λb o h n _ a=>e.kept b o h n a,e.fresh,e.there,e.tab⟩
def Ea.refl:Ea A H μ H μ:=Ext.refl.ea
def Ea.trans(a:Ea A H μ H1 f_)(b:Ea A H1 f_ H2 qg):Ea A H μ H2 qg:=by
 have i:∀c,H1 c=J9->H c=J9:=λc h=>by
  cases e:H c with
  |none=>rfl
  |some o=>exact absurd h (a.there c (by rw[e];simp))
 refine⟨?_,λc o h d f g=>?_,λc h=>?_,λc h=>b.there c (a.there c h),λP t=>b.tab P (a.tab P t)⟩
 ·obtain⟨x,rfl⟩:=a.pre;obtain⟨y,rfl⟩:=b.pre;exact⟨x++y,by simp⟩
 ·refine b.kept c o (a.kept c o h d f g) (λm=>?_) f g;rcases a.fresh c m with z|z
  ·exact d z
  ·rw[z] at h;cases h
 ·rcases b.fresh c h with z|z
  ·exact a.fresh c z
  ·exact .inr (i c z)
def Ea.mv(e:Ea A H μ H' c_):Mv H (A::XV) μ H' (A::XV) c_:=⟨e.pre,λb o h a c d=>e.kept b o h a (λz=>c (by simp[z])) d,e.fresh,λ_ m=>.inl m,e.there,e.tab⟩
def Ea.putX(a:∀P,o4 H P->o4 (upd H A o) P):Ea A H μ (upd H A o) μ:=⟨⟨[],by simp⟩,λb u h _ n _=>by rw[qi n];exact h,λ_ m=>.inl m,yW,a⟩
def oN.putX(c:oN K H (A::XV) μ O)(b:∀P,o4 H P->o4 (upd H A o) P):oN K (upd H A o) (A::XV) μ O:=by refine⟨c.len,c.nd,c.nh,λa m=>yW a (c.ht a m),λk a e=>?_⟩;obtain⟨d,f,g,h,i⟩:=c.at_ k a e;have j:a≠A:=λz=>c.nh a (aJ e) (by simp[z]);exact⟨d,f,g,by rw[qi j];exact h,i.mv (Ea.putX b).mv⟩
def Ea.put{o}(a:∃b,H A=JU (.lst b)):Ea A H μ (upd H A o) μ:=.putX λ_ t=>t.upd (.inr a)
def oN.putA{o}{O}(c:oN K H (A::XV) μ O)(a:∃b,H A=JU (.lst b)):oN K (upd H A o) (A::XV) μ O:=c.putX λ_ t=>t.upd (.inr a)
def oN.unhide(c:oN K H (A::XV) μ O):oN K H XV μ O:=
 ⟨c.len,c.nd,λa m z=>c.nh a m (ag _ z),λa m=>c.ht a (ag _ m),λk a e=>
  let ⟨ds,vs,h1,h2,h3⟩:=c.at_ k a e
  ⟨ds,vs,h1,h2,h3.mv .unhide⟩⟩
end
abbrev qE:Nat->Hp->Prop:=λ_ _=>False
inductive o7(X:Cx):List cL->List Cl->Prop where
 |nil:o7 X [] []
 | cons {tg iter} {ifs} {gs} {c} {cs} (hi:ud X qE tg iter c.it) (hs:∀x,cb iter X.env x=pure x) (hg:PG X tg (c.g.rd X.K))
   (hf:cy (λe t=>rX X qE e t) ifs c.ifs) (r:o7 X gs cs):o7 X (⟨tg,iter,ifs,0⟩::gs) (c::cs)
section
variable{X:Cx}
def BZ{α:Type}{M}{A}{t:Sem α}{Q c:α->ai->Prop}{E}{s}(d:X.xe=λ_ _=>False)(h:aq M A t Q X.xe s)(k:∀a b,Q a b->c a b):aq M A t c E s:=
 cG h k λe b z=>by rw[d] at z;exact z.elim
theorem Vr{env}{M}{A}{E}{s}{Q}(h:Q Kb s):∀(a:List bi),aq M A (forIn a Kb λc r=>if r=Ka then do let ok <- isTrue c env (eval c env);pure (gu ok) else pure (gu r)) Q E s
 |[]=>ah h
 | c::cs=>by
  simp;exact aa (ah (Vr h cs))
theorem TF{E}{XV}(i:X.xe=λ_ _=>False):∀{ifs}{ts},cy (λe t=>rX X qE e t) ifs ts->∀(YP)(s)(a_:St)(H)(μ)(σ)(O)(Q:Bool->ai->Prop),
  L2.Inv X YP a_ H s->oP X.K H XV μ σ a_->oN X.K H XV μ O->
  yR qE X.K H XV μ (uD ts σ O) (λb H'=>∀g,L2.Inv X YP a_ H' g->Q b g)->
  aq (av X.prog X.w) X.A (forIn ifs Ka λc r=>if r=Ka then do let ok <- isTrue c X.env (eval c X.env);pure (gu ok) else pure (gu r)) Q E s
 |_,_,.nil,YP,s,a_,H,μ,σ,O,Q,I,e1,c1,q=>ah (post.here q c1 rfl s I)
 | _::ifs,_::ts,.cons hc hr,YP,s,a_,H,μ,σ,O,Q,I,e1,c1,q=>by
  simp only[ig,if_true];refine aa (aa (BZ i (hc.out YP s a_ H _ I (yX.go e1 c1 q (Q1:=λb f=>∃a d,oP X.K f XV a σ a_/\oN X.K f XV a d/\yR qE X.K f XV a (if b=Ka then uD ts σ d else .ok Kb d) (λb H'=>∀g,L2.Inv X YP a_ H' g->Q b g))
   λb d f a h x c p=>⟨a,d,h,c,p⟩)) λb j ⟨f,l,a,d,h,m,p⟩=>ah ?_))
  cases b with
  |true=>rw[Kd rfl] at p;exact TF i hr YP j a_ f a σ d Q l h m p
  |false=>rw[Kf cz] at p;exact Vr (post.here p m rfl j l) ifs
structure yM where
 ex:List cL->dS->Pos->bi
 emit:ae->Env->Sem Unit
 new:Sem ae
 ho:aU->be->af->HO
 G:ak->aU->be->af->List af->Hp->List af->List D->Prop
structure Bs(X:Cx)(C:yM)(A:af)(XV:List af)(YP:List (af×Obj))(s:ai)(a_:St)(H:Hp)(μ:List af)(σ:Sg)(O:Ow)(J7:List D):Prop where
 inv:L2.Inv X YP a_ H s
 env:oP X.K H (A::XV) μ σ a_
 cells:oN X.K H (A::XV) μ O
 grown:C.G X.K X.prog X.w A XV H μ J7
def QF(X:Cx)(C:yM)(A:af)(XV:List af)(YP:List (af×Obj))(a_:St)(H:Hp)(μ:List af)(sl:k_)(J7:List D)(O:Ow)(Q:ai->Prop):Prop:=
 ∀s' o_ H' c_,L2.Inv X YP o_ H' s'->Ea A H μ H' c_->oN X.K H' (A::XV) c_ O->C.G X.K X.prog X.w A XV H' c_ J7->o_.length=a_.length->(∀i,i∉sl->o_[i]?=a_[i]?)->Q s'
def Ai(X:Cx)(C:yM)(A:af)(XV:List af)(YP:List (af×Obj))(a_:St)(H:Hp)(μ:List af)(sl:k_)(r:R (List D))(Q:ai->Prop):Prop:=match r with
 |.ok J7 O=>QF X C A XV YP a_ H μ sl J7 O Q
 |_=>False
noncomputable def CJ(e:bi)(em:ae->Env->Sem Unit)(gens:List cL)(k:Nat)(J7:ae)(env:Env):Sem Unit:=match gens[k]? with
 | some g'=>do
  let x <- eval g'.iter env
  standAt g'.iter.pos
  let x <- if g'.is_async !=0 then foldedIterable g'.iter x else cb g'.iter env x
  let _ <- runOwn (.compStart e k (<- holding [x] (if g'.is_async !=0 then asyncIter x else pyIter x)) J7 env) env
 |none=>em J7 env
def Zj(C:yM):Prop:=∀(gens)(scope)(pos)(k)(it J7:ae)(env){tg iter}{ifs},gens[k]?=JU ⟨tg,iter,ifs,0⟩->
  (gens[k+1]?=J9 \/ ∃C3 uh xD,gens[k+1]?=JU ⟨C3,uh,xD,0⟩)->
  compTurn (C.ex gens scope pos) k it J7 env=(do
   standAt iter.pos
   match <- pyNext it with
   |none=>pure (.done .next)
   | some v=>
    letOwnedTupleGo tg it v
    assign tg env v
    let mut ok:=Ka
    for c in ifs do
     if ok then ok <- isTrue c env (eval c env)
    if ok then CJ (C.ex gens scope pos) C.emit gens (k+1) J7 env
    again (.compLoop (C.ex gens scope pos) k it J7 env))
structure CQ(C:yM):Prop where
 cl:∀gens scope pos,clausesOf (C.ex gens scope pos)=gens
 turn:Zj C
 keep:∀{K P w A XV H μ J7 H' c_},C.G K P w A XV H μ J7->A∉μ->Ext H μ H' c_->C.G K P w A XV H' c_ J7
 new:∀{P}{w}{A:bD}{E}{Q}{s},(∀o:Obj,o.isFreed=Kb->(∀(H)(h)(a),sysModules<a->h.get? a=JU o->o0 P w (upd H a (C.ho P w a)) h a (C.ho P w a))->Q (.ref s.heap.objs.size) { s with heap:=s.heap.push o })->aq (av P w) A C.new Q E s
 g0:∀{K P w a XV H μ},C.G K P w a XV (upd H a (C.ho P w a)) μ []
 q1:∀gens scope pos k it J7 env,(lR (C.ex gens scope pos) k it J7 env).quiet=Ka
 u1:∀(A:bD)gens scope pos k it J7 env,A.under (lR (C.ex gens scope pos) k it J7 env)=A
 d1:∀P w gens scope pos k it J7 env,(av P w).den (lR (C.ex gens scope pos) k it J7 env)=(compTurn (C.ex gens scope pos) k it J7 env).onRaise (λx=>do noteFrame x env;theTreesLotGoes x)
 u2:∀(A:bD)gens scope pos k it J7 env,A.under (nX (C.ex gens scope pos) k it J7 env)=A
 d2:∀P w gens scope pos k it J7 env,(av P w).den (nX (C.ex gens scope pos) k it J7 env)=(compStart (C.ex gens scope pos) k it J7 env).onRaise (λx=>do noteFrame x env;standAt theWindowsPlace)
noncomputable def CF(elt:bi):yM where
 ex:=λgens scope pos=>.ListComp elt gens scope pos
 emit:=λJ7 env=>do let _ <- call (.builtin "list.append") [J7,<- eval elt env]
 new:=newList []
 ho:=λ_ _ _=>.lst []
 G:=λK _ _ A XV H μ J7=>∃vs,H A=JU (.lst vs)/\oO K H (A::XV) μ J7 vs
def Mc(c:bi):CQ (CF c) where
 cl:=λ_ _ _=>rfl
 turn:=λd b g k n i j t l o m f=>by
  show compTurn (.ListComp c d b g) k n i j=_;unfold compTurn CJ;rcases f with f|⟨u,v,w,f⟩
  ·simp only[m,f];rfl
  ·simp only[m,f,bne_self_eq_false,cS,if_false,bind_assoc,pure_bind]
   first|rfl|congr 1
 keep:=λ⟨p,q,r⟩ s x=>⟨p,x.keep _ _ q s,r.ext x⟩
 new:=λh=>cF (h _ rfl λH h a _ e=>⟨bO _,[],0,.nil,e⟩)
 g0:=⟨[],rO,.nil⟩
 q1:=λ_ _ _ _ _ _ _=>rfl
 u1:=λ_ _ _ _ _ _ _ _=>rfl
 d1:=λ_ _ _ _ _ _ _ _ _=>rfl
 u2:=λ_ _ _ _ _ _ _ _=>rfl
 d2:=λ_ _ _ _ _ _ _ _ _=>rfl
noncomputable def VX(Z:St->Hp->List af->Prop)(K:ak)(XV:List af)(t:DE):TE:=λa_ H Q=>∃μ σ O,Z a_ H μ/\oP K H XV μ σ a_/\oN K H XV μ O/\rP qE K H XV μ (t σ O) Q
def PD.z{X}{Z:St->Hp->List af->Prop}{XV}{e}{t:DE}(h:PD X qE e t):PE X e (VX Z X.K XV t):=λa s b H Q I ⟨c,d,O,_,f,g,q⟩=>h.out a s b H Q I ⟨XV,c,d,O,f,g,q⟩
section
variable{C:yM}{Z:St->Hp->List af->Prop}{A:af}{XV:List af}{elt:bi}{gens:List cL}{scope:dS}{pos:Pos}{te:DE}{em:Em}
def AY(X:Cx)(Z:St->Hp->List af->Prop)(C:yM)(A:af)(XV:List af)(e:bi)(gens:List cL)(em:Em)(k:Nat)(cls:List Cl):Prop:=∀(YP)(s)(a_)(H:Hp)(μ)(σ)(O:Ow)(J7)(Q)(E:ae->ai->Prop),
 Z a_ H μ->Bs X C A XV YP s a_ H μ σ O J7->Ai X C A XV YP a_ H μ (qM cls) (vM cls em σ O J7) Q->aq (av X.prog X.w) X.A (CJ e C.emit gens k (.ref A) X.env) (λ_ s'=>Q s') E s
def zet{k}{e:bi}(p:X.xe=λ_ _=>False)(I:PE X elt (VX Z X.K (A::XV) te))(J:gens[k]?=J9):AY X Z (CF elt) A XV e gens (Bw te) k []:=by
 intro a s h H i t O b Q E z B q;unfold CJ;rw[J];obtain⟨w,L,M⟩:=B.grown;cases j:te t O with
 | ok d O1=>
  have l:Ai X (CF elt) A XV a h H i (qM []) (if b.length<4000000 then .ok (b++[d]) O1 else .bad) Q:=by
   have:=q;unfold vM Bw at this;rw[j] at this;exact this
  by_cases o:b.length<4000000
  ·rw[Kd o] at l;refine aa (BZ p (I a s h H (λv f=>∃g,Ext H i f g/\oN X.K f (A::XV) g O1/\J5 X.K f (A::XV) g d v) B.inv ⟨i,t,O,z,B.env,B.cells,by rw[j];exact λv H' N x c r=>⟨N,x,c,r⟩⟩)
    λu P ⟨v,f,S,U,g,x,c,r⟩=>?_)
   have Y:A∉i:=λm=>B.cells.nh A m 'k';have n:=x.keep A _ L Y;have y:=M.ext x;refine aa (BZ p (UJ a P h f (.ref A) [v] (.ref A) [u] (λ_ G=>G=upd f A (.lst (w++[v]))) S rfl (.cons U .nil)
    ⟨A,w,v,rfl,rfl,n,aW (by rw[<- y.length];exact o) 'u',rfl⟩) λu2 s2 ⟨v2,G,I2,r2,e2⟩=>?_)
   subst e2;refine ah (l s2 h _ g I2 (x.ea.trans (.put ⟨_,n⟩)) (c.putA ⟨_,n⟩) ⟨_,rO,?_⟩ rfl λ_ _=>rfl);exact(y.append (.cons r .nil)).mv (Ea.put ⟨_,n⟩).mv
  ·rw[Kf o] at l;exact l.elim
 | exc c O1=>
  unfold vM Bw at q;rw[j] at q;exact q.elim
 | bad=>
  unfold vM Bw at q;rw[j] at q;exact q.elim
def Su(co:CQ C){k:Nat}{tg iter:bi}{ifs:List bi}{c:Cl}{a:List Cl}(hx:X.xe=λ_ _=>False)(pZ:X.calm=Ka)(hk:gens[k]?=JU ⟨tg,iter,ifs,0⟩)(hg:PG X tg (c.g.rd X.K))(hf:cy (λe t=>rX X qE e t) ifs c.ifs)
  (hZ:∀(qW t5:St)U L H2 qg,Z qW U L->(∀j,j∉qM (c::a)->t5[j]?=qW[j]?)->Ea A U L H2 qg->Z t5 H2 qg) (x:AY X Z C A XV (C.ex gens scope pos) gens em (k+1) a) (hn:gens[k+1]?=J9 \/ ∃C3 uh xD,gens[k+1]?=JU ⟨C3,uh,xD,0⟩) {it:af} {fp} {tn} {J} {src} (T:yL X.prog X.w X.K tg J fp it tn)
  (YP) (s) (a_) (H) (μ) (σ) (O:Ow) (J7) (n:Nat) (Q) (st:tn 0 s.heap) (zV:∀b∈fp,sY X YP H b) (sa:oU X.K J src H (A::XV) μ)
  (z0:Z a_ H μ) (B:Bs X C A XV YP s a_ H μ σ O J7) (q:Ai X C A XV YP a_ H μ (qM (c::a)) (qU src (vq c a em σ) n 0 O J7) Q):
  codeAny (av X.prog X.w) X.A (.compLoop (C.ex gens scope pos) k (.ref it) (.ref A) X.env) (λr Y=>∃f,r=.ok f/\Q Y) s:=by
 have xy:∀{h:Hp},(∀b∈fp,h b=J9)->∀b∈fp,sY X YP h b:=λhn b x=>⟨hn b x,(zV b x).2⟩;let P:Nat->ai->Prop:=λm Y=>∃i M h N l y,L2.Inv X YP M h Y/\tn i Y.heap/\(∀b∈fp,h b=J9)/\Ea A H μ h N/\oN X.K h (A::XV) N l/\C.G X.K X.prog X.w A XV h N y/\
  M.length=a_.length/\(∀i,i∉qM (c::a)->M[i]?=a_[i]?)/\Ai X C A XV YP a_ H μ (qM (c::a)) (qU src (vq c a em σ) m i l y) Q
 refine codeAny_loop (co.q1 _ _ _ _ _ _ _) P (λm s1 hP=>?_) n ⟨0,a_,H,μ,O,J7,B.inv,st,λb x=>(zV b x).1,.refl,B.cells,B.grown,rfl,λ_ _=>rfl,q⟩;rw[co.u1,co.d1];refine wpAny_noted ?_;rw[co.turn _ _ _ _ _ _ _ hk hn];obtain⟨i,ya,U,L,O1,S,I1,qT,WK,x1,c1,g1,l1,k1,I⟩:=hP;have J0:=sa (A::XV) U L O1 x1.mv c1 i
 -- the names that VS
 have PB:oP X.K U (A::XV) L (qD σ (qM (c::a))) ya:=by
  refine⟨by rw[FT,B.env.len,l1],λj d hj=>?_⟩;obtain⟨h1,h2⟩:=IV _ _ _ _ hj;obtain⟨v,h3,h4⟩:=B.env.at_ j d h1;exact⟨v,by rw[k1 j h2];exact h3,h4.mv x1.mv⟩
 cases qK:src.get O1 i with
 | none=>
  rw[qK] at J0;have p:QF X C A XV YP a_ H μ (qM (c::a)) S O1 Q:=by
   cases m with
   |zero=>unfold qU at I;rw[qK] at I;exact I
   |succ f=>unfold qU at I;rw[qK] at I;exact I
  refine aa (fx (aa (qe (T.done X rfl rfl rfl pZ i YP s1 ya U _ I1 (xy WK) qT J0) λr s2 ⟨hr,I2⟩=>?_)));subst hr;exact ah ⟨_,rfl,p s2 ya U L I2 x1 c1 g1 l1 k1⟩
 | some d=>
  rw[qK] at J0;obtain⟨go,yl⟩:=J0;cases m with
  | zero=>
   unfold qU at I;rw[qK] at I;exact I.elim
  | succ f=>
   have p:Ai X C A XV YP a_ H μ (qM (c::a)) ((vq c a em σ d O1 S).bnd λy l=>qU src (vq c a em σ) f (i+1) l y) Q:=by
    have:=I;unfold qU at this;rw[qK] at this;exact this
   refine aa (fx (aa (qe (T.item X rfl rfl rfl pZ i YP s1 ya U _ I1 (xy WK) qT go) λr s2 ⟨u,hr,h2⟩=>?_)));subst hr;refine aa (qe h2 λ_ s3 ⟨v,H3,I3,r3,y3,qy,Ko⟩=>?_);obtain⟨x3,c3,d3⟩:=yl v H3 y3;have I3':=I3.pinned (xy Ko) (T.obj _ _ qy);cases uj:c.g.put d (qD σ (qM (c::a))) with
   | none=>
    unfold vq at p;rw[uj] at p;exact p.elim
   | some tx=>
    have GJ:vq c a em σ d O1 S=((uD c.ifs tx O1).bnd λb O3=>if b=Ka then vM a em tx O3 S else .ok S O3):=by
     unfold vq;rw[uj]
    rw[GJ] at p;refine aa (BZ hx (hg _ s3 ya H3 v u (λvJ H4=>H4=H3/\oP X.K H3 (A::XV) L tx vJ/\∀j,j∉c.g.slots->vJ[j]?=ya[j]?) I3' r3 (Tg.ok2 c.g (PB.ext x3) d3 uj λvJ e4 k4=>⟨rfl,e4,k4⟩)) λ_ s4 ⟨vJ,H4,I4,e4,Ht,k4⟩=>?_);subst e4;have l4:vJ.length=a_.length:=by rw[I4.len,<- I3.len,l1]
    have N_:∀j,j∉qM (c::a)->vJ[j]?=a_[j]?:=λj hj=>by
     rw[k4 j λz=>hj (bK _ z)];exact k1 j hj
    have nA:A∉L:=λm=>c1.nh A m 'k';have x13:=x1.trans x3.ea;have g3:=co.keep g1 nA x3
    -- behind the step: the next turn
    have E:∀{Y}{M}{h:Hp}{N}{l:Ow}{y:List D},L2.Inv X (YP++Fx fp s3.heap) M h Y->Ea A H μ h N->oN X.K h (A::XV) N l->C.G X.K X.prog X.w A XV h N y->M.length=a_.length->
      (∀i,i∉qM (c::a)->M[i]?=a_[i]?)->Ai X C A XV YP a_ H μ (qM (c::a)) (qU src (vq c a em σ) f (i+1) l y) Q->∃m,m<f+1/\P m Y:=by
     intro Y M h N l y I' x' c' g' l' k' p';refine⟨f,cE f,i+1,M,h,N,l,y,I'.unpinned,T.keep _ _ _ qy λb x o e=>(I'.pin (b,o) (az _ (az _ (Jh x e)))).1,λb x=>?_,x',c',g',l',k',p'⟩;obtain⟨o,e,d⟩:=T.obj _ _ qy b x;exact(I'.pin (b,o) (az _ (az _ (Jh x e)))).2.1
    cases sX:uD c.ifs tx O1 with
    |exc c' l=>rw[sX] at p;exact p.elim
    |bad=>rw[sX] at p;exact p.elim
    | ok b O3=>
     rw[sX] at p;have q3:Ai X C A XV YP a_ H μ (qM (c::a)) ((if b=Ka then vM a em tx O3 S else .ok S O3).bnd λy l=>qU src (vq c a em σ) f (i+1) l y) Q:=p;refine aa (TF hx hf _ s4 vJ H4 L tx O1 _ I4 Ht c3 ?_);rw[sX];intro b' H5 yb x5 c5 eb s5 I5;subst eb;have g5:=co.keep g3 nA x5;have Nz:=x13.trans x5.ea;cases b with
     | false=>
      exact ah ⟨rfl,E I5 Nz c5 g5 l4 N_ q3⟩
     | true=>
      refine aa (x _ s5 vJ H5 yb tx O3 S _ _ (hZ _ _ _ _ _ _ z0 N_ Nz) ⟨I5,Ht.ext x5,c5,g5⟩ ?_);cases rA:vM a em tx O3 S with
      |exc c' l=>rw[rA] at q3;exact q3.elim
      |bad=>rw[rA] at q3;exact q3.elim
      | ok acc6 O6=>
       rw[rA] at q3;intro s6 zj H6 BA I6 x6 c6 g6 l6 k6;refine ah ⟨rfl,E I6 (Nz.trans x6) c6 g6 (l6.trans l4) (λj hj=>?_) q3⟩;rw[k6 j λz=>hj (az _ z)];exact N_ j hj
end
end
end DL
namespace DL
open PySem L2
section
variable{X:Cx}{C:yM}{A:af}{gens:List cL}{scope:dS}{pos:Pos}
def TL(a:CQ C)(b:gens[k]?=JU ⟨tg,iter,ifs,0⟩)(T:yL X.prog X.w X.K tg J fp it tn)(i)(c:tn i s.heap)
  (h:codeAny (av X.prog X.w) X.A (.compLoop (C.ex gens scope pos) k (.ref it) J7 env) P s):
  codeAny (av X.prog X.w) X.A (.compStart (C.ex gens scope pos) k (.ref it) J7 env) P s:=by
 refine i3 ?_;rw[a.u2,a.d2];refine wpAny_notedAt ?_;unfold compStart;have d:clausesOf (C.ex gens scope pos)=gens:=a.cl _ _ _;simp only[d,b,Option.elim,bne_self_eq_false,cS,if_false];refine aa (fD (wpAny_ite ?_));split
 ·exact ah (fN (a.q1 _ _ _ _ _ _ _) h)
 ·refine aa (dU ?_);exact aa (fx (aa (T.self _ i s _ _ c (ah (fN (a.q1 _ _ _ _ _ _ _) h)))))
theorem Sy(p:CQ C)(t:X.xe=λ_ _=>False)(Y:X.calm=Ka){sl:k_}(L:∀(u w)d b i l,Z u d b->(∀j,j∉sl->w[j]?=u[j]?)->Ea A d b i l->Z w i l)(he:∀k,gens[k]?=J9->AY X Z C A XV (C.ex gens scope pos) gens em k []):∀{rest}{cls},o7 X rest cls->(∀j∈qM cls,j∈sl)->∀k,gens.drop k=rest->AY X Z C A XV (C.ex gens scope pos) gens em k cls
 | _,_,.nil,_,k,hd=>he k (by
   have:=congrArg kN hd;simp at this;exact aP.mpr 'd')
 | ⟨tg,iter,ifs,_⟩::gs,c::cs,.cons hi hs hg hf r,Ca,k,hd=>by
  have M:gens[k]?=JU ⟨tg,iter,ifs,0⟩:=by
   have:(gens.drop k)[0]?=JU ⟨tg,iter,ifs,0⟩:=by rw[hd];rfl
   simpa using this
  have Kl:gens.drop (k+1)=gs:=by
   have:=congrArg (List.drop 1) hd;simpa [fg,mj] using this
  have hb:=Sy p t Y L he r (λj m=>Ca j (az _ m)) (k+1) Kl;have hn:gens[k+1]?=J9 \/ ∃C3 uh xD,gens[k+1]?=JU ⟨C3,uh,xD,0⟩:=by
   have e:gens[k+1]?=gs[0]?:=by rw[<- Kl];simp
   cases r with
   |nil=>exact .inl (by rw[e];rfl)
   |cons _ _ _ _ _=>exact .inr ⟨_,_,_,by rw[e];rfl⟩
  intro a s N H y o O h Q E z B q;unfold CJ;rw[M];simp only[bne_self_eq_false,cS,if_false];cases g:c.it o O with
  |exc P O'=>unfold vM at q;rw[g] at q;exact q.elim
  |bad=>unfold vM at q;rw[g] at q;exact q.elim
  | ok src O1=>
   have n:Ai X C A XV a N H y (qM (c::cs)) (qU src (vq c cs em o) (src.size O1) 0 O1 h) Q:=by
    have:=q;unfold vM at this;rw[g] at this;exact this
   refine aa (BZ t (hi.out a s N H (λJ d=>∃b,Ext H y d b/\oN X.K d (A::XV) b O1/\oU X.K J src d (A::XV) b) B.inv ⟨A::XV,y,o,O,B.env,B.cells,by rw[g];exact λJ d b x c S=>⟨b,x,c,S⟩⟩) λv s1 h1=>?_);refine aa (fx ?_);refine aa (iG (hs v) ?_);refine aa (bI (BZ t h1 λGI s2 h2=>?_));obtain⟨it,fp,tn,J,i,e,I2,T,qF,f2,l,G,c2,S⟩:=h2;subst e;refine aa (wpAny_runOwn ?_);show codeAny _ X.A _ _ _;have nA:A∉y:=λm=>B.cells.nh A m 'k';refine TL p M T 0 qF ?_;refine fM (Su p t Y M hg hf (λu w d b i l z1 k1 x1=>L u w d b i l z1 (λj hj=>k1 j λm=>hj (Ca j m)) x1) hb hn T a s2 N i l o O1 h (src.size O1) (λI=>Q I) qF f2 S (L _ _ _ _ _ _ z (λ_ _=>rfl) G.ea) ⟨I2,B.env.ext G,c2,p.keep B.grown nA G⟩ ?_) λr I hr=>?_
   ·cases U:qU src (vq c cs em o) (src.size O1) 0 O1 h with
    |exc P O'=>rw[U] at n;exact n.elim
    |bad=>rw[U] at n;exact n.elim
    | ok qL O'=>
     rw[U] at n;exact λI o_ H' c_ I' x' P g' l' k'=>n I o_ H' c_ I' (G.ea.trans x') P g' l' k'
   ·obtain⟨f,rfl,hq⟩:=hr;exact ah hq
end
noncomputable def qO(X:Cx)(N':List aA)(scope:dS)(cells:List (aA×af))(C:af)(s:ai)(H:Hp)(fp:List af):Cx:=
 { X with
  N:=N',s₀:=s,H₀:=H
  env:={ scope:=relabel scope X.env,locals:=C,globals:=X.env.globals,cells:=cells,qual:=X.env.qual,func:=J9,code:=X.env.code,frame:=X.env.frame,builtins:=X.env.builtins }
  outer:=X.stack,ex:=fp,fn:=λx=>scope.names.lookup x==JU .cell,pn:=[],xe:=λ_ _=>False }
structure yJ(sc scope:dS)(N':List aA)(sl:k_):Prop where
 kind:scope.kind=.function
 nd:(scope.names.map (·.1)).Nodup
 frees:∀y∈scope.names,y.2=.free->sc.names.lookup y.1=JU .cell\/sc.names.lookup y.1=JU .free
 own:∀(i)x,N'[i]?=JU x->(x,NameKind.local)∈scope.names\/(x,d0)∈scope.names->i∈sl
theorem Ao{β:Type}:∀{l:List (aA×β)}{x}{b:β},(l.map (·.1)).Nodup->(x,b)∈l->l.lookup x=JU b
 |[],_,_,_,h=>by cases h
 | (y,c)::r,x,b,nd,h=>by
  obtain⟨a,d⟩:=bF.mp nd;rcases am.mp h with e|h
  ·cases e;simp[fE]
  ·have f:x≠y:=λe=>a (ay.mpr ⟨(x,b),h,e⟩);rw[fE];have:(x==y)=Kb:=⇑f
   rw[this];exact Ao d h
theorem Nl(a:Env)(x):∀(names:List (aA×gU)),(names.map λ(n,k)=>if (k==dL&&a.scope.kind == .function&&a.kindOf n==JU .cell) then (n,d0) else (n,k)).lookup x =
  (names.lookup x).map λk=>if (k==dL&&a.scope.kind == .function&&a.kindOf x==JU .cell) then d0 else k
 |[]=>rfl
 | (n,k)::r=>by
  show List.lookup x ((if (k==dL&&a.scope.kind == .function&&a.kindOf n==JU .cell)=Ka then (n,d0) else (n,k))::_)=_;cases b:x==n with
  | true=>
   have e:x=n:=⇑b
   subst e;simp;split
   ·rename_i h;simp[fE,h]
   ·rename_i h;simp[fE,h]
  | false=>
   have c:=Nl a x r;simp only[fE,b];rw[<- c];split<;>simp only[fE,b]
def Vm(h:vH (relabel scope env) x):(x,NameKind.local)∈scope.names\/(x,d0)∈scope.names\/(x,dL)∈scope.names:=by
 unfold vH relabel at h;simp only[Nl] at h;cases e:scope.names.lookup x with
 |none=>rw[e] at h;simp at h
 | some k=>
  have m:=bZ e;cases k with
  | «local»=>exact .inl m
  |cell=>exact .inr (.inl m)
  |free=>exact .inr (.inr m)
  |_=>rw[e] at h;simp at h
noncomputable def sO(cells:List (aA×af)):List (aA×gU)->List (aA×af)->List (aA×af)
 |[],J7=>J7
 |(n,k)::r,J7=>if k == .free then sO cells r ((n,(cells.lookup n).getD 0)::J7) else sO cells r J7
def Vz(h:∀y∈scope.names,y.2=.free->∃c,env.cells.lookup y.1=JU c):closureFor scope env=pure (sO env.cells scope.names []):=by
 have f:∀(b)(d),(∀y∈b,y.2=.free->∃c,env.cells.lookup y.1=JU c)->
   (forIn b d λ(x:aA×gU)(e:List (aA×af))=>(if x.2 == .free then (do let a <- cellOf env x.1;pure (gu ((x.1,a)::e))) else pure (gu e):Sem _))=pure (sO env.cells b d):=by
  intro b
  induction b with
  |nil=>intro d _;rfl
  | cons y r ih=>
   intro d g;obtain⟨n,k⟩:=y;rw[ig];unfold sO;by_cases i:(k==dL)=Ka
   ·obtain⟨c,l⟩:=g (n,k) al ⇑i;have o:cellOf env n=pure c:=by unfold cellOf;rw[l]
    simp only[i,if_true,o,pure_bind,l,Option.getD_some];exact ih _ λy j=>g y (ag _ j)
   ·simp only[i,if_false,pure_bind,cS];exact ih _ λy j=>g y (ag _ j)
 have:=f scope.names [] h;refine Eq.trans ?_ (congrArg (λm=>m >>= λe=>pure e) this);congr 1
theorem Ji:∀(names)(J7:List (aA×af)),(x,c)∈sO cells names J7->(x,c)∈J7\/((x,dL)∈names/\c=(cells.lookup x).getD 0)
 |[],J7,h=>.inl h
 | (n,k)::r,J7,h=>by
  unfold sO at h;by_cases a:(k==dL)=Ka
  ·rw[Kd a] at h;rcases Ji r _ h with m|⟨m,e⟩
   ·rcases am.mp m with m|m
    ·cases m;have:k=.free:=⇑a
     subst this;exact .inr ⟨al,rfl⟩
    ·exact .inl m
   ·exact .inr ⟨ag _ m,e⟩
  ·rw[Kf a] at h;rcases Ji r _ h with m|⟨m,e⟩
   ·exact .inl m
   ·exact .inr ⟨ag _ m,e⟩
theorem MW:∀(names)(J7:List (aA×af)),p∈J7->p∈sO cells names J7
 |[],J7,h=>h
 | (n,k)::r,J7,h=>by
  unfold sO;split
  ·exact MW r _ (ag _ h)
  ·exact MW r _ h
theorem Jd:∀(names)(J7:List (aA×af)),(x,dL)∈names->(x,(cells.lookup x).getD 0)∈sO cells names J7
 | (n,k)::r,J7,h=>by
  unfold sO;rcases am.mp h with e|h
  ·cases e;exact MW r _ al
  ·split
   ·exact Jd r _ h
   ·exact Jd r _ h
theorem Li:∀(names)(n)(J7),(x,c)∈cI n names J7->(x,c)∈J7\/((x,d0)∈names/\n<=c)
 |[],n,J7,h=>.inl h
 | (y,k)::r,n,J7,h=>by
  unfold cI at h;by_cases a:(k==d0)=Ka
  ·rw[Kd a] at h;rcases Li r _ _ h with m|⟨m,e⟩
   ·rcases am.mp m with m|m
    ·cases m;have:k=.cell:=⇑a
     subst this;exact .inr ⟨al,aw _⟩
    ·exact .inl m
   ·exact .inr ⟨ag _ m,mH e⟩
  ·rw[Kf a] at h;rcases Li r _ _ h with m|⟨m,e⟩
   ·exact .inl m
   ·exact .inr ⟨ag _ m,e⟩
theorem Lf:∀(names)(n)(J7),p∈J7->p∈cI n names J7
 |[],_,_,h=>h
 | (y,k)::r,n,J7,h=>by
  unfold cI;split
  ·exact Lf r _ _ (ag _ h)
  ·exact Lf r _ _ h
theorem MK:∀(names)(n:Nat)(J7:List (aA×af)),(J7.Pairwise λx y=>x.2≠y.2)->(∀p∈J7,p.2<n)->(cI n names J7).Pairwise λx y=>x.2≠y.2
 |[],_,_,h,_=>h
 | (y,k)::r,n,J7,h,hl=>by
  unfold cI;split
  ·refine MK r (n+1) _ (cg.mpr ⟨λp hp=>?_,h⟩) λp hp=>?_
   ·exact λe=>absurd (hl p hp) (by show ¬ p.2<n;rw[<- e];exact bM _)
   ·rcases am.mp hp with rfl|hp
    ·exact cE _
    ·exact dg (hl p hp)
  ·exact MK r n J7 h hl
theorem Mq:∀(names)(n)(J7),((names.map (·.1)).Nodup)->(J7.map (·.1)).Nodup->(∀p∈J7,∀k,(p.1,k)∈names->k≠d0)->((cI n names J7).map (·.1)).Nodup
 |[],_,_,_,h,_=>h
 | (y,k)::r,n,J7,nd,h,hl=>by
  obtain⟨f,d⟩:=bF.mp nd;unfold cI;by_cases c:(k==d0)=Ka
  ·rw[Kd c];have g:k=.cell:=⇑c
   refine Mq r (n+1) _ d (bF.mpr ⟨λm=>?_,h⟩) λp hp a b=>?_
   ·obtain⟨p,hp,e⟩:=ay.mp m;exact hl p hp k (by rw[e];exact al) g
   ·rcases am.mp hp with rfl|hp
    ·exact absurd (ay.mpr ⟨(y,a),b,rfl⟩) f
    ·exact hl p hp a (ag _ b)
  ·rw[Kf c];exact Mq r n J7 d h λp hp a b=>hl p hp a (ag _ b)
theorem Jz:∀(names)(J7:List (aA×af)),((names.map (·.1)).Nodup)->(J7.map (·.1)).Nodup->(∀p∈J7,p.1∉names.map (·.1))->((sO cells names J7).map (·.1)).Nodup
 |[],_,_,h,_=>h
 | (y,k)::r,J7,nd,h,hl=>by
  obtain⟨b,a⟩:=bF.mp nd;unfold sO;split
  ·refine Jz r _ a (bF.mpr ⟨λm=>?_,h⟩) λp hp=>?_
   ·obtain⟨p,hp,e⟩:=ay.mp m;exact hl p hp (by rw[e];simp)
   ·rcases am.mp hp with rfl|hp
    ·exact b
    ·exact λm=>hl p hp (ag _ m)
  ·exact Jz r J7 a h λp hp m=>hl p hp (ag _ m)
theorem LG:∀(names)(h)(J7),(x,c)∈cI h.objs.size names J7->(x,c)∈J7\/(ml h names).IsCell c J9
 |[],_,_,m=>.inl m
 | (y,k)::r,h,J7,m=>by
  unfold cI at m;unfold ml;by_cases a:(k==d0)=Ka
  ·rw[Kd a] at m ⊢;have e:h.objs.size+1=(h.push { cls:=.type "cell",data:=.cell J9 }).objs.size:=(cx ..).symm;rw[e] at m;rcases LG r _ _ m with m|m
   ·rcases am.mp m with m|m
    ·cases m;exact .inr ⟨_,i4 _ _ _ _ (aB _ rfl),rfl⟩
    ·exact .inl m
   ·exact .inr m
  ·rw[Kf a] at m ⊢;exact LG r _ _ m
def z7i{l:List (aA×af)}(d:(l.map (·.1)).Nodup)(inj:∀p∈l,∀q∈l,p.2=q.2->p.1=q.1):l.Pairwise λx y=>x.2≠y.2:=by
 induction l with
 |nil=>exact .nil
 | cons p r ih=>
  obtain⟨f,g⟩:=bF.mp d;refine cg.mpr ⟨λq c e=>f ?_,ih g λa h b i=>inj a (ag _ h) b (ag _ i)⟩;exact ay.mpr ⟨q,c,(inj p al q (ag _ c) e).symm⟩
abbrev FF:Obj:={ cls:=.type "dict",data:=.dict #[] }
section
abbrev Ii(ob:Obj)(h:aX)(names:List (aA×gU)):aX:=ml ((h.push ob).push FF) names
def Vp(ob)(h)(names)(b)(o)(e:h.get? b=JU o):(Ii ob h names).get? b=JU o:=i4 _ _ _ _ (ab _ (ab _ e))
def Xi(ob)(h:aX):((h.push ob).push FF).objs.size=h.objs.size+2:=by rw[cx,cx]
def zb5{scope}{ext}{sl}{G:List af}(I:L2.Inv X YP a_ H s)(B:∀b∈G,sY X YP H b)(S:∀b∈G,b<s.heap.objs.size)(g:yJ X.env.scope scope (X.N++ext) sl){ob}{u:HO}(OR:ob.isFreed=Kb)(uI:∀h:aX,h.get? s.heap.objs.size=JU ob->o0 X.prog X.w (upd H s.heap.objs.size u) h s.heap.objs.size u):
  L2.Inv (qO X (X.N++ext) scope (cI (s.heap.objs.size+2) scope.names (sO X.env.cells scope.names [])) (s.heap.objs.size+1) s H G) [] (qD (a_++aR ext.length J9) sl)
   (upd H s.heap.objs.size u) { s with heap:=Ii ob s.heap scope.names }:=by
 have U:∀x c,X.env.cells.lookup x=JU c->c<s.heap.objs.size:=λx c e=>by
  obtain⟨v,z⟩:=I.cell x c e;exact z.lt
 -- a free name of the block has e_ cell around
 have Y:∀x,(x,dL)∈scope.names->∃c,X.env.cells.lookup x=JU c:=λx f=>I.ok.has x (g.frees _ f rfl);have t:∀x c,(x,c)∈sO X.env.cells scope.names []->(x,dL)∈scope.names/\X.env.cells.lookup x=JU c:=λx c hm=>by
  rcases Ji _ _ hm with m|⟨m,e⟩
  ·cases m
  ·obtain⟨c',Z⟩:=Y x m;rw[Z] at e;exact⟨m,by rw[e];exact Z⟩
 have J:∀x,(x,dL)∈scope.names->∀c,X.env.cells.lookup x=JU c->(x,c)∈sO X.env.cells scope.names []:=λx f c e=>by
  have:=Jd (cells:=X.env.cells) scope.names [] f;rw[e] at this;exact this
 have Gy:((sO X.env.cells scope.names []).map (·.1)).Nodup:=Jz _ _ g.nd 'k' (by intro p l;cases l);have L:((cI (s.heap.objs.size+2) scope.names (sO X.env.cells scope.names [])).map (·.1)).Nodup:=Mq _ _ _ g.nd Gy λp l k hk e=>by
  subst e;have j:=(t p.1 p.2 l).1;have:=Ao g.nd j;rw[Ao g.nd hk] at this;cases this
 have r:(cI (s.heap.objs.size+2) scope.names (sO X.env.cells scope.names [])).Pairwise λx y=>x.2≠y.2:=by
  refine MK _ _ _ (z7i Gy λp l q hq e=>?_) λp l=>aW (U _ _ (t p.1 p.2 l).2) (iN _ _);refine I.ok.inj p.1 q.1 p.2 (t p.1 p.2 l).2 ?_;rw[e];exact(t q.1 q.2 hq).2
 have M:∀x c,(cI (s.heap.objs.size+2) scope.names (sO X.env.cells scope.names [])).lookup x=JU c->((x,dL)∈scope.names/\X.env.cells.lookup x=JU c)\/((x,d0)∈scope.names/\s.heap.objs.size+2<=c):=λx c e=>by
  rcases Li _ _ _ (bZ e) with m|m
  ·exact .inl (t x c m)
  ·exact .inr m
 have d:∀a,s.heap.objs.size<=a->H a=J9:=λa ha=>I.hok.fresh ha;have C:=Vp ob s.heap scope.names;have Gn:∀x,(x,dL)∈scope.names->∀c,X.env.cells.lookup x=JU c->(cI (s.heap.objs.size+2) scope.names (sO X.env.cells scope.names [])).lookup x=JU c:=λx f c e=>
  Ao L (Lf _ _ _ (J x f c e))
 refine⟨⟨I.ok.mod,g.kind,I.ok.glob,I.ok.blt,fi _,λx y c j O=>name_of_addr r (bZ j) (bZ O),λx f=>?_,λx c f h=>?_,I.ok.hd,I.ok.frames,.inl rfl,λb n=>⟨?_,λx c e=>?_⟩,I.bs,?_,λb o e n=>?_,λb n z=>?_,I.stack,I.stkFree⟩,
  rfl,I.bare,Un.laid C (aw _) (d _ (aw _)),?_,λx c e=>?_,?_,λx c e=>?_,λp l=>absurd (show p∈([]:List (af×Obj)) from l) 'k',I.hok.laid C (aw _) ?_,?_,I.tk⟩
 ·-- has
  have f:vH (relabel scope X.env) x:=.inr f;rcases Vm f with m|m|m
  ·exfalso;have e:=Ao g.nd m;have e2:(relabel scope X.env).names.lookup x=JU .local:=lookup_relabel_local e;rcases (show(relabel scope X.env).names.lookup x=JU .cell\/(relabel scope X.env).names.lookup x=JU .free by rename_i P;exact P) with q|q
   ·rw[e2] at q;cases q
   ·rw[e2] at q;cases q
  ·exact gi.mp (iF scope.names _ _ (.inl (Ao g.nd m)))
  ·obtain⟨c,Q⟩:=Y x m;exact⟨c,Gn x m c Q⟩
 ·-- cab
  have f:(scope.names.lookup x==JU .cell)=Ka:=f;rcases M x c h with⟨m,_⟩|⟨_,m⟩
  ·rw[Ao g.nd m] at f;cases f
  ·exact aI (iN _ _) m
 ·exact bo (dg (S b n))
 ·rcases M x c e with⟨_,m⟩|⟨_,m⟩
  ·exact(B b n).2.2.2.2.1 x c m
  ·have P:=S b n;exact λz=>by
    rw[z] at m;exact absurd (aW P (aI (iN _ 2) m)) (bM _)
 ·exact aI I.ok.bsz I.sz
 ·rcases (B b n).2.2.2.1 with z|z
  ·exact I.ok.noex b o e z
  ·exact absurd (aW (aG e) (aI I.ok.bsz z)) (bM _)
 ·rcases am.mp (I.stkSub b z) with q|q
  ·exact(B b n).2.1 q
  ·exact(B b n).2.2.1 q
 ·-- loc
  refine⟨λ_=>J9,?_,λi x v j O h3=>?_⟩
  ·have z:=(Heap.Ns.new (s.heap.push ob) (.type "dict")).keeps (i4 scope.names _);rw[cx] at z;exact z
  ·obtain⟨A,g2⟩:=IV _ _ _ _ O;have E:i<a_.length:=by
    by_cases E:i<a_.length
    ·exact E
    ·rw[bj 'd',gp] at A;split at A<;>cases A
   rw[aH E] at A;have Be:X.N[i]?=JU x:=by
    have j:(X.N++ext)[i]?=JU x:=j;rw[aH (by rw[<- I.len];exact E)] at j;exact j
   rcases Vm h3 with m|m|m
   ·exact absurd (g.own i x j (.inl m)) g2
   ·exact absurd (g.own i x j (.inr m)) g2
   ·obtain⟨m0,hn,hl⟩:=I.loc;have kx:=g.frees _ m rfl;obtain⟨u,ru,lk⟩:=hl i x v Be A (.inr kx);refine⟨u,ru,?_⟩;rcases lk with⟨q,_⟩|⟨q,c,Q,z⟩
    ·exfalso;have q:X.env.scope.names.lookup x=JU .local:=q;rcases kx with k|k<;>(rw[q] at k;cases k)
    ·refine .inr ⟨?_,c,Gn x m c Q,z.keeps C⟩;have e:=Ao g.nd m;show(relabel scope X.env).names.lookup x=JU .cell\/(relabel scope X.env).names.lookup x=JU .free;unfold relabel;simp only[Nl,e,fU];split
     ·exact .inl rfl
     ·exact .inr rfl
 ·-- cell
  rcases LG scope.names ((s.heap.push ob).push FF) (sO X.env.cells scope.names []) (by rw[Xi];exact bZ e) with m|m
  ·obtain⟨v,z⟩:=I.cell x c (t x c m).2;exact⟨v,z.keeps C⟩
  ·exact⟨J9,m⟩
 ·show upd H s.heap.objs.size u (s.heap.objs.size+1)=J9;rw[qi (dZ (cE _))];exact d _ (fi _)
 ·rcases M x c e with⟨_,m⟩|⟨_,m⟩
  ·rw[qi (bo (U x c m))];exact I.freeC x c m
  ·have ne:c≠s.heap.objs.size:=λz=>by
    rw[z] at m;exact absurd m 'd'
   rw[qi ne];exact d c (aI (iN _ 2) m)
 ·exact uI _ (i4 _ _ _ _ (ab _ (aB _ OR)))
 ·show _=(X.N++ext).length;rw[FT,aC,kX,aC,I.len]
end
def zE{α:Type}:R α->R α
 |.ok a O=>.ok a O
 |_=>.bad
def BX(ext:Nat)(it0:DI)(g:Tg)(ts:List DT)(cs:List Cl)(em:Em):Sg->Ow->R (List D):=λσ O=>(it0 σ O).bnd λsrc O1=>
 zE (qU src (vq ⟨it0,g,ts⟩ cs em (qD (σ++aR ext J9) (qM (⟨it0,g,ts⟩::cs)))) (src.size O1) 0 O1 [])
def BS(ext:Nat)(it0:DI)(g:Tg)(ts:List DT)(cs:List Cl)(te:DE):Sg->Ow->R (List D):=λσ O=>(it0 σ O).bnd λsrc O1=>
 zE (qU src (AS ⟨it0,g,ts⟩ cs te (qD (σ++aR ext J9) (qM (⟨it0,g,ts⟩::cs)))) (src.size O1) 0 O1 [])
def MO(ext)(it0:DI)(g)(ts)(cs)(te):BX ext it0 g ts cs (Bw te)=BS ext it0 g ts cs te:=by funext σ O;unfold BX BS;rw[zgK]
def ZB(a_:St)(n:Nat)(sl:k_)(A:af)(H0:Hp):St->Hp->List af->Prop:=λσ H μ=>(∀j,j∉sl->σ[j]?=(a_++aR n J9)[j]?)/\H0 A=J9/\∃HF o,Ea A (upd H0 A o) HF H μ/\∀a∈HF,∃vs,H0 a=JU (.lst vs)
section
def z6L
  (h:Q { scope,locals:=s.heap.objs.size,globals,cells:=cI (s.heap.objs.size+1) scope.names cl,qual,func:=J9,code:=env.code,frame:=env.frame,builtins:=env.builtins } { s with heap:=ml (s.heap.push FF) scope.names }):
  aq M A (newFunctionEnv scope globals cl [] qual J9 .none (JU env)) Q E s:=by simp only[newFunctionEnv,mh,if_true];refine aa (wpAny_alloc ?_);refine aa (wpAny_layCells _ (λc a cells=>by cases b:a==d0<;>simp[b]) _ _ _ _ ?_);rw[show({ s with heap:=s.heap.push FF }:ai).heap.objs.size=s.heap.objs.size+1 from cx ..];simp only[lg,pure_bind];exact ah h
structure Rt(X:Cx)(C:yM)(YP:List (af×Obj))(a_:St)(H:Hp)(XV μ:List af)(L Cn:af)(J7:List D)(O:Ow)(s':ai):Prop where
 inv:∃H' c_,L2.Inv X YP a_ H' s'/\Ext H μ H' c_/\oN X.K H' (L::XV) c_ O/\H L=J9/\H' Cn=J9/\C.G X.K X.prog X.w L XV H' c_ J7
 ns:∃m,s'.heap.Ns Cn m
 loc:Cn≠X.env.locals
 young:X.s₀.heap.objs.size<=Cn
 cel:∀x c,X.env.cells.lookup x=JU c->c≠Cn
 pns:∀p∈X.pn++YP,p.1≠Cn
def Inv.bare{YP}{h:St}{H}{s'}{C}{h'}(I:L2.Inv X YP h H s')(i:dr C s'.heap h')(j:H C=J9)(d:C≠X.env.locals)(a:X.s₀.heap.objs.size<=C)(f:∀x c,X.env.cells.lookup x=JU c->c≠C)
  (g:∀p∈X.pn++YP,p.1≠C):L2.Inv X YP h H { s' with heap:=h' }:=I.turned (λb o l e=>(i.2 b l).trans e) j d (.inr a) f g
def zam(co:CQ C)
  {it} {u:List af} {tn} {J:It} {RR:ae->af->Result->ai->Prop}
  (pZ:X.calm=Ka) (hb:yJ X.env.scope scope (X.N++ext) (qM (⟨it0,g,ts⟩::cs)))
  (tZ:∀cells Cn,PG (qO X (X.N++ext) scope cells Cn s H u) tg (g.rd X.K)/\cy (λe t=>rX (qO X (X.N++ext) scope cells Cn s H u) qE e t) ifs ts/\o7 (qO X (X.N++ext) scope cells Cn s H u) gs cs/\∀A XV k,(⟨tg,iter,ifs,0⟩::gs:List cL)[k]?=J9->AY (qO X (X.N++ext) scope cells Cn s H u) (ZB a_ ext.length (qM (⟨it0,g,ts⟩::cs)) A H) C A XV (C.ex (⟨tg,iter,ifs,0⟩::gs) scope pos) (⟨tg,iter,ifs,0⟩::gs) em k [])
  (I:L2.Inv X YP a_ H s) (e1:oP X.K H XV μ σ a_) (S:oN X.K H XV μ O) (T:yL X.prog X.w X.K tg J u it tn) (st:tn 0 s.heap) (zV:∀b∈u,sY X YP H b) (sa:oU X.K J src H XV μ)
  (hw:qU src (vq ⟨it0,g,ts⟩ cs em (qD (σ++aR ext.length J9) (qM (⟨it0,g,ts⟩::cs)))) (src.size O) 0 O []=.ok J7 O2)
  (hRR:∀f B,Rt X C YP a_ H XV μ s.heap.objs.size (s.heap.objs.size+1) J7 O2 B->RR (.ref s.heap.objs.size) (s.heap.objs.size+1) (.ok f) B):
  aq (av X.prog X.w) X.A C.new (λac yu=>aq (av X.prog X.w) X.A (newFunctionEnv scope X.env.globals (sO X.env.cells scope.names []) [] X.env.qual J9 .none (JU X.env)) (λHx NH=>
   codeAny (av X.prog X.w) X.A (.compStart (C.ex (⟨tg,iter,ifs,0⟩::gs) scope pos) 0 (.ref it) ac { Hx with scope:=relabel scope X.env }) (RR ac Hx.locals) NH) E yu) E s:=by
 refine co.new λL OR uI=>?_;refine z6L ?_;have qQ:(s.heap.push L).objs.size=s.heap.objs.size+1:=cx ..;have q9:∀b∈u,b<s.heap.objs.size:=λb hb=>by
  obtain⟨o,ho,_⟩:=T.obj 0 _ st b hb;exact aG ho
 have IB:=zb5 I zV q9 hb OR (λh=>uI H h _ I.big);have G:H s.heap.objs.size=J9:=I.hok.fresh (aw _);have qR:∀b∈u,b≠s.heap.objs.size:=λb hb=>bo (q9 b hb);obtain⟨b1,b2,b3,b4⟩:=tZ (cI (s.heap.objs.size+2) scope.names (sO X.env.cells scope.names [])) (s.heap.objs.size+1);generalize l:qO X (X.N++ext) scope (cI (s.heap.objs.size+2) scope.names (sO X.env.cells scope.names [])) (s.heap.objs.size+1) s H u=y at IB b1 b2 b3 b4;have eP:y.prog=X.prog:=by rw[<- l];rfl
 have eW:y.w=X.w:=by rw[<- l];rfl
 have M:y.K=X.K:=by rw[<- l];rfl
 have eA:y.A=X.A:=by rw[<- l];rfl
 have ex:y.xe=λ_ _=>False:=by rw[<- l];rfl
 have ec:y.calm=Ka:=by rw[<- l];exact pZ
 have DU:y.env={ scope:=relabel scope X.env,locals:=s.heap.objs.size+1,globals:=X.env.globals,cells:=cI (s.heap.objs.size+2) scope.names (sO X.env.cells scope.names []),qual:=X.env.qual,func:=J9,code:=X.env.code,frame:=X.env.frame,builtins:=X.env.builtins }:=by rw[<- l];rfl
 have Hu:({ ({ scope,locals:=(s.heap.push L).objs.size,globals:=X.env.globals,cells:=cI ((s.heap.push L).objs.size+1) scope.names (sO X.env.cells scope.names []),qual:=X.env.qual,func:=J9,code:=X.env.code,frame:=X.env.frame,builtins:=X.env.builtins }:Env) with scope:=relabel scope X.env }:Env)=y.env:=by
  rw[DU,qQ]
 show codeAny _ _ (.compStart _ 0 _ _ ({ ({ scope,locals:=(s.heap.push L).objs.size,globals:=X.env.globals,cells:=cI ((s.heap.push L).objs.size+1) scope.names (sO X.env.cells scope.names []),qual:=X.env.qual,func:=J9,code:=X.env.code,frame:=X.env.frame,builtins:=X.env.builtins }:Env) with scope:=relabel scope X.env }:Env)) (RR _ (s.heap.push L).objs.size) _;rw[Hu,qQ];have NX:Mv H XV μ (upd H s.heap.objs.size (C.ho X.prog X.w s.heap.objs.size)) (s.heap.objs.size::XV) μ:=(Mv.hide G).trans ⟨⟨[],by simp⟩,λb o h _ n2 _=>by rw[qi (λz=>n2 (by simp[z]))];exact h,λ_ m=>.inl m,λ_ m=>.inl m,yW,λ_ t=>t.upd (.inl G)⟩;have c2:oN X.K (upd H s.heap.objs.size (C.ho X.prog X.w s.heap.objs.size)) (s.heap.objs.size::XV) μ O:=by
  refine⟨S.len,S.nd,λa m z=>?_,λa m=>?_,λk a e=>?_⟩
  ·rcases am.mp z with rfl|z
   ·exact(S.not_in G).2 m
   ·exact S.nh a m z
  ·rcases am.mp m with rfl|m
   ·rw[rO];simp
   ·exact yW a (S.ht a m)
  ·obtain⟨ds,vs,Y,Z,h3⟩:=S.at_ k a e;exact⟨ds,vs,Y,by rw[qi (sQ Z G)];exact Z,h3.mv NX⟩
 have e2:oP X.K (upd H s.heap.objs.size (C.ho X.prog X.w s.heap.objs.size)) (s.heap.objs.size::XV) μ (qD (σ++aR ext.length J9) (qM (⟨it0,g,ts⟩::cs))) (qD (a_++aR ext.length J9) (qM (⟨it0,g,ts⟩::cs))):=by
  refine⟨by rw[FT,FT,aC,aC,e1.len];simp,λi d h=>?_⟩;obtain⟨g1,g2⟩:=IV _ _ _ _ h;have hi:i<σ.length:=by
   by_cases hi:i<σ.length
   ·exact hi
   ·rw[bj 'd',gp] at g1;split at g1<;>cases g1
  rw[aH hi] at g1;obtain⟨v,Y,Z⟩:=e1.at_ i d g1;exact⟨v,by rw[L4 _ _ _ g2,aH (by rw[<- e1.len];exact hi)];exact Y,Z.mv NX⟩
 have OS:∀b∈u,sY y [] (upd H s.heap.objs.size (C.ho X.prog X.w s.heap.objs.size)) b:=λb Q=>by
  obtain⟨f0,f1,f2,f3,f4,f5⟩:=zV b Q;have Y:=IB.ok.exf;refine⟨by rw[qi (qR b Q)];exact f0,?_,?_,.inl ?_,?_,?_⟩
  ·exact(Y b (by rw[<- l];exact Q)).1
  ·rw[<- l];exact λz=>IB.ok.exfs b (by rw[<- l];exact Q) (by rw[<- l];exact z)
  ·rw[<- l];exact Q
  ·exact(Y b (by rw[<- l];exact Q)).2
  ·rw[<- l];exact λp hp=>absurd (show p∈([]:List (af×Obj)) from hp) 'k'
 have h_:tn 0 (Ii L s.heap scope.names):=T.keep _ _ _ st λb _ o e=>Vp _ _ _ _ _ e;have T':yL y.prog y.w y.K tg J u it tn:=by rw[eP,eW,M];exact T
 have WD:∀(qW t5)H1 f_ H2 qg,ZB a_ ext.length (qM (⟨it0,g,ts⟩::cs)) s.heap.objs.size H qW H1 f_->(∀j,j∉qM (⟨it0,g,ts⟩::cs)->t5[j]?=qW[j]?)->Ea s.heap.objs.size H1 f_ H2 qg->ZB a_ ext.length (qM (⟨it0,g,ts⟩::cs)) s.heap.objs.size H t5 H2 qg:=
  λqW t5 H1 f_ H2 qg ⟨z1,z2,HF,o,z3,z4⟩ k1 x1=>⟨λj hj=>(k1 j hj).trans (z1 j hj),z2,HF,o,z3.trans x1,z4⟩
 have key:=Su co ex ec rfl (by rw[M];exact b1) b2 WD (Sy co ex ec WD (b4 _ _) b3 (λj m=>az _ m) 1 rfl) (by
   cases b3 with
   |nil=>exact .inl rfl
   |cons _ _ _ _ _=>exact .inr ⟨_,_,_,rfl⟩) T' [] { s with heap:=Ii L s.heap scope.names } (qD (a_++aR ext.length J9) (qM (⟨it0,g,ts⟩::cs))) (upd H s.heap.objs.size (C.ho X.prog X.w s.heap.objs.size)) μ (qD (σ++aR ext.length J9) (qM (⟨it0,g,ts⟩::cs))) O [] (src.size O)
   (λB=>Rt X C YP a_ H XV μ s.heap.objs.size (s.heap.objs.size+1) J7 O2 B) h_ OS (by rw[M];exact sa.mv NX) ⟨λj hj=>L4 _ _ _ hj,G,μ,_,.refl,λa m=>by
    obtain⟨k,e⟩:=List.getElem?_of_mem m;obtain⟨_,vs,_,Z,_⟩:=S.at_ k a e;exact⟨vs,Z⟩⟩ ⟨IB,by rw[M];exact e2,by rw[M];exact c2,by rw[M,eP,eW];exact co.g0⟩ ?_
 ·have GH:=TL co rfl T' 0 h_ key;rw[eP,eW,eA] at GH;exact fM GH λr B ⟨f,hr,q⟩=>by subst hr;exact hRR f B q
 ·rw[hw];intro B o_ H' c_ I' x' c' g' l' k';rw[M] at c';rw[M,eP,eW] at g';have xe:Ext H μ H' c_:=⟨x'.pre,λb o h n ht=>x'.kept b o (by rw[qi (sQ h G)];exact h) n (sQ h G) ht,λb m=>(x'.fresh b m).imp id λz=>by
   by_cases q:b=s.heap.objs.size
   ·rw[q];exact G
   ·rw[qi q] at z;exact z,λb h=>x'.there b (yW b h),λP t=>x'.tab P (t.upd (.inl G))⟩
  have un:Un (vD X.stack) u H H' s.heap B.heap:=by
   have:=I'.base;rw[<- l] at this;exact this
  have os:B.os=s.os:=by
   have:=I'.os;rw[<- l] at this;exact this
  have hok:HOk X.prog X.w H' B.heap:=by
   have:=I'.hok;rw[eP,eW] at this;exact this
  have IX:L2.Inv X YP a_ H' B:=I.call' os un hok I'.bare λb Q=>by
   obtain⟨f0,f1,f2,f3,f4,f5⟩:=zV b Q;exact⟨f3,f1,f4,f5⟩
  have U:∀b,b<s.heap.objs.size->b≠s.heap.objs.size+1:=λb h=>bo (dg h);refine⟨⟨H',c_,IX,xe,c',G,?_,g'⟩,?_,?_,?_,λx c e=>?_,λp hp=>?_⟩
  ·have:=I'.free;rw[DU] at this;exact this
  ·obtain⟨m,hn,_⟩:=I'.loc;rw[DU] at hn;exact⟨m,hn⟩
  ·exact(U _ I.lt).symm
  ·exact aI I.sz (fi _)
  ·obtain⟨v,z⟩:=I.cell x c e;exact U _ z.lt
  ·exact U _ (aG (I.pin p hp).1)
end
section
def ziY{α:Type}{r:R α}{a:α}{O}(h:zE r=.ok a O):r=.ok a O:=by
 cases r with
 |ok _ _=>exact h
 |exc _ _=>cases h
 |bad=>cases h
def zhG{α:Type}{r:R α}{c}{O}(h:zE r=.exc c O):False:=by cases r<;>cases h
def Il(C:yM)(Ex:Nat->Hp->Prop)(K:ak)(P:aU)(w:be)(H:Hp)(XV μ:List af)(r:R (List D))(Q:af->Hp->Prop):Prop:=match r with
 |.ok J7 O'=>∀L H' c_,H L=J9->Ext H μ H' c_->oN K H' (L::XV) c_ O'->C.G K P w L XV H' c_ J7->Q L H'
 |.exc c O'=>∀H' c_,Ext H μ H' c_->oN K H' XV c_ O'->Ex c H'
 |.bad=>False
def Ext.none{H H'}{μ c_}(e:Ext H μ H' c_){L}(h:H' L=jx):H L=jx:=by
 cases q:H L with
 |none=>rfl
 |some o=>exact absurd h (e.there L (by rw[q];simp))
def FZ{C}(co:CQ C){em}{tg iter}{ifs}{gs}{scope}{pos qw}{ext}{it0}{g}{ts}{cs}{YP}{i:St}{H:Hp}{s}{XV μ}{σ}{O}
  {use:Option (ae->Sem Unit)} {Q} (pZ:X.calm=Ka) (hi:ud X Ex tg iter it0) (u:yJ X.env.scope scope (X.N++ext) (qM (⟨it0,g,ts⟩::cs)))
  (tZ:∀cells a d H' j,L2.Inv X YP i H' d->(∀b∈j,sY X YP H' b)->(∃G,Ext H μ H' G)->PG (qO X (X.N++ext) scope cells a d H' j) tg (g.rd X.K)/\cy (λe t=>rX (qO X (X.N++ext) scope cells a d H' j) qE e t) ifs ts/\o7 (qO X (X.N++ext) scope cells a d H' j) gs cs/\∀A XV k,(⟨tg,iter,ifs,0⟩::gs:List cL)[k]?=J9->AY (qO X (X.N++ext) scope cells a d H' j) (ZB i ext.length (qM (⟨it0,g,ts⟩::cs)) A H') C A XV (C.ex (⟨tg,iter,ifs,0⟩::gs) scope pos) (⟨tg,iter,ifs,0⟩::gs) em k [])
  (hs:∀x,cb iter X.env x=pure x) (I:L2.Inv X YP i H s) (M:oP X.K H XV μ σ i) (c1:oN X.K H XV μ O)
  (q:Il C Ex X.K X.prog X.w H XV μ (BX ext.length it0 g ts cs em σ O)
   (λ(L:af)H'=>∀d a,L2.Inv X YP i H' d->(∃m,d.heap.Ns a m)->H' a=J9->a≠X.env.locals->X.s₀.heap.objs.size<=a->(∀x c,X.env.cells.lookup x=JU c->c≠a)->(∀p∈X.pn++YP,p.1≠a)->
    compPost (av X.prog X.w) X.A X.xe use Q (.ref L) a (.ok .next) d)):
  aq (av X.prog X.w) X.A (comprehension (C.ex (⟨tg,iter,ifs,0⟩::gs) scope pos) scope X.env qw C.new Kb (eval iter X.env) use) Q X.xe s:=by
 have qV:∀y∈scope.names,y.2=.free->∃c,X.env.cells.lookup y.1=JU c:=λy hy hf=>by
  obtain⟨n,k⟩:=y;subst hf;exact I.ok.has n (u.frees _ hy rfl)
 refine wpAny_comprehension_free (co.cl _ _ _) hs (Vz qV) u.kind (λx hx hl=>?_) ?_
 ·obtain⟨n,k⟩:=x;subst hl;exact Ao u.nd hx
 unfold BX at q;cases h:it0 σ O with
 |bad=>rw[h] at q;exact aj q
 | exc P O'=>
  rw[h] at q;refine qe (hi.out YP s i H (λJ o=>False) I ⟨XV,μ,σ,O,M,c1,by rw[h];exact q⟩) λv s1 S=>qe S λGI U Y=>?_;obtain⟨it,j,tn,J,H2,e,Z,T,qF,f2,z⟩:=Y;exact z.elim
 | ok src O2=>
  rw[h] at q;refine qe (hi.out YP s i H (λJ o=>∃r,Ext H μ o r/\oN X.K o XV r O2/\oU X.K J src o XV r) I ⟨XV,μ,σ,O,M,c1,by rw[h];exact λJ o r x c sa=>⟨r,x,c,sa⟩⟩) λv s1 S=>qe S λGI U Y=>?_;obtain⟨it,j,tn,J,H2,e,Z,T,qF,f2,qg,B,c2,sa⟩:=Y;subst e;have p:Il C Ex X.K X.prog X.w H XV μ (zE (qU src (vq ⟨it0,g,ts⟩ cs em (qD (σ++aR ext.length J9) (qM (⟨it0,g,ts⟩::cs)))) (src.size O2) 0 O2 [])) _:=q;cases E:zE (qU src (vq ⟨it0,g,ts⟩ cs em (qD (σ++aR ext.length J9) (qM (⟨it0,g,ts⟩::cs)))) (src.size O2) 0 O2 []) with
  |bad=>rw[E] at p;exact aj p
  |exc P O'=>exact(zhG E).elim
  | ok J7 O3=>
   rw[E] at p;refine zam co pZ u (λcells a=>tZ cells a _ _ _ Z f2 ⟨_,B⟩) Z (M.ext B) c2 T qF f2 sa (ziY E) λf d l=>?_;obtain⟨H',G,I',x',P,nL,nC,gv⟩:=l.inv;have:=p (U.heap.objs.size) H' G (B.none nL) (B.trans x') P gv d (U.heap.objs.size+1) I' l.ns nC l.loc l.young l.cel l.pns;cases use<;>exact this
def U8(c:oN K H (L::XV) μ O)(a:L∉XV)(h:H L=JU (.lst vs))(q:oO K H (L::XV) μ ds vs):J5 K H XV μ (.lst ds) (.ref L):=by exact⟨L,vs,rfl,.inl ⟨.inl h,a,λm=>c.nh L m 'k'⟩,q.mv .unhide⟩
mutual
theorem J5.swap:∀{d}{v},J5 K H (L::XV) μ d v->J5 K H XV (μ++[L]) d v
 |.non,_,h=>h
 |.bl _,_,h=>h
 |.int _,_,h=>h
 |.str _,_,h=>h
 | .lst ds,v,h=>by
  unfold J5 at h ⊢;obtain⟨a,c,r,l,q⟩:=h;refine⟨a,c,r,l.imp (λz=>⟨z.1,λm=>z.2.1 (ag _ m),λm=>?_⟩) id,oO.swap q⟩;rcases aO.mp m with m|m
  ·exact z.2.2 m
  ·exact z.2.1 (by simp at m;simp[m])
 | .tup ds,v,h=>by
  unfold J5 at h ⊢;obtain⟨a,c,r,l,q⟩:=h;refine⟨a,c,r,l.imp (λz=>⟨z.1,λm=>z.2.1 (ag _ m),λm=>?_⟩) id,oO.swap q⟩;rcases aO.mp m with m|m
  ·exact z.2.2 m
  ·exact z.2.1 (by simp at m;simp[m])
 | .own k,v,h=>by
  unfold J5 at h ⊢;obtain⟨a,r,q⟩:=h;exact⟨a,r,by rw[aH (ao.mp q).1];exact q⟩
 | .dct,v,h=>by
  unfold J5 at h ⊢;obtain⟨a,r,q,b,e⟩:=h;refine⟨a,r,q,λm=>b (ag _ m),λm=>?_⟩;rcases aO.mp m with m|m
  ·exact e m
  ·exact b (by simp at m;simp[m])
 | .exn C,v,h=>by
  unfold J5 at h ⊢;obtain⟨a,f,r,g,q,b,e⟩:=h;refine⟨a,f,r,g,q,λm=>b (ag _ m),λm=>?_⟩;rcases aO.mp m with m|m
  ·exact e m
  ·exact b (by simp at m;simp[m])
 | .tab P,v,h=>by
  unfold J5 at h ⊢;exact h
 | .map ks ds,v,h=>by
  unfold J5 at h ⊢;obtain⟨a,c,r,q,b,e,i,d⟩:=h;refine⟨a,c,r,q,λm=>b (ag _ m),λm=>?_,i,oO.swap d⟩;rcases aO.mp m with m|m
  ·exact e m
  ·exact b (by simp at m;simp[m])
 |.adr _,_,h=>h
theorem oO.swap:∀{ds}{vs},oO K H (L::XV) μ ds vs->oO K H XV (μ++[L]) ds vs
 |[],_,h=>h
 | d::ds,vs,h=>by
  unfold oO at h ⊢;obtain⟨v,r,a,b,c⟩:=h;exact⟨v,r,a,J5.swap b,oO.swap c⟩
end
def oN.swap(c:oN K H (L::XV) μ O)(f:L∉XV)(h:H L=JU (.lst vs))(q:oO K H (L::XV) μ ds vs):oN K H XV (μ++[L]) (O++[ds]):=by
 have g:L∉μ:=λm=>c.nh L m 'k';refine⟨by simp[c.len],?_,λa m=>?_,λa m=>c.ht a (ag _ m),λk a e=>?_⟩
 ·rw[eD];refine⟨c.nd,by simp,λa i b j=>?_⟩;have:b=L:=⇑j
  subst this;rintro rfl;exact g i
 ·rcases aO.mp m with m|m
  ·exact λz=>c.nh a m (ag _ z)
  ·have:a=L:=⇑m
   subst this;exact f
 ·by_cases d:k<μ.length
  ·rw[aH d] at e;obtain⟨l,n,o,p,r⟩:=c.at_ k a e;exact⟨l,n,by rw[aH (by rw[<- c.len];exact d)];exact o,p,r.swap⟩
  ·rw[bj 'd'] at e;have s:k-μ.length=0:=by
    have:=(ao.mp e).1;simp at this;lia
   rw[s] at e;simp at e;subst e;refine⟨ds,vs,?_,h,q.swap⟩;have:k=O.length:=by have:=c.len;lia
   subst this;simp
def Ext.grow(e:Ext H μ H' c_)(h:H L=jx):Ext H μ H' (c_++[L]):=by
 obtain⟨a,rfl⟩:=e.pre;refine⟨⟨a++[L],by simp⟩,e.kept,λb m=>?_,e.there,e.tab⟩;rcases aO.mp m with m|m
 ·exact e.fresh b m
 ·have:b=L:=⇑m
  subst this;exact .inr h
def w_(o:Bool)(r:R (List D)):R D:=r.bnd λJ7 O1=>if o=Ka then .ok (.own O1.length) (O1++[J7]) else .ok (.lst J7) O1
def T8(f:oN K H XV μ O)(q:rP Ex K H XV μ (w_ o r) Q)(h:∀L H',Q (.ref L) H'->Q1 L H'):Il (CF elt) Ex K P w H XV μ r Q1:=by
 cases r with
 |bad=>exact q
 |exc c' O'=>exact q
 | ok J7 O'=>
  intro L H' g a x c ⟨i,b,d⟩;have e:L∉XV:=λm=>f.ht L m a;cases o with
  |false=>exact h L H' (post.ok (q) x c.unhide (U8 c e b d))
  |true=>exact h L H' (post.ok (q) (x.grow a) (c.swap e b d) (F8 c.len))
def zba(l:oN K H XV μ O)(b:oP K H XV μ σ a_)(q:oR Ex K H XV μ ((w_ o r).bnS λd O1=>.nx (σ.set i (JU d)) O1) E)(h:∀L H',E.nx (a_.set i (JU (.ref L))) H'->Q1 L H'):
  Il (CF elt) Ex K P w H XV μ r Q1:=by
 cases r with
 |bad=>exact q
 |exc c' O'=>exact q
 | ok J7 O'=>
  intro L H' e a x c ⟨n,f,g⟩;have j:L∉XV:=λm=>l.ht L m a;cases o with
  | false=>
   exact h L H' (q _ H' e x ((b.ext x).set (U8 c j f g) i) c.unhide)
  | true=>
   exact h L H' (q _ H' (e++[L]) (x.grow a) ((b.ext (x.grow a)).set (F8 c.len) i) (c.swap j f g))
def KN{elt tg iter}{ifs}{gs}{scope}{pos}{ext}{g:Tg}{ts}{cs}{te}{Z:af->Hp->St->Hp->List af->Prop}
  (b:∀cells C s H a,PG (qO X (X.N++ext) scope cells C s H a) tg (g.rd X.K)/\cy (λe t=>rX (qO X (X.N++ext) scope cells C s H a) qE e t) ifs ts/\o7 (qO X (X.N++ext) scope cells C s H a) gs cs/\PD (qO X (X.N++ext) scope cells C s H a) qE elt te) (cells Cn s H a):
  PG (qO X (X.N++ext) scope cells Cn s H a) tg (g.rd X.K)/\cy (λe t=>rX (qO X (X.N++ext) scope cells Cn s H a) qE e t) ifs ts/\o7 (qO X (X.N++ext) scope cells Cn s H a) gs cs/\∀A XV k,(⟨tg,iter,ifs,0⟩::gs:List cL)[k]?=J9->AY (qO X (X.N++ext) scope cells Cn s H a) (Z A H) (CF elt) A XV ((CF elt).ex (⟨tg,iter,ifs,0⟩::gs) scope pos) (⟨tg,iter,ifs,0⟩::gs) (Bw te) k []:=
 let ⟨h1,h2,h3,h4⟩:=b cells Cn s H a
 ⟨h1,h2,h3,λ_ _ _ c=>zet rfl h4.z c⟩
def qA(o:Bool)(ext:Nat)(it0:DI)(g:Tg)(ts:List DT)(cs:List Cl)(te:DE):DE:=λσ O=>w_ o (BS ext it0 g ts cs te σ O)
def zgJ(o)(ext:List aA)(d:X.calm=Ka)(f:ud X Ex tg iter it0)(h:yJ X.env.scope scope (X.N++ext) (qM (⟨it0,g,ts⟩::cs)))
  (i:∀cells C s H a,PG (qO X (X.N++ext) scope cells C s H a) tg (g.rd X.K)/\cy (λe t=>rX (qO X (X.N++ext) scope cells C s H a) qE e t) ifs ts/\o7 (qO X (X.N++ext) scope cells C s H a) gs cs/\PD (qO X (X.N++ext) scope cells C s H a) qE elt te)
  (j:∀x,cb iter X.env x=pure x:=by intro _;rfl):PD X Ex (.ListComp elt (⟨tg,iter,ifs,0⟩::gs) scope pos) (qA o ext.length it0 g ts cs te):=by refine⟨?_⟩;rintro b s P H Q I ⟨l,S,U,O,n,c,q⟩;unfold qA at q;rw[<- MO] at q;refine FZ (Mc elt) d f h (λcells p s H a _ _ _=>KN i cells p s H a) j I n c (T8 c q λL r u Y C v w y A B E G=>?_);obtain⟨m,J⟩:=w;exact⟨m,J,λZ M=>⟨.ref L,r,Inv.bare v M y A B E G,rfl,u⟩⟩
def z7P(o)(ext)(u:X.calm=Ka)(w:X.N.Nodup)(A:X.N[i]?=JU y)(f:X.env.scope.names.lookup y=JU .local)
  (B:ud X Ex tg iter it0) (G:yJ X.env.scope scope (X.N++ext) (qM (⟨it0,g,ts⟩::cs)))
  (J:∀cells C s H b,PG (qO X (X.N++ext) scope cells C s H b) tg (g.rd X.K)/\cy (λe t=>rX (qO X (X.N++ext) scope cells C s H b) qE e t) ifs ts/\o7 (qO X (X.N++ext) scope cells C s H b) gs cs/\PD (qO X (X.N++ext) scope cells C s H b) qE elt te)
  (M:swapsWith (.ListComp elt (⟨tg,iter,ifs,0⟩::gs) scope pos) (JU (.Name y py)) sR.line X.env=pure Ka)
  (P:∀x,cb iter X.env x=pure x:=by intro _;rfl):vI X Ex (.Assign [.Name y py] (.ListComp elt (⟨tg,iter,ifs,0⟩::gs) scope pos) sR) (qH i (qA o ext.length it0 g ts cs te)):=by
 refine⟨?_⟩;rintro h s a_ H E I ⟨c,Q,j,O,l,n,q⟩;rw[iU _ _ _ _ M];refine aa (fx (aa ?_));have q:oR Ex X.K H c Q ((w_ o (BS ext.length it0 g ts cs te j O)).bnS λd S=>.nx (j.set i (JU d)) S) E:=q;rw[<- MO] at q;refine aa (cG (FZ (Mc elt) u B G (λcells U s H b _ _ _=>KN J cells U s H b) P I l n (zba n l q λL Y Z s' C I' ns nC p y1 r pn=>?_)) (λ_ s' hq=>ah (ah hq)) λ_ _ e=>e);obtain⟨m,hn⟩:=ns;refine iC (Jj (v:=.ref L) I' w A (.inl f) rfl (λvw HD vS=>?_) (.inr f));obtain⟨a,Dk,ha⟩:=vS;have Hm:C≠a:=by
  rcases ha with z|z
  ·rw[z];exact p
  ·exact λe=>r y a z e.symm
 refine⟨m,hn.sameBut Dk Hm,λh' Bf=>?_⟩;exact⟨_,Y,Inv.bare HD Bf nC p y1 r pn,Z⟩
end
noncomputable def qo{α β:Type}(f:α->Option β):List α->Option (List β)
 |[]=>JU []
 | x::xs=>match f x,qo f xs with
  |some p,JU ps=>JU (p::ps)
  |_,_=>J9
def Ac(cs:k_):Option eQ:=if cs.all (· < 1114112)=Ka then JU (.str ⟨cs.toArray⟩) else J9
def qZ(O:Ow):Nat->D->Option eQ
 | 0,d=>match d with
  |.non=>JU .none
  |.bl b=>JU (.bool b)
  |.int i=>JU (.int i)
  |.str cs=>Ac cs
  |_=>J9
 | n+1,d=>match d with
  |.non=>JU .none
  |.bl b=>JU (.bool b)
  |.int i=>JU (.int i)
  |.str cs=>Ac cs
  |.lst ds=>(qo (qZ O n) ds).map .list
  |.tup ds=>(qo (qZ O n) ds).map .tuple
  | .own k=>match O[k]? with
   |some ds=>(qo (qZ O n) ds).map .list
   |none=>J9
  |.dct=>J9
  |.exn _=>J9
  |.tab _=>J9
  |.map _ _=>J9
  |.adr _=>J9
section
variable{s:ai}
theorem Jt(I:L2.Inv X YP a_ H s)(b:∀(d)(v)(u)(p),J5 X.K H XV μ d v->RelV v u->qZ O n d=JU p->∃a,Reads s.heap u p a/\p.canLay0=Ka/\p.depth<=n):
  ∀(ds)(vs)(us)(ps:List eQ),oO X.K H XV μ ds vs->oQ vs us->qo (qZ O n) ds=JU ps->∃a,ReadsAll s.heap us ps a/\mJ ps=Ka/\nO ps<=n
 | [],vs,us,ps,h,r,e=>by
  unfold oO at h;subst h;cases r;cases e;exact⟨[],.nil,rfl,bO _⟩
 | d::ds,vs,us,ps,h,r,e=>by
  obtain⟨v,t,rfl,c,f⟩:=h;cases r with
  | cons r1 r2=>
   unfold qo at e;split at e
   ·rename_i p g i j;cases e;obtain⟨a,l,m,o⟩:=b d v _ p c r1 i;obtain⟨q,w,x,y⟩:=Jt I b ds t _ g f r2 j;refine⟨a++q,.cons l w,?_,?_⟩
    ·unfold mJ;rw[m,x];rfl
    ·unfold nO;exact Nat.max_le.mpr ⟨o,y⟩
   ·cases e
def UU(e:Ac cs=JU p):∃a,Reads s.heap (.str ⟨cs.toArray⟩ t) p a/\p.canLay0=Ka/\p.depth<=n:=by
 unfold Ac at e;split at e
 ·rename_i b;cases e;exact⟨[],.str _ _,by unfold jn PyData.strOk;simpa using b,bO _⟩
 ·cases e
def BU(I:L2.Inv X YP a_ H s)(c:oN X.K H XV μ O):∀(n)(d)(v)(u)(p:eQ),J5 X.K H XV μ d v->RelV v u->qZ O n d=JU p->∃C,Reads s.heap u p C/\p.canLay0=Ka/\p.depth<=n:=by
 intro n
 induction n with
 | zero=>
  intro d v u p h r e;cases d with
  |non=>unfold J5 at h;subst h;cases r;cases e;exact⟨[],.none,rfl,bO _⟩
  |bl b=>unfold J5 at h;subst h;cases r;cases e;exact⟨[],.bool _,rfl,bO _⟩
  |int b=>unfold J5 at h;subst h;obtain⟨t,rfl⟩:=r;cases e;exact⟨[],.int _ _,rfl,bO _⟩
  | str cs=>
   unfold J5 at h;subst h;obtain⟨t,rfl⟩:=r;exact UU (e)
  |_=>cases e
 | succ n ih=>
  intro d v u p h r e;cases d with
  |non=>unfold J5 at h;subst h;cases r;cases e;exact⟨[],.none,rfl,bO _⟩
  |bl b=>unfold J5 at h;subst h;cases r;cases e;exact⟨[],.bool _,rfl,bO _⟩
  |int b=>unfold J5 at h;subst h;obtain⟨t,rfl⟩:=r;cases e;exact⟨[],.int _ _,rfl,bO _⟩
  | str cs=>
   unfold J5 at h;subst h;obtain⟨t,rfl⟩:=r;exact UU (e)
  | lst f=>
   obtain⟨a,i,rfl,l,q⟩:=h;cases r;have e:(qo (qZ O n) f).map fy=JU p:=e;cases g:qo (qZ O n) f with
   |none=>rw[g] at e;cases e
   | some ps=>
    rw[g] at e;cases e;obtain⟨j,m,⟨o,k,w,x,J,y⟩,E⟩:=I.list l.sq;obtain⟨C,A,B,G⟩:=Jt I ih f i j ps q m g;exact⟨_,.list w x y ⇑A,by unfold jn;exact B,by unfold mm;lia⟩
  | tup f=>
   obtain⟨a,i,rfl,l,q⟩:=h;cases r;have e:(qo (qZ O n) f).map ip=JU p:=e;cases g:qo (qZ O n) f with
   |none=>rw[g] at e;cases e
   | some ps=>
    rw[g] at e;cases e;obtain⟨j,m,⟨o,w,x,k,y⟩,E⟩:=I.tuple l.sq;obtain⟨C,A,B,G⟩:=Jt I ih f i j ps q m g;exact⟨_,.tuple w x y ⇑A,by unfold jn;exact B,by unfold mm;lia⟩
  | own k=>
   obtain⟨a,rfl,L⟩:=h;cases r;obtain⟨f,i,M,N,P⟩:=c.at_ k a L;have e:(match O[k]? with|some f=>(qo (qZ O n) f).map fy|none=>J9)=JU p:=e;rw[M] at e;cases g:qo (qZ O n) f with
   |none=>simp only[g] at e;cases e
   | some ps=>
    simp only[g] at e;cases e;obtain⟨j,m,⟨o,Q,w,x,J,y⟩,E⟩:=I.list (.of N);obtain⟨C,A,B,G⟩:=Jt I ih f i j ps P m g;exact⟨_,.list w x y ⇑A,by unfold jn;exact B,by unfold mm;lia⟩
  |dct=>cases e
  |exn _=>cases e
  |tab _=>cases e
  |map _ _=>cases e
  |adr _=>cases e
end
def py(O:Ow)(d:D):Option eQ:=qZ O 8 d
def A8(K:ak)(f:eQ->eQ->Option Bool):R2:=λv w H Q=>∃XV μ O x y a b k,oN K H XV μ O/\J5 K H XV μ x v/\J5 K H XV μ y w/\py O x=JU a/\py O y=JU b/\f a b=JU k/\Q (.bl k) H
def qf(f:eQ->eQ->Option Bool):Ow->D->D->R D:=λO x y=>match py O x,py O y with
 | some a,JU b=>match f a b with
  |some k=>.ok (.bl k) O
  |none=>.bad
 |_,_=>.bad
section
def Ej:tM X Ex (A8 X.K f) (qf f):=by
 intro H d e O x y v w Q c g h q;unfold qf at q;split at q
 ·rename_i a b i j;split at q
  ·rename_i k l;exact⟨d,e,O,x,y,a,b,k,c,g,h,i,j,l,post.here q c vN⟩
  ·exact aj q
 ·exact aj q
def rB:eQ->eQ->Option Bool:=λa b=>JU (br a b)
def sD:eQ->eQ->Option Bool:=λa b=>JU (!PyData.eqv a b)
def B8:eQ->eQ->Option Bool:=λa b=>match b with
 |.list xs=>JU (xs.any λy=>br y a)
 |.tuple xs=>JU (xs.any λy=>br y a)
 |_=>J9
def D5:eQ->eQ->Option Bool:=λa b=>match b with
 |.list xs=>JU (!xs.any λy=>br y a)
 |.tuple xs=>JU (!xs.any λy=>br y a)
 |_=>J9
def IW(a:p.canLay0=Ka)(b:p.depth<=8):oE p=Ka:=by unfold oE;rw[a,decide_eq_true (show p.depth<=64 by lia)];rfl
def Sj(e:X.A.units+64<cLine):rg X (cN .Eq) (A8 X.K rB):=by intro d s J H x y v u Q I f g h;obtain⟨i,L,O,j,l,a,b,k,c,m,n,o,p,r,q⟩:=h;obtain⟨M,t,w,B⟩:=BU I c 8 j x v a m f o;obtain⟨N,C,E,G⟩:=BU I c 8 l y u b n g p;cases r;exact PyProof.Rows.eq_dataH t C (IW w B) (IW E G) e ⟨.bl _,H,I,rfl,q⟩
def Si(e:X.A.units+64<cLine):rg X (cN .NotEq) (A8 X.K sD):=by intro d s J H x y v u Q I f g h;obtain⟨i,L,O,j,l,a,b,k,c,m,n,o,p,r,q⟩:=h;obtain⟨M,t,w,B⟩:=BU I c 8 j x v a m f o;obtain⟨N,C,E,G⟩:=BU I c 8 l y u b n g p;cases r;exact PyProof.Rows.ne_dataH t C (IW w B) (IW E G) e ⟨.bl _,H,I,rfl,q⟩
def HX{A:bD}{n m}(h:m<=8)(a:A.units+64<cLine):A.units+1+min n m<cLine:=by lia
def zhH(e:X.A.units+64<cLine):rg X (cN .In) (A8 X.K B8):=by
 intro f s G H x y v u Q I n o h;obtain⟨p,J,O,r,t,a,b,k,c,w,B,C,E,d,q⟩:=h;obtain⟨L,g,i,j⟩:=BU I c 8 r x v a w n C;obtain⟨M,l,m,N⟩:=BU I c 8 t y u b B o E;cases b with
 |list xs=>cases d;exact SeqAt.in_list_reads l g m i (HX j e) ⟨.bl _,H,I,rfl,q⟩
 |tuple xs=>cases d;exact SeqAt.in_tuple_reads l g m i (HX j e) ⟨.bl _,H,I,rfl,q⟩
 |_=>cases d
def zeL(e:X.A.units+64<cLine):rg X (cN .NotIn) (A8 X.K D5):=by
 intro f s G H x y v u Q I n o h;obtain⟨p,J,O,r,t,a,b,k,c,w,B,C,E,d,q⟩:=h;obtain⟨L,g,i,j⟩:=BU I c 8 r x v a w n C;obtain⟨M,l,m,N⟩:=BU I c 8 t y u b B o E;cases b with
 |list xs=>cases d;exact SeqAt.notIn_list_reads l g m i (HX j e) ⟨.bl _,H,I,rfl,q⟩
 |tuple xs=>cases d;exact SeqAt.notIn_tuple_reads l g m i (HX j e) ⟨.bl _,H,I,rfl,q⟩
 |_=>cases d
end
end DL
namespace DL
open PySem L2
section
noncomputable def sE(O:Ow):D->Option (List D)
 |.lst ds=>JU ds
 |.own k=>O[k]?
 |_=>J9
def A7:D->Option (List D)
 |.tup ds=>JU ds
 |_=>J9
def xg(b:oN K H XV μ O)(h:J5 K H XV μ d v)(e:sE O d=JU ds):∃p a,v=.ref p/\qS K H p a/\oO K H XV μ ds a:=by
 cases d with
 | lst xs=>
  obtain⟨p,a,rfl,l,q⟩:=h;cases e;exact⟨p,a,rfl,l.sq,q⟩
 | own k=>
  obtain⟨p,rfl,c⟩:=h;obtain⟨j,a,f,g,i⟩:=b.at_ k p c;have e:O[k]?=JU ds:=e;rw[f] at e;cases e;exact⟨p,a,rfl,.of g,i⟩
 |_=>cases e
def BO(h:J5 K H XV μ d v)(e:A7 d=JU ds):∃p a,v=.ref p/\sH K H p a/\oO K H XV μ ds a:=by
 cases d with
 | tup xs=>
  obtain⟨p,a,rfl,l,q⟩:=h;cases e;exact⟨p,a,rfl,l.sq,q⟩
 |_=>cases e
def zmF:Ow->D->D->R D:=λO x y=>match x,y with
 |.str s,.str t=>if s.length+t.length<=4000000 then .ok (.str (s++t)) O else .bad
 |_,_=>.bad
end
def Ug(h:oO K H XV μ ds vs)(e:atI ds i=JU d):∃v,atI vs i=JU v/\J5 K H XV μ d v:=by
 unfold atI at e ⊢;rw[<- h.length];cases q:ixN ds.length i with
 |none=>rw[q] at e;cases e
 |some j=>rw[q] at e;exact h.get e
def qJ:Ow->D->D->R D:=λO x y=>match y with
 | .int i=>match sE O x with
  | some ds=>match atI ds i with
   |some d=>.ok d O
   |none=>.bad
  | none=>match A7 x with
   | some ds=>match atI ds i with
    |some d=>.ok d O
    |none=>.bad
   | none=>match x with
    | .str cs=>if cs.length<=4000000 then match atI cs i with
      |some ch=>.ok (.str [ch]) O
      |none=>.bad
     else .bad
    |_=>.bad
 |_=>.bad
section
def ziU:tM X Ex (VZ X.K) qJ:=by
 intro H n u O x y v w Q c b m q;unfold qJ at q;split at q
 ·rename_i i;unfold J5 at m;subst m;split at q
  ·rename_i o e;obtain⟨p,f,rfl,g,h⟩:=xg c b e;split at q
   ·rename_i d a;obtain⟨z,j,l⟩:=Ug h a;exact .inl ⟨p,f,i,z,rfl,rfl,g,j,post.here q c l⟩
   ·exact aj q
  ·split at q
   ·rename_i o e;obtain⟨p,f,rfl,g,h⟩:=BO b e;split at q
    ·rename_i d a;obtain⟨z,j,l⟩:=Ug h a;exact .inr (.inl ⟨p,f,i,z,rfl,rfl,g,j,post.here q c l⟩)
    ·exact aj q
   ·split at q
    ·rename_i r _ _;unfold J5 at b;subst b;obtain⟨s,q⟩:=post.ite q;split at q
     ·rename_i t a;refine .inr (.inr ⟨_,i,t,rfl,rfl,?_,?_,post.here q c LC⟩)
      ·show r.toArray.size<=_;rw[aS];exact Am s
      ·simpa using a
     ·exact aj q
    ·exact aj q
 ·exact aj q
def Yh(c:PD X Ex a ta)(d:PD X Ex b tb)(e:Sh b):PD X Ex (.Subscript a b pos) (i_ qJ ta tb):=sJ (X3 ziX c.out d.out e) (Iz ziU)
def qh(f:Ow->List D->R D)(t:DA):DE:=λσ O=>(t σ O).bnd λxs O1=>f O1 xs
def vp(X:Cx)(Ex:Nat->Hp->Prop)(r:List V->Hp->VK->Prop)(f:Ow->List D->R D):Prop:=∀(H)(XV μ)(O)(xs)(vs)(Q),oN X.K H XV μ O->oO X.K H XV μ xs vs->rP Ex X.K H XV μ (f O xs) Q->r vs H Q
def RH(h:vp X Ex r f)(XV μ)(σ)(O)(a_)(H)(Q:VK)(a:oP X.K H XV μ σ a_)(b:oN X.K H XV μ O)(q:rP Ex X.K H XV μ (qh f t σ O) Q):JV r (vA Ex X.K t) a_ H Q:=
 vA.go a b q λe g i j l m x c d p=>h j XV l g e i Q c d p
def zdu{x}{id}{p}{es}{r:List V->Hp->VK->Prop}{f:Ow->List D->R D}{t:DA}(a:oY X (.builtin id) r)(h:vp X Ex r f)(b:Gl X x)(c:X.mg x=J9)(d:bA x=JU (.builtin id))(g:uS X Ex (e::es) t)
  (i:x ≠ "__name__":=by decide) (j:sU x:=by decide) (l:aL (e::es) X.env=(Kb,eval e X.env)::aL es X.env:=by rfl) (m:(backTo pos (aL es X.env)).any (·.1)=Kb:=by rfl):
  PD X Ex (.Call (.Name x p) (e::es) [] pos) (qh f t):=sJ (Jc a b c d g.out i j l m) (RH h)
def Jm(a:oY X (.type T) r)(h:vp X Ex r f)(b:Gl X x)(c:X.mg x=J9)(d:bA x=JU (.type T))(g:uS X Ex (e::es) t)
  (i:x ≠ "__name__":=by decide) (j:sU x:=by decide) (l:aL (e::es) X.env=(Kb,eval e X.env)::aL es X.env:=by rfl) (m:(backTo pos (aL es X.env)).any (·.1)=Kb:=by rfl):
  PD X Ex (.Call (.Name x p) (e::es) [] pos) (qh f t):=sJ (MJ a b c d g.out i j l m) (RH h)
def rL:Ow->List D->R D:=λO xs=>match xs with
 | [x]=>match sE O x with
  |some ds=>.ok (.int ds.length) O
  | none=>match A7 x with
   |some ds=>.ok (.int ds.length) O
   | none=>match x with
    |.str cs=>if cs.length<=4000000 then .ok (.int cs.length) O else .bad
    |_=>.bad
 |_=>.bad
def YH:vp X Ex (λxs H Q=>∃x n,xs=[x]/\Qr X.K x H n/\Q (.int n) H) rL:=by
 intro H j m O xs o Q c d q;unfold rL at q;split at q
 ·rename_i x;obtain⟨v,rfl,a⟩:=uz d;split at q
  ·rename_i f e;obtain⟨p,g,rfl,h,i⟩:=xg c a e;exact⟨_,f.length,rfl,.inl ⟨g,h,i.length⟩,post.here q c s9⟩
  ·split at q
   ·rename_i f e;obtain⟨p,g,rfl,h,i⟩:=BO a e;exact⟨_,f.length,rfl,.inr ⟨g,h,i.length⟩,post.here q c s9⟩
   ·split at q
    ·rename_i b _ _;unfold J5 at a;subst a;obtain⟨l,q⟩:=post.ite q;refine⟨_,b.length,rfl,⟨?_,?_⟩,post.here q c s9⟩
     ·show b.toArray.size<=_;rw[aS];exact Am l
     ·show b.length=b.toArray.size;rw[aS]
    ·exact aj q
 ·exact aj q
noncomputable def KR:Ow->List D->R D:=λO xs=>match xs with
 |[.int i]=>.ok (.int i) O
 |[.bl k]=>.ok (.int (if k then 1 else 0)) O
 |_=>.bad
def Zp:vp X Ex (λxs H Q=>(∃i,xs=[.int i]/\Q (.int i) H) \/ ∃k,xs=[.bl k]/\Q (.int (if k then 1 else 0)) H) KR:=by
 intro H b e O xs f Q c d q;unfold KR at q;split at q
 ·obtain⟨v,rfl,a⟩:=uz d;unfold J5 at a;subst a;exact .inl ⟨_,rfl,post.here q c s9⟩
 ·obtain⟨v,rfl,a⟩:=uz d;unfold J5 at a;subst a;exact .inr ⟨_,rfl,post.here q c s9⟩
 ·exact aj q
def BL:Ow->List D->R D:=λO xs=>match xs with
 | [x]=>match sE O x with
  |some ds=>.ok (.tup ds) O
  | none=>match A7 x with
   |some ds=>.ok (.tup ds) O
   |none=>.bad
 |_=>.bad
def zdG:vp X Ex (λxs H Q=>∃p a,xs=[.ref p]/\((qS X.K H p a/\∀l,H l=J9->Q (.ref l) (upd H l (.tup a)))\/(sH X.K H p a/\Q (.ref p) H))) BL:=by
 intro H j n O xs o Q c d q;unfold BL at q;split at q
 ·rename_i x;obtain⟨v,rfl,b⟩:=uz d;split at q
  ·rename_i m e;obtain⟨p,f,rfl,g,i⟩:=xg c b e;exact⟨p,f,rfl,.inl ⟨g,λl h=>post.ok q (.laid h) (c.laid h) (J5.newT c h i)⟩⟩
  ·split at q
   ·rename_i m e;obtain⟨p,f,rfl,g,i⟩:=BO b e;refine⟨p,f,rfl,.inr ⟨g,post.here q c ?_⟩⟩;cases x with
    |tup a=>cases e;exact b
    |_=>cases e
   ·exact aj q
 ·exact aj q
def Ic(o:Bool):Ow->List D->R D:=λO xs=>match xs with
 | [x]=>match (match sE O x with|some ds=>JU ds|none=>A7 x) with
  |some ds=>if o=Ka then .ok (.own O.length) (O++[ds]) else .ok (.lst ds) O
  |none=>.bad
 |_=>.bad
def zhi(o:Bool):vp X Ex (λxs H Q=>∃p i,xs=[.ref p]/\(qS X.K H p i\/sH X.K H p i)/\∀l,H l=J9->Q (.ref l) (upd H l (.lst i))) (Ic o):=by
 intro H j s O xs u Q c d q;unfold Ic at q;split at q
 ·rename_i x;obtain⟨v,rfl,r⟩:=uz d;split at q
  ·rename_i t e;have h:∃p a,v=.ref p/\(qS X.K H p a\/sH X.K H p a)/\oO X.K H j s t a:=by
    cases m:sE O x with
    | some es=>
     rw[m] at e;cases e;obtain⟨p,a,n,f,b⟩:=xg c r m;exact⟨p,a,n,.inl f,b⟩
    | none=>
     rw[m] at e;obtain⟨p,a,n,f,b⟩:=BO r e;exact⟨p,a,n,.inr f,b⟩
   obtain⟨p,a,rfl,f,b⟩:=h;refine⟨p,a,rfl,f,λl g=>?_⟩;cases o with
   |true=>exact post.ok (q) (.cell g) (c.cell g b) (F8 c.len)
   |false=>exact post.ok (q) (.laid g) (c.laid g) (J5.newL c g b)
  ·exact aj q
 ·exact aj q
def Ed:Ow->List D->R D:=λO xs=>match xs with
 |[.int i,.int j]=>.ok (.int (if j>i then j else i)) O
 |_=>.bad
def CK:Ow->List D->R D:=λO xs=>match xs with
 |[.int i,.int j]=>.ok (.int (if j<i then j else i)) O
 |_=>.bad
def zgr:vp X Ex (λxs H Q=>∃i j,xs=[.int i,.int j]/\Q (.int (if j>i then j else i)) H) Ed:=by
 intro H e f O xs g Q c d q;unfold Ed at q;split at q
 ·obtain⟨v,w,rfl,a,b⟩:=CD d;unfold J5 at a b;subst a;subst b;exact⟨_,_,rfl,post.here q c s9⟩
 ·exact aj q
def zgU:vp X Ex (λxs H Q=>∃i j,xs=[.int i,.int j]/\Q (.int (if j<i then j else i)) H) CK:=by
 intro H e f O xs g Q c d q;unfold CK at q;split at q
 ·obtain⟨v,w,rfl,a,b⟩:=CD d;unfold J5 at a b;subst a;subst b;exact⟨_,_,rfl,post.here q c s9⟩
 ·exact aj q
end
abbrev qx:=List D->Ow->R D
noncomputable def KD(K:ak)(Ec:XK->Nat->Hp->Prop)(n:Nat)(F:qx):Sp:=λvs H Q E=>vs.length=n/\∃XV μ ds O,oO K H XV μ ds vs/\oN K H XV μ O/\rP (Ec E) K H XV μ (F ds O) Q
abbrev Bz:XK->Nat->Hp->Prop:=λ_ _ _=>False
section
noncomputable def n_(n:Nat)(F:qx)(t:DA):DE:=λσ O=>(t σ O).bnd λds O1=>if ds.length=n then F ds O1 else .bad
def X8(G:o5 X.prog X.w X.K X.mg X.base CX k f fd ps (KD X.K Ec n F))(d:oW k X.A)(g:Gl X x)(h:X.mg x=JU (.ref f))(i:cU X.K (.ref f)=Ka)(j:Binds X.K fd ps [])(l:Iw CX X E)(m:uS X (Ec E) (e::es) t)
  (o:sU x:=by decide) (r:aL (e::es) X.env=(Kb,eval e X.env)::aL es X.env:=by rfl) (s:(backTo pos (aL es X.env)).any (·.1)=Kb:=by rfl):
  PD X (Ec E) (.Call (.Name x p) (e::es) [] pos) (n_ n F t):=
 sJ (IL G d g h i j .nil l m.out o r s) λa L M O N H Q u v q=>vA.go u v q λy B P S C U Y I c b=>by
  obtain⟨J,b⟩:=post.ite b;refine⟨by rw[bX,<- c.length];exact J,a,C,y,B,?_,I,b⟩;rw[bX];exact c
end
noncomputable def fin(r:RS):R D:=match r with
 |.nx _ O=>.ok .non O
 |.rt d O=>.ok d O
 |.exc c O=>.exc c O
 |_=>.bad
def q_(n:Nat)(t:DS):qx:=λds O=>fin (t (ds.map JU++aR (n-ds.length) J9) O)
def Vq(h:oO K H XV μ ds vs)(N):oP K H XV μ (ds.map JU++aR (N.length-ds.length) J9) (L2.start N vs):=by
 unfold L2.start;have b:=h.length;refine⟨by simp[b],λi d e=>?_⟩;have a:i<ds.length:=by
  by_cases a:i<ds.length
  ·exact a
  ·rw[bj ⇑a,gp] at e;split at e<;>cases e
 rw[aH ⇑a,aZ] at e;cases q:ds[i]? with
 |none=>rw[q] at e;cases e
 | some d'=>
  rw[q] at e;cases e;obtain⟨v,c,f⟩:=h.get q;exact⟨v,by rw[aH (by simp;lia),aZ,c];rfl,f⟩
abbrev Cp(P:aU)(w:be)(K:ak)(mg:aA->Option ae)(base:aX)(N:List aA)(qual:aA)(scope:dS)(f:af)(qk:ae)(A:bD)(outer:List Env)(s:ai)(H:Hp)(E:XK):Cx:=
 (CA (λ_ _ _ _ _ _=>False) P w K mg base N qual scope f qk A outer s H E).nox
def Ye{P}{w}{K}{l:aA->Option ae}{base}{k}{f}{name qual}{params}{body}{scope}{dV kV doc pm qk ct oc}{an od}{u_}{N ps}{t}
  (n:K.lookup f=JU ⟨oc,od,.func (ck name qual params body scope dV kV doc pm an qk ct),u_⟩) (o:fC K qk qual=Ka) (S:vt N ps scope)
  (p:∀(A)(a)(s)(H:Hp)(E:XK),oW k (A.deeper (d8 qual scope s.heap.objs.size f qk))->ue (Cp P w K l base N qual scope f qk A a s H E) qE body t):
  o5 P w K l base (λ_ _ _ _ _ _=>False) (k+1) f (ck name qual params body scope dV kV doc pm an qk ct) ps (KD K Bz ps.length (q_ N.length t)):=by
 refine qz n o S (λu H Q E h=>h.1) λA a s H u Q E y h=>?_;obtain⟨G,j,B,m,O,d,c,q⟩:=h;refine⟨_,(p A a s H E y).out.nox,j,B,_,O,Vq d N,c,?_⟩;unfold q_ at q;generalize t (m.map JU++aR (N.length-m.length) J9) O=r at q;cases r with
 |nx σ O'=>exact λI b g x e i=>q .non b g x i IJ
 |rt d' O'=>exact λv b g x i r=>q v b g x i r
 |bk σ O'=>exact aj q
 |ct σ O'=>exact aj q
 |exc i O'=>exact λb g x C=>q b g x C
 |bad=>exact aj q
noncomputable def xO:D->String
 |.non => "NoneType"
 |.bl _ => "bool"
 |.int _ => "int"
 |.str _ => "str"
 |.lst _ => "list"
 |.own _ => "list"
 |.tup _ => "tuple"
 |.dct => "dict"
 |.exn _ => "exception"
 |.tab _ => "bool"
 |.map _ _ => "dict"
 |.adr _ => "function"
def Aa(t c:String):Bool:=t==c||(t == "bool" && c == "int")
section
def yU:List String:=["NoneType", "bool", "int", "str", "list", "tuple", "dict"]
def Aj(K){t c}(a:t∈yU)(b:c∈["int", "bool", "str", "list", "tuple", "dict"]):lc K (.type t) (.type c)=JU (Aa t c):=by simp only[yU,am,bB,or_false] at a b;rcases a with rfl|rfl|rfl|rfl|rfl|rfl|rfl<;>rcases b with rfl|rfl|rfl|rfl|rfl|rfl<;>first|rfl|decide
def Vn{v}{u}{d}(I:L2.Inv X YP a_ H s)(A:oN X.K H XV μ O)(h:J5 X.K H XV μ d v)(r:RelV v u)(B:(xO d == "function")=Kb):∃(T:ae)(m:aX->Prop),PySem.W.KitX X.K u T m/\m s.heap/\u ≠ .builtin "__main__.__loader__#opaque"/\∀c∈(["int", "bool", "str", "list", "tuple", "dict"]:List String),lc X.K T (.type c)=JU (Aa (xO d) c):=by
 cases d with
 |non=>unfold J5 at h;subst h;cases r;exact⟨.type "NoneType",_,PySem.W.kitx_none,eV,(λz=>nomatch z),λc a=>Aj X.K (by simp[yU]) a⟩
 |bl _=>unfold J5 at h;subst h;cases r;exact⟨.type "bool",_,mK,eV,(λz=>nomatch z),λc a=>Aj X.K (by simp[yU]) a⟩
 |int _=>unfold J5 at h;subst h;obtain⟨t,rfl⟩:=r;exact⟨.type "int",_,PySem.W.kitx_int,eV,(λz=>nomatch z),λc a=>Aj X.K (by simp[yU]) a⟩
 |str _=>unfold J5 at h;subst h;obtain⟨t,rfl⟩:=r;exact⟨.type "str",_,PySem.W.kitx_str,eV,(λz=>nomatch z),λc a=>Aj X.K (by simp[yU]) a⟩
 | lst j=>
  obtain⟨p,f,rfl,l,q⟩:=h;cases r;obtain⟨w,x,⟨o,n,e,b,_⟩,_⟩:=I.list l.sq;exact⟨.type "list",_,mL,⟨o,e,b⟩,(λz=>nomatch z),λc a=>Aj X.K (by simp[yU]) a⟩
 | own k=>
  obtain⟨p,rfl,E⟩:=h;cases r;obtain⟨j,f,_,b,_⟩:=A.at_ k p E;obtain⟨w,x,⟨o,n,e,b,_⟩,_⟩:=I.list (.of b);exact⟨.type "list",_,mL,⟨o,e,b⟩,(λz=>nomatch z),λc a=>Aj X.K (by simp[yU]) a⟩
 | tup j=>
  obtain⟨p,f,rfl,l,q⟩:=h;cases r;obtain⟨w,x,⟨o,e,b,_⟩,_⟩:=I.tuple l.sq;exact⟨.type "tuple",_,PySem.W.kitx_tuple,⟨o,e,b⟩,(λz=>nomatch z),λc a=>Aj X.K (by simp[yU]) a⟩
 | dct=>
  obtain⟨p,rfl,i,_⟩:=h;cases r;obtain⟨_,_,f,_,o,G,J,e,b,_⟩:=Rd.ok i I.hok;exact⟨.type "dict",_,mM,⟨o,e,b.1⟩,(λz=>nomatch z),λc a=>Aj X.K (by simp[yU]) a⟩
 |tab _=>unfold J5 at h;obtain⟨rfl,_⟩:=h;cases r;exact⟨.type "bool",_,mK,eV,(λz=>nomatch z),λc a=>Aj X.K (by simp[yU]) a⟩
 | map ks j=>
  obtain⟨p,f,rfl,i,_⟩:=h;cases r;obtain⟨_,_,f,_,o,G,J,e,b,_⟩:=Rd.ok (.inr i) I.hok;exact⟨.type "dict",_,mM,⟨o,e,b.1⟩,(λz=>nomatch z),λc a=>Aj X.K (by simp[yU]) a⟩
 |adr _=>cases B
 | exn C=>
  obtain⟨p,L,rfl,⟨k,g⟩,i,_⟩:=h;cases r;obtain⟨y,_⟩:=Rd.ok i I.hok;refine⟨_,_,Z4 k,g _ y,(λz=>nomatch z),λc a=>?_⟩;rw[k.kit c a];simp at a;rcases a with rfl|rfl|rfl|rfl|rfl|rfl<;>rfl
def EV:List String:=["int", "bool", "str", "list", "tuple", "dict"]
def zcK:oY X (.builtin "isinstance") (λxs H Q=>∃x C XV μ O d,xs=[x,.ty C]/\C∈EV/\oN X.K H XV μ O/\J5 X.K H XV μ d x/\(xO d == "function")=Kb/\Q (.bl (Aa (xO d) C)) H):=by intro a s n H xs o Q I r h;obtain⟨x,C,XV,μ,O,d,rfl,b,c,e,f,q⟩:=h;obtain⟨u,t,rfl,g,i⟩:=CG r;cases i;obtain⟨T,v,Z,p,j,l⟩:=Vn I c e g f;exact wT I (PySem.W.kia_one Z I.kIn p (l _ b) j λm w=>⟨.bl _,H,I.tok m,rfl,q⟩)
def ux(C:String)(t:DE):DE:=λσ O=>(t σ O).bnd λd O1=>if (xO d == "function")=Ka then .bad else .ok (.bl (Aa (xO d) C)) O1
def Fw(g:PD X Ex a ta)(h:n∈EV)(i:Gl X "isinstance")(j:X.mg "isinstance" = J9)(l:bA "isinstance" = JU (.builtin "isinstance"))(m:Gl X C)(o:X.mg C=J9)(s:bA C=JU (.type n))(t:C ≠ "__name__":=by decide)
  (u:sU C:=by decide) (e:aL [a,.Name C p'] X.env=(Kb,eval a X.env)::aL [.Name C p'] X.env:=by rfl) (w:aL [.Name C p'] X.env=[(Kb,eval (.Name C p') X.env)]:=by rfl) (y:(backTo pos (aL [.Name C p'] X.env)).any (·.1)=Kb:=by rfl):
  PD X Ex (.Call (.Name "isinstance" p) [a,.Name C p'] [] pos) (ux n ta):=
 sJ (Jc (zcK) i j l (vP g.out (vP (LO (v:=.ty n) m o s rfl t u) BM w) e) 'u' 'u' e y) λb J L O M H Q A B q=>rd.go A B q λd E v N G P x f r c=>by
  obtain⟨I,c⟩:=post.iteN c;exact⟨v,n,b,G,E,d,rfl,h,f,r,I,post.here c f vN⟩
noncomputable def z_(to:DE)(t:DA):DE:=λσ O=>(to σ O).bnd λx O1=>match x with
 | .own k=>(t σ O1).bnd λys O2=>match ys,O2[k]? with
  |[y],JU ds=>if ds.length<4000000 then .ok .non (O2.set k (ds++[y])) else .bad
  |_,_=>.bad
 |_=>.bad
def zay(j:PD X Ex o to)(l:uS X Ex (e::es) t)(m:attributeBase o "append" X.env (eval o X.env)=eval o X.env:=by rfl)
  (n:((backTo qw (aL (e::es) X.env)).all (λx=>!x.1)&&(backToKw qw (keywordEach [] X.env)).all (λx=>x.1.isSome)&&decide ((e::es).length+([]:List gK).length+(if ([]:List gK).isEmpty then 0 else 1)<30))=Ka:=by rfl)
  (s:(apos.endLine==qw.line)=Ka:=by rfl) (u:aL (e::es) X.env=(Kb,eval e X.env)::aL es X.env:=by rfl) (B:(backTo qw (aL es X.env)).any (·.1)=Kb:=by rfl):
  PD X Ex (.Call (.Attribute o "append" apos) (e::es) [] qw) (z_ to t):=
 sJ (K6 kA k8 PySem.F.type_list_append UJ j.out l.out m n s u B) λC μ σ O a_ H Q E G q=>rd.go E G q λd O1 v H1 f_ I x c r p=>by
  cases d with
  | own k=>
   have J:=r;obtain⟨A,rfl,L⟩:=r;obtain⟨ds,M,h1,N,h3⟩:=c.at_ k A L;refine⟨.inl ⟨rfl,M,.of N⟩,vA.go I c p λys O2 ws H2 P e3 S f U a=>?_⟩;split at a
   ·rename_i y uL Y;obtain⟨Z,a⟩:=post.ite a;obtain⟨w,rfl,dw⟩:=uz U;have b:P[k]?=JU A:=by
     have:=J.ext S;obtain⟨A',e',tw⟩:=this;cases e';exact tw
    obtain⟨Hv,EK,g,h,i⟩:=f.at_ k A b;rw[Y] at g;cases g;refine⟨A,EK,w,rfl,rfl,h,aW (by rw[<- i.length];exact Z) 'u',?_⟩;exact post.ok a (.put (aJ b) ⟨_,h⟩) (f.put b (i.append (.cons dw .nil))) IJ
   ·exact aj a
  |_=>exact aj p
def Cs(te to ti:DE):DS:=λσ O=>(te σ O).bnS λy O1=>(to σ O1).bnS λx O2=>(ti σ O2).bnS λi O3=>match x,i with
 | .own k,.int i=>match O3[k]? with
  | some ds=>match ixN ds.length i with
   |some j=>.nx σ (O3.set k (ds.set j y))
   |none=>.bad
  |none=>.bad
 |_,_=>.bad
def Z7(n:PD X Ex e te)(p:PD X Ex o to)(r:PD X Ex i ti)(s:∀v,assign (.Subscript o i pos) X.env v=(do
   let ov <- holding [v] (eval o X.env);let iv <- holding [v,ov] (eval i X.env)
   standAt pos
   holding [v,ov,iv] (setItem ov iv v)
   release [v,ov,iv] []):=by intro _;rfl)(t:lN [.Subscript o i pos] e sR.line X.env=pure Kb:=by rfl)(B:lO [.Subscript o i pos] e X.env=pure J9:=by rfl)
  (C:(iz [.Subscript o i pos] X.env).map (·.2)=[assign (.Subscript o i pos) X.env]:=by rfl):vI X Ex (.Assign [.Subscript o i pos] e sR) (Cs te to ti):=
 AZ (ZL n.out (YZ p.out r.out zdK s) t B C) λG μ σ O E I H J L q=>rd.goS J L q λy O1 v H1 f_ M x1 N P Q=>rd.goS M N Q λx O2 u H2 qg S U Y Z q3=>rd.goS S Y q3 λii O3 w H3 z7 e4 f g d4 a=>by
  split at a
  ·rename_i k j;split at a
   ·rename_i ds Av;split at a
    ·rename_i m hm;have c:=Z.ext f;obtain⟨A,rfl,b⟩:=c;subst d4;obtain⟨Hv,EK,h,d,l⟩:=g.at_ k A b;rw[Av] at h;cases h;refine⟨A,EK,j,m,rfl,rfl,d,by rw[<- l.length];exact hm,?_⟩;exact a I _ z7 (.put (aJ b) ⟨_,d⟩) (e4.ext (.put (aJ b) ⟨_,d⟩)) (g.put b (l.set ((P.ext U).ext f) m))
    ·exact aj a
   ·exact aj a
  ·exact aj a
def AE:List D->Option (List Bool)
 |[]=>JU []
 |.bl b::r=>(AE r).map (b :: ·)
 |_=>J9
theorem Lj:∀{ds}{vs}{bs},oO K H XV μ ds vs->AE ds=JU bs->vs=bs.map V.bl
 |[],vs,bs,h,e=>by unfold oO at h;subst h;cases e;rfl
 | d::ds,vs,bs,h,e=>by
  obtain⟨v,r,rfl,a,c⟩:=h;cases d with
  | bl b=>
   unfold AE at e;cases q:AE ds with
   |none=>rw[q] at e;cases e
   | some cs=>
    rw[q] at e;cases e;unfold J5 at a;subst a;rw[Lj c q];rfl
  |_=>cases e
def zq:Ow->List D->R D:=λO xs=>match xs with
 | [x]=>match sE O x with
  | some ds=>match AE ds with
   |some bs=>.ok (.bl (bs.all id)) O
   |none=>.bad
  |none=>.bad
 |_=>.bad
def D3:Ow->List D->R D:=λO xs=>match xs with
 | [x]=>match sE O x with
  | some ds=>match AE ds with
   |some bs=>.ok (.bl (bs.any id)) O
   |none=>.bad
  |none=>.bad
 |_=>.bad
def YL:vp X Ex (λxs H Q=>∃(p:af)(a:List Bool),xs=[.ref p]/\qS X.K H p (a.map V.bl)/\Q (.bl (a.all id)) H) zq:=by
 intro H b j O xs l Q c d q;unfold zq at q;split at q
 ·rename_i x;obtain⟨v,rfl,f⟩:=uz d;split at q
  ·rename_i m e;obtain⟨p,n,rfl,g,h⟩:=xg c f e;split at q
   ·rename_i a i;refine⟨p,a,rfl,?_,post.here q c vN⟩;rw[<- Lj h i];exact g
   ·exact aj q
  ·exact aj q
 ·exact aj q
def ZW:vp X Ex (λxs H Q=>∃(p:af)(a:List Bool),xs=[.ref p]/\qS X.K H p (a.map V.bl)/\Q (.bl (a.any id)) H) D3:=by
 intro H b j O xs l Q c d q;unfold D3 at q;split at q
 ·rename_i x;obtain⟨v,rfl,f⟩:=uz d;split at q
  ·rename_i m e;obtain⟨p,n,rfl,g,h⟩:=xg c f e;split at q
   ·rename_i a i;refine⟨p,a,rfl,?_,post.here q c vN⟩;rw[<- Lj h i];exact g
   ·exact aj q
  ·exact aj q
 ·exact aj q
def zbp(c:List Bool):(aN c.length).all (λi=>c.getD i Ka)=c.all id:=by
 rw[ee,aD,aD];constructor
 ·intro h b d;obtain⟨i,a,e⟩:=cQ.mp d;have:=h i ⇑a;rw[bz,au a,e] at this;exact this
 ·intro h i a;have a:i<c.length:=⇑a
  rw[bz,au a];exact h _ (bT a)
def zbX(c:List Bool):(aN c.length).any (λi=>c.getD i Ka)=c.any id:=by
 rw[ee,fF,fF];constructor
 ·rintro⟨i,a,h⟩;have a:i<c.length:=⇑a
  rw[bz,au a] at h;exact⟨_,bT a,h⟩
 ·rintro⟨b,d,h⟩;obtain⟨i,a,e⟩:=cQ.mp d;exact⟨i,by simpa using a,by rw[bz,au a,e];exact h⟩
def Sr{a:List Bool}{e_}(r:oQ (a.map V.bl) e_){i:Nat}{v}(h:e_.toArray[i]?=JU v):v=.bool (a.getD i Ka):=by
 have h:e_[i]?=JU v:=⇑h
 have b:i<a.length:=by
  have:=r.length;have:=(ao.mp h).1;simp at *;lia
 obtain⟨u,c,d⟩:=r.get (by rw[aZ,au b];rfl);rw[h] at c;cases c;cases d;rw[bz,au b];rfl
def zcZ(j:X.calm=Ka):oY X (.builtin "all") (λxs H Q=>∃(p:af)(a:List Bool),xs=[.ref p]/\qS X.K H p (a.map V.bl)/\Q (.bl (a.all id)) H):=by
 intro f s C H xs E Q I r h;obtain⟨p,a,rfl,l,q⟩:=h;obtain⟨u,rfl,m⟩:=uW r;cases m;obtain⟨c,g,d,G⟩:=I.list l;have t:c.toArray.size=a.length:=by have:=g.length;simp at *;lia
 have w:p≠s.heap.objs.size:=by obtain⟨o,n,e,_⟩:=d;exact bo (aG e)
 refine wT I (call_all_walk (fv d.isList ?_));refine⟨s.heap.objs.size,_,_,c.toArray.size,_,_,λi=>a.getD i Ka,rfl,i5 (show X.A.in1.handled=J9 from I.ok.hd j) _ p w c.toArray,⟨⟨_,aB _ rfl,rfl,rfl⟩,d.isList.push _⟩,λi v J L M x y=>?_,λN O B P=>?_⟩
 ·rw[Sr g x];exact cZ y
 ·rw[t,zbp];exact⟨.bl _,H,I.kept λb o e=>B b o (by simpa using bo (aG e)) (ab _ e),rfl,q⟩
def zbz(j:X.calm=Ka):oY X (.builtin "any") (λxs H Q=>∃(p:af)(a:List Bool),xs=[.ref p]/\qS X.K H p (a.map V.bl)/\Q (.bl (a.any id)) H):=by
 intro f s C H xs E Q I r h;obtain⟨p,a,rfl,l,q⟩:=h;obtain⟨u,rfl,m⟩:=uW r;cases m;obtain⟨c,g,d,G⟩:=I.list l;have t:c.toArray.size=a.length:=by have:=g.length;simp at *;lia
 have w:p≠s.heap.objs.size:=by obtain⟨o,n,e,_⟩:=d;exact bo (aG e)
 refine wT I (call_any_walk (fv d.isList ?_));refine⟨s.heap.objs.size,_,_,c.toArray.size,_,_,λi=>a.getD i Ka,rfl,i5 (show X.A.in1.handled=J9 from I.ok.hd j) _ p w c.toArray,⟨⟨_,aB _ rfl,rfl,rfl⟩,d.isList.push _⟩,λi v J L M x y=>?_,λN O B P=>?_⟩
 ·rw[Sr g x];exact cZ y
 ·rw[t,zbX];exact⟨.bl _,H,I.kept λb o e=>B b o (by simpa using bo (aG e)) (ab _ e),rfl,q⟩
end
section
variable{X:Cx}{Ex:Nat->Hp->Prop}{c:bi}{a_:St}{H:Hp}{XV μ:List af}{O:Ow}
def QY(K:ak):R2:=λx y H Q=>∃l b xs zs,x=.ref l/\y=.ref b/\qS K H l xs/\qS K H b zs/\xs.length+zs.length<=aM/\∀p,H p=J9->Q (.ref p) (upd H p (.lst (xs++zs)))
def zgi:rg X (e8 .Add) (QY X.K):=by
 intro e s S H x y v u Q I m n h;obtain⟨l,b,U,Y,rfl,rfl,o,p,Z,q⟩:=h;cases m;cases n;obtain⟨a,f,r,z1⟩:=I.list o;obtain⟨d,g,t,z2⟩:=I.list p;obtain⟨⟨c1,d1,t1,w⟩,A,i,B,C,E⟩:=r;obtain⟨⟨c2,d2,t2,G⟩,J,j,L,M,N⟩:=t;subst B C E L M N;have P:a.toArray++d.toArray=(a++d).toArray:=by simp
 have l1:=f.length;have l2:=g.length;refine kY ⟨_,i,rfl⟩ ⟨_,j,rfl⟩ PySem.noFill_list_add PySem.seq_list_add PySem.F.slot_list_add PySem.F.entry_list_add (PySem.F.args_list_add_2 _ _)
  (PyProof.Rows.list_addW l b a.toArray d.toArray A J J9 J9 w G (by simp;lia)) ⟨i,j,?_⟩
 rw[P];exact⟨.ref _,_,I.lnew (f.append g) (by rw[aC];lia),rfl,q _ I.fresh⟩
def rZ:Ow->D->D->R D:=λO x y=>match x,y with
 |.int i,.int j=>.ok (.int (i+j)) O
 |.str p,.str q=>if p.length+q.length<=4000000 then .ok (.str (p++q)) O else .bad
 |.tup xs,.tup ys=>if xs≠[]/\xs.length+ys.length<=4000000 then .ok (.tup (xs++ys)) O else .bad
 | x,y=>match sE O x,sE O y with
  |some xs,JU ys=>if xs.length+ys.length<=4000000 then .ok (.lst (xs++ys)) O else .bad
  |_,_=>.bad
def QL(K:ak):R2:=λx y H Q=>(∃i j,x=.int i/\y=.int j/\Q (.int (i+j)) H)\/(∃i j,x=.str i/\y=.str j/\i.length+j.length<=aM/\Q (.str (i++j)) H)\/QR K x y H Q\/QY K x y H Q
def zgj:rg X (e8 .Add) (QL X.K):=rg.or ziK (rg.or z9U (rg.or zhu zgi))
def zgd:tM X Ex (QL X.K) rZ:=by
 intro H XV μ O x y v w Q c a d q;unfold rZ at q;split at q
 ·unfold J5 at a d;subst a;subst d;exact .inl ⟨_,_,rfl,rfl,post.here q c s9⟩
 ·rename_i p h;unfold J5 at a d;subst a;subst d;obtain⟨i,q⟩:=post.ite q;refine .inr (.inl ⟨_,_,rfl,rfl,?_,?_⟩)
  ·show p.toArray.size+h.toArray.size<=_;simp;exact Am i
  ·have e:((⟨p.toArray⟩:aA)++(⟨h.toArray⟩:aA))=⟨(p++h).toArray⟩:=by
    show(⟨p.toArray++h.toArray⟩:aA)=_;simp
   rw[e];exact post.here q c LC
 ·rename_i A B;have j:=a;obtain⟨p,m,rfl,t,f⟩:=a;obtain⟨n,o,rfl,u,g⟩:=d;obtain⟨⟨C,i⟩,q⟩:=post.ite q;have r:=f.length;have s:=g.length;refine .inr (.inr (.inl ⟨p,n,m,o,rfl,rfl,t.sq,u.sq,?_,Am 'd',?_,?_⟩))
  ·rintro rfl;exact C (cO.mp r)
  ·rintro rfl;have:=cO.mp s;subst this;rw[bX] at q;exact post.here q c j
  ·intro _ l b;exact post.ok q (.laid b) (c.laid b) (J5.newT c b (f.append g))
 ·split at q
  ·rename_i A B r s;obtain⟨p,m,rfl,E,f⟩:=xg c a r;obtain⟨n,o,rfl,G,g⟩:=xg c d s;obtain⟨i,q⟩:=post.ite q;have t:=f.length;have u:=g.length;exact .inr (.inr (.inr ⟨p,n,m,o,rfl,rfl,E,G,Am 'd',λl b=>post.ok q (.laid b) (c.laid b) (J5.newL c b (f.append g))⟩))
  ·exact aj q
def ziH(d:PD X Ex a ta)(e:PD X Ex b tb):PD X Ex (.BinOp a .Add b pos) (i_ rZ ta tb):=QK zgj zgd d e
noncomputable def Qi(i:Int):k_:=((toString i:aA)).cps.toList
def Io:Ow->List D->R D:=λO xs=>match xs with
 |[.int i]=>if i.natAbs<2 ^ 64 then .ok (.str (Qi i)) O else .bad
 |_=>.bad
def z9W(h:n<2 ^ 64):n.log2<1920:=by
 by_cases a:n=0
 ·subst a;decide
 ·have:=(Nat.log2_lt a).mpr h;lia
def Sk(x):(⟨x.cps.toList.toArray⟩:aA)=x:=by cases x;simp
def zfZ:vp X Ex (λxs H Q=>∃i,xs=[.int i]/\i.natAbs.log2<1920/\Q (.str (toString i)) H) Io:=by
 intro H XV μ O xs e Q c d q;unfold Io at q;split at q
 ·rename_i i;obtain⟨v,rfl,a⟩:=uz d;unfold J5 at a;subst a;obtain⟨b,q⟩:=post.ite q;refine⟨i,rfl,z9W b,post.here q c ?_⟩;unfold J5 Qi;rw[Sk]
 ·exact aj q
def VY(g:aA->aA->Option V):V->List V->Hp->VK->Prop:=λx xs H Q=>∃i j v,x=.str i/\xs=[.str j]/\g i j=JU v/\Q v H
def Qg(i j:aA):Option V:=JU (.int (cq i j 0 i.length (i.length+1)).length)
def zdv:P4 X "str.count" (VY Qg):=by intro a s f H x g v l Q I b d h;obtain⟨i,j,w,rfl,rfl,e,q⟩:=h;obtain⟨t,rfl⟩:=b;obtain⟨u,rfl,m,rfl⟩:=uW d;cases e;exact SC.count ⟨.int _,H,I.tok _,⟨_,rfl⟩,q⟩
def HS(i j:k_):Option D:=JU (.int (cq ⟨i.toArray⟩ ⟨j.toArray⟩ 0 i.length (i.length+1)).length)
noncomputable def Kt(g:k_->k_->Option D)(to:DE)(t:DA):DE:=λσ O=>(to σ O).bnd λx O1=>match x with
 | .str i=>(t σ O1).bnd λys O2=>match ys with
  | [.str j]=>match g i j with
   |some d=>.ok d O2
   |none=>.bad
  |_=>.bad
 |_=>.bad
def Ym{t}{es}{apos qw}{name:aA}{f:String}{l:aA->aA->Option V}{g:k_->k_->Option D}(a:Slot "str" name f)(n:typeOf (.builtin f)=pure (.type "method_descriptor"))(s:P4 X f (VY l))
  (h:∀i j d,g i j=JU d->∃v,l ⟨i.toArray⟩ ⟨j.toArray⟩=JU v/\∀K H XV μ,J5 K H XV μ d v) (u:PD X Ex o to) (y:uS X Ex (e::es) t) (A:attributeBase o name X.env (eval o X.env)=eval o X.env:=by rfl)
  (B:((backTo qw (aL (e::es) X.env)).all (λx=>!x.1)&&(backToKw qw (keywordEach [] X.env)).all (λx=>x.1.isSome)&&decide ((e::es).length+([]:List gK).length+(if ([]:List gK).isEmpty then 0 else 1)<30))=Ka:=by rfl)
  (C:(apos.endLine==qw.line)=Ka:=by rfl) (E:aL (e::es) X.env=(Kb,eval e X.env)::aL es X.env:=by rfl) (G:(backTo qw (aL es X.env)).any (·.1)=Kb:=by rfl):
  PD X Ex (.Call (.Attribute o name apos) (e::es) [] qw) (Kt g to t):=
 sJ (K6 PySem.F.plainAttrs_str a n s u.out y.out A B C E G) λXV μ Z O a_ H Q I J q=>rd.go I J q λd O1 v H1 f_ L x M r p=>by
  cases d with
  | str i=>
   subst r;refine⟨rfl,vA.go L M p λys O2 ws H2 qg e3 x3 N P b=>?_⟩;split at b
   ·rename_i j;obtain⟨w,rfl,m⟩:=uz P;unfold J5 at m;subst m;split at b
    ·rename_i d S;obtain⟨v,U,Y⟩:=h _ _ _ S;exact⟨_,_,v,rfl,rfl,U,post.here b N (Y _ _ _ _)⟩
    ·exact aj b
   ·exact aj b
  |_=>exact aj p
def Zh:∀i j d,HS i j=JU d->∃v,Qg ⟨i.toArray⟩ ⟨j.toArray⟩=JU v/\∀K H XV μ,J5 K H XV μ d v:=λi j d h=>by
 cases h;have e:(⟨i.toArray⟩:aA).length=i.length:=by show i.toArray.size=_;simp
 exact⟨_,rfl,λ_ _ _ _=>by unfold J5;rw[e]⟩
def QI:List D->Option (List aA)
 |[]=>JU []
 |.str cs::r=>(QI r).map (⟨cs.toArray⟩ :: ·)
 |_=>J9
def za3:∀{a}{b},oQ (a.map V.str) b->gA b a:=by
 intro a
 induction a with
 |nil=>intro b r;rw[i0] at r;cases r;exact .nil
 | cons y a ih=>
  intro b r;cases r with
  | cons r1 r2=>
   obtain⟨t,e⟩:=r1;subst e;exact .cons y t (ih r2)
def zn6(to:DE)(t:DA):DE:=λσ O=>(to σ O).bnd λx O1=>match x with
 | .str i=>(t σ O1).bnd λys O2=>match ys with
  | [z]=>match (match sE O2 z with|some ds=>JU ds|none=>A7 z) with
   | some ds=>match QI ds with
    |some zs=>if i.length<=16/\(zs.map (·.length)).sum+zs.length<=1048576 then .ok (.str (Txt.join ⟨i.toArray⟩ zs).cps.toList) O2 else .bad
    |none=>.bad
   |none=>.bad
  |_=>.bad
 |_=>.bad
abbrev DO:=Sg->Ow->R (Option Int)
def Gi(Ex:Nat->Hp->Prop)(K:ak)(t:DO):TO:=λa_ H Q=>∃XV μ σ O,oP K H XV μ σ a_/\oN K H XV μ O/\post Ex K (λ_ _(d v)=>d=v) H XV μ (t σ O) Q
structure DX(X:Cx)(Ex:Nat->Hp->Prop)(e:Option bi)(t:DO):Prop where
 out:PO X e (Gi Ex X.K t)
def H_:DO:=λ_ O=>.ok J9 O
def K_(t:DE):DO:=λσ O=>(t σ O).bnd λd O1=>match d with
 |.int i=>.ok (JU i) O1
 |_=>.bad
def PO.imp{e}{t t'}(h:PO X e t)(f:∀σ H Q,t' σ H Q->t σ H Q):PO X e t':=λa s σ H Q I q=>h a s σ H Q I (f σ H Q q)
def zdp:DX X Ex J9 H_:=DX.mk <| PO.imp zht λa_ H Q ⟨XV,μ,b,O,d,a,q⟩=>post.here q a rfl
def zdT(h:PD X Ex e te):DX X Ex (JU e) (K_ te):=DX.mk <| PO.imp (zi9 h.out) λa_ H Q ⟨XV,μ,g,O,a,b,q⟩=>rd.go a b q λd j v l m n x f r p=>by
 cases d with
 |int i=>unfold J5 at r;subst r;exact⟨i,rfl,post.here p f rfl⟩
 |_=>exact aj p
def Gi.go{e g:Type}{h:Hp->List af->e->g->Prop}{t}{XV μ}{σ}{O}{a_:St}{H}{Q1:Option Int->Hp->Prop}{k:Option Int->Ow->R e}{Q:g->Hp->Prop}(i:oP X.K H XV μ σ a_)(j:oN X.K H XV μ O)
  (q:post Ex X.K h H XV μ ((t σ O).bnd k) Q)
  (f:∀v O1 a b,oP X.K a XV b σ a_->Ext H μ a b->oN X.K a XV b O1->post Ex X.K h a XV b (k v O1) Q->Q1 v a):Gi Ex X.K t a_ H Q1:=
 ⟨XV,μ,σ,O,i,j,post.bnd q λd O1 v a b x c r p=>by
  subst r;exact f d O1 a b (i.ext x) x c p⟩
def Xs:V->Option Int->Option Int->Hp->VK->Prop:=λx lo hi H Q=>∃i,x=.str i/\i.length<=aM/\Q (.str (Txt.slice i lo hi)) H
def zab{h:aX}{sl}{vl vu}{lo hi}(f:h.IsSliceOf sl vl vu .none)(m:iZ vl lo)(e:iZ vu hi):∃l u:Option (Int×Tok),h.IsSlice sl l u J9/\l.map (·.1)=lo/\u.map (·.1)=hi:=by
 obtain⟨a,g,b,d⟩:=f;cases m with
 | none=>
  cases e with
  |none=>exact⟨J9,J9,⟨a,g,b,d⟩,rfl,rfl⟩
  |int j t=>exact⟨J9,JU (j,t),⟨a,g,b,d⟩,rfl,rfl⟩
 | int i t=>
  cases e with
  |none=>exact⟨JU (i,t),J9,⟨a,g,b,d⟩,rfl,rfl⟩
  |int j t'=>exact⟨JU (i,t),JU (j,t'),⟨a,g,b,d⟩,rfl,rfl⟩
def ZU:AF X Xs:=by intro a s m H x v n o p r w Q I b d e f h;obtain⟨i,rfl,g,q⟩:=h;obtain⟨t,rfl⟩:=b;obtain⟨l,u,j,rfl,rfl⟩:=zab d e f;refine⟨"str",_,PySem.F.slot_str_getitem.lookup,typeIs_str s i t,?_⟩;exact wT I (wpAny_getItem_str_slice j rfl (post_val_or_str ⟨aI (Txt.slice_le i _ _) g,λy k A=>⟨.str _,H,I.tok k,⟨_,rfl⟩,q⟩⟩))
def HQ(xs:List D)(lo hi:Option Int):List D:=(xs.drop (HT.sIx xs.length 0 lo)).take (HT.sIx xs.length xs.length hi-HT.sIx xs.length 0 lo)
def WN(O:Ow)(x:D)(lo hi:Option Int):R D:=match x with
 |.str i=>if i.length<=4000000 then .ok (.str (Txt.slice ⟨i.toArray⟩ lo hi).cps.toList) O else .bad
 |.tup ds=>if HT.sIx ds.length 0 lo=0/\HT.sIx ds.length ds.length hi=ds.length then .bad else .ok (.tup (HQ ds lo hi)) O
 | x=>match sE O x with
  |some ds=>.ok (.lst (HQ ds lo hi)) O
  |none=>.bad
def Ks(te:DE)(tl th:DO):DE:=λσ O=>(te σ O).bnd λx O1=>(tl σ O1).bnd λlo O2=>(th σ O2).bnd λhi O3=>WN O3 x lo hi
def TH{K}{ds}{a:List V}(h:oO K H XV μ ds a)(lo hi):oO K H XV μ (HQ ds lo hi) (DZ a lo hi):=by unfold HQ DZ;rw[h.length];exact oO.take _ (oO.drop _ h)
def XS{lo hi}{o s:DO}{t:Pos}(w:PD X Ex e te)(j:DX X Ex lo o)(y:DX X Ex hi s):PD X Ex (.Subscript e (.Slice lo hi J9 t) pos) (Ks te o s):=
 sJ (zel (AF.or ZU (AF.or Z0 zh4)) w.out j.out y.out) λXV μ σ O a_ H Q A B q=>rd.go A B q λd O1 v H1 f_ C x E r p=>Gi.go C E p λl O2 H2 qg G I J L=>Gi.go G J L λu O3 H3 z7 e4 M f a=>by
  have g:=(r.ext I).ext M;unfold WN at a;split at a
  ·rename_i i;unfold J5 at g;subst g;obtain⟨j.out,a⟩:=post.ite a;refine .inl ⟨_,rfl,?_,post.here a f ?_⟩
   ·show i.toArray.size<=_;rw[aS];exact Am j.out
   ·unfold J5;rw[Sk]
  ·rename_i N;obtain⟨m,n,rfl,P,h⟩:=g;split at a
   ·exact aj a
   ·rename_i S;refine .inr (.inl ⟨m,n,rfl,P.sq,by rw[<- h.length];exact S,λU b=>post.ok a (.laid b) (f.laid b) (J5.newT f b (TH h l u))⟩)
  ·split at a
   ·rename_i N Y;obtain⟨m,n,rfl,Z,h⟩:=xg f g Y;exact .inr (.inr ⟨m,n,rfl,Z,λU b=>post.ok a (.laid b) (f.laid b) (J5.newL f b (TH h l u))⟩)
   ·exact aj a
def HL:Ow->D->D->R D:=λO x y=>match x,y with
 |.str i,.str j=>.ok (.bl (!(cq ⟨j.toArray⟩ ⟨i.toArray⟩ 0 j.length 1).isEmpty)) O
 |_,_=>.bad
def zgO:tM X Ex (λx y H Q=>∃i j,x=.str i/\y=.str j/\Q (.bl (!(cq j i 0 j.length 1).isEmpty)) H) HL:=by
 intro H XV μ O x y v w Q c a b q;unfold HL at q;split at q
 ·rename_i i j;unfold J5 at a b;subst a;subst b;refine⟨_,_,rfl,rfl,post.here q c ?_⟩;have e:(⟨j.toArray⟩:aA).length=j.length:=by show j.toArray.size=_;simp
  rw[e];exact vN
 ·exact aj q
end
def qP(K:ak)(mg:aA->Option ae)(x:aA)(st:eO):Prop:=∃f fd,mg x=JU (.ref f)/\L2.Fun K x x st f fd
structure Callee(P:aU)(w:be)(K:ak)(mg:aA->Option ae)(base:aX)(x:aA)(k n:Nat)(F:qx):Prop where
 ex:∃f fd ps,mg x=JU (.ref f)/\cU K (.ref f)=Ka/\Binds K fd ps []/\o5 P w K mg base yI k f fd ps (KD K Bz n F)
def Rf(c:Callee X.prog X.w X.K X.mg X.base x k n F)(a:oW j X.A)(b:k<=j)(d:Gl X x)(g:uS X qE (e::es) t)
  (h:sU x:=by decide) (i:aL (e::es) X.env=(Kb,eval e X.env)::aL es X.env:=by rfl) (l:(backTo pos (aL es X.env)).any (·.1)=Kb:=by rfl):
  PD X qE (.Call (.Name x p) (e::es) [] pos) (n_ n F t):=by obtain⟨f,r,s,m,o,q,G⟩:=c.ex;exact X8 (G.mono b) a d m o q Ip g h i l
def Pw(h:qP K mg x st)(S:vt N ps (rC st))
  (j:∀(d c e)(g)(b i)(us),us.length=ps.length->bindArgs (ck x x (xP st) (uF st) (rC st) .none d c e g b i) ⟨us,[]⟩=pure (ps.zip us))
  (l:∀(f)(b)(A)(a)(s)(H)(E),oW k (A.deeper (d8 x (rC st) s.heap.objs.size f b))->ue (Cp P w K mg base N x (rC st) f b A a s H E) qE (uF st) t):
  Callee P w K mg base x (k+1) ps.length (q_ N.length t):=by obtain⟨f,m,n,F⟩:=h;refine⟨f,m,ps,n,F.kp,F.binds j,?_⟩;obtain⟨r,u,d,c,e,g,b,i,v,rfl,o,p⟩:=F.ex;exact Ye o p S λA a s H E q=>l f b A a s H E q
def Callee.imp(c:Callee P w K mg base x k n F)
  (h:∀ds O H XV μ Q,oN K H XV μ O->rP qE K H XV μ (G ds O) Q->rP qE K H XV μ (F ds O) Q):Callee P w K mg base x k n G:=by obtain⟨f,b,e,g,i,j,l⟩:=c.ex;refine⟨f,b,e,g,i,j,l.imp λo H Q E ⟨m,XV,μ,ds,O,d,a,q⟩=>⟨m,XV,μ,ds,O,d,a,h ds O H XV μ Q a q⟩⟩
def Callee.bad(c:Callee P w K mg base x k n F):Callee P w K mg base x k n (λ_ _=>.bad):=
 c.imp λ_ _ _ _ _ _ _ q=>aj q
def frz(O:Ow)(n:Nat):Nat->D->Option D
 | 0,d=>match d with
  |.own k=>if k<n then JU (.own k) else J9
  |.lst _=>J9
  |.tup _=>J9
  |.map _ _=>J9
  |d=>JU d
 | f+1,d=>match d with
  | .own k=>if k<n then JU (.own k) else match O[k]? with
   |some ds=>(qo (frz O n f) ds).map .lst
   |none=>J9
  |.lst ds=>(qo (frz O n f) ds).map .lst
  |.tup ds=>(qo (frz O n f) ds).map .tup
  |.map _ _=>J9
  |d=>JU d
def xf(n:Nat)(r:R D):R D:=match r with
 | .ok d O=>match frz O n 8 d,qo (qo (frz O n 8)) (O.take n) with
  |some d',JU O'=>.ok d' O'
  |_,_=>.bad
 |r=>r
section
theorem EB(a:∀d d' v,f d=JU d'->J5 K H XV μ d v->J5 K H XV c_ d' v):∀(ds s_)(vs),qo f ds=JU s_->oO K H XV μ ds vs->oO K H XV c_ s_ vs
 |[],s_,vs,e,h=>by cases e;unfold oO at h ⊢;exact h
 | d::ds,s_,vs,e,h=>by
  unfold qo at e;split at e
  ·rename_i p b c g;cases e;obtain⟨v,r,rfl,i,j⟩:=h;exact .cons (a d p v c i) (EB a ds b r g j)
  ·cases e
def Lg(c:oN K H XV (μ++ν) O)(Y:μ.length=n):∀(f)(d d')(v),frz O n f d=JU d'->J5 K H XV (μ++ν) d v->J5 K H XV μ d' v:=by
 have s:∀{a},a∉μ++ν->a∉μ:=λh m=>h (bK _ m);have u:∀{k}{v},k<n->J5 K H XV (μ++ν) (.own k) v->J5 K H XV μ (.own k) v:=λ{k v}w h=>by
  obtain⟨a,rfl,e⟩:=h;rw[aH 'd'] at e;exact⟨a,rfl,e⟩
 have B:∀{v},J5 K H XV (μ++ν) .dct v->J5 K H XV μ .dct v:=λ{v}h=>by
  obtain⟨a,rfl,r,x,y⟩:=h;exact⟨a,rfl,r,x,s y⟩
 have E:∀{C:Nat}{v},J5 K H XV (μ++ν) (.exn C) v->J5 K H XV μ (.exn C) v:=λ{C v}h=>by
  obtain⟨a,I,rfl,g,r,x,y⟩:=h;exact⟨a,I,rfl,g,r,x,s y⟩
 intro f
 induction f with
 | zero=>
  intro d d' v e h;cases d with
  | own k=>
   unfold frz at e;dsimp only at e;split at e
   ·rename_i w;cases e;exact u w h
   ·cases e
  |lst o=>cases e
  |tup o=>cases e
  |dct=>cases e;exact B h
  |map ks o=>cases e
  |adr _=>cases e;unfold J5 at h ⊢;exact h
  |exn C=>cases e;exact E h
  |tab P=>cases e;unfold J5 at h ⊢;exact h
  |non=>cases e;unfold J5 at h ⊢;exact h
  |bl b=>cases e;unfold J5 at h ⊢;exact h
  |int i=>cases e;unfold J5 at h ⊢;exact h
  |str i=>cases e;unfold J5 at h ⊢;exact h
 | succ f ih=>
  intro d d' v e h;cases d with
  | own k=>
   unfold frz at e;dsimp only at e;split at e
   ·rename_i w;cases e;exact u w h
   ·rename_i w;obtain⟨a,rfl,A⟩:=h;obtain⟨o,t,J,L,M⟩:=c.at_ k a A;rw[J] at e;dsimp only at e;cases p:qo (frz O n f) o with
    |none=>rw[p] at e;cases e
    | some ps=>
     rw[p] at e;cases e;refine⟨a,t,rfl,.inl ⟨.inl L,c.nh a (aJ A),λm=>?_⟩,EB ih o ps t p M⟩;obtain⟨j,G,N⟩:=cQ.mp m;have Q:(μ++ν)[j]?=JU a:=by rw[aH G,au G,N]
     obtain⟨Z,S⟩:=ao.mp Q;obtain⟨w2,U⟩:=ao.mp A;have:=(j7 c.nd).mp (S.trans U.symm);lia
  | lst o=>
   unfold frz at e;dsimp only at e;obtain⟨a,t,rfl,l,q⟩:=h;cases p:qo (frz O n f) o with
   |none=>rw[p] at e;cases e
   | some ps=>
    rw[p] at e;cases e;exact⟨a,t,rfl,l.imp (λz=>⟨z.1,z.2.1,s z.2.2⟩) id,EB ih o ps t p q⟩
  | tup o=>
   unfold frz at e;dsimp only at e;obtain⟨a,t,rfl,l,q⟩:=h;cases p:qo (frz O n f) o with
   |none=>rw[p] at e;cases e
   | some ps=>
    rw[p] at e;cases e;exact⟨a,t,rfl,l.imp (λz=>⟨z.1,z.2.1,s z.2.2⟩) id,EB ih o ps t p q⟩
  |dct=>cases e;exact B h
  |map ks o=>cases e
  |adr _=>cases e;unfold J5 at h ⊢;exact h
  |exn C=>cases e;exact E h
  |tab P=>cases e;unfold J5 at h ⊢;exact h
  |non=>cases e;unfold J5 at h ⊢;exact h
  |bl b=>cases e;unfold J5 at h ⊢;exact h
  |int i=>cases e;unfold J5 at h ⊢;exact h
  |str i=>cases e;unfold J5 at h ⊢;exact h
theorem F1{α β:Type}{f:α->Option β}:∀{l:List α}{r:List β},qo f l=JU r->r.length=l.length
 |[],r,e=>by cases e;rfl
 | x::l,r,e=>by
  unfold qo at e;split at e
  ·rename_i p b c a;cases e;simp[F1 a]
  ·cases e
theorem MB{α β:Type}{f:α->Option β}:∀{l:List α}{r:List β}{k:Nat}{y:β},qo f l=JU r->r[k]?=JU y->∃x,l[k]?=JU x/\f x=JU y
 |[],r,k,y,e,h=>by cases e;simp at h
 | x::l,r,k,y,e,h=>by
  unfold qo at e;split at e
  ·rename_i p g a b;cases e;cases k with
   |zero=>simp at h;subst h;exact⟨x,by simp,a⟩
   |succ k=>obtain⟨z,c,d⟩:=MB b ⇑h;exact⟨z,by simpa using c,d⟩
  ·cases e
def Mn{Ex:Nat->Hp->Prop}{r:R D}{Q:VK}(g:μ.length=n)(q:rP Ex K H XV μ (xf n r) Q):rP Ex K H XV μ r Q:=by
 cases r with
 |bad=>exact q
 |exc c O'=>exact q
 | ok d O'=>
  intro v j I x c h;obtain⟨J,rfl⟩:=x.pre;have b:rP Ex K H XV μ (match frz O' n 8 d,qo (qo (frz O' n 8)) (O'.take n) with|some d',JU O2=>.ok d' O2|_,_=>.bad) Q:=q;cases i:frz O' n 8 d with
  |none=>rw[i] at b;exact aj b
  | some d'=>
   cases f:qo (qo (frz O' n 8)) (O'.take n) with
   |none=>rw[i,f] at b;exact aj b
   | some O2=>
    rw[i,f] at b;have t:Ext H μ j μ:=⟨⟨[],by simp⟩,x.kept,λ_ m=>.inl m,x.there,x.tab⟩;have l:=c.len.symm;have u:oN K j XV μ O2:=by
     refine⟨?_,(eD.mp c.nd).1,λa m=>c.nh a (bK _ m),c.ht,λk a e=>?_⟩
     ·rw[F1 f,bL,l,aC,g];lia
     ·have w:=(ao.mp e).1;obtain⟨y,o,A,B,C⟩:=c.at_ k a (by rw[aH w];exact e);have p:k<O2.length:=by rw[F1 f,bL,l,aC,g];lia
      obtain⟨E,s,G⟩:=MB f (au p);have:E=y:=by
       rw[iq,Kd 'd',A] at s;cases s;rfl
      subst this;exact⟨_,o,au p,B,EB (Lg c g 8) _ _ o G C⟩
    exact b v j μ t u (Lg c g 8 d d' v i h)
end
def Ab(F:qx):qx:=λds O=>xf O.length (F ds O)
def Callee.frz(c:Callee P w K mg base x k n F):Callee P w K mg base x k n (Ab F):=
 c.imp λd O H a e Q b q=>Mn b.len q
noncomputable def Qo(sc scope:dS)(N':List aA)(sl:k_):Bool:=
 (match scope.kind with|.function=>Ka|_=>Kb)&&decide ((scope.names.map (·.1)).Nodup)&&(scope.names.all λy=>!(y.2 == .free)||sc.names.lookup y.1==JU .cell||sc.names.lookup y.1==JU .free) &&
 (N'.zipIdx.all λp=>!((scope.names.any λy=>y.1==p.1&&y.2 == .local)||(scope.names.any λy=>y.1==p.1&&y.2 == .cell))||sl.contains p.2)
def Fz(h:Qo sc scope N' sl=Ka):yJ sc scope N' sl:=by
 unfold Qo at h;simp only[aT,decide_eq_true_eq,aD] at h;obtain⟨⟨⟨a,b⟩,c⟩,d⟩:=h;refine⟨?_,b,λy f g=>?_,λi x j l=>?_⟩
 ·cases e:scope.kind<;>rw[e] at a<;>first|rfl|cases a
 ·have:=c y f;rw[g] at this;simpa using this
 ·have n:(x,i)∈N'.zipIdx:=by
   rw[List.mem_zipIdx_iff_getElem?];exact j
  have h:=d _ n;have o:((scope.names.any λy=>y.1==x&&y.2 == .local)||(scope.names.any λy=>y.1==x&&y.2 == .cell))=Ka:=by
   rw[fV];exact l.imp (λm=>fF.mpr ⟨_,m,by simp⟩) λm=>fF.mpr ⟨_,m,by simp⟩
  rw[o] at h;simpa using h
structure KZ(mg:aA->Option ae)(x:aA)(cs:k_):Prop where
 ex:∃t,mg x=JU (.str ⟨cs.toArray⟩ t)
section
def zgR(h:KZ X.mg x cs)(a:Gl X x:=by rfl)(b:sU x:=by decide):PD X Ex (.Name x pos) (dC (.str cs)):=by obtain⟨t,h⟩:=h.ex;exact zdB cs a h rfl b
def Ij(C C':String)(t:DE):DE:=λσ O=>(t σ O).bnd λd O1=>if (xO d == "function")=Ka then .bad else .ok (.bl (Aa (xO d) C||Aa (xO d) C')) O1
def zcj:oY X (.builtin "isinstance") (λxs H Q=>∃x p C a XV μ O d,xs=[x,.ref p]/\sH X.K H p [.ty C,.ty a]/\C∈EV/\a∈EV/\oN X.K H XV μ O/\J5 X.K H XV μ d x/\(xO d == "function")=Kb/\Q (.bl (Aa (xO d) C||Aa (xO d) a)) H):=by
 intro c s J H xs L Q I r h;obtain⟨x,M,C,a,XV,μ,O,d,rfl,i,j,b,l,m,o,q⟩:=h;obtain⟨u,N,rfl,t,v⟩:=CG r;cases v;obtain⟨T,P,Z,p,w,e⟩:=Vn I l m t o;obtain⟨S,y,⟨⟨U,Y,t1,s1⟩,A,f,n,g⟩,hz⟩:=I.tuple i;simp only at f g;subst f g;obtain⟨v1,v2,rfl,B,E⟩:=CG y;cases B;cases E;refine wT I (PySem.W.kia_tup Z I.kIn p A ?_ w λG qY=>⟨.bl _,H,I.tok G,rfl,q⟩);unfold nY;rw[e _ j];cases Aa (xO d) C with
 |true=>rfl
 | false=>
  dsimp only;unfold nY;rw[e _ b];cases Aa (xO d) a<;>rfl
def zhY(h:PD X Ex a ta)(i:n∈EV)(j:n'∈EV)(m:Gl X "isinstance")(o:X.mg "isinstance" = J9)(s:bA "isinstance" = JU (.builtin "isinstance"))(t:Gl X C)(u:X.mg C=J9)(w:bA C=JU (.type n))
  (y:Gl X C') (A:X.mg C'=J9) (B:bA C'=JU (.type n')) (E:C ≠ "__name__":=by decide) (G:sU C:=by decide) (I:C' ≠ "__name__":=by decide) (J:(C'==("__debug__":aA))=Kb:=by decide)
  (f:aL [a,.Tuple [.Name C p',.Name C' A9] kt pt] X.env=(Kb,eval a X.env)::aL [.Tuple [.Name C p',.Name C' A9] kt pt] X.env:=by rfl) (L:aL [.Tuple [.Name C p',.Name C' A9] kt pt] X.env=[(Kb,eval (.Tuple [.Name C p',.Name C' A9] kt pt) X.env)]:=by rfl)
  (M:(backTo pos (aL [.Tuple [.Name C p',.Name C' A9] kt pt] X.env)).any (·.1)=Kb:=by rfl) (N:aL [.Name C p',.Name C' A9] X.env=(Kb,eval (.Name C p') X.env)::aL [.Name C' A9] X.env:=by rfl) (P:aL [.Name C' A9] X.env=[(Kb,eval (.Name C' A9) X.env)]:=by rfl):
  PD X Ex (.Call (.Name "isinstance" p) [a,.Tuple [.Name C p',.Name C' A9] kt pt] [] pos) (Ij n n' ta):=
 sJ (Jc (zcj) m o s (vP h.out (vP (RL (vP (LO (v:=.ty n) t u w rfl E G) (vP (LO (v:=.ty n') y A B rfl I J) BM P) N)) BM L) f) 'u' 'u' f M) λc μ σ O a_ H Q S U q=>rd.go S U q λd Y v H1 Z e2 x g r e=>by
  obtain⟨hf,e⟩:=post.iteN e;exact⟨by show 2<=aM;decide,λl b=>⟨v,l,n,n',c,Z,Y,d,rfl,.of rO,i,j,g.laid b,r.ext (.laid b),hf,post.ok e (.laid b) (g.laid b) vN⟩⟩
def Cj:Ow->D->D->R D:=λO x y=>match y with
 |.str _=>HL O x y
 |_=>qf B8 O x y
def zr:Ow->D->D->R D:=λO x y=>match y with
 | .str _=>match HL O x y with
  |.ok (.bl b) O1=>.ok (.bl (!b)) O1
  |_=>.bad
 |_=>qf D5 O x y
def Ry(a:X.A.units+64<cLine):rg X (cN .In) (λx y H Q=>A8 X.K B8 x y H Q \/ ∃i j,x=.str i/\y=.str j/\Q (.bl (!(cq j i 0 j.length 1).isEmpty)) H):=rg.or (zhH a) zaL
def Rh:tM X Ex (λx y H Q=>A8 X.K B8 x y H Q \/ ∃i j,x=.str i/\y=.str j/\Q (.bl (!(cq j i 0 j.length 1).isEmpty)) H) Cj:=by
 intro H a b O x y v w Q c d e q;unfold Cj at q;split at q
 ·exact .inr (zgO H a b O _ _ v w Q c d e q)
 ·exact .inl (Ej H a b O x y v w Q c d e q)
def Sv(a:X.A.units+64<cLine):rg X (cN .NotIn) (λx y H Q=>A8 X.K D5 x y H Q \/ ∃i j,x=.str i/\y=.str j/\Q (.bl (!(!(cq j i 0 j.length 1).isEmpty))) H):=rg.or (zeL a) z7c
def SU:tM X Ex (λx y H Q=>A8 X.K D5 x y H Q \/ ∃i j,x=.str i/\y=.str j/\Q (.bl (!(!(cq j i 0 j.length 1).isEmpty))) H) zr:=by
 intro H a g O x y v w Q c b d q;unfold zr at q;split at q
 ·rename_i f;cases x with
  | str i=>
   unfold J5 at b d;subst b;subst d;refine .inr ⟨_,_,rfl,rfl,post.here q c ?_⟩;have e:(⟨f.toArray⟩:aA).length=f.length:=by show f.toArray.size=_;simp
   rw[e];exact vN
  |_=>exact aj q
 ·exact .inl (Ej H a g O x y v w Q c b d q)
end
section
def Inv.turns(ch:List af)(I:L2.Inv X YP a_ H s)(k:∀b o,b∉ch->s.heap.get? b=JU o->h'.get? b=JU o)(d:∀b∈ch,sY X YP H b)(j:0<t':=by first|assumption|exact Inv.tk ‹_›):L2.Inv X YP a_ H { s with heap:=h',toks:=t' }:=by
 have f:∀b u,H b=JU u->b∉ch:=λb u e z=>by rw[(d b z).1] at e;cases e
 have g:Un (vD X.stack) ch H H s.heap h':=⟨λb o e _ _ n=>k b o n e,λb o e _ _ n=>⟨o.slots,k b o n e⟩,λ_ _ _ n _=>n,λb o e n=>⟨o,k b o n e⟩,λ_ _ e=>e,λ_ _ _ e=>e,λb l e=>⟨#[],by rw[e];simp⟩⟩;have a:HOk X.prog X.w H h':=λb u e=>(I.hok b u e).stay (λc v h q=>k c v (by
  rcases h with z|z
  ·rw[z];exact f b u e
  ·exact f c _ z) q) (λ_ q=>q) λ_ _ q=>q
 exact I.call g a I.bare λb i=>let ⟨_,f1,_,f3,f4,f5⟩:=d b i;⟨f3,f1,f4,f5⟩
end
def Itz(K:ak)(l m:af):It:=
 ⟨λi H=>∃xs ys x y,qS K H l xs/\qS K H m ys/\xs[i]?=JU x/\ys[i]?=JU y,
   λi H v H'=>∃p x y,H p=J9/\v=.ref p/\(∀xs,qS K H l xs->xs[i]?=JU x)/\(∀ys,qS K H m ys->ys[i]?=JU y)/\H'=upd H p (.tup [x,y]),
   λi H=>∃xs ys,qS K H l xs/\qS K H m ys/\(xs.length<=i\/ys.length<=i)⟩
def pI(K:ak)(src:Src)(a:af)(H:Hp)(XV μ:List af):Prop:=∀hid' H' c_ O',Mv H XV μ H' hid' c_->oN K H' hid' c_ O'->∃ds vs,qS K H' a vs/\oO K H' hid' c_ ds vs/\∀i,src.get O' i=ds[i]?
section
def pI.val(l:LstAt K H XV μ a vs)(q:oO K H XV μ ds vs):pI K (.val ds) a H XV μ:=λb d e f m c=>⟨ds,vs,(l.mv m).sq,q.mv m,λ_=>rfl⟩
def pI.mv(h:pI K src a H XV μ)(e:Mv H XV μ H1 zU f_):pI K src a H1 zU f_:=λb d f g m c=>h b d f g (e.trans m) c
def oU.zip(G:pI K s1 a H XV μ)(I:pI K s2 b H XV μ):oU K (Itz K a b) (.zip s1 s2) H XV μ:=by
 intro e o q f m c i;obtain⟨J,g,h,r,L⟩:=G e o q f m c;obtain⟨M,j,l,s,N⟩:=I e o q f m c;show match (match s1.get f i,s2.get f i with|some x,JU y=>JU (D.tup [x,y])|_,_=>J9) with|some d=>_|none=>_
 rw[L,N];cases t:J[i]? with
 | none=>
  exact⟨g,j,h,l,.inl (by rw[<- r.length];exact aP.mp t)⟩
 | some x=>
  cases u:M[i]? with
  | none=>
   exact⟨g,j,h,l,.inr (by rw[<- s.length];exact aP.mp u)⟩
  | some y=>
   obtain⟨v,A,O⟩:=r.get t;obtain⟨w,B,P⟩:=s.get u;refine⟨⟨g,j,v,w,h,l,A,B⟩,λz Y Q=>?_⟩;obtain⟨p,Z,w',n,rfl,S,U,rfl⟩:=Q;have C:=S g h;rw[A] at C;cases C;have E:=U j l;rw[B] at E;cases E;exact⟨.laid n,c.laid n,J5.newT c n (.cons O (.cons P .nil))⟩
end
noncomputable def Im:D->Option Src
 |.lst ds=>JU (.val ds)
 |.own k=>JU (.own k)
 |_=>J9
def zn8(t:DA):DI:=λσ O=>(t σ O).bnd λxs O1=>match xs with
 | [x,y]=>match Im x,Im y with
  |some p,JU q=>.ok (.zip p q) O1
  |_,_=>.bad
 |_=>.bad
section
def zdD:bA "zip" = JU (.type "zip"):=by boot_by_name
def Y4{i j:Nat}{x y:aA}{c d e:Pos}{f:Nat}(g:X.calm=Ka)(b:X.N.Nodup)(h:X.N[i]?=JU x)(l:X.N[j]?=JU y)(m:Loc X.env.scope x)(n:Loc X.env.scope y)
  (o:X.fn x=Ka\/X.env.scope.names.lookup x=JU .local) (a:X.fn y=Ka\/X.env.scope.names.lookup y=JU .local):PG X (.Tuple [.Name x c,.Name y d] f e) ((Tg.two i j).rd X.K):=
 Zl g (Tt (L6 b h m o) (Tt (L6 b l n a) zgY))
def yQ:List D->Option (List Int)
 |[]=>JU []
 |.int i::r=>(yQ r).map (i :: ·)
 |_=>J9
theorem L9:∀{ds}{vs}{ns},oO K H XV μ ds vs->yQ ds=JU ns->vs=ns.map V.int
 |[],vs,ys,h,e=>by unfold oO at h;subst h;cases e;rfl
 | d::ds,vs,ys,h,e=>by
  obtain⟨v,r,rfl,a,b⟩:=h;cases d with
  | int i=>
   unfold yQ at e;cases q:yQ ds with
   |none=>rw[q] at e;cases e
   | some zs=>
    rw[q] at e;cases e;unfold J5 at a;subst a;rw[L9 b q];rfl
  |_=>cases e
def AR:Ow->List D->R D:=λO xs=>match xs with
 | [.str cs]=>match lh ⟨cs.toArray⟩ with
  |some n=>if cs.length<=640 then .ok (.int n) O else .bad
  |none=>.bad
 |xs=>KR O xs
def zaF:oY X (.type "int") (λxs H Q=>∃x n,xs=[.str x]/\lh x=JU n/\x.length<=640/\Q (.int n) H):=by intro a s d H xs e Q I r h;obtain⟨x,n,rfl,b,c,q⟩:=h;obtain⟨u,rfl,t,rfl⟩:=uW r;exact PySem.W.KIN.call_text b c ⟨.int _,H,I.tok _,⟨_,rfl⟩,q⟩
noncomputable def QS:List V->Hp->VK->Prop:=λxs H Q=>((∃i,xs=[.int i]/\Q (.int i) H) \/ ∃k,xs=[.bl k]/\Q (.int (if k then 1 else 0)) H) \/ ∃x n,xs=[.str x]/\lh x=JU n/\x.length<=640/\Q (.int n) H
def zbg:oY X (.type "int") QS:=oY.or zau zaF
def zgv:vp X Ex QS AR:=by
 intro H a e O j f Q c d q;unfold AR at q;split at q
 ·rename_i g;obtain⟨v,rfl,b⟩:=uz d;unfold J5 at b;subst b;split at q
  ·rename_i n h;obtain⟨i,q⟩:=post.ite q;refine .inr ⟨_,n,rfl,h,?_,post.here q c s9⟩;show g.toArray.size<=640;simpa using i
  ·exact aj q
 ·exact .inl (Zp H a e O _ f Q c d q)
end
def Callee.self(c:Callee P w K mg base x k n F):Callee P w K mg base x k n F:=c
section
variable{X:Cx}{Ex:Nat->Hp->Prop}{a_:St}{H:Hp}{XV μ:List af}{O:Ow}
def zdS:vI X Ex (.Pass pos) rY:=AZ zi0 λXV μ c O E a_ H a b q=>q a_ H μ .refl a b
def CC(tab:List (Int×Int)):List (Key×V):=tab.map λkv=>(eN kv.1,V.int kv.2)
noncomputable def uV(tab:List (Int×Int))(i:Int):Option Int:=(tab.find? λkv=>kv.1==i).map (·.2)
def Fg(tab:List (Int×Int))(i:Int):Option Int:=match rR (AX [] (CC tab)) (eN i) with
 |some (.int v)=>JU v
 |_=>J9
def QA(at_:List (Int×Int)->Int->Option Int)(tab:List (Int×Int))(t:DE):DE:=λσ O=>(t σ O).bnd λx O1=>match x with
 | .int i=>match at_ tab i with
  |some v=>.ok (.int v) O1
  |none=>.bad
 |_=>.bad
def HV:List (Int×Int)->DE->DE:=QA Fg
def HW:List (Int×Int)->DE->DE:=QA uV
theorem Vi:∀{tab:List (Int×Int)},Q (tab.map λkv=>(V.int kv.1,V.int kv.2)) H->FA (tab.map λkv=>(tC (.int kv.1),tC (.int kv.2))) σ H Q
 |[],h=>h
 | kv::r,h=>by
  show FA (r.map λkv=>(tC (.int kv.1),tC (.int kv.2))) σ H λa b=>Q ((V.int kv.1,V.int kv.2)::a) b;exact Vi h
def Zb(a:List (Int×Int))(h:HA X PU keys values A6)(e:A6=a.map λkv=>(tC (.int kv.1),tC (.int kv.2)))(m:keys.all (·.isSome)=Ka)(n:keys.length=values.length)(o:keys≠[])(s:keys.length<=15)(t:a.length<=15)
  (u:X.A.units+1<cLine) (x:PD X Ex i ti) (y:Cu i):PD X Ex (.Subscript (.Dict keys values PU) i pos) (HV a ti):=
 sJ (So u (zhW h m n o s) x.out y) λXV μ N O a_ H Q B g q=>λp f=>by
  subst e;refine Vi ⟨rO,CC a,by simp[CC,kV],by simpa [CC] using t,?_⟩;rw[zhn];have l:Ext H μ (upd H p (.dK (AX [] (CC a)))) μ:=.laid f;refine rd.go (B.ext l) (g.laid f) (post.ext q l) λd C v E G P I J r b=>?_;cases d with
  | int j=>
   unfold J5 at r;subst r;have b:rP Ex X.K E XV G (match Fg a j with|some v=>.ok (.int v) C|none=>.bad) Q:=b;cases c:Fg a j with
   |none=>rw[c] at b;exact aj b
   | some v=>
    rw[c] at b;have L:rR (AX [] (CC a)) (eN j)=JU (.int v):=by
     unfold Fg at c;split at c
     ·rename_i w M;cases c;exact M
     ·cases c
    refine⟨p,.int v,rfl,.inl ⟨AX [] (CC a),eN j,.inl (I.keep p _ rO (g.not_in f).2),rfl,L.symm⟩,post.here b J s9⟩
  |_=>exact aj b
noncomputable def HU:List DictEntry->List (Int×Int)->Bool
 |[],[]=>Ka
 |e::es,(k,v)::r=>(match e.key with|.int i _=>i==k|_=>Kb)&&(e.hash==hashInt k)&&(match e.val with|.int i _=>i==v|_=>Kb)&&HU es r
 |_,_=>Kb
def HP(o:Obj)(tab:List (Int×Int)):Bool:=(match o.cls with|.type n=>n == "dict"|_=>Kb)&&o.dict.isNone&&o.slots.isEmpty&&decide ((tab.map (·.1)).Nodup)&&(match o.data with|.dict es _=>HU es.toList tab|_=>Kb)
structure Cy(K:ak)(mg:aA->Option ae)(x:aA)(tab:List (Int×Int)):Prop where
 ex:∃e o,mg x=JU (.ref e)/\K.lookup e=JU o/\HP o tab=Ka/\(e==sysModules)=Kb
theorem U4:∀{es:List DictEntry}{tab},HU es tab=Ka->∃a:List (Int×ae),Pairs (intKind P w) es a/\(∀e∈es,∃k,(intKind P w).is k e.key=Ka/\e.hash=(intKind P w).hash k)/\a.map (·.1)=tab.map (·.1)/\
  ∀i,(valueAt a i).isSome=(uV tab i).isSome/\∀v,uV tab i=JU v->∃t,valueAt a i=JU (.int v t)
 |[],[],_=>⟨[],.nil,by simp,rfl,λi=>⟨rfl,λv h=>by cases h⟩⟩
 |[],_::_,h=>by cases h
 |_::_,[],h=>by cases h
 | e::es,(k,v)::r,h=>by
  obtain⟨b,key,n⟩:=e;unfold HU at h;simp at h;obtain⟨⟨⟨c,f⟩,d⟩,o⟩:=h;split at c
  ·rename_i i t;split at d
   ·rename_i j u;have c:i=k:=⇑c
    have f:b=hashInt k:=⇑f
    have d:j=v:=⇑d
    subst c d;obtain⟨a,p,s,x,g⟩:=U4 o;have m:(intKind P w).is i (.int i t)=Ka:=by show iE i (.int i t)=Ka;simp[iE]
    refine⟨(i,.int j u)::a,.cons m rfl p,λe he=>?_,by simp[x],λq=>?_⟩
    ·rcases am.mp he with rfl|he
     ·exact⟨i,m,f⟩
     ·exact s e he
    ·unfold valueAt uV;by_cases l:i=q
     ·subst l;simp
     ·have y:(decide ((i,oj j u).1=q))=Kb:=⇑l
      have A:((i,j).1==q)=Kb:=⇑l
      rw[fk,fk,y,A];exact g q
   ·cases d
  ·cases c
def zdL{P}{w}{o}{tab}(h:HP o tab=Ka):∃f:Int->Option ae,(∀(b:aX)(e),b.get? e=JU o->b.MapOf (intKind P w) e f)/\∀i,(f i).isSome=(uV tab i).isSome/\∀v,uV tab i=JU v->∃t,f i=JU (.int v t):=by
 obtain⟨q,l,m,c⟩:=o;unfold HP at h;simp at h;obtain⟨⟨⟨⟨a,r⟩,s⟩,u⟩,d⟩:=h;split at a
 ·rename_i n;have a:n = "dict":=⇑a
  split at d
  ·rename_i x y;obtain⟨A,p,B,C,g⟩:=U4 d;refine⟨valueAt A,λb e j=>?_,g⟩;refine Heap.DictOf.mapOf ⟨_,x,y,j,⟨?_,?_,?_⟩,rfl,?_,p,by rw[C];exact u⟩
   ·show eU n=_;rw[a]
   ·simpa using r
   ·simpa using s
   ·intro e j;exact B e ⇑j
  ·cases d
 ·cases a
def S9(h:Cy X.K X.mg x tab):∃e,X.mg x=JU (.ref e)/\(e==sysModules)=Kb/\∃f:Int->Option ae,(∀(a)(a_:St)(H:Hp)(s),L2.Inv X a a_ H s->s.heap.MapOf (intKind X.prog X.w) e f)/\
  ∀i,(f i).isSome=(uV tab i).isSome/\∀v,uV tab i=JU v->∃t,f i=JU (.int v t):=by obtain⟨e,o,c,d,g,j⟩:=h.ex;obtain⟨f,m,b⟩:=zdL g;exact⟨e,c,j,f,λa a_ H s I=>m _ e (I.kIn e o d),b⟩
def MN(i)(t):(intKind P w).is i (.int i t)=Ka:=by show iE i (.int i t)=Ka;simp[iE]
def zgF(h:Cy X.K X.mg x tab)(C:Gl X x)(E:PD X Ex i ti)(G:Cu i)(J:sU x:=by decide):PD X Ex (.Subscript (.Name x p) i pos) (HW tab ti):=by
 obtain⟨e,L,h4,f,N,m⟩:=S9 h;refine⟨?_⟩;rintro a s a_ H Q I ⟨XV,μ,σ,O,P,S,q⟩;refine LB ie.lookup G (IK (v:=.ref e) C L rfl J a s a_ H (λv n=>v=.ref e/\n=H) I ⟨rfl,rfl⟩ |> λz=>qe z λu U ⟨v,n,Y,o,Z,eh⟩=>?_);subst Z eh;cases o;refine qe (E.out a U a_ n _ Y (rd.go P S q (Q1:=λy c=>∃XV g l d,oN X.K c XV g l/\J5 X.K c XV g d y/\rP Ex X.K c XV g (match d with|.int i=>(match uV tab i with|some v=>.ok (.int v) l|none=>.bad)|_=>.bad) Q)
  λd l y c g e2 x2 w r b=>⟨XV,g,l,d,w,r,b⟩)) λu s2 ⟨y,c,B,o,XV,g,l,d,w,r,b⟩=>?_
 have M:=N a a_ c s2 B;cases d with
 | int j=>
  unfold J5 at r;subst r;obtain⟨t,rfl⟩:=o;have b:rP Ex X.K c XV g (match uV tab j with|some v=>.ok (.int v) l|none=>.bad) Q:=b;cases A:uV tab j with
  |none=>rw[A] at b;exact aj b
  | some v=>
   rw[A] at b;obtain⟨t',ht⟩:=(m j).2 v A;exact⟨M.typeIs,j9 (MN j t) M ht ⟨.int v,c,B.tok _,⟨_,rfl⟩,post.here b w s9⟩⟩
 |_=>exact aj b
def Ei(neg:Bool)(tab:List (Int×Int))(t:DE):DE:=λσ O=>(t σ O).bnd λx O1=>match x with
 |.int i=>.ok (.bl (if neg=Ka then !(uV tab i).isSome else (uV tab i).isSome)) O1
 |_=>.bad
def TM(a:Bool)(h:Cy X.K X.mg x tab)(E:Gl X x)(G:PD X Ex i ti)(J:sU x:=by decide):PC X (if a=Ka then .NotIn else .In) i (.Name x p) (rd Ex X.K (Ei a tab ti)):=by
 obtain⟨e,L,C,f,N,A⟩:=S9 h;rintro b s a_ H Q I ⟨XV,μ,σ,O,P,S,q⟩;refine qe (G.out b s a_ H _ I (rd.go P S q (Q1:=λy g=>∃XV l m d,oN X.K g XV l m/\J5 X.K g XV l d y/\rP Ex X.K g XV l (match d with|.int i=>.ok (.bl (if a=Ka then !(uV tab i).isSome else (uV tab i).isSome)) m|_=>.bad) Q)
  λd m y g l e2 x2 n r c=>⟨XV,l,m,d,n,r,c⟩)) λu U ⟨y,g,Y,Z,XV,l,m,d,n,r,c⟩=>?_
 refine qe (IK (v:=.ref e) E L rfl J b U a_ g (λv H1=>v=.ref e/\H1=g) Y ⟨rfl,rfl⟩) λw s3 ⟨v,o,B,yv,ev,eh⟩=>?_;subst ev eh;cases yv;have M:=N b a_ o s3 B;cases d with
 | int j=>
  unfold J5 at r;subst r;obtain⟨t,rfl⟩:=Z;have c:rP Ex X.K o XV l (.ok (.bl (if a=Ka then !(uV tab j).isSome else (uV tab j).isSome)) m) Q:=c;rw[<- (A j).1] at c;cases a with
  |false=>exact wpAny_in_of (MN j t) C M ⟨.bl _,o,B.tok _,rfl,post.here c n vN⟩
  |true=>exact wpAny_notIn_of (MN j t) C M ⟨.bl _,o,B.tok _,rfl,post.here c n vN⟩
 |_=>exact aj c
def zbw(h:Cy X.K X.mg x tab)(a:Gl X x)(b:PD X Ex i ti)(c:sU x:=by decide)(d:behindInMarks .NotIn (.Name x p)=Kb:=by rfl):PD X Ex (.Compare i [.NotIn] [.Name x p] pos) (Ei Ka tab ti):=⟨YA (TM Ka h a b c) d⟩
def Yc(a:oP X.K H XV μ σ a_)(b:oN X.K H XV μ O)(q:yR Ex X.K H XV μ (qI td σ O) Q):tB (rd Ex X.K td) a_ H Q:=
 TC (λXV μ σ O a_ H Q a b q=>⟨XV,μ,σ,O,a,b,q⟩) XV μ σ O a_ H Q a b q
def zao(h:Cy X.K X.mg x tab)(a:Gl X x)(b:PD X Ex i ti)(c:sU x:=by decide)(d:behindInMarks .NotIn (.Name x p)=Kb:=by rfl):rX X Ex (.Compare i [.NotIn] [.Name x p] pos) (qI (Ei Ka tab ti)):=
 IF (Ri (TM Ka h a b c) d) λXV μ g O a_ H Q e f q=>Yc e f q
end
end DL
namespace DL
open PySem L2 PyProof.Rows
section
end
noncomputable def v_:List D->Option l_
 |[]=>JU []
 |.str cs::r=>(v_ r).map (cs :: ·)
 |_=>J9
section
theorem IM{K:ak}:∀{ds:List D}{a:List V}{b:l_},oO K H XV μ ds a->v_ ds=JU b->a=b.map λc=>V.str ⟨c.toArray⟩
 |[],a,ys,h,e=>by unfold oO at h;subst h;cases e;rfl
 | d::ds,a,ys,h,e=>by
  unfold oO at h;obtain⟨v,r,rfl,f,g⟩:=h;cases d with
  | str c=>
   unfold v_ at e;cases q:v_ ds with
   |none=>rw[q] at e;cases e
   | some zs=>
    rw[q] at e;cases e;unfold J5 at f;subst f;rw[IM g q];rfl
  |_=>cases e
def YB:bA "len" = JU (.builtin "len"):=by boot_by_name
def ZV:bA "all" = JU (.builtin "all"):=by boot_by_name
def ziJ:bA "any" = JU (.builtin "any"):=by boot_by_name
def R4:bA "int" = JU (.type "int"):=by boot_by_name
def RY:bA "str" = JU (.type "str"):=by boot_by_name
def Md:bA "tuple" = JU (.type "tuple"):=by boot_by_name
def LQ:bA "list" = JU (.type "list"):=by boot_by_name
def Yw:bA "max" = JU (.builtin "max"):=by boot_by_name
def ID:bA "min" = JU (.builtin "min"):=by boot_by_name
def MP:bA "sorted" = JU (.builtin "sorted"):=by boot_by_name
def EE:bA "isinstance" = JU (.builtin "isinstance"):=by boot_by_name
def zhR:bA "bool" = JU (.type "bool"):=by boot_by_name
def zh9:bA "dict" = JU (.type "dict"):=by boot_by_name
end
end DL
namespace DL
def zgS{α:Type}(a ds:List α)(d:α):(a++d::ds)[a.length]?=JU d:=by simp
theorem UB:∀(ds a J7:List D)(f),ds.length<=f->(∀d∈ds,∀J7:List D,J7.length<4000000->step d O J7=.ok (J7++g d) O)->J7.length+(ds.flatMap g).length+ds.length<4000000->
  qU (.val (a++ds)) step f a.length O J7=.ok (J7++ds.flatMap g) O
 | [],a,J7,f,_,_,_=>by
  cases f<;>(unfold qU;simp[Src.get])
 |d::ds,a,J7,0,h,_,_=>by simp at h
 | d::ds,a,J7,f+1,h,hs,hl=>by
  unfold qU;have e:Src.get (.val (a++d::ds)) O a.length=JU d:=zgS a ds d;rw[e];simp only[dI,aC,aV] at hl;show((step d O J7).bnd λb c=>qU (.val (a++d::ds)) step f (a.length+1) c b)=_;rw[hs d al J7 'd'];show qU (.val (a++d::ds)) step f (a.length+1) O (J7++g d)=_;have:=UB ds (a++[d]) (J7++g d) f ⇑h (λi j=>hs i (ag _ j)) (by rw[aC];lia);rw[bq,List.singleton_append,aC,gL] at this;rw[this];simp
def zjw(q:it0 σ O=.ok (.val ds) O)(v:ds.length<1900000)
  (r:∀d∈ds,uD ts ((qD (qD (σ++aR ext J9) [i]) [i]).set i (JU d)) O=.ok (p d) O) (s:∀d∈ds,p d=Ka->te ((qD (qD (σ++aR ext J9) [i]) [i]).set i (JU d)) O=.ok (e d) O) (o):
  qA o ext it0 (.one i) ts [] te σ O=w_ o (.ok ((ds.filter p).map e) O):=by
 unfold qA BS;rw[q];show w_ o (zE (qU (.val ds) _ ds.length 0 O []))=_;have c:∀d∈ds,∀a:List D,a.length<4000000->AS ⟨it0,.one i,ts⟩ [] te (qD (σ++aR ext J9) (qM [⟨it0,.one i,ts⟩])) d O a=.ok (a++(if p d=Ka then [e d] else [])) O:=by
  intro d j a t;show(match Tg.put (.one i) d (qD (qD (σ++aR ext J9) [i]) [i]) with|some qW=>(uD ts qW O).bnd λb m=>if b=Ka then uM [] te qW m a else .ok a m|none=>.bad)=_;show(uD ts ((qD (qD (σ++aR ext J9) [i]) [i]).set i (JU d)) O).bnd _=_;rw[r d j];show(if p d=Ka then uM [] te _ O a else .ok a O)=_;by_cases f:p d=Ka
  ·rw[Kd f,Kd f];unfold uM;rw[s d j f];show(if a.length<4000000 then _ else _)=_;rw[Kd t]
  ·rw[Kf f,Kf f];simp
 have n:∀l:List D,(l.flatMap λd=>if p d=Ka then [e d] else [])=(l.filter p).map e:=by
  intro l
  induction l with
  |nil=>rfl
  | cons x l ih=>
   rw[dI,ih,eo];by_cases h:p x=Ka
   ·rw[Kd h,Kd h];rfl
   ·rw[Kf h,Kf h];rfl
 have g:((ds.filter p).map e).length<=ds.length:=by rw[ar];exact bu _ _
 have w:=UB ds [] [] ds.length (aw _) c (by rw[n];simp at g ⊢;lia);rw[fq,n,fq] at w;have u:qU (.val ds) (AS ⟨it0,.one i,ts⟩ [] te (qD (σ++aR ext J9) (qM [⟨it0,.one i,ts⟩]))) ds.length 0 O []=.ok ((ds.filter p).map e) O:=w;rw[u];rfl
theorem Uw(I:Nat->Sg->Ow->Prop)(h:∀i σ O d,I i σ O->ds[i]?=JU d->∃σ' a,step d σ O=.nx σ' a/\I (i+1) σ' a):
  ∀(f i)(σ)(O),I i σ O->ds.length<=i+f->i<=ds.length->∃σ' a,sj (.val ds) step f i σ O=.nx σ' a/\I ds.length σ' a
 | 0,i,σ,O,hI,h1,h2=>by
  have:i=ds.length:=by lia
  subst this;refine⟨σ,O,?_,hI⟩;unfold sj;have e:Src.get (.val ds) O ds.length=J9:=by simp[Src.get]
  rw[e]
 | f+1,i,σ,O,hI,h1,h2=>by
  unfold sj;have b:Src.get (.val ds) O i=ds[i]?:=rfl;rw[b];cases e:ds[i]? with
  | none=>
   have:i=ds.length:=by have:=aP.mp e;lia
   subst this;exact⟨σ,O,rfl,hI⟩
  | some d=>
   obtain⟨σ',a,c,g⟩:=h i σ O d hI e;dsimp only;rw[c];exact Uw I h f (i+1) σ' a g 'd' (by have:=(ao.mp e).1;lia)
theorem Ul(I:Nat->Ow->List D->Prop)(h:∀i O J7 d,I i O J7->ds[i]?=JU d->∃a b,step d O J7=.ok a b/\I (i+1) b a):
  ∀(f i)(O)(J7),I i O J7->ds.length<=i+f->i<=ds.length->∃a b,qU (.val ds) step f i O J7=.ok a b/\I ds.length b a
 | 0,i,O,J7,hI,h1,h2=>by
  have:i=ds.length:=by lia
  subst this;refine⟨J7,O,?_,hI⟩;unfold qU;have e:Src.get (.val ds) O ds.length=J9:=by simp[Src.get]
  rw[e]
 | f+1,i,O,J7,hI,h1,h2=>by
  unfold qU;have c:Src.get (.val ds) O i=ds[i]?:=rfl;rw[c];cases e:ds[i]? with
  | none=>
   have:i=ds.length:=by have:=aP.mp e;lia
   subst this;exact⟨J7,O,rfl,hI⟩
  | some d=>
   obtain⟨a,b,g,j⟩:=h i O J7 d hI e;dsimp only;rw[g];exact Ul I h f (i+1) b a j 'd' (by have:=(ao.mp e).1;lia)
theorem yq{α:Type}{f:α->Option α}:∀{l:List α},(∀x∈l,f x=JU x)->qo f l=JU l
 |[],_=>rfl
 | x::l,h=>by
  unfold qo;rw[h x al,yq λy a=>h y (ag _ a)]
section
variable{O:Ow}{ds:List D}
def qp(h:t σ O=.ok x O1):b_ t g_ σ O=.ok [x] O1:=by show((t σ O).bnd _)=_;rw[h];rfl
def qX(a:t σ O=.ok x O1)(b:u σ O1=.ok y O2):b_ t (b_ u g_) σ O=.ok [x,y] O2:=by show((t σ O).bnd _)=_;rw[a];show((b_ u g_ σ O1).bnd _)=_;rw[qp b];rfl
def FV(a:t σ O=.ok x O1)(b:tA σ O1=.ok ds O2):b_ t tA σ O=.ok (x::ds) O2:=by show((t σ O).bnd _)=_;rw[a];show((tA σ O1).bnd _)=_;rw[b];rfl
def Fy(h:tA σ O=.ok ds O1)(a:ds.length=n):n_ n F tA σ O=F ds O1:=by show((tA σ O).bnd _)=_;rw[h];show(if ds.length=n then _ else _)=_;rw[Kd a]
def I9(h:tA σ O=.ok ds O1):qh f tA σ O=f O1 ds:=by show((tA σ O).bnd _)=_;rw[h];rfl
def A1(a:ta σ O=.ok x O1)(b:tb σ O1=.ok y O2):i_ f ta tb σ O=f O2 x y:=by show((ta σ O).bnd _)=_;rw[a];show((tb σ O1).bnd _)=_;rw[b];rfl
def uf(h:t σ O=.ok (.bl b) O1):qI t σ O=.ok b O1:=by show((t σ O).bnd _)=_;rw[h];rfl
def xw(h:t σ O=.ok (.bl b) O1):sI t σ O=.ok b O1:=by show((t σ O).bnd _)=_;rw[h];rfl
def yr(h:c σ O=.ok b O1):vo c σ O=.ok (!b) O1:=by show((c σ O).bnd _)=_;rw[h];rfl
def u4(h:t σ O=.ok (.lst ds) O1):qG t σ O=.ok (.val ds) O1:=by show((t σ O).bnd _)=_;rw[h];rfl
def BR(h:t σ O=.ok (.tup ds) O1):qG t σ O=.ok (.val ds) O1:=by show((t σ O).bnd _)=_;rw[h];rfl
def Ss(h:t σ O=.ok x O1):qH i t σ O=.nx (σ.set i (JU x)) O1:=by show((t σ O).bnS _)=_;rw[h];rfl
def tQ(h:t σ O=.ok x O1):qm t σ O=.rt x O1:=by show((t σ O).bnS _)=_;rw[h];rfl
def Mw(h:t σ O=.ok x O1):t7 t σ O=.nx σ O1:=by show((t σ O).bnS _)=_;rw[h];rfl
def BJ(h:c σ O=.ok b O1):rW c a d σ O=if b=Ka then a σ O1 else d σ O1:=by show((c σ O).bnS _)=_;rw[h];rfl
def yV(h:a σ O=.nx σ' O1):qd a d σ O=d σ' O1:=by show(match a σ O with|.nx σ' O'=>_|r=>r)=_;rw[h]
def SR(h:a σ O=.rt x O1):qd a d σ O=.rt x O1:=by show(match a σ O with|.nx σ' O'=>_|r=>r)=_;rw[h]
def LD(h:it σ O=.ok src O1):uC it g body σ O=sj src (λd σ O=>match g.put d σ with|some σ'=>body σ' O|none=>.bad) (src.size O1) 0 σ O1:=by show((it σ O).bnS _)=_;rw[h];rfl
def A3(h:tA σ O=.ok [.int (n:Nat)] O1)(b:n<100000):uE tA σ O=.ok (.val ((aN n).map λ(i:Nat)=>D.int (i))) O1:=by
 have a:-1000000<=((n):Int)/\((n):Int)<=1000000:=by constructor<;>lia
 unfold uE;rw[h];dsimp only[R.bnd];rw[Kd a];unfold Rq;have c:(((n):Int)-0).toNat=n:=by lia
 congr 2;refine jh λi _=>?_;rw[Int.zero_add]
def CV(a:i<ds.length):qJ O (.tup ds) (.int (i))=.ok ds[i] O:=by show(match L2.atI ds (i) with|some d=>R.ok d O|none=>R.bad)=_;rw[L2.atI_nat (au a)]
def L5(a:i<ds.length):qJ O (.lst ds) (.int (i))=.ok ds[i] O:=by show(match L2.atI ds (i) with|some d=>R.ok d O|none=>R.bad)=_;rw[L2.atI_nat (au a)]
end
theorem Tj(O)(n):∀l:List Int,qo (qZ O n) (l.map D.int)=JU (l.map jK)
 |[]=>rfl
 | x::l=>by
  have e:qZ O n (.int x)=JU (.int x):=by cases n<;>rfl
  show qo (qZ O n) (D.int x::l.map D.int)=_;unfold qo;rw[e,Tj O n l];rfl
def ZQ(O)(l:List Int):qf rB O (.lst (l.map D.int)) (.lst [])=.ok (.bl l.isEmpty) O:=by
 unfold qf py;have e:qZ O 8 (.lst (l.map D.int))=JU (.list (l.map jK)):=by
  show(qo (qZ O 7) (l.map D.int)).map fy=_;rw[Tj];rfl
 rw[e];cases l<;>rfl
theorem Tu{α:Type}{src}{step:D->Ow->List D->R (List D)}{O}{inj:α->D}{g:α->List D}{all:List α}(c:∀i,src.get O i=(all.map inj)[i]?):∀(ds b:List α)(J7)(f),all=b++ds->ds.length<=f->
  (∀a∈ds,∀J7:List D,J7.length<4000000->step (inj a) O J7=.ok (J7++g a) O)->J7.length+(ds.flatMap g).length+ds.length<4000000->qU src step f b.length O J7=.ok (J7++ds.flatMap g) O
 | [],b,J7,f,ha,_,_,_=>by
  have e:src.get O b.length=J9:=by rw[c,ha];simp
  cases f<;>(unfold qU;rw[e];simp)
 |d::ds,b,J7,0,_,h,_,_=>by simp at h
 | d::ds,b,J7,f+1,ha,h,hs,hl=>by
  unfold qU;have e:src.get O b.length=JU (inj d):=by rw[c,ha];simp
  rw[e];simp only[dI,aC,aV] at hl;show((step (inj d) O J7).bnd λj l=>qU src step f (b.length+1) l j)=_;rw[hs d al J7 'd'];show qU src step f (b.length+1) O (J7++g d)=_;have:=Tu c ds (b++[d]) (J7++g d) f (by rw[ha];simp) ⇑h (λm n=>hs m (ag _ n)) (by rw[aC];lia);rw[aC,gL] at this;rw[this];simp
theorem Ga{α β:Type}(p:α->Bool)(e:α->β):∀l:List α,(l.flatMap λd=>if p d=Ka then [e d] else [])=(l.filter p).map e
 |[]=>rfl
 | x::l=>by
  rw[dI,Ga p e l,eo];by_cases a:p x=Ka
  ·rw[Kd a,Kd a];rfl
  ·rw[Kf a,Kf a];rfl
def Ey{α:Type}{ext}{it0}{g}{ts}{te}{σ}{O O0}{src}{l:List α}{inj:α->D}{p:α->Bool}{e:α->D}{τ:α->Sg}{o}(n:it0 σ O0=.ok src O)(q:∀i,src.get O i=(l.map inj)[i]?)(r:src.size O=l.length)(y:l.length<1900000)
  (s:∀a∈l,g.put (inj a) (qD (qD (σ++aR ext J9) (g.slots++[])) (g.slots++[]))=JU (τ a)) (t:∀a∈l,uD ts (τ a) O=.ok (p a) O) (u:∀a∈l,p a=Ka->te (τ a) O=.ok (e a) O):
  qA o ext it0 g ts [] te σ O0=w_ o (.ok ((l.filter p).map e) O):=by
 unfold qA BS;rw[n];show w_ o (zE (qU src _ (src.size O) 0 O []))=_;have d:∀a∈l,∀c:List D,c.length<4000000->AS ⟨it0,g,ts⟩ [] te (qD (σ++aR ext J9) (qM [⟨it0,g,ts⟩])) (inj a) O c=.ok (c++(if p a=Ka then [e a] else [])) O:=by
  intro a j c v;show(match g.put (inj a) (qD (qD (σ++aR ext J9) (g.slots++[])) (g.slots++[])) with|some qW=>(uD ts qW O).bnd λb m=>if b=Ka then uM [] te qW m c else .ok c m|none=>.bad)=_;rw[s a j];show(uD ts (τ a) O).bnd _=_;rw[t a j];show(if p a=Ka then uM [] te _ O c else .ok c O)=_;by_cases f:p a=Ka
  ·rw[Kd f,Kd f];unfold uM;rw[u a j f];show(if c.length<4000000 then _ else _)=_;rw[Kd v]
  ·rw[Kf f,Kf f];simp
 have h:((l.filter p).map e).length<=l.length:=by rw[ar];exact bu _ _
 have w:=Tu q l [] [] l.length rfl (aw _) d (by rw[Ga];simp at h ⊢;lia);rw[Ga,fq] at w;have x:qU src (AS ⟨it0,g,ts⟩ [] te (qD (σ++aR ext J9) (qM [⟨it0,g,ts⟩]))) (src.size O) 0 O []=.ok ((l.filter p).map e) O:=by rw[r];exact w
 rw[x];rfl
section
variable{α:Type}{ext:Nat}{it0:DI}{i:Nat}{t:DT}{te:DE}{σ:Sg}{O O0:Ow}{l:List α}{inj:α->D}{p:α->Bool}{e:α->D}{τ:α->Sg}{o:Bool}
def Jb{σ}{O}{b}(h:t σ O=.ok b O):uD [t] σ O=.ok b O:=by show((t σ O).bnd _)=_;rw[h];cases b<;>rfl
def zt(b:it0 σ O0=.ok (.val (l.map inj)) O)(c:l.length<1900000)(d:∀a,(qD (qD (σ++aR ext J9) [i]) [i]).set i (JU (inj a))=τ a)(f:∀a∈l,t (τ a) O=.ok (p a) O)(g:∀a∈l,p a=Ka->te (τ a) O=.ok (e a) O):
  qA o ext it0 (.one i) [t] [] te σ O0=w_ o (.ok ((l.filter p).map e) O):=
 Ey b (λ_=>rfl) (by show(l.map inj).length=_;simp) c (λa _=>congrArg JU (d a)) (λa h=>Jb (f a h)) g
def yi(c:it0 σ O0=.ok (.val (l.map inj)) O)(d:l.length<1900000)(f:∀a,(qD (qD (σ++aR ext J9) [i]) [i]).set i (JU (inj a))=τ a)(h:∀a∈l,te (τ a) O=.ok (e a) O):
  qA o ext it0 (.one i) [] [] te σ O0=w_ o (.ok (l.map e) O):=by have:=Ey (o:=o) (g:=.one i) (ts:=[]) c (λ_=>rfl) (by show(l.map inj).length=_;simp) d (λa _=>congrArg JU (f a)) (λa b=>rfl) λa b _=>h a b;rw[this,ji.mpr (λ_ _=>rfl)]
end
def FE{α:Type}{it}{i}{body}{σ}{O0 O}{l:List α}{inj:α->D}(g:it σ O0=.ok (.val (l.map inj)) O)(I:Nat->Sg->Ow->Prop)(h:∀(k)a σ O,l[k]?=JU a->I k σ O->∃σ' b,body (σ.set i (JU (inj a))) O=.nx σ' b/\I (k+1) σ' b)(m:I 0 σ O):
  ∃σ' b,uC it (.one i) body σ O0=.nx σ' b/\I l.length σ' b:=by
 obtain⟨σ',b,n,f⟩:=Uw (step:=λd σ O=>match Tg.put (.one i) d σ with|some σ'=>body σ' O|none=>.bad) I (λj σ O d o c=>by
  rw[aZ] at c;cases e:l[j]? with
  |none=>rw[e] at c;cases c
  | some a=>
   rw[e] at c;cases c;exact h j a σ O e o) (l.map inj).length 0 σ O m 'k' (bO _)
 rw[ar] at f;exact⟨σ',b,(LD g).trans n,f⟩
theorem Ms:∀l:List Bool,AE (l.map D.bl)=JU l
 |[]=>rfl
 | x::l=>by
  show(AE (l.map D.bl)).map (x :: ·)=_;rw[Ms l];rfl
def ze4{α:Type}(O)(l:List α)(p:α->Bool):D3 O [.lst (l.map λa=>D.bl (p a))]=.ok (.bl (l.any p)) O:=by
 show(match AE (l.map λa=>D.bl (p a)) with|some bs=>R.ok (D.bl (bs.any id)) O|none=>R.bad)=_;have:(l.map λa=>D.bl (p a))=(l.map p).map D.bl:=by rw[bw];rfl
 rw[this,Ms];show R.ok (D.bl _) O=_;rw[List.any_map];rfl
def EA{α:Type}(O)(l:List α)(p:α->Bool):zq O [.lst (l.map λa=>D.bl (p a))]=.ok (.bl (l.all p)) O:=by
 show(match AE (l.map λa=>D.bl (p a)) with|some bs=>R.ok (D.bl (bs.all id)) O|none=>R.bad)=_;have:(l.map λa=>D.bl (p a))=(l.map p).map D.bl:=by rw[bw];rfl
 rw[this,Ms];show R.ok (D.bl _) O=_;rw[List.all_map];rfl
end DL
namespace DL
open PySem L2
structure XAt(h0:aX)(H:Hp)(h:aX)(a:af)(C:ae):Prop where
 ex:∃oe vs,h.get? a=JU oe/\(oe.cls=C/\oe.dict=J9)/\oe.data=.fields vs/\1<vs.size/\(vs[1]?=JU .none \/ ∃T oT ts,vs[1]?=JU (.ref T)/\T≠a/\h0.get? T=J9/\H T=J9/\h.get? T=JU oT/\oT.data=.fields ts/\ts[3]?=JU .none)
 new:h0.get? a=J9
 free:H a=J9
structure Kp(h0:aX)(H:Hp)(fs:List af)(h h':aX):Prop where
 keep:∀b o,h.get? b=JU o->b∉fs->(H b≠J9\/h0.get? b≠J9)->h'.get? b=JU o
 slot:∀b o,h.get? b=JU o->b∈fs->∃sl,h'.get? b=JU { o with slots:=sl }
 there:∀b o,h.get? b=JU o->∃o',h'.get? b=JU o'
 size:h.objs.size<=h'.objs.size
section
end
open PyProof.Rows (AllBare)
def P8(P:aU)(w:be)(Cl:Nat->ae):zh:=λouter H s E e s'=>∃a c H',e=.ref a/\s'.os=s.os/\0<s'.toks/\iy s'.gens/\Un (vD outer) [] H H' s.heap s'.heap/\HOk P w H' s'.heap/\XAt s.heap H' s'.heap a (Cl c)/\E (Cl c) J9 H'
abbrev Xk(Cl:Nat->ae)(E:XK):Nat->Hp->Prop:=λc H=>E (Cl c) J9 H
def Kp.hok(k:Kp h0 H fs h h')(x:L2.HOk P w H h)(c:∀b∈fs,H b=J9):L2.HOk P w H h':=λa o e=>
 (x a o e).stay (λb u hb q=>k.keep b u q (λz=>by
  rcases hb with rfl|hb
  ·rw[c _ z] at e;cases e
  ·rw[c _ z] at hb;cases hb) (.inl (by
  rcases hb with rfl|hb
  ·rw[e];exact λz=>nomatch z
  ·rw[hb];exact λz=>nomatch z))) (λ_ q=>q) λ_ _ q=>q
section
end
structure pd(Cl:Nat->ae)(P:aU)(w:be)(K:ak)(mg:aA->Option ae)(base:aX)(x:aA)(k n:Nat)(F:qx):Prop where
 ex:∃f fd ps,mg x=JU (.ref f)/\cU K (.ref f)=Ka/\Binds K fd ps []/\o5 P w K mg base (P8 P w Cl) k f fd ps (KD K (Xk Cl) n F)
section
variable{Cl:Nat->ae}{P:aU}{w:be}{K:ak}{mg:aA->Option ae}{base:aX}{k n:Nat}{x:aA}{F G:qx}
def pd.imp(c:pd Cl P w K mg base x k n F)(h:∀ds O H XV μ Ex Q,oN K H XV μ O->rP Ex K H XV μ (G ds O) Q->rP Ex K H XV μ (F ds O) Q):pd Cl P w K mg base x k n G:=by obtain⟨f,b,e,g,i,j,l⟩:=c.ex;refine⟨f,b,e,g,i,j,l.imp λo H Q E ⟨m,XV,μ,ds,O,d,a,q⟩=>⟨m,XV,μ,ds,O,d,a,h ds O H XV μ _ Q a q⟩⟩
def pd.bad(c:pd Cl P w K mg base x k n F):pd Cl P w K mg base x k n (λ_ _=>.bad):=c.imp λ_ _ _ _ _ _ _ _ q=>aj q
end
open PyProof.Rows (AllBare IntsAre)
section
def Inv.fake(I:L2.Inv X YP σ H s)(e:X.N[i]?=JU x)(f:¬ vH X.env.scope x):L2.Inv X YP (σ.set i (JU v)) H s:=by
 obtain⟨m,g,h⟩:=I.loc;refine⟨I.ok,I.os,I.bare,I.base,⟨m,g,λj y w a b c=>?_⟩,I.cell,I.free,I.freeC,I.pin,I.hok,by rw[d9];exact I.len,I.tk⟩;by_cases d:j=i
 ·subst d;rw[e] at a;cases a;exact absurd c f
 ·rw[bg (bN d)] at b;exact h j y w a b c
def tL.fake(b:X.N[i]?=JU x)(c:¬ vH X.env.scope x)(h:tL X body t):tL X body λD σ H=>t D (σ.set i (JU v)) H:=
 λa s σ H D I q=>h a s _ H D (Inv.fake I b c) q
end
def o4.empty(h:H P=JU (.tbl #[])):o4 H P:=⟨#[],h,trivial,λa b e=>by cases e⟩
noncomputable def AN(K:ak)(Ec:XK->Nat->Hp->Prop)(n:Nat)(P:af)(F:qx):Sp:=λvs H Q E=>vs.length=n/\∃XV μ ds O,oO K H XV μ ds vs/\oN K H XV μ O/\o4 H P/\rP (Ec E) K H XV μ (F ds O) Q
def Af(n i:Nat)(P:Nat)(t:DS):qx:=λds O=>fin (t ((ds.map JU++aR (n-ds.length) J9).set i (JU (.tab P))) O)
structure yk(mg:aA->Option ae)(base:aX)(c Pt:af):Prop where
 hd:nZ base c Pt
 bl:base.BuiltinsAt mg Pt
def zbJ
  (Q:K.In m_.heap) (Cc:m_.heap.Ns b9 mg) (g:m_.heap.Ns builtinsNs mb) (S:∀x:aA,x ≠ "__name__"->mb x=bA x) (Dt:m_.heap.NoLimit) (hg:m_.gens = #[]) (qY:0<m_.toks)
  (A:m_.heap.get? a=JU { cls:=.type "list",data:=.seq t.toArray }) (hi:kZ t ns) (hl:ns.length<=aM) (hr:oW k callerA)
  (hC:nZ m_.heap c Pt) (j:m_.heap.get? Pt=JU (n6 #[])) (hK:jo K=Ka) (hB:m_.heap.BuiltinsAt mg Pt)
  (F:∀base:aX,K.In base->base.Ns b9 mg->yk mg base c Pt->o5 P w K mg base CX k fa fd [x] sp) (vW:∀(s)(u),kW s fd ⟨[u],[]⟩ [(x,u)])
  (B_:∀H:Hp,H Pt=JU (.tbl #[])->qS K H a (ns.map V.int)->sp [.ref a] H (λv _=>v=.bl Ka) λ_ _ _=>False)
  (U:∀H e i,CX [] H m_ (λ_ _ _=>False) e i->False):
  codeAny (av P w) callerA (.call (.ref fa) ⟨[.ref a],[]⟩) (λr i=>r=.ok (.ret (.bool Ka))/\OldK m_.heap i.heap/\i.os=m_.os/\iy i.gens) m_:=by
 have rv:=Uv hi;have N5:=hi.length;have Y:a≠Pt:=by rintro rfl;rw[A] at j;cases j
 have Z:K.lookup Pt=J9:=by
  cases q:K.lookup Pt with
  |none=>rfl
  | some o=>
   have e:=Q Pt o q;rw[j] at e;cases e;have h2:=aD.mp hK (Pt,_) (PySem.W.mem_of_lookupK q);exact absurd (h2) cz
 -- H: the table, and the NJ where it is J9 of the GB objects
 have p:∀H:Hp,H Pt=JU (.tbl #[])->qS K H a (ns.map V.int)->HOk P w H m_.heap->(∀b,H b≠J9->b=a\/b=Pt)->(H a=J9\/(K.lookup a=J9/\∃o xs,H a=JU (.frz o (.lst xs))))->
   codeAny (av P w) callerA (.call (.ref fa) ⟨[.ref a],[]⟩) (λr i=>r=.ok (.ret (.bool Ka))/\OldK m_.heap i.heap/\i.os=m_.os/\iy i.gens) m_:=by
  intro H hT hS C M WH;have f:∀{b}{o},m_.heap.get? b=JU o->H b=J9->(Ae m_.heap H).get? b=JU o:=λe n=>zeA e n;have A_:∀{b}{o}{es}{ep},m_.heap.get? b=JU o->o.data=.dict es ep->H b=J9:=λ{b o es ep}e d=>by
   cases q:H b with
   |none=>rfl
   | some u=>
    rcases M b (by rw[q];simp) with e'|e'
    ·subst e';rw[A] at e;cases e;have d':=d;cases d'
    ·subst e';rw[j] at e;cases e;have d':=d;cases d'
  have N:∀{b}{m:aA->Option ae},m_.heap.Ns b m->(Ae m_.heap H).Ns b m:=λ{b m}⟨o,es,ep,e,d,r⟩=>⟨o,es,ep,f e (A_ e d),d,r⟩;have WG:K.In (Ae m_.heap H):=λb o e=>f (Q b o e) (by
   cases q:H b with
   |none=>rfl
   | some u=>
    rcases M b (by rw[q];simp) with e'|e'
    ·subst e';rcases WH with z|⟨z,_⟩
     ·rw[z] at q;cases q
     ·rw[z] at e;cases e
    ·subst e';rw[Z] at e;cases e)
  have hM:Mod K mg (Ae m_.heap H):=⟨WG,N Cc,⟨mb,N g,S⟩,let ⟨mc,h1,h2⟩:=Dt;⟨mc,N h1,h2⟩⟩;have e0:pC P w K mg (Ae m_.heap H) callerA [] m_ H:=⟨rfl,hM,λb o e=>Z9 e,i6 (zbB _ _),trivial,λb g=>absurd (show b∈([]:List af) from g) 'k',C,.of_eq hg,qY⟩;have V4:∀{b}{o},m_.heap.get? b=JU o->o.cls ≠ .none->(o.cls ≠ .type "list")->H b=J9:=λ{b o}e d1 d2=>by
   cases q:H b with
   |none=>rfl
   | some u=>
    rcases M b (by rw[q];simp) with e'|e'
    ·subst e';rw[A] at e;cases e;exact absurd rfl d2
    ·subst e';rw[j] at e;cases e;exact absurd rfl d1
  have hL:yk mg (Ae m_.heap H) c Pt:=by
   obtain⟨o,t,E,tf,y,tg,B8,G,tt,I,r1,r⟩:=hC;obtain⟨bm,ob,b1,b2,b3,b4,b5,b6,b7,b8⟩:=hB;exact⟨⟨o,t,E,tf,y,tg,B8,G,tt,f I (V4 I (by rw[r1];exact λz=>nomatch z) (by rw[r1];decide)),r1,r⟩,⟨bm,ob,b1,b2,b3,b4,f b5 (V4 b5 (by rw[b6];exact λz=>nomatch z) (by rw[b6];decide)),b6,b7,b8⟩⟩
  refine fM ((F _ WG (N Cc) hL).run callerA [] m_ H ⟨[.ref a],[]⟩ [.ref a] [.ref a] _ _ hr e0 (vW m_ (.ref a)) (.cons rfl .nil) (B_ H hT hS)) λr i h=>?_;cases r with
  |error e=>exact(U H e i h).elim
  | ok fl=>
   cases fl with
   |next=>exact aj h
   |brk=>exact aj h
   |cont=>exact aj h
   | ret u=>
    obtain⟨⟨v,H',os,J,O,GU,r',q⟩,_⟩:=h;have q':=q;subst q';obtain rfl:u=nJ Ka:=r';obtain⟨L,hT'⟩:=O.tbls Pt #[] hT;have Ay:=GU Pt _ hT';refine⟨rfl,⟨λb o e=>?_,λb o e=>?_⟩,os,J⟩
    ·by_cases y9:b=Pt
     ·subst y9;rw[j] at e;cases e;exact .inr (.inl ⟨(hC.tab j).isCodeTable,rfl,#[],L,rfl,Ay⟩)
     ·cases q:H b with
      |none=>exact .inl (O.keep b o e q (by intro z;exact absurd (show b∈([]:List af) from z) 'k') 'k')
      | some u=>
       rcases M b (by rw[q];simp) with e'|e'
       ·subst e';rcases WH with z|⟨_,ob,xs,z⟩
        ·rw[q] at z;cases z
        ·have z2:=O.frzs b ob _ z;obtain⟨I,_⟩:=C b _ z;obtain⟨e2,_⟩:=GU b _ z2;rw[e] at I;cases I;exact .inl e2
       ·exact absurd e' y9
    ·exact O.there b o e 'k'
 cases hk:K.lookup a with
 | some o=>
  have e:=Q a o hk;rw[A] at e;cases e;refine p (λb=>if b=Pt then JU (.tbl #[]) else J9) (Kd rfl) (.inr ⟨_,t.toArray,_,hk,rfl,rfl,rfl,by rw[aS,N5];exact hl,by simpa using rv⟩) (λb u z=>?_) (λb z=>?_) (.inl (Kf Y))
  ·by_cases g:b=Pt
   ·have l:=(Kd g).symm.trans z;cases l;subst g;exact j
   ·have l:=(Kf g).symm.trans z;cases l
  ·by_cases g:b=Pt
   ·exact .inr g
   ·exact absurd (Kf g) z
 | none=>
  refine p (λb=>if b=Pt then JU (.tbl #[]) else if b=a then JU (.frz { cls:=.type "list",data:=.seq t.toArray } (.lst (ns.map V.int))) else J9) (Kd rfl) (.inl (.inr ⟨{ cls:=.type "list",data:=.seq t.toArray },(Kf Y).trans (Kd rfl)⟩)) (λb u z=>?_) (λb z=>?_) (.inr ⟨hk,_,_,(Kf Y).trans (Kd rfl)⟩)
  ·by_cases g:b=Pt
   ·have l:=(Kd g).symm.trans z;cases l;subst g;exact j
   ·by_cases B:b=a
    ·have l:=((Kf g).trans (Kd B)).symm.trans z;cases l;subst B;exact⟨A,by rw[ar];exact hl,t,_,rv,A⟩
    ·have l:=((Kf g).trans (Kf B)).symm.trans z;cases l
  ·by_cases g:b=Pt
   ·exact .inr g
   ·by_cases B:b=a
    ·exact .inl B
    ·exact absurd ((Kf g).trans (Kf B)) z
def z5X{f d:Pos}{c g:ae}(l:List ae)(h:TriplesOk l)(e:codeAmong d (l++[cr f.line,cr f.col,c])=JU g):codeAmong d l=JU g\/g=c:=by
 fun_induction TriplesOk l with
 | case1=>
  simp only[fq,codeAmong,cr] at e;split at e
  ·cases e;exact .inr rfl
  ·cases e
 | case2 a t b u x rest ih=>
  simp only[gW,codeAmong] at e ⊢;split at e
  ·rename_i i;rw[Kd i];exact .inl e
  ·rename_i i;rw[Kf i];exact ih h e
 |case3 l h1 h2=>exact h.elim
def zaJ{q:aA}{H:Hp}{P c:af}{d:Pos}{ps:Array ae}(i:H P=JU (.tbl ps))(w:H c=J9)(j:af)(x:o4 H j):
  o4 (upd (upd H P (.tbl (ps ++ #[cr d.line,cr d.col,.ref c]))) c (.ext λh=>h.CodeRec (.ref c) q)) j:=by
 have l:∀{b:af}{o:HO},H b=JU o->b≠c:=λe=>sQ e w;obtain⟨y,g,m,u⟩:=x;have a:∀{b:af}{f:aX->Prop},H b=JU (.ext f)->upd (upd H P (.tbl (ps ++ #[cr d.line,cr d.col,.ref c]))) c (.ext λh=>h.CodeRec (.ref c) q) b=JU (.ext f):=λ{b f}e=>by
  rw[qi (l e),qi (QV e i (λz=>nomatch z))];exact e
 by_cases v:j=P
 ·subst v;rw[i] at g;cases g;refine⟨_,by rw[qi (l i),rO],?_,λp n e=>?_⟩
  ·rw[ci];exact TriplesOk_snoc _ _ _ _ m
  ·rw[ci] at e;rcases z5X _ m e with e|e
   ·obtain⟨r,f,rfl,s,t⟩:=u p n e;exact⟨r,f,rfl,a s,t⟩
   ·exact⟨c,_,e,rO,λh z=>⟨q,z⟩⟩
 ·refine⟨y,by rw[qi (l g),qi v];exact g,m,λp n e=>?_⟩;obtain⟨r,f,rfl,s,t⟩:=u p n e;exact⟨r,f,rfl,a s,t⟩
section
abbrev CM(H:Hp)(P c:af)(ps:Array ae)(pos:Pos)(q:aA):Hp:=upd (upd H P (.tbl (ps ++ #[cr pos.line,cr pos.col,.ref c]))) c (.ext λh=>h.CodeRec (.ref c) q)
def ED(a:H P=JU (.tbl ps))(d:H c=J9)(e:H b=JU o)(f:Ef o):CM H P c ps pos q b=JU o:=by
 have g:b≠P:=by rintro rfl;rw[a] at e;cases e;exact f _ rfl
 show upd (upd H P _) c _ b=JU o;rw[qi (sQ e d),qi g];exact e
def Ux(a:H P=JU (.tbl ps))(d:H c=J9)(μ:List af):Ext H μ (CM H P c ps pos q) μ:=
 ⟨⟨[],by simp⟩,λb o e _ f=>ED a d e f,λ_ m=>.inl m,λb h=>yW b (yW b h),λg i=>zaJ a d g i⟩
def z87(d:H P=JU (.tbl ps))(f:H c=J9)(b:oN K H XV μ O):oN K (CM H P c ps pos q) XV μ O:=by refine⟨b.len,b.nd,b.nh,λa m=>yW a (yW a (b.ht a m)),λk a e=>?_⟩;obtain⟨g,h,i,j,l⟩:=b.at_ k a e;exact⟨g,h,i,ED d f j (by intro ps z;cases z),l.ext (Ux d f μ)⟩
def Vs{h a:aX}{c:af}{q:aA}(x:h.CodeRec (.ref c) q)(k:∀o,h.get? c=JU o->a.get? c=JU o):a.CodeRec (.ref c) q:=by obtain⟨f,o,b,t,e,d,r⟩:=x;cases e;exact⟨c,o,b,t,rfl,k o d,r⟩
def ZN{c P:af}{a:jB}{body:bi}{d:dS}{g:Pos}{C:List (aA×af)}{Q:ae->ai->Prop}(I:L2.Inv X YP a_ H s)(L:yk X.mg X.base c P)(uP:X.env.code=.ref c)(ti:o4 H P)
  (r_:closureFor d X.env=pure C) (zW:defaultsOf a X.env=([],[]))
  (h:∀(p:af)(cd v:ae)(i:aX)(G:Tok)(H':Hp),L2.Inv X YP a_ H' { s with heap:=i,toks:=G }->(∀μ,Ext H μ H' μ)->(∀XV μ O,oN X.K H XV μ O->oN X.K H' XV μ O)->H' p=J9->s.heap.objs.size<=p->
   i.get? p=JU { cls:=.type "function",data:=.func (ez "<lambda>" (X.env.qual ++ "<lambda>") a body d C ((X.mg "__name__").getD .none) cd v) }->(∃c N,cd=.ref c/\H' c=JU (.ext N)/\∀h:aX,N h->∃q,h.CodeRec (.ref c) q)->Q (.ref p) { s with heap:=i,toks:=G }):
  aq (av X.prog X.w) X.A (eval (.Lambda a body d g) X.env) Q E s:=by
 obtain⟨l,j,h2,h3⟩:=id ti;have Z:=I.hok P _ j;have hg:=I.mod.glob.keeps I.bk;have hgP:b9≠P:=λz=>by
  obtain⟨o,es,ep,e,S,_⟩:=hg;rw[z,Z] at e;cases e;cases S
 have U:s.heap.BuiltinsAt X.mg P:=by
  obtain⟨bm,ob,b1,J,b3,b4,b5,r⟩:=L.bl;exact⟨bm,ob,b1,J,b3,b4,I.bk _ _ b5,r⟩
 have S:=L.hd.keeps I.bk;refine PySem.W.kla_eval zW ?_;cases Pd:codeAmong g l.toList with
 | some cv=>
  obtain⟨f,N,rfl,k1,k2⟩:=h3 g cv Pd;refine wT I (PySem.W.kla_makeFunctionHit r_ I.ok.glob hg uP S Z h2 Pd U λv i G hk qQ qY=>?_);have B:∀b u,s.heap.get? b=JU u->(i.push { cls:=.type "function",data:=.func (ez "<lambda>" (X.env.qual ++ "<lambda>") a body d C ((X.mg "__name__").getD .none) (.ref f) v) }).get? b=JU u:=λb u e=>ab _ (hk b u e);exact h i.objs.size (.ref f) v _ G H (I.kept B) (λμ=>.refl) (λ_ _ _ z=>z) (I.hok.fresh qQ) qQ (aB _ rfl) ⟨f,N,rfl,k1,k2⟩
 | none=>
  refine wT I (PySem.W.kla_makeFunction r_ I.ok.glob hg uP S Z h2 Pd hgP U λf v i G hx Y q9 uH htb qY=>?_);have y:=I.hok.fresh Y;have M:∀{b:af},H b=J9->b≠P:=λe=>bN (sQ j e);have B:∀b u,b≠P->s.heap.get? b=JU u->(i.push (kG "<lambda>" (X.env.qual ++ "<lambda>") a body d C ((X.mg "__name__").getD .none) f v)).get? b=JU u:=λb u n e=>ab _ (hx b u n e);have Ay:(i.push (kG "<lambda>" (X.env.qual ++ "<lambda>") a body d C ((X.mg "__name__").getD .none) f v)).get? P=JU (n6 (l ++ #[cr g.line,cr g.col,.ref f])):=ab _ htb;have Cb:(i.push (kG "<lambda>" (X.env.qual ++ "<lambda>") a body d C ((X.mg "__name__").getD .none) f v)).CodeRec (.ref f) (X.env.qual ++ "<lambda>"):=Vs uH λo e=>ab _ e;have zP:∀{b:af},s.heap.objs.size<=b->b≠f->CM H P f l g (X.env.qual ++ "<lambda>") b=J9:=λ{b}U n=>by
   have e:=I.hok.fresh U;show upd (upd H P _) f _ b=J9;rw[qi n,qi (M e)];exact e
  refine h i.objs.size (.ref f) v _ G (CM H P f l g (X.env.qual ++ "<lambda>")) ?_ (Ux j y) (λ_ _ _ z=>z87 j y z) (zP (gJ (ei Y q9)) (dZ q9)) (gJ (ei Y q9)) (aB _ rfl) ⟨f,_,rfl,rO,λh z=>⟨_,z⟩⟩;have qV:∀b o,s.heap.get? b=JU o->H b=J9->CM H P f l g (X.env.qual ++ "<lambda>") b=J9:=λb o e n=>by
   show upd (upd H P _) f _ b=J9;rw[qi (bo (aW (aG e) Y)),qi (M n)];exact n
  refine I.step (ch:=[]) (λ_ z=>nomatch z) (λb o _ _ _ e n=>B b o (M n) e) (λb o _ _ _ e n=>⟨o.slots,B b o (M n) e⟩) (λb o _ e n=>qV b o e n) (λb o _ e=>?_)
   (λb xs e=>ED j y e (by intro l z;cases z)) (λb o u e=>ED j y e (by intro l z;cases z)) (λb V0 e=>?_) (λm hm=>?_) ?_ I.bare qY
  ·by_cases x:b=P
   ·subst x;exact⟨_,Ay⟩
   ·exact⟨o,B b o x e⟩
  ·by_cases x:b=P
   ·subst x;rw[j] at e;cases e;exact⟨_,by show upd (upd H b _) f _ b=_;rw[qi (sQ j y),rO]⟩
   ·exact⟨#[],by show upd (upd H P _) f _ b=_;rw[qi (sQ e y),qi x,e];simp⟩
  ·obtain⟨o,es,ep,e,r⟩:=hm;exact⟨o,es,ep,B _ o (M I.free) e,r⟩
  ·intro b u e;by_cases WB:b=f
   ·subst WB;have e':CM H P b l g (X.env.qual ++ "<lambda>") b=_:=rO;rw[e'] at e;cases e;refine⟨Cb,?_,λha vh za zk=>Vs za zk⟩;obtain⟨c2,o,vs,t,z,ho,_⟩:=Cb;cases z;exact⟨o,ho⟩
   ·have e1:=(qi WB).symm.trans e;by_cases x:b=P
    ·subst x;rw[rO] at e1;cases e1;exact Ay
    ·have e2:=(qi x).symm.trans e1;refine(I.hok b u e2).stay (λJ u2 xZ z=>B J u2 (λzz=>?_) z) (λJ z=>ED j y z (by intro l z;cases z)) λJ xs z=>ED j y z (by intro l z;cases z);rcases xZ with rfl|xZ
     ·exact x zz
     ·rw[zz,j] at xZ;cases xZ
end
abbrev yO(q:aA)(scope:dS)(L f:af)(cd:ae)(cl:List (aA×af)):Env:={ scope,locals:=L,globals:=b9,cells:=cl,qual:=q ++ ".<locals>.",func:=JU f,code:=cd,frame:=JU L,builtins:=builtinsNs }
section
end
noncomputable def cxL(CX:zh)(P:aU)(w:be)(K:ak)(mg:aA->Option ae)(base:aX)(N:List aA)(env:Env)(A:bD)(outer:List Env)(s:ai)(H:Hp)(E:XK):Cx where
 prog:=P
 w:=w
 K:=K
 mg:=mg
 base:=base
 A:=A.deeper env
 N:=N
 s₀:=s
 H₀:=H
 env:=env
 outer:=outer
 stack:=env::outer
 ex:=[]
 calm:=Ka
 fn:=λ_=>Kb
 pn:=[]
 xe:=λe s'=>aq (av P w) (A.deeper env) (leaving env e) (λ_ vw=>CX outer H s E e vw) (λe' vw=>CX outer H s E e' vw) s'
section
variable{H:Hp}
def Kp.refl:Kp h0 H fs h h:=⟨λ_ _ e _ _=>e,λb o e _=>⟨o.slots,e⟩,λ_ o e=>⟨o,e⟩,aw _⟩
def Kp.trans(x:Kp h0 H fs h h1)(y:Kp h0 H fs h1 h2):Kp h0 H fs h h2:=
 ⟨λb o e n k=>y.keep b o (x.keep b o e n k) n k,λb o e n=>by
  obtain⟨g,a⟩:=x.slot b o e n;obtain⟨c,d⟩:=y.slot b _ a n;exact⟨c,d⟩,λb o e=>by
  obtain⟨f,a⟩:=x.there b o e;exact y.there b f a,aI x.size y.size⟩
end
section
variable{X:Cx}{YP:List (af×Obj)}{σ:St}{H:Hp}{s:ai}
abbrev Cx.mk'(X:Cx)(a:af):Cx:={ X with A:=X.A.mark (JU (.ref a)),calm:=Kb,xe:=λ_ _=>False }
def Inv.mk'(I:L2.Inv X YP σ H s)(a):L2.Inv (Cx.mk' X a) YP σ H s:=
 ⟨⟨I.ok.mod,I.ok.kind,I.ok.glob,I.ok.blt,I.ok.above,I.ok.inj,I.ok.has,I.ok.cab,λz=>absurd (show Kb=Ka from z) 'u',I.ok.frames,I.ok.stk,I.ok.exf,I.ok.bs,I.ok.bsz,I.ok.noex,I.ok.exfs,I.ok.funs,I.ok.frf⟩,I.os,I.bare,I.base,I.loc,I.cell,I.free,I.freeC,I.pin,I.hok,I.len,I.tk⟩
end
section
end
section
end
section
end
structure znc(nf n y xT:aA)(p0 p1 p2 p3 p5 p6 p7 pq pc:Pos)(kc):Prop where
 hfd:sU nf:=by decide
 hfcd:(nf==("__classdict__":aA))=Kb:=by decide
 hnd:sU n:=by decide
 hncd:(n==("__classdict__":aA))=Kb:=by decide
 hTd:sU xT:=by decide
 hs0:∀env:Env,swapsWith (.Call (.Name nf p1) [] [] p2) J9 p3.line env=pure Kb:=by intro _;rfl
 hsA:∀env:Env,swapsWith (.Constant .none kc pc) (JU (.Name y pq)) p0.line env=pure Kb:=by intro _;rfl
 hs:∀env:Env,lN [.Name y p5] (.Name n p6) p7.line env=pure Kb:=by intro _;rfl
 hw:∀env:Env,lO [.Name y p5] (.Name n p6) env=pure J9:=by intro _;rfl
section
end
section
end
section
end
section
variable{X:Cx}{YP:List (af×Obj)}{σ:St}{H:Hp}{s s2:ai}
def Sd(a:Un fs [] H H h h')(z:h.IsCell c v)(n:H c=J9):h'.IsCell c v:=by obtain⟨o,b,d⟩:=z;obtain⟨f,e⟩:=a.any b n 'k';exact⟨_,e,d⟩
def z9X{b:List (aA×af)}(I:L2.Inv X YP σ H s)(d:Un (vD X.stack) [] H H s.heap s2.heap)(a:∀x c,b.lookup x=JU c->X.env.cells.lookup x=JU c):∀x c,b.lookup x=JU c->(∃v,s2.heap.IsCell c v)/\H c=J9:=λx c e=>by
 obtain⟨v,z⟩:=I.cell x c (a x c e);exact⟨⟨v,Sd d z (I.freeC x c (a x c e))⟩,I.freeC x c (a x c e)⟩
def zei{a:List (aA×af)}(I:L2.Inv X YP σ H s)(b:∀x c,a.lookup x=JU c->X.env.cells.lookup x=JU c):∀x y c,a.lookup x=JU c->a.lookup y=JU c->x=y:=λx y c d e=>I.ok.inj x y c (b x c d) (b y c e)
def zcr{b:List (aA×af)}{a:dS}(I:L2.Inv X YP σ H s)(j:Un (vD X.stack) [] H H s.heap s2.heap)(n:∀x c,b.lookup x=JU c->X.env.cells.lookup x=JU c)(d:∀x,a.names.lookup x=JU .free->∃c,b.lookup x=JU c)
  (f:∀x,a.names.lookup x=JU .free->X.env.scope.names.lookup x=JU .cell\/X.env.scope.names.lookup x=JU .free):
  ∀(i:Nat)x v,X.N[i]?=JU x->σ[i]?=JU (JU v)->a.names.lookup x=JU .free->∃u c,RelV v u/\b.lookup x=JU c/\s2.heap.IsCell c (JU u):=λi x v o p e=>by
 obtain⟨m,A,t⟩:=I.loc;obtain⟨u,r,l⟩:=t i x v o p (.inr (f x e));obtain⟨c,g⟩:=d x e;refine⟨u,c,r,g,?_⟩;rcases l with⟨z,_⟩|⟨_,B,h,w⟩
 ·have y:X.env.scope.names.lookup x=JU .local:=z;rcases f x e with q|q<;>(rw[y] at q;cases q)
 ·have:=n x c g;rw[h] at this;cases this;exact Sd j w (I.freeC x _ h)
end
structure zdi(out sc:dS):Prop where
 kind:sc.kind=.function
 co:sc.isCoroutine=Kb
 gen:sc.isGenerator=Kb
 nd:(sc.names.map (·.1)).Nodup
 cell:∀x∈sc.names,x.2 ≠ .cell
 loc:∀x∈sc.names,x.2 ≠ .local
 frees:∀y∈sc.names,y.2=.free->out.names.lookup y.1=JU .cell\/out.names.lookup y.1=JU .free
def KH(r:RS):R D:=match r with
 |.nx _ O=>.ok .non O
 |.rt d O=>.ok d O
 |_=>.bad
section
end
def ZX{K:ak}{b:XK->Nat->Hp->Prop}{Pt:af}{F:qx}{H:Hp}{a:af}{ns:List Int}(h:∃O,F [.lst (ns.map .int)] []=.ok (.bl Ka) O)(c:H Pt=JU (.tbl #[]))(d:qS K H a (ns.map V.int)):AN K b 1 Pt F [.ref a] H (λv _=>v=.bl Ka) λ_ _ _=>False:=by
 obtain⟨O,h⟩:=h;have f:∀(l:List Int),oO K H [] [] (l.map D.int) (l.map V.int):=λl=>by
  induction l with
  |nil=>exact .nil
  |cons x r ih=>exact .cons s9 ih
 refine⟨rfl,[],[],[.lst (ns.map .int)],[],.cons ?_ .nil,⟨rfl,by simp,by simp,by simp,λk a e=>by simp at e⟩,o4.empty c,?_⟩
 ·unfold J5;exact⟨a,_,rfl,d.imp (λz=>⟨z,by simp,by simp⟩) id,f ns⟩
 ·rw[h];intro v g i _ _ r;unfold J5 at r;exact r
section
end
def pd.frz{Cl}{P}{w}{K}{a:aA->Option ae}{base}{k n}{x}{F:qx}(c:pd Cl P w K a base x k n F):pd Cl P w K a base x k n (Ab F):=
 c.imp λe O H b f g Q d q=>Mn d.len q
def Fb(h:sc.names.lookup z=J9):¬ vH sc z:=by intro v;rcases v with v|v|v<;>(rw[h] at v;cases v)
def YC{K}{x name qual}{f c Pt}{params}{body}{scope}{dV kV doc pm ct oc oc'}{an od od'}{u_ NQ}{vs}(a:gM K b9 x=JU (JU (.ref f)))
  (b:K.lookup f=JU ⟨oc,od,.func (ck name qual params body scope dV kV doc pm an (.ref c) ct),u_⟩) (d:K.lookup c=JU ⟨oc',od',.fields vs,NQ⟩) (e:vs[11]?=JU (.ref Pt)):jM K x=JU (c,Pt):=by unfold jM;rw[a];simp only[b];show(match K.lookup c with|some ⟨_,_,.fields vs,_⟩=>_|_=>J9)=_;simp only[d,e]
structure o8(P:aU)(w:be)(ia:af)(fp:List af)(n:Nat)(Pv:Nat->ae->Prop)(Sx:Nat->aX->Prop):Prop where
 stab:∀i h h',Sx i h->(∀b∈ia::fp,∀o,h.get? b=JU o->h'.get? b=JU o)->Sx i h'
 item:∀(A:bD)(i:Nat)(s:ai)(Q:ae->ai->Prop)(E:ae->ai->Prop),i<n->Sx i s.heap->(∀v h' tk,Pv i v->Sx (i+1) h'->dr ia s.heap h'->Q v { s with heap:=h',toks:=tk })->aq (av P w) A (cn (.ref ia)) Q E s
 done:∀(A:bD)(i:Nat)(s:ai)(Q:ae->ai->Prop)(E:ae->ai->Prop),A.handled=J9->n<=i->Sx i s.heap->(∀h' e,jy ia s.heap h'->(∃o,h'.get? e=JU o/\o.cls=.type "StopIteration")->E (.ref e) { s with heap:=h' })->aq (av P w) A (cn (.ref ia)) Q E s
section
variable{P:aU}{w:be}{A:bD}{E:ae->ai->Prop}{s:ai}
def Ua{α:Type}{Q:α->ai->Prop}(d:A.handled=J9)(h:∀c e,(∀b o,s.heap.get? b=JU o->c.get? b=JU o)->(∃o,c.get? e=JU o/\o.cls=.type "StopIteration")->E (.ref e) { s with heap:=c }):
  aq (av P w) A (newExc (.type "StopIteration") [] >>= λe=>(raiseNew e:Sem α)) Q E s:=by refine aa ?_;simp only[newExc,newTuple];refine aa (cF (?_) (by size_fits));refine aa (m:=firstArgMember _ _) (iG (a:=.none) (by first|rfl|(simp only[firstArgMember];rfl)) (cF ?_ (by size_fits)));simp only[raiseNew];refine aa (wpAny_handled ?_);rw[d];refine aa (ah (wpAny_throw (h _ _ (λb o e=>ab _ (ab _ e)) ⟨_,aB _ rfl,rfl⟩)))
def zcb(l g:af)(a:Array ae)(M:g≠l):o8 P w l [g] a.size (λi v=>a[i]?=JU v) (λi h=>h.IsTupleIter l g i/\h.IsTuple g a) where
 stab:=by
  rintro i h B ⟨⟨o,e,c,d⟩,⟨C,N,r⟩⟩ k;exact⟨⟨o,k l 'k' o e,c,d⟩,⟨C,k g 'k' C N,r⟩⟩
 item:=by
  rintro A i s Q E t ⟨f,u⟩ y;obtain⟨O,m,G,j⟩:=id f;obtain⟨H,n,I,J,p⟩:=id u;have q:a[i]?=JU a[i]:=aQ t;unfold cn;refine aa (cB (name := "__next__") f.typeIs f7 (cj f7 f.typeIs jD ?_ (jp _)));show aq _ _ (field (.ref l) 0 >>= _) _ _ s;refine aa (bV m j (x:=.ref g) rfl ?_);show aq _ _ (if (ef g==gT)=Ka then _ else _) _ _ s;rw[Kf (by exact cz)];show aq _ _ (field (.ref l) 1 >>= _) _ _ s;refine aa (bV m j (x:=.int i 0) rfl ?_);show aq _ _ (seqItems? (.ref g) >>= _) _ _ s;refine aa (cJ n p ?_);simp only[cP,q];refine aa (jq m j 'k' (ah ⟨_,rfl,ah (y _ _ s.toks q ⟨?_,?_⟩ (cX ..))⟩))
  ·exact⟨_,bR _ m (li (ir j _)),(mN ..).trans G,by rw[ir j];simp[cr]⟩
  ·exact⟨H,(cX ..).extBut _ _ M n,I,J,p⟩
 done:=by
  rintro A i s Q E L t ⟨f,u⟩ y;obtain⟨O,m,G,j⟩:=id f;obtain⟨H,n,I,J,p⟩:=id u;have q:a[i]?=J9:=by simp[t]
  unfold cn;refine aa (cB (name := "__next__") f.typeIs f7 (cj f7 f.typeIs jD ?_ (jp _)));show aq _ _ (field (.ref l) 0 >>= _) _ _ s;refine aa (bV m j (x:=.ref g) rfl ?_);show aq _ _ (if (ef g==gT)=Ka then _ else _) _ _ s;rw[Kf (by exact cz)];show aq _ _ (field (.ref l) 1 >>= _) _ _ s;refine aa (bV m j (x:=.int i 0) rfl ?_);show aq _ _ (seqItems? (.ref g) >>= _) _ _ s;refine aa (cJ n p ?_);simp only[cP,q];refine aa (dU (aa (jq m j 'k' ?_)));refine Ua (by first|exact L|(show A.in1.handled=J9;exact L)) λB e k S=>y B e (λb o U z=>k b o ((cX ..).extBut _ _ U z)) S
def zcn(j:af)(x:aA)(t:Tok):o8 P w j [] x.cps.size (λi v=>∃c u,x.cps[i]?=JU c/\v=.str ⟨#[c]⟩ u) (λi h=>h.IsStrIter j "str_ascii_iterator" x t i) where
 stab:=by
  rintro i h p ⟨o,e,c,d⟩ k;exact⟨o,k j 'k' o e,c,d⟩
 item:=by
  rintro A i s Q E m a n;obtain⟨y,g,q,f⟩:=id a;have l:x.cps[i]?=JU x.cps[i]:=aQ m;unfold cn;refine aa (cB (name := "__next__") a.typeIs ft (cj ft a.typeIs iW ?_ (iO _)));show aq _ _ (field (.ref j) 0 >>= _) _ _ s;refine aa (bV g f (x:=.str x t) rfl ?_);show aq _ _ (field (.ref j) 1 >>= _) _ _ s;refine aa (bV g f (x:=.int i 0) rfl ?_);simp only[cP,l];refine aa (jq g f 'k' (aa (wpAny_mkStr (ah ⟨_,rfl,ah (n _ _ _ ⟨_,_,l,rfl⟩ ?_ (cX ..))⟩) (by show 1<=aM;decide))));exact⟨_,bR _ g (li (ir f _)),(mN ..).trans q,by rw[ir f];simp[cr]⟩
 done:=by
  rintro A i s Q E r m a n;obtain⟨y,g,q,f⟩:=id a;have l:x.cps[i]?=J9:=by simp[m]
  unfold cn;refine aa (cB (name := "__next__") a.typeIs ft (cj ft a.typeIs iW ?_ (iO _)));show aq _ _ (field (.ref j) 0 >>= _) _ _ s;refine aa (bV g f (x:=.str x t) rfl ?_);show aq _ _ (field (.ref j) 1 >>= _) _ _ s;refine aa (bV g f (x:=.int i 0) rfl ?_);simp only[cP,l];refine aa (dU (aa (jq g f 'k' (aa (eu ?_)))));refine Ua (by first|exact r|(show A.in1.handled=J9;exact r)) λp e k B=>n p e (λb o C z=>k b o ((cX ..).extBut _ _ C z)) B
def zcm(f l:af)(a:Array ae)(t:l≠f):o8 P w f [l] a.size (λi v=>a[i]?=JU v) (λi h=>h.IsListIter f l i/\h.IsList l a) where
 stab:=by
  rintro i h g ⟨⟨o,e,c,d⟩,⟨p,u,r⟩⟩ k;exact⟨⟨o,k f 'k' o e,c,d⟩,⟨p,k l 'k' p u,r⟩⟩
 item:=by
  rintro A i s Q E j ⟨b,m⟩ n;obtain⟨x,y,r⟩:=id m;exact wpAny_nextOf_list_item b m (aQ j) λg B q=>n _ g s.toks (aQ j) ⟨B,⟨x,q.extBut _ _ t y,r⟩⟩ q
 done:=by rintro A i s Q E C j ⟨b,m⟩ n;exact wpAny_nextOf_list_end C b m (by simp[j]) λg e G H=>n g e G H
end
structure Hz(z ti to:af)(i1 i2:af)(ur uc:List af):Prop where
 a1:ti≠z
 a2:to≠z
 a3:ti≠to
 b1:∀b∈i1::ur,b≠z/\b≠to
 b2:∀b∈i2::uc,b≠z/\b≠to
 c1:i1∉i2::uc
 c2:i2∉i1::ur
 d1:ti≠i1
 d2:ti≠i2
section
def o8.but(J:o8 P w ia fp n Pv Sx)(x:Sx i h)(e:jy c h h')(a:∀b∈ia::fp,b≠c):Sx i h':=J.stab i h h' x λb d o z=>e b o (a b d) z
def zhI{Q:ae->ai->Prop}(j:o8 P w i1 ur n1 P1 S1)(l:o8 P w i2 uc n2 P2 S2)(D:Hz z ti to i1 i2 ur uc)(m:j3 s.heap z ti to .none)(Dh:f9 s.heap ti (.ref i1) (.ref i2))(Dg:f9 s.heap to a b)(h1:S1 k s.heap)(h2:S2 k s.heap)(l1:k<n1)(l2:k<n2)
  (hq:∀x y g tk,P1 k x->P2 k y->j3 g z ti to (cr s.heap.objs.size)->f9 g to x y->S1 (k+1) g->S2 (k+1) g->f9 g s.heap.objs.size x y->
   (∀c o,c≠z->c≠to->c≠i1->c≠i2->s.heap.get? c=JU o->g.get? c=JU o)->Q (.ref s.heap.objs.size) { s with heap:=g,toks:=tk }):
  aq (av P w) A (dQ.«zip.__next__» ⟨[.ref z],[]⟩) (λf s'=>∃v,f=.done (.ret v)/\Q v s') E s:=by
 have h:∀b∈i1::ur,b≠z:=λb d=>(D.b1 b d).1;have i:∀b∈i2::uc,b≠z:=λb d=>(D.b2 b d).1;have J:∀b∈i1::ur,b≠to:=λb d=>(D.b1 b d).2;have L:∀b∈i2::uc,b≠to:=λb d=>(D.b2 b d).2;have NW:∀b∈i2::uc,b≠i1:=λb d e=>D.c1 (e▸d);have M:∀b∈i1::ur,b≠i2:=λb d e=>D.c2 (e▸d);have Z:i1∈i1::ur:=al;have m2:i2∈i2::uc:=al;show aq _ _ (field (.ref z) 2 >>= _) _ _ s;refine aa (bV m rfl rfl ?_);refine aa (bV m rfl rfl (aa (cJ Dh rfl ?_)));refine aa ?_;unfold eB;refine aa (bV m rfl rfl (ah ?_));simp only[if_true];refine aa (dU (aa (bV m rfl rfl ?_)));refine aa (bQ m 'k' λha za n=>?_);refine aa ?_;simp only[iP,nQ,ig,lg];refine aa (aa (jN ?_));show aq _ _ (cn (.ref i1) >>= _) _ _ _;refine aa (j.item _ k _ _ _ l1 (j.but h1 n.extBut h) λx d u7 px VU p=>ah ?_);have Ge:=p.extBut _ _ (bN (J _ Z)) (n.extBut _ _ D.a2 Dg);refine aa (cJ Ge rfl (aa (i7 Ge λhc VO r=>?_)));refine aa (eu (ah (aa (aa (jN ?_)))));show aq _ _ (cn (.ref i2) >>= _) _ _ _;refine aa (l.item _ k _ _ _ l2 (l.but (l.but (l.but h2 n.extBut i) p.extBut NW) r.extBut L) λy hd tk2 py N t=>ah ?_);have VN:=t.extBut _ _ (bN (L _ m2)) VO;refine aa (cJ VN rfl (aa (i7 VN λu C B=>?_)));have C:f9 u to x y:=C;refine aa (eu (ah (ah (aa (cJ C rfl (aa (iB ?_)))))));have qQ:u.objs.size=s.heap.objs.size:=by rw[B.1,t.1,r.1,p.1,n.1]
 have ze:=B.extBut _ _ (bN D.a2) (t.extBut _ _ (bN (i _ m2)) (r.extBut _ _ (bN D.a2) (p.extBut _ _ (bN (h _ Z)) za)));have ke:∀c o,c≠z->c≠to->c≠i1->c≠i2->s.heap.get? c=JU o->u.get? c=JU o:=λc o G H O S e=>B.extBut _ _ H (t.extBut _ _ S (r.extBut _ _ H (p.extBut _ _ O (n.extBut _ _ G e))));have U:=j.but (j.but (j.but VU r.extBut J) t.extBut M) B.extBut J;have Y:=l.but N B.extBut L;have Qy:=aG ze;refine aa ?_;unfold fO;have zf:j3 (u.push { cls:=.type "tuple",data:=.seq #[x,y] }) z ti to .ellipsis:=ab _ ze;refine aa (bQ zf 'k' λhg zg sg=>?_);refine bQ zg 'k' λhi zi si=>?_;have I:∀c o,c≠z->u.get? c=JU o->hi.get? c=JU o:=λc o q e=>si.extBut _ _ q (sg.extBut _ _ q (ab _ e));have pi:=si.extBut _ _ (dZ Qy) (sg.extBut _ _ (dZ Qy) (aB _ rfl));rw[qQ] at zi pi;refine ah ⟨_,rfl,?_⟩;rw[qQ];exact hq x y hi _ px py zi (I _ _ D.a2 C) (j.stab _ _ _ U λb d o e=>I b o (h b d) e) (l.stab _ _ _ Y λb d o e=>I b o (i b d) e) pi λc o G H O S e=>I c o G (ke c o G H O S e)
def zh2(N:A.handled=J9)(u:o8 P w i1 ur n1 P1 S1)(v:o8 P w i2 uc n2 P2 S2)(D:Hz z ti to i1 i2 ur uc)(g:j3 s.heap z ti to .none)(Dh:f9 s.heap ti (.ref i1) (.ref i2))(Dg:f9 s.heap to a b)(O:S1 k s.heap)(h2:S2 k s.heap)(l:n1<=k\/(k<n1/\n2<=k))
  (S:∀C tk e,(∀c o,c≠z->c≠to->c≠i1->c≠i2->s.heap.get? c=JU o->C.get? c=JU o)->(∃o,C.get? e=JU o/\o.cls=.type "StopIteration")->E (.ref e) { s with heap:=C,toks:=tk }):
  aq (av P w) A (dQ.«zip.__next__» ⟨[.ref z],[]⟩) Q E s:=by
 have f:∀b∈i1::ur,b≠z:=λb d=>(D.b1 b d).1;have m:∀b∈i2::uc,b≠z:=λb d=>(D.b2 b d).1;have Gw:∀b∈i1::ur,b≠to:=λb d=>(D.b1 b d).2;have Gv:∀b∈i2::uc,b≠to:=λb d=>(D.b2 b d).2;have NW:∀b∈i2::uc,b≠i1:=λb d e=>D.c1 (e▸d);have G:i1∈i1::ur:=al;have m2:i2∈i2::uc:=al;show aq _ _ (field (.ref z) 2 >>= _) _ _ s;refine aa (bV g rfl rfl ?_);refine aa (bV g rfl rfl (aa (cJ Dh rfl ?_)));refine aa ?_;unfold eB;refine aa (bV g rfl rfl (ah ?_));simp only[if_true];refine aa (dU (aa (bV g rfl rfl ?_)));refine aa (bQ g 'k' λha U i=>?_);refine aa ?_;simp only[iP,nQ,ig,lg];refine aa (aa (jN ?_));show aq _ _ (cn (.ref i1) >>= _) _ _ _;have n:∀{h}{e},j3 h z ti to .ellipsis->(∃o,h.get? e=JU o/\o.cls=.type "StopIteration")->e≠z:=λ{h e}g ⟨o,ho,y⟩ q=>by subst q;rw[g] at ho;cases ho;simp at y
 rcases l with l|⟨l1,l⟩
 ·refine aa (u.done _ k _ _ _ N l (u.but O i.extBut f) λd e p r=>?_);have Y:=p _ _ (bN (f _ G)) U;have H:=n Y r;obtain⟨I,J,L⟩:=r;exact bQ Y 'k' λy _ j=>S y _ e (λc o t _ M _ x=>j.extBut _ _ t (p _ _ M (i.extBut _ _ t x))) ⟨I,j.extBut _ _ H J,L⟩
 ·refine aa (u.item _ k _ _ _ l1 (u.but O i.extBut f) λx d u7 px VU B=>ah ?_);have Z:=B.extBut _ _ (bN (Gw _ G)) (i.extBut _ _ D.a2 Dg);refine aa (cJ Z rfl (aa (i7 Z λy VO j=>?_)));refine aa (eu (ah (aa (aa (jN ?_)))));show aq _ _ (cn (.ref i2) >>= _) _ _ _;refine aa (v.done _ k _ _ _ N l (v.but (v.but (v.but h2 i.extBut m) B.extBut NW) j.extBut Gv) λhd e p r=>?_);have zd:=p _ _ (bN (m _ m2)) (j.extBut _ _ (bN D.a2) (B.extBut _ _ (bN (f _ G)) U));have H:=n zd r;obtain⟨I,J,L⟩:=r;exact bQ zd 'k' λhf _ sf=>S hf _ e (λc o t q2 M q4 x=>sf.extBut _ _ t (p _ _ q4 (j.extBut _ _ q2 (B.extBut _ _ M (i.extBut _ _ t x))))) ⟨I,sf.extBut _ _ H J,L⟩
def zge{Q:Option ae->ai->Prop}(h:o8 P w i1 ur n1 P1 S1)(i:o8 P w i2 uc n2 P2 S2)(D:Hz z ti to i1 i2 ur uc)(f:j3 s.heap z ti to .none)(j:f9 s.heap ti (.ref i1) (.ref i2))(l:f9 s.heap to a b)(m:S1 k s.heap)(n:S2 k s.heap)(p:k<n1)(q:k<n2)
  (r:∀x y d e,P1 k x->P2 k y->j3 d z ti to (cr s.heap.objs.size)->f9 d to x y->S1 (k+1) d->S2 (k+1) d->f9 d s.heap.objs.size x y->
   (∀c o,c≠z->c≠to->c≠i1->c≠i2->s.heap.get? c=JU o->d.get? c=JU o)->Q (JU (.ref s.heap.objs.size)) { s with heap:=d,toks:=e }):aq (av P w) A (pyNext (.ref z)) Q E s:=by have g:s.TypeIs (.ref z) "zip":=⟨_,f,rfl⟩;exact aa (f6 (cB g i8 (cj i8 g nk (zhI h i D f j l m n p q λx y d e t u v B C G H I=>ah (r x y d e t u v B C G H I)) (mO _))))
def YK(i:A.handled=J9)(j:o8 P w i1 ur n1 P1 S1)(l:o8 P w i2 uc n2 P2 S2)(D:Hz z ti to i1 i2 ur uc)(g:j3 s.heap z ti to .none)(m:f9 s.heap ti (.ref i1) (.ref i2))(n:f9 s.heap to a b)(p:S1 k s.heap)(q:S2 k s.heap)(r:n1<=k\/(k<n1/\n2<=k))
  (t:∀d f,(∀c o,c≠z->c≠to->c≠i1->c≠i2->s.heap.get? c=JU o->d.get? c=JU o)->Q J9 { s with heap:=d,toks:=f }):aq (av P w) A (pyNext (.ref z)) Q E s:=by have h:s.TypeIs (.ref z) "zip":=⟨_,g,rfl⟩;refine aa (f6 (cB h i8 (cj i8 h nk (zh2 i j l D g m n p q r λd f e u v=>?_) (mO _))));obtain⟨x,y,B⟩:=v;exact aa (iQ ⟨x,y,B⟩ lj (ah (t _ f u)))
end
inductive ZK where
 |tup (t:af) (items:Array ae)
 |str (x:aA) (t:Tok)
 |lst (l:af) (items:Array ae)
def ZK.val:ZK->ae
 |.tup t _=>.ref t
 |.str x t=>.str x t
 |.lst l _=>.ref l
noncomputable def ZK.obj:ZK->Obj
 |.tup t _=>{ cls:=.type "tuple_iterator",data:=.fields #[.ref t,.int 0 0] }
 |.str x t=>{ cls:=.type "str_ascii_iterator",data:=.fields #[.str x t,.int 0 0] }
 |.lst l _=>{ cls:=.type "list_iterator",data:=.fields #[.ref l,.int 0 0] }
def ZK.pre(h:aX):ZK->Prop
 |.tup t items=>h.IsTuple t items
 |.str x _=>x.cps.all (· < 128)=Ka
 |.lst l items=>h.IsList l items
def ZK.keep(k:∀b o,h.get? b=JU o->h'.get? b=JU o):∀(q:ZK),q.pre h->q.pre h'
 |.tup t items,⟨o,e,r⟩=>⟨o,k _ _ e,r⟩
 |.str x t,e=>e
 |.lst l items,⟨o,e,r⟩=>⟨o,k _ _ e,r⟩
def ZK.iter(q:ZK)(h:q.pre s.heap)(a:Q (.ref s.heap.objs.size) { s with heap:=s.heap.push q.obj }):aq (av P w) A (pyIter q.val) Q E s:=by
 cases q with
 |tup t items=>exact mi h a
 |str x t=>exact wpAny_pyIter_ascii h a
 |lst l items=>exact fv h a
abbrev zH(h:aX)(a b:ZK):aX:=(((((h.push a.obj).push b.obj).push { cls:=.type "tuple",data:=.seq #[.ref h.objs.size,.ref (h.push a.obj).objs.size] }).push { cls:=.type "tuple",data:=.seq #[.none,.none] }).push
 { cls:=.type "zip",data:=.fields #[.none,.bool Kb,.bool Kb,.ref ((h.push a.obj).push b.obj).objs.size,.ref (((h.push a.obj).push b.obj).push { cls:=.type "tuple",data:=.seq #[.ref h.objs.size,.ref (h.push a.obj).objs.size] }).objs.size] })
abbrev zA(h:aX)(a b:ZK):af:=((((h.push a.obj).push b.obj).push { cls:=.type "tuple",data:=.seq #[.ref h.objs.size,.ref (h.push a.obj).objs.size] }).push { cls:=.type "tuple",data:=.seq #[.none,.none] }).objs.size
def zhr(a b:ZK)(l m:ae)(p:a.val=l)(q:b.val=m):Meets (dQ.«zip.__new__» ⟨[.type "zip",l,m],[]⟩) (λ_ R s=>a.pre s.heap/\b.pre s.heap/\R (.ok (.ret (.ref (zA s.heap a b)))) { s with heap:=zH s.heap a b }):=
 .of_wp λP w A R s h=>by
  obtain⟨f,g,d,i,j⟩:=s;obtain⟨r,t,h⟩:=h;have x:=sub_zip;have u:∀{E:ae->ai->Prop}{Q:ae->ai->Prop},Q (.ref f.objs.size) ⟨f.push a.obj,g,d,i,j⟩->aq (av P w) A.in1 (pyIter l) Q E ⟨f,g,d,i,j⟩:=λ{E Q}hq=>by rw[<- p];exact a.iter r hq
  have n:b.pre (f.push a.obj):=b.keep (λc o e=>ab _ e) t;have v:∀{E:ae->ai->Prop}{Q:ae->ai->Prop},Q (.ref (f.push a.obj).objs.size) ⟨(f.push a.obj).push b.obj,g,d,i,j⟩->aq (av P w) A.in1 (pyIter m) Q E ⟨f.push a.obj,g,d,i,j⟩:=λ{E Q}hq=>by rw[<- q];exact b.iter n hq
  wp_walk using u,v
  exact⟨_,rfl,h⟩
section
def zch(a b:ZK)(q:a.pre s.heap)(r:b.pre s.heap)
  (h:∀d,j3 d (s.heap.objs.size+4) (s.heap.objs.size+2) (s.heap.objs.size+3) .none->f9 d (s.heap.objs.size+2) (.ref s.heap.objs.size) (.ref (s.heap.objs.size+1))->f9 d (s.heap.objs.size+3) .none .none->
   d.get? s.heap.objs.size=JU a.obj->d.get? (s.heap.objs.size+1)=JU b.obj->(∀c o,s.heap.get? c=JU o->d.get? c=JU o)->Q (.ref (s.heap.objs.size+4)) { s with heap:=d }):
  aq (av P w) A (call (.type "zip") [a.val,b.val]) Q E s:=by
 refine callType_new F.called_zip 'u' (F.typeCall_zip_2 _ _) (F.newCall_zip_2 _ _) (λe=>F.args_object_init_3 e _ _) F.entry_zip_new (zhr a b _ _ rfl rfl) ⟨q,r,?_⟩;have t:a.obj.isFreed=Kb:=by cases a<;>rfl
 have u:b.obj.isFreed=Kb:=by cases b<;>rfl
 have f:(s.heap.push a.obj).objs.size=s.heap.objs.size+1:=cx ..;have g:((s.heap.push a.obj).push b.obj).objs.size=s.heap.objs.size+2:=by rw[cx,f]
 have i:(((s.heap.push a.obj).push b.obj).push { cls:=.type "tuple",data:=.seq #[.ref s.heap.objs.size,.ref (s.heap.push a.obj).objs.size] }).objs.size=s.heap.objs.size+3:=by rw[cx,g]
 have l:zA s.heap a b=s.heap.objs.size+4:=by show Array.size _=_;rw[cx,i]
 have j:(zH s.heap a b).get? (zA s.heap a b)=JU _:=aB _ rfl;have m:(zH s.heap a b).get? (((s.heap.push a.obj).push b.obj).push { cls:=.type "tuple",data:=.seq #[.ref s.heap.objs.size,.ref (s.heap.push a.obj).objs.size] }).objs.size=JU _:=ab _ (aB _ rfl);have n:(zH s.heap a b).get? ((s.heap.push a.obj).push b.obj).objs.size=JU _:=ab _ (ab _ (aB _ rfl));have p:(zH s.heap a b).get? (s.heap.push a.obj).objs.size=JU _:=ab _ (ab _ (ab _ (aB _ u)));have v:(zH s.heap a b).get? s.heap.objs.size=JU _:=ab _ (ab _ (ab _ (ab _ (aB _ t))));rw[g,i,l] at j;rw[i] at m;rw[f,g] at n;rw[f] at p;rw[l];exact⟨⟨_,j,rfl⟩,h _ j n m v p λc o x=>ab _ (ab _ (ab _ (ab _ (ab _ x))))⟩
end
def Held(X:Cx)(H:Hp)(h:aX)(b:af):Prop:=H b≠J9 \/ ∃o,X.base.get? b=JU o
def Held.far{X:Cx}{a:List (af×Obj)}{σ:St}{H:Hp}{s:ai}{b q:af}(I:L2.Inv X a σ H s)(x:Held X H s.heap b)(f:sY X a H q):b≠q:=by
 rintro rfl;rcases x with x|⟨o,e⟩
 ·exact x f.1
 ·rcases f.2.2.2.1 with z|z
  ·exact I.ok.noex b o e z
  ·exact absurd (aW (aG e) I.ok.bsz) (nN.mpr z)
structure Cz(P:aU)(w:be)(K:ak)(J:It)(ia:af)(S:Nat->aX->Prop):Prop where
 obj:∀i h,S i h->∃o,h.get? ia=JU o/\∀v,o.data ≠ .cell v
 keep:∀i h h',S i h->(∀o,h.get? ia=JU o->h'.get? ia=JU o)->S i h'
 got:∀(X:Cx),X.prog=P->X.w=w->X.K=K->∀(i:Nat)(YP:List (af×Obj))(s:ai)(σ:St)(H:Hp),L2.Inv X YP σ H s->sY X YP H ia->S i s.heap->(J.go i H\/J.stop i H)->
  ∃fp n Pv Sx,o8 P w ia fp n Pv Sx/\Sx i s.heap/\(∀j h,Sx j h->S j h)/\(J.go i H->i<n)/\(J.stop i H->n<=i)/\(∀v,Pv i v->∃x,RelV x v/\J.yld i H x H)/\∀b∈fp,Held X H s.heap b
section
variable{P:aU}{w:be}{K:ak}
def RP{X:Cx}{b:List (af×Obj)}{σ:St}{H:Hp}{s:ai}{a:af}{xs:List V}(I:L2.Inv X b σ H s)(h:sH X.K H a xs):Held X H s.heap a:=by
 rcases h with h|⟨o,d,n,c,_⟩
 ·exact .inl (by rcases h with h|⟨_,h⟩<;>(rw[h];simp))
 ·exact .inr ⟨o,I.ok.mod.kin a o c⟩
def Ro{X:Cx}{b:List (af×Obj)}{σ:St}{H:Hp}{s:ai}{a:af}{xs:List V}(I:L2.Inv X b σ H s)(h:qS X.K H a xs):Held X H s.heap a:=by
 rcases h with h|⟨o,d,n,c,_⟩
 ·exact .inl (by rcases h with h|⟨_,h⟩<;>(rw[h];simp))
 ·exact .inr ⟨o,I.ok.mod.kin a o c⟩
def F5{xs:List V}{a:List ae}{i:Nat}{v:ae}(r:oQ xs a)(e:a[i]?=JU v):∃x,xs[i]?=JU x/\RelV x v:=by
 have f:=r.length;have b:i<xs.length:=by have:=(ao.mp e).1;lia
 obtain⟨u,c,d⟩:=r.get (au b);rw[e] at c;cases c;exact⟨_,au b,d⟩
def Zw(a l:af):Cz P w K (P5 K a) l (λi h=>h.IsTupleIter l a i) where
 obj:=λi h ⟨o,e,c,d⟩=>⟨o,e,λv z=>by rw[d] at z;cases z⟩
 keep:=λi h Y ⟨o,e,c,d⟩ k=>⟨o,k o e,c,d⟩
 got:=by
  intro X A B C i n s Z H I E G J;subst A B C;have L:∃g,sH X.K H a g:=by
   rcases J with⟨g,x,h,_⟩|⟨g,h,_⟩<;>exact⟨g,h⟩
  obtain⟨g,f⟩:=L;obtain⟨q,r,p,hz⟩:=I.tuple f;have hl:=r.length;refine⟨[a],_,_,_,zcb l a q.toArray ((RP I f).far I E),⟨G,p⟩,λj h z=>z.1,λ⟨t,y,m,u⟩=>?_,λ⟨t,m,u⟩=>?_,λv M=>?_,λb N=>?_⟩
  ·have e:=I.tuple_inj m f;subst e;have:=(ao.mp u).1;simp;lia
  ·have e:=I.tuple_inj m f;subst e;simp;lia
  ·have O:q[i]?=JU v:=⇑M
   obtain⟨x,Q,S⟩:=F5 r O;exact⟨x,S,rfl,λt U=>by rw[I.tuple_inj U f];exact Q⟩
  ·have:b=a:=⇑N
   subst this;exact RP I f
def RU(a l:af):Cz P w K (KC K a) l (λi h=>h.IsListIter l a i) where
 obj:=λi h ⟨o,e,c,d⟩=>⟨o,e,λv z=>by rw[d] at z;cases z⟩
 keep:=λi h Y ⟨o,e,c,d⟩ k=>⟨o,k o e,c,d⟩
 got:=by
  intro X A B C i n s Z H I E G J;subst A B C;have L:∃g,qS X.K H a g:=by
   rcases J with⟨g,x,h,_⟩|⟨g,h,_⟩<;>exact⟨g,h⟩
  obtain⟨g,f⟩:=L;obtain⟨q,r,p,hz⟩:=I.list f;have hl:=r.length;refine⟨[a],_,_,_,zcm l a q.toArray ((Ro I f).far I E),⟨G,p.isList⟩,λj h z=>z.1,λ⟨t,y,m,u⟩=>?_,λ⟨t,m,u⟩=>?_,λv M=>?_,λb N=>?_⟩
  ·have e:=I.list_inj m f;subst e;have:=(ao.mp u).1;simp;lia
  ·have e:=I.list_inj m f;subst e;simp;lia
  ·have O:q[i]?=JU v:=⇑M
   obtain⟨x,Q,S⟩:=F5 r O;exact⟨x,S,rfl,λt U=>by rw[I.list_inj U f];exact Q⟩
  ·have:b=a:=⇑N
   subst this;exact Ro I f
def in_str(x:aA)(t:Tok)(a:af):Cz P w K (Kz x) a (λi h=>h.IsStrIter a "str_ascii_iterator" x t i) where
 obj:=λi h ⟨o,e,c,d⟩=>⟨o,e,λv z=>by rw[d] at z;cases z⟩
 keep:=λi h r ⟨o,e,c,d⟩ k=>⟨o,k o e,c,d⟩
 got:=by intro X g l m i f s u H I y n A;subst g l m;refine⟨[],_,_,_,zcn a x t,n,λj h z=>z,λz=>z,λz=>z,λv ⟨c,B,e,p⟩=>?_,λb q=>by cases q⟩;subst p;exact⟨.str ⟨#[c]⟩,⟨_,rfl⟩,rfl,c,e,rfl⟩
end
def W5(J1 J2:It):It:=
 ⟨λi H=>J1.go i H/\J2.go i H,λi H v H'=>∃p x y,H p=J9/\v=.ref p/\J1.yld i H x H/\J2.yld i H y H/\H'=upd H p (.tup [x,y]),λi H=>J1.stop i H/\(J2.go i H\/J2.stop i H)\/J1.go i H/\J2.stop i H⟩
def Xj(z t o i j:af)(S1 S2:Nat->aX->Prop)(n:Nat)(h:aX):Prop:=j3 h z t o .none/\f9 h t (.ref i) (.ref j)/\(∃a b,f9 h o a b)/\S1 n h/\S2 n h
def zb2{P:aU}{w:be}{K:ak}{J1 J2:It}{S1 S2:Nat->aX->Prop}{es:List bi}{kt}{pt:Pos}(z t o i j:af)(ap:[z,t,o,i,j].Nodup)(N1:Cz P w K J1 i S1)(N2:Cz P w K J2 j S2):yL P w K (.Tuple es kt pt) (W5 J1 J2) [z,t,o,i,j] z (Xj z t o i j S1 S2):=by
 simp only[bF,am,bB,or_false,not_or,gN,and_true] at ap;obtain⟨⟨a1,a2,a3,a4⟩,⟨b1,b2,b3⟩,⟨c1,c2⟩,d1,_⟩:=ap;have SW:∀{X:Cx}{d:List (af×Obj)}{s:ai}{C:St}{H:Hp}{ur uc:List af},L2.Inv X d C H s->(∀b∈[z,t,o,i,j],sY X d H b)->(∀b∈ur,Held X H s.heap b)->(∀b∈uc,Held X H s.heap b)->Hz z t o i j ur uc:=λ{X d s C H ur uc}I r h1 h2=>
  ⟨bN a1,bN a2,b1,λb f=>(am.mp f).elim (λe=>by rw[e];exact⟨bN a3,bN c1⟩) λf=>⟨(h1 b f).far I (r z 'k'),(h1 b f).far I (r o 'k')⟩,
   λb f=>(am.mp f).elim (λe=>by rw[e];exact⟨bN a4,bN c2⟩) λf=>⟨(h2 b f).far I (r z 'k'),(h2 b f).far I (r o 'k')⟩,
   λf=>(am.mp f).elim d1 λf=>(h2 i f).far I (r i 'k') rfl,λf=>(am.mp f).elim (bN d1) λf=>(h1 j f).far I (r j 'k') rfl,b2,b3⟩
 refine⟨by simp,λn h G b f=>?_,λn h h' G k=>?_,?_,?_,λA n s Q E G q=>wpAny_pyIter_zip G.1 q⟩
 ·obtain⟨L,J,⟨a,b',M⟩,N,O⟩:=G;simp only[am,bB,or_false] at f;rcases f with rfl|rfl|rfl|rfl|rfl
  ·exact⟨_,L,λv e=>by cases e⟩
  ·exact⟨_,J,λv e=>by cases e⟩
  ·exact⟨_,M,λv e=>by cases e⟩
  ·exact N1.obj n h N
  ·exact N2.obj n h O
 ·obtain⟨L,J,⟨a,b',M⟩,N,O⟩:=G;exact⟨k z 'k' _ L,k t 'k' _ J,⟨a,b',k o 'k' _ M⟩,N1.keep n h h' N (k i 'k'),N2.keep n h h' O (k j 'k')⟩
 ·intro X S U Y l n d s C H E I r G hg;obtain⟨g1,g2⟩:=hg;obtain⟨L,J,⟨a,b,M⟩,N,O⟩:=G;obtain⟨ur,n1,P1,T1,Z1,s1,u1,E7,qT,y1,f1⟩:=N1.got X S U Y n d s C H I (r i 'k') N (.inl g1);obtain⟨uc,n2,P2,T2,Z2,s2,u2,WJ,qF,y2,f2⟩:=N2.got X S U Y n d s C H I (r j 'k') O (.inl g2);have D:=SW I r f1 f2;subst S U Y;refine wT I (zge Z1 Z2 D L J M s1 s2 (E7 g1) (WJ g2) λx y h' tk px py q1 q2 q3 q4 q5 hk qY=>⟨_,rfl,?_⟩);obtain⟨vx,rx,yx⟩:=y1 x px;obtain⟨vy,ry,yy⟩:=y2 y py;refine wpAny_letOwnedTupleGo_zip q1 λZ e1 e2=>?_;have nb:∀q∈[z,t,o,i,j],s.heap.objs.size≠q:=λq hq e=>by
   have:∃m,s.heap.get? q=JU m:=by
    simp only[am,bB,or_false] at hq;rcases hq with rfl|rfl|rfl|rfl|rfl
    ·exact⟨_,L⟩
    ·exact⟨_,J⟩
    ·exact⟨_,M⟩
    ·obtain⟨m,g,_⟩:=N1.obj n _ N;exact⟨_,g⟩
    ·obtain⟨m,g,_⟩:=N2.obj n _ O;exact⟨_,g⟩
   obtain⟨m,g⟩:=this;exact absurd (aG g) (by rw[e];exact bM _)
  have B:∀c m,c∉[z,t,o,i,j]->s.heap.get? c=JU m->Z.get? c=JU m:=λc m l e=>by
   simp only[am,bB,or_false,not_or] at l;exact e2.extBut _ _ l.1 (hk c m l.1 l.2.2.1 l.2.2.2.1 l.2.2.2.2 e)
  have I1:L2.Inv X d C H { s with heap:=Z,toks:=tk }:=Inv.turns [z,t,o,i,j] I B r;have zP:Z.get? s.heap.objs.size=JU { cls:=.type "tuple",data:=.seq #[x,y] }:=e2.extBut _ _ (nb z 'k') q5;have fr:H s.heap.objs.size=J9:=I.hok.fresh (aw _);have I2:L2.Inv X d C (upd H s.heap.objs.size (.tup [vx,vy])) { s with heap:=Z,toks:=tk }:=by
   have un:Un (vD X.stack) [z,t,o,i,j] H (upd H s.heap.objs.size (.tup [vx,vy])) s.heap Z:=by
    refine⟨λc m e _ _ l=>B c m l e,λc m e _ _ l=>⟨m.slots,B c m l e⟩,λc m e hn _=>?_,λc m e l=>⟨m,B c m l e⟩,λc zs e=>?_,λc m u e=>?_,λc ps e=>⟨#[],?_⟩⟩
    ·rw[qi (bo (aG e))];exact hn
    ·rw[qi (sQ e fr)];exact e
    ·rw[qi (sQ e fr)];exact e
    ·rw[qi (sQ e fr),e];simp
   have hok:HOk X.prog X.w (upd H s.heap.objs.size (.tup [vx,vy])) Z:=by
    intro c u' e;by_cases l:c=s.heap.objs.size
    ·subst l;rw[rO] at e;cases e;exact⟨by show 2<=aM;decide,[x,y],.cons rx (.cons ry .nil),⟨_,zP,rfl,⟨_,rfl⟩,rfl⟩⟩
    ·rw[qi l] at e;refine(I1.hok c u' e).stay (λ_ _ _ q=>q) (λp q=>?_) λp zs q=>?_
     ·by_cases hp:p=s.heap.objs.size
      ·subst hp;rw[fr] at q;cases q
      ·rw[qi hp];exact q
     ·by_cases hp:p=s.heap.objs.size
      ·subst hp;rw[fr] at q;cases q
      ·rw[qi hp];exact q
   exact I.call (t':=tk) (d':=s.drawn) un hok I.bare λb f=>let ⟨_,f1,_,f3,f4,f5⟩:=r b f;⟨f3,f1,f4,f5⟩
  refine⟨.ref s.heap.objs.size,_,I2,rfl,⟨_,vx,vy,fr,rfl,yx,yy,rfl⟩,⟨e1,?_,⟨_,_,e2.extBut _ _ D.a2 q2⟩,?_,?_⟩,λb f=>?_⟩
  ·exact e2.extBut _ _ D.a1 (hk _ _ D.a1 D.a3 D.d1 D.d2 J)
  ·exact u1 _ _ (Z1.but q3 e2.extBut λb f=>(D.b1 b f).1)
  ·exact u2 _ _ (Z2.but q4 e2.extBut λb f=>(D.b2 b f).1)
  ·rw[qi (bN (nb b f))];exact(r b f).1
 ·intro X S U Y l n d s C H E I r G hg;obtain⟨L,J,⟨a,b,M⟩,N,O⟩:=G;have k1:J1.go n H\/J1.stop n H:=hg.elim (λz=>.inr z.1) λz=>.inl z.1;have k2:J2.go n H\/J2.stop n H:=hg.elim (λz=>z.2) λz=>.inr z.2;obtain⟨ur,n1,P1,T1,Z1,s1,u1,E7,qT,y1,f1⟩:=N1.got X S U Y n d s C H I (r i 'k') N k1;obtain⟨uc,n2,P2,T2,Z2,s2,u2,WJ,qF,y2,f2⟩:=N2.got X S U Y n d s C H I (r j 'k') O k2;have D:=SW I r f1 f2;subst S U Y;refine wT I (YK (I.ok.hd l) Z1 Z2 D L J M s1 s2 (hg.elim (λq=>.inl (qT q.1)) λq=>.inr ⟨E7 q.1,qF q.2⟩) λh' tk hk qY=>⟨rfl,?_⟩);refine Inv.turns (t':=tk) [z,t,o,i,j] I (λc m l e=>?_) r;simp only[am,bB,or_false,not_or] at l;exact hk c m l.1 l.2.2.1 l.2.2.2.1 l.2.2.2.2 e
noncomputable def AI:D->Option Src
 |.lst ds=>JU (.val ds)
 |.own k=>JU (.own k)
 |.tup ds=>JU (.val ds)
 |.str cs=>if cs.all (· < 128)=Ka then JU (.val (cs.map λc=>.str [c])) else J9
 |_=>J9
def D7(t:DA):DI:=λσ O=>(t σ O).bnd λxs O1=>match xs with
 | [x,y]=>match AI x,AI y with
  |some p,JU q=>.ok (.zip p q) O1
  |_,_=>.bad
 |_=>.bad
def oU.zipW{K:ak}{o q:It}{j g:Src}{H:Hp}{XV μ:List af}(t:oU K o j H XV μ)(u:oU K q g H XV μ):oU K (W5 o q) (.zip j g) H XV μ:=by
 intro b l r e m c i;have f:=t b l r e m c i;have a:=u b l r e m c i;show match (match j.get e i,g.get e i with|some x,JU y=>JU (D.tup [x,y])|_,_=>J9) with|some d=>_|none=>_
 cases s:j.get e i with
 | none=>
  rw[s] at f;refine .inl ⟨f,?_⟩;cases h:g.get e i with
  |none=>rw[h] at a;exact .inr a
  |some d=>rw[h] at a;exact .inl a.1
 | some d1=>
  rw[s] at f;cases h:g.get e i with
  |none=>rw[h] at a;exact .inr ⟨f.1,a⟩
  | some d2=>
   rw[h] at a;refine⟨⟨f.1,a.1⟩,λv C w=>?_⟩;obtain⟨p,x,y,n,rfl,A,B,rfl⟩:=w;exact⟨.laid n,c.laid n,J5.newT c n (.cons (f.2 x l A).2.2 (.cons (a.2 y l B).2.2 .nil))⟩
section
variable{X:Cx}{Ex:Nat->Hp->Prop}{pos:Pos}{a b c e:bi}{YP:List (af×Obj)}{a_:St}{H:Hp}{s:ai}{XV μ:List af}{O:Ow}
def K1{d:D}{v:V}{u:ae}{src:Src}(I:L2.Inv X YP a_ H s)(c:oN X.K H XV μ O)(h:J5 X.K H XV μ d v)(r:RelV v u)(e:AI d=JU src):
  ∃(k:ZK)(J:It),k.val=u/\k.pre s.heap/\oU X.K J src H XV μ/\∀f,∃S,Cz X.prog X.w X.K J f S/\∀h:aX,h.get? f=JU k.obj->S 0 h:=by
 cases d with
 | lst o=>
  unfold J5 at h;obtain⟨q,j,rfl,l,m⟩:=h;cases e;cases r;obtain⟨g,_,p,_⟩:=I.list l.sq;exact⟨.lst q g.toArray,_,rfl,p.isList,.val l m,λf=>⟨_,RU q f,λh z=>⟨_,z,rfl,rfl⟩⟩⟩
 | own k=>
  unfold J5 at h;obtain⟨q,rfl,x⟩:=h;cases e;cases r;obtain⟨o,j,A,y,B⟩:=c.at_ k q x;obtain⟨g,_,p,_⟩:=I.list (a:=q) (xs:=j) (.of y);exact⟨.lst q g.toArray,_,rfl,p.isList,.own x,λf=>⟨_,RU q f,λh z=>⟨_,z,rfl,rfl⟩⟩⟩
 | tup o=>
  unfold J5 at h;obtain⟨q,j,rfl,l,m⟩:=h;cases e;cases r;obtain⟨g,_,p,_⟩:=I.tuple l.sq;exact⟨.tup q g.toArray,_,rfl,p,.tup l m,λf=>⟨_,Zw q f,λh z=>⟨_,z,rfl,rfl⟩⟩⟩
 | str cs=>
  unfold J5 at h;subst h;obtain⟨t,rfl⟩:=r;have i:(if cs.all (· < 128)=Ka then JU (Src.val (cs.map λc=>D.str [c])) else J9)=JU src:=e;by_cases n:cs.all (· < 128)=Ka
  ·rw[Kd n] at i;cases i;refine⟨.str ⟨cs.toArray⟩ t,_,rfl,?_,.str,λf=>⟨_,in_str _ t f,λh z=>⟨_,z,rfl,rfl⟩⟩⟩;show cs.toArray.all (· < 128)=Ka;simpa using n
  ·rw[Kf n] at i;cases i
 |_=>cases e
def zeM{G:List bi}{kt}{L:Pos}{t:DA}{p:Pos}(M:Gl X "zip")(N:X.mg "zip" = J9)(P:uS X Ex [a,b] t)(Q:aL [a,b] X.env=[(Kb,eval a X.env),(Kb,eval b X.env)]:=by rfl)(u:aL [b] X.env=[(Kb,eval b X.env)]:=by rfl):
  ud X Ex (.Tuple G kt L) (.Call (.Name "zip" p) [a,b] [] pos) (D7 t):=by
 refine⟨?_⟩;rintro YP s a_ H S I ⟨XV,μ,σ,O,o,U,q⟩;refine lC (CS I M N zdD (fL (qe (P.out pos YP s a_ H _ I (vA.go o U q (Q1:=λr g=>∃XV h i j,oN X.K g XV h i/\oO X.K g XV h j r/\
   post Ex X.K (λH' Y s J=>oU X.K J s H' XV Y) g XV h (match j with|[x,y]=>(match AI x,AI y with|some p,JU q=>.ok (.zip p q) i|_,_=>.bad)|_=>.bad) S)
  λj i r g h A x l d p=>⟨XV,h,i,j,l,d,p⟩)) λus f ⟨r,g,m,Z,XV,h,i,j,l,d,p⟩=>?_) (by rw[Q,u]) (by rw[u];rfl)))
 split at p
 ·rename_i x y;split at p
  ·rename_i sp sq o A;obtain⟨v,w,rfl,dx,dy⟩:=CD d;obtain⟨u1,u2,rfl,NN,NM⟩:=CG Z;obtain⟨k1,J1,v1,p1,t1,i1⟩:=K1 m l dx NN o;obtain⟨k2,J2,v2,p2,t2,i2⟩:=K1 m l dy NM A;rw[<- v1,<- v2];refine zch k1 k2 p1 p2 λh' B g3 g4 g1 g2 hk=>?_;refine wpAny_pyIter_zip B ?_;have I2:L2.Inv X YP a_ g { f with heap:=h',toks:=f.toks }:=m.kept hk;obtain⟨S1,N1,z1⟩:=i1 f.heap.objs.size;obtain⟨S2,N2,z2⟩:=i2 (f.heap.objs.size+1);refine⟨f.heap.objs.size+4,[f.heap.objs.size+4,f.heap.objs.size+2,f.heap.objs.size+3,f.heap.objs.size,f.heap.objs.size+1],_,_,g,rfl,I2,zb2 _ _ _ _ _ ?_ N1 N2,⟨B,g3,⟨_,_,g4⟩,z1 _ g1,z2 _ g2⟩,λb C=>?_,post.here p l (.zipW t1 t2)⟩
   ·have nn:∀(n:af),[n+4,n+2,n+3,n,n+1].Nodup:=λn=>by
     simp only[bF,am,bB,or_false,not_or,gN,and_true];refine⟨⟨?_,?_,?_,?_⟩,⟨?_,?_,?_⟩,⟨?_,?_⟩,?_,not_false⟩<;>simp[af] at * <;> lia
    exact nn _
   ·have E:f.heap.objs.size<=b:=by
     simp only[am,bB,or_false] at C;rcases C with rfl|rfl|rfl|rfl|rfl<;>lia
    exact m.fpOk (H':=g) E (m.hok.fresh E)
  ·exact aj p
 ·exact aj p
end
end DL
namespace DL
open PySem L2
open AutoSeq1 (wpAny_loadPart')
section
def zep(J:o8 P w ia fp n Pv Sx)(v:iu s.heap ea ia (k:Nat) old)(hx:Sx k s.heap)(hk:k<n)(j:∀b∈ia::fp,b≠ea)
  (hq:∀x l tk ti,Pv k x->IsEnumOut l ea ia ((k:Int)+1) x s.heap.objs.size->Sx (k+1) l->l.get? s.heap.objs.size=JU { cls:=.type "tuple",data:=.seq #[.int (k:Nat) ti,x] }->(∀b o,b≠ea->b≠ia->s.heap.get? b=JU o->l.get? b=JU o)->Q (JU (.ref s.heap.objs.size)) { s with heap:=l,toks:=tk }):
  aq (av P w) A (pyNext (.ref ea)) Q E s:=by
 have ht:s.TypeIs (.ref ea) "enumerate":=⟨_,v,rfl⟩;have G:ea≠ia:=bN (j ia al);unfold pyNext;refine aa (f6 (cB ht fW (cj fW ht kQ ?_ (kB _))));obtain⟨e,g,d,tk,f⟩:=s;show aq _ _ (field (.ref ea) 2 >>= _) _ _ _;refine aa (bV v rfl rfl (aa (J.item _ k _ _ _ hk hx λx h a px H m=>?_)));have m:dr ia e h:=m;have I:iu h ea ia (k:Nat) old:=(m.2 ea G).trans v;show aq _ _ (field (.ref ea) 3 >>= _) _ _ ⟨h,g,d,a,f⟩;refine aa (bV I rfl rfl ?_);show aq _ _ (field (.ref ea) 4 >>= _) _ _ ⟨h,g,d,a,f⟩;refine aa (bV I rfl rfl ?_);show aq _ _ (mkInt (k:Nat) >>= _) _ _ ⟨h,g,d,a,f⟩;refine aa (wpAny_mkInt ?_);show aq _ _ (setField (.ref ea) 3 (cr ((k:Int)+1)) >>= _) _ _ ⟨h,g,d,a+1,f⟩;refine aa (bQ I 'k' λy L p=>?_);have p:dr ea h y:=p;have L:iu y ea ia ((k:Int)+1) old:=L;show aq _ _ (setField (.ref ea) 4 .none >>= _) _ _ ⟨y,g,d,a+1,f⟩;refine aa (bQ L 'k' λc M q=>?_);have q:dr ea y c:=q;have M:iu c ea ia ((k:Int)+1) old:=M;show aq _ _ (newTuple [.int (k:Nat) a,x] >>= _) _ _ ⟨c,g,d,a+1,f⟩;refine aa (iB ?_);have B:iu (c.push { cls:=.type "tuple",data:=.seq #[.int (k:Nat) a,x] }) ea ia ((k:Int)+1) old:=ab _ M;have qQ:c.objs.size=e.objs.size:=by rw[q.1,p.1,m.1]
 have N:ea<e.objs.size:=aG v;have t4:(c.push { cls:=.type "tuple",data:=.seq #[.int (k:Nat) a,x] }).get? e.objs.size=JU { cls:=.type "tuple",data:=.seq #[.int (k:Nat) a,x] }:=by rw[<- qQ];exact aB _ rfl
 have k4:∀b o,b≠ea->b≠ia->e.get? b=JU o->(c.push { cls:=.type "tuple",data:=.seq #[.int (k:Nat) a,x] }).get? b=JU o:=λb o i O z=>ab _ (q.extBut b o i (p.extBut b o i (m.extBut b o O z)));have x4:Sx (k+1) (c.push { cls:=.type "tuple",data:=.seq #[.int (k:Nat) a,x] }):=J.stab _ _ _ (J.but (J.but H p.extBut j) q.extBut j) λb _ o z=>ab _ z;generalize c.push { cls:=.type "tuple",data:=.seq #[.int (k:Nat) a,x] } = h4 at B t4 k4 x4;show aq _ _ (eB (.ref ea) >>= _) _ _ ⟨h4,g,d,a+1,f⟩;rw[qQ];refine aa ?_;unfold eB;refine aa (bV B rfl rfl (ah ?_));simp only[if_true];refine aa (dU (aa (bV B rfl rfl (aa (bQ B 'k' λC S r=>?_)))));have r:dr ea h4 C:=r;have S:iu C ea ia ((k:Int)+1) x:=S;show aq _ _ (fO (.ref ea) (.ref e.objs.size) >>= _) _ _ ⟨C,g,d,a+1,f⟩;refine aa ?_;unfold fO;refine aa (bQ S 'k' λU Y t=>?_);have t:dr ea C U:=t;have Y:IsEnumOut U ea ia ((k:Int)+1) x e.objs.size:=Y;refine bQ Y 'k' λZ e7 u=>?_;have u:dr ea U Z:=u;have e7:IsEnumOut Z ea ia ((k:Int)+1) x e.objs.size:=e7;refine aa (eu (ah ⟨_,rfl,ah (hq x Z _ a px e7 (J.but (J.but (J.but x4 r.extBut j) t.extBut j) u.extBut j) ?_ λb o i O z=>u.extBut b o i (t.extBut b o i (r.extBut b o i (k4 b o i O z))))⟩));exact u.extBut _ _ (dZ N) (t.extBut _ _ (dZ N) (r.extBut _ _ (dZ N) t4))
def zh8(d:A.handled=J9)(J:o8 P w ia fp n Pv Sx)(b:iu s.heap ea ia (k:Nat) old)(f:Sx k s.heap)(g:n<=k)(h:∀a,jy ia s.heap a->Q J9 { s with heap:=a }):aq (av P w) A (pyNext (.ref ea)) Q E s:=by have c:s.TypeIs (.ref ea) "enumerate":=⟨_,b,rfl⟩;unfold pyNext;refine aa (f6 (cB c fW (cj fW c kQ ?_ (kB _))));show aq _ _ (field (.ref ea) 2 >>= _) _ _ _;refine aa (bV b rfl rfl (aa (J.done _ k _ _ _ d g f λa e i j=>?_)));obtain⟨l,m,o⟩:=j;exact aa (iQ ⟨l,m,o⟩ lj (ah (h _ i)))
end
end DL
namespace DL
open PySem L2
def W7(J:It):It:=⟨J.go,λi H v H'=>∃p x,H p=J9/\v=.ref p/\J.yld i H x H/\H'=upd H p (.tup [.int (i:Nat),x]),J.stop⟩
def Xn(ea ia:af)(S:Nat->aX->Prop)(n:Nat)(h:aX):Prop:=(∃old,iu h ea ia (n:Nat) old)/\S n h
def zcp(f i:af)(ap:f≠i)(N:Cz P w K J i S)(GN:∀(A:bD)(n:Nat)(s:ai)(Q E:ae->ai->Prop),(∃o,iu s.heap f i (n:Nat) o)->Q (.ref f) s->aq (av P w) A (pyIter (.ref f)) Q E s):yL P w K (.Tuple es kt pt) (W7 J) [f,i] f (Xn f i S):=by
 refine⟨by simp,λn h t b r=>?_,λn h h' t k=>?_,?_,?_,λA n s Q E t q=>GN A n s Q E t.1 q⟩
 ·obtain⟨⟨o,y⟩,B⟩:=t;simp at r;rcases r with rfl|rfl
  ·exact⟨_,y,λv e=>by cases e⟩
  ·exact N.obj n h B
 ·obtain⟨⟨o,y⟩,B⟩:=t;exact⟨⟨o,k f 'k' _ y⟩,N.keep n h h' B (k i 'k')⟩
 ·intro X hP hw hK d n j s O H E I C t L;obtain⟨⟨o,y⟩,B⟩:=t;obtain⟨fp,m,Pv,T,Z,s1,u1,E7,qT,y1,U⟩:=N.got X hP hw hK n j s O H I (C i 'k') B (.inl L);have ne:∀b∈i::fp,b≠f:=λb r=>(am.mp r).elim (λe=>by rw[e];exact bN ap) λr=>(U b r).far I (C f 'k');refine wT I (zep Z y s1 (E7 L) ne λx h' tk tki px q1 q2 q3 hk qY=>⟨_,rfl,?_⟩);obtain⟨Y,rx,yx⟩:=y1 x px;refine wpAny_letOwnedTupleGo_enum q1 λvY e1 e2=>?_;have nb:∀q∈[f,i],s.heap.objs.size≠q:=λq hq e=>by
   have:∃a,s.heap.get? q=JU a:=by
    simp at hq;rcases hq with rfl|rfl
    ·exact⟨_,y⟩
    ·obtain⟨a,g,_⟩:=N.obj n _ B;exact⟨_,g⟩
   obtain⟨a,g⟩:=this;exact absurd (aG g) (by rw[e];exact bM _)
  have l:∀c a,c∉[f,i]->s.heap.get? c=JU a->vY.get? c=JU a:=λc a d e=>by
   simp at d;exact e2.extBut _ _ d.1 (hk c a d.1 d.2 e)
  have I1:=Inv.turns [f,i] I l C;have zP:=e2.extBut _ _ (nb f 'k') q3;have G:=I.hok.fresh (aw _);have I2:L2.Inv X j O (upd H s.heap.objs.size (.tup [.int (n:Nat),Y])) { s with heap:=vY,toks:=tk }:=by
   have un:Un (vD X.stack) [f,i] H (upd H s.heap.objs.size (.tup [.int (n:Nat),Y])) s.heap vY:=by
    refine⟨λc a e _ _ d=>l c a d e,λc a e _ _ d=>⟨a.slots,l c a d e⟩,λc a e hn _=>?_,λc a e d=>⟨a,l c a d e⟩,λc zs e=>?_,λc a u e=>?_,λc ps e=>⟨#[],?_⟩⟩
    ·rw[qi (bo (aG e))];exact hn
    ·rw[qi (sQ e G)];exact e
    ·rw[qi (sQ e G)];exact e
    ·rw[qi (sQ e G),e];simp
   have hok:HOk X.prog X.w (upd H s.heap.objs.size (.tup [.int (n:Nat),Y])) vY:=by
    intro c u' e;by_cases d:c=s.heap.objs.size
    ·subst d;rw[rO] at e;cases e;exact⟨by show 2<=aM;decide,[.int (n:Nat) tki,x],.cons ⟨_,rfl⟩ (.cons rx .nil),⟨_,zP,rfl,⟨_,rfl⟩,rfl⟩⟩
    ·rw[qi d] at e;refine(I1.hok c u' e).stay (λ_ _ _ q=>q) (λp q=>?_) λp zs q=>?_
     ·by_cases M:p=s.heap.objs.size
      ·subst M;rw[G] at q;cases q
      ·rw[qi M];exact q
     ·by_cases M:p=s.heap.objs.size
      ·subst M;rw[G] at q;cases q
      ·rw[qi M];exact q
   exact I.call un hok I.bare λb r=>let ⟨_,U,_,f3,f4,f5⟩:=C b r;⟨f3,U,f4,f5⟩
  refine⟨.ref s.heap.objs.size,_,I2,rfl,⟨_,Y,G,rfl,yx,rfl⟩,⟨⟨_,by exact_mod_cast e1⟩,?_⟩,λb r=>?_⟩
  ·exact u1 _ _ (Z.but q2 e2.extBut ne)
  ·rw[qi (bN (nb b r))];exact(C b r).1
 ·intro X hP hw hK d n j s O H E I C t L;obtain⟨⟨o,y⟩,B⟩:=t;obtain⟨fp,m,Pv,T,Z,s1,u1,E7,qT,y1,U⟩:=N.got X hP hw hK n j s O H I (C i 'k') B (.inr L);refine zh8 (I.ok.hd d) Z y s1 (qT L) λh' eb=>⟨rfl,?_⟩;refine Inv.turns [f,i] I (λc a d e=>?_) C;simp at d;exact eb c a d.2 e
def xv(ds:List D):List D:=ds.zipIdx.map λq=>.tup [.int (q.2:Nat),q.1]
def MU(ds:List D)(i:Nat):(xv ds)[i]?=(ds[i]?).map λd=>D.tup [.int (i:Nat),d]:=by unfold xv;rw[aZ,List.getElem?_zipIdx];cases ds[i]?<;>simp
def oU.enum(n:oU K J (.val ds) H XV μ):oU K (W7 J) (.val (xv ds)) H XV μ:=by
 intro a b e j m c i;have f:match ds[i]? with|some d=>J.go i b/\∀x g,J.yld i b x g->Ext b e g e/\oN K g a e j/\J5 K g a e d x|none=>J.stop i b:=n a b e j m c i
 show match (xv ds)[i]? with|some d=>_|none=>_
 rw[MU];cases l:ds[i]? with
 |none=>rw[l] at f;exact f
 | some d1=>
  rw[l] at f;refine⟨f.1,λv g o=>?_⟩;obtain⟨p,x,h,rfl,q,rfl⟩:=o;exact⟨.laid h,c.laid h,J5.newT c h (.cons s9 (.cons (f.2 x b q).2.2 .nil))⟩
section
def zd2:bA "enumerate" = JU (.type "enumerate"):=by boot_by_name
def UH(b d:af)(A:bD)(n:Nat)(s:ai)(Q E:ae->ai->Prop)(h:∃a,iu s.heap b d (n:Nat) a)(q:Q (.ref b) s):aq (av P w) A (pyIter (.ref b)) Q E s:=by obtain⟨a,h⟩:=h;have c:s.TypeIs (.ref b) "enumerate":=⟨_,h,rfl⟩;refine jU c ll (cj ll c F.entry_enumerate_iter ?_ (F.args_enumerate_iter_1 _));exact ah ⟨_,rfl, "enumerate",_,c,fW.lookup,q⟩
end
end DL
namespace DL
open PySem L2
open PyProof.Rows hiding St
section
end
end DL
namespace DL
open PySem L2
section
end
section
structure KJ(mg:aA->Option ae)(x:aA)(i:Int):Prop where
 ex:∃t,mg x=JU (.int i t)
def zgC(h:KJ X.mg x i)(a:Gl X x:=by rfl)(b:sU x:=by decide):PD X Ex (.Name x pos) (dC (.int i)):=by obtain⟨t,h⟩:=h.ex;exact sJ (IK (v:=.int i) a h ⟨_,rfl⟩ b) λc e f O g H Q j d q=>post.here q d s9
end
section
end
end DL
namespace DL
open PySem L2 PySem.Spec PyProof.Rows
end DL
namespace DL
open PySem L2 PySem.Spec PyProof.Rows
open Sem (wp)
section
end
end DL
namespace DL
open PySem L2 PySem.Spec PyProof.Rows
section
end
end DL
namespace DL
open PySem
def ziI:bA "set" = JU (.type "set"):=by boot_by_name
end DL
namespace DL
open PySem L2
open AutoSeq1 (wpAny_loadPart')
section
def HN:Int->Int->Option D:=λi j=>if 0<=j then JU (.int (i/2 ^ j.toNat)) else J9
def D4:Int->Int->Option D:=gI dM
def zh0:tM X Ex (rI (λ_ j=>0<=j) λi j=>.int (i/2 ^ j.toNat)) (fI HN):=Eo λi j d h=>by
 unfold HN at h;split at h
 ·rename_i a;cases h;exact⟨a,λ_ _ _ _=>s9⟩
 ·cases h
def zgs:tM X Ex (xS λi j=>.int (dM i j)) (fI D4):=FW λi j d h _ _ _ _=>by cases h;exact s9
def zbZ(l:af)(xs:Array ae)(n:Nat)(b:af)(a:Array ae)(m:Nat)(e:Array (Option ae))(f:¬(!xs.isEmpty&&io (xs.size+a.size))=Ka)(g:xs.size<=aM)(i:xs.size+a.size<=aM+1):
  Meets (dQ.«list.extend» ⟨[.ref l,.ref b],[]⟩) (λ_ R s=>s.heap.get? l=JU { cls:=.type "list",data:=.seq xs n }/\s.heap.get? b=JU { cls:=.type "list",data:=.seq a m,slots:=e }/\R (.ok (.ret .none)) { s with heap:=s.heap.update l (bG λx=>x++a) }):=
 .of_wp λc w A R s h=>by
  obtain⟨d,j,h⟩:=h;have o:(xs++a).size<=aM+1:=by rw[gD];exact i
  wp_walk using(eJ d rfl),wpAny_loadPart' d,wpAny_loadPart' j
  exact⟨_,rfl,h⟩
def Xb(K:ak):V->List V->Hp->VK->Prop:=λx vs H Q=>∃l b xs zs,x=.ref l/\vs=[.ref b]/\H l=JU (.lst xs)/\qS K H b zs/\xs.length+zs.length<=aM/\Q .non (upd H l (.lst (xs++zs)))
def Zd:W3 X "list.extend" (Xb X.K):=by
 intro f s L H x M v N Q I j m h;obtain⟨l,b,O,P,rfl,rfl,g,o,S,q⟩:=h;cases j;obtain⟨u,rfl,p⟩:=m.one;cases p;obtain⟨z,a,n,r,U,e⟩:=I.lstM g;obtain⟨c,i,⟨t,w,y,A,d,B⟩,_⟩:=I.list o;obtain⟨Y,C,Z,E⟩:=t;subst A;subst d;subst B;have G0:=i.length;have G:a.toArray.size+c.toArray.size<=aM:=by rw[aS,aS];lia
 have J:¬ (!a.toArray.isEmpty&&io (a.toArray.size+c.toArray.size))=Ka:=by
  rw[ze5 G,Bool.and_false];exact cz
 refine call_meets ln ⟨_,e,rfl⟩ F.entry_list_extend (F.args_list_extend_2 _ _)
  (zbZ l a.toArray n b c.toArray w E J (by rw[aS];lia) 'd') ⟨e,y,?_⟩
 refine⟨.non,_,I.lset g e 'k' (r.append i) ?_,rfl,q⟩;rw[aC];lia
def zo(to:DE)(t:DA):DE:=λσ O=>(to σ O).bnd λx O1=>match x with
 | .own k=>(t σ O1).bnd λys O2=>match ys,O2[k]? with
  | [y],JU ds=>match sE O2 y with
   |some es=>if ds.length+es.length<=4000000 then .ok .non (O2.set k (ds++es)) else .bad
   |none=>.bad
  |_,_=>.bad
 |_=>.bad
def zbP(l:PD X Ex o to)(m:uS X Ex (e::es) t)(n:attributeBase o "extend" X.env (eval o X.env)=eval o X.env:=by rfl)
  (s:((backTo qw (aL (e::es) X.env)).all (λx=>!x.1)&&(backToKw qw (keywordEach [] X.env)).all (λx=>x.1.isSome)&&decide ((e::es).length+([]:List gK).length+(if ([]:List gK).isEmpty then 0 else 1)<30))=Ka:=by rfl)
  (u:(apos.endLine==qw.line)=Ka:=by rfl) (B:aL (e::es) X.env=(Kb,eval e X.env)::aL es X.env:=by rfl) (C:(backTo qw (aL es X.env)).any (·.1)=Kb:=by rfl):
  PD X Ex (.Call (.Attribute o "extend" apos) (e::es) [] qw) (zo to t):=
 sJ (K6 kA ln PySem.F.type_list_extend Zd l.out m.out n s u B C) λE μ σ O a_ H Q G I q=>rd.go G I q λd O1 v H1 f_ J x f r p=>by
  cases d with
  | own k=>
   have L:=r;obtain⟨A,rfl,M⟩:=r;obtain⟨ds,N,h1,P,h3⟩:=f.at_ k A M;refine⟨.inl ⟨rfl,N,.of P⟩,vA.go J f p λys O2 ws H2 S e3 U b Y a=>?_⟩;split at a
   ·rename_i y uL Z;split at a
    ·rename_i zs hz;obtain⟨hl,a⟩:=post.ite a;obtain⟨w,rfl,dw⟩:=uz Y;have c:S[k]?=JU A:=by
      have:=L.ext U;obtain⟨A',e',tw⟩:=this;cases e';exact tw
     obtain⟨Hv,EK,g,h,i⟩:=b.at_ k A c;rw[Z] at g;cases g;obtain⟨pb,vz,rfl,sq,j⟩:=xg b dw hz;refine⟨A,pb,EK,vz,rfl,rfl,h,sq,aI (by rw[<- i.length,<- j.length];exact hl) 'u',?_⟩;exact post.ok a (.put (aJ c) ⟨_,h⟩) (b.put c (i.append j)) IJ
    ·exact aj a
   ·exact aj a
  |_=>exact aj p
end
set_option maxHeartbeats 1000000 in
def zbq(q:ZK)(a:ae)(i:q.val=a):
  Meets (dQ.«enumerate.__new__» ⟨[.type "enumerate",a],[]⟩) (λ_ R s=>q.pre s.heap/\
   R (.ok (.ret (.ref (s.heap.push q.obj).objs.size))) { s with heap:=(s.heap.push q.obj).push { cls:=.type "enumerate",data:=.fields #[.none,.bool Kb,.ref s.heap.objs.size,cr 0,.none,.none] } }):=
 .of_wp λP w A R s h=>by
  obtain⟨b,g,d,e,f⟩:=s;obtain⟨j,h⟩:=h;have m:=sub_enumerate;have c:∀{A:bD}{E:ae->ai->Prop}{Q:ae->ai->Prop},Q (.ref b.objs.size) ⟨b.push q.obj,g,d,e,f⟩->aq (av P w) A (pyIter a) Q E ⟨b,g,d,e,f⟩:=λ{A E Q}hq=>by rw[<- i];exact q.iter j hq
  wp_walk
  refine wpAny_stack_any λn=>ah (?_);split
  ·rename_i l _ _ _ _ _;cases (l==eU "enumerate")
   ·wp_walk using c
    exact⟨_,rfl,h⟩
   ·wp_walk using c
    exact⟨_,rfl,h⟩
  ·wp_walk using c
   exact⟨_,rfl,h⟩
section
def za2(q:ZK)(f:q.pre s.heap)
  (h:∀a,iu a (s.heap.objs.size+1) s.heap.objs.size 0 .none->a.get? s.heap.objs.size=JU q.obj->(∀b o,s.heap.get? b=JU o->a.get? b=JU o)->Q (.ref (s.heap.objs.size+1)) { s with heap:=a }):
  aq (av P w) A (call (.type "enumerate") [q.val]) Q E s:=by
 refine callType_new F.called_enumerate 'u' (F.typeCall_enumerate_1 _) (F.newCall_enumerate_1 _) (λc=>F.args_object_init_2 c _) F.entry_enumerate_new (zbq q _ rfl) ⟨f,?_⟩;have g:q.obj.isFreed=Kb:=by cases q<;>rfl
 have d:(s.heap.push q.obj).objs.size=s.heap.objs.size+1:=cx ..;rw[d];have e:iu ((s.heap.push q.obj).push { cls:=.type "enumerate",data:=.fields #[.none,.bool Kb,.ref s.heap.objs.size,cr 0,.none,.none] }) (s.heap.objs.size+1) s.heap.objs.size 0 .none:=by
  have q:=aB (s.heap.push q.obj) (o:={ cls:=.type "enumerate",data:=.fields #[.none,.bool Kb,.ref s.heap.objs.size,cr 0,.none,.none] }) rfl;rw[d] at q;exact q
 exact⟨⟨_,e,rfl⟩,h _ e (ab _ (aB _ g)) λb o x=>ab _ (ab _ x)⟩
end
def CT(t:DA):DI:=λσ O=>(t σ O).bnd λxs O1=>match xs with
 | [x]=>match AI x with
  |some (.val ds)=>.ok (.val (xv ds)) O1
  |_=>.bad
 |_=>.bad
section
def zbC(w:Gl X "enumerate")(y:X.mg "enumerate" = J9)(A:uS X Ex [a] t)(B:aL [a] X.env=[(Kb,eval a X.env)]:=by rfl):
  ud X Ex (.Tuple uL kt pt) (.Call (.Name "enumerate" p) [a] [] pos) (CT t):=by
 refine⟨?_⟩;rintro i s C H E I ⟨c,μ,σ,O,G,L,q⟩;refine lC (CS I w y zd2 (fL (qe (A.out pos i s C H _ I (vA.go G L q (Q1:=λn g=>∃c h j e,oN X.K g c h j/\oO X.K g c h e n/\
   post Ex X.K (λM N s J=>oU X.K J s M c N) g c h (match e with|[x]=>(match AI x with|some (.val e)=>.ok (.val (xv e)) j|_=>.bad)|_=>.bad) E)
  λe j n g h e2 x l d p=>⟨c,h,j,e,l,d,p⟩)) λus f ⟨n,g,m,P,c,h,j,e,l,d,p⟩=>?_) (by rw[B];rfl) (by rfl)))
 split at p
 ·rename_i x;split at p
  ·rename_i ts Q;obtain⟨v,rfl,S⟩:=uz d;obtain⟨u1,rfl,U⟩:=uW P;obtain⟨Y,J1,Z,p1,t1,i1⟩:=K1 m l S U Q;rw[<- Z];refine za2 Y p1 λh' o g2 hk=>(UH (f.heap.objs.size+1) f.heap.objs.size _ 0 _ _ _ ⟨_,o⟩ ?_);have I2:=m.kept hk;obtain⟨S1,N1,z1⟩:=i1 f.heap.objs.size;refine⟨f.heap.objs.size+1,[f.heap.objs.size+1,f.heap.objs.size],_,_,g,rfl,I2,zcp _ _ (Nat.succ_ne_self _) N1 (UH _ _),⟨⟨_,o⟩,z1 _ g2⟩,λb r=>?_,post.here p l (.enum t1)⟩;have u:f.heap.objs.size<=b:=by
    simp at r;rcases r with rfl|rfl<;>lia
   exact m.fpOk u (m.hok.fresh u)
  ·exact aj p
 ·exact aj p
end
end DL
namespace TS
open PySem PyProof.Rows
abbrev G1:=Bool->bh->Array bh->Nat->Nat->Nat->StateT cu Sem (Option Nat)
abbrev M1:=Array bh->Array bh->StateT cu Sem (Array bh)
def lay(xs:Array bh)(at_:Nat)(m:List bh):Array bh:=m.zipIdx.foldl (λa x=>a.setIfInBounds (at_+x.2) x.1) xs
structure ph where
 g:G1
 lo:M1
 hi:M1
 at_:∀{M:Model}{A:bD}{E:ae->ai->Prop}{s:ai}{i:Nat}{st:cu}{Q:Bool->cu->Prop}{sa na pw sb nb J4:Nat}{kb:bh},
  (Ki st)[i]?=JU (sa,na,pw)->(Ki st)[i+1]?=JU (sb,nb,J4)->(Kg st)[sb]?=JU kb->
  wpS M A E s (g Kb kb (Kg st) sa na 0) (λr qT=>∃k,r=JU k/\(na-k=0->Q Ka qT)/\(na-k≠0->∃ka,(Kg st)[sa+k+(na-k)-1]?=JU ka/\
   wpS M A E s (g Ka ka (Kg st) sb nb (nb-1)) (λr2 qF=>∃m,r2=JU m/\(m=0->Q Ka qF)/\(m≠0->
    wpS M A E s (if na-k<=m then lo ((Kg st).extract (sa+k) sb) ((Kg st).extract sb (sb+m)) else hi ((Kg st).extract (sa+k) sb) ((Kg st).extract sb (sb+m)))
     (λmg qy=>Q (failedOf qy).isNone (setArr qy (lay (Kg qy) (sa+k) mg.toList))) qF)) qT)) (setPending st (((Ki st).setIfInBounds i (sa,na+nb,pw)).eraseIdxIfInBounds (i+1)))->
  wpS M A E s (mergeAt' i) Q st
def t9{M:Model}{A:bD}{E:ae->ai->Prop}{s:ai}{b:cu}{a:Array bh}{i:Nat}{x:bh}{Q:bh->cu->Prop}(h:a[i]?=JU x)(q:Q x b):wpS M A E s (elem' a i) Q b:=by rw[elem'_eq,h];exact aK q
def zhB{M:Model}{A:bD}{E:ae->ai->Prop}{s:ai}{σ:Type}{b a:σ}{Q:PUnit->σ->Prop}(q:Q ⟨⟩ a):wpS M A E s (set a) Q b:=ge (f:=λ_=>a) q
noncomputable def pk:ph:=by
 apply ph.mk
 case at_=>
  intro M A E s i st Q sa na pw sb nb J4 kb h1 h2 h3 h;show wpS M A E s (get >>= _) Q st;refine aF (h9 ?_);rw[show(Ki st)[i]?=_ from h1,show(Ki st)[i+1]?=_ from h2];refine aF (zhB (aF (t9 h3 (aF (dW h ?_)))));rintro _ qT ⟨k,rfl,e0,e1⟩;by_cases hk:na-k=0
  ·show wpS M A E s (if (na-k==0)=Ka then _ else _) Q qT;rw[Kd (by rw[hk];rfl)];exact aK (e0 hk)
  ·show wpS M A E s (if (na-k==0)=Ka then _ else _) Q qT;rw[Kf ⇑hk];obtain⟨ka,q1,q2⟩:=e1 hk;refine aF (t9 q1 (aF (dW q2 ?_)));rintro _ qF ⟨m,rfl,f0,f1⟩;by_cases hm:m=0
   ·subst hm;exact aK (f0 rfl)
   ·show wpS M A E s (if (m==0)=Ka then _ else _) Q qF;rw[Kf ⇑hm];have f2:=f1 hm;by_cases hc:na-k<=m
    ·rw[Kd hc] at f2;show wpS M A E s (if na-k<=m then _ else _) Q qF;rw[Kd hc];exact aF (dW f2 λmg qy q=>aF (ge (aF (h9 (aK q)))))
    ·rw[Kf hc] at f2;show wpS M A E s (if na-k<=m then _ else _) Q qF;rw[Kf hc];exact aF (dW f2 λmg qy q=>aF (ge (aF (h9 (aK q)))))
section
variable{prog:aU}{w:be}{A:bD}{E:ae->ai->Prop}{s:ai}{κ:aY}{st:cu}{kd:KT}
def ky(κ:aY)(x:bh):κ.α:=(κ.keyOf x.1).getD κ.dflt
def uv(κ:aY)(x:bh):Prop:=∃a,κ.keyOf x.1=JU a
abbrev Ty{α β:Type}(_:α->β):Type:=β
abbrev KT:Type:=Ty kindOf
def xo(prog:aU)(w:be)(A:bD)(s:ai)(κ:aY)(kd:KT):Prop:=∀(x y:bh)(E':ae->ai->Prop){Q:Bool->ai->Prop},uv κ x->uv κ y->Q (κ.blt (ky κ x) (ky κ y)) s->aq (av prog w) A (keyLt' kd x.1 y.1) Q E' s
def xo.one(e:κ.OneLt):xo prog w A s κ oneType':=λx y f Q ⟨a,c⟩ ⟨b,d⟩ q=>by
 have g:ky κ x=a:=by unfold ky;rw[c];rfl
 have h:ky κ y=b:=by unfold ky;rw[d];rfl
 rw[g,h] at q;exact e prog w A f s x.1 y.1 a b c d q
def Fv(a:xo prog w A s κ kd)(b:kindOf st=kd)(c:uv κ x)(d:uv κ y)(q:Q (JU (κ.blt (ky κ x) (ky κ y))) st):wpS (av prog w) A E s (lt' x y) Q st:=by rw[lt'_eq];refine aF (h9 (aF (jr (f6 ?_))));rw[b];exact a x y _ c d ⟨rfl,aK q⟩
def uB(κ:aY)(left:Bool)(key x:bh):Bool:=if left=Ka then κ.blt (ky κ x) (ky κ key) else !κ.blt (ky κ key) (ky κ x)
def Fl{α β:Type}{G:Prop}{H:α->β->Prop}(P:α->β->Prop)(h:(∀x y,H x y->P x y)->G)(k:∀x y,H x y->P x y):G:=h k
def zhN(ho:xo prog w A s κ kd){left:Bool}{key:bh}{L:Array bh}{base n hint:Nat}{b:Nat->Bool}(hk:kindOf st=kd)(tV:uv κ key)(hb:∀i,i<n->∃x,L[base+i]?=JU x/\uv κ x/\uB κ left key x=b i)(hh:hint<n)(t:∀i j,i<=j->j<n->b j=Ka->b i=Ka)
  {Q:Option Nat->cu->Prop} (q:∀k,k<=n->(∀i,i<k->b i=Ka)->(∀i,k<=i->i<n->b i=Kb)->Q (JU k) st):wpS (av prog w) A E s ((ph.g pk) left key L base n hint) Q st:=by
 have B:∀i,i<n->∀{Q:Option Bool->cu->Prop},Q (JU (b i)) st->wpS (av prog w) A E s (elem' L (base+i) >>= λx=>if left=Ka then lt' x key else lt' key x >>= λr=>pure (r.map λx=>!x)) Q st:=λi a Q hq=>by
  obtain⟨x,u,C,p⟩:=hb i a;refine aF (t9 u ?_);unfold uB at p;cases left with
  | true=>
   rw[Kd rfl] at p;rw[Kd rfl];exact Fv ho hk C tV (by rw[p];exact hq)
  | false=>
   rw[Kf 'u'] at p;rw[Kf 'u'];exact aF (Fv ho hk tV C (aK (by show Q (JU (!κ.blt (ky κ key) (ky κ x))) st;rw[p];exact hq)))
 have y:∀i j,i<=j->i<n->j<n->b i=Kb->b j=Kb:=λi j E1 a hj G=>by
  cases e:b j with
  |false=>rfl
  |true=>rw[t i j E1 hj e] at G;cases G
 show wpS _ _ _ _ (_ >>= _) Q st;refine aF (B hint hh ?_);apply Fl (β:=Nat) (H:=λd a=>d<=a/\a<=n/\(∀i,i<d->b i=Ka)/\(∀i,a<=i->i<n->b i=Kb));intro key;cases WA:b hint with
 | true=>
  refine aF (dW (cV (I:=λk c f=>f=st/\∃l o,c=(J9,l,o)/\l<o/\k+1<=o/\hint+l<n/\b (hint+l)=Ka) (Q:=λc f=>f=st/\∃l o,c=(J9,l,o)/\l<o/\hint+l<n/\b (hint+l)=Ka/\(hint+o<n->b (hint+o)=Kb)) ?_ ?_ ?_) ?_)
  ·rintro k c f _ zR ⟨P,l,o,rfl,u,C,p,v⟩;subst f;show wpS _ _ _ _ (if o ≥ n-hint then _ else _) _ st;by_cases J:o ≥ n-hint
   ·rw[Kd J];exact aK ⟨rfl,l,o,rfl,u,p,v,λh=>by lia⟩
   ·rw[Kf J];refine aF (B (hint+o) 'd' ?_);cases S:b (hint+o) with
    |true=>exact aK ⟨rfl,o,2*o+1,rfl,by lia,by lia,by lia,S⟩
    |false=>exact aK ⟨rfl,l,o,rfl,u,p,v,λ_=>S⟩
  ·rintro c f ⟨P,l,o,rfl,u,C,p,v⟩;subst f;exact⟨rfl,l,o,rfl,u,p,v,λh=>by rw[er] at C;lia⟩
  ·exact⟨rfl,0,1,rfl,by lia,by lia,by lia,WA⟩
  ·rintro c f ⟨P,l,o,rfl,u,p,v,h5⟩;subst f;have U:hint+l+1<=hint+min o (n-hint):=by lia
   have Y:hint+min o (n-hint)<=n:=by lia
   have Z:∀i,i<hint+l+1->b i=Ka:=λi a=>t i (hint+l) 'd' p v;have G:∀i,hint+min o (n-hint)<=i->i<n->b i=Kb:=λi a tJ=>by
    have:hint+o<n:=by lia
    exact y (hint+o) i 'd' this tJ (h5 this)
   show wpS _ _ _ _ (forIn [:n] (J9,hint+l+1,hint+min o (n-hint)) _ >>= _) Q st;generalize hint+l+1=d at *;generalize hint+min o (n-hint)=a at *;exact key _ _ ⟨U,Y,Z,G⟩
 | false=>
  refine aF (dW (cV (I:=λk c f=>f=st/\∃l o,c=(J9,l,o)/\l<o/\k+1<=o/\l<=hint/\b (hint-l)=Kb) (Q:=λc f=>f=st/\∃l o,c=(J9,l,o)/\l<o/\l<=hint/\b (hint-l)=Kb/\(o<=hint->b (hint-o)=Ka)) ?_ ?_ ?_) ?_)
  ·rintro k c f _ zR ⟨P,l,o,rfl,u,C,p,v⟩;subst f;show wpS _ _ _ _ (if o ≥ hint+1 then _ else _) _ st;by_cases J:o ≥ hint+1
   ·rw[Kd J];exact aK ⟨rfl,l,o,rfl,u,p,v,λh=>by lia⟩
   ·rw[Kf J];refine aF (B (hint-o) 'd' ?_);cases S:b (hint-o) with
    |true=>exact aK ⟨rfl,l,o,rfl,u,p,v,λ_=>S⟩
    |false=>exact aK ⟨rfl,o,2*o+1,rfl,by lia,by lia,by lia,S⟩
  ·rintro c f ⟨P,l,o,rfl,u,C,p,v⟩;subst f;exact⟨rfl,l,o,rfl,u,p,v,λh=>by rw[er] at C;lia⟩
  ·exact⟨rfl,0,1,rfl,by lia,by lia,by lia,WA⟩
  ·rintro c f ⟨P,l,o,rfl,u,p,v,h5⟩;subst f;have U:hint+1-min o (hint+1)<=hint-l:=by lia
   have Y:hint-l<=n:=by lia
   have Z:∀i,i<hint+1-min o (hint+1)->b i=Ka:=λi a=>by
    have:o<=hint:=by lia
    exact t i (hint-o) 'd' 'd' (h5 this)
   have G:∀i,hint-l<=i->i<n->b i=Kb:=λi a tJ=>y (hint-l) i a 'd' tJ v;show wpS _ _ _ _ (forIn [:n] (J9,hint+1-min o (hint+1),hint-l) _ >>= _) Q st;generalize hint+1-min o (hint+1)=d at *;generalize hint-l=a at *;exact key _ _ ⟨U,Y,Z,G⟩
 rintro d a ⟨U,Y,Z,G⟩;refine aF (dW (cV (I:=λk c C4=>C4=st/\∃d a,c=(J9,d,a)/\d<=a/\a<=n/\a-d<=n-k/\(∀i,i<d->b i=Ka)/\(∀i,a<=i->i<n->b i=Kb)) (Q:=λc C4=>C4=st/\∃m,c=(J9,m,m)/\m<=n/\(∀i,i<m->b i=Ka)/\(∀i,m<=i->i<n->b i=Kb)) ?_ ?_ ?_) ?_)
 ·rintro k c qF _ zR ⟨rfl,d,a,rfl,g1,M,g3,N,O⟩;show wpS _ _ _ _ (if d ≥ a then _ else _) _ qF;by_cases J:d ≥ a
  ·rw[Kd J];have:d=a:=by lia
   subst this;exact aK ⟨rfl,d,rfl,M,N,O⟩
  ·rw[Kf J];refine aF (B (d+(a-d)/2) 'd' ?_);cases uo:b (d+(a-d)/2) with
   |true=>exact aK ⟨rfl,d+(a-d)/2+1,a,rfl,by lia,M,by lia,λi xY=>t i (d+(a-d)/2) 'd' 'd' uo,O⟩
   |false=>exact aK ⟨rfl,d,d+(a-d)/2,rfl,by lia,by lia,by lia,N,λi xY tJ=>y (d+(a-d)/2) i xY 'd' tJ uo⟩
 ·rintro c qF ⟨rfl,d,a,rfl,g1,M,g3,N,O⟩;rw[er] at g3;have:d=a:=by lia
  subst this;exact⟨rfl,d,rfl,M,N,O⟩
 ·exact⟨rfl,d,a,rfl,U,Y,by lia,Z,G⟩
 ·rintro c qF ⟨rfl,m,rfl,M,N,O⟩;exact aK (q m M N O)
end
section
def Le(κ:aY)(x y:bh):Prop:=κ.blt (ky κ y) (ky κ x)=Kb
def Le.refl(x:bh):Le κ x x:=κ.irrefl _
def Le.trans(a:Le κ x y)(b:Le κ y z):Le κ x z:=by
 unfold Le at *;cases e:κ.blt (ky κ z) (ky κ x) with
 |false=>rfl
 | true=>
  rcases κ.negTrans _ (ky κ y) _ e with h|h
  ·rw[b] at h;cases h
  ·rw[a] at h;cases h
def Le.of(h:κ.blt (ky κ x) (ky κ y)=Ka):Le κ x y:=by
 unfold Le;cases e:κ.blt (ky κ y) (ky κ x) with
 |false=>rfl
 | true=>
  have:=κ.trans _ _ _ h e;rw[κ.irrefl] at this;cases this
def qN(κ:aY)(l:List bh):Prop:=l.Pairwise (Le κ)
structure Out(κ:aY)(a b r:List bh):Prop where
 perm:r.Perm (a++b)
 srt:qN κ r
structure Mg(κ:aY)(a b o:List bh)(i j:Nat):Prop where
 perm:o.Perm (a.take i++b.take j)
 srt:qN κ o
 la:∀x∈o,∀y∈a.drop i,Le κ x y
 lb:∀x∈o,∀y∈b.drop j,Le κ x y
def Mg.len(h:Mg κ a b o i j)(c:i<=a.length)(d:j<=b.length):o.length=i+j:=by rw[h.perm.length_eq,aC,bL,bL];lia
def TZ{α:Type}(l:List α)(i k:Nat){x:α}(h:x∈l.drop (i+k)):x∈l.drop i:=by rw[<- fg] at h;exact dB h
def qN.take_drop(h:qN κ l)(k:Nat):∀x∈l.take k,∀y∈l.drop k,Le κ x y:=by unfold qN at h;rw[<- cm k l,cw] at h;exact h.2.2
def Mg.addA(h:Mg κ a b o i j)(f:qN κ a)(k:Nat)(d:∀y∈(a.drop i).take k,∀z∈b.drop j,Le κ y z):Mg κ a b (o++(a.drop i).take k) (i+k) j:=by
 have e:qN κ (a.drop i):=f.sublist (dJ i a);refine⟨?_,?_,λx hx y c=>?_,λx hx y c=>?_⟩
 ·rw[on];refine(h.perm.append_right _).trans ?_;rw[bq,bq];exact(cY).append_left _
 ·unfold qN;rw[cw];exact⟨h.srt,e.sublist (de k _),λx hx y c=>h.la x hx y (cH c)⟩
 ·rcases aO.mp hx with hx|hx
  ·exact h.la x hx y (TZ a i k c)
  ·exact e.take_drop k x hx y (by rw[fg];exact c)
 ·rcases aO.mp hx with hx|hx
  ·exact h.lb x hx y c
  ·exact d x hx y c
def Mg.addB(h:Mg κ a b o i j)(f:qN κ b)(k:Nat)(d:∀y∈(b.drop j).take k,∀z∈a.drop i,Le κ y z):Mg κ a b (o++(b.drop j).take k) i (j+k):=by
 have e:qN κ (b.drop j):=f.sublist (dJ j b);refine⟨?_,?_,λx hx y c=>?_,λx hx y c=>?_⟩
 ·rw[on];refine(h.perm.append_right _).trans ?_;rw[bq]
 ·unfold qN;rw[cw];exact⟨h.srt,e.sublist (de k _),λx hx y c=>h.lb x hx y (cH c)⟩
 ·rcases aO.mp hx with hx|hx
  ·exact h.la x hx y c
  ·exact d x hx y c
 ·rcases aO.mp hx with hx|hx
  ·exact h.lb x hx y (TZ b j k c)
  ·exact e.take_drop k x hx y (by rw[fg];exact c)
def Mg.fin(h:Mg κ a b o i j)(d:qN κ a)(e:qN κ b)(f:∀x∈a.drop i,∀y∈b.drop j,Le κ x y):Out κ a b (o++a.drop i++b.drop j):=by
 refine⟨?_,?_⟩
 ·refine((h.perm.append_right _).append_right _).trans ?_
  conv=>rhs;rw[<- cm i a,<- cm j b]
  simp only[bq];refine fX _ ?_;rw[<- bq,<- bq];exact cY.append_right _
 ·unfold qN;rw[cw,cw];refine⟨⟨h.srt,d.sublist (dJ i a),h.la⟩,e.sublist (dJ j b),λx g y c=>?_⟩;rcases aO.mp g with h'|h'
  ·exact h.lb x h' y c
  ·exact f x h' y c
def Mg.fin'(h:Mg κ a b o i j)(c:qN κ a)(d:qN κ b)(e:∀y∈b.drop j,∀x∈a.drop i,Le κ y x):Out κ a b (o++b.drop j++a.drop i):=by have f:Mg κ b a o j i:=⟨h.perm.trans cY,h.srt,h.lb,h.la⟩;have:=f.fin d c e;exact⟨this.perm.trans cY,this.srt⟩
def BY{l:List bh}{i:Nat}{x:bh}(h:l[i]?=JU x):(l.drop i).take 1=[x]:=by obtain⟨a,rfl⟩:=ao.mp h;rw[dH a];rfl
def Ep(h:qN κ l)(c:l[i]?=JU x):∀y∈l.drop i,Le κ x y:=by
 obtain⟨a,rfl⟩:=ao.mp c;intro y hy;rw[dH a] at hy;have b:qN κ (l.drop i):=h.sublist (dJ i l);rw[dH a] at b;rcases am.mp hy with rfl|hy
 ·exact Le.refl _
 ·exact(cg.mp b).1 y hy
end
structure oX(st h_:cu):Prop where
 kind:kindOf h_=kindOf st
 arr:Kg h_=Kg st
 pend:Ki h_=Ki st
 failed:failedOf h_=failedOf st
def oX.refl(a:cu):oX a a:=⟨rfl,rfl,rfl,rfl⟩
def oX.trans(h:oX a b)(g:oX b c):oX a c:=⟨g.kind.trans h.kind,g.arr.trans h.arr,g.pend.trans h.pend,g.failed.trans h.failed⟩
section
variable{prog:aU}{w:be}{A:bD}{E:ae->ai->Prop}{s:ai}{κ:aY}{st:cu}{kd:KT}
def yo{a:Array bh}{i:Nat}(h:i<a.size):∃x,a[i]?=JU x/\a.toList[i]?=JU x:=⟨a[i],by simp[h],by simp[h]⟩
def Sa(b:oX st (f st))(h:∀a,oX st a->Q ⟨⟩ a):wpS M A E s (modify f) Q st:=ge (h _ b)
def IC(a:Array bh)(i:Nat):(a.extract i).toList=a.toList.drop i:=by simp only[lH,j4];exact cT 'k'
def Ls(a:Array bh)(i k:Nat):(a.extract i (i+k)).toList=(a.toList.drop i).take k:=by simp
def QG{a b:List bh}{c:Array bh}{d e:Nat}{x:bh}(m:Mg κ a b c.toList d e)(g:qN κ a)(f:a[d]?=JU x)(h:∀z∈b.drop e,Le κ x z):Mg κ a b (c.push x).toList (d+1) e:=by have:=m.addA g 1 (by rw[BY f];intro y i;rw[cA.mp i];exact h);rw[BY f] at this;rw[fw];exact this
def Q2{a b:List bh}{c:Array bh}{d e:Nat}{x:bh}(m:Mg κ a b c.toList d e)(g:qN κ b)(f:b[e]?=JU x)(h:∀z∈a.drop d,Le κ x z):Mg κ a b (c.push x).toList d (e+1):=by have:=m.addB g 1 (by rw[BY f];intro y i;rw[cA.mp i];exact h);rw[BY f] at this;rw[fw];exact this
def Es(G:xo prog w A s κ kd){left:Bool}{key:bh}{c:Array bh}{base n hint:Nat}{L:List bh}(C:(c.toList.drop base).take n=L)(H:kindOf st=kd)(I:uv κ key)(Y:base+n<=c.size)(J:hint<n)(r:∀x∈L,uv κ x)(t:qN κ L)
  {Q:Option Nat->cu->Prop} (q:∀k,k<=n->(∀x∈L.take k,uB κ left key x=Ka)->(∀x∈L.drop k,uB κ left key x=Kb)->Q (JU k) st):wpS (av prog w) A E s ((ph.g pk) left key c base n hint) Q st:=by
 have M:L.length=n:=by
  rw[<- C,bL,cD,aE];lia
 have l:∀i,i<n->∃x,c[base+i]?=JU x/\L[i]?=JU x:=λi d=>by
  obtain⟨x,u,f⟩:=yo (a:=c) (i:=base+i) 'd';refine⟨x,u,?_⟩;rw[<- C,gj d,List.getElem?_drop];exact f
 refine zhN G (b:=λi=>match L[i]? with|some x=>uB κ left key x|none=>Kb) H I (λi d=>?_) J (λi j Z N e=>?_) λk O P S=>q k O (λx m=>?_) λx m=>?_
 ·obtain⟨x,u,f⟩:=l i d;exact⟨x,u,r x (aJ f),by rw[f]⟩
 ·obtain⟨x,_,m⟩:=l i 'd';obtain⟨y,_,p⟩:=l j N;rw[p] at e;rw[m]
  replace e:uB κ left key y=Ka:=e
  show uB κ left key x=Ka;by_cases h:i=j
  ·subst h;rw[m] at p;cases p;exact e
  have o:Le κ x y:=by
   obtain⟨v,rfl⟩:=ao.mp m;obtain⟨B,rfl⟩:=ao.mp p;exact gf.mp t i j v B 'd'
  unfold uB at e ⊢;cases left with
  | true=>
   rw[Kd rfl] at e ⊢;rcases κ.negTrans _ (ky κ x) _ e with h|h
   ·rw[show κ.blt (ky κ y) (ky κ x)=Kb from o] at h;cases h
   ·exact h
  | false=>
   rw[Kf 'u'] at e ⊢;have U:Le κ y key:=by unfold Le;simpa using e
   have:Le κ x key:=o.trans U;unfold Le at this;rw[this];rfl
 ·obtain⟨i,d,e⟩:=lV m;have v:i<k:=by rw[bL] at d;lia
  have:=P i v;have f:L[i]?=JU x:=by rw[<- e,mP];exact au (by rw[bL] at d;lia)
  rw[f] at this;exact this
 ·obtain⟨i,d,e⟩:=lV m;rw[cD] at d;have:=S (k+i) 'd' 'd';have f:L[k+i]?=JU x:=by rw[<- e,mQ];exact au 'd'
  rw[f] at this;exact this
def QN{α:Type}{G:Prop}(P:α->Prop)(h:(∀x,P x)->G)(k:∀x,P x):G:=h k
def Ze(ho:xo prog w A s κ kd){a b:Array bh}(hk:kindOf st=kd)(ha:∀x∈a.toList,uv κ x)(hb:∀x∈b.toList,uv κ x)(sa:qN κ a.toList)(Z:qN κ b.toList)(pa:1<=a.size)(pb:1<=b.size)
  (h0:∀x∈b.toList.take 1,∀y∈a.toList,Le κ x y) (hl:∀y∈b.toList,∀x∈a.toList.drop (a.size-1),Le κ y x) {Q:Array bh->cu->Prop} (q:∀r G,oX st G->Out κ a.toList b.toList r.toList->Q r G):wpS (av prog w) A E s ((ph.lo pk) a b) Q st:=by
 have N3:a.toList.length=a.size:=aE;have N0:b.toList.length=b.size:=aE;have tY:∀{l:Array bh}{d f:Nat},Mg κ a.toList b.toList l.toList d f->(f=b.size\/d=a.size)->Out κ a.toList b.toList (l++a.extract d++b.extract f).toList:=λ{l d f}m h=>by
  rw[ci,ci,IC,IC];refine m.fin sa Z λx n y S=>?_;rcases h with rfl|rfl
  ·rw[fK 'd'] at S;cases S
  ·rw[fK 'd'] at n;cases n
 have tX:∀{l:Array bh}{d f:Nat},Mg κ a.toList b.toList l.toList d f->d+1=a.size->Out κ a.toList b.toList (l++b.extract f++a.extract d).toList:=λ{l d f}m h=>by
  rw[ci,ci,IC,IC];refine m.fin' sa Z λy S x n=>hl y (dB S) x ?_;have:a.size-1=d:=by lia
  rw[this];exact n
 obtain⟨b0,g0,l0⟩:=yo (a:=b) (i:=0) 'd';have m0:Mg κ a.toList b.toList (#[b0]:Array bh).toList 0 1:=by
  have e:b.toList.take 1=[b0]:=by
   have:=BY l0;simpa using this
  refine⟨by rw[e];exact fG _,kC _ _,λx n y S=>h0 x (by rw[e];exact n) y S,λx n y S=>?_⟩;have:x=b0:=⇑n
  subst this;exact Ep Z l0 y (dB S)
 show wpS _ _ _ _ (_ >>= _) Q st;refine aF (jr (dU ⟨rfl,aF (t9 g0 ?_)⟩));by_cases c1:1=b.size
 ·show wpS _ _ _ _ (if (1==b.size)=Ka then _ else _) Q st;rw[Kd ⇑c1];exact aK (q _ st (oX.refl st) (tY m0 (.inl c1)))
 show wpS _ _ _ _ (if (1==b.size)=Ka then _ else _) Q st;rw[Kf ⇑c1];by_cases c2:1=a.size
 ·show wpS _ _ _ _ (if (0+1==a.size)=Ka then _ else _) Q st;rw[Kd ⇑c2];exact aK (q _ st (oX.refl st) (tX m0 'd'))
 show wpS _ _ _ _ (if (0+1==a.size)=Ka then _ else _) Q st;rw[Kf ⇑c2];refine aF (h9 (aF (dW (cV (I:=λk c G=>oX st G/\∃l d f M,c=(J9,l,d,f,M)/\Mg κ a.toList b.toList l.toList d f/\d+1<a.size/\f<b.size/\k+1<=l.size) (Q:=λc G=>oX st G/\∃r,c.1=JU r/\Out κ a.toList b.toList r.toList) ?_ ?_ ?_) ?_)))
 ·rintro k c qT _ hkt ⟨sm,l,d,f,M,rfl,m,N,J,c5⟩;have zS:kindOf qT=kd:=sm.kind.trans hk;refine aF (dW (cV (I:=λj c G=>G=qT/\∃o d f t v,c=(J9,o,d,f,t,v)/\Mg κ a.toList b.toList o.toList d f/\d+1<a.size/\f<b.size/\l.size+j<=o.size) (Q:=λc G=>G=qT/\((∃r,c.1=JU r/\Out κ a.toList b.toList r.toList) \/ ∃o d f t v,c=(J9,o,d,f,t,v)/\Mg κ a.toList b.toList o.toList d f/\d+1<a.size/\f<b.size/\l.size+1<=o.size)) ?_ ?_ ?_) ?_)
  ·rintro j c qF _ OJ ⟨rfl,o,d,f,t,v,rfl,m,N,J,c6⟩;obtain⟨y,gy,ly⟩:=yo (a:=b) J;obtain⟨x,gx,lx⟩:=yo (a:=a) (i:=d) 'd';refine aF (t9 gy (aF (t9 gx (aF (Fv ho zS (hb y (aJ ly)) (ha x (aJ lx)) ?_)))));cases hc:κ.blt (ky κ y) (ky κ x) with
   | true=>
    have m':=Q2 m Z ly λz O=>(Le.of hc).trans (Ep sa lx z O);refine aF (t9 gy ?_);show wpS _ _ _ _ (if (f+1==b.size)=Ka then _ else _) _ qF;by_cases e:f+1=b.size
    ·rw[Kd ⇑e];exact aK ⟨rfl,.inl ⟨_,rfl,tY m' (.inl e)⟩⟩
    ·rw[Kf ⇑e];split
     ·exact aK ⟨rfl,.inr ⟨o.push y,d,f+1,0,v+1,rfl,m',N,by lia,by rw[cC];lia⟩⟩
     ·exact aK ⟨rfl,o.push y,d,f+1,0,v+1,rfl,m',N,by lia,by rw[cC];lia⟩
   | false=>
    have m':=QG m sa lx λz O=>Le.trans (show Le κ x y from hc) (Ep Z ly z O);refine aF (t9 gx ?_);show wpS _ _ _ _ (if (d+1+1==a.size)=Ka then _ else _) _ qF;by_cases e:d+1+1=a.size
    ·rw[Kd ⇑e];exact aK ⟨rfl,.inl ⟨_,rfl,tX m' e⟩⟩
    ·rw[Kf ⇑e];split
     ·exact aK ⟨rfl,.inr ⟨o.push x,d+1,f,t+1,0,rfl,m',by lia,J,by rw[cC];lia⟩⟩
     ·exact aK ⟨rfl,o.push x,d+1,f,t+1,0,rfl,m',by lia,J,by rw[cC];lia⟩
  ·rintro c qF ⟨rfl,o,d,f,t,v,rfl,m,N,J,c6⟩;have:=m.len 'd' 'd';rw[aE] at this;rw[er] at c6;lia
  ·exact⟨rfl,l,d,f,0,0,rfl,m,N,J,by lia⟩
  rintro c qF ⟨rfl,h⟩;rcases h with⟨r,e,hr⟩|⟨o,d,f,t,v,rfl,m,N,J,c6⟩
  ·obtain⟨c,c'⟩:=c;dsimp only at e;subst e;exact aK ⟨sm,r,rfl,hr⟩
  refine aF (jr (dU ⟨rfl,aF (dW (cV (I:=λj c G=>oX st G/\∃B d f M t v,c=(J9,B,d,f,M,t,v)/\Mg κ a.toList b.toList B.toList d f/\d+1<a.size/\f<b.size/\o.size+j<=B.size) (Q:=λc G=>oX st G/\((∃r,c.1=JU r/\Out κ a.toList b.toList r.toList) \/ ∃B d f M t v,c=(J9,B,d,f,M,t,v)/\Mg κ a.toList b.toList B.toList d f/\d+1<a.size/\f<b.size/\o.size<=B.size)) ?_ ?_ ?_) ?_)⟩))
  ·rintro j c qy _ OJ ⟨u9,B,d,f,M,t,v,rfl,m,N,J,c6⟩;obtain⟨y,gy,ly⟩:=yo (a:=b) J;have S:=hb y (aJ ly);have DN:∀P,oX st P->∀{Q:Option Nat->cu->Prop},(∀k,k<=a.size-d->(∀x∈(a.toList.drop d).take k,Le κ x y)->(∀x∈a.toList.drop (d+k),Le κ y x)->Q (JU k) P)->wpS (av prog w) A E s ((ph.g pk) Kb y a d (a.size-d) 0) Q P:=λP s4 Q h=>
    Es ho (cT (by rw[cD];lia)) (s4.kind.trans hk) S 'd' 'd' (λx n=>ha x (dB n)) (sa.sublist (dJ d _)) λk h1 h2 h3=>h k h1 (λx n=>by
     have:=h2 x n;unfold uB at this;rw[Kf 'u'] at this;unfold Le;simpa using this) λx n=>by
     rw[<- fg] at n;have:=h3 x n;unfold uB at this;rw[Kf 'u'] at this;exact Le.of ⇑this
   have DM:∀x{C:Nat},a.toList[C]?=JU x->∀P,oX st P->f+1<b.size->∀{Q:Option Nat->cu->Prop},(∀k,k<=b.size-(f+1)->(∀z∈(b.toList.drop (f+1)).take k,Le κ z x)->(∀z∈b.toList.drop (f+1+k),Le κ x z)->Q (JU k) P)->wpS (av prog w) A E s ((ph.g pk) Ka x b (f+1) (b.size-(f+1)) 0) Q P:=λx C lx P s4 h4 Q h=>
    Es ho (L:=b.toList.drop (f+1)) (cT (by rw[cD];lia)) (s4.kind.trans hk) (ha x (aJ lx)) 'd' 'd' (λx n=>hb x (dB n)) (Z.sublist (dJ _ _)) λk h1 h2 h3=>h k h1 (λz O=>by
     have:=h2 z O;unfold uB at this;rw[Kd rfl] at this;exact Le.of this) λz O=>by
     rw[<- fg] at O;have:=h3 z O;unfold uB at this;rw[Kd rfl] at this;exact this
   show wpS _ _ _ _ (if M>1 then _ else _) _ qy;apply QN (α:=Nat)
   ·intro p;split
    ·generalize M-1=GC;exact p GC
    ·exact p M
   intro GC;refine aF (Sa ⟨rfl,rfl,rfl,rfl⟩ λP s4=>aF (t9 gy (aF (DN P (u9.trans s4) ?_))));have uN:=u9.trans s4;intro k zR kt kf;have m3:=m.addA sa k λx n z O=>(kt x n).trans (Ep Z ly z O);rw[<- Ls,<- ci] at m3;have n3:B.size<=(B++a.extract d (d+k)).size:=by rw[gD];lia
   show wpS _ _ _ _ (if k>0 then _ else _) _ _;apply Fl (H:=λ(U:Array bh)(C:Nat)=>Mg κ a.toList b.toList U.toList C f/\B.size<=U.size/\C+1<a.size/\∀x∈a.toList.drop C,Le κ y x)
   ·intro p;by_cases yE:k>0
    ·rw[Kd yE];show wpS _ _ _ _ (if (d+k+1==a.size)=Ka then _ else _) _ _;by_cases e1:d+k+1=a.size
     ·rw[Kd ⇑e1];exact aK ⟨uN,.inl ⟨_,rfl,tX m3 e1⟩⟩
     ·rw[Kf ⇑e1];show wpS _ _ _ _ (if (d+k==a.size)=Ka then _ else _) _ _;by_cases e2:d+k=a.size
      ·rw[Kd ⇑e2];exact aK ⟨uN,.inl ⟨_,rfl,tY m3 (.inr e2)⟩⟩
      ·rw[Kf ⇑e2];have hh:=fN m3 (fN n3 (fN (show d+k+1<a.size by lia) kf));generalize B++a.extract d (d+k)=U at hh ⊢;generalize d+k=C at hh ⊢;exact p U C hh
    ·rw[Kf yE];have xH:k=0:=by lia
     rw[xH,mn] at kf;exact p B d ⟨m,aw _,N,kf⟩
   rintro U C ⟨m3,n3,f3,C_⟩;have m4:=Q2 m3 Z ly C_;refine aF (t9 gy ?_);show wpS _ _ _ _ (if (f+1==b.size)=Ka then _ else _) _ _;by_cases e3:f+1=b.size
   ·rw[Kd ⇑e3];exact aK ⟨uN,.inl ⟨_,rfl,tY m4 (.inl e3)⟩⟩
   ·rw[Kf ⇑e3];obtain⟨x,gx,lx⟩:=yo (a:=a) (i:=C) 'd';refine aF (t9 gx (aF (DM x lx _ uN 'd' ?_)));intro Y tu N7 B6;have m5:=m4.addB Z Y λz O u hu=>(N7 z O).trans (Ep sa lx u hu);rw[<- Ls,<- ci] at m5;have n5:U.size+1<=(U.push y++b.extract (f+1) (f+1+Y)).size:=by rw[gD,cC];lia
    show wpS _ _ _ _ (if Y>0 then _ else _) _ _;apply Fl (H:=λ(xB:Array bh)(B9:Nat)=>Mg κ a.toList b.toList xB.toList C B9/\U.size+1<=xB.size/\B9<b.size/\∀z∈b.toList.drop B9,Le κ x z)
    ·intro p;by_cases yE:Y>0
     ·rw[Kd yE];show wpS _ _ _ _ (if (f+1+Y==b.size)=Ka then _ else _) _ _;by_cases e4:f+1+Y=b.size
      ·rw[Kd ⇑e4];exact aK ⟨uN,.inl ⟨_,rfl,tY m5 (.inl e4)⟩⟩
      ·rw[Kf ⇑e4];have hh:=fN m5 (fN n5 (fN (show f+1+Y<b.size by lia) B6));generalize U.push y++b.extract (f+1) (f+1+Y)=xB at hh ⊢;generalize f+1+Y=B9 at hh ⊢;exact p xB B9 hh
     ·rw[Kf yE];have xH:Y=0:=by lia
      rw[xH,mn] at B6;exact p (U.push y) (f+1) ⟨m4,by rw[cC];exact aw _,by lia,B6⟩
    rintro xB B9 ⟨m5,n5,f5,B6⟩;have m6:=QG m5 sa lx B6;refine aF (t9 gx ?_);show wpS _ _ _ _ (if (C+1+1==a.size)=Ka then _ else _) _ _;by_cases e5:C+1+1=a.size
    ·rw[Kd ⇑e5];exact aK ⟨uN,.inl ⟨_,rfl,tX m6 e5⟩⟩
    ·rw[Kf ⇑e5];split
     ·exact aK ⟨uN,.inr ⟨xB.push x,C+1,B9,_,_,_,rfl,m6,by lia,f5,by rw[cC];lia⟩⟩
     ·exact aK ⟨uN,xB.push x,C+1,B9,_,_,_,rfl,m6,by lia,f5,by rw[cC];lia⟩
  ·rintro c qy ⟨u9,B,d,f,M,t,v,rfl,m,N,J,c6⟩;have:=m.len 'd' 'd';rw[aE] at this;rw[er] at c6;lia
  ·exact⟨sm,o,d,f,_,t,v,rfl,m,N,J,by lia⟩
  rintro c qy ⟨u9,h⟩;rcases h with⟨r,e,hr⟩|⟨B,d,f,M,t,v,rfl,m,N,J,c7⟩
  ·obtain⟨c,c'⟩:=c;dsimp only at e;subst e;exact aK ⟨u9,r,rfl,hr⟩
  ·exact aF (ge (aK ⟨⟨u9.kind,u9.arr,u9.pend,u9.failed⟩,B,d,f,_,rfl,m,N,J,by lia⟩))
 ·rintro c qT ⟨sm,l,d,f,M,rfl,m,N,J,c5⟩;have:=m.len 'd' 'd';rw[aE] at this;rw[er] at c5;lia
 ·exact⟨oX.refl st,#[b0],0,1,_,rfl,m0,by lia,by lia,by simp⟩
 ·rintro⟨c,c'⟩ qT ⟨sm,r,e,hr⟩;dsimp only at e;subst e;exact aK (q r qT sm hr)
end
section
structure Mh(κ:aY)(a b o:List bh)(i j:Nat):Prop where
 perm:o.Perm (a.drop i++b.drop j)
 srt:qN κ o.reverse
 la:∀x∈a.take i,∀y∈o,Le κ x y
 lb:∀x∈b.take j,∀y∈o,Le κ x y
def Mh.len(h:Mh κ a b o i j):o.length=(a.length-i)+(b.length-j):=by rw[h.perm.length_eq,aC,cD,cD]
def zh5{α:Type}{l:List α}{i k:Nat}(h:k<=i){x:α}(a:x∈l.take k):x∈l.take i:=by
 have:l.take k=(l.take i).take k:=by rw[gO,gz h]
 rw[this] at a;exact cH a
def zdr{α:Type}(l:List α)(h:k<=i):l.drop k=(l.take i).drop k++l.drop i:=by
 by_cases a:i<=l.length
 ·conv=>lhs;rw[<- cm i l]
  rw[fz (by rw[bL];lia)]
 ·rw[cT 'd',fK (i:=i) 'd',bX]
def qN.mid(h:qN κ l)(b:k<=i):∀x∈l.take k,∀y∈(l.take i).drop k,Le κ x y:=by
 have c:qN κ (l.take i):=h.sublist (de i l);intro x a y d;have:l.take k=(l.take i).take k:=by rw[gO,gz b]
 rw[this] at a;exact c.take_drop k x a y d
def Mh.addA(h:Mh κ a b o i j)(f:qN κ a){k:Nat}(d:k<=i)(e:∀z∈b.take j,∀y∈(a.take i).drop k,Le κ z y):Mh κ a b (o++((a.take i).drop k).reverse) k j:=by
 refine⟨?_,?_,λx c y hy=>?_,λx c y hy=>?_⟩
 ·rw[zdr a d];refine(h.perm.append (mR _)).trans ?_;rw[bq];refine cY.trans ?_;rw[bq];exact cY
 ·rw[List.reverse_append,List.reverse_reverse];unfold qN;rw[cw];exact⟨(f.sublist (de i a)).sublist (dJ k _),h.srt,λx c y hy=>h.la x (dB c) y (gX.mp hy)⟩
 ·rcases aO.mp hy with hy|hy
  ·exact h.la x (zh5 d c) y hy
  ·exact f.mid d x c y (gX.mp hy)
 ·rcases aO.mp hy with hy|hy
  ·exact h.lb x c y hy
  ·exact e x c y (gX.mp hy)
def Mh.swap(h:Mh κ a b o i j):Mh κ b a o j i:=⟨h.perm.trans cY,h.srt,h.lb,h.la⟩
def Mh.addB(h:Mh κ a b o i j)(d:qN κ b)(e:k<=j)(c:∀z∈a.take i,∀y∈(b.take j).drop k,Le κ z y):Mh κ a b (o++((b.take j).drop k).reverse) i k:=(h.swap.addA d e c).swap
def Mh.fin(h:Mh κ a b o i j)(d:qN κ a)(e:qN κ b)(f:∀x∈a.take i,∀y∈b.take j,Le κ x y):Out κ a b (a.take i++b.take j++o.reverse):=by
 refine⟨?_,?_⟩
 ·refine(((mR o).trans h.perm).append_left _).trans ?_
  conv=>rhs;rw[<- cm i a,<- cm j b]
  simp only[bq];refine fX _ ?_;rw[<- bq,<- bq];exact cY.append_right _
 ·unfold qN;rw[cw,cw];refine⟨⟨d.sublist (de i a),e.sublist (de j b),f⟩,h.srt,λx g y c=>?_⟩;rcases aO.mp g with h'|h'
  ·exact h.la x h' y (gX.mp c)
  ·exact h.lb x h' y (gX.mp c)
def Mh.fin'(h:Mh κ a b o i j)(c:qN κ a)(d:qN κ b)(e:∀y∈b.take j,∀x∈a.take i,Le κ y x):Out κ a b (b.take j++a.take i++o.reverse):=by have:=h.swap.fin d c e;exact⟨this.perm.trans cY,this.srt⟩
def F4{l:List bh}{i:Nat}{x:bh}(h:l[i]?=JU x):(l.take (i+1)).drop i=[x]:=by obtain⟨a,rfl⟩:=ao.mp h;rw[n8,dh,dH a];rfl
def FR{l:List bh}(h:qN κ l){i:Nat}{x:bh}(a:l[i]?=JU x):∀y∈l.take (i+1),Le κ y x:=by
 intro y hy;have e:=F4 a;have:l.take (i+1)=l.take i++[x]:=by
  rw[fh,a];rfl
 rw[this] at hy;rcases aO.mp hy with hy|hy
 ·exact h.mid (fi i) y hy x (by rw[e];simp)
 ·rw[cA.mp hy];exact Le.refl _
def IG{c:Array bh}{x:bh}(m:Mh κ a b c.toList (i+1) j)(e:qN κ a)(d:a[i]?=JU x)(h:∀z∈b.take j,Le κ z x):Mh κ a b (c.push x).toList i j:=by have:=m.addA e (k:=i) 'd' (by rw[F4 d];intro z f y g;rw[cA.mp g];exact h z f);rw[F4 d] at this;rw[fw];exact this
def RA{c:Array bh}{x:bh}(m:Mh κ a b c.toList i (j+1))(e:qN κ b)(d:b[j]?=JU x)(h:∀z∈a.take i,Le κ z x):Mh κ a b (c.push x).toList i j:=by have:=m.addB e (k:=j) 'd' (by rw[F4 d];intro z f y g;rw[cA.mp g];exact h z f);rw[F4 d] at this;rw[fw];exact this
def Ib(a:Array bh)(i:Nat):(a.extract 0 i).toList=a.toList.take i:=by simp
def QC(a:Array bh)(k i:Nat):((a.extract k i).reverse).toList=((a.toList.take i).drop k).reverse:=by simp[n8]
end
section
variable{prog:aU}{w:be}{A:bD}{E:ae->ai->Prop}{s:ai}{κ:aY}{st:cu}{kd:KT}
def IP{n:Nat}{o:Array bh}{x:bh}(h:n<=o.size):n+1<=(o.push x).size:=by rw[cC];lia
def Yt(ho:xo prog w A s κ kd)(hk:kindOf st=kd)(ha:∀x∈a.toList,uv κ x)(hb:∀x∈b.toList,uv κ x)(Z:qN κ a.toList)(sb:qN κ b.toList)(pa:1<=a.size)(pb:1<=b.size)
  (h0:∀x∈b.toList.take 1,∀y∈a.toList,Le κ x y) (hl:∀y∈b.toList,∀x∈a.toList.drop (a.size-1),Le κ y x) {Q:Array bh->cu->Prop} (q:∀r G,oX st G->Out κ a.toList b.toList r.toList->Q r G):wpS (av prog w) A E s ((ph.hi pk) a b) Q st:=by
 have N3:a.toList.length=a.size:=aE;have N0:b.toList.length=b.size:=aE;have tY:∀{l:Array bh}{d f:Nat},Mh κ a.toList b.toList l.toList d f->(d=0\/f=0)->Out κ a.toList b.toList (a.extract 0 d++b.extract 0 f++l.reverse).toList:=λ{l d f}m h=>by
  rw[ci,ci,Ib,Ib,lI];refine m.fin Z sb λx P y hy=>?_;rcases h with rfl|rfl
  ·cases P
  ·cases hy
 have tX:∀{l:Array bh}{d f:Nat},Mh κ a.toList b.toList l.toList d f->f=1->Out κ a.toList b.toList (b.extract 0 f++a.extract 0 d++l.reverse).toList:=λ{l d f}m h=>by
  rw[ci,ci,Ib,Ib,lI];subst h;exact m.fin' Z sb λy hy x P=>h0 y hy x (cH P)
 obtain⟨x0,g0,l0⟩:=yo (a:=a) (i:=a.size-1) 'd';have m0:Mh κ a.toList b.toList (#[x0]:Array bh).toList (a.size-1) b.size:=by
  have m00:Mh κ a.toList b.toList (#[]:Array bh).toList (a.size-1+1) b.size:=by
   refine⟨?_,fu,(λx _ y hy=>nomatch hy),(λx _ y hy=>nomatch hy)⟩;rw[fK 'd',fK 'd'];exact fG _
  exact IG m00 Z l0 λz H=>hl z (cH H) x0 (by
   have:=BY l0;exact cH (by rw[this];simp:x0∈(a.toList.drop (a.size-1)).take 1))
 show wpS _ _ _ _ (_ >>= _) Q st;refine aF (jr (dU ⟨rfl,aF (t9 g0 ?_)⟩));show wpS _ _ _ _ (if (a.size-1==0)=Ka then _ else _) Q st;by_cases c1:a.size-1=0
 ·rw[Kd ⇑c1];exact aK (q _ st (oX.refl st) (tY m0 (.inl c1)))
 rw[Kf ⇑c1];show wpS _ _ _ _ (if (b.size==1)=Ka then _ else _) Q st;by_cases c2:b.size=1
 ·rw[Kd ⇑c2];exact aK (q _ st (oX.refl st) (tX m0 c2))
 rw[Kf ⇑c2];refine aF (h9 (aF (dW (cV (I:=λk c G=>oX st G/\∃d f l J,c=(J9,d,f,l,J)/\Mh κ a.toList b.toList l.toList d f/\1<=d/\d<=a.size/\2<=f/\f<=b.size/\k+1<=l.size) (Q:=λc G=>oX st G/\∃r,c.1=JU r/\Out κ a.toList b.toList r.toList) ?_ ?_ ?_) ?_)))
 ·rintro k c qT _ hkt ⟨sm,d,f,l,J,rfl,m,L,M,N,O,c5⟩;have zS:kindOf qT=kd:=sm.kind.trans hk;refine aF (dW (cV (I:=λj c G=>G=qT/\∃d f o v B,c=(J9,d,f,o,v,B)/\Mh κ a.toList b.toList o.toList d f/\1<=d/\d<=a.size/\2<=f/\f<=b.size/\l.size+j<=o.size) (Q:=λc G=>G=qT/\((∃r,c.1=JU r/\Out κ a.toList b.toList r.toList) \/ ∃d f o v B,c=(J9,d,f,o,v,B)/\Mh κ a.toList b.toList o.toList d f/\1<=d/\d<=a.size/\2<=f/\f<=b.size/\l.size+1<=o.size)) ?_ ?_ ?_) ?_)
  ·rintro j c qF _ OJ ⟨rfl,d,f,o,v,B,rfl,m,L,M,N,O,c6⟩;obtain⟨p,rfl⟩:∃p,d=p+1:=⟨d-1,by lia⟩;obtain⟨r,rfl⟩:∃r,f=r+1:=⟨f-1,by lia⟩;obtain⟨y,gy,ly⟩:=yo (a:=b) (i:=r) 'd';obtain⟨x,gx,lx⟩:=yo (a:=a) (i:=p) 'd';refine aF (t9 gy (aF (t9 gx (aF (Fv ho zS (hb y (aJ ly)) (ha x (aJ lx)) ?_)))));cases hc:κ.blt (ky κ y) (ky κ x) with
   | true=>
    have m':=IG m Z lx λz H=>(FR sb ly z H).trans (Le.of hc);refine aF (t9 gx ?_);show wpS _ _ _ _ (if (p==0)=Ka then _ else _) _ qF;by_cases e:p=0
    ·rw[Kd ⇑e];exact aK ⟨rfl,.inl ⟨_,rfl,tY m' (.inl e)⟩⟩
    ·rw[Kf ⇑e];split
     ·exact aK ⟨rfl,.inr ⟨p,r+1,o.push x,v+1,0,rfl,m',by lia,by lia,N,O,by rw[cC];lia⟩⟩
     ·exact aK ⟨rfl,p,r+1,o.push x,v+1,0,rfl,m',by lia,by lia,N,O,by rw[cC];lia⟩
   | false=>
    have m':=RA m sb ly λz H=>(FR Z lx z H).trans (show Le κ x y from hc);refine aF (t9 gy ?_);show wpS _ _ _ _ (if (r==1)=Ka then _ else _) _ qF;by_cases e:r=1
    ·rw[Kd ⇑e];exact aK ⟨rfl,.inl ⟨_,rfl,tX m' e⟩⟩
    ·rw[Kf ⇑e];split
     ·exact aK ⟨rfl,.inr ⟨p+1,r,o.push y,0,B+1,rfl,m',L,M,by lia,by lia,by rw[cC];lia⟩⟩
     ·exact aK ⟨rfl,p+1,r,o.push y,0,B+1,rfl,m',L,M,by lia,by lia,by rw[cC];lia⟩
  ·rintro c qF ⟨rfl,d,f,o,v,B,rfl,m,L,M,N,O,c6⟩;have:=m.len;rw[aE] at this;rw[er] at c6;lia
  ·exact⟨rfl,d,f,l,0,0,rfl,m,L,M,N,O,by lia⟩
  rintro c qF ⟨rfl,h⟩;rcases h with⟨r,e,hr⟩|⟨d,f,o,v,B,rfl,m,L,M,N,O,c6⟩
  ·obtain⟨c,c'⟩:=c;dsimp only at e;subst e;exact aK ⟨sm,r,rfl,hr⟩
  refine aF (jr (dU ⟨rfl,aF (dW (cV (I:=λj c G=>oX st G/\∃d f C J v B,c=(J9,d,f,C,J,v,B)/\Mh κ a.toList b.toList C.toList d f/\1<=d/\d<=a.size/\2<=f/\f<=b.size/\o.size+j<=C.size) (Q:=λc G=>oX st G/\((∃r,c.1=JU r/\Out κ a.toList b.toList r.toList) \/ ∃d f C J v B,c=(J9,d,f,C,J,v,B)/\Mh κ a.toList b.toList C.toList d f/\1<=d/\d<=a.size/\2<=f/\f<=b.size/\o.size<=C.size)) ?_ ?_ ?_) ?_)⟩))
  ·rintro j c qy _ OJ ⟨u9,d,f,C,J,v,B,rfl,m,L,M,N,O,c6⟩;obtain⟨r,rfl⟩:∃r,f=r+1:=⟨f-1,by lia⟩;obtain⟨y,gy,ly⟩:=yo (a:=b) (i:=r) 'd';have hy:=hb y (aJ ly);have DN:∀S,oX st S->∀{Q:Option Nat->cu->Prop},(∀k,k<=d->(∀x∈a.toList.take k,Le κ x y)->(∀x∈(a.toList.take d).drop k,Le κ y x)->Q (JU k) S)->wpS (av prog w) A E s ((ph.g pk) Kb y a 0 d (d-1)) Q S:=λS s4 Q h=>
    Es ho (by rw[lp]) (s4.kind.trans hk) hy 'd' 'd' (λx P=>ha x (cH P)) (Z.sublist (de d _)) λk h1 h2 h3=>h k h1 (λx P=>by
     have:=h2 x (by rw[gO,gz h1];exact P);unfold uB at this;rw[Kf 'u'] at this;unfold Le;simpa using this) λx P=>by
     have:=h3 x P;unfold uB at this;rw[Kf 'u'] at this;exact Le.of ⇑this
   have DM:∀x{n:Nat},a.toList[n]?=JU x->∀S,oX st S->1<=r->∀{Q:Option Nat->cu->Prop},(∀k,k<=r->(∀z∈(b.toList.take r).drop k,Le κ x z)->(∀z∈b.toList.take k,Le κ z x)->Q (JU k) S)->wpS (av prog w) A E s ((ph.g pk) Ka x b 0 r (r-1)) Q S:=λx n lx S s4 h4 Q h=>
    Es ho (by rw[lp]) (s4.kind.trans hk) (ha x (aJ lx)) 'd' 'd' (λx P=>hb x (cH P)) (sb.sublist (de _ _)) λk h1 h2 h3=>h k h1 (λz H=>by
     have:=h3 z H;unfold uB at this;rw[Kd rfl] at this;exact this) λz H=>by
     have:=h2 z (by rw[gO,gz h1];exact H);unfold uB at this;rw[Kd rfl] at this;exact Le.of this
   show wpS _ _ _ _ (if J>1 then _ else _) _ qy;apply QN
   ·intro U;split
    ·generalize J-1=GC;exact U GC
    ·exact U J
   intro GC;refine aF (Sa ⟨rfl,rfl,rfl,rfl⟩ λS s4=>aF (t9 gy (aF (DN S (u9.trans s4) ?_))));have Y:=u9.trans s4;intro k zR C_ kt;have m3:=m.addA Z zR λz H u hu=>(FR sb ly z H).trans (kt u hu);rw[<- QC,<- ci] at m3;have n3:C.size<=(C++(a.extract k d).reverse).size:=by rw[gD];lia
   show wpS _ _ _ _ (if d-k>0 then _ else _) _ _;apply Fl
   ·intro U;by_cases yE:d-k>0
    ·rw[Kd yE];show wpS _ _ _ _ (if (k==0)=Ka then _ else _) _ _;by_cases e1:k=0
     ·rw[Kd ⇑e1];exact aK ⟨Y,.inl ⟨_,rfl,tY m3 (.inl e1)⟩⟩
     ·rw[Kf ⇑e1];have hh:=fN m3 (fN n3 (fN (show 1<=k by lia) (fN (show k<=a.size by lia) C_)));generalize C++(a.extract k d).reverse=rE at hh ⊢;generalize k=q3 at hh ⊢;exact U rE q3 hh
    ·rw[Kf yE];have xH:k=d:=by lia
     rw[xH] at C_ ⊢;exact U C d ⟨m,aw _,L,M,C_⟩
   rintro rE V7 ⟨m3,n3,f3,f3',C_⟩;have m4:=RA m3 sb ly C_;refine aF (t9 gy ?_);show wpS _ _ _ _ (if (r==1)=Ka then _ else _) _ _;by_cases e3:r=1
   ·rw[Kd ⇑e3];exact aK ⟨Y,.inl ⟨_,rfl,tX m4 e3⟩⟩
   ·rw[Kf ⇑e3];obtain⟨n,rfl⟩:∃n,V7=n+1:=⟨V7-1,by lia⟩;obtain⟨x,gx,lx⟩:=yo (a:=a) (i:=n) 'd';refine aF (t9 gx (aF (DM x lx _ Y 'd' ?_)));intro t tu N7 B6;have m5:=m4.addB sb tu λz H u hu=>(FR Z lx z H).trans (N7 u hu);rw[<- QC,<- ci] at m5;have n5:rE.size+1<=(rE.push y++(b.extract t r).reverse).size:=by rw[gD,cC];lia
    by_cases yE:r-t>0
    ·show wpS _ _ _ _ (if r-t>0 then _ else _) _ _;rw[Kd yE];show wpS _ _ _ _ (if (t==1)=Ka then _ else _) _ _;by_cases e4:t=1
     ·rw[Kd ⇑e4];exact aK ⟨Y,.inl ⟨_,rfl,tX m5 e4⟩⟩
     ·rw[Kf ⇑e4];show wpS _ _ _ _ (if (t==0)=Ka then _ else _) _ _;by_cases e6:t=0
      ·rw[Kd ⇑e6];exact aK ⟨Y,.inl ⟨_,rfl,tY m5 (.inr e6)⟩⟩
      ·rw[Kf ⇑e6];have f5:2<=t:=by lia
       have m6:=IG m5 Z lx B6;refine aF (t9 gx ?_);show wpS _ _ _ _ (if (n==0)=Ka then _ else _) _ _;by_cases e5:n=0
       ·rw[Kd ⇑e5];exact aK ⟨Y,.inl ⟨_,rfl,tY m6 (.inl e5)⟩⟩
       ·rw[Kf ⇑e5];split
        ·exact aK ⟨Y,.inr ⟨n,t,_,_,_,_,rfl,m6,(by lia:1<=n),(by lia:n<=a.size),f5,(by lia:t<=b.size),aI (by lia:o.size<=rE.size+1+1) (IP n5)⟩⟩
        ·exact aK ⟨Y,n,t,_,_,_,_,rfl,m6,(by lia:1<=n),(by lia:n<=a.size),f5,(by lia:t<=b.size),aI (by lia:o.size+(j+1)<=rE.size+1+1) (IP n5)⟩
    ·have xH:t=r:=by lia
     subst xH;show wpS _ _ _ _ (if t-t>0 then _ else _) _ _;rw[Kf yE];have f5:2<=t:=by lia
     replace m5:=m4
     replace n5:rE.size+1<=(rE.push y).size:=by rw[cC];exact aw _
     have m6:=IG m5 Z lx B6;refine aF (t9 gx ?_);show wpS _ _ _ _ (if (n==0)=Ka then _ else _) _ _;by_cases e5:n=0
     ·rw[Kd ⇑e5];exact aK ⟨Y,.inl ⟨_,rfl,tY m6 (.inl e5)⟩⟩
     ·rw[Kf ⇑e5];split
      ·exact aK ⟨Y,.inr ⟨n,t,_,_,_,_,rfl,m6,(by lia:1<=n),(by lia:n<=a.size),f5,(by lia:t<=b.size),aI (by lia:o.size<=rE.size+1+1) (IP n5)⟩⟩
      ·exact aK ⟨Y,n,t,_,_,_,_,rfl,m6,(by lia:1<=n),(by lia:n<=a.size),f5,(by lia:t<=b.size),aI (by lia:o.size+(j+1)<=rE.size+1+1) (IP n5)⟩
  ·rintro c qy ⟨u9,d,f,C,J,v,B,rfl,m,L,M,N,O,c6⟩;have:=m.len;rw[aE] at this;rw[er] at c6;lia
  ·exact⟨sm,d,f,o,_,v,B,rfl,m,L,M,N,O,by lia⟩
  rintro c qy ⟨u9,h⟩;rcases h with⟨r,e,hr⟩|⟨d,f,C,J,v,B,rfl,m,L,M,N,O,c7⟩
  ·obtain⟨c,c'⟩:=c;dsimp only at e;subst e;exact aK ⟨u9,r,rfl,hr⟩
  ·exact aF (ge (aK ⟨⟨u9.kind,u9.arr,u9.pend,u9.failed⟩,d,f,C,_,rfl,m,L,M,N,O,by lia⟩))
 ·rintro c qT ⟨sm,d,f,l,J,rfl,m,L,M,N,O,c5⟩;have:=m.len;rw[aE] at this;rw[er] at c5;lia
 ·exact⟨oX.refl st,a.size-1,b.size,#[x0],_,rfl,m0,by lia,by lia,by lia,by lia,by simp⟩
 ·rintro⟨c,c'⟩ qT ⟨sm,r,e,hr⟩;dsimp only at e;subst e;exact aK (q r qT sm hr)
end
theorem RC(p:Nat):∀(m:List bh)(j:Nat)(xs:Array bh),p+j+m.length<=xs.size->((m.zipIdx j).foldl (λa x=>a.setIfInBounds (p+x.2) x.1) xs).toList=xs.toList.take (p+j)++m++xs.toList.drop (p+j+m.length)
 |[],j,xs,_=>by simp
 | x::m,j,xs,h=>by
  rw[aV] at h;rw[iP,fY,RC p m (j+1) _ (by rw[kg];lia),jO,<- lS];have b:p+j<xs.toList.length:=by rw[aE];lia
  have c:(xs.toList.set (p+j) x).take (p+j+1)=xs.toList.take (p+j)++[x]:=by
   rw[fh,bU b,List.take_set_of_le (aw _)];rfl
  rw[c,List.drop_set_of_lt 'd',aV,bq,bq,bq];have:p+j+1+m.length=p+j+(m.length+1):=by lia
  rw[this];rfl
def zeb(h:p+m.length<=xs.size):(lay xs p m).toList=xs.toList.take p++m++xs.toList.drop (p+m.length):=RC p m 0 xs h
section
variable{prog:aU}{w:be}{A:bD}{E:ae->ai->Prop}{s:ai}{κ:aY}{st:cu}{kd:KT}
def Yv(L:xo prog w A s κ kd)(t:kindOf st=kd)(U:failedOf st=J9)(d:(Kg st).toList=P++(X++(Y++R)))(h1:(Ki st)[i]?=JU (P.length,X.length,pw))(h2:(Ki st)[i+1]?=JU (P.length+X.length,Y.length,J4))
  (N:1<=X.length) (Z:1<=Y.length) (C:qN κ X) (G:qN κ Y) (H:∀x∈X++Y,uv κ x) {Q:Bool->cu->Prop}
  (q:∀b M,kindOf b=kd->failedOf b=J9->Ki b=((Ki st).setIfInBounds i (P.length,X.length+Y.length,pw)).eraseIdxIfInBounds (i+1)->(Kg b).toList=P++(M++R)->M.Perm (X++Y)->qN κ M->Q Ka b):wpS (av prog w) A E s (mergeAt' i) Q st:=by
 have I:(Kg st).size=P.length+(X.length+(Y.length+R.length)):=by
  rw[<- aE,d];simp
 have DF:∀x∈X,uv κ x:=λx h=>H x (bK _ h);have DD:∀x∈Y,uv κ x:=λx h=>H x (az _ h);have f:∀(j:Nat)(x:bh),(P++(X++(Y++R)))[j]?=JU x->(Kg st)[j]?=JU x:=λj x h=>by
  rw[<- d] at h;rw[<- h];simp
 obtain⟨g,O⟩:∃g,Y[0]?=JU g:=⟨Y[0],au _⟩;have gb:(Kg st)[P.length+X.length]?=JU g:=f _ _ (by
  rw[bj 'd',dh,bj (aw _),kh,aH 'd'];exact O)
 have dX:((Kg st).toList.drop P.length).take X.length=X:=by rw[d];simp
 have dY:((Kg st).toList.drop (P.length+X.length)).take Y.length=Y:=by rw[d,<- bq,fz 'k',<- aC];simp
 have hkb:=DD g (aJ O);have N9:∀y∈Y,Le κ g y:=λy h=>Ep G O y ⇑h;refine(ph.at_ pk) h1 h2 gb ?_;refine Es (base:=P.length) (n:=X.length) (hint:=0) L dX ?_ hkb 'd' 'd' DF C ?_
 ·exact t
 refine λk zR kt kf=>⟨k,rfl,λyE=>?_,λyE=>?_⟩
 ·have hkX:k=X.length:=by lia
  refine q _ (X++Y) t U rfl (by show(Kg st).toList=_;rw[d,bq]) (fG _) ?_;unfold qN;rw[cw];refine⟨C,G,λx h y c=>Le.trans ?_ (N9 y c)⟩;have:=kt x (by rw[hkX,e9];exact h);unfold uB at this;rw[Kf 'u'] at this;unfold Le;simpa using this
 have N8:∀x∈X.take k,Le κ x g:=λx h=>by
  have:=kt x h;unfold uB at this;rw[Kf 'u'] at this;unfold Le;simpa using this
 have Wa:∀x∈X.drop k,Le κ g x:=λx h=>by
  have:=kf x h;unfold uB at this;rw[Kf 'u'] at this;exact Le.of ⇑this
 obtain⟨l,S⟩:∃l,X[X.length-1]?=JU l:=⟨X[X.length-1],au _⟩;have ga:(Kg st)[P.length+k+(X.length-k)-1]?=JU l:=f _ _ (by
  have:P.length+k+(X.length-k)-1=P.length+(X.length-1):=by lia
  rw[this,bj 'd',dh,aH 'd'];exact S)
 have hka:=DF l (aJ S);have W0:∀x∈X,Le κ x l:=λx h=>FR C S x (by rw[cT 'd'];exact h);refine⟨l,ga,?_⟩;refine Es (base:=P.length+X.length) (n:=Y.length) (hint:=Y.length-1) L dY ?_ hka 'd' 'd' DD G ?_
 ·exact t
 refine λm hm mt mf=>⟨m,rfl,λKh=>?_,λKh=>?_⟩
 ·refine q _ (X++Y) t U rfl (by show(Kg st).toList=_;rw[d,bq]) (fG _) ?_;unfold qN;rw[cw];refine⟨C,G,λx h y c=>Le.trans (W0 x h) ?_⟩;have:=mf y (by rw[Kh];exact c);unfold uB at this;rw[Kd rfl] at this;exact this
 have V8:∀y∈Y.take m,Le κ y l:=λy h=>by
  have:=mt y h;unfold uB at this;rw[Kd rfl] at this;exact Le.of this
 have V9:∀y∈Y.drop m,Le κ l y:=λy h=>by
  have:=mf y h;unfold uB at this;rw[Kd rfl] at this;exact this
 have u:((Kg st).extract (P.length+k) (P.length+X.length)).toList=X.drop k:=by
  simp only[lH,j4];rw[d,<- fg,n9,fz zR];have:P.length+X.length-(P.length+k)=(X.drop k).length:=by rw[cD];lia
  rw[this,oa]
 have v:((Kg st).extract (P.length+X.length) (P.length+X.length+m)).toList=Y.take m:=by
  rw[Ls];rw[<- dY,gO,gz hm]
 have szX:((Kg st).extract (P.length+k) (P.length+X.length)).size=X.length-k:=by rw[<- aE,u,cD]
 have szY:((Kg st).extract (P.length+X.length) (P.length+X.length+m)).size=m:=by rw[<- aE,v,bL];lia
 have J:∀(B:Array bh)(o:cu),oX (setPending st (((Ki st).setIfInBounds i (P.length,X.length+Y.length,pw)).eraseIdxIfInBounds (i+1))) o->Out κ (X.drop k) (Y.take m) B.toList->Q (failedOf o).isNone (setArr o (lay (Kg o) (P.length+k) B.toList)):=λB o p a=>by
  have Wo:B.toList.length=(X.length-k)+m:=by rw[a.perm.length_eq,aC,cD,bL];lia
  have E3:failedOf o=J9:=p.failed.trans U;rw[E3];have vX:Kg o=Kg st:=p.arr;refine q _ (X.take k++(B.toList++Y.drop m)) (p.kind.trans t) E3 p.pend ?_ ?_ ?_
  ·show(lay (Kg o) (P.length+k) B.toList).toList=_;rw[vX,zeb (by rw[Wo,I];lia),d,Wo];have e1:(P++(X++(Y++R))).take (P.length+k)=P++X.take k:=by
    rw[List.take_append,cT 'd',dh,List.take_append_of_le_length zR]
   have e2:(P++(X++(Y++R))).drop (P.length+k+(X.length-k+m))=Y.drop m++R:=by
    have:P.length+k+(X.length-k+m)=(P++X).length+m:=by rw[aC];lia
    rw[this,<- bq,<- fg,n9,fz hm]
   rw[e1,e2];simp
  ·conv=>rhs;rw[<- cm k X,<- cm m Y]
   rw[bq];refine fX _ ?_;rw[<- bq];exact a.perm.append_right _
  ·unfold qN;rw[cw,cw];have GD:∀z∈B.toList,z∈X.drop k\/z∈Y.take m:=λz hz=>aO.mp (a.perm.mem_iff.mp hz);refine⟨C.sublist (de k X),⟨a.srt,G.sublist (dJ m Y),λz hz y Z=>?_⟩,λx N z hz=>?_⟩
   ·rcases GD z hz with h|h
    ·exact(W0 z (dB h)).trans (V9 y Z)
    ·exact(V8 z h).trans (V9 y Z)
   ·rcases aO.mp hz with hz|hz
    ·rcases GD z hz with h|h
     ·exact(N8 x N).trans (Wa z h)
     ·exact(N8 x N).trans (N9 z (cH h))
    ·exact(N8 x N).trans (N9 z (dB hz))
 have p1:∀x∈((Kg st).extract (P.length+k) (P.length+X.length)).toList,uv κ x:=by rw[u];exact λx h=>DF x (dB h)
 have p2:∀x∈((Kg st).extract (P.length+X.length) (P.length+X.length+m)).toList,uv κ x:=by rw[v];exact λx h=>DD x (cH h)
 have p3:qN κ ((Kg st).extract (P.length+k) (P.length+X.length)).toList:=by rw[u];exact C.sublist (dJ k X)
 have p4:qN κ ((Kg st).extract (P.length+X.length) (P.length+X.length+m)).toList:=by rw[v];exact G.sublist (de m Y)
 have p5:∀x∈((Kg st).extract (P.length+X.length) (P.length+X.length+m)).toList.take 1,∀y∈((Kg st).extract (P.length+k) (P.length+X.length)).toList,Le κ x y:=by
  rw[u,v,gO];intro x h y c;have:x=g:=by
   rw[gz 'd'] at h;have e:=BY O;rw[lp] at e;rw[e] at h;simpa using h
  rw[this];exact Wa y c
 have p6:∀y∈((Kg st).extract (P.length+X.length) (P.length+X.length+m)).toList,∀x∈((Kg st).extract (P.length+k) (P.length+X.length)).toList.drop (((Kg st).extract (P.length+k) (P.length+X.length)).size-1),Le κ y x:=by
  rw[u,v,szX,fg];intro y h x c;have:k+(X.length-k-1)=X.length-1:=by lia
  rw[this] at c;have e:=BY S;rw[cT (by rw[cD];lia)] at e;rw[e] at c;rw[cA.mp c];exact V8 y h
 by_cases hc:X.length-k<=m
 ·rw[Kd hc];refine Ze L ?_ p1 p2 p3 p4 'd' 'd' p5 p6 λr b p a=>J r b p (by rw[u,v] at a;exact a);exact t
 ·rw[Kf hc];refine Yt L ?_ p1 p2 p3 p4 'd' 'd' p5 p6 λr b p a=>J r b p (by rw[u,v] at a;exact a);exact t
end
def QM{G:Prop}{H:cu->Prop}(P:cu->Prop)(h:(∀x,H x->P x)->G)(k:∀x,H x->P x):G:=h k
structure Rl(rT:cu)(lo:Nat)(st:cu):Prop where
 perm:(Kg st).Perm (Kg rT)
 kind:kindOf st=kindOf rT
 failed:failedOf st=failedOf rT
 pend:Ki st=Ki rT
 fix:∀i,i<lo->(Kg st)[i]?=(Kg rT)[i]?
def Rl.refl(a:cu)(b:Nat):Rl a b a:=⟨i9 _,rfl,rfl,rfl,λ_ _=>rfl⟩
def Rl.size{a b:cu}{c:Nat}(r:Rl a c b):(Kg b).size=(Kg a).size:=r.perm.size_eq
def Rl.rev{b a:cu}{c i j:Nat}(r:Rl b c a)(h:c<=i)(d:j<=(Kg b).size):Rl b c (setArr a (mirror (Kg a) i j ((j-i)/2))):=by refine⟨(mirror_perm _ _ _ _).trans r.perm,r.kind,r.failed,r.pend,λk e=>?_⟩;show(mirror (Kg a) i j ((j-i)/2))[k]?=_;rw[getElem?_mirror_all (by rw[r.size];exact d),Kf 'd'];exact r.fix k e
section
variable{prog:aU}{w:be}{A:bD}{E:ae->ai->Prop}{s:ai}{κ:aY}{rT st:cu}{lo:Nat}{kd:KT}
def Up(κ:aY)(xs:Array bh)(lo n:Nat):Prop:=∀i j,lo<=i->i<=j->j<lo+n->κ.kle (KK κ xs i) (KK κ xs j)
def Dn(κ:aY)(xs:Array bh)(lo n:Nat):Prop:=∀i j,lo<=i->i<=j->j<lo+n->κ.kle (KK κ xs j) (KK κ xs i)
def BV(a:κ.α):κ.kle a a:=κ.irrefl a
def Up.step(h:Up κ xs lo n)(f:1<=n)(a:κ.kle (KK κ xs (lo+n-1)) (KK κ xs (lo+n))):Up κ xs lo (n+1):=λi j b c g=>by
 by_cases e:j=lo+n
 ·subst e;by_cases d:i=lo+n
  ·subst d;exact BV _
  ·exact iS (h i (lo+n-1) b 'd' 'd') a
 ·exact h i j b c 'd'
def Dn.step(h:Dn κ xs lo n)(f:1<=n)(a:κ.kle (KK κ xs (lo+n)) (KK κ xs (lo+n-1))):Dn κ xs lo (n+1):=λi j b c g=>by
 by_cases e:j=lo+n
 ·subst e;by_cases d:i=lo+n
  ·subst d;exact BV _
  ·exact iS a (h i (lo+n-1) b 'd' 'd')
 ·exact h i j b c 'd'
def Up.one(xs:Array bh):Up κ xs lo 1:=λi j c d e=>by
 have a:i=lo:=by lia
 have b:j=lo:=by lia
 rw[a,b];exact BV _
def Dn.one(xs:Array bh):Dn κ xs lo 1:=λi j c d e=>by
 have a:i=lo:=by lia
 have b:j=lo:=by lia
 rw[a,b];exact BV _
def FP(f:xo prog w A s κ kd)(a:∀x∈(Kg rT).toList,uv κ x)(g:kindOf rT=kd)(r:Rl rT lo st)(b:i<(Kg rT).size)(c:j<(Kg rT).size)(q:Q (JU (κ.blt (KK κ (Kg st) i) (KK κ (Kg st) j))) st):wpS (av prog w) A E s (ltAt' i j) Q st:=by
 rw[<- r.size] at b c;obtain⟨x,d,h⟩:=yo b;obtain⟨y,e,l⟩:=yo c;have m:=a x ((d6.mp r.perm).mem_iff.mp (aJ h));have n:=a y ((d6.mp r.perm).mem_iff.mp (aJ l));have o:KK κ (Kg st) i=ky κ x:=by unfold KK ky;rw[d]
 have p:KK κ (Kg st) j=ky κ y:=by unfold KK ky;rw[e]
 rw[o,p] at q;rw[ltAt'_eq];exact aF (h9 (aF (t9 d (aF (t9 e (Fv f (r.kind.trans g) m n q))))))
def Up.rev(d:Dn κ xs lo m)(h:lo+m<=xs.size):Up κ (mirror xs lo (lo+m) ((lo+m-lo)/2)) lo m:=λi j a b c=>by
 rw[KK_mirror h,KK_mirror h,Kd 'd',Kd 'd'];exact d _ _ 'd' 'd' 'd'
set_option hygiene false in
local macro_rules|`(tactic| walk_at "asc")=>`(tactic| (
 refine aF (dW (cV (I:=λk c h_=>h_=qT/\∃ n,c=(none,n)/\n=k/\1<=n/\n<=nrem/\Up κ (arrOf qT) lo n) (Q:=λc h_=>h_=qT/\∃ n,c=(none,n)/\1<=n/\n<=nrem/\Up κ (arrOf qT) lo n/\(n=nrem\/κ.blt (KK κ (arrOf qT) (lo+n)) (KK κ (arrOf qT) (lo+n-1))=true)) ?_ ?_ ?_) ?_)
 ·rintro k c h_ h1 h2 ⟨rfl,n,rfl,rfl,g1,g2,g3⟩
  refine aF (FP (i:=lo+n) (j:=lo+n-1) ho hs hk r1 (by lia) (by lia) ?_)
  cases e:κ.blt (KK κ (arrOf h_) (lo+n)) (KK κ (arrOf h_) (lo+n-1)) with
  | true=>exact aK ⟨rfl,n,rfl,g1,g2,g3,.inr e⟩
  | false=>exact aK ⟨rfl,n+1,rfl,rfl,by lia,by lia,g3.step (by lia) e⟩
 ·rintro c h_ ⟨rfl,n,rfl,e,g1,g2,g3⟩
  exact⟨rfl,n,rfl,g1,g2,g3,.inl (by lia)⟩
 ·exact⟨rfl,_,rfl,rfl,GW,Wn,u1⟩))
def zbQ(ho:xo prog w A s κ kd)(hs:∀x∈(Kg rT).toList,uv κ x)(hk:kindOf rT=kd){nrem:Nat}(Wn:1<=nrem)(hN:lo+nrem<=(Kg rT).size){qT:cu}(r1:Rl rT lo qT){Q:Option Nat->cu->Prop}(q:∀m h_,Rl rT lo h_->1<=m->m<=nrem->Up κ (Kg h_) lo m->Q (JU m) h_):wpS (av prog w) A E s (countRun' lo nrem) Q qT:=by
 rw[countRun'_eq];have u1:Up κ (Kg qT) lo 1:=Up.one _;have GW:1<=1:=aw _;walk_at "asc";rintro c h_ ⟨rfl,n1,rfl,g1,g2,g3,g4⟩;show wpS _ _ _ _ (if (n1==nrem)=Ka then _ else _) Q h_;by_cases e0:n1=nrem
 ·rw[Kd ⇑e0];exact aK (q n1 h_ r1 g1 g2 g3)
 rw[Kf ⇑e0];have q9:κ.blt (KK κ (Kg h_) (lo+n1)) (KK κ (Kg h_) (lo+n1-1))=Ka:=by
  rcases g4 with h|h
  ·exact absurd h e0
  ·exact h
 apply QM (H:=λqF=>Rl rT lo qF/\Dn κ (Kg qF) lo (n1+1));intro key;show wpS _ _ _ _ (if n1>1 then _ else _) Q h_;by_cases hc:n1>1
 ·rw[Kd hc];refine aF (FP ho hs hk r1 'd' 'd' ?_);cases e:κ.blt (KK κ (Kg h_) lo) (KK κ (Kg h_) (lo+n1-1)) with
  |true=>exact aK (q n1 h_ r1 g1 g2 g3)
  | false=>
   refine aF (kR ?_);have r2:=r1.rev (j:=lo+n1) (aw lo) 'd';have all:∀k,lo<=k->k<lo+n1->KK κ (Kg h_) k=KK κ (Kg h_) (lo+n1-1):=λk a b=>
    KeyOrd.kle_antisymm (g3 k (lo+n1-1) a 'd' 'd') (iS (show κ.kle (KK κ (Kg h_) (lo+n1-1)) (KK κ (Kg h_) lo) from e) (g3 lo k (aw _) a b))
   have kk:=kH (j:=lo+n1) (by rw[r1.size];lia) all;have d2:Dn κ (Kg (setArr h_ (mirror (Kg h_) lo (lo+n1) ((lo+n1-lo)/2)))) lo (n1+1):=by
    show Dn κ (mirror (Kg h_) lo (lo+n1) ((lo+n1-lo)/2)) lo (n1+1);refine Dn.step (λi j a b c=>?_) g1 ?_
    ·rw[kk,kk,all i a 'd',all j 'd' c];exact BV _
    ·rw[kk,kk];exact gE q9
   generalize setArr h_ (mirror (Kg h_) lo (lo+n1) ((lo+n1-lo)/2))=qF at *;exact key _ ⟨r2,d2⟩
 ·rw[Kf hc];refine key _ ⟨r1,?_⟩;have e1:n1=1:=by lia
  subst e1;exact Dn.step (Dn.one _) (aw _) (gE q9)
 rintro qF ⟨r2,d2⟩;refine aF (jr (dU ⟨rfl,aF (dW (cV (I:=λk c h_=>Rl rT lo h_/\∃n tT,c=(J9,n,tT)/\n=k/\n<=nrem/\Dn κ (Kg h_) lo n/\tT+1<=n/\(∀i,lo+n-(tT+1)<=i->i<lo+n->KK κ (Kg h_) i=KK κ (Kg h_) (lo+n-1))) (Q:=λc h_=>Rl rT lo h_/\∃n tT,c=(J9,n,tT)/\n<=nrem/\Dn κ (Kg h_) lo n/\tT+1<=n/\(∀i,lo+n-(tT+1)<=i->i<lo+n->KK κ (Kg h_) i=KK κ (Kg h_) (lo+n-1))) ?_ ?_ ?_) ?_)⟩))
 ·rintro k c qy h1 h2 ⟨r3,n,tT,rfl,rfl,g2,g3,g4,g5⟩;refine aF (FP (i:=lo+n) (j:=lo+n-1) ho hs hk r3 'd' 'd' ?_);cases e:κ.blt (KK κ (Kg qy) (lo+n)) (KK κ (Kg qy) (lo+n-1)) with
  | true=>
   show wpS _ _ _ _ (if tT>0 then _ else _) _ qy;by_cases hq:tT>0
   ·rw[Kd hq];refine aF (kR (aK ⟨r3.rev (i:=lo+n-(tT+1)) (j:=lo+n) 'd' 'd',n+1,0,rfl,rfl,by lia,?_,by lia,?_⟩))
    ·have kk:=kH (by rw[r3.size];lia) λk a b=>g5 k a b;have d:Dn κ (mirror (Kg qy) (lo+n-(tT+1)) (lo+n) ((lo+n-(lo+n-(tT+1)))/2)) lo n:=λi j a b c=>by rw[kk,kk];exact g3 i j a b c
     refine d.step 'd' ?_;rw[kk,kk];exact gE e
    ·intro i a b;have:i=lo+(n+1)-1:=by lia
     rw[this]
   ·rw[Kf hq];refine aK ⟨r3,n+1,0,rfl,rfl,by lia,g3.step 'd' (gE e),by lia,?_⟩;intro i a b;have:i=lo+(n+1)-1:=by lia
    rw[this]
  | false=>
   refine aF (FP (i:=lo+n-1) (j:=lo+n) ho hs hk r3 'd' 'd' ?_);cases e':κ.blt (KK κ (Kg qy) (lo+n-1)) (KK κ (Kg qy) (lo+n)) with
   |true=>exact aK ⟨r3,n,tT,rfl,g2,g3,g4,g5⟩
   | false=>
    have eq:KK κ (Kg qy) (lo+n)=KK κ (Kg qy) (lo+n-1):=κ.total _ _ e e';refine aK ⟨r3,n+1,tT+1,rfl,rfl,by lia,g3.step 'd' e',by lia,?_⟩;intro i a b;have:lo+(n+1)-1=lo+n:=by lia
    rw[this];by_cases hi:i=lo+n
    ·rw[hi]
    ·rw[eq];exact g5 i 'd' 'd'
 ·rintro c qy ⟨r3,n,tT,rfl,e,g2,g3,g4,g5⟩;exact⟨r3,n,tT,rfl,g2,g3,g4,g5⟩
 ·exact⟨r2,n1+1,0,rfl,rfl,by lia,d2,by lia,λi a b=>by
   have:i=lo+(n1+1)-1:=by lia
   rw[this]⟩
 ·rintro c qy ⟨r3,n0,tT,rfl,Wn,g3,g4,g5⟩;have GW:1<=n0:=by lia
  apply QM (H:=λrj=>Rl rT lo rj/\Dn κ (Kg rj) lo n0);intro key;show wpS _ _ _ _ (if tT>0 then _ else _) Q qy;by_cases hq:tT>0
  ·rw[Kd hq];refine aF (kR ?_);have r4:=r3.rev (i:=lo+n0-(tT+1)) (j:=lo+n0) 'd' 'd';have kk:=kH (j:=lo+n0) (by rw[r3.size];lia) λk a b=>g5 k a b;have d4:Dn κ (Kg (setArr qy (mirror (Kg qy) (lo+n0-(tT+1)) (lo+n0) ((lo+n0-(lo+n0-(tT+1)))/2)))) lo n0:=λi j a b c=>by
    show κ.kle (KK κ (mirror _ _ _ _) j) (KK κ (mirror _ _ _ _) i);rw[kk,kk];exact g3 i j a b c
   generalize setArr qy (mirror (Kg qy) (lo+n0-(tT+1)) (lo+n0) ((lo+n0-(lo+n0-(tT+1)))/2))=rj at *;exact key _ ⟨r4,d4⟩
  ·rw[Kf hq];exact key _ ⟨r3,g3⟩
  rintro rj ⟨r4,d4⟩;refine aF (kR ?_);have r1:=r4.rev (j:=lo+n0) (aw lo) 'd';have u1:Up κ (Kg (setArr rj (mirror (Kg rj) lo (lo+n0) ((lo+n0-lo)/2)))) lo n0:=Up.rev d4 (by rw[r4.size];lia);generalize setArr rj (mirror (Kg rj) lo (lo+n0) ((lo+n0-lo)/2))=qT at *;walk_at "asc"
  ·rintro c h_ ⟨rfl,n,rfl,g1,g2,g3,_⟩;exact aK (q n _ r1 g1 g2 g3)
end
section
variable{prog:aU}{w:be}{A:bD}{E:ae->ai->Prop}{s:ai}{κ:aY}{rT:cu}{lo:Nat}{kd:KT}
def zh3(M:xo prog w A s κ kd)(N:∀x∈(Kg rT).toList,uv κ x)(O:kindOf rT=kd)(P:1<=ok)(hn:ok<=n)(hN:lo+n<=(Kg rT).size)(S:Rl rT lo qT)(U:Up κ (Kg qT) lo ok)(q:∀f,Rl rT lo f->Up κ (Kg f) lo n->Q Ka f):wpS (av prog w) A E s (binarySort' lo n ok) Q qT:=by
 rw[binarySort'_eq];refine aF (dW (cV (I:=λk c f=>Rl rT lo f/\c=(J9,())/\1<=k/\Up κ (Kg f) lo k) (Q:=λc f=>Rl rT lo f/\c=(J9,())/\Up κ (Kg f) lo n) ?_ ?_ ?_) ?_)
 ·rintro k c g _ zR ⟨h,rfl,Y,m⟩;refine aF (dW (cV (I:=λj c f=>f=g/\∃l r,c=(J9,l,r)/\l<=r/\r<=k/\r-l<=k-j/\(∀i,i<l->κ.kle (KK κ (Kg g) (lo+i)) (KK κ (Kg g) (lo+k)))/\(∀i,r<=i->i<k->κ.blt (KK κ (Kg g) (lo+k)) (KK κ (Kg g) (lo+i))=Ka)) (Q:=λc f=>f=g/\∃l,c=(J9,l,l)/\l<=k/\(∀i,i<l->κ.kle (KK κ (Kg g) (lo+i)) (KK κ (Kg g) (lo+k)))/\(∀i,l<=i->i<k->κ.blt (KK κ (Kg g) (lo+k)) (KK κ (Kg g) (lo+i))=Ka)) ?_ ?_ ?_) ?_)
  ·rintro j c d _ hj ⟨rfl,l,r,rfl,Z,u,y,o,p⟩;show wpS _ _ _ _ (if l ≥ r then _ else _) _ d;by_cases B:l ≥ r
   ·rw[Kd B];have:l=r:=by lia
    subst this;exact aK ⟨rfl,l,rfl,u,o,p⟩
   ·rw[Kf B];refine aF (FP (i:=lo+k) (j:=lo+(l+r)/2) M N O h 'd' 'd' ?_);cases e:κ.blt (KK κ (Kg d) (lo+k)) (KK κ (Kg d) (lo+(l+r)/2)) with
    |true=>exact aK ⟨rfl,l,(l+r)/2,rfl,by lia,by lia,by lia,o,λi v hik=>KeyOrd.klt_of_klt_of_kle e (m _ _ 'd' 'd' 'd')⟩
    |false=>exact aK ⟨rfl,(l+r)/2+1,r,rfl,by lia,by lia,by lia,λi v=>iS (m _ (lo+(l+r)/2) 'd' 'd' 'd') e,p⟩
  ·rintro c d ⟨rfl,l,r,rfl,Z,u,y,o,p⟩;rw[er] at y;have:l=r:=by lia
   subst this;exact⟨rfl,l,rfl,u,o,p⟩
  ·exact⟨rfl,0,k,rfl,by lia,by lia,by lia,λi v=>by lia,λi P h2=>by lia⟩
  ·rintro c d ⟨rfl,l,rfl,u,o,p⟩;show wpS (av prog w) A E s (moveDown' (lo+k) (lo+l) >>= _) _ d;rw[moveDown'_eq];have C:lo+k<(Kg d).size:=by rw[h.size];lia
   have ed:lo+k-(lo+l)=k-l:=by lia
   refine aF (ge (aK ⟨⟨(bubble_perm _ _ _).trans h.perm,h.kind,h.failed,h.pend,λi v=>?_⟩,rfl,by lia,?_⟩))
   ·show(bubble (Kg d) (lo+k) (lo+k-(lo+l)))[i]?=_;rw[getElem?_bubble C _ 'd',Kf 'd',Kf 'd'];exact h.fix i v
   ·show Up κ (bubble (Kg d) (lo+k) (lo+k-(lo+l))) lo (k+1);have G:∀x,KK κ (bubble (Kg d) (lo+k) (lo+k-(lo+l))) x=if x=lo+l then KK κ (Kg d) (lo+k) else if lo+l<x/\x<=lo+k then KK κ (Kg d) (x-1) else KK κ (Kg d) x:=λx=>by
     rw[KK_bubble C 'd'];have:lo+k-(lo+k-(lo+l))=lo+l:=by lia
     rw[this]
    have NY:∀x,lo<=x->x<lo+l->κ.kle (KK κ (Kg d) x) (KK κ (Kg d) (lo+k)):=λx a b=>by
     have:=o (x-lo) 'd';rw[show lo+(x-lo)=x by lia] at this;exact this
    have G4:∀x,lo+l<=x->x<lo+k->κ.kle (KK κ (Kg d) (lo+k)) (KK κ (Kg d) x):=λx a b=>by
     have:=p (x-lo) 'd' 'd';rw[show lo+(x-lo)=x by lia] at this;exact gE this
    intro i j a b c;rw[G i,G j];by_cases H:i=lo+l
    ·rw[Kd H];by_cases t:j=lo+l
     ·rw[Kd t];exact BV _
     ·rw[Kf t,Kd 'd'];exact G4 (j-1) 'd' 'd'
    ·rw[Kf H];by_cases J:lo+l<i/\i<=lo+k
     ·rw[Kd J,Kf 'd',Kd 'd'];exact m _ _ 'd' 'd' 'd'
     ·rw[Kf J];by_cases t:j=lo+l
      ·rw[Kd t];exact NY i a 'd'
      ·rw[Kf t];by_cases L:lo+l<j/\j<=lo+k
       ·rw[Kd L];exact m _ _ a 'd' 'd'
       ·rw[Kf L];exact m _ _ a b 'd'
 ·rintro c g ⟨h,rfl,Y,m⟩;rw[show max (max ok 1) n=n by lia] at m;exact⟨h,rfl,m⟩
 ·exact⟨S,rfl,by lia,by rw[show max ok 1=ok by lia];exact U⟩
 ·rintro c g ⟨h,rfl,m⟩;exact aK (q g h m)
end
def uX:Nat->List (List bh)->List (Nat×Nat)
 |_,[]=>[]
 |b,X::S=>(b,X.length)::uX (b+X.length) S
theorem Jf:∀(S T:List (List bh))(b:Nat),uX b (S++T)=uX b S++uX (b+S.flatten.length) T
 |[],T,b=>by simp[uX]
 | X::S,T,b=>by
  rw[gW,uX,uX,gW,Jf S T,jV,aC,lS]
theorem CZ:∀(S:List (List bh))(b:Nat),(uX b S).length=S.length
 |[],_=>rfl
 |X::S,b=>by rw[uX,aV,CZ S,aV]
def se(t:Nat×Nat×Nat):Nat×Nat:=(t.1,t.2.1)
structure Pn(κ:aY)(kd:KT)(L0:List bh)(st:cu)(lo:Nat)(S:List (List bh))(R:List bh):Prop where
 arr:(Kg st).toList=S.flatten++R
 lo:S.flatten.length=lo
 pend:(Ki st).toList.map se=uX 0 S
 ne:∀X∈S,1<=X.length
 srt:∀X∈S,qN κ X
 kind:kindOf st=kd
 failed:failedOf st=J9
 perm:(Kg st).toList.Perm L0
def Pn.size{κ:aY}{kd:KT}{b:List bh}{a:cu}{c:Nat}{S:List (List bh)}{R:List bh}(h:Pn κ kd b a c S R):(Ki a).size=S.length:=by have:=congrArg kN h.pend;rw[ar,aE,CZ] at this;exact this
theorem R7:∀(S:List (List bh)),(∀X∈S,1<=X.length)->S.length<=S.flatten.length
 |[],_=>by simp
 | X::S,h=>by
  rw[jV,aC,aV];have:=h X al;have:=R7 S λY a=>h Y (ag _ a);lia
theorem T5{α:Type}:∀(S:List α)(i:Nat),i+1<S.length->∃a X Y b,S=a++X::Y::b/\a.length=i
 |[],i,h=>by simp at h
 |[_],i,h=>by simp at h
 |X::Y::S,0,_=>⟨[],X,Y,S,rfl,rfl⟩
 | X::Y::S,i+1,h=>by
  obtain⟨a,A,B,b,e,l⟩:=T5 (Y::S) i ⇑h;exact⟨X::a,A,B,b,by rw[e];rfl,by simp[l]⟩
theorem Uq{α β:Type}(f:α->β):∀(l:List α)(i:Nat),(l.eraseIdx i).map f=(l.map f).eraseIdx i
 |[],_=>rfl
 |_::_,0=>rfl
 |x::l,i+1=>by simp[Uq f l i]
section
variable{prog:aU}{w:be}{A:bD}{E:ae->ai->Prop}{s:ai}{κ:aY}{L0:List bh}{st:cu}{lo:Nat}{kd:KT}
def Rm(L:xo prog w A s κ kd)(N:∀x∈L0,uv κ x)(p:Pn κ kd L0 st lo S R)(O:i+1<S.length)(q:∀g r,Pn κ kd L0 g lo r R->r.length+1=S.length->Q Ka g):wpS (av prog w) A E s (mergeAt' i) Q st:=by
 obtain⟨c,X,Y,d,rfl,j⟩:=T5 S i O;have l:=p.pend;rw[Jf,uX,uX,ki] at l;have u:∀k a b,(uX 0 c++(c.flatten.length,X.length)::(c.flatten.length+X.length,Y.length)::uX (c.flatten.length+X.length+Y.length) d)[k]?=JU (a,b)->∃v,(Ki st)[k]?=JU (a,b,v):=λk a b h=>by
  rw[<- l,aZ] at h;have P:(Ki st)[k]?=(Ki st).toList[k]?:=by simp
  cases e:(Ki st).toList[k]? with
  |none=>rw[e] at h;cases h
  | some t=>
   rw[e] at h;obtain⟨x,y,z⟩:=t;injection h with h;unfold se at h;injection h with h1 h2;dsimp only at h1 h2;exact⟨z,by rw[P,e,h1,h2]⟩
 obtain⟨v,B⟩:=u i c.flatten.length X.length (by rw[bj (by rw[CZ];lia),CZ,j,kh];rfl);obtain⟨J4,C⟩:=u (i+1) (c.flatten.length+X.length) Y.length (by rw[bj (by rw[CZ];lia),CZ,j,dh];rfl);have m:(Kg st).toList=c.flatten++(X++(Y++(d.flatten++R))):=by rw[p.arr];simp
 have n:X∈c++X::Y::d:=by simp
 have G:Y∈c++X::Y::d:=by simp
 refine Yv L p.kind p.failed m B C (p.ne X n) (p.ne Y G) (p.srt X n) (p.srt Y G) (λx U=>N x (p.perm.mem_iff.mp (by
   rw[m];rcases aO.mp U with h|h<;>simp[h]))) λg M k1 k2 k3 H I k6=>?_
 have o:M.length=X.length+Y.length:=by rw[I.length_eq,aC]
 refine q g (c++M::d) ⟨?_,?_,?_,?_,?_,k1,k2,?_⟩ (by simp;lia)
 ·rw[H];simp
 ·rw[<- p.lo];simp[o];lia
 ·rw[k3,Jf,uX,ki,o];have GO:i<(Ki st).size:=(jP.mp B).1;have xG:i+1<(Ki st).size:=(jP.mp C).1;rw[Array.eraseIdxIfInBounds,dif_pos (by rw[kg];exact xG),Array.toList_eraseIdx,jO,Uq,List.map_set,l];have J:(uX 0 c).length=i:=by rw[CZ,j]
  rw[lq _ _ 'd',J,kh,mo,List.eraseIdx_append_of_length_le 'd',J,dh];show _++(_::uX _ d)=_;rw[lS];rfl
 ·intro Z f;simp only[aO,am] at f;rcases f with h|rfl|h
  ·exact p.ne Z (by simp[h])
  ·rw[o];have:=p.ne X n;lia
  ·exact p.ne Z (by simp[h])
 ·intro Z f;simp only[aO,am] at f;rcases f with h|rfl|h
  ·exact p.srt Z (by simp[h])
  ·exact k6
  ·exact p.srt Z (by simp[h])
 ·rw[H];refine List.Perm.trans ?_ p.perm;rw[m];refine fX _ ?_;rw[<- bq X];exact I.append_right _
end
section
variable{prog:aU}{w:be}{A:bD}{E:ae->ai->Prop}{s:ai}{κ:aY}{L0:List bh}{st:cu}{lo:Nat}{kd:KT}
def Zn(u:Up κ xs lo m)(h:lo+m<=xs.size):qN κ ((xs.toList.drop lo).take m):=by
 unfold qN;rw[gf];intro i j b c d;rw[bL,cD,aE] at b c;have a:∀k,k<m->∀(a:k<((xs.toList.drop lo).take m).length),ky κ ((xs.toList.drop lo).take m)[k]=KK κ xs (lo+k):=λk e a=>by
  rw[mP,mQ];unfold KK ky;rw[gg,aQ 'd']
 unfold Le;rw[a i 'd',a j 'd'];exact u _ _ 'd' 'd' 'd'
def Pn.run(p:Pn κ kd L0 st lo S R)(r:Rl st lo h_)(h:lo+m<=(Kg st).size)(u:Up κ (Kg h_) lo m):∃b,Pn κ kd L0 h_ lo S b/\b.length=R.length/\qN κ (b.take m):=by
 have c:=p.lo;have g:=r.size;have a:(Kg h_).toList.length=lo+R.length:=by rw[aE,g,<- aE,p.arr,aC,c]
 have d:(Kg h_).toList.take lo=S.flatten:=by
  have e:(Kg st).toList.take lo=S.flatten:=by rw[p.arr,<- c,oa]
  rw[<- e];apply jW;intro i;by_cases f:i<lo
  ·rw[gj f,gj f,dN,dN];exact r.fix i f
  ·rw[jQ 'd',jQ 'd']
 have j:(Kg h_).toList=S.flatten++(Kg h_).toList.drop lo:=by
  conv=>lhs;rw[<- cm lo (Kg h_).toList]
  rw[d]
 refine⟨(Kg h_).toList.drop lo,⟨j,c,by rw[r.pend];exact p.pend,p.ne,p.srt,r.kind.trans p.kind,r.failed.trans p.failed,(d6.mp r.perm).trans p.perm⟩,by rw[cD,a];lia,?_⟩;exact Zn u (by rw[g];exact h)
def Pn.push(p:Pn κ kd L0 st lo S R)(c:1<=m)(e:m<=R.length)(d:qN κ (R.take m)):Pn κ kd L0 (setPending st ((Ki st).push (lo,m,pw))) (lo+m) (S++[R.take m]) (R.drop m):=by
 have a:(R.take m).length=m:=by rw[bL];lia
 refine⟨?_,?_,?_,?_,?_,p.kind,p.failed,p.perm⟩
 ·show(Kg st).toList=_;rw[p.arr];simp
 ·rw[List.flatten_append,aC,p.lo];show lo+(R.take m++[]).length=_;rw[bX,a]
 ·show((Ki st).push (lo,m,pw)).toList.map se=_;rw[fw,cK,p.pend,Jf,p.lo,ki,uX,uX,a];rfl
 ·intro X b;rcases aO.mp b with h|h
  ·exact p.ne X h
  ·rw[cA.mp h,a];exact c
 ·intro X b;rcases aO.mp b with h|h
  ·exact p.srt X h
  ·rw[cA.mp h];exact d
theorem U_{α β:Type}(f:α->β)(g:α->α)(h:∀x,f (g x)=f x):∀(l:List α)(i:Nat),(l.modify i g).map f=l.map f
 |[],_=>by simp
 |x::l,0=>by simp[h]
 |x::l,i+1=>by simp[U_ f g h l i]
def Pn.power(p:Pn κ kd L0 st lo S R)(a:∀x,se (g x)=se x)(i:Nat):Pn κ kd L0 (setPending st ((Ki st).modify i g)) lo S R:=by refine⟨p.arr,p.lo,?_,p.ne,p.srt,p.kind,p.failed,p.perm⟩;show((Ki st).modify i g).toList.map se=_;rw[Array.toList_modify,U_ se g a,p.pend]
def ZZ(h:qN κ xs.toList):jE κ xs xs.size:=λi j d a=>by
 by_cases e:i=j
 ·subst e;exact BV _
 have b:KK κ xs i=ky κ xs[i]:=by unfold KK ky;rw[aQ 'd']
 have c:KK κ xs j=ky κ xs[j]:=by unfold KK ky;rw[aQ a]
 rw[b,c];have:=gf.mp h i j (by rw[aE];lia) (by rw[aE];lia) 'd';rw[gg,gg] at this;exact this
set_option maxHeartbeats 0 in
def Tn(M:xo prog w A s κ kd)(hs:jj κ a₀)(bp:(Kg st).Perm a₀)(bk:kindOf st=kd)(bf:failedOf st=J9)(bn:Ki st = #[])(q:∀d,(Kg d).Perm a₀->failedOf d=J9->jE κ (Kg d) a₀.size->Q () d):wpS (av prog w) A E s sortRuns' Q st:=by
 have u:∀x∈a₀.toList,uv κ x:=hs;have p0:Pn κ kd a₀.toList st 0 [] (Kg st).toList:=⟨rfl,rfl,by rw[bn];rfl,by simp,by simp,bk,bf,d6.mp bp⟩;have U:(Kg st).size=a₀.size:=bp.size_eq;rw[sortRuns'_eq];refine aF (h9 ?_);show wpS _ _ _ _ (forIn [:(Kg st).size] (J9,0) _ >>= _) Q st;rw[U];refine aF (dW (cV (I:=λk c d=>∃lo S R,c=(J9,lo)/\Pn κ kd a₀.toList d lo S R/\k<=lo) (Q:=λc d=>∃lo S R,c=(J9,lo)/\Pn κ kd a₀.toList d lo S R/\a₀.size<=lo) ?_ ?_ ?_) ?_)
 ·rintro k c v _ hk ⟨lo,S,R,rfl,p,G⟩;have hlen:lo+R.length=a₀.size:=by
   have:=p.perm.length_eq;rw[p.arr,aC,p.lo,aE] at this;exact this
  have Y:(Kg v).size=a₀.size:=by rw[<- aE,p.perm.length_eq,aE]
  show wpS _ _ _ _ (if lo ≥ _ then _ else _) _ v;by_cases l:lo ≥ a₀.size
  ·rw[Kd (by first|exact l|(rw[U];exact l))];exact aK ⟨lo,S,R,rfl,p,l⟩
  rw[Kf (by first|exact l|(rw[U];exact l))];have Hj:∀x∈(Kg v).toList,uv κ x:=λx hx=>u x (p.perm.mem_iff.mp hx);refine aF (zbQ (nrem:=a₀.size-lo) M Hj p.kind 'd' 'd' (Rl.refl v lo) λn o r2 n1 n2 u2=>?_);apply Fl (β:=Nat) (H:=λJ m=>∃i,Pn κ kd a₀.toList J lo S i/\1<=m/\m<=i.length/\qN κ (i.take m)/\k<lo+m);intro L;show wpS _ _ _ _ (if n<minRun' a₀.size a₀.size 0 then _ else _) _ o;by_cases hm:n<minRun' a₀.size a₀.size 0
  ·rw[Kd hm];refine aF (jr (dU ⟨rfl,aF (zh3 (ok:=n) M Hj p.kind n1 'd' 'd' r2 u2 λJ r3 u3=>?_)⟩));obtain⟨i,r,l3,B⟩:=p.run r3 'd' u3;have N:1<=min (a₀.size-lo) (minRun' a₀.size a₀.size 0):=by lia
   have O:min (a₀.size-lo) (minRun' a₀.size a₀.size 0)<=i.length:=by lia
   generalize min (a₀.size-lo) (minRun' a₀.size a₀.size 0)=m at *;exact L _ _ ⟨i,r,N,O,B,by lia⟩
  ·rw[Kf hm];obtain⟨i,r,l3,B⟩:=p.run r2 'd' u2;exact L _ _ ⟨i,r,n1,by lia,B,by lia⟩
  rintro J m ⟨i,r,N,O,B,G⟩;refine aF (h9 ?_);cases hb:(Ki J).back? with
  |none=>exact aF (ge (aK ⟨lo+m,_,_,rfl,r.push N O B,by lia⟩))
  | some t=>
   obtain⟨s1,n1',pw0⟩:=t;refine aF (dW (cV (I:=λj c d=>c=(J9,())/\∃e,Pn κ kd a₀.toList d lo e i) (Q:=λc d=>c=(J9,())/\∃e,Pn κ kd a₀.toList d lo e i) ?_ ?_ ?_) ?_)
   ·rintro j c f _ _ ⟨rfl,e,C⟩;refine aF (h9 ?_);show wpS _ _ _ _ (match (if (Ki f).size>1 then (Ki f)[(Ki f).size-2]? else J9) with|some (fst,fst_1,B5)=>_|x=>_) _ f;cases ht:(if (Ki f).size>1 then (Ki f)[(Ki f).size-2]? else J9) with
    |none=>exact aK ⟨rfl,e,C⟩
    | some t=>
     obtain⟨x,y,B5⟩:=t;have Z:(Ki f).size>1:=by
      by_cases Z:(Ki f).size>1
      ·exact Z
      ·rw[Kf Z] at ht;cases ht
     show wpS _ _ _ _ (if B5<=_ then _ else _) _ f;split
     ·exact aK ⟨rfl,e,C⟩
     ·exact aF (Rm M u C (by rw[C.size] at *;lia) λJX S5 p5 _=>aK ⟨rfl,S5,p5⟩)
   ·rintro c f h;exact h
   ·exact⟨rfl,S,r⟩
   ·rintro c f ⟨rfl,e,C⟩;refine aF (ge (aF (ge (aK ⟨lo+m,_,_,rfl,Pn.push (Pn.power C ?_ _) N O B,by lia⟩))));rintro⟨a,b,c⟩;rfl
 ·rintro c v ⟨lo,S,R,rfl,p,G⟩;exact⟨lo,S,R,rfl,p,by rw[er] at G;exact G⟩
 ·exact⟨0,[],_,rfl,p0,aw _⟩
 ·rintro c v ⟨lo,S,R,rfl,p,G⟩;have hR:R=[]:=by
   have h:=p.perm.length_eq;rw[p.arr,aC,p.lo] at h;have h2:a₀.toList.length=a₀.size:=aE;exact cO.mp 'd'
  refine aF (dW (cV (I:=λk c d=>c=(J9,())/\∃S,Pn κ kd a₀.toList d lo S R/\S.length<=a₀.size-k) (Q:=λc d=>c=(J9,())/\∃S,Pn κ kd a₀.toList d lo S R/\S.length<=1) ?_ ?_ ?_) ?_)
  ·rintro k c o _ hk ⟨rfl,e,g,P⟩;refine aF (h9 ?_);show wpS _ _ _ _ (if (Ki o).size<=1 then _ else _) _ o;by_cases l:(Ki o).size<=1
   ·rw[Kd l];exact aK ⟨rfl,e,g,by rw[<- g.size];exact l⟩
   ·rw[Kf l];have Y:=g.size;refine aF (Rm M u g ?_ λJ S3 r h3=>aK ⟨rfl,S3,r,by lia⟩)
    repeat' split
    all_goals lia
  ·rintro c o ⟨rfl,e,g,P⟩;exact⟨rfl,e,g,by rw[er] at P;lia⟩
  ·refine⟨rfl,S,p,?_⟩;have h1:=R7 S p.ne;have h:=p.perm.length_eq;rw[p.arr,aC] at h;have h2:a₀.toList.length=a₀.size:=aE;lia
  ·rintro c o ⟨rfl,e,g,P⟩;have vX:=g.arr;rw[hR,bX] at vX;have Y:(Kg o).size=a₀.size:=by rw[<- aE,g.perm.length_eq,aE]
   refine aK (q o (d6.mpr g.perm) g.failed ?_);rw[<- Y];apply ZZ;rw[vX]
   match e,P with
   |[],_=>exact fu
   |[X],_=>rw[jV,List.flatten_nil,bX];exact g.srt X al
end
def list_sort_big(o:κ.OneLt)(g:s.heap.get? a=JU (seqObj "list" c.toArray n))(p:jj κ (pairsOf c))(r:∀t u b,c=t::u::b->keyKind' (t::u::b).toArray=pure oneType')
  (v:c.length<=4000000) (q:∀d:cu,(Kg d).Perm (pairsOf c)->jE κ (Kg d) (pairsOf c).size->P (Fin.done (oF gT)) { heap:=sortedHeap s.heap a c (gR (λx=>x.snd) (Kg d)),gens:=s.gens,drawn:=s.drawn,toks:=s.toks,os:=s.os }):aq (av prog w) A (dQ.«list.sort» { pos:=[ef a] }) P E s:=by
 by_cases y:c.length<64
 ·exact list_sort_treeK o g p r y q
 rw[list_sort_plain];have B:(4000000:Nat)<=aM:=by decide
 obtain⟨v1,f,b,rfl⟩:∃v1 f b,c=v1::f::b:=by
  match c,y with
  |[],h=>exact absurd (by show 0<64;decide) h
  |[_],h=>exact absurd (by show 1<64;decide) h
  |v1::f::b,_=>exact⟨v1,f,b,rfl⟩
 generalize l:v1::f::b=c at *;have C:=bR (bG λ_=>#[]) g rfl;have G:=ab (seqObj "list" #[] 0) (ab (seqObj "tuple" c.toArray 0) C);refine aa (ja g rfl (aa (iK g rfl (aa (jz C rfl (aa (iB (aa (hJ (bI ?_) 'u')) (by simpa using aI v B))))) (by simpa using aI v B) (by show 0<=aM+1;lia))));have H:¬ c.toArray.size<2:=by rw[aS];lia
 show aq (av prog w) A (if c.toArray.size<2 then _ else _) P E _;rw[Kf H,<- l,r v1 f b l.symm,l];refine aa (ah ?_);rw[Kf H];show aq (av prog w) A (sortRuns'.run (lJ oneType' (c.toArray.zip c.toArray) #[] 7 J9) >>= _) P E { heap:=((s.heap.update a (bG λx=>#[])).push (seqObj "tuple" c.toArray 0)).push (seqObj "list" #[] 0),gens:=s.gens,drawn:=s.drawn,toks:=s.toks,os:=s.os };refine aa (cG (Tn (Q:=λ_ d=>(Kg d).Perm (pairsOf c)/\failedOf d=J9/\jE κ (Kg d) (pairsOf c).size) (xo.one o) (a₀:=pairsOf c) p (i9 _) rfl rfl rfl λd i j m=>⟨i,j,m⟩) ?_ λ_ _ h=>h);rintro⟨_,d⟩ I ⟨rfl,i,j,m⟩;have J:(gR (λx=>x.snd) (Kg d)).size<=4000000:=by
  rw[lr,i.size_eq];show(c.toArray.zip c.toArray).size<=_;rw[og,aS];lia
 refine aa (jz G rfl (aa (iK G rfl ?_ (by show 0<=aM;lia) (by show(gR _ _).size<=aM+1;lia))));dsimp only at j;show aq (av prog w) A (match failedOf d with|some e=>_|x=>_) P E _;rw[j];show aq (av prog w) A (if ((if _ then n else n+1) !=(if _ then n else n+1))=Ka then _ else _) P E _;rw[Kf 'k'];exact ah (q d i m)
def D8:ae->Option k_
 |.str x _=>JU x.cps.toList
 |_=>J9
def allS:List ae->Option l_
 |[]=>JU []
 | v::vs=>match D8 v,allS vs with
  |some a,JU r=>JU (a::r)
  |_,_=>J9
def Ft(h:aX):ae->Option l_
 | .ref t=>match h.get? t with
  | some o=>match o.data with
   |.seq e_ _=>allS e_.toList
   |_=>J9
  |none=>J9
 |_=>J9
def llt_irrefl(a:l_):¬ a<a:=gP a
def llt_trans{a b c:l_}(d:a<b)(e:b<c):a<c:=jR d e
def llt_total{a b:l_}(c:¬ a<b)(d:¬ b<a):a=b:=kl (iH.mp d) (iH.mp c)
def IT(h:aX):aY where
 α:=l_
 blt:=λa b=>decide (a<b)
 irrefl:=λa=>decide_eq_false (llt_irrefl a)
 trans:=λa b c h1 h2=>decide_eq_true (llt_trans (of_decide_eq_true h1) (of_decide_eq_true h2))
 negTrans:=λa b c h=>by
  by_cases h1:a<b
  ·exact .inl (decide_eq_true h1)
  ·right;have hac:=of_decide_eq_true h;by_cases h2:b<a
   ·exact decide_eq_true (llt_trans h2 hac)
   ·rw[<- llt_total h1 h2];exact h
 total:=λa b h1 h2=>llt_total (of_decide_eq_false h1) (of_decide_eq_false h2)
 keyOf:=Ft h
 dflt:=[]
def AM:l_->l_->Option Bool
 |a::as,b::bs=>if a=b then AM as bs else JU (decide (a<b))
 |_,_=>J9
theorem Sn:∀c d:l_,(match AM c d with|some r=>r|none=>decide (c.length<d.length))=decide (c<d)
 |[],[]=>by simp[AM]
 |[],b::d=>by simp[AM]
 |a::c,[]=>by simp[AM]
 | a::c,b::d=>by
  unfold AM;by_cases e:a=b
  ·subst e;rw[Kd rfl];have:=Sn c d;rw[aV,aV];have f:decide (c.length+1<d.length+1)=decide (c.length<d.length):=by simp
   rw[f,this];simp[lu]
  ·rw[Kf e];show decide (a<b)=_;simp[lu,e]
theorem US
  (o:∀x y i a b{Q:ForInStep (Option Bool×Unit)->ai->Prop},D8 x=JU a->D8 y=JU b->Q (if a=b then .yield (J9,()) else .done (JU (decide (a<b)),())) s->aq M A (f ((x,y),i) (J9,())) Q E s):
  ∀(xs g:List ae)(c d:l_)(j:Nat){Q:Option Bool×Unit->ai->Prop},allS xs=JU c->allS g=JU d->Q (AM c d,()) s->aq M A (forIn ((xs.zip g).zipIdx j) (J9,()) f) Q E s
 | [],g,c,d,j,Q,h1,h2,q=>by
  cases h1;exact ah (by cases d<;>exact q)
 | x::xs,[],c,d,j,Q,h1,h2,q=>by
  cases h2;exact ah (by cases c<;>exact q)
 | x::xs,y::g,c,d,j,Q,h1,h2,q=>by
  unfold allS at h1 h2;split at h1
  ·rename_i a h p l;split at h2
   ·rename_i b m r n;cases h1;cases h2;rw[jF,iP,ig];refine aa (o x y j a b p r ?_);unfold AM at q;by_cases e:a=b
    ·rw[Kd e] at q ⊢;exact US o xs g h m (j+1) l n q
    ·rw[Kf e] at q ⊢;exact ah q
   ·cases h2
  ·cases h1
theorem SX{M:Model}{A:bD}{E:ae->ai->Prop}{s:ai}{α β:Type}{f:α->Sem β}(g:α->β):∀(l:List α){Q:List β->ai->Prop},(∀v∈l,∀(a:β->ai->Prop),a (g v) s->aq M A (f v) a E s)->Q (l.map g) s->aq M A (List.mapM f l) Q E s
 |[],Q,_,q=>by rw[List.mapM_nil];exact ah q
 | v::l,Q,h,q=>by
  rw[List.mapM_cons];exact aa (h v al _ (aa (SX g l (λu b=>h u (ag _ b)) (ah q))))
def Sf{M:Model}{A:bD}{E:ae->ai->Prop}{s:ai}{α β:Type}{f:α->Sem β}(g:α->β)(l:List α){Q:Array β->ai->Prop}(h:∀v∈l,∀(a:β->ai->Prop),a (g v) s->aq M A (f v) a E s)(q:Q (l.map g).toArray s):aq M A (Array.mapM f l.toArray) Q E s:=by rw[Array.mapM_eq_mapM_toList];refine aa (SX g l h (ah q))
section
def FG(h:D8 v=JU a):∃x t,v=.str x t/\x.cps.toList=a:=by
 cases v with
 |str x t=>exact⟨x,t,rfl,by cases h;rfl⟩
 |_=>cases h
def ZI(c:D8 x=JU a)(d:D8 y=JU b)(q:Q (decide (a<b)) s):aq (av prog w) A (oneLt' o x y) Q E s:=by
 obtain⟨x,t,rfl,rfl⟩:=FG c;obtain⟨y,u,rfl,rfl⟩:=FG d;cases o with
 |true=>exact lT prog w A E s _ _ _ _ rfl rfl q
 | false=>
  rw[oneLt'_eq,Kf 'u'];refine aa (show aq (av prog w) A (cN CmpOp.Lt _ _) _ E s from P.lt_str ?_);exact ah q
structure TupS(h:aX)(v:ae)(ks:l_):Prop where
 ok:∃t o e_ c,v=.ref t/\h.get? t=JU o/\o.cls=.type "tuple"/\o.data=.seq e_ c/\allS e_.toList=JU ks
noncomputable def CP(h:aX)(v:ae):Option ae:=match v with
 | .ref t=>match h.get? t with
  | some o=>match o.data with
   |.seq e_ _=>e_[0]?
   |_=>J9
  |none=>J9
 |_=>J9
def T_(g:h.get? t=JU o)(a:o.data=.seq e_ c):CP h (.ref t)=e_[0]?:=by show(match h.get? t with|some o=>(match o.data with|.seq e_ _=>e_[0]?|_=>J9)|none=>J9)=_;rw[g];dsimp only;rw[a]
def Iv(e:Ft h v=JU ks):∃t o a c,v=.ref t/\h.get? t=JU o/\o.data=.seq a c/\allS a.toList=JU ks:=by
 cases v with
 | ref t=>
  unfold Ft at e;dsimp only at e;cases g:h.get? t with
  |none=>rw[g] at e;cases e
  | some o=>
   rw[g] at e;dsimp only at e;cases b:o.data with
   |seq a c=>rw[b] at e;exact⟨t,o,a,c,rfl,g,b,e⟩
   |_=>rw[b] at e;cases e
 |_=>cases e
def MR(ok:TupS h v ks)(f:ks≠[]):∃x d,CP h v=JU (.str x d):=by
 obtain⟨t,o,i,c,rfl,g,m,j,b⟩:=ok;rw[T_ g j,<- dN];cases e:i.toList with
 |nil=>rw[e] at b;cases b;exact absurd rfl f
 | cons x r=>
  rw[e] at b;unfold allS at b;split at b
  ·rename_i a n l p;obtain⟨y,d,rfl,_⟩:=FG l;exact⟨y,d,rfl⟩
  ·cases b
theorem Me:∀{l:List ae}{b:l_},allS l=JU b->l.length=b.length
 |[],b,h=>by cases h;rfl
 | v::l,b,h=>by
  unfold allS at h;split at h
  ·rename_i a r d c;cases h;rw[aV,aV,Me c]
  ·cases h
def z8l{f:List ae}(h2:2<=f.length)(l:∀v∈f,∃m,TupS s.heap v m/\m≠[]){Q:KT->ai->Prop}(q:∀kd:KT,xo prog w A s (IT s.heap) kd->Q kd s):aq (av prog w) A (keyKind' f.toArray) Q E s:=by
 show aq (av prog w) A (_ >>= _) Q E s;refine aa (Sf (CP s.heap) f (λv j n O=>?_) ?_)
 ·obtain⟨m,⟨t,o,e_,c,rfl,g,hc,S,ha⟩,p⟩:=l v j;show aq (av prog w) A (typeOf (.ref t) >>= _) n E s;refine aa (wpAny_typeOf_ref g ?_);rw[hc];show aq (av prog w) A (kS (.ref t) >>= _) n E s;refine aa (ja g S (ah ?_));rw[<- T_ g S];exact O
 ·have sX:((f.map (CP s.heap)).toArray.all λx=>x.isSome)=Ka:=by
   rw[np,aD];intro x d;obtain⟨v,j,rfl⟩:=ay.mp d;obtain⟨m,I,p⟩:=l v j;obtain⟨y,B,e⟩:=MR I p;rw[e];rfl
  rw[Kd sX];refine aa (dU ?_);have Om:∀u∈(f.map (CP s.heap)).filterMap id,∃y B,u=.str y B:=λu hu=>by
   obtain⟨x,d,e⟩:=il.mp hu;obtain⟨v,j,rfl⟩:=ay.mp d;obtain⟨m,I,p⟩:=l v j;obtain⟨y,B,J⟩:=MR I p;rw[J] at e;injection e with e;exact⟨y,B,e.symm⟩
  have L:(f.map (CP s.heap)).filterMap id≠[]:=by
   match f,h2,l with
   | v::_,_,l=>
    obtain⟨m,I,p⟩:=l v al;obtain⟨y,B,J⟩:=MR I p;rw[bH,J];simp
  rw[List.filterMap_toArray];generalize (f.map (CP s.heap)).filterMap id=C at *;refine aa ?_;show aq (av prog w) A (Array.mapM typeOf C.toArray >>= _) _ E s;refine aa (Sf (λ_=>eU "str") C (λv j n O=>?_) ?_)
  ·obtain⟨y,B,rfl⟩:=Om v j;exact ah O
  ·have e0:((C.map λ_=>eU "str").toArray)[0]?=JU (eU "str"):=by
    cases C with
    |nil=>exact absurd rfl L
    |cons _ _=>rfl
   rw[e0];have P:((C.map λ_=>eU "str").toArray.all λx=>x==eU "str")=Ka:=by
    rw[np,aD];intro x d;obtain⟨_,_,rfl⟩:=ay.mp d;rfl
   show aq (av prog w) A (pure (if ((C.map λ_=>eU "str").toArray.all λx=>x==eU "str")=Ka then JU (eU "str") else J9)) _ E s;rw[P];refine ah (ah (q _ ?_));intro x y U n d G H;obtain⟨(M:l_),d⟩:=d;obtain⟨(N:l_),G⟩:=G;have ea:ky (IT s.heap) x=M:=by unfold ky;rw[d];rfl
   have eb:ky (IT s.heap) y=N:=by unfold ky;rw[G];rfl
   rw[ea,eb] at H;obtain⟨t,o,e_,c,P,g1,d1,Y⟩:=Iv d;obtain⟨t2,o2,vc,c2,J,g2,d2,Z⟩:=Iv G;rw[P,J];show aq (av prog w) A (kS (.ref t) >>= _) n U s;refine aa (ja g1 d1 (aa (ja g2 d2 (aa (US ?_ _ _ M N 0 Y Z ?_)))))
   ·intro x y i a b Q d G q;obtain⟨x,t,rfl,rfl⟩:=FG d;obtain⟨y,u,rfl,rfl⟩:=FG G;show aq (av prog w) A (eqBool (.str x t) (.str y u) >>= _) Q U s;refine aa (wpAny_eqBool_str ?_);by_cases e:x=y
    ·subst e;rw[Kd rfl] at q;rw[decide_eq_true rfl];exact ah q
    ·have ne:x.cps.toList≠y.cps.toList:=λh=>e (by
      cases x;cases y;dsimp only at h;rw[nq.mp h])
     rw[Kf ne] at q;rw[decide_eq_false e];exact aa (ZI rfl rfl (ah q))
   ·have l1:=Me Y;have l2:=Me Z;rw[aE] at l1 l2;have hl:=Sn M N;rw[<- l1,<- l2] at hl
    replace H:n (decide (M<N)) s:=H
    rw[<- hl] at H;generalize AM M N=r at *;cases r with
    |none=>exact ah H
    |some r=>exact ah H
end
def keyT(h:aX)(v:ae):l_:=(Ft h v).getD []
def UQ{a:List ae}{p:bh}(h:p∈(pairsOf a).toList):p.1=p.2/\p.1∈a:=by
 have e:(pairsOf a).toList=a.zip a:=by simp[pairsOf]
 rw[e] at h;have b:a.zip a=a.map λv=>(v,v):=by
  clear h e
  induction a with
  |nil=>rfl
  |cons v r ih=>rw[jF,ih];rfl
 rw[b] at h;obtain⟨v,c,rfl⟩:=ay.mp h;exact⟨rfl,c⟩
def zcJ(a:List ae):(pairsOf a).toList.map (λx=>x.2)=a:=by
 have e:(pairsOf a).toList=a.zip a:=by simp[pairsOf]
 rw[e]
 induction a with
 |nil=>rfl
 |cons v r ih=>rw[jF,bH,ih (by simp[pairsOf])]
abbrev atK(K:aY)(ko:aX->ae->Option K.α)(h:aX):aY:={ K with keyOf:=ko h }
def z6N{prog:aU}{w:be}{A:bD}{E:ae->ai->Prop}{s:ai}{a:af}{c:List ae}{n:Nat}{P:PySem.Fin->ai->Prop}{K:aY}{ko:aX->ae->Option K.α}{C:aX->ae->Prop}
  (u:∀{h O:aX},(∀b o,h.get? b=JU o->o.cls=.type "tuple"->O.get? b=JU o)->∀{v},C h v->C O v/\ko O v=ko h v) (S:∀{h v},C h v->∃k,ko h v=JU k)
  (kk:∀{E:ae->ai->Prop}{s:ai}{Q:KT->ai->Prop},2<=c.length->(∀v∈c,C s.heap v)->(∀kd:KT,xo prog w A s (atK K ko s.heap) kd->Q kd s)->aq (av prog w) A (keyKind' c.toArray) Q E s)
  (J:s.heap.get? a=JU (seqObj "list" c.toArray n)) (hv:∀v∈c,C s.heap v) (hl:c.length<=4000000)
  (q:∀f:Array ae,f.toList.Perm c->f.toList.Pairwise (λx y=>K.blt ((ko s.heap y).getD K.dflt) ((ko s.heap x).getD K.dflt)=Kb)->P (Fin.done (oF gT)) { heap:=sortedHeap s.heap a c f,gens:=s.gens,drawn:=s.drawn,toks:=s.toks,os:=s.os }):aq (av prog w) A (dQ.«list.sort» { pos:=[ef a] }) P E s:=by
 rw[list_sort_plain];have sz:(4000000:Nat)<=aM:=by decide
 have g1:=bR (bG λ_=>#[]) J rfl;have L:=ab (seqObj "list" #[] 0) (ab (seqObj "tuple" c.toArray 0) g1);have l:∀{v},v∈c->C (((s.heap.update a (bG λx=>#[])).push (seqObj "tuple" c.toArray 0)).push (seqObj "list" #[] 0)) v/\ko (((s.heap.update a (bG λx=>#[])).push (seqObj "tuple" c.toArray 0)).push (seqObj "list" #[] 0)) v=ko s.heap v:=λ{v}h=>u (λb o g hc=>by
  have ne:a≠b:=λe=>by
   subst e;rw[J] at g;cases g;exact absurd hc 'k'
  exact ab (seqObj "list" #[] 0) (ab (seqObj "tuple" c.toArray 0) ((bC s.heap (bG λ_=>#[]) ne).trans g))) (hv v h)
 refine aa (ja J rfl (aa (iK J rfl (aa (jz g1 rfl (aa (iB (aa (hJ (bI ?_) 'u')) (by simpa using aI hl sz))))) (by simpa using aI hl sz) (by show 0<=aM+1;lia))));show aq (av prog w) A _ P E { heap:=((s.heap.update a (bG λx=>#[])).push (seqObj "tuple" c.toArray 0)).push (seqObj "list" #[] 0),gens:=s.gens,drawn:=s.drawn,toks:=s.toks,os:=s.os };generalize hH:((s.heap.update a (bG λx=>#[])).push (seqObj "tuple" c.toArray 0)).push (seqObj "list" #[] 0)=H at *;have B:∀d:cu,(Kg d).Perm (pairsOf c)->failedOf d=J9->jE (atK K ko H) (Kg d) (pairsOf c).size->(gR (λx=>x.snd) (Kg d)).toList.Perm c/\(gR (λx=>x.snd) (Kg d)).toList.Pairwise (λx y=>K.blt ((ko s.heap y).getD K.dflt) ((ko s.heap x).getD K.dflt)=Kb):=λd m _ r=>by
  have pl:=d6.mp m;refine⟨?_,?_⟩
  ·rw[nu];have:=pl.map (λx:bh=>x.2);rw[zcJ] at this;exact this
  ·rw[nu,gf];intro i j hi M E1;rw[ar,aE] at hi M;rw[fe,fe];have hs:=r i j 'd' (by rw[<- m.size_eq];exact M);have hk:∀k(h:k<(Kg d).size),KK (atK K ko H) (Kg d) k=(ko s.heap ((Kg d).toList[k]'(by rw[aE];exact h)).2).getD K.dflt:=λk h=>by
    unfold KK;rw[aQ h];have hm:(Kg d)[k]∈(pairsOf c).toList:=pl.mem_iff.mp (by rw[<- gg];exact bT _);obtain⟨h1,t⟩:=UQ hm;dsimp only;show(ko H (Kg d)[k].1).getD K.dflt=_;rw[(l t).2,gg,<- h1]
   rw[hk i hi,hk j M] at hs;exact hs
 have U:jj (atK K ko H) (pairsOf c):=λp N=>by
  obtain⟨h1,t⟩:=UQ N;exact S (l t).1
 have up:∀f:Array ae,H.update a (bG λ_=>f)=sortedHeap s.heap a c f:=λf=>by rw[<- hH];rfl
 by_cases t:c.length<2
 ·have G:c.toArray.size<2:=by rw[aS];exact t
  show aq (av prog w) A (if c.toArray.size<2 then _ else _) P E _;rw[Kd G];refine aa (ah ?_);rw[Kd G];have pz:(pairsOf c).size=c.length:=by simp[pairsOf]
  obtain⟨Y,Z⟩:=B (lJ general' (pairsOf c) #[] 7 J9) (i9 _) rfl (λi j E1 M=>by
   have:i=j:=by lia
   subst this;exact BV _)
  refine aa (ah ?_);have N:(gR (λx=>x.snd) (Kg (lJ general' (pairsOf c) #[] 7 J9))).size<=4000000:=by
   rw[lr];show(pairsOf c).size<=_;lia
  refine aa (jz L rfl (aa (iK L rfl ?_ (by show 0<=aM;lia) (by show(gR _ _).size<=aM+1;exact aI N 'd'))));show aq (av prog w) A (if ((if _ then n else n+1) !=(if _ then n else n+1))=Ka then _ else _) P E _;rw[Kf 'k'];refine ah ?_;have:=q _ Y Z;rw[<- up] at this;exact this
 ·have G:¬ c.toArray.size<2:=by rw[aS];exact t
  show aq (av prog w) A (if c.toArray.size<2 then _ else _) P E _;rw[Kf G];refine aa (kk (s:={ heap:=H,gens:=s.gens,drawn:=s.drawn,toks:=s.toks,os:=s.os }) 'd' (λv h=>(l h).1) λkd ho=>?_);rw[Kf G];show aq (av prog w) A (sortRuns'.run (lJ kd (c.toArray.zip c.toArray) #[] 7 J9) >>= _) P E _;refine aa (cG (Tn (kd:=kd) (κ:=atK K ko H) (Q:=λ_ d=>(Kg d).Perm (pairsOf c)/\failedOf d=J9/\jE (atK K ko H) (Kg d) (pairsOf c).size) ho (a₀:=pairsOf c) U (i9 _) rfl rfl rfl λd m I r=>⟨m,I,r⟩) ?_ λ_ _ h=>h);rintro⟨_,d⟩ s' ⟨rfl,m,I,r⟩;dsimp only at m I r;obtain⟨Y,Z⟩:=B d m I r;have N:(gR (λx=>x.snd) (Kg d)).size<=4000000:=by
   rw[lr,m.size_eq];show(c.toArray.zip c.toArray).size<=_;rw[og,aS];lia
  refine aa (jz L rfl (aa (iK L rfl ?_ (by show 0<=aM;lia) (by show(gR _ _).size<=aM+1;lia))));show aq (av prog w) A (match failedOf d with|some e=>_|x=>_) P E _;rw[I];show aq (av prog w) A (if ((if _ then n else n+1) !=(if _ then n else n+1))=Ka then _ else _) P E _;rw[Kf 'k'];refine ah ?_;have:=q _ Y Z;rw[<- up] at this;exact this
def z65{prog:aU}{w:be}{A:bD}{E:ae->ai->Prop}{s:ai}{a:af}{f:List ae}{n:Nat}{P:PySem.Fin->ai->Prop}(l:s.heap.get? a=JU (seqObj "list" f.toArray n))(i:∀v∈f,∃b,TupS s.heap v b/\(2<=f.length->b≠[]))(m:f.length<=4000000)
  (q:∀d:Array ae,d.toList.Perm f->d.toList.Pairwise (λx y=>¬ keyT s.heap y<keyT s.heap x)->P (Fin.done (oF gT)) { heap:=sortedHeap s.heap a f d,gens:=s.gens,drawn:=s.drawn,toks:=s.toks,os:=s.os }):aq (av prog w) A (dQ.«list.sort» { pos:=[ef a] }) P E s:=
 z6N (K:=IT s.heap) (ko:=Ft) (C:=λh v=>∃b,TupS h v b/\(2<=f.length->b≠[])) (λ{h h'}kp{v}⟨b,⟨t,o,e_,c,e,g,hc,hd,ha⟩,qR⟩=>by
  subst e;refine⟨⟨b,⟨t,o,e_,c,rfl,kp _ _ g hc,hc,hd,ha⟩,qR⟩,?_⟩;show(match Heap.get? _ t with|some o=>(match o.data with|.seq e_ _=>allS e_.toList|_=>J9)|none=>J9)=(match h.get? t with|some o=>(match o.data with|.seq e_ _=>allS e_.toList|_=>J9)|none=>J9);rw[kp _ _ g hc,g]) (λ{h v}⟨b,⟨t,o,e_,c,e,g,hc,hd,ha⟩,_⟩=>⟨b,by
  subst e;show(match h.get? t with|some o=>(match o.data with|.seq e_ _=>allS e_.toList|_=>J9)|none=>J9)=JU b;rw[g];dsimp only;rw[hd];exact ha⟩) (λj i q=>z8l j (λv h=>let ⟨b,k1,k2⟩:=i v h;⟨b,k1,k2 j⟩) q) l i m λd p r=>q d p (r.imp λ{x y}h=>of_decide_eq_false (show decide (keyT s.heap y<keyT s.heap x)=Kb from h))
def TupS.mono{h d:aX}(k:∀b o,h.get? b=JU o->d.get? b=JU o){v:ae}{e:l_}(x:TupS h v e):TupS d v e/\keyT d v=keyT h v:=by obtain⟨t,o,a,c,rfl,g,i,j,l⟩:=x;have f:=k t o g;refine⟨⟨t,o,a,c,rfl,f,i,j,l⟩,?_⟩;show((match d.get? t with|some o=>(match o.data with|.seq a _=>allS a.toList|_=>J9)|none=>J9):Option _).getD []=((match h.get? t with|some o=>(match o.data with|.seq a _=>allS a.toList|_=>J9)|none=>J9):Option _).getD [];rw[f,g]
def sorted_tups{prog:aU}{w:be}{A:bD}{E:ae->ai->Prop}{s:ai}{l:af}{a:List ae}{Q:ae->ai->Prop}(C:s.heap.IsList l a.toArray)(i:∀v∈a,∃d,TupS s.heap v d/\(2<=a.length->d≠[]))(j:a.length<=4000000)
  (h:∀c:Array ae,c.toList.Perm a->c.toList.Pairwise (λx y=>¬ keyT s.heap y<keyT s.heap x)->Q (.ref (s.heap.objs.size+1)) { heap:=sortedAll s.heap a c,gens:=s.gens,drawn:=s.drawn,toks:=s.toks,os:=s.os }):aq (av prog w) A (call (.builtin "sorted") [.ref l]) Q E s:=by
 have n:a.length<=aM:=aI j 'u';refine ij mY mq mr (mw _) ?_;unfold dQ.«sorted»;refine aa (m:=checkCount "sorted" 1 1 _) (ah ?_);refine aa (collect_list C (aa (hJ ?_ n)) n);have p:∀b o,s.heap.get? b=JU o->(((s.heap.push (seqObj "list" #[] 0)).update s.heap.objs.size (bG λx=>x++a.toArray)).push (seqObj "list" a.toArray 0)).get? b=JU o:=λb o e=>by
  have G:s.heap.objs.size≠b:=λq=>absurd (aG e) (by rw[<- q];exact bM _);exact ab _ ((bC _ _ G).trans (ab _ e))
 have r:(((s.heap.push (seqObj "list" #[] 0)).update s.heap.objs.size (bG λx=>x++a.toArray)).push (seqObj "list" a.toArray 0)).get? ((s.heap.push (seqObj "list" #[] 0)).update s.heap.objs.size (bG λx=>x++a.toArray)).objs.size=JU (seqObj "list" a.toArray 0):=aB _ rfl;have H:((s.heap.push (seqObj "list" #[] 0)).update s.heap.objs.size (bG λx=>x++a.toArray)).objs.size=s.heap.objs.size+1:=by rw[Heap.size_update,cx]
 refine aa (bI (cj lz ⟨_,r,rfl⟩ kI (z65 r (λv f=>by
  obtain⟨d,g,t⟩:=i v f;exact⟨d,(g.mono p).1,t⟩) j λc u I=>⟨_,rfl,?_⟩) (lA _)))
 refine ah ⟨_,rfl,?_⟩;have B:∀v∈c.toList,keyT (((s.heap.push (seqObj "list" #[] 0)).update s.heap.objs.size (bG λx=>x++a.toArray)).push (seqObj "list" a.toArray 0)) v=keyT s.heap v:=λv f=>by
  obtain⟨d,g,t⟩:=i v (u.mem_iff.mp f);exact(g.mono p).2
 have J:c.toList.Pairwise (λx y=>¬ keyT s.heap y<keyT s.heap x):=by
  refine List.Pairwise.imp_of_mem ?_ I;intro x y L M N;rw[<- B x L,<- B y M];exact N
 have:=h c u J;unfold sortedAll at this;rw[<- H] at this;exact this
end TS
namespace DL
open PySem
def Z8(t:nv)(es:Array (Int×ae))(h:Int)(x:ae):(layNew t es h x).2.1.led=t.led:=by
 unfold layNew;split
 ·rename_i a b _;show((t.put a).1.orStandIn _).led=_;unfold SetTable.orStandIn;split<;>rfl
 ·rfl
def zaS(t:nv)(es:Array (Int×ae))(n:Nat):(relayAll t es n).2.1.led=t.led/\(t.plain=Kb->(relayAll t es n).2.1.plain=Kb):=by
 unfold relayAll;cases h:t.relaid (es.map (·.1)) n with
 |none=>exact⟨rfl,λ_=>rfl⟩
 | some p=>
  obtain⟨b,a⟩:=p;have c:b.led=t.led/\b.plain=t.plain:=by
   unfold SetTable.relaid SetTable.laid at h;cases d:SetTable.layClean (SetTable.sizeAbove n-1) (es.map (·.1)) with
   |none=>rw[d] at h;cases h
   |some ow=>rw[d] at h;cases h;exact⟨rfl,rfl⟩
  dsimp only;split
  ·exact⟨c.1,λe=>c.2.trans e⟩
  ·exact⟨rfl,λ_=>rfl⟩
def yG(w:be):Bool:=w.params.followText "set-order"
def uy(e:Int×ae):aA:=match e.2 with
 |.str x _=>x
 |_=>⟨#[]⟩
def o6(P:aU)(w:be)(a:af)(ks:List aA)(h:aX):Prop:=
 ∃o es ep t,h.get? a=JU o/\o.ExactSet/\o.data=.set es ep t/\js (strKind P w) es.toList/\(es.toList.map uy).Perm ks/\ks.Nodup/\es.size<scanBound/\t.fits es.size=Ka/\(yG w=Kb->t.led=Ka)/\(es.size≠0->t.plain=Kb)
section
def o6.keep(k:∀o,h.get? a=JU o->h'.get? a=JU o):o6 P w a ks h->o6 P w a ks h':=λ⟨o,b,c,t,d,r⟩=>⟨o,b,c,t,k o d,r⟩
def o6.size(x:o6 P w a ks h):∃o es b t,h.get? a=JU o/\o.data=.set es b t/\es.size=ks.length:=by obtain⟨o,es,b,t,c,f,d,g,e,_⟩:=x;exact⟨o,es,b,t,c,d,by rw[<- e.length_eq];simp⟩
def Mu(h:js (strKind P w) l)(a:e∈l):∃t,e.2=.str (uy e) t:=by obtain⟨⟨k,b,_⟩,_⟩:=h e a;obtain⟨t,c⟩:=je b;exact⟨t,by unfold uy;rw[c]⟩
def RQ(h:e.2=.str (uy e) t)(x:aA):(strKind P w).is x e.2=Ka↔uy e=x:=by
 rw[h];constructor
 ·intro q;obtain⟨b,a⟩:=je (v:=.str (uy e) t) q;injection a
 ·intro q;rw[q];show fZ x (.str x t)=Ka;simp[fZ]
def xN(ks:List aA)(x:aA):List aA:=if ks.contains x=Ka then ks else ks++[x]
def Ru{h:aX}{o:Obj}{es b:Array (Int×ae)}{c:Nat}{t t':nv}{d:List aA}(f:h.get? a=JU o)(i:o.ExactSet)(e:o.data=.set es c t)(j:js (strKind P w) b.toList)(l:(b.toList.map uy).Perm d)(m:d.Nodup)
  (n:b.size<scanBound) (p:t'.fits b.size=Ka) (q:yG w=Kb->t'.led=Ka) (r:b.size≠0->t'.plain=Kb):o6 P w a d (h.update a (lK b t'))/\(h.update a (lK b t')).get? a=JU { o with data:=.set b (c+1) t' }:=by have g:=bR (lK b t') f (by rw[putSet_of b t' e];rfl);rw[putSet_of b t' e] at g;exact⟨⟨_,b,c+1,t',g,i,rfl,j,l,m,n,p,q,r⟩,g⟩
def Xz{x:aA}{f:Tok}{Q:Bool->ai->Prop}(hS:o6 P w a ks s.heap)(zN:ks.length+1<scanBound)
  (h:∀b C,dr a s.heap C->o6 P w a (xN ks x) C->Q b { s with heap:=C }):
  aq (av P w) A (setAddHashed a (.str x f) ((strKind P w).hash x)) Q E s:=by
 obtain⟨o,i,ep,t,n,G,u,l,m,hn,hb,H,I,r9⟩:=hS;have tV:(strKind P w).is x (.str x f)=Ka:=by show fZ x (.str x f)=Ka;simp[fZ]
 refine bI (aa (gc n u H ?_));dsimp only;rw[byScan_of rfl hb l,Kd rfl];refine aa (aa (dU (aa (wpAny_setScan_of tV n u H l ?_))));cases hr:List.findIdx? (λe=>(strKind P w).is x e.2) i.toList with
 | some j=>
  obtain⟨hj,J,_⟩:=List.findIdx?_eq_some_iff_getElem.mp hr;have tJ:x∈ks:=by
   obtain⟨t',M⟩:=Mu l (bT hj);have:=(RQ M x).mp J;exact m.mem_iff.mp (ay.mpr ⟨_,bT hj,this⟩)
  refine ah (ah ?_);have:=h Kb s.heap (Heap.SameBut.refl a s.heap) (by
   unfold xN;rw[Kd (bb.mpr tJ)];exact⟨o,i,ep,t,n,G,u,l,m,hn,hb,H,I,r9⟩)
  cases s;exact this
 | none=>
  have GV:x∉ks:=λhm=>by
   obtain⟨e,he,ek⟩:=ay.mp (m.mem_iff.mpr hm);obtain⟨t',M⟩:=Mu l he;have:=List.findIdx?_eq_none_iff.mp hr e he;rw[(RQ M x).mpr ek] at this;cases this
  have ea:xN ks x=ks++[x]:=by unfold xN;rw[Kf (λz=>GV (bb.mp z))]
  have v:=layNew_perm t i ((strKind P w).hash x) (.str x f);have N:=layNew_fits t i ((strKind P w).hash x) (.str x f);have O:=Z8 t i ((strKind P w).hash x) (.str x f);generalize layNew t i ((strKind P w).hash x) (.str x f)=L at v N O ⊢;obtain⟨c,t1,wd,gv⟩:=L;rw[fw] at v;have G6:=(l.push tV rfl).perm v;have S:(c.toList.map uy).Perm (ks++[x]):=by
   refine(v.map uy).trans ?_;rw[cK];exact m.append_right _
  have GW:(ks++[x]).Nodup:=by
   rw[eD];exact⟨hn,by simp,λp m q y=>by
    have:q=x:=⇑y
    subst this;rintro rfl;exact GV m⟩
  have GO:c.size=ks.length+1:=by rw[<- aE,<- ar,S.length_eq];simp
  have U:c.size<scanBound:=by rw[GO];exact zN
  have gw:∀(b:Bool){Y:ai}{Z:Unit->ai->Prop},Z () Y->aq (av P w) A (match b with|true=>rule "set.scan.the-table-gave-way"|false=>pure ()) Z E Y:=λb Y Z y=>by
   cases b
   ·exact ah y
   ·exact dU y
  refine aa (gw _ ?_);have g:∀d:nv,d.led=t.led->d.plain=Kb->d.fits c.size=Ka->aq (av P w) A (do
    storeSet a c d
    if (!wd&&d.tooFull)=Ka then do
      (match (relayAll d c (gh c.size)).2.2 with|true=>rule "set.scan.the-table-gave-way"|false=>pure ())
      storeSet a (relayAll d c (gh c.size)).1 (relayAll d c (gh c.size)).2.1
      pure (JU Ka)
     else pure (JU Ka)) (λr s'=>aq (av P w) A (match r with|some added=>(pure added:Sem Bool)|none=>setAddHashedIn a (.str x f) ((strKind P w).hash x) 99999) Q E s') E s:=by
   intro d h1 h2 h3;obtain⟨S1,g1⟩:=Ru n G u G6 S GW U h3 (λe=>h1.trans (I e)) (λ_=>h2);have sb:=cX s.heap a (lK c d);refine aa (wpAny_storeSet_of n u ?_ (jX U));split
   ·have B:=relayAll_perm d c (gh c.size);have rf:=relayAll_fits d c (gh c.size);have rl:=zaS d c (gh c.size);generalize relayAll d c (gh c.size)=R at B rf rl ⊢;obtain⟨WU,t3,gv2⟩:=R;have s2:WU.size=c.size:=by rw[<- aE,B.length_eq,aE]
    have b2:WU.size<scanBound:=by rw[s2];exact U
    refine aa (gw _ (aa (wpAny_storeSet_of g1 rfl ?_ (jX b2))));obtain⟨S2,_⟩:=Ru g1 G rfl (G6.perm B) ((B.map uy).trans S) GW b2 rf (λe=>rl.1.trans (h1.trans (I e))) (λ_=>rl.2 h2);exact ah (ah (h Ka _ (sb.trans (cX _ a _)) (by rw[ea];exact S2)))
   ·exact ah (ah (h Ka _ sb (by rw[ea];exact S1)))
  split
  ·rename_i Wj;refine aa ?_;exact ah (g { t1 with plain:=Kb } O rfl (SetTable.fits_plain_off N))
  ·rename_i Wj;refine aa (ah ?_);exact g t1 O ⇑Wj N
end
def vE(l:List aA):List aA:=l.foldl xN []
def zeW(l:List aA)(x:aA):vE (l++[x])=xN (vE l) x:=by unfold vE;rw[List.foldl_append];rfl
def zek(a:List aA)(x:aA):(xN a x).length<=a.length+1:=by unfold xN;split<;>simp
def S7:∀(l:List aA),(vE l).length<=l.length:=λl=>by
 have:∀(l a:List aA),(l.foldl xN a).length<=a.length+l.length:=by
  intro l
  induction l with
  |nil=>intro a;exact aw _
  |cons x l ih=>intro a;refine aI (ih (xN a x)) ?_;have:=zek a x;rw[aV];lia
 have h:=this l [];simpa [vE] using h
def zed:y∈xN ks x↔y∈ks\/y=x:=by
 unfold xN;split
 ·rename_i h;exact⟨.inl,λq=>q.elim id λe=>by rw[e];exact bb.mp h⟩
 ·rw[aO,cA]
def R9:∀(l:List aA),y∈vE l↔y∈l:=λl=>by
 have:∀(l a:List aA),y∈l.foldl xN a↔y∈a\/y∈l:=by
  intro l
  induction l with
  |nil=>intro a;simp
  |cons x l ih=>intro a;rw[fY,ih,zed,am];exact⟨λh=>by rcases h with(h|h)|h<;>simp[h],λh=>by rcases h with h|h|h<;>simp[h]⟩
 rw[vE,this];simp
section
def Xc(W:kJ P w A.in1 I fp wr n Pv St)(S:af)(r:S∉fp)(a:List aA)(B:a.length=n)(C:∀i v,Pv i v->i<n->∃t,v=.str (a.getD i ⟨#[]⟩) t)(c:n+1<scanBound):
  ∀(k i:Nat)(s:ai),n-i=k->i<=n->St i s.heap->o6 P w S (vE (a.take i)) s.heap->
   (∀d f,(∀b o,b∉S::wr->s.heap.get? b=JU o->d.get? b=JU o)->o6 P w S (vE a) d->ZQ1 (.ok (.ret .none)) { s with heap:=d,toks:=f })->
   codeAny (av P w) A (.builtin "set.update.loop" ⟨[.ref S,.ref I],[]⟩) ZQ1 s:=by
 have u:S∉wr:=λh=>r (W.sub _ h);intro k
 induction k with
 | zero=>
  intro i s E G l j m;have e:i=n:=by lia
  subst e;refine dD iw ?_;rw[dE fP _];show aq _ A.in1 (pyNext (.ref I) >>= _) _ _ s;refine aa (W.done s _ _ l λd f g=>?_);refine ah (m d f (λb o c z=>g b o (λq=>c (ag _ q)) z) ?_);rw[<- B,e9] at j;exact j.keep λo z=>g S o u z
 | succ k ih=>
  intro i s E G l j m;have p:i<n:=by lia
  refine dD iw ?_;rw[dE fP _];show aq _ A.in1 (pyNext (.ref I) >>= _) _ _ s;refine aa (W.item i s _ _ p l λv H U J L g=>?_);obtain⟨t,rfl⟩:=C i v J p;have M:o6 P w S (vE (a.take i)) H:=j.keep λo z=>g S o u z;show aq _ A.in1 (holding [_] (setAdd S _) >>= _) _ _ _;unfold setAdd;refine aa (bI (bI (aa ((strKind P w).pyHash (k:=a.getD i ⟨#[]⟩) (by show fZ _ (.str _ t)=Ka;simp[fZ]) ?_))));refine Xz M (by have:=S7 (a.take i);rw[bL] at this;lia) λb Y x y=>?_;have N:xN (vE (a.take i)) (a.getD i ⟨#[]⟩)=vE (a.take (i+1)):=by
   rw[<- zeW,fh,bz,au 'd'];rfl
  rw[N] at y;refine ah ⟨d7 fP _,ih (i+1) _ 'd' p (W.frame _ _ _ L λb c o z=>?_) y λd f O Q=>?_⟩
  ·rw[x.2 b (λq:b=S=>r (by rw[<- q];exact c))];exact z
  ·refine m d f (λb o c z=>O b o c ?_) Q;rw[x.2 b (λq:b=S=>c (by rw[q];exact al))];exact g b o (λq=>c (ag _ q)) z
end
section
variable{P:aU}{w:be}{A:bD}{E:ae->ai->Prop}{s:ai}
abbrev yn(w:be):Obj:={ cls:=.type "set",dict:=J9,data:=.set #[] 0 (.fresh 0 0 (!yG w)) }
def Xo(w:be)(h:aX):o6 P w h.objs.size [] (h.push (yn w)):=
 ⟨_,#[],0,_,aB _ rfl,⟨rfl,rfl,rfl⟩,rfl,λe a=>by simp at a,by simp,by simp,by decide,by rfl,λe=>by show(!yG w)=Ka;rw[e];rfl,λe=>absurd rfl e⟩
def zbS(v:ae)(h:Q1 (.ref s.heap.objs.size) { s with heap:=s.heap.push (yn w) }):
  codeAny (av P w) A (.call (.builtin "set.__new__") ⟨[.type "set",v],[]⟩) (wants Q1 E) s:=by
 refine i3 ?_;show aq _ A.in1 (do checkBuiltinCall "set.__new__" ⟨[.type "set",v],[]⟩;again (.builtin "set.__new__" ⟨[.type "set",v],[]⟩)) _ _ s;refine aa (iG (F.newCall_set_1 v) (ah ⟨d7 F.plain_set_new _,dD F.entry_set_new ?_⟩));rw[dE F.plain_set_new _];unfold dQ.«set.__new__» ou;have a:=sub_set_self;obtain⟨b,g,d,c,e⟩:=s;dsimp only
 wp_walk
 refine fD (ah ?_);dsimp only;simp only[newObj];exact aa (wpAny_alloc (ah (ah h)))
def ZK.ty:ZK->String
 |.tup _ _ => "tuple"
 |.str _ _ => "str"
 |.lst _ _ => "list"
def ziD:isSubtype (.type "tuple") (.type "set")=pure Kb:=by rw[jt];kernel_rfl
def Y9:isSubtype (.type "tuple") (.type "frozenset")=pure Kb:=by rw[jt];kernel_rfl
def ZK.typ(q:ZK)(h:q.pre s.heap)(d:∀x t,q ≠ .str x t):∃b a,q.val=.ref a/\s.heap.get? a=JU b/\b.cls=.type q.ty:=by
 cases q with
 |tup t items=>obtain⟨o,e,c,_⟩:=h;exact⟨o,t,rfl,e,c⟩
 |str x t=>exact absurd rfl (d x t)
 |lst l items=>obtain⟨o,e,c,_⟩:=h;exact⟨o,l,rfl,e,c⟩
def ZK.vals:ZK->Array ae
 |.tup _ e_=>e_
 |.str _ _=>#[]
 |.lst _ e_=>e_
def ZK.walks(q:ZK)(a:A.handled=J9)(j:∀x t,q ≠ .str x t)(I:af)(b:q.pre h)(c:h.get? I=JU q.obj)(d:q.val ≠ .ref I):
  ∃f g,q.val=.ref f/\kJ P w A I [I,f] [I] q.vals.size (λi v=>q.vals[i]?=JU v) g/\g 0 h:=by
 cases q with
 |tup t items=>exact⟨t,_,rfl,Walks.tuple a I t (λe=>d (by rw[e];rfl)) items,⟨_,c,rfl,rfl⟩,b⟩
 |str x t=>exact absurd rfl (j x t)
 |lst l items=>exact⟨l,_,rfl,i5 a I l (λe=>d (by rw[e];rfl)) items,⟨_,c,rfl,rfl⟩,b⟩
set_option maxHeartbeats 4000000 in
def zci(q:ZK)(hh:A.handled=J9)(O:q.pre s.heap)(j:∀x t,q ≠ .str x t)(f:List aA)(S:f.length=q.vals.size)(hv:∀i(v:ae),q.vals[i]?=JU v->∃t:Tok,v=kE (f.getD i ⟨#[]⟩) t)(m:f.length+1<scanBound)
  (h:∀a d,o6 P w s.heap.objs.size (vE f) a->(∀b o,b<s.heap.objs.size->s.heap.get? b=JU o->a.get? b=JU o)->Q (.ref s.heap.objs.size) { s with heap:=a,toks:=d }):
  aq (av P w) A (call (.type "set") [q.val]) Q E s:=by
 obtain⟨c,tl,U⟩:=gk.mro;have Wp:=gk.made;have Dj:=gk.sub;obtain⟨ob,l,n,Y,u⟩:=q.typ O j;rw[n];refine jY (i3 ?_);show aq _ _ (callAny (.type "set") _) _ _ _;refine ah ⟨Code.quiet_builtin _ 'c',dD F.entry_type_call ?_⟩;rw[Around.under_plain (weight_type_call_type "set" [.ref l] []) rfl];have h1:=gk.notType;have h2:=gk.canCreate;have hct:=F.typeCall_set_1 (.ref l)
 repeat (any_goals (first|assumption|wp_step))
 refine fM (zbS (.ref l) (E:=E) (Q1:=λg Z=>g=.ref s.heap.objs.size/\Z={ s with heap:=s.heap.push (yn w) }) ⟨rfl,rfl⟩) λr Z y=>?_;cases r with
 |error e=>exact y
 | ok fl=>
  cases fl with
  | ret g=>
   obtain⟨rfl,rfl⟩:=y;have hS:(s.heap.push (yn w)).get? s.heap.objs.size=JU (yn w):=aB _ rfl;have hT:oy { s with heap:=s.heap.push (yn w) } (.ref s.heap.objs.size) "set":=⟨_,hS,rfl⟩;have hli:=gk.init.lookup;have hbi:=gk.init.bind (.ref s.heap.objs.size)
   repeat (any_goals (first|assumption|wp_step))
   refine fM (lG (R:=wants (λr s2=>r=.none/\∃a d,s2={ s with heap:=a,toks:=d }/\o6 P w s.heap.objs.size (vE f) a/\(∀b o,b<s.heap.objs.size->s.heap.get? b=JU o->a.get? b=JU o)) E) gk.init.plain F.entry_set_init (check_set_init_1 hT ?_)) λr2 s2 C=>?_
   ·obtain⟨NS,Gp,Gq,C8⟩:=ob;have u:NS=.type q.ty:=u;subst u;have hol':(s.heap.push (yn w)).get? l=JU { cls:=.type q.ty,dict:=Gp,data:=Gq,slots:=C8 }:=ab _ Y;have xl:q.pre (s.heap.push (yn w)):=q.keep (λb o e=>ab _ e) O;have Ws:l<s.heap.objs.size:=aG Y;have i1:∀{B:bD}{E':ae->ai->Prop}{G:ae->ai->Prop}{d:Nat},G (.ref (s.heap.push (yn w)).objs.size) { s with heap:=(s.heap.push (yn w)).push q.obj,toks:=d }->aq (av P w) B (pyIter (.ref l)) G E' { s with heap:=s.heap.push (yn w),toks:=d }:=λ{B E' G d}hq=>by
     rw[<- n];exact q.iter xl hq
    have GO:isSubtype (.type q.ty) (.type "set")=pure Kb:=by
     cases q with
     |tup _ _=>exact ziD
     |str x t=>exact absurd rfl (j x t)
     |lst _ _=>exact F.sub_list_set
    have xG:isSubtype (.type q.ty) (.type "frozenset")=pure Kb:=by
     cases q with
     |tup _ _=>exact Y9
     |str x t=>exact absurd rfl (j x t)
     |lst _ _=>exact F.sub_list_frozenset
    have hnd:(eU q.ty==eU "dict")=Kb:=by cases q<;>rfl
    unfold dQ.«set.__init__» noKeywords oh;generalize H:pyIter=PI
    wp_walk
    subst H;refine i1 ?_;refine aa (wpAny_runValue ?_);have I:A.in1.in1.in1.handled=J9:=by simp[hh]
    have J:(s.heap.push (yn w)).objs.size=s.heap.objs.size+1:=cx ..;have fo:q.obj.isFreed=Kb:=by cases q<;>rfl
    obtain⟨ax,St,p,W,rT⟩:=q.walks I j (s.heap.push (yn w)).objs.size (q.keep (λb o e=>ab _ e) xl) (aB _ fo) (by rw[n,J];intro e;injection e with e;exact absurd Ws (by rw[e];exact nN.mpr (fi _)));have L:ax=l:=by rw[n] at p;injection p with p;exact p.symm
    subst L;refine Xc W s.heap.objs.size (by
      rw[J];simp only[am,bB,or_false,not_or];exact⟨bo (cE _),dZ Ws⟩) f S (λi v e _=>hv i v e) (by rw[<- S];exact m) (q.vals.size-0) 0 _ 'd' (bO _) rT ?_ λa d M N=>?_
    ·exact(Xo w s.heap).keep λo e=>ab _ e
    ·refine ah (ah ⟨rfl,a,d,rfl,N,λb o m e=>M b o ?_ (ab _ (ab _ e))⟩);rw[J];simp only[am,bB,or_false,not_or];exact⟨bo m,bo (dg m)⟩
   ·cases r2 with
    |error e=>exact C
    | ok fl2=>
     cases fl2 with
     | ret r=>
      obtain⟨rfl,a,d,rfl,N,M⟩:=C
      repeat (any_goals (first|assumption|wp_step))
      exact h _ _ N M
     |_=>exact C.elim
  |_=>exact y.elim
end
def RE:Manifest.owners.lookup (String.ofList ['r','o','t','a','r','e','t','i','_','t','e','s'].reverse)=JU Manifest.sig_set_iterator:=by kernel_rfl
def pG:Slot "set_iterator" "__next__" "set_iterator.__next__":=Slot.of (owner := "set_iterator") (n := "__next__") (by rw[typeLookup_type,lB];kernel_rfl) 'c' 'c' 'c' (by first|exact .inl 'c'|exact .inr 'c') (by rw[jt];kernel_rfl)
def SV:Slot "set_iterator" "__iter__" "set_iterator.__iter__":=Slot.of (owner := "set_iterator") (n := "__iter__") (by rw[typeLookup_type,lB];kernel_rfl) 'c' 'c' 'c' (by first|exact .inl 'c'|exact .inr 'c') (by rw[jt];kernel_rfl)
def zdj:entryFor table "set_iterator.__next__" = JU dQ.«set_iterator.__next__»:=entryFor_of_tree 'b'
def zhA(a:ae):argsOk "set_iterator.__next__" ⟨[a],[]⟩:=by unfold argsOk;rw[signature?_of (n:=['_','_','t','x','e','n','_','_']) 'b' RE];kernel_rfl
def zic(a:ae):argsOk "set_iterator.__iter__" ⟨[a],[]⟩:=by unfold argsOk;rw[signature?_of (n:=['_','_','r','e','t','i','_','_']) 'b' RE];kernel_rfl
def zdq:entryFor table "set.__iter__" = JU dQ.«frozenset.__iter__»:=entryFor_alias (id' := "frozenset.__iter__") 'b' rfl 'c' 'b'
def zeT:entryFor table "set_iterator.__iter__" = JU dQ.«dict_keyiterator.__iter__»:=entryFor_alias (id' := "dict_keyiterator.__iter__") 'b' rfl 'c' 'b'
def U3{α:Type}{l:List α}{i:Nat}{x:α}(h:l[i]?=JU x):(x::l.eraseIdx i).Perm l:=by
 obtain⟨a,e⟩:=ao.mp h;have q:l.take i++x::l.drop (i+1)=l:=by rw[<- e,List.getElem_cons_drop a,cm]
 rw[List.eraseIdx_eq_take_drop_succ];exact List.perm_middle.symm.trans (by rw[q])
theorem UT{α:Type}(next:Nat->Nat):∀(fuel k:Nat)(left:List α)(a:Array α),left.length=fuel->(mx next fuel k left a).toList.Perm (a.toList++left)
 | 0,k,left,a,h=>by
  have:left=[]:=cO.mp h;subst this;unfold mx;simp
 | fuel+1,k,left,a,h=>by
  unfold mx;have b:next k%left.length<left.length:=Nat.mod_lt _ 'd'
  rw[au b];dsimp only;have e:=jS b;refine(UT next fuel (k+1) _ _ (by rw[e];lia)).trans ?_;rw[fw,bq];exact fX _ (U3 (au b))
def JC{α:Type}(next:Nat->Nat)(xs:Array α):(pickOrder next xs).toList.Perm xs.toList:=by
 unfold pickOrder;have:=UT next xs.size 0 xs.toList #[] 'k'
 simpa using this
section
def zhZ{src:Source}{n:Nat}{Q:Nat->ai->Prop}(a:n≠0)(h:∀i d,i<n->Q i { s with drawn:=d }):aq (av P w) A (choose src n) Q E s:=
 λb p _=>⟨a,h _ _ (Nat.mod_lt _ (Nat.pos_of_ne_zero a))⟩
theorem QW{α:Type}:∀(n:Nat)(xs:List α)(s:ai)(Q:List α->ai->Prop),xs.length=n->(∀a d,a.Perm xs->Q a { s with drawn:=d })->aq (av P w) A (drawOrder n xs) Q E s
 | 0,xs,s,Q,h,hq=>by
  have:xs=[]:=cO.mp h;subst this;unfold drawOrder;exact ah (by have:=hq [] s.drawn (fG _);cases s;exact this)
 |n+1,[],s,Q,h,hq=>by simp at h
 | n+1,x::xs,s,Q,h,hq=>by
  unfold drawOrder;refine aa (zhZ 'k' λi d b=>?_);rw[au b];refine aa (QW n _ _ _ (by rw[jS b];simpa using h) λa c e=>ah ?_);exact hq _ c ((List.Perm.cons _ e).trans (U3 (au b)))
abbrev yA(first:ae)(i:Nat)(a:af)(n ep:Nat):Obj:={ cls:=.type "set_iterator",data:=.fields #[first,cr i,.ref a,cr n,cr ep] }
def Q9(c:s.TypeIs (.ref I) "set_iterator")(h:aq (av P w) A.in1 (dQ.«set_iterator.__next__» ⟨[.ref I],[]⟩) (λf a=>∃v,f=.done (.ret v)/\Q (JU v) a) (λe a=>∃o,e=.ref o/\(∃b,a.heap.get? o=JU b/\b.cls=.type "StopIteration")/\Q J9 a) s):
  aq (av P w) A (pyNext (.ref I)) Q E s:=by
 unfold pyNext;refine aa (f6 (cB c pG (cj pG c zdj ?_ (zhA _))));refine cG h (λf a d=>?_) λe a g=>?_
 ·obtain⟨v,rfl,q⟩:=d;exact⟨v,rfl,ah q⟩
 ·obtain⟨o,rfl,⟨b,i,j⟩,q⟩:=g;exact aa (iQ ⟨b,i,j⟩ lj (ah q))
end
section
def UA{α:Type}{Q:α->ai->Prop}(c:A.handled=J9)(h:∀a e,(∀b o,s.heap.get? b=JU o->a.get? b=JU o)->(∃o,a.get? e=JU o/\o.cls=.type "StopIteration")->E (.ref e) { s with heap:=a }):
  aq (av P w) A (newExc (.type "StopIteration") [] >>= λe=>(raiseNew e:Sem α)) Q E s:=by refine aa ?_;refine aa (cF (?_) (by size_fits));refine aa (iG (by first|rfl|(simp;rfl)) (cF ?_ (by size_fits)));refine aa (wpAny_handled ?_);rw[c];refine aa (ah (wpAny_throw (h _ _ (λb o e=>ab _ (ab _ e)) ⟨_,aB _ rfl,rfl⟩)))
def RN(b:s.heap.get? a=JU o)(c:o.data=.set es ep t)(d:t.fits es.size=Ka)(g:yG w=Ka)(h:Q (((pickOrder (w.params.setOrder a ep) es)[i]?).map λe=>(e.2,sl)) s):
  aq (av P w) A (setNext a sl i ep) Q E s:=by have f:(av P w).w.params.followText "set-order" = Ka:=g;refine aa (gc b c d ?_);refine aa (aa (fD (ah ?_)));rw[f,Kd rfl,Kf 'k'];refine aa ?_;refine aa (gc b c d ?_);refine aa (aa (fD (ah ?_)));rw[f,Kd rfl];exact aa (fD (ah (ah h)))
def Sm(b:s.heap.get? a=JU o)(c:o.data=.set es ep t)(d:t.fits es.size=Ka)(e:yG w=Kb)(m:es.size<=1)(f:t.led=Ka)
  (h:Q (match es[fH t.place sl]?,t.place[fH t.place sl]? with|some (_,x),JU j=>JU (x,j+1)|_,_=>J9) s):
  aq (av P w) A (setNext a sl i ep) Q E s:=by
 have g:(av P w).w.params.followText "set-order" = Kb:=e;refine aa (gc b c d ?_);refine aa (aa (fD (ah ?_)));rw[g,Kf 'k'];show aq _ _ (if (!t.plain&&decide (es.size>1))=Ka then _ else _) _ _ _;have l:(!t.plain&&decide (es.size>1))=Kb:=by
  rw[decide_eq_false 'd'];simp
 rw[l,Kf 'k'];refine aa ?_;show aq _ _ (if (!t.led && !es.isEmpty)=Ka then _ else _) _ _ _;rw[f,Kf 'k'];exact ah (ah h)
def zcw(b:s.heap.get? a=JU o)(c:o.data=.set es ep t)(d:t.fits es.size=Ka)(e:es[pl]?=JU x)(h:Q x.2 s):
  aq (av P w) A (setNextDrawn a pl ep) Q E s:=by refine aa (gc b c d ?_);dsimp only;rw[Kf 'k',e];exact ah h
def zhc(b:s.heap.get? a=JU o)(c:o.data=.set es ep t)(d:t.fits es.size=Ka)(f:es.size≠0->t.plain=Kb)(h:Q (!yG w&&decide (es.size>1)) s):aq (av P w) A (setDrawn a) Q E s:=by
 refine aa (gc b c d ?_);refine aa (aa (fD (ah (ah ?_))));have e:(!t.plain&&decide (es.size>1))=decide (es.size>1):=by
  by_cases q:es.size>1
  ·rw[f 'd',decide_eq_true q];rfl
  ·rw[decide_eq_false q];simp
 show Q (!yG w&&(!t.plain&&decide (es.size>1))) s;rw[e];exact h
def Ia{I:af}{g i:Nat}{R:Option (ae×Nat)}{Q:Option ae->ai->Prop}(n:s.heap.get? a=JU o)(q:o.data=.set es ep t)(r:t.fits es.size=Ka)(d:s.heap.get? I=JU (yA (cr g) i a es.size ep))(S:a≠I)(u:A.handled=J9)
  (x:∀(B:bD)(Q':Option (ae×Nat)->ai->Prop)(E':ae->ai->Prop),Q' R s->aq (av P w) B (setNext a g i ep) Q' E' s)
  (y:∀v j,R=JU (v,j)->∀c,dr I s.heap c->c.get? I=JU (yA (cr j) (i+1) a es.size ep)->Q (JU v) { s with heap:=c })
  (C:R=J9->∀c,jy I s.heap c->Q J9 { s with heap:=c }):aq (av P w) A (pyNext (.ref I)) Q E s:=by
 refine Q9 ⟨_,d,rfl⟩ ?_;unfold dQ.«set_iterator.__next__» slotArgs;dsimp only;refine aa (ah (aa (wpAny_fieldsOf d rfl ?_)));refine aa (jk n q r ?_);rw[Kf 'k'];refine aa (x _ _ _ ?_);cases h:R with
 | some p=>
  obtain⟨v,j⟩:=p;refine aa (bQ d 'k' λG l f=>(aa (bQ l 'k' λH J L=>?_)));exact ah ⟨v,rfl,y v j h H (f.trans L) J⟩
 | none=>
  refine aa (bQ d 'k' λG l f=>(UA ⇑u λc e M N=>⟨e,rfl,N,C h c λb m O z=>M b m (f.extBut b m O z)⟩))
def QU{I f:af}{i:Nat}{first:ae}{ps:k_}{Q:Option ae->ai->Prop}(n:s.heap.get? a=JU o)(p:o.data=.set es ep t)(q:t.fits es.size=Ka)(d:s.heap.get? I=JU (yA (.ref f) i a es.size ep))(y:s.heap.get? f=JU { cls:=.type "tuple",data:=.seq (ps.map λ(j:Nat)=>cr (j:Int)).toArray })(B:A.handled=J9)
  (C:∀j x,ps[i]?=JU j->es[j]?=JU x->∀c,dr I s.heap c->c.get? I=JU (yA (.ref f) (i+1) a es.size ep)->Q (JU x.2) { s with heap:=c }) (G:∀j,ps[i]?=JU j->j<es.size)
  (H:ps[i]?=J9->∀c,jy I s.heap c->Q J9 { s with heap:=c }):aq (av P w) A (pyNext (.ref I)) Q E s:=by
 refine Q9 ⟨_,d,rfl⟩ ?_;unfold dQ.«set_iterator.__next__» slotArgs;dsimp only;refine aa (ah (aa (wpAny_fieldsOf d rfl ?_)));refine aa (jk n p q ?_);rw[Kf 'k'];refine aa (cJ y rfl ?_);have J:((ps.map λ(j:Nat)=>cr (j:Int)).toArray)[((i:Int)).toNat]?=(ps[i]?).map λ(j:Nat)=>cr (j:Int):=by
  rw[cP,lf,aZ]
 dsimp only;rw[J];cases g:ps[i]? with
 | some j=>
  have r:=G j g;refine aa (zcw n p q (aQ r) ?_);exact aa (bQ d 'k' λu h l=>(ah ⟨_,rfl,C j _ g (aQ r) u l h⟩))
 | none=>
  refine aa (bQ d 'k' λu h l=>(aa (bQ h 'k' λO S L=>?_)));refine UA ⇑B λc e M N=>⟨e,rfl,N,H g c λb m v z=>M b m (L.extBut b m v (l.extBut b m v z))⟩
end
section
abbrev DW(os:List aA):Nat->ae->Prop:=λi v=>∃tk:Tok,v=.str (os.getD i ⟨#[]⟩) tk
def K7(h:∃b,s.heap.get? I=JU b/\b.cls=.type "set_iterator")(q:Q (.ref I) s):aq (av P w) A (pyIter (.ref I)) Q E s:=by
 have a:=h;refine jU a SV (cj SV a zeT ?_ (zic _))
 wp_walk
 exact⟨_,rfl, "set_iterator",_,a,pG.lookup,q⟩
def Lh(a:js (strKind P w) l)(h:l[i]?=JU e):DW (l.map uy) i e.2:=by obtain⟨b,c⟩:=Mu a (aJ h);refine⟨b,?_⟩;rw[bz,aZ,h];exact c
def zhz(m:o.data=.set es ep t)(n:t.fits es.size=Ka)(J:js (strKind P w) es.toList)(c:yG w=Ka)(x:A.handled=J9)(r:a≠I):
  kJ P w A I [I,a] [I] es.size (DW ((pickOrder (w.params.setOrder a ep) es).toList.map uy)) (λi h=>(∃f:Nat,h.get? I=JU (yA (cr f) i a es.size ep))/\h.get? a=JU o) where
 sub:=λb c=>by simp at c;simp[c]
 frame:=λi h p d y=>⟨let ⟨f,e⟩:=d.1;⟨f,y I 'k' _ e⟩,y a 'k' _ d.2⟩
 item:=λi s Q E U d l=>by
  obtain⟨⟨f,u⟩,g⟩:=d;have q:=JC (w.params.setOrder a ep) es;have L:(pickOrder (w.params.setOrder a ep) es).size=es.size:=by rw[<- aE,q.length_eq,aE]
  have C:i<(pickOrder (w.params.setOrder a ep) es).size:=by lia
  refine Ia g m n u r x (λB M N h=>RN g m n c (by rw[aQ C];exact h)) (λv j e p G O=>?_) λe=>by cases e
  cases e;refine l _ p s.toks (Lh (J.perm q) (by rw[dN];exact aQ C)) ⟨⟨_,O⟩,?_⟩ λb H c z=>?_
  ·rw[G.2 a r];exact g
  ·rw[G.2 b ⇑c];exact z
 done:=λs Q E d l=>by
  obtain⟨⟨f,u⟩,g⟩:=d;have q:=JC (w.params.setOrder a ep) es;have L:(pickOrder (w.params.setOrder a ep) es).size=es.size:=by rw[<- aE,q.length_eq,aE]
  refine Ia g m n u r x (λB M N h=>RN g m n c (by rw[kT 'd'];exact h)) (λv j e=>by cases e) λ_ p S=>l p s.toks λb H c z=>S b H ⇑c z
 self:=λi s Q E d l=>K7 (let ⟨⟨f,e⟩,_⟩:=d;⟨_,e,rfl⟩) l
def zgz(H:o.data=.set es ep t)(J:t.fits es.size=Ka)(U:js (strKind P w) es.toList)(L:A.handled=J9)(Y:a≠I)(Z:tt≠I){ps:k_}(v:ps.Perm (aN es.size)):
  kJ P w A I [I,a,tt] [I] es.size (DW ((ps.filterMap λj=>es[j]?).map uy)) (λi h=>h.get? I=JU (yA (.ref tt) i a es.size ep)/\h.get? a=JU o/\h.get? tt=JU { cls:=.type "tuple",data:=.seq (ps.map λ(j:Nat)=>cr (j:Int)).toArray }) where
 sub:=λb f=>by simp at f;simp[f]
 frame:=λi h p c y=>⟨y I 'k' _ c.1,y a 'k' _ c.2.1,y tt 'k' _ c.2.2⟩
 item:=λi s Q E hi c g=>by
  obtain⟨B,r,u⟩:=c;have m:ps.length=es.size:=by rw[v.length_eq];simp
  have C:∀j∈ps,j<es.size:=λj d=>ba.mp (v.mem_iff.mp d);refine QU (first:=.ref tt) r H J B u L (λj x n M p G e'=>?_) (λj e=>C j (aJ e)) λe=>absurd (aP.mp e) 'd';have OT:∀(l:k_),(∀j∈l,j<es.size)->(l.filterMap λj=>es[j]?)=l.map λj=>es.getD j default:=by
   intro l
   induction l with
   |nil=>intro _;rfl
   | cons q l ih=>
    intro h;have N:=h q al;rw[fA,aQ N,ih λj d=>h j (ag _ d),bH];simp[Array.getD,N]
  have hx:(ps.filterMap λj=>es[j]?)[i]?=JU x:=by
   rw[OT ps C,aZ,n];have d:=C j (aJ n);rw[aQ d] at M;have:=cf M;simp[Array.getD,d,this]
  have OU:js (strKind P w) (ps.filterMap λj=>es[j]?):=λe he=>by
   obtain⟨j,_,d⟩:=il.mp he;exact U e (by rw[<- dN] at d;exact aJ d)
  refine g _ p s.toks (Lh OU hx) ⟨e',?_,?_⟩ λb O f z=>?_
  ·rw[G.2 a Y];exact r
  ·rw[G.2 tt Z];exact u
  ·rw[G.2 b ⇑f];exact z
 done:=λs Q E c g=>by
  obtain⟨B,r,u⟩:=c;have m:ps.length=es.size:=by rw[v.length_eq];simp
  have S:ps[es.size]?=J9:=aP.mpr 'd';exact QU (first:=.ref tt) r H J B u L (λj x n=>by rw[S] at n;cases n) (λj e=>by rw[S] at e;cases e) λ_ p eb=>g p s.toks λb O f z=>eb b O ⇑f z
 self:=λi s Q E c g=>K7 ⟨_,c.1,rfl⟩ g
def zfY(xs:Array Nat)(h:xs.size<=1):fH xs 0=0:=by
 unfold fH;have:xs.size=0\/xs.size=1:=by lia
 rcases this with e|e
 ·rw[e];rfl
 ·rw[e];unfold mS;rw[Kd 'd'];rfl
def zhh(xs:Array Nat)(p:Nat)(h:xs.size=1)(a:xs[0]?=JU p):fH xs (p+1)=1:=by
 unfold fH;rw[h];unfold mS;rw[Kd 'd'];dsimp only;have e:xs.getD ((0+1)/2) (p+1)=p:=by
  rw[Array.getD_eq_getD_getElem?,a];rfl
 rw[e,Kd 'd'];rfl
def zdC(n:o.data=.set es ep t)(g:t.fits es.size=Ka)(N:js (strKind P w) es.toList)(c:yG w=Kb)(y:es.size<=1)(C:t.led=Ka)(G:A.handled=J9)(r:a≠I):
  kJ P w A I [I,a] [I] es.size (DW (es.toList.map uy)) (λi h=>(∃f:Nat,h.get? I=JU (yA (cr f) i a es.size ep)/\fH t.place f=i)/\h.get? a=JU o) where
 sub:=λb c=>by simp at c;simp[c]
 frame:=λi h p d H=>⟨let ⟨f,e,q⟩:=d.1;⟨f,H I 'k' _ e,q⟩,H a 'k' _ d.2⟩
 item:=λi s Q E J d m=>by
  obtain⟨⟨f,u,x⟩,l⟩:=d;have O:t.place.size=es.size:=by simp only[oz,aT,beq_iff_eq] at g;exact g.1
  have S:i=0:=by lia
  subst S;have U:t.place.size=1:=by lia
  refine Ia l n g u r G (λB Y Z h=>Sm l n g c y C (by rw[x,aQ J,aQ 'd'];exact h)) (λv j e p L e'=>?_) λe=>by cases e
  cases e;refine m _ p s.toks (Lh N (by rw[dN];exact aQ J)) ⟨⟨_,e',zhh _ _ U (aQ _)⟩,?_⟩ λb M c z=>?_
  ·rw[L.2 a r];exact l
  ·rw[L.2 b ⇑c];exact z
 done:=λs Q E d m=>by
  obtain⟨⟨f,u,x⟩,l⟩:=d;refine Ia l n g u r G (λB Y Z h=>Sm l n g c y C (by rw[x,kT (aw _)];exact h)) (λv j e=>by cases e) λ_ p eb=>m p s.toks λb M c z=>eb b M ⇑c z
 self:=λi s Q E d m=>K7 (let ⟨⟨f,e,_⟩,_⟩:=d;⟨_,e,rfl⟩) m
end
section
theorem RO(es:Array (Int×ae)):∀(l:k_),(∀j∈l,j<es.size)->(l.filterMap λj=>es[j]?).length=l.length
 |[],_=>rfl
 | q::l,h=>by
  rw[fA,aQ (h q al)];rw[aV,aV,RO es l λj a=>h j (ag _ a)]
structure ItX(P:aU)(w:be)(a:af)(ks:List aA)(s:ai)(I:af)(s1:ai):Prop where
 ex:∃(os:List aA)(fp:List af)(St:Nat->aX->Prop),os.Perm ks/\I∈fp/\(∀b∈fp,b<s1.heap.objs.size)/\(∀b∈fp,b=a\/s.heap.objs.size<=b)/\(∀B:bD,B.handled=J9->kJ P w B I fp [I] os.length (DW os) St)/\St 0 s1.heap
 keep:∀b o,s.heap.get? b=JU o->s1.heap.get? b=JU o
 ty:∃ob,s1.heap.get? I=JU ob/\ob.cls=.type "set_iterator"
 new:s.heap.objs.size<=I
 gens:s1.gens=s.gens
 os:s1.os=s.os
def X1(hS:o6 P w a ks s.heap)(h:∀I s1,ItX P w a ks s I s1->Q (.ref I) s1):aq (av P w) A (pyIter (.ref a)) Q E s:=by
 obtain⟨o,c,u,t,x,hx,G,tW,hp,hn,l,y,hl,r9⟩:=hS;have hT:s.TypeIs (.ref a) "set":=⟨o,x,hx.1⟩;have m:=aG x;refine jU hT F.slot_set_iter (cj F.slot_set_iter hT zdq ?_ (F.args_set_iter_1 _));unfold dQ.«frozenset.__iter__» oG slotArgs;simp only[List.isEmpty_nil,oA,cS,↓reduceIte,bind_assoc,gr,bne_self_eq_false];refine aa (ah (aa (ah (aa (aa (jk x G y (ah (aa (zhc x G y r9 ?_)))))))));have M:∀(first:ae)(q:aX)(d:Drawn),(∀b H,s.heap.get? b=JU H->q.get? b=JU H)->s.heap.objs.size<=q.objs.size->
   (∃(N:List aA)(J:List af)(Y:Nat->aX->Prop),N.Perm ks/\q.objs.size∈J/\(∀b∈J,b<q.objs.size+1)/\(∀b∈J,b=a\/s.heap.objs.size<=b)/\(∀B:bD,B.handled=J9->kJ P w B q.objs.size J [q.objs.size] N.length (DW N) Y)/\Y 0 (q.push (yA first 0 a c.size u)))->
   aq (av P w) A.in1 (setEpoch a >>= λe=>newFields "set_iterator" [first,cr 0,.ref a,cr c.size,cr e] >>= λv=>ret v) (λf s'=>∃r,f=.done (.ret r)/\∃T' r',s'.TypeIs r T'/\typeLookup (.type T') "__next__" = pure (JU r')/\Q r s') E { s with heap:=q,drawn:=d }:=by
  intro first q d hk hz ⟨N,J,Y,p1,p2,p3,p6,p4,p5⟩
  refine aa (wpAny_setEpoch_of (hk a o x) G y ?_);refine aa (cF ?_ (by size_fits));have g:(q.push (yA first 0 a c.size u)).get? q.objs.size=JU (yA first 0 a c.size u):=aB _ rfl;refine ah ⟨_,rfl, "set_iterator",_,⟨_,g,rfl⟩,pG.lookup,h _ _ ⟨⟨N,J,Y,p1,p2,λb l=>?_,p6,p4,p5⟩,λb H e=>ab _ (hk b H e),⟨_,g,rfl⟩,hz,rfl,rfl⟩⟩;rw[cx];exact p3 b l
 cases OW:(!yG w&&decide (c.size>1)) with
 | true=>
  refine aa (QW c.size (aN c.size) _ _ 'k' λC d O=>aa (iB ?_ ?_))
  ·have S:(s.heap.push { cls:=.type "tuple",data:=.seq (C.map λ(j:Nat)=>cr (j:Int)).toArray }).objs.size=s.heap.objs.size+1:=cx ..;refine M (.ref s.heap.objs.size) _ d (λb H e=>ab _ e) (by rw[S];exact fi _) ?_;refine⟨(C.filterMap λj=>c[j]?).map uy,[(s.heap.push { cls:=.type "tuple",data:=.seq (C.map λ(j:Nat)=>cr (j:Int)).toArray }).objs.size,a,s.heap.objs.size],(λi h=>h.get? (s.heap.push { cls:=.type "tuple",data:=.seq (C.map λ(j:Nat)=>cr (j:Int)).toArray }).objs.size=JU (yA (.ref s.heap.objs.size) i a c.size u)/\h.get? a=JU o/\h.get? s.heap.objs.size=JU { cls:=.type "tuple",data:=.seq (C.map λ(j:Nat)=>cr (j:Int)).toArray }),?_,by simp,?_,?_,λB U=>?_,aB _ rfl,ab _ (ab _ x),ab _ (aB _ rfl)⟩
   ·refine(List.Perm.map uy ?_).trans hp;have e1:(aN c.size).filterMap (λj=>c[j]?)=c.toList:=by
     apply jW;intro i;have OT:∀n,n<=c.size->(aN n).filterMap (λj=>c[j]?)=c.toList.take n:=by
      intro n
      induction n with
      |zero=>intro _;simp
      | succ n ih=>
       intro Dr;rw[nR,List.filterMap_append,ih 'd',fA,List.filterMap_nil,aQ 'd',fh,dN,aQ 'd'];rfl
     rw[OT c.size (aw _),cT 'k']
    rw[<- e1];exact O.filterMap _
   ·intro b l;rw[S] at l ⊢;simp at l;rcases l with rfl|rfl|rfl
    ·exact cE _
    ·exact dg (dg m)
    ·exact dg (cE _)
   ·intro b l;rw[S] at l;simp at l;rcases l with rfl|rfl|rfl
    ·exact .inr (fi _)
    ·exact .inl rfl
    ·exact .inr (aw _)
   ·have p:((C.filterMap λj=>c[j]?).map uy).length=c.size:=by
     have e0:=RO c C λj hj=>ba.mp (O.mem_iff.mp hj);rw[ar,e0,O.length_eq];simp
    rw[p];exact zgz G y tW U (by rw[S];exact bo (dg m)) (by rw[S];exact bo (cE _)) O
  ·rw[ar,O.length_eq,bS];exact jX l
 | false=>
  have this:=M (cr 0) s.heap s.drawn (λb H e=>e) (aw _);have e0:({ s with heap:=s.heap,drawn:=s.drawn }:ai)=s:=by cases s;rfl
  refine this ?_;by_cases L:yG w=Ka
  ·refine⟨(pickOrder (w.params.setOrder a u) c).toList.map uy,[s.heap.objs.size,a],(λi h=>(∃Z:Nat,h.get? s.heap.objs.size=JU (yA (cr Z) i a c.size u))/\h.get? a=JU o),((JC _ c).map uy).trans hp,by simp,?_,?_,λB U=>?_,⟨0,aB _ rfl⟩,ab _ x⟩
   ·intro b l;simp at l;rcases l with rfl|rfl
    ·exact cE _
    ·exact dg m
   ·intro b l;simp at l;rcases l with rfl|rfl
    ·exact .inr (aw _)
    ·exact .inl rfl
   ·have p:((pickOrder (w.params.setOrder a u) c).toList.map uy).length=c.size:=by rw[ar,(JC _ c).length_eq];simp
    rw[p];exact zhz G y tW L U (bo m)
  ·have L:yG w=Kb:=⇑L
   have q:c.size<=1:=by
    rw[L] at OW;simp at OW;exact OW
   have hpz:t.place.size=c.size:=by simp only[oz,aT,beq_iff_eq] at y;exact y.1
   refine⟨c.toList.map uy,[s.heap.objs.size,a],(λi h=>(∃Z:Nat,h.get? s.heap.objs.size=JU (yA (cr Z) i a c.size u)/\fH t.place Z=i)/\h.get? a=JU o),hp,by simp,?_,?_,λB U=>?_,⟨0,aB _ rfl,zfY _ 'd'⟩,ab _ x⟩
   ·intro b l;simp at l;rcases l with rfl|rfl
    ·exact cE _
    ·exact dg m
   ·intro b l;simp at l;rcases l with rfl|rfl
    ·exact .inr (aw _)
    ·exact .inl rfl
   ·have p:(c.toList.map uy).length=c.size:=by simp
    rw[p];exact zdC G y tW L q (hl L) U (bo m)
end
section
def Yp(b:s.TypeIs (.ref a) "set")(h:Q Kb s):aq (av P w) A (Builtin.List.listLengthHint (.ref a)) Q E s:=by
 refine aa (wpAny_specialOf b F.slot_set_len.lookup ?_);have d:splitId "set.__len__" = JU ("set", "__len__"):=by kernel_rfl
 have c:=sub_set_self;dsimp only;rw[d];refine aa (iQ b c ?_);exact aa (l8 b (ah h))
theorem Vw:∀(a:List aA)(b:List ae),b.length=a.length->(∀j v,b[j]?=JU v->DW a j v)->gA b a
 |[],[],_,_=>.nil
 |[],_::_,h,_=>by simp at h
 |_::_,[],h,_=>by simp at h
 | x::a,v::b,h,q=>by
  obtain⟨c,e⟩:=q 0 v rfl;subst e;exact .cons x c (Vw a b ⇑h λj u z=>by
   obtain⟨d,f⟩:=q (j+1) u ⇑z;exact⟨d,by simpa [List.getD] using f⟩)
def zdz(C:A.handled=J9)(G:o6 P w a ks s.heap)(hn:ks.length<=1000)
  (h:∀(H:List ae)(l:List aA)i,l.Perm ks->gA H l->s.heap.objs.size<=i.heap.objs.size->(∀b o,s.heap.get? b=JU o->i.heap.get? b=JU o)->i.gens=s.gens->i.os=s.os->Q H i):
  aq (av P w) A (collect (.ref a)) Q E s:=by
 obtain⟨o,es,ep,t,u,J,r⟩:=id G;have f:=aG u;refine aa (wpAny_runValue (dD F.entry_proto_collect ?_));refine aa (cF (ah ⟨d7 F.plain_list_iadd _,dD F.entry_list_iadd ?_⟩));have g0:(s.heap.push { cls:=.type "list",data:=.seq ([]:List ae).toArray }).get? s.heap.objs.size=JU { cls:=.type "list",data:=.seq ([]:List ae).toArray }:=aB _ rfl;have S0:o6 P w a ks (s.heap.push { cls:=.type "list",data:=.seq ([]:List ae).toArray }):=G.keep λo e=>ab _ e;have T0:oy { s with heap:=s.heap.push { cls:=.type "list",data:=.seq ([]:List ae).toArray } } (.ref a) "set":=⟨o,ab _ u,J.1⟩;show aq _ A.in1 (Builtin.List.listExtendWith (.ref s.heap.objs.size) (.ref a) (.ref s.heap.objs.size)) _ _ _;refine aa (l8 T0 ?_);have h1:km (.ref s.heap.objs.size) (.ref a)=Kb:=by simp[km,dZ f]
 rw[Kf (by rw[h1];decide)];refine aa (X1 S0 λI i X=>?_);obtain⟨⟨l,fp,St,L,p2,p3,p6,M,p5⟩,x,ty,N,gn,oo⟩:=X;refine aa (bI (Yp ⟨o,x a o (ab _ u),J.1⟩ ?_));refine aa (dU (aa ?_));obtain⟨y,g,d,tk,oss⟩:=i;have O:=x _ _ g0;refine aa (eJ O rfl ?_);have S:=bR (bG (·.push gT)) O rfl;refine eJ S rfl ?_;have g3:=bR (bG (·.pop)) S rfl;have U:(Shared.heap { s with heap:=s.heap.push { cls:=.type "list",data:=.seq ([]:List ae).toArray } }).objs.size=s.heap.objs.size+1:=cx ..;have Y:s.heap.objs.size∉fp:=λm=>by
  rcases p6 _ m with e|e
  ·exact bM _ (e▸f)
  ·rw[U] at e;exact Nat.not_succ_le_self _ e
 have W:=(M A.in1 ⇑C).toS;have Z:∀b c,b≠s.heap.objs.size->y.get? b=JU c->((y.update s.heap.objs.size (bG (·.push gT))).update s.heap.objs.size (bG (·.pop))).get? b=JU c:=
  λb c n e=>(bC _ _ (bN n)).trans ((bC _ _ (bN n)).trans e)
 refine ah ⟨d7 F.plain_extend_loop _,codeAny_extend_loopS W (aI (by rw[L.length_eq];exact hn) 'u') _ Y _ l.length 0 _ _ _ rfl (bO _) ((M A.in1 ⇑C).frame 0 y _ p5 λb n c e=>Z b c (λq=>Y (q▸n)) e) g3 (ItemsOf.nil _) λs' p c' B zY Bt=>?_⟩;refine aa (wpAny_load zY (ah ?_));have uA:=Vw l p.toList ⇑Bt.1 λj v e=>Bt.2 j v (by rw[<- dN];exact e);refine h p.toList l s' L uA (gJ (aG zY)) (λb c e=>B.heap b c ?_ (Z b c ?_ (x b c (ab _ e)))) (B.gens.trans gn) (B.os.trans oo)
 ·simp;refine⟨λq=>absurd (aG e) (by rw[q];exact bM _),λq=>?_⟩;have n:=aG e;rw[U] at N;exact absurd (aW n (mH N)) (by rw[q];exact bM _)
 ·exact λq=>absurd (aG e) (by rw[q];exact bM _)
end
end DL
namespace DL
open PySem PyProof.Rows
section
def zgb(x:A.handled=J9)(y:o6 P w a ks s.heap)(hn:ks.length<1000)
  (h:∀(f:Array ae)(g:List aA)l d c,g.Perm ks->sortedS g=Ka->gA f.toList g->s.heap.objs.size<=l->d.heap.get? l=JU { cls:=.type "list",data:=.seq f c }->(∀b o,s.heap.get? b=JU o->d.heap.get? b=JU o)->d.gens=s.gens->d.os=s.os->Q (.ref l) d):
  aq (av P w) A (call (.builtin "sorted") [.ref a]) Q E s:=by
 refine ij mY mq mr (mw _) ?_;unfold dQ.«sorted»;refine aa (m:=checkCount "sorted" 1 1 _) (ah ?_);refine aa (zdz ⇑x y 'd' λi g d r n B C G H=>?_);have j:i.length=g.length:=n.length;have I:i.length<=4000000:=by rw[j,r.length_eq];lia
 refine aa (hJ ?_);have p:(d.heap.push (seqObj "list" i.toArray 0)).get? d.heap.objs.size=JU (seqObj "list" i.toArray 0):=aB _ rfl;refine aa (bI (cj lz ⟨_,p,rfl⟩ kI (TS.list_sort_big lT p n.keysOf (λv1 v2 t e=>keyKind_strs (by rw[<- e];exact n)) I λJ L M=>⟨_,rfl,?_⟩) (lA _)));obtain⟨N,O,S,U⟩:=sorted_out_str n L M;refine ah ⟨_,rfl,?_⟩;have Y:=bR (bG λ_=>#[]) p rfl;have Z:=ab (seqObj "list" #[] 0) (ab (seqObj "tuple" i.toArray 0) Y);have g3:=bR (bG λ_=>(Kg J).map (·.2)) Z rfl;refine h _ N _ _ _ (S.trans r) U O ?_ g3 (λb o e=>?_) G H
 ·exact B
 ·have u:=C b o e;have v:d.heap.objs.size≠b:=λq=>absurd (aG u) (by rw[<- q];exact bM _);exact(bC _ _ v).trans (ab _ (ab _ ((bC _ _ v).trans (ab _ u))))
end
end DL
namespace DL
open PySem L2 PyProof.Rows
noncomputable def xr(x:k_):l_->l_
 |[]=>[x]
 |y::r=>if x<y then x::y::r else if x=y then y::r else y::xr x r
def rH(ss:l_):l_:=ss.foldl (λl x=>xr x l) []
theorem pJ:∀{l:l_},y∈xr x l↔y=x\/y∈l
 |[]=>by simp[xr]
 | z::r=>by
  unfold xr;split
  ·simp
  ·split
   ·rename_i h;subst h;simp
   ·rw[am,pJ,am];exact⟨λh=>by rcases h with h|h|h<;>simp[h],λh=>by rcases h with h|h|h<;>simp[h]⟩
theorem Tv:∀{l:l_},l.Pairwise (· < ·)->(xr x l).Pairwise (· < ·)
 |[],_=>by simp[xr]
 | z::r,h=>by
  obtain⟨b,c⟩:=cg.mp h;unfold xr;split
  ·rename_i a;exact cg.mpr ⟨λy hy=>by
    rcases am.mp hy with rfl|hy
    ·exact a
    ·exact jR a (b y hy),h⟩
  ·rename_i a;split
   ·exact h
   ·rename_i d;refine cg.mpr ⟨λy hy=>?_,Tv c⟩;rcases pJ.mp hy with rfl|hy
    ·exact j5 λq=>d (kl (iH.mp q) (iH.mp a))
    ·exact b y hy
def BW(a:l_):y∈rH a↔y∈a:=by
 have:∀(a l:l_),y∈a.foldl (λl x=>xr x l) l↔y∈l\/y∈a:=by
  intro a
  induction a with
  |nil=>intro l;simp
  |cons x a ih=>intro l;rw[fY,ih,pJ,am];exact⟨λh=>by rcases h with(h|h)|h<;>simp[h],λh=>by rcases h with h|h|h<;>simp[h]⟩
 rw[rH,this];simp
def I_(a:l_):(rH a).Pairwise (· < ·):=by
 have:∀(a l:l_),l.Pairwise (· < ·)->(a.foldl (λl x=>xr x l) l).Pairwise (· < ·):=by
  intro a
  induction a with
  |nil=>intro l h;exact h
  |cons x a ih=>intro l h;exact ih _ (Tv h)
 exact this a [] fu
theorem IZ:∀{l m:l_},l.Pairwise (· < ·)->m.Pairwise (· < ·)->(∀x,x∈l↔x∈m)->l=m
 |[],[],_,_,_=>rfl
 |[],y::m,_,_,h=>absurd ((h y).mpr al) 'k'
 |x::l,[],_,_,h=>absurd ((h x).mp al) 'k'
 | x::l,y::m,hl,hm,h=>by
  obtain⟨c,f⟩:=cg.mp hl;obtain⟨d,g⟩:=cg.mp hm;have b:x=y:=by
   rcases am.mp ((h x).mp al) with e|e
   ·exact e
   ·rcases am.mp ((h y).mpr al) with e'|e'
    ·exact e'.symm
    ·exact absurd (jR (d x e) (c y e')) (gP _)
  subst b;rw[IZ f g λz=>⟨λa=>by
    rcases am.mp ((h z).mp (ag _ a)) with e|e
    ·subst e;exact absurd (c z a) (gP _)
    ·exact e,λa=>by
    rcases am.mp ((h z).mpr (ag _ a)) with e|e
    ·subst e;exact absurd (d z a) (gP _)
    ·exact e⟩]
abbrev toS(cs:k_):aA:=⟨cs.toArray⟩
theorem MH:∀(p:aA)(l:List aA),risingS p l=Ka->(p::l).Nodup->((p::l).map (·.cps.toList)).Pairwise (· < ·)
 |p,[],_,_=>by simp
 | p,x::r,h,nd=>by
  unfold risingS at h;rw[aT,gF,ltCps_eq,decide_eq_false_iff_not] at h;obtain⟨c,d⟩:=bF.mp nd;have a:=MH x r h.2 d;have b:=j5 λq=>c (by
   have:=kl (iH.mp h.1) (iH.mp q);have e:p=x:=by
    obtain⟨f⟩:=p;obtain⟨g⟩:=x;rw[show f=g from nq.mp this]
   rw[e];exact al)
  refine cg.mpr ⟨λy hy=>?_,a⟩;rcases am.mp hy with rfl|hy
  ·exact b
  ·exact jR b ((cg.mp a).1 y hy)
def Y3{b:l_}{a:List aA}(c:a.Perm (vE (b.map toS)))(d:(vE (b.map toS)).Nodup)(e:sortedS a=Ka):a=(rH b).map toS:=by
 have f:(a.map (·.cps.toList)).Pairwise (· < ·):=by
  cases a with
  |nil=>exact fu
  |cons p l=>exact MH p l e (c.nodup_iff.mpr d)
 have g:=IZ f (I_ b) λx=>by
  rw[BW,ay];constructor
  ·rintro⟨o,h,rfl⟩;have:=(R9 _).mp (c.mem_iff.mp h);obtain⟨m,i,rfl⟩:=ay.mp this;exact i
  ·intro j;exact⟨toS x,c.mem_iff.mpr ((R9 _).mpr (ay.mpr ⟨x,j,rfl⟩)),rfl⟩
 rw[<- g,bw];refine(mZ a).symm.trans (jh λo _=>?_);rfl
def o6.nd(x:o6 P w a ks h):ks.Nodup:=by obtain⟨_,_,_,_,_,_,_,_,_,b,_⟩:=x;exact b
section
def X_(K:ak)(P:aU)(w:be):List V->Hp->VK->Prop:=λxs H Q=>∃(p:af)(ss:l_),xs=[.ref p]/\(qS K H p (ss.map λcs=>V.str (toS cs))\/sH K H p (ss.map λcs=>V.str (toS cs)))/\ss.length<=1000/\∀l,H l=J9->Q (.ref l) (upd H l (.ext (o6 P w l (vE (ss.map toS)))))
def zeu{b:l_}{d:List ae}(r:oQ (b.map λe=>V.str (toS e)) d){i:Nat}{v:ae}(h:d[i]?=JU v):∃t:Tok,v=kE ((b.map toS).getD i ⟨#[]⟩) t:=by
 obtain⟨x,a,f⟩:=F5 r h;rw[aZ] at a;cases c:b[i]? with
 |none=>rw[c] at a;cases a
 | some e=>
  rw[c] at a;cases a;obtain⟨t,rfl⟩:=f;exact⟨t,by rw[bz,aZ,c];rfl⟩
def zcC(y:X.calm=Ka):oY X (.type "set") (X_ X.K X.prog X.w):=by
 intro f s B H O P Q I r h;obtain⟨p,j,rfl,sq,S,q⟩:=h;obtain⟨u,rfl,C⟩:=uW r;cases C;have c:∀(z:ZK)(a:List ae),z.val=.ref p->z.pre s.heap->(∀x t,z ≠ .str x t)->z.vals=a.toArray->oQ (j.map λE=>V.str (toS E)) a->aq (av X.prog X.w) X.A (call (.type "set") [.ref p]) (EP X f B Q) X.xe s:=by
  intro z a G J L m d;have g:a.length=j.length:=by rw[<- d.length];simp
  rw[<- G];refine wT I (zci z (I.ok.hd y) J L (j.map toS) (by rw[m];simp[g]) (λi v e=>zeu d (by rw[m] at e;simpa using e)) (by rw[ar];unfold scanBound;lia) λU Y n M Z=>?_);refine⟨.ref s.heap.objs.size,_,I.laid (λb N z=>M b N (aG z) z) (aw _) ?_,rfl,q _ (I.hok.fresh (aw _))⟩;exact⟨n,let ⟨o,_,_,_,ho,_⟩:=n;⟨o,ho⟩,λh1 h2 x k=>x.keep k⟩
 rcases sq with sq|sq
 ·obtain⟨a,d,l,_⟩:=I.list sq;exact c (.lst p a.toArray) a rfl l.isList (λ_ _ e=>by cases e) rfl d
 ·obtain⟨a,d,l,_⟩:=I.tuple sq;exact c (.tup p a.toArray) a rfl l (λ_ _ e=>by cases e) rfl d
theorem MI:∀{a:List ae}{b:List aA},gA a b->oQ (b.map V.str) a
 |_,_,.nil=>.nil
 |_,_,.cons y t h=>.cons ⟨t,rfl⟩ (MI h)
def zaK(y:X.calm=Ka):oY X (.builtin "sorted") (λxs H Q=>∃a e,xs=[.ref a]/\H a=JU (.ext (o6 X.prog X.w a e))/\e.length<1000/\∀l d,d.Perm e->e.Nodup->sortedS d=Ka->H l=J9->Q (.ref l) (upd H l (.lst (d.map V.str)))):=by intro n s N H xs O Q I r h;obtain⟨a,e,rfl,A,o,q⟩:=h;obtain⟨u,rfl,B⟩:=uW r;cases B;have p:=(I.hok a _ A).1;refine wT I (zgb (I.ok.hd y) p o λg d l C c t E G i J v L M P=>?_);have x:=I.hok.fresh i;have f:d.length<=aM:=aI (gJ (by rw[t.length_eq];exact o)) 'u';have j:o0 X.prog X.w (upd H l (.lst (d.map V.str))) C.heap l (.lst (d.map V.str)):=⟨by rw[ar];exact f,g.toList,c,MI G,by rw[J]⟩;have m:=I.hok.laid v i j;refine⟨.ref l,_,?_,rfl,q l d t p.nd E x⟩;exact I.call' M (Un.laid v i x) m (by rw[L];exact I.bare) (λb(hb:b∈([]:List af))=>absurd hb (bB))
end
section
end
section
theorem Jl{K:ak}{H:Hp}{XV μ:List af}:∀a:l_,oO K H XV μ (a.map D.str) (a.map λcs=>V.str (toS cs))
 |[]=>.nil
 |cs::r=>.cons LC (Jl r)
def Qh(o:Bool)(r:R (List D)):R D:=r.bnd λJ7 O1=>match v_ J7 with
 |some ss=>if ss.length<1000 then (if o=Ka then .ok (.own O1.length) (O1++[(rH ss).map .str]) else .ok (.lst ((rH ss).map .str)) O1) else .bad
 |none=>.bad
theorem strL_map:∀a:l_,v_ (a.map D.str)=JU a
 |[]=>rfl
 |cs::r=>by show(v_ (r.map D.str)).map _=_;rw[strL_map r];rfl
def zhg{P:aU}{w:be}{H H':Hp}{XV μ i:List af}{b:Ow}{L:af}{Q:VK}{o:Bool}{d:l_}{K:ak}(x:Ext H μ H' i)(c:oN K H' XV i b)(j:H' L=JU (.ext (o6 P w L (vE (d.map toS)))))(m:d.length<1000)
  (q:rP Ex K H XV μ (if o=Ka then .ok (.own b.length) (b++[(rH d).map .str]) else .ok (.lst ((rH d).map .str)) b) Q):
  ∃a g,[V.ref L]=[V.ref a]/\H' a=JU (.ext (o6 P w a g))/\g.length<1000/\∀l h,h.Perm g->g.Nodup->sortedS h=Ka->H' l=J9->Q (.ref l) (upd H' l (.lst (h.map V.str))):=by
 refine⟨L,_,rfl,j,ei (S7 _) (by rw[ar];exact m),λl h n p r f=>?_⟩;have e:=Y3 n p r;subst e;rw[bw];cases o with
 |true=>exact post.ok (show rP Ex K H XV μ (.ok (.own b.length) (b++[(rH d).map .str])) Q from q) (x.trans (.cell f)) (c.cell f (Jl _)) (F8 c.len)
 |false=>exact post.ok (show rP Ex K H XV μ (.ok (.lst ((rH d).map .str)) b) Q from q) (x.trans (.laid f)) (c.laid f) (J5.newL c f (Jl _))
end
section
def Fm(o:Bool)(t:DA):DE:=λσ O=>(t σ O).bnd λxs O1=>match xs with
 | [x]=>match (match sE O1 x with|some ds=>JU ds|none=>A7 x) with
  |some ds=>Qh o (.ok ds O1)
  |none=>.bad
 |_=>.bad
def zhP(o:Bool)(C:X.calm=Ka)(M:Gl X x)(N:X.mg x=J9)(P:bA x=JU (.builtin "sorted"))(u:Gl X y)(S:X.mg y=J9)(U:bA y=JU (.type "set"))(Y:uS X Ex (e::es) t)
  (Z:x ≠ "__name__":=by decide) (vf:sU x:=by decide) (w:y ≠ "__name__":=by decide) (OY:sU y:=by decide) (he:aL (e::es) X.env=(Kb,eval e X.env)::aL es X.env:=by rfl) (r9:(backTo C7 (aL es X.env)).any (·.1)=Kb:=by rfl)
  (E:aL [.Call (.Name y p2) (e::es) [] C7] X.env=(Kb,eval (.Call (.Name y p2) (e::es) [] C7) X.env)::aL [] X.env:=by rfl):
  PD X Ex (.Call (.Name x p) [.Call (.Name y p2) (e::es) [] C7] [] pos) (Fm o t):=
 sJ (Jc (zaK C) M N P (vP (MJ (zcC C) u S U Y.out w OY he r9) BM E) Z vf E (by rfl)) λb μ σ O a_ H Q f c1 q=>
  vA.go f c1 q λxs n vs r G e2 x2 c d p=>by
   split at p
   ·rename_i x;obtain⟨v,rfl,I⟩:=uz d;split at p
    ·rename_i J s;have h:∃g a,v=.ref g/\(qS X.K r g a\/sH X.K r g a)/\oO X.K r b G J a:=by
      cases f:sE n x with
      | some es=>
       rw[f] at s;cases s;obtain⟨p,a,A,i,j⟩:=xg c I f;exact⟨p,a,A,.inl i,j⟩
      | none=>
       rw[f] at s;obtain⟨p,a,A,i,j⟩:=BO I s;exact⟨p,a,A,.inr i,j⟩
     obtain⟨g,a,rfl,i,j⟩:=h;have p:rP Ex X.K r b G (match v_ J with|some m=>if m.length<1000 then (if o=Ka then .ok (.own n.length) (n++[(rH m).map .str]) else .ok (.lst ((rH m).map .str)) n) else .bad|none=>.bad) Q:=p;split at p
     ·rename_i m B;obtain⟨hl,p⟩:=post.ite p;have ev:=IM j B;subst ev;exact⟨g,m,rfl,i,by lia,λl L=>zhg (.laid L) (c.laid L) rO hl p⟩
     ·exact aj p
    ·exact aj p
   ·exact aj p
end
end DL
namespace DL
open PySem L2
structure Nx(l:List aA):Prop
section
variable{X:Cx}{Ex:Nat->Hp->Prop}{elt tg iter:bi}{ifs:List bi}{gs:List cL}{scope:dS}{pos sR py:Pos}{x y:aA}{i k:Nat}{ext:List aA}{it0:DI}{g:Tg}{ts:List DT}{cs:List Cl}{te:DE}
abbrev Ie(X:Cx)(ext:List aA)(scope:dS)(tg:bi)(g:Tg)(ifs:List bi)(ts:List DT)(gs:List cL)(cs:List Cl)(elt:bi)(te:DE):Prop:=∀cells C s H fp,PG (qO X (X.N++ext) scope cells C s H fp) tg (g.rd X.K)/\cy (λe t=>rX (qO X (X.N++ext) scope cells C s H fp) qE e t) ifs ts/\o7 (qO X (X.N++ext) scope cells C s H fp) gs cs/\PD (qO X (X.N++ext) scope cells C s H fp) qE elt te
def zeC(_:Nx ext)(o:Bool)(a:X.calm=Ka)(b:yJ X.env.scope scope (X.N++ext) (qM (⟨it0,g,ts⟩::cs)))(c:ud X Ex tg iter it0)(d:Ie X ext scope tg g ifs ts gs cs elt te)(e:ext.length=k:=by rfl)(f:∀x,cb iter X.env x=pure x:=by intro _;rfl):
  PD X Ex (.ListComp elt (⟨tg,iter,ifs,0⟩::gs) scope pos) (qA o k it0 g ts cs te):=e▸zgJ o ext a c b d f
def z6Q(_:Nx ext)(o:Bool)(a:X.calm=Ka)(b:X.N.Nodup)(c:X.N[i]?=JU y)(d:X.env.scope.names.lookup y=JU .local)(e:yJ X.env.scope scope (X.N++ext) (qM (⟨it0,g,ts⟩::cs)))(f:ud X Ex tg iter it0)(h:Ie X ext scope tg g ifs ts gs cs elt te)
  (j:swapsWith (.ListComp elt (⟨tg,iter,ifs,0⟩::gs) scope pos) (JU (.Name y py)) sR.line X.env=pure Ka) (l:ext.length=k:=by rfl) (m:∀x,cb iter X.env x=pure x:=by intro _;rfl):
  vI X Ex (.Assign [.Name y py] (.ListComp elt (⟨tg,iter,ifs,0⟩::gs) scope pos) sR) (qH i (qA o k it0 g ts cs te)):=l▸z7P o ext a b c d f e h j m
end
noncomputable def xQ(c:DT)(b:DS):Nat->Sg->Ow->RS
 |0,_,_=>.bad
 | f+1,σ,O=>(c σ O).bnS λk O1=>if k=Ka then (match b σ O1 with
   |.nx σ' O'=>xQ c b f σ' O'
   |.ct σ' O'=>xQ c b f σ' O'
   |.bk σ' O'=>.nx σ' O'
   |r=>r) else .nx σ O1
def Lq(f:Nat)(c:DT)(b:DS):DS:=xQ c b f
section
def zbs(f:Nat)(y:jA (av X.prog X.w) X.A X.env X.xe)(B:rX X Ex c tc)(C:ue X Ex body tb):vI X Ex (.While c body [] pos) (Lq f tc tb):=
 AZ (zdI y B.out C.out) λa g b O E h H j l q=>by
  refine⟨λm h H=>∃a g b O,oP X.K H a g b h/\oN X.K H a g O/\oR Ex X.K H a g (xQ tc tb m b O) E,⟨f,a,g,b,O,j,l,q⟩,?_⟩;rintro m h H ⟨a,g,b,O,j,l,q⟩;cases m with
  |zero=>exact aj q
  | succ f=>
   refine yX.goS j l q λk n t o u J v p=>?_;cases k with
   |false=>exact p h t o .refl u v
   | true=>
    rw[Kd rfl];refine⟨λh H=>∃a g b O,oP X.K H a g b h/\oN X.K H a g O/\oR Ex X.K H a g (xQ tc tb f b O) E,λ_ _ z=>⟨f,cE _,z⟩,a,o,b,n,u,v,?_⟩;have p:oR Ex X.K t a o (match tb b n with|.nx σ' O'=>xQ tc tb f σ' O'|.ct σ' O'=>xQ tc tb f σ' O'|.bk σ' O'=>.nx σ' O'|r=>r) E:=p;cases i:tb b n with
    |nx σ' O'=>rw[i] at p;exact λG I s x e c=>⟨a,s,σ',O',e,c,oR.ext p x⟩
    |ct σ' O'=>rw[i] at p;exact λG I s x e c=>⟨a,s,σ',O',e,c,oR.ext p x⟩
    |bk σ' O'=>rw[i] at p;exact p
    |rt d O'=>rw[i] at p;exact p
    |exc c' O'=>rw[i] at p;exact p
    |bad=>rw[i] at p;exact p
end
section
end
end DL
namespace DL
open PySem L2 PyProof.Rows
abbrev DK:=Sum Int k_
noncomputable def yh:D->Option DK
 |.int i=>JU (.inl i)
 |.str cs=>JU (.inr cs)
 |_=>J9
def D1(k:DK):D->Bool
 |.map [j] _=>decide (j=k)
 |_=>Kb
def ET:List D->List DK
 |.map [k] _::r=>k::ET r
 |_=>[]
def EU:List D->List D
 |.map _ [d]::r=>d::EU r
 |_=>[]
def tP(p:DK×D):D:=.map [p.1] [p.2]
theorem LX:∀ps:List (DK×D),ET (ps.map tP)=ps.map (·.1)
 |[]=>rfl
 |p::r=>by show p.1::ET (r.map tP)=_;rw[LX r];rfl
theorem LW:∀ps:List (DK×D),EU (ps.map tP)=ps.map (·.2)
 |[]=>rfl
 |p::r=>by show p.2::EU (r.map tP)=_;rw[LW r];rfl
def II:∀{a b:DK},kD a=kD b->a=b
 |.inl i,.inl j,h=>by cases h;rfl
 | .inr x,.inr y,h=>by
  have h:=jw h;have:x=y:=⇑h
  rw[this]
 |.inl _,.inr _,h=>by cases h
 |.inr _,.inl _,h=>by cases h
def Ck(tk tv:DE):Em:=λσ O J7=>(tk σ O).bnd λx O1=>match yh x with
 |some k=>(tv σ O1).bnd λd O2=>if J7.length<1000/\J7.any (D1 k)=Kb then .ok (J7++[.map [k] [d]]) O2 else .bad
 |none=>.bad
def Eb(ke ve:bi):yM where
 ex:=λgens scope pos=>.DictComp ke ve gens scope pos
 emit:=λJ7 env=>do
  let kv <- eval ke env;let vv <- holding [kv] (eval ve env)
  match J7 with
  | .ref d=>do
   standAt { ke.pos with endLine:=ve.pos.endLine,endCol:=ve.pos.endCol }
   holding [kv,vv] (dictSet d kv vv)
  |_=>unsupported "internal:dictcomp"
 new:=newDict
 ho:=λ_ _ _=>.dK []
 G:=λK _ _ A XV H μ J7=>∃(ps:List (DK×D))(vs:List V),J7=ps.map tP/\H A=JU (.dK ((ps.map λp=>kD p.1).zip vs))/\ps.length=vs.length/\oO K H (A::XV) μ (ps.map (·.2)) vs
def T7(j l:bi):CQ (Eb j l) where
 cl:=λ_ _ _=>rfl
 turn:=λc b f k o g i A m p n d=>by
  show compTurn (.DictComp j l c b f) k o g i=_;unfold compTurn CJ;rcases d with d|⟨B,C,E,d⟩
  ·simp only[n,d];rfl
  ·simp only[n,d,bne_self_eq_false,cS,if_false,bind_assoc,pure_bind]
   first|rfl|congr 1
 keep:=λ⟨q,r,e,s,t,u⟩ v x=>⟨q,r,e,x.keep _ _ s v,t,u.ext x⟩
 new:=λh=>cF (h _ rfl λH h a w e=>by
  refine⟨bO _,beq_eq_false_iff_ne.mpr (bN (bo w)),[],.nil,?_⟩;exact⟨_,#[],0,e,⟨rfl,rfl,rfl⟩,rfl,λ_ y=>by simp at y,Pairs.nil,gN⟩)
 g0:=⟨[],[],rfl,rO,rfl,.nil⟩
 q1:=λ_ _ _ _ _ _ _=>rfl
 u1:=λ_ _ _ _ _ _ _ _=>rfl
 d1:=λ_ _ _ _ _ _ _ _ _=>rfl
 u2:=λ_ _ _ _ _ _ _ _=>rfl
 d2:=λ_ _ _ _ _ _ _ _ _=>rfl
def yj(g:H A=JU (.dK d_)):∀a,o4 H a->o4 (upd H A o) a:=by
 rintro a ⟨h,b,i,j⟩;have l:a≠A:=by rintro rfl;rw[g] at b;cases b
 refine⟨h,by rw[qi l];exact b,i,λd m e=>?_⟩;obtain⟨c,n,rfl,f,p⟩:=j d m e;have q:c≠A:=by rintro rfl;rw[g] at f;cases f
 exact⟨c,n,rfl,by rw[qi q];exact f,p⟩
theorem TN:∀(ps:List (DK×D))(vs:List V),(ps.map tP).any (D1 k)=Kb->rR ((ps.map λp=>kD p.1).zip vs) (kD k)=J9
 |[],_,_=>rfl
 |_::_,[],_=>rfl
 | p::r,v::vs,h=>by
  rw[bH,g8,gY] at h;obtain⟨a,b⟩:=h;have n:¬ p.1=k:=λe=>by
   have:decide (p.1=k)=Kb:=a;rw[decide_eq_true e] at this;cases this
  show rR ((kD p.1,v)::(r.map λp=>kD p.1).zip vs) (kD k)=J9;rw[xk (λe=>n (II e))];exact TN r vs b
def K8{K:ak}{H:Hp}{XV μ:List af}{x:D}{k:DK}{v:V}(e:yh x=JU k)(h:J5 K H XV μ x v):v=kV (kD k):=by
 cases x with
 |int i=>cases e;unfold J5 at h;exact h
 |str cs=>cases e;unfold J5 at h;exact h
 |_=>cases e
section
def zcq{Z:L2.St->Hp->List af->Prop}{k:Nat}{e:bi}(hx:X.xe=λ_ _=>False)(N:PD X qE ke tk)(P:PD X qE ve tv)(hk:gens[k]?=J9):AY X Z (Eb ke ve) A XV e gens (Ck tk tv) k []:=by
 intro a s i H j l O J7 Q E _ B q;unfold CJ;rw[hk];show aq _ _ (do
  let kv <- eval ke X.env;let vv <- holding [kv] (eval ve X.env)
  (do
   standAt { ke.pos with endLine:=ve.pos.endLine,endCol:=ve.pos.endCol }
   holding [kv,vv] (dictSet A kv vv))) _ _ s
 obtain⟨b,C,rfl,hA,S,dA⟩:=B.grown;unfold vM Ck at q;cases G:tk l O with
 |exc c O1=>rw[G] at q;exact q.elim
 |bad=>rw[G] at q;exact q.elim
 | ok x O1=>
  rw[G] at q;have f:Ai X (Eb ke ve) A XV a i H j (qM []) (match yh x with
   |some k=>(tv l O1).bnd λd n=>if (b.map tP).length<1000/\(b.map tP).any (D1 k)=Kb then .ok (b.map tP++[.map [k] [d]]) n else .bad
   |none=>.bad) Q:=q
  cases U:yh x with
  |none=>rw[U] at f;exact f.elim
  | some kk=>
   rw[U] at f;refine aa (BZ hx (N.out a s i H (λv g=>∃h,Ext H j g h/\oN X.K g (A::XV) h O1/\J5 X.K g (A::XV) h x v) B.inv ⟨A::XV,j,l,O,B.env,B.cells,by rw[G];exact λv H' Y x c r=>⟨Y,x,c,r⟩⟩)
    λu s1 ⟨v,g,I1,ru,h,x1,c1,r1⟩=>?_)
   cases I:tv l O1 with
   |exc c n=>rw[I] at f;exact f.elim
   |bad=>rw[I] at f;exact f.elim
   | ok d n=>
    rw[I] at f;have J:Ai X (Eb ke ve) A XV a i H j (qM []) (if (b.map tP).length<1000/\(b.map tP).any (D1 kk)=Kb then .ok (b.map tP++[.map [kk] [d]]) n else .bad) Q:=f;by_cases L:(b.map tP).length<1000/\(b.map tP).any (D1 kk)=Kb
    ·rw[Kd L] at J;refine aa (bI (BZ hx (P.out a s1 i g (λv M=>∃o,Ext g h M o/\oN X.K M (A::XV) o n/\J5 X.K M (A::XV) o d v) I1 ⟨A::XV,h,l,O1,B.env.ext x1,c1,by rw[I];exact λv H' Y x c r=>⟨Y,x,c,r⟩⟩)
      λu2 s2 ⟨v2,M,I2,NM,o,x2,c2,r2⟩=>?_))
     refine aa (fx (bI ?_));have nA:A∉j:=λm=>B.cells.nh A m 'k';have NA:=x1.trans x2;have t:=NA.keep A _ hA nA;have dA2:=dA.ext NA;have ek:=K8 U r1;subst ek;obtain⟨z,hd,ws,w,dd⟩:=Fj I2.hok t;have y:((b.map λp=>kD p.1).zip C).length=b.length:=by rw[kK,ar,<- S,kn]
     have hlp:b.length<1000:=by have:=L.1;rwa [ar] at this
     have hz:ws.length<=aM:=by rw[<- w.length];exact z
     refine wpAny_dictSet_pairs (BI ru) dd λh' xI sb=>?_;have he:∃q,h'.get? A=JU q:=let ⟨q,_,_,hq,_⟩:=xI;⟨q,hq⟩;have yZ:(t6 ((b.map λp=>kD p.1).zip C) (kD kk) v2).length<=aM:=aI (Js _ _ _) (by rw[y];exact aI hlp 'u');have I3:=FO (t':=s2.toks+1) I2 (by rw[t];exact eV) sb he (FJ yZ hd (w.put _ NM) xI);rw[TX _ (TN b C L.2)] at I3;refine J _ i _ o I3 (NA.ea.trans (.putX (yj t))) (c2.putX (yj t)) ⟨b++[(kk,d)],C++[v2],by rw[cK];rfl,?_,by simp[S],?_⟩ rfl λ_ _=>rfl
     ·rw[rO,cK,List.zip_append (by rw[ar];exact S)];rfl
     ·rw[cK];exact(dA2.append (.cons r2 .nil)).mv (Ea.putX (yj t)).mv
    ·rw[Kf L] at J;exact J.elim
end
def Inv.swapK(I:L2.Inv X YP σ H s)(e:H a=JU u0)(h:(∃i,u0=.dK i) \/ ∃o i,u0=.frz o (.dK i))(t:∀o u,X.H₀ a≠JU (.frz o u))(j:o0 X.prog X.w (upd H a u1) s.heap a u1):L2.Inv X YP σ (upd H a u1) s:=by
 have l:∀{b:af}{d:List V},H b=JU (.tup d)->b≠a:=λ{b d}z q=>by
  rw[q,e] at z;rcases h with⟨_,rfl⟩|⟨_,_,rfl⟩<;>cases z
 have f:∀{b:af},H b=J9->upd H a u1 b=J9:=λ{b}z=>by rw[qi (bN (sQ e z))];exact z
 refine⟨I.ok,I.os,I.bare,⟨I.base.keep,I.base.slot,λb o g n v=>f (I.base.free b o g n v),I.base.there,λb d g=>?_,λb o u g=>?_,λb y g=>?_⟩,I.loc,I.cell,f I.free,λx c g=>f (I.freeC x c g),λp A=>let ⟨g1,g2,g3⟩:=I.pin p A;⟨g1,f g2,g3⟩,λb u g=>?_,I.len,I.tk⟩
 ·have z:=I.base.tups b d g;rw[qi (l z)];exact z
 ·have n:b≠a:=λq=>t o u (q▸g);rw[qi n];exact I.base.frzs b o u g
 ·obtain⟨m,z⟩:=I.base.tbls b y g;refine⟨m,?_⟩;rw[qi (λq=>?_)];exact z;rw[q,e] at z;rcases h with⟨_,rfl⟩|⟨_,_,rfl⟩<;>cases z
 ·by_cases r:b=a
  ·subst r;rw[rO] at g;cases g;exact j
  ·rw[qi r] at g;refine(I.hok b u g).stay (λ_ _ _ z=>z) (λB z=>?_) λB d z=>?_
   ·rw[qi (λq=>?_)];exact z;rw[q,e] at z;rcases h with⟨_,rfl⟩|⟨_,_,rfl⟩<;>cases z
   ·rw[qi (l z)];exact z
def Inv.nofrz(I:L2.Inv X YP σ H s)(e:H a=JU (.dK d_)):∀o u,X.H₀ a≠JU (.frz o u):=λo u z=>by
 have:=I.base.frzs a o u z;rw[e] at this;cases this
def Inv.frzK(I:L2.Inv X YP σ H s)(e:H a=JU (.dK d_)):∃o,L2.Inv X YP σ (upd H a (.frz o (.dK d_))) s:=by obtain⟨z,d,f,b,c⟩:=Fj I.hok e;obtain⟨o,h,i,g,r⟩:=id c;exact⟨o,Inv.swapK I e (.inl ⟨_,rfl⟩) (Inv.nofrz I e) ⟨g,z,d,f,b,c⟩⟩
def Inv.thawK(I:L2.Inv X YP σ H s)(e:H a=JU (.frz o (.dK d_)))(c:∀o u,X.H₀ a≠JU (.frz o u)):L2.Inv X YP σ (upd H a (.dK d_)) s:=by obtain⟨z,d,f,b,g⟩:=CO I.hok (.inr ⟨o,e⟩);exact Inv.swapK I e (.inr ⟨_,_,rfl⟩) c ⟨z,d,f,b,g⟩
def UX{K:ak}{H:Hp}{XV μ:List af}{O:Ow}{L:af}{ps:List (DK×D)}{a:List V}{o:Obj}(c:oN K H (L::XV) μ O)(b:L∉XV)(h:H L=JU (.frz o (.dK ((ps.map λp=>kD p.1).zip a))))(d:ps.length=a.length)(q:oO K H (L::XV) μ (ps.map (·.2)) a):
  J5 K H XV μ (.map (ET (ps.map tP)) (EU (ps.map tP))) (.ref L):=by rw[LX,LW];exact⟨L,a,rfl,⟨o,by rw[bw];exact h⟩,b,λm=>c.nh L m 'k',by rw[ar];exact d,q.mv .unhide⟩
def Ah(ext:Nat)(it0:DI)(g:Tg)(ts:List DT)(cs:List Cl)(tk tv:DE):DE:=λσ O=>(BX ext it0 g ts cs (Ck tk tv) σ O).bnd λJ7 O1=>.ok (.map (ET J7) (EU J7)) O1
section
def Qc{i j f b:bi}{c:List bi}{h:List cL}{a:dS}{l:Pos}{ext:List aA}{g:Tg}{ts:List DT}{m:List Cl}{n o:DE}
  (p:∀cells C s H d,PG (qO X (X.N++ext) a cells C s H d) f (g.rd X.K)/\cy (λe t=>rX (qO X (X.N++ext) a cells C s H d) qE e t) c ts/\o7 (qO X (X.N++ext) a cells C s H d) h m/\PD (qO X (X.N++ext) a cells C s H d) qE i n/\PD (qO X (X.N++ext) a cells C s H d) qE j o) {Z:af->Hp->L2.St->Hp->List af->Prop} (cells Cn s H d):
  PG (qO X (X.N++ext) a cells Cn s H d) f (g.rd X.K)/\cy (λe t=>rX (qO X (X.N++ext) a cells Cn s H d) qE e t) c ts/\o7 (qO X (X.N++ext) a cells Cn s H d) h m/\∀A XV k,(⟨f,b,c,0⟩::h:List cL)[k]?=J9->AY (qO X (X.N++ext) a cells Cn s H d) (Z A H) (Eb i j) A XV ((Eb i j).ex (⟨f,b,c,0⟩::h) a l) (⟨f,b,c,0⟩::h) (Ck n o) k []:=
 let ⟨h1,h2,h3,h4,h5⟩:=p cells Cn s H d
 ⟨h1,h2,h3,λ_ _ _ q=>zcq rfl h4 h5 q⟩
def zeq(ext:List aA)(G:X.calm=Ka)(M:ud X Ex tg iter it0)(P:yJ X.env.scope scope (X.N++ext) (qM (⟨it0,g,ts⟩::cs)))
  (S:∀cells C s H a,PG (qO X (X.N++ext) scope cells C s H a) tg (g.rd X.K)/\cy (λe t=>rX (qO X (X.N++ext) scope cells C s H a) qE e t) ifs ts/\o7 (qO X (X.N++ext) scope cells C s H a) gs cs/\PD (qO X (X.N++ext) scope cells C s H a) qE ke tk/\PD (qO X (X.N++ext) scope cells C s H a) qE ve tv)
  (U:∀x,cb iter X.env x=pure x:=by intro _;rfl):PD X Ex (.DictComp ke ve (⟨tg,iter,ifs,0⟩::gs) scope pos) (Ah ext.length it0 g ts cs tk tv):=by
 refine⟨?_⟩;rintro j s a_ H Q I ⟨f,μ,Y,O,Z,l,q⟩;show aq _ _ (comprehension (.DictComp ke ve (⟨tg,iter,ifs,0⟩::gs) scope pos) scope X.env _ newDict Kb (eval iter X.env)) _ _ s;unfold Ah at q;refine FZ (T7 ke ve) G M P (λcells Cn s H a _ _ _=>Qc S cells Cn s H a) U I Z l ?_;cases h:BX ext.length it0 g ts cs (Ck tk tv) Y O with
 |bad=>rw[h] at q;exact q
 |exc c' O'=>rw[h] at q;exact q
 | ok J7 O'=>
  rw[h] at q;rintro L r v w x c ⟨y,A,rfl,i,hl,dA⟩ s' C I' ns nC l1 y1 ce pn;obtain⟨m,hn⟩:=ns;have n1:L∉f:=λm=>l.ht L m w;refine⟨m,hn,λh' Bf=>?_⟩;obtain⟨o,J⟩:=Inv.frzK (Inv.bare I' Bf nC l1 y1 ce pn) i;have B:Ea L r v (upd r L (.frz o (.dK ((y.map λp=>kD p.1).zip A)))) v:=.putX (yj i);have E:=c.putX (o:=.frz o (.dK ((y.map λp=>kD p.1).zip A))) (yj i);have d:=x.ea.trans B;exact⟨.ref L,_,J,rfl,post.ok q ⟨d.pre,λb u g n ht=>d.kept b u g n (sQ g w) ht,d.fresh,d.there,d.tab⟩ E.unhide (UX E n1 rO hl (dA.mv B.mv))⟩
end
def zgf{b:l_}{a:List aA}(d:a.Perm (b.map toS))(f:b.Nodup)(g:sortedS a=Ka):a=(rH b).map toS:=by
 have i:(b.map toS).Nodup:=by
  rw[List.nodup_iff_pairwise_ne] at f ⊢;rw[gH];refine f.imp λh e=>h ?_;have e:(toS _).cps=(toS _).cps:=congrArg Str.cps e;simpa using e
 have j:(a.map (·.cps.toList)).Pairwise (· < ·):=by
  cases a with
  |nil=>exact fu
  |cons p l=>exact MH p l g (d.nodup_iff.mpr i)
 have m:a.map (·.cps.toList)=rH b:=IZ j (I_ b) λx=>by
  rw[BW,ay];constructor
  ·rintro⟨o,n,rfl⟩;obtain⟨s,q,rfl⟩:=ay.mp (d.mem_iff.mp n);exact q
  ·intro r;exact⟨toS x,d.mem_iff.mpr (ay.mpr ⟨x,r,rfl⟩),rfl⟩
 rw[<- m,bw];refine(mZ a).symm.trans (jh λo _=>?_);obtain⟨c⟩:=o;rfl
section
end
section
end
def ym(k:DK):List DK->List D->Option D
 |j::ks,d::ds=>if j=k then JU d else ym k ks ds
 |_,_=>J9
theorem Ud{K:ak}{H:Hp}{XV μ:List af}{k:DK}{d:D}:∀{a:List DK}{ds:List D}{b:List V},a.length=b.length->oO K H XV μ ds b->ym k a ds=JU d->∃v,rR ((a.map kD).zip b) (kD k)=JU v/\J5 K H XV μ d v
 |[],_,_,_,_,h=>by unfold ym at h;cases h
 |_::_,[],_,_,_,h=>by unfold ym at h;cases h
 |j::a,d'::ds,[],hl,_,_=>by cases hl
 | j::a,d'::ds,v::b,hl,dd,h=>by
  obtain⟨i,l,c,f,g⟩:=(show ∃w r,v::b=w::r/\J5 K H XV μ d' w/\oO K H XV μ ds r from dd);cases c;unfold ym at h;show ∃w,rR ((kD j,v)::(a.map kD).zip b) (kD k)=JU w/\_;by_cases e:j=k
  ·rw[Kd e] at h;cases h;exact⟨v,xx (congrArg kD e),f⟩
  ·rw[Kf e] at h;rw[xk (λz=>e (II z))];exact Ud (my hl) g h
def D9(td ty:DE):DE:=λσ O=>(td σ O).bnd λx O1=>match x with
 | .map ks ds=>(ty σ O1).bnd λy O2=>match yh y with
  | some k=>match ym k ks ds with
   |some d=>.ok d O2
   |none=>.bad
  |none=>.bad
 |_=>.bad
section
def zdR{o i:bi}{d:Pos}{m n:TE}(r:PE X o m)(t:PE X i n)(w:Cu i):PE X (.Subscript o i d) (λσ H Q=>m σ H λx f=>n σ f λy c=>∃a g k v,x=.ref a/\Rd c a (.dK g)/\y=kV k/\rR g k=JU v/\Q v c):=by intro b s σ H Q I h;refine LB ie.lookup w (qe (r b s σ H _ I h) λu A ⟨x,f,B,C,E⟩=>qe (t b A σ f _ B E) λP S ⟨y,c,p,G,a,g,k,v,J,e,L,l,M⟩=>?_);subst J L;obtain rfl:u=ef a:=C;obtain⟨z,U,Y,j,q⟩:=CO p.hok e;obtain⟨Z,N,O⟩:=pj.some_of (by rw[<- l];exact j.val k);exact⟨q.mapOf.typeIs,j9 (BI G) q.mapOf N ⟨v,c,p.tok _,O,M⟩⟩
def zgV(g:PD X Ex o td)(h:PD X Ex i ty)(j:Cu i):PD X Ex (.Subscript o i pos) (D9 td ty):=
 sJ (zdR g.out h.out j) λl L M O N H Q m n q=>rd.go m n q λd P v S U s x t r p=>by
  cases d with
  | map ks ds=>
   refine rd.go s t p λy Y w Z qg e3 u A B b=>?_;have f:=J5.ext u r;unfold J5 at f;obtain⟨a,vs,rfl,C,n1,n2,E,G⟩:=f;cases c:yh y with
   |none=>rw[c] at b;exact b.elim
   | some k=>
    rw[c] at b;dsimp only at b;cases e:ym k ks ds with
    |none=>rw[e] at b;exact b.elim
    | some d=>
     rw[e] at b;obtain⟨v,I,J⟩:=Ud E G e;exact⟨a,_,kD k,v,rfl,.inr C,K8 c B,I,post.here b A J⟩
  |_=>exact aj p
end
section
def Zq:bA "sum" = JU (.builtin "sum"):=by boot_by_name
def zcy(f:X.calm=Ka):oY X (.builtin "sum") (λxs H Q=>∃(p:af)(ns:List Int),xs=[.ref p]/\qS X.K H p (ns.map V.int)/\Q (.int ns.sum) H):=by
 intro b s t H xs v Q I r h;obtain⟨p,ns,rfl,g,q⟩:=h;obtain⟨u,rfl,i⟩:=uW r;cases i;obtain⟨w,j,l,x⟩:=I.list g;have c:=Vd j;obtain⟨a,d⟩:=c.allInts.items;have m:ns=a.toList.map (·.1):=by rw[<- c.numsOf,<- lW,<- d]
 have e:=l.isList;rw[d] at e;refine wT I (sum_intListG (I.ok.hd f) e λy A B n C=>?_);have o:preSum (numAt a) a.size=ns.sum:=by
  rw[preSum_eq,cT 'k',m]
 rw[o];exact⟨.int _,H,I.kept n,⟨_,rfl⟩,q⟩
def BE:Ow->List D->R D:=λO xs=>match xs with
 | [x]=>match sE O x with
  | some ds=>match yQ ds with
   |some ns=>.ok (.int ns.sum) O
   |none=>.bad
  |none=>.bad
 |_=>.bad
def ziF:vp X Ex (λxs H Q=>∃(p:af)(ns:List Int),xs=[.ref p]/\qS X.K H p (ns.map V.int)/\Q (.int ns.sum) H) BE:=by
 intro H a i O xs j Q c d q;unfold BE at q;split at q
 ·rename_i x;obtain⟨v,rfl,b⟩:=uz d;split at q
  ·rename_i l e;obtain⟨p,m,rfl,f,g⟩:=xg c b e;split at q
   ·rename_i ns h;refine⟨p,ns,rfl,?_,post.here q c s9⟩;rw[<- L9 g h];exact f
   ·exact aj q
  ·exact aj q
 ·exact aj q
end
section
def zbr(_:Nx ext)(b:X.calm=Ka)(c:yJ X.env.scope scope (X.N++ext) (qM (⟨it0,g,ts⟩::cs)))(d:ud X Ex tg iter it0)
  (f:∀cells C s H a,PG (qO X (X.N++ext) scope cells C s H a) tg (g.rd X.K)/\cy (λe t=>rX (qO X (X.N++ext) scope cells C s H a) qE e t) ifs ts/\o7 (qO X (X.N++ext) scope cells C s H a) gs cs/\PD (qO X (X.N++ext) scope cells C s H a) qE ke tk/\PD (qO X (X.N++ext) scope cells C s H a) qE ve tv)
  (h:ext.length=k:=by rfl) (i:∀x,cb iter X.env x=pure x:=by intro _;rfl):PD X Ex (.DictComp ke ve (⟨tg,iter,ifs,0⟩::gs) scope pos) (Ah k it0 g ts cs tk tv):=h▸zeq ext b d c f i
end
end DL
namespace DL
open PySem L2
open PyProof.Rows (AllBare)
structure zlw(Cl:Nat->ae)(P:aU)(w:be)(K:ak)(mg:aA->Option ae)(base:aX)(x:aA)(k n:Nat)(Pt:af)(F:qx):Prop where
 ex:∃f fd ps,mg x=JU (.ref f)/\cU K (.ref f)=Ka/\Binds K fd ps []/\o5 P w K mg base (P8 P w Cl) k f fd ps (AN K (Xk Cl) n Pt F)
structure BC(K:ak)(mg:aA->Option ae)(x:aA)(st:eO)(c:af):Prop where
 ex:∃f fd,mg x=JU (.ref f)/\L2.Fun K x x st f fd/\fd.code=.ref c
def vn(Pt iT n:Nat)(F:qx)(t:DA):DE:=λσ O=>match σ[iT]? with
 |some (JU (.tab p))=>if p=Pt then n_ n F t σ O else .bad
 |_=>.bad
structure Ky where
 params:jB
 body:bi
 scope:dS
 tE:DE
def ZM(X:Cx)(L:Ky)(c:af)(ct:ae):Obj:={ cls:=.type "function",data:=.func (ez "<lambda>" (X.env.qual ++ "<lambda>") L.params L.body L.scope (sO X.env.cells L.scope.names []) ((X.mg "__name__").getD .none) (.ref c) ct) }
def pD(X:Cx)(L:Ky)(H:Hp)(a:af):Prop:=∃c φ ct,H a=JU (.ext λh=>h.get? a=JU (ZM X L c ct))/\H c=JU (.ext φ)/\∀h:aX,φ h->∃q,h.CodeRec (.ref c) q
structure znd(Cl:Nat->ae)(X:Cx)(k:Nat)(L:Ky):Prop where
 ls:zdi X.env.scope L.scope
 df:defaultsOf L.params X.env=([],[])
 bl:∀(name qual:aA)(cl:List (aA×af))(pm cd ct:ae),bindArgs (ez name qual L.params L.body L.scope cl pm cd ct) ⟨[],[]⟩=pure []
 E:∀(q:aA)(lam:af)(cd:ae)(cl:List (aA×af))(A:bD)(outer:List Env)(s:ai)(H:Hp)(E:XK),oW k (A.deeper (yO q L.scope s.heap.objs.size lam cd cl))->PD (cxL (P8 X.prog X.w Cl) X.prog X.w X.K X.mg X.base X.N (yO q L.scope s.heap.objs.size lam cd cl) A outer s H E) (Xk Cl E) L.body L.tE
section
def pD.ext(h:pD X L H a)(x:Ext H [] H' []):pD X L H' a:=by obtain⟨c,b,d,e,f,g⟩:=h;exact⟨c,b,d,x.keep _ _ e 'k',x.keep _ _ f 'k',g⟩
end
structure KE(X:Cx)(H0:Hp)(l:af)(ls:List Ky)(as:List af)(H:Hp):Prop where
 nl:H0 l=J9
 ea:Ea l H0 [] H []
 at_:H l=JU (.lst (as.map V.ref))
 lam:cy (λL a=>pD X L H a) ls as
 nd:as.Nodup
def KE.ext(b:KE X H0 l ls as H)(μ:List af):Ext H0 μ H μ:=
 ⟨⟨[],by simp⟩,λc o h _ a=>b.ea.kept c o h 'k' (sQ h b.nl) a,λ_ m=>.inl m,b.ea.there,b.ea.tab⟩
def KE.cells(b:KE X H0 l ls as H)(c:oN K H0 XV μ O):oN K H XV μ O:=by refine⟨c.len,c.nd,c.nh,λa m=>b.ea.there a (c.ht a m),λk a e=>?_⟩;obtain⟨f,g,h,d,i⟩:=c.at_ k a e;exact⟨f,g,h,b.ea.kept a _ d 'k' (sQ d b.nl) (by intro j z;cases z),i.ext (b.ext μ)⟩
def oP.take(e:oP K H XV μ σ a_)(n:Nat):oP K H XV μ (σ.take n) (a_.take n):=
 ⟨by simp[e.len],λi d h=>by
  rw[iq] at h;split at h
  ·rename_i a;obtain⟨v,b,c⟩:=e.at_ i d h;exact⟨v,by rw[iq,Kd a];exact b,c⟩
  ·cases h⟩
def oP.drop(e:oP K H XV μ σ a_)(i:Nat):oP K H XV μ (σ.set i J9) a_:=
 ⟨by simp[e.len],λj d h=>by
  by_cases a:i=j
  ·subst a;by_cases b:i<σ.length
   ·rw[bU b] at h;cases h
   ·rw[aP.mpr (by simp;lia)] at h;cases h
  ·rw[bg a] at h;exact e.at_ j d h⟩
section
end
def pD.mono(h:pD X L H a)(k:∀b d,H b=JU (.ext d)->H' b=JU (.ext d)):pD X L H' a:=by obtain⟨c,d,e,f,g,i⟩:=h;exact⟨c,d,e,k _ _ f,k _ _ g,i⟩
end DL
namespace DL
open PySem L2 PySem.Spec PyProof.Rows
open Sem (wp)
section
end
section
end
end DL
namespace DL
open PySem L2 PySem.Spec PyProof.Rows
open Sem (wp)
open AutoSeq1 (wpAny_loadPart')
section
end
end DL
namespace DL
open PySem L2 PySem.Spec PyProof.Rows
section
end
end DL
namespace DL
open PySem L2
section
variable{Ex:Nat->Hp->Prop}
def oR.seq(q:oR Ex K H XV μ (qd t u σ O) E):oR Ex K H XV μ (t σ O) { E with nx:=λf H'=>NO Ex K u E f H' }:=by
 unfold qd at q;cases e:t σ O with
 | nx σ' O'=>
  rw[e] at q;exact λi H' g h a b=>⟨XV,g,σ',O',a,b,q.ext h⟩
 |rt d O'=>rw[e] at q;exact q
 |bk σ' O'=>rw[e] at q;exact q
 |ct σ' O'=>rw[e] at q;exact q
 |exc c O'=>rw[e] at q;exact q
 |bad=>rw[e] at q;exact q
end
end DL
namespace DL
open PySem L2 PySem.Spec PyProof.Rows
noncomputable def Q_:List ae->List Int->Bool
 |[],[]=>Ka
 |.int i _::vs,k::ks=>i==k&&Q_ vs ks
 |_,_=>Kb
def XC(o:Obj)(ks:List Int):Bool:=(match o.cls with|.type n=>n == "tuple"|_=>Kb)&&o.dict.isNone&&(match o.data with|.seq e_ _=>Q_ e_.toList ks&&decide (e_.size<=1000)|_=>Kb)
structure zn7(K:ak)(mg:aA->Option ae)(x:aA)(ks:List Int):Prop where
 ex:∃e o,mg x=JU (.ref e)/\K.lookup e=JU o/\XC o ks=Ka
section
end
end DL
namespace DL
open PySem L2 PyProof.Rows
def AL:List D->Option (List l_)
 |[]=>JU []
 | .tup ds::r=>match v_ ds,AL r with
  |some ks,JU t=>JU (ks::t)
  |_,_=>J9
 |_::_=>J9
def D2(x:l_):List l_->List l_
 |[]=>[x]
 |y::l=>if y<x then y::D2 x l else x::y::l
def Cw(l:List l_):List l_:=l.foldr D2 []
def toT(ks:l_):D:=.tup (ks.map .str)
def Fh:Ow->List D->R D:=λO xs=>match xs with
 | [x]=>match sE O x with
  | some ds=>match AL ds with
   |some rS=>if (2<=rS.length->(rS.all λks=>!ks.isEmpty)=Ka)/\rS.length<=4000000 then .ok (.lst ((Cw rS).map toT)) O else .bad
   |none=>.bad
  |none=>.bad
 |_=>.bad
abbrev yH(a b:l_):Prop:=¬ b<a
def yH.trans{a b c:l_}(g:yH a b)(d:yH b c):yH a c:=λh=>by
 by_cases e:b<a
 ·exact g e
 ·by_cases f:a<b
  ·exact d (TS.llt_trans h f)
  ·rw[TS.llt_total f e] at h;exact d h
theorem MC(x:l_):∀l,(D2 x l).Perm (x::l)
 |[]=>fG _
 | y::l=>by
  unfold D2;split
  ·exact((MC x l).cons y).trans (List.Perm.swap x y l)
  ·exact fG _
theorem MS:∀l,(Cw l).Perm l
 |[]=>fG _
 |x::l=>(MC x (Cw l)).trans ((MS l).cons x)
theorem Tw(x:l_):∀l,l.Pairwise yH->(D2 x l).Pairwise yH
 |[],_=>kC _ _
 | y::l,h=>by
  unfold D2;have a:=cg.mp h;split
  ·rename_i c;refine cg.mpr ⟨λz hz=>?_,Tw x l a.2⟩;rcases am.mp ((MC x l).mem_iff.mp hz) with rfl|hz
   ·exact λd=>TS.llt_irrefl _ (TS.llt_trans d c)
   ·exact a.1 z hz
  ·rename_i b;refine cg.mpr ⟨λz hz=>?_,h⟩;rcases am.mp hz with rfl|hz
   ·exact b
   ·exact yH.trans b (a.1 z hz)
theorem Ui:∀l,(Cw l).Pairwise yH
 |[]=>fu
 |x::l=>Tw x _ (Ui l)
theorem UN:∀{a b:List l_},a.Pairwise yH->b.Pairwise yH->a.Perm b->a=b
 |[],b,_,_,p=>p.nil_eq
 |x::a,[],_,_,p=>absurd p.symm.nil_eq 'k'
 | x::a,y::b,ha,hb,p=>by
  have c:=cg.mp ha;have d:=cg.mp hb;have e:x=y:=by
   have f:yH y x:=by
    rcases am.mp (p.mem_iff.mp al) with h|h
    ·rw[h];exact TS.llt_irrefl _
    ·exact d.1 x h
   have g:yH x y:=by
    rcases am.mp (p.mem_iff.mpr al) with h|h
    ·rw[h];exact TS.llt_irrefl _
    ·exact c.1 y h
   exact TS.llt_total f g
  subst e;rw[UN c.2 d.2 (List.Perm.cons_inv p)]
def BD{α:Type}(R:V->α->Prop):List V->List α->Prop
 |[],[]=>True
 |v::vs,k::ks=>R v k/\BD R vs ks
 |_,_=>False
def Qq(K:ak)(H:Hp)(v:V)(ks:l_):Prop:=∃t,v=.ref t/\sH K H t (ks.map λcs=>V.str ⟨cs.toArray⟩)
def vT:ae->V
 |.ref t=>.ref t
 |_=>.non
theorem ME:∀{a:l_}{b:List ae},oQ (a.map λc=>V.str ⟨c.toArray⟩) b->TS.allS b=JU a
 |[],_,.nil=>rfl
 | k::a,u::us,.cons r h=>by
  obtain⟨d,rfl⟩:=r;unfold TS.allS;rw[ME h];rfl
section
variable{X:Cx}{Ex:Nat->Hp->Prop}{H:Hp}{XV μ:List af}
def QX(K:ak):List V->Hp->VK->Prop:=λxs H Q=>∃p vs rS,∃R:V->l_->Prop,xs=[.ref p]/\qS K H p vs/\BD R vs rS/\(∀v k,R v k->Qq K H v k/\(2<=vs.length->k≠[]))/\vs.length<=4000000/\∀l sv Bb,BD R sv Bb->Bb.Perm rS->Bb.Pairwise yH->H l=J9->Q (.ref l) (upd H l (.lst sv))
theorem Sq{b:List (af×Obj)}{σ:L2.St}{s:ai}(I:L2.Inv X b σ H s){R:V->l_->Prop}{B:Prop}(f:∀v k,R v k->Qq X.K H v k/\(B->k≠[])):∀{c:List V}{d:List l_}{a:List ae},BD R c d->oQ c a->a.map (TS.keyT s.heap)=d/\∀u∈a,R (vT u) (TS.keyT s.heap u)/\RelV (vT u) u/\∃i,TS.TupS s.heap u i/\(B->i≠[])
 |[],[],_,_,.nil=>⟨rfl,λ_ h=>by cases h⟩
 |[],_::_,_,h,_=>h.elim
 |v::c,[],_,h,_=>h.elim
 | v::c,k::d,u::us,⟨h1,h2⟩,.cons r hv=>by
  obtain⟨e,p⟩:=Sq I f h2 hv;obtain⟨⟨t,rfl,q⟩,w⟩:=f v k h1;cases r;obtain⟨a,j,⟨o,g,x,n,l⟩,_⟩:=I.tuple q;have y:TS.TupS s.heap (.ref t) k:=⟨t,o,a.toArray,n,rfl,g,x,l,by simpa using ME j⟩;have m:TS.keyT s.heap (.ref t)=k:=by
   show((match s.heap.get? t with|some o=>(match o.data with|.seq a _=>TS.allS a.toList|_=>J9)|none=>J9):Option _).getD []=_;rw[g];dsimp only;rw[l];dsimp only;rw[show TS.allS a.toArray.toList=JU k from by simpa using ME j];rfl
  refine⟨by rw[bH,m,e],λu hu=>?_⟩;rcases am.mp hu with rfl|hu
  ·exact⟨by rw[m];exact h1,rfl,k,y,w⟩
  ·exact p u hu
theorem Tq{R:V->l_->Prop}{f:ae->l_}:∀{l:List ae},(∀u∈l,R (vT u) (f u))->BD R (l.map vT) (l.map f)
 |[],_=>trivial
 |u::l,h=>⟨h u al,Tq λv a=>h v (ag _ a)⟩
theorem Ue:∀{l:List ae},(∀u∈l,RelV (vT u) u)->oQ (l.map vT) l
 |[],_=>.nil
 |u::l,h=>.cons (h u al) (Ue λv a=>h v (ag _ a))
def zc6:oY X (.builtin "sorted") (QX X.K):=by intro f s E H G J Q I r h;obtain⟨p,L,M,R,rfl,l,m,n,o,q⟩:=h;obtain⟨u,rfl,t⟩:=uW r;cases t;obtain⟨g,i,w,N⟩:=I.list l;obtain⟨x,c⟩:=Sq I n m i;have b:=i.length.symm;refine TS.sorted_tups w.isList (λv y=>let ⟨ks,k1,k2⟩:=(c v y).2.2;⟨ks,k1,λz=>k2 'd'⟩) 'd' λa d A=>?_;obtain⟨e,B⟩:=sortedAll_at s.heap g a;have C:=I.hok.fresh (fi _);have j:∀u∈a.toList,u∈g:=λu h=>d.mem_iff.mp h;refine⟨.ref _,_,I.laid (λ_ _ z=>sortedAll_old z) (fi _) ?_,rfl,q _ _ _ (Tq λu h=>(c u (j u h)).1) (by rw[<- x];exact d.map _) (gH.mpr A) C⟩;refine⟨?_,a.toList,e,Ue λu h=>(c u (j u h)).2.1,by rw[B]⟩;rw[ar,d.length_eq,b];exact aI o 'u'
theorem Tc:∀{ds:List D}{a:l_},v_ ds=JU a->ds=a.map D.str
 |[],a,h=>by cases h;rfl
 | d::ds,a,h=>by
  cases d with
  | str cs=>
   unfold v_ at h;cases e:v_ ds with
   |none=>rw[e] at h;cases h
   |some r=>rw[e] at h;cases h;rw[Tc e];rfl
  |_=>cases h
theorem Ts:∀{ds:List D}{a:List l_},AL ds=JU a->ds.length=a.length
 |[],a,h=>by cases h;rfl
 | d::ds,a,h=>by
  cases d with
  | tup xs=>
   unfold AL at h;split at h
   ·rename_i c t e b;cases h;rw[aV,aV,Ts b]
   ·cases h
  |_=>cases h
theorem R_{K:ak}{B:Prop}:∀{ds:List D}{b:List V}{a:List l_},oO K H XV μ ds b->AL ds=JU a->(∀k∈a,B->k≠[])->BD (λv k=>J5 K H XV μ (toT k) v/\(B->k≠[])) b a
 | [],b,a,h,e,_=>by
  cases e;subst h;trivial
 | d::ds,b,a,h,e,qR=>by
  obtain⟨v,r,rfl,c,f⟩:=h;cases d with
  | tup xs=>
   unfold AL at e;split at e
   ·rename_i g t i j;cases e;refine⟨⟨?_,qR g al⟩,R_ f j λk l=>qR k (ag _ l)⟩;have:=Tc i;unfold toT;rw[<- this];exact c
   ·cases e
  |_=>cases e
theorem T9{α:Type}{R:V->α->Prop}:∀{a:List V}{b:List α},BD R a b->a.length=b.length
 |[],[],_=>rfl
 |[],_::_,h=>h.elim
 |_::_,[],h=>h.elim
 |_::_,_::_,h=>by rw[aV,aV,T9 h.2]
theorem Uo{K:ak}{B:Prop}:∀{a:List V}{b:List l_},BD (λv k=>J5 K H XV μ (toT k) v/\(B->k≠[])) a b->oO K H XV μ (b.map toT) a
 |[],[],_=>by unfold oO;rfl
 |[],_::_,h=>h.elim
 |v::a,[],h=>h.elim
 | v::a,k::b,h=>by
  exact⟨v,a,rfl,h.1.1,Uo h.2⟩
def zhf:vp X Ex (QX X.K) Fh:=by
 intro H XV μ O E G Q c d q;unfold Fh at q;split at q
 ·rename_i x;obtain⟨v,rfl,o⟩:=uz d;split at q
  ·rename_i I e;obtain⟨p,f,rfl,r,g⟩:=xg c o e;split at q
   ·rename_i a h;obtain⟨⟨s,i⟩,q⟩:=post.ite q;have b:f.length=a.length:=by rw[<- g.length,Ts h]
    have u:∀k∈a,2<=f.length->k≠[]:=λk w i e=>by
     have:=aD.mp (s 'd') k w;rw[e] at this;cases this
    have j:=R_ g h u;refine⟨p,f,a,_,rfl,r,j,λv k m=>⟨?_,m.2⟩,?_,λl J L y A B b=>?_⟩
    ·obtain⟨t,M,rfl,n,C⟩:=BO m.1 rfl;have:=IM C (strL_map k);rw[this] at n;exact⟨t,rfl,n⟩
    ·rw[T9 j];exact i
    ·have e:=UN B (Ui a) (A.trans (MS a).symm);subst e;exact post.ok q (.laid b) (c.laid b) (J5.newL c b (Uo y))
   ·exact aj q
  ·exact aj q
 ·exact aj q
end
end DL
namespace DL
open PySem L2
open PyProof.Rows (AllBare)
section
variable{prog:aU}{w:be}{A:bD}{s:ai}{R:Result->ai->Prop}
def zeX(j:A.depth<recursionLimit)
  (l:s.heap.get? lam=JU { cls:=.type "function",data:=.func (ez name qual params body scope cl pm cd ct) }) (m:s.heap.CodeRec cd q) (n:scope.isCoroutine=Kb) (p:scope.isGenerator=Kb) (r:scope.kind=.function) (t:∀x∈scope.names,x.2 ≠ .cell) (B:scope.names.lookup x=JU .local)
  (C:bindArgs (ez name qual params body scope cl pm cd ct) ⟨[u],[]⟩=pure [(x,u)]) (E:s.heap.NoLimit)
  (h:∀a f,0<f->a.Ns s.heap.objs.size (λy=>[(x,u)].lookup y)->(∀b o,s.heap.get? b=JU o->a.get? b=JU o)->
   aq (av prog w) (A.deeper (yO q scope s.heap.objs.size lam cd cl)) (eval body (yO q scope s.heap.objs.size lam cd cl)) (λv G=>R (.ok (.ret v)) G) (λ_ _=>False) { s with heap:=a,toks:=f }):
  codeAny (av prog w) A (.call (.ref lam) ⟨[u],[]⟩) R s:=by
 refine i3 ?_;show aq _ A.in1 (callAny (.ref lam) ⟨[u],[]⟩) _ _ s;refine aa (wpAny_load l ?_);obtain⟨c,O,P,Q,H,I,d,J⟩:=m;subst H;simp only[callFunction,n,p];refine aa (bV I d J (aa (ah ?_)));rw[C];refine aa (ah (aa (wpAny_newFunctionEnv t (λy L=>?_) (λg M N=>?_) r)))
 ·have e:y=(x,u):=⇑L
  rw[e];exact B
 have i:∀b o,s.heap.get? b=JU o->g.get? b=JU o:=λb o e=>N.extBut b o (bo (aG e)) (ab _ e);refine aa (wpAny_enterFrame (E.keeps i) j (ah ⟨rfl,?_⟩));exact PySem.W.kla_codeExpr (cG (h g _ (dq _) M i) (λ_ _ z=>z) λ_ _ z=>z.elim)
end
noncomputable def Hw(P:aU)(w:be)(K:ak)(mg:aA->Option ae)(base:aX)(N:List aA)(env:Env)(A:bD)(outer:List Env)(s:ai)(H:Hp):Cx where
 prog:=P
 w:=w
 K:=K
 mg:=mg
 base:=base
 A:=A.deeper env
 N:=N
 s₀:=s
 H₀:=H
 env:=env
 outer:=outer
 stack:=env::outer
 ex:=[]
 calm:=Ka
 fn:=λ_=>Kb
 pn:=[]
 xe:=λ_ _=>False
structure QQ(out sc:dS)(x:aA):Prop where
 kind:sc.kind=.function
 co:sc.isCoroutine=Kb
 gen:sc.isGenerator=Kb
 nd:(sc.names.map (·.1)).Nodup
 cell:∀y∈sc.names,y.2 ≠ .cell
 one:sc.names.lookup x=JU .local
 loc:∀y∈sc.names,y.2=.local->y.1=x
 frees:∀y∈sc.names,y.2=.free->out.names.lookup y.1=JU .cell\/out.names.lookup y.1=JU .free
section
def zes(f:pC P w K mg base A outer s H)(E:A.handled=J9)(G:scope.kind=.function)(B:∀y,vH scope y->scope.names.lookup y=JU .free\/y=x)(C:scope.names.lookup x=JU .local)(I:x∉N)
  (cells:∀x c,cl.lookup x=JU c->(∃v,s.heap.IsCell c v)/\H c=J9) (inj:∀x y c,cl.lookup x=JU c->cl.lookup y=JU c->x=y) (l:∀x,scope.names.lookup x=JU .free->∃c,cl.lookup x=JU c)
  (h:∀(i:Nat)x v,N[i]?=JU x->σ[i]?=JU (JU v)->scope.names.lookup x=JU .free->∃u c,RelV v u/\cl.lookup x=JU c/\s.heap.IsCell c (JU u)) (m:σ.length=N.length) (J:RelV v u)
  (L:h'.Ns s.heap.objs.size (λy=>[(x,u)].lookup y)) (kp:∀b o,s.heap.get? b=JU o->h'.get? b=JU o) (M:0<tk):
  L2.Inv (Hw P w K mg base (N++[x]) (yO q scope s.heap.objs.size lam cd cl) A outer s H) [] (σ++[JU v]) H { s with heap:=h',toks:=tk }:=by
 have a:∀{c:af}{v:Option ae},s.heap.IsCell c v->h'.IsCell c v:=λ{c v}⟨o,ho,r⟩=>⟨o,kp c o ho,r⟩;have n:∀b:af,b∉(Hw P w K mg base (N++[x]) (yO q scope s.heap.objs.size lam cd cl) A outer s H).ex:=λb z=>absurd (show b∈([]:List af) from z) 'k';refine⟨⟨f.mod,G,rfl,rfl,aw _,inj,λy O=>?_,λy c z _=>absurd (show Kb=Ka from z) 'u',λ_=>E,lF f.frames,.inr ⟨rfl,rfl⟩,λb z=>absurd z (n b),f.bs,f.bsz,λb _ _=>n b,λb z=>absurd z (n b),f.funs,f.frf⟩,
  rfl,f.bare,Un.kept kp,⟨_,L,λi y Q d j S=>?_⟩,λy c g=>?_,f.hok.fresh (aw _),λy c g=>(cells y c g).2,λp U=>absurd (show p∈([]:List (af×Obj)) from U) 'k',f.hok.kept kp,by show(σ++[JU v]).length=(N++[x]).length;simp[m],M⟩
 ·have t:scope.names.lookup y=JU .cell\/scope.names.lookup y=JU .free:=O;rcases B y (t.elim (λz=>.inr (.inl z)) λz=>.inr (.inr z)) with z|z
  ·exact l y z
  ·rw[z,C] at t;rcases t with z|z<;>cases z
 ·have d:(N++[x])[i]?=JU y:=d;by_cases Y:i<N.length
  ·rw[aH Y] at d;rw[aH 'd'] at j;rcases B y S with z|z
   ·obtain⟨u,c,r,Z,g5⟩:=h i y Q d j z;exact⟨u,r,.inr ⟨.inr z,c,Z,a g5⟩⟩
   ·rw[z] at d;exact absurd (aJ d) I
  ·rw[bj 'd'] at d j;have e:i-N.length=0:=by
    have:=(ao.mp d).1;simp at this;lia
   rw[e] at d;rw[show i-σ.length=0 by lia] at j;cases d;cases j;exact⟨u,J,.inl ⟨C,by simp[fE]⟩⟩
 ·obtain⟨⟨v,z⟩,_⟩:=cells y c g;exact⟨v,a z⟩
def Zc(d:oW (k+1) A)(f:pC P w K mg base A outer s H)
  (m:s.heap.get? lam=JU { cls:=.type "function",data:=.func (ez name qual params body scope cl pm cd ct) }) (n:s.heap.CodeRec cd q) (p:scope.isCoroutine=Kb) (r:scope.isGenerator=Kb) (j:scope.kind=.function) (B:∀x∈scope.names,x.2 ≠ .cell)
  (C:bindArgs (ez name qual params body scope cl pm cd ct) ⟨[u],[]⟩=pure [(x,u)]) (E:∀y,vH scope y->scope.names.lookup y=JU .free\/y=x) (l:scope.names.lookup x=JU .local) (G:x∉N)
  (cells:∀x c,cl.lookup x=JU c->(∃v,s.heap.IsCell c v)/\H c=J9) (inj:∀x y c,cl.lookup x=JU c->cl.lookup y=JU c->x=y) (g:∀x,scope.names.lookup x=JU .free->∃c,cl.lookup x=JU c)
  (a:∀(i:Nat)x v,N[i]?=JU x->σ[i]?=JU (JU v)->scope.names.lookup x=JU .free->∃u c,RelV v u/\cl.lookup x=JU c/\s.heap.IsCell c (JU u)) (h:σ.length=N.length) (I:RelV v u)
  (L:oW k (A.deeper (yO q scope s.heap.objs.size lam cd cl))->PD (Hw P w K mg base (N++[x]) (yO q scope s.heap.objs.size lam cd cl) A outer s H) qE body t)
  (M:oP K H XV μ P_ (σ++[JU v])) (S:oN K H XV μ O) (U:rP qE K H XV μ (t P_ O) Q):codeAny (av P w) A (.call (.ref lam) ⟨[u],[]⟩) (CR yI outer P w H s Q E0) s:=by refine zeX d.depth m n p r j B l C (f.mod.nolimit.keeps λb o e=>(f.bs b o e).1) λh' tk Y Z kp=>?_;refine cG ((L (d.deeper _)).out [] _ (σ++[JU v]) H Q (zes f d.hd j E l G cells inj g a h I Z kp Y) ⟨XV,μ,P_,O,M,S,U⟩) (λv s' ⟨v',H',J,rv,z⟩=>?_) λe s' z=>z;exact⟨⟨v',H',J.os,J.bare,J.base,J.hok,rv,z⟩,J.tk⟩
end
end DL
namespace DL
open PySem L2 PyProof.Rows
def minGo(tE:DE)(σ:Sg):List D->D->Int->Ow->R D
 |[],b,_,O=>.ok b O
 | x::xs,b,k,O=>match tE (σ++[JU x]) O with
  |.ok (.int j) O1=>if j<k then minGo tE σ xs x j O1 else minGo tE σ xs b k O1
  |_=>.bad
def D0(tE:DE)(σ:Sg)(O:Ow):List D->R D
 |[]=>.bad
 | x::xs=>match tE (σ++[JU x]) O with
  |.ok (.int j) O1=>minGo tE σ xs x j O1
  |_=>.bad
def D_(Pt iT:Nat)(te tE:DE):DE:=λσ O=>match σ[iT]? with
 | some (JU (.tab p))=>if p=Pt then (te σ O).bnd λx O1=>match x with
  |.lst ds=>D0 tE σ O1 ds
  |_=>.bad else .bad
 |_=>.bad
def oP.snoc{K:ak}{H:Hp}{XV μ:List af}{σ:Sg}{a:L2.St}{d:D}{v:V}(e:oP K H XV μ σ a)(q:J5 K H XV μ d v):oP K H XV μ (σ++[JU d]) (a++[JU v]):=by
 refine⟨by simp[e.len],λi x h=>?_⟩;have j:=e.len;by_cases b:i<σ.length
 ·rw[aH b] at h;obtain⟨w,c,f⟩:=e.at_ i x h;exact⟨w,by rw[aH 'd'];exact c,f⟩
 ·rw[bj 'd'] at h;have g:i-σ.length=0:=by
   have:=(ao.mp h).1;simp at this;lia
  rw[g] at h;cases h;exact⟨v,by rw[bj 'd',show i-a.length=0 by lia];rfl,q⟩
section
variable{X:Cx}{Ex:Nat->Hp->Prop}{XV:List af}{σ:Sg}{a_:L2.St}{tE:DE}{lam cc:af}{lo:Obj}
def K3(X:Cx)(lam:af)(lo:Obj)(cc:af)(XV:List af)(σ:Sg)(a_:L2.St)(tE:DE):Prop:=
 ∀(YP:List (af×Obj))(s:ai)(H:Hp)(μ:List af)(O:Ow)(d:D)(v:V)(u:ae)(Q:VK),L2.Inv X YP a_ H s->(lam,lo)∈YP->(∃φ,H cc=JU (.ext φ)/\∀h:aX,φ h->∃q,h.CodeRec (.ref cc) q)->oP X.K H XV μ σ a_->oN X.K H XV μ O->J5 X.K H XV μ d v->RelV v u->
  rP qE X.K H XV μ (tE (σ++[JU d]) O) Q->aq (av X.prog X.w) X.A.in1 (call (.ref lam) [u]) (EP X YP a_ Q) (λ_ _=>False) s
def XQ{K:ak}{H:Hp}{μ:List af}{d:D}{O:Ow}:rP qE K H XV μ (.ok d O) (λv a=>∃b,Ext H μ a b/\oN K a XV b O/\J5 K a XV b d v):=λv f e x c r=>⟨e,x,c,r⟩
def TU{K:ak}{H H':Hp}{μ d:List af}{O:Ow}(c:oN K H XV μ O)(x:Ext H μ H' d){a:aX->Prop}(h:H cc=JU (.ext a)):H' cc=JU (.ext a):=by refine x.kept cc _ h (λm=>?_) (by intro g z;cases z);obtain⟨k,f,e⟩:=cQ.mp m;obtain⟨i,j,_,b,_⟩:=c.at_ k cc (by rw[au f,e]);rw[h] at b;cases b
variable{l:af}{vs:List V}{ds:List D}{Q:VK}{YP:List (af×Obj)}{E:ae->ai->Prop}
def Ub{a S:af}{c oI:Obj}{j:Nat}{s:ai}{H:Hp}{μ:List af}{O:Ow}{d:D}{R:ae->ae->ai->Prop}(pZ:X.calm=Ka)(hK:K3 X lam lo cc XV σ a_ tE)
  (I:L2.Inv X ((S,c)::(a,oI)::(lam,lo)::YP) a_ H s) (Ci:sY X ((S,c)::(lam,lo)::YP) H a) (hl:l≠a) (i:s.heap.IsListIter a l j) (la:LstAt X.K H XV μ l vs) (L:oO X.K H XV μ ds vs) (ev:oP X.K H XV μ σ a_) (cl:oN X.K H XV μ O) (uQ:∃M,H cc=JU (.ext M)/\∀h:aX,M h->∃q,h.CodeRec (.ref cc) q)
  (N:ds[j]?=JU d) {m:Int} {O1:Ow} (hE:tE (σ++[JU d]) O=.ok (.int m) O1)
  (h:∀(v:ae)(tk:Tok)(f:Obj)(n:ai)(H':Hp)(t:List af)(x:V),L2.Inv X ((S,c)::(a,f)::(lam,lo)::YP) a_ H' n->n.heap.IsListIter a l (j+1)->Ext H μ H' t->oN X.K H' XV t O1->RelV x v->J5 X.K H' XV t d x->R v (.int m tk) n) {E2:ae->ai->Prop}:
  aq (av X.prog X.w) X.A.in1 (pyNext (.ref a)) (λo s1=>∃v,o=JU v/\aq (av X.prog X.w) X.A.in1 (call (.ref lam) [v]) (λr y=>R v r y) (λ_ _=>False) s1) E2 s:=by
 obtain⟨g,P,pl,hz⟩:=I.list la.sq;have W:=i5 (prog:=X.prog) (w:=X.w) (A:=X.A.in1) (I.ok.hd pZ) a l hl g.toArray;have U:ds.length=g.length:=by rw[L.length,P.length]
 have hj:j<g.length:=by have:=(ao.mp N).1;lia
 refine wT I (W.item j _ _ _ ⇑hj ⟨i,pl.isList⟩ λv Y B hP yC tw qY=>?_);have hv:g[j]?=JU v:=⇑hP
 obtain⟨Z,f1,f2,f3,f4,f5⟩:=Ci;have I0:L2.Inv X ((S,c)::(lam,lo)::YP) a_ H s:=I.pins_of λp hp=>I.pin p (az _ (by
  rcases am.mp hp with rfl|hp
  ·exact .head _
  ·exact .tail _ (.tail _ hp)))
 have C:L2.Inv X ((S,c)::(lam,lo)::YP) a_ H { s with heap:=Y,toks:=B }:=I0.turned (t':=B) (it:=a) (λb o hb e=>tw b o ⇑hb e) Z f1 f3 f4 f5;obtain⟨f,OD,EX,Wm⟩:=id yC.1;have I2:L2.Inv X ((S,c)::(a,f)::(lam,lo)::YP) a_ H { s with heap:=Y,toks:=B }:=C.pins_of λp hp=>by
  rcases am.mp hp with rfl|hp
  ·exact C.pin _ (az _ (.head _))
  ·rcases am.mp hp with rfl|hp
   ·exact⟨OD,Z,f1,f2,λv z=>by rw[Wm] at z;cases z⟩
   ·exact C.pin p (az _ (.tail _ hp))
 obtain⟨x,hx,dx⟩:=L.get N;obtain⟨u,hu,ru⟩:∃u,g[j]?=JU u/\RelV x u:=P.get hx;rw[hv] at hu;cases hu;refine⟨v,rfl,cG (hK _ _ H μ O d x v (λv G=>∃J,Ext H μ G J/\oN X.K G XV J O1/\J5 X.K G XV J (.int m) v) I2 (.tail _ (.tail _ (.head _))) uQ ev cl dx ru (by rw[hE];exact XQ)) (λr y ⟨v2,H2,I3,r2,qg,x2,c2,d2⟩=>?_) λ_ _ z=>z⟩;unfold J5 at d2;subst d2;obtain⟨t2,rfl⟩:=r2;exact h v t2 f y H2 qg x I3 ⟨f,(I3.pin (a,f) (az _ (.tail _ (.head _)))).1,EX,Wm⟩ x2 c2 ru (dx.ext x2)
def ZT{a S:af}(pZ:X.calm=Ka)(hK:K3 X lam lo cc XV σ a_ tE)(hl:l≠a)(Bu:S≠a){s0:ai}:
  ∀(r j:Nat)(s:ai)(H:Hp)(μ:List af)(O:Ow)(b:D)(P:V)(n:ae)(f:Int)(m:Tok)(c:Nat)(oI:Obj),ds.length-j=r->j<=ds.length->
   L2.Inv X ((S,seqObj "list" #[n,.int f m] c)::(a,oI)::(lam,lo)::YP) a_ H s->sY X ((lam,lo)::YP) H a->sY X ((lam,lo)::YP) H S->s.heap.IsListIter a l j->LstAt X.K H XV μ l vs->oO X.K H XV μ ds vs->oP X.K H XV μ σ a_->oN X.K H XV μ O->(∃L,H cc=JU (.ext L)/\∀h:aX,L h->∃q,h.CodeRec (.ref cc) q)->
   RelV P n->J5 X.K H XV μ b P->rP Ex X.K H XV μ (minGo tE σ (ds.drop j) b f O) Q->
   codeAny (av X.prog X.w) X.A (.builtin "min.loop" ⟨[.ref a,.ref lam,.ref S],[]⟩) (λr s'=>match r with|.ok (.ret u)=>EP X YP a_ Q u s'|_=>False) s:=by
 have vU:(toString "min" ++ toString ".loop":String) = "min.loop":=by decide
 intro r
 induction r with
 | zero=>
  intro j s H μ O b P n f m c oI hr hj I t fS M la dd ev cl uQ rb db q;have hjl:j=ds.length:=by lia
  have nS:=I.pin (S,seqObj "list" #[n,.int f m] c) (az _ (.head _));obtain⟨e_,rv,pl,hz⟩:=I.list la.sq;have W:=i5 (prog:=X.prog) (w:=X.w) (A:=X.A.in1) (I.ok.hd pZ) a l hl e_.toArray;have hlen:ds.length=e_.length:=by rw[dd.length,rv.length]
  refine dD eR ?_;rw[dE bP _];show aq _ X.A.in1 (seqItems? (.ref S) >>= _) _ _ _;refine aa (cJ nS.1 rfl ?_);show aq _ X.A.in1 (tryCatch (pyNext (.ref a)) _ >>= _) _ _ _;refine aa (eC (wT I (W.done _ _ _ ⟨by rw[show e_.toArray.size=j by simp;lia];exact M,pl.isList⟩ λh' Gf tw qY=>?_)));have I0:L2.Inv X ((lam,lo)::YP) a_ H s:=I.pins_of λp hp=>I.pin p (az _ (.tail _ (.tail _ hp)));obtain⟨f0,f1,f2,f3,f4,f5⟩:=t;have I1:L2.Inv X ((lam,lo)::YP) a_ H { s with heap:=h',toks:=Gf }:=I0.turned (λb o hb e=>tw b o ⇑hb e) f0 f1 f3 f4 f5;have zY:=tw S _ ⇑Bu nS.1;have s1:=cX h' S (bG λ_=>(#[]:Array ae));obtain⟨g0,g1,g2,g3,g4,g5⟩:=fS;show aq _ X.A.in1 (updateSeq S (λ_=>#[]) >>= _) _ _ _;refine aa ?_;refine eJ zY rfl (aa (eu (ah ?_)));have C:=I1.turned (λb o hb e=>(s1.2 b hb).trans e) g0 g1 g3 g4 g5;have I3:L2.Inv X YP a_ H _:=C.pins_of λp hp=>C.pin p (az _ (.tail _ hp));rw[hjl,ny] at q;exact⟨P,H,I3,rb,post.here q cl db⟩
 | succ r ih=>
  intro j s H μ O b P n f m c oI hr hj I t fS M la dd ev cl uQ rb db q;have q9:j<ds.length:=by lia
  have nS:=I.pin (S,seqObj "list" #[n,.int f m] c) (az _ (.head _));have nI:=I.pin (a,oI) (az _ (.tail _ (.head _)));obtain⟨d,hd⟩:∃d,ds[j]?=JU d:=⟨_,au q9⟩;rw[dH q9,(ao.mp hd).2] at q;unfold minGo at q;split at q
  case h_2=>exact aj q
  rename_i g O1 hE;refine dD eR ?_;rw[dE bP _];show aq _ X.A.in1 (seqItems? (.ref S) >>= _) _ _ _;refine aa (cJ nS.1 rfl ?_);show aq _ X.A.in1 (tryCatch (pyNext (.ref a)) _ >>= _) _ _ _;have Py:sY X ((S,seqObj "list" #[n,.int f m] c)::(lam,lo)::YP) H a:=⟨t.1,t.2.1,t.2.2.1,t.2.2.2.1,t.2.2.2.2.1,λp hp=>by
   rcases aO.mp hp with hp|hp
   ·exact t.2.2.2.2.2 p (bK _ hp)
   ·rcases am.mp hp with rfl|hp
    ·exact Bu
    ·exact t.2.2.2.2.2 p (az _ hp)⟩
  refine aa (eC (cG (Ub pZ hK I Py hl M la dd ev cl uQ hd hE (R:=λv u s'=>∃tk y U c_ x,u=.int g tk/\L2.Inv X ((S,seqObj "list" #[n,.int f m] c)::(a,y)::(lam,lo)::YP) a_ U s'/\s'.heap.IsListIter a l (j+1)/\Ext H μ U c_/\oN X.K U XV c_ O1/\RelV x v/\J5 X.K U XV c_ d x)
   λv tk y s' U c_ x a1 a2 a3 a4 a5 a6=>⟨tk,y,U,c_,x,rfl,a1,a2,a3,a4,a5,a6⟩) (λo s1 ho=>?_) λ_ _ z=>z))
  obtain⟨v,rfl,zX⟩:=ho;show aq _ X.A.in1 (tryCatch (holding [v] (call (.ref lam) [v])) _ >>= _) _ _ _;refine aa (eC (bI (cG zX (λu N he=>?_) λ_ _ hF=>hF.elim)));obtain⟨B,y,G,qg,x,rfl,C,Bm,Y,Cq,rx,dx⟩:=he;have Z:=C.pin (S,seqObj "list" #[n,.int f m] c) (az _ (.head _));have NV:=C.pin (a,y) (az _ (.tail _ (.head _)));have J8:=la.mv Y.mv (hid':=XV);have z5:=dd.ext Y;have AA:=ev.ext Y;have Hd:∃L,G cc=JU (.ext L)/\∀h:aX,L h->∃q,h.CodeRec (.ref cc) q:=let ⟨L,h1,h2⟩:=uQ;⟨L,TU cl Y h1,h2⟩;have WO:sY X ((lam,lo)::YP) G a:=⟨NV.2.1,t.2⟩;have J:sY X ((lam,lo)::YP) G S:=⟨Z.2.1,fS.2⟩;have q2:=post.ext q Y;show aq _ X.A.in1 (tryCatch (holding [v,.int g B] (richCompare .Lt (.int g B) (.int f m) >>= _)) _ >>= _) _ _ _;refine aa (eC (bI (aa (CmpOf.ints_lt (λi=>if i=0 then g else f) (λi v h=>h) 0 1 _ _ _ _ _ ⟨B,rfl⟩ ⟨m,rfl⟩ ?_))));refine aa (bI (cZ ?_));refine aa (eu (ah ?_));by_cases vh:g<f
  ·have s1:=cX N.heap S (bG λ_=>#[v,.int g B]);obtain⟨c2,y0⟩:∃c2,(N.heap.update S (bG λ_=>#[v,.int g B])).get? S=JU (seqObj "list" #[v,.int g B] c2):=⟨_,get?_update_seq Z.1 λ_=>#[v,.int g B]⟩;rw[Kd vh] at q2;simp only[nT,vh,decide_true,if_true,cS,if_false];refine aa ?_;refine eJ Z.1 rfl (aa (eu ?_));rw[vU];have I3:L2.Inv X ((a,y)::(lam,lo)::YP) a_ G N:=C.pins_of λp hp=>C.pin p (az _ (.tail _ hp));have I4:L2.Inv X ((a,y)::(lam,lo)::YP) a_ G { N with heap:=N.heap.update S (bG λ_=>#[v,.int g B]),toks:=N.toks }:=I3.turned (λb o hb e=>(s1.2 b hb).trans e) J.1 J.2.1 J.2.2.2.1 J.2.2.2.2.1 (λp hp=>by
    rcases aO.mp hp with hp|hp
    ·exact J.2.2.2.2.2 p (bK _ hp)
    ·rcases am.mp hp with rfl|hp
     ·exact Bu.symm
     ·exact J.2.2.2.2.2 p (az _ hp))
   have I5:L2.Inv X ((S,seqObj "list" #[v,.int g B] c2)::(a,y)::(lam,lo)::YP) a_ G _:=I4.pins_of λp hp=>by
    rcases am.mp hp with rfl|hp
    ·exact⟨y0,Z.2.1,Z.2.2.1,Z.2.2.2.1,λv z=>nomatch z⟩
    ·exact I4.pin p (az _ hp)
   obtain⟨oq,Oy,Kc,Ox⟩:=id Bm;exact ah ⟨d7 bP _,ih (j+1) _ G qg O1 d x v g B c2 y 'd' q9 I5 WO J ⟨oq,(s1.2 a Bu.symm).trans Oy,Kc,Ox⟩ J8 z5 AA Cq Hd rx dx q2⟩
  ·rw[Kf vh] at q2;simp only[nT,vh,decide_false,cS,if_false,if_true];refine aa (eu ?_);rw[vU];exact ah ⟨d7 bP _,ih (j+1) N G qg O1 b P n f m c y 'd' q9 C WO J Bm J8 z5 AA Cq Hd rb (db.ext Y) q2⟩
def ze1{s:ai}{H:Hp}{μ:List af}{O:Ow}(pZ:X.calm=Ka)(hK:K3 X lam lo cc XV σ a_ tE)(I:L2.Inv X ((lam,lo)::YP) a_ H s)(la:LstAt X.K H XV μ l vs)(dd:oO X.K H XV μ ds vs)(ev:oP X.K H XV μ σ a_)(cl:oN X.K H XV μ O)
  (uQ:∃L,H cc=JU (.ext L)/\∀h:aX,L h->∃q,h.CodeRec (.ref cc) q) (q:rP Ex X.K H XV μ (D0 tE σ O ds) Q):aq (av X.prog X.w) X.A (call (.builtin "min") [.ref l] [(g7 "key",.ref lam)]) (EP X YP a_ Q) E s:=by
 have vU:(toString "min" ++ toString ".loop":String) = "min.loop":=by decide
 obtain⟨e_,rv,pl,hz⟩:=I.list la.sq;have Wr:=pl.isList;obtain⟨ol,zO,_⟩:=id Wr;have hll:l<s.heap.objs.size:=aG zO;cases ds with
 |nil=>exact aj q
 |cons d s_=>
 have q:rP Ex X.K H XV μ (match tE (σ++[JU d]) O with|.ok (.int j) M=>minGo tE σ s_ d j M|_=>.bad) Q:=q;split at q
 case h_2=>exact aj q
 rename_i g M hE;refine kmb_tree nB mT mU (kmb_min_key _ _) ?_;show aq _ X.A.in1 (fQ "min" ["key", "default"] 0 ⟨[],[(g7 "key",.ref lam)]⟩ >>= _) _ _ s;refine aa (iG (show fQ "min" ["key", "default"] 0 ⟨[],[(g7 "key",.ref lam)]⟩=pure [JU (.ref lam),J9] from rfl) ?_);refine aa (ah ?_);refine aa (fv Wr ?_);refine aa (hJ ?_ (bO _));rw[vU];generalize t:s.heap.objs.size=a at *;generalize OM:s.heap.push { cls:=.type "list_iterator",data:=.fields #[.ref l,.int 0 0] } = h1 at *;have hS:h1.objs.size=a+1:=by rw[<- OM,size_push',t]
 generalize hSS:h1.objs.size=S at *;have Wt:l≠a:=bo hll;have N:S≠a:=by rw[hS];exact dZ (cE _)
 have kp:∀b o,s.heap.get? b=JU o->(h1.push (seqObj "list" #[] 0)).get? b=JU o:=λb o e=>ab _ (by rw[<- OM];exact ab _ e);have gI:(h1.push (seqObj "list" #[] 0)).get? a=JU { cls:=.type "list_iterator",data:=.fields #[.ref l,.int 0 0] }:=ab _ (by rw[<- OM,<- t];exact aB _ rfl);have gS:(h1.push (seqObj "list" #[] 0)).get? S=JU (seqObj "list" #[] 0):=by rw[<- hSS];exact aB _ rfl
 have c:sY X ((lam,lo)::YP) H a:=I.fpOk (i6 t) (I.hok.fresh (i6 t));have P:sY X ((lam,lo)::YP) H S:=I.fpOk (by rw[hS,t];exact fi _) (I.hok.fresh (by rw[hS,t];exact fi _));have I1:L2.Inv X ((lam,lo)::YP) a_ H { s with heap:=h1.push (seqObj "list" #[] 0),toks:=s.toks }:=I.kept (t':=s.toks) kp;have I2:L2.Inv X ((S,seqObj "list" #[] 0)::(a,{ cls:=.type "list_iterator",data:=.fields #[.ref l,.int 0 0] })::(lam,lo)::YP) a_ H { s with heap:=h1.push (seqObj "list" #[] 0),toks:=s.toks }:=I1.pins_of λp hp=>by
  rcases am.mp hp with rfl|hp
  ·exact⟨gS,P.1,P.2.1,P.2.2.1,λv z=>nomatch z⟩
  ·rcases am.mp hp with rfl|hp
   ·exact⟨gI,c.1,c.2.1,c.2.2.1,λv z=>nomatch z⟩
   ·exact I1.pin p (az _ hp)
 refine ah ⟨d7 bP _,?_⟩;refine fM (R:=λr y=>match r with|.ok (.ret u)=>EP X YP a_ Q u y|_=>False) ?_ (λr y h=>by
  cases r with
  |error e=>exact h.elim
  |ok f=>cases f<;>first|exact h|exact h.elim)
 refine dD eR ?_;rw[dE bP _];show aq _ X.A.in1 (seqItems? (.ref _) >>= _) _ _ _;refine aa (cJ gS rfl ?_);show aq _ X.A.in1 (tryCatch (pyNext (.ref a)) _ >>= _) _ _ _;have Py:sY X ((S,seqObj "list" #[] 0)::(lam,lo)::YP) H a:=⟨c.1,c.2.1,c.2.2.1,c.2.2.2.1,c.2.2.2.2.1,λp hp=>by
  rcases aO.mp hp with hp|hp
  ·exact c.2.2.2.2.2 p (bK _ hp)
  ·rcases am.mp hp with rfl|hp
   ·exact N
   ·exact c.2.2.2.2.2 p (az _ hp)⟩
 refine aa (eC (cG (Ub pZ hK I2 Py Wt ⟨_,gI,rfl,rfl⟩ la dd ev cl uQ rfl hE (R:=λv u y=>∃tk i B G x,u=.int g tk/\L2.Inv X ((S,seqObj "list" #[] 0)::(a,i)::(lam,lo)::YP) a_ B y/\y.heap.IsListIter a l (0+1)/\Ext H μ B G/\oN X.K B XV G M/\RelV x v/\J5 X.K B XV G d x)
  λv tk i y B G x a1 a2 a3 a4 a5 a6=>⟨tk,i,B,G,x,rfl,a1,a2,a3,a4,a5,a6⟩) (λo s1 ho=>?_) λ_ _ z=>z))
 obtain⟨v,rfl,zX⟩:=ho;show aq _ X.A.in1 (tryCatch (holding [v] (call (.ref lam) [v])) _ >>= _) _ _ _;refine aa (eC (bI (cG zX (λu s2 he=>?_) λ_ _ hF=>hF.elim)));obtain⟨m,i,U,qg,x,rfl,Y,Bm,J,Cq,rx,dx⟩:=he;have C:=Y.pin (S,seqObj "list" #[] 0) (az _ (.head _));have NV:=Y.pin (a,i) (az _ (.tail _ (.head _)));have s1:=cX s2.heap S (bG λ_=>#[v,.int g m]);obtain⟨Z,y0⟩:∃Z,(s2.heap.update S (bG λ_=>#[v,.int g m])).get? S=JU (seqObj "list" #[v,.int g m] Z):=⟨_,get?_update_seq C.1 λ_=>#[v,.int g m]⟩;show aq _ X.A.in1 (updateSeq S (λ_=>#[v,.int g m]) >>= _) _ _ _;refine aa ?_;refine eJ C.1 rfl ?_;rw[vU];have n:sY X ((lam,lo)::YP) U S:=⟨C.2.1,P.2⟩;have I4:L2.Inv X ((a,i)::(lam,lo)::YP) a_ U s2:=Y.pins_of λp hp=>Y.pin p (az _ (.tail _ hp));have I5:=I4.turned (λb o hb e=>(s1.2 b hb).trans e) n.1 n.2.1 n.2.2.2.1 n.2.2.2.2.1 (λp hp=>by
  rcases aO.mp hp with hp|hp
  ·exact n.2.2.2.2.2 p (bK _ hp)
  ·rcases am.mp hp with rfl|hp
   ·exact N.symm
   ·exact n.2.2.2.2.2 p (az _ hp))
 have I6:L2.Inv X ((S,seqObj "list" #[v,.int g m] Z)::(a,i)::(lam,lo)::YP) a_ U _:=I5.pins_of λp hp=>by
  rcases am.mp hp with rfl|hp
  ·exact⟨y0,C.2.1,C.2.2.1,C.2.2.2.1,λv z=>nomatch z⟩
  ·exact I5.pin p (az _ hp)
 obtain⟨oq,Oy,Kc,Ox⟩:=id Bm;exact ah ⟨d7 bP _,ZT (ds:=d::s_) pZ hK Wt N (s0:=s) _ 1 _ U qg M d x v g m Z i rfl (kr (bO _)) I6 ⟨NV.2.1,c.2⟩ n ⟨oq,(s1.2 a N.symm).trans Oy,Kc,Ox⟩ (la.mv J.mv) (dd.ext J) (ev.ext J) Cq (let ⟨L,h1,h2⟩:=uQ;⟨L,TU cl J h1,h2⟩) rx dx (post.ext q J)⟩
def zh7(hr:oW (k+2) X.A)(pZ:X.calm=Ka)(L:yk X.mg X.base c Pt)(uP:X.env.code=.ref c)(b:QQ X.env.scope scope x)(zW:defaultsOf params X.env=([],[]))
  (DB:∀(name n:aA)(cl:List (aA×af))(pm o ct u:ae),bindArgs (ez name n params body scope cl pm o ct) ⟨[u],[]⟩=pure [(x,u)]) (Be:x∉X.N) (he:PD X Ex e te)
  (hE:∀(q:aA)(lam:af)(o:ae)(cl:List (aA×af))(A:bD)(outer:List Env)(s:ai)(H:Hp),oW k (A.deeper (yO q scope s.heap.objs.size lam o cl))->PD (Hw X.prog X.w X.K X.mg X.base (X.N++[x]) (yO q scope s.heap.objs.size lam o cl) A outer s H) qE body tE)
  (hg:Gl X "min") (hm:X.mg "min" = J9) (C:aL [e] X.env=[(Kb,eval e X.env)]:=by rfl):PD X Ex (.Call (.Name "min" pn) [e] [⟨JU (g7 "key"),.Lambda params body scope pl,kq⟩] pp) (D_ Pt iT te tE):=by
 refine⟨?_⟩;rintro YP s a_ H Q I ⟨XV,μ,σ,O,ev,c1,q⟩;obtain⟨ti,q⟩:o4 H Pt/\rP Ex X.K H XV μ ((te σ O).bnd λx f=>match x with|.lst ds=>D0 tE σ f ds|_=>.bad) Q:=by
  unfold D_ at q;split at q
  ·rename_i p hp;by_cases G:p=Pt
   ·rw[Kd G] at q;obtain⟨v,_,d⟩:=ev.at_ iT _ hp;unfold J5 at d;rw[G] at d;exact⟨d.2,q⟩
   ·rw[Kf G] at q;exact aj q
  ·exact aj q
 have J:∀{cells:List (aA×af)},(∀y∈scope.names,y.2=.free->∃c,cells.lookup y.1=JU c)->∀x c,(sO cells scope.names []).lookup x=JU c->cells.lookup x=JU c:=λ{cells}i x c e=>by
  rcases Ji _ _ (bZ e) with m|⟨m,z⟩
  ·cases m
  ·obtain⟨c',Bq⟩:=i (x,.free) m rfl;have y0:cells.lookup x=JU c':=Bq;rw[y0] at z ⊢;rw[z];rfl
 have i:∀y∈scope.names,y.2=.free->∃c,X.env.cells.lookup y.1=JU c:=λy M hf=>I.ok.has y.1 (b.frees y M hf);have Hi:∀x,scope.names.lookup x=JU .free->∃c,(sO X.env.cells scope.names []).lookup x=JU c:=λx e=>by
  have m:=Jd (cells:=X.env.cells) scope.names [] (bZ e);exact⟨_,Ao (Jz _ _ b.nd 'k' (by intro p hp;cases hp)) m⟩
 have Kj:∀x,scope.names.lookup x=JU .free->X.env.scope.names.lookup x=JU .cell\/X.env.scope.names.lookup x=JU .free:=λx e=>b.frees (x,.free) (bZ e) rfl;have yB:∀y,vH scope y->scope.names.lookup y=JU .free\/y=x:=λy M=>by
  rcases M with z|z|z
  ·exact .inr (b.loc _ (bZ z) rfl)
  ·exact absurd rfl (b.cell _ (bZ z))
  ·exact .inl z
 refine im (CS I hg hm ID ?_ 'u' 'u');refine callWith_kw ?_ (by rw[C];rfl) (by rw[C];rfl);rw[C];show aq _ _ (spliced ((Kb,eval e X.env)::backTo pp [])) _ _ s;refine l7 (qe (he.out YP s a_ H _ I (rd.go (Q1:=λP h=>∃j f a,oP X.K h XV a σ a_/\Ext H μ h a/\oN X.K h XV a f/\J5 X.K h XV a j P/\rP Ex X.K h XV a (match j with|.lst ds=>D0 tE σ f ds|_=>.bad) Q) ev c1 q λj f P h a S U Y r1 Z=>⟨j,f,a,S,U,Y,r1,Z⟩)) λu1 s1 ⟨P,h,I1,rv1,j,f,a,S,U,Y,da1,Z⟩=>?_);refine mD ?_;refine kws_cons (ZN I1 L uP (U.tab _ ti) (Vz i) zW λlam o AD h' tk H' I3 ext cells hlN Bn qK uH=>?_);refine kws_nil ?_;obtain⟨cc,φ,rfl,uQ,hφ⟩:=uH;have DR:=S.ext (ext a);have cl3:=cells XV a f Y;have q3:=post.ext Z (ext a);have WY:=da1.ext (ext a);cases j with
 | lst ds=>
  unfold J5 at WY;obtain⟨l,vs,rfl,la,dd⟩:=WY;cases rv1;have t:sY X YP H' lam:=I1.fpOk Bn hlN;have I4:L2.Inv X ((lam,_)::YP) a_ H' { s1 with heap:=h',toks:=tk }:=I3.pins_of λp hp=>by
   rcases am.mp hp with rfl|hp
   ·exact⟨qK,t.1,t.2.1,t.2.2.1,λv z=>nomatch z⟩
   ·exact I3.pin p (az _ hp)
  refine ze1 (cc:=cc) pZ ?_ I4 la dd DR cl3 ⟨φ,uQ,hφ⟩ q3;intro V1 s5 H5 yb O5 d5 v5 u5 Q5 g yY Dz DQ cl5 dx5 rx5 q5;obtain⟨φ5,Dz,Ob⟩:=Dz;obtain⟨qn,hqn⟩:=Ob _ (g.hok cc _ Dz).1;have hg5:=(g.pin _ (az _ yY)).1;refine jY (fM (Zc (μ:=yb) hr.in1 g.env0.in1 hg5 hqn b.co b.gen b.kind b.cell (DB _ _ _ _ _ _ _) yB b.one Be (z9X g Un.refl (J i)) (zei g (J i)) Hi (zcr g Un.refl (J i) Hi Kj) g.len rx5 (hE _ _ _ _ _ _ _ _) (DQ.snoc dx5) cl5 q5) λr s8 B=>?_);cases r with
  |error e=>exact B.elim
  | ok t=>
   cases t with
   |ret u=>exact g.after B
   |next=>exact aj B
   |brk=>exact aj B
   |cont=>exact aj B
 |_=>exact aj q3
end
end DL
namespace DL
open PySem L2
mutual
def nm:D->Bool
 |.map _ _=>Kb
 |.dct=>Kb
 |.exn _=>Kb
 |.lst ds=>nms ds
 |.tup ds=>nms ds
 |_=>Ka
def nms:List D->Bool
 |[]=>Ka
 |d::ds=>nm d&&nms ds
end
section
def Q4(b:H p=JU (.frz o (.dK c)))(h:Rd H a u)(d:∀c,u ≠ .dK c)(e:∀o v,u ≠ .frz o v):a≠p:=by
 rintro rfl;rcases h with h|⟨o,h⟩
 ·rw[b] at h;cases h;exact e _ _ rfl
 ·rw[b] at h;cases h;exact d _ rfl
mutual
theorem J5.hide(b:H p=JU (.frz o (.dK d_))):∀{d:D}{v:V},nm d=Ka->J5 K H XV μ d v->J5 K H (p::XV) μ d v
 |.non,_,_,h=>h
 |.bl _,_,_,h=>h
 |.int _,_,_,h=>h
 |.str _,_,_,h=>h
 | .lst ds,v,n,h=>by
  unfold J5 at h ⊢;obtain⟨a,c,r,l,q⟩:=h;refine⟨a,c,r,l.imp (λz=>⟨z.1,λm=>?_,z.2.2⟩) id,oO.hide b n q⟩;rcases am.mp m with e|m
  ·exact Q4 b z.1 (λ_ z=>nomatch z) (λ_ _ z=>nomatch z) e
  ·exact z.2.1 m
 | .tup ds,v,n,h=>by
  unfold J5 at h ⊢;obtain⟨a,c,r,l,q⟩:=h;refine⟨a,c,r,l.imp (λz=>⟨z.1,λm=>?_,z.2.2⟩) id,oO.hide b n q⟩;rcases am.mp m with e|m
  ·exact Q4 b z.1 (λ_ z=>nomatch z) (λ_ _ z=>nomatch z) e
  ·exact z.2.1 m
 |.own k,v,_,h=>by unfold J5 at h ⊢;exact h
 |.dct,_,n,_=>by cases n
 |.exn _,_,n,_=>by cases n
 |.tab P,v,_,h=>by unfold J5 at h ⊢;exact h
 |.map _ _,_,n,_=>by cases n
 |.adr _,_,_,h=>h
theorem oO.hide(b:H p=JU (.frz o (.dK d_))):∀{ds:List D}{a:List V},nms ds=Ka->oO K H XV μ ds a->oO K H (p::XV) μ ds a
 |[],_,_,h=>h
 | d::ds,a,n,h=>by
  unfold oO at h ⊢;unfold nms at n;obtain⟨c,e⟩:=jb.mp n;obtain⟨v,r,f,g,i⟩:=h;exact⟨v,r,f,J5.hide b c g,oO.hide b e i⟩
end
def oN.hide(d:H p=JU (.frz o (.dK d_)))(n:O.all nms=Ka)(c:oN K H XV μ O):oN K H (p::XV) μ O:=by
 refine⟨c.len,c.nd,λa m z=>?_,λa m=>?_,λk a e=>?_⟩
 ·rcases am.mp z with e|z
  ·obtain⟨k,i,j⟩:=cQ.mp m;obtain⟨f,g,_,b,_⟩:=c.at_ k a (by rw[au i,j]);rw[e,d] at b;cases b
  ·exact c.nh a m z
 ·rcases am.mp m with e|m
  ·rw[e,d];simp
  ·exact c.ht a m
 ·obtain⟨f,g,h,b,l⟩:=c.at_ k a e;exact⟨f,g,h,b,l.hide d (aD.mp n f (aJ h))⟩
def oP.put(e:oP K H XV μ σ a_)(h:a_[i]?=JU (JU v))(q:J5 K H XV μ d v):oP K H XV μ (σ.set i (JU d)) a_:=by
 refine⟨by simp[e.len],λj x g=>?_⟩;by_cases a:i=j
 ·subst a;have b:i<σ.length:=by have:=(ao.mp g).1;simpa using this
  rw[bU b] at g;cases g;exact⟨v,h,q⟩
 ·rw[bg a] at g;exact e.at_ j x g
def oP.forget(e:oP K H XV μ σ a_)(o:Option V):oP K H XV μ (σ.set i J9) (a_.set i o):=by
 refine⟨by simp[e.len],λj x g=>?_⟩;by_cases a:i=j
 ·subst a;have b:i<σ.length:=by have:=(ao.mp g).1;simpa using this
  rw[bU b] at g;cases g
 ·rw[bg a] at g;obtain⟨v,c,d⟩:=e.at_ j x g;exact⟨v,by rw[bg a];exact c,d⟩
def EW(k:DK)(ks:List DK):Bool:=ks.any λj=>decide (j=k)
def vO(k:DK)(ks:List DK):List DK:=ks.filter λj=>decide (j≠k)
def zu(k:DK):List DK->List D->List D
 |j::ks,d::ds=>if j=k then zu k ks ds else d::zu k ks ds
 |_,_=>[]
theorem SI:∀{a:List DK}{ds:List D}{b:List V},a.length=b.length->oO K H XV μ ds b->∃c,AV ((a.map kD).zip b) (kD k)=((vO k a).map kD).zip c/\(vO k a).length=c.length/\oO K H XV μ (zu k a ds) c
 |[],ds,b,_,_=>⟨[],rfl,rfl,.nil⟩
 |j::a,ds,[],h,_=>by cases h
 |j::a,[],v::b,_,h=>by unfold oO at h;cases h
 | j::a,d::ds,v::b,hl,h=>by
  obtain⟨w,r,e,l,m⟩:=(by unfold oO at h;exact h);cases e;obtain⟨c,f,g,i⟩:=SI (k:=k) (my hl) m;show ∃c,AV ((kD j,v)::(a.map kD).zip b) (kD k)=_/\_;by_cases e:j=k
  ·subst e;refine⟨c,?_,?_,?_⟩
   ·unfold AV vO at *;rw[di 'k',di 'k'];exact f
   ·unfold vO at *;rw[di 'k'];exact g
   ·unfold zu;rw[Kd rfl];exact i
  ·have n:kD j≠kD k:=λz=>e (II z);refine⟨v::c,?_,?_,?_⟩
   ·unfold AV vO at *;rw[dj ⇑n,dj ⇑e,f];rfl
   ·unfold vO at *;rw[dj ⇑e];simpa using g
   ·unfold zu;rw[Kf e];exact .cons l i
theorem Uz:∀{a:List DK}{b:List V},a.length=b.length->EW k a=Ka->(rR ((a.map kD).zip b) (kD k)).isSome=Ka
 |[],_,_,h=>by cases h
 |_::_,[],h,_=>by cases h
 | j::a,v::b,hl,h=>by
  show(rR ((kD j,v)::(a.map kD).zip b) (kD k)).isSome=Ka;by_cases e:j=k
  ·rw[xx (congrArg kD e)];rfl
  ·rw[xk (λz=>e (II z))];unfold EW at h;rw[g8,decide_eq_false e,jL] at h;exact Uz (my hl) h
end
def AU(iR uG iL:Nat)(t1 t3:DE):List D->List DK->List D->Sg->Ow->RS
 |[],_,_,σ,O=>.nx σ O
 | x::xs,ks,ds,σ,O=>match yh x with
  | some k=>if EW k ks=Ka then match t1 (σ.set uG (JU x)) O with
    | .ok d1 O1=>match t3 (((σ.set uG (JU x)).set iL (JU d1)).set iR (JU (.map (vO k ks) (zu k ks ds)))) O1 with
     |.ok _ O2=>if O2.all nms=Ka then AU iR uG iL t1 t3 xs (vO k ks) (zu k ks ds) ((σ.set uG (JU x)).set iL (JU d1)) O2 else .bad
     |_=>.bad
    |_=>.bad
   else .bad
  |none=>.bad
def Fi(iR uG iL:Nat)(tH:DE)(it:DI)(t1 t3:DE)(tt:DS):DS:=λσ O=>(tH σ O).bnS λx O1=>match x with
 | .map ks ds=>(it (σ.set iR J9) O1).bnS λsrc O2=>match src with
  | .val xs=>match AU iR uG iL t1 t3 xs ks ds (σ.set iR J9) O2 with
   |.nx σ' O'=>tt σ' O'
   |_=>.bad
  |_=>.bad
 |_=>.bad
def Ea.ext(e:Ea p H μ H' c_)(h:H p=J9):Ext H μ H' c_:=⟨e.pre,λb o g n a=>e.kept b o g n (sQ g h) a,e.fresh,e.there,e.tab⟩
section
def Q8(g:H A=JU (.frz ob u)):∀a,o4 H a->o4 (upd H A o) a:=by
 rintro a ⟨h,b,i,j⟩;have l:a≠A:=by rintro rfl;rw[g] at b;cases b
 refine⟨h,by rw[qi l];exact b,i,λd m e=>?_⟩;obtain⟨c,n,rfl,f,p⟩:=j d m e;have q:c≠A:=by rintro rfl;rw[g] at f;cases f
 exact⟨c,n,rfl,by rw[qi q];exact f,p⟩
def ziG(d:PE X e te):PE X e (λσ H Q=>∃p a,H p=JU (.dK a)/\∀o,te σ (upd H p (.frz o (.dK a))) λv H'=>H' p=JU (.frz o (.dK a))/\Q v (upd H' p (.dK a))):=by rintro b s σ H Q I ⟨p,a,c,h⟩;obtain⟨o,J⟩:=Inv.frzK I c;exact qe (d b s σ _ _ J (h o)) λv i ⟨x,j,f,r,g,q⟩=>⟨x,_,Inv.thawK f g (Inv.nofrz I c),r,q⟩
def zaf:oY X (.type "dict") (λxs H Q=>∃(a:af)(d:List (Key×V)),xs=[.ref a]/\Rd H a (.dK d)/\∀p,H p=J9->Q (.ref p) (upd H p (.dK d))):=by intro f s x H xs y Q I r h;obtain⟨a,d,rfl,g,q⟩:=h;obtain⟨u,rfl,i⟩:=uW r;cases i;obtain⟨z,j,A,c,l⟩:=CO I.hok g;refine kt_call_dict j l (by rw[<- c.length];exact z) λm n t=>?_;have v:∀b o,s.heap.get? b=JU o->m.get? b=JU o:=λb o e=>(t.2 b (bo (aG e))).trans (ab _ e);have w:=I.hok.fresh (aw s.heap.objs.size);exact⟨.ref _,_,I.laid v (aw _) (FJ z (beq_eq_false_iff_ne.mpr (bN (bo I.big))) c n),rfl,q _ w⟩
def za9{d l c:bi}{f:List bi}{n:List cL}{b:dS}{j r t:Pos}{y:aA}{i:Nat}(o:Bool)(ext:List aA){it0:DI}{g:Tg}{ts:List DT}{p:List Cl}{te:DE}(J:X.calm=Ka)(M:X.N.Nodup)(P:X.N[i]?=JU y)(u:X.env.scope.names.lookup y=JU .local)
  (Q:ud X Ex l c it0) (S:yJ X.env.scope b (X.N++ext) (qM (⟨it0,g,ts⟩::p)))
  (U:Ie X ext b l g f ts n p d te)
  (Y:swapsWith (.ListComp d (⟨l,c,f,0⟩::n) b j) (JU (.Name y t)) r.line X.env=pure Ka)
  (Z:∀x,cb c X.env x=pure x:=by intro _;rfl):PS X (.Assign [.Name y t] (.ListComp d (⟨l,c,f,0⟩::n) b j) r) (AJ (rd Ex X.K (qA o ext.length it0 g ts p te)) (yS i)):=by
 rintro w s a_ H E I ⟨XV,μ,σ,O,e1,A,q⟩;rw[iU _ _ _ _ Y];refine aa (fx (aa ?_));unfold qA at q;rw[<- MO] at q;refine aa (cG (FZ (Mc d) J Q S (λh Cn s H fp _ _ _=>KN U h Cn s H fp) Z I e1 A (T8 A q λL H' hQ s' C I' ns nC B y1 G pn=>?_)) (λ_ s' hq=>ah (ah hq)) λ_ _ e=>e);obtain⟨m,hn⟩:=ns;refine iC (Jj (v:=.ref L) I' M P (.inl u) rfl (λvw HD vS=>?_) (.inr u));obtain⟨a,Dk,ha⟩:=vS;have Hm:C≠a:=by
  rcases ha with z|z
  ·rw[z];exact B
  ·exact λe=>G y a z e.symm
 refine⟨m,hn.sameBut Dk Hm,λh' Bf=>?_⟩;exact⟨_,H',Inv.bare HD Bf nC B y1 G pn,hQ⟩
def zd7(n:jA (av X.prog X.w) X.A X.env X.xe)(hc:X.calm=Ka)
  (hA:∀te,PE X e te->PS X sA (AJ (JV (λxs H Q=>∃(a:af)(d_:List (Key×V)),xs=[.ref a]/\Rd H a (.dK d_)/\∀p,H p=J9->Q (.ref p) (upd H p (.dK d_))) (D6 te KP)) (yS iR))) (hH:PD X Ex e tH)
  (hi:ud X Ex tg iter it) (hg:PG X tg ((Tg.one uG).rd X.K)) (vR:PE X (.Name r p2) (yf iR)) (vT:PE X (.Name tm p3) (yf uG)) (hL:PS X sL (AJ (rd Ex X.K t1) (yS iL))) (hE:PD X Ex e3 t3) (zM:swapsWith e3 J9 pE.line X.env=pure Kb) (ht:ue X Ex xs tt)
  (n1:iR≠uG) (n2:iR≠iL) (hl:iR<X.N.length) (hT:uG<X.N.length) (hs:∀x,cb iter X.env x=pure x:=by intro _;rfl):ue X Ex (sA :: .For tg iter [.Delete [.Subscript (.Name r p2) (.Name tm p3) p4] p1,sL,.Expr e3 pE] [] pos::xs) (Fi iR uG iL tH it t1 t3 tt):=by
 refine⟨?_⟩;rintro YP s a_ H E I ⟨b,μ,σ,O,e1,c1,q⟩;have Cd:iR<a_.length:=by rw[I.len];exact hl
 refine(zx (hA _ hH.out) (zx (LA n hc hi.out hg (zx (zgE vR vT) (zx hL (CU (LP (ziG hE.out) zM)))) hs) ht.out)) YP s a_ H E I (rd.goS e1 c1 q λx O1 v L C ea xa ca da qa=>?_);cases x with
 | map ks ds=>
  obtain⟨a0,vs,rfl,ra,na1,na2,hlen,Cm⟩:=da;refine⟨a0,_,rfl,.inr ra,λp n=>?_⟩;have ES:Mv L b C (upd L p (.dK ((ks.map kD).zip vs))) (p::b) C:=(Mv.hide n).trans (Ext.laid n).mv;have WR:oP X.K (upd L p (.dK ((ks.map kD).zip vs))) (p::b) C (σ.set iR J9) (a_.set iR (JU (.ref p))):=(ea.mv ES).forget _;have yw:p∉C:=λm=>by
   obtain⟨k,hk,e2⟩:=cQ.mp m;obtain⟨_,_,_,h2,_⟩:=ca.at_ k p (by rw[au hk,e2]);rw[n] at h2;cases h2
  have nph:p∉b:=λm=>ca.ht p m n;have cap:oN X.K (upd L p (.dK ((ks.map kD).zip vs))) (p::b) C O1:=by
   have c0:=ca.laid (o:=.dK ((ks.map kD).zip vs)) n;refine⟨c0.len,c0.nd,λa m z=>?_,λa m=>?_,λk a e=>?_⟩
   ·rcases am.mp z with e|z
    ·exact yw (e▸m)
    ·exact c0.nh a m z
   ·rcases am.mp m with e|m
    ·rw[e,rO];simp
    ·exact c0.ht a m
   ·obtain⟨M,G,Z,h2,h3⟩:=ca.at_ k a e;exact⟨M,G,Z,by rw[qi (sQ h2 n)];exact h2,h3.mv ES⟩
  have t:=qa;refine⟨p::b,C,σ.set iR J9,O1,WR,cap,?_⟩;cases P:it (σ.set iR J9) O1 with
  |bad=>rw[P] at t;exact aj t
  | exc c' l=>
   rw[P] at t;exact λg j x c2=>t g j ((Ext.laid n).trans x) c2.unhide
  | ok src O2=>
   rw[P] at t;intro J H1 f_ x1 c2 sa;cases src with
   |own _=>exact aj t
   |zip _ _=>exact aj t
   | val ys=>
    have t:=t;have e0:Ea p L C H1 f_:=(Ext.laid n).ea.trans x1.ea;have xl:=x1.keep p _ rO yw;refine⟨λi m S g=>∃j f l U M G,m=ys.length-i/\i<=ys.length/\S.length=X.N.length/\Ea p H1 f_ g j/\oP X.K g (p::b) j f S/\oN X.K g (p::b) j l/\S[iR]?=JU (JU (.ref p))/\g p=JU (.dK ((U.map kD).zip G))/\U.length=G.length/\oO X.K g (p::b) j M G/\
     oR Ex X.K L b C (match AU iR uG iL t1 t3 (ys.drop i) U M f l with
      |.nx f l=>tt f l
      |_=>.bad) E,
     ⟨_,f_,_,O2,ks,ds,vs,rfl,bO _,by rw[d9];exact I.len,.refl,WR.ext x1,c2,by rw[bU Cd],xl,hlen,(Cm.mv ES).ext x1,t⟩,?_⟩
    rintro i m xp H2 ⟨u,t5,HB,B,Hv,EK,hm,hile,Wg,PL,AA,Cq,Ca,Ke,G0,z5,c⟩;have zD:=sa (p::b) H2 u HB PL.mv Cq i;have JZ:match ys[i]? with
     |some d=>J.go i H2/\∀x uw,J.yld i H2 x uw->Ext H2 u uw u/\oN X.K uw (p::b) u HB/\J5 X.K uw (p::b) u d x
     |none=>J.stop i H2:=zD
    cases qK:ys[i]? with
    | none=>
     rw[qK] at JZ;have xY:i=ys.length:=by have:=aP.mp qK;lia
     rw[xY,ny] at c;exact .inl ⟨JZ,b,u,t5,HB,AA.mv .unhide,Cq.unhide,c.ext ((e0.trans PL).ext n)⟩
    | some d=>
     rw[qK] at JZ;obtain⟨go,yl⟩:=JZ;have xY:=(ao.mp qK).1;rw[dH xY,(ao.mp qK).2] at c;unfold AU at c;cases hk:yh d with
     |none=>rw[hk] at c;exact aj c
     | some k=>
      rw[hk] at c;dsimp only at c;by_cases tJ:EW k B=Ka
      case neg=>rw[Kf tJ] at c;exact aj c
      rw[Kd tJ] at c;refine .inr ⟨go,λS g=>∃j f l U M G,S.length=X.N.length/\Ea p H1 f_ g j/\oP X.K g (p::b) j f S/\oN X.K g (p::b) j l/\S[iR]?=JU (JU (.ref p))/\g p=JU (.dK ((U.map kD).zip G))/\U.length=G.length/\oO X.K g (p::b) j M G/\
       oR Ex X.K L b C (match AU iR uG iL t1 t3 (ys.drop (i+1)) U M f l with
        |.nx f l=>tt f l
        |_=>.bad) E,λf g ⟨j,tx,O3,ks3,ds3,vs3,h⟩=>⟨ys.length-(i+1),by lia,j,tx,O3,ks3,ds3,vs3,rfl,xY,h⟩,λv H3 y=>?_⟩
      obtain⟨x3,c3,r3⟩:=yl v H3 y;have Gs:p∉u:=λm=>Cq.nh p m 'k';have OA:=x3.keep p _ Ke Gs;have DR:=(AA.ext x3).set r3 uG;have dd3:=z5.ext x3;have ekv:=K8 hk r3;have GL:(xp.set uG (JU v))[iR]?=JU (JU (.ref p)):=by rw[bg (bN n1)];exact Ca
      have Oo:(xp.set uG (JU v))[uG]?=JU (JU v):=by
       rw[bU (by rw[Wg];exact hT)]
      refine⟨_,GL,v,Oo,p,_,kD k,rfl,OA,ekv,Uz G0 tJ,?_⟩;obtain⟨Y,Kk,hd2,hd3⟩:=SI G0 dd3;rw[Kk];have DV:Ea p H3 u (upd H3 p (.dK (((vO k B).map kD).zip Y))) u:=.putX (yj OA);have Kr:=DR.mv (DV.mv);have cl4:=c3.putX (o:=.dK (((vO k B).map kD).zip Y)) (yj OA);have dd4:=hd3.mv (DV.mv);cases Z:t1 (t5.set uG (JU d)) HB with
      |bad=>rw[Z] at c;exact aj c
      |exc c' l=>rw[Z] at c;exact aj c
      | ok d1 O5=>
       rw[Z] at c;dsimp only at c;refine⟨p::b,u,t5.set uG (JU d),HB,Kr,cl4,?_⟩;rw[Z];intro v1 H5 yb x5 c5 r5;have yY:=x5.keep p _ rO Gs;have Gr:p∉yb:=λm=>c5.nh p m 'k';have DQ:=(Kr.ext x5).set r5 iL;have WX:=dd4.ext x5;have GK:((xp.set uG (JU v)).set iL (JU v1))[iR]?=JU (JU (.ref p)):=by rw[bg (bN n2)];exact GL
       cases h3:t3 (((t5.set uG (JU d)).set iL (JU d1)).set iR (JU (.map (vO k B) (zu k B Hv)))) O5 with
       |bad=>rw[h3] at c;exact aj c
       |exc c' l=>rw[h3] at c;exact aj c
       | ok d3 O6=>
        rw[h3] at c;dsimp only at c;by_cases hn:O6.all nms=Ka
        case neg=>rw[Kf hn] at c;exact aj c
        rw[Kd hn] at c;refine⟨p,_,yY,λo=>?_⟩;have PJ:Ea p H5 yb (upd H5 p (.frz o (.dK (((vO k B).map kD).zip Y)))) yb:=.putX (yj yY);have dm:J5 X.K (upd H5 p (.frz o (.dK (((vO k B).map kD).zip Y)))) b yb (.map (vO k B) (zu k B Hv)) (.ref p):=by
         exact⟨p,Y,rfl,⟨o,rO⟩,nph,Gr,hd2,(WX.mv (PJ.mv)).mv .unhide⟩
        refine⟨b,yb,_,O5,((DQ.mv (PJ.mv)).mv .unhide).put GK dm,(c5.putX (yj yY)).unhide,?_⟩;rw[h3];intro v3 H6 BA x6 c6 r6;have Au:=x6.keep p _ rO Gr;have AB:Ea p H6 BA (upd H6 p (.dK (((vO k B).map kD).zip Y))) BA:=.putX (Q8 Au);have PH:=(PJ.trans x6.ea).trans AB;exact⟨Au,BA,_,O6,_,_,Y,by rw[d9,d9];exact Wg,((PL.trans x3.ea).trans DV).trans (x5.ea.trans PH),DQ.mv (PH.mv),(c6.hide Au hn).putX (Q8 Au),GK,rO,hd2,WX.mv (PH.mv),c⟩
 |_=>exact aj qa
end
def HR(o:Obj):Nat:=match o.data with
 |.dict _ ep=>ep
 |_=>0
def W6(a:af)(o:Obj)(d_:List (Key×V)):It:=⟨λi H=>H a=JU (.frz o (.dK d_))/\i<d_.length,λi H x H'=>H'=H/\∃k v,d_[i]?=JU (k,v)/\x=kV k,λi H=>H a=JU (.frz o (.dK d_))/\d_.length<=i⟩
theorem RZ:∀{d_:List (Key×V)}{ws:List (Key×ae)}{i:Nat}{k:Key}{v:V},KV d_ ws->d_[i]?=JU (k,v)->∃u,ws[i]?=JU (k,u)
 |_,_,_,_,_,.nil,h=>by simp at h
 | (k0,v0)::_,(k1,u1)::_,0,k,v,.cons h _,e=>by
  obtain⟨rfl,rfl⟩:=e;have a:=h.1;subst a;exact⟨u1,rfl⟩
 |_::_,_::_,i+1,k,v,.cons _ t,e=>RZ (i:=i) t ⇑e
def zgh(h:(u6 P w).is k u=Ka):RelV (kV k) u:=by
 rcases Al h with⟨i,t,rfl,rfl⟩|⟨x,t,rfl,rfl⟩
 ·exact⟨t,rfl⟩
 ·exact⟨t,rfl⟩
def L7(ok:HOk P w H h)(e:H a=JU (.frz o (.dK d_))):(a==sysModules)=Kb/\∃b,KV d_ b/\h.DictAt (u6 P w) a b (HR o):=by
 obtain⟨d,z,i,b,c,n,j,l,f,m,g,r⟩:=ok a _ e;rw[d] at f;cases f;have:HR o=l:=by unfold HR;rw[g]
 rw[this];exact⟨i,b,c,o,j,d,m,g,r⟩
def zbR(a it:af)(o:Obj)(n:List (Key×V)):yL P w K tg (W6 a o n) [it] it (λi h=>h.IsKeyIter it a i n.length (HR o)) where
 mem:=by simp
 obj:=λi h g b j=>by
  have e:b=it:=⇑j
  subst e;obtain⟨o,e,c,d⟩:=g;exact⟨o,e,λv z=>by rw[d] at z;cases z⟩
 keep:=λi h Q g k=>g.at λo e=>k it 'k' o e
 item:=by
  intro X q r t S i l s Y H E I m g x;subst q r t;obtain⟨y,A⟩:=x;obtain⟨Z,ws,f,B⟩:=L7 I.hok y;obtain⟨⟨k,v⟩,U⟩:∃p,n[i]?=JU p:=⟨_,au A⟩;obtain⟨u,hu⟩:=RZ f U;obtain⟨C,G,f2,J,L,M⟩:=m it 'k';rw[f.length] at g;refine wpAny_pyNext_dict_item g B hu λN Q tV O sb=>?_;have I1:=I.turned (λb o j e=>(sb.2 b j).trans e) C G J L M;obtain⟨o2,e,c,d⟩:=id O;rw[<- f.length] at O;exact⟨N,rfl,Fq e c d 'u' ⟨kV k,H,I1,zgh tV,⟨rfl,k,v,U,rfl⟩,O,λb j=>(m b j).1⟩⟩
 done:=by
  intro X q r t S i l s Y H E I m g x;subst q r t;obtain⟨y,A⟩:=x;obtain⟨Z,ws,f,B⟩:=L7 I.hok y;obtain⟨C,G,f2,J,L,M⟩:=m it 'k';rw[f.length] at g;exact wpAny_pyNext_dict_end (I.ok.hd S) g B (aP.mpr (by rw[<- f.length];exact A)) λQ eb=>⟨rfl,I.turned (λb o j e=>eb b o j e) C G J L M⟩
 self:=λ_ _ _ _ _ g h=>wpAny_pyIter_keyiter g h
noncomputable def B2:DK->D
 |.inl i=>.int i
 |.inr cs=>.str cs
def zgo:∀k:DK,J5 K H XV μ (B2 k) (kV (kD k))
 |.inl _=>by unfold B2 J5;rfl
 |.inr _=>by unfold B2 J5;rfl
def oU.keys{K:ak}{H:Hp}{XV μ:List af}{b:List DK}{g:List V}{a:af}{o:Obj}(h:H a=JU (.frz o (.dK ((b.map kD).zip g))))(p:a∉XV)(q:a∉μ)(j:b.length=g.length):oU K (W6 a o ((b.map kD).zip g)) (.val (b.map B2)) H XV μ:=by
 intro l v w A m c i;have n:=m.kept a _ h q p (by intro B z;cases z);have f:((b.map kD).zip g).length=b.length:=by rw[kK,ar,j,kn]
 show match (b.map B2)[i]? with|some d=>_|none=>_
 rw[aZ];cases e:b[i]? with
 | some k=>
  have r:=(ao.mp e).1;refine⟨⟨n,by rw[f];exact r⟩,λx C y=>?_⟩;obtain⟨rfl,s,E,t,rfl⟩:=y;have u:s=kD k:=by
   have:=congrArg (nH Prod.fst) t;rw[<- aZ,List.map_fst_zip (by rw[ar];exact i6 j),aZ,e] at this;cases this;rfl
  subst u;exact⟨.refl,c,zgo k⟩
 | none=>
  exact⟨n,by rw[f];exact aP.mp e⟩
def HM(t:DE):DI:=λσ O=>(t σ O).bnd λx O1=>match x with
 |.map ks _=>.ok (.val (ks.map B2)) O1
 |_=>.bad
def zds{X:Cx}{Ex:Nat->Hp->Prop}{a y:bi}{t:DE}(A:PD X Ex a t):ud X Ex y a (HM t):=by
 refine⟨?_⟩;rintro i s B H C I ⟨f,μ,σ,O,E,G,q⟩;refine qe (A.out i s B H _ I (rd.go E G q (Q1:=λv g=>∃f h j d,oN X.K g f h j/\J5 X.K g f h d v/\post Ex X.K (λL M s J=>oU X.K J s L f M) g f h (match d with|.map ks _=>.ok (.val (ks.map B2)) j|_=>.bad) C)
  λd j v g h e2 x c r p=>⟨f,h,j,d,c,r,p⟩)) λu m ⟨v,g,l,N,f,h,j,d,c,r,p⟩=>?_
 cases d with
 | map ks ds=>
  obtain⟨a,vs,rfl,⟨o,w⟩,P,Q,S,dd⟩:=r;cases N;obtain⟨U,ws,n,Y⟩:=L7 l.hok w;refine wpAny_pyIter_dict U Y ?_;rw[<- n.length];refine⟨m.heap.objs.size,[m.heap.objs.size],_,_,g,rfl,l.kept λb o e=>ab _ e,zbR a _ o _,⟨_,aB _ rfl,rfl,rfl⟩,λb Z=>?_,post.here p c (.keys w P Q S)⟩;have e:b=m.heap.objs.size:=⇑Z
  subst e;exact l.fpOk (aw _) (l.hok.fresh (aw _))
 |_=>exact aj p
end DL
namespace DL
open PySem L2 PyProof.Rows
noncomputable def vQ(i j k l:Int):Bool:=decide (i<k)||(decide (i=k)&&decide (j<l))
def QD(h:Q (.bool (decide (a<b))) s):aq (av prog w) A (richCompare .Lt (.int a t) (.int b u)) Q E s:=wpAny_lt_int h
set_option maxHeartbeats 4000000 in
def zb1(l b:af)(a c i e:Int)(o p q r:Tok)(n u:Nat)(v x:Option af)(y B:Array (Option ae)):
  Meets (dQ.«tuple.__lt__» ⟨[.ref l,.ref b],[]⟩)
   (λA R s=>s.heap.get? l=JU { cls:=.type "tuple",dict:=v,data:=.seq #[.int a o,.int c p] n,slots:=y }/\s.heap.get? b=JU { cls:=.type "tuple",dict:=x,data:=.seq #[.int i q,.int e r] u,slots:=B }/\
    R (.ok (.ret (.bool (vQ a c i e)))) s):=
 .of_wp λf w A R s h=>by
  obtain⟨G,g,d,H,I⟩:=s;obtain⟨C,E,h⟩:=h;have J:=AutoSeq1.sub_tuple_tuple
  wp_walk using wpAny_loadPart' C,wpAny_loadPart' E
  refine ku a o i q f w _ _ ?_;by_cases m:a=i
  ·subst m;rw[show(a==a)=Ka from beq_self_eq_true a]
   wp_walk
   refine ku c p e r f w _ _ ?_;by_cases t:c=e
   ·subst t;rw[show(c==c)=Ka from beq_self_eq_true c]
    wp_walk
    have j:vQ a c a c=Kb:=by unfold vQ;simp
    rw[j] at h;exact⟨_,rfl,h⟩
   ·rw[show(c==e)=Kb from beq_eq_false_iff_ne.mpr t]
    wp_walk using QD
    have j:vQ a c a e=decide (c<e):=by unfold vQ;simp
    rw[j] at h;exact⟨_,rfl,h⟩
  ·rw[show(a==i)=Kb from beq_eq_false_iff_ne.mpr m]
   wp_walk using QD
   have j:vQ a c i e=decide (a<i):=by unfold vQ;simp[m]
   rw[j] at h;exact⟨_,rfl,h⟩
def Zm(m:s.heap.IsTuple l #[.int i1 t1,.int i2 t2])(o:s.heap.IsTuple b #[.int j1 u1,.int j2 u2])(p:A.units<cLine)(h:Q (.bool (vQ i1 i2 j1 j2)) s):
  aq (av prog w) A (richCompare .Lt (.ref l) (.ref b)) Q E s:=by
 obtain⟨⟨q,r,d,t⟩,e,f,n,g⟩:=id m;obtain⟨⟨B,u,c,v⟩,i,j,y,a⟩:=id o;simp only at f g j a;subst f g j a;exact richCompare_meets_room ⟨_,e,rfl⟩ ⟨_,i,rfl⟩ F.slot_tuple_lt F.entry_tuple_lt (F.args_tuple_lt_2 _ _) (zb1 l b i1 i2 j1 j2 t1 t2 u1 u2 n y r u t v)
  ⟨e,i,show nJ (vQ i1 i2 j1 j2)≠Value.notImplemented/\Q (.bool (vQ i1 i2 j1 j2)) s from ⟨(λx=>nomatch x),h⟩⟩ p
section
variable{prog:aU}{w:be}{A:bD}{R:Result->ai->Prop}{I S:af}{fp wr:List af}{n:Nat}{P:Nat->ae->Prop}{St:Nat->aX->Prop}{bt:Nat->Nat->Bool}{kp:aX->Prop}
def Qp(prog:aU)(w:be)(A:bD)(P:Nat->ae->Prop)(bt:Nat->Nat->Bool)(kp:aX->Prop):Prop:=∀i j vi vj(s:ai)(Q:ae->ai->Prop)(E:ae->ai->Prop),kp s.heap->P i vi->P j vj->Q (.bool (bt i j)) s->aq (av prog w) A (richCompare .Lt vi vj) Q E s
def Rv(kp:aX->Prop)(wr:List af)(S:af):Prop:=∀h h',kp h->(∀b o,b∉wr->b≠S->h.get? b=JU o->h'.get? b=JU o)->kp h'
def zi8(W:kJ prog w A.in1 I fp wr n P St)(Z:Qp prog w A.in1 P bt kp)(J:S∉fp)(L:Rv kp wr S):
  ∀(k j:Nat)(s:ai)(a:ae)(c:Nat),n-(j+1)=k->j+1<=n->kp s.heap->St (j+1) s.heap->P (argBest bt j) a->s.heap.get? S=JU { cls:=.type "list",dict:=J9,data:=.seq #[a,a] c,slots:=#[] }->
  (∀v g l,P (argBest bt (n-1)) v->(∀b o,b∉wr->b≠S->s.heap.get? b=JU o->g.get? b=JU o)->R (.ok (.ret v)) { s with heap:=g,toks:=l })->codeAny (av prog w) A (.builtin "min.loop" ⟨[.ref I,.none,.ref S],[]⟩) R s:=by
 have M:S∉wr:=λh=>J (W.sub _ h);have N:(toString "min" ++ toString ".loop":String) = "min.loop":=by decide
 intro k
 induction k with
 | zero=>
  intro j s a c hk hj O t p m q;have Q:j+1=n:=by lia
  refine dD eR ?_;rw[dE bP _];show aq _ A.in1 (seqItems? (.ref S) >>= _) _ _ s;refine aa (cJ m rfl ?_);show aq _ A.in1 (tryCatch (pyNext (.ref I)) _ >>= _) _ _ s;refine aa (eC (W.done s _ _ (Q▸t) λg l d=>?_));show aq _ A.in1 (updateSeq S (λ_=>#[]) >>= _) _ _ _;exact aa (eJ (d S _ M m) rfl (aa (eu (ah (q a _ l (by rw[<- Q];exact p) λb o f i e=>(bC _ _ (bN i)).trans (d b o f e))))))
 | succ k ih=>
  intro j s a c hk hj O t p m q;have u:j+1<n:=by lia
  refine dD eR ?_;rw[dE bP _];show aq _ A.in1 (seqItems? (.ref S) >>= _) _ _ s;refine aa (cJ m rfl ?_);show aq _ A.in1 (tryCatch (pyNext (.ref I)) _ >>= _) _ _ s;refine aa (eC (W.item (j+1) s _ _ u t λv g l U Y d=>?_));have x:=d S _ M m;have y:kp g:=L _ _ O λb o r _ e=>d b o r e;show aq _ A.in1 (tryCatch (holding [v,v] (richCompare .Lt v a >>= _)) _ >>= _) _ _ _;refine aa (eC (bI (aa (Z (j+1) (argBest bt j) v a { s with heap:=g,toks:=l } _ _ y U p (aa (bI (cZ (aa (eu (ah ?_))))))))));cases r:bt (j+1) (argBest bt j) with
  | true=>
   simp only[if_true];refine aa (eJ x rfl (aa (eu ?_)));rw[N];refine ah ⟨d7 bP _,ih (j+1) _ v _ 'd' u (L _ _ y λb o _ n e=>(bC _ _ (bN n)).trans e) (W.frame _ _ _ Y λb Hg o e=>(bC _ _ (λh:S=b=>J (by rw[h];exact Hg))).trans e) (by simp only[argBest,r,if_true];exact U) (bR _ x rfl)
    λB C E G H=>q B C E G λb o f i e=>H b o f i ((bC _ _ (bN i)).trans (d b o f e))⟩
  | false=>
   simp only[cS,if_false];refine aa (eu ?_);rw[N];exact ah ⟨d7 bP _,ih (j+1) _ a c 'd' u y Y (by simp only[argBest,r,cS,if_false];exact p) x λB C E G H=>q B C E G λb o f i e=>H b o f i (d b o f e)⟩
def zew(W:kJ prog w A.in1 I fp wr n P St)(r:Qp prog w A.in1 P bt kp)(d:S∉fp)(f:Rv kp wr S)(i:0<n)(t:kp s.heap)(u:St 0 s.heap)(j:s.heap.get? S=JU { cls:=.type "list",dict:=J9,data:=.seq #[] c,slots:=#[] })
  (x:∀v a l,P (argBest bt (n-1)) v->(∀b o,b∉wr->b≠S->s.heap.get? b=JU o->a.get? b=JU o)->R (.ok (.ret v)) { s with heap:=a,toks:=l }):codeAny (av prog w) A (.builtin "min.loop" ⟨[.ref I,.none,.ref S],[]⟩) R s:=by
 have y:S∉wr:=λh=>d (W.sub _ h);have B:(toString "min" ++ toString ".loop":String) = "min.loop":=by decide
 refine dD eR ?_;rw[dE bP _];show aq _ A.in1 (seqItems? (.ref S) >>= _) _ _ s;refine aa (cJ j rfl ?_);show aq _ A.in1 (tryCatch (pyNext (.ref I)) _ >>= _) _ _ s;refine aa (eC (W.item 0 s _ _ i u λv a l C E g=>?_));have m:=g S _ y j;have G:kp a:=f _ _ t λb o H _ e=>g b o H e;show aq _ A.in1 (updateSeq S (λ_=>#[v,v]) >>= _) _ _ _;refine aa (eJ m rfl ?_);rw[B];exact ah ⟨d7 bP _,zi8 W r d f _ 0 _ v _ rfl i (f _ _ G λb o _ n e=>(bC _ _ (bN n)).trans e) (W.frame _ _ _ E λb J o e=>(bC _ _ (λh:S=b=>d (by rw[h];exact J))).trans e) C (bR _ m rfl)
  λL M N O Q=>x L M N O λb o p q e=>Q b o p q ((bC _ _ (bN q)).trans (g b o p e))⟩
end
section
def zgy(I:L2.Inv X YP σ H s)(b:sH X.K H a [.int i,.int j]):∃t u,s.heap.IsTuple a #[.int i t,.int j u]:=by obtain⟨e,c,p,_⟩:=I.tuple b;obtain⟨u,f,rfl,⟨t,rfl⟩,⟨d,rfl⟩⟩:=CG c;exact⟨t,d,p⟩
def zn9:Ow->D->D->R D:=λO x y=>match x,y with
 |.tup [.int i,.int j],.tup [.int k,.int l]=>.ok (.bl (vQ i j k l)) O
 |_,_=>.bad
def zdx{K:ak}{H:Hp}{XV μ:List af}{i j:Int}{v:V}(h:J5 K H XV μ (.tup [.int i,.int j]) v):∃a,v=.ref a/\sH K H a [.int i,.int j]:=by obtain⟨t,f,rfl,d,e⟩:=BO h rfl;obtain⟨x,y,rfl,b,c⟩:=CD e;unfold J5 at b c;subst b;subst c;exact⟨t,rfl,d⟩
def BF:List Int->Int
 |[]=>0
 |x::l=>l.foldl min x
theorem LM:∀(l:List Int)(x:Int),l.foldl min x<=x/\∀a∈l,l.foldl min x<=a
 |[],x=>⟨m7 _,λ_ h=>by cases h⟩
 | y::l,x=>by
  obtain⟨c,b⟩:=LM l (min x y);rw[fY];refine⟨by lia,λa ha=>?_⟩;rcases am.mp ha with rfl|ha
  ·lia
  ·exact b a ha
theorem F0:∀(l:List Int)(x:Int),l.foldl min x=x\/l.foldl min x∈l
 |[],x=>.inl rfl
 | y::l,x=>by
  rw[fY];rcases F0 l (min x y) with h|h
  ·rcases Int.le_total x y with e|e
   ·left;rw[h];lia
   ·right;rw[h];rw[show min x y=y by lia];exact al
  ·exact .inr (ag _ h)
def zct(hm:M∈ns)(b:∀a,a∈ns->M<=a):M=BF ns:=by
 cases ns with
 |nil=>cases hm
 | cons x l=>
  show M=l.foldl min x;obtain⟨c,d⟩:=LM l x;have f:l.foldl min x<=M:=by
   rcases am.mp hm with rfl|hm
   ·exact c
   ·exact d M hm
  have g:M<=l.foldl min x:=by
   rcases F0 l x with e|e
   ·rw[e];exact b x al
   ·exact b _ (ag _ e)
  lia
def zcA(m:X.calm=Ka):oY X (.builtin "min") (λxs H Q=>∃(p:af)(ns:List Int),xs=[.ref p]/\qS X.K H p (ns.map V.int)/\ns≠[]/\Q (.int (BF ns)) H):=by
 intro d s M H xs N Q I r h;obtain⟨p,ns,rfl,n,o,q⟩:=h;obtain⟨u,rfl,w⟩:=uW r;cases w;obtain⟨O,x,y,P⟩:=I.list n;have e:=Vd x;obtain⟨b,f⟩:=e.allInts.items;have c:ns=b.toList.map (·.1):=by rw[<- e.numsOf,<- lW,<- f]
 have g:=y.isList;rw[f] at g;have A:0<b.size:=by
  rcases Nat.eq_zero_or_pos b.size with z|z
  ·exact absurd (by rw[c,Array.eq_empty_of_size_eq_zero z];rfl) o
  ·exact z
 refine wT I (min_intList (I.ok.hd m) g A λv S B C E U=>?_);obtain⟨t,rfl⟩:=intItems_at C;obtain⟨Y,G⟩:=argBest_lt (numAt b) (b.size-1);have J:numAt b (argBest (λi j=>decide (numAt b i<numAt b j)) (b.size-1))=BF ns:=by
  refine zct ?_ λa l=>?_
  ·rw[c,numAt_eq];exact getD_mem (by rw[ar,aE];lia)
  ·rw[c] at l;obtain⟨j,L,rfl⟩:=mem_getD l;rw[ar,aE] at L;rw[<- numAt_eq];exact G j 'd'
 rw[J];exact⟨.int _,H,I.kept (t':=B) E,⟨_,rfl⟩,q⟩
def Fk:Ow->List D->R D:=λO xs=>match xs with
 | [x]=>match sE O x with
  | some ds=>match yQ ds with
   |some ns=>if ns≠[] then .ok (.int (BF ns)) O else .bad
   |none=>.bad
  |none=>.bad
 |_=>.bad
def zgQ:vp X Ex (λxs H Q=>∃(p:af)(ns:List Int),xs=[.ref p]/\qS X.K H p (ns.map V.int)/\ns≠[]/\Q (.int (BF ns)) H) Fk:=by
 intro H a j O xs l Q c d q;unfold Fk at q;split at q
 ·rename_i x;obtain⟨v,rfl,b⟩:=uz d;split at q
  ·rename_i m e;obtain⟨p,n,rfl,f,g⟩:=xg c b e;split at q
   ·rename_i ns h;obtain⟨i,q⟩:=post.ite q;refine⟨p,ns,rfl,?_,i,post.here q c s9⟩;rw[<- L9 g h];exact f
   ·exact aj q
  ·exact aj q
 ·exact aj q
noncomputable def HG(i:Nat)(t:DE):DS:=λσ O=>match σ[i]? with
 | some (JU (.int a))=>(t σ O).bnS λd O1=>match d with
  |.int b=>.nx (σ.set i (JU (.int (a+b)))) O1
  |_=>.bad
 |_=>.bad
def zgu(h:X.N.Nodup)(j:X.N[i]?=JU x)(l:Loc X.env.scope x)(m:PD X Ex e te)(n:X.fn x=Ka\/X.env.scope.names.lookup x=JU .local:=by first|exact .inl rfl|exact .inr rfl):
  vI X Ex (.AugAssign (.Name x pos') .Add e pos) (HG i te):=
 AZ (Zy h j l m.out YJ n) λo C G O E s H f t q=>by
  unfold HG at q;split at q
  ·rename_i a u;obtain⟨v,w,g⟩:=f.at_ i _ u;unfold J5 at g;subst g;refine⟨.int a,w,rd.goS f t q λd I v y A B x c r p=>?_⟩;cases d with
   | int b=>
    unfold J5 at r;subst r;exact⟨a,b,rfl,rfl,p (s.set i (JU (.int (a+b)))) y A .refl (B.set s9 i) c⟩
   |_=>exact aj p
  ·exact aj q
end
end DL
namespace DL
open PySem L2
open PyProof.Rows (AllBare)
structure oV(P:aU)(w:be)(K:ak)(mg:aA->Option ae)(base:aX)(x:aA)(k n:Nat)(Pt:af)(F:qx):Prop where
 ex:∃f fd ps,mg x=JU (.ref f)/\cU K (.ref f)=Ka/\Binds K fd ps []/\o5 P w K mg base yI k f fd ps (AN K Bz n Pt F)
section
def oV.imp(c:oV P w K mg base x k n Pt F)(h:∀ds O H XV μ Q,oN K H XV μ O->rP qE K H XV μ (G ds O) Q->rP qE K H XV μ (F ds O) Q):oV P w K mg base x k n Pt G:=by obtain⟨f,b,e,g,i,j,l⟩:=c.ex;exact⟨f,b,e,g,i,j,l.imp λp H Q E ⟨m,XV,μ,ds,O,d,a,o,q⟩=>⟨m,XV,μ,ds,O,d,a,o,h ds O H XV μ Q a q⟩⟩
def oV.bad(c:oV P w K mg base x k n Pt F):oV P w K mg base x k n Pt (λ_ _=>.bad):=c.imp λ_ _ _ _ _ _ _ q=>aj q
def oV.self(c:oV P w K mg base x k n Pt F):oV P w K mg base x k n Pt F:=c
def oV.frz(c:oV P w K mg base x k n Pt F):oV P w K mg base x k n Pt (Ab F):=c.imp λd O H a e Q b q=>Mn b.len q
def Ll{f:af}{name b:aA}{j:jB}{body:List eO}{a:dS}{y B m C n ct J:ae}{G L:Option af}{M:Array (Option ae)}{N ps:List aA}{t:DS}
  (U:K.lookup f=JU ⟨J,L,.func (ck name b j body a y B m C G n ct),M⟩) (Y:fC K n b=Ka) (S:vt N ps a) (Z:N[i]?=JU z) (hz:¬ vH a z)
  (qC:∀(A:bD)(g:List Env)(s:ai)(H:Hp)(E:XK),oW k (A.deeper (d8 b a s.heap.objs.size f n))->ue (Cp P w K mg base N b a f n A g s H E) qE body t):
  o5 P w K mg base yI (k+1) f (ck name b j body a y B m C G n ct) ps (AN K Bz ps.length Pt (Af N.length i Pt t)):=by
 refine qz U Y S (λvs H Q E h=>h.1) λA g s H vs Q E hr h=>?_;obtain⟨hl,u,μ,I,O,d,c,ti,l⟩:=h;refine⟨_,(tL.fake Z hz (qC A g s H E hr).out).nox,u,μ,_,O,(Vq d N).set (d:=.tab Pt) (by unfold J5;exact⟨rfl,ti⟩) i,c,?_⟩;unfold Af at l;generalize t ((I.map JU++aR (N.length-I.length) J9).set i (JU (.tab Pt))) O=r at l;cases r with
 |nx σ O'=>exact λa_ o p x e q=>l .non o p x q IJ
 |rt d' O'=>exact λv o p x q r=>l v o p x q r
 |bk σ O'=>exact aj l
 |ct σ O'=>exact aj l
 |exc q O'=>exact λo p x c2=>l o p x c2
 |bad=>exact aj l
def WL(h:qP K mg x st)(S:vt N ps (rC st))(m:N[i]?=JU z)(n:¬ vH (rC st) z)
  (o:∀(e c g:ae)(j:Option af)(b l:ae)(d:List ae),d.length=ps.length->bindArgs (ck x x (xP st) (uF st) (rC st) .none e c g j b l) ⟨d,[]⟩=pure (ps.zip d))
  (p:∀(f:af)(b:ae)(A:bD)(a:List Env)(s:ai)(H:Hp)(E:XK),oW k (A.deeper (d8 x (rC st) s.heap.objs.size f b))->ue (Cp P w K mg base N x (rC st) f b A a s H E) qE (uF st) t):
  oV P w K mg base x (k+1) ps.length Pt (Af N.length i Pt t):=by obtain⟨f,q,r,F⟩:=h;refine⟨f,q,ps,r,F.kp,F.binds o,?_⟩;obtain⟨B,C,e,c,g,j,b,l,G,rfl,u,v⟩:=F.ex;exact Ll u v S m n λA a s H E y=>p f b A a s H E y
def Qj(h:BC K mg x st c)(S:vt N ps (rC st))(n:N[i]?=JU z)(o:¬ vH (rC st) z)
  (p:∀(e b g:ae)(j:Option af)(l m:ae)(d:List ae),d.length=ps.length->bindArgs (ck x x (xP st) (uF st) (rC st) .none e b g j l m) ⟨d,[]⟩=pure (ps.zip d))
  (q:∀(f:af)(A:bD)(a:List Env)(s:ai)(H:Hp)(E:XK),oW k (A.deeper (d8 x (rC st) s.heap.objs.size f (.ref c)))->ue (Cp P w K mg base N x (rC st) f (.ref c) A a s H E) qE (uF st) t):
  oV P w K mg base x (k+1) ps.length Pt (Af N.length i Pt t):=by obtain⟨f,r,u,F,v⟩:=h.ex;refine⟨f,r,ps,u,F.kp,F.binds p,?_⟩;obtain⟨G,I,e,b,g,j,l,m,J,rfl,y,B⟩:=F.ex;cases (v);exact Ll y B S n o λA a s H E C=>q f A a s H E C
def Xw(F:L2.Fun K x x st f fd)(S:vt N ps (rC st))(c:N[i]?=JU z)(d:¬ vH (rC st) z)
  (e:∀(b:ae)(A:bD)(a:List Env)(s:ai)(H:Hp)(E:XK),oW k (A.deeper (d8 x (rC st) s.heap.objs.size f b))->ue (Cp P w K mg base N x (rC st) f b A a s H E) qE (uF st) t):
  o5 P w K mg base yI (k+1) f fd ps (AN K Bz ps.length Pt (Af N.length i Pt t)):=by obtain⟨m,n,o,g,p,q,b,r,u,rfl,h,j⟩:=F.ex;exact Ll h j S c d λA a s H E l=>e b A a s H E l
end
def FD(c:oV X.prog X.w X.K X.mg X.base x k n Pt F)(l:oW j X.A)(m:k<=j)(o:Gl X x)(r:uS X qE (e::es) t)
  (s:sU x:=by decide) (u:aL (e::es) X.env=(Kb,eval e X.env)::aL es X.env:=by rfl) (y:(backTo pos (aL es X.env)).any (·.1)=Kb:=by rfl):
  PD X qE (.Call (.Name x p) (e::es) [] pos) (vn Pt iT n F t):=by
 obtain⟨f,fd,ps,B,C,E,G⟩:=c.ex;refine sJ (IL (G.mono m) l o B C E .nil Ip r.out s u y) λa I J O a_ H Q h L q=>?_;obtain⟨M,q⟩:o4 H Pt/\rP qE X.K H a I (n_ n F t J O) Q:=by
  unfold vn at q;split at q
  ·rename_i p N;by_cases b:p=Pt
   ·rw[Kd b] at q;obtain⟨v,_,d⟩:=h.at_ iT _ N;rw[b] at d;exact⟨d.2,q⟩
   ·rw[Kf b] at q;exact aj q
  ·exact aj q
 refine vA.go h L q λP S vs H1 U e2 Y Z i g=>?_;obtain⟨hl,g⟩:=post.ite g;refine⟨by rw[bX,<- i.length];exact hl,a,U,P,S,?_,Z,Y.tab _ M,g⟩;rw[bX];exact i
def walkU{l:l9}{q:aU}{loose:List aA}{XP:(aA->Option ae)->aX->Prop}{r:be->aX->Prop}{d:DefRec}{K:iX->ak}{k:Nat}{x xd:aA}{F:Nat->qx}{α:Type}{Yf:ai->α}{Ya:be->α}(N:l.most=JU 63)(P:d.params.defaults=[])(Q:oW k callerA)
  (S:∀w s,Yf s=Ya w->r w s.heap) (U:∀w h B,r w h->(∀b o,h.get? b=JU o->B.get? b=JU o)->r w B)
  (Z:∀(w:be)(h:aX),r w h->(K w.params).In h) (uH:((PyProof.Rows.recsOf q).find? (λe=>e.name==xd)).isSome=Ka)
  (hF:∀(w:be)(i:aA->Option ae)(t:af)(h:aX),(K w.params).In h->h.Ns b9 i->i d.name=JU (.ref t)->
   jo (K w.params)=Ka/\∃(c Pt:af),jM (K w.params) xd=JU (c,Pt)/\∃v:fj,(∀(s:ai)(u:ae),kW s v ⟨[u],[]⟩ [(x,u)])/\∀base:aX,(K w.params).In base->base.Ns b9 i->yk i base c Pt->o5 l.prog w (K w.params) i base yI k t v [x] (AN (K w.params) Bz 1 Pt (F Pt)))
  (m:∀(Pt:Nat)(ns:List Int),ns.length<=63->∃O,F Pt [.lst (ns.map .int)] []=.ok (.bl Ka) O):
  PySem.W.WalkX q loose XP (λs=>(Yf s,decide (0<s.toks))) (λw=>(Ya w,Ka)) l.row.toRowW d [] (λf C=>PySem.call f C):=by
 refine Att.attach_call N P S U λw E m_ i mb t o pm cd doc a C ns G Y ho I rA GX Dp n j hg qY=>?_;have y:=Z w _ Y;obtain⟨hK,c,Pt,ht,v,hb,hG⟩:=hF w i t _ y G.T.g GX;obtain⟨dd,J⟩:=gi.mp uH;have hnm:dd.name=xd:=by simpa using List.find?_some J
 obtain⟨hC,L⟩:=PySem.W.tab_of G.T y J ht;have hB:m_.heap.BuiltinsAt i Pt:=by
  obtain⟨bm,ob,b1,b2,p,M,b5,A⟩:=G.T.bmain;refine⟨bm,ob,b1,b2,λq=>?_,λq=>?_,p,M,b5,A⟩
  ·obtain⟨o,es,ep,e,I,_⟩:=G.T.g;rw[q,e] at p;cases p;rw[I] at A;cases A
  ·rw[q,L] at p;cases p;cases M
 exact zbJ y G.T.g G.T.b G.T.builtins G.T.nolimit hg qY Dp n (aI j 'u') Q hC L hK hB hG hb (λH hT hS=>ZX (m Pt ns j) hT hS) λH e s' z=>z
def oN.laidX(f:oN K H XV μ O)(b:H p=J9):oN K (upd H p o) (p::XV) μ O:=by
 have d:=f.laid (o:=o) b;refine⟨d.len,d.nd,λa m z=>?_,λa m=>?_,λk a e=>?_⟩
 ·rcases am.mp z with e|z
  ·obtain⟨k,g,h⟩:=cQ.mp m;obtain⟨_,_,_,c,_⟩:=f.at_ k p (by rw[au g,h,e]);rw[b] at c;cases c
  ·exact d.nh a m z
 ·rcases am.mp m with e|m
  ·rw[e,rO];simp
  ·exact d.ht a m
 ·obtain⟨i,j,l,c,n⟩:=f.at_ k a e;exact⟨i,j,l,by rw[qi (sQ c b)];exact c,n.mv ((Mv.hide b).trans (Ext.laid b).mv)⟩
end DL
namespace DL
open PySem L2 PyProof.Rows
def z7T{prog:aU}{w:be}{A:bD}{E:ae->ai->Prop}{s:ai}{p:af}{T:String}{o:Obj}{a:List ae}{n:Nat}{r:List aA}{Q:ae->ai->Prop}(y:T = "list" \/ T = "tuple")(B:s.heap.get? p=JU o)(C:o.cls=.type T)(G:o.data=.seq a.toArray n)(i:gA a r)(t:a.length<=4000000)
  (h:∀(d j:aX)(f:Array ae)(l:List aA)(c:Nat),(∀b g,s.heap.get? b=JU g->d.get? b=JU g)->(∀b g,d.get? b=JU g->j.get? b=JU g)->j.get? d.objs.size=JU { cls:=.type "list",data:=.seq f c }->gA f.toList l->l.Perm r->sortedS l=Ka->Q (.ref d.objs.size) { s with heap:=j }):
  aq (av prog w) A (call (.builtin "sorted") [.ref p]) Q E s:=by
 refine ij mY mq mr (mw _) ?_;refine aa (ah ?_);have Z:a.toArray.size<=aM:=by rw[aS];exact aI t 'u'
 refine aa (wpAny_collect_seq p y B C G λd H=>?_);refine aa (hJ ?_);have e0:a.toArray.toList=a:=by simp
 have m:(d.push (seqObj "list" a.toArray 0)).get? d.objs.size=JU (seqObj "list" a.toArray 0):=aB _ rfl;refine aa (bI (cj lz ⟨_,m,rfl⟩ kI (TS.list_sort_big lT m i.keysOf (λv1 v2 u e=>keyKind_strs (by rw[<- e];exact i)) t λI J L=>⟨_,rfl,?_⟩) (lA _)));obtain⟨M,N,O,P⟩:=sorted_out_str i J L;refine ah ⟨_,rfl,?_⟩;have S:=bR (bG λ_=>#[]) m rfl;have U:=ab (seqObj "list" #[] 0) (ab (seqObj "tuple" a.toArray 0) S);have Y:=bR (bG λ_=>(Kg I).map (·.2)) U rfl;refine h d _ _ M _ H (λb o v=>?_) Y N O P;have x:d.objs.size≠b:=λq=>absurd (aG v) (by rw[<- q];exact bM _);exact(bC _ _ x).trans (ab _ (ab _ ((bC _ _ x).trans (ab _ v))))
section
variable{X:Cx}{Ex:Nat->Hp->Prop}{H:Hp}{XV μ:List af}
def K5(K:ak):List V->Hp->VK->Prop:=λxs H Q=>∃p ss,xs=[.ref p]/\(sH K H p (ss.map λcs=>V.str ⟨cs.toArray⟩)\/qS K H p (ss.map λcs=>V.str ⟨cs.toArray⟩))/\ss.Nodup/\ss.length<=1000/\∀l,H l=J9->Q (.ref l) (upd H l (.lst ((rH ss).map λcs=>V.str ⟨cs.toArray⟩)))
def zc0:oY X (.builtin "sorted") (K5 X.K):=by
 intro t s Y H Z us Q I r h;obtain⟨p,a,rfl,sq,y,A,q⟩:=h;obtain⟨u,rfl,B⟩:=uW r;cases B;obtain⟨b,f,T,C,o,j,l,n,m⟩:∃b:List ae,oQ (a.map λd=>V.str ⟨d.toArray⟩) b/\∃T,(T = "list" \/ T = "tuple")/\∃o,s.heap.get? p=JU o/\o.cls=.type T/\∃n,o.data=.seq b.toArray n:=by
  rcases sq with sq|sq
  ·obtain⟨b,f,⟨o,j,l,n,m⟩,_⟩:=I.tuple sq;exact⟨b,f,_,.inr rfl,o,j,l,n,m⟩
  ·obtain⟨b,f,E,_⟩:=I.list sq;exact⟨b,f,_,.inl rfl,E.isList⟩
 have G:(a.map λd=>V.str ⟨d.toArray⟩)=(a.map toS).map V.str:=by rw[bw];rfl
 have J:=za3 (by rw[<- G];exact f);have v:b.length=a.length:=by have:=f.length;simpa using this.symm
 refine z7T C j l m J 'd' λL h' g os c M N O P w S=>?_;have e:=zgf w y S;subst e;have x:=I.kept M;have i:oQ ((rH a).map λd=>V.str ⟨d.toArray⟩) g.toList:=by
  have i:=MI P;rw[bw] at i;exact i
 have U:(rH a).length=a.length:=by have:=w.length_eq;simpa using this
 exact⟨.ref L.objs.size,_,x.laid (o:=.lst ((rH a).map λd=>V.str ⟨d.toArray⟩)) N (aw _) ⟨by rw[ar,U];exact aI A 'u',g.toList,c,i,by rw[O]⟩,rfl,q _ (x.hok.fresh (aw _))⟩
def HY(O:Ow)(ds:List D):R D:=match v_ ds with
 |some ss=>if ss.Nodup/\ss.length<=1000 then .ok (.lst ((rH ss).map .str)) O else .bad
 |none=>.bad
def CL:Ow->List D->R D:=λO xs=>match xs with
 |[.tup ds]=>HY O ds
 | [x]=>match sE O x with
  |some ds=>HY O ds
  |none=>.bad
 |_=>.bad
def SD{K:ak}{O:Ow}{p:af}{ds:List D}{a:List V}{Q:VK}(c:oN K H XV μ O)(d:sH K H p a\/qS K H p a)(e:oO K H XV μ ds a)(q:rP Ex K H XV μ (HY O ds) Q):K5 K [.ref p] H Q:=by
 unfold HY at q;split at q
 ·rename_i f g;obtain⟨⟨h,i⟩,q⟩:=post.ite q;have j:=IM e g;subst j;exact⟨p,f,rfl,d,h,i,λl b=>post.ok q (.laid b) (c.laid b) (J5.newL c b (Jl _))⟩
 ·exact aj q
def zhC:vp X Ex (K5 X.K) CL:=by
 intro H XV μ O h i Q c d q;unfold CL at q;split at q
 ·obtain⟨v,rfl,a⟩:=uz d;obtain⟨p,g,rfl,b,f⟩:=BO a rfl;exact SD c (.inl b) f q
 ·obtain⟨v,rfl,a⟩:=uz d;split at q
  ·rename_i e;obtain⟨p,g,rfl,b,f⟩:=xg c a e;exact SD c (.inr b) f q
  ·exact aj q
 ·exact aj q
end
noncomputable def K9(out sc:dS)(x:aA):Bool:=(match sc.kind with|.function=>Ka|_=>Kb) && !sc.isCoroutine && !sc.isGenerator&&decide ((sc.names.map (·.1)).Nodup)&&(sc.names.lookup x==JU .local)&&(sc.names.all λy=>!(y.2 == .cell)&&(!(y.2 == .local)||y.1==x))&&(sc.names.all λy=>!(y.2 == .free)||out.names.lookup y.1==JU .cell||out.names.lookup y.1==JU .free)
def Yk{a c:dS}{x:aA}(h:K9 a c x=Ka):QQ a c x:=by
 unfold K9 at h;simp only[aT,decide_eq_true_eq,aD] at h;obtain⟨⟨⟨⟨⟨⟨f,i⟩,j⟩,l⟩,m⟩,g⟩,n⟩:=h;refine⟨?_,by simpa using i,by simpa using j,l,λy b=>?_,by simpa using m,λy b d=>?_,λy b d=>?_⟩
 ·cases e:c.kind<;>rw[e] at f<;>first|rfl|cases f
 ·have:=(g y b).1;simpa using this
 ·have:=(g y b).2;rw[d] at this;simpa using this
 ·have:=n y b;rw[d] at this;simpa using this
def zdo{X:Cx}{Ex:Nat->Hp->Prop}{h:DE}{k i:Nat}{c Pt:af}{e:bi}{te:DE}{b:jB}{body:bi}{a:dS}{x:aA}{j l m n:Pos}(o:oW (k+2) X.A)(p:X.calm=Ka)(L:yk X.mg X.base c Pt)(r:X.env.code=.ref c)(t:K9 X.env.scope a x=Ka)(v:defaultsOf b X.env=([],[]))
  (y:∀(name d:aA)(cl:List (aA×af))(pm g ct u:ae),bindArgs (ez name d b body a cl pm g ct) ⟨[u],[]⟩=pure [(x,u)]) (B:(X.N++[x]).Nodup) (C:PD X Ex e te)
  (E:∀(q:aA)(f:af)(g:ae)(cl:List (aA×af))(A:bD)(outer:List Env)(s:ai)(H:Hp),oW k (A.deeper (yO q a s.heap.objs.size f g cl))->PD (Hw X.prog X.w X.K X.mg X.base (X.N++[x]) (yO q a s.heap.objs.size f g cl) A outer s H) qE body h)
  (G:Gl X "min") (I:X.mg "min" = J9) (J:aL [e] X.env=[(Kb,eval e X.env)]:=by rfl):PD X Ex (.Call (.Name "min" j) [e] [⟨JU (g7 "key"),.Lambda b body a l,n⟩] m) (D_ Pt i te h):=
 zh7 o p L r (Yk t) v y (λz=>(eD.mp B).2.2 x z x 'k' rfl) C E G I J
def z7Z{X:Cx}{Ex:Nat->Hp->Prop}{c f b:bi}{d:List bi}{h:List cL}{a:dS}{e l m:Pos}{y:aA}{i k:Nat}{ext:List aA}{it0:DI}{g:Tg}{ts:List DT}{j:List Cl}{te:DE}(_:Nx ext)(o:Bool)(n:X.calm=Ka)(p:X.N.Nodup)(q:X.N[i]?=JU y)(r:X.env.scope.names.lookup y=JU .local)(s:yJ X.env.scope a (X.N++ext) (qM (⟨it0,g,ts⟩::j)))(t:ud X Ex f b it0)(u:Ie X ext a f g d ts h j c te)
  (v:swapsWith (.ListComp c (⟨f,b,d,0⟩::h) a e) (JU (.Name y m)) l.line X.env=pure Ka) (w:ext.length=k:=by rfl) (A:∀x,cb b X.env x=pure x:=by intro _;rfl):
  PS X (.Assign [.Name y m] (.ListComp c (⟨f,b,d,0⟩::h) a e) l) (AJ (rd Ex X.K (qA o k it0 g ts j te)) (yS i)):=w▸za9 o ext n p q r t s u v A
end DL
namespace DL
open PySem L2
section
def z5V{w B G h:bi}{j:List bi}{Z:List cL}{f:dS}{l sR M:Pos}{y:aA}{i k:Nat}{ext:List aA}{it0:DI}{g:Tg}{ts:List DT}{P:List Cl}{tk tv:DE}(_:Nx ext)(pZ:X.calm=Ka)(hN:X.N.Nodup)(Bl:X.N[i]?=JU y)(hy:X.env.scope.names.lookup y=JU .local)(hb:yJ X.env.scope f (X.N++ext) (qM (⟨it0,g,ts⟩::P)))(hi:ud X Ex G h it0)
  (tZ:∀cells C s H r,PG (qO X (X.N++ext) f cells C s H r) G (g.rd X.K)/\cy (λe t=>rX (qO X (X.N++ext) f cells C s H r) qE e t) j ts/\o7 (qO X (X.N++ext) f cells C s H r) Z P/\PD (qO X (X.N++ext) f cells C s H r) qE w tk/\PD (qO X (X.N++ext) f cells C s H r) qE B tv)
  (zM:swapsWith (.DictComp w B (⟨G,h,j,0⟩::Z) f l) (JU (.Name y M)) sR.line X.env=pure Ka) (hk:ext.length=k:=by rfl)
  (hs:∀x,cb h X.env x=pure x:=by intro _;rfl):vI X Ex (.Assign [.Name y M] (.DictComp w B (⟨G,h,j,0⟩::Z) f l) sR) (qH i (Ah k it0 g ts P tk tv)):=by
 subst hk;refine⟨?_⟩;rintro S s a_ H E I ⟨U,μ,σ,O,e1,c1,q⟩;rw[iU _ _ _ _ zM];refine aa (fx (aa ?_));show aq _ X.A (do let _ <- comprehension (.DictComp w B (⟨G,h,j,0⟩::Z) f l) f X.env _ newDict Kb (eval h X.env) (JU (assign (.Name y M) X.env))) _ _ s;have q:oR Ex X.K H U μ ((Ah ext.length it0 g ts P tk tv σ O).bnS λd O1=>.nx (σ.set i (JU d)) O1) E:=q;unfold Ah at q;refine aa (cG (FZ (T7 w B) (use:=JU (assign (.Name y M) X.env)) (Q:=λ_ s'=>SP X S E .next s') pZ hi hb (λcells Cn s H r _ _ _=>Qc tZ cells Cn s H r) hs I e1 c1 ?_) (λ_ s' hq=>ah (ah hq)) λ_ _ e=>e);cases hr:BX ext.length it0 g ts P (Ck tk tv) σ O with
 |bad=>rw[hr] at q;exact q
 |exc c' O'=>rw[hr] at q;exact q
 | ok J7 O'=>
  rw[hr] at q;rintro L H' c_ nL x c ⟨ps,vs,rfl,hA,hl,dA⟩ s' C I' ns nC l1 y1 ce pn;obtain⟨m,hn⟩:=ns;have n1:L∉U:=λm=>c1.ht L m nL;show aq _ _ (assign (.Name y M) X.env (.ref L)) _ _ s';refine iC (Jj (v:=.ref L) I' hN Bl (.inl hy) rfl (λvw HD vS=>?_) (.inr hy));obtain⟨a,Dk,ha⟩:=vS;have Hm:C≠a:=by
   rcases ha with z|z
   ·rw[z];exact l1
   ·exact λe=>ce y a z e.symm
  refine⟨m,hn.sameBut Dk Hm,λh' Bf=>?_⟩;obtain⟨o,J⟩:=Inv.frzK (Inv.bare HD Bf nC l1 y1 ce pn) hA;have ea:Ea L H' c_ (upd H' L (.frz o (.dK ((ps.map λp=>kD p.1).zip vs)))) c_:=.putX (yj hA);have c2:=c.putX (o:=.frz o (.dK ((ps.map λp=>kD p.1).zip vs))) (yj hA);have Y:=x.ea.trans ea;have x3:Ext H μ (upd H' L (.frz o (.dK ((ps.map λp=>kD p.1).zip vs)))) c_:=⟨Y.pre,λb u g n ht=>Y.kept b u g n (sQ g nL) ht,Y.fresh,Y.there,Y.tab⟩;exact⟨_,_,J,q _ _ c_ x3 ((e1.ext x3).set (UX c2 n1 rO hl (dA.mv ea.mv)) i) c2.unhide⟩
end
end DL
namespace DL
open PySem L2 PyProof.Rows
def ltQ(p q:Int×Int):Bool:=vQ p.1 p.2 q.1 q.2
def Rb(a:ltQ p q=Ka)(b:ltQ q r=Ka):ltQ p r=Ka:=by unfold ltQ vQ at *;simp only[fV,aT,decide_eq_true_eq] at *;lia
def ze0(e:ltQ p q=Kb)(f:ltQ q p=Kb):p=q:=by
 obtain⟨a,b⟩:=p;obtain⟨c,d⟩:=q;unfold ltQ vQ at *;simp only[gY,iV,decide_eq_false_iff_not] at *;have:a=c:=by lia
 have:b=d:=by lia
 simp[*]
def YQ(a:ltQ p q=Kb)(b:ltQ r q=Ka):ltQ p r=Kb:=by
 cases h:ltQ p r with
 |false=>rfl
 |true=>rw[Rb h b] at a;cases a
def LR(p:Int×Int):ltQ p p=Kb:=by unfold ltQ vQ;simp
theorem Sb(val:Nat->Int×Int):∀n,argBest (λi j=>ltQ (val i) (val j)) n<=n/\∀j,j<=n->ltQ (val j) (val (argBest (λi j=>ltQ (val i) (val j)) n))=Kb
 |0=>⟨aw _,λj b=>by rw[Nat.le_zero.mp b];exact LR _⟩
 | n+1=>by
  obtain⟨d,c⟩:=Sb val n;show(if ltQ (val (n+1)) (val (argBest (λi j=>ltQ (val i) (val j)) n))=Ka then n+1 else argBest (λi j=>ltQ (val i) (val j)) n)<=n+1/\∀j,j<=n+1->ltQ (val j) (val (if ltQ (val (n+1)) (val (argBest (λi j=>ltQ (val i) (val j)) n))=Ka then n+1 else argBest (λi j=>ltQ (val i) (val j)) n))=Kb;by_cases a:ltQ (val (n+1)) (val (argBest (λi j=>ltQ (val i) (val j)) n))=Ka
  ·rw[Kd a];refine⟨aw _,λj b=>?_⟩;by_cases e:j=n+1
   ·rw[e];exact LR _
   ·exact YQ (c j 'd') a
  ·rw[Kf a];refine⟨by lia,λj b=>?_⟩;by_cases e:j=n+1
   ·rw[e];simpa using a
   ·exact c j 'd'
def v8:List (Int×Int)->Int×Int
 |[]=>(0,0)
 |x::l=>l.foldl (λb y=>if ltQ y b=Ka then y else b) x
def zi7(a:¬ ltQ z x=Ka)(b:ltQ x m=Kb):ltQ z m=Kb:=by unfold ltQ vQ at *;simp only[fV,aT,decide_eq_true_eq,gY,iV,decide_eq_false_iff_not] at *;lia
theorem LV:∀(l:List (Int×Int))(x:Int×Int),(l.foldl (λb y=>if ltQ y b=Ka then y else b) x=x\/l.foldl (λb y=>if ltQ y b=Ka then y else b) x∈l)/\ltQ x (l.foldl (λb y=>if ltQ y b=Ka then y else b) x)=Kb/\∀y∈l,ltQ y (l.foldl (λb y=>if ltQ y b=Ka then y else b) x)=Kb
 |[],x=>⟨.inl rfl,LR x,λ_ h=>(bB h).elim⟩
 | y::l,x=>by
  obtain⟨a,b,c⟩:=LV l (if ltQ y x=Ka then y else x);rw[fY];by_cases d:ltQ y x=Ka
  ·rw[Kd d] at a b c ⊢;refine⟨.inr ?_,?_,λz hz=>?_⟩
   ·rcases a with a|a
    ·rw[a];exact al
    ·exact ag _ a
   ·cases h:ltQ x (l.foldl (λb y=>if ltQ y b=Ka then y else b) y) with
    |false=>rfl
    |true=>rw[Rb d h] at b;cases b
   ·rcases am.mp hz with rfl|hz
    ·exact b
    ·exact c z hz
  ·rw[Kf d] at a b c ⊢;refine⟨?_,b,λz hz=>?_⟩
   ·rcases a with a|a
    ·exact .inl a
    ·exact .inr (ag _ a)
   ·rcases am.mp hz with rfl|hz
    ·exact zi7 d b
    ·exact c z hz
def zbl{l:List (Int×Int)}{p:Int×Int}(d:p∈l)(e:∀q∈l,ltQ q p=Kb):v8 l=p:=by
 cases l with
 |nil=>cases d
 | cons x l=>
  obtain⟨a,b,c⟩:=LV l x;have f:v8 (x::l)∈x::l:=by
   rcases a with a|a
   ·show l.foldl _ x∈_;rw[a];exact al
   ·exact ag _ a
  refine ze0 (e _ f) ?_;rcases am.mp d with rfl|h
  ·exact b
  ·exact c p h
def zhe{prog:aU}{w:be}{A:bD}{E:ae->ai->Prop}{s:ai}{Q:ae->ai->Prop}{p:af}{d:Array ae}{val:Nat->Int×Int}(n:A.handled=J9)(I:A.units+1<cLine)(q:s.heap.IsList p d)(J:0<d.size)
  (G:∀i v,d[i]?=JU v->∃a t u,v=.ref a/\s.heap.IsTuple a #[.int (val i).1 t,.int (val i).2 u])
  (h:∀v m x,d[argBest (λi j=>ltQ (val i) (val j)) (d.size-1)]?=JU v->(∀c o,s.heap.get? c=JU o->m.get? c=JU o)->Q v { s with heap:=m,toks:=x }):aq (av prog w) A (call (.builtin "min") [.ref p]) Q E s:=by
 have L:(toString "min" ++ toString ".loop":String) = "min.loop":=by decide
 refine kmb_tree nB mT mU (PySem.F.args_min1 _) ?_;show aq _ A.in1 (fQ "min" ["key", "default"] 0 ⟨[],[]⟩ >>= _) _ _ s;refine aa (iG (show fQ "min" ["key", "default"] 0 ⟨[],[]⟩=pure [J9,J9] from rfl) ?_);refine aa (ah ?_);refine aa (fv q ?_);refine aa (cF ?_);rw[L];generalize y:s.heap.push { cls:=.type "list_iterator",data:=.fields #[.ref p,.int 0 0] } = h2 at *;have B:h2.objs.size=s.heap.objs.size+1:=by rw[<- y,cx]
 have g:∀c o,s.heap.get? c=JU o->h2.get? c=JU o:=λc o e=>by rw[<- y];exact ab _ e
 have C:h2.IsListIter s.heap.objs.size p 0:=⟨_,by rw[<- y];exact aB _ rfl,rfl,rfl⟩;have H:p<s.heap.objs.size:=let ⟨o,e,_⟩:=q;aG e;have W:=i5 (prog:=prog) (w:=w) (A:=A.in1) n s.heap.objs.size p (bo H) d;refine ah ⟨d7 bP _,zew (kp:=λh=>∀c o,s.heap.get? c=JU o->h.get? c=JU o) (bt:=λi j=>ltQ (val i) (val j)) (S:=h2.objs.size) W ?_ ?_ ?_ J (λc o e=>ab _ (g c o e)) ⟨let ⟨o,e,r⟩:=C;⟨o,ab _ e,r⟩,let ⟨o,e,r⟩:=q;⟨o,ab _ (g _ o e),r⟩⟩ (aB _ rfl) ?_⟩
 ·rintro i j M N s' Q' E' l O P U;obtain⟨a,t,u,rfl,Y⟩:=G i M O;obtain⟨b,t',u',rfl,Z⟩:=G j N P;exact Zm (let ⟨o,e,r⟩:=Y;⟨o,l _ o e,r⟩) (let ⟨o,e,r⟩:=Z;⟨o,l _ o e,r⟩) I U
 ·intro z;have z:h2.objs.size=s.heap.objs.size\/h2.objs.size=p:=⇑z
  rw[B] at z;rcases z with z|z
  ·exact absurd z (dZ (cE _))
  ·exact absurd z (dZ (dg H))
 ·intro h m l n c o e;have f:c<s.heap.objs.size:=aG e;refine n c o (λz=>?_) (λz=>?_) (l c o e)
  ·have z:c=s.heap.objs.size:=⇑z
   rw[z] at f;exact absurd f (bM _)
  ·rw[z,B] at f;exact absurd (mV f) (bM _)
 ·intro v m x hP l;refine h v m x hP λc o e=>?_;have f:c<s.heap.objs.size:=aG e;refine l c o (λz=>?_) (λz=>?_) (ab _ (g c o e))
  ·have z:c=s.heap.objs.size:=⇑z
   rw[z] at f;exact absurd f (bM _)
  ·rw[z,B] at f;exact absurd (mV f) (bM _)
section
def QB(K:ak):List V->Hp->VK->Prop:=λxs H Q=>∃(p:af)(ws:List V)(ps:List (Int×Int)),xs=[.ref p]/\qS K H p ws/\ws.length=ps.length/\ps≠[]/\(∀(i:Nat)(w:V)(q:Int×Int),ws[i]?=JU w->ps[i]?=JU q->∃a,w=.ref a/\sH K H a [.int q.1,.int q.2])/\∀(i:Nat)(w:V),ws[i]?=JU w->ps[i]?=JU (v8 ps)->Q w H
def zcL(E:X.calm=Ka)(G:X.A.units+64<cLine):oY X (.builtin "min") (QB X.K):=by
 intro w s σ H xs us Q I r h;obtain⟨p,ws,b,rfl,J,L,M,f,q⟩:=h;obtain⟨u,rfl,N⟩:=uW r;cases N;obtain⟨c,g,O,_⟩:=I.list J;have B:c.length=b.length:=by rw[<- g.length];exact L
 have C:0<b.length:=List.length_pos_iff.mpr M;let val:Nat->Int×Int:=λi=>b.getD i (0,0);obtain⟨b1,P⟩:=Sb val (c.length-1);have l:argBest (λi j=>ltQ (val i) (val j)) (c.length-1)<b.length:=by lia
 have m:∀{i},(d:i<b.length)->val i=b[i]:=λ{i}d=>by
  show b.getD i (0,0)=_;rw[bz,au d];rfl
 have S:b[argBest (λi j=>ltQ (val i) (val j)) (c.length-1)]?=JU (v8 b):=by
  rw[au l];congr 1;refine(zbl (bT l) λy U=>?_).symm;obtain⟨j,Y,rfl⟩:=cQ.mp U;have:=P j 'd';rw[m Y,m l] at this;exact this
 refine wT I (zhe (val:=val) (I.ok.hd E) (ei (jf 'u' _) G) O.isList (by rw[aS];lia) (λi v e=>?_) λv h' Z e kp qY=>?_)
 ·have e:c[i]?=JU v:=⇑e
  obtain⟨x,n,o⟩:=F5 g e;have d:i<b.length:=by
   have:=(ao.mp e).1;lia
  obtain⟨a,rfl,sa⟩:=f i x b[i] n (au d);obtain⟨t,u,ht⟩:=zgy I sa;cases o;rw[m d];exact⟨a,t,u,rfl,ht⟩
 ·rw[aS] at e;have e:c[argBest (λi j=>ltQ (val i) (val j)) (c.length-1)]?=JU v:=⇑e
  obtain⟨x,n,o⟩:=F5 g e;exact⟨x,H,I.kept (t':=Z) kp,o,q _ x n S⟩
def AK:List D->Option (List (Int×Int))
 |[]=>JU []
 |.tup [.int i,.int j]::r=>(AK r).map ((i,j) :: ·)
 |_=>J9
theorem TV:∀l:List (Int×Int),AK (l.map λp=>.tup [.int p.1,.int p.2])=JU l
 |[]=>rfl
 | x::l=>by
  show(AK (l.map λp=>.tup [.int p.1,.int p.2])).map _=_;rw[TV l];rfl
theorem SM:∀{ds:List D}{ps:List (Int×Int)},AK ds=JU ps->ds=ps.map λp=>.tup [.int p.1,.int p.2]
 |[],ps,h=>by cases h;rfl
 | d::ds,ps,h=>by
  unfold AK at h;split at h
  ·rename_i e;cases e
  ·rename_i i j r e;cases e;cases a:AK ds with
   |none=>rw[a] at h;cases h
   | some qs=>
    rw[a] at h;cases h;rw[SM a];rfl
  ·cases h
def Ee:Ow->List D->R D:=λO xs=>match xs with
 | [x]=>match sE O x with
  | some ds=>match AK ds with
   |some ps=>if ps≠[] then .ok (.tup [.int (v8 ps).1,.int (v8 ps).2]) O else .bad
   |none=>.bad
  |none=>.bad
 |_=>.bad
def zhX:vp X Ex (QB X.K) Ee:=by
 intro H f r O B C Q c d q;unfold Ee at q;split at q
 ·rename_i x;obtain⟨v,rfl,s⟩:=uz d;split at q
  ·rename_i E e;obtain⟨p,g,rfl,t,j⟩:=xg c s e;split at q
   ·rename_i l u;obtain⟨A,q⟩:=post.ite q;have m:=SM u;have n:∀(i:Nat)(w:V)(y:Int×Int),g[i]?=JU w->l[i]?=JU y->J5 X.K H f r (.tup [.int y.1,.int y.2]) w:=λi w y a b=>by
     obtain⟨G,o,h⟩:=j.get (i:=i) (d:=.tup [.int y.1,.int y.2]) (by rw[m,aZ,b];rfl);rw[a] at o;cases o;exact h
    refine⟨p,g,l,rfl,t,by rw[<- j.length,m,ar],A,λi w y a b=>zdx (n i w y a b),λi w a b=>post.here q c (n i w _ a b)⟩
   ·exact aj q
  ·exact aj q
 ·exact aj q
end
end DL
namespace DLC
section
variable{α:Type}[DecidableEq α]
abbrev Held(α:Type):=List (k_×List α)
def keys(h:Held α):l_:=h.map (·.1)
def hold(h:Held α)(x:α):l_:=(h.filter λkv=>kv.2.contains x).map (·.1)
noncomputable def at_(h:Held α)(t:k_):List α:=((h.find? λkv=>decide (kv.1=t)).map (·.2)).getD []
def drop(h:Held α)(t:k_):Held α:=h.filter λkv=>decide (kv.1≠t)
noncomputable def minGo(f:α->Nat):List α->α->α
 |[],b=>b
 |x::xs,b=>if f x<f b then minGo f xs x else minGo f xs b
def left(h:Held α)(w:List α)(t:k_):List α:=w.filter λx=>!(at_ h t).contains x
def covL(rec:Held α->List α->List l_)(h:Held α)(w:List α):l_->Held α->List l_
 |[],_=>[]
 |t::ts,r=>(rec (drop r t) (left h w t)).map (t :: ·)++covL rec h w ts (drop r t)
def cov:Nat->Held α->List α->List l_
 |_,_,[]=>[[]]
 |0,_,_::_=>[]
 |m+1,h,x::w=>covL (cov m) h (x::w) (hold h (minGo (λy=>(hold h y).length) w x)) h
theorem minGo_mem(f:α->Nat):∀(l:List α)(b:α),minGo f l b=b\/minGo f l b∈l
 |[],b=>.inl rfl
 | x::xs,b=>by
  unfold minGo;split
  ·rcases minGo_mem f xs x with h|h
   ·exact .inr (by rw[h];exact al)
   ·exact .inr (ag _ h)
  ·rcases minGo_mem f xs b with h|h
   ·exact .inl h
   ·exact .inr (ag _ h)
def Cov(h:Held α)(w:List α)(S:l_):Prop:=(∀t∈S,t∈keys h)/\∀x∈w,∃t∈S,x∈at_ h t
def mem_drop{h:Held α}{t:k_}{kv:k_×List α}:kv∈drop h t↔kv∈h/\kv.1≠t:=by unfold drop;simp
def keys_drop{h:Held α}{t s:k_}:s∈keys (drop h t)↔s∈keys h/\s≠t:=by
 unfold keys;simp only[ay,mem_drop];constructor
 ·rintro⟨a,⟨b,c⟩,rfl⟩;exact⟨⟨a,b,rfl⟩,c⟩
 ·rintro⟨⟨a,b,rfl⟩,c⟩;exact⟨a,⟨b,c⟩,rfl⟩
def nd_drop{h:Held α}{t:k_}(n:(keys h).Nodup):(keys (drop h t)).Nodup:=by exact n.sublist ((gm).map _)
def S6{h:Held α}{t s:k_}(b:s≠t):at_ (drop h t) s=at_ h s:=by
 unfold at_ drop;congr 2
 induction h with
 |nil=>rfl
 | cons kv r ih=>
  by_cases e:kv.1=t
  ·rw[di ⇑e,gC (by simpa using λz=>b (z.symm.trans e)),ih]
  ·rw[dj ⇑e];by_cases a:kv.1=s
   ·rw[iI ⇑a,iI ⇑a]
   ·rw[gC ⇑a,gC ⇑a,ih]
def at_mem{h:Held α}(n:(keys h).Nodup){kv:k_×List α}(m:kv∈h):at_ h kv.1=kv.2:=by
 unfold at_
 induction h with
 |nil=>cases m
 | cons a r ih=>
  unfold keys at n;rw[bH,bF] at n;rcases am.mp m with rfl|m
  ·rw[iI 'k'];rfl
  ·have b:a.1≠kv.1:=λz=>n.1 (z▸ay.mpr ⟨kv,m,rfl⟩);rw[gC ⇑b];exact ih n.2 m
def mem_hold{h:Held α}(n:(keys h).Nodup){x:α}{t:k_}:t∈hold h x↔t∈keys h/\x∈at_ h t:=by
 unfold hold;simp only[ay,bE,bb];constructor
 ·rintro⟨b,⟨a,c⟩,rfl⟩;exact⟨ay.mpr ⟨b,a,rfl⟩,by rw[at_mem n a];exact c⟩
 ·rintro⟨a,c⟩;obtain⟨b,d,rfl⟩:=ay.mp a;exact⟨b,⟨d,by rw[<- at_mem n d];exact c⟩,rfl⟩
def hold_nd{h:Held α}(n:(keys h).Nodup)(x:α):(hold h x).Nodup:=by exact n.sublist ((gm).map _)
def pN{h:Held α}{w:List α}{t:k_}{x:α}:x∈left h w t↔x∈w/\x∉at_ h t:=by unfold left;simp
theorem cov_sound:∀(m:Nat){h:Held α}{w:List α}{c:l_},(keys h).Nodup->c∈cov m h w->c.length<=m/\c.Nodup/\Cov h w c
 | m,h,[],c,n,hc=>by
  have:c=[]:=by unfold cov at hc;simpa using hc
  subst this;exact⟨bO _,gN,⟨λ_ z=>(bB z).elim,λ_ z=>(bB z).elim⟩⟩
 |0,h,x::w,c,n,hc=>by unfold cov at hc;cases hc
 | m+1,h,x::w,c,n,hc=>by
  have A:∀(b:l_)(r:Held α),(∀t∈b,t∈keys h)->(∀a∈r,a∈h)->(keys r).Nodup->c∈covL (cov m) h (x::w) b r->c.length<=m+1/\c.Nodup/\Cov h (x::w) c:=by
   intro b
   induction b with
   |nil=>intro r _ _ _ hc;cases hc
   | cons t b ih=>
    intro r g j l hc;rcases aO.mp hc with hc|hc
    ·obtain⟨q,B,rfl⟩:=ay.mp hc;obtain⟨C,E,u,G⟩:=cov_sound m (nd_drop l) B;have d:∀s∈q,s∈keys h/\s≠t:=λs hs=>by
      obtain⟨o,p⟩:=keys_drop.mp (u s hs);obtain⟨a,i,rfl⟩:=ay.mp o;exact⟨ay.mpr ⟨a,j a i,rfl⟩,p⟩
     have f:∀s∈q,at_ (drop r t) s=at_ h s:=λs hs=>by
      obtain⟨o,p⟩:=keys_drop.mp (u s hs);rw[S6 p];obtain⟨a,i,rfl⟩:=ay.mp o;rw[at_mem l i,at_mem n (j a i)]
     refine⟨by simpa using C,bF.mpr ⟨λz=>(d t z).2 rfl,E⟩,λs hs=>?_,λy H=>?_⟩
     ·rcases am.mp hs with rfl|hs
      ·exact g s al
      ·exact(d s hs).1
     ·by_cases e:y∈at_ h t
      ·exact⟨t,al,e⟩
      ·obtain⟨s,v,I⟩:=G y (pN.mpr ⟨H,e⟩);exact⟨s,ag _ v,by rw[<- f s v];exact I⟩
    ·exact ih (drop r t) (λs hs=>g s (ag _ hs)) (λa J=>j a (mem_drop.mp J).1) (nd_drop l) hc
  exact A _ h (λt g=>(mem_hold n).mp g |>.1) (λ_ h=>h) n hc
theorem cov_some:∀(m:Nat){h:Held α}{w:List α}{S:l_},(keys h).Nodup->Cov h w S->S.length<=m->∃c∈cov m h w,∀t∈c,t∈S
 |m,h,[],S,n,hS,hl=>⟨[],by unfold cov;simp,λ_ z=>(bB z).elim⟩
 | 0,h,x::w,S,n,hS,hl=>by
  obtain⟨t,a,_⟩:=hS.2 x al;have:S=[]:=cO.mp 'd';subst this;cases a
 | m+1,h,x::w,S,n,hS,hl=>by
  unfold cov;generalize v:minGo (λy=>(hold h y).length) w x=y;have J:y∈x::w:=by
   rcases minGo_mem (λy=>(hold h y).length) w x with e|e
   ·rw[<- v,e];exact al
   ·rw[<- v];exact ag _ e
  obtain⟨s,A,L⟩:=hS.2 y J;have hs:=(mem_hold n).mpr ⟨hS.1 s A,L⟩;have M:∀(b:l_)(r:Held α),(∃t∈b,t∈S)->(∀d∈r,d∈h)->(keys r).Nodup->(∀t∈S,t∈keys r)->b.Nodup->∃c∈covL (cov m) h (x::w) b r,∀t∈c,t∈S:=by
   intro b
   induction b with
   |nil=>rintro r ⟨_,h,_⟩;cases h
   | cons t b ih=>
    intro r g B i f N;by_cases a:t∈S
    ·have O:Cov (drop r t) (left h (x::w) t) (S.filter λs=>decide (s≠t)):=by
      refine⟨λs hs=>?_,λz P=>?_⟩
      ·obtain⟨j,l⟩:=bE.mp hs;exact keys_drop.mpr ⟨f s j,by simpa using l⟩
      ·obtain⟨j,l⟩:=pN.mp P;obtain⟨o,C,E⟩:=hS.2 z j;have G:o≠t:=λe=>l (e▸E);refine⟨o,bE.mpr ⟨C,by simpa using G⟩,?_⟩;rw[S6 G];obtain⟨d,H,rfl⟩:=ay.mp (f o C);rw[at_mem i H,<- at_mem n (B d H)];exact E
     have U:(S.filter λs=>decide (s≠t)).length<S.length:=by
      rcases kw (S.filter λs=>decide (s≠t)).length S.length with z|z
      ·exact z
      ·have e:=gm.eq_of_length (nU (bu _ _) z);rw[<- e] at a;have:=(bE.mp a).2;simp at this
     obtain⟨c,p,q⟩:=cov_some m (nd_drop i) O 'd';refine⟨t::c,bK _ (ay.mpr ⟨c,p,rfl⟩),λs hs=>?_⟩;rcases am.mp hs with rfl|hs
     ·exact a
     ·exact(bE.mp (q s hs)).1
    ·obtain⟨Q,u,I⟩:=g;have u:=(am.mp u).resolve_left (λe=>a (e▸I));obtain⟨c,p,q⟩:=ih (drop r t) ⟨Q,u,I⟩ (λd f=>B d (mem_drop.mp f).1) (nd_drop i) (λs hs=>keys_drop.mpr ⟨f s hs,λe=>a (e▸hs)⟩) (bF.mp N).2;exact⟨c,az _ p,q⟩
  exact M _ h ⟨s,hs,A⟩ (λ_ h=>h) n hS.1 (hold_nd n y)
end
section
variable{α:Type}[DecidableEq α]
def drop_lt{r:Held α}{t:k_}(b:t∈keys r):(drop r t).length<r.length:=by
 obtain⟨a,h,rfl⟩:=ay.mp b;rcases kw (drop r a.1).length r.length with z|z
 ·exact z
 ·have e:drop r a.1=r:=gm.eq_of_length (nU (bu _ _) z);rw[<- e] at h;exact absurd rfl (mem_drop.mp h).2
theorem perm_of_sub:∀{c S:l_},c.Nodup->(∀t∈c,t∈S)->S.length<=c.length->c.Perm S
 | [],S,_,_,h=>by
  have:S=[]:=cO.mp (Nat.le_zero.mp h);rw[this]
 | a::c,S,n,hs,h=>by
  have b:=hs a al;have d:=bF.mp n;have:=perm_of_sub (S:=S.erase a) d.2 (λt f=>(List.mem_erase_of_ne (λe:t=a=>d.1 (e▸f))).mpr (hs t (ag _ f))) (by
   rw[List.length_erase_of_mem b];rw[aV] at h;lia)
  exact(this.cons a).trans (List.perm_cons_erase b).symm
structure Lm(h:Held α)(w:List α)(m:Nat):Prop where
 nd:(keys h).Nodup
 ne:cov m h w≠[]
 no:∀j,j<m->cov j h w=[]
def Lm.le{h:Held α}{w:List α}{m:Nat}(z:Lm h w m){S:l_}(b:Cov h w S):m<=S.length:=by
 rcases kw S.length m with g|g
 ·obtain⟨c,a,_⟩:=cov_some S.length z.nd b (aw _);rw[z.no _ g] at a;cases a
 ·exact g
def Lm.len{h:Held α}{w:List α}{m:Nat}(z:Lm h w m){c:l_}(a:c∈cov m h w):c.length=m:=by obtain⟨d,_,b⟩:=cov_sound m z.nd a;have:=z.le b;lia
def Lm.all{h:Held α}{w:List α}{m:Nat}(z:Lm h w m){S:l_}(d:Cov h w S)(b:S.length=m):∃c∈cov m h w,c.Perm S:=by obtain⟨c,a,e⟩:=cov_some m z.nd d (i6 b);exact⟨c,a,perm_of_sub (cov_sound m z.nd a).2.1 e (by rw[z.len a,b];exact aw _)⟩
end
noncomputable def T(f:Nat->Nat):Nat->Nat->Nat
 |0,_=>0
 |_+1,0=>0
 |k+1,r+1=>f r+T f k r
def NB:Nat->Nat->Nat
 |0,_=>1
 |m+1,r=>max 1 (T (NB m) 8 r)
theorem T_mono{f:Nat->Nat}(c:∀a b,a<=b->f a<=f b):∀(k l a b:Nat),k<=l->a<=b->T f k a<=T f l b
 |0,_,_,_,_,_=>by unfold T;exact bO _
 |k+1,0,_,_,h,_=>by lia
 |k+1,l+1,0,_,_,_=>by unfold T;exact bO _
 |k+1,l+1,a+1,0,_,h=>by lia
 | k+1,l+1,a+1,b+1,h1,h2=>by
  have:=T_mono c k l a b 'd' 'd';have:=c a b 'd';unfold T;lia
theorem NB_mono:∀(m a b:Nat),a<=b->NB m a<=NB m b
 |0,_,_,_=>by unfold NB;exact aw _
 | m+1,a,b,h=>by
  have:=T_mono (NB_mono m) 8 8 a b (aw _) h;unfold NB;lia
def YO:NB 8 27<=1850000/\NB 7 27<=1850000/\NB 6 27<=1850000/\NB 5 27<=1850000/\NB 4 27<=1850000/\NB 3 27<=1850000/\NB 2 27<=1850000/\NB 1 27<=1850000/\NB 0 27<=1850000:=by decide +kernel
def NB_few{m r:Nat}(h:m<=8)(l:r<=27):NB m r<=1850000:=by
 refine aI (NB_mono m r 27 l) ?_;obtain⟨a,b,c,d,e,f,g,i,j⟩:=YO;have:m=0\/m=1\/m=2\/m=3\/m=4\/m=5\/m=6\/m=7\/m=8:=by lia
 rcases this with rfl|rfl|rfl|rfl|rfl|rfl|rfl|rfl|rfl<;>assumption
def T_step{f:Nat->Nat}(d:∀a b,a<=b->f a<=f b){a b k:Nat}(h:a<b):f a+T f k a<=T f (k+1) b:=by obtain⟨c,rfl⟩:∃c,b=c+1:=⟨b-1,by lia⟩;have:=d a c 'd';have:=T_mono d k k a c (aw _) 'd';show _<=f c+T f k c;lia
section
variable{α:Type}[DecidableEq α]
def H8(h:Held α):Prop:=∀x,(hold h x).length<=8
def H8.drop{h:Held α}(z:H8 h)(t:k_):H8 (DLC.drop h t):=λx=>by
 refine aI ?_ (z x);unfold hold;rw[ar,ar];exact(List.Sublist.filter _ gm).length_le
theorem T4{f:Nat->Nat}(c:∀a b,a<=b->f a<=f b){rec:Held α->List α->List l_}(d:∀r w,(keys r).Nodup->H8 r->(rec r w).length<=f r.length){h:Held α}{w:List α}:∀(ts:l_)(r:Held α),(∀t∈ts,t∈keys r)->ts.Nodup->(keys r).Nodup->H8 r->(covL rec h w ts r).length<=T f ts.length r.length
 |[],r,_,_,_,_=>bO _
 | t::ts,r,hk,nt,nr,hr=>by
  unfold covL;rw[aC,ar,aV];have i:=d (drop r t) (left h w t) (nd_drop nr) (hr.drop t);have j:=T4 (h:=h) (w:=w) c d ts (drop r t) (λs g=>keys_drop.mpr ⟨hk s (ag _ g),λe=>(bF.mp nt).1 (e▸g)⟩) (bF.mp nt).2 (nd_drop nr) (hr.drop t);have l:=T_step c (k:=ts.length) (drop_lt (hk t al));lia
theorem cov_NB:∀(m:Nat)(h:Held α)(w:List α),(keys h).Nodup->H8 h->(cov m h w).length<=NB m h.length
 | m,h,[],_,_=>by
  unfold cov;show 1<=_;cases m with
  |zero=>exact aw _
  |succ m=>unfold NB;lia
 |0,h,x::w,_,_=>by unfold cov;exact bO _
 | m+1,h,x::w,n,z=>by
  unfold cov;refine aI (T4 (NB_mono m) (cov_NB m) _ h (λt a=>((mem_hold n).mp a).1) (hold_nd n _) n z) ?_;have:=T_mono (NB_mono m) (hold h (minGo (λy=>(hold h y).length) w x)).length 8 h.length h.length (z _) (aw _);unfold NB;lia
end
end DLC
namespace DLB
def mkN(p:Nat->Bool):Nat->Nat
 |0=>0
 |N+1=>mkN p N+(if p N=Ka then 2 ^ N else 0)
theorem Lo(p:Nat->Bool):∀N,mkN p N<2 ^ N
 |0=>Nat.one_pos
 | N+1=>by
  have:=Lo p N;unfold mkN;split<;>lia
theorem mkN_bit(p:Nat->Bool)(i:Nat):∀N,(mkN p N).testBit i=(decide (i<N)&&p i)
 |0=>by unfold mkN;simp
 | N+1=>by
  have b:=mkN_bit p i N;have c:=Lo p N;unfold mkN;rcases Nat.lt_trichotomy i N with h|h|h
  ·have e:decide (i<N+1)=Ka:=by simp;lia
   rw[decide_eq_true h] at b;rw[e];split
   ·rw[mj,Nat.testBit_two_pow_add_gt h];exact b
   ·exact b
  ·subst h;have z:=eS c;by_cases a:p i=Ka
   ·rw[Kd a,mj,Nat.testBit_two_pow_add_eq,z,a];simp
   ·rw[Kf a,mn,z];simp[a]
  ·have e:decide (i<N+1)=Kb:=by simp;lia
   rw[e,iA];have d:=Lo p (N+1);exact eS (aW d (cR 'u' h))
theorem sum_mkN(p:Nat->Bool):∀N,(((aN N).filter p).map λi=>((2 ^ i:Nat):Int)).sum=(mkN p N:Nat)
 |0=>rfl
 | N+1=>by
  rw[nR,mz,cK,List.sum_append,sum_mkN p N];have e:mkN p (N+1)=mkN p N+(if p N=Ka then 2 ^ N else 0):=rfl;rw[e,eo,List.filter_nil];by_cases h:p N=Ka
  ·rw[Kd h,Kd h];simp
  ·rw[Kf h,Kf h];simp
noncomputable def V3(r:k_):Nat:=match r.getLast? with
 |some k=>k+1
 |none=>0
def ext(many:Nat)(r:k_):l_:=(aN (many-V3 r)).map λi=>r++[V3 r+i]
end DLB
namespace DL
open PySem L2
section
variable{X:Cx}{Ex:Nat->Hp->Prop}{pos:Pos}{a:bi}{ta:DE}
def KU(t:DE):DE:=λσ O=>(t σ O).bnd λx O1=>match x with
 |.int i=>.ok (.int (dk i)) O1
 |_=>.bad
def Zv(b:PD X Ex a ta):PD X Ex (.UnaryOp .Invert a pos) (KU ta):=
 sJ (X5 Zu b.out) λc h j O l H Q e f q=>rd.go e f q λd m v n o s x g r p=>by
  cases d with
  |int i=>unfold J5 at r;subst r;exact⟨i,rfl,post.here p g s9⟩
  |_=>exact aj p
end
noncomputable def dP(q:Int×Int):D:=.tup [.int q.1,.int q.2]
structure uu(K:ak)(H:Hp)(XV μ:List af)(g:Int->Option (Int×Int))(d_:List (Key×V)):Prop where
 nd:(d_.map (·.1)).Nodup
 all:∀kv∈d_,∃(i:Int)(q:Int×Int),kv.1=eN i/\1<=i/\i<16777216/\g i=JU q/\J5 K H XV μ (dP q) kv.2
def Fe(n:Nat)(O:Ow):Option Ow:=qo (qo (frz O n 8)) (O.take n)
section
variable{K:ak}{H H':Hp}{XV hid' μ c_ ν:List af}{g:Int->Option (Int×Int)}{d_:List (Key×V)}{i:Int}{q:Int×Int}{v:V}{p:af}
theorem Tx{k:Key}:∀{d_:List (Key×V)},rR d_ k=JU v->(k,v)∈d_
 |[],h=>by cases h
 | kv::r,h=>by
  by_cases e:kv.1=k
  ·rw[xx e] at h;cases h;subst e;exact al
  ·rw[xk e] at h;exact ag _ (Tx h)
theorem TR{k:Key}{v:V}:∀{d_:List (Key×V)},rR d_ k=J9->k∉d_.map (·.1)
 |[],_=>by simp
 | kv::r,h=>by
  by_cases e:kv.1=k
  ·rw[xx e] at h;cases h
  ·rw[xk e] at h;rw[bH];intro m;rcases am.mp m with m|m
   ·exact e m.symm
   ·exact TR (v:=v) h m
def uu.nil:uu K H XV μ g []:=⟨gN,λ_ m=>(bB m).elim⟩
def uu.mv(h:uu K H XV μ g d_)(e:Mv H XV μ H' hid' c_):uu K H' hid' c_ g d_:=⟨h.nd,λj m=>let ⟨i,q,a,b,c,d,f⟩:=h.all j m;⟨i,q,a,b,c,d,f.mv e⟩⟩
def uu.get(h:uu K H XV μ g d_)(e:rR d_ (.inl i)=JU v)(b:g i=JU q):J5 K H XV μ (dP q) v:=by obtain⟨j,r,a,_,_,d,f⟩:=h.all _ (Tx e);cases a;rw[b] at d;cases d;exact f
theorem uu.few(h:uu K H XV μ g d_):d_.length<aM:=by
 have d:∀c∈d_.map (·.1),∃j:Int,c=.inl j/\1<=j/\j<16777216:=λc e=>by
  obtain⟨f,m,rfl⟩:=ay.mp e;obtain⟨j,_,l,n,o,_⟩:=h.all f m;exact⟨j,l,n,o⟩
 have r:((d_.map (·.1)).map λk=>match k with|.inl j=>j.toNat|.inr _=>0).Nodup:=by
  refine gH.mpr (h.nd.imp_of_mem λ{a b}ma mb ne z=>ne ?_);obtain⟨x,rfl,t,u⟩:=d a ma;obtain⟨y,rfl,w,A⟩:=d b mb;have z:x.toNat=y.toNat:=z;congr 1;lia
 have:=r.length_le_of_subset (l₂:=(aN 16777215).map (· + 1)) λc e=>by
  obtain⟨k,s,rfl⟩:=ay.mp e;obtain⟨j,rfl,B,C⟩:=d k s;exact ay.mpr ⟨j.toNat-1,ba.mpr 'd',by show j.toNat-1+1=j.toNat;lia⟩
 rw[ar,ar,ar,bS] at this;show d_.length<16777216;lia
def uu.put(h:uu K H XV μ g d_)(j:1<=i)(l:i<16777216)(n:g i=JU q)(d:J5 K H XV μ (dP q) v):uu K H XV μ g (t6 d_ (.inl i) v):=by
 by_cases e:(d_.any λc=>decide (c.1=eN i))=Ka
 ·unfold t6;rw[Kd e];refine⟨?_,λc m=>?_⟩
  ·rw[bw];have:((λc:Key×V=>c.1)∘λc:Key×V=>if c.1=eN i then (c.1,v) else c)=λc=>c.1:=by
    funext c;show(if c.1=eN i then (c.1,v) else c).1=c.1;split<;>rfl
   rw[this];exact h.nd
  ·obtain⟨o,r,rfl⟩:=ay.mp m;by_cases z:o.1=eN i
   ·rw[Kd z];exact⟨i,q,z,j,l,n,d⟩
   ·rw[Kf z];exact h.all o r
 ·have e:rR d_ (eN i)=J9:=by
   rw[Eu] at e;simpa using e
  rw[TX v e];refine⟨?_,λc m=>?_⟩
  ·rw[cK,eD];refine⟨h.nd,by simp,λa s b f z=>?_⟩;have f:b=eN i:=⇑f
   exact TR (v:=v) e (by rw[<- f,<- z];exact s)
  ·rcases aO.mp m with m|m
   ·exact h.all c m
   ·have m:c=(eN i,v):=⇑m
    subst m;exact⟨i,q,rfl,j,l,n,d⟩
def Rn(h:J5 K H XV (μ++ν) (dP q) v):J5 K H XV μ (dP q) v:=by unfold dP J5 at h ⊢;obtain⟨a,b,r,l,q⟩:=h;refine⟨a,b,r,l.imp (λz=>⟨z.1,z.2.1,λm=>z.2.2 (bK _ m)⟩) id,?_⟩;obtain⟨v,w,rfl,c,d⟩:=CD q;exact .cons c (.cons d .nil)
def uu.cut(h:uu K H XV (μ++ν) g d_):uu K H XV μ g d_:=⟨h.nd,λe m=>let ⟨i,q,a,b,c,d,f⟩:=h.all e m;⟨i,q,a,b,c,d,Rn f⟩⟩
def Ea.cut(e:Ea p H μ H' c_):Ea p H μ H' μ:=⟨⟨[],by simp⟩,e.kept,λ_ m=>.inl m,e.there,e.tab⟩
def oN.cut{O O2:Ow}{n:Nat}(c:oN K H XV (μ++ν) O)(b:μ.length=n)(e:Fe n O=JU O2):oN K H XV μ O2:=by
 have f:=c.len.symm;have d:qo (qo (frz O n 8)) (O.take n)=JU O2:=e;refine⟨?_,(eD.mp c.nd).1,λa m=>c.nh a (bK _ m),c.ht,λk a e=>?_⟩
 ·rw[F1 d,bL,f,aC,b];lia
 ·have o:=(ao.mp e).1;obtain⟨r,h,s,t,u⟩:=c.at_ k a (by rw[aH o];exact e);have j:k<O2.length:=by rw[F1 d,bL,f,aC,b];lia
  obtain⟨w,l,x⟩:=MB d (au j);have:w=r:=by
   rw[iq,Kd 'd',s] at l;cases l;rfl
  subst this;exact⟨_,h,au j,t,EB (Lg c b 8) _ _ h x u⟩
end
def W4(K:ak)(G:D->D->Int->Option (Int×Int))(lv:Int->Nat)(ug:Ow->Bool)(k:Nat):Sp:=λvs H Q _=>∃(XV μ:List af)(O:Ow)(d1 d2:D)(v1 v2:V)(i:Int)(p:af)(d_:List (Key×V))(q:Int×Int),vs=[v1,v2,.int i,.ref p]/\
 J5 K H (p::XV) μ d1 v1/\J5 K H (p::XV) μ d2 v2/\oN K H (p::XV) μ O/\H p=JU (.dK d_)/\uu K H (p::XV) μ (G d1 d2) d_/\lv i<=k/\ug O=Ka/\G d1 d2 i=JU q/\
 ∀v H' rq,Ea p H μ H' μ->oN K H' (p::XV) μ O->J5 K H' (p::XV) μ (dP q) v->H' p=JU (.dK rq)->uu K H' (p::XV) μ (G d1 d2) rq->Q v H'
def Co(g:Int->Option (Int×Int))(lv:Int->Nat)(ug:Ow->Bool)(k:Nat)(t:DE):DE:=λσ O=>(t σ O).bnd λx O1=>match x with
 | .int j=>if lv j<=k/\ug O1=Ka then (match g j with
  |some q=>.ok (dP q) O1
  |none=>.bad) else .bad
 |_=>.bad
def sM(tF tG:DE)(it:DI)(tt:DT)(tR tA tm:DE):DS:=qd (qH 4 tF) (qd (qH 5 tG) (qd (uC it (.two 6 7) (rW tt (qd (qH 8 tR) (t7 tA)) rY)) (qm tm)))
def C6(d1 d2:D)(i:Int)(p:af):Sg:=[JU d1,JU d2,JU (.int i),JU (.adr p),J9,J9,J9,J9,J9]
structure KS(tz:DT)(t0:DE)(R:DS)(d1 d2:D)(i:Int)(p:af)(q:Int×Int)(O:Ow):Prop where
 run:∃b,tz (C6 d1 d2 i p) O=.ok b O/\(b=Ka->t0 (C6 d1 d2 i p) O=.ok (dP q) O)/\(b=Kb->1<=i/\i<16777216/\∃O',R (C6 d1 d2 i p) O=.rt (dP q) O'/\Fe O.length O'=JU O)
def Qm(K:ak)(G:D->D->Int->Option (Int×Int))(tz:DT)(t0:DE)(R:D->D->DS):TS:=λE a_ H=>∃(XV μ:List af)(O:Ow)(d1 d2:D)(v1 v2:V)(i:Int)(p:af)(d_:List (Key×V))(q:Int×Int),a_=[JU v1,JU v2,JU (.int i),JU (.ref p),J9,J9,J9,J9,J9]/\
    J5 K H (p::XV) μ d1 v1/\J5 K H (p::XV) μ d2 v2/\oN K H (p::XV) μ O/\H p=JU (.dK d_)/\uu K H (p::XV) μ (G d1 d2) d_/\G d1 d2 i=JU q/\
    KS tz t0 (R d1 d2) d1 d2 i p q O/\
    ∀v H' rq,Ea p H μ H' μ->oN K H' (p::XV) μ O->J5 K H' (p::XV) μ (dP q) v->H' p=JU (.dK rq)->uu K H' (p::XV) μ (G d1 d2) rq->E.rt v H'
def R5{i:Nat}{t:DE}{u:DS}{σ:Sg}{O a:Ow}{d:D}(h:qd (qH i t) u σ O=.rt d a):∃x O1,t σ O=.ok x O1/\u (σ.set i (JU x)) O1=.rt d a:=by
 unfold qd qH at h;cases e:t σ O with
 |ok x O1=>rw[e] at h;exact⟨x,O1,rfl,h⟩
 |exc c O1=>rw[e] at h;cases h
 |bad=>rw[e] at h;cases h
def AW(r:RS)(u:DS):RS:=match r with
 |.nx σ O=>u σ O
 |r=>r
def zfU{it:DI}{g:Tg}{b u:DS}{σ:Sg}{O a:Ow}{d:D}(h:qd (uC it g b) u σ O=.rt d a):
  ∃src O1,it σ O=.ok src O1/\AW (sj src (λd σ O=>match g.put d σ with|some σ'=>b σ' O|none=>.bad) (src.size O1) 0 σ O1) u=.rt d a:=by
 unfold qd uC at h;cases e:it σ O with
 |ok x O1=>rw[e] at h;exact⟨x,O1,rfl,h⟩
 |exc c O1=>rw[e] at h;cases h
 |bad=>rw[e] at h;cases h
section
variable{X:Cx}{Ex:Nat->Hp->Prop}
def zaw{G:D->D->Int->Option (Int×Int)}{lv:Int->Nat}{ug:Ow->Bool}{k:Nat}{E0:XK}{tz tt:DT}{t0 tF tG a3 Z N:DE}{it:DI}{sF sG sC:eO}{eZ e0 eL eK PQ PR PN WV tg Q eT eA eM:bi}{p1 p2 p3 p4 p5 p6 p7 p8 p9 p10 p11:Pos}
  (hp:jA (av X.prog X.w) X.A X.env X.xe) (hc:X.calm=Ka) (hu:X.A.units+1<cLine)
  (hz:rX X Ex eZ tz) (h0:PD X Ex e0 t0) (vL:PE X eL (yf 2)) (vK:PE X eK (yf 3)) (hm:behindInMarks .NotIn eK=Kb) (hF:PS X sF (AJ (rd Ex X.K tF) (yS 4))) (hG:PS X sG (AJ (rd Ex X.K tG) (yS 5)))
  (hi:ud X Ex tg Q it) (hg:PG X tg ((Tg.two 6 7).rd X.K)) (hs:∀x,cb Q X.env x=pure x) (ht:rX X Ex eT tt)
  (hC:PS X sC (AJ (Q7 (W4 X.K G lv ug k) [] E0 (D6 (yf 0) (D6 (yf 1) (D6 (rd Ex X.K a3) (D6 (yf 3) KP))))) (yS 8)))
  (hA:PD X Ex eA Z) (hsA:swapsWith eA J9 p1.line X.env=pure Kb) (hM:PD X Ex eM N) (VI:PE X PQ (yf 2)) (VL:PE X PR (yf 3)) (Ou:swapsWith eM (JU (.Subscript PR PQ p2)) p3.line X.env=pure Kb)
  (VH:PE X PN (yf 2)) (VJ:PE X WV (yf 3)) (Ca:Cu PN):
  tL X [.If eZ [.Return (JU e0) p4] [] p5,.If (.Compare eL [.NotIn] [eK] p6) [sF,sG,.For tg Q [.If eT [sC,.Expr eA p1] [] p7] [] p8,.Assign [.Subscript PR PQ p2] eM p3] [] p9,.Return (JU (.Subscript WV PN p10)) p11]
   (Qm X.K G tz t0 λC L=>sM tF tG it tt (Co (G C L) lv ug k a3) Z N):=by
 rintro YP s a_ H E I ⟨XV,μ,O,C,L,v1,v2,i,p,d_,q,rfl,Kk,hd2,cl,yD,kok,Wy,⟨b,hb,Cg,Hg⟩,hQ⟩;have Px:∀v o u l B,Ea p H μ o u->oN X.K o (p::XV) u l->Fe O.length l=JU O->J5 X.K o (p::XV) u (dP q) v->o p=JU (.dK B)->uu X.K o (p::XV) u (G C L) B->E.rt v o:=by
  intro v o u l B ea c5 Dx dv yY k5;obtain⟨ν,rfl⟩:=ea.pre;exact hQ v o B ea.cut (c5.cut cl.len Dx) (Rn dv) yY k5.cut
 have KH:∀v o u B,Ea p H μ o u->oN X.K o (p::XV) u O->J5 X.K o (p::XV) u (dP q) v->o p=JU (.dK B)->uu X.K o (p::XV) u (G C L) B->E.rt v o:=by
  intro v o u B ea c5 dv yY k5;obtain⟨ν,rfl⟩:=ea.pre;have hν:ν=[]:=by
   have l1:=cl.len;have l2:=c5.len;rw[aC] at l2;exact cO.mp 'd'
  subst hν;rw[bX] at *;exact hQ v o B ea c5 dv yY k5
 have Y:∀{o:Hp}{u:List af}{l:Ow},oN X.K o (p::XV) u l->p∉u:=λc m=>c.nh p m 'k';have WT:oP X.K H (p::XV) μ (C6 C L i p) [JU v1,JU v2,JU (.int i),JU (.ref p),J9,J9,J9,J9,J9]:=by
  refine⟨rfl,λj d e=>?_⟩;unfold C6 at e
  match j,e with
  |0,e=>cases e;exact⟨_,rfl,Kk⟩
  |1,e=>cases e;exact⟨_,rfl,hd2⟩
  |2,e=>cases e;exact⟨_,rfl,s9⟩
  |3,e=>cases e;exact⟨_,rfl,by unfold J5;rfl⟩
  |4,e=>cases e
  |5,e=>cases e
  |6,e=>cases e
  |7,e=>cases e
  |8,e=>cases e
  |j+9,e=>cases e
 refine(zx (HZ hz.out (CU (Ld h0.out)) IS) (zx (HZ (Ri (zav hu vL vK) hm) (zx hF (zx hG (zx (LA hp hc hi.out hg (CU (HZ ht.out (zx hC (CU (LP hA.out hsA))) IS)) hs) (CU (zg6 hu VL VI hM.out Ou))))) IS) (CU (Ld (So hu VJ VH Ca))))) YP s _ H E I ?_;refine⟨p::XV,μ,_,O,WT,cl,?_⟩;rw[hb];intro b' H1 f_ x1 c1 eb;cases eb;have xl:=x1.keep p _ yD (Y cl);have k1:=kok.mv (x1.mv (XV:=p::XV));have Bv:=WT.ext x1;cases b with
 | true=>
  rw[Kd rfl];refine⟨p::XV,f_,_,O,Bv,c1,?_⟩;rw[Cg rfl];intro v H2 qg x2 c2 dv;exact KH v H2 qg d_ (x1.ea.trans x2.ea) c2 dv (x2.keep p _ xl (Y c1)) (k1.mv (x2.mv (XV:=p::XV)))
 | false=>
  rw[Kf cz];obtain⟨i1,i2,S,vd,Dx⟩:=Hg rfl;refine⟨.int i,rfl,.ref p,rfl,p,rR d_ (.inl i),rfl,pA.k (k:=.inl i) xl,_,rfl,?_⟩;cases hv:rR d_ (.inl i) with
  | some v=>
   refine⟨.ref p,rfl,.int i,rfl,p,v,rfl,?_,?_⟩
   ·rw[<- hv];exact pA.k (k:=.inl i) xl
   ·exact KH v H1 f_ d_ x1.ea c1 (k1.get hv Wy) xl k1
  | none=>
   obtain⟨dF,M,eF,vd⟩:=R5 vd;refine⟨p::XV,f_,_,O,Bv,c1,?_⟩;rw[eF];intro vF H2 qg x2 c2 rF;have AA:=(Bv.ext x2).set rF 4;obtain⟨dG,O2,eG,vd⟩:=R5 vd;refine⟨p::XV,qg,_,M,AA,c2,?_⟩;rw[eG];intro vG H3 z7 x3 c3 rG;have DR:=(AA.ext x3).set rG 5;obtain⟨t,O3,eI,vd⟩:=zfU vd;refine⟨p::XV,z7,_,O2,DR,c3,?_⟩;rw[eI];intro J H4 DY x4 c4 sa;have Kr:=DR.ext x4;have DV:Ea p H μ H4 DY:=((x1.trans x2).trans (x3.trans x4)).ea;have Wl:=x4.keep p _ (x3.keep p _ (x2.keep p _ xl (Y c1)) (Y c2)) (Y c3);have k4:=k1.mv (((x2.trans x3).trans x4).mv (XV:=p::XV));refine⟨λn m U o=>∃u a l B,U[0]?=JU (JU v1)/\U[1]?=JU (JU v2)/\U[2]?=JU (JU (.int i))/\U[3]?=JU (JU (.ref p))/\Ea p H4 DY o u/\oP X.K o (p::XV) u a U/\oN X.K o (p::XV) u l/\o p=JU (.dK B)/\uu X.K o (p::XV) u (G C L) B/\
    AW (sj t (λd σ O=>match (Tg.two 6 7).put d σ with|some a=>(rW tt (qd (qH 8 (Co (G C L) lv ug k a3)) (t7 Z)) rY) a O|none=>.bad) m n a l) (qm N)=.rt (dP q) S,
    ⟨_,DY,_,O3,d_,rfl,rfl,rfl,rfl,.refl,Kr,c4,Wl,k4,vd⟩,?_⟩
   rintro n m xp H5 ⟨yb,Cr,P,Ba,s0,s1,s2,s3,PK,DQ,c5,yY,k5,g⟩;have zD:=sa (p::XV) H5 yb P PK.mv c5 n;cases qK:t.get P n with
   | none=>
    rw[qK] at zD;refine .inl ⟨zD,?_⟩;have Dl:qm N Cr P=.rt (dP q) S:=by
     cases m with
     | zero=>
      have h:AW (match t.get P n with|none=>.nx Cr P|some _=>.bad) (qm N)=.rt (dP q) S:=g;rw[qK] at h;exact h
     | succ f=>
      unfold sj at g;rw[qK] at g;exact g
    have hr7:N Cr P=.ok (dP q) S:=by
     unfold qm at Dl;cases e:N Cr P with
     |ok x M=>rw[e] at Dl;cases Dl;rfl
     |exc c M=>rw[e] at Dl;cases Dl
     |bad=>rw[e] at Dl;cases Dl
    refine⟨p::XV,yb,Cr,P,DQ,c5,?_⟩;rw[hr7];intro v H6 BA x6 c6 dv;have Au:=x6.keep p _ yY (Y c5);have k6:=k5.mv (x6.mv (XV:=p::XV));have AB:Ea p H6 BA (upd H6 p (.dK (t6 Ba (.inl i) v))) BA:=.putX (yj Au);refine⟨.ref p,s3,.int i,s2,p,_,rfl,pM.k (k:=.inl i) Au k6.few,.ref p,s3,.int i,s2,p,v,rfl,?_,?_⟩
    ·have:=pA.k (H:=upd H6 p (.dK (t6 Ba (.inl i) v))) (k:=.inl i) rO;rw[zeE,Kd rfl] at this;exact this
    ·exact Px v _ BA S _ ((DV.trans PK).trans (x6.ea.trans AB)) (c6.putX (yj Au)) Dx (dv.mv AB.mv) rO ((k6.put i1 i2 Wy dv).mv AB.mv)
   | some d=>
    rw[qK] at zD;obtain⟨go,yl⟩:=zD;cases m with
    | zero=>
     have h:AW (match t.get P n with|none=>.nx Cr P|some _=>.bad) (qm N)=.rt (dP q) S:=g;rw[qK] at h;cases h
    | succ f=>
     refine .inr ⟨go,λU o=>∃u a l B,U[0]?=JU (JU v1)/\U[1]?=JU (JU v2)/\U[2]?=JU (JU (.int i))/\U[3]?=JU (JU (.ref p))/\Ea p H4 DY o u/\oP X.K o (p::XV) u a U/\oN X.K o (p::XV) u l/\o p=JU (.dK B)/\uu X.K o (p::XV) u (G C L) B/\
      AW (sj t (λd σ O=>match (Tg.two 6 7).put d σ with|some a=>(rW tt (qd (qH 8 (Co (G C L) lv ug k a3)) (t7 Z)) rY) a O|none=>.bad) f (n+1) a l) (qm N)=.rt (dP q) S,λa o h=>⟨f,cE f,h⟩,λv H6 y=>?_⟩
     obtain⟨x6,c6,r6⟩:=yl v H6 y;have Au:=x6.keep p _ yY (Y c5);have k6:=k5.mv (x6.mv (XV:=p::XV));unfold sj at g;rw[qK] at g;dsimp only at g;cases uj:(Tg.two 6 7).put d Cr with
     |none=>rw[uj] at g;cases g
     | some xq=>
      rw[uj] at g;dsimp only at g;refine Tg.ok2 (Tg.two 6 7) (DQ.ext x6) r6 uj λzj WS xX=>?_;have NG:zj[0]?=JU (JU v1):=by rw[xX 0 (by simp[Tg.slots])];exact s0
      have NF:zj[1]?=JU (JU v2):=by rw[xX 1 (by simp[Tg.slots])];exact s1
      have VR:zj[2]?=JU (JU (.int i)):=by rw[xX 2 (by simp[Tg.slots])];exact s2
      have ND:zj[3]?=JU (JU (.ref p)):=by rw[xX 3 (by simp[Tg.slots])];exact s3
      refine⟨p::XV,yb,xq,P,WS,c6,?_⟩;unfold rW at g;cases Df:tt xq P with
      |bad=>rw[Df] at g;cases g
      |exc c l=>rw[Df] at g;cases g
      | ok b O6=>
       rw[Df] at g;intro b' H7 Qb x7 c7 eb;cases eb;have Wk:=x7.keep p _ Au (Y c6);have k7:=k6.mv (x7.mv (XV:=p::XV));have Kq:=WS.ext x7;have AB:=PK.trans (x6.trans x7).ea;cases b with
       | false=>
        rw[Kf cz];exact⟨Qb,xq,O6,Ba,NG,NF,VR,ND,AB,Kq,c7,Wk,k7,g⟩
       | true=>
        rw[Kd rfl];have O9:=(Kk.mv DV.mv).mv AB.mv;have OZ:=(hd2.mv DV.mv).mv AB.mv;refine⟨v1,NG,v2,NF,p::XV,Qb,xq,O6,Kq,c7,?_⟩;have g:AW (match (match (((a3 xq O6).bnd λx M=>match x with|.int j=>(if lv j<=k/\ug M=Ka then (match G C L j with|some q=>R.ok (dP q) M|none=>R.bad) else R.bad)|_=>R.bad).bnS λd M=>RS.nx (xq.set 8 (JU d)) M) with|.nx a l=>t7 Z a l|r=>r) with|.nx a l=>sj t _ f (n+1) a l|.ct a l=>sj t _ f (n+1) a l|.bk a l=>.nx a l|r=>r) (qm N)=.rt (dP q) S:=g;cases h3:a3 xq O6 with
        |bad=>rw[h3] at g;cases g
        |exc c l=>rw[h3] at g;cases g
        | ok x3 O7=>
         rw[h3] at g;cases x3 with
         | int j=>
          by_cases xW:lv j<=k/\ug O7=Ka
          case neg=>
           have g:AW (match (match (if lv j<=k/\ug O7=Ka then (match G C L j with|some q=>R.ok (dP q) O7|none=>R.bad) else R.bad).bnS λd M=>RS.nx (xq.set 8 (JU d)) M with|.nx a l=>t7 Z a l|r=>r) with|.nx a l=>sj t _ f (n+1) a l|.ct a l=>sj t _ f (n+1) a l|.bk a l=>.nx a l|r=>r) (qm N)=.rt (dP q) S:=g;rw[Kf xW] at g;cases g
          have g:AW (match (match (if lv j<=k/\ug O7=Ka then (match G C L j with|some q=>R.ok (dP q) O7|none=>R.bad) else R.bad).bnS λd M=>RS.nx (xq.set 8 (JU d)) M with|.nx a l=>t7 Z a l|r=>r) with|.nx a l=>sj t _ f (n+1) a l|.ct a l=>sj t _ f (n+1) a l|.bk a l=>.nx a l|r=>r) (qm N)=.rt (dP q) S:=g;rw[Kd xW] at g;cases hj:G C L j with
          |none=>rw[hj] at g;cases g
          | some qj=>
           rw[hj] at g;intro v3 H8 Qa x8 c8 r8;unfold J5 at r8;subst r8;have hp8:=x8.keep p _ Wk (Y c7);refine⟨.ref p,ND,XV,Qa,O7,C,L,v1,v2,j,p,Ba,qj,rfl,O9.mv x8.mv,OZ.mv x8.mv,c8,hp8,k7.mv x8.mv,xW.1,xW.2,hj,λv9 H9 N6 PF c9 WW hp9 k9=>?_⟩;refine⟨p::XV,Qa,xq.set 8 (JU (dP qj)),O7,((Kq.ext x8).mv PF.mv).set WW 8,c9,?_⟩;have g:AW (match (Z (xq.set 8 (JU (dP qj))) O7).bnS λ_ M=>RS.nx (xq.set 8 (JU (dP qj))) M with|.nx a l=>sj t _ f (n+1) a l|.ct a l=>sj t _ f (n+1) a l|.bk a l=>.nx a l|r=>r) (qm N)=.rt (dP q) S:=g;cases Pq:Z (xq.set 8 (JU (dP qj))) O7 with
           |bad=>rw[Pq] at g;cases g
           |exc c l=>rw[Pq] at g;cases g
           | ok xA O8=>
            rw[Pq] at g;intro v10 H10 KG JS c10 r10;have PM:=(x8.ea.trans PF).trans JS.ea;refine⟨KG,_,O8,N6,?_,?_,?_,?_,AB.trans PM,(((Kq.ext x8).mv PF.mv).set WW 8).ext JS,c10,JS.keep p _ hp9 (Y c9),k9.mv JS.mv,g⟩
            ·rw[bg 'u'];exact NG
            ·rw[bg 'u'];exact NF
            ·rw[bg 'u'];exact VR
            ·rw[bg 'u'];exact ND
         |_=>cases g
end
structure FN(P:aU)(w:be)(K:ak)(mg:aA->Option ae)(base:aX)(x:aA)(k:Nat)(G:D->D->Int->Option (Int×Int))(lv:Int->Nat)(ug:Ow->Bool)(j:Nat):Prop where
 ex:∃f fd ps,mg x=JU (.ref f)/\cU K (.ref f)=Ka/\Binds K fd ps []/\o5 P w K mg base yI k f fd ps (W4 K G lv ug j)
section
variable{P:aU}{w:be}{K:ak}{mg:aA->Option ae}{base:aX}{k j:Nat}{x:aA}{G:D->D->Int->Option (Int×Int)}{lv:Int->Nat}{ug:Ow->Bool}
def fnM{b:eO}{N ps:List aA}{tz:DT}{t0:DE}{R:D->D->DS}(h:qP K mg x b)(S:vt N ps (rC b))(v:N.length=9)(y:ps.length=4)
  (B:∀(n g o:ae)(r:Option af)(c t:ae)(l:List ae),l.length=ps.length->bindArgs (ck x x (xP b) (uF b) (rC b) .none n g o r c t) ⟨l,[]⟩=pure (ps.zip l))
  (C:∀d e i p q O,lv i<=j->ug O=Ka->G d e i=JU q->KS tz t0 (R d e) d e i p q O)
  (I:∀(f:af)(c:ae)(A:bD)(a:List Env)(s:ai)(H:Hp)(E:XK),oW k (A.deeper (d8 x (rC b) s.heap.objs.size f c))->tL (Cp P w K mg base N x (rC b) f c A a s H E) (uF b) (Qm K G tz t0 R)):
  FN P w K mg base x (k+1) G lv ug j:=by obtain⟨f,J,L,F⟩:=h;refine⟨f,J,ps,L,F.kp,F.binds B,?_⟩;obtain⟨oc,od,n,g,o,r,c,t,u_,rfl,M,U⟩:=F.ex;refine qz M U S (λY H Q E h=>by obtain⟨_,_,_,_,_,_,_,_,_,_,_,rfl,_⟩:=h;exact y.symm) λA a s H Y Q E Z h=>?_;obtain⟨m,μ,O,d,e,v1,v2,i,p,d_,q,rfl,a1,a2,a3,a4,a5,a6,a7,u,a9⟩:=h;refine⟨_,(I f c A a s H E Z).nox,m,μ,O,d,e,v1,v2,i,p,d_,q,?_,a1,a2,a3,a4,a5,u,C d e i p q O a6 a7 u,a9⟩;unfold L2.start;rw[v];rfl
def XI{a:eO}{ps:List aA}(h:qP K mg x a)(g:ps.length=4)
  (l:∀(m c n:ae)(o:Option af)(r t:ae)(b:List ae),b.length=ps.length->bindArgs (ck x x (xP a) (uF a) (rC a) .none m c n o r t) ⟨b,[]⟩=pure (ps.zip b)) (u:∀i,1<=lv i):
  FN P w K mg base x k G lv ug 0:=by obtain⟨f,v,y,F⟩:=h;refine⟨f,v,ps,y,F.kp,F.binds l,⟨λB H Q E h=>by obtain⟨_,_,_,_,_,_,_,_,_,_,_,rfl,_⟩:=h;exact g.symm,λA d s H e b B Q E J L M N h=>?_⟩⟩;obtain⟨C,S,O,U,Y,Z,v2,i,p,d_,q,rfl,a1,a2,a3,a4,a5,I,_⟩:=h;exact absurd I (by have:=u i;lia)
end
def Ik(G:D->D->Int->Option (Int×Int))(lv:Int->Nat)(ug:Ow->Bool)(j:Nat)(t1 t2 t3:DE):DE:=λσ O=>(t1 σ O).bnd λd1 O1=>(t2 σ O1).bnd λd2 O2=>(t3 σ O2).bnd λx O3=>match x with
 | .int i=>if lv i<=j/\ug O3=Ka then (match G d1 d2 i with
  |some q=>.ok (dP q) O3
  |none=>.bad) else .bad
 |_=>.bad
def zhQ{X:Cx}{x:aA}{k n j:Nat}{G:D->D->Int->Option (Int×Int)}{r:Int->Nat}{s:Ow->Bool}{p g b:Pos}{l d a:bi}{t u y:DE}(c:FN X.prog X.w X.K X.mg X.base x k G r s j)(P:oW n X.A)(S:k<=n)(U:Gl X x)(Y:PD X qE l t)(Z:PD X qE d u)(h3:PD X qE a y)
  (vf:sU x:=by decide) (B:aL [l,d,a,.Dict [] [] b] X.env=(Kb,eval l X.env)::aL [d,a,.Dict [] [] b] X.env:=by rfl) (s2:aL [d,a,.Dict [] [] b] X.env=(Kb,eval d X.env)::aL [a,.Dict [] [] b] X.env:=by rfl) (s3:aL [a,.Dict [] [] b] X.env=(Kb,eval a X.env)::aL [.Dict [] [] b] X.env:=by rfl)
  (r9:(backTo g (aL [d,a,.Dict [] [] b] X.env)).any (·.1)=Kb:=by rfl):PD X qE (.Call (.Name x p) [l,d,a,.Dict [] [] b] [] g) (Ik G r s j t u y):=by
 obtain⟨f,fd,ps,hm,uO,hb,F⟩:=c.ex;refine sJ (IL (F.mono S) P U hm uO hb .nil Ip (vP Y.out (vP Z.out (vP h3.out (vP zeJ BM) s3) s2) B) vf B r9) λe μ σ O a_ H Q ev cl q=>?_;refine rd.go ev cl q λC O1 v1 H1 f_ Bv x1 c1 r1 q=>rd.go Bv c1 q λE O2 v2 H2 qg AA x2 c2 r2 q=>rd.go AA c2 q λd3 O3 v3 I m DR J c3 L q=>?_;cases d3 with
 | int i=>
  obtain⟨M,q⟩:=post.ite q;cases o:G C E i with
  |none=>rw[o] at q;exact aj q
  | some qj=>
   rw[o] at q;unfold J5 at L;subst L;intro p h;have N:Mv I e m (upd I p (.dK [])) (p::e) m:=(Mv.hide h).trans (Ext.laid h).mv;refine⟨e,m,O3,C,E,v1,v2,i,p,[],qj,rfl,(r1.ext (x2.trans J)).mv N,(r2.ext J).mv N,c3.laidX h,rO,.nil,M.1,M.2,o,λv H' rq ea c4 dv Wl k4=>?_⟩;exact q v H' m (((Ext.laid h).ea.trans ea).ext h) c4.unhide (dv.mv .unhide)
 |_=>exact aj q
def HI:List aA->Bool
 |[]=>Ka
 |x::l=>!(l.contains x)&&HI l
theorem xi:∀{l:List aA},HI l=Ka->l.Nodup
 |[],_=>gN
 | x::l,h=>by
  unfold HI at h;rw[aT,gF] at h;refine bF.mpr ⟨λm=>?_,xi h.2⟩;rw[bb.mpr m] at h;exact Bool.noConfusion h.1
noncomputable def KW:Option gU->Bool
 |some .local=>Ka
 |some .cell=>Ka
 |_=>Kb
def zhO(h:KW o=Ka):o=JU .local\/o=JU .cell:=by
 unfold KW at h;split at h
 ·exact .inl rfl
 ·exact .inr rfl
 ·cases h
def kNf:gU->Bool
 |.free=>Kb
 |_=>Ka
def WM(N P:List aA)(sc:dS):Bool:=HI N&&(N.take P.length==P)&&P.all (λx=>KW (sc.names.lookup x))&&sc.names.all (λy=>kNf y.2)
def fnS(f:sc.kind=.function)(g:sc.isCoroutine=Kb)(i:sc.isGenerator=Kb)(h:WM N P sc=Ka):vt N P sc:=by unfold WM at h;simp only[aT] at h;obtain⟨⟨⟨a,b⟩,c⟩,d⟩:=h;refine⟨f,g,i,xi a,eq_of_beq b,λx j=>zhO (aD.mp c x j),λy l e=>?_⟩;have:=aD.mp d y l;rw[e] at this;cases this
end DL
namespace DL
open PySem
noncomputable def pl:Nat->D->Bool
 |n,.non=>Ka
 |n,.int _=>Ka
 |n,.str cs=>cs.all (· < 1114112)
 |n+1,.lst ds=>ds.all (pl n)
 |n+1,.tup ds=>ds.all (pl n)
 |_,_=>Kb
theorem Jn{α β:Type}{f:α->Option β}:∀{l:List α},(∀x∈l,∃y,f x=JU y)->∃m,qo f l=JU m
 |[],_=>⟨[],rfl⟩
 | x::l,h=>by
  obtain⟨y,a⟩:=h x al;obtain⟨m,b⟩:=Jn λz c=>h z (ag _ c);exact⟨y::m,by unfold qo;rw[a,b]⟩
def IQ(O:Ow):∀(n:Nat)(d:D),pl n d=Ka->∃p,qZ O n d=JU p:=by
 intro n
 induction n with
 | zero=>
  intro d h;cases d with
  |non=>exact⟨_,rfl⟩
  |int i=>exact⟨_,rfl⟩
  | str cs=>
   refine⟨.str ⟨cs.toArray⟩,?_⟩;show Ac cs=_;unfold Ac;rw[Kd (by simpa [pl] using h)]
  |_=>simp[pl] at h
 | succ n ih=>
  intro d h;cases d with
  |non=>exact⟨_,rfl⟩
  |int i=>exact⟨_,rfl⟩
  | str cs=>
   refine⟨.str ⟨cs.toArray⟩,?_⟩;show Ac cs=_;unfold Ac;rw[Kd (by simpa [pl] using h)]
  | lst ds=>
   obtain⟨m,a⟩:=Jn λx b=>ih x (aD.mp h x b);exact⟨.list m,by show(qo (qZ O n) ds).map fy=_;rw[a];rfl⟩
  | tup ds=>
   obtain⟨m,a⟩:=Jn λx b=>ih x (aD.mp h x b);exact⟨.tuple m,by show(qo (qZ O n) ds).map ip=_;rw[a];rfl⟩
  |_=>simp[pl] at h
theorem Vh{f:D->Option eQ}(R:∀x y p q,f x=JU p->f y=JU q->pl 0 x=pl 0 x->True){P:D->Prop}(d:∀x y p q,P x->P y->f x=JU p->f y=JU q->(br p q=Ka↔x=y)):
  ∀(xs a:List D)(ps b:List eQ),(∀x∈xs,P x)->(∀y∈a,P y)->qo f xs=JU ps->qo f a=JU b->(f8 ps b=Ka↔xs=a)
 |[],[],ps,b,_,_,e1,e2=>by cases e1;cases e2;simp[f8]
 | [],y::a,ps,b,_,_,e1,e2=>by
  cases e1;unfold qo at e2;split at e2
  ·cases e2;simp[f8]
  ·cases e2
 | x::xs,[],ps,b,_,_,e1,e2=>by
  cases e2;unfold qo at e1;split at e1
  ·cases e1;simp[f8]
  ·cases e1
 | x::xs,y::a,ps,b,h1,h2,e1,e2=>by
  unfold qo at e1 e2;split at e1
  ·rename_i p e h i;cases e1;split at e2
   ·rename_i q g j l;cases e2;have m:=d x y p q (h1 x al) (h2 y al) h j;have n:=Vh R d xs a e g (λz c=>h1 z (ag _ c)) (λz c=>h2 z (ag _ c)) i l;show(br p q&&f8 e g)=Ka↔_;rw[aT,m,n,nV]
   ·cases e2
  ·cases e1
def An(h:Ac cs=JU p):p=.str ⟨cs.toArray⟩:=by
 unfold Ac at h;split at h
 ·cases h;rfl
 ·cases h
def SO(a b:k_):br (.str ⟨a.toArray⟩) (.str ⟨b.toArray⟩)=Ka↔D.str a=D.str b:=by
 show((⟨a.toArray⟩:aA)==⟨b.toArray⟩)=Ka↔_;rw[beq_iff_eq];constructor
 ·intro h;have h:a.toArray=b.toArray:=by injection h
  rw[show a=b by simpa using congrArg l5 h]
 ·intro h;injection h with h;rw[h]
def RW(O:Ow):∀(n:Nat)(x y:D)(p q:eQ),pl n x=Ka->pl n y=Ka->qZ O n x=JU p->qZ O n y=JU q->(br p q=Ka↔x=y):=by
 intro n
 induction n with
 | zero=>
  intro x y p q w m o f;cases x with
  | non=>cases o;cases y with
   |non=>cases f;simp[br]
   |int j=>cases f;simp[br]
   |str b=>have:=An f;subst this;simp[br]
   |_=>simp[pl] at m
  | int i=>cases o;cases y with
   |non=>cases f;simp[br]
   |int j=>cases f;simp[br]
   |str b=>have:=An f;subst this;simp[br]
   |_=>simp[pl] at m
  | str a=>have:=An o;subst this;cases y with
   |non=>cases f;simp[br]
   |int j=>cases f;simp[br]
   |str b=>have:=An f;subst this;exact SO a b
   |_=>simp[pl] at m
  |_=>simp[pl] at w
 | succ n ih=>
  have A:∀t l g s,(t.all (pl n))=Ka->(l.all (pl n))=Ka->qo (qZ O n) t=JU g->qo (qZ O n) l=JU s->(f8 g s=Ka↔t=l):=λt l g s B C o f=>
   Vh (λ_ _ _ _ _ _ _=>trivial) (λx y p q a b c d=>ih x y p q a b c d) t l g s (aD.mp B) (aD.mp C) o f
  have u:∀{r:List D}{p},qZ O (n+1) (.lst r)=JU p->∃g,qo (qZ O n) r=JU g/\p=.list g:=λ{r p}e=>by
   have e:(qo (qZ O n) r).map fy=JU p:=e;cases h:qo (qZ O n) r with
   |none=>rw[h] at e;cases e
   |some g=>rw[h] at e;cases e;exact⟨g,rfl,rfl⟩
  have v:∀{r:List D}{p},qZ O (n+1) (.tup r)=JU p->∃g,qo (qZ O n) r=JU g/\p=.tuple g:=λ{r p}e=>by
   have e:(qo (qZ O n) r).map ip=JU p:=e;cases h:qo (qZ O n) r with
   |none=>rw[h] at e;cases e
   |some g=>rw[h] at e;cases e;exact⟨g,rfl,rfl⟩
  intro x y p q w m o f;cases x with
  | non=>cases o;cases y with
   |non=>cases f;simp[br]
   |int j=>cases f;simp[br]
   |str b=>have:=An f;subst this;simp[br]
   |lst l=>obtain⟨_,_,rfl⟩:=u f;simp[br]
   |tup l=>obtain⟨_,_,rfl⟩:=v f;simp[br]
   |_=>simp[pl] at m
  | int i=>cases o;cases y with
   |non=>cases f;simp[br]
   |int j=>cases f;simp[br]
   |str b=>have:=An f;subst this;simp[br]
   |lst l=>obtain⟨_,_,rfl⟩:=u f;simp[br]
   |tup l=>obtain⟨_,_,rfl⟩:=v f;simp[br]
   |_=>simp[pl] at m
  | str a=>have:=An o;subst this;cases y with
   |non=>cases f;simp[br]
   |int j=>cases f;simp[br]
   |str b=>have:=An f;subst this;exact SO a b
   |lst l=>obtain⟨_,_,rfl⟩:=u f;simp[br]
   |tup l=>obtain⟨_,_,rfl⟩:=v f;simp[br]
   |_=>simp[pl] at m
  | lst t=>obtain⟨g,B,rfl⟩:=u o;cases y with
   |non=>cases f;simp[br]
   |int j=>cases f;simp[br]
   |str b=>have:=An f;subst this;simp[br]
   | lst l=>
    obtain⟨s,C,rfl⟩:=u f;show f8 g s=Ka↔_;rw[A t l g s w m B C,D.lst.injEq]
   |tup l=>obtain⟨_,_,rfl⟩:=v f;simp[br]
   |_=>simp[pl] at m
  | tup t=>obtain⟨g,B,rfl⟩:=v o;cases y with
   |non=>cases f;simp[br]
   |int j=>cases f;simp[br]
   |str b=>have:=An f;subst this;simp[br]
   |lst l=>obtain⟨_,_,rfl⟩:=u f;simp[br]
   | tup l=>
    obtain⟨s,C,rfl⟩:=v f;show f8 g s=Ka↔_;rw[A t l g s w m B C,D.tup.injEq]
   |_=>simp[pl] at m
  |_=>simp[pl] at w
def K4(O:Ow)(a:pl 8 x=Ka)(c:pl 8 y=Ka)(f:b=Ka↔x=y):qf rB O x y=.ok (.bl b) O/\qf sD O x y=.ok (.bl !b) O:=by obtain⟨p,d⟩:=IQ O 8 x a;obtain⟨q,e⟩:=IQ O 8 y c;have h:=RW O 8 x y p q a c d e;have:=ee.mpr (h.trans f.symm);unfold qf py;rw[d,e];subst this;exact⟨rfl,rfl⟩
theorem T6(a:pl n x=Ka)(b:qZ O n x=JU p):∀(l:List D)(ps:List eQ),(l.all (pl n))=Ka->qo (qZ O n) l=JU ps->((ps.any λy=>br y p)=Ka↔x∈l)
 |[],ps,_,e=>by cases e;simp
 | y::l,ps,h,e=>by
  unfold qo at e;split at e
  ·rename_i q c d f;cases e;rw[iM,aT] at h;rw[g8,fV,RW O n y x q p h.1 a d b,T6 a b l c h.2 f,am];exact⟨λz=>z.imp Eq.symm id,λz=>z.imp Eq.symm id⟩
  ·cases e
def zb8(O:Ow):∀(n:Nat)(d:D)(p:eQ),pl n d=Ka->qZ O n d=JU p->qZ O (n+1) d=JU p:=by
 intro n
 induction n with
 |zero=>intro d p h e;cases d<;>first|exact e|(simp[pl] at h)
 | succ n ih=>
  have f:∀(a:List D)b,(a.all (pl n))=Ka->qo (qZ O n) a=JU b->qo (qZ O (n+1)) a=JU b:=by
   intro a
   induction a with
   |nil=>intro b _ e;exact e
   | cons x a ihd=>
    intro b h e;rw[iM,aT] at h;unfold qo at e ⊢;split at e
    ·rename_i q g j l;rw[ih x q h.1 j,ihd g h.2 l];exact e
    ·cases e
  intro d p h e;cases d with
  | lst a=>
   have e:(qo (qZ O n) a).map fy=JU p:=e;show(qo (qZ O (n+1)) a).map fy=JU p;cases c:qo (qZ O n) a with
   |none=>rw[c] at e;cases e
   |some b=>rw[c] at e;rw[f a b h c];exact e
  | tup a=>
   have e:(qo (qZ O n) a).map ip=JU p:=e;show(qo (qZ O (n+1)) a).map ip=JU p;cases c:qo (qZ O n) a with
   |none=>rw[c] at e;cases e
   |some b=>rw[c] at e;rw[f a b h c];exact e
  |non=>exact e
  |int i=>exact e
  |str cs=>exact e
  |_=>simp[pl] at h
def QJ(O:Ow){x y:D}{l:List D}(j:pl 7 x=Ka)(n:l.all (pl 7)=Ka)(a:sE O y=JU l\/y=.tup l){b:Bool}(q:b=Ka↔x∈l):Cj O x y=.ok (.bl b) O/\zr O x y=.ok (.bl !b) O:=by
 obtain⟨p,o⟩:=IQ O 7 x j;obtain⟨m,d⟩:=Jn λz r=>IQ O 7 z (aD.mp n z r);have h:=T6 j o l m n d;have e:=ee.mpr (h.trans q.symm);have f:py O x=JU p:=zb8 O 7 x p j o;rcases a with a|rfl
 ·have c:py O y=JU (.list m):=by
   cases y with
   |lst ds=>cases a;show(qo (qZ O 7) l).map fy=_;rw[d];rfl
   | own k=>
    have a:O[k]?=JU l:=a;show(match O[k]? with|some ds=>(qo (qZ O 7) ds).map fy|none=>J9)=_;rw[a];dsimp only;rw[d];rfl
   |_=>cases a
  have g:qf B8 O x y=.ok (.bl b) O:=by unfold qf;rw[f,c];subst e;rfl
  have i:qf D5 O x y=.ok (.bl !b) O:=by unfold qf;rw[f,c];subst e;rfl
  cases y with
  |lst ds=>exact⟨g,i⟩
  |own k=>exact⟨g,i⟩
  |_=>cases a
 ·have c:py O (.tup l)=JU (.tuple m):=by show(qo (qZ O 7) l).map ip=_;rw[d];rfl
  have g:qf B8 O x (.tup l)=.ok (.bl b) O:=by unfold qf;rw[f,c];subst e;rfl
  have i:qf D5 O x (.tup l)=.ok (.bl !b) O:=by unfold qf;rw[f,c];subst e;rfl
  exact⟨g,i⟩
def IY(c:t σ O=.ok (.bl a) O)(d:a=Ka->u σ O=.ok (.bl b) O):zm t u σ O=.ok (.bl (a&&b)) O:=by
 show((t σ O).bnd _)=_;rw[c];cases a with
 |true=>exact d rfl
 |false=>rfl
def zhl(b:t σ O=.ok (.bl a) O1):Fd t σ O=.ok (.bl (!a)) O1:=by show((t σ O).bnd _)=_;rw[b];rfl
def FL(c:t σ O=.ok a O)(d:a=Kb->u σ O=.ok b O):Ad t u σ O=.ok (a||b) O:=by
 show((t σ O).bnd _)=_;rw[c];cases a with
 |false=>exact d rfl
 |true=>rfl
def FC(O:Ow)(a:x.all (pl 7)=Ka)(c:y.all (pl 7)=Ka)(d:b=Ka↔x=y):qf rB O (.lst x) (.lst y)=.ok (.bl b) O/\qf sD O (.lst x) (.lst y)=.ok (.bl !b) O:=
 K4 O (x:=.lst x) (y:=.lst y) a c (d.trans (by rw[D.lst.injEq]))
def IU(n:Nat)(l:k_):(l.map λ(p:Nat)=>D.int (p:Int)).all (pl n)=Ka:=aD.mpr λd a=>by
 obtain⟨p,_,rfl⟩:=ay.mp a;cases n<;>rfl
theorem TK:∀{a b:k_},(a.map λ(p:Nat)=>D.int (p:Int))=(b.map λ(p:Nat)=>D.int (p:Int))->a=b
 |[],[],_=>rfl
 |[],_::_,h=>by cases h
 |_::_,[],h=>by cases h
 | x::a,y::b,h=>by
  rw[bH,bH,nV] at h;have c:x=y:=by have:=h.1;injection this with this;lia
  rw[c,TK h.2]
section
variable{σ:Sg}{O O1:Ow}{d:DS}{x:D}
def sZ(h:t σ O=.ok x O1)(a:d (σ.set i (JU x)) O1=r):qd (qH i t) d σ O=r:=by rw[yV (Ss h)];exact a
def zw(h:a σ O=.nx σ' O1)(b:d σ' O1=r):qd a d σ O=r:=by rw[yV h];exact b
def uY(h:c σ O=.ok Kb O1)(a:d σ O1=r):qd (rW c a' rY) d σ O=r:=by rw[yV (by rw[BJ h];rfl)];exact a
def BN(h:c σ O=.ok Ka O1)(a:a' σ O1=.rt x O2):qd (rW c a' e) d σ O=.rt x O2:=SR (by rw[BJ h,Kd rfl];exact a)
def t8(h:d σ O=.rt x O1):fin (d σ O)=.ok x O1:=by rw[h];rfl
def yp(h:t σ O=.ok x O1):fin (qm t σ O)=.ok x O1:=by rw[tQ h];rfl
def qu(a:t σ O=.ok x O1)(b:u σ O1=.ok y O2)(c:f O2 x y=z):i_ f t u σ O=z:=by rw[A1 a b];exact c
def sP(a:tA σ O=.ok ds O1)(b:f O1 ds=z):qh f tA σ O=z:=by rw[I9 a];exact b
def qz(a:tA σ O=.ok ds O1)(b:F ds O1=z)(c:ds.length=n:=by rfl):n_ n F tA σ O=z:=by rw[Fy a c];exact b
end
end DL
namespace K62
open PySem DL
abbrev p_(x:Int):Option D:=JU (.int x)
abbrev rm(x:List D):Option D:=JU (.tup x)
abbrev sk(x:List D):Option D:=JU (.lst x)
abbrev rn(x:k_):Option D:=JU (.str x)
abbrev sT(x:Nat):Option D:=JU (.own x)
abbrev B4(x:Bool):Option D:=JU (.bl x)
abbrev rQ:=dC (.int 0)
abbrev qt:=rM 2
def Mz:DT:=(qI (i_ (qf rB) qt rQ))
def M0:DE:=(vZ (b_ rQ (b_ rQ g_)))
def MF:DE:=(i_ (fI D4) qt (i_ (fI xt) rQ qt))
def MG:DE:=(yP g_)
abbrev j_:=rM 0
abbrev qc:=rM 1
def Mi:DI:=(D7 (b_ j_ (b_ qc g_)))
abbrev tj:=rM 4
abbrev ye:=rM 6
def Mt:DT:=(qI (i_ (qf sD) (i_ (fI D4) ye tj) rQ))
def M3:DE:=(i_ (fI D4) qt (KU ye))
abbrev rV:=dC (.int 1)
abbrev yg:=rM 5
def MA:DE:=(z_ yg (b_ (vZ (b_ (i_ rZ (i_ qJ (rM 8) rQ) rV) (b_ (i_ rZ (i_ qJ (rM 8) rV) (rM 7)) g_))) g_))
def Mm:DE:=(qh Ee (b_ yg g_))
noncomputable def low(l:Nat):Nat:=l-(l &&& (l-1))
def uT(l m:Nat):Nat:=l-(l &&& m)
def tD(rec:Nat->Option (Int×Int))(l:Nat):List (Nat×Int)->Option (List (Int×Int))
 |[]=>JU []
 | (m,c)::r=>if m &&& low l≠0 then (match rec (uT l m),tD rec l r with
  |some q,JU qs=>JU ((q.1+1,q.2+c)::qs)
  |_,_=>J9) else tD rec l r
def tO(ms:List (Nat×Int)):Nat->Nat->Option (Int×Int)
 |0,_=>J9
 | f+1,l=>if l=0 then JU (0,0) else (match tD (tO ms f) l ms with
  |some (x::xs)=>JU (v8 (x::xs))
  |_=>J9)
def z8:List D->Option (List Int)
 |[]=>JU []
 |.int i::r=>(z8 r).map (i :: ·)
 |_=>J9
def ua(ms cs:List Int):List (Nat×Int):=(ms.map Int.toNat).zip cs
def Gm(d1 d2:D)(i:Int):Option (Int×Int):=match d1,d2 with
 | .lst a,.lst b=>(match z8 a,z8 b with
  |some ms,JU cs=>if 0<=i/\i<16777216/\ms.length=cs.length/\ms.length<1000/\ms.all (λm=>decide (0<=m))=Ka then tO (ua ms cs) 26 i.toNat else J9
  |_,_=>J9)
 |_,_=>J9
def cnt(l:Nat):Nat:=((aN 24).filter l.testBit).length
def xC(i:Int):Nat:=cnt i.toNat+1
def zgD(i:Int):1<=xC i:=kr (bO _)
noncomputable def NR:D->Bool
 |.int _=>Ka
 |.bl _=>Ka
 |.str _=>Ka
 |.non=>Ka
 | .tup ds=>ds.all λd=>match d with
  |.int _=>Ka
  |_=>Kb
 |_=>Kb
def okm(O:Ow):Bool:=O.all λc=>c.all NR
def zfS{O:Ow}{n:Nat}{d:D}(h:NR d=Ka):frz O n 8 d=JU d:=by
 cases d with
 | tup ds=>
  unfold NR at h;show(qo (frz O n 7) ds).map D.tup=_;rw[yq λd a=>by
   have:=aD.mp h d a;cases d<;>first|rfl|cases this]
  rfl
 |_=>first|rfl|cases h
def zhV{O X:Ow}(h:okm O=Ka):Fe O.length (O++X)=JU O:=by
 unfold Fe;rw[List.take_left']
 ·exact yq λc a=>yq λd b=>zfS (aD.mp (aD.mp h c a) d b)
 ·rfl
def zee{x:Nat}{N:Nat}(h:x<2 ^ N):DLB.mkN x.testBit N=x:=by
 refine lL λi=>?_;rw[DLB.mkN_bit];by_cases a:i<N
 ·rw[decide_eq_true a,hU]
 ·rw[decide_eq_false a,iA];exact(eS (aW h (cR 'u' 'd'))).symm
theorem UK(p q:Nat->Bool):∀N,DLB.mkN (λi=>p i&&q i) N+DLB.mkN (λi=>p i && !q i) N=DLB.mkN p N
 |0=>rfl
 | N+1=>by
  have:=UK p q N;unfold DLB.mkN;cases p N<;>cases q N<;>simp<;>lia
def Ek(l m i:Nat):(uT l m).testBit i=(l.testBit i && !m.testBit i):=by
 obtain⟨N,a⟩:∃N,l<2 ^ N:=⟨l,Nat.lt_two_pow_self⟩;have d:l &&& m=DLB.mkN (λi=>l.testBit i&&m.testBit i) N:=by
  refine lL λj=>?_;rw[kL,DLB.mkN_bit];by_cases b:j<N
  ·rw[decide_eq_true b,hU]
  ·rw[decide_eq_false b,iA,eS (aW a (cR 'u' 'd'))];rfl
 have e:=UK l.testBit m.testBit N;rw[zee a,<- d] at e;have f:uT l m=DLB.mkN (λi=>l.testBit i && !m.testBit i) N:=by unfold uT;lia
 rw[f,DLB.mkN_bit];by_cases c:i<N
 ·rw[decide_eq_true c,hU]
 ·rw[decide_eq_false c,iA,eS (aW a (cR 'u' 'd'))];rfl
def R8{l:Nat}(h:l≠0):∃b,(low l).testBit b=Ka:=by
 have c:l &&& (l-1)<=l-1:=Nat.and_le_right;have a:low l≠0:=by unfold low;lia
 exact jd a
def Lu{l b:Nat}(h:(low l).testBit b=Ka):l.testBit b=Ka:=by have:=Ek l (l-1) b;have e:(low l).testBit b=(l.testBit b && !(l-1).testBit b):=this;rw[e,aT] at h;exact h.1
def zhp{l m:Nat}(h:m &&& low l≠0):∃b,m.testBit b=Ka/\l.testBit b=Ka:=by obtain⟨b,a⟩:=jd h;rw[kL,aT] at a;exact⟨b,a.1,Lu a.2⟩
theorem Ur{p q:Nat->Bool}:∀{l:k_}{x:Nat},x∈l->p x=Ka->q x=Kb->(l.filter λi=>p i&&q i).length<(l.filter p).length
 | y::l,x,h,hp,hq=>by
  have a:∀l:k_,(l.filter λi=>p i&&q i).length<=(l.filter p).length:=λl=>by
   induction l with
   |nil=>exact aw _
   | cons y l b=>
    rw[eo,eo];cases p y<;>cases q y<;>simp<;>lia
  rcases am.mp h with rfl|h
  ·rw[di (by simp[hq]),dj hp,aV];exact Nat.lt_succ_of_le (a l)
  ·have b:=Ur h hp hq;rw[eo,eo];cases p y<;>cases q y<;>simp<;>lia
def LZ{l m:Nat}(c:l<16777216)(h:m &&& low l≠0):cnt (uT l m)<cnt l:=by
 obtain⟨b,d,a⟩:=zhp h;have f:b<24:=by
  rcases kw b 24 with z|z
  ·exact z
  ·rw[eS (aW (show l<2 ^ 24 from c) (cR 'u' z))] at a;cases a
 have e:(uT l m).testBit=λi=>l.testBit i && !m.testBit i:=funext (Ek l m);unfold cnt;rw[e];exact Ur (ba.mpr f) a (by rw[d];rfl)
def sub_le(l m:Nat):uT l m<=l:=Nat.sub_le _ _
theorem LN{a b:Nat->Option (Int×Int)}{l:Nat}(h:∀x q,a x=JU q->b x=JU q):∀{ms:List (Nat×Int)}{qs:List (Int×Int)},tD a l ms=JU qs->tD b l ms=JU qs
 |[],qs,e=>e
 | (m,c)::r,qs,e=>by
  unfold tD at e ⊢;split at e
  ·rename_i z;rw[Kd z];split at e
   ·rename_i q g d f;rw[h _ _ d,LN h f];exact e
   ·cases e
  ·rename_i z;rw[Kf z];exact LN h e
theorem Uu{ms:List (Nat×Int)}:∀{f l:Nat}{q:Int×Int},tO ms f l=JU q->tO ms (f+1) l=JU q
 |0,_,_,e=>by cases e
 | f+1,l,q,e=>by
  rw[tO] at e ⊢;split at e
  ·rename_i z;rw[Kd z];exact e
  ·rename_i z;rw[Kf z];split at e
   ·rename_i x b a;rw[LN (λ_ _=>Uu) a];exact e
   ·cases e
theorem IE{rec:Nat->Option (Int×Int)}{l:Nat}:∀{a b:List (Nat×Int)}{z:List (Int×Int)},tD rec l (a++b)=JU z->∃x y,tD rec l a=JU x/\tD rec l b=JU y/\z=x++y
 |[],b,z,e=>⟨[],z,rfl,e,rfl⟩
 | (m,c)::a,b,z,e=>by
  rw[gW] at e;unfold tD at e;split at e
  ·rename_i h;split at e
   ·rename_i q j g i;obtain⟨x,y,d,f,rfl⟩:=IE i;cases e;exact⟨_::x,y,by unfold tD;rw[Kd h,g,d],f,rfl⟩
   ·cases e
  ·rename_i h;obtain⟨x,y,d,f,rfl⟩:=IE e;exact⟨x,y,by unfold tD;rw[Kf h];exact d,f,rfl⟩
def SY{α:Type}{it:DI}{g:Tg}{body:DS}{σ:Sg}{O0 O:Ow}{src:Src}{l:List α}{inj:α->D}(o:it σ O0=.ok src O)(A:src.size O=l.length)(I:Nat->Sg->Ow->Prop)
  (h:∀(k:Nat)a σ O,l[k]?=JU a->I k σ O->src.get O k=JU (inj a)/\∃j σ' b,g.put (inj a) σ=JU j/\body j O=.nx σ' b/\I (k+1) σ' b) (n:∀σ O,I l.length σ O->src.get O l.length=J9) (p:I 0 σ O):
  ∃σ' b,uC it g body σ O0=.nx σ' b/\I l.length σ' b:=by
 have e:∀(f i:Nat)(σ:Sg)(O:Ow),I i σ O->l.length<=i+f->i<=l.length->∃σ' b,sj src (λd σ O=>match g.put d σ with|some σ'=>body σ' O|none=>.bad) f i σ O=.nx σ' b/\I l.length σ' b:=by
  intro f
  induction f with
  | zero=>
   intro i σ O c q r;have:i=l.length:=by lia
   subst this;unfold sj;rw[n σ O c];exact⟨σ,O,rfl,c⟩
  | succ f ih=>
   intro i σ O c q r;by_cases m:i=l.length
   ·subst m;unfold sj;rw[n σ O c];exact⟨σ,O,rfl,c⟩
   ·have s:i<l.length:=by lia
    obtain⟨t,j,σ',b,u,v,w⟩:=h i l[i] σ O (au s) c;unfold sj;rw[t];dsimp only;rw[u];dsimp only;rw[v];exact ih (i+1) σ' b w 'd' 'd'
 obtain⟨σ',b,x,y⟩:=e (src.size O) 0 σ O p 'd' (bO _);exact⟨σ',b,(LD o).trans x,y⟩
def Mp{σ:Sg}{O O1:Ow}{i k:Nat}{t:DE}{y:D}{ds:List D}(a:σ[i]?=JU (sT k))(b:t σ O=.ok y O1)(c:O1[k]?=JU ds)(d:ds.length<4000000):
  t7 (z_ (rM i) (b_ t g_)) σ O=.nx σ (O1.set k (ds++[y])):=by refine Mw (x:=.non) ?_;unfold z_ rM;rw[a];show((b_ t g_ σ O).bnd _)=_;rw[qp b];show(match [y],O1[k]? with|[y],JU ds=>if ds.length<4000000 then R.ok D.non (O1.set k (ds++[y])) else R.bad|_,_=>R.bad)=_;rw[c];dsimp only;rw[Kd d]
theorem Mf:∀l:List Int,z8 (l.map D.int)=JU l
 |[]=>rfl
 | i::l=>by
  show(z8 (l.map D.int)).map _=_;rw[Mf l];rfl
theorem LH:∀{a:List D}{l:List Int},z8 a=JU l->a=l.map D.int
 |[],l,h=>by cases h;rfl
 | d::a,l,h=>by
  unfold z8 at h;split at h
  ·rename_i e;cases e
  ·rename_i i r e;cases e;cases b:z8 a with
   |none=>rw[b] at h;cases h
   |some qs=>rw[b] at h;cases h;rw[LH b];rfl
  ·cases h
def and_int{a b:Nat}:dM (a:Int) (b:Int)=((a &&& b:Nat):Int):=by unfold dM;rw[decide_eq_true 'd',decide_eq_true 'd'];rfl
def zgm{l:Nat}(h:l≠0):dM (l:Int) (0-(l:Int))=((low l:Nat):Int):=by
 unfold dM;rw[decide_eq_true 'd',decide_eq_false 'd'];have:(dk (0-(l:Int))).toNat=l-1:=by unfold dk;lia
 show(l:Int)-((((l:Int).toNat &&& (dk (0-(l:Int))).toNat:Nat)):Int)=_;rw[this,cP];have:=@nW l (l-1);unfold low;lia
def zif{l m:Nat}:dM (l:Int) (dk (m:Int))=((uT l m:Nat):Int):=by
 unfold dM;rw[decide_eq_true 'd',decide_eq_false (by unfold dk;lia)];have:(dk (dk (m:Int))).toNat=m:=by unfold dk;lia
 show(l:Int)-((((l:Int).toNat &&& (dk (dk (m:Int))).toNat:Nat)):Int)=_;rw[this,cP];have:=@nW l m;unfold uT;lia
def ze3{O:Ow}{l:List (Int×Int)}(h:okm O=Ka):okm (O++[l.map dP])=Ka:=by unfold okm at h ⊢;rw[List.all_append,h,hU,iM,List.all_nil,oB,aD];intro d a;obtain⟨q,_,rfl⟩:=ay.mp a;rfl
theorem Lw{rec:Nat->Option (Int×Int)}{l:Nat}:∀{a:List (Nat×Int)}{z:List (Int×Int)},tD rec l a=JU z->z.length<=a.length
 |[],z,e=>by cases e;exact aw _
 | (m,c)::a,z,e=>by
  unfold tD at e;split at e
  ·split at e
   ·rename_i q d f b;cases e;exact kr (Lw b)
   ·cases e
  ·exact Nat.le_succ_of_le (Lw e)
def zC(l:Nat)(d1 d2:D)(i:Int)(p O:Nat)(y6 y7 y8:Option D):Sg:=[JU d1,JU d2,p_ i,JU (.adr p),p_ (low l:Nat),sT O,y6,y7,y8]
def zeV(k:Nat):∀B C i p q O,xC i<=k+1->okm O=Ka->Gm B C i=JU q->KS Mz M0 (sM MF MG Mi Mt (Co (Gm B C) xC okm k M3) MA Mm) B C i p q O:=by
 intro B C i p q O Cd E t;refine⟨⟨i==0,rfl,λZ=>?_,λZ=>?_⟩⟩
 all_goals
  obtain⟨a,b,d,f,rfl,rfl,h1,h2,hc,s⟩:∃a b d f,B=.lst a/\C=.lst b/\z8 a=JU d/\z8 b=JU f/\(0<=i/\i<16777216/\d.length=f.length/\d.length<1000/\d.all (λm=>decide (0<=m))=Ka)/\tO (ua d f) 26 i.toNat=JU q:=by
   unfold Gm at t;split at t
   ·rename_i a b;split at t
    ·rename_i d f e1 e2;split at t
     ·rename_i hc;exact⟨a,b,d,f,rfl,rfl,e1,e2,hc,t⟩
     ·cases t
    ·cases t
   ·cases t
  obtain⟨c1,c2,c3,c4,c5⟩:=hc;obtain⟨l,rfl⟩:∃l:Nat,i=(l:Int):=⟨i.toNat,by lia⟩;rw[cP] at s
 ·have:l=0:=⇑Z
  subst this;cases s;rfl
 ·have hl:l≠0:=⇑Z
  refine⟨by lia,c2,?_⟩;rw[tO,Kf hl] at s;cases N:tD (tO (ua d f) 25) l (ua d f) with
  |none=>rw[N] at s;cases s
  | some z=>
   rw[N] at s;cases z with
   |nil=>cases s
   | cons z0 zs=>
    have s:JU (v8 (z0::zs))=JU q:=s;have u:(ua d f).length=d.length:=by unfold ua;rw[kK,ar,c3,kn]
    have ea:=LH h1;have eb:=LH h2;have gG:∀(m:Nat)(x:Int×Int),tO (ua d f) 25 (uT l m)=JU x->Gm (.lst a) (.lst b) ((uT l m:Nat):Int)=JU x:=λm x e=>by
     have h:=sub_le l m;unfold Gm;dsimp only;rw[h1,h2];dsimp only;rw[Kd ⟨by lia,by lia,c3,c4,c5⟩,cP];exact Uu e
    unfold sM;have eF:MF (C6 (.lst a) (.lst b) (l:Int) p) O=.ok (.int (low l:Nat)) O:=by
     show R.ok (D.int (dM (l:Int) (0-(l:Int)))) O=_;rw[zgm hl]
    obtain⟨σ',P,e1,I⟩:=SY (it:=Mi) (g:=.two 6 7) (body:=rW Mt (qd (qH 8 (Co (Gm (.lst a) (.lst b)) xC okm k M3)) (t7 MA)) rY) (σ:=zC l (.lst a) (.lst b) l p O.length J9 J9 J9) (O0:=O++[[]]) (O:=O++[[]]) (src:=.zip (.val a) (.val b)) (l:=ua d f) (inj:=λc=>.tup [.int (c.1:Nat),.int c.2]) (by rfl) (by
     show min a.length b.length=_;rw[ea,eb,u,ar,ar,<- c3,kn]) (λn σ P=>∃Q S v j,tD (tO (ua d f) 25) l ((ua d f).take n)=JU j/\σ=zC l (.lst a) (.lst b) l p O.length Q S v/\P=O++[j.map dP]) (λn c σ P G hI=>by
      obtain⟨Q,S,v,j,H,rfl,rfl⟩:=hI;have Dr:=(ao.mp G).1;have Wq:a[n]?=p_ (c.1:Nat)/\b[n]?=p_ c.2:=by
       unfold ua at G;rw[List.getElem?_zip_eq_some,aZ] at G;obtain⟨A,g2⟩:=G;cases U:d[n]? with
       |none=>rw[U] at A;cases A
       | some m=>
        rw[U] at A;have A:m.toNat=c.1:=cf A;rw[<- A];have Kh:0<=m:=by simpa using aD.mp c5 m (aJ U)
        rw[ea,eb,aZ,aZ,U,g2];exact⟨by show JU (D.int m)=p_ (m.toNat:Int);rw[Int.toNat_of_nonneg Kh],rfl⟩
      refine⟨by show(match a[n]?,b[n]? with|some x,JU y=>JU (D.tup [x,y])|_,_=>J9)=_;rw[Wq.1,Wq.2],zC l (.lst a) (.lst b) l p O.length (p_ (c.1:Nat)) (p_ c.2) v,?_⟩;have et:Mt (zC l (.lst a) (.lst b) l p O.length (p_ (c.1:Nat)) (p_ c.2) v) (O++[j.map dP])=.ok (decide (c.1 &&& low l≠0)) (O++[j.map dP]):=by
       show R.ok ((dM (c.1:Int) (low l:Int)) !=0) (O++[j.map dP])=_;rw[and_int];congr 1;rw[ee];simp
      have qY:(ua d f).take (n+1)=(ua d f).take n++[c]:=by rw[fh,G];rfl
      have sX:∃Hr,tD (tO (ua d f) 25) l ((ua d f).take (n+1))=JU Hr:=by
       obtain⟨x,_,Y,_⟩:=IE (rec:=tO (ua d f) 25) (l:=l) (a:=(ua d f).take (n+1)) (b:=(ua d f).drop (n+1)) (by rw[cm];exact N);exact⟨x,Y⟩
      obtain⟨Hr,Dw⟩:=sX;have G5:=Dw;rw[qY] at G5;obtain⟨x,y,Y,o,rfl⟩:=IE G5;rw[H] at Y;cases Y;rw[BJ et];by_cases J:c.1 &&& low l≠0
      ·rw[Kd (decide_eq_true J)];unfold tD at o;rw[Kd J] at o;cases hr:tO (ua d f) 25 (uT l c.1) with
       |none=>rw[hr] at o;cases o
       | some qr=>
        rw[hr] at o;have o:JU [(qr.1+1,qr.2+c.2)]=JU y:=o;cases o;have e3:M3 (zC l (.lst a) (.lst b) l p O.length (p_ (c.1:Nat)) (p_ c.2) v) (O++[j.map dP])=.ok (.int ((uT l c.1:Nat):Int)) (O++[j.map dP]):=by
         show R.ok (D.int (dM (l:Int) (dk (c.1:Int)))) (O++[j.map dP])=_;rw[zif]
        have eM:Co (Gm (.lst a) (.lst b)) xC okm k M3 (zC l (.lst a) (.lst b) l p O.length (p_ (c.1:Nat)) (p_ c.2) v) (O++[j.map dP])=.ok (dP qr) (O++[j.map dP]):=by
         unfold Co;rw[e3];show(if xC ((uT l c.1:Nat):Int)<=k/\okm (O++[j.map dP])=Ka then (match Gm (.lst a) (.lst b) ((uT l c.1:Nat):Int) with|some q=>R.ok (dP q) (O++[j.map dP])|none=>R.bad) else R.bad)=_;have hcn:=LZ (l:=l) (m:=c.1) 'd' J;unfold xC at Cd;rw[cP] at Cd;rw[Kd ⟨by unfold xC;rw[cP];lia,ze3 E⟩,gG _ _ hr]
        refine⟨zC l (.lst a) (.lst b) l p O.length (p_ (c.1:Nat)) (p_ c.2) (JU (dP qr)),O++[(j++[(qr.1+1,qr.2+c.2)]).map dP],rfl,?_,_,_,_,_,Dw,rfl,rfl⟩;rw[yV (σ':=zC l (.lst a) (.lst b) l p O.length (p_ (c.1:Nat)) (p_ c.2) (JU (dP qr))) (O1:=O++[j.map dP]) (by unfold qH;rw[eM];rfl)];have tJ:vZ (b_ (i_ rZ (i_ qJ (rM 8) rQ) rV) (b_ (i_ rZ (i_ qJ (rM 8) rV) (rM 7)) g_)) (zC l (.lst a) (.lst b) l p O.length (p_ (c.1:Nat)) (p_ c.2) (JU (dP qr))) (O++[j.map dP])=.ok (dP (qr.1+1,qr.2+c.2)) (O++[j.map dP]):=by
         have f0:∀w,qJ w (dP qr) (.int 0)=.ok (.int qr.1) w:=λw=>CV (i:=0) (ds:=[.int qr.1,.int qr.2]) 'k';have f1:∀w,qJ w (dP qr) (.int 1)=.ok (.int qr.2) w:=λw=>CV (i:=1) (ds:=[.int qr.1,.int qr.2]) 'k';show((((qJ (O++[j.map dP]) (dP qr) (.int 0)).bnd λy L=>(R.ok (D.int 1) L).bnd λz M=>rZ M y z).bnd λx O1=>((((qJ O1 (dP qr) (.int 1)).bnd λy L=>(R.ok (D.int c.2) L).bnd λz M=>rZ M y z).bnd λx2 O4=>(R.ok [] O4).bnd λr O5=>R.ok (x2::r) O5).bnd λr O6=>R.ok (x::r) O6)).bnd λds O7=>if ds.length<=4000000 then R.ok (D.tup ds) O7 else R.bad)=_;rw[f0];show((((qJ (O++[j.map dP]) (dP qr) (.int 1)).bnd λy L=>(R.ok (D.int c.2) L).bnd λz M=>rZ M y z).bnd λx2 O4=>(R.ok [] O4).bnd λr O5=>R.ok (x2::r) O5).bnd λr O6=>R.ok (D.int (qr.1+1)::r) O6).bnd _=_;rw[f1];rfl
        have Cf:=Lw H;rw[bL] at Cf;have q9:(j.map dP).length<4000000:=by rw[ar];lia
        have:=Mp (σ:=zC l (.lst a) (.lst b) l p O.length (p_ (c.1:Nat)) (p_ c.2) (JU (dP qr))) (i:=5) (k:=O.length) (ds:=j.map dP) rfl tJ 'k' q9;rw[lq _ _ (aw _),kh] at this;rw[cK];exact this
      ·rw[Kf ⇑J];unfold tD at o;rw[Kf J] at o;cases o;refine⟨_,_,rfl,rfl,_,_,_,_,Dw,rfl,by simp⟩) (λσ P hI=>by
      obtain⟨Q,S,v,j,_,rfl,rfl⟩:=hI;show(match a[(ua d f).length]?,b[(ua d f).length]? with|some x,JU y=>JU (D.tup [x,y])|_,_=>J9)=J9;rw[show a[(ua d f).length]?=J9 from aP.mpr (by rw[ea,ar,u];exact aw _)]) ⟨J9,J9,J9,[],rfl,rfl,rfl⟩
    obtain⟨Q,S,v,j,H,rfl,rfl⟩:=I;rw[e9,N] at H;cases H;refine⟨O++[(z0::zs).map dP],?_,zhV E⟩;rw[yV (σ':=(C6 (.lst a) (.lst b) (l:Int) p).set 4 (p_ (low l:Nat))) (O1:=O) (by unfold qH;rw[eF];rfl),yV (σ':=zC l (.lst a) (.lst b) l p O.length J9 J9 J9) (O1:=O++[[]]) (by rfl),yV e1];refine tQ ?_;show Ee (O++[(z0::zs).map dP]) [.own O.length]=_;unfold Ee;dsimp only;rw[show sE (O++[(z0::zs).map dP]) (.own O.length)=JU ((z0::zs).map dP) from by show(O++[(z0::zs).map dP])[O.length]?=_;simp];show(match AK ((z0::zs).map dP) with|some ps=>(if ps≠[] then R.ok (D.tup [.int (v8 ps).1,.int (v8 ps).2]) (O++[(z0::zs).map dP]) else R.bad)|none=>R.bad)=_;rw[show AK ((z0::zs).map dP)=JU (z0::zs) from TV _];show(if (z0::zs)≠[] then R.ok (dP (v8 (z0::zs))) (O++[(z0::zs).map dP]) else R.bad)=_;rw[Kd 'k',cf s]
end K62
set_option maxHeartbeats 400000
namespace K62
open PySem L2 DL
def top(i:Nat):eO:=PySem.Challenge.pw_leastterms_k62_least_shared_forms.main.body.getD i (.Pass ⟨0,0,0,0⟩)
def A5:List (Int×Int):=[(2,1),(4,2),(8,3),(16,4)]
structure Txt(K:ak)(mg:aA->Option ae):Prop where
 w0:qP K mg "is_whole" (top 4)
 w1:qP K mg "is_whole_within" (top 5)
 w2:qP K mg "is_answer" (top 8)
 w3:qP K mg "is_function" (top 9)
 w4:qP K mg "switches_of" (top 10)
 w5:qP K mg "points_with" (top 11)
 w6:qP K mg "all_terms" (top 14)
 w7:qP K mg "bits_of" (top 15)
 w8:qP K mg "points_of" (top 16)
 w9:qP K mg "with_sign" (top 17)
 wa:qP K mg "signs_in" (top 18)
 wb:qP K mg "holds_no_nought" (top 20)
 wc:qP K mg "signs_of" (top 22)
 wd:qP K mg "holders_in" (top 23)
 we:qP K mg "covers" (top 24)
 wf:qP K mg "least_covers" (top 25)
 wg:qP K mg "are_together" (top 28)
 wh:qP K mg "need_together" (top 29)
 wi:qP K mg "things_of" (top 30)
 wj:qP K mg "numbers_good_for" (top 31)
 wk:qP K mg "held_by" (top 32)
 wl:qP K mg "is_broad" (top 33)
 wm:qP K mg "broad_terms" (top 34)
 wn:qP K mg "held_things" (top 35)
 wo:qP K mg "least_shared" (top 36)
 wp:qP K mg "_law_take" (top 38)
 wq:qP K mg "_law_function" (top 39)
 wr:qP K mg "_law_together" (top 40)
 ws:qP K mg "_law_cell_at" (top 41)
 wt:qP K mg "_law_state" (top 42)
 wu:qP K mg "_law_is_term" (top 43)
 wv:qP K mg "_law_are_terms" (top 44)
 ww:qP K mg "_law_switches" (top 45)
 wx:qP K mg "_law_holds" (top 46)
 wy:qP K mg "_law_good" (top 47)
 wz:qP K mg "_law_good_for" (top 48)
 wA:qP K mg "_law_ones" (top 49)
 wB:qP K mg "_law_things" (top 50)
 wC:qP K mg "_law_holds_thing" (top 51)
 wD:qP K mg "_law_is_shared" (top 52)
 wE:qP K mg "_law_same" (top 53)
 wF:qP K mg "_law_signs" (top 54)
 wG:qP K mg "_law_terms" (top 55)
 wH:qP K mg "_law_thing_masks" (top 56)
 wI:qP K mg "_law_fewest" (top 57)
 wJ:qP K mg "_law_shared_cost" (top 58)
 wK:qP K mg "law" (top 59)
 wL:mg "all" = J9
 wM:mg "any" = J9
 wN:mg "bool" = J9
 wO:mg "dict" = J9
 wP:mg "enumerate" = J9
 wQ:mg "int" = J9
 wR:mg "isinstance" = J9
 wS:mg "len" = J9
 wT:mg "list" = J9
 wU:mg "max" = J9
 wV:mg "min" = J9
 wW:mg "range" = J9
 wX:mg "set" = J9
 wY:mg "sorted" = J9
 wZ:mg "str" = J9
 w01:mg "sum" = J9
 w11:mg "tuple" = J9
 w21:mg "zip" = J9
 w31:KZ mg "SIGNS" [45,48,49]
 w41:Cy K mg "SWITCHES_BY_POINTS" A5
 w51:KJ mg "MOST_SWITCHES_TOGETHER" 3
class CI (F:qx) (x:outParam aA) (k n:outParam Nat):Prop where
 out:∀{P:aU}{w:be}{K:ak}{mg:aA->Option ae}{base:aX},Txt K mg->Callee P w K mg base x k n F
section
variable{P:aU}{w:be}{K:ak}{mg:aA->Option ae}{base:aX}
def us0{C:List ae->Prop}(h:C []):∀a,a.length=0->C a
 |[],_=>h
def usS{n}{C:List ae->Prop}(h:∀a b,b.length=n->C (a::b)):∀b,b.length=n+1->C b
 |a::b,e=>h a b (Nat.succ.inj e)
def us1{C:List ae->Prop}(h:∀a,C [a]):∀x,x.length=1->C x:=usS λa=>us0 (h a)
def us2{C:List ae->Prop}(h:∀a b,C [a,b]):∀x,x.length=2->C x:=usS λa=>us1 (h a)
def us3{C:List ae->Prop}(h:∀a b c,C [a,b,c]):∀x,x.length=3->C x:=usS λa=>us2 (h a)
def us4{C:List ae->Prop}(h:∀a b c d,C [a,b,c,d]):∀x,x.length=4->C x:=usS λa=>us3 (h a)
set_option hygiene false
local macro_rules|`(tactic| exists $t)=>`(tactic| with_reducible show PD _ _ _ $t)
local macro_rules|`(tactic| exists $x,2)=>`(tactic| exact zeC $x _ rfl (Fz (by kernel_rfl)) (by walk_at "i") (by walk_at "q4"))
local macro_rules|`(tactic| exists $x,3)=>`(tactic| exact zbr $x rfl (Fz (by kernel_rfl)) (by walk_at "i") (by walk_at "q5"))
local macro_rules|`(tactic| exists $x,4)=>`(tactic| exact z6Q $x _ rfl (xi (by kernel_rfl)) rfl rfl (Fz (by kernel_rfl)) (by walk_at "i") (by walk_at "q4") rfl)
local macro_rules|`(tactic| exists $x,5)=>`(tactic| exact z5V $x rfl (xi (by kernel_rfl)) rfl rfl (Fz (by kernel_rfl)) (by walk_at "i") (by walk_at "q5") rfl)
local macro_rules|`(tactic| exists $x,6)=>`(tactic| exact z7Z $x _ rfl (xi (by kernel_rfl)) rfl rfl (Fz (by kernel_rfl)) (by walk_at "i") (by walk_at "q4") rfl)
local macro_rules|`(tactic| exists $f,$a,$b,$c,$d)=>`(tactic| (with_reducible show PD _ _ _ (qh $f _));refine zdu $a $b rfl $c $d ?_<;>walk_at "a")
local macro_rules|`(tactic| exists $f,$a,$b)=>`(tactic| (with_reducible show PD _ _ _ (i_ $f _ _));refine QK $a $b ?_ ?_<;>walk_at "e")
local macro_rules|`(tactic| exists $f,$a,$b,0)=>`(tactic| (with_reducible show PD _ _ _ (i_ $f _ _));exact Ln $a $b '2' '2' (FK _))
local macro_rules|`(tactic| exists $t,0)=>`(tactic| with_reducible show rX _ _ _ $t)
local macro_rules|`(tactic| exists $t,1)=>`(tactic| with_reducible show vI _ _ _ $t)
local macro_rules|`(tactic| walk_at "q4")=>`(tactic| exact λ_ _ _ _ _=>⟨by walk_at "g",by walk_at "fs",by walk_at "cs",'2'⟩)
local macro_rules|`(tactic| walk_at "q5")=>`(tactic| exact λ_ _ _ _ _=>⟨by walk_at "g",by walk_at "fs",by walk_at "cs",'2','2'⟩)
local macro_rules|`(tactic| walk_at "u")=>`(tactic| intro _ _ _ _ _ _;first|exact us1 λ_=>rfl|exact us2 λ_ _=>rfl|exact us3 λ_ _ _=>rfl|exact us0 rfl|exact us4 λ_ _ _ _=>rfl)
open Lean in
def tkS (s:String):Syntax:=if s=="_" then mkNode `Lean.Parser.Term.hole #[mkAtom "_"] else if s=="?_" then (Unhygienic.run `(?_)).raw else if s.startsWith "%" then (Unhygienic.run `(by walk_at $(quote (s.drop 1).toString))).raw else if s.startsWith "^" then (let a:Array Term:=Array.replicate ((s.drop 1).toString.toNat?.getD 0) ⟨mkNode `Lean.Parser.Term.hole #[mkAtom "_"]⟩;(Unhygienic.run `(fun $a* => rfl)).raw) else if (s.splitOn ":=").length==2 then mkNode `Lean.Parser.Term.namedArgument #[mkAtom "(",mkIdent (s.splitOn ":=")[0]!.toName,mkAtom ":=",(let v:=(s.splitOn ":=")[1]!;if v.front.isDigit then Syntax.mkLit `num v else mkIdent v.toName),mkAtom ")"] else if s.startsWith "." then mkNode `Lean.Parser.Term.dotIdent #[mkAtom ".",mkIdent (s.drop 1).toString.toName] else if s.startsWith "'" then Syntax.mkLit `char s else if s.startsWith "\"" then Syntax.mkLit `str s else if s.front.isDigit then Syntax.mkLit (if s.all (·.isDigit) then `num else `scientific) s else mkIdent s.toName
open Lean in
def apS (a:Array Syntax):Syntax:=if a.size==1 then a[0]! else Syntax.mkApp ⟨a[0]!⟩ ((a.extract 1 a.size).map (⟨·⟩))
open Lean in
def stS (z:String×List (Array Syntax×Array Syntax))(c:Char):String×List (Array Syntax×Array Syntax):=
 let l:=match z with|("",l)=>l|(s,(i,a)::l)=>(i,a.push (tkS s))::l|(_,l)=>l
 let up (f:Array Syntax->Syntax):List (Array Syntax×Array Syntax):=match l with|(i,a)::(j,b)::l=>(j,b.push (f (mkSepArray (if a.isEmpty then i else i.push (apS a)) (mkAtom ","))))::l|l=>l
 if c==' ' then ("",l) else if c=='(' || c=='[' || c=='⟨' then ("",(#[],#[])::l) else if c==',' then ("",match l with|(i,a)::l=>(i.push (apS a),#[])::l|l=>l)
 else if c==')' then ("",up (·[0]!))
 else if c==']' then ("",up λi=>mkNode `«term[_]» #[mkAtom "[",mkNullNode i,mkAtom "]"])
 else if c=='⟩' then ("",up λi=>mkNode `Lean.Parser.Term.anonymousCtor #[mkAtom "⟨",mkNullNode i,mkAtom "⟩"]) else (z.1.push c,z.2)
open Lean in
def rdS (s:String):MacroM Syntax:=match (s.push ' ').foldl stS ("",[(#[],#[])]) with|(_,[(_,a)])=>pure (apS a)|_=>Macro.throwUnsupported
def tbC:List String:="".splitOn ";"
def tbS:List (List String):=("".splitOn ";").map (·.splitOn " ")
local macro_rules|`($c:char)=>match tbC.find? (λs=>s.front==c.getChar) with|some s=>rdS (s.drop 1).toString|_=>Lean.Macro.throwUnsupported
local macro_rules|`($c:scientific)=>match tbS.find? (λs=>s.head? ==c.raw.isLit? `scientific) with|some s=>rdS (" ".intercalate s.tail)|_=>Lean.Macro.throwUnsupported
open Lean in
def alT (s:String):MacroM (TSyntax `Lean.Parser.Tactic.tacticSeq):=do
 match s.splitOn ";" with
 |"E"::l=>
  let a<-l.toArray.mapM λt=>do return (⟨<-rdS t⟩:Term)
  `(tacticSeq|exists $a,*)
 |[k,g,t]=>
  let g:Term:=⟨<-rdS g⟩
  let t:Term:=⟨<-rdS t⟩
  let u:TSyntax `tactic<-if (k.drop 1).toString=="x" then `(tactic|exact $t) else `(tactic|refine $t<;>walk_at $(quote (k.drop 1).toString))
  if k.startsWith "n" then `(tacticSeq|$u:tactic) else if k.startsWith "p" then `(tacticSeq|exists $g;$u:tactic) else if k.startsWith "0" then `(tacticSeq|exists $g,0;$u:tactic) else if k.startsWith "1" then `(tacticSeq|exists $g,1;$u:tactic) else if k.startsWith "w" then `(tacticSeq|(with_reducible show $g);$u:tactic) else `(tacticSeq|show $g;$u:tactic)
 |_=>Macro.throwUnsupported
open Lean in
def wkT (t s:String):MacroM (TSyntax `tactic):=match ((t.splitOn "\n").map (·.splitOn "|")).find? (·.head? ==some s) with
 |some (_::l)=>do
  let a<-l.toArray.mapM alT
  `(tactic|first $[|$a]*)
 |_=>Macro.throwUnsupported
def tbW0:="z|nx;_;fnS rfl rfl rfl 'b'
v|nx;_;.inl rfl|nx;_;.inr (.inl rfl)|nx;_;.inr (.inr rfl)
l|nx;_;.inl rfl|nx;_;.inr rfl
le#0|nx;_;aw _
f#0|nx;_;Rf (CI.out T) hr '4' rfl %a
k|nx;_;ziA|nx;_;ZP _ rfl|nx;_;ZJ|nx;_;X6
n|nx;_;zgR T.w31|nx;_;zgC T.w51
o#0|px;i_ qJ _ _;Yh '2' '2' ^2|E;fI xt;ZD;zfV|E;fI xM;ziP;zhF|E;fI BG;zg4;zgx|E;fI yN;Yy;zgB|E;fI Ct;Z6;zgg|E;fI v7;ziS;zie|E;fI HN;YD;zh0|E;fI D4;Y8;zgs|E;Az;Q6;RI;0|E;DP;Lb;Ly;0|E;Hs;Qz;Rz;0|E;qf rB;Sj hr.units;Ej;0|E;qf sD;Si hr.units;Ej;0|px;i_ Cj _ _;Ln (Ry hr.units) Rh '2' '2' rfl|px;i_ zr _ _;Ln (Sv hr.units) SU '2' '2' rfl|E;KO;ziM;zhb;0
c#0|E;rL;zdZ;YH;T.wS;YB|E;zq;zcZ rfl;YL;T.wL;ZV|E;D3;zbz rfl;ZW;T.wM;ziJ|E;BE;zcy rfl;ziF;T.w01;Zq|E;Ed;zcH rfl;zgr;T.wU;Yw|E;CK;zaT rfl;zgU;T.wV;ID|E;Fk;zcA rfl;zgQ;T.wV;ID
c#1|px;ux \"bool\" _;Fw '2' 'u' rfl T.wR EE rfl T.wN zhR|px;ux \"int\" _;Fw '2' 'u' rfl T.wR EE rfl T.wQ R4|px;ux \"list\" _;Fw '2' 'u' rfl T.wR EE rfl T.wT LQ|px;ux \"str\" _;Fw '2' 'u' rfl T.wR EE rfl T.wZ RY|px;ux \"tuple\" _;Fw '2' 'u' rfl T.wR EE rfl T.w11 Md|px;Ij \"tuple\" \"list\" _;zhY '2' 'u' 'u' rfl T.wR EE rfl T.w11 Md rfl T.wT LQ
c#2|E;Ee;zcL rfl hr.units;zhX;T.wV;ID|E;Fh;zc6;zhf;T.wY;MP|E;CL;zc0;zhC;T.wY;MP
pk|nx;_;Rc|nx;_;RX|nx;_;RM
pp|nx;_;zdY %pk %pk %pp|nx;_;zhJ
so#0|wx;DX _ _ _ H_;zdp
m#0|px;z_ _ _;zay '2' %a|px;zo _ _;zbP '2' %a
m#1|px;D9 _ _;zgV '2' '2' ^2
m#2|px;Kt HS _ _;Ym PySem.F.slot_str_count PySem.F.type_str_count zdv Zh '2' %a|px;Ks _ _ _;XS '2' %so %so|px;HW A5 _;zgF T.w41 rfl '2' ^2|px;HV _ _;Zb _ %pp rfl rfl rfl (List.cons_ne_nil _ _) (gQ rfl) (gQ rfl) (Yn hr) '2' ^2
a|wx;uS _ _ _ g_;zia|nx;_;zdJ '2' %a
t#0|0x;qI (i_ Az _ _);El Q6 RI '2' '2' (FK _)|0x;qI (i_ Hs _ _);El Qz Rz '2' '2' (FK _)|wx;rX _ _ _ (qI (i_ (qf rB) _ _));El (Sj hr.units) Ej '2' '2' (FK _)|wx;rX _ _ _ (qI (i_ (qf sD) _ _));El (Si hr.units) Ej '2' '2' (FK _)|0x;qI (i_ Cj _ _);El (Ry hr.units) Rh '2' '2' rfl|0x;qI (i_ zr _ _);El (Sv hr.units) SU '2' '2' rfl
t#1|wx;rX _ _ _ (sI _);zgI '2' ^1
w#0|wx;x9 _ _ _ (Fp _ _);zi1 %t %w|wx;x9 _ _ _ (Ad _ _);Za %t %w
fs|nx;_;.nil|nx;_;.cons %t %fs
cs#0|nx;_;.nil
s#0|1x;rW _ _ _;Z3 %t %ss %ss
s#1|1x;qH _ _;L3 (xi 'b') rfl %l '2'|1x;uC _ _ _;zhw jc rfl %i %g %ss
s#2|1x;HG _ _;zgu (xi 'b') rfl %l '2'|1x;Lq _ _ _;zbs _ jc %t %ss|1x;rY;zdS
sl#0|E;x0;6|E;x1;6
ss#0|wx;ue _ _ _ rY;zdn|wx;ue _ _ _ Fc;My|wx;ue _ _ _ (qd _ _);q0 '1' %ss"
local macro_rules|`(tactic|walk_at $s:str)=>wkT tbW0 s.getString
local macro_rules|`(tactic| walk_at "le")=>`(tactic| first|decide|walk_at "le#0"|lia)
local macro_rules|`(tactic| walk_at "fx")=>`(tactic| first|refine Rf h hr '4' rfl ?_<;>walk_at "a")
local macro_rules|`(tactic| walk_at "f")=>`(tactic| first|walk_at "f#0"|((exists (n_ _ _ _));have h:=c_self;walk_at "fx"))
local macro_rules|`(tactic| walk_at "o")=>`(tactic| first|((exists (i_ rZ _ _));refine ziH ?_ ?_<;>walk_at "e")|walk_at "o#0"|((exists (Ei true A5 _));refine zbw T.w41 rfl ?_<;>walk_at "e")|((exists (Lx DP DP _ _ _));refine zdk Lb Ly Lb Ly ?_ ?_ ?_<;>walk_at "e"))
local macro_rules|`(tactic| walk_at "c")=>`(tactic| first|walk_at "c#0"|((exists (qh AR _));refine Jm zbg zgv rfl T.wQ R4 ?_<;>walk_at "a")|((exists (qh BL _));refine Jm z6e zdG rfl T.w11 Md ?_<;>walk_at "a")|((exists (qh Io _));refine Jm z6M zfZ rfl T.wZ RY ?_<;>walk_at "a")|((exists (qh (Ic _) _));refine Jm z6T (zhi _) rfl T.wT LQ ?_<;>walk_at "a")|walk_at "c#1"|((exists (Fm _ _));refine zhP _ rfl rfl T.wY MP rfl T.wX ziI ?_<;>walk_at "a")|((exists (vn _ _ _ (FY _) _));refine FD (zcN T hT L) hr '4' rfl ?_<;>walk_at "a")|((exists (vn _ _ _ (JA _) _));refine FD (z4Y T hT L) hr '4' rfl ?_<;>walk_at "a")|((exists (vn _ _ _ (EH _) _));refine FD (z4M T hT L) hr '4' rfl ?_<;>walk_at "a")|((exists (vn _ _ _ F _));refine FD c_self hr '4' rfl ?_<;>walk_at "a")|((exists (vn _ _ _ _ _));refine FD c_self hr '4' rfl ?_<;>walk_at "a")|((exists (D_ _ _ _ _));exact zdo (k:=2) (hr.mono (by lia)) rfl L rfl (by kernel_rfl) rfl (λ_ _ _ _ _ _ _=>rfl) (xi (by kernel_rfl)) '2' (λq lam cd cl A outer s H hr=>'2') rfl T.wV)|walk_at "c#2")
local macro_rules|`(tactic| walk_at "so")=>`(tactic| first|walk_at "so#0"|refine zdT ?_<;>walk_at "e")
local macro_rules|`(tactic| walk_at "m")=>`(tactic| first|walk_at "m#0"|((exists (KU _));refine Zv ?_<;>walk_at "e")|((exists (Ik _ _ _ _ _ _ _));refine zhQ (z5r T) hr '4' rfl ?_ ?_ ?_<;>walk_at "e")|walk_at "m#1"|((exists (Ah _ _ _ _ _ _ _));first|exists x0,3|exists x1,3)|walk_at "m#2")
local macro_rules|`(tactic| walk_at "e1")=>`(tactic| first|((exists (rM _));refine Zz rfl ?_<;>walk_at "v")|((exists (dC _));first|walk_at "k"|walk_at "n")|((exists (i_ _ _ _));walk_at "o")|((exists (n_ _ _ _));walk_at "f")|((exists (vm _));refine ziR ?_<;>walk_at "a")|((exists (vZ _));refine YM ?_<;>walk_at "a")|((exists (qA _ _ _ _ _ _ _));first|exists x0,2|exists x1,2)|((exists (qh _ _));walk_at "c")|((exists (yP _));refine zh1 ?_<;>walk_at "a")|((exists (zm _ _));refine YG ?_ ?_<;>walk_at "e")|((exists (PV _ _));refine Yl ?_ ?_<;>walk_at "e")|((exists (Fd _));refine ZF ?_<;>walk_at "e")|walk_at "c"|walk_at "m"|walk_at "o")
local macro_rules|`(tactic| walk_at "e")=>`(tactic| first|(show PD _ _ (.BoolOp _ [_] _) _;refine Ys ?_<;>walk_at "e1")|walk_at "e1")
local macro_rules|`(tactic| walk_at "t")=>`(tactic| first|walk_at "t#0"|((exists (qI (Ei true A5 _)),0);refine zao T.w41 rfl ?_<;>walk_at "e")|(show rX _ _ (.BoolOp _ _ _) _;refine x9.pt ?_<;>walk_at "w")|((with_reducible show rX _ _ _ (vo _));refine zgN ?_<;>walk_at "t")|walk_at "t#1")
local macro_rules|`(tactic| walk_at "w")=>`(tactic| first|(show x9 _ _ (.BoolOp .And [_] _) _;refine zeB ?_<;>walk_at "t")|(show x9 _ _ (.BoolOp .Or [_] _) _;refine zhL ?_<;>walk_at "t")|walk_at "w#0")
local macro_rules|`(tactic| walk_at "i")=>`(tactic| first|((with_reducible show ud _ _ _ _ (uE _));refine z9Y rfl T.wW ?_<;>walk_at "a")|((with_reducible show ud _ _ _ _ (D7 _));refine zeM rfl T.w21 ?_<;>walk_at "a")|((with_reducible show ud _ _ _ _ (CT _));refine zbC rfl T.wP ?_<;>walk_at "a")|((with_reducible show ud _ _ _ _ (HM _));refine zds ?_<;>walk_at "e")|refine zgk ?_<;>walk_at "e")
local macro_rules|`(tactic| walk_at "g")=>`(tactic| first|(show PG _ (.Name _ _) _;refine ZS (xi (by kernel_rfl)) rfl ?_ ?_<;>walk_at "l")|(show PG _ (.Tuple [_,_] _ _) _;refine Y4 rfl (xi (by kernel_rfl)) rfl rfl ?_ ?_ ?_ ?_<;>walk_at "l"))
local macro_rules|`(tactic| walk_at "cs")=>`(tactic| first|walk_at "cs#0"|(refine o7.cons ?_ (λ_=>rfl) ?_ ?_ ?_;(dsimp only;walk_at "i");(dsimp only;walk_at "g");(dsimp only;walk_at "fs");walk_at "cs"))
local macro_rules|`(tactic| walk_at "s")=>`(tactic| first|((exists (qm _),1);refine zhv ?_<;>walk_at "e")|walk_at "s#0"|(show vI _ _ (.Assign [.Name _ _] (.ListComp _ _ _ _) _) _;first|exists x0,4|exists x1,4|exact L3 (xi (by kernel_rfl)) rfl (by walk_at "l") '2')|(show vI _ _ (.Assign [.Name _ _] (.DictComp _ _ _ _ _) _) _;first|exists x0,5|exists x1,5|exact L3 (xi (by kernel_rfl)) rfl (by walk_at "l") '2')|walk_at "s#1"|((exists (t7 _),1);refine ze6 ?_<;>walk_at "e")|((exists (Cs _ _ _),1);refine Z7 ?_ ?_ ?_<;>walk_at "e")|walk_at "s#2")
local macro_rules|`(tactic| walk_at "sl")=>`(tactic| first|first|walk_at "sl#0")
local macro_rules|`(tactic| walk_at "rs")=>`(tactic| first|(refine zd7 jc rfl (λte he=>Fu (xi (by kernel_rfl)) rfl ?_ (MJ zaf rfl T.wO zh9 (vP he BM))) ?_ ?_ ?_ (BK rfl ?_) (BK rfl ?_) ?_ ?_ rfl ?_ (by decide) (by decide) (gQ rfl) (gQ rfl);(walk_at "l");(walk_at "e");(walk_at "i");(walk_at "g");(walk_at "v");(walk_at "v");(walk_at "sl");(walk_at "e");(walk_at "ss")))
local macro_rules|`(tactic| walk_at "ss")=>`(tactic| first|((with_reducible show ue _ _ _ (Fi _ _ _ _ _ _ _ _));walk_at "rs")|walk_at "ss#0"|refine rh ?_<;>walk_at "s")
def rJ{x:aA}{st:eO}{t:DS}(k:Nat)(N:List aA)(j:Nat)(h:qP K mg x st)(qC:∀{f:af}{qk:ae}{A:bD}{outer:List Env}{s:ai}{H:Hp}{E:XK},oW k (A.deeper (d8 x (rC st) s.heap.objs.size f qk))->ue (Cp P w K mg base N x (rC st) f qk A outer s H E) qE (uF st) t)(S:vt N (N.take j) (rC st):=by walk_at "z")(hb:∀(kV doc pm:ae)(an:Option af)(qk ct:ae)(us:List ae),us.length=(N.take j).length->bindArgs (ck x x (xP st) (uF st) (rC st) .none kV doc pm an qk ct) ⟨us,[]⟩=pure ((N.take j).zip us):=by walk_at "u"):Callee P w K mg base x (k+1) (N.take j).length (q_ N.length t):=Pw h S hb λ_ _ _ _ _ _ _ hr=>qC hr
def U7:DS:=(qm (zm (ux "int" j_) (Fd (ux "bool" j_))))
def Vg:qx:=(q_ 1 U7)
instance:CI Vg "is_whole" 1 1:=⟨λT=>
 Callee.self (rJ 0 ["thing"] 1 T.w0 λhr=>
  ((rh (by delta U7;walk_at "s"))))⟩
def Vu:DS:=(qm (HW A5 (qh rL (b_ j_ g_))))
def F9:qx:=(q_ 1 Vu)
instance:CI F9 "switches_of" 1 1:=⟨λT=>
 Callee.self (rJ 0 ["function"] 1 T.w4 λhr=>
  ((rh (by delta Vu;walk_at "s"))))⟩
abbrev rK:=rM 3
def Vx:DS:=(qm (qA Kb 2 (CT (b_ j_ g_)) (.two 2 3) [(qI (i_ (qf rB) rK qc))] [] qt))
def JL:qx:=(q_ 2 Vx)
instance:CI JL "points_with" 1 2:=⟨λT=>
 Callee.self (rJ 0 ["function", "answer"] 2 T.w5 λhr=>
  (have x0:Nx ["point", "told"]:=⟨⟩;(rh (by delta Vx;walk_at "s"))))⟩
def z8L:DS:=(qd (qH 1 (vm (b_ (dC (.str [])) g_))) (qd (uC (uE (b_ j_ g_)) (.one 2) (qH 1 (qA Kb 2 (qG qc) (.one 3) [] (⟨(qG (dC (.str [45,48,49]))),(.one 4),[]⟩::[]) (i_ rZ rK tj)))) (qm qc)))
def Jx:qx:=(q_ 3 z8L)
instance:CI Jx "all_terms" 1 1:=⟨λT=>
 Callee.self (rJ 0 ["n", "terms", "switch"] 1 T.w6 λhr=>
  (have x0:Nx ["term", "sign"]:=⟨⟩;(q0 '1' (q0 '1' (rh '1')))))⟩
abbrev AO:=dC (.str [45])
def zcs:DS:=(qd (rW (qI (i_ (qf rB) j_ AO)) (qm (vm (b_ rQ (b_ rV g_)))) rY) (qm (vm (b_ (qh AR (b_ j_ g_)) g_))))
def UO:qx:=(q_ 1 zcs)
instance:CI UO "bits_of" 1 1:=⟨λT=>
 Callee.self (rJ 0 ["sign"] 1 T.w7 λhr=>
  ((q0 '1' (rh '1'))))⟩
def U0:DS:=(qm (i_ rZ (i_ rZ (Ks j_ H_ (K_ qc)) qt) (Ks j_ (K_ (i_ rZ qc rV)) H_)))
def Jp:qx:=(q_ 3 U0)
instance:CI Jp "with_sign" 1 3:=⟨λT=>
 Callee.self (rJ 0 ["term", "switch", "sign"] 3 T.w9 λhr=>
  ((rh (by delta U0;walk_at "s"))))⟩
def U6:DS:=(qm (i_ (fI xt) (qh rL (b_ j_ g_)) (Kt HS j_ (b_ AO g_))))
def F2:qx:=(q_ 1 U6)
instance:CI F2 "signs_in" 1 1:=⟨λT=>
 Callee.self (rJ 0 ["term"] 1 T.wa λhr=>
  ((rh (by delta U6;walk_at "s"))))⟩
def JI:DS:=(qm (qA Kb 1 (HM j_) (.one 2) [(qI (i_ Cj qc (D9 j_ qt)))] [] qt))
def C0:qx:=(q_ 2 JI)
instance:CI C0 "holders_in" 1 2:=⟨λT=>
 Callee.self (rJ 0 ["held", "one"] 2 T.wd λhr=>
  (have x0:Nx ["term"]:=⟨⟩;(rh (by delta JI;walk_at "s"))))⟩
def MY:DS:=(qd (rW (sI (i_ qJ j_ rV)) (qd (qH 2 (i_ (fI yN) (i_ qJ j_ rQ) qc)) (qd (Cs (i_ (fI BG) (i_ qJ j_ rQ) qc) j_ rQ) (qm qt))) rY) (qd (Cs (i_ (fI yN) (i_ rZ (i_ (fI xM) (i_ qJ j_ rQ) (dC (.int 48271))) (dC (.int 29))) (dC (.int 2147483647))) j_ rQ) (qd (qH 3 (i_ (fI yN) (i_ rZ (i_ rZ (i_ (fI xM) (i_ qJ j_ rQ) (i_ qJ j_ rQ)) (i_ (fI xM) (dC (.int 39373)) (i_ qJ j_ rQ))) (dC (.int 7))) (dC (.int 2147483629)))) (qd (qH 3 (i_ (fI yN) (i_ rZ (i_ (fI xM) rK rK) (i_ (fI xM) (dC (.int 16807)) rK)) (dC (.int 2147483587)))) (qm (i_ (fI yN) (i_ (fI BG) rK (dC (.int 8))) qc))))))
def xj:qx:=(q_ 4 MY)
instance:CI xj "_law_take" 1 2:=⟨λT=>
 Callee.self (rJ 0 ["_law_state_here", "_law_many", "_law_found", "_law_stirred"] 2 T.wp λhr=>
  ((q0 '1' (q0 '1' (q0 '1' (q0 '1' (rh '1')))))))⟩
def z5t:DS:=(qd (rW (qI (i_ Az qc (qh rL (b_ j_ g_)))) (qm (i_ qJ j_ qc)) rY) (qm rQ))
def Nm:qx:=(q_ 2 z5t)
instance:CI Nm "_law_cell_at" 1 2:=⟨λT=>
 Callee.self (rJ 0 ["_law_script", "_law_k"] 2 T.ws λhr=>
  ((q0 '1' (rh '1'))))⟩
abbrev yd:=vm g_
def Vt:DS:=(qm (zm (ux "str" qc) (zm (i_ (qf rB) (qh rL (b_ qc g_)) j_) (i_ (qf rB) (qA Kb 1 (qG qc) (.one 2) [(qI (i_ zr qt (dC (.str [48,49,45]))))] [] qt) yd))))
def JB:qx:=(q_ 2 Vt)
instance:CI JB "_law_is_term" 1 2:=⟨λT=>
 Callee.self (rJ 0 ["_law_n", "_law_thing"] 2 T.wu λhr=>
  (have x0:Nx ["_law_sign"]:=⟨⟩;(rh (by delta Vt;walk_at "s"))))⟩
def VF:DS:=(qm (HV [(2,1),(4,2),(8,3),(16,4)] (qh rL (b_ j_ g_))))
def EJ:qx:=(q_ 1 VF)
instance:CI EJ "_law_switches" 1 1:=⟨λT=>
 Callee.self (rJ 0 ["_law_function_here"] 1 T.ww λhr=>
  ((rh (by delta VF;walk_at "s"))))⟩
abbrev yc:=qm (dC (.bl Kb))
abbrev Cv:=dC (.bl Ka)
def z7p:DS:=(qd (qH 2 (qh rL (b_ j_ g_))) (qd (uC (uE (b_ qt g_)) (.one 3) (rW (Fp (qI (i_ (qf sD) (i_ qJ j_ rK) AO)) (qI (i_ (qf sD) (i_ qJ j_ rK) (qh Io (b_ (i_ (fI D4) (i_ (fI HN) qc (i_ (fI xt) (i_ (fI xt) qt rV) rK)) rV) g_))))) yc rY)) (qm Cv)))
def F7:qx:=(q_ 4 z7p)
instance:CI F7 "_law_holds" 1 2:=⟨λT=>
 Callee.self (rJ 0 ["_law_term", "_law_point", "_law_n", "_law_k"] 2 T.wx λhr=>
  ((q0 '1' (q0 '1' (rh '1')))))⟩
def Jy:DS:=(qm (qA Kb 1 (uE (b_ (qh rL (b_ j_ g_)) g_)) (.one 1) [(qI (i_ (qf rB) (i_ qJ j_ qc) rV))] [] qc))
def Jv:qx:=(q_ 1 Jy)
instance:CI Jv "_law_ones" 1 1:=⟨λT=>
 Callee.self (rJ 0 ["_law_function_here"] 1 T.wA λhr=>
  (have x0:Nx ["_law_point"]:=⟨⟩;(rh (by delta Jy;walk_at "s"))))⟩
abbrev tN:=b_ rK g_
def M5(F:qx):DS:=(qd (rW (sI (Ij "tuple" "list" qc)) (qd (rW (Ad (qI (i_ (qf sD) (ux "tuple" j_) (ux "tuple" qc))) (qI (i_ (qf sD) (ux "list" j_) (ux "list" qc)))) yc rY) (qd (rW (qI (i_ (qf sD) (qh rL (b_ j_ g_)) (qh rL (b_ qc g_)))) yc rY) (qm (qh zq (b_ (qA Kb 2 (D7 (b_ j_ (b_ qc g_))) (.two 2 3) [] [] (n_ 2 F (b_ qt tN))) g_))))) rY) (qm (zm (i_ (qf rB) j_ qc) (i_ (qf rB) (ux "bool" j_) (ux "bool" qc)))))
def F6:Nat->qx
 |0=>λ_ _=>.bad
 |k+1=>(q_ 2 (M5 (F6 k)))
def Vk:vt ["_law_found", "_law_due"] ["_law_found", "_law_due"] (rC (top 53)):=by walk_at "z"
theorem Vy(T:Txt K mg):∀k,Callee P w K mg base "_law_same" (1+k) 2 (F6 k)
 |0=>Callee.bad (F:=q_ 2 Fc) (Pw T.wE Vk '3' λf qk A outer s H E hr=>My)
 | k+1=>Callee.self (Pw (k:=1+k) T.wE Vk '3' λf qk A outer s H E hr=>
  have c_self:=Vy T k
  (have x0:Nx ["_law_one", "_law_other"]:=⟨⟩;(q0 '1' (rh '1'))))
def Jw:qx:=F6 3
instance:CI Jw "_law_same" 4 2:=⟨λT=>Vy T 3⟩
abbrev NC:DE:=i_ (fI xt) (qh rL (b_ qc g_)) (Kt HS qc (b_ AO g_))
def Nd:DS:=(qm (qh BE (b_ (qA Kb 1 (qG j_) (.one 1) [] [] NC) g_)))
def C1:qx:=(q_ 1 Nd)
instance:CI C1 "_law_signs" 1 1:=⟨λT=>
 Callee.self (rJ 0 ["_law_terms_here"] 1 T.wF λhr=>
  (have x0:Nx ["_law_term"]:=⟨⟩;(rh (by delta Nd;walk_at "s"))))⟩
def Nf:DS:=(qd (qH 1 (vm (b_ (dC (.str [])) g_))) (qd (uC (uE (b_ j_ g_)) (.one 2) (qd (qH 3 (yP g_)) (qd (uC (qG qc) (.one 4) (t7 (zo rK (b_ (vm (b_ (i_ rZ tj AO) (b_ (i_ rZ tj (dC (.str [48]))) (b_ (i_ rZ tj (dC (.str [49]))) g_)))) g_)))) (qH 1 rK)))) (qm qc)))
def JJ:qx:=Ab (q_ 5 Nf)
instance:CI JJ "_law_terms" 1 1:=⟨λT=>
 Callee.frz (rJ 0 ["_law_n", "_law_found", "_law_turn", "_law_longer", "_law_term"] 1 T.wG λhr=>
  ((q0 '1' (q0 '1' (rh '1')))))⟩
def z5u:vt ["_law_masks", "_law_costs", "_law_left", "_law_known", "_law_first", "_law_found", "_law_mask", "_law_cost", "_law_more"] ["_law_masks", "_law_costs", "_law_left", "_law_known"] (rC (top 57)):=by walk_at "z"
theorem VD(T:Txt K mg):∀k,FN P w K mg base "_law_fewest" (1+k) Gm xC okm k
 |0=>XI T.wI (ps:=["_law_masks", "_law_costs", "_law_left", "_law_known"]) rfl '3' zgD
 | k+1=>fnM (k:=1+k) (tz:=Mz) (t0:=M0) (R:=λd1 d2=>sM MF MG Mi Mt (Co (Gm d1 d2) xC okm k M3) MA Mm) T.wI z5u rfl rfl '3' (zeV k) λf qk A outer s H E hr=>by
  have hc:=(VD T k).ex;obtain⟨fc,fdc,psc,hm,uO,hb,F⟩:=hc;refine zaw (Ex:=qE) (E0:=E0) ?hp ?hc ?hu ?hz ?h0 ?vL ?vK ?hm ?hF ?hG ?hi ?hg ?hs ?ht ?hC ?hA ?hsA ?hM ?VI ?VL ?Ou ?VH ?VJ ?Ca
  case hp=>exact jc
  case hc=>rfl
  case hu=>exact ei (jf 'u' _) hr.units
  case hz=>delta Mz;walk_at "t"
  case h0=>delta M0;walk_at "e"
  case hm=>rfl
  case hF=>exact Fu (xi 'b') rfl (by walk_at "l") (PD.out (by delta MF;walk_at "e"))
  case hG=>exact Fu (xi 'b') rfl (by walk_at "l") (PD.out (by delta MG;walk_at "e"))
  case hi=>delta Mi;walk_at "i"
  case hg=>walk_at "g"
  case hs=>exact λ_=>rfl
  case ht=>delta Mt;walk_at "t"
  case hC=>exact Fu (xi 'b') rfl (by walk_at "l") (IL (F.mono (aw _)) hr rfl hm uO hb .nil Ip (vP (BK rfl (by walk_at "v")) (vP (BK rfl (by walk_at "v")) (vP (PD.out (by delta M3;walk_at "e")) (vP (BK rfl (by walk_at "v")) BM)))))
  case hA=>delta MA;walk_at "e"
  case hsA=>rfl
  case hM=>delta Mm;walk_at "e"
  case Ou=>rfl
  case Ca=>exact λ_ _=>rfl
  all_goals exact BK rfl (by walk_at "v")
def z5r(T:Txt K mg):FN P w K mg base "_law_fewest" 27 Gm xC okm 26:=VD T 26
def VB:DS:=(qm (zm (n_ 1 Vg (b_ j_ g_)) (Lx DP DP qc j_ qt)))
def VC:qx:=(q_ 3 VB)
instance:CI VC "is_whole_within" 2 3:=⟨λT=>
 Callee.self (rJ 1 ["thing", "least", "most"] 3 T.w1 λhr=>
  ((rh (by delta VB;walk_at "s"))))⟩
abbrev BH:=dC (.int 2)
def z7Q:DS:=(qd (qH 1 (vm (b_ rQ g_))) (qd (uC (qG j_) (.one 2) (qH 1 (qA Kb 2 (qG qc) (.one 3) [] (⟨(qG (n_ 1 UO (b_ qt g_))),(.one 4),[]⟩::[]) (i_ rZ (i_ (fI xM) BH rK) tj)))) (qm qc)))
def F_:qx:=(q_ 3 z7Q)
instance:CI F_ "points_of" 2 1:=⟨λT=>
 Callee.self (rJ 1 ["term", "points", "sign"] 1 T.w8 λhr=>
  (have x0:Nx ["point", "bit"]:=⟨⟩;(q0 '1' (q0 '1' (rh '1')))))⟩
def Je:DS:=(qm (qh BE (b_ (qA Kb 1 (qG j_) (.one 1) [] [] (n_ 1 F2 (b_ qc g_))) g_)))
def A4:qx:=(q_ 1 Je)
instance:CI A4 "signs_of" 2 1:=⟨λT=>
 Callee.self (rJ 1 ["form"] 1 T.wc λhr=>
  (have x0:Nx ["term"]:=⟨⟩;(rh (by delta Je;walk_at "s"))))⟩
abbrev CB:DE:=qh rL (b_ (n_ 2 C0 (b_ j_ (b_ (rM 9) g_))) g_)
abbrev CH:DE:=qA Kb 1 (qG qc) (.one 9) [(qI (i_ zr (rM 9) (D9 j_ ye)))] [] (rM 9)
abbrev yK:=b_ ye g_
abbrev BB(Pt:Nat)(F:qx):DE:=zo tj (b_ (qA Kb 1 (qG (vn Pt 8 3 F (b_ yg (b_ (rM 7) (b_ (i_ (fI xt) qt rV) g_))))) (.one 9) [] [] (i_ rZ (vZ yK) (rM 9))) g_)
def A2(Pt:Nat)(F:qx):DS:=(qd (rW (vo (sI qc)) (qm (vm (b_ (vZ g_) g_))) rY) (qd (rW (qI (i_ (qf rB) qt rQ)) (qm yd) rY) (qd (qH 3 (D_ Pt 8 qc CB)) (qd (qH 4 (yP g_)) (Fi 5 6 7 j_ (qG (n_ 2 C0 (b_ j_ tN))) CH (BB Pt F) (qm tj))))))
def yt(Pt:Nat):Nat->qx
 |0=>λ_ _=>.bad
 |k+1=>Ab (Af 9 8 Pt (A2 Pt (yt Pt k)))
def Us:vt ["held", "wanted", "many", "hardest", "found", "rest", "term", "left", "<tab>"] ["held", "wanted", "many"] (rC (top 24)):=by walk_at "z"
theorem Vb{c Pt:af}(T:Txt K mg)(hT:BC K mg "covers" (top 24) c)(L:yk mg base c Pt):∀k,oV P w K mg base "covers" (4+k) 3 Pt (yt Pt k)
 |0=>oV.bad (F:=Af 9 8 Pt Fc) (Qj (k:=3) (i:=8) (z := "<tab>") hT Us rfl (Fb 'b') '3' λf A outer s H E hr=>My)
 | k+1=>oV.frz (Qj (k:=4+k) (i:=8) (z := "<tab>") hT Us rfl (Fb 'b') '3' λf A outer s H E hr=>
  have c_self:=Vb T hT L k
  (have x0:Nx ["one"]:=⟨⟩;have x1:Nx ["cover"]:=⟨⟩;(by unfold A2;walk_at "ss")))
def FY(Pt:Nat):qx:=yt Pt 20
def zcN{c Pt:af}(T:Txt K mg)(a:BC K mg "covers" (top 24) c)(L:yk mg base c Pt):oV P w K mg base "covers" 24 3 Pt (FY Pt):=Vb T a L 20
def Jq:DS:=(qm (qA Kb 3 (CT (b_ j_ g_)) (.two 1 2) [] (⟨(qG (n_ 2 JL (b_ qt (b_ rV g_)))),(.one 3),[]⟩::[]) (vZ (b_ qc tN))))
def M4:qx:=(q_ 1 Jq)
instance:CI M4 "things_of" 2 1:=⟨λT=>
 Callee.self (rJ 1 ["functions"] 1 T.wi λhr=>
  (have x0:Nx ["number", "function", "point"]:=⟨⟩;(rh (by delta Jq;walk_at "s"))))⟩
abbrev Ff:=b_ (dC (.int 3)) g_
def JE:DS:=(qd (qH 3 (i_ qJ (vm (b_ BH (b_ (dC (.int 4)) (b_ (dC (.int 6)) g_)))) (n_ 2 xj (b_ j_ Ff)))) (qd (qH 4 (i_ (fI xM) (n_ 2 xj (b_ j_ Ff)) (qh AR (b_ qt g_)))) (qd (qH 5 (yP g_)) (qd (uC (uE (b_ (i_ (fI v7) rV qc) g_)) (.one 6) (qd (qH 7 (qh AR (b_ (i_ Az (n_ 2 xj (b_ j_ (b_ (dC (.int 8)) g_))) rK) g_))) (qd (rW (qI (i_ Az (n_ 2 xj (b_ j_ (b_ (dC (.int 5)) g_))) tj)) (qH 7 (dC .non)) rY) (t7 (z_ yg (b_ (rM 7) g_)))))) (qm (qh BL (b_ yg g_)))))))
def JG:qx:=Ab (q_ 8 JE)
instance:CI JG "_law_function" 2 3:=⟨λT=>
 Callee.frz (rJ 1 ["_law_state_here", "_law_n", "_law_free", "_law_often", "_law_rest", "_law_found", "_law_point", "_law_answer"] 3 T.wq λhr=>
  ((q0 '1' (q0 '1' (q0 '1' (q0 '1' (rh '1')))))))⟩
def z7d:DS:=(qd (qH 2 (n_ 2 Nm (b_ j_ (b_ qc g_)))) (qd (rW (qI (i_ Hs qt (i_ (fI Ct) (dC (.int 10)) (dC (.int 18))))) (qm (yP (b_ (i_ (fI xt) qt (i_ (fI Ct) (dC (.int 10)) (dC (.int 18)))) (b_ Cv g_)))) rY) (qm (yP (b_ (i_ (fI yN) qt (dC (.int 2147483647))) (b_ (dC (.bl Kb)) g_))))))
def M8:qx:=(q_ 3 z7d)
instance:CI M8 "_law_state" 2 2:=⟨λT=>
 Callee.self (rJ 1 ["_law_script", "_law_k", "_law_cell"] 2 T.wt λhr=>
  ((q0 '1' (q0 '1' (rh '1')))))⟩
def Nw:DS:=(qd (rW (Ad (vo (sI (ux "tuple" qc))) (vo (sI (qh zq (b_ (qA Kb 1 (qG qc) (.one 2) [] [] (n_ 2 JB (b_ j_ (b_ qt g_)))) g_))))) yc rY) (qm (i_ (qf rB) (qh (Ic Kb) (b_ qc g_)) (Fm Kb (b_ qc g_)))))
def Gb:qx:=(q_ 2 Nw)
instance:CI Gb "_law_are_terms" 2 2:=⟨λT=>
 Callee.self (rJ 1 ["_law_n", "_law_thing"] 2 T.wv λhr=>
  (have x0:Nx ["_law_term"]:=⟨⟩;(q0 '1' (rh '1'))))⟩
def Ju:DS:=(qm (i_ (qf rB) (qA Kb 1 (uE (b_ (qh rL (b_ j_ g_)) g_)) (.one 2) [(Fp (qI (i_ (qf rB) (i_ qJ j_ qt) rQ)) (sI (n_ 2 F7 (b_ qc (b_ qt g_)))))] [] qt) yd))
def Jr:qx:=(q_ 2 Ju)
instance:CI Jr "_law_good" 2 2:=⟨λT=>
 Callee.self (rJ 1 ["_law_function_here", "_law_term"] 2 T.wy λhr=>
  (have x0:Nx ["_law_point"]:=⟨⟩;(rh (by delta Ju;walk_at "s"))))⟩
def JK:DS:=(qd (qH 1 (yP g_)) (qd (uC (uE (b_ (qh rL (b_ j_ g_)) g_)) (.one 2) (t7 (zo qc (b_ (qA Kb 1 (qG (n_ 1 Jv (b_ (i_ qJ j_ qt) g_))) (.one 3) [] [] (vZ (b_ qt tN))) g_)))) (qm qc)))
def B0:qx:=Ab (q_ 3 JK)
instance:CI B0 "_law_things" 2 1:=⟨λT=>
 Callee.frz (rJ 1 ["_law_functions", "_law_found", "_law_k"] 1 T.wB λhr=>
  (have x0:Nx ["_law_point"]:=⟨⟩;(q0 '1' (q0 '1' (rh '1')))))⟩
def UY:DS:=(qm (PV (i_ KO j_ (dC .non)) (n_ 3 VC (b_ j_ (b_ rQ (b_ rV g_))))))
def UW:qx:=(q_ 1 UY)
instance:CI UW "is_answer" 3 1:=⟨λT=>
 Callee.self (rJ 2 ["thing"] 1 T.w2 λhr=>
  ((rh (by delta UY;walk_at "s"))))⟩
def JN:DS:=(qm (qh zq (b_ (qA Kb 1 (qG (n_ 1 F_ (b_ qc g_))) (.one 2) [] [] (i_ (qf sD) (i_ qJ j_ qt) rQ)) g_)))
def Nq:qx:=(q_ 2 JN)
instance:CI Nq "holds_no_nought" 3 2:=⟨λT=>
 Callee.self (rJ 2 ["function", "term"] 2 T.wb λhr=>
  (have x0:Nx ["point"]:=⟨⟩;(rh (by delta JN;walk_at "s"))))⟩
abbrev cW:DT:=vo (sI rK)
abbrev bW(Pt:Nat):DS:=qd (HG 2 rV) (qH 3 (vn Pt 5 3 (FY Pt) (b_ j_ (b_ qc (b_ qt g_)))))
def Nn(Pt:Nat):DS:=(qd (qH 2 rQ) (qd (qH 3 (vn Pt 5 3 (FY Pt) (b_ j_ (b_ qc (b_ qt g_))))) (qd (Lq 20 cW (bW Pt)) (qd (qH 4 (qh Fk (b_ (qA Kb 1 (qG rK) (.one 6) [] [] (n_ 1 A4 yK)) g_))) (qm (qh Fh (b_ (qA Kb 1 (qG rK) (.one 6) [(qI (i_ (qf rB) (n_ 1 A4 yK) tj))] [] (qh BL (b_ (qh CL yK) g_))) g_)))))))
def JA(Pt:Nat):qx:=(Af 6 5 Pt (Nn Pt))
def z4H:vt ["held", "wanted", "many", "found", "fewest", "<tab>"] ["held", "wanted"] (rC (top 25)):=by walk_at "z"
def z4Y{c Pt:af}(T:Txt K mg)(hT:BC K mg "covers" (top 24) c)(L:yk mg base c Pt):oV P w K mg base "least_covers" 25 2 Pt (JA Pt):=
 oV.self (WL (k:=24) (i:=5) (z := "<tab>") T.wf z4H rfl (Fb 'b') '3' λf qk A outer s H E hr=>
  (have x0:Nx ["cover"]:=⟨⟩;(q0 '1' (q0 '1' (q0 '1' (q0 '1' (rh '1')))))))
abbrev HJ:=b_ (dC (.int 4)) g_
def JH:DS:=(qd (qH 1 (i_ qJ (vm (b_ (dC (.int 3)) (b_ BH (b_ (dC (.int 3)) (b_ rV g_))))) (n_ 2 xj (b_ j_ HJ)))) (qd (qH 2 (qA Ka 1 (uE (b_ (i_ rZ BH (n_ 2 xj (b_ j_ (b_ BH g_)))) g_)) (.one 3) [] [] (n_ 3 JG (b_ j_ (b_ qc (b_ Cv g_)))))) (qd (rW (qI (i_ (qf rB) (n_ 2 xj (b_ j_ HJ)) rQ)) (Cs (i_ qJ qt rQ) qt rV) rY) (qm (qh BL (b_ qt g_))))))
def Nt:qx:=Ab (q_ 3 JH)
instance:CI Nt "_law_together" 3 1:=⟨λT=>
 Callee.frz (rJ 2 ["_law_state_here", "_law_n", "_law_found"] 1 T.wr λhr=>
  (have x0:Nx ["_law_turn"]:=⟨⟩;(q0 '1' (q0 '1' (q0 '1' (rh '1'))))))⟩
def JD:DS:=(qm (qA Kb 1 (uE (b_ (qh rL (b_ j_ g_)) g_)) (.one 2) [(sI (n_ 2 Jr (b_ (i_ qJ j_ qt) (b_ qc g_))))] [] qt))
def EI:qx:=(q_ 2 JD)
instance:CI EI "_law_good_for" 3 2:=⟨λT=>
 Callee.self (rJ 2 ["_law_functions", "_law_term"] 2 T.wz λhr=>
  (have x0:Nx ["_law_k"]:=⟨⟩;(rh (by delta JD;walk_at "s"))))⟩
def EF:DS:=(qm (zm (n_ 2 Jr (b_ (i_ qJ j_ (i_ qJ qt rQ)) (b_ qc g_))) (n_ 2 F7 (b_ qc (b_ (i_ qJ qt rV) g_)))))
def B1:qx:=(q_ 3 EF)
instance:CI B1 "_law_holds_thing" 3 3:=⟨λT=>
 Callee.self (rJ 2 ["_law_functions", "_law_term", "_law_thing"] 3 T.wC λhr=>
  ((rh (by delta EF;walk_at "s"))))⟩
def Nh:DS:=(qd (rW (Ad (vo (sI (ux "tuple" j_))) (qI (Ei Ka A5 (qh rL (b_ j_ g_))))) yc rY) (qm (qh zq (b_ (qA Kb 1 (qG j_) (.one 1) [] [] (n_ 1 UW (b_ qc g_))) g_))))
def Nb:qx:=(q_ 1 Nh)
instance:CI Nb "is_function" 4 1:=⟨λT=>
 Callee.self (rJ 3 ["thing"] 1 T.w3 λhr=>
  (have x0:Nx ["answer"]:=⟨⟩;(q0 '1' (rh '1'))))⟩
def JR:DS:=(qm (qA Kb 2 (CT (b_ j_ g_)) (.two 2 3) [(sI (n_ 2 Nq (b_ rK (b_ qc g_))))] [] qt))
def EG:qx:=(q_ 2 JR)
instance:CI EG "numbers_good_for" 4 2:=⟨λT=>
 Callee.self (rJ 3 ["functions", "term"] 2 T.wj λhr=>
  (have x0:Nx ["number", "function"]:=⟨⟩;(rh (by delta JR;walk_at "s"))))⟩
def Ny:DS:=(qd (rW (vo (sI (n_ 2 Gb (b_ (n_ 1 EJ (b_ (i_ qJ j_ rQ) g_)) (b_ qc g_))))) yc rY) (qd (rW (qI (i_ (qf sD) (qA Kb 1 (qG qc) (.one 3) [(qI (i_ (qf rB) (n_ 2 EI (b_ j_ tN)) yd))] [] rK) yd)) yc rY) (qd (uC (qG (n_ 1 B0 (b_ j_ g_))) (.one 2) (rW (qI (i_ (qf rB) (qA Kb 1 (qG qc) (.one 3) [(sI (n_ 3 B1 (b_ j_ (b_ rK (b_ qt g_)))))] [] rK) yd)) yc rY)) (qm Cv))))
def JM:qx:=(q_ 3 Ny)
instance:CI JM "_law_is_shared" 4 2:=⟨λT=>
 Callee.self (rJ 3 ["_law_functions", "_law_thing", "_law_one"] 2 T.wD λhr=>
  (have x0:Nx ["_law_term"]:=⟨⟩;(q0 '1' (q0 '1' (q0 '1' (rh '1'))))))⟩
def JQ:DS:=(qd (qH 2 (n_ 1 B0 (b_ j_ g_))) (qd (qH 3 (yP g_)) (qd (uC (qG qc) (.one 4) (qd (qH 5 (qA Kb 1 (uE (b_ (qh rL (b_ qt g_)) g_)) (.one 6) [(sI (n_ 3 B1 (b_ j_ (b_ tj (b_ (i_ qJ qt ye) g_)))))] [] ye)) (t7 (z_ rK (b_ (qh BE (b_ (qA Kb 1 (qG yg) (.one 6) [] [] (i_ (fI v7) rV ye)) g_)) g_))))) (qm rK))))
def Nr:qx:=Ab (q_ 6 JQ)
instance:CI Nr "_law_thing_masks" 4 2:=⟨λT=>
 Callee.frz (rJ 3 ["_law_functions", "_law_terms_here", "_law_things_here", "_law_found", "_law_term", "_law_held"] 2 T.wH λhr=>
  (have x0:Nx ["_law_at"]:=⟨⟩;(q0 '1' (q0 '1' (q0 '1' (rh '1'))))))⟩
def Np:DS:=(qd (rW (Ad (vo (sI (ux "tuple" j_))) (qI (i_ zr (qh rL (b_ j_ g_)) (vZ (b_ BH Ff))))) yc rY) (qd (rW (vo (sI (qh zq (b_ (qA Kb 1 (qG j_) (.one 2) [] [] (n_ 1 Nb (b_ qt g_))) g_)))) yc rY) (qd (qH 1 (n_ 1 F9 (b_ (i_ qJ j_ rQ) g_))) (qm (zm (i_ DP qc (dC (.int 3))) (qh zq (b_ (qA Kb 1 (qG j_) (.one 2) [] [] (i_ (qf rB) (n_ 1 F9 (b_ qt g_)) qc)) g_)))))))
def Nk:qx:=(q_ 2 Np)
instance:CI Nk "are_together" 5 1:=⟨λT=>
 Callee.self (rJ 4 ["thing", "n"] 1 T.wg λhr=>
  (have x0:Nx ["function"]:=⟨⟩;(q0 '1' (q0 '1' (q0 '1' (rh '1'))))))⟩
def Jo:DS:=(qm (qA Kb 2 (qG (n_ 2 EG (b_ j_ (b_ qc g_)))) (.one 2) [] (⟨(qG (n_ 1 F_ (b_ qc g_))),(.one 3),[]⟩::[]) (vZ (b_ qt tN))))
def MQ:qx:=(q_ 2 Jo)
instance:CI MQ "held_by" 5 2:=⟨λT=>
 Callee.self (rJ 4 ["functions", "term"] 2 T.wk λhr=>
  (have x0:Nx ["number", "point"]:=⟨⟩;(rh (by delta Jo;walk_at "s"))))⟩
def MX:DS:=(qd (qH 2 (n_ 2 EG (b_ j_ (b_ qc g_)))) (qd (qH 3 (qA Kb 2 (CT (b_ qc g_)) (.two 4 5) [(qI (i_ (qf sD) yg AO))] [] (n_ 3 Jp (b_ qc (b_ tj (b_ AO g_)))))) (qm (zm (i_ (qf sD) qt yd) (Fd (qh D3 (b_ (qA Kb 1 (qG rK) (.one 4) [] [] (i_ (qf rB) (n_ 2 EG (b_ j_ (b_ tj g_))) qt)) g_)))))))
def MV:qx:=(q_ 4 MX)
instance:CI MV "is_broad" 5 2:=⟨λT=>
 Callee.self (rJ 4 ["functions", "term", "numbers", "wider"] 2 T.wl λhr=>
  (have x0:Nx ["switch", "sign"]:=⟨⟩;have x1:Nx ["other"]:=⟨⟩;(q0 '1' (q0 '1' (rh '1')))))⟩
def JP:DS:=(qd (qH 1 (qA Kb 1 (qG (n_ 1 JJ (b_ (n_ 1 EJ (b_ (i_ qJ j_ rQ) g_)) g_))) (.one 3) [(qI (i_ (qf sD) (n_ 2 EI (b_ j_ tN)) yd))] [] rK)) (qd (qH 2 (n_ 2 Nr (b_ j_ (b_ qc g_)))) (qm (Ik Gm xC okm 26 qt (qA Kb 1 (qG qc) (.one 3) [] [] (n_ 1 C1 (b_ (vm tN) g_))) (i_ (fI xt) (i_ (fI v7) rV (qh rL (b_ (n_ 1 B0 (b_ j_ g_)) g_))) rV)))))
def JO:qx:=Ab (q_ 3 JP)
instance:CI JO "_law_shared_cost" 28 1:=⟨λT=>
 Callee.frz (rJ 27 ["_law_functions", "_law_some", "_law_masks"] 1 T.wJ λhr=>
  (have x0:Nx ["_law_term"]:=⟨⟩;(q0 '1' (q0 '1' (rh '1')))))⟩
def JF:DS:=(rW (vo (sI (n_ 1 Nk (b_ j_ g_)))) Fc rY)
def Nu:qx:=(q_ 1 JF)
instance:CI Nu "need_together" 6 1:=⟨λT=>
 Callee.self (rJ 5 ["thing"] 1 T.wh λhr=>
  ((rh (by delta JF;walk_at "s"))))⟩
def Na:DS:=(qd (t7 (n_ 1 Nu (b_ j_ g_))) (qm (qA Kb 1 (qG (n_ 1 Jx (b_ (n_ 1 F9 (b_ (i_ qJ j_ rQ) g_)) g_))) (.one 1) [(sI (n_ 2 MV (b_ j_ (b_ qc g_))))] [] qc)))
def M_:qx:=(q_ 1 Na)
instance:CI M_ "broad_terms" 7 1:=⟨λT=>
 Callee.self (rJ 6 ["functions"] 1 T.wm λhr=>
  (have x0:Nx ["term"]:=⟨⟩;(q0 '1' (rh '1'))))⟩
def Nc:DS:=(qm (Ah 1 (qG (n_ 1 M_ (b_ j_ g_))) (.one 1) [] [] qc (n_ 2 MQ (b_ j_ (b_ qc g_)))))
def Ng:qx:=(q_ 1 Nc)
instance:CI Ng "held_things" 8 1:=⟨λT=>
 Callee.self (rJ 7 ["functions"] 1 T.wn λhr=>
  (have x0:Nx ["term"]:=⟨⟩;(rh (by delta Nc;walk_at "s"))))⟩
def Nj(Pt:Nat):DS:=(qm (i_ qJ (vn Pt 1 2 (JA Pt) (b_ (n_ 1 Ng (b_ j_ g_)) (b_ (n_ 1 M4 (b_ j_ g_)) g_))) rQ))
def EH(Pt:Nat):qx:=(Af 2 1 Pt (Nj Pt))
def z5i:vt ["functions", "<tab>"] ["functions"] (rC (top 36)):=by walk_at "z"
def z4M{c Pt:af}(T:Txt K mg)(hT:BC K mg "covers" (top 24) c)(L:yk mg base c Pt):oV P w K mg base "least_shared" 26 1 Pt (EH Pt):=
 oV.self (WL (k:=25) (i:=1) (z := "<tab>") T.wo z5i rfl (Fb 'b') '3' λf qk A outer s H E hr=>
  ((rh (by delta Nj;walk_at "s"))))
abbrev Ig(Pt:Nat):DS:=qd (qH 2 (n_ 1 Nt (b_ (n_ 2 M8 (b_ j_ (b_ qc g_))) g_))) (qd (qH 3 (vn Pt 4 1 (EH Pt) (b_ qt g_))) (qd (rW (Ad (vo (sI (n_ 2 JM (b_ qt tN)))) (vo (sI (n_ 2 Jw (b_ (vn Pt 4 1 (EH Pt) (b_ qt g_)) tN))))) yc rY) (rW (qI (i_ (qf sD) (vZ (b_ (qh rL tN) (b_ (n_ 1 C1 tN) g_))) (n_ 1 JO (b_ qt g_)))) yc rY)))
def XT(Pt:Nat):DS:=(qd (uC (uE (b_ (qh Ed (b_ rV (b_ (qh CK (b_ (qh rL (b_ j_ g_)) Ff)) g_))) g_)) (.one 1) (Ig Pt)) (qm Cv))
def F_law(Pt:Nat):qx:=Af 5 4 Pt (XT Pt)
def Y6:vt ["_law_script", "_law_k", "_law_functions", "_law_found", "<tab>"] ["_law_script"] (rC (top 59)):=by walk_at "z"
def ZG{f c Pt:af}{fd:fj}(hF:L2.Fun K "law" "law" (top 59) f fd)(T:Txt K mg)(hT:BC K mg "covers" (top 24) c)(L:yk mg base c Pt):o5 P w K mg base yI 29 f fd ["_law_script"] (AN K Bz 1 Pt (F_law Pt)):=
 Xw (k:=28) (i:=4) (z := "<tab>") hF Y6 rfl (Fb 'b') λqk A outer s H E hr=>
  ((q0 '1' (rh '1')))
def ZH{f c Pt:af}{a:fj}(b:L2.Fun K "law" "law" (top 59) f a)(d:BC K mg "covers" (top 24) c)(T:Txt K mg)(L:yk mg base c Pt):o5 P w K mg base yI 29 f a ["_law_script"] (AN K Bz 1 Pt (F_law Pt)):=
 ZG b T d L
end
def fa_mk{K:ak}{h:aX}{c:aA->Option ae}(X:K.In h)(G:h.Ns b9 c){n:aA}{b:eO}{f:af}{e g:Option af}{i:Array (Option ae)}{j m o p r d:ae}(a:gM K b9 n=JU (JU (.ref f)))
  (l:K.lookup f=JU ⟨j,e,.func (ck n n (xP b) (uF b) (rC b) .none m o p g d r),i⟩) (q:fC K d n=Ka) (k:cU K (.ref f)=Ka):qP K c n b:=⟨f,_,hV X G a,Lr l q k⟩
def gs_mk{K:ak}{h:aX}{a:aA->Option ae}(X:K.In h)(G:h.Ns b9 a){n:aA}{b:k_}{t:Tok}(s:gM K b9 n=JU (JU (.str ⟨b.toArray⟩ t))):KZ a n b:=⟨_,hV X G s⟩
def gi_mk{K:ak}{h:aX}{a:aA->Option ae}(X:K.In h)(G:h.Ns b9 a){n:aA}{i:Int}{t:Tok}(s:gM K b9 n=JU (JU (.int i t))):KJ a n i:=⟨_,hV X G s⟩
def gt_mk{K:ak}{h:aX}{a:aA->Option ae}(X:K.In h)(G:h.Ns b9 a){n:aA}{b:List (Int×Int)}{e:af}{o:Obj}(d:gM K b9 n=JU (JU (.ref e)))(u:K.lookup e=JU o)(v:HP o b=Ka)(y:(e==sysModules)=Kb):Cy K a n b:=⟨_,_,hV X G d,u,v,y⟩
def all_mk{P:aU}{w:be}{K:ak}{h:aX}{d:aA->Option ae}{C:af}(X:K.In h)(G:h.Ns b9 d)(o:d "law" = JU (.ref C))(T:Txt K d)
  {f:af} {S E:Option af} {U:Array (Option ae)} {Y H I J M:ae} {p:ae} (a:gM K b9 "law" = JU (JU (.ref f)))
  (l:K.lookup f=JU ⟨Y,S,.func (ck "law" "law" (xP (top 59)) (uF (top 59)) (rC (top 59)) .none H I J E p M),U⟩) (q:fC K p "law" = Ka) (k:cU K (.ref f)=Ka)
  {n:af} {r t:Option af} {Z:Array (Option ae)} {v x y A B:ae} {g:af} (N:gM K b9 "covers" = JU (JU (.ref n)))
  (O:K.lookup n=JU ⟨v,r,.func (ck "covers" "covers" (xP (top 24)) (uF (top 24)) (rC (top 24)) .none x y A t (.ref g) B),Z⟩) (q2:fC K (.ref g) "covers" = Ka) (k2:cU K (.ref n)=Ka)
  {Pt:af} {i:ae} {j:Option af} {m:Array (Option ae)} {b:Array ae} (h4:K.lookup g=JU ⟨i,j,.fields b,m⟩) (h5:b[11]?=JU (.ref Pt)) (OE:jo K=Ka)
  : jo K=Ka/\∃(c Pt:af),jM K "covers" = JU (c,Pt)/\∃Q:fj,(∀(s:ai)(u:ae),kW s Q ⟨[u],[]⟩ [("_law_script",u)])/\∀base:aX,K.In base->base.Ns b9 d->yk d base c Pt->o5 P w K d base yI 29 C Q ["_law_script"] (AN K Bz 1 Pt (F_law Pt)):=by have hF:L2.Fun K "law" "law" (top 59) f (ck "law" "law" (xP (top 59)) (uF (top 59)) (rC (top 59)) .none H I J E p M):=Lr l q k;have e:=o.symm.trans (hV X G a);cases e;have hT:BC K d "covers" (top 24) g:=⟨n,_,hV X G N,Lr O q2 k2,rfl⟩;exact⟨OE,g,Pt,YC N O h4 h5,_,λs u=>.of_eq rfl,λbase kb nb L=>ZH hF hT T L⟩
end K62
-- W8 29
namespace K62
open PySem DL
def Bx:D->Bool
 |.non=>Ka
 |.bl _=>Ka
 |.int _=>Ka
 |.str _=>Ka
 |_=>Kb
def Ap:D->Bool
 |.tup ds=>ds.all Bx
 |d=>Bx d
def Pl(O:Ow):Prop:=∀c∈O,∀d∈c,Ap d=Ka
def Rg{p:D->Prop}(a:p .non)(c:∀b,p (.bl b))(e:∀i,p (.int i))(f:∀w,p (.str w)):∀{d:D},Bx d=Ka->p d
 |.non,_=>a
 |.bl b,_=>c b
 |.int i,_=>e i
 |.str w,_=>f w
def RV{p:D->Prop}(h:∀{d:D},Bx d=Ka->p d)(a:∀ds:List D,(∀d∈ds,Bx d=Ka)->p (.tup ds)):∀{d:D},Ap d=Ka->p d
 |.tup ds,q=>a ds (aD.mp q)
 |.non,q=>h q
 |.bl _,q=>h q
 |.int _,q=>h q
 |.str _,q=>h q
theorem Lk:∀{ds:List D},(∀d∈ds,nm d=Ka)->nms ds=Ka
 |[],_=>rfl
 | d::ds,h=>by
  unfold nms;rw[h d al,Lk λx a=>h x (ag _ a)];rfl
def Rp{d:D}:Bx d=Ka->nm d=Ka:=Rg (p:=λd=>nm d=Ka) rfl (λ_=>rfl) (λ_=>rfl) (λ_=>rfl)
def YW{d:D}:Ap d=Ka->nm d=Ka:=RV (p:=λd=>nm d=Ka) Rp λb h=>by
 unfold nm;exact Lk λd a=>Rp (h d a)
def Pl.nms{O:Ow}(h:Pl O):O.all nms=Ka:=aD.mpr λc a=>Lk λd b=>YW (h c a d b)
def BP{O:Ow}{n f:Nat}{d:D}:Ap d=Ka->frz O n (f+1) d=JU d:=by
 have a:∀{f:Nat}{d:D},Bx d=Ka->frz O n f d=JU d:=λ{f}{d}=>Rg (p:=λd=>frz O n f d=JU d) (by cases f<;>rfl) (λ_=>by cases f<;>rfl) (λ_=>by cases f<;>rfl) (λ_=>by cases f<;>rfl);exact RV (p:=λd=>frz O n (f+1) d=JU d) a λb h=>by
  show(qo (frz O n f) b).map D.tup=_;rw[yq λd c=>a (h d c)];rfl
def Ak{a:Ow}(b:Pl a)(X:Ow){d d':D}(h:frz (a++X) a.length 8 d=JU d'):xf a.length (.ok d (a++X))=.ok d' a:=by
 unfold xf;dsimp only;rw[h];have:(a++X).take a.length=a:=by simp
 rw[this,yq λc e=>yq λd f=>BP (b c e d f)]
def xR{O:Ow}{x:List D}:(O++[x])[O.length]?=JU x:=by simp
def Ez{O:Ow}{x y:List D}:(O++[x]).set O.length y=O++[y]:=by simp
def zeY{O:Ow}(a:Pl O){ds:List D}(h:∀d∈ds,Ap d=Ka):xf O.length (.ok (.own O.length) (O++[ds]))=.ok (.lst ds) O:=Ak a _ (by
 unfold frz;dsimp only;rw[Kf (bM _),xR];dsimp only;rw[yq λd b=>BP (h d b)];rfl)
def Pl.app{O X:Ow}(h:Pl O)(a:Pl X):Pl (O++X):=λc b=>(aO.mp b).elim (h c) (a c)
def Pl.one{O:Ow}(h:Pl O){c:List D}(a:∀d∈c,Ap d=Ka):Pl (O++[c]):=h.app λx b=>by
 rw[cA.mp b];exact a
def XX(s:Int)(b:Bool):∀d∈[D.int s,D.bl b],Ap d=Ka:=λd a=>by
 simp only[am,bB,or_false] at a;rcases a with rfl|rfl<;>rfl
def Pl.set{O:Ow}(h:Pl O)(m:Nat)(s:Int)(b:Bool):Pl (O.set m [.int s,.bl b]):=λc e d a=>by
 rcases ik e with q|rfl
 ·exact h c q d a
 ·exact XX s b d a
def J6:Nat->l_
 |0=>[[]]
 |n+1=>(J6 n).flatMap λt=>[t++[45],t++[48],t++[49]]
noncomputable def Zk:Nat->k_
 |45=>[0,1]
 |48=>[0]
 |_=>[1]
def su(cs:k_):k_:=cs.foldl (λps c=>ps.flatMap λp=>(Zk c).map (2*p + ·)) [0]
def uU(l:k_):List D:=l.map λ(p:Nat)=>D.int (p:Int)
def oZ:l_:=J6 1++J6 2++J6 3++J6 4
def N4:k_:=[1,2,3,4]
def RT{n:Nat}(a:1<=n)(b:n<=4):n∈N4:=by
 have:n=1\/n=2\/n=3\/n=4:=by lia
 rcases this with rfl|rfl|rfl|rfl<;>simp[N4]
def HH{n:Nat}(a:1<=n)(b:n<=4):n=1\/n=2\/n=3\/n=4:=by lia
def zhE(O:Ow):(oZ.map λa=>F_ [.str a] O)=oZ.map λa=>R.ok (.lst (uU (su a))) O:=by kernel_rfl
def Vl{a:k_}(h:a∈oZ)(O:Ow):F_ [.str a] O=.ok (.lst (uU (su a))) O:=eE.mp (zhE O) a h
def CN:Nat->Nat->k_
 |0,_=>[]
 |n+1,p=>CN n (p/2)++[48+p%2]
def sgn(c:Nat):Bool:=c==45||c==48||c==49
def pU:List (k_×Nat):=oZ.flatMap λcs=>(aN (2 ^ cs.length)).map λp=>(cs,p)
def ze9{a:k_}{p:Nat}(h:a∈oZ)(b:p<2 ^ a.length):(a,p)∈pU:=gZ.mpr ⟨a,h,ay.mpr ⟨p,ba.mpr b,rfl⟩⟩
def uZ{n:Nat}(b:1<=n)(c:n<=4){a:k_}(h:a∈J6 n):a∈oZ:=by unfold oZ;rcases HH b c with rfl|rfl|rfl|rfl<;>simp[h]
def zgW:(oZ.all λa=>decide (1<=a.length)&&decide (a.length<=4)&&a.all sgn&&((su a).all λp=>decide (p<2 ^ a.length))&&decide ((su a).length<=16)&&decide ((aN (2 ^ a.length)).filter (λp=>(su a).contains p)=su a))=Ka:=by decide +kernel
structure TT(cs:k_):Prop where
 l1:1<=cs.length
 l4:cs.length<=4
 sg:∀c∈cs,sgn c=Ka
 lt:∀p∈su cs,p<2 ^ cs.length
 few:(su cs).length<=16
 fil:(aN (2 ^ cs.length)).filter (λp=>(su cs).contains p)=su cs
def tt{g:k_}(h:g∈oZ):TT g:=by have:=aD.mp zgW g h;simp only[aT,decide_eq_true_eq,aD] at this;obtain⟨⟨⟨⟨⟨a,b⟩,c⟩,d⟩,e⟩,f⟩:=this;exact⟨a,b,c,d,e,f⟩
def zeI:(N4.all λn=>((J6 n).all λa=>a.length==n)&&decide ((J6 n).length<=81)&&decide ((J6 n).Pairwise (· < ·)))=Ka:=by decide +kernel
def Ta{n:Nat}(a:1<=n)(b:n<=4):(∀c∈J6 n,c.length=n)/\(J6 n).length<=81/\(J6 n).Pairwise (· < ·):=by have:=aD.mp zeI n (RT a b);simp only[aT,decide_eq_true_eq,aD,beq_iff_eq] at this;exact⟨this.1.1,this.1.2,this.2⟩
def zy{n:Nat}(b:1<=n)(c:n<=4){a:k_}(h:a∈J6 n):a.length=n:=(Ta b c).1 a h
def UM{n:Nat}(b:1<=n)(d:n<=4){a:k_}(h:a∈J6 n):∀c∈a,sgn c=Ka:=(tt (uZ b d h)).sg
def SS{a:k_}(h:a∈oZ):(su a).length<=16:=(tt h).few
def EC{n:Nat}(a:n<=4):2 ^ n<=16:=aI (cR 'u' a) 'u'
def S4{n:Nat}(a:1<=n)(b:n<=4){c:k_}(h:c∈J6 n){p:Nat}(d:p∈su c):p<2 ^ n:=by have:=(tt (uZ a b h)).lt p d;rwa [zy a b h] at this
theorem UD:∀(n:Nat)(a:k_),a.length=n->(∀c∈a,sgn c=Ka)->a∈J6 n
 | 0,a,h,_=>by
  rw[cO.mp h];simp[J6]
 | n+1,a,h,hs=>by
  have d:a≠[]:=by intro e;subst e;simp at h
  obtain⟨t,c,rfl⟩:∃t c,a=t++[c]:=⟨_,_,(List.dropLast_concat_getLast d).symm⟩;have b:=hs c 'k';unfold sgn at b;simp only[fV,beq_iff_eq] at b;exact gZ.mpr ⟨t,UD n t ⇑h λc f=>hs c (bK _ f),by rcases b with(z|z)|z<;>rw[z]<;>simp⟩
def zcc{n k a:Nat}(h:(aN n)[k]?=JU a):a=k/\k<n:=by obtain⟨b,rfl⟩:=ao.mp h;exact⟨by simp,by simpa using b⟩
def Zo{σ:Sg}{O O1:Ow}{t:DE}{n:Nat}(a:n<=4)(h:t σ O=.ok (.int n) O1):i_ (fI v7) rV t σ O=.ok (.int ((2 ^ n:Nat):Int)) O1:=by
 refine qu rfl h ?_;have:n=0\/n=1\/n=2\/n=3\/n=4:=by lia
 rcases this with rfl|rfl|rfl|rfl|rfl<;>rfl
def z8E{α:Type}{l:List α}{p:α->Bool}{k:Nat}{a:α}(h:l[k]?=JU a):(l.take (k+1)).filter p=(l.take k).filter p++(if p a=Ka then [a] else []):=by rw[fh,h,mz];cases b:p a<;>simp[b]
def grown{α:Type}{O:Ow}{l:List α}{inj:α->D}{p:α->Bool}{k:Nat}{a:α}(h:l[k]?=JU a):(if p a=Ka then (O++[((l.take k).filter p).map inj]).set O.length (((l.take k).filter p).map inj++[inj a]) else O++[((l.take k).filter p).map inj])=O++[((l.take (k+1)).filter p).map inj]:=by rw[z8E h];cases p a<;>simp
def XG(O:Ow){l:List D}(h:l.all (pl 7)=Ka):qf rB O (.lst l) (.lst [])=.ok (.bl l.isEmpty) O/\qf sD O (.lst l) (.lst [])=.ok (.bl (!l.isEmpty)) O:=FC O h rfl (by cases l<;>simp)
def Mb{k:Nat}{l:l_}(h:∀t∈l,t∈oZ):(l.map D.str).all (pl k)=Ka:=aD.mpr λd a=>by
 obtain⟨t,b,rfl⟩:=ay.mp a;have:(t.all λc=>decide (c<1114112))=Ka:=aD.mpr λc e=>by
  have:=(tt (h t b)).sg c e;unfold sgn at this;simp only[fV,beq_iff_eq] at this;rcases this with(rfl|rfl)|rfl<;>rfl
 cases k<;>exact this
def Uj(O:Ow){l:l_}(h:∀t∈l,t∈oZ):qf rB O (.lst (l.map D.str)) (.lst [])=.ok (.bl l.isEmpty) O/\qf sD O (.lst (l.map D.str)) (.lst [])=.ok (.bl (!l.isEmpty)) O:=by rw[<- List.isEmpty_map (f:=D.str)];exact XG O (Mb h)
def Va{α:Type}{l:List α}{p:α->Bool}:(l.filter p).isEmpty=l.all λx=>!p x:=by rw[ee,nD,iJ,aD];simp
def x_(d:D):Prop:=d=.int 0\/d=.int 1\/d=.non
def B7:D->Bool
 |.int 0=>Ka
 |_=>Kb
noncomputable def Ar:D->Bool
 |.int 1=>Ka
 |_=>Kb
structure Fn(n:Nat)(f:List D):Prop where
 n1:1<=n
 n4:n<=4
 len:f.length=2 ^ n
 ans:∀d∈f,x_ d
def Ag(f:List D)(cs:k_):Bool:=(su cs).all λp=>!B7 (f.getD p .non)
def Wd(O:Ow){d:D}(h:x_ d):qf rB O d (.int 0)=.ok (.bl (B7 d)) O/\qf sD O d (.int 0)=.ok (.bl (!B7 d)) O:=by rcases h with rfl|rfl|rfl<;>exact⟨rfl,rfl⟩
def Wc(O:Ow){d:D}(h:x_ d):qf rB O d (.int 1)=.ok (.bl (Ar d)) O:=by rcases h with rfl|rfl|rfl<;>rfl
def CY(O:Ow)(f:List D):rL O [.tup f]=.ok (.int f.length) O:=rfl
section
variable{n:Nat}{f:List D}(hf:Fn n f)
include hf
theorem Qk{p:Nat}(b:p<2 ^ n):x_ (f.getD p .non)/\∀O:Ow,qJ O (.tup f) (.int (p:Int))=.ok (f.getD p .non) O:=by
 have a:p<f.length:=by rw[hf.len];exact b
 have e:f.getD p .non=f[p]:=by rw[bz,au a];rfl
 rw[e];exact⟨hf.ans _ (bT a),λO=>CV a⟩
theorem MZ(O:Ow):F9 [.tup f] O=.ok (.int n) O:=by show fin (qm (HW A5 (qh rL (b_ j_ g_))) [rm f] O)=_;refine yp ?_;show(match uV A5 (f.length:Nat) with|some v=>R.ok (D.int v) O|none=>R.bad)=_;rw[hf.len];rcases HH hf.n1 hf.n4 with rfl|rfl|rfl|rfl<;>rfl
theorem VE(O:Ow):EJ [.tup f] O=.ok (.int n) O:=by show fin (qm (HV [(2,1),(4,2),(8,3),(16,4)] (qh rL (b_ j_ g_))) [rm f] O)=_;refine yp ?_;show(match Fg [(2,1),(4,2),(8,3),(16,4)] (f.length:Nat) with|some v=>R.ok (D.int v) O|none=>R.bad)=_;rw[hf.len];rcases HH hf.n1 hf.n4 with rfl|rfl|rfl|rfl<;>rfl
theorem z5y(O:Ow):Nb [.tup f] O=.ok (.bl Ka) O:=by have g:=EC hf.n4;have h:=hf.len;show fin (Nh [rm f] O)=_;unfold Nh;refine t8 (uY (O1:=O) (FL (a:=Kb) (b:=Kb) rfl λ_=>uf ?_) (tQ (sP (qp (yi (o:=Kb) (l:=f) (inj:=λd=>d) (e:=λ_=>D.bl Ka) (τ:=λd=>[rm f,JU d]) (by rw[List.map_id'];exact BR rfl) 'd' (λ_=>rfl) (λd c=>qz (qp rfl) (by rcases hf.ans d c with rfl|rfl|rfl<;>rfl)))) ((EA O f λ_=>Ka).trans 'k'))));show R.ok (D.bl (if Ka=Ka then !(uV A5 (f.length:Nat)).isSome else _)) O=_;rw[hf.len];rcases HH hf.n1 hf.n4 with rfl|rfl|rfl|rfl<;>rfl
variable{cs:k_}(h:cs∈J6 n)
include h
theorem ze2(O:Ow):Nq [.tup f,.str cs] O=.ok (.bl (Ag f cs)) O:=by
 have a:=uZ hf.n1 hf.n4 h;have c:=SS a;show fin (JN [rm f,rn cs] O)=_;unfold JN;exact yp (sP (qp (yi (o:=Kb) (l:=su cs) (inj:=λ(p:Nat)=>D.int (p:Int)) (e:=λp=>D.bl (!B7 (f.getD p .non))) (τ:=λ(p:Nat)=>[rm f,rn cs,p_ (p:Int)]) (u4 (qz (qp rfl) (Vl a O))) 'd' (λ_=>rfl) (λp b=>
  have q:=Qk hf (S4 hf.n1 hf.n4 h b)
  qu (qu rfl rfl (q.2 O)) rfl (Wd O q.1).2))) (EA O _ _))
end
noncomputable def allS:List (k_×Nat):=oZ.flatMap λcs=>(aN cs.length).map λk=>(cs,k)
def Mj{a:k_}{k:Nat}(h:a∈oZ)(b:k<a.length):(a,k)∈allS:=gZ.mpr ⟨a,h,ay.mpr ⟨k,ba.mpr b,rfl⟩⟩
def zb4{n:Nat}(a:1<=n)(b:n<=4){d:k_}(h:d∈J6 n)(k:Nat):d.set k 45∈J6 n:=UD n _ (by rw[d9,zy a b h]) λc e=>by
 rcases ik e with q|rfl
 ·exact UM a b h c q
 ·rfl
def z6n(O:Ow):(N4.map λn=>Jx [.int (n:Nat)] O)=N4.map λn=>R.ok (.lst ((J6 n).map .str)) O:=by kernel_rfl
def zeU{n:Nat}(a:1<=n)(b:n<=4)(O:Ow):Jx [.int n] O=.ok (.lst ((J6 n).map .str)) O:=eE.mp (z6n O) n (RT a b)
def Ve{α:Type}{p:α->Bool}{l:List α}{k:Nat}(h:l.length<=k):(l.filter p).length<=k:=aI (bu _ _) h
section
variable{n:Nat}{f:List D}(hf:Fn n f)
include hf
end
structure o9(O:Ow)(m:Nat)(s:Int)(b:Bool):Prop where
 at_:O[m]?=JU [.int s,.bl b]
 nn:0<=s
 lt:b=Kb->s<2147483647
def o9.len{O:Ow}{m:Nat}{s:Int}{b:Bool}(h:o9 O m s b):m<O.length:=(ao.mp h.at_).1
def SG{O:Ow}{m:Nat}{x y:D}(h:O[m]?=JU [x,y]):qJ O (.own m) (.int 0)=.ok x O/\qJ O (.own m) (.int 1)=.ok y O:=by
 constructor
 ·show(match O[m]? with|some ds=>(match L2.atI ds 0 with|some d=>R.ok d O|none=>R.bad)|none=>_)=_;rw[h];rfl
 ·show(match O[m]? with|some ds=>(match L2.atI ds 1 with|some d=>R.ok d O|none=>R.bad)|none=>_)=_;rw[h];rfl
def Ma{te b c:DE}{σ:Sg}{O O1 O2 a:Ow}{y:D}{k:Nat}{i:Int}{ds:List D}{j:Nat}(d:te σ O=.ok y O1)(e:b σ O1=.ok (.own k) O2)(f:c σ O2=.ok (.int i) a)(g:a[k]?=JU ds)(h:L2.ixN ds.length i=JU j):
  Cs te b c σ O=.nx σ (a.set k (ds.set j y)):=by show((te σ O).bnS _)=_;rw[d];show((b σ O1).bnS _)=_;rw[e];show((c σ O2).bnS _)=_;rw[f];show(match a[k]? with|some ds=>(match L2.ixN ds.length i with|some j=>RS.nx σ (a.set k (ds.set j y))|none=>RS.bad)|none=>RS.bad)=_;rw[g];show(match L2.ixN ds.length i with|some j=>RS.nx σ (a.set k (ds.set j y))|none=>RS.bad)=_;rw[h]
def Eh{O:Ow}{i j:Int}(h:0<j):fI yN O (.int i) (.int j)=.ok (.int (i%j)) O:=by show(match yN i j with|some d=>R.ok d O|none=>R.bad)=_;unfold yN;rw[Kd h]
def Rx{O:Ow}{i j:Int}(h:0<j)(a:j<1073741824):fI BG O (.int i) (.int j)=.ok (.int (i/j)) O:=by show(match BG i j with|some d=>R.ok d O|none=>R.bad)=_;unfold BG;rw[Kd ⟨h,a⟩]
def En{O:Ow}{i j:Int}(h:-1000000000000000<i)(a:i<1000000000000000):fI xM O (.int i) (.int j)=.ok (.int (i*j)) O:=by show(match xM i j with|some d=>R.ok d O|none=>R.bad)=_;unfold xM;rw[Kd (.inl ⟨h,a⟩)]
def FX{O:Ow}{i j:Int}:rZ O (.int i) (.int j)=.ok (.int (i+j)) O:=rfl
def md(x:Int){m:Int}(h:0<m):0<=x%m/\x%m<m:=⟨Int.emod_nonneg _ 'd',Int.emod_lt_of_pos _ h⟩
def FU{O:Ow}{m:Nat}{s:Int}{b:Bool}(h:o9 O m s b){k:Nat}(C:1<=k)(E:k<=1000):
  ∃(r:Nat)(a:Int),r<k/\xj [.own m,.int k] O=.ok (.int r) (O.set m [.int a,.bl b])/\o9 (O.set m [.int a,.bl b]) m a b:=by
 have f:(0:Int)<(k:Int):=by lia
 have q:∀a,(O.set m [.int a,.bl b])[m]?=JU [D.int a,D.bl b]:=λa=>by rw[bU h.len]
 have t:∀x:Int,∃r:Nat,r<k/\x%(k:Int)=(r:Int):=λx=>by
  have:=md x f;exact⟨(x%(k:Int)).toNat,by lia,by lia⟩
 have u:sI (i_ qJ j_ rV) [sT m,p_ k,J9,J9] O=.ok b O:=xw (qu rfl rfl (SG h.at_).2);have g:∀{l:Ow}{a:Int}{τ:Sg},l[m]?=JU [D.int a,D.bl b]->i_ qJ j_ rQ (sT m::τ) l=.ok (.int a) l:=λe=>qu rfl rfl (SG e).1;have e:∃(r:Nat)(a:Int),r<k/\MY [sT m,p_ k,J9,J9] O=.rt (.int r) (O.set m [.int a,.bl b])/\0<=a/\(b=Kb->a<2147483647):=by
  unfold MY;cases b with
  | true=>
   obtain⟨r,d,n⟩:=t s;exact⟨r,s/k,d,BN u (sZ (qu (g h.at_) rfl ((Eh f).trans (by rw[n]))) (zw (Ma (ds:=[.int s,.bl Ka]) (j:=0) (qu (g h.at_) rfl (Rx f 'd')) rfl rfl h.at_ rfl) (tQ rfl))),Int.ediv_nonneg h.nn 'd',λz=>by cases z⟩
  | false=>
   have G:=h.lt rfl;have H:=h.nn;have o:=md (s*48271+29) (m:=2147483647) 'u';generalize v:(s*48271+29)%2147483647=c at o;have w:=md (c*c+39373*c+7) (m:=2147483629) 'u';generalize y:(c*c+39373*c+7)%2147483629=i at w;obtain⟨r,d,n⟩:=t ((i*i+16807*i)%2147483587/8);have p:∀τ:Sg,_:=λτ=>g (τ:=τ) (q c);refine⟨r,c,d,uY u (zw (Ma (ds:=[.int s,.bl Kb]) (j:=0) (qu (qu (qu (g h.at_) rfl (En 'd' 'd')) rfl FX) rfl ((Eh 'u').trans (by rw[v]))) rfl rfl h.at_ rfl)
    (sZ (x:=.int i) (qu (qu (qu (qu (p _) (p _) (En 'd' 'd')) (qu rfl (p _) (En 'u' 'u')) FX) rfl FX) rfl ((Eh 'u').trans (by rw[y])))
    (sZ (qu (qu (qu rfl rfl (En 'd' 'd')) (qu rfl rfl (En 'u' 'u')) FX) rfl (Eh 'u'))
    (tQ (qu (qu rfl rfl (Rx 'u' 'u')) rfl ((Eh f).trans (by rw[n]))))))),o.1,λ_=>o.2⟩
 obtain⟨r,a,d,e,A,B⟩:=e;exact⟨r,a,d,t8 e,q _,A,B⟩
def zer{ns:List Int}{k:Nat}(O:Ow):∃s b,M8 [.lst (ns.map .int),.int k] O=.ok (.own O.length) (O++[[.int s,.bl b]])/\o9 (O++[[.int s,.bl b]]) O.length s b:=by
 obtain⟨c,g⟩:∃c:Int,Nm [.lst (ns.map .int),.int k] O=.ok (.int c) O:=by
  have a:qI (i_ Az qc (qh rL (b_ j_ g_))) [sk (ns.map .int),p_ k] O=.ok (decide ((k:Int)<(ns.map D.int).length)) O:=rfl;by_cases h:(k:Int)<(ns.map D.int).length
  ·have i:k<(ns.map D.int).length:=by lia
   rw[decide_eq_true h] at a;exact⟨ns[k]'⇑i,t8 (BN a (tQ (qu rfl rfl ((L5 i).trans 'k'))))⟩
  ·rw[decide_eq_false h] at a;exact⟨0,t8 (uY a rfl)⟩
 have j:∀d,i_ (fI Ct) (dC (.int 10)) (dC (.int 18)) d O=.ok (.int 1000000000000000000) O:=λd=>qu rfl rfl 'b';have a:qI (i_ Hs qt (i_ (fI Ct) (dC (.int 10)) (dC (.int 18)))) [sk (ns.map .int),p_ k,p_ c] O=.ok (decide ((1000000000000000000:Int)<=c)) O:=uf (qu rfl (j _) rfl);have l:∀{f:DA}{d:Sg}{x:Int}{b:Bool},f d O=.ok [.int x,.bl b] O->yP f d O=.ok (.own O.length) (O++[[.int x,.bl b]]):=λ{f d x b}e=>by
  show((f d O).bnd _)=_;rw[e];rfl
 by_cases n:(1000000000000000000:Int)<=c
 ·rw[decide_eq_true n] at a;exact⟨c-1000000000000000000,Ka,t8 (sZ (qz (qX rfl rfl) g) (BN a (tQ (l (qX (qu rfl (j _) rfl) rfl))))),xR,by lia,λz=>by cases z⟩
 ·rw[decide_eq_false n] at a;have:=md c (m:=2147483647) 'u';exact⟨c%2147483647,Kb,t8 (sZ (qz (qX rfl rfl) g) (uY a (tQ (l (qX (qu rfl rfl (Eh 'u')) rfl))))),xR,this.1,λ_=>this.2⟩
def zdw{O:Ow}{m:Nat}{x:List D}(h:O[m]?=JU x):O.set m x=O:=by obtain⟨a,rfl⟩:=ao.mp h;exact List.set_getElem_self a
def zi5{ext:Nat}{it0:DI}{i:Nat}{te:DE}{σ:Sg}{O O0:Ow}{ds:List D}{m:Nat}{s:Int}{b:Bool}{P:D->Prop}{o:Bool}(q:o9 O m s b)(t:it0 σ O0=.ok (.val ds) O)(B:ds.length<1900000)
  (u:∀d∈ds,∀a,o9 (O.set m [.int a,.bl b]) m a b->∃v f,te ((qD (qD (σ++aR ext J9) [i]) [i]).set i (JU d)) (O.set m [.int a,.bl b])=.ok v (O.set m [.int f,.bl b])/\o9 (O.set m [.int f,.bl b]) m f b/\P v):
  ∃h a,qA o ext it0 (.one i) [] [] te σ O0=w_ o (.ok h (O.set m [.int a,.bl b]))/\o9 (O.set m [.int a,.bl b]) m a b/\h.length=ds.length/\∀v∈h,P v:=by
 obtain⟨c,g,e,a,rfl,l,n,p⟩:=Ul (ds:=ds) (step:=AS ⟨it0,.one i,[]⟩ [] te (qD (σ++aR ext J9) (qM [⟨it0,.one i,[]⟩])))
  (λj g c=>∃a,g=O.set m [.int a,.bl b]/\o9 g m a b/\c.length=j/\∀v∈c,P v) (λj g c d x r=>by
   obtain⟨a,rfl,l,n,p⟩:=x;have C:=(ao.mp r).1;obtain⟨v,f,y,A,E⟩:=u d (aJ r) a l;refine⟨c++[v],_,?_,f,rfl,A,by simp[n],λw hw=>?_⟩
   ·show uM [] te ((qD (qD (σ++aR ext J9) [i]) [i]).set i (JU d)) (O.set m [.int a,.bl b]) c=_;unfold uM;rw[y];exact Kd 'd'
   ·rcases aO.mp hw with hw|hw
    ·exact p w hw
    ·rwa [cA.mp hw]) ds.length 0 O [] ⟨s,(zdw q.at_).symm,q,rfl,by simp⟩ 'd' (bO _)
 refine⟨c,a,?_,l,n,p⟩;unfold qA BS;rw[t];show w_ o (zE (qU (.val ds) _ ds.length 0 O []))=_;rw[e];rfl
def R0{f:List D}(h:∀d∈f,x_ d):Ap (.tup f)=Ka:=aD.mpr λd a=>by rcases h d a with rfl|rfl|rfl<;>rfl
def YN{O O1:Ow}(a:Pl O1)(b:O1.length=O.length)(X:Ow){f:List D}(h:∀d∈f,x_ d):xf O.length (.ok (.tup f) (O1++X))=.ok (.tup f) O1:=by rw[<- b];exact Ak a X (BP (R0 h))
def zdP{ns:List Int}(e:ns.length<=63)(σ:Sg)(c:Nat)(f:c<1000)(b:rM 0 σ []=.ok (.lst (ns.map .int)) []):∃m:Nat,m<100000/\qh Ed (b_ rV (b_ (qh CK (b_ (qh rL (b_ j_ g_)) (b_ (dC (.int (c:Nat))) g_))) g_)) σ []=.ok (.int (m:Nat)) []:=by
 have a:qh CK (b_ (qh rL (b_ j_ g_)) (b_ (dC (.int (c:Nat))) g_)) σ []=.ok (.int (if (c:Int)<((ns.map D.int).length:Nat) then (c:Int) else ((ns.map D.int).length:Nat))) []:=sP (qX (sP (qp b) rfl) rfl) rfl;rw[ar] at a;generalize d:(if (c:Int)<((ns.length:Nat):Int) then (c:Int) else ((ns.length:Nat):Int))=v at a;have g:0<=v/\v<1000:=by rw[<- d];split<;>lia
 refine⟨(if v>1 then v else 1).toNat,by split<;>lia,sP (qX (t:=dC (.int 1)) rfl a) ?_⟩;show R.ok (D.int (if v>1 then v else 1)) []=_;congr 2;split<;>lia
def z6c{α:Type}{n i:Nat}(f:Nat->α):((aN n).map f)[i]?=if i<n then JU (f i) else J9:=by
 rw[aZ];by_cases h:i<n
 ·rw[jg h,Kd h];rfl
 ·rw[Kf h,aP.mpr (by simp;lia)];rfl
theorem QT{α:Type}{src:Src}{step:D->Ow->List D->R (List D)}{O:Ow}{inj:α->D}{g:α->D}{all:List α}(c:∀i,src.get O i=(all.map inj)[i]?)(j:∀b a r,all=b++a::r->step (inj a) O (b.map g)=.ok (b.map g++[g a]) O):∀(ds b:List α)(f:Nat),all=b++ds->ds.length<=f->qU src step f b.length O (b.map g)=.ok (all.map g) O
 | [],b,f,ha,_=>by
  have e:src.get O b.length=J9:=by rw[c,ha];simp
  have l:all=b:=by rw[ha];simp
  cases f<;>(unfold qU;rw[e,l])
 |d::ds,b,0,_,h=>by simp at h
 | d::ds,b,f+1,ha,h=>by
  unfold qU;have e:src.get O b.length=JU (inj d):=by rw[c,ha];simp
  rw[e];show((step (inj d) O (b.map g)).bnd λm n=>qU src step f (b.length+1) n m)=_;rw[j b d ds ha];show qU src step f (b.length+1) O (b.map g++[g d])=_;have:=QT c j ds (b++[d]) f (by rw[ha];simp) ⇑h;rw[aC,gL,cK] at this;exact this
def zeD{α:Type}{ext i:Nat}{it0:DI}{d f:DE}{σ:Sg}{O O0:Ow}{l:List α}{inj key val:α->D}{kk:α->DK}{τ:α->Sg}(p:it0 σ O0=.ok (.val (l.map inj)) O)(B:l.length<1000)(n:(l.map kk).Nodup)
  (q:∀a,(qD (qD (σ++aR ext J9) [i]) [i]).set i (JU (inj a))=τ a) (s:∀a∈l,d (τ a) O=.ok (key a) O) (t:∀a∈l,yh (key a)=JU (kk a)) (u:∀a∈l,f (τ a) O=.ok (val a) O):
  Ah ext it0 (.one i) [] [] d f σ O0=.ok (.map (l.map kk) (l.map val)) O:=by
 unfold Ah BX;rw[p];show((zE (qU (.val (l.map inj)) _ ((l.map inj).length) 0 O [])).bnd _)=_;have w:=QT (O:=O) (src:=.val (l.map inj)) (step:=vq ⟨it0,.one i,[]⟩ [] (Ck d f) (qD (σ++aR ext J9) (qM [⟨it0,.one i,[]⟩]))) (inj:=inj) (g:=λa=>tP (kk a,val a)) (all:=l) (λ_=>rfl) (λc a r j=>by
  have m:a∈l:=by rw[j];simp
  show(match (JU ((qD (qD (σ++aR ext J9) [i]) [i]).set i (JU (inj a))):Option Sg) with|some qW=>(uD [] qW O).bnd λb o=>if b=Ka then vM [] (Ck d f) qW o (c.map λa=>tP (kk a,val a)) else .ok (c.map λa=>tP (kk a,val a)) o|none=>.bad)=_;rw[q a];show((d (τ a) O).bnd _)=_;rw[s a m];show(match yh (key a) with|some k=>_|none=>_)=_;rw[t a m];show((f (τ a) O).bnd _)=_;rw[u a m];have h:(c.map λa=>tP (kk a,val a)).length<1000:=by
   rw[ar];have:=congrArg kN j;simp at this;lia
  have v:(c.map λa=>tP (kk a,val a)).any (D1 (kk a))=Kb:=by
   rw[mW];intro x y;obtain⟨b,A,rfl⟩:=ay.mp y;have:kk b≠kk a:=by
    rw[j,cK,bH,eD] at n;exact n.2.2 _ (ay.mpr ⟨b,A,rfl⟩) _ al
   show ¬ decide (kk b=kk a)=Ka;rw[decide_eq_true_eq];exact this
  show(if _/\_ then R.ok _ O else R.bad)=_;rw[Kd ⟨h,v⟩];rfl) l [] ((l.map inj).length) rfl 'k'
 rw[show qU (.val (l.map inj)) _ ((l.map inj).length) 0 O []=_ from w];show R.ok (D.map (ET (l.map λa=>tP (kk a,val a))) (EU (l.map λa=>tP (kk a,val a)))) O=_;have e:(l.map λa=>tP (kk a,val a))=(l.map λa=>(kk a,val a)).map tP:=by rw[bw];rfl
 rw[e,LX,LW,bw,bw];rfl
theorem UP{α:Type}{kk:α->DK}{val:α->D}{a:α}:∀{l:List α},a∈l->(l.map kk).Nodup->ym (kk a) (l.map kk) (l.map val)=JU (val a)
 |[],h,_=>by cases h
 | b::l,h,hn=>by
  rw[bH,bF] at hn;show(if kk b=kk a then JU (val b) else ym (kk a) (l.map kk) (l.map val))=_;rcases am.mp h with rfl|h
  ·rw[Kd rfl]
  ·rw[Kf (λ(e:kk b=kk a)=>hn.1 (by rw[e];exact ay.mpr ⟨a,h,rfl⟩))];exact UP h hn.2
def SJ{b tz:DE}{σ:Sg}{O:Ow}{a:List DK}{ds:List D}{y d:D}{k:DK}(c:b σ O=.ok (.map a ds) O)(e:tz σ O=.ok y O)(f:yh y=JU k)(g:ym k a ds=JU d):D9 b tz σ O=.ok d O:=by unfold D9;rw[c];show((tz σ O).bnd _)=_;rw[e];show(match yh y with|some k=>_|none=>_)=_;rw[f];show(match ym k a ds with|some d=>R.ok d O|none=>R.bad)=_;rw[g]
noncomputable def sg(cs:k_):Nat:=(cs.filter (· != 45)).length
theorem Tr(x:k_):∀l:l_,(xr x l).length<=l.length+1
 |[]=>by simp[xr]
 | y::r=>by
  have:=Tr x r;unfold xr;split
  ·simp
  ·split
   ·simp
   ·simp only[aV];lia
def Uh(c:l_):(rH c).length<=c.length:=by
 have:∀(l b:l_),(l.foldl (λl x=>xr x l) b).length<=b.length+l.length:=λl=>by
  induction l with
  |nil=>intro b;simp
  | cons a l ih=>
   intro b;rw[fY];have d:=ih (xr a b);have e:=Tr a b;simp only[aV];lia
 have:=this c [];simpa [rH] using this
def xb(f:List D):k_:=(aN f.length).filter λp=>Ar (f.getD p .non)
def zi6{n:Nat}{f:List D}(a:Fn n f)(O:Ow):Jv [.tup f] O=.ok (.lst (uU (xb f))) O:=by
 have b:=a.len;have c:=EC a.n4;show fin (Jy [rm f] O)=_;unfold Jy;exact yp (zt (o:=Kb) (l:=aN f.length) (inj:=λ(p:Nat)=>D.int (p:Int)) (p:=λp=>Ar (f.getD p .non)) (e:=λ(p:Nat)=>D.int (p:Int)) (τ:=λ(p:Nat)=>[rm f,p_ (p:Int)]) (A3 (qp (sP (qp rfl) (CY O f))) 'd') (by simp;lia) (λ_=>rfl) (λp d=>
  have q:=Qk a (p:=p) (by rw[<- b];exact ba.mp d)
  uf (qu (qu rfl rfl (q.2 O)) rfl (Wc O q.1))) (λ_ _ _=>rfl))
def pK{f:List D}{p:Nat}:p∈xb f↔p<f.length/\Ar (f.getD p .non)=Ka:=by unfold xb;rw[bE,ba]
def Ja{n:Nat}{f:List D}(a:Fn n f):(xb f).length<=16:=by have b:=bu (λp=>Ar (f.getD p .non)) (aN f.length);rw[bS] at b;have c:=EC a.n4;have d:=a.len;unfold xb;lia
def zck{l:l_}(h:l.Pairwise (· < ·)):rH l=l:=IZ (I_ l) h λx=>BW l
def zgw{σ:Sg}{O O1:Ow}{t:DA}{x:D}{l:l_}(h:t σ O=.ok [x] O1)(a:sE O1 x=JU (l.map .str)\/x=.tup (l.map .str))(b:l.length<1000):Fm Kb t σ O=.ok (.lst ((rH l).map .str)) O1:=by
 unfold Fm;rw[h];show(match (match sE O1 x with|some ds=>JU ds|none=>A7 x) with|some ds=>Qh Kb (.ok ds O1)|none=>.bad)=_;have e:(match sE O1 x with|some ds=>JU ds|none=>A7 x)=JU (l.map .str):=by
  rcases a with a|rfl
  ·rw[a]
  ·rfl
 rw[e];show(match v_ (l.map D.str) with|some ss=>if ss.length<1000 then (if Kb=Ka then R.ok (D.own _) _ else R.ok (D.lst ((rH ss).map .str)) O1) else .bad|none=>.bad)=_;rw[DL.strL_map];show(if l.length<1000 then _ else _)=_;rw[Kd b];rfl
def neI(O:Ow)(a b:Int):qf sD O (.int a) (.int b)=.ok (.bl (a !=b)) O:=rfl
def eqI(O:Ow)(a b:Int):qf rB O (.int a) (.int b)=.ok (.bl (a==b)) O:=rfl
def Iu{a:DA}{σ:Sg}{O O1:Ow}{ds:List D}(h:a σ O=.ok ds O1)(b:ds.length<=4000000):vZ a σ O=.ok (.tup ds) O1:=by show((a σ O).bnd _)=_;rw[h];show(if ds.length<=4000000 then _ else _)=_;rw[Kd b]
structure Sub(ds l:List D)(lo hi:Option Int):Prop where
 mem:∀d∈l,d∈ds
 len:l.length<=ds.length
 cut:l.length<=HT.sIx ds.length ds.length hi-HT.sIx ds.length 0 lo
def toT(c:l_):D:=.tup (c.map .str)
def YS(c:l_):Ap (toT c)=Ka:=by show(c.map D.str).all Bx=Ka;rw[aD];intro d a;obtain⟨x,_,rfl⟩:=ay.mp a;rfl
def L_(l:List l_):∀d∈l.map toT,Ap d=Ka:=λd a=>by
 obtain⟨x,_,rfl⟩:=ay.mp a;exact YS x
section
variable{α:Type}[DecidableEq α]
noncomputable def uk(inj:α->D)(h:DLC.Held α):D:=.map ((DLC.keys h).map dR) (h.map λkv=>.lst (kv.2.map inj))
structure Inj(inj:α->D):Prop where
 in_:∀(O:Ow)(x:α)(l:List α),Cj O (inj x) (.lst (l.map inj))=.ok (.bl (l.contains x)) O
 nin:∀(O:Ow)(x:α)(l:List α),zr O (inj x) (.lst (l.map inj))=.ok (.bl (!l.contains x)) O
variable{inj:α->D}(J:Inj inj)
def RG{h:DLC.Held α}(n:(DLC.keys h).Nodup){kv:k_×List α}(m:kv∈h):ym (.inr kv.1) ((DLC.keys h).map dR) (h.map λkv=>D.lst (kv.2.map inj))=sk (kv.2.map inj):=by
 have e:(DLC.keys h).map dR=h.map λkv=>(dR kv.1:DK):=by unfold DLC.keys;rw[bw];rfl
 rw[e];refine UP (kk:=λkv:k_×List α=>(dR kv.1:DK)) (val:=λkv=>D.lst (kv.2.map inj)) m ?_;rw[<- e];exact gH.mpr (List.Pairwise.imp (λa e=>a (jw e)) n)
def zhd{h:DLC.Held α}(n:(DLC.keys h).Nodup){t:k_}(m:t∈DLC.keys h):ym (.inr t) ((DLC.keys h).map dR) (h.map λkv=>D.lst (kv.2.map inj))=sk ((DLC.at_ h t).map inj):=by obtain⟨kv,a,rfl⟩:=ay.mp m;rw[RG n a,DLC.at_mem n a]
include J in
theorem Vc{h:DLC.Held α}(n:(DLC.keys h).Nodup)(b:h.length<=100)(x:α)(O:Ow):C0 [uk inj h,inj x] O=.ok (.lst ((DLC.hold h x).map .str)) O:=by
 show fin (JI [JU (uk inj h),JU (inj x)] O)=_;unfold JI;have c:HM j_ [JU (uk inj h),JU (inj x)] O=.ok (.val (h.map λa=>D.str a.1)) O:=by
  show R.ok (Src.val (((DLC.keys h).map dR).map B2)) O=_;unfold DLC.keys;rw[bw,bw];rfl
 refine yp ((zt (l:=h) (inj:=λa=>D.str a.1) (p:=λa=>a.2.contains x) (e:=λa=>.str a.1) (τ:=λa=>[JU (uk inj h),JU (inj x),rn a.1]) c 'd' (λ_=>rfl) (λa d=>uf (qu rfl (SJ rfl rfl rfl (RG n d)) (J.in_ O x a.2))) (λ_ _ _=>rfl)).trans ?_);show R.ok (D.lst _) O=_;unfold DLC.hold;rw[bw];rfl
theorem Mx{c:DE}{σ:Sg}{O:Ow}{f:α->Nat}:∀(w:List α)(b:α),(∀y∈w,c (σ++[JU (inj y)]) O=.ok (.int (f y:Nat)) O)->DL.minGo c σ (w.map inj) (inj b) (f b:Nat) O=.ok (inj (DLC.minGo f w b)) O
 |[],b,_=>rfl
 | x::w,b,h=>by
  rw[bH];unfold DL.minGo DLC.minGo;rw[h x al];dsimp only;by_cases d:f x<f b
  ·rw[Kd (show((f x:Nat):Int)<(f b:Nat) by lia),Kd d];exact Mx w x λy a=>h y (ag _ a)
  ·rw[Kf (show ¬ ((f x:Nat):Int)<(f b:Nat) by lia),Kf d];exact Mx w b λy a=>h y (ag _ a)
def stC(inj:α->D)(h:DLC.Held α)(w:List α)(m:Int)(y:Option D)(k:Nat)(a b c:Option D)(Pt:Nat):Sg:=[JU (uk inj h),sk (w.map inj),p_ m,y,sT k,a,b,c,JU (.tab Pt)]
include J in
theorem zi4{h:DLC.Held α}(n:(DLC.keys h).Nodup){w:List α}(d:w.length<=300){t:k_}(b:t∈DLC.keys h){m:Int}{y:Option D}{k Pt:Nat}{a c:Option D}(O:Ow):CH (stC inj h w m y k a (rn t) c Pt) O=.ok (.lst ((DLC.left h w t).map inj)) O:=
 (zt (o:=Kb) (l:=w) (inj:=inj) (p:=λx=>!(DLC.at_ h t).contains x) (e:=inj) (τ:=λx=>stC inj h w m y k a (rn t) c Pt++[JU (inj x)]) (u4 rfl) 'd' (λ_=>rfl) (λx f=>uf (qu rfl (SJ rfl rfl rfl (zhd n b)) (J.nin O x _))) (λ_ _ _=>rfl)).trans rfl
def FI{Pt a n:Nat}{F:qx}{t:DA}{σ:Sg}{O O1:Ow}{ds:List D}{z:R D}(b:σ[a]?=JU (JU (.tab Pt)))(c:t σ O=.ok ds O1)(d:F ds O1=z)(e:ds.length=n:=by rfl):vn Pt a n F t σ O=z:=by unfold vn;rw[b];dsimp only;rw[Kd rfl];exact qz c d e
def ZE{h r:DLC.Held α}{w l:List α}{t:k_}{m:Nat}{y:Option D}{Pt:Nat}{F:qx}{O:Ow}{J7 a:List l_}(d:F [uk inj r,.lst (l.map inj),.int (m:Nat)] (O++[J7.map toT])=.ok (.lst (a.map toT)) (O++[J7.map toT]))(p:J7.length+a.length<=1850000)(b:∀c∈a,c.length<=1000):
  BB Pt F (stC inj h w ((m+1:Nat):Int) y O.length (JU (uk inj r)) (rn t) (sk (l.map inj)) Pt) (O++[J7.map toT])=.ok .non (O++[(J7++a.map (t :: ·)).map toT]):=by
 have f:((m+1:Nat):Int)-1=(m:Nat):=by lia
 have g:vn Pt 8 3 F (b_ yg (b_ (rM 7) (b_ (i_ (fI xt) qt rV) g_))) (stC inj h w ((m+1:Nat):Int) y O.length (JU (uk inj r)) (rn t) (sk (l.map inj)) Pt) (O++[J7.map toT])=.ok (.lst (a.map toT)) (O++[J7.map toT]):=by
  refine FI rfl (ds:=[uk inj r,.lst (l.map inj),.int (m:Nat)]) ?_ d;show R.ok [uk inj r,.lst (l.map inj),.int (((m+1:Nat):Int)-1)] _=_;rw[f]
 have j:=yi (o:=Kb) (ext:=1) (i:=9) (l:=a) (inj:=toT) (te:=i_ rZ (vZ yK) (rM 9)) (e:=λc=>toT (t::c)) (τ:=λc=>stC inj h w ((m+1:Nat):Int) y O.length (JU (uk inj r)) (rn t) (sk (l.map inj)) Pt++[JU (toT c)]) (u4 g) 'd' (λ_=>rfl) (λc n=>by
  refine qu (x:=.tup [.str t]) (y:=toT c) (O1:=O++[J7.map toT]) (O2:=O++[J7.map toT]) rfl rfl ?_;show(if [D.str t]≠[]/\[D.str t].length+(c.map D.str).length<=4000000 then R.ok (D.tup ([D.str t]++c.map D.str)) (O++[J7.map toT]) else .bad)=_;rw[Kd ⟨by simp,by rw[ar];have:=b c n;simp;lia⟩];rfl)
 unfold BB zo;show(R.bnd (R.ok (D.own O.length) (O++[J7.map toT])) _)=_;show((b_ _ g_ _ (O++[J7.map toT])).bnd _)=_;rw[qp (j.trans (show w_ Kb _=R.ok (D.lst (a.map λc=>toT (t::c))) (O++[J7.map toT]) from rfl))];show(match [D.lst (a.map λc=>toT (t::c))],(O++[J7.map toT])[O.length]? with|[y],JU ds=>(match sE (O++[J7.map toT]) y with|some es=>if ds.length+es.length<=4000000 then R.ok D.non ((O++[J7.map toT]).set O.length (ds++es)) else R.bad|none=>R.bad)|_,_=>R.bad)=_;rw[xR];dsimp only[sE];rw[Kd (by simp;lia),Ez,cK,bw];rfl
def Tp(h:DLC.Held α)(t:k_):(DLC.drop h t).length<=h.length:=bu _ _
def zbx(r:DLC.Held α)(t:k_):vO (.inr t) ((DLC.keys r).map dR)=(DLC.keys (DLC.drop r t)).map dR:=by
 unfold vO DLC.keys DLC.drop
 induction r with
 |nil=>rfl
 | cons kv r ih=>
  simp only[bH];by_cases e:kv.1=t
  ·rw[di (by simp[e]),di (by simp[e])];exact ih
  ·rw[dj ⇑e,dj ⇑e];simp only[bH];rw[ih]
def zd1(r:DLC.Held α)(t:k_):zu (.inr t) ((DLC.keys r).map dR) (r.map λkv=>D.lst (kv.2.map inj))=(DLC.drop r t).map λkv=>D.lst (kv.2.map inj):=by
 unfold DLC.keys DLC.drop
 induction r with
 |nil=>rfl
 | cons kv r ih=>
  simp only[bH];unfold zu;by_cases e:kv.1=t
  ·rw[Kd (by rw[e]),di (by simp[e])];exact ih
  ·rw[Kf (λz=>e (jw z)),dj ⇑e,bH,ih]
def ZA{r:DLC.Held α}{t:k_}(h:t∈DLC.keys r):EW (.inr t) ((DLC.keys r).map dR)=Ka:=by unfold EW;rw[fF];exact⟨.inr t,ay.mpr ⟨t,h,rfl⟩,by simp⟩
end
def zdN{t:DE}{σ:Sg}{O O1:Ow}{ds:List D}(h:t σ O=.ok (.lst ds) O1):sI t σ O=.ok (!ds.isEmpty) O1:=by show((t σ O).bnd _)=_;rw[h];rfl
def sV(t:k_):Int:=((sg t:Nat):Int)
def zex(O:Ow):(oZ.map λa=>F2 [.str a] O)=oZ.map λa=>R.ok (D.int (sV a)) O:=by kernel_rfl
def zgn{a:k_}(h:a∈oZ)(O:Ow):F2 [.str a] O=.ok (.int (sV a)) O:=eE.mp (zex O) a h
def rD(c:l_):Int:=(c.map sV).sum
theorem F3:∀l:List Int,yQ (l.map D.int)=JU l
 |[]=>rfl
 | x::l=>by
  show(yQ (l.map D.int)).map (x :: ·)=_;rw[F3 l];rfl
def zg8{c:l_}(a:∀t∈c,t∈oZ)(f:c.length<=1000)(O:Ow):A4 [toT c] O=.ok (.int (rD c)) O:=by
 have b:=yi (o:=Kb) (ext:=1) (i:=1) (it0:=qG j_) (σ:=[JU (toT c)]) (O0:=O) (O:=O) (l:=c) (inj:=D.str) (te:=n_ 1 F2 (b_ qc g_)) (e:=λt=>D.int (sV t)) (τ:=λt=>[JU (toT c),rn t]) (BR rfl) 'd' (λ_=>rfl) (λt d=>qz (qp rfl) (zgn (a t d) O));show fin (Je [JU (toT c)] O)=_;unfold Je;refine yp (sP (qp b) ?_);show(match yQ (c.map λt=>D.int (sV t)) with|some ns=>R.ok (D.int ns.sum) O|none=>.bad)=_;have:(c.map λt=>D.int (sV t))=(c.map sV).map D.int:=by rw[bw];rfl
 rw[this,F3];rfl
section
variable{α:Type}[DecidableEq α]
theorem To:∀l:List l_,AL (l.map toT)=JU l
 |[]=>rfl
 | x::l=>by
  show(match v_ (x.map D.str),AL (l.map toT) with|some ks,JU t=>JU (ks::t)|_,_=>J9)=_;rw[strL_map,To l]
def few(h:DLC.Held α)(w:List α)(m:Nat):Int:=BF ((DLC.cov m h w).map rD)
def best(h:DLC.Held α)(w:List α)(m:Nat):List l_:=Cw (((DLC.cov m h w).filter λc=>rD c==few h w m).map rH)
theorem F0:∀(l:List Int)(x:Int),l.foldl min x=x\/l.foldl min x∈l
 |[],x=>.inl rfl
 | y::l,x=>by
  show l.foldl min (min x y)=x\/_;rcases F0 l (min x y) with e|e
  ·rw[show(List.foldl min x (y::l))=l.foldl min (min x y) from rfl,e];rcases Int.le_total x y with g|g
   ·left;lia
   ·right;rw[show min x y=y by lia];exact al
  ·right;exact ag _ e
def zg1{h:DLC.Held α}{w:List α}{m:Nat}(a:DLC.cov m h w≠[]):∃c∈DLC.cov m h w,rD c=few h w m:=by
 unfold few;cases b:DLC.cov m h w with
 |nil=>exact absurd b a
 | cons c l=>
  rcases F0 (l.map rD) (rD c) with e|e
  ·exact⟨c,al,e.symm⟩
  ·obtain⟨d,f,q⟩:=ay.mp e;exact⟨d,ag _ f,q⟩
def pH{h:DLC.Held α}{w:List α}{m:Nat}{x:l_}:x∈best h w m ↔ ∃c∈DLC.cov m h w,rD c=few h w m/\rH c=x:=by
 unfold best;rw[(MS _).mem_iff,ay];constructor
 ·rintro⟨c,d,rfl⟩;obtain⟨a,b⟩:=bE.mp d;exact⟨c,a,by simpa using b,rfl⟩
 ·rintro⟨c,a,b,rfl⟩;exact⟨c,bE.mpr ⟨a,by simpa using b⟩,rfl⟩
def zgt{h:DLC.Held α}{w:List α}{m:Nat}(a:DLC.cov m h w≠[]):best h w m≠[]:=by obtain⟨c,b,e⟩:=zg1 a;have:rH c∈best h w m:=pH.mpr ⟨c,b,e,rfl⟩;intro q;rw[q] at this;cases this
end
def MD{O:Ow}{x:D}{xs:List D}(h:sE O x=JU xs):∃src,Im x=JU src/\(∀i,src.get O i=xs[i]?)/\src.size O=xs.length:=by
 cases x with
 |lst ds=>cases h;exact⟨.val xs,rfl,λ_=>rfl,rfl⟩
 | own k=>
  have h:O[k]?=JU xs:=h;refine⟨.own k,rfl,λi=>?_,?_⟩
  ·show(match O[k]? with|some ds=>ds[i]?|none=>J9)=_;rw[h]
  ·show(match O[k]? with|some ds=>ds.length|none=>0)=_;rw[h]
 |_=>cases h
def CW{f:List D}{p:Nat}(h:p<f.length):f.getD p .non=f[p]:=by rw[bz,au h];rfl
def zaa:(oZ.all λa=>(su a).all λp=>decide (p<2 ^ a.length))=Ka:=by decide +kernel
def ZY{a:k_}(h:a∈oZ){p:Nat}(b:p∈su a):p<2 ^ a.length:=by have:=aD.mp zaa a h;simpa using aD.mp this p b
def zcT:(oZ.all λa=>a.all λc=>decide (c<128))=Ka:=by decide +kernel
def eq0(O:Ow){d:D}(h:x_ d):qf rB O d (.int 0)=.ok (.bl (B7 d)) O:=(Wd O h).1
def o9.more{O X:Ow}{m:Nat}{s:Int}{b:Bool}(h:o9 O m s b):o9 (O++X) m s b:=⟨by rw[aH h.len];exact h.at_,h.nn,h.lt⟩
def Zi{σ:Sg}{O O1:Ow}{t:DE}{x:D}{src:Src}(h:t σ O=.ok x O1)(a:Im x=JU src):qG t σ O=.ok src O1:=by
 unfold qG;rw[h];cases x with
 |lst ds=>cases a;rfl
 |own k=>cases a;rfl
 |_=>cases a
def Ml{O X:Ow}{x:D}{xs:List D}(h:sE O x=JU xs):sE (O++X) x=JU xs:=by
 cases x with
 |lst ds=>exact h
 | own k=>
  have h:O[k]?=JU xs:=h;show(O++X)[k]?=JU xs;rw[aH (ao.mp h).1];exact h
 |_=>cases h
def TQ{σ:Sg}{O O1:Ow}{i k:Nat}{t:DE}{y:D}{ds es:List D}(a:σ[i]?=JU (sT k))(b:t σ O=.ok y O1)(c:sE O1 y=JU es)(d:O1[k]?=JU ds)(e:ds.length+es.length<=4000000):
  t7 (zo (rM i) (b_ t g_)) σ O=.nx σ (O1.set k (ds++es)):=by refine Mw (x:=.non) ?_;unfold zo rM;rw[a];show((b_ t g_ σ O).bnd _)=_;rw[qp b];show(match [y],O1[k]? with|[y],JU ds=>(match sE O1 y with|some es=>if ds.length+es.length<=4000000 then R.ok D.non (O1.set k (ds++es)) else R.bad|none=>R.bad)|_,_=>R.bad)=_;rw[d];dsimp only;rw[c];dsimp only;rw[Kd e]
def AQ(t:k_):l_:=[t++[45],t++[48],t++[49]]
def z7D{n:Nat}(h4:n<=4){O:Ow}(J:Pl O):JJ [.int n] O=.ok (.lst ((J6 n).map .str)) O:=by
 have u:∀i,i<=4->(J6 i).length<=81:=λi L=>by
  have:i=0\/i=1\/i=2\/i=3\/i=4:=by lia
  rcases this with rfl|rfl|rfl|rfl|rfl<;>decide
 have M:∀i,i<=4->∀t∈J6 i,t.length<=4:=λi L t b=>by
  have:i=0\/i=1\/i=2\/i=3\/i=4:=by lia
  rcases this with rfl|rfl|rfl|rfl|rfl
  ·simp[J6] at b;simp[b]
  ·rw[zy 'u' 'u' b];decide
  ·rw[zy 'u' 'u' b];decide
  ·rw[zy 'u' 'u' b];decide
  ·rw[zy 'u' 'u' b];decide
 let N:Option D:=p_ n;let H:Ow->D->List D->Prop:=λX d o=>d=.lst o \/ ∃k,d=.own (O.length+k)/\X[k]?=JU o;have v:∀{X d o},H X d o->sE (O++X) d=JU o:=λ{X d o}h=>by
  rcases h with rfl|⟨k,rfl,h⟩
  ·rfl
  ·show(O++X)[O.length+k]?=_;rw[bj 'd',dh];exact h
 show xf O.length (fin (Nf [N,J9,J9,J9,J9] O))=_;unfold Nf;rw[yV (σ':=[N,JU (.lst [.str []]),J9,J9,J9]) (O1:=O) (by rfl)];obtain⟨σ',m,w,d,A,s,e,X,rfl,rfl,f⟩:=FE (i:=2) (O:=O) (l:=aN n) (body:=(qd (qH 3 (yP g_)) (qd (uC (qG qc) (.one 4) (t7 (zo rK (b_ (vm (b_ (i_ rZ tj AO) (b_ (i_ rZ tj (dC (.str [48]))) (b_ (i_ rZ tj (dC (.str [49]))) g_)))) g_)))) (qH 1 rK))))
  (A3 (σ:=[N,JU (.lst [.str []]),J9,J9,J9]) (O:=O) (qp (t:=rM 0) rfl) 'd') (λi σ m=>∃d A s e X,σ=[N,JU d,A,s,e]/\m=O++X/\H X d ((J6 i).map .str)) (λi a σ m P p=>by
   obtain⟨d,A,s,e,X,rfl,rfl,f⟩:=p;have tJ:i<n:=by
    have:=(ao.mp P).1;simpa using this
   have I:i<=4:=by lia
   show ∃σ' m,qd _ _ [N,JU d,p_ a,s,e] (O++X)=_/\_;rw[yV (σ':=[N,JU d,p_ a,JU (.own (O++X).length),e]) (O1:=O++X++[[]]) (by rfl)];obtain⟨Q,B,s2,S⟩:=MD (Ml (X:=[[]]) (v f));obtain⟨σ',m,w,U,rfl,rfl⟩:=SY (α:=k_) (g:=.one 4) (l:=J6 i) (inj:=.str) (body:=(t7 (zo rK (b_ (vm (b_ (i_ rZ tj AO) (b_ (i_ rZ tj (dC (.str [48]))) (b_ (i_ rZ tj (dC (.str [49]))) g_)))) g_))))
    (Zi (σ:=[N,JU d,p_ a,JU (.own (O++X).length),e]) (O:=O++X++[[]]) (t:=rM 1) rfl B) (by rw[S];simp)
    (λj σ m=>∃e,σ=[N,JU d,p_ a,JU (.own (O++X).length),e]/\m=O++X++[(((J6 i).take j).flatMap AQ).map .str]) (λj t σ m b p=>by
     obtain⟨e,rfl,rfl⟩:=p;have hj:=(ao.mp b).1;obtain⟨Y,r,C,E⟩:=MD (Ml (X:=[(((J6 i).take j).flatMap AQ).map .str]) (v f));rw[B] at r;cases r;refine⟨by rw[C,aZ,b];rfl,[N,JU d,p_ a,JU (.own (O++X).length),rn t],_,_,rfl,TQ (y:=.lst ((AQ t).map .str)) (ds:=(((J6 i).take j).flatMap AQ).map .str) (es:=(AQ t).map .str) rfl ?_ rfl xR ?_,_,rfl,?_⟩
     ·have Z:=M i I t (aJ b);have fa:∀c G,rZ G (.str t) (.str [c])=.ok (.str (t++[c])) G:=λc G=>by
       match t,Z with
       |[],_=>rfl
       |[_],_=>rfl
       |[_,_],_=>rfl
       |[_,_,_],_=>rfl
       |[_,_,_,_],_=>rfl
      simp only[qd,qH,rW,qm,t7,rY,rM,dC,b_,g_,n_,qh,i_,qI,sI,vo,Qx,R.bnd,R.bnS,fin,List.getElem?_cons_zero,List.getElem?_cons_succ,mo,List.set_cons_succ,aV,gr,ki,Nat.reduceAdd,Nat.reduceLeDiff,Nat.reduceLT,if_true,if_false,oA,Bool.not_false,cS,ite_true,ite_false,vm,fa,AQ,bH,i0]
     ·have h1:=u i I;have h2:∀l:l_,(l.flatMap AQ).length=3*l.length:=λl=>by
       induction l with
       |nil=>rfl
       |cons x l ih=>rw[dI,aC,ih,aV];show 3+_=_;lia
      rw[ar,h2,ar];have h3:=lX j (J6 i);show 3*((J6 i).take j).length+3<=_;lia
     ·rw[Ez,<- cK];have:(J6 i).take (j+1)=(J6 i).take j++[t]:=by
       rw[fh,b];rfl
      rw[this,jl];simp) (λσ m p=>by
     obtain⟨e,rfl,rfl⟩:=p;obtain⟨Y,r,C,E⟩:=MD (Ml (X:=[(((J6 i).take (J6 i).length).flatMap AQ).map .str]) (v f));rw[B] at r;cases r;rw[C];simp) ⟨e,rfl,by simp⟩
   rw[yV w];refine⟨_,_,rfl,.own (O++X).length,_,_,_,X++[(((J6 i).take (J6 i).length).flatMap AQ).map .str],rfl,by simp,.inr ⟨X.length,by simp,?_⟩⟩;rw[xR,e9];rfl) ⟨_,_,_,_,[],rfl,by simp,.inl rfl⟩
 rw[yV w,tQ (x:=d) rfl];rw[bS] at f;show xf O.length (.ok d (O++X))=_;refine Ak J X ?_;rcases f with rfl|⟨k,rfl,h⟩
 ·show(qo (frz (O++X) O.length 7) ((J6 n).map D.str)).map D.lst=_;rw[yq λd f=>by obtain⟨q,_,rfl⟩:=ay.mp f;exact BP rfl];rfl
 ·unfold frz;dsimp only;rw[Kf 'd',bj 'd',dh,h];dsimp only;rw[yq λd f=>by obtain⟨q,_,rfl⟩:=ay.mp f;exact BP rfl];rfl
def z6o(O:Ow):(pU.map λq=>F7 [.str q.1,.int (q.2:Nat)] O)=pU.map λq=>R.ok (.bl ((su q.1).contains q.2)) O:=by kernel_rfl
def M9{a:k_}{p:Nat}(h:a∈oZ)(b:p<2 ^ a.length)(O:Ow):F7 [.str a,.int (p:Nat)] O=.ok (.bl ((su a).contains p)) O:=eE.mp (z6o O) _ (ze9 h b)
def zdE{c d:DT}{σ:Sg}{O:Ow}{a b:Bool}(e:c σ O=.ok a O)(f:a=Ka->d σ O=.ok b O):Fp c d σ O=.ok (a&&b) O:=by
 show((c σ O).bnd _)=_;rw[e];cases a with
 |true=>exact f rfl
 |false=>rfl
def M6{n:Nat}{f:List D}(b:Fn n f){c:k_}(h:c∈J6 n)(O:Ow):Jr [.tup f,.str c] O=.ok (.bl (Ag f c)) O:=by
 have g:=uZ b.n1 b.n4 h;have j:=zy b.n1 b.n4 h;have o:=EC b.n4;have m:=b.len;show fin (Ju [rm f,rn c] O)=_;unfold Ju;rw[tQ ((A1 (zt (l:=aN f.length) (p:=λp=>B7 (f.getD p .non)&&(su c).contains p) (e:=λ(p:Nat)=>D.int (p:Int)) (τ:=λ(p:Nat)=>[rm f,rn c,p_ (p:Int)]) (A3 (qp ((I9 (qp (t:=rM 0) rfl)).trans rfl)) 'd') (by simp;lia) (λ_=>rfl) (λq a=>by
   have a:=ba.mp a;refine zdE (uf ((A1 ((A1 rfl rfl).trans (CV (i:=q) a)) rfl).trans ((eq0 O (b.ans _ (bT a))).trans (by rw[CW a])))) λ_=>xw ((Fy (qX rfl rfl) rfl).trans (M9 g (by rw[j,<- m];exact a) O))) (λ_ _ _=>rfl)) rfl).trans (by
  have:=ZQ O (((aN f.length).filter λp=>B7 (f.getD p .non)&&(su c).contains p).map λ(p:Nat)=>(p:Int));rw[bw] at this;exact this))]
 show R.ok (D.bl _) O=_;congr 2;unfold Ag;rw[ee,nD,lY,iJ,aD];constructor
 ·intro h p d;have r:p<f.length:=by rw[m,<- j];exact ZY g d
  have:=h p (ba.mpr r);simp only[aT,bb,not_and] at this;cases s:B7 (f.getD p .non) with
  |true=>exact absurd d (this s)
  |false=>rfl
 ·intro h p d a;simp only[aT,bb] at a;have:=h p a.2;rw[a.1] at this;cases this
structure uR(n:Nat)(fs:List (List D)):Prop where
 n1:1<=n
 n3:n<=3
 l2:2<=fs.length
 l3:fs.length<=3
 fn:∀f∈fs,Fn n f
def uR.n4{n:Nat}{a:List (List D)}(h:uR n a):n<=4:=aI h.n3 'u'
def rN(fs:List (List D))(cs:k_):k_:=(aN fs.length).filter λk=>Ag (fs.getD k []) cs
def Er{a:List (List D)}{k:Nat}(h:k<a.length):a.getD k []=a[k]:=by rw[bz,au h];rfl
def VA{n:Nat}{a:List (List D)}(d:uR n a){b:k_}(h:b∈J6 n)(O:Ow):EI [.tup (a.map .tup),.str b] O=.ok (.lst (uU (rN a b))) O:=by
 have:=d.l3;show fin (JD [rm (a.map .tup),rn b] O)=_;unfold JD;rw[tQ (zt (l:=aN a.length) (p:=λk=>Ag (a.getD k []) b) (e:=λ(p:Nat)=>D.int (p:Int)) (τ:=λ(p:Nat)=>[rm (a.map .tup),rn b,p_ (p:Int)]) (A3 (qp ((I9 (qp (t:=rM 0) rfl)).trans (by rw[CY,ar]))) 'd') (by simp;lia) (λ_=>rfl) (λk c=>by
  have c:=ba.mp c;refine xw ((Fy (qX ((A1 rfl rfl).trans (CV (i:=k) ⇑c)) rfl) rfl).trans ?_);rw[fe,Er c];exact M6 (d.fn _ (bT c)) h O) (λ_ _ _=>rfl))]
 rfl
def Et(a:List D):xv a=(aN a.length).map λk=>D.tup [.int (k:Nat),a.getD k .non]:=by
 apply jW;intro i;rw[MU,aZ];by_cases b:i<a.length
 ·rw[jg b,au b,fU,fU,CW b]
 ·rw[aP.mpr 'd',aP.mpr (by simp;lia)];rfl
def M7{n:Nat}{a:List (List D)}(d:uR n a){b:k_}(h:b∈J6 n)(O:Ow):EG [.tup (a.map .tup),.str b] O=.ok (.lst (uU (rN a b))) O:=by
 have:=d.l3;show fin (JR [rm (a.map .tup),rn b] O)=_;unfold JR;rw[tQ (Ey (g:=.two 2 3) (O:=O) (src:=.val (xv (a.map .tup))) (l:=aN a.length) (inj:=λk=>D.tup [.int (k:Nat),(a.map D.tup).getD k .non]) (p:=λk=>Ag (a.getD k []) b) (e:=λ(p:Nat)=>D.int (p:Int)) (τ:=λ(k:Nat)=>[rm (a.map .tup),rn b,p_ (k:Int),JU ((a.map D.tup).getD k .non)]) (by rfl) (λi=>by rw[Et,ar];rfl) (by rw[Et];simp[Src.size]) (by simp;lia) (λ_ _=>rfl) (λk c=>by
  have c:=ba.mp c;have e:(a.map D.tup).getD k .non=.tup (a.getD k []):=by rw[CW ⇑c,fe,Er c]
  refine Jb (xw ((Fy (qX rfl rfl) rfl).trans ?_));rw[e];exact ze2 (by rw[Er c];exact d.fn _ (bT c)) h O) (λ_ _ _=>rfl))]
 rfl
def zdV(O:Ow):(allS.map λq=>Jp [.str q.1,.int (q.2:Nat),.str [45]] O)=allS.map λq=>R.ok (.str (q.1.set q.2 45)) O:=by kernel_rfl
def zgA{a:k_}{k:Nat}(h:a∈oZ)(b:k<a.length)(O:Ow):Jp [.str a,.int (k:Nat),.str [45]] O=.ok (.str (a.set k 45)) O:=by have:=eE.mp (zdV O) (a,k) (Mj h b);dsimp only at this;exact this
def zdm{a:k_}{k:Nat}(h:k<a.length):a.getD k 0=a[k]:=by rw[bz,au h];rfl
def zho(O:Ow){c:Nat}(h:sgn c=Ka):qf sD O (.str [c]) (.str [45])=.ok (.bl (c !=45)) O:=by unfold sgn at h;simp only[fV,beq_iff_eq] at h;rcases h with(rfl|rfl)|rfl<;>kernel_rfl
def Sl(O:Ow)(l:k_):qf sD O (.lst (uU l)) (.lst [])=.ok (.bl (!l.isEmpty)) O:=
 (FC O (b:=l.isEmpty) (IU 7 l) (y:=[]) rfl (by cases l<;>simp)).2
def zi3(O:Ow)(l:k_):qf rB O (.lst (uU l)) (.lst [])=.ok (.bl l.isEmpty) O:=
 (FC O (b:=l.isEmpty) (IU 7 l) (y:=[]) rfl (by cases l<;>simp)).1
def zg3(O:Ow)(a b:k_):qf rB O (.lst (uU a)) (.lst (uU b))=.ok (.bl (a==b)) O:=
 (FC O (b:=a==b) (IU 7 a) (IU 7 b) (by rw[beq_iff_eq];exact⟨λh=>by rw[h],TK⟩)).1
def wider(cs:k_):l_:=((aN cs.length).filter λk=>cs.getD k 0 !=45).map λk=>cs.set k 45
def A0(fs:List (List D))(cs:k_):Bool:=!(rN fs cs).isEmpty && !((wider cs).any λo=>rN fs o==rN fs cs)
def Vo{n:Nat}(b:1<=n)(c:n<=4){a:k_}(h:a∈J6 n):∀o∈wider a,o∈J6 n:=λo d=>by
 obtain⟨k,_,rfl⟩:=ay.mp d;exact zb4 b c h k
def z8u{n:Nat}{b:List (List D)}(d:uR n b){a:k_}(h:a∈J6 n)(O:Ow):MV [.tup (b.map .tup),.str a] O=.ok (.bl (A0 b a)) O:=by
 have g:=uZ d.n1 d.n4 h;have u:=zy d.n1 d.n4 h;have v:=d.n3;have j:a.all (· < 128)=Ka:=aD.mp zcT a g;have m:AI (.str a)=JU (.val (a.map λc=>.str [c])):=by
  show(if a.all (· < 128)=Ka then JU (Src.val (a.map λc=>.str [c])) else J9)=_;rw[Kd j]
 show fin (MX [rm (b.map .tup),rn a,J9,J9] O)=_;unfold MX;have q:(((aN a.length).filter λk=>a.getD k 0 !=45).map λ(k:Nat)=>D.str (a.set k 45))=(wider a).map D.str:=by unfold wider;rw[bw];rfl
 have w:(wider a).length<=3:=by
  unfold wider;rw[ar];have:=bu (λk=>a.getD k 0 !=45) (aN a.length);rw[bS] at this;lia
 have r:i_ (qf sD) qt yd [rm (b.map .tup),rn a,sk (uU (rN b a)),sk ((wider a).map D.str)] O=.ok (.bl (!(rN b a).isEmpty)) O:=(A1 rfl rfl).trans (Sl O _);have s:qh D3 (b_ (qA Kb 1 (qG rK) (.one 4) [] [] (i_ (qf rB) (n_ 2 EG (b_ j_ (b_ tj g_))) qt)) g_) [rm (b.map .tup),rn a,sk (uU (rN b a)),sk ((wider a).map D.str)] O=.ok (.bl ((wider a).any λo=>rN b o==rN b a)) O:=
  (I9 (qp (yi (l:=wider a) (e:=λo=>D.bl (rN b o==rN b a)) (τ:=λo=>[rm (b.map .tup),rn a,sk (uU (rN b a)),sk ((wider a).map D.str),rn o]) (u4 rfl) 'd' (λ_=>rfl) (λo t=>(A1 ((Fy (qX rfl rfl) rfl).trans (M7 d (Vo d.n1 d.n4 h o t) O)) rfl).trans (zg3 O _ _))))).trans (ze4 O _ _)
 refine t8 (x:=.bl (A0 b a)) (O1:=O) (sZ (x:=.lst (uU (rN b a))) (O1:=O) (qz (qX rfl rfl) (M7 d h O)) (sZ (x:=.lst ((wider a).map D.str)) (O1:=O) ?_ (tQ (IY r λ_=>zhl s))));rw[<- q];refine(Ey (O:=O) (src:=.val (xv (a.map λc=>D.str [c]))) (l:=aN a.length) (inj:=λk=>D.tup [.int (k:Nat),(a.map λc=>D.str [c]).getD k .non]) (p:=λk=>a.getD k 0 !=45) (e:=λ(k:Nat)=>D.str (a.set k 45)) (τ:=λ(k:Nat)=>[rm (b.map .tup),rn a,sk (uU (rN b a)),J9,p_ (k:Int),JU ((a.map λc=>D.str [c]).getD k .non)]) ?_ ?_ ?_ ?_ ?_ ?_ ?_).trans rfl
 ·show(match AI (.str a) with|some (.val ds)=>R.ok (Src.val (xv ds)) O|_=>R.bad)=_;rw[m]
 ·intro i;rw[Et,ar];rfl
 ·rw[Et];simp[Src.size]
 ·simp;lia
 ·intro _ _;rfl
 ·intro k f;have f:=ba.mp f;have e:(a.map λc=>D.str [c]).getD k .non=.str [a[k]]:=by rw[CW ⇑f,fe]
  refine Jb (uf (qu rfl rfl ?_));rw[e,zdm f];exact zho O (UM d.n1 d.n4 h _ (bT f))
 ·intro k f _;exact qz (FV rfl (qX rfl rfl)) (zgA g (ba.mp f) O)
def SK{n:Nat}{a:List (List D)}(b:uR n a):∃f r,a=f::r:=by
 cases a with
 |nil=>have:=b.l2;simp at this
 |cons f r=>exact⟨f,r,rfl⟩
def ziE(O:Ow){n:Nat}{a:List (List D)}(b:uR n a):zr O (.int ((a.map D.tup).length:Nat)) (.tup [.int 2,.int 3])=.ok (.bl Kb) O:=by
 have:a.length=2\/a.length=3:=by have:=b.l2;have:=b.l3;lia
 rw[ar];rcases this with e|e<;>rw[e]<;>kernel_rfl
def XN(O:Ow)(n:Nat):qf rB O (.int (n:Nat)) (.int (n:Nat))=.ok (.bl Ka) O:=(K4 O (b:=Ka) rfl rfl 'k').1
def I8{n:Nat}{a:List (List D)}(b:uR n a)(O:Ow):∃f,Fn n f/\qJ O (.tup (a.map .tup)) (.int 0)=.ok (.tup f) O:=by obtain⟨f,r,rfl⟩:=SK b;refine⟨f,b.fn f al,?_⟩;show qJ O (.tup (.tup f::r.map .tup)) (.int ((0:Nat):Int))=_;exact CV 'k'
def z7X{n:Nat}{c:List (List D)}(d:uR n c)(O:Ow):Nk [.tup (c.map .tup)] O=.ok (.bl Ka) O:=by
 have j:=d.n3;have m:=d.l3;obtain⟨f,h,i⟩:=I8 d O;show fin (Np [rm (c.map .tup),J9] O)=_;unfold Np;refine t8 (uY (O1:=O) ?_ (uY (O1:=O) ?_ (sZ (x:=.int n) (O1:=O) ?_ (tQ ?_))))
 ·exact FL (yr (xw (b:=Ka) rfl)) λ_=>uf (qu (sP (qp rfl) (CY O _)) rfl (ziE O d))
 ·refine yr (b:=Ka) (xw (sP (qp ((yi (l:=c) (e:=λ_=>D.bl Ka) (τ:=λf=>[rm (c.map .tup),J9,rm f]) (BR rfl) 'd' (λ_=>rfl) (λf g=>qz (qp rfl) (z5y (d.fn f g) O))).trans rfl)) ?_));rw[EA O c λ_=>Ka];simp
 ·exact qz (qp (qu rfl rfl i)) (MZ h O)
 ·refine IY (a:=Ka) (b:=Ka) (qu rfl rfl ?_) λ_=>?_
  ·show R.ok (D.bl (decide ((n:Int)<=3))) O=_;rw[decide_eq_true 'd']
  ·refine sP (qp ((yi (l:=c) (e:=λ_=>D.bl Ka) (τ:=λf=>[rm (c.map .tup),p_ n,rm f]) (BR rfl) 'd' (λ_=>rfl) (λf g=>qu (qz (qp rfl) (MZ (d.fn f g) O)) rfl (XN O n))).trans rfl)) ?_;rw[EA O c λ_=>Ka];simp
def xh(n:Nat)(fs:List (List D)):l_:=(J6 n).filter (A0 fs)
def z8K{n:Nat}{a:List (List D)}(c:uR n a)(b:k_):(rN a b).length<=3:=by have d:=bu (λk=>Ag (a.getD k []) b) (aN a.length);rw[bS] at d;have:=c.l3;unfold rN;lia
def MM{O:Ow}{m:Nat}{s:Int}{b:Bool}(h:o9 (O.set m [.int s,.bl b]) m s b)(X:Ow){k:Nat}(e:1<=k)(f:k<=1000):
  ∃(r:Nat)(a:Int),r<k/\xj [.own m,.int k] (O.set m [.int s,.bl b]++X)=.ok (.int r) (O.set m [.int a,.bl b]++X)/\o9 (O.set m [.int a,.bl b]) m a b:=by
 obtain⟨r,a,g,d,c⟩:=FU (h.more (X:=X)) e f;rw[List.set_append_left _ _ h.len,fR] at d c;refine⟨r,a,g,d,?_,c.nn,c.lt⟩;have i:m<(O.set m [.int a,.bl b]).length:=by have:=h.len;rw[d9] at this ⊢;exact this
 have:=c.at_;rwa [aH i] at this
def Iy(O:Ow)(i j:Int):Az O (.int i) (.int j)=.ok (.bl (decide (i<j))) O:=rfl
def L8(O:Ow)(q:Bool):AR O [.bl q]=.ok (.int (if q=Ka then 1 else 0)) O:=by cases q<;>rfl
def ze7(O:Ow){r:Nat}(h:r<3):∃i:Int,qJ O (.lst [.int 2,.int 4,.int 6]) (.int r)=.ok (.int i) O:=by
 have:r=0\/r=1\/r=2:=by lia
 rcases this with rfl|rfl|rfl
 ·exact⟨2,rfl⟩
 ·exact⟨4,rfl⟩
 ·exact⟨6,rfl⟩
def z8I{O:Ow}(hO:Pl O){m:Nat}{s:Int}{b:Bool}(h:o9 O m s b){n:Nat}(n1:1<=n)(G:n<=4)(o:Bool):
  ∃f g,Fn n f/\JG [.own m,.int n,.bl o] O=.ok (.tup f) (O.set m [.int g,.bl b])/\o9 (O.set m [.int g,.bl b]) m g b:=by
 have hp:=EC G;obtain⟨r,H,r1,r2,h1⟩:=FU h (k:=3) 'u' 'u';obtain⟨w,q,w1,M,N⟩:=FU h1 (k:=3) 'u' 'u';rw[fR] at M N;obtain⟨i,hi⟩:=ze7 (O.set m [.int H,.bl b]) r1;obtain⟨z,hz⟩:∃z:Int,i_ (fI xM) (n_ 2 xj (b_ j_ Ff)) (qh AR (b_ qt g_)) [sT m,p_ n,B4 o,p_ i,J9,J9,J9,J9] (O.set m [.int H,.bl b])=.ok (.int z) (O.set m [.int q,.bl b]):=by
  refine⟨_,qu (qz (qX rfl rfl) M) (sP (qp rfl) (L8 _ o)) (En 'd' 'd')⟩
 let A:Option D:=sT m;let k:=O.length;have e:∀g,(O.set m [D.int g,D.bl b]).length=O.length:=λg=>d9;obtain⟨σ',I,l1,c,u,J,L,rfl,rfl,h3,B,C⟩:=FE (i:=6) (l:=aN (2 ^ n)) (inj:=λ(i:Nat)=>D.int (i:Int)) (O:=O.set m [.int q,.bl b]++[[]]) (σ:=[A,p_ n,B4 o,p_ i,p_ z,sT O.length,J9,J9]) (O0:=O.set m [.int q,.bl b]++[[]]) (it:=uE (b_ (i_ (fI v7) rV qc) g_)) (body:=(qd (qH 7 (qh AR (b_ (i_ Az (n_ 2 xj (b_ j_ (b_ (dC (.int 8)) g_))) rK) g_))) (qd (rW (qI (i_ Az (n_ 2 xj (b_ j_ (b_ (dC (.int 5)) g_))) tj)) (qH 7 (dC .non)) rY) (t7 (z_ yg (b_ (rM 7) g_))))))
  (A3 (qp (Zo G rfl)) 'd') (λj σ I=>∃c g J L,σ=[A,p_ n,B4 o,p_ i,p_ z,sT O.length,J,L]/\I=O.set m [.int g,.bl b]++[c]/\o9 (O.set m [.int g,.bl b]) m g b/\c.length=j/\∀d∈c,x_ d) (λj a σ I ha hI=>by
   obtain⟨c,g,J,L,rfl,rfl,hs,B,C⟩:=hI;have hj:j<2 ^ n:=by have:=(ao.mp ha).1;simpa using this
   obtain⟨E,P,_,Q,g1⟩:=MM hs [c] (k:=8) 'u' 'u';obtain⟨q2,p,_,S,U⟩:=MM g1 [c] (k:=5) 'u' 'u';have Y:x_ (.int (if (decide ((E:Int)<i))=Ka then 1 else 0)):=by
    by_cases h:(E:Int)<i
    ·exact .inr (.inl (by simp[h]))
    ·exact .inl (by simp[h])
   have y:∀v,x_ v->t7 (z_ yg (b_ (rM 7) g_)) [A,p_ n,B4 o,p_ i,p_ z,sT O.length,p_ a,JU v] (O.set m [.int p,.bl b]++[c])=.nx [A,p_ n,B4 o,p_ i,p_ z,sT O.length,p_ a,JU v] (O.set m [.int p,.bl b]++[c++[v]]):=λv _=>by
    rw[Mp (ds:=c) (t:=rM 7) rfl rfl (by rw[<- e p];exact xR) 'd'];congr 1;rw[<- e p];exact Ez
   have Z:∀v,x_ v->(c++[v]).length=j+1/\∀d∈c++[v],x_ d:=λv hv=>⟨by simp[B],λd hd=>by
    rcases aO.mp hd with hd|hd
    ·exact C d hd
    ·have:d=v:=⇑hd
     rw[this];exact hv⟩
   by_cases hq:(q2:Int)<z
   ·refine⟨_,_,sZ (x:=.int (if (decide ((E:Int)<i))=Ka then 1 else 0)) (O1:=O.set m [.int P,.bl b]++[c]) (sP (qp (qu (qz (qX rfl rfl) Q) rfl (Iy _ _ _))) (L8 _ _)) (zw (σ':=[A,p_ n,B4 o,p_ i,p_ z,sT O.length,p_ a,JU .non]) (O1:=O.set m [.int p,.bl b]++[c]) ?_ (y .non (.inr (.inr rfl)))),c++[.non],p,_,_,rfl,rfl,U,Z _ (.inr (.inr rfl))⟩;rw[BJ (b:=Ka) (uf ((qu (qz (qX rfl rfl) S) rfl (Iy _ _ _)).trans (by rw[decide_eq_true hq])))];rfl
   ·refine⟨_,_,sZ (x:=.int (if (decide ((E:Int)<i))=Ka then 1 else 0)) (O1:=O.set m [.int P,.bl b]++[c]) (sP (qp (qu (qz (qX rfl rfl) Q) rfl (Iy _ _ _))) (L8 _ _)) (uY (O1:=O.set m [.int p,.bl b]++[c]) (uf ((qu (qz (qX rfl rfl) S) rfl (Iy _ _ _)).trans (by rw[decide_eq_false hq]))) (y _ Y)),_,p,_,_,rfl,rfl,U,Z _ Y⟩) ⟨[],q,_,_,rfl,rfl,N,rfl,by simp⟩
 rw[bS] at B;refine⟨c,u,⟨n1,G,B,C⟩,?_,h3⟩;show xf O.length (fin (JE [sT m,p_ n,B4 o,J9,J9,J9,J9,J9] O))=_;have hB:JE [sT m,p_ n,B4 o,J9,J9,J9,J9,J9] O=.rt (.tup c) (O.set m [.int u,.bl b]++[c]):=by
  unfold JE;refine sZ (x:=.int i) (O1:=O.set m [.int H,.bl b]) (qu (x:=.lst [.int 2,.int 4,.int 6]) rfl (qz (qX rfl rfl) r2) hi) (sZ hz (sZ (x:=.own O.length) (O1:=O.set m [.int q,.bl b]++[[]]) ?_ (zw l1 (tQ (sP (qp rfl) ?_)))))
  ·show R.ok (D.own (O.set m [D.int q,D.bl b]).length) _=_;rw[e]
  ·show(match (O.set m [.int u,.bl b]++[c])[O.length]? with|some ds=>R.ok (D.tup ds) _|none=>_)=_;rw[<- e u,xR]
 rw[t8 hB];exact YN (hO.set m u b) d9 [c] C
theorem SN:∀(a:List D){P:List D->Prop},(∀v∈a,∃f,v=D.tup f/\P f)->∃b:List (List D),a=b.map D.tup/\∀f∈b,P f
 |[],_,_=>⟨[],rfl,by simp⟩
 | v::a,P,h=>by
  obtain⟨f,rfl,c⟩:=h v al;obtain⟨b,rfl,d⟩:=SN a (P:=P) λw g=>h w (ag _ g);exact⟨f::b,rfl,λx i=>(am.mp i).elim (λe=>by rw[e];exact c) (d x)⟩
def Xm(O:Ow){r:Nat}(h:r<4):∃n:Nat,1<=n/\n<=3/\qJ O (.lst [.int 3,.int 2,.int 3,.int 1]) (.int r)=.ok (.int n) O:=by
 have:r=0\/r=1\/r=2\/r=3:=by lia
 rcases this with rfl|rfl|rfl|rfl
 ·exact⟨3,by decide,by decide,rfl⟩
 ·exact⟨2,by decide,by decide,rfl⟩
 ·exact⟨3,by decide,by decide,rfl⟩
 ·exact⟨1,by decide,by decide,rfl⟩
def z4I{O:Ow}(H:Pl O){m:Nat}{s:Int}{b:Bool}(h:o9 O m s b):
  ∃n g t,uR n g/\Nt [.own m] O=.ok (.tup (g.map .tup)) (O.set m [.int t,.bl b])/\o9 (O.set m [.int t,.bl b]) m t b:=by
 have c:∀t,(O.set m [D.int t,D.bl b]).length=O.length:=λt=>d9;obtain⟨r,E,r1,r2,h1⟩:=FU h (k:=4) 'u' 'u';obtain⟨n,G,I,hn⟩:=Xm (O.set m [.int E,.bl b]) r1;obtain⟨w,s2,w1,J,L⟩:=FU h1 (k:=2) 'u' 'u';rw[fR] at J L;have hr:uE (b_ (i_ rZ BH (n_ 2 xj (b_ j_ (b_ BH g_)))) g_) [sT m,p_ n,J9] (O.set m [.int E,.bl b])=.ok (.val ((aN (2+w)).map λ(i:Nat)=>D.int (i:Int))) (O.set m [.int s2,.bl b]):=
  A3 (qp ((qu rfl (qz (qX rfl rfl) J) FX).trans (by congr 2))) 'd'
 obtain⟨vs,C,M,N,c3,c4⟩:=zi5 (o:=Ka) (ext:=1) (i:=3) (te:=n_ 3 JG (b_ j_ (b_ qc (b_ Cv g_)))) (P:=λv=>∃f,v=D.tup f/\Fn n f) L hr (by simp;lia) (λd Q t S=>by
  rw[fR] at S;obtain⟨f,vw,hf,U,Y⟩:=z8I (H.set m t b) S G 'd' Ka;rw[fR] at U Y;refine⟨.tup f,vw,?_,?_,f,rfl,hf⟩
  ·rw[fR,fR];exact qz (FV rfl (qX rfl rfl)) U
  ·rw[fR];exact Y)
 rw[fR] at M N;obtain⟨g,rfl,Bo⟩:=SN vs c4;have hl:g.length=2+w:=⇑c3
 have u:uR n g:=⟨G,I,by lia,by lia,Bo⟩;obtain⟨q,e,q1,q2,h4⟩:=MM N [g.map D.tup] (k:=4) 'u' 'u';obtain⟨l,Z,e4⟩:∃l,uR n l/\rW (qI (i_ (qf rB) (n_ 2 xj (b_ j_ HJ)) rQ)) (Cs (i_ qJ qt rQ) qt rV) rY [sT m,p_ n,sT O.length] (O.set m [.int C,.bl b]++[g.map D.tup])=.nx [sT m,p_ n,sT O.length] (O.set m [.int e,.bl b]++[l.map D.tup]):=by
  have ht:qI (i_ (qf rB) (n_ 2 xj (b_ j_ HJ)) rQ) [sT m,p_ n,sT O.length] (O.set m [.int C,.bl b]++[g.map D.tup])=.ok ((q:Int)==0) (O.set m [.int e,.bl b]++[g.map D.tup]):=uf (qu (qz (qX rfl rfl) q2) rfl rfl);rw[BJ ht];by_cases hq:((q:Int)==0)=Ka
  ·rw[Kd hq];obtain⟨p,fr,rfl⟩:=SK u;obtain⟨A,B,rfl⟩:∃A r,fr=A::r:=by
    cases fr with
    |nil=>have:=u.l2;simp at this
    |cons a r=>exact⟨a,r,rfl⟩
   refine⟨p::p::B,⟨G,I,by simp,by have:=u.l3;simpa using this,λf hf=>?_⟩,?_⟩
   ·rcases am.mp hf with rfl|hf
    ·exact u.fn _ al
    ·rcases am.mp hf with rfl|hf
     ·exact u.fn _ al
     ·exact u.fn _ (ag _ (ag _ hf))
   ·have hk:(O.set m [.int e,.bl b]++[(p::A::B).map D.tup])[O.length]?=JU ((p::A::B).map D.tup):=by rw[<- c e];exact xR
    rw[Ma (y:=.tup p) (k:=O.length) (i:=1) (j:=1) (O1:=O.set m [.int e,.bl b]++[(p::A::B).map D.tup]) (qu rfl rfl (by
     show(match (O.set m [.int e,.bl b]++[(p::A::B).map D.tup])[O.length]? with|some ds=>(match L2.atI ds 0 with|some d=>R.ok d _|none=>R.bad)|none=>_)=_;rw[hk];dsimp only;rw[show L2.atI (ju D.tup (p::A::B)) 0=JU (D.tup p) from L2.atI_nat (j:=0) rfl])) rfl rfl hk (by
      unfold L2.ixN;rw[Kd 'd',Kd (by simp;lia)];rfl)]
    congr 1;rw[<- c e];exact Ez
  ·rw[Kf hq];exact⟨g,u,rfl⟩
 refine⟨n,l,e,Z,?_,h4⟩;show xf O.length (fin (JH [sT m,J9,J9] O))=_;have hB:JH [sT m,J9,J9] O=.rt (.tup (l.map .tup)) (O.set m [.int e,.bl b]++[l.map .tup]):=by
  unfold JH;refine sZ (x:=.int n) (O1:=O.set m [.int E,.bl b]) (qu (x:=.lst [.int 3,.int 2,.int 3,.int 1]) rfl (qz (qX rfl rfl) r2) hn) (sZ (x:=.own O.length) (O1:=O.set m [.int C,.bl b]++[g.map D.tup]) (M.trans ?_) (zw e4 (tQ (sP (qp rfl) ?_))))
  ·show R.ok (D.own (O.set m [D.int C,D.bl b]).length) _=_;rw[c]
  ·show(match (O.set m [.int e,.bl b]++[l.map D.tup])[O.length]? with|some ds=>R.ok (D.tup ds) _|none=>_)=_;rw[<- c e,xR]
 rw[t8 hB];have:=Ak (H.set m e b) [l.map D.tup] (d:=.tup (l.map .tup)) (d':=.tup (l.map .tup)) (by
  show(qo (frz _ _ 7) (l.map D.tup)).map D.tup=_;rw[yq λd Q=>by
   obtain⟨f,hf,rfl⟩:=ay.mp Q;exact BP (R0 (Z.fn f hf).ans)];rfl)
 rw[c] at this;exact this
def zgq(O:Ow){n:Nat}(a:1<=n)(b:n<=4){l:l_}(h:∀c∈l,c∈J6 n):qf rB O (.lst (l.map D.str)) (.lst [])=.ok (.bl l.isEmpty) O:=(Uj O λt d=>uZ a b (h t d)).1
def zgX(O:Ow){n:Nat}(a:1<=n)(b:n<=4){l:l_}(h:∀c∈l,c∈J6 n):qf sD O (.lst (l.map D.str)) (.lst [])=.ok (.bl (!l.isEmpty)) O:=(Uj O λt d=>uZ a b (h t d)).2
def eq1(O:Ow){d:D}(h:x_ d):qf rB O d (.int 1)=.ok (.bl (Ar d)) O:=Wc O h
def z86{α:Type}(l:List α):(l.filter λ_=>Ka)=l:=ji.mpr λ_ _=>rfl
theorem Tz{α:Type}{l:List α}{inj:α->D}{i:Nat}{body:DS}{τ:Option D->Sg}{O:Ow}{q:α->Bool}{d:D}(g:∀y x,(τ y).set i x=τ x)(h:∀a∈l,body (τ (JU (inj a))) O=if q a=Ka then .nx (τ (JU (inj a))) O else .rt d O):
  ∀(f k:Nat)(y:Option D),k<=l.length->l.length<=k+f->∃b,sj (.val (l.map inj)) (λd σ O=>match Tg.put (.one i) d σ with|some σ'=>body σ' O|none=>.bad) f k (τ y) O=if (l.drop k).all q=Ka then .nx (τ b) O else .rt d O
 | 0,k,y,h1,h2=>by
  have:k=l.length:=by lia
  subst this;refine⟨y,?_⟩;have e:(Src.val (l.map inj)).get O l.length=J9:=by simp[Src.get]
  unfold sj;rw[e];simp
 | f+1,k,y,h1,h2=>by
  by_cases j:k=l.length
  ·subst j;refine⟨y,?_⟩;have e:(Src.val (l.map inj)).get O l.length=J9:=by simp[Src.get]
   unfold sj;rw[e];simp
  ·have c:k<l.length:=by lia
   have e:(Src.val (l.map inj)).get O k=JU (inj l[k]):=by
    show(l.map inj)[k]?=_;rw[aZ,au c];rfl
   obtain⟨b,m⟩:=Tz g h f (k+1) (JU (inj l[k])) 'd' 'd';refine⟨b,?_⟩;unfold sj;rw[e];dsimp only;have n:Tg.put (.one i) (inj l[k]) (τ y)=JU (τ (JU (inj l[k]))):=congrArg JU (g y _);rw[n];dsimp only;rw[h _ (bT c),dH c,iM];cases o:q l[k] with
   |true=>rw[Kd rfl,hU];exact m
   |false=>simp
def zhm{α:Type}{l:List α}{inj:α->D}{i:Nat}{it:DI}{body:DS}{τ:Option D->Sg}{O:Ow}{q:α->Bool}{d:D}{y:Option D}(c:it (τ y) O=.ok (.val (l.map inj)) O)(e:∀y x,(τ y).set i x=τ x)(f:∀a∈l,body (τ (JU (inj a))) O=if q a=Ka then .nx (τ (JU (inj a))) O else .rt d O):
  ∃b,uC it (.one i) body (τ y) O=if l.all q=Ka then .nx (τ b) O else .rt d O:=by obtain⟨b,h⟩:=Tz e f (l.map inj).length 0 y (bO _) 'k';exact⟨b,(LD c).trans h⟩
theorem ML{α:Type}{src:Src}{step:D->Ow->List D->R (List D)}{O:Ow}{inj:α->D}{g:α->List D}{l:List α}{J7:List D}(b:∀i,src.get O i=(l.map inj)[i]?)(c:∀(i:Nat)a,l[i]?=JU a->step (inj a) O (J7++(l.take i).flatMap g)=.ok (J7++(l.take (i+1)).flatMap g) O):
  ∀(f i:Nat),i<=l.length->l.length<=i+f->qU src step f i O (J7++(l.take i).flatMap g)=.ok (J7++l.flatMap g) O
 | 0,i,h1,h2=>by
  have:i=l.length:=by lia
  subst this;have e:src.get O l.length=J9:=by rw[b];simp
  unfold qU;rw[e,e9]
 | f+1,i,h1,h2=>by
  by_cases h:i=l.length
  ·subst h;have e:src.get O l.length=J9:=by rw[b];simp
   unfold qU;rw[e,e9]
  ·have d:i<l.length:=by lia
   have e:src.get O i=JU (inj l[i]):=by rw[b,aZ,au d];rfl
   unfold qU;rw[e];show((step (inj l[i]) O (J7++(l.take i).flatMap g)).bnd _)=_;rw[c i l[i] (au d)];exact ML b c f (i+1) 'd' 'd'
def Jk{α β:Type}{g:α->List β}{l:List α}{i:Nat}{a:α}(h:l[i]?=JU a):(l.take (i+1)).flatMap g=(l.take i).flatMap g++g a:=by rw[fh,h,jl];simp
def z78{α β:Type}{g:α->List β}(l:List α)(i:Nat):((l.take i).flatMap g).length<=(l.flatMap g).length:=by
 conv=>rhs;rw[<- cm i l]
 rw[jl,aC];lia
theorem Jg{α β:Type}{f g:α->List β}:∀{l:List α},(∀a∈l,f a=g a)->l.flatMap f=l.flatMap g
 |[],_=>rfl
 |x::l,h=>by rw[dI,dI,h x al,Jg λa b=>h a (ag _ b)]
theorem Ew{α β:Type}{g:α->List β}{k:Nat}:∀l:List α,(∀a∈l,(g a).length<=k)->(l.flatMap g).length<=l.length*k
 |[],_=>by simp
 | x::l,h=>by
  rw[dI,aC,aV,Nat.succ_mul];have:=h x al;have:=Ew l λa b=>h a (ag _ b);lia
def pr(q:Nat×Nat):D:=.tup [.int (q.1:Nat),.int (q.2:Nat)]
def QO(q:Nat×Nat):pl 7 (pr q)=Ka:=rfl
def Rj(l:List (Nat×Nat)):(l.map pr).all (pl 7)=Ka:=aD.mpr λd a=>by
 obtain⟨q,_,rfl⟩:=ay.mp a;rfl
def RB{a b:Nat×Nat}(h:pr a=pr b):a=b:=by unfold pr at h;injection h with h;injection h with h1 h2;injection h2 with h2 _;injection h1 with h1;injection h2 with h2;exact j6 'd' 'd'
def zaO{n:Nat}{f:List D}(a:Fn n f)(O:Ow):JL [.tup f,.int 1] O=.ok (.lst (((aN (2 ^ n)).filter λp=>Ar (f.getD p .non)).map λ(p:Nat)=>D.int (p:Int))) O:=by
 have h:=EC a.n4;have b:CT (b_ j_ g_) [rm f,p_ 1] O=.ok (.val (xv f)) O:=rfl;have j:=Ey (o:=Kb) (ext:=2) (g:=.two 2 3) (ts:=[(qI (i_ (qf rB) rK qc))]) (te:=rM 2) (l:=aN (2 ^ n)) (inj:=λ(p:Nat)=>D.tup [.int (p:Int),f.getD p .non]) (p:=λp=>Ar (f.getD p .non)) (e:=λ(p:Nat)=>D.int (p:Int))
  (τ:=λ(p:Nat)=>[rm f,p_ 1,p_ (p:Int),JU (f.getD p .non)]) b (λi=>by
   rw[z6c];show(xv f)[i]?=_;rw[MU];by_cases b:i<2 ^ n
   ·have d:i<f.length:=by rw[a.len];exact b
    rw[Kd b,au d];show JU (D.tup [.int (i:Nat),f[i]])=_;rw[CW d]
   ·rw[Kf b,aP.mpr (by rw[a.len];lia)];rfl) (by
   show(xv f).length=_;unfold xv;simp[a.len]) (by rw[bS];lia) (λk _=>rfl) (λp c=>Jb (by
   have c:=ba.mp c;have m:x_ (f.getD p .non):=by
    rw[CW (by rw[a.len];exact c)];exact a.ans _ (bT _)
   exact uf ((A1 rfl rfl).trans (eq1 O m)))) (λp _ _=>rfl)
 show fin (qm _ [rm f,p_ 1] O)=_;rw[tQ (j.trans rfl)];rfl
def z7O{n:Nat}{f:List D}(a:Fn n f)(O:Ow):JL [.tup f,.int 1] O=.ok (.lst (uU (xb f))) O:=by rw[zaO a O];unfold xb uU;rw[a.len]
def YT{α β:Type}{ext:Nat}{it0 c:DI}{g:Tg}{j:Nat}{ts:List DT}{te:DE}{σ:Sg}{O O0:Ow}{src:Src}{l:List α}{inj:α->D}{m:α->List β}{inj2:β->D}{p:α->β->Bool}{e:α->β->D}{τ:α->Sg}{τ2:α->β->Sg}{o:Bool}
  (A:it0 σ O0=.ok src O) (B:∀i,src.get O i=(l.map inj)[i]?) (C:src.size O=l.length) (t:(l.flatMap m).length<50000)
  (E:∀a∈l,g.put (inj a) (qD (qD (σ++aR ext J9) (g.slots++[j])) (g.slots++[j]))=JU (τ a)) (G:∀a b,(qD (τ a) [j]).set j (JU (inj2 b))=τ2 a b)
  (H:∀a∈l,c (τ a) O=.ok (.val ((m a).map inj2)) O) (I:∀a∈l,∀b∈m a,uD ts (τ2 a b) O=.ok (p a b) O) (J:∀a∈l,∀b∈m a,te (τ2 a b) O=.ok (e a b) O):
  qA o ext it0 g [] [⟨c,.one j,ts⟩] te σ O0=w_ o (.ok (l.flatMap λa=>((m a).filter (p a)).map (e a)) O):=by
 unfold qA BS;rw[A];show w_ o (zE (qU src _ (src.size O) 0 O []))=_;have L:∀(a:α)(k:List β),(k.flatMap λb=>if p a b=Ka then [e a b] else []).length<=k.length:=λa k=>by
  rw[Ga,ar];exact bu _ _
 have M:∀k:List α,(k.flatMap λa=>((m a).filter (p a)).map (e a)).length<=(k.flatMap m).length:=λk=>by
  induction k with
  |nil=>simp
  | cons x k ih=>
   rw[dI,dI,aC,aC,ar];have:=bu (p x) (m x);lia
 have w:=ML (O:=O) (src:=src) (step:=AS ⟨it0,g,[]⟩ [⟨c,.one j,ts⟩] te (qD (σ++aR ext J9) (qM [⟨it0,g,[]⟩,⟨c,.one j,ts⟩]))) (g:=λa=>((m a).filter (p a)).map (e a)) (J7:=[]) B (λk a r=>by
  have h:=aJ r;show(match g.put (inj a) (qD (qD (σ++aR ext J9) (g.slots++[j])) (g.slots++[j])) with|some qW=>(uD [] qW O).bnd λb f=>if b=Ka then uM [⟨c,.one j,ts⟩] te qW f _ else .ok _ f|none=>.bad)=_;rw[E a h];show uM [⟨c,.one j,ts⟩] te (τ a) O _=_;unfold uM;show((c (τ a) O).bnd _)=_;rw[H a h];show qU (.val ((m a).map inj2)) _ ((m a).map inj2).length 0 O _=_;have s:=z78 (g:=m) l (k+1);rw[Jk r,aC] at s;have Q:=M (l.take k);rw[Jk r];have u:=ML (O:=O) (src:=.val ((m a).map inj2)) (step:=λd N J7=>match Tg.put (.one j) d (qD (τ a) (qM [⟨c,.one j,ts⟩])) with|some qW=>(uD ts qW N).bnd λb f=>if b=Ka then uM [] te qW f J7 else .ok J7 f|none=>.bad) (g:=λb=>if p a b=Ka then [e a b] else []) (l:=m a) (inj:=inj2) (J7:=[]++(l.take k).flatMap λa=>((m a).filter (p a)).map (e a)) (λ_=>rfl) (λq b v=>by
   have y:=aJ v;show((uD ts ((qD (τ a) [j]).set j (JU (inj2 b))) O).bnd λP f=>if P=Ka then uM [] te ((qD (τ a) [j]).set j (JU (inj2 b))) f _ else .ok _ f)=_;rw[G,I a h b y,Jk v];show(if p a b=Ka then uM [] te (τ2 a b) O _ else .ok _ O)=_;have S:=L a ((m a).take q);have U:=List.length_take_le' q (m a);by_cases n:p a b=Ka
   ·rw[Kd n,Kd n];unfold uM;rw[J a h b y];show(if _<4000000 then _ else _)=_;rw[Kd (by rw[fq,aC];lia)];simp
   ·rw[Kf n,Kf n,bX]) ((m a).map inj2).length 0 (bO _) 'k'
  rw[oi,nE,bX,Ga] at u;refine Eq.trans (show _=_ from u) ?_;rw[fq];rfl) l.length 0 (bO _) 'k'
 rw[oi,nE,bX,fq] at w;rw[C,w];rfl
def RF{α β:Type}{ext:Nat}{it0 d:DI}{g:Tg}{j:Nat}{te:DE}{σ:Sg}{O O0:Ow}{src:Src}{l:List α}{inj:α->D}{m:α->List β}{inj2:β->D}{e:α->β->D}{τ:α->Sg}{τ2:α->β->Sg}{o:Bool}
  (f:it0 σ O0=.ok src O) (h:∀i,src.get O i=(l.map inj)[i]?) (n:src.size O=l.length) (c:(l.flatMap m).length<50000)
  (q:∀a∈l,g.put (inj a) (qD (qD (σ++aR ext J9) (g.slots++[j])) (g.slots++[j]))=JU (τ a)) (r:∀a b,(qD (τ a) [j]).set j (JU (inj2 b))=τ2 a b)
  (s:∀a∈l,d (τ a) O=.ok (.val ((m a).map inj2)) O) (t:∀a∈l,∀b∈m a,te (τ2 a b) O=.ok (e a b) O):
  qA o ext it0 g [] [⟨d,.one j,[]⟩] te σ O0=w_ o (.ok (l.flatMap λa=>(m a).map (e a)) O):=by rw[YT (ts:=[]) (p:=λ_ _=>Ka) f h n c q r s (λ_ _ _ _=>rfl) t];congr 2;exact Jg λa _=>by rw[z86]
def qv(fs:List (List D)):List (Nat×Nat):=(aN fs.length).flatMap λk=>(xb (fs.getD k [])).map λp=>(k,p)
def sN(fs:List (List D))(t:k_):List (Nat×Nat):=(rN fs t).flatMap λk=>(su t).map λp=>(k,p)
section
variable{n:Nat}{fs:List (List D)}(hf:uR n fs)
include hf
theorem yT{k:Nat}(a:k<fs.length):Fn n (fs.getD k []):=by rw[Er a];exact hf.fn _ (bT a)
theorem Iv{k:Nat}(a:k<fs.length):(fs.map D.tup).getD k .non=.tup (fs.getD k []):=by rw[CW ⇑a,fe,Er a]
theorem K2{k:Nat}(a:k<fs.length)(O:Ow):qJ O (.tup (fs.map .tup)) (.int (k:Int))=.ok (.tup (fs.getD k [])) O:=by rw[CV (i:=k) ⇑a,fe,Er a]
theorem SQ:(qv fs).length<=48:=by
 have a:=Ew (g:=λk=>(xb (fs.getD k [])).map λp=>(k,p)) (k:=16) (aN fs.length) λk b=>by rw[ar];exact Ja (yT hf (ba.mp b))
 have c:=hf.l3;rw[bS] at a;unfold qv;lia
theorem LU{q:Nat×Nat}:q∈qv fs↔q.1<fs.length/\q.2∈xb (fs.getD q.1 []):=by
 unfold qv;rw[gZ];constructor
 ·rintro⟨k,a,h⟩;obtain⟨p,b,rfl⟩:=ay.mp h;exact⟨ba.mp a,b⟩
 ·rintro⟨c,d⟩;exact⟨q.1,ba.mpr c,ay.mpr ⟨q.2,d,rfl⟩⟩
omit hf in
theorem pf{t:k_}{q:Nat×Nat}:q∈sN fs t↔q.1∈rN fs t/\q.2∈su t:=by
 unfold sN;rw[gZ];constructor
 ·rintro⟨k,a,h⟩;obtain⟨p,b,rfl⟩:=ay.mp h;exact⟨a,b⟩
 ·rintro⟨c,d⟩;exact⟨q.1,c,ay.mpr ⟨q.2,d,rfl⟩⟩
theorem zbD(O:Ow):M4 [.tup (fs.map .tup)] O=.ok (.lst ((qv fs).map pr)) O:=by
 have c:=hf.l3;let A:Option D:=rm (fs.map .tup);show fin (Jq [A] O)=_;unfold Jq;refine yp ((RF (g:=.two 1 2) (o:=Kb) (O:=O) (src:=.val (xv (fs.map .tup))) (l:=aN fs.length) (inj:=λk=>D.tup [.int (k:Nat),(fs.map D.tup).getD k .non]) (m:=λk=>xb (fs.getD k [])) (inj2:=λ(p:Nat)=>D.int (p:Int)) (e:=λk p=>pr (k,p)) (τ:=λ(k:Nat)=>[A,p_ (k:Int),JU ((fs.map D.tup).getD k .non),J9]) (τ2:=λ(k p:Nat)=>[A,p_ (k:Int),JU ((fs.map D.tup).getD k .non),p_ (p:Int)]) (by rfl) (λi=>by rw[Et,ar];rfl) (by rw[Et];simp[Src.size]) ?_ (λ_ _=>rfl) (λ_ _=>rfl) (λk a=>?_) (λ_ _ _ _=>Iu (qX rfl rfl) (by show 2<=4000000;decide))).trans ?_)
 ·have:=SQ hf;unfold qv at this;have b:=Ew (g:=λk=>xb (fs.getD k [])) (k:=16) (aN fs.length) λk a=>Ja (yT hf (ba.mp a));rw[bS] at b;lia
 ·have a:=ba.mp a;refine u4 (qz (qX rfl rfl) ?_);rw[Iv hf a];exact z7O (yT hf a) O
 ·show R.ok (D.lst _) O=_;congr 2;unfold qv;rw[nF];exact Jg λk _=>by rw[bw];rfl
theorem zhM{t:k_}(a:t∈J6 n)(O:Ow):MQ [.tup (fs.map .tup),.str t] O=.ok (.lst ((sN fs t).map pr)) O:=by
 let A:Option D:=rm (fs.map .tup);show fin (Jo [A,rn t] O)=_;unfold Jo;refine yp ((RF (g:=.one 2) (o:=Kb) (O:=O) (src:=.val (uU (rN fs t))) (l:=rN fs t) (inj:=λ(k:Nat)=>D.int (k:Int)) (m:=λ_=>su t) (inj2:=λ(p:Nat)=>D.int (p:Int)) (e:=λk p=>pr (k,p)) (τ:=λ(k:Nat)=>[A,rn t,p_ (k:Int),J9]) (τ2:=λ(k p:Nat)=>[A,rn t,p_ (k:Int),p_ (p:Int)]) (u4 (qz (qX rfl rfl) (M7 hf a O))) (λ_=>rfl) (by show(uU (rN fs t)).length=_;unfold uU;rw[ar]) ?_ (λ_ _=>rfl) (λ_ _=>rfl) (λk b=>u4 (qz (qp rfl) (Vl (uZ hf.n1 hf.n4 a) O))) (λ_ _ _ _=>Iu (qX rfl rfl) (by show 2<=4000000;decide))).trans ?_)
 ·have c:=Ew (g:=λ_=>su t) (k:=16) (rN fs t) λk _=>SS (uZ hf.n1 hf.n4 a);have:=z8K hf t;lia
 ·show R.ok (D.lst _) O=_;congr 2;unfold sN;rw[nF];exact Jg λk _=>by rw[bw];rfl
theorem Ni{O:Ow}(o:Pl O):B0 [.tup (fs.map .tup)] O=.ok (.lst ((qv fs).map pr)) O:=by
 have w:=hf.l3;let A:Option D:=rm (fs.map .tup);let G:Nat->List (Nat×Nat):=λk=>(xb (fs.getD k [])).map λp=>(k,p);show xf O.length (fin (JK [A,J9,J9] O))=_;obtain⟨r,b,h,c,rfl,rfl⟩:=FE (i:=2) (it:=uE (b_ (qh rL (b_ j_ g_)) g_)) (body:=(t7 (zo qc (b_ (qA Kb 1 (qG (n_ 1 Jv (b_ (i_ qJ j_ qt) g_))) (.one 3) [] [] (vZ (b_ qt tN))) g_)))) (σ:=[A,sT O.length,J9]) (O0:=O++[[]]) (O:=O++[[]]) (l:=aN fs.length) (inj:=λ(k:Nat)=>D.int (k:Int)) (A3 (qp (sP (qp rfl) ((CY _ _).trans (by rw[ar])))) 'd')
  (λj σ b=>∃c,σ=[A,sT O.length,c]/\b=O++[(((aN fs.length).take j).flatMap G).map pr]) (λj k σ b m s=>by
   obtain⟨c,rfl,rfl⟩:=s;obtain⟨rfl,f⟩:=zcc m;have B:=Ew (g:=G) (k:=16) ((aN fs.length).take k) λa t=>by
    show(ju _ _).length<=_;rw[ar];exact Ja (yT hf (ba.mp (cH t)))
   have C:=lX k (aN fs.length);have E:=Ja (yT hf f);refine⟨[A,sT O.length,p_ (k:Int)],_,TQ (y:=.lst ((G k).map pr)) (es:=(G k).map pr) (ds:=(((aN fs.length).take k).flatMap G).map pr) rfl ((yi (l:=xb (fs.getD k [])) (inj:=λ(p:Nat)=>D.int (p:Int)) (e:=λp=>pr (k,p)) (τ:=λ(p:Nat)=>[A,sT O.length,p_ (k:Int),p_ (p:Int)]) (u4 (qz (qp (qu rfl rfl (K2 hf f _))) (zi6 (yT hf f) _))) 'd' (λ_=>rfl) (λp _=>Iu (qX rfl rfl) (by show 2<=4000000;decide))).trans ?_) rfl xR ?_,_,rfl,?_⟩
   ·show R.ok (D.lst _) _=_;congr 2;rw[bw];rfl
   ·rw[ar,ar];show _+(ju _ _).length<=_;rw[ar];have:k<3:=by lia
    lia
   ·rw[Ez,Jk m,cK]) ⟨J9,rfl,by simp⟩
 rw[e9] at h;have u:JK [A,J9,J9] O=.rt (.own O.length) (O++[(qv fs).map pr]):=by
  unfold JK;exact sZ (x:=.own O.length) (O1:=O++[[]]) rfl (zw h (tQ rfl))
 rw[t8 u];refine Ak o _ ?_;unfold frz;dsimp only;rw[Kf (bM _),xR];dsimp only;rw[yq λd v=>?_]
 ·rfl
 ·obtain⟨q,_,rfl⟩:=ay.mp v;exact BP rfl
end
def JY(fs:List (List D))(l:l_):Bool:=(l.all λt=>!(rN fs t).isEmpty)&&(qv fs).all λq=>l.any λt=>(sN fs t).contains q
def X2(O:Ow)(q:Nat×Nat)(s:List (Nat×Nat)):Cj O (pr q) (.lst (s.map pr))=.ok (.bl (s.contains q)) O:=
 (QJ O (l:=s.map pr) (b:=s.contains q) (QO q) (Rj s) (.inl rfl) (by
  rw[bb,ay];constructor
  ·intro h;exact⟨q,h,rfl⟩
  ·rintro⟨r,h,e⟩;rw[<- RB e];exact h)).1
section
variable{n:Nat}{fs:List (List D)}(hf:uR n fs){l:l_}(ht:∀t∈l,t∈J6 n)(hlen:l.length<64)(O:Ow)
include hf
theorem zez:Nu [.tup (fs.map .tup)] O=.ok .non O:=by show fin (JF [rm (fs.map .tup)] O)=_;unfold JF;rw[BJ (b:=Kb) (O1:=O) (yr (b:=Ka) (xw (qz (qp rfl) (z7X hf O))))];rfl
include ht hlen
theorem za6(C:Pl O)(E:Gb [.int (n:Nat),.tup (l.map .str)] O=.ok (.bl Ka) O):JM [.tup (fs.map .tup),.tup (l.map .str)] O=.ok (.bl (JY fs l)) O:=by
 have j:=hf.n1;have m:=hf.n4;obtain⟨f,G,H⟩:=I8 hf O;let A:Option D:=rm (fs.map .tup);let T:Option D:=rm (l.map .str);show fin (Ny [A,T,J9] O)=_;unfold Ny JY;have I:∀q∈qv fs,∀t∈l,B1 [.tup (fs.map .tup),.str t,pr q] O=.ok (.bl ((sN fs t).contains q)) O:=λq s t h=>by
  obtain⟨o,J⟩:=(LU hf).mp s;show fin (EF [A,rn t,JU (pr q)] O)=_;unfold EF;refine yp ((IY (a:=Ag (fs.getD q.1 []) t) (b:=(su t).contains q.2) (qz (qX (qu rfl (qu (x:=pr q) rfl rfl rfl) (K2 hf o O)) rfl) (M6 (yT hf o) (ht t h) O)) λ_=>qz (qX rfl (qu (x:=pr q) rfl rfl rfl)) (M9 (uZ j m (ht t h)) (by rw[zy j m (ht t h),<- (yT hf o).len];exact(pK.mp J).1) O)).trans ?_);congr 2;rw[ee,aT,bb,bb,pf];unfold rN;rw[bE,ba];exact⟨λ⟨a,b⟩=>⟨⟨o,a⟩,b⟩,λ⟨⟨_,a⟩,b⟩=>⟨a,b⟩⟩
 obtain⟨L,r⟩:=zhm (l:=qv fs) (inj:=pr) (i:=2) (it:=qG (n_ 1 B0 (b_ j_ g_))) (body:=(rW (qI (i_ (qf rB) (qA Kb 1 (qG qc) (.one 3) [(sI (n_ 3 B1 (b_ j_ (b_ rK (b_ qt g_)))))] [] rK) yd)) yc rY)) (τ:=λy=>[A,T,y]) (O:=O) (q:=λq=>l.any λt=>(sN fs t).contains q) (d:=.bl Kb) (y:=J9) (u4 (qz (qp rfl) (Ni hf C))) (λ_ _=>rfl) (λq s=>by
  rw[BJ (b:=(l.filter λt=>(sN fs t).contains q).isEmpty) (O1:=O) (uf ((qu ((zt (l:=l) (inj:=D.str) (p:=λt=>(sN fs t).contains q) (e:=D.str) (τ:=λt=>[A,T,JU (pr q),rn t]) (BR rfl) 'd' (λ_=>rfl) (λt h=>xw (qz (FV rfl (qX rfl rfl)) (I q s t h))) (λ_ _ _=>rfl)).trans rfl) rfl (zgq O j m λc u=>ht c (bE.mp u).1))))];rw[Va,List.all_eq_not_any_not];simp only[Bool.not_not];cases (l.any λt=>(sN fs t).contains q)<;>rfl)
 have v:vo (sI (n_ 2 Gb (b_ (n_ 1 EJ (b_ (i_ qJ j_ rQ) g_)) (b_ qc g_)))) [A,T,J9] O=.ok Kb O:=yr (b:=Ka) (xw (qz (qX (qz (qp (qu rfl rfl H)) (VE G O)) rfl) E));have g:qI (i_ (qf sD) (qA Kb 1 (qG qc) (.one 3) [(qI (i_ (qf rB) (n_ 2 EI (b_ j_ tN)) yd))] [] rK) yd) [A,T,J9] O=.ok (!(l.all λt=>!(rN fs t).isEmpty)) O:=by
  refine uf ((qu ((zt (l:=l) (inj:=D.str) (p:=λt=>(rN fs t).isEmpty) (e:=D.str) (τ:=λt=>[A,T,J9,rn t]) (BR rfl) 'd' (λ_=>rfl) (λt h=>uf (qu (qz (qX rfl rfl) (VA hf (ht t h) O)) rfl (zi3 O _))) (λ_ _ _=>rfl)).trans rfl) rfl (zgX O j m λc u=>ht c (bE.mp u).1)).trans ?_);rw[Va]
 cases w:(l.all λt=>!(rN fs t).isEmpty) with
 | false=>
  rw[w] at g;exact t8 (uY v (BN g rfl))
 | true=>
  rw[w] at g;cases B:((qv fs).all λq=>l.any λt=>(sN fs t).contains q) with
  | true=>
   rw[B,Kd rfl] at r;exact t8 (uY v (uY g (zw r (tQ rfl))))
  | false=>
   rw[B] at r;exact t8 (uY v (uY g (SR r)))
end
section
variable{α:Type}[DecidableEq α]{inj:α->D}(J:Inj inj)
def KQ(inj:α->D)(Pt k m:Nat):Prop:=∀(h:DLC.Held α)(w:List α)(O:Ow),Pl O->(DLC.keys h).Nodup->h.length<=27->DLC.H8 h->w.length<=300->yt Pt k [uk inj h,.lst (w.map inj),.int (m:Nat)] O=.ok (.lst ((DLC.cov m h w).map toT)) O
include J in
theorem SA{Pt k m:Nat}(v:KQ inj Pt k m)(x:m<=7){h:DLC.Held α}{w:List α}(n:(DLC.keys h).Nodup)(i:w.length<=300){O:Ow}(j:Pl O){y:Option D}:
  ∀(ts:l_)(r:DLC.Held α)(J7:List l_)(b c:Option D),(∀t∈ts,t∈DLC.keys r)->ts.Nodup->(∀kv∈r,kv∈h)->(DLC.keys r).Nodup->DLC.H8 r->r.length<=27->J7.length+DLC.T (DLC.NB m) ts.length r.length<=1850000->(∀t∈ts,t∈DLC.keys h)->
   ∃l o,AU 5 6 7 CH (BB Pt (yt Pt k)) (ts.map D.str) ((DLC.keys r).map dR) (r.map λkv=>D.lst (kv.2.map inj)) (stC inj h w ((m+1:Nat):Int) y O.length J9 b c Pt) (O++[J7.map toT])=.nx (stC inj h w ((m+1:Nat):Int) y O.length J9 l o Pt) (O++[(J7++DLC.covL (DLC.cov m) h w ts r).map toT])
 |[],r,J7,b,c,_,_,_,_,_,_,_,_=>⟨b,c,by unfold DLC.covL;rw[bX];rfl⟩
 | t::ts,r,J7,b,c,d,nt,hr,nr,h8,fr,hl,Wu=>by
  have p:∀kv∈DLC.drop r t,kv∈h:=λkv d=>hr kv (DLC.mem_drop.mp d).1;have I:=DLC.cov_NB m (DLC.drop r t) (DLC.left h w t) (DLC.nd_drop nr) (h8.drop t);have A:=DLC.drop_lt (d t al);have L:=DLC.T_step (DLC.NB_mono m) (k:=ts.length) A;rw[aV] at hl;have B:=zi4 J n i (Wu t al) (m:=((m+1:Nat):Int)) (y:=y) (k:=O.length) (Pt:=Pt) (a:=J9) (c:=c) (O++[J7.map toT]);have C:=v (DLC.drop r t) (DLC.left h w t) (O++[J7.map toT]) (j.one (L_ J7)) (DLC.nd_drop nr) (aI (Tp r t) fr) (h8.drop t) (aI (bu _ _) i);have f:J7.length+(DLC.cov m (DLC.drop r t) (DLC.left h w t)).length<=1850000:=by lia
  have E:=ZE (h:=h) (w:=w) (t:=t) (y:=y) (Pt:=Pt) C f λc G=>by have:=(DLC.cov_sound m (DLC.nd_drop nr) G).1;lia
  obtain⟨l,o,H⟩:=SA v x n i j ts (DLC.drop r t) (J7++(DLC.cov m (DLC.drop r t) (DLC.left h w t)).map (t :: ·)) (rn t) (sk ((DLC.left h w t).map inj))
   (λs g=>DLC.keys_drop.mpr ⟨d s (ag _ g),λe=>(bF.mp nt).1 (e▸g)⟩) (bF.mp nt).2 p (DLC.nd_drop nr) (h8.drop t) (aI (Tp r t) fr) (by rw[aC,ar];lia) (λs g=>Wu s (ag _ g))
  refine⟨l,o,?_⟩;rw[bH];unfold AU;dsimp only[yh];rw[Kd (ZA (d t al))];have q:CH ((stC inj h w ((m+1:Nat):Int) y O.length J9 b c Pt).set 6 (rn t)) (O++[J7.map toT])=.ok (.lst ((DLC.left h w t).map inj)) (O++[J7.map toT]):=B;rw[q];dsimp only;rw[zbx,zd1];have u:BB Pt (yt Pt k) ((((stC inj h w ((m+1:Nat):Int) y O.length J9 b c Pt).set 6 (rn t)).set 7 (sk ((DLC.left h w t).map inj))).set 5 (JU (.map ((DLC.keys (DLC.drop r t)).map dR) ((DLC.drop r t).map λkv=>D.lst (kv.2.map inj))))) (O++[J7.map toT])=_:=E;rw[u];dsimp only;rw[Kd (j.one (L_ _)).nms];refine Eq.trans H ?_;show _=RS.nx _ (O++[(J7++((DLC.cov m (DLC.drop r t) (DLC.left h w t)).map (t :: ·)++DLC.covL (DLC.cov m) h w ts (DLC.drop r t))).map toT]);rw[bq]
include J in
theorem Uk{Pt:Nat}:∀(m k:Nat),m<k->m<=8->KQ inj Pt k m
 |m,0,hk,_=>by lia
 | 0,k+1,_,_=>by
  intro h w O f n c i r;show xf O.length (fin (A2 Pt (yt Pt k) [JU (uk inj h),sk (w.map inj),p_ 0,J9,J9,J9,J9,J9,JU (.tab Pt)] O))=_;unfold A2;cases w with
  | nil=>
   rw[t8 (BN (O1:=O) (x:=.lst [.tup []]) (yr (b:=Kb) rfl) rfl)];have:=Ak f [] (d:=.lst [.tup []]) (d':=.lst [.tup []]) rfl;rw[bX] at this;exact this
  | cons x w=>
   rw[t8 (uY (O1:=O) (yr (b:=Ka) rfl) (BN (O1:=O) (x:=.lst []) (uf (b:=Ka) rfl) rfl))];have:=Ak f [] (d:=.lst []) (d':=.lst []) rfl;rw[bX] at this;exact this
 | m+1,k+1,hk,hm=>by
  intro h w O f n c i r;cases w with
  | nil=>
   show xf O.length (fin (A2 Pt (yt Pt k) [JU (uk inj h),JU (.lst []),p_ ((m+1:Nat):Int),J9,J9,J9,J9,J9,JU (.tab Pt)] O))=_;unfold A2;rw[t8 (BN (O1:=O) (x:=.lst [.tup []]) (yr (b:=Kb) rfl) rfl)];have:=Ak f [] (d:=.lst [.tup []]) (d':=.lst [.tup []]) rfl;rw[bX] at this;exact this
  | cons x w=>
   have u:KQ inj Pt k m:=Uk m k 'd' 'd';let a:Sg:=[JU (uk inj h),sk ((x::w).map inj),p_ ((m+1:Nat):Int),J9,J9,J9,J9,J9,JU (.tab Pt)];have s:∀y,CB (a++[JU (inj y)]) O=.ok (.int ((DLC.hold h y).length:Nat)) O:=λy=>sP (qp (qz (qX rfl rfl) (Vc J n 'd' y O))) (by show R.ok (D.int (((DLC.hold h y).map D.str).length:Nat)) O=_;rw[ar]);generalize g:DLC.minGo (λy=>(DLC.hold h y).length) w x=y;have v:y∈x::w:=by
    rcases DLC.minGo_mem (λy=>(DLC.hold h y).length) w x with e|e
    ·rw[<- g,e];exact al
    ·rw[<- g];exact ag _ e
   have A:D_ Pt 8 qc CB a O=.ok (inj y) O:=by
    show(if Pt=Pt then (R.bnd (R.ok (D.lst ((x::w).map inj)) O) λx O1=>match x with|.lst ds=>D0 CB a O1 ds|_=>.bad) else .bad)=_;rw[Kd rfl];show D0 CB a O (inj x::w.map inj)=_;show(match CB (a++[JU (inj x)]) O with|.ok (.int j) O1=>DL.minGo CB a (w.map inj) (inj x) j O1|_=>.bad)=_;rw[s x];dsimp only;rw[<- g];exact Mx w x λy _=>s y
   have N:DLC.T (DLC.NB m) (DLC.hold h y).length h.length<=1850000:=by
    have P:=DLC.T_mono (DLC.NB_mono m) (DLC.hold h y).length 8 h.length h.length (i y) (aw _);have B:=DLC.NB_few (m:=m+1) 'd' c;unfold DLC.NB at B;lia
   obtain⟨Q,S,C⟩:=SA J u 'd' n r f (y:=JU (inj y)) (DLC.hold h y) h [] J9 J9 (λt l=>((DLC.mem_hold n).mp l).1) (DLC.hold_nd n y) (λ_ h=>h) n i c (by simp only[gr];lia) (λt l=>((DLC.mem_hold n).mp l).1);have E:((m+1:Nat):Int)≠0:=by lia
   have G:qI (i_ (qf rB) qt rQ) a O=.ok Kb O:=uf (qu rfl rfl (show qf rB O (.int ((m+1:Nat):Int)) (.int 0)=_ from by
    show R.ok (D.bl (((m+1:Nat):Int)==0)) O=_;rw[beq_eq_false_iff_ne.mpr E]))
   have o:qG (n_ 2 C0 (b_ j_ tN)) (stC inj h (x::w) ((m+1:Nat):Int) (JU (inj y)) O.length J9 J9 J9 Pt) (O++[[]])=.ok (.val ((DLC.hold h y).map D.str)) (O++[[]]):=u4 (qz (qX rfl rfl) (Vc J n 'd' y (O++[[]])));have H:Fi 5 6 7 j_ (qG (n_ 2 C0 (b_ j_ tN))) CH (BB Pt (yt Pt k)) (qm tj) (stC inj h (x::w) ((m+1:Nat):Int) (JU (inj y)) O.length J9 J9 J9 Pt) (O++[[]])=.rt (.own O.length) (O++[((DLC.covL (DLC.cov m) h (x::w) (DLC.hold h y) h)).map toT]):=by
    unfold Fi;show(R.bnS (R.ok (uk inj h) (O++[[]])) _)=_;show(R.bnS (qG (n_ 2 C0 (b_ j_ tN)) (stC inj h (x::w) ((m+1:Nat):Int) (JU (inj y)) O.length J9 J9 J9 Pt) (O++[[]])) _)=_;rw[o];show(match AU 5 6 7 CH (BB Pt (yt Pt k)) ((DLC.hold h y).map D.str) ((DLC.keys h).map dR) (h.map λp=>D.lst (p.2.map inj)) (stC inj h (x::w) ((m+1:Nat):Int) (JU (inj y)) O.length J9 J9 J9 Pt) (O++[[]]) with|.nx σ' O'=>qm tj σ' O'|_=>.bad)=_;have I:AU 5 6 7 CH (BB Pt (yt Pt k)) ((DLC.hold h y).map D.str) ((DLC.keys h).map dR) (h.map λp=>D.lst (p.2.map inj)) (stC inj h (x::w) ((m+1:Nat):Int) (JU (inj y)) O.length J9 J9 J9 Pt) (O++[[]])=_:=C;rw[I];rw[fq];rfl
   have q:A2 Pt (yt Pt k) a O=.rt (.own O.length) (O++[((DLC.covL (DLC.cov m) h (x::w) (DLC.hold h y) h)).map toT]):=by
    unfold A2;exact uY (O1:=O) (yr (b:=Ka) rfl) (uY G (sZ (x:=inj y) A (sZ (x:=.own O.length) (O1:=O++[[]]) rfl H)))
   show xf O.length (fin (A2 Pt (yt Pt k) a O))=_;rw[t8 q];have L:=Ak f [(DLC.covL (DLC.cov m) h (x::w) (DLC.hold h y) h).map toT] (d:=.own O.length) (d':=.lst ((DLC.covL (DLC.cov m) h (x::w) (DLC.hold h y) h).map toT)) (by
    unfold frz;dsimp only;rw[Kf (bM _),xR];dsimp only;rw[yq λd M=>BP (L_ _ d M)];rfl)
   refine L.trans ?_;show _=R.ok (D.lst ((DLC.covL (DLC.cov m) h (x::w) (DLC.hold h (DLC.minGo (λy=>(DLC.hold h y).length) w x)) h).map toT)) O;rw[g]
def t_(inj:α->D)(h:DLC.Held α)(w:List α)(Pt m:Nat)(x:Option D):Sg:=[JU (uk inj h),sk (w.map inj),p_ (m:Nat),sk ((DLC.cov m h w).map toT),x,JU (.tab Pt)]
structure Sz(h:DLC.Held α)(w:List α):Prop where
 nd:(DLC.keys h).Nodup
 few:h.length<=27
 h8:DLC.H8 h
 wl:w.length<=300
include J in
theorem RK{h:DLC.Held α}{w:List α}(z:Sz h w){Pt m:Nat}(d:m<=8){a b:Option D}{O:Ow}(c:Pl O):vn Pt 5 3 (FY Pt) (b_ j_ (b_ qc (b_ qt g_))) [JU (uk inj h),sk (w.map inj),p_ (m:Nat),a,b,JU (.tab Pt)] O=.ok (.lst ((DLC.cov m h w).map toT)) O:=
 FI rfl (FV rfl (qX rfl rfl)) (Uk J m 20 'd' 'd' h w O c z.nd z.few z.h8 z.wl)
include J in
theorem Td{h:DLC.Held α}{w:List α}(z:Sz h w)(g:DLC.cov 8 h w≠[]):∀(fuel m:Nat),m<=8->8<m+fuel->∃c,m<=c/\c<=8/\DLC.cov c h w≠[]/\(∀j,m<=j->j<c->DLC.cov j h w=[])/\∀(Pt:Nat)(O:Ow),Pl O->xQ cW (bW Pt) fuel (t_ inj h w Pt m J9) O=.nx (t_ inj h w Pt c J9) O
 |0,m,h1,h2=>by lia
 | fuel+1,m,h1,h2=>by
  by_cases e:DLC.cov m h w=[]
  ·have x:m≠8:=λq=>g (q▸e);obtain⟨c,y,i,l,n,o⟩:=Td z g fuel (m+1) 'd' 'd';refine⟨c,by lia,i,l,λj p s=>?_,λPt O d=>?_⟩
   ·by_cases q:j=m
    ·rw[q];exact e
    ·exact n j 'd' s
   ·have f:cW (t_ inj h w Pt m J9) O=.ok Ka O:=by
     unfold t_;rw[e];rfl
    have u:bW Pt (t_ inj h w Pt m J9) O=.nx (t_ inj h w Pt (m+1) J9) O:=by
     refine zw (σ':=[JU (uk inj h),sk (w.map inj),p_ ((m+1:Nat):Int),sk ((DLC.cov m h w).map toT),J9,JU (.tab Pt)]) (O1:=O) rfl ?_;rw[Ss (RK J z 'd' d)];rfl
    show((cW (t_ inj h w Pt m J9) O).bnS λk O1=>if k=Ka then (match bW Pt (t_ inj h w Pt m J9) O1 with
     |.nx σ' O'=>xQ cW (bW Pt) fuel σ' O'
     |.ct σ' O'=>xQ cW (bW Pt) fuel σ' O'
     |.bk σ' O'=>.nx σ' O'
     |r=>r) else .nx (t_ inj h w Pt m J9) O1)=_
    rw[f];show(if Ka=Ka then (match bW Pt (t_ inj h w Pt m J9) O with
     |.nx σ' O'=>xQ cW (bW Pt) fuel σ' O'
     |.ct σ' O'=>xQ cW (bW Pt) fuel σ' O'
     |.bk σ' O'=>.nx σ' O'
     |r=>r) else RS.nx (t_ inj h w Pt m J9) O)=_
    rw[Kd rfl,u];exact o Pt O d
  ·refine⟨m,aw _,h1,e,λj a b=>by lia,λPt O d=>?_⟩;have f:cW (t_ inj h w Pt m J9) O=.ok Kb O:=by
    refine yr (b:=Ka) ?_;rw[zdN (t:=rM 3) (σ:=t_ inj h w Pt m J9) (O:=O) (O1:=O) (ds:=(DLC.cov m h w).map toT) rfl];cases v:DLC.cov m h w with
    |nil=>exact absurd v e
    |cons _ _=>rfl
   show((cW (t_ inj h w Pt m J9) O).bnS λk O1=>if k=Ka then (match bW Pt (t_ inj h w Pt m J9) O1 with
     |.nx σ' O'=>xQ cW (bW Pt) fuel σ' O'
     |.ct σ' O'=>xQ cW (bW Pt) fuel σ' O'
     |.bk σ' O'=>.nx σ' O'
     |r=>r) else .nx (t_ inj h w Pt m J9) O1)=_
   rw[f];rfl
include J in
theorem XR{h:DLC.Held α}{w:List α}(z:Sz h w)(C:∀t∈DLC.keys h,t∈oZ)(E:DLC.cov 8 h w≠[]):∃m,m<=8/\DLC.Lm h w m/\∀(Pt:Nat)(O:Ow),Pl O->JA Pt [uk inj h,.lst (w.map inj)] O=.ok (.lst ((best h w m).map toT)) O:=by
 obtain⟨m,_,s,u,G,H⟩:=Td J z E 20 0 'd' 'd';refine⟨m,s,⟨z.nd,u,λj I=>G j 'd' I⟩,λPt O v=>?_⟩;show fin (Nn Pt [JU (uk inj h),sk (w.map inj),J9,J9,J9,JU (.tab Pt)] O)=_;unfold Nn;have y:(DLC.cov m h w).length<=1850000:=aI (DLC.cov_NB m h w z.nd z.h8) (DLC.NB_few s z.few);have A:∀c∈DLC.cov m h w,∀O,A4 [toT c] O=.ok (.int (rD c)) O:=λc a O=>by
  obtain⟨B,f,b⟩:=DLC.cov_sound m z.nd a;exact zg8 (λt g=>C t (b.1 t g)) 'd' O
 have L:qh Fk (b_ (qA Kb 1 (qG rK) (.one 6) [] [] (n_ 1 A4 yK)) g_) (t_ inj h w Pt m J9) O=.ok (.int (few h w m)) O:=by
  have n:=yi (o:=Kb) (ext:=1) (i:=6) (it0:=qG rK) (σ:=t_ inj h w Pt m J9) (O0:=O) (O:=O) (l:=DLC.cov m h w) (inj:=toT) (te:=n_ 1 A4 yK) (e:=λc=>D.int (rD c)) (τ:=λc=>t_ inj h w Pt m J9++[JU (toT c)]) (u4 rfl) 'd' (λ_=>rfl) (λc a=>qz (qp rfl) (A c a O));refine sP (qp n) ?_;show(match yQ ((DLC.cov m h w).map λc=>D.int (rD c)) with|some ns=>(if ns≠[] then R.ok (D.int (BF ns)) O else .bad)|none=>.bad)=_;have:((DLC.cov m h w).map λc=>D.int (rD c))=((DLC.cov m h w).map rD).map D.int:=by rw[bw];rfl
  rw[this,F3];show(if (DLC.cov m h w).map rD≠[] then R.ok (D.int (BF ((DLC.cov m h w).map rD))) O else .bad)=_;rw[Kd (by intro q;exact u (lY.mp q))];rfl
 have M:qh Fh (b_ (qA Kb 1 (qG rK) (.one 6) [(qI (i_ (qf rB) (n_ 1 A4 yK) tj))] [] (qh BL (b_ (qh CL yK) g_))) g_) (t_ inj h w Pt m (p_ (few h w m))) O=.ok (.lst ((best h w m).map toT)) O:=by
  have n:=zt (o:=Kb) (ext:=1) (i:=6) (it0:=qG rK) (σ:=t_ inj h w Pt m (p_ (few h w m))) (O0:=O) (O:=O) (l:=DLC.cov m h w) (inj:=toT) (t:=qI (i_ (qf rB) (n_ 1 A4 yK) tj)) (te:=qh BL (b_ (qh CL yK) g_)) (p:=λc=>rD c==few h w m) (e:=λc=>toT (rH c)) (τ:=λc=>t_ inj h w Pt m (p_ (few h w m))++[JU (toT c)]) (u4 rfl) 'd' (λ_=>rfl)
   (λc a=>uf ((A1 (qz (qp rfl) (A c a O)) rfl).trans (eqI O _ _)))
   (λc a _=>by
    obtain⟨B,f,b⟩:=DLC.cov_sound m z.nd a;have N:qh CL yK (t_ inj h w Pt m (p_ (few h w m))++[JU (toT c)]) O=.ok (.lst ((rH c).map .str)) O:=by
     refine sP (qp (x:=toT c) (O1:=O) rfl) ?_;show(match v_ (c.map D.str) with|some ss=>(if ss.Nodup/\ss.length<=1000 then R.ok (D.lst ((rH ss).map .str)) O else .bad)|none=>.bad)=_;rw[strL_map];show(if c.Nodup/\c.length<=1000 then R.ok (D.lst ((rH c).map .str)) O else .bad)=_;rw[Kd ⟨f,by lia⟩]
    exact sP (qp N) rfl)
  refine sP (qp n) ?_;have P:(((DLC.cov m h w).filter λc=>rD c==few h w m).map λc=>toT (rH c))=(((DLC.cov m h w).filter λc=>rD c==few h w m).map rH).map toT:=by rw[bw];rfl
  show(match AL (((DLC.cov m h w).filter λc=>rD c==few h w m).map λc=>toT (rH c)) with|some rS=>(if (2<=rS.length->(rS.all λd=>!d.isEmpty)=Ka)/\rS.length<=4000000 then R.ok (D.lst ((Cw rS).map DL.toT)) O else .bad)|none=>.bad)=_;rw[P,To];have Q:(((DLC.cov m h w).filter λc=>rD c==few h w m).map rH).length<=4000000:=by
   rw[ar];have:=bu (λc=>rD c==few h w m) (DLC.cov m h w);lia
  have r:2<=(((DLC.cov m h w).filter λc=>rD c==few h w m).map rH).length->((((DLC.cov m h w).filter λc=>rD c==few h w m).map rH).all λd=>!d.isEmpty)=Ka:=by
   intro S;cases w with
   | nil=>
    exfalso;rw[ar] at S;have Z:=bu (λc=>rD c==few h ([]:List α) m) (DLC.cov m h []);have h4:(DLC.cov m h ([]:List α)).length=1:=by unfold DLC.cov;rfl
    lia
   | cons x w=>
    rw[aD];intro d U;obtain⟨c,a,rfl⟩:=ay.mp U;have a:=(bE.mp a).1;obtain⟨B,f,b⟩:=DLC.cov_sound m z.nd a;obtain⟨t,g,_⟩:=b.2 x al;have:t∈rH c:=(BW _).mpr g;cases Y:rH c with
    |nil=>rw[Y] at this;cases this
    |cons _ _=>rfl
  show(if _/\_ then R.ok (D.lst ((Cw (((DLC.cov m h w).filter λc=>rD c==few h w m).map rH)).map DL.toT)) O else .bad)=_;rw[Kd ⟨r,Q⟩];rfl
 refine t8 (O1:=O) (sZ (O1:=O) (x:=.int 0) rfl (sZ (O1:=O) (RK J z (m:=0) 'd' v) (zw (σ':=t_ inj h w Pt m J9) (O1:=O) ?_ (sZ (O1:=O) L ?_))))
 ·exact H Pt O v
 ·exact tQ M
end
def LL(s:List (Nat×Nat))(q:Nat×Nat):@List.contains (Nat×Nat) instBEqOfDecidableEq s q=s.contains q:=by rw[ee];exact Iff.trans (by exact@bb _ instBEqOfDecidableEq _ _ _) bb.symm
def ZC(O:Ow)(q:Nat×Nat)(s:List (Nat×Nat)):zr O (pr q) (.lst (s.map pr))=.ok (.bl (!s.contains q)) O:=
 (QJ O (l:=s.map pr) (b:=s.contains q) (QO q) (Rj s) (.inl rfl) (by
  rw[bb,ay];exact⟨λh=>⟨q,h,rfl⟩,λ⟨r,h,e⟩=>RB e▸h⟩)).2
def Xp:Inj pr:=⟨λO q s=>(X2 O q s).trans (by rw[LL]),λO q s=>(ZC O q s).trans (by rw[LL])⟩
def vB(n:Nat)(fs:List (List D)):DLC.Held (Nat×Nat):=(xh n fs).map λt=>(t,sN fs t)
def YF:([1,2,3].all λn=>decide ((J6 n).length<=27)&&(aN (2 ^ n)).all λp=>decide (((J6 n).filter λt=>(su t).contains p).length<=8)&&decide (CN n p∈J6 n)&&(su (CN n p)==[p]))=Ka:=by decide +kernel
def R6:(allS.all λq=>q.1.getD q.2 0==45||(decide (sg (q.1.set q.2 45)+1=sg q.1)&&(su q.1).all λp=>(su (q.1.set q.2 45)).contains p))=Ka:=by decide +kernel
section
variable{n:Nat}{fs:List (List D)}(hf:uR n fs)
include hf
theorem n3:(J6 n).length<=27/\∀p,p<2 ^ n->((J6 n).filter λt=>(su t).contains p).length<=8/\CN n p∈J6 n/\su (CN n p)=[p]:=by
 have a:n∈[1,2,3]:=by
  have:=hf.n1;have:=hf.n3;have:n=1\/n=2\/n=3:=by lia
  rcases this with rfl|rfl|rfl<;>simp
 have:=aD.mp YF n a;rw[aT,aD] at this;refine⟨by simpa using this.1,λp b=>?_⟩;have h:=this.2 p (ba.mpr b);simp only[aT,decide_eq_true_eq,beq_iff_eq] at h;exact⟨h.1.1,h.1.2,h.2⟩
theorem BQ:DLC.keys (vB n fs)=xh n fs:=by unfold DLC.keys vB;rw[bw];exact mZ _
theorem Ir{t:k_}(h:t∈xh n fs):t∈J6 n/\A0 fs t=Ka:=bE.mp h
theorem RD:(xh n fs).Pairwise (· < ·):=(Ta hf.n1 hf.n4).2.2.filter _
theorem La:(DLC.keys (vB n fs)).Nodup:=by rw[BQ hf];exact(RD hf).imp λh e=>absurd (e▸h) (gP _)
theorem Ih{t:k_}(h:t∈xh n fs):DLC.at_ (vB n fs) t=sN fs t:=DLC.at_mem (La hf) (kv:=(t,sN fs t)) (ay.mpr ⟨t,h,rfl⟩)
theorem Rw:(vB n fs).length<=27:=by unfold vB;rw[ar];exact Ve (n3 hf).1
theorem Yd:DLC.H8 (vB n fs):=λx=>by
 have e:DLC.hold (vB n fs) x=(xh n fs).filter λt=>(sN fs t).contains x:=by
  unfold DLC.hold vB;rw[List.filter_map,bw];show ju (λt=>t) _=_;rw[List.map_id'];exact List.filter_congr λt _=>LL _ _
 rw[e];have a:((xh n fs).filter λt=>(sN fs t).contains x).length<=((J6 n).filter λt=>(su t).contains x.2).length:=by
  unfold xh;rw[List.filter_filter,<- jv,<- jv];refine List.countP_mono_left λt _ h=>?_;rw[aT,bb] at h;exact bb.mpr (pf.mp h.1).2
 by_cases b:x.2<2 ^ n
 ·exact aI a ((n3 hf).2 x.2 b).1
 ·have:((J6 n).filter λt=>(su t).contains x.2)=[]:=iJ.mpr λt c h=>b (S4 hf.n1 hf.n4 c (bb.mp h));rw[this,gr] at a;lia
theorem sz:Sz (vB n fs) (qv fs):=⟨La hf,Rw hf,Yd hf,aI (SQ hf) 'u'⟩
theorem VG:∀(k:Nat){t:k_},t∈J6 n->sg t<=k->rN fs t≠[]->∃o∈xh n fs,(∀x∈sN fs t,x∈sN fs o)/\sg o<=sg t:=by
 intro k
 induction k with
 | zero=>
  intro t b p f;refine⟨t,bE.mpr ⟨b,?_⟩,λx h=>h,aw _⟩;unfold A0;rw[aT];refine⟨by cases e:rN fs t with
   |nil=>exact absurd e f
   |cons=>rfl,?_⟩
  rw[gF,mW];intro o c;unfold wider at c;obtain⟨i,j,rfl⟩:=ay.mp c;obtain⟨l,a⟩:=bE.mp j;have d:=aD.mp R6 (t,i) (Mj (uZ hf.n1 hf.n4 b) (ba.mp l));have a:(t.getD i 0==45)=Kb:=⇑a
  dsimp only at d;rw[a,jL,aT,decide_eq_true_eq] at d;lia
 | succ k ih=>
  intro t b p f;by_cases g:A0 fs t=Ka
  ·exact⟨t,bE.mpr ⟨b,g⟩,λx h=>h,aw _⟩
  ·unfold A0 at g;have q:(!(rN fs t).isEmpty)=Ka:=by
    cases e:rN fs t with
    |nil=>exact absurd e f
    |cons=>rfl
   rw[q,hU,gF,Bool.not_eq_false,fF] at g;obtain⟨o,c,e⟩:=g;have e:rN fs o=rN fs t:=⇑e
   have m:=Vo hf.n1 hf.n4 b o c;unfold wider at c;obtain⟨i,j,rfl⟩:=ay.mp c;obtain⟨l,a⟩:=bE.mp j;have d:=aD.mp R6 (t,i) (Mj (uZ hf.n1 hf.n4 b) (ba.mp l));have a:(t.getD i 0==45)=Kb:=⇑a
   dsimp only at d;rw[a,jL,aT,decide_eq_true_eq,aD] at d;obtain⟨o,r,s,y⟩:=ih m 'd' (by rw[e];exact f);refine⟨o,r,λx u=>s x ?_,by lia⟩;obtain⟨v,w⟩:=pf.mp u;exact pf.mpr ⟨by rw[e];exact v,bb.mp (d.2 _ w)⟩
theorem FQ{x:Nat×Nat}(h:x∈qv fs):x.2<2 ^ n/\x∈sN fs (CN n x.2):=by obtain⟨c,d⟩:=(LU hf).mp h;obtain⟨b,a⟩:=pK.mp d;have f:=yT hf c;rw[f.len] at b;obtain⟨_,_,e⟩:=(n3 hf).2 x.2 b;refine⟨b,pf.mpr ⟨bE.mpr ⟨ba.mpr c,?_⟩,by rw[e];exact cA.mpr rfl⟩⟩;unfold Ag;rw[e,iM,List.all_nil,oB];cases g:(fs.getD x.1 []).getD x.2 .non<;>rw[g] at a<;>first|rfl|(unfold Ar at a;split at a<;>first|(rename_i q;cases q;rfl)|cases a)
theorem Yr:DLC.cov 8 (vB n fs) (qv fs)≠[]:=by
 have b:∀l:k_,(∀p∈l,p<2 ^ n)->∃S:l_,S.length<=l.length/\(∀t∈S,t∈xh n fs)/\∀x∈qv fs,x.2∈l->∃t∈S,x∈sN fs t:=by
  intro l
  induction l with
  |nil=>exact λ_=>⟨[],aw _,λ_ h=>(bB h).elim,λ_ _ h=>(bB h).elim⟩
  | cons p l ih=>
   intro j;obtain⟨S,m,d,f⟩:=ih λq hq=>j q (ag _ hq);by_cases hp:∃k,(k,p)∈qv fs
   ·obtain⟨k,s⟩:=hp;have a:=(FQ hf s).2;obtain⟨o,u,v,_⟩:=VG hf _ ((n3 hf).2 p (j p al)).2.1 (aw _) (λe=>by have:=(pf.mp a).1;rw[e] at this;cases this);refine⟨o::S,by simp;lia,λt ht=>?_,λx a hp=>?_⟩
    ·rcases am.mp ht with rfl|ht
     ·exact u
     ·exact d t ht
    ·rcases am.mp hp with e|hp
     ·exact⟨o,al,v x (by have:=(FQ hf a).2;rw[e] at this;exact this)⟩
     ·obtain⟨t,g,i⟩:=f x a hp;exact⟨t,ag _ g,i⟩
   ·refine⟨S,by simp;lia,d,λx a hq=>?_⟩;rcases am.mp hq with e|hq
    ·exact absurd ⟨x.1,by rw[<- e];exact a⟩ hp
    ·exact f x a hq
 obtain⟨S,m,d,f⟩:=b (aN (2 ^ n)) λp hp=>ba.mp hp;have y:2 ^ n<=8:=aI (cR 'u' hf.n3) 'u';rw[bS] at m;obtain⟨c,r,_⟩:=DLC.cov_some 8 (La hf) (w:=qv fs) (S:=S) ⟨λt ht=>by rw[BQ hf];exact d t ht,λx a=>by
  obtain⟨t,g,i⟩:=f x a (ba.mpr (FQ hf a).1);exact⟨t,g,by rw[Ih hf (d t g)];exact i⟩⟩ 'd'
 intro e;rw[e] at r;cases r
theorem zaR(O:Ow):M_ [.tup (fs.map .tup)] O=.ok (.lst ((xh n fs).map .str)) O:=by obtain⟨f,a,b⟩:=I8 hf O;show fin (Na [rm (fs.map .tup)] O)=_;unfold Na;refine t8 (zw (Mw (qz (qp rfl) (zez hf O))) (tQ ((zt (l:=J6 n) (inj:=D.str) (p:=A0 fs) (e:=D.str) (τ:=λt=>[rm (fs.map .tup),rn t]) (u4 (qz (qp (qz (qp (qu rfl rfl b)) (MZ a O))) (zeU hf.n1 hf.n4 O))) (by have:=(n3 hf).1;lia) (λ_=>rfl) (λt c=>xw (qz (qX rfl rfl) (z8u hf c O))) (λ_ _ _=>rfl)).trans rfl)))
theorem z5q(O:Ow):Ng [.tup (fs.map .tup)] O=.ok (uk pr (vB n fs)) O:=by show fin (Nc [rm (fs.map .tup)] O)=_;have a:=RD hf;refine yp ((zeD (l:=xh n fs) (inj:=D.str) (key:=D.str) (kk:=dR) (val:=λt=>.lst ((sN fs t).map pr)) (τ:=λt=>[rm (fs.map .tup),rn t]) (u4 (qz (qp rfl) (zaR hf O))) (by have:=Rw hf;unfold vB at this;rw[ar] at this;lia) (gH.mpr (a.imp λh e=>absurd (jw e▸h) (gP _))) (λ_=>rfl) (λ_ _=>rfl) (λ_ _=>rfl) (λt b=>qz (qX rfl rfl) (zhM hf (Ir hf b).1 O))).trans ?_);unfold uk;rw[BQ hf];unfold vB;rw[bw];rfl
end
structure Kx(n:Nat)(fs:List (List D))(m:Nat)(l:l_):Prop where
 lm:DLC.Lm (vB n fs) (qv fs) m
 le:m<=8
 best:l∈best (vB n fs) (qv fs) m
def zen{n:Nat}{b:List (List D)}(a:uR n b):∃m l,Kx n b m l/\∀(Pt:Nat)(O:Ow),Pl O->EH Pt [.tup (b.map .tup)] O=.ok (toT l) O:=by
 obtain⟨m,g,d,h⟩:=XR Xp (sz a) (λt e=>by rw[BQ a] at e;exact uZ a.n1 a.n4 (Ir a e).1) (Yr a);cases c:best (vB n b) (qv b) m with
 |nil=>exact absurd c (zgt d.ne)
 | cons l ls=>
  refine⟨m,l,⟨d,g,by rw[c];exact al⟩,λPt O j=>?_⟩;show fin (Nj Pt [rm (b.map .tup),JU (.tab Pt)] O)=_;have f:=h Pt O j;rw[c] at f;exact yp (qu (FI rfl (qX (qz (qp rfl) (z5q a O)) (qz (qp rfl) (zbD a O))) f) rfl ((L5 (ds:=(l::ls).map toT) (i:=0) 'k').trans rfl))
def cst:List (Nat×Int)->Int
 |[]=>0
 |e::S=>e.2+cst S
theorem SF:∀A B:List (Nat×Int),cst (A++B)=cst A+cst B
 |[],B=>by show cst B=0+cst B;lia
 |e::A,B=>by show e.2+cst (A++B)=(e.2+cst A)+cst B;rw[SF A B];lia
def PX(ms:List (Nat×Int))(L:Nat)(S:List (Nat×Int)):Prop:=(∀e∈S,e∈ms)/\∀b,L.testBit b=Ka->∃e∈S,e.1.testBit b=Ka
theorem FH{rec:Nat->Option (Int×Int)}{l:Nat}:∀{ms:List (Nat×Int)}{z:List (Int×Int)},tD rec l ms=JU z->∀y,y∈z ↔ ∃e∈ms,e.1 &&& low l≠0/\∃q,rec (uT l e.1)=JU q/\y=(q.1+1,q.2+e.2)
 |[],z,h,y=>by cases h;simp
 | (m,c)::r,z,h,y=>by
  unfold tD at h;split at h
  ·rename_i d;split at h
   ·rename_i q o g j;cases h;rw[am,FH j y];constructor
    ·rintro(rfl|⟨e,a,b⟩)
     ·exact⟨(m,c),al,d,q,g,rfl⟩
     ·exact⟨e,ag _ a,b⟩
    ·rintro⟨e,a,b,n,f,i⟩;rcases am.mp a with rfl|a
     ·rw[g] at f;cases f;exact .inl i
     ·exact .inr ⟨e,a,b,n,f,i⟩
   ·cases h
  ·rename_i d;rw[FH h y];constructor
   ·rintro⟨e,a,b⟩;exact⟨e,ag _ a,b⟩
   ·rintro⟨e,a,b,c⟩;rcases am.mp a with rfl|a
    ·exact absurd b d
    ·exact⟨e,a,b,c⟩
theorem S8{rec:Nat->Option (Int×Int)}{l:Nat}:∀{ms:List (Nat×Int)},(∀e∈ms,e.1 &&& low l≠0->∃q,rec (uT l e.1)=JU q)->∃z,tD rec l ms=JU z
 |[],_=>⟨[],rfl⟩
 | (m,c)::r,h=>by
  obtain⟨z,b⟩:=S8 (ms:=r) λe d=>h e (ag _ d);unfold tD;by_cases a:m &&& low l≠0
  ·obtain⟨q,f⟩:=h (m,c) al a;rw[Kd a,f,b];exact⟨_,rfl⟩
  ·rw[Kf a];exact⟨z,b⟩
def S_{l b m:Nat}(a:(low l).testBit b=Ka)(c:m.testBit b=Ka):m &&& low l≠0:=λe=>by
 have:=congrArg (λx=>x.testBit b) e;simp only[kL,a,c,nG] at this;cases this
def ziC{l b:Nat}(h:l.testBit b=Ka):l≠0:=λe=>by rw[e,nG] at h;cases h
def UL{ms:List (Nat×Int)}{f l:Nat}{q:Int×Int}(a:l≠0)(h:tO ms (f+1) l=JU q):∃x xs,tD (tO ms f) l ms=JU (x::xs)/\q=v8 (x::xs):=by
 unfold tO at h;rw[Kf a] at h;split at h
 ·rename_i x xs e;exact⟨x,xs,e,(cf h).symm⟩
 ·cases h
def Uc(x:Int×Int)(xs:List (Int×Int)):v8 (x::xs)∈x::xs/\∀y∈x::xs,ltQ y (v8 (x::xs))=Kb:=by
 obtain⟨a,b,c⟩:=LV xs x;refine⟨?_,λy hy=>?_⟩
 ·rcases a with a|a
  ·show v8 (x::xs)∈_;rw[show v8 (x::xs)=x from a];exact al
  ·exact ag _ a
 ·rcases am.mp hy with rfl|hy
  ·exact b
  ·exact c y hy
theorem U2{ms:List (Nat×Int)}:∀{f l:Nat}{q:Int×Int},tO ms f l=JU q->∃S,PX ms l S/\q=(((S.length:Nat):Int),cst S)
 |0,_,_,h=>by cases h
 | f+1,l,q,h=>by
  by_cases g:l=0
  ·subst g;cases h;exact⟨[],⟨λ_ z=>(bB z).elim,λb d=>absurd rfl (ziC d)⟩,rfl⟩
  ·obtain⟨x,j,e,rfl⟩:=UL g h;obtain⟨⟨m,c⟩,n,u,v,o,p⟩:=(FH e _).mp (Uc x j).1;obtain⟨S,⟨r,s⟩,t⟩:=U2 o;refine⟨(m,c)::S,⟨λe he=>?_,λb d=>?_⟩,?_⟩
   ·rcases am.mp he with rfl|he
    ·exact n
    ·exact r e he
   ·cases i:m.testBit b with
    |true=>exact⟨(m,c),al,i⟩
    | false=>
     obtain⟨e,a,b⟩:=s b (by rw[Ek];dsimp only;rw[d,i];rfl);exact⟨e,ag _ a,b⟩
   ·rw[p,t];refine j6 ?_ ?_
    ·show((S.length:Nat):Int)+1=(((m,c)::S).length:Nat);rw[aV];lia
    ·show cst S+c=c+cst S;lia
def leQ(a b:Int×Int):Prop:=a.1<b.1\/a.1=b.1/\a.2<=b.2
def ZO{a b:Int×Int}(h:ltQ b a=Kb):leQ a b:=by unfold ltQ vQ at h;unfold leQ;simp only[gY,iV,decide_eq_false_iff_not] at h;lia
theorem Ti{ms:List (Nat×Int)}(u:∀e∈ms,0<=e.2):∀{f l:Nat}{q:Int×Int},tO ms f l=JU q->∀S,PX ms l S->leQ q (((S.length:Nat):Int),cst S)
 |0,_,_,h=>by cases h
 | f+1,l,q,h=>λS n=>by
  have C:∀S:List (Nat×Int),(∀e∈S,e∈ms)->0<=cst S:=λS=>by
   induction S with
   |nil=>intro _;exact m7 _
   | cons e S d=>
    intro h;have s:=u e (h e al);have O:=d λe g=>h e (ag _ g);show 0<=e.2+cst S;lia
  by_cases t:l=0
  ·subst t;cases h;have:=C S n.1;show(0:Int)<_\/(0:Int)=_/\(0:Int)<=_;cases S with
   |nil=>exact .inr ⟨rfl,this⟩
   |cons e S=>left;rw[aV];lia
  ·obtain⟨x,E,e,rfl⟩:=UL t h;obtain⟨b,i⟩:=R8 t;obtain⟨⟨m,c⟩,g,G⟩:=n.2 b (Lu i);obtain⟨A,B,rfl⟩:=List.append_of_mem g;have o:=S_ i G;have H:∃j,tO ms f (uT l m)=JU j:=by
    have:∀(r:List (Nat×Int))(z:List (Int×Int)),tD (tO ms f) l r=JU z->(m,c)∈r->∃j,tO ms f (uT l m)=JU j:=λr=>by
     induction r with
     |nil=>intro z _ h;cases h
     | cons a r d=>
      obtain⟨P,Q⟩:=a;intro z p v;unfold tD at p;split at p
      ·split at p
       ·rename_i U I J L;rcases am.mp v with k|k
        ·cases k;exact⟨_,J⟩
        ·exact d _ L k
       ·cases p
      ·rename_i M;rcases am.mp v with k|k
       ·cases k;exact absurd o M
       ·exact d _ p k
    exact this ms _ e (n.1 _ g)
   obtain⟨j,w⟩:=H;have d:=Ti u w (A++B) ⟨λe g=>n.1 e (by
    rcases aO.mp g with h|h
    ·exact bK _ h
    ·exact az _ (ag _ h)),λb i=>by
    rw[Ek,aT,gF] at i;obtain⟨e,g,y⟩:=n.2 b i.1;refine⟨e,?_,y⟩;rcases aO.mp g with h|h
    ·exact bK _ h
    ·rcases am.mp h with rfl|h
     ·rw[y] at i;cases i.2
     ·exact az _ h⟩
   have s:=ZO ((Uc x E).2 _ ((FH e (j.1+1,j.2+c)).mpr ⟨(m,c),n.1 _ g,o,j,w,rfl⟩));unfold leQ at s d ⊢;rw[SF] at d ⊢;have N:cst ((m,c)::B)=c+cst B:=rfl;rw[N];simp only[aC,aV] at d ⊢;dsimp only at s d ⊢;lia
theorem MT{ms:List (Nat×Int)}:∀{f l:Nat},l<16777216->cnt l<f->(∀b,l.testBit b=Ka->∃e∈ms,e.1.testBit b=Ka)->∃q,tO ms f l=JU q
 |0,_,_,h,_=>by lia
 | f+1,l,h1,h2,h3=>by
  unfold tO;by_cases d:l=0
  ·rw[Kd d];exact⟨_,rfl⟩
  ·rw[Kf d];obtain⟨z,g⟩:=S8 (rec:=tO ms f) (l:=l) (ms:=ms) λe i a=>by
    have:=LZ h1 a;exact MT (ei (sub_le l e.1) h1) 'd' λb c=>by
     rw[Ek,aT] at c;exact h3 b c.1
   rw[g];obtain⟨b,c⟩:=R8 d;obtain⟨e,i,j⟩:=h3 b (Lu c);have a:=S_ c j;obtain⟨q,m⟩:=MT (f:=f) (ei (sub_le l e.1) h1) (by have:=LZ h1 a;lia) λb c=>by
    rw[Ek,aT] at c;exact h3 b c.1
   have n:=(FH g (q.1+1,q.2+e.2)).mpr ⟨e,i,a,q,m,rfl⟩;cases z with
   |nil=>cases n
   |cons x xs=>exact⟨_,rfl⟩
def z7V(O:Ow):(oZ.map λa=>JB [.int (a.length:Nat),.str a] O)=oZ.map λ_=>R.ok (.bl Ka) O:=by kernel_rfl
def zaj{n:Nat}(b:1<=n)(c:n<=4){a:k_}(h:a∈J6 n)(O:Ow):JB [.int n,.str a] O=.ok (.bl Ka) O:=by have:=eE.mp (z7V O) a (uZ b c h);rw[zy b c h] at this;exact this
def z7F{n:Nat}(d:1<=n)(f:n<=4){l:l_}(g:∀t∈l,t∈J6 n)(i:l.Pairwise (· < ·))(h:l.length<64)(O:Ow):Gb [.int n,.tup (l.map .str)] O=.ok (.bl Ka) O:=by show fin (Nw [p_ n,rm (l.map .str)] O)=_;unfold Nw;refine t8 (uY (O1:=O) (FL (a:=Kb) (b:=Kb) (yr (b:=Ka) (xw (b:=Ka) rfl)) λ_=>yr (b:=Ka) (xw (sP (qp ((yi (l:=l) (inj:=D.str) (e:=λ_=>D.bl Ka) (τ:=λt=>[p_ n,rm (l.map .str),rn t]) (BR rfl) 'd' (λ_=>rfl) (λt c=>qz (qX rfl rfl) (zaj d f (g t c) O))).trans rfl)) ((EA O l λ_=>Ka).trans 'k')))) (tQ (qu (x:=.lst (l.map .str)) (sP (qp rfl) rfl) (zgw (qp rfl) (.inr rfl) 'd') ?_)));rw[zck i];exact(FC O (b:=Ka) (Mb λt c=>uZ d f (g t c)) (Mb λt c=>uZ d f (g t c)) 'k').1
def zeG(O:Ow):(oZ.map λa=>F6 2 [.str a,.str a] O)=oZ.map λ_=>R.ok (D.bl Ka) O:=by kernel_rfl
def Yz{l:l_}(d:∀t∈l,t∈oZ)(s:l.length<=1000)(O:Ow):Jw [.tup (l.map .str),.tup (l.map .str)] O=.ok (.bl Ka) O:=by
 let X:Option D:=rm (l.map .str);have f:∀i,(Src.zip (.val (l.map D.str)) (.val (l.map D.str))).get O i=(l.map λt=>D.tup [.str t,.str t])[i]?:=λi=>by
  show(match (l.map D.str)[i]?,(l.map D.str)[i]? with|some x,JU y=>JU (D.tup [x,y])|_,_=>J9)=_;rw[aZ,aZ];cases l[i]?<;>rfl
 have j:qA Kb 2 (D7 (b_ j_ (b_ qc g_))) (.two 2 3) [] [] (n_ 2 (F6 2) (b_ qt tN)) [X,X] O=.ok (.lst (l.map λ_=>D.bl Ka)) O:=by
  refine(Ey (o:=Kb) (ext:=2) (g:=.two 2 3) (ts:=[]) (l:=l) (inj:=λt=>D.tup [.str t,.str t]) (p:=λ_=>Ka) (e:=λ_=>.bl Ka) (τ:=λt=>[X,X,rn t,rn t]) (show D7 (b_ j_ (b_ qc g_)) [X,X] O=.ok (.zip (.val (l.map .str)) (.val (l.map .str))) O from rfl) f (by show min (l.map D.str).length (l.map D.str).length=_;rw[ar];lia) 'd' (λ_ _=>rfl) (λ_ _=>rfl) (λt h _=>qz (qX rfl rfl) (eE.mp (zeG O) t (d t h)))).trans ?_;rw[ji.mpr (λ_ _=>rfl)];rfl
 show fin (M5 _ [X,X] O)=_;unfold M5;have c:∀b:Bool,qf sD O (.bl b) (.bl b)=.ok (.bl Kb) O:=λb=>by cases b<;>kernel_rfl
 have m:Ad (qI (i_ (qf sD) (ux "tuple" j_) (ux "tuple" qc))) (qI (i_ (qf sD) (ux "list" j_) (ux "list" qc))) [X,X] O=.ok Kb O:=FL (a:=Kb) (b:=Kb) (uf (qu rfl rfl (c Ka))) λ_=>uf (qu rfl rfl (c Kb));have n:qI (i_ (qf sD) (qh rL (b_ j_ g_)) (qh rL (b_ qc g_))) [X,X] O=.ok Kb O:=uf (qu (sP (qp rfl) (CY O _)) (sP (qp rfl) (CY O _)) ((neI O _ _).trans 'k'));have q:sI (Ij "tuple" "list" qc) [X,X] O=.ok Ka O:=rfl;have r:zq O [.lst (l.map λ_=>D.bl Ka)]=.ok (.bl Ka) O:=(EA O l λ_=>Ka).trans 'k';refine t8 (BN q ?_);exact uY m (uY n (tQ (sP (qp j) r)))
def YR{α:Type}[DecidableEq α]{h:DLC.Held α}{w:List α}{m:Nat}{c:l_}(e:c∈DLC.cov m h w):few h w m<=rD c:=by
 unfold few;cases f:DLC.cov m h w with
 |nil=>rw[f] at e;cases e
 | cons d l=>
  obtain⟨a,b⟩:=LM (l.map rD) (rD d);rw[f] at e;rcases am.mp e with rfl|h
  ·exact a
  ·exact b _ (ay.mpr ⟨c,h,rfl⟩)
def TJ{a b:l_}(h:a.Perm b):rD a=rD b:=by
 unfold rD
 induction h with
 |nil=>rfl
 |cons x _ ih=>simp only[bH,oC,ih]
 |swap x y l=>simp only[bH,oC];lia
 |trans _ _ h1 h2=>exact h1.trans h2
def Qn(O:Ow){n:Nat}(h:n<=1000):fI v7 O (.int 1) (.int (n:Nat))=.ok (.int ((2 ^ n:Nat))) O:=by show(match v7 1 (n:Nat) with|some d=>R.ok d O|none=>.bad)=_;unfold v7;rw[Kd ⟨by lia,by lia,by decide⟩];simp
def mk(fs:List (List D))(t:k_):Nat:=DLB.mkN (λi=>(sN fs t).contains ((qv fs).getD i (0,0))) (qv fs).length
def ZR(a:List (List D))(t:k_)(i:Nat):(mk a t).testBit i=(decide (i<(qv a).length)&&(sN a t).contains ((qv a).getD i (0,0))):=DLB.mkN_bit _ _ _
def Z_(O:Ow)(x:Option D):(oZ.map λa=>NC [x,rn a] O)=oZ.map λa=>R.ok (D.int (sV a)) O:=by kernel_rfl
def Vj{l:l_}(a:∀t∈l,t∈oZ)(f:l.length<=1000){x:D}(b:x=.lst (l.map .str)\/x=.tup (l.map .str))(O:Ow):C1 [x] O=.ok (.int (rD l)) O:=by
 have c:qG j_ [JU x] O=.ok (.val (l.map .str)) O:=by
  rcases b with rfl|rfl
  ·exact u4 rfl
  ·exact BR rfl
 have d:=yi (o:=Kb) (ext:=1) (i:=1) (te:=NC) c 'd' (λ_=>rfl) (λt e=>eE.mp (Z_ O (JU x)) t (a t e));show fin (Nd [JU x] O)=_;refine yp (sP (qp d) ?_);show(match yQ (l.map λt=>D.int (sV t)) with|some ns=>R.ok (D.int ns.sum) O|none=>.bad)=_;have:(l.map λt=>D.int (sV t))=(l.map sV).map D.int:=by rw[bw];rfl
 rw[this,F3];rfl
section
variable{n:Nat}{fs:List (List D)}(hf:uR n fs)
include hf
theorem z5w{q:Nat×Nat}(f:q∈qv fs){t:k_}(h:t∈J6 n)(O:Ow):B1 [.tup (fs.map .tup),.str t,pr q] O=.ok (.bl ((sN fs t).contains q)) O:=by have d:=hf.n1;have e:=hf.n4;obtain⟨c,g⟩:=(LU hf).mp f;show fin (EF [rm (fs.map .tup),rn t,JU (pr q)] O)=_;unfold EF;refine yp ((IY (a:=Ag (fs.getD q.1 []) t) (b:=(su t).contains q.2) (qz (qX (qu rfl (qu (x:=pr q) rfl rfl rfl) (K2 hf c O)) rfl) (M6 (yT hf c) h O)) λ_=>qz (qX rfl (qu (x:=pr q) rfl rfl rfl)) (M9 (uZ d e h) (by rw[zy d e h,<- (yT hf c).len];exact(pK.mp g).1) O)).trans ?_);congr 2;rw[ee,aT,bb,bb,pf];unfold rN;rw[bE,ba];exact⟨λ⟨a,b⟩=>⟨⟨c,a⟩,b⟩,λ⟨⟨_,a⟩,b⟩=>⟨a,b⟩⟩
theorem Lp:(qv fs).length<=24:=by
 have c:=hf.l3;have d:2 ^ n<=8:=aI (cR 'u' hf.n3) 'u';have:=Ew (g:=λk=>(xb (fs.getD k [])).map λp=>(k,p)) (k:=8) (aN fs.length) λa b=>by
  rw[ar];unfold xb;have:=bu (λp=>Ar ((fs.getD a []).getD p .non)) (aN (fs.getD a []).length);rw[bS] at this;have e:=(yT hf (ba.mp b)).len;lia
 rw[bS] at this;unfold qv;lia
theorem zeo{G:l_}(u:∀t∈G,t∈J6 n)(Q:G.length<=100){O:Ow}(r:Pl O):Nr [.tup (fs.map .tup),.lst (G.map .str)] O=.ok (.lst ((G.map λt=>((mk fs t:Nat):Int)).map .int)) O:=by
 have v:=Lp hf;let A:Option D:=rm (fs.map .tup);let L:Option D:=sk (G.map .str);let a:Option D:=sk ((qv fs).map pr);let W:Option D:=sT O.length;let f:k_->D:=λt=>.int ((mk fs t:Nat):Int);let b:k_->Nat->Bool:=λt i=>(sN fs t).contains ((qv fs).getD i (0,0));show xf O.length (fin (JQ [A,L,J9,J9,J9,J9] O))=_;obtain⟨w,h,s,m,g,rfl,rfl⟩:=FE (i:=4) (it:=qG qc) (body:=(qd (qH 5 (qA Kb 1 (uE (b_ (qh rL (b_ qt g_)) g_)) (.one 6) [(sI (n_ 3 B1 (b_ j_ (b_ tj (b_ (i_ qJ qt ye) g_)))))] [] ye)) (t7 (z_ rK (b_ (qh BE (b_ (qA Kb 1 (qG yg) (.one 6) [] [] (i_ (fI v7) rV ye)) g_)) g_))))) (σ:=[A,L,a,W,J9,J9]) (O0:=O++[[]]) (O:=O++[[]]) (l:=G) (inj:=D.str) (u4 rfl)
  (λj σ h=>∃m g,σ=[A,L,a,W,m,g]/\h=O++[(G.take j).map f]) (λj t σ h q y=>by
   obtain⟨m,g,rfl,rfl⟩:=y;have B:=u t (aJ q);have S:=(ao.mp q).1;let O1:=O++[(G.take j).map f];have C:=zt (o:=Kb) (ext:=1) (i:=6) (it0:=uE (b_ (qh rL (b_ qt g_)) g_)) (σ:=[A,L,a,W,rn t,g]) (O:=O1) (O0:=O1) (l:=aN (qv fs).length) (inj:=λ(i:Nat)=>D.int (i:Int)) (t:=sI (n_ 3 B1 (b_ j_ (b_ tj (b_ (i_ qJ qt ye) g_))))) (te:=rM 6) (p:=b t) (e:=λ(i:Nat)=>D.int (i:Int)) (A3 (qp (sP (qp rfl) ((show rL O1 [.lst ((qv fs).map pr)]=R.ok (D.int (((qv fs).map pr).length:Nat)) O1 from rfl).trans (by rw[ar])))) 'd') (by rw[bS];lia) (λ_=>rfl) (λi c=>by
    have c:=ba.mp c;have E:(qv fs).getD i (0,0)=(qv fs)[i]:=by rw[bz,au c];rfl
    refine xw (qz (FV rfl (qX rfl (qu rfl rfl ((L5 (ds:=(qv fs).map pr) (i:=i) (by rw[ar];exact c)).trans (by rw[fe]))))) ((z5w hf (bT c) B O1).trans (by rw[<- E])))) (λ_ _ _=>rfl)
   have U:((aN (qv fs).length).filter (b t)).length<=24:=aI (bu _ _) (by rw[bS];exact v);let H:Option D:=sk (((aN (qv fs).length).filter (b t)).map λ(i:Nat)=>D.int (i:Int));have I:=yi (o:=Kb) (ext:=1) (i:=6) (it0:=qG yg) (σ:=[A,L,a,W,rn t,H]) (O:=O1) (O0:=O1) (l:=(aN (qv fs).length).filter (b t)) (inj:=λ(i:Nat)=>D.int (i:Int)) (te:=i_ (fI v7) rV ye) (e:=λ(i:Nat)=>D.int ((2 ^ i:Nat):Int)) (u4 rfl) 'd' (λ_=>rfl) (λi c=>qu rfl rfl (Qn O1 (by have:=ba.mp (bE.mp c).1;lia)));have J:qh BE (b_ (qA Kb 1 (qG yg) (.one 6) [] [] (i_ (fI v7) rV ye)) g_) [A,L,a,W,rn t,H] O1=.ok (f t) O1:=by
    refine sP (qp I) ?_;show(match yQ (((aN (qv fs).length).filter (b t)).map λ(i:Nat)=>D.int ((2 ^ i:Nat):Int)) with|some ns=>R.ok (D.int ns.sum) O1|none=>.bad)=_;have:(((aN (qv fs).length).filter (b t)).map λ(i:Nat)=>D.int ((2 ^ i:Nat):Int))=(((aN (qv fs).length).filter (b t)).map λ(i:Nat)=>((2 ^ i:Nat):Int)).map D.int:=by rw[bw];rfl
    rw[this,F3];show R.ok (D.int (List.sum _)) O1=_;rw[DLB.sum_mkN];rfl
   have M:=Mp (σ:=[A,L,a,W,rn t,H]) (i:=3) (k:=O.length) (ds:=(G.take j).map f) rfl J xR (by rw[ar,bL];lia);refine⟨[A,L,a,W,rn t,H],_,sZ (O1:=O1) C M,_,_,rfl,?_⟩;show O1.set O.length _=_;rw[Ez,fh,q,cK];rfl) ⟨J9,J9,rfl,by simp⟩
 rw[e9] at s;have N:JQ [A,L,J9,J9,J9,J9] O=.rt W.get! (O++[G.map f]):=by
  unfold JQ;exact sZ (x:=.lst ((qv fs).map pr)) (O1:=O) (qz (qp rfl) (Ni hf r)) (sZ (x:=.own O.length) (O1:=O++[[]]) rfl (zw s (tQ rfl)))
 rw[t8 N];refine(zeY r λd P=>?_).trans ?_
 ·obtain⟨t,_,rfl⟩:=ay.mp P;rfl
 ·rw[bw];rfl
end
def xu(n:Nat)(fs:List (List D)):l_:=(J6 n).filter λt=>!(rN fs t).isEmpty
def EN(n:Nat)(fs:List (List D)):List (Nat×Int):=(xu n fs).map λt=>(mk fs t,sV t)
def pF{n:Nat}{a:List (List D)}{t:k_}:t∈xu n a↔t∈J6 n/\rN a t≠[]:=by unfold xu;rw[bE];cases rN a t<;>simp
def YE{c:l_}(h:c.Nodup):rD (rH c)=rD c:=(TJ (DLC.perm_of_sub h (λt a=>(BW _).mpr a) (Uh c))).symm
section
variable{n:Nat}{fs:List (List D)}(hf:uR n fs)
include hf
theorem Ra{t:k_}(h:t∈xh n fs):t∈xu n fs:=by obtain⟨b,a⟩:=Ir hf h;refine pF.mpr ⟨b,λe=>?_⟩;unfold A0 at a;rw[e] at a;cases a
theorem LK{t:k_}{b:Nat}:(mk fs t).testBit b=Ka↔b<(qv fs).length/\(qv fs).getD b (0,0)∈sN fs t:=by rw[ZR,aT,decide_eq_true_eq,bb]
theorem Mo{b:Nat}(h:b<(qv fs).length):(qv fs).getD b (0,0)=(qv fs)[b]:=by rw[bz,au h];rfl
theorem Uy:∀S:List (Nat×Int),(∀e∈S,e∈EN n fs)->∃f:l_,f.length=S.length/\(∀w∈f,w∈xh n fs)/\rD f<=cst S/\∀e∈S,∀b,e.1.testBit b=Ka->∃w∈f,(qv fs).getD b (0,0)∈sN fs w
 |[],_=>⟨[],rfl,λ_ h=>(bB h).elim,m7 _,λ_ h=>(bB h).elim⟩
 | e::S,h=>by
  obtain⟨f,a,b,c,d⟩:=Uy S λe he=>h e (ag _ he);obtain⟨t,j,rfl⟩:=ay.mp (h e al);obtain⟨l,m⟩:=pF.mp j;obtain⟨o,p,q,u⟩:=VG hf _ l (aw _) m;refine⟨o::f,by simp[a],λw hw=>?_,?_,λe he i g=>?_⟩
  ·rcases am.mp hw with rfl|hw
   ·exact p
   ·exact b w hw
  ·show sV o+rD f<=sV t+cst S;have:sV o<=sV t:=by unfold sV;lia
   lia
  ·rcases am.mp he with rfl|he
   ·exact⟨o,al,q _ ((LK hf).mp g).2⟩
   ·obtain⟨w,r,s⟩:=d e he i g;exact⟨w,ag _ r,s⟩
theorem Zr{m:Nat}{l:l_}(j:Kx n fs m l):tO (EN n fs) 26 (2 ^ (qv fs).length-1)=JU (((m:Nat):Int),rD l):=by
 have N:=Lp hf;have C:∀b,(2 ^ (qv fs).length-1).testBit b=Ka->b<(qv fs).length:=λb g=>by
  rw[jG] at g;simpa using g
 have Oz:2 ^ (qv fs).length<=16777216:=aI (cR 'u' N) 'u';obtain⟨q,r⟩:=MT (ms:=EN n fs) (f:=26) (l:=2 ^ (qv fs).length-1) 'd' (by
  have:cnt (2 ^ (qv fs).length-1)<=24:=by
   unfold cnt;refine aI (bu _ _) ?_;rw[bS];exact aw _
  lia) λb g=>by
  have g:=C b g;have p:=(FQ hf (bT g)).2;have O:=(FQ hf (bT g)).1;refine⟨_,ay.mpr ⟨CN n (qv fs)[b].2,pF.mpr ⟨((n3 hf).2 _ O).2.1,λe=>?_⟩,rfl⟩,(LK hf).mpr ⟨g,by rw[Mo hf g];exact p⟩⟩;have:=(pf.mp p).1;rw[e] at this;cases this
 obtain⟨S,⟨P,Q⟩,rfl⟩:=U2 r;obtain⟨U,a,b,c,d⟩:=Uy hf S P;have E:DLC.Cov (vB n fs) (qv fs) U:=⟨λt s=>by rw[BQ hf];exact b t s,λx p=>by
  obtain⟨i,h,rfl⟩:=cQ.mp p;obtain⟨e,Y,Z⟩:=Q i (by rw[jG];simpa using h);obtain⟨w,G,H⟩:=d e Y i Z;rw[Mo hf h] at H;exact⟨w,G,by rw[Ih hf (b w G)];exact H⟩⟩
 have hm:=j.lm.le E;obtain⟨k,I,k2,rfl⟩:=pH.mp j.best;obtain⟨q1,q2,u⟩:=DLC.cov_sound m j.lm.nd I;have o:=j.lm.len I;have v:PX (EN n fs) (2 ^ (qv fs).length-1) (k.map λt=>(mk fs t,sV t)):=⟨λe y=>by
  obtain⟨t,s,rfl⟩:=ay.mp y;have:=u.1 t s;rw[BQ hf] at this;exact ay.mpr ⟨t,Ra hf this,rfl⟩,λi h=>by
  have h:=C i h;obtain⟨t,J,L⟩:=u.2 _ (bT h);have M:=u.1 t J;rw[BQ hf] at M;rw[Ih hf M] at L;exact⟨_,ay.mpr ⟨t,J,rfl⟩,(LK hf).mpr ⟨h,by rw[Mo hf h];exact L⟩⟩⟩
 have O_:∀k:l_,cst (k.map λt=>(mk fs t,sV t))=rD k:=λk=>by
  induction k with
  |nil=>rfl
  |cons t k ih=>show sV t+cst _=sV t+rD k;rw[ih]
 have A:=Ti (λe y=>by
  obtain⟨t,_,rfl⟩:=ay.mp y;show 0<=sV t;unfold sV;lia) r _ v
 unfold leQ at A;rw[O_,ar,o] at A;dsimp only at A;have B:S.length=m:=by lia
 obtain⟨c',c1,c2⟩:=j.lm.all E 'd';have h1:=YR c1;rw[<- k2,TJ c2] at h1;rw[r,YE q2,B];congr 2;lia
theorem zhy{m:Nat}{l:l_}(j:Kx n fs m l){O:Ow}(c:Pl O)(o:okm O=Ka):JO [.tup (fs.map .tup)] O=.ok (.tup [.int (m:Nat),.int (rD l)]) O:=by
 have r:=Lp hf;obtain⟨f,u,v⟩:=I8 hf O;have i:∀t∈xu n fs,t∈J6 n:=λt b=>(pF.mp b).1;have w:(xu n fs).length<=27:=Ve (n3 hf).1;let A:Option D:=rm (fs.map .tup);let G:Option D:=sk ((xu n fs).map .str);let a:List Int:=(xu n fs).map λt=>((mk fs t:Nat):Int);let g:List Int:=(xu n fs).map sV;let M:Option D:=sk (a.map .int);have y:qA Kb 1 (qG (n_ 1 JJ (b_ (n_ 1 EJ (b_ (i_ qJ j_ rQ) g_)) g_))) (.one 3) [(qI (i_ (qf sD) (n_ 2 EI (b_ j_ tN)) yd))] [] rK [A,J9,J9] O=.ok (.lst ((xu n fs).map .str)) O:=
  (zt (l:=J6 n) (inj:=D.str) (p:=λt=>!(rN fs t).isEmpty) (e:=D.str) (τ:=λt=>[A,J9,J9,rn t]) (u4 (qz (qp (qz (qp (qu rfl rfl v)) (VE u O))) (z7D hf.n4 c))) (by have:=(n3 hf).1;lia) (λ_=>rfl) (λt b=>uf (qu (qz (qX rfl rfl) (VA hf b O)) rfl (Sl O _))) (λ_ _ _=>rfl)).trans rfl
 have B:qA Kb 1 (qG qc) (.one 3) [] [] (n_ 1 C1 (b_ (vm tN) g_)) [A,G,M] O=.ok (.lst (g.map .int)) O:=by
  refine(yi (l:=xu n fs) (inj:=D.str) (e:=λt=>D.int (sV t)) (τ:=λt=>[A,G,M,rn t]) (u4 rfl) 'd' (λ_=>rfl) (λt b=>qz (qp rfl) ((Vj (l:=[t]) (x:=.lst [.str t]) (λs C=>by rw[cA.mp C];exact uZ hf.n1 hf.n4 (i t b)) 'k' (.inl rfl) O).trans (by
   have:rD [t]=sV t:=by show sV t+0=_;lia
   rw[this])))).trans ?_
  show R.ok (D.lst _) O=_;congr 2;show _=((xu n fs).map sV).map D.int;rw[bw];rfl
 have E:i_ (fI xt) (i_ (fI v7) rV (qh rL (b_ (n_ 1 B0 (b_ j_ g_)) g_))) rV [A,G,M] O=.ok (.int ((2 ^ (qv fs).length-1:Nat):Int)) O:=by
  refine qu (qu rfl (sP (qp (qz (qp rfl) (Ni hf c))) ((show rL O [.lst ((qv fs).map pr)]=R.ok (D.int (((qv fs).map pr).length:Nat)) O from rfl).trans (by rw[ar]))) (Qn O 'd')) rfl ?_;show R.ok (D.int (((2 ^ (qv fs).length:Nat):Int)-1)) O=_;have:=Nat.one_le_two_pow (n:=(qv fs).length);congr 2;lia
 have N:2 ^ (qv fs).length<=16777216:=aI (cR 'u' r) 'u';have H:ua a g=EN n fs:=by
  unfold ua EN;show((((xu n fs).map λt=>((mk fs t:Nat):Int))).map Int.toNat).zip ((xu n fs).map sV)=_;rw[bw,List.zip_map'];rfl
 have h:Gm (.lst (a.map .int)) (.lst (g.map .int)) ((2 ^ (qv fs).length-1:Nat):Int)=JU (((m:Nat):Int),rD l):=by
  unfold Gm;dsimp only;rw[Mf,Mf];dsimp only;rw[Kd ⟨by lia,by lia,by show(ju _ _).length=(ju _ _).length;rw[ar,ar],by show(ju _ _).length<_;rw[ar];lia,aD.mpr λx I=>by
   obtain⟨t,_,rfl⟩:=ay.mp I;exact decide_eq_true 'd'⟩,cP,H]
  exact Zr hf j
 have J:xC ((2 ^ (qv fs).length-1:Nat):Int)<=26:=by
  unfold xC cnt;have:=bu ((2 ^ (qv fs).length-1:Nat):Int).toNat.testBit (aN 24);rw[bS] at this;lia
 show xf O.length (fin (JP [A,J9,J9] O))=_;have L:JP [A,J9,J9] O=.rt (.tup [.int (m:Nat),.int (rD l)]) O:=by
  unfold JP;refine sZ (x:=.lst ((xu n fs).map .str)) (O1:=O) y (sZ (x:=.lst (a.map .int)) (O1:=O) (qz (qX rfl rfl) (zeo hf i 'd' c)) (tQ ?_));unfold Ik;show((R.ok (D.lst (a.map .int)) O).bnd _)=_;show((qA Kb 1 (qG qc) (.one 3) [] [] (n_ 1 C1 (b_ (vm tN) g_)) [A,G,M] O).bnd _)=_;rw[B];show((i_ (fI xt) (i_ (fI v7) rV (qh rL (b_ (n_ 1 B0 (b_ j_ g_)) g_))) rV [A,G,M] O).bnd _)=_;rw[E];show(if xC ((2 ^ (qv fs).length-1:Nat):Int)<=26/\okm O=Ka then (match Gm (.lst (a.map .int)) (.lst (g.map .int)) ((2 ^ (qv fs).length-1:Nat):Int) with
  |some q=>R.ok (dP q) O
  |none=>R.bad) else R.bad)=_
  rw[Kd ⟨J,o⟩,h];rfl
 rw[t8 L];have:=Ak c [] (d:=.tup [.int (m:Nat),.int (rD l)]) (d':=.tup [.int (m:Nat),.int (rD l)]) rfl;rw[bX] at this;exact this
end
def At(O:Ow):Prop:=∀c∈O,∀d∈c,Bx d=Ka
def At.pl{O:Ow}(h:At O):Pl O:=λc a d b=>by
 have:=h c a d b;cases d<;>first|exact this|cases this
def At.okm{O:Ow}(h:At O):okm O=Ka:=aD.mpr λc a=>aD.mpr λd b=>by
 have:=h c a d b;cases d<;>first|rfl|cases this
def At.set{O:Ow}(h:At O)(m:Nat)(s:Int)(b:Bool):At (O.set m [.int s,.bl b]):=λc e d a=>by
 rcases ik e with q|q
 ·exact h c q d a
 ·subst q;simp only[am,bB,or_false] at a;rcases a with rfl|rfl<;>rfl
def At.app{O:Ow}(h:At O)(s:Int)(b:Bool):At (O++[[.int s,.bl b]]):=λc e d a=>by
 rcases aO.mp e with q|q
 ·exact h c q d a
 ·have:c=[.int s,.bl b]:=⇑q
  subst this;simp only[am,bB,or_false] at a;rcases a with rfl|rfl<;>rfl
def zg2(O:Ow)(i j:Int):qf sD O (.tup [.int i,.int j]) (.tup [.int i,.int j])=.ok (.bl Kb) O:=(K4 O (x:=.tup [.int i,.int j]) (y:=.tup [.int i,.int j]) rfl rfl (b:=Ka) 'k').2
structure Xg(n:Nat)(fs:List (List D))(m:Nat)(l:l_):Prop where
 inn:∀t∈l,t∈xh n fs
 srt:l.Pairwise (· < ·)
 len:l.length=m
 cov:∀x∈qv fs,∃t∈l,x∈sN fs t
def Xx{n m:Nat}{b:List (List D)}{l:l_}(e:uR n b)(d:Kx n b m l):Xg n b m l:=by
 obtain⟨c,f,r,rfl⟩:=pH.mp d.best;obtain⟨s,j,g⟩:=DLC.cov_sound m d.lm.nd f;have h:∀t∈c,t∈xh n b:=λt a=>by
  have:=g.1 t a;rwa [BQ e] at this
 have o:=DLC.perm_of_sub j (λt a=>(BW _).mpr a) (Uh c);refine⟨λt a=>h t ((BW _).mp a),I_ c,by rw[<- o.length_eq];exact d.lm.len f,λx p=>?_⟩;obtain⟨t,i,q⟩:=g.2 x p;exact⟨t,(BW _).mpr i,by rwa [Ih e (h t i)] at q⟩
def zeN{Pt:Nat}{ns:List Int}{k:Nat}{O:Ow}(G:At O){y2 y3:Option D}:
  ∃H I u,Ig Pt [sk (ns.map .int),p_ (k:Int),y2,y3,JU (.tab Pt)] O=.nx [sk (ns.map .int),p_ (k:Int),H,I,JU (.tab Pt)] u/\At u:=by
 obtain⟨s,b,J,M⟩:=zer (ns:=ns) (k:=k) O;have v:=G.app s b;obtain⟨n,j,w,d,N,f2⟩:=z4I v.pl M;have g:=v.set O.length w b;generalize P:O++[[D.int s,D.bl b]]=Q at *;generalize S:Q.set O.length [D.int w,D.bl b]=c at *;let A:Option D:=sk (ns.map .int);let B:Option D:=p_ (k:Int);let o:Option D:=rm (j.map .tup);let y:Option D:=JU (.tab Pt);obtain⟨m,l,p,i⟩:=zen d;have f:=Xx d p;have i:=i Pt c g.pl;let L:Option D:=JU (toT l);have q:∀t∈l,t∈J6 n:=λt h=>(Ir d (f.inn t h)).1;have C:∀t∈l,t∈oZ:=λt h=>uZ d.n1 d.n4 (q t h);have h8:l.length<=8:=by rw[f.len];exact p.le
 have U:JY j l=Ka:=by
  unfold JY;rw[aT,aD,aD];refine⟨λt h=>?_,λx Y=>?_⟩
  ·have:=(pF.mp (Ra d (f.inn t h))).2;cases e:rN j t with
   |nil=>exact absurd e this
   |cons=>rfl
  ·obtain⟨t,Z,t2⟩:=f.cov x Y;exact fF.mpr ⟨t,Z,bb.mpr t2⟩
 have E:=za6 d q 'd' c g.pl (z7F d.n1 d.n4 q f.srt 'd' c);rw[U] at E;have e3:=zhy d p g.pl g.okm;have r:Ad (vo (sI (n_ 2 JM (b_ qt tN)))) (vo (sI (n_ 2 Jw (b_ (vn Pt 4 1 (EH Pt) (b_ qt g_)) tN)))) [A,B,o,L,y] c=.ok Kb c:=
  FL (a:=Kb) (b:=Kb) (yr (b:=Ka) (xw (qz (qX rfl rfl) E))) λ_=>yr (b:=Ka) (xw (qz (qX (FI rfl (qp rfl) i) rfl) (Yz C 'd' c)))
 have qR:qI (i_ (qf sD) (vZ (b_ (qh rL tN) (b_ (n_ 1 C1 tN) g_))) (n_ 1 JO (b_ qt g_))) [A,B,o,L,y] c=.ok Kb c:=by
  refine uf (qu (Iu (qX (sP (qp rfl) ((CY c _).trans (by rw[ar,f.len]))) (qz (qp rfl) (Vj C 'd' (.inr rfl) c))) (by show 2<=4000000;decide)) (qz (qp rfl) e3) (zg2 c _ _))
 exact⟨o,L,c,sZ (qz (qp (qz (qX rfl rfl) J)) N) (sZ (FI rfl (qp rfl) i) (uY r ((BJ qR).trans rfl))),g⟩
def pure_law(Pt:Nat)(ns:List Int)(f:ns.length<=63):∃O,F_law Pt [.lst (ns.map .int)] []=.ok (.bl Ka) O:=by
 let A:Option D:=sk (ns.map .int);let b:Option D:=JU (.tab Pt);obtain⟨m,g,h⟩:=zdP f [A,J9,J9,J9,b] 3 'u' rfl;obtain⟨j,a,l,d,y2,y3,rfl,s⟩:=FE (i:=1) (body:=Ig Pt) (A3 (qp h) g) (λ_ e a=>∃d y2 y3,e=[A,d,y2,y3,b]/\At a) (λ_ i e a _ n=>by
   obtain⟨d,y2,y3,rfl,o⟩:=n;obtain⟨t,u,v,p,q⟩:=zeN (Pt:=Pt) (ns:=ns) (k:=i) o (y2:=y2) (y3:=y3);exact⟨_,_,p,_,_,_,rfl,q⟩) ⟨J9,J9,J9,rfl,λc r=>by cases r⟩
 refine⟨a,?_⟩;show fin (qd (uC (uE (b_ (qh Ed (b_ rV (b_ (qh CK (b_ (qh rL (b_ j_ g_)) (b_ (dC (.int ((3:Nat):Int))) g_))) g_))) g_)) (.one 1) (Ig Pt)) (qm Cv) [A,J9,J9,J9,b] [])=_;rw[yV l];rfl
end K62
open PySem PySem.W PyProof.Rows
set_option maxRecDepth 100000 in
set_option maxHeartbeats 0 in
theorem PySem.Challenge.cw_leastterms_k62_least_shared_forms_holds : PySem.Challenge.rw_leastterms_k62_least_shared_forms.Holds := by
 w_on;refine mC K62.ws fun NK=>?_;refine PySem.W.holds_openX (q:=K62.Qv) (loose:=K62.Lv) (N:=3860) (Xt:=K62.Xv) (XP:=PySem.W.XL K62.Qv []) (Yf:=(fun s=>(PySem.W.Hook.obs K62.Hk s,decide (0<s.toks)))) (Ya:=(fun w=>(PySem.W.Hook.val K62.Hk w,true))) K62.lw (fun s e=>PySem.W.xl_of s (jb.mp e).1) PySem.W.XL.keeps (by rfl) (by rfl) (by rfl) (fun s e=>PySem.W.recFacts_of (jb.mp e).2) (by rfl) (by first|assumption|decide +kernel) (by decide +kernel) ⟨rfl,rfl,rfl,rfl,rfl,by decide +kernel⟩ ?hw ?hc;(case hw=>w_witness2)
 delta K62.Hk;k_fill
 refine DL.walkU (xd := "covers") (l:=PySem.Challenge.rw_leastterms_k62_least_shared_forms) (k:=29) (x := "_law_script") (F:=K62.F_law) rfl rfl ⟨rfl,by decide,by decide⟩ (PySem.W.Hook.of K62.Hk) (PySem.W.Hook.keeps K62.Hk) (fun w h Y=>PySem.W.km_in_of Y) ?R ?F K62.pure_law
 case R=>first|rfl|kernel_rfl
 case F=>
  intro w mg fa h KX G GX
  refine' K62.all_mk KX G GX ⟨'5','5','5','5','5','5','5','5','5','5','5','5','5','5','5','5','5','5','5','5','5','5','5','5','5','5','5','5','5','5','5','5','5','5','5','5','5','5','5','5','5','5','5','5','5','5','5',bJ KX G ?_,bJ KX G ?_,bJ KX G ?_,bJ KX G ?_,bJ KX G ?_,bJ KX G ?_,bJ KX G ?_,bJ KX G ?_,bJ KX G ?_,bJ KX G ?_,bJ KX G ?_,bJ KX G ?_,bJ KX G ?_,bJ KX G ?_,bJ KX G ?_,bJ KX G ?_,bJ KX G ?_,bJ KX G ?_,K62.gs_mk KX G ?_,K62.gt_mk KX G ?_ ?_ ?_ ?_,K62.gi_mk KX G ?_⟩ ?Ha ?Hl ?_ ?_ ?Ha2 ?Hl2 ?_ ?_ ?Gh4 ?Gh5 ?_
  (case' Ha|Hl|Ha2|Hl2|Gh4=>k_is)
  (case Gh5=>rfl)
  all_goals first|k_is|kernel_rfl|rfl|skip
end
