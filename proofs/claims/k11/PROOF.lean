import PyProof.Rows.All
import Wide.All
import OpenK.AllK
import Wide.FinOn
import Lean
import PyProof.EqAt
import PyProof.EqKinds
import PyProof.TupleCall
import PySem.Challenge.RW_leastterms_k11_forms_looked_at
noncomputable section
set_option compiler.extract_closed false
set_option Elab.async false
set_option linter.all false
set_option autoImplicit true
set_option relaxedAutoImplicit true
set_option maxRecDepth 100000
open PySem renaming wpAny_bind->aa,Value->ae,Addr->af,Shared->ah,wpAny_pure->aj,wpAny->ao,Str->aq,model->au,starEach->aF,Program->aK,Expr->aR,Heap->aS,World->aT,Around->aU,bootBuiltins->bd,mem_of_lookup->bq,wpAny_field->bA,wpAny_holding->bG,wpAny_setField_rec->bK,rawInt->bN,wpAny_newObj_type->bO,Comprehension->bR,wpAny_call_entry->bU,mainGlobals->bX,wpAny_mono->cj,foldedSetIterable->cq,Scope->cu,wpAny_callSpecial?_slot->cx,compareOp->cz,cellsFrom->cA,Paired->cD,Stmt->dh,wpAny_truthy_bool->di,NameKind->dD,wpAny_seqItems->dF,importedModules->dH,wpAny_rule->dP,FuncData->d0,Builtin->d9,codeAny_mono->ef,PyData->ez,codeAny_builtin->eC,binaryOp->eG,Arguments->eR,wpAny_askSetting->eU,wpAny_Call_Name_kw->fh,wpAny_passesOwn->fq,wpAny_with_toks->ft,wpAny_standAt->fA,wpAny_attempt->fB,plainId_quiet->fE,wpAny_pyIter_list->fH,IsPair->fK,wpAny_setState_of->fL,Keyword->fQ,wpAny_execs_nil->fZ,wpAny_pyIter_tuple->f7,wpAny_updateSeq->f9,wpAny_letGo->gf,IsPart->gp,wpAny_setField->gq,wpAny_tryCatch->gA,wpAny_execs_cons->gE,wpAny_newList->gR,OsState->gT,codeAny_of_tree->g9,wpAny_typeOf->ie,IsEnum->im,Model->iq,assignEach->ir,wpAny_call->iu,wpAny_newTuple->iw,swapsWithSole->iS,swappedStores->iU,wpAny_onRaise->iW,wpAny_isInstance->i5,BindsTo->i7,Params->i9,wpAny_Name->jb,wpAny_loadName_local->jc,pushCells_keeps->jf,wpAny_updateSeq_pair->jg,wpAny_loadName_cell->jl,wpAny_setEntries_of->jo,ElemsOf->jt,isSubtype_type->ju,wpAny_of_eq->jz,PassesOwn->jE,concat_meets->jF,wpAny_newFunctionEnv_cells->jN,wpAny_assign_Name->jS,wpAny_sequenceKey->jT,wpAny_pyIter_slot->jU,fits_of_scanBound->jW,IsZip->j6,noFill_tuple_add->kg,wpAny_getItem_of->ki,SetTable->ko,sizeLine_eq->kK,wpAny_Call_method_late->kN,wpAny_isTrue_Compare1->kU,codeAny_call_function->kX,exec_Assign_Name_used->k8,intText?->k9,isSubtype_stop->lf,builtinLookup_eq_fast->lr,wpAny_load->lA,typeIs_str->lC,codeAny_call_builtin->lE,wpAny_newFunctionEnv->lF,seq_tuple_add->lO,wpAny_loadName_free->lX,nums_intItems->ma,pushCells->ms,seqIndex_of->ng,GenState->nk
open Option renaming some->YP,none->JL
open Bool renaming true->JQ,false->JU
abbrev JV:=@if_pos
abbrev JW:=@if_neg
open PyProof.Rows renaming arrOf->JX,pendingOf->J0
open PySem renaming sizeLine->J3
local macro_rules|`(⇑$e)=>`(by simpa using $e)
local macro_rules|`('1')=>`(by walk_at "s")
local macro_rules|`('2')=>`(by walk_at "e")
local macro_rules|`('3')=>`(by walk_at "le")
local macro_rules|`('4')=>`(by walk_at "u")
local macro_rules|`('5')=>`(by walk_at "a")
local macro_rules|`('6')=>`(by walk_at "z")
local macro_rules|`('7')=>`(by walk_at "ss")
local macro_rules|`('8')=>`(by walk_at "t")
set_option hygiene false in
local macro_rules|`('9')=>`(K11.fa_mk KX G ?_ ?_ ?_ ?_)
local macro_rules|`('d')=>`(by lia)
local macro_rules|`('k')=>`(by simp)
local macro_rules|`('u')=>`(by decide)
local macro_rules|`('b')=>`(by kernel_rfl)
local macro_rules|`('c')=>`(by decide +kernel)
open PySem.Heap renaming get?_push_of_some->ag,get?_push_size->aE,lt_size->aJ,get?_update_other->bj,get?_update_self->bH,size_push->cr,SameBut->de,size_update->gG,get?_none_of_le->ja,ExtBut->jA
open False renaming elim->ai
open PySem.W renaming Frag->ak,kitOne->aW,fnOf->br,mg_none_of->bD,kla_fn->cC,boot_heap->cJ,mg_of->cR,keepIn->cZ,InstAt->c8,codeIn->dE,findIn->dU,exmOne->eZ,cellsFrom_some->gd,tabIn->gQ,nsIn->il,specialIn->iB,mroIn->iV,noTabs->jv,FnAt->kl,takesIn->kE,kia_one->kF,kla_obj->kG,tabObj->lc,kla_codeExpr->lG,ofPys->lQ,excIn->lS,callWith_K->ml,codeRec_of->mm,OpenLaw->mo,ofPy->mq,SharedT->mK,holds_law->mL,kitx_none->mR,kitx_bool->mS,kitx_list->mT,kitx_dict->mU,plainGet->nu,instObj->nM,kitAny->nX,CodeHd->nY,tab_of->oh,clsIn->on,isFn->oD
open List renaming mem_cons_of_mem->al,getElem?_eq_some_iff->am,mem_cons->ar,mem_cons_self->av,getElem?_eq_getElem->aw,length_append->az,mem_map->aA,replicate->aB,mem_append_right->aC,all_eq_true->aD,length_map->aI,getElem?_append_left->aL,mem_of_getElem?->aO,mem_append->aP,size_toArray->aQ,getD_eq_getElem?_getD->aV,getElem?_set_ne->aX,getElem?_eq_none_iff->aY,getElem?_set_self->aZ,append_assoc->bh,mem_filter->bo,length_cons->bt,getElem?_append_right->bu,length_filter_le->bz,nodup_cons->bB,range->bE,getElem?_map->bF,length_take->bI,map_map->bJ,not_mem_nil->bL,map_cons->bQ,pairwise_cons->bS,append_nil->bV,mem_range->bZ,contains_iff_mem->b9,mem_append_left->ci,length_drop->ck,pairwise_append->cm,mem_of_mem_take->cn,mem_singleton->cE,set_set->cF,length_set->cG,take_append_drop->cH,map_inj_left->cK,mem_of_mem_drop->cN,take_of_length_le->cP,getElem_mem->cS,perm_append_comm->cU,take_sublist->cV,length_range->cX,length_eq_zero_iff->cY,drop_sublist->dk,map_append->dI,filter_cons_of_neg->dN,filter_cons_of_pos->dO,filterMap_cons->dZ,drop_eq_getElem_cons->d7,pairwise_iff_getElem->d8,any_eq_true->ei,mem_iff_getElem->er,length_singleton->eH,drop_drop->eI,find?_cons->eJ,drop_append_of_le_length->eS,getElem?_replicate->eT,lookup_cons->eV,drop_of_length_le->fe,nil_append->fu,foldl_cons->fv,nodup_append->fG,flatMap_cons->fJ,getElem?_take_of_lt->fT,mem_reverse->fU,mem_flatMap->fX,filter_sublist->fY,find?_cons_of_neg->gg,take_take->gr,take_succ->gu,lt_irrefl->gz,map_id'->gC,filter_cons->gF,take_length->gH,getElem_map->gJ,any_cons->gO,map_congr_left->gX,length_nil->gZ,forIn_cons->g8,mem_or_eq_of_mem_set->hU,mem_filterMap->hV,nodup_nil->iy,all_eq_not_any_not->iA,reverse_cons->iE,pairwise_map->iF,not_lt->iO,find?_cons_of_pos->iQ,lt_trans->iY,cons_append->i3,zipIdx_cons->i4,getElem?_toArray->i8,of_mem_zip->jd,countP_eq_length_filter->jw,map_id->jC,getElem?_take->jH,zip_cons_cons->jK,getElem?_take_eq_none->jQ,length_eraseIdx_of_lt->jR,flatten_cons->jV,any_eq_false->jX,extract_eq_take_drop->j7,getElem_inj->j9,map_nil->kh,le_antisymm->kn,all_flatMap->kw,pairwise_singleton->kB,length->kL,filter_eq_nil_iff->kT,length_replicate->kW,forIn_nil->k7,drop_zero->li,cons_lt_cons_iff->ll,set_append_left->lL,all_cons->lV,sum_cons->lW,getElem?_range->lY,filter_eq_self->lZ,replicate_succ->l8,getElem_of_mem->l9,length_reverse->me,getElem?_drop->mx,filter_append->mH,filter_filter->mI,getElem_take->mX,getElem_drop->mY,reverse_perm->mZ,ext_getElem?->m7,foldl_append->m8,all_toArray->nD,drop_length->nG,isEmpty_map->nH,isEmpty_iff->nJ,zipIdx_nil->nQ,length_zip->nR,drop_take->n6,drop_left->n8,take_left->n9,take_add->ou
open Nat renaming le_refl->ay,le_trans->aM,lt_of_lt_of_le->ba,ne_of_lt->bb,lt_irrefl->bP,zero_le->cw,lt_succ_self->cI,succ_pos->c9,lt_succ_of_lt->dj,ne_of_gt->dB,zero_max->eo,add_sub_cancel_left->eB,le_succ->eD,le_of_ble_eq_true->fy,pow_le_pow_right->fO,min_eq_left->gc,le_of_lt->gm,lt_of_le_of_lt->ij,le_of_eq->ip,le_add_right->iZ,not_lt->j4,lt_or_ge->ku,add_assoc->lT,sub_self->my,zero_add->mz,one_le_two_pow->mG,le_of_succ_le->mP,one_ne_zero->nU,le_antisymm->nV
open Array renaming length_toList->aG,getElem?_eq_getElem->a8,toList_append->bT,size_push->cB,getElem?_toList->dG,perm_iff_toList_perm->dS,getElem?_eq_some_iff->eF,toList_push->eQ,getElem_toList->fN,size_append->gi,map->gD,getElem?_setIfInBounds_self->iM,toList_setIfInBounds->jP,size_setIfInBounds->km,getElem?_eq_none->kS,size_map->lj,mk->lv,toList_extract->lH,toList_reverse->lI,append_assoc->mi,toList->mj,toList_inj->nE,toList_map->nF,size_zip->oa
open PyProof.Rows renaming wpS_bind->aH,wpS_pure->aN,KeyKind->a7,envOfC->a9,Keyed->bg,slot_tuple_getitem->bM,SortSt->cf,wpS_forRange->cT,wpS_mono->dQ,callWith_type1->fg,wpS_modify->fM,StrsAre->ge,AllBare->gk,wpS_get->gW,listUpdate_at->iX,listItems_at->jj,entry_tuple_getitem->jm,KeysOf->jn,slicePart_none->jp,wpS_lift->js,seqEpoch_at->jB,args_tuple_getitem->jG,SortedToK->jJ,KK_mirror_equal->kH,entry_list_sort->kI,subscriptTail_builtinR->kM,wpS_reverse->kQ,IntsAre->kY,slot_list_sort->lp,args_list_sort->lq,Call_->lu,Subscript_->lB,tupleItemsOf_->lP,strKind_oneLt->lU,recsOf->mh,plain_sorted->mB,entry_sorted->mC,args_sorted1->mD,kind_sorted->nj
open Bool renaming and_eq_true->be,false_ne_true->cO,false_eq_true->dL,eq_iff_iff->eM,not_eq_true'->gh,and_eq_true_iff->gK,not_not->mJ,eq_false_iff->mO,or_eq_true->nO,false_or->om,and_comm->oB,and_true->oC
open PySem.PyData renaming eqv->bi,eqvAll->fF,list->fP,tuple->ik,canLay0->jq,depth->mw,canLayAll0->mQ,depthAll->nN
open PySem.Obj renaming mapSeq->bw,data_mapFields->dM,isFreed_of_fields->ee,mapFields->fC,putSet->lK,cls_mapFields->mV
open Ne renaming symm->bC
open PySem.Builtin.Str renaming occurrences->cb
open PySem.Challenge renaming rw_leastterms_k11_forms_looked_at->cg,pw_leastterms_k11_forms_looked_at->cQ
open Option.some renaming inj->cy
open PySem.Value renaming none->cL,ref->dJ,type->eE,isStrOf->fz,builtin->gP,isInt->iH,isStrOf_shape->jk,str->kC,bool->lz,int->oi
open PySem.Builtin.SmallTypes renaming nextOf->cM,ownedTupleIsFree->eu,ownedTupleHandOut->fj
open PySem.Builtin.Slice renaming slicePlaces->dg,sliceApplied->gM,sliceAdjust->gY
open PySem.NameKind renaming free->dq,cell->dR
open Sum renaming inr->dr,inl->gU
open PySem.F renaming plain_min_loop->dW,slot_enumerate_next->fw,slot_tuple_iterator_next->fD,called_set->fV,slot_dict_getitem->g7,args_tuple_add_2->ic,entry_tuple_add->iz,slot_tuple_add->iI,plainAttrs_str->iK,entry_min_loop->iP,slot_zip_next->jh,args_tuple_iterator_next_1->jr,entry_tuple_iterator_next->jI,excBase_ValueError->jO,slot_dict_delitem->jZ,plainAttrs_list->kz,args_enumerate_next_1->kA,entry_enumerate_next->kP,slot_list_append->kZ,slot_enumerate_iter->lg,slot_list_extend->lh,attr_ValueError->mM,args_zip_next_1->mW,entry_zip_next->nB
open PySem.Heap.SameBut renaming update->d6
open True renaming intro->eL
open PySem.Around renaming under_plainId->eN,frames_deeper->je
open List.Pairwise renaming nil->eO,imp->jY
open List.Perm renaming refl->e9,append_left->fx
open PySem.SetTable renaming below->fc,grown->fR,fits->oA
open And renaming intro->fi
open PyProof.Rows.F renaming plain_set_update_loop->fk,entry_set_update_loop->io
open PySem.Builtin.Tuple renaming tupleExact->fW,tupleItemsOf->gN
open PySem.Calls renaming spliced_cons->f6,call_function_entry->hJ,spliced_nil->iC,evalArgs_plain->iJ,Constant_str->jD,Name_function_global->jM,callWith_builtin->kO
open ForInStep renaming yield->f8
open PyProof.Rows.KeyOrd renaming kle_of_klt->gj,kle_trans->i6
open PySem.Str renaming ofString->gL
open Option renaming isSome_iff_exists->h9,map_eq_some_iff->iG,none->jy,isSome_some->mr,getD_none->nv,map->nK
open PySem.Builtin.List renaming listTooLong->ig,listSameRef->kr,listItems->kR
open Int renaming toNat_natCast->iD
open Array.Perm renaming refl->ji
open Sum.inr renaming inj->jx
open PySem.Builtin.Builtins renaming bindParams->jL
open PySem.Builtin.ObjectAttr renaming bindTo->j0
open PySem.Walks renaming list->j5
open Classical renaming byContradiction->j8
open PySem.PassesOwn renaming never->kJ
open Prod renaming fst->lD,ext->nq,snd->ny
open PyProof.Rows.SortSt renaming mk'->lJ
open PySem.Paired renaming length->lN
open PySem.Code renaming compLoop->lR,compStart->nW
open PySem.EntryCells renaming newEntry->l7
open PySem.Heap.IsSliceOf renaming new->mn
open PySem.pickOrder renaming go->mE
open Nat.succ renaming inj->mF
open PySem.SetTable.below renaming go->m9
open PySem.Txt renaming stripChars->nZ
open PySem.Builtin.Frozenset renaming updateFrom->og,newClass->oy,slot0->oF
open PySem.W.WData renaming int->oj
open PySem.Shared renaming TypeIs->oz,heap->oJ
open PySem.SeqAt renaming shaped->oE
open PySem.W.OpenRow renaming toRowW->oG
open Prod.mk renaming inj->oH
namespace K11
open PySem PySem.W
noncomputable def ty(i:Nat):dh:=cQ.main.body.getD i (.Pass ⟨0,0,0,0⟩)
def Qv:aK:={ cQ with main:={ cQ.main with body:=[ty 1,ty 2,ty 3,ty 4,ty 5,ty 6,ty 7,ty 8,ty 9,ty 10,ty 12,ty 13,ty 14,ty 16,ty 17,ty 18,ty 19,ty 20,ty 21,ty 23,ty 24,ty 25,ty 26,ty 27,ty 28,ty 29,ty 30,ty 31,ty 33,ty 34,ty 35,ty 36,ty 37,ty 38,ty 40,ty 41,ty 42,ty 43,ty 44,ty 45,ty 46,ty 47,ty 49,ty 50,ty 51,ty 52,ty 53,ty 54,ty 55,ty 56,ty 57,ty 58,ty 59,ty 60,ty 61,ty 62,ty 63,ty 64,ty 65,ty 66] } }
def Lv:List aq:=[gL "SWITCHES_BY_POINTS"]
def Xv:ah → Bool:=λs=>PySem.W.xlAt Qv [] s&&PySem.W.recOk (PySem.W.RowW.records (oG cg.row)) s
def bY{α β a:Type}{x:Option α}{f:α → β}{g:α → a}{b:β}{c:a}(d:x.map f=YP b)(e:x.map g=YP c):x.map (λs=>(f s,g s))=YP (b,c):=by
  cases x with
  |none=>cases d
  | some s=>
    have h:f s=b:=cy d;have i:g s=c:=cy e;show YP (f s,g s)=_;rw[h,i]
end K11
section
open PySem PySem.W PyProof.Rows
set_option maxRecDepth 100000 in
def K11.ws:cg.wellSaid=JQ:=by kernel_rfl
local macro_rules|`(tactic| o_head $H)=>`(tactic| skip)
set_option maxRecDepth 100000 in
set_option maxHeartbeats 0 in
def K11.hp:False → cg.Holds:=by
  intro a
  w_on;refine mL K11.ws λb=>?_;k_head
  all_goals exact a.elim
end

namespace DLT
open PySem PySem.W
noncomputable def pG(tb:String → Option d9)(p:aK)(w:aT)(m:Nat)(an:Option ae):Nat → mK → Thread → Option mK
  |0,_,_=>JL
  | k+1,a,th=>match through th with
    |true=>YP a
    | false=>match stepOk m an th with
      |false=>JL
      | true=>match stepT (denote tb) p w a th with
        |some (b,V_)=>pG tb p w m an k b V_
        |none=>JL
theorem pM{c:String → Option d9}{p:aK}{w:aT}{m:Nat}{d:Option ae}:∀{k:Nat}{a z:mK}{th:Thread},pG c p w m d k a th=YP z → topRun c p w m d k a.abs th=YP z.abs
  |0,_,_,_,H=>by cases H
  | k+1,a,z,th,H=>by
    unfold pG at H;unfold topRun;cases f:through th with
    |true=>rw[f] at H;cases H;rfl
    | false=>
      rw[f] at H;cases g:stepOk m d th with
      |false=>rw[g] at H;cases H
      | true=>
        rw[g] at H;cases e:stepT (denote c) p w a th with
        |none=>rw[e] at H;cases H
        |some q=>obtain⟨b,h⟩:=q;rw[e] at H;rw[stepT_spec e];exact pM H
def pL:Nat → BT → List Obj → BT
  |_,T,[]=>T
  |i,T,o::os=>pL (i+1) (T.ins i o) os
noncomputable def pF(P:i9):BT:=pL 0 .nil (cJ P).objs.toList
def boot_abs:∀P:i9,absHeap (pF P) (cJ P).objs.size (cJ P).life=cJ P:=λP=>by kernel_rfl
noncomputable def JR(P:i9)(os:gT):mK:=⟨pF P,(cJ P).objs.size,(cJ P).life,lv [],boot_drawn,boot_toks,os⟩
noncomputable def s0(P:i9)(os:gT):ah:=⟨cJ P,lv [],boot_drawn,boot_toks,os⟩
def pQ(P:i9)(a:gT):(JR P a).abs=s0 P a:=by unfold JR s0 SharedT.abs;rw[boot_abs P]
def pN:∀P:i9,((cJ P).isNs bX&&(lv []:Array nk).size==0,(cJ P).objs.size,(cJ P).nsMap bX "__annotations__")=(JQ,11,YP (.ref 6)):=λP=>by kernel_rfl
def chk(p:aK)(h:aS)(s:ah):Bool:=staticsOk (dH p.main.body) h s.heap&&namesBound p s.heap&&gensDone s&&laidKept h s.heap
def pI{p:aK}{w:aT}{P:i9}{b:gT}{N:Nat}{α:Type}{f:ah → α}{a:α}(h:(pG treeTable p w 11 (YP (.ref 6)) N (JR P b) (topStub p)).map (λs=>(chk p (cJ P) s.abs,f s.abs))=YP (JQ,a)):(topFrom treeTable p w N (s0 P b)).map f=YP a:=by
  obtain⟨s,e,d⟩:=iG.mp h;have r:=pM e;rw[pQ] at r;obtain⟨g,i,j⟩:_ ∧ _ ∧ _:=by simpa only[Prod.mk.injEq] using pN P
  obtain⟨k,l⟩:=oH d;unfold topFrom;show nK f (match (cJ P).isNs bX&&(lv []:Array nk).size==0 with
    | true=>(topRun treeTable p w (cJ P).objs.size ((cJ P).nsMap bX "__annotations__") N (s0 P b) (topStub p)).bind λc=>match chk p (cJ P) c with
      |true=>YP c
      |false=>JL
    |false=>JL)=YP a
  rw[g,i,j,r];show nK f (match chk p (cJ P) s.abs with
      |true=>YP s.abs
      |false=>JL)=YP a
  rw[k];exact congrArg YP l
def pS{α β a e:Type}{x:Option α}{f:α → β×a}{g:α → e}{b:β}{c:a}{d:e}(h:x.map (λs=>((f s).1,g s))=YP (b,d))(i:x.map (λs=>(f s).2)=YP c):x.map (λs=>(f s,g s))=YP ((b,c),d):=by
  cases x with
  |none=>cases h
  | some s=>
    obtain⟨j,k⟩:=oH (cy h);have l:(f s).2=c:=cy i;exact congrArg YP (nq (nq j l) k)
noncomputable abbrev R(p:aK)(N:Nat)(w:aT)(P:i9)(os:gT):Option mK:=pG treeTable p w 11 (YP (.ref 6)) N (JR P os) (topStub p)
def left_of{p q:aK}{loose:List aq}{Xt:ah → Bool}{α:Type}{Yf:ah → α}{Ya:aT → α}{N:Nat}{b:Bool}(a:String)(e:opening p=plainProg p.main.scope.names)(i:Nat.ble 600 N=JQ)(j:∀s,fenceModules? p s=YP s)
    (l:∀(v:Bool)(w:aT)(c:gT),(R p N (w.withFollow a v) w.params c).map (λs=>(chk p (cJ w.params) s.abs,((openSeen q loose (dH p.main.body) Xt b s.abs).1,Yf s.abs)))=YP (JQ,(openGood q loose).1,Ya (w.withFollow a v)))
    (m:∀(v:Bool)(w:aT)(c:gT),(R p N (w.withFollow a v) w.params c).map (λs=>(chk p (cJ w.params) s.abs,(openSeen q loose (dH p.main.body) Xt b s.abs).2))=YP (JQ,(openGood q loose).2)):
    LeftO p q loose Xt Yf Ya N b:=LeftO.of_split a λw=>by
  obtain⟨⟨h,n,d,k,c⟩,x,y⟩:=iG.mp (boot_open e i j w);obtain⟨rfl,rfl,rfl,rfl⟩:h=cJ w.params ∧ n=lv [] ∧ d=boot_drawn ∧ k=boot_toks:=⇑y
  rw[x];have go (v:Bool):(topFrom treeTable p (w.withFollow a v) N (s0 w.params c)).map (λs=>(openSeen q loose (dH p.main.body) Xt b s,Yf s))=YP (openGood q loose,Ya (w.withFollow a v)):=
    pS (f:=λs=>openSeen q loose (dH p.main.body) Xt b s) (g:=Yf) (pI (f:=λs=>((openSeen q loose (dH p.main.body) Xt b s).1,Yf s)) (l v w c)) (pI (f:=λs=>(openSeen q loose (dH p.main.body) Xt b s).2) (m v w c))
  exact congrArg YP (nq (go JU) (go JQ))
end DLT

namespace K11
open PySem PySem.W
abbrev As:List af:=[2,3,15,22,23,24,25,28,35,36,37,40,47,48,49,52,59,60,61,64,71,72,73,76,83,84,85,88,95,96,97,100,107,108,109,112,119,120,121,124,131,132,133,136,138,139,141,142,143,145,146,148,149,150,153,154,155,156,158,159,161,162,163,166,167,168,170,171,173,174,175,177,178,180,181,182,185,186,187,190,191,192,195,196,197,200,201,202,204,205,207,208,209,212,213,214,216,217,219,220,221,223,224,226,227,228,231,232,233,236,237,238,241,242,243,246,247,248,250,251,253,254,255,258,259,260,263,264,265,268,269,270,273,274,275,278,279,280,283,284,285,288,289,290,293,294,295,297,298,300,301,302,304,305,307,308,309,311,312,314,315,316,318,319,321,322,323,325,326,328,329,330,333,334,335,337,338,340,341,342,345,346,347,350,351,352,355,356,357,360,361,362,364,365,367,368,369,372,373,374,377,378,379,382,383,384,387,388,389,392,393,394,397,398,399,401,402,404,405,406,409,410]
noncomputable def Hk:PySem.W.Hook:=PySem.W.kmHook K11.hp.heap_1 K11.As (λ_=>by kernel_rfl) [281,407]
abbrev Pg:aK:=cg.row.prog
set_option maxRecDepth 100000 in
def la1:∀(w:aT)(a:gT),(DLT.R Pg 7240 (w.withFollow "special-get-raises" JU) w.params a).map (λs=>(DLT.chk Pg (cJ w.params) s.abs,((openSeen Qv Lv (dH Pg.main.body) Xv JQ s.abs).1,(Hk.obs s.abs,decide (0<s.abs.toks)))))=YP (JQ,((openGood Qv Lv).1,(Hk.val (w.withFollow "special-get-raises" JU),JQ))):=λw a=>by kernel_rfl
set_option maxRecDepth 100000 in
def JY:∀(w:aT)(a:gT),(DLT.R Pg 7240 (w.withFollow "special-get-raises" JU) w.params a).map (λs=>(DLT.chk Pg (cJ w.params) s.abs,(openSeen Qv Lv (dH Pg.main.body) Xv JQ s.abs).2))=YP (JQ,(openGood Qv Lv).2):=λw a=>by kernel_rfl
set_option maxRecDepth 100000 in
def lb1:∀(w:aT)(a:gT),(DLT.R Pg 7240 (w.withFollow "special-get-raises" JQ) w.params a).map (λs=>(DLT.chk Pg (cJ w.params) s.abs,((openSeen Qv Lv (dH Pg.main.body) Xv JQ s.abs).1,(Hk.obs s.abs,decide (0<s.abs.toks)))))=YP (JQ,((openGood Qv Lv).1,(Hk.val (w.withFollow "special-get-raises" JQ),JQ))):=λw a=>by kernel_rfl
set_option maxRecDepth 100000 in
def lb2:∀(w:aT)(a:gT),(DLT.R Pg 7240 (w.withFollow "special-get-raises" JQ) w.params a).map (λs=>(DLT.chk Pg (cJ w.params) s.abs,(openSeen Qv Lv (dH Pg.main.body) Xv JQ s.abs).2))=YP (JQ,(openGood Qv Lv).2):=λw a=>by kernel_rfl
def lw:PySem.W.LeftO Pg Qv Lv Xv (λs=>(Hk.obs s,decide (0<s.toks))) (λw=>(Hk.val w,JQ)) 7240:=DLT.left_of "special-get-raises" rfl rfl (λ_=>rfl) (λv=>match v with|false=>la1|true=>lb1) (λv=>match v with|false=>JY|true=>lb2)
end K11

abbrev pU:=List Nat
abbrev o_:=List pU
-- OX: your Wg module here, as the last of V9 rows
namespace L2
open PySem PySem.Spec PyProof.Rows
abbrev Key:=Sum Int aq
def DF:Key->ae->Bool
 |.inl k,v=>iH k v
 |.inr x,v=>fz x v
noncomputable def XM(w:aT):Key->Int
 |.inl k=>hashInt k
 |.inr x=>hashStr w x
def Ab:∀{k:Key}{v:ae},DF k v=JQ->(∃i t,k=gU i/\v=oi i t)\/(∃x t,k=dr x/\v=kC x t)
 | .inl i,v,h=>by
  obtain⟨t,e⟩:=Value.isInt_shape h;exact .inl ⟨i,t,rfl,e⟩
 | .inr x,v,h=>by
  obtain⟨t,e⟩:=jk h;exact .inr ⟨x,t,rfl,e⟩
def zd1(i:Int)(t:Tok):DF (.inl i) (.int i t)=JQ:=by simp[DF,iH]
def zcA(x:aq)(t:Tok):DF (.inr x) (.str x t)=JQ:=by simp[DF,fz]
def Z3(a b:Int):decide ((gU a:Key)=gU b)=(a==b):=by
 by_cases e:a=b
 ·subst e;simp
 ·have h:¬ (gU a:Key)=gU b:=λq=>e (Sum.inl.inj q);rw[decide_eq_false h];exact(beq_eq_false_iff_ne.mpr e).symm
def YL(a b:aq):decide ((dr a:Key)=dr b)=decide (a=b):=by
 by_cases e:a=b
 ·subst e;simp
 ·have h:¬ (dr a:Key)=dr b:=λq=>e (jx q);rw[decide_eq_false h,decide_eq_false e]
def ZJ(a:Int)(b:aq):decide ((gU a:Key)=dr b)=JU:=decide_eq_false (λq=>nomatch q)
def Zk(a:aq)(b:Int):decide ((dr a:Key)=gU b)=JU:=decide_eq_false (λq=>nomatch q)
def vn(prog:aK)(w:aT):PySem.KeyKind prog w Key where
 is:=DF
 hash:=XM w
 inj:=λv a b ha hb=>by
  rcases Ab ha with⟨i,t,rfl,rfl⟩|⟨x,t,rfl,rfl⟩
  ·rcases Ab hb with⟨j,u,rfl,e⟩|⟨y,u,rfl,e⟩
   ·injection e with e1 _;rw[e1]
   ·exact nomatch e
  ·rcases Ab hb with⟨j,u,rfl,e⟩|⟨y,u,rfl,e⟩
   ·exact nomatch e
   ·injection e with e1 _;rw[e1]
 byValue:=λk v h=>by
  rcases Ab h with⟨i,t,rfl,rfl⟩|⟨x,t,rfl,rfl⟩<;>rfl
 pyHash:=λhv h=>by
  rcases Ab hv with⟨i,t,rfl,rfl⟩|⟨x,t,rfl,rfl⟩
  ·exact wpAny_pyHash_int h
  ·exact wpAny_pyHash_str h
 eqBool:=λhu hv h=>by
  rcases Ab hu with⟨i,t,rfl,rfl⟩|⟨x,t,rfl,rfl⟩
  ·rcases Ab hv with⟨j,u,rfl,rfl⟩|⟨y,u,rfl,rfl⟩
   ·rw[Z3] at h;exact wpAny_eqBool_int h
   ·rw[ZJ] at h;exact SeqAt.EqAt.int_str i t y u _ _ _ _ h
  ·rcases Ab hv with⟨j,u,rfl,rfl⟩|⟨y,u,rfl,rfl⟩
   ·rw[Zk] at h;exact SeqAt.EqAt.str_int x t j u _ _ _ _ h
   ·rw[YL] at h;exact wpAny_eqBool_str h
 «strs»:=λk x t v h=>by
  rcases Ab h with⟨i,u,rfl,e⟩|⟨y,u,rfl,e⟩
  ·exact nomatch e
  ·injection e with e1 _;subst e1;cases v<;>rfl
def z82(prog:aK)(w:aT)(i:Int)(t:Tok):(vn prog w).is (.inl i) (.int i t)=JQ:=zd1 i t
def z8f(prog:aK)(w:aT)(x:aq)(t:Tok):(vn prog w).is (.inr x) (.str x t)=JQ:=zcA x t
inductive V where
 |non|bl (b:Bool)|int (i:Int)|str (x:aq)|byt (b:Array UInt8)|flt (b:UInt64)|ref (a:af)|ty (n:String)
 deriving DecidableEq
def RelV:V->ae->Prop
 |.non,u=>u=cL
 |.bl b,u=>u=lz b
 |.int i,u=>∃t,u=oi i t
 |.str x,u=>∃t,u=kC x t
 |.byt b,u=>∃t,u=Value.bytes b t
 |.flt b,u=>∃t,u=Value.float b t
 |.ref a,u=>u=dJ a
 |.ty n,u=>u=eE n
abbrev oO:List V->List ae->Prop:=cD RelV
def oO.length{xs:List V}{a:List ae}(r:oO xs a):xs.length=a.length:=lN r
theorem oO.get:∀{xs:List V}{a:List ae}{i:Nat}{x:V},oO xs a->xs[i]?=YP x->∃u,a[i]?=YP u/\RelV x u
 |_,_,_,_,.nil,e=>by simp at e
 |_,_,0,_,.cons r _,e=>by simp at e;subst e;exact⟨_,rfl,r⟩
 | _,_,i+1,x,.cons _ t,e=>by
  obtain⟨u,b,c⟩:=oO.get t ⇑e;exact⟨u,by simpa using b,c⟩
theorem oO.set{x:V}{u:ae}(r:RelV x u):∀{xs:List V}{a:List ae}(i:Nat),oO xs a->oO (xs.set i x) (a.set i u)
 |_,_,_,.nil=>.nil
 |_,_,0,.cons _ t=>.cons r t
 |_,_,i+1,.cons q t=>.cons q (oO.set r i t)
theorem oO.append:∀{xs a:List V}{b c:List ae},oO xs b->oO a c->oO (xs++a) (b++c)
 |_,_,_,_,.nil,s=>s
 |_,_,_,_,.cons r t,s=>.cons r (oO.append t s)
theorem oO.take:∀{xs:List V}{a:List ae}(n:Nat),oO xs a->oO (xs.take n) (a.take n)
 |_,_,0,_=>.nil
 |_,_,_+1,.nil=>.nil
 |_,_,n+1,.cons r t=>.cons r (oO.take n t)
theorem oO.drop:∀{xs:List V}{a:List ae}(n:Nat),oO xs a->oO (xs.drop n) (a.drop n)
 |_,_,0,r=>r
 |_,_,_+1,.nil=>.nil
 |_,_,n+1,.cons _ t=>oO.drop n t
def pf:Option V->Option ae->Prop
 |some v,YP u=>RelV v u
 |none,JL=>True
 |_,_=>False
def KV{κ:Type}:List (κ×V)->List (κ×ae)->Prop:=cD λ(p:κ×V)(q:κ×ae)=>p.1=q.1/\RelV p.2 q.2
def kV:Key->V
 |.inl i=>.int i
 |.inr x=>.str x
inductive HO where
 |lst (xs:List V)
 |tup (xs:List V)
 |dK (i_:List (Key×V))|dT (i_:List (List Key×V))
 |set (S:Int->Bool) (n:Nat)
 |ins (C dx:af) (fs:List (aq×V))
 |own (x:af)
 |xd (fs:List (aq×V))
 |met (f x:af)
 |rng (lo hi:Int)
 |frz (o:Obj) (u:HO)
 |tbl (ps:Array ae)
 |ext (φ:aS->Prop)
abbrev Hp:=af->Option HO
noncomputable def upd(H:Hp)(a:af)(o:HO):Hp:=λb=>if b=a then YP o else H b
def rS{H:Hp}{a:af}{o:HO}:upd H a o a=YP o:=by unfold upd;rw[JV rfl]
def qe{H:Hp}{a b:af}{o:HO}(h:b≠a):upd H a o b=H b:=by unfold upd;rw[JW h]
def zhH:upd (upd H a o) a u=upd H a u:=by funext b;unfold upd;split<;>rfl
def Yz{H:Hp}{a b:af}{o u:HO}(h:H a=YP o)(h':H b=YP u)(d:o≠u):a≠b:=by intro e;subst e;rw[h] at h';exact d (cy h')
def sO{H:Hp}{a b:af}{o:HO}(h:H a=YP o)(h':H b=JL):a≠b:=by intro e;subst e;rw[h] at h';cases h'
def o9(h:aS)(a:af)(items:Array ae):Prop:=∃o,h.get? a=YP o/\o.cls=.type "tuple"/\(∃n,o.data=.seq items n)/\o.dict=JL
def o9.tup{h:aS}{a:af}{b:Array ae}(x:o9 h a b):IsTup h a b:=let ⟨o,e,c,d,_⟩:=x;⟨o,e,c,d⟩
def o9.new(h:aS)(a:Array ae):o9 (h.push { cls:=.type "tuple",data:=.seq a }) h.objs.size a:=⟨_,aE _ rfl,rfl,⟨_,rfl⟩,rfl⟩
section
variable(P:aK)(w:aT)
def o0(H:Hp)(h:aS)(a:af):HO->Prop
 |.lst xs=>xs.length<=J3/\∃(c_:List ae)(n:Nat),oO xs c_/\h.get? a=YP { cls:=.type "list",data:=.seq c_.toArray n }
 |.tup xs=>xs.length<=J3/\∃c_:List ae,oO xs c_/\o9 h a c_.toArray
 |.dK i_=>i_.length<=J3/\(a==sysModules)=JU/\∃vs,KV i_ vs/\h.DictOf (vn P w) a vs
 | .dT i_=>i_.length<=J3/\(a==sysModules)=JU/\∃xs:List (List Key×af×ae),
   cD (λ(p:List Key×V)(q:List Key×af×ae)=>p.1=q.1/\H q.2.1=YP (.tup (p.1.map kV))/\RelV p.2 q.2.2) i_ xs/\
   ∃o es ep,h.get? a=YP o/\o.ExactDict/\o.data=.dict es ep/\es.toList=xs.map (entryOfKey (tupleKind (vn P w)))/\(xs.map (·.1)).Nodup
 |.set S n=>h.SetOf (intKind P w) a S n
 | .ins C dx fs=>H dx=YP (.own a)/\fs.length<=1000/\dx≠a/\h.get? a=YP (nM C dx)/\
   ∃mA,h.Ns1 dx mA/\(∀f,pf (fs.lookup f) (mA f))/\PySem.Within mA (fs.map (·.1))
 |.own _=>∃o,h.get? a=YP o
 |.xd fs=>∃mA,h.Ns1 a mA/\∀f,pf (fs.lookup f) (mA f)
 |.rng lo hi=>∃t u v,h.get? a=YP { cls:=.type "range",data:=.fields #[.int lo t,.int hi u,.int 1 v] }
 |.frz o u=>h.get? a=YP o/\o0 H h a u
 |.tbl ps=>h.get? a=YP { cls:=.none,data:=.fields ps }
 |.met f x=>h.get? a=YP (PySem.W.methodObj (.ref f) (.ref x))
 |.ext φ=>φ h/\(∃o,h.get? a=YP o)/\∀h1 h2:aS,φ h1->(∀o,h1.get? a=YP o->h2.get? a=YP o)->φ h2
def HOk(H:Hp)(h:aS):Prop:=∀a o,H a=YP o->o0 P w H h a o
end
section
variable{P:aK}{w:aT}{H H':Hp}{h h':aS}{a:af}{o:HO}
def o0.lt(x:o0 P w H h a o):a<h.objs.size:=by
 cases o with
 |lst xs=>obtain⟨_,_,_,_,e⟩:=x;exact aJ e
 |tup xs=>obtain⟨_,_,_,p⟩:=x;exact(o9.tup p).lt
 |dK i_=>obtain⟨_,_,_,_,o,_,_,e,_⟩:=x;exact aJ e
 |dT i_=>obtain⟨_,_,_,_,o,_,_,e,_⟩:=x;exact aJ e
 |set S n=>obtain⟨o,_,_,_,e,_⟩:=x;exact aJ e
 |ins C dx fs=>obtain⟨_,_,_,e,_⟩:=x;exact aJ e
 |own y=>obtain⟨_,e⟩:=x;exact aJ e
 |xd fs=>obtain⟨_,⟨_,_,_,e,_⟩,_⟩:=x;exact aJ e
 |rng lo hi=>obtain⟨_,_,_,e⟩:=x;exact aJ e
 |frz ob u=>obtain⟨e,_⟩:=x;exact aJ e
 |tbl ps=>exact aJ (x)
 |met f y=>exact aJ (x)
 |ext φ=>obtain⟨_,⟨_,e⟩,_⟩:=x;exact aJ e
theorem Paired.mapP{α β:Type}{F G:α->β->Prop}:∀{c:List α}{d:List β},cD F c d->(∀a b,F a b->G a b)->cD G c d
 |_,_,.nil,_=>.nil
 |_,_,.cons r t,f=>.cons (f _ _ r) (Paired.mapP t f)
def o0.stay(x:o0 P w H h a o)(k:∀b u,(b=a\/H b=YP (.own a))->h.get? b=YP u->h'.get? b=YP u)
  (B:∀b,H b=YP (.own a)->H' b=YP (.own a)) (D:∀b xs,H b=YP (.tup xs)->H' b=YP (.tup xs)):o0 P w H' h' a o:=by
 induction o with
 |lst xs=>obtain⟨z,l,n,r,e⟩:=x;exact⟨z,l,n,r,k _ _ (.inl rfl) e⟩
 |tup xs=>obtain⟨z,l,r,g,e,c⟩:=x;exact⟨z,l,r,g,k _ _ (.inl rfl) e,c⟩
 |dK i_=>obtain⟨z,y,E,r,g,i,j,e,c⟩:=x;exact⟨z,y,E,r,g,i,j,k _ _ (.inl rfl) e,c⟩
 | dT i_=>
  obtain⟨z,y,xs,r,g,i,j,e,c⟩:=x;exact⟨z,y,xs,Paired.mapP r λp q z=>⟨z.1,D _ _ z.2.1,z.2.2⟩,g,i,j,k _ _ (.inl rfl) e,c⟩
 |set S n=>obtain⟨g,i,j,t,e,c⟩:=x;exact⟨g,i,j,t,k _ _ (.inl rfl) e,c⟩
 | ins C dx fs=>
  obtain⟨d,z,F,e,m,⟨s,i,j,G,c⟩,r⟩:=x;exact⟨B _ d,z,F,k _ _ (.inl rfl) e,m,⟨s,i,j,k _ _ (.inr d) G,c⟩,r⟩
 |own y=>obtain⟨g,e⟩:=x;exact⟨g,k _ _ (.inl rfl) e⟩
 |xd fs=>obtain⟨m,⟨s,i,j,e,c⟩,r⟩:=x;exact⟨m,⟨s,i,j,k _ _ (.inl rfl) e,c⟩,r⟩
 |rng lo hi=>obtain⟨t,u,v,e⟩:=x;exact⟨t,u,v,k _ _ (.inl rfl) e⟩
 |frz g u ih=>obtain⟨e,q⟩:=x;exact⟨k _ _ (.inl rfl) e,ih q⟩
 | tbl ps=>
  have e:=x;exact k a _ (.inl rfl) e
 | met f y=>
  have e:=x;exact k a _ (.inl rfl) e
 |ext φ=>obtain⟨p,⟨o,e⟩,A⟩:=x;exact⟨A _ _ p λo q=>k _ _ (.inl rfl) q,⟨o,k _ _ (.inl rfl) e⟩,A⟩
def HOk.lt(x:HOk P w H h)(e:H a=YP o):a<h.objs.size:=(x a o e).lt
def HOk.fresh(x:HOk P w H h)(e:h.objs.size<=a):H a=JL:=by
 cases q:H a with
 |none=>rfl
 |some u=>exact absurd (ba (x.lt q) e) (bP _)
def HOk.kept(x:HOk P w H h)(k:∀b u,h.get? b=YP u->h'.get? b=YP u):HOk P w H h':=λa o e=>
 (x a o e).stay (λb u _ q=>k b u q) (λ_ q=>q) λ_ _ q=>q
def HOk.laid(x:HOk P w H h)(k:∀b u,h.get? b=YP u->h'.get? b=YP u)(i:h.objs.size<=a)(d:o0 P w (upd H a o) h' a o):HOk P w (upd H a o) h':=λb u e=>by
 have f:=x.fresh i;by_cases g:b=a
 ·subst g;rw[rS] at e;cases e;exact d
 ·rw[qe g] at e;exact(x b u e).stay (λc v _ q=>k c v q) (λc q=>by rw[qe (sO q f)];exact q) λc j q=>by rw[qe (sO q f)];exact q
end
def Rd(H:Hp)(a:af)(u:HO):Prop:=H a=YP u \/ ∃o,H a=YP (.frz o u)
def Rd.of(h:H a=YP u):Rd H a u:=.inl h
def Rd.ok(r:Rd H a u)(x:HOk P w H h):o0 P w H h a u:=by
 rcases r with r|⟨o,r⟩
 ·exact x a u r
 ·obtain⟨_,q⟩:=x a _ r;exact q
noncomputable def Hu:Option HO->Prop
 |some (.lst _)=>True
 |some (.dK _)=>True
 |some (.dT _)=>True
 |some (.set _ _)=>True
 |some (.ins _ _ _)=>True
 |some (.ext _)=>True
 |_=>False
section
variable{P:aK}{w:aT}{H:Hp}{h h':aS}{x e:af}{o':HO}
def HOk.write(ok:HOk P w H h)(a:Hu (H x))(j:e=x\/H e=YP (.own x))(k:∀b u,b≠e->h.get? b=YP u->h'.get? b=YP u)(n:∃u,h'.get? e=YP u)
  (i:o0 P w (upd H x o') h' x o'):HOk P w (upd H x o') h':=λb u q=>by
 have l:∀c y,H c=YP (.own y)->c≠x:=λc y r z=>by subst z;rw[r] at a;exact a
 have o:∀c d,H c=YP (.tup d)->c≠x:=λc d r z=>by subst z;rw[r] at a;exact a
 by_cases f:b=x
 ·subst f;rw[rS] at q;cases q;exact i
 ·rw[qe f] at q;by_cases g:b=e
  ·have m:H b=YP (.own x):=by
    rcases j with z|z
    ·exact absurd (g.trans z) f
    ·rw[g];exact z
   rw[q] at m;cases m;obtain⟨v,p⟩:=n;exact⟨v,by rw[g];exact p⟩
  ·refine(ok b u q).stay (λc v hc r=>k c v ?_ r) (λc r=>by rw[qe (l c b r)];exact r) λc d r=>by rw[qe (o c d r)];exact r
   rcases hc with rfl|hc
   ·exact g
   ·rintro rfl;rcases j with z|z
    ·exact l c b hc z
    ·rw[hc] at z;cases z;exact f rfl
end
structure Un(fs ex:List af)(H H':Hp)(h h':aS):Prop where
 keep:∀b o,h.get? b=YP o->H b=JL->b∉fs->b∉ex->h'.get? b=YP o
 slot:∀b o,h.get? b=YP o->H b=JL->b∈fs->b∉ex->∃sl,h'.get? b=YP { o with slots:=sl }
 free:∀b o,h.get? b=YP o->H b=JL->b∉ex->H' b=JL
 there:∀b o,h.get? b=YP o->b∉ex->∃o',h'.get? b=YP o'
 tups:∀b xs,H b=YP (.tup xs)->H' b=YP (.tup xs)
 frzs:∀b o u,H b=YP (.frz o u)->H' b=YP (.frz o u)
 tbls:∀b ps,H b=YP (.tbl ps)->∃more,H' b=YP (.tbl (ps++more))
section
variable{fs W1 ex W7:List af}{H H1 H2:Hp}{h h1 h2 h':aS}{a x e:af}{o:HO}
def Un.any(u:Un fs ex H H1 h h1){b:af}{c:Obj}(q:h.get? b=YP c)(n:H b=JL)(d:b∉ex):∃sl,h1.get? b=YP { c with slots:=sl }:=by
 by_cases f:b∈fs
 ·exact u.slot b c q n f d
 ·exact⟨c.slots,u.keep b c q n f d⟩
def Un.trans(a:Un fs ex H H1 h h1)(b:Un fs ex H1 H2 h1 h2):Un fs ex H H2 h h2 where
 keep:=λc d q n i f=>b.keep c d (a.keep c d q n i f) (a.free c d q n f) i f
 slot:=λc d q n i f=>by
  obtain⟨t,g⟩:=a.slot c d q n i f;obtain⟨m,k⟩:=b.slot c _ g (a.free c d q n f) i f;exact⟨m,k⟩
 free:=λc d q n f=>by
  obtain⟨l,g⟩:=a.there c d q f;exact b.free c l g (a.free c d q n f) f
 there:=λc d q f=>by
  obtain⟨l,g⟩:=a.there c d q f;exact b.there c l g f
 tups:=λc j q=>b.tups c j (a.tups c j q)
 frzs:=λc d j q=>b.frzs c d j (a.frzs c d j q)
 tbls:=λc p q=>by
  obtain⟨r,g⟩:=a.tbls c p q;obtain⟨s,k⟩:=b.tbls c _ g;exact⟨r++s,by rw[k,mi]⟩
def Un.kept(k:∀b u,h.get? b=YP u->h'.get? b=YP u):Un fs ex H H h h':=
 ⟨λb c q _ _ _=>k b c q,λb c q _ _ _=>⟨c.slots,k b c q⟩,λ_ _ _ n _=>n,λb c q _=>⟨c,k b c q⟩,λ_ _ q=>q,λ_ _ _ q=>q,λ_ d q=>⟨#[],by rw[q];simp⟩⟩
def Un.refl:Un fs ex H H h h:=Un.kept λ_ _ q=>q
def Un.laid(k:∀b u,h.get? b=YP u->h'.get? b=YP u)(d:h.objs.size<=a)(c:H a=JL):Un fs ex H (upd H a o) h h' where
 keep:=λb u q _ _ _=>k b u q
 slot:=λb u q _ _ _=>⟨u.slots,k b u q⟩
 free:=λb u q n _=>by rw[qe (bb (ba (aJ q) d))];exact n
 there:=λb u q _=>⟨u,k b u q⟩
 tups:=λb f q=>by rw[qe (sO q c)];exact q
 frzs:=λb u f q=>by rw[qe (sO q c)];exact q
 tbls:=λb g q=>⟨#[],by rw[qe (sO q c),q];simp⟩
def Un.write(c:Hu (H x))(j:e=x\/H e=YP (.own x))(k:∀b u,b≠e->h.get? b=YP u->h'.get? b=YP u)(l:∃u,h'.get? e=YP u):Un fs ex H (upd H x o) h h':=by
 have f:∀b,H b=JL->b≠x:=λb n z=>by subst z;rw[n] at c;exact c
 have g:∀b,H b=JL->b≠e:=λb n z=>by
  subst z;rcases j with r|r
  ·exact f b n r
  ·rw[n] at r;cases r
 have d:∀b u,H b=YP u->¬ Hu (YP u)->b≠x:=λb u q m z=>by subst z;rw[q] at c;exact m c
 refine⟨λb u q n _ _=>k b u (g b n) q,λb u q n _ _=>⟨u.slots,k b u (g b n) q⟩,λb u q n _=>by rw[qe (f b n)];exact n,λb u q _=>?_,
  λb p q=>by rw[qe (d b _ q λz=>z)];exact q,λb u p q=>by rw[qe (d b _ q λz=>z)];exact q,λb s q=>⟨#[],by rw[qe (d b _ q λz=>z),q];simp⟩⟩
 by_cases i:b=e
 ·subst i;exact l
 ·exact⟨u,k b u i q⟩
def Un.mono(u:Un fs ex H H1 h h1)(g:∀b∈fs,b∈W1)(f:∀b∈ex,b∈W7):Un W1 W7 H H1 h h1:=
 ⟨λb d q n i c=>u.keep b d q n (λz=>i (g b z)) λz=>c (f b z),λ_ _ q n _ c=>u.any q n λz=>c (f _ z),λb d q n c=>u.free b d q n λz=>c (f b z),λb d q c=>u.there b d q λz=>c (f b z),u.tups,u.frzs,u.tbls⟩
end
def JK(h:aS)(H:Hp):List af:=(bE h.objs.size).filter λa=>(H a).isSome
def zS(h:aS)(H:Hp):aS:=PySem.W.hideAll h (JK h H)
def zcl(h:aS)(H:Hp):(zS h H).objs.size=h.objs.size:=PySem.W.hideAll_size _ _
def zdZ(e:h.get? b=YP o)(n:H b=JL):(zS h H).get? b=YP o:=
 PySem.W.hideAll_get _ e λa=>by
  have q:=(bo.mp a).2;rw[n] at q;simp at q
def zgw(e:(zS h H).get? b=YP o):h.get? b=YP o/\H b=JL:=by
 have a:=PySem.W.of_hideAll (JK h H) e;refine⟨a,?_⟩;cases q:H b with
 |none=>rfl
 | some x=>
  have c:b∈JK h H:=bo.mpr ⟨bZ.mpr (aJ a),by simp[q]⟩;have z:(zS h H).get? b=JL:=PySem.W.hideAll_none (JK h H) c;rw[z] at e;cases e
noncomputable def zhh(g h:aS)(L:af):List (af×Obj):=(bE h.objs.size).filterMap λa=>if a=L\/(g.get? a).isSome=JQ then JL else (h.get? a).map λo=>(a,o)
def rest(g h:aS)(L d:af):List (af×Obj):=(zhh g h L).filter λp=>decide (p.1≠d)
structure Mod(K:ak)(mg:aq->Option ae)(base:aS):Prop where
 kin:K.In base
 glob:base.Ns bX mg
 blt:∃mb,base.Ns builtinsNs mb/\∀x:aq,x ≠ "__name__"->mb x=bd x
 nolimit:base.NoLimit
structure Cx where
 prog:aK
 w:aT
 K:ak
 mg:aq->Option ae
 base:aS
 A:aU
 N:List aq
 s₀:ah
 H₀:Hp
 env:Env
 outer:List Env
 stack:List Env
 ex:List af
 fn:aq->Bool
 calm:Bool
 pn:List (af×Obj)
 xe:ae->ah->Prop
def rP(l:List Env):List af:=l.filterMap (·.frame)
abbrev Cx.fs(X:Cx):List af:=rP X.outer
def sY(sc:cu)(x:aq):Prop:=sc.names.lookup x=YP .local\/sc.names.lookup x=YP .cell\/sc.names.lookup x=YP .free
def Loc(sc:cu)(x:aq):Prop:=sc.names.lookup x=YP .local\/sc.names.lookup x=YP .cell
def XT(env:Env)(h:aS)(m:aq->Option ae)(x:aq)(u:ae):Prop:=
 (env.kindOf x=YP .local/\m x=YP u)\/((env.kindOf x=YP .cell\/env.kindOf x=YP .free)/\∃c,env.cells.lookup x=YP c/\h.IsCell c (YP u))
structure Cx.Ok(X:Cx):Prop where
 mod:Mod X.K X.mg X.base
 kind:X.env.scope.kind=.function
 glob:X.env.globals=bX
 blt:X.env.builtins=builtinsNs
 above:X.s₀.heap.objs.size<=X.env.locals
 inj:∀x y c,X.env.cells.lookup x=YP c->X.env.cells.lookup y=YP c->x=y
 has:∀x,(X.env.kindOf x=YP .cell\/X.env.kindOf x=YP .free)->∃c,X.env.cells.lookup x=YP c
 cab:∀x c,X.fn x=JQ->X.env.cells.lookup x=YP c->X.s₀.heap.objs.size<=c
 hd:X.calm=JQ->X.A.handled=JL
 frames:X.A.frames=YP X.stack
 stk:X.stack=X.outer\/(X.stack=X.env::X.outer/\X.env.frame=YP X.env.locals)
 exf:∀b∈X.ex,b≠X.env.locals/\∀x c,X.env.cells.lookup x=YP c->c≠b
 bs:∀b o,X.base.get? b=YP o->X.s₀.heap.get? b=YP o/\X.H₀ b=JL
 bsz:X.base.objs.size<=X.s₀.heap.objs.size
 noex:∀b o,X.base.get? b=YP o->b∉X.ex
 exfs:∀b∈X.ex,b∉X.fs
 funs:X.s₀.heap.FunFrames X.base X.outer
 frf:∀b∈X.fs,X.H₀ b=JL
structure Inv(X:Cx)(Xq:List (af×Obj))(σ:List (Option V))(H:Hp)(s:ah):Prop where
 ok:X.Ok
 os:s.os=X.s₀.os
 bare:gk s.gens
 base:Un X.fs X.ex X.H₀ H X.s₀.heap s.heap
 loc:∃m,s.heap.Ns X.env.locals m/\∀(i:Nat)(x:aq)(v:V),X.N[i]?=YP x->σ[i]?=YP (YP v)->sY X.env.scope x->∃u,RelV v u/\XT X.env s.heap m x u
 cell:∀x c,X.env.cells.lookup x=YP c->∃v,s.heap.IsCell c v
 free:H X.env.locals=JL
 freeC:∀x c,X.env.cells.lookup x=YP c->H c=JL
 pin:∀p∈X.pn++Xq,s.heap.get? p.1=YP p.2/\H p.1=JL/\p.1≠X.env.locals/\p.1∉X.fs/\∀v,p.2.data ≠ .cell v
 hok:HOk X.prog X.w H s.heap
 len:σ.length=X.N.length
 tk:0<s.toks
section
variable{X:Cx}{Xq:List (af×Obj)}{σ:List (Option V)}{H H':Hp}{s:ah}{h':aS}
def Cx.Ok.nofr(ok:X.Ok)(e:X.base.get? b=YP o):b∉X.fs:=λa=>by
 have:=(ok.funs.mem a).1;rw[e] at this;cases this
def Inv.bs(I:Inv X Xq σ H s):∀b o,X.base.get? b=YP o->s.heap.get? b=YP o/\H b=JL:=λb o e=>
 ⟨I.base.keep b o (I.ok.bs b o e).1 (I.ok.bs b o e).2 (I.ok.nofr e) (I.ok.noex b o e),I.base.free b o (I.ok.bs b o e).1 (I.ok.bs b o e).2 (I.ok.noex b o e)⟩
def Inv.bk(I:Inv X Xq σ H s):∀b o,X.base.get? b=YP o->s.heap.get? b=YP o:=λb o e=>(I.bs b o e).1
def Inv.mod(I:Inv X Xq σ H s):Mod X.K X.mg X.base:=I.ok.mod
def Inv.kIn(I:Inv X Xq σ H s):X.K.In s.heap:=I.ok.mod.kin.keeps I.bk
def Inv.nolimit(I:Inv X Xq σ H s):s.heap.NoLimit:=I.ok.mod.nolimit.keeps I.bk
def Inv.fr(I:Inv X Xq σ H s):∃m,Fr X.base X.env.locals s.heap m:=
 let ⟨m,hn,_⟩:=I.loc
 ⟨m,hn,I.bk,aM I.ok.bsz I.ok.above⟩
def Inv.lt(I:Inv X Xq σ H s):X.env.locals<s.heap.objs.size:=let ⟨_,hn,_⟩:=I.loc;hn.lt
def Inv.sz(I:Inv X Xq σ H s):X.s₀.heap.objs.size<=s.heap.objs.size:=aM I.ok.above (gm I.lt)
def Inv.nofs(I:Inv X Xq σ H s)(h:s.heap.objs.size<=a):a∉X.fs:=λb=>by
 obtain⟨_,o,c,_⟩:=I.ok.funs.mem b;exact absurd (ba (aJ c) (aM I.sz h)) (bP _)
def Inv.cne(I:Inv X Xq σ H s):∀x c,X.env.cells.lookup x=YP c->c≠X.env.locals:=λx c e z=>by
 obtain⟨v,o,a,b⟩:=I.cell x c e;obtain⟨m,⟨g,h,i,d,f,_⟩,_⟩:=I.loc;rw[z,d] at a;cases a;rw[f] at b;cases b
def Inv.funs(I:Inv X Xq σ H s):s.heap.FunFrames X.base X.outer:=by
 have a:∀(l:List Env),(∀b∈rP l,b∈X.fs)->X.s₀.heap.FunFrames X.base l->s.heap.FunFrames X.base l:=by
  intro l
  induction l with
  |nil=>intro _ _;trivial
  | cons env r ih=>
   intro g h;obtain⟨i,⟨L,o,c,j,k,m⟩,n⟩:=h;have d:=g L (by unfold rP;rw[dZ,c];exact av);obtain⟨p,e⟩:=I.base.slot L o k (I.ok.frf L d) d λz=>I.ok.exfs L z d;exact⟨i,⟨L,_,c,j,e,m⟩,ih (λb f=>g b (by unfold rP;rw[dZ,c];exact al _ f)) n⟩
 exact a X.outer (λ_ f=>f) I.ok.funs
def Inv.stack(I:Inv X Xq σ H s):s.heap.FunFrames X.base X.stack:=by
 rcases I.ok.stk with e|⟨e,a⟩
 ·rw[e];exact I.funs
 ·rw[e];obtain⟨m,b,_⟩:=I.loc;refine .cons (by rw[I.ok.kind];decide) a b ?_ I.funs;exact ja (aM I.ok.bsz I.ok.above)
def Inv.stkSub(I:Inv X Xq σ H s):∀b∈rP X.stack,b∈X.env.locals::X.fs:=λb a=>by
 rcases I.ok.stk with e|⟨e,c⟩
 ·rw[e] at a;exact al _ a
 ·rw[e] at a;unfold rP at a;rw[dZ,c] at a;exact a
def Inv.stkFree(I:Inv X Xq σ H s):∀b∈rP X.stack,H b=JL:=λb hb=>by
 rcases ar.mp (I.stkSub b hb) with e|hb
 ·rw[e];exact I.free
 ·obtain⟨_,o,a,_⟩:=I.ok.funs.mem hb;exact I.base.free b o a (I.ok.frf b hb) λz=>I.ok.exfs b z hb
def Inv.step{Q:Array nk}{t':Nat}{d':Drawn}{ch:List af}(I:Inv X Xq σ H s)
  (C:∀b∈ch,(b∈X.ex\/X.s₀.heap.objs.size<=b)/\b≠X.env.locals/\(∀x c,X.env.cells.lookup x=YP c->c≠b)/\∀p∈X.pn++Xq,p.1≠b)
  (g:∀b o,b≠X.env.locals->b∉X.fs->b∉ch->s.heap.get? b=YP o->H b=JL->h'.get? b=YP o)
  (t:∀b o,b≠X.env.locals->b∈X.fs->b∉ch->s.heap.get? b=YP o->H b=JL->∃sl,h'.get? b=YP { o with slots:=sl }) (f:∀b o,b∉ch->s.heap.get? b=YP o->H b=JL->H' b=JL)
  (y:∀b o,b∉ch->s.heap.get? b=YP o->∃D,h'.get? b=YP D)
  (E:∀b xs,H b=YP (.tup xs)->H' b=YP (.tup xs)) (F:∀b o u,H b=YP (.frz o u)->H' b=YP (.frz o u)) (G:∀b M,H b=YP (.tbl M)->∃J,H' b=YP (.tbl (M++J)))
  (Y:∀m,s.heap.Ns X.env.locals m->h'.Ns X.env.locals m) (O:HOk X.prog X.w H' h') (Z:gk Q) (ht:0<t'):
  Inv X Xq σ H' { s with heap:=h',gens:=Q,drawn:=d',toks:=t' }:=by
 have R:∀b o,X.s₀.heap.get? b=YP o->b≠X.env.locals:=λb o e=>bb (ba (aJ e) I.ok.above);have N:∀b o,X.s₀.heap.get? b=YP o->b∉X.ex->b∉ch:=λb o e a A=>by
  rcases (C b A).1 with z|z
  ·exact a z
  ·exact absurd (ba (aJ e) z) (bP _)
 have h:∀x c,X.env.cells.lookup x=YP c->∀v,s.heap.IsCell c v->h'.IsCell c v:=λx c e v ⟨o,B,P⟩=>by
  have K:c∉ch:=λz=>(C c z).2.2.1 x c e rfl;by_cases S:c∈X.fs
  ·obtain⟨sl,q⟩:=t c o (I.cne x c e) S K B (I.freeC x c e);exact⟨_,q,P⟩
  ·exact⟨o,g c o (I.cne x c e) S K B (I.freeC x c e),P⟩
 refine⟨I.ok,I.os,Z,⟨λb o e n A a=>?_,λb o e n A a=>?_,λb o e n a=>?_,λb o e a=>?_,λb xs e=>E b xs (I.base.tups b xs e),λb o xs e=>F b o xs (I.base.frzs b o xs e),λb M e=>?_⟩,?_,λx c e=>?_,?_,λx c e=>?_,λp T=>?_,O,I.len,ht⟩
 ·exact g b o (R b o e) A (N b o e a) (I.base.keep b o e n A a) (I.base.free b o e n a)
 ·obtain⟨sl,j⟩:=I.base.slot b o e n A a;obtain⟨ye,L⟩:=t b _ (R b o e) A (N b o e a) j (I.base.free b o e n a);exact⟨ye,L⟩
 ·obtain⟨D,j⟩:=I.base.there b o e a;exact f b D (N b o e a) j (I.base.free b o e n a)
 ·obtain⟨D,j⟩:=I.base.there b o e a;exact y b D (N b o e a) j
 ·obtain⟨m1,j⟩:=I.base.tbls b M e;obtain⟨m2,L⟩:=G b _ j;exact⟨m1++m2,by rw[L,mi]⟩
 ·obtain⟨m,hn,hl⟩:=I.loc;refine⟨m,Y m hn,λi x v j L e3=>?_⟩;obtain⟨u,r,l⟩:=hl i x v j L e3;refine⟨u,r,?_⟩;rcases l with l|⟨k,c,e,z⟩
  ·exact .inl l
  ·exact .inr ⟨k,c,e,h x c e _ z⟩
 ·obtain⟨v,z⟩:=I.cell x c e;exact⟨v,h x c e v z⟩
 ·obtain⟨m,⟨o,_,_,B,_⟩,_⟩:=I.loc;exact f _ o (λz=>(C _ z).2.1 rfl) B I.free
 ·obtain⟨v,o,B,P⟩:=I.cell x c e;exact f c o (λz=>(C c z).2.2.1 x c e rfl) B (I.freeC x c e)
 ·obtain⟨e,n,U,W,d⟩:=I.pin p T;have K:p.1∉ch:=λz=>(C p.1 z).2.2.2 p T rfl;exact⟨g p.1 p.2 U W K e n,f p.1 p.2 K e n,U,W,d⟩
def Inv.un{t':Nat}(I:Inv X Xq σ H s)(u:Un X.fs [] H H' s.heap h')(a:HOk X.prog X.w H' h')(g:0<t':=by first|exact c9 _|exact Inv.tk ‹_›|assumption|lia):Inv X Xq σ H' { s with heap:=h',toks:=t' }:=by
 obtain⟨m,⟨o,p,q,d,r⟩,_⟩:=id I.loc;obtain⟨t,h⟩:=u.any d I.free 'k';exact I.step (ch:=[]) (λ_ z=>nomatch z) (λb o _ c _ e n=>u.keep b o e n c 'k') (λb o _ c _ e n=>u.slot b o e n c 'k') (λb o _ e n=>u.free b o e n 'k') (λb o _ e=>u.there b o e 'k') u.tups u.frzs u.tbls (λv i=>by
  obtain⟨x,j,k,f,l⟩:=i;rw[d] at f;cases f;exact⟨_,j,k,h,l⟩) a I.bare g
def Inv.call{g:Array nk}{t':Nat}{d':Drawn}{ch:List af}(I:Inv X Xq σ H s)(u:Un (rP X.stack) ch H H' s.heap h')(d:HOk X.prog X.w H' h')(k:gk g)
  (h:∀b∈ch,(b∈X.ex\/X.s₀.heap.objs.size<=b)/\b≠X.env.locals/\(∀x c,X.env.cells.lookup x=YP c->c≠b)/\∀p∈X.pn++Xq,p.1≠b) (l:0<t':=by first|exact c9 _|exact Inv.tk ‹_›|assumption|lia):
  Inv X Xq σ H' { s with heap:=h',gens:=g,drawn:=d',toks:=t' }:=by
 obtain⟨m,⟨o,B,C,i,r⟩,_⟩:=id I.loc;obtain⟨D,f⟩:=u.any i I.free λz=>(h _ z).2.1 rfl;exact I.step h (λb o f q a e n=>u.keep b o e n (λz=>(ar.mp (I.stkSub b z)).elim f q) a) (λb o _ _ a e n=>u.any e n a) (λb o a e n=>u.free b o e n a) (λb o a e=>u.there b o e a) u.tups u.frzs u.tbls (λE t=>by
  obtain⟨F,v,y,j,A⟩:=t;rw[i] at j;cases j;exact⟨_,v,y,f,A⟩) d k l
def Inv.turned{t':Nat}{it:af}(I:Inv X Xq σ H s)(k:∀b o,b≠it->s.heap.get? b=YP o->h'.get? b=YP o)(g:H it=JL)(d:it≠X.env.locals)
  (h:it∈X.ex\/X.s₀.heap.objs.size<=it) (i:∀x c,X.env.cells.lookup x=YP c->c≠it) (j:∀p∈X.pn++Xq,p.1≠it) (l:0<t':=by first|exact c9 _|exact Inv.tk ‹_›|assumption|lia):Inv X Xq σ H { s with heap:=h',toks:=t' }:=by
 have f:∀b u,H b=YP u->b≠it:=λb u e z=>by rw[z,g] at e;cases e
 refine I.step (ch:=[it]) (λb t=>?_) (λb o _ _ a e _=>k b o (λz=>a (by simp[z])) e) (λb o _ _ a e _=>⟨o.slots,k b o (λz=>a (by simp[z])) e⟩) (λ_ _ _ _ n=>n)
  (λb o a e=>⟨o,k b o (λz=>a (by simp[z])) e⟩) (λ_ _ e=>e) (λ_ _ _ e=>e) (λb C e=>⟨#[],by rw[e];simp⟩) (λm w=>?_) (λb u e=>?_) I.bare l
 ·have e:b=it:=⇑t
  subst e;exact⟨h,d,i,j⟩
 ·obtain⟨o,y,A,B,r⟩:=w;exact⟨o,y,A,k _ o (bC d) B,r⟩
 ·refine(I.hok b u e).stay (λc v a q=>k c v ?_ q) (λ_ q=>q) λ_ _ q=>q;rcases a with z|z
  ·rw[z];exact f b u e
  ·exact f c _ z
def Inv.tok(I:Inv X Xq σ H s)(t:Nat)(a:0<t:=by first|exact c9 _|exact Inv.tk ‹_›|assumption|lia):Inv X Xq σ H { s with toks:=t }:=I.un Un.refl I.hok
def Inv.kept(I:Inv X Xq σ H s)(k:∀b u,s.heap.get? b=YP u->h'.get? b=YP u)(a:0<t':=by first|exact c9 _|exact Inv.tk ‹_›|assumption|lia):Inv X Xq σ H { s with heap:=h',toks:=t' }:=I.un (Un.kept k) (I.hok.kept k)
def Inv.laid{a:af}{o:HO}{t':Nat}(I:Inv X Xq σ H s)(k:∀b u,s.heap.get? b=YP u->h'.get? b=YP u)(c:s.heap.objs.size<=a)(d:o0 X.prog X.w (upd H a o) h' a o)(e:0<t':=by first|exact c9 _|exact Inv.tk ‹_›|assumption|lia):
  Inv X Xq σ (upd H a o) { s with heap:=h',toks:=t' }:=I.un (Un.laid k c (I.hok.fresh c)) (I.hok.laid k c d)
def Inv.write(I:Inv X Xq σ H s)(c:Hu (H x))(d:e=x\/H e=YP (.own x))(k:∀b u,b≠e->s.heap.get? b=YP u->h'.get? b=YP u)(f:∃u,h'.get? e=YP u)
  (a:o0 X.prog X.w (upd H x o) h' x o) (g:0<t':=by first|exact c9 _|exact Inv.tk ‹_›|assumption|lia):Inv X Xq σ (upd H x o) { s with heap:=h',toks:=t' }:=I.un (Un.write c d k f) (I.hok.write c d k f a)
def Inv.weak(I:Inv X Xq σ H s)(a:σ'.length=σ.length)(w:∀(i:Nat)v,σ'[i]?=YP (YP v)->σ[i]?=YP (YP v)):Inv X Xq σ' H s:=
 ⟨I.ok,I.os,I.bare,I.base,let ⟨m,hn,sJ⟩:=I.loc;⟨m,hn,λi x v b c d=>sJ i x v b (w i v c) d⟩,I.cell,I.free,I.freeC,I.pin,I.hok,a.trans I.len,I.tk⟩
def Inv.pins_of(I:Inv X Xq σ H s)(h:∀p∈FW,s.heap.get? p.1=YP p.2/\H p.1=JL/\p.1≠X.env.locals/\p.1∉X.fs/\∀v,p.2.data ≠ .cell v):Inv X FW σ H s:=
 ⟨I.ok,I.os,I.bare,I.base,I.loc,I.cell,I.free,I.freeC,λp a=>(aP.mp a).elim (λz=>I.pin p (ci _ z)) (h p),I.hok,I.len,I.tk⟩
def L5{N:List aq}(c:N.Nodup){i j:Nat}{x:aq}(a:N[i]?=YP x)(b:N[j]?=YP x):i=j:=by obtain⟨f,d⟩:=am.mp a;obtain⟨g,e⟩:=am.mp b;exact(j9 c).mp (d.trans e.symm)
def Mz{M:iq}{A:aU}{E:ae->ah->Prop}{i:Nat}{x:aq}{v:V}{u:ae}{Q:Unit->ah->Prop}(I:Inv X Xq σ H s)(hN:X.N.Nodup)(hi:X.N[i]?=YP x)(t:Loc X.env.scope x)(r:RelV v u)
  (h:∀s',Inv X Xq (σ.set i (YP v)) H s'->(∃a,de a s.heap s'.heap/\(a=X.env.locals\/X.env.cells.lookup x=YP a))->Q () s') (hf:X.fn x=JQ\/X.env.scope.names.lookup x=YP .local:=by first|exact .inl rfl|exact .inr rfl|assumption):ao M A (storeName X.env x u) Q E s:=by
 obtain⟨m,L,hl⟩:=id I.loc;have zG:(X.env.scope.kind == .class||(X.env.scope.kind == .module&&X.env.locals !=X.env.globals))=JU:=by rw[I.ok.kind];rfl
 have GN:i<σ.length:=by rw[I.len];exact(am.mp hi).1
 have C:=I.cne;have g:∀{a:af}{h':aS},(∃o,s.heap.get? a=YP o/\H a=JL)->de a s.heap h'->HOk X.prog X.w H h':=λ{a h'}ha f b ob e=>by
  obtain⟨_,_,qm⟩:=ha;refine(I.hok b ob e).stay (λc G hc q=>(f.2 c ?_).trans q) (λ_ q=>q) λ_ _ q=>q;rintro rfl;rcases hc with rfl|hc
  ·rw[qm] at e;cases e
  ·rw[qm] at hc;cases hc
 rcases t with hk|hk
 ·refine wpAny_storeName_local hk L (λh' Ai f=>?_) zG;obtain⟨oL,_,_,O,_⟩:=id L;refine h _ ⟨I.ok,I.os,I.bare,⟨λb o e n D t=>?_,λb o e n D t=>?_,I.base.free,λb o e t=>?_,I.base.tups,I.base.frzs,I.base.tbls⟩,⟨_,Ai,λj y P l B R=>?_⟩,λy c e=>?_,I.free,I.freeC,λp S=>?_,g ⟨oL,O,I.free⟩ f,by simpa using I.len,c9 _⟩ ⟨_,f,.inl rfl⟩
  ·exact(f.2 b (bb (ba (aJ e) I.ok.above))).trans (I.base.keep b o e n D t)
  ·obtain⟨T,l⟩:=I.base.slot b o e n D t;exact⟨T,(f.2 b (bb (ba (aJ e) I.ok.above))).trans l⟩
  ·obtain⟨U,l⟩:=I.base.there b o e t;exact⟨U,(f.2 b (bb (ba (aJ e) I.ok.above))).trans l⟩
  ·by_cases F:j=i
   ·subst F;rw[hi] at l;cases l;rw[aZ GN] at B;cases B;exact⟨u,r,.inl ⟨hk,by simp⟩⟩
   ·rw[aX (bC F)] at B;obtain⟨W,Y,q⟩:=hl j y P l B R;refine⟨W,Y,?_⟩;rcases q with⟨k,e⟩|⟨k,c,e,z⟩
    ·refine .inl ⟨k,?_⟩;have:y≠x:=λe=>F (L5 hN l (e▸hi));simp[this,e]
    ·exact .inr ⟨k,c,e,z.sameBut f (C y c e)⟩
  ·obtain⟨G,z⟩:=I.cell y c e;exact⟨G,z.sameBut f (C y c e)⟩
  ·obtain⟨e,n,J,Z,d⟩:=I.pin p S;exact⟨(f.2 p.1 J).trans e,n,J,Z,d⟩
 ·have EC:X.fn x=JQ:=by
   rcases hf with z|z
   ·exact z
   ·rw[z] at hk;cases hk
  obtain⟨c,hc⟩:=I.ok.has x (.inl hk);obtain⟨G,z⟩:=I.cell x c hc;refine wpAny_storeName_cell I.ok.kind hk hc z (λh' ym f=>?_);obtain⟨oc,BP,N0⟩:=id z;refine h { s with heap:=h' } ⟨I.ok,I.os,I.bare,⟨λb o e n D t=>?_,λb o e n D t=>?_,I.base.free,λb o e t=>?_,I.base.tups,I.base.frzs,I.base.tbls⟩,⟨m,L.sameBut f (bC (C x c hc)),λj y P l B R=>?_⟩,λy K e=>?_,I.free,I.freeC,λp S=>?_,g ⟨oc,BP,I.freeC x c hc⟩ f,by simpa using I.len,I.tk⟩ ⟨c,f,.inr hc⟩
  ·exact(f.2 b (bb (ba (aJ e) (I.ok.cab x c EC hc)))).trans (I.base.keep b o e n D t)
  ·obtain⟨T,l⟩:=I.base.slot b o e n D t;exact⟨T,(f.2 b (bb (ba (aJ e) (I.ok.cab x c EC hc)))).trans l⟩
  ·obtain⟨U,l⟩:=I.base.there b o e t;exact⟨U,(f.2 b (bb (ba (aJ e) (I.ok.cab x c EC hc)))).trans l⟩
  ·by_cases F:j=i
   ·subst F;rw[hi] at l;cases l;rw[aZ GN] at B;cases B;exact⟨u,r,.inr ⟨.inl hk,c,hc,ym⟩⟩
   ·rw[aX (bC F)] at B;obtain⟨W,Y,q⟩:=hl j y P l B R;refine⟨W,Y,?_⟩;rcases q with q|⟨k,K,e,z'⟩
    ·exact .inl q
    ·refine .inr ⟨k,K,e,z'.sameBut f ?_⟩;rintro rfl;exact F (L5 hN l (I.ok.inj _ _ _ e hc▸hi))
  ·by_cases uR:K=c
   ·subst uR;exact⟨_,ym⟩
   ·obtain⟨w2,z2⟩:=I.cell y K e;exact⟨w2,z2.sameBut f uR⟩
  ·obtain⟨e,n,J,Z,d⟩:=I.pin p S;refine⟨(f.2 p.1 ?_).trans e,n,J,Z,d⟩;intro q;rw[q,BP] at e;have q':=cy e;exact d G (by rw[<- q'];exact N0)
def Fy(I:Inv X Xq σ H s)(a:X.N.Nodup)(hi:X.N[i]?=YP x)(b:Loc X.env.scope x)(r:RelV v u)
  (h:∀s',Inv X Xq (σ.set i (YP v)) H s'->Q () s') (c:X.fn x=JQ\/X.env.scope.names.lookup x=YP .local:=by first|exact .inl rfl|exact .inr rfl|assumption):ao M A (storeName X.env x u) Q E s:=
 Mz I a hi b r (λs' d _=>h s' d) c
def Inv.call'(I:Inv X Xq σ H s)(d:s'.os=s.os)(u:Un (rP X.stack) ch H H' s.heap s'.heap)(a:HOk X.prog X.w H' s'.heap)(f:gk s'.gens)
  (g:∀b∈ch,(b∈X.ex\/X.s₀.heap.objs.size<=b)/\b≠X.env.locals/\(∀x c,X.env.cells.lookup x=YP c->c≠b)/\∀p∈X.pn++Xq,p.1≠b) (h:0<s'.toks:=by first|exact c9 _|exact Inv.tk ‹_›|assumption|lia):Inv X Xq σ H' s':=by obtain⟨h',i,j,k,l⟩:=s';have e:=d;subst e;exact I.call u a f g
end
abbrev XK:=ae->Option af->Hp->Prop
abbrev St:=List (Option V)
abbrev VK:=V->Hp->Prop
abbrev TE:=St->Hp->VK->Prop
abbrev TT:=St->Hp->(Bool->Hp->Prop)->Prop
abbrev TA:=St->Hp->(List V->Hp->Prop)->Prop
structure yU where
 nx:St->Hp->Prop
 rt:VK
 bk:St->Hp->Prop:=λ_ _=>False
 ct:St->Hp->Prop:=λ_ _=>False
abbrev TS:=yU->St->Hp->Prop
def EP(X:Cx)(Xq:List (af×Obj))(σ:St)(Q:VK)(u:ae)(s':ah):Prop:=∃v H',Inv X Xq σ H' s'/\RelV v u/\Q v H'
def TP(X:Cx)(Xq:List (af×Obj))(σ:St)(Q:Bool->Hp->Prop)(b:Bool)(s':ah):Prop:=∃H',Inv X Xq σ H' s'/\Q b H'
def AP(X:Cx)(Xq:List (af×Obj))(σ:St)(Q:List V->Hp->Prop)(us:List ae)(s':ah):Prop:=∃vs H',Inv X Xq σ H' s'/\oO vs us/\Q vs H'
def SP(X:Cx)(Xq:List (af×Obj))(D:yU)(f:Flow)(s':ah):Prop:=
 match f with
 |.next=>∃σ' H',Inv X Xq σ' H' s'/\D.nx σ' H'
 |.brk=>∃σ' H',Inv X Xq σ' H' s'/\D.bk σ' H'
 |.cont=>∃σ' H',Inv X Xq σ' H' s'/\D.ct σ' H'
 |.ret u=>∃v σ' H',Inv X Xq σ' H' s'/\RelV v u/\D.rt v H'
def PE(X:Cx)(e:aR)(t:TE):Prop:=
 ∀(Xq:List (af×Obj))(s:ah)(σ:St)(H:Hp)(Q:VK),Inv X Xq σ H s->t σ H Q->ao (au X.prog X.w) X.A (eval e X.env) (EP X Xq σ Q) X.xe s
def PT(X:Cx)(e:aR)(t:TT):Prop:=
 ∀(Xq:List (af×Obj))(s:ah)(σ:St)(H:Hp)(Q:Bool->Hp->Prop),Inv X Xq σ H s->t σ H Q->ao (au X.prog X.w) X.A (isTrue e X.env (eval e X.env)) (TP X Xq σ Q) X.xe s
def PW(X:Cx)(e:aR)(t:TT):Prop:=
 ∀(whole:Sem ae)(Xq:List (af×Obj))(s:ah)(σ:St)(H:Hp)(Q:Bool->Hp->Prop),Inv X Xq σ H s->t σ H Q->ao (au X.prog X.w) X.A (isTrue e X.env whole) (TP X Xq σ Q) X.xe s
def PW.pt(h:PW X e t):PT X e t:=h _
def PA(X:Cx)(es:List aR)(t:TA):Prop:=
 ∀(pos:Pos)(Xq:List (af×Obj))(s:ah)(σ:St)(H:Hp)(Q:List V->Hp->Prop),Inv X Xq σ H s->t σ H Q->ao (au X.prog X.w) X.A (spliced (backTo pos (aF es X.env))) (AP X Xq σ Q) X.xe s
def PS(X:Cx)(st:dh)(t:TS):Prop:=
 ∀(Xq:List (af×Obj))(s:ah)(σ:St)(H:Hp)(D:yU),Inv X Xq σ H s->t D σ H->ao (au X.prog X.w) X.A (exec st X.env) (SP X Xq D) X.xe s
def sZ(X:Cx)(st:List dh)(t:TS):Prop:=
 ∀(Xq:List (af×Obj))(s:ah)(σ:St)(H:Hp)(D:yU),Inv X Xq σ H s->t D σ H->ao (au X.prog X.w) X.A (execs st X.env) (SP X Xq D) X.xe s
def pZ{α:Type}{t:Sem α}{Q b:α->ah->Prop}{M:iq}{A:aU}{E:ae->ah->Prop}{s:ah}(h:ao M A t Q E s)(c:∀a s,Q a s->b a s):ao M A t b E s:=cj h c λ_ _ x=>x
section
variable{X:Cx}
def bin{a b:aR}{i j:TE}(k:PE X a i)(l:PE X b j){c:List (af×Obj)}{s:ah}{σ:St}{H:Hp}{R:V->V->Hp->Prop}(I:Inv X c σ H s)(h:i σ H λx g=>j σ g λy d=>R x y d)
  {α:Type} {Q:α->ah->Prop} {f:ae->ae->Sem α}
  (m:∀v u e x y d,Inv X c σ d e->RelV x v->RelV y u->R x y d->ao (au X.prog X.w) X.A (f v u) Q X.xe e):
  ao (au X.prog X.w) X.A (eval a X.env) (λv n=>ao (au X.prog X.w) X.A (eval b X.env) (λu o=>ao (au X.prog X.w) X.A (f v u) Q X.xe o) X.xe n) X.xe s:=by refine pZ (k c s σ H _ I h) λv p ⟨x,g,q,r,t⟩=>?_;refine pZ (l c p σ g _ q t) λu e ⟨y,d,z,B,C⟩=>?_;exact m v u e x y d z r B C
def HQ(i:Nat):TE:=λσ H Q=>∃v,σ[i]?=YP (YP v)/\Q v H
def tC(v:V):TE:=λ_ H Q=>Q v H
abbrev rH(x:aq):Prop:=(x==("__debug__":aq))=JU
def Fb(j:X.N[i]?=YP x)(k:sY X.env.scope x)(d:rH x:=by decide)(n:(x==("__classdict__":aq))=JU:=by decide):PE X (.Name x pos) (HQ i):=by
 intro b s o H Q I h;obtain⟨v,e,h⟩:=h;obtain⟨m,p,q⟩:=I.loc;obtain⟨u,r,l⟩:=q i x v j e k;have a:EP X b o Q u s:=⟨v,H,I,r,h⟩;rcases l with⟨hk,t⟩|⟨hk,c,f,g⟩
 ·exact jb (jc I.ok.kind hk p t a) d
 ·rcases hk with hk|hk
  ·exact jb (jl I.ok.kind hk f g a) d
  ·exact jb (lX I.ok.kind hk f g a n) d
def QV:PE X (.Constant (.int i) j pos) (tC (.int i)):=λ_ _ _ H _ I h=>wpAny_Constant_int ⟨.int i,H,I.tok _,⟨_,rfl⟩,h⟩
def Yq:PE X (.Constant (.bool b) j pos) (tC (.bl b)):=λ_ _ _ H _ I h=>Constant_bool ⟨.bl b,H,I,rfl,h⟩
def Ll:PE X (.Constant .none j pos) (tC .non):=λ_ _ _ H _ I h=>Constant_none ⟨.non,H,I,rfl,h⟩
def Qy:PE X (.Constant (.str x) j pos) (tC (.str x)):=λ_ _ _ H _ I h=>jD ⟨.str x,H,I.tok _,⟨_,rfl⟩,h⟩
def Gl(X:Cx)(x:aq):Prop:=X.env.kindOf x=YP .globalImplicit
def Fj(I:Inv X Xq σ H s)(a:Gl X x)(b:X.mg x=YP u)(h:Q u s)
  (c:rH x:=by decide):ao (au X.prog X.w) X.A (eval (.Name x pos) X.env) Q E s:=
 jM I.ok.kind a (Calls.loadGlobal_global (by rw[I.ok.glob];exact I.mod.glob.keeps I.bk) b h) c
def Ce(I:Inv X Xq σ H s)(a:Gl X x)(b:X.mg x=JL)(c:bd x=YP u)(h:Q u s)
  (d:x ≠ "__name__":=by decide) (e:rH x:=by decide):ao (au X.prog X.w) X.A (eval (.Name x pos) X.env) Q E s:=by obtain⟨i,f,g⟩:=I.mod.blt;exact jM I.ok.kind a (Calls.loadGlobal_builtin (by rw[I.ok.glob];exact I.mod.glob.keeps I.bk) b (by rw[I.ok.blt];exact f.keeps I.bk) ((g x d).trans c) h) e
def IT(a:Gl X x)(b:X.mg x=YP u)(r:RelV v u)(c:rH x:=by decide):PE X (.Name x pos) (tC v):=
 λ_ _ _ H _ I h=>Fj I a b ⟨v,H,I,r,h⟩ c
def IM(a:Gl X x)(b:X.mg x=JL)(c:bd x=YP u)(r:RelV v u)(d:x ≠ "__name__":=by decide)(e:rH x:=by decide):PE X (.Name x pos) (tC v):=
 λ_ _ _ H _ I h=>Ce I a b c ⟨v,H,I,r,h⟩ d e
variable{a b:aR}{ta tb:TE}{pos:Pos}
def PC(X:Cx)(op:CmpOp)(a b:aR)(t:TE):Prop:=
 ∀(Xq:List (af×Obj))(s:ah)(σ:St)(H:Hp)(Q:VK),Inv X Xq σ H s->t σ H Q->
  ao (au X.prog X.w) X.A (eval a X.env) (λv m_=>ao (au X.prog X.w) X.A (eval b X.env) (λu tQ=>ao (au X.prog X.w) X.A (cz op v u) (EP X Xq σ Q) X.xe tQ) X.xe m_) X.xe s
def TB(b:aR)(h:op ≠ .In)(c:op ≠ .NotIn):behindInMarks op b=JU:=by
 have d:(op==CmpOp.In)=JU:=by cases op<;>first|rfl|exact absurd rfl h
 have e:(op==CmpOp.NotIn)=JU:=by cases op<;>first|rfl|exact absurd rfl c
 cases b<;>simp[behindInMarks,d,e]
def tB(t:TE):TT:=λσ H Q=>t σ H λx H1=>∃c,x=.bl c/\Q c H1
def Zu(h:PC X op a b t)(d:behindInMarks op b=JU:=by first|exact TB _ 'u' 'u'|rfl):PE X (.Compare a [op] [b] pos) t:=λc s e H Q I f=>wpAny_Compare1 (h c s e H Q I f) d
def Z7{f:CmpOp}{t:TE}(h:PC X f a b t)(g:behindInMarks f b=JU:=by first|exact TB _ 'u' 'u'|rfl):PT X (.Compare a [f] [b] pos) (tB t):=by intro e s i H Q I j;refine kU (pZ (h e s i H _ I j) λv p g=>pZ g λu r k=>pZ k λc w ⟨x,l,m,n,o⟩=>?_) g;obtain⟨d,rfl,q⟩:=o;cases n;exact di ⟨l,m,q⟩
variable{tA JO:TT}{rest:List aR}
def XR(t u:TT):TT:=λσ H Q=>t σ H λc H1=>if c=JQ then u σ H1 Q else Q JU H1
def tOr(t u:TT):TT:=λσ H Q=>t σ H λc H1=>if c=JQ then Q JQ H1 else u σ H1 Q
def XO(t:TT):TT:=λσ H Q=>t σ H λc H1=>Q (!c) H1
def ziE(f:PT X a tA):PW X (.BoolOp .And [a] pos) tA:=by
 intro i d s g H Q I h;refine isTrue_and (pZ (f d s g H Q I h) λc j e=>?_);cases c with
 |true=>exact isTrue_and_nil e
 |false=>exact e
def Zw(f:PT X a tA):PW X (.BoolOp .Or [a] pos) tA:=by
 intro i d s g H Q I h;refine isTrue_or (pZ (f d s g H Q I h) λc j e=>?_);cases c with
 |false=>exact isTrue_or_nil e
 |true=>exact e
def YO(j:PT X a tA)(k:PW X (.BoolOp .And (b::rest) pos) JO):PW X (.BoolOp .And (a::b::rest) pos) (XR tA JO):=by
 intro l d s e H Q I h;refine isTrue_and (pZ (j d s e H _ I h) λc m ⟨f,g,i⟩=>?_);cases c with
 |true=>exact k l d m e f Q g i
 |false=>exact⟨f,g,i⟩
def YG(j:PT X a tA)(k:PW X (.BoolOp .Or (b::rest) pos) JO):PW X (.BoolOp .Or (a::b::rest) pos) (tOr tA JO):=by
 intro l d s e H Q I h;refine isTrue_or (pZ (j d s e H _ I h) λc m ⟨f,g,i⟩=>?_);cases c with
 |true=>exact⟨f,g,i⟩
 |false=>exact k l d m e f Q g i
def YQ(e:PT X a tA):PT X (.UnaryOp .Not a pos) (XO tA):=by intro d s f H Q I h;exact isTrue_not (e d s f H (λc g=>Q (!c) g) I h)
def YT(ta tb:TE):TE:=λσ H Q=>ta σ H λx H1=>∃c,x=.bl c/\if c=JQ then tb σ H1 Q else Q (.bl JU) H1
def X8(ta tb:TE):TE:=λσ H Q=>ta σ H λx H1=>∃c,x=.bl c/\if c=JQ then Q (.bl JQ) H1 else tb σ H1 Q
def Y0(ta:TE):TE:=λσ H Q=>ta σ H λx H1=>∃c,x=.bl c/\Q (.bl (!c)) H1
def Zt(h:PE X a t):PE X (.BoolOp op [a] pos) t:=λc s d H Q I e=>BoolOp_one (h c s d H Q I e)
def ZT(j:PE X a ta)(k:PE X (.BoolOp .And (b::rest) pos) tb):PE X (.BoolOp .And (a::b::rest) pos) (YT ta tb):=by
 intro d s f H Q I h;refine BoolOp_and (pZ (j d s f H _ I h) λv l ⟨x,g,i,m,e⟩=>?_);obtain⟨c,rfl,e⟩:=e;cases m;refine di ?_;cases c with
 |true=>exact k d l f g Q i e
 |false=>exact⟨.bl JU,g,i,rfl,e⟩
def YV(j:PE X a ta)(k:PE X (.BoolOp .Or (b::rest) pos) tb):PE X (.BoolOp .Or (a::b::rest) pos) (X8 ta tb):=by
 intro d s f H Q I h;refine BoolOp_or (pZ (j d s f H _ I h) λv l ⟨x,g,i,m,e⟩=>?_);obtain⟨c,rfl,e⟩:=e;cases m;refine di ?_;cases c with
 |false=>exact k d l f g Q i e
 |true=>exact⟨.bl JQ,g,i,rfl,e⟩
def Zs(f:PE X a ta):PE X (.UnaryOp .Not a pos) (Y0 ta):=by intro d s g H Q I h;refine UnaryOp_ (pZ (f d s g H _ I h) λv l ⟨x,i,j,k,e⟩=>?_);obtain⟨c,rfl,e⟩:=e;cases k;exact not_of (di ⟨.bl (!c),i,j,rfl,e⟩)
end
def qR(K:ak)(H:Hp)(a:af)(xs:List V):Prop:=
 Rd H a (.lst xs) \/
  ∃(o:Obj)(c_:Array ae)(n:Nat),K.lookup a=YP o/\o.cls=.type "list"/\o.dict=JL/\o.data=.seq c_ n/\c_.size<=J3/\oO xs c_.toList
def rZ(K:ak)(H:Hp)(a:af)(xs:List V):Prop:=
 Rd H a (.tup xs) \/
  ∃(o:Obj)(c_:Array ae)(n:Nat),K.lookup a=YP o/\o.cls=.type "tuple"/\o.data=.seq c_ n/\c_.size<=J3/\oO xs c_.toList
def Yc:ae->Option V
 |.none=>YP .non
 |.bool b=>YP (.bl b)
 |.int i _=>YP (.int i)
 |.str x _=>YP (.str x)
 |.bytes b _=>YP (.byt b)
 |.float b _=>YP (.flt b)
 |.ref a=>YP (.ref a)
 |.type n=>YP (.ty n)
 |_=>JL
def RelV.abs(r:RelV x u):Yc u=YP x:=by
 cases x with
 |non=>cases r;rfl
 |bl _=>cases r;rfl
 |int _=>obtain⟨t,rfl⟩:=r;rfl
 |str _=>obtain⟨t,rfl⟩:=r;rfl
 |byt _=>obtain⟨t,rfl⟩:=r;rfl
 |flt _=>obtain⟨t,rfl⟩:=r;rfl
 |ref _=>cases r;rfl
 |ty _=>cases r;rfl
def RelV.inj(r:RelV x u)(q:RelV y u):x=y:=cy (r.abs.symm.trans q.abs)
theorem oO.inj:∀{xs a:List V}{b:List ae},oO xs b->oO a b->xs=a
 |_,_,_,.nil,.nil=>rfl
 |_,_,_,.cons r t,.cons r' t'=>by rw[r.inj r',oO.inj t t']
section
variable{X:Cx}{Xq:List (af×Obj)}{σ:St}{H:Hp}{s:ah}{a:af}{xs ys:List V}
def qR.of{K:ak}(h:H a=YP (.lst xs)):qR K H a xs:=.inl (.inl h)
def rZ.of{K:ak}(h:H a=YP (.tup xs)):rZ K H a xs:=.inl (.inl h)
def Inv.list(I:Inv X Xq σ H s)(h:qR X.K H a xs):∃b:List ae,oO xs b/\PlainL s.heap a b.toArray/\xs.length<=J3:=by
 rcases h with h|⟨o,b,n,c,d,f,g,i,r⟩
 ·obtain⟨z,b,n,r,e⟩:=h.ok I.hok;exact⟨b,r,⟨_,n,e,rfl,rfl,rfl⟩,z⟩
 ·refine⟨b.toList,r,⟨o,n,I.kIn a o c,d,f,by simpa using g⟩,?_⟩;have e:=r.length;simp at e;lia
def Inv.tuple(I:Inv X Xq σ H s)(h:rZ X.K H a xs):∃b:List ae,oO xs b/\IsTup s.heap a b.toArray/\xs.length<=J3:=by
 rcases h with h|⟨o,b,n,c,d,f,g,r⟩
 ·obtain⟨z,b,r,p⟩:=h.ok I.hok;exact⟨b,r,p.tup,z⟩
 ·refine⟨b.toList,r,⟨o,I.kIn a o c,d,n,by simpa using f⟩,?_⟩;have e:=r.length;simp at e;lia
def Inv.list_inj(I:Inv X Xq σ H s)(h:qR X.K H a xs)(h':qR X.K H a ys):xs=ys:=by
 obtain⟨f,r,⟨o,n,e,_,_,d⟩,_⟩:=I.list h;obtain⟨g,i,⟨j,k,b,_,_,c⟩,_⟩:=I.list h';rw[e] at b;cases b;rw[d] at c;injection c with d1 _;have:f=g:=by simpa using congrArg mj d1
 subst this;exact r.inj i
def Inv.tuple_inj(I:Inv X Xq σ H s)(h:rZ X.K H a xs)(h':rZ X.K H a ys):xs=ys:=by
 obtain⟨f,r,⟨o,e,_,n,d⟩,_⟩:=I.tuple h;obtain⟨g,i,⟨j,b,_,k,c⟩,_⟩:=I.tuple h';rw[e] at b;cases b;rw[d] at c;injection c with d1 _;have:f=g:=by simpa using congrArg mj d1
 subst this;exact r.inj i
end
abbrev Cx.wish(X:Cx)(E:ae->ah->Prop):Cx:={ X with xe:=E }
abbrev Cx.nox(X:Cx):Cx:=X.wish λ_ _=>False
def Cx.Ok.wish{X:Cx}(ok:X.Ok)(E:ae->ah->Prop):(X.wish E).Ok:=
 ⟨ok.mod,ok.kind,ok.glob,ok.blt,ok.above,ok.inj,ok.has,ok.cab,ok.hd,ok.frames,ok.stk,ok.exf,ok.bs,ok.bsz,ok.noex,ok.exfs,ok.funs,ok.frf⟩
def Cx.Ok.unwish{X:Cx}{E:ae->ah->Prop}(ok:(X.wish E).Ok):X.Ok:=
 ⟨ok.mod,ok.kind,ok.glob,ok.blt,ok.above,ok.inj,ok.has,ok.cab,ok.hd,ok.frames,ok.stk,ok.exf,ok.bs,ok.bsz,ok.noex,ok.exfs,ok.funs,ok.frf⟩
section
variable{X:Cx}{Xq:List (af×Obj)}{σ:St}{H:Hp}{s:ah}{E:ae->ah->Prop}
def Inv.wish(I:Inv X Xq σ H s)(E:ae->ah->Prop):Inv (X.wish E) Xq σ H s:=⟨I.ok.wish E,I.os,I.bare,I.base,I.loc,I.cell,I.free,I.freeC,I.pin,I.hok,I.len,I.tk⟩
def Inv.unwish(I:Inv (X.wish E) Xq σ H s):Inv X Xq σ H s:=⟨I.ok.unwish,I.os,I.bare,I.base,I.loc,I.cell,I.free,I.freeC,I.pin,I.hok,I.len,I.tk⟩
def SP.unwish{D:yU}{f:Flow}{s':ah}(h:SP (X.wish E) Xq D f s'):SP X Xq D f s':=by
 cases f with
 |next=>obtain⟨a,b,I,q⟩:=h;exact⟨a,b,I.unwish,q⟩
 |brk=>obtain⟨a,b,I,q⟩:=h;exact⟨a,b,I.unwish,q⟩
 |cont=>obtain⟨a,b,I,q⟩:=h;exact⟨a,b,I.unwish,q⟩
 |ret u=>obtain⟨v,a,b,I,r,q⟩:=h;exact⟨v,a,b,I.unwish,r,q⟩
def PE.nox(h:PE X.nox e t):PE X e t:=λXq s σ H Q I a=>
 cj (h Xq s σ H Q (I.wish _) a) (λ_ _ ⟨v,b,c,r,q⟩=>⟨v,b,c.unwish,r,q⟩) λ_ _ z=>ai z
def PT.nox(h:PT X.nox e t):PT X e t:=λXq s σ H Q I a=>
 cj (h Xq s σ H Q (I.wish _) a) (λ_ _ ⟨b,c,q⟩=>⟨b,c.unwish,q⟩) λ_ _ z=>ai z
def sZ.nox{a:List dh}{t:TS}(h:sZ X.nox a t):sZ X a t:=λXq s σ H D I b=>
 cj (h Xq s σ H D (I.wish _) b) (λ_ _ q=>q.unwish) λ_ _ z=>ai z
end
section
variable{X:Cx}{st:dh}{rest:List dh}{t u:TS}{e:aR}{te:TE}{pos:Pos}
def Qp:TS:=λD σ H=>D.nx σ H
def X_(t u:TS):TS:=λD σ H=>t { D with nx:=u D } σ H
def RQ:sZ X [] Qp:=λ_ _ a H _ I h=>fZ ⟨a,H,I,h⟩
def D4(c:PS X st t)(d:sZ X rest u):sZ X (st::rest) (X_ t u):=by
 intro a s g H D I h;refine gE (pZ (c a s g H { D with nx:=u D } I h) λf i q=>?_);cases f with
 | next=>
  obtain⟨b,j,k,q⟩:=q;exact d a i b j D k q
 |ret v=>exact q
 |brk=>exact q
 |cont=>exact q
def SV(b:PS X st t):sZ X [st] t:=by
 intro a s c H D I h;refine gE (pZ (b a s c H D I h) λf d q=>?_);cases f with
 |next=>exact fZ q
 |ret v=>exact q
 |brk=>exact q
 |cont=>exact q
def ziy:PS X (.Pass pos) Qp:=λ_ _ a H _ I h=>wpAny_Pass ⟨a,H,I,h⟩
def Inv.quiet{a:List (af×Obj)}{σ:St}{H:Hp}{s:ah}(I:Inv X a σ H s):interactive X.env=JU:=by simp[interactive,I.ok.kind]
def Ye(te:TE):TS:=λD σ H=>te σ H λ_ H1=>D.nx σ H1
def Sa(c:PE X e te)(d:swapsWith e JL pos.line X.env=pure JU:=by rfl):PS X (.Expr e pos) (Ye te):=by intro a s b H D I h;exact wpAny_Expr_any (pZ (c a s b H _ I h) λv j ⟨x,f,g,k,i⟩=>⟨b,f,g,i⟩) I.quiet d
def XF(te:TE):TS:=λD σ H=>te σ H D.rt
def zjB(c:PE X e te):PS X (.Return (YP e) pos) (XF te):=by intro a s b H D I h;exact wpAny_Return_some (pZ (c a s b H _ I h) λv j ⟨x,d,f,g,i⟩=>⟨x,b,d,f,g,i⟩)
def XI(c:TT)(t u:TS):TS:=λD σ H=>c σ H λb H1=>if b=JQ then t D σ H1 else u D σ H1
def YF{c:aR}{a b:List dh}{i:TT}(n:PT X c i)(o:sZ X a t)(p:sZ X b u):PS X (.If c a b pos) (XI i t u):=by
 intro f s g H D I h;refine wpAny_If (pZ (n f s g H _ I h) λd j ⟨k,l,m⟩=>?_);cases d with
 |true=>exact o f j g k D l m
 |false=>exact p f j g k D l m
def Zx:TS:=λ_ _ _=>False
def zb8:sZ X sts Zx:=λ_ _ _ _ _ _ h=>h.elim
end
abbrev TG:=V->St->Hp->(St->Hp->Prop)->Prop
abbrev EI:=List V->St->Hp->(St->Hp->Prop)->Prop
def PG(X:Cx)(target:aR)(t:TG):Prop:=
 ∀(Xq:List (af×Obj))(s:ah)(σ:St)(H:Hp)(v:V)(u:ae)(Q:St->Hp->Prop),Inv X Xq σ H s->RelV v u->t v σ H Q->
  ao (au X.prog X.w) X.A (assign target X.env u) (λ_ s'=>∃σ' H',Inv X Xq σ' H' s'/\Q σ' H') X.xe s
def Kn(X:Cx)(ts:List aR)(t:EI):Prop:=
 ∀(Xq:List (af×Obj))(s:ah)(σ:St)(H:Hp)(vs:List V)(us:List ae)(Q:St->Hp->Prop),Inv X Xq σ H s->oO vs us->t vs σ H Q->
  ao (au X.prog X.w) X.A (assignInOrder ((ir ts X.env).map (·.2)) us) (λ_ s'=>∃σ' H',Inv X Xq σ' H' s'/\Q σ' H') X.xe s
abbrev KH:=V->V->V->Hp->(Hp->Prop)->Prop
def Po(X:Cx)(t:KH):Prop:=
 ∀(Xq:List (af×Obj))(s:ah)(σ:St)(H:Hp)(o i v:V)(ov iv u:ae)(Q:Hp->Prop),Inv X Xq σ H s->RelV o ov->RelV i iv->RelV v u->t o i v H Q->
  ao (au X.prog X.w) X.A (setItem ov iv u) (λ_ s'=>∃H',Inv X Xq σ H' s'/\Q H') X.xe s
abbrev Km:=V->V->Hp->VK->Prop
def Xh(X:Cx)(op:Operator)(t:Km):Prop:=
 ∀(Xq:List (af×Obj))(s:ah)(σ:St)(H:Hp)(x y:V)(v u:ae)(Q:VK),Inv X Xq σ H s->RelV x v->RelV y u->t x y H Q->
  ao (au X.prog X.w) X.A (inplaceOp op v u) (EP X Xq σ Q) X.xe s
section
variable{X:Cx}{pos:Pos}
def AB(i:Nat):TG:=λv σ H Q=>Q (σ.set i (YP v)) H
def IL(b:X.N.Nodup)(hi:X.N[i]?=YP x)(c:Loc X.env.scope x)(d:X.fn x=JQ\/X.env.scope.names.lookup x=YP .local:=by first|exact .inl rfl|exact .inr rfl|assumption):PG X (.Name x pos) (AB i):=by intro a s f H v u Q I r h;exact jS (Fy I b hi c r (λg e=>⟨_,H,e,h⟩) d)
def Pq:EI:=λvs σ H Q=>vs=[]/\Q σ H
def KU(t:TG)(u:EI):EI:=λvs σ H Q=>∃v r,vs=v::r/\t v σ H λσ' H'=>u r σ' H' Q
def zi7:Kn X [] Pq:=by intro a s b H c d Q I r h;obtain⟨e,h⟩:=h;subst e;exact assignInOrder_nil ⟨b,H,I,h⟩
def S4{e:aR}{b:List aR}{t:TG}{u:EI}(c:PG X e t)(d:Kn X b u)
  (f:(ir (e::b) X.env).map (·.2)=assign e X.env::(ir b X.env).map (·.2):=by rfl):Kn X (e::b) (KU t u):=by
 intro a s g H o p Q I r h;obtain⟨v,q,i,h⟩:=h;subst i;cases r with
 | cons r rr=>
  rw[f];exact assignInOrder_cons (pZ (c a s g H _ _ _ I r h) λ_ j ⟨k,l,m,n⟩=>(d a j k l _ _ Q m rr n))
noncomputable def Pm(K:ak)(n:Nat)(t:EI):TG:=λv σ H Q=>∃a xs,v=.ref a/\rZ K H a xs/\xs.length=n/\t xs σ H Q
def Zg(g:X.calm=JQ)(h:Kn X es t)
  (i:(ir es X.env).length=n:=by rfl) (j:(ir es X.env).findIdx? (·.1)=JL:=by rfl):PG X (.Tuple es k pos) (Pm X.K n t):=by intro c s l H v u Q I r d;obtain⟨a,m,p,q,w,d⟩:=d;subst p;cases r;obtain⟨A,f,x,B⟩:=I.tuple q;refine assign_Tuple_tuple (I.ok.hd g) x (by simp[i,<- w,f.length]) j λC y=>?_;have z:=I.kept λb o e=>y b o (bb (aJ e)) e;exact h c _ l H m _ Q z ⇑f d
def Bc(to ti:TE)(t:KH):TG:=λv σ H Q=>to σ H λo H1=>ti σ H1 λi H2=>t o i v H2 λH3=>Q σ H3
def YH{o i:aR}{e f:TE}{t:KH}(g:PE X o e)(hi:PE X i f)(j:Po X t)
  (F:∀v,assign (.Subscript o i pos) X.env v=(do
   let b <- holding [v] (eval o X.env);let c <- holding [v,b] (eval i X.env)
   standAt pos
   holding [v,b,c] (setItem b c v)
   release [v,b,c] []):=by intro _;rfl):PG X (.Subscript o i pos) (Bc e f t):=by intro a s d H v u Q I r h;refine aa (bG (pZ (g a s d H _ I h) λb k ⟨x,l,m,n,p⟩=>?_));refine aa (bG (pZ (hi a k d l _ m p) λc q ⟨y,w,z,A,B⟩=>?_));refine aa (fA (aa (bG (pZ (j a q d w x y v b c u _ z n A r B) λ_ G ⟨C,D,E⟩=>?_))));exact wpAny_release ⟨d,C,D,E⟩
def Dv(te:TE)(g:TG):TS:=λD σ H=>te σ H λx H1=>g x σ H1 D.nx
def QD{b e:aR}{te:TE}{g:TG}(d:PE X e te)(f:PG X b g)(i:iS [b] e pos.line X.env=pure JU:=by rfl)(j:iU [b] e X.env=pure JL:=by rfl)
  (k:(ir [b] X.env).map (·.2)=[assign b X.env]:=by rfl):PS X (.Assign [b] e pos) (Dv te g):=by intro a s c H D I h;refine wpAny_Assign_stores (pZ (d a s c H _ I h) λv l ⟨x,m,n,o,p⟩=>?_) i j;rw[k];exact pZ (f a l c m x v _ n o p) λ_ r q=>q
def Lk{i:Nat}{x:aq}{e:aR}{te:TE}{pos':Pos}(b:X.N.Nodup)(hi:X.N[i]?=YP x)(c:Loc X.env.scope x)(d:PE X e te)(f:swapsWith e (YP (.Name x pos')) pos.line X.env=pure JU:=by rfl)(g:X.fn x=JQ\/X.env.scope.names.lookup x=YP .local:=by first|exact .inl rfl|exact .inr rfl|assumption):
  PS X (.Assign [.Name x pos'] e pos) (Dv te (AB i)):=by intro a s j H D I h;refine wpAny_Assign_Name (pZ (d a s j H _ I h) λv p ⟨y,k,l,m,n⟩=>?_) f;exact Fy l b hi c m (λq o=>⟨_,k,o,n⟩) g
def X7(i:Nat)(te:TE)(ti:Km):TS:=λD σ H=>∃x,σ[i]?=YP (YP x)/\te σ H λy H1=>ti x y H1 λz H2=>D.nx (σ.set i (YP z)) H2
def ZG{i:Nat}{x:aq}{e:aR}{te:TE}{b:Operator}{g:Km}{pos':Pos}(o:X.N.Nodup)(hi:X.N[i]?=YP x)(d:Loc X.env.scope x)(p:PE X e te)(q:Xh X b g)(t:X.fn x=JQ\/X.env.scope.names.lookup x=YP .local:=by first|exact .inl rfl|exact .inr rfl|assumption):
  PS X (.AugAssign (.Name x pos') b e pos) (X7 i te g):=by
 intro a s j H D I h;obtain⟨v,B,h⟩:=h;obtain⟨m,C,E⟩:=I.loc;have f:sY X.env.scope x:=by rcases d with k|k;exact .inl k;exact .inr (.inl k)
 obtain⟨u,r,l⟩:=E i x v hi B f;refine wpAny_AugAssign_Name ?_;have n:ao (au X.prog X.w) X.A (eval e X.env) (λw F=>ao (au X.prog X.w) X.A (inplaceOp b u w) (λr G=>ao (au X.prog X.w) X.A (storeName X.env x r) (λ_=>SP X a D .next) X.xe G) X.xe F) X.xe s:=by
  refine pZ (p a s j H _ I h) λw J ⟨y,K,L,M,O⟩=>?_;exact pZ (q a J j K v y u w _ L r M O) λz Y ⟨Z,P,Q,R,S⟩=>(Fy Q o hi d R (λs3 T=>⟨_,P,T,S⟩) t)
 rcases l with⟨hk,U⟩|⟨hk,c,V,W⟩
 ·exact jc I.ok.kind hk C U n
 ·rcases hk with hk|hk
  ·exact jl I.ok.kind hk V W n
  ·rcases d with k|k
   ·have:X.env.scope.names.lookup x=YP .free:=hk;rw[k] at this;cases this
   ·have:X.env.scope.names.lookup x=YP .free:=hk;rw[k] at this;cases this
def ipI(f:Int->Int->Int):Km:=λx y H Q=>∃i j,x=.int i/\y=.int j/\Q (.int (f i j)) H
def zj6:Xh X .Add (ipI λi j=>i+j):=by intro a s f H x y v u Q I b c h;obtain⟨i,j,d,e,q⟩:=h;subst d;subst e;obtain⟨t,rfl⟩:=b;obtain⟨g,rfl⟩:=c;exact iadd_int ⟨.int _,H,I.tok _,⟨_,rfl⟩,q⟩
end
section
variable{X:Cx}{pos:Pos}
noncomputable def Y7(c:TT)(tb:TS):TS:=λD σ H=>∃W:Nat->St->Hp->Prop,(∃m,W m σ H)/\∀m σ H,W m σ H->
 c σ H λb H1=>if b=JQ then ∃N:St->Hp->Prop,(∀σ' H',N σ' H'->∃m',m'<m/\W m' σ' H')/\tb { D with nx:=N,ct:=N,bk:=D.nx } σ H1 else D.nx σ H1
def zeT{c:aR}{body:List dh}{t:TT}{u:TS}(x:jE (au X.prog X.w) X.A X.env X.xe)(F:PT X c t)(G:sZ X body u):PS X (.While c body [] pos) (Y7 t u):=by
 intro a s J H D I h;obtain⟨W,⟨K,L⟩,d⟩:=h;refine wpAny_While (codeAny_whileLoop (λn M=>∃e y,Inv X a e y M/\W n e y) ?_ K ⟨J,H,I,L⟩);rintro n O ⟨j,z,P,Q⟩;refine fq x (pZ (F a O j z _ P (d n j z Q)) λb R ⟨B,C,k⟩=>?_);cases b with
 | true=>
  obtain⟨N,E,k⟩:=k;refine fq x (pZ (G a R j B _ C k) λf S l=>?_);cases f with
  | next=>
   obtain⟨g,i,m,o⟩:=l;obtain⟨p,q,r⟩:=E g i o;exact⟨p,q,g,i,m,r⟩
  | cont=>
   obtain⟨g,i,m,o⟩:=l;obtain⟨p,q,r⟩:=E g i o;exact⟨p,q,g,i,m,r⟩
  |brk=>exact l
  |ret v=>exact l
 | false=>
  exact fZ ⟨j,B,C,k⟩
end
structure It where
 go:Nat->Hp->Prop
 yld:Nat->Hp->V->Hp->Prop
 stop:Nat->Hp->Prop
def tj(X:Cx)(Xq:List (af×Obj))(H:Hp)(b:af):Prop:=
 H b=JL/\b≠X.env.locals/\b∉X.fs/\(b∈X.ex\/X.s₀.heap.objs.size<=b)/\(∀x c,X.env.cells.lookup x=YP c->c≠b)/\∀p∈X.pn++Xq,p.1≠b
def Inv.fpOk(I:Inv X Xq σ H s)(a:s.heap.objs.size<=b)(d:H' b=JL):tj X Xq H' b:=by
 refine⟨d,dB (ba I.lt a),I.nofs a,.inr (aM I.sz a),λx c e z=>?_,λp f z=>?_⟩
 ·obtain⟨v,q⟩:=I.cell x c e;exact absurd (ba q.lt (by rw[z];exact a)) (bP _)
 ·exact absurd (ba (aJ (I.pin p f).1) (by rw[z];exact a)) (bP _)
structure yv(P:aK)(w:aT)(K:ak)(tg:aR)(J:It)(fp:List af)(it:af)(tn:Nat->aS->Prop):Prop where
 mem:it∈fp
 obj:∀i h,tn i h->∀b∈fp,∃o,h.get? b=YP o/\∀v,o.data ≠ .cell v
 keep:∀i h h',tn i h->(∀b∈fp,∀o,h.get? b=YP o->h'.get? b=YP o)->tn i h'
 item:∀(X:Cx),X.prog=P->X.w=w->X.K=K->X.calm=JQ->∀(i:Nat)(Xq:List (af×Obj))(s:ah)(σ:St)(H:Hp)(E:ae->ah->Prop),Inv X Xq σ H s->(∀b∈fp,tj X Xq H b)->tn i s.heap->J.go i H->
  ao (au P w) X.A (pyNext (.ref it)) (λr s1=>∃u,r=YP u/\
   ao (au P w) X.A (letOwnedTupleGo tg (.ref it) u) (λ_ s2=>∃x H',Inv X Xq σ H' s2/\RelV x u/\J.yld i H x H'/\tn (i+1) s2.heap/\∀b∈fp,H' b=JL) E s1) E s
 done:∀(X:Cx),X.prog=P->X.w=w->X.K=K->X.calm=JQ->∀(i:Nat)(Xq:List (af×Obj))(s:ah)(σ:St)(H:Hp)(E:ae->ah->Prop),Inv X Xq σ H s->(∀b∈fp,tj X Xq H b)->tn i s.heap->J.stop i H->
  ao (au P w) X.A (pyNext (.ref it)) (λr s1=>r=JL/\Inv X Xq σ H s1) E s
 self:∀(A:aU)(i:Nat)(s:ah)(Q:ae->ah->Prop)(E:ae->ah->Prop),tn i s.heap->Q (.ref it) s->ao (au P w) A (pyIter (.ref it)) Q E s
abbrev TI:=St->Hp->(It->Hp->Prop)->Prop
def Xi(X:Cx)(Xq:List (af×Obj))(σ:St)(tg:aR)(R:It->Hp->Prop)(Gh:ae)(s2:ah):Prop:=
 ∃(it:af)(fp:List af)(tn:Nat->aS->Prop)(J:It)(H':Hp),Gh=.ref it/\Inv X Xq σ H' s2/\yv X.prog X.w X.K tg J fp it tn/\tn 0 s2.heap/\(∀b∈fp,tj X Xq H' b)/\R J H'
def PI(X:Cx)(tg iter:aR)(wi:TI):Prop:=
 ∀(Xq:List (af×Obj))(s:ah)(σ:St)(H:Hp)(R:It->Hp->Prop),Inv X Xq σ H s->wi σ H R->
  ao (au X.prog X.w) X.A (eval iter X.env) (λv s1=>ao (au X.prog X.w) X.A (pyIter v) (Xi X Xq σ tg R) X.xe s1) X.xe s
def EW(b:s.heap.get? it=YP o)(c:o.cls=.type n)(d:o.data=.fields vs)
  (e:["enumerate", "zip", "dict_itemiterator", "dict_reverseitemiterator", "odict_iterator", "itertools.zip_longest", "itertools.pairwise"].contains n=JU) (a:Q () s):ao M A (letOwnedTupleGo tg (.ref it) u) Q E s:=by
 cases tg<;>first
  |exact aj a
  | (cases u<;>first
    |exact aj a
    | (refine aa (lA b ?_)
       rw[c,d];show ao M A (if (["enumerate", "zip", "dict_itemiterator", "dict_reverseitemiterator", "odict_iterator", "itertools.zip_longest", "itertools.pairwise"].contains n&&vs[0]?==YP (bN _))=JQ then _ else _) Q E s;rw[JW (by intro h;rw[e,Bool.false_and] at h;cases h)];exact aj a))
noncomputable def OU(K:ak)(a:af):It:=
 ⟨λi H=>∃xs x,qR K H a xs/\xs[i]?=YP x,λi H x H'=>H'=H/\∀xs,qR K H a xs->xs[i]?=YP x,λi H=>∃xs,qR K H a xs/\xs.length<=i⟩
noncomputable def OS(K:ak)(a:af):It:=
 ⟨λi H=>∃xs x,rZ K H a xs/\xs[i]?=YP x,λi H x H'=>H'=H/\∀xs,rZ K H a xs->xs[i]?=YP x,λi H=>∃xs,rZ K H a xs/\xs.length<=i⟩
noncomputable def Kq(lo:Int)(n:Nat):It:=⟨λi _=>i<n,λi H x H'=>H'=H/\x=.int (lo+i),λi _=>n<=i⟩
def Uy{P:aK}{w:aT}{K:ak}{N:aR}(a it:af):yv P w K N (OU K a) [it] it (λi h=>h.IsListIter it a i) where
 mem:=by simp
 obj:=λi h f b g=>by
  have e:b=it:=⇑g
  subst e;obtain⟨o,e,c,d⟩:=f;exact⟨o,e,λv z=>by rw[d] at z;cases z⟩
 keep:=λi h J f k=>f.at λo e=>k it 'k' o e
 item:=by
  intro X n q r L i j s O H E I l f t;subst n q r;obtain⟨Q,x,m,y⟩:=t;obtain⟨R,A,p,S⟩:=I.list m;obtain⟨u,T,U⟩:=A.get y;obtain⟨B,C,V,D,F,G⟩:=l it 'k';refine wpAny_pyNext_list_item f p.isList ⇑T λJ M W=>?_;have Y:=I.turned (λb o g e=>(W.2 b g).trans e) B C D F G;obtain⟨o,e,c,d⟩:=id M;exact⟨u,rfl,EW e c d 'u' ⟨x,H,Y,U,⟨rfl,λys Z=>by rw[I.list_inj Z m];exact y⟩,M,λb g=>(l b g).1⟩⟩
 done:=by
  intro X n q r L i j s O H E I l f t;subst n q r;obtain⟨Q,m,y⟩:=t;obtain⟨R,A,p,S⟩:=I.list m;obtain⟨B,C,V,D,F,G⟩:=l it 'k';have hl:=A.length;exact wpAny_pyNext_list_end (I.ok.hd L) f p.isList (by simp;lia) λJ eb=>⟨rfl,I.turned (λb o g e=>eb b o g e) B C D F G⟩
 self:=λ_ _ _ _ _ f h=>wpAny_pyIter_listiter f h
def zat{P:aK}{w:aT}{K:ak}{N:aR}(a it:af):yv P w K N (OS K a) [it] it (λi h=>h.IsTupleIter it a i) where
 mem:=by simp
 obj:=λi h f b g=>by
  have e:b=it:=⇑g
  subst e;obtain⟨o,e,c,d⟩:=f;exact⟨o,e,λv z=>by rw[d] at z;cases z⟩
 keep:=λi h J f k=>f.at λo e=>k it 'k' o e
 item:=by
  intro X n q r L i j s O H E I l f t;subst n q r;obtain⟨Q,x,m,y⟩:=t;obtain⟨R,A,p,S⟩:=I.tuple m;obtain⟨u,T,U⟩:=A.get y;obtain⟨B,C,V,D,F,G⟩:=l it 'k';refine wpAny_pyNext_tuple_item f (p) ⇑T λJ M W=>?_;have Y:=I.turned (λb o g e=>(W.2 b g).trans e) B C D F G;obtain⟨o,e,c,d⟩:=id M;exact⟨u,rfl,EW e c d 'u' ⟨x,H,Y,U,⟨rfl,λys Z=>by rw[I.tuple_inj Z m];exact y⟩,M,λb g=>(l b g).1⟩⟩
 done:=by
  intro X n q r L i j s O H E I l f t;subst n q r;obtain⟨Q,m,y⟩:=t;obtain⟨R,A,p,S⟩:=I.tuple m;obtain⟨B,C,V,D,F,G⟩:=l it 'k';have hl:=A.length;exact wpAny_pyNext_tuple_end (I.ok.hd L) f (p) (by simp;lia) λJ eb=>⟨rfl,I.turned (λb o g e=>eb b o g e) B C D F G⟩
 self:=λ_ _ _ _ _ f h=>wpAny_pyIter_tupleiter f h
def za7{P:aK}{w:aT}{K:ak}{D:aR}(it:af)(lo:Int)(n:Nat):yv P w K D (Kq lo n) [it] it (λi h=>IsRangeIter h it (lo+(i:Nat)*1) ((n:Int)-(i:Nat)) 1) where
 mem:=by simp
 obj:=λi h a b d=>by
  have e:b=it:=⇑d
  subst e;exact⟨_,a,λv z=>by
   have F:=z;cases F⟩
 keep:=λi h g a k=>k it 'k' _ a
 item:=by
  intro X x y A j i c s B H E I f a l;subst x y A;obtain⟨m,p,G,q,r,u⟩:=f it 'k';have W:=Walks.range (prog:=X.prog) (w:=X.w) (I.ok.hd j) it lo 1 n;refine ft I.tk (W.item i s _ _ l a λv g J L C M Q=>?_);obtain⟨t,rfl⟩:=L;have N:Inv X c B H { s with heap:=g,toks:=J }:=I.turned (λb o d e=>M b o ⇑d e) m p q r u;refine⟨_,rfl,EW C rfl rfl 'u' ⟨.int (lo+i),H,N,⟨t,?_⟩,⟨rfl,rfl⟩,C,λb d=>(f b d).1⟩⟩;rw[Int.mul_one]
 done:=by
  intro X x y A j i c s B H E I f a l;obtain⟨m,p,G,q,r,u⟩:=f it 'k';exact wpAny_pyNext_range_end (I.ok.hd j) a (by have:n<=i:=l;lia) λg O=>⟨rfl,I.turned (λb o d e=>O b o d e) m p q r u⟩
 self:=λ_ _ _ _ _ a h=>wpAny_pyIter_rangeiter a h
section
variable{X:Cx}{tg:aR}
def zep{a:List (af×Obj)}{σ:St}{H:Hp}{s:ah}{R:It->Hp->Prop}{E:ae->ah->Prop}{lo hi:Int}{t u v:Tok}{tk:Nat}(I:Inv X a σ H s)(d:-(2 ^ 62)<=lo)(f:lo<2 ^ 62)(g:-(2 ^ 62)<=hi)(h:hi<2 ^ 62)
  (q:R (Kq lo (hi-lo).toNat) H) (l:0<tk):ao (au X.prog X.w) X.A (pyIter (.ref s.heap.objs.size)) (Xi X a σ tg R) E { s with heap:=s.heap.push { cls:=.type "range",data:=.fields #[.int lo t,.int hi u,.int 1 v] },toks:=tk }:=by
 refine wpAny_pyIter_range (IsRange.new ..) (small_one d f g h) ?_;have c:Inv X a σ H { s with heap:=s.heap.push { cls:=.type "range",data:=.fields #[.int lo t,.int hi u,.int 1 v] },toks:=tk }:=I.kept λb o e=>ag _ e;refine⟨(s.heap.push { cls:=.type "range",data:=.fields #[.int lo t,.int hi u,.int 1 v] }).objs.size,[(s.heap.push { cls:=.type "range",data:=.fields #[.int lo t,.int hi u,.int 1 v] }).objs.size],_,_,H,rfl,
  c.kept λb o e=>ag _ e,za7 _ lo (hi-lo).toNat,?_,λb i=>?_,q⟩
 ·have j:lo+((0:Nat):Int)*1=lo:=by simp
  have k:(((hi-lo).toNat:Nat):Int)-((0:Nat):Int)=Builtin.Range.rangeSize lo hi 1:=by rw[rangeSize_one];split<;>lia
  rw[j,k];exact aE _ rfl
 ·have e:b=(s.heap.push { cls:=.type "range",data:=.fields #[.int lo t,.int hi u,.int 1 v] }).objs.size:=⇑i
  subst e;exact c.fpOk (ay _) (c.hok.fresh (ay _))
def Yw(ta:TA):TI:=λσ H R=>ta σ H λvs H1=>∃j:Int,vs=[.int j]/\-(2 ^ 62)<=j/\j<2 ^ 62/\R (Kq 0 j.toNat) H1
def zcE{a:aR}{d:TA}{p pos:Pos}(g:Gl X "range")(i:X.mg "range" = JL)(k:PA X [a] d)(l:aF [a] X.env=[(JU,eval a X.env)]:=by rfl):PI X tg (.Call (.Name "range" p) [a] [] pos) (Yw d):=by
 intro b s m H R I h;refine lu (Ce I g i boot_range (fg (pZ (k pos b s m H _ I h) λu v ⟨w,x,f,n,c⟩=>?_) l rfl));obtain⟨j,e,c,o,q⟩:=c;subst e;cases n with
 | cons r rr=>
  cases rr;obtain⟨t,rfl⟩:=r;exact call_range_1 (zep f 'd' 'd' c o ⇑q (by first|exact c9 _|exact f.tk))
noncomputable def X2(wi:TI)(g:TG)(tb:TS):TS:=λD σ H=>wi σ H λJ H1=>∃W:Nat->Nat->St->Hp->Prop,(∃m,W 0 m σ H1)/\∀i m σ H,W i m σ H->
 (J.stop i H/\D.nx σ H)\/(J.go i H/\∃N:St->Hp->Prop,(∀σ' H',N σ' H'->∃m',m'<m/\W (i+1) m' σ' H')/\∀x H',J.yld i H x H'->g x σ H' λs_ H2=>tb { D with nx:=N,ct:=N,bk:=D.nx } s_ H2)
def E8(fp:List af)(h:aS):List (af×Obj):=fp.filterMap λb=>(h.get? b).map λo=>(b,o)
def Jp(a:b∈fp)(e:h.get? b=YP o):(b,o)∈E8 fp h:=hV.mpr ⟨b,a,by rw[e];rfl⟩
def zcH(a:p∈E8 fp h):p.1∈fp/\h.get? p.1=YP p.2:=by
 obtain⟨b,c,e⟩:=hV.mp a;cases q:h.get? b with
 |none=>rw[q] at e;cases e
 | some o=>
  rw[q] at e;have d:=cy e;subst d;exact⟨c,q⟩
def Inv.pinned(I:Inv X Xq σ H s)(f:∀b∈fp,tj X Xq H b)(g:∀b∈fp,∃o,s.heap.get? b=YP o/\∀v,o.data ≠ .cell v):Inv X (Xq++E8 fp s.heap) σ H s:=
 I.pins_of λp h=>(aP.mp h).elim (λz=>I.pin p (aC _ z)) λz=>by
  obtain⟨a,e⟩:=zcH z;obtain⟨i,j,k,_⟩:=f p.1 a;obtain⟨o,c,d⟩:=g p.1 a;rw[e] at c;cases c;exact⟨e,i,j,k,d⟩
def Inv.unpinned(I:Inv X (Xq++pl) σ H s):Inv X Xq σ H s:=I.pins_of λp a=>I.pin p (aC _ (ci _ a))
def Rm(z:jE (au X.prog X.w) X.A X.env X.xe)(U:X.calm=JQ)(hi:PI X tg iter wi)(hg:PG X tg g)(c:sZ X body tb)
  (hs:∀x,cq iter X.env x=pure x:=by intro _;rfl):PS X (.For tg iter body [] pos) (X2 wi g tb):=by
 intro a s V H D I h;refine wpAny_For (pZ (hi a s V H _ I h) λv s1 h1=>pZ h1 λGh s2 h2=>?_) hs;obtain⟨it,B,Y,J,H2,e,I2,T,qD,Z,W,⟨m0,w0⟩,C⟩:=h2;subst e
 -- what stays JQ of the CK objects through the loop
 have M:∀{t:Hp},(∀b∈B,t b=JL)->∀b∈B,tj X a t b:=λhn b c=>⟨hn b c,(Z b c).2⟩;refine codeAny_forLoop_any (λn s'=>∃i j t,Inv X a j t s'/\Y i s'.heap/\(∀b∈B,t b=JL)/\W i n j t) ?_ m0 ⟨0,V,H2,I2,qD,λb c=>(Z b c).1,w0⟩;rintro n s3 ⟨i,E,L,I3,ql,Ki,w3⟩;rcases C i n E L w3 with⟨F,qn⟩|⟨go,N,hN,G⟩
 ·refine fq z (pZ (T.done X rfl rfl rfl U i a s3 E L X.xe I3 (M Ki) ql F) λr s4 ⟨O,I4⟩=>?_);subst O;exact fZ ⟨E,L,I4,qn⟩
 ·refine fq z (pZ (T.item X rfl rfl rfl U i a s3 E L X.xe I3 (M Ki) ql go) λr s4 ⟨u,O,h4⟩=>?_);subst O;refine fq z (pZ h4 λ_ s5 ⟨x,H5,I5,r5,y5,P,Q⟩=>?_);have R:=I5.pinned (M Q) (T.obj _ _ P);refine fq z (pZ (hg _ s5 E H5 x u _ R r5 (G x H5 y5)) λ_ s6 ⟨OY,H6,I6,q6⟩=>(fq z (pZ (c _ s6 OY H6 _ I6 q6) λf S y=>?_)));have k:∀{l:St}{p:Hp},Inv X (a++E8 B s5.heap) l p S->N l p->∃m,m<n/\∃i j t,Inv X a j t S/\Y i S.heap/\(∀b∈B,t b=JL)/\W i m j t:=λ{l p}q K=>by
   obtain⟨m',hm,w7⟩:=hN l p K;refine⟨m',hm,i+1,l,p,q.unpinned,T.keep _ _ _ P λb c o e=>(q.pin (b,o) (aC _ (aC _ (Jp c e)))).1,λb c=>?_,w7⟩;obtain⟨o,e,d⟩:=T.obj _ _ P b c;exact(q.pin (b,o) (aC _ (aC _ (Jp c e)))).2.1
  cases f with
  |next=>obtain⟨l,p,q,K⟩:=y;exact k q K
  |cont=>obtain⟨l,p,q,K⟩:=y;exact k q K
  |brk=>obtain⟨l,p,q,y⟩:=y;exact⟨l,p,q.unpinned,y⟩
  |ret v=>obtain⟨x7,l,p,q,r7,y⟩:=y;exact⟨x7,l,p,q.unpinned,r7,y⟩
end
abbrev R2:=V->V->Hp->VK->Prop
def qS(X:Cx)(f:ae->ae->Sem ae)(r:R2):Prop:=
 ∀(Xq:List (af×Obj))(s:ah)(σ:St)(H:Hp)(x y:V)(v u:ae)(Q:VK),Inv X Xq σ H s->RelV x v->RelV y u->r x y H Q->
  ao (au X.prog X.w) X.A (f v u) (EP X Xq σ Q) X.xe s
def OQ(X:Cx)(f:ae->Sem ae)(r:V->Hp->VK->Prop):Prop:=
 ∀(Xq:List (af×Obj))(s:ah)(σ:St)(H:Hp)(x:V)(v:ae)(Q:VK),Inv X Xq σ H s->RelV x v->r x H Q->
  ao (au X.prog X.w) X.A (f v) (EP X Xq σ Q) X.xe s
def oW(X:Cx)(f:ae)(r:List V->Hp->VK->Prop):Prop:=
 ∀(Xq:List (af×Obj))(s:ah)(σ:St)(H:Hp)(xs:List V)(us:List ae)(Q:VK),Inv X Xq σ H s->oO xs us->r xs H Q->
  ao (au X.prog X.w) X.A (call f us) (EP X Xq σ Q) X.xe s
def X0(X:Cx)(r:V->Hp->(Bool->Hp->Prop)->Prop):Prop:=
 ∀(Xq:List (af×Obj))(s:ah)(σ:St)(H:Hp)(x:V)(v:ae)(Q:Bool->Hp->Prop),Inv X Xq σ H s->RelV x v->r x H Q->
  ao (au X.prog X.w) X.A (truthy v) (TP X Xq σ Q) X.xe s
def FV(r:R2)(ta tb:TE):TE:=λσ H Q=>ta σ H λx H1=>tb σ H1 λy H2=>r x y H2 Q
def tUn(r:V->Hp->VK->Prop)(ta:TE):TE:=λσ H Q=>ta σ H λx H1=>r x H1 Q
def rI(C:Int->Int->Prop)(g:Int->Int->V):R2:=λx y H Q=>∃i j,x=.int i/\y=.int j/\C i j/\Q (g i j) H
def xI(g:Int->Int->V):R2:=λx y H Q=>∃i j,x=.int i/\y=.int j/\Q (g i j) H
def rU(g:Int->V):V->Hp->VK->Prop:=λx H Q=>∃i,x=.int i/\Q (g i) H
section
variable{X:Cx}{a b:aR}{ta tb:TE}{pos:Pos}
def Kv(i:PE X a ta)(j:PE X b tb){c:List (af×Obj)}{s:ah}{σ:St}{H:Hp}{R:V->V->Hp->Prop}(I:Inv X c σ H s)
  (h:ta σ H λx g=>tb σ g λy d=>R x y d) {Q:ae->ah->Prop} {f:ae->ae->Sem ae}
  (k:∀v u e x y d,Inv X c σ d e->RelV x v->RelV y u->R x y d->ao (au X.prog X.w) X.A (f v u) Q X.xe e):
  ao (au X.prog X.w) X.A (eval a X.env) (λv l=>ao (au X.prog X.w) X.A (eval b X.env) (λu m=>ao (au X.prog X.w) X.A (f v u) Q X.xe m) X.xe l) X.xe s:=by refine pZ (i c s σ H _ I h) λv n ⟨x,g,o,p,q⟩=>?_;exact pZ (j c n σ g _ o q) λu e ⟨y,d,r,t,z⟩=>(k v u e x y d r p t z)
def Y5{d:Operator}{r:R2}(e:qS X (eG d) r)(f:PE X a ta)(g:PE X b tb):PE X (.BinOp a d b pos) (FV r ta tb):=by intro c s i H Q I h;exact wpAny_BinOp (Kv f g I h λv u j x y k l m n q=>e c j i k x y v u Q l m n q)
def Yr(e:OQ X (unaryOp op) r)(f:PE X a ta):PE X (.UnaryOp op a pos) (tUn r ta):=by intro c s d H Q I h;exact UnaryOp_ (pZ (f c s d H _ I h) λv g ⟨x,i,j,k,l⟩=>e c g d i x v Q j k l)
def FY{f:ae->ae->Sem ae}{C:Int->Int->Prop}{g:Int->Int->Int}
  (c:∀(i j:Int)(t u:Tok)(s:ah)(Q:ae->ah->Prop)(E:ae->ah->Prop),C i j->Q (.int (g i j) s.toks) { s with toks:=s.toks+1 }->ao (au X.prog X.w) X.A (f (.int i t) (.int j u)) Q E s):
  qS X f (rI C λi j=>.int (g i j)):=by intro d s n H x y v u Q I e k h;obtain⟨i,j,rfl,rfl,l,q⟩:=h;obtain⟨t,rfl⟩:=e;obtain⟨m,rfl⟩:=k;exact c i j t m s _ _ l ⟨.int (g i j),H,I.tok _,⟨_,rfl⟩,q⟩
def O8{f:ae->ae->Sem ae}{g:Int->Int->Int}
  (c:∀(i j:Int)(t u:Tok)(s:ah)(Q:ae->ah->Prop)(E:ae->ah->Prop),Q (.int (g i j) s.toks) { s with toks:=s.toks+1 }->ao (au X.prog X.w) X.A (f (.int i t) (.int j u)) Q E s):
  qS X f (xI λi j=>.int (g i j)):=by intro d s m H x y v u Q I e k h;obtain⟨i,j,rfl,rfl,q⟩:=h;obtain⟨t,rfl⟩:=e;obtain⟨l,rfl⟩:=k;exact c i j t l s _ _ ⟨.int (g i j),H,I.tok _,⟨_,rfl⟩,q⟩
def Kt{f:ae->ae->Sem ae}{g:Int->Int->Bool}
  (c:∀(i j:Int)(t u:Tok)(s:ah)(Q:ae->ah->Prop)(E:ae->ah->Prop),Q (.bool (g i j)) s->ao (au X.prog X.w) X.A (f (.int i t) (.int j u)) Q E s):
  qS X f (xI λi j=>.bl (g i j)):=by intro d s m H x y v u Q I e k h;obtain⟨i,j,rfl,rfl,q⟩:=h;obtain⟨t,rfl⟩:=e;obtain⟨l,rfl⟩:=k;exact c i j t l s _ _ ⟨.bl (g i j),H,I,rfl,q⟩
def Pp(i j:Int):Prop:=0<j/\j<1073741824
def HK(i j:Int):Prop:=0<=j/\j<=1000000/\i.natAbs<2 ^ 64
def pK(i j:Int):Prop:=(-(2 ^ 64)<i/\i<2 ^ 64)\/(-(2 ^ 64)<j/\j<2 ^ 64)
def pK.ok(h:pK i j):IntMulOk i j:=by
 rcases h with⟨c,d⟩|⟨c,d⟩
 ·exact .of_left (intBits_le_64 c d)
 ·exact .of_right (intBits_le_64 c d)
def Z_:qS X (eG .Add) (xI λi j=>.int (i+j)):=O8 λ_ _ _ _ _ _ _ q=>add_int q
def ZX:qS X (eG .Sub) (xI λi j=>.int (i-j)):=O8 λ_ _ _ _ _ _ _ q=>sub_int q
def YN:qS X (eG .Mult) (rI pK λi j=>.int (i*j)):=FY λ_ _ _ _ _ _ _ c q=>mul_int q c.ok
def zhS:qS X (eG .FloorDiv) (rI Pp λi j=>.int (i/j)):=FY λi j _ _ _ _ _ c q=>by
 have d:=c.1;have e:=c.2;exact floordiv_int 'd' (by rw[Int.fdiv_eq_ediv_of_nonneg i 'd'];exact q) (.inl (PyProof.noPylong_small 'd'))
def ZS:qS X (eG .Mod) (rI (λ_ j=>0<j) λi j=>.int (i%j)):=FY λi j _ _ _ _ _ c q=>by
 exact mod_int' 'd' (by rw[Int.fmod_eq_emod_of_nonneg i 'd'];exact q)
def zjF:qS X (eG .Pow) (rI HK λi j=>.int (i ^ j.toNat)):=FY λ_ _ _ _ _ _ _ c q=>pow_int_small c.1 c.2.1 c.2.2 q
def ZH:qS X (eG .LShift) (rI HK λi j=>.int (i*2 ^ j.toNat)):=FY λ_ _ _ _ _ _ _ c q=>lshift_int_small c.1 c.2.1 c.2.2 q
def unI{f:ae->Sem ae}{g:Int->Int}
  (c:∀(i:Int)(t:Tok)(s:ah)(Q:ae->ah->Prop)(E:ae->ah->Prop),Q (.int (g i) s.toks) { s with toks:=s.toks+1 }->ao (au X.prog X.w) X.A (f (.int i t)) Q E s):
  OQ X f (rU λi=>.int (g i)):=by intro d s j H x v Q I e h;obtain⟨i,rfl,q⟩:=h;obtain⟨t,rfl⟩:=e;exact c i t s _ _ ⟨.int (g i),H,I.tok _,⟨_,rfl⟩,q⟩
def zjG:OQ X (unaryOp .USub) (rU λi=>.int (-i)):=unI λ_ _ _ _ _ q=>neg_int q
end
section
variable{X:Cx}{a b c:aR}{ta tb tc:TE}{pos:Pos}
def Im(I:Inv X Xq σ H s)(q:Q (.bl k) H)(e:k=k'):EP X Xq σ Q (.bool k') s:=by subst e;exact⟨.bl k,H,I,rfl,q⟩
def KY:qS X (cz .Lt) (xI λi j=>.bl (decide (i<j))):=Kt λ_ _ _ _ _ _ _ q=>lt_int q
def PU:qS X (cz .LtE) (xI λi j=>.bl (decide (i<=j))):=Kt λ_ _ _ _ _ _ _ q=>le_int q
def Qs:qS X (cz .GtE) (xI λi j=>.bl (decide (j<=i))):=Kt λ_ _ _ _ _ _ _ q=>ge_int q
def zbB:qS X (cz .Lt) (λx y H Q=>∃i j,x=.str i/\y=.str j/\Q (.bl (decide (i.cps.toList<j.cps.toList))) H):=by intro d s g H x y v u Q I e f h;obtain⟨i,j,rfl,rfl,q⟩:=h;obtain⟨t,rfl⟩:=e;obtain⟨k,rfl⟩:=f;exact lt_str (Im I q rfl)
def zcX:qS X (cz .In) (λx y H Q=>∃i j,x=.str i/\y=.str j/\Q (.bl (!(cb j i 0 j.length 1).isEmpty)) H):=by intro d s g H x y v u Q I e f h;obtain⟨i,j,rfl,rfl,q⟩:=h;obtain⟨t,rfl⟩:=e;obtain⟨k,rfl⟩:=f;exact in_str (Im I q rfl)
def ZL:qS X (cz .Is) (λx y H Q=>y=.non/\Q (.bl (decide (x=.non))) H):=by
 intro d s g H x y v u Q I e f h;obtain⟨rfl,q⟩:=h;cases f;refine is_none_gen (Im I q ?_);cases x<;>first
  |(cases e;rfl)
  |(obtain⟨t,rfl⟩:=e;rfl)
def z70:qS X (cz .NotIn) (λx y H Q=>∃i j,x=.str i/\y=.str j/\Q (.bl (!(!(cb j i 0 j.length 1).isEmpty))) H):=by intro d s g H x y v u Q I e f h;obtain⟨i,j,rfl,rfl,q⟩:=h;obtain⟨t,rfl⟩:=e;obtain⟨k,rfl⟩:=f;exact notIn_str (Im I q rfl)
def qS.or(h:qS X f r)(h':qS X f r'):qS X f (λx y H Q=>r x y H Q\/r' x y H Q):=by
 intro d s e H x y v u Q I g i q;rcases q with q|q
 ·exact h d s e H x y v u Q I g i q
 ·exact h' d s e H x y v u Q I g i q
def Cf(b:aR)(h:op ≠ .In:=by decide)(d:op ≠ .NotIn:=by decide):behindInMarks op b=JU:=by
 have e:(op==CmpOp.In)=JU:=by cases op<;>first|rfl|exact absurd rfl h
 have f:(op==CmpOp.NotIn)=JU:=by cases op<;>first|rfl|exact absurd rfl d
 cases b<;>simp[behindInMarks,e,f]
def ziI{e:CmpOp}{r:R2}(f:qS X (cz e) r)(g:PE X a ta)(i:PE X b tb)(j:behindInMarks e b=JU):PE X (.Compare a [e] [b] pos) (FV r ta tb):=by intro d s k H Q I h;exact wpAny_Compare1 (Kv g i I h λv u l x y m n o p q=>f d l k m x y v u Q n o p q) j
def PQ(t:TE):TT:=λσ H Q=>t σ H λx H'=>∃k,x=.bl k/\Q k H'
def zhq(g:qS X (cz op) r)(i:PE X a ta)(j:PE X b tb)(l:behindInMarks op b=JU):PT X (.Compare a [op] [b] pos) (PQ (FV r ta tb)):=by
 intro d s f H Q I h;refine kU (pZ (i d s f H _ I h) λv m ⟨x,n,o,p,q⟩=>pZ (j d m f n _ o q) λu t ⟨y,w,A,B,C⟩=>
  pZ (g d t f w x y v u _ A p B C) λc J ⟨z,D,E,F,k,e,G⟩=>?_) l
 subst e;cases F;exact di ⟨D,E,G⟩
noncomputable def Zq(r r':R2)(ta tb tc:TE):TE:=λσ H Q=>ta σ H λx H1=>tb σ H1 λy H2=>r x y H2 λz H3=>∃k,z=.bl k/\
 (if k=JQ then tc σ H3 λw' H4=>r' y w' H4 Q else Q (.bl JU) H3)
def zeh(n:qS X (cz op) r)(o:qS X (cz Ej) r')(p:PE X a ta)(q:PE X b tb)(t:PE X c tc)
  (w:lastMarks [op,Ej] [b,c]=JU:=by with_unfolding_all rfl):PE X (.Compare a [op,Ej] [b,c] pos) (Zq r r' ta tb tc):=by
 intro f s g H Q I h;refine Compare_chain (pZ (p f s g H _ I h) λv A ⟨x,B,C,D,E⟩=>chain_link (pZ (q f A g B _ C E) λu F ⟨y,G,J,i,K⟩=>
  pZ (n f F g G x y v u _ J D i K) λd L ⟨z,j,l,M,k,e,m⟩=>?_)) w
 subst e;cases M;refine di ?_;cases k with
 |false=>exact ite_ff ⟨.bl JU,j,l,rfl,m⟩
 |true=>exact ite_tt (chain_last (pZ (t f L g j _ l m) λN O ⟨P,R,S,T,U⟩=>o f O g R y P u N Q S i T U))
def Pa(K:ak)(x:V)(H:Hp)(k:Bool):Prop:=
 match x with
 |.non=>k=JU
 |.bl b=>k=b
 |.int i=>k=(i !=0)
 |.str y=>y.length<=J3/\k=((y.length:Int) !=0)
 |.byt y=>y.size<=J3/\k=((y.size:Int) !=0)
 |.ref p=>(∃xs,qR K H p xs/\k = !xs.isEmpty)\/(∃xs,rZ K H p xs/\k = !xs.isEmpty) \/ ∃i_,H p=YP (.dK i_)/\k = !i_.isEmpty
 |_=>False
def zaG{κ:Type}{d:List (κ×V)}{vs:List (κ×ae)}(r:KV d vs):(!vs.isEmpty) = !d.isEmpty:=by cases r<;>rfl
def Vu{xs:List V}{d:List ae}(r:oO xs d):(!d.toArray.isEmpty) = !xs.isEmpty:=by cases r<;>simp
def ID:(J3:Nat)<2 ^ 63:=by rw[kK];decide
def ZV:X0 X (λx H Q=>∃k,Pa X.K x H k/\Q k H):=by
 intro o s E H x v Q I g h;obtain⟨k,e,q⟩:=h;have F:=kK;cases x with
 | non=>
  cases g;have d:=e;subst d;exact truthy_none ⟨H,I,q⟩
 | bl b=>
  cases g;have d:=e;subst d;exact di ⟨H,I,q⟩
 | int i=>
  obtain⟨t,rfl⟩:=g;have d:=e;subst d;exact PySem.P.truthy_int ⟨H,I,q⟩
 | str y=>
  obtain⟨t,rfl⟩:=g;obtain⟨A,d⟩:y.length<=J3/\k=((y.length:Int) !=0):=e;subst d;exact PySem.P.truthy_str 'd' ⟨H,I.tok _,q⟩
 | byt y=>
  obtain⟨t,rfl⟩:=g;obtain⟨A,d⟩:y.size<=J3/\k=((y.size:Int) !=0):=e;subst d;exact PySem.W.truthy_bytes 'd' ⟨H,I.tok _,q⟩
 | ref p=>
  cases g;have d:=e;rcases d with⟨B,j,d⟩|⟨B,j,d⟩|⟨u,j,d⟩
  ·subst d;obtain⟨C,r,l,z⟩:=I.list j;have f:=r.length;exact wpAny_truthy_list l.isList (by simp;lia) ⟨H,I.tok _,by rw[Vu r];exact q⟩
  ·subst d;obtain⟨C,r,l,z⟩:=I.tuple j;have f:=r.length;exact truthy_tuple l (by simp;lia) ⟨H,I.tok _,by rw[Vu r];exact q⟩
  ·subst d;obtain⟨z,D,n,r,m⟩:u.length<=J3/\(p==sysModules)=JU/\∃n,KV u n/\s.heap.DictOf (vn X.prog X.w) p n:=I.hok p _ j;have f:=lN r;exact wpAny_truthy_dict D m 'd' ⟨H,I.tok _,by rw[zaG r];exact q⟩
 |_=>exact(e).elim
def zdI(f:PE X a ta)(g:∀d,isTrue a X.env d=(do let v <- d;standAt a.pos;holding [v] (truthy v))):
  PT X a (λσ H Q=>ta σ H λx H'=>∃k,Pa X.K x H' k/\Q k H'):=by intro e s σ H Q I h;exact isTrue_plain (pZ (f e s σ H _ I h) λv i ⟨x,j,l,m,n⟩=>ZV e i σ j x v Q l m n) (g _)
def zaD:qS X (eG .Add) (λx y H Q=>∃i j,x=.str i/\y=.str j/\i.length+j.length<=J3/\Q (.str (i++j)) H):=by intro d s m H x y v u Q I e f h;obtain⟨i,j,rfl,rfl,g,q⟩:=h;obtain⟨t,rfl⟩:=e;obtain⟨k,rfl⟩:=f;exact ft I.tk (add_str (λk n l=>⟨.str (i++j),H,I.tok _ l,⟨_,rfl⟩,q⟩) g)
def uG(r:oO [x] us):∃u,us=[u]/\RelV x u:=by
 cases r with
 |cons r1 r2=>cases r2;exact⟨_,rfl,r1⟩
def B7(r:oO [x,y] us):∃u d,us=[u,d]/\RelV x u/\RelV y d:=by
 cases r with
 | cons r1 r2=>
  cases r2 with
  |cons r3 r4=>cases r4;exact⟨_,_,rfl,r1,r3⟩
def zcd(f:X.calm=JQ):oW X (.builtin "max") (λxs H Q=>∃i j,xs=[.int i,.int j]/\Q (.int (if j>i then j else i)) H):=by
 intro e s l H xs m Q I r h;obtain⟨i,j,rfl,q⟩:=h;obtain⟨u,n,rfl,⟨t,rfl⟩,⟨o,rfl⟩⟩:=B7 r;refine ft I.tk (max_two_ints (I.ok.hd f) λp v k g=>⟨_,H,I.kept k g,?_,q⟩);by_cases d:j>i
 ·rw[JV d,JV d];exact⟨_,rfl⟩
 ·rw[JW d,JW d];exact⟨_,rfl⟩
def zaT(f:X.calm=JQ):oW X (.builtin "min") (λxs H Q=>∃i j,xs=[.int i,.int j]/\Q (.int (if j<i then j else i)) H):=by
 intro e s l H xs m Q I r h;obtain⟨i,j,rfl,q⟩:=h;obtain⟨u,n,rfl,⟨t,rfl⟩,⟨o,rfl⟩⟩:=B7 r;refine ft I.tk (min_two_ints (I.ok.hd f) λp v k g=>⟨_,H,I.kept k g,?_,q⟩);by_cases d:j<i
 ·rw[JV d,JV d];exact⟨_,rfl⟩
 ·rw[JW d,JW d];exact⟨_,rfl⟩
def zba:oW X (.type "int") (λxs H Q=>(∃i,xs=[.int i]/\Q (.int i) H) \/ ∃k,xs=[.bl k]/\Q (.int (if k then 1 else 0)) H):=by
 intro d s f H xs g Q I r h;rcases h with⟨i,rfl,q⟩|⟨k,rfl,q⟩
 ·obtain⟨u,rfl,t,rfl⟩:=uG r;exact call_int_int ⟨.int i,H,I,⟨_,rfl⟩,q⟩
 ·obtain⟨u,rfl,e⟩:=uG r;cases e;exact call_int_bool ⟨.int (if k then 1 else 0),H,I.tok _,⟨_,rfl⟩,q⟩
def z6T:oW X (.type "str") (λxs H Q=>∃i,xs=[.int i]/\i.natAbs.log2<1920/\Q (.str (toString i)) H):=by intro d s f H xs g Q I r h;obtain⟨i,rfl,e,q⟩:=h;obtain⟨u,rfl,t,rfl⟩:=uG r;exact PySem.P.str_of_int e ⟨.str _,H,I.tok _,⟨_,rfl⟩,q⟩
def Pd(K:ak)(x:V)(H:Hp)(n:Nat):Prop:=
 match x with
 |.str y=>y.length<=J3/\n=y.length
 |.byt y=>y.size<=J3/\n=y.size
 |.ref p=>(∃xs,qR K H p xs/\n=xs.length) \/ ∃xs,rZ K H p xs/\n=xs.length
 |_=>False
def Tc:oW X (.builtin "len") (λxs H Q=>∃x n,xs=[x]/\Pd X.K x H n/\Q (.int n) H):=by
 intro l s w H xs z Q I r h;obtain⟨x,n,rfl,e,q⟩:=h;obtain⟨u,rfl,g⟩:=uG r;have A:=kK;cases x with
 | str y=>
  obtain⟨t,rfl⟩:=g;obtain⟨m,f⟩:y.length<=J3/\n=y.length:=e;subst f;exact len_str 'd' ⟨.int _,H,I.tok _,⟨_,rfl⟩,q⟩
 | byt y=>
  obtain⟨t,rfl⟩:=g;obtain⟨m,f⟩:y.size<=J3/\n=y.size:=e;subst f;exact PySem.W.len_bytes 'd' ⟨.int _,H,I.tok _,⟨_,rfl⟩,q⟩
 | ref p=>
  cases g;have f:=e;rcases f with⟨xs,i,f⟩|⟨xs,i,f⟩
  ·subst f;obtain⟨o,j,k,v⟩:=I.list i;have d:=j.length;exact Calls.call_len_list k.isList (by simp;lia) ⟨.int xs.length,H,I.tok _,⟨_,by simp only[aQ];rw[d]⟩,q⟩
  ·subst f;obtain⟨o,j,k,v⟩:=I.tuple i;have d:=j.length;exact len_tuple k (by simp;lia) ⟨.int xs.length,H,I.tok _,⟨_,by simp only[aQ];rw[d]⟩,q⟩
 |_=>exact(e).elim
end
structure znM(h:aS)(x dx C:af)(mA:aq->Option ae):Prop where
 obj:h.get? x=YP (nM C dx)
 ns:h.Ns1 dx mA
 ne:dx≠x
section
end
def pf.some_of(r:pf (YP v) o):∃u,o=YP u/\RelV v u:=by
 cases o with
 |none=>exact(r).elim
 |some u=>exact⟨u,rfl,r⟩
structure OW(K:ak)(C:af):Prop where
 pg:nu K C Str.empty=JQ
 hd:PySem.W.hasDictIn K C=JQ
 po:PySem.W.plainOver K C=JQ
 sa:dU K (.ref C) "__setattr__" = YP (YP (.builtin "object.__setattr__"))
def OW.get{K:ak}{C:af}(c:OW K C)(f:aq):nu K C f=JQ:=c.pg
structure Con(K:ak)(C:af)(f:aq)(v:V)(u:ae):Prop where
 at_:dU K (.ref C) f=YP (YP u)
 rel:RelV v u
 get:iB K u "__get__" = YP JL
 cp:PySem.W.copiedNames.contains f=JU
structure znH(K:ak)(C:af)(m:aq)(f:af):Prop where
 at_:dU K (.ref C) m=YP (YP (.ref f))
 fn:oD K (.ref f)=JQ
 kp:cZ K (.ref f)=JQ
section
end
section
variable{H:Hp}
inductive yR(K:ak)(H:Hp):V->ae->Prop where
 |non:yR K H .non (.type "NoneType")
 |bl (x:Bool):yR K H (.bl x) (.type "bool")
 |int (i:Int):yR K H (.int i) (.type "int")
 |str (x:aq):yR K H (.str x) (.type "str")
 |flt (x:UInt64):yR K H (.flt x) (.type "float")
 |lst {a:af} {xs:List V} (e:H a=YP (.lst xs)):yR K H (.ref a) (.type "list")
 |frz {a:af} {o:Obj} {xs:List V} (e:H a=YP (.frz o (.lst xs))):yR K H (.ref a) (.type "list")
 |tup {a:af} {xs:List V} (e:H a=YP (.tup xs)):yR K H (.ref a) (.type "tuple")
 |dK {a:af} {i_:List (Key×V)} (e:H a=YP (.dK i_)):yR K H (.ref a) (.type "dict")
 |dT {a:af} {i_:List (List Key×V)} (e:H a=YP (.dT i_)):yR K H (.ref a) (.type "dict")
 | ins {a C dx:af} {fs:List (aq×V)} (e:H a=YP (.ins C dx fs)) (cl:OW K C) (ha:dU K (.ref C) "__class__" = YP (YP (.builtin "object.__class__")))
   (hn:iB K (.builtin "object.__class__") "__get__" = YP (YP (.builtin "getset_descriptor.__get__"))) (qv:kE K (.builtin "object.__class__")=YP JQ)
   (hm:iV K C (.type "object")=YP JQ):yR K H (.ref a) (.ref C)
end
structure oP(k:Nat)(A:aU):Prop where
 hd:A.handled=JL
 dp:A.depth+3*k+5<recursionLimit
 un:A.units+16*k+200<cLine
def oP.mono(r:oP k A)(h:j<=k):oP j A:=⟨r.hd,by have:=r.dp;lia,by have:=r.un;lia⟩
def oP.deeper(r:oP (k+1) A)(env:Env):oP k (A.deeper env):=
 ⟨r.hd,by have:=r.dp;show A.depth+1+3*k+5<_;lia,by have:=r.un;show A.units+3+16*k+200<_;lia⟩
def oP.in1(r:oP (k+1) A):oP k A.in1:=
 ⟨r.hd,by have:=r.dp;show A.depth+3*k+5<_;lia,by have:=r.un;show A.units+1+16*k+200<_;lia⟩
def oP.depth(r:oP k A):A.depth<recursionLimit:=by have:=r.dp;lia
def oP.units(r:oP k A):A.units+64<cLine:=by have:=r.un;lia
def O_:TA:=λ_ H Q=>Q [] H
def Qa(ta:TE)(tr:TA):TA:=λσ H Q=>ta σ H λx H1=>tr σ H1 λxs H2=>Q (x::xs) H2
section
variable{X:Cx}{e:aR}{es:List aR}{te:TE}{t:TA}{pos:Pos}
def Br:PA X [] O_:=λ_ _ _ _ H Q I h=>iC ⟨[],H,I,.nil,h⟩
def yb(c:PE X e te)(d:PA X es t)(f:aF (e::es) X.env=(JU,eval e X.env)::aF es X.env:=by rfl):PA X (e::es) (Qa te t):=by intro pos a s b H Q I h;rw[f];refine f6 (pZ (c a s b H _ I h) λu g ⟨x,i,j,k,l⟩=>?_);exact pZ (d pos a g b i _ j l) λr v ⟨m,n,o,p,q⟩=>⟨x::m,n,o,.cons k p,q⟩
def XD(t:TA):TE:=λσ H Q=>t σ H λxs H1=>xs.length<=J3/\∀p,H1 p=JL->Q (.ref p) (upd H1 p (.tup xs))
def XQ(t:TA):TE:=λσ H Q=>t σ H λxs H1=>xs.length<=J3/\∀p,H1 p=JL->Q (.ref p) (upd H1 p (.lst xs))
def QU(h:PA X es t):PE X (.Tuple es x1 pos) (XD t):=by intro a s f H Q I g;refine wpAny_Tuple_spliced (pZ (h pos a s f H _ I g) λi c ⟨j,k,d,r,z,q⟩=>⟨by rw[<- r.length];exact z,?_⟩);have l:=d.hok.fresh (ay _);refine⟨.ref c.heap.objs.size,upd k c.heap.objs.size (.tup j),d.laid (λb u e=>ag _ e) (ay _) ?_,rfl,q _ l⟩;exact⟨z,i,r,o9.new _ _⟩
def Q8(h:PA X es t):PE X (.List es pos) (XQ t):=by intro a s f H Q I g;refine wpAny_List_spliced (pZ (h pos a s f H _ I g) λi c ⟨j,k,d,r,z,q⟩=>⟨by rw[<- r.length];exact z,?_⟩);have l:=d.hok.fresh (ay _);refine⟨.ref c.heap.objs.size,upd k c.heap.objs.size (.lst j),d.laid (λb u e=>ag _ e) (ay _) ?_,rfl,q _ l⟩;exact⟨z,i,0,r,aE _ rfl⟩
end
abbrev Sp:=List V->Hp->VK->XK->Prop
abbrev xw:=List Env->Hp->ah->XK->ae->ah->Prop
structure pe(P:aK)(w:aT)(K:ak)(mg:aq->Option ae)(base:aS)(A:aU)(outer:List Env)(s:ah)(H:Hp):Prop where
 frames:A.frames=YP outer
 mod:Mod K mg base
 bs:∀b o,base.get? b=YP o->s.heap.get? b=YP o/\H b=JL
 bsz:base.objs.size<=s.heap.objs.size
 funs:s.heap.FunFrames base outer
 frf:∀b∈rP outer,H b=JL
 hok:HOk P w H s.heap
 bare:gk s.gens
 tk:0<s.toks
def CE(outer:List Env)(P:aK)(w:aT)(H:Hp)(s:ah)(Q:VK)(u:ae)(s':ah):Prop:=
 (∃v H',s'.os=s.os/\gk s'.gens/\Un (rP outer) [] H H' s.heap s'.heap/\HOk P w H' s'.heap/\RelV v u/\Q v H')/\0<s'.toks
def CR(CX:xw)(outer:List Env)(P:aK)(w:aT)(H:Hp)(s:ah)(Q:VK)(E:XK)(r:Result)(s':ah):Prop:=
 match r with
 |.ok (.ret u)=>CE outer P w H s Q u s'
 |.ok _=>False
 |.error e=>CX outer H s E e s'
structure oY(P:aK)(w:aT)(K:ak)(mg:aq->Option ae)(base:aS)(CX:xw)(k:Nat)(f:af)(fd:d0)(ps:List aq)(sp:Sp):Prop where
 len:∀vs H Q E,sp vs H Q E->vs.length=ps.length
 run:∀(A:aU)(outer:List Env)(s:ah)(H:Hp)(args:Args)(us:List ae)(vs:List V)(Q:VK)(E:XK),oP k A->pe P w K mg base A outer s H->i7 s fd args (ps.zip us)->oO vs us->sp vs H Q E->
  codeAny (au P w) A (.call (.ref f) args) (CR CX outer P w H s Q E) s
def oY.mono{P:aK}{w:aT}{K:ak}{c:aq->Option ae}{base:aS}{d:xw}{j k:Nat}{f:af}{e:d0}{g:List aq}{i:Sp}(F:oY P w K c base d j f e g i)(h:j<=k):
  oY P w K c base d k f e g i:=⟨F.len,λA a s H b l m Q E n=>F.run A a s H b l m Q E (n.mono h)⟩
def oY.imp{P:aK}{w:aT}{K:ak}{c:aq->Option ae}{base:aS}{d:xw}{k:Nat}{f:af}{e:d0}{g:List aq}{i j:Sp}(F:oY P w K c base d k f e g i)
  (h:∀vs H Q E,j vs H Q E->i vs H Q E):oY P w K c base d k f e g j:=
 ⟨λvs H Q E q=>F.len vs H Q E (h _ _ _ _ q),λA a s H b l vs Q E m n o p r=>F.run A a s H b l vs Q E m n o p (h _ _ _ _ r)⟩
def pe.in1{P:aK}{w:aT}{K:ak}{b:aq->Option ae}{base:aS}{A:aU}{a:List Env}{s:ah}{H:Hp}(e:pe P w K b base A a s H):
  pe P w K b base A.in1 a s H:=⟨e.frames,e.mod,e.bs,e.bsz,e.funs,e.frf,e.hok,e.bare,e.tk⟩
section
variable{X:Cx}{Xq:List (af×Obj)}{σ:St}{H:Hp}{s s':ah}
def Inv.env0(I:Inv X Xq σ H s):pe X.prog X.w X.K X.mg X.base X.A X.stack s H:=
 ⟨I.ok.frames,I.ok.mod,I.bs,aM I.ok.bsz I.sz,I.stack,I.stkFree,I.hok,I.bare,I.tk⟩
def Inv.after(I:Inv X Xq σ H s)(h:CE X.stack X.prog X.w H s Q u s'):EP X Xq σ Q u s':=by obtain⟨⟨v,e,f,a,i,c,r,q⟩,j⟩:=h;obtain⟨l,g,d,t,k⟩:=s';obtain rfl:k=s.os:=f;exact⟨v,e,I.call i c a (λb z=>absurd z 'k') j,r,q⟩
end
def YD(sp:Sp)(dvs:List V)(E:XK)(t:TA):TE:=λσ H Q=>t σ H λvs H1=>sp (vs++dvs) H1 Q E
def Binds(K:ak)(fd:d0)(ps:List aq)(ds:List ae):Prop:=
 ∀(s:ah)(us:List ae),K.In s.heap->(us++ds).length=ps.length->i7 s fd ⟨us,[]⟩ (ps.zip (us++ds))
def Binds.all{K:ak}{c:d0}{b:List aq}(h:∀a:List ae,a.length=b.length->bindArgs c ⟨a,[]⟩=pure (b.zip a)):Binds K c b []:=λs a _ d=>by
 rw[bV] at d ⊢;exact .of_eq (h a d)
def Bu(CX:xw)(X:Cx)(E:XK):Prop:=∀(Xq:List (af×Obj))(σ:St)(H:Hp)(s:ah)(e:ae)(s':ah),Inv X Xq σ H s->CX X.stack H s E e s'->X.xe e s'
section
variable{X:Cx}{CX:xw}{k:Nat}{f C:af}{fd:d0}{ps:List aq}{sp:Sp}{dvs:List V}{ds:List ae}{E:XK}{x:aq}{p pos:Pos}{e:aR}{es:List aR}{t:TA}
def ZD(F:oY X.prog X.w X.K X.mg X.base CX k f fd ps sp)(c:oP k X.A)(d:Binds X.K fd ps ds)(g:oO dvs ds)(i:Bu CX X E)
  (I:Inv X Xq σ H s) (r:oO vs us) (h:sp (vs++dvs) H Q E):ao (au X.prog X.w) X.A (call (.ref f) us) (EP X Xq σ Q) X.xe s:=by
 have b:=r.append g;have j:(us++ds).length=ps.length:=by rw[<- b.length];exact F.len _ _ _ _ h
 refine iu (ef (F.run X.A X.stack s H ⟨us,[]⟩ (us++ds) (vs++dvs) Q E c I.env0 (d s us I.kIn j) b h) λr l a=>?_);cases r with
 |error e=>exact i Xq σ H s e l I a
 | ok fl=>
  cases fl with
  |ret u=>exact I.after a
  |next=>exact ai a
  |brk=>exact ai a
  |cont=>exact ai a
def LJ(F:oY X.prog X.w X.K X.mg X.base CX k f fd ps sp)(c:oP k X.A)(d:Gl X x)(g:X.mg x=YP (.ref f))(i:cZ X.K (.ref f)=JQ)(j:Binds X.K fd ps ds)(l:oO dvs ds)(m:Bu CX X E)
  (n:PA X (e::es) t) (o:rH x:=by decide) (u:aF (e::es) X.env=(JU,eval e X.env)::aF es X.env:=by rfl) (v:(backTo pos (aF es X.env)).any (·.1)=JU:=by rfl):
  PE X (.Call (.Name x p) (e::es) [] pos) (YD sp dvs E t):=by intro a s y H Q I h;refine fh (Fj I d g ?_ o);refine ml I.ok.mod.kin i (pZ (n pos a s y H _ I h) λz B ⟨D,G,b,r,q⟩=>⟨b.kIn,?_⟩) u v;exact ZD F c j l m b r q
structure Mk(K:ak)(C f:af):Prop where
 makes:PySem.W.makesIn K C=JQ
 init:dU K (.ref C) "__init__" = YP (YP (.ref f))
 fn:oD K (.ref f)=JQ
 kp:cZ K (.ref C)=JQ
end
section
variable{fd:d0}{ps ks:List aq}
structure zmH(K:ak)(fd:d0)(ps ks:List aq)(g:List ae->List ae->List ae)(gV:List V->List V->List V):Prop where
 to:∀(s:ah)(us ws:List ae),K.In s.heap->(g us ws).length=ps.length->i7 s fd ⟨us,ks.zip ws⟩ (ps.zip (g us ws))
 rel:∀{vs:List V}{us:List ae}{zs:List V}{ws:List ae},oO vs us->oO zs ws->oO (gV vs zs) (g us ws)
end
structure tF(N P:List aq)(sc:cu):Prop where
 kind:sc.kind=.function
 co:sc.isCoroutine=JU
 gen:sc.isGenerator=JU
 nd:N.Nodup
 pre:N.take P.length=P
 par:∀x∈P,sc.names.lookup x=YP .local\/sc.names.lookup x=YP .cell
 nofree:∀y∈sc.names,y.2 ≠ .free
theorem U0{a:aq->Option dD}{x:aq}:∀{binds:List (aq×ae)}{m:aq->Option ae},(∀v,(x,v)∉binds)->bindL a binds m x=m x
 |[],_,_=>rfl
 | (n,v)::r,m,h=>by
  unfold bindL;rw[U0 λw b=>h w (al _ b)];split
  ·have:x≠n:=by rintro rfl;exact h v av
   simp[this]
  ·rfl
theorem UU{a:aq->Option dD}{x:aq}:∀{binds:List (aq×ae)}{m:aq->Option ae},(∀v,(x,v)∉binds)->bindC a binds m x=m x
 |[],_,_=>rfl
 | (n,v)::r,m,h=>by
  unfold bindC;rw[UU λw b=>h w (al _ b)];split
  ·rfl
  ·have:x≠n:=by rintro rfl;exact h v av
   simp[this]
theorem Uw{a:aq->Option dD}{x:aq}{v:ae}:∀{P:List aq}{vs:List ae}{i:Nat}{m:aq->Option ae},P.Nodup->P[i]?=YP x->vs[i]?=YP v->a x=YP .local->
  bindL a (P.zip vs) m x=YP v
 |[],_,_,_,_,h,_,_=>by simp at h
 |_::_,[],_,_,_,_,h,_=>by simp at h
 | p::P,w::vs,0,m,nd,h1,h2,hk=>by
  simp at h1 h2;subst h1;subst h2;show bindL a ((p,w)::P.zip vs) m p=_;unfold bindL;rw[U0 λv b=>(bB.mp nd).1 (jd b).1,JV hk];simp
 | p::P,w::vs,i+1,m,nd,h1,h2,hk=>by
  unfold bindL;exact Uw (i:=i) (bB.mp nd).2 ⇑h1 ⇑h2 hk
theorem UX{a:aq->Option dD}{x:aq}{v:ae}:∀{P:List aq}{vs:List ae}{i:Nat}{m:aq->Option ae},P.Nodup->P[i]?=YP x->vs[i]?=YP v->a x≠YP .local->
  bindC a (P.zip vs) m x=YP v
 |[],_,_,_,_,h,_,_=>by simp at h
 |_::_,[],_,_,_,_,h,_=>by simp at h
 | p::P,w::vs,0,m,nd,h1,h2,hk=>by
  simp at h1 h2;subst h1;subst h2;show bindC a ((p,w)::P.zip vs) m p=_;unfold bindC;rw[UU λv b=>(bB.mp nd).1 (jd b).1,JW hk];simp
 | p::P,w::vs,i+1,m,nd,h1,h2,hk=>by
  unfold bindC;exact UX (i:=i) (bB.mp nd).2 ⇑h1 ⇑h2 hk
def start(N:List aq)(vs:List V):St:=vs.map YP++aB (N.length-vs.length) JL
noncomputable def zR(CX:xw)(P:aK)(w:aT)(K:ak)(mg:aq->Option ae)(base:aS)(N:List aq)(qual:aq)(scope:cu)(f:af)(cd:ae)(A:aU)(outer:List Env)(s:ah)(H:Hp)(E:XK):Cx where
 prog:=P
 w:=w
 K:=K
 mg:=mg
 base:=base
 A:=A.deeper (envOfC qual scope s.heap.objs.size f cd)
 N:=N
 s₀:=s
 H₀:=H
 env:=envOfC qual scope s.heap.objs.size f cd
 outer:=outer
 stack:=envOfC qual scope s.heap.objs.size f cd::outer
 ex:=[]
 calm:=JQ
 fn:=λ_=>JQ
 pn:=[]
 xe:=λe s'=>ao (au P w) (A.deeper (envOfC qual scope s.heap.objs.size f cd)) (leaving (envOfC qual scope s.heap.objs.size f cd) e) (λ_ rD=>CX outer H s E e rD) (λe' rD=>CX outer H s E e' rD) s'
def T9{a:cu}{n:Nat}{x:aq}(h:a.names.lookup x=YP .cell):∃c,(cA n a.names []).lookup x=YP c:=by have q:=gd a.names n [] (.inl h);exact h9.mp q
def U3{G:xw}{P:aK}{w:aT}{K:ak}{C:aq->Option ae}{base:aS}{N m:List aq}{g:aq}{scope:cu}{f:af}{o:ae}{A:aU}{d:List Env}{s s1:ah}{H:Hp}{E:XK}{D:List ae}{vs:List V}
  (S:tF N m scope) (M:A.handled=JL) (l:pe P w K C base A d s H) (T:vs.length=m.length) (r:oO vs D)
  (x:InCallC s s.heap.objs.size (bindL (envOfC g scope s.heap.objs.size f o).kindOf (m.zip D) λ_=>JL) (cA (s.heap.objs.size+1) scope.names []) (bindC (envOfC g scope s.heap.objs.size f o).kindOf (m.zip D) λ_=>JL) s1) (O:0<s1.toks):
  Inv (zR G P w K C base N g scope f o A d s H E) [] (start N vs) H s1:=by
 have U:m.length<=N.length:=by have:=congrArg kL S.pre;rw[bI] at this;lia
 obtain⟨t,W,rfl,I⟩:=x.done;have F:∀b:af,b∉(zR G P w K C base N g scope f o A d s H E).ex:=λb z=>absurd (show b∈([]:List af) from z) 'k';refine⟨⟨l.mod,S.kind,rfl,rfl,ay _,λy z c t j=>?_,λy hy=>?_,λy c _ h=>?_,λ_=>M,je l.frames,.inr ⟨rfl,rfl⟩,λb z=>absurd z (F b),l.bs,l.bsz,λb _ _=>F b,λb z=>absurd z (F b),l.funs,l.frf⟩,
  rfl,l.bare,Un.kept I,⟨_,x.toInCall.ns,λi y v t j X=>?_⟩,λy c h=>⟨_,x.cell y c h⟩,l.hok.fresh (ay _),λy c h=>?_,λp n=>absurd (show p∈([]:List (af×Obj)) from n) 'k',l.hok.kept I,?_,O⟩
 ·exact name_of_addr x.apart (bq t) (bq j)
 ·have hy:=hy;rcases hy with hy|hy
  ·exact T9 hy
  ·exact absurd rfl (S.nofree _ (bq hy))
 ·exact gm (x.above y c (bq h))
 ·have B:i<vs.length:=by
   unfold start at j;by_cases B:i<vs.length
   ·exact B
   ·rw[bu ⇑B] at j;rw[eT] at j;split at j<;>cases j
  have Q:vs[i]?=YP v:=by
   unfold start at j;rw[aL ⇑B,bF] at j;cases e:vs[i]? with
   |none=>rw[e] at j;cases j
   |some a=>rw[e] at j;cases j;rfl
  obtain⟨u,J,R⟩:=r.get Q;have n:m[i]?=YP y:=by
   rw[<- S.pre,fT 'd'];exact t
  have L:m.Nodup:=by rw[<- S.pre];exact S.nd.sublist (cV _ _)
  refine⟨u,R,?_⟩;rcases S.par y (aO n) with k|k
  ·exact .inl ⟨k,Uw L n J k⟩
  ·obtain⟨c,e⟩:=T9 k;refine .inr ⟨.inl k,c,e,?_⟩;have q:=x.cell y c e;rw[UX L n J (by show scope.names.lookup y≠_;rw[k];decide)] at q;exact q
 ·exact l.hok.fresh (gm (x.above y c (bq h)))
 ·unfold start;show _=N.length;rw[az,aI,kW];lia
def qy{z:xw}{P:aK}{w:aT}{K:ak}{B:aq->Option ae}{base:aS}{k:Nat}{f:af}{name c:aq}{d:eR}{body:List dh}{scope:cu}{O R l T h U oc:ae}{W od:Option af}
  {tw:Array (Option ae)} {N C:List aq} {D:Sp} (lk:K.lookup f=YP ⟨oc,od,.func (br name c d body scope O R l T W h U),tw⟩) (qH:dE K h c=JQ) (S:tF N C scope)
  (m:∀vs H Q E,D vs H Q E->vs.length=C.length)
  (p_:∀(A:aU)(a:List Env)(s:ah)(H:Hp)(vs:List V)(Q:VK)(E:XK),oP k (A.deeper (envOfC c scope s.heap.objs.size f h))->D vs H Q E->
   ∃t,sZ (zR z P w K B base N c scope f h A a s H E) body t/\t { nx:=λ_ H'=>Q .non H',rt:=Q } (start N vs) H):
  oY P w K B base z (k+1) f (br name c d body scope O R l T W h U) C D:=by
 refine⟨m,λA a s H X us vs Q E F i hb r Y=>?_⟩;have hl:=m _ _ _ _ Y;have Z:=i.mod.kin.keeps λb o e=>(i.bs b o e).1;have G:=i.mod.nolimit.keeps λb o e=>(i.bs b o e).1;have zy:∀y∈C.zip us,scope.names.lookup y.1=YP .local\/(scope.names.lookup y.1=YP .cell/\((cA (s.heap.objs.size+1) scope.names []).lookup y.1).isSome=JQ):=λ⟨n,v⟩ hy=>by
  rcases S.par n (jd hy).1 with q|q
  ·exact .inl q
  ·exact .inr ⟨q,gd _ _ _ (.inl q)⟩
 refine kX F.depth (Z _ _ lk) rfl S.co S.gen rfl (mm Z qH) (hb _ _ _ _ (ft i.tk (jN S.kind zy λenv he s1 x qv=>?_)));subst he;refine⟨G.keeps x.toInCall.keep,codeAny_func ?_⟩;obtain⟨t,ht,hq⟩:=p_ A a s H vs Q E (F.deeper _) Y;have I:Inv (zR z P w K B base N c scope f h A a s H E) [] (start N vs) H s1:=U3 S F.hd i hl r x qv;refine cj (ht [] s1 (start N vs) H _ I hq) (λfl L j=>?_) λe L j=>j;have p:∀{g:St}{H':Hp}{v:V}{u:ae},Inv (zR z P w K B base N c scope f h A a s H E) [] g H' L->RelV v u->Q v H'->CE a P w H s Q u L:=
  λ{g H' v u}J M q=>⟨⟨v,H',J.os,J.bare,J.base,J.hok,M,q⟩,J.tk⟩
 cases fl with
 | ret u=>
  obtain⟨v,g,H',J,M,q⟩:=j;exact p J M q
 | next=>
  obtain⟨g,H',J,q⟩:=j;exact p (v:=V.non) J rfl q
 | brk=>
  obtain⟨_,_,_,q⟩:=j;exact ai q
 | cont=>
  obtain⟨_,_,_,q⟩:=j;exact ai q
section
variable{X:Cx}{x:aq}{p pos:Pos}{e:aR}{es:List aR}{t:TA}{id T:String}{r:List V->Hp->VK->Prop}
def JN(r:List V->Hp->VK->Prop)(t:TA):TE:=λσ H Q=>t σ H λvs H1=>r vs H1 Q
def D5(c:oW X (.builtin id) r)(d:Gl X x)(f:X.mg x=JL)(g:bd x=YP (.builtin id))(i:PA X (e::es) t)(j:x ≠ "__name__":=by decide)(k:rH x:=by decide)
  (l:aF (e::es) X.env=(JU,eval e X.env)::aF es X.env:=by rfl) (m:(backTo pos (aF es X.env)).any (·.1)=JU:=by rfl):PE X (.Call (.Name x p) (e::es) [] pos) (JN r t):=by intro a s b H Q I h;refine fh (Ce I d f g ?_ j k);exact PyProof.Rows.callWith_builtin1 (pZ (i pos a s b H _ I h) λn o ⟨q,u,v,w,y⟩=>c a o b u q n Q v w y) l m
def Mo(c:oW X (.type T) r)(d:Gl X x)(f:X.mg x=JL)(g:bd x=YP (.type T))(i:PA X (e::es) t)(j:x ≠ "__name__":=by decide)(k:rH x:=by decide)
  (l:aF (e::es) X.env=(JU,eval e X.env)::aF es X.env:=by rfl) (m:(backTo pos (aF es X.env)).any (·.1)=JU:=by rfl):PE X (.Call (.Name x p) (e::es) [] pos) (JN r t):=by intro a s b H Q I h;refine fh (Ce I d f g ?_ j k);exact fg (pZ (i pos a s b H _ I h) λn o ⟨q,u,v,w,y⟩=>c a o b u q n Q v w y) l m
end
end L2
namespace HT
open PySem PyProof.Rows
section
open PySem.SeqAt
open PySem.AutoSeq1 (wpAny_loadPart')
open PySem.MeetsSeq PySem.MeetsSeq2 PySem.MeetsSeq3
end
section
variable{prog:aK}{w:aT}{A:aU}{E:ae->ah->Prop}{s:ah}
def cat_tup(p:IsTup s.heap t vs.toArray)(q:IsTup s.heap b ws.toArray)(h:vs≠[])
  (r:ws=[]->Q (.ref t) s) (u:ws≠[]->Q (.ref s.heap.objs.size) { s with heap:=s.heap.push { cls:=.type "tuple",data:=.seq (vs++ws).toArray } })
  (v:vs.length+ws.length<=J3):ao (au prog w) A (eG .Add (.ref t) (.ref b)) Q E s:=by
 obtain⟨⟨cls,i,data,j⟩,a,x,n,y⟩:=id p;obtain⟨⟨k,l,f,m⟩,c,z,o,g⟩:=id q;subst x y z g;have e:vs.toArray++ws.toArray=(vs++ws).toArray:=by simp
 by_cases d:ws=[]
 ·exact jF ⟨_,a,rfl⟩ ⟨_,c,rfl⟩ kg lO iI iz (ic _ _)
   (tuple_addW1 t b vs.toArray ws.toArray n o i l j m ⇑h (by simp[d])) ⟨a,c,r d⟩
 ·refine jF ⟨_,a,rfl⟩ ⟨_,c,rfl⟩ kg lO iI iz (ic _ _)
   (tuple_addW2 t b vs.toArray ws.toArray n o i l j m ⇑h ⇑d (by rw[aQ,aQ];exact v)) ⟨a,c,?_⟩
  rw[e];exact u d
def sIx(n d:Nat):Option Int->Nat
 |none=>d
 |some v=>if v<0 then (v+(n:Int)).toNat else min v.toNat n
def sIx_none(n d:Nat):sIx n d JL=d:=rfl
def sIx_nat(n d k:Nat):sIx n d (YP (k:Int))=min k n:=by show(if (k:Int)<0 then ((k:Int)+(n:Int)).toNat else min (k:Int).toNat n)=min k n;rw[JW 'd',iD]
def zmV(n d:Nat)(b:d<=n)(o:Option Int):sIx n d o<=n:=by
 cases o with
 |none=>exact b
 | some v=>
  show(if v<0 then (v+(n:Int)).toNat else min v.toNat n)<=n;by_cases a:v<0
  ·rw[JV a];lia
  ·rw[JW a];exact Nat.min_le_right _ _
def Sn(v:Int)(n d:Nat):(if v<0 then max (v+(n:Int)) 0 else min v (n:Int))=((sIx n d (YP v):Nat):Int):=by
 show(if v<0 then max (v+(n:Int)) 0 else min v (n:Int))=(((if v<0 then (v+(n:Int)).toNat else min v.toNat n):Nat):Int);by_cases a:v<0
 ·simp only[JV a];lia
 ·simp only[JW a];lia
def zaj(lo hi:Option Int)(n:Nat):gY lo hi 1 (n:Int)=(((sIx n 0 lo:Nat):Int),((sIx n n hi:Nat):Int)):=by
 have a:¬ ((1:Int)<0):=by lia
 unfold gY;refine nq ?_ ?_
 ·cases lo with
  |none=>rfl
  |some v=>exact Sn v n 0
 ·cases hi with
  |none=>rfl
  |some v=>exact Sn v n n
def zar(i j:Nat):dg (i:Int) (j:Int) 1=j-i:=by
 unfold dg;have a:(1:Int)>0:=by lia
 split<;>lia
def slicePart_(p:gp v o)(h:Q o s):ao (au prog w) A (Builtin.Slice.slicePartIndex v) Q E s:=by
 cases p with
 |none=>exact jp h
 |int i t=>exact slicePart_int h
def sliceApplied_gen{sl:af}{c d:ae}{lo hi:Option Int}{n:Nat}{Q:Int×Int×Nat->ah->Prop}(e:s.heap.IsSliceOf sl c d .none)(f:gp c lo)(g:gp d hi)
  (h:Q (((sIx n 0 lo:Nat):Int),1,sIx n n hi-sIx n 0 lo) s):ao (au prog w) A (gM (.ref sl) (pure (n:Int))) Q E s:=by obtain⟨i,a,j,b⟩:=id e;refine aa (aa (bA a b rfl (aa (bA a b rfl (aa (bA a b rfl (aj ?_)))))));refine aa (jp ?_);refine aa (slicePart_ f (aa (slicePart_ g (aa (aj ?_)))));show ao _ _ (match gY lo hi 1 (n:Int) with|(lo,hi)=>pure (lo,(1:Int),dg lo hi 1)) _ _ s;rw[zaj lo hi n];show ao _ _ (pure (((sIx n 0 lo:Nat):Int),(1:Int),dg ((sIx n 0 lo:Nat):Int) ((sIx n n hi:Nat):Int) 1)) _ _ s;rw[zar];exact aj h
def zeS(xs:Array ae)(i k:Nat):((bE k).filterMap λ(m:Nat)=>xs[((i:Int)+(m:Int)*1).toNat]?).toArray=((xs.toList.drop i).take k).toArray:=by
 have e:(λ(m:Nat)=>xs[((i:Int)+(m:Int)*1).toNat]?)=λm=>xs[i+m]?:=by
  funext m;have:((i:Int)+(m:Int)*1).toNat=i+m:=by lia
  rw[this]
 rw[e];have:=pick_run xs i k;rw[List.filterMap_map] at this;have a:((λx=>xs[x]?)∘λx=>i+x)=λm=>xs[i+m]?:=rfl;rw[a] at this;rw[this]
def getItem_tuple_cut{t sl:af}{a:Array ae}{d e:ae}{lo hi:Option Int}{Q:ae->ah->Prop}(b:IsTup s.heap t a)(f:s.heap.IsSliceOf sl d e .none)(g:gp d lo)(i:gp e hi)
  (j:¬ (sIx a.size 0 lo=0/\sIx a.size a.size hi=a.size))
  (h:Q (.ref s.heap.objs.size) { s with heap:=s.heap.push { cls:=.type "tuple",data:=.seq ((a.toList.drop (sIx a.size 0 lo)).take (sIx a.size a.size hi-sIx a.size 0 lo)).toArray } })
  (p:a.size<=J3):ao (au prog w) A (getItem (.ref t) (.ref sl)) Q E s:=by
 have c:sizeOk (.seq ((a.toList.drop (sIx a.size 0 lo)).take (sIx a.size a.size hi-sIx a.size 0 lo)).toArray):=by
  show((a.toList.drop (sIx a.size 0 lo)).take (sIx a.size a.size hi-sIx a.size 0 lo)).toArray.size<=J3;rw[aQ,bI,ck,aG];lia
 obtain⟨k,l,m,r⟩:=id f;have n:s.TypeIs (.ref sl) "slice":=⟨k,l,m⟩;unfold getItem
 try with_reducible refine bG ?_
 first|refine aa (aj ?_)|skip
 refine aa (jT b.typeIs 'u' ?_);refine aa (cx b.typeIs bM
  (bU bM b.typeIs jm ?_ (jG _ _)))
 show ao _ _ (gN (.ref t) >>= _) _ _ s;refine aa (lP b (aa (ie n ?_)));refine aa (sliceApplied_gen f g i ?_);have o:¬ ((((sIx a.size 0 lo:Nat):Int)==0&&(1:Int)==1&&(sIx a.size a.size hi-sIx a.size 0 lo)==a.size)=JQ):=by
  intro q;rw[be,be] at q;have u:=eq_of_beq q.1.1;have v:=eq_of_beq q.2;exact j ⟨by lia,by lia⟩
 show ao _ _ (if (((sIx a.size 0 lo:Nat):Int)==0&&(1:Int)==1&&(sIx a.size a.size hi-sIx a.size 0 lo)==a.size)=JQ then _ else _) _ _ s;rw[JW o,zeS]
 first
  |exact aa (bO (aj ⟨_,rfl,aj h⟩) c)
  |exact aa (bO (aa (aj (aj ⟨_,rfl,aj h⟩))) c)
  |exact aa (aa (bO (aj (aj ⟨_,rfl,aj h⟩)) c))
  |exact aa (aa (bO (aj ⟨_,rfl,aj h⟩) c))
end
end HT
namespace L2
open PySem PySem.Spec PyProof.Rows
abbrev TO:=St->Hp->(Option Int->Hp->Prop)->Prop
def PO(X:Cx)(e:Option aR)(t:TO):Prop:=
 ∀(Xq:List (af×Obj))(s:ah)(σ:St)(H:Hp)(Q:Option Int->Hp->Prop),Inv X Xq σ H s->t σ H Q->
  ao (au X.prog X.w) X.A (evalPart e X.env) (λu s'=>∃o H',Inv X Xq σ H' s'/\gp u o/\Q o H') X.xe s
def zgt:TO:=λ_ H Q=>Q JL H
def Yv(t:TE):TO:=λσ H Q=>t σ H λx H1=>∃i,x=.int i/\Q (YP i) H1
def Vv:∀{a:List ae},oO (ns.map V.int) a->kY a ns:=by
 induction ns with
 |nil=>intro a r;rw[kh] at r;cases r;exact .nil
 | cons n ns ih=>
  intro a r;cases r with
  | cons r1 r2=>
   obtain⟨t,e⟩:=r1;subst e;exact .cons n t (ih r2)
section
variable{X:Cx}{e:aR}{te:TE}{lo hi:Option aR}{tl th:TO}{pos p2:Pos}
def ziu:PO X JL zgt:=by intro a s b H Q I h;exact aj ⟨JL,H,I,.none,h⟩
def zhy(h:PE X e te):PO X (YP e) (Yv te):=by intro a s b H Q I c;refine pZ (h a s b H _ I c) λu k ⟨x,d,f,g,j⟩=>?_;obtain⟨i,rfl,q⟩:=j;obtain⟨t,rfl⟩:=g;exact⟨YP i,d,f,.int i t,q⟩
def xR(X:Cx)(r:V->Option Int->Option Int->Hp->VK->Prop):Prop:=
 ∀(Xq:List (af×Obj))(s:ah)(σ:St)(H:Hp)(x:V)(v vl vu:ae)(lo hi:Option Int)(sl:af)(Q:VK),Inv X Xq σ H s->RelV x v->s.heap.IsSliceOf sl vl vu .none->gp vl lo->gp vu hi->r x lo hi H Q->
  ∃T id,typeLookup (.type T) "__getitem__" = pure (YP (.builtin id))/\s.TypeIs v T/\ao (au X.prog X.w) X.A (getItem v (.ref sl)) (EP X Xq σ Q) X.xe s
def xR.or(h:xR X r)(h':xR X r'):xR X (λx lo hi H Q=>r x lo hi H Q\/r' x lo hi H Q):=by
 intro a s b H x v c d lo hi f Q I g i j k q;rcases q with q|q
 ·exact h a s b H x v c d lo hi f Q I g i j k q
 ·exact h' a s b H x v c d lo hi f Q I g i j k q
noncomputable def tSl(r:V->Option Int->Option Int->Hp->VK->Prop)(te:TE)(tl th:TO):TE:=λσ H Q=>te σ H λx H1=>tl σ H1 λl H2=>th σ H2 λu H3=>r x l u H3 Q
def Tz(j:xR X r)(k:PE X e te)(m:PO X lo tl)(n:PO X hi th):PE X (.Subscript e (.Slice lo hi JL p2) pos) (tSl r te tl th):=by intro a s c H Q I h;refine lB (pZ (k a s c H _ I h) λv o ⟨x,p,t,w,y⟩=>?_);refine wpAny_Slice (pZ (m a o c p _ t y) λf z ⟨l,A,B,C,D⟩=>pZ (n a z c A _ B D) λg d ⟨u,i,E,F,G⟩=>?_);refine aj ?_;have J:Inv X a c i { d with heap:=d.heap.push { cls:=.type "slice",data:=.fields #[f,g,.none] } }:=E.kept λb N q=>ag _ q;obtain⟨T,O,K,L,M⟩:=j a { d with heap:=d.heap.push { cls:=.type "slice",data:=.fields #[f,g,.none] } } c i x v f g l u d.heap.objs.size Q J w (mn ..) C F G;exact tail_any L K M (by with_unfolding_all rfl)
def Dy(xs:List V)(lo hi:Option Int):List V:=(xs.drop (HT.sIx xs.length 0 lo)).take (HT.sIx xs.length xs.length hi-HT.sIx xs.length 0 lo)
def Vf(xs:List V)(lo hi:Option Int):(Dy xs lo hi).length<=xs.length:=by unfold Dy;rw[bI,ck];lia
def X5(K:ak):V->Option Int->Option Int->Hp->VK->Prop:=λx lo hi H Q=>∃a xs,x=.ref a/\rZ K H a xs/\
 ¬ (HT.sIx xs.length 0 lo=0/\HT.sIx xs.length xs.length hi=xs.length)/\∀p,H p=JL->Q (.ref p) (upd H p (.tup (Dy xs lo hi)))
def Rf:xR X (X5 X.K):=by
 intro f s t H x v u w lo hi y Q I j k l m h;obtain⟨a,d,rfl,n,o,q⟩:=h;cases j;obtain⟨p,r,g,i⟩:=I.tuple n;have c:p.toArray.size=d.length:=by rw[aQ];exact r.length.symm
 refine⟨"tuple",_,bM.lookup,g.typeIs,?_⟩;refine HT.getItem_tuple_cut g k l m (by rw[c];exact o) ?_ (by rw[c];exact i);rw[c];refine⟨.ref s.heap.objs.size,_,I.laid (λb z q=>ag _ q) (ay _) ?_,rfl,q _ (I.hok.fresh (ay _))⟩;exact⟨aM (Vf d lo hi) i,_,(r.drop (HT.sIx d.length 0 lo)).take (HT.sIx d.length d.length hi-HT.sIx d.length 0 lo),o9.new _ _⟩
def PK(K:ak):R2:=λx y H Q=>∃a b xs ys,x=.ref a/\y=.ref b/\rZ K H a xs/\rZ K H b ys/\xs≠[]/\xs.length+ys.length<=J3/\
 (ys=[]->Q (.ref a) H)/\(ys≠[]->∀p,H p=JL->Q (.ref p) (upd H p (.tup (xs++ys))))
def oO.nil_iff(r:oO xs us):us=[]↔xs=[]:=by
 cases r with
 |nil=>simp
 |cons _ _=>simp
def zhV:qS X (eG .Add) (PK X.K):=by intro f s r H x y v u Q I i j h;obtain⟨a,b,t,A,rfl,rfl,k,l,m,g,n,o⟩:=h;cases i;cases j;obtain⟨B,d,p,_⟩:=I.tuple k;obtain⟨C,c,p2,_⟩:=I.tuple l;refine HT.cat_tup p p2 (λz=>m (d.nil_iff.mp z)) (λz=>⟨.ref a,H,I,rfl,n (c.nil_iff.mp z)⟩) (λz=>?_) (by rw[<- d.length,<- c.length];exact g);refine⟨.ref s.heap.objs.size,_,I.laid (λb D q=>ag _ q) (ay _) ?_,rfl,o (λw=>z (c.nil_iff.mpr w)) _ (I.hok.fresh (ay _))⟩;exact⟨by rw[az];exact g,_,d.append c,o9.new _ _⟩
end
noncomputable def ixN(n:Nat)(i:Int):Option Nat:=if 0<=i then (if i<n then YP i.toNat else JL) else if -(n:Int)<=i then YP (i+n).toNat else JL
def atI{α:Type}(xs:List α)(i:Int):Option α:=(ixN xs.length i).bind λj=>xs[j]?
def Sj(h:ixN n i=YP j):seqIndex? i n=YP j/\j<n/\-(n:Int)<=i/\i<n:=by
 unfold ixN at h;by_cases b:0<=i
 ·rw[JV b] at h;by_cases a:i<n
  ·rw[JV a] at h;have e:=cy h;exact⟨by rw[ng b a,e],by lia,by lia,a⟩
  ·rw[JW a] at h;cases h
 ·rw[JW b] at h;by_cases a:-(n:Int)<=i
  ·rw[JV a] at h;have e:=cy h;exact⟨by rw[seqIndex_neg 'd' a,e],by lia,a,by lia⟩
  ·rw[JW a] at h;cases h
def Lz{α:Type}{xs:List α}{i:Int}{v:α}(h:atI xs i=YP v):∃j,seqIndex? i xs.length=YP j/\xs[j]?=YP v/\j<xs.length/\-(xs.length:Int)<=i/\i<xs.length:=by
 unfold atI at h;cases e:ixN xs.length i with
 |none=>rw[e] at h;cases h
 | some j=>
  rw[e] at h;obtain⟨a,b,c,d⟩:=Sj e;exact⟨j,a,h,b,c,d⟩
def atI_nat{α:Type}{xs:List α}{j:Nat}{v:α}(h:xs[j]?=YP v):atI xs (j:Int)=YP v:=by
 have a:=(am.mp h).1;have e:ixN xs.length (j:Int)=YP j:=by
  unfold ixN;rw[JV 'd',JV 'd'];simp
 unfold atI;rw[e];exact h
def SN(b:aR):Prop:=∀o i,subscripted b JU o i=operate [o,i] (getItem o i)
def A_(X:Cx)(r:R2):Prop:=
 ∀(value slice:aR)(Xq:List (af×Obj))(s:ah)(σ:St)(H:Hp)(x y:V)(v u:ae)(Q:VK),Inv X Xq σ H s->RelV x v->RelV y u->r x y H Q->
  subscripted slice JU v u=operate [v,u] (getItem v u)->ao (au X.prog X.w) X.A (subscriptTail value slice v u) (EP X Xq σ Q) X.xe s
def Hv(X:Cx)(id:String)(r:V->List V->Hp->VK->Prop):Prop:=
 ∀(Xq:List (af×Obj))(s:ah)(σ:St)(H:Hp)(x:V)(xs:List V)(v:ae)(us:List ae)(Q:VK),Inv X Xq σ H s->RelV x v->oO xs us->r x xs H Q->
  ao (au X.prog X.w) X.A (call (.builtin id) (v::us)) (EP X Xq σ Q) X.xe s
section
variable{X:Cx}{a b:aR}{ta tb:TE}{pos:Pos}
def A_.or(h:A_ X r)(h':A_ X r'):A_ X (λx y H Q=>r x y H Q\/r' x y H Q):=by
 intro c d e s f H x y v u Q I g i q j;rcases q with q|q
 ·exact h c d e s f H x y v u Q I g i q j
 ·exact h' c d e s f H x y v u Q I g i q j
def Yt(d:A_ X r)(e:PE X a ta)(f:PE X b tb)(g:SN b):PE X (.Subscript a b pos) (FV r ta tb):=by intro c s i H Q I h;exact lB (Kv e f I h λv u j x y k l m n q=>d a b c j i k x y v u Q l m n q (g _ _))
def O9(K:ak):R2:=λx y H Q=>∃p xs i v,x=.ref p/\y=.int i/\qR K H p xs/\atI xs i=YP v/\Q v H
def Ph(K:ak):R2:=λx y H Q=>∃p xs i v,x=.ref p/\y=.int i/\rZ K H p xs/\atI xs i=YP v/\Q v H
def Pr:R2:=λx y H Q=>∃z i c,x=.str z/\y=.int i/\z.length<=J3/\atI z.cps.toList i=YP c/\Q (.str ⟨#[c]⟩) H
def pP:A_ X (O9 X.K):=by
 intro f g c s A H x y v u Q I B C h m;obtain⟨p,O,i,z,rfl,rfl,D,E,q⟩:=h;cases B;obtain⟨t,rfl⟩:=C;obtain⟨F,r,k,P⟩:=I.list D;obtain⟨j,e,G,R,J,L⟩:=Lz E;obtain⟨w,n,M⟩:=r.get G;have N:=r.length;have S:=ID;have d:EP X c A Q w s:=⟨z,H,I,M,q⟩;by_cases o:0<=i
 ·have l:i.toNat=j:=by
   rw[ng o L] at e;exact cy e
  exact item_listR k.isList o 'd' (by rw[l];simpa using n) d m
 ·have l:(i+(F.toArray.size:Int)).toNat=j:=by
   rw[seqIndex_neg 'd' J] at e;rw[aQ,<- N];exact cy e
  exact kM k.isList.typeIs slot_list_getitem.lookup
   (wpAny_getItem_list_neg k.isList 'd' (by rw[aQ]<;>lia) 'd' (by rw[l];simpa using n) ⟨rfl,d⟩) m
def pR:A_ X (Ph X.K):=by
 intro d e c s k H x y v u Q I l m h n;obtain⟨p,G,i,z,rfl,rfl,o,A,q⟩:=h;cases l;obtain⟨t,rfl⟩:=m;obtain⟨J,r,g,L⟩:=I.tuple o;obtain⟨j,B,C,M,N,O⟩:=Lz A;obtain⟨w,D,E⟩:=r.get C;have F:=r.length;have P:=ID;have f:EP X c k Q w s:=⟨z,H,I,E,q⟩;exact kM g.typeIs bM.lookup
  (getItem_tuple g 'd' 'd' (by rw[aQ,<- F];exact B) ⇑D ⟨rfl,f⟩) n
def zj9:A_ X Pr:=by
 intro d e f s C H x y v u Q I k l h m;obtain⟨z,i,c,rfl,rfl,D,n,q⟩:=h;obtain⟨t,rfl⟩:=k;obtain⟨E,rfl⟩:=l;obtain⟨j,g,o,F,p,r⟩:=Lz n;have w:z.cps.toList.length=z.length:=by simp[Str.length]
 rw[w] at g p r;have G:=ID;exact tail_any (lC s z t) slot_str_getitem.lookup (getItem_str (by
  have A:decide (i < -(2 ^ 63:Int))=JU:=decide_eq_false 'd';have B:decide (i ≥ 2 ^ 63)=JU:=decide_eq_false 'd';rw[A,B,Bool.or_false]) (by rw[g];simpa using o) ⟨.str ⟨#[c]⟩,H,I.tok _,⟨_,rfl⟩,q⟩) m
def Wi(K:ak):R2:=λx y H Q=>O9 K x y H Q\/Ph K x y H Q\/Pr x y H Q
def ZE:A_ X (Wi X.K):=pP.or (pR.or zj9)
def zai(c:List ae)(n j:Nat)(u:ae):bw (·.setIfInBounds j u) { cls:=.type "list",data:=.seq c.toArray n } = { cls:=.type "list",data:=.seq (c.set j u).toArray n }:=by simp[bw]
def Inv.lst{c:List (af×Obj)}{σ:St}{H:Hp}{s:ah}{p:af}{xs:List V}(I:Inv X c σ H s)(h:H p=YP (.lst xs)):
  ∃(d:List ae)(n:Nat),oO xs d/\s.heap.get? p=YP { cls:=.type "list",data:=.seq d.toArray n }/\xs.length<=J3:=by obtain⟨z,d,n,r,e⟩:=I.hok p _ h;exact⟨d,n,r,e,z⟩
def Inv.lstUpd{c:List (af×Obj)}{σ:St}{H:Hp}{s:ah}{p:af}{xs g:List V}{j d:List ae}{n i:Nat}{f:Obj->Obj}(I:Inv X c σ H s)(h:H p=YP (.lst xs))
  (l:s.heap.get? p=YP { cls:=.type "list",data:=.seq j.toArray n }) (k:f { cls:=.type "list",data:=.seq j.toArray n } = { cls:=.type "list",data:=.seq d.toArray i }) (r:oO g d) (m:g.length<=J3) (t:Nat) (v:0<t:=by first|exact c9 _|exact Inv.tk ‹_›|assumption|lia):
  Inv X c σ (upd H p (.lst g)) { s with heap:=s.heap.update p f,toks:=t }:=by
 have e:(s.heap.update p f).get? p=YP { cls:=.type "list",data:=.seq d.toArray i }:=by
  rw[bH f l (by rw[k]<;>rfl),k]
 refine I.write (by rw[h];trivial) (.inl rfl) (λb u o q=>(bj _ _ (bC o)).trans q) ⟨_,e⟩ ?_;exact⟨m,d,i,r,e⟩
def YC:V->V->V->Hp->(Hp->Prop)->Prop:=λo i v H Q=>∃p xs k j,o=.ref p/\i=.int k/\H p=YP (.lst xs)/\ixN xs.length k=YP j/\Q (upd H p (.lst (xs.set j v)))
def zdA:Po X YC:=by
 intro c s A H o i v J K u Q I B C D h;obtain⟨p,E,k,j,rfl,rfl,l,F,q⟩:=h;cases B;obtain⟨t,rfl⟩:=C;obtain⟨m,n,r,e,G⟩:=I.lst l;obtain⟨d,L,w,x⟩:=Sj F;have f:=r.length;have M:=ID;have y:Inv X c A (upd H p (.lst (E.set j v))) { s with heap:=s.heap.update p (bw (·.setIfInBounds j u)) }:=
  I.lstUpd l e (zai m n j u) (r.set D j) (by rw[cG];exact G) s.toks
 by_cases z:0<=k
 ·have g:k.toNat=j:=by
   rw[ng z x] at d;exact cy d
  exact PySem.W.ki_setAt e z 'd' (by rw[aQ,<- f];exact x) (by rw[g];exact⟨_,y,q⟩)
 ·have g:(k+(m.toArray.size:Int)).toNat=j:=by
   rw[seqIndex_neg 'd' w] at d;rw[aQ,<- f];exact cy d
  exact PySem.W.ki_setBack e 'd' (by rw[aQ,<- f];exact w) 'd' (by rw[g];exact⟨_,y,q⟩)
def z7S(lo hi:Option Int)(n:Nat):(sliceBounds lo hi JL n).1=((HT.sIx n 0 lo:Nat):Int)/\(sliceBounds lo hi JL n).2.1=((HT.sIx n n hi:Nat):Int)/\(sliceBounds lo hi JL n).2.2=1:=by
 refine⟨?_,?_,rfl⟩
 ·cases lo with
  |none=>simp[sliceBounds,HT.sIx]
  | some i=>
   simp only[sliceBounds,HT.sIx,nv,show(1:Int)>0 by decide,if_true];by_cases h:i<0
   ·simp only[h,if_true]<;>lia
   ·simp only[h,if_false]<;>lia
 ·cases hi with
  |none=>simp[sliceBounds,HT.sIx]
  | some i=>
   simp only[sliceBounds,HT.sIx,nv,show(1:Int)>0 by decide,if_true];by_cases h:i<0
   ·simp only[h,if_true]<;>lia
   ·simp only[h,if_false]<;>lia
def z6G(c:List ae)(lo hi:Option Int):slicePick c.toArray lo hi JL=((c.drop (HT.sIx c.length 0 lo)).take (HT.sIx c.length c.length hi-HT.sIx c.length 0 lo)).toArray:=by obtain⟨d,e,f⟩:=z7S lo hi c.toArray.size;unfold slicePick;rw[d,e,f];simp only[sliceRange_one,pick_run,aQ]<;>rfl
def XZ(K:ak):V->Option Int->Option Int->Hp->VK->Prop:=λx lo hi H Q=>∃a xs,x=.ref a/\qR K H a xs/\∀p,H p=JL->Q (.ref p) (upd H p (.lst (Dy xs lo hi)))
def Sw:xR X (XZ X.K):=by intro f s p H x v t u e g w Q I j k l m h;obtain⟨a,c,rfl,n,q⟩:=h;cases j;obtain⟨y,r,i,o⟩:=I.list n;have d:=r.length;refine⟨"list",_,slot_list_getitem.lookup,i.isList.typeIs,?_⟩;refine wpAny_getItem_list_slice i.isList k l m .none 'k' ?_ (by rw[aQ]<;>lia);rw[z6G,<- d];refine⟨.ref s.heap.objs.size,_,I.laid (λb z q=>ag _ q) (ay _) ?_,rfl,q _ (I.hok.fresh (ay _))⟩;exact⟨aM (Vf c e g) o,_,0,(r.drop (HT.sIx c.length 0 e)).take (HT.sIx c.length c.length g-HT.sIx c.length 0 e),aE _ rfl⟩
def oW.or{f:ae}{r d:List V->Hp->VK->Prop}(h:oW X f r)(h':oW X f d):oW X f (λxs H Q=>r xs H Q\/d xs H Q):=by
 intro c s e H xs g Q I i q;rcases q with q|q
 ·exact h c s e H xs g Q I i q
 ·exact h' c s e H xs g Q I i q
def z7h:oW X (.type "list") (λxs H Q=>∃p f,xs=[.ref p]/\(qR X.K H p f\/rZ X.K H p f)/\∀l,H l=JL->Q (.ref l) (upd H l (.lst f))):=by
 intro j s C H xs E Q I r h;obtain⟨p,f,rfl,hq,q⟩:=h;obtain⟨u,rfl,D⟩:=uG r;cases D;have k:∀(d:List ae),oO f d->f.length<=J3->∀(c:aS)(g:Nat),(∀b B,s.heap.get? b=YP B->c.get? b=YP B)->
   c.get? s.heap.objs.size=YP { cls:=.type "list",dict:=JL,data:=.seq d.toArray g,slots:=#[] }->EP X j C Q (.ref s.heap.objs.size) { s with heap:=c }:=λd i m c g t e=>
  ⟨.ref s.heap.objs.size,_,I.laid t (ay _) (show o0 X.prog X.w _ c _ (.lst f) from ⟨m,d,g,i,e⟩),rfl,q _ (I.hok.fresh (ay _))⟩
 rcases hq with hq|hq
 ·obtain⟨d,i,x,m⟩:=I.list hq;have v:=i.length;obtain⟨o,y,z,n,A⟩:=x.isList;exact call_list_seq p (.inl rfl) y z A (λc g t e=>k d i m c g t e) (by simp<;>lia)
 ·obtain⟨d,i,x,m⟩:=I.tuple hq;have v:=i.length;obtain⟨o,y,z,n,A⟩:=x;exact call_list_seq p (.inr rfl) y z A (λc g t e=>k d i m c g t e) (by simp<;>lia)
def VM:oW X (.type "tuple") (λxs H Q=>∃p c,xs=[.ref p]/\((qR X.K H p c/\∀l,H l=JL->Q (.ref l) (upd H l (.tup c)))\/(rZ X.K H p c/\Q (.ref p) H))):=by
 intro d s v H xs z Q I r h;obtain⟨p,c,rfl,h⟩:=h;obtain⟨u,rfl,w⟩:=uG r;cases w;rcases h with⟨f,q⟩|⟨f,q⟩
 ·obtain⟨g,i,j,m⟩:=I.list f;have n:=i.length;refine call_tuple_list j.isList (λk x=>?_) (by simp<;>lia);have t:=I.kept x;have y:Inv X d v (upd H k.objs.size (.tup c)) { s with heap:=k.push { cls:=.type "tuple",data:=.seq g.toArray } }:=
   t.laid (λb o e=>ag _ e) (ay _) (⟨m,g,i,o9.new _ _⟩)
  exact⟨.ref k.objs.size,_,y,rfl,q _ (t.hok.fresh (ay _))⟩
 ·obtain⟨g,i,j,m⟩:=I.tuple f;exact call_tuple_same j ⟨.ref p,H,I,rfl,q⟩
def V5(K:ak)(T:String)(x:V)(H:Hp):Prop:=match x with
 |.str _=>T = "str"
 |.int _=>T = "int"
 | .ref p=>(T = "list"/\∃xs,qR K H p xs)\/(T = "tuple"/\∃o,K.lookup p=YP o/\o.cls=.type "tuple"/\o.dict=JL) \/
   (T = "dict"/\((∃i_,H p=YP (.dK i_)) \/ ∃i_,H p=YP (.dT i_)))\/(T = "set"/\∃S n,H p=YP (.set S n))
 |_=>False
def zjL(I:Inv X Xq σ H s)(r:RelV x v)(g:V5 X.K T x H):
  s.TypeIs v T/\∀a,v=.ref a->∃k,s.heap.get? a=YP k/\k.dict=JL:=by
 cases x with
 | str z=>
  obtain⟨t,rfl⟩:=r;cases (g);exact⟨lC s z t,λ_ e=>nomatch e⟩
 | int i=>
  obtain⟨t,rfl⟩:=r;cases (g);exact⟨typeIs_int s i t,λ_ e=>nomatch e⟩
 | ref p=>
  cases r;rcases g with⟨rfl,w,m⟩|⟨rfl,o,d,q,h⟩|⟨rfl,d⟩|⟨rfl,S,n,d⟩
  ·obtain⟨y,_,l,_⟩:=I.list m;refine⟨l.isList.typeIs,λa e=>?_⟩;cases e;obtain⟨o,n,e,c,h,_⟩:=l;exact⟨o,e,h⟩
  ·refine⟨⟨o,I.kIn p o d,q⟩,λa e=>?_⟩;cases e;exact⟨o,I.kIn _ o d,h⟩
  ·have z:∃o,s.heap.get? p=YP o/\o.ExactDict:=by
    rcases d with⟨u,d⟩|⟨u,d⟩
    ·obtain⟨_,_,_,_,o,_,_,e,f,_⟩:=I.hok p _ d;exact⟨o,e,f⟩
    ·obtain⟨_,_,_,_,o,_,_,e,f,_⟩:=I.hok p _ d;exact⟨o,e,f⟩
   obtain⟨o,e,f⟩:=z;refine⟨⟨o,e,f.1⟩,λa j=>?_⟩;cases j;exact⟨o,e,f.2.1⟩
  ·obtain⟨o,_,_,_,e,f,_⟩:=I.hok p _ d;refine⟨⟨o,e,f.1⟩,λa j=>?_⟩;cases j;exact⟨o,e,f.2.1⟩
 |_=>exact ai g
def tBM(K:ak)(T:String)(r:V->List V->Hp->VK->Prop)(to:TE)(t:TA):TE:=λσ H Q=>to σ H λx H1=>V5 K T x H1/\t σ H1 λxs H2=>r x xs H2 Q
variable{o e:aR}{es:List aR}{to:TE}{t:TA}{name:aq}{apos pY:Pos}{T id:String}{r:V->List V->Hp->VK->Prop}
def H8(k:PlainAttrs T)(d:Slot T name id)(l:typeOf (.builtin id)=pure (.type "method_descriptor"))(m:Hv X id r)(n:PE X o to)(p:PA X (e::es) t)
  (q:attributeBase o name X.env (eval o X.env)=eval o X.env:=by rfl)
  (u:((backTo pY (aF (e::es) X.env)).all (λx=>!x.1)&&(backToKw pY (keywordEach [] X.env)).all (λx=>x.1.isSome)
   && decide ((e::es).length+([]:List fQ).length+(if ([]:List fQ).isEmpty then 0 else 1)<30))=JQ:=by rfl)
  (w:(apos.endLine==pY.line)=JQ:=by rfl) (y:aF (e::es) X.env=(JU,eval e X.env)::aF es X.env:=by rfl) (z:(backTo pY (aF es X.env)).any (·.1)=JU:=by rfl):
  PE X (.Call (.Attribute o name apos) (e::es) [] pY) (tBM X.K T r to t):=by intro c s f H Q I h;refine kN q u w rfl (pZ (n c s f H _ I h) λv A ⟨x,B,g,i,C,D⟩=>?_);obtain⟨E,F⟩:=zjL g i C;refine⟨T,id,k,d,l,E,F,?_⟩;have j:=p pY c A f B _ g D;rw[y] at j ⊢;refine kO (by show(JU||(backTo pY (aF es X.env)).any (·.1))=JU;rw[z]<;>rfl) (iJ ?_);exact pZ j λG J ⟨L,M,N,O,P⟩=>m c J f M x L v G Q N i O P
end
def Xj(X:Cx)(id:String)(r:V->List V->Hp->VK->Prop):Prop:=
 ∀(Xq:List (af×Obj))(s:ah)(σ:St)(H:Hp)(x:V)(xs:List V)(v:ae)(us:List ae)(Q:VK),Inv X Xq σ H s->RelV x v->oO xs us->r x xs H Q->
  ao (au X.prog X.w) X.A (call (.builtin id) (v::us)) (EP X Xq σ Q) X.xe s
def oO.one:∀{x:V}{a:List ae},oO [x] a->∃u,a=[u]/\RelV x u
 |_,_,.cons r .nil=>⟨_,rfl,r⟩
theorem oO.eraseIdx:∀{xs:List V}{a:List ae}(i:Nat),oO xs a->oO (xs.eraseIdx i) (a.eraseIdx i)
 |_,_,_,.nil=>.nil
 |_,_,0,.cons _ t=>t
 |_,_,i+1,.cons r t=>.cons r (oO.eraseIdx i t)
def oO.reverse{xs:List V}{a:List ae}(h:oO xs a):oO xs.reverse a.reverse:=by
 induction h with
 |nil=>exact .nil
 |cons r t ih=>rw[iE,iE];exact oO.append ih (.cons r .nil)
section
variable{X:Cx}{Xq:List (af×Obj)}{σ:St}{H:Hp}{s:ah}{l:af}{xs ys:List V}
def Inv.lset{b a:List ae}{n:Nat}{f:Array ae->Array ae}{t':Nat}(I:Inv X Xq σ H s)(c:H l=YP (.lst xs))
  (e:s.heap.get? l=YP { cls:=.type "list",data:=.seq b.toArray n }) (d:f b.toArray=a.toArray) (g:oO ys a) (h:ys.length<=J3) (k:0<t':=by first|exact c9 _|exact Inv.tk ‹_›|assumption|lia):
  Inv X Xq σ (upd H l (.lst ys)) { s with heap:=s.heap.update l (bw f),toks:=t' }:=by have q:=PySem.IsL.update e f;rw[d] at q;refine I.write (by rw[c];exact trivial) (.inl rfl) (λm u i j=>(bj s.heap (bw f) (bC i)).trans j) ⟨_,q⟩ ?_;exact⟨h,a,_,g,q⟩
def Inv.lnew(I:Inv X Xq σ H s)(a:oO ys c_)(b:ys.length<=J3)(c:0<t':=by first|exact c9 _|exact Inv.tk ‹_›|assumption|lia):
  Inv X Xq σ (upd H s.heap.objs.size (.lst ys)) { s with heap:=s.heap.push { cls:=.type "list",data:=.seq c_.toArray },toks:=t' }:=
 I.laid (λ_ _ q=>ag _ q) (ay _) ⟨b,c_,0,a,aE _ rfl⟩
def Inv.fresh(I:Inv X Xq σ H s):H s.heap.objs.size=JL:=I.hok.fresh (ay _)
def Inv.lstM(I:Inv X Xq σ H s)(b:H l=YP (.lst xs)):xs.length<=J3/\∃(a:List ae)(n:Nat),oO xs a/\xs.length=a.length/\s.heap.get? l=YP { cls:=.type "list",data:=.seq a.toArray n }:=by obtain⟨z,a,n,r,e⟩:=I.hok l _ b;exact⟨z,a,n,r,r.length,e⟩
def zdH{n:Nat}(h:n<=J3):ig n=JU:=by exact decide_eq_false 'd'
end
section
variable{X:Cx}
def zgJ:V->List V->Hp->VK->Prop:=λx vs H Q=>∃l xs y,x=.ref l/\vs=[y]/\H l=YP (.lst xs)/\xs.length<J3/\Q .non (upd H l (.lst (xs++[y])))
def UL:Xj X "list.append" zgJ:=by intro a s i H x j v k Q I c d h;obtain⟨l,m,y,rfl,rfl,b,o,q⟩:=h;cases c;obtain⟨u,rfl,f⟩:=d.one;obtain⟨z,g,n,r,p,e⟩:=I.lstM b;refine call_meets kZ ⟨_,e,rfl⟩ F.entry_list_append (F.args_list_append_2 _ _) (PySem.list_append l g.toArray n u (by rw[aQ];lia)) ⟨e,?_⟩;refine⟨.non,_,I.lset b e 'k' (r.append (.cons f .nil)) ?_,rfl,q⟩;rw[az,eH];lia
end
section
end
end L2
namespace Att
open PySem PySem.W PySem.Calls PyProof.Rows
def z5r:∀(c:List Int)(vs:List ae),WellAll P h vs (c.map oj)->kY vs c:=by
 intro c
 induction c with
 | nil=>
  intro vs w;cases w;exact .nil
 | cons n c ih=>
  intro vs w;cases w with
  | cons a b=>
   cases a;exact .cons _ _ (ih _ b)
def zcr{l:mo}{n:Nat}(k:l.most=YP n){P:i9}{h:aS}{args:List WData}{b:List ae}
  (j:l.row.toRowW.claim.pre args=JQ) (m:WellAll P h b args):
  ∃a vs c,b=[dJ a]/\args=[WData.list (c.map oj)]/\h.get? a=YP { cls:=.type "list",data:=.seq vs.toArray }/\kY vs c/\c.length<=n:=by
 have g:=(pre_splitW j).1;have o:l.pre.holds [] { args:=args } = JQ:=(pre_splitW j).2;obtain⟨d,r,rfl,p,s⟩:=hasAllW_cons g;obtain rfl:=hasAllW_nil s;obtain⟨u,rfl,t⟩:=hasW_list p;obtain⟨c,rfl⟩:=items_int t;have e:c.length<=n:=by
  have f:(WTm.not (.lt (.lit (.int (n:Int))) (.len (.arg 0)))).holds [] { args:=[.list (c.map .int)] } = JQ:=by
   have f:=(holds_andW o).1;rw[k] at f;exact f
  have i:=condW_of f (w_not (w_lt w_lit (w_len_list (w_arg rfl))));refine Nat.le_of_not_lt λq=>?_
  first
   |(rw[decide_eq_true q'] at i;exact absurd i 'u')
   |(simp at i;lia)
 cases m with
 | cons w1 w2=>
  cases w2;cases w1 with
  |list ho sG=>exact⟨_,_,c,rfl,rfl,ho,z5r c _ sG,e⟩
def zcQ(l:mo)(a:List WData):l.row.toRowW.claim.post a (.bool JQ) a=JQ:=
 postW_of
  (show WShape.has [] (.bool JQ) .bool=JQ by first|rfl|decide|simp[WShape.has,WShape.arms,WShape.armsAll])
  (w_eq_bool (w_res rfl) w_lit) rfl
theorem Vn:∀a:List Int,lQ (a.map PyData.int)=a.map oj
 |[]=>by simp[lQ]
 |n::a=>by simp only[bQ,lQ,mq];rw[Vn a]
def attach_call{l:mo}{n:Nat}{q:aK}{loose:List aq}{XP:(aq->Option ae)->aS->Prop}{t:aT->aS->Prop}{d:DefRec}{α:Type}{Yf:ah->α}{Ya:aT->α}
  (D:l.most=YP n) (E:d.params.defaults=[]) (F:∀w s,Yf s=Ya w->t w s.heap) (H:∀w h h',t w h->(∀b o,h.get? b=YP o->h'.get? b=YP o)->t w h')
  (j:∀(w:aT)(c e:ah)(u x:aq->Option ae)(k:af)(o:Obj)(y v g:ae)(a:af)(vs:List ae)(m:List Int),
   Ground q loose [] XP w c u x e.heap->t w e.heap->
   e.heap.get? k=YP o->o.data=.func (docDef d.name d.params d.body d.scope y v g)->e.heap.CodeRec v d.name->u d.name=YP (.ref k)->
   e.heap.get? a=YP { cls:=.type "list",data:=.seq vs.toArray }->kY vs m->m.length<=n->e.gens = #[]->0<e.toks->
   codeAny (au l.prog w) callerA (.call (.ref k) ⟨[.ref a],[]⟩) (λr s'=>r=.ok (.ret (.bool JQ))/\OldK e.heap s'.heap/\s'.os=e.os/\gk s'.gens) e):
  WalkX q loose XP (λs=>(Yf s,decide (0<s.toks))) (λw=>(Ya w,JQ)) l.row.toRowW d [] (λf vs=>PySem.call f vs):=by
 intro w c e u x G Y k o y v g I J K M N z O P A B Q L R C S T EA;obtain rfl:I=.none:=Dflts.none z E;obtain rfl:J=.none:=Dflts.noKw z;have U:=congrArg lD Y;have V:=of_decide_eq_true (congrArg ny Y);obtain⟨a,vs,m,rfl,rfl,Z,i,p⟩:=zcr D R T;have L':Laid l.row.toRowW.records w c e [mq (fP (m.map PyData.int))] [.ref a] Q:=by
  rw[mq,Vn];exact L
 have qv:=ba V (PySem.W.X.script_toks L' rfl);refine enter_call (ef (j w c e u x k o y v g a vs m G (H _ _ _ (F w c U) L.keeps) K (fd_plain M) N O Z i p P qv) λr s' hq=>?_);obtain⟨rfl,h2,h3,h4⟩:=hq;exact⟨.inl ⟨.bool JQ,.bool JQ,[],rfl,λ_=>rfl,.bool JQ,zcQ l _,λ_=>⟨eO,λ_ hm=>(nomatch hm)⟩⟩,h2,h3,h4⟩
section
end
end Att
namespace L2
open PySem PySem.Spec PyProof.Rows
theorem UN:∀{vs:List ae}{a:List Int},kY vs a->oO (a.map V.int) vs
 |_,_,.nil=>.nil
 |_,_,.cons n t h=>.cons ⟨t,rfl⟩ (UN h)
noncomputable def vS(s:dh):eR:=match s with
 |.FunctionDef _ a _ _ _ _ _ _ _ _=>a
 |_=>{ posonlyargs:=[],args:=[],vararg:=JL,kwonlyargs:=[],kw_defaults:=[],kwarg:=JL,defaults:=[] }
def tP(s:dh):List dh:=match s with
 |.FunctionDef _ _ b _ _ _ _ _ _ _=>b
 |_=>[]
def qz(s:dh):cu:=match s with
 |.FunctionDef _ _ _ _ _ _ sc _ _ _=>sc
 |_=>{ kind:=.function,names:=[],isGenerator:=JU,isCoroutine:=JU }
abbrev BW:xw:=λ_ _ _ _ _ _=>False
abbrev E0:XK:=λ_ _ _=>False
def PF:Bu BW X E0:=λ_ _ _ _ _ _ _ h=>h.elim
structure Fun(K:ak)(x qual:aq)(st:dh)(f:af)(fd:d0):Prop where
 ex:∃(oc:ae)(od:Option af)(kV doc pm:ae)(an:Option af)(l_ ct:ae)(tw:Array (Option ae)),
  fd=br x qual (vS st) (tP st) (qz st) .none kV doc pm an l_ ct/\K.lookup f=YP ⟨oc,od,.func fd,tw⟩/\dE K l_ qual=JQ
 kp:cZ K (.ref f)=JQ
section
variable{P:aK}{w:aT}{K:ak}{mg:aq->Option ae}{base:aS}
def Fun.ok{x b:aq}{c:dh}{f:af}{j:d0}{N e:List aq}{k:Nat}{g:Sp}(F:Fun K x b c f j)(S:tF N e (qz c))(i:∀vs H Q E,g vs H Q E->vs.length=e.length)
  (l:∀(d:ae)(A:aU)(a:List Env)(s:ah)(H:Hp)(vs:List V)(Q:VK)(E:XK),oP k (A.deeper (envOfC b (qz c) s.heap.objs.size f d))->g vs H Q E->
   ∃t,sZ (zR BW P w K mg base N b (qz c) f d A a s H E).nox (tP c) t/\t { nx:=λ_ H'=>Q .non H',rt:=Q } (start N vs) H):oY P w K mg base BW (k+1) f j e g:=by obtain⟨u,v,y,m,z,B,d,C,D,rfl,n,o⟩:=F.ex;refine qy n o S i λA a s H vs Q E p r=>?_;obtain⟨t,h,q⟩:=l d A a s H vs Q E p r;exact⟨t,h.nox,q⟩
def Fun.binds{x a:aq}{c:dh}{f:af}{m:d0}{d:List aq}(F:Fun K x a c f m)
  (h:∀(e b g:ae)(i:Option af)(j k:ae)(l:List ae),l.length=d.length->bindArgs (br x a (vS c) (tP c) (qz c) .none e b g i j k) ⟨l,[]⟩=pure (d.zip l)):Binds K m d []:=by obtain⟨n,o,e,b,g,i,j,k,p,rfl,q,r⟩:=F.ex;exact .all (h e b g i j k)
def La{x a:aq}{b:dh}{f:af}{m:ae}{n g:Option af}{o:Array (Option ae)}{h d i e j:ae}(l:K.lookup f=YP ⟨m,n,.func (br x a (vS b) (tP b) (qz b) .none h d i g e j),o⟩)
  (c:dE K e a=JQ) (k:cZ K (.ref f)=JQ):Fun K x a b f (br x a (vS b) (tP b) (qz b) .none h d i g e j):=⟨⟨m,n,h,d,i,g,e,j,o,rfl,l,c⟩,k⟩
end
def Yh(a:oP k A):A.units+1<cLine:=ij (Nat.add_le_add_left (by decide:1<=64) _) a.units
section
variable{X:Cx}
def pv(i:Nat)(a:X.N[i]?=YP x:=by rfl)(b:sY X.env.scope x:=by first|exact Or.inl rfl|exact Or.inr (Or.inl rfl)|exact Or.inr (Or.inr rfl))(c:rH x:=by decide)
  (d:(x==("__classdict__":aq))=JU:=by decide):PE X (.Name x pos) (HQ i):=Fb a b c d
end
def oV(H H':Hp):Prop:=∀b o,H b=YP o->H' b=YP o
def oV.refl(H:Hp):oV H H:=λ_ _ h=>h
def oV.trans(a:oV H H1)(b:oV H1 H2):oV H H2:=λc o h=>b c o (a c o h)
def oV.free{H H':Hp}(e:oV H H'){l:af}(h:H' l=jy):H l=jy:=by
 cases q:H l with
 |none=>rfl
 | some o=>
  rw[e l o q] at h;cases h
def oV.seq{K:ak}{H H':Hp}{a:af}{xs:List V}(e:oV H H')(h:qR K H a xs):qR K H' a xs:=by
 rcases h with(h|⟨o,h⟩)|h
 ·exact .inl (.inl (e _ _ h))
 ·exact .inl (.inr ⟨o,e _ _ h⟩)
 ·exact .inr h
section
variable{κ:Type}[DecidableEq κ]
def uo(i_:List (κ×V))(k:κ):Option V:=(i_.find? λkv=>decide (kv.1=k)).map (·.2)
noncomputable def yT(i_:List (κ×V))(k:κ)(v:V):List (κ×V):=
 if (i_.any λkv=>decide (kv.1=k))=JQ then i_.map (λkv=>if kv.1=k then (kv.1,v) else kv) else i_++[(k,v)]
def AA(i_:List (κ×V))(k:κ):List (κ×V):=i_.filter λkv=>decide (kv.1≠k)
def Fv{p:κ×V}{r:List (κ×V)}{k:κ}(e:p.1=k):uo (p::r) k=YP p.2:=by simp[uo,eJ,e]
def D7{p:κ×V}{r:List (κ×V)}{k:κ}(e:¬ p.1=k):uo (p::r) k=uo r k:=by simp[uo,eJ,e]
theorem T5(k:κ):∀a:List (κ×V),(a.any λb=>decide (b.1=k))=(uo a k).isSome
 |[]=>rfl
 | p::r=>by
  rw[gO];by_cases e:p.1=k
  ·simp only[Fv e,decide_eq_true e,Bool.true_or,mr]
  ·rw[D7 e,decide_eq_false e,om];exact T5 k r
def Vd(a:List (κ×V))(k:κ)(v:V):(yT a k v).length<=a.length+1:=by
 unfold yT;split
 ·rw[aI];lia
 ·rw[az,bt,gZ];lia
def zev{a:List (κ×V)}{k:κ}(v:V)(h:uo a k=JL):yT a k v=a++[(k,v)]:=by unfold yT;rw[T5,h];exact JW 'u'
def pf.isSome_eq(r:pf o u):o.isSome=u.isSome:=by
 cases o with
 | none=>cases u with
  |none=>rfl
  |some _=>exact(r).elim
 | some _=>cases u with
  |none=>exact(r).elim
  |some _=>rfl
def pf.getD(r:pf o u)(a:RelV d d'):RelV (o.getD d) (u.getD d'):=by
 cases o with
 | none=>cases u with
  |none=>exact a
  |some _=>exact(show False from r).elim
 | some _=>cases u with
  |none=>exact(show False from r).elim
  |some _=>exact r
def KV.val{c:List (κ×V)}{vs:List (κ×ae)}(r:KV c vs)(k:κ):pf (uo c k) (valueAt vs k):=by
 induction r with
 |nil=>exact eL
 | @cons p q ps qs h t ih=>
  obtain⟨d,f⟩:=h;by_cases e:p.1=k
  ·have a:=d.symm.trans e;have b:valueAt (q::qs) k=YP q.2:=by simp[valueAt,eJ,a]
   rw[Fv e,b];exact f
  ·have a:¬ q.1=k:=λz=>e (d.trans z);have b:valueAt (q::qs) k=valueAt qs k:=by simp[valueAt,eJ,a]
   rw[D7 e,b];exact ih
def KV.any{b:List (κ×V)}{vs:List (κ×ae)}(r:KV b vs)(k:κ):(b.any λa=>decide (a.1=k))=vs.any λa=>decide (a.1=k):=by
 induction r with
 |nil=>rfl
 |cons h t ih=>rw[gO,gO,ih,h.1]
def KV.repl(r:KV i_ vs)(k:κ)(c:RelV y u):
  KV (i_.map λa=>if a.1=k then (a.1,y) else a) (vs.map λa=>if a.1=k then (a.1,u) else a):=by
 induction r with
 |nil=>exact .nil
 | @cons p q ps qs h t ih=>
  rw[bQ,bQ];refine .cons ?_ ih;obtain⟨b,d⟩:=h;by_cases e:p.1=k
  ·rw[JV e,JV (b.symm.trans e)];exact⟨b,c⟩
  ·rw[JW e,JW (λz=>e (b.trans z))];exact⟨b,d⟩
def KV.put(r:KV i_ vs)(k:κ)(a:RelV y u):KV (yT i_ k y) (stored vs k u):=by
 unfold yT stored;rw[r.any k];by_cases e:(vs.any λb=>decide (b.1=k))=JQ
 ·rw[JV e,JV e];exact r.repl k a
 ·rw[JW e,JW e];exact Paired.snoc r ⟨rfl,a⟩
def KV.drop(r:KV i_ vs)(k:κ):KV (AA i_ k) (without vs k):=by
 unfold AA without
 induction r with
 |nil=>exact .nil
 | @cons p q ps qs h t ih=>
  obtain⟨c,d⟩:=h;rw[gF,gF];by_cases e:p.1=k
  ·have a:¬ decide (p.1≠k)=JQ:=by simp[e]
   have b:¬ decide (q.1≠k)=JQ:=by simp[c.symm.trans e]
   rw[JW a,JW b];exact ih
  ·have f:¬ q.1=k:=λz=>e (c.trans z);have a:decide (p.1≠k)=JQ:=by simp[e]
   have b:decide (q.1≠k)=JQ:=by simp[f]
   rw[JV a,JV b];exact .cons ⟨c,d⟩ ih
def KV.length(r:KV i_ vs):i_.length=vs.length:=lN r
def zf1(a:List (κ×V))(k:κ):(AA a k).length<=a.length:=bz _ _
end
def DQ(r:RelV (kV k) u):(vn P w).is k u=JQ:=by
 cases k with
 |inl i=>obtain⟨t,e⟩:=(r);subst e;exact z82 P w i t
 |inr x=>obtain⟨t,e⟩:=(r);subst e;exact z8f P w x t
theorem Uv:∀{a:List Key}{b:List ae},oO (a.map kV) b->ItemsAre (vn P w) a b
 |[],_,r=>by rw[kh] at r;cases r;exact .nil
 | k::a,_,r=>by
  cases r with
  |cons h t=>exact .cons (DQ h) (Uv t)
abbrev KT(H:Hp):List (List Key×V)->List (List Key×af×ae)->Prop:=cD λp q=>p.1=q.1/\H q.2.1=YP (.tup (p.1.map kV))/\RelV p.2 q.2.2
def KT.val{H:Hp}{c:List (List Key×V)}{xs:List (List Key×af×ae)}(r:KT H c xs)(k:List Key):pf (uo c k) ((atKey xs k).map (·.2)):=by
 induction r with
 |nil=>exact eL
 | @cons p q ps qs h t ih=>
  obtain⟨d,_,f⟩:=h;by_cases e:p.1=k
  ·have a:=d.symm.trans e;have b:atKey (q::qs) k=YP q.2:=by simp[atKey,eJ,a]
   rw[Fv e,b];exact f
  ·have a:¬ q.1=k:=λz=>e (d.trans z);have b:atKey (q::qs) k=atKey qs k:=by simp[atKey,eJ,a]
   rw[D7 e,b];exact ih
section
variable{P:aK}{w:aT}{H:Hp}{h:aS}{a:af}
def Py(ok:HOk P w H h)(e:Rd H a u):o0 P w H h a u:=e.ok ok
def DP(ok:HOk P w H h)(e:Rd H a (.dK i_)):i_.length<=J3/\(a==sysModules)=JU/\∃vs,KV i_ vs/\h.DictOf (vn P w) a vs:=
 show o0 P w H h a (.dK i_) from Py ok e
def Ia(ok:HOk P w H h)(e:H a=YP (.dK i_)):i_.length<=J3/\(a==sysModules)=JU/\∃vs,KV i_ vs/\h.DictOf (vn P w) a vs:=DP ok (.inl e)
def Qu(ok:HOk P w H h)(e:H a=YP (.tup (ks.map kV))):(tupleKind (vn P w)).is h ks a:=by obtain⟨_,b,r,o,c,d,⟨n,f⟩,_⟩:=(ok a _ e);exact⟨o,b.toArray,n,c,d,f,by simpa using Uv r⟩
def PH(ok:HOk P w H h)(e:Rd H a (.dT i_)):i_.length<=J3/\(a==sysModules)=JU/\
  ∃xs,KT H i_ xs/\h.DictOfH (tupleKind (vn P w)) a xs:=by
 obtain⟨z,y,xs,r,o,c,d,f,g,i,j,k⟩:=(Py ok e);refine⟨z,y,xs,r,o,c,d,f,g,i,j,λx hx=>?_,k⟩;have b:∀{l:List (List Key×V)}{m:List (List Key×af×ae)},KT H l m->∀x∈m,(tupleKind (vn P w)).is h x.1 x.2.1:=by
  intro l m q
  induction q with
  |nil=>intro x hx;exact nomatch hx
  | @cons p q ps qs hq t ih=>
   intro x hx;rcases ar.mp hx with e|hx
   ·subst e;exact Qu ok (by rw[<- hq.1];exact hq.2.1)
   ·exact ih x hx
 exact b r x hx
end
def Kw(H:Hp)(a:af)(y:V)(r:Option V):Prop:=
 (∃i_ k,Rd H a (.dK i_)/\y=kV k/\r=uo i_ k) \/ ∃i_ k b,Rd H a (.dT i_)/\y=.ref b/\H b=YP (.tup (k.map kV))/\r=uo i_ k
section
variable{X:Cx}{Xq:List (af×Obj)}{σ:St}{H:Hp}{s:ah}{a:af}{y v:V}{u:ae}{A:aU}{E:ae->ah->Prop}
def Inv.big(I:Inv X Xq σ H s):sysModules<s.heap.objs.size:=by have h:=(I.mod.glob.keeps I.bk).lt;exact Nat.lt_trans 'u' h
def zdf(o:A.units+1<cLine)(I:Inv X Xq σ H s)(g:Kw H a y (YP v))(n:RelV y u)(h:∀d s',Inv X Xq σ H s'->RelV v d->Q d s'):
  ao (au X.prog X.w) A (getItem (.ref a) u) Q E s:=by
 rcases g with⟨q,k,e,f,l⟩|⟨q,k,b,e,f,r,l⟩
 ·subst f;obtain⟨z,t,C,c,i⟩:=DP I.hok e;obtain⟨d,j,m⟩:=pf.some_of (by rw[l];exact c.val k);exact ki (DQ n) i.mapOf j (h d _ (I.tok _) m)
 ·subst f;cases (n);obtain⟨z,t,D,c,i⟩:=PH I.hok e;obtain⟨d,j,m⟩:=pf.some_of (by rw[l];exact c.val k);obtain⟨p,x,B⟩:=iG.mp j;refine wpAny_getItem_heap (tupleKind_room_in1 o) (Qu I.hok r) i x ?_;rw[B];exact h d _ (I.tok _) m
def LN(I:Inv X Xq σ H s)(d:Hu (H a))(e:de a s.heap h')(f:∃q,h'.get? a=YP q)(c:o0 X.prog X.w (upd H a ob) h' a ob)(h:0<t':=by first|exact c9 _|exact Inv.tk ‹_›|assumption|lia):
  Inv X Xq σ (upd H a ob) { s with heap:=h',toks:=t' }:=
 I.write d (.inl rfl) (λb q g z=>(e.2 b g).trans z) f c
def Iq(z:i_.length<=J3)(c:(a==sysModules)=JU)(b:KV i_ vs)(dd:h'.DictOf (vn P w) a vs):
  o0 P w H' h' a (.dK i_):=⟨z,c,vs,b,dd⟩
end
section
variable{X:Cx}{Xq:List (af×Obj)}{σ:St}{H:Hp}{s:ah}{a:af}{i_:List (Key×V)}{k:Key}{u:ae}{A:aU}{E:ae->ah->Prop}
def zd8(I:Inv X Xq σ H s)(e:H a=YP (.dK i_))(f:RelV (kV k) u)(l:(uo i_ k).isSome=JQ)(h:∀s',Inv X Xq σ (upd H a (.dK (AA i_ k))) s'->Q () s'):
  ao (au X.prog X.w) A (delItem (.ref a) u) Q E s:=by
 obtain⟨z,g,i,b,c⟩:=Ia I.hok e;refine wpAny_delItem_slot c.typeIs 'u' jZ
  (call_meetsIn jZ c.typeIs PySem.F.entry_dict_delitem (PySem.F.args_dict_delitem_2 _ _) (meets_dict_delitem_pairs (vn X.prog X.w) a (DQ f)) ⟨i,c,by rw[<- b.length];exact z,by rw[<- (b.val k).isSome_eq];exact l,λj d m=>h _ ?_⟩)
 have n:∃q,j.get? a=YP q:=let ⟨q,_,_,hq,_⟩:=d;⟨q,hq⟩;exact LN I (by rw[e];exact eL) m n (Iq (aM (zf1 i_ k) z) g (b.drop k) d)
end
def Dr(i:aR):Prop:=∀ov iv,subscripted i JU ov iv=operate [ov,iv] (getItem ov iv)
def Lw{prog:aK}{w:aT}{A:aU}{E:ae->ah->Prop}{s:ah}{env:Env}{b a:aR}{pos:Pos}{T id:String}{Q:ae->ah->Prop}
  (j:typeLookup (.type T) "__getitem__" = pure (YP (.builtin id))) (k:Dr a)
  (h:ao (au prog w) A (eval b env) (λo f=>ao (au prog w) A (eval a env) (λi d=>d.TypeIs o T/\ao (au prog w) A (getItem o i) Q E d) E f) E s):
  ao (au prog w) A (eval (.Subscript b a pos) env) Q E s:=by
 refine lB (cj h (λo f l=>cj l (λi d e=>?_) λ_ _ x=>x) λ_ _ x=>x);obtain⟨m,e⟩:=e;refine aa ?_;refine aa (wpAny_specialOf m j ?_);have c:ao (au prog w) A (subscripted a JU o i) (λr g=>ao (au prog w) A (letTemporaryGo b o r >>= λ_=>pure r) Q E g) E d:=by
  rw[k o i];exact wpAny_operating (cj e (λr g n=>aa (wpAny_letTemporaryGo (aj n))) λ_ _ x=>x)
 first
  |exact aj (aa c)
  |exact aa (aj (aa c))
  |exact aa c
def z86(I:Inv X Xq σ H s)(g:Kw H a y o):s.TypeIs (.ref a) "dict":=by
 rcases g with⟨d,k,e,_,_⟩|⟨d,k,b,e,_,_,_⟩
 ·obtain⟨_,_,f,_,c⟩:=DP I.hok e;exact c.typeIs
 ·obtain⟨_,_,h,_,c⟩:=PH I.hok e;exact c.typeIs
def Yg(td ty:TE):TE:=λσ H Q=>td σ H λx H1=>ty σ H1 λy H2=>∃a v,x=.ref a/\Kw H2 a y (YP v)/\Q v H2
def Yk(td ty:TE):TS:=λD σ H=>td σ H λx H1=>ty σ H1 λy H2=>∃a i_ k,x=.ref a/\H2 a=YP (.dK i_)/\y=kV k/\(uo i_ k).isSome=JQ/\D.nx σ (upd H2 a (.dK (AA i_ k)))
section
variable{X:Cx}{o i e:aR}{pos Nb:Pos}{td ty:TE}
def ziq(f:X.A.units+1<cLine)(j:PE X o td)(hi:PE X i ty)(k:Dr i):PE X (.Subscript o i pos) (Yg td ty):=by intro b s c H Q I h;refine Lw g7.lookup k (pZ (j b s c H _ I h) λu l ⟨x,m,n,p,q⟩=>pZ (hi b l c m _ n q) λD E ⟨y,r,d,t,a,v,w,g,z⟩=>?_);subst w;obtain rfl:u=dJ a:=p;exact⟨z86 d g,zdf f d g t λF G B C=>⟨v,r,B,C,z⟩⟩
def zgs(d:PE X o td)(hi:PE X i ty):PS X (.Delete [.Subscript o i Nb] pos) (Yk td ty):=by intro b s c H D I h;refine wpAny_Delete (wpAny_deleteEach_cons (wpAny_delete_Subscript (pZ (d b s c H _ I h) λu f ⟨x,g,j,m,n⟩=>pZ (hi b f c g _ j n) λz A ⟨y,B,p,q,a,C,k,r,e,t,l,v⟩=>?_)));subst r t;obtain rfl:u=dJ a:=m;exact zd8 p e q l λE w=>wpAny_deleteEach_nil ⟨c,_,w,v⟩
end
def Tp(h:aS)(a:sysModules<h.objs.size):o0 P w H (h.push { cls:=.type "dict",data:=.dict #[] }) h.objs.size (.dK []):=
 ⟨cw _,beq_eq_false_iff_ne.mpr (bC (bb a)),[],.nil,Heap.DictOf.new h⟩
def ZW:TE:=λ_ H Q=>∀p,H p=JL->Q (.ref p) (upd H p (.dK []))
section
variable{X:Cx}{pos:Pos}
def zeC:PE X (.Dict [] [] pos) ZW:=λa s b H Q I h=>
 wpAny_Dict_empty ⟨.ref s.heap.objs.size,_,I.laid (λ_ _ q=>ag _ q) (ay _) (Tp s.heap I.big),rfl,h _ (I.hok.fresh (ay _))⟩
end
noncomputable def Fc:List (TE×TE)->St->Hp->(List (V×V)->Hp->Prop)->Prop
 |[],_,H,Q=>Q [] H
 |(tk,tv)::r,σ,H,Q=>tk σ H λx H1=>tv σ H1 λy H2=>Fc r σ H2 λps H3=>Q ((x,y)::ps) H3
abbrev VV:List (V×V)->List (ae×ae)->Prop:=cD λp q=>RelV p.1 q.1/\RelV p.2 q.2
def Hs(X:Cx)(pos:Pos)(keys:List (Option aR))(values:List aR)(AJ:List (TE×TE)):Prop:=
 ∀(Xq:List (af×Obj))(s:ah)(σ:St)(H:Hp)(Q:List (V×V)->Hp->Prop),Inv X Xq σ H s->Fc AJ σ H Q->
  ao (au X.prog X.w) X.A (evalPairs (pairTrees keys values X.env pos)) (λvs s'=>∃ps H',Inv X Xq σ H' s'/\VV ps vs/\Q ps H') X.xe s
def zhT:Hs X pos [] [] []:=λa s b H Q I h=>pairTrees_nil_walk ⟨[],H,I,.nil,h⟩
def zek(d:PE X k tk)(e:PE X v tv)(f:Hs X pos ks vs AJ):
  Hs X pos (YP k::ks) (v::vs) ((tk,tv)::AJ):=λa s b H Q I h=>
 pairTrees_cons_walk (pZ (d a s b H _ I h) λu g ⟨x,i,j,l,m⟩=>pZ (e a g b i _ j m) λB n ⟨y,o,p,q,r⟩=>
  pZ (f a n b o _ p r) λC D ⟨t,w,z,c,A⟩=>⟨(x,y)::t,w,z,.cons ⟨l,q⟩ c,A⟩)
def AD(i_ more:List (Key×V)):List (Key×V):=more.foldl (λY2 kv=>yT Y2 kv.1 kv.2) i_
def KV.merge:∀{a:List (Key×V)}{c:List (Key×ae)}{b:List (Key×V)}{vs:List (Key×ae)},KV a c->KV b vs->KV (AD b a) (merged vs c):=by
 intro a c b vs r
 induction r generalizing b vs with
 |nil=>intro q;exact q
 | @cons p q ps qs h t ih=>
  intro d;have e:KV (yT b p.1 p.2) (stored vs q.1 q.2):=by
   have:=d.put p.1 h.2;rw[<- h.1];exact this
  exact ih e
theorem VY:∀(more i_:List (Key×V)),(AD i_ more).length<=i_.length+more.length
 |[],i_=>by show i_.length<=i_.length+0;lia
 | p::r,i_=>by
  have a:=VY r (yT i_ p.1 p.2);have b:=Vd i_ p.1 p.2;show(AD (yT i_ p.1 p.2) r).length<=_;rw[bt];lia
theorem Vm:∀{i_:List (Key×V)}{ws:List (ae×ae)},VV (i_.map λe=>(kV e.1,e.2)) ws->∃d,Carries (vn P w) ws d/\KV i_ d
 |[],_,r=>by rw[kh] at r;cases r;exact⟨[],eL,.nil⟩
 | p::i_,_,r=>by
  cases r with
  | @cons a b as bs h t=>
   obtain⟨d,c,q⟩:=Vm t;obtain⟨g,f⟩:=b;exact⟨(p.1,f)::d,⟨DQ h.1,rfl,c⟩,.cons ⟨rfl,h.2⟩ q⟩
def Y3(AJ:List (TE×TE)):TE:=λσ H Q=>∀p,H p=JL->Fc AJ σ (upd H p (.dK [])) λps H2=>H2 p=YP (.dK [])/\∃i_:List (Key×V),ps=i_.map (λkv=>(kV kv.1,kv.2))/\i_.length<=15/\Q (.ref p) (upd H2 p (.dK (AD [] i_)))
def zhC(h:Hs X pos keys values AJ)(i:keys.all (·.isSome)=JQ)(j:keys.length=values.length)(h0:keys≠[])
  (k:keys.length<=15):PE X (.Dict keys values pos) (Y3 AJ):=by
 intro a s l H Q I q;have m:=I.hok.fresh (ay s.heap.objs.size);have n:=I.laid (λ_ _ q=>ag _ q) (ay _) (Tp s.heap I.big);refine wpAny_Dict_walk (knd:=vn X.prog X.w) i j h0 k (pZ (h a _ l _ _ n (q _ m)) λF G ⟨J,K,b,d,e,f,o,L,p⟩=>?_);subst o;obtain⟨r,c,t⟩:=Vm d;obtain⟨z,u,v,x,y⟩:=Ia b.hok e;cases x;refine⟨r,c,y,λA g B=>⟨.ref s.heap.objs.size,_,?_,rfl,p⟩⟩;have C:(AD [] f).length<=J3:=by
  have D:=VY f [];rw[gZ] at D;rw[kK];lia
 have E:∃q,A.get? s.heap.objs.size=YP q:=let ⟨q,_,_,hq,_⟩:=g;⟨q,hq⟩;exact LN b (by rw[e];exact eL) B E (Iq C u (t.merge .nil) g) (Nat.add_pos_left b.tk _)
structure M1(X:Cx)(o:aR)(m:aq)(apos:Pos)(e:aR)(pY:Pos):Prop where
 base:attributeBase o m X.env (eval o X.env)=eval o X.env
 few:((backTo pY (aF [e] X.env)).all (λx=>!x.1)&&(backToKw pY (keywordEach [] X.env)).all (λx=>x.1.isSome)
  && decide (([e]:List aR).length+([]:List fQ).length+(if ([]:List fQ).isEmpty then 0 else 1)<30))=JQ
 line:(apos.endLine==pY.line)=JQ
 trees:backTo pY (aF [e] X.env)=[(JU,eval e X.env)]
structure M2(X:Cx)(o:aR)(m:aq)(apos:Pos)(e f:aR)(pY:Pos):Prop where
 base:attributeBase o m X.env (eval o X.env)=eval o X.env
 few:((backTo pY (aF [e,f] X.env)).all (λx=>!x.1)&&(backToKw pY (keywordEach [] X.env)).all (λx=>x.1.isSome)
  && decide (([e,f]:List aR).length+([]:List fQ).length+(if ([]:List fQ).isEmpty then 0 else 1)<30))=JQ
 line:(apos.endLine==pY.line)=JQ
 trees:backTo pY (aF [e,f] X.env)=[(JU,eval e X.env),(JU,eval f X.env)]
section
end
section
end
end L2
namespace DL
open PySem L2
def wT{X:Cx}{b:List (af×Obj)}{c:St}{H:Hp}{s:ah}{α:Type}{M:iq}{A:aU}{m:Sem α}{Q:α->ah->Prop}{E:ae->ah->Prop}(I:L2.Inv X b c H s)(h:ao M A m (λa s'=>0<s'.toks->Q a s') (λe s'=>0<s'.toks->E e s') s):ao M A m Q E s:=ft I.tk h
structure A9(K:ak)(C:af):Prop where
 ga:dU K (.ref C) "__getattribute__" = YP (YP (.builtin "BaseException.__getattribute__"))
 nh:dU K (.ref C) "__getattr__" = YP JL
 cl:∃cd,on K C=YP cd
 at_:dU K (.ref C) "__class__" = YP (YP (.builtin "object.__class__"))
 gt:iB K (.builtin "object.__class__") "__get__" = YP (YP (.builtin "getset_descriptor.__get__"))
 tk:kE K (.builtin "object.__class__")=YP JQ
 ob:iV K C (.type "object")=YP JQ
 bx:iV K C (.type "BaseException")=YP JQ
 kit:∀c∈(["int", "bool", "str", "list", "tuple", "dict"]:List String),aW K (.ref C) (.type c)=YP JU
section
open PySem.W
variable{prog:aK}{w:aT}{A:aU}{E:ae->ah->Prop}{s:ah}{K:ak}{x C:af}{ox:Obj}
def zgF(X:K.In s.heap)(k:A9 K C)(I:c8 s.heap x ox C JL)(a:Q () s):ao M A (checkBuiltinCall "BaseException.__getattribute__" ⟨[.ref x,F_],[]⟩) Q E s:=by
 have b:builtinKind "BaseException.__getattribute__" = YP .slot:=by decide +kernel
 have c:splitId "BaseException.__getattribute__" = YP ("BaseException", "__getattribute__"):=by decide +kernel
 have g:=F.args_bexc_ga (.ref x) F_;have d:=I.type (M:=M);have e:=looks_mroIn (M:=M) X k.bx;have f:Looks M s.heap (isInstance (.ref x) (.type "BaseException")) JQ:=d.andThen e;simp only[checkBuiltinCall,b,c];refine aa (f.at ?_)
 repeat (first|wp_step|exact a)
def zgX(X:K.In s.heap)(k:A9 K C)(I:c8 s.heap x ox C JL)(h:Q (YP (.ref C)) { s with toks:=s.toks+1 }):ao (au prog w) A (getAttr? (.ref x) "__class__") Q E s:=by
 obtain⟨i,c⟩:=k.cl;have d:findObj K C JL "__class__" = YP (.bind (.builtin "getset_descriptor.__get__") (.builtin "object.__class__")):=by
  unfold findObj;rw[c,k.at_];simp only[Option.bind_some,k.gt,k.tk]
 have b:=I.type (M:=au prog w);have e:=looks_findIn (M:=au prog w) X k.ga;have f:=looks_findIn (M:=au prog w) X k.nh;have g:=looks_find (M:=au prog w) X I d;unfold getAttr? getAttrBy? getAttrBy;refine aa (wpAny_mkText (aa (fB (bG (aa (b.at (aa (e.at ?_))))))));have a:(onTheHeap (dJ C)&&gP "BaseException.__getattribute__" == gP "object.__getattribute__")=JU:=by
  rw[show(gP "BaseException.__getattribute__" == gP "object.__getattribute__")=JU from by decide +kernel];rfl
 show ao _ _ (if (onTheHeap (dJ C)&&gP "BaseException.__getattribute__" == gP "object.__getattribute__")=JQ then _ else _) _ _ _;rw[JW (by rw[a];decide)];unfold getAttrByItsOwn hookBefore;rw[JV (by rfl)];refine aa (f.at (aa (fB (bG ?_))));unfold callGetattribute boundAndCalled;rw[JW 'u'];rw[mM.ga.bind (.ref x)];refine aa (aj (iu ?_));refine lE mM.ga.plain F.entry_bexc_ga (zgF (s:={ s with toks:=s.toks+1 }) X k I ?_);unfold d9.«object.__getattribute__»;refine aa (aj (aa (aj (aa (b.at (aa (g.at ?_)))))));show ao _ _ (j0 _ _ _ _) _ _ _;unfold j0;refine aa (bG (iu (class_get (s:={ s with toks:=s.toks+1 }) X I k.ob ?_)));exact aj (aj (aj h))
def Rp(k:A9 K C):KitX K (.ref x) (.ref C) (λh=>∃ox,c8 h x ox C JL) where
 ty:=λ_ _ _ ⟨ox,I⟩=>I.type
 it:=λ_ _ X _=>by
  obtain⟨f,a⟩:=k.cl;unfold clsIn at a;split at a
  ·rename_i g i b j c;intro o p r t l q;unfold isType loadHead;exact aa (wpAny_loadPart (l _ _ (X _ _ c)) (aj q))
  ·cases a
 ne:=λh m u v n y X d=>by
  obtain⟨f,a⟩:=k.cl;refine mO.mpr λq=>?_;have e:C=m:=Value.ref.inj (beq_iff_eq.mp q);subst e;unfold clsIn at a;split at a
  ·rename_i g i b j c;have z:=(X _ _ c).symm.trans d;cases z
  ·cases a
 ca:=λX ⟨ox,I⟩ q=>zgX X k I q
end
end DL
namespace DL
open PySem L2
inductive D where
 |non
 |bl (b:Bool)
 |int (i:Int)
 |str (cs:pU)
 |lst (xs:List D)
 |tup (xs:List D)
 |own (k:Nat)
 |dct
 |exn (C:Nat)
 |tab (P:Nat)
 |map (ks:List (Sum Int pU)) (ds:List D)
 |adr (a:Nat)
 deriving Inhabited
abbrev Ow:=List (List D)
inductive R(α:Type) where
 |ok (a:α) (O:Ow)
 |exc (c:Nat) (O:Ow)
 |bad
 deriving Inhabited
def R.bnd{α β:Type}(r:R α)(k:α->Ow->R β):R β:=match r with
 |.ok a O=>k a O
 |.exc c O=>.exc c O
 |.bad=>.bad
abbrev Sg:=List (Option D)
abbrev DE:=Sg->Ow->R D
abbrev DT:=Sg->Ow->R Bool
abbrev DA:=Sg->Ow->R (List D)
section
variable(K:ak)(H:Hp)(Xf μ:List af)
def XA(K:ak)(a:af)(xs:List V):Prop:=∃(o:Obj)(c_:Array ae)(n:Nat),K.lookup a=YP o/\o.cls=.type "list"/\o.dict=JL/\o.data=.seq c_ n/\c_.size<=J3/\oO xs c_.toList
def XG(K:ak)(a:af)(xs:List V):Prop:=∃(o:Obj)(c_:Array ae)(n:Nat),K.lookup a=YP o/\o.cls=.type "tuple"/\o.data=.seq c_ n/\c_.size<=J3/\oO xs c_.toList
def LstAt(a:af)(vs:List V):Prop:=(Rd H a (.lst vs)/\a∉Xf/\a∉μ)\/XA K a vs
def TupAt(a:af)(vs:List V):Prop:=(Rd H a (.tup vs)/\a∉Xf/\a∉μ)\/XG K a vs/\∃o,K.lookup a=YP o/\o.dict=JL
end
noncomputable def kD:Sum Int pU->Key
 |.inl i=>.inl i
 |.inr cs=>.inr ⟨cs.toArray⟩
def oX(H:Hp)(P:af):Prop:=∃ps,H P=YP (.tbl ps)/\TriplesOk ps.toList/\∀pos cv,codeAmong pos ps.toList=YP cv->∃c φ,cv=.ref c/\H c=YP (.ext φ)/\∀h:aS,φ h->∃q,h.CodeRec (.ref c) q
def DM(o:HO):Prop:=∀ps,o ≠ .tbl ps
section
variable(K:ak)(H:Hp)(Xf μ:List af)
mutual
def XV:D->V->Prop
 |.non,v=>v=.non
 |.bl b,v=>v=.bl b
 |.int i,v=>v=.int i
 |.str cs,v=>v=.str ⟨cs.toArray⟩
 |.lst ds,v=>∃a vs,v=.ref a/\LstAt K H Xf μ a vs/\oM ds vs
 |.tup ds,v=>∃a vs,v=.ref a/\TupAt K H Xf μ a vs/\oM ds vs
 |.own k,v=>∃a,v=.ref a/\μ[k]?=YP a
 |.dct,v=>∃a,v=.ref a/\Rd H a (.dK [])/\a∉Xf/\a∉μ
 |.exn C,v=>∃a φ,v=.ref a/\(A9 K C/\∀h:aS,φ h->∃ox,c8 h a ox C JL)/\Rd H a (.ext φ)/\a∉Xf/\a∉μ
 |.tab P,v=>v=.bl JU/\oX H P
 |.map ks ds,v=>∃a vs,v=.ref a/\(∃o,H a=YP (.frz o (.dK ((ks.map kD).zip vs))))/\a∉Xf/\a∉μ/\ks.length=vs.length/\oM ds vs
 |.adr a,v=>v=.ref a
def oM:List D->List V->Prop
 |[],vs=>vs=[]
 |d::ds,vs=>∃v r,vs=v::r/\XV d v/\oM ds r
end
structure oK(O:Ow):Prop where
 len:μ.length=O.length
 nd:μ.Nodup
 nh:∀a∈μ,a∉Xf
 ht:∀a∈Xf,H a≠JL
 at_:∀(k:Nat)a,μ[k]?=YP a->∃ds vs,O[k]?=YP ds/\H a=YP (.lst vs)/\oM K H Xf μ ds vs
structure oN(σ:Sg)(b_:St):Prop where
 len:σ.length=b_.length
 at_:∀(i:Nat)d,σ[i]?=YP (YP d)->∃v,b_[i]?=YP (YP v)/\XV K H Xf μ d v
end
structure Ext(H:Hp)(μ:List af)(H':Hp)(e_:List af):Prop where
 pre:∃ν,e_=μ++ν
 kept:∀b o,H b=YP o->b∉μ->DM o->H' b=YP o
 fresh:∀b∈e_,b∈μ\/H b=JL
 there:∀b,H b≠JL->H' b≠JL
 tab:∀P,oX H P->oX H' P
structure Mv(H:Hp)(Xf μ:List af)(H':Hp)(hid' e_:List af):Prop where
 pre:∃ν,e_=μ++ν
 kept:∀b o,H b=YP o->b∉μ->b∉Xf->DM o->H' b=YP o
 fresh:∀b∈e_,b∈μ\/H b=JL
 hids:∀b∈hid',b∈Xf\/H b=JL
 there:∀b,H b≠JL->H' b≠JL
 tab:∀P,oX H P->oX H' P
section
variable{K:ak}{H H' H1 H2:Hp}{Xf hid' yk GQ μ e_ f_ qc:List af}
def Ext.keep(e:Ext H μ H' e_)(b:af)(o:HO)(h:H b=YP o)(n:b∉μ)(a:DM o:=by intro c z;cases z):H' b=YP o:=e.kept b o h n a
def oX.upd(t:oX H P)(f:H p=JL \/ ∃vs,H p=YP (.lst vs)):oX (L2.upd H p o) P:=by
 obtain⟨g,a,h,i⟩:=t;have j:P≠p:=by
  rintro rfl;rcases f with z|⟨vs,z⟩<;>(rw[z] at a;cases a)
 refine⟨g,by rw[qe j];exact a,h,λb k e=>?_⟩;obtain⟨c,l,rfl,d,m⟩:=i b k e;have n:c≠p:=by
  rintro rfl;rcases f with z|⟨vs,z⟩<;>(rw[z] at d;cases d)
 exact⟨c,l,rfl,by rw[qe n];exact d,m⟩
def Ext.refl:Ext H μ H μ:=⟨⟨[],by simp⟩,λ_ _ h _ _=>h,λ_ h=>.inl h,λ_ h=>h,λ_ t=>t⟩
def Ext.trans(a:Ext H μ H1 f_)(b:Ext H1 f_ H2 qc):Ext H μ H2 qc:=by
 refine⟨?_,λc o h n d=>?_,λc h=>?_,λc h=>b.there c (a.there c h),λP t=>b.tab P (a.tab P t)⟩
 ·obtain⟨x,rfl⟩:=a.pre;obtain⟨y,rfl⟩:=b.pre;exact⟨x++y,by simp⟩
 ·refine b.kept c o (a.kept c o h n d) (λm=>?_) d;rcases a.fresh c m with z|z
  ·exact n z
  ·rw[z] at h;cases h
 ·rcases b.fresh c h with z|z
  ·exact a.fresh c z
  ·by_cases f:c∈μ
   ·exact .inl f
   ·cases e:H c with
    |none=>exact .inr rfl
    |some o=>exact absurd z (a.there c (by rw[e];simp))
def Ext.mv(a:Ext H μ H' e_):Mv H Xf μ H' Xf e_:=⟨a.pre,λb o h n _ c=>a.kept b o h n c,a.fresh,λ_ h=>.inl h,a.there,a.tab⟩
def Mv.refl:Mv H Xf μ H Xf μ:=Ext.refl.mv
def Mv.trans(a:Mv H Xf μ H1 yk f_)(b:Mv H1 yk f_ H2 GQ qc):Mv H Xf μ H2 GQ qc:=by
 have d:∀c,H1 c=JL->H c=JL:=λc h=>by
  cases e:H c with
  |none=>rfl
  |some o=>exact absurd h (a.there c (by rw[e];simp))
 refine⟨?_,λc o h f g i=>?_,λc h=>?_,λc h=>?_,λc h=>b.there c (a.there c h),λP t=>b.tab P (a.tab P t)⟩
 ·obtain⟨x,rfl⟩:=a.pre;obtain⟨y,rfl⟩:=b.pre;exact⟨x++y,by simp⟩
 ·refine b.kept c o (a.kept c o h f g i) (λm=>?_) (λm=>?_) i
  ·rcases a.fresh c m with z|z
   ·exact f z
   ·rw[z] at h;cases h
  ·rcases a.hids c m with z|z
   ·exact g z
   ·rw[z] at h;cases h
 ·rcases b.fresh c h with z|z
  ·exact a.fresh c z
  ·exact .inr (d c z)
 ·rcases b.hids c h with z|z
  ·exact a.hids c z
  ·exact .inr (d c z)
def Mv.hide(h:H b=JL):Mv H Xf μ H (b::Xf) μ:=⟨⟨[],by simp⟩,λ_ _ h _ _ _=>h,λ_ m=>.inl m,λc m=>(ar.mp m).elim (λe=>.inr (by rw[e];exact h)) .inl,λ_ h=>h,λ_ t=>t⟩
def Mv.unhide:Mv H (b::Xf) μ H Xf μ:=⟨⟨[],by simp⟩,λ_ _ h _ _ _=>h,λ_ m=>.inl m,λ_ m=>.inl (al _ m),λ_ h=>h,λ_ t=>t⟩
def Rd.mv(r:Rd H a u)(e:Mv H Xf μ H' hid' e_)(c:a∉Xf)(d:a∉μ)(f:DM u:=by intro g z;cases z):Rd H' a u/\a∉hid'/\a∉e_:=by
 have b:∀o,H a=YP o->a∉hid'/\a∉e_:=by
  intro o h;constructor
  ·intro m;rcases e.hids a m with z|z
   ·exact c z
   ·rw[z] at h;cases h
  ·intro m;rcases e.fresh a m with z|z
   ·exact d z
   ·rw[z] at h;cases h
 rcases r with r|⟨o,r⟩
 ·exact⟨.inl (e.kept _ _ r d c f),b _ r⟩
 ·exact⟨.inr ⟨o,e.kept _ _ r d c (by intro g z;cases z)⟩,b _ r⟩
def LstAt.mv(h:LstAt K H Xf μ a vs)(e:Mv H Xf μ H' hid' e_):LstAt K H' hid' e_ a vs:=
 h.imp (λz=>Rd.mv z.1 e z.2.1 z.2.2) id
def TupAt.mv(h:TupAt K H Xf μ a vs)(e:Mv H Xf μ H' hid' e_):TupAt K H' hid' e_ a vs:=
 h.imp (λz=>Rd.mv z.1 e z.2.1 z.2.2) id
def LstAt.sq(h:LstAt K H Xf μ a vs):qR K H a vs:=h.elim (λz=>.inl z.1) .inr
def TupAt.sq(h:TupAt K H Xf μ a vs):rZ K H a vs:=h.elim (λz=>.inl z.1) λz=>.inr z.1
mutual
theorem XV.mv(e:Mv H Xf μ H' hid' e_):∀{d:D}{v:V},XV K H Xf μ d v->XV K H' hid' e_ d v
 |.non,_,h=>h
 |.bl _,_,h=>h
 |.int _,_,h=>h
 |.str _,_,h=>h
 | .lst ds,v,h=>by
  unfold XV at h ⊢;obtain⟨a,f,r,l,q⟩:=h;exact⟨a,f,r,l.mv e,oM.mv e q⟩
 | .tup ds,v,h=>by
  unfold XV at h ⊢;obtain⟨a,f,r,l,q⟩:=h;exact⟨a,f,r,l.mv e,oM.mv e q⟩
 | .own k,v,h=>by
  unfold XV at h ⊢;obtain⟨a,r,q⟩:=h;obtain⟨x,rfl⟩:=e.pre;exact⟨a,r,by rw[aL (am.mp q).1];exact q⟩
 | .dct,v,h=>by
  unfold XV at h ⊢;obtain⟨a,r,q,b,c⟩:=h;exact⟨a,r,Rd.mv q e b c⟩
 | .exn C,v,h=>by
  unfold XV at h ⊢;obtain⟨a,i,r,g,q,b,c⟩:=h;exact⟨a,i,r,g,Rd.mv q e b c⟩
 | .tab P,v,h=>by
  unfold XV at h ⊢;exact⟨h.1,e.tab _ h.2⟩
 | .map ks ds,v,h=>by
  unfold XV at h ⊢;obtain⟨a,f,r,⟨o,q⟩,b,c,j,d⟩:=h;obtain⟨_,m,n⟩:=Rd.mv (.inr ⟨o,q⟩) e b c;exact⟨a,f,r,⟨o,e.kept a _ q c b (by intro p z;cases z)⟩,m,n,j,oM.mv e d⟩
 |.adr _,_,h=>h
theorem oM.mv(e:Mv H Xf μ H' hid' e_):∀{ds:List D}{vs:List V},oM K H Xf μ ds vs->oM K H' hid' e_ ds vs
 |[],_,h=>h
 | d::ds,vs,h=>by
  unfold oM at h ⊢;obtain⟨v,r,a,b,c⟩:=h;exact⟨v,r,a,XV.mv e b,oM.mv e c⟩
end
def XV.ext(e:Ext H μ H' e_)(h:XV K H Xf μ d v):XV K H' Xf e_ d v:=h.mv e.mv
def oM.ext(e:Ext H μ H' e_)(h:oM K H Xf μ ds vs):oM K H' Xf e_ ds vs:=h.mv e.mv
def oN.mv(h:oN K H Xf μ σ b_)(e:Mv H Xf μ H' hid' e_):oN K H' hid' e_ σ b_:=
 ⟨h.len,λi d q=>let ⟨v,a,b⟩:=h.at_ i d q;⟨v,a,b.mv e⟩⟩
def oN.ext(h:oN K H Xf μ σ b_)(e:Ext H μ H' e_):oN K H' Xf e_ σ b_:=h.mv e.mv
def oN.set(h:oN K H Xf μ σ b_)(q:XV K H Xf μ d v)(i:Nat):oN K H Xf μ (σ.set i (YP d)) (b_.set i (YP v)):=by
 refine⟨by simp[h.len],λj x e=>?_⟩;by_cases c:i=j
 ·subst c;have f:i<σ.length:=by have:=(am.mp e).1;simpa using this
  rw[aZ f] at e;cases e;exact⟨v,by rw[aZ (by rw[<- h.len];exact f)],q⟩
 ·rw[aX c] at e;obtain⟨w,a,b⟩:=h.at_ j x e;exact⟨w,by rw[aX c];exact a,b⟩
theorem oM.length:∀{ds:List D}{vs:List V},oM K H Xf μ ds vs->ds.length=vs.length
 |[],_,h=>by unfold oM at h;subst h;rfl
 | d::ds,vs,h=>by
  obtain⟨v,r,rfl,_,a⟩:=h;simp[oM.length a]
def oM.nil:oM K H Xf μ [] []:=by unfold oM;rfl
def oM.cons(h:XV K H Xf μ d v)(t:oM K H Xf μ ds vs):oM K H Xf μ (d::ds) (v::vs):=by unfold oM;exact⟨v,vs,rfl,h,t⟩
theorem oM.append:∀{ds a:List D}{vs b:List V},oM K H Xf μ ds vs->oM K H Xf μ a b->oM K H Xf μ (ds++a) (vs++b)
 |[],_,_,_,h,t=>by unfold oM at h;subst h;exact t
 | d::ds,a,vs,b,h,t=>by
  obtain⟨v,r,rfl,c,e⟩:=h;exact .cons c (oM.append e t)
theorem oM.get:∀{ds:List D}{vs:List V}{i:Nat}{d:D},oM K H Xf μ ds vs->ds[i]?=YP d->∃v,vs[i]?=YP v/\XV K H Xf μ d v
 |[],_,_,_,_,e=>by simp at e
 | d::ds,vs,0,x,h,e=>by
  obtain⟨v,r,rfl,c,f⟩:=h;simp at e;subst e;exact⟨v,by simp,c⟩
 | d::ds,vs,i+1,x,h,e=>by
  obtain⟨v,r,rfl,c,f⟩:=h;obtain⟨z,a,b⟩:=oM.get f ⇑e;exact⟨z,by simpa using a,b⟩
theorem oM.take:∀{ds:List D}{vs:List V}(n:Nat),oM K H Xf μ ds vs->oM K H Xf μ (ds.take n) (vs.take n)
 |_,_,0,_=>by simpa using oM.nil
 |[],_,n+1,h=>by unfold oM at h;subst h;simpa using oM.nil
 | d::ds,vs,n+1,h=>by
  obtain⟨v,r,rfl,a,b⟩:=h;simpa using oM.cons a (oM.take n b)
theorem oM.drop:∀{ds:List D}{vs:List V}(n:Nat),oM K H Xf μ ds vs->oM K H Xf μ (ds.drop n) (vs.drop n)
 |_,_,0,h=>by simpa using h
 |[],_,n+1,h=>by unfold oM at h;subst h;simpa using oM.nil
 | d::ds,vs,n+1,h=>by
  obtain⟨v,r,rfl,b,a⟩:=h;simpa using oM.drop n a
theorem oM.set(q:XV K H Xf μ d v):∀{ds:List D}{vs:List V}(i:Nat),oM K H Xf μ ds vs->oM K H Xf μ (ds.set i d) (vs.set i v)
 |[],_,i,h=>by unfold oM at h;subst h;simpa using oM.nil
 | x::ds,vs,0,h=>by
  obtain⟨w,r,rfl,b,a⟩:=h;simpa using oM.cons q a
 | x::ds,vs,i+1,h=>by
  obtain⟨w,r,rfl,b,a⟩:=h;simpa using oM.cons b (oM.set q i a)
theorem oM.rev:∀{ds:List D}{vs:List V},oM K H Xf μ ds vs->oM K H Xf μ ds.reverse vs.reverse
 |[],_,h=>by unfold oM at h;subst h;simpa using oM.nil
 | d::ds,vs,h=>by
  unfold oM at h;obtain⟨v,r,rfl,a,b⟩:=h;simpa using oM.append (oM.rev b) (.cons a .nil)
def yF(b:af)(h:H b≠JL):upd H p o b≠JL:=by
 by_cases e:b=p
 ·subst e;rw[rS];simp
 ·rw[qe e];exact h
def Ext.laid(h:H p=JL):Ext H μ (upd H p o) μ:=
 ⟨⟨[],by simp⟩,λb u e _ _=>by rw[qe (sO e h)];exact e,λ_ m=>.inl m,yF,λ_ t=>t.upd (.inl h)⟩
def oK.laid(c:oK K H Xf μ O)(h:H p=JL):oK K (upd H p o) Xf μ O:=by
 refine⟨c.len,c.nd,c.nh,λa m=>?_,λk a e=>?_⟩
 ·by_cases q:a=p
  ·subst q;rw[rS];simp
  ·rw[qe q];exact c.ht a m
 ·obtain⟨d,f,g,b,i⟩:=c.at_ k a e;exact⟨d,f,g,by rw[qe (sO b h)];exact b,i.ext (.laid h)⟩
def oK.not_in(c:oK K H Xf μ O)(h:H p=JL):p∉Xf/\p∉μ:=by refine⟨λm=>c.ht p m h,λm=>?_⟩;obtain⟨k,b,e⟩:=er.mp m;obtain⟨d,f,_,a,_⟩:=c.at_ k p (by rw[am];exact⟨b,e⟩);rw[h] at a;cases a
def XV.newL(c:oK K H Xf μ O)(h:H p=JL)(q:oM K H Xf μ ds vs):XV K (upd H p (.lst vs)) Xf μ (.lst ds) (.ref p):=by exact⟨p,vs,rfl,.inl ⟨.inl rS,c.not_in h⟩,q.ext (.laid h)⟩
def XV.newT(c:oK K H Xf μ O)(h:H p=JL)(q:oM K H Xf μ ds vs):XV K (upd H p (.tup vs)) Xf μ (.tup ds) (.ref p):=by exact⟨p,vs,rfl,.inl ⟨.inl rS,c.not_in h⟩,q.ext (.laid h)⟩
def Ext.cell(h:H p=JL):Ext H μ (upd H p o) (μ++[p]):=
 ⟨⟨[p],rfl⟩,λb u e _ _=>by rw[qe (sO e h)];exact e,λb m=>by
  rcases aP.mp m with m|m
  ·exact .inl m
  ·have:b=p:=⇑m
   subst this;exact .inr h,yF,λ_ t=>t.upd (.inl h)⟩
def oK.cell(c:oK K H Xf μ O)(h:H p=JL)(q:oM K H Xf μ ds vs):oK K (upd H p (.lst vs)) Xf (μ++[p]) (O++[ds]):=by
 have d:=c.not_in h;refine⟨by simp[c.len],?_,λa m=>?_,λa m=>?_,λk a e=>?_⟩
 ·rw[fG];refine⟨c.nd,by simp,λa i b j=>?_⟩;have:b=p:=⇑j
  subst this;rintro rfl;exact d.2 i
 ·rcases aP.mp m with m|m
  ·exact c.nh a m
  ·have:a=p:=⇑m
   subst this;exact d.1
 ·by_cases q:a=p
  ·subst q;rw[rS];simp
  ·rw[qe q];exact c.ht a m
 ·by_cases f:k<μ.length
  ·rw[aL f] at e;obtain⟨l,n,o,g,r⟩:=c.at_ k a e;exact⟨l,n,by rw[aL (by rw[<- c.len];exact f)];exact o,by rw[qe (sO g h)];exact g,r.ext (.cell h)⟩
  ·rw[bu 'd'] at e;have s:k-μ.length=0:=by
    have:=(am.mp e).1;simp at this;lia
   rw[s] at e;simp at e;subst e;refine⟨ds,vs,?_,rS,q.ext (.cell h)⟩;have:k=O.length:=by have:=c.len;lia
   subst this;simp
def Ext.put(h:p∈μ)(a:∃vs,H p=YP (.lst vs)):Ext H μ (upd H p o) μ:=
 ⟨⟨[],by simp⟩,λb u e n _=>by rw[qe (by rintro rfl;exact n h)];exact e,λ_ m=>.inl m,yF,λ_ t=>t.upd (.inr a)⟩
def oK.put(c:oK K H Xf μ O)(b:μ[k]?=YP p)(q:oM K H Xf μ ds vs):oK K (upd H p (.lst vs)) Xf μ (O.set k ds):=by
 have g:=aO b;have h:∃vs,H p=YP (.lst vs):=let ⟨_,vs,_,d,_⟩:=c.at_ k p b;⟨vs,d⟩;refine⟨by simp[c.len],c.nd,c.nh,λa m=>?_,λj a e=>?_⟩
 ·by_cases q:a=p
  ·subst q;rw[rS];simp
  ·rw[qe q];exact c.ht a m
 ·by_cases f:j=k
  ·subst f;rw[b] at e;cases e;refine⟨ds,vs,?_,rS,q.ext (.put g h)⟩;rw[aZ (by rw[<- c.len];exact(am.mp b).1)]
  ·have l:a≠p:=by
    rintro rfl;obtain⟨i,n⟩:=am.mp e;obtain⟨d,o⟩:=am.mp b;exact f ((j9 c.nd).mp (n.trans o.symm))
   obtain⟨r,s,i,d,t⟩:=c.at_ j a e;exact⟨r,s,by rw[aX (bC f)];exact i,by rw[qe l];exact d,t.ext (.put g h)⟩
end
section
variable(Ex:Nat->Hp->Prop)(K:ak)
def post{α β:Type}(rel:Hp->List af->α->β->Prop)(H:Hp)(Xf μ:List af)(r:R α)(Q:β->Hp->Prop):Prop:=match r with
 |.ok d O'=>∀v H' e_,Ext H μ H' e_->oK K H' Xf e_ O'->rel H' e_ d v->Q v H'
 |.exc c O'=>∀H' e_,Ext H μ H' e_->oK K H' Xf e_ O'->Ex c H'
 |.bad=>False
abbrev qY(H:Hp)(Xf μ:List af)(r:R D)(Q:VK):Prop:=post Ex K (λH' e_ d v=>XV K H' Xf e_ d v) H Xf μ r Q
abbrev yA(H:Hp)(Xf μ:List af)(r:R Bool)(Q:Bool->Hp->Prop):Prop:=post Ex K (λ_ _ d v=>d=v) H Xf μ r Q
abbrev P8(H:Hp)(Xf μ:List af)(r:R (List D))(Q:List V->Hp->Prop):Prop:=post Ex K (λH' e_ d v=>oM K H' Xf e_ d v) H Xf μ r Q
def rd(t:DE):TE:=λb_ H Q=>∃Xf μ σ O,oN K H Xf μ σ b_/\oK K H Xf μ O/\qY Ex K H Xf μ (t σ O) Q
def yI(t:DT):TT:=λb_ H Q=>∃Xf μ σ O,oN K H Xf μ σ b_/\oK K H Xf μ O/\yA Ex K H Xf μ (t σ O) Q
def uO(t:DA):TA:=λb_ H Q=>∃Xf μ σ O,oN K H Xf μ σ b_/\oK K H Xf μ O/\P8 Ex K H Xf μ (t σ O) Q
end
section
variable{Ex:Nat->Hp->Prop}{K:ak}{H H1:Hp}{Xf μ f_:List af}
def post.ext{α β:Type}{a:Hp->List af->α->β->Prop}{r:R α}{Q:β->Hp->Prop}(h:post Ex K a H Xf μ r Q)(e:Ext H μ H1 f_):post Ex K a H1 Xf f_ r Q:=by
 cases r with
 |ok d O'=>exact λv b f g c q=>h v b f (e.trans g) c q
 |exc c O'=>exact λb f g c=>h b f (e.trans g) c
 |bad=>exact h
def post.bnd{α β b f:Type}{a:Hp->List af->α->β->Prop}{g:Hp->List af->b->f->Prop}{r:R α}{k:α->Ow->R b}{Q:f->Hp->Prop}{Q1:β->Hp->Prop}
  (h:post Ex K g H Xf μ (r.bnd k) Q)
  (i:∀d O1 v H1 f_,Ext H μ H1 f_->oK K H1 Xf f_ O1->a H1 f_ d v->post Ex K g H1 Xf f_ (k d O1) Q->Q1 v H1):post Ex K a H Xf μ r Q1:=by
 cases r with
 |ok d O'=>exact λv j l e c q=>i d O' v j l e c q (post.ext (h) e)
 |exc c O'=>exact h
 |bad=>exact h
def post.ok{α β:Type}{a:Hp->List af->α->β->Prop}{d:α}{O:Ow}{Q:β->Hp->Prop}{v:β}(h:post Ex K a H Xf μ (.ok d O) Q){H':Hp}{b:List af}(e:Ext H μ H' b)(c:oK K H' Xf b O)(q:a H' b d v):Q v H':=h v H' b e c q
def post.here{α β:Type}{a:Hp->List af->α->β->Prop}{d:α}{O:Ow}{Q:β->Hp->Prop}{v:β}(h:post Ex K a H Xf μ (.ok d O) Q)(c:oK K H Xf μ O)(q:a H μ d v):Q v H:=h v H μ .refl c q
end
structure PD(X:Cx)(Ex:Nat->Hp->Prop)(e:aR)(t:DE):Prop where
 out:PE X e (rd Ex X.K t)
structure rY(X:Cx)(Ex:Nat->Hp->Prop)(e:aR)(t:DT):Prop where
 out:PT X e (yI Ex X.K t)
structure tM(X:Cx)(Ex:Nat->Hp->Prop)(es:List aR)(t:DA):Prop where
 out:PA X es (uO Ex X.K t)
def PE.imp(h:PE X e t)(f:∀σ H Q,t' σ H Q->t σ H Q):PE X e t':=λa s σ H Q I q=>h a s σ H Q I (f σ H Q q)
def PT.imp(h:PT X e t)(f:∀σ H Q,t' σ H Q->t σ H Q):PT X e t':=λa s σ H Q I q=>h a s σ H Q I (f σ H Q q)
def PA.imp(h:PA X e t)(f:∀σ H Q,t' σ H Q->t σ H Q):PA X e t':=λb a s σ H Q I q=>h b a s σ H Q I (f σ H Q q)
def PW.imp(h:PW X e t)(f:∀σ H Q,t' σ H Q->t σ H Q):PW X e t':=λw a s σ H Q I q=>h w a s σ H Q I (f σ H Q q)
end DL
namespace DL
open PySem L2
def qC(i:Nat):DE:=λσ O=>match σ[i]? with
 |some (YP d)=>.ok d O
 |_=>.bad
def dC(d:D):DE:=λ_ O=>.ok d O
section
variable{X:Cx}{Ex:Nat->Hp->Prop}{pos:Pos}{a b c:aR}{ta tb tc:DE}
def rV{e:aR}{t:TE}{t':DE}(h:PE X e t)(f:∀Xf μ σ O d H Q,oN X.K H Xf μ σ d->oK X.K H Xf μ O->qY Ex X.K H Xf μ (t' σ O) Q->t d H Q):PD X Ex e t':=
 ⟨PE.imp h λd H Q ⟨Xf,μ,σ,O,g,i,q⟩=>f Xf μ σ O d H Q g i q⟩
def Ip{e:aR}{t:TT}{t':DT}(h:PT X e t)(f:∀Xf μ σ O d H Q,oN X.K H Xf μ σ d->oK X.K H Xf μ O->yA Ex X.K H Xf μ (t' σ O) Q->t d H Q):rY X Ex e t':=
 ⟨PT.imp h λd H Q ⟨Xf,μ,σ,O,g,i,q⟩=>f Xf μ σ O d H Q g i q⟩
def Rn(h:PA X e t)(f:∀Xf μ σ O d H Q,oN X.K H Xf μ σ d->oK X.K H Xf μ O->P8 Ex X.K H Xf μ (t' σ O) Q->t d H Q):tM X Ex e t':=
 ⟨PA.imp h λd H Q ⟨Xf,μ,σ,O,g,i,q⟩=>f Xf μ σ O d H Q g i q⟩
def rd.go{i j:Type}{l:Hp->List af->i->j->Prop}{t:DE}{Xf μ:List af}{σ:Sg}{O:Ow}{h:St}{H:Hp}{Q1:VK}{k:D->Ow->R i}{Q:j->Hp->Prop}(m:oN X.K H Xf μ σ h)(n:oK X.K H Xf μ O)
  (q:post Ex X.K l H Xf μ ((t σ O).bnd k) Q)
  (f:∀d O1 v e g,oN X.K e Xf g σ h->Ext H μ e g->oK X.K e Xf g O1->XV X.K e Xf g d v->post Ex X.K l e Xf g (k d O1) Q->Q1 v e):rd Ex X.K t h H Q1:=
 ⟨Xf,μ,σ,O,m,n,post.bnd q λd O1 v e g x c r p=>f d O1 v e g (m.ext x) x c r p⟩
def yI.go{i j:Type}{l:Hp->List af->i->j->Prop}{t:DT}{Xf μ:List af}{σ:Sg}{O:Ow}{h:St}{H:Hp}{Q1:Bool->Hp->Prop}{k:Bool->Ow->R i}{Q:j->Hp->Prop}(m:oN X.K H Xf μ σ h)(n:oK X.K H Xf μ O)
  (q:post Ex X.K l H Xf μ ((t σ O).bnd k) Q)
  (f:∀v O1 e g,oN X.K e Xf g σ h->Ext H μ e g->oK X.K e Xf g O1->post Ex X.K l e Xf g (k v O1) Q->Q1 v e):yI Ex X.K t h H Q1:=
 ⟨Xf,μ,σ,O,m,n,post.bnd q λd O1 v e g x c r p=>by
  subst r;exact f d O1 e g (m.ext x) x c p⟩
def uO.go{i j:Type}{l:Hp->List af->i->j->Prop}{t:DA}{Xf μ:List af}{σ:Sg}{O:Ow}{h:St}{H:Hp}{Q1:List V->Hp->Prop}{k:List D->Ow->R i}{Q:j->Hp->Prop}(m:oN X.K H Xf μ σ h)(n:oK X.K H Xf μ O)
  (q:post Ex X.K l H Xf μ ((t σ O).bnd k) Q)
  (f:∀d O1 v e g,oN X.K e Xf g σ h->Ext H μ e g->oK X.K e Xf g O1->oM X.K e Xf g d v->post Ex X.K l e Xf g (k d O1) Q->Q1 v e):uO Ex X.K t h H Q1:=
 ⟨Xf,μ,σ,O,m,n,post.bnd q λd O1 v e g x c r p=>f d O1 v e g (m.ext x) x c r p⟩
def Q9(f:X.N[i]?=YP x)(g:sY X.env.scope x)(e:rH x:=by decide)(h:(x==("__classdict__":aq))=JU:=by decide):PD X Ex (.Name x pos) (qC i):=
 rV (Fb f g e h) λj o p O r H Q k l q=>by
  unfold qC at q;split at q
  ·rename_i d e;obtain⟨v,m,n⟩:=k.at_ i d e;exact⟨v,m,post.here q l n⟩
  ·exact ai q
def Rz:PD X Ex (.Constant (.int i) j pos) (dC (.int i)):=rV QV λd f g O h H Q k e q=>post.here q e (by unfold XV;rfl)
def Px:PD X Ex (.Constant (.bool i) j pos) (dC (.bl i)):=rV Yq λd f g O h H Q k e q=>post.here q e (by unfold XV;rfl)
abbrev yQ:=dC .non
def QG:PD X Ex (.Constant .none j pos) yQ:=rV Ll λd f g O h H Q i e q=>post.here q e (by unfold XV;rfl)
def Rh(cs:pU)(h:x=⟨cs.toArray⟩):PD X Ex (.Constant (.str x) j pos) (dC (.str cs)):=rV Qy λd f g O i H Q k e q=>post.here q e (by unfold XV;rw[h])
def zdO(cs:pU)(d:Gl X x)(e:X.mg x=YP (.str y t))(h:y=⟨cs.toArray⟩)(f:rH x:=by decide):PD X Ex (.Name x pos) (dC (.str cs)):=
 rV (IT (v:=.str y) d e ⟨t,rfl⟩ f) λg j k O l H Q m i q=>post.here q i (by unfold XV;rw[h])
def h_(f:Ow->D->D->R D)(ta tb:DE):DE:=λσ O=>(ta σ O).bnd λx O1=>(tb σ O1).bnd λy O2=>f O2 x y
def tx(X:Cx)(Ex:Nat->Hp->Prop)(r:R2)(f:Ow->D->D->R D):Prop:=∀(H:Hp)(Xf μ:List af)(O:Ow)(x y:D)(v w:V)(Q:VK),oK X.K H Xf μ O->XV X.K H Xf μ x v->XV X.K H Xf μ y w->qY Ex X.K H Xf μ (f O x y) Q->r v w H Q
def Iz{r:R2}{f:Ow->D->D->R D}(h:tx X Ex r f)(Xf μ:List af)(σ:Sg)(O:Ow)(d:St)(H:Hp)(Q:VK)(e:oN X.K H Xf μ σ d)(g:oK X.K H Xf μ O)(q:qY Ex X.K H Xf μ (h_ f ta tb σ O) Q):
  FV r (rd Ex X.K ta) (rd Ex X.K tb) d H Q:=
 rd.go e g q λx z v A B i C j k l=>rd.go i j l λy m w n o E p s t u=>h n Xf o m x y v w Q s (k.ext p) t u
def K5(d:qS X (eG op) r)(h:tx X Ex r f)(e:PD X Ex a ta)(g:PD X Ex b tb):PD X Ex (.BinOp a op b pos) (h_ f ta tb):=
 rV (Y5 d e.out g.out) (Iz h)
def Lp(d:qS X (cz op) r)(h:tx X Ex r f)(e:PD X Ex a ta)(g:PD X Ex b tb)(i:behindInMarks op b=JU):PD X Ex (.Compare a [op] [b] pos) (h_ f ta tb):=
 rV (ziI d e.out g.out i) (Iz h)
def qt(t:DE):DT:=λσ O=>(t σ O).bnd λx O1=>match x with
 |.bl k=>.ok k O1
 |_=>.bad
def Ui(f:∀Xf μ σ O e H Q,oN X.K H Xf μ σ e->oK X.K H Xf μ O->qY Ex X.K H Xf μ (td σ O) Q->t e H Q)(Xf μ:List af)(σ:Sg)(O:Ow)(e:St)(H:Hp)(Q:Bool->Hp->Prop)
  (g:oN X.K H Xf μ σ e) (h:oK X.K H Xf μ O) (q:yA Ex X.K H Xf μ (qt td σ O) Q):PQ t e H Q:=by
 refine f Xf μ σ O e H _ g h (post.bnd q λd i v j l x c r p=>?_);cases d with
 | bl k=>
  exact⟨k,r,post.here p c rfl⟩
 |_=>exact ai p
def Bx(d:qS X (cz op) r)(h:tx X Ex r f)(e:PD X Ex a ta)(g:PD X Ex b tb)(i:behindInMarks op b=JU):rY X Ex (.Compare a [op] [b] pos) (qt (h_ f ta tb)):=
 Ip (zhq d e.out g.out i) (Ui (Iz h))
noncomputable def XU(O:Ow):D->R Bool
 |.non=>.ok JU O
 |.bl b=>.ok b O
 |.int i=>.ok (i !=0) O
 |.str cs=>if cs.length<=4000000 then .ok (!cs.isEmpty) O else .bad
 |.lst ds=>.ok (!ds.isEmpty) O
 |.tup ds=>.ok (!ds.isEmpty) O
 | .own k=>match O[k]? with
  |some ds=>.ok (!ds.isEmpty) O
  |none=>.bad
 |.dct=>.bad
 |.exn _=>.bad
 |.tab _=>.bad
 |.map _ _=>.bad
 |.adr _=>.bad
def rK(t:DE):DT:=λσ O=>(t σ O).bnd λx O1=>XU O1 x
def yG{n:Nat}(h:n<=4000000):n<=J3:=aM h 'u'
def M7{K:ak}{H:Hp}{Xf μ:List af}{ds:List D}{vs:List V}(h:oM K H Xf μ ds vs):(!ds.isEmpty) = !vs.isEmpty:=by have e:=h.length;cases ds<;>cases vs<;>simp_all
def Sl(u:PD X Ex a ta)(w:∀f,isTrue a X.env f=(do let v <- f;standAt a.pos;holding [v] (truthy v))):rY X Ex a (rK ta):=
 Ip (zdI u.out w) λg E F O G H Q y z q=>rd.go y z q λd i v j m I x c r p=>by
  cases d with
  |non=>unfold XV at r;subst r;exact⟨_,rfl,post.here p c rfl⟩
  |bl b=>unfold XV at r;subst r;exact⟨_,rfl,post.here p c rfl⟩
  |int b=>unfold XV at r;subst r;exact⟨_,rfl,post.here p c rfl⟩
  | str cs=>
   unfold XV at r;subst r;by_cases s:cs.length<=4000000
   ·have t:yA Ex X.K j g m (.ok (!cs.isEmpty) i) Q:=by
     have h:yA Ex X.K j g m (if cs.length<=4000000 then .ok (!cs.isEmpty) i else .bad) Q:=p;rw[JV s] at h;exact h
    refine⟨_,⟨?_,rfl⟩,?_⟩
    ·show cs.toArray.size<=_;rw[aQ];exact yG s
    ·have e:(((⟨cs.toArray⟩:aq).length:Int) !=0) = !cs.isEmpty:=by
      show((cs.toArray.size:Int) !=0)=_;cases cs<;>simp[bne];lia
     rw[e];exact post.here t c rfl
   ·have h:yA Ex X.K j g m (if cs.length<=4000000 then .ok (!cs.isEmpty) i else .bad) Q:=p;rw[JW s] at h;exact ai h
  | lst n=>
   obtain⟨a,o,rfl,l,q⟩:=r;exact⟨_,.inl ⟨o,l.sq,rfl⟩,by rw[<- M7 q];exact post.here p c rfl⟩
  | tup n=>
   obtain⟨a,o,rfl,l,q⟩:=r;exact⟨_,.inr (.inl ⟨o,l.sq,rfl⟩),by rw[<- M7 q];exact post.here p c rfl⟩
  | own k=>
   obtain⟨a,rfl,A⟩:=r;obtain⟨n,o,B,C,D⟩:=c.at_ k a A;have t:yA Ex X.K j g m (.ok (!n.isEmpty) i) Q:=by
    have h:yA Ex X.K j g m (match i[k]? with|some n=>.ok (!n.isEmpty) i|none=>.bad) Q:=p;rw[B] at h;exact h
   exact⟨_,.inl ⟨o,.of C,rfl⟩,by rw[<- M7 D];exact post.here t c rfl⟩
  |dct=>exact ai p
  |exn _=>exact ai p
  |tab _=>exact ai p
  |map _ _=>exact ai p
  |adr _=>exact ai p
noncomputable def fI(g:Int->Int->Option D):Ow->D->D->R D:=λO x y=>match x,y with
 | .int i,.int j=>match g i j with
  |some d=>.ok d O
  |none=>.bad
 |_,_=>.bad
def Fs(h:∀i j d,g i j=YP d->C i j/\∀K H Xf μ,XV K H Xf μ d (gv i j)):tx X Ex (rI C gv) (fI g):=by
 intro H Xf μ O x y v w Q c e f q;unfold fI at q;split at q
 ·rename_i i j;subst e;subst f;split at q
  ·rename_i d k;obtain⟨l,m⟩:=h i j d k;exact⟨i,j,rfl,rfl,l,post.here q c (m _ _ _ _)⟩
  ·exact ai q
 ·exact ai q
def IW(h:∀i j d,g i j=YP d->∀K H Xf μ,XV K H Xf μ d (gv i j)):tx X Ex (xI gv) (fI g):=by
 intro H Xf μ O x y v w Q c e f q;unfold fI at q;split at q
 ·rename_i i j;subst e;subst f;split at q
  ·rename_i d k;exact⟨i,j,rfl,rfl,post.here q c (h i j d k _ _ _ _)⟩
  ·exact ai q
 ·exact ai q
def t5:XV K H Xf μ (.int i) (.int i):=by unfold XV;rfl
def uH{K H Xf μ}{i:Bool}:XV K H Xf μ (.bl i) (.bl i):=by unfold XV;rfl
def By:XV K H Xf μ .non .non:=by unfold XV;rfl
def LM:XV K H Xf μ (.str cs) (.str ⟨cs.toArray⟩):=by unfold XV;rfl
def gB(p:Int->Int->Bool):Int->Int->Option D:=λi j=>YP (.bl (p i j))
def gI(p:Int->Int->Int):Int->Int->Option D:=λi j=>YP (.int (p i j))
def Bc:Int->Int->Option D:=gI λi j=>i-j
noncomputable def yq:Int->Int->Option D:=λi j=>if (-1000000000000000<i/\i<1000000000000000)\/(-1000000000000000<j/\j<1000000000000000) then YP (.int (i*j)) else JL
def Ap:Int->Int->Option D:=λi j=>if 0<j/\j<1073741824 then YP (.int (i/j)) else JL
def xX:Int->Int->Option D:=λi j=>if 0<j then YP (.int (i%j)) else JL
def B4:Int->Int->Option D:=λi j=>if 0<=j/\j<=1000000/\i.natAbs<2 ^ 64 then YP (.int (i ^ j.toNat)) else JL
def zP:Int->Int->Option D:=λi j=>if 0<=j/\j<=1000000/\i.natAbs<2 ^ 64 then YP (.int (i*2 ^ j.toNat)) else JL
def zim:tx X Ex (xI λi j=>.int (i-j)) (fI Bc):=IW λi j d h _ _ _ _=>by cases h;exact t5
def ziC:tx X Ex (rI pK λi j=>.int (i*j)) (fI yq):=Fs λi j d h=>by
 unfold yq at h;split at h
 ·rename_i e;cases h;exact⟨e.imp (λz=>⟨by lia,by lia⟩) λz=>⟨by lia,by lia⟩,λ_ _ _ _=>t5⟩
 ·cases h
def zic:tx X Ex (rI Pp λi j=>.int (i/j)) (fI Ap):=Fs λi j d h=>by
 unfold Ap at h;split at h
 ·rename_i e;cases h;exact⟨e,λ_ _ _ _=>t5⟩
 ·cases h
def zhz:tx X Ex (rI (λ_ j=>0<j) λi j=>.int (i%j)) (fI xX):=Fs λi j d h=>by
 unfold xX at h;split at h
 ·rename_i e;cases h;exact⟨e,λ_ _ _ _=>t5⟩
 ·cases h
def zh4:tx X Ex (rI HK λi j=>.int (i ^ j.toNat)) (fI B4):=Fs λi j d h=>by
 unfold B4 at h;split at h
 ·rename_i e;cases h;exact⟨e,λ_ _ _ _=>t5⟩
 ·cases h
def zhx:tx X Ex (rI HK λi j=>.int (i*2 ^ j.toNat)) (fI zP):=Fs λi j d h=>by
 unfold zP at h;split at h
 ·rename_i e;cases h;exact⟨e,λ_ _ _ _=>t5⟩
 ·cases h
def Df:Ow->D->D->R D:=fI (gB λi j=>decide (i<j))
def G9:Ow->D->D->R D:=fI (gB λi j=>decide (i<=j))
def G_:Ow->D->D->R D:=fI (gB λi j=>decide (j<=i))
def Lf:tx X Ex (xI λi j=>.bl (decide (i<j))) Df:=IW λi j d h _ _ _ _=>by cases h;exact uH
def QL:tx X Ex (xI λi j=>.bl (decide (i<=j))) G9:=IW λi j d h _ _ _ _=>by cases h;exact uH
def QW:tx X Ex (xI λi j=>.bl (decide (j<=i))) G_:=IW λi j d h _ _ _ _=>by cases h;exact uH
def PM:D->Bool
 |.non=>JQ
 |_=>JU
def Ku:Ow->D->D->R D:=λO x y=>match y with
 |.non=>.ok (.bl (PM x)) O
 |_=>.bad
def zhX(h:XV K H Xf μ x v):decide (v=.non)=PM x:=by
 cases x with
 |non=>unfold XV at h;subst h;rfl
 |bl _=>unfold XV at h;subst h;rfl
 |int _=>unfold XV at h;subst h;rfl
 |str _=>unfold XV at h;subst h;rfl
 |lst _=>unfold XV at h;obtain⟨_,_,rfl,_⟩:=h;rfl
 |tup _=>unfold XV at h;obtain⟨_,_,rfl,_⟩:=h;rfl
 |own _=>unfold XV at h;obtain⟨_,rfl,_⟩:=h;rfl
 |dct=>unfold XV at h;obtain⟨_,rfl,_⟩:=h;rfl
 |exn _=>unfold XV at h;obtain⟨_,_,rfl,_⟩:=h;rfl
 |tab _=>unfold XV at h;obtain⟨rfl,_⟩:=h;rfl
 |map _ _=>unfold XV at h;obtain⟨_,_,rfl,_⟩:=h;rfl
 |adr _=>unfold XV at h;subst h;rfl
def zhA:tx X Ex (λx y H Q=>y=.non/\Q (.bl (decide (x=.non))) H) Ku:=by
 intro H e g O x y v w Q c f d q;cases y with
 | non=>
  unfold XV at d;subst d;refine⟨rfl,?_⟩;rw[zhX f];exact post.here (q) c uH
 |_=>exact ai q
def Bi(t u:DE):DE:=λσ O=>(t σ O).bnd λx O1=>match x with
 |.bl JQ=>u σ O1
 |.bl JU=>.ok (.bl JU) O1
 |_=>.bad
def Kl(t u:DE):DE:=λσ O=>(t σ O).bnd λx O1=>match x with
 |.bl JQ=>.ok (.bl JQ) O1
 |.bl JU=>u σ O1
 |_=>.bad
def Ds(t:DE):DE:=λσ O=>(t σ O).bnd λx O1=>match x with
 |.bl b=>.ok (.bl (!b)) O1
 |_=>.bad
def DD(t u:DT):DT:=λσ O=>(t σ O).bnd λx O1=>if x=JQ then u σ O1 else .ok JU O1
def xD(t u:DT):DT:=λσ O=>(t σ O).bnd λx O1=>if x=JQ then .ok JQ O1 else u σ O1
def tO(t:DT):DT:=λσ O=>(t σ O).bnd λx O1=>.ok (!x) O1
def QX(d:PD X Ex a ta):PD X Ex (.BoolOp op [a] pos) ta:=⟨Zt d.out⟩
def ZF{e:List aR}(g:PD X Ex a ta)(h:PD X Ex (.BoolOp .And (b::e) pos) tb):PD X Ex (.BoolOp .And (a::b::e) pos) (Bi ta tb):=
 rV (ZT g.out h.out) λf s i O t H Q j l q=>rd.go j l q λd m v u n o x c r p=>by
  cases d with
  | bl k=>
   unfold XV at r;subst r;refine⟨k,rfl,?_⟩;cases k with
   |true=>rw[JV rfl];exact⟨f,n,i,m,o,c,p⟩
   |false=>rw[JW cO];exact post.here p c uH
  |_=>exact ai p
def PV{e:List aR}(g:PD X Ex a ta)(h:PD X Ex (.BoolOp .Or (b::e) pos) tb):PD X Ex (.BoolOp .Or (a::b::e) pos) (Kl ta tb):=
 rV (YV g.out h.out) λf s i O t H Q j l q=>rd.go j l q λd m v u n o x c r p=>by
  cases d with
  | bl k=>
   unfold XV at r;subst r;refine⟨k,rfl,?_⟩;cases k with
   |true=>rw[JV rfl];exact post.here p c uH
   |false=>rw[JW cO];exact⟨f,n,i,m,o,c,p⟩
  |_=>exact ai p
def Rk(e:PD X Ex a ta):PD X Ex (.UnaryOp .Not a pos) (Ds ta):=
 rV (Zs e.out) λf i j O l H Q g h q=>rd.go g h q λd m v n o s x c r p=>by
  cases d with
  |bl k=>unfold XV at r;subst r;exact⟨k,rfl,post.here p c uH⟩
  |_=>exact ai p
structure vt(X:Cx)(Ex:Nat->Hp->Prop)(e:aR)(t:DT):Prop where
 out:PW X e (yI Ex X.K t)
def vt.pt(h:vt X Ex e t):rY X Ex e t:=⟨L2.PW.pt h.out⟩
def Rv{e:aR}{t:TT}{t':DT}(h:PW X e t)(f:∀Xf μ σ O d H Q,oN X.K H Xf μ σ d->oK X.K H Xf μ O->yA Ex X.K H Xf μ (t' σ O) Q->t d H Q):vt X Ex e t':=
 ⟨PW.imp h λd H Q ⟨Xf,μ,σ,O,g,i,q⟩=>f Xf μ σ O d H Q g i q⟩
def zii{d:List aR}{f g:DT}(h:rY X Ex a f)(i:vt X Ex (.BoolOp .And (b::d) pos) g):vt X Ex (.BoolOp .And (a::b::d) pos) (DD f g):=
 Rv (YO h.out i.out) λe s j O t H Q l m q=>yI.go l m q λk n u o r x c p=>by
  cases k with
  |true=>rw[JV rfl];exact⟨e,o,j,n,r,c,p⟩
  |false=>rw[JW cO];exact post.here p c rfl
def RA{d:List aR}{f g:DT}(h:rY X Ex a f)(i:vt X Ex (.BoolOp .Or (b::d) pos) g):vt X Ex (.BoolOp .Or (a::b::d) pos) (xD f g):=
 Rv (YG h.out i.out) λe s j O t H Q l m q=>yI.go l m q λk n u o r x c p=>by
  cases k with
  |true=>rw[JV rfl];exact post.here p c rfl
  |false=>rw[JW cO];exact⟨e,o,j,n,r,c,p⟩
def Us(d:rY X Ex a tA):vt X Ex (.BoolOp .And [a] pos) tA:=⟨ziE d.out⟩
def R8(d:rY X Ex a tA):vt X Ex (.BoolOp .Or [a] pos) tA:=⟨Zw d.out⟩
def Sm{d:DT}(e:rY X Ex a d):rY X Ex (.UnaryOp .Not a pos) (tO d):=
 Ip (YQ e.out) λf i j O l H Q g h q=>yI.go g h q λk m n o r x c p=>post.here p c rfl
noncomputable def Lc(f g:Ow->D->D->R D)(ta tb tc:DE):DE:=λσ O=>(ta σ O).bnd λx O1=>(tb σ O1).bnd λy O2=>(f O2 x y).bnd λz O3=>match z with
 |.bl JQ=>(tc σ O3).bnd λw O4=>g O4 y w
 |.bl JU=>.ok (.bl JU) O3
 |_=>.bad
def zdT{e i:CmpOp}{r j:R2}{f g:Ow->D->D->R D}(s:qS X (cz e) r)(h:tx X Ex r f)(t:qS X (cz i) j)(h':tx X Ex j g)(A:PD X Ex a ta)(B:PD X Ex b tb)(C:PD X Ex c tc)
  (E:lastMarks [e,i] [b,c]=JU:=by with_unfolding_all rfl):PD X Ex (.Compare a [e,i] [b,c] pos) (Lc f g ta tb tc):=
 rV (zeh s t A.out B.out C.out E) λd μ σ O b_ H Q F G q=>rd.go F G q λx O1 v H1 f_ I x2 J K L=>rd.go I J L λy M w N P S T U l V=>
  h N d P M x y v w _ U (K.ext T) l (post.bnd V λz O3 u H3 zO m n o p=>by
   cases z with
   | bl k=>
    unfold XV at o;subst o;refine⟨k,rfl,?_⟩;cases k with
    |true=>rw[JV rfl];exact rd.go (S.ext m) n p λW Y Z H4 Xu e5 x5 c5 d5 q5=>h' H4 d Xu Y y W w Z Q c5 ((l.ext m).ext x5) d5 q5
    |false=>rw[JW cO];exact post.here p n uH
   |_=>exact ai p)
def d_:DA:=λ_ O=>.ok [] O
def a_(t:DE)(u:DA):DA:=λσ O=>(t σ O).bnd λx O1=>(u σ O1).bnd λxs O2=>.ok (x::xs) O2
def Sh:tM X Ex [] d_:=Rn Br λd f g O h H Q i e q=>post.here q e .nil
def Th{d:List aR}{t:DA}(e:PD X Ex a ta)(f:tM X Ex d t)(g:aF (a::d) X.env=(JU,eval a X.env)::aF d X.env:=by rfl):tM X Ex (a::d) (a_ ta t):=
 Rn (yb e.out f.out g) λh u z O A H Q i j q=>rd.go i j q λx B v C D k E l m n=>uO.go k l n λy F w G I J o p r s=>post.here s p (.cons (m.ext o) r)
def uE(t:DA):DE:=λσ O=>(t σ O).bnd λxs O1=>if xs.length<=4000000 then .ok (.tup xs) O1 else .bad
def sH(t:DA):DE:=λσ O=>(t σ O).bnd λxs O1=>if xs.length<=4000000 then .ok (.lst xs) O1 else .bad
def Bn(t:DA):DE:=λσ O=>(t σ O).bnd λxs O1=>if xs.length<=4000000 then .ok (.own O1.length) (O1++[xs]) else .bad
def post.iteN{α β:Type}{K:ak}{H:Hp}{Xf μ:List af}{d:Hp->List af->α->β->Prop}{Q:β->Hp->Prop}{b:Bool}{r:R α}(h:post Ex K d H Xf μ (if b=JQ then .bad else r) Q):b=JU/\post Ex K d H Xf μ r Q:=by
 cases b with
 |true=>exact ai h
 |false=>exact⟨rfl,h⟩
def post.ite{α β:Type}{K:ak}{H:Hp}{Xf μ:List af}{d:Hp->List af->α->β->Prop}{Q:β->Hp->Prop}{c:Prop}[Decidable c]{r:R α}(h:post Ex K d H Xf μ (if c then r else .bad) Q):c/\post Ex K d H Xf μ r Q:=by
 by_cases e:c
 ·rw[JV e] at h;exact⟨e,h⟩
 ·rw[JW e] at h;exact ai h
def Qw(h:tM X Ex es t):PD X Ex (.Tuple es x1 pos) (uE t):=
 rV (QU h.out) λi m n O o H Q j k q=>uO.go j k q λr s u v w x y f g d=>by
  obtain⟨l,d⟩:=post.ite d;exact⟨by rw[<- g.length];exact yG l,λp e=>post.ok d (.laid e) (f.laid e) (XV.newT f e g)⟩
def QO(h:tM X Ex es t):PD X Ex (.List es pos) (sH t):=
 rV (Q8 h.out) λi m n O o H Q j k q=>uO.go j k q λr s u v w x y f g d=>by
  obtain⟨l,d⟩:=post.ite d;exact⟨by rw[<- g.length];exact yG l,λp e=>post.ok d (.laid e) (f.laid e) (XV.newL f e g)⟩
def FN(h:μ.length=n):XV K H Xf (μ++[p]) (.own n) (.ref p):=by exact⟨p,rfl,by rw[<- h];simp⟩
def zil(h:tM X Ex es t):PD X Ex (.List es pos) (Bn t):=
 rV (Q8 h.out) λi m n O o H Q j k q=>uO.go j k q λr s u v w x y e f d=>by
  obtain⟨l,d⟩:=post.ite d;exact⟨by rw[<- f.length];exact yG l,λp g=>post.ok d (.cell g) (e.cell g f) (FN e.len)⟩
end
inductive Src where
 |val (ds:List D)
 |own (k:Nat)
 |zip (a b:Src)
 deriving Inhabited
noncomputable def Src.get:Src->Ow->Nat->Option D
 |.val ds,_,i=>ds[i]?
 | .own k,O,i=>match O[k]? with
  |some ds=>ds[i]?
  |none=>JL
 | .zip a b,O,i=>match a.get O i,b.get O i with
  |some x,YP y=>YP (.tup [x,y])
  |_,_=>JL
noncomputable def Src.size:Src->Ow->Nat
 |.val ds,_=>ds.length
 | .own k,O=>match O[k]? with
  |some ds=>ds.length
  |none=>0
 |.zip a b,O=>min (a.size O) (b.size O)
abbrev DI:=Sg->Ow->R Src
def oU(K:ak)(J:It)(src:Src)(H:Hp)(Xf μ:List af):Prop:=∀hid' H' e_ O',Mv H Xf μ H' hid' e_->oK K H' hid' e_ O'->∀i,
 match src.get O' i with
 |some d=>J.go i H'/\∀x uk,J.yld i H' x uk->Ext H' e_ uk e_/\oK K uk hid' e_ O'/\XV K uk hid' e_ d x
 |none=>J.stop i H'
noncomputable def rdI(Ex:Nat->Hp->Prop)(K:ak)(t:DI):TI:=λb_ H Rr=>∃Xf μ σ O,oN K H Xf μ σ b_/\oK K H Xf μ O/\post Ex K (λH' e_ s J=>oU K J s H' Xf e_) H Xf μ (t σ O) Rr
structure ui(X:Cx)(Ex:Nat->Hp->Prop)(tg iter:aR)(t:DI):Prop where
 out:PI X tg iter (rdI Ex X.K t)
def oU.mv(h:oU K J src H Xf μ)(e:Mv H Xf μ H1 yk f_):oU K J src H1 yk f_:=
 λa b d f m c=>h a b d f (e.trans m) c
def oU.val(l:LstAt K H Xf μ a vs)(q:oM K H Xf μ ds vs):oU K (OU K a) (.val ds) H Xf μ:=by
 intro f k n o m c i;have b:=(l.mv m).sq;have h:=q.mv m;show match ds[i]? with|some d=>_|none=>_
 cases e:ds[i]? with
 | some d=>
  obtain⟨v,g,j⟩:=h.get e;refine⟨⟨vs,v,b,g⟩,λx p y=>?_⟩;obtain⟨rfl,y⟩:=y;have:=y vs b;rw[g] at this;cases this;exact⟨.refl,c,j⟩
 | none=>
  refine⟨vs,b,?_⟩;have:=aY.mp e;rw[<- q.length];exact this
def oU.tup(l:TupAt K H Xf μ a vs)(q:oM K H Xf μ ds vs):oU K (OS K a) (.val ds) H Xf μ:=by
 intro f k n o m c i;have b:=(l.mv m).sq;have h:=q.mv m;show match ds[i]? with|some d=>_|none=>_
 cases e:ds[i]? with
 | some d=>
  obtain⟨v,g,j⟩:=h.get e;refine⟨⟨vs,v,b,g⟩,λx p y=>?_⟩;obtain⟨rfl,y⟩:=y;have:=y vs b;rw[g] at this;cases this;exact⟨.refl,c,j⟩
 | none=>
  refine⟨vs,b,?_⟩;have:=aY.mp e;rw[<- q.length];exact this
def oU.own(h:μ[k]?=YP a):oU K (OU K a) (.own k) H Xf μ:=by
 intro j o w p m c i;obtain⟨q,rfl⟩:=m.pre;have r:(μ++q)[k]?=YP a:=by rw[aL (am.mp h).1];exact h
 obtain⟨b,f,s,t,l⟩:=c.at_ k a r;have g:qR K o a f:=.of t;show match (match p[k]? with|some b=>b[i]?|none=>JL) with|some d=>_|none=>_
 rw[s];show match b[i]? with|some d=>_|none=>_
 cases e:b[i]? with
 | some d=>
  obtain⟨v,n,u⟩:=l.get e;refine⟨⟨f,v,g,n⟩,λx z y=>?_⟩;obtain⟨rfl,y⟩:=y;have:=y f g;rw[n] at this;cases this;exact⟨.refl,c,u⟩
 | none=>
  refine⟨f,g,?_⟩;have:=aY.mp e;rw[<- l.length];exact this
def OT(x:aq):It:=⟨λi _=>i<x.cps.size,λi H v H'=>H'=H/\∃c,x.cps[i]?=YP c/\v=.str ⟨#[c]⟩,λi _=>x.cps.size<=i⟩
def oU.str{K:ak}{H:Hp}{Xf μ:List af}{cs:pU}:oU K (OT ⟨cs.toArray⟩) (.val (cs.map λc=>.str [c])) H Xf μ:=by
 intro a h j k m c i;show match (cs.map λc=>D.str [c])[i]? with|some d=>_|none=>_
 rw[bF];cases e:cs[i]? with
 | some d=>
  have f:=(am.mp e).1;refine⟨by show i<cs.toArray.size;simpa using f,λx l y=>?_⟩;obtain⟨rfl,z,g,rfl⟩:=y;have b:=g;rw[i8,e] at b;cases b;refine⟨.refl,c,?_⟩;rfl
 | none=>
  have:=aY.mp e;show cs.toArray.size<=i;simpa using this
def oU.rng:oU K (Kq lo n) (.val ((bE n).map λi=>.int (lo+(i:Nat)))) H Xf μ:=by
 intro b e f g m c i;show match ((bE n).map λi=>D.int (lo+(i:Nat)))[i]? with|some d=>_|none=>_
 rw[bF];by_cases a:i<n
 ·rw[lY a];refine⟨a,λx h y=>?_⟩;obtain⟨rfl,rfl⟩:=y;exact⟨.refl,c,t5⟩
 ·rw[aY.mpr ⇑a];exact j4.mp a
def zea(x:aq)(t:Tok)(it:af):yv P w K tg (OT x) [it] it (λi h=>h.IsStrIter it (strIterType x) x t i) where
 mem:=by simp
 obj:=λi h a b j=>by
  have e:b=it:=⇑j
  subst e;obtain⟨o,e,c,d⟩:=a;exact⟨o,e,λv z=>by rw[d] at z;cases z⟩
 keep:=λi h f a k=>by
  obtain⟨o,e,c,d⟩:=a;exact⟨o,k it 'k' o e,c,d⟩
 item:=by
  intro X R S T G i g s J H E I p a L;subst R S T;obtain⟨q,r,W,B,C,D⟩:=p it 'k';obtain⟨U,l⟩:∃c,x.cps[i]?=YP c:=⟨_,a8 (L)⟩;have M:∀(F:String),(["enumerate", "zip", "dict_itemiterator", "dict_reverseitemiterator", "odict_iterator", "itertools.zip_longest", "itertools.pairwise"].contains F=JU)->strIterType x=F->∀f,f.IsStrIter it F x t (i+1)->de it s.heap f->
    ∃u,YP (kC ⟨#[U]⟩ s.toks)=YP u/\ao (au X.prog X.w) X.A (letOwnedTupleGo tg (.ref it) u) (λ_ V=>∃y N,Inv X g J N V/\RelV y u/\(OT x).yld i H y N/\V.heap.IsStrIter it (strIterType x) x t (i+1)/\∀b∈[it],N b=JL) E { s with heap:=f,toks:=s.toks+1 }:=by
   intro F Y Z f m n;have I1:Inv X g J H { s with heap:=f,toks:=s.toks+1 }:=I.turned (λb o j e=>(n.2 b j).trans e) q r B C D;obtain⟨o,e,c,d⟩:=id m;refine⟨_,rfl,EW e c d Y ⟨.str ⟨#[U]⟩,H,I1,⟨_,rfl⟩,⟨rfl,_,l,rfl⟩,?_,λb j=>(p b j).1⟩⟩;rw[Z];exact m
  unfold strIterType at a M ⊢;split at a
  ·rename_i O;exact wpAny_pyNext_ascii_item a l λf m n=>M "str_ascii_iterator" 'u' (by rw[JV O]) f m n
  ·rename_i O;exact wpAny_pyNext_wide_item a l λf m n=>M "str_iterator" 'u' (by rw[JW O]) f m n
 done:=by
  intro X R S T G i g s J H E I p a L;obtain⟨q,r,W,B,C,D⟩:=p it 'k';have l:x.cps[i]?=JL:=by
   have:x.cps.size<=i:=L;simp[this]
  unfold strIterType at a;split at a
  ·exact wpAny_pyNext_ascii_end (I.ok.hd G) a l λf Q=>⟨rfl,I.turned (λb o j e=>Q b o j e) q r B C D⟩
  ·exact wpAny_pyNext_wide_end (I.ok.hd G) a l λf Q=>⟨rfl,I.turned (λb o j e=>Q b o j e) q r B C D⟩
 self:=λ_ _ s _ _ a h=>by
  unfold strIterType at a;split at a
  ·exact wpAny_pyIter_striter_ascii a h
  ·exact wpAny_pyIter_striter_wide a h
section
variable{X:Cx}{Ex:Nat->Hp->Prop}{pos:Pos}{a b c tg:aR}{ta:DE}
noncomputable def P0(O:Ow):D->R Src
 |.lst ds=>.ok (.val ds) O
 |.tup ds=>.ok (.val ds) O
 |.str cs=>.ok (.val (cs.map λc=>.str [c])) O
 |.own k=>.ok (.own k) O
 |_=>.bad
def qA(t:DE):DI:=λσ O=>(t σ O).bnd λx O1=>P0 O1 x
def RT(G:PD X Ex a ta):ui X Ex tg a (qA ta):=by
 refine⟨?_⟩;rintro m s L H M I ⟨f,U,V,O,N,P,q⟩;refine pZ (G.out m s L H _ I (rd.go N P q (Q1:=λv g=>∃f n w d,oK X.K g f n w/\XV X.K g f n d v/\post Ex X.K (λQ R s J=>oU X.K J s Q f R) g f n (P0 w d) M)
  λd w v g n W x c r p=>⟨f,n,w,d,c,r,p⟩)) λu h ⟨v,g,i,z,f,n,w,d,c,r,p⟩=>?_
 have j:∀(b:af),b∈[h.heap.objs.size]->tj X m g b:=λb S=>by
  have e:b=h.heap.objs.size:=⇑S
  subst e;exact i.fpOk (ay _) (i.hok.fresh (ay _))
 cases d with
 | lst A=>
  obtain⟨a,B,rfl,l,q⟩:=r;cases z;obtain⟨C,D,y,E⟩:=i.list l.sq;refine fH y.isList ?_;exact⟨h.heap.objs.size,[h.heap.objs.size],_,_,g,rfl,i.kept λb o e=>ag _ e,Uy a _,⟨_,aE _ rfl,rfl,rfl⟩,j,post.here p c (.val l q)⟩
 | tup A=>
  obtain⟨a,B,rfl,l,q⟩:=r;cases z;obtain⟨C,D,y,E⟩:=i.tuple l.sq;refine f7 (y) ?_;exact⟨h.heap.objs.size,[h.heap.objs.size],_,_,g,rfl,i.kept λb o e=>ag _ e,zat a _,⟨_,aE _ rfl,rfl,rfl⟩,j,post.here p c (.tup l q)⟩
 | str cs=>
  subst r;obtain⟨t,rfl⟩:=z;refine wpAny_pyIter_strU ?_;exact⟨h.heap.objs.size,[h.heap.objs.size],_,_,g,rfl,i.kept λb o e=>ag _ e,zea ⟨cs.toArray⟩ t _,⟨_,aE _ rfl,rfl,rfl⟩,j,post.here p c .str⟩
 | own k=>
  obtain⟨a,rfl,F⟩:=r;cases z;obtain⟨A,B,Y,T,Z⟩:=c.at_ k a F;obtain⟨C,D,y,E⟩:=i.list (.of T);refine fH y.isList ?_;exact⟨h.heap.objs.size,[h.heap.objs.size],_,_,g,rfl,i.kept λb o e=>ag _ e,Uy a _,⟨_,aE _ rfl,rfl,rfl⟩,j,post.here p c (.own F)⟩
 |_=>exact ai p
noncomputable def QT(lo hi:Int):Src:=.val ((bE (hi-lo).toNat).map λi=>.int (lo+(i:Nat)))
def tD(t:DA):DI:=λσ O=>(t σ O).bnd λxs O1=>match xs with
 |[.int j]=>if -1000000<=j/\j<=1000000 then .ok (QT 0 j) O1 else .bad
 |_=>.bad
def PI.imp(h:PI X tg iter t)(f:∀σ H Q,t' σ H Q->t σ H Q):PI X tg iter t':=λd s σ H Q I q=>h d s σ H Q I (f σ H Q q)
def ux(h:oM K H Xf μ [d] vs):∃v,vs=[v]/\XV K H Xf μ d v:=by obtain⟨v,r,rfl,e,f⟩:=h;subst f;exact⟨v,rfl,e⟩
def EX(h:oM K H Xf μ [d,e] vs):∃v w,vs=[v,w]/\XV K H Xf μ d v/\XV K H Xf μ e w:=by obtain⟨v,r,rfl,f,g⟩:=h;obtain⟨w,rfl,i⟩:=ux g;exact⟨v,w,rfl,f,i⟩
def Vz(f:Gl X "range")(g:X.mg "range" = JL)(h:tM X Ex [a] t)(i:aF [a] X.env=[(JU,eval a X.env)]:=by rfl):ui X Ex tg (.Call (.Name "range" p) [a] [] pos) (tD t):=
 ui.mk <| PI.imp (zcE f g h.out i) λn H Q ⟨k,o,s,O,l,m,q⟩=>uO.go l m q λd u w y z A x c r p=>by
  split at p
  ·rename_i j;obtain⟨⟨B,C⟩,p⟩:=post.ite p;obtain⟨v,rfl,e⟩:=ux r;unfold XV at e;subst e;refine⟨j,rfl,by lia,by lia,?_⟩;have:=post.here p c (oU.rng);simpa using this
  ·exact ai p
end
inductive RS where
 |nx (σ:Sg) (O:Ow)
 |rt (d:D) (O:Ow)
 |bk (σ:Sg) (O:Ow)
 |ct (σ:Sg) (O:Ow)
 |exc (c:Nat) (O:Ow)
 |bad
 deriving Inhabited
abbrev DS:=Sg->Ow->RS
def R.bnS{α:Type}(r:R α)(k:α->Ow->RS):RS:=match r with
 |.ok a O=>k a O
 |.exc c O=>.exc c O
 |.bad=>.bad
section
variable(Ex:Nat->Hp->Prop)(K:ak)
def oR(H:Hp)(Xf μ:List af)(r:RS)(E:yU):Prop:=match r with
 |.nx σ O=>∀b_ H' e_,Ext H μ H' e_->oN K H' Xf e_ σ b_->oK K H' Xf e_ O->E.nx b_ H'
 |.rt d O=>∀v H' e_,Ext H μ H' e_->oK K H' Xf e_ O->XV K H' Xf e_ d v->E.rt v H'
 |.bk σ O=>∀b_ H' e_,Ext H μ H' e_->oN K H' Xf e_ σ b_->oK K H' Xf e_ O->E.bk b_ H'
 |.ct σ O=>∀b_ H' e_,Ext H μ H' e_->oN K H' Xf e_ σ b_->oK K H' Xf e_ O->E.ct b_ H'
 |.exc c O=>∀H' e_,Ext H μ H' e_->oK K H' Xf e_ O->Ex c H'
 |.bad=>False
def JS(t:DS):TS:=λE b_ H=>∃Xf μ σ O,oN K H Xf μ σ b_/\oK K H Xf μ O/\oR Ex K H Xf μ (t σ O) E
end
structure vd(X:Cx)(Ex:Nat->Hp->Prop)(st:dh)(t:DS):Prop where
 out:PS X st (JS Ex X.K t)
structure sQ(X:Cx)(Ex:Nat->Hp->Prop)(st:List dh)(t:DS):Prop where
 out:sZ X st (JS Ex X.K t)
def PS.imp(h:PS X st t)(f:∀E σ H,t' E σ H->t E σ H):PS X st t':=λa s σ H D I q=>h a s σ H D I (f D σ H q)
def sZ.imp(h:sZ X st t)(f:∀E σ H,t' E σ H->t E σ H):sZ X st t':=λa s σ H D I q=>h a s σ H D I (f D σ H q)
section
variable{Ex:Nat->Hp->Prop}{K:ak}{H H1:Hp}{Xf μ f_:List af}
def oR.ext{r:RS}{E:yU}(h:oR Ex K H Xf μ r E)(e:Ext H μ H1 f_):oR Ex K H1 Xf f_ r E:=by
 cases r with
 |nx σ O=>exact λj f g i a b=>h j f g (e.trans i) a b
 |bk σ O=>exact λj f g i a b=>h j f g (e.trans i) a b
 |ct σ O=>exact λj f g i a b=>h j f g (e.trans i) a b
 |rt d O=>exact λv f g i a b=>h v f g (e.trans i) a b
 |exc c O=>exact λf g i a=>h f g (e.trans i) a
 |bad=>exact h
def oR.bnS{α β:Type}{a:Hp->List af->α->β->Prop}{r:R α}{k:α->Ow->RS}{E:yU}{Q1:β->Hp->Prop}(h:oR Ex K H Xf μ (r.bnS k) E)
  (b:∀d O1 v H1 f_,Ext H μ H1 f_->oK K H1 Xf f_ O1->a H1 f_ d v->oR Ex K H1 Xf f_ (k d O1) E->Q1 v H1):post Ex K a H Xf μ r Q1:=by
 cases r with
 |ok d O'=>exact λv f g e c q=>b d O' v f g e c q (oR.ext (h) e)
 |exc c O'=>exact h
 |bad=>exact h
end
section
variable{X:Cx}{Ex:Nat->Hp->Prop}{pos:Pos}{a b c e tg:aR}{tb tc te:DE}
def AE{g:dh}{t:TS}{t':DS}(h:PS X g t)(f:∀Xf μ σ O E d H,oN X.K H Xf μ σ d->oK X.K H Xf μ O->oR Ex X.K H Xf μ (t' σ O) E->t E d H):vd X Ex g t':=
 ⟨PS.imp h λE d H ⟨Xf,μ,σ,O,i,j,q⟩=>f Xf μ σ O E d H i j q⟩
def LU(h:sZ X st t)(f:∀Xf μ σ O E d H,oN X.K H Xf μ σ d->oK X.K H Xf μ O->oR Ex X.K H Xf μ (t' σ O) E->t E d H):sQ X Ex st t':=
 ⟨sZ.imp h λE d H ⟨Xf,μ,σ,O,g,i,q⟩=>f Xf μ σ O E d H g i q⟩
def rd.goS{t:DE}{Xf μ:List af}{σ:Sg}{O:Ow}{i:St}{H:Hp}{Q1:VK}{k:D->Ow->RS}{E:yU}(j:oN X.K H Xf μ σ i)(l:oK X.K H Xf μ O)
  (q:oR Ex X.K H Xf μ ((t σ O).bnS k) E)
  (f:∀d O1 v g h,oN X.K g Xf h σ i->Ext H μ g h->oK X.K g Xf h O1->XV X.K g Xf h d v->oR Ex X.K g Xf h (k d O1) E->Q1 v g):rd Ex X.K t i H Q1:=
 ⟨Xf,μ,σ,O,j,l,oR.bnS q λd O1 v g h x c r p=>f d O1 v g h (j.ext x) x c r p⟩
def yI.goS{t:DT}{Xf μ:List af}{σ:Sg}{O:Ow}{i:St}{H:Hp}{Q1:Bool->Hp->Prop}{k:Bool->Ow->RS}{E:yU}(j:oN X.K H Xf μ σ i)(l:oK X.K H Xf μ O)
  (q:oR Ex X.K H Xf μ ((t σ O).bnS k) E)
  (f:∀v O1 g h,oN X.K g Xf h σ i->Ext H μ g h->oK X.K g Xf h O1->oR Ex X.K g Xf h (k v O1) E->Q1 v g):yI Ex X.K t i H Q1:=
 ⟨Xf,μ,σ,O,j,l,oR.bnS q λd O1 v g h x c r p=>by
  subst r;exact f d O1 g h (j.ext x) x c p⟩
def rF:DS:=λσ O=>.nx σ O
def pV(t u:DS):DS:=λσ O=>match t σ O with
 |.nx σ' O'=>u σ' O'
 |r=>r
def S6:sQ X Ex [] rF:=LU RQ λd f j O E g H h i q=>q g H f .refl h i
def qF{i:dh}{f:List dh}{t u:DS}(k:vd X Ex i t)(l:sQ X Ex f u):sQ X Ex (i::f) (pV t u):=
 LU (D4 k.out l.out) λh m j O E s H n o q=>by
  refine⟨h,m,j,O,n,o,?_⟩;unfold pV at q;cases g:t j O with
  | nx σ' O'=>
   rw[g] at q;exact λv w p r a b=>⟨h,p,σ',O',a,b,q.ext r⟩
  |rt d O'=>rw[g] at q;exact q
  |bk σ' O'=>rw[g] at q;exact q
  |ct σ' O'=>rw[g] at q;exact q
  |exc c O'=>rw[g] at q;exact q
  |bad=>rw[g] at q;exact q
def qW(d:vd X Ex st t):sQ X Ex [st] t:=⟨SV d.out⟩
def qr(t:DE):DS:=λσ O=>(t σ O).bnS λd O1=>.rt d O1
def Si(f:PD X Ex e te):vd X Ex (.Return (YP e) pos) (qr te):=
 AE (zjB f.out) λg l m O E n H h i q=>rd.goS h i q λd o v j k s x c r p=>p v j k .refl c r
def rL(c:DT)(t u:DS):DS:=λσ O=>(c σ O).bnS λb O1=>if b=JQ then t σ O1 else u σ O1
def Qz{c:aR}{x y:List dh}{tc:DT}{t u:DS}(j:rY X Ex c tc)(l:sQ X Ex x t)(m:sQ X Ex y u):vd X Ex (.If c x y pos) (rL tc t u):=
 AE (YF j.out l.out m.out) λd r f O E s H n o q=>yI.goS n o q λk g v h i x c p=>by
  cases k with
  |true=>rw[JV rfl];exact⟨d,h,f,g,i,c,p⟩
  |false=>rw[JW cO];exact⟨d,h,f,g,i,c,p⟩
def ET:DS:=λ_ _=>.bad
def Mc:sQ X Ex st ET:=LU zb8 λd f g O E h H i j q=>q
def yX(t:DE):DS:=λσ O=>(t σ O).bnS λ_ O1=>.nx σ O1
def Uh(f:PD X Ex e te)(g:swapsWith e JL pos.line X.env=pure JU:=by rfl):vd X Ex (.Expr e pos) (yX te):=
 AE (Sa f.out g) λh o s O E i H j k q=>rd.goS j k q λd t v l m n x c r p=>p i l m .refl n c
def qo(i:Nat)(t:DE):DS:=λσ O=>(t σ O).bnS λd O1=>.nx (σ.set i (YP d)) O1
def IU(f:X.N.Nodup)(hi:X.N[i]?=YP x)(g:Loc X.env.scope x)(h:PD X Ex e te)(j:swapsWith e (YP (.Name x pos')) pos.line X.env=pure JU:=by rfl)
  (k:X.fn x=JQ\/X.env.scope.names.lookup x=YP .local:=by first|exact .inl rfl|exact .inr rfl):vd X Ex (.Assign [.Name x pos'] e pos) (qo i te):=
 AE (Lk f hi g h.out j k) λl w y O E m H n o q=>rd.goS n o q λd z v s t u x c r p=>p (m.set i (YP v)) s t .refl (u.set r i) c
inductive Tg where
 |one (i:Nat)
 |two (i j:Nat)
noncomputable def Tg.put:Tg->D->Sg->Option Sg
 |.one i,d,σ=>YP (σ.set i (YP d))
 | .two i j,d,σ=>match d with
  |.tup [x,y]=>YP ((σ.set i (YP x)).set j (YP y))
  |_=>JL
def Tg.rd(K:ak):Tg->TG
 |.one i=>AB i
 |.two i j=>Pm K 2 (KU (AB i) (KU (AB j) Pq))
def Tg.slots:Tg->pU
 |.one i=>[i]
 |.two i j=>[i,j]
def Tg.ok2(g:Tg)(n:oN K H Xf μ σ b_)(q:XV K H Xf μ d v)(h:g.put d σ=YP σ')
  (k:∀f,oN K H Xf μ σ' f->(∀i,i∉g.slots->f[i]?=b_[i]?)->Q f H):g.rd K v b_ H Q:=by
 cases g with
 | one i=>
  cases h;exact k _ (n.set q i) λj p=>aX (λe=>p (by simp[Tg.slots,e]))
 | two i j=>
  unfold Tg.put at h;dsimp only at h;split at h
  ·rename_i x y;cases h;obtain⟨a,t,rfl,l,q⟩:=q;obtain⟨u,w,rfl,r,s⟩:=EX q;refine⟨a,[u,w],rfl,l.sq,rfl,u,[w],rfl,w,[],rfl,rfl,k _ ((n.set r i).set s j) λm o=>?_⟩;rw[aX (λe=>o (by simp[Tg.slots,e])),aX (λe=>o (by simp[Tg.slots,e]))]
  ·cases h
def Tg.ok{K:ak}{H:Hp}{Xf μ:List af}{σ σ':Sg}{f:St}{d:D}{v:V}{Q:St->Hp->Prop}(g:Tg)(m:oN K H Xf μ σ f)(q:XV K H Xf μ d v)(h:g.put d σ=YP σ')(k:∀n,oN K H Xf μ σ' n->Q n H):g.rd K v f H Q:=by
 cases g with
 |one i=>cases h;exact k _ (m.set q i)
 | two i j=>
  unfold Tg.put at h;dsimp only at h;split at h
  ·rename_i x y;cases h;obtain⟨a,r,rfl,l,q⟩:=q;obtain⟨u,w,rfl,o,p⟩:=EX q;exact⟨a,[u,w],rfl,l.sq,rfl,u,[w],rfl,w,[],rfl,rfl,k _ ((m.set o i).set p j)⟩
  ·cases h
def QH(d:X.N.Nodup)(hi:X.N[i]?=YP x)(f:Loc X.env.scope x)(g:X.fn x=JQ\/X.env.scope.names.lookup x=YP .local:=by first|exact .inl rfl|exact .inr rfl|assumption):PG X (.Name x pos) ((Tg.one i).rd X.K):=IL d hi f g
noncomputable def xZ(src:Src)(step:D->Sg->Ow->RS):Nat->Nat->Sg->Ow->RS
 | 0,i,σ,O=>match src.get O i with
  |none=>.nx σ O
  |some _=>.bad
 | f+1,i,σ,O=>match src.get O i with
  |none=>.nx σ O
  | some d=>match step d σ O with
   |.nx σ' O'=>xZ src step f (i+1) σ' O'
   |.ct σ' O'=>xZ src step f (i+1) σ' O'
   |.bk σ' O'=>.nx σ' O'
   |r=>r
def vg(it:DI)(g:Tg)(body:DS):DS:=λσ O=>(it σ O).bnS λsrc O1=>xZ src (λd σ O=>match g.put d σ with|some σ'=>body σ' O|none=>.bad) (src.size O1) 0 σ O1
def Sy{u:aR}{body:List dh}{it:DI}{g:Tg}{tb:DS}(hp:jE (au X.prog X.w) X.A X.env X.xe)(hc:X.calm=JQ)(hi:ui X Ex tg u it)(hg:PG X tg (g.rd X.K))(hb:sQ X Ex body tb)
  (hs:∀x,cq u X.env x=pure x:=by intro _;rfl):vd X Ex (.For tg u body [] pos) (vg it g tb):=
 AE (Rm hp hc hi.out hg hb.out hs) λk μ Q O E b_ H Y c1 q=>by
  refine⟨k,μ,Q,O,Y,c1,oR.bnS q λo O1 J Z S x1 c2 sa p=>?_⟩;generalize t8:(λ(d:D)(Q:Sg)(O:Ow)=>match g.put d Q with|some j=>tb j O|none=>RS.bad)=n at p;refine⟨λi m L t=>∃s j z,Ext Z S t s/\oN X.K t k s j L/\oK X.K t k s z/\oR Ex X.K t k s (xZ o n m i j z) E,⟨_,S,Q,O1,.refl,Y.ext x1,c2,p⟩,?_⟩;rintro i m xS M ⟨F,N,B,x2,T,U,C⟩;have R:=sa k M F B x2.mv U i;cases G:o.get B i with
  | none=>
   rw[G] at R;refine .inl ⟨R,?_⟩;cases m with
   | zero=>
    have l:oR Ex X.K M k F (match o.get B i with|none=>.nx N B|some _=>.bad) E:=C;rw[G] at l;exact l xS M F .refl T U
   | succ f=>
    unfold xZ at C;rw[G] at C;exact C xS M F .refl T U
  | some d=>
   rw[G] at R;obtain⟨go,yl⟩:=R;cases m with
   | zero=>
    have l:oR Ex X.K M k F (match o.get B i with|none=>.nx N B|some _=>.bad) E:=C;rw[G] at l;exact ai l
   | succ f=>
    refine .inr ⟨go,λL t=>∃s j z,Ext Z S t s/\oN X.K t k s j L/\oK X.K t k s z/\oR Ex X.K t k s (xZ o n f (i+1) j z) E,λj t h=>⟨f,cI f,h⟩,λv H3 y=>?_⟩;obtain⟨V,c4,r⟩:=yl v H3 y;unfold xZ at C;rw[G] at C;have l:oR Ex X.K H3 k F (match n d N B with
     |.nx j z=>xZ o n f (i+1) j z
     |.ct j z=>xZ o n f (i+1) j z
     |.bk j z=>.nx j z
     |r=>r) E:=oR.ext C V
    cases W:g.put d N with
    | none=>
     rw[<- t8] at l;simp only[W] at l;exact ai l
    | some sR=>
     refine Tg.ok g (T.ext V) r W λXs e3=>⟨k,F,sR,B,e3,c4,?_⟩;have Gr:n d N B=tb sR B:=by rw[<- t8];simp only[W]
     rw[Gr] at l;have x4:=x2.trans V;cases I:tb sR B with
     |nx Hx O4=>rw[I] at l;exact λL t s P a b=>⟨s,Hx,O4,x4.trans P,a,b,l.ext P⟩
     |ct Hx O4=>rw[I] at l;exact λL t s P a b=>⟨s,Hx,O4,x4.trans P,a,b,l.ext P⟩
     |bk Hx O4=>rw[I] at l;exact l
     |rt d4 O4=>rw[I] at l;exact l
     |exc c4 O4=>rw[I] at l;exact l
     |bad=>rw[I] at l;exact l
end
structure Cl where
 it:DI
 g:Tg
 ifs:List DT
def qM:List Cl->pU
 |[]=>[]
 |c::cs=>c.g.slots++qM cs
def qQ{α:Type}(σ:List (Option α)):pU->List (Option α)
 |[]=>σ
 |i::r=>qQ (σ.set i JL) r
def vC:List DT->DT
 |[]=>λ_ O=>.ok JQ O
 |c::cs=>λσ O=>(c σ O).bnd λb O1=>if b=JQ then vC cs σ O1 else .ok JU O1
noncomputable def rB(src:Src)(step:D->Ow->List D->R (List D)):Nat->Nat->Ow->List D->R (List D)
 | 0,i,O,Y2=>match src.get O i with
  |none=>.ok Y2 O
  |some _=>.bad
 | f+1,i,O,Y2=>match src.get O i with
  |none=>.ok Y2 O
  |some d=>(step d O Y2).bnd λqJ O'=>rB src step f (i+1) O' qJ
def x8:List Cl->DE->Sg->Ow->List D->R (List D)
 |[],elt,σ,O,Y2=>(elt σ O).bnd λv O1=>if Y2.length<4000000 then .ok (Y2++[v]) O1 else .bad
 | c::cs,elt,σ,O,Y2=>(c.it σ O).bnd λsrc O1=>rB src (λd O2 Y2=>match c.g.put d (qQ σ (qM (c::cs))) with
   |some qV=>(vC c.ifs qV O2).bnd λb O3=>if b=JQ then x8 cs elt qV O3 Y2 else .ok Y2 O3
   |none=>.bad) (src.size O1) 0 O1 Y2
def Bm(c:Cl)(cs:List Cl)(elt:DE)(σ:Sg):D->Ow->List D->R (List D):=λd O2 Y2=>match c.g.put d (qQ σ (qM (c::cs))) with
   |some qV=>(vC c.ifs qV O2).bnd λb O3=>if b=JQ then x8 cs elt qV O3 Y2 else .ok Y2 O3
   |none=>.bad
abbrev Em:=Sg->Ow->List D->R (List D)
def A8(te:DE):Em:=λσ O Y2=>(te σ O).bnd λv O1=>if Y2.length<4000000 then .ok (Y2++[v]) O1 else .bad
def vD:List Cl->Em->Sg->Ow->List D->R (List D)
 |[],em,σ,O,Y2=>em σ O Y2
 | c::cs,em,σ,O,Y2=>(c.it σ O).bnd λsrc O1=>rB src (λd O2 Y2=>match c.g.put d (qQ σ (qM (c::cs))) with
   |some qV=>(vC c.ifs qV O2).bnd λb O3=>if b=JQ then vD cs em qV O3 Y2 else .ok Y2 O3
   |none=>.bad) (src.size O1) 0 O1 Y2
def vh(c:Cl)(cs:List Cl)(em:Em)(σ:Sg):D->Ow->List D->R (List D):=λd O2 Y2=>match c.g.put d (qQ σ (qM (c::cs))) with
   |some qV=>(vC c.ifs qV O2).bnd λb O3=>if b=JQ then vD cs em qV O3 Y2 else .ok Y2 O3
   |none=>.bad
theorem SM(te:DE):∀a:List Cl,vD a (A8 te)=x8 a te
 |[]=>by funext σ O Y2;unfold vD x8 A8;rfl
 |c::cs=>by funext σ O Y2;unfold vD x8;rw[SM te cs]
def zhu(c:Cl)(cs:List Cl)(te:DE):vh c cs (A8 te)=Bm c cs te:=by funext σ d O Y2;unfold vh Bm;rw[SM te cs]
theorem Fm{α:Type}:∀(l:pU)(σ:List (Option α)),(qQ σ l).length=σ.length
 |[],_=>rfl
 |i::r,σ=>by unfold qQ;rw[Fm r];simp
theorem LP{α:Type}:∀(l:pU)(σ:List (Option α))(i:Nat),i∉l->(qQ σ l)[i]?=σ[i]?
 |[],σ,i,h=>rfl
 | j::r,σ,i,h=>by
  unfold qQ;rw[LP r _ i λz=>h (al _ z),aX λz=>h (by simp[z])]
theorem IF{α:Type}:∀(l:pU)(σ:List (Option α))(i:Nat)(d:α),(qQ σ l)[i]?=YP (YP d)->σ[i]?=YP (YP d)/\i∉l
 |[],σ,i,d,h=>⟨h,by simp⟩
 | j::r,σ,i,d,h=>by
  obtain⟨a,b⟩:=IF r _ i d h;by_cases e:j=i
  ·subst e;by_cases c:j<σ.length
   ·rw[aZ c] at a;cases a
   ·rw[aY.mpr (by simp;lia)] at a;cases a
  ·rw[aX e] at a;exact⟨a,by simp[b];exact λz=>e z.symm⟩
structure Ea(A:af)(H:Hp)(μ:List af)(H':Hp)(e_:List af):Prop where
 pre:∃ν,e_=μ++ν
 kept:∀b o,H b=YP o->b∉μ->b≠A->DM o->H' b=YP o
 fresh:∀b∈e_,b∈μ\/H b=JL
 there:∀b,H b≠JL->H' b≠JL
 tab:∀P,oX H P->oX H' P
section
variable{K:ak}{A:af}{H H' H1 H2:Hp}{Xf μ e_ f_ qc:List af}
def Ext.ea(e:Ext H μ H' e_):Ea A H μ H' e_:=⟨e.pre,λb o h n _ a=>e.kept b o h n a,e.fresh,e.there,e.tab⟩
def Ea.refl:Ea A H μ H μ:=Ext.refl.ea
def Ea.trans(a:Ea A H μ H1 f_)(b:Ea A H1 f_ H2 qc):Ea A H μ H2 qc:=by
 have i:∀c,H1 c=JL->H c=JL:=λc h=>by
  cases e:H c with
  |none=>rfl
  |some o=>exact absurd h (a.there c (by rw[e];simp))
 refine⟨?_,λc o h d f g=>?_,λc h=>?_,λc h=>b.there c (a.there c h),λP t=>b.tab P (a.tab P t)⟩
 ·obtain⟨x,rfl⟩:=a.pre;obtain⟨y,rfl⟩:=b.pre;exact⟨x++y,by simp⟩
 ·refine b.kept c o (a.kept c o h d f g) (λm=>?_) f g;rcases a.fresh c m with z|z
  ·exact d z
  ·rw[z] at h;cases h
 ·rcases b.fresh c h with z|z
  ·exact a.fresh c z
  ·exact .inr (i c z)
def Ea.mv(e:Ea A H μ H' e_):Mv H (A::Xf) μ H' (A::Xf) e_:=⟨e.pre,λb o h a c d=>e.kept b o h a (λz=>c (by simp[z])) d,e.fresh,λ_ m=>.inl m,e.there,e.tab⟩
def Ea.putX(a:∀P,oX H P->oX (upd H A o) P):Ea A H μ (upd H A o) μ:=⟨⟨[],by simp⟩,λb u h _ n _=>by rw[qe n];exact h,λ_ m=>.inl m,yF,a⟩
def oK.putX(c:oK K H (A::Xf) μ O)(b:∀P,oX H P->oX (upd H A o) P):oK K (upd H A o) (A::Xf) μ O:=by refine⟨c.len,c.nd,c.nh,λa m=>yF a (c.ht a m),λk a e=>?_⟩;obtain⟨d,f,g,h,i⟩:=c.at_ k a e;have j:a≠A:=λz=>c.nh a (aO e) (by simp[z]);exact⟨d,f,g,by rw[qe j];exact h,i.mv (Ea.putX b).mv⟩
def Ea.put{o:HO}(a:∃vs,H A=YP (.lst vs)):Ea A H μ (upd H A o) μ:=.putX λ_ t=>t.upd (.inr a)
def oK.putA{o:HO}{O:Ow}(c:oK K H (A::Xf) μ O)(a:∃vs,H A=YP (.lst vs)):oK K (upd H A o) (A::Xf) μ O:=c.putX λ_ t=>t.upd (.inr a)
def oK.unhide(c:oK K H (A::Xf) μ O):oK K H Xf μ O:=
 ⟨c.len,c.nd,λa m z=>c.nh a m (al _ z),λa m=>c.ht a (al _ m),λk a e=>
  let ⟨ds,vs,h1,h2,h3⟩:=c.at_ k a e
  ⟨ds,vs,h1,h2,h3.mv .unhide⟩⟩
end
abbrev qN:Nat->Hp->Prop:=λ_ _=>False
inductive o5(X:Cx):List bR->List Cl->Prop where
 |nil:o5 X [] []
 | cons {tg iter:aR} {ifs:List aR} {gs:List bR} {c:Cl} {cs:List Cl} (hi:ui X qN tg iter c.it) (hs:∀x,cq iter X.env x=pure x) (hg:PG X tg (c.g.rd X.K))
   (hf:cD (λe t=>rY X qN e t) ifs c.ifs) (r:o5 X gs cs):o5 X (⟨tg,iter,ifs,0⟩::gs) (c::cs)
section
variable{X:Cx}
def BD{α:Type}{M:iq}{A:aU}{t:Sem α}{Q b:α->ah->Prop}{E:ae->ah->Prop}{s:ah}(c:X.xe=λ_ _=>False)(h:ao M A t Q X.xe s)(k:∀a s',Q a s'->b a s'):ao M A t b E s:=
 cj h k λe s' z=>by rw[c] at z;exact z.elim
theorem VI{env:Env}{M:iq}{A:aU}{E:ae->ah->Prop}{s:ah}{Q:Bool->ah->Prop}(h:Q JU s):∀(a:List aR),ao M A (forIn a JU λc r=>if r=JQ then do let ok <- isTrue c env (eval c env);pure (f8 ok) else pure (f8 r)) Q E s
 |[]=>aj h
 | c::cs=>by
  simp;exact aa (aj (VI h cs))
theorem Tw{E:ae->ah->Prop}{Xf:List af}(i:X.xe=λ_ _=>False):∀{a:List aR}{ts:List DT},cD (λe t=>rY X qN e t) a ts->∀(Xq:List (af×Obj))(s:ah)(b_:St)(H:Hp)(μ:List af)(σ:Sg)(O:Ow)(Q:Bool->ah->Prop),
  L2.Inv X Xq b_ H s->oN X.K H Xf μ σ b_->oK X.K H Xf μ O->
  yA qN X.K H Xf μ (vC ts σ O) (λb H'=>∀s',L2.Inv X Xq b_ H' s'->Q b s')->
  ao (au X.prog X.w) X.A (forIn a JQ λc r=>if r=JQ then do let ok <- isTrue c X.env (eval c X.env);pure (f8 ok) else pure (f8 r)) Q E s
 |_,_,.nil,Xq,s,b_,H,μ,σ,O,Q,I,e1,c1,q=>aj (post.here q c1 rfl s I)
 | _::a,_::ts,.cons hc hr,Xq,s,b_,H,μ,σ,O,Q,I,e1,c1,q=>by
  simp only[g8,if_true];refine aa (aa (BD i (hc.out Xq s b_ H _ I (yI.go e1 c1 q (Q1:=λb g=>∃d f,oN X.K g Xf d σ b_/\oK X.K g Xf d f/\yA qN X.K g Xf d (if b=JQ then vC ts σ f else .ok JU f) (λb H'=>∀s',L2.Inv X Xq b_ H' s'->Q b s'))
   λb f g d h x c p=>⟨d,f,h,c,p⟩)) λb j ⟨g,k,d,f,h,l,p⟩=>aj ?_))
  cases b with
  |true=>rw[JV rfl] at p;exact Tw i hr Xq j b_ g d σ f Q k h l p
  |false=>rw[JW cO] at p;exact VI (post.here p l rfl j k) a
structure xB where
 ex:List bR->cu->Pos->aR
 emit:ae->Env->Sem Unit
 new:Sem ae
 ho:aK->aT->af->HO
 G:ak->aK->aT->af->List af->Hp->List af->List D->Prop
structure Bs(X:Cx)(C:xB)(A:af)(Xf:List af)(Xq:List (af×Obj))(s:ah)(b_:St)(H:Hp)(μ:List af)(σ:Sg)(O:Ow)(Y2:List D):Prop where
 inv:L2.Inv X Xq b_ H s
 env:oN X.K H (A::Xf) μ σ b_
 cells:oK X.K H (A::Xf) μ O
 grown:C.G X.K X.prog X.w A Xf H μ Y2
def Qe(X:Cx)(C:xB)(A:af)(Xf:List af)(Xq:List (af×Obj))(b_:St)(H:Hp)(μ:List af)(sl:pU)(Y2:List D)(O:Ow)(Q:ah->Prop):Prop:=
 ∀s' qj H' e_,L2.Inv X Xq qj H' s'->Ea A H μ H' e_->oK X.K H' (A::Xf) e_ O->C.G X.K X.prog X.w A Xf H' e_ Y2->qj.length=b_.length->(∀i,i∉sl->qj[i]?=b_[i]?)->Q s'
def zU(X:Cx)(C:xB)(A:af)(Xf:List af)(Xq:List (af×Obj))(b_:St)(H:Hp)(μ:List af)(sl:pU)(r:R (List D))(Q:ah->Prop):Prop:=match r with
 |.ok Y2 O=>Qe X C A Xf Xq b_ H μ sl Y2 O Q
 |_=>False
noncomputable def B9(e:aR)(em:ae->Env->Sem Unit)(gens:List bR)(k:Nat)(Y2:ae)(env:Env):Sem Unit:=match gens[k]? with
 | some g'=>do
  let x <- eval g'.iter env
  standAt g'.iter.pos
  let x <- if g'.is_async !=0 then foldedIterable g'.iter x else cq g'.iter env x
  let _ <- runOwn (.compStart e k (<- holding [x] (if g'.is_async !=0 then asyncIter x else pyIter x)) Y2 env) env
 |none=>em Y2 env
def ZU(C:xB):Prop:=∀(gens:List bR)(scope:cu)(pos:Pos)(k:Nat)(it Y2:ae)(env:Env){tg iter:aR}{ifs:List aR},gens[k]?=YP ⟨tg,iter,ifs,0⟩->
  (gens[k+1]?=JL \/ ∃CA ue xf,gens[k+1]?=YP ⟨CA,ue,xf,0⟩)->
  compTurn (C.ex gens scope pos) k it Y2 env=(do
   standAt iter.pos
   match <- pyNext it with
   |none=>pure (.done .next)
   | some v=>
    letOwnedTupleGo tg it v
    assign tg env v
    let mut ok:=JQ
    for c in ifs do
     if ok then ok <- isTrue c env (eval c env)
    if ok then B9 (C.ex gens scope pos) C.emit gens (k+1) Y2 env
    again (.compLoop (C.ex gens scope pos) k it Y2 env))
structure Cj(C:xB):Prop where
 cl:∀gens scope pos,clausesOf (C.ex gens scope pos)=gens
 turn:ZU C
 keep:∀{K P w A Xf H μ Y2 H' e_},C.G K P w A Xf H μ Y2->A∉μ->Ext H μ H' e_->C.G K P w A Xf H' e_ Y2
 new:∀{P:aK}{w:aT}{A:aU}{E:ae->ah->Prop}{Q:ae->ah->Prop}{s:ah},(∀o:Obj,o.isFreed=JU->(∀(H:Hp)(h:aS)(a:af),sysModules<a->h.get? a=YP o->o0 P w (upd H a (C.ho P w a)) h a (C.ho P w a))->Q (.ref s.heap.objs.size) { s with heap:=s.heap.push o })->ao (au P w) A C.new Q E s
 g0:∀{K P w a Xf H μ},C.G K P w a Xf (upd H a (C.ho P w a)) μ []
 q1:∀gens scope pos k it Y2 env,(lR (C.ex gens scope pos) k it Y2 env).quiet=JQ
 u1:∀(A:aU)gens scope pos k it Y2 env,A.under (lR (C.ex gens scope pos) k it Y2 env)=A
 d1:∀P w gens scope pos k it Y2 env,(au P w).den (lR (C.ex gens scope pos) k it Y2 env)=(compTurn (C.ex gens scope pos) k it Y2 env).onRaise (λx=>do noteFrame x env;theTreesLotGoes x)
 u2:∀(A:aU)gens scope pos k it Y2 env,A.under (nW (C.ex gens scope pos) k it Y2 env)=A
 d2:∀P w gens scope pos k it Y2 env,(au P w).den (nW (C.ex gens scope pos) k it Y2 env)=(compStart (C.ex gens scope pos) k it Y2 env).onRaise (λx=>do noteFrame x env;standAt theWindowsPlace)
noncomputable def Cc(elt:aR):xB where
 ex:=λgens scope pos=>.ListComp elt gens scope pos
 emit:=λY2 env=>do let _ <- call (.builtin "list.append") [Y2,<- eval elt env]
 new:=newList []
 ho:=λ_ _ _=>.lst []
 G:=λK _ _ A Xf H μ Y2=>∃vs,H A=YP (.lst vs)/\oM K H (A::Xf) μ Y2 vs
def Mi(c:aR):Cj (Cc c) where
 cl:=λ_ _ _=>rfl
 turn:=λd b g k n i j t l o m f=>by
  show compTurn (.ListComp c d b g) k n i j=_;unfold compTurn B9;rcases f with f|⟨u,v,w,f⟩
  ·simp only[m,f];rfl
  ·simp only[m,f,bne_self_eq_false,dL,if_false,bind_assoc,pure_bind]
   first|rfl|congr 1
 keep:=λ⟨p,q,r⟩ s x=>⟨p,x.keep _ _ q s,r.ext x⟩
 new:=λh=>bO (h _ rfl λH h a _ e=>⟨cw _,[],0,.nil,e⟩)
 g0:=⟨[],rS,.nil⟩
 q1:=λ_ _ _ _ _ _ _=>rfl
 u1:=λ_ _ _ _ _ _ _ _=>rfl
 d1:=λ_ _ _ _ _ _ _ _ _=>rfl
 u2:=λ_ _ _ _ _ _ _ _=>rfl
 d2:=λ_ _ _ _ _ _ _ _ _=>rfl
noncomputable def Wh(Z:St->Hp->List af->Prop)(K:ak)(Xf:List af)(t:DE):TE:=λb_ H Q=>∃μ σ O,Z b_ H μ/\oN K H Xf μ σ b_/\oK K H Xf μ O/\qY qN K H Xf μ (t σ O) Q
def PD.z{X:Cx}{Z:St->Hp->List af->Prop}{Xf:List af}{e:aR}{t:DE}(h:PD X qN e t):PE X e (Wh Z X.K Xf t):=λa s b H Q I ⟨c,d,O,_,f,g,q⟩=>h.out a s b H Q I ⟨Xf,c,d,O,f,g,q⟩
section
variable{C:xB}{Z:St->Hp->List af->Prop}{A:af}{Xf:List af}{elt:aR}{gens:List bR}{scope:cu}{pos:Pos}{te:DE}{em:Em}
def AF(X:Cx)(Z:St->Hp->List af->Prop)(C:xB)(A:af)(Xf:List af)(e:aR)(gens:List bR)(em:Em)(k:Nat)(cls:List Cl):Prop:=∀(Xq:List (af×Obj))(s:ah)(b_:St)(H:Hp)(μ:List af)(σ:Sg)(O:Ow)(Y2:List D)(Q:ah->Prop)(E:ae->ah->Prop),
 Z b_ H μ->Bs X C A Xf Xq s b_ H μ σ O Y2->zU X C A Xf Xq b_ H μ (qM cls) (vD cls em σ O Y2) Q->ao (au X.prog X.w) X.A (B9 e C.emit gens k (.ref A) X.env) (λ_ s'=>Q s') E s
def zet{k:Nat}{e:aR}(p:X.xe=λ_ _=>False)(F:PE X elt (Wh Z X.K (A::Xf) te))(G:gens[k]?=JL):AF X Z (Cc elt) A Xf e gens (A8 te) k []:=by
 intro a s h H i t O b Q E z B q;unfold B9;rw[G];obtain⟨w,I,J⟩:=B.grown;cases j:te t O with
 | ok d O1=>
  have l:zU X (Cc elt) A Xf a h H i (qM []) (if b.length<4000000 then .ok (b++[d]) O1 else .bad) Q:=by
   have:=q;unfold vD A8 at this;rw[j] at this;exact this
  by_cases o:b.length<4000000
  ·rw[JV o] at l;refine aa (BD p (F a s h H (λv f=>∃g,Ext H i f g/\oK X.K f (A::Xf) g O1/\XV X.K f (A::Xf) g d v) B.inv ⟨i,t,O,z,B.env,B.cells,by rw[j];exact λv V L x c r=>⟨L,x,c,r⟩⟩)
    λu M ⟨v,f,N,P,g,x,c,r⟩=>?_)
   have R:A∉i:=λm=>B.cells.nh A m 'k';have n:=x.keep A _ I R;have y:=J.ext x;refine aa (BD p (UL a M h f (.ref A) [v] (.ref A) [u] (λ_ D=>D=upd f A (.lst (w++[v]))) N rfl (.cons P .nil)
    ⟨A,w,v,rfl,rfl,n,ba (by rw[<- y.length];exact o) 'u',rfl⟩) λW S ⟨Y,D,T,r2,U⟩=>?_)
   subst U;refine aj (l S h _ g T (x.ea.trans (.put ⟨_,n⟩)) (c.putA ⟨_,n⟩) ⟨_,rS,?_⟩ rfl λ_ _=>rfl);exact(y.append (.cons r .nil)).mv (Ea.put ⟨_,n⟩).mv
  ·rw[JW o] at l;exact l.elim
 | exc c O1=>
  unfold vD A8 at q;rw[j] at q;exact q.elim
 | bad=>
  unfold vD A8 at q;rw[j] at q;exact q.elim
def RK(co:Cj C){k:Nat}{tg iter:aR}{ifs:List aR}{c:Cl}{cs:List Cl}(hx:X.xe=λ_ _=>False)(pX:X.calm=JQ)(hk:gens[k]?=YP ⟨tg,iter,ifs,0⟩)(hg:PG X tg (c.g.rd X.K))(hf:cD (λe t=>rY X qN e t) ifs c.ifs)
  (hZ:∀(qV s_:St)S L H2 qc,Z qV S L->(∀j,j∉qM (c::cs)->s_[j]?=qV[j]?)->Ea A S L H2 qc->Z s_ H2 qc) (y:AF X Z C A Xf (C.ex gens scope pos) gens em (k+1) cs) (hn:gens[k+1]?=JL \/ ∃CA ue xf,gens[k+1]?=YP ⟨CA,ue,xf,0⟩) {it:af} {fp:List af} {tn:Nat->aS->Prop} {J:It} {src:Src} (T:yv X.prog X.w X.K tg J fp it tn)
  (a:List (af×Obj)) (s:ah) (h:St) (H:Hp) (μ:List af) (σ:Sg) (O:Ow) (W:List D) (n:Nat) (Q:ah->Prop) (st:tn 0 s.heap) (zD:∀b∈fp,tj X a H b) (sa:oU X.K J src H (A::Xf) μ)
  (z0:Z h H μ) (B:Bs X C A Xf a s h H μ σ O W) (q:zU X C A Xf a h H μ (qM (c::cs)) (rB src (vh c cs em σ) n 0 O W) Q):
  codeAny (au X.prog X.w) X.A (.compLoop (C.ex gens scope pos) k (.ref it) (.ref A) X.env) (λr s'=>∃f,r=.ok f/\Q s') s:=by
 have w_:∀{l:Hp},(∀b∈fp,l b=JL)->∀b∈fp,tj X a l b:=λhn b y=>⟨hn b y,(zD b y).2⟩;let P:Nat->ah->Prop:=λm s'=>∃i M l N p E,L2.Inv X a M l s'/\tn i s'.heap/\(∀b∈fp,l b=JL)/\Ea A H μ l N/\oK X.K l (A::Xf) N p/\C.G X.K X.prog X.w A Xf l N E/\
  M.length=h.length/\(∀i,i∉qM (c::cs)->M[i]?=h[i]?)/\zU X C A Xf a h H μ (qM (c::cs)) (rB src (vh c cs em σ) m i p E) Q
 refine codeAny_loop (co.q1 _ _ _ _ _ _ _) P (λm s1 hP=>?_) n ⟨0,h,H,μ,O,W,B.inv,st,λb y=>(zD b y).1,.refl,B.cells,B.grown,rfl,λ_ _=>rfl,q⟩;rw[co.u1,co.d1];refine wpAny_noted ?_;rw[co.turn _ _ _ _ _ _ _ hk hn];obtain⟨i,xU,S,L,U,R,I1,qU,W2,x1,c1,g1,l1,k1,I⟩:=hP;have AL:=sa (A::Xf) S L U x1.mv c1 i
 -- the names that Wb
 have OM:oN X.K S (A::Xf) L (qQ σ (qM (c::cs))) xU:=by
  refine⟨by rw[Fm,B.env.len,l1],λj d Y=>?_⟩;obtain⟨h1,h2⟩:=IF _ _ _ _ Y;obtain⟨v,h3,h4⟩:=B.env.at_ j d h1;exact⟨v,by rw[k1 j h2];exact h3,h4.mv x1.mv⟩
 cases q0:src.get U i with
 | none=>
  rw[q0] at AL;have x:Qe X C A Xf a h H μ (qM (c::cs)) R U Q:=by
   cases m with
   |zero=>unfold rB at I;rw[q0] at I;exact I
   |succ f=>unfold rB at I;rw[q0] at I;exact I
  refine aa (fA (aa (pZ (T.done X rfl rfl rfl pX i a s1 xU S _ I1 (w_ W2) qU AL) λr s2 ⟨hr,I2⟩=>?_)));subst hr;exact aj ⟨_,rfl,x s2 xU S L I2 x1 c1 g1 l1 k1⟩
 | some d=>
  rw[q0] at AL;obtain⟨go,yl⟩:=AL;cases m with
  | zero=>
   unfold rB at I;rw[q0] at I;exact I.elim
  | succ f=>
   have x:zU X C A Xf a h H μ (qM (c::cs)) ((vh c cs em σ d U R).bnd λE p=>rB src (vh c cs em σ) f (i+1) p E) Q:=by
    have:=I;unfold rB at this;rw[q0] at this;exact this
   refine aa (fA (aa (pZ (T.item X rfl rfl rfl pX i a s1 xU S _ I1 (w_ W2) qU go) λr s2 ⟨u,hr,h2⟩=>?_)));subst hr;refine aa (pZ h2 λ_ s3 ⟨v,H3,I3,r3,y3,ql,Ki⟩=>?_);obtain⟨x3,c3,d3⟩:=yl v H3 y3;have I3':=I3.pinned (w_ Ki) (T.obj _ _ ql);cases xj:c.g.put d (qQ σ (qM (c::cs))) with
   | none=>
    unfold vh at x;rw[xj] at x;exact x.elim
   | some sR=>
    have Gk:vh c cs em σ d U R=((vC c.ifs sR U).bnd λb O3=>if b=JQ then vD cs em sR O3 R else .ok R O3):=by
     unfold vh;rw[xj]
    rw[Gk] at x;refine aa (BD hx (hg _ s3 xU H3 v u (λV H4=>H4=H3/\oN X.K H3 (A::Xf) L sR V/\∀j,j∉c.g.slots->V[j]?=xU[j]?) I3' r3 (Tg.ok2 c.g (OM.ext x3) d3 xj λV e4 k4=>⟨rfl,e4,k4⟩)) λ_ s4 ⟨V,H4,I4,e4,Hc,k4⟩=>?_);subst e4;have l4:V.length=h.length:=by rw[I4.len,<- I3.len,l1]
    have ND:∀j,j∉qM (c::cs)->V[j]?=h[j]?:=λj Y=>by
     rw[k4 j λz=>Y (ci _ z)];exact k1 j Y
    have nA:A∉L:=λm=>c1.nh A m 'k';have x13:=x1.trans x3.ea;have g3:=co.keep g1 nA x3
    -- behind the step: the next turn
    have F:∀{s':ah}{M:St}{l:Hp}{N:List af}{p:Ow}{E:List D},L2.Inv X (a++E8 fp s3.heap) M l s'->Ea A H μ l N->oK X.K l (A::Xf) N p->C.G X.K X.prog X.w A Xf l N E->M.length=h.length->
      (∀i,i∉qM (c::cs)->M[i]?=h[i]?)->zU X C A Xf a h H μ (qM (c::cs)) (rB src (vh c cs em σ) f (i+1) p E) Q->∃m,m<f+1/\P m s':=by
     intro s' M l N p E I' x' c' g' l' k' p';refine⟨f,cI f,i+1,M,l,N,p,E,I'.unpinned,T.keep _ _ _ ql λb y o e=>(I'.pin (b,o) (aC _ (aC _ (Jp y e)))).1,λb y=>?_,x',c',g',l',k',p'⟩;obtain⟨o,e,d⟩:=T.obj _ _ ql b y;exact(I'.pin (b,o) (aC _ (aC _ (Jp y e)))).2.1
    cases sG:vC c.ifs sR U with
    |exc c' p=>rw[sG] at x;exact x.elim
    |bad=>rw[sG] at x;exact x.elim
    | ok b O3=>
     rw[sG] at x;have q3:zU X C A Xf a h H μ (qM (c::cs)) ((if b=JQ then vD cs em sR O3 R else .ok R O3).bnd λE p=>rB src (vh c cs em σ) f (i+1) p E) Q:=x;refine aa (Tw hx hf _ s4 V H4 L sR U _ I4 Hc c3 ?_);rw[sG];intro b' H5 Ao x5 c5 eb s5 I5;subst eb;have g5:=co.keep g3 nA x5;have M_:=x13.trans x5.ea;cases b with
     | false=>
      exact aj ⟨rfl,F I5 M_ c5 g5 l4 ND q3⟩
     | true=>
      refine aa (y _ s5 V H5 Ao sR O3 R _ _ (hZ _ _ _ _ _ _ z0 ND M_) ⟨I5,Hc.ext x5,c5,g5⟩ ?_);cases qH:vD cs em sR O3 R with
      |exc c' p=>rw[qH] at q3;exact q3.elim
      |bad=>rw[qH] at q3;exact q3.elim
      | ok acc6 O6=>
       rw[qH] at q3;intro s6 Xr H6 Hy I6 x6 c6 g6 l6 k6;refine aj ⟨rfl,F I6 (M_.trans x6) c6 g6 (l6.trans l4) (λj Y=>?_) q3⟩;rw[k6 j λz=>Y (aC _ z)];exact ND j Y
end
end
section
variable{X:Cx}{Z:St->Hp->List af->Prop}{C:xB}{A:af}{Xf:List af}{gens:List bR}{scope:cu}{pos:Pos}{em:Em}
def Tx(a:Cj C)(b:gens[k]?=YP ⟨tg,iter,ifs,0⟩)(T:yv X.prog X.w X.K tg J fp it tn)(i:Nat)(c:tn i s.heap)
  (h:codeAny (au X.prog X.w) X.A (.compLoop (C.ex gens scope pos) k (.ref it) Y2 env) P s):
  codeAny (au X.prog X.w) X.A (.compStart (C.ex gens scope pos) k (.ref it) Y2 env) P s:=by
 refine g9 ?_;rw[a.u2,a.d2];refine wpAny_notedAt ?_;unfold compStart;have d:clausesOf (C.ex gens scope pos)=gens:=a.cl _ _ _;simp only[d,b,Option.elim,bne_self_eq_false,dL,if_false];refine aa (eU (wpAny_ite ?_));split
 ·exact aj (fi (a.q1 _ _ _ _ _ _ _) h)
 ·refine aa (dP ?_);exact aa (fA (aa (T.self _ i s _ _ c (aj (fi (a.q1 _ _ _ _ _ _ _) h)))))
def R4(w:Cj C)(y:X.xe=λ_ _=>False)(V:X.calm=JQ){sl:pU}(M:∀(D F:St)d b o p,Z D d b->(∀j,j∉sl->F[j]?=D[j]?)->Ea A d b o p->Z F o p)(W:∀k,gens[k]?=JL->AF X Z C A Xf (C.ex gens scope pos) gens em k []):∀{i:List bR}{l:List Cl},o5 X i l->(∀j∈qM l,j∈sl)->∀k,gens.drop k=i->AF X Z C A Xf (C.ex gens scope pos) gens em k l
 | _,_,.nil,_,k,hd=>W k (by
   have:=congrArg kL hd;simp at this;exact aY.mpr 'd')
 | ⟨tg,iter,ifs,_⟩::gs,c::cs,.cons hi hs hg hf r,J6,k,hd=>by
  have N:gens[k]?=YP ⟨tg,iter,ifs,0⟩:=by
   have:(gens.drop k)[0]?=YP ⟨tg,iter,ifs,0⟩:=by rw[hd];rfl
   simpa using this
  have Y:gens.drop (k+1)=gs:=by
   have:=congrArg (List.drop 1) hd;simpa [eI,Nat.add_comm] using this
  have hb:=R4 w y V M W r (λj m=>J6 j (aC _ m)) (k+1) Y;have hn:gens[k+1]?=JL \/ ∃CA ue xf,gens[k+1]?=YP ⟨CA,ue,xf,0⟩:=by
   have e:gens[k+1]?=gs[0]?:=by rw[<- Y];simp
   cases r with
   |nil=>exact .inl (by rw[e];rfl)
   |cons _ _ _ _ _=>exact .inr ⟨_,_,_,by rw[e];rfl⟩
  intro a s P H G u O n Q E z B q;unfold B9;rw[N];simp only[bne_self_eq_false,dL,if_false];cases g:c.it u O with
  |exc R O'=>unfold vD at q;rw[g] at q;exact q.elim
  |bad=>unfold vD at q;rw[g] at q;exact q.elim
  | ok src O1=>
   have t:zU X C A Xf a P H G (qM (c::cs)) (rB src (vh c cs em u) (src.size O1) 0 O1 n) Q:=by
    have:=q;unfold vD at this;rw[g] at this;exact this
   refine aa (BD y (hi.out a s P H (λJ d=>∃b,Ext H G d b/\oK X.K d (A::Xf) b O1/\oU X.K J src d (A::Xf) b) B.inv ⟨A::Xf,G,u,O,B.env,B.cells,by rw[g];exact λJ d b x c S=>⟨b,x,c,S⟩⟩) λv s1 h1=>?_);refine aa (fA ?_);refine aa (jz (hs v) ?_);refine aa (bG (BD y h1 λGh s2 h2=>?_));obtain⟨it,fp,tn,J,o,e,I2,T,qD,f2,p,I,c2,S⟩:=h2;subst e;refine aa (wpAny_runOwn (h:=JL) ?_);show codeAny _ X.A _ _ _;have nA:A∉G:=λm=>B.cells.nh A m 'k';refine Tx w N T 0 qD ?_;refine ef (RK w (A:=A) (Xf:=Xf) (em:=em) (c:=c) (cs:=cs) y V N hg hf (λD F d b o p z1 k1 x1=>M D F d b o p z1 (λj hj=>k1 j λm=>hj (J6 j m)) x1) hb hn T a s2 P o p u O1 n (src.size O1) (λL=>Q L) qD f2 S (M _ _ _ _ _ _ z (λ_ _=>rfl) I.ea) ⟨I2,B.env.ext I,c2,w.keep B.grown nA I⟩ ?_) λr L hr=>?_
   ·cases U:rB src (vh c cs em u) (src.size O1) 0 O1 n with
    |exc R O'=>rw[U] at t;exact t.elim
    |bad=>rw[U] at t;exact t.elim
    | ok qJ O'=>
     rw[U] at t;exact λL qj H' e_ I' x' R g' l' k'=>t L qj H' e_ I' (I.ea.trans x') R g' l' k'
   ·obtain⟨f,rfl,hq⟩:=hr;exact aj hq
end
noncomputable def q9(X:Cx)(N':List aq)(scope:cu)(cells:List (aq×af))(C:af)(s:ah)(H:Hp)(fp:List af):Cx:=
 { X with
  N:=N',s₀:=s,H₀:=H
  env:={ scope:=relabel scope X.env,locals:=C,globals:=X.env.globals,cells:=cells,qual:=X.env.qual,func:=JL,code:=X.env.code,frame:=X.env.frame,builtins:=X.env.builtins }
  outer:=X.stack,ex:=fp,fn:=λx=>scope.names.lookup x==YP .cell,pn:=[],xe:=λ_ _=>False }
structure yN(sc scope:cu)(N':List aq)(sl:pU):Prop where
 kind:scope.kind=.function
 nd:(scope.names.map (·.1)).Nodup
 frees:∀y∈scope.names,y.2=.free->sc.names.lookup y.1=YP .cell\/sc.names.lookup y.1=YP .free
 own:∀(i:Nat)x,N'[i]?=YP x->(x,NameKind.local)∈scope.names\/(x,dR)∈scope.names->i∈sl
theorem zc{β:Type}:∀{l:List (aq×β)}{x:aq}{b:β},(l.map (·.1)).Nodup->(x,b)∈l->l.lookup x=YP b
 |[],_,_,_,h=>by cases h
 | (y,c)::r,x,b,nd,h=>by
  obtain⟨a,d⟩:=bB.mp nd;rcases ar.mp h with e|h
  ·cases e;simp[eV]
  ·have f:x≠y:=λe=>a (aA.mpr ⟨(x,b),h,e⟩);rw[eV];have:(x==y)=JU:=⇑f
   rw[this];exact zc d h
theorem MQ(env:Env)(x:aq):∀(names:List (aq×dD)),(names.map λ(n,k)=>if (k==dq&&env.scope.kind == .function&&env.kindOf n==YP .cell) then (n,dR) else (n,k)).lookup x =
  (names.lookup x).map λk=>if (k==dq&&env.scope.kind == .function&&env.kindOf x==YP .cell) then dR else k
 |[]=>rfl
 | (n,k)::r=>by
  show List.lookup x ((if (k==dq&&env.scope.kind == .function&&env.kindOf n==YP .cell)=JQ then (n,dR) else (n,k))::_)=_;cases a:x==n with
  | true=>
   have e:x=n:=⇑a
   subst e;simp;split
   ·rename_i h;simp[eV,h]
   ·rename_i h;simp[eV,h]
  | false=>
   have b:=MQ env x r;simp only[eV,a];rw[<- b];split<;>simp only[eV,a]
def VB(h:sY (relabel scope env) x):(x,NameKind.local)∈scope.names\/(x,dR)∈scope.names\/(x,dq)∈scope.names:=by
 unfold sY relabel at h;simp only[MQ] at h;cases e:scope.names.lookup x with
 |none=>rw[e] at h;simp at h
 | some k=>
  have m:=bq e;cases k with
  | «local»=>exact .inl m
  |cell=>exact .inr (.inl m)
  |free=>exact .inr (.inr m)
  |_=>rw[e] at h;simp at h
noncomputable def sC(cells:List (aq×af)):List (aq×dD)->List (aq×af)->List (aq×af)
 |[],Y2=>Y2
 |(n,k)::r,Y2=>if k == .free then sC cells r ((n,(cells.lookup n).getD 0)::Y2) else sC cells r Y2
def MO(h:∀y∈scope.names,y.2=.free->∃c,env.cells.lookup y.1=YP c):closureFor scope env=pure (sC env.cells scope.names []):=by
 have f:∀(b:List (aq×dD))(d:List (aq×af)),(∀y∈b,y.2=.free->∃c,env.cells.lookup y.1=YP c)->
   (forIn b d λ(x:aq×dD)(e:List (aq×af))=>(if x.2 == .free then (do let a <- cellOf env x.1;pure (f8 ((x.1,a)::e))) else pure (f8 e):Sem _))=pure (sC env.cells b d):=by
  intro b
  induction b with
  |nil=>intro d _;rfl
  | cons y r ih=>
   intro d g;obtain⟨n,k⟩:=y;rw[g8];unfold sC;by_cases i:(k==dq)=JQ
   ·obtain⟨c,l⟩:=g (n,k) av ⇑i;have o:cellOf env n=pure c:=by unfold cellOf;rw[l]
    simp only[i,if_true,o,pure_bind,l,Option.getD_some];exact ih _ λy j=>g y (al _ j)
   ·simp only[i,if_false,pure_bind,dL];exact ih _ λy j=>g y (al _ j)
 have:=f scope.names [] h;refine Eq.trans ?_ (congrArg (λm=>m >>= λe=>pure e) this);congr 1
theorem FG:∀(names:List (aq×dD))(Y2:List (aq×af)),(x,c)∈sC cells names Y2->(x,c)∈Y2\/((x,dq)∈names/\c=(cells.lookup x).getD 0)
 |[],Y2,h=>.inl h
 | (n,k)::r,Y2,h=>by
  unfold sC at h;by_cases a:(k==dq)=JQ
  ·rw[JV a] at h;rcases FG r _ h with m|⟨m,e⟩
   ·rcases ar.mp m with m|m
    ·cases m;have:k=.free:=⇑a
     subst this;exact .inr ⟨av,rfl⟩
    ·exact .inl m
   ·exact .inr ⟨al _ m,e⟩
  ·rw[JW a] at h;rcases FG r _ h with m|⟨m,e⟩
   ·exact .inl m
   ·exact .inr ⟨al _ m,e⟩
theorem Mu:∀(names:List (aq×dD))(Y2:List (aq×af)),p∈Y2->p∈sC cells names Y2
 |[],Y2,h=>h
 | (n,k)::r,Y2,h=>by
  unfold sC;split
  ·exact Mu r _ (al _ h)
  ·exact Mu r _ h
theorem FH:∀(names:List (aq×dD))(Y2:List (aq×af)),(x,dq)∈names->(x,(cells.lookup x).getD 0)∈sC cells names Y2
 | (n,k)::r,Y2,h=>by
  unfold sC;rcases ar.mp h with e|h
  ·cases e;exact Mu r _ av
  ·split
   ·exact FH r _ h
   ·exact FH r _ h
theorem Ln:∀(names:List (aq×dD))(n:Nat)(Y2:List (aq×af)),(x,c)∈cA n names Y2->(x,c)∈Y2\/((x,dR)∈names/\n<=c)
 |[],n,Y2,h=>.inl h
 | (y,k)::r,n,Y2,h=>by
  unfold cA at h;by_cases a:(k==dR)=JQ
  ·rw[JV a] at h;rcases Ln r _ _ h with m|⟨m,e⟩
   ·rcases ar.mp m with m|m
    ·cases m;have:k=.cell:=⇑a
     subst this;exact .inr ⟨av,ay _⟩
    ·exact .inl m
   ·exact .inr ⟨al _ m,mP e⟩
  ·rw[JW a] at h;rcases Ln r _ _ h with m|⟨m,e⟩
   ·exact .inl m
   ·exact .inr ⟨al _ m,e⟩
theorem Lb:∀(names:List (aq×dD))(n:Nat)(Y2:List (aq×af)),p∈Y2->p∈cA n names Y2
 |[],_,_,h=>h
 | (y,k)::r,n,Y2,h=>by
  unfold cA;split
  ·exact Lb r _ _ (al _ h)
  ·exact Lb r _ _ h
theorem Ma:∀(names:List (aq×dD))(n:Nat)(Y2:List (aq×af)),(Y2.Pairwise λx y=>x.2≠y.2)->(∀p∈Y2,p.2<n)->(cA n names Y2).Pairwise λx y=>x.2≠y.2
 |[],_,_,h,_=>h
 | (y,k)::r,n,Y2,h,hl=>by
  unfold cA;split
  ·refine Ma r (n+1) _ (bS.mpr ⟨λp hp=>?_,h⟩) λp hp=>?_
   ·exact λe=>absurd (hl p hp) (by show ¬ p.2<n;rw[<- e];exact bP _)
   ·rcases ar.mp hp with rfl|hp
    ·exact cI _
    ·exact dj (hl p hp)
  ·exact Ma r n Y2 h hl
theorem Mj:∀(names:List (aq×dD))(n:Nat)(Y2:List (aq×af)),((names.map (·.1)).Nodup)->(Y2.map (·.1)).Nodup->(∀p∈Y2,∀k,(p.1,k)∈names->k≠dR)->((cA n names Y2).map (·.1)).Nodup
 |[],_,_,_,h,_=>h
 | (y,k)::r,n,Y2,nd,h,hl=>by
  obtain⟨f,d⟩:=bB.mp nd;unfold cA;by_cases c:(k==dR)=JQ
  ·rw[JV c];have g:k=.cell:=⇑c
   refine Mj r (n+1) _ d (bB.mpr ⟨λm=>?_,h⟩) λp hp a b=>?_
   ·obtain⟨p,hp,e⟩:=aA.mp m;exact hl p hp k (by rw[e];exact av) g
   ·rcases ar.mp hp with rfl|hp
    ·exact absurd (aA.mpr ⟨(y,a),b,rfl⟩) f
    ·exact hl p hp a (al _ b)
  ·rw[JW c];exact Mj r n Y2 d h λp hp a b=>hl p hp a (al _ b)
theorem FO:∀(names:List (aq×dD))(Y2:List (aq×af)),((names.map (·.1)).Nodup)->(Y2.map (·.1)).Nodup->(∀p∈Y2,p.1∉names.map (·.1))->((sC cells names Y2).map (·.1)).Nodup
 |[],_,_,h,_=>h
 | (y,k)::r,Y2,nd,h,hl=>by
  obtain⟨b,a⟩:=bB.mp nd;unfold sC;split
  ·refine FO r _ a (bB.mpr ⟨λm=>?_,h⟩) λp hp=>?_
   ·obtain⟨p,hp,e⟩:=aA.mp m;exact hl p hp (by rw[e];simp)
   ·rcases ar.mp hp with rfl|hp
    ·exact b
    ·exact λm=>hl p hp (al _ m)
  ·exact FO r Y2 a h λp hp m=>hl p hp (al _ m)
theorem LR:∀(names:List (aq×dD))(h:aS)(Y2:List (aq×af)),(x,c)∈cA h.objs.size names Y2->(x,c)∈Y2\/(ms h names).IsCell c JL
 |[],_,_,m=>.inl m
 | (y,k)::r,h,Y2,m=>by
  unfold cA at m;unfold ms;by_cases a:(k==dR)=JQ
  ·rw[JV a] at m ⊢;have e:h.objs.size+1=(h.push { cls:=.type "cell",data:=.cell JL }).objs.size:=(cr ..).symm;rw[e] at m;rcases LR r _ _ m with m|m
   ·rcases ar.mp m with m|m
    ·cases m;exact .inr ⟨_,jf _ _ _ _ (aE _ rfl),rfl⟩
    ·exact .inl m
   ·exact .inr m
  ·rw[JW a] at m ⊢;exact LR r _ _ m
def z7o{l:List (aq×af)}(d:(l.map (·.1)).Nodup)(inj:∀p∈l,∀q∈l,p.2=q.2->p.1=q.1):l.Pairwise λx y=>x.2≠y.2:=by
 induction l with
 |nil=>exact .nil
 | cons p r ih=>
  obtain⟨f,g⟩:=bB.mp d;refine bS.mpr ⟨λq c e=>f ?_,ih g λa h b i=>inj a (al _ h) b (al _ i)⟩;exact aA.mpr ⟨q,c,(inj p av q (al _ c) e).symm⟩
abbrev E5:Obj:={ cls:=.type "dict",data:=.dict #[] }
section
variable{X:Cx}{Xq:List (af×Obj)}{b_:St}{H:Hp}{s:ah}
abbrev Ih(ob:Obj)(h:aS)(names:List (aq×dD)):aS:=ms ((h.push ob).push E5) names
def Vc(c:Obj)(h:aS)(a:List (aq×dD))(b:af)(o:Obj)(e:h.get? b=YP o):(Ih c h a).get? b=YP o:=jf _ _ _ _ (ag _ (ag _ e))
def Y4(a:Obj)(h:aS):((h.push a).push E5).objs.size=h.objs.size+2:=by rw[cr,cr]
def zcb{scope:cu}{ext:List aq}{sl:pU}{F:List af}(I:L2.Inv X Xq b_ H s)(C:∀b∈F,tj X Xq H b)(P:∀b∈F,b<s.heap.objs.size)(g:yN X.env.scope scope (X.N++ext) sl){t:Obj}{u:HO}(Z:t.isFreed=JU)(uv:∀h:aS,h.get? s.heap.objs.size=YP t->o0 X.prog X.w (upd H s.heap.objs.size u) h s.heap.objs.size u):
  L2.Inv (q9 X (X.N++ext) scope (cA (s.heap.objs.size+2) scope.names (sC X.env.cells scope.names [])) (s.heap.objs.size+1) s H F) [] (qQ (b_++aB ext.length JL) sl)
   (upd H s.heap.objs.size u) { s with heap:=Ih t s.heap scope.names }:=by
 have Q:∀x c,X.env.cells.lookup x=YP c->c<s.heap.objs.size:=λx c e=>by
  obtain⟨v,z⟩:=I.cell x c e;exact z.lt
 -- a free name of the block has c_ cell around
 have R:∀x,(x,dq)∈scope.names->∃c,X.env.cells.lookup x=YP c:=λx f=>I.ok.has x (g.frees _ f rfl);have A:∀x c,(x,c)∈sC X.env.cells scope.names []->(x,dq)∈scope.names/\X.env.cells.lookup x=YP c:=λx c hm=>by
  rcases FG _ _ hm with m|⟨m,e⟩
  ·cases m
  ·obtain⟨c',S⟩:=R x m;rw[S] at e;exact⟨m,by rw[e];exact S⟩
 have G:∀x,(x,dq)∈scope.names->∀c,X.env.cells.lookup x=YP c->(x,c)∈sC X.env.cells scope.names []:=λx f c e=>by
  have:=FH (cells:=X.env.cells) scope.names [] f;rw[e] at this;exact this
 have T:((sC X.env.cells scope.names []).map (·.1)).Nodup:=FO _ _ g.nd 'k' (by intro p l;cases l);have J:((cA (s.heap.objs.size+2) scope.names (sC X.env.cells scope.names [])).map (·.1)).Nodup:=Mj _ _ _ g.nd T λp l k hk e=>by
  subst e;have j:=(A p.1 p.2 l).1;have:=zc g.nd j;rw[zc g.nd hk] at this;cases this
 have r:(cA (s.heap.objs.size+2) scope.names (sC X.env.cells scope.names [])).Pairwise λx y=>x.2≠y.2:=by
  refine Ma _ _ _ (z7o T λp l q hq e=>?_) λp l=>ba (Q _ _ (A p.1 p.2 l).2) (iZ _ _);refine I.ok.inj p.1 q.1 p.2 (A p.1 p.2 l).2 ?_;rw[e];exact(A q.1 q.2 hq).2
 have K:∀x c,(cA (s.heap.objs.size+2) scope.names (sC X.env.cells scope.names [])).lookup x=YP c->((x,dq)∈scope.names/\X.env.cells.lookup x=YP c)\/((x,dR)∈scope.names/\s.heap.objs.size+2<=c):=λx c e=>by
  rcases Ln _ _ _ (bq e) with m|m
  ·exact .inl (A x c m)
  ·exact .inr m
 have d:∀a,s.heap.objs.size<=a->H a=JL:=λa ha=>I.hok.fresh ha;have D:=Vc t s.heap scope.names;have U:∀x,(x,dq)∈scope.names->∀c,X.env.cells.lookup x=YP c->(cA (s.heap.objs.size+2) scope.names (sC X.env.cells scope.names [])).lookup x=YP c:=λx f c e=>
  zc J (Lb _ _ _ (G x f c e))
 refine⟨⟨I.ok.mod,g.kind,I.ok.glob,I.ok.blt,eD _,λx y c j L=>name_of_addr r (bq j) (bq L),λx f=>?_,λx c f h=>?_,I.ok.hd,I.ok.frames,.inl rfl,λb n=>⟨?_,λx c e=>?_⟩,I.bs,?_,λb o e n=>?_,λb n z=>?_,I.stack,I.stkFree⟩,
  rfl,I.bare,Un.laid D (ay _) (d _ (ay _)),?_,λx c e=>?_,?_,λx c e=>?_,λp l=>absurd (show p∈([]:List (af×Obj)) from l) 'k',I.hok.laid D (ay _) ?_,?_,I.tk⟩
 ·-- has
  have f:sY (relabel scope X.env) x:=.inr f;rcases VB f with m|m|m
  ·exfalso;have e:=zc g.nd m;have V:(relabel scope X.env).names.lookup x=YP .local:=lookup_relabel_local e;rcases (show(relabel scope X.env).names.lookup x=YP .cell\/(relabel scope X.env).names.lookup x=YP .free by rename_i M;exact M) with q|q
   ·rw[V] at q;cases q
   ·rw[V] at q;cases q
  ·exact h9.mp (gd scope.names _ _ (.inl (zc g.nd m)))
  ·obtain⟨c,O⟩:=R x m;exact⟨c,U x m c O⟩
 ·-- cab
  have f:(scope.names.lookup x==YP .cell)=JQ:=f;rcases K x c h with⟨m,_⟩|⟨_,m⟩
  ·rw[zc g.nd m] at f;cases f
  ·exact aM (iZ _ _) m
 ·exact bb (dj (P b n))
 ·rcases K x c e with⟨_,m⟩|⟨_,m⟩
  ·exact(C b n).2.2.2.2.1 x c m
  ·have M:=P b n;exact λz=>by
    rw[z] at m;exact absurd (ba M (aM (iZ _ 2) m)) (bP _)
 ·exact aM I.ok.bsz I.sz
 ·rcases (C b n).2.2.2.1 with z|z
  ·exact I.ok.noex b o e z
  ·exact absurd (ba (aJ e) (aM I.ok.bsz z)) (bP _)
 ·rcases ar.mp (I.stkSub b z) with q|q
  ·exact(C b n).2.1 q
  ·exact(C b n).2.2.1 q
 ·-- loc
  refine⟨λ_=>JL,?_,λi x v j L h3=>?_⟩
  ·have z:=(Heap.Ns.new (s.heap.push t) (.type "dict")).keeps (jf scope.names _);rw[cr] at z;exact z
  ·obtain⟨B,W⟩:=IF _ _ _ _ L;have E:i<b_.length:=by
    by_cases E:i<b_.length
    ·exact E
    ·rw[bu 'd',eT] at B;split at B<;>cases B
   rw[aL E] at B;have AS:X.N[i]?=YP x:=by
    have j:(X.N++ext)[i]?=YP x:=j;rw[aL (by rw[<- I.len];exact E)] at j;exact j
   rcases VB h3 with m|m|m
   ·exact absurd (g.own i x j (.inl m)) W
   ·exact absurd (g.own i x j (.inr m)) W
   ·obtain⟨m0,hn,hl⟩:=I.loc;have Y:=g.frees _ m rfl;obtain⟨u,ru,lk⟩:=hl i x v AS B (.inr Y);refine⟨u,ru,?_⟩;rcases lk with⟨q,_⟩|⟨q,c,O,z⟩
    ·exfalso;have q:X.env.scope.names.lookup x=YP .local:=q;rcases Y with k|k<;>(rw[q] at k;cases k)
    ·refine .inr ⟨?_,c,U x m c O,z.keeps D⟩;have e:=zc g.nd m;show(relabel scope X.env).names.lookup x=YP .cell\/(relabel scope X.env).names.lookup x=YP .free;unfold relabel;simp only[MQ,e,Option.map_some];split
     ·exact .inl rfl
     ·exact .inr rfl
 ·-- cell
  rcases LR scope.names ((s.heap.push t).push E5) (sC X.env.cells scope.names []) (by rw[Y4];exact bq e) with m|m
  ·obtain⟨v,z⟩:=I.cell x c (A x c m).2;exact⟨v,z.keeps D⟩
  ·exact⟨JL,m⟩
 ·show upd H s.heap.objs.size u (s.heap.objs.size+1)=JL;rw[qe (dB (cI _))];exact d _ (eD _)
 ·rcases K x c e with⟨_,m⟩|⟨_,m⟩
  ·rw[qe (bb (Q x c m))];exact I.freeC x c m
  ·have ne:c≠s.heap.objs.size:=λz=>by
    rw[z] at m;exact absurd m 'd'
   rw[qe ne];exact d c (aM (iZ _ 2) m)
 ·exact uv _ (jf _ _ _ _ (ag _ (aE _ Z)))
 ·show _=(X.N++ext).length;rw[Fm,az,kW,az,I.len]
end
def Af{α:Type}:R α->R α
 |.ok a O=>.ok a O
 |_=>.bad
def Co(ext:Nat)(it0:DI)(g:Tg)(ts:List DT)(cs:List Cl)(em:Em):Sg->Ow->R (List D):=λσ O=>(it0 σ O).bnd λsrc O1=>
 Af (rB src (vh ⟨it0,g,ts⟩ cs em (qQ (σ++aB ext JL) (qM (⟨it0,g,ts⟩::cs)))) (src.size O1) 0 O1 [])
def Cm(ext:Nat)(it0:DI)(g:Tg)(ts:List DT)(cs:List Cl)(te:DE):Sg->Ow->R (List D):=λσ O=>(it0 σ O).bnd λsrc O1=>
 Af (rB src (Bm ⟨it0,g,ts⟩ cs te (qQ (σ++aB ext JL) (qM (⟨it0,g,ts⟩::cs)))) (src.size O1) 0 O1 [])
def MB(ext:Nat)(it0:DI)(g:Tg)(ts:List DT)(cs:List Cl)(te:DE):Co ext it0 g ts cs (A8 te)=Cm ext it0 g ts cs te:=by funext σ O;unfold Co Cm;rw[zhu]
def ZB(b_:St)(n:Nat)(sl:pU)(A:af)(H0:Hp):St->Hp->List af->Prop:=λσ H μ=>(∀j,j∉sl->σ[j]?=(b_++aB n JL)[j]?)/\H0 A=JL/\∃Hz o,Ea A (upd H0 A o) Hz H μ/\∀a∈Hz,∃vs,H0 a=YP (.lst vs)
section
variable{C:xB}{em:Em}
variable{X:Cx}{M:iq}{A:aU}{E:ae->ah->Prop}{s:ah}
def z7i
  (h:Q { scope,locals:=s.heap.objs.size,globals,cells:=cA (s.heap.objs.size+1) scope.names cl,qual,func:=JL,code:=env.code,frame:=env.frame,builtins:=env.builtins } { s with heap:=ms (s.heap.push E5) scope.names }):
  ao M A (newFunctionEnv scope globals cl [] qual JL .none (YP env)) Q E s:=by simp only[newFunctionEnv,mr,if_true];refine aa (wpAny_alloc ?_);refine aa (wpAny_layCells _ (λc a cells=>by cases b:a==dR<;>simp[b]) _ _ _ _ ?_);rw[show({ s with heap:=s.heap.push E5 }:ah).heap.objs.size=s.heap.objs.size+1 from cr ..];simp only[k7,pure_bind];exact aj h
structure RG(X:Cx)(C:xB)(Xq:List (af×Obj))(b_:St)(H:Hp)(Xf μ:List af)(L Cn:af)(Y2:List D)(O:Ow)(s':ah):Prop where
 inv:∃H' e_,L2.Inv X Xq b_ H' s'/\Ext H μ H' e_/\oK X.K H' (L::Xf) e_ O/\H L=JL/\H' Cn=JL/\C.G X.K X.prog X.w L Xf H' e_ Y2
 ns:∃m,s'.heap.Ns Cn m
 loc:Cn≠X.env.locals
 young:X.s₀.heap.objs.size<=Cn
 cel:∀x c,X.env.cells.lookup x=YP c->c≠Cn
 pns:∀p∈X.pn++Xq,p.1≠Cn
def Inv.bare{a:List (af×Obj)}{i:St}{H:Hp}{s':ah}{C:af}{h':aS}(I:L2.Inv X a i H s')(j:de C s'.heap h')(k:H C=JL)(f:C≠X.env.locals)(d:X.s₀.heap.objs.size<=C)(g:∀x c,X.env.cells.lookup x=YP c->c≠C)
  (h:∀p∈X.pn++a,p.1≠C):L2.Inv X a i H { s' with heap:=h' }:=I.turned (t':=s'.toks) (λb o l e=>(j.2 b l).trans e) k f (.inr d) g h
def zak(W:Cj C)
  {it:af} {B:List af} {tn:Nat->aS->Prop} {J:It} {RR:ae->af->Result->ah->Prop}
  (pX:X.calm=JQ) (Y:yN X.env.scope scope (X.N++ext) (qM (⟨it0,g,ts⟩::cs)))
  (uh:∀cells Cn,PG (q9 X (X.N++ext) scope cells Cn s H B) tg (g.rd X.K)/\cD (λe t=>rY (q9 X (X.N++ext) scope cells Cn s H B) qN e t) ifs ts/\o5 (q9 X (X.N++ext) scope cells Cn s H B) gs cs/\∀A Xf k,(⟨tg,iter,ifs,0⟩::gs:List bR)[k]?=JL->AF (q9 X (X.N++ext) scope cells Cn s H B) (ZB b_ ext.length (qM (⟨it0,g,ts⟩::cs)) A H) C A Xf (C.ex (⟨tg,iter,ifs,0⟩::gs) scope pos) (⟨tg,iter,ifs,0⟩::gs) em k [])
  (I:L2.Inv X Xq b_ H s) (e1:oN X.K H Xf μ σ b_) (Q:oK X.K H Xf μ O) (T:yv X.prog X.w X.K tg J B it tn) (st:tn 0 s.heap) (zD:∀b∈B,tj X Xq H b) (sa:oU X.K J src H Xf μ)
  (hw:rB src (vh ⟨it0,g,ts⟩ cs em (qQ (σ++aB ext.length JL) (qM (⟨it0,g,ts⟩::cs)))) (src.size O) 0 O []=.ok Y2 O2)
  (hRR:∀f s',RG X C Xq b_ H Xf μ s.heap.objs.size (s.heap.objs.size+1) Y2 O2 s'->RR (.ref s.heap.objs.size) (s.heap.objs.size+1) (.ok f) s'):
  ao (au X.prog X.w) X.A C.new (λac yd=>ao (au X.prog X.w) X.A (newFunctionEnv scope X.env.globals (sC X.env.cells scope.names []) [] X.env.qual JL .none (YP X.env)) (λHn Nc=>
   codeAny (au X.prog X.w) X.A (.compStart (C.ex (⟨tg,iter,ifs,0⟩::gs) scope pos) 0 (.ref it) ac { Hn with scope:=relabel scope X.env }) (RR ac Hn.locals) Nc) E yd) E s:=by
 refine W.new λF vW uv=>?_;refine z7i ?_;have qw:(s.heap.push F).objs.size=s.heap.objs.size+1:=cr ..;have rE:∀b∈B,b<s.heap.objs.size:=λb Y=>by
  obtain⟨o,ho,_⟩:=T.obj 0 _ st b Y;exact aJ ho
 have IB:=zcb (u:=C.ho X.prog X.w s.heap.objs.size) I zD rE Y vW (λh=>uv H h _ I.big);have D:H s.heap.objs.size=JL:=I.hok.fresh (ay _);have rh:∀b∈B,b≠s.heap.objs.size:=λb Y=>bb (rE b Y);obtain⟨b1,b2,b3,b4⟩:=uh (cA (s.heap.objs.size+2) scope.names (sC X.env.cells scope.names [])) (s.heap.objs.size+1);generalize l:q9 X (X.N++ext) scope (cA (s.heap.objs.size+2) scope.names (sC X.env.cells scope.names [])) (s.heap.objs.size+1) s H B=y at IB b1 b2 b3 b4;have Z:y.prog=X.prog:=by rw[<- l];rfl
 have eW:y.w=X.w:=by rw[<- l];rfl
 have G:y.K=X.K:=by rw[<- l];rfl
 have eA:y.A=X.A:=by rw[<- l];rfl
 have ex:y.xe=λ_ _=>False:=by rw[<- l];rfl
 have ec:y.calm=JQ:=by rw[<- l];exact pX
 have Dh:y.env={ scope:=relabel scope X.env,locals:=s.heap.objs.size+1,globals:=X.env.globals,cells:=cA (s.heap.objs.size+2) scope.names (sC X.env.cells scope.names []),qual:=X.env.qual,func:=JL,code:=X.env.code,frame:=X.env.frame,builtins:=X.env.builtins }:=by rw[<- l];rfl
 have Hd:({ ({ scope,locals:=(s.heap.push F).objs.size,globals:=X.env.globals,cells:=cA ((s.heap.push F).objs.size+1) scope.names (sC X.env.cells scope.names []),qual:=X.env.qual,func:=JL,code:=X.env.code,frame:=X.env.frame,builtins:=X.env.builtins }:Env) with scope:=relabel scope X.env }:Env)=y.env:=by
  rw[Dh,qw]
 show codeAny _ _ (.compStart _ 0 _ _ ({ ({ scope,locals:=(s.heap.push F).objs.size,globals:=X.env.globals,cells:=cA ((s.heap.push F).objs.size+1) scope.names (sC X.env.cells scope.names []),qual:=X.env.qual,func:=JL,code:=X.env.code,frame:=X.env.frame,builtins:=X.env.builtins }:Env) with scope:=relabel scope X.env }:Env)) (RR _ (s.heap.push F).objs.size) _;rw[Hd,qw];have Nu:Mv H Xf μ (upd H s.heap.objs.size (C.ho X.prog X.w s.heap.objs.size)) (s.heap.objs.size::Xf) μ:=(Mv.hide D).trans ⟨⟨[],by simp⟩,λb o h _ n2 _=>by rw[qe (λz=>n2 (by simp[z]))];exact h,λ_ m=>.inl m,λ_ m=>.inl m,yF,λ_ t=>t.upd (.inl D)⟩;have c2:oK X.K (upd H s.heap.objs.size (C.ho X.prog X.w s.heap.objs.size)) (s.heap.objs.size::Xf) μ O:=by
  refine⟨Q.len,Q.nd,λa m z=>?_,λa m=>?_,λk a e=>?_⟩
  ·rcases ar.mp z with rfl|z
   ·exact(Q.not_in D).2 m
   ·exact Q.nh a m z
  ·rcases ar.mp m with rfl|m
   ·rw[rS];simp
   ·exact yF a (Q.ht a m)
  ·obtain⟨ds,vs,S,U,h3⟩:=Q.at_ k a e;exact⟨ds,vs,S,by rw[qe (sO U D)];exact U,h3.mv Nu⟩
 have e2:oN X.K (upd H s.heap.objs.size (C.ho X.prog X.w s.heap.objs.size)) (s.heap.objs.size::Xf) μ (qQ (σ++aB ext.length JL) (qM (⟨it0,g,ts⟩::cs))) (qQ (b_++aB ext.length JL) (qM (⟨it0,g,ts⟩::cs))):=by
  refine⟨by rw[Fm,Fm,az,az,e1.len];simp,λi d h=>?_⟩;obtain⟨g1,g2⟩:=IF _ _ _ _ h;have hi:i<σ.length:=by
   by_cases hi:i<σ.length
   ·exact hi
   ·rw[bu 'd',eT] at g1;split at g1<;>cases g1
  rw[aL hi] at g1;obtain⟨v,S,U⟩:=e1.at_ i d g1;exact⟨v,by rw[LP _ _ _ g2,aL (by rw[<- e1.len];exact hi)];exact S,U.mv Nu⟩
 have Oe:∀b∈B,tj y [] (upd H s.heap.objs.size (C.ho X.prog X.w s.heap.objs.size)) b:=λb L=>by
  obtain⟨f0,f1,f2,f3,f4,f5⟩:=zD b L;have S:=IB.ok.exf;refine⟨by rw[qe (rh b L)];exact f0,?_,?_,.inl ?_,?_,?_⟩
  ·exact(S b (by rw[<- l];exact L)).1
  ·rw[<- l];exact λz=>IB.ok.exfs b (by rw[<- l];exact L) (by rw[<- l];exact z)
  ·rw[<- l];exact L
  ·exact(S b (by rw[<- l];exact L)).2
  ·rw[<- l];exact λp hp=>absurd (show p∈([]:List (af×Obj)) from hp) 'k'
 have g_:tn 0 (Ih F s.heap scope.names):=T.keep _ _ _ st λb _ o e=>Vc _ _ _ _ _ e;have T':yv y.prog y.w y.K tg J B it tn:=by rw[Z,eW,G];exact T
 have WU:∀(qV s_:St)H1 f_ H2 qc,ZB b_ ext.length (qM (⟨it0,g,ts⟩::cs)) s.heap.objs.size H qV H1 f_->(∀j,j∉qM (⟨it0,g,ts⟩::cs)->s_[j]?=qV[j]?)->Ea s.heap.objs.size H1 f_ H2 qc->ZB b_ ext.length (qM (⟨it0,g,ts⟩::cs)) s.heap.objs.size H s_ H2 qc:=
  λqV s_ H1 f_ H2 qc ⟨z1,z2,Hz,o,z3,z4⟩ k1 x1=>⟨λj hj=>(k1 j hj).trans (z1 j hj),z2,Hz,o,z3.trans x1,z4⟩
 have key:=RK (X:=y) W (A:=s.heap.objs.size) (Xf:=Xf) (gens:=⟨tg,iter,ifs,0⟩::gs) (scope:=scope) (pos:=pos) (em:=em) (k:=0) (c:=⟨it0,g,ts⟩) (cs:=cs) ex ec rfl (by rw[G];exact b1) b2 WU (R4 W ex ec (sl:=qM (⟨it0,g,ts⟩::cs)) WU (b4 _ _) b3 (λj m=>aC _ m) 1 rfl) (by
   cases b3 with
   |nil=>exact .inl rfl
   |cons _ _ _ _ _=>exact .inr ⟨_,_,_,rfl⟩) T' [] { s with heap:=Ih F s.heap scope.names } (qQ (b_++aB ext.length JL) (qM (⟨it0,g,ts⟩::cs))) (upd H s.heap.objs.size (C.ho X.prog X.w s.heap.objs.size)) μ (qQ (σ++aB ext.length JL) (qM (⟨it0,g,ts⟩::cs))) O [] (src.size O)
   (λs'=>RG X C Xq b_ H Xf μ s.heap.objs.size (s.heap.objs.size+1) Y2 O2 s') g_ Oe (by rw[G];exact sa.mv Nu) ⟨λj hj=>LP _ _ _ hj,D,μ,_,.refl,λa m=>by
    obtain⟨k,e⟩:=List.getElem?_of_mem m;obtain⟨_,vs,_,U,_⟩:=Q.at_ k a e;exact⟨vs,U⟩⟩ ⟨IB,by rw[G];exact e2,by rw[G];exact c2,by rw[G,Z,eW];exact W.g0⟩ ?_
 ·have Gg:=Tx (X:=y) W (gens:=⟨tg,iter,ifs,0⟩::gs) (scope:=scope) (pos:=pos) (env:=y.env) rfl T' 0 g_ key;rw[Z,eW,eA] at Gg;exact ef Gg λr s' ⟨f,hr,q⟩=>by subst hr;exact hRR f s' q
 ·rw[hw];intro s' qj H' e_ V x' c' g' l' k';rw[G] at c';rw[G,Z,eW] at g';have xe:Ext H μ H' e_:=⟨x'.pre,λb o h n ht=>x'.kept b o (by rw[qe (sO h D)];exact h) n (sO h D) ht,λb m=>(x'.fresh b m).imp id λz=>by
   by_cases q:b=s.heap.objs.size
   ·rw[q];exact D
   ·rw[qe q] at z;exact z,λb h=>x'.there b (yF b h),λP t=>x'.tab P (t.upd (.inl D))⟩
  have un:Un (rP X.stack) B H H' s.heap s'.heap:=by
   have:=V.base;rw[<- l] at this;exact this
  have os:s'.os=s.os:=by
   have:=V.os;rw[<- l] at this;exact this
  have hok:HOk X.prog X.w H' s'.heap:=by
   have:=V.hok;rw[Z,eW] at this;exact this
  have IX:L2.Inv X Xq b_ H' s':=I.call' os un hok V.bare λb L=>by
   obtain⟨f0,f1,f2,f3,f4,f5⟩:=zD b L;exact⟨f3,f1,f4,f5⟩
  have R:∀b,b<s.heap.objs.size->b≠s.heap.objs.size+1:=λb h=>bb (dj h);refine⟨⟨H',e_,IX,xe,c',D,?_,g'⟩,?_,?_,?_,λx c e=>?_,λp hp=>?_⟩
  ·have:=V.free;rw[Dh] at this;exact this
  ·obtain⟨m,hn,_⟩:=V.loc;rw[Dh] at hn;exact⟨m,hn⟩
  ·exact(R _ I.lt).symm
  ·exact aM I.sz (eD _)
  ·obtain⟨v,z⟩:=I.cell x c e;exact R _ z.lt
  ·exact R _ (aJ (I.pin p hp).1)
end
section
variable{X:Cx}{Ex:Nat->Hp->Prop}
def Y9{α:Type}{r:R α}{a:α}{O:Ow}(h:Af r=.ok a O):r=.ok a O:=by
 cases r with
 |ok _ _=>exact h
 |exc _ _=>cases h
 |bad=>cases h
def zgK{α:Type}{r:R α}{c:Nat}{O:Ow}(h:Af r=.exc c O):False:=by cases r<;>cases h
def Ie(C:xB)(Ex:Nat->Hp->Prop)(K:ak)(P:aK)(w:aT)(H:Hp)(Xf μ:List af)(r:R (List D))(Q:af->Hp->Prop):Prop:=match r with
 |.ok Y2 O'=>∀L H' e_,H L=JL->Ext H μ H' e_->oK K H' (L::Xf) e_ O'->C.G K P w L Xf H' e_ Y2->Q L H'
 |.exc c O'=>∀H' e_,Ext H μ H' e_->oK K H' Xf e_ O'->Ex c H'
 |.bad=>False
def Ext.none{H H':Hp}{μ a:List af}(e:Ext H μ H' a){L:af}(h:H' L=jy):H L=jy:=by
 cases q:H L with
 |none=>rfl
 |some o=>exact absurd h (e.there L (by rw[q];simp))
def Ja{C:xB}(co:Cj C){em:Em}{r a:aR}{i:List aR}{B:List bR}{scope:cu}{pos pY:Pos}{ext:List aq}{it0:DI}{g:Tg}{ts:List DT}{cs:List Cl}{d:List (af×Obj)}{l:St}{H:Hp}{s:ah}{Xf μ:List af}{σ:Sg}{O:Ow}
  {use:Option (ae->Sem Unit)} {Q:ae->ah->Prop} (pX:X.calm=JQ) (hi:ui X Ex r a it0) (F:yN X.env.scope scope (X.N++ext) (qM (⟨it0,g,ts⟩::cs)))
  (uh:∀cells h s' H' o,L2.Inv X d l H' s'->(∀b∈o,tj X d H' b)->(∃P,Ext H μ H' P)->PG (q9 X (X.N++ext) scope cells h s' H' o) r (g.rd X.K)/\cD (λe t=>rY (q9 X (X.N++ext) scope cells h s' H' o) qN e t) i ts/\o5 (q9 X (X.N++ext) scope cells h s' H' o) B cs/\∀A Xf k,(⟨r,a,i,0⟩::B:List bR)[k]?=JL->AF (q9 X (X.N++ext) scope cells h s' H' o) (ZB l ext.length (qM (⟨it0,g,ts⟩::cs)) A H') C A Xf (C.ex (⟨r,a,i,0⟩::B) scope pos) (⟨r,a,i,0⟩::B) em k [])
  (hs:∀x,cq a X.env x=pure x) (I:L2.Inv X d l H s) (R:oN X.K H Xf μ σ l) (c1:oK X.K H Xf μ O)
  (q:Ie C Ex X.K X.prog X.w H Xf μ (Co ext.length it0 g ts cs em σ O)
   (λ(L:af)H'=>∀s' h,L2.Inv X d l H' s'->(∃m,s'.heap.Ns h m)->H' h=JL->h≠X.env.locals->X.s₀.heap.objs.size<=h->(∀x c,X.env.cells.lookup x=YP c->c≠h)->(∀p∈X.pn++d,p.1≠h)->
    compPost (au X.prog X.w) X.A X.xe use Q (.ref L) h (.ok .next) s')):
  ao (au X.prog X.w) X.A (comprehension (C.ex (⟨r,a,i,0⟩::B) scope pos) scope X.env pY C.new JU (eval a X.env) use) Q X.xe s:=by
 have qm:∀y∈scope.names,y.2=.free->∃c,X.env.cells.lookup y.1=YP c:=λy hy hf=>by
  obtain⟨n,k⟩:=y;subst hf;exact I.ok.has n (F.frees _ hy rfl)
 refine wpAny_comprehension_free (co.cl _ _ _) hs (MO qm) F.kind (λx hx hl=>?_) ?_
 ·obtain⟨n,k⟩:=x;subst hl;exact zc F.nd hx
 unfold Co at q;cases j:it0 σ O with
 |bad=>rw[j] at q;exact ai q
 | exc S O'=>
  rw[j] at q;refine pZ (hi.out d s l H (λJ D=>False) I ⟨Xf,μ,σ,O,R,c1,by rw[j];exact q⟩) λv s1 U=>pZ U λGh V W=>?_;obtain⟨it,o,tn,J,H2,e,Y,T,qD,Z,z⟩:=W;exact z.elim
 | ok src O2=>
  rw[j] at q;refine pZ (hi.out d s l H (λJ D=>∃E,Ext H μ D E/\oK X.K D Xf E O2/\oU X.K J src D Xf E) I ⟨Xf,μ,σ,O,R,c1,by rw[j];exact λJ D E x c sa=>⟨E,x,c,sa⟩⟩) λv s1 U=>pZ U λGh V W=>?_;obtain⟨it,o,tn,J,H2,e,Y,T,qD,Z,qc,G,c2,sa⟩:=W;subst e;have p:Ie C Ex X.K X.prog X.w H Xf μ (Af (rB src (vh ⟨it0,g,ts⟩ cs em (qQ (σ++aB ext.length JL) (qM (⟨it0,g,ts⟩::cs)))) (src.size O2) 0 O2 [])) _:=q;cases M:Af (rB src (vh ⟨it0,g,ts⟩ cs em (qQ (σ++aB ext.length JL) (qM (⟨it0,g,ts⟩::cs)))) (src.size O2) 0 O2 []) with
  |bad=>rw[M] at p;exact ai p
  |exc S O'=>exact(zgK M).elim
  | ok Y2 O3=>
   rw[M] at p;refine zak co pX F (λcells h=>uh cells h _ _ _ Y Z ⟨_,G⟩) Y (R.ext G) c2 T qD Z sa (Y9 M) λf s' u=>?_;obtain⟨H',P,I',x',S,nL,nC,gv⟩:=u.inv;have:=p (V.heap.objs.size) H' P (G.none nL) (G.trans x') S gv s' (V.heap.objs.size+1) I' u.ns nC u.loc u.young u.cel u.pns;cases use<;>exact this
def Vj(c:oK K H (L::Xf) μ O)(a:L∉Xf)(h:H L=YP (.lst vs))(q:oM K H (L::Xf) μ ds vs):XV K H Xf μ (.lst ds) (.ref L):=by exact⟨L,vs,rfl,.inl ⟨.inl h,a,λm=>c.nh L m 'k'⟩,q.mv .unhide⟩
mutual
theorem XV.swap:∀{d:D}{v:V},XV K H (L::Xf) μ d v->XV K H Xf (μ++[L]) d v
 |.non,_,h=>h
 |.bl _,_,h=>h
 |.int _,_,h=>h
 |.str _,_,h=>h
 | .lst ds,v,h=>by
  unfold XV at h ⊢;obtain⟨a,c,r,l,q⟩:=h;refine⟨a,c,r,l.imp (λz=>⟨z.1,λm=>z.2.1 (al _ m),λm=>?_⟩) id,oM.swap q⟩;rcases aP.mp m with m|m
  ·exact z.2.2 m
  ·exact z.2.1 (by simp at m;simp[m])
 | .tup ds,v,h=>by
  unfold XV at h ⊢;obtain⟨a,c,r,l,q⟩:=h;refine⟨a,c,r,l.imp (λz=>⟨z.1,λm=>z.2.1 (al _ m),λm=>?_⟩) id,oM.swap q⟩;rcases aP.mp m with m|m
  ·exact z.2.2 m
  ·exact z.2.1 (by simp at m;simp[m])
 | .own k,v,h=>by
  unfold XV at h ⊢;obtain⟨a,r,q⟩:=h;exact⟨a,r,by rw[aL (am.mp q).1];exact q⟩
 | .dct,v,h=>by
  unfold XV at h ⊢;obtain⟨a,r,q,b,e⟩:=h;refine⟨a,r,q,λm=>b (al _ m),λm=>?_⟩;rcases aP.mp m with m|m
  ·exact e m
  ·exact b (by simp at m;simp[m])
 | .exn C,v,h=>by
  unfold XV at h ⊢;obtain⟨a,f,r,g,q,b,e⟩:=h;refine⟨a,f,r,g,q,λm=>b (al _ m),λm=>?_⟩;rcases aP.mp m with m|m
  ·exact e m
  ·exact b (by simp at m;simp[m])
 | .tab P,v,h=>by
  unfold XV at h ⊢;exact h
 | .map ks ds,v,h=>by
  unfold XV at h ⊢;obtain⟨a,c,r,q,b,e,i,d⟩:=h;refine⟨a,c,r,q,λm=>b (al _ m),λm=>?_,i,oM.swap d⟩;rcases aP.mp m with m|m
  ·exact e m
  ·exact b (by simp at m;simp[m])
 |.adr _,_,h=>h
theorem oM.swap:∀{ds:List D}{vs:List V},oM K H (L::Xf) μ ds vs->oM K H Xf (μ++[L]) ds vs
 |[],_,h=>h
 | d::ds,vs,h=>by
  unfold oM at h ⊢;obtain⟨v,r,a,b,c⟩:=h;exact⟨v,r,a,XV.swap b,oM.swap c⟩
end
def oK.swap(c:oK K H (L::Xf) μ O)(f:L∉Xf)(h:H L=YP (.lst vs))(q:oM K H (L::Xf) μ ds vs):oK K H Xf (μ++[L]) (O++[ds]):=by
 have g:L∉μ:=λm=>c.nh L m 'k';refine⟨by simp[c.len],?_,λa m=>?_,λa m=>c.ht a (al _ m),λk a e=>?_⟩
 ·rw[fG];refine⟨c.nd,by simp,λa i b j=>?_⟩;have:b=L:=⇑j
  subst this;rintro rfl;exact g i
 ·rcases aP.mp m with m|m
  ·exact λz=>c.nh a m (al _ z)
  ·have:a=L:=⇑m
   subst this;exact f
 ·by_cases d:k<μ.length
  ·rw[aL d] at e;obtain⟨l,n,o,p,r⟩:=c.at_ k a e;exact⟨l,n,by rw[aL (by rw[<- c.len];exact d)];exact o,p,r.swap⟩
  ·rw[bu 'd'] at e;have s:k-μ.length=0:=by
    have:=(am.mp e).1;simp at this;lia
   rw[s] at e;simp at e;subst e;refine⟨ds,vs,?_,h,q.swap⟩;have:k=O.length:=by have:=c.len;lia
   subst this;simp
def Ext.grow(e:Ext H μ H' e_)(h:H L=jy):Ext H μ H' (e_++[L]):=by
 obtain⟨a,rfl⟩:=e.pre;refine⟨⟨a++[L],by simp⟩,e.kept,λb m=>?_,e.there,e.tab⟩;rcases aP.mp m with m|m
 ·exact e.fresh b m
 ·have:b=L:=⇑m
  subst this;exact .inr h
def yw(o:Bool)(r:R (List D)):R D:=r.bnd λY2 O1=>if o=JQ then .ok (.own O1.length) (O1++[Y2]) else .ok (.lst Y2) O1
def T8(f:oK K H Xf μ O)(q:qY Ex K H Xf μ (yw o r) Q)(h:∀L H',Q (.ref L) H'->Q1 L H'):Ie (Cc elt) Ex K P w H Xf μ r Q1:=by
 cases r with
 |bad=>exact q
 |exc c' O'=>exact q
 | ok Y2 O'=>
  intro L H' g a x c ⟨i,b,d⟩;have e:L∉Xf:=λm=>f.ht L m a;cases o with
  |false=>exact h L H' (post.ok (q) x c.unhide (Vj c e b d))
  |true=>exact h L H' (post.ok (q) (x.grow a) (c.swap e b d) (FN c.len))
def zcq(k:oK K H Xf μ O)(b:oN K H Xf μ σ b_)(q:oR Ex K H Xf μ ((yw o r).bnS λd O1=>.nx (σ.set i (YP d)) O1) E)(h:∀L H',E.nx (b_.set i (YP (.ref L))) H'->Q1 L H'):
  Ie (Cc elt) Ex K P w H Xf μ r Q1:=by
 cases r with
 |bad=>exact q
 |exc c' O'=>exact q
 | ok Y2 O'=>
  intro L H' e a x c ⟨l,f,g⟩;have j:L∉Xf:=λm=>k.ht L m a;cases o with
  | false=>
   exact h L H' (q _ H' e x ((b.ext x).set (Vj c j f g) i) c.unhide)
  | true=>
   exact h L H' (q _ H' (e++[L]) (x.grow a) ((b.ext (x.grow a)).set (FN c.len) i) (c.swap j f g))
def KN{d f a:aR}{b:List aR}{h:List bR}{scope:cu}{pos:Pos}{ext:List aq}{g:Tg}{ts:List DT}{cs:List Cl}{te:DE}{Z:af->Hp->St->Hp->List af->Prop}
  (i:∀cells C s H c,PG (q9 X (X.N++ext) scope cells C s H c) f (g.rd X.K)/\cD (λe t=>rY (q9 X (X.N++ext) scope cells C s H c) qN e t) b ts/\o5 (q9 X (X.N++ext) scope cells C s H c) h cs/\PD (q9 X (X.N++ext) scope cells C s H c) qN d te) (cells Cn s H c):
  PG (q9 X (X.N++ext) scope cells Cn s H c) f (g.rd X.K)/\cD (λe t=>rY (q9 X (X.N++ext) scope cells Cn s H c) qN e t) b ts/\o5 (q9 X (X.N++ext) scope cells Cn s H c) h cs/\∀A Xf k,(⟨f,a,b,0⟩::h:List bR)[k]?=JL->AF (q9 X (X.N++ext) scope cells Cn s H c) (Z A H) (Cc d) A Xf ((Cc d).ex (⟨f,a,b,0⟩::h) scope pos) (⟨f,a,b,0⟩::h) (A8 te) k []:=
 let ⟨h1,h2,h3,h4⟩:=i cells Cn s H c
 ⟨h1,h2,h3,λ_ _ _ j=>zet rfl h4.z j⟩
def qp(o:Bool)(ext:Nat)(it0:DI)(g:Tg)(ts:List DT)(cs:List Cl)(te:DE):DE:=λσ O=>yw o (Cm ext it0 g ts cs te σ O)
def zgx(o:Bool)(ext:List aq)(d:X.calm=JQ)(hi:ui X Ex tg iter it0)(f:yN X.env.scope scope (X.N++ext) (qM (⟨it0,g,ts⟩::cs)))
  (h:∀cells C s H a,PG (q9 X (X.N++ext) scope cells C s H a) tg (g.rd X.K)/\cD (λe t=>rY (q9 X (X.N++ext) scope cells C s H a) qN e t) ifs ts/\o5 (q9 X (X.N++ext) scope cells C s H a) gs cs/\PD (q9 X (X.N++ext) scope cells C s H a) qN elt te)
  (i:∀x,cq iter X.env x=pure x:=by intro _;rfl):PD X Ex (.ListComp elt (⟨tg,iter,ifs,0⟩::gs) scope pos) (qp o ext.length it0 g ts cs te):=by refine⟨?_⟩;rintro b s E H Q I ⟨j,F,G,O,k,c,q⟩;unfold qp at q;rw[<- MB] at q;refine Ja (Mi elt) d hi f (λcells l s H a _ _ _=>KN h cells l s H a) i I k c (T8 c q λL n p J C r u v w y z A=>?_);obtain⟨m,B⟩:=u;exact⟨m,B,λM D=>⟨.ref L,n,Inv.bare r D v w y z A,rfl,p⟩⟩
def z8n(o:Bool)(ext:List aq)(r:X.calm=JQ)(u:X.N.Nodup)(w:X.N[i]?=YP y)(f:X.env.scope.names.lookup y=YP .local)
  (hi:ui X Ex tg iter it0) (A:yN X.env.scope scope (X.N++ext) (qM (⟨it0,g,ts⟩::cs)))
  (B:∀cells C s H b,PG (q9 X (X.N++ext) scope cells C s H b) tg (g.rd X.K)/\cD (λe t=>rY (q9 X (X.N++ext) scope cells C s H b) qN e t) ifs ts/\o5 (q9 X (X.N++ext) scope cells C s H b) gs cs/\PD (q9 X (X.N++ext) scope cells C s H b) qN elt te)
  (D:swapsWith (.ListComp elt (⟨tg,iter,ifs,0⟩::gs) scope pos) (YP (.Name y py)) tS.line X.env=pure JQ)
  (F:∀x,cq iter X.env x=pure x:=by intro _;rfl):vd X Ex (.Assign [.Name y py] (.ListComp elt (⟨tg,iter,ifs,0⟩::gs) scope pos) tS) (qo i (qp o ext.length it0 g ts cs te)):=by
 refine⟨?_⟩;rintro h s b_ H E I ⟨c,G,j,O,k,l,q⟩;rw[k8 _ _ _ _ D];refine aa (fA (aa ?_));have q:oR Ex X.K H c G ((yw o (Cm ext.length it0 g ts cs te j O)).bnS λd J=>.nx (j.set i (YP d)) J) E:=q;rw[<- MB] at q;refine aa (cj (Ja (Mi elt) r hi A (λcells M s H b _ _ _=>KN B cells M s H b) F I k l (zcq l k q λL P Q R C S T U n V p W=>?_)) (λ_ R Y=>aj (aj Y)) λ_ _ e=>e);obtain⟨m,Z⟩:=T;refine jS (Mz (v:=.ref L) S u w (.inl f) rfl (λrD OV zp=>?_) (.inr f));obtain⟨a,CQ,ha⟩:=zp;have OC:C≠a:=by
  rcases ha with z|z
  ·rw[z];exact n
  ·exact λe=>p y a z e.symm
 refine⟨m,Z.sameBut CQ OC,λh' AW=>?_⟩;exact⟨_,P,Inv.bare OV AW U n V p W,Q⟩
end
noncomputable def qx{α β:Type}(f:α->Option β):List α->Option (List β)
 |[]=>YP []
 | x::xs=>match f x,qx f xs with
  |some p,YP ps=>YP (p::ps)
  |_,_=>JL
def zQ(cs:pU):Option ez:=if cs.all (· < 1114112)=JQ then YP (.str ⟨cs.toArray⟩) else JL
def rA(O:Ow):Nat->D->Option ez
 | 0,d=>match d with
  |.non=>YP .none
  |.bl b=>YP (.bool b)
  |.int i=>YP (.int i)
  |.str cs=>zQ cs
  |_=>JL
 | n+1,d=>match d with
  |.non=>YP .none
  |.bl b=>YP (.bool b)
  |.int i=>YP (.int i)
  |.str cs=>zQ cs
  |.lst ds=>(qx (rA O n) ds).map .list
  |.tup ds=>(qx (rA O n) ds).map .tuple
  | .own k=>match O[k]? with
   |some ds=>(qx (rA O n) ds).map .list
   |none=>JL
  |.dct=>JL
  |.exn _=>JL
  |.tab _=>JL
  |.map _ _=>JL
  |.adr _=>JL
section
variable{X:Cx}{Xq:List (af×Obj)}{b_:St}{H:Hp}{s:ah}{Xf μ:List af}{O:Ow}
theorem Jq(I:L2.Inv X Xq b_ H s)(f:∀(d:D)(v:V)(u:ae)(p:ez),XV X.K H Xf μ d v->RelV v u->rA O n d=YP p->∃b,Reads s.heap u p b/\p.canLay0=JQ/\p.depth<=n):
  ∀(ds:List D)(vs:List V)(c:List ae)(a:List ez),oM X.K H Xf μ ds vs->oO vs c->qx (rA O n) ds=YP a->∃b,ReadsAll s.heap c a b/\mQ a=JQ/\nN a<=n
 | [],vs,c,a,h,r,e=>by
  unfold oM at h;subst h;cases r;cases e;exact⟨[],.nil,rfl,cw _⟩
 | d::ds,vs,c,a,h,r,e=>by
  obtain⟨v,t,rfl,g,i⟩:=h;cases r with
  | cons r1 r2=>
   unfold qx at e;split at e
   ·rename_i p j k l;cases e;obtain⟨b,m,o,q⟩:=f d v _ p g r1 k;obtain⟨w,x,y,z⟩:=Jq I f ds t _ j i r2 l;refine⟨b++w,.cons m x,?_,?_⟩
    ·unfold mQ;rw[o,y];rfl
    ·unfold nN;exact Nat.max_le.mpr ⟨q,z⟩
   ·cases e
def Vt(e:zQ cs=YP p):∃a,Reads s.heap (.str ⟨cs.toArray⟩ t) p a/\p.canLay0=JQ/\p.depth<=n:=by
 unfold zQ at e;split at e
 ·rename_i b;cases e;exact⟨[],.str _ _,by unfold jq PyData.strOk;simpa using b,cw _⟩
 ·cases e
def BB(I:L2.Inv X Xq b_ H s)(c:oK X.K H Xf μ O):∀(n:Nat)(d:D)(v:V)(u:ae)(p:ez),XV X.K H Xf μ d v->RelV v u->rA O n d=YP p->∃B,Reads s.heap u p B/\p.canLay0=JQ/\p.depth<=n:=by
 intro n
 induction n with
 | zero=>
  intro d v u p h r e;cases d with
  |non=>unfold XV at h;subst h;cases r;cases e;exact⟨[],.none,rfl,cw _⟩
  |bl b=>unfold XV at h;subst h;cases r;cases e;exact⟨[],.bool _,rfl,cw _⟩
  |int b=>unfold XV at h;subst h;obtain⟨t,rfl⟩:=r;cases e;exact⟨[],.int _ _,rfl,cw _⟩
  | str cs=>
   unfold XV at h;subst h;obtain⟨t,rfl⟩:=r;exact Vt (e)
  |_=>cases e
 | succ n ih=>
  intro d v u p h r e;cases d with
  |non=>unfold XV at h;subst h;cases r;cases e;exact⟨[],.none,rfl,cw _⟩
  |bl b=>unfold XV at h;subst h;cases r;cases e;exact⟨[],.bool _,rfl,cw _⟩
  |int b=>unfold XV at h;subst h;obtain⟨t,rfl⟩:=r;cases e;exact⟨[],.int _ _,rfl,cw _⟩
  | str cs=>
   unfold XV at h;subst h;obtain⟨t,rfl⟩:=r;exact Vt (e)
  | lst f=>
   obtain⟨a,i,rfl,l,q⟩:=h;cases r;have e:(qx (rA O n) f).map fP=YP p:=e;cases g:qx (rA O n) f with
   |none=>rw[g] at e;cases e
   | some ps=>
    rw[g] at e;cases e;obtain⟨j,m,⟨o,k,w,x,F,y⟩,C⟩:=I.list l.sq;obtain⟨B,z,A,E⟩:=Jq I ih f i j ps q m g;exact⟨_,.list w x y ⇑z,by unfold jq;exact A,by unfold mw;lia⟩
  | tup f=>
   obtain⟨a,i,rfl,l,q⟩:=h;cases r;have e:(qx (rA O n) f).map ik=YP p:=e;cases g:qx (rA O n) f with
   |none=>rw[g] at e;cases e
   | some ps=>
    rw[g] at e;cases e;obtain⟨j,m,⟨o,w,x,k,y⟩,C⟩:=I.tuple l.sq;obtain⟨B,z,A,E⟩:=Jq I ih f i j ps q m g;exact⟨_,.tuple w x y ⇑z,by unfold jq;exact A,by unfold mw;lia⟩
  | own k=>
   obtain⟨a,rfl,G⟩:=h;cases r;obtain⟨f,i,J,L,M⟩:=c.at_ k a G;have e:(match O[k]? with|some f=>(qx (rA O n) f).map fP|none=>JL)=YP p:=e;rw[J] at e;cases g:qx (rA O n) f with
   |none=>simp only[g] at e;cases e
   | some ps=>
    simp only[g] at e;cases e;obtain⟨j,m,⟨o,N,w,x,F,y⟩,C⟩:=I.list (.of L);obtain⟨B,z,A,E⟩:=Jq I ih f i j ps M m g;exact⟨_,.list w x y ⇑z,by unfold jq;exact A,by unfold mw;lia⟩
  |dct=>cases e
  |exn _=>cases e
  |tab _=>cases e
  |map _ _=>cases e
  |adr _=>cases e
end
def py(O:Ow)(d:D):Option ez:=rA O 8 d
def AM(K:ak)(f:ez->ez->Option Bool):R2:=λv w H Q=>∃Xf μ O x y a b k,oK K H Xf μ O/\XV K H Xf μ x v/\XV K H Xf μ y w/\py O x=YP a/\py O y=YP b/\f a b=YP k/\Q (.bl k) H
def qd(f:ez->ez->Option Bool):Ow->D->D->R D:=λO x y=>match py O x,py O y with
 | some a,YP b=>match f a b with
  |some k=>.ok (.bl k) O
  |none=>.bad
 |_,_=>.bad
section
variable{X:Cx}{Ex:Nat->Hp->Prop}
def Bt:tx X Ex (AM X.K f) (qd f):=by
 intro H d e O x y v w Q c g h q;unfold qd at q;split at q
 ·rename_i a b i j;split at q
  ·rename_i k l;exact⟨d,e,O,x,y,a,b,k,c,g,h,i,j,l,post.here q c uH⟩
  ·exact ai q
 ·exact ai q
def sv:ez->ez->Option Bool:=λa b=>YP (bi a b)
def rM:ez->ez->Option Bool:=λa b=>YP (!PyData.eqv a b)
def BL:ez->ez->Option Bool:=λa b=>match b with
 |.list xs=>YP (xs.any λy=>bi y a)
 |.tuple xs=>YP (xs.any λy=>bi y a)
 |_=>JL
def Dz:ez->ez->Option Bool:=λa b=>match b with
 |.list xs=>YP (!xs.any λy=>bi y a)
 |.tuple xs=>YP (!xs.any λy=>bi y a)
 |_=>JL
def IQ(a:p.canLay0=JQ)(b:p.depth<=8):oE p=JQ:=by unfold oE;rw[a,decide_eq_true (show p.depth<=64 by lia)];rfl
def RJ(e:X.A.units+64<cLine):qS X (cz .Eq) (AM X.K sv):=by intro d s E H x y v u Q I f g h;obtain⟨i,F,O,j,l,a,b,k,c,m,n,o,p,r,q⟩:=h;obtain⟨G,t,w,z⟩:=BB I c 8 j x v a m f o;obtain⟨J,B,C,D⟩:=BB I c 8 l y u b n g p;cases r;exact PyProof.Rows.eq_dataH t B (IQ w z) (IQ C D) e ⟨.bl _,H,I,rfl,q⟩
def IV(e:X.A.units+64<cLine):qS X (cz .NotEq) (AM X.K rM):=by intro d s E H x y v u Q I f g h;obtain⟨i,F,O,j,l,a,b,k,c,m,n,o,p,r,q⟩:=h;obtain⟨G,t,w,z⟩:=BB I c 8 j x v a m f o;obtain⟨J,B,C,D⟩:=BB I c 8 l y u b n g p;cases r;exact PyProof.Rows.ne_dataH t B (IQ w z) (IQ C D) e ⟨.bl _,H,I,rfl,q⟩
def Ib{A:aU}{n m:Nat}(h:m<=8)(a:A.units+64<cLine):A.units+1+min n m<cLine:=by lia
def zgu(e:X.A.units+64<cLine):qS X (cz .In) (AM X.K BL):=by
 intro f s D H x y v u Q I n o h;obtain⟨p,E,O,r,t,a,b,k,c,w,z,B,C,d,q⟩:=h;obtain⟨F,g,i,j⟩:=BB I c 8 r x v a w n B;obtain⟨G,l,m,J⟩:=BB I c 8 t y u b z o C;cases b with
 |list xs=>cases d;exact SeqAt.in_list_reads l g m i (Ib j e) ⟨.bl _,H,I,rfl,q⟩
 |tuple xs=>cases d;exact SeqAt.in_tuple_reads l g m i (Ib j e) ⟨.bl _,H,I,rfl,q⟩
 |_=>cases d
def zf4(e:X.A.units+64<cLine):qS X (cz .NotIn) (AM X.K Dz):=by
 intro f s D H x y v u Q I n o h;obtain⟨p,E,O,r,t,a,b,k,c,w,z,B,C,d,q⟩:=h;obtain⟨F,g,i,j⟩:=BB I c 8 r x v a w n B;obtain⟨G,l,m,J⟩:=BB I c 8 t y u b z o C;cases b with
 |list xs=>cases d;exact SeqAt.notIn_list_reads l g m i (Ib j e) ⟨.bl _,H,I,rfl,q⟩
 |tuple xs=>cases d;exact SeqAt.notIn_tuple_reads l g m i (Ib j e) ⟨.bl _,H,I,rfl,q⟩
 |_=>cases d
end
end DL
namespace DL
open PySem L2
section
variable{e:aR}
noncomputable def tL(O:Ow):D->Option (List D)
 |.lst ds=>YP ds
 |.own k=>O[k]?
 |_=>JL
def AK:D->Option (List D)
 |.tup ds=>YP ds
 |_=>JL
def vk(a:oK K H Xf μ O)(h:XV K H Xf μ d v)(e:tL O d=YP ds):∃p vs,v=.ref p/\qR K H p vs/\oM K H Xf μ ds vs:=by
 cases d with
 | lst xs=>
  obtain⟨p,vs,rfl,l,q⟩:=h;cases e;exact⟨p,vs,rfl,l.sq,q⟩
 | own k=>
  obtain⟨p,rfl,b⟩:=h;obtain⟨i,vs,c,f,g⟩:=a.at_ k p b;have e:O[k]?=YP ds:=e;rw[c] at e;cases e;exact⟨p,vs,rfl,.of f,g⟩
 |_=>cases e
def Bq(h:XV K H Xf μ d v)(e:AK d=YP ds):∃p vs,v=.ref p/\rZ K H p vs/\oM K H Xf μ ds vs:=by
 cases d with
 | tup xs=>
  obtain⟨p,vs,rfl,l,q⟩:=h;cases e;exact⟨p,vs,rfl,l.sq,q⟩
 |_=>cases e
def zng:Ow->D->D->R D:=λO x y=>match x,y with
 |.str s,.str t=>if s.length+t.length<=4000000 then .ok (.str (s++t)) O else .bad
 |_,_=>.bad
end
def TJ(h:oM K H Xf μ ds vs)(e:atI ds i=YP d):∃v,atI vs i=YP v/\XV K H Xf μ d v:=by
 unfold atI at e ⊢;rw[<- h.length];cases q:ixN ds.length i with
 |none=>rw[q] at e;cases e
 |some j=>rw[q] at e;exact h.get e
def rn:Ow->D->D->R D:=λO x y=>match y with
 | .int i=>match tL O x with
  | some ds=>match atI ds i with
   |some d=>.ok d O
   |none=>.bad
  | none=>match AK x with
   | some ds=>match atI ds i with
    |some d=>.ok d O
    |none=>.bad
   | none=>match x with
    | .str cs=>if cs.length<=4000000 then match atI cs i with
      |some ch=>.ok (.str [ch]) O
      |none=>.bad
     else .bad
    |_=>.bad
 |_=>.bad
section
variable{X:Cx}{Ex:Nat->Hp->Prop}{pos:Pos}{a b c e:aR}{ta tb:DE}
def Zm:tx X Ex (Wi X.K) rn:=by
 intro H o A O x y v w Q c g n q;unfold rn at q;split at q
 ·rename_i i;unfold XV at n;subst n;split at q
  ·rename_i r e;obtain⟨p,h,rfl,j,k⟩:=vk c g e;split at q
   ·rename_i d f;obtain⟨z,l,m⟩:=TJ k f;exact .inl ⟨p,h,i,z,rfl,rfl,j,l,post.here q c m⟩
   ·exact ai q
  ·split at q
   ·rename_i r e;obtain⟨p,h,rfl,j,k⟩:=Bq g e;split at q
    ·rename_i d f;obtain⟨z,l,m⟩:=TJ k f;exact .inr (.inl ⟨p,h,i,z,rfl,rfl,j,l,post.here q c m⟩)
    ·exact ai q
   ·split at q
    ·rename_i s _ _;unfold XV at g;subst g;obtain⟨t,q⟩:=post.ite q;split at q
     ·rename_i u f;refine .inr (.inr ⟨_,i,u,rfl,rfl,?_,?_,post.here q c LM⟩)
      ·show s.toArray.size<=_;rw[aQ];exact yG t
      ·simpa using f
     ·exact ai q
    ·exact ai q
 ·exact ai q
def P_(d:PD X Ex a ta)(f:PD X Ex b tb)(g:SN b):PD X Ex (.Subscript a b pos) (h_ rn ta tb):=rV (Yt ZE d.out f.out g) (Iz Zm)
def pW(f:Ow->List D->R D)(t:DA):DE:=λσ O=>(t σ O).bnd λxs O1=>f O1 xs
def vE(X:Cx)(Ex:Nat->Hp->Prop)(r:List V->Hp->VK->Prop)(f:Ow->List D->R D):Prop:=∀(H:Hp)(Xf μ:List af)(O:Ow)(xs:List D)(vs:List V)(Q:VK),oK X.K H Xf μ O->oM X.K H Xf μ xs vs->qY Ex X.K H Xf μ (f O xs) Q->r vs H Q
def QS(h:vE X Ex r f)(Xf μ:List af)(σ:Sg)(O:Ow)(g:St)(H:Hp)(Q:VK)(i:oN X.K H Xf μ σ g)(j:oK X.K H Xf μ O)(q:qY Ex X.K H Xf μ (pW f t σ O) Q):JN r (uO Ex X.K t) g H Q:=
 uO.go i j q λk l m n o s x c d p=>h n Xf o l k m Q c d p
def zef{x:aq}{id:String}{p:Pos}{d:List aR}{r:List V->Hp->VK->Prop}{f:Ow->List D->R D}{t:DA}(g:oW X (.builtin id) r)(h:vE X Ex r f)(i:Gl X x)(j:X.mg x=JL)(k:bd x=YP (.builtin id))(l:tM X Ex (e::d) t)
  (m:x ≠ "__name__":=by decide) (n:rH x:=by decide) (o:aF (e::d) X.env=(JU,eval e X.env)::aF d X.env:=by rfl) (q:(backTo pos (aF d X.env)).any (·.1)=JU:=by rfl):
  PD X Ex (.Call (.Name x p) (e::d) [] pos) (pW f t):=rV (D5 g i j k l.out m n o q) (QS h)
def FD(d:oW X (.type T) r)(h:vE X Ex r f)(g:Gl X x)(i:X.mg x=JL)(j:bd x=YP (.type T))(k:tM X Ex (e::es) t)
  (l:x ≠ "__name__":=by decide) (m:rH x:=by decide) (n:aF (e::es) X.env=(JU,eval e X.env)::aF es X.env:=by rfl) (o:(backTo pos (aF es X.env)).any (·.1)=JU:=by rfl):
  PD X Ex (.Call (.Name x p) (e::es) [] pos) (pW f t):=rV (Mo d g i j k.out l m n o) (QS h)
def rQ:Ow->List D->R D:=λO xs=>match xs with
 | [x]=>match tL O x with
  |some ds=>.ok (.int ds.length) O
  | none=>match AK x with
   |some ds=>.ok (.int ds.length) O
   | none=>match x with
    |.str cs=>if cs.length<=4000000 then .ok (.int cs.length) O else .bad
    |_=>.bad
 |_=>.bad
def Rq:vE X Ex (λxs H Q=>∃x n,xs=[x]/\Pd X.K x H n/\Q (.int n) H) rQ:=by
 intro H l o O xs r Q c d q;unfold rQ at q;split at q
 ·rename_i x;obtain⟨v,rfl,f⟩:=ux d;split at q
  ·rename_i h e;obtain⟨p,i,rfl,j,k⟩:=vk c f e;exact⟨_,h.length,rfl,.inl ⟨i,j,k.length⟩,post.here q c t5⟩
  ·split at q
   ·rename_i h e;obtain⟨p,i,rfl,j,k⟩:=Bq f e;exact⟨_,h.length,rfl,.inr ⟨i,j,k.length⟩,post.here q c t5⟩
   ·split at q
    ·rename_i g _ _;unfold XV at f;subst f;obtain⟨m,q⟩:=post.ite q;refine⟨_,g.length,rfl,⟨?_,?_⟩,post.here q c t5⟩
     ·show g.toArray.size<=_;rw[aQ];exact yG m
     ·show g.length=g.toArray.size;rw[aQ]
    ·exact ai q
 ·exact ai q
noncomputable def Kx:Ow->List D->R D:=λO xs=>match xs with
 |[.int i]=>.ok (.int i) O
 |[.bl k]=>.ok (.int (if k then 1 else 0)) O
 |_=>.bad
def YR:vE X Ex (λxs H Q=>(∃i,xs=[.int i]/\Q (.int i) H) \/ ∃k,xs=[.bl k]/\Q (.int (if k then 1 else 0)) H) Kx:=by
 intro H g h O xs j Q c d q;unfold Kx at q;split at q
 ·obtain⟨v,rfl,f⟩:=ux d;unfold XV at f;subst f;exact .inl ⟨_,rfl,post.here q c t5⟩
 ·obtain⟨v,rfl,f⟩:=ux d;unfold XV at f;subst f;exact .inr ⟨_,rfl,post.here q c t5⟩
 ·exact ai q
def vj:Ow->List D->R D:=λO xs=>match xs with
 | [x]=>match tL O x with
  |some ds=>.ok (.tup ds) O
  | none=>match AK x with
   |some ds=>.ok (.tup ds) O
   |none=>.bad
 |_=>.bad
def TX:vE X Ex (λxs H Q=>∃p f,xs=[.ref p]/\((qR X.K H p f/\∀l,H l=JL->Q (.ref l) (upd H l (.tup f)))\/(rZ X.K H p f/\Q (.ref p) H))) vj:=by
 intro H m o O xs r Q c d q;unfold vj at q;split at q
 ·rename_i x;obtain⟨v,rfl,g⟩:=ux d;split at q
  ·rename_i n e;obtain⟨p,h,rfl,i,k⟩:=vk c g e;exact⟨p,h,rfl,.inl ⟨i,λl j=>post.ok q (.laid j) (c.laid j) (XV.newT c j k)⟩⟩
  ·split at q
   ·rename_i n e;obtain⟨p,h,rfl,i,k⟩:=Bq g e;refine⟨p,h,rfl,.inr ⟨i,post.here q c ?_⟩⟩;cases x with
    |tup f=>cases e;exact g
    |_=>cases e
   ·exact ai q
 ·exact ai q
def B_(o:Bool):Ow->List D->R D:=λO xs=>match xs with
 | [x]=>match (match tL O x with|some ds=>YP ds|none=>AK x) with
  |some ds=>if o=JQ then .ok (.own O.length) (O++[ds]) else .ok (.lst ds) O
  |none=>.bad
 |_=>.bad
def zhd(o:Bool):vE X Ex (λxs H Q=>∃p k,xs=[.ref p]/\(qR X.K H p k\/rZ X.K H p k)/\∀l,H l=JL->Q (.ref l) (upd H l (.lst k))) (B_ o):=by
 intro H m t O xs w Q c d q;unfold B_ at q;split at q
 ·rename_i x;obtain⟨v,rfl,s⟩:=ux d;split at q
  ·rename_i u e;have h:∃p f,v=.ref p/\(qR X.K H p f\/rZ X.K H p f)/\oM X.K H m t u f:=by
    cases n:tL O x with
    | some es=>
     rw[n] at e;cases e;obtain⟨p,f,r,i,g⟩:=vk c s n;exact⟨p,f,r,.inl i,g⟩
    | none=>
     rw[n] at e;obtain⟨p,f,r,i,g⟩:=Bq s e;exact⟨p,f,r,.inr i,g⟩
   obtain⟨p,f,rfl,i,g⟩:=h;refine⟨p,f,rfl,i,λl j=>?_⟩;cases o with
   |true=>exact post.ok (q) (.cell j) (c.cell j g) (FN c.len)
   |false=>exact post.ok (q) (.laid j) (c.laid j) (XV.newL c j g)
  ·exact ai q
 ·exact ai q
def E1:Ow->List D->R D:=λO xs=>match xs with
 |[.int i,.int j]=>.ok (.int (if j>i then j else i)) O
 |_=>.bad
def DN:Ow->List D->R D:=λO xs=>match xs with
 |[.int i,.int j]=>.ok (.int (if j<i then j else i)) O
 |_=>.bad
def zgR:vE X Ex (λxs H Q=>∃i j,xs=[.int i,.int j]/\Q (.int (if j>i then j else i)) H) E1:=by
 intro H h k O xs l Q c d q;unfold E1 at q;split at q
 ·obtain⟨v,w,rfl,f,g⟩:=EX d;unfold XV at f g;subst f;subst g;exact⟨_,_,rfl,post.here q c t5⟩
 ·exact ai q
def zgQ:vE X Ex (λxs H Q=>∃i j,xs=[.int i,.int j]/\Q (.int (if j<i then j else i)) H) DN:=by
 intro H h k O xs l Q c d q;unfold DN at q;split at q
 ·obtain⟨v,w,rfl,f,g⟩:=EX d;unfold XV at f g;subst f;subst g;exact⟨_,_,rfl,post.here q c t5⟩
 ·exact ai q
end
abbrev qh:=List D->Ow->R D
noncomputable def Hw(K:ak)(Ec:XK->Nat->Hp->Prop)(n:Nat)(F:qh):Sp:=λvs H Q E=>vs.length=n/\∃Xf μ ds O,oM K H Xf μ ds vs/\oK K H Xf μ O/\qY (Ec E) K H Xf μ (F ds O) Q
abbrev Kr:XK->Nat->Hp->Prop:=λ_ _ _=>False
section
variable{X:Cx}{CX:xw}{k:Nat}{f:af}{fd:d0}{ps:List aq}{E:XK}{Ec:XK->Nat->Hp->Prop}{x:aq}{p pos:Pos}{e:aR}{es:List aR}{t:DA}{F:qh}{n:Nat}
noncomputable def k_(n:Nat)(F:qh)(t:DA):DE:=λσ O=>(t σ O).bnd λds O1=>if ds.length=n then F ds O1 else .bad
def P4(G:oY X.prog X.w X.K X.mg X.base CX k f fd ps (Hw X.K Ec n F))(d:oP k X.A)(g:Gl X x)(h:X.mg x=YP (.ref f))(i:cZ X.K (.ref f)=JQ)(j:Binds X.K fd ps [])(l:Bu CX X E)(m:tM X (Ec E) (e::es) t)
  (o:rH x:=by decide) (r:aF (e::es) X.env=(JU,eval e X.env)::aF es X.env:=by rfl) (s:(backTo pos (aF es X.env)).any (·.1)=JU:=by rfl):
  PD X (Ec E) (.Call (.Name x p) (e::es) [] pos) (k_ n F t):=
 rV (LJ G d g h i j .nil l m.out o r s) λa I J O L H Q u v q=>uO.go u v q λy z M N B P R C c b=>by
  obtain⟨D,b⟩:=post.ite b;refine⟨by rw[bV,<- c.length];exact D,a,B,y,z,?_,C,b⟩;rw[bV];exact c
end
noncomputable def fin(r:RS):R D:=match r with
 |.nx _ O=>.ok .non O
 |.rt d O=>.ok d O
 |.exc c O=>.exc c O
 |_=>.bad
def qT(n:Nat)(t:DS):qh:=λds O=>fin (t (ds.map YP++aB (n-ds.length) JL) O)
def Jr(h:oM K H Xf μ ds vs)(N:List aq):oN K H Xf μ (ds.map YP++aB (N.length-ds.length) JL) (L2.start N vs):=by
 unfold L2.start;have b:=h.length;refine⟨by simp[b],λi d e=>?_⟩;have a:i<ds.length:=by
  by_cases a:i<ds.length
  ·exact a
  ·rw[bu ⇑a,eT] at e;split at e<;>cases e
 rw[aL ⇑a,bF] at e;cases q:ds[i]? with
 |none=>rw[q] at e;cases e
 | some d'=>
  rw[q] at e;cases e;obtain⟨v,c,f⟩:=h.get q;exact⟨v,by rw[aL (by simp;lia),bF,c];rfl,f⟩
abbrev EH(P:aK)(w:aT)(K:ak)(mg:aq->Option ae)(base:aS)(N:List aq)(qual:aq)(scope:cu)(f:af)(l_:ae)(A:aU)(outer:List Env)(s:ah)(H:Hp)(E:XK):Cx:=
 (zR (λ_ _ _ _ _ _=>False) P w K mg base N qual scope f l_ A outer s H E).nox
def YB{P:aK}{w:aT}{K:ak}{u:aq->Option ae}{base:aS}{k:Nat}{f:af}{name a:aq}{g:eR}{body:List dh}{scope:cu}{y z i B j ct F:ae}{C G:Option af}{I:Array (Option ae)}{N o:List aq}{t:DS}
  (J:K.lookup f=YP ⟨F,G,.func (br name a g body scope y z i B C j ct),I⟩) (L:dE K j a=JQ) (S:tF N o scope)
  (M:∀(A:aU)(b:List Env)(s:ah)(H:Hp)(E:XK),oP k (A.deeper (a9 a scope s.heap.objs.size f j))->sQ (EH P w K u base N a scope f j A b s H E) qN body t):
  oY P w K u base (λ_ _ _ _ _ _=>False) (k+1) f (br name a g body scope y z i B C j ct) o (Hw K Kr o.length (qT N.length t)):=by
 refine qy J L S (λR H Q E h=>h.1) λA b s H R Q E T h=>?_;obtain⟨W,p,U,D,O,d,c,q⟩:=h;refine⟨_,(M A b s H E T).out.nox,p,U,_,O,Jr d N,c,?_⟩;unfold qT at q;generalize t (D.map YP++aB (N.length-D.length) JL) O=r at q;cases r with
 |nx σ O'=>exact λX l m x e n=>q .non l m x n By
 |rt d' O'=>exact λv l m x n r=>q v l m x n r
 |bk σ O'=>exact ai q
 |ct σ O'=>exact ai q
 |exc n O'=>exact λl m x V=>q l m x V
 |bad=>exact ai q
noncomputable def vQ:D->String
 |.non => "NoneType"
 |.bl _ => "bool"
 |.int _ => "int"
 |.str _ => "str"
 |.lst _ => "list"
 |.own _ => "list"
 |.tup _ => "tuple"
 |.dct => "dict"
 |.exn _ => "exception"
 |.tab _ => "bool"
 |.map _ _ => "dict"
 |.adr _ => "function"
def yu(t c:String):Bool:=t==c||(t == "bool" && c == "int")
section
variable{X:Cx}{Ex:Nat->Hp->Prop}{pos:Pos}{a b c e:aR}{ta te:DE}{Xq:List (af×Obj)}{b_:St}{H:Hp}{s:ah}{Xf μ:List af}{O:Ow}
def yC:List String:=["NoneType", "bool", "int", "str", "list", "tuple", "dict"]
def zX(K:ak){t c:String}(d:t∈yC)(f:c∈["int", "bool", "str", "list", "tuple", "dict"]):aW K (.type t) (.type c)=YP (yu t c):=by simp only[yC,ar,bL,or_false] at d f;rcases d with rfl|rfl|rfl|rfl|rfl|rfl|rfl<;>rcases f with rfl|rfl|rfl|rfl|rfl|rfl<;>first|rfl|decide
def Vi{v:V}{u:ae}{d:D}(I:L2.Inv X Xq b_ H s)(F:oK X.K H Xf μ O)(h:XV X.K H Xf μ d v)(r:RelV v u)(G:(vQ d == "function")=JU):∃(T:ae)(A:aS->Prop),PySem.W.KitX X.K u T A/\A s.heap/\u ≠ .builtin "__main__.__loader__#opaque"/\∀c∈(["int", "bool", "str", "list", "tuple", "dict"]:List String),aW X.K T (.type c)=YP (yu (vQ d) c):=by
 cases d with
 |non=>unfold XV at h;subst h;cases r;exact⟨.type "NoneType",_,mR,eL,(λz=>nomatch z),λc f=>zX X.K (by simp[yC]) f⟩
 |bl _=>unfold XV at h;subst h;cases r;exact⟨.type "bool",_,mS,eL,(λz=>nomatch z),λc f=>zX X.K (by simp[yC]) f⟩
 |int _=>unfold XV at h;subst h;obtain⟨t,rfl⟩:=r;exact⟨.type "int",_,PySem.W.kitx_int,eL,(λz=>nomatch z),λc f=>zX X.K (by simp[yC]) f⟩
 |str _=>unfold XV at h;subst h;obtain⟨t,rfl⟩:=r;exact⟨.type "str",_,PySem.W.kitx_str,eL,(λz=>nomatch z),λc f=>zX X.K (by simp[yC]) f⟩
 | lst x=>
  obtain⟨p,m,rfl,l,q⟩:=h;cases r;obtain⟨B,E,⟨o,n,j,i,_⟩,_⟩:=I.list l.sq;exact⟨.type "list",_,mT,⟨o,j,i⟩,(λz=>nomatch z),λc f=>zX X.K (by simp[yC]) f⟩
 | own k=>
  obtain⟨p,rfl,J⟩:=h;cases r;obtain⟨x,m,_,i,_⟩:=F.at_ k p J;obtain⟨B,E,⟨o,n,j,i,_⟩,_⟩:=I.list (.of i);exact⟨.type "list",_,mT,⟨o,j,i⟩,(λz=>nomatch z),λc f=>zX X.K (by simp[yC]) f⟩
 | tup x=>
  obtain⟨p,m,rfl,l,q⟩:=h;cases r;obtain⟨B,E,⟨o,j,i,_⟩,_⟩:=I.tuple l.sq;exact⟨.type "tuple",_,PySem.W.kitx_tuple,⟨o,j,i⟩,(λz=>nomatch z),λc f=>zX X.K (by simp[yC]) f⟩
 | dct=>
  obtain⟨p,rfl,w,_⟩:=h;cases r;obtain⟨_,_,m,_,o,L,M,j,i,_⟩:=Rd.ok w I.hok;exact⟨.type "dict",_,mU,⟨o,j,i.1⟩,(λz=>nomatch z),λc f=>zX X.K (by simp[yC]) f⟩
 |tab _=>unfold XV at h;obtain⟨rfl,_⟩:=h;cases r;exact⟨.type "bool",_,mS,eL,(λz=>nomatch z),λc f=>zX X.K (by simp[yC]) f⟩
 | map ks x=>
  obtain⟨p,m,rfl,w,_⟩:=h;cases r;obtain⟨_,_,m,_,o,L,M,j,i,_⟩:=Rd.ok (.inr w) I.hok;exact⟨.type "dict",_,mU,⟨o,j,i.1⟩,(λz=>nomatch z),λc f=>zX X.K (by simp[yC]) f⟩
 |adr _=>cases G
 | exn C=>
  obtain⟨p,N,rfl,⟨k,g⟩,w,_⟩:=h;cases r;obtain⟨y,_⟩:=Rd.ok w I.hok;refine⟨_,_,Rp k,g _ y,(λz=>nomatch z),λc f=>?_⟩;rw[k.kit c f];simp at f;rcases f with rfl|rfl|rfl|rfl|rfl|rfl<;>rfl
def Eo:List String:=["int", "bool", "str", "list", "tuple", "dict"]
def zdn:oW X (.builtin "isinstance") (λxs H Q=>∃x C Xf μ O d,xs=[x,.ty C]/\C∈Eo/\oK X.K H Xf μ O/\XV X.K H Xf μ d x/\(vQ d == "function")=JU/\Q (.bl (yu (vQ d) C)) H):=by intro Xq s t H xs v Q I r h;obtain⟨x,C,Xf,μ,O,d,rfl,f,g,i,j,q⟩:=h;obtain⟨u,w,rfl,k,l⟩:=B7 r;cases l;obtain⟨T,y,Z,p,m,n⟩:=Vi I g i k j;exact wT I (kF Z I.kIn p (n _ f) m λo z=>⟨.bl _,H,I.tok o,rfl,q⟩)
def tY(C:String)(t:DE):DE:=λσ O=>(t σ O).bnd λd O1=>if (vQ d == "function")=JQ then .bad else .ok (.bl (yu (vQ d) C)) O1
def E9(i:PD X Ex a ta)(j:n∈Eo)(k:Gl X "isinstance")(l:X.mg "isinstance" = JL)(m:bd "isinstance" = YP (.builtin "isinstance"))(o:Gl X C)(t:X.mg C=JL)(u:bd C=YP (.type n))(w:C ≠ "__name__":=by decide)
  (y:rH C:=by decide) (g:aF [a,.Name C p'] X.env=(JU,eval a X.env)::aF [.Name C p'] X.env:=by rfl) (z:aF [.Name C p'] X.env=[(JU,eval (.Name C p') X.env)]:=by rfl) (A:(backTo pos (aF [.Name C p'] X.env)).any (·.1)=JU:=by rfl):
  PD X Ex (.Call (.Name "isinstance" p) [a,.Name C p'] [] pos) (tY n ta):=
 rV (D5 (zdn) k l m (yb i.out (yb (IM (v:=.ty n) o t u rfl w y) Br z) g) 'u' 'u' g A) λXf μ I O b_ H Q B D q=>rd.go B D q λd E v J F K x h r f=>by
  obtain⟨G,f⟩:=post.iteN f;exact⟨v,n,Xf,F,E,d,rfl,j,h,r,G,post.here f h uH⟩
noncomputable def BX(to:DE)(t:DA):DE:=λσ O=>(to σ O).bnd λx O1=>match x with
 | .own k=>(t σ O1).bnd λys O2=>match ys,O2[k]? with
  |[y],YP ds=>if ds.length<4000000 then .ok .non (O2.set k (ds++[y])) else .bad
  |_,_=>.bad
 |_=>.bad
def zbf(n:PD X Ex o to)(u:tM X Ex (e::es) t)(z:attributeBase o "append" X.env (eval o X.env)=eval o X.env:=by rfl)
  (B:((backTo pY (aF (e::es) X.env)).all (λx=>!x.1)&&(backToKw pY (keywordEach [] X.env)).all (λx=>x.1.isSome)&&decide ((e::es).length+([]:List fQ).length+(if ([]:List fQ).isEmpty then 0 else 1)<30))=JQ:=by rfl)
  (C:(apos.endLine==pY.line)=JQ:=by rfl) (D:aF (e::es) X.env=(JU,eval e X.env)::aF es X.env:=by rfl) (E:(backTo pY (aF es X.env)).any (·.1)=JU:=by rfl):
  PD X Ex (.Call (.Attribute o "append" apos) (e::es) [] pY) (BX to t):=
 rV (H8 kz kZ PySem.F.type_list_append UL n.out u.out z B C D E) λXf μ σ O b_ H Q G I q=>rd.go G I q λd O1 v H1 f_ J x h r p=>by
  cases d with
  | own k=>
   have K:=r;obtain⟨A,rfl,L⟩:=r;obtain⟨ds,M,h1,N,h3⟩:=h.at_ k A L;refine⟨.inl ⟨rfl,M,.of N⟩,uO.go J h p λys O2 ws H2 P e3 R i S f=>?_⟩;split at f
   ·rename_i y uT T;obtain⟨U,f⟩:=post.ite f;obtain⟨w,rfl,V⟩:=ux S;have g:P[k]?=YP A:=by
     have:=K.ext R;obtain⟨A',W,Y⟩:=this;cases W;exact Y
    obtain⟨Hg,Z,j,l,m⟩:=i.at_ k A g;rw[T] at j;cases j;refine⟨A,Z,w,rfl,rfl,l,ba (by rw[<- m.length];exact U) 'u',?_⟩;exact post.ok f (.put (aO g) ⟨_,l⟩) (i.put g (m.append (.cons V .nil))) By
   ·exact ai f
  |_=>exact ai p
def Dq(te to ti:DE):DS:=λσ O=>(te σ O).bnS λy O1=>(to σ O1).bnS λx O2=>(ti σ O2).bnS λi O3=>match x,i with
 | .own k,.int i=>match O3[k]? with
  | some ds=>match ixN ds.length i with
   |some j=>.nx σ (O3.set k (ds.set j y))
   |none=>.bad
  |none=>.bad
 |_,_=>.bad
def zhW(t:PD X Ex e te)(z:PD X Ex o to)(hi:PD X Ex i ti)(B:∀v,assign (.Subscript o i pos) X.env v=(do
   let ov <- holding [v] (eval o X.env);let iv <- holding [v,ov] (eval i X.env)
   standAt pos
   holding [v,ov,iv] (setItem ov iv v)
   release [v,ov,iv] []):=by intro _;rfl)(C:iS [.Subscript o i pos] e tS.line X.env=pure JU:=by rfl)(D:iU [.Subscript o i pos] e X.env=pure JL:=by rfl)
  (F:(ir [.Subscript o i pos] X.env).map (·.2)=[assign (.Subscript o i pos) X.env]:=by rfl):vd X Ex (.Assign [.Subscript o i pos] e tS) (Dq te to ti):=
 AE (QD t.out (YH z.out hi.out zdA B) C D F) λXf μ σ O E b_ H G I q=>rd.goS G I q λy O1 v H1 f_ J x1 K L M=>rd.goS J K M λx O2 u H2 qc N P Q R S=>rd.goS N Q S λii O3 w H3 T U l n V d=>by
  split at d
  ·rename_i k j;split at d
   ·rename_i ds W;split at d
    ·rename_i m Y;have g:=R.ext l;obtain⟨A,rfl,f⟩:=g;subst V;obtain⟨Hg,Z,p,h,r⟩:=n.at_ k A f;rw[W] at p;cases p;refine⟨A,Z,j,m,rfl,rfl,h,by rw[<- r.length];exact Y,?_⟩;exact d b_ _ T (.put (aO f) ⟨_,h⟩) (U.ext (.put (aO f) ⟨_,h⟩)) (n.put f (r.set ((L.ext P).ext l) m))
    ·exact ai d
   ·exact ai d
  ·exact ai d
def Al:List D->Option (List Bool)
 |[]=>YP []
 |.bl b::r=>(Al r).map (b :: ·)
 |_=>JL
theorem K9:∀{ds:List D}{vs:List V}{bs:List Bool},oM K H Xf μ ds vs->Al ds=YP bs->vs=bs.map V.bl
 |[],vs,bs,h,e=>by unfold oM at h;subst h;cases e;rfl
 | d::ds,vs,bs,h,e=>by
  obtain⟨v,r,rfl,f,g⟩:=h;cases d with
  | bl b=>
   unfold Al at e;cases q:Al ds with
   |none=>rw[q] at e;cases e
   | some cs=>
    rw[q] at e;cases e;unfold XV at f;subst f;rw[K9 g q];rfl
  |_=>cases e
def xW:Ow->List D->R D:=λO xs=>match xs with
 | [x]=>match tL O x with
  | some ds=>match Al ds with
   |some bs=>.ok (.bl (bs.all id)) O
   |none=>.bad
  |none=>.bad
 |_=>.bad
def Dt:Ow->List D->R D:=λO xs=>match xs with
 | [x]=>match tL O x with
  | some ds=>match Al ds with
   |some bs=>.ok (.bl (bs.any id)) O
   |none=>.bad
  |none=>.bad
 |_=>.bad
def RI:vE X Ex (λxs H Q=>∃(p:af)(bs:List Bool),xs=[.ref p]/\qR X.K H p (bs.map V.bl)/\Q (.bl (bs.all id)) H) xW:=by
 intro H Xf μ O xs j Q c d q;unfold xW at q;split at q
 ·rename_i x;obtain⟨v,rfl,f⟩:=ux d;split at q
  ·rename_i k e;obtain⟨p,l,rfl,g,h⟩:=vk c f e;split at q
   ·rename_i bs i;refine⟨p,bs,rfl,?_,post.here q c uH⟩;rw[<- K9 h i];exact g
   ·exact ai q
  ·exact ai q
 ·exact ai q
def zjC:vE X Ex (λxs H Q=>∃(p:af)(bs:List Bool),xs=[.ref p]/\qR X.K H p (bs.map V.bl)/\Q (.bl (bs.any id)) H) Dt:=by
 intro H Xf μ O xs j Q c d q;unfold Dt at q;split at q
 ·rename_i x;obtain⟨v,rfl,f⟩:=ux d;split at q
  ·rename_i k e;obtain⟨p,l,rfl,g,h⟩:=vk c f e;split at q
   ·rename_i bs i;refine⟨p,bs,rfl,?_,post.here q c uH⟩;rw[<- K9 h i];exact g
   ·exact ai q
  ·exact ai q
 ·exact ai q
def zbl(bs:List Bool):(bE bs.length).all (λi=>bs.getD i JQ)=bs.all id:=by
 rw[eM,aD,aD];constructor
 ·intro h b f;obtain⟨i,d,e⟩:=er.mp f;have:=h i ⇑d;rw[aV,aw d,e] at this;exact this
 ·intro h i d;have d:i<bs.length:=⇑d
  rw[aV,aw d];exact h _ (cS d)
def zcC(bs:List Bool):(bE bs.length).any (λi=>bs.getD i JQ)=bs.any id:=by
 rw[eM,ei,ei];constructor
 ·rintro⟨i,d,h⟩;have d:i<bs.length:=⇑d
  rw[aV,aw d] at h;exact⟨_,cS d,h⟩
 ·rintro⟨b,f,h⟩;obtain⟨i,d,e⟩:=er.mp f;exact⟨i,by simpa using d,by rw[aV,aw d,e];exact h⟩
def Sf{bs:List Bool}{d:List ae}(r:oO (bs.map V.bl) d){i:Nat}{v:ae}(h:d.toArray[i]?=YP v):v=.bool (bs.getD i JQ):=by
 have h:d[i]?=YP v:=⇑h
 have f:i<bs.length:=by
  have:=r.length;have:=(am.mp h).1;simp at *;lia
 obtain⟨u,g,j⟩:=r.get (by rw[bF,aw f];rfl);rw[h] at g;cases g;cases j;rw[aV,aw f];rfl
def Uz(j:X.calm=JQ):oW X (.builtin "all") (λxs H Q=>∃(p:af)(bs:List Bool),xs=[.ref p]/\qR X.K H p (bs.map V.bl)/\Q (.bl (bs.all id)) H):=by
 intro Xq s z H xs B Q I r h;obtain⟨p,bs,rfl,k,q⟩:=h;obtain⟨u,rfl,l⟩:=uG r;cases l;obtain⟨d,g,f,C⟩:=I.list k;have m:d.toArray.size=bs.length:=by have:=g.length;simp at *;lia
 have t:p≠s.heap.objs.size:=by obtain⟨o,n,e,_⟩:=f;exact bb (aJ e)
 refine wT I (call_all_walk (fH f.isList ?_));refine⟨s.heap.objs.size,_,_,d.toArray.size,_,_,λi=>bs.getD i JQ,rfl,j5 (show X.A.in1.handled=JL from I.ok.hd j) _ p t d.toArray,⟨⟨_,aE _ rfl,rfl,rfl⟩,f.isList.push _⟩,λi v D E F w x=>?_,λG J y L=>?_⟩
 ·rw[Sf g w];exact di x
 ·rw[m,zbl];exact⟨.bl _,H,I.kept λb o e=>y b o (by simpa using bb (aJ e)) (ag _ e),rfl,q⟩
def zd6(j:X.calm=JQ):oW X (.builtin "any") (λxs H Q=>∃(p:af)(bs:List Bool),xs=[.ref p]/\qR X.K H p (bs.map V.bl)/\Q (.bl (bs.any id)) H):=by
 intro Xq s z H xs B Q I r h;obtain⟨p,bs,rfl,k,q⟩:=h;obtain⟨u,rfl,l⟩:=uG r;cases l;obtain⟨d,g,f,C⟩:=I.list k;have m:d.toArray.size=bs.length:=by have:=g.length;simp at *;lia
 have t:p≠s.heap.objs.size:=by obtain⟨o,n,e,_⟩:=f;exact bb (aJ e)
 refine wT I (call_any_walk (fH f.isList ?_));refine⟨s.heap.objs.size,_,_,d.toArray.size,_,_,λi=>bs.getD i JQ,rfl,j5 (show X.A.in1.handled=JL from I.ok.hd j) _ p t d.toArray,⟨⟨_,aE _ rfl,rfl,rfl⟩,f.isList.push _⟩,λi v D E F w x=>?_,λG J y L=>?_⟩
 ·rw[Sf g w];exact di x
 ·rw[m,zcC];exact⟨.bl _,H,I.kept λb o e=>y b o (by simpa using bb (aJ e)) (ag _ e),rfl,q⟩
end
section
variable{X:Cx}{Ex:Nat->Hp->Prop}{pos:Pos}{a b c e o:aR}{ta tb te to:DE}{Xq:List (af×Obj)}{b_:St}{H:Hp}{s:ah}{Xf μ:List af}{O:Ow}
def P9(K:ak):R2:=λx y H Q=>∃l b xs zs,x=.ref l/\y=.ref b/\qR K H l xs/\qR K H b zs/\xs.length+zs.length<=J3/\∀p,H p=JL->Q (.ref p) (upd H p (.lst (xs++zs)))
def zgB:qS X (eG .Add) (P9 X.K):=by
 intro Xq s P H x y v u Q I m n h;obtain⟨l,b,R,S,rfl,rfl,p,r,T,q⟩:=h;cases m;cases n;obtain⟨d,g,t,U⟩:=I.list p;obtain⟨f,i,w,V⟩:=I.list r;obtain⟨⟨W,Y,Z,z⟩,A,j,B,C,D⟩:=t;obtain⟨⟨c2,d2,t2,E⟩,G,k,J,L,M⟩:=w;subst B C D J L M;have N:d.toArray++f.toArray=(d++f).toArray:=by simp
 have l1:=g.length;have l2:=i.length;refine jF ⟨_,j,rfl⟩ ⟨_,k,rfl⟩ PySem.noFill_list_add PySem.seq_list_add PySem.F.slot_list_add PySem.F.entry_list_add (PySem.F.args_list_add_2 _ _)
  (PyProof.Rows.list_addW l b d.toArray f.toArray A G JL JL z E (by simp;lia)) ⟨j,k,?_⟩
 rw[N];exact⟨.ref _,_,I.lnew (g.append i) (by rw[az];lia),rfl,q _ I.fresh⟩
def r8:Ow->D->D->R D:=λO x y=>match x,y with
 |.int i,.int j=>.ok (.int (i+j)) O
 |.str p,.str q=>if p.length+q.length<=4000000 then .ok (.str (p++q)) O else .bad
 |.tup xs,.tup ys=>if xs≠[]/\xs.length+ys.length<=4000000 then .ok (.tup (xs++ys)) O else .bad
 | x,y=>match tL O x,tL O y with
  |some xs,YP ys=>if xs.length+ys.length<=4000000 then .ok (.lst (xs++ys)) O else .bad
  |_,_=>.bad
def K4(K:ak):R2:=λx y H Q=>(∃i j,x=.int i/\y=.int j/\Q (.int (i+j)) H)\/(∃i j,x=.str i/\y=.str j/\i.length+j.length<=J3/\Q (.str (i++j)) H)\/PK K x y H Q\/P9 K x y H Q
def Se:qS X (eG .Add) (K4 X.K):=qS.or Z_ (qS.or zaD (qS.or zhV zgB))
def Su:tx X Ex (K4 X.K) r8:=by
 intro H Xf μ O x y v w Q c d g q;unfold r8 at q;split at q
 ·unfold XV at d g;subst d;subst g;exact .inl ⟨_,_,rfl,rfl,post.here q c t5⟩
 ·rename_i p j;unfold XV at d g;subst d;subst g;obtain⟨k,q⟩:=post.ite q;refine .inr (.inl ⟨_,_,rfl,rfl,?_,?_⟩)
  ·show p.toArray.size+j.toArray.size<=_;simp;exact yG k
  ·have e:((⟨p.toArray⟩:aq)++(⟨j.toArray⟩:aq))=⟨(p++j).toArray⟩:=by
    show(⟨p.toArray++j.toArray⟩:aq)=_;simp
   rw[e];exact post.here q c LM
 ·rename_i C D;have m:=d;obtain⟨p,n,rfl,A,h⟩:=d;obtain⟨r,t,rfl,B,i⟩:=g;obtain⟨⟨E,k⟩,q⟩:=post.ite q;have u:=h.length;have z:=i.length;refine .inr (.inr (.inl ⟨p,r,n,t,rfl,rfl,A.sq,B.sq,?_,yG 'd',?_,?_⟩))
  ·rintro rfl;exact E (cY.mp u)
  ·rintro rfl;have:=cY.mp z;subst this;rw[bV] at q;exact post.here q c m
  ·intro _ l f;exact post.ok q (.laid f) (c.laid f) (XV.newT c f (h.append i))
 ·split at q
  ·rename_i C D u z;obtain⟨p,n,rfl,F,h⟩:=vk c d u;obtain⟨r,t,rfl,G,i⟩:=vk c g z;obtain⟨k,q⟩:=post.ite q;have A:=h.length;have B:=i.length;exact .inr (.inr (.inr ⟨p,r,n,t,rfl,rfl,F,G,yG 'd',λl f=>post.ok q (.laid f) (c.laid f) (XV.newL c f (h.append i))⟩))
  ·exact ai q
def QZ(d:PD X Ex a ta)(f:PD X Ex b tb):PD X Ex (.BinOp a .Add b pos) (h_ r8 ta tb):=K5 Se Su d f
noncomputable def Pk(i:Int):pU:=((toString i:aq)).cps.toList
def Ii:Ow->List D->R D:=λO xs=>match xs with
 |[.int i]=>if i.natAbs<2 ^ 64 then .ok (.str (Pk i)) O else .bad
 |_=>.bad
def zay(h:n<2 ^ 64):n.log2<1920:=by
 by_cases d:n=0
 ·subst d;decide
 ·have:=(Nat.log2_lt d).mpr h;lia
def D1(x:aq):(⟨x.cps.toList.toArray⟩:aq)=x:=by cases x;simp
def ziD:vE X Ex (λxs H Q=>∃i,xs=[.int i]/\i.natAbs.log2<1920/\Q (.str (toString i)) H) Ii:=by
 intro H Xf μ O xs h Q c d q;unfold Ii at q;split at q
 ·rename_i i;obtain⟨v,rfl,f⟩:=ux d;unfold XV at f;subst f;obtain⟨g,q⟩:=post.ite q;refine⟨i,rfl,zay g,post.here q c ?_⟩;unfold XV Pk;rw[D1]
 ·exact ai q
def Nk(g:aq->aq->Option V):V->List V->Hp->VK->Prop:=λx xs H Q=>∃i j v,x=.str i/\xs=[.str j]/\g i j=YP v/\Q v H
def Pf(i j:aq):Option V:=YP (.int (cb i j 0 i.length (i.length+1)).length)
def zf6:Hv X "str.count" (Nk Pf):=by intro Xq s k H x l v m Q I d f h;obtain⟨i,j,w,rfl,rfl,g,q⟩:=h;obtain⟨t,rfl⟩:=d;obtain⟨u,rfl,n,rfl⟩:=uG f;cases g;exact SC.count ⟨.int _,H,I.tok _,⟨_,rfl⟩,q⟩
def KJ(i j:pU):Option D:=YP (.int (cb ⟨i.toArray⟩ ⟨j.toArray⟩ 0 i.length (i.length+1)).length)
noncomputable def Hj(g:pU->pU->Option D)(to:DE)(t:DA):DE:=λσ O=>(to σ O).bnd λx O1=>match x with
 | .str i=>(t σ O1).bnd λys O2=>match ys with
  | [.str j]=>match g i j with
   |some d=>.ok d O2
   |none=>.bad
  |_=>.bad
 |_=>.bad
def Qq{t:DA}{h:List aR}{f k:Pos}{name:aq}{id:String}{u:aq->aq->Option V}{g:pU->pU->Option D}(l:Slot "str" name id)(z:typeOf (.builtin id)=pure (.type "method_descriptor"))(A:Hv X id (Nk u))
  (n:∀i j d,g i j=YP d->∃v,u ⟨i.toArray⟩ ⟨j.toArray⟩=YP v/\∀K H Xf μ,XV K H Xf μ d v) (B:PD X Ex o to) (C:tM X Ex (e::h) t) (E:attributeBase o name X.env (eval o X.env)=eval o X.env:=by rfl)
  (F:((backTo k (aF (e::h) X.env)).all (λx=>!x.1)&&(backToKw k (keywordEach [] X.env)).all (λx=>x.1.isSome)&&decide ((e::h).length+([]:List fQ).length+(if ([]:List fQ).isEmpty then 0 else 1)<30))=JQ:=by rfl)
  (G:(f.endLine==k.line)=JQ:=by rfl) (I:aF (e::h) X.env=(JU,eval e X.env)::aF h X.env:=by rfl) (J:(backTo k (aF h X.env)).any (·.1)=JU:=by rfl):
  PD X Ex (.Call (.Attribute o name f) (e::h) [] k) (Hj g to t):=
 rV (H8 iK l z A B.out C.out E F G I J) λXf μ Y O b_ H Q L M q=>rd.go L M q λd Z v H1 f_ N x P r p=>by
  cases d with
  | str i=>
   subst r;refine⟨rfl,uO.go N P p λys O2 ws H2 qc e3 x3 R S m=>?_⟩;split at m
   ·rename_i j;obtain⟨w,rfl,y⟩:=ux S;unfold XV at y;subst y;split at m
    ·rename_i d T;obtain⟨v,U,W⟩:=n _ _ _ T;exact⟨_,_,v,rfl,rfl,U,post.here m R (W _ _ _ _)⟩
    ·exact ai m
   ·exact ai m
  |_=>exact ai p
def Zp:∀i j d,KJ i j=YP d->∃v,Pf ⟨i.toArray⟩ ⟨j.toArray⟩=YP v/\∀K H Xf μ,XV K H Xf μ d v:=λi j d h=>by
 cases h;have e:(⟨i.toArray⟩:aq).length=i.length:=by show i.toArray.size=_;simp
 exact⟨_,rfl,λ_ _ _ _=>by unfold XV;rw[e]⟩
def EU:List D->Option (List aq)
 |[]=>YP []
 |.str cs::r=>(EU r).map (⟨cs.toArray⟩ :: ·)
 |_=>JL
theorem Sk:∀{ds:List D}{vs:List V}{f:List aq},oM K H Xf μ ds vs->EU ds=YP f->vs=f.map V.str
 |[],vs,f,h,e=>by unfold oM at h;subst h;cases e;rfl
 | d::ds,vs,f,h,e=>by
  unfold oM at h;obtain⟨v,r,rfl,g,i⟩:=h;cases d with
  | str cs=>
   unfold EU at e;cases q:EU ds with
   |none=>rw[q] at e;cases e
   | some zs=>
    rw[q] at e;cases e;unfold XV at g;subst g;rw[Sk i q];rfl
  |_=>cases e
def Mt:∀{d:List aq}{f:List ae},oO (d.map V.str) f->ge f d:=by
 intro d
 induction d with
 |nil=>intro f r;rw[kh] at r;cases r;exact .nil
 | cons y d ih=>
  intro f r;cases r with
  | cons r1 r2=>
   obtain⟨t,e⟩:=r1;subst e;exact .cons y t (ih r2)
noncomputable def Yj(K:ak):V->List V->Hp->VK->Prop:=λx xs H Q=>∃i p ys,x=.str i/\xs=[.ref p]/\(qR K H p (ys.map V.str)\/rZ K H p (ys.map V.str))/\i.length<=16/\(ys.map (·.length)).sum+ys.length<=1048576/\Q (.str (Txt.join i ys)) H
def zhp:Hv X "str.join" (Yj X.K):=by
 intro Xq s A H x B v C Q I l m h;obtain⟨i,p,D,rfl,rfl,sq,g,j,q⟩:=h;obtain⟨t,rfl⟩:=l;obtain⟨u,rfl,n⟩:=uG m;cases n;rcases sq with sq|sq
 ·obtain⟨r,d,f,w⟩:=I.list sq;exact wT I (PyProof.Rows.join_listW f.isList (Mt d) g j λy k z=>⟨.str _,H,I.tok k,⟨_,rfl⟩,q⟩)
 ·obtain⟨r,d,f,w⟩:=I.tuple sq;exact wT I (PyProof.Rows.join_tupleW f (Mt d) g j λy k z=>⟨.str _,H,I.tok k,⟨_,rfl⟩,q⟩)
def HY(to:DE)(t:DA):DE:=λσ O=>(to σ O).bnd λx O1=>match x with
 | .str i=>(t σ O1).bnd λys O2=>match ys with
  | [z]=>match (match tL O2 z with|some ds=>YP ds|none=>AK z) with
   | some ds=>match EU ds with
    |some zs=>if i.length<=16/\(zs.map (·.length)).sum+zs.length<=1048576 then .ok (.str (Txt.join ⟨i.toArray⟩ zs).cps.toList) O2 else .bad
    |none=>.bad
   |none=>.bad
  |_=>.bad
 |_=>.bad
def zht(C:PD X Ex o to)(D:tM X Ex (e::es) t)(E:attributeBase o "join" X.env (eval o X.env)=eval o X.env:=by rfl)
  (G:((backTo pY (aF (e::es) X.env)).all (λx=>!x.1)&&(backToKw pY (keywordEach [] X.env)).all (λx=>x.1.isSome)&&decide ((e::es).length+([]:List fQ).length+(if ([]:List fQ).isEmpty then 0 else 1)<30))=JQ:=by rfl)
  (I:(apos.endLine==pY.line)=JQ:=by rfl) (J:aF (e::es) X.env=(JU,eval e X.env)::aF es X.env:=by rfl) (L:(backTo pY (aF es X.env)).any (·.1)=JU:=by rfl):
  PD X Ex (.Call (.Attribute o "join" apos) (e::es) [] pY) (HY to t):=
 rV (H8 iK PySem.F.slot_str_join PySem.F.type_str_join zhp C.out D.out E G I J L) λXf μ σ O b_ H Q j M q=>rd.go j M q λd O1 v H1 f_ N x P r p=>by
  cases d with
  | str i=>
   unfold XV at r;subst r;refine⟨rfl,uO.go N P p λys R f u S e3 x3 A T g=>?_⟩;split at g
   ·rename_i z;obtain⟨w,rfl,B⟩:=ux T;split at g
    ·rename_i U n;split at g
     ·rename_i V y;obtain⟨⟨k,W⟩,g⟩:=post.ite g;have h:∃p f,w=.ref p/\(qR X.K u p f\/rZ X.K u p f)/\oM X.K u Xf S U f:=by
       cases j:tL R z with
       | some es=>
        rw[j] at n;cases n;obtain⟨p,f,k,l,m⟩:=vk A B j;exact⟨p,f,k,.inl l,m⟩
       | none=>
        rw[j] at n;obtain⟨p,f,k,l,m⟩:=Bq B n;exact⟨p,f,k,.inr l,m⟩
      obtain⟨Y,f,rfl,l,m⟩:=h;have Z:=Sk m y;subst Z;refine⟨_,Y,V,rfl,rfl,l,?_,W,post.here g A ?_⟩
      ·show i.toArray.size<=16;simpa using k
      ·unfold XV;rw[D1]
     ·exact ai g
    ·exact ai g
   ·exact ai g
  |_=>exact ai p
abbrev DO:=Sg->Ow->R (Option Int)
noncomputable def BJ(Ex:Nat->Hp->Prop)(K:ak)(t:DO):TO:=λb_ H Q=>∃Xf μ σ O,oN K H Xf μ σ b_/\oK K H Xf μ O/\post Ex K (λ_ _(d v:Option Int)=>d=v) H Xf μ (t σ O) Q
structure Am(X:Cx)(Ex:Nat->Hp->Prop)(e:Option aR)(t:DO):Prop where
 out:PO X e (BJ Ex X.K t)
def tI:DO:=λ_ O=>.ok JL O
def sN(t:DE):DO:=λσ O=>(t σ O).bnd λd O1=>match d with
 |.int i=>.ok (YP i) O1
 |_=>.bad
def PO.imp{e:Option aR}{t t':TO}(h:PO X e t)(f:∀σ H Q,t' σ H Q->t σ H Q):PO X e t':=λXq s σ H Q I q=>h Xq s σ H Q I (f σ H Q q)
def ze8:Am X Ex JL tI:=Am.mk <| PO.imp ziu λb_ H Q ⟨Xf,μ,f,O,g,d,q⟩=>post.here q d rfl
def Tq(h:PD X Ex e te):Am X Ex (YP e) (sN te):=Am.mk <| PO.imp (zhy h.out) λb_ H Q ⟨Xf,μ,k,O,f,g,q⟩=>rd.go f g q λd l v m n t x j r p=>by
 cases d with
 |int i=>unfold XV at r;subst r;exact⟨i,rfl,post.here p j rfl⟩
 |_=>exact ai p
def BJ.go{i j:Type}{l:Hp->List af->i->j->Prop}{t:DO}{Xf μ:List af}{σ:Sg}{O:Ow}{b_:St}{H:Hp}{Q1:Option Int->Hp->Prop}{k:Option Int->Ow->R i}{Q:j->Hp->Prop}(m:oN X.K H Xf μ σ b_)(n:oK X.K H Xf μ O)
  (q:post Ex X.K l H Xf μ ((t σ O).bnd k) Q)
  (f:∀v O1 g h,oN X.K g Xf h σ b_->Ext H μ g h->oK X.K g Xf h O1->post Ex X.K l g Xf h (k v O1) Q->Q1 v g):BJ Ex X.K t b_ H Q1:=
 ⟨Xf,μ,σ,O,m,n,post.bnd q λd O1 v g h x c r p=>by
  subst r;exact f d O1 g h (m.ext x) x c p⟩
def XC:V->Option Int->Option Int->Hp->VK->Prop:=λx lo hi H Q=>∃i,x=.str i/\i.length<=J3/\Q (.str (Txt.slice i lo hi)) H
def zax{h:aS}{sl:af}{m n:ae}{lo hi:Option Int}(q:h.IsSliceOf sl m n .none)(r:gp m lo)(p:gp n hi):∃l u:Option (Int×Tok),h.IsSlice sl l u JL/\l.map (·.1)=lo/\u.map (·.1)=hi:=by
 obtain⟨d,g,f,k⟩:=q;cases r with
 | none=>
  cases p with
  |none=>exact⟨JL,JL,⟨d,g,f,k⟩,rfl,rfl⟩
  |int j t=>exact⟨JL,YP (j,t),⟨d,g,f,k⟩,rfl,rfl⟩
 | int i t=>
  cases p with
  |none=>exact⟨YP (i,t),JL,⟨d,g,f,k⟩,rfl,rfl⟩
  |int j t'=>exact⟨YP (i,t),YP (j,t'),⟨d,g,f,k⟩,rfl,rfl⟩
def Rg:xR X XC:=by intro Xq s p H x v r w y z A Q I d f g j h;obtain⟨i,rfl,m,q⟩:=h;obtain⟨t,rfl⟩:=d;obtain⟨l,u,n,rfl,rfl⟩:=zax f g j;refine⟨"str",_,PySem.F.slot_str_getitem.lookup,lC s i t,?_⟩;exact wT I (wpAny_getItem_str_slice n rfl (post_val_or_str ⟨aM (Txt.slice_le i _ _) m,λB k C=>⟨.str _,H,I.tok k,⟨_,rfl⟩,q⟩⟩))
def xY(xs:List D)(lo hi:Option Int):List D:=(xs.drop (HT.sIx xs.length 0 lo)).take (HT.sIx xs.length xs.length hi-HT.sIx xs.length 0 lo)
def OH(O:Ow)(x:D)(lo hi:Option Int):R D:=match x with
 |.str i=>if i.length<=4000000 then .ok (.str (Txt.slice ⟨i.toArray⟩ lo hi).cps.toList) O else .bad
 |.tup ds=>if HT.sIx ds.length 0 lo=0/\HT.sIx ds.length ds.length hi=ds.length then .bad else .ok (.tup (xY ds lo hi)) O
 | x=>match tL O x with
  |some ds=>.ok (.lst (xY ds lo hi)) O
  |none=>.bad
def EG(te:DE)(tl th:DO):DE:=λσ O=>(te σ O).bnd λx O1=>(tl σ O1).bnd λlo O2=>(th σ O2).bnd λhi O3=>OH O3 x lo hi
def Fu{K:ak}{ds:List D}{vs:List V}(h:oM K H Xf μ ds vs)(lo hi:Option Int):oM K H Xf μ (xY ds lo hi) (Dy vs lo hi):=by unfold xY Dy;rw[h.length];exact oM.take _ (oM.drop _ h)
def Yn{lo hi:Option aR}{tl th:DO}{w:Pos}(y:PD X Ex e te)(m:Am X Ex lo tl)(z:Am X Ex hi th):PD X Ex (.Subscript e (.Slice lo hi JL w) pos) (EG te tl th):=
 rV (Tz (xR.or Rg (xR.or Rf Sw)) y.out m.out z.out) λXf μ S O b_ H Q A B q=>rd.go A B q λd T v U V C x D r p=>BJ.go C D p λl W Y Z E F G I=>BJ.go E G I λu O3 H3 zO e4 J h f=>by
  have j:=(r.ext F).ext J;unfold OH at f;split at f
  ·rename_i i;unfold XV at j;subst j;obtain⟨m.out,f⟩:=post.ite f;refine .inl ⟨_,rfl,?_,post.here f h ?_⟩
   ·show i.toArray.size<=_;rw[aQ];exact yG m.out
   ·unfold XV;rw[D1]
  ·rename_i K;obtain⟨n,t,rfl,L,k⟩:=j;split at f
   ·exact ai f
   ·rename_i M;refine .inr (.inl ⟨n,t,rfl,L.sq,by rw[<- k.length];exact M,λN g=>post.ok f (.laid g) (h.laid g) (XV.newT h g (Fu k l u))⟩)
  ·split at f
   ·rename_i K P;obtain⟨n,t,rfl,R,k⟩:=vk h j P;exact .inr (.inr ⟨n,t,rfl,R,λN g=>post.ok f (.laid g) (h.laid g) (XV.newL h g (Fu k l u))⟩)
   ·exact ai f
def HS:Ow->D->D->R D:=λO x y=>match x,y with
 |.str i,.str j=>.ok (.bl (!(cb ⟨j.toArray⟩ ⟨i.toArray⟩ 0 j.length 1).isEmpty)) O
 |_,_=>.bad
def zhY:tx X Ex (λx y H Q=>∃i j,x=.str i/\y=.str j/\Q (.bl (!(cb j i 0 j.length 1).isEmpty)) H) HS:=by
 intro H Xf μ O x y v w Q c d f q;unfold HS at q;split at q
 ·rename_i i j;unfold XV at d f;subst d;subst f;refine⟨_,_,rfl,rfl,post.here q c ?_⟩;have e:(⟨j.toArray⟩:aq).length=j.length:=by show j.toArray.size=_;simp
  rw[e];exact uH
 ·exact ai q
end
def qL(K:ak)(mg:aq->Option ae)(x:aq)(st:dh):Prop:=∃f fd,mg x=YP (.ref f)/\L2.Fun K x x st f fd
structure Callee(P:aK)(w:aT)(K:ak)(mg:aq->Option ae)(base:aS)(x:aq)(k n:Nat)(F:qh):Prop where
 ex:∃f fd ps,mg x=YP (.ref f)/\cZ K (.ref f)=JQ/\Binds K fd ps []/\oY P w K mg base BW k f fd ps (Hw K Kr n F)
def RB(c:Callee X.prog X.w X.K X.mg X.base x k n F)(a:oP j X.A)(b:k<=j)(d:Gl X x)(g:tM X qN (e::es) t)
  (h:rH x:=by decide) (i:aF (e::es) X.env=(JU,eval e X.env)::aF es X.env:=by rfl) (l:(backTo pos (aF es X.env)).any (·.1)=JU:=by rfl):
  PD X qN (.Call (.Name x p) (e::es) [] pos) (k_ n F t):=by obtain⟨f,r,s,m,o,q,G⟩:=c.ex;exact P4 (G.mono b) a d m o q PF g h i l
def OG(h:qL K mg x st)(S:tF N ps (qz st))
  (l:∀(e c g:ae)(i:Option af)(b j:ae)(d:List ae),d.length=ps.length->bindArgs (br x x (vS st) (tP st) (qz st) .none e c g i b j) ⟨d,[]⟩=pure (ps.zip d))
  (m:∀(f:af)(b:ae)(A:aU)(a:List Env)(s:ah)(H:Hp)(E:XK),oP k (A.deeper (a9 x (qz st) s.heap.objs.size f b))->sQ (EH P w K mg base N x (qz st) f b A a s H E) qN (tP st) t):
  Callee P w K mg base x (k+1) ps.length (qT N.length t):=by obtain⟨f,n,o,F⟩:=h;refine⟨f,n,ps,o,F.kp,F.binds l,?_⟩;obtain⟨u,v,e,c,g,i,b,j,y,rfl,p,q⟩:=F.ex;exact YB p q S λA a s H E r=>m f b A a s H E r
def Callee.imp(c:Callee P w K mg base x k n F)
  (h:∀ds O H Xf μ Q,oK K H Xf μ O->qY qN K H Xf μ (G ds O) Q->qY qN K H Xf μ (F ds O) Q):Callee P w K mg base x k n G:=by obtain⟨f,b,e,g,i,j,l⟩:=c.ex;refine⟨f,b,e,g,i,j,l.imp λo H Q E ⟨m,Xf,μ,ds,O,d,a,q⟩=>⟨m,Xf,μ,ds,O,d,a,h ds O H Xf μ Q a q⟩⟩
def Callee.bad(c:Callee P w K mg base x k n F):Callee P w K mg base x k n (λ_ _=>.bad):=
 c.imp λ_ _ _ _ _ _ _ q=>ai q
def frz(O:Ow)(n:Nat):Nat->D->Option D
 | 0,d=>match d with
  |.own k=>if k<n then YP (.own k) else JL
  |.lst _=>JL
  |.tup _=>JL
  |.map _ _=>JL
  |d=>YP d
 | f+1,d=>match d with
  | .own k=>if k<n then YP (.own k) else match O[k]? with
   |some ds=>(qx (frz O n f) ds).map .lst
   |none=>JL
  |.lst ds=>(qx (frz O n f) ds).map .lst
  |.tup ds=>(qx (frz O n f) ds).map .tup
  |.map _ _=>JL
  |d=>YP d
def yt(n:Nat)(r:R D):R D:=match r with
 | .ok d O=>match frz O n 8 d,qx (qx (frz O n 8)) (O.take n) with
  |some d',YP O'=>.ok d' O'
  |_,_=>.bad
 |r=>r
section
variable{K:ak}{H:Hp}{Xf μ ν:List af}{O:Ow}{n:Nat}
theorem FF(b:∀d d' v,f d=YP d'->XV K H Xf μ d v->XV K H Xf e_ d' v):∀(ds a:List D)(vs:List V),qx f ds=YP a->oM K H Xf μ ds vs->oM K H Xf e_ a vs
 |[],a,vs,e,h=>by cases e;unfold oM at h ⊢;exact h
 | d::ds,a,vs,e,h=>by
  unfold qx at e;split at e
  ·rename_i p c g i;cases e;obtain⟨v,r,rfl,j,k⟩:=h;exact .cons (b d p v g j) (FF b ds c r i k)
  ·cases e
def Q6(c:oK K H Xf (μ++ν) O)(S:μ.length=n):∀(f:Nat)(d d':D)(v:V),frz O n f d=YP d'->XV K H Xf (μ++ν) d v->XV K H Xf μ d' v:=by
 have s:∀{a:af},a∉μ++ν->a∉μ:=λh m=>h (ci _ m);have u:∀{k:Nat}{v:V},k<n->XV K H Xf (μ++ν) (.own k) v->XV K H Xf μ (.own k) v:=λ{k v}w h=>by
  obtain⟨a,rfl,e⟩:=h;rw[aL 'd'] at e;exact⟨a,rfl,e⟩
 have B:∀{v:V},XV K H Xf (μ++ν) .dct v->XV K H Xf μ .dct v:=λ{v}h=>by
  obtain⟨a,rfl,r,x,y⟩:=h;exact⟨a,rfl,r,x,s y⟩
 have E:∀{C:Nat}{v:V},XV K H Xf (μ++ν) (.exn C) v->XV K H Xf μ (.exn C) v:=λ{C v}h=>by
  obtain⟨a,G,rfl,g,r,x,y⟩:=h;exact⟨a,G,rfl,g,r,x,s y⟩
 intro f
 induction f with
 | zero=>
  intro d d' v e h;cases d with
  | own k=>
   unfold frz at e;dsimp only at e;split at e
   ·rename_i w;cases e;exact u w h
   ·cases e
  |lst o=>cases e
  |tup o=>cases e
  |dct=>cases e;exact B h
  |map ks o=>cases e
  |adr _=>cases e;unfold XV at h ⊢;exact h
  |exn C=>cases e;exact E h
  |tab P=>cases e;unfold XV at h ⊢;exact h
  |non=>cases e;unfold XV at h ⊢;exact h
  |bl b=>cases e;unfold XV at h ⊢;exact h
  |int i=>cases e;unfold XV at h ⊢;exact h
  |str i=>cases e;unfold XV at h ⊢;exact h
 | succ f ih=>
  intro d d' v e h;cases d with
  | own k=>
   unfold frz at e;dsimp only at e;split at e
   ·rename_i w;cases e;exact u w h
   ·rename_i w;obtain⟨a,rfl,A⟩:=h;obtain⟨o,t,I,J,L⟩:=c.at_ k a A;rw[I] at e;dsimp only at e;cases p:qx (frz O n f) o with
    |none=>rw[p] at e;cases e
    | some ps=>
     rw[p] at e;cases e;refine⟨a,t,rfl,.inl ⟨.inl J,c.nh a (aO A),λm=>?_⟩,FF ih o ps t p L⟩;obtain⟨j,F,M⟩:=er.mp m;have N:(μ++ν)[j]?=YP a:=by rw[aL F,aw F,M]
     obtain⟨T,Q⟩:=am.mp N;obtain⟨U,R⟩:=am.mp A;have:=(j9 c.nd).mp (Q.trans R.symm);lia
  | lst o=>
   unfold frz at e;dsimp only at e;obtain⟨a,t,rfl,l,q⟩:=h;cases p:qx (frz O n f) o with
   |none=>rw[p] at e;cases e
   | some ps=>
    rw[p] at e;cases e;exact⟨a,t,rfl,l.imp (λz=>⟨z.1,z.2.1,s z.2.2⟩) id,FF ih o ps t p q⟩
  | tup o=>
   unfold frz at e;dsimp only at e;obtain⟨a,t,rfl,l,q⟩:=h;cases p:qx (frz O n f) o with
   |none=>rw[p] at e;cases e
   | some ps=>
    rw[p] at e;cases e;exact⟨a,t,rfl,l.imp (λz=>⟨z.1,z.2.1,s z.2.2⟩) id,FF ih o ps t p q⟩
  |dct=>cases e;exact B h
  |map ks o=>cases e
  |adr _=>cases e;unfold XV at h ⊢;exact h
  |exn C=>cases e;exact E h
  |tab P=>cases e;unfold XV at h ⊢;exact h
  |non=>cases e;unfold XV at h ⊢;exact h
  |bl b=>cases e;unfold XV at h ⊢;exact h
  |int i=>cases e;unfold XV at h ⊢;exact h
  |str i=>cases e;unfold XV at h ⊢;exact h
theorem L3{α β:Type}{f:α->Option β}:∀{l:List α}{r:List β},qx f l=YP r->r.length=l.length
 |[],r,e=>by cases e;rfl
 | x::l,r,e=>by
  unfold qx at e;split at e
  ·rename_i p b c a;cases e;simp[L3 a]
  ·cases e
theorem S8{α β:Type}{f:α->Option β}:∀{l:List α}{r:List β}{k:Nat}{y:β},qx f l=YP r->r[k]?=YP y->∃x,l[k]?=YP x/\f x=YP y
 |[],r,k,y,e,h=>by cases e;simp at h
 | x::l,r,k,y,e,h=>by
  unfold qx at e;split at e
  ·rename_i p g a b;cases e;cases k with
   |zero=>simp at h;subst h;exact⟨x,by simp,a⟩
   |succ k=>obtain⟨z,c,d⟩:=S8 b ⇑h;exact⟨z,by simpa using c,d⟩
  ·cases e
def T7{j:Nat->Hp->Prop}{r:R D}{Q:VK}(g:μ.length=n)(q:qY j K H Xf μ (yt n r) Q):qY j K H Xf μ r Q:=by
 cases r with
 |bad=>exact q
 |exc c O'=>exact q
 | ok d O'=>
  intro v l G x c h;obtain⟨ν,rfl⟩:=x.pre;have b:qY j K H Xf μ (match frz O' n 8 d,qx (qx (frz O' n 8)) (O'.take n) with|some d',YP O2=>.ok d' O2|_,_=>.bad) Q:=q;cases i:frz O' n 8 d with
  |none=>rw[i] at b;exact ai b
  | some d'=>
   cases f:qx (qx (frz O' n 8)) (O'.take n) with
   |none=>rw[i,f] at b;exact ai b
   | some O2=>
    rw[i,f] at b;have u:Ext H μ l μ:=⟨⟨[],by simp⟩,x.kept,λ_ m=>.inl m,x.there,x.tab⟩;have o:=c.len.symm;have w:oK K l Xf μ O2:=by
     refine⟨?_,(fG.mp c.nd).1,λa m=>c.nh a (ci _ m),c.ht,λk a e=>?_⟩
     ·rw[L3 f,bI,o,az,g];lia
     ·have y:=(am.mp e).1;obtain⟨z,p,A,B,C⟩:=c.at_ k a (by rw[aL y];exact e);have s:k<O2.length:=by rw[L3 f,bI,o,az,g];lia
      obtain⟨E,t,F⟩:=S8 f (aw s);have:E=z:=by
       rw[jH,JV 'd',A] at t;cases t;rfl
      subst this;exact⟨_,p,aw s,B,FF (Q6 c g 8) _ _ p F C⟩
    exact b v l μ u w (Q6 c g 8 d d' v i h)
end
def Dw(F:qh):qh:=λds O=>yt O.length (F ds O)
def Callee.frz(c:Callee P w K mg base x k n F):Callee P w K mg base x k n (Dw F):=
 c.imp λd O H a e Q b q=>T7 b.len q
noncomputable def Pc(sc scope:cu)(N':List aq)(sl:pU):Bool:=
 (match scope.kind with|.function=>JQ|_=>JU)&&decide ((scope.names.map (·.1)).Nodup)&&(scope.names.all λy=>!(y.2 == .free)||sc.names.lookup y.1==YP .cell||sc.names.lookup y.1==YP .free) &&
 (N'.zipIdx.all λp=>!((scope.names.any λy=>y.1==p.1&&y.2 == .local)||(scope.names.any λy=>y.1==p.1&&y.2 == .cell))||sl.contains p.2)
def Ik(h:Pc sc scope N' sl=JQ):yN sc scope N' sl:=by
 unfold Pc at h;simp only[be,decide_eq_true_eq,aD] at h;obtain⟨⟨⟨a,b⟩,c⟩,d⟩:=h;refine⟨?_,b,λy f g=>?_,λi x j k=>?_⟩
 ·cases e:scope.kind<;>rw[e] at a<;>first|rfl|cases a
 ·have:=c y f;rw[g] at this;simpa using this
 ·have l:(x,i)∈N'.zipIdx:=by
   rw[List.mem_zipIdx_iff_getElem?];exact j
  have h:=d _ l;have n:((scope.names.any λy=>y.1==x&&y.2 == .local)||(scope.names.any λy=>y.1==x&&y.2 == .cell))=JQ:=by
   rw[nO];exact k.imp (λm=>ei.mpr ⟨_,m,by simp⟩) λm=>ei.mpr ⟨_,m,by simp⟩
  rw[n] at h;simpa using h
structure KE(mg:aq->Option ae)(x:aq)(cs:pU):Prop where
 ex:∃t,mg x=YP (.str ⟨cs.toArray⟩ t)
section
variable{X:Cx}{Ex:Nat->Hp->Prop}{pos:Pos}{a b c e:aR}{ta:DE}{Xq:List (af×Obj)}{b_:St}{H:Hp}{s:ah}{Xf μ:List af}{O:Ow}
def SO(h:KE X.mg x cs)(d:Gl X x:=by rfl)(f:rH x:=by decide):PD X Ex (.Name x pos) (dC (.str cs)):=by obtain⟨t,h⟩:=h.ex;exact zdO cs d h rfl f
def KZ(C C':String)(t:DE):DE:=λσ O=>(t σ O).bnd λd O1=>if (vQ d == "function")=JQ then .bad else .ok (.bl (yu (vQ d) C||yu (vQ d) C')) O1
def zbi:oW X (.builtin "isinstance") (λxs H Q=>∃x p C f Xf μ O d,xs=[x,.ref p]/\rZ X.K H p [.ty C,.ty f]/\C∈Eo/\f∈Eo/\oK X.K H Xf μ O/\XV X.K H Xf μ d x/\(vQ d == "function")=JU/\Q (.bl (yu (vQ d) C||yu (vQ d) f)) H):=by
 intro Xq s G H xs J Q I r h;obtain⟨x,L,C,f,Xf,μ,O,d,rfl,l,m,g,o,t,v,q⟩:=h;obtain⟨u,M,rfl,w,y⟩:=B7 r;cases y;obtain⟨T,N,Z,p,z,i⟩:=Vi I o t w v;obtain⟨P,A,⟨⟨R,S,U,V⟩,B,j,n,k⟩,Y⟩:=I.tuple l;simp only at j k;subst j k;obtain⟨v1,v2,rfl,D,E⟩:=B7 A;cases D;cases E;refine wT I (PySem.W.kia_tup (b:=yu (vQ d) C||yu (vQ d) f) Z I.kIn p B ?_ z λF qv=>⟨.bl _,H,I.tok F,rfl,q⟩);unfold nX;rw[i _ m];cases yu (vQ d) C with
 |true=>rfl
 | false=>
  dsimp only;unfold nX;rw[i _ g];cases yu (vQ d) f<;>rfl
def zgz(j:PD X Ex a ta)(k:n∈Eo)(m:n'∈Eo)(o:Gl X "isinstance")(t:X.mg "isinstance" = JL)(u:bd "isinstance" = YP (.builtin "isinstance"))(w:Gl X C)(y:X.mg C=JL)(z:bd C=YP (.type n))
  (A:Gl X C') (B:X.mg C'=JL) (D:bd C'=YP (.type n')) (E:C ≠ "__name__":=by decide) (F:rH C:=by decide) (G:C' ≠ "__name__":=by decide) (I:(C'==("__debug__":aq))=JU:=by decide)
  (h:aF [a,.Tuple [.Name C p',.Name C' AO] kt pt] X.env=(JU,eval a X.env)::aF [.Tuple [.Name C p',.Name C' AO] kt pt] X.env:=by rfl) (J:aF [.Tuple [.Name C p',.Name C' AO] kt pt] X.env=[(JU,eval (.Tuple [.Name C p',.Name C' AO] kt pt) X.env)]:=by rfl)
  (K:(backTo pos (aF [.Tuple [.Name C p',.Name C' AO] kt pt] X.env)).any (·.1)=JU:=by rfl) (L:aF [.Name C p',.Name C' AO] X.env=(JU,eval (.Name C p') X.env)::aF [.Name C' AO] X.env:=by rfl) (M:aF [.Name C' AO] X.env=[(JU,eval (.Name C' AO) X.env)]:=by rfl):
  PD X Ex (.Call (.Name "isinstance" p) [a,.Tuple [.Name C p',.Name C' AO] kt pt] [] pos) (KZ n n' ta):=
 rV (D5 (zbi (X:=X)) o t u (yb j.out (yb (QU (yb (IM (v:=.ty n) w y z rfl E F) (yb (IM (v:=.ty n') A B D rfl G I) Br M) L)) Br J) h) 'u' 'u' h K) λXf μ U O b_ H Q N P q=>rd.go N P q λd R v V S W x i r g=>by
  obtain⟨T,g⟩:=post.iteN g;exact⟨by show 2<=J3;decide,λl f=>⟨v,l,n,n',Xf,S,R,d,rfl,.of rS,k,m,i.laid f,r.ext (.laid f),T,post.ok g (.laid f) (i.laid f) uH⟩⟩
def XW(O:Ow):D->R D
 |.int i=>.ok (.int (-i)) O
 |_=>.bad
def HU(t:DE):DE:=λσ O=>(t σ O).bnd λx O1=>XW O1 x
def Zi(f:PD X Ex a ta):PD X Ex (.UnaryOp .USub a pos) (HU ta):=
 rV (Yr zjG f.out) λXf μ k O b_ H Q g h q=>rd.go g h q λd l v m n o x j r p=>by
  cases d with
  |int i=>unfold XV at r;subst r;exact⟨i,rfl,post.here p j t5⟩
  |_=>exact ai p
def xu:Ow->D->D->R D:=λO x y=>match y with
 |.str _=>HS O x y
 |_=>qd BL O x y
def zT:Ow->D->D->R D:=λO x y=>match y with
 | .str _=>match HS O x y with
  |.ok (.bl b) O1=>.ok (.bl (!b)) O1
  |_=>.bad
 |_=>qd Dz O x y
def QN(d:X.A.units+64<cLine):qS X (cz .In) (λx y H Q=>AM X.K BL x y H Q \/ ∃i j,x=.str i/\y=.str j/\Q (.bl (!(cb j i 0 j.length 1).isEmpty)) H):=qS.or (zgu d) zcX
def RE:tx X Ex (λx y H Q=>AM X.K BL x y H Q \/ ∃i j,x=.str i/\y=.str j/\Q (.bl (!(cb j i 0 j.length 1).isEmpty)) H) xu:=by
 intro H Xf μ O x y v w Q c d f q;unfold xu at q;split at q
 ·exact .inr (zhY H Xf μ O _ _ v w Q c d f q)
 ·exact .inl (Bt H Xf μ O x y v w Q c d f q)
def R5(d:X.A.units+64<cLine):qS X (cz .NotIn) (λx y H Q=>AM X.K Dz x y H Q \/ ∃i j,x=.str i/\y=.str j/\Q (.bl (!(!(cb j i 0 j.length 1).isEmpty))) H):=qS.or (zf4 d) z70
def RP:tx X Ex (λx y H Q=>AM X.K Dz x y H Q \/ ∃i j,x=.str i/\y=.str j/\Q (.bl (!(!(cb j i 0 j.length 1).isEmpty))) H) zT:=by
 intro H Xf μ O x y v w Q c d f q;unfold zT at q;split at q
 ·rename_i g;cases x with
  | str i=>
   unfold XV at d f;subst d;subst f;refine .inr ⟨_,_,rfl,rfl,post.here q c ?_⟩;have e:(⟨g.toArray⟩:aq).length=g.length:=by show g.toArray.size=_;simp
   rw[e];exact uH
  |_=>exact ai q
 ·exact .inl (Bt H Xf μ O x y v w Q c d f q)
end
section
variable{X:Cx}{Xq:List (af×Obj)}{b_:St}{H:Hp}{s:ah}
def Inv.turns(ch:List af)(I:L2.Inv X Xq b_ H s)(k:∀b o,b∉ch->s.heap.get? b=YP o->h'.get? b=YP o)(d:∀b∈ch,tj X Xq H b)(j:0<t':=by first|assumption|exact Inv.tk ‹_›):L2.Inv X Xq b_ H { s with heap:=h',toks:=t' }:=by
 have f:∀b u,H b=YP u->b∉ch:=λb u e z=>by rw[(d b z).1] at e;cases e
 have g:Un (rP X.stack) ch H H s.heap h':=⟨λb o e _ _ n=>k b o n e,λb o e _ _ n=>⟨o.slots,k b o n e⟩,λ_ _ _ n _=>n,λb o e n=>⟨o,k b o n e⟩,λ_ _ e=>e,λ_ _ _ e=>e,λb l e=>⟨#[],by rw[e];simp⟩⟩;have a:HOk X.prog X.w H h':=λb u e=>(I.hok b u e).stay (λc v h q=>k c v (by
  rcases h with z|z
  ·rw[z];exact f b u e
  ·exact f c _ z) q) (λ_ q=>q) λ_ _ q=>q
 exact I.call g a I.bare λb i=>let ⟨_,f1,_,f3,f4,f5⟩:=d b i;⟨f3,f1,f4,f5⟩
end
def Itz(K:ak)(l m:af):It:=
 ⟨λi H=>∃xs ys x y,qR K H l xs/\qR K H m ys/\xs[i]?=YP x/\ys[i]?=YP y,
   λi H v H'=>∃p x y,H p=JL/\v=.ref p/\(∀xs,qR K H l xs->xs[i]?=YP x)/\(∀ys,qR K H m ys->ys[i]?=YP y)/\H'=upd H p (.tup [x,y]),
   λi H=>∃xs ys,qR K H l xs/\qR K H m ys/\(xs.length<=i\/ys.length<=i)⟩
def pk(K:ak)(src:Src)(a:af)(H:Hp)(Xf μ:List af):Prop:=∀hid' H' e_ O',Mv H Xf μ H' hid' e_->oK K H' hid' e_ O'->∃ds vs,qR K H' a vs/\oM K H' hid' e_ ds vs/\∀i,src.get O' i=ds[i]?
section
variable{K:ak}{H:Hp}{Xf μ:List af}
def pk.val(l:LstAt K H Xf μ a vs)(q:oM K H Xf μ ds vs):pk K (.val ds) a H Xf μ:=λb d e f m c=>⟨ds,vs,(l.mv m).sq,q.mv m,λ_=>rfl⟩
def pk.own(d:μ[k]?=YP a):pk K (.own k) a H Xf μ:=by
 intro e p q f m c;obtain⟨g,rfl⟩:=m.pre;have h:(μ++g)[k]?=YP a:=by rw[aL (am.mp d).1];exact d
 obtain⟨b,j,l,n,o⟩:=c.at_ k a h;exact⟨b,j,.of n,o,λi=>by show(match f[k]? with|some b=>b[i]?|none=>JL)=_;rw[l]⟩
def pk.mv(h:pk K src a H Xf μ)(e:Mv H Xf μ H1 yk f_):pk K src a H1 yk f_:=λb d f g m c=>h b d f g (e.trans m) c
def oU.zip(E:pk K s1 a H Xf μ)(F:pk K s2 b H Xf μ):oU K (Itz K a b) (.zip s1 s2) H Xf μ:=by
 intro e n o f m c i;obtain⟨G,g,h,q,I⟩:=E e n o f m c;obtain⟨J,j,k,r,L⟩:=F e n o f m c;show match (match s1.get f i,s2.get f i with|some x,YP y=>YP (D.tup [x,y])|_,_=>JL) with|some d=>_|none=>_
 rw[I,L];cases s:G[i]? with
 | none=>
  exact⟨g,j,h,k,.inl (by rw[<- q.length];exact aY.mp s)⟩
 | some x=>
  cases t:J[i]? with
  | none=>
   exact⟨g,j,h,k,.inr (by rw[<- r.length];exact aY.mp t)⟩
  | some y=>
   obtain⟨v,u,M⟩:=q.get s;obtain⟨w,A,N⟩:=r.get t;refine⟨⟨g,j,v,w,h,k,u,A⟩,λz R O=>?_⟩;obtain⟨p,S,T,l,rfl,P,Q,rfl⟩:=O;have B:=P g h;rw[u] at B;cases B;have C:=Q j k;rw[A] at C;cases C;exact⟨.laid l,c.laid l,XV.newT c l (.cons M (.cons N .nil))⟩
end
noncomputable def Qj:D->Option Src
 |.lst ds=>YP (.val ds)
 |.own k=>YP (.own k)
 |_=>JL
def znL(t:DA):DI:=λσ O=>(t σ O).bnd λxs O1=>match xs with
 | [x,y]=>match Qj x,Qj y with
  |some p,YP q=>.ok (.zip p q) O1
  |_,_=>.bad
 |_=>.bad
section
variable{X:Cx}{Ex:Nat->Hp->Prop}{c e:aR}{Xq:List (af×Obj)}{H:Hp}{s:ah}{Xf μ:List af}{O:Ow}
def zdR:bd "zip" = YP (.type "zip"):=by boot_by_name
def Q0{i j:Nat}{x y:aq}{d f g:Pos}{h:Nat}(k:X.calm=JQ)(b:X.N.Nodup)(hi:X.N[i]?=YP x)(l:X.N[j]?=YP y)(m:Loc X.env.scope x)(n:Loc X.env.scope y)
  (o:X.fn x=JQ\/X.env.scope.names.lookup x=YP .local) (a:X.fn y=JQ\/X.env.scope.names.lookup y=YP .local):PG X (.Tuple [.Name x d,.Name y f] h g) ((Tg.two i j).rd X.K):=
 Zg k (S4 (IL b hi m o) (S4 (IL b l n a) zi7))
def yY:List D->Option (List Int)
 |[]=>YP []
 |.int i::r=>(yY r).map (i :: ·)
 |_=>JL
theorem LL:∀{ds:List D}{vs:List V}{a:List Int},oM K H Xf μ ds vs->yY ds=YP a->vs=a.map V.int
 |[],vs,ys,h,e=>by unfold oM at h;subst h;cases e;rfl
 | d::ds,vs,ys,h,e=>by
  obtain⟨v,r,rfl,b,f⟩:=h;cases d with
  | int i=>
   unfold yY at e;cases q:yY ds with
   |none=>rw[q] at e;cases e
   | some zs=>
    rw[q] at e;cases e;unfold XV at b;subst b;rw[LL f q];rfl
  |_=>cases e
def B8:Ow->List D->R D:=λO xs=>match xs with
 | [.str cs]=>match k9 ⟨cs.toArray⟩ with
  |some n=>if cs.length<=640 then .ok (.int n) O else .bad
  |none=>.bad
 |xs=>Kx O xs
def zbu:oW X (.type "int") (λxs H Q=>∃x n,xs=[.str x]/\k9 x=YP n/\x.length<=640/\Q (.int n) H):=by intro Xq s d H xs f Q I r h;obtain⟨x,n,rfl,a,b,q⟩:=h;obtain⟨u,rfl,t,rfl⟩:=uG r;exact PySem.W.KIN.call_text a b ⟨.int _,H,I.tok _,⟨_,rfl⟩,q⟩
noncomputable def PX:List V->Hp->VK->Prop:=λxs H Q=>((∃i,xs=[.int i]/\Q (.int i) H) \/ ∃k,xs=[.bl k]/\Q (.int (if k then 1 else 0)) H) \/ ∃x n,xs=[.str x]/\k9 x=YP n/\x.length<=640/\Q (.int n) H
def zc5:oW X (.type "int") PX:=oW.or zba zbu
def zhM:vE X Ex PX B8:=by
 intro H Xf μ O i b Q c d q;unfold B8 at q;split at q
 ·rename_i f;obtain⟨v,rfl,a⟩:=ux d;unfold XV at a;subst a;split at q
  ·rename_i n g;obtain⟨h,q⟩:=post.ite q;refine .inr ⟨_,n,rfl,g,?_,post.here q c t5⟩;show f.toArray.size<=640;simpa using h
  ·exact ai q
 ·exact .inl (YR H Xf μ O _ b Q c d q)
end
def Callee.self(c:Callee P w K mg base x k n F):Callee P w K mg base x k n F:=c
section
variable{X:Cx}{Ex:Nat->Hp->Prop}{pos Hi:Pos}{e o i:aR}{ti:DE}{Xq:List (af×Obj)}{b_:St}{H:Hp}{s:ah}{Xf μ:List af}{O:Ow}
def TQ:vd X Ex (.Pass pos) rF:=AE ziy λXf μ c O E b_ H a b q=>q b_ H μ .refl a b
def HI:DE:=λ_ O=>.ok .dct O
def Zo:PD X Ex (.Dict [] [] pos) HI:=
 rV zeC λXf μ c O b_ H Q d b q=>λp a=>post.ok q (.laid a) (b.laid a) (by
  unfold XV;exact⟨p,rfl,.inl rS,b.not_in a⟩)
def B3(tab:List (Int×Int)):List (Key×V):=tab.map λkv=>(gU kv.1,V.int kv.2)
noncomputable def uV(tab:List (Int×Int))(i:Int):Option Int:=(tab.find? λkv=>kv.1==i).map (·.2)
def EK(tab:List (Int×Int))(i:Int):Option Int:=match uo (AD [] (B3 tab)) (gU i) with
 |some (.int v)=>YP v
 |_=>JL
def PY(at_:List (Int×Int)->Int->Option Int)(tab:List (Int×Int))(t:DE):DE:=λσ O=>(t σ O).bnd λx O1=>match x with
 | .int i=>match at_ tab i with
  |some v=>.ok (.int v) O1
  |none=>.bad
 |_=>.bad
def KI:List (Int×Int)->DE->DE:=PY EK
def Ky:List (Int×Int)->DE->DE:=PY uV
theorem VE:∀{tab:List (Int×Int)},Q (tab.map λkv=>(V.int kv.1,V.int kv.2)) H->Fc (tab.map λkv=>(tC (.int kv.1),tC (.int kv.2))) σ H Q
 |[],h=>h
 | kv::r,h=>by
  show Fc (r.map λkv=>(tC (.int kv.1),tC (.int kv.2))) σ H λa b=>Q ((V.int kv.1,V.int kv.2)::a) b;exact VE (tab:=r) h
def ZC(tab:List (Int×Int))(h:Hs X Hi keys values AJ)(c:AJ=tab.map λg=>(tC (.int g.1),tC (.int g.2)))(m:keys.all (·.isSome)=JQ)(n:keys.length=values.length)(h0:keys≠[])(t:keys.length<=15)(u:tab.length<=15)
  (x:X.A.units+1<cLine) (hi:PD X Ex i ti) (y:Dr i):PD X Ex (.Subscript (.Dict keys values Hi) i pos) (KI tab ti):=
 rV (ziq x (zhC h m n h0 t) hi.out y) λXf μ J O b_ H Q z k q=>λp f=>by
  subst c;refine VE ⟨rS,B3 tab,by simp[B3,kV],by simpa [B3] using u,?_⟩;rw[zhH];have l:Ext H μ (upd H p (.dK (AD [] (B3 tab)))) μ:=.laid f;refine rd.go (z.ext l) (k.laid f) (post.ext q l) λd B v C D L E F r a=>?_;cases d with
  | int j=>
   unfold XV at r;subst r;have a:qY Ex X.K C Xf D (match EK tab j with|some v=>.ok (.int v) B|none=>.bad) Q:=a;cases b:EK tab j with
   |none=>rw[b] at a;exact ai a
   | some v=>
    rw[b] at a;have G:uo (AD [] (B3 tab)) (gU j)=YP (.int v):=by
     unfold EK at b;split at b
     ·rename_i w I;cases b;exact I
     ·cases b
    refine⟨p,.int v,rfl,.inl ⟨AD [] (B3 tab),gU j,.inl (E.keep p _ rS (k.not_in f).2),rfl,G.symm⟩,post.here a F t5⟩
  |_=>exact ai a
noncomputable def HN:List DictEntry->List (Int×Int)->Bool
 |[],[]=>JQ
 |e::es,(k,v)::r=>(match e.key with|.int i _=>i==k|_=>JU)&&(e.hash==hashInt k)&&(match e.val with|.int i _=>i==v|_=>JU)&&HN es r
 |_,_=>JU
def HL(o:Obj)(tab:List (Int×Int)):Bool:=(match o.cls with|.type n=>n == "dict"|_=>JU)&&o.dict.isNone&&o.slots.isEmpty&&decide ((tab.map (·.1)).Nodup)&&(match o.data with|.dict es _=>HN es.toList tab|_=>JU)
structure B1(K:ak)(mg:aq->Option ae)(x:aq)(tab:List (Int×Int)):Prop where
 ex:∃e o,mg x=YP (.ref e)/\K.lookup e=YP o/\HL o tab=JQ/\(e==sysModules)=JU
theorem Vr:∀{f:List DictEntry}{tab:List (Int×Int)},HN f tab=JQ->∃a:List (Int×ae),Pairs (intKind P w) f a/\(∀e∈f,∃k,(intKind P w).is k e.key=JQ/\e.hash=(intKind P w).hash k)/\a.map (·.1)=tab.map (·.1)/\
  ∀i,(valueAt a i).isSome=(uV tab i).isSome/\∀v,uV tab i=YP v->∃t,valueAt a i=YP (.int v t)
 |[],[],_=>⟨[],.nil,by simp,rfl,λi=>⟨rfl,λv h=>by cases h⟩⟩
 |[],_::_,h=>by cases h
 |_::_,[],h=>by cases h
 | e::f,(k,v)::r,h=>by
  obtain⟨b,key,x⟩:=e;unfold HN at h;simp at h;obtain⟨⟨⟨c,g⟩,d⟩,y⟩:=h;split at c
  ·rename_i i t;split at d
   ·rename_i j u;have c:i=k:=⇑c
    have g:b=hashInt k:=⇑g
    have d:j=v:=⇑d
    subst c d;obtain⟨a,p,z,A,l⟩:=Vr y;have n:(intKind P w).is i (.int i t)=JQ:=by show iH i (.int i t)=JQ;simp[iH]
    refine⟨(i,.int j u)::a,.cons n rfl p,λe he=>?_,by simp[A],λq=>?_⟩
    ·rcases ar.mp he with rfl|he
     ·exact⟨i,n,g⟩
     ·exact z e he
    ·unfold valueAt uV;by_cases m:i=q
     ·subst m;simp
     ·have B:(decide ((i,oi j u).1=q))=JU:=⇑m
      have C:((i,j).1==q)=JU:=⇑m
      rw[eJ,eJ,B,C];exact l q
   ·cases d
  ·cases c
def ze6{P:aK}{w:aT}{o:Obj}{tab:List (Int×Int)}(h:HL o tab=JQ):∃f:Int->Option ae,(∀(b:aS)(e:af),b.get? e=YP o->b.MapOf (intKind P w) e f)/\∀i,(f i).isSome=(uV tab i).isSome/\∀v,uV tab i=YP v->∃t,f i=YP (.int v t):=by
 obtain⟨m,k,l,c⟩:=o;unfold HL at h;simp at h;obtain⟨⟨⟨⟨a,q⟩,r⟩,u⟩,d⟩:=h;split at a
 ·rename_i n;have a:n = "dict":=⇑a
  split at d
  ·rename_i x y;obtain⟨z,p,A,B,g⟩:=Vr d;refine⟨valueAt z,λb e j=>?_,g⟩;refine Heap.DictOf.mapOf ⟨_,x,y,j,⟨?_,?_,?_⟩,rfl,?_,p,by rw[B];exact u⟩
   ·show eE n=_;rw[a]
   ·simpa using q
   ·simpa using r
   ·intro e j;exact A e ⇑j
  ·cases d
 ·cases a
def SH(h:B1 X.K X.mg x tab):∃e,X.mg x=YP (.ref e)/\(e==sysModules)=JU/\∃f:Int->Option ae,(∀(Xq:List (af×Obj))(b_:St)(H:Hp)(s:ah),L2.Inv X Xq b_ H s->s.heap.MapOf (intKind X.prog X.w) e f)/\
  ∀i,(f i).isSome=(uV tab i).isSome/\∀v,uV tab i=YP v->∃t,f i=YP (.int v t):=by obtain⟨e,o,b,c,d,g⟩:=h.ex;obtain⟨f,m,a⟩:=ze6 d;exact⟨e,b,g,f,λXq b_ H s I=>m _ e (I.kIn e o c),a⟩
def Mx(i:Int)(t:Tok):(intKind P w).is i (.int i t)=JQ:=by show iH i (.int i t)=JQ;simp[iH]
def zif(h:B1 X.K X.mg x tab)(B:Gl X x)(hi:PD X Ex i ti)(C:Dr i)(D:rH x:=by decide):PD X Ex (.Subscript (.Name x p) i pos) (Ky tab ti):=by
 obtain⟨e,E,U,f,F,k⟩:=SH h;refine⟨?_⟩;rintro Xq s b_ H Q I ⟨Xf,μ,V,O,G,J,q⟩;refine Lw g7.lookup C (IT (v:=.ref e) B E rfl D Xq s b_ H (λv l=>v=.ref e/\l=H) I ⟨rfl,rfl⟩ |> λz=>pZ z λu L ⟨v,l,N,m,P,R⟩=>?_);subst P R;cases m;refine pZ (hi.out Xq L b_ l _ N (rd.go G J q (Q1:=λy b=>∃Xf c g d,oK X.K b Xf c g/\XV X.K b Xf c d y/\qY Ex X.K b Xf c (match d with|.int i=>(match uV tab i with|some v=>.ok (.int v) g|none=>.bad)|_=>.bad) Q)
  λd g y b c W Y n r a=>⟨Xf,c,g,d,n,r,a⟩)) λu S ⟨y,b,A,m,Xf,c,g,d,n,r,a⟩=>?_
 have M:=F Xq b_ b S A;cases d with
 | int j=>
  unfold XV at r;subst r;obtain⟨t,rfl⟩:=m;have a:qY Ex X.K b Xf c (match uV tab j with|some v=>.ok (.int v) g|none=>.bad) Q:=a;cases w:uV tab j with
  |none=>rw[w] at a;exact ai a
  | some v=>
   rw[w] at a;obtain⟨Z,T⟩:=(k j).2 v w;exact⟨M.typeIs,ki (Mx j t) M T ⟨.int v,b,A.tok _,⟨_,rfl⟩,post.here a n t5⟩⟩
 |_=>exact ai a
def DV(neg:Bool)(tab:List (Int×Int))(t:DE):DE:=λσ O=>(t σ O).bnd λx O1=>match x with
 |.int i=>.ok (.bl (if neg=JQ then !(uV tab i).isSome else (uV tab i).isSome)) O1
 |_=>.bad
def S9(a:Bool)(h:B1 X.K X.mg x tab)(B:Gl X x)(hi:PD X Ex i ti)(C:rH x:=by decide):PC X (if a=JQ then .NotIn else .In) i (.Name x p) (rd Ex X.K (DV a tab ti)):=by
 obtain⟨e,D,A,f,E,n⟩:=SH h;rintro Xq s b_ H Q I ⟨Xf,μ,V,O,F,G,q⟩;refine pZ (hi.out Xq s b_ H _ I (rd.go F G q (Q1:=λy c=>∃Xf g k d,oK X.K c Xf g k/\XV X.K c Xf g d y/\qY Ex X.K c Xf g (match d with|.int i=>.ok (.bl (if a=JQ then !(uV tab i).isSome else (uV tab i).isSome)) k|_=>.bad) Q)
  λd k y c g W Y l r b=>⟨Xf,g,k,d,l,r,b⟩)) λu J ⟨y,c,L,N,Xf,g,k,d,l,r,b⟩=>?_
 refine pZ (IT (v:=.ref e) B D rfl C Xq J b_ c (λv P=>v=.ref e/\P=c) L ⟨rfl,rfl⟩) λw R ⟨v,m,z,S,T,U⟩=>?_;subst T U;cases S;have M:=E Xq b_ m R z;cases d with
 | int j=>
  unfold XV at r;subst r;obtain⟨t,rfl⟩:=N;have b:qY Ex X.K m Xf g (.ok (.bl (if a=JQ then !(uV tab j).isSome else (uV tab j).isSome)) k) Q:=b;rw[<- (n j).1] at b;cases a with
  |false=>exact wpAny_in_of (Mx j t) A M ⟨.bl _,m,z.tok _,rfl,post.here b l uH⟩
  |true=>exact wpAny_notIn_of (Mx j t) A M ⟨.bl _,m,z.tok _,rfl,post.here b l uH⟩
 |_=>exact ai b
def zbe(h:B1 X.K X.mg x tab)(a:Gl X x)(hi:PD X Ex i ti)(b:rH x:=by decide)(c:behindInMarks .NotIn (.Name x p)=JU:=by rfl):PD X Ex (.Compare i [.NotIn] [.Name x p] pos) (DV JQ tab ti):=⟨Zu (S9 JQ h a hi b) c⟩
def YS(a:oN X.K H Xf μ σ b_)(b:oK X.K H Xf μ O)(q:yA Ex X.K H Xf μ (qt td σ O) Q):tB (rd Ex X.K td) b_ H Q:=
 Ui (λXf μ σ O b_ H Q a b q=>⟨Xf,μ,σ,O,a,b,q⟩) Xf μ σ O b_ H Q a b q
def zan(h:B1 X.K X.mg x tab)(a:Gl X x)(hi:PD X Ex i ti)(b:rH x:=by decide)(c:behindInMarks .NotIn (.Name x p)=JU:=by rfl):rY X Ex (.Compare i [.NotIn] [.Name x p] pos) (qt (DV JQ tab ti)):=
 Ip (Z7 (S9 JQ h a hi b) c) λXf μ g O b_ H Q d f q=>YS d f q
end
end DL
namespace DL
open PySem L2 PyProof.Rows
noncomputable def vB:List D->Option o_
 |[]=>YP []
 |.str cs::r=>(vB r).map (cs :: ·)
 |_=>JL
section
variable{H:Hp}{Xf μ:List af}
theorem IK{K:ak}:∀{ds:List D}{vs:List V}{a:o_},oM K H Xf μ ds vs->vB ds=YP a->vs=a.map λcs=>V.str ⟨cs.toArray⟩
 |[],vs,ys,h,e=>by unfold oM at h;subst h;cases e;rfl
 | d::ds,vs,ys,h,e=>by
  unfold oM at h;obtain⟨v,r,rfl,b,c⟩:=h;cases d with
  | str cs=>
   unfold vB at e;cases q:vB ds with
   |none=>rw[q] at e;cases e
   | some zs=>
    rw[q] at e;cases e;unfold XV at b;subst b;rw[IK c q];rfl
  |_=>cases e
def QJ:bd "len" = YP (.builtin "len"):=by boot_by_name
def Rj:bd "all" = YP (.builtin "all"):=by boot_by_name
def Z5:bd "any" = YP (.builtin "any"):=by boot_by_name
def Ry:bd "int" = YP (.type "int"):=by boot_by_name
def Ri:bd "str" = YP (.type "str"):=by boot_by_name
def Jd:bd "tuple" = YP (.type "tuple"):=by boot_by_name
def Lu:bd "list" = YP (.type "list"):=by boot_by_name
def ZM:bd "max" = YP (.builtin "max"):=by boot_by_name
def Lj:bd "min" = YP (.builtin "min"):=by boot_by_name
def FE:bd "sorted" = YP (.builtin "sorted"):=by boot_by_name
def BG:bd "isinstance" = YP (.builtin "isinstance"):=by boot_by_name
def zhw:bd "bool" = YP (.type "bool"):=by boot_by_name
def zhN:bd "dict" = YP (.type "dict"):=by boot_by_name
end
end DL
namespace DL
def zgA{α:Type}(a ds:List α)(d:α):(a++d::ds)[a.length]?=YP d:=by simp
theorem UG:∀(ds b a:List D)(f:Nat),ds.length<=f->(∀d∈ds,∀a:List D,a.length<4000000->step d O a=.ok (a++g d) O)->a.length+(ds.flatMap g).length+ds.length<4000000->
  rB (.val (b++ds)) step f b.length O a=.ok (a++ds.flatMap g) O
 | [],b,a,f,_,_,_=>by
  cases f<;>(unfold rB;simp[Src.get])
 |d::ds,b,a,0,h,_,_=>by simp at h
 | d::ds,b,a,f+1,h,hs,hl=>by
  unfold rB;have e:Src.get (.val (b++d::ds)) O b.length=YP d:=zgA b ds d;rw[e];simp only[fJ,az,bt] at hl;show((step d O a).bnd λc i=>rB (.val (b++d::ds)) step f (b.length+1) i c)=_;rw[hs d av a 'd'];show rB (.val (b++d::ds)) step f (b.length+1) O (a++g d)=_;have:=UG ds (b++[d]) (a++g d) f ⇑h (λj k=>hs j (al _ k)) (by rw[az];lia);rw[bh,List.singleton_append,az,eH] at this;rw[this];simp
def zju(hi:it0 σ O=.ok (.val ds) O)(t:ds.length<1900000)
  (n:∀d∈ds,vC ts ((qQ (qQ (σ++aB ext JL) [i]) [i]).set i (YP d)) O=.ok (p d) O) (q:∀d∈ds,p d=JQ->te ((qQ (qQ (σ++aB ext JL) [i]) [i]).set i (YP d)) O=.ok (e d) O) (o:Bool):
  qp o ext it0 (.one i) ts [] te σ O=yw o (.ok ((ds.filter p).map e) O):=by
 unfold qp Cm;rw[hi];show yw o (Af (rB (.val ds) _ ds.length 0 O []))=_;have c:∀d∈ds,∀a:List D,a.length<4000000->Bm ⟨it0,.one i,ts⟩ [] te (qQ (σ++aB ext JL) (qM [⟨it0,.one i,ts⟩])) d O a=.ok (a++(if p d=JQ then [e d] else [])) O:=by
  intro d j a r;show(match Tg.put (.one i) d (qQ (qQ (σ++aB ext JL) [i]) [i]) with|some qV=>(vC ts qV O).bnd λb k=>if b=JQ then x8 [] te qV k a else .ok a k|none=>.bad)=_;show(vC ts ((qQ (qQ (σ++aB ext JL) [i]) [i]).set i (YP d)) O).bnd _=_;rw[n d j];show(if p d=JQ then x8 [] te _ O a else .ok a O)=_;by_cases f:p d=JQ
  ·rw[JV f,JV f];unfold x8;rw[q d j f];show(if a.length<4000000 then _ else _)=_;rw[JV r]
  ·rw[JW f,JW f];simp
 have m:∀l:List D,(l.flatMap λd=>if p d=JQ then [e d] else [])=(l.filter p).map e:=by
  intro l
  induction l with
  |nil=>rfl
  | cons x l ih=>
   rw[fJ,ih,gF];by_cases h:p x=JQ
   ·rw[JV h,JV h];rfl
   ·rw[JW h,JW h];rfl
 have g:((ds.filter p).map e).length<=ds.length:=by rw[aI];exact bz _ _
 have w:=UG ds [] [] ds.length (ay _) c (by rw[m];simp at g ⊢;lia);rw[fu,m,fu] at w;have s:rB (.val ds) (Bm ⟨it0,.one i,ts⟩ [] te (qQ (σ++aB ext JL) (qM [⟨it0,.one i,ts⟩]))) ds.length 0 O []=.ok ((ds.filter p).map e) O:=w;rw[s];rfl
theorem Uu(I:Nat->Sg->Ow->Prop)(h:∀i σ O d,I i σ O->ds[i]?=YP d->∃σ' a,step d σ O=.nx σ' a/\I (i+1) σ' a):
  ∀(f i:Nat)(σ:Sg)(O:Ow),I i σ O->ds.length<=i+f->i<=ds.length->∃σ' a,xZ (.val ds) step f i σ O=.nx σ' a/\I ds.length σ' a
 | 0,i,σ,O,hI,h1,h2=>by
  have:i=ds.length:=by lia
  subst this;refine⟨σ,O,?_,hI⟩;unfold xZ;have e:Src.get (.val ds) O ds.length=JL:=by simp[Src.get]
  rw[e]
 | f+1,i,σ,O,hI,h1,h2=>by
  unfold xZ;have b:Src.get (.val ds) O i=ds[i]?:=rfl;rw[b];cases e:ds[i]? with
  | none=>
   have:i=ds.length:=by have:=aY.mp e;lia
   subst this;exact⟨σ,O,rfl,hI⟩
  | some d=>
   obtain⟨σ',a,c,g⟩:=h i σ O d hI e;dsimp only;rw[c];exact Uu I h f (i+1) σ' a g 'd' (by have:=(am.mp e).1;lia)
theorem UE(I:Nat->Ow->List D->Prop)(h:∀i O a d,I i O a->ds[i]?=YP d->∃b c,step d O a=.ok b c/\I (i+1) c b):
  ∀(f i:Nat)(O:Ow)(a:List D),I i O a->ds.length<=i+f->i<=ds.length->∃b c,rB (.val ds) step f i O a=.ok b c/\I ds.length c b
 | 0,i,O,a,hI,h1,h2=>by
  have:i=ds.length:=by lia
  subst this;refine⟨a,O,?_,hI⟩;unfold rB;have e:Src.get (.val ds) O ds.length=JL:=by simp[Src.get]
  rw[e]
 | f+1,i,O,a,hI,h1,h2=>by
  unfold rB;have g:Src.get (.val ds) O i=ds[i]?:=rfl;rw[g];cases e:ds[i]? with
  | none=>
   have:i=ds.length:=by have:=aY.mp e;lia
   subst this;exact⟨a,O,rfl,hI⟩
  | some d=>
   obtain⟨b,c,j,k⟩:=h i O a d hI e;dsimp only;rw[j];exact UE I h f (i+1) c b k 'd' (by have:=(am.mp e).1;lia)
theorem D2{α:Type}{f:α->Option α}:∀{l:List α},(∀x∈l,f x=YP x)->qx f l=YP l
 |[],_=>rfl
 | x::l,h=>by
  unfold qx;rw[h x av,D2 λy a=>h y (al _ a)]
section
variable{σ σ':Sg}{O O1 O2:Ow}{t u ta tb:DE}{tA:DA}{x y:D}{b:Bool}{ds:List D}
def p9(h:t σ O=.ok x O1):a_ t d_ σ O=.ok [x] O1:=by show((t σ O).bnd _)=_;rw[h];rfl
def qI(a:t σ O=.ok x O1)(c:u σ O1=.ok y O2):a_ t (a_ u d_) σ O=.ok [x,y] O2:=by show((t σ O).bnd _)=_;rw[a];show((a_ u d_ σ O1).bnd _)=_;rw[p9 c];rfl
def uu(a:t σ O=.ok x O1)(c:tA σ O1=.ok ds O2):a_ t tA σ O=.ok (x::ds) O2:=by show((t σ O).bnd _)=_;rw[a];show((tA σ O1).bnd _)=_;rw[c];rfl
def K_(h:tA σ O=.ok ds O1)(a:ds.length=n):k_ n F tA σ O=F ds O1:=by show((tA σ O).bnd _)=_;rw[h];show(if ds.length=n then _ else _)=_;rw[JV a]
def IY(h:tA σ O=.ok ds O1):pW f tA σ O=f O1 ds:=by show((tA σ O).bnd _)=_;rw[h];rfl
def Il(a:ta σ O=.ok x O1)(c:tb σ O1=.ok y O2):h_ f ta tb σ O=f O2 x y:=by show((ta σ O).bnd _)=_;rw[a];show((tb σ O1).bnd _)=_;rw[c];rfl
def ur(h:t σ O=.ok (.bl b) O1):qt t σ O=.ok b O1:=by show((t σ O).bnd _)=_;rw[h];rfl
def uL(h:t σ O=.ok (.bl b) O1):rK t σ O=.ok b O1:=by show((t σ O).bnd _)=_;rw[h];rfl
def vH(h:c σ O=.ok b O1):tO c σ O=.ok (!b) O1:=by show((c σ O).bnd _)=_;rw[h];rfl
def uI(h:t σ O=.ok (.lst ds) O1):qA t σ O=.ok (.val ds) O1:=by show((t σ O).bnd _)=_;rw[h];rfl
def zV(h:t σ O=.ok (.tup ds) O1):qA t σ O=.ok (.val ds) O1:=by show((t σ O).bnd _)=_;rw[h];rfl
def IG(h:t σ O=.ok x O1):qo i t σ O=.nx (σ.set i (YP x)) O1:=by show((t σ O).bnS _)=_;rw[h];rfl
def uJ(h:t σ O=.ok x O1):qr t σ O=.rt x O1:=by show((t σ O).bnS _)=_;rw[h];rfl
def S7(h:t σ O=.ok x O1):yX t σ O=.nx σ O1:=by show((t σ O).bnS _)=_;rw[h];rfl
def xF(h:c σ O=.ok b O1):rL c a d σ O=if b=JQ then a σ O1 else d σ O1:=by show((c σ O).bnS _)=_;rw[h];rfl
def Fp(h:a σ O=.nx σ' O1):pV a d σ O=d σ' O1:=by show(match a σ O with|.nx σ' O'=>_|r=>r)=_;rw[h]
def RW(h:a σ O=.rt x O1):pV a d σ O=.rt x O1:=by show(match a σ O with|.nx σ' O'=>_|r=>r)=_;rw[h]
def zhZ(h:it σ O=.ok src O1):vg it g body σ O=xZ src (λd σ O=>match g.put d σ with|some σ'=>body σ' O|none=>.bad) (src.size O1) 0 σ O1:=by show((it σ O).bnS _)=_;rw[h];rfl
def AI(h:tA σ O=.ok [.int (n:Nat)] O1)(c:n<100000):tD tA σ O=.ok (.val ((bE n).map λ(i:Nat)=>D.int (i:Int))) O1:=by
 have a:-1000000<=((n:Nat):Int)/\((n:Nat):Int)<=1000000:=by constructor<;>lia
 unfold tD;rw[h];dsimp only[R.bnd];rw[JV a];unfold QT;have d:(((n:Nat):Int)-0).toNat=n:=by lia
 congr 2;refine gX λi _=>?_;rw[Int.zero_add]
def IZ(h:cs.length<=4000000):rQ O [.str cs]=.ok (.int cs.length) O:=by show(if cs.length<=4000000 then R.ok (D.int cs.length) O else R.bad)=_;rw[JV h]
def zh7{cs:pU}{i:Nat}(h:cs.length<=4000000)(hi:i<cs.length):rn O (.str cs) (.int (i:Int))=.ok (.str [cs[i]]) O:=by show(if cs.length<=4000000 then (match L2.atI cs (i:Int) with|some ch=>R.ok (D.str [ch]) O|none=>R.bad) else R.bad)=_;rw[JV h,L2.atI_nat (aw hi)]
def zh3(hi:i<ds.length):rn O (.tup ds) (.int (i:Int))=.ok ds[i] O:=by show(match L2.atI ds (i:Int) with|some d=>R.ok d O|none=>R.bad)=_;rw[L2.atI_nat (aw hi)]
def Bw(hi:i<ds.length):rn O (.lst ds) (.int (i:Int))=.ok ds[i] O:=by show(match L2.atI ds (i:Int) with|some d=>R.ok d O|none=>R.bad)=_;rw[L2.atI_nat (aw hi)]
end
theorem Ub{α:Type}{src:Src}{step:D->Ow->List D->R (List D)}{O:Ow}{inj:α->D}{g:α->List D}{j:List α}(k:∀i,src.get O i=(j.map inj)[i]?):∀(ds c:List α)(b:List D)(f:Nat),j=c++ds->ds.length<=f->
  (∀a∈ds,∀b:List D,b.length<4000000->step (inj a) O b=.ok (b++g a) O)->b.length+(ds.flatMap g).length+ds.length<4000000->rB src step f c.length O b=.ok (b++ds.flatMap g) O
 | [],c,b,f,ha,_,_,_=>by
  have e:src.get O c.length=JL:=by rw[k,ha];simp
  cases f<;>(unfold rB;rw[e];simp)
 |d::ds,c,b,0,_,h,_,_=>by simp at h
 | d::ds,c,b,f+1,ha,h,hs,hl=>by
  unfold rB;have e:src.get O c.length=YP (inj d):=by rw[k,ha];simp
  rw[e];simp only[fJ,az,bt] at hl;show((step (inj d) O b).bnd λl m=>rB src step f (c.length+1) m l)=_;rw[hs d av b 'd'];show rB src step f (c.length+1) O (b++g d)=_;have:=Ub k ds (c++[d]) (b++g d) f (by rw[ha];simp) ⇑h (λn o=>hs n (al _ o)) (by rw[az];lia);rw[az,eH] at this;rw[this];simp
theorem MJ{α β:Type}(p:α->Bool)(e:α->β):∀l:List α,(l.flatMap λd=>if p d=JQ then [e d] else [])=(l.filter p).map e
 |[]=>rfl
 | x::l=>by
  rw[fJ,MJ p e l,gF];by_cases a:p x=JQ
  ·rw[JV a,JV a];rfl
  ·rw[JW a,JW a];rfl
def Je{α:Type}{ext:Nat}{it0:DI}{g:Tg}{ts:List DT}{te:DE}{σ:Sg}{O O0:Ow}{src:Src}{l:List α}{inj:α->D}{p:α->Bool}{e:α->D}{τ:α->Sg}{o:Bool}(hi:it0 σ O0=.ok src O)(m:∀i,src.get O i=(l.map inj)[i]?)(n:src.size O=l.length)(v:l.length<1900000)
  (q:∀a∈l,g.put (inj a) (qQ (qQ (σ++aB ext JL) (g.slots++[])) (g.slots++[]))=YP (τ a)) (r:∀a∈l,vC ts (τ a) O=.ok (p a) O) (s:∀a∈l,p a=JQ->te (τ a) O=.ok (e a) O):
  qp o ext it0 g ts [] te σ O0=yw o (.ok ((l.filter p).map e) O):=by
 unfold qp Cm;rw[hi];show yw o (Af (rB src _ (src.size O) 0 O []))=_;have d:∀a∈l,∀c:List D,c.length<4000000->Bm ⟨it0,g,ts⟩ [] te (qQ (σ++aB ext JL) (qM [⟨it0,g,ts⟩])) (inj a) O c=.ok (c++(if p a=JQ then [e a] else [])) O:=by
  intro a j c t;show(match g.put (inj a) (qQ (qQ (σ++aB ext JL) (g.slots++[])) (g.slots++[])) with|some qV=>(vC ts qV O).bnd λb k=>if b=JQ then x8 [] te qV k c else .ok c k|none=>.bad)=_;rw[q a j];show(vC ts (τ a) O).bnd _=_;rw[r a j];show(if p a=JQ then x8 [] te _ O c else .ok c O)=_;by_cases f:p a=JQ
  ·rw[JV f,JV f];unfold x8;rw[s a j f];show(if c.length<4000000 then _ else _)=_;rw[JV t]
  ·rw[JW f,JW f];simp
 have h:((l.filter p).map e).length<=l.length:=by rw[aI];exact bz _ _
 have w:=Ub m l [] [] l.length rfl (ay _) d (by rw[MJ];simp at h ⊢;lia);rw[MJ,fu] at w;have u:rB src (Bm ⟨it0,g,ts⟩ [] te (qQ (σ++aB ext JL) (qM [⟨it0,g,ts⟩]))) (src.size O) 0 O []=.ok ((l.filter p).map e) O:=by rw[n];exact w
 rw[u];rfl
section
variable{α:Type}{ext:Nat}{it0:DI}{i:Nat}{t:DT}{te:DE}{σ:Sg}{O O0:Ow}{l:List α}{inj:α->D}{p:α->Bool}{e:α->D}{τ:α->Sg}{o:Bool}
def Tn{σ:Sg}{O:Ow}{b:Bool}(h:t σ O=.ok b O):vC [t] σ O=.ok b O:=by show((t σ O).bnd _)=_;rw[h];cases b<;>rfl
def vP(hi:it0 σ O0=.ok (.val (l.map inj)) O)(b:l.length<1900000)(c:∀a,(qQ (qQ (σ++aB ext JL) [i]) [i]).set i (YP (inj a))=τ a)(d:∀a∈l,t (τ a) O=.ok (p a) O)(f:∀a∈l,p a=JQ->te (τ a) O=.ok (e a) O):
  qp o ext it0 (.one i) [t] [] te σ O0=yw o (.ok ((l.filter p).map e) O):=
 Je hi (λ_=>rfl) (by show(l.map inj).length=_;simp) b (λa _=>congrArg YP (c a)) (λa g=>Tn (d a g)) f
def xE(hi:it0 σ O0=.ok (.val (l.map inj)) O)(c:l.length<1900000)(d:∀a,(qQ (qQ (σ++aB ext JL) [i]) [i]).set i (YP (inj a))=τ a)(f:∀a∈l,te (τ a) O=.ok (e a) O):
  qp o ext it0 (.one i) [] [] te σ O0=yw o (.ok (l.map e) O):=by have:=Je (o:=o) (g:=.one i) (ts:=[]) hi (λ_=>rfl) (by show(l.map inj).length=_;simp) c (λa _=>congrArg YP (d a)) (λa b=>rfl) λa b _=>f a b;rw[this,lZ.mpr (λ_ _=>rfl)]
end
def Ck{α:Type}{it:DI}{i:Nat}{body:DS}{σ:Sg}{O0 O:Ow}{l:List α}{inj:α->D}(hi:it σ O0=.ok (.val (l.map inj)) O)(I:Nat->Sg->Ow->Prop)(h:∀(k:Nat)a σ O,l[k]?=YP a->I k σ O->∃σ' b,body (σ.set i (YP (inj a))) O=.nx σ' b/\I (k+1) σ' b)(h0:I 0 σ O):
  ∃σ' b,vg it (.one i) body σ O0=.nx σ' b/\I l.length σ' b:=by
 obtain⟨σ',b,g,f⟩:=Uu (step:=λd σ O=>match Tg.put (.one i) d σ with|some σ'=>body σ' O|none=>.bad) I (λj σ O d m c=>by
  rw[bF] at c;cases e:l[j]? with
  |none=>rw[e] at c;cases c
  | some a=>
   rw[e] at c;cases c;exact h j a σ O e m) (l.map inj).length 0 σ O h0 'k' (cw _)
 rw[aI] at f;exact⟨σ',b,(zhZ hi).trans g,f⟩
theorem L9:∀l:List Bool,Al (l.map D.bl)=YP l
 |[]=>rfl
 | x::l=>by
  show(Al (l.map D.bl)).map (x :: ·)=_;rw[L9 l];rfl
def T3{α:Type}(O:Ow)(l:List α)(p:α->Bool):Dt O [.lst (l.map λa=>D.bl (p a))]=.ok (.bl (l.any p)) O:=by
 show(match Al (l.map λa=>D.bl (p a)) with|some bs=>R.ok (D.bl (bs.any id)) O|none=>R.bad)=_;have:(l.map λa=>D.bl (p a))=(l.map p).map D.bl:=by rw[bJ];rfl
 rw[this,L9];show R.ok (D.bl _) O=_;rw[List.any_map];rfl
def Cr{α:Type}(O:Ow)(l:List α)(p:α->Bool):xW O [.lst (l.map λa=>D.bl (p a))]=.ok (.bl (l.all p)) O:=by
 show(match Al (l.map λa=>D.bl (p a)) with|some bs=>R.ok (D.bl (bs.all id)) O|none=>R.bad)=_;have:(l.map λa=>D.bl (p a))=(l.map p).map D.bl:=by rw[bJ];rfl
 rw[this,L9];show R.ok (D.bl _) O=_;rw[List.all_map];rfl
end DL
namespace DL
open PySem L2
structure xQ(h0:aS)(H:Hp)(h:aS)(a:af)(C:ae):Prop where
 ex:∃oe vs,h.get? a=YP oe/\(oe.cls=C/\oe.dict=JL)/\oe.data=.fields vs/\1<vs.size/\(vs[1]?=YP .none \/ ∃T oT ts,vs[1]?=YP (.ref T)/\T≠a/\h0.get? T=JL/\H T=JL/\h.get? T=YP oT/\oT.data=.fields ts/\ts[3]?=YP .none)
 new:h0.get? a=JL
 free:H a=JL
def zcc(o:Obj)(f):(o.mapFields f).dict=o.dict:=by obtain⟨c,d,a,b⟩:=o;cases a<;>rfl
structure Kp(h0:aS)(H:Hp)(fs:List af)(h h':aS):Prop where
 keep:∀b o,h.get? b=YP o->b∉fs->(H b≠JL\/h0.get? b≠JL)->h'.get? b=YP o
 slot:∀b o,h.get? b=YP o->b∈fs->∃sl,h'.get? b=YP { o with slots:=sl }
 there:∀b o,h.get? b=YP o->∃o',h'.get? b=YP o'
 size:h.objs.size<=h'.objs.size
section
variable{M:iq}{A:aU}{E:ae->ah->Prop}{s:ah}{base h0:aS}{H:Hp}{env:Env}{outer:List Env}{L a:af}{C:ae}{Q:Unit->ah->Prop}
def RM(R:A.frames=YP (env::outer))(y:s.heap.FunFrames base (env::outer))(S:env.frame=YP L)(B:s.heap.get? a=YP oe)(D:oe.cls=C/\oe.dict=JL)(t:oe.data=.fields vs)(n:1<vs.size)(k:h0.get? a=JL)(d:H a=JL)
  (T:∀b,s.heap.objs.size<=b->H b=JL) (U:∀b,s.heap.objs.size<=b->h0.get? b=JL) (h:∀h',Kp h0 H (rP (env::outer)) s.heap h'->xQ h0 H h' a C->Q () { s with heap:=h' }):
  ao M A (do let f <- frameOf env;let g <- entryPlaceOf L hn;let b <- l7 head f .none (bN L) .none g;setField (.ref a) 1 b) (λ_ s'=>ao M A (setFlight (.ref a) JL) Q E s') E s:=by
 have l:a∉rP (env::outer):=λV=>by
  obtain⟨_,o,F,W⟩:=y.mem V;rw[B] at F;cases F;exact W vs t
 refine aa (wpAny_frameOf_fun R y S λc ⟨u,G,I⟩=>aa (wpAny_entryPlaceOf λg X=>?_));unfold l7 newFields;refine aa (bO ?_ (X.sizeOk5 _ _ _ _ _));have J:c.get? a=YP oe:=(G a l).trans B;generalize Y:({ cls:=.type "traceback",dict:=JL,data:=.fields ([head,.ref L,.none,bN L,.none]++(if g.isEmpty then aB 6 cL else g)).toArray }:Obj)=m;have p:m.data=.fields ([head,.ref L,.none,bN L,.none]++(if g.isEmpty then aB 6 cL else g)).toArray:=by rw[<- Y]
 have K:=ag (h:=c) m J;refine gq K t n ?_;have r:c.objs.size≠a:=dB (aJ J);have v:=dM t (·.setIfInBounds 1 (dJ c.objs.size));have w:=bH (fC (·.setIfInBounds 1 (dJ c.objs.size))) K (ee v);have N:((c.push m).update a (fC (·.setIfInBounds 1 (dJ c.objs.size)))).get? c.objs.size=YP m:=(bj _ _ (bC r)).trans (aE c (ee p));unfold setFlight;refine aa (bA w v (x:=.ref c.objs.size) (by simp[n]) ?_);rw[JV (show(dJ c.objs.size !=cL)=JQ by simp)];have O:3<([head,.ref L,.none,bN L,.none]++(if g.isEmpty then aB 6 cL else g)).toArray.size:=by simp only[aQ,az,bt,gZ];lia
 refine gq N p O (h _ ?_ ?_)
 ·have j:∀b o,b≠a->c.get? b=YP o->(((c.push m).update a (fC (·.setIfInBounds 1 (dJ c.objs.size)))).update c.objs.size (fC (·.setIfInBounds 3 ((JL:Option af).elim cL λf=>bN f)))).get? b=YP o:=λb o i e=>by
   rw[bj _ _ (dB (aJ e)),bj _ _ (bC i)];exact ag _ e
  refine⟨λb o e i Z=>j b o (λz=>?_) ((G b i).trans e),λb o e i=>?_,λb o e=>?_,?_⟩
  ·subst z;rcases Z with q|q
   ·exact q d
   ·exact q k
  ·obtain⟨P,q⟩:=I b o e;exact⟨P,j b _ (λz=>l (z▸i)) q⟩
  ·by_cases i:b=a
   ·subst i;exact⟨_,(bj _ _ r).trans w⟩
   ·obtain⟨P,q⟩:=I b o e;exact⟨_,j b _ i q⟩
  ·rw[gG,gG,cr,u];exact eD _
 ·refine⟨⟨_,_,(bj _ _ r).trans w,⟨(mV _ _).trans D.1,(zcc _ _).trans D.2⟩,v,by simpa using n,.inr ⟨c.objs.size,_,_,by simp[n],r,?_,T _ (by rw[u];exact ay _),bH _ N (ee (dM p _)),dM p _,?_⟩⟩,k,d⟩
  ·exact U _ (by rw[u];exact ay _)
  ·rw[iM];rw[JV O];rfl
def Lh(y:A.frames=YP (env::outer))(t:s.heap.FunFrames base (env::outer))(u:env.frame=YP L)(x:xQ h0 H s.heap a C)(B:∀b,s.heap.objs.size<=b->H b=JL)(D:∀b,s.heap.objs.size<=b->h0.get? b=JL)
  (h:∀h',Kp h0 H (rP (env::outer)) s.heap h'->xQ h0 H h' a C->Q () { s with heap:=h' }):ao M A (noteFrame (.ref a) env) (λ_ s'=>ao M A (setFlight (.ref a) JL) Q E s') E s:=by
 obtain⟨⟨V,F,p,G,r,I,P⟩,f,d⟩:=x;unfold noteFrame;simp only[u];rcases P with v|⟨T,W,J,v,R,g,S,i,j,K⟩
 ·refine aa (bA p r v ?_);rw[JW 'u'];exact RM y t u p G r I f d B D h
 ·refine aa (bA p r v ?_);rw[JV (show(dJ T !=cL)=JQ by simp)];refine aa (bA i j K ?_);rw[JW (show ¬ ((cL==bN L)=JQ) by simp[bN])];refine aa (gq i j (eF.mp K).1 ?_);have k:∀b,b≠T->(s.heap.update T (fC (·.setIfInBounds 3 cL))).get? b=s.heap.get? b:=λb c=>bj _ _ (bC c);have l:∀b o,s.heap.get? b=YP o->(∀F,o.data ≠ .fields F)->b≠T:=λb o c m z=>by
   subst z;rw[i] at c;cases c;exact m J j
  have w:(s.heap.update T (fC (·.setIfInBounds 3 cL))).objs.size=s.heap.objs.size:=gG ..;refine RM (s:={ s with heap:=s.heap.update T (fC (·.setIfInBounds 3 cL)) }) y (t.of_keeps λb o c m=>⟨o,(k b (l b o c m)).trans c,rfl⟩) u ((k a (bC R)).trans p) G r I f d (λb c=>B b (by rw[<- w];exact c)) (λb c=>D b (by rw[<- w];exact c)) λh' n U=>h h' ⟨λb o e c N=>?_,λb o e c=>?_,λb o e=>?_,by rw[<- w];exact n.size⟩ U
  ·refine n.keep b o ((k b λz=>?_).trans e) c N;subst z;rcases N with q|q
   ·exact q S
   ·exact q g
  ·refine n.slot b o ((k b λz=>?_).trans e) c;subst z;obtain⟨_,X,O,m⟩:=t.mem c;rw[i] at O;cases O;exact m J j
  ·by_cases c:b=T
   ·subst c;exact n.there b _ (bH _ i (ee (dM j _)))
   ·exact n.there b o ((k b c).trans e)
end
open PyProof.Rows (AllBare)
def sj(P:aK)(w:aT)(Cl:Nat->ae):xw:=λouter H s E e s'=>∃a c H',e=.ref a/\s'.os=s.os/\0<s'.toks/\gk s'.gens/\Un (rP outer) [] H H' s.heap s'.heap/\HOk P w H' s'.heap/\xQ s.heap H' s'.heap a (Cl c)/\E (Cl c) JL H'
abbrev Xk(Cl:Nat->ae)(E:XK):Nat->Hp->Prop:=λc H=>E (Cl c) JL H
def Hr(X:Cx)(Ex:Nat->Hp->Prop)(Cl:Nat->ae):Prop:=∀(Xq:List (af×Obj))(σ:St)(H:Hp)(s:ah)(a:af)(c:Nat),Inv X Xq σ H s->xQ X.s₀.heap H s.heap a (Cl c)->Ex c H->X.xe (.ref a) s
def HOk.here(x:L2.HOk P w H h)(e:h.get? a=JL):H a=JL:=by
 cases q:H a with
 |none=>rfl
 | some o=>
  exfalso;have y:=x a o q;have b:∀u,h.get? a=YP u->False:=λu z=>by rw[e] at z;cases z
  cases o with
  |lst xs=>obtain⟨_,_,_,_,e⟩:=y;exact b _ e
  |tup xs=>obtain⟨_,_,_,_,e,_⟩:=y;exact b _ e
  |dK i_=>obtain⟨_,_,_,_,o,_,_,e,_⟩:=y;exact b _ e
  |dT i_=>obtain⟨_,_,_,_,o,_,_,e,_⟩:=y;exact b _ e
  |set S n=>obtain⟨o,_,_,_,e,_⟩:=y;exact b _ e
  |ins C dx fs=>obtain⟨_,_,_,e,_⟩:=y;exact b _ e
  |own y'=>obtain⟨_,e⟩:=y;exact b _ e
  |xd fs=>obtain⟨_,⟨_,_,_,e,_⟩,_⟩:=y;exact b _ e
  |rng lo hi=>obtain⟨_,_,_,e⟩:=y;exact b _ e
  |frz ob u=>obtain⟨e,_⟩:=y;exact b _ e
  |tbl ps=>exact b _ (show h.get? a=YP _ from y)
  |met f y'=>exact b _ (show h.get? a=YP _ from y)
  |ext φ=>obtain⟨_,⟨_,e⟩,_⟩:=y;exact b _ e
def Kp.hok(k:Kp h0 H fs h h')(x:L2.HOk P w H h)(c:∀b∈fs,H b=JL):L2.HOk P w H h':=λa o e=>
 (x a o e).stay (λb u hb q=>k.keep b u q (λz=>by
  rcases hb with rfl|hb
  ·rw[c _ z] at e;cases e
  ·rw[c _ z] at hb;cases hb) (.inl (by
  rcases hb with rfl|hb
  ·rw[e];exact λz=>nomatch z
  ·rw[hb];exact λz=>nomatch z))) (λ_ q=>q) λ_ _ q=>q
def xQ.older(x:xQ g H h a C)(k:∀b o,h0.get? b=YP o->∃j,g.get? b=YP j):xQ h0 H h a C:=by
 have c:∀b,g.get? b=JL->h0.get? b=JL:=λb e=>by
  cases q:h0.get? b with
  |none=>rfl
  |some o=>obtain⟨j,z⟩:=k b o q;rw[e] at z;cases z
 obtain⟨⟨l,m,n,p,s,t,u⟩,i,d⟩:=x;refine⟨⟨l,m,n,p,s,t,u.imp id λ⟨T,v,w,g,y,f,r⟩=>⟨T,v,w,g,y,c T f,r⟩⟩,c a i,d⟩
section
variable{P:aK}{w:aT}{K:ak}{mg:aq->Option ae}{base:aS}{N:List aq}{qual:aq}{scope:cu}{f:af}{cd:ae}{A:aU}{outer:List Env}{s:ah}{H:Hp}{E:XK}{Cl:Nat->ae}
def Iu:Hr (zR (sj P w Cl) P w K mg base N qual scope f cd A outer s H E) (Xk Cl E) Cl:=by
 intro t Q k i a c I x q;generalize d:zR (sj P w Cl) P w K mg base N qual scope f cd A outer s H E=X at I x ⊢;have u:(A.deeper (a9 qual scope s.heap.objs.size f cd)).frames=YP (a9 qual scope s.heap.objs.size f cd::outer):=by have:=I.ok.frames;rw[<- d] at this;exact this
 have v:i.heap.FunFrames base (a9 qual scope s.heap.objs.size f cd::outer):=by have:=I.stack;rw[<- d] at this;exact this
 have y:∀b∈rP (a9 qual scope s.heap.objs.size f cd::outer),k b=JL:=by have:=I.stkFree;rw[<- d] at this;exact this
 have l:HOk P w k i.heap:=by have:=I.hok;rw[<- d] at this;exact this
 have j:Un (rP outer) [] H k s.heap i.heap:=by have:=I.base;rw[<- d] at this;exact this
 have B:i.os=s.os:=by have:=I.os;rw[<- d] at this;exact this
 have C:s.heap.objs.size<=i.heap.objs.size:=by have:=I.sz;rw[<- d] at this;exact this
 have R:k s.heap.objs.size=JL:=by have:=I.free;rw[<- d] at this;exact this
 have g:xQ s.heap k i.heap a (Cl c):=by rw[<- d] at x;exact x
 have D:=I.bare;rw[<- d];show ao (au P w) (A.deeper (a9 qual scope s.heap.objs.size f cd)) (leaving (a9 qual scope s.heap.objs.size f cd) (.ref a)) (λ_ p=>sj P w Cl outer H s E (.ref a) p) (λF p=>sj P w Cl outer H s E F p) i;unfold leaving;refine aa (Lh u v rfl g (λb h=>l.fresh h) (λb h=>ja (aM C h)) λS m G=>?_);refine⟨a,c,k,rfl,B,I.tk,D,?_,m.hok l y,G,q⟩;refine⟨λb o e n h g=>?_,λb o e n h g=>?_,λb o e n g=>j.free b o e n g,λb o e g=>?_,j.tups,j.frzs,j.tbls⟩
 ·refine m.keep b o (j.keep b o e n h g) (λz=>?_) (.inr (by rw[e];exact λz=>nomatch z));have J:b∈s.heap.objs.size::rP outer:=z;rcases ar.mp J with z2|z2
  ·exact absurd (aJ e) (by rw[z2];exact bP _)
  ·exact h z2
 ·obtain⟨T,r⟩:=j.slot b o e n h g;obtain⟨L,M⟩:=m.slot b _ r (show b∈s.heap.objs.size::rP outer from al _ h);exact⟨L,M⟩
 ·obtain⟨O,r⟩:=j.there b o e g;exact m.there b O r
end
section
variable{X:Cx}{Cl:Nat->ae}{E:XK}
def Jb(g:X.ex=[])(h:Hr X (Xk Cl E) Cl):Bu (sj X.prog X.w Cl) X E:=by rintro d j H s e k I ⟨a,c,l,rfl,m,r,f,n,i,x,q⟩;have p:Inv X d j l k:=I.call' (ch:=[]) m n i f (λb z=>absurd z 'k');exact h d j l k a c p (x.older λb o e=>I.base.there b o e (by rw[g];simp)) q
def Td:Bu (sj X.prog X.w Cl) X E0:=by rintro b g H s e h I ⟨a,c,i,rfl,j,k,d,l,f,x,q⟩;exact ai q
end
abbrev HE:List ae:=[.type "ValueError",.type "Exception",.type "BaseException",.type "object"]
abbrev KL(mg:aq->Option ae)(base:aS)(x:aq)(C:af):Prop:=PyProof.Rows.OwnCls x C HE "ValueError.__new__" mg base
section
variable{X:Cx}{Ex:Nat->Hp->Prop}{Cl:Nat->ae}
def Iv(c:Nat)(t:DA):DS:=λσ O=>(t σ O).bnS λxs O1=>if xs.length<=1000 then .exc c O1 else .bad
def zdS(I:Inv X Xq σ H s)(b:X.ex=[])(m:Heap.MadeExcOf s.heap h' a C vs):xQ X.s₀.heap H h' a C:=by
 obtain⟨t,c,d,e⟩:=m.there;refine⟨⟨_,_,c,⟨rfl,rfl⟩,rfl,by simp,.inl rfl⟩,?_,HOk.here I.hok m.new⟩;cases q:X.s₀.heap.get? a with
 |none=>rfl
 | some o=>
  obtain⟨f,z⟩:=I.base.there a o q (by rw[b];simp);rw[m.new] at z;cases z
def zc7(E:Hr X Ex Cl)(l:X.ex=[])(F:Cl c=.ref C)(f:KL X.mg X.base x C)(G:X.calm=JQ)(J:Gl X x)(L:tM X Ex (e::es) t)
  (M:rH x:=by decide) (he:aF (e::es) X.env=(JU,eval e X.env)::aF es X.env:=by rfl) (P:(backTo pY (aF (e::es) X.env)).any (·.1)=JU:=by rfl) (n:∃y b,backTo pY (aF (e::es) X.env)=(JU,y)::b:=by exact⟨_,_,rfl⟩):
  vd X Ex (.Raise (YP (.Call (.Name x np) (e::es) [] pY)) JL pos) (Iv c t):=by
 refine⟨?_⟩;rintro d s u H D I ⟨g,v,w,O,Q,R,q⟩;obtain⟨bm,N,nm,S,bs,hdct,sn,sub,ab,col,dd,k0,k1,k2,k3,k5,mN,T,U,o,z⟩:=f.obj;refine wpAny_Raise_call_subU (nm:=nm) (q:=S) (N:=N) (bs:=bs) (hdct:=hdct) (sn:=sn) (sub:=sub) (ab:=ab) (col:=col) (dd:=dd) (k0:=k0) (k1:=k1) (k2:=k2) (k3:=k3) (k5:=k5) jO (bmB:=HE) (by rfl) jO (z.hasType (by rfl)) (I.ok.hd G) P o (Fj I J f.bound ⟨rfl,?_⟩ M);have A:=L.out pY d s u H (λp h=>p.length<=1000/\Ex c h) I ⟨g,v,w,O,Q,R,oR.bnS (q:oR Ex X.K H g v (Iv c t w O) D) λV O1 p h W x2 Y Z k=>by
  by_cases i:V.length<=1000
  ·rw[JV i] at k;exact⟨by rw[<- Z.length];exact i,k h W .refl Y⟩
  ·rw[JW i] at k;exact ai k⟩
 obtain⟨y,b,hb⟩:=n;rw[hb] at A ⊢;refine iJ (pZ A λus B ⟨p,h,j,r,i,hx⟩=>⟨rfl,aM (by rw[<- r.length];exact i) 'u',j.bk _ _ T,U.keeps j.bk,z.keeps j.bk,λh' a m=>?_⟩);exact E d u h { B with heap:=h' } a c (j.kept (t':=B.toks) m.keeps) (by rw[F];exact zdS j l m) hx
end
abbrev vq(Cl:Nat->ae)(P:aK)(w:aT)(K:ak)(mg:aq->Option ae)(base:aS)(N:List aq)(qual:aq)(scope:cu)(f:af)(l_:ae)(A:aU)(outer:List Env)(s:ah)(H:Hp)(E:XK):Cx:=
 zR (sj P w Cl) P w K mg base N qual scope f l_ A outer s H E
def zhI{Cl:Nat->ae}{P:aK}{w:aT}{K:ak}{c:aq->Option ae}{base:aS}{N:List aq}{b:aq}{scope:cu}{f:af}{d:ae}{A:aU}{a:List Env}{s:ah}{H:Hp}{E:XK}:
  jE (au P w) (vq Cl P w K c base N b scope f d A a s H E).A (vq Cl P w K c base N b scope f d A a s H E).env (vq Cl P w K c base N b scope f d A a s H E).xe:=
 PassesOwn.leaving (Q₁:=λe g=>sj P w Cl a H s E e g) (E₁:=λh g=>sj P w Cl a H s E h g)
def zjS{Cl:Nat->ae}{P:aK}{w:aT}{K:ak}{u:aq->Option ae}{base:aS}{k:Nat}{f:af}{name a:aq}{g:eR}{body:List dh}{scope:cu}{y z i B j ct F:ae}{C G:Option af}{I:Array (Option ae)}{N o:List aq}{t:DS}
  (J:K.lookup f=YP ⟨F,G,.func (br name a g body scope y z i B C j ct),I⟩) (L:dE K j a=JQ) (S:tF N o scope)
  (M:∀(A:aU)(b:List Env)(s:ah)(H:Hp)(E:XK),oP k (A.deeper (a9 a scope s.heap.objs.size f j))->sQ (vq Cl P w K u base N a scope f j A b s H E) (Xk Cl E) body t):
  oY P w K u base (sj P w Cl) (k+1) f (br name a g body scope y z i B C j ct) o (Hw K (Xk Cl) o.length (qT N.length t)):=by
 refine qy J L S (λR H Q E h=>h.1) λA b s H R Q E T h=>?_;obtain⟨W,p,U,D,O,d,c,q⟩:=h;refine⟨_,(M A b s H E T).out,p,U,_,O,Jr d N,c,?_⟩;unfold qT at q;generalize t (D.map YP++aB (N.length-D.length) JL) O=r at q;cases r with
 |nx σ O'=>exact λX l m x e n=>q .non l m x n By
 |rt d' O'=>exact λv l m x n r=>q v l m x n r
 |bk σ O'=>exact ai q
 |ct σ O'=>exact ai q
 |exc n O'=>exact λl m x V=>q l m x V
 |bad=>exact ai q
structure o6(Cl:Nat->ae)(P:aK)(w:aT)(K:ak)(mg:aq->Option ae)(base:aS)(x:aq)(k n:Nat)(F:qh):Prop where
 ex:∃f fd ps,mg x=YP (.ref f)/\cZ K (.ref f)=JQ/\Binds K fd ps []/\oY P w K mg base (sj P w Cl) k f fd ps (Hw K (Xk Cl) n F)
def IA{Cl:Nat->ae}{X:Cx}{E:XK}{x:aq}{k j n:Nat}{F:qh}{p pos:Pos}{e:aR}{a:List aR}{t:DA}(c:o6 Cl X.prog X.w X.K X.mg X.base x k n F)(b:Bu (sj X.prog X.w Cl) X E)(d:oP j X.A)(g:k<=j)(h:Gl X x)(i:tM X (Xk Cl E) (e::a) t)
  (l:rH x:=by decide) (m:aF (e::a) X.env=(JU,eval e X.env)::aF a X.env:=by rfl) (o:(backTo pos (aF a X.env)).any (·.1)=JU:=by rfl):
  PD X (Xk Cl E) (.Call (.Name x p) (e::a) [] pos) (k_ n F t):=by obtain⟨f,u,v,q,r,s,G⟩:=c.ex;exact P4 (Ec:=Xk Cl) (E:=E) (G.mono g) d h q r s b i l m o
def R_{Cl:Nat->ae}{X:Cx}{x:aq}{k j n:Nat}{F:qh}{p pos:Pos}{e:aR}{a:List aR}{t:DA}(c:o6 Cl X.prog X.w X.K X.mg X.base x k n F)(b:oP j X.A)(d:k<=j)(f:Gl X x)(g:tM X qN (e::a) t)
  (h:rH x:=by decide) (i:aF (e::a) X.env=(JU,eval e X.env)::aF a X.env:=by rfl) (l:(backTo pos (aF a X.env)).any (·.1)=JU:=by rfl):
  PD X qN (.Call (.Name x p) (e::a) [] pos) (k_ n F t):=IA (E:=E0) c Td b d f g h i l
def fnX{Cl:Nat->ae}{P:aK}{w:aT}{K:ak}{g:aq->Option ae}{base:aS}{k:Nat}{x:aq}{b:dh}{N d:List aq}{t:DS}(h:qL K g x b)(S:tF N d (qz b))
  (o:∀(j e l:ae)(m:Option af)(c n:ae)(i:List ae),i.length=d.length->bindArgs (br x x (vS b) (tP b) (qz b) .none j e l m c n) ⟨i,[]⟩=pure (d.zip i))
  (p:∀(f:af)(c:ae)(A:aU)(a:List Env)(s:ah)(H:Hp)(E:XK),oP k (A.deeper (a9 x (qz b) s.heap.objs.size f c))->sQ (vq Cl P w K g base N x (qz b) f c A a s H E) (Xk Cl E) (tP b) t):
  o6 Cl P w K g base x (k+1) d.length (qT N.length t):=by obtain⟨f,q,r,F⟩:=h;refine⟨f,q,d,r,F.kp,F.binds o,?_⟩;obtain⟨z,B,j,e,l,m,c,n,C,rfl,u,v⟩:=F.ex;exact zjS u v S λA a s H E y=>p f c A a s H E y
section
variable{Cl:Nat->ae}{P:aK}{w:aT}{K:ak}{mg:aq->Option ae}{base:aS}{k n:Nat}{x:aq}{F:qh}
def o6.self(c:o6 Cl P w K mg base x k n F):o6 Cl P w K mg base x k n F:=c
end
noncomputable def HC(f:Nat->Option Bool):D->Option Bool
 |.exn C=>f C
 |.non=>YP JU
 |_=>JL
def v7(f:Nat->Option Bool)(t:DE):DE:=λσ O=>(t σ O).bnd λd O1=>match HC f d with
 |some b=>.ok (.bl b) O1
 |none=>.bad
section
variable{X:Cx}{Ex:Nat->Hp->Prop}{pos:Pos}{a:aR}{ta:DE}
def T6(f:Nat->Option Bool)(m:∀u,RelV cv u->u=cval)(n:aW X.K (.type "NoneType") cval=YP JU)(o:∀C b,f C=YP b->aW X.K (.ref C) cval=YP b):
  oW X (.builtin "isinstance") (λxs H Q=>∃x Xf μ O d b,xs=[x,cv]/\oK X.K H Xf μ O/\XV X.K H Xf μ d x/\HC f d=YP b/\Q (.bl b) H):=by
 intro j s A H xs B Q I r h;obtain⟨x,Xf,μ,O,d,b,rfl,D,c,e,q⟩:=h;obtain⟨u,E,rfl,l,t⟩:=B7 r;obtain rfl:=m _ t;cases d with
 | non=>
  unfold XV at c;subst c;cases l;cases e;exact wT I (kF mR I.kIn eL n (λz=>nomatch z) λi v=>⟨.bl _,H,I.tok i,rfl,q⟩)
 | exn C=>
  unfold XV at c;obtain⟨p,F,rfl,⟨k,g⟩,w,_⟩:=c;cases l;obtain⟨y,_⟩:=Rd.ok w I.hok;exact wT I (kF (Rp k) I.kIn (g _ y) (o C b e) (λz=>nomatch z) λi v=>⟨.bl _,H,I.tok i,rfl,q⟩)
 |_=>cases e
def RU:∀Xf μ σ O g H Q,oN X.K H Xf μ σ g->oK X.K H Xf μ O->qY Ex X.K H Xf μ (v7 f ta σ O) Q->rd Ex X.K ta g H λv c=>∃x Xf μ O d b,[v,cv]=[x,cv]/\oK X.K c Xf μ O/\XV X.K c Xf μ d x/\HC f d=YP b/\Q (.bl b) c:=
 λXf μ σ O g H Q j k q=>rd.go j k q λd l v c m n x i r e=>by
  cases h:HC f d with
  |none=>rw[h] at e;exact ai e
  |some b=>rw[h] at e;exact⟨v,Xf,m,l,d,b,rfl,i,r,h,post.here e i uH⟩
def zhF(d:PD X Ex a ta)(e:Gl X "isinstance")(g:X.mg "isinstance" = JL)(h:bd "isinstance" = YP (.builtin "isinstance"))(i:Gl X x)(j:X.mg x=YP (.ref C0))
  (k:aW X.K (.type "NoneType") (.ref C0)=YP JU) (l:∀C b,f C=YP b->aW X.K (.ref C) (.ref C0)=YP b)
  (m:rH x:=by decide) (c:aF [a,.Name x p'] X.env=(JU,eval a X.env)::aF [.Name x p'] X.env:=by rfl) (n:aF [.Name x p'] X.env=[(JU,eval (.Name x p') X.env)]:=by rfl) (o:(backTo pos (aF [.Name x p'] X.env)).any (·.1)=JU:=by rfl):
  PD X Ex (.Call (.Name "isinstance" p) [a,.Name x p'] [] pos) (v7 f ta):=
 rV (D5 (T6 (X:=X) (cv:=.ref C0) (cval:=.ref C0) f (λu r=>by cases r;rfl) k l) e g h (yb d.out (yb (IT (v:=.ref C0) i j rfl m) Br n) c) 'u' 'u' c o) RU
def zhi(d:PD X Ex a ta)(e:Gl X "isinstance")(g:X.mg "isinstance" = JL)(h:bd "isinstance" = YP (.builtin "isinstance"))(i:Gl X x)(j:X.mg x=JL)(k:bd x=YP (.type n))
  (l:aW X.K (.type "NoneType") (.type n)=YP JU) (m:∀C b,f C=YP b->aW X.K (.ref C) (.type n)=YP b) (o:x ≠ "__name__":=by decide)
  (q:rH x:=by decide) (c:aF [a,.Name x p'] X.env=(JU,eval a X.env)::aF [.Name x p'] X.env:=by rfl) (s:aF [.Name x p'] X.env=[(JU,eval (.Name x p') X.env)]:=by rfl) (t:(backTo pos (aF [.Name x p'] X.env)).any (·.1)=JU:=by rfl):
  PD X Ex (.Call (.Name "isinstance" p) [a,.Name x p'] [] pos) (v7 f ta):=
 rV (D5 (T6 (X:=X) (cv:=.ty n) (cval:=.type n) f (λu r=>by cases r;rfl) l m) e g h (yb d.out (yb (IM (v:=.ty n) i j k rfl o q) Br s) c) 'u' 'u' c t) RU
end
open PyProof.Rows (AllBare IntsAre)
section
variable{X:Cx}{Xq:List (af×Obj)}{σ:St}{H:Hp}{s:ah}
def Inv.fake(I:L2.Inv X Xq σ H s)(hi:X.N[i]?=YP x)(e:¬ sY X.env.scope x):L2.Inv X Xq (σ.set i (YP v)) H s:=by
 obtain⟨m,f,g⟩:=I.loc;refine⟨I.ok,I.os,I.bare,I.base,⟨m,f,λj y w a b c=>?_⟩,I.cell,I.free,I.freeC,I.pin,I.hok,by rw[cG];exact I.len,I.tk⟩;by_cases d:j=i
 ·subst d;rw[hi] at a;cases a;exact absurd c e
 ·rw[aX (bC d)] at b;exact g j y w a b c
def sZ.fake(hi:X.N[i]?=YP x)(a:¬ sY X.env.scope x)(h:sZ X body t):sZ X body λD σ H=>t D (σ.set i (YP v)) H:=
 λXq s σ H D I q=>h Xq s _ H D (Inv.fake I hi a) q
end
def oX.empty(h:H P=YP (.tbl #[])):oX H P:=⟨#[],h,trivial,λa b e=>by cases e⟩
noncomputable def HM(K:ak)(Ec:XK->Nat->Hp->Prop)(n:Nat)(P:af)(F:qh):Sp:=λvs H Q E=>vs.length=n/\∃Xf μ ds O,oM K H Xf μ ds vs/\oK K H Xf μ O/\oX H P/\qY (Ec E) K H Xf μ (F ds O) Q
def Av(n i:Nat)(P:Nat)(t:DS):qh:=λds O=>fin (t ((ds.map YP++aB (n-ds.length) JL).set i (YP (.tab P))) O)
structure uF(mg:aq->Option ae)(base:aS)(c Pt:af):Prop where
 hd:nY base c Pt
 bl:base.BuiltinsAt mg Pt
def z69{pos pos':Pos}{c cv:ae}(l:List ae)(h:TriplesOk l)(e:codeAmong pos' (l++[bN pos.line,bN pos.col,c])=YP cv):codeAmong pos' l=YP cv\/cv=c:=by
 fun_induction TriplesOk l with
 | case1=>
  simp only[fu,codeAmong,bN] at e;split at e
  ·cases e;exact .inr rfl
  ·cases e
 | case2 a t b u x rest ih=>
  simp only[i3,codeAmong] at e ⊢;split at e
  ·rename_i d;rw[JV d];exact .inl e
  ·rename_i d;rw[JW d];exact ih h e
 |case3 l h1 h2=>exact h.elim
def zbU{q:aq}{H:Hp}{P c:af}{pos:Pos}{g:Array ae}(i:H P=YP (.tbl g))(v:H c=JL)(j:af)(w:oX H j):
  oX (upd (upd H P (.tbl (g ++ #[bN pos.line,bN pos.col,.ref c]))) c (.ext λh=>h.CodeRec (.ref c) q)) j:=by
 have k:∀{b:af}{o:HO},H b=YP o->b≠c:=λe=>sO e v;obtain⟨x,f,l,t⟩:=w;have a:∀{b:af}{d:aS->Prop},H b=YP (.ext d)->upd (upd H P (.tbl (g ++ #[bN pos.line,bN pos.col,.ref c]))) c (.ext λh=>h.CodeRec (.ref c) q) b=YP (.ext d):=λ{b d}e=>by
  rw[qe (k e),qe (Yz e i (λz=>nomatch z))];exact e
 by_cases u:j=P
 ·subst u;rw[i] at f;cases f;refine⟨_,by rw[qe (k i),rS],?_,λp m e=>?_⟩
  ·rw[bT];exact TriplesOk_snoc _ _ _ _ l
  ·rw[bT] at e;rcases z69 _ l e with e|e
   ·obtain⟨n,d,rfl,r,s⟩:=t p m e;exact⟨n,d,rfl,a r,s⟩
   ·exact⟨c,_,e,rS,λh z=>⟨q,z⟩⟩
 ·refine⟨x,by rw[qe (k f),qe u];exact f,l,λp m e=>?_⟩;obtain⟨n,d,rfl,r,s⟩:=t p m e;exact⟨n,d,rfl,a r,s⟩
section
variable{X:Cx}{Xq:List (af×Obj)}{b_:St}{H:Hp}{s:ah}{E:ae->ah->Prop}
abbrev Cb(H:Hp)(P c:af)(ps:Array ae)(pos:Pos)(q:aq):Hp:=upd (upd H P (.tbl (ps ++ #[bN pos.line,bN pos.col,.ref c]))) c (.ext λh=>h.CodeRec (.ref c) q)
def D9(a:H P=YP (.tbl ps))(d:H c=JL)(e:H b=YP o)(f:DM o):Cb H P c ps pos q b=YP o:=by
 have g:b≠P:=by rintro rfl;rw[a] at e;cases e;exact f _ rfl
 show upd (upd H P _) c _ b=YP o;rw[qe (sO e d),qe g];exact e
def UD(a:H P=YP (.tbl ps))(d:H c=JL)(μ:List af):Ext H μ (Cb H P c ps pos q) μ:=
 ⟨⟨[],by simp⟩,λb o e _ f=>D9 a d e f,λ_ m=>.inl m,λb h=>yF b (yF b h),λg i=>zbU a d g i⟩
def z8t(d:H P=YP (.tbl f))(g:H c=JL)(b:oK K H Xf μ O):oK K (Cb H P c f pos q) Xf μ O:=by refine⟨b.len,b.nd,b.nh,λa m=>yF a (yF a (b.ht a m)),λk a e=>?_⟩;obtain⟨h,i,j,l,n⟩:=b.at_ k a e;exact⟨h,i,j,D9 d g l (by intro f z;cases z),n.ext (UD d g μ)⟩
def VJ{h h':aS}{c:af}{q:aq}(x:h.CodeRec (.ref c) q)(k:∀o,h.get? c=YP o->h'.get? c=YP o):h'.CodeRec (.ref c) q:=by obtain⟨d,o,a,t,e,b,r⟩:=x;cases e;exact⟨c,o,a,t,rfl,k o b,r⟩
def QR{c P:af}{a:eR}{body:aR}{scope:cu}{pos:Pos}{v:List (aq×af)}{Q:ae->ah->Prop}(I:L2.Inv X Xq b_ H s)(L:uF X.mg X.base c P)(U:X.env.code=.ref c)(ti:oX H P)
  (V:closureFor scope X.env=pure v) (u7:defaultsOf a X.env=([],[]))
  (h:∀(i:af)(Y j:ae)(h':aS)(tk:Tok)(H':Hp),L2.Inv X Xq b_ H' { s with heap:=h',toks:=tk }->(∀μ,Ext H μ H' μ)->(∀Xf μ O,oK X.K H Xf μ O->oK X.K H' Xf μ O)->H' i=JL->s.heap.objs.size<=i->
   h'.get? i=YP { cls:=.type "function",data:=.func (cC "<lambda>" (X.env.qual ++ "<lambda>") a body scope v ((X.mg "__name__").getD .none) Y j) }->(∃c B,Y=.ref c/\H' c=YP (.ext B)/\∀h:aS,B h->∃q,h.CodeRec (.ref c) q)->Q (.ref i) { s with heap:=h',toks:=tk }):
  ao (au X.prog X.w) X.A (eval (.Lambda a body scope pos) X.env) Q E s:=by
 obtain⟨g,f,Z,h3⟩:=id ti;have G:=I.hok P _ f;have J:=I.mod.glob.keeps I.bk;have M:bX≠P:=λz=>by
  obtain⟨o,es,ep,e,C,_⟩:=J;rw[z,G] at e;cases e;cases C
 have D:s.heap.BuiltinsAt X.mg P:=by
  obtain⟨bm,ob,b1,x,b3,b4,b5,r⟩:=L.bl;exact⟨bm,ob,b1,x,b3,b4,I.bk _ _ b5,r⟩
 have C:=L.hd.keeps I.bk;refine PySem.W.kla_eval u7 ?_;cases N:codeAmong pos g.toList with
 | some cv=>
  obtain⟨d,B,rfl,k1,k2⟩:=h3 pos cv N;refine wT I (PySem.W.kla_makeFunctionHit V I.ok.glob J U C G Z N D λj h' tk hk qw qv=>?_);have p:∀b u,s.heap.get? b=YP u->(h'.push { cls:=.type "function",data:=.func (cC "<lambda>" (X.env.qual ++ "<lambda>") a body scope v ((X.mg "__name__").getD .none) (.ref d) j) }).get? b=YP u:=λb u e=>ag _ (hk b u e);exact h h'.objs.size (.ref d) j _ tk H (I.kept p) (λμ=>.refl) (λ_ _ _ z=>z) (I.hok.fresh qw) qw (aE _ rfl) ⟨d,B,rfl,k1,k2⟩
 | none=>
  refine wT I (PySem.W.kla_makeFunction V I.ok.glob J U C G Z N M D λd j h' tk hx F R uB S qv=>?_);have l:=I.hok.fresh F;have y:∀{b:af},H b=JL->b≠P:=λe=>bC (sO f e);have p:∀b u,b≠P->s.heap.get? b=YP u->(h'.push (kG "<lambda>" (X.env.qual ++ "<lambda>") a body scope v ((X.mg "__name__").getD .none) d j)).get? b=YP u:=λb u n e=>ag _ (hx b u n e);have Ke:(h'.push (kG "<lambda>" (X.env.qual ++ "<lambda>") a body scope v ((X.mg "__name__").getD .none) d j)).get? P=YP (lc (g ++ #[bN pos.line,bN pos.col,.ref d])):=ag _ S;have BO:(h'.push (kG "<lambda>" (X.env.qual ++ "<lambda>") a body scope v ((X.mg "__name__").getD .none) d j)).CodeRec (.ref d) (X.env.qual ++ "<lambda>"):=VJ uB λo e=>ag _ e;have zt:∀{b:af},s.heap.objs.size<=b->b≠d->Cb H P d g pos (X.env.qual ++ "<lambda>") b=JL:=λ{b}D n=>by
   have e:=I.hok.fresh D;show upd (upd H P _) d _ b=JL;rw[qe n,qe (y e)];exact e
  refine h h'.objs.size (.ref d) j _ tk (Cb H P d g pos (X.env.qual ++ "<lambda>")) ?_ (UD f l) (λ_ _ _ z=>z8t f l z) (zt (gm (ij F R)) (dB R)) (gm (ij F R)) (aE _ rfl) ⟨d,_,rfl,rS,λh z=>⟨_,z⟩⟩;have qm:∀b o,s.heap.get? b=YP o->H b=JL->Cb H P d g pos (X.env.qual ++ "<lambda>") b=JL:=λb o e n=>by
   show upd (upd H P _) d _ b=JL;rw[qe (bb (ba (aJ e) F)),qe (y n)];exact n
  refine I.step (ch:=[]) (λ_ z=>nomatch z) (λb o _ _ _ e n=>p b o (y n) e) (λb o _ _ _ e n=>⟨o.slots,p b o (y n) e⟩) (λb o _ e n=>qm b o e n) (λb o _ e=>?_)
   (λb xs e=>D9 f l e (by intro g z;cases z)) (λb o u e=>D9 f l e (by intro g z;cases z)) (λb Wk e=>?_) (λm hm=>?_) ?_ I.bare qv
  ·by_cases k:b=P
   ·subst k;exact⟨_,Ke⟩
   ·exact⟨o,p b o k e⟩
  ·by_cases k:b=P
   ·subst k;rw[f] at e;cases e;exact⟨_,by show upd (upd H b _) d _ b=_;rw[qe (sO f l),rS]⟩
   ·exact⟨#[],by show upd (upd H P _) d _ b=_;rw[qe (sO e l),qe k,e];simp⟩
  ·obtain⟨o,es,ep,e,r⟩:=hm;exact⟨o,es,ep,p _ o (y I.free) e,r⟩
  ·intro b u e;by_cases WS:b=d
   ·subst WS;have e':Cb H P b g pos (X.env.qual ++ "<lambda>") b=_:=rS;rw[e'] at e;cases e;refine⟨BO,?_,λha u9 za zk=>VJ za zk⟩;obtain⟨c2,o,vs,t,z,ho,_⟩:=BO;cases z;exact⟨o,ho⟩
   ·have T:=(qe WS).symm.trans e;by_cases k:b=P
    ·subst k;rw[rS] at T;cases T;exact Ke
    ·have e2:=(qe k).symm.trans T;refine(I.hok b u e2).stay (λx u2 xr z=>p x u2 (λzz=>?_) z) (λx z=>D9 f l z (by intro g z;cases z)) λx xs z=>D9 f l z (by intro g z;cases z);rcases xr with rfl|xr
     ·exact k zz
     ·rw[zz,f] at xr;cases xr
end
abbrev tN(q:aq)(scope:cu)(L f:af)(cd:ae)(cl:List (aq×af)):Env:={ scope,locals:=L,globals:=bX,cells:=cl,qual:=q ++ ".<locals>.",func:=YP f,code:=cd,frame:=YP L,builtins:=builtinsNs }
section
variable{prog:aK}{w:aT}{A:aU}{s:ah}{R:Result->ah->Prop}
def zhb(g:A.depth<recursionLimit)
  (i:s.heap.get? lam=YP { cls:=.type "function",data:=.func (cC name qual params body scope cl pm cd ct) }) (j:s.heap.CodeRec cd q) (k:scope.isCoroutine=JU) (l:scope.isGenerator=JU) (n:scope.kind=.function) (p:∀x∈scope.names,x.2 ≠ .cell)
  (r:bindArgs (cC name qual params body scope cl pm cd ct) ⟨[],[]⟩=pure []) (t:s.heap.NoLimit)
  (h:∀h',h'.Ns s.heap.objs.size (λ_=>JL)->(∀b o,s.heap.get? b=YP o->h'.get? b=YP o)->
   ao (au prog w) (A.deeper (tN q scope s.heap.objs.size lam cd cl)) (eval body (tN q scope s.heap.objs.size lam cd cl)) (λv s'=>R (.ok (.ret v)) s')
    (λe s'=>ao (au prog w) (A.deeper (tN q scope s.heap.objs.size lam cd cl)) (leaving (tN q scope s.heap.objs.size lam cd cl) e) (λ_ a=>R (.error e) a) (λu a=>R (.error u) a) s') { s with heap:=h' }):
  codeAny (au prog w) A (.call (.ref lam) ⟨[],[]⟩) R s:=by refine g9 ?_;show ao _ A.in1 (callAny (.ref lam) ⟨[],[]⟩) _ _ s;simp only[callAny];refine aa (lA i ?_);obtain⟨c,G,H,I,y,z,B,C⟩:=j;subst y;simp only[callFunction,k,l];refine aa (m:=field (.ref c) 1) (bA z B C (aa (aj ?_)));rw[r];refine aa (aj (aa ?_));refine lF p (λx D=>nomatch D) (λd E F=>?_) n;have f:∀b o,s.heap.get? b=YP o->d.get? b=YP o:=λb o e=>F.extBut b o (bb (aJ e)) (ag _ e);refine aa (wpAny_enterFrame (t.keeps f) g (aj ⟨rfl,?_⟩));exact lG (h d E f)
end
def zi8{X:Cx}{E:XK}{Cl:Nat->ae}(j:X.xe=λe s'=>ao (au X.prog X.w) X.A (leaving X.env e) (λ_ f=>sj X.prog X.w Cl X.outer X.H₀ X.s₀ E e f) (λk f=>sj X.prog X.w Cl X.outer X.H₀ X.s₀ E k f) s')
  (l:X.stack=X.env::X.outer) (t:X.env.frame=YP X.env.locals) (m:X.ex=[]):Hr X (Xk Cl E) Cl:=by
 intro u J p r a c I x q;have y:X.A.frames=YP (X.env::X.outer):=by rw[<- l];exact I.ok.frames
 have B:r.heap.FunFrames X.base (X.env::X.outer):=by rw[<- l];exact I.stack
 have C:∀b∈rP (X.env::X.outer),p b=JL:=by rw[<- l];exact I.stkFree
 have g:Un X.fs [] X.H₀ p X.s₀.heap r.heap:=by have:=I.base;rw[m] at this;exact this
 have v:rP (X.env::X.outer)=X.env.locals::X.fs:=by unfold rP;rw[dZ,t];rfl
 rw[j];show ao (au X.prog X.w) X.A (leaving X.env (.ref a)) (λ_ f=>sj X.prog X.w Cl X.outer X.H₀ X.s₀ E (.ref a) f) (λk f=>sj X.prog X.w Cl X.outer X.H₀ X.s₀ E k f) r;unfold leaving;refine aa (Lh y B t x (λb d=>I.hok.fresh d) (λb d=>ja (aM I.sz d)) λK i D=>?_);refine⟨a,c,p,rfl,I.os,I.tk,I.bare,?_,i.hok I.hok C,D,q⟩;refine⟨λb o e n d h=>?_,λb o e n d h=>?_,λb o e n h=>g.free b o e n h,λb o e h=>?_,g.tups,g.frzs,g.tbls⟩
 ·refine i.keep b o (g.keep b o e n d h) (λz=>?_) (.inr (by rw[e];exact λz=>nomatch z));rw[v] at z;rcases ar.mp z with z2|z2
  ·exact absurd (ba (aJ e) I.ok.above) (by rw[z2];exact bP _)
  ·exact d z2
 ·obtain⟨L,s⟩:=g.slot b o e n d h;obtain⟨F,G⟩:=i.slot b _ s (by rw[v];exact al _ d);exact⟨F,G⟩
 ·obtain⟨H,s⟩:=g.there b o e h;exact i.there b H s
noncomputable def Dj(CX:xw)(P:aK)(w:aT)(K:ak)(mg:aq->Option ae)(base:aS)(N:List aq)(env:Env)(A:aU)(outer:List Env)(s:ah)(H:Hp)(E:XK):Cx where
 prog:=P
 w:=w
 K:=K
 mg:=mg
 base:=base
 A:=A.deeper env
 N:=N
 s₀:=s
 H₀:=H
 env:=env
 outer:=outer
 stack:=env::outer
 ex:=[]
 calm:=JQ
 fn:=λ_=>JU
 pn:=[]
 xe:=λe s'=>ao (au P w) (A.deeper env) (leaving env e) (λ_ rD=>CX outer H s E e rD) (λe' rD=>CX outer H s E e' rD) s'
section
variable{CX:xw}{P:aK}{w:aT}{K:ak}{mg:aq->Option ae}{base:aS}{N:List aq}{A:aU}{outer:List Env}{s:ah}{H:Hp}{E:XK}{Cl:Nat->ae}{q:aq}{scope:cu}{lam:af}{cd:ae}{cl:List (aq×af)}{σ:St}{h':aS}
def RY:Hr (Dj (sj P w Cl) P w K mg base N (tN q scope s.heap.objs.size lam cd cl) A outer s H E) (Xk Cl E) Cl:=zi8 rfl rfl rfl rfl
def zgL(d:pe P w K mg base A outer s H)(n:A.handled=JL)(t:scope.kind=.function)(f:∀x,sY scope x->scope.names.lookup x=YP .free)
  (cells:∀x c,cl.lookup x=YP c->(∃v,s.heap.IsCell c v)/\H c=JL) (inj:∀x y c,cl.lookup x=YP c->cl.lookup y=YP c->x=y) (h:∀x,scope.names.lookup x=YP .free->∃c,cl.lookup x=YP c)
  (e:∀(i:Nat)x v,N[i]?=YP x->σ[i]?=YP (YP v)->scope.names.lookup x=YP .free->∃u c,RelV v u/\cl.lookup x=YP c/\s.heap.IsCell c (YP u)) (j:σ.length=N.length)
  (B:h'.Ns s.heap.objs.size (λ_=>JL)) (k:∀b o,s.heap.get? b=YP o->h'.get? b=YP o):
  L2.Inv (Dj CX P w K mg base N (tN q scope s.heap.objs.size lam cd cl) A outer s H E) [] σ H { s with heap:=h' }:=by
 have a:∀{c:af}{v:Option ae},s.heap.IsCell c v->h'.IsCell c v:=λ{c v}⟨o,ho,r⟩=>⟨o,k c o ho,r⟩;have l:∀b:af,b∉(Dj CX P w K mg base N (tN q scope s.heap.objs.size lam cd cl) A outer s H E).ex:=λb z=>absurd (show b∈([]:List af) from z) 'k';refine⟨⟨d.mod,t,rfl,rfl,ay _,inj,λy C=>?_,λy c z _=>absurd (show JU=JQ from z) 'u',λ_=>n,je d.frames,.inr ⟨rfl,rfl⟩,λb z=>absurd z (l b),d.bs,d.bsz,λb _ _=>l b,λb z=>absurd z (l b),d.funs,d.frf⟩,
  rfl,d.bare,Un.kept k,⟨_,B,λi y v D F m=>?_⟩,λy c g=>?_,d.hok.fresh (ay _),λy c g=>(cells y c g).2,λp G=>absurd (show p∈([]:List (af×Obj)) from G) 'k',d.hok.kept k,j,d.tk⟩
 ·have I:scope.names.lookup y=YP .cell\/scope.names.lookup y=YP .free:=C;exact h y (f y (I.elim (λz=>.inr (.inl z)) λz=>.inr (.inr z)))
 ·obtain⟨u,c,r,J,L⟩:=e i y v D F (f y m);exact⟨u,r,.inr ⟨.inr (f y m),c,J,a L⟩⟩
 ·obtain⟨⟨v,z⟩,_⟩:=cells y c g;exact⟨v,a z⟩
def Yl(d:oP (k+1) A)(f:pe P w K mg base A outer s H)
  (l:s.heap.get? lam=YP { cls:=.type "function",data:=.func (cC name qual params body scope cl pm cd ct) }) (m:s.heap.CodeRec cd q) (n:scope.isCoroutine=JU) (p:scope.isGenerator=JU) (j:scope.kind=.function) (r:∀x∈scope.names,x.2 ≠ .cell)
  (B:bindArgs (cC name qual params body scope cl pm cd ct) ⟨[],[]⟩=pure []) (C:∀x,sY scope x->scope.names.lookup x=YP .free)
  (cells:∀x c,cl.lookup x=YP c->(∃v,s.heap.IsCell c v)/\H c=JL) (inj:∀x y c,cl.lookup x=YP c->cl.lookup y=YP c->x=y) (g:∀x,scope.names.lookup x=YP .free->∃c,cl.lookup x=YP c)
  (a:∀(i:Nat)x v,N[i]?=YP x->σ[i]?=YP (YP v)->scope.names.lookup x=YP .free->∃u c,RelV v u/\cl.lookup x=YP c/\s.heap.IsCell c (YP u)) (h:σ.length=N.length)
  (D:oP k (A.deeper (tN q scope s.heap.objs.size lam cd cl))->PD (Dj (sj P w Cl) P w K mg base N (tN q scope s.heap.objs.size lam cd cl) A outer s H E) (Xk Cl E) body t)
  (F:oN K H Xf μ σd σ) (G:oK K H Xf μ O) (I:qY (Xk Cl E) K H Xf μ (t σd O) Q):codeAny (au P w) A (.call (.ref lam) ⟨[],[]⟩) (CR (sj P w Cl) outer P w H s Q E) s:=by refine zhb d.depth l m n p j r B (f.mod.nolimit.keeps λb o e=>(f.bs b o e).1) λh' L M=>?_;refine cj ((D (d.deeper _)).out [] _ σ H Q (zgL f d.hd j C cells inj g a h L M) ⟨Xf,μ,σd,O,F,G,I⟩) (λv R ⟨S,T,J,U,z⟩=>?_) λe R z=>z;exact⟨⟨S,T,J.os,J.bare,J.base,J.hok,U,z⟩,J.tk⟩
end
section
variable{M:iq}{A:aU}{E:ae->ah->Prop}{s:ah}{base h0:aS}{H:Hp}{frames:List Env}{a:af}{C:ae}{Q:Unit->ah->Prop}
def Kp.refl:Kp h0 H fs h h:=⟨λ_ _ e _ _=>e,λb o e _=>⟨o.slots,e⟩,λ_ o e=>⟨o,e⟩,ay _⟩
def Kp.trans(x:Kp h0 H fs h h1)(y:Kp h0 H fs h1 h2):Kp h0 H fs h h2:=
 ⟨λb o e n k=>y.keep b o (x.keep b o e n k) n k,λb o e n=>by
  obtain⟨i,c⟩:=x.slot b o e n;obtain⟨d,f⟩:=y.slot b _ c n;exact⟨d,f⟩,λb o e=>by
  obtain⟨g,c⟩:=x.there b o e;exact y.there b g c,aM x.size y.size⟩
def zdF(w:s.heap.FunFrames base frames)(x:xQ h0 H s.heap a C)(h:∀h',Kp h0 H (rP frames) s.heap h'->xQ h0 H h' a C->Q () { s with heap:=h' }):ao M A (setFlight (.ref a) JL) Q E s:=by
 obtain⟨⟨y,B,l,D,m,F,G⟩,n,g⟩:=id x;unfold setFlight;rcases G with j|⟨T,L,I,j,r,c,t,k,i,u⟩
 ·refine aa (bA l m j ?_);rw[JW 'u'];exact aj (h s.heap .refl x)
 ·refine aa (bA l m j ?_);rw[JV (show(dJ T !=cL)=JQ by simp)];refine gq k i (eF.mp u).1 (h _ ?_ ?_)
  ·have p:∀b,b≠T->(s.heap.update T (fC (·.setIfInBounds 3 ((JL:Option af).elim cL λf=>bN f)))).get? b=s.heap.get? b:=λb d=>bj _ _ (bC d);refine⟨λb o e d J=>(p b λz=>?_).trans e,λb o e d=>⟨o.slots,(p b λz=>?_).trans e⟩,λb o e=>?_,by rw[gG];exact ay _⟩
   ·subst z;rcases J with q|q
    ·exact q t
    ·exact q c
   ·subst z;obtain⟨_,N,v,K⟩:=w.mem d;rw[k] at v;cases v;exact K I i
   ·by_cases d:b=T
    ·subst d;exact⟨_,bH _ k (ee (dM i _))⟩
    ·exact⟨o,(p b d).trans e⟩
  ·refine⟨⟨y,B,(bj _ _ r).trans l,D,m,F,.inr ⟨T,_,_,j,r,c,t,bH _ k (ee (dM i _)),dM i _,?_⟩⟩,n,g⟩;rw[iM,JV (eF.mp u).1];rfl
end
section
variable{X:Cx}{Xq:List (af×Obj)}{σ:St}{H H1:Hp}{s s1:ah}
abbrev Cx.mk'(X:Cx)(a:af):Cx:={ X with A:=X.A.mark (YP (.ref a)),calm:=JU,xe:=λ_ _=>False }
def Inv.mk'(I:L2.Inv X Xq σ H s)(a:af):L2.Inv (Cx.mk' X a) Xq σ H s:=
 ⟨⟨I.ok.mod,I.ok.kind,I.ok.glob,I.ok.blt,I.ok.above,I.ok.inj,I.ok.has,I.ok.cab,λz=>absurd (show JU=JQ from z) 'u',I.ok.frames,I.ok.stk,I.ok.exf,I.ok.bs,I.ok.bsz,I.ok.noex,I.ok.exfs,I.ok.funs,I.ok.frf⟩,I.os,I.bare,I.base,I.loc,I.cell,I.free,I.freeC,I.pin,I.hok,I.len,I.tk⟩
def Inv.unmk'(ok:X.Ok)(I:L2.Inv (Cx.mk' X a) Xq σ H s):L2.Inv X Xq σ H s:=
 ⟨ok,I.os,I.bare,I.base,I.loc,I.cell,I.free,I.freeC,I.pin,I.hok,I.len,I.tk⟩
def Inv.raised(I:L2.Inv X Xq σ H s)(j:s1.os=s.os)(q:0<s1.toks)(a:gk s1.gens)(c:Un (rP X.stack) [] H H1 s.heap s1.heap)(d:HOk X.prog X.w H1 s1.heap)(h:Kp s.heap H1 (rP X.stack) s1.heap h'):L2.Inv X Xq σ H1 { s1 with heap:=h' }:=by
 have k:L2.Inv X Xq σ H1 s1:=I.call' (ch:=[]) j c d a (λb z=>absurd z 'k');refine I.call' (s':={ s1 with heap:=h' }) (ch:=[]) j ?_ (h.hok d k.stkFree) a (λb z=>absurd z 'k');refine⟨λb o e n f g=>h.keep b o (c.keep b o e n f g) f (.inr (by rw[e];exact λz=>nomatch z)),λb o e n f g=>?_,c.free,λb o e g=>?_,c.tups,c.frzs,c.tbls⟩
 ·obtain⟨r,i⟩:=c.slot b o e n f g;obtain⟨l,m⟩:=h.slot b _ i f;exact⟨l,m⟩
 ·obtain⟨p,i⟩:=c.there b o e g;exact h.there b p i
def Inv.track(I:L2.Inv X Xq σ H1 s1)(x:xQ s.heap H1 s1.heap a (.ref C))(j:L2.Inv X Xq σ H s):L2.Inv X Xq σ (upd H1 a (.ext λh=>∃f,c8 h a f C JL)) s1:=by
 obtain⟨⟨t,Q,B,D,G,R,_⟩,w,i⟩:=x;have k:∀b o,s.heap.get? b=YP o->b≠a:=λb o e z=>by rw[z,w] at e;cases e
 have J:c8 s1.heap a t C JL:=⟨B,D.1,by unfold PySem.W.notCls;rw[G],by rw[D.2];trivial⟩;have d:∀{b:af}{u:HO},H1 b=YP u->upd H1 a (.ext λh=>∃f,c8 h a f C JL) b=YP u:=λ{b u}e=>by rw[qe (sO e i)];exact e
 have l:∀{b:af},H1 b=JL->b≠a->upd H1 a (.ext λh=>∃f,c8 h a f C JL) b=JL:=λ{b}e n=>by rw[qe n];exact e
 have g:∀b,b∉X.ex->(∃o,X.s₀.heap.get? b=YP o)->b≠a:=λb q ⟨o,e⟩=>by
  obtain⟨K,L⟩:=j.base.there b o e q;exact k b K L
 refine⟨I.ok,I.os,I.bare,⟨I.base.keep,I.base.slot,λb o e n q=>l (I.base.free b o e n q) (g b q ⟨o,e⟩),I.base.there,λb M e=>d (I.base.tups b M e),λb o u e=>d (I.base.frzs b o u e),λb N e=>?_⟩,I.loc,I.cell,?_,λx c e=>?_,λp E=>?_,λb u e=>?_,I.len,I.tk⟩
 ·obtain⟨m,y⟩:=I.base.tbls b N e;exact⟨m,d y⟩
 ·obtain⟨m,⟨o,_,_,A,_⟩,_⟩:=j.loc;exact l I.free (k _ o A)
 ·obtain⟨v,o,A,_⟩:=j.cell x c e;exact l (I.freeC x c e) (k c o A)
 ·obtain⟨y,O,r⟩:=I.pin p E;exact⟨y,l O (k _ _ (j.pin p E).1),r⟩
 ·by_cases F:b=a
  ·subst F;rw[rS] at e;cases e;exact⟨⟨t,J⟩,⟨t,B⟩,λS T ⟨f,z⟩ P=>⟨f,P f z.at_,z.cls,z.no,by
    have:=z.dict;revert this;cases f.dict with
    |none=>exact λ_=>trivial
    |some _=>exact λz=>z.elim⟩⟩
  ·rw[qe F] at e;exact(I.hok b u e).stay (λ_ _ _ z=>z) (λ_ z=>d z) λ_ _ z=>d z
end
section
variable{X:Cx}{Xq:List (af×Obj)}{σ:St}{H:Hp}{s:ah}{M:iq}{A:aU}{E:ae->ah->Prop}
def zci(I:L2.Inv X Xq σ H s)(P:X.N.Nodup)(hi:X.N[i]?=YP x)(d:X.env.scope.names.lookup x=YP .local)(D:σ[i]?=YP (YP v))
  (h:∀s',L2.Inv X Xq (σ.set i JL) H s'->Q () s'):ao M A (unbindName X.env x) Q E s:=by
 obtain⟨m,R,F⟩:=id I.loc;obtain⟨u,_,S⟩:=F i x v hi D (.inl d);have T:m x=YP u:=by
  rcases S with⟨_,z⟩|⟨z,_⟩
  ·exact z
  ·have z':X.env.scope.names.lookup x=YP .cell\/X.env.scope.names.lookup x=YP .free:=z;rw[d] at z';rcases z' with z'|z'<;>cases z'
 refine wT I (wpAny_unbindName_local d R T (by rw[I.ok.kind];rfl) λG U V W Y=>h _ ?_);have g:∀b o,b≠X.env.locals->s.heap.get? b=YP o->G.get? b=YP o:=λb o n e=>(W.2 b n).trans e;have t:∀b o,X.s₀.heap.get? b=YP o->b≠X.env.locals:=λb o e=>bb (ba (aJ e) I.ok.above);have J:∀b o,H b=YP o->b≠X.env.locals:=λb o e=>sO e I.free;have a:∀y c,X.env.cells.lookup y=YP c->∀w,s.heap.IsCell c w->G.IsCell c w:=λy c e w ⟨o,Z,hd⟩=>⟨o,g c o (I.cne y c e) Z,hd⟩;refine⟨I.ok,I.os,I.bare,⟨λb o e n B d=>g b o (t b o e) (I.base.keep b o e n B d),λb o e n B d=>?_,I.base.free,λb o e d=>?_,I.base.tups,I.base.frzs,I.base.tbls⟩,⟨_,V,λj y w f k e3=>?_⟩,λy c e=>?_,I.free,I.freeC,λp hp=>?_,λb o e=>?_,by rw[cG];exact I.len,Y⟩
 ·obtain⟨sl,f⟩:=I.base.slot b o e n B d;exact⟨sl,g b _ (t b o e) f⟩
 ·obtain⟨K,f⟩:=I.base.there b o e d;exact⟨K,g b K (t b o e) f⟩
 ·have L:j≠i:=by
   rintro rfl;have rE:j<σ.length:=(am.mp D).1;rw[aZ rE] at k;cases k
  rw[aX (bC L)] at k;have hy:y≠x:=by rintro rfl;exact L (L5 P f hi)
  obtain⟨l,r2,l2⟩:=F j y w f k e3;refine⟨l,r2,?_⟩;rcases l2 with⟨C,q⟩|⟨C,c,q,k3⟩
  ·exact .inl ⟨C,by show(if y=x then U else m y)=YP l;rw[JW hy];exact q⟩
  ·exact .inr ⟨C,c,q,a y c q _ k3⟩
 ·obtain⟨w,z⟩:=I.cell y c e;exact⟨w,a y c e w z⟩
 ·obtain⟨f,n1,O,r⟩:=I.pin p hp;exact⟨g _ _ O f,n1,O,r⟩
 ·refine(I.hok b o e).stay (λb2 l xr z=>g b2 l ?_ z) (λ_ z=>z) λ_ _ z=>z;rcases xr with rfl|xr
  ·exact J _ _ e
  ·exact J _ _ xr
end
section
variable{X:Cx}{Xq:List (af×Obj)}{σ:St}{H H1:Hp}{s s1:ah}
def zbS(I:L2.Inv X Xq σ H s)(D:s1.os=s.os)(E:0<s1.toks)(b:gk s1.gens)(F:Un (rP X.stack) [] H H1 s.heap s1.heap)(d:HOk X.prog X.w H1 s1.heap)
  (G:Kp s.heap H1 (rP X.stack) s1.heap h2) (J:xQ s.heap H1 h2 a (.ref C)) (R:eZ X.K (.ref C) (.ref T)=YP JQ) (S:Gl X xT) (U:X.mg xT=YP (.ref T))
  (g:X.N.Nodup) (hi:X.N[i]?=YP n) (L:X.N[j]?=YP y) (uY:i≠j) (c:X.env.scope.names.lookup n=YP .local) (M:X.env.scope.names.lookup y=YP .local)
  (h:∀s',L2.Inv X Xq ((σ.set j (YP (.ref a))).set i JL) (upd H1 a (.ext λh=>∃p,c8 h a p C JL)) s'->Qf .next s')
  (q:rH n:=by decide) (f:(n==("__classdict__":aq))=JU:=by decide) (r:rH xT:=by decide)
  (V:iS [.Name y p5] (.Name n p6) p7.line X.env=pure JU:=by rfl) (Y:iU [.Name y p5] (.Name n p6) X.env=pure JL:=by rfl):
  ao (au X.prog X.w) X.A (handleBy (.ref a) X.env [.ExceptHandler (YP (.Name xT p4)) (YP n) [.Assign [.Name y p5] (.Name n p6) p7] p8]) Qf X.xe { s1 with heap:=h2 }:=by
 have t:L2.Inv X Xq σ H1 { s1 with heap:=h2 }:=Inv.raised I D E b F d G;refine wpAny_handleBy_cons (codeAny_handlers_test (Fj (X:=Cx.mk' X a) (Inv.mk' t a) S U ?_ r)) (by intro z;cases z);have Z:PySem.W.Looks (au X.prog X.w) h2 (typeOf (.ref a)) (.ref C):=by
  obtain⟨⟨oe,vs,he,hC,_⟩,_⟩:=J;exact hC.1▸(PySem.W.Looks.ld he).andThen .now
 refine(PySem.W.exm_one t.kIn Z R).at ?_;show codeAny _ _ (.handlers (.ref a) [.ExceptHandler JL (YP n) [.Assign [.Name y p5] (.Name n p6) p7] p8] X.env) _ _;refine codeAny_handlers_suite_as (zdF (frames:=X.stack) t.stack J λO x x3=>?_);have I3:L2.Inv X Xq σ H1 { s1 with heap:=O }:=Inv.raised I D E b F d (G.trans x);have I4:=Inv.track (s1:={ s1 with heap:=O }) I3 x3 I;refine Fy (X:=Cx.mk' X a) (v:=.ref a) (Inv.mk' I4 a) g hi (.inl c) rfl (λs5 I5=>?_) (.inr c);have ps:sZ (Cx.mk' X a) [.Assign [.Name y p5] (.Name n p6) p7] _:=D4 (QD (Fb (X:=Cx.mk' X a) (pos:=p6) hi (.inl c) q f) (IL (X:=Cx.mk' X a) (pos:=p5) g L (.inl M) (.inr M)) V Y) RQ;refine cj (ps Xq s5 _ _ { nx:=λB H'=>B=(σ.set i (YP (.ref a))).set j (YP (.ref a))/\H'=upd H1 a (.ext λh=>∃p,c8 h a p C JL),rt:=λ_ _=>False } I5 ?_) (λfl s6 l=>?_) λ_ _ z=>z.elim
 ·refine⟨.ref a,?_,?_⟩
  ·rw[aZ (by rw[I.len];exact(am.mp hi).1)]
  ·exact⟨rfl,rfl⟩
 cases fl with
 |ret u=>obtain⟨_,_,_,_,_,z⟩:=l;exact z.elim
 |brk=>obtain⟨_,_,_,z⟩:=l;exact z.elim
 |cont=>obtain⟨_,_,_,z⟩:=l;exact z.elim
 | next=>
  obtain⟨OY,H6,I6,rfl,rfl⟩:=l;have P:=Inv.unmk' I.ok I6;show ao _ X.A (do bindName X.env n .none;unbindBehindTheSuite X.env n p8) _ _ s6;unfold bindName unbindBehindTheSuite;refine aa (aa (bG (wpAny_point (aa (Fy (v:=.non) P g hi (.inl c) rfl (λs8 I8=>wpAny_point ?_) (.inr c))))));refine iW (zci (v:=.non) I8 g hi c (aZ (by rw[P.len];exact(am.mp hi).1)) λs9 I9=>h s9 ?_);refine I9.weak 'k' λk v e=>?_;by_cases m:k=i
  ·subst m;have o:k<(σ.set j (YP (.ref a))).length:=by rw[cG,I.len];exact(am.mp hi).1
   rw[aZ o] at e;cases e
  ·rw[aX (bC m)] at e ⊢;rw[aX (bC m)];by_cases Q:k=j
   ·subst Q;have o:k<σ.length:=by rw[I.len];exact(am.mp L).1
    rw[aZ o] at e;rw[aZ (by rw[cG];exact o)];exact e
   ·rw[aX (bC Q)] at e ⊢;rw[aX (bC m)];exact e
end
section
variable{X:Cx}{Xq:List (af×Obj)}{σ:St}{H H1:Hp}{s s1:ah}
def Zf{T d:af}{Cl:Nat->ae}{nf xT n y:aq}{i j L:Nat}{M p2 p3 p4 O P p7 p8 pos:Pos}{D:yU}(I:L2.Inv X Xq σ H s)(hex:X.ex=[])
  (sW:codeAny (au X.prog X.w) X.A (.call (.ref d) ⟨[],[]⟩) (CR (sj X.prog X.w Cl) X.stack X.prog X.w H s (λ_ H'=>D.nx σ H')
   (λCv _ H1=>∃C,Cv=.ref C/\eZ X.K (.ref C) (.ref T)=YP JQ/\∀a,H1 a=JL->D.nx ((σ.set j (YP (.ref a))).set i JL) (upd H1 a (.ext λh=>∃ox,c8 h a ox C JL)))) s)
  (xl:kl d s.heap) (R:X.N[L]?=YP nf) (AU:σ[L]?=YP (YP (.ref d))) (sE:sY X.env.scope nf) (zC:Gl X xT) (zu:X.mg xT=YP (.ref T)) (S:X.stack=X.env::X.outer) (vW:X.env.frame=YP X.env.locals)
  (hN:X.N.Nodup) (hi:X.N[i]?=YP n) (hj:X.N[j]?=YP y) (uY:i≠j) (hn:X.env.scope.names.lookup n=YP .local) (hy:X.env.scope.names.lookup y=YP .local)
  (g:rH nf:=by decide) (t:(nf==("__classdict__":aq))=JU:=by decide)
  (U:rH n:=by decide) (B:(n==("__classdict__":aq))=JU:=by decide) (V:rH xT:=by decide)
  (Y:swapsWith (.Call (.Name nf M) [] [] p2) JL p3.line X.env=pure JU:=by rfl)
  (hs:iS [.Name y O] (.Name n P) p7.line X.env=pure JU:=by rfl) (hw:iU [.Name y O] (.Name n P) X.env=pure JL:=by rfl):
  ao (au X.prog X.w) X.A (exec (.Try [.Expr (.Call (.Name nf M) [] [] p2) p3] [.ExceptHandler (YP (.Name xT p4)) (YP n) [.Assign [.Name y O] (.Name n P) p7] p8] [] [] pos) X.env) (SP X Xq D) X.xe s:=by
 have F:∀(Q:ae->ah->Prop)(E:ae->ah->Prop),Q (.ref d) s->ao (au X.prog X.w) X.A (eval (.Name nf M) X.env) Q E s:=λQ E k=>by
  obtain⟨m,Ai,hl⟩:=I.loc;obtain⟨u,r,l⟩:=hl L nf _ R AU sE;cases r;rcases l with⟨hk,Z⟩|⟨hk,c,hc,rj⟩
  ·exact jb (jc I.ok.kind hk Ai Z k) g
  ·rcases hk with hk|hk
   ·exact jb (jl I.ok.kind hk hc rj k) g
   ·exact jb (lX I.ok.kind hk hc rj k t) g
 refine wpAny_Try_except (gE (wpAny_Expr_any ?_ I.quiet Y));refine fh (F _ _ (PySem.W.callWith_F0 xl (iu (ef sW λr s1 G=>?_))));cases r with
 | ok fl=>
  cases fl with
  |next=>exact ai G
  |brk=>exact ai G
  |cont=>exact ai G
  | ret u=>
   obtain⟨v,H',J,_,q⟩:=I.after G;exact fZ (fZ ⟨σ,H',J,q⟩)
 | error e=>
  obtain⟨a,c,H1,rfl,os,qv,f,un,p,x,C,hC,Z,q⟩:=G;have I1:L2.Inv X Xq σ H1 s1:=I.call' (ch:=[]) os un p f (λb z=>absurd z 'k');rw[hC] at x;refine Lh (h0:=s.heap) (by rw[<- S];exact I.ok.frames) (by rw[<- S];exact I1.stack) vW x (λb hb=>p.fresh hb) ?_ λh2 kp x2=>?_
  ·intro b hb;cases z:s.heap.get? b with
   |none=>rfl
   | some o=>
    obtain⟨o',e'⟩:=un.there b o z 'k';exact absurd (aJ e') (j4.mpr hb)
  ·rw[<- S] at kp;exact zbS I os qv f un p kp x2 Z zC zu hN hi hj uY hn hy (λs' J=>⟨_,_,J,q a x.free⟩) U B V hs hw
end
structure HG(nf n y xT:aq)(p0 p1 p2 p3 p5 p6 p7 pq pc:Pos)(kc):Prop where
 hfd:rH nf:=by decide
 hfcd:(nf==("__classdict__":aq))=JU:=by decide
 hnd:rH n:=by decide
 hncd:(n==("__classdict__":aq))=JU:=by decide
 hTd:rH xT:=by decide
 hs0:∀env:Env,swapsWith (.Call (.Name nf p1) [] [] p2) JL p3.line env=pure JU:=by intro _;rfl
 hsA:∀env:Env,swapsWith (.Constant .none kc pc) (YP (.Name y pq)) p0.line env=pure JU:=by intro _;rfl
 hs:∀env:Env,iS [.Name y p5] (.Name n p6) p7.line env=pure JU:=by intro _;rfl
 hw:∀env:Env,iU [.Name y p5] (.Name n p6) env=pure JL:=by intro _;rfl
section
variable{X:Cx}{H:Hp}
def z7z{Y:Cx}{d:St}{H:Hp}{s1:ah}{Cl:Nat->ae}{e T:af}{nf n y xT:aq}{c:List dh}{i j:Nat}{Q:VK}{W:St->Hp->Prop}{t:TS}{k x B E S F G I U l m pos:Pos}{o:_}
  (V:L2.Inv Y [] d H s1) (p:Y.ex=[]) (xi:Y.stack=Y.env::Y.outer) (vW:Y.env.frame=YP Y.env.locals) (xl:∀(J:St)(b:ah),L2.Inv Y [] J H b->kl e b.heap) (ug:Y.N[0]?=YP nf) (q:d[0]?=YP (YP (.ref e)))
  (L:Y.N.Nodup) (hi:Y.N[i]?=YP n) (M:Y.N[j]?=YP y) (uY:i≠j) (CZ:j≠0) (hn:Y.env.scope.names.lookup n=YP .local) (r:Y.env.scope.names.lookup y=YP .local) (AU:sY Y.env.scope nf) (zC:Gl Y xT) (zu:Y.mg xT=YP (.ref T))
  (sW:∀b:ah,L2.Inv Y [] (d.set j (YP .non)) H b->codeAny (au Y.prog Y.w) Y.A (.call (.ref e) ⟨[],[]⟩) (CR (sj Y.prog Y.w Cl) Y.stack Y.prog Y.w H b (λ_ H'=>W (d.set j (YP .non)) H')
    (λCv _ O=>∃C,Cv=.ref C/\eZ Y.K (.ref C) (.ref T)=YP JQ/\∀a,O a=JL->W (((d.set j (YP .non)).set j (YP (.ref a))).set i JL) (upd O a (.ext λh=>∃ox,c8 h a ox C JL)))) b)
  (sV:sZ Y c t) (hW:∀σ' H',W σ' H'->t { nx:=λ_ H'=>Q .non H',rt:=Q } σ' H')
  (Z:HG nf n y xT k x B E F G I l m o):
  ao (au Y.prog Y.w) Y.A (execs (.Assign [.Name y l] (.Constant .none o m) k :: .Try [.Expr (.Call (.Name nf x) [] [] B) E] [.ExceptHandler (YP (.Name xT S)) (YP n) [.Assign [.Name y F] (.Name n G) I] U] [] [] pos::c) Y.env) (SP Y [] { nx:=λ_ H'=>Q .non H',rt:=Q }) Y.xe s1:=by
 refine gE ?_;refine pZ (Lk (X:=Y) (pos':=l) (pos:=k) L M (.inl r) (Ll (j:=o) (pos:=m)) (Z.hsA _) (.inr r) [] s1 d H { nx:=λσ' H'=>σ'=d.set j (YP .non)/\H'=H,rt:=λ_ _=>False } V ⟨rfl,rfl⟩) λs b f=>?_;cases s with
 |ret u=>obtain⟨_,_,_,_,_,z⟩:=f;exact z.elim
 |brk=>obtain⟨_,_,_,z⟩:=f;exact z.elim
 |cont=>obtain⟨_,_,_,z⟩:=f;exact z.elim
 |next=>
 obtain⟨J,H2,v,rfl,rfl⟩:=f;refine gE (pZ (Zf (D:={ nx:=W,rt:=λ_ _=>False }) v p (sW b v) (xl _ b v) ug (by rw[aX CZ];exact q) AU zC zu xi vW L hi M uY hn r Z.hfd Z.hfcd Z.hnd Z.hncd Z.hTd (Z.hs0 _) (Z.hs _) (Z.hw _)) λs s3 g=>?_);cases s with
 |ret u=>obtain⟨_,_,_,_,_,z⟩:=g;exact z.elim
 |brk=>obtain⟨_,_,_,z⟩:=g;exact z.elim
 |cont=>obtain⟨_,_,_,z⟩:=g;exact z.elim
 | next=>
  obtain⟨P,R,I3,w3⟩:=g;exact sV [] s3 P R _ I3 (hW P R w3)
end
section
variable{X:Cx}{Xq:List (af×Obj)}{σ:St}{H:Hp}{s:ah}
def zin{Cl:Nat->ae}{k:Nat}{f:af}{name a:aq}{b:eR}{body:List dh}{scope:cu}{B C i D c E L:ae}{F M:Option af}{O:Array (Option ae)}{N o:List aq}{g:List ae}{vs:List V}{Q:VK}
  (I:L2.Inv X Xq σ H s) (p:oP (k+1) X.A) (P:X.K.lookup f=YP ⟨L,M,.func (br name a b body scope B C i D F c E),O⟩)
  (R:dE X.K c a=JQ) (S:tF N o scope) (T:i7 s (br name a b body scope B C i D F c E) ⟨g,[]⟩ (o.zip g)) (U:vs.length=o.length) (W:oO vs g)
  (Y:∀s1:ah,oP k (X.A.deeper (a9 a scope s.heap.objs.size f c))->L2.Inv (vq Cl X.prog X.w X.K X.mg X.base N a scope f c X.A X.stack s H E0) [] (L2.start N vs) H s1->
   ao (au X.prog X.w) (vq Cl X.prog X.w X.K X.mg X.base N a scope f c X.A X.stack s H E0).A (execs body (vq Cl X.prog X.w X.K X.mg X.base N a scope f c X.A X.stack s H E0).env) (SP (vq Cl X.prog X.w X.K X.mg X.base N a scope f c X.A X.stack s H E0) [] { nx:=λ_ H'=>Q .non H',rt:=Q }) (vq Cl X.prog X.w X.K X.mg X.base N a scope f c X.A X.stack s H E0).xe s1):
  ao (au X.prog X.w) X.A (call (.ref f) g) (EP X Xq σ Q) X.xe s:=by
 have Z:=I.env0;have G:=I.kIn;have zy:∀z∈o.zip g,scope.names.lookup z.1=YP .local\/(scope.names.lookup z.1=YP .cell/\((cA (s.heap.objs.size+1) scope.names []).lookup z.1).isSome=JQ):=λ⟨m,v⟩ hz=>by
  rcases S.par m (jd hz).1 with q|q
  ·exact .inl q
  ·exact .inr ⟨q,gd _ _ _ (.inl q)⟩
 refine iu (ef (?_:codeAny (au X.prog X.w) X.A (.call (.ref f) ⟨g,[]⟩) (CR (sj X.prog X.w Cl) X.stack X.prog X.w H s Q E0) s) λr j l=>?_)
 ·refine kX p.depth (G _ _ P) rfl S.co S.gen rfl (mm G R) (T _ _ _ _ ?_);refine wT I (jN S.kind zy λenv he s1 x qv=>?_);subst he;refine⟨I.nolimit.keeps x.toInCall.keep,codeAny_func ?_⟩;have I1:L2.Inv (vq Cl X.prog X.w X.K X.mg X.base N a scope f c X.A X.stack s H E0) [] (L2.start N vs) H s1:=U3 S p.hd Z U W x qv;refine cj (Y s1 (p.deeper _) I1) (λt j h=>?_) λe j h=>h;have n:∀{d:St}{H':Hp}{v:V}{u:ae},L2.Inv (vq Cl X.prog X.w X.K X.mg X.base N a scope f c X.A X.stack s H E0) [] d H' j->RelV v u->Q v H'->CE X.stack X.prog X.w H s Q u j:=
   λ{d H' v u}J y q=>⟨⟨v,H',J.os,J.bare,J.base,J.hok,y,q⟩,J.tk⟩
  cases t with
  | ret u=>
   obtain⟨v,d,H',J,y,q⟩:=h;exact n J y q
  | next=>
   obtain⟨d,H',J,q⟩:=h;exact n (v:=V.non) (u:=cL) J rfl q
  | brk=>
   obtain⟨_,_,_,q⟩:=h;exact ai q
  | cont=>
   obtain⟨_,_,_,q⟩:=h;exact ai q
 ·cases r with
  |error e=>exact Td Xq σ H s e j I l
  | ok t=>
   cases t with
   |ret u=>exact I.after l
   |next=>exact ai l
   |brk=>exact ai l
   |cont=>exact ai l
end
section
variable{X:Cx}{Xq:List (af×Obj)}{σ:St}{H:Hp}{s:ah}
def z8u{Cl:Nat->ae}{k:Nat}{f c T:af}{name b nf n y xT:aq}{d:eR}{g:List dh}{scope:cu}{F G m J l L V:ae}{M od:Option af}{tw:Array (Option ae)}{N:List aq}{i j:Nat}{Q:VK}{W:St->Hp->Prop}{p q r u O v x z P B D pos:Pos}{E:_}
  (I:L2.Inv X Xq σ H s) (hr:oP (k+1) X.A)
  (lk:X.K.lookup f=YP ⟨V,od,.func (br name b d (.Assign [.Name y B] (.Constant .none E D) p :: .Try [.Expr (.Call (.Name nf q) [] [] r) u] [.ExceptHandler (YP (.Name xT O)) (YP n) [.Assign [.Name y v] (.Name n x) z] P] [] [] pos::g) scope F G m J M l L),tw⟩)
  (qH:dE X.K l b=JQ) (S:tF N [nf] scope)
  (hb:i7 s (br name b d (.Assign [.Name y B] (.Constant .none E D) p :: .Try [.Expr (.Call (.Name nf q) [] [] r) u] [.ExceptHandler (YP (.Name xT O)) (YP n) [.Assign [.Name y v] (.Name n x) z] P] [] [] pos::g) scope F G m J M l L) ⟨[.ref c],[]⟩ ([nf].zip [.ref c]))
  (xl:∀e:ah,Un (rP X.stack) [] H H s.heap e.heap->HOk X.prog X.w H e.heap->kl c e.heap) (hN:N.Nodup) (ug:N[0]?=YP nf) (hi:N[i]?=YP n) (hj:N[j]?=YP y) (uY:i≠j) (CZ:j≠0) (hn:scope.names.lookup n=YP .local) (hy:scope.names.lookup y=YP .local) (AU:sY scope nf)
  (zC:scope.names.lookup xT=YP .globalImplicit) (zu:X.mg xT=YP (.ref T))
  (sW:∀e:ah,oP k (X.A.deeper (a9 b scope s.heap.objs.size f l))->pe X.prog X.w X.K X.mg X.base (X.A.deeper (a9 b scope s.heap.objs.size f l)) (a9 b scope s.heap.objs.size f l::X.stack) e H->Un (rP X.stack) [] H H s.heap e.heap->
   codeAny (au X.prog X.w) (X.A.deeper (a9 b scope s.heap.objs.size f l)) (.call (.ref c) ⟨[],[]⟩) (CR (sj X.prog X.w Cl) (a9 b scope s.heap.objs.size f l::X.stack) X.prog X.w H e (λ_ H'=>W ((L2.start N [.ref c]).set j (YP .non)) H')
    (λCv _ R=>∃C,Cv=.ref C/\eZ X.K (.ref C) (.ref T)=YP JQ/\∀a,R a=JL->W ((((L2.start N [.ref c]).set j (YP .non)).set j (YP (.ref a))).set i JL) (upd R a (.ext λh=>∃ox,c8 h a ox C JL)))) e)
  (sV:oP k (X.A.deeper (a9 b scope s.heap.objs.size f l))->∃t,sZ (vq Cl X.prog X.w X.K X.mg X.base N b scope f l X.A X.stack s H E0) g t/\∀σ' H',W σ' H'->t { nx:=λ_ H'=>Q .non H',rt:=Q } σ' H')
  (Z:HG nf n y xT p q r u v x z B D E):
  ao (au X.prog X.w) X.A (call (.ref f) [.ref c]) (EP X Xq σ Q) X.xe s:=by refine zin (Cl:=Cl) (k:=k) (Q:=Q) (vs:=[.ref c]) I hr lk qH S hb rfl (.cons rfl .nil) λs1 U I1=>?_;obtain⟨t,ht,hW⟩:=sV U;exact z7z (Y:=vq Cl X.prog X.w X.K X.mg X.base N b scope f l X.A X.stack s H E0) (Cl:=Cl) (T:=T) (W:=W) (Q:=Q) I1 rfl rfl rfl (λs_ e o=>xl e o.base o.hok) ug (by rfl) hN hi hj uY CZ hn hy AU zC zu (λe o=>sW e U o.env0 o.base) ht hW Z
end
section
variable{X:Cx}{Xq:List (af×Obj)}{σ:St}{H:Hp}{s s2:ah}
def R1(a:Un fs [] H H h h')(z:h.IsCell c v)(n:H c=JL):h'.IsCell c v:=by obtain⟨o,b,d⟩:=z;obtain⟨f,e⟩:=a.any b n 'k';exact⟨_,e,d⟩
def Vy{b:List (aq×af)}(I:L2.Inv X Xq σ H s)(d:Un (rP X.stack) [] H H s.heap s2.heap)(a:∀x c,b.lookup x=YP c->X.env.cells.lookup x=YP c):∀x c,b.lookup x=YP c->(∃v,s2.heap.IsCell c v)/\H c=JL:=λx c e=>by
 obtain⟨v,z⟩:=I.cell x c (a x c e);exact⟨⟨v,R1 d z (I.freeC x c (a x c e))⟩,I.freeC x c (a x c e)⟩
def Tf{a:List (aq×af)}(I:L2.Inv X Xq σ H s)(b:∀x c,a.lookup x=YP c->X.env.cells.lookup x=YP c):∀x y c,a.lookup x=YP c->a.lookup y=YP c->x=y:=λx y c d e=>I.ok.inj x y c (b x c d) (b y c e)
def U5{a:List (aq×af)}{scope:cu}(I:L2.Inv X Xq σ H s)(h:Un (rP X.stack) [] H H s.heap s2.heap)(j:∀x c,a.lookup x=YP c->X.env.cells.lookup x=YP c)(b:∀x,scope.names.lookup x=YP .free->∃c,a.lookup x=YP c)
  (e:∀x,scope.names.lookup x=YP .free->X.env.scope.names.lookup x=YP .cell\/X.env.scope.names.lookup x=YP .free):
  ∀(i:Nat)x v,X.N[i]?=YP x->σ[i]?=YP (YP v)->scope.names.lookup x=YP .free->∃u c,RelV v u/\a.lookup x=YP c/\s2.heap.IsCell c (YP u):=λi x v k n d=>by
 obtain⟨m,w,o⟩:=I.loc;obtain⟨u,r,l⟩:=o i x v k n (.inr (e x d));obtain⟨c,f⟩:=b x d;refine⟨u,c,r,f,?_⟩;rcases l with⟨z,_⟩|⟨_,y,g,p⟩
 ·have t:X.env.scope.names.lookup x=YP .local:=z;rcases e x d with q|q<;>(rw[t] at q;cases q)
 ·have:=j x c f;rw[g] at this;cases this;exact R1 h p (I.freeC x _ g)
end
structure Jc(out sc:cu):Prop where
 kind:sc.kind=.function
 co:sc.isCoroutine=JU
 gen:sc.isGenerator=JU
 nd:(sc.names.map (·.1)).Nodup
 cell:∀x∈sc.names,x.2 ≠ .cell
 loc:∀x∈sc.names,x.2 ≠ .local
 frees:∀y∈sc.names,y.2=.free->out.names.lookup y.1=YP .cell\/out.names.lookup y.1=YP .free
def KA(r:RS):R D:=match r with
 |.nx _ O=>.ok .non O
 |.rt d O=>.ok d O
 |_=>.bad
def EN(Ca:Nat->Nat)(n j:Nat)(tR:DS)(r:R D):R D:=match r with
 |.ok _ O=>KA (tR ((aB n JL).set j (YP .non)) O)
 |.exc c O=>KA (tR ((aB n JL).set j (YP (.exn (Ca c)))) O)
 |.bad=>.bad
def Cp(Pt iT:Nat)(Ca:Nat->Nat)(n j:Nat)(tE:DE)(tR:DS):DE:=λσ O=>match σ[iT]? with
 |some (YP (.tab p))=>if p=Pt then EN Ca n j tR (tE σ O) else .bad
 |_=>.bad
def UZ(c:b_.length=n)(a:b_[j]?=YP (YP v))(q:XV K H Xf μ d v):oN K H Xf μ ((aB n JL).set j (YP d)) b_:=by
 refine⟨by simp[c],λi x e=>?_⟩;by_cases b:j=i
 ·subst b;have f:j<n:=by have:=(am.mp a).1;lia
  rw[aZ ⇑f] at e;cases e;exact⟨v,a,q⟩
 ·rw[aX b] at e;rw[eT] at e;split at e<;>cases e
def U7(q:qY Ex K H Xf μ (KA r) Q):oR E' K H Xf μ r { nx:=λ_ H'=>Q .non H',rt:=Q }:=by
 cases r with
 |nx σ O'=>exact λc H' b x e a=>q .non H' b x a By
 |rt d' O'=>exact λv H' b x a r=>q v H' b x a r
 |bk σ O'=>exact ai q
 |ct σ O'=>exact ai q
 |exc a O'=>exact ai q
 |bad=>exact ai q
def Jl(h:0<N.length):(L2.start N [a]).length=N.length:=by unfold L2.start;simp;lia
def Thk(Cl:Nat->ae)(P:aK)(w:aT)(K:ak)(mg:aq->Option ae)(base:aS)(fs:List af)(H:Hp)(h:aS)(lam:af)(kk:Nat)(Xf μ:List af)(r:R D):Prop:=
 ∀(A:aU)(outer:List Env)(s2:ah)(Q:VK)(E:XK),oP kk A->pe P w K mg base A outer s2 H->Un fs [] H H h s2.heap->qY (Xk Cl E) K H Xf μ r Q->codeAny (au P w) A (.call (.ref lam) ⟨[],[]⟩) (CR (sj P w Cl) outer P w H s2 Q E) s2
section
variable{Y:Cx}{Ex:Nat->Hp->Prop}{Cl:Nat->ae}{Ca:Nat->Nat}
def zeU{k i j:Nat}{T e:af}{x nf n y xT:aq}{b:dh}{N:List aq}{l:List dh}{J:DS}{X p1 p2 p3 p4 p5 p6 p7 p8 pq pc pos:Pos}{kc:_}{m:List (af×Obj)}{qV:St}{H:Hp}{s:ah}{f:af}{fd:d0}{fs:List af}{h0:aS}{Xf μ:List af}{r:R D}{Q:VK}
  (I:L2.Inv Y m qV H s) (F:L2.Fun Y.K x x b f fd) (hr:oP (k+1) Y.A)
  (Ov:tP b=.Assign [.Name y pq] (.Constant .none kc pc) X :: .Try [.Expr (.Call (.Name nf p1) [] [] p2) p3] [.ExceptHandler (YP (.Name xT p4)) (YP n) [.Assign [.Name y p5] (.Name n p6) p7] p8] [] [] pos::l)
  (S:tF N [nf] (qz b)) (hN:N.Nodup) (ug:N[0]?=YP nf) (hi:N[i]?=YP n) (hj:N[j]?=YP y) (uY:i≠j) (CZ:j≠0) (hn:(qz b).names.lookup n=YP .local) (hy:(qz b).names.lookup y=YP .local) (AU:sY (qz b) nf)
  (hb:∀(t g u:ae)(B:Option af)(o C:ae)(L:List ae),L.length=1->bindArgs (br x x (vS b) (tP b) (qz b) .none t g u B o C) ⟨L,[]⟩=pure ([nf].zip L))
  (zC:(qz b).names.lookup xT=YP .globalImplicit) (zu:Y.mg xT=YP (.ref T)) (zG:∀c,Cl c=.ref (Ca c)/\A9 Y.K (Ca c)/\eZ Y.K (.ref (Ca c)) (.ref T)=YP JQ)
  (sV:∀(f:af)(o:ae)(s:ah)(H:Hp),oP k (Y.A.deeper (a9 x (qz b) s.heap.objs.size f o))->sQ (vq Cl Y.prog Y.w Y.K Y.mg Y.base N x (qz b) f o Y.A Y.stack s H E0) (Xk Cl E0) l J)
  (xl:∀p:ah,Un (rP Y.stack) [] H H s.heap p.heap->HOk Y.prog Y.w H p.heap->kl e p.heap) (th:Thk Cl Y.prog Y.w Y.K Y.mg Y.base fs H h0 e k Xf μ r) (M:∀s3:ah,Un (rP Y.stack) [] H H s.heap s3.heap->Un fs [] H H h0 s3.heap)
  (q:qY Ex Y.K H Xf μ (EN Ca N.length j J r) Q)
  (Z:HG nf n y xT X p1 p2 p3 p5 p6 p7 pq pc kc:=by exact {}):
  ao (au Y.prog Y.w) Y.A (call (.ref f) [.ref e]) (EP Y m qV Q) Y.xe s:=by
 have E:0<N.length:=(am.mp ug).1;have GL:j<N.length:=(am.mp hj).1;obtain⟨oc,od,t,g,u,B,o,C,tw,rfl,lk,qH⟩:=F.ex;have Kc:i7 s (br x x (vS b) (tP b) (qz b) .none t g u B o C) ⟨[.ref e],[]⟩ ([nf].zip [.ref e]):=.of_eq (hb t g u B o C [.ref e] rfl);rw[Ov] at lk Kc;refine z8u (k:=k) (Q:=Q) (W:=JS (Xk Cl E0) Y.K J { nx:=λ_ H'=>Q .non H',rt:=Q }) (i:=i) (j:=j) (T:=T) (Cl:=Cl) I hr lk qH S Kc xl hN ug hi hj uY CZ hn hy AU zC zu ?_ ?_ Z
 ·intro p O e0 un;refine th _ _ p _ _ O e0 (M p un) ?_;cases r with
  |bad=>exact ai q
  | ok d O'=>
   intro v H3 P U G d3;refine⟨Xf,P,_,O',UZ (by rw[cG,Jl E]) ?_ By,G,U7 (post.ext q U)⟩;rw[aZ (by rw[Jl E];exact GL)]
  | exc cc O'=>
   intro H3 P U G;obtain⟨h1,h2,h3⟩:=zG cc;refine⟨Ca cc,h1,h3,λa V=>⟨Xf,P,_,O',UZ (v:=.ref a) (d:=.exn (Ca cc)) (by simp[Jl E]) ?_ ?_,G.laid V,U7 (post.ext q (U.trans (.laid V)))⟩⟩
   ·rw[aX uY,aZ (by simp[Jl E];exact GL)]
   ·unfold XV;exact⟨a,_,rfl,⟨h2,λh z=>z⟩,.inl rS,G.not_in V⟩
 ·intro O;exact⟨_,(sV f o _ H O).out,λσ' H' z=>z⟩
end
section
variable{X:Cx}{Ex:Nat->Hp->Prop}{Cl:Nat->ae}{Ca:Nat->Nat}
def zaI{k iT i j:Nat}{Pt c:af}{T:af}{x nf n y xT:aq}{g:dh}{N:List aq}{B:List dh}{R:DS}{G:DE}{a:eR}{body:aR}{scope:cu}{p0 p1 p2 p3 p4 p5 p6 p7 p8 pq pc pos pn pl pp:Pos}{kc:_}
  (h:qL X.K X.mg x g) (hr:oP (k+2) X.A)
  (Ov:tP g=.Assign [.Name y pq] (.Constant .none kc pc) p0 :: .Try [.Expr (.Call (.Name nf p1) [] [] p2) p3] [.ExceptHandler (YP (.Name xT p4)) (YP n) [.Assign [.Name y p5] (.Name n p6) p7] p8] [] [] pos::B)
  (S:tF N [nf] (qz g)) (hN:N.Nodup) (ug:N[0]?=YP nf) (hi:N[i]?=YP n) (hj:N[j]?=YP y) (uY:i≠j) (CZ:j≠0) (hn:(qz g).names.lookup n=YP .local) (U:(qz g).names.lookup y=YP .local) (AU:sY (qz g) nf)
  (V:∀(kV W Y:ae)(an:Option af)(P ct:ae)(us:List ae),us.length=1->bindArgs (br x x (vS g) (tP g) (qz g) .none kV W Y an P ct) ⟨us,[]⟩=pure ([nf].zip us))
  (zC:(qz g).names.lookup xT=YP .globalImplicit) (zu:X.mg xT=YP (.ref T)) (zG:∀c,Cl c=.ref (Ca c)/\A9 X.K (Ca c)/\eZ X.K (.ref (Ca c)) (.ref T)=YP JQ)
  (sV:∀(f:af)(P:ae)(s:ah)(H:Hp),oP (k+1) (X.A.deeper (a9 x (qz g) s.heap.objs.size f P))->sQ (vq Cl X.prog X.w X.K X.mg X.base N x (qz g) f P X.A X.stack s H E0) (Xk Cl E0) B R)
  (L:uF X.mg X.base c Pt) (sM:X.env.code=.ref c) (u:Jc X.env.scope scope) (u7:defaultsOf a X.env=([],[]))
  (zJ:∀(name J:aq)(cl:List (aq×af))(Y M ct:ae),bindArgs (cC name J a body scope cl Y M ct) ⟨[],[]⟩=pure [])
  (hE:∀(q:aq)(b:af)(M:ae)(cl:List (aq×af))(A:aU)(l:List Env)(s:ah)(H:Hp)(E:XK),oP k (A.deeper (tN q scope s.heap.objs.size b M cl))->PD (Dj (sj X.prog X.w Cl) X.prog X.w X.K X.mg X.base X.N (tN q scope s.heap.objs.size b M cl) A l s H E) (Xk Cl E) body G)
  (hg:Gl X x)
  (sF:rH x:=by decide)
  (Z:HG nf n y xT p0 p1 p2 p3 p5 p6 p7 pq pc kc:=by exact {}):
  PD X Ex (.Call (.Name x pn) [.Lambda a body scope pl] [] pp) (Cp Pt iT Ca N.length j G R):=by
 refine⟨?_⟩;rintro Xq s b_ H Q I ⟨Xf,μ,σ,O,e1,c1,q⟩;obtain⟨f,fd,hm,F⟩:=h;have G5:0<N.length:=(am.mp ug).1;have GL:j<N.length:=(am.mp hj).1;have hil:i<N.length:=(am.mp hi).1
 -- the table
 obtain⟨ti,q⟩:oX H Pt/\qY Ex X.K H Xf μ (EN Ca N.length j R (G σ O)) Q:=by
  unfold Cp at q;split at q
  ·rename_i p hp;by_cases xk:p=Pt
   ·rw[JV xk] at q;obtain⟨v,_,d⟩:=e1.at_ iT _ hp;unfold XV at d;rw[xk] at d;exact⟨d.2,q⟩
   ·rw[JW xk] at q;exact ai q
  ·exact ai q
 have qm:∀y∈scope.names,y.2=.free->∃c,X.env.cells.lookup y.1=YP c:=λy U hf=>I.ok.has y.1 (u.frees y U hf);have rO:∀x c,(sC X.env.cells scope.names []).lookup x=YP c->X.env.cells.lookup x=YP c:=λx c e=>by
  rcases FG _ _ (bq e) with m|⟨m,z⟩
  ·cases m
  ·obtain⟨c',ym⟩:=qm (x,.free) m rfl;have zI:X.env.cells.lookup x=YP c':=ym;rw[zI] at z ⊢;rw[z];rfl
 have zK:∀x,scope.names.lookup x=YP .free->∃c,(sC X.env.cells scope.names []).lookup x=YP c:=λx e=>by
  have m:=FH (cells:=X.env.cells) scope.names [] (bq e);exact⟨_,zc (FO _ _ u.nd 'k' (by intro p hp;cases hp)) m⟩
 have EB:∀x,scope.names.lookup x=YP .free->X.env.scope.names.lookup x=YP .cell\/X.env.scope.names.lookup x=YP .free:=λx e=>u.frees (x,.free) (bq e) rfl;have sE:∀x,sY scope x->scope.names.lookup x=YP .free:=λx hx=>by
  rcases hx with z|z|z
  ·exact absurd rfl (u.loc _ (bq z))
  ·exact absurd rfl (u.cell _ (bq z))
  ·exact z
 refine fh (Fj I hg hm ?_ sF);refine ml (h₀:=X.base) I.ok.mod.kin F.kp ?_ (by rfl) (by rfl);show ao _ _ (spliced ((JU,eval (.Lambda a body scope pl) X.env)::backTo pp (aF [] X.env))) _ _ s;refine f6 (QR I L sM ti (MO qm) u7 λb M zN h' tk H' D ext cells J_ zB q0 uB=>?_);refine iC ⟨D.kIn,?_⟩;have GB:b∉rP X.stack:=by
  intro V;obtain⟨_,o,ho,_⟩:=I.stack.mem V;exact absurd (aJ ho) (j4.mpr zB)
 obtain⟨cc,φ,rfl,uR,NH⟩:=uB;refine zeU (k:=k+1) (fs:=rP X.stack) (h0:=h') (Xf:=Xf) (μ:=μ) (r:=G σ O) D F hr Ov S hN ug hi hj uY CZ hn U AU V zC zu zG sV (λs2 C _=>⟨_,_,_,_,C.keep b _ q0 J_ GB 'k'⟩) ?_ (λ_ C=>C) (post.ext q (ext μ)) Z;intro A l s2 Q2 E2 AX e0 C qq;obtain⟨qn,NU⟩:=NH _ (e0.hok cc _ uR).1;exact Yl (k:=k) (t:=G) (Xf:=Xf) (μ:=μ) (σd:=σ) (O:=O) AX e0 (C.keep b _ q0 J_ GB 'k') NU u.co u.gen u.kind u.cell (zJ _ _ _ _ _ _) sE (Vy D C rO) (Tf D rO) zK (U5 D C rO zK EB) D.len (hE _ _ _ _ _ _ _ _ _) (e1.ext (ext μ)) (cells Xf μ O c1) qq
end
def Y_{K:ak}{Ec:XK->Nat->Hp->Prop}{Pt:af}{F:qh}{H:Hp}{a:af}{b:List Int}(h:∃O,F [.lst (b.map .int)] []=.ok (.bl JQ) O)(c:H Pt=YP (.tbl #[]))(d:qR K H a (b.map V.int)):HM K Ec 1 Pt F [.ref a] H (λv _=>v=.bl JQ) λ_ _ _=>False:=by
 obtain⟨O,h⟩:=h;have f:∀(l:List Int),oM K H [] [] (l.map D.int) (l.map V.int):=λl=>by
  induction l with
  |nil=>exact .nil
  |cons x r ih=>exact .cons t5 ih
 refine⟨rfl,[],[],[.lst (b.map .int)],[],.cons ?_ .nil,⟨rfl,by simp,by simp,by simp,λk a e=>by simp at e⟩,oX.empty c,?_⟩
 ·unfold XV;exact⟨a,_,rfl,d.imp (λz=>⟨z,by simp,by simp⟩) id,f b⟩
 ·rw[h];intro v g i _ _ r;unfold XV at r;exact r
section
variable{X:Cx}{Ex:Nat->Hp->Prop}
def yV:Ow->D->D->R D:=λO x y=>match x,y with
 |.str [c],.int i=>if 0<=i/\i<=16 then .ok (.str (aB i.toNat c)) O else .bad
 |_,_=>.bad
theorem UJ(c:Nat):∀(k:Nat)(a:pU),(aB k (#[c]:Array Nat)).foldl (· ++ ·) a.toArray=(a++aB k c).toArray
 |0,a=>by simp
 | k+1,a=>by
  rw[l8,fv];have e:a.toArray ++ #[c]=(a++[c]).toArray:=by simp
  rw[e,UJ c k];rw[l8];simp
def zha(c:Nat)(i:Int):Txt.mul (⟨#[c]⟩:aq) i=⟨(aB i.toNat c).toArray⟩:=by
 unfold Txt.mul;by_cases a:i<1
 ·rw[JV a];have:i.toNat=0:=by lia
  rw[this];rfl
 ·rw[JW a];by_cases b:i=1
  ·subst b;rfl
  ·have d:(i==1||(⟨#[c]⟩:aq).length==0)=JU:=by
    have:(i==1)=JU:=⇑b
    rw[this];rfl
   rw[JW (by rw[d];decide)];have:=UJ c i.toNat [];simp only[fu] at this;rw[this]
def zhE:qS X (eG .Mult) (λx y H Q=>∃c i,x=.str ⟨#[c]⟩/\y=.int i/\0<=i/\i<=16/\Q (.str ⟨(aB i.toNat c).toArray⟩) H):=by
 intro a s m H x y v u Q I b d h;obtain⟨c,i,rfl,rfl,o,p,q⟩:=h;obtain⟨t,rfl⟩:=b;obtain⟨r,rfl⟩:=d;refine wT I (SB.mul ?_ λw k z=>⟨.str (Txt.mul ⟨#[c]⟩ i),H,I.tok k,⟨_,rfl⟩,by rw[zha];exact q⟩);refine⟨?_,λf g=>?_,λf g=>?_⟩
 ·have j:decide (i < -(2 ^ 63:Int))=JU:=by simp;lia
  have l:decide (i ≥ 2 ^ 63)=JU:=by simp;lia
  rw[j,l];rfl
 ·have e:((⟨#[c]⟩:aq).length:Int)=1:=rfl;rw[e];have:(1:Int)<=(2 ^ 63-1)/i:=by
   rw[Int.le_ediv_iff_mul_le 'd'];lia
  lia
 ·have e:(⟨#[c]⟩:aq).length*i.toNat=i.toNat:=by
   show 1*_=_;lia
  rw[e];have:i.toNat<=16:=by lia
  generalize i.toNat=n at this;revert n;decide
def ze3:tx X Ex (λx y H Q=>∃c i,x=.str ⟨#[c]⟩/\y=.int i/\0<=i/\i<=16/\Q (.str ⟨(aB i.toNat c).toArray⟩) H) yV:=by
 intro H e g O x y v w Q c a b q;unfold yV at q;split at q
 ·rename_i f i;unfold XV at a b;subst a;subst b;obtain⟨d,q⟩:=post.ite q;refine⟨f,i,rfl,rfl,d.1,d.2,post.here q c ?_⟩;unfold XV;rfl
 ·exact ai q
end
def B6(h:sc.names.lookup z=JL):¬ sY sc z:=by intro v;rcases v with v|v|v<;>(rw[h] at v;cases v)
noncomputable def Pe(out sc:cu):Bool:=(match sc.kind with|.function=>JQ|_=>JU) && !sc.isCoroutine && !sc.isGenerator&&decide ((sc.names.map (·.1)).Nodup)&&(sc.names.all λy=>!(y.2 == .cell) && !(y.2 == .local))&&(sc.names.all λy=>!(y.2 == .free)||out.names.lookup y.1==YP .cell||out.names.lookup y.1==YP .free)
def Yd(h:Pe out sc=JQ):Jc out sc:=by
 unfold Pe at h;simp only[be,decide_eq_true_eq,aD] at h;obtain⟨⟨⟨⟨⟨b,d⟩,f⟩,g⟩,c⟩,i⟩:=h;refine⟨?_,by simpa using d,by simpa using f,g,λy a=>?_,λy a=>?_,λy a j=>?_⟩
 ·cases e:sc.kind<;>rw[e] at b<;>first|rfl|cases b
 ·have:=(c y a).1;simpa using this
 ·have:=(c y a).2;simpa using this
 ·have:=i y a;rw[j] at this;simpa using this
def ziM(X:K.In base)(g:mg x=YP (.ref C))(q:lS K C HE "ValueError.__new__" = JQ):KL mg base x C:=by
 unfold lS at q;split at q
 next dd cd sl ho=>
  split at q
  next C' bm k0 k1 k2 k3 n k5 hm hs=>
   simp only[be,beq_iff_eq,gh] at q;obtain⟨⟨⟨⟨⟨d,e⟩,b⟩,f⟩,a⟩,c⟩:=q;subst d;subst e;cases cd with
   | mk nm bs mro ns qn hd sn sub ab col del=>
    dsimp only at hm b a c;subst hm;subst b;cases sl with
    | mk l=>
     dsimp only at hs;subst hs;exact⟨g,bm,ns,nm,qn,bs,hd,sn,sub,ab,col,dd,k0,k1,k2,k3,k5,_,X _ _ ho,.of_isNs (PySem.W.isNs_of_in X a),PySem.W.nsMap_none_of_in X a c,PySem.W.tail_of_in X f⟩
  next=>cases q
 next=>cases q
def xck_of(d:dU K (.ref C) "__getattribute__" = YP (YP (.builtin "BaseException.__getattribute__")))(e:dU K (.ref C) "__getattr__" = YP JL)(f:on K C=YP cd)
  (a:dU K (.ref C) "__class__" = YP (YP (.builtin "object.__class__"))) (g:iB K (.builtin "object.__class__") "__get__" = YP (YP (.builtin "getset_descriptor.__get__"))) (tk:kE K (.builtin "object.__class__")=YP JQ)
  (h:iV K C (.type "object")=YP JQ) (i:iV K C (.type "BaseException")=YP JQ)
  (k1:aW K (.ref C) (.type "int")=YP JU) (k2:aW K (.ref C) (.type "bool")=YP JU) (k3:aW K (.ref C) (.type "str")=YP JU) (j:aW K (.ref C) (.type "list")=YP JU) (k5:aW K (.ref C) (.type "tuple")=YP JU) (k:aW K (.ref C) (.type "dict")=YP JU):A9 K C:=
 ⟨d,e,⟨cd,f⟩,a,g,tk,h,i,λc b=>by
  simp only[ar,bL,or_false] at b;rcases b with rfl|rfl|rfl|rfl|rfl|rfl<;>assumption⟩
def RD{K:ak}{x name d:aq}{f c Pt:af}{b:eR}{body:List dh}{scope:cu}{i j e k l m g:ae}{n o h:Option af}{p q:Array (Option ae)}{vs:Array ae}(a:il K bX x=YP (YP (.ref f)))
  (r:K.lookup f=YP ⟨m,o,.func (br name d b body scope i j e k n (.ref c) l),p⟩) (s:K.lookup c=YP ⟨g,h,.fields vs,q⟩) (t:vs[11]?=YP (.ref Pt)):gQ K x=YP (c,Pt):=by unfold gQ;rw[a];simp only[r];show(match K.lookup c with|some ⟨_,_,.fields vs,_⟩=>_|_=>JL)=_;simp only[s,t]
def z6l:bd "ValueError" = YP (.type "ValueError"):=by boot_by_name
structure o8(P:aK)(w:aT)(ia:af)(fp:List af)(n:Nat)(Pv:Nat->ae->Prop)(Sx:Nat->aS->Prop):Prop where
 stab:∀i h h',Sx i h->(∀b∈ia::fp,∀o,h.get? b=YP o->h'.get? b=YP o)->Sx i h'
 item:∀(A:aU)(i:Nat)(s:ah)(Q:ae->ah->Prop)(E:ae->ah->Prop),i<n->Sx i s.heap->(∀v h' tk,Pv i v->Sx (i+1) h'->de ia s.heap h'->Q v { s with heap:=h',toks:=tk })->ao (au P w) A (cM (.ref ia)) Q E s
 done:∀(A:aU)(i:Nat)(s:ah)(Q:ae->ah->Prop)(E:ae->ah->Prop),A.handled=JL->n<=i->Sx i s.heap->(∀h' e,jA ia s.heap h'->(∃o,h'.get? e=YP o/\o.cls=.type "StopIteration")->E (.ref e) { s with heap:=h' })->ao (au P w) A (cM (.ref ia)) Q E s
section
variable{P:aK}{w:aT}{A:aU}{E:ae->ah->Prop}{s:ah}
def zf5{α:Type}{Q:α->ah->Prop}(c:A.handled=JL)(h:∀h' e,(∀b o,s.heap.get? b=YP o->h'.get? b=YP o)->(∃o,h'.get? e=YP o/\o.cls=.type "StopIteration")->E (.ref e) { s with heap:=h' }):
  ao (au P w) A (newExc (.type "StopIteration") [] >>= λe=>(raiseNew e:Sem α)) Q E s:=by refine aa ?_;simp only[newExc,newTuple];refine aa (bO (?_) (by size_fits));refine aa (m:=firstArgMember _ _) (jz (a:=.none) (by first|rfl|(simp only[firstArgMember];rfl)) (bO ?_ (by size_fits)));simp only[raiseNew];refine aa (wpAny_handled ?_);rw[c];refine aa (aj (wpAny_throw (h _ _ (λb o e=>ag _ (ag _ e)) ⟨_,aE _ rfl,rfl⟩)))
def zbb(l g:af)(a:Array ae)(J:g≠l):o8 P w l [g] a.size (λi v=>a[i]?=YP v) (λi h=>h.IsTupleIter l g i/\h.IsTuple g a) where
 stab:=by
  rintro i h B ⟨⟨o,e,c,d⟩,⟨C,K,r⟩⟩ k;exact⟨⟨o,k l 'k' o e,c,d⟩,⟨C,k g 'k' C K,r⟩⟩
 item:=by
  rintro A i s Q E t ⟨f,u⟩ y;obtain⟨L,m,D,j⟩:=id f;obtain⟨F,n,G,H,p⟩:=id u;have q:a[i]?=YP a[i]:=a8 t;unfold cM;refine aa (cx (name := "__next__") f.typeIs fD (bU fD f.typeIs jI ?_ (jr _)));show ao _ _ (field (.ref l) 0 >>= _) _ _ s;refine aa (bA m j (x:=.ref g) rfl ?_);show ao _ _ (if (dJ g==cL)=JQ then _ else _) _ _ s;rw[JW (by exact cO)];show ao _ _ (field (.ref l) 1 >>= _) _ _ s;refine aa (bA m j (x:=.int i 0) rfl ?_);show ao _ _ (seqItems? (.ref g) >>= _) _ _ s;refine aa (dF n p ?_);simp only[iD,q];refine aa (gq m j 'k' (aj ⟨_,rfl,aj (y _ _ s.toks q ⟨?_,?_⟩ (d6 ..))⟩))
  ·exact⟨_,bH _ m (ee (dM j _)),(mV ..).trans D,by rw[dM j];simp[bN]⟩
  ·exact⟨F,(d6 ..).extBut _ _ J n,G,H,p⟩
 done:=by
  rintro A i s Q E I t ⟨f,u⟩ y;obtain⟨L,m,D,j⟩:=id f;obtain⟨F,n,G,H,p⟩:=id u;have q:a[i]?=JL:=by simp[t]
  unfold cM;refine aa (cx (name := "__next__") f.typeIs fD (bU fD f.typeIs jI ?_ (jr _)));show ao _ _ (field (.ref l) 0 >>= _) _ _ s;refine aa (bA m j (x:=.ref g) rfl ?_);show ao _ _ (if (dJ g==cL)=JQ then _ else _) _ _ s;rw[JW (by exact cO)];show ao _ _ (field (.ref l) 1 >>= _) _ _ s;refine aa (bA m j (x:=.int i 0) rfl ?_);show ao _ _ (seqItems? (.ref g) >>= _) _ _ s;refine aa (dF n p ?_);simp only[iD,q];refine aa (dP (aa (gq m j 'k' ?_)));refine zf5 (by first|exact I|(show A.in1.handled=JL;exact I)) λB e k M=>y B e (λb o N z=>k b o ((d6 ..).extBut _ _ N z)) M
end
structure Hq(z ti to:af)(i1 i2:af)(t_ tW:List af):Prop where
 a1:ti≠z
 a2:to≠z
 a3:ti≠to
 b1:∀b∈i1::t_,b≠z/\b≠to
 b2:∀b∈i2::tW,b≠z/\b≠to
 c1:i1∉i2::tW
 c2:i2∉i1::t_
 d1:ti≠i1
 d2:ti≠i2
section
variable{P:aK}{w:aT}{A:aU}{E:ae->ah->Prop}{s:ah}{z ti to i1 i2:af}{t_ tW:List af}{n1 n2 k:Nat}{P1 P2:Nat->ae->Prop}{S1 S2:Nat->aS->Prop}{a b:ae}
def o8.but(J:o8 P w ia fp n Pv Sx)(x:Sx i h)(e:jA c h h')(d:∀b∈ia::fp,b≠c):Sx i h':=J.stab i h h' x λb f o z=>e b o (d b f) z
def zh9{Q:ae->ah->Prop}(i:o8 P w i1 t_ n1 P1 S1)(j:o8 P w i2 tW n2 P2 S2)(D:Hq z ti to i1 i2 t_ tW)(l:j6 s.heap z ti to .none)(CP:fK s.heap ti (.ref i1) (.ref i2))(CO:fK s.heap to a b)(h1:S1 k s.heap)(h2:S2 k s.heap)(l1:k<n1)(l2:k<n2)
  (hq:∀x y h' tk,P1 k x->P2 k y->j6 h' z ti to (bN s.heap.objs.size)->fK h' to x y->S1 (k+1) h'->S2 (k+1) h'->fK h' s.heap.objs.size x y->
   (∀c o,c≠z->c≠to->c≠i1->c≠i2->s.heap.get? c=YP o->h'.get? c=YP o)->Q (.ref s.heap.objs.size) { s with heap:=h',toks:=tk }):
  ao (au P w) A (d9.«zip.__next__» ⟨[.ref z],[]⟩) (λf s'=>∃v,f=.done (.ret v)/\Q v s') E s:=by
 have g:∀b∈i1::t_,b≠z:=λb d=>(D.b1 b d).1;have h:∀b∈i2::tW,b≠z:=λb d=>(D.b2 b d).1;have H:∀b∈i1::t_,b≠to:=λb d=>(D.b1 b d).2;have I:∀b∈i2::tW,b≠to:=λb d=>(D.b2 b d).2;have Nr:∀b∈i2::tW,b≠i1:=λb d e=>D.c1 (e▸d);have J:∀b∈i1::t_,b≠i2:=λb d e=>D.c2 (e▸d);have R:i1∈i1::t_:=av;have S:i2∈i2::tW:=av;show ao _ _ (field (.ref z) 2 >>= _) _ _ s;refine aa (bA l rfl rfl ?_);refine aa (bA l rfl rfl (aa (dF CP rfl ?_)));refine aa ?_;unfold eu;refine aa (bA l rfl rfl (aj ?_));simp only[if_true];refine aa (dP (aa (bA l rfl rfl ?_)));refine aa (bK l 'k' λha za m=>?_);refine aa ?_;simp only[i4,nQ,g8,k7];refine aa (aa (iW ?_));show ao _ _ (cM (.ref i1) >>= _) _ _ _;refine aa (i.item _ k _ _ _ l1 (i.but h1 m.extBut g) λx d uM px CC n=>aj ?_);have T:=n.extBut _ _ (bC (H _ R)) (m.extBut _ _ D.a2 CO);refine aa (dF T rfl (aa (jg T λhc V8 p=>?_)));refine aa (gf (aj (aa (aa (iW ?_)))));show ao _ _ (cM (.ref i2) >>= _) _ _ _;refine aa (j.item _ k _ _ _ l2 (j.but (j.but (j.but h2 m.extBut h) n.extBut Nr) p.extBut I) λy hd tk2 py K r=>aj ?_);have U:=r.extBut _ _ (bC (I _ S)) V8;refine aa (dF U rfl (aa (jg U λt B u=>?_)));have B:fK t to x y:=B;refine aa (gf (aj (aj (aa (dF B rfl (aa (iw ?_)))))));have V:t.objs.size=s.heap.objs.size:=by rw[u.1,r.1,p.1,n.1,m.1]
 have W:=u.extBut _ _ (bC D.a2) (r.extBut _ _ (bC (h _ S)) (p.extBut _ _ (bC D.a2) (n.extBut _ _ (bC (g _ R)) za)));have ke:∀c o,c≠z->c≠to->c≠i1->c≠i2->s.heap.get? c=YP o->t.get? c=YP o:=λc o C F L M e=>u.extBut _ _ F (r.extBut _ _ M (p.extBut _ _ F (n.extBut _ _ L (m.extBut _ _ C e))));have N:=i.but (i.but (i.but CC p.extBut H) r.extBut J) u.extBut H;have O:=j.but K u.extBut I;have X:=aJ W;refine aa ?_;unfold fj;have zf:j6 (t.push { cls:=.type "tuple",data:=.seq #[x,y] }) z ti to .ellipsis:=ag _ W;refine aa (bK zf 'k' λhg zg Y=>?_);refine bK zg 'k' λZ zi si=>?_;have G:∀c o,c≠z->t.get? c=YP o->Z.get? c=YP o:=λc o q e=>si.extBut _ _ q (Y.extBut _ _ q (ag _ e));have pi:=si.extBut _ _ (dB X) (Y.extBut _ _ (dB X) (aE _ rfl));rw[V] at zi pi;refine aj ⟨_,rfl,?_⟩;rw[V];exact hq x y Z _ px py zi (G _ _ D.a2 B) (i.stab _ _ _ N λb d o e=>G b o (g b d) e) (j.stab _ _ _ O λb d o e=>G b o (h b d) e) pi λc o C F L M e=>G c o C (ke c o C F L M e)
def zik(K:A.handled=JL)(u:o8 P w i1 t_ n1 P1 S1)(v:o8 P w i2 tW n2 P2 S2)(D:Hq z ti to i1 i2 t_ tW)(g:j6 s.heap z ti to .none)(U:fK s.heap ti (.ref i1) (.ref i2))(V:fK s.heap to a b)(L:S1 k s.heap)(W:S2 k s.heap)(l:n1<=k\/(k<n1/\n2<=k))
  (M:∀h' tk e,(∀c o,c≠z->c≠to->c≠i1->c≠i2->s.heap.get? c=YP o->h'.get? c=YP o)->(∃o,h'.get? e=YP o/\o.cls=.type "StopIteration")->E (.ref e) { s with heap:=h',toks:=tk }):
  ao (au P w) A (d9.«zip.__next__» ⟨[.ref z],[]⟩) Q E s:=by
 have f:∀b∈i1::t_,b≠z:=λb d=>(D.b1 b d).1;have m:∀b∈i2::tW,b≠z:=λb d=>(D.b2 b d).1;have X:∀b∈i1::t_,b≠to:=λb d=>(D.b1 b d).2;have Y:∀b∈i2::tW,b≠to:=λb d=>(D.b2 b d).2;have Z:∀b∈i2::tW,b≠i1:=λb d e=>D.c1 (e▸d);have C:i1∈i1::t_:=av;have m2:i2∈i2::tW:=av;show ao _ _ (field (.ref z) 2 >>= _) _ _ s;refine aa (bA g rfl rfl ?_);refine aa (bA g rfl rfl (aa (dF U rfl ?_)));refine aa ?_;unfold eu;refine aa (bA g rfl rfl (aj ?_));simp only[if_true];refine aa (dP (aa (bA g rfl rfl ?_)));refine aa (bK g 'k' λha N i=>?_);refine aa ?_;simp only[i4,nQ,g8,k7];refine aa (aa (iW ?_));show ao _ _ (cM (.ref i1) >>= _) _ _ _;have n:∀{h:aS}{e:af},j6 h z ti to .ellipsis->(∃o,h.get? e=YP o/\o.cls=.type "StopIteration")->e≠z:=λ{h e}g ⟨o,ho,y⟩ q=>by subst q;rw[g] at ho;cases ho;simp at y
 rcases l with l|⟨l1,l⟩
 ·refine aa (u.done _ k _ _ _ K l (u.but L i.extBut f) λd e p r=>?_);have O:=p _ _ (bC (f _ C)) N;have F:=n O r;obtain⟨G,H,I⟩:=r;exact bK O 'k' λy _ j=>M y _ e (λc o t _ J _ x=>j.extBut _ _ t (p _ _ J (i.extBut _ _ t x))) ⟨G,j.extBut _ _ F H,I⟩
 ·refine aa (u.item _ k _ _ _ l1 (u.but L i.extBut f) λx d uM px CC B=>aj ?_);have R:=B.extBut _ _ (bC (X _ C)) (i.extBut _ _ D.a2 V);refine aa (dF R rfl (aa (jg R λy V8 j=>?_)));refine aa (gf (aj (aa (aa (iW ?_)))));show ao _ _ (cM (.ref i2) >>= _) _ _ _;refine aa (v.done _ k _ _ _ K l (v.but (v.but (v.but W i.extBut m) B.extBut Z) j.extBut Y) λhd e p r=>?_);have S:=p _ _ (bC (m _ m2)) (j.extBut _ _ (bC D.a2) (B.extBut _ _ (bC (f _ C)) N));have F:=n S r;obtain⟨G,H,I⟩:=r;exact bK S 'k' λhf _ T=>M hf _ e (λc o t q2 J q4 x=>T.extBut _ _ t (p _ _ q4 (j.extBut _ _ q2 (B.extBut _ _ J (i.extBut _ _ t x))))) ⟨G,T.extBut _ _ F H,I⟩
def zgH{Q:Option ae->ah->Prop}(f:o8 P w i1 t_ n1 P1 S1)(g:o8 P w i2 tW n2 P2 S2)(D:Hq z ti to i1 i2 t_ tW)(d:j6 s.heap z ti to .none)(h:fK s.heap ti (.ref i1) (.ref i2))(i:fK s.heap to a b)(j:S1 k s.heap)(l:S2 k s.heap)(m:k<n1)(n:k<n2)
  (p:∀x y h' tk,P1 k x->P2 k y->j6 h' z ti to (bN s.heap.objs.size)->fK h' to x y->S1 (k+1) h'->S2 (k+1) h'->fK h' s.heap.objs.size x y->
   (∀c o,c≠z->c≠to->c≠i1->c≠i2->s.heap.get? c=YP o->h'.get? c=YP o)->Q (YP (.ref s.heap.objs.size)) { s with heap:=h',toks:=tk }):ao (au P w) A (pyNext (.ref z)) Q E s:=by have e:s.TypeIs (.ref z) "zip":=⟨_,d,rfl⟩;exact aa (fB (cx e jh (bU jh e nB (zh9 f g D d h i j l m n λx y h' tk q r t u v B C F=>aj (p x y h' tk q r t u v B C F)) (mW _))))
def Y6(g:A.handled=JL)(h:o8 P w i1 t_ n1 P1 S1)(i:o8 P w i2 tW n2 P2 S2)(D:Hq z ti to i1 i2 t_ tW)(d:j6 s.heap z ti to .none)(j:fK s.heap ti (.ref i1) (.ref i2))(l:fK s.heap to a b)(m:S1 k s.heap)(n:S2 k s.heap)(p:n1<=k\/(k<n1/\n2<=k))
  (q:∀h' tk,(∀c o,c≠z->c≠to->c≠i1->c≠i2->s.heap.get? c=YP o->h'.get? c=YP o)->Q JL { s with heap:=h',toks:=tk }):ao (au P w) A (pyNext (.ref z)) Q E s:=by have f:s.TypeIs (.ref z) "zip":=⟨_,d,rfl⟩;refine aa (fB (cx f jh (bU jh f nB (zik g h i D d j l m n p λh' tk e r t=>?_) (mW _))));obtain⟨u,v,x⟩:=t;exact aa (i5 ⟨u,v,x⟩ lf (aj (q _ tk r)))
end
inductive ZK where
 |tup (t:af) (items:Array ae)
 |str (x:aq) (t:Tok)
 |lst (l:af) (items:Array ae)
def ZK.val:ZK->ae
 |.tup t _=>.ref t
 |.str x t=>.str x t
 |.lst l _=>.ref l
noncomputable def ZK.obj:ZK->Obj
 |.tup t _=>{ cls:=.type "tuple_iterator",data:=.fields #[.ref t,.int 0 0] }
 |.str x t=>{ cls:=.type "str_ascii_iterator",data:=.fields #[.str x t,.int 0 0] }
 |.lst l _=>{ cls:=.type "list_iterator",data:=.fields #[.ref l,.int 0 0] }
def ZK.pre(h:aS):ZK->Prop
 |.tup t items=>h.IsTuple t items
 |.str x _=>x.cps.all (· < 128)=JQ
 |.lst l items=>h.IsList l items
def ZK.keep(k:∀b o,h.get? b=YP o->h'.get? b=YP o):∀(q:ZK),q.pre h->q.pre h'
 |.tup t items,⟨o,e,r⟩=>⟨o,k _ _ e,r⟩
 |.str x t,e=>e
 |.lst l items,⟨o,e,r⟩=>⟨o,k _ _ e,r⟩
def ZK.iter(q:ZK)(h:q.pre s.heap)(a:Q (.ref s.heap.objs.size) { s with heap:=s.heap.push q.obj }):ao (au P w) A (pyIter q.val) Q E s:=by
 cases q with
 |tup t items=>exact f7 h a
 |str x t=>exact wpAny_pyIter_ascii h a
 |lst l items=>exact fH h a
abbrev zH(h:aS)(a b:ZK):aS:=(((((h.push a.obj).push b.obj).push { cls:=.type "tuple",data:=.seq #[.ref h.objs.size,.ref (h.push a.obj).objs.size] }).push { cls:=.type "tuple",data:=.seq #[.none,.none] }).push
 { cls:=.type "zip",data:=.fields #[.none,.bool JU,.bool JU,.ref ((h.push a.obj).push b.obj).objs.size,.ref (((h.push a.obj).push b.obj).push { cls:=.type "tuple",data:=.seq #[.ref h.objs.size,.ref (h.push a.obj).objs.size] }).objs.size] })
abbrev zA(h:aS)(a b:ZK):af:=((((h.push a.obj).push b.obj).push { cls:=.type "tuple",data:=.seq #[.ref h.objs.size,.ref (h.push a.obj).objs.size] }).push { cls:=.type "tuple",data:=.seq #[.none,.none] }).objs.size
def zhc(a b:ZK)(k l:ae)(n:a.val=k)(p:b.val=l):Meets (d9.«zip.__new__» ⟨[.type "zip",k,l],[]⟩) (λ_ R s=>a.pre s.heap/\b.pre s.heap/\R (.ok (.ret (.ref (zA s.heap a b)))) { s with heap:=zH s.heap a b }):=
 .of_wp λP w A R s h=>by
  obtain⟨f,g,d,i,j⟩:=s;obtain⟨q,r,h⟩:=h;have v:=sub_zip;have t:∀{E:ae->ah->Prop}{Q:ae->ah->Prop},Q (.ref f.objs.size) ⟨f.push a.obj,g,d,i,j⟩->ao (au P w) A.in1 (pyIter k) Q E ⟨f,g,d,i,j⟩:=λ{E Q}hq=>by rw[<- n];exact a.iter (s:=⟨f,g,d,i,j⟩) q hq
  have m:b.pre (f.push a.obj):=b.keep (λc o e=>ag _ e) r;have u:∀{E:ae->ah->Prop}{Q:ae->ah->Prop},Q (.ref (f.push a.obj).objs.size) ⟨(f.push a.obj).push b.obj,g,d,i,j⟩->ao (au P w) A.in1 (pyIter l) Q E ⟨f.push a.obj,g,d,i,j⟩:=λ{E Q}hq=>by rw[<- p];exact b.iter (s:=⟨f.push a.obj,g,d,i,j⟩) m hq
  wp_walk using t,u
  exact⟨_,rfl,h⟩
section
variable{P:aK}{w:aT}{A:aU}{E:ae->ah->Prop}{s:ah}
def zbX(a b:ZK)(n:a.pre s.heap)(p:b.pre s.heap)
  (h:∀h',j6 h' (s.heap.objs.size+4) (s.heap.objs.size+2) (s.heap.objs.size+3) .none->fK h' (s.heap.objs.size+2) (.ref s.heap.objs.size) (.ref (s.heap.objs.size+1))->fK h' (s.heap.objs.size+3) .none .none->
   h'.get? s.heap.objs.size=YP a.obj->h'.get? (s.heap.objs.size+1)=YP b.obj->(∀c o,s.heap.get? c=YP o->h'.get? c=YP o)->Q (.ref (s.heap.objs.size+4)) { s with heap:=h' }):
  ao (au P w) A (call (.type "zip") [a.val,b.val]) Q E s:=by
 refine callType_new F.called_zip 'u' (F.typeCall_zip_2 _ _) (F.newCall_zip_2 _ _) (λd=>F.args_object_init_3 d _ _) F.entry_zip_new (zhc a b _ _ rfl rfl) ⟨n,p,?_⟩;have q:a.obj.isFreed=JU:=by cases a<;>rfl
 have r:b.obj.isFreed=JU:=by cases b<;>rfl
 have e:(s.heap.push a.obj).objs.size=s.heap.objs.size+1:=cr ..;have f:((s.heap.push a.obj).push b.obj).objs.size=s.heap.objs.size+2:=by rw[cr,e]
 have g:(((s.heap.push a.obj).push b.obj).push { cls:=.type "tuple",data:=.seq #[.ref s.heap.objs.size,.ref (s.heap.push a.obj).objs.size] }).objs.size=s.heap.objs.size+3:=by rw[cr,f]
 have j:zA s.heap a b=s.heap.objs.size+4:=by show Array.size _=_;rw[cr,g]
 have i:(zH s.heap a b).get? (zA s.heap a b)=YP _:=aE _ rfl;have k:(zH s.heap a b).get? (((s.heap.push a.obj).push b.obj).push { cls:=.type "tuple",data:=.seq #[.ref s.heap.objs.size,.ref (s.heap.push a.obj).objs.size] }).objs.size=YP _:=ag _ (aE _ rfl);have l:(zH s.heap a b).get? ((s.heap.push a.obj).push b.obj).objs.size=YP _:=ag _ (ag _ (aE _ rfl));have m:(zH s.heap a b).get? (s.heap.push a.obj).objs.size=YP _:=ag _ (ag _ (ag _ (aE _ r)));have t:(zH s.heap a b).get? s.heap.objs.size=YP _:=ag _ (ag _ (ag _ (ag _ (aE _ q))));rw[f,g,j] at i;rw[g] at k;rw[e,f] at l;rw[e] at m;rw[j];exact⟨⟨_,i,rfl⟩,h _ i l k t m λc o x=>ag _ (ag _ (ag _ (ag _ (ag _ x))))⟩
end
def Held(X:Cx)(H:Hp)(h:aS)(b:af):Prop:=H b≠JL \/ ∃o,X.base.get? b=YP o
def Held.far{X:Cx}{a:List (af×Obj)}{σ:St}{H:Hp}{s:ah}{b q:af}(I:L2.Inv X a σ H s)(x:Held X H s.heap b)(f:tj X a H q):b≠q:=by
 rintro rfl;rcases x with x|⟨o,e⟩
 ·exact x f.1
 ·rcases f.2.2.2.1 with z|z
  ·exact I.ok.noex b o e z
  ·exact absurd (ba (aJ e) I.ok.bsz) (j4.mpr z)
structure EM(P:aK)(w:aT)(K:ak)(J:It)(ia:af)(S:Nat->aS->Prop):Prop where
 obj:∀i h,S i h->∃o,h.get? ia=YP o/\∀v,o.data ≠ .cell v
 keep:∀i h h',S i h->(∀o,h.get? ia=YP o->h'.get? ia=YP o)->S i h'
 got:∀(X:Cx),X.prog=P->X.w=w->X.K=K->∀(i:Nat)(Xq:List (af×Obj))(s:ah)(σ:St)(H:Hp),L2.Inv X Xq σ H s->tj X Xq H ia->S i s.heap->(J.go i H\/J.stop i H)->
  ∃fp n Pv Sx,o8 P w ia fp n Pv Sx/\Sx i s.heap/\(∀j h,Sx j h->S j h)/\(J.go i H->i<n)/\(J.stop i H->n<=i)/\(∀v,Pv i v->∃x,RelV x v/\J.yld i H x H)/\∀b∈fp,Held X H s.heap b
section
variable{P:aK}{w:aT}{K:ak}
def RC{X:Cx}{b:List (af×Obj)}{σ:St}{H:Hp}{s:ah}{a:af}{xs:List V}(I:L2.Inv X b σ H s)(h:rZ X.K H a xs):Held X H s.heap a:=by
 rcases h with h|⟨o,d,n,c,_⟩
 ·exact .inl (by rcases h with h|⟨_,h⟩<;>(rw[h];simp))
 ·exact .inr ⟨o,I.ok.mod.kin a o c⟩
def Ux{xs:List V}{a:List ae}{i:Nat}{v:ae}(r:oO xs a)(e:a[i]?=YP v):∃x,xs[i]?=YP x/\RelV x v:=by
 have f:=r.length;have b:i<xs.length:=by have:=(am.mp e).1;lia
 obtain⟨u,c,d⟩:=r.get (aw b);rw[e] at c;cases c;exact⟨_,aw b,d⟩
def Ru(a l:af):EM P w K (OS K a) l (λi h=>h.IsTupleIter l a i) where
 obj:=λi h ⟨o,e,c,d⟩=>⟨o,e,λv z=>by rw[d] at z;cases z⟩
 keep:=λi h R ⟨o,e,c,d⟩ k=>⟨o,k o e,c,d⟩
 got:=by
  intro X B C D i q s S H I E F G;subst B C D;have J:∃g,rZ X.K H a g:=by
   rcases G with⟨g,x,h,_⟩|⟨g,h,_⟩<;>exact⟨g,h⟩
  obtain⟨g,f⟩:=J;obtain⟨r,t,p,T⟩:=I.tuple f;have U:=t.length;refine⟨[a],_,_,_,zbb l a r.toArray ((RC I f).far I E),⟨F,p⟩,λj h z=>z.1,λ⟨u,y,m,A⟩=>?_,λ⟨u,m,A⟩=>?_,λv L=>?_,λb M=>?_⟩
  ·have e:=I.tuple_inj m f;subst e;have:=(am.mp A).1;simp;lia
  ·have e:=I.tuple_inj m f;subst e;simp;lia
  ·have n:r[i]?=YP v:=⇑L
   obtain⟨x,N,O⟩:=Ux t n;exact⟨x,O,rfl,λu Q=>by rw[I.tuple_inj Q f];exact N⟩
  ·have:b=a:=⇑M
   subst this;exact RC I f
end
def Xm(J1 J2:It):It:=
 ⟨λi H=>J1.go i H/\J2.go i H,λi H v H'=>∃p x y,H p=JL/\v=.ref p/\J1.yld i H x H/\J2.yld i H y H/\H'=upd H p (.tup [x,y]),λi H=>J1.stop i H/\(J2.go i H\/J2.stop i H)\/J1.go i H/\J2.stop i H⟩
def X3(z t o i j:af)(S1 S2:Nat->aS->Prop)(n:Nat)(h:aS):Prop:=j6 h z t o .none/\fK h t (.ref i) (.ref j)/\(∃a b,fK h o a b)/\S1 n h/\S2 n h
def zc3(z t o i j:af)(ap:[z,t,o,i,j].Nodup)(W:EM P w K J1 i S1)(Y:EM P w K J2 j S2):yv P w K (.Tuple es kt pt) (Xm J1 J2) [z,t,o,i,j] z (X3 z t o i j S1 S2):=by
 simp only[bB,ar,bL,or_false,not_or,iy,and_true] at ap;obtain⟨⟨a1,a2,a3,a4⟩,⟨b1,b2,b3⟩,⟨c1,c2⟩,d1,_⟩:=ap;have SS:∀{X:Cx}{d:List (af×Obj)}{s:ah}{C:St}{H:Hp}{Z tW:List af},L2.Inv X d C H s->(∀b∈[z,t,o,i,j],tj X d H b)->(∀b∈Z,Held X H s.heap b)->(∀b∈tW,Held X H s.heap b)->Hq z t o i j Z tW:=λ{X d s C H Z tW}I r h1 h2=>
  ⟨bC a1,bC a2,b1,λb f=>(ar.mp f).elim (λe=>by rw[e];exact⟨bC a3,bC c1⟩) λf=>⟨(h1 b f).far I (r z 'k'),(h1 b f).far I (r o 'k')⟩,
   λb f=>(ar.mp f).elim (λe=>by rw[e];exact⟨bC a4,bC c2⟩) λf=>⟨(h2 b f).far I (r z 'k'),(h2 b f).far I (r o 'k')⟩,
   λf=>(ar.mp f).elim d1 λf=>(h2 i f).far I (r i 'k') rfl,λf=>(ar.mp f).elim (bC d1) λf=>(h1 j f).far I (r j 'k') rfl,b2,b3⟩
 refine⟨by simp,λn h F b f=>?_,λn h h' F k=>?_,?_,?_,λA n s Q E F q=>wpAny_pyIter_zip F.1 q⟩
 ·obtain⟨J,G,⟨a,b',L⟩,M,N⟩:=F;simp only[ar,bL,or_false] at f;rcases f with rfl|rfl|rfl|rfl|rfl
  ·exact⟨_,J,λv e=>by cases e⟩
  ·exact⟨_,G,λv e=>by cases e⟩
  ·exact⟨_,L,λv e=>by cases e⟩
  ·exact W.obj n h M
  ·exact Y.obj n h N
 ·obtain⟨J,G,⟨a,b',L⟩,M,N⟩:=F;exact⟨k z 'k' _ J,k t 'k' _ G,⟨a,b',k o 'k' _ L⟩,W.keep n h h' M (k i 'k'),Y.keep n h h' N (k j 'k')⟩
 ·intro X O R S l n d s C H E I r F hg;obtain⟨g1,g2⟩:=hg;obtain⟨J,G,⟨a,b,L⟩,M,N⟩:=F;obtain⟨Z,n1,P1,T1,Z1,s1,u1,EF,qU,y1,f1⟩:=W.got X O R S n d s C H I (r i 'k') M (.inl g1);obtain⟨tW,n2,P2,T2,Z2,s2,u2,W0,qD,y2,f2⟩:=Y.got X O R S n d s C H I (r j 'k') N (.inl g2);have D:=SS I r f1 f2;subst O R S;refine wT I (zgH Z1 Z2 D J G L s1 s2 (EF g1) (W0 g2) λx y h' tk px py q1 q2 q3 q4 q5 hk qv=>⟨_,rfl,?_⟩);obtain⟨vx,rx,yx⟩:=y1 x px;obtain⟨vy,ry,yy⟩:=y2 y py;refine wpAny_letOwnedTupleGo_zip q1 λT e1 U=>?_;have nb:∀q∈[z,t,o,i,j],s.heap.objs.size≠q:=λq hq e=>by
   have:∃m,s.heap.get? q=YP m:=by
    simp only[ar,bL,or_false] at hq;rcases hq with rfl|rfl|rfl|rfl|rfl
    ·exact⟨_,J⟩
    ·exact⟨_,G⟩
    ·exact⟨_,L⟩
    ·obtain⟨m,g,_⟩:=W.obj n _ M;exact⟨_,g⟩
    ·obtain⟨m,g,_⟩:=Y.obj n _ N;exact⟨_,g⟩
   obtain⟨m,g⟩:=this;exact absurd (aJ g) (by rw[e];exact bP _)
  have B:∀c m,c∉[z,t,o,i,j]->s.heap.get? c=YP m->T.get? c=YP m:=λc m l e=>by
   simp only[ar,bL,or_false,not_or] at l;exact U.extBut _ _ l.1 (hk c m l.1 l.2.2.1 l.2.2.2.1 l.2.2.2.2 e)
  have I1:L2.Inv X d C H { s with heap:=T,toks:=tk }:=Inv.turns [z,t,o,i,j] I B r;have zt:T.get? s.heap.objs.size=YP { cls:=.type "tuple",data:=.seq #[x,y] }:=U.extBut _ _ (nb z 'k') q5;have V:H s.heap.objs.size=JL:=I.hok.fresh (ay _);have I2:L2.Inv X d C (upd H s.heap.objs.size (.tup [vx,vy])) { s with heap:=T,toks:=tk }:=by
   have un:Un (rP X.stack) [z,t,o,i,j] H (upd H s.heap.objs.size (.tup [vx,vy])) s.heap T:=by
    refine⟨λc m e _ _ l=>B c m l e,λc m e _ _ l=>⟨m.slots,B c m l e⟩,λc m e hn _=>?_,λc m e l=>⟨m,B c m l e⟩,λc zs e=>?_,λc m u e=>?_,λc ps e=>⟨#[],?_⟩⟩
    ·rw[qe (bb (aJ e))];exact hn
    ·rw[qe (sO e V)];exact e
    ·rw[qe (sO e V)];exact e
    ·rw[qe (sO e V),e];simp
   have hok:HOk X.prog X.w (upd H s.heap.objs.size (.tup [vx,vy])) T:=by
    intro c u' e;by_cases l:c=s.heap.objs.size
    ·subst l;rw[rS] at e;cases e;exact⟨by show 2<=J3;decide,[x,y],.cons rx (.cons ry .nil),⟨_,zt,rfl,⟨_,rfl⟩,rfl⟩⟩
    ·rw[qe l] at e;refine(I1.hok c u' e).stay (λ_ _ _ q=>q) (λp q=>?_) λp zs q=>?_
     ·by_cases hp:p=s.heap.objs.size
      ·subst hp;rw[V] at q;cases q
      ·rw[qe hp];exact q
     ·by_cases hp:p=s.heap.objs.size
      ·subst hp;rw[V] at q;cases q
      ·rw[qe hp];exact q
   exact I.call (t':=tk) (d':=s.drawn) un hok I.bare λb f=>let ⟨_,f1,_,f3,f4,f5⟩:=r b f;⟨f3,f1,f4,f5⟩
  refine⟨.ref s.heap.objs.size,_,I2,rfl,⟨_,vx,vy,V,rfl,yx,yy,rfl⟩,⟨e1,?_,⟨_,_,U.extBut _ _ D.a2 q2⟩,?_,?_⟩,λb f=>?_⟩
  ·exact U.extBut _ _ D.a1 (hk _ _ D.a1 D.a3 D.d1 D.d2 G)
  ·exact u1 _ _ (Z1.but q3 U.extBut λb f=>(D.b1 b f).1)
  ·exact u2 _ _ (Z2.but q4 U.extBut λb f=>(D.b2 b f).1)
  ·rw[qe (bC (nb b f))];exact(r b f).1
 ·intro X O R S l n d s C H E I r F hg;obtain⟨J,G,⟨a,b,L⟩,M,N⟩:=F;have k1:J1.go n H\/J1.stop n H:=hg.elim (λz=>.inr z.1) λz=>.inl z.1;have k2:J2.go n H\/J2.stop n H:=hg.elim (λz=>z.2) λz=>.inr z.2;obtain⟨Z,n1,P1,T1,Z1,s1,u1,EF,qU,y1,f1⟩:=W.got X O R S n d s C H I (r i 'k') M k1;obtain⟨tW,n2,P2,T2,Z2,s2,u2,W0,qD,y2,f2⟩:=Y.got X O R S n d s C H I (r j 'k') N k2;have D:=SS I r f1 f2;subst O R S;refine wT I (Y6 (I.ok.hd l) Z1 Z2 D J G L s1 s2 (hg.elim (λq=>.inl (qU q.1)) λq=>.inr ⟨EF q.1,qD q.2⟩) λh' tk hk qv=>⟨rfl,?_⟩);refine Inv.turns (t':=tk) [z,t,o,i,j] I (λc m l e=>?_) r;simp only[ar,bL,or_false,not_or] at l;exact hk c m l.1 l.2.2.1 l.2.2.2.1 l.2.2.2.2 e
noncomputable def EL:D->Option Src
 |.tup ds=>YP (.val ds)
 |_=>JL
def E3(t:DA):DI:=λσ O=>(t σ O).bnd λxs O1=>match xs with
 | [x,y]=>match EL x,EL y with
  |some p,YP q=>.ok (.zip p q) O1
  |_,_=>.bad
 |_=>.bad
def oU.zipW(n:oU K J1 s1 H Xf μ)(o:oU K J2 s2 H Xf μ):oU K (Xm J1 J2) (.zip s1 s2) H Xf μ:=by
 intro b h k e m c i;have f:=n b h k e m c i;have a:=o b h k e m c i;show match (match s1.get e i,s2.get e i with|some x,YP y=>YP (D.tup [x,y])|_,_=>JL) with|some d=>_|none=>_
 cases l:s1.get e i with
 | none=>
  rw[l] at f;refine .inl ⟨f,?_⟩;cases g:s2.get e i with
  |none=>rw[g] at a;exact .inr a
  |some d=>rw[g] at a;exact .inl a.1
 | some d1=>
  rw[l] at f;cases g:s2.get e i with
  |none=>rw[g] at a;exact .inr ⟨f.1,a⟩
  | some d2=>
   rw[g] at a;refine⟨⟨f.1,a.1⟩,λv t q=>?_⟩;obtain⟨p,x,y,j,rfl,r,s,rfl⟩:=q;exact⟨.laid j,c.laid j,XV.newT c j (.cons (f.2 x h r).2.2 (.cons (a.2 y h s).2.2 .nil))⟩
section
variable{X:Cx}{Ex:Nat->Hp->Prop}{pos:Pos}{a b c e:aR}{Xq:List (af×Obj)}{b_:St}{H:Hp}{s:ah}{Xf μ:List af}{O:Ow}
def Qi(I:L2.Inv X Xq b_ H s)(c:oK X.K H Xf μ O)(h:XV X.K H Xf μ d v)(r:RelV v u)(e:EL d=YP src):
  ∃(k:ZK)(J:It),k.val=u/\k.pre s.heap/\oU X.K J src H Xf μ/\∀f,∃S,EM X.prog X.w X.K J f S/\∀h:aS,h.get? f=YP k.obj->S 0 h:=by
 cases d with
 | tup ds=>
  unfold XV at h;obtain⟨q,j,rfl,l,g⟩:=h;cases e;cases r;obtain⟨i,_,p,_⟩:=I.tuple l.sq;exact⟨.tup q i.toArray,_,rfl,p,.tup l g,λf=>⟨_,Ru q f,λh z=>⟨_,z,rfl,rfl⟩⟩⟩
 |_=>cases e
def zeK(C:Gl X "zip")(D:X.mg "zip" = JL)(E:tM X Ex [a,b] t)(F:aF [a,b] X.env=[(JU,eval a X.env),(JU,eval b X.env)]:=by rfl)(r:aF [b] X.env=[(JU,eval b X.env)]:=by rfl):
  ui X Ex (.Tuple uT kt pt) (.Call (.Name "zip" p) [a,b] [] pos) (E3 t):=by
 refine⟨?_⟩;rintro Xq s b_ H G I ⟨Xf,μ,σ,O,m,L,q⟩;refine lu (Ce I C D zdR (fg (pZ (E.out pos Xq s b_ H _ I (uO.go m L q (Q1:=λo g=>∃Xf h i j,oK X.K g Xf h i/\oM X.K g Xf h j o/\
   post Ex X.K (λH' M s J=>oU X.K J s H' Xf M) g Xf h (match j with|[x,y]=>(match EL x,EL y with|some p,YP q=>.ok (.zip p q) i|_,_=>.bad)|_=>.bad) G)
  λj i o g h u x k d p=>⟨Xf,h,i,j,k,d,p⟩)) λus f ⟨o,g,l,N,Xf,h,i,j,k,d,p⟩=>?_) (by rw[F,r]) (by rw[r];rfl)))
 split at p
 ·rename_i x y;split at p
  ·rename_i sp sq m u;obtain⟨v,w,rfl,P,Q⟩:=EX d;obtain⟨u1,u2,rfl,R,S⟩:=B7 N;obtain⟨T,J1,U,V,W,Y⟩:=Qi l k P R m;obtain⟨Z,J2,v2,p2,t2,i2⟩:=Qi l k Q S u;rw[<- U,<- v2];refine zbX T Z V p2 λh' z g3 g4 g1 g2 hk=>?_;refine wpAny_pyIter_zip z ?_;have I2:L2.Inv X Xq b_ g { f with heap:=h',toks:=f.toks }:=l.kept hk;obtain⟨S1,N1,z1⟩:=Y f.heap.objs.size;obtain⟨S2,N2,z2⟩:=i2 (f.heap.objs.size+1);refine⟨f.heap.objs.size+4,[f.heap.objs.size+4,f.heap.objs.size+2,f.heap.objs.size+3,f.heap.objs.size,f.heap.objs.size+1],_,_,g,rfl,I2,zc3 _ _ _ _ _ ?_ N1 N2,⟨z,g3,⟨_,_,g4⟩,z1 _ g1,z2 _ g2⟩,λb A=>?_,post.here p k (.zipW W t2)⟩
   ·have nn:∀(n:af),[n+4,n+2,n+3,n,n+1].Nodup:=λn=>by
     simp only[bB,ar,bL,or_false,not_or,iy,and_true];refine⟨⟨?_,?_,?_,?_⟩,⟨?_,?_,?_⟩,⟨?_,?_⟩,?_,not_false⟩<;>simp[af] at * <;> lia
    exact nn _
   ·have B:f.heap.objs.size<=b:=by
     simp only[ar,bL,or_false] at A;rcases A with rfl|rfl|rfl|rfl|rfl<;>lia
    exact l.fpOk (H':=g) B (l.hok.fresh B)
  ·exact ai p
 ·exact ai p
end
end DL
namespace DL
open PySem L2
open AutoSeq1 (wpAny_loadPart')
set_option maxHeartbeats 1000000 in
def zc8(b:af)(a:Array ae)(i:Nat)(e:Option af)(sl:Array (Option ae)):
  Meets (d9.«enumerate.__new__» ⟨[.type "enumerate",.ref b],[]⟩) (λ_ R s=>s.heap.get? b=YP { cls:=.type "tuple",dict:=e,data:=.seq a i,slots:=sl }/\
   R (.ok (.ret (.ref (s.heap.push (ZK.tup b a).obj).objs.size))) { s with heap:=(s.heap.push (ZK.tup b a).obj).push { cls:=.type "enumerate",data:=.fields #[.none,.bool JU,.ref s.heap.objs.size,bN 0,.none,.none] } }):=
 .of_wp λP w A R s h=>by
  obtain⟨j,g,d,k,l⟩:=s;obtain⟨c,h⟩:=h;have n:=sub_enumerate;have f:Heap.IsTuple (oJ ⟨j,g,d,k,l⟩) b a:=⟨_,c,rfl,i,rfl⟩
  wp_walk using wpAny_loadPart' c
  refine wpAny_stack_any λo=>aj (?_);split
  ·rename_i m _ _ _ _ _;cases (m==eE "enumerate")
   ·wp_walk using wpAny_loadPart' c,f7 f
    exact⟨_,rfl,h⟩
   ·wp_walk using wpAny_loadPart' c,f7 f
    exact⟨_,rfl,h⟩
  ·wp_walk using wpAny_loadPart' c,f7 f
   exact⟨_,rfl,h⟩
section
variable{P:aK}{w:aT}{A:aU}{E:ae->ah->Prop}{s:ah}
def zaz(j:s.heap.IsTuple tt items)
  (h:∀h',im h' (s.heap.objs.size+1) s.heap.objs.size 0 .none->h'.get? s.heap.objs.size=YP (ZK.tup tt items).obj->(∀b o,s.heap.get? b=YP o->h'.get? b=YP o)->Q (.ref (s.heap.objs.size+1)) { s with heap:=h' }):
  ao (au P w) A (call (.type "enumerate") [.ref tt]) Q E s:=by
 obtain⟨⟨k,a,l,m⟩,n,c,f,d⟩:=j;have c:k=.type "tuple":=c;have d:l=.seq items f:=d;subst c;subst d;refine callType_new F.called_enumerate 'u' (F.typeCall_enumerate_1 _) (F.newCall_enumerate_1 _) (λe=>F.args_object_init_2 e _) F.entry_enumerate_new (zc8 tt items f a m) ⟨n,?_⟩;have g:(s.heap.push (ZK.tup tt items).obj).objs.size=s.heap.objs.size+1:=cr ..;show _/\_;rw[g];have i:im ((s.heap.push (ZK.tup tt items).obj).push { cls:=.type "enumerate",data:=.fields #[.none,.bool JU,.ref s.heap.objs.size,bN 0,.none,.none] }) (s.heap.objs.size+1) s.heap.objs.size 0 .none:=by
  have q:=aE (s.heap.push (ZK.tup tt items).obj) (o:={ cls:=.type "enumerate",data:=.fields #[.none,.bool JU,.ref s.heap.objs.size,bN 0,.none,.none] }) rfl;rw[g] at q;exact q
 exact⟨⟨_,i,rfl⟩,h _ i (ag _ (aE _ rfl)) λb o x=>ag _ (ag _ x)⟩
variable{ea ia:af}{fp:List af}{n k:Nat}{Pv:Nat->ae->Prop}{Sx:Nat->aS->Prop}{old:ae}
def zeF(J:o8 P w ia fp n Pv Sx)(u:im s.heap ea ia (k:Nat) old)(X:Sx k s.heap)(Y:k<n)(j:∀b∈ia::fp,b≠ea)
  (Z:∀x h' tk ti,Pv k x->IsEnumOut h' ea ia ((k:Int)+1) x s.heap.objs.size->Sx (k+1) h'->h'.get? s.heap.objs.size=YP { cls:=.type "tuple",data:=.seq #[.int (k:Nat) ti,x] }->(∀b o,b≠ea->b≠ia->s.heap.get? b=YP o->h'.get? b=YP o)->Q (YP (.ref s.heap.objs.size)) { s with heap:=h',toks:=tk }):
  ao (au P w) A (pyNext (.ref ea)) Q E s:=by
 have S:s.TypeIs (.ref ea) "enumerate":=⟨_,u,rfl⟩;have C:ea≠ia:=bC (j ia av);unfold pyNext;refine aa (fB (cx (name := "__next__") S fw (bU fw S kP ?_ (kA _))));obtain⟨e,g,d,tk,f⟩:=s;show ao _ _ (field (.ref ea) 2 >>= _) _ _ _;refine aa (bA u rfl (x:=.ref ia) rfl (aa (J.item _ k _ _ _ Y X λx h a px D l=>?_)));have l:de ia e h:=l;have F:im h ea ia (k:Nat) old:=(l.2 ea C).trans u;show ao _ _ (field (.ref ea) 3 >>= _) _ _ ⟨h,g,d,a,f⟩;refine aa (bA F rfl (x:=bN (k:Nat)) rfl ?_);show ao _ _ (field (.ref ea) 4 >>= _) _ _ ⟨h,g,d,a,f⟩;refine aa (bA F rfl (x:=(.none)) rfl ?_);show ao _ _ (mkInt (k:Nat) >>= _) _ _ ⟨h,g,d,a,f⟩;refine aa (wpAny_mkInt ?_);show ao _ _ (setField (.ref ea) 3 (bN ((k:Int)+1)) >>= _) _ _ ⟨h,g,d,a+1,f⟩;refine aa (bK F 'k' λv G m=>?_);have m:de ea h v:=m;have G:im v ea ia ((k:Int)+1) old:=G;show ao _ _ (setField (.ref ea) 4 .none >>= _) _ _ ⟨v,g,d,a+1,f⟩;refine aa (bK G 'k' λc H p=>?_);have p:de ea v c:=p;have H:im c ea ia ((k:Int)+1) old:=H;show ao _ _ (newTuple [.int (k:Nat) a,x] >>= _) _ _ ⟨c,g,d,a+1,f⟩;refine aa (iw ?_);have y:im (c.push { cls:=.type "tuple",data:=.seq #[.int (k:Nat) a,x] }) ea ia ((k:Int)+1) old:=ag _ H;have T:c.objs.size=e.objs.size:=by rw[p.1,m.1,l.1]
 have I:ea<e.objs.size:=aJ u;have U:(c.push { cls:=.type "tuple",data:=.seq #[.int (k:Nat) a,x] }).get? e.objs.size=YP { cls:=.type "tuple",data:=.seq #[.int (k:Nat) a,x] }:=by rw[<- T];exact aE _ rfl
 have V:∀b o,b≠ea->b≠ia->e.get? b=YP o->(c.push { cls:=.type "tuple",data:=.seq #[.int (k:Nat) a,x] }).get? b=YP o:=λb o i K z=>ag _ (p.extBut b o i (m.extBut b o i (l.extBut b o K z)));have W:Sx (k+1) (c.push { cls:=.type "tuple",data:=.seq #[.int (k:Nat) a,x] }):=J.stab _ _ _ (J.but (J.but D m.extBut j) p.extBut j) λb _ o z=>ag _ z;generalize c.push { cls:=.type "tuple",data:=.seq #[.int (k:Nat) a,x] } = h4 at y U V W;show ao _ _ (eu (.ref ea) >>= _) _ _ ⟨h4,g,d,a+1,f⟩;rw[T];refine aa ?_;unfold eu;refine aa (bA y rfl (x:=(.none)) rfl (aj ?_));simp only[if_true];refine aa (dP (aa (bA y rfl (x:=old) rfl (aa (bK y 'k' λB L q=>?_)))));have q:de ea h4 B:=q;have L:im B ea ia ((k:Int)+1) x:=L;show ao _ _ (fj (.ref ea) (.ref e.objs.size) >>= _) _ _ ⟨B,g,d,a+1,f⟩;refine aa ?_;unfold fj;refine aa (bK L 'k' λM N r=>?_);have r:de ea B M:=r;have N:IsEnumOut M ea ia ((k:Int)+1) x e.objs.size:=N;refine bK N 'k' λO R t=>?_;have t:de ea M O:=t;have R:IsEnumOut O ea ia ((k:Int)+1) x e.objs.size:=R;refine aa (gf (aj ⟨_,rfl,aj (Z x O _ a px R (J.but (J.but (J.but W q.extBut j) r.extBut j) t.extBut j) ?_ λb o i K z=>t.extBut b o i (r.extBut b o i (q.extBut b o i (V b o i K z))))⟩));exact t.extBut _ _ (dB I) (r.extBut _ _ (dB I) (q.extBut _ _ (dB I) U))
def zhv(d:A.handled=JL)(J:o8 P w ia fp n Pv Sx)(a:im s.heap ea ia (k:Nat) old)(f:Sx k s.heap)(g:n<=k)(h:∀h',jA ia s.heap h'->Q JL { s with heap:=h' }):ao (au P w) A (pyNext (.ref ea)) Q E s:=by have c:s.TypeIs (.ref ea) "enumerate":=⟨_,a,rfl⟩;unfold pyNext;refine aa (fB (cx (name := "__next__") c fw (bU fw c kP ?_ (kA _))));show ao _ _ (field (.ref ea) 2 >>= _) _ _ _;refine aa (bA a rfl (x:=.ref ia) rfl (aa (J.done _ k _ _ _ d g f λh' e i j=>?_)));obtain⟨l,m,o⟩:=j;exact aa (i5 (T := "StopIteration") (b:=JQ) ⟨l,m,o⟩ lf (aj (h _ i)))
end
end DL
namespace DL
open PySem L2
def Xo(J:It):It:=⟨J.go,λi H v H'=>∃p x,H p=JL/\v=.ref p/\J.yld i H x H/\H'=upd H p (.tup [.int (i:Nat),x]),J.stop⟩
def XB(ea ia:af)(S:Nat->aS->Prop)(n:Nat)(h:aS):Prop:=(∃old,im h ea ia (n:Nat) old)/\S n h
def zbW(f i:af)(ap:f≠i)(N:EM P w K J i S)(Gq:∀(A:aU)(n:Nat)(s:ah)(Q E:ae->ah->Prop),(∃o,im s.heap f i (n:Nat) o)->Q (.ref f) s->ao (au P w) A (pyIter (.ref f)) Q E s):yv P w K (.Tuple es kt pt) (Xo J) [f,i] f (XB f i S):=by
 refine⟨by simp,λn h t b r=>?_,λn h R t k=>?_,?_,?_,λA n s Q E t q=>Gq A n s Q E t.1 q⟩
 ·obtain⟨⟨o,y⟩,z⟩:=t;simp at r;rcases r with rfl|rfl
  ·exact⟨_,y,λv e=>by cases e⟩
  ·exact N.obj n h z
 ·obtain⟨⟨o,y⟩,z⟩:=t;exact⟨⟨o,k f 'k' _ y⟩,N.keep n h R z (k i 'k')⟩
 ·intro X U V W d n j s G H E I B t D;obtain⟨⟨o,y⟩,z⟩:=t;obtain⟨fp,m,Pv,T,Z,Y,u1,EF,qU,y1,L⟩:=N.got X U V W n j s G H I (B i 'k') z (.inl D);have ne:∀b∈i::fp,b≠f:=λb r=>(ar.mp r).elim (λe=>by rw[e];exact bC ap) λr=>(L b r).far I (B f 'k');refine wT I (zeF Z y Y (EF D) ne λx R tk tki px q1 q2 q3 hk qv=>⟨_,rfl,?_⟩);obtain⟨M,rx,yx⟩:=y1 x px;refine wpAny_letOwnedTupleGo_enum q1 λO e1 e2=>?_;have nb:∀q∈[f,i],s.heap.objs.size≠q:=λq hq e=>by
   have:∃a,s.heap.get? q=YP a:=by
    simp at hq;rcases hq with rfl|rfl
    ·exact⟨_,y⟩
    ·obtain⟨a,g,_⟩:=N.obj n _ z;exact⟨_,g⟩
   obtain⟨a,g⟩:=this;exact absurd (aJ g) (by rw[e];exact bP _)
  have l:∀c a,c∉[f,i]->s.heap.get? c=YP a->O.get? c=YP a:=λc a d e=>by
   simp at d;exact e2.extBut _ _ d.1 (hk c a d.1 d.2 e)
  have I1:=Inv.turns [f,i] I l B;have zt:=e2.extBut _ _ (nb f 'k') q3;have C:=I.hok.fresh (ay _);have I2:L2.Inv X j G (upd H s.heap.objs.size (.tup [.int (n:Nat),M])) { s with heap:=O,toks:=tk }:=by
   have un:Un (rP X.stack) [f,i] H (upd H s.heap.objs.size (.tup [.int (n:Nat),M])) s.heap O:=by
    refine⟨λc a e _ _ d=>l c a d e,λc a e _ _ d=>⟨a.slots,l c a d e⟩,λc a e hn _=>?_,λc a e d=>⟨a,l c a d e⟩,λc zs e=>?_,λc a u e=>?_,λc ps e=>⟨#[],?_⟩⟩
    ·rw[qe (bb (aJ e))];exact hn
    ·rw[qe (sO e C)];exact e
    ·rw[qe (sO e C)];exact e
    ·rw[qe (sO e C),e];simp
   have hok:HOk X.prog X.w (upd H s.heap.objs.size (.tup [.int (n:Nat),M])) O:=by
    intro c u' e;by_cases d:c=s.heap.objs.size
    ·subst d;rw[rS] at e;cases e;exact⟨by show 2<=J3;decide,[.int (n:Nat) tki,x],.cons ⟨_,rfl⟩ (.cons rx .nil),⟨_,zt,rfl,⟨_,rfl⟩,rfl⟩⟩
    ·rw[qe d] at e;refine(I1.hok c u' e).stay (λ_ _ _ q=>q) (λp q=>?_) λp zs q=>?_
     ·by_cases F:p=s.heap.objs.size
      ·subst F;rw[C] at q;cases q
      ·rw[qe F];exact q
     ·by_cases F:p=s.heap.objs.size
      ·subst F;rw[C] at q;cases q
      ·rw[qe F];exact q
   exact I.call un hok I.bare λb r=>let ⟨_,L,_,f3,f4,f5⟩:=B b r;⟨f3,L,f4,f5⟩
  refine⟨.ref s.heap.objs.size,_,I2,rfl,⟨_,M,C,rfl,yx,rfl⟩,⟨⟨_,by exact_mod_cast e1⟩,?_⟩,λb r=>?_⟩
  ·exact u1 _ _ (Z.but q2 e2.extBut ne)
  ·rw[qe (bC (nb b r))];exact(B b r).1
 ·intro X U V W d n j s G H E I B t D;obtain⟨⟨o,y⟩,z⟩:=t;obtain⟨fp,m,Pv,T,Z,Y,u1,EF,qU,y1,L⟩:=N.got X U V W n j s G H I (B i 'k') z (.inr D);refine zhv (I.ok.hd d) Z y Y (qU D) λR eb=>⟨rfl,?_⟩;refine Inv.turns [f,i] I (λc a d e=>?_) B;simp at d;exact eb c a d.2 e
noncomputable def Ax(ds:List D):List D:=ds.zipIdx.map λq=>.tup [.int (q.2:Nat),q.1]
def U2(ds:List D)(i:Nat):(Ax ds)[i]?=(ds[i]?).map λd=>D.tup [.int (i:Nat),d]:=by unfold Ax;rw[bF,List.getElem?_zipIdx];cases ds[i]?<;>simp
def oU.enum(l:oU K J (.val ds) H Xf μ):oU K (Xo J) (.val (Ax ds)) H Xf μ:=by
 intro a b e j m c i;have f:match ds[i]? with|some d=>J.go i b/\∀x g,J.yld i b x g->Ext b e g e/\oK K g a e j/\XV K g a e d x|none=>J.stop i b:=l a b e j m c i
 show match (Ax ds)[i]? with|some d=>_|none=>_
 rw[U2];cases k:ds[i]? with
 |none=>rw[k] at f;exact f
 | some d1=>
  rw[k] at f;refine⟨f.1,λv g n=>?_⟩;obtain⟨p,x,h,rfl,o,rfl⟩:=n;exact⟨.laid h,c.laid h,XV.newT c h (.cons t5 (.cons (f.2 x b o).2.2 .nil))⟩
def Ir(t:DA):DI:=λσ O=>(t σ O).bnd λxs O1=>match xs with
 |[.tup ds]=>.ok (.val (Ax ds)) O1
 |_=>.bad
section
variable{X:Cx}{Ex:Nat->Hp->Prop}{pos:Pos}{a b:aR}{Xq:List (af×Obj)}{b_:St}{H:Hp}{s:ah}{Xf μ:List af}{O:Ow}
def zc6:bd "enumerate" = YP (.type "enumerate"):=by boot_by_name
def Ut(d f:af)(A:aU)(n:Nat)(s:ah)(Q E:ae->ah->Prop)(h:∃c,im s.heap d f (n:Nat) c)(q:Q (.ref d) s):ao (au P w) A (pyIter (.ref d)) Q E s:=by obtain⟨c,h⟩:=h;have e:s.TypeIs (.ref d) "enumerate":=⟨_,h,rfl⟩;refine jU e lg (bU lg e F.entry_enumerate_iter ?_ (F.args_enumerate_iter_1 _));exact aj ⟨_,rfl, "enumerate",_,e,fw.lookup,q⟩
def zaX(y:Gl X "enumerate")(z:X.mg "enumerate" = JL)(A:tM X Ex [a] t)(B:aF [a] X.env=[(JU,eval a X.env)]:=by rfl):
  ui X Ex (.Tuple uT kt pt) (.Call (.Name "enumerate" p) [a] [] pos) (Ir t):=by
 refine⟨?_⟩;rintro Xq s b_ H C I ⟨Xf,μ,V,O,D,E,q⟩;refine lu (Ce I y z zc6 (fg (pZ (A.out pos Xq s b_ H _ I (uO.go D E q (Q1:=λj c=>∃Xf g h f,oK X.K c Xf g h/\oM X.K c Xf g f j/\
   post Ex X.K (λH' F s J=>oU X.K J s H' Xf F) c Xf g (match f with|[.tup f]=>.ok (.val (Ax f)) h|_=>.bad) C)
  λf h j c g W x k d p=>⟨Xf,g,h,f,k,d,p⟩)) λY e ⟨j,c,i,G,Xf,g,h,f,k,d,p⟩=>?_) (by rw[B];rfl) (by rfl)))
 split at p
 ·rename_i Z;unfold oM at d;obtain⟨v,r,rfl,m,n⟩:=d;unfold oM at n;subst n;unfold XV at m;obtain⟨L,M,rfl,l,N⟩:=m;obtain⟨u1,rfl,P⟩:=uG G;cases P;obtain⟨c_,_,Q,_⟩:=i.tuple l.sq;refine zaz Q λR o S T=>?_;refine Ut (e.heap.objs.size+1) e.heap.objs.size _ 0 _ _ _ ⟨_,o⟩ ?_;have U:L2.Inv X Xq b_ c { e with heap:=R,toks:=e.toks }:=i.kept T;refine⟨e.heap.objs.size+1,[e.heap.objs.size+1,e.heap.objs.size],_,_,c,rfl,U,zbW _ _ (Nat.succ_ne_self _) (Ru L _) (Ut _ _),⟨⟨_,o⟩,⟨_,S,rfl,rfl⟩⟩,λb u=>?_,post.here p k (.enum (.tup l N))⟩;have w:e.heap.objs.size<=b:=by
   simp only[ar,bL,or_false] at u;rcases u with rfl|rfl<;>lia
  exact i.fpOk (H':=c) w (i.hok.fresh w)
 ·exact ai p
end
end DL
namespace DL
open PySem L2
open PyProof.Rows hiding St
section
variable{X:Cx}{Ex:Nat->Hp->Prop}{pos:Pos}{a b c e:aR}{ta tb te:DE}{Xq:List (af×Obj)}{b_:L2.St}{H:Hp}{s:ah}{Xf μ:List af}{O:Ow}
def znK:Ow->D->D->R D:=λO x y=>match x,y with
 |.bl p,.bl q=>.ok (.bl (p==q)) O
 |_,_=>.bad
def DB:Ow->D->D->R D:=λO x y=>match x,y with
 |.bl p,.bl q=>.ok (.bl (!(p==q))) O
 |_,_=>.bad
def ze9(p q:Bool):(lz p==lz q)=(p==q):=by cases p<;>cases q<;>decide
def R9:qS X (cz .IsNot) (λx y H Q=>∃p q,x=.bl p/\y=.bl q/\Q (.bl (!(p==q))) H):=by intro Xq s i H x y v u Q I d f h;obtain⟨p,q,rfl,rfl,g⟩:=h;cases d;cases f;exact wpAny_isNot_plain (by rfl) ⟨.bl (!(p==q)),H,I,by rw[ze9];rfl,g⟩
def Tj:tx X Ex (λx y H Q=>∃p q,x=.bl p/\y=.bl q/\Q (.bl (!(p==q))) H) DB:=by
 intro H Xf μ O x y v w Q c d f q;unfold DB at q;split at q
 ·unfold XV at d f;subst d;subst f;exact⟨_,_,rfl,rfl,post.here q c uH⟩
 ·exact ai q
def PB(K:ak):R2:=λx y H Q=>∃a b ys,x=.ref a/\y=.ref b/\rZ K H a []/\rZ K H b ys/\Q (.ref b) H
def zhe:qS X (eG .Add) (PB X.K):=by
 intro Xq s M H x y v u Q I g i h;obtain⟨p,q,N,rfl,rfl,j,k,l⟩:=h;cases g;cases i;obtain⟨m,n,⟨⟨P,o,r,t⟩,d,w,z,A⟩,_⟩:=I.tuple j;obtain⟨B,R,⟨⟨S,C,D,E⟩,f,F,G,J⟩,_⟩:=I.tuple k;have L:m=[]:=by cases n;rfl
 subst L;subst w;subst F;subst A;subst J;exact jF ⟨_,d,rfl⟩ ⟨_,f,rfl⟩ kg lO iI iz (ic _ _) (PyProof.Rows.tuple_addW0 p q #[] B.toArray z G o C t E rfl) ⟨d,f,⟨.ref q,H,I,rfl,l⟩⟩
def tJ:Ow->D->D->R D:=λO x y=>match x,y with
 |.tup [],.tup ys=>.ok (.tup ys) O
 |x,y=>r8 O x y
def zez:tx X Ex (λx y H Q=>PB X.K x y H Q\/K4 X.K x y H Q) tJ:=by
 intro H Xf μ O x y v w Q c g d q;unfold tJ at q;split at q
 ·rename_i m;have f:=d;obtain⟨p,n,rfl,l,h⟩:=g;obtain⟨i,j,rfl,k,o⟩:=d;unfold oM at h;subst h;exact .inl ⟨p,i,j,rfl,rfl,l.sq,k.sq,post.here q c f⟩
 ·exact .inr (Su H Xf μ O _ _ v w Q c g d q)
def SX(d:PD X Ex a ta)(f:PD X Ex b tb):PD X Ex (.BinOp a .Add b pos) (h_ tJ ta tb):=K5 (qS.or zhe Se) zez d f
noncomputable def XS(K:ak):V->Option Int->Option Int->Hp->VK->Prop:=λx lo hi H Q=>∃a xs,x=.ref a/\rZ K H a xs/\(HT.sIx xs.length 0 lo=0/\HT.sIx xs.length xs.length hi=xs.length)/\Q (.ref a) H
def z6v{P:aK}{w:aT}{A:aU}{E:ae->ah->Prop}{s:ah}{t sl:af}{d:Array ae}{g i:ae}{lo hi:Option Int}{Q:ae->ah->Prop}(f:IsTup s.heap t d)(j:s.heap.IsSliceOf sl g i .none)(l:gp g lo)(m:gp i hi)
  (k:HT.sIx d.size 0 lo=0/\HT.sIx d.size d.size hi=d.size) (h:Q (.ref t) s):ao (au P w) A (getItem (.ref t) (.ref sl)) Q E s:=by
 obtain⟨n,o,p,u⟩:=id j;have q:s.TypeIs (.ref sl) "slice":=⟨n,o,p⟩;unfold getItem
 try with_reducible refine bG ?_
 first|refine aa (aj ?_)|skip
 refine aa (jT f.typeIs 'u' (aa (cx f.typeIs bM (bU bM f.typeIs jm ?_ (jG _ _)))));show ao _ _ (gN (.ref t) >>= _) _ _ s;refine aa (lP f (aa (ie q ?_)));refine aa (HT.sliceApplied_gen j l m ?_);have r:(((HT.sIx d.size 0 lo:Nat):Int)==0&&(1:Int)==1&&(HT.sIx d.size d.size hi-HT.sIx d.size 0 lo)==d.size)=JQ:=by
  rw[k.1,k.2];simp
 show ao _ _ (if (((HT.sIx d.size 0 lo:Nat):Int)==0&&(1:Int)==1&&(HT.sIx d.size d.size hi-HT.sIx d.size 0 lo)==d.size)=JQ then _ else _) _ _ s;rw[JV r];refine aa ?_;refine aa (ie f.typeIs (aj ?_));exact aa (dP (aj ⟨_,rfl,aj h⟩))
def zem:xR X (XS X.K):=by
 intro Xq s t H x v u w y z A Q I g i j k h;obtain⟨p,l,rfl,m,n,q⟩:=h;cases g;obtain⟨o,r,f,B⟩:=I.tuple m;have d:o.toArray.size=l.length:=by rw[aQ];exact r.length.symm
 exact⟨"tuple",_,bM.lookup,f.typeIs,z6v f i j k (by rw[d];exact n) ⟨.ref p,H,I,rfl,q⟩⟩
def O7(O:Ow)(x:D)(lo hi:Option Int):R D:=match x with
 |.tup ds=>if HT.sIx ds.length 0 lo=0/\HT.sIx ds.length ds.length hi=ds.length then .ok (.tup ds) O else .ok (.tup (xY ds lo hi)) O
 |x=>OH O x lo hi
def vf(te:DE)(tl th:DO):DE:=λσ O=>(te σ O).bnd λx O1=>(tl σ O1).bnd λlo O2=>(th σ O2).bnd λhi O3=>O7 O3 x lo hi
def ZR{lo hi:Option aR}{tl th:DO}{F:Pos}(G:PD X Ex e te)(I:Am X Ex lo tl)(J:Am X Ex hi th):PD X Ex (.Subscript e (.Slice lo hi JL F) pos) (vf te tl th):=
 rV (Tz (xR.or zem (xR.or Rg (xR.or Rf Sw))) G.out I.out J.out) λXf μ σ O b_ H Q L M q=>rd.go L M q λd O1 v H1 f_ N x P r p=>BJ.go N P p λl O2 H2 qc R S T U=>BJ.go R T U λu y B C e4 V h w=>by
  have n:=(r.ext S).ext V;cases d with
  | tup j=>
   have W:=n;obtain⟨o,t,rfl,D,m⟩:=n;have f:qY Ex X.K B Xf C (if HT.sIx j.length 0 l=0/\HT.sIx j.length j.length u=j.length then .ok (.tup j) y else .ok (.tup (xY j l u)) y) Q:=w;split at f
   ·rename_i z;exact .inl ⟨o,t,rfl,D.sq,by rw[<- m.length];exact z,post.here f h W⟩
   ·rename_i z;exact .inr (.inr (.inl ⟨o,t,rfl,D.sq,by rw[<- m.length];exact z,λE g=>post.ok f (.laid g) (h.laid g) (XV.newT h g (Fu m l u))⟩))
  | str i=>
   unfold XV at n;subst n;have f:=w;obtain⟨Y,f⟩:=post.ite f;refine .inr (.inl ⟨_,rfl,?_,post.here f h ?_⟩)
   ·show i.toArray.size<=_;rw[aQ];exact yG Y
   ·unfold XV;rw[D1]
  | lst j=>
   have f:=w;obtain⟨o,t,rfl,A,m⟩:=vk h n (rfl);exact .inr (.inr (.inr ⟨o,t,rfl,A,λE g=>post.ok f (.laid g) (h.laid g) (XV.newL h g (Fu m l u))⟩))
  | own k=>
   have f:qY Ex X.K B Xf C (match y[k]? with|some j=>.ok (.lst (xY j l u)) y|none=>.bad) Q:=w;split at f
   ·rename_i j Z;obtain⟨o,t,rfl,A,m⟩:=vk h n (Z);exact .inr (.inr (.inr ⟨o,t,rfl,A,λE g=>post.ok f (.laid g) (h.laid g) (XV.newL h g (Fu m l u))⟩))
   ·exact ai f
  |_=>exact ai w
end
end DL
namespace DL
open PySem L2
section
variable{X:Cx}{Ex:Nat->Hp->Prop}
noncomputable def EJ:Ow->D->D->R D:=λO x y=>match x,y with
 |.int i,.int j=>.ok (.bl (decide (i<j))) O
 |.str p,.str q=>.ok (.bl (decide (p<q))) O
 |_,_=>.bad
def zj1:qS X (cz .Lt) (λx y H Q=>(∃i j,x=.str i/\y=.str j/\Q (.bl (decide (i.cps.toList<j.cps.toList))) H)\/xI (λi j=>.bl (decide (i<j))) x y H Q):=qS.or zbB KY
def zhO:tx X Ex (λx y H Q=>(∃i j,x=.str i/\y=.str j/\Q (.bl (decide (i.cps.toList<j.cps.toList))) H)\/xI (λi j=>.bl (decide (i<j))) x y H Q) EJ:=by
 intro H a e O x y v w Q c b d q;unfold EJ at q;split at q
 ·rename_i i j;exact .inr (Lf H a e O (.int i) (.int j) v w Q c b d q)
 ·unfold XV at b d;subst b;subst d;exact .inl ⟨_,_,rfl,rfl,post.here q c uH⟩
 ·exact ai q
end
section
variable{X:Cx}{Xq:List (af×Obj)}{H:Hp}{s:ah}{Xf μ:List af}
def KQ(i j:aq):Option V:=if i.length<=4000000 then YP (.str (nZ i j)) else JL
def zdM:Hv X "str.strip" (Nk KQ):=by
 intro Xq s f H x g v l Q I b c h;obtain⟨i,j,w,rfl,rfl,a,q⟩:=h;obtain⟨t,rfl⟩:=b;obtain⟨u,rfl,d,rfl⟩:=uG c;unfold KQ at a;split at a
 ·rename_i e;cases a;exact wT I (SC.stripChars (λd k m=>⟨.str _,H,I.tok k,⟨_,rfl⟩,q⟩) (yG e))
 ·cases a
def Io(i j:pU):Option D:=if i.length<=4000000 then YP (.str (nZ ⟨i.toArray⟩ ⟨j.toArray⟩).cps.toList) else JL
def zeJ:∀i j d,Io i j=YP d->∃v,KQ ⟨i.toArray⟩ ⟨j.toArray⟩=YP v/\∀K H Xf μ,XV K H Xf μ d v:=λi j d h=>by
 unfold Io at h;split at h
 ·rename_i a;cases h;refine⟨_,JV (by show i.toArray.size<=_;simpa using a),λ_ _ _ _=>?_⟩;unfold XV;rw[D1]
 ·cases h
structure znI(mg:aq->Option ae)(x:aq)(i:Int):Prop where
 ex:∃t,mg x=YP (.int i t)
end
end DL
namespace DL
open PySem L2 PySem.Spec PyProof.Rows
section
def zes(r:oO xs us):oO xs.reverse us.reverse:=by
 induction r with
 |nil=>exact .nil
 | cons r t ih=>
  rw[iE,iE];exact oO.append ih (.cons r .nil)
end
end DL
namespace DL
open PySem L2 PySem.Spec PyProof.Rows
open Sem (wp)
end DL
namespace DL
open PySem L2 PySem.Spec PyProof.Rows
end DL
namespace DL
open PySem
def Ro:bd "set" = YP (.type "set"):=by boot_by_name
end DL
namespace DL
open PySem L2
open AutoSeq1 (wpAny_loadPart')
section
variable{X:Cx}{Ex:Nat->Hp->Prop}{b e o:aR}{to:DE}
def zbT(l:af)(xs:Array ae)(n:Nat)(b:af)(a:Array ae)(m:Nat)(sl:Array (Option ae))(f:¬(!xs.isEmpty&&ig (xs.size+a.size))=JQ)(g:xs.size<=J3)(i:xs.size+a.size<=J3+1):
  Meets (d9.«list.extend» ⟨[.ref l,.ref b],[]⟩) (λ_ R s=>s.heap.get? l=YP { cls:=.type "list",data:=.seq xs n }/\s.heap.get? b=YP { cls:=.type "list",data:=.seq a m,slots:=sl }/\R (.ok (.ret .none)) { s with heap:=s.heap.update l (bw λx=>x++a) }):=
 .of_wp λc w A R s h=>by
  obtain⟨d,j,h⟩:=h;have k:(xs++a).size<=J3+1:=by rw[gi];exact i
  wp_walk using(f9 d rfl),wpAny_loadPart' d,wpAny_loadPart' j
  exact⟨_,rfl,h⟩
def X4(K:ak):V->List V->Hp->VK->Prop:=λx vs H Q=>∃l b xs zs,x=.ref l/\vs=[.ref b]/\H l=YP (.lst xs)/\qR K H b zs/\xs.length+zs.length<=J3/\Q .non (upd H l (.lst (xs++zs)))
def Zb:Xj X "list.extend" (X4 X.K):=by
 intro f s J H x L v M Q I j k h;obtain⟨l,b,N,O,rfl,rfl,g,m,P,q⟩:=h;cases j;obtain⟨u,rfl,p⟩:=k.one;cases p;obtain⟨z,a,n,r,R,e⟩:=I.lstM g;obtain⟨c,i,⟨t,w,y,A,d,B⟩,_⟩:=I.list m;obtain⟨S,C,T,D⟩:=t;subst A;subst d;subst B;have U:=i.length;have E:a.toArray.size+c.toArray.size<=J3:=by rw[aQ,aQ];lia
 have G:¬ (!a.toArray.isEmpty&&ig (a.toArray.size+c.toArray.size))=JQ:=by
  rw[zdH E,Bool.and_false];exact cO
 refine call_meets lh ⟨_,e,rfl⟩ F.entry_list_extend (F.args_list_extend_2 _ _)
  (zbT l a.toArray n b c.toArray w D G (by rw[aQ];lia) 'd') ⟨e,y,?_⟩
 refine⟨.non,_,I.lset g e 'k' (r.append i) ?_,rfl,q⟩;rw[az];lia
def HR(to:DE)(t:DA):DE:=λσ O=>(to σ O).bnd λx O1=>match x with
 | .own k=>(t σ O1).bnd λys O2=>match ys,O2[k]? with
  | [y],YP ds=>match tL O2 y with
   |some es=>if ds.length+es.length<=4000000 then .ok .non (O2.set k (ds++es)) else .bad
   |none=>.bad
  |_,_=>.bad
 |_=>.bad
def zbY(m:PD X Ex o to)(n:tM X Ex (e::es) t)(s:attributeBase o "extend" X.env (eval o X.env)=eval o X.env:=by rfl)
  (u:((backTo pY (aF (e::es) X.env)).all (λx=>!x.1)&&(backToKw pY (keywordEach [] X.env)).all (λx=>x.1.isSome)&&decide ((e::es).length+([]:List fQ).length+(if ([]:List fQ).isEmpty then 0 else 1)<30))=JQ:=by rfl)
  (z:(apos.endLine==pY.line)=JQ:=by rfl) (B:aF (e::es) X.env=(JU,eval e X.env)::aF es X.env:=by rfl) (C:(backTo pY (aF es X.env)).any (·.1)=JU:=by rfl):
  PD X Ex (.Call (.Attribute o "extend" apos) (e::es) [] pY) (HR to t):=
 rV (H8 kz lh PySem.F.type_list_extend Zb m.out n.out s u z B C) λD μ σ O b_ H Q E G q=>rd.go E G q λd O1 v H1 f_ I x g r p=>by
  cases d with
  | own k=>
   have J:=r;obtain⟨A,rfl,K⟩:=r;obtain⟨ds,L,h1,M,h3⟩:=g.at_ k A K;refine⟨.inl ⟨rfl,L,.of M⟩,uO.go I g p λys O2 ws H2 N e3 P c R a=>?_⟩;split at a
   ·rename_i y uT S;split at a
    ·rename_i zs T;obtain⟨U,a⟩:=post.ite a;obtain⟨w,rfl,V⟩:=ux R;have f:N[k]?=YP A:=by
      have:=J.ext P;obtain⟨A',W,Y⟩:=this;cases W;exact Y
     obtain⟨Hg,Z,h,i,j⟩:=c.at_ k A f;rw[S] at h;cases h;obtain⟨pb,vz,rfl,sq,l⟩:=vk c V T;refine⟨A,pb,Z,vz,rfl,rfl,i,sq,aM (by rw[<- j.length,<- l.length];exact U) 'u',?_⟩;exact post.ok a (.put (aO f) ⟨_,i⟩) (c.put f (j.append l)) By
    ·exact ai a
   ·exact ai a
  |_=>exact ai p
end
end DL
namespace TS
open PySem PyProof.Rows
abbrev G1:=Bool->bg->Array bg->Nat->Nat->Nat->StateT cf Sem (Option Nat)
abbrev M1:=Array bg->Array bg->StateT cf Sem (Array bg)
def lay(xs:Array bg)(at_:Nat)(m:List bg):Array bg:=m.zipIdx.foldl (λa x=>a.setIfInBounds (at_+x.2) x.1) xs
structure pd where
 g:G1
 lo:M1
 hi:M1
 at_:∀{M:iq}{A:aU}{E:ae->ah->Prop}{s:ah}{i:Nat}{st:cf}{Q:Bool->cf->Prop}{sa na pw sb nb JT:Nat}{kb:bg},
  (J0 st)[i]?=YP (sa,na,pw)->(J0 st)[i+1]?=YP (sb,nb,JT)->(JX st)[sb]?=YP kb->
  wpS M A E s (g JU kb (JX st) sa na 0) (λr qU=>∃k,r=YP k/\(na-k=0->Q JQ qU)/\(na-k≠0->∃ka,(JX st)[sa+k+(na-k)-1]?=YP ka/\
   wpS M A E s (g JQ ka (JX st) sb nb (nb-1)) (λr2 qD=>∃m,r2=YP m/\(m=0->Q JQ qD)/\(m≠0->
    wpS M A E s (if na-k<=m then lo ((JX st).extract (sa+k) sb) ((JX st).extract sb (sb+m)) else hi ((JX st).extract (sa+k) sb) ((JX st).extract sb (sb+m)))
     (λmg ql=>Q (failedOf ql).isNone (setArr ql (lay (JX ql) (sa+k) mg.toList))) qD)) qU)) (setPending st (((J0 st).setIfInBounds i (sa,na+nb,pw)).eraseIdxIfInBounds (i+1)))->
  wpS M A E s (mergeAt' i) Q st
def t6{M:iq}{A:aU}{E:ae->ah->Prop}{s:ah}{b:cf}{a:Array bg}{i:Nat}{x:bg}{Q:bg->cf->Prop}(h:a[i]?=YP x)(q:Q x b):wpS M A E s (elem' a i) Q b:=by rw[elem'_eq,h];exact aN q
def zi3{M:iq}{A:aU}{E:ae->ah->Prop}{s:ah}{σ:Type}{b a:σ}{Q:PUnit->σ->Prop}(q:Q ⟨⟩ a):wpS M A E s (set a) Q b:=fM (f:=λ_=>a) q
noncomputable def ph:pd:=by
 apply pd.mk
 case at_=>
  intro M A E s i st Q sa na pw sb nb JT kb h1 h2 h3 h;show wpS M A E s (get >>= _) Q st;refine aH (gW ?_);rw[show(J0 st)[i]?=_ from h1,show(J0 st)[i+1]?=_ from h2];refine aH (zi3 (aH (t6 h3 (aH (dQ h ?_)))));rintro _ qU ⟨k,rfl,e0,e1⟩;by_cases hk:na-k=0
  ·show wpS M A E s (if (na-k==0)=JQ then _ else _) Q qU;rw[JV (by rw[hk];rfl)];exact aN (e0 hk)
  ·show wpS M A E s (if (na-k==0)=JQ then _ else _) Q qU;rw[JW ⇑hk];obtain⟨ka,q1,q2⟩:=e1 hk;refine aH (t6 q1 (aH (dQ q2 ?_)));rintro _ qD ⟨m,rfl,f0,f1⟩;by_cases hm:m=0
   ·subst hm;exact aN (f0 rfl)
   ·show wpS M A E s (if (m==0)=JQ then _ else _) Q qD;rw[JW ⇑hm];have f2:=f1 hm;by_cases hc:na-k<=m
    ·rw[JV hc] at f2;show wpS M A E s (if na-k<=m then _ else _) Q qD;rw[JV hc];exact aH (dQ f2 λmg ql q=>aH (fM (aH (gW (aN q)))))
    ·rw[JW hc] at f2;show wpS M A E s (if na-k<=m then _ else _) Q qD;rw[JW hc];exact aH (dQ f2 λmg ql q=>aH (fM (aH (gW (aN q)))))
section
variable{prog:aK}{w:aT}{A:aU}{E:ae->ah->Prop}{s:ah}{κ:a7}{st:cf}{kd:KT}
def ky(κ:a7)(x:bg):κ.α:=(κ.keyOf x.1).getD κ.dflt
def uj(κ:a7)(x:bg):Prop:=∃a,κ.keyOf x.1=YP a
abbrev Ty{α β:Type}(_:α->β):Type:=β
abbrev KT:Type:=Ty kindOf
def xv(prog:aK)(w:aT)(A:aU)(s:ah)(κ:a7)(kd:KT):Prop:=∀(x y:bg)(E':ae->ah->Prop){Q:Bool->ah->Prop},uj κ x->uj κ y->Q (κ.blt (ky κ x) (ky κ y)) s->ao (au prog w) A (keyLt' kd x.1 y.1) Q E' s
def xv.one(e:κ.OneLt):xv prog w A s κ oneType':=λx y f Q ⟨a,c⟩ ⟨b,d⟩ q=>by
 have g:ky κ x=a:=by unfold ky;rw[c];rfl
 have h:ky κ y=b:=by unfold ky;rw[d];rfl
 rw[g,h] at q;exact e prog w A f s x.1 y.1 a b c d q
def Fg(a:xv prog w A s κ kd)(b:kindOf st=kd)(c:uj κ x)(d:uj κ y)(q:Q (YP (κ.blt (ky κ x) (ky κ y))) st):wpS (au prog w) A E s (lt' x y) Q st:=by rw[lt'_eq];refine aH (gW (aH (js (fB ?_))));rw[b];exact a x y _ c d ⟨rfl,aN q⟩
def uw(κ:a7)(left:Bool)(key x:bg):Bool:=if left=JQ then κ.blt (ky κ x) (ky κ key) else !κ.blt (ky κ key) (ky κ x)
def EY{α β:Type}{G:Prop}{H:α->β->Prop}(P:α->β->Prop)(h:(∀x y,H x y->P x y)->G)(k:∀x y,H x y->P x y):G:=h k
def zib(V:xv prog w A s κ kd){left:Bool}{key:bg}{F:Array bg}{base n hint:Nat}{b:Nat->Bool}(W:kindOf st=kd)(X:uj κ key)(hb:∀i,i<n->∃x,F[base+i]?=YP x/\uj κ x/\uw κ left key x=b i)(hh:hint<n)(t:∀i j,i<=j->j<n->b j=JQ->b i=JQ)
  {Q:Option Nat->cf->Prop} (q:∀k,k<=n->(∀i,i<k->b i=JQ)->(∀i,k<=i->i<n->b i=JU)->Q (YP k) st):wpS (au prog w) A E s ((pd.g ph) left key F base n hint) Q st:=by
 have z:∀i,i<n->∀{Q:Option Bool->cf->Prop},Q (YP (b i)) st->wpS (au prog w) A E s (elem' F (base+i) >>= λx=>if left=JQ then lt' x key else lt' key x >>= λr=>pure (r.map λx=>!x)) Q st:=λi a Q Y=>by
  obtain⟨x,u,B,p⟩:=hb i a;refine aH (t6 u ?_);unfold uw at p;cases left with
  | true=>
   rw[JV rfl] at p;rw[JV rfl];exact Fg V W B X (by rw[p];exact Y)
  | false=>
   rw[JW 'u'] at p;rw[JW 'u'];exact aH (Fg V W X B (aN (by show Q (YP (!κ.blt (ky κ key) (ky κ x))) st;rw[p];exact Y)))
 have y:∀i j,i<=j->i<n->j<n->b i=JU->b j=JU:=λi j uY a hj C=>by
  cases e:b j with
  |false=>rfl
  |true=>rw[t i j uY hj e] at C;cases C
 show wpS _ _ _ _ (_ >>= _) Q st;refine aH (z hint hh ?_);apply EY (α:=Nat) (β:=Nat) (H:=λd a=>d<=a/\a<=n/\(∀i,i<d->b i=JQ)/\(∀i,a<=i->i<n->b i=JU));intro key;cases Z:b hint with
 | true=>
  refine aH (dQ (cT (I:=λk c f=>f=st/\∃l o,c=(JL,l,o)/\l<o/\k+1<=o/\hint+l<n/\b (hint+l)=JQ) (Q:=λc f=>f=st/\∃l o,c=(JL,l,o)/\l<o/\hint+l<n/\b (hint+l)=JQ/\(hint+o<n->b (hint+o)=JU)) ?_ ?_ ?_) ?_)
  ·rintro k c f _ zx ⟨L,l,o,rfl,u,B,p,v⟩;subst f;show wpS _ _ _ _ (if o ≥ n-hint then _ else _) _ st;by_cases D:o ≥ n-hint
   ·rw[JV D];exact aN ⟨rfl,l,o,rfl,u,p,v,λh=>by lia⟩
   ·rw[JW D];refine aH (z (hint+o) 'd' ?_);cases M:b (hint+o) with
    |true=>exact aN ⟨rfl,o,2*o+1,rfl,by lia,by lia,by lia,M⟩
    |false=>exact aN ⟨rfl,l,o,rfl,u,p,v,λ_=>M⟩
  ·rintro c f ⟨L,l,o,rfl,u,B,p,v⟩;subst f;exact⟨rfl,l,o,rfl,u,p,v,λh=>by rw[eo] at B;lia⟩
  ·exact⟨rfl,0,1,rfl,by lia,by lia,by lia,Z⟩
  ·rintro c f ⟨L,l,o,rfl,u,p,v,S⟩;subst f;have N:hint+l+1<=hint+min o (n-hint):=by lia
   have O:hint+min o (n-hint)<=n:=by lia
   have P:∀i,i<hint+l+1->b i=JQ:=λi a=>t i (hint+l) 'd' p v;have C:∀i,hint+min o (n-hint)<=i->i<n->b i=JU:=λi a R=>by
    have:hint+o<n:=by lia
    exact y (hint+o) i 'd' this R (S this)
   show wpS _ _ _ _ (forIn [:n] (JL,hint+l+1,hint+min o (n-hint)) _ >>= _) Q st;generalize hint+l+1=d at *;generalize hint+min o (n-hint)=a at *;exact key _ _ ⟨N,O,P,C⟩
 | false=>
  refine aH (dQ (cT (I:=λk c f=>f=st/\∃l o,c=(JL,l,o)/\l<o/\k+1<=o/\l<=hint/\b (hint-l)=JU) (Q:=λc f=>f=st/\∃l o,c=(JL,l,o)/\l<o/\l<=hint/\b (hint-l)=JU/\(o<=hint->b (hint-o)=JQ)) ?_ ?_ ?_) ?_)
  ·rintro k c f _ zx ⟨L,l,o,rfl,u,B,p,v⟩;subst f;show wpS _ _ _ _ (if o ≥ hint+1 then _ else _) _ st;by_cases D:o ≥ hint+1
   ·rw[JV D];exact aN ⟨rfl,l,o,rfl,u,p,v,λh=>by lia⟩
   ·rw[JW D];refine aH (z (hint-o) 'd' ?_);cases M:b (hint-o) with
    |true=>exact aN ⟨rfl,l,o,rfl,u,p,v,λ_=>M⟩
    |false=>exact aN ⟨rfl,o,2*o+1,rfl,by lia,by lia,by lia,M⟩
  ·rintro c f ⟨L,l,o,rfl,u,B,p,v⟩;subst f;exact⟨rfl,l,o,rfl,u,p,v,λh=>by rw[eo] at B;lia⟩
  ·exact⟨rfl,0,1,rfl,by lia,by lia,by lia,Z⟩
  ·rintro c f ⟨L,l,o,rfl,u,p,v,S⟩;subst f;have N:hint+1-min o (hint+1)<=hint-l:=by lia
   have O:hint-l<=n:=by lia
   have P:∀i,i<hint+1-min o (hint+1)->b i=JQ:=λi a=>by
    have:o<=hint:=by lia
    exact t i (hint-o) 'd' 'd' (S this)
   have C:∀i,hint-l<=i->i<n->b i=JU:=λi a R=>y (hint-l) i a 'd' R v;show wpS _ _ _ _ (forIn [:n] (JL,hint+1-min o (hint+1),hint-l) _ >>= _) Q st;generalize hint+1-min o (hint+1)=d at *;generalize hint-l=a at *;exact key _ _ ⟨N,O,P,C⟩
 rintro d a ⟨N,O,P,C⟩;refine aH (dQ (cT (I:=λk c T=>T=st/\∃d a,c=(JL,d,a)/\d<=a/\a<=n/\a-d<=n-k/\(∀i,i<d->b i=JQ)/\(∀i,a<=i->i<n->b i=JU)) (Q:=λc T=>T=st/\∃m,c=(JL,m,m)/\m<=n/\(∀i,i<m->b i=JQ)/\(∀i,m<=i->i<n->b i=JU)) ?_ ?_ ?_) ?_)
 ·rintro k c U _ zx ⟨rfl,d,a,rfl,g1,G,g3,J,K⟩;show wpS _ _ _ _ (if d ≥ a then _ else _) _ U;by_cases D:d ≥ a
  ·rw[JV D];have:d=a:=by lia
   subst this;exact aN ⟨rfl,d,rfl,G,J,K⟩
  ·rw[JW D];refine aH (z (d+(a-d)/2) 'd' ?_);cases uS:b (d+(a-d)/2) with
   |true=>exact aN ⟨rfl,d+(a-d)/2+1,a,rfl,by lia,G,by lia,λi xN=>t i (d+(a-d)/2) 'd' 'd' uS,K⟩
   |false=>exact aN ⟨rfl,d,d+(a-d)/2,rfl,by lia,by lia,by lia,J,λi xN R=>y (d+(a-d)/2) i xN 'd' R uS⟩
 ·rintro c U ⟨rfl,d,a,rfl,g1,G,g3,J,K⟩;rw[eo] at g3;have:d=a:=by lia
  subst this;exact⟨rfl,d,rfl,G,J,K⟩
 ·exact⟨rfl,d,a,rfl,N,O,by lia,P,C⟩
 ·rintro c U ⟨rfl,m,rfl,G,J,K⟩;exact aN (q m G J K)
end
section
variable{κ:a7}
def Le(κ:a7)(x y:bg):Prop:=κ.blt (ky κ y) (ky κ x)=JU
def Le.refl(x:bg):Le κ x x:=κ.irrefl _
def Le.trans(a:Le κ x y)(b:Le κ y z):Le κ x z:=by
 unfold Le at *;cases e:κ.blt (ky κ z) (ky κ x) with
 |false=>rfl
 | true=>
  rcases κ.negTrans _ (ky κ y) _ e with h|h
  ·rw[b] at h;cases h
  ·rw[a] at h;cases h
def Le.of(h:κ.blt (ky κ x) (ky κ y)=JQ):Le κ x y:=by
 unfold Le;cases e:κ.blt (ky κ y) (ky κ x) with
 |false=>rfl
 | true=>
  have:=κ.trans _ _ _ h e;rw[κ.irrefl] at this;cases this
def qK(κ:a7)(l:List bg):Prop:=l.Pairwise (Le κ)
structure Out(κ:a7)(a b r:List bg):Prop where
 perm:r.Perm (a++b)
 srt:qK κ r
structure Mg(κ:a7)(a b o:List bg)(i j:Nat):Prop where
 perm:o.Perm (a.take i++b.take j)
 srt:qK κ o
 la:∀x∈o,∀y∈a.drop i,Le κ x y
 lb:∀x∈o,∀y∈b.drop j,Le κ x y
variable{a b o:List bg}{i j:Nat}
def Mg.len(h:Mg κ a b o i j)(hi:i<=a.length)(c:j<=b.length):o.length=i+j:=by rw[h.perm.length_eq,az,bI,bI];lia
def Ud{α:Type}(l:List α)(i k:Nat){x:α}(h:x∈l.drop (i+k)):x∈l.drop i:=by rw[<- eI] at h;exact cN h
def qK.take_drop(h:qK κ l)(k:Nat):∀x∈l.take k,∀y∈l.drop k,Le κ x y:=by unfold qK at h;rw[<- cH k l,cm] at h;exact h.2.2
def Mg.addA(h:Mg κ a b o i j)(f:qK κ a)(k:Nat)(d:∀y∈(a.drop i).take k,∀z∈b.drop j,Le κ y z):Mg κ a b (o++(a.drop i).take k) (i+k) j:=by
 have e:qK κ (a.drop i):=f.sublist (dk i a);refine⟨?_,?_,λx hx y c=>?_,λx hx y c=>?_⟩
 ·rw[ou];refine(h.perm.append_right _).trans ?_;rw[bh,bh];exact(cU).append_left _
 ·unfold qK;rw[cm];exact⟨h.srt,e.sublist (cV k _),λx hx y c=>h.la x hx y (cn c)⟩
 ·rcases aP.mp hx with hx|hx
  ·exact h.la x hx y (Ud a i k c)
  ·exact e.take_drop k x hx y (by rw[eI];exact c)
 ·rcases aP.mp hx with hx|hx
  ·exact h.lb x hx y c
  ·exact d x hx y c
def Mg.addB(h:Mg κ a b o i j)(f:qK κ b)(k:Nat)(d:∀y∈(b.drop j).take k,∀z∈a.drop i,Le κ y z):Mg κ a b (o++(b.drop j).take k) i (j+k):=by
 have e:qK κ (b.drop j):=f.sublist (dk j b);refine⟨?_,?_,λx hx y c=>?_,λx hx y c=>?_⟩
 ·rw[ou];refine(h.perm.append_right _).trans ?_;rw[bh]
 ·unfold qK;rw[cm];exact⟨h.srt,e.sublist (cV k _),λx hx y c=>h.lb x hx y (cn c)⟩
 ·rcases aP.mp hx with hx|hx
  ·exact h.la x hx y c
  ·exact d x hx y c
 ·rcases aP.mp hx with hx|hx
  ·exact h.lb x hx y (Ud b j k c)
  ·exact e.take_drop k x hx y (by rw[eI];exact c)
def Mg.fin(h:Mg κ a b o i j)(d:qK κ a)(e:qK κ b)(f:∀x∈a.drop i,∀y∈b.drop j,Le κ x y):Out κ a b (o++a.drop i++b.drop j):=by
 refine⟨?_,?_⟩
 ·refine((h.perm.append_right _).append_right _).trans ?_
  conv=>rhs;rw[<- cH i a,<- cH j b]
  simp only[bh];refine fx _ ?_;rw[<- bh,<- bh];exact cU.append_right _
 ·unfold qK;rw[cm,cm];refine⟨⟨h.srt,d.sublist (dk i a),h.la⟩,e.sublist (dk j b),λx g y c=>?_⟩;rcases aP.mp g with h'|h'
  ·exact h.lb x h' y c
  ·exact f x h' y c
def Mg.fin'(h:Mg κ a b o i j)(c:qK κ a)(d:qK κ b)(e:∀y∈b.drop j,∀x∈a.drop i,Le κ y x):Out κ a b (o++b.drop j++a.drop i):=by have f:Mg κ b a o j i:=⟨h.perm.trans cU,h.srt,h.lb,h.la⟩;have:=f.fin d c e;exact⟨this.perm.trans cU,this.srt⟩
def BA{l:List bg}{i:Nat}{x:bg}(h:l[i]?=YP x):(l.drop i).take 1=[x]:=by obtain⟨c,rfl⟩:=am.mp h;rw[d7 c];rfl
def DX(h:qK κ l)(e:l[i]?=YP x):∀y∈l.drop i,Le κ x y:=by
 obtain⟨c,rfl⟩:=am.mp e;intro y hy;rw[d7 c] at hy;have d:qK κ (l.drop i):=h.sublist (dk i l);rw[d7 c] at d;rcases ar.mp hy with rfl|hy
 ·exact Le.refl _
 ·exact(bS.mp d).1 y hy
end
structure oV(st g_:cf):Prop where
 kind:kindOf g_=kindOf st
 arr:JX g_=JX st
 pend:J0 g_=J0 st
 failed:failedOf g_=failedOf st
def oV.refl(a:cf):oV a a:=⟨rfl,rfl,rfl,rfl⟩
def oV.trans(h:oV a b)(g:oV b c):oV a c:=⟨g.kind.trans h.kind,g.arr.trans h.arr,g.pend.trans h.pend,g.failed.trans h.failed⟩
section
variable{prog:aK}{w:aT}{A:aU}{E:ae->ah->Prop}{s:ah}{κ:a7}{st:cf}{kd:KT}
def ya{a:Array bg}{i:Nat}(h:i<a.size):∃x,a[i]?=YP x/\a.toList[i]?=YP x:=⟨a[i],by simp[h],by simp[h]⟩
def R0(b:oV st (f st))(h:∀a,oV st a->Q ⟨⟩ a):wpS M A E s (modify f) Q st:=fM (h _ b)
def Ij(a:Array bg)(i:Nat):(a.extract i).toList=a.toList.drop i:=by simp only[lH,j7];exact cP 'k'
def Ld(a:Array bg)(i k:Nat):(a.extract i (i+k)).toList=(a.toList.drop i).take k:=by simp
def P6{a b:List bg}{c:Array bg}{d e:Nat}{x:bg}(m:Mg κ a b c.toList d e)(g:qK κ a)(f:a[d]?=YP x)(h:∀z∈b.drop e,Le κ x z):Mg κ a b (c.push x).toList (d+1) e:=by have:=m.addA g 1 (by rw[BA f];intro y i;rw[cE.mp i];exact h);rw[BA f] at this;rw[eQ];exact this
def Qc{a b:List bg}{c:Array bg}{d e:Nat}{x:bg}(m:Mg κ a b c.toList d e)(g:qK κ b)(f:b[e]?=YP x)(h:∀z∈a.drop d,Le κ x z):Mg κ a b (c.push x).toList d (e+1):=by have:=m.addB g 1 (by rw[BA f];intro y i;rw[cE.mp i];exact h);rw[BA f] at this;rw[eQ];exact this
def D3(C:xv prog w A s κ kd){left:Bool}{key:bg}{c:Array bg}{base n hint:Nat}{L:List bg}(B:(c.toList.drop base).take n=L)(D:kindOf st=kd)(F:uj κ key)(O:base+n<=c.size)(G:hint<n)(r:∀x∈L,uj κ x)(t:qK κ L)
  {Q:Option Nat->cf->Prop} (q:∀k,k<=n->(∀x∈L.take k,uw κ left key x=JQ)->(∀x∈L.drop k,uw κ left key x=JU)->Q (YP k) st):wpS (au prog w) A E s ((pd.g ph) left key c base n hint) Q st:=by
 have H:L.length=n:=by
  rw[<- B,bI,ck,aG];lia
 have l:∀i,i<n->∃x,c[base+i]?=YP x/\L[i]?=YP x:=λi d=>by
  obtain⟨x,u,f⟩:=ya (a:=c) (i:=base+i) 'd';refine⟨x,u,?_⟩;rw[<- B,fT d,mx];exact f
 refine zib C (b:=λi=>match L[i]? with|some x=>uw κ left key x|none=>JU) D F (λi d=>?_) G (λi j P I e=>?_) λk J K M=>q k J (λx m=>?_) λx m=>?_
 ·obtain⟨x,u,f⟩:=l i d;exact⟨x,u,r x (aO f),by rw[f]⟩
 ·obtain⟨x,_,m⟩:=l i 'd';obtain⟨y,_,p⟩:=l j I;rw[p] at e;rw[m]
  replace e:uw κ left key y=JQ:=e
  show uw κ left key x=JQ;by_cases h:i=j
  ·subst h;rw[m] at p;cases p;exact e
  have o:Le κ x y:=by
   obtain⟨v,rfl⟩:=am.mp m;obtain⟨z,rfl⟩:=am.mp p;exact d8.mp t i j v z 'd'
  unfold uw at e ⊢;cases left with
  | true=>
   rw[JV rfl] at e ⊢;rcases κ.negTrans _ (ky κ x) _ e with h|h
   ·rw[show κ.blt (ky κ y) (ky κ x)=JU from o] at h;cases h
   ·exact h
  | false=>
   rw[JW 'u'] at e ⊢;have N:Le κ y key:=by unfold Le;simpa using e
   have:Le κ x key:=o.trans N;unfold Le at this;rw[this];rfl
 ·obtain⟨i,d,e⟩:=l9 m;have v:i<k:=by rw[bI] at d;lia
  have:=K i v;have f:L[i]?=YP x:=by rw[<- e,mX];exact aw (by rw[bI] at d;lia)
  rw[f] at this;exact this
 ·obtain⟨i,d,e⟩:=l9 m;rw[ck] at d;have:=M (k+i) 'd' 'd';have f:L[k+i]?=YP x:=by rw[<- e,mY];exact aw 'd'
  rw[f] at this;exact this
def Qm{α:Type}{G:Prop}(P:α->Prop)(h:(∀x,P x)->G)(k:∀x,P x):G:=h k
def ZP(ho:xv prog w A s κ kd){a b:Array bg}(hk:kindOf st=kd)(ha:∀x∈a.toList,uj κ x)(hb:∀x∈b.toList,uj κ x)(U:qK κ a.toList)(R:qK κ b.toList)(pa:1<=a.size)(pb:1<=b.size)
  (h0:∀x∈b.toList.take 1,∀y∈a.toList,Le κ x y) (hl:∀y∈b.toList,∀x∈a.toList.drop (a.size-1),Le κ y x) {Q:Array bg->cf->Prop} (q:∀r D,oV st D->Out κ a.toList b.toList r.toList->Q r D):wpS (au prog w) A E s ((pd.lo ph) a b) Q st:=by
 have Ny:a.toList.length=a.size:=aG;have Nw:b.toList.length=b.size:=aG;have tX:∀{l:Array bg}{d f:Nat},Mg κ a.toList b.toList l.toList d f->(f=b.size\/d=a.size)->Out κ a.toList b.toList (l++a.extract d++b.extract f).toList:=λ{l d f}m h=>by
  rw[bT,bT,Ij,Ij];refine m.fin U R λx n y N=>?_;rcases h with rfl|rfl
  ·rw[fe 'd'] at N;cases N
  ·rw[fe 'd'] at n;cases n
 have u_:∀{l:Array bg}{d f:Nat},Mg κ a.toList b.toList l.toList d f->d+1=a.size->Out κ a.toList b.toList (l++b.extract f++a.extract d).toList:=λ{l d f}m h=>by
  rw[bT,bT,Ij,Ij];refine m.fin' U R λy N x n=>hl y (cN N) x ?_;have:a.size-1=d:=by lia
  rw[this];exact n
 obtain⟨b0,g0,l0⟩:=ya (a:=b) (i:=0) 'd';have m0:Mg κ a.toList b.toList (#[b0]:Array bg).toList 0 1:=by
  have e:b.toList.take 1=[b0]:=by
   have:=BA l0;simpa using this
  refine⟨by rw[e];exact e9 _,kB _ _,λx n y N=>h0 x (by rw[e];exact n) y N,λx n y N=>?_⟩;have:x=b0:=⇑n
  subst this;exact DX R l0 y (cN N)
 show wpS _ _ _ _ (_ >>= _) Q st;refine aH (js (dP ⟨rfl,aH (t6 g0 ?_)⟩));by_cases c1:1=b.size
 ·show wpS _ _ _ _ (if (1==b.size)=JQ then _ else _) Q st;rw[JV ⇑c1];exact aN (q _ st (oV.refl st) (tX m0 (.inl c1)))
 show wpS _ _ _ _ (if (1==b.size)=JQ then _ else _) Q st;rw[JW ⇑c1];by_cases c2:1=a.size
 ·show wpS _ _ _ _ (if (0+1==a.size)=JQ then _ else _) Q st;rw[JV ⇑c2];exact aN (q _ st (oV.refl st) (u_ m0 'd'))
 show wpS _ _ _ _ (if (0+1==a.size)=JQ then _ else _) Q st;rw[JW ⇑c2];refine aH (gW (aH (dQ (cT (I:=λk c D=>oV st D/\∃l d f G,c=(JL,l,d,f,G)/\Mg κ a.toList b.toList l.toList d f/\d+1<a.size/\f<b.size/\k+1<=l.size) (Q:=λc D=>oV st D/\∃r,c.1=YP r/\Out κ a.toList b.toList r.toList) ?_ ?_ ?_) ?_)))
 ·rintro k c qU _ hkt ⟨sm,l,d,f,G,rfl,m,J,F,c5⟩;have GK:kindOf qU=kd:=sm.kind.trans hk;refine aH (dQ (cT (I:=λj c D=>D=qU/\∃o d f t v,c=(JL,o,d,f,t,v)/\Mg κ a.toList b.toList o.toList d f/\d+1<a.size/\f<b.size/\l.size+j<=o.size) (Q:=λc D=>D=qU/\((∃r,c.1=YP r/\Out κ a.toList b.toList r.toList) \/ ∃o d f t v,c=(JL,o,d,f,t,v)/\Mg κ a.toList b.toList o.toList d f/\d+1<a.size/\f<b.size/\l.size+1<=o.size)) ?_ ?_ ?_) ?_)
  ·rintro j c qD _ Oa ⟨rfl,o,d,f,t,v,rfl,m,J,F,c6⟩;obtain⟨y,gy,X⟩:=ya (a:=b) F;obtain⟨x,gx,S⟩:=ya (a:=a) (i:=d) 'd';refine aH (t6 gy (aH (t6 gx (aH (Fg ho GK (hb y (aO X)) (ha x (aO S)) ?_)))));cases hc:κ.blt (ky κ y) (ky κ x) with
   | true=>
    have Y:=Qc m R X λz K=>(Le.of hc).trans (DX U S z K);refine aH (t6 gy ?_);show wpS _ _ _ _ (if (f+1==b.size)=JQ then _ else _) _ qD;by_cases e:f+1=b.size
    ·rw[JV ⇑e];exact aN ⟨rfl,.inl ⟨_,rfl,tX Y (.inl e)⟩⟩
    ·rw[JW ⇑e];split
     ·exact aN ⟨rfl,.inr ⟨o.push y,d,f+1,0,v+1,rfl,Y,J,by lia,by rw[cB];lia⟩⟩
     ·exact aN ⟨rfl,o.push y,d,f+1,0,v+1,rfl,Y,J,by lia,by rw[cB];lia⟩
   | false=>
    have Y:=P6 m U S λz K=>Le.trans (show Le κ x y from hc) (DX R X z K);refine aH (t6 gx ?_);show wpS _ _ _ _ (if (d+1+1==a.size)=JQ then _ else _) _ qD;by_cases e:d+1+1=a.size
    ·rw[JV ⇑e];exact aN ⟨rfl,.inl ⟨_,rfl,u_ Y e⟩⟩
    ·rw[JW ⇑e];split
     ·exact aN ⟨rfl,.inr ⟨o.push x,d+1,f,t+1,0,rfl,Y,by lia,F,by rw[cB];lia⟩⟩
     ·exact aN ⟨rfl,o.push x,d+1,f,t+1,0,rfl,Y,by lia,F,by rw[cB];lia⟩
  ·rintro c qD ⟨rfl,o,d,f,t,v,rfl,m,J,F,c6⟩;have:=m.len 'd' 'd';rw[aG] at this;rw[eo] at c6;lia
  ·exact⟨rfl,l,d,f,0,0,rfl,m,J,F,by lia⟩
  rintro c qD ⟨rfl,h⟩;rcases h with⟨r,e,hr⟩|⟨o,d,f,t,v,rfl,m,J,F,c6⟩
  ·obtain⟨c,c'⟩:=c;dsimp only at e;subst e;exact aN ⟨sm,r,rfl,hr⟩
  refine aH (js (dP ⟨rfl,aH (dQ (cT (I:=λj c D=>oV st D/\∃B d f G t v,c=(JL,B,d,f,G,t,v)/\Mg κ a.toList b.toList B.toList d f/\d+1<a.size/\f<b.size/\o.size+j<=B.size) (Q:=λc D=>oV st D/\((∃r,c.1=YP r/\Out κ a.toList b.toList r.toList) \/ ∃B d f G t v,c=(JL,B,d,f,G,t,v)/\Mg κ a.toList b.toList B.toList d f/\d+1<a.size/\f<b.size/\o.size<=B.size)) ?_ ?_ ?_) ?_)⟩))
  ·rintro j c ql _ Oa ⟨T,B,d,f,G,t,v,rfl,m,J,F,c6⟩;obtain⟨y,gy,X⟩:=ya (a:=b) F;have N:=hb y (aO X);have De:∀M,oV st M->∀{Q:Option Nat->cf->Prop},(∀k,k<=a.size-d->(∀x∈(a.toList.drop d).take k,Le κ x y)->(∀x∈a.toList.drop (d+k),Le κ y x)->Q (YP k) M)->wpS (au prog w) A E s ((pd.g ph) JU y a d (a.size-d) 0) Q M:=λM s4 Q h=>
    D3 ho (L:=a.toList.drop d) (cP (by rw[ck];lia)) (s4.kind.trans hk) N 'd' 'd' (λx n=>ha x (cN n)) (U.sublist (dk d _)) λk h1 h2 h3=>h k h1 (λx n=>by
     have:=h2 x n;unfold uw at this;rw[JW 'u'] at this;unfold Le;simpa using this) λx n=>by
     rw[<- eI] at n;have:=h3 x n;unfold uw at this;rw[JW 'u'] at this;exact Le.of ⇑this
   have Dd:∀x{C:Nat},a.toList[C]?=YP x->∀M,oV st M->f+1<b.size->∀{Q:Option Nat->cf->Prop},(∀k,k<=b.size-(f+1)->(∀z∈(b.toList.drop (f+1)).take k,Le κ z x)->(∀z∈b.toList.drop (f+1+k),Le κ x z)->Q (YP k) M)->wpS (au prog w) A E s ((pd.g ph) JQ x b (f+1) (b.size-(f+1)) 0) Q M:=λx C S M s4 h4 Q h=>
    D3 ho (L:=b.toList.drop (f+1)) (cP (by rw[ck];lia)) (s4.kind.trans hk) (ha x (aO S)) 'd' 'd' (λx n=>hb x (cN n)) (R.sublist (dk _ _)) λk h1 h2 h3=>h k h1 (λz K=>by
     have:=h2 z K;unfold uw at this;rw[JV rfl] at this;exact Le.of this) λz K=>by
     rw[<- eI] at K;have:=h3 z K;unfold uw at this;rw[JV rfl] at this;exact this
   show wpS _ _ _ _ (if G>1 then _ else _) _ ql;apply Qm (α:=Nat)
   ·intro p;split
    ·generalize G-1=Gb;exact p Gb
    ·exact p G
   intro Gb;refine aH (R0 ⟨rfl,rfl,rfl,rfl⟩ λM s4=>aH (t6 gy (aH (De M (T.trans s4) ?_))));have V:=T.trans s4;intro k zx kt kf;have m3:=m.addA U k λx n z K=>(kt x n).trans (DX R X z K);rw[<- Ld,<- bT] at m3;have n3:B.size<=(B++a.extract d (d+k)).size:=by rw[gi];lia
   show wpS _ _ _ _ (if k>0 then _ else _) _ _;apply EY (H:=λ(O:Array bg)(C:Nat)=>Mg κ a.toList b.toList O.toList C f/\B.size<=O.size/\C+1<a.size/\∀x∈a.toList.drop C,Le κ y x)
   ·intro p;by_cases ug:k>0
    ·rw[JV ug];show wpS _ _ _ _ (if (d+k+1==a.size)=JQ then _ else _) _ _;by_cases e1:d+k+1=a.size
     ·rw[JV ⇑e1];exact aN ⟨V,.inl ⟨_,rfl,u_ m3 e1⟩⟩
     ·rw[JW ⇑e1];show wpS _ _ _ _ (if (d+k==a.size)=JQ then _ else _) _ _;by_cases e2:d+k=a.size
      ·rw[JV ⇑e2];exact aN ⟨V,.inl ⟨_,rfl,tX m3 (.inr e2)⟩⟩
      ·rw[JW ⇑e2];have Z:=fi m3 (fi n3 (fi (show d+k+1<a.size by lia) kf));generalize B++a.extract d (d+k)=O at Z ⊢;generalize d+k=C at Z ⊢;exact p O C Z
    ·rw[JW ug];have xn:k=0:=by lia
     rw[xn,Nat.add_zero] at kf;exact p B d ⟨m,ay _,J,kf⟩
   rintro O C ⟨m3,n3,f3,CJ⟩;have m4:=Qc m3 R X CJ;refine aH (t6 gy ?_);show wpS _ _ _ _ (if (f+1==b.size)=JQ then _ else _) _ _;by_cases e3:f+1=b.size
   ·rw[JV ⇑e3];exact aN ⟨V,.inl ⟨_,rfl,tX m4 (.inl e3)⟩⟩
   ·rw[JW ⇑e3];obtain⟨x,gx,S⟩:=ya (a:=a) (i:=C) 'd';refine aH (t6 gx (aH (Dd x S _ V 'd' ?_)));intro P t9 NA BK;have m5:=m4.addB R P λz K u hu=>(NA z K).trans (DX U S u hu);rw[<- Ld,<- bT] at m5;have n5:O.size+1<=(O.push y++b.extract (f+1) (f+1+P)).size:=by rw[gi,cB];lia
    show wpS _ _ _ _ (if P>0 then _ else _) _ _;apply EY (H:=λ(xb:Array bg)(W:Nat)=>Mg κ a.toList b.toList xb.toList C W/\O.size+1<=xb.size/\W<b.size/\∀z∈b.toList.drop W,Le κ x z)
    ·intro p;by_cases ug:P>0
     ·rw[JV ug];show wpS _ _ _ _ (if (f+1+P==b.size)=JQ then _ else _) _ _;by_cases e4:f+1+P=b.size
      ·rw[JV ⇑e4];exact aN ⟨V,.inl ⟨_,rfl,tX m5 (.inl e4)⟩⟩
      ·rw[JW ⇑e4];have Z:=fi m5 (fi n5 (fi (show f+1+P<b.size by lia) BK));generalize O.push y++b.extract (f+1) (f+1+P)=xb at Z ⊢;generalize f+1+P=W at Z ⊢;exact p xb W Z
     ·rw[JW ug];have xn:P=0:=by lia
      rw[xn,Nat.add_zero] at BK;exact p (O.push y) (f+1) ⟨m4,by rw[cB];exact ay _,by lia,BK⟩
    rintro xb W ⟨m5,n5,f5,BK⟩;have m6:=P6 m5 U S BK;refine aH (t6 gx ?_);show wpS _ _ _ _ (if (C+1+1==a.size)=JQ then _ else _) _ _;by_cases e5:C+1+1=a.size
    ·rw[JV ⇑e5];exact aN ⟨V,.inl ⟨_,rfl,u_ m6 e5⟩⟩
    ·rw[JW ⇑e5];split
     ·exact aN ⟨V,.inr ⟨xb.push x,C+1,W,_,_,_,rfl,m6,by lia,f5,by rw[cB];lia⟩⟩
     ·exact aN ⟨V,xb.push x,C+1,W,_,_,_,rfl,m6,by lia,f5,by rw[cB];lia⟩
  ·rintro c ql ⟨T,B,d,f,G,t,v,rfl,m,J,F,c6⟩;have:=m.len 'd' 'd';rw[aG] at this;rw[eo] at c6;lia
  ·exact⟨sm,o,d,f,_,t,v,rfl,m,J,F,by lia⟩
  rintro c ql ⟨T,h⟩;rcases h with⟨r,e,hr⟩|⟨B,d,f,G,t,v,rfl,m,J,F,c7⟩
  ·obtain⟨c,c'⟩:=c;dsimp only at e;subst e;exact aN ⟨T,r,rfl,hr⟩
  ·exact aH (fM (aN ⟨⟨T.kind,T.arr,T.pend,T.failed⟩,B,d,f,_,rfl,m,J,F,by lia⟩))
 ·rintro c qU ⟨sm,l,d,f,G,rfl,m,J,F,c5⟩;have:=m.len 'd' 'd';rw[aG] at this;rw[eo] at c5;lia
 ·exact⟨oV.refl st,#[b0],0,1,_,rfl,m0,by lia,by lia,by simp⟩
 ·rintro⟨c,c'⟩ qU ⟨sm,r,e,hr⟩;dsimp only at e;subst e;exact aN (q r qU sm hr)
end
section
variable{κ:a7}
structure Mh(κ:a7)(a b o:List bg)(i j:Nat):Prop where
 perm:o.Perm (a.drop i++b.drop j)
 srt:qK κ o.reverse
 la:∀x∈a.take i,∀y∈o,Le κ x y
 lb:∀x∈b.take j,∀y∈o,Le κ x y
variable{a b o:List bg}{i j:Nat}
def Mh.len(h:Mh κ a b o i j):o.length=(a.length-i)+(b.length-j):=by rw[h.perm.length_eq,az,ck,ck]
def zhJ{α:Type}{l:List α}{i k:Nat}(h:k<=i){x:α}(c:x∈l.take k):x∈l.take i:=by
 have:l.take k=(l.take i).take k:=by rw[gr,gc h]
 rw[this] at c;exact cn c
def zdW{α:Type}(l:List α)(h:k<=i):l.drop k=(l.take i).drop k++l.drop i:=by
 by_cases c:i<=l.length
 ·conv=>lhs;rw[<- cH i l]
  rw[eS (by rw[bI];lia)]
 ·rw[cP 'd',fe (i:=i) 'd',bV]
def qK.mid(h:qK κ l)(d:k<=i):∀x∈l.take k,∀y∈(l.take i).drop k,Le κ x y:=by
 have e:qK κ (l.take i):=h.sublist (cV i l);intro x c y f;have:l.take k=(l.take i).take k:=by rw[gr,gc d]
 rw[this] at c;exact e.take_drop k x c y f
def Mh.addA(h:Mh κ a b o i j)(f:qK κ a){k:Nat}(d:k<=i)(e:∀z∈b.take j,∀y∈(a.take i).drop k,Le κ z y):Mh κ a b (o++((a.take i).drop k).reverse) k j:=by
 refine⟨?_,?_,λx c y hy=>?_,λx c y hy=>?_⟩
 ·rw[zdW a d];refine(h.perm.append (mZ _)).trans ?_;rw[bh];refine cU.trans ?_;rw[bh];exact cU
 ·rw[List.reverse_append,List.reverse_reverse];unfold qK;rw[cm];exact⟨(f.sublist (cV i a)).sublist (dk k _),h.srt,λx c y hy=>h.la x (cN c) y (fU.mp hy)⟩
 ·rcases aP.mp hy with hy|hy
  ·exact h.la x (zhJ d c) y hy
  ·exact f.mid d x c y (fU.mp hy)
 ·rcases aP.mp hy with hy|hy
  ·exact h.lb x c y hy
  ·exact e x c y (fU.mp hy)
def Mh.swap(h:Mh κ a b o i j):Mh κ b a o j i:=⟨h.perm.trans cU,h.srt,h.lb,h.la⟩
def Mh.addB(h:Mh κ a b o i j)(d:qK κ b)(e:k<=j)(c:∀z∈a.take i,∀y∈(b.take j).drop k,Le κ z y):Mh κ a b (o++((b.take j).drop k).reverse) i k:=(h.swap.addA d e c).swap
def Mh.fin(h:Mh κ a b o i j)(d:qK κ a)(e:qK κ b)(f:∀x∈a.take i,∀y∈b.take j,Le κ x y):Out κ a b (a.take i++b.take j++o.reverse):=by
 refine⟨?_,?_⟩
 ·refine(((mZ o).trans h.perm).append_left _).trans ?_
  conv=>rhs;rw[<- cH i a,<- cH j b]
  simp only[bh];refine fx _ ?_;rw[<- bh,<- bh];exact cU.append_right _
 ·unfold qK;rw[cm,cm];refine⟨⟨d.sublist (cV i a),e.sublist (cV j b),f⟩,h.srt,λx g y c=>?_⟩;rcases aP.mp g with h'|h'
  ·exact h.la x h' y (fU.mp c)
  ·exact h.lb x h' y (fU.mp c)
def Mh.fin'(h:Mh κ a b o i j)(c:qK κ a)(d:qK κ b)(e:∀y∈b.take j,∀x∈a.take i,Le κ y x):Out κ a b (b.take j++a.take i++o.reverse):=by have:=h.swap.fin d c e;exact⟨this.perm.trans cU,this.srt⟩
def FJ{l:List bg}{i:Nat}{x:bg}(h:l[i]?=YP x):(l.take (i+1)).drop i=[x]:=by obtain⟨c,rfl⟩:=am.mp h;rw[n6,eB,d7 c];rfl
def Fl{l:List bg}(h:qK κ l){i:Nat}{x:bg}(c:l[i]?=YP x):∀y∈l.take (i+1),Le κ y x:=by
 intro y hy;have e:=FJ c;have:l.take (i+1)=l.take i++[x]:=by
  rw[gu,c];rfl
 rw[this] at hy;rcases aP.mp hy with hy|hy
 ·exact h.mid (eD i) y hy x (by rw[e];simp)
 ·rw[cE.mp hy];exact Le.refl _
def IE{c:Array bg}{x:bg}(m:Mh κ a b c.toList (i+1) j)(e:qK κ a)(d:a[i]?=YP x)(h:∀z∈b.take j,Le κ z x):Mh κ a b (c.push x).toList i j:=by have:=m.addA e (k:=i) 'd' (by rw[FJ d];intro z f y g;rw[cE.mp g];exact h z f);rw[FJ d] at this;rw[eQ];exact this
def QY{c:Array bg}{x:bg}(m:Mh κ a b c.toList i (j+1))(e:qK κ b)(d:b[j]?=YP x)(h:∀z∈a.take i,Le κ z x):Mh κ a b (c.push x).toList i j:=by have:=m.addB e (k:=j) 'd' (by rw[FJ d];intro z f y g;rw[cE.mp g];exact h z f);rw[FJ d] at this;rw[eQ];exact this
def H9(a:Array bg)(i:Nat):(a.extract 0 i).toList=a.toList.take i:=by simp
def P5(a:Array bg)(k i:Nat):((a.extract k i).reverse).toList=((a.toList.take i).drop k).reverse:=by simp[n6]
end
section
variable{prog:aK}{w:aT}{A:aU}{E:ae->ah->Prop}{s:ah}{κ:a7}{st:cf}{kd:KT}
def IS{n:Nat}{o:Array bg}{x:bg}(h:n<=o.size):n+1<=(o.push x).size:=by rw[cB];lia
def ZI(ho:xv prog w A s κ kd)(hk:kindOf st=kd)(ha:∀x∈a.toList,uj κ x)(hb:∀x∈b.toList,uj κ x)(U:qK κ a.toList)(Y:qK κ b.toList)(pa:1<=a.size)(pb:1<=b.size)
  (h0:∀x∈b.toList.take 1,∀y∈a.toList,Le κ x y) (hl:∀y∈b.toList,∀x∈a.toList.drop (a.size-1),Le κ y x) {Q:Array bg->cf->Prop} (q:∀r D,oV st D->Out κ a.toList b.toList r.toList->Q r D):wpS (au prog w) A E s ((pd.hi ph) a b) Q st:=by
 have Ny:a.toList.length=a.size:=aG;have Nw:b.toList.length=b.size:=aG;have tX:∀{l:Array bg}{d f:Nat},Mh κ a.toList b.toList l.toList d f->(d=0\/f=0)->Out κ a.toList b.toList (a.extract 0 d++b.extract 0 f++l.reverse).toList:=λ{l d f}m h=>by
  rw[bT,bT,H9,H9,lI];refine m.fin U Y λx P y W=>?_;rcases h with rfl|rfl
  ·cases P
  ·cases W
 have u_:∀{l:Array bg}{d f:Nat},Mh κ a.toList b.toList l.toList d f->f=1->Out κ a.toList b.toList (b.extract 0 f++a.extract 0 d++l.reverse).toList:=λ{l d f}m h=>by
  rw[bT,bT,H9,H9,lI];subst h;exact m.fin' U Y λy W x P=>h0 y W x (cn P)
 obtain⟨x0,g0,l0⟩:=ya (a:=a) (i:=a.size-1) 'd';have m0:Mh κ a.toList b.toList (#[x0]:Array bg).toList (a.size-1) b.size:=by
  have m00:Mh κ a.toList b.toList (#[]:Array bg).toList (a.size-1+1) b.size:=by
   refine⟨?_,eO,(λx _ y W=>nomatch W),(λx _ y W=>nomatch W)⟩;rw[fe 'd',fe 'd'];exact e9 _
  exact IE m00 U l0 λz F=>hl z (cn F) x0 (by
   have:=BA l0;exact cn (by rw[this];simp:x0∈(a.toList.drop (a.size-1)).take 1))
 show wpS _ _ _ _ (_ >>= _) Q st;refine aH (js (dP ⟨rfl,aH (t6 g0 ?_)⟩));show wpS _ _ _ _ (if (a.size-1==0)=JQ then _ else _) Q st;by_cases c1:a.size-1=0
 ·rw[JV ⇑c1];exact aN (q _ st (oV.refl st) (tX m0 (.inl c1)))
 rw[JW ⇑c1];show wpS _ _ _ _ (if (b.size==1)=JQ then _ else _) Q st;by_cases c2:b.size=1
 ·rw[JV ⇑c2];exact aN (q _ st (oV.refl st) (u_ m0 c2))
 rw[JW ⇑c2];refine aH (gW (aH (dQ (cT (I:=λk c D=>oV st D/\∃d f l G,c=(JL,d,f,l,G)/\Mh κ a.toList b.toList l.toList d f/\1<=d/\d<=a.size/\2<=f/\f<=b.size/\k+1<=l.size) (Q:=λc D=>oV st D/\∃r,c.1=YP r/\Out κ a.toList b.toList r.toList) ?_ ?_ ?_) ?_)))
 ·rintro k c qU _ hkt ⟨sm,d,f,l,G,rfl,m,J,K,N,O,c5⟩;have GK:kindOf qU=kd:=sm.kind.trans hk;refine aH (dQ (cT (I:=λj c D=>D=qU/\∃d f o v B,c=(JL,d,f,o,v,B)/\Mh κ a.toList b.toList o.toList d f/\1<=d/\d<=a.size/\2<=f/\f<=b.size/\l.size+j<=o.size) (Q:=λc D=>D=qU/\((∃r,c.1=YP r/\Out κ a.toList b.toList r.toList) \/ ∃d f o v B,c=(JL,d,f,o,v,B)/\Mh κ a.toList b.toList o.toList d f/\1<=d/\d<=a.size/\2<=f/\f<=b.size/\l.size+1<=o.size)) ?_ ?_ ?_) ?_)
  ·rintro j c qD _ Oa ⟨rfl,d,f,o,v,B,rfl,m,J,K,N,O,c6⟩;obtain⟨p,rfl⟩:∃p,d=p+1:=⟨d-1,by lia⟩;obtain⟨r,rfl⟩:∃r,f=r+1:=⟨f-1,by lia⟩;obtain⟨y,gy,Z⟩:=ya (a:=b) (i:=r) 'd';obtain⟨x,gx,V⟩:=ya (a:=a) (i:=p) 'd';refine aH (t6 gy (aH (t6 gx (aH (Fg ho GK (hb y (aO Z)) (ha x (aO V)) ?_)))));cases hc:κ.blt (ky κ y) (ky κ x) with
   | true=>
    have m':=IE m U V λz F=>(Fl Y Z z F).trans (Le.of hc);refine aH (t6 gx ?_);show wpS _ _ _ _ (if (p==0)=JQ then _ else _) _ qD;by_cases e:p=0
    ·rw[JV ⇑e];exact aN ⟨rfl,.inl ⟨_,rfl,tX m' (.inl e)⟩⟩
    ·rw[JW ⇑e];split
     ·exact aN ⟨rfl,.inr ⟨p,r+1,o.push x,v+1,0,rfl,m',by lia,by lia,N,O,by rw[cB];lia⟩⟩
     ·exact aN ⟨rfl,p,r+1,o.push x,v+1,0,rfl,m',by lia,by lia,N,O,by rw[cB];lia⟩
   | false=>
    have m':=QY m Y Z λz F=>(Fl U V z F).trans (show Le κ x y from hc);refine aH (t6 gy ?_);show wpS _ _ _ _ (if (r==1)=JQ then _ else _) _ qD;by_cases e:r=1
    ·rw[JV ⇑e];exact aN ⟨rfl,.inl ⟨_,rfl,u_ m' e⟩⟩
    ·rw[JW ⇑e];split
     ·exact aN ⟨rfl,.inr ⟨p+1,r,o.push y,0,B+1,rfl,m',J,K,by lia,by lia,by rw[cB];lia⟩⟩
     ·exact aN ⟨rfl,p+1,r,o.push y,0,B+1,rfl,m',J,K,by lia,by lia,by rw[cB];lia⟩
  ·rintro c qD ⟨rfl,d,f,o,v,B,rfl,m,J,K,N,O,c6⟩;have:=m.len;rw[aG] at this;rw[eo] at c6;lia
  ·exact⟨rfl,d,f,l,0,0,rfl,m,J,K,N,O,by lia⟩
  rintro c qD ⟨rfl,h⟩;rcases h with⟨r,e,hr⟩|⟨d,f,o,v,B,rfl,m,J,K,N,O,c6⟩
  ·obtain⟨c,c'⟩:=c;dsimp only at e;subst e;exact aN ⟨sm,r,rfl,hr⟩
  refine aH (js (dP ⟨rfl,aH (dQ (cT (I:=λj c D=>oV st D/\∃d f C G v B,c=(JL,d,f,C,G,v,B)/\Mh κ a.toList b.toList C.toList d f/\1<=d/\d<=a.size/\2<=f/\f<=b.size/\o.size+j<=C.size) (Q:=λc D=>oV st D/\((∃r,c.1=YP r/\Out κ a.toList b.toList r.toList) \/ ∃d f C G v B,c=(JL,d,f,C,G,v,B)/\Mh κ a.toList b.toList C.toList d f/\1<=d/\d<=a.size/\2<=f/\f<=b.size/\o.size<=C.size)) ?_ ?_ ?_) ?_)⟩))
  ·rintro j c ql _ Oa ⟨X,d,f,C,G,v,B,rfl,m,J,K,N,O,c6⟩;obtain⟨r,rfl⟩:∃r,f=r+1:=⟨f-1,by lia⟩;obtain⟨y,gy,Z⟩:=ya (a:=b) (i:=r) 'd';have W:=hb y (aO Z);have De:∀R,oV st R->∀{Q:Option Nat->cf->Prop},(∀k,k<=d->(∀x∈a.toList.take k,Le κ x y)->(∀x∈(a.toList.take d).drop k,Le κ y x)->Q (YP k) R)->wpS (au prog w) A E s ((pd.g ph) JU y a 0 d (d-1)) Q R:=λR s4 Q h=>
    D3 ho (L:=a.toList.take d) (by rw[li]) (s4.kind.trans hk) W 'd' 'd' (λx P=>ha x (cn P)) (U.sublist (cV d _)) λk h1 h2 h3=>h k h1 (λx P=>by
     have:=h2 x (by rw[gr,gc h1];exact P);unfold uw at this;rw[JW 'u'] at this;unfold Le;simpa using this) λx P=>by
     have:=h3 x P;unfold uw at this;rw[JW 'u'] at this;exact Le.of ⇑this
   have Dd:∀x{n:Nat},a.toList[n]?=YP x->∀R,oV st R->1<=r->∀{Q:Option Nat->cf->Prop},(∀k,k<=r->(∀z∈(b.toList.take r).drop k,Le κ x z)->(∀z∈b.toList.take k,Le κ z x)->Q (YP k) R)->wpS (au prog w) A E s ((pd.g ph) JQ x b 0 r (r-1)) Q R:=λx n V R s4 h4 Q h=>
    D3 ho (L:=b.toList.take r) (by rw[li]) (s4.kind.trans hk) (ha x (aO V)) 'd' 'd' (λx P=>hb x (cn P)) (Y.sublist (cV _ _)) λk h1 h2 h3=>h k h1 (λz F=>by
     have:=h3 z F;unfold uw at this;rw[JV rfl] at this;exact this) λz F=>by
     have:=h2 z (by rw[gr,gc h1];exact F);unfold uw at this;rw[JV rfl] at this;exact Le.of this
   show wpS _ _ _ _ (if G>1 then _ else _) _ ql;apply Qm (α:=Nat)
   ·intro S;split
    ·generalize G-1=Gb;exact S Gb
    ·exact S G
   intro Gb;refine aH (R0 ⟨rfl,rfl,rfl,rfl⟩ λR s4=>aH (t6 gy (aH (De R (X.trans s4) ?_))));have T:=X.trans s4;intro k zx CJ kt;have m3:=m.addA U zx λz F u hu=>(Fl Y Z z F).trans (kt u hu);rw[<- P5,<- bT] at m3;have n3:C.size<=(C++(a.extract k d).reverse).size:=by rw[gi];lia
   show wpS _ _ _ _ (if d-k>0 then _ else _) _ _;apply EY (H:=λ(M:Array bg)(CG:Nat)=>Mh κ a.toList b.toList M.toList CG (r+1)/\C.size<=M.size/\1<=CG/\CG<=a.size/\∀x∈a.toList.take CG,Le κ x y)
   ·intro S;by_cases ug:d-k>0
    ·rw[JV ug];show wpS _ _ _ _ (if (k==0)=JQ then _ else _) _ _;by_cases e1:k=0
     ·rw[JV ⇑e1];exact aN ⟨T,.inl ⟨_,rfl,tX m3 (.inl e1)⟩⟩
     ·rw[JW ⇑e1];have hh:=fi m3 (fi n3 (fi (show 1<=k by lia) (fi (show k<=a.size by lia) CJ)));generalize C++(a.extract k d).reverse=M at hh ⊢;generalize k=q3 at hh ⊢;exact S M q3 hh
    ·rw[JW ug];have xn:k=d:=by lia
     rw[xn] at CJ ⊢;exact S C d ⟨m,ay _,J,K,CJ⟩
   rintro M CG ⟨m3,n3,f3,f3',CJ⟩;have m4:=QY m3 Y Z CJ;refine aH (t6 gy ?_);show wpS _ _ _ _ (if (r==1)=JQ then _ else _) _ _;by_cases e3:r=1
   ·rw[JV ⇑e3];exact aN ⟨T,.inl ⟨_,rfl,u_ m4 e3⟩⟩
   ·rw[JW ⇑e3];obtain⟨n,rfl⟩:∃n,CG=n+1:=⟨CG-1,by lia⟩;obtain⟨x,gx,V⟩:=ya (a:=a) (i:=n) 'd';refine aH (t6 gx (aH (Dd x V _ T 'd' ?_)));intro t t9 NA BK;have m5:=m4.addB Y t9 λz F u hu=>(Fl U V z F).trans (NA u hu);rw[<- P5,<- bT] at m5;have n5:M.size+1<=(M.push y++(b.extract t r).reverse).size:=by rw[gi,cB];lia
    by_cases ug:r-t>0
    ·show wpS _ _ _ _ (if r-t>0 then _ else _) _ _;rw[JV ug];show wpS _ _ _ _ (if (t==1)=JQ then _ else _) _ _;by_cases e4:t=1
     ·rw[JV ⇑e4];exact aN ⟨T,.inl ⟨_,rfl,u_ m5 e4⟩⟩
     ·rw[JW ⇑e4];show wpS _ _ _ _ (if (t==0)=JQ then _ else _) _ _;by_cases e6:t=0
      ·rw[JV ⇑e6];exact aN ⟨T,.inl ⟨_,rfl,tX m5 (.inr e6)⟩⟩
      ·rw[JW ⇑e6];have f5:2<=t:=by lia
       have m6:=IE m5 U V BK;refine aH (t6 gx ?_);show wpS _ _ _ _ (if (n==0)=JQ then _ else _) _ _;by_cases e5:n=0
       ·rw[JV ⇑e5];exact aN ⟨T,.inl ⟨_,rfl,tX m6 (.inl e5)⟩⟩
       ·rw[JW ⇑e5];split
        ·exact aN ⟨T,.inr ⟨n,t,_,_,_,_,rfl,m6,(by lia:1<=n),(by lia:n<=a.size),f5,(by lia:t<=b.size),aM (by lia:o.size<=M.size+1+1) (IS n5)⟩⟩
        ·exact aN ⟨T,n,t,_,_,_,_,rfl,m6,(by lia:1<=n),(by lia:n<=a.size),f5,(by lia:t<=b.size),aM (by lia:o.size+(j+1)<=M.size+1+1) (IS n5)⟩
    ·have xn:t=r:=by lia
     subst xn;show wpS _ _ _ _ (if t-t>0 then _ else _) _ _;rw[JW ug];have f5:2<=t:=by lia
     replace m5:=m4
     replace n5:M.size+1<=(M.push y).size:=by rw[cB];exact ay _
     have m6:=IE m5 U V BK;refine aH (t6 gx ?_);show wpS _ _ _ _ (if (n==0)=JQ then _ else _) _ _;by_cases e5:n=0
     ·rw[JV ⇑e5];exact aN ⟨T,.inl ⟨_,rfl,tX m6 (.inl e5)⟩⟩
     ·rw[JW ⇑e5];split
      ·exact aN ⟨T,.inr ⟨n,t,_,_,_,_,rfl,m6,(by lia:1<=n),(by lia:n<=a.size),f5,(by lia:t<=b.size),aM (by lia:o.size<=M.size+1+1) (IS n5)⟩⟩
      ·exact aN ⟨T,n,t,_,_,_,_,rfl,m6,(by lia:1<=n),(by lia:n<=a.size),f5,(by lia:t<=b.size),aM (by lia:o.size+(j+1)<=M.size+1+1) (IS n5)⟩
  ·rintro c ql ⟨X,d,f,C,G,v,B,rfl,m,J,K,N,O,c6⟩;have:=m.len;rw[aG] at this;rw[eo] at c6;lia
  ·exact⟨sm,d,f,o,_,v,B,rfl,m,J,K,N,O,by lia⟩
  rintro c ql ⟨X,h⟩;rcases h with⟨r,e,hr⟩|⟨d,f,C,G,v,B,rfl,m,J,K,N,O,c7⟩
  ·obtain⟨c,c'⟩:=c;dsimp only at e;subst e;exact aN ⟨X,r,rfl,hr⟩
  ·exact aH (fM (aN ⟨⟨X.kind,X.arr,X.pend,X.failed⟩,d,f,C,_,rfl,m,J,K,N,O,by lia⟩))
 ·rintro c qU ⟨sm,d,f,l,G,rfl,m,J,K,N,O,c5⟩;have:=m.len;rw[aG] at this;rw[eo] at c5;lia
 ·exact⟨oV.refl st,a.size-1,b.size,#[x0],_,rfl,m0,by lia,by lia,by lia,by lia,by simp⟩
 ·rintro⟨c,c'⟩ qU ⟨sm,r,e,hr⟩;dsimp only at e;subst e;exact aN (q r qU sm hr)
end
theorem RH(p:Nat):∀(m:List bg)(j:Nat)(xs:Array bg),p+j+m.length<=xs.size->((m.zipIdx j).foldl (λa x=>a.setIfInBounds (p+x.2) x.1) xs).toList=xs.toList.take (p+j)++m++xs.toList.drop (p+j+m.length)
 |[],j,xs,_=>by simp
 | x::m,j,xs,h=>by
  rw[bt] at h;rw[i4,fv,RH p m (j+1) _ (by rw[km];lia),jP,<- lT];have b:p+j<xs.toList.length:=by rw[aG];lia
  have c:(xs.toList.set (p+j) x).take (p+j+1)=xs.toList.take (p+j)++[x]:=by
   rw[gu,aZ b,List.take_set_of_le (ay _)];rfl
  rw[c,List.drop_set_of_lt 'd',bt,bh,bh,bh];have:p+j+1+m.length=p+j+(m.length+1):=by lia
  rw[this];rfl
def ze2(h:p+m.length<=xs.size):(lay xs p m).toList=xs.toList.take p++m++xs.toList.drop (p+m.length):=RH p m 0 xs h
section
variable{prog:aK}{w:aT}{A:aU}{E:ae->ah->Prop}{s:ah}{κ:a7}{st:cf}{kd:KT}
def Za(I:xv prog w A s κ kd)(t:kindOf st=kd)(N:failedOf st=JL)(d:(JX st).toList=P++(X++(Y++R)))(h1:(J0 st)[i]?=YP (P.length,X.length,pw))(h2:(J0 st)[i+1]?=YP (P.length+X.length,Y.length,JT))
  (J:1<=X.length) (O:1<=Y.length) (C:qK κ X) (D:qK κ Y) (F:∀x∈X++Y,uj κ x) {Q:Bool->cf->Prop}
  (q:∀b M,kindOf b=kd->failedOf b=JL->J0 b=((J0 st).setIfInBounds i (P.length,X.length+Y.length,pw)).eraseIdxIfInBounds (i+1)->(JX b).toList=P++(M++R)->M.Perm (X++Y)->qK κ M->Q JQ b):wpS (au prog w) A E s (mergeAt' i) Q st:=by
 have G:(JX st).size=P.length+(X.length+(Y.length+R.length)):=by
  rw[<- aG,d];simp
 have S:∀x∈X,uj κ x:=λx h=>F x (ci _ h);have T:∀x∈Y,uj κ x:=λx h=>F x (aC _ h);have f:∀(j:Nat)(x:bg),(P++(X++(Y++R)))[j]?=YP x->(JX st)[j]?=YP x:=λj x h=>by
  rw[<- d] at h;rw[<- h];simp
 obtain⟨g,K⟩:∃g,Y[0]?=YP g:=⟨Y[0],aw _⟩;have gb:(JX st)[P.length+X.length]?=YP g:=f _ _ (by
  rw[bu 'd',eB,bu (ay _),my,aL 'd'];exact K)
 have dX:((JX st).toList.drop P.length).take X.length=X:=by rw[d];simp
 have dY:((JX st).toList.drop (P.length+X.length)).take Y.length=Y:=by rw[d,<- bh,eS 'k',<- az];simp
 have U:=T g (aO K);have V:∀y∈Y,Le κ g y:=λy h=>DX D K y ⇑h;refine(pd.at_ ph) h1 h2 gb ?_;refine D3 (base:=P.length) (n:=X.length) (hint:=0) I dX ?_ U 'd' 'd' S C ?_
 ·exact t
 refine λk zx kt kf=>⟨k,rfl,λug=>?_,λug=>?_⟩
 ·have W:k=X.length:=by lia
  refine q _ (X++Y) t N rfl (by show(JX st).toList=_;rw[d,bh]) (e9 _) ?_;unfold qK;rw[cm];refine⟨C,D,λx h y c=>Le.trans ?_ (V y c)⟩;have:=kt x (by rw[W,gH];exact h);unfold uw at this;rw[JW 'u'] at this;unfold Le;simpa using this
 have Z:∀x∈X.take k,Le κ x g:=λx h=>by
  have:=kt x h;unfold uw at this;rw[JW 'u'] at this;unfold Le;simpa using this
 have Wt:∀x∈X.drop k,Le κ g x:=λx h=>by
  have:=kf x h;unfold uw at this;rw[JW 'u'] at this;exact Le.of ⇑this
 obtain⟨l,L⟩:∃l,X[X.length-1]?=YP l:=⟨X[X.length-1],aw _⟩;have ga:(JX st)[P.length+k+(X.length-k)-1]?=YP l:=f _ _ (by
  have:P.length+k+(X.length-k)-1=P.length+(X.length-1):=by lia
  rw[this,bu 'd',eB,aL 'd'];exact L)
 have hka:=S l (aO L);have Xg:∀x∈X,Le κ x l:=λx h=>Fl C L x (by rw[cP 'd'];exact h);refine⟨l,ga,?_⟩;refine D3 (base:=P.length+X.length) (n:=Y.length) (hint:=Y.length-1) I dY ?_ hka 'd' 'd' T D ?_
 ·exact t
 refine λm hm mt mf=>⟨m,rfl,λWH=>?_,λWH=>?_⟩
 ·refine q _ (X++Y) t N rfl (by show(JX st).toList=_;rw[d,bh]) (e9 _) ?_;unfold qK;rw[cm];refine⟨C,D,λx h y c=>Le.trans (Xg x h) ?_⟩;have:=mf y (by rw[WH];exact c);unfold uw at this;rw[JV rfl] at this;exact this
 have Wr:∀y∈Y.take m,Le κ y l:=λy h=>by
  have:=mt y h;unfold uw at this;rw[JV rfl] at this;exact Le.of this
 have Ws:∀y∈Y.drop m,Le κ l y:=λy h=>by
  have:=mf y h;unfold uw at this;rw[JV rfl] at this;exact this
 have u:((JX st).extract (P.length+k) (P.length+X.length)).toList=X.drop k:=by
  simp only[lH,j7];rw[d,<- eI,n8,eS zx];have:P.length+X.length-(P.length+k)=(X.drop k).length:=by rw[ck];lia
  rw[this,n9]
 have v:((JX st).extract (P.length+X.length) (P.length+X.length+m)).toList=Y.take m:=by
  rw[Ld];rw[<- dY,gr,gc hm]
 have szX:((JX st).extract (P.length+k) (P.length+X.length)).size=X.length-k:=by rw[<- aG,u,ck]
 have szY:((JX st).extract (P.length+X.length) (P.length+X.length+m)).size=m:=by rw[<- aG,v,bI];lia
 have H:∀(B:Array bg)(o:cf),oV (setPending st (((J0 st).setIfInBounds i (P.length,X.length+Y.length,pw)).eraseIdxIfInBounds (i+1))) o->Out κ (X.drop k) (Y.take m) B.toList->Q (failedOf o).isNone (setArr o (lay (JX o) (P.length+k) B.toList)):=λB o p a=>by
  have Ey:B.toList.length=(X.length-k)+m:=by rw[a.perm.length_eq,az,ck,bI];lia
  have EC:failedOf o=JL:=p.failed.trans N;rw[EC];have vN:JX o=JX st:=p.arr;refine q _ (X.take k++(B.toList++Y.drop m)) (p.kind.trans t) EC p.pend ?_ ?_ ?_
  ·show(lay (JX o) (P.length+k) B.toList).toList=_;rw[vN,ze2 (by rw[Ey,G];lia),d,Ey];have e1:(P++(X++(Y++R))).take (P.length+k)=P++X.take k:=by
    rw[List.take_append,cP 'd',eB,List.take_append_of_le_length zx]
   have e2:(P++(X++(Y++R))).drop (P.length+k+(X.length-k+m))=Y.drop m++R:=by
    have:P.length+k+(X.length-k+m)=(P++X).length+m:=by rw[az];lia
    rw[this,<- bh,<- eI,n8,eS hm]
   rw[e1,e2];simp
  ·conv=>rhs;rw[<- cH k X,<- cH m Y]
   rw[bh];refine fx _ ?_;rw[<- bh];exact a.perm.append_right _
  ·unfold qK;rw[cm,cm];have Gc:∀z∈B.toList,z∈X.drop k\/z∈Y.take m:=λz hz=>aP.mp (a.perm.mem_iff.mp hz);refine⟨C.sublist (cV k X),⟨a.srt,D.sublist (dk m Y),λz hz y O=>?_⟩,λx J z hz=>?_⟩
   ·rcases Gc z hz with h|h
    ·exact(Xg z (cN h)).trans (Ws y O)
    ·exact(Wr z h).trans (Ws y O)
   ·rcases aP.mp hz with hz|hz
    ·rcases Gc z hz with h|h
     ·exact(Z x J).trans (Wt z h)
     ·exact(Z x J).trans (V z (cn h))
    ·exact(Z x J).trans (V z (cN hz))
 have p1:∀x∈((JX st).extract (P.length+k) (P.length+X.length)).toList,uj κ x:=by rw[u];exact λx h=>S x (cN h)
 have p2:∀x∈((JX st).extract (P.length+X.length) (P.length+X.length+m)).toList,uj κ x:=by rw[v];exact λx h=>T x (cn h)
 have p3:qK κ ((JX st).extract (P.length+k) (P.length+X.length)).toList:=by rw[u];exact C.sublist (dk k X)
 have p4:qK κ ((JX st).extract (P.length+X.length) (P.length+X.length+m)).toList:=by rw[v];exact D.sublist (cV m Y)
 have p5:∀x∈((JX st).extract (P.length+X.length) (P.length+X.length+m)).toList.take 1,∀y∈((JX st).extract (P.length+k) (P.length+X.length)).toList,Le κ x y:=by
  rw[u,v,gr];intro x h y c;have:x=g:=by
   rw[gc 'd'] at h;have e:=BA K;rw[li] at e;rw[e] at h;simpa using h
  rw[this];exact Wt y c
 have p6:∀y∈((JX st).extract (P.length+X.length) (P.length+X.length+m)).toList,∀x∈((JX st).extract (P.length+k) (P.length+X.length)).toList.drop (((JX st).extract (P.length+k) (P.length+X.length)).size-1),Le κ y x:=by
  rw[u,v,szX,eI];intro y h x c;have:k+(X.length-k-1)=X.length-1:=by lia
  rw[this] at c;have e:=BA L;rw[cP (by rw[ck];lia)] at e;rw[e] at c;rw[cE.mp c];exact Wr y h
 by_cases hc:X.length-k<=m
 ·rw[JV hc];refine ZP I ?_ p1 p2 p3 p4 'd' 'd' p5 p6 λr b p a=>H r b p (by rw[u,v] at a;exact a);exact t
 ·rw[JW hc];refine ZI I ?_ p1 p2 p3 p4 'd' 'd' p5 p6 λr b p a=>H r b p (by rw[u,v] at a;exact a);exact t
end
def P7{G:Prop}{H:cf->Prop}(P:cf->Prop)(h:(∀x,H x->P x)->G)(k:∀x,H x->P x):G:=h k
structure Rl(rX:cf)(lo:Nat)(st:cf):Prop where
 perm:(JX st).Perm (JX rX)
 kind:kindOf st=kindOf rX
 failed:failedOf st=failedOf rX
 pend:J0 st=J0 rX
 fix:∀i,i<lo->(JX st)[i]?=(JX rX)[i]?
def Rl.refl(a:cf)(lo:Nat):Rl a lo a:=⟨ji _,rfl,rfl,rfl,λ_ _=>rfl⟩
def Rl.size{a b:cf}{lo:Nat}(r:Rl a lo b):(JX b).size=(JX a).size:=r.perm.size_eq
def Rl.rev{b a:cf}{lo i j:Nat}(r:Rl b lo a)(h:lo<=i)(c:j<=(JX b).size):Rl b lo (setArr a (mirror (JX a) i j ((j-i)/2))):=by refine⟨(mirror_perm _ _ _ _).trans r.perm,r.kind,r.failed,r.pend,λk d=>?_⟩;show(mirror (JX a) i j ((j-i)/2))[k]?=_;rw[getElem?_mirror_all (by rw[r.size];exact c),JW 'd'];exact r.fix k d
section
variable{prog:aK}{w:aT}{A:aU}{E:ae->ah->Prop}{s:ah}{κ:a7}{rX st:cf}{lo:Nat}{kd:KT}
def Up(κ:a7)(xs:Array bg)(lo n:Nat):Prop:=∀i j,lo<=i->i<=j->j<lo+n->κ.kle (KK κ xs i) (KK κ xs j)
def Dn(κ:a7)(xs:Array bg)(lo n:Nat):Prop:=∀i j,lo<=i->i<=j->j<lo+n->κ.kle (KK κ xs j) (KK κ xs i)
def Bz(a:κ.α):κ.kle a a:=κ.irrefl a
def Up.step(h:Up κ xs lo n)(f:1<=n)(a:κ.kle (KK κ xs (lo+n-1)) (KK κ xs (lo+n))):Up κ xs lo (n+1):=λi j b c g=>by
 by_cases e:j=lo+n
 ·subst e;by_cases d:i=lo+n
  ·subst d;exact Bz _
  ·exact i6 (h i (lo+n-1) b 'd' 'd') a
 ·exact h i j b c 'd'
def Dn.step(h:Dn κ xs lo n)(f:1<=n)(a:κ.kle (KK κ xs (lo+n)) (KK κ xs (lo+n-1))):Dn κ xs lo (n+1):=λi j b c g=>by
 by_cases e:j=lo+n
 ·subst e;by_cases d:i=lo+n
  ·subst d;exact Bz _
  ·exact i6 a (h i (lo+n-1) b 'd' 'd')
 ·exact h i j b c 'd'
def Up.one(xs:Array bg):Up κ xs lo 1:=λi j c d e=>by
 have a:i=lo:=by lia
 have b:j=lo:=by lia
 rw[a,b];exact Bz _
def Dn.one(xs:Array bg):Dn κ xs lo 1:=λi j c d e=>by
 have a:i=lo:=by lia
 have b:j=lo:=by lia
 rw[a,b];exact Bz _
def Fh(e:xv prog w A s κ kd)(a:∀x∈(JX rX).toList,uj κ x)(f:kindOf rX=kd)(r:Rl rX lo st)(hi:i<(JX rX).size)(b:j<(JX rX).size)(q:Q (YP (κ.blt (KK κ (JX st) i) (KK κ (JX st) j))) st):wpS (au prog w) A E s (ltAt' i j) Q st:=by
 rw[<- r.size] at hi b;obtain⟨x,c,g⟩:=ya hi;obtain⟨y,d,h⟩:=ya b;have k:=a x ((dS.mp r.perm).mem_iff.mp (aO g));have l:=a y ((dS.mp r.perm).mem_iff.mp (aO h));have m:KK κ (JX st) i=ky κ x:=by unfold KK ky;rw[c]
 have n:KK κ (JX st) j=ky κ y:=by unfold KK ky;rw[d]
 rw[m,n] at q;rw[ltAt'_eq];exact aH (gW (aH (t6 c (aH (t6 d (Fg e (r.kind.trans f) k l q))))))
def Up.rev(d:Dn κ xs lo m)(h:lo+m<=xs.size):Up κ (mirror xs lo (lo+m) ((lo+m-lo)/2)) lo m:=λi j a b c=>by
 rw[KK_mirror h,KK_mirror h,JV 'd',JV 'd'];exact d _ _ 'd' 'd' 'd'
set_option hygiene false in
local macro_rules|`(tactic| walk_at "asc")=>`(tactic| (
 refine aH (dQ (cT (I:=λk c g_=>g_=qU/\∃ n,c=(none,n)/\n=k/\1<=n/\n<=nrem/\Up κ (arrOf qU) lo n) (Q:=λc g_=>g_=qU/\∃ n,c=(none,n)/\1<=n/\n<=nrem/\Up κ (arrOf qU) lo n/\(n=nrem\/κ.blt (KK κ (arrOf qU) (lo+n)) (KK κ (arrOf qU) (lo+n-1))=true)) ?_ ?_ ?_) ?_)
 ·rintro k c g_ h1 h2 ⟨rfl,n,rfl,rfl,g1,g2,g3⟩
  refine aH (Fh (i:=lo+n) (j:=lo+n-1) ho hs hk r1 (by lia) (by lia) ?_)
  cases e:κ.blt (KK κ (arrOf g_) (lo+n)) (KK κ (arrOf g_) (lo+n-1)) with
  | true=>exact aN ⟨rfl,n,rfl,g1,g2,g3,.inr e⟩
  | false=>exact aN ⟨rfl,n+1,rfl,rfl,by lia,by lia,g3.step (by lia) e⟩
 ·rintro c g_ ⟨rfl,n,rfl,e,g1,g2,g3⟩
  exact⟨rfl,n,rfl,g1,g2,g3,.inl (by lia)⟩
 ·exact⟨rfl,_,rfl,rfl,GC,WE,u1⟩))
def zc1(ho:xv prog w A s κ kd)(hs:∀x∈(JX rX).toList,uj κ x)(hk:kindOf rX=kd){nrem:Nat}(WE:1<=nrem)(hN:lo+nrem<=(JX rX).size){qU:cf}(r1:Rl rX lo qU){Q:Option Nat->cf->Prop}(q:∀m g_,Rl rX lo g_->1<=m->m<=nrem->Up κ (JX g_) lo m->Q (YP m) g_):wpS (au prog w) A E s (countRun' lo nrem) Q qU:=by
 rw[countRun'_eq];have u1:Up κ (JX qU) lo 1:=Up.one _;have GC:1<=1:=ay _;walk_at "asc";rintro c g_ ⟨rfl,n1,rfl,g1,g2,g3,g4⟩;show wpS _ _ _ _ (if (n1==nrem)=JQ then _ else _) Q g_;by_cases e0:n1=nrem
 ·rw[JV ⇑e0];exact aN (q n1 g_ r1 g1 g2 g3)
 rw[JW ⇑e0];have rE:κ.blt (KK κ (JX g_) (lo+n1)) (KK κ (JX g_) (lo+n1-1))=JQ:=by
  rcases g4 with h|h
  ·exact absurd h e0
  ·exact h
 apply P7 (H:=λqD=>Rl rX lo qD/\Dn κ (JX qD) lo (n1+1));intro key;show wpS _ _ _ _ (if n1>1 then _ else _) Q g_;by_cases hc:n1>1
 ·rw[JV hc];refine aH (Fh ho hs hk r1 'd' 'd' ?_);cases e:κ.blt (KK κ (JX g_) lo) (KK κ (JX g_) (lo+n1-1)) with
  |true=>exact aN (q n1 g_ r1 g1 g2 g3)
  | false=>
   refine aH (kQ ?_);have r2:=r1.rev (i:=lo) (j:=lo+n1) (ay lo) 'd';have all:∀k,lo<=k->k<lo+n1->KK κ (JX g_) k=KK κ (JX g_) (lo+n1-1):=λk a b=>
    KeyOrd.kle_antisymm (g3 k (lo+n1-1) a 'd' 'd') (i6 (show κ.kle (KK κ (JX g_) (lo+n1-1)) (KK κ (JX g_) lo) from e) (g3 lo k (ay _) a b))
   have kk:=kH (κ:=κ) (xs:=JX g_) (i:=lo) (j:=lo+n1) (by rw[r1.size];lia) all;have d2:Dn κ (JX (setArr g_ (mirror (JX g_) lo (lo+n1) ((lo+n1-lo)/2)))) lo (n1+1):=by
    show Dn κ (mirror (JX g_) lo (lo+n1) ((lo+n1-lo)/2)) lo (n1+1);refine Dn.step (λi j a b c=>?_) g1 ?_
    ·rw[kk,kk,all i a 'd',all j 'd' c];exact Bz _
    ·rw[kk,kk];exact gj rE
   generalize setArr g_ (mirror (JX g_) lo (lo+n1) ((lo+n1-lo)/2))=qD at *;exact key _ ⟨r2,d2⟩
 ·rw[JW hc];refine key _ ⟨r1,?_⟩;have e1:n1=1:=by lia
  subst e1;exact Dn.step (Dn.one _) (ay _) (gj rE)
 rintro qD ⟨r2,d2⟩;refine aH (js (dP ⟨rfl,aH (dQ (cT (I:=λk c g_=>Rl rX lo g_/\∃n tG,c=(JL,n,tG)/\n=k/\n<=nrem/\Dn κ (JX g_) lo n/\tG+1<=n/\(∀i,lo+n-(tG+1)<=i->i<lo+n->KK κ (JX g_) i=KK κ (JX g_) (lo+n-1))) (Q:=λc g_=>Rl rX lo g_/\∃n tG,c=(JL,n,tG)/\n<=nrem/\Dn κ (JX g_) lo n/\tG+1<=n/\(∀i,lo+n-(tG+1)<=i->i<lo+n->KK κ (JX g_) i=KK κ (JX g_) (lo+n-1))) ?_ ?_ ?_) ?_)⟩))
 ·rintro k c ql h1 h2 ⟨r3,n,tG,rfl,rfl,g2,g3,g4,g5⟩;refine aH (Fh (i:=lo+n) (j:=lo+n-1) ho hs hk r3 'd' 'd' ?_);cases e:κ.blt (KK κ (JX ql) (lo+n)) (KK κ (JX ql) (lo+n-1)) with
  | true=>
   show wpS _ _ _ _ (if tG>0 then _ else _) _ ql;by_cases hq:tG>0
   ·rw[JV hq];refine aH (kQ (aN ⟨r3.rev (i:=lo+n-(tG+1)) (j:=lo+n) 'd' 'd',n+1,0,rfl,rfl,by lia,?_,by lia,?_⟩))
    ·have kk:=kH (κ:=κ) (xs:=JX ql) (i:=lo+n-(tG+1)) (j:=lo+n) (by rw[r3.size];lia) λk a b=>g5 k a b;have d:Dn κ (mirror (JX ql) (lo+n-(tG+1)) (lo+n) ((lo+n-(lo+n-(tG+1)))/2)) lo n:=λi j a b c=>by rw[kk,kk];exact g3 i j a b c
     refine d.step 'd' ?_;rw[kk,kk];exact gj e
    ·intro i a b;have:i=lo+(n+1)-1:=by lia
     rw[this]
   ·rw[JW hq];refine aN ⟨r3,n+1,0,rfl,rfl,by lia,g3.step 'd' (gj e),by lia,?_⟩;intro i a b;have:i=lo+(n+1)-1:=by lia
    rw[this]
  | false=>
   refine aH (Fh (i:=lo+n-1) (j:=lo+n) ho hs hk r3 'd' 'd' ?_);cases e':κ.blt (KK κ (JX ql) (lo+n-1)) (KK κ (JX ql) (lo+n)) with
   |true=>exact aN ⟨r3,n,tG,rfl,g2,g3,g4,g5⟩
   | false=>
    have eq:KK κ (JX ql) (lo+n)=KK κ (JX ql) (lo+n-1):=κ.total _ _ e e';refine aN ⟨r3,n+1,tG+1,rfl,rfl,by lia,g3.step 'd' e',by lia,?_⟩;intro i a b;have:lo+(n+1)-1=lo+n:=by lia
    rw[this];by_cases hi:i=lo+n
    ·rw[hi]
    ·rw[eq];exact g5 i 'd' 'd'
 ·rintro c ql ⟨r3,n,tG,rfl,e,g2,g3,g4,g5⟩;exact⟨r3,n,tG,rfl,g2,g3,g4,g5⟩
 ·exact⟨r2,n1+1,0,rfl,rfl,by lia,d2,by lia,λi a b=>by
   have:i=lo+(n1+1)-1:=by lia
   rw[this]⟩
 ·rintro c ql ⟨r3,n0,tG,rfl,WE,g3,g4,g5⟩;have GC:1<=n0:=by lia
  apply P7 (H:=λrm=>Rl rX lo rm/\Dn κ (JX rm) lo n0);intro key;show wpS _ _ _ _ (if tG>0 then _ else _) Q ql;by_cases hq:tG>0
  ·rw[JV hq];refine aH (kQ ?_);have r4:=r3.rev (i:=lo+n0-(tG+1)) (j:=lo+n0) 'd' 'd';have kk:=kH (κ:=κ) (xs:=JX ql) (i:=lo+n0-(tG+1)) (j:=lo+n0) (by rw[r3.size];lia) λk a b=>g5 k a b;have d4:Dn κ (JX (setArr ql (mirror (JX ql) (lo+n0-(tG+1)) (lo+n0) ((lo+n0-(lo+n0-(tG+1)))/2)))) lo n0:=λi j a b c=>by
    show κ.kle (KK κ (mirror _ _ _ _) j) (KK κ (mirror _ _ _ _) i);rw[kk,kk];exact g3 i j a b c
   generalize setArr ql (mirror (JX ql) (lo+n0-(tG+1)) (lo+n0) ((lo+n0-(lo+n0-(tG+1)))/2))=rm at *;exact key _ ⟨r4,d4⟩
  ·rw[JW hq];exact key _ ⟨r3,g3⟩
  rintro rm ⟨r4,d4⟩;refine aH (kQ ?_);have r1:=r4.rev (i:=lo) (j:=lo+n0) (ay lo) 'd';have u1:Up κ (JX (setArr rm (mirror (JX rm) lo (lo+n0) ((lo+n0-lo)/2)))) lo n0:=Up.rev d4 (by rw[r4.size];lia);generalize setArr rm (mirror (JX rm) lo (lo+n0) ((lo+n0-lo)/2))=qU at *;walk_at "asc"
  ·rintro c g_ ⟨rfl,n,rfl,g1,g2,g3,_⟩;exact aN (q n _ r1 g1 g2 g3)
end
section
variable{prog:aK}{w:aT}{A:aU}{E:ae->ah->Prop}{s:ah}{κ:a7}{rX:cf}{lo:Nat}{kd:KT}
def zhk(H:xv prog w A s κ kd)(J:∀x∈(JX rX).toList,uj κ x)(K:kindOf rX=kd)(L:1<=ok)(U:ok<=n)(V:lo+n<=(JX rX).size)(M:Rl rX lo qU)(N:Up κ (JX qU) lo ok)(q:∀f,Rl rX lo f->Up κ (JX f) lo n->Q JQ f):wpS (au prog w) A E s (binarySort' lo n ok) Q qU:=by
 rw[binarySort'_eq];refine aH (dQ (cT (I:=λk c f=>Rl rX lo f/\c=(JL,())/\1<=k/\Up κ (JX f) lo k) (Q:=λc f=>Rl rX lo f/\c=(JL,())/\Up κ (JX f) lo n) ?_ ?_ ?_) ?_)
 ·rintro k c g _ W ⟨h,rfl,O,m⟩;refine aH (dQ (cT (I:=λj c f=>f=g/\∃l r,c=(JL,l,r)/\l<=r/\r<=k/\r-l<=k-j/\(∀i,i<l->κ.kle (KK κ (JX g) (lo+i)) (KK κ (JX g) (lo+k)))/\(∀i,r<=i->i<k->κ.blt (KK κ (JX g) (lo+k)) (KK κ (JX g) (lo+i))=JQ)) (Q:=λc f=>f=g/\∃l,c=(JL,l,l)/\l<=k/\(∀i,i<l->κ.kle (KK κ (JX g) (lo+i)) (KK κ (JX g) (lo+k)))/\(∀i,l<=i->i<k->κ.blt (KK κ (JX g) (lo+k)) (KK κ (JX g) (lo+i))=JQ)) ?_ ?_ ?_) ?_)
  ·rintro j c d _ X ⟨rfl,l,r,rfl,P,u,y,o,p⟩;show wpS _ _ _ _ (if l ≥ r then _ else _) _ d;by_cases z:l ≥ r
   ·rw[JV z];have:l=r:=by lia
    subst this;exact aN ⟨rfl,l,rfl,u,o,p⟩
   ·rw[JW z];refine aH (Fh (i:=lo+k) (j:=lo+(l+r)/2) H J K h 'd' 'd' ?_);cases e:κ.blt (KK κ (JX d) (lo+k)) (KK κ (JX d) (lo+(l+r)/2)) with
    |true=>exact aN ⟨rfl,l,(l+r)/2,rfl,by lia,by lia,by lia,o,λi v R=>KeyOrd.klt_of_klt_of_kle e (m _ _ 'd' 'd' 'd')⟩
    |false=>exact aN ⟨rfl,(l+r)/2+1,r,rfl,by lia,by lia,by lia,λi v=>i6 (m _ (lo+(l+r)/2) 'd' 'd' 'd') e,p⟩
  ·rintro c d ⟨rfl,l,r,rfl,P,u,y,o,p⟩;rw[eo] at y;have:l=r:=by lia
   subst this;exact⟨rfl,l,rfl,u,o,p⟩
  ·exact⟨rfl,0,k,rfl,by lia,by lia,by lia,λi v=>by lia,λi L Y=>by lia⟩
  ·rintro c d ⟨rfl,l,rfl,u,o,p⟩;show wpS (au prog w) A E s (moveDown' (lo+k) (lo+l) >>= _) _ d;rw[moveDown'_eq];have B:lo+k<(JX d).size:=by rw[h.size];lia
   have Z:lo+k-(lo+l)=k-l:=by lia
   refine aH (fM (aN ⟨⟨(bubble_perm _ _ _).trans h.perm,h.kind,h.failed,h.pend,λi v=>?_⟩,rfl,by lia,?_⟩))
   ·show(bubble (JX d) (lo+k) (lo+k-(lo+l)))[i]?=_;rw[getElem?_bubble B _ 'd',JW 'd',JW 'd'];exact h.fix i v
   ·show Up κ (bubble (JX d) (lo+k) (lo+k-(lo+l))) lo (k+1);have C:∀x,KK κ (bubble (JX d) (lo+k) (lo+k-(lo+l))) x=if x=lo+l then KK κ (JX d) (lo+k) else if lo+l<x/\x<=lo+k then KK κ (JX d) (x-1) else KK κ (JX d) x:=λx=>by
     rw[KK_bubble B 'd'];have:lo+k-(lo+k-(lo+l))=lo+l:=by lia
     rw[this]
    have S:∀x,lo<=x->x<lo+l->κ.kle (KK κ (JX d) x) (KK κ (JX d) (lo+k)):=λx a b=>by
     have:=o (x-lo) 'd';rw[show lo+(x-lo)=x by lia] at this;exact this
    have T:∀x,lo+l<=x->x<lo+k->κ.kle (KK κ (JX d) (lo+k)) (KK κ (JX d) x):=λx a b=>by
     have:=p (x-lo) 'd' 'd';rw[show lo+(x-lo)=x by lia] at this;exact gj this
    intro i j a b c;rw[C i,C j];by_cases D:i=lo+l
    ·rw[JV D];by_cases t:j=lo+l
     ·rw[JV t];exact Bz _
     ·rw[JW t,JV 'd'];exact T (j-1) 'd' 'd'
    ·rw[JW D];by_cases F:lo+l<i/\i<=lo+k
     ·rw[JV F,JW 'd',JV 'd'];exact m _ _ 'd' 'd' 'd'
     ·rw[JW F];by_cases t:j=lo+l
      ·rw[JV t];exact S i a 'd'
      ·rw[JW t];by_cases G:lo+l<j/\j<=lo+k
       ·rw[JV G];exact m _ _ a 'd' 'd'
       ·rw[JW G];exact m _ _ a b 'd'
 ·rintro c g ⟨h,rfl,O,m⟩;rw[show max (max ok 1) n=n by lia] at m;exact⟨h,rfl,m⟩
 ·exact⟨M,rfl,by lia,by rw[show max ok 1=ok by lia];exact N⟩
 ·rintro c g ⟨h,rfl,m⟩;exact aN (q g h m)
end
def uW:Nat->List (List bg)->List (Nat×Nat)
 |_,[]=>[]
 |b,X::S=>(b,X.length)::uW (b+X.length) S
theorem Jj:∀(S T:List (List bg))(b:Nat),uW b (S++T)=uW b S++uW (b+S.flatten.length) T
 |[],T,b=>by simp[uW]
 | X::S,T,b=>by
  rw[i3,uW,uW,i3,Jj S T,jV,az,lT]
theorem Cs:∀(S:List (List bg))(b:Nat),(uW b S).length=S.length
 |[],_=>rfl
 |X::S,b=>by rw[uW,bt,Cs S,bt]
def se(t:Nat×Nat×Nat):Nat×Nat:=(t.1,t.2.1)
structure Pn(κ:a7)(kd:KT)(L0:List bg)(st:cf)(lo:Nat)(S:List (List bg))(R:List bg):Prop where
 arr:(JX st).toList=S.flatten++R
 lo:S.flatten.length=lo
 pend:(J0 st).toList.map se=uW 0 S
 ne:∀X∈S,1<=X.length
 srt:∀X∈S,qK κ X
 kind:kindOf st=kd
 failed:failedOf st=JL
 perm:(JX st).toList.Perm L0
def Pn.size{κ:a7}{kd:KT}{b:List bg}{a:cf}{lo:Nat}{S:List (List bg)}{R:List bg}(h:Pn κ kd b a lo S R):(J0 a).size=S.length:=by have:=congrArg kL h.pend;rw[aI,aG,Cs] at this;exact this
theorem SY:∀(S:List (List bg)),(∀X∈S,1<=X.length)->S.length<=S.flatten.length
 |[],_=>by simp
 | X::S,h=>by
  rw[jV,az,bt];have:=h X av;have:=SY S λY a=>h Y (al _ a);lia
theorem Ul{α:Type}:∀(S:List α)(i:Nat),i+1<S.length->∃a X Y b,S=a++X::Y::b/\a.length=i
 |[],i,h=>by simp at h
 |[_],i,h=>by simp at h
 |X::Y::S,0,_=>⟨[],X,Y,S,rfl,rfl⟩
 | X::Y::S,i+1,h=>by
  obtain⟨a,A,B,b,e,l⟩:=Ul (Y::S) i ⇑h;exact⟨X::a,A,B,b,by rw[e];rfl,by simp[l]⟩
theorem UI{α β:Type}(f:α->β):∀(l:List α)(i:Nat),(l.eraseIdx i).map f=(l.map f).eraseIdx i
 |[],_=>rfl
 |_::_,0=>rfl
 |x::l,i+1=>by simp[UI f l i]
section
variable{prog:aK}{w:aT}{A:aU}{E:ae->ah->Prop}{s:ah}{κ:a7}{L0:List bg}{st:cf}{lo:Nat}{kd:KT}
def QQ(I:xv prog w A s κ kd)(J:∀x∈L0,uj κ x)(p:Pn κ kd L0 st lo S R)(hi:i+1<S.length)(q:∀g r,Pn κ kd L0 g lo r R->r.length+1=S.length->Q JQ g):wpS (au prog w) A E s (mergeAt' i) Q st:=by
 obtain⟨c,X,Y,d,rfl,j⟩:=Ul S i hi;have l:=p.pend;rw[Jj,uW,uW,mz] at l;have u:∀k a b,(uW 0 c++(c.flatten.length,X.length)::(c.flatten.length+X.length,Y.length)::uW (c.flatten.length+X.length+Y.length) d)[k]?=YP (a,b)->∃v,(J0 st)[k]?=YP (a,b,v):=λk a b h=>by
  rw[<- l,bF] at h;have K:(J0 st)[k]?=(J0 st).toList[k]?:=by simp
  cases e:(J0 st).toList[k]? with
  |none=>rw[e] at h;cases h
  | some t=>
   rw[e] at h;obtain⟨x,y,z⟩:=t;injection h with h;unfold se at h;injection h with h1 h2;dsimp only at h1 h2;exact⟨z,by rw[K,e,h1,h2]⟩
 obtain⟨v,B⟩:=u i c.flatten.length X.length (by rw[bu (by rw[Cs];lia),Cs,j,my];rfl);obtain⟨V,C⟩:=u (i+1) (c.flatten.length+X.length) Y.length (by rw[bu (by rw[Cs];lia),Cs,j,eB];rfl);have m:(JX st).toList=c.flatten++(X++(Y++(d.flatten++R))):=by rw[p.arr];simp
 have n:X∈c++X::Y::d:=by simp
 have D:Y∈c++X::Y::d:=by simp
 refine Za I p.kind p.failed m B C (p.ne X n) (p.ne Y D) (p.srt X n) (p.srt Y D) (λx L=>J x (p.perm.mem_iff.mp (by
   rw[m];rcases aP.mp L with h|h<;>simp[h]))) λg M N O P F G T=>?_
 have o:M.length=X.length+Y.length:=by rw[G.length_eq,az]
 refine q g (c++M::d) ⟨?_,?_,?_,?_,?_,N,O,?_⟩ (by simp;lia)
 ·rw[F];simp
 ·rw[<- p.lo];simp[o];lia
 ·rw[P,Jj,uW,mz,o];have W:i<(J0 st).size:=(eF.mp B).1;have U:i+1<(J0 st).size:=(eF.mp C).1;rw[Array.eraseIdxIfInBounds,dif_pos (by rw[km];exact U),Array.toList_eraseIdx,jP,UI,List.map_set,l];have H:(uW 0 c).length=i:=by rw[Cs,j]
  rw[List.set_append_right _ _ 'd',H,my,List.set_cons_zero,List.eraseIdx_append_of_length_le 'd',H,eB];show _++(_::uW _ d)=_;rw[lT];rfl
 ·intro Z f;simp only[aP,ar] at f;rcases f with h|rfl|h
  ·exact p.ne Z (by simp[h])
  ·rw[o];have:=p.ne X n;lia
  ·exact p.ne Z (by simp[h])
 ·intro Z f;simp only[aP,ar] at f;rcases f with h|rfl|h
  ·exact p.srt Z (by simp[h])
  ·exact T
  ·exact p.srt Z (by simp[h])
 ·rw[F];refine List.Perm.trans ?_ p.perm;rw[m];refine fx _ ?_;rw[<- bh X];exact G.append_right _
end
section
variable{prog:aK}{w:aT}{A:aU}{E:ae->ah->Prop}{s:ah}{κ:a7}{L0:List bg}{st:cf}{lo:Nat}{kd:KT}
def zj8(u:Up κ xs lo m)(h:lo+m<=xs.size):qK κ ((xs.toList.drop lo).take m):=by
 unfold qK;rw[d8];intro i j b c d;rw[bI,ck,aG] at b c;have a:∀k,k<m->∀(a:k<((xs.toList.drop lo).take m).length),ky κ ((xs.toList.drop lo).take m)[k]=KK κ xs (lo+k):=λk e a=>by
  rw[mX,mY];unfold KK ky;rw[fN,a8 'd']
 unfold Le;rw[a i 'd',a j 'd'];exact u _ _ 'd' 'd' 'd'
def Pn.run(p:Pn κ kd L0 st lo S R)(r:Rl st lo g_)(h:lo+m<=(JX st).size)(u:Up κ (JX g_) lo m):∃b,Pn κ kd L0 g_ lo S b/\b.length=R.length/\qK κ (b.take m):=by
 have c:=p.lo;have g:=r.size;have a:(JX g_).toList.length=lo+R.length:=by rw[aG,g,<- aG,p.arr,az,c]
 have d:(JX g_).toList.take lo=S.flatten:=by
  have e:(JX st).toList.take lo=S.flatten:=by rw[p.arr,<- c,n9]
  rw[<- e];apply m7;intro i;by_cases f:i<lo
  ·rw[fT f,fT f,dG,dG];exact r.fix i f
  ·rw[jQ 'd',jQ 'd']
 have j:(JX g_).toList=S.flatten++(JX g_).toList.drop lo:=by
  conv=>lhs;rw[<- cH lo (JX g_).toList]
  rw[d]
 refine⟨(JX g_).toList.drop lo,⟨j,c,by rw[r.pend];exact p.pend,p.ne,p.srt,r.kind.trans p.kind,r.failed.trans p.failed,(dS.mp r.perm).trans p.perm⟩,by rw[ck,a];lia,?_⟩;exact zj8 u (by rw[g];exact h)
def Pn.push(p:Pn κ kd L0 st lo S R)(c:1<=m)(e:m<=R.length)(d:qK κ (R.take m)):Pn κ kd L0 (setPending st ((J0 st).push (lo,m,pw))) (lo+m) (S++[R.take m]) (R.drop m):=by
 have a:(R.take m).length=m:=by rw[bI];lia
 refine⟨?_,?_,?_,?_,?_,p.kind,p.failed,p.perm⟩
 ·show(JX st).toList=_;rw[p.arr];simp
 ·rw[List.flatten_append,az,p.lo];show lo+(R.take m++[]).length=_;rw[bV,a]
 ·show((J0 st).push (lo,m,pw)).toList.map se=_;rw[eQ,dI,p.pend,Jj,p.lo,mz,uW,uW,a];rfl
 ·intro X b;rcases aP.mp b with h|h
  ·exact p.ne X h
  ·rw[cE.mp h,a];exact c
 ·intro X b;rcases aP.mp b with h|h
  ·exact p.srt X h
  ·rw[cE.mp h];exact d
theorem Vp{α β:Type}(f:α->β)(g:α->α)(h:∀x,f (g x)=f x):∀(l:List α)(i:Nat),(l.modify i g).map f=l.map f
 |[],_=>by simp
 |x::l,0=>by simp[h]
 |x::l,i+1=>by simp[Vp f g h l i]
def Pn.power(p:Pn κ kd L0 st lo S R)(a:∀x,se (g x)=se x)(i:Nat):Pn κ kd L0 (setPending st ((J0 st).modify i g)) lo S R:=by refine⟨p.arr,p.lo,?_,p.ne,p.srt,p.kind,p.failed,p.perm⟩;show((J0 st).modify i g).toList.map se=_;rw[Array.toList_modify,Vp se g a,p.pend]
def Y8(h:qK κ xs.toList):jJ κ xs xs.size:=λi j d a=>by
 by_cases e:i=j
 ·subst e;exact Bz _
 have b:KK κ xs i=ky κ xs[i]:=by unfold KK ky;rw[a8 'd']
 have c:KK κ xs j=ky κ xs[j]:=by unfold KK ky;rw[a8 a]
 rw[b,c];have:=d8.mp h i j (by rw[aG];lia) (by rw[aG];lia) 'd';rw[fN,fN] at this;exact this
set_option maxHeartbeats 0 in
def S_(J:xv prog w A s κ kd)(hs:jn κ a₀)(T:(JX st).Perm a₀)(bk:kindOf st=kd)(bf:failedOf st=JL)(bn:J0 st = #[])(q:∀d,(JX d).Perm a₀->failedOf d=JL->jJ κ (JX d) a₀.size->Q () d):wpS (au prog w) A E s sortRuns' Q st:=by
 have v:∀x∈a₀.toList,uj κ x:=hs;have p0:Pn κ kd a₀.toList st 0 [] (JX st).toList:=⟨rfl,rfl,by rw[bn];rfl,by simp,by simp,bk,bf,dS.mp T⟩;have N:(JX st).size=a₀.size:=T.size_eq;rw[sortRuns'_eq];refine aH (gW ?_);show wpS _ _ _ _ (forIn [:(JX st).size] (JL,0) _ >>= _) Q st;rw[N];refine aH (dQ (cT (I:=λk c d=>∃lo S R,c=(JL,lo)/\Pn κ kd a₀.toList d lo S R/\k<=lo) (Q:=λc d=>∃lo S R,c=(JL,lo)/\Pn κ kd a₀.toList d lo S R/\a₀.size<=lo) ?_ ?_ ?_) ?_)
 ·rintro k c z _ hk ⟨lo,S,R,rfl,p,D⟩;have U:lo+R.length=a₀.size:=by
   have:=p.perm.length_eq;rw[p.arr,az,p.lo,aG] at this;exact this
  have O:(JX z).size=a₀.size:=by rw[<- aG,p.perm.length_eq,aG]
  show wpS _ _ _ _ (if lo ≥ _ then _ else _) _ z;by_cases o:lo ≥ a₀.size
  ·rw[JV (by first|exact o|(rw[N];exact o))];exact aN ⟨lo,S,R,rfl,p,o⟩
  rw[JW (by first|exact o|(rw[N];exact o))];have V:∀x∈(JX z).toList,uj κ x:=λx hx=>v x (p.perm.mem_iff.mp hx);refine aH (zc1 (lo:=lo) (nrem:=a₀.size-lo) J V p.kind 'd' 'd' (Rl.refl z lo) λn r W Y n2 Z=>?_);apply EY (α:=cf) (β:=Nat) (H:=λF m=>∃i,Pn κ kd a₀.toList F lo S i/\1<=m/\m<=i.length/\qK κ (i.take m)/\k<lo+m);intro G;show wpS _ _ _ _ (if n<minRun' a₀.size a₀.size 0 then _ else _) _ r;by_cases hm:n<minRun' a₀.size a₀.size 0
  ·rw[JV hm];refine aH (js (dP ⟨rfl,aH (zhk (lo:=lo) (n:=min (a₀.size-lo) (minRun' a₀.size a₀.size 0)) (ok:=n) J V p.kind Y 'd' 'd' W Z λF r3 u3=>?_)⟩));obtain⟨i,u,l3,B⟩:=p.run r3 'd' u3;have K:1<=min (a₀.size-lo) (minRun' a₀.size a₀.size 0):=by lia
   have L:min (a₀.size-lo) (minRun' a₀.size a₀.size 0)<=i.length:=by lia
   generalize min (a₀.size-lo) (minRun' a₀.size a₀.size 0)=m at *;exact G _ _ ⟨i,u,K,L,B,by lia⟩
  ·rw[JW hm];obtain⟨i,u,l3,B⟩:=p.run W 'd' Z;exact G _ _ ⟨i,u,Y,by lia,B,by lia⟩
  rintro F m ⟨i,u,K,L,B,D⟩;refine aH (gW ?_);cases hb:(J0 F).back? with
  |none=>exact aH (fM (aN ⟨lo+m,_,_,rfl,u.push K L B,by lia⟩))
  | some t=>
   obtain⟨s1,n1',pw0⟩:=t;refine aH (dQ (cT (I:=λj c d=>c=(JL,())/\∃e,Pn κ kd a₀.toList d lo e i) (Q:=λc d=>c=(JL,())/\∃e,Pn κ kd a₀.toList d lo e i) ?_ ?_ ?_) ?_)
   ·rintro j c f _ _ ⟨rfl,e,C⟩;refine aH (gW ?_);show wpS _ _ _ _ (match (if (J0 f).size>1 then (J0 f)[(J0 f).size-2]? else JL) with|some (fst,fst_1,l)=>_|x=>_) _ f;cases ht:(if (J0 f).size>1 then (J0 f)[(J0 f).size-2]? else JL) with
    |none=>exact aN ⟨rfl,e,C⟩
    | some t=>
     obtain⟨x,y,l⟩:=t;have P:(J0 f).size>1:=by
      by_cases P:(J0 f).size>1
      ·exact P
      ·rw[JW P] at ht;cases ht
     show wpS _ _ _ _ (if l<=_ then _ else _) _ f;split
     ·exact aN ⟨rfl,e,C⟩
     ·exact aH (QQ J v C (by rw[C.size] at *;lia) λJP S5 p5 _=>aN ⟨rfl,S5,p5⟩)
   ·rintro c f h;exact h
   ·exact⟨rfl,S,u⟩
   ·rintro c f ⟨rfl,e,C⟩;refine aH (fM (aH (fM (aN ⟨lo+m,_,_,rfl,Pn.push (Pn.power C ?_ _) K L B,by lia⟩))));rintro⟨a,b,c⟩;rfl
 ·rintro c z ⟨lo,S,R,rfl,p,D⟩;exact⟨lo,S,R,rfl,p,by rw[eo] at D;exact D⟩
 ·exact⟨0,[],_,rfl,p0,ay _⟩
 ·rintro c z ⟨lo,S,R,rfl,p,D⟩;have hR:R=[]:=by
   have h:=p.perm.length_eq;rw[p.arr,az,p.lo] at h;have h2:a₀.toList.length=a₀.size:=aG;exact cY.mp 'd'
  refine aH (dQ (cT (I:=λk c d=>c=(JL,())/\∃S,Pn κ kd a₀.toList d lo S R/\S.length<=a₀.size-k) (Q:=λc d=>c=(JL,())/\∃S,Pn κ kd a₀.toList d lo S R/\S.length<=1) ?_ ?_ ?_) ?_)
  ·rintro k c r _ hk ⟨rfl,e,g,M⟩;refine aH (gW ?_);show wpS _ _ _ _ (if (J0 r).size<=1 then _ else _) _ r;by_cases o:(J0 r).size<=1
   ·rw[JV o];exact aN ⟨rfl,e,g,by rw[<- g.size];exact o⟩
   ·rw[JW o];have O:=g.size;refine aH (QQ J v g ?_ λF S3 u h3=>aN ⟨rfl,S3,u,by lia⟩)
    repeat' split
    all_goals lia
  ·rintro c r ⟨rfl,e,g,M⟩;exact⟨rfl,e,g,by rw[eo] at M;lia⟩
  ·refine⟨rfl,S,p,?_⟩;have h1:=SY S p.ne;have h:=p.perm.length_eq;rw[p.arr,az] at h;have h2:a₀.toList.length=a₀.size:=aG;lia
  ·rintro c r ⟨rfl,e,g,M⟩;have vN:=g.arr;rw[hR,bV] at vN;have O:(JX r).size=a₀.size:=by rw[<- aG,g.perm.length_eq,aG]
   refine aN (q r (dS.mpr g.perm) g.failed ?_);rw[<- O];apply Y8;rw[vN]
   match e,M with
   |[],_=>exact eO
   |[X],_=>rw[jV,List.flatten_nil,bV];exact g.srt X av
end
def list_sort_big(l:κ.OneLt)(f:s.heap.get? a=YP (seqObj "list" vs.toArray n))(m:jn κ (pairsOf vs))(o:∀p r b,vs=p::r::b->keyKind' (p::r::b).toArray=pure oneType')
  (t:vs.length<=4000000) (q:∀c:cf,(JX c).Perm (pairsOf vs)->jJ κ (JX c) (pairsOf vs).size->P (Fin.done (Flow.ret cL)) { heap:=sortedHeap s.heap a vs (gD (λx=>x.snd) (JX c)),gens:=s.gens,drawn:=s.drawn,toks:=s.toks,os:=s.os }):ao (au prog w) A (d9.«list.sort» { pos:=[dJ a] }) P E s:=by
 by_cases u:vs.length<64
 ·exact list_sort_treeK l f m o u q
 rw[list_sort_plain];have v:(4000000:Nat)<=J3:=by decide
 obtain⟨v1,d,b,rfl⟩:∃v1 d b,vs=v1::d::b:=by
  match vs,u with
  |[],h=>exact absurd (by show 0<64;decide) h
  |[_],h=>exact absurd (by show 1<64;decide) h
  |v1::d::b,_=>exact⟨v1,d,b,rfl⟩
 generalize j:v1::d::b=vs at *;have y:=bH (bw λ_=>#[]) f rfl;have z:=ag (seqObj "list" #[] 0) (ag (seqObj "tuple" vs.toArray 0) y);refine aa (jj f rfl (aa (iX f rfl (aa (jB y rfl (aa (iw (aa (gR (bG ?_) 'u')) (by simpa using aM t v))))) (by simpa using aM t v) (by show 0<=J3+1;lia))));have B:¬ vs.toArray.size<2:=by rw[aQ];lia
 show ao (au prog w) A (if vs.toArray.size<2 then _ else _) P E _;rw[JW B,<- j,o v1 d b j.symm,j];refine aa (aj ?_);rw[JW B];show ao (au prog w) A (sortRuns'.run (lJ oneType' (vs.toArray.zip vs.toArray) #[] 7 JL) >>= _) P E { heap:=((s.heap.update a (bw λx=>#[])).push (seqObj "tuple" vs.toArray 0)).push (seqObj "list" #[] 0),gens:=s.gens,drawn:=s.drawn,toks:=s.toks,os:=s.os };refine aa (cj (S_ (Q:=λ_ c=>(JX c).Perm (pairsOf vs)/\failedOf c=JL/\jJ κ (JX c) (pairsOf vs).size) (xv.one l) (a₀:=pairsOf vs) m (ji _) rfl rfl rfl λc g i k=>⟨g,i,k⟩) ?_ λ_ _ h=>h);rintro⟨_,c⟩ C ⟨rfl,g,i,k⟩;have D:(gD (λx=>x.snd) (JX c)).size<=4000000:=by
  rw[lj,g.size_eq];show(vs.toArray.zip vs.toArray).size<=_;rw[oa,aQ];lia
 refine aa (jB z rfl (aa (iX z rfl ?_ (by show 0<=J3;lia) (by show(gD _ _).size<=J3+1;lia))));dsimp only at i;show ao (au prog w) A (match failedOf c with|some e=>_|x=>_) P E _;rw[i];show ao (au prog w) A (if ((if _ then n else n+1) !=(if _ then n else n+1))=JQ then _ else _) P E _;rw[JW 'k'];exact aj (q c g k)
def DC:ae->Option pU
 |.str x _=>YP x.cps.toList
 |_=>JL
def allS:List ae->Option o_
 |[]=>YP []
 | v::vs=>match DC v,allS vs with
  |some a,YP r=>YP (a::r)
  |_,_=>JL
def Bo(h:aS):ae->Option o_
 | .ref t=>match h.get? t with
  | some o=>match o.data with
   |.seq c_ _=>allS c_.toList
   |_=>JL
  |none=>JL
 |_=>JL
def llt_irrefl(a:o_):¬ a<a:=gz a
def llt_trans{a b c:o_}(d:a<b)(e:b<c):a<c:=iY d e
def llt_total{a b:o_}(c:¬ a<b)(d:¬ b<a):a=b:=kn (iO.mp d) (iO.mp c)
def Bv(h:aS):a7 where
 α:=o_
 blt:=λa b=>decide (a<b)
 irrefl:=λa=>decide_eq_false (llt_irrefl a)
 trans:=λa b c h1 h2=>decide_eq_true (llt_trans (of_decide_eq_true h1) (of_decide_eq_true h2))
 negTrans:=λa b c h=>by
  by_cases h1:a<b
  ·exact .inl (decide_eq_true h1)
  ·right;have hac:=of_decide_eq_true h;by_cases h2:b<a
   ·exact decide_eq_true (llt_trans h2 hac)
   ·rw[<- llt_total h1 h2];exact h
 total:=λa b h1 h2=>llt_total (of_decide_eq_false h1) (of_decide_eq_false h2)
 keyOf:=Bo h
 dflt:=[]
def Aq:o_->o_->Option Bool
 |a::as,b::bs=>if a=b then Aq as bs else YP (decide (a<b))
 |_,_=>JL
theorem RX:∀c bs:o_,(match Aq c bs with|some r=>r|none=>decide (c.length<bs.length))=decide (c<bs)
 |[],[]=>by simp[Aq]
 |[],b::bs=>by simp[Aq]
 |a::c,[]=>by simp[Aq]
 | a::c,b::bs=>by
  unfold Aq;by_cases e:a=b
  ·subst e;rw[JV rfl];have:=RX c bs;rw[bt,bt];have d:decide (c.length+1<bs.length+1)=decide (c.length<bs.length):=by simp
   rw[d,this];simp[ll]
  ·rw[JW e];show decide (a<b)=_;simp[ll,e]
theorem UA
  (m:∀x y i a b{Q:ForInStep (Option Bool×Unit)->ah->Prop},DC x=YP a->DC y=YP b->Q (if a=b then .yield (JL,()) else .done (YP (decide (a<b)),())) s->ao M A (f ((x,y),i) (JL,())) Q E s):
  ∀(xs d:List ae)(c bs:o_)(j:Nat){Q:Option Bool×Unit->ah->Prop},allS xs=YP c->allS d=YP bs->Q (Aq c bs,()) s->ao M A (forIn ((xs.zip d).zipIdx j) (JL,()) f) Q E s
 | [],d,c,bs,j,Q,h1,h2,q=>by
  cases h1;exact aj (by cases bs<;>exact q)
 | x::xs,[],c,bs,j,Q,h1,h2,q=>by
  cases h2;exact aj (by cases c<;>exact q)
 | x::xs,y::d,c,bs,j,Q,h1,h2,q=>by
  unfold allS at h1 h2;split at h1
  ·rename_i a g n h;split at h2
   ·rename_i b k o l;cases h1;cases h2;rw[jK,i4,g8];refine aa (m x y j a b n o ?_);unfold Aq at q;by_cases e:a=b
    ·rw[JV e] at q ⊢;exact UA m xs d g k (j+1) h l q
    ·rw[JW e] at q ⊢;exact aj q
   ·cases h2
  ·cases h1
theorem SG{M:iq}{A:aU}{E:ae->ah->Prop}{s:ah}{α β:Type}{f:α->Sem β}(g:α->β):∀(l:List α){Q:List β->ah->Prop},(∀v∈l,∀(a:β->ah->Prop),a (g v) s->ao M A (f v) a E s)->Q (l.map g) s->ao M A (List.mapM f l) Q E s
 |[],Q,_,q=>by rw[List.mapM_nil];exact aj q
 | v::l,Q,h,q=>by
  rw[List.mapM_cons];exact aa (h v av _ (aa (SG g l (λu b=>h u (al _ b)) (aj q))))
def RZ{M:iq}{A:aU}{E:ae->ah->Prop}{s:ah}{α β:Type}{f:α->Sem β}(g:α->β)(l:List α){Q:Array β->ah->Prop}(h:∀v∈l,∀(a:β->ah->Prop),a (g v) s->ao M A (f v) a E s)(q:Q (l.map g).toArray s):ao M A (Array.mapM f l.toArray) Q E s:=by rw[Array.mapM_eq_mapM_toList];refine aa (SG g l h (aj q))
section
variable{prog:aK}{w:aT}{A:aU}{E:ae->ah->Prop}{s:ah}
def Fd(h:DC v=YP a):∃x t,v=.str x t/\x.cps.toList=a:=by
 cases v with
 |str x t=>exact⟨x,t,rfl,by cases h;rfl⟩
 |_=>cases h
def Zv(c:DC x=YP a)(d:DC y=YP b)(q:Q (decide (a<b)) s):ao (au prog w) A (oneLt' o x y) Q E s:=by
 obtain⟨x,t,rfl,rfl⟩:=Fd c;obtain⟨y,u,rfl,rfl⟩:=Fd d;cases o with
 |true=>exact lU prog w A E s _ _ _ _ rfl rfl q
 | false=>
  rw[oneLt'_eq,JW 'u'];refine aa (show ao (au prog w) A (cz CmpOp.Lt _ _) _ E s from P.lt_str ?_);exact aj q
structure TupS(h:aS)(v:ae)(ks:o_):Prop where
 ok:∃t o c_ c,v=.ref t/\h.get? t=YP o/\o.cls=.type "tuple"/\o.data=.seq c_ c/\allS c_.toList=YP ks
noncomputable def Ci(h:aS)(v:ae):Option ae:=match v with
 | .ref t=>match h.get? t with
  | some o=>match o.data with
   |.seq c_ _=>c_[0]?
   |_=>JL
  |none=>JL
 |_=>JL
def Ug(g:h.get? t=YP o)(a:o.data=.seq c_ c):Ci h (.ref t)=c_[0]?:=by show(match h.get? t with|some o=>(match o.data with|.seq c_ _=>c_[0]?|_=>JL)|none=>JL)=_;rw[g];dsimp only;rw[a]
def QB(e:Bo h v=YP ks):∃t o a c,v=.ref t/\h.get? t=YP o/\o.data=.seq a c/\allS a.toList=YP ks:=by
 cases v with
 | ref t=>
  unfold Bo at e;dsimp only at e;cases g:h.get? t with
  |none=>rw[g] at e;cases e
  | some o=>
   rw[g] at e;dsimp only at e;cases b:o.data with
   |seq a c=>rw[b] at e;exact⟨t,o,a,c,rfl,g,b,e⟩
   |_=>rw[b] at e;cases e
 |_=>cases e
def MA(ok:TupS h v ks)(d:ks≠[]):∃x tk,Ci h v=YP (.str x tk):=by
 obtain⟨t,o,f,c,rfl,g,k,i,b⟩:=ok;rw[Ug g i,<- dG];cases e:f.toList with
 |nil=>rw[e] at b;cases b;exact absurd rfl d
 | cons x r=>
  rw[e] at b;unfold allS at b;split at b
  ·rename_i a l j m;obtain⟨y,tk,rfl,_⟩:=Fd j;exact⟨y,tk,rfl⟩
  ·cases b
theorem L_:∀{l:List ae}{b:o_},allS l=YP b->l.length=b.length
 |[],b,h=>by cases h;rfl
 | v::l,b,h=>by
  unfold allS at h;split at h
  ·rename_i a r d c;cases h;rw[bt,bt,L_ c]
  ·cases h
def z8B{vs:List ae}(S:2<=vs.length)(j:∀v∈vs,∃k,TupS s.heap v k/\k≠[]){Q:KT->ah->Prop}(q:∀kd:KT,xv prog w A s (Bv s.heap) kd->Q kd s):ao (au prog w) A (keyKind' vs.toArray) Q E s:=by
 show ao (au prog w) A (_ >>= _) Q E s;refine aa (RZ (Ci s.heap) vs (λv f l I=>?_) ?_)
 ·obtain⟨k,⟨t,o,T,c,rfl,g,U,K,ha⟩,m⟩:=j v f;show ao (au prog w) A (typeOf (.ref t) >>= _) l E s;refine aa (wpAny_typeOf_ref g ?_);rw[U];show ao (au prog w) A (kR (.ref t) >>= _) l E s;refine aa (jj g K (aj ?_));rw[<- Ug g K];exact I
 ·have V:((vs.map (Ci s.heap)).toArray.all λx=>x.isSome)=JQ:=by
   rw[nD,aD];intro x d;obtain⟨v,f,rfl⟩:=aA.mp d;obtain⟨k,C,m⟩:=j v f;obtain⟨y,n,e⟩:=MA C m;rw[e];rfl
  rw[JV V];refine aa (dP ?_);have W:∀u∈(vs.map (Ci s.heap)).filterMap id,∃y n,u=.str y n:=λu X=>by
   obtain⟨x,d,e⟩:=hV.mp X;obtain⟨v,f,rfl⟩:=aA.mp d;obtain⟨k,C,m⟩:=j v f;obtain⟨y,n,D⟩:=MA C m;rw[D] at e;injection e with e;exact⟨y,n,e.symm⟩
  have F:(vs.map (Ci s.heap)).filterMap id≠[]:=by
   match vs,S,j with
   | v::_,_,j=>
    obtain⟨k,C,m⟩:=j v av;obtain⟨y,n,D⟩:=MA C m;rw[bQ,D];simp
  rw[List.filterMap_toArray];generalize (vs.map (Ci s.heap)).filterMap id=p at *;refine aa ?_;show ao (au prog w) A (Array.mapM typeOf p.toArray >>= _) _ E s;refine aa (RZ (λ_=>eE "str") p (λv f l I=>?_) ?_)
  ·obtain⟨y,n,rfl⟩:=W v f;exact aj I
  ·have Y:((p.map λ_=>eE "str").toArray)[0]?=YP (eE "str"):=by
    cases p with
    |nil=>exact absurd rfl F
    |cons _ _=>rfl
   rw[Y];have J:((p.map λ_=>eE "str").toArray.all λx=>x==eE "str")=JQ:=by
    rw[nD,aD];intro x d;obtain⟨_,_,rfl⟩:=aA.mp d;rfl
   show ao (au prog w) A (pure (if ((p.map λ_=>eE "str").toArray.all λx=>x==eE "str")=JQ then YP (eE "str") else JL)) _ E s;rw[J];refine aj (aj (q _ ?_));intro x y L l d z B;obtain⟨(G:o_),d⟩:=d;obtain⟨(H:o_),z⟩:=z;have Z:ky (Bv s.heap) x=G:=by unfold ky;rw[d];rfl
   have eb:ky (Bv s.heap) y=H:=by unfold ky;rw[z];rfl
   rw[Z,eb] at B;obtain⟨t,o,T,c,J,g1,d1,M⟩:=QB d;obtain⟨t2,o2,ud,c2,D,g2,d2,N⟩:=QB z;rw[J,D];show ao (au prog w) A (kR (.ref t) >>= _) l L s;refine aa (jj g1 d1 (aa (jj g2 d2 (aa (UA ?_ _ _ G H 0 M N ?_)))))
   ·intro x y i a b Q d z q;obtain⟨x,t,rfl,rfl⟩:=Fd d;obtain⟨y,u,rfl,rfl⟩:=Fd z;show ao (au prog w) A (eqBool (.str x t) (.str y u) >>= _) Q L s;refine aa (wpAny_eqBool_str ?_);by_cases e:x=y
    ·subst e;rw[JV rfl] at q;rw[decide_eq_true rfl];exact aj q
    ·have ne:x.cps.toList≠y.cps.toList:=λh=>e (by
      cases x;cases y;dsimp only at h;rw[nE.mp h])
     rw[JW ne] at q;rw[decide_eq_false e];exact aa (Zv rfl rfl (aj q))
   ·have O:=L_ M;have P:=L_ N;rw[aG] at O P;have R:=RX G H;rw[<- O,<- P] at R
    replace B:l (decide (G<H)) s:=B
    rw[<- R] at B;generalize Aq G H=r at *;cases r with
    |none=>exact aj B
    |some r=>exact aj B
end
def keyT(h:aS)(v:ae):o_:=(Bo h v).getD []
def U8(h:p∈(pairsOf vs).toList):p.1=p.2/\p.1∈vs:=by
 have e:(pairsOf vs).toList=vs.zip vs:=by simp[pairsOf]
 rw[e] at h;have a:vs.zip vs=vs.map λv=>(v,v):=by
  clear h e
  induction vs with
  |nil=>rfl
  |cons v r ih=>rw[jK,ih];rfl
 rw[a] at h;obtain⟨v,b,rfl⟩:=aA.mp h;exact⟨rfl,b⟩
def zb7(vs:List ae):(pairsOf vs).toList.map (λx=>x.2)=vs:=by
 have e:(pairsOf vs).toList=vs.zip vs:=by simp[pairsOf]
 rw[e]
 induction vs with
 |nil=>rfl
 |cons v r ih=>rw[jK,bQ,ih (by simp[pairsOf])]
def z62(F:s.heap.get? a=YP (seqObj "list" vs.toArray n))(hv:∀v∈vs,∃f,TupS s.heap v f/\(2<=vs.length->f≠[]))(S:vs.length<=4000000)
  (q:∀d:Array ae,d.toList.Perm vs->d.toList.Pairwise (λx y=>¬ keyT s.heap y<keyT s.heap x)->P (Fin.done (Flow.ret cL)) { heap:=sortedHeap s.heap a vs d,gens:=s.gens,drawn:=s.drawn,toks:=s.toks,os:=s.os }):ao (au prog w) A (d9.«list.sort» { pos:=[dJ a] }) P E s:=by
 rw[list_sort_plain];have T:(4000000:Nat)<=J3:=by decide
 have U:=bH (bw λ_=>#[]) F rfl;have G:=ag (seqObj "list" #[] 0) (ag (seqObj "tuple" vs.toArray 0) U);have l:∀v∈vs,∃f,TupS (((s.heap.update a (bw λx=>#[])).push (seqObj "tuple" vs.toArray 0)).push (seqObj "list" #[] 0)) v f/\(2<=vs.length->f≠[])/\Bo (((s.heap.update a (bw λx=>#[])).push (seqObj "tuple" vs.toArray 0)).push (seqObj "list" #[] 0)) v=Bo s.heap v:=λv h=>by
  obtain⟨f,⟨t,o,m,c,rfl,g,K,L,M⟩,rh⟩:=hv v h;have ne:a≠t:=λe=>by
   subst e;rw[F] at g;cases g;exact absurd K 'k'
  have V:=ag (seqObj "list" #[] 0) (ag (seqObj "tuple" vs.toArray 0) ((bj s.heap (bw λ_=>#[]) ne).trans g));refine⟨f,⟨t,o,m,c,rfl,V,K,L,M⟩,rh,?_⟩;show(match Heap.get? _ t with|some o=>(match o.data with|.seq m _=>allS m.toList|_=>JL)|none=>JL)=(match s.heap.get? t with|some o=>(match o.data with|.seq m _=>allS m.toList|_=>JL)|none=>JL);rw[V,g]
 refine aa (jj F rfl (aa (iX F rfl (aa (jB U rfl (aa (iw (aa (gR (bG ?_) 'u')) (by simpa using aM S T))))) (by simpa using aM S T) (by show 0<=J3+1;lia))));show ao (au prog w) A _ P E { heap:=((s.heap.update a (bw λx=>#[])).push (seqObj "tuple" vs.toArray 0)).push (seqObj "list" #[] 0),gens:=s.gens,drawn:=s.drawn,toks:=s.toks,os:=s.os };generalize hH:((s.heap.update a (bw λx=>#[])).push (seqObj "tuple" vs.toArray 0)).push (seqObj "list" #[] 0)=H at *;have B:∀b:cf,(JX b).Perm (pairsOf vs)->failedOf b=JL->jJ (Bv H) (JX b) (pairsOf vs).size->(gD (λx=>x.snd) (JX b)).toList.Perm vs/\(gD (λx=>x.snd) (JX b)).toList.Pairwise (λx y=>¬ keyT s.heap y<keyT s.heap x):=λb r _ u=>by
  have W:=dS.mp r;refine⟨?_,?_⟩
  ·rw[nF];have:=W.map (λx:bg=>x.2);rw[zb7] at this;exact this
  ·rw[nF,d8];intro i j X I uY;rw[aI,aG] at X I;rw[gJ,gJ];have Y:=u i j 'd' (by rw[<- r.size_eq];exact I);have Z:∀k(h:k<(JX b).size),KK (Bv H) (JX b) k=keyT s.heap ((JX b).toList[k]'(by rw[aG];exact h)).2:=λk h=>by
    unfold KK;rw[a8 h];have hm:(JX b)[k]∈(pairsOf vs).toList:=W.mem_iff.mp (by rw[<- fN];exact cS _);obtain⟨h1,z⟩:=U8 hm;obtain⟨f,_,_,h3⟩:=l _ z;dsimp only;show(Bo H (JX b)[k].1).getD []=_;rw[h3,fN,<- h1];rfl
   rw[Z i X,Z j I] at Y;exact of_decide_eq_false Y
 have N:jn (Bv H) (pairsOf vs):=λp J=>by
  obtain⟨h1,z⟩:=U8 J;obtain⟨f,⟨t,o,m,c,e,g,K,L,M⟩,_⟩:=l _ z;refine⟨f,?_⟩;show Bo H p.1=YP f;rw[e];show(match H.get? t with|some o=>(match o.data with|.seq m _=>allS m.toList|_=>JL)|none=>JL)=_;rw[g];dsimp only;rw[L];exact M
 have up:∀d:Array ae,H.update a (bw λ_=>d)=sortedHeap s.heap a vs d:=λd=>by rw[<- hH];rfl
 by_cases z:vs.length<2
 ·have C:vs.toArray.size<2:=by rw[aQ];exact z
  show ao (au prog w) A (if vs.toArray.size<2 then _ else _) P E _;rw[JV C];refine aa (aj ?_);rw[JV C];have pz:(pairsOf vs).size=vs.length:=by simp[pairsOf]
  obtain⟨O,R⟩:=B (lJ general' (pairsOf vs) #[] 7 JL) (ji _) rfl (λi j uY I=>by
   have:i=j:=by lia
   subst this;exact Bz _)
  refine aa (aj ?_);have J:(gD (λx=>x.snd) (JX (lJ general' (pairsOf vs) #[] 7 JL))).size<=4000000:=by
   rw[lj];show(pairsOf vs).size<=_;lia
  refine aa (jB G rfl (aa (iX G rfl ?_ (by show 0<=J3;lia) (by show(gD _ _).size<=J3+1;exact aM J 'd'))));show ao (au prog w) A (if ((if _ then n else n+1) !=(if _ then n else n+1))=JQ then _ else _) P E _;rw[JW 'k'];refine aj ?_;have:=q _ O R;rw[<- up] at this;exact this
 ·have C:¬ vs.toArray.size<2:=by rw[aQ];exact z
  show ao (au prog w) A (if vs.toArray.size<2 then _ else _) P E _;rw[JW C];refine aa (z8B (s:={ heap:=H,gens:=s.gens,drawn:=s.drawn,toks:=s.toks,os:=s.os }) 'd' (λv h=>by obtain⟨f,k1,k2,_⟩:=l v h;exact⟨f,k1,k2 'd'⟩) λkd ho=>?_);rw[JW C];show ao (au prog w) A (sortRuns'.run (lJ kd (vs.toArray.zip vs.toArray) #[] 7 JL) >>= _) P E _;refine aa (cj (S_ (kd:=kd) (κ:=Bv H) (Q:=λ_ b=>(JX b).Perm (pairsOf vs)/\failedOf b=JL/\jJ (Bv H) (JX b) (pairsOf vs).size) ho (a₀:=pairsOf vs) N (ji _) rfl rfl rfl λb r D u=>⟨r,D,u⟩) ?_ λ_ _ h=>h);rintro⟨_,b⟩ s' ⟨rfl,r,D,u⟩;dsimp only at r D u;obtain⟨O,R⟩:=B b r D u;have J:(gD (λx=>x.snd) (JX b)).size<=4000000:=by
   rw[lj,r.size_eq];show(vs.toArray.zip vs.toArray).size<=_;rw[oa,aQ];lia
  refine aa (jB G rfl (aa (iX G rfl ?_ (by show 0<=J3;lia) (by show(gD _ _).size<=J3+1;lia))));show ao (au prog w) A (match failedOf b with|some e=>_|x=>_) P E _;rw[D];show ao (au prog w) A (if ((if _ then n else n+1) !=(if _ then n else n+1))=JQ then _ else _) P E _;rw[JW 'k'];refine aj ?_;have:=q _ O R;rw[<- up] at this;exact this
def TupS.mono(k:∀b o,h.get? b=YP o->h'.get? b=YP o)(x:TupS h v ks):TupS h' v ks/\keyT h' v=keyT h v:=by obtain⟨t,o,a,c,rfl,g,e,f,i⟩:=x;have d:=k t o g;refine⟨⟨t,o,a,c,rfl,d,e,f,i⟩,?_⟩;show((match h'.get? t with|some o=>(match o.data with|.seq a _=>allS a.toList|_=>JL)|none=>JL):Option _).getD []=((match h.get? t with|some o=>(match o.data with|.seq a _=>allS a.toList|_=>JL)|none=>JL):Option _).getD [];rw[d,g]
def sorted_tups(u:s.heap.IsList l vs.toArray)(g:∀v∈vs,∃c,TupS s.heap v c/\(2<=vs.length->c≠[]))(i:vs.length<=4000000)
  (h:∀a:Array ae,a.toList.Perm vs->a.toList.Pairwise (λx y=>¬ keyT s.heap y<keyT s.heap x)->Q (.ref (s.heap.objs.size+1)) { heap:=sortedAll s.heap vs a,gens:=s.gens,drawn:=s.drawn,toks:=s.toks,os:=s.os }):ao (au prog w) A (call (.builtin "sorted") [.ref l]) Q E s:=by
 have j:vs.length<=J3:=aM i 'u';refine hJ nj mB mC (mD _) ?_;unfold d9.«sorted»;refine aa (m:=checkCount "sorted" 1 1 _) (aj ?_);refine aa (collect_list u (aa (gR ?_ j)) j);have k:∀b o,s.heap.get? b=YP o->(((s.heap.push (seqObj "list" #[] 0)).update s.heap.objs.size (bw λx=>x++vs.toArray)).push (seqObj "list" vs.toArray 0)).get? b=YP o:=λb o e=>by
  have z:s.heap.objs.size≠b:=λq=>absurd (aJ e) (by rw[<- q];exact bP _);exact ag _ ((bj _ _ z).trans (ag _ e))
 have n:(((s.heap.push (seqObj "list" #[] 0)).update s.heap.objs.size (bw λx=>x++vs.toArray)).push (seqObj "list" vs.toArray 0)).get? ((s.heap.push (seqObj "list" #[] 0)).update s.heap.objs.size (bw λx=>x++vs.toArray)).objs.size=YP (seqObj "list" vs.toArray 0):=aE _ rfl;have B:((s.heap.push (seqObj "list" #[] 0)).update s.heap.objs.size (bw λx=>x++vs.toArray)).objs.size=s.heap.objs.size+1:=by rw[gG,cr]
 refine aa (bG (bU lp ⟨_,n,rfl⟩ kI (z62 n (λv d=>by
  obtain⟨c,f,p⟩:=g v d;exact⟨c,(f.mono k).1,p⟩) i λa r C=>⟨_,rfl,?_⟩) (lq _)))
 refine aj ⟨_,rfl,?_⟩;have t:∀v∈a.toList,keyT (((s.heap.push (seqObj "list" #[] 0)).update s.heap.objs.size (bw λx=>x++vs.toArray)).push (seqObj "list" vs.toArray 0)) v=keyT s.heap v:=λv d=>by
  obtain⟨c,f,p⟩:=g v (r.mem_iff.mp d);exact(f.mono k).2
 have D:a.toList.Pairwise (λx y=>¬ keyT s.heap y<keyT s.heap x):=by
  refine List.Pairwise.imp_of_mem ?_ C;intro x y F G H;rw[<- t x F,<- t y G];exact H
 have:=h a r D;unfold sortedAll at this;rw[<- B] at this;exact this
end TS
namespace DL
open PySem
def zi4(t:ko)(b:Array (Int×ae))(h:Int)(x:ae):(layNew t b h x).2.1.led=t.led:=by
 unfold layNew;split
 ·rename_i a c _;show((t.put a).1.orStandIn _).led=_;unfold SetTable.orStandIn;split<;>rfl
 ·rfl
def zcV(t:ko)(a:Array (Int×ae))(n:Nat):(relayAll t a n).2.1.led=t.led/\(t.plain=JU->(relayAll t a n).2.1.plain=JU):=by
 unfold relayAll;cases h:t.relaid (a.map (·.1)) n with
 |none=>exact⟨rfl,λ_=>rfl⟩
 | some p=>
  obtain⟨c,b⟩:=p;have d:c.led=t.led/\c.plain=t.plain:=by
   unfold SetTable.relaid SetTable.laid at h;cases f:SetTable.layClean (SetTable.sizeAbove n-1) (a.map (·.1)) with
   |none=>rw[f] at h;cases h
   |some ow=>rw[f] at h;cases h;exact⟨rfl,rfl⟩
  dsimp only;split
  ·exact⟨d.1,λe=>d.2.trans e⟩
  ·exact⟨rfl,λ_=>rfl⟩
def yo(w:aT):Bool:=w.params.followText "set-order"
def um(e:Int×ae):aq:=match e.2 with
 |.str x _=>x
 |_=>⟨#[]⟩
def o3(P:aK)(w:aT)(a:af)(ks:List aq)(h:aS):Prop:=
 ∃o es ep t,h.get? a=YP o/\o.ExactSet/\o.data=.set es ep t/\jt (strKind P w) es.toList/\(es.toList.map um).Perm ks/\ks.Nodup/\es.size<scanBound/\t.fits es.size=JQ/\(yo w=JU->t.led=JQ)/\(es.size≠0->t.plain=JU)
section
variable{P:aK}{w:aT}{A:aU}{E:ae->ah->Prop}{s:ah}{a:af}{ks:List aq}
def o3.keep(k:∀o,h.get? a=YP o->h'.get? a=YP o):o3 P w a ks h->o3 P w a ks h':=λ⟨o,b,c,t,d,r⟩=>⟨o,b,c,t,k o d,r⟩
def o3.size(x:o3 P w a ks h):∃o b c t,h.get? a=YP o/\o.data=.set b c t/\b.size=ks.length:=by obtain⟨o,b,c,t,d,g,e,i,f,_⟩:=x;exact⟨o,b,c,t,d,e,by rw[<- f.length_eq];simp⟩
def L4(h:jt (strKind P w) l)(b:e∈l):∃t,e.2=.str (um e) t:=by obtain⟨⟨k,c,_⟩,_⟩:=h e b;obtain⟨t,d⟩:=jk c;exact⟨t,by unfold um;rw[d]⟩
def Q4(h:e.2=.str (um e) t)(x:aq):(strKind P w).is x e.2=JQ↔um e=x:=by
 rw[h];constructor
 ·intro q;obtain⟨c,b⟩:=jk (v:=.str (um e) t) q;injection b
 ·intro q;rw[q];show fz x (.str x t)=JQ;simp[fz]
def xC(ks:List aq)(x:aq):List aq:=if ks.contains x=JQ then ks else ks++[x]
def QM{h:aS}{o:Obj}{f b:Array (Int×ae)}{c:Nat}{t t':ko}{d:List aq}(i:h.get? a=YP o)(j:o.ExactSet)(e:o.data=.set f c t)(k:jt (strKind P w) b.toList)(l:(b.toList.map um).Perm d)(m:d.Nodup)
  (n:b.size<scanBound) (p:t'.fits b.size=JQ) (q:yo w=JU->t'.led=JQ) (r:b.size≠0->t'.plain=JU):o3 P w a d (h.update a (lK b t'))/\(h.update a (lK b t')).get? a=YP { o with data:=.set b (c+1) t' }:=by have g:=bH (lK b t') i (by rw[putSet_of b t' e];rfl);rw[putSet_of b t' e] at g;exact⟨⟨_,b,c+1,t',g,j,rfl,k,l,m,n,p,q,r⟩,g⟩
def XE{x:aq}{tk:Tok}{Q:Bool->ah->Prop}(hS:o3 P w a ks s.heap)(vJ:ks.length+1<scanBound)
  (h:∀b h',de a s.heap h'->o3 P w a (xC ks x) h'->Q b { s with heap:=h' }):
  ao (au P w) A (setAddHashed a (.str x tk) ((strKind P w).hash x)) Q E s:=by
 obtain⟨o,g,ep,t,l,y,m,i,k,O,S,B,C,rg⟩:=hS;have T:(strKind P w).is x (.str x tk)=JQ:=by show fz x (.str x tk)=JQ;simp[fz]
 refine bG (aa (fL l m B ?_));dsimp only;rw[byScan_of rfl S i,JV rfl];refine aa (aa (dP (aa (wpAny_setScan_of T l m B i ?_))));cases U:List.findIdx? (λe=>(strKind P w).is x e.2) g.toList with
 | some j=>
  obtain⟨V,D,_⟩:=List.findIdx?_eq_some_iff_getElem.mp U;have vL:x∈ks:=by
   obtain⟨t',F⟩:=L4 i (cS V);have:=(Q4 F x).mp D;exact k.mem_iff.mp (aA.mpr ⟨_,cS V,this⟩)
  refine aj (aj ?_);have:=h JU s.heap (Heap.SameBut.refl a s.heap) (by
   unfold xC;rw[JV (b9.mpr vL)];exact⟨o,g,ep,t,l,y,m,i,k,O,S,B,C,rg⟩)
  cases s;exact this
 | none=>
  have W:x∉ks:=λhm=>by
   obtain⟨e,X,ek⟩:=aA.mp (k.mem_iff.mpr hm);obtain⟨t',F⟩:=L4 i X;have:=List.findIdx?_eq_none_iff.mp U e X;rw[(Q4 F x).mpr ek] at this;cases this
  have Y:xC ks x=ks++[x]:=by unfold xC;rw[JW (λz=>W (b9.mp z))]
  have n:=layNew_perm t g ((strKind P w).hash x) (.str x tk);have G:=layNew_fits t g ((strKind P w).hash x) (.str x tk);have H:=zi4 t g ((strKind P w).hash x) (.str x tk);generalize layNew t g ((strKind P w).hash x) (.str x tk)=L at n G H ⊢;obtain⟨c,Z,wd,gv⟩:=L;rw[eQ] at n;have GR:=(i.push T rfl).perm n;have I:(c.toList.map um).Perm (ks++[x]):=by
   refine(n.map um).trans ?_;rw[dI];exact k.append_right _
  have GC:(ks++[x]).Nodup:=by
   rw[fG];exact⟨O,by simp,λp k q u=>by
    have:q=x:=⇑u
    subst this;rintro rfl;exact W k⟩
  have Gr:c.size=ks.length+1:=by rw[<- aG,<- aI,I.length_eq];simp
  have J:c.size<scanBound:=by rw[Gr];exact vJ
  have gw:∀(b:Bool){K:ah}{M:Unit->ah->Prop},M () K->ao (au P w) A (match b with|true=>rule "set.scan.the-table-gave-way"|false=>pure ()) M E K:=λb K M u=>by
   cases b
   ·exact aj u
   ·exact dP u
  refine aa (gw _ ?_);have f:∀d:ko,d.led=t.led->d.plain=JU->d.fits c.size=JQ->ao (au P w) A (do
    storeSet a c d
    if (!wd&&d.tooFull)=JQ then do
      (match (relayAll d c (fR c.size)).2.2 with|true=>rule "set.scan.the-table-gave-way"|false=>pure ())
      storeSet a (relayAll d c (fR c.size)).1 (relayAll d c (fR c.size)).2.1
      pure (YP JQ)
     else pure (YP JQ)) (λr s'=>ao (au P w) A (match r with|some added=>(pure added:Sem Bool)|none=>setAddHashedIn a (.str x tk) ((strKind P w).hash x) 99999) Q E s') E s:=by
   intro d h1 h2 h3;obtain⟨S1,g1⟩:=QM l y m GR I GC J h3 (λe=>h1.trans (C e)) (λ_=>h2);have sb:=d6 s.heap a (lK c d);refine aa (wpAny_storeSet_of l m ?_ (jW J));split
   ·have v:=relayAll_perm d c (fR c.size);have rf:=relayAll_fits d c (fR c.size);have N:=zcV d c (fR c.size);generalize relayAll d c (fR c.size)=R at v rf N ⊢;obtain⟨W_,t3,gv2⟩:=R;have s2:W_.size=c.size:=by rw[<- aG,v.length_eq,aG]
    have b2:W_.size<scanBound:=by rw[s2];exact J
    refine aa (gw _ (aa (wpAny_storeSet_of g1 rfl ?_ (jW b2))));obtain⟨S2,_⟩:=QM g1 y rfl (GR.perm v) ((v.map um).trans I) GC b2 rf (λe=>N.1.trans (h1.trans (C e))) (λ_=>N.2 h2);exact aj (aj (h JQ _ (sb.trans (d6 _ a _)) (by rw[Y];exact S2)))
   ·exact aj (aj (h JQ _ sb (by rw[Y];exact S1)))
  split
  ·rename_i Ew;refine aa ?_;exact aj (f { Z with plain:=JU } H rfl (SetTable.fits_plain_off G))
  ·rename_i Ew;refine aa (aj ?_);exact f Z H ⇑Ew G
end
def vp(l:List aq):List aq:=l.foldl xC []
def zdU(l:List aq)(x:aq):vp (l++[x])=xC (vp l) x:=by unfold vp;rw[m8];rfl
def zei(a:List aq)(x:aq):(xC a x).length<=a.length+1:=by unfold xC;split<;>simp
def R6:∀(l:List aq),(vp l).length<=l.length:=λl=>by
 have:∀(l a:List aq),(l.foldl xC a).length<=a.length+l.length:=by
  intro l
  induction l with
  |nil=>intro a;exact ay _
  |cons x l ih=>intro a;refine aM (ih (xC a x)) ?_;have:=zei a x;rw[bt];lia
 have h:=this l [];simpa [vp] using h
def zex:y∈xC ks x↔y∈ks\/y=x:=by
 unfold xC;split
 ·rename_i h;exact⟨.inl,λq=>q.elim id λe=>by rw[e];exact b9.mp h⟩
 ·rw[aP,cE]
def Sb:∀(l:List aq),y∈vp l↔y∈l:=λl=>by
 have:∀(l a:List aq),y∈l.foldl xC a↔y∈a\/y∈l:=by
  intro l
  induction l with
  |nil=>intro a;simp
  |cons x l ih=>intro a;rw[fv,ih,zex,ar];exact⟨λh=>by rcases h with(h|h)|h<;>simp[h],λh=>by rcases h with h|h|h<;>simp[h]⟩
 rw[vp,this];simp
section
variable{P:aK}{w:aT}{A:aU}{s:ah}{R:Result->ah->Prop}
variable{I:af}{fp wr:List af}{n:Nat}{Pv:Nat->ae->Prop}{St:Nat->aS->Prop}
def XJ(W:Walks P w A.in1 I fp wr n Pv St)(S:af)(l:S∉fp)(vs:List aq)(x:vs.length=n)(y:∀i v,Pv i v->i<n->∃t,v=.str (vs.getD i ⟨#[]⟩) t)(a:n+1<scanBound):
  ∀(k i:Nat)(s:ah),n-i=k->i<=n->St i s.heap->o3 P w S (vp (vs.take i)) s.heap->
   (∀h' tk,(∀b o,b∉S::wr->s.heap.get? b=YP o->h'.get? b=YP o)->o3 P w S (vp vs) h'->R (.ok (.ret .none)) { s with heap:=h',toks:=tk })->
   codeAny (au P w) A (.builtin "set.update.loop" ⟨[.ref S,.ref I],[]⟩) R s:=by
 have m:S∉wr:=λh=>l (W.sub _ h);intro k
 induction k with
 | zero=>
  intro i s B C f d g;have e:i=n:=by lia
  subst e;refine eC io ?_;rw[eN fk _];show ao _ A.in1 (pyNext (.ref I) >>= _) _ _ s;refine aa (W.done s _ _ f λh' tk c=>?_);refine aj (g h' tk (λb o a z=>c b o (λq=>a (al _ q)) z) ?_);rw[<- x,gH] at d;exact d.keep λo z=>c S o m z
 | succ k ih=>
  intro i s B C f d g;have j:i<n:=by lia
  refine eC io ?_;rw[eN fk _];show ao _ A.in1 (pyNext (.ref I) >>= _) _ _ s;refine aa (W.item i s _ _ j f λv p D E F c=>?_);obtain⟨t,rfl⟩:=y i v E j;have G:o3 P w S (vp (vs.take i)) p:=d.keep λo z=>c S o m z;show ao _ A.in1 (holding [_] (setAdd S _) >>= _) _ _ _;unfold setAdd;refine aa (bG (bG (aa ((strKind P w).pyHash (k:=vs.getD i ⟨#[]⟩) (by show fz _ (.str _ t)=JQ;simp[fz]) ?_))));refine XE (s:={ s with heap:=p,toks:=D+1 }) G (by have:=R6 (vs.take i);rw[bI] at this;lia) λb L r u=>?_;have H:xC (vp (vs.take i)) (vs.getD i ⟨#[]⟩)=vp (vs.take (i+1)):=by
   rw[<- zdU,gu,aV,aw 'd'];rfl
  rw[H] at u;refine aj ⟨fE fk _,ih (i+1) _ 'd' j (W.frame _ _ _ F λb a o z=>?_) u λh' tk J K=>?_⟩
  ·rw[r.2 b (λq:b=S=>l (by rw[<- q];exact a))];exact z
  ·refine g h' tk (λb o a z=>J b o a ?_) K;rw[r.2 b (λq:b=S=>a (by rw[q];exact av))];exact c b o (λq=>a (al _ q)) z
end
section
variable{P:aK}{w:aT}{A:aU}{E:ae->ah->Prop}{s:ah}
abbrev v9(w:aT):Obj:={ cls:=.type "set",dict:=JL,data:=.set #[] 0 (.fresh 0 0 (!yo w)) }
def Xz(w:aT)(h:aS):o3 P w h.objs.size [] (h.push (v9 w)):=
 ⟨_,#[],0,_,aE _ rfl,⟨rfl,rfl,rfl⟩,rfl,λe a=>by simp at a,by simp,by simp,by decide,by rfl,λe=>by show(!yo w)=JQ;rw[e];rfl,λe=>absurd rfl e⟩
def zaQ(v:ae)(h:Q1 (.ref s.heap.objs.size) { s with heap:=s.heap.push (v9 w) }):
  codeAny (au P w) A (.call (.builtin "set.__new__") ⟨[.type "set",v],[]⟩) (wants Q1 E) s:=by
 refine g9 ?_;show ao _ A.in1 (do checkBuiltinCall "set.__new__" ⟨[.type "set",v],[]⟩;again (.builtin "set.__new__" ⟨[.type "set",v],[]⟩)) _ _ s;refine aa (jz (F.newCall_set_1 v) (aj ⟨fE F.plain_set_new _,eC F.entry_set_new ?_⟩));rw[eN F.plain_set_new _];unfold d9.«set.__new__» oy;have a:=sub_set_self;obtain⟨b,g,d,c,e⟩:=s;dsimp only
 wp_walk
 refine eU (aj ?_);dsimp only;simp only[newObj];exact aa (wpAny_alloc (aj (aj h)))
def ZK.ty:ZK->String
 |.tup _ _ => "tuple"
 |.str _ _ => "str"
 |.lst _ _ => "list"
def zj3:isSubtype (.type "tuple") (.type "set")=pure JU:=by rw[ju];kernel_rfl
def Zn:isSubtype (.type "tuple") (.type "frozenset")=pure JU:=by rw[ju];kernel_rfl
def ZK.typ(q:ZK)(h:q.pre s.heap)(d:∀x t,q ≠ .str x t):∃b a,q.val=.ref a/\s.heap.get? a=YP b/\b.cls=.type q.ty:=by
 cases q with
 |tup t items=>obtain⟨o,e,c,_⟩:=h;exact⟨o,t,rfl,e,c⟩
 |str x t=>exact absurd rfl (d x t)
 |lst l items=>obtain⟨o,e,c,_⟩:=h;exact⟨o,l,rfl,e,c⟩
def ZK.vals:ZK->Array ae
 |.tup _ c_=>c_
 |.str _ _=>#[]
 |.lst _ c_=>c_
def ZK.walks(q:ZK)(a:A.handled=JL)(j:∀x t,q ≠ .str x t)(I:af)(b:q.pre h)(c:h.get? I=YP q.obj)(d:q.val ≠ .ref I):
  ∃f g,q.val=.ref f/\Walks P w A I [I,f] [I] q.vals.size (λi v=>q.vals[i]?=YP v) g/\g 0 h:=by
 cases q with
 |tup t items=>exact⟨t,_,rfl,Walks.tuple a I t (λe=>d (by rw[e];rfl)) items,⟨_,c,rfl,rfl⟩,b⟩
 |str x t=>exact absurd rfl (j x t)
 |lst l items=>exact⟨l,_,rfl,j5 a I l (λe=>d (by rw[e];rfl)) items,⟨_,c,rfl,rfl⟩,b⟩
set_option maxHeartbeats 4000000 in
def zcv(q:ZK)(U:A.handled=JL)(H:q.pre s.heap)(d:∀x t,q ≠ .str x t)(vs:List aq)(I:vs.length=q.vals.size)(V:∀i(v:ae),q.vals[i]?=YP v->∃t:Tok,v=kC (vs.getD i ⟨#[]⟩) t)(f:vs.length+1<scanBound)
  (h:∀h' tk,o3 P w s.heap.objs.size (vp vs) h'->(∀b o,b<s.heap.objs.size->s.heap.get? b=YP o->h'.get? b=YP o)->Q (.ref s.heap.objs.size) { s with heap:=h',toks:=tk }):
  ao (au P w) A (call (.type "set") [q.val]) Q E s:=by
 obtain⟨c,tl,J⟩:=fV.mro;have WG:=fV.made;have sU:=fV.sub;obtain⟨X,l,g,K,k⟩:=q.typ H d;rw[g];refine iu (g9 ?_);show ao _ _ (callAny (.type "set") _) _ _ _;refine aj ⟨Code.quiet_builtin _ 'c',eC F.entry_type_call ?_⟩;rw[Around.under_plain (weight_type_call_type "set" [.ref l] []) rfl];have h1:=fV.notType;have h2:=fV.canCreate;have Y:=F.typeCall_set_1 (.ref l)
 repeat (any_goals (first|assumption|wp_step))
 refine ef (zaQ (.ref l) (E:=E) (Q1:=λa L=>a=.ref s.heap.objs.size/\L={ s with heap:=s.heap.push (v9 w) }) ⟨rfl,rfl⟩) λr L m=>?_;cases r with
 |error e=>exact m
 | ok fl=>
  cases fl with
  | ret a=>
   obtain⟨rfl,rfl⟩:=m;have Z:(s.heap.push (v9 w)).get? s.heap.objs.size=YP (v9 w):=aE _ rfl;have hT:oz { s with heap:=s.heap.push (v9 w) } (.ref s.heap.objs.size) "set":=⟨_,Z,rfl⟩;have hli:=fV.init.lookup;have hbi:=fV.init.bind (.ref s.heap.objs.size)
   repeat (any_goals (first|assumption|wp_step))
   refine ef (lE (R:=wants (λr M=>r=.none/\∃h' tk,M={ s with heap:=h',toks:=tk }/\o3 P w s.heap.objs.size (vp vs) h'/\(∀b o,b<s.heap.objs.size->s.heap.get? b=YP o->h'.get? b=YP o)) E) fV.init.plain F.entry_set_init (check_set_init_1 hT ?_)) λr2 M n=>?_
   ·obtain⟨Nm,F0,F1,CF⟩:=X;have k:Nm=.type q.ty:=k;subst k;have N:(s.heap.push (v9 w)).get? l=YP { cls:=.type q.ty,dict:=F0,data:=F1,slots:=CF }:=ag _ K;have O:q.pre (s.heap.push (v9 w)):=q.keep (λb o e=>ag _ e) H;have S:l<s.heap.objs.size:=aJ K;have i1:∀{B:aU}{T:ae->ah->Prop}{p:ae->ah->Prop}{tk:Nat},p (.ref (s.heap.push (v9 w)).objs.size) { s with heap:=(s.heap.push (v9 w)).push q.obj,toks:=tk }->ao (au P w) B (pyIter (.ref l)) p T { s with heap:=s.heap.push (v9 w),toks:=tk }:=λ{B T p tk}hq=>by
     rw[<- g];exact q.iter (s:={ s with heap:=s.heap.push (v9 w),toks:=tk }) O hq
    have Gr:isSubtype (.type q.ty) (.type "set")=pure JU:=by
     cases q with
     |tup _ _=>exact zj3
     |str x t=>exact absurd rfl (d x t)
     |lst _ _=>exact F.sub_list_set
    have zq:isSubtype (.type q.ty) (.type "frozenset")=pure JU:=by
     cases q with
     |tup _ _=>exact Zn
     |str x t=>exact absurd rfl (d x t)
     |lst _ _=>exact F.sub_list_frozenset
    have hnd:(eE q.ty==eE "dict")=JU:=by cases q<;>rfl
    unfold d9.«set.__init__» noKeywords og;generalize u:pyIter=PI
    wp_walk
    subst u;refine i1 ?_;refine aa (wpAny_runValue ?_);have y:A.in1.in1.in1.handled=JL:=by simp[U]
    have z:(s.heap.push (v9 w)).objs.size=s.heap.objs.size+1:=cr ..;have fo:q.obj.isFreed=JU:=by cases q<;>rfl
    obtain⟨ax,St,j,W,rX⟩:=q.walks (P:=P) (w:=w) (A:=A.in1.in1.in1) y d (s.heap.push (v9 w)).objs.size (h:=(s.heap.push (v9 w)).push q.obj) (q.keep (λb o e=>ag _ e) O) (aE _ fo) (by rw[g,z];intro e;injection e with e;exact absurd S (by rw[e];exact j4.mpr (eD _)));have C:ax=l:=by rw[g] at j;injection j with j;exact j.symm
    subst C;refine XJ W s.heap.objs.size (by
      rw[z];simp only[ar,bL,or_false,not_or];exact⟨bb (cI _),dB S⟩) vs I (λi v e _=>V i v e) (by rw[<- I];exact f) (q.vals.size-0) 0 _ 'd' (cw _) rX ?_ λh' tk D G=>?_
    ·exact(Xz (P:=P) w s.heap).keep λo e=>ag _ e
    ·refine aj (aj ⟨rfl,h',tk,rfl,G,λb o f e=>D b o ?_ (ag _ (ag _ e))⟩);rw[z];simp only[ar,bL,or_false,not_or];exact⟨bb f,bb (dj f)⟩
   ·cases r2 with
    |error e=>exact n
    | ok fl2=>
     cases fl2 with
     | ret r=>
      obtain⟨rfl,h',tk,rfl,G,D⟩:=n
      repeat (any_goals (first|assumption|wp_step))
      exact h _ _ G D
     |_=>exact n.elim
  |_=>exact m.elim
end
def QP:Manifest.owners.lookup (String.ofList ['r','o','t','a','r','e','t','i','_','t','e','s'].reverse)=YP Manifest.sig_set_iterator:=by kernel_rfl
def pA:Slot "set_iterator" "__next__" "set_iterator.__next__":=Slot.of (owner := "set_iterator") (n := "__next__") (by rw[typeLookup_type,lr];kernel_rfl) 'c' 'c' 'c' (by first|exact .inl 'c'|exact .inr 'c') (by rw[ju];kernel_rfl)
def RO:Slot "set_iterator" "__iter__" "set_iterator.__iter__":=Slot.of (owner := "set_iterator") (n := "__iter__") (by rw[typeLookup_type,lr];kernel_rfl) 'c' 'c' 'c' (by first|exact .inl 'c'|exact .inr 'c') (by rw[ju];kernel_rfl)
def zeL:entryFor table "set_iterator.__next__" = YP d9.«set_iterator.__next__»:=entryFor_of_tree 'b'
def zh8(a:ae):argsOk "set_iterator.__next__" ⟨[a],[]⟩:=by unfold argsOk;rw[signature?_of (id := "set_iterator.__next__") (n:=['_','_','t','x','e','n','_','_']) (o:=['r','o','t','a','r','e','t','i','_','t','e','s']) 'b' QP];kernel_rfl
def zi6(a:ae):argsOk "set_iterator.__iter__" ⟨[a],[]⟩:=by unfold argsOk;rw[signature?_of (id := "set_iterator.__iter__") (n:=['_','_','r','e','t','i','_','_']) (o:=['r','o','t','a','r','e','t','i','_','t','e','s']) 'b' QP];kernel_rfl
def zf0:entryFor table "set.__iter__" = YP d9.«frozenset.__iter__»:=entryFor_alias (id' := "frozenset.__iter__") 'b' rfl 'c' 'b'
def zdD:entryFor table "set_iterator.__iter__" = YP d9.«dict_keyiterator.__iter__»:=entryFor_alias (id' := "dict_keyiterator.__iter__") 'b' rfl 'c' 'b'
def Vk{α:Type}{l:List α}{i:Nat}{x:α}(h:l[i]?=YP x):(x::l.eraseIdx i).Perm l:=by
 obtain⟨a,e⟩:=am.mp h;have q:l.take i++x::l.drop (i+1)=l:=by rw[<- e,List.getElem_cons_drop a,cH]
 rw[List.eraseIdx_eq_take_drop_succ];exact List.perm_middle.symm.trans (by rw[q])
theorem UC{α:Type}(next:Nat->Nat):∀(fuel k:Nat)(left:List α)(a:Array α),left.length=fuel->(mE next fuel k left a).toList.Perm (a.toList++left)
 | 0,k,left,a,h=>by
  have:left=[]:=cY.mp h;subst this;unfold mE;simp
 | fuel+1,k,left,a,h=>by
  unfold mE;have b:next k%left.length<left.length:=Nat.mod_lt _ 'd'
  rw[aw b];dsimp only;have e:=jR b;refine(UC next fuel (k+1) _ _ (by rw[e];lia)).trans ?_;rw[eQ,bh];exact fx _ (Vk (aw b))
def Jx{α:Type}(next:Nat->Nat)(xs:Array α):(pickOrder next xs).toList.Perm xs.toList:=by
 unfold pickOrder;have:=UC next xs.size 0 xs.toList #[] 'k'
 simpa using this
section
variable{P:aK}{w:aT}{A:aU}{E:ae->ah->Prop}{s:ah}{a:af}
def ziw{src:Source}{n:Nat}{Q:Nat->ah->Prop}(b:n≠0)(h:∀i d,i<n->Q i { s with drawn:=d }):ao (au P w) A (choose src n) Q E s:=
 λc p _=>⟨b,h _ _ (Nat.mod_lt _ (Nat.pos_of_ne_zero b))⟩
theorem PR{α:Type}:∀(n:Nat)(xs:List α)(s:ah)(Q:List α->ah->Prop),xs.length=n->(∀b d,b.Perm xs->Q b { s with drawn:=d })->ao (au P w) A (drawOrder n xs) Q E s
 | 0,xs,s,Q,h,hq=>by
  have:xs=[]:=cY.mp h;subst this;unfold drawOrder;exact aj (by have:=hq [] s.drawn (e9 _);cases s;exact this)
 |n+1,[],s,Q,h,hq=>by simp at h
 | n+1,x::xs,s,Q,h,hq=>by
  unfold drawOrder;refine aa (ziw 'k' λi d c=>?_);rw[aw c];refine aa (PR n _ _ _ (by rw[jR c];simpa using h) λb e f=>aj ?_);exact hq _ e ((List.Perm.cons _ f).trans (Vk (aw c)))
abbrev yj(first:ae)(i:Nat)(a:af)(n ep:Nat):Obj:={ cls:=.type "set_iterator",data:=.fields #[first,bN i,.ref a,bN n,bN ep] }
def Qt(d:s.TypeIs (.ref I) "set_iterator")(h:ao (au P w) A.in1 (d9.«set_iterator.__next__» ⟨[.ref I],[]⟩) (λf s'=>∃v,f=.done (.ret v)/\Q (YP v) s') (λe s'=>∃o,e=.ref o/\(∃c,s'.heap.get? o=YP c/\c.cls=.type "StopIteration")/\Q JL s') s):
  ao (au P w) A (pyNext (.ref I)) Q E s:=by
 unfold pyNext;refine aa (fB (cx (name := "__next__") d pA (bU pA d zeL ?_ (zh8 _))));refine cj h (λf s' g=>?_) λe s' i=>?_
 ·obtain⟨v,rfl,q⟩:=g;exact⟨v,rfl,aj q⟩
 ·obtain⟨o,rfl,⟨c,j,k⟩,q⟩:=i;exact aa (i5 (T := "StopIteration") (b:=JQ) ⟨c,j,k⟩ lf (aj q))
end
section
variable{P:aK}{w:aT}{A:aU}{E:ae->ah->Prop}{s:ah}{a:af}{o:Obj}{es:Array (Int×ae)}{ep:Nat}{t:ko}
def UO{α:Type}{Q:α->ah->Prop}(c:A.handled=JL)(h:∀h' e,(∀b o,s.heap.get? b=YP o->h'.get? b=YP o)->(∃o,h'.get? e=YP o/\o.cls=.type "StopIteration")->E (.ref e) { s with heap:=h' }):
  ao (au P w) A (newExc (.type "StopIteration") [] >>= λe=>(raiseNew e:Sem α)) Q E s:=by refine aa ?_;refine aa (bO (?_) (by size_fits));refine aa (jz (by first|rfl|(simp;rfl)) (bO ?_ (by size_fits)));refine aa (wpAny_handled ?_);rw[c];refine aa (aj (wpAny_throw (h _ _ (λb o e=>ag _ (ag _ e)) ⟨_,aE _ rfl,rfl⟩)))
def Rb(b:s.heap.get? a=YP o)(c:o.data=.set es ep t)(d:t.fits es.size=JQ)(g:yo w=JQ)(h:Q (((pickOrder (w.params.setOrder a ep) es)[i]?).map λe=>(e.2,sl)) s):
  ao (au P w) A (setNext a sl i ep) Q E s:=by have f:(au P w).w.params.followText "set-order" = JQ:=g;refine aa (fL b c d ?_);refine aa (aa (eU (aj ?_)));rw[f,JV rfl,JW 'k'];refine aa ?_;refine aa (fL b c d ?_);refine aa (aa (eU (aj ?_)));rw[f,JV rfl];exact aa (eU (aj (aj h)))
def SU(b:s.heap.get? a=YP o)(c:o.data=.set es ep t)(d:t.fits es.size=JQ)(e:yo w=JU)(l:es.size<=1)(f:t.led=JQ)
  (h:Q (match es[fc t.place sl]?,t.place[fc t.place sl]? with|some (_,x),YP j=>YP (x,j+1)|_,_=>JL) s):
  ao (au P w) A (setNext a sl i ep) Q E s:=by
 have g:(au P w).w.params.followText "set-order" = JU:=e;refine aa (fL b c d ?_);refine aa (aa (eU (aj ?_)));rw[g,JW 'k'];show ao _ _ (if (!t.plain&&decide (es.size>1))=JQ then _ else _) _ _ _;have k:(!t.plain&&decide (es.size>1))=JU:=by
  rw[decide_eq_false 'd'];simp
 rw[k,JW 'k'];refine aa ?_;show ao _ _ (if (!t.led && !es.isEmpty)=JQ then _ else _) _ _ _;rw[f,JW 'k'];exact aj (aj h)
def zd7(b:s.heap.get? a=YP o)(c:o.data=.set es ep t)(d:t.fits es.size=JQ)(e:es[pl]?=YP x)(h:Q x.2 s):
  ao (au P w) A (setNextDrawn a pl ep) Q E s:=by refine aa (fL b c d ?_);dsimp only;rw[JW 'k',e];exact aj h
def zgv(b:s.heap.get? a=YP o)(c:o.data=.set es ep t)(d:t.fits es.size=JQ)(f:es.size≠0->t.plain=JU)(h:Q (!yo w&&decide (es.size>1)) s):ao (au P w) A (setDrawn a) Q E s:=by
 refine aa (fL b c d ?_);refine aa (aa (eU (aj (aj ?_))));have e:(!t.plain&&decide (es.size>1))=decide (es.size>1):=by
  by_cases q:es.size>1
  ·rw[f 'd',decide_eq_true q];rfl
  ·rw[decide_eq_false q];simp
 show Q (!yo w&&(!t.plain&&decide (es.size>1))) s;rw[e];exact h
def Ig{I:af}{sl i:Nat}{R:Option (ae×Nat)}{Q:Option ae->ah->Prop}(k:s.heap.get? a=YP o)(l:o.data=.set es ep t)(m:t.fits es.size=JQ)(c:s.heap.get? I=YP (yj (bN sl) i a es.size ep))(J:a≠I)(n:A.handled=JL)
  (q:∀(B:aU)(Q':Option (ae×Nat)->ah->Prop)(E':ae->ah->Prop),Q' R s->ao (au P w) B (setNext a sl i ep) Q' E' s)
  (r:∀v j,R=YP (v,j)->∀h',de I s.heap h'->h'.get? I=YP (yj (bN j) (i+1) a es.size ep)->Q (YP v) { s with heap:=h' })
  (u:R=JL->∀h',jA I s.heap h'->Q JL { s with heap:=h' }):ao (au P w) A (pyNext (.ref I)) Q E s:=by
 refine Qt ⟨_,c,rfl⟩ ?_;unfold d9.«set_iterator.__next__» slotArgs;dsimp only;refine aa (aj (aa (wpAny_fieldsOf c rfl ?_)));refine aa (jo k l m ?_);rw[JW 'k'];refine aa (q _ _ _ ?_);cases f:R with
 | some p=>
  obtain⟨v,j⟩:=p;refine aa (bK c 'k' λx g d=>(aa (bK g 'k' λy C D=>?_)));exact aj ⟨v,rfl,r v j f y (d.trans D) C⟩
 | none=>
  refine aa (bK c 'k' λx g d=>(UO ⇑n λh' e F G=>⟨e,rfl,G,u f h' λb h H z=>F b h (d.extBut b h H z)⟩))
def Qo{I f:af}{i:Nat}{first:ae}{c:pU}{Q:Option ae->ah->Prop}(m:s.heap.get? a=YP o)(n:o.data=.set es ep t)(p:t.fits es.size=JQ)(d:s.heap.get? I=YP (yj (.ref f) i a es.size ep))(v:s.heap.get? f=YP { cls:=.type "tuple",data:=.seq (c.map λ(j:Nat)=>bN (j:Int)).toArray })(y:A.handled=JL)
  (B:∀j x,c[i]?=YP j->es[j]?=YP x->∀h',de I s.heap h'->h'.get? I=YP (yj (.ref f) (i+1) a es.size ep)->Q (YP x.2) { s with heap:=h' }) (C:∀j,c[i]?=YP j->j<es.size)
  (D:c[i]?=JL->∀h',jA I s.heap h'->Q JL { s with heap:=h' }):ao (au P w) A (pyNext (.ref I)) Q E s:=by
 refine Qt ⟨_,d,rfl⟩ ?_;unfold d9.«set_iterator.__next__» slotArgs;dsimp only;refine aa (aj (aa (wpAny_fieldsOf d rfl ?_)));refine aa (jo m n p ?_);rw[JW 'k'];refine aa (dF v rfl ?_);have F:((c.map λ(j:Nat)=>bN (j:Int)).toArray)[((i:Int)).toNat]?=(c[i]?).map λ(j:Nat)=>bN (j:Int):=by
  rw[iD,i8,bF]
 dsimp only;rw[F];cases g:c[i]? with
 | some j=>
  have q:=C j g;refine aa (zd7 m n p (a8 q) ?_);exact aa (bK d 'k' λr h k=>(aj ⟨_,rfl,B j _ g (a8 q) r k h⟩))
 | none=>
  refine aa (bK d 'k' λr h k=>(aa (bK h 'k' λK L G=>?_)));refine UO ⇑y λh' e H J=>⟨e,rfl,J,D g h' λb l u z=>H b l (G.extBut b l u (k.extBut b l u z))⟩
end
section
variable{P:aK}{w:aT}{A:aU}{E:ae->ah->Prop}{s:ah}{a:af}{o:Obj}{es:Array (Int×ae)}{ep:Nat}{t:ko}{I tt:af}
abbrev Dk(os:List aq):Nat->ae->Prop:=λi v=>∃tk:Tok,v=.str (os.getD i ⟨#[]⟩) tk
def K3(h:∃c,s.heap.get? I=YP c/\c.cls=.type "set_iterator")(q:Q (.ref I) s):ao (au P w) A (pyIter (.ref I)) Q E s:=by
 have b:=h;refine jU b RO (bU RO b zdD ?_ (zi6 _))
 wp_walk
 exact⟨_,rfl, "set_iterator",_,b,pA.lookup,q⟩
def K7(b:jt (strKind P w) l)(h:l[i]?=YP e):Dk (l.map um) i e.2:=by obtain⟨c,d⟩:=L4 b (aO h);refine⟨c,?_⟩;rw[aV,bF,h];exact d
def zie(k:o.data=.set es ep t)(l:t.fits es.size=JQ)(D:jt (strKind P w) es.toList)(c:yo w=JQ)(r:A.handled=JL)(p:a≠I):
  Walks P w A I [I,a] [I] es.size (Dk ((pickOrder (w.params.setOrder a ep) es).toList.map um)) (λi h=>(∃sl:Nat,h.get? I=YP (yj (bN sl) i a es.size ep))/\h.get? a=YP o) where
 sub:=λb c=>by simp at c;simp[c]
 frame:=λi h m d u=>⟨let ⟨sl,e⟩:=d.1;⟨sl,u I 'k' _ e⟩,u a 'k' _ d.2⟩
 item:=λi s Q E L d g=>by
  obtain⟨⟨sl,q⟩,f⟩:=d;have n:=Jx (w.params.setOrder a ep) es;have F:(pickOrder (w.params.setOrder a ep) es).size=es.size:=by rw[<- aG,n.length_eq,aG]
  have x:i<(pickOrder (w.params.setOrder a ep) es).size:=by lia
  refine Ig f k l q p r (λB G H h=>Rb f k l c (by rw[a8 x];exact h)) (λv j e m y J=>?_) λe=>by cases e
  cases e;refine g _ m s.toks (K7 (D.perm n) (by rw[dG];exact a8 x)) ⟨⟨_,J⟩,?_⟩ λb C c z=>?_
  ·rw[y.2 a p];exact f
  ·rw[y.2 b ⇑c];exact z
 done:=λs Q E d g=>by
  obtain⟨⟨sl,q⟩,f⟩:=d;have n:=Jx (w.params.setOrder a ep) es;have F:(pickOrder (w.params.setOrder a ep) es).size=es.size:=by rw[<- aG,n.length_eq,aG]
  refine Ig f k l q p r (λB G H h=>Rb f k l c (by rw[kS 'd'];exact h)) (λv j e=>by cases e) λ_ m K=>g m s.toks λb C c z=>K b C ⇑c z
 self:=λi s Q E d g=>K3 (let ⟨⟨sl,e⟩,_⟩:=d;⟨_,e,rfl⟩) g
def zid(F:o.data=.set es ep t)(G:t.fits es.size=JQ)(N:jt (strKind P w) es.toList)(H:A.handled=JL)(O:a≠I)(R:tt≠I){c:pU}(v:c.Perm (bE es.size)):
  Walks P w A I [I,a,tt] [I] es.size (Dk ((c.filterMap λj=>es[j]?).map um)) (λi h=>h.get? I=YP (yj (.ref tt) i a es.size ep)/\h.get? a=YP o/\h.get? tt=YP { cls:=.type "tuple",data:=.seq (c.map λ(j:Nat)=>bN (j:Int)).toArray }) where
 sub:=λb g=>by simp at g;simp[g]
 frame:=λi h p d y=>⟨y I 'k' _ d.1,y a 'k' _ d.2.1,y tt 'k' _ d.2.2⟩
 item:=λi s Q E Y d k=>by
  obtain⟨B,r,u⟩:=d;have m:c.length=es.size:=by rw[v.length_eq];simp
  have C:∀j∈c,j<es.size:=λj f=>bZ.mp (v.mem_iff.mp f);refine Qo (first:=.ref tt) r F G B u H (λj x n J p D S=>?_) (λj e=>C j (aO e)) λe=>absurd (aY.mp e) 'd';have T:∀(l:pU),(∀j∈l,j<es.size)->(l.filterMap λj=>es[j]?)=l.map λj=>es.getD j default:=by
   intro l
   induction l with
   |nil=>intro _;rfl
   | cons q l ih=>
    intro h;have K:=h q av;rw[dZ,a8 K,ih λj f=>h j (al _ f),bQ];simp[Array.getD,K]
  have U:(c.filterMap λj=>es[j]?)[i]?=YP x:=by
   rw[T c C,bF,n];have f:=C j (aO n);rw[a8 f] at J;have:=cy J;simp[Array.getD,f,this]
  have V:jt (strKind P w) (c.filterMap λj=>es[j]?):=λe W=>by
   obtain⟨j,_,f⟩:=hV.mp W;exact N e (by rw[<- dG] at f;exact aO f)
  refine k _ p s.toks (K7 V U) ⟨S,?_,?_⟩ λb L g z=>?_
  ·rw[D.2 a O];exact r
  ·rw[D.2 tt R];exact u
  ·rw[D.2 b ⇑g];exact z
 done:=λs Q E d k=>by
  obtain⟨B,r,u⟩:=d;have m:c.length=es.size:=by rw[v.length_eq];simp
  have M:c[es.size]?=JL:=aY.mpr 'd';exact Qo (first:=.ref tt) r F G B u H (λj x n=>by rw[M] at n;cases n) (λj e=>by rw[M] at e;cases e) λ_ p X=>k p s.toks λb L g z=>X b L ⇑g z
 self:=λi s Q E d k=>K3 ⟨_,d.1,rfl⟩ k
def zgY(xs:Array Nat)(h:xs.size<=1):fc xs 0=0:=by
 unfold fc;have:xs.size=0\/xs.size=1:=by lia
 rcases this with e|e
 ·rw[e];rfl
 ·rw[e];unfold m9;rw[JV 'd'];rfl
def zgN(xs:Array Nat)(p:Nat)(h:xs.size=1)(b:xs[0]?=YP p):fc xs (p+1)=1:=by
 unfold fc;rw[h];unfold m9;rw[JV 'd'];dsimp only;have e:xs.getD ((0+1)/2) (p+1)=p:=by
  rw[Array.getD_eq_getD_getElem?,b];rfl
 rw[e,JV 'd'];rfl
def ze0(l:o.data=.set es ep t)(f:t.fits es.size=JQ)(H:jt (strKind P w) es.toList)(c:yo w=JU)(u:es.size<=1)(x:t.led=JQ)(y:A.handled=JL)(n:a≠I):
  Walks P w A I [I,a] [I] es.size (Dk (es.toList.map um)) (λi h=>(∃sl:Nat,h.get? I=YP (yj (bN sl) i a es.size ep)/\fc t.place sl=i)/\h.get? a=YP o) where
 sub:=λb c=>by simp at c;simp[c]
 frame:=λi h m d C=>⟨let ⟨sl,e,q⟩:=d.1;⟨sl,C I 'k' _ e,q⟩,C a 'k' _ d.2⟩
 item:=λi s Q E D d k=>by
  obtain⟨⟨sl,p,r⟩,g⟩:=d;have J:t.place.size=es.size:=by simp only[oA,be,beq_iff_eq] at f;exact f.1
  have K:i=0:=by lia
  subst K;have L:t.place.size=1:=by lia
  refine Ig g l f p n y (λB M N h=>SU g l f c u x (by rw[r,a8 D,a8 'd'];exact h)) (λv j e m F O=>?_) λe=>by cases e
  cases e;refine k _ m s.toks (K7 H (by rw[dG];exact a8 D)) ⟨⟨_,O,zgN _ _ L (a8 _)⟩,?_⟩ λb G c z=>?_
  ·rw[F.2 a n];exact g
  ·rw[F.2 b ⇑c];exact z
 done:=λs Q E d k=>by
  obtain⟨⟨sl,p,r⟩,g⟩:=d;refine Ig g l f p n y (λB M N h=>SU g l f c u x (by rw[r,kS (ay _)];exact h)) (λv j e=>by cases e) λ_ m R=>k m s.toks λb G c z=>R b G ⇑c z
 self:=λi s Q E d k=>K3 (let ⟨⟨sl,e,_⟩,_⟩:=d;⟨_,e,rfl⟩) k
end
section
variable{P:aK}{w:aT}{A:aU}{E:ae->ah->Prop}{s:ah}{a:af}{ks:List aq}
theorem QA(b:Array (Int×ae)):∀(l:pU),(∀j∈l,j<b.size)->(l.filterMap λj=>b[j]?).length=l.length
 |[],_=>rfl
 | q::l,h=>by
  rw[dZ,a8 (h q av)];rw[bt,bt,QA b l λj c=>h j (al _ c)]
structure ItX(P:aK)(w:aT)(a:af)(ks:List aq)(s:ah)(I:af)(s1:ah):Prop where
 ex:∃(os:List aq)(fp:List af)(St:Nat->aS->Prop),os.Perm ks/\I∈fp/\(∀b∈fp,b<s1.heap.objs.size)/\(∀b∈fp,b=a\/s.heap.objs.size<=b)/\(∀B:aU,B.handled=JL->Walks P w B I fp [I] os.length (Dk os) St)/\St 0 s1.heap
 keep:∀b o,s.heap.get? b=YP o->s1.heap.get? b=YP o
 ty:∃ob,s1.heap.get? I=YP ob/\ob.cls=.type "set_iterator"
 new:s.heap.objs.size<=I
 gens:s1.gens=s.gens
 os:s1.os=s.os
def YZ(Z:o3 P w a ks s.heap)(h:∀I s1,ItX P w a ks s I s1->Q (.ref I) s1):ao (au P w) A (pyIter (.ref a)) Q E s:=by
 obtain⟨o,c,q,t,u,hx,z,R,S,hn,k,x,hl,rg⟩:=Z;have U:s.TypeIs (.ref a) "set":=⟨o,u,hx.1⟩;have l:=aJ u;refine jU U F.slot_set_iter (bU F.slot_set_iter U zf0 ?_ (F.args_set_iter_1 _));unfold d9.«frozenset.__iter__» oF slotArgs;simp only[List.isEmpty_nil,Bool.not_true,dL,↓reduceIte,bind_assoc,gZ,bne_self_eq_false];refine aa (aj (aa (aj (aa (aa (jo u z x (aj (aa (zgv u z x rg ?_)))))))));have H:∀(first:ae)(p:aS)(d:Drawn),(∀b C,s.heap.get? b=YP C->p.get? b=YP C)->s.heap.objs.size<=p.objs.size->
   (∃(J:List aq)(D:List af)(N:Nat->aS->Prop),J.Perm ks/\p.objs.size∈D/\(∀b∈D,b<p.objs.size+1)/\(∀b∈D,b=a\/s.heap.objs.size<=b)/\(∀B:aU,B.handled=JL->Walks P w B p.objs.size D [p.objs.size] J.length (Dk J) N)/\N 0 (p.push (yj first 0 a c.size q)))->
   ao (au P w) A.in1 (setEpoch a >>= λe=>newFields "set_iterator" [first,bN 0,.ref a,bN c.size,bN e] >>= λv=>ret v) (λf V=>∃r,f=.done (.ret r)/\∃W r',V.TypeIs r W/\typeLookup (.type W) "__next__" = pure (YP r')/\Q r V) E { s with heap:=p,drawn:=d }:=by
  intro first p d X hz ⟨J,D,N,p1,p2,p3,p6,p4,p5⟩
  refine aa (wpAny_setEpoch_of (X a o u) z x ?_);refine aa (bO ?_ (by size_fits));have g:(p.push (yj first 0 a c.size q)).get? p.objs.size=YP (yj first 0 a c.size q):=aE _ rfl;refine aj ⟨_,rfl, "set_iterator",_,⟨_,g,rfl⟩,pA.lookup,h _ _ ⟨⟨J,D,N,p1,p2,λb k=>?_,p6,p4,p5⟩,λb C e=>ag _ (X b C e),⟨_,g,rfl⟩,hz,rfl,rfl⟩⟩;rw[cr];exact p3 b k
 cases T:(!yo w&&decide (c.size>1)) with
 | true=>
  refine aa (PR c.size (bE c.size) _ _ 'k' λy d K=>aa (iw ?_ ?_))
  ·have L:(s.heap.push { cls:=.type "tuple",data:=.seq (y.map λ(j:Nat)=>bN (j:Int)).toArray }).objs.size=s.heap.objs.size+1:=cr ..;refine H (.ref s.heap.objs.size) _ d (λb C e=>ag _ e) (by rw[L];exact eD _) ?_;refine⟨(y.filterMap λj=>c[j]?).map um,[(s.heap.push { cls:=.type "tuple",data:=.seq (y.map λ(j:Nat)=>bN (j:Int)).toArray }).objs.size,a,s.heap.objs.size],(λi h=>h.get? (s.heap.push { cls:=.type "tuple",data:=.seq (y.map λ(j:Nat)=>bN (j:Int)).toArray }).objs.size=YP (yj (.ref s.heap.objs.size) i a c.size q)/\h.get? a=YP o/\h.get? s.heap.objs.size=YP { cls:=.type "tuple",data:=.seq (y.map λ(j:Nat)=>bN (j:Int)).toArray }),?_,by simp,?_,?_,λB M=>?_,aE _ rfl,ag _ (ag _ u),ag _ (aE _ rfl)⟩
   ·refine(List.Perm.map um ?_).trans S;have e1:(bE c.size).filterMap (λj=>c[j]?)=c.toList:=by
     apply m7;intro i;have Of:∀n,n<=c.size->(bE n).filterMap (λj=>c[j]?)=c.toList.take n:=by
      intro n
      induction n with
      |zero=>intro _;simp
      | succ n ih=>
       intro Ai;rw[List.range_succ,List.filterMap_append,ih 'd',dZ,List.filterMap_nil,a8 'd',gu,dG,a8 'd'];rfl
     rw[Of c.size (ay _),cP 'k']
    rw[<- e1];exact K.filterMap _
   ·intro b k;rw[L] at k ⊢;simp at k;rcases k with rfl|rfl|rfl
    ·exact cI _
    ·exact dj (dj l)
    ·exact dj (cI _)
   ·intro b k;rw[L] at k;simp at k;rcases k with rfl|rfl|rfl
    ·exact .inr (eD _)
    ·exact .inl rfl
    ·exact .inr (ay _)
   ·have m:((y.filterMap λj=>c[j]?).map um).length=c.size:=by
     have Y:=QA c y λj hj=>bZ.mp (K.mem_iff.mp hj);rw[aI,Y,K.length_eq];simp
    rw[m];exact zid z x R M (by rw[L];exact bb (dj l)) (by rw[L];exact bb (cI _)) K
  ·rw[aI,K.length_eq,cX];exact jW k
 | false=>
  have this:=H (bN 0) s.heap s.drawn (λb C e=>e) (ay _);have Y:({ s with heap:=s.heap,drawn:=s.drawn }:ah)=s:=by cases s;rfl
  refine this ?_;by_cases G:yo w=JQ
  ·refine⟨(pickOrder (w.params.setOrder a q) c).toList.map um,[s.heap.objs.size,a],(λi h=>(∃O:Nat,h.get? s.heap.objs.size=YP (yj (bN O) i a c.size q))/\h.get? a=YP o),((Jx _ c).map um).trans S,by simp,?_,?_,λB M=>?_,⟨0,aE _ rfl⟩,ag _ u⟩
   ·intro b k;simp at k;rcases k with rfl|rfl
    ·exact cI _
    ·exact dj l
   ·intro b k;simp at k;rcases k with rfl|rfl
    ·exact .inr (ay _)
    ·exact .inl rfl
   ·have m:((pickOrder (w.params.setOrder a q) c).toList.map um).length=c.size:=by rw[aI,(Jx _ c).length_eq];simp
    rw[m];exact zie z x R G M (bb l)
  ·have G:yo w=JU:=⇑G
   have p:c.size<=1:=by
    rw[G] at T;simp at T;exact T
   have hpz:t.place.size=c.size:=by simp only[oA,be,beq_iff_eq] at x;exact x.1
   refine⟨c.toList.map um,[s.heap.objs.size,a],(λi h=>(∃O:Nat,h.get? s.heap.objs.size=YP (yj (bN O) i a c.size q)/\fc t.place O=i)/\h.get? a=YP o),S,by simp,?_,?_,λB M=>?_,⟨0,aE _ rfl,zgY _ 'd'⟩,ag _ u⟩
   ·intro b k;simp at k;rcases k with rfl|rfl
    ·exact cI _
    ·exact dj l
   ·intro b k;simp at k;rcases k with rfl|rfl
    ·exact .inr (ay _)
    ·exact .inl rfl
   ·have m:(c.toList.map um).length=c.size:=by simp
    rw[m];exact ze0 z x R G p (hl G) M (bb l)
end
section
variable{P:aK}{w:aT}{A:aU}{E:ae->ah->Prop}{s:ah}{a:af}{ks:List aq}
def Yx(b:s.TypeIs (.ref a) "set")(h:Q JU s):ao (au P w) A (Builtin.List.listLengthHint (.ref a)) Q E s:=by
 refine aa (wpAny_specialOf b F.slot_set_len.lookup ?_);have d:splitId "set.__len__" = YP ("set", "__len__"):=by kernel_rfl
 have c:=sub_set_self;dsimp only;rw[d];refine aa (i5 b c ?_);exact aa (ie b (aj h))
theorem VW:∀(b:List aq)(vs:List ae),vs.length=b.length->(∀j v,vs[j]?=YP v->Dk b j v)->ge vs b
 |[],[],_,_=>.nil
 |[],_::_,h,_=>by simp at h
 |_::_,[],h,_=>by simp at h
 | x::b,v::vs,h,q=>by
  obtain⟨c,e⟩:=q 0 v rfl;subst e;exact .cons x c (VW b vs ⇑h λj u z=>by
   obtain⟨d,f⟩:=q (j+1) u ⇑z;exact⟨d,by simpa [List.getD] using f⟩)
def zec(y:A.handled=JL)(z:o3 P w a ks s.heap)(R:ks.length<=1000)
  (h:∀(vs:List ae)(i:List aq)s1,i.Perm ks->ge vs i->s.heap.objs.size<=s1.heap.objs.size->(∀b o,s.heap.get? b=YP o->s1.heap.get? b=YP o)->s1.gens=s.gens->s1.os=s.os->Q vs s1):
  ao (au P w) A (collect (.ref a)) Q E s:=by
 obtain⟨o,es,ep,t,n,B,r⟩:=id z;have f:=aJ n;refine aa (wpAny_runValue (eC F.entry_proto_collect ?_));refine aa (bO (aj ⟨fE F.plain_list_iadd _,eC F.entry_list_iadd ?_⟩));have S:(s.heap.push { cls:=.type "list",data:=.seq ([]:List ae).toArray }).get? s.heap.objs.size=YP { cls:=.type "list",data:=.seq ([]:List ae).toArray }:=aE _ rfl;have T:o3 P w a ks (s.heap.push { cls:=.type "list",data:=.seq ([]:List ae).toArray }):=z.keep λo e=>ag _ e;have U:oz { s with heap:=s.heap.push { cls:=.type "list",data:=.seq ([]:List ae).toArray } } (.ref a) "set":=⟨o,ag _ n,B.1⟩;show ao _ A.in1 (Builtin.List.listExtendWith (.ref s.heap.objs.size) (.ref a) (.ref s.heap.objs.size)) _ _ _;refine aa (ie U ?_);have V:kr (.ref s.heap.objs.size) (.ref a)=JU:=by simp[kr,dB f]
 rw[JW (by rw[V];decide)];refine aa (YZ T λI s1 X=>?_);obtain⟨⟨i,Y,St,C,p2,p3,Z,D,p5⟩,p,ty,G,gn,oo⟩:=X;refine aa (bG (Yx ⟨o,p a o (ag _ n),B.1⟩ ?_));refine aa (dP (aa ?_));obtain⟨u,g,d,tk,oss⟩:=s1;have H:=p _ _ S;refine aa (f9 H rfl ?_);have J:=bH (bw (·.push cL)) H rfl;refine f9 J rfl ?_;have g3:=bH (bw (·.pop)) J rfl;have K:(oJ { s with heap:=s.heap.push { cls:=.type "list",data:=.seq ([]:List ae).toArray } }).objs.size=s.heap.objs.size+1:=cr ..;have L:s.heap.objs.size∉Y:=λm=>by
  rcases Z _ m with e|e
  ·exact bP _ (e▸f)
  ·rw[K] at e;exact Nat.not_succ_le_self _ e
 have W:=(D A.in1 ⇑y).toS;have M:∀b c,b≠s.heap.objs.size->u.get? b=YP c->((u.update s.heap.objs.size (bw (·.push cL))).update s.heap.objs.size (bw (·.pop))).get? b=YP c:=
  λb c k e=>(bj _ _ (bC k)).trans ((bj _ _ (bC k)).trans e)
 refine aj ⟨fE F.plain_extend_loop _,codeAny_extend_loopS W (aM (by rw[C.length_eq];exact R) 'u') _ L _ i.length 0 _ _ _ rfl (cw _) ((D A.in1 ⇑y).frame 0 u _ p5 λb k c e=>M b c (λq=>L (q▸k)) e) g3 (ItemsOf.nil _) λs' l c' x N O=>?_⟩;refine aa (lA N (aj ?_));have t8:=VW i l.toList ⇑O.1 λj v e=>O.2 j v (by rw[<- dG];exact e);refine h l.toList i s' C t8 (gm (aJ N)) (λb c e=>x.heap b c ?_ (M b c ?_ (p b c (ag _ e)))) (x.gens.trans gn) (x.os.trans oo)
 ·simp;refine⟨λq=>absurd (aJ e) (by rw[q];exact bP _),λq=>?_⟩;have k:=aJ e;rw[K] at G;exact absurd (ba k (mP G)) (by rw[q];exact bP _)
 ·exact λq=>absurd (aJ e) (by rw[q];exact bP _)
end
end DL
namespace DL
open PySem PyProof.Rows
section
variable{P:aK}{w:aT}{A:aU}{E:ae->ah->Prop}{s:ah}{a:af}{ks:List aq}
def zhf(u:A.handled=JL)(v:o3 P w a ks s.heap)(O:ks.length<1000)
  (h:∀(d:Array ae)(f:List aq)l s1 c,f.Perm ks->sortedS f=JQ->ge d.toList f->s.heap.objs.size<=l->s1.heap.get? l=YP { cls:=.type "list",data:=.seq d c }->(∀b o,s.heap.get? b=YP o->s1.heap.get? b=YP o)->s1.gens=s.gens->s1.os=s.os->Q (.ref l) s1):
  ao (au P w) A (call (.builtin "sorted") [.ref a]) Q E s:=by
 refine hJ nj mB mC (mD _) ?_;unfold d9.«sorted»;refine aa (m:=checkCount "sorted" 1 1 _) (aj ?_);refine aa (zec ⇑u v 'd' λg f s1 n j x y z B=>?_);have i:g.length=f.length:=j.length;have C:g.length<=4000000:=by rw[i,n.length_eq];lia
 refine aa (gR ?_);have k:(s1.heap.push (seqObj "list" g.toArray 0)).get? s1.heap.objs.size=YP (seqObj "list" g.toArray 0):=aE _ rfl;refine aa (bG (bU lp ⟨_,k,rfl⟩ kI (TS.list_sort_big lU k j.keysOf (λR S p e=>keyKind_strs (by rw[<- e];exact j)) C λD F G=>⟨_,rfl,?_⟩) (lq _)));obtain⟨H,I,J,K⟩:=sorted_out_str j F G;refine aj ⟨_,rfl,?_⟩;have L:=bH (bw λ_=>#[]) k rfl;have M:=ag (seqObj "list" #[] 0) (ag (seqObj "tuple" g.toArray 0) L);have N:=bH (bw λ_=>(JX D).map (·.2)) M rfl;refine h _ H _ _ _ (J.trans n) K I ?_ N (λb o e=>?_) z B
 ·exact x
 ·have r:=y b o e;have t:s1.heap.objs.size≠b:=λq=>absurd (aJ r) (by rw[<- q];exact bP _);exact(bj _ _ t).trans (ag _ (ag _ ((bj _ _ t).trans (ag _ r))))
end
end DL
namespace DL
open PySem L2 PyProof.Rows
noncomputable def vZ(x:pU):o_->o_
 |[]=>[x]
 |y::r=>if x<y then x::y::r else if x=y then y::r else y::vZ x r
def qX(ss:o_):o_:=ss.foldl (λl x=>vZ x l) []
theorem pC:∀{l:o_},y∈vZ x l↔y=x\/y∈l
 |[]=>by simp[vZ]
 | z::r=>by
  unfold vZ;split
  ·simp
  ·split
   ·rename_i h;subst h;simp
   ·rw[ar,pC,ar];exact⟨λh=>by rcases h with h|h|h<;>simp[h],λh=>by rcases h with h|h|h<;>simp[h]⟩
theorem TZ:∀{l:o_},l.Pairwise (· < ·)->(vZ x l).Pairwise (· < ·)
 |[],_=>by simp[vZ]
 | z::r,h=>by
  obtain⟨b,c⟩:=bS.mp h;unfold vZ;split
  ·rename_i a;exact bS.mpr ⟨λy hy=>by
    rcases ar.mp hy with rfl|hy
    ·exact a
    ·exact iY a (b y hy),h⟩
  ·rename_i a;split
   ·exact h
   ·rename_i d;refine bS.mpr ⟨λy hy=>?_,TZ c⟩;rcases pC.mp hy with rfl|hy
    ·exact j8 λq=>d (kn (iO.mp q) (iO.mp a))
    ·exact b y hy
def zY(a:o_):y∈qX a↔y∈a:=by
 have:∀(a l:o_),y∈a.foldl (λl x=>vZ x l) l↔y∈l\/y∈a:=by
  intro a
  induction a with
  |nil=>intro l;simp
  |cons x a ih=>intro l;rw[fv,ih,pC,ar];exact⟨λh=>by rcases h with(h|h)|h<;>simp[h],λh=>by rcases h with h|h|h<;>simp[h]⟩
 rw[qX,this];simp
def Cq(a:o_):(qX a).Pairwise (· < ·):=by
 have:∀(a l:o_),l.Pairwise (· < ·)->(a.foldl (λl x=>vZ x l) l).Pairwise (· < ·):=by
  intro a
  induction a with
  |nil=>intro l h;exact h
  |cons x a ih=>intro l h;exact ih _ (TZ h)
 exact this a [] eO
theorem I_:∀{l m:o_},l.Pairwise (· < ·)->m.Pairwise (· < ·)->(∀x,x∈l↔x∈m)->l=m
 |[],[],_,_,_=>rfl
 |[],y::m,_,_,h=>absurd ((h y).mpr av) 'k'
 |x::l,[],_,_,h=>absurd ((h x).mp av) 'k'
 | x::l,y::m,hl,hm,h=>by
  obtain⟨c,f⟩:=bS.mp hl;obtain⟨d,g⟩:=bS.mp hm;have b:x=y:=by
   rcases ar.mp ((h x).mp av) with e|e
   ·exact e
   ·rcases ar.mp ((h y).mpr av) with e'|e'
    ·exact e'.symm
    ·exact absurd (iY (d x e) (c y e')) (gz _)
  subst b;rw[I_ f g λz=>⟨λa=>by
    rcases ar.mp ((h z).mp (al _ a)) with e|e
    ·subst e;exact absurd (c z a) (gz _)
    ·exact e,λa=>by
    rcases ar.mp ((h z).mpr (al _ a)) with e|e
    ·subst e;exact absurd (d z a) (gz _)
    ·exact e⟩]
abbrev toS(cs:pU):aq:=⟨cs.toArray⟩
theorem Mr:∀(p:aq)(l:List aq),risingS p l=JQ->(p::l).Nodup->((p::l).map (·.cps.toList)).Pairwise (· < ·)
 |p,[],_,_=>by simp
 | p,x::r,h,nd=>by
  unfold risingS at h;rw[be,gh,ltCps_eq,decide_eq_false_iff_not] at h;obtain⟨c,d⟩:=bB.mp nd;have a:=Mr x r h.2 d;have b:=j8 λq=>c (by
   have:=kn (iO.mp h.1) (iO.mp q);have e:p=x:=by
    obtain⟨f⟩:=p;obtain⟨g⟩:=x;rw[show f=g from nE.mp this]
   rw[e];exact av)
  refine bS.mpr ⟨λy hy=>?_,a⟩;rcases ar.mp hy with rfl|hy
  ·exact b
  ·exact iY b ((bS.mp a).1 y hy)
def zjM{b:o_}{a:List aq}(c:a.Perm (vp (b.map toS)))(d:(vp (b.map toS)).Nodup)(e:sortedS a=JQ):a=(qX b).map toS:=by
 have f:(a.map (·.cps.toList)).Pairwise (· < ·):=by
  cases a with
  |nil=>exact eO
  |cons p l=>exact Mr p l e (c.nodup_iff.mpr d)
 have g:=I_ f (Cq b) λx=>by
  rw[zY,aA];constructor
  ·rintro⟨o,h,rfl⟩;have:=(Sb _).mp (c.mem_iff.mp h);obtain⟨k,i,rfl⟩:=aA.mp this;exact i
  ·intro j;exact⟨toS x,c.mem_iff.mpr ((Sb _).mpr (aA.mpr ⟨x,j,rfl⟩)),rfl⟩
 rw[<- g,bJ];refine(jC a).symm.trans (gX λo _=>?_);rfl
def o3.nd(x:o3 P w a ks h):ks.Nodup:=by obtain⟨_,_,_,_,_,_,_,_,_,b,_⟩:=x;exact b
section
variable{X:Cx}{p:Pos}{e:aR}{t:DA}
def Yy(K:ak)(P:aK)(w:aT):List V->Hp->VK->Prop:=λxs H Q=>∃(p:af)(ss:o_),xs=[.ref p]/\(qR K H p (ss.map λcs=>V.str (toS cs))\/rZ K H p (ss.map λcs=>V.str (toS cs)))/\ss.length<=1000/\∀l,H l=JL->Q (.ref l) (upd H l (.ext (o3 P w l (vp (ss.map toS)))))
def zeA{b:o_}{d:List ae}(r:oO (b.map λcs=>V.str (toS cs)) d){i:Nat}{v:ae}(h:d[i]?=YP v):∃t:Tok,v=kC ((b.map toS).getD i ⟨#[]⟩) t:=by
 obtain⟨x,a,f⟩:=Ux r h;rw[bF] at a;cases c:b[i]? with
 |none=>rw[c] at a;cases a
 | some cs=>
  rw[c] at a;cases a;obtain⟨t,rfl⟩:=f;exact⟨t,by rw[aV,bF,c];rfl⟩
def zcK(y:X.calm=JQ):oW X (.type "set") (Yy X.K X.prog X.w):=by
 intro f s B H M N Q I r h;obtain⟨p,j,rfl,sq,O,q⟩:=h;obtain⟨u,rfl,C⟩:=uG r;cases C;have c:∀(z:ZK)(a:List ae),z.val=.ref p->z.pre s.heap->(∀x t,z ≠ .str x t)->z.vals=a.toArray->oO (j.map λD=>V.str (toS D)) a->ao (au X.prog X.w) X.A (call (.type "set") [.ref p]) (EP X f B Q) X.xe s:=by
  intro z a E F G m d;have g:a.length=j.length:=by rw[<- d.length];simp
  rw[<- E];refine wT I (zcv z (I.ok.hd y) F G (j.map toS) (by rw[m];simp[g]) (λi v e=>zeA d (by rw[m] at e;simpa using e)) (by rw[aI];unfold scanBound;lia) λP R n J S=>?_);refine⟨.ref s.heap.objs.size,_,I.laid (λb L z=>J b L (aJ z) z) (ay _) ?_,rfl,q _ (I.hok.fresh (ay _))⟩;exact⟨n,let ⟨o,_,_,_,ho,_⟩:=n;⟨o,ho⟩,λT U x k=>x.keep k⟩
 rcases sq with sq|sq
 ·obtain⟨a,d,l,_⟩:=I.list sq;exact c (.lst p a.toArray) a rfl l.isList (λ_ _ e=>by cases e) rfl d
 ·obtain⟨a,d,l,_⟩:=I.tuple sq;exact c (.tup p a.toArray) a rfl l (λ_ _ e=>by cases e) rfl d
theorem Mm:∀{vs:List ae}{a:List aq},ge vs a->oO (a.map V.str) vs
 |_,_,.nil=>.nil
 |_,_,.cons y t h=>.cons ⟨t,rfl⟩ (Mm h)
def zcW(A:X.calm=JQ):oW X (.builtin "sorted") (λxs H Q=>∃a f,xs=[.ref a]/\H a=YP (.ext (o3 X.prog X.w a f))/\f.length<1000/\∀l d,d.Perm f->f.Nodup->sortedS d=JQ->H l=JL->Q (.ref l) (upd H l (.lst (d.map V.str)))):=by intro n s L H xs M Q I r h;obtain⟨a,f,rfl,B,o,q⟩:=h;obtain⟨u,rfl,C⟩:=uG r;cases C;have v:=(I.hok a _ B).1;refine wT I (zhf (I.ok.hd A) v o λi d l D c x E F j G y J K N=>?_);have z:=I.hok.fresh j;have g:d.length<=J3:=aM (gm (by rw[x.length_eq];exact o)) 'u';have k:o0 X.prog X.w (upd H l (.lst (d.map V.str))) D.heap l (.lst (d.map V.str)):=⟨by rw[aI];exact g,i.toList,c,Mm F,by rw[G]⟩;have m:=I.hok.laid y j k;refine⟨.ref l,_,?_,rfl,q l d x v.nd E z⟩;exact I.call' K (Un.laid y j z) m (by rw[J];exact I.bare) (λb(hb:b∈([]:List af))=>absurd hb (bL))
end
section
variable{Ex:Nat->Hp->Prop}
theorem Jo{K:ak}{H:Hp}{Xf μ:List af}:∀a:o_,oM K H Xf μ (a.map D.str) (a.map λcs=>V.str (toS cs))
 |[]=>.nil
 |cs::r=>.cons LM (Jo r)
def Pj(o:Bool)(r:R (List D)):R D:=r.bnd λY2 O1=>match vB Y2 with
 |some ss=>if ss.length<1000 then (if o=JQ then .ok (.own O1.length) (O1++[(qX ss).map .str]) else .ok (.lst ((qX ss).map .str)) O1) else .bad
 |none=>.bad
theorem strL_map:∀a:o_,vB (a.map D.str)=YP a
 |[]=>rfl
 |cs::r=>by show(vB (r.map D.str)).map _=_;rw[strL_map r];rfl
def zgC{P:aK}{w:aT}{H H':Hp}{Xf μ i:List af}{b:Ow}{L:af}{Q:VK}{o:Bool}{d:o_}{K:ak}(x:Ext H μ H' i)(c:oK K H' Xf i b)(j:H' L=YP (.ext (o3 P w L (vp (d.map toS)))))(k:d.length<1000)
  (q:qY Ex K H Xf μ (if o=JQ then .ok (.own b.length) (b++[(qX d).map .str]) else .ok (.lst ((qX d).map .str)) b) Q):
  ∃a g,[V.ref L]=[V.ref a]/\H' a=YP (.ext (o3 P w a g))/\g.length<1000/\∀l h,h.Perm g->g.Nodup->sortedS h=JQ->H' l=JL->Q (.ref l) (upd H' l (.lst (h.map V.str))):=by
 refine⟨L,_,rfl,j,ij (R6 _) (by rw[aI];exact k),λl h m n p f=>?_⟩;have e:=zjM m n p;subst e;rw[bJ];cases o with
 |true=>exact post.ok (show qY Ex K H Xf μ (.ok (.own b.length) (b++[(qX d).map .str])) Q from q) (x.trans (.cell f)) (c.cell f (Jo _)) (FN c.len)
 |false=>exact post.ok (show qY Ex K H Xf μ (.ok (.lst ((qX d).map .str)) b) Q from q) (x.trans (.laid f)) (c.laid f) (XV.newL c f (Jo _))
end
section
variable{X:Cx}{Ex:Nat->Hp->Prop}{pos AN p p2:Pos}{e:aR}{es:List aR}{t:DA}
def Ay(o:Bool)(t:DA):DE:=λσ O=>(t σ O).bnd λxs O1=>match xs with
 | [x]=>match (match tL O1 x with|some ds=>YP ds|none=>AK x) with
  |some ds=>Pj o (.ok ds O1)
  |none=>.bad
 |_=>.bad
def SW(o:Bool)(B:X.calm=JQ)(I:Gl X x)(J:X.mg x=JL)(L:bd x=YP (.builtin "sorted"))(s:Gl X y)(M:X.mg y=JL)(u:bd y=YP (.type "set"))(N:tM X Ex (e::es) t)
  (P:x ≠ "__name__":=by decide) (R:rH x:=by decide) (w:y ≠ "__name__":=by decide) (S:rH y:=by decide) (T:aF (e::es) X.env=(JU,eval e X.env)::aF es X.env:=by rfl) (U:(backTo AN (aF es X.env)).any (·.1)=JU:=by rfl)
  (C:aF [.Call (.Name y p2) (e::es) [] AN] X.env=(JU,eval (.Call (.Name y p2) (e::es) [] AN) X.env)::aF [] X.env:=by rfl):
  PD X Ex (.Call (.Name x p) [.Call (.Name y p2) (e::es) [] AN] [] pos) (Ay o t):=
 rV (D5 (zcW B) I J L (yb (Mo (zcK B) s M u N.out w S T U) Br C) P R C (by rfl)) λb Z σ O b_ H Q f V q=>
  uO.go f V q λxs m vs n D e2 x2 c d p=>by
   split at p
   ·rename_i x;obtain⟨v,rfl,E⟩:=ux d;split at p
    ·rename_i F r;have h:∃g a,v=.ref g/\(qR X.K n g a\/rZ X.K n g a)/\oM X.K n b D F a:=by
      cases f:tL m x with
      | some es=>
       rw[f] at r;cases r;obtain⟨p,a,z,i,j⟩:=vk c E f;exact⟨p,a,z,.inl i,j⟩
      | none=>
       rw[f] at r;obtain⟨p,a,z,i,j⟩:=Bq E r;exact⟨p,a,z,.inr i,j⟩
     obtain⟨g,a,rfl,i,j⟩:=h;have p:qY Ex X.K n b D (match vB F with|some k=>if k.length<1000 then (if o=JQ then .ok (.own m.length) (m++[(qX k).map .str]) else .ok (.lst ((qX k).map .str)) m) else .bad|none=>.bad) Q:=p;split at p
     ·rename_i k A;obtain⟨W,p⟩:=post.ite p;have Y:=IK j A;subst Y;exact⟨g,k,rfl,i,by lia,λl G=>zgC (.laid G) (c.laid G) rS W p⟩
     ·exact ai p
    ·exact ai p
   ·exact ai p
end
end DL
namespace DL
open PySem L2
structure Nx(l:List aq):Prop
section
variable{X:Cx}{Ex:Nat->Hp->Prop}{elt tg iter:aR}{ifs:List aR}{gs:List bR}{scope:cu}{pos tS py:Pos}{x y:aq}{i k:Nat}{ext:List aq}{it0:DI}{g:Tg}{ts:List DT}{cs:List Cl}{te:DE}
abbrev H_(X:Cx)(ext:List aq)(scope:cu)(tg:aR)(g:Tg)(ifs:List aR)(ts:List DT)(gs:List bR)(cs:List Cl)(elt:aR)(te:DE):Prop:=∀cells C s H fp,PG (q9 X (X.N++ext) scope cells C s H fp) tg (g.rd X.K)/\cD (λe t=>rY (q9 X (X.N++ext) scope cells C s H fp) qN e t) ifs ts/\o5 (q9 X (X.N++ext) scope cells C s H fp) gs cs/\PD (q9 X (X.N++ext) scope cells C s H fp) qN elt te
def zey(_:Nx ext)(o:Bool)(a:X.calm=JQ)(b:yN X.env.scope scope (X.N++ext) (qM (⟨it0,g,ts⟩::cs)))(hi:ui X Ex tg iter it0)(c:H_ X ext scope tg g ifs ts gs cs elt te)(d:ext.length=k:=by rfl)(e:∀x,cq iter X.env x=pure x:=by intro _;rfl):
  PD X Ex (.ListComp elt (⟨tg,iter,ifs,0⟩::gs) scope pos) (qp o k it0 g ts cs te):=d▸zgx o ext a hi b c e
def z6Y(_:Nx ext)(o:Bool)(a:X.calm=JQ)(b:X.N.Nodup)(c:X.N[i]?=YP y)(d:X.env.scope.names.lookup y=YP .local)(e:yN X.env.scope scope (X.N++ext) (qM (⟨it0,g,ts⟩::cs)))(hi:ui X Ex tg iter it0)(f:H_ X ext scope tg g ifs ts gs cs elt te)
  (h:swapsWith (.ListComp elt (⟨tg,iter,ifs,0⟩::gs) scope pos) (YP (.Name y py)) tS.line X.env=pure JQ) (j:ext.length=k:=by rfl) (l:∀x,cq iter X.env x=pure x:=by intro _;rfl):
  vd X Ex (.Assign [.Name y py] (.ListComp elt (⟨tg,iter,ifs,0⟩::gs) scope pos) tS) (qo i (qp o k it0 g ts cs te)):=j▸z8n o ext a b c d hi e f h l
end
noncomputable def xG(c:DT)(b:DS):Nat->Sg->Ow->RS
 |0,_,_=>.bad
 | f+1,σ,O=>(c σ O).bnS λk O1=>if k=JQ then (match b σ O1 with
   |.nx σ' O'=>xG c b f σ' O'
   |.ct σ' O'=>xG c b f σ' O'
   |.bk σ' O'=>.nx σ' O'
   |r=>r) else .nx σ O1
def Lq(f:Nat)(c:DT)(b:DS):DS:=xG c b f
section
variable{X:Cx}{Ex:Nat->Hp->Prop}{pos:Pos}
def zbC(f:Nat)(y:jE (au X.prog X.w) X.A X.env X.xe)(B:rY X Ex c tc)(C:sQ X Ex body tb):vd X Ex (.While c body [] pos) (Lq f tc tb):=
 AE (zeT y B.out C.out) λa g b O E h H j l q=>by
  refine⟨λm h H=>∃a g b O,oN X.K H a g b h/\oK X.K H a g O/\oR Ex X.K H a g (xG tc tb m b O) E,⟨f,a,g,b,O,j,l,q⟩,?_⟩;rintro m h H ⟨a,g,b,O,j,l,q⟩;cases m with
  |zero=>exact ai q
  | succ f=>
   refine yI.goS j l q λk n t o u G v p=>?_;cases k with
   |false=>exact p h t o .refl u v
   | true=>
    rw[JV rfl];refine⟨λh H=>∃a g b O,oN X.K H a g b h/\oK X.K H a g O/\oR Ex X.K H a g (xG tc tb f b O) E,λ_ _ z=>⟨f,cI _,z⟩,a,o,b,n,u,v,?_⟩;have p:oR Ex X.K t a o (match tb b n with|.nx σ' O'=>xG tc tb f σ' O'|.ct σ' O'=>xG tc tb f σ' O'|.bk σ' O'=>.nx σ' O'|r=>r) E:=p;cases i:tb b n with
    |nx σ' O'=>rw[i] at p;exact λD F s x e c=>⟨a,s,σ',O',e,c,oR.ext p x⟩
    |ct σ' O'=>rw[i] at p;exact λD F s x e c=>⟨a,s,σ',O',e,c,oR.ext p x⟩
    |bk σ' O'=>rw[i] at p;exact p
    |rt d O'=>rw[i] at p;exact p
    |exc c' O'=>rw[i] at p;exact p
    |bad=>rw[i] at p;exact p
end
end DL
namespace DL
open PySem L2 PyProof.Rows
abbrev DK:=Sum Int pU
noncomputable def xV:D->Option DK
 |.int i=>YP (.inl i)
 |.str cs=>YP (.inr cs)
 |_=>JL
def Dl(k:DK):D->Bool
 |.map [j] _=>decide (j=k)
 |_=>JU
def El:List D->List DK
 |.map [k] _::r=>k::El r
 |_=>[]
def En:List D->List D
 |.map _ [d]::r=>d::En r
 |_=>[]
def tZ(p:DK×D):D:=.map [p.1] [p.2]
theorem LV:∀a:List (DK×D),El (a.map tZ)=a.map (·.1)
 |[]=>rfl
 |p::r=>by show p.1::El (r.map tZ)=_;rw[LV r];rfl
theorem LC:∀a:List (DK×D),En (a.map tZ)=a.map (·.2)
 |[]=>rfl
 |p::r=>by show p.2::En (r.map tZ)=_;rw[LC r];rfl
def Iy:∀{a b:DK},kD a=kD b->a=b
 |.inl i,.inl j,h=>by cases h;rfl
 | .inr x,.inr y,h=>by
  have h:=jx h;have:x=y:=⇑h
  rw[this]
 |.inl _,.inr _,h=>by cases h
 |.inr _,.inl _,h=>by cases h
def Dg(tk tv:DE):Em:=λσ O Y2=>(tk σ O).bnd λx O1=>match xV x with
 |some k=>(tv σ O1).bnd λd O2=>if Y2.length<1000/\Y2.any (Dl k)=JU then .ok (Y2++[.map [k] [d]]) O2 else .bad
 |none=>.bad
def DR(ke ve:aR):xB where
 ex:=λgens scope pos=>.DictComp ke ve gens scope pos
 emit:=λY2 env=>do
  let kv <- eval ke env;let vv <- holding [kv] (eval ve env)
  match Y2 with
  | .ref d=>do
   standAt { ke.pos with endLine:=ve.pos.endLine,endCol:=ve.pos.endCol }
   holding [kv,vv] (dictSet d kv vv)
  |_=>unsupported "internal:dictcomp"
 new:=newDict
 ho:=λ_ _ _=>.dK []
 G:=λK _ _ A Xf H μ Y2=>∃(ps:List (DK×D))(vs:List V),Y2=ps.map tZ/\H A=YP (.dK ((ps.map λp=>kD p.1).zip vs))/\ps.length=vs.length/\oM K H (A::Xf) μ (ps.map (·.2)) vs
def zeo(j l:aR):Cj (DR j l) where
 cl:=λ_ _ _=>rfl
 turn:=λc b f k o g i z m p n d=>by
  show compTurn (.DictComp j l c b f) k o g i=_;unfold compTurn B9;rcases d with d|⟨A,B,C,d⟩
  ·simp only[n,d];rfl
  ·simp only[n,d,bne_self_eq_false,dL,if_false,bind_assoc,pure_bind]
   first|rfl|congr 1
 keep:=λ⟨q,r,e,s,t,u⟩ v x=>⟨q,r,e,x.keep _ _ s v,t,u.ext x⟩
 new:=λh=>bO (h _ rfl λH h a w e=>by
  refine⟨cw _,beq_eq_false_iff_ne.mpr (bC (bb w)),[],.nil,?_⟩;exact⟨_,#[],0,e,⟨rfl,rfl,rfl⟩,rfl,λ_ y=>by simp at y,Pairs.nil,iy⟩)
 g0:=⟨[],[],rfl,rS,rfl,.nil⟩
 q1:=λ_ _ _ _ _ _ _=>rfl
 u1:=λ_ _ _ _ _ _ _ _=>rfl
 d1:=λ_ _ _ _ _ _ _ _ _=>rfl
 u2:=λ_ _ _ _ _ _ _ _=>rfl
 d2:=λ_ _ _ _ _ _ _ _ _=>rfl
def Aw(g:H A=YP (.dK i_)):∀a,oX H a->oX (upd H A o) a:=by
 rintro a ⟨h,b,i,j⟩;have k:a≠A:=by rintro rfl;rw[g] at b;cases b
 refine⟨h,by rw[qe k];exact b,i,λd l e=>?_⟩;obtain⟨c,m,rfl,f,n⟩:=j d l e;have p:c≠A:=by rintro rfl;rw[g] at f;cases f
 exact⟨c,m,rfl,by rw[qe p];exact f,n⟩
theorem Uo:∀(ps:List (DK×D))(vs:List V),(ps.map tZ).any (Dl k)=JU->uo ((ps.map λp=>kD p.1).zip vs) (kD k)=JL
 |[],_,_=>rfl
 |_::_,[],_=>rfl
 | p::r,v::vs,h=>by
  rw[bQ,gO,Bool.or_eq_false_iff] at h;obtain⟨a,b⟩:=h;have n:¬ p.1=k:=λe=>by
   have:decide (p.1=k)=JU:=a;rw[decide_eq_true e] at this;cases this
  show uo ((kD p.1,v)::(r.map λp=>kD p.1).zip vs) (kD k)=JL;rw[D7 (λe=>n (Iy e))];exact Uo r vs b
def KO{K:ak}{H:Hp}{Xf μ:List af}{x:D}{k:DK}{v:V}(e:xV x=YP k)(h:XV K H Xf μ x v):v=kV (kD k):=by
 cases x with
 |int i=>cases e;unfold XV at h;exact h
 |str cs=>cases e;unfold XV at h;exact h
 |_=>cases e
section
variable{X:Cx}{A:af}{Xf:List af}{ke ve:aR}{gens:List bR}{tk tv:DE}
def zbM{Z:L2.St->Hp->List af->Prop}{k:Nat}{e:aR}(V:X.xe=λ_ _=>False)(L:PD X qN ke tk)(M:PD X qN ve tv)(hk:gens[k]?=JL):AF X Z (DR ke ve) A Xf e gens (Dg tk tv) k []:=by
 intro a s i H j l O Y2 Q E _ B q;unfold B9;rw[hk];show ao _ _ (do
  let kv <- eval ke X.env;let vv <- holding [kv] (eval ve X.env)
  (do
   standAt { ke.pos with endLine:=ve.pos.endLine,endCol:=ve.pos.endCol }
   holding [kv,vv] (dictSet A kv vv))) _ _ s
 obtain⟨b,C,rfl,hA,N,dA⟩:=B.grown;unfold vD Dg at q;cases D:tk l O with
 |exc c O1=>rw[D] at q;exact q.elim
 |bad=>rw[D] at q;exact q.elim
 | ok x O1=>
  rw[D] at q;have f:zU X (DR ke ve) A Xf a i H j (qM []) (match xV x with
   |some k=>(tv l O1).bnd λd n=>if (b.map tZ).length<1000/\(b.map tZ).any (Dl k)=JU then .ok (b.map tZ++[.map [k] [d]]) n else .bad
   |none=>.bad) Q:=q
  cases P:xV x with
  |none=>rw[P] at f;exact f.elim
  | some kk=>
   rw[P] at f;refine aa (BD V (L.out a s i H (λv g=>∃h,Ext H j g h/\oK X.K g (A::Xf) h O1/\XV X.K g (A::Xf) h x v) B.inv ⟨A::Xf,j,l,O,B.env,B.cells,by rw[D];exact λv H' R x c r=>⟨R,x,c,r⟩⟩)
    λu s1 ⟨v,g,I1,ru,h,W,c1,r1⟩=>?_)
   cases F:tv l O1 with
   |exc c n=>rw[F] at f;exact f.elim
   |bad=>rw[F] at f;exact f.elim
   | ok d n=>
    rw[F] at f;have G:zU X (DR ke ve) A Xf a i H j (qM []) (if (b.map tZ).length<1000/\(b.map tZ).any (Dl kk)=JU then .ok (b.map tZ++[.map [kk] [d]]) n else .bad) Q:=f;by_cases I:(b.map tZ).length<1000/\(b.map tZ).any (Dl kk)=JU
    ·rw[JV I] at G;refine aa (bG (BD V (M.out a s1 i g (λv J=>∃o,Ext g h J o/\oK X.K J (A::Xf) o n/\XV X.K J (A::Xf) o d v) I1 ⟨A::Xf,h,l,O1,B.env.ext W,c1,by rw[F];exact λv H' R x c r=>⟨R,x,c,r⟩⟩)
      λu2 s2 ⟨Y,J,I2,Ni,o,x2,c2,r2⟩=>?_))
     refine aa (fA (bG ?_));have nA:A∉j:=λm=>B.cells.nh A m 'k';have S:=W.trans x2;have t:=S.keep A _ hA nA;have T:=dA.ext S;have ek:=KO P r1;subst ek;obtain⟨z,hd,ws,w,dd⟩:=Ia I2.hok t;have y:((b.map λp=>kD p.1).zip C).length=b.length:=by rw[nR,aI,<- N,Nat.min_self]
     have U:b.length<1000:=by have:=I.1;rwa [aI] at this
     have hz:ws.length<=J3:=by rw[<- w.length];exact z
     refine wpAny_dictSet_pairs (DQ ru) dd λh' Ak sb=>?_;have he:∃q,h'.get? A=YP q:=let ⟨q,_,_,hq,_⟩:=Ak;⟨q,hq⟩;have sJ:(yT ((b.map λp=>kD p.1).zip C) (kD kk) Y).length<=J3:=aM (Vd _ _ _) (by rw[y];exact aM U 'u');have I3:=LN (t':=s2.toks+1) I2 (by rw[t];exact eL) sb he (Iq sJ hd (w.put _ Ni) Ak);rw[zev _ (Uo b C I.2)] at I3;refine G _ i _ o I3 (S.ea.trans (.putX (Aw t))) (c2.putX (Aw t)) ⟨b++[(kk,d)],C++[Y],by rw[dI];rfl,?_,by simp[N],?_⟩ rfl λ_ _=>rfl
     ·rw[rS,dI,List.zip_append (by rw[aI];exact N)];rfl
     ·rw[dI];exact(T.append (.cons r2 .nil)).mv (Ea.putX (Aw t)).mv
    ·rw[JW I] at G;exact G.elim
end
def Inv.swapK(I:L2.Inv X Xq σ H s)(e:H a=YP u0)(h:(∃i,u0=.dK i) \/ ∃o i,u0=.frz o (.dK i))(r:∀o u,X.H₀ a≠YP (.frz o u))(j:o0 X.prog X.w (upd H a u1) s.heap a u1):L2.Inv X Xq σ (upd H a u1) s:=by
 have k:∀{b:af}{d:List V},H b=YP (.tup d)->b≠a:=λ{b d}z q=>by
  rw[q,e] at z;rcases h with⟨_,rfl⟩|⟨_,_,rfl⟩<;>cases z
 have f:∀{b:af},H b=JL->upd H a u1 b=JL:=λ{b}z=>by rw[qe (bC (sO e z))];exact z
 refine⟨I.ok,I.os,I.bare,⟨I.base.keep,I.base.slot,λb o g n t=>f (I.base.free b o g n t),I.base.there,λb d g=>?_,λb o u g=>?_,λb v g=>?_⟩,I.loc,I.cell,f I.free,λx c g=>f (I.freeC x c g),λp y=>let ⟨g1,g2,g3⟩:=I.pin p y;⟨g1,f g2,g3⟩,λb u g=>?_,I.len,I.tk⟩
 ·have z:=I.base.tups b d g;rw[qe (k z)];exact z
 ·have n:b≠a:=λq=>r o u (q▸g);rw[qe n];exact I.base.frzs b o u g
 ·obtain⟨m,z⟩:=I.base.tbls b v g;refine⟨m,?_⟩;rw[qe (λq=>?_)];exact z;rw[q,e] at z;rcases h with⟨_,rfl⟩|⟨_,_,rfl⟩<;>cases z
 ·by_cases l:b=a
  ·subst l;rw[rS] at g;cases g;exact j
  ·rw[qe l] at g;refine(I.hok b u g).stay (λ_ _ _ z=>z) (λA z=>?_) λA d z=>?_
   ·rw[qe (λq=>?_)];exact z;rw[q,e] at z;rcases h with⟨_,rfl⟩|⟨_,_,rfl⟩<;>cases z
   ·rw[qe (k z)];exact z
def Inv.nofrz(I:L2.Inv X Xq σ H s)(e:H a=YP (.dK i_)):∀o u,X.H₀ a≠YP (.frz o u):=λo u z=>by
 have:=I.base.frzs a o u z;rw[e] at this;cases this
def Inv.frzK(I:L2.Inv X Xq σ H s)(e:H a=YP (.dK i_)):∃o,L2.Inv X Xq σ (upd H a (.frz o (.dK i_))) s:=by obtain⟨z,d,f,b,c⟩:=Ia I.hok e;obtain⟨o,h,i,g,r⟩:=id c;exact⟨o,Inv.swapK I e (.inl ⟨_,rfl⟩) (Inv.nofrz I e) ⟨g,z,d,f,b,c⟩⟩
def Inv.thawK(I:L2.Inv X Xq σ H s)(e:H a=YP (.frz o (.dK i_)))(c:∀o u,X.H₀ a≠YP (.frz o u)):L2.Inv X Xq σ (upd H a (.dK i_)) s:=by obtain⟨z,d,f,b,g⟩:=DP I.hok (.inr ⟨o,e⟩);exact Inv.swapK I e (.inr ⟨_,_,rfl⟩) c ⟨z,d,f,b,g⟩
def z8i{K:ak}{H:Hp}{Xf μ:List af}{O:Ow}{L:af}{a:List (DK×D)}{vs:List V}{o:Obj}(c:oK K H (L::Xf) μ O)(b:L∉Xf)(h:H L=YP (.frz o (.dK ((a.map λp=>kD p.1).zip vs))))(d:a.length=vs.length)(q:oM K H (L::Xf) μ (a.map (·.2)) vs):
  XV K H Xf μ (.map (El (a.map tZ)) (En (a.map tZ))) (.ref L):=by rw[LV,LC];exact⟨L,vs,rfl,⟨o,by rw[bJ];exact h⟩,b,λm=>c.nh L m 'k',by rw[aI];exact d,q.mv .unhide⟩
def Cg(ext:Nat)(it0:DI)(g:Tg)(ts:List DT)(cs:List Cl)(tk tv:DE):DE:=λσ O=>(Co ext it0 g ts cs (Dg tk tv) σ O).bnd λY2 O1=>.ok (.map (El Y2) (En Y2)) O1
section
variable{X:Cx}{Ex:Nat->Hp->Prop}
def X9{h i d a:aR}{b:List aR}{f:List bR}{scope:cu}{pos:Pos}{ext:List aq}{g:Tg}{ts:List DT}{cs:List Cl}{tk tv:DE}
  (j:∀cells C s H c,PG (q9 X (X.N++ext) scope cells C s H c) d (g.rd X.K)/\cD (λe t=>rY (q9 X (X.N++ext) scope cells C s H c) qN e t) b ts/\o5 (q9 X (X.N++ext) scope cells C s H c) f cs/\PD (q9 X (X.N++ext) scope cells C s H c) qN h tk/\PD (q9 X (X.N++ext) scope cells C s H c) qN i tv) {Z:af->Hp->L2.St->Hp->List af->Prop} (cells Cn s H c):
  PG (q9 X (X.N++ext) scope cells Cn s H c) d (g.rd X.K)/\cD (λe t=>rY (q9 X (X.N++ext) scope cells Cn s H c) qN e t) b ts/\o5 (q9 X (X.N++ext) scope cells Cn s H c) f cs/\∀A Xf k,(⟨d,a,b,0⟩::f:List bR)[k]?=JL->AF (q9 X (X.N++ext) scope cells Cn s H c) (Z A H) (DR h i) A Xf ((DR h i).ex (⟨d,a,b,0⟩::f) scope pos) (⟨d,a,b,0⟩::f) (Dg tk tv) k []:=
 let ⟨h1,h2,h3,h4,h5⟩:=j cells Cn s H c
 ⟨h1,h2,h3,λ_ _ _ l=>zbM rfl h4 h5 l⟩
def zdG(ext:List aq)(B:X.calm=JQ)(hi:ui X Ex tg iter it0)(D:yN X.env.scope scope (X.N++ext) (qM (⟨it0,g,ts⟩::cs)))
  (E:∀cells C s H a,PG (q9 X (X.N++ext) scope cells C s H a) tg (g.rd X.K)/\cD (λe t=>rY (q9 X (X.N++ext) scope cells C s H a) qN e t) ifs ts/\o5 (q9 X (X.N++ext) scope cells C s H a) gs cs/\PD (q9 X (X.N++ext) scope cells C s H a) qN ke tk/\PD (q9 X (X.N++ext) scope cells C s H a) qN ve tv)
  (F:∀x,cq iter X.env x=pure x:=by intro _;rfl):PD X Ex (.DictComp ke ve (⟨tg,iter,ifs,0⟩::gs) scope pos) (Cg ext.length it0 g ts cs tk tv):=by
 refine⟨?_⟩;rintro j s b_ H Q I ⟨f,μ,G,O,M,k,q⟩;show ao _ _ (comprehension (.DictComp ke ve (⟨tg,iter,ifs,0⟩::gs) scope pos) scope X.env _ newDict JU (eval iter X.env)) _ _ s;unfold Cg at q;refine Ja (zeo ke ve) (use:=JL) B hi D (λcells P s H a _ _ _=>X9 E cells P s H a) F I M k ?_;cases h:Co ext.length it0 g ts cs (Dg tk tv) G O with
 |bad=>rw[h] at q;exact q
 |exc c' O'=>rw[h] at q;exact q
 | ok Y2 O'=>
  rw[h] at q;rintro L l r v x c ⟨w,y,rfl,i,R,S⟩ s' C T U V W Y Z pn;obtain⟨m,hn⟩:=U;have n1:L∉f:=λm=>k.ht L m v;refine⟨m,hn,λh' AW=>?_⟩;obtain⟨o,J⟩:=Inv.frzK (Inv.bare T AW V W Y Z pn) i;have z:Ea L l r (upd l L (.frz o (.dK ((w.map λp=>kD p.1).zip y)))) r:=.putX (Aw i);have A:=c.putX (o:=.frz o (.dK ((w.map λp=>kD p.1).zip y))) (Aw i);have d:=x.ea.trans z;exact⟨.ref L,_,J,rfl,post.ok q ⟨d.pre,λb u g n ht=>d.kept b u g n (sO g v) ht,d.fresh,d.there,d.tab⟩ A.unhide (z8i A n1 rS R (S.mv z.mv))⟩
end
def zhD{b:o_}{a:List aq}(d:a.Perm (b.map toS))(f:b.Nodup)(g:sortedS a=JQ):a=(qX b).map toS:=by
 have i:(b.map toS).Nodup:=by
  rw[List.nodup_iff_pairwise_ne] at f ⊢;rw[iF];refine f.imp λh e=>h ?_;have e:(toS _).cps=(toS _).cps:=congrArg Str.cps e;simpa using e
 have j:(a.map (·.cps.toList)).Pairwise (· < ·):=by
  cases a with
  |nil=>exact eO
  |cons p l=>exact Mr p l g (d.nodup_iff.mpr i)
 have k:a.map (·.cps.toList)=qX b:=I_ j (Cq b) λx=>by
  rw[zY,aA];constructor
  ·rintro⟨o,m,rfl⟩;obtain⟨r,n,rfl⟩:=aA.mp (d.mem_iff.mp m);exact n
  ·intro q;exact⟨toS x,d.mem_iff.mpr (aA.mpr ⟨x,q,rfl⟩),rfl⟩
 rw[<- k,bJ];refine(jC a).symm.trans (gX λo _=>?_);obtain⟨c⟩:=o;rfl
def x9(k:DK):List DK->List D->Option D
 |j::ks,d::ds=>if j=k then YP d else x9 k ks ds
 |_,_=>JL
theorem To{K:ak}{H:Hp}{Xf μ:List af}{k:DK}{d:D}:∀{a:List DK}{ds:List D}{vs:List V},a.length=vs.length->oM K H Xf μ ds vs->x9 k a ds=YP d->∃v,uo ((a.map kD).zip vs) (kD k)=YP v/\XV K H Xf μ d v
 |[],_,_,_,_,h=>by unfold x9 at h;cases h
 |_::_,[],_,_,_,h=>by unfold x9 at h;cases h
 |j::a,d'::ds,[],hl,_,_=>by cases hl
 | j::a,d'::ds,v::vs,hl,dd,h=>by
  obtain⟨g,i,b,c,f⟩:=(show ∃w r,v::vs=w::r/\XV K H Xf μ d' w/\oM K H Xf μ ds r from dd);cases b;unfold x9 at h;show ∃w,uo ((kD j,v)::(a.map kD).zip vs) (kD k)=YP w/\_;by_cases e:j=k
  ·rw[JV e] at h;cases h;exact⟨v,Fv (p:=(kD j,v)) (congrArg kD e),c⟩
  ·rw[JW e] at h;rw[D7 (p:=(kD j,v)) (λz=>e (Iy z))];exact To (mF hl) f h
def DJ(td ty:DE):DE:=λσ O=>(td σ O).bnd λx O1=>match x with
 | .map ks ds=>(ty σ O1).bnd λy O2=>match xV y with
  | some k=>match x9 k ks ds with
   |some d=>.ok d O2
   |none=>.bad
  |none=>.bad
 |_=>.bad
section
variable{X:Cx}{Ex:Nat->Hp->Prop}{o i:aR}{pos:Pos}{td ty:DE}
def zeq{o i:aR}{pos:Pos}{td ty:TE}(n:PE X o td)(hi:PE X i ty)(p:Dr i):PE X (.Subscript o i pos) (λσ H Q=>td σ H λx d=>ty σ d λy c=>∃a f k v,x=.ref a/\Rd c a (.dK f)/\y=kV k/\uo f k=YP v/\Q v c):=by intro b s σ H Q I h;refine Lw (T := "dict") g7.lookup p (pZ (n b s σ H _ I h) λu q ⟨x,d,r,t,w⟩=>pZ (hi b q σ d _ r w) λJ K ⟨y,c,j,A,a,f,k,v,B,e,C,l,D⟩=>?_);subst B C;obtain rfl:u=dJ a:=t;obtain⟨z,L,E,g,m⟩:=DP j.hok e;obtain⟨M,F,G⟩:=pf.some_of (v:=v) (o:=valueAt E k) (by rw[<- l];exact g.val k);exact⟨m.mapOf.typeIs,ki (DQ A) m.mapOf F ⟨v,c,j.tok _,G,D⟩⟩
def zgp(g:PD X Ex o td)(hi:PD X Ex i ty)(h:Dr i):PD X Ex (.Subscript o i pos) (DJ td ty):=
 rV (zeq g.out hi.out h) λj F G O I H Q l m q=>rd.go l m q λd J v K L n x s r p=>by
  cases d with
  | map ks ds=>
   refine rd.go n s p λy M w N P R t u z b=>?_;have f:=XV.ext t r;unfold XV at f;obtain⟨a,S,rfl,A,T,U,B,C⟩:=f;cases c:xV y with
   |none=>rw[c] at b;exact b.elim
   | some k=>
    rw[c] at b;dsimp only at b;cases e:x9 k ks ds with
    |none=>rw[e] at b;exact b.elim
    | some d=>
     rw[e] at b;obtain⟨v,D,E⟩:=To B C e;exact⟨a,_,kD k,v,rfl,.inr A,KO c z,D,post.here b u E⟩
  |_=>exact ai p
end
noncomputable def K0(y z:pU)(to:DE):DE:=λσ O=>(to σ O).bnd λx O1=>match x with
 |.str i=>if i.length<=1000 then .ok (.str (Txt.replace ⟨i.toArray⟩ ⟨y.toArray⟩ ⟨z.toArray⟩).cps.toList) O1 else .bad
 |_=>.bad
section
variable{X:Cx}{Ex:Nat->Hp->Prop}{o:aR}{to:DE}{apos pY p1 p2:Pos}
def zhB(y z:pU)(j:ys=⟨y.toArray⟩)(l:zs=⟨z.toArray⟩)(f:(ys==zs)=JU)(g:z.length<=14)(m:PD X Ex o to)(u:attributeBase o "replace" X.env (eval o X.env)=eval o X.env:=by rfl)
  (w:(apos.endLine==pY.line)=JQ:=by rfl):PD X Ex (.Call (.Attribute o "replace" apos) [.Constant (.str ys) j1 p1,.Constant (.str zs) j2 p2] [] pY) (K0 y z to):=by
 refine⟨?_⟩;rintro b s A H Q I ⟨B,S,T,O,C,D,q⟩;refine kN u rfl w rfl (pZ (m.out b s A H (λv c=>∃i:pU,v=.str ⟨i.toArray⟩/\i.length<=1000/\Q (.str (Txt.replace ⟨i.toArray⟩ ⟨y.toArray⟩ ⟨z.toArray⟩)) c) I (rd.go C D q λd U v c V W x E r p=>?_)) λv G ⟨x,c,h,J,i,K,L,M⟩=>?_)
 ·cases d with
  | str i=>
   unfold XV at r;obtain⟨N,q⟩:=post.ite p;exact⟨i,r,N,post.here q E (by unfold XV;rw[D1])⟩
  |_=>exact ai p
 ·subst K;obtain⟨t,rfl⟩:=J;refine⟨"str", "str.replace",iK,PySem.F.slot_str_replace,PySem.F.type_str_replace,lC _ _ _,(λa e=>by cases e),?_⟩;refine kO rfl (iJ ?_);show ao _ _ (spliced ((JU,eval (.Constant (.str ys) j1 p1) X.env)::(JU,eval (.Constant (.str zs) j2 p2) X.env)::[])) _ _ G;refine f6 (jD (f6 (jD (iC ?_))));have P:(⟨i.toArray⟩:aq).length<=1048576:=aM (show i.toArray.size<=1000 by simpa using L) 'u';subst j l;refine ft (n:=1) (Nat.le_add_left _ _) (SC.replaceW (dB h.tk) (Nat.succ_ne_zero _) (bb (cI _)) f P (show z.toArray.size<=14 by simpa using g) λY k R=>⟨.str _,c,h.tok k R,⟨_,rfl⟩,M⟩)
def Zy:bd "sum" = YP (.builtin "sum"):=by boot_by_name
def zbL(g:X.calm=JQ):oW X (.builtin "sum") (λxs H Q=>∃(p:af)(a:List Int),xs=[.ref p]/\qR X.K H p (a.map V.int)/\Q (.int a.sum) H):=by
 intro c s w H xs x Q I r h;obtain⟨p,a,rfl,i,q⟩:=h;obtain⟨u,rfl,j⟩:=uG r;cases j;obtain⟨y,k,l,z⟩:=I.list i;have d:=Vv k;obtain⟨b,e⟩:=d.allInts.items;have m:a=b.toList.map (·.1):=by rw[<- d.numsOf,<- ma,<- e]
 have f:=l.isList;rw[e] at f;refine wT I (sum_intListG (I.ok.hd g) f λA n t' t B=>?_);have v:preSum (numAt b) b.size=a.sum:=by
  rw[preSum_eq,cP 'k',m]
 rw[v];exact⟨.int _,H,I.kept (t':=n) t,⟨_,rfl⟩,q⟩
def ES:Ow->List D->R D:=λO xs=>match xs with
 | [x]=>match tL O x with
  | some ds=>match yY ds with
   |some ns=>.ok (.int ns.sum) O
   |none=>.bad
  |none=>.bad
 |_=>.bad
def Zz:vE X Ex (λxs H Q=>∃(p:af)(a:List Int),xs=[.ref p]/\qR X.K H p (a.map V.int)/\Q (.int a.sum) H) ES:=by
 intro H b j O xs k Q c d q;unfold ES at q;split at q
 ·rename_i x;obtain⟨v,rfl,f⟩:=ux d;split at q
  ·rename_i l e;obtain⟨p,m,rfl,g,h⟩:=vk c f e;split at q
   ·rename_i a i;refine⟨p,a,rfl,?_,post.here q c t5⟩;rw[<- LL h i];exact g
   ·exact ai q
  ·exact ai q
 ·exact ai q
end
section
variable{X:Cx}{Ex:Nat->Hp->Prop}
def zcG(_:Nx ext)(b:X.calm=JQ)(c:yN X.env.scope scope (X.N++ext) (qM (⟨it0,g,ts⟩::cs)))(hi:ui X Ex tg iter it0)
  (d:∀cells C s H a,PG (q9 X (X.N++ext) scope cells C s H a) tg (g.rd X.K)/\cD (λe t=>rY (q9 X (X.N++ext) scope cells C s H a) qN e t) ifs ts/\o5 (q9 X (X.N++ext) scope cells C s H a) gs cs/\PD (q9 X (X.N++ext) scope cells C s H a) qN ke tk/\PD (q9 X (X.N++ext) scope cells C s H a) qN ve tv)
  (f:ext.length=k:=by rfl) (h:∀x,cq iter X.env x=pure x:=by intro _;rfl):PD X Ex (.DictComp ke ve (⟨tg,iter,ifs,0⟩::gs) scope pos) (Cg k it0 g ts cs tk tv):=f▸zdG ext b hi c d h
end
end DL
namespace DL
open PySem L2
open PyProof.Rows (AllBare)
structure Sq(Cl:Nat->ae)(P:aK)(w:aT)(K:ak)(mg:aq->Option ae)(base:aS)(x:aq)(k n:Nat)(Pt:af)(F:qh):Prop where
 ex:∃f fd ps,mg x=YP (.ref f)/\cZ K (.ref f)=JQ/\Binds K fd ps []/\oY P w K mg base (sj P w Cl) k f fd ps (HM K (Xk Cl) n Pt F)
structure Ar(K:ak)(mg:aq->Option ae)(x:aq)(st:dh)(c:af):Prop where
 ex:∃f fd,mg x=YP (.ref f)/\L2.Fun K x x st f fd/\fd.code=.ref c
def uq(Pt iT n:Nat)(F:qh)(t:DA):DE:=λσ O=>match σ[iT]? with
 |some (YP (.tab p))=>if p=Pt then k_ n F t σ O else .bad
 |_=>.bad
def Zj{Cl:Nat->ae}{X:Cx}{E:XK}{x:aq}{k j n Pt i:Nat}{F:qh}{p pos:Pos}{e:aR}{a:List aR}{t:DA}(c:Sq Cl X.prog X.w X.K X.mg X.base x k n Pt F)(o:Bu (sj X.prog X.w Cl) X E)(r:oP j X.A)(s:k<=j)(u:Gl X x)(y:tM X (Xk Cl E) (e::a) t)
  (z:rH x:=by decide) (B:aF (e::a) X.env=(JU,eval e X.env)::aF a X.env:=by rfl) (C:(backTo pos (aF a X.env)).any (·.1)=JU:=by rfl):
  PD X (Xk Cl E) (.Call (.Name x p) (e::a) [] pos) (uq Pt i n F t):=by
 obtain⟨f,Y,Z,D,I,J,G⟩:=c.ex;refine rV (LJ (dvs:=[]) (ds:=[]) (G.mono s) r u D I J .nil o y.out z B C) λb L M O b_ H Q l N q=>?_;obtain⟨P,q⟩:oX H Pt/\qY (Xk Cl E) X.K H b L (k_ n F t M O) Q:=by
  unfold uq at q;split at q
  ·rename_i p R;by_cases g:p=Pt
   ·rw[JV g] at q;obtain⟨v,_,d⟩:=l.at_ i _ R;unfold XV at d;rw[g] at d;exact⟨d.2,q⟩
   ·rw[JW g] at q;exact ai q
  ·exact ai q
 refine uO.go l N q λds S vs H1 T e2 U V m h=>?_;obtain⟨W,h⟩:=post.ite h;refine⟨by rw[bV,<- m.length];exact W,b,T,ds,S,?_,V,U.tab _ P,h⟩;rw[bV];exact m
structure Ko where
 params:eR
 body:aR
 scope:cu
 tE:DE
def ZN(X:Cx)(L:Ko)(c:af)(ct:ae):Obj:={ cls:=.type "function",data:=.func (cC "<lambda>" (X.env.qual ++ "<lambda>") L.params L.body L.scope (sC X.env.cells L.scope.names []) ((X.mg "__name__").getD .none) (.ref c) ct) }
def pr(X:Cx)(L:Ko)(H:Hp)(a:af):Prop:=∃c φ ct,H a=YP (.ext λh=>h.get? a=YP (ZN X L c ct))/\H c=YP (.ext φ)/\∀h:aS,φ h->∃q,h.CodeRec (.ref c) q
structure znN(Cl:Nat->ae)(X:Cx)(k:Nat)(L:Ko):Prop where
 ls:Jc X.env.scope L.scope
 df:defaultsOf L.params X.env=([],[])
 bl:∀(name qual:aq)(cl:List (aq×af))(pm cd ct:ae),bindArgs (cC name qual L.params L.body L.scope cl pm cd ct) ⟨[],[]⟩=pure []
 E:∀(q:aq)(lam:af)(cd:ae)(cl:List (aq×af))(A:aU)(outer:List Env)(s:ah)(H:Hp)(E:XK),oP k (A.deeper (tN q L.scope s.heap.objs.size lam cd cl))->PD (Dj (sj X.prog X.w Cl) X.prog X.w X.K X.mg X.base X.N (tN q L.scope s.heap.objs.size lam cd cl) A outer s H E) (Xk Cl E) L.body L.tE
section
variable{X:Cx}{H H':Hp}
def pr.ext(h:pr X L H a)(x:Ext H [] H' []):pr X L H' a:=by obtain⟨c,b,d,e,f,g⟩:=h;exact⟨c,b,d,x.keep _ _ e 'k',x.keep _ _ f 'k',g⟩
end
structure Ks(X:Cx)(H0:Hp)(l:af)(ls:List Ko)(as:List af)(H:Hp):Prop where
 nl:H0 l=JL
 ea:Ea l H0 [] H []
 at_:H l=YP (.lst (as.map V.ref))
 lam:cD (λL a=>pr X L H a) ls as
 nd:as.Nodup
def Ks.ext(b:Ks X H0 l ls as H)(μ:List af):Ext H0 μ H μ:=
 ⟨⟨[],by simp⟩,λc o h _ a=>b.ea.kept c o h 'k' (sO h b.nl) a,λ_ m=>.inl m,b.ea.there,b.ea.tab⟩
def Ks.cells(b:Ks X H0 l ls as H)(c:oK K H0 Xf μ O):oK K H Xf μ O:=by refine⟨c.len,c.nd,c.nh,λa m=>b.ea.there a (c.ht a m),λk a e=>?_⟩;obtain⟨f,g,h,d,i⟩:=c.at_ k a e;exact⟨f,g,h,b.ea.kept a _ d 'k' (sO d b.nl) (by intro j z;cases z),i.ext (b.ext μ)⟩
def oN.take(e:oN K H Xf μ σ b_)(n:Nat):oN K H Xf μ (σ.take n) (b_.take n):=
 ⟨by simp[e.len],λi d h=>by
  rw[jH] at h;split at h
  ·rename_i a;obtain⟨v,b,c⟩:=e.at_ i d h;exact⟨v,by rw[jH,JV a];exact b,c⟩
  ·cases h⟩
def oN.drop(e:oN K H Xf μ σ b_)(i:Nat):oN K H Xf μ (σ.set i JL) b_:=
 ⟨by simp[e.len],λj d h=>by
  by_cases a:i=j
  ·subst a;by_cases b:i<σ.length
   ·rw[aZ b] at h;cases h
   ·rw[aY.mpr (by simp;lia)] at h;cases h
  ·rw[aX a] at h;exact e.at_ j d h⟩
section
end
def pr.mono(h:pr X L H a)(k:∀b d,H b=YP (.ext d)->H' b=YP (.ext d)):pr X L H' a:=by obtain⟨c,d,e,f,g,i⟩:=h;exact⟨c,d,e,k _ _ f,k _ _ g,i⟩
end DL
namespace DL
open PySem L2 PySem.Spec PyProof.Rows
open Sem (wp)
end DL
namespace DL
open PySem L2 PySem.Spec PyProof.Rows
open Sem (wp)
open AutoSeq1 (wpAny_loadPart')
end DL
namespace DL
open PySem L2 PySem.Spec PyProof.Rows
section
end
def zaE(n:Nat):dg ((n:Int)-1) (-1) (-1)=n:=by
 unfold dg;rw[JW 'u'];by_cases h:(n:Int)-1 > -1
 ·rw[JV h];have e:(-(-1:Int))=1:=by decide
  rw[e,Int.ediv_one];lia
 ·rw[JW h];lia
def z4x{P:aK}{w:aT}{A:aU}{E:ae->ah->Prop}{s:ah}{sl:af}{vs:ae}{n:Nat}{Q:Int×Int×Nat->ah->Prop}(c:s.heap.IsSliceOf sl .none .none vs)(d:gp vs (YP (-1)))
  (h:Q ((n:Int)-1,-1,n) s):ao (au P w) A (gM (.ref sl) (pure (n:Int))) Q E s:=by obtain⟨e,a,f,b⟩:=id c;unfold gM Builtin.Slice.sliceFields;refine aa (aa (bA a b (x:=.none) rfl (aa (bA a b (x:=.none) rfl (aa (bA a b (x:=vs) rfl (aj ?_)))))));refine aa (HT.slicePart_ d ?_);show ao _ _ (if ((-1:Int)==0)=JQ then _ else _) _ _ s;rw[JW 'u'];refine aa (jp (aa (jp (aa (aj ?_)))));show ao _ _ (pure ((n:Int)-1,(-1:Int),dg ((n:Int)-1) (-1) (-1))) _ _ s;rw[zaE];exact aj h
def zcD(a:List ae):((bE a.length).filterMap λ(m:Nat)=>a.toArray[(((a.length:Int)-1)+(m:Int)*(-1)).toNat]?).toArray=a.reverse.toArray:=by
 congr 1;have e:∀l:pU,(∀k∈l,k<a.length)->l.filterMap (λ(m:Nat)=>a.toArray[(((a.length:Int)-1)+(m:Int)*(-1)).toNat]?)=l.map λk=>a.reverse.getD k .none:=by
  intro l
  induction l with
  |nil=>intro _;rfl
  | cons k l ih=>
   intro h;have b:k<a.length:=h k 'k';have c:(((a.length:Int)-1)+(k:Int)*(-1)).toNat=a.length-1-k:=by lia
   have d:a.toArray[(((a.length:Int)-1)+(k:Int)*(-1)).toNat]?=YP (a.reverse.getD k .none):=by
    rw[c,i8,aV,List.getElem?_reverse b,aw 'd'];rfl
   rw[dZ,bQ,d,ih λj f=>h j (by simp[f])]
 rw[e _ λk b=>bZ.mp b];refine List.ext_getElem 'k' λi n g=>?_;rw[gJ,List.getElem_range,aV,aw g];rfl
def z6S{P:aK}{w:aT}{A:aU}{E:ae->ah->Prop}{s:ah}{t sl:af}{a:List ae}{vs:ae}{Q:ae->ah->Prop}(c:IsTup s.heap t a.toArray)(d:s.heap.IsSliceOf sl .none .none vs)(e:gp vs (YP (-1)))
  (h:Q (.ref s.heap.objs.size) { s with heap:=s.heap.push { cls:=.type "tuple",data:=.seq a.reverse.toArray } }) (f:a.length<=J3):ao (au P w) A (getItem (.ref t) (.ref sl)) Q E s:=by
 have b:sizeOk (.seq a.reverse.toArray):=by
  show a.reverse.toArray.size<=J3;rw[aQ,me];exact f
 obtain⟨g,i,j,p⟩:=id d;have k:s.TypeIs (.ref sl) "slice":=⟨g,i,j⟩;unfold getItem
 try with_reducible refine bG ?_
 first|refine aa (aj ?_)|skip
 refine aa (jT c.typeIs 'u' (aa (cx (name := "__getitem__") c.typeIs bM (bU bM c.typeIs jm ?_ (jG _ _)))));show ao _ _ (gN (.ref t) >>= _) _ _ s;refine aa (lP c (aa (ie k ?_)));rw[JV 'u'];have l:a.toArray.size=a.length:=aQ;refine aa (z4x (n:=a.toArray.size) d e ?_);have o:¬ ((((a.toArray.size:Int)-1)==0&&(-1:Int)==1&&a.toArray.size==a.toArray.size)=JQ):=by
  intro q;rw[be,be] at q;exact absurd q.1.2 'u'
 show ao _ _ (if ((((a.toArray.size:Int)-1)==0&&(-1:Int)==1&&a.toArray.size==a.toArray.size))=JQ then _ else _) _ _ s;rw[JW o,l,zcD]
 first
  |exact aa (m:=fW _) (bO (aj ⟨_,rfl,aj h⟩) b)
  |exact aa (m:=fW _) (bO (aa (aj (aj ⟨_,rfl,aj h⟩))) b)
  |exact aa (aa (m:=fW _) (bO (aj (aj ⟨_,rfl,aj h⟩)) b))
  |exact aa (aa (m:=fW _) (bO (aj ⟨_,rfl,aj h⟩) b))
section
variable{X:Cx}{Ex:Nat->Hp->Prop}{pos p2:Pos}{e st:aR}{te:DE}{ts:DO}
def Ym(K:ak)(te:TE)(ts:TO):TE:=λσ H Q=>te σ H λx H1=>ts σ H1 λo H2=>o=YP (-1)/\∃a xs,x=.ref a/\rZ K H2 a xs/\∀p,H2 p=JL->Q (.ref p) (upd H2 p (.tup xs.reverse))
def zit{te:TE}{ts:TO}(l:PE X e te)(m:PO X (YP st) ts):PE X (.Subscript e (.Slice JL JL (YP st) p2) pos) (Ym X.K te ts):=by intro c s f H Q I h;refine lB (pZ (l c s f H _ I h) λv n ⟨x,p,t,u,y⟩=>?_);refine wpAny_Slice ?_;rw[evalPart_none];refine aj (aj (pZ (m c n f p _ t y) λi d ⟨o,z,B,C,D⟩=>?_));obtain⟨rfl,a,E,rfl,F,q⟩:=D;cases u;have g:Inv X c f z { d with heap:=d.heap.push { cls:=.type "slice",data:=.fields #[.none,.none,i] } }:=B.kept (t':=d.toks) λb G q=>ag _ q;obtain⟨L,r,j,J⟩:=g.tuple F;have k:=r.length;show ao (au X.prog X.w) X.A (subscriptTail e (.Slice JL JL (YP st) p2) (.ref a) (.ref d.heap.objs.size)) (EP X c f Q) X.xe { d with heap:=d.heap.push { cls:=.type "slice",data:=.fields #[.none,.none,i] } };refine tail_any (ops:=[.ref a,.ref d.heap.objs.size]) j.typeIs bM.lookup ?_ (by with_unfolding_all rfl);refine z6S j (mn ..) C ?_ 'd';refine⟨.ref _,_,g.laid (t':=d.toks) (o:=.tup E.reverse) (λb G q=>ag _ q) (ay _) ?_,rfl,q _ (g.hok.fresh (ay _))⟩;exact⟨by rw[me];exact J,_,zes r,o9.new _ _⟩
noncomputable def HZ(te:DE)(ts:DO):DE:=λσ O=>(te σ O).bnd λx O1=>(ts σ O1).bnd λo O2=>if o=YP (-1) then match x with
 |.tup ds=>.ok (.tup ds.reverse) O2
 |_=>.bad else .bad
def zhj(g:PD X Ex e te)(h:Am X Ex (YP st) ts):PD X Ex (.Subscript e (.Slice JL JL (YP st) p2) pos) (HZ te ts):=
 rV (zit g.out h.out) λi z A O B H Q j k q=>rd.go j k q λd C v D E m x n r p=>BJ.go m n p λl F G I J o c a=>by
  have f:=r.ext o;obtain⟨s,a⟩:=post.ite a;cases d with
  | tup ds=>
   unfold XV at f;obtain⟨t,u,rfl,w,y⟩:=f;exact⟨s,t,u,rfl,w.sq,λK b=>post.ok a (.laid b) (c.laid b) (XV.newT c b y.rev)⟩
  |_=>exact ai a
end
end DL
namespace DL
open PySem L2
section
variable{Ex:Nat->Hp->Prop}
def oR.seq(q:oR Ex K H Xf μ (pV t u σ O) E):oR Ex K H Xf μ (t σ O) { E with nx:=λf H'=>JS Ex K u E f H' }:=by
 unfold pV at q;cases e:t σ O with
 | nx σ' O'=>
  rw[e] at q;exact λi H' g h a b=>⟨Xf,g,σ',O',a,b,q.ext h⟩
 |rt d O'=>rw[e] at q;exact q
 |bk σ' O'=>rw[e] at q;exact q
 |ct σ' O'=>rw[e] at q;exact q
 |exc c O'=>rw[e] at q;exact q
 |bad=>rw[e] at q;exact q
end
end DL
namespace DL
open PySem L2 PySem.Spec PyProof.Rows
noncomputable def Ql:List ae->List Int->Bool
 |[],[]=>JQ
 |.int i _::vs,k::ks=>i==k&&Ql vs ks
 |_,_=>JU
def X1(o:Obj)(ks:List Int):Bool:=(match o.cls with|.type n=>n == "tuple"|_=>JU)&&o.dict.isNone&&(match o.data with|.seq c_ _=>Ql c_.toList ks&&decide (c_.size<=1000)|_=>JU)
structure znJ(K:ak)(mg:aq->Option ae)(x:aq)(ks:List Int):Prop where
 ex:∃e o,mg x=YP (.ref e)/\K.lookup e=YP o/\X1 o ks=JQ
end DL
namespace DL
open PySem L2 PyProof.Rows
def Au:List D->Option (List o_)
 |[]=>YP []
 | .tup ds::r=>match vB ds,Au r with
  |some ks,YP t=>YP (ks::t)
  |_,_=>JL
 |_::_=>JL
def Dm(x:o_):List o_->List o_
 |[]=>[x]
 |y::l=>if y<x then y::Dm x l else x::y::l
def B5(l:List o_):List o_:=l.foldr Dm []
def toT(ks:o_):D:=.tup (ks.map .str)
def EV:Ow->List D->R D:=λO xs=>match xs with
 | [x]=>match tL O x with
  | some ds=>match Au ds with
   |some rT=>if (2<=rT.length->(rT.all λks=>!ks.isEmpty)=JQ)/\rT.length<=4000000 then .ok (.lst ((B5 rT).map toT)) O else .bad
   |none=>.bad
  |none=>.bad
 |_=>.bad
abbrev yp(a b:o_):Prop:=¬ b<a
def yp.trans{a b c:o_}(g:yp a b)(d:yp b c):yp a c:=λh=>by
 by_cases e:b<a
 ·exact g e
 ·by_cases f:a<b
  ·exact d (TS.llt_trans h f)
  ·rw[TS.llt_total f e] at h;exact d h
theorem Mp(x:o_):∀l,(Dm x l).Perm (x::l)
 |[]=>e9 _
 | y::l=>by
  unfold Dm;split
  ·exact((Mp x l).cons y).trans (List.Perm.swap x y l)
  ·exact e9 _
theorem Ms:∀l,(B5 l).Perm l
 |[]=>e9 _
 |x::l=>(Mp x (B5 l)).trans ((Ms l).cons x)
theorem TK(x:o_):∀l,l.Pairwise yp->(Dm x l).Pairwise yp
 |[],_=>kB _ _
 | y::l,h=>by
  unfold Dm;have a:=bS.mp h;split
  ·rename_i c;refine bS.mpr ⟨λz hz=>?_,TK x l a.2⟩;rcases ar.mp ((Mp x l).mem_iff.mp hz) with rfl|hz
   ·exact λd=>TS.llt_irrefl _ (TS.llt_trans d c)
   ·exact a.1 z hz
  ·rename_i b;refine bS.mpr ⟨λz hz=>?_,h⟩;rcases ar.mp hz with rfl|hz
   ·exact b
   ·exact yp.trans b (a.1 z hz)
theorem TU:∀l,(B5 l).Pairwise yp
 |[]=>eO
 |x::l=>TK x _ (TU l)
theorem U6:∀{a b:List o_},a.Pairwise yp->b.Pairwise yp->a.Perm b->a=b
 |[],b,_,_,p=>p.nil_eq
 |x::a,[],_,_,p=>absurd p.symm.nil_eq 'k'
 | x::a,y::b,ha,hb,p=>by
  have c:=bS.mp ha;have d:=bS.mp hb;have e:x=y:=by
   have f:yp y x:=by
    rcases ar.mp (p.mem_iff.mp av) with h|h
    ·rw[h];exact TS.llt_irrefl _
    ·exact d.1 x h
   have g:yp x y:=by
    rcases ar.mp (p.mem_iff.mpr av) with h|h
    ·rw[h];exact TS.llt_irrefl _
    ·exact c.1 y h
   exact TS.llt_total f g
  subst e;rw[U6 c.2 d.2 (List.Perm.cons_inv p)]
def Bk{α:Type}(R:V->α->Prop):List V->List α->Prop
 |[],[]=>True
 |v::vs,k::ks=>R v k/\Bk R vs ks
 |_,_=>False
def OZ(K:ak)(H:Hp)(v:V)(ks:o_):Prop:=∃t,v=.ref t/\rZ K H t (ks.map λcs=>V.str ⟨cs.toArray⟩)
def vT:ae->V
 |.ref t=>.ref t
 |_=>.non
theorem Mq:∀{a:o_}{b:List ae},oO (a.map λcs=>V.str ⟨cs.toArray⟩) b->TS.allS b=YP a
 |[],_,.nil=>rfl
 | k::a,u::us,.cons r h=>by
  obtain⟨c,rfl⟩:=r;unfold TS.allS;rw[Mq h];rfl
section
variable{X:Cx}{Ex:Nat->Hp->Prop}{H:Hp}{Xf μ:List af}
def PN(K:ak):List V->Hp->VK->Prop:=λxs H Q=>∃p vs rT,∃R:V->o_->Prop,xs=[.ref p]/\qR K H p vs/\Bk R vs rT/\(∀v k,R v k->OZ K H v k/\(2<=vs.length->k≠[]))/\vs.length<=4000000/\∀l sP AR,Bk R sP AR->AR.Perm rT->AR.Pairwise yp->H l=JL->Q (.ref l) (upd H l (.lst sP))
theorem SQ{b:List (af×Obj)}{σ:L2.St}{s:ah}(I:L2.Inv X b σ H s){R:V->o_->Prop}{B:Prop}(d:∀v k,R v k->OZ X.K H v k/\(B->k≠[])):∀{vs:List V}{c:List o_}{a:List ae},Bk R vs c->oO vs a->a.map (TS.keyT s.heap)=c/\∀u∈a,R (vT u) (TS.keyT s.heap u)/\RelV (vT u) u/\∃f,TS.TupS s.heap u f/\(B->f≠[])
 |[],[],_,_,.nil=>⟨rfl,λ_ h=>by cases h⟩
 |[],_::_,_,h,_=>h.elim
 |v::vs,[],_,h,_=>h.elim
 | v::vs,k::c,u::us,⟨h1,h2⟩,.cons r hv=>by
  obtain⟨e,m⟩:=SQ I d h2 hv;obtain⟨⟨t,rfl,p⟩,q⟩:=d v k h1;cases r;obtain⟨a,i,⟨o,g,w,n,j⟩,_⟩:=I.tuple p;have x:TS.TupS s.heap (.ref t) k:=⟨t,o,a.toArray,n,rfl,g,w,j,by simpa using Mq i⟩;have l:TS.keyT s.heap (.ref t)=k:=by
   show((match s.heap.get? t with|some o=>(match o.data with|.seq a _=>TS.allS a.toList|_=>JL)|none=>JL):Option _).getD []=_;rw[g];dsimp only;rw[j];dsimp only;rw[show TS.allS a.toArray.toList=YP k from by simpa using Mq i];rfl
  refine⟨by rw[bQ,l,e],λu hu=>?_⟩;rcases ar.mp hu with rfl|hu
  ·exact⟨by rw[l];exact h1,rfl,k,x,q⟩
  ·exact m u hu
theorem Tv{R:V->o_->Prop}{f:ae->o_}:∀{l:List ae},(∀u∈l,R (vT u) (f u))->Bk R (l.map vT) (l.map f)
 |[],_=>trivial
 |u::l,h=>⟨h u av,Tv λv a=>h v (al _ a)⟩
theorem TH:∀{l:List ae},(∀u∈l,RelV (vT u) u)->oO (l.map vT) l
 |[],_=>.nil
 |u::l,h=>.cons (h u av) (TH λv a=>h v (al _ a))
def zbt:oW X (.builtin "sorted") (PN X.K):=by intro f s C H D E Q I r h;obtain⟨p,F,G,R,rfl,k,l,m,n,q⟩:=h;obtain⟨u,rfl,o⟩:=uG r;cases o;obtain⟨g,i,t,J⟩:=I.list k;obtain⟨w,c⟩:=SQ I m l i;have b:=i.length.symm;refine TS.sorted_tups t.isList (λv x=>let ⟨ks,k1,k2⟩:=(c v x).2.2;⟨ks,k1,λz=>k2 'd'⟩) 'd' λa d y=>?_;obtain⟨e,A⟩:=sortedAll_at s.heap g a;have B:=I.hok.fresh (eD _);have j:∀u∈a.toList,u∈g:=λu h=>d.mem_iff.mp h;refine⟨.ref _,_,I.laid (λ_ _ z=>sortedAll_old z) (eD _) ?_,rfl,q _ _ _ (Tv λu h=>(c u (j u h)).1) (by rw[<- w];exact d.map _) (iF.mpr y) B⟩;refine⟨?_,a.toList,e,TH λu h=>(c u (j u h)).2.1,by rw[A]⟩;rw[aI,d.length_eq,b];exact aM n 'u'
theorem Sv:∀{ds:List D}{a:o_},vB ds=YP a->ds=a.map D.str
 |[],a,h=>by cases h;rfl
 | d::ds,a,h=>by
  cases d with
  | str cs=>
   unfold vB at h;cases e:vB ds with
   |none=>rw[e] at h;cases h
   |some r=>rw[e] at h;cases h;rw[Sv e];rfl
  |_=>cases h
theorem Tu:∀{ds:List D}{a:List o_},Au ds=YP a->ds.length=a.length
 |[],a,h=>by cases h;rfl
 | d::ds,a,h=>by
  cases d with
  | tup xs=>
   unfold Au at h;split at h
   ·rename_i c t e b;cases h;rw[bt,bt,Tu b]
   ·cases h
  |_=>cases h
theorem RN{K:ak}{B:Prop}:∀{ds:List D}{vs:List V}{a:List o_},oM K H Xf μ ds vs->Au ds=YP a->(∀k∈a,B->k≠[])->Bk (λv k=>XV K H Xf μ (toT k) v/\(B->k≠[])) vs a
 | [],vs,a,h,e,_=>by
  cases e;subst h;trivial
 | d::ds,vs,a,h,e,rh=>by
  obtain⟨v,r,rfl,b,c⟩:=h;cases d with
  | tup xs=>
   unfold Au at e;split at e
   ·rename_i f t g i;cases e;refine⟨⟨?_,rh f av⟩,RN c i λk j=>rh k (al _ j)⟩;have:=Sv g;unfold toT;rw[<- this];exact b
   ·cases e
  |_=>cases e
theorem Uj{α:Type}{R:V->α->Prop}:∀{vs:List V}{a:List α},Bk R vs a->vs.length=a.length
 |[],[],_=>rfl
 |[],_::_,h=>h.elim
 |_::_,[],h=>h.elim
 |_::_,_::_,h=>by rw[bt,bt,Uj h.2]
theorem UR{K:ak}{B:Prop}:∀{vs:List V}{a:List o_},Bk (λv k=>XV K H Xf μ (toT k) v/\(B->k≠[])) vs a->oM K H Xf μ (a.map toT) vs
 |[],[],_=>by unfold oM;rfl
 |[],_::_,h=>h.elim
 |v::vs,[],h=>h.elim
 | v::vs,k::a,h=>by
  exact⟨v,vs,rfl,h.1.1,UR h.2⟩
def zi1:vE X Ex (PN X.K) EV:=by
 intro H Xf μ O C D Q c d q;unfold EV at q;split at q
 ·rename_i x;obtain⟨v,rfl,o⟩:=ux d;split at q
  ·rename_i E e;obtain⟨p,f,rfl,r,g⟩:=vk c o e;split at q
   ·rename_i a h;obtain⟨⟨s,i⟩,q⟩:=post.ite q;have b:f.length=a.length:=by rw[<- g.length,Tu h]
    have u:∀k∈a,2<=f.length->k≠[]:=λk w i e=>by
     have:=aD.mp (s 'd') k w;rw[e] at this;cases this
    have j:=RN g h u;refine⟨p,f,a,_,rfl,r,j,λv k m=>⟨?_,m.2⟩,?_,λl F G y z A b=>?_⟩
    ·obtain⟨t,I,rfl,n,B⟩:=Bq m.1 rfl;have:=IK B (strL_map k);rw[this] at n;exact⟨t,rfl,n⟩
    ·rw[Uj j];exact i
    ·have e:=U6 A (TU a) (z.trans (Ms a).symm);subst e;exact post.ok q (.laid b) (c.laid b) (XV.newL c b (UR y))
   ·exact ai q
  ·exact ai q
 ·exact ai q
end
end DL
namespace DL
open PySem L2
open PyProof.Rows (AllBare)
section
variable{prog:aK}{w:aT}{A:aU}{s:ah}{R:Result->ah->Prop}
def zer(f:A.depth<recursionLimit)
  (g:s.heap.get? lam=YP { cls:=.type "function",data:=.func (cC name qual params body scope cl pm cd ct) }) (i:s.heap.CodeRec cd q) (j:scope.isCoroutine=JU) (k:scope.isGenerator=JU) (l:scope.kind=.function) (m:∀x∈scope.names,x.2 ≠ .cell) (n:scope.names.lookup x=YP .local)
  (p:bindArgs (cC name qual params body scope cl pm cd ct) ⟨[u],[]⟩=pure [(x,u)]) (r:s.heap.NoLimit)
  (h:∀h' tk,0<tk->h'.Ns s.heap.objs.size (λy=>[(x,u)].lookup y)->(∀b o,s.heap.get? b=YP o->h'.get? b=YP o)->
   ao (au prog w) (A.deeper (tN q scope s.heap.objs.size lam cd cl)) (eval body (tN q scope s.heap.objs.size lam cd cl)) (λv s'=>R (.ok (.ret v)) s') (λ_ _=>False) { s with heap:=h',toks:=tk }):
  codeAny (au prog w) A (.call (.ref lam) ⟨[u],[]⟩) R s:=by
 refine g9 ?_;show ao _ A.in1 (callAny (.ref lam) ⟨[u],[]⟩) _ _ s;refine aa (lA g ?_);obtain⟨c,H,I,J,t,B,C,D⟩:=i;subst t;simp only[callFunction,j,k];refine aa (bA B C D (aa (aj ?_)));rw[p];refine aa (aj (aa (lF m (λy E=>?_) (λa F G=>?_) l)))
 ·have e:y=(x,u):=⇑E
  rw[e];exact n
 have d:∀b o,s.heap.get? b=YP o->a.get? b=YP o:=λb o e=>G.extBut b o (bb (aJ e)) (ag _ e);refine aa (wpAny_enterFrame (r.keeps d) f (aj ⟨rfl,?_⟩));exact lG (cj (h a _ (c9 _) F d) (λ_ _ z=>z) λ_ _ z=>z.elim)
end
noncomputable def Hm(P:aK)(w:aT)(K:ak)(mg:aq->Option ae)(base:aS)(N:List aq)(env:Env)(A:aU)(outer:List Env)(s:ah)(H:Hp):Cx where
 prog:=P
 w:=w
 K:=K
 mg:=mg
 base:=base
 A:=A.deeper env
 N:=N
 s₀:=s
 H₀:=H
 env:=env
 outer:=outer
 stack:=env::outer
 ex:=[]
 calm:=JQ
 fn:=λ_=>JU
 pn:=[]
 xe:=λ_ _=>False
structure Qh(out sc:cu)(x:aq):Prop where
 kind:sc.kind=.function
 co:sc.isCoroutine=JU
 gen:sc.isGenerator=JU
 nd:(sc.names.map (·.1)).Nodup
 cell:∀y∈sc.names,y.2 ≠ .cell
 one:sc.names.lookup x=YP .local
 loc:∀y∈sc.names,y.2=.local->y.1=x
 frees:∀y∈sc.names,y.2=.free->out.names.lookup y.1=YP .cell\/out.names.lookup y.1=YP .free
section
variable{P:aK}{w:aT}{K:ak}{mg:aq->Option ae}{base:aS}{N:List aq}{A:aU}{outer:List Env}{s:ah}{H:Hp}{q x:aq}{scope:cu}{lam:af}{cd:ae}{cl:List (aq×af)}{σ:St}{h':aS}{tk:Nat}{v:V}{u:ae}
def zdP(f:pe P w K mg base A outer s H)(D:A.handled=JL)(E:scope.kind=.function)(B:∀y,sY scope y->scope.names.lookup y=YP .free\/y=x)(C:scope.names.lookup x=YP .local)(F:x∉N)
  (cells:∀x c,cl.lookup x=YP c->(∃v,s.heap.IsCell c v)/\H c=JL) (inj:∀x y c,cl.lookup x=YP c->cl.lookup y=YP c->x=y) (k:∀x,scope.names.lookup x=YP .free->∃c,cl.lookup x=YP c)
  (h:∀(i:Nat)x v,N[i]?=YP x->σ[i]?=YP (YP v)->scope.names.lookup x=YP .free->∃u c,RelV v u/\cl.lookup x=YP c/\s.heap.IsCell c (YP u)) (l:σ.length=N.length) (G:RelV v u)
  (I:h'.Ns s.heap.objs.size (λy=>[(x,u)].lookup y)) (m:∀b o,s.heap.get? b=YP o->h'.get? b=YP o) (J:0<tk):
  L2.Inv (Hm P w K mg base (N++[x]) (tN q scope s.heap.objs.size lam cd cl) A outer s H) [] (σ++[YP v]) H { s with heap:=h',toks:=tk }:=by
 have a:∀{c:af}{v:Option ae},s.heap.IsCell c v->h'.IsCell c v:=λ{c v}⟨o,ho,r⟩=>⟨o,m c o ho,r⟩;have n:∀b:af,b∉(Hm P w K mg base (N++[x]) (tN q scope s.heap.objs.size lam cd cl) A outer s H).ex:=λb z=>absurd (show b∈([]:List af) from z) 'k';refine⟨⟨f.mod,E,rfl,rfl,ay _,inj,λy L=>?_,λy c z _=>absurd (show JU=JQ from z) 'u',λ_=>D,je f.frames,.inr ⟨rfl,rfl⟩,λb z=>absurd z (n b),f.bs,f.bsz,λb _ _=>n b,λb z=>absurd z (n b),f.funs,f.frf⟩,
  rfl,f.bare,Un.kept m,⟨_,I,λi y M d j O=>?_⟩,λy c g=>?_,f.hok.fresh (ay _),λy c g=>(cells y c g).2,λp Q=>absurd (show p∈([]:List (af×Obj)) from Q) 'k',f.hok.kept m,by show(σ++[YP v]).length=(N++[x]).length;simp[l],J⟩
 ·have t:scope.names.lookup y=YP .cell\/scope.names.lookup y=YP .free:=L;rcases B y (t.elim (λz=>.inr (.inl z)) λz=>.inr (.inr z)) with z|z
  ·exact k y z
  ·rw[z,C] at t;rcases t with z|z<;>cases z
 ·have d:(N++[x])[i]?=YP y:=d;by_cases R:i<N.length
  ·rw[aL R] at d;rw[aL 'd'] at j;rcases B y O with z|z
   ·obtain⟨u,c,r,S,T⟩:=h i y M d j z;exact⟨u,r,.inr ⟨.inr z,c,S,a T⟩⟩
   ·rw[z] at d;exact absurd (aO d) F
  ·rw[bu 'd'] at d j;have e:i-N.length=0:=by
    have:=(am.mp d).1;simp at this;lia
   rw[e] at d;rw[show i-σ.length=0 by lia] at j;cases d;cases j;exact⟨u,G,.inl ⟨C,by simp[eV]⟩⟩
 ·obtain⟨⟨v,z⟩,_⟩:=cells y c g;exact⟨v,a z⟩
def Ze(d:oP (k+1) A)(f:pe P w K mg base A outer s H)
  (m:s.heap.get? lam=YP { cls:=.type "function",data:=.func (cC name qual params body scope cl pm cd ct) }) (n:s.heap.CodeRec cd q) (p:scope.isCoroutine=JU) (r:scope.isGenerator=JU) (j:scope.kind=.function) (B:∀x∈scope.names,x.2 ≠ .cell)
  (C:bindArgs (cC name qual params body scope cl pm cd ct) ⟨[u],[]⟩=pure [(x,u)]) (D:∀y,sY scope y->scope.names.lookup y=YP .free\/y=x) (l:scope.names.lookup x=YP .local) (E:x∉N)
  (cells:∀x c,cl.lookup x=YP c->(∃v,s.heap.IsCell c v)/\H c=JL) (inj:∀x y c,cl.lookup x=YP c->cl.lookup y=YP c->x=y) (g:∀x,scope.names.lookup x=YP .free->∃c,cl.lookup x=YP c)
  (a:∀(i:Nat)x v,N[i]?=YP x->σ[i]?=YP (YP v)->scope.names.lookup x=YP .free->∃u c,RelV v u/\cl.lookup x=YP c/\s.heap.IsCell c (YP u)) (h:σ.length=N.length) (F:RelV v u)
  (G:oP k (A.deeper (tN q scope s.heap.objs.size lam cd cl))->PD (Hm P w K mg base (N++[x]) (tN q scope s.heap.objs.size lam cd cl) A outer s H) qN body t)
  (I:oN K H Xf μ σd (σ++[YP v])) (L:oK K H Xf μ O) (M:qY qN K H Xf μ (t σd O) Q):codeAny (au P w) A (.call (.ref lam) ⟨[u],[]⟩) (CR BW outer P w H s Q E0) s:=by refine zer d.depth m n p r j B l C (f.mod.nolimit.keeps λb o e=>(f.bs b o e).1) λh' tk R S T=>?_;refine cj ((G (d.deeper _)).out [] _ (σ++[YP v]) H Q (zdP f d.hd j D l E cells inj g a h F S T R) ⟨Xf,μ,σd,O,I,L,M⟩) (λv U ⟨W,X,J,Y,z⟩=>?_) λe U z=>z;exact⟨⟨W,X,J.os,J.bare,J.base,J.hok,Y,z⟩,J.tk⟩
end
end DL
namespace DL
open PySem L2 PyProof.Rows
def minGo(tE:DE)(σ:Sg):List D->D->Int->Ow->R D
 |[],b,_,O=>.ok b O
 | x::xs,b,k,O=>match tE (σ++[YP x]) O with
  |.ok (.int j) O1=>if j<k then minGo tE σ xs x j O1 else minGo tE σ xs b k O1
  |_=>.bad
def Dx(tE:DE)(σ:Sg)(O:Ow):List D->R D
 |[]=>.bad
 | x::xs=>match tE (σ++[YP x]) O with
  |.ok (.int j) O1=>minGo tE σ xs x j O1
  |_=>.bad
def DH(Pt iT:Nat)(te tE:DE):DE:=λσ O=>match σ[iT]? with
 | some (YP (.tab p))=>if p=Pt then (te σ O).bnd λx O1=>match x with
  |.lst ds=>Dx tE σ O1 ds
  |_=>.bad else .bad
 |_=>.bad
def oN.snoc{K:ak}{H:Hp}{Xf μ:List af}{σ:Sg}{a:L2.St}{d:D}{v:V}(e:oN K H Xf μ σ a)(q:XV K H Xf μ d v):oN K H Xf μ (σ++[YP d]) (a++[YP v]):=by
 refine⟨by simp[e.len],λi x h=>?_⟩;have j:=e.len;by_cases b:i<σ.length
 ·rw[aL b] at h;obtain⟨w,c,f⟩:=e.at_ i x h;exact⟨w,by rw[aL 'd'];exact c,f⟩
 ·rw[bu 'd'] at h;have g:i-σ.length=0:=by
   have:=(am.mp h).1;simp at this;lia
  rw[g] at h;cases h;exact⟨v,by rw[bu 'd',show i-a.length=0 by lia];rfl,q⟩
section
variable{X:Cx}{Ex:Nat->Hp->Prop}{Xf:List af}{σ:Sg}{b_:L2.St}{tE:DE}{lam cc:af}{lo:Obj}
def KS(X:Cx)(lam:af)(lo:Obj)(cc:af)(Xf:List af)(σ:Sg)(b_:L2.St)(tE:DE):Prop:=
 ∀(Xq:List (af×Obj))(s:ah)(H:Hp)(μ:List af)(O:Ow)(d:D)(v:V)(u:ae)(Q:VK),L2.Inv X Xq b_ H s->(lam,lo)∈Xq->(∃φ,H cc=YP (.ext φ)/\∀h:aS,φ h->∃q,h.CodeRec (.ref cc) q)->oN X.K H Xf μ σ b_->oK X.K H Xf μ O->XV X.K H Xf μ d v->RelV v u->
  qY qN X.K H Xf μ (tE (σ++[YP d]) O) Q->ao (au X.prog X.w) X.A.in1 (call (.ref lam) [u]) (EP X Xq b_ Q) (λ_ _=>False) s
def YE{K:ak}{H:Hp}{μ:List af}{d:D}{O:Ow}:qY qN K H Xf μ (.ok d O) (λv a=>∃b,Ext H μ a b/\oK K a Xf b O/\XV K a Xf b d v):=λv f e x c r=>⟨e,x,c,r⟩
def TC{K:ak}{H H':Hp}{μ d:List af}{O:Ow}(c:oK K H Xf μ O)(x:Ext H μ H' d){a:aS->Prop}(h:H cc=YP (.ext a)):H' cc=YP (.ext a):=by refine x.kept cc _ h (λm=>?_) (by intro g z;cases z);obtain⟨k,f,e⟩:=er.mp m;obtain⟨i,j,_,b,_⟩:=c.at_ k cc (by rw[aw f,e]);rw[h] at b;cases b
variable{l:af}{vs:List V}{ds:List D}{Q:VK}{Xq:List (af×Obj)}{E:ae->ah->Prop}
def TF{a S:af}{c oI:Obj}{j:Nat}{s:ah}{H:Hp}{μ:List af}{O:Ow}{d:D}{R:ae->ae->ah->Prop}(pX:X.calm=JQ)(hK:KS X lam lo cc Xf σ b_ tE)
  (I:L2.Inv X ((S,c)::(a,oI)::(lam,lo)::Xq) b_ H s) (BR:tj X ((S,c)::(lam,lo)::Xq) H a) (hl:l≠a) (i:s.heap.IsListIter a l j) (la:LstAt X.K H Xf μ l vs) (dd:oM X.K H Xf μ ds vs) (ev:oN X.K H Xf μ σ b_) (cl:oK X.K H Xf μ O) (uR:∃F,H cc=YP (.ext F)/\∀h:aS,F h->∃q,h.CodeRec (.ref cc) q)
  (G:ds[j]?=YP d) {k:Int} {O1:Ow} (hE:tE (σ++[YP d]) O=.ok (.int k) O1)
  (h:∀(v:ae)(tk:Tok)(f:Obj)(s':ah)(H':Hp)(m:List af)(x:V),L2.Inv X ((S,c)::(a,f)::(lam,lo)::Xq) b_ H' s'->s'.heap.IsListIter a l (j+1)->Ext H μ H' m->oK X.K H' Xf m O1->RelV x v->XV X.K H' Xf m d x->R v (.int k tk) s') {E2:ae->ah->Prop}:
  ao (au X.prog X.w) X.A.in1 (pyNext (.ref a)) (λo s1=>∃v,o=YP v/\ao (au X.prog X.w) X.A.in1 (call (.ref lam) [v]) (λr n=>R v r n) (λ_ _=>False) s1) E2 s:=by
 obtain⟨g,J,pl,hz⟩:=I.list la.sq;have W:=j5 (prog:=X.prog) (w:=X.w) (A:=X.A.in1) (I.ok.hd pX) a l hl g.toArray;have L:ds.length=g.length:=by rw[dd.length,J.length]
 have hj:j<g.length:=by have:=(am.mp G).1;lia
 refine wT I (W.item j _ _ _ ⇑hj ⟨i,pl.isList⟩ λv M t hP NS uQ qv=>?_);have hv:g[j]?=YP v:=⇑hP
 obtain⟨N,P,f2,f3,f4,f5⟩:=BR;have I0:L2.Inv X ((S,c)::(lam,lo)::Xq) b_ H s:=I.pins_of λp hp=>I.pin p (aC _ (by
  rcases ar.mp hp with rfl|hp
  ·exact .head _
  ·exact .tail _ (.tail _ hp)))
 have y:L2.Inv X ((S,c)::(lam,lo)::Xq) b_ H { s with heap:=M,toks:=t }:=I0.turned (t':=t) (it:=a) (λb o hb e=>uQ b o ⇑hb e) N P f3 f4 f5;obtain⟨f,N3,BP,T⟩:=id NS.1;have I2:L2.Inv X ((S,c)::(a,f)::(lam,lo)::Xq) b_ H { s with heap:=M,toks:=t }:=y.pins_of λp hp=>by
  rcases ar.mp hp with rfl|hp
  ·exact y.pin _ (aC _ (.head _))
  ·rcases ar.mp hp with rfl|hp
   ·exact⟨N3,N,P,f2,λv z=>by rw[T] at z;cases z⟩
   ·exact y.pin p (aC _ (.tail _ hp))
 obtain⟨x,hx,U⟩:=dd.get G;obtain⟨u,Y,Z⟩:∃u,g[j]?=YP u/\RelV x u:=J.get hx;rw[hv] at Y;cases Y;refine⟨v,rfl,cj (hK _ _ H μ O d x v (λv B=>∃C,Ext H μ B C/\oK X.K B Xf C O1/\XV X.K B Xf C (.int k) v) I2 (.tail _ (.tail _ (.head _))) uR ev cl U Z (by rw[hE];exact YE)) (λr n ⟨v2,H2,I3,r2,qc,x2,c2,d2⟩=>?_) λ_ _ z=>z⟩;unfold XV at d2;subst d2;obtain⟨t2,rfl⟩:=r2;exact h v t2 f n H2 qc x I3 ⟨f,(I3.pin (a,f) (aC _ (.tail _ (.head _)))).1,BP,T⟩ x2 c2 Z (U.ext x2)
def zjH{a S:af}(pX:X.calm=JQ)(hK:KS X lam lo cc Xf σ b_ tE)(hl:l≠a)(A6:S≠a){s0:ah}:
  ∀(r j:Nat)(s:ah)(H:Hp)(μ:List af)(O:Ow)(b:D)(N:V)(m:ae)(f:Int)(k:Tok)(c:Nat)(oI:Obj),ds.length-j=r->j<=ds.length->
   L2.Inv X ((S,seqObj "list" #[m,.int f k] c)::(a,oI)::(lam,lo)::Xq) b_ H s->tj X ((lam,lo)::Xq) H a->tj X ((lam,lo)::Xq) H S->s.heap.IsListIter a l j->LstAt X.K H Xf μ l vs->oM X.K H Xf μ ds vs->oN X.K H Xf μ σ b_->oK X.K H Xf μ O->(∃L,H cc=YP (.ext L)/\∀h:aS,L h->∃q,h.CodeRec (.ref cc) q)->
   RelV N m->XV X.K H Xf μ b N->qY Ex X.K H Xf μ (minGo tE σ (ds.drop j) b f O) Q->
   codeAny (au X.prog X.w) X.A (.builtin "min.loop" ⟨[.ref a,.ref lam,.ref S],[]⟩) (λr s'=>match r with|.ok (.ret u)=>EP X Xq b_ Q u s'|_=>False) s:=by
 have vK:(toString "min" ++ toString ".loop":String) = "min.loop":=by decide
 intro r
 induction r with
 | zero=>
  intro j s H μ O b N m f k c oI hr hj I n fS M la dd ev cl uR rb db q;have GL:j=ds.length:=by lia
  have nS:=I.pin (S,seqObj "list" #[m,.int f k] c) (aC _ (.head _));obtain⟨c_,rv,pl,hz⟩:=I.list la.sq;have W:=j5 (prog:=X.prog) (w:=X.w) (A:=X.A.in1) (I.ok.hd pX) a l hl c_.toArray;have hlen:ds.length=c_.length:=by rw[dd.length,rv.length]
  refine eC iP ?_;rw[eN dW _];show ao _ X.A.in1 (seqItems? (.ref S) >>= _) _ _ _;refine aa (dF nS.1 rfl ?_);show ao _ X.A.in1 (tryCatch (pyNext (.ref a)) _ >>= _) _ _ _;refine aa (gA (wT I (W.done _ _ _ ⟨by rw[show c_.toArray.size=j by simp;lia];exact M,pl.isList⟩ λh' Cz uQ qv=>?_)));have I0:L2.Inv X ((lam,lo)::Xq) b_ H s:=I.pins_of λp hp=>I.pin p (aC _ (.tail _ (.tail _ hp)));obtain⟨f0,f1,f2,f3,f4,f5⟩:=n;have I1:L2.Inv X ((lam,lo)::Xq) b_ H { s with heap:=h',toks:=Cz }:=I0.turned (t':=Cz) (it:=a) (λb o Z e=>uQ b o ⇑Z e) f0 f1 f3 f4 f5;have Kd:=uQ S _ ⇑A6 nS.1;have s1:=d6 h' S (bw λ_=>(#[]:Array ae));obtain⟨g0,g1,g2,g3,g4,g5⟩:=fS;show ao _ X.A.in1 (updateSeq S (λ_=>#[]) >>= _) _ _ _;refine aa ?_;refine f9 Kd rfl (aa (gf (aj ?_)));have C:=I1.turned (h':=h'.update S (bw λ_=>(#[]:Array ae))) (t':=Cz) (it:=S) (λb o Z e=>(s1.2 b Z).trans e) g0 g1 g3 g4 g5;have I3:L2.Inv X Xq b_ H _:=C.pins_of λp hp=>C.pin p (aC _ (.tail _ hp));rw[GL,nG] at q;exact⟨N,H,I3,rb,post.here q cl db⟩
 | succ r ih=>
  intro j s H μ O b N m f k c oI hr hj I n fS M la dd ev cl uR rb db q;have rE:j<ds.length:=by lia
  have nS:=I.pin (S,seqObj "list" #[m,.int f k] c) (aC _ (.head _));have nI:=I.pin (a,oI) (aC _ (.tail _ (.head _)));obtain⟨d,hd⟩:∃d,ds[j]?=YP d:=⟨_,aw rE⟩;rw[d7 rE,(am.mp hd).2] at q;unfold minGo at q;split at q
  case h_2=>exact ai q
  rename_i g O1 hE;refine eC iP ?_;rw[eN dW _];show ao _ X.A.in1 (seqItems? (.ref S) >>= _) _ _ _;refine aa (dF nS.1 rfl ?_);show ao _ X.A.in1 (tryCatch (pyNext (.ref a)) _ >>= _) _ _ _;have OI:tj X ((S,seqObj "list" #[m,.int f k] c)::(lam,lo)::Xq) H a:=⟨n.1,n.2.1,n.2.2.1,n.2.2.2.1,n.2.2.2.2.1,λp hp=>by
   rcases aP.mp hp with hp|hp
   ·exact n.2.2.2.2.2 p (ci _ hp)
   ·rcases ar.mp hp with rfl|hp
    ·exact A6
    ·exact n.2.2.2.2.2 p (aC _ hp)⟩
  refine aa (gA (cj (TF pX hK I OI hl M la dd ev cl uR hd hE (R:=λv u s'=>∃tk y T e_ x,u=.int g tk/\L2.Inv X ((S,seqObj "list" #[m,.int f k] c)::(a,y)::(lam,lo)::Xq) b_ T s'/\s'.heap.IsListIter a l (j+1)/\Ext H μ T e_/\oK X.K T Xf e_ O1/\RelV x v/\XV X.K T Xf e_ d x)
   λv tk y s' T e_ x a1 a2 a3 a4 a5 a6=>⟨tk,y,T,e_,x,rfl,a1,a2,a3,a4,a5,a6⟩) (λo s1 ho=>?_) λ_ _ z=>z))
  obtain⟨v,rfl,sW⟩:=ho;show ao _ X.A.in1 (tryCatch (holding [v] (call (.ref lam) [v])) _ >>= _) _ _ _;refine aa (gA (bG (cj sW (λu F he=>?_) λ_ _ hF=>hF.elim)));obtain⟨B,y,G,qc,x,rfl,C,A3,U,BU,rx,dx⟩:=he;have Y:=C.pin (S,seqObj "list" #[m,.int f k] c) (aC _ (.head _));have Nq:=C.pin (a,y) (aC _ (.tail _ (.head _)));have JY:=la.mv U.mv (hid':=Xf);have Di:=dd.ext U;have Hb:=ev.ext U;have GX:∃L,G cc=YP (.ext L)/\∀h:aS,L h->∃q,h.CodeRec (.ref cc) q:=let ⟨L,h1,h2⟩:=uR;⟨L,TC cl U h1,h2⟩;have W6:tj X ((lam,lo)::Xq) G a:=⟨Nq.2.1,n.2⟩;have J:tj X ((lam,lo)::Xq) G S:=⟨Y.2.1,fS.2⟩;have q2:=post.ext q U;show ao _ X.A.in1 (tryCatch (holding [v,.int g B] (richCompare .Lt (.int g B) (.int f k) >>= _)) _ >>= _) _ _ _;refine aa (gA (bG (aa (CmpOf.ints_lt (prog:=X.prog) (w:=X.w) (A:=X.A.in1) (P:=λ(i:Nat)v=>∃t,v=.int (if i=0 then g else f) t) (λi=>if i=0 then g else f) (λi v h=>h) 0 1 _ _ _ _ _ ⟨B,rfl⟩ ⟨k,rfl⟩ ?_))));refine aa (bG (di ?_));refine aa (gf (aj ?_));by_cases u9:g<f
  ·have s1:=d6 F.heap S (bw λ_=>#[v,.int g B]);obtain⟨c2,zI⟩:∃c2,(F.heap.update S (bw λ_=>#[v,.int g B])).get? S=YP (seqObj "list" #[v,.int g B] c2):=⟨_,get?_update_seq Y.1 λ_=>#[v,.int g B]⟩;rw[JV u9] at q2;simp only[nU,u9,decide_true,if_true,dL,if_false];refine aa ?_;refine f9 Y.1 rfl (aa (gf ?_));rw[vK];have I3:L2.Inv X ((a,y)::(lam,lo)::Xq) b_ G F:=C.pins_of λp hp=>C.pin p (aC _ (.tail _ hp));have I4:L2.Inv X ((a,y)::(lam,lo)::Xq) b_ G { F with heap:=F.heap.update S (bw λ_=>#[v,.int g B]),toks:=F.toks }:=I3.turned (t':=F.toks) (it:=S) (λb o Z e=>(s1.2 b Z).trans e) J.1 J.2.1 J.2.2.2.1 J.2.2.2.2.1 (λp hp=>by
    rcases aP.mp hp with hp|hp
    ·exact J.2.2.2.2.2 p (ci _ hp)
    ·rcases ar.mp hp with rfl|hp
     ·exact A6.symm
     ·exact J.2.2.2.2.2 p (aC _ hp))
   have I5:L2.Inv X ((S,seqObj "list" #[v,.int g B] c2)::(a,y)::(lam,lo)::Xq) b_ G _:=I4.pins_of λp hp=>by
    rcases ar.mp hp with rfl|hp
    ·exact⟨zI,Y.2.1,Y.2.2.1,Y.2.2.2.1,λv z=>nomatch z⟩
    ·exact I4.pin p (aC _ hp)
   obtain⟨oq,NX,NW,NV⟩:=id A3;exact aj ⟨fE dW _,ih (j+1) _ G qc O1 d x v g B c2 y 'd' rE I5 W6 J ⟨oq,(s1.2 a A6.symm).trans NX,NW,NV⟩ JY Di Hb BU GX rx dx q2⟩
  ·rw[JW u9] at q2;simp only[nU,u9,decide_false,dL,if_false,if_true];refine aa (gf ?_);rw[vK];exact aj ⟨fE dW _,ih (j+1) F G qc O1 b N m f k c y 'd' rE C W6 J A3 JY Di Hb BU GX rb (db.ext U) q2⟩
def zeP{s:ah}{H:Hp}{μ:List af}{O:Ow}(pX:X.calm=JQ)(hK:KS X lam lo cc Xf σ b_ tE)(I:L2.Inv X ((lam,lo)::Xq) b_ H s)(Y:LstAt X.K H Xf μ l vs)(dd:oM X.K H Xf μ ds vs)(ev:oN X.K H Xf μ σ b_)(cl:oK X.K H Xf μ O)
  (uR:∃L,H cc=YP (.ext L)/\∀h:aS,L h->∃q,h.CodeRec (.ref cc) q) (q:qY Ex X.K H Xf μ (Dx tE σ O ds) Q):ao (au X.prog X.w) X.A (call (.builtin "min") [.ref l] [(gL "key",.ref lam)]) (EP X Xq b_ Q) E s:=by
 have vK:(toString "min" ++ toString ".loop":String) = "min.loop":=by decide
 obtain⟨c_,rv,pl,hz⟩:=I.list Y.sq;have WI:=pl.isList;obtain⟨ol,A0,_⟩:=id WI;have GH:l<s.heap.objs.size:=aJ A0;cases ds with
 |nil=>exact ai q
 |cons d ua=>
 have q:qY Ex X.K H Xf μ (match tE (σ++[YP d]) O with|.ok (.int j) M=>minGo tE σ ua d j M|_=>.bad) Q:=q;split at q
 case h_2=>exact ai q
 rename_i g M hE;refine kmb_tree PySem.F.kind_min PySem.F.plain_min PySem.F.entry_min (kmb_min_key _ _) ?_;show ao _ X.A.in1 (jL "min" ["key", "default"] 0 ⟨[],[(gL "key",.ref lam)]⟩ >>= _) _ _ s;refine aa (jz (show jL "min" ["key", "default"] 0 ⟨[],[(gL "key",.ref lam)]⟩=pure [YP (.ref lam),JL] from rfl) ?_);refine aa (aj ?_);refine aa (fH WI ?_);refine aa (gR ?_ (cw _));rw[vK];generalize n:s.heap.objs.size=a at *;generalize Z:s.heap.push { cls:=.type "list_iterator",data:=.fields #[.ref l,.int 0 0] } = h1 at *;have hS:h1.objs.size=a+1:=by rw[<- Z,size_push',n]
 generalize hSS:h1.objs.size=S at *;have WK:l≠a:=bb GH;have N:S≠a:=by rw[hS];exact dB (cI _)
 have kp:∀b o,s.heap.get? b=YP o->(h1.push (seqObj "list" #[] 0)).get? b=YP o:=λb o e=>ag _ (by rw[<- Z];exact ag _ e);have gI:(h1.push (seqObj "list" #[] 0)).get? a=YP { cls:=.type "list_iterator",data:=.fields #[.ref l,.int 0 0] }:=ag _ (by rw[<- Z,<- n];exact aE _ rfl);have gS:(h1.push (seqObj "list" #[] 0)).get? S=YP (seqObj "list" #[] 0):=by rw[<- hSS];exact aE _ rfl
 have c:tj X ((lam,lo)::Xq) H a:=I.fpOk (ip n) (I.hok.fresh (ip n));have P:tj X ((lam,lo)::Xq) H S:=I.fpOk (by rw[hS,n];exact eD _) (I.hok.fresh (by rw[hS,n];exact eD _));have I1:L2.Inv X ((lam,lo)::Xq) b_ H { s with heap:=h1.push (seqObj "list" #[] 0),toks:=s.toks }:=I.kept (t':=s.toks) kp;have I2:L2.Inv X ((S,seqObj "list" #[] 0)::(a,{ cls:=.type "list_iterator",data:=.fields #[.ref l,.int 0 0] })::(lam,lo)::Xq) b_ H { s with heap:=h1.push (seqObj "list" #[] 0),toks:=s.toks }:=I1.pins_of λp hp=>by
  rcases ar.mp hp with rfl|hp
  ·exact⟨gS,P.1,P.2.1,P.2.2.1,λv z=>nomatch z⟩
  ·rcases ar.mp hp with rfl|hp
   ·exact⟨gI,c.1,c.2.1,c.2.2.1,λv z=>nomatch z⟩
   ·exact I1.pin p (aC _ hp)
 refine aj ⟨fE dW _,?_⟩;refine ef (R:=λr t=>match r with|.ok (.ret u)=>EP X Xq b_ Q u t|_=>False) ?_ (λr t h=>by
  cases r with
  |error e=>exact h.elim
  |ok f=>cases f<;>first|exact h|exact h.elim)
 refine eC iP ?_;rw[eN dW _];show ao _ X.A.in1 (seqItems? (.ref _) >>= _) _ _ _;refine aa (dF gS rfl ?_);show ao _ X.A.in1 (tryCatch (pyNext (.ref a)) _ >>= _) _ _ _;have OI:tj X ((S,seqObj "list" #[] 0)::(lam,lo)::Xq) H a:=⟨c.1,c.2.1,c.2.2.1,c.2.2.2.1,c.2.2.2.2.1,λp hp=>by
  rcases aP.mp hp with hp|hp
  ·exact c.2.2.2.2.2 p (ci _ hp)
  ·rcases ar.mp hp with rfl|hp
   ·exact N
   ·exact c.2.2.2.2.2 p (aC _ hp)⟩
 refine aa (gA (cj (TF pX hK I2 OI WK (j:=0) ⟨_,gI,rfl,rfl⟩ Y dd ev cl uR rfl hE (R:=λv u t=>∃tk i y C x,u=.int g tk/\L2.Inv X ((S,seqObj "list" #[] 0)::(a,i)::(lam,lo)::Xq) b_ y t/\t.heap.IsListIter a l (0+1)/\Ext H μ y C/\oK X.K y Xf C M/\RelV x v/\XV X.K y Xf C d x)
  λv tk i t y C x a1 a2 a3 a4 a5 a6=>⟨tk,i,y,C,x,rfl,a1,a2,a3,a4,a5,a6⟩) (λo s1 ho=>?_) λ_ _ z=>z))
 obtain⟨v,rfl,sW⟩:=ho;show ao _ X.A.in1 (tryCatch (holding [v] (call (.ref lam) [v])) _ >>= _) _ _ _;refine aa (gA (bG (cj sW (λu G he=>?_) λ_ _ hF=>hF.elim)));obtain⟨k,i,T,qc,x,rfl,U,A3,J,BU,rx,dx⟩:=he;have B:=U.pin (S,seqObj "list" #[] 0) (aC _ (.head _));have Nq:=U.pin (a,i) (aC _ (.tail _ (.head _)));have s1:=d6 G.heap S (bw λ_=>#[v,.int g k]);obtain⟨W,zI⟩:∃W,(G.heap.update S (bw λ_=>#[v,.int g k])).get? S=YP (seqObj "list" #[v,.int g k] W):=⟨_,get?_update_seq B.1 λ_=>#[v,.int g k]⟩;show ao _ X.A.in1 (updateSeq S (λ_=>#[v,.int g k]) >>= _) _ _ _;refine aa ?_;refine f9 B.1 rfl ?_;rw[vK];have m:tj X ((lam,lo)::Xq) T S:=⟨B.2.1,P.2⟩;have I4:L2.Inv X ((a,i)::(lam,lo)::Xq) b_ T G:=U.pins_of λp hp=>U.pin p (aC _ (.tail _ hp));have I5:=I4.turned (h':=G.heap.update S (bw λ_=>#[v,.int g k])) (t':=G.toks) (it:=S) (λb o hb e=>(s1.2 b hb).trans e) m.1 m.2.1 m.2.2.2.1 m.2.2.2.2.1 (λp hp=>by
  rcases aP.mp hp with hp|hp
  ·exact m.2.2.2.2.2 p (ci _ hp)
  ·rcases ar.mp hp with rfl|hp
   ·exact N.symm
   ·exact m.2.2.2.2.2 p (aC _ hp))
 have I6:L2.Inv X ((S,seqObj "list" #[v,.int g k] W)::(a,i)::(lam,lo)::Xq) b_ T _:=I5.pins_of λp hp=>by
  rcases ar.mp hp with rfl|hp
  ·exact⟨zI,B.2.1,B.2.2.1,B.2.2.2.1,λv z=>nomatch z⟩
  ·exact I5.pin p (aC _ hp)
 obtain⟨oq,NX,NW,NV⟩:=id A3;exact aj ⟨fE dW _,zjH (ds:=d::ua) (vs:=vs) pX hK WK N (s0:=s) _ 1 _ T qc M d x v g k W i rfl (Nat.succ_le_succ (cw _)) I6 ⟨Nq.2.1,c.2⟩ m ⟨oq,(s1.2 a N.symm).trans NX,NW,NV⟩ (Y.mv J.mv (hid':=Xf)) (dd.ext J) (ev.ext J) BU (let ⟨L,h1,h2⟩:=uR;⟨L,TC cl J h1,h2⟩) rx dx (post.ext q J)⟩
def zgr(hr:oP (k+2) X.A)(pX:X.calm=JQ)(L:uF X.mg X.base c Pt)(sM:X.env.code=.ref c)(b:Qh X.env.scope scope x)(u7:defaultsOf params X.env=([],[]))
  (zJ:∀(name n:aq)(cl:List (aq×af))(pm o ct u:ae),bindArgs (cC name n params body scope cl pm o ct) ⟨[u],[]⟩=pure [(x,u)]) (AS:x∉X.N) (he:PD X Ex e te)
  (hE:∀(q:aq)(lam:af)(o:ae)(cl:List (aq×af))(A:aU)(outer:List Env)(s:ah)(H:Hp),oP k (A.deeper (tN q scope s.heap.objs.size lam o cl))->PD (Hm X.prog X.w X.K X.mg X.base (X.N++[x]) (tN q scope s.heap.objs.size lam o cl) A outer s H) qN body tE)
  (hg:Gl X "min") (hm:X.mg "min" = JL) (F:aF [e] X.env=[(JU,eval e X.env)]:=by rfl):PD X Ex (.Call (.Name "min" pn) [e] [⟨YP (gL "key"),.Lambda params body scope pl,kq⟩] pp) (DH Pt iT te tE):=by
 refine⟨?_⟩;rintro Xq s b_ H Q I ⟨Xf,μ,σ,O,ev,c1,q⟩;obtain⟨ti,q⟩:oX H Pt/\qY Ex X.K H Xf μ ((te σ O).bnd λx f=>match x with|.lst ds=>Dx tE σ f ds|_=>.bad) Q:=by
  unfold DH at q;split at q
  ·rename_i p hp;by_cases G:p=Pt
   ·rw[JV G] at q;obtain⟨v,_,d⟩:=ev.at_ iT _ hp;unfold XV at d;rw[G] at d;exact⟨d.2,q⟩
   ·rw[JW G] at q;exact ai q
  ·exact ai q
 have J:∀{cells:List (aq×af)},(∀y∈scope.names,y.2=.free->∃c,cells.lookup y.1=YP c)->∀x c,(sC cells scope.names []).lookup x=YP c->cells.lookup x=YP c:=λ{cells}i x c e=>by
  rcases FG _ _ (bq e) with m|⟨m,z⟩
  ·cases m
  ·obtain⟨c',ym⟩:=i (x,.free) m rfl;have zI:cells.lookup x=YP c':=ym;rw[zI] at z ⊢;rw[z];rfl
 have i:∀y∈scope.names,y.2=.free->∃c,X.env.cells.lookup y.1=YP c:=λy M hf=>I.ok.has y.1 (b.frees y M hf);have zK:∀x,scope.names.lookup x=YP .free->∃c,(sC X.env.cells scope.names []).lookup x=YP c:=λx e=>by
  have m:=FH (cells:=X.env.cells) scope.names [] (bq e);exact⟨_,zc (FO _ _ b.nd 'k' (by intro p hp;cases hp)) m⟩
 have EB:∀x,scope.names.lookup x=YP .free->X.env.scope.names.lookup x=YP .cell\/X.env.scope.names.lookup x=YP .free:=λx e=>b.frees (x,.free) (bq e) rfl;have sE:∀y,sY scope y->scope.names.lookup y=YP .free\/y=x:=λy M=>by
  rcases M with z|z|z
  ·exact .inr (b.loc _ (bq z) rfl)
  ·exact absurd rfl (b.cell _ (bq z))
  ·exact .inl z
 refine fh (Ce I hg hm Lj ?_ 'u' 'u');refine callWith_kw ?_ (by rw[F];rfl) (by rw[F];rfl);rw[F];show ao _ _ (spliced ((JU,eval e X.env)::backTo pp [])) _ _ s;refine f6 (pZ (he.out Xq s b_ H _ I (rd.go (Q1:=λP h=>∃j f a,oN X.K h Xf a σ b_/\Ext H μ h a/\oK X.K h Xf a f/\XV X.K h Xf a j P/\qY Ex X.K h Xf a (match j with|.lst ds=>Dx tE σ f ds|_=>.bad) Q) ev c1 q λj f P h a R S T r1 U=>⟨j,f,a,R,S,T,r1,U⟩)) λu1 s1 ⟨P,h,I1,W,j,f,a,R,S,T,Y,U⟩=>?_);refine iC ?_;refine kws_cons (QR I1 L sM (S.tab _ ti) (MO i) u7 λlam o zN h' tk H' I3 ext cells J_ zB q0 uB=>?_);refine kws_nil ?_;obtain⟨cc,φ,rfl,uR,NH⟩:=uB;have OJ:=R.ext (ext a);have Z:=cells Xf a f T;have q3:=post.ext U (ext a);have Xe:=Y.ext (ext a);cases j with
 | lst ds=>
  unfold XV at Xe;obtain⟨l,vs,rfl,la,dd⟩:=Xe;cases W;have B:tj X Xq H' lam:=I1.fpOk zB J_;have I4:L2.Inv X ((lam,_)::Xq) b_ H' { s1 with heap:=h',toks:=tk }:=I3.pins_of λp hp=>by
   rcases ar.mp hp with rfl|hp
   ·exact⟨q0,B.1,B.2.1,B.2.2.1,λv z=>nomatch z⟩
   ·exact I3.pin p (aC _ hp)
  refine zeP (cc:=cc) pX ?_ I4 la dd OJ Z ⟨φ,uR,NH⟩ q3;intro Wl s5 H5 Ao O5 d5 v5 u5 Q5 g Gv C6 Kk cl5 dx5 rx5 q5;obtain⟨φ5,C6,NG⟩:=C6;obtain⟨qn,NU⟩:=NG _ (g.hok cc _ C6).1;have hg5:=(g.pin _ (aC _ Gv)).1;refine iu (ef (Ze (k:=k) (t:=tE) (Xf:=Xf) (μ:=Ao) (σd:=σ++[YP d5]) (O:=O5) (Q:=Q5) (N:=X.N) (σ:=b_) hr.in1 g.env0.in1 hg5 NU b.co b.gen b.kind b.cell (zJ _ _ _ _ _ _ _) sE b.one AS (Vy g Un.refl (J i)) (Tf g (J i)) zK (U5 g Un.refl (J i) zK EB) g.len rx5 (hE _ _ _ _ _ _ _ _) (Kk.snoc dx5) cl5 q5) λr s8 C=>?_);cases r with
  |error e=>exact C.elim
  | ok B=>
   cases B with
   |ret u=>exact g.after C
   |next=>exact ai C
   |brk=>exact ai C
   |cont=>exact ai C
 |_=>exact ai q3
end
end DL
namespace DL
open PySem L2
mutual
def nm:D->Bool
 |.map _ _=>JU
 |.dct=>JU
 |.exn _=>JU
 |.lst ds=>nms ds
 |.tup ds=>nms ds
 |_=>JQ
def nms:List D->Bool
 |[]=>JQ
 |d::ds=>nm d&&nms ds
end
section
variable{K:ak}{H:Hp}{Xf μ:List af}{p:af}{i_:List (Key×V)}
def Qb(b:H p=YP (.frz o (.dK i_)))(h:Rd H a u)(c:∀i_,u ≠ .dK i_)(d:∀o v,u ≠ .frz o v):a≠p:=by
 rintro rfl;rcases h with h|⟨o,h⟩
 ·rw[b] at h;cases h;exact d _ _ rfl
 ·rw[b] at h;cases h;exact c _ rfl
mutual
theorem XV.hide(b:H p=YP (.frz o (.dK i_))):∀{d:D}{v:V},nm d=JQ->XV K H Xf μ d v->XV K H (p::Xf) μ d v
 |.non,_,_,h=>h
 |.bl _,_,_,h=>h
 |.int _,_,_,h=>h
 |.str _,_,_,h=>h
 | .lst ds,v,n,h=>by
  unfold XV at h ⊢;obtain⟨a,c,r,l,q⟩:=h;refine⟨a,c,r,l.imp (λz=>⟨z.1,λm=>?_,z.2.2⟩) id,oM.hide b n q⟩;rcases ar.mp m with e|m
  ·exact Qb b z.1 (λ_ z=>nomatch z) (λ_ _ z=>nomatch z) e
  ·exact z.2.1 m
 | .tup ds,v,n,h=>by
  unfold XV at h ⊢;obtain⟨a,c,r,l,q⟩:=h;refine⟨a,c,r,l.imp (λz=>⟨z.1,λm=>?_,z.2.2⟩) id,oM.hide b n q⟩;rcases ar.mp m with e|m
  ·exact Qb b z.1 (λ_ z=>nomatch z) (λ_ _ z=>nomatch z) e
  ·exact z.2.1 m
 |.own k,v,_,h=>by unfold XV at h ⊢;exact h
 |.dct,_,n,_=>by cases n
 |.exn _,_,n,_=>by cases n
 |.tab P,v,_,h=>by unfold XV at h ⊢;exact h
 |.map _ _,_,n,_=>by cases n
 |.adr _,_,_,h=>h
theorem oM.hide(a:H p=YP (.frz o (.dK i_))):∀{ds:List D}{vs:List V},nms ds=JQ->oM K H Xf μ ds vs->oM K H (p::Xf) μ ds vs
 |[],_,_,h=>h
 | d::ds,vs,n,h=>by
  unfold oM at h ⊢;unfold nms at n;obtain⟨b,c⟩:=gK.mp n;obtain⟨v,r,e,f,g⟩:=h;exact⟨v,r,e,XV.hide a b f,oM.hide a c g⟩
end
def oK.hide(d:H p=YP (.frz o (.dK i_)))(n:O.all nms=JQ)(c:oK K H Xf μ O):oK K H (p::Xf) μ O:=by
 refine⟨c.len,c.nd,λa m z=>?_,λa m=>?_,λk a e=>?_⟩
 ·rcases ar.mp z with e|z
  ·obtain⟨k,i,j⟩:=er.mp m;obtain⟨f,g,_,b,_⟩:=c.at_ k a (by rw[aw i,j]);rw[e,d] at b;cases b
  ·exact c.nh a m z
 ·rcases ar.mp m with e|m
  ·rw[e,d];simp
  ·exact c.ht a m
 ·obtain⟨f,g,h,b,l⟩:=c.at_ k a e;exact⟨f,g,h,b,l.hide d (aD.mp n f (aO h))⟩
def oN.put(e:oN K H Xf μ σ b_)(h:b_[i]?=YP (YP v))(q:XV K H Xf μ d v):oN K H Xf μ (σ.set i (YP d)) b_:=by
 refine⟨by simp[e.len],λj x g=>?_⟩;by_cases a:i=j
 ·subst a;have b:i<σ.length:=by have:=(am.mp g).1;simpa using this
  rw[aZ b] at g;cases g;exact⟨v,h,q⟩
 ·rw[aX a] at g;exact e.at_ j x g
def oN.forget(e:oN K H Xf μ σ b_)(o:Option V):oN K H Xf μ (σ.set i JL) (b_.set i o):=by
 refine⟨by simp[e.len],λj x g=>?_⟩;by_cases a:i=j
 ·subst a;have b:i<σ.length:=by have:=(am.mp g).1;simpa using this
  rw[aZ b] at g;cases g
 ·rw[aX a] at g;obtain⟨v,c,d⟩:=e.at_ j x g;exact⟨v,by rw[aX a];exact c,d⟩
def Es(k:DK)(ks:List DK):Bool:=ks.any λj=>decide (j=k)
def vG(k:DK)(ks:List DK):List DK:=ks.filter λj=>decide (j≠k)
def yZ(k:DK):List DK->List D->List D
 |j::ks,d::ds=>if j=k then yZ k ks ds else d::yZ k ks ds
 |_,_=>[]
theorem SA:∀{a:List DK}{ds:List D}{vs:List V},a.length=vs.length->oM K H Xf μ ds vs->∃b,AA ((a.map kD).zip vs) (kD k)=((vG k a).map kD).zip b/\(vG k a).length=b.length/\oM K H Xf μ (yZ k a ds) b
 |[],ds,vs,_,_=>⟨[],rfl,rfl,.nil⟩
 |j::a,ds,[],h,_=>by cases h
 |j::a,[],v::vs,_,h=>by unfold oM at h;cases h
 | j::a,d::ds,v::vs,hl,h=>by
  obtain⟨w,r,e,i,l⟩:=(by unfold oM at h;exact h);cases e;obtain⟨b,c,f,g⟩:=SA (k:=k) (mF hl) l;show ∃b,AA ((kD j,v)::(a.map kD).zip vs) (kD k)=_/\_;by_cases e:j=k
  ·subst e;refine⟨b,?_,?_,?_⟩
   ·unfold AA vG at *;rw[dN 'k',dN 'k'];exact c
   ·unfold vG at *;rw[dN 'k'];exact f
   ·unfold yZ;rw[JV rfl];exact g
  ·have m:kD j≠kD k:=λz=>e (Iy z);refine⟨v::b,?_,?_,?_⟩
   ·unfold AA vG at *;rw[dO ⇑m,dO ⇑e,c];rfl
   ·unfold vG at *;rw[dO ⇑e];simpa using f
   ·unfold yZ;rw[JW e];exact .cons i g
theorem UW:∀{a:List DK}{vs:List V},a.length=vs.length->Es k a=JQ->(uo ((a.map kD).zip vs) (kD k)).isSome=JQ
 |[],_,_,h=>by cases h
 |_::_,[],h,_=>by cases h
 | j::a,v::vs,hl,h=>by
  show(uo ((kD j,v)::(a.map kD).zip vs) (kD k)).isSome=JQ;by_cases e:j=k
  ·rw[Fv (congrArg kD e)];rfl
  ·rw[D7 (λz=>e (Iy z))];unfold Es at h;rw[gO,decide_eq_false e,om] at h;exact UW (mF hl) h
end
def Az(iR uA iL:Nat)(t1 t3:DE):List D->List DK->List D->Sg->Ow->RS
 |[],_,_,σ,O=>.nx σ O
 | x::xs,ks,ds,σ,O=>match xV x with
  | some k=>if Es k ks=JQ then match t1 (σ.set uA (YP x)) O with
    | .ok d1 O1=>match t3 (((σ.set uA (YP x)).set iL (YP d1)).set iR (YP (.map (vG k ks) (yZ k ks ds)))) O1 with
     |.ok _ O2=>if O2.all nms=JQ then Az iR uA iL t1 t3 xs (vG k ks) (yZ k ks ds) ((σ.set uA (YP x)).set iL (YP d1)) O2 else .bad
     |_=>.bad
    |_=>.bad
   else .bad
  |none=>.bad
def E4(iR uA iL:Nat)(tH:DE)(it:DI)(t1 t3:DE)(tt:DS):DS:=λσ O=>(tH σ O).bnS λx O1=>match x with
 | .map ks ds=>(it (σ.set iR JL) O1).bnS λsrc O2=>match src with
  | .val xs=>match Az iR uA iL t1 t3 xs ks ds (σ.set iR JL) O2 with
   |.nx σ' O'=>tt σ' O'
   |_=>.bad
  |_=>.bad
 |_=>.bad
def Ea.ext(e:Ea p H μ H' e_)(h:H p=JL):Ext H μ H' e_:=⟨e.pre,λb o g n a=>e.kept b o g n (sO g h) a,e.fresh,e.there,e.tab⟩
section
variable{X:Cx}{Ex:Nat->Hp->Prop}
def Qr(g:H A=YP (.frz ob u)):∀a,oX H a->oX (upd H A o) a:=by
 rintro a ⟨h,b,i,j⟩;have k:a≠A:=by rintro rfl;rw[g] at b;cases b
 refine⟨h,by rw[qe k];exact b,i,λd l e=>?_⟩;obtain⟨c,m,rfl,f,n⟩:=j d l e;have p:c≠A:=by rintro rfl;rw[g] at f;cases f
 exact⟨c,m,rfl,by rw[qe p];exact f,n⟩
def YI(d:PE X e te):PE X e (λσ H Q=>∃p a,H p=YP (.dK a)/\∀o,te σ (upd H p (.frz o (.dK a))) λv H'=>H' p=YP (.frz o (.dK a))/\Q v (upd H' p (.dK a))):=by rintro b s σ H Q I ⟨p,a,c,h⟩;obtain⟨o,J⟩:=Inv.frzK I c;exact pZ (d b s σ _ _ J (h o)) λv i ⟨x,j,f,r,g,q⟩=>⟨x,_,Inv.thawK f g (Inv.nofrz I c),r,q⟩
def zal:oW X (.type "dict") (λxs H Q=>∃(a:af)(d:List (Key×V)),xs=[.ref a]/\Rd H a (.dK d)/\∀p,H p=JL->Q (.ref p) (upd H p (.dK d))):=by intro f s w H xs x Q I r h;obtain⟨a,d,rfl,g,q⟩:=h;obtain⟨u,rfl,i⟩:=uG r;cases i;obtain⟨z,j,y,c,k⟩:=DP I.hok g;refine kt_call_dict j k (by rw[<- c.length];exact z) λl m n=>?_;have t:∀b o,s.heap.get? b=YP o->l.get? b=YP o:=λb o e=>(n.2 b (bb (aJ e))).trans (ag _ e);have v:=I.hok.fresh (ay s.heap.objs.size);exact⟨.ref _,_,I.laid t (ay _) (Iq z (beq_eq_false_iff_ne.mpr (bC (bb I.big))) c m),rfl,q _ v⟩
def zam{c h b:aR}{d:List aR}{j:List bR}{scope:cu}{pos k l:Pos}{y:aq}{i:Nat}(o:Bool)(ext:List aq){it0:DI}{g:Tg}{ts:List DT}{cs:List Cl}{te:DE}(w:X.calm=JQ)(A:X.N.Nodup)(B:X.N[i]?=YP y)(n:X.env.scope.names.lookup y=YP .local)
  (hi:ui X Ex h b it0) (D:yN X.env.scope scope (X.N++ext) (qM (⟨it0,g,ts⟩::cs)))
  (F:H_ X ext scope h g d ts j cs c te)
  (G:swapsWith (.ListComp c (⟨h,b,d,0⟩::j) scope pos) (YP (.Name y l)) k.line X.env=pure JQ)
  (J:∀x,cq b X.env x=pure x:=by intro _;rfl):PS X (.Assign [.Name y l] (.ListComp c (⟨h,b,d,0⟩::j) scope pos) k) (Dv (rd Ex X.K (qp o ext.length it0 g ts cs te)) (AB i)):=by
 rintro p s b_ H E I ⟨M,μ,σ,O,P,r,q⟩;rw[k8 _ _ _ _ G];refine aa (fA (aa ?_));unfold qp at q;rw[<- MB] at q;refine aa (cj (Ja (Mi c) w hi D (λf Q s H R _ _ _=>KN F f Q s H R) J I P r (T8 r q λL S T U C V W Y t Z u pn=>?_)) (λ_ U hq=>aj (aj hq)) λ_ _ e=>e);obtain⟨m,hn⟩:=W;refine jS (Mz (v:=.ref L) V A B (.inl n) rfl (λrD OV zp=>?_) (.inr n));obtain⟨a,CQ,ha⟩:=zp;have OC:C≠a:=by
  rcases ha with z|z
  ·rw[z];exact t
  ·exact λe=>u y a z e.symm
 refine⟨m,hn.sameBut CQ OC,λh' AW=>?_⟩;exact⟨_,S,Inv.bare OV AW Y t Z u pn,T⟩
def zdp(n:jE (au X.prog X.w) X.A X.env X.xe)(hc:X.calm=JQ)
  (hA:∀te,PE X e te->PS X sA (Dv (JN (λxs H Q=>∃(a:af)(i_:List (Key×V)),xs=[.ref a]/\Rd H a (.dK i_)/\∀p,H p=JL->Q (.ref p) (upd H p (.dK i_))) (Qa te O_)) (AB iR))) (hH:PD X Ex e tH)
  (hi:ui X Ex tg iter it) (hg:PG X tg ((Tg.one uA).rd X.K)) (vR:PE X (.Name r p2) (HQ iR)) (vT:PE X (.Name tm p3) (HQ uA)) (hL:PS X sL (Dv (rd Ex X.K t1) (AB iL))) (hE:PD X Ex e3 t3) (AV:swapsWith e3 JL pE.line X.env=pure JU) (ht:sQ X Ex xs tt)
  (n1:iR≠uA) (n2:iR≠iL) (hl:iR<X.N.length) (hT:uA<X.N.length) (hs:∀x,cq iter X.env x=pure x:=by intro _;rfl):sQ X Ex (sA :: .For tg iter [.Delete [.Subscript (.Name r p2) (.Name tm p3) p4] p1,sL,.Expr e3 pE] [] pos::xs) (E4 iR uA iL tH it t1 t3 tt):=by
 refine⟨?_⟩;rintro U s b_ H E I ⟨b,μ,σ,O,e1,c1,q⟩;have hlv:iR<b_.length:=by rw[I.len];exact hl
 refine(D4 (hA _ hH.out) (D4 (Rm n hc hi.out hg (D4 (zgs vR vT) (D4 hL (SV (Sa (YI hE.out) AV)))) hs) ht.out)) U s b_ H E I (rd.goS e1 c1 q λx O1 v F C ea xa ca da qa=>?_);cases x with
 | map ks ds=>
  obtain⟨a0,W,rfl,ra,na1,na2,Y,dvs⟩:=da;refine⟨a0,_,rfl,.inr ra,λp n=>?_⟩;have Nt:Mv F b C (upd F p (.dK ((ks.map kD).zip W))) (p::b) C:=(Mv.hide n).trans (Ext.laid n).mv;have W8:oN X.K (upd F p (.dK ((ks.map kD).zip W))) (p::b) C (σ.set iR JL) (b_.set iR (YP (.ref p))):=(ea.mv Nt).forget _;have Wm:p∉C:=λm=>by
   obtain⟨k,Z,e2⟩:=er.mp m;obtain⟨_,_,_,h2,_⟩:=ca.at_ k p (by rw[aw Z,e2]);rw[n] at h2;cases h2
  have nph:p∉b:=λm=>ca.ht p m n;have cap:oK X.K (upd F p (.dK ((ks.map kD).zip W))) (p::b) C O1:=by
   have c0:=ca.laid (o:=.dK ((ks.map kD).zip W)) n;refine⟨c0.len,c0.nd,λa m z=>?_,λa m=>?_,λk a e=>?_⟩
   ·rcases ar.mp z with e|z
    ·exact Wm (e▸m)
    ·exact c0.nh a m z
   ·rcases ar.mp m with e|m
    ·rw[e,rS];simp
    ·exact c0.ht a m
   ·obtain⟨G,D,S,h2,T⟩:=ca.at_ k a e;exact⟨G,D,S,by rw[qe (sO h2 n)];exact h2,T.mv Nt⟩
  have t:=qa;refine⟨p::b,C,σ.set iR JL,O1,W8,cap,?_⟩;cases L:it (σ.set iR JL) O1 with
  |bad=>rw[L] at t;exact ai t
  | exc c' l=>
   rw[L] at t;exact λg j x c2=>t g j ((Ext.laid n).trans x) c2.unhide
  | ok src O2=>
   rw[L] at t;intro J H1 f_ x1 c2 sa;cases src with
   |own _=>exact ai t
   |zip _ _=>exact ai t
   | val ys=>
    have t:=t;have e0:Ea p F C H1 f_:=(Ext.laid n).ea.trans x1.ea;have Ah:=x1.keep p _ rS Wm;refine⟨λi m M g=>∃j f l P G D,m=ys.length-i/\i<=ys.length/\M.length=X.N.length/\Ea p H1 f_ g j/\oN X.K g (p::b) j f M/\oK X.K g (p::b) j l/\M[iR]?=YP (YP (.ref p))/\g p=YP (.dK ((P.map kD).zip D))/\P.length=D.length/\oM X.K g (p::b) j G D/\
     oR Ex X.K F b C (match Az iR uA iL t1 t3 (ys.drop i) P G f l with
      |.nx f l=>tt f l
      |_=>.bad) E,
     ⟨_,f_,_,O2,ks,ds,W,rfl,cw _,by rw[cG];exact I.len,.refl,W8.ext x1,c2,by rw[aZ hlv],Ah,Y,(dvs.mv Nt).ext x1,t⟩,?_⟩
    rintro i m xS H2 ⟨u,s_,Ht,B,Hg,BH,hm,hile,Eu,Hf,Hb,BU,J6,Gw,GJ,Di,c⟩;have Ae:=sa (p::b) H2 u Ht Hf.mv BU i;have CD:match ys[i]? with
     |some d=>J.go i H2/\∀x uk,J.yld i H2 x uk->Ext H2 u uk u/\oK X.K uk (p::b) u Ht/\XV X.K uk (p::b) u d x
     |none=>J.stop i H2:=Ae
    cases q0:ys[i]? with
    | none=>
     rw[q0] at CD;have xN:i=ys.length:=by have:=aY.mp q0;lia
     rw[xN,nG] at c;exact .inl ⟨CD,b,u,s_,Ht,Hb.mv .unhide,BU.unhide,c.ext ((e0.trans Hf).ext n)⟩
    | some d=>
     rw[q0] at CD;obtain⟨go,yl⟩:=CD;have xN:=(am.mp q0).1;rw[d7 xN,(am.mp q0).2] at c;unfold Az at c;cases Z:xV d with
     |none=>rw[Z] at c;exact ai c
     | some k=>
      rw[Z] at c;dsimp only at c;by_cases vL:Es k B=JQ
      case neg=>rw[JW vL] at c;exact ai c
      rw[JV vL] at c;refine .inr ⟨go,λM g=>∃j f l P G D,M.length=X.N.length/\Ea p H1 f_ g j/\oN X.K g (p::b) j f M/\oK X.K g (p::b) j l/\M[iR]?=YP (YP (.ref p))/\g p=YP (.dK ((P.map kD).zip D))/\P.length=D.length/\oM X.K g (p::b) j G D/\
       oR Ex X.K F b C (match Az iR uA iL t1 t3 (ys.drop (i+1)) P G f l with
        |.nx f l=>tt f l
        |_=>.bad) E,λf g ⟨j,sR,O3,ks3,ds3,vs3,h⟩=>⟨ys.length-(i+1),by lia,j,sR,O3,ks3,ds3,vs3,rfl,xN,h⟩,λv H3 y=>?_⟩
      obtain⟨x3,c3,r3⟩:=yl v H3 y;have F3:p∉u:=λm=>BU.nh p m 'k';have NY:=x3.keep p _ Gw F3;have OJ:=(Hb.ext x3).set r3 uA;have dd3:=Di.ext x3;have ekv:=KO Z r3;have Gn:(xS.set uA (YP v))[iR]?=YP (YP (.ref p)):=by rw[aX (bC n1)];exact J6
      have NR:(xS.set uA (YP v))[uA]?=YP (YP v):=by
       rw[aZ (by rw[Eu];exact hT)]
      refine⟨_,Gn,v,NR,p,_,kD k,rfl,NY,ekv,UW GJ vL,?_⟩;obtain⟨R,hd1,hd2,hd3⟩:=SA GJ dd3;rw[hd1];have He:Ea p H3 u (upd H3 p (.dK (((vG k B).map kD).zip R))) u:=.putX (Aw NY);have W9:=OJ.mv (He.mv);have cl4:=c3.putX (o:=.dK (((vG k B).map kD).zip R)) (Aw NY);have dd4:=hd3.mv (He.mv);cases S:t1 (s_.set uA (YP d)) Ht with
      |bad=>rw[S] at c;exact ai c
      |exc c' l=>rw[S] at c;exact ai c
      | ok d1 O5=>
       rw[S] at c;dsimp only at c;refine⟨p::b,u,s_.set uA (YP d),Ht,W9,cl4,?_⟩;rw[S];intro v1 H5 Ao x5 c5 r5;have Gv:=x5.keep p _ rS F3;have F2:p∉Ao:=λm=>c5.nh p m 'k';have Kk:=(W9.ext x5).set r5 iL;have Xd:=dd4.ext x5;have Gm:((xS.set uA (YP v)).set iL (YP v1))[iR]?=YP (YP (.ref p)):=by rw[aX (bC n2)];exact Gn
       cases T:t3 (((s_.set uA (YP d)).set iL (YP d1)).set iR (YP (.map (vG k B) (yZ k B Hg)))) O5 with
       |bad=>rw[T] at c;exact ai c
       |exc c' l=>rw[T] at c;exact ai c
       | ok d3 O6=>
        rw[T] at c;dsimp only at c;by_cases hn:O6.all nms=JQ
        case neg=>rw[JW hn] at c;exact ai c
        rw[JV hn] at c;refine⟨p,_,Gv,λo=>?_⟩;have OO:Ea p H5 Ao (upd H5 p (.frz o (.dK (((vG k B).map kD).zip R)))) Ao:=.putX (Aw Gv);have dm:XV X.K (upd H5 p (.frz o (.dK (((vG k B).map kD).zip R)))) b Ao (.map (vG k B) (yZ k B Hg)) (.ref p):=by
         exact⟨p,R,rfl,⟨o,rS⟩,nph,F2,hd2,(Xd.mv (OO.mv)).mv .unhide⟩
        refine⟨b,Ao,_,O5,((Kk.mv (OO.mv)).mv .unhide).put Gm dm,(c5.putX (Aw Gv)).unhide,?_⟩;rw[T];intro v3 H6 Hy x6 c6 r6;have J7:=x6.keep p _ rS F2;have ea7:Ea p H6 Hy (upd H6 p (.dK (((vG k B).map kD).zip R))) Hy:=.putX (Qr J7);have ON:=(OO.trans x6.ea).trans ea7;exact⟨J7,Hy,_,O6,_,_,R,by rw[cG,cG];exact Eu,((Hf.trans x3.ea).trans He).trans (x5.ea.trans ON),Kk.mv (ON.mv),(c6.hide J7 hn).putX (Qr J7),Gm,rS,hd2,Xd.mv (ON.mv),c⟩
 |_=>exact ai qa
end
end DL
namespace DL
open PySem L2
def HP(o:Obj):Nat:=match o.data with
 |.dict _ ep=>ep
 |_=>0
def Xn(a:af)(o:Obj)(i_:List (Key×V)):It:=⟨λi H=>H a=YP (.frz o (.dK i_))/\i<i_.length,λi H x H'=>H'=H/\∃k v,i_[i]?=YP (k,v)/\x=kV k,λi H=>H a=YP (.frz o (.dK i_))/\i_.length<=i⟩
theorem Rw:∀{i_:List (Key×V)}{ws:List (Key×ae)}{i:Nat}{k:Key}{v:V},KV i_ ws->i_[i]?=YP (k,v)->∃u,ws[i]?=YP (k,u)
 |_,_,_,_,_,.nil,h=>by simp at h
 | (k0,v0)::_,(k1,u1)::_,0,k,v,.cons h _,e=>by
  obtain⟨rfl,rfl⟩:=e;have a:=h.1;subst a;exact⟨u1,rfl⟩
 |_::_,_::_,i+1,k,v,.cons _ t,e=>Rw (i:=i) t ⇑e
def ziH(h:(vn P w).is k u=JQ):RelV (kV k) u:=by
 rcases Ab h with⟨i,t,rfl,rfl⟩|⟨x,t,rfl,rfl⟩
 ·exact⟨t,rfl⟩
 ·exact⟨t,rfl⟩
def LW(ok:HOk P w H h)(e:H a=YP (.frz o (.dK i_))):(a==sysModules)=JU/\∃b,KV i_ b/\h.DictAt (vn P w) a b (HP o):=by
 obtain⟨d,z,i,b,c,m,j,k,f,l,g,r⟩:=ok a _ e;rw[d] at f;cases f;have:HP o=k:=by unfold HP;rw[g]
 rw[this];exact⟨i,b,c,o,j,d,l,g,r⟩
def zcP(a it:af)(o:Obj)(n:List (Key×V)):yv P w K tg (Xn a o n) [it] it (λi h=>h.IsKeyIter it a i n.length (HP o)) where
 mem:=by simp
 obj:=λi h g b j=>by
  have e:b=it:=⇑j
  subst e;obtain⟨o,e,c,d⟩:=g;exact⟨o,e,λv z=>by rw[d] at z;cases z⟩
 keep:=λi h N g k=>g.at λo e=>k it 'k' o e
 item:=by
  intro X q r t O i l s R H E I m g x;subst q r t;obtain⟨y,A⟩:=x;obtain⟨S,T,f,B⟩:=LW I.hok y;obtain⟨⟨k,v⟩,Q⟩:∃p,n[i]?=YP p:=⟨_,aw A⟩;obtain⟨u,U⟩:=Rw f Q;obtain⟨C,D,W,F,G,J⟩:=m it 'k';rw[f.length] at g;refine wpAny_pyNext_dict_item g B U λL N Y M Z=>?_;have I1:=I.turned (λb o j e=>(Z.2 b j).trans e) C D F G J;obtain⟨o2,e,c,d⟩:=id M;rw[<- f.length] at M;exact⟨L,rfl,EW e c d 'u' ⟨kV k,H,I1,ziH Y,⟨rfl,k,v,Q,rfl⟩,M,λb j=>(m b j).1⟩⟩
 done:=by
  intro X q r t O i l s R H E I m g x;subst q r t;obtain⟨y,A⟩:=x;obtain⟨S,T,f,B⟩:=LW I.hok y;obtain⟨C,D,W,F,G,J⟩:=m it 'k';rw[f.length] at g;exact wpAny_pyNext_dict_end (I.ok.hd O) g B (aY.mpr (by rw[<- f.length];exact A)) λN eb=>⟨rfl,I.turned (λb o j e=>eb b o j e) C D F G J⟩
 self:=λ_ _ _ _ _ g h=>wpAny_pyIter_keyiter g h
noncomputable def BI:DK->D
 |.inl i=>.int i
 |.inr cs=>.str cs
def zgE:∀k:DK,XV K H Xf μ (BI k) (kV (kD k))
 |.inl _=>by unfold BI XV;rfl
 |.inr _=>by unfold BI XV;rfl
def oU.keys{K:ak}{H:Hp}{Xf μ:List af}{b:List DK}{vs:List V}{a:af}{o:Obj}(h:H a=YP (.frz o (.dK ((b.map kD).zip vs))))(n:a∉Xf)(p:a∉μ)(g:b.length=vs.length):oU K (Xn a o ((b.map kD).zip vs)) (.val (b.map BI)) H Xf μ:=by
 intro j u v w m c i;have l:=m.kept a _ h p n (by intro A z;cases z);have f:((b.map kD).zip vs).length=b.length:=by rw[nR,aI,g,Nat.min_self]
 show match (b.map BI)[i]? with|some d=>_|none=>_
 rw[bF];cases e:b[i]? with
 | some k=>
  have q:=(am.mp e).1;refine⟨⟨l,by rw[f];exact q⟩,λx B y=>?_⟩;obtain⟨rfl,r,C,s,rfl⟩:=y;have t:r=kD k:=by
   have:=congrArg (nK lD) s;rw[<- bF,List.map_fst_zip (by rw[aI];exact ip g),bF,e] at this;cases this;rfl
  subst t;exact⟨.refl,c,zgE k⟩
 | none=>
  exact⟨l,by rw[f];exact aY.mp e⟩
def HJ(t:DE):DI:=λσ O=>(t σ O).bnd λx O1=>match x with
 |.map ks _=>.ok (.val (ks.map BI)) O1
 |_=>.bad
def zee{X:Cx}{l:Nat->Hp->Prop}{a y:aR}{t:DE}(z:PD X l a t):ui X l y a (HJ t):=by
 refine⟨?_⟩;rintro i s A H B I ⟨f,S,T,O,C,D,q⟩;refine pZ (z.out i s A H _ I (rd.go C D q (Q1:=λv g=>∃f h j d,oK X.K g f h j/\XV X.K g f h d v/\post l X.K (λE F s J=>oU X.K J s E f F) g f h (match d with|.map ks _=>.ok (.val (ks.map BI)) j|_=>.bad) B)
  λd j v g h U x c r p=>⟨f,h,j,d,c,r,p⟩)) λu m ⟨v,g,k,G,f,h,j,d,c,r,p⟩=>?_
 cases d with
 | map ks ds=>
  obtain⟨a,V,rfl,⟨o,w⟩,L,M,N,W⟩:=r;cases G;obtain⟨P,Y,n,Q⟩:=LW k.hok w;refine wpAny_pyIter_dict P Q ?_;rw[<- n.length];refine⟨m.heap.objs.size,[m.heap.objs.size],_,_,g,rfl,k.kept λb o e=>ag _ e,zcP a _ o _,⟨_,aE _ rfl,rfl,rfl⟩,λb R=>?_,post.here p c (.keys w L M N)⟩;have e:b=m.heap.objs.size:=⇑R
  subst e;exact k.fpOk (ay _) (k.hok.fresh (ay _))
 |_=>exact ai p
end DL
namespace DL
open PySem L2 PyProof.Rows
noncomputable def ltP(i j k l:Int):Bool:=decide (i<k)||(decide (i=k)&&decide (j<l))
section
variable{X:Cx}{Ex:Nat->Hp->Prop}
def znG:Ow->D->D->R D:=λO x y=>match x,y with
 |.tup [.int i,.int j],.tup [.int k,.int l]=>.ok (.bl (ltP i j k l)) O
 |_,_=>.bad
def Bl:List Int->Int
 |[]=>0
 |x::l=>l.foldl min x
theorem LB:∀(l:List Int)(x:Int),l.foldl min x<=x/\∀a∈l,l.foldl min x<=a
 |[],x=>⟨Int.le_refl _,λ_ h=>by cases h⟩
 | y::l,x=>by
  obtain⟨c,b⟩:=LB l (min x y);rw[fv];refine⟨by lia,λa ha=>?_⟩;rcases ar.mp ha with rfl|ha
  ·lia
  ·exact b a ha
theorem Fw:∀(l:List Int)(x:Int),l.foldl min x=x\/l.foldl min x∈l
 |[],x=>.inl rfl
 | y::l,x=>by
  rw[fv];rcases Fw l (min x y) with h|h
  ·rcases Int.le_total x y with e|e
   ·left;rw[h];lia
   ·right;rw[h];rw[show min x y=y by lia];exact av
  ·exact .inr (al _ h)
def zcn(hm:M∈ns)(b:∀a,a∈ns->M<=a):M=Bl ns:=by
 cases ns with
 |nil=>cases hm
 | cons x l=>
  show M=l.foldl min x;obtain⟨c,d⟩:=LB l x;have f:l.foldl min x<=M:=by
   rcases ar.mp hm with rfl|hm
   ·exact c
   ·exact d M hm
  have g:M<=l.foldl min x:=by
   rcases Fw l x with e|e
   ·rw[e];exact b x av
   ·exact b _ (al _ e)
  lia
def zdm(m:X.calm=JQ):oW X (.builtin "min") (λxs H Q=>∃(p:af)(c:List Int),xs=[.ref p]/\qR X.K H p (c.map V.int)/\c≠[]/\Q (.int (Bl c)) H):=by
 intro e s J H xs L Q I r h;obtain⟨p,c,rfl,n,o,q⟩:=h;obtain⟨u,rfl,w⟩:=uG r;cases w;obtain⟨M,x,y,N⟩:=I.list n;have f:=Vv x;obtain⟨b,g⟩:=f.allInts.items;have d:c=b.toList.map (·.1):=by rw[<- f.numsOf,<- ma,<- g]
 have k:=y.isList;rw[g] at k;have A:0<b.size:=by
  rcases Nat.eq_zero_or_pos b.size with z|z
  ·exact absurd (by rw[d,Array.eq_empty_of_size_eq_zero z];rfl) o
  ·exact z
 refine wT I (min_intList (I.ok.hd m) k A λv O B C D P=>?_);obtain⟨t,rfl⟩:=intItems_at C;obtain⟨R,E⟩:=argBest_lt (numAt b) (b.size-1);have F:numAt b (argBest (λi j=>decide (numAt b i<numAt b j)) (b.size-1))=Bl c:=by
  refine zcn ?_ λa l=>?_
  ·rw[d,numAt_eq];exact getD_mem (by rw[aI,aG];lia)
  ·rw[d] at l;obtain⟨j,G,rfl⟩:=mem_getD l;rw[aI,aG] at G;rw[<- numAt_eq];exact E j 'd'
 rw[F];exact⟨.int _,H,I.kept (t':=B) D,⟨_,rfl⟩,q⟩
def EZ:Ow->List D->R D:=λO xs=>match xs with
 | [x]=>match tL O x with
  | some ds=>match yY ds with
   |some ns=>if ns≠[] then .ok (.int (Bl ns)) O else .bad
   |none=>.bad
  |none=>.bad
 |_=>.bad
def zhs:vE X Ex (λxs H Q=>∃(p:af)(a:List Int),xs=[.ref p]/\qR X.K H p (a.map V.int)/\a≠[]/\Q (.int (Bl a)) H) EZ:=by
 intro H b k O xs l Q c d q;unfold EZ at q;split at q
 ·rename_i x;obtain⟨v,rfl,f⟩:=ux d;split at q
  ·rename_i m e;obtain⟨p,n,rfl,g,h⟩:=vk c f e;split at q
   ·rename_i a i;obtain⟨j,q⟩:=post.ite q;refine⟨p,a,rfl,?_,j,post.here q c t5⟩;rw[<- LL h i];exact g
   ·exact ai q
  ·exact ai q
 ·exact ai q
noncomputable def HH(i:Nat)(t:DE):DS:=λσ O=>match σ[i]? with
 | some (YP (.int a))=>(t σ O).bnS λd O1=>match d with
  |.int b=>.nx (σ.set i (YP (.int (a+b)))) O1
  |_=>.bad
 |_=>.bad
def zhR(h:X.N.Nodup)(hi:X.N[i]?=YP x)(j:Loc X.env.scope x)(k:PD X Ex e te)(l:X.fn x=JQ\/X.env.scope.names.lookup x=YP .local:=by first|exact .inl rfl|exact .inr rfl):
  vd X Ex (.AugAssign (.Name x pos') .Add e pos) (HH i te):=
 AE (ZG h hi j k.out zj6 l) λm z A O E n H f o q=>by
  unfold HH at q;split at q
  ·rename_i a s;obtain⟨v,t,g⟩:=f.at_ i _ s;unfold XV at g;subst g;refine⟨.int a,t,rd.goS f o q λd B v u w y x c r p=>?_⟩;cases d with
   | int b=>
    unfold XV at r;subst r;exact⟨a,b,rfl,rfl,p (n.set i (YP (.int (a+b)))) u w .refl (y.set t5 i) c⟩
   |_=>exact ai p
  ·exact ai q
end
end DL
namespace DL
open PySem L2
open PyProof.Rows (AllBare)
structure oQ(P:aK)(w:aT)(K:ak)(mg:aq->Option ae)(base:aS)(x:aq)(k n:Nat)(Pt:af)(F:qh):Prop where
 ex:∃f fd ps,mg x=YP (.ref f)/\cZ K (.ref f)=JQ/\Binds K fd ps []/\oY P w K mg base BW k f fd ps (HM K Kr n Pt F)
section
variable{P:aK}{w:aT}{K:ak}{mg:aq->Option ae}{base:aS}{k n i:Nat}{x z:aq}{Pt c:af}{F G:qh}
def oQ.imp(c:oQ P w K mg base x k n Pt F)(h:∀ds O H Xf μ Q,oK K H Xf μ O->qY qN K H Xf μ (G ds O) Q->qY qN K H Xf μ (F ds O) Q):oQ P w K mg base x k n Pt G:=by obtain⟨f,b,e,g,j,l,m⟩:=c.ex;exact⟨f,b,e,g,j,l,m.imp λr H Q E ⟨o,Xf,μ,ds,O,d,a,p,q⟩=>⟨o,Xf,μ,ds,O,d,a,p,h ds O H Xf μ Q a q⟩⟩
def oQ.bad(c:oQ P w K mg base x k n Pt F):oQ P w K mg base x k n Pt (λ_ _=>.bad):=c.imp λ_ _ _ _ _ _ _ q=>ai q
def oQ.self(c:oQ P w K mg base x k n Pt F):oQ P w K mg base x k n Pt F:=c
def oQ.frz(c:oQ P w K mg base x k n Pt F):oQ P w K mg base x k n Pt (Dw F):=c.imp λd O H a e Q b q=>T7 b.len q
def QE{f:af}{name a:aq}{g:eR}{body:List dh}{scope:cu}{B C l D m ct L:ae}{I M:Option af}{R:Array (Option ae)}{N u:List aq}{t:DS}
  (T:K.lookup f=YP ⟨L,M,.func (br name a g body scope B C l D I m ct),R⟩) (U:dE K m a=JQ) (S:tF N u scope) (hi:N[i]?=YP z) (V:¬ sY scope z)
  (W:∀(A:aU)(b:List Env)(s:ah)(H:Hp)(E:XK),oP k (A.deeper (a9 a scope s.heap.objs.size f m))->sQ (EH P w K mg base N a scope f m A b s H E) qN body t):
  oY P w K mg base BW (k+1) f (br name a g body scope B C l D I m ct) u (HM K Kr u.length Pt (Av N.length i Pt t)):=by
 refine qy T U S (λX H Q E h=>h.1) λA b s H X Q E Y h=>?_;obtain⟨hl,y,Z,J,O,d,c,ti,j⟩:=h;refine⟨_,(sZ.fake hi V (W A b s H E Y).out).nox,y,Z,_,O,(Jr d N).set (d:=.tab Pt) (by unfold XV;exact⟨rfl,ti⟩) i,c,?_⟩;unfold Av at j;generalize t ((J.map YP++aB (N.length-J.length) JL).set i (YP (.tab Pt))) O=r at j;cases r with
 |nx σ O'=>exact λb_ o p x e q=>j .non o p x q By
 |rt d' O'=>exact λv o p x q r=>j v o p x q r
 |bk σ O'=>exact ai j
 |ct σ O'=>exact ai j
 |exc q O'=>exact λo p x c2=>j o p x c2
 |bad=>exact ai j
def OF(h:qL K mg x st)(S:tF N ps (qz st))(hi:N[i]?=YP z)(o:¬ sY (qz st) z)
  (p:∀(g d j:ae)(l:Option af)(b m:ae)(e:List ae),e.length=ps.length->bindArgs (br x x (vS st) (tP st) (qz st) .none g d j l b m) ⟨e,[]⟩=pure (ps.zip e))
  (q:∀(f:af)(b:ae)(A:aU)(a:List Env)(s:ah)(H:Hp)(E:XK),oP k (A.deeper (a9 x (qz st) s.heap.objs.size f b))->sQ (EH P w K mg base N x (qz st) f b A a s H E) qN (tP st) t):
  oQ P w K mg base x (k+1) ps.length Pt (Av N.length i Pt t):=by obtain⟨f,r,u,F⟩:=h;refine⟨f,r,ps,u,F.kp,F.binds p,?_⟩;obtain⟨C,D,g,d,j,l,b,m,I,rfl,v,y⟩:=F.ex;exact QE v y S hi o λA a s H E B=>q f b A a s H E B
def Pb(h:Ar K mg x st c)(S:tF N ps (qz st))(hi:N[i]?=YP z)(o:¬ sY (qz st) z)
  (p:∀(e b g:ae)(j:Option af)(l m:ae)(d:List ae),d.length=ps.length->bindArgs (br x x (vS st) (tP st) (qz st) .none e b g j l m) ⟨d,[]⟩=pure (ps.zip d))
  (q:∀(f:af)(A:aU)(a:List Env)(s:ah)(H:Hp)(E:XK),oP k (A.deeper (a9 x (qz st) s.heap.objs.size f (.ref c)))->sQ (EH P w K mg base N x (qz st) f (.ref c) A a s H E) qN (tP st) t):
  oQ P w K mg base x (k+1) ps.length Pt (Av N.length i Pt t):=by obtain⟨f,r,u,F,v⟩:=h.ex;refine⟨f,r,ps,u,F.kp,F.binds p,?_⟩;obtain⟨D,I,e,b,g,j,l,m,J,rfl,y,B⟩:=F.ex;cases (v);exact QE y B S hi o λA a s H E C=>q f A a s H E C
end
def DU(c:oQ X.prog X.w X.K X.mg X.base x k n Pt F)(l:oP j X.A)(m:k<=j)(o:Gl X x)(r:tM X qN (e::es) t)
  (s:rH x:=by decide) (u:aF (e::es) X.env=(JU,eval e X.env)::aF es X.env:=by rfl) (y:(backTo pos (aF es X.env)).any (·.1)=JU:=by rfl):
  PD X qN (.Call (.Name x p) (e::es) [] pos) (uq Pt iT n F t):=by
 obtain⟨f,U,V,z,B,C,G⟩:=c.ex;refine rV (LJ (G.mono m) l o z B C .nil PF r.out s u y) λa D E O W H Q h I q=>?_;obtain⟨J,q⟩:oX H Pt/\qY qN X.K H a D (k_ n F t E O) Q:=by
  unfold uq at q;split at q
  ·rename_i p L;by_cases b:p=Pt
   ·rw[JV b] at q;obtain⟨v,_,d⟩:=h.at_ iT _ L;rw[b] at d;exact⟨d.2,q⟩
   ·rw[JW b] at q;exact ai q
  ·exact ai q
 refine uO.go h I q λM N Y Z P e2 R S i g=>?_;obtain⟨T,g⟩:=post.ite g;refine⟨by rw[bV,<- i.length];exact T,a,P,M,N,?_,S,R.tab _ J,g⟩;rw[bV];exact i
end DL
namespace DL
open PySem L2 PyProof.Rows
def z8p(t:T = "list" \/ T = "tuple")(u:s.heap.get? p=YP o)(v:o.cls=.type T)(x:o.data=.seq vs.toArray n)(g:ge vs ss)(k:vs.length<=4000000)
  (h:∀(a h':aS)(d:Array ae)(i:List aq)(c:Nat),(∀b f,s.heap.get? b=YP f->a.get? b=YP f)->(∀b f,a.get? b=YP f->h'.get? b=YP f)->h'.get? a.objs.size=YP { cls:=.type "list",data:=.seq d c }->ge d.toList i->i.Perm ss->sortedS i=JQ->Q (.ref a.objs.size) { s with heap:=h' }):
  ao (au prog w) A (call (.builtin "sorted") [.ref p]) Q E s:=by
 refine hJ nj mB mC (mD _) ?_;refine aa (aj ?_);have L:vs.toArray.size<=J3:=by rw[aQ];exact aM k 'u'
 refine aa (wpAny_collect_seq p t u v x λa y=>?_);refine aa (gR ?_);have M:vs.toArray.toList=vs:=by simp
 have j:(a.push (seqObj "list" vs.toArray 0)).get? a.objs.size=YP (seqObj "list" vs.toArray 0):=aE _ rfl;refine aa (bG (bU lp ⟨_,j,rfl⟩ kI (TS.list_sort_big lU j g.keysOf (λN O l e=>keyKind_strs (by rw[<- e];exact g)) k λz B C=>⟨_,rfl,?_⟩) (lq _)));obtain⟨D,F,G,H⟩:=sorted_out_str g B C;refine aj ⟨_,rfl,?_⟩;have I:=bH (bw λ_=>#[]) j rfl;have J:=ag (seqObj "list" #[] 0) (ag (seqObj "tuple" vs.toArray 0) I);have K:=bH (bw λ_=>(JX z).map (·.2)) J rfl;refine h a _ _ D _ y (λb o m=>?_) K F G H;have r:a.objs.size≠b:=λq=>absurd (aJ m) (by rw[<- q];exact bP _);exact(bj _ _ r).trans (ag _ (ag _ ((bj _ _ r).trans (ag _ m))))
section
variable{X:Cx}{Ex:Nat->Hp->Prop}{H:Hp}{Xf μ:List af}
def KR(K:ak):List V->Hp->VK->Prop:=λxs H Q=>∃p ss,xs=[.ref p]/\(rZ K H p (ss.map λcs=>V.str ⟨cs.toArray⟩)\/qR K H p (ss.map λcs=>V.str ⟨cs.toArray⟩))/\ss.Nodup/\ss.length<=1000/\∀l,H l=JL->Q (.ref l) (upd H l (.lst ((qX ss).map λcs=>V.str ⟨cs.toArray⟩)))
def UQ:oW X (.builtin "sorted") (KR X.K):=by
 intro m s O H P R Q I r h;obtain⟨p,a,rfl,sq,x,y,q⟩:=h;obtain⟨u,rfl,z⟩:=uG r;cases z;obtain⟨b,f,T,A,o,j,k,n,l⟩:∃b:List ae,oO (a.map λd=>V.str ⟨d.toArray⟩) b/\∃T,(T = "list" \/ T = "tuple")/\∃o,s.heap.get? p=YP o/\o.cls=.type T/\∃n,o.data=.seq b.toArray n:=by
  rcases sq with sq|sq
  ·obtain⟨b,f,⟨o,j,k,n,l⟩,_⟩:=I.tuple sq;exact⟨b,f,_,.inr rfl,o,j,k,n,l⟩
  ·obtain⟨b,f,B,_⟩:=I.list sq;exact⟨b,f,_,.inl rfl,B.isList⟩
 have C:(a.map λd=>V.str ⟨d.toArray⟩)=(a.map toS).map V.str:=by rw[bJ];rfl
 have D:=Mt (by rw[<- C];exact f);have t:b.length=a.length:=by have:=f.length;simpa using this.symm
 refine z8p A j k l D 'd' λE S g U c F G J L v M=>?_;have e:=zhD v x M;subst e;have w:=I.kept F;have i:oO ((qX a).map λd=>V.str ⟨d.toArray⟩) g.toList:=by
  have i:=Mm L;rw[bJ] at i;exact i
 have N:(qX a).length=a.length:=by have:=v.length_eq;simpa using this
 exact⟨.ref E.objs.size,_,w.laid (o:=.lst ((qX a).map λd=>V.str ⟨d.toArray⟩)) G (ay _) ⟨by rw[aI,N];exact aM y 'u',g.toList,c,i,by rw[J]⟩,rfl,q _ (w.hok.fresh (ay _))⟩
def Ic(O:Ow)(ds:List D):R D:=match vB ds with
 |some ss=>if ss.Nodup/\ss.length<=1000 then .ok (.lst ((qX ss).map .str)) O else .bad
 |none=>.bad
def yW:Ow->List D->R D:=λO xs=>match xs with
 |[.tup ds]=>Ic O ds
 | [x]=>match tL O x with
  |some ds=>Ic O ds
  |none=>.bad
 |_=>.bad
def SF{K:ak}{O:Ow}{p:af}{ds:List D}{a:List V}{Q:VK}(c:oK K H Xf μ O)(d:rZ K H p a\/qR K H p a)(dd:oM K H Xf μ ds a)(q:qY Ex K H Xf μ (Ic O ds) Q):KR K [.ref p] H Q:=by
 unfold Ic at q;split at q
 ·rename_i e f;obtain⟨⟨g,h⟩,q⟩:=post.ite q;have i:=IK dd f;subst i;exact⟨p,e,rfl,d,g,h,λl b=>post.ok q (.laid b) (c.laid b) (XV.newL c b (Jo _))⟩
 ·exact ai q
def So:vE X Ex (KR X.K) yW:=by
 intro H Xf μ O h i Q c d q;unfold yW at q;split at q
 ·obtain⟨v,rfl,a⟩:=ux d;obtain⟨p,g,rfl,b,f⟩:=Bq a rfl;exact SF c (.inl b) f q
 ·obtain⟨v,rfl,a⟩:=ux d;split at q
  ·rename_i e;obtain⟨p,g,rfl,b,f⟩:=vk c a e;exact SF c (.inr b) f q
  ·exact ai q
 ·exact ai q
end
noncomputable def K1(out sc:cu)(x:aq):Bool:=(match sc.kind with|.function=>JQ|_=>JU) && !sc.isCoroutine && !sc.isGenerator&&decide ((sc.names.map (·.1)).Nodup)&&(sc.names.lookup x==YP .local)&&(sc.names.all λy=>!(y.2 == .cell)&&(!(y.2 == .local)||y.1==x))&&(sc.names.all λy=>!(y.2 == .free)||out.names.lookup y.1==YP .cell||out.names.lookup y.1==YP .free)
def YX(h:K1 out sc x=JQ):Qh out sc x:=by
 unfold K1 at h;simp only[be,decide_eq_true_eq,aD] at h;obtain⟨⟨⟨⟨⟨⟨c,f⟩,g⟩,i⟩,j⟩,d⟩,k⟩:=h;refine⟨?_,by simpa using f,by simpa using g,i,λy a=>?_,by simpa using j,λy a b=>?_,λy a b=>?_⟩
 ·cases e:sc.kind<;>rw[e] at c<;>first|rfl|cases c
 ·have:=(d y a).1;simpa using this
 ·have:=(d y a).2;rw[b] at this;simpa using this
 ·have:=k y a;rw[b] at this;simpa using this
def zed(f:oP (k+2) X.A)(g:X.calm=JQ)(L:uF X.mg X.base c Pt)(h:X.env.code=.ref c)(i:K1 X.env.scope scope x=JQ)(j:defaultsOf params X.env=([],[]))
  (l:∀(name a:aq)(cl:List (aq×af))(pm d ct u:ae),bindArgs (cC name a params body scope cl pm d ct) ⟨[u],[]⟩=pure [(x,u)]) (m:(X.N++[x]).Nodup) (n:PD X Ex e te)
  (o:∀(q:aq)(b:af)(d:ae)(cl:List (aq×af))(A:aU)(outer:List Env)(s:ah)(H:Hp),oP k (A.deeper (tN q scope s.heap.objs.size b d cl))->PD (Hm X.prog X.w X.K X.mg X.base (X.N++[x]) (tN q scope s.heap.objs.size b d cl) A outer s H) qN body tE)
  (p:Gl X "min") (r:X.mg "min" = JL) (t:aF [e] X.env=[(JU,eval e X.env)]:=by rfl):PD X Ex (.Call (.Name "min" pn) [e] [⟨YP (gL "key"),.Lambda params body scope pl,kq⟩] pp) (DH Pt iT te tE):=
 zgr f g L h (YX i) j l (λz=>(fG.mp m).2.2 x z x 'k' rfl) n o p r t
def z8F{X:Cx}{f:Nat->Hp->Prop}{b d a:aR}{c:List aR}{e:List bR}{scope:cu}{pos h j:Pos}{y:aq}{i k:Nat}{ext:List aq}{it0:DI}{g:Tg}{ts:List DT}{cs:List Cl}{te:DE}(_:Nx ext)(o:Bool)(l:X.calm=JQ)(m:X.N.Nodup)(n:X.N[i]?=YP y)(p:X.env.scope.names.lookup y=YP .local)(q:yN X.env.scope scope (X.N++ext) (qM (⟨it0,g,ts⟩::cs)))(hi:ui X f d a it0)(r:H_ X ext scope d g c ts e cs b te)
  (s:swapsWith (.ListComp b (⟨d,a,c,0⟩::e) scope pos) (YP (.Name y j)) h.line X.env=pure JQ) (t:ext.length=k:=by rfl) (u:∀x,cq a X.env x=pure x:=by intro _;rfl):
  PS X (.Assign [.Name y j] (.ListComp b (⟨d,a,c,0⟩::e) scope pos) h) (Dv (rd f X.K (qp o k it0 g ts cs te)) (AB i)):=t▸zam o ext l m n p hi q r s u
end DL
namespace DL
open PySem L2
section
end
end DL
namespace DL
open PySem L2 PyProof.Rows
end DL
namespace DL
open PySem L2
def rG(F:qh):qh:=λds O=>match F ds O with
 |.exc _ _=>.bad
 |r=>r
def Ti(h:F ds O=.ok d O1):rG F ds O=.ok d O1:=by unfold rG;rw[h]
def UT(h:qY Ex K H Xf μ (rG F ds O) Q):qY Ex' K H Xf μ (F ds O) Q:=by
 unfold rG at h;cases e:F ds O with
 |ok d O1=>rw[e] at h;exact h
 |exc c O1=>rw[e] at h;exact ai h
 |bad=>rw[e] at h;exact ai h
def oY.calm(F:oY P w K mg base BW k f fd ps sp):oY P w K mg base CX k f fd ps sp:=
 ⟨F.len,λA a s H b d e Q E g h i j l=>ef (F.run A a s H b d e Q E g h i j l) λr m c=>by
  unfold CR at c ⊢;split at c
  ·exact c
  ·exact ai c
  ·exact ai c⟩
section
variable{Cl:Nat->ae}{P:aK}{w:aT}{K:ak}{mg:aq->Option ae}{base:aS}{k n:Nat}{x:aq}{Pt:af}{F:qh}
def Callee.toX(c:Callee P w K mg base x k n F):o6 Cl P w K mg base x k n (rG F):=by obtain⟨f,b,e,g,h,i,j⟩:=c.ex;exact⟨f,b,e,g,h,i,(oY.calm j).imp λr H Q E ⟨l,a,m,o,O,d,p,q⟩=>⟨l,a,m,o,O,d,p,UT q⟩⟩
def oQ.toT(c:oQ P w K mg base x k n Pt F):Sq Cl P w K mg base x k n Pt (rG F):=by obtain⟨f,b,e,g,h,i,j⟩:=c.ex;exact⟨f,b,e,g,h,i,(oY.calm j).imp λs H Q E ⟨l,a,m,o,O,d,p,r,q⟩=>⟨l,a,m,o,O,d,p,r,UT q⟩⟩
end
open PyProof.Rows (AllBare IntsAre)
def zae{P:aK}{w:aT}{K:ak}{p U:aq->Option ae}{CX:xw}{k:Nat}{X a:af}{Ts:List (af×af)}{fd:d0}{x:aq}{sp:Sp}{c:ah}{vs:List ae}{I:List Int}
  (Y:K.In c.heap) (xM:c.heap.Ns bX p) (g:c.heap.Ns builtinsNs U) (Kc:∀x:aq,x ≠ "__name__"->U x=bd x) (zw:c.heap.NoLimit) (hg:c.gens = #[]) (qv:0<c.toks)
  (C:c.heap.get? a=YP { cls:=.type "list",data:=.seq vs.toArray }) (hi:kY vs I) (hl:I.length<=J3) (hr:oP k callerA)
  (hC:∀q∈Ts,nY c.heap q.1 q.2) (A:∀q∈Ts,c.heap.get? q.2=YP (lc #[])) (hK:jv K=JQ) (hB:∀q∈Ts,c.heap.BuiltinsAt p q.2)
  (F:∀base:aS,K.In base->base.Ns bX p->(∀q∈Ts,uF p base q.1 q.2)->oY P w K p base CX k X fd [x] sp) (sX:∀(s:ah)(u:ae),i7 s fd ⟨[u],[]⟩ [(x,u)])
  (BN:∀H:Hp,(∀q∈Ts,H q.2=YP (.tbl #[]))->qR K H a (I.map V.int)->sp [.ref a] H (λv _=>v=.bl JQ) λ_ _ _=>False)
  (Z:∀H e s',CX [] H c (λ_ _ _=>False) e s'->False):
  codeAny (au P w) callerA (.call (.ref X) ⟨[.ref a],[]⟩) (λr s'=>r=.ok (.ret (.bool JQ))/\OldK c.heap s'.heap/\s'.os=c.os/\gk s'.gens) c:=by
 have rv:=UN hi;have Nz:=hi.length;have naP:∀q∈Ts,a≠q.2:=λq j e=>by have h:=A q j;rw[<- e,C] at h;cases h
 have nKP:∀q∈Ts,K.lookup q.2=JL:=λz i=>by
  cases q:K.lookup z.2 with
  |none=>rfl
  | some o=>
   have e:=Y z.2 o q;rw[A z i] at e;cases e;have h2:=aD.mp hK (z.2,_) (PySem.W.mem_of_lookupK q);exact absurd (show JU=JQ from h2) cO
 have Np:a∉Ts.map (·.2):=λh=>by obtain⟨q,j,e⟩:=aA.mp h;exact naP q j e.symm
 -- H: the table, and the Nd where it is JL of the Ga objects
 have t:∀H:Hp,(∀q∈Ts,H q.2=YP (.tbl #[]))->qR K H a (I.map V.int)->HOk P w H c.heap->(∀b,H b≠JL->b=a \/ ∃q∈Ts,q.2=b)->(H a=JL\/(K.lookup a=JL/\∃o xs,H a=YP (.frz o (.lst xs))))->
   codeAny (au P w) callerA (.call (.ref X) ⟨[.ref a],[]⟩) (λr s'=>r=.ok (.ret (.bool JQ))/\OldK c.heap s'.heap/\s'.os=c.os/\gk s'.gens) c:=by
  intro H hT hS J Q WY;have f:∀{b:af}{o:Obj},c.heap.get? b=YP o->H b=JL->(zS c.heap H).get? b=YP o:=λe n=>zdZ e n;have yh:∀{b:af}{o:Obj}{D:Array DictEntry}{E:Nat},c.heap.get? b=YP o->o.data=.dict D E->H b=JL:=λ{b o D E}e d=>by
   cases q:H b with
   |none=>rfl
   | some u=>
    rcases Q b (by rw[q];simp) with e'|e'
    ·subst e';rw[C] at e;cases e;have d':Data.seq vs.toArray _=Data.dict D E:=d;cases d'
    ·obtain⟨z,i,e'⟩:=e';subst e';rw[A z i] at e;cases e;have d':Data.fields #[]=Data.dict D E:=d;cases d'
  have R:∀{b:af}{m:aq->Option ae},c.heap.Ns b m->(zS c.heap H).Ns b m:=λ{b m}⟨o,D,E,e,d,r⟩=>⟨o,D,E,f e (yh e d),d,r⟩;have WX:K.In (zS c.heap H):=λb o e=>f (Y b o e) (by
   cases q:H b with
   |none=>rfl
   | some u=>
    rcases Q b (by rw[q];simp) with e'|e'
    ·subst e';rcases WY with z|⟨z,_⟩
     ·rw[z] at q;cases q
     ·rw[z] at e;cases e
    ·obtain⟨z,i,e'⟩:=e';subst e';rw[nKP z i] at e;cases e)
  have hM:Mod K p (zS c.heap H):=⟨WX,R xM,⟨U,R g,Kc⟩,let ⟨mc,h1,h2⟩:=zw;⟨mc,R h1,h2⟩⟩;have e0:pe P w K p (zS c.heap H) callerA [] c H:=⟨rfl,hM,λb o e=>zgw e,ip (zcl _ _),trivial,λb g=>absurd (show b∈([]:List af) from g) 'k',J,.of_eq hg,qv⟩;have Wo:∀{b:af}{o:Obj},c.heap.get? b=YP o->o.cls ≠ .none->(o.cls ≠ .type "list")->H b=JL:=λ{b o}e d1 d2=>by
   cases q:H b with
   |none=>rfl
   | some u=>
    rcases Q b (by rw[q];simp) with e'|e'
    ·subst e';rw[C] at e;cases e;exact absurd rfl d2
    ·obtain⟨z,i,e'⟩:=e';subst e';rw[A z i] at e;cases e;exact absurd rfl d1
  have hL:∀q∈Ts,uF p (zS c.heap H) q.1 q.2:=λz i=>by
   obtain⟨o,vs,L,tf,B,tg,BL,M,tt,N,r1,r⟩:=hC z i;obtain⟨bm,ob,b1,b2,b3,b4,b5,b6,b7,b8⟩:=hB z i;exact⟨⟨o,vs,L,tf,B,tg,BL,M,tt,f N (Wo N (by rw[r1];exact λz=>nomatch z) (by rw[r1];decide)),r1,r⟩,⟨bm,ob,b1,b2,b3,b4,f b5 (Wo b5 (by rw[b6];exact λz=>nomatch z) (by rw[b6];decide)),b6,b7,b8⟩⟩
  refine ef ((F _ WX (R xM) hL).run callerA [] c H ⟨[.ref a],[]⟩ [.ref a] [.ref a] _ _ hr e0 (sX c (.ref a)) (.cons rfl .nil) (BN H hT hS)) λr s' h=>?_;cases r with
  |error e=>exact(Z H e s' h).elim
  | ok fl=>
   cases fl with
   |next=>exact ai h
   |brk=>exact ai h
   |cont=>exact ai h
   | ret u=>
    obtain⟨⟨v,H',os,O,S,Gy,r',q⟩,_⟩:=h;have q':v=.bl JQ:=q;subst q';obtain rfl:u=lz JQ:=r';refine⟨rfl,⟨λb o e=>?_,λb o e=>?_⟩,os,O⟩
    ·by_cases T:∃q∈Ts,q.2=b
     ·obtain⟨z,i,T⟩:=T;subst T;obtain⟨y,hT'⟩:=S.tbls z.2 #[] (hT z i);have Ke:s'.heap.get? z.2=YP { cls:=.none,data:=.fields (#[]++y) }:=Gy z.2 _ hT';have h3:=A z i;rw[h3] at e;cases e;exact .inr (.inl ⟨((hC z i).tab h3).isCodeTable,rfl,#[],y,rfl,Ke⟩)
     ·cases q:H b with
      |none=>exact .inl (S.keep b o e q (by intro z;exact absurd (show b∈([]:List af) from z) 'k') 'k')
      | some u=>
       rcases Q b (by rw[q];simp) with e'|e'
       ·subst e';rcases WY with z|⟨_,ob,xs,z⟩
        ·rw[q] at z;cases z
        ·have z2:=S.frzs b ob _ z;obtain⟨N,_⟩:=J b _ z;obtain⟨e2,_⟩:=Gy b _ z2;rw[e] at N;cases N;exact .inl e2
       ·exact absurd e' T
    ·exact S.there b o e 'k'
 cases hk:K.lookup a with
 | some o=>
  have e:=Y a o hk;rw[C] at e;cases e;refine t (λb=>if b∈Ts.map (·.2) then YP (.tbl #[]) else JL) (λq j=>JV (aA.mpr ⟨q,j,rfl⟩)) (.inr ⟨_,vs.toArray,_,hk,rfl,rfl,rfl,by rw[aQ,Nz];exact hl,by simpa using rv⟩) (λb u z=>?_) (λb z=>?_) (.inl (JW Np))
  ·by_cases g:b∈Ts.map (·.2)
   ·have l:=(JV g).symm.trans z;cases l;obtain⟨q,j,rfl⟩:=aA.mp g;exact A q j
   ·have l:=(JW g).symm.trans z;cases l
  ·by_cases g:b∈Ts.map (·.2)
   ·exact .inr (aA.mp g)
   ·exact absurd (JW g) z
 | none=>
  refine t (λb=>if b∈Ts.map (·.2) then YP (.tbl #[]) else if b=a then YP (.frz { cls:=.type "list",data:=.seq vs.toArray } (.lst (I.map V.int))) else JL) (λq j=>JV (aA.mpr ⟨q,j,rfl⟩)) (.inl (.inr ⟨{ cls:=.type "list",data:=.seq vs.toArray },(JW Np).trans (JV rfl)⟩)) (λb u z=>?_) (λb z=>?_) (.inr ⟨hk,_,_,(JW Np).trans (JV rfl)⟩)
  ·by_cases g:b∈Ts.map (·.2)
   ·have l:=(JV g).symm.trans z;cases l;obtain⟨q,j,rfl⟩:=aA.mp g;exact A q j
   ·by_cases G:b=a
    ·have l:=((JW g).trans (JV G)).symm.trans z;cases l;subst G;exact⟨C,by rw[aI];exact hl,vs,_,rv,C⟩
    ·have l:=((JW g).trans (JW G)).symm.trans z;cases l
  ·by_cases g:b∈Ts.map (·.2)
   ·exact .inr (aA.mp g)
   ·by_cases G:b=a
    ·exact .inl G
    ·exact absurd ((JW g).trans (JW G)) z
noncomputable def BY(K:ak)(Ec:XK->Nat->Hp->Prop)(n:Nat)(P1 P2:af)(F:qh):Sp:=λvs H Q E=>vs.length=n/\∃Xf μ ds O,oM K H Xf μ ds vs/\oK K H Xf μ O/\oX H P1/\oX H P2/\qY (Ec E) K H Xf μ (F ds O) Q
def HF(n i j P1 P2:Nat)(t:DS):qh:=λds O=>fin (t (((ds.map YP++aB (n-ds.length) JL).set i (YP (.tab P1))).set j (YP (.tab P2))) O)
def Z6{Cl:Nat->ae}{P:aK}{w:aT}{K:ak}{D:aq->Option ae}{base:aS}{k i j:Nat}{f q u:af}{x y:aq}{name a:aq}{g:eR}{body:List dh}{scope:cu}{F G m I n ct M:ae}{J R:Option af}{T:Array (Option ae)}{N B:List aq}{t:DS}
  (U:K.lookup f=YP ⟨M,R,.func (br name a g body scope F G m I J n ct),T⟩) (V:dE K n a=JQ) (S:tF N B scope) (hi:N[i]?=YP x) (W:¬ sY scope x) (X:N[j]?=YP y) (Y:¬ sY scope y)
  (Z:∀(A:aU)(b:List Env)(s:ah)(H:Hp)(E:XK),oP k (A.deeper (a9 a scope s.heap.objs.size f n))->sQ (vq Cl P w K D base N a scope f n A b s H E) (Xk Cl E) body t):
  oY P w K D base (sj P w Cl) (k+1) f (br name a g body scope F G m I J n ct) B (BY K (Xk Cl) B.length q u (HF N.length i j q u t)):=by
 refine qy U V S (λvs H Q E h=>h.1) λA b s H vs Q E hr h=>?_;obtain⟨hl,C,μ,L,O,d,c,t1,t2,l⟩:=h;refine⟨_,sZ.fake (v:=.bl JU) hi W (sZ.fake (v:=.bl JU) X Y (Z A b s H E hr).out),C,μ,_,O,((Jr d N).set (d:=.tab q) (v:=.bl JU) (by unfold XV;exact⟨rfl,t1⟩) i).set (d:=.tab u) (v:=.bl JU) (by unfold XV;exact⟨rfl,t2⟩) j,c,?_⟩;unfold HF at l;generalize t (((L.map YP++aB (N.length-L.length) JL).set i (YP (.tab q))).set j (YP (.tab u))) O=r at l;cases r with
 |nx σ O'=>exact λb_ o p x e z=>l .non o p x z By
 |rt d' O'=>exact λv o p x z r=>l v o p x z r
 |bk σ O'=>exact ai l
 |ct σ O'=>exact ai l
 |exc z O'=>exact λo p x c2=>l o p x c2
 |bad=>exact ai l
def Xx{Cl:Nat->ae}{P:aK}{w:aT}{K:ak}{h:aq->Option ae}{base:aS}{k i j:Nat}{f c l m:af}{d:d0}{x z y:aq}{a:dh}{N g:List aq}{t:DS}(n:L2.Fun K x x a f d)(o:d.code=.ref c)(S:tF N g (qz a))(hi:N[i]?=YP z)(p:¬ sY (qz a) z)(q:N[j]?=YP y)(r:¬ sY (qz a) y)
  (u:∀(A:aU)(b:List Env)(s:ah)(H:Hp)(E:XK),oP k (A.deeper (a9 x (qz a) s.heap.objs.size f (.ref c)))->sQ (vq Cl P w K h base N x (qz a) f (.ref c) A b s H E) (Xk Cl E) (tP a) t):
  oY P w K h base (sj P w Cl) (k+1) f d g (BY K (Xk Cl) g.length l m (HF N.length i j l m t)):=by obtain⟨F,G,I,v,J,L,B,M,O,rfl,C,D⟩:=n.ex;have e:B=.ref c:=o;subst e;exact Z6 C D S hi p q r u
def Zh{K:ak}{Ec:XK->Nat->Hp->Prop}{f g:af}{F:qh}{H:Hp}{a:af}{i:List Int}(h:∃O,F [.lst (i.map .int)] []=.ok (.bl JQ) O)(j:H f=YP (.tbl #[]))(k:H g=YP (.tbl #[]))(l:qR K H a (i.map V.int)):BY K Ec 1 f g F [.ref a] H (λv _=>v=.bl JQ) λ_ _ _=>False:=by obtain⟨e,b,m,n,O,d,c,o,q⟩:=Y_ (Ec:=Ec) h j l;exact⟨e,b,m,n,O,d,c,o,oX.empty k,q⟩
def walk2{l:mo}{q:aK}{loose:List aq}{XP:(aq->Option ae)->aS->Prop}{A:aT->aS->Prop}{d:DefRec}{K:i9->ak}{Cl:Nat->ae}{k:Nat}{x xd:aq}{F:Nat->Nat->qh}{α:Type}{Yf:ah->α}{Ya:aT->α}(hn:l.most=YP 63)(Ol:d.params.defaults=[])(hr:oP k callerA)
  (Oz:∀w s,Yf s=Ya w->A w s.heap) (Oy:∀w h h',A w h->(∀b o,h.get? b=YP o->h'.get? b=YP o)->A w h')
  (hY:∀(w:aT)(h:aS),A w h->(K w.params).In h) (uB:(mh q).find? (λe=>e.name==d.name)=YP d) (Gu:((mh q).find? (λe=>e.name==xd)).isSome=JQ)
  (hF:∀(w:aT)(j:aq->Option ae)(B:af)(h:aS),(K w.params).In h->h.Ns bX j->j d.name=YP (.ref B)->
   jv (K w.params)=JQ/\∃(c Pt m i:af),gQ (K w.params) d.name=YP (c,Pt)/\gQ (K w.params) xd=YP (m,i)/\∃E:d0,(∀(s:ah)(u:ae),i7 s E ⟨[u],[]⟩ [(x,u)])/\∀base:aS,(K w.params).In base->base.Ns bX j->uF j base c Pt->uF j base m i->oY l.prog w (K w.params) j base (sj l.prog w Cl) k B E [x] (BY (K w.params) (Xk Cl) 1 Pt i (F Pt i)))
  (r:∀(Pt i:Nat)(C:List Int),C.length<=63->∃O,F Pt i [.lst (C.map .int)] []=.ok (.bl JQ) O):
  PySem.W.WalkX q loose XP (λs=>(Yf s,decide (0<s.toks))) (λw=>(Ya w,JQ)) l.row.toRowW d [] (λf vs=>PySem.call f vs):=by
 refine Att.attach_call hn Ol Oz Oy λw P Q j mb B o pm cd doc a vs C G Y ho S qH GD CT t n hg qv=>?_;have D:=hY w _ Y;obtain⟨hK,c,Pt,m,i,ht,I,E,hb,hG⟩:=hF w j B _ D G.T.g GD;obtain⟨hC,U⟩:=oh G.T D uB ht;obtain⟨dd,V⟩:=h9.mp Gu;have J:dd.name=xd:=by simpa using List.find?_some V
 subst J;obtain⟨M,X⟩:=oh G.T D V I;have Z:∀{p:af},Q.heap.get? p=YP (lc #[])->Q.heap.BuiltinsAt j p:=λ{p}hp=>by
  obtain⟨bm,ob,b1,b2,y,b4,b5,N⟩:=G.T.bmain;refine⟨bm,ob,b1,b2,λq=>?_,λq=>?_,y,b4,b5,N⟩
  ·obtain⟨o,es,ep,e,S,_⟩:=G.T.g;rw[q,e] at y;cases y;rw[S] at N;cases N
  ·rw[q,hp] at y;cases y;cases b4
 have v:∀{R:af×af->Prop},R (c,Pt)->R (m,i)->∀z∈[(c,Pt),(m,i)],R z:=λ{R}r1 r2 z hz=>by
  rcases ar.mp hz with rfl|hz
  ·exact r1
  ·rw[cE.mp hz];exact r2
 exact zae (Ts:=[(c,Pt),(m,i)]) D G.T.g G.T.b G.T.builtins G.T.nolimit hg qv CT t (aM n 'u') hr (v hC M) (v U X) hK (v (Z U) (Z X)) (λbase k1 k2 L=>hG base k1 k2 (L (c,Pt) 'k') (L (m,i) 'k')) hb (λH hT hS=>Zh (r Pt i C n) (hT (c,Pt) 'k') (hT (m,i) 'k') hS) λH e s' ⟨_,_,_,_,_,_,_,_,_,_,z⟩=>z
end DL
namespace DLC
section
variable{α:Type}[DecidableEq α]
abbrev Held(α:Type):=List (pU×List α)
def keys(h:Held α):o_:=h.map (·.1)
def hold(h:Held α)(x:α):o_:=(h.filter λkv=>kv.2.contains x).map (·.1)
noncomputable def at_(h:Held α)(t:pU):List α:=((h.find? λkv=>decide (kv.1=t)).map (·.2)).getD []
def drop(h:Held α)(t:pU):Held α:=h.filter λkv=>decide (kv.1≠t)
noncomputable def minGo(f:α->Nat):List α->α->α
 |[],b=>b
 |x::xs,b=>if f x<f b then minGo f xs x else minGo f xs b
def left(h:Held α)(w:List α)(t:pU):List α:=w.filter λx=>!(at_ h t).contains x
def covL(rec:Held α->List α->List o_)(h:Held α)(w:List α):o_->Held α->List o_
 |[],_=>[]
 |t::ts,r=>(rec (drop r t) (left h w t)).map (t :: ·)++covL rec h w ts (drop r t)
def cov:Nat->Held α->List α->List o_
 |_,_,[]=>[[]]
 |0,_,_::_=>[]
 |m+1,h,x::w=>covL (cov m) h (x::w) (hold h (minGo (λy=>(hold h y).length) w x)) h
theorem minGo_mem(f:α->Nat):∀(l:List α)(b:α),minGo f l b=b\/minGo f l b∈l
 |[],b=>.inl rfl
 | x::xs,b=>by
  unfold minGo;split
  ·rcases minGo_mem f xs x with h|h
   ·exact .inr (by rw[h];exact av)
   ·exact .inr (al _ h)
  ·rcases minGo_mem f xs b with h|h
   ·exact .inl h
   ·exact .inr (al _ h)
def Cov(h:Held α)(w:List α)(S:o_):Prop:=(∀t∈S,t∈keys h)/\∀x∈w,∃t∈S,x∈at_ h t
def mem_drop{h:Held α}{t:pU}{a:pU×List α}:a∈drop h t↔a∈h/\a.1≠t:=by unfold drop;simp
def keys_drop{h:Held α}{t s:pU}:s∈keys (drop h t)↔s∈keys h/\s≠t:=by
 unfold keys;simp only[aA,mem_drop];constructor
 ·rintro⟨a,⟨b,c⟩,rfl⟩;exact⟨⟨a,b,rfl⟩,c⟩
 ·rintro⟨⟨a,b,rfl⟩,c⟩;exact⟨a,⟨b,c⟩,rfl⟩
def nd_drop{h:Held α}{t:pU}(n:(keys h).Nodup):(keys (drop h t)).Nodup:=by exact n.sublist ((fY).map _)
def SI{h:Held α}{t s:pU}(b:s≠t):at_ (drop h t) s=at_ h s:=by
 unfold at_ drop;congr 2
 induction h with
 |nil=>rfl
 | cons kv r ih=>
  by_cases e:kv.1=t
  ·rw[dN ⇑e,gg (by simpa using λz=>b (z.symm.trans e)),ih]
  ·rw[dO ⇑e];by_cases a:kv.1=s
   ·rw[iQ ⇑a,iQ ⇑a]
   ·rw[gg ⇑a,gg ⇑a,ih]
def at_mem{h:Held α}(n:(keys h).Nodup){b:pU×List α}(m:b∈h):at_ h b.1=b.2:=by
 unfold at_
 induction h with
 |nil=>cases m
 | cons a r ih=>
  unfold keys at n;rw[bQ,bB] at n;rcases ar.mp m with rfl|m
  ·rw[iQ 'k'];rfl
  ·have c:a.1≠b.1:=λz=>n.1 (z▸aA.mpr ⟨b,m,rfl⟩);rw[gg ⇑c];exact ih n.2 m
def mem_hold{h:Held α}(n:(keys h).Nodup){x:α}{t:pU}:t∈hold h x↔t∈keys h/\x∈at_ h t:=by
 unfold hold;simp only[aA,bo,b9];constructor
 ·rintro⟨b,⟨a,c⟩,rfl⟩;exact⟨aA.mpr ⟨b,a,rfl⟩,by rw[at_mem n a];exact c⟩
 ·rintro⟨a,c⟩;obtain⟨b,d,rfl⟩:=aA.mp a;exact⟨b,⟨d,by rw[<- at_mem n d];exact c⟩,rfl⟩
def hold_nd{h:Held α}(n:(keys h).Nodup)(x:α):(hold h x).Nodup:=by exact n.sublist ((fY).map _)
def pH{h:Held α}{w:List α}{t:pU}{x:α}:x∈left h w t↔x∈w/\x∉at_ h t:=by unfold left;simp
theorem cov_sound:∀(m:Nat){h:Held α}{w:List α}{c:o_},(keys h).Nodup->c∈cov m h w->c.length<=m/\c.Nodup/\Cov h w c
 | m,h,[],c,n,hc=>by
  have:c=[]:=by unfold cov at hc;simpa using hc
  subst this;exact⟨cw _,iy,⟨λ_ z=>(bL z).elim,λ_ z=>(bL z).elim⟩⟩
 |0,h,x::w,c,n,hc=>by unfold cov at hc;cases hc
 | m+1,h,x::w,c,n,hc=>by
  have v:∀(b:o_)(r:Held α),(∀t∈b,t∈keys h)->(∀a∈r,a∈h)->(keys r).Nodup->c∈covL (cov m) h (x::w) b r->c.length<=m+1/\c.Nodup/\Cov h (x::w) c:=by
   intro b
   induction b with
   |nil=>intro r _ _ _ hc;cases hc
   | cons t b ih=>
    intro r g j k hc;rcases aP.mp hc with hc|hc
    ·obtain⟨p,A,rfl⟩:=aA.mp hc;obtain⟨B,C,q,D⟩:=cov_sound m (nd_drop k) A;have d:∀s∈p,s∈keys h/\s≠t:=λs hs=>by
      obtain⟨l,o⟩:=keys_drop.mp (q s hs);obtain⟨a,i,rfl⟩:=aA.mp l;exact⟨aA.mpr ⟨a,j a i,rfl⟩,o⟩
     have f:∀s∈p,at_ (drop r t) s=at_ h s:=λs hs=>by
      obtain⟨l,o⟩:=keys_drop.mp (q s hs);rw[SI o];obtain⟨a,i,rfl⟩:=aA.mp l;rw[at_mem k i,at_mem n (j a i)]
     refine⟨by simpa using B,bB.mpr ⟨λz=>(d t z).2 rfl,C⟩,λs hs=>?_,λy E=>?_⟩
     ·rcases ar.mp hs with rfl|hs
      ·exact g s av
      ·exact(d s hs).1
     ·by_cases e:y∈at_ h t
      ·exact⟨t,av,e⟩
      ·obtain⟨s,u,F⟩:=D y (pH.mpr ⟨E,e⟩);exact⟨s,al _ u,by rw[<- f s u];exact F⟩
    ·exact ih (drop r t) (λs hs=>g s (al _ hs)) (λa G=>j a (mem_drop.mp G).1) (nd_drop k) hc
  exact v _ h (λt g=>(mem_hold n).mp g |>.1) (λ_ h=>h) n hc
def cov_some:∀(m:Nat){h:Held α}{w:List α}{S:o_},(keys h).Nodup->Cov h w S->S.length<=m->∃c∈cov m h w,∀t∈c,t∈S
 |m,h,[],S,n,hS,hl=>⟨[],by unfold cov;simp,λ_ z=>(bL z).elim⟩
 | 0,h,x::w,S,n,hS,hl=>by
  obtain⟨t,a,_⟩:=hS.2 x av;have:S=[]:=cY.mp 'd';subst this;cases a
 | m+1,h,x::w,S,n,hS,hl=>by
  unfold cov;generalize u:minGo (λy=>(hold h y).length) w x=y;have G:y∈x::w:=by
   rcases minGo_mem (λy=>(hold h y).length) w x with e|e
   ·rw[<- u,e];exact av
   ·rw[<- u];exact al _ e
  obtain⟨s,v,H⟩:=hS.2 y G;have hs:=(mem_hold n).mpr ⟨hS.1 s v,H⟩;have I:∀(b:o_)(r:Held α),(∃t∈b,t∈S)->(∀d∈r,d∈h)->(keys r).Nodup->(∀t∈S,t∈keys r)->b.Nodup->∃c∈covL (cov m) h (x::w) b r,∀t∈c,t∈S:=by
   intro b
   induction b with
   |nil=>rintro r ⟨_,h,_⟩;cases h
   | cons t b ih=>
    intro r g A i f J;by_cases a:t∈S
    ·have K:Cov (drop r t) (left h (x::w) t) (S.filter λs=>decide (s≠t)):=by
      refine⟨λs hs=>?_,λz L=>?_⟩
      ·obtain⟨j,k⟩:=bo.mp hs;exact keys_drop.mpr ⟨f s j,by simpa using k⟩
      ·obtain⟨j,k⟩:=pH.mp L;obtain⟨l,B,C⟩:=hS.2 z j;have D:l≠t:=λe=>k (e▸C);refine⟨l,bo.mpr ⟨B,by simpa using D⟩,?_⟩;rw[SI D];obtain⟨d,E,rfl⟩:=aA.mp (f l B);rw[at_mem i E,<- at_mem n (A d E)];exact C
     have N:(S.filter λs=>decide (s≠t)).length<S.length:=by
      rcases ku (S.filter λs=>decide (s≠t)).length S.length with z|z
      ·exact z
      ·have e:=fY.eq_of_length (nV (bz _ _) z);rw[<- e] at a;have:=(bo.mp a).2;simp at this
     obtain⟨c,o,p⟩:=cov_some m (nd_drop i) K 'd';refine⟨t::c,ci _ (aA.mpr ⟨c,o,rfl⟩),λs hs=>?_⟩;rcases ar.mp hs with rfl|hs
     ·exact a
     ·exact(bo.mp (p s hs)).1
    ·obtain⟨M,q,F⟩:=g;have q:=(ar.mp q).resolve_left (λe=>a (e▸F));obtain⟨c,o,p⟩:=ih (drop r t) ⟨M,q,F⟩ (λd f=>A d (mem_drop.mp f).1) (nd_drop i) (λs hs=>keys_drop.mpr ⟨f s hs,λe=>a (e▸hs)⟩) (bB.mp J).2;exact⟨c,aC _ o,p⟩
  exact I _ h ⟨s,hs,v⟩ (λ_ h=>h) n hS.1 (hold_nd n y)
end
section
variable{α:Type}[DecidableEq α]
def drop_lt{r:Held α}{t:pU}(b:t∈keys r):(drop r t).length<r.length:=by
 obtain⟨a,h,rfl⟩:=aA.mp b;rcases ku (drop r a.1).length r.length with z|z
 ·exact z
 ·have e:drop r a.1=r:=fY.eq_of_length (nV (bz _ _) z);rw[<- e] at h;exact absurd rfl (mem_drop.mp h).2
theorem Tt(a:∀r w,(keys r).Nodup->(rec r w).length<=2 ^ r.length):∀(ts:o_)(r:Held α),(∀t∈ts,t∈keys r)->ts.Nodup->(keys r).Nodup->(covL rec h w ts r).length<=2 ^ r.length
 |[],r,_,_,_=>cw _
 | t::ts,r,hk,nt,nr=>by
  unfold covL;rw[az,aI];have d:=a (drop r t) (left h w t) (nd_drop nr);have f:=Tt (h:=h) (w:=w) a ts (drop r t) (λs b=>keys_drop.mpr ⟨hk s (al _ b),λe=>(bB.mp nt).1 (e▸b)⟩) (bB.mp nt).2 (nd_drop nr);have c:2 ^ ((drop r t).length+1)<=2 ^ r.length:=fO 'd' (drop_lt (hk t av));rw[Nat.pow_succ] at c;lia
theorem cov_pow:∀(m:Nat)(h:Held α)(w:List α),(keys h).Nodup->(cov m h w).length<=2 ^ h.length
 |m,h,[],_=>by unfold cov;exact mG
 |0,h,x::w,_=>by unfold cov;exact cw _
 | m+1,h,x::w,n=>by
  unfold cov;exact Tt (cov_pow m) _ h (λt a=>((mem_hold n).mp a).1) (hold_nd n _) n
theorem perm_of_sub:∀{c S:o_},c.Nodup->(∀t∈c,t∈S)->S.length<=c.length->c.Perm S
 | [],S,_,_,h=>by
  have:S=[]:=cY.mp (Nat.le_zero.mp h);rw[this]
 | a::c,S,n,hs,h=>by
  have b:=hs a av;have d:=bB.mp n;have:=perm_of_sub (S:=S.erase a) d.2 (λt f=>(List.mem_erase_of_ne (λe:t=a=>d.1 (e▸f))).mpr (hs t (al _ f))) (by
   rw[List.length_erase_of_mem b];rw[bt] at h;lia)
  exact(this.cons a).trans (List.perm_cons_erase b).symm
structure Lm(h:Held α)(w:List α)(m:Nat):Prop where
 nd:(keys h).Nodup
 ne:cov m h w≠[]
 no:∀j,j<m->cov j h w=[]
def Lm.le{h:Held α}{w:List α}{m:Nat}(z:Lm h w m){S:o_}(b:Cov h w S):m<=S.length:=by
 rcases ku S.length m with g|g
 ·obtain⟨c,a,_⟩:=cov_some S.length z.nd b (ay _);rw[z.no _ g] at a;cases a
 ·exact g
def Lm.len{h:Held α}{w:List α}{m:Nat}(z:Lm h w m){c:o_}(a:c∈cov m h w):c.length=m:=by obtain⟨d,_,b⟩:=cov_sound m z.nd a;have:=z.le b;lia
def Lm.all{h:Held α}{w:List α}{m:Nat}(z:Lm h w m){S:o_}(d:Cov h w S)(b:S.length=m):∃c∈cov m h w,c.Perm S:=by obtain⟨c,a,e⟩:=cov_some m z.nd d (ip b);exact⟨c,a,perm_of_sub (cov_sound m z.nd a).2.1 e (by rw[z.len a,b];exact ay _)⟩
end
end DLC
namespace DL
open PySem L2
def HA:List aq->Bool
 |[]=>JQ
 |x::l=>!(l.contains x)&&HA l
theorem v_:∀{l:List aq},HA l=JQ->l.Nodup
 |[],_=>iy
 | x::l,h=>by
  unfold HA at h;rw[be,gh] at h;refine bB.mpr ⟨λm=>?_,v_ h.2⟩;rw[b9.mpr m] at h;exact Bool.noConfusion h.1
noncomputable def KC:Option dD->Bool
 |some .local=>JQ
 |some .cell=>JQ
 |_=>JU
def zis(h:KC o=JQ):o=YP .local\/o=YP .cell:=by
 unfold KC at h;split at h
 ·exact .inl rfl
 ·exact .inr rfl
 ·cases h
def kNf:dD->Bool
 |.free=>JU
 |_=>JQ
def W3(N P:List aq)(sc:cu):Bool:=HA N&&(N.take P.length==P)&&P.all (λx=>KC (sc.names.lookup x))&&sc.names.all (λy=>kNf y.2)
def fnS(f:sc.kind=.function)(g:sc.isCoroutine=JU)(i:sc.isGenerator=JU)(h:W3 N P sc=JQ):tF N P sc:=by unfold W3 at h;simp only[be] at h;obtain⟨⟨⟨a,b⟩,c⟩,d⟩:=h;refine⟨f,g,i,v_ a,eq_of_beq b,λx j=>zis (aD.mp c x j),λy k e=>?_⟩;have:=aD.mp d y k;rw[e] at this;cases this
end DL
namespace DL
open PySem
noncomputable def pl:Nat->D->Bool
 |n,.non=>JQ
 |n,.int _=>JQ
 |n,.str cs=>cs.all (· < 1114112)
 |n+1,.lst ds=>ds.all (pl n)
 |n+1,.tup ds=>ds.all (pl n)
 |_,_=>JU
theorem Jm{α β:Type}{f:α->Option β}:∀{l:List α},(∀x∈l,∃y,f x=YP y)->∃m,qx f l=YP m
 |[],_=>⟨[],rfl⟩
 | x::l,h=>by
  obtain⟨y,a⟩:=h x av;obtain⟨m,b⟩:=Jm λz c=>h z (al _ c);exact⟨y::m,by unfold qx;rw[a,b]⟩
def IH(O:Ow):∀(n:Nat)(d:D),pl n d=JQ->∃p,rA O n d=YP p:=by
 intro n
 induction n with
 | zero=>
  intro d h;cases d with
  |non=>exact⟨_,rfl⟩
  |int i=>exact⟨_,rfl⟩
  | str cs=>
   refine⟨.str ⟨cs.toArray⟩,?_⟩;show zQ cs=_;unfold zQ;rw[JV (by simpa [pl] using h)]
  |_=>simp[pl] at h
 | succ n ih=>
  intro d h;cases d with
  |non=>exact⟨_,rfl⟩
  |int i=>exact⟨_,rfl⟩
  | str cs=>
   refine⟨.str ⟨cs.toArray⟩,?_⟩;show zQ cs=_;unfold zQ;rw[JV (by simpa [pl] using h)]
  | lst ds=>
   obtain⟨m,a⟩:=Jm λx b=>ih x (aD.mp h x b);exact⟨.list m,by show(qx (rA O n) ds).map fP=_;rw[a];rfl⟩
  | tup ds=>
   obtain⟨m,a⟩:=Jm λx b=>ih x (aD.mp h x b);exact⟨.tuple m,by show(qx (rA O n) ds).map ik=_;rw[a];rfl⟩
  |_=>simp[pl] at h
theorem Vl{f:D->Option ez}(R:∀x y p q,f x=YP p->f y=YP q->pl 0 x=pl 0 x->True){P:D->Prop}(e:∀x y p q,P x->P y->f x=YP p->f y=YP q->(bi p q=JQ↔x=y)):
  ∀(xs a:List D)(b c:List ez),(∀x∈xs,P x)->(∀y∈a,P y)->qx f xs=YP b->qx f a=YP c->(fF b c=JQ↔xs=a)
 |[],[],b,c,_,_,e1,e2=>by cases e1;cases e2;simp[fF]
 | [],y::a,b,c,_,_,e1,e2=>by
  cases e1;unfold qx at e2;split at e2
  ·cases e2;simp[fF]
  ·cases e2
 | x::xs,[],b,c,_,_,e1,e2=>by
  cases e2;unfold qx at e1;split at e1
  ·cases e1;simp[fF]
  ·cases e1
 | x::xs,y::a,b,c,h1,h2,e1,e2=>by
  unfold qx at e1 e2;split at e1
  ·rename_i p g i j;cases e1;split at e2
   ·rename_i q h k l;cases e2;have m:=e x y p q (h1 x av) (h2 y av) i k;have n:=Vl R e xs a g h (λz d=>h1 z (al _ d)) (λz d=>h2 z (al _ d)) j l;show(bi p q&&fF g h)=JQ↔_;rw[be,m,n,List.cons.injEq]
   ·cases e2
  ·cases e1
def Aa(h:zQ cs=YP p):p=.str ⟨cs.toArray⟩:=by
 unfold zQ at h;split at h
 ·cases h;rfl
 ·cases h
def R7(a b:pU):bi (.str ⟨a.toArray⟩) (.str ⟨b.toArray⟩)=JQ↔D.str a=D.str b:=by
 show((⟨a.toArray⟩:aq)==⟨b.toArray⟩)=JQ↔_;rw[beq_iff_eq];constructor
 ·intro h;have h:a.toArray=b.toArray:=by injection h
  rw[show a=b by simpa using congrArg mj h]
 ·intro h;injection h with h;rw[h]
def Rc(O:Ow):∀(n:Nat)(x y:D)(p q:ez),pl n x=JQ->pl n y=JQ->rA O n x=YP p->rA O n y=YP q->(bi p q=JQ↔x=y):=by
 intro n
 induction n with
 | zero=>
  intro x y p q v l m f;cases x with
  | non=>cases m;cases y with
   |non=>cases f;simp[bi]
   |int j=>cases f;simp[bi]
   |str b=>have:=Aa f;subst this;simp[bi]
   |_=>simp[pl] at l
  | int i=>cases m;cases y with
   |non=>cases f;simp[bi]
   |int j=>cases f;simp[bi]
   |str b=>have:=Aa f;subst this;simp[bi]
   |_=>simp[pl] at l
  | str a=>have:=Aa m;subst this;cases y with
   |non=>cases f;simp[bi]
   |int j=>cases f;simp[bi]
   |str b=>have:=Aa f;subst this;exact R7 a b
   |_=>simp[pl] at l
  |_=>simp[pl] at v
 | succ n ih=>
  have w:∀s k g r,(s.all (pl n))=JQ->(k.all (pl n))=JQ->qx (rA O n) s=YP g->qx (rA O n) k=YP r->(fF g r=JQ↔s=k):=λs k g r z A m f=>
   Vl (λ_ _ _ _ _ _ _=>trivial) (λx y p q a b c d=>ih x y p q a b c d) s k g r (aD.mp z) (aD.mp A) m f
  have t:∀{o:List D}{p},rA O (n+1) (.lst o)=YP p->∃g,qx (rA O n) o=YP g/\p=.list g:=λ{o p}e=>by
   have e:(qx (rA O n) o).map fP=YP p:=e;cases h:qx (rA O n) o with
   |none=>rw[h] at e;cases e
   |some g=>rw[h] at e;cases e;exact⟨g,rfl,rfl⟩
  have u:∀{o:List D}{p},rA O (n+1) (.tup o)=YP p->∃g,qx (rA O n) o=YP g/\p=.tuple g:=λ{o p}e=>by
   have e:(qx (rA O n) o).map ik=YP p:=e;cases h:qx (rA O n) o with
   |none=>rw[h] at e;cases e
   |some g=>rw[h] at e;cases e;exact⟨g,rfl,rfl⟩
  intro x y p q v l m f;cases x with
  | non=>cases m;cases y with
   |non=>cases f;simp[bi]
   |int j=>cases f;simp[bi]
   |str b=>have:=Aa f;subst this;simp[bi]
   |lst k=>obtain⟨_,_,rfl⟩:=t f;simp[bi]
   |tup k=>obtain⟨_,_,rfl⟩:=u f;simp[bi]
   |_=>simp[pl] at l
  | int i=>cases m;cases y with
   |non=>cases f;simp[bi]
   |int j=>cases f;simp[bi]
   |str b=>have:=Aa f;subst this;simp[bi]
   |lst k=>obtain⟨_,_,rfl⟩:=t f;simp[bi]
   |tup k=>obtain⟨_,_,rfl⟩:=u f;simp[bi]
   |_=>simp[pl] at l
  | str a=>have:=Aa m;subst this;cases y with
   |non=>cases f;simp[bi]
   |int j=>cases f;simp[bi]
   |str b=>have:=Aa f;subst this;exact R7 a b
   |lst k=>obtain⟨_,_,rfl⟩:=t f;simp[bi]
   |tup k=>obtain⟨_,_,rfl⟩:=u f;simp[bi]
   |_=>simp[pl] at l
  | lst s=>obtain⟨g,z,rfl⟩:=t m;cases y with
   |non=>cases f;simp[bi]
   |int j=>cases f;simp[bi]
   |str b=>have:=Aa f;subst this;simp[bi]
   | lst k=>
    obtain⟨r,A,rfl⟩:=t f;show fF g r=JQ↔_;rw[w s k g r v l z A,D.lst.injEq]
   |tup k=>obtain⟨_,_,rfl⟩:=u f;simp[bi]
   |_=>simp[pl] at l
  | tup s=>obtain⟨g,z,rfl⟩:=u m;cases y with
   |non=>cases f;simp[bi]
   |int j=>cases f;simp[bi]
   |str b=>have:=Aa f;subst this;simp[bi]
   |lst k=>obtain⟨_,_,rfl⟩:=t f;simp[bi]
   | tup k=>
    obtain⟨r,A,rfl⟩:=u f;show fF g r=JQ↔_;rw[w s k g r v l z A,D.tup.injEq]
   |_=>simp[pl] at l
  |_=>simp[pl] at v
def Yp(O:Ow)(a:pl 8 x=JQ)(c:pl 8 y=JQ)(f:b=JQ↔x=y):qd sv O x y=.ok (.bl b) O/\qd rM O x y=.ok (.bl !b) O:=by obtain⟨p,d⟩:=IH O 8 x a;obtain⟨q,e⟩:=IH O 8 y c;have h:=Rc O 8 x y p q a c d e;have:=eM.mpr (h.trans f.symm);unfold qd py;rw[d,e];subst this;exact⟨rfl,rfl⟩
theorem T4(b:pl n x=JQ)(c:rA O n x=YP p):∀(l:List D)(a:List ez),(l.all (pl n))=JQ->qx (rA O n) l=YP a->((a.any λy=>bi y p)=JQ↔x∈l)
 |[],a,_,e=>by cases e;simp
 | y::l,a,h,e=>by
  unfold qx at e;split at e
  ·rename_i q d f g;cases e;rw[lV,be] at h;rw[gO,nO,Rc O n y x q p h.1 b f c,T4 b c l d h.2 g,ar];exact⟨λz=>z.imp Eq.symm id,λz=>z.imp Eq.symm id⟩
  ·cases e
def zcu(O:Ow):∀(n:Nat)(d:D)(p:ez),pl n d=JQ->rA O n d=YP p->rA O (n+1) d=YP p:=by
 intro n
 induction n with
 |zero=>intro d p h e;cases d<;>first|exact e|(simp[pl] at h)
 | succ n ih=>
  have f:∀(a:List D)b,(a.all (pl n))=JQ->qx (rA O n) a=YP b->qx (rA O (n+1)) a=YP b:=by
   intro a
   induction a with
   |nil=>intro b _ e;exact e
   | cons x a ihd=>
    intro b h e;rw[lV,be] at h;unfold qx at e ⊢;split at e
    ·rename_i q g j k;rw[ih x q h.1 j,ihd g h.2 k];exact e
    ·cases e
  intro d p h e;cases d with
  | lst a=>
   have e:(qx (rA O n) a).map fP=YP p:=e;show(qx (rA O (n+1)) a).map fP=YP p;cases c:qx (rA O n) a with
   |none=>rw[c] at e;cases e
   |some b=>rw[c] at e;rw[f a b h c];exact e
  | tup a=>
   have e:(qx (rA O n) a).map ik=YP p:=e;show(qx (rA O (n+1)) a).map ik=YP p;cases c:qx (rA O n) a with
   |none=>rw[c] at e;cases e
   |some b=>rw[c] at e;rw[f a b h c];exact e
  |non=>exact e
  |int i=>exact e
  |str cs=>exact e
  |_=>simp[pl] at h
def Ys(O:Ow){x y:D}{l:List D}(j:pl 7 x=JQ)(n:l.all (pl 7)=JQ)(a:tL O y=YP l\/y=.tup l){b:Bool}(q:b=JQ↔x∈l):xu O x y=.ok (.bl b) O/\zT O x y=.ok (.bl !b) O:=by
 obtain⟨p,o⟩:=IH O 7 x j;obtain⟨m,d⟩:=Jm λz r=>IH O 7 z (aD.mp n z r);have h:=T4 j o l m n d;have e:=eM.mpr (h.trans q.symm);have f:py O x=YP p:=zcu O 7 x p j o;rcases a with a|rfl
 ·have c:py O y=YP (.list m):=by
   cases y with
   |lst ds=>cases a;show(qx (rA O 7) l).map fP=_;rw[d];rfl
   | own k=>
    have a:O[k]?=YP l:=a;show(match O[k]? with|some ds=>(qx (rA O 7) ds).map fP|none=>JL)=_;rw[a];dsimp only;rw[d];rfl
   |_=>cases a
  have g:qd BL O x y=.ok (.bl b) O:=by unfold qd;rw[f,c];subst e;rfl
  have i:qd Dz O x y=.ok (.bl !b) O:=by unfold qd;rw[f,c];subst e;rfl
  cases y with
  |lst ds=>exact⟨g,i⟩
  |own k=>exact⟨g,i⟩
  |_=>cases a
 ·have c:py O (.tup l)=YP (.tuple m):=by show(qx (rA O 7) l).map ik=_;rw[d];rfl
  have g:qd BL O x (.tup l)=.ok (.bl b) O:=by unfold qd;rw[f,c];subst e;rfl
  have i:qd Dz O x (.tup l)=.ok (.bl !b) O:=by unfold qd;rw[f,c];subst e;rfl
  exact⟨g,i⟩
def LG(c:t σ O=.ok (.bl a) O)(d:a=JQ->u σ O=.ok (.bl b) O):Bi t u σ O=.ok (.bl (a&&b)) O:=by
 show((t σ O).bnd _)=_;rw[c];cases a with
 |true=>exact d rfl
 |false=>rfl
def zgM(b:t σ O=.ok (.bl a) O1):Ds t σ O=.ok (.bl (!a)) O1:=by show((t σ O).bnd _)=_;rw[b];rfl
def Te(c:t σ O=.ok a O)(d:a=JQ->u σ O=.ok b O):DD t u σ O=.ok (a&&b) O:=by
 show((t σ O).bnd _)=_;rw[c];cases a with
 |true=>exact d rfl
 |false=>rfl
def LH(c:t σ O=.ok a O)(d:a=JU->u σ O=.ok b O):xD t u σ O=.ok (a||b) O:=by
 show((t σ O).bnd _)=_;rw[c];cases a with
 |false=>exact d rfl
 |true=>rfl
def Lg(O:Ow)(a:x.all (pl 7)=JQ)(c:y.all (pl 7)=JQ)(d:b=JQ↔x=y):qd sv O (.lst x) (.lst y)=.ok (.bl b) O/\qd rM O (.lst x) (.lst y)=.ok (.bl !b) O:=
 Yp O (x:=.lst x) (y:=.lst y) a c (d.trans (by rw[D.lst.injEq]))
def zhP(n:Nat)(l:pU):(l.map λ(p:Nat)=>D.int (p:Int)).all (pl n)=JQ:=aD.mpr λd a=>by
 obtain⟨p,_,rfl⟩:=aA.mp a;cases n<;>rfl
section
variable{σ:Sg}{O O1 O2:Ow}{t u:DE}{d a:DS}{x y:D}{r:RS}{i:Nat}{c:DT}{tA:DA}{ds:List D}
def rR(h:t σ O=.ok x O1)(b:d (σ.set i (YP x)) O1=r):pV (qo i t) d σ O=r:=by rw[Fp (IG h)];exact b
def yD(h:a σ O=.nx σ' O1)(b:d σ' O1=r):pV a d σ O=r:=by rw[Fp h];exact b
def Lr(h:t σ O=.ok x O1)(b:d σ O1=r):pV (yX t) d σ O=r:=by rw[Fp (S7 h)];exact b
def vi(h:c σ O=.ok JU O1)(b:d σ O1=r):pV (rL c a' rF) d σ O=r:=by rw[Fp (by rw[xF h];rfl)];exact b
def x_(h:c σ O=.ok JQ O1)(b:a' σ O1=.rt x O2):pV (rL c a' e) d σ O=.rt x O2:=RW (by rw[xF h,JV rfl];exact b)
def uK(h:d σ O=.rt x O1):fin (d σ O)=.ok x O1:=by rw[h];rfl
def vF(h:t σ O=.ok x O1):fin (qr t σ O)=.ok x O1:=by rw[uJ h];rfl
def qi(b:t σ O=.ok x O1)(e:u σ O1=.ok y O2)(g:f O2 x y=z):h_ f t u σ O=z:=by rw[Il b e];exact g
def sD(b:tA σ O=.ok ds O1)(e:f O1 ds=z):pW f tA σ O=z:=by rw[IY b];exact e
def qy(b:tA σ O=.ok ds O1)(e:F ds O1=z)(f:ds.length=n:=by rfl):k_ n F tA σ O=z:=by rw[K_ b f];exact e
end
end DL
set_option maxHeartbeats 400000
namespace K11
open PySem L2 DL
abbrev rz(x:Int):Option D:=YP (.int x)
abbrev q_(x:List D):Option D:=YP (.tup x)
abbrev rq(x:List D):Option D:=YP (.lst x)
abbrev su(x:pU):Option D:=YP (.str x)
abbrev uz(x:Nat):Option D:=YP (.own x)
def top(i:Nat):dh:=cQ.main.body.getD i (.Pass ⟨0,0,0,0⟩)
def BE:List (Int×Int):=[(2,1),(4,2),(8,3),(16,4)]
noncomputable def Ca:Nat->Nat:=λc=>match c with
 |_=>37
def Cl:Nat->ae:=λc=>.ref (Ca c)
structure Txt(K:ak)(mg:aq->Option ae):Prop where
 w0:qL K mg "is_whole" (top 12)
 w1:qL K mg "is_whole_within" (top 13)
 w2:qL K mg "is_rising" (top 14)
 w3:qL K mg "is_answer" (top 17)
 w4:qL K mg "is_function" (top 18)
 w5:qL K mg "need_function" (top 19)
 w6:qL K mg "switches_of" (top 20)
 w7:qL K mg "points_with" (top 21)
 w8:qL K mg "has_term_signs" (top 24)
 w9:qL K mg "has_rising_terms" (top 25)
 wa:qL K mg "all_terms" (top 26)
 wb:qL K mg "bits_of" (top 27)
 wc:qL K mg "points_of" (top 28)
 wd:qL K mg "with_sign" (top 29)
 we:qL K mg "signs_in" (top 30)
 wf:qL K mg "terms_holding" (top 31)
 wg:qL K mg "holds_no_nought" (top 33)
 wh:qL K mg "holds_a_one" (top 34)
 wi:qL K mg "good_terms" (top 35)
 wj:qL K mg "can_widen_at" (top 36)
 wk:qL K mg "is_widest" (top 37)
 wl:qL K mg "greatest" (top 38)
 wm:qL K mg "is_form" (top 40)
 wn:qL K mg "signs_of" (top 41)
 wo:qL K mg "holders_in" (top 42)
 wp:qL K mg "covers" (top 43)
 wq:qL K mg "least_covers" (top 44)
 wr:qL K mg "held_points" (top 45)
 ws:qL K mg "least_forms" (top 46)
 wt:qL K mg "least_form" (top 47)
 wu:qL K mg "_law_cell_at" (top 49)
 wv:qL K mg "_law_state" (top 50)
 ww:qL K mg "_law_take" (top 51)
 wx:qL K mg "_law_term" (top 52)
 wy:qL K mg "_law_bits" (top 53)
 wz:qL K mg "_law_points" (top 54)
 wA:qL K mg "_law_function" (top 55)
 wB:qL K mg "_law_good" (top 56)
 wC:qL K mg "_law_ones" (top 57)
 wD:qL K mg "_law_switches" (top 58)
 wE:qL K mg "_law_is_form" (top 59)
 wF:qL K mg "_law_terms" (top 60)
 wG:qL K mg "_law_greatest" (top 61)
 wH:qL K mg "_law_signs" (top 62)
 wI:qL K mg "_law_same" (top 63)
 wJ:qL K mg "_law_refused" (top 64)
 wK:qL K mg "_law_bent" (top 65)
 wL:qL K mg "law" (top 66)
 wM:mg "ValueError" = JL
 wN:mg "all" = JL
 wO:mg "any" = JL
 wP:mg "bool" = JL
 wQ:mg "dict" = JL
 wR:mg "enumerate" = JL
 wS:mg "int" = JL
 wT:mg "isinstance" = JL
 wU:mg "len" = JL
 wV:mg "list" = JL
 wW:mg "max" = JL
 wX:mg "min" = JL
 wY:mg "range" = JL
 wZ:mg "set" = JL
 w01:mg "sorted" = JL
 w11:mg "str" = JL
 w21:mg "sum" = JL
 w31:mg "tuple" = JL
 w41:mg "zip" = JL
 w51:KE mg "SIGNS" [45,48,49]
 w61:B1 K mg "SWITCHES_BY_POINTS" BE
 w71:mg "NoFunction" = YP (.ref 37)
 w81:mg "NoTerm" = YP (.ref 49)
 w91:mg "NoPoint" = YP (.ref 61)
 wa1:mg "NoNumber" = YP (.ref 73)
 wb1:mg "NoForm" = YP (.ref 85)
 wc1:mg "NoChange" = YP (.ref 97)
 wd1:mg "NoText" = YP (.ref 109)
 we1:mg "NoLine" = YP (.ref 121)
 wf1:mg "NoDeed" = YP (.ref 133)
 wg1:mg "TermError" = YP (.ref 24)
 wh1:aW K (.type "NoneType") (.ref 37)=YP JU
 wi1:aW K (.type "NoneType") (.ref 49)=YP JU
 wj1:aW K (.type "NoneType") (.ref 61)=YP JU
 wk1:aW K (.type "NoneType") (.ref 73)=YP JU
 wl1:aW K (.type "NoneType") (.ref 85)=YP JU
 wm1:aW K (.type "NoneType") (.ref 97)=YP JU
 wn1:aW K (.type "NoneType") (.ref 109)=YP JU
 wo1:aW K (.type "NoneType") (.ref 121)=YP JU
 wp1:aW K (.type "NoneType") (.ref 133)=YP JU
 wq1:aW K (.type "NoneType") (.type "ValueError")=YP JU
 wr1:eZ K (.ref 37) (.ref 24)=YP JQ
 ws1:aW K (.ref 37) (.ref 37)=YP JQ
 wt1:aW K (.ref 37) (.ref 49)=YP JU
 wu1:aW K (.ref 37) (.ref 61)=YP JU
 wv1:aW K (.ref 37) (.ref 73)=YP JU
 ww1:aW K (.ref 37) (.ref 85)=YP JU
 wx1:aW K (.ref 37) (.ref 97)=YP JU
 wy1:aW K (.ref 37) (.ref 109)=YP JU
 wz1:aW K (.ref 37) (.ref 121)=YP JU
 wA1:aW K (.ref 37) (.ref 133)=YP JU
 wB1:aW K (.ref 37) (.type "ValueError")=YP JQ
 wC1:A9 K 37
class CI (F:qh) (x:outParam aq) (k n:outParam Nat):Prop where
 out:∀{P:aK}{w:aT}{K:ak}{mg:aq->Option ae}{base:aS},Txt K mg->Callee P w K mg base x k n F
structure HV(mg:aq->Option ae)(base:aS):Prop where
 z00:KL mg base "NoFunction" 37
def vV(b:Bool):Nat->Option Bool:=λC=>if C=37 then YP b else JL
def kf{K:ak}{v:ae}{b:Bool}(h:aW K (.ref 37) v=YP b):∀C a,vV b C=YP a->aW K (.ref C) v=YP a:=λC a e=>by
 unfold vV at e;split at e
 ·subst C;cases e;exact h
 ·cases e
def XN{K:ak}{a:aq->Option ae}(T:Txt K a):∀c,Cl c=.ref (Ca c)/\A9 K (Ca c)/\eZ K (.ref (Ca c)) (.ref 24)=YP JQ:=by intro c;refine⟨rfl,?_⟩;unfold Ca;exact⟨T.wC1,T.wr1⟩
section
variable{P:aK}{w:aT}{K:ak}{mg:aq->Option ae}{base:aS}
def us0{C:List ae->Prop}(h:C []):∀a,a.length=0->C a
 |[],_=>h
def us1{C:List ae->Prop}(h:∀a,C [a]):∀b,b.length=1->C b
 |[a],_=>h a
def us2{C:List ae->Prop}(h:∀a b,C [a,b]):∀c,c.length=2->C c
 |[a,b],_=>h a b
def us3{C:List ae->Prop}(h:∀a b c,C [a,b,c]):∀d,d.length=3->C d
 |[a,b,c],_=>h a b c
set_option hygiene false
local macro_rules|`(tactic| exists $t)=>`(tactic| with_reducible show PD _ _ _ $t)
local macro_rules|`(tactic| exists $x,2)=>`(tactic| exact zey $x _ rfl (Ik (by kernel_rfl)) (by walk_at "i") (by walk_at "q4"))
local macro_rules|`(tactic| exists $x,3)=>`(tactic| exact zcG $x rfl (Ik (by kernel_rfl)) (by walk_at "i") (by walk_at "q5"))
local macro_rules|`(tactic| exists $x,4)=>`(tactic| exact z6Y $x _ rfl (v_ (by kernel_rfl)) rfl rfl (Ik (by kernel_rfl)) (by walk_at "i") (by walk_at "q4") rfl)
local macro_rules|`(tactic| exists $x,6)=>`(tactic| exact z8F $x _ rfl (v_ (by kernel_rfl)) rfl rfl (Ik (by kernel_rfl)) (by walk_at "i") (by walk_at "q4") rfl)
local macro_rules|`(tactic| exists $f,$a,$b,$c,$d)=>`(tactic| (with_reducible show PD _ _ _ (pW $f _));refine zef $a $b rfl $c $d ?_<;>walk_at "a")
local macro_rules|`(tactic| exists $f,$a,$b)=>`(tactic| (with_reducible show PD _ _ _ (h_ $f _ _));refine K5 $a $b ?_ ?_<;>walk_at "e")
local macro_rules|`(tactic| exists $f,$a,$b,0)=>`(tactic| (with_reducible show PD _ _ _ (h_ $f _ _));exact Lp $a $b '2' '2' (Cf _))
local macro_rules|`(tactic| exists $t,0)=>`(tactic| with_reducible show rY _ _ _ $t)
local macro_rules|`(tactic| exists $t,1)=>`(tactic| with_reducible show vd _ _ _ $t)
local macro_rules|`(tactic| walk_at "q4")=>`(tactic| exact λ_ _ _ _ _=>⟨by walk_at "g",by walk_at "fs",by walk_at "cs",'2'⟩)
local macro_rules|`(tactic| walk_at "q5")=>`(tactic| exact λ_ _ _ _ _=>⟨by walk_at "g",by walk_at "fs",by walk_at "cs",'2','2'⟩)
local macro_rules|`(tactic| exists $v,$g,$n,$k,0,0)=>`(tactic| (with_reducible show PD _ _ _ (v7 (vV $v) _));exact zhF (f:=vV $v) '2' rfl T.wT BG rfl $g $n (kf $k))
local macro_rules|`(tactic| walk_at "u")=>`(tactic| intro _ _ _ _ _ _;first|exact us1 λ_=>rfl|exact us2 λ_ _=>rfl|exact us3 λ_ _ _=>rfl|exact us0 rfl)
local macro_rules|`(tactic| walk_at "z")=>`(tactic| exact fnS rfl rfl rfl (by kernel_rfl))
section
local macro_rules|`(tactic| walk_at "v")=>`(tactic| first|exact .inl rfl|exact .inr (.inl rfl)|exact .inr (.inr rfl))
local macro_rules|`(tactic| walk_at "l")=>`(tactic| first|exact .inl rfl|exact .inr rfl)
local macro_rules|`(tactic| walk_at "le")=>`(tactic| first|decide|exact ay _|lia)
local macro_rules|`(tactic| walk_at "fx")=>`(tactic| first|refine RB h hr '3' rfl ?_<;>walk_at "a")
local macro_rules|`(tactic| walk_at "f")=>`(tactic| first|exact RB (CI.out T) hr '3' rfl '5'|((exists (k_ _ _ _));have h:=c_self;walk_at "fx"))
local macro_rules|`(tactic| walk_at "k")=>`(tactic| first|exact Rz|exact Rh _ rfl|exact QG|exact Px)
local macro_rules|`(tactic| walk_at "n")=>`(tactic| first|exact SO T.w51)
local macro_rules|`(tactic| walk_at "o")=>`(tactic| first|((exists (h_ r8 _ _));refine QZ ?_ ?_<;>walk_at "e")|((exists (h_ rn _ _));exact P_ '2' '2' (λ_ _=>rfl))|((exists (h_ tJ _ _));refine SX ?_ ?_<;>walk_at "e")|exists (fI Bc),ZX,zim|exists (fI yq),YN,ziC|exists (fI Ap),zhS,zic|exists (fI xX),ZS,zhz|exists (fI B4),zjF,zh4|exists (fI zP),ZH,zhx|exists yV,zhE,ze3|exists Df,KY,Lf,0|exists G_,Qs,QW,0|exists (qd sv),(RJ hr.units),Bt,0|exists (qd rM),(IV hr.units),Bt,0|((exists (h_ xu _ _));exact Lp (QN hr.units) RE '2' '2' rfl)|((exists (h_ zT _ _));exact Lp (R5 hr.units) RP '2' '2' rfl)|exists Ku,ZL,zhA,0|exists EJ,zj1,zhO,0|((exists (DV true BE _));refine zbe T.w61 rfl ?_<;>walk_at "e")|((exists (Lc G9 G9 _ _ _));refine zdT PU QL PU QL ?_ ?_ ?_<;>walk_at "e"))
local macro_rules|`(tactic| walk_at "c")=>`(tactic| first|exists rQ,Tc,Rq,T.wU,QJ|exists xW,(Uz rfl),RI,T.wN,Rj|exists Dt,(zd6 rfl),zjC,T.wO,Z5|exists ES,(zbL rfl),Zz,T.w21,Zy|exists EZ,(zdm rfl),zhs,T.wX,Lj|((exists (pW B8 _));refine FD zc5 zhM rfl T.wS Ry ?_<;>walk_at "a")|((exists (pW vj _));refine FD VM TX rfl T.w31 Jd ?_<;>walk_at "a")|((exists (pW Ii _));refine FD z6T ziD rfl T.w11 Ri ?_<;>walk_at "a")|((exists (pW (B_ _) _));refine FD z7h (zhd _) rfl T.wV Lu ?_<;>walk_at "a")|((exists (tY "bool" _));exact E9 '2' (by decide) rfl T.wT BG rfl T.wP zhw)|((exists (tY "int" _));exact E9 '2' (by decide) rfl T.wT BG rfl T.wS Ry)|((exists (tY "list" _));exact E9 '2' (by decide) rfl T.wT BG rfl T.wV Lu)|((exists (tY "str" _));exact E9 '2' (by decide) rfl T.wT BG rfl T.w11 Ri)|((exists (tY "tuple" _));exact E9 '2' (by decide) rfl T.wT BG rfl T.w31 Jd)|((exists (KZ "tuple" "list" _));exact zgz '2' (by decide) (by decide) rfl T.wT BG rfl T.w31 Jd rfl T.wV Lu)|((exists (Ay _ _));refine SW _ rfl rfl T.w01 FE rfl T.wZ Ro ?_<;>walk_at "a")|((exists (uq _ _ _ (Fx _) _));refine DU (zdc T hT L) hr '3' rfl ?_<;>walk_at "a")|((exists (uq _ _ _ (Jv _) _));refine DU (z4M T hT L) hr '3' rfl ?_<;>walk_at "a")|((exists (uq _ _ _ (JC _) _));refine DU (z5B T hT L) hr '3' rfl ?_<;>walk_at "a")|((exists (uq _ _ _ (Ee _) _));refine DU (VL T hT L) hr '3' rfl ?_<;>walk_at "a")|((exists (uq _ _ _ F _));refine DU c_self hr '3' rfl ?_<;>walk_at "a")|((exists (uq _ _ _ _ _));refine DU c_self hr '3' rfl ?_<;>walk_at "a")|((exists (DH _ _ _ _));exact zed (k:=2) (hr.mono (by lia)) rfl L rfl (by kernel_rfl) rfl (λ_ _ _ _ _ _ _=>rfl) (v_ (by kernel_rfl)) '2' (λq lam cd cl A outer s H hr=>'2') rfl T.wX)|exists EV,zbt,zi1,T.w01,FE|exists yW,UQ,So,T.w01,FE)
local macro_rules|`(tactic| walk_at "pk")=>`(tactic| first|exact QV|exact Qy|exact Ll)
local macro_rules|`(tactic| walk_at "pp")=>`(tactic| first|exact zek (by walk_at "pk") (by walk_at "pk") (by walk_at "pp")|exact zhT)
local macro_rules|`(tactic| walk_at "so")=>`(tactic| first|((with_reducible show Am _ _ _ tI);exact ze8)|refine Tq ?_<;>walk_at "e")
local macro_rules|`(tactic| walk_at "m")=>`(tactic| first|((exists (BX _ _));exact zbf '2' '5')|((exists (HR _ _));exact zbY '2' '5')|((exists (K0 _ _ _));refine zhB _ _ rfl rfl rfl (fy rfl) ?_<;>walk_at "e")|((exists (DJ _ _));exact zgp '2' '2' (λ_ _=>rfl))|((exists (Cg _ _ _ _ _ _ _));first|exists x0,3|exists x1,3|exists x2,3)|((exists (HY _ _));exact zht '2' '5')|((exists (Hj Io _ _));exact Qq PySem.F.slot_str_strip PySem.F.type_str_strip zdM zeJ '2' '5')|((exists (Hj KJ _ _));exact Qq PySem.F.slot_str_count PySem.F.type_str_count zf6 Zp '2' '5')|((exists (EG _ _ _));exact Yn '2' (by walk_at "so") (by walk_at "so"))|((exists (vf _ _ _));exact ZR '2' (by walk_at "so") (by walk_at "so"))|((exists (HZ _ _));exact zhj '2' (by walk_at "so"))|((exists (Ky BE _));exact zif T.w61 rfl '2' (λ_ _=>rfl))|((exists (KI _ _));exact ZC _ (by walk_at "pp") rfl rfl rfl (List.cons_ne_nil _ _) (fy rfl) (fy rfl) (Yh hr) '2' (λ_ _=>rfl)))
local macro_rules|`(tactic| walk_at "e1")=>`(tactic| first|((exists (qC _));refine Q9 rfl ?_<;>walk_at "v")|((exists (dC _));first|walk_at "k"|walk_at "n")|((exists (h_ _ _ _));walk_at "o")|((exists (k_ _ _ _));walk_at "f")|((exists (sH _));refine QO ?_<;>walk_at "a")|((exists (uE _));refine Qw ?_<;>walk_at "a")|((exists (qp _ _ _ _ _ _ _));first|exists x0,2|exists x1,2|exists x2,2)|((exists (pW _ _));walk_at "c")|((exists (Bn _));refine zil ?_<;>walk_at "a")|((exists (Bi _ _));refine ZF ?_ ?_<;>walk_at "e")|((exists (Kl _ _));refine PV ?_ ?_<;>walk_at "e")|((exists (Ds _));refine Rk ?_<;>walk_at "e")|((exists (HU _));refine Zi ?_<;>walk_at "e")|((exists HI);exact Zo)|walk_at "c"|walk_at "m"|walk_at "o")
local macro_rules|`(tactic| walk_at "e")=>`(tactic| first|(show PD _ _ (.BoolOp _ [_] _) _;refine QX ?_<;>walk_at "e1")|walk_at "e1")
local macro_rules|`(tactic| walk_at "a")=>`(tactic| first|((with_reducible show tM _ _ _ d_);exact Sh)|exact Th '2' '5')
local macro_rules|`(tactic| walk_at "t")=>`(tactic| first|((exists (qt (h_ Df _ _)),0);exact Bx KY Lf '2' '2' (Cf _))|((exists (qt (h_ G_ _ _)),0);exact Bx Qs QW '2' '2' (Cf _))|((with_reducible show rY _ _ _ (qt (h_ (qd sv) _ _)));exact Bx (RJ hr.units) Bt '2' '2' (Cf _))|((with_reducible show rY _ _ _ (qt (h_ (qd rM) _ _)));exact Bx (IV hr.units) Bt '2' '2' (Cf _))|((exists (qt (h_ xu _ _)),0);exact Bx (QN hr.units) RE '2' '2' rfl)|((exists (qt (h_ zT _ _)),0);exact Bx (R5 hr.units) RP '2' '2' rfl)|((exists (qt (DV true BE _)),0);refine zan T.w61 rfl ?_<;>walk_at "e")|(show rY _ _ (.BoolOp _ _ _) _;refine vt.pt ?_<;>walk_at "w")|((with_reducible show rY _ _ _ (tO _));refine Sm ?_<;>walk_at "t")|((with_reducible show rY _ _ _ (rK _));exact Sl '2' (λ_=>rfl)))
local macro_rules|`(tactic| walk_at "w")=>`(tactic| first|(show vt _ _ (.BoolOp .And [_] _) _;refine Us ?_<;>walk_at "t")|(show vt _ _ (.BoolOp .Or [_] _) _;refine R8 ?_<;>walk_at "t")|((with_reducible show vt _ _ _ (DD _ _));exact zii '8' (by walk_at "w"))|((with_reducible show vt _ _ _ (xD _ _));exact RA '8' (by walk_at "w")))
local macro_rules|`(tactic| walk_at "i")=>`(tactic| first|((with_reducible show ui _ _ _ _ (tD _));refine Vz rfl T.wY ?_<;>walk_at "a")|((with_reducible show ui _ _ _ _ (E3 _));refine zeK rfl T.w41 ?_<;>walk_at "a")|((with_reducible show ui _ _ _ _ (Ir _));refine zaX rfl T.wR ?_<;>walk_at "a")|((with_reducible show ui _ _ _ _ (HJ _));refine zee ?_<;>walk_at "e")|refine RT ?_<;>walk_at "e")
local macro_rules|`(tactic| walk_at "g")=>`(tactic| first|(show PG _ (.Name _ _) _;refine QH (v_ (by kernel_rfl)) rfl ?_ ?_<;>walk_at "l")|(show PG _ (.Tuple [_,_] _ _) _;refine Q0 rfl (v_ (by kernel_rfl)) rfl rfl ?_ ?_ ?_ ?_<;>walk_at "l"))
local macro_rules|`(tactic| walk_at "fs")=>`(tactic| first|exact .nil|exact .cons '8' (by walk_at "fs"))
local macro_rules|`(tactic| walk_at "cs")=>`(tactic| first|exact .nil|(refine o5.cons ?_ (λ_=>rfl) ?_ ?_ ?_;(dsimp only;walk_at "i");(dsimp only;walk_at "g");(dsimp only;walk_at "fs");walk_at "cs"))
local macro_rules|`(tactic| walk_at "s")=>`(tactic| first|((exists (qr _),1);refine Si ?_<;>walk_at "e")|((exists (rL _ _ _),1);exact Qz '8' '7' '7')|(show vd _ _ (.Assign [.Name _ _] (.ListComp _ _ _ _) _) _;first|exists x0,4|exists x1,4|exists x2,4|exact IU (v_ (by kernel_rfl)) rfl (by walk_at "l") '2')|((exists (qo _ _),1);exact IU (v_ (by kernel_rfl)) rfl (by walk_at "l") '2')|((exists (vg _ _ _),1);exact Sy kJ rfl (by walk_at "i") (by walk_at "g") '7')|((exists (yX _),1);refine Uh ?_<;>walk_at "e")|((exists (Dq _ _ _),1);refine zhW ?_ ?_ ?_<;>walk_at "e")|((exists (HH _ _),1);exact zhR (v_ (by kernel_rfl)) rfl (by walk_at "l") '2')|((exists (Lq _ _ _),1);exact zbC _ kJ '8' '7')|((exists rF,1);exact TQ))
local macro_rules|`(tactic| walk_at "sl")=>`(tactic| first|first|exists x0,6|exists x1,6|exists x2,6)
local macro_rules|`(tactic| walk_at "rs")=>`(tactic| first|(refine zdp kJ rfl (λte he=>Lk (v_ (by kernel_rfl)) rfl ?_ (Mo zal rfl T.wQ zhN (yb he Br))) ?_ ?_ ?_ (Fb rfl ?_) (Fb rfl ?_) ?_ ?_ rfl ?_ (by decide) (by decide) (fy rfl) (fy rfl);(walk_at "l");(walk_at "e");(walk_at "i");(walk_at "g");(walk_at "v");(walk_at "v");(walk_at "sl");(walk_at "e");(walk_at "ss")))
local macro_rules|`(tactic| walk_at "ss")=>`(tactic| first|((with_reducible show sQ _ _ _ (E4 _ _ _ _ _ _ _ _));walk_at "rs")|((with_reducible show sQ _ _ _ rF);exact S6)|((with_reducible show sQ _ _ _ ET);exact Mc)|((with_reducible show sQ _ _ _ (pV _ _));exact qF '1' '7')|refine qW ?_<;>walk_at "s")
def rJ{x:aq}{st:dh}{t:DS}(k:Nat)(N:List aq)(j:Nat)(h:qL K mg x st)(p_:∀{f:af}{l_:ae}{A:aU}{outer:List Env}{s:ah}{H:Hp}{E:XK},oP k (A.deeper (a9 x (qz st) s.heap.objs.size f l_))->sQ (EH P w K mg base N x (qz st) f l_ A outer s H E) qN (tP st) t)(S:tF N (N.take j) (qz st):=by walk_at "z")(hb:∀(kV doc pm:ae)(an:Option af)(l_ ct:ae)(us:List ae),us.length=(N.take j).length->bindArgs (br x x (vS st) (tP st) (qz st) .none kV doc pm an l_ ct) ⟨us,[]⟩=pure ((N.take j).zip us):=by walk_at "u"):Callee P w K mg base x (k+1) (N.take j).length (qT N.length t):=OG h S hb λ_ _ _ _ _ _ _ hr=>p_ hr
abbrev j_:=qC 0
def VA:DS:=(qr (Bi (tY "int" j_) (Ds (tY "bool" j_))))
def Vw:qh:=(qT 1 VA)
instance:CI Vw "is_whole" 1 1:=⟨λT=>
 Callee.self (rJ 0 ["thing"] 1 T.w0 λhr=>
  ((qW (by delta VA;walk_at "s"))))⟩
abbrev qO:=dC (.int 1)
abbrev n_:=qC 1
abbrev qg:=qC 2
def VH:DS:=(qr (pW xW (a_ (qp JU 2 (E3 (a_ j_ (a_ (vf j_ (sN qO) tI) d_))) (.two 1 2) [] [] (h_ EJ n_ qg)) d_)))
def MF:qh:=(qT 1 VH)
instance:CI MF "is_rising" 1 1:=⟨λT=>
 Callee.self (rJ 0 ["things"] 1 T.w2 λhr=>
  (have x0:Nx ["one", "other"]:=⟨⟩;(qW (by delta VH;walk_at "s"))))⟩
def VZ:DS:=(qr (Ky BE (pW rQ (a_ j_ d_))))
def JH:qh:=(qT 1 VZ)
instance:CI JH "switches_of" 1 1:=⟨λT=>
 Callee.self (rJ 0 ["function"] 1 T.w6 λhr=>
  ((qW (by delta VZ;walk_at "s"))))⟩
abbrev qB:=qC 3
def VU:DS:=(qr (qp JU 2 (Ir (a_ j_ d_)) (.two 2 3) [(qt (h_ (qd sv) qB n_))] [] qg))
def JE:qh:=(qT 2 VU)
instance:CI JE "points_with" 1 2:=⟨λT=>
 Callee.self (rJ 0 ["function", "answer"] 2 T.w7 λhr=>
  (have x0:Nx ["point", "told"]:=⟨⟩;(qW (by delta VU;walk_at "s"))))⟩
abbrev vA:=qr (dC (.bl JU))
abbrev HD:=dC (.str [45,48,49])
def z4v:DS:=(pV (rL (xD (tO (rK (tY "str" n_))) (qt (h_ (qd rM) (pW rQ (a_ n_ d_)) j_))) vA rF) (qr (pW xW (a_ (qp JU 1 (qA n_) (.one 2) [] [] (h_ xu qg HD)) d_))))
def JI:qh:=(qT 2 z4v)
instance:CI JI "has_term_signs" 1 2:=⟨λT=>
 Callee.self (rJ 0 ["n", "thing"] 2 T.w8 λhr=>
  (have x0:Nx ["sign"]:=⟨⟩;(qF '1' (qW '1'))))⟩
abbrev qE:=qC 4
abbrev Bg:=dC (.str [])
def z8m:DS:=(pV (qo 1 (sH (a_ Bg d_))) (pV (vg (tD (a_ j_ d_)) (.one 2) (qo 1 (qp JU 2 (qA n_) (.one 3) [] (⟨(qA HD),(.one 4),[]⟩::[]) (h_ r8 qB qE)))) (qr n_)))
def Jt:qh:=(qT 3 z8m)
instance:CI Jt "all_terms" 1 1:=⟨λT=>
 Callee.self (rJ 0 ["n", "terms", "switch"] 1 T.wa λhr=>
  (have x0:Nx ["term", "sign"]:=⟨⟩;(qF '1' (qF '1' (qW '1')))))⟩
abbrev sk:=dC (.int 0)
abbrev yS:=dC (.str [45])
def zbZ:DS:=(pV (rL (qt (h_ (qd sv) j_ yS)) (qr (sH (a_ sk (a_ qO d_)))) rF) (qr (sH (a_ (pW B8 (a_ j_ d_)) d_))))
def UB:qh:=(qT 1 zbZ)
instance:CI UB "bits_of" 1 1:=⟨λT=>
 Callee.self (rJ 0 ["sign"] 1 T.wb λhr=>
  ((qF '1' (qW '1'))))⟩
def VG:DS:=(qr (h_ r8 (h_ r8 (EG j_ tI (sN n_)) qg) (EG j_ (sN (h_ r8 n_ qO)) tI)))
def MK:qh:=(qT 3 VG)
instance:CI MK "with_sign" 1 3:=⟨λT=>
 Callee.self (rJ 0 ["term", "switch", "sign"] 3 T.wd λhr=>
  ((qW (by delta VG;walk_at "s"))))⟩
def Vs:DS:=(qr (h_ (fI Bc) (pW rQ (a_ j_ d_)) (Hj KJ j_ (a_ yS d_))))
def FI:qh:=(qT 1 Vs)
instance:CI FI "signs_in" 1 1:=⟨λT=>
 Callee.self (rJ 0 ["term"] 1 T.we λhr=>
  ((qW (by delta Vs;walk_at "s"))))⟩
def MU:DS:=(qr (qp JU 1 (HJ j_) (.one 2) [(qt (h_ xu n_ (DJ j_ qg)))] [] qg))
def Cu:qh:=(qT 2 MU)
instance:CI Cu "holders_in" 1 2:=⟨λT=>
 Callee.self (rJ 0 ["held", "one"] 2 T.wo λhr=>
  (have x0:Nx ["term"]:=⟨⟩;(qW (by delta MU;walk_at "s"))))⟩
def z5A:DS:=(pV (rL (qt (h_ Df n_ (pW rQ (a_ j_ d_)))) (qr (h_ rn j_ n_)) rF) (qr sk))
def MR:qh:=(qT 2 z5A)
instance:CI MR "_law_cell_at" 1 2:=⟨λT=>
 Callee.self (rJ 0 ["_law_script", "_law_k"] 2 T.wu λhr=>
  ((qF '1' (qW '1'))))⟩
def Vb:DS:=(pV (rL (rK (h_ rn j_ qO)) (pV (qo 2 (h_ (fI xX) (h_ rn j_ sk) n_)) (pV (Dq (h_ (fI Ap) (h_ rn j_ sk) n_) j_ sk) (qr qg))) rF) (pV (Dq (h_ (fI xX) (h_ r8 (h_ (fI yq) (h_ rn j_ sk) (dC (.int 48271))) (dC (.int 29))) (dC (.int 2147483647))) j_ sk) (pV (qo 3 (h_ (fI xX) (h_ r8 (h_ r8 (h_ (fI yq) (h_ rn j_ sk) (h_ rn j_ sk)) (h_ (fI yq) (dC (.int 39373)) (h_ rn j_ sk))) (dC (.int 7))) (dC (.int 2147483629)))) (pV (qo 3 (h_ (fI xX) (h_ r8 (h_ (fI yq) qB qB) (h_ (fI yq) (dC (.int 16807)) qB)) (dC (.int 2147483587)))) (qr (h_ (fI xX) (h_ (fI Ap) qB (dC (.int 8))) n_))))))
def vm:qh:=(qT 4 Vb)
instance:CI vm "_law_take" 1 2:=⟨λT=>
 Callee.self (rJ 0 ["_law_state_here", "_law_many", "_law_found", "_law_stirred"] 2 T.ww λhr=>
  ((qF '1' (qF '1' (qF '1' (qF '1' (qW '1')))))))⟩
abbrev Dp:=dC (.int 2)
def z8k:DS:=(pV (qo 2 Bg) (pV (vg (tD (a_ j_ d_)) (.one 3) (pV (qo 2 (h_ r8 (pW Ii (a_ (h_ (fI xX) n_ Dp) d_)) qg)) (qo 1 (h_ (fI Ap) n_ Dp)))) (qr qg)))
def Eb:qh:=(qT 4 z8k)
instance:CI Eb "_law_bits" 1 2:=⟨λT=>
 Callee.self (rJ 0 ["_law_n", "_law_point", "_law_found", "_law_k"] 2 T.wy λhr=>
  ((qF '1' (qF '1' (qW '1')))))⟩
def MC:DS:=(qr (qp JU 1 (tD (a_ (pW rQ (a_ j_ d_)) d_)) (.one 1) [(qt (h_ (qd sv) (h_ rn j_ n_) qO))] [] n_))
def FK:qh:=(qT 1 MC)
instance:CI FK "_law_ones" 1 1:=⟨λT=>
 Callee.self (rJ 0 ["_law_function_here"] 1 T.wC λhr=>
  (have x0:Nx ["_law_point"]:=⟨⟩;(qW (by delta MC;walk_at "s"))))⟩
def V2:DS:=(qr (KI [(2,1),(4,2),(8,3),(16,4)] (pW rQ (a_ j_ d_))))
def Ct:qh:=(qT 1 V2)
instance:CI Ct "_law_switches" 1 1:=⟨λT=>
 Callee.self (rJ 0 ["_law_function_here"] 1 T.wD λhr=>
  ((qW (by delta V2;walk_at "s"))))⟩
abbrev uU:=sH d_
abbrev uc:=qC 5
def z7D:DS:=(pV (qo 1 (sH (a_ Bg d_))) (pV (vg (tD (a_ j_ d_)) (.one 2) (pV (qo 3 uU) (pV (vg (qA n_) (.one 4) (qo 3 (h_ r8 qB (qp JU 1 (qA HD) (.one 5) [] [] (h_ r8 qE uc))))) (qo 1 qB)))) (qr n_)))
def FP:qh:=(qT 5 z7D)
instance:CI FP "_law_terms" 1 1:=⟨λT=>
 Callee.self (rJ 0 ["_law_n", "_law_found", "_law_turn", "_law_longer", "_law_text"] 1 T.wF λhr=>
  (have x0:Nx ["_law_sign"]:=⟨⟩;(qF '1' (qF '1' (qW '1')))))⟩
abbrev Wa:DE:=pW rQ (a_ (K0 [45] [] n_) d_)
def MW:DS:=(qr (pW ES (a_ (qp JU 1 (qA j_) (.one 1) [] [] Wa) d_)))
def ML:qh:=(qT 1 MW)
instance:CI ML "_law_signs" 1 1:=⟨λT=>
 Callee.self (rJ 0 ["_law_form"] 1 T.wH λhr=>
  (have x0:Nx ["_law_term_here"]:=⟨⟩;(qW (by delta MW;walk_at "s"))))⟩
def Va(F:qh):DS:=(pV (rL (rK (KZ "tuple" "list" n_)) (pV (rL (xD (qt (h_ (qd rM) (tY "tuple" j_) (tY "tuple" n_))) (qt (h_ (qd rM) (tY "list" j_) (tY "list" n_)))) vA rF) (pV (rL (qt (h_ (qd rM) (pW rQ (a_ j_ d_)) (pW rQ (a_ n_ d_)))) vA rF) (qr (pW xW (a_ (qp JU 2 (E3 (a_ j_ (a_ n_ d_))) (.two 2 3) [] [] (k_ 2 F (a_ qg (a_ qB d_)))) d_))))) rF) (qr (Bi (h_ (qd sv) j_ n_) (h_ (qd sv) (tY "bool" j_) (tY "bool" n_)))))
def MT:Nat->qh
 |0=>λ_ _=>.bad
 |k+1=>(qT 2 (Va (MT k)))
def VC:tF ["_law_found", "_law_due"] ["_law_found", "_law_due"] (qz (top 63)):=by walk_at "z"
theorem VT(T:Txt K mg):∀k,Callee P w K mg base "_law_same" (1+k) 2 (MT k)
 |0=>Callee.bad (F:=qT 2 ET) (OG T.wI VC '4' λf l_ A outer s H E hr=>Mc)
 | k+1=>Callee.self (OG (k:=1+k) T.wI VC '4' λf l_ A outer s H E hr=>
  have c_self:=VT T k
  (have x0:Nx ["_law_one", "_law_other"]:=⟨⟩;(qF '1' (qW '1'))))
def FL:qh:=MT 3
instance:CI FL "_law_same" 4 2:=⟨λT=>VT T 3⟩
def V1:DS:=(qr (Bi (k_ 1 Vw (a_ j_ d_)) (Lc G9 G9 n_ j_ qg)))
def V0:qh:=(qT 3 V1)
instance:CI V0 "is_whole_within" 2 3:=⟨λT=>
 Callee.self (rJ 1 ["thing", "least", "most"] 3 T.w1 λhr=>
  ((qW (by delta V1;walk_at "s"))))⟩
def V3:DS:=(pV (rL (tO (rK (tY "tuple" n_))) vA rF) (qr (Bi (pW xW (a_ (qp JU 1 (qA n_) (.one 2) [] [] (k_ 2 JI (a_ j_ (a_ qg d_)))) d_)) (k_ 1 MF (a_ n_ d_)))))
def FQ:qh:=(qT 2 V3)
instance:CI FQ "has_rising_terms" 2 2:=⟨λT=>
 Callee.self (rJ 1 ["n", "thing"] 2 T.w9 λhr=>
  (have x0:Nx ["term"]:=⟨⟩;(qF '1' (qW '1'))))⟩
def z8C:DS:=(pV (qo 1 (sH (a_ sk d_))) (pV (vg (qA j_) (.one 2) (qo 1 (qp JU 2 (qA n_) (.one 3) [] (⟨(qA (k_ 1 UB (a_ qg d_))),(.one 4),[]⟩::[]) (h_ r8 (h_ (fI yq) Dp qB) qE)))) (qr n_)))
def BF:qh:=(qT 3 z8C)
instance:CI BF "points_of" 2 1:=⟨λT=>
 Callee.self (rJ 1 ["term", "points", "sign"] 1 T.wc λhr=>
  (have x0:Nx ["point", "bit"]:=⟨⟩;(qF '1' (qF '1' (qW '1')))))⟩
def My:DS:=(qr (pW ES (a_ (qp JU 1 (qA j_) (.one 1) [] [] (k_ 1 FI (a_ n_ d_))) d_)))
def y_:qh:=(qT 1 My)
instance:CI y_ "signs_of" 2 1:=⟨λT=>
 Callee.self (rJ 1 ["form"] 1 T.wn λhr=>
  (have x0:Nx ["term"]:=⟨⟩;(qW (by delta My;walk_at "s"))))⟩
abbrev Bj:=a_ (qC 9) d_
abbrev B2:DE:=pW rQ (a_ (k_ 2 Cu (a_ j_ Bj)) d_)
abbrev Cd:DE:=qp JU 1 (qA n_) (.one 9) [(qt (h_ zT (qC 9) (DJ j_ (qC 6))))] [] (qC 9)
abbrev xA:=a_ (qC 6) d_
abbrev Bf(Pt:Nat)(F:qh):DE:=HR qE (a_ (qp JU 1 (qA (uq Pt 8 3 F (a_ uc (a_ (qC 7) (a_ (h_ (fI Bc) qg qO) d_))))) (.one 9) [] [] (h_ r8 (uE xA) (qC 9))) d_)
def AG(Pt:Nat)(F:qh):DS:=(pV (rL (tO (rK n_)) (qr (sH (a_ (uE d_) d_))) rF) (pV (rL (qt (h_ (qd sv) qg sk)) (qr uU) rF) (pV (qo 3 (DH Pt 8 n_ B2)) (pV (qo 4 (Bn d_)) (E4 5 6 7 j_ (qA (k_ 2 Cu (a_ j_ (a_ qB d_)))) Cd (Bf Pt F) (qr qE))))))
def yc(Pt:Nat):Nat->qh
 |0=>λ_ _=>.bad
 |k+1=>Dw (Av 9 8 Pt (AG Pt (yc Pt k)))
def U4:tF ["held", "wanted", "many", "hardest", "found", "rest", "term", "left", "<tab>"] ["held", "wanted", "many"] (qz (top 43)):=by walk_at "z"
theorem Vo{c Pt:af}(T:Txt K mg)(hT:Ar K mg "covers" (top 43) c)(L:uF mg base c Pt):∀k,oQ P w K mg base "covers" (4+k) 3 Pt (yc Pt k)
 |0=>oQ.bad (F:=Av 9 8 Pt ET) (Pb (k:=3) (i:=8) (z := "<tab>") hT U4 rfl (B6 'b') '4' λf A outer s H E hr=>Mc)
 | k+1=>oQ.frz (Pb (k:=4+k) (i:=8) (z := "<tab>") hT U4 rfl (B6 'b') '4' λf A outer s H E hr=>
  have c_self:=Vo T hT L k
  (have x0:Nx ["one"]:=⟨⟩;have x1:Nx ["cover"]:=⟨⟩;(by unfold AG;walk_at "ss")))
def Fx(Pt:Nat):qh:=yc Pt 20
def zdc{c Pt:af}(T:Txt K mg)(a:Ar K mg "covers" (top 43) c)(L:uF mg base c Pt):oQ P w K mg base "covers" 24 3 Pt (Fx Pt):=Vo T a L 20
abbrev ER:=dC (.bl JQ)
def z72:DS:=(pV (qo 2 (k_ 2 MR (a_ j_ (a_ n_ d_)))) (pV (rL (qt (h_ G_ qg (h_ (fI B4) (dC (.int 10)) (dC (.int 18))))) (qr (Bn (a_ (h_ (fI Bc) qg (h_ (fI B4) (dC (.int 10)) (dC (.int 18)))) (a_ ER d_)))) rF) (qr (Bn (a_ (h_ (fI xX) qg (dC (.int 2147483647))) (a_ (dC (.bl JU)) d_))))))
def MV:qh:=(qT 3 z72)
instance:CI MV "_law_state" 2 2:=⟨λT=>
 Callee.self (rJ 1 ["_law_script", "_law_k", "_law_cell"] 2 T.wv λhr=>
  ((qF '1' (qF '1' (qW '1')))))⟩
abbrev yr:=dC (.int 4)
def Vg:DS:=(qr (HY Bg (a_ (qp JU 1 (tD (a_ n_ d_)) (.one 2) [] [] (h_ rn (dC (.str [48,49,45,45])) (k_ 2 vm (a_ j_ (a_ yr d_))))) d_)))
def y0:qh:=(qT 2 Vg)
instance:CI y0 "_law_term" 2 2:=⟨λT=>
 Callee.self (rJ 1 ["_law_state_here", "_law_n"] 2 T.wx λhr=>
  (have x0:Nx ["_law_k"]:=⟨⟩;(qW (by delta Vg;walk_at "s"))))⟩
abbrev K6:DT:=qt (h_ (qd sv) (qp JU 1 (tD (a_ (pW rQ (a_ j_ d_)) d_)) (.one 4) [(qt (h_ zT (h_ rn j_ qE) (uE (a_ yS (a_ (h_ rn qB qE) d_)))))] [] qE) uU)
def MZ:DS:=(pV (qo 1 (Bn d_)) (pV (vg (tD (a_ (h_ (fI zP) qO (pW rQ (a_ j_ d_))) d_)) (.one 2) (pV (qo 3 (k_ 2 Eb (a_ (pW rQ (a_ j_ d_)) (a_ qg d_)))) (rL K6 (yX (BX n_ (a_ qg d_))) rF))) (qr n_)))
def z_:qh:=Dw (qT 4 MZ)
instance:CI z_ "_law_points" 2 1:=⟨λT=>
 Callee.frz (rJ 1 ["_law_term_here", "_law_found", "_law_point", "_law_bits_here"] 1 T.wz λhr=>
  (have x0:Nx ["_law_k"]:=⟨⟩;(qF '1' (qF '1' (qW '1')))))⟩
def Ve:DS:=(qr (Kl (h_ Ku j_ yQ) (k_ 3 V0 (a_ j_ (a_ sk (a_ qO d_))))))
def Vh:qh:=(qT 1 Ve)
instance:CI Vh "is_answer" 3 1:=⟨λT=>
 Callee.self (rJ 2 ["thing"] 1 T.w3 λhr=>
  ((qW (by delta Ve;walk_at "s"))))⟩
def M5:DS:=(qr (qp JU 1 (qA j_) (.one 2) [(qt (h_ xu n_ (k_ 1 BF (a_ qg d_))))] [] qg))
def M6:qh:=(qT 2 M5)
instance:CI M6 "terms_holding" 3 2:=⟨λT=>
 Callee.self (rJ 2 ["terms", "point"] 2 T.wf λhr=>
  (have x0:Nx ["term"]:=⟨⟩;(qW (by delta M5;walk_at "s"))))⟩
def M4:DS:=(qr (pW xW (a_ (qp JU 1 (qA (k_ 1 BF (a_ n_ d_))) (.one 2) [] [] (h_ (qd rM) (h_ rn j_ qg) sk)) d_)))
def Eg:qh:=(qT 2 M4)
instance:CI Eg "holds_no_nought" 3 2:=⟨λT=>
 Callee.self (rJ 2 ["function", "term"] 2 T.wg λhr=>
  (have x0:Nx ["point"]:=⟨⟩;(qW (by delta M4;walk_at "s"))))⟩
def MX:DS:=(qr (pW Dt (a_ (qp JU 1 (qA (k_ 1 BF (a_ n_ d_))) (.one 2) [] [] (h_ (qd sv) (h_ rn j_ qg) qO)) d_)))
def MN:qh:=(qT 2 MX)
instance:CI MN "holds_a_one" 3 2:=⟨λT=>
 Callee.self (rJ 2 ["function", "term"] 2 T.wh λhr=>
  (have x0:Nx ["point"]:=⟨⟩;(qW (by delta MX;walk_at "s"))))⟩
abbrev cW:DT:=tO (rK qB)
abbrev bW(Pt:Nat):DS:=pV (HH 2 qO) (qo 3 (uq Pt 5 3 (Fx Pt) (a_ j_ (a_ n_ (a_ qg d_)))))
def VN(Pt:Nat):DS:=(pV (qo 2 sk) (pV (qo 3 (uq Pt 5 3 (Fx Pt) (a_ j_ (a_ n_ (a_ qg d_))))) (pV (Lq 20 cW (bW Pt)) (pV (qo 4 (pW EZ (a_ (qp JU 1 (qA qB) (.one 6) [] [] (k_ 1 y_ xA)) d_))) (qr (pW EV (a_ (qp JU 1 (qA qB) (.one 6) [(qt (h_ (qd sv) (k_ 1 y_ xA) qE))] [] (pW vj (a_ (pW yW xA) d_))) d_)))))))
def Jv(Pt:Nat):qh:=(Av 6 5 Pt (VN Pt))
def z59:tF ["held", "wanted", "many", "found", "fewest", "<tab>"] ["held", "wanted"] (qz (top 44)):=by walk_at "z"
def z4M{c Pt:af}(T:Txt K mg)(hT:Ar K mg "covers" (top 43) c)(L:uF mg base c Pt):oQ P w K mg base "least_covers" 25 2 Pt (Jv Pt):=
 oQ.self (OF (k:=24) (i:=5) (z := "<tab>") T.wq z59 rfl (B6 'b') '4' λf l_ A outer s H E hr=>
  (have x0:Nx ["cover"]:=⟨⟩;(qF '1' (qF '1' (qF '1' (qF '1' (qW '1')))))))
abbrev Du:=dC (.int 3)
def M0:DS:=(pV (qo 1 (h_ rn (sH (a_ yr (a_ Du (a_ Du (a_ Dp (a_ yr (a_ Du (a_ yr (a_ qO d_))))))))) (k_ 2 vm (a_ j_ (a_ (dC (.int 8)) d_))))) (pV (qo 2 (k_ 2 vm (a_ j_ (a_ (dC (.int 6)) d_)))) (pV (rL (qt (h_ Df qg yr)) (pV (qo 3 (h_ rn (sH (a_ (sH (a_ sk (a_ qO d_))) (a_ (sH (a_ sk (a_ qO (a_ yQ d_)))) (a_ (sH (a_ sk (a_ sk (a_ sk (a_ qO (a_ yQ d_)))))) (a_ (sH (a_ qO (a_ qO (a_ qO (a_ sk (a_ yQ d_)))))) d_))))) qg)) (qr (pW vj (a_ (qp JU 1 (tD (a_ (h_ (fI zP) qO n_) d_)) (.one 7) [] [] (h_ rn qB (k_ 2 vm (a_ j_ (a_ (pW rQ (a_ qB d_)) d_))))) d_)))) rF) (pV (qo 4 uU) (pV (vg (tD (a_ (h_ r8 qO (k_ 2 vm (a_ j_ (a_ (dC (.int 5)) d_)))) d_)) (.one 5) (qo 4 (h_ r8 qE (k_ 1 z_ (a_ (k_ 2 y0 (a_ j_ (a_ n_ d_))) d_))))) (pV (qo 6 (qp JQ 1 (tD (a_ (h_ (fI zP) qO n_) d_)) (.one 7) [] [] (pW B8 (a_ (h_ xu (qC 7) qE) d_)))) (pV (rL (qt (h_ (qd sv) qg (dC (.int 5)))) (Dq yQ (qC 6) (k_ 2 vm (a_ j_ (a_ (h_ (fI zP) qO n_) d_)))) rF) (qr (pW vj xA)))))))))
def M3:qh:=Dw (qT 7 M0)
instance:CI M3 "_law_function" 3 1:=⟨λT=>
 Callee.frz (rJ 2 ["_law_state_here", "_law_n", "_law_way", "_law_some", "_law_held", "_law_turn", "_law_found"] 1 T.wA λhr=>
  (have x0:Nx ["_law_point"]:=⟨⟩;(qF '1' (qF '1' (qF '1' (qF '1' (qF '1' (qF '1' (qF '1' (qW '1'))))))))))⟩
def ME:DS:=(qr (h_ (qd sv) (qp JU 1 (qA (k_ 1 z_ (a_ n_ d_))) (.one 2) [(qt (h_ (qd sv) (h_ rn j_ qg) sk))] [] qg) uU))
def Ac:qh:=(qT 2 ME)
instance:CI Ac "_law_good" 3 2:=⟨λT=>
 Callee.self (rJ 2 ["_law_function_here", "_law_term_here"] 2 T.wB λhr=>
  (have x0:Nx ["_law_point"]:=⟨⟩;(qW (by delta ME;walk_at "s"))))⟩
def MD:DS:=(pV (qo 3 (k_ 1 Ct (a_ n_ d_))) (pV (qo 4 (k_ 2 vm (a_ j_ (a_ (h_ tJ (pW rQ (a_ qg d_)) qO) d_)))) (pV (qo 5 (sH (a_ (k_ 2 y0 (a_ j_ (a_ qB d_))) (a_ (k_ 2 y0 (a_ j_ (a_ qB d_))) (a_ (h_ yV yS qB) (a_ (h_ yV (dC (.str [48])) (h_ tJ qB qO)) (a_ Bg (a_ yQ (a_ sk (a_ (h_ yV (dC (.str [50])) qB) (a_ (uE (a_ (dC (.str [48])) d_)) d_))))))))))) (pV (qo 5 (h_ rn uc (k_ 2 vm (a_ j_ (a_ (dC (.int 9)) d_))))) (pV (qo 6 (sH (a_ (h_ tJ (vf qg tI (sN qE)) (vf qg (sN (h_ tJ qE qO)) tI)) (a_ (h_ tJ (h_ tJ (vf qg tI (sN qE)) (vf qg (sN qE) (sN (h_ tJ qE qO)))) (vf qg (sN qE) tI)) (a_ (HZ qg (sN (HU qO))) (a_ (pW (B_ JU) (a_ qg d_)) (a_ yQ (a_ HI d_)))))))) (pV (qo 6 (h_ tJ (qC 6) (sH (a_ (h_ tJ (h_ tJ (vf qg tI (sN qE)) (uE (a_ uc d_))) (vf qg (sN (h_ tJ qE qO)) tI)) (a_ (h_ tJ (h_ tJ (vf qg tI (sN qE)) (uE (a_ uc d_))) (vf qg (sN qE) tI)) (a_ (h_ yV yS qB) (a_ sk (a_ (vf qg (sN qO) tI) d_)))))))) (qr (h_ rn (qC 6) (k_ 2 vm (a_ j_ (a_ (dC (.int 11)) d_)))))))))))
def Ed:qh:=(qT 7 MD)
instance:CI Ed "_law_bent" 3 3:=⟨λT=>
 Callee.self (rJ 2 ["_law_state_here", "_law_function_here", "_law_form", "_law_n", "_law_at", "_law_odd", "_law_some"] 3 T.wK λhr=>
  ((qF '1' (qF '1' (qF '1' (qF '1' (qF '1' (qF '1' (qW '1')))))))))⟩
def VX:DS:=(pV (rL (xD (tO (rK (tY "tuple" j_))) (qt (DV JQ BE (pW rQ (a_ j_ d_))))) vA rF) (qr (pW xW (a_ (qp JU 1 (qA j_) (.one 1) [] [] (k_ 1 Vh (a_ n_ d_))) d_))))
def JD:qh:=(qT 1 VX)
instance:CI JD "is_function" 4 1:=⟨λT=>
 Callee.self (rJ 3 ["thing"] 1 T.w4 λhr=>
  (have x0:Nx ["answer"]:=⟨⟩;(qF '1' (qW '1'))))⟩
def VO:DS:=(qr (Bi (h_ (qd rM) (h_ rn n_ qg) yS) (k_ 2 Eg (a_ j_ (a_ (k_ 3 MK (a_ n_ (a_ qg (a_ yS d_)))) d_)))))
def VR:qh:=(qT 3 VO)
instance:CI VR "can_widen_at" 4 3:=⟨λT=>
 Callee.self (rJ 3 ["function", "term", "switch"] 3 T.wj λhr=>
  ((qW (by delta VO;walk_at "s"))))⟩
abbrev JM:DT:=xD (qt (h_ (qd rM) (pW rQ (a_ qE d_)) qg)) (qt (h_ (qd rM) (Hj Io qE (a_ (dC (.str [48,49,45])) d_)) Bg))
def VQ:DS:=(pV (rL (xD (tO (rK (tY "tuple" n_))) (qt (h_ (qd rM) (qp JU 0 (qA n_) (.one 4) [(tO (rK (tY "str" qE)))] [] qE) uU))) vA rF) (pV (qo 2 (k_ 1 Ct (a_ j_ d_))) (pV (rL (qt (h_ (qd rM) (qp JU 0 (qA n_) (.one 4) [JM] [] qE) uU)) vA rF) (pV (rL (qt (h_ (qd rM) (pW (B_ JU) (a_ n_ d_)) (Ay JU (a_ n_ d_)))) vA rF) (pV (rL (qt (h_ (qd rM) (qp JU 0 (qA n_) (.one 4) [(tO (rK (k_ 2 Ac (a_ j_ (a_ qE d_)))))] [] qE) uU)) vA rF) (pV (qo 3 uU) (pV (vg (qA n_) (.one 4) (qo 3 (h_ r8 qB (k_ 1 z_ (a_ qE d_))))) (qr (h_ (qd sv) (qp JU 1 (qA (k_ 1 FK (a_ j_ d_))) (.one 5) [(qt (h_ zT uc qB))] [] uc) uU)))))))))
def Jw:qh:=(qT 5 VQ)
instance:CI Jw "_law_is_form" 4 2:=⟨λT=>
 Callee.self (rJ 3 ["_law_function_here", "_law_thing", "_law_n", "_law_held", "_law_term_here"] 2 T.wE λhr=>
  (have x0:Nx []:=⟨⟩;have x1:Nx ["_law_point"]:=⟨⟩;(qF '1' (qF '1' (qF '1' (qF '1' (qF '1' (qF '1' (qF '1' (qW '1'))))))))))⟩
abbrev KG:DE:=h_ r8 (h_ r8 (EG qg tI (sN uc)) yS) (EG qg (sN (h_ r8 uc qO)) tI)
abbrev KD:DT:=qt (h_ (qd rM) (h_ rn qg uc) yS)
abbrev PJ:DS:=pV (qo 3 (qp JU 1 (qA (k_ 1 z_ (a_ qg d_))) (.one 5) [(qt (h_ (qd sv) (h_ rn j_ uc) qO))] [] uc)) (rL (DD (qt (h_ (qd rM) qB uU)) (rK (k_ 2 Ac (a_ j_ (a_ qg d_))))) (pV (qo 4 (qp JU 1 (tD (a_ (pW rQ (a_ qg d_)) d_)) (.one 5) [KD] [] KG)) (rL (qt (h_ (qd sv) (qp JU 1 (qA qE) (.one 5) [(rK (k_ 2 Ac (a_ j_ (a_ uc d_))))] [] uc) uU)) (yX (BX n_ (a_ qg d_))) rF)) rF)
def M8:DS:=(pV (qo 1 (Bn d_)) (pV (vg (qA (k_ 1 FP (a_ (k_ 1 Ct (a_ j_ d_)) d_))) (.one 2) PJ) (qr n_)))
def JA:qh:=Dw (qT 5 M8)
instance:CI JA "_law_greatest" 4 1:=⟨λT=>
 Callee.frz (rJ 3 ["_law_function_here", "_law_found", "_law_term_here", "_law_ones_here", "_law_wider"] 1 T.wG λhr=>
  (have x0:Nx ["_law_point"]:=⟨⟩;have x1:Nx ["_law_k"]:=⟨⟩;have x2:Nx ["_law_other"]:=⟨⟩;(qF '1' (qF '1' (qW '1')))))⟩
def JJ:DS:=(rL (tO (rK (k_ 1 JD (a_ j_ d_)))) ET rF)
def M9:qh:=(qT 1 JJ)
instance:CI M9 "need_function" 5 1:=⟨λT=>
 Callee.self (rJ 4 ["thing"] 1 T.w5 λhr=>
  ((qW (by delta JJ;walk_at "s"))))⟩
def MG:DS:=(qr (Ds (pW Dt (a_ (qp JU 1 (tD (a_ (pW rQ (a_ n_ d_)) d_)) (.one 2) [] [] (k_ 3 VR (a_ j_ (a_ n_ (a_ qg d_))))) d_))))
def MI:qh:=(qT 2 MG)
instance:CI MI "is_widest" 5 2:=⟨λT=>
 Callee.self (rJ 4 ["function", "term"] 2 T.wk λhr=>
  (have x0:Nx ["switch"]:=⟨⟩;(qW (by delta MG;walk_at "s"))))⟩
def VD:DS:=(pV (yX (k_ 1 M9 (a_ j_ d_))) (qr (qp JU 1 (qA (k_ 1 Jt (a_ (k_ 1 JH (a_ j_ d_)) d_))) (.one 1) [(rK (k_ 2 Eg (a_ j_ (a_ n_ d_))))] [] n_)))
def MM:qh:=(qT 1 VD)
instance:CI MM "good_terms" 6 1:=⟨λT=>
 Callee.self (rJ 5 ["function"] 1 T.wi λhr=>
  (have x0:Nx ["term"]:=⟨⟩;(qF '1' (qW '1'))))⟩
def Mw:DS:=(qr (qp JU 1 (qA (k_ 1 MM (a_ j_ d_))) (.one 1) [(DD (rK (k_ 2 MN (a_ j_ (a_ n_ d_)))) (rK (k_ 2 MI (a_ j_ (a_ n_ d_)))))] [] n_))
def Jh:qh:=(qT 1 Mw)
instance:CI Jh "greatest" 7 1:=⟨λT=>
 Callee.self (rJ 6 ["function"] 1 T.wl λhr=>
  (have x0:Nx ["term"]:=⟨⟩;(qW (by delta Mw;walk_at "s"))))⟩
def JF:DS:=(qr (Cg 1 (qA (k_ 1 Jh (a_ j_ d_))) (.one 1) [] [] n_ (k_ 1 BF (a_ n_ d_))))
def MP:qh:=(qT 1 JF)
instance:CI MP "held_points" 8 1:=⟨λT=>
 Callee.self (rJ 7 ["function"] 1 T.wr λhr=>
  (have x0:Nx ["term"]:=⟨⟩;(qW (by delta JF;walk_at "s"))))⟩
def MY(Pt:Nat):DS:=(qr (uq Pt 1 2 (Jv Pt) (a_ (k_ 1 MP (a_ j_ d_)) (a_ (k_ 2 JE (a_ j_ (a_ qO d_))) d_))))
def JC(Pt:Nat):qh:=(Av 2 1 Pt (MY Pt))
def z5D:tF ["function", "<tab>"] ["function"] (qz (top 46)):=by walk_at "z"
def z5B{c Pt:af}(T:Txt K mg)(hT:Ar K mg "covers" (top 43) c)(L:uF mg base c Pt):oQ P w K mg base "least_forms" 26 1 Pt (JC Pt):=
 oQ.self (OF (k:=25) (i:=1) (z := "<tab>") T.ws z5D rfl (B6 'b') '4' λf l_ A outer s H E hr=>
  ((qW (by delta MY;walk_at "s"))))
def MS(Pt:Nat):DS:=(qr (h_ rn (uq Pt 1 1 (JC Pt) (a_ j_ d_)) sk))
def Ee(Pt:Nat):qh:=(Av 2 1 Pt (MS Pt))
def z61:tF ["function", "<tab>"] ["function"] (qz (top 47)):=by walk_at "z"
def VL{c Pt:af}(T:Txt K mg)(hT:Ar K mg "covers" (top 43) c)(L:uF mg base c Pt):oQ P w K mg base "least_form" 27 1 Pt (Ee Pt):=
 oQ.self (OF (k:=26) (i:=1) (z := "<tab>") T.wt z61 rfl (B6 'b') '4' λf l_ A outer s H E hr=>
  ((qW (by delta MS;walk_at "s"))))
end
local macro_rules|`(tactic| walk_at "v")=>`(tactic| first|exact .inl rfl|exact .inr (.inl rfl)|exact .inr (.inr rfl))
local macro_rules|`(tactic| walk_at "l")=>`(tactic| first|exact .inl rfl|exact .inr rfl)
local macro_rules|`(tactic| walk_at "le")=>`(tactic| first|decide|exact ay _|lia)
local macro_rules|`(tactic| walk_at "fx")=>`(tactic| first|refine IA h (Jb rfl Iu) hr '3' rfl ?_<;>walk_at "a"|refine IA h (Jb rfl RY) hr '3' rfl ?_<;>walk_at "a"|refine R_ h hr '3' rfl ?_<;>walk_at "a")
local macro_rules|`(tactic| exists 0,0,$x)=>`(tactic| exact IA (Callee.toX (Cl:=Cl) (CI.out T)) (Jb rfl $x) hr '3' rfl '5')
local macro_rules|`(tactic| walk_at "f")=>`(tactic| first|exists 0,0,Iu|exists 0,0,RY|exact R_ (Callee.toX (Cl:=Cl) (CI.out T)) hr '3' rfl '5'|((exists (k_ _ Jz _));have h:=@z4z P w K mg base T B;walk_at "fx")|((exists (k_ _ zZ _));have h:=@za9 P w K mg base T B;walk_at "fx")|((exists (k_ _ _ _));have h:=c_self;walk_at "fx"))
local macro_rules|`(tactic| walk_at "k")=>`(tactic| first|exact Rz|exact Rh _ rfl|exact QG|exact Px)
local macro_rules|`(tactic| walk_at "n")=>`(tactic| first|exact SO T.w51)
local macro_rules|`(tactic| walk_at "o")=>`(tactic| first|((exists (h_ r8 _ _));refine QZ ?_ ?_<;>walk_at "e")|((exists (h_ rn _ _));exact P_ '2' '2' (λ_ _=>rfl))|((exists (h_ tJ _ _));refine SX ?_ ?_<;>walk_at "e")|exists (qd rM),(IV hr.units),Bt,0|exists DB,R9,Tj,0)
local macro_rules|`(tactic| walk_at "c")=>`(tactic| first|exists rQ,Tc,Rq,T.wU,QJ|exists xW,(Uz rfl),RI,T.wN,Rj|exists E1,(zcd rfl),zgR,T.wW,ZM|exists DN,(zaT rfl),zgQ,T.wX,Lj|((exists (pW vj _));refine FD VM TX rfl T.w31 Jd ?_<;>walk_at "a")|exists false,T.wc1,T.wm1,T.wx1,0,0|exists false,T.wf1,T.wp1,T.wA1,0,0|exists false,T.wb1,T.wl1,T.ww1,0,0|exists true,T.w71,T.wh1,T.ws1,0,0|exists false,T.we1,T.wo1,T.wz1,0,0|exists false,T.wa1,T.wk1,T.wv1,0,0|exists false,T.w91,T.wj1,T.wu1,0,0|exists false,T.w81,T.wi1,T.wt1,0,0|exists false,T.wd1,T.wn1,T.wy1,0,0|((exists (v7 (vV true) _));exact zhi (x := "ValueError") (n := "ValueError") (f:=(vV true)) '2' rfl T.wT BG rfl T.wM z6l T.wq1 (kf T.wB1))|((exists (Ay _ _));refine SW _ rfl rfl T.w01 FE rfl T.wZ Ro ?_<;>walk_at "a")|((exists (Cp _ _ _ _ _ _ _));exact zj4 T hr L rfl (Yd (by kernel_rfl)) rfl (λ_ _ _ _ _ _=>rfl) (λq lam cd cl A outer s H E hr=>'2') rfl)|((exists (uq _ _ _ (rG (Ee _)) _));refine Zj ((VL T hT LQ).toT (Cl:=Cl)) (Jb rfl Iu) hr '3' rfl ?_<;>walk_at "a")|exists yW,UQ,So,T.w01,FE)
local macro_rules|`(tactic| walk_at "so")=>`(tactic| first|refine Tq ?_<;>walk_at "e")
local macro_rules|`(tactic| walk_at "m")=>`(tactic| first|fail)
local macro_rules|`(tactic| walk_at "e1")=>`(tactic| first|((exists (qC _));refine Q9 rfl ?_<;>walk_at "v")|((exists (dC _));first|walk_at "k"|walk_at "n")|((exists (h_ _ _ _));walk_at "o")|((exists (k_ _ _ _));walk_at "f")|((exists (sH _));refine QO ?_<;>walk_at "a")|((exists (uE _));refine Qw ?_<;>walk_at "a")|((exists (qp _ _ _ _ _ _ _));first|exists x0,2|exists x1,2|exists x2,2)|((exists (pW _ _));walk_at "c")|((exists (Kl _ _));refine PV ?_ ?_<;>walk_at "e")|((exists (Ds _));refine Rk ?_<;>walk_at "e")|walk_at "c"|walk_at "m"|walk_at "o")
local macro_rules|`(tactic| walk_at "e")=>`(tactic| first|(show PD _ _ (.BoolOp _ [_] _) _;refine QX ?_<;>walk_at "e1")|walk_at "e1")
local macro_rules|`(tactic| walk_at "a")=>`(tactic| first|((with_reducible show tM _ _ _ d_);exact Sh)|exact Th '2' '5')
local macro_rules|`(tactic| walk_at "t")=>`(tactic| first|((with_reducible show rY _ _ _ (qt (h_ (qd rM) _ _)));exact Bx (IV hr.units) Bt '2' '2' (Cf _))|((exists (qt (h_ DB _ _)),0);exact Bx R9 Tj '2' '2' (Cf _))|(show rY _ _ (.BoolOp _ _ _) _;refine vt.pt ?_<;>walk_at "w")|((with_reducible show rY _ _ _ (tO _));refine Sm ?_<;>walk_at "t")|((with_reducible show rY _ _ _ (rK _));exact Sl '2' (λ_=>rfl)))
local macro_rules|`(tactic| walk_at "w")=>`(tactic| first|(show vt _ _ (.BoolOp .And [_] _) _;refine Us ?_<;>walk_at "t")|(show vt _ _ (.BoolOp .Or [_] _) _;refine R8 ?_<;>walk_at "t")|((with_reducible show vt _ _ _ (xD _ _));exact RA '8' (by walk_at "w")))
local macro_rules|`(tactic| walk_at "i")=>`(tactic| first|((with_reducible show ui _ _ _ _ (tD _));refine Vz rfl T.wY ?_<;>walk_at "a")|refine RT ?_<;>walk_at "e")
local macro_rules|`(tactic| walk_at "g")=>`(tactic| first|(show PG _ (.Name _ _) _;refine QH (v_ (by kernel_rfl)) rfl ?_ ?_<;>walk_at "l")|(show PG _ (.Tuple [_,_] _ _) _;refine Q0 rfl (v_ (by kernel_rfl)) rfl rfl ?_ ?_ ?_ ?_<;>walk_at "l"))
local macro_rules|`(tactic| walk_at "fs")=>`(tactic| first|exact .nil|exact .cons '8' (by walk_at "fs"))
local macro_rules|`(tactic| walk_at "cs")=>`(tactic| first|exact .nil|(refine o5.cons ?_ (λ_=>rfl) ?_ ?_ ?_;(dsimp only;walk_at "i");(dsimp only;walk_at "g");(dsimp only;walk_at "fs");walk_at "cs"))
local macro_rules|`(tactic| walk_at "s")=>`(tactic| first|((exists (qr _),1);refine Si ?_<;>walk_at "e")|((exists (rL _ _ _),1);exact Qz '8' '7' '7')|(show vd _ _ (.Assign [.Name _ _] (.ListComp _ _ _ _) _) _;first|exists x0,4|exists x1,4|exists x2,4|exact IU (v_ (by kernel_rfl)) rfl (by walk_at "l") '2')|((exists (qo _ _),1);exact IU (v_ (by kernel_rfl)) rfl (by walk_at "l") '2')|((exists (vg _ _ _),1);exact Sy zhI rfl (by walk_at "i") (by walk_at "g") '7')|((exists (yX _),1);refine Uh ?_<;>walk_at "e")|((with_reducible show vd _ _ _ (Iv 0 _));refine zc7 Iu rfl rfl B.z00 rfl rfl ?_<;>walk_at "a")|((exists rF,1);exact TQ))
local macro_rules|`(tactic| walk_at "ss")=>`(tactic| first|((with_reducible show sQ _ _ _ rF);exact S6)|((with_reducible show sQ _ _ _ (pV _ _));exact qF '1' '7')|refine qW ?_<;>walk_at "s")
def E_:DS:=(pV (qo 3 (sH (a_ (v7 (vV JQ) n_) (a_ (v7 (vV JU) n_) (a_ (v7 (vV JU) n_) d_))))) (pV (qo 3 (h_ r8 qB (sH (a_ (v7 (vV JU) n_) (a_ (v7 (vV JU) n_) (a_ (v7 (vV JU) n_) d_)))))) (pV (qo 3 (h_ r8 qB (sH (a_ (v7 (vV JU) n_) (a_ (v7 (vV JU) n_) (a_ (v7 (vV JU) n_) d_)))))) (pV (rL (tO (rK (v7 (vV JQ) n_))) (qr yQ) rF) (qr (qp JU 1 (tD (a_ (dC (.int 9)) d_)) (.one 4) [(rK (h_ rn qB qE))] [] qE))))))
def z4X:tF ["_law_call", "_law_error", "e", "_law_marks"] ["_law_call"] (qz (top 64)):=by walk_at "z"
def zj4{X:Cx}{Ex:Nat->Hp->Prop}{k iT:Nat}{c Pt:af}{tE:DE}{params:eR}{body:aR}{scope:cu}{pn pl pp:Pos}(T:Txt X.K X.mg)(hr:oP (k+2) X.A)(L:uF X.mg X.base c Pt)(sM:X.env.code=.ref c)(LS:Jc X.env.scope scope)(u7:defaultsOf params X.env=([],[]))
  (zJ:∀(name qual:aq)(cl:List (aq×af))(pm cd ct:ae),bindArgs (cC name qual params body scope cl pm cd ct) ⟨[],[]⟩=pure [])
  (hE:∀(q:aq)(lam:af)(cd:ae)(cl:List (aq×af))(A:aU)(outer:List Env)(s:ah)(H:Hp)(E:XK),oP k (A.deeper (tN q scope s.heap.objs.size lam cd cl))->PD (Dj (sj X.prog X.w Cl) X.prog X.w X.K X.mg X.base X.N (tN q scope s.heap.objs.size lam cd cl) A outer s H E) (Xk Cl E) body tE)
  (hg:Gl X "_law_refused"):PD X Ex (.Call (.Name "_law_refused" pn) [.Lambda params body scope pl] [] pp) (Cp Pt iT Ca 4 1 tE E_):=
 zaI (N:=["_law_call", "_law_error", "e", "_law_marks"]) (i:=2) (j:=1) (nf := "_law_call") (n := "e") (y := "_law_error") (xT := "TermError") (T:=24) (Cl:=Cl) (Ca:=Ca) T.wJ hr rfl z4X 'c' rfl rfl rfl 'u' 'u' rfl rfl (.inl rfl) '4' rfl T.wg1 (XN T) (λf l_ s H hr=>(have x0:Nx ["_law_k"]:=⟨⟩;(qF '1' (qF '1' (qF '1' (qF '1' (qW '1'))))))) L sM LS u7 zJ hE hg
def JB:DS:=(rL (tO (rK (k_ 1 (rG JD) (a_ j_ d_)))) (Iv 0 (a_ (dC (.str [97,32,102,117,110,99,116,105,111,110,32,105,115,32,97,32,116,117,112,108,101,32,111,102,32,50,44,32,52,44,32,56,32,111,114,32,49,54,32,97,110,115,119,101,114,115,44,32,101,97,99,104,32,48,44,32,49,32,111,114,32,78,111,110,101])) d_)) rF)
def Jz:qh:=(qT 1 JB)
def z4t:tF ["thing"] ["thing"] (qz (top 19)):=by walk_at "z"
def z4z(T:Txt K mg)(B:HV mg base):o6 Cl P w K mg base "need_function" 5 1 Jz:=
 o6.self (fnX (k:=4) T.w5 z4t '4' λf l_ A outer s H E hr=>
  ((qW (by delta JB;walk_at "s"))))
def Jf:DS:=(pV (yX (k_ 1 Jz (a_ j_ d_))) (pV (rL (tO (rK (k_ 2 (rG FQ) (a_ (k_ 1 (rG JH) (a_ j_ d_)) (a_ n_ d_))))) vA rF) (pV (rL (tO (rK (pW xW (a_ (qp JU 1 (qA n_) (.one 2) [] [] (k_ 2 (rG Eg) (a_ j_ (a_ qg d_)))) d_)))) vA rF) (qr (pW xW (a_ (qp JU 1 (qA (k_ 2 (rG JE) (a_ j_ (a_ qO d_)))) (.one 2) [] [] (h_ (qd rM) (k_ 2 (rG M6) (a_ n_ (a_ qg d_))) uU)) d_))))))
def zZ:qh:=(qT 2 Jf)
def zas:tF ["function", "thing"] ["function", "thing"] (qz (top 40)):=by walk_at "z"
def za9(T:Txt K mg)(B:HV mg base):o6 Cl P w K mg base "is_form" 6 2 zZ:=
 o6.self (fnX (k:=5) T.wm zas '4' λf l_ A outer s H E hr=>
  (have x0:Nx ["term"]:=⟨⟩;have x1:Nx ["point"]:=⟨⟩;(qF '1' (qF '1' (qF '1' (qW '1'))))))
abbrev Qg:DS:=rL (tO (rK (k_ 2 (rG FL) (a_ (k_ 2 zZ (a_ qB (a_ (qC 10) d_))) (a_ (k_ 2 (rG Jw) (a_ qB (a_ (qC 10) d_))) d_))))) vA rF
abbrev K2:DS:=pV (rL (xD (qt (h_ DB (k_ 2 zZ (a_ qB Bj)) ER)) (tO (rK (k_ 2 (rG FL) (a_ (k_ 1 (rG y_) Bj) (a_ (k_ 1 (rG ML) Bj) d_)))))) vA rF) (vg (qA (sH (a_ (k_ 3 (rG Ed) (a_ qg (a_ qB Bj))) (a_ (k_ 3 (rG Ed) (a_ qg (a_ qB Bj))) (a_ (uE d_) d_))))) (.one 10) Qg)
abbrev PL(Pt P2:Nat):DS:=pV (qo 2 (k_ 2 (rG MV) (a_ j_ (a_ n_ d_)))) (pV (qo 3 (k_ 1 (rG M3) (a_ qg d_))) (pV (qo 4 (k_ 1 (rG Ct) (a_ qB d_))) (pV (qo 5 (pW vj (a_ (pW yW (a_ (k_ 1 (rG JA) (a_ qB d_)) d_)) d_))) (pV (qo 6 (pW vj (a_ (qp JU 1 (qA (k_ 1 (rG FK) (a_ qB d_))) (.one 14) [] [] (k_ 2 (rG Eb) (a_ qE (a_ (qC 14) d_)))) d_))) (pV (qo 7 (qp JU 1 (tD (a_ yr d_)) (.one 14) [] [] (k_ 2 (rG y0) (a_ qg (a_ qE d_))))) (pV (qo 7 (qp JU 1 (qA (qC 7)) (.one 14) [(rK (k_ 2 (rG Ac) (a_ qB (a_ (qC 14) d_))))] [] (qC 14))) (pV (qo 8 (sH (a_ (uq P2 13 1 (rG (Ee P2)) (a_ qB d_)) (a_ uc (a_ (qC 6) (a_ (pW vj (a_ (Ay JU (a_ (h_ tJ uc (pW vj (a_ (qC 7) d_))) d_)) d_)) d_)))))) (pV (vg (qA (qC 8)) (.one 9) K2) (pV (qo 11 (h_ rn (sH (a_ yQ (a_ sk (a_ (uE d_) (a_ (uE (a_ sk d_)) (a_ (uE (a_ sk (a_ Dp d_))) (a_ (sH (a_ sk (a_ qO d_))) (a_ (uE (a_ sk (a_ ER d_))) (a_ (dC (.str [48,49])) d_))))))))) (k_ 2 (rG vm) (a_ qg (a_ (dC (.int 8)) d_))))) (rL (qt (h_ (qd rM) (Cp Pt 12 Ca 4 1 (k_ 2 zZ (a_ (qC 11) (a_ (uE d_) d_))) E_) (sH (a_ sk d_)))) vA rF))))))))))
def YA(Pt P2:Nat):DS:=(pV (vg (tD (a_ (pW E1 (a_ qO (a_ (pW DN (a_ (pW rQ (a_ j_ d_)) (a_ (dC (.int 6)) d_))) d_))) d_)) (.one 1) (PL Pt P2)) (qr ER))
def F_law(Pt P2:Nat):qh:=HF 14 12 13 Pt P2 (YA Pt P2)
def ZO:tF ["_law_script", "_law_k", "_law_state_here", "_law_function_here", "_law_n", "_law_every", "_law_singles", "_law_fine", "_law_forms", "_law_form", "_law_thing", "_law_none", "<tab>", "<tab2>"] ["_law_script"] (qz (top 66)):=by walk_at "z"
def Z4{f c Pt c2 P2:af}{fd:d0}(hF:L2.Fun K "law" "law" (top 66) f fd)(hc:fd.code=.ref c)(T:Txt K mg)(B:HV mg base)(hT:Ar K mg "covers" (top 43) c2)(L:uF mg base c Pt)(LQ:uF mg base c2 P2):oY P w K mg base (sj P w Cl) 28 f fd ["_law_script"] (BY K (Xk Cl) 1 Pt P2 (F_law Pt P2)):=
 Xx (k:=27) (i:=12) (j:=13) (z := "<tab>") (y := "<tab2>") hF hc ZO rfl (B6 'b') rfl (B6 'b') λA outer s H E hr=>
  (have x0:Nx ["_law_point"]:=⟨⟩;have x1:Nx ["_law_turn"]:=⟨⟩;have x2:Nx ["_law_term_here"]:=⟨⟩;(qF '1' (qW '1')))
def YJ{f c Pt d a:af}{b:d0}(e:L2.Fun K "law" "law" (top 66) f b)(g:b.code=.ref c)(h:Ar K mg "covers" (top 43) d)(T:Txt K mg)(B:HV mg base)(L:uF mg base c Pt)(i:uF mg base d a):oY P w K mg base (sj P w Cl) 28 f b ["_law_script"] (BY K (Xk Cl) 1 Pt a (F_law Pt a)):=
 Z4 e g T B h L i
end
def fa_mk{K:ak}{h:aS}{c:aq->Option ae}(X:K.In h)(G:h.Ns bX c){n:aq}{b:dh}{f:af}{e g:Option af}{sl:Array (Option ae)}{i j m o p d:ae}(a:il K bX n=YP (YP (.ref f)))
  (l:K.lookup f=YP ⟨i,e,.func (br n n (vS b) (tP b) (qz b) .none j m o g d p),sl⟩) (q:dE K d n=JQ) (k:cZ K (.ref f)=JQ):qL K c n b:=⟨f,_,cR X G a,La l q k⟩
def gs_mk{K:ak}{h:aS}{a:aq->Option ae}(X:K.In h)(G:h.Ns bX a){n:aq}{cs:pU}{t:Tok}(s:il K bX n=YP (YP (.str ⟨cs.toArray⟩ t))):KE a n cs:=⟨_,cR X G s⟩
def gt_mk{K:ak}{h:aS}{a:aq->Option ae}(X:K.In h)(G:h.Ns bX a){n:aq}{b:List (Int×Int)}{e:af}{o:Obj}(d:il K bX n=YP (YP (.ref e)))(u:K.lookup e=YP o)(v:HL o b=JQ)(y:(e==sysModules)=JU):B1 K a n b:=⟨_,_,cR X G d,u,v,y⟩
def all_mk{P:aK}{w:aT}{K:ak}{h:aS}{b:aq->Option ae}{I:af}(X:K.In h)(G:h.Ns bX b)(y:b "law" = YP (.ref I))(T:Txt K b)
  {f:af} {W J:Option af} {sl:Array (Option ae)} {Y M N O Q:ae} {j:af} (a:il K bX "law" = YP (YP (.ref f)))
  (l:K.lookup f=YP ⟨Y,W,.func (br "law" "law" (vS (top 66)) (tP (top 66)) (qz (top 66)) .none M N O J (.ref j) Q),sl⟩) (q:dE K (.ref j) "law" = JQ) (k:cZ K (.ref f)=JQ)
  {x:af} {z A:Option af} {Z:Array (Option ae)} {B C D E F:ae} {m:af} (R:il K bX "covers" = YP (YP (.ref x)))
  (S:K.lookup x=YP ⟨B,z,.func (br "covers" "covers" (vS (top 43)) (tP (top 43)) (qz (top 43)) .none C D E A (.ref m) F),Z⟩) (q2:dE K (.ref m) "covers" = JQ) (k2:cZ K (.ref x)=JQ)
  (H:lS K 37 HE "ValueError.__new__" = JQ)
  {i:af} {n:ae} {o:Option af} {p:Array (Option ae)} {d:Array ae} (h6:K.lookup m=YP ⟨n,o,.fields d,p⟩) (h7:d[11]?=YP (.ref i))
  {Pt:af} {r:ae} {t:Option af} {v:Array (Option ae)} {g:Array ae} (h4:K.lookup j=YP ⟨r,t,.fields g,v⟩) (h5:g[11]?=YP (.ref Pt)) (N5:jv K=JQ)
  : jv K=JQ/\∃(c Pt U i:af),gQ K "law" = YP (c,Pt)/\gQ K "covers" = YP (U,i)/\∃V:d0,(∀(s:ah)(u:ae),i7 s V ⟨[u],[]⟩ [("_law_script",u)])/\∀base:aS,K.In base->base.Ns bX b->uF b base c Pt->uF b base U i->oY P w K b base (sj P w Cl) 28 I V ["_law_script"] (BY K (Xk Cl) 1 Pt i (F_law Pt i)):=by have hF:L2.Fun K "law" "law" (top 66) f (br "law" "law" (vS (top 66)) (tP (top 66)) (qz (top 66)) .none M N O J (.ref j) Q):=La l q k;have e:=y.symm.trans (cR X G a);cases e;have hT:Ar K b "covers" (top 43) m:=⟨x,_,cR X G R,La S q2 k2,rfl⟩;exact⟨N5,j,Pt,m,i,RD a l h4 h5,RD R S h6 h7,_,λs u=>.of_eq rfl,λbase kb nb L LQ=>YJ hF rfl hT T ⟨ziM kb T.w71 H⟩ L LQ⟩
end K11
-- Xp 28
namespace K11
open PySem DL
def BV:D->Bool
 |.non=>JQ
 |.bl _=>JQ
 |.int _=>JQ
 |.str _=>JQ
 |_=>JU
def zh:D->Bool
 |.tup ds=>ds.all BV
 |d=>BV d
def Pl(O:Ow):Prop:=∀c∈O,∀d∈c,zh d=JQ
def QC{p:D->Prop}(h0:p .non)(a:∀b,p (.bl b))(c:∀i,p (.int i))(e:∀w,p (.str w)):∀{d:D},BV d=JQ->p d
 |.non,_=>h0
 |.bl b,_=>a b
 |.int i,_=>c i
 |.str w,_=>e w
def Rt{p:D->Prop}(h:∀{d:D},BV d=JQ->p d)(a:∀ds:List D,(∀d∈ds,BV d=JQ)->p (.tup ds)):∀{d:D},zh d=JQ->p d
 |.tup ds,q=>a ds (aD.mp q)
 |.non,q=>h q
 |.bl _,q=>h q
 |.int _,q=>h q
 |.str _,q=>h q
theorem Lo:∀{ds:List D},(∀d∈ds,nm d=JQ)->nms ds=JQ
 |[],_=>rfl
 | d::ds,h=>by
  unfold nms;rw[h d av,Lo λx a=>h x (al _ a)];rfl
def RF{d:D}:BV d=JQ->nm d=JQ:=QC (p:=λd=>nm d=JQ) rfl (λ_=>rfl) (λ_=>rfl) (λ_=>rfl)
def ZQ{d:D}:zh d=JQ->nm d=JQ:=Rt RF λb h=>by
 exact Lo λd a=>RF (h d a)
def Pl.nms(h:Pl O):O.all nms=JQ:=aD.mpr λc a=>Lo λd b=>ZQ (h c a d b)
def II{O:Ow}{n f:Nat}{d:D}:zh d=JQ->frz O n (f+1) d=YP d:=by
 have a:∀{f:Nat}{d:D},BV d=JQ->frz O n f d=YP d:=λ{f}{d}=>QC (p:=λd=>frz O n f d=YP d) (by cases f<;>rfl) (λ_=>by cases f<;>rfl) (λ_=>by cases f<;>rfl) (λ_=>by cases f<;>rfl);exact Rt a λb h=>by
  show(qx (frz O n f) b).map D.tup=_;rw[D2 λd c=>a (h d c)];rfl
def DZ(a:Pl O')(X:Ow)(h:frz (O'++X) O'.length 8 d=YP d'):yt O'.length (.ok d (O'++X))=.ok d' O':=by
 unfold yt;dsimp only;rw[h];have:(O'++X).take O'.length=O':=by simp
 rw[this,D2 λc b=>D2 λd e=>II (a c b d e)]
def AH:(O++[x])[O.length]?=YP x:=by simp
def Ur:(O++[x]).set O.length y=O++[y]:=by simp
def Uq(a:Pl O)(h:∀d∈ds,zh d=JQ):yt O.length (.ok (.own O.length) (O++[ds]))=.ok (.lst ds) O:=DZ a _ (by
 unfold frz;dsimp only;rw[JW (bP _),AH];dsimp only;rw[D2 λd b=>II (h d b)];rfl)
def Pl.app(h:Pl O)(a:Pl X):Pl (O++X):=λc b=>(aP.mp b).elim (h c) (a c)
def Pl.one(h:Pl O)(a:∀d∈c,zh d=JQ):Pl (O++[c]):=h.app λx b=>by
 rw[cE.mp b];exact a
def Pw(s:Int)(b:Bool):∀d∈[D.int s,D.bl b],zh d=JQ:=λd a=>by
 simp at a;rcases a with rfl|rfl<;>rfl
def Pl.set(h:Pl O)(m:Nat)(s:Int)(b:Bool):Pl (O.set m [.int s,.bl b]):=λc e d a=>by
 rcases hU e with q|rfl
 ·exact h c q d a
 ·exact Pw s b d a
def SD(l:o_):∀d∈l.map D.str,zh d=JQ:=λd a=>by
 obtain⟨x,_,rfl⟩:=aA.mp a;rfl
noncomputable def Y1:Nat->o_
 |0=>[[]]
 |n+1=>(Y1 n).flatMap λt=>[t++[45],t++[48],t++[49]]
noncomputable def QI:Nat->pU
 |45=>[0,1]
 |48=>[0]
 |_=>[1]
def qP(cs:pU):pU:=cs.foldl (λps c=>ps.flatMap λp=>(QI c).map (2*p + ·)) [0]
def rW(l:pU):List D:=l.map λ(p:Nat)=>D.int (p:Int)
def oZ:o_:=Y1 1++Y1 2++Y1 3++Y1 4
def N4:pU:=[1,2,3,4]
def Li(a:1<=n)(b:n<=4):n∈N4:=by
 have:n=1\/n=2\/n=3\/n=4:=by lia
 rcases this with rfl|rfl|rfl|rfl<;>simp[N4]
def Bb(a:1<=n)(b:n<=4):n=1\/n=2\/n=3\/n=4:=by lia
def zgo(O:Ow):(oZ.map λcs=>BF [.str cs] O)=oZ.map λcs=>R.ok (.lst (rW (qP cs))) O:=by kernel_rfl
def Ju(h:cs∈oZ)(O:Ow):BF [.str cs] O=.ok (.lst (rW (qP cs))) O:=cK.mp (zgo O) cs h
def v8:Nat->Nat->pU
 |0,_=>[]
 |n+1,p=>v8 n (p/2)++[48+p%2]
noncomputable def sgn(c:Nat):Bool:=c==45||c==48||c==49
def pO:List (pU×Nat):=oZ.flatMap λcs=>(bE (2 ^ cs.length)).map λp=>(cs,p)
def pJ:List (Nat×Nat):=N4.flatMap λn=>(bE (2 ^ n)).map λp=>(n,p)
def Ue(O:Ow):(pJ.map λq=>Eb [.int (q.1:Nat),.int (q.2:Nat)] O)=pJ.map λq=>R.ok (.str (v8 q.1 q.2)) O:=by kernel_rfl
def LY(a:1<=n)(b:n<=4)(c:p<2 ^ n):(n,p)∈pJ:=fX.mpr ⟨n,Li a b,aA.mpr ⟨p,bZ.mpr c,rfl⟩⟩
def zdN(h:cs∈oZ)(a:p<2 ^ cs.length):(cs,p)∈pO:=fX.mpr ⟨cs,h,aA.mpr ⟨p,bZ.mpr a,rfl⟩⟩
def vI(a:1<=n)(b:n<=4)(h:cs∈Y1 n):cs∈oZ:=by unfold oZ;rcases Bb a b with rfl|rfl|rfl|rfl<;>simp[h]
def zhr:(oZ.all λcs=>decide (1<=cs.length)&&decide (cs.length<=4)&&cs.all sgn&&((qP cs).all λp=>decide (p<2 ^ cs.length))&&decide ((qP cs).length<=16)&&decide ((bE (2 ^ cs.length)).filter (λp=>(qP cs).contains p)=qP cs))=JQ:=by decide +kernel
structure TT(cs:pU):Prop where
 l1:1<=cs.length
 l4:cs.length<=4
 sg:∀c∈cs,sgn c=JQ
 lt:∀p∈qP cs,p<2 ^ cs.length
 few:(qP cs).length<=16
 fil:(bE (2 ^ cs.length)).filter (λp=>(qP cs).contains p)=qP cs
def tt(h:cs∈oZ):TT cs:=by have:=aD.mp zhr cs h;simp only[be,decide_eq_true_eq,aD] at this;obtain⟨⟨⟨⟨⟨a,b⟩,c⟩,d⟩,e⟩,f⟩:=this;exact⟨a,b,c,d,e,f⟩
def zeN:(N4.all λn=>((Y1 n).all λcs=>cs.length==n)&&decide ((Y1 n).length<=81)&&decide ((Y1 n).Pairwise (· < ·)))=JQ:=by decide +kernel
def Ft(a:1<=n)(b:n<=4):(∀cs∈Y1 n,cs.length=n)/\(Y1 n).length<=81/\(Y1 n).Pairwise (· < ·):=by have:=aD.mp zeN n (Li a b);simp at this;exact⟨this.1.1,this.1.2,this.2⟩
def Ml(a:1<=n)(b:n<=4)(h:cs∈Y1 n):cs.length=n:=(Ft a b).1 cs h
def UY(a:1<=n)(b:n<=4)(h:cs∈Y1 n):∀c∈cs,sgn c=JQ:=(tt (vI a b h)).sg
def DY(h:cs∈oZ):(qP cs).length<=16:=(tt h).few
def D_(a:n<=4):2 ^ n<=16:=aM (fO 'u' a) 'u'
def D0(a:1<=n)(b:n<=4)(h:cs∈Y1 n)(c:p∈qP cs):p<2 ^ n:=by have:=(tt (vI a b h)).lt p c;rwa [Ml a b h] at this
theorem Jg:∀(n:Nat)(cs:pU),cs.length=n->(∀c∈cs,sgn c=JQ)->cs∈Y1 n
 | 0,cs,h,_=>by
  rw[cY.mp h];simp[Y1]
 | n+1,cs,h,hs=>by
  have b:cs≠[]:=by intro e;subst e;simp at h
  obtain⟨t,c,rfl⟩:∃t c,cs=t++[c]:=⟨_,_,(List.dropLast_concat_getLast b).symm⟩;have a:=hs c 'k';unfold sgn at a;simp at a;exact fX.mpr ⟨t,Jg n t ⇑h λc d=>hs c (ci _ d),by rcases a with(z|z)|z<;>rw[z]<;>simp⟩
def U9(h:(bE n)[k]?=YP a):a=k/\k<n:=by obtain⟨b,rfl⟩:=am.mp h;exact⟨by simp,by simpa using b⟩
def K8{σ:Sg}{O O1:Ow}{t:DE}{n:Nat}(a:n<=4)(h:t σ O=.ok (.int n) O1):h_ (fI zP) qO t σ O=.ok (.int ((2 ^ n:Nat):Int)) O1:=by
 refine qi rfl h ?_;have:n=0\/n=1\/n=2\/n=3\/n=4:=by lia
 rcases this with rfl|rfl|rfl|rfl|rfl<;>rfl
def Uk(hi:σ[i]?=YP (uz k))(a:t σ O=.ok y O1)(b:O1[k]?=YP ds)(c:ds.length<4000000):
  yX (BX (qC i) (a_ t d_)) σ O=.nx σ (O1.set k (ds++[y])):=by refine S7 (x:=.non) ?_;unfold BX qC;rw[hi];show((a_ t d_ σ O).bnd _)=_;rw[p9 a];show(match [y],O1[k]? with|[y],YP ds=>if ds.length<4000000 then R.ok D.non (O1.set k (ds++[y])) else R.bad|_,_=>R.bad)=_;rw[b];exact JV c
def z8e{α:Type}{l:List α}{p:α->Bool}{k:Nat}{a:α}(h:l[k]?=YP a):(l.take (k+1)).filter p=(l.take k).filter p++(if p a=JQ then [a] else []):=by rw[gu,h,mH];cases b:p a<;>simp[b]
def grown{α:Type}{O:Ow}{l:List α}{inj:α->D}{p:α->Bool}{k:Nat}{a:α}(h:l[k]?=YP a):(if p a=JQ then (O++[((l.take k).filter p).map inj]).set O.length (((l.take k).filter p).map inj++[inj a]) else O++[((l.take k).filter p).map inj])=O++[((l.take (k+1)).filter p).map inj]:=by rw[z8e h];cases p a<;>simp
def zeH(O:Ow)(x y:Option D):(pO.map λq=>K6 [su q.1,x,y,su (v8 q.1.length q.2)] O)=pO.map λq=>R.ok ((qP q.1).contains q.2) O:=by kernel_rfl
def JG{cs:pU}(h:cs∈oZ){O:Ow}(o:Pl O):z_ [.str cs] O=.ok (.lst (rW (qP cs))) O:=by
 have T:=tt h;have q:=T.l1;have f:=T.l4;have u:=D_ f;have g:∀{b a},qC 0 b a=.ok (.str cs) a->pW rQ (a_ j_ d_) b a=.ok (.int (cs.length:Nat)) a:=λe=>sD (p9 e) (IZ 'd');let st (y z:Option D):Sg:=[su cs,uz O.length,y,z];obtain⟨r,a,j,y,z,rfl,rfl⟩:=Ck (i:=2) (body:=pV (qo 3 (k_ 2 Eb (a_ (pW rQ (a_ j_ d_)) (a_ qg d_)))) (rL K6 (yX (BX n_ (a_ qg d_))) rF)) (AI (p9 (K8 f (g rfl))) 'd') (λk b a=>∃y z,b=st y z/\a=O++[(((bE (2 ^ cs.length)).take k).filter λp=>(qP cs).contains p).map λ(p:Nat)=>D.int (p:Int)]) (λk p b a l s=>by
  obtain⟨y,z,rfl,rfl⟩:=s;obtain⟨rfl,m⟩:=U9 l;refine⟨st (rz (p:Nat)) (su (v8 cs.length p)),_,rR (qy (qI (g rfl) rfl) (cK.mp (Ue _) (_,p) (LY q f m))) ((xF (cK.mp (zeH _ _ _) (cs,p) (zdN h m))).trans (?_:_=RS.nx _ _)),_,_,rfl,(grown l)⟩;have c:=bz (λp=>(qP cs).contains p) ((bE (2 ^ cs.length)).take p);rw[bI,cX] at c;cases (qP cs).contains p with
  |false=>rfl
  |true=>exact Uk rfl rfl AH (by rw[aI];lia)) ⟨JL,JL,rfl,rfl⟩
 rw[<- cX (n:=2 ^ cs.length),gH,cX,T.fil] at j;show yt O.length (fin (MZ [su cs,JL,JL,JL] O))=_;have e:MZ [su cs,JL,JL,JL] O=.rt (.own O.length) (O++[rW (qP cs)]):=by
  exact rR rfl (yD j (uJ rfl))
 rw[e];exact Uq o λd t=>by
  obtain⟨p,_,rfl⟩:=aA.mp t;rfl
def SR(n:Nat)(l:pU):(rW l).all (pl n)=JQ:=zhP n l
def Fk(O:Ow)(p:Nat)(l:pU):xu O (.int (p:Int)) (.lst (rW l))=.ok (.bl (l.contains p)) O/\zT O (.int (p:Int)) (.lst (rW l))=.ok (.bl (!l.contains p)) O:=Ys O rfl (SR 7 l) (.inl rfl) (by
 rw[b9];constructor
 ·intro h;exact aA.mpr ⟨p,h,rfl⟩
 ·intro h;obtain⟨j,h,e⟩:=aA.mp h;injection e with e;rwa [<- show j=p by lia])
def HW(O:Ow)(h:l.all (pl 7)=JQ):qd sv O (.lst l) (.lst [])=.ok (.bl l.isEmpty) O/\qd rM O (.lst l) (.lst [])=.ok (.bl (!l.isEmpty)) O:=Lg O h rfl (by cases l<;>simp)
def Ly{k:Nat}{l:o_}(h:∀t∈l,t∈oZ):(l.map D.str).all (pl k)=JQ:=aD.mpr λd a=>by
 obtain⟨t,b,rfl⟩:=aA.mp a;have:(t.all λc=>decide (c<1114112))=JQ:=aD.mpr λc e=>by
  have:=(tt (h t b)).sg c e;unfold sgn at this;simp at this;rcases this with(rfl|rfl)|rfl<;>rfl
 cases k<;>exact this
def L7(O:Ow)(l:pU):qd sv O (.lst (rW l)) (.lst [])=.ok (.bl l.isEmpty) O/\qd rM O (.lst (rW l)) (.lst [])=.ok (.bl (!l.isEmpty)) O:=by rw[<- nH];exact HW O (SR 7 l)
def LZ(O:Ow){l:o_}(h:∀t∈l,t∈oZ):qd sv O (.lst (l.map D.str)) (.lst [])=.ok (.bl l.isEmpty) O/\qd rM O (.lst (l.map D.str)) (.lst [])=.ok (.bl (!l.isEmpty)) O:=by rw[<- nH];exact HW O (Ly h)
def BC{α:Type}{l:List α}{p:α->Bool}:(l.filter p).isEmpty=l.all λx=>!p x:=by rw[eM,nJ,kT,aD];simp
def Ba(d:D):Prop:=d=.int 0\/d=.int 1\/d=.non
def yK:D->Bool
 |.int 0=>JQ
 |_=>JU
def Er:D->Bool
 |.int 1=>JQ
 |_=>JU
structure Fn(n:Nat)(f:List D):Prop where
 n1:1<=n
 n4:n<=4
 len:f.length=2 ^ n
 ans:∀d∈f,Ba d
def rC(f:List D)(cs:pU):Bool:=(qP cs).all λp=>!yK (f.getD p .non)
def B0(f:List D)(cs:pU):Bool:=(qP cs).any λp=>Er (f.getD p .non)
def Ww(O:Ow)(h:Ba d):qd sv O d (.int 0)=.ok (.bl (yK d)) O/\qd rM O d (.int 0)=.ok (.bl (!yK d)) O:=by rcases h with rfl|rfl|rfl<;>exact⟨rfl,rfl⟩
def JZ(O:Ow)(h:Ba d):qd sv O d (.int 1)=.ok (.bl (Er d)) O:=by rcases h with rfl|rfl|rfl<;>rfl
def Ua(O:Ow)(f:List D):rQ O [.tup f]=.ok (.int f.length) O:=rfl
section
variable{n:Nat}{f:List D}(hf:Fn n f)
include hf
theorem BZ(b:p<2 ^ n):Ba (f.getD p .non)/\∀O:Ow,rn O (.tup f) (.int (p:Int))=.ok (f.getD p .non) O:=by
 have a:p<f.length:=by rw[hf.len];exact b
 have e:f.getD p .non=f[p]:=by rw[aV,aw a];rfl
 rw[e];exact⟨hf.ans _ (cS a),λO=>zh3 a⟩
theorem MH(O:Ow):JH [.tup f] O=.ok (.int n) O:=by refine vF ?_;show(match uV BE (f.length:Nat) with|some v=>R.ok (D.int v) O|none=>R.bad)=_;rw[hf.len];rcases Bb hf.n1 hf.n4 with rfl|rfl|rfl|rfl<;>rfl
theorem Jy(O:Ow):Ct [.tup f] O=.ok (.int n) O:=by refine vF ?_;show(match EK [(2,1),(4,2),(8,3),(16,4)] (f.length:Nat) with|some v=>R.ok (D.int v) O|none=>R.bad)=_;rw[hf.len];rcases Bb hf.n1 hf.n4 with rfl|rfl|rfl|rfl<;>rfl
theorem VP(O:Ow):JD [.tup f] O=.ok (.bl JQ) O:=by have c:=D_ hf.n4;have e:=hf.len;show fin (VX [q_ f] O)=_;refine uK (vi (LH (a:=JU) rfl λ_=>ur ?_) (uJ (sD (p9 (xE (by rw[gC];exact zV rfl) 'd' (λ_=>rfl) (λd b=>qy (p9 rfl) (by rcases hf.ans d b with rfl|rfl|rfl<;>rfl)))) ((Cr O f λ_=>JQ).trans 'k'))));show R.ok (D.bl (if JQ=JQ then !(uV BE (f.length:Nat)).isSome else _)) O=_;rw[hf.len];rcases Bb hf.n1 hf.n4 with rfl|rfl|rfl|rfl<;>rfl
theorem zij(O:Ow):M9 [.tup f] O=.ok .non O:=by show fin (JJ [q_ f] O)=_;unfold JJ;rw[xF (vH (uL (qy (p9 rfl) (VP hf O))))];rfl
variable{cs:pU}(h:cs∈Y1 n)
include h
theorem L6(O:Ow):Eg [.tup f,.str cs] O=.ok (.bl (rC f cs)) O:=by
 have a:=vI hf.n1 hf.n4 h;have c:=DY a;show fin (M4 [q_ f,su cs] O)=_;exact vF (sD (p9 (xE (uI (qy (p9 rfl) (Ju a O))) 'd' (λ_=>rfl) (λp b=>
  have q:=BZ hf (D0 hf.n1 hf.n4 h b)
  qi (qi rfl rfl (q.2 O)) rfl (Ww O q.1).2))) (Cr O _ _))
theorem z5C(O:Ow):MN [.tup f,.str cs] O=.ok (.bl (B0 f cs)) O:=by
 have a:=vI hf.n1 hf.n4 h;have c:=DY a;show fin (MX [q_ f,su cs] O)=_;exact vF (sD (p9 (xE (uI (qy (p9 rfl) (Ju a O))) 'd' (λ_=>rfl) (λp b=>
  have q:=BZ hf (D0 hf.n1 hf.n4 h b)
  qi (qi rfl rfl (q.2 O)) rfl (JZ O q.1)))) (T3 O _ _))
theorem Js{O:Ow}(b:Pl O):Ac [.tup f,.str cs] O=.ok (.bl (rC f cs)) O:=by
 have a:=vI hf.n1 hf.n4 h;have d:=DY a;show fin (ME [q_ f,su cs] O)=_;refine vF ((qi (vP (uI (qy (p9 rfl) (JG a b))) 'd' (λ_=>rfl) (λp c=>
  have q:=BZ hf (D0 hf.n1 hf.n4 h c)
  ur (qi (qi rfl rfl (q.2 O)) rfl (Ww O q.1).1)) (λ_ _ _=>rfl)) rfl (L7 O _).1).trans ?_)
 rw[BC];rfl
end
def DG(n:Nat)(f:List D):o_:=(Y1 n).filter (rC f)
def HB(f:List D)(cs:pU)(k:Nat):Bool:=cs.getD k 0 !=45&&rC f (cs.set k 45)
def yE(f:List D)(cs:pU):Bool:=!(bE cs.length).any (HB f cs)
def zM(f:List D)(cs:pU):Bool:=B0 f cs&&yE f cs
def sI(n:Nat)(f:List D):o_:=(DG n f).filter (zM f)
noncomputable def allS:List (pU×Nat):=oZ.flatMap λcs=>(bE cs.length).map λk=>(cs,k)
def Mb(h:cs∈oZ)(a:k<cs.length):(cs,k)∈allS:=fX.mpr ⟨cs,h,aA.mpr ⟨k,bZ.mpr a,rfl⟩⟩
def Jk(a:1<=n)(b:n<=4)(h:cs∈Y1 n)(k:Nat):cs.set k 45∈Y1 n:=Jg n _ (by rw[cG,Ml a b h]) λc d=>by
 rcases hU d with q|rfl
 ·exact UY a b h c q
 ·rfl
def ziJ(O:Ow)(x:Option D):(allS.map λq=>(MK [.str q.1,.int (q.2:Nat),.str [45]] O,h_ (qd rM) (h_ rn n_ qg) yS [x,su q.1,rz (q.2:Nat)] O))=allS.map λq=>(R.ok (.str (q.1.set q.2 45)) O,R.ok (.bl (q.1.getD q.2 0 !=45)) O):=by kernel_rfl
def z6u(O:Ow):(N4.map λn=>(Jt [.int (n:Nat)] O,FP [.int (n:Nat)] O))=N4.map λn=>(R.ok (.lst ((Y1 n).map .str)) O,R.ok (.lst ((Y1 n).map .str)) O):=by kernel_rfl
def Ta{n:Nat}(a:1<=n)(b:n<=4)(O:Ow):Jt [.int n] O=.ok (.lst ((Y1 n).map .str)) O/\FP [.int n] O=.ok (.lst ((Y1 n).map .str)) O:=by have:=cK.mp (z6u O) n (Li a b);exact⟨congrArg lD this,congrArg ny this⟩
def zaC{α:Type}{p:α->Bool}{l:List α}{k:Nat}(h:l.length<=k):(l.filter p).length<=k:=aM (bz _ _) h
def D6(h:cs∈DG n f):cs∈Y1 n/\rC f cs=JQ:=bo.mp h
section
variable{n:Nat}{f:List D}(hf:Fn n f)
include hf
theorem zaR:(DG n f).length<=81:=zaC (Ft hf.n1 hf.n4).2.1
theorem U_:∀cs∈sI n f,cs∈oZ:=λcs h=>vI hf.n1 hf.n4 (D6 (bo.mp h).1).1
theorem Ji:(sI n f).Pairwise (· < ·):=((Ft hf.n1 hf.n4).2.2.filter _).filter _
theorem zbx(h:cs∈Y1 n)(O:Ow):MI [.tup f,.str cs] O=.ok (.bl (yE f cs)) O:=by have a:=vI hf.n1 hf.n4 h;have T:=(tt a).l4;show fin (MG [q_ f,su cs] O)=_;refine vF (zgM (sD (p9 (xE (AI (p9 (sD (p9 rfl) (IZ 'd'))) 'd') (by rw[cX];lia) (λ_=>rfl) (λk b=>qy (uu rfl (qI rfl rfl)) ?_))) (T3 O _ _)));have e:=cK.mp (ziJ O (q_ f)) (cs,k) (Mb a (bZ.mp b));exact vF (LG (congrArg ny e) λ_=>qy (qI rfl (qy (uu rfl (qI rfl rfl)) (congrArg lD e))) (L6 hf (Jk hf.n1 hf.n4 h k) O))
theorem zcB(O:Ow):Jh [.tup f] O=.ok (.lst ((sI n f).map .str)) O:=by
 have g:MM [.tup f] O=.ok (.lst ((DG n f).map .str)) O:=by
  show fin (VD [q_ f] O)=_;exact uK (Lr (qy (p9 rfl) (zij hf O)) (uJ (vP (uI (qy (p9 (qy (p9 rfl) (MH hf O))) (Ta hf.n1 hf.n4 O).1)) (by have:=(Ft hf.n1 hf.n4).2.1;lia) (λ_=>rfl) (λt a=>uL (qy (qI rfl rfl) (L6 hf a O))) (λ_ _ _=>rfl))))
 show fin (Mw [q_ f] O)=_;exact vF (vP (uI (qy (p9 rfl) g)) (by have:=zaR hf;lia) (λ_=>rfl) (λt a=>Te (uL (qy (qI rfl rfl) (z5C hf (D6 a).1 O))) λ_=>uL (qy (qI rfl rfl) (zbx hf (D6 a).1 O))) (λ_ _ _=>rfl))
omit hf in
theorem zhl(O:Ow)(a b c d:Option D):(allS.map λq=>(KG [a,b,su q.1,c,d,rz (q.2:Nat)] O,KD [a,b,su q.1,c,d,rz (q.2:Nat)] O))=allS.map λq=>(R.ok (.str (q.1.set q.2 45)) O,R.ok (q.1.getD q.2 0 !=45) O):=by kernel_rfl
theorem zeg{cs:pU}(h:cs∈Y1 n){O:Ow}(l:Pl O){k:Nat}{c:List D}(b:O[k]?=YP c)(A:c.length<4000000)(r d:Option D):
  ∃B C,PJ [q_ f,uz k,su cs,r,d] O=.nx [q_ f,uz k,su cs,B,C] (if (rC f cs&&zM f cs)=JQ then O.set k (c++[.str cs]) else O):=by
 have m:=vI hf.n1 hf.n4 h;have T:=tt m;have K:=T.l4;have s:=T.few;let st (x y:Option D):Sg:=[q_ f,uz k,su cs,x,y];let a:=(qP cs).filter λp=>Er (f.getD p .non);let g:=((bE cs.length).filter λk=>cs.getD k 0 !=45).map λk=>cs.set k 45;have u:=vP (o:=JU) (ext:=1) (i:=5) (it0:=qA (k_ 1 z_ (a_ qg d_))) (σ:=st r d) (t:=qt (h_ (qd sv) (h_ rn j_ uc) qO)) (te:=qC 5) (uI (qy (p9 rfl) (JG m l))) 'd' (λ_=>rfl) (λp s=>
  have q:=BZ hf (D0 hf.n1 hf.n4 h s)
  ur (qi (qi rfl rfl (q.2 O)) rfl (JZ O q.1))) (λ_ _ _=>rfl)
 have E:(!a.isEmpty)=B0 f cs:=by
  rw[BC,iA];simp[B0]
 have j:DD (qt (h_ (qd rM) qB uU)) (rK (k_ 2 Ac (a_ j_ (a_ qg d_)))) (st (rq (rW a)) d) O=.ok (B0 f cs&&rC f cs) O:=
  Te (E▸ur (qi rfl rfl (L7 O a).2)) λ_=>uL (qy (qI rfl rfl) (Js hf h l))
 have F:(rC f cs&&zM f cs)=(B0 f cs&&rC f cs&&yE f cs):=by
  unfold zM;rw[<- Bool.and_assoc,oB (rC f cs)]
 rw[F];cases v:(B0 f cs&&rC f cs) with
 | false=>
  rw[v] at j;exact⟨_,_,rR u ((xF j).trans rfl)⟩
 | true=>
  rw[v] at j;have w:=λ(i:Nat)(G:i<cs.length)=>cK.mp (zhl O (q_ f) (uz k) (rq (rW a)) d) (cs,i) (Mb m G);have H:=vP (o:=JU) (ext:=1) (i:=5) (it0:=tD (a_ (pW rQ (a_ qg d_)) d_)) (σ:=st (rq (rW a)) d) (t:=KD) (te:=KG) (AI (p9 (sD (p9 rfl) (IZ 'd'))) 'd') (by rw[cX];lia) (λ_=>rfl) (λk b=>congrArg ny (w k (bZ.mp b))) (λk b _=>congrArg lD (w k (bZ.mp b)));have z:∀o∈g,o∈Y1 n:=λo e=>by
   obtain⟨k,_,rfl⟩:=aA.mp e;exact Jk hf.n1 hf.n4 h k
  have I:(g.filter (rC f)).isEmpty=yE f cs:=by
   rw[BC];rw[List.all_map,List.all_filter,iA];unfold yE HB;congr 2;funext k;simp
  have J:qt (h_ (qd sv) (qp JU 1 (qA qE) (.one 5) [(rK (k_ 2 Ac (a_ j_ (a_ uc d_))))] [] uc) uU) (st (rq (rW a)) (rq (g.map .str))) O=.ok (yE f cs) O:=
   I▸ur (qi (vP (uI rfl) (by
    have:=bz (λk=>cs.getD k 0 !=45) (bE cs.length);rw[cX] at this;rw[aI];lia) (λ_=>rfl) (λo e=>uL (qy (qI rfl rfl) (Js hf (z o e) l))) (λ_ _ _=>rfl)) rfl (LZ O λo e=>vI hf.n1 hf.n4 (z o (bo.mp e).1)).1)
  refine⟨rq (rW a),rq (g.map .str),rR u ((xF j).trans (rR (H.trans ?_) ((xF J).trans ?_)))⟩
  ·rw[bJ];rfl
  ·cases yE f cs with
   |false=>rfl
   |true=>exact Uk rfl rfl b A
theorem z58(j:Pl O):JA [.tup f] O=.ok (.lst ((sI n f).map .str)) O:=by
 have o:=(Ft hf.n1 hf.n4).2.1;obtain⟨q,d,g,h,b,c,rfl,rfl⟩:=Ck (i:=2) (it:=qA (k_ 1 FP (a_ (k_ 1 Ct (a_ j_ d_)) d_))) (uI (qy (p9 (qy (p9 rfl) (Jy hf _))) (Ta hf.n1 hf.n4 _).2)) (λk l d=>∃h b c,l=[q_ f,uz O.length,h,b,c]/\d=O++[(((Y1 n).take k).filter λt=>rC f t&&zM f t).map D.str]) (λk t l d m r=>by
  obtain⟨h,b,c,rfl,rfl⟩:=r;have a:((((Y1 n).take k).filter λt=>rC f t&&zM f t).map D.str).length<4000000:=by
   rw[aI];have:=bz (λt=>rC f t&&zM f t) ((Y1 n).take k);rw[bI] at this;lia
  obtain⟨s,u,e⟩:=zeg hf (aO m) (j.one (SD _)) AH a b c;exact⟨_,_,e,_,_,_,rfl,grown (p:=λt=>rC f t&&zM f t) m⟩) ⟨JL,JL,JL,rfl,rfl⟩
 rw[gH] at g;have e:(Y1 n).filter (λt=>rC f t&&zM f t)=sI n f:=by
  unfold sI DG;rw[mI];congr 1;funext t;rw[oB]
 rw[e] at g;show yt O.length (fin (M8 [q_ f,JL,JL,JL,JL] O))=_;have e:M8 [q_ f,JL,JL,JL,JL] O=.rt (.own O.length) (O++[(sI n f).map .str]):=by
  exact rR rfl (yD g (uJ rfl))
 rw[e];exact Uq j (SD _)
end
structure o4(O:Ow)(m:Nat)(s:Int)(b:Bool):Prop where
 at_:O[m]?=YP [.int s,.bl b]
 nn:0<=s
 lt:b=JU->s<2147483647
def o4.len(h:o4 O m s b):m<O.length:=(am.mp h.at_).1
def Sd(h:O[m]?=YP [x,y]):rn O (.own m) (.int 0)=.ok x O/\rn O (.own m) (.int 1)=.ok y O:=by
 constructor
 ·show(match O[m]? with|some ds=>(match L2.atI ds 0 with|some d=>R.ok d O|none=>R.bad)|none=>_)=_;rw[h];rfl
 ·show(match O[m]? with|some ds=>(match L2.atI ds 1 with|some d=>R.ok d O|none=>R.bad)|none=>_)=_;rw[h];rfl
def LK(a:te σ O=.ok y O1)(b:to σ O1=.ok (.own k) O2)(c:ti σ O2=.ok (.int i) O3)(d:O3[k]?=YP ds)(e:L2.ixN ds.length i=YP j):
  Dq te to ti σ O=.nx σ (O3.set k (ds.set j y)):=by show((te σ O).bnS _)=_;rw[a];show((to σ O1).bnS _)=_;rw[b];show((ti σ O2).bnS _)=_;rw[c];show(match O3[k]? with|some ds=>(match L2.ixN ds.length i with|some j=>RS.nx σ (O3.set k (ds.set j y))|none=>RS.bad)|none=>RS.bad)=_;rw[d];show(match L2.ixN ds.length i with|some j=>RS.nx σ (O3.set k (ds.set j y))|none=>RS.bad)=_;rw[e]
def DW(h:0<j):fI xX O (.int i) (.int j)=.ok (.int (i%j)) O:=by show(match xX i j with|some d=>R.ok d O|none=>R.bad)=_;unfold xX;rw[JV h]
def Qx(h:0<j)(a:j<1073741824):fI Ap O (.int i) (.int j)=.ok (.int (i/j)) O:=by show(match Ap i j with|some d=>R.ok d O|none=>R.bad)=_;unfold Ap;rw[JV ⟨h,a⟩]
def Fq(h:-1000000000000000<i)(a:i<1000000000000000):fI yq O (.int i) (.int j)=.ok (.int (i*j)) O:=by show(match yq i j with|some d=>R.ok d O|none=>R.bad)=_;unfold yq;rw[JV (.inl ⟨h,a⟩)]
def Fz:r8 O (.int i) (.int j)=.ok (.int (i+j)) O:=rfl
def md(x:Int)(h:0<m):0<=x%m/\x%m<m:=⟨Int.emod_nonneg _ 'd',Int.emod_lt_of_pos _ h⟩
def zW(h:o4 O m s b)(k1:1<=k)(k2:k<=1000):
  ∃(r:Nat)(s':Int),r<k/\vm [.own m,.int k] O=.ok (.int r) (O.set m [.int s',.bl b])/\o4 (O.set m [.int s',.bl b]) m s' b:=by
 have d:(0:Int)<(k:Int):=by lia
 have o:∀s',(O.set m [.int s',.bl b])[m]?=YP [D.int s',D.bl b]:=λs'=>by rw[aZ h.len]
 have p:∀x:Int,∃r:Nat,r<k/\x%(k:Int)=(r:Int):=λx=>by
  have:=md x d;exact⟨(x%(k:Int)).toNat,by lia,by lia⟩
 have q:rK (h_ rn j_ qO) [uz m,rz k,JL,JL] O=.ok b O:=uL (qi rfl rfl (Sd h.at_).2);have f:∀{g:Ow}{s':Int}{τ:Sg},g[m]?=YP [D.int s',D.bl b]->h_ rn j_ sk (uz m::τ) g=.ok (.int s') g:=λe=>qi rfl rfl (Sd e).1;have e:∃(r:Nat)(s':Int),r<k/\Vb [uz m,rz k,JL,JL] O=.rt (.int r) (O.set m [.int s',.bl b])/\0<=s'/\(b=JU->s'<2147483647):=by
  cases b with
  | true=>
   obtain⟨r,c,i⟩:=p s;exact⟨r,s/k,c,x_ q (rR (qi (f h.at_) rfl ((DW d).trans (by rw[i]))) (yD (LK (qi (f h.at_) rfl (Qx d 'd')) rfl rfl h.at_ rfl) (uJ rfl))),Int.ediv_nonneg h.nn 'd',λz=>by cases z⟩
  | false=>
   have A:=h.lt rfl;have B:=h.nn;have j:=md (s*48271+29) (m:=2147483647) 'u';generalize t:(s*48271+29)%2147483647=a at j;have u:=md (a*a+39373*a+7) (m:=2147483629) 'u';generalize v:(a*a+39373*a+7)%2147483629=l at u;obtain⟨r,c,i⟩:=p ((l*l+16807*l)%2147483587/8);have n:∀τ:Sg,_:=λτ=>f (τ:=τ) (o a);refine⟨r,a,c,vi q (yD (LK (qi (qi (qi (f h.at_) rfl (Fq 'd' 'd')) rfl Fz) rfl ((DW 'u').trans (by rw[t]))) rfl rfl h.at_ rfl)
    (rR (qi (qi (qi (qi (n _) (n _) (Fq 'd' 'd')) (qi rfl (n _) (Fq 'u' 'u')) Fz) rfl Fz) rfl ((DW 'u').trans (by rw[v])))
    (rR (qi (qi (qi rfl rfl (Fq 'd' 'd')) (qi rfl rfl (Fq 'u' 'u')) Fz) rfl (DW 'u'))
    (uJ (qi (qi rfl rfl (Qx 'u' 'u')) rfl ((DW d).trans (by rw[i]))))))),j.1,λ_=>j.2⟩
 obtain⟨r,s',c,e,w,y⟩:=e;exact⟨r,s',c,uK e,o _,w,y⟩
def zeM{d:List Int}{k:Nat}(O:Ow):∃s b,MV [.lst (d.map .int),.int k] O=.ok (.own O.length) (O++[[.int s,.bl b]])/\o4 (O++[[.int s,.bl b]]) O.length s b:=by
 obtain⟨c,h⟩:∃c:Int,MR [.lst (d.map .int),.int k] O=.ok (.int c) O:=by
  have a:qt (h_ Df n_ (pW rQ (a_ j_ d_))) [rq (d.map .int),rz k] O=.ok (decide ((k:Int)<(d.map D.int).length)) O:=rfl;by_cases i:(k:Int)<(d.map D.int).length
  ·have j:k<(d.map D.int).length:=by lia
   rw[decide_eq_true i] at a;exact⟨d[k]'⇑j,uK (x_ a (uJ (qi rfl rfl ((Bw j).trans 'k'))))⟩
  ·rw[decide_eq_false i] at a;exact⟨0,uK (vi a rfl)⟩
 have l:∀f,h_ (fI B4) (dC (.int 10)) (dC (.int 18)) f O=.ok (.int 1000000000000000000) O:=λf=>qi rfl rfl 'b';have a:qt (h_ G_ qg (h_ (fI B4) (dC (.int 10)) (dC (.int 18)))) [rq (d.map .int),rz k,rz c] O=.ok (decide ((1000000000000000000:Int)<=c)) O:=ur (qi rfl (l _) rfl);have n:∀{g:DA}{f:Sg}{x:Int}{b:Bool},g f O=.ok [.int x,.bl b] O->Bn g f O=.ok (.own O.length) (O++[[.int x,.bl b]]):=λ{g f x b}e=>by
  show((g f O).bnd _)=_;rw[e];rfl
 by_cases o:(1000000000000000000:Int)<=c
 ·rw[decide_eq_true o] at a;exact⟨c-1000000000000000000,JQ,uK (rR (qy (qI rfl rfl) h) (x_ a (uJ (n (qI (qi rfl (l _) rfl) rfl))))),AH,by lia,λz=>by cases z⟩
 ·rw[decide_eq_false o] at a;have:=md c (m:=2147483647) 'u';exact⟨c%2147483647,JU,uK (rR (qy (qI rfl rfl) h) (vi a (uJ (n (qI (qi rfl rfl (DW 'u')) rfl))))),AH,this.1,λ_=>this.2⟩
def ze1{O:Ow}{m:Nat}{x:List D}(h:O[m]?=YP x):O.set m x=O:=by obtain⟨a,rfl⟩:=am.mp h;exact List.set_getElem_self a
def LA{ext:Nat}{it0:DI}{i:Nat}{te:DE}{σ:Sg}{O O0:Ow}{ds:List D}{m:Nat}{s:Int}{b:Bool}{P:D->Prop}{o:Bool}(l:o4 O m s b)(hi:it0 σ O0=.ok (.val ds) O)(u:ds.length<1900000)
  (p:∀d∈ds,∀s',o4 (O.set m [.int s',.bl b]) m s' b->∃v c,te ((qQ (qQ (σ++aB ext JL) [i]) [i]).set i (YP d)) (O.set m [.int s',.bl b])=.ok v (O.set m [.int c,.bl b])/\o4 (O.set m [.int c,.bl b]) m c b/\P v):
  ∃vs s',qp o ext it0 (.one i) [] [] te σ O0=yw o (.ok vs (O.set m [.int s',.bl b]))/\o4 (O.set m [.int s',.bl b]) m s' b/\vs.length=ds.length/\∀v∈vs,P v:=by
 obtain⟨a,f,e,s',rfl,g,h,k⟩:=UE (step:=Bm ⟨it0,.one i,[]⟩ [] te (qQ (σ++aB ext JL) (qM [⟨it0,.one i,[]⟩])))
  (λj f a=>∃s',f=O.set m [.int s',.bl b]/\o4 f m s' b/\a.length=j/\∀v∈a,P v) (λj f a d q n=>by
   obtain⟨s',rfl,g,h,k⟩:=q;have x:=(am.mp n).1;obtain⟨v,c,r,t,y⟩:=p d (aO n) s' g;refine⟨a++[v],_,?_,c,rfl,t,by simp[h],λw hw=>?_⟩
   ·show x8 [] te ((qQ (qQ (σ++aB ext JL) [i]) [i]).set i (YP d)) (O.set m [.int s',.bl b]) a=_;unfold x8;rw[r];exact JV 'd'
   ·rcases aP.mp hw with hw|hw
    ·exact k w hw
    ·rwa [cE.mp hw]) ds.length 0 O [] ⟨s,(ze1 l.at_).symm,l,rfl,by simp⟩ 'd' (cw _)
 refine⟨a,s',?_,g,h,k⟩;unfold qp Cm;rw[hi];show yw o (Af (rB (.val ds) _ ds.length 0 O []))=_;rw[e];rfl
def ziG:∀(cs:pU),1<=cs.length->cs.length<=4->tA σ O=.ok [.lst (cs.map λc=>.str [c])] O'->HY Bg tA σ O=.ok (.str cs) O'
 |[],h,_,_=>by simp at h
 |[a],_,_,h=>by show((tA σ O).bnd _)=_;rw[h];rfl
 |[a,b],_,_,h=>by show((tA σ O).bnd _)=_;rw[h];rfl
 |[a,b,c],_,_,h=>by show((tA σ O).bnd _)=_;rw[h];rfl
 |[a,b,c,d],_,_,h=>by show((tA σ O).bnd _)=_;rw[h];rfl
 |_::_::_::_::_::_,_,h,_=>by simp at h
theorem LO{α:Type}{inj:α->D}{p:α->Prop}:∀(vs:List D),(∀v∈vs,∃c,v=inj c/\p c)->∃cs:List α,vs=cs.map inj/\∀c∈cs,p c
 |[],_=>⟨[],rfl,by simp⟩
 | v::vs,h=>by
  obtain⟨c,rfl,a⟩:=h v av;obtain⟨cs,rfl,b⟩:=LO vs λw d=>h w (al _ d);exact⟨c::cs,rfl,λx f=>(ar.mp f).elim (λe=>by rw[e];exact a) (b x)⟩
def IJ{O:Ow}{m:Nat}{s:Int}{b:Bool}(h:o4 O m s b){n:Nat}(x:1<=n)(y:n<=4):
  ∃cs s',cs∈Y1 n/\y0 [.own m,.int n] O=.ok (.str cs) (O.set m [.int s',.bl b])/\o4 (O.set m [.int s',.bl b]) m s' b:=by
 obtain⟨f,s',g,j,l,o⟩:=LA (i:=2) (it0:=tD (a_ n_ d_)) (σ:=[uz m,rz n]) (te:=h_ rn (dC (.str [48,49,45,45])) (k_ 2 vm (a_ j_ (a_ yr d_)))) (P:=λv=>∃c,v=D.str [c]/\sgn c=JQ) h (AI (p9 rfl) 'd') (by simp;lia) (λd z s' p=>by
  obtain⟨r,q,t,a,e⟩:=zW p (k:=4) 'u' 'u';rw[cF] at a e;refine⟨D.str [[48,49,45,45][r]],q,qi rfl (qy (qI rfl rfl) a) (zh7 'u' t),e,_,rfl,?_⟩;have:r=0\/r=1\/r=2\/r=3:=by lia
  rcases this with rfl|rfl|rfl|rfl<;>rfl)
 obtain⟨cs,rfl,u⟩:=LO f o;have w:cs.length=n:=⇑l
 exact⟨cs,s',Jg n cs w u,vF (ziG cs 'd' 'd' (p9 g)),j⟩
def L8:pU:=[4,3,3,2,4,3,4,1]
def Ls:List (List D):=[[.int 0,.int 1],[.int 0,.int 1,.non],[.int 0,.int 0,.int 0,.int 1,.non],[.int 1,.int 1,.int 1,.int 0,.non]]
def YU(h:r<L8.length):1<=L8[r]/\L8[r]<=4:=by
 have:(L8.all λn=>decide (1<=n)&&decide (n<=4))=JQ:=by decide
 simpa using aD.mp this _ (cS h)
def Yo(h:r<Ls.length):1<=Ls[r].length/\Ls[r].length<=5/\∀d∈Ls[r],Ba d:=by
 have:r=0\/r=1\/r=2\/r=3:=by have:r<4:=h;lia
 rcases this with rfl|rfl|rfl|rfl<;>simp[Ls,Ba]
def zeY(O:Ow)(h:a.length+b.length<=4000000):r8 O (.lst (rW a)) (.lst (rW b))=.ok (.lst (rW (a++b))) O:=by show(if (rW a).length+(rW b).length<=4000000 then R.ok (D.lst (rW a++rW b)) O else R.bad)=_;unfold rW;rw[JV (by rw[aI,aI];exact h),dI]
def YK(h:∀d∈f,Ba d):zh (.tup f)=JQ:=aD.mpr λd a=>by rcases h d a with rfl|rfl|rfl<;>rfl
def Zr{O O1:Ow}(a:Pl O1)(b:O1.length=O.length)(X:Ow){f:List D}(h:∀d∈f,Ba d):yt O.length (.ok (.tup f) (O1++X))=.ok (.tup f) O1:=by rw[<- b];exact DZ a X (II (YK h))
def z8w(hO:Pl O)(h:o4 O m s b):
  ∃n f s',Fn n f/\M3 [.own m] O=.ok (.tup f) (O.set m [.int s',.bl b])/\o4 (O.set m [.int s',.bl b]) m s' b:=by
 obtain⟨r,s1,r1,r2,h1⟩:=zW h (k:=8) 'u' 'u';have hn:=YU r1;generalize hm:L8[r]=n at hn;obtain⟨C,t⟩:=hn;obtain⟨w,E,w1,w2,V⟩:=zW h1 (k:=6) 'u' 'u';rw[cF] at w2 V;have hpw:=D_ t;let A:Option D:=uz m;let N:Option D:=rz n;let W:Option D:=rz w;have G:∀{τ:Sg}{u:Ow},tD (a_ (h_ (fI zP) qO n_) d_) (A::N::τ) u=.ok (.val ((bE (2 ^ n)).map λ(i:Nat)=>D.int (i:Int))) u:=AI (p9 (K8 t rfl)) 'd';have Y:∀{d:DS}{z:RS},d [A,N,W,JL,JL,JL,JL] (O.set m [.int E,.bl b])=z->pV (qo 1 (h_ rn (sH (a_ yr (a_ Du (a_ Du (a_ Dp (a_ yr (a_ Du (a_ yr (a_ qO d_))))))))) (k_ 2 vm (a_ j_ (a_ (dC (.int 8)) d_))))) (pV (qo 2 (k_ 2 vm (a_ j_ (a_ (dC (.int 6)) d_)))) d) [A,JL,JL,JL,JL,JL,JL] O=z:=λe=>
  rR (qi rfl (qy (qI rfl rfl) r2) ((Bw (ds:=rW L8) r1).trans (congrArg (λd=>R.ok d _) ((gJ _).trans (congrArg (λ(x:Nat)=>D.int (x:Int)) hm))))) (rR (qy (qI rfl rfl) w2) e)
 have H:qt (h_ Df qg yr) [A,N,W,JL,JL,JL,JL] (O.set m [.int E,.bl b])=.ok (decide ((w:Int)<4)) (O.set m [.int E,.bl b]):=rfl
 suffices g:∃f s' X,Fn n f/\M0 [A,JL,JL,JL,JL,JL,JL] O=.rt (.tup f) (O.set m [.int s',.bl b]++X)/\o4 (O.set m [.int s',.bl b]) m s' b by
  obtain⟨f,s',X,hf,e,Q⟩:=g;refine⟨n,f,s',hf,?_,Q⟩;show yt O.length (fin (M0 [A,JL,JL,JL,JL,JL,JL] O))=_;rw[e];exact Zr (hO.set m s' b) cG X hf.ans
 by_cases hw:(w:Int)<4
 ·have Et:w<Ls.length:=by show w<4;lia
  obtain⟨l1,l5,la⟩:=Yo Et;rw[decide_eq_true hw] at H;have Z:rn (O.set m [.int E,.bl b]) (.lst (Ls.map D.lst)) (.int w)=.ok (.lst Ls[w]) (O.set m [.int E,.bl b]):=(Bw (by rw[aI];exact Et)).trans (by rw[gJ]);generalize Ls[w]=l at *;obtain⟨a,s3,c1,c2,c3,c4⟩:=LA (i:=7) (te:=h_ rn qB (k_ 2 vm (a_ j_ (a_ (pW rQ (a_ qB d_)) d_)))) (σ:=[A,N,W,rq l,JL,JL,JL]) V G (by simp;lia) (λd F s' Q=>by
   rw[cF] at Q ⊢;obtain⟨q,rD,q1,I,q3⟩:=zW Q l1 'd';rw[cF] at I q3;refine⟨l[q],rD,?_,by rw[cF];exact q3,la _ (cS q1)⟩;rw[cF];exact qi rfl (qy (qI rfl (sD (p9 rfl) rfl)) I) (Bw q1))
  rw[cF] at c1 c2;exact⟨a,s3,[],⟨C,t,by simpa using c3,c4⟩,Y (x_ H (rR (qi rfl rfl Z) (uJ (sD (p9 c1) (by rw[bV];rfl))))),c2⟩
 ·rw[decide_eq_false hw] at H;obtain⟨q,s3,q1,I,h3⟩:=zW V (k:=5) 'u' 'u';rw[cF] at I h3;let st (x y z:Option D):Sg:=[A,N,W,JL,x,y,z];obtain⟨σ',u,f1,v,l,y,rfl,rfl,B,GH⟩:=Ck (i:=5) (it:=tD (a_ (h_ r8 qO (k_ 2 vm (a_ j_ (a_ (dC (.int 5)) d_)))) d_)) (body:=qo 4 (h_ r8 qE (k_ 1 z_ (a_ (k_ 2 y0 (a_ j_ (a_ n_ d_))) d_)))) (l:=bE (1+q)) (AI (p9 ((qi rfl (qy (qI rfl rfl) I) Fz).trans (by congr 2))) 'd') (λi σ u=>∃v l y,σ=st (rq (rW l)) y JL/\u=O.set m [.int v,.bl b]/\o4 u m v b/\l.length<=16*i) (λi k σ u hk hI=>by
   obtain⟨v,l,y,rfl,rfl,B,GH⟩:=hI;have hi:=(U9 hk).2;obtain⟨cs,J,t1,t2,t3⟩:=IJ B C t;rw[cF] at t2 t3;have rg:=DY (vI C t t1);exact⟨_,_,IG (qi rfl (qy (p9 (qy (qI rfl rfl) t2)) (JG (vI C t t1) (hO.set m J b))) (zeY _ 'd')),J,l++qP cs,_,rfl,rfl,t3,by rw[az];lia⟩) ⟨s3,[],JL,rfl,rfl,h3,by simp⟩
  generalize S:O.set m [.int v,.bl b]=c at *;have hl4:c.length=O.length:=by rw[<- S,cG]
  let a:List D:=(bE (2 ^ n)).map λp=>.int (if l.contains p=JQ then 1 else 0);have Eu:a.length=2 ^ n:=by simp[a]
  have Wy:∀d∈a,Ba d:=λd F=>by
   obtain⟨p,_,rfl⟩:=aA.mp F;cases l.contains p
   ·exact .inl rfl
   ·exact .inr (.inl rfl)
  have hc:=xE (o:=JQ) (ext:=1) (i:=7) (σ:=st (rq (rW l)) y JL) (te:=pW B8 (a_ (h_ xu (qC 7) qE) d_)) (e:=λp=>.int (if l.contains p=JQ then 1 else 0)) G (by rw[cX];lia) (λ_=>rfl) (λp _=>sD (p9 (qi rfl rfl (Fk c p l).1)) (by cases l.contains p<;>rfl));have e4:∀{d:DS}{z:RS},d (st (rq (rW l)) y (uz c.length)) (c++[a])=z->pV (qo 4 uU) (pV (vg (tD (a_ (h_ r8 qO (k_ 2 vm (a_ j_ (a_ (dC (.int 5)) d_)))) d_)) (.one 5) (qo 4 (h_ r8 qE (k_ 1 z_ (a_ (k_ 2 y0 (a_ j_ (a_ n_ d_))) d_))))) (pV (qo 6 (qp JQ 1 (tD (a_ (h_ (fI zP) qO n_) d_)) (.one 7) [] [] (pW B8 (a_ (h_ xu (qC 7) qE) d_)))) d)) [A,N,W,JL,JL,JL,JL] (O.set m [.int E,.bl b])=z:=λe=>rR rfl (yD f1 (rR hc e));have T:qt (h_ (qd sv) qg (dC (.int 5))) (st (rq (rW l)) y (uz c.length)) (c++[a])=.ok ((w:Int)==5) (c++[a]):=rfl;have K:∀{L:Ow}{M:List D}{τ:Sg},L.length=c.length->qr (pW vj xA) (st (rq (rW l)) y (uz c.length)) (L++[M])=.rt (.tup M) (L++[M]):=λ{L M _}e=>uJ (sD (p9 rfl) (by
   show(match (L++[M])[c.length]? with|some ds=>R.ok (D.tup ds) _|none=>_)=_;rw[<- e,AH]))
  by_cases h5:((w:Int)==5)=JQ
  ·rw[h5] at T;have Ey:=B.len;have t8:o4 (c++[a]) m v b:=⟨by rw[aL Ey];exact B.at_,B.nn,B.lt⟩;obtain⟨z,J,z1,z2,U⟩:=zW t8 (k:=2 ^ n) mG 'd';rw[lL _ _ Ey,<- S,cF] at z2 U;have P:(O.set m [.int J,.bl b]).length=c.length:=by rw[cG,hl4]
   have z4:=U.at_;rw[aL (by rw[P];exact Ey)] at z4;refine⟨a.set z .non,J,[a.set z .non],⟨C,t,by rw[cG];exact Eu,λd F=>?_⟩,Y (vi H (e4 (yD ((xF T).trans (LK (j:=z) rfl rfl (by rw[<- S];exact qy (qI rfl (K8 t rfl)) z2) (by rw[<- P];exact AH) (by
     unfold L2.ixN;rw[JV 'd',JV (by rw[Eu];lia)];rfl))) ?_))),z4,U.nn,U.lt⟩
   ·rcases hU F with F|rfl
    ·exact Wy d F
    ·exact .inr (.inr rfl)
   ·rw[<- P,Ur,P];exact K (τ:=[]) P
  ·rw[mO.mpr h5] at T;subst S;exact⟨a,v,[a],⟨C,t,Eu,Wy⟩,Y (vi H (e4 (yD ((xF T).trans rfl) (K (τ:=[]) rfl)))),B⟩
def zeO{a:List Int}(d:a.length<=63)(σ:Sg)(c:Nat)(e:c<1000)(h0:qC 0 σ []=.ok (.lst (a.map .int)) []):∃m:Nat,m<100000/\pW E1 (a_ qO (a_ (pW DN (a_ (pW rQ (a_ j_ d_)) (a_ (dC (.int (c:Nat))) d_))) d_)) σ []=.ok (.int (m:Nat)) []:=by have b:pW DN (a_ (pW rQ (a_ j_ d_)) (a_ (dC (.int (c:Nat))) d_)) σ []=.ok (.int (if (c:Int)<((a.map D.int).length:Nat) then (c:Int) else ((a.map D.int).length:Nat))) []:=sD (qI (sD (p9 h0) rfl) rfl) rfl;rw[aI] at b;generalize f:(if (c:Int)<((a.length:Nat):Int) then (c:Int) else ((a.length:Nat):Int))=v at b;refine⟨(if v>1 then v else 1).toNat,by split<;>lia,sD (qI rfl b) ?_⟩;show R.ok (D.int (if v>1 then v else 1)) []=_;congr 2;split<;>lia
def yB:D->pU
 |.str cs=>cs
 |_=>[]
def VS{α:Type}(f:Nat->α):((bE n).map f)[i]?=if i<n then YP (f i) else JL:=by
 rw[bF];by_cases h:i<n
 ·rw[lY h,JV h];rfl
 ·rw[JW h,aY.mpr (by simp;lia)];rfl
theorem Pz{α:Type}{src:Src}{step:D->Ow->List D->R (List D)}{O:Ow}{inj:α->D}{g:α->D}{c:List α}(j:∀i,src.get O i=(c.map inj)[i]?)(k:∀b a r,c=b++a::r->step (inj a) O (b.map g)=.ok (b.map g++[g a]) O):∀(ds b:List α)(f:Nat),c=b++ds->ds.length<=f->rB src step f b.length O (b.map g)=.ok (c.map g) O
 | [],b,f,ha,_=>by
  have e:src.get O b.length=JL:=by rw[j,ha];simp
  have l:c=b:=by rw[ha];simp
  cases f<;>(unfold rB;rw[e,l])
 |d::ds,b,0,_,h=>by simp at h
 | d::ds,b,f+1,ha,h=>by
  unfold rB;have e:src.get O b.length=YP (inj d):=by rw[j,ha];simp
  rw[e];show((step (inj d) O (b.map g)).bnd λm n=>rB src step f (b.length+1) n m)=_;rw[k b d ds ha];have:=Pz j k ds (b++[d]) f (by rw[ha];simp) ⇑h;rw[az,eH,dI] at this;exact this
def ze5{α:Type}{ext i:Nat}{it0:DI}{tk tv:DE}{σ:Sg}{O O0:Ow}{l:List α}{inj key c:α->D}{kk:α->DK}{τ:α->Sg}(hi:it0 σ O0=.ok (.val (l.map inj)) O)(v:l.length<1000)(m:(l.map kk).Nodup)
  (o:∀a,(qQ (qQ (σ++aB ext JL) [i]) [i]).set i (YP (inj a))=τ a) (p:∀a∈l,tk (τ a) O=.ok (key a) O) (g:∀a∈l,xV (key a)=YP (kk a)) (q:∀a∈l,tv (τ a) O=.ok (c a) O):
  Cg ext it0 (.one i) [] [] tk tv σ O0=.ok (.map (l.map kk) (l.map c)) O:=by
 unfold Cg Co;rw[hi];show((Af (rB (.val (l.map inj)) _ ((l.map inj).length) 0 O [])).bnd _)=_;have w:=Pz (src:=.val (l.map inj)) (step:=vh ⟨it0,.one i,[]⟩ [] (Dg tk tv) (qQ (σ++aB ext JL) (qM [⟨it0,.one i,[]⟩]))) (λ_=>rfl) (λd a r h=>by
  have j:a∈l:=by rw[h];simp
  show(match (YP ((qQ (qQ (σ++aB ext JL) [i]) [i]).set i (YP (inj a))):Option Sg) with|some qV=>(vC [] qV O).bnd λb n=>if b=JQ then vD [] (Dg tk tv) qV n (d.map λa=>tZ (kk a,c a)) else .ok (d.map λa=>tZ (kk a,c a)) n|none=>.bad)=_;rw[o a];show((tk (τ a) O).bnd _)=_;rw[p a j];show(match xV (key a) with|some k=>_|none=>_)=_;rw[g a j];rw[q a j];have f:(d.map λa=>tZ (kk a,c a)).length<1000:=by
   rw[aI];have:=congrArg kL h;simp at this;lia
  have s:(d.map λa=>tZ (kk a,c a)).any (Dl (kk a))=JU:=by
   rw[jX];intro x t;obtain⟨b,u,rfl⟩:=aA.mp t;have:kk b≠kk a:=by
    rw[h,dI,bQ,fG] at m;exact m.2.2 _ (aA.mpr ⟨b,u,rfl⟩) _ av
   show ¬ decide (kk b=kk a)=JQ;rw[decide_eq_true_eq];exact this
  show(if _/\_ then R.ok _ O else R.bad)=_;rw[JV ⟨f,s⟩];rfl) l [] ((l.map inj).length) rfl 'k'
 rw[show rB (.val (l.map inj)) _ ((l.map inj).length) 0 O []=_ from w];show R.ok (D.map (El (l.map λa=>tZ (kk a,c a))) (En (l.map λa=>tZ (kk a,c a)))) O=_;have e:(l.map λa=>tZ (kk a,c a))=(l.map λa=>(kk a,c a)).map tZ:=by rw[bJ];rfl
 rw[e,LV,LC,bJ,bJ];rfl
theorem UM{α:Type}{kk:α->DK}{c:α->D}{a:α}:∀{l:List α},a∈l->(l.map kk).Nodup->x9 (kk a) (l.map kk) (l.map c)=YP (c a)
 |[],h,_=>by cases h
 | b::l,h,hn=>by
  rw[bQ,bB] at hn;show(if kk b=kk a then YP (c b) else x9 (kk a) (l.map kk) (l.map c))=_;rcases ar.mp h with rfl|h
  ·rw[JV rfl]
  ·rw[JW (λe=>hn.1 (by rw[e];exact aA.mpr ⟨a,h,rfl⟩))];exact UM h hn.2
def Sr(a:td σ O=.ok (.map ks ds) O)(b:tz σ O=.ok y O)(c:xV y=YP k)(e:x9 k ks ds=YP d):DJ td tz σ O=.ok d O:=by unfold DJ;rw[a];show((tz σ O).bnd _)=_;rw[b];show(match xV y with|some k=>_|none=>_)=_;rw[c];show(match x9 k ks ds with|some d=>R.ok d O|none=>R.bad)=_;rw[e]
noncomputable def sg(cs:pU):Nat:=(cs.filter (· != 45)).length
theorem Uc(x:pU):∀l:o_,(vZ x l).length<=l.length+1
 |[]=>by simp[vZ]
 | y::r=>by
  have:=Uc x r;unfold vZ;split
  ·simp
  ·split
   ·simp
   ·simp;lia
def TM(c:o_):(qX c).length<=c.length:=by
 have:∀(l b:o_),(l.foldl (λl x=>vZ x l) b).length<=b.length+l.length:=λl=>by
  induction l with
  |nil=>intro b;simp
  | cons a l ih=>
   intro b;rw[fv];have d:=ih (vZ a b);have e:=Uc a b;simp;lia
 have:=this c [];simpa [qX] using this
def Iw(h:n<=16):yV O (.str [c]) (.int (n:Nat))=.ok (.str (aB n c)) O:=by
 show(if 0<=((n:Nat):Int)/\((n:Nat):Int)<=16 then R.ok (D.str (aB ((n:Nat):Int).toNat c)) O else R.bad)=_;rw[JV 'd'];have:((n:Nat):Int).toNat=n:=by lia
 rw[this]
def Zd(O:Ow)(ds:List D)(σ:Sg)(b:ds.length<4000000)(h0:qC 0 σ O=.ok (.tup ds) O):vf j_ (sN qO) tI σ O=.ok (.tup (ds.drop 1)) O:=by
 show((qC 0 σ O).bnd _)=_;rw[h0];show(if HT.sIx ds.length 0 (YP 1)=0/\HT.sIx ds.length ds.length JL=ds.length then R.ok (D.tup ds) O else R.ok (D.tup (xY ds (YP 1) JL)) O)=_;have a:HT.sIx ds.length 0 (YP 1)=min 1 ds.length:=HT.sIx_nat ds.length 0 1;cases ds with
 |nil=>rfl
 | cons d r=>
  have:¬ (HT.sIx (d::r).length 0 (YP 1)=0/\HT.sIx (d::r).length (d::r).length JL=(d::r).length):=by
   rw[a];simp
  unfold xY;rw[a,HT.sIx_none];simp
def sS(f:List D):pU:=(bE f.length).filter λp=>Er (f.getD p .non)
def RV(a:Fn n f)(O:Ow):FK [.tup f] O=.ok (.lst (rW (sS f))) O:=by
 have b:=a.len;have c:=D_ a.n4;show fin (MC [q_ f] O)=_;exact vF (vP (AI (p9 (sD (p9 rfl) (Ua O f))) 'd') (by simp;lia) (λ_=>rfl) (λp d=>
  have q:=BZ a (by rw[<- b];exact bZ.mp d)
  ur (qi (qi rfl rfl (q.2 O)) rfl (JZ O q.1))) (λ_ _ _=>rfl))
def pB:p∈sS f↔p<f.length/\Er (f.getD p .non)=JQ:=by unfold sS;rw[bo,bZ]
def FA(a:Fn n f):(sS f).length<=16:=by have b:=bz (λp=>Er (f.getD p .non)) (bE f.length);rw[cX] at b;have c:=D_ a.n4;have d:=a.len;unfold sS;lia
def UK(h:l.Pairwise (· < ·)):qX l=l:=I_ (Cq l) h λx=>zY l
def Ss(h:t σ O=.ok [x] O1)(a:tL O1 x=YP (l.map .str)\/x=.tup (l.map .str))(b:l.length<1000):Ay JU t σ O=.ok (.lst ((qX l).map .str)) O1:=by
 unfold Ay;rw[h];show(match (match tL O1 x with|some ds=>YP ds|none=>AK x) with|some ds=>Pj JU (.ok ds O1)|none=>.bad)=_;have e:(match tL O1 x with|some ds=>YP ds|none=>AK x)=YP (l.map .str):=by
  rcases a with a|rfl
  ·rw[a]
  ·rfl
 rw[e];show(match vB (l.map D.str) with|some ss=>if ss.length<1000 then (if JU=JQ then R.ok (D.own _) _ else R.ok (D.lst ((qX ss).map .str)) O1) else .bad|none=>.bad)=_;rw[DL.strL_map];show(if l.length<1000 then _ else _)=_;rw[JV b];rfl
def A7:pU:=[48,49,45,50]
def zeB(O:Ow):(A7.map λc=>xu O (.str [c]) (.str [45,48,49]))=A7.map λc=>R.ok (.bl (sgn c)) O:=by kernel_rfl
def neI(O:Ow)(a b:Int):qd rM O (.int a) (.int b)=.ok (.bl (a !=b)) O:=rfl
def Xa(O:Ow)(a b:Int):qd sv O (.int a) (.int b)=.ok (.bl (a==b)) O:=rfl
def zaY(f:∀c∈cs,c∈A7)(k:cs.length<=10)(O:Ow):JI [.int (n:Nat),.str cs] O=.ok (.bl (cs.length==n&&cs.all sgn)) O:=by
 have a:pW rQ (a_ n_ d_) [rz (n:Nat),su cs] O=.ok (.int (cs.length:Nat)) O:=(IY (p9 rfl)).trans (IZ 'd');have b:xD (tO (rK (tY "str" n_))) (qt (h_ (qd rM) (pW rQ (a_ n_ d_)) j_)) [rz (n:Nat),su cs] O=.ok (((cs.length:Nat):Int) !=(n:Nat)) O:=by
  have:qt (h_ (qd rM) (pW rQ (a_ n_ d_)) j_) [rz (n:Nat),su cs] O=.ok (((cs.length:Nat):Int) !=(n:Nat)) O:=ur ((Il a rfl).trans (neI O _ _));exact this
 have g:(((cs.length:Nat):Int) !=(n:Nat)) = !(cs.length==n):=by
  rw[eM];simp;lia
 rw[g] at b;have j:=xE (o:=JU) (ext:=1) (i:=2) (it0:=qA n_) (σ:=[rz (n:Nat),su cs]) (te:=h_ xu qg HD) rfl 'd' (λ_=>rfl) (λc h=>(Il rfl rfl).trans (cK.mp (zeB O) c (f c h)));show fin (pV (rL _ vA rF) (qr _) [rz (n:Nat),su cs] O)=_;cases e:(cs.length==n) with
 | false=>
  rw[e] at b;have d:rL (xD (tO (rK (tY "str" n_))) (qt (h_ (qd rM) (pW rQ (a_ n_ d_)) j_))) vA rF [rz (n:Nat),su cs] O=.rt (.bl JU) O:=by rw[xF b];rfl
  rw[RW d];rfl
 | true=>
  rw[e] at b;have d:rL (xD (tO (rK (tY "str" n_))) (qt (h_ (qd rM) (pW rQ (a_ n_ d_)) j_))) vA rF [rz (n:Nat),su cs] O=.nx [rz (n:Nat),su cs] O:=by rw[xF b];rfl
  rw[Fp d,uJ ((IY (p9 j)).trans (Cr O _ _))];rfl
def OR(d:D):Prop:=(∃w:pU,d=.str w/\(∀c∈w,c∈A7)/\w.length<=10)\/(∃xs,d=.tup xs)\/d=.non\/d=.int 0\/d=.bl JQ
def yz(n:Nat):D->Bool
 |.str w=>w.length==n&&w.all sgn
 |_=>JU
def z7W(n:Nat)(h:OR d)(O:Ow):JI [.int (n:Nat),d] O=.ok (.bl (yz n d)) O:=by
 rcases h with⟨w,rfl,a,b⟩|⟨c,rfl⟩|rfl|rfl|rfl
 ·exact zaY a b O
 all_goals rfl
def Bd(l:o_):Bool:=(bE (l.length-1)).all λk=>decide (l.getD k []<l.getD (k+1) [])
def zct(c:l.length<10000)(O:Ow):MF [.tup (l.map D.str)] O=.ok (.bl (Bd l)) O:=by
 have a:E3 (a_ j_ (a_ (vf j_ (sN qO) tI) d_)) [q_ (l.map D.str)] O=.ok (.zip (.val (l.map D.str)) (.val ((l.map D.str).drop 1))) O:=by
  show((a_ j_ (a_ (vf j_ (sN qO) tI) d_) _ O).bnd _)=_;rw[qI rfl (Zd O (l.map D.str) [q_ (l.map D.str)] (by simp;lia) rfl)];rfl
 have b:=Je (o:=JU) (ext:=2) (g:=.two 1 2) (ts:=[]) (te:=h_ EJ n_ qg) (inj:=λk=>D.tup [.str (l.getD k []),.str (l.getD (k+1) [])])
  a (λi=>by
   rw[VS];show(match (l.map D.str)[i]?,((l.map D.str).drop 1)[i]? with|some x,YP y=>YP (D.tup [x,y])|_,_=>JL)=_;rw[mx,bF,bF];by_cases a:i<l.length-1
   ·rw[JV a,aw 'd',show 1+i=i+1 from by lia,aw 'd'];rw[aV,aV,aw 'd',aw 'd'];rfl
   ·rw[JW a,show l[1+i]?=JL from aY.mpr 'd'];cases l[i]?<;>rfl) (by
   show min (l.map D.str).length ((l.map D.str).drop 1).length=_;simp) (by rw[cX];lia) (λk _=>rfl) (λk _=>rfl) (λk d _=>rfl)
 rw[lZ.mpr (λ_ _=>rfl)] at b;show fin (qr _ [q_ (l.map D.str)] O)=_;rw[uJ ((IY (p9 b)).trans (Cr O _ _))];rfl
def SE:Bd l=JQ↔l.Pairwise (· < ·):=by
 constructor
 ·intro h;have a:∀k,k+1<l.length->l.getD k []<l.getD (k+1) []:=λk c=>by
   have:=aD.mp h k (bZ.mpr 'd');simpa using this
  have e:∀d i,i+d+1<l.length->l.getD i []<l.getD (i+d+1) []:=by
   intro d
   induction d with
   |zero=>intro i b;exact a i b
   |succ d ih=>intro i b;exact iY (ih i 'd') (a (i+d+1) 'd')
  refine d8.mpr λi j b f m=>?_;have:=e (j-i-1) i 'd';rw[show i+(j-i-1)+1=j by lia,aV,aV,aw b,aw f] at this;exact this
 ·intro g;unfold Bd;rw[aD];intro k c;have c:=bZ.mp c;have:=d8.mp g k (k+1) 'd' 'd' 'd';rw[aV,aV,aw 'd',aw 'd'];exact decide_eq_true this
def zh2:Bd l=JQ↔l=qX l:=by rw[SE];exact⟨λh=>(UK h).symm,λh=>by rw[h];exact Cq l⟩
def zj(n:Nat)(ds:List D):Bool:=ds.all (yz n)&&Bd (ds.map yB)
def Mn{n:Nat}{ds:List D}(h:ds.all (yz n)=JQ):ds=(ds.map yB).map D.str/\∀cs∈ds.map yB,cs∈Y1 n:=by
 have a:∀d∈ds,d=.str (yB d)/\yB d∈Y1 n:=λd b=>by
  have:=aD.mp h d b;cases d with
  | str w=>
   have this:(w.length==n&&w.all sgn)=JQ:=this;rw[be] at this;exact⟨rfl,Jg n w ⇑this.1 (aD.mp this.2)⟩
  |_=>cases this
 constructor
 ·rw[bJ]
  conv=>lhs;rw[<- jC ds]
  exact gX λd b=>(a d b).1
 ·intro cs c;obtain⟨d,b,rfl⟩:=aA.mp c;exact(a d b).2
def Rx(h:tA σ O=.ok ds O1)(a:ds.length<=4000000):uE tA σ O=.ok (.tup ds) O1:=by show((tA σ O).bnd _)=_;rw[h];show(if ds.length<=4000000 then _ else _)=_;rw[JV a]
def Fe(h:tA σ O=.ok ds O1)(a:ds.length<=4000000):sH tA σ O=.ok (.lst ds) O1:=by show((tA σ O).bnd _)=_;rw[h];show(if ds.length<=4000000 then _ else _)=_;rw[JV a]
def zgZ(h:d∈xY ds lo hi):d∈ds:=cN (cn h)
def zhg(ds:List D)(lo hi:Option Int):(xY ds lo hi).length<=ds.length:=by unfold xY;rw[bI,ck];lia
structure Sub(ds l:List D)(lo hi:Option Int):Prop where
 mem:∀d∈l,d∈ds
 len:l.length<=ds.length
 cut:l.length<=HT.sIx ds.length ds.length hi-HT.sIx ds.length 0 lo
def Bp(h:te σ O=.ok (.tup ds) O)(b:tl σ O=.ok lo O)(c:th σ O=.ok hi O):∃l,vf te tl th σ O=.ok (.tup l) O/\Sub ds l lo hi:=by
 have e:vf te tl th σ O=O7 O (.tup ds) lo hi:=by
  show((te σ O).bnd _)=_;rw[h];show((tl σ O).bnd _)=_;rw[b];show((th σ O).bnd _)=_;rw[c];rfl
 rw[e];show ∃l,(if HT.sIx ds.length 0 lo=0/\HT.sIx ds.length ds.length hi=ds.length then R.ok (D.tup ds) O else R.ok (D.tup (xY ds lo hi)) O)=_/\_;split
 ·rename_i a;exact⟨ds,rfl,λ_ h=>h,ay _,by rw[a.1,a.2];exact ay _⟩
 ·exact⟨_,rfl,λ_ h=>zgZ h,zhg _ _ _,List.length_take_le _ _⟩
def Be(O:Ow)(a:xs.length+ys.length<=4000000):tJ O (.tup xs) (.tup ys)=.ok (.tup (xs++ys)) O:=by
 cases xs with
 |nil=>rfl
 | cons x xs=>
  show(if x::xs≠[]/\(x::xs).length+ys.length<=4000000 then R.ok (D.tup (x::xs++ys)) O else R.bad)=_;rw[JV ⟨by simp,a⟩]
def XY(O:Ow)(a:xs.length+ys.length<=4000000):tJ O (.lst xs) (.lst ys)=.ok (.lst (xs++ys)) O:=by show(if xs.length+ys.length<=4000000 then R.ok (D.lst (xs++ys)) O else R.bad)=_;rw[JV a]
def ziF(O:Ow)(b:Bool):FL [.bl b,.bl b] O=.ok (.bl JQ) O:=by cases b<;>kernel_rfl
def zdB(O:Ow):EN Ca 4 1 E_ (.exc 0 O)=.ok (.lst [.int 0]) O:=by kernel_rfl
def T_(n:Nat)(l:List Int):(l.map D.int).all (pl n)=JQ:=aD.mpr λd a=>by
 obtain⟨i,_,rfl⟩:=aA.mp a;cases n<;>rfl
def Xy(O:Ow)(i:Int):qd rM O (.lst [.int i]) (.lst [.int i])=.ok (.bl JU) O:=(Lg O (T_ _ [i]) (T_ _ [i]) ⟨λ_=>rfl,λ_=>rfl⟩).2
def YM(a:σ[iT]?=YP (YP (.tab Pt)))(h:tE σ O=r)(b:EN Ca 4 1 E_ r=z):Cp Pt iT Ca 4 1 tE E_ σ O=z:=by unfold Cp;rw[a];dsimp only;rw[JV rfl,h];exact b
def VF{n:Nat}{ds:List D}(a:∀d∈ds,OR d)(f:ds.length<64)(O:Ow):FQ [.int (n:Nat),.tup ds] O=.ok (.bl (zj n ds)) O:=by show fin (V3 [rz (n:Nat),q_ ds] O)=_;refine uK (vi (O1:=O) (vH (uL (b:=JQ) rfl)) (uJ (LG (sD (p9 ((xE (l:=ds) (by rw[gC];exact zV rfl) 'd' (λ_=>rfl) (λd h=>qy (qI rfl rfl) (z7W n (a d h) O))).trans rfl)) (Cr O ds (yz n))) λc=>qy (p9 rfl) ?_)));have e:=(Mn c).1;have r:=zct (l:=ds.map yB) (by rw[aI];lia) O;rw[<- e] at r;exact r
def toT(c:o_):D:=.tup (c.map .str)
def Z9(c:o_):zh (toT c)=JQ:=by show(c.map D.str).all BV=JQ;rw[aD];intro d a;obtain⟨x,_,rfl⟩:=aA.mp a;rfl
def LD(l:List o_):∀d∈l.map toT,zh d=JQ:=λd a=>by
 obtain⟨x,_,rfl⟩:=aA.mp a;exact Z9 x
section
variable{α:Type}[DecidableEq α]
noncomputable def uC(inj:α->D)(h:DLC.Held α):D:=.map ((DLC.keys h).map dr) (h.map λkv=>.lst (kv.2.map inj))
structure Inj(inj:α->D):Prop where
 in_:∀(O:Ow)(x:α)(l:List α),xu O (inj x) (.lst (l.map inj))=.ok (.bl (l.contains x)) O
 nin:∀(O:Ow)(x:α)(l:List α),zT O (inj x) (.lst (l.map inj))=.ok (.bl (!l.contains x)) O
variable{inj:α->D}(J:Inj inj)
def Q3{h:DLC.Held α}(n:(DLC.keys h).Nodup){a:pU×List α}(m:a∈h):x9 (.inr a.1) ((DLC.keys h).map dr) (h.map λa=>D.lst (a.2.map inj))=rq (a.2.map inj):=by
 have e:(DLC.keys h).map dr=h.map λa=>(dr a.1:DK):=by unfold DLC.keys;rw[bJ];rfl
 rw[e];refine UM (kk:=λa:pU×List α=>(dr a.1:DK)) m ?_;rw[<- e];exact iF.mpr (jY (λb e=>b (jx e)) n)
def zi0(n:(DLC.keys h).Nodup)(m:t∈DLC.keys h):x9 (.inr t) ((DLC.keys h).map dr) (h.map λa=>D.lst (a.2.map inj))=rq ((DLC.at_ h t).map inj):=by obtain⟨a,b,rfl⟩:=aA.mp m;rw[Q3 n b,DLC.at_mem n b]
include J in
theorem Vx(n:(DLC.keys h).Nodup)(b:h.length<=100)(x:α)(O:Ow):Cu [uC inj h,inj x] O=.ok (.lst ((DLC.hold h x).map .str)) O:=by
 show fin (MU [YP (uC inj h),YP (inj x)] O)=_;have c:HJ j_ [YP (uC inj h),YP (inj x)] O=.ok (.val (h.map λa=>D.str a.1)) O:=by
  show R.ok (Src.val (((DLC.keys h).map dr).map BI)) O=_;unfold DLC.keys;rw[bJ,bJ];rfl
 refine vF ((vP c 'd' (λ_=>rfl) (λa d=>ur (qi rfl (Sr rfl rfl rfl (Q3 n d)) (J.in_ O x a.2))) (λ_ _ _=>rfl)).trans ?_);unfold DLC.hold;rw[bJ];rfl
theorem Mf:∀(w:List α)(b:α),(∀y∈w,tE (σ++[YP (inj y)]) O=.ok (.int (f y:Nat)) O)->DL.minGo tE σ (w.map inj) (inj b) (f b:Nat) O=.ok (inj (DLC.minGo f w b)) O
 |[],b,_=>rfl
 | x::w,b,h=>by
  rw[bQ];unfold DL.minGo DLC.minGo;rw[h x av];dsimp only;by_cases c:f x<f b
  ·rw[JV (show((f x:Nat):Int)<(f b:Nat) by lia),JV c];exact Mf w x λy a=>h y (al _ a)
  ·rw[JW (show ¬ ((f x:Nat):Int)<(f b:Nat) by lia),JW c];exact Mf w b λy a=>h y (al _ a)
def stC(inj:α->D)(h:DLC.Held α)(w:List α)(m:Int)(y:Option D)(k:Nat)(a b c:Option D)(Pt:Nat):Sg:=[YP (uC inj h),rq (w.map inj),rz m,y,uz k,a,b,c,YP (.tab Pt)]
include J in
theorem zir(n:(DLC.keys h).Nodup)(d:w.length<=300)(b:t∈DLC.keys h)(O:Ow):Cd (stC inj h w m y k a (su t) c Pt) O=.ok (.lst ((DLC.left h w t).map inj)) O:=
 (vP (uI rfl) 'd' (λ_=>rfl) (λx e=>ur (qi rfl (Sr rfl rfl rfl (zi0 n b)) (J.nin O x _))) (λ_ _ _=>rfl)).trans rfl
def E6(a:σ[iT]?=YP (YP (.tab Pt)))(b:t σ O=.ok ds O1)(c:F ds O1=z)(d:ds.length=n:=by rfl):uq Pt iT n F t σ O=z:=by unfold uq;rw[a];dsimp only;rw[JV rfl];exact qy b c d
def Zc{h r:DLC.Held α}{w l:List α}{t:pU}{m:Nat}{y:Option D}{Pt:Nat}{F:qh}{O:Ow}{a cs:List o_}(d:F [uC inj r,.lst (l.map inj),.int (m:Nat)] (O++[a.map toT])=.ok (.lst (cs.map toT)) (O++[a.map toT]))(n:a.length+cs.length<=1700000)(b:∀c∈cs,c.length<=1000):
  Bf Pt F (stC inj h w ((m+1:Nat):Int) y O.length (YP (uC inj r)) (su t) (rq (l.map inj)) Pt) (O++[a.map toT])=.ok .non (O++[(a++cs.map (t :: ·)).map toT]):=by
 have f:((m+1:Nat):Int)-1=(m:Nat):=by lia
 have g:uq Pt 8 3 F (a_ uc (a_ (qC 7) (a_ (h_ (fI Bc) qg qO) d_))) (stC inj h w ((m+1:Nat):Int) y O.length (YP (uC inj r)) (su t) (rq (l.map inj)) Pt) (O++[a.map toT])=.ok (.lst (cs.map toT)) (O++[a.map toT]):=by
  refine E6 rfl ?_ d;show R.ok [uC inj r,.lst (l.map inj),.int (((m+1:Nat):Int)-1)] _=_;rw[f]
 have j:=xE (o:=JU) (ext:=1) (i:=9) (te:=h_ r8 (uE xA) (qC 9)) (e:=λc=>toT (t::c)) (uI g) 'd' (λ_=>rfl) (λc k=>by
  refine qi rfl rfl ?_;show(if [D.str t]≠[]/\[D.str t].length+(c.map D.str).length<=4000000 then R.ok (D.tup ([D.str t]++c.map D.str)) (O++[a.map toT]) else .bad)=_;rw[JV ⟨by simp,by rw[aI];have:=b c k;simp;lia⟩];rfl)
 unfold Bf HR;show((a_ _ d_ _ (O++[a.map toT])).bnd _)=_;rw[p9 (j.trans (rfl))];show(match [D.lst (cs.map λc=>toT (t::c))],(O++[a.map toT])[O.length]? with|[y],YP ds=>(match tL (O++[a.map toT]) y with|some es=>if ds.length+es.length<=4000000 then R.ok D.non ((O++[a.map toT]).set O.length (ds++es)) else R.bad|none=>R.bad)|_,_=>R.bad)=_;rw[AH];dsimp only[tL];rw[JV (by simp;lia),Ur,dI,bJ];rfl
def Kz(inj:α->D)(Pt k m:Nat):Prop:=∀(h:DLC.Held α)(w:List α)(O:Ow),Pl O->(DLC.keys h).Nodup->h.length<=20->w.length<=300->yc Pt k [uC inj h,.lst (w.map inj),.int (m:Nat)] O=.ok (.lst ((DLC.cov m h w).map toT)) O
def TY(h:DLC.Held α)(t:pU):(DLC.drop h t).length<=h.length:=bz _ _
def zcs(r:DLC.Held α)(t:pU):vG (.inr t) ((DLC.keys r).map dr)=(DLC.keys (DLC.drop r t)).map dr:=by
 unfold vG DLC.keys DLC.drop
 induction r with
 |nil=>rfl
 | cons kv r ih=>
  simp only[bQ];by_cases e:kv.1=t
  ·rw[dN (by simp[e]),dN (by simp[e])];exact ih
  ·rw[dO ⇑e,dO ⇑e];simp only[bQ];rw[ih]
def zbj(r:DLC.Held α)(t:pU):yZ (.inr t) ((DLC.keys r).map dr) (r.map λa=>D.lst (a.2.map inj))=(DLC.drop r t).map λa=>D.lst (a.2.map inj):=by
 unfold DLC.keys DLC.drop
 induction r with
 |nil=>rfl
 | cons a r ih=>
  simp only[bQ];unfold yZ;by_cases e:a.1=t
  ·rw[JV (by rw[e]),dN (by simp[e])];exact ih
  ·rw[JW (λz=>e (jx z)),dO ⇑e,bQ,ih]
def Z0(h:t∈DLC.keys r):Es (.inr t) ((DLC.keys r).map dr)=JQ:=by unfold Es;rw[ei];exact⟨.inr t,aA.mpr ⟨t,h,rfl⟩,by simp⟩
include J in
theorem SJ{Pt k m:Nat}(A:Kz inj Pt k m)(B:m<=100){h:DLC.Held α}{w:List α}(n:(DLC.keys h).Nodup)(l:h.length<=20)(o:w.length<=300){O:Ow}(p:Pl O){y:Option D}:
  ∀(ts:o_)(r:DLC.Held α)(d:List o_)(b c:Option D),(∀t∈ts,t∈DLC.keys r)->ts.Nodup->(∀f∈r,f∈h)->(DLC.keys r).Nodup->r.length<=20->d.length+2 ^ r.length<=1700000->(∀t∈ts,t∈DLC.keys h)->
   ∃q u,Az 5 6 7 Cd (Bf Pt (yc Pt k)) (ts.map D.str) ((DLC.keys r).map dr) (r.map λf=>D.lst (f.2.map inj)) (stC inj h w ((m+1:Nat):Int) y O.length JL b c Pt) (O++[d.map toT])=.nx (stC inj h w ((m+1:Nat):Int) y O.length JL q u Pt) (O++[(d++DLC.covL (DLC.cov m) h w ts r).map toT])
 |[],r,d,b,c,_,_,_,_,_,_,_=>⟨b,c,by unfold DLC.covL;rw[bV];rfl⟩
 | t::ts,r,d,b,c,g,nt,hr,nr,fr,hl,WM=>by
  have v:∀f∈DLC.drop r t,f∈h:=λf g=>hr f (DLC.mem_drop.mp g).1;have L:=DLC.cov_pow m (DLC.drop r t) (DLC.left h w t) (DLC.nd_drop nr);have C:=DLC.drop_lt (g t av);have E:2 ^ ((DLC.drop r t).length+1)<=2 ^ r.length:=fO 'd' C;rw[Nat.pow_succ] at E;have F:=zir J n o (WM t av) (m:=((m+1:Nat):Int)) (y:=y) (k:=O.length) (Pt:=Pt) (a:=JL) (c:=c) (O++[d.map toT]);have G:=A (DLC.drop r t) (DLC.left h w t) (O++[d.map toT]) (p.one (LD d)) (DLC.nd_drop nr) (aM (TY r t) fr) (aM (bz _ _) o);have i:d.length+(DLC.cov m (DLC.drop r t) (DLC.left h w t)).length<=1700000:=by lia
  have H:=Zc (h:=h) (w:=w) (t:=t) (y:=y) (Pt:=Pt) G i λc I=>by have:=(DLC.cov_sound m (DLC.nd_drop nr) I).1;lia
  obtain⟨q,u,K⟩:=SJ A B n l o p ts (DLC.drop r t) (d++(DLC.cov m (DLC.drop r t) (DLC.left h w t)).map (t :: ·)) (su t) (rq ((DLC.left h w t).map inj))
   (λs j=>DLC.keys_drop.mpr ⟨g s (al _ j),λe=>(bB.mp nt).1 (e▸j)⟩) (bB.mp nt).2 v (DLC.nd_drop nr) (aM (TY r t) fr) (by rw[az,aI];lia) (λs j=>WM s (al _ j))
  refine⟨q,u,?_⟩;rw[bQ];unfold Az;dsimp only[xV];rw[JV (Z0 (g t av))];have x:Cd ((stC inj h w ((m+1:Nat):Int) y O.length JL b c Pt).set 6 (su t)) (O++[d.map toT])=.ok (.lst ((DLC.left h w t).map inj)) (O++[d.map toT]):=F;rw[x];dsimp only;rw[zcs,zbj];have z:Bf Pt (yc Pt k) ((((stC inj h w ((m+1:Nat):Int) y O.length JL b c Pt).set 6 (su t)).set 7 (rq ((DLC.left h w t).map inj))).set 5 (YP (.map ((DLC.keys (DLC.drop r t)).map dr) ((DLC.drop r t).map λf=>D.lst (f.2.map inj))))) (O++[d.map toT])=_:=H;rw[z];dsimp only;rw[JV (p.one (LD _)).nms];refine Eq.trans K ?_;show _=RS.nx _ (O++[(d++((DLC.cov m (DLC.drop r t) (DLC.left h w t)).map (t :: ·)++DLC.covL (DLC.cov m) h w ts (DLC.drop r t))).map toT]);rw[bh]
include J in
theorem U1:∀(m k:Nat),m<k->m<=100->Kz inj Pt k m
 |m,0,hk,_=>by lia
 | 0,k+1,_,_=>by
  intro h w O f n a q;show yt O.length (fin (AG Pt (yc Pt k) [YP (uC inj h),rq (w.map inj),rz 0,JL,JL,JL,JL,JL,YP (.tab Pt)] O))=_;unfold AG;cases w with
  | nil=>
   rw[uK (x_ (O1:=O) (x:=.lst [.tup []]) (vH (b:=JU) rfl) rfl)];have:=DZ f [] (d:=.lst [.tup []]) (d':=.lst [.tup []]) rfl;rw[bV] at this;exact this
  | cons x w=>
   rw[uK (vi (O1:=O) (vH (b:=JQ) rfl) (x_ (O1:=O) (x:=.lst []) (ur (b:=JQ) rfl) rfl))];have:=DZ f [] (d:=.lst []) (d':=.lst []) rfl;rw[bV] at this;exact this
 | m+1,k+1,hk,hm=>by
  intro h w O f n a q;cases w with
  | nil=>
   show yt O.length (fin (AG Pt (yc Pt k) [YP (uC inj h),YP (.lst []),rz ((m+1:Nat):Int),JL,JL,JL,JL,JL,YP (.tab Pt)] O))=_;unfold AG;rw[uK (x_ (O1:=O) (x:=.lst [.tup []]) (vH (b:=JU) rfl) rfl)];have:=DZ f [] (d:=.lst [.tup []]) (d':=.lst [.tup []]) rfl;rw[bV] at this;exact this
  | cons x w=>
   have u:Kz inj Pt k m:=U1 m k 'd' 'd';let c:Sg:=[YP (uC inj h),rq ((x::w).map inj),rz ((m+1:Nat):Int),JL,JL,JL,JL,JL,YP (.tab Pt)];have r:∀y,B2 (c++[YP (inj y)]) O=.ok (.int ((DLC.hold h y).length:Nat)) O:=λy=>sD (p9 (qy (qI rfl rfl) (Vx J n 'd' y O))) (by show R.ok (D.int (((DLC.hold h y).map D.str).length:Nat)) O=_;rw[aI]);generalize g:DLC.minGo (λy=>(DLC.hold h y).length) w x=y;have v:y∈x::w:=by
    rcases DLC.minGo_mem (λy=>(DLC.hold h y).length) w x with e|e
    ·rw[<- g,e];exact av
    ·rw[<- g];exact al _ e
   have z:DH Pt 8 n_ B2 c O=.ok (inj y) O:=by
    show(if Pt=Pt then (R.bnd (R.ok (D.lst ((x::w).map inj)) O) λx O1=>match x with|.lst ds=>Dx B2 c O1 ds|_=>.bad) else .bad)=_;rw[JV rfl];show Dx B2 c O (inj x::w.map inj)=_;show(match B2 (c++[YP (inj x)]) O with|.ok (.int j) O1=>DL.minGo B2 c (w.map inj) (inj x) j O1|_=>.bad)=_;rw[r x];dsimp only;rw[<- g];exact Mf w x λy _=>r y
   have s:2 ^ h.length<=1700000:=by
    have:=fO (n:=2) 'u' a;lia
   obtain⟨I,K,A⟩:=SJ J u 'd' n a q f (y:=YP (inj y)) (DLC.hold h y) h [] JL JL (λt i=>((DLC.mem_hold n).mp i).1) (DLC.hold_nd n y) (λ_ h=>h) n a (by simp only[gZ];lia) (λt i=>((DLC.mem_hold n).mp i).1);have B:((m+1:Nat):Int)≠0:=by lia
   have C:qt (h_ (qd sv) qg sk) c O=.ok JU O:=ur (qi rfl rfl (show qd sv O (.int ((m+1:Nat):Int)) (.int 0)=_ from by
    show R.ok (D.bl (((m+1:Nat):Int)==0)) O=_;rw[beq_eq_false_iff_ne.mpr B]))
   have l:qA (k_ 2 Cu (a_ j_ (a_ qB d_))) (stC inj h (x::w) ((m+1:Nat):Int) (YP (inj y)) O.length JL JL JL Pt) (O++[[]])=.ok (.val ((DLC.hold h y).map D.str)) (O++[[]]):=uI (qy (qI rfl rfl) (Vx J n 'd' y (O++[[]])));have E:E4 5 6 7 j_ (qA (k_ 2 Cu (a_ j_ (a_ qB d_)))) Cd (Bf Pt (yc Pt k)) (qr qE) (stC inj h (x::w) ((m+1:Nat):Int) (YP (inj y)) O.length JL JL JL Pt) (O++[[]])=.rt (.own O.length) (O++[((DLC.covL (DLC.cov m) h (x::w) (DLC.hold h y) h)).map toT]):=by
    unfold E4;show(R.bnS (R.ok (uC inj h) (O++[[]])) _)=_;show(R.bnS (qA (k_ 2 Cu (a_ j_ (a_ qB d_))) (stC inj h (x::w) ((m+1:Nat):Int) (YP (inj y)) O.length JL JL JL Pt) (O++[[]])) _)=_;rw[l];show(match Az 5 6 7 Cd (Bf Pt (yc Pt k)) ((DLC.hold h y).map D.str) ((DLC.keys h).map dr) (h.map λo=>D.lst (o.2.map inj)) (stC inj h (x::w) ((m+1:Nat):Int) (YP (inj y)) O.length JL JL JL Pt) (O++[[]]) with|.nx σ' O'=>qr qE σ' O'|_=>.bad)=_;have F:Az 5 6 7 Cd (Bf Pt (yc Pt k)) ((DLC.hold h y).map D.str) ((DLC.keys h).map dr) (h.map λo=>D.lst (o.2.map inj)) (stC inj h (x::w) ((m+1:Nat):Int) (YP (inj y)) O.length JL JL JL Pt) (O++[[]])=_:=A;rw[F];rw[fu];rfl
   have p:AG Pt (yc Pt k) c O=.rt (.own O.length) (O++[((DLC.covL (DLC.cov m) h (x::w) (DLC.hold h y) h)).map toT]):=by
    unfold AG;exact vi (O1:=O) (vH (b:=JQ) rfl) (vi C (rR (x:=inj y) z (rR (x:=.own O.length) (O1:=O++[[]]) rfl E)))
   show yt O.length (fin (AG Pt (yc Pt k) c O))=_;rw[uK p];have G:=DZ f [(DLC.covL (DLC.cov m) h (x::w) (DLC.hold h y) h).map toT] (d:=.own O.length) (d':=.lst ((DLC.covL (DLC.cov m) h (x::w) (DLC.hold h y) h).map toT)) (by
    unfold frz;dsimp only;rw[JW (bP _),AH];dsimp only;rw[D2 λd H=>II (LD _ d H)];rfl)
   refine G.trans ?_;show _=R.ok (D.lst ((DLC.covL (DLC.cov m) h (x::w) (DLC.hold h (DLC.minGo (λy=>(DLC.hold h y).length) w x)) h).map toT)) O;rw[g]
end
def zeZ(h:t σ O=.ok (.lst ds) O1):rK t σ O=.ok (!ds.isEmpty) O1:=by show((t σ O).bnd _)=_;rw[h];rfl
def Ad(t:pU):Int:=((sg t:Nat):Int)
def zdV(O:Ow):(oZ.map λcs=>FI [.str cs] O)=oZ.map λcs=>R.ok (D.int (Ad cs)) O:=by kernel_rfl
def zgq(h:cs∈oZ)(O:Ow):FI [.str cs] O=.ok (.int (Ad cs)) O:=cK.mp (zdV O) cs h
def tu(c:o_):Int:=(c.map Ad).sum
theorem Jn:∀l:List Int,yY (l.map D.int)=YP l
 |[]=>rfl
 | x::l=>by
  show(yY (l.map D.int)).map (x :: ·)=_;rw[Jn l];rfl
def RL(a:∀t∈c,t∈oZ)(e:c.length<=1000)(O:Ow):y_ [toT c] O=.ok (.int (tu c)) O:=by
 have b:=xE (o:=JU) (ext:=1) (i:=1) (it0:=qA j_) (σ:=[YP (toT c)]) (te:=k_ 1 FI (a_ n_ d_)) (zV rfl) 'd' (λ_=>rfl) (λt d=>qy (p9 rfl) (zgq (a t d) O));show fin (My [YP (toT c)] O)=_;refine vF (sD (p9 b) ?_);show(match yY (c.map λt=>D.int (Ad t)) with|some ns=>R.ok (D.int ns.sum) O|none=>.bad)=_;have:(c.map λt=>D.int (Ad t))=(c.map Ad).map D.int:=by rw[bJ];rfl
 rw[this,Jn];rfl
section
variable{α:Type}[DecidableEq α]{inj:α->D}(J:Inj inj)
def uy(inj:α->D)(h:DLC.Held α)(w:List α)(Pt m:Nat)(x:Option D):Sg:=[YP (uC inj h),rq (w.map inj),rz (m:Nat),rq ((DLC.cov m h w).map toT),x,YP (.tab Pt)]
structure Sz(h:DLC.Held α)(w:List α):Prop where
 nd:(DLC.keys h).Nodup
 few:h.length<=18
 wl:w.length<=300
include J in
theorem Q_(z:Sz h w)(d:m<=18)(c:Pl O):uq Pt 5 3 (Fx Pt) (a_ j_ (a_ n_ (a_ qg d_))) [YP (uC inj h),rq (w.map inj),rz (m:Nat),a,b,YP (.tab Pt)] O=.ok (.lst ((DLC.cov m h w).map toT)) O:=
 E6 rfl (uu rfl (qI rfl rfl)) (U1 J m 20 'd' 'd' h w O c z.nd (aM z.few 'u') z.wl)
include J in
theorem TR(z:Sz h w)(i:DLC.cov 18 h w≠[]):∀(fuel m:Nat),m<=18->18<m+fuel->∃c,m<=c/\c<=18/\DLC.cov c h w≠[]/\(∀j,m<=j->j<c->DLC.cov j h w=[])/\∀(Pt:Nat)(O:Ow),Pl O->xG cW (bW Pt) fuel (uy inj h w Pt m JL) O=.nx (uy inj h w Pt c JL) O
 |0,m,h1,h2=>by lia
 | fuel+1,m,h1,h2=>by
  by_cases e:DLC.cov m h w=[]
  ·have x:m≠18:=λq=>i (q▸e);obtain⟨c,y,l,n,o,p⟩:=TR z i fuel (m+1) 'd' 'd';refine⟨c,by lia,l,n,λj s d=>?_,λPt O f=>?_⟩
   ·by_cases q:j=m
    ·rw[q];exact e
    ·exact o j 'd' d
   ·have g:cW (uy inj h w Pt m JL) O=.ok JQ O:=by
     unfold uy;rw[e];rfl
    have u:bW Pt (uy inj h w Pt m JL) O=.nx (uy inj h w Pt (m+1) JL) O:=by
     refine yD (σ':=[YP (uC inj h),rq (w.map inj),rz ((m+1:Nat):Int),rq ((DLC.cov m h w).map toT),JL,YP (.tab Pt)]) (O1:=O) rfl ?_;rw[IG (Q_ J z 'd' f)];rfl
    show((cW (uy inj h w Pt m JL) O).bnS λk O1=>if k=JQ then (match bW Pt (uy inj h w Pt m JL) O1 with
     |.nx σ' O'=>xG cW (bW Pt) fuel σ' O'
     |.ct σ' O'=>xG cW (bW Pt) fuel σ' O'
     |.bk σ' O'=>.nx σ' O'
     |r=>r) else .nx (uy inj h w Pt m JL) O1)=_
    rw[g];show(if JQ=JQ then (match bW Pt (uy inj h w Pt m JL) O with
     |.nx σ' O'=>xG cW (bW Pt) fuel σ' O'
     |.ct σ' O'=>xG cW (bW Pt) fuel σ' O'
     |.bk σ' O'=>.nx σ' O'
     |r=>r) else RS.nx (uy inj h w Pt m JL) O)=_
    rw[JV rfl,u];exact p Pt O f
  ·refine⟨m,ay _,h1,e,λj a b=>by lia,λPt O f=>?_⟩;have g:cW (uy inj h w Pt m JL) O=.ok JU O:=by
    refine vH (b:=JQ) ?_;rw[zeZ (t:=qC 3) (σ:=uy inj h w Pt m JL) (O:=O) (O1:=O) (ds:=(DLC.cov m h w).map toT) rfl];cases v:DLC.cov m h w with
    |nil=>exact absurd v e
    |cons _ _=>rfl
   show((cW (uy inj h w Pt m JL) O).bnS λk O1=>if k=JQ then (match bW Pt (uy inj h w Pt m JL) O1 with
     |.nx σ' O'=>xG cW (bW Pt) fuel σ' O'
     |.ct σ' O'=>xG cW (bW Pt) fuel σ' O'
     |.bk σ' O'=>.nx σ' O'
     |r=>r) else .nx (uy inj h w Pt m JL) O1)=_
   rw[g];rfl
theorem TN:∀l:List o_,Au (l.map toT)=YP l
 |[]=>rfl
 | x::l=>by
  show(match vB (x.map D.str),Au (l.map toT) with|some ks,YP t=>YP (ks::t)|_,_=>JL)=_;rw[strL_map,TN l]
def few(h:DLC.Held α)(w:List α)(m:Nat):Int:=Bl ((DLC.cov m h w).map tu)
def zeV(h:DLC.Held α)(w:List α)(m:Nat):List o_:=B5 (((DLC.cov m h w).filter λc=>tu c==few h w m).map qX)
theorem Fw:∀(l:List Int)(x:Int),l.foldl min x=x\/l.foldl min x∈l
 |[],x=>.inl rfl
 | y::l,x=>by
  rcases Fw l (min x y) with e|e
  ·rw[show(List.foldl min x (y::l))=l.foldl min (min x y) from rfl,e];rcases Int.le_total x y with g|g
   ·left;lia
   ·right;rw[show min x y=y by lia];exact av
  ·right;exact al _ e
def zgP{h:DLC.Held α}{w:List α}{m:Nat}(a:DLC.cov m h w≠[]):∃c∈DLC.cov m h w,tu c=few h w m:=by
 unfold few;cases b:DLC.cov m h w with
 |nil=>exact absurd b a
 | cons c l=>
  rcases Fw (l.map tu) (tu c) with e|e
  ·exact⟨c,av,e.symm⟩
  ·obtain⟨d,f,q⟩:=aA.mp e;exact⟨d,al _ f,q⟩
def pD{h:DLC.Held α}{w:List α}{m:Nat}{x:o_}:x∈zeV h w m ↔ ∃c∈DLC.cov m h w,tu c=few h w m/\qX c=x:=by
 unfold zeV;rw[(Ms _).mem_iff,aA];constructor
 ·rintro⟨c,d,rfl⟩;obtain⟨a,b⟩:=bo.mp d;exact⟨c,a,by simpa using b,rfl⟩
 ·rintro⟨c,a,b,rfl⟩;exact⟨c,bo.mpr ⟨a,by simpa using b⟩,rfl⟩
def ziv{h:DLC.Held α}{w:List α}{m:Nat}(a:DLC.cov m h w≠[]):zeV h w m≠[]:=by obtain⟨c,b,e⟩:=zgP a;have:=pD.mpr ⟨c,b,e,rfl⟩;intro q;rw[q] at this;cases this
include J in
theorem Yi(z:Sz h w)(u:∀t∈DLC.keys h,t∈oZ)(v:DLC.cov 18 h w≠[]):∃m,m<=18/\DLC.Lm h w m/\∀(Pt:Nat)(O:Ow),Pl O->Jv Pt [uC inj h,.lst (w.map inj)] O=.ok (.lst ((zeV h w m).map toT)) O:=by
 obtain⟨m,_,y,l,A,B⟩:=TR J z v 20 0 'd' 'd';refine⟨m,y,⟨z.nd,l,λj C=>A j 'd' C⟩,λPt O n=>?_⟩;show fin (VN Pt [YP (uC inj h),rq (w.map inj),JL,JL,JL,YP (.tab Pt)] O)=_;have p:(DLC.cov m h w).length<=262144:=aM (DLC.cov_pow m h w z.nd) (aM (fO 'u' z.few) 'u');have r:∀c∈DLC.cov m h w,∀O,y_ [toT c] O=.ok (.int (tu c)) O:=λc a O=>by
  obtain⟨s,e,b⟩:=DLC.cov_sound m z.nd a;exact RL (λt f=>u t (b.1 t f)) 'd' O
 have E:pW EZ (a_ (qp JU 1 (qA qB) (.one 6) [] [] (k_ 1 y_ xA)) d_) (uy inj h w Pt m JL) O=.ok (.int (few h w m)) O:=by
  have g:=xE (o:=JU) (ext:=1) (i:=6) (it0:=qA qB) (σ:=uy inj h w Pt m JL) (te:=k_ 1 y_ xA) (uI rfl) 'd' (λ_=>rfl) (λc a=>qy (p9 rfl) (r c a O));refine sD (p9 g) ?_;show(match yY ((DLC.cov m h w).map λc=>D.int (tu c)) with|some ns=>(if ns≠[] then R.ok (D.int (Bl ns)) O else .bad)|none=>.bad)=_;have:((DLC.cov m h w).map λc=>D.int (tu c))=((DLC.cov m h w).map tu).map D.int:=by rw[bJ];rfl
  rw[this,Jn];show(if (DLC.cov m h w).map tu≠[] then R.ok (D.int (Bl ((DLC.cov m h w).map tu))) O else .bad)=_;rw[JV (by intro q;exact l (List.map_eq_nil_iff.mp q))];rfl
 have F:pW EV (a_ (qp JU 1 (qA qB) (.one 6) [(qt (h_ (qd sv) (k_ 1 y_ xA) qE))] [] (pW vj (a_ (pW yW xA) d_))) d_) (uy inj h w Pt m (rz (few h w m))) O=.ok (.lst ((zeV h w m).map toT)) O:=by
  have g:=vP (o:=JU) (ext:=1) (i:=6) (it0:=qA qB) (σ:=uy inj h w Pt m (rz (few h w m))) (t:=qt (h_ (qd sv) (k_ 1 y_ xA) qE)) (te:=pW vj (a_ (pW yW xA) d_)) (uI rfl) 'd' (λ_=>rfl)
   (λc a=>ur ((Il (qy (p9 rfl) (r c a O)) rfl).trans (Xa O _ _)))
   (λc a _=>by
    obtain⟨s,e,b⟩:=DLC.cov_sound m z.nd a;have G:pW yW xA (uy inj h w Pt m (rz (few h w m))++[YP (toT c)]) O=.ok (.lst ((qX c).map .str)) O:=by
     refine sD (p9 rfl) ?_;show(match vB (c.map D.str) with|some ss=>(if ss.Nodup/\ss.length<=1000 then R.ok (D.lst ((qX ss).map .str)) O else .bad)|none=>.bad)=_;rw[strL_map];show(if c.Nodup/\c.length<=1000 then R.ok (D.lst ((qX c).map .str)) O else .bad)=_;rw[JV ⟨e,by lia⟩]
    exact sD (p9 G) rfl)
  refine sD (p9 g) ?_;have H:(((DLC.cov m h w).filter λc=>tu c==few h w m).map λc=>toT (qX c))=(((DLC.cov m h w).filter λc=>tu c==few h w m).map qX).map toT:=by rw[bJ];rfl
  show(match Au (((DLC.cov m h w).filter λc=>tu c==few h w m).map λc=>toT (qX c)) with|some rT=>(if (2<=rT.length->(rT.all λd=>!d.isEmpty)=JQ)/\rT.length<=4000000 then R.ok (D.lst ((B5 rT).map DL.toT)) O else .bad)|none=>.bad)=_;rw[H,TN];have I:(((DLC.cov m h w).filter λc=>tu c==few h w m).map qX).length<=4000000:=by
   rw[aI];have:=bz (λc=>tu c==few h w m) (DLC.cov m h w);lia
  have k:2<=(((DLC.cov m h w).filter λc=>tu c==few h w m).map qX).length->((((DLC.cov m h w).filter λc=>tu c==few h w m).map qX).all λd=>!d.isEmpty)=JQ:=by
   intro K;cases w with
   | nil=>
    exfalso;rw[aI] at K;have N:=bz (λc=>tu c==few h ([]:List α) m) (DLC.cov m h []);have P:(DLC.cov m h ([]:List α)).length=1:=by unfold DLC.cov;rfl
    lia
   | cons x w=>
    rw[aD];intro d L;obtain⟨c,a,rfl⟩:=aA.mp L;have a:=(bo.mp a).1;obtain⟨s,e,b⟩:=DLC.cov_sound m z.nd a;obtain⟨t,f,_⟩:=b.2 x av;have:=(zY _).mpr f;cases M:qX c with
    |nil=>rw[M] at this;cases this
    |cons _ _=>rfl
  show(if _/\_ then R.ok (D.lst ((B5 (((DLC.cov m h w).filter λc=>tu c==few h w m).map qX)).map DL.toT)) O else .bad)=_;rw[JV ⟨k,I⟩];rfl
 refine uK (rR rfl (rR (Q_ J z (m:=0) 'd' n) (yD ?_ (rR E ?_))))
 ·exact B Pt O n
 ·exact uJ F
end
def KW{l:o_}(h:l.Pairwise (· < ·)):l.Nodup:=jY (λ{a b}z(e:a=b)=>gz a (by rw[<- e] at z;exact z)) h
def ziL(l:o_):(qX l).Nodup:=jY (λ{a b}z(e:a=b)=>gz a (by rw[<- e] at z;exact z)) (Cq l)
def yH(S:o_):Nat:=(S.map sg).sum
def Md(t:pU)(b:o_):yH (t::b)=sg t+yH b:=by unfold yH;rw[bQ,lW]
def TV(h:a.Perm b):yH a=yH b:=by
 induction h with
 |nil=>rfl
 |cons x _ ih=>rw[Md,Md,ih]
 |swap x y l=>simp only[Md];lia
 |trans _ _ h1 h2=>exact h1.trans h2
def EO(ps:pU)(ts S:o_):Prop:=(∀t∈S,t∈ts)/\∀p∈ps,∃t∈S,p∈qP t
structure XX(ps:pU)(ts:o_)(a b:Nat):Prop where
 ex:∃S:o_,S.Nodup/\EO ps ts S/\S.length=a/\yH S=b
 le:∀S:o_,S.Nodup->EO ps ts S->a<S.length\/(a=S.length/\b<=yH S)
def yL(g:Nat->Bool)(t:pU):Bool:=(qP t).all g
def Cw(g:Nat->Bool)(t:pU):Bool:=yL g t && !(bE t.length).any λk=>t.getD k 0 !=45&&yL g (t.set k 45)
def zgy:∀a b c d e f g h:Bool,((Y1 3).filter (Cw λp=>[a,b,c,d,e,f,g,h].getD p JU)).length<=6:=by decide +kernel
def QF(h:∀p,p<8->g p=k p)(b:t∈Y1 3):yL g t=yL k t:=by
 unfold yL;rw[eM,aD,aD];constructor
 ·intro q p a;rw[<- h p (D0 'u' 'u' b a)];exact q p a
 ·intro q p a;rw[h p (D0 'u' 'u' b a)];exact q p a
def zjT(h:∀p,p<8->g p=k p)(a:t∈Y1 3):Cw g t=Cw k t:=by unfold Cw;rw[QF h a];congr 3;funext i;rw[QF h (Jk 'u' 'u' a _)]
def six(g:Nat->Bool):((Y1 3).filter (Cw g)).length<=6:=by
 have:=zgy (g 0) (g 1) (g 2) (g 3) (g 4) (g 5) (g 6) (g 7);rwa [List.filter_congr λt a=>zjT (λp b=>by
  have:p=0\/p=1\/p=2\/p=3\/p=4\/p=5\/p=6\/p=7:=by lia
  rcases this with rfl|rfl|rfl|rfl|rfl|rfl|rfl|rfl<;>rfl) a] at this
def qG(f:List D)(t:pU):Bool:=rC f t&&yE f t
def zho{α:Type}{p q:α->Bool}{l:List α}(h:∀x∈l,p x=JQ->q x=JQ):(l.filter p).length<=(l.filter q).length:=by rw[<- jw,<- jw];exact List.countP_mono_left h
def zdY(n:Nat)(f:List D):(sI n f).length<=((Y1 n).filter (qG f)).length:=by unfold sI DG;rw[mI];refine zho λt _ h=>?_;unfold zM at h;unfold qG;simp at h ⊢;exact⟨h.2,h.1.2⟩
theorem PZ{q a b c:pU->Bool}:∀(l:o_),(∀t∈l,(q (t++[45])=JQ->a t=JQ)/\(q (t++[48])=JQ->b t=JQ)/\(q (t++[49])=JQ->c t=JQ))->((l.flatMap λt=>[t++[45],t++[48],t++[49]]).filter q).length<=(l.filter a).length+(l.filter b).length+(l.filter c).length
 |[],_=>by simp
 | t::l,h=>by
  have g:=PZ l λs f=>h s (al _ f);rw[fJ,mH,az];have e:([t++[45],t++[48],t++[49]].filter q).length<=(if a t=JQ then 1 else 0)+(if b t=JQ then 1 else 0)+(if c t=JQ then 1 else 0):=by
   cases i:q (t++[45])<;>cases j:q (t++[48])<;>cases k:q (t++[49])<;>simp_all<;>(repeat' split)<;>lia
  have d:∀p:pU->Bool,((t::l).filter p).length=(if p t=JQ then 1 else 0)+(l.filter p).length:=λp=>by
   rw[gF];split<;>simp<;>lia
  rw[d a,d b,d c];lia
def Lx(t:pU)(c:Nat):qP (t++[c])=(qP t).flatMap λp=>(QI c).map (2*p + ·):=by unfold qP;rw[m8];rfl
def KP{f:List D}{c:Nat}{g:Nat->Bool}(a:∀s,rC f (s++[c])=yL g s){t:pU}(h:qG f (t++[c])=JQ):Cw g t=JQ:=by unfold qG yE at h;simp only[be,gh,jX] at h;unfold Cw;simp only[be,gh,jX];refine⟨by rw[<- a];exact h.1,λk d=>?_⟩;have b:=bZ.mp d;have:=h.2 k (bZ.mpr (by rw[az];lia));unfold HB at this;rw[lL _ _ b,a,aV,aL b,<- aV,be] at this;exact this
def zj0(f:List D)(s:pU):rC f (s++[45])=yL (λp=>!yK (f.getD (2*p) .non) && !yK (f.getD (2*p+1) .non)) s:=by unfold rC yL;rw[Lx,kw];congr 1;funext p;show([2*p+0,2*p+1].all _)=_;simp
def zjU(f:List D)(s:pU):rC f (s++[48])=yL (λp=>!yK (f.getD (2*p) .non)) s:=by unfold rC yL;rw[Lx,kw];congr 1;funext p;show([2*p+0].all _)=_;simp
def zjV(f:List D)(s:pU):rC f (s++[49])=yL (λp=>!yK (f.getD (2*p+1) .non)) s:=by unfold rC yL;rw[Lx,kw];congr 1;funext p;show([2*p+1].all _)=_;simp
def D8{n:Nat}{f:List D}(d:Fn n f):(sI n f).length<=18:=by
 refine aM (zdY n f) ?_;rcases Bb d.n1 d.n4 with rfl|rfl|rfl|rfl
 ·exact aM (bz _ _) 'u'
 ·exact aM (bz _ _) 'u'
 ·have:=six λp=>!yK (f.getD p .non);exact aM (aM (ip rfl) this) 'u'
 ·have h:=PZ (Y1 3) λt _=>⟨KP (zj0 f),KP (zjU f),KP (zjV f)⟩;have a:=six λp=>!yK (f.getD (2*p) .non) && !yK (f.getD (2*p+1) .non);have b:=six λp=>!yK (f.getD (2*p) .non);have c:=six λp=>!yK (f.getD (2*p+1) .non);have e:Y1 4=(Y1 3).flatMap λt=>[t++[45],t++[48],t++[49]]:=rfl;rw[e];lia
def ziA:(allS.all λq=>(qP q.1).all λp=>(qP (q.1.set q.2 45)).contains p)=JQ:=by decide +kernel
def ziz:(pJ.all λq=>decide (qP (v8 q.1 q.2)=[q.2])&&decide (v8 q.1 q.2∈Y1 q.1))=JQ:=by decide +kernel
theorem Qk(j:Fn n f):∀(k:Nat)(t:pU),t∈Y1 n->rC f t=JQ->t.countP (· != 45)<=k->∃g∈Y1 n,rC f g=JQ/\yE f g=JQ/\∀p∈qP t,p∈qP g
 | k,t,ht,hg,hk=>by
  cases l:yE f t with
  |true=>exact⟨t,ht,hg,l,λ_ h=>h⟩
  | false=>
   unfold yE at l;rw[Bool.not_eq_false',ei] at l;obtain⟨i,e,m⟩:=l;have e:=bZ.mp e;unfold HB at m;rw[be] at m;have o:(t[i] !=45)=JQ:=by
    have:=m.1;rwa [aV,aw e] at this
   have q:=List.countP_set (p:=(· != 45)) (a:=45) e;have s:0<t.countP (· != 45):=List.countP_pos_iff.mpr ⟨t[i],cS e,o⟩;simp only[o,if_true,bne_self_eq_false,dL,if_false] at q
   match k,hk with
   |0,hk=>lia
   | k+1,hk=>
    obtain⟨g,a,b,c,d⟩:=Qk j k (t.set i 45) (Jk j.n1 j.n4 ht i) m.2 'd';refine⟨g,a,b,c,λp r=>d p ?_⟩;have:=aD.mp (aD.mp ziA (t,i) (Mb (vI j.n1 j.n4 ht) e)) p r;exact b9.mp this
def UP(a:Fn n f)(d:p∈sS f):qP (v8 n p)=[p]/\v8 n p∈Y1 n/\rC f (v8 n p)=JQ:=by obtain⟨b,c⟩:=pB.mp d;have:=aD.mp ziz (n,p) (LY a.n1 a.n4 (by rw[<- a.len];exact b));simp at this;refine⟨this.1,this.2,?_⟩;unfold rC;rw[this.1];have g:=BZ a (by rw[<- a.len];exact b);rcases g.1 with e|e|e<;>rw[e] at c<;>simp only[lV,List.all_nil,oC,e]<;>first|rfl|cases c
def Q7(a:Fn n f)(b:p∈sS f):∃t∈sI n f,p∈qP t:=by obtain⟨d,e,h⟩:=UP a b;obtain⟨g,i,j,k,l⟩:=Qk a _ _ e h (ay _);have c:=l p (by rw[d];simp);refine⟨g,bo.mpr ⟨bo.mpr ⟨i,j⟩,?_⟩,c⟩;unfold zM;rw[k,oC];exact ei.mpr ⟨p,c,(pB.mp b).2⟩
def Qn(b:Fn n f)(O:Ow):JE [.tup f,.int 1] O=.ok (.lst (rW (sS f))) O:=by
 have c:=D_ b.n4;have d:=b.len;have e:=Je (o:=JU) (ext:=2) (g:=.two 2 3) (it0:=Ir (a_ j_ d_)) (σ:=[q_ f,rz 1]) (ts:=[(qt (h_ (qd sv) qB n_))]) (te:=qC 2) (inj:=λ(p:Nat)=>D.tup [.int (p:Int),f.getD p .non])
  rfl (λi=>by
   rw[VS];show(Ax f)[i]?=_;rw[U2];by_cases a:i<f.length
   ·rw[JV a,aw a,aV,aw a];rfl
   ·rw[JW a,aY.mpr 'd'];rfl) (by
   show(Ax f).length=_;unfold Ax;simp) (by rw[cX];lia) (λk _=>rfl) (λp h=>Tn (ur (qi rfl rfl (JZ O (BZ b (by rw[<- d];exact bZ.mp h)).1)))) (λp _ _=>rfl)
 exact vF e
def iN(p:Nat):D:=.int (p:Nat)
def Xw:Inj iN:=⟨λO x l=>(Fk O x l).1,λO x l=>(Fk O x l).2⟩
def vo(n:Nat)(f:List D):DLC.Held Nat:=(sI n f).map λt=>(t,qP t)
def FC(n:Nat)(f:List D):DLC.keys (vo n f)=sI n f:=by unfold DLC.keys vo;rw[bJ];exact jC _
section
variable{n:Nat}{f:List D}(hf:Fn n f)
include hf
theorem IC:(DLC.keys (vo n f)).Nodup:=by rw[FC];exact KW (Ji hf)
theorem Qd(h:t∈sI n f):DLC.at_ (vo n f) t=qP t:=DLC.at_mem (IC hf) (aA.mpr ⟨t,h,rfl⟩)
theorem IP:DLC.Cov (vo n f) (sS f) S↔EO (sS f) (sI n f) S:=by
 constructor
 ·rintro⟨b,c⟩;have b:∀t∈S,t∈sI n f:=λt a=>by have:=b t a;rwa [FC] at this
  refine⟨b,λp d=>?_⟩;obtain⟨t,a,q⟩:=c p d;rw[Qd hf (b t a)] at q;exact⟨t,a,q⟩
 ·rintro⟨b,c⟩;refine⟨λt a=>by rw[FC];exact b t a,λp d=>?_⟩;obtain⟨t,a,q⟩:=c p d;exact⟨t,a,by rw[Qd hf (b t a)];exact q⟩
theorem Yu:DLC.cov 18 (vo n f) (sS f)≠[]:=by obtain⟨c,a,_⟩:=DLC.cov_some 18 (IC hf) ((IP hf).mpr ⟨λt b=>b,λp d=>Q7 hf d⟩) (D8 hf);intro e;rw[e] at a;cases a
theorem X6:Sz (vo n f) (sS f):=⟨IC hf,by unfold vo;rw[aI];exact D8 hf,aM (FA hf) 'u'⟩
theorem zhU(O:Ow):MP [.tup f] O=.ok (uC iN (vo n f)) O:=by
 have c:=zcB hf O;have j:=D8 hf;have d:=ze5 (ext:=1) (i:=1) (it0:=qA (k_ 1 Jh (a_ j_ d_))) (tk:=qC 1) (tv:=k_ 1 BF (a_ n_ d_)) (σ:=[q_ f]) (O0:=O) (O:=O) (l:=sI n f) (inj:=D.str) (key:=D.str) (kk:=dr) (uI ((K_ (p9 rfl) rfl).trans c)) 'd' (by
  refine iF.mpr ((KW (Ji hf)).imp ?_);intro a b h e;exact h (jx e)) (λ_=>rfl) (λ_ _=>rfl) (λ_ _=>rfl) (λt g=>(K_ (p9 rfl) rfl).trans (Ju (U_ hf t g) O))
 show fin (JF [q_ f] O)=_;unfold JF;have e:uC iN (vo n f)=.map ((sI n f).map dr) ((sI n f).map λt=>.lst (rW (qP t))):=by
  unfold uC;rw[FC];unfold vo;rw[bJ];rfl
 rw[e];unfold qr;rw[d];rfl
end
def HX(c:o_):tu c=((yH c:Nat):Int):=by
 unfold tu yH
 induction c with
 |nil=>rfl
 |cons t l ih=>rw[bQ,lW,ih,bQ,lW];unfold Ad;lia
def ZA{α:Type}[DecidableEq α]{h:DLC.Held α}{w:List α}{m:Nat}{c:o_}(e:c∈DLC.cov m h w):few h w m<=tu c:=by
 unfold few;cases f:DLC.cov m h w with
 |nil=>rw[f] at e;cases e
 | cons d l=>
  obtain⟨a,b⟩:=LB (l.map tu) (tu d);rw[f] at e;rcases ar.mp e with rfl|h
  ·exact a
  ·exact b _ (aA.mpr ⟨c,h,rfl⟩)
structure Xl(n:Nat)(f:List D)(l:o_):Prop where
 srt:l.Pairwise (· < ·)
 cov:EO (sS f) (sI n f) l
 few:l.length<=18
 zeV:XX (sS f) (sI n f) l.length (yH l)
def YY{n:Nat}{f:List D}(d:Fn n f):∃l,Xl n f l/\∀(Pt:Nat)(O:Ow),Pl O->Ee Pt [.tup f] O=.ok (.tup (l.map .str)) O:=by
 obtain⟨m,A,g,i⟩:=Yi Xw (X6 d) (λt e=>by rw[FC] at e;exact U_ d t e) (Yu d);cases j:zeV (vo n f) (sS f) m with
 |nil=>exact absurd j (ziv g.ne)
 | cons x r=>
  have B:x∈zeV (vo n f) (sS f) m:=by rw[j];exact av
  obtain⟨c,o,C,rfl⟩:=pD.mp B;obtain⟨J,E,F⟩:=DLC.cov_sound m (IC d) o;have s:=DLC.perm_of_sub E (λt e=>(zY c).mpr e) (TM c);have u:EO (sS f) (sI n f) (qX c):=by
   obtain⟨a,b⟩:=(IP d).mp F;exact⟨λt e=>a t ((zY c).mp e),λp h=>let ⟨t,e,q⟩:=b p h;⟨t,(zY c).mpr e,q⟩⟩
  have v:(qX c).length=m:=by rw[<- s.length_eq];exact g.len o
  refine⟨qX c,⟨Cq c,u,by lia,⟨⟨qX c,ziL c,u,rfl,rfl⟩,λS K w=>?_⟩⟩,λPt O G=>?_⟩
  ·have L:=g.le ((IP d).mpr w);rcases ku (qX c).length S.length with z|z
   ·exact .inl z
   ·right;have i:S.length=m:=by lia
    obtain⟨M,H,k⟩:=g.all ((IP d).mpr w) i;have I:=ZA H;rw[<- C,HX,HX] at I;rw[<- TV s,<- TV k];lia
  ·have y:JC Pt [.tup f] O=.ok (.lst ((zeV (vo n f) (sS f) m).map toT)) O:=by
    show fin (MY Pt [q_ f,YP (.tab Pt)] O)=_;exact vF (E6 rfl (qI (qy (p9 rfl) (zhU d O)) (qy (qI rfl rfl) (Qn d O))) (i Pt O G))
   rw[j] at y;show fin (MS Pt [q_ f,YP (.tab Pt)] O)=_;exact vF (qi (E6 rfl (p9 rfl) y) rfl (Bw 'k'))
def t7(a:tA σ O=.ok ds O1)(b:F ds O1=.ok d O2)(c:ds.length=n:=by rfl):k_ n (rG F) tA σ O=.ok d O2:=qy a (Ti b) c
def Um(a:Fn n f)(O:Ow):Jz [.tup f] O=.ok .non O:=by show fin (JB [q_ f] O)=_;unfold JB;rw[xF (vH (uL (t7 (p9 rfl) (VP a O))))];rfl
section
variable{n:Nat}{f:List D}(hf:Fn n f){l:o_}(ht:∀t∈l,t∈Y1 n)(hlen:l.length<64)(O:Ow)
include hf ht hlen
theorem ze4(p:Nat):M6 [.tup (l.map .str),.int (p:Nat)] O=.ok (.lst ((l.filter λt=>(qP t).contains p).map .str)) O:=by show fin (M5 [q_ (l.map .str),rz (p:Nat)] O)=_;exact vF ((vP (zV rfl) 'd' (λ_=>rfl) (λt h=>ur (qi rfl (qy (p9 rfl) (Ju (vI hf.n1 hf.n4 (ht t h)) O)) (Fk O p _).1)) (λ_ _ _=>rfl)).trans rfl)
def Wv(f:List D)(l:o_):Bool:=(sS f).all λp=>l.any λt=>(qP t).contains p
def Ep(f:List D)(l:o_):Bool:=l.all (rC f)&&Wv f l
theorem UH(c:FQ [.int (n:Nat),.tup (l.map .str)] O=.ok (.bl JQ) O):zZ [.tup f,.tup (l.map .str)] O=.ok (.bl (Ep f l)) O:=by
 have d:=FA hf;have a:=sD (p9 ((xE (o:=JU) (ext:=1) (i:=2) (σ:=[q_ f,q_ (l.map .str)]) (it0:=qA n_) (te:=k_ 2 (rG Eg) (a_ j_ (a_ qg d_))) (zV rfl) 'd' (λ_=>rfl) (λt h=>t7 (qI rfl rfl) (L6 hf (ht t h) O))).trans rfl)) (Cr O l (rC f));show fin (Jf [q_ f,q_ (l.map .str)] O)=_;unfold Jf Ep;refine uK (Lr (qy (p9 rfl) (Um hf O)) (vi (vH (uL (t7 (qI (t7 (p9 rfl) (MH hf O)) rfl) c))) ?_));cases b:l.all (rC f) with
 | false=>
  rw[b] at a;exact x_ (vH (uL a)) rfl
 | true=>
  rw[b] at a;refine vi (vH (uL a)) (uJ (sD (p9 ((xE (uI (t7 (qI rfl rfl) (Qn hf O))) 'd' (λ_=>rfl) (λp e=>?_)).trans rfl)) (Cr O (sS f) λp=>l.any λt=>(qP t).contains p)));refine(qi (t7 (qI rfl rfl) (ze4 hf ht hlen O p)) rfl (LZ O λt h=>vI hf.n1 hf.n4 (ht t (bo.mp h).1)).2).trans ?_;rw[BC,iA];simp
end
def CL:D->Bool
 |.str _=>JQ
 |_=>JU
def pj:o_:=oZ++[[48,48,48,48,48],[],[50],[50,50],[50,50,50],[50,50,50,50]]
def o7:List D:=pj.map D.str++[.non,.int 0,.tup [.str [48]]]
def Zl:o7.all (pl 7)=JQ:=by decide +kernel
def Z8:(pj.all λw=>w.all (λc=>A7.contains c)&&decide (w.length<=10))=JQ:=by decide +kernel
def Tr(h:d∈o7):(∃w∈pj,d=.str w)\/((CL d=JU/\∀n,yz n d=JU)/\(d=.non\/d=.int 0\/d=.tup [.str [48]])):=by
 rcases aP.mp h with h|h
 ·obtain⟨w,a,rfl⟩:=aA.mp h;exact .inl ⟨w,a,rfl⟩
 ·right;simp at h;exact⟨by rcases h with rfl|rfl|rfl<;>exact⟨rfl,λ_=>rfl⟩,h⟩
def QK(h:d∈o7):OR d:=by
 rcases aP.mp h with h|h
 ·obtain⟨w,a,rfl⟩:=aA.mp h;have:=aD.mp Z8 w a;rw[be] at this;exact .inl ⟨w,rfl,λc b=>by simpa using aD.mp this.1 c b,of_decide_eq_true this.2⟩
 ·simp at h;rcases h with rfl|rfl|rfl
  ·exact .inr (.inr (.inl rfl))
  ·exact .inr (.inr (.inr (.inl rfl)))
  ·exact .inr (.inl ⟨_,rfl⟩)
def nS:List (Nat×pU):=[1,2,3,4].flatMap λn=>pj.map λw=>(n,w)
def ZZ(O:Ow)(a b c:Option D):(nS.map λq=>JM [a,b,rz (q.1:Nat),c,su q.2] O)=nS.map λq=>R.ok (!yz q.1 (.str q.2)) O:=by kernel_rfl
def YW(d:1<=n)(e:n<=4)(f:w∈pj)(O:Ow)(a b c:Option D):JM [a,b,rz (n:Nat),c,su w] O=.ok (!yz n (.str w)) O:=
 cK.mp (ZZ O a b c) (n,w) (fX.mpr ⟨n,by rcases Bb d e with rfl|rfl|rfl|rfl<;>simp,aA.mpr ⟨w,f,rfl⟩⟩)
def z6o(l:o_)(p:Nat):(l.flatMap qP).contains p=l.any λt=>(qP t).contains p:=by
 rw[eM,b9,fX,ei];constructor
 ·rintro⟨t,a,b⟩;exact⟨t,a,b9.mpr b⟩
 ·rintro⟨t,a,b⟩;exact⟨t,a,b9.mp b⟩
def zeQ{l:o_}(h:∀t∈l,t∈oZ):(l.flatMap qP).length<=16*l.length:=by
 induction l with
 |nil=>exact ay _
 | cons t l ih=>
  rw[fJ,az,bt];have b:=ih λx a=>h x (al _ a);have c:=DY (h t av);lia
section
variable{n:Nat}{f:List D}(hf:Fn n f){O:Ow}(hO:Pl O)
include hf hO
theorem z8a{ds:List D}(z:∀d∈ds,d∈o7)(R:ds.length<64):Jw [.tup f,.tup ds] O=.ok (.bl (zj n ds&&Ep f (ds.map yB))) O:=by
 have G:=hf.n1;have q:=hf.n4;have H:∀{x:List D},(∀d∈x,d∈ds)->x.all (pl 7)=JQ:=λ{x}h=>aD.mpr λd B=>aD.mp Zl d (z d (h d B));let A:Option D:=q_ f;let T:Option D:=q_ ds;let N:Option D:=rz (n:Nat);have r:(xD (tO (rK (tY "tuple" n_))) (qt (h_ (qd rM) (qp JU 0 (qA n_) (.one 4) [(tO (rK (tY "str" qE)))] [] qE) uU))) [A,T,JL,JL,JL] O=.ok (!(ds.filter λd=>!CL d).isEmpty) O:=
  LH (vH (b:=JQ) (uL rfl)) λ_=>ur (qi ((vP (p:=λd=>!CL d) (by rw[gC];exact zV rfl) 'd' (λ_=>rfl) (λd h=>vH (uL (by
   rcases Tr (z d h) with⟨w,_,rfl⟩|⟨_,rfl|rfl|rfl⟩<;>rfl))) (λ_ _ _=>rfl)).trans (by rw[gC];rfl)) rfl (HW O (H λd h=>(bo.mp h).1)).2)
 show fin (VQ [A,T,JL,JL,JL] O)=_;cases m:(ds.filter λd=>!CL d).isEmpty with
 | false=>
  rw[m] at r;have:zj n ds=JU:=by
   unfold zj;have:ds.all (yz n)=JU:=by
    cases C:ds.all (yz n) with
    |false=>rfl
    | true=>
     have:(ds.filter λd=>!CL d)=[]:=kT.mpr λd s=>by
      have:=aD.mp C d s;cases d with
      |str w=>simp[CL]
      |_=>cases this
     rw[this] at m;cases m
   rw[this];rfl
  rw[this];exact uK (x_ r rfl)
 | true=>
  rw[m] at r;have S:∀d∈ds,∃w∈pj,d=.str w:=λd s=>by
   rcases Tr (z d s) with h|⟨⟨e,_⟩,_⟩
   ·exact h
   ·have u:d∈ds.filter λd=>!CL d:=bo.mpr ⟨s,by rw[e];rfl⟩;rw[nJ.mp m] at u;cases u
  have I:(qt (h_ (qd rM) (qp JU 0 (qA n_) (.one 4) [JM] [] qE) uU)) [A,T,N,JL,JL] O=.ok (!(ds.filter λd=>!yz n d).isEmpty) O:=
   ur (qi ((vP (p:=λd=>!yz n d) (by rw[gC];exact zV rfl) 'd' (λ_=>rfl) (λd h=>by
    obtain⟨w,U,rfl⟩:=S d h;exact YW G q U O A T JL) (λ_ _ _=>rfl)).trans (by rw[gC];rfl)) rfl (HW O (H λd h=>(bo.mp h).1)).2)
  refine uK (vi r (rR (qy (p9 rfl) (Jy hf O)) ?_));cases o:ds.all (yz n) with
  | false=>
   have:zj n ds=JU:=by unfold zj;rw[o];rfl
   rw[this];refine x_ (I.trans ?_) rfl;rw[BC];simp only[mJ];rw[o];rfl
  | true=>
   obtain⟨e,J⟩:=Mn o;have E:zj n ds=Bd (ds.map yB):=by unfold zj;rw[o];rfl
   have V:(ds.map yB).length<64:=by rw[aI];exact R
   rw[E];refine vi (I.trans (by
    rw[BC];simp only[mJ];rw[o];rfl)) ?_
   generalize ds.map yB=l at *;subst e;have c:∀t∈l,t∈oZ:=λt h=>vI G q (J t h);have v:(qt (h_ (qd rM) (pW (B_ JU) (a_ n_ d_)) (Ay JU (a_ n_ d_)))) [A,T,N,JL,JL] O=.ok (!Bd l) O:=
    ur (qi (sD (p9 rfl) rfl) (Ss (p9 rfl) (.inr rfl) 'd') ((Lg O (Ly c) (Ly λW X=>c W ((zY _).mp X)) (by
     rw[zh2];constructor
     ·intro h;exact congrArg (List.map D.str) h
     ·intro h;exact(List.map_inj_right λa b h=>by injection h).mp h)).2))
   cases K:Bd l with
   |false=>rw[K] at v;exact x_ v rfl
   | true=>
    rw[K] at v;have g:(qt (h_ (qd rM) (qp JU 0 (qA n_) (.one 4) [(tO (rK (k_ 2 Ac (a_ j_ (a_ qE d_)))))] [] qE) uU)) [A,T,N,JL,JL] O=.ok (!(l.filter λt=>!rC f t).isEmpty) O:=
     ur (qi ((vP (zV rfl) 'd' (λ_=>rfl) (λt h=>vH (uL (qy (qI rfl rfl) (Js hf (J t h) hO)))) (λ_ _ _=>rfl)).trans rfl) rfl (LZ O λt h=>c t (bo.mp h).1).2)
    rw[BC] at g;simp at g;unfold Ep;refine vi v ?_;cases L:l.all (rC f) with
    |false=>rw[L] at g;exact x_ g rfl
    | true=>
     rw[L] at g;have r_:=FA hf;obtain⟨Y,j,M,y,rfl,rfl⟩:=Ck (i:=4) (it:=qA n_) (body:=qo 3 (h_ r8 qB (k_ 1 z_ (a_ qE d_)))) (zV rfl) (λk P j=>∃y,P=[A,T,N,rq (rW ((l.take k).flatMap qP)),y]/\j=O) (λk t P j F Z=>by
      obtain⟨y,rfl,rfl⟩:=Z;have hkl:=(am.mp F).1;have Q:=aO F;have e5:l.take (k+1)=l.take k++[t]:=by rw[gu,F];rfl
      refine⟨_,_,IG (qi rfl (qy (p9 rfl) (JG (c t Q) hO)) ?_),su t,rfl,rfl⟩;have u:=zeQ (l:=l.take k) λx C=>c x (cn C);have h6:=DY (c t Q);rw[bI] at u;rw[e5,List.flatMap_append];have h3:([t].flatMap qP)=qP t:=by simp
      rw[h3];have q:rW ((l.take k).flatMap qP++qP t)=rW ((l.take k).flatMap qP)++rW (qP t):=by unfold rW;rw[dI]
      rw[q];show(if _ then _ else _)=_;rw[JV (by unfold rW;rw[aI,aI];lia)]) ⟨JL,rfl,rfl⟩
     rw[gH] at M;refine vi g (rR rfl (yD M (uJ ?_)));refine(qi ((vP (uI (qy (p9 rfl) (RV hf j))) 'd' (λ_=>rfl) (λp _=>ur (qi rfl rfl (Fk j p _).2)) (λ_ _ _=>rfl)).trans rfl) rfl (L7 j _).1).trans ?_;congr 2;rw[BC];simp only[mJ,Bool.true_and];congr 1;funext p;exact z6o l p
end
def Ask(d:D):Prop:=(∃ds,d=.tup ds/\(∀x∈ds,x∈o7)/\ds.length<64)\/(∃xs,d=.lst xs)\/d=.non\/d=.dct\/d=.int 0 \/ ∃w,d=.str w
def z89(c:Fn n f)(h:Ask d)(p:Pl O):∃b,zZ [.tup f,d] O=.ok (.bl b) O/\Jw [.tup f,d] O=.ok (.bl b) O:=by
 have k:∀d,FQ [.int (n:Nat),d] O=.ok (.bl JU) O->zZ [.tup f,d] O=.ok (.bl JU) O:=λd a=>by
  show fin (Jf [q_ f,YP d] O)=_;exact uK (Lr (qy (p9 rfl) (Um c O)) (x_ (vH (uL (t7 (qI (t7 (p9 rfl) (MH c O)) rfl) a))) rfl))
 rcases h with⟨l,rfl,m,i⟩|⟨t,rfl⟩|rfl|rfl|rfl|⟨w,rfl⟩
 ·have a:=VF (n:=n) (λd h=>QK (m d h)) i O;have g:=z8a c p m i;cases j:zj n l with
  |false=>rw[j] at a g;exact⟨JU,k _ a,g⟩
  | true=>
   rw[j] at a g;have q:=(gK.mp j).1;obtain⟨e,r⟩:=Mn q;have s:(l.map yB).length<64:=by rw[aI];exact i
   rw[e] at a;have o:=UH c r s O a;rw[<- e] at o;exact⟨_,o,g⟩
 all_goals exact⟨JU,k _ rfl,rfl⟩
def E7{w:pU}(h:w∈pj):D.str w∈o7:=aP.mpr (.inl (aA.mpr ⟨w,h,rfl⟩))
def LX{n:Nat}(a:1<=n)(b:n<=4){w:pU}(h:w∈Y1 n):D.str w∈o7:=E7 (aP.mpr (.inl (vI a b h)))
def Me{n:Nat}(a:1<=n)(b:n<=4){l:o_}(h:∀t∈l,t∈Y1 n):∀d∈l.map D.str,d∈o7:=λd c=>by
 obtain⟨w,e,rfl⟩:=aA.mp c;exact LX a b (h w e)
def zi5:([1,2,3,4].all λn=>pj.contains (aB n 45)&&pj.contains (aB (n+1) 48)&&pj.contains (aB n 50))=JQ:=by decide +kernel
section
variable{n m:Nat}{f:List D}(hf:Fn n f){l:o_}(rE:∀t∈l,t∈Y1 n)(hlen:l.length<=24){O:Ow}{s:Int}{b:Bool}
include hf rE hlen
theorem SK(J:o4 O m s b):∃d s',Ed [.own m,.tup f,.tup (l.map .str)] O=.ok d (O.set m [.int s',.bl b])/\o4 (O.set m [.int s',.bl b]) m s' b/\Ask d:=by
 have p:=hf.n1;have v:=hf.n4;let A:Option D:=uz m;let F:Option D:=q_ f;let L:Option D:=q_ (l.map .str);let N:Option D:=rz (n:Nat);have C:(l.map D.str).length=l.length:=aI _;obtain⟨r,s1,r1,r2,r3⟩:=zW J (k:=l.length+1) 'd' 'd';let W:Option D:=rz (r:Nat);obtain⟨c1,s2,a1,X,Y⟩:=IJ r3 p v;rw[cF] at X Y;obtain⟨c2,s3,b1,Z,b3⟩:=IJ Y p v;rw[cF] at Z b3;obtain⟨j,s4,j1,j2,j3⟩:=zW b3 (k:=9) 'u' 'u';rw[cF] at j2 j3;obtain⟨q,s5,q1,q2,q3⟩:=zW j3 (k:=11) 'u' 'u';rw[cF] at q2 q3;generalize hO3:O.set m [.int s4,.bl b]=g at *;let E:List D:=[.str c1,.str c2,.str (aB n 45),.str (aB (n+1) 48),.str [],.non,.int 0,.str (aB n 50),.tup [.str [48]]];have hj:=j1;have Gz:∀d∈E,d∈o7:=λd e=>by
  have G:=aD.mp zi5 n (by rcases Bb p v with rfl|rfl|rfl|rfl<;>simp);simp only[be,b9] at G;simp only[E,ar,bL,or_false] at e;rcases e with rfl|rfl|rfl|rfl|rfl|rfl|rfl|rfl|rfl
  ·exact LX p v a1
  ·exact LX p v b1
  ·exact E7 G.1.1
  ·exact E7 G.1.2
  ·exact E7 'c'
  ·simp[o7]
  ·simp[o7]
  ·exact E7 G.2
  ·simp[o7]
 generalize hx:E[j]=x at *;have K:x∈o7:=by rw[<- hx];exact Gz _ (cS hj)
 let st (z:Option D):Sg:=[A,F,L,N,W,YP x,z];have e5:sH (a_ (k_ 2 y0 (a_ j_ (a_ qB d_))) (a_ (k_ 2 y0 (a_ j_ (a_ qB d_))) (a_ (h_ yV yS qB) (a_ (h_ yV (dC (.str [48])) (h_ tJ qB qO)) (a_ Bg (a_ yQ (a_ sk (a_ (h_ yV (dC (.str [50])) qB) (a_ (uE (a_ (dC (.str [48])) d_)) d_))))))))) [A,F,L,N,W,JL,JL] (O.set m [.int s1,.bl b])=.ok (.lst E) (O.set m [.int s3,.bl b]):=
  Fe (uu (qy (qI rfl rfl) X) (uu (qy (qI rfl rfl) Z) (uu (qi rfl rfl (Iw 'd')) (uu (qi rfl (qi (x:=.int (n:Nat)) rfl rfl (show _=R.ok (.int ((n+1:Nat):Int)) _ from rfl)) (Iw 'd')) (uu (t:=dC (.str [])) rfl (uu rfl (uu (t:=dC (.int 0)) rfl (qI (qi rfl rfl (Iw 'd')) (Rx (p9 rfl) (by show 1<=4000000;decide)))))))))) (by show 9<=4000000;decide)
 obtain⟨x1,Xc,H⟩:=Bp (σ:=st JL) (te:=qC 2) (tl:=tI) (th:=sN qE) (ds:=l.map .str) (hi:=YP (r:Int)) rfl rfl rfl;obtain⟨x2,Hf,M⟩:=Bp (σ:=st JL) (te:=qC 2) (tl:=sN qE) (th:=tI) (ds:=l.map .str) (lo:=YP (r:Int)) rfl rfl rfl;obtain⟨x3,P,CD⟩:=Bp (σ:=st JL) (te:=qC 2) (tl:=sN (h_ tJ qE qO)) (th:=tI) (ds:=l.map .str) (lo:=YP ((r:Int)+1)) rfl rfl rfl;obtain⟨x4,He,Q⟩:=Bp (σ:=st JL) (te:=qC 2) (tl:=sN qE) (th:=sN (h_ tJ qE qO)) (ds:=l.map .str) (lo:=YP (r:Int)) (hi:=YP ((r:Int)+1)) rfl rfl rfl;have n1:=H.len;have n2:=M.len;have n3:=CD.len;have n4:=Q.len;have k1:=H.cut;have k2:=M.cut;have k4:=Q.cut;rw[HT.sIx_none,HT.sIx_nat,C] at k1 k2;rw[show((r:Int)+1)=((r+1:Nat):Int) by lia,HT.sIx_nat,HT.sIx_nat,C] at k4;have i0:=qi Xc P (Be g 'd');have i1:=qi (qi Xc He (Be g 'd')) Hf (Be g (by simp;lia));have i2:HZ qg (sN (HU qO)) (st JL) g=.ok (.tup (l.map D.str).reverse) g:=rfl;let i:List D:=[.tup (x1++x3),.tup (x1++x4++x2),.tup (l.map D.str).reverse,.lst (l.map .str),.non,.dct];have f1:=Fe (uu i0 (uu i1 (uu i2 (uu (t:=pW (B_ JU) (a_ qg d_)) (x:=.lst (l.map .str)) (sD (p9 rfl) rfl) (qI (t:=dC .non) (u:=HI) rfl rfl))))) (by show 6<=4000000;decide);obtain⟨y1,Xb,I⟩:=Bp (σ:=st (rq i)) (te:=qC 2) (tl:=tI) (th:=sN qE) (hi:=YP (r:Int)) rfl rfl rfl;obtain⟨y2,S,T⟩:=Bp (σ:=st (rq i)) (te:=qC 2) (tl:=sN qE) (th:=tI) (lo:=YP (r:Int)) rfl rfl rfl;obtain⟨y3,U,Wf⟩:=Bp (σ:=st (rq i)) (te:=qC 2) (tl:=sN (h_ tJ qE qO)) (th:=tI) (lo:=YP ((r:Int)+1)) rfl rfl rfl;obtain⟨y4,V,We⟩:=Bp (σ:=st (rq i)) (te:=qC 2) (tl:=sN qO) (th:=tI) rfl rfl rfl;have m1:=I.len;have m2:=T.len;have m3:=Wf.len;have m4:=We.len;have p1:=I.cut;have p2:=T.cut;rw[HT.sIx_none,HT.sIx_nat,C] at p1 p2;have eX:uE (a_ uc d_) (st (rq i)) g=.ok (.tup [x]) g:=Rx (p9 rfl) (by show 1<=4000000;decide);have w0:=qi (qi Xb eX (Be g (by simp;lia))) U (Be g (by simp;lia));have w1:=qi (qi Xb eX (Be g (by simp;lia))) S (Be g (by simp;lia));let B:List D:=[.tup (y1++[x]++y3),.tup (y1++[x]++y2),.str (aB n 45),.int 0,.tup y4];have f2:=qi (t:=qC 6) (σ:=st (rq i)) rfl (Fe (uu w0 (uu w1 (uu (qi (t:=dC (.str [45])) (u:=qC 3) (y:=.int (n:Nat)) rfl rfl (Iw 'd')) (qI (t:=dC (.int 0)) rfl V)))) (by show 5<=4000000;decide)) (XY g (by show 6+5<=4000000;decide));have hq:q<(i++B).length:=q1;have o:∀{a:List D}{lo hi:Option Int},Sub (l.map .str) a lo hi->∀d∈a,d∈o7:=λJ d e=>Me p v rE d (J.mem d e);have w:∀{a c:List D},(∀d∈a,d∈o7)->(∀d∈c,d∈o7)->∀d∈a++c,d∈o7:=λha hc d e=>by
  rcases aP.mp e with h|h
  ·exact ha d h
  ·exact hc d h
 have Gx:∀d∈[x],d∈o7:=λd e=>by
  have:d=x:=⇑e
  rw[this];exact K
 have sG:∀d∈i++B,Ask d:=λd e=>by
  simp only[i,B,i3,fu,ar,bL,or_false] at e;rcases e with rfl|rfl|rfl|rfl|rfl|rfl|rfl|rfl|rfl|rfl|rfl
  ·exact .inl ⟨_,rfl,w (o H) (o CD),by rw[az];lia⟩
  ·exact .inl ⟨_,rfl,w (w (o H) (o Q)) (o M),by rw[az,az];lia⟩
  ·exact .inl ⟨_,rfl,λd e=>Me p v rE d (fU.mp e),by simp;lia⟩
  ·exact .inr (.inl ⟨_,rfl⟩)
  ·exact .inr (.inr (.inl rfl))
  ·exact .inr (.inr (.inr (.inl rfl)))
  ·exact .inl ⟨_,rfl,w (w (o I) Gx) (o Wf),by rw[az,az,eH];lia⟩
  ·exact .inl ⟨_,rfl,w (w (o I) Gx) (o T),by rw[az,az,eH];lia⟩
  ·exact .inr (.inr (.inr (.inr (.inr ⟨_,rfl⟩))))
  ·exact .inr (.inr (.inr (.inr (.inl rfl))))
  ·exact .inl ⟨_,rfl,o We,by lia⟩
 refine⟨(i++B)[q],s5,?_,q3,sG _ (cS hq)⟩;show fin (MD [A,F,L,JL,JL,JL,JL] O)=_;unfold MD;refine uK (rR (x:=.int (n:Nat)) (qy (p9 rfl) (Jy hf O)) (rR (x:=.int (r:Nat)) (qy (qI rfl (qi (sD (p9 rfl) (Ua O _)) rfl (by rw[C];rfl))) r2) (rR e5 (rR (qi rfl (qy (qI rfl rfl) j2) (by rw[Bw hj,hx])) (rR f1 (rR (x:=.lst (i++B)) f2 (uJ ?_)))))));exact qi (x:=.lst (i++B)) rfl (qy (qI rfl rfl) q2) (Bw hq)
end
def zau{l:o_}(h:l.Pairwise (· < ·))(a:l.length<=1000)(O:Ow):yW O [.lst (l.map .str)]=.ok (.lst (l.map .str)) O:=by show(match vB (l.map D.str) with|some ss=>(if ss.Nodup/\ss.length<=1000 then R.ok (D.lst ((qX ss).map .str)) O else .bad)|none=>.bad)=_;rw[strL_map];show(if l.Nodup/\l.length<=1000 then R.ok (D.lst ((qX l).map .str)) O else .bad)=_;rw[JV ⟨KW h,a⟩,UK h]
def ze7(O:Ow)(i:Int):FL [.int i,.int i] O=.ok (.bl JQ) O:=by show fin (Va _ [rz i,rz i] O)=_;exact uK (vi (uL rfl) (uJ ((LG (a:=JQ) (qi rfl rfl ((Xa O i i).trans 'k')) λ_=>rfl).trans rfl)))
def ZY(O:Ow)(x:Option D):(oZ.map λcs=>Wa [x,su cs] O)=oZ.map λcs=>R.ok (.int (sg cs:Nat)) O:=by kernel_rfl
def zde(h:∀t∈l,t∈oZ)(c:l.length<=1000)(O:Ow):ML [.tup (l.map .str)] O=.ok (.int (yH l:Nat)) O:=by
 have a:=xE (o:=JU) (ext:=1) (i:=1) (it0:=qA j_) (σ:=[q_ (l.map .str)]) (zV rfl) 'd' (λ_=>rfl) (λt b=>cK.mp (ZY O _) t (h t b));show fin (MW [q_ (l.map .str)] O)=_;refine vF (sD (p9 a) ?_);show(match yY (l.map λt=>D.int (Ad t)) with|some ns=>R.ok (D.int ns.sum) O|none=>.bad)=_;have:(l.map λt=>D.int (Ad t))=(l.map Ad).map D.int:=by rw[bJ];rfl
 rw[this,Jn];show R.ok (D.int (tu l)) O=_;rw[HX]
def zaF(h:∀t∈l,t∈oZ)(a:l.length<=1000)(O:Ow):y_ [.tup (l.map .str)] O=.ok (.int (yH l:Nat)) O:=(RL h a O).trans (by rw[HX])
structure Ff(n:Nat)(f:List D)(l:o_):Prop where
 srt:l.Pairwise (· < ·)
 inn:∀t∈l,t∈Y1 n
 good:∀t∈l,rC f t=JQ
 cov:∀p∈sS f,∃t∈l,p∈qP t
 few:l.length<=24
section
variable{n:Nat}{f:List D}(hf:Fn n f)
include hf
theorem zhn(h:Ff n f l)(O:Ow):zZ [.tup f,.tup (l.map .str)] O=.ok (.bl JQ) O:=by
 have b:=hf.n1;have c:=hf.n4;have e:(l.map D.str).map yB=l:=by rw[bJ];exact jC _
 have g:zj n (l.map .str)=JQ:=by
  unfold zj;rw[be,e,SE];refine⟨aD.mpr λd i=>?_,h.srt⟩;obtain⟨t,a,rfl⟩:=aA.mp i;show(t.length==n&&t.all sgn)=JQ;rw[be,Ml b c (h.inn t a)];exact⟨by simp,aD.mpr (UY b c (h.inn t a))⟩
 have o:=h.few;have j:=VF (n:=n) (λd i=>QK (Me b c h.inn d i)) (by rw[aI];lia) O;rw[g] at j;rw[UH hf h.inn 'd' O j];have:Ep f l=JQ:=by
  unfold Ep Wv;rw[be,aD,aD];refine⟨h.good,λp k=>ei.mpr ?_⟩;obtain⟨t,a,m⟩:=h.cov p k;exact⟨t,a,b9.mpr m⟩
 rw[this]
theorem Vq(a:p∈sS f):∃t∈sI n f,p∈qP t:=Q7 hf a
theorem US(b:l.Pairwise (· < ·))(hi:∀t∈l,t∈sI n f)(c:∀p∈sS f,∃t∈l,p∈qP t)(d:l.length<=18):Ff n f l:=
 ⟨b,λt a=>(D6 (bo.mp (hi t a)).1).1,λt a=>(D6 (bo.mp (hi t a)).1).2,c,by lia⟩
theorem zew:Ff n f (sI n f):=US hf (Ji hf) (λ_ h=>h) (λp a=>Vq hf a) (D8 hf)
theorem zeR(h:Xl n f l):Ff n f l:=US hf h.srt h.cov.1 h.cov.2 h.few
omit hf in
theorem zel:([1,2,3,4].all λn=>decide (((bE (2 ^ n)).map (v8 n)).Pairwise (· < ·)))=JQ:=by decide +kernel
theorem zah:Ff n f ((sS f).map (v8 n)):=by
 have d:=hf.n1;have e:=hf.n4;have b:∀p∈sS f,_:=λp a=>UP hf a;refine⟨?_,λt c=>?_,λt c=>?_,λp a=>⟨v8 n p,aA.mpr ⟨p,a,rfl⟩,by rw[(b p a).1];simp⟩,by rw[aI];have:=FA hf;lia⟩
 ·have:=of_decide_eq_true (aD.mp zel n (by rcases Bb d e with rfl|rfl|rfl|rfl<;>simp));unfold sS;rw[hf.len];exact this.sublist (fY.map _)
 ·obtain⟨p,a,rfl⟩:=aA.mp c;exact(b p a).2.1
 ·obtain⟨p,a,rfl⟩:=aA.mp c;exact(b p a).2.2
theorem zgI(d:∀t∈l,t∈Y1 n/\rC f t=JQ)(j:l.length<=4):Ff n f (qX (sI n f++l)):=by
 have e:=D8 hf;have b:=TM (sI n f++l);rw[az] at b;have c:∀t∈qX (sI n f++l),t∈Y1 n/\rC f t=JQ:=λt a=>by
  rcases aP.mp ((zY _).mp a) with h|h
  ·exact D6 (bo.mp h).1
  ·exact d t h
 refine⟨Cq _,λt a=>(c t a).1,λt a=>(c t a).2,λp g=>?_,by lia⟩;obtain⟨t,a,i⟩:=Vq hf g;exact⟨t,(zY _).mpr (aP.mpr (.inl a)),i⟩
end
def zj2(h:t σ O=.ok (.bl JQ) O):qt (h_ DB t ER) σ O=.ok JU O:=ur (qi h rfl rfl)
def N8:List D:=[.non,.int 0,.tup [],.tup [.int 0],.tup [.int 0,.int 2],.lst [.int 0,.int 1],.tup [.int 0,.bl JQ],.str [48,49]]
def Yb(O:Ow):(N8.map λd=>zZ [d,.tup []] O)=N8.map λ_=>R.exc 0 O:=by kernel_rfl
def XH(l:o_)(a:Fn n f)(h:∀t∈l,t∈Y1 n):∀t∈l,t∈oZ:=λt b=>vI a.n1 a.n4 (h t b)
section
variable{n m:Nat}{f:List D}(hf:Fn n f){O:Ow}{s:Int}{b:Bool}(hA:Pl O)
include hf hA
theorem zeb(h:Ff n f l)(C:o4 (O.set m [.int s,.bl b]) m s b):
  ∃F s',K2 [A,B,uz m,q_ f,N,E,I,Fi,Fo,q_ (l.map .str),vU,xH,Tb,T2] (O.set m [.int s,.bl b])=.nx [A,B,uz m,q_ f,N,E,I,Fi,Fo,q_ (l.map .str),F,xH,Tb,T2] (O.set m [.int s',.bl b])/\o4 (O.set m [.int s',.bl b]) m s' b:=by
 have p:=h.few;let k:Option D->Sg:=λy=>[A,B,uz m,q_ f,N,E,I,Fi,Fo,q_ (l.map .str),y,xH,Tb,T2];obtain⟨q,T,r,t,G⟩:=SK hf h.inn p C;rw[cF] at r t;obtain⟨u,e,v,w,H⟩:=SK hf h.inn p t;rw[cF] at v w;have z:=XH l hf h.inn;have J:Pl (O.set m [.int e,.bl b]):=hA.set m e b;have K:∀d∈[q,u,.tup []],Ask d:=λd g=>by
  simp at g;rcases g with rfl|rfl|rfl
  ·exact G
  ·exact H
  ·exact .inl ⟨[],rfl,λx L=>(by cases L),by decide⟩
 obtain⟨M,o,P,y,rfl,rfl⟩:=Ck (i:=10) (body:=Qg) (it:=qA (sH (a_ (k_ 3 (rG Ed) (a_ qg (a_ qB Bj))) (a_ (k_ 3 (rG Ed) (a_ qg (a_ qB Bj))) (a_ (uE d_) d_))))) (l:=[q,u,.tup []]) (inj:=λd=>d) (σ:=k vU) (by
  rw[gC];exact uI (Fe (uu (t7 (uu rfl (qI rfl rfl)) r) (qI (t7 (uu rfl (qI rfl rfl)) v) rfl)) (by show 3<=4000000;decide))) (λ_ σ o=>∃y,σ=k y/\o=O.set m [.int e,.bl b]) (λj d σ o g Q=>by
   obtain⟨y,rfl,rfl⟩:=Q;obtain⟨c,R,S⟩:=z89 hf (K d (aO g)) J;refine⟨k (YP d),_,?_,YP d,rfl,rfl⟩;exact(xF (b:=JU) (vH (b:=JQ) (uL (t7 (qI (qy (qI rfl rfl) R) (t7 (qI rfl rfl) S)) (ziF _ _))))).trans rfl) ⟨vU,rfl,rfl⟩
 refine⟨y,e,?_,w⟩;unfold K2;refine vi (LH (a:=JU) (b:=JU) (zj2 (qy (qI rfl rfl) (zhn hf h _))) λ_=>vH (b:=JQ) (uL (t7 (qI (t7 (p9 rfl) (zaF z 'd' _)) (t7 (p9 rfl) (zde z 'd' _))) (ze7 _ _)))) P
end
def zdE{Pt C:Nat}{X:List Int}{k:Nat}{O:Ow}(hO:Pl O){y2 y3 y4 y5 Y T H w y G:Option D}:
  ∃z2 z3 z4 z5 z6 z7 z8 Z Ef V4 J,PL Pt C [rq (X.map .int),rz (k:Int),y2,y3,y4,y5,Y,T,H,w,y,G,YP (.tab Pt),YP (.tab C)] O=.nx [rq (X.map .int),rz (k:Int),z2,z3,z4,z5,z6,z7,z8,Z,Ef,V4,YP (.tab Pt),YP (.tab C)] J/\Pl J:=by
 let A:Option D:=rq (X.map .int);let B:Option D:=rz (k:Int);let K:Option D:=YP (.tab Pt);let L:Option D:=YP (.tab C);obtain⟨s,b,s1,s2⟩:=zeM O;have W5:=hO.one (Pw s b);generalize hm:O.length=m at *;generalize hO1:O++[[D.int s,D.bl b]]=O1 at *;obtain⟨n,f,t3,e,f1,f2⟩:=z8w W5 s2;have U:=W5.set m t3 b;generalize G4:O1.set m [D.int t3,D.bl b]=g at *;have h1:=e.n1;have h4:=e.n4;obtain⟨l,hl,hle⟩:=YY e;let S:Option D:=uz m;let F:Option D:=q_ f;let N:Option D:=rz (n:Nat);let E:Option D:=q_ ((sI n f).map .str);let I:Option D:=q_ (((sS f).map (v8 n)).map .str);obtain⟨vs,M,v1,v2,v3,v4⟩:=LA (o:=JU) (ext:=1) (i:=14) (te:=k_ 2 (rG y0) (a_ qg (a_ qE d_))) (σ:=[A,B,S,F,N,E,I,T,H,w,y,G,K,L]) (it0:=tD (a_ yr d_)) (P:=λv=>∃q,v=D.str q/\q∈Y1 n) f2
  (AI (p9 rfl) 'u') 'k' (λd hd s' AW=>by
   obtain⟨q,rD,r1,Q,V⟩:=IJ AW h1 h4;rw[cF] at Q V;exact⟨.str q,rD,t7 (qI rfl rfl) Q,V,q,rfl,r1⟩)
 obtain⟨q,rfl,vM⟩:=LO vs v4;rw[aI] at v3;have rO:q.length=4:=v3;have W4:=U.set m M b;have pl5:=W4;have fa:=W4;have h18:=D8 e;have Oh:(q.filter (rC f)).length<=4:=by have:=bz (rC f) q;lia
 let R:List o_:=[l,sI n f,(sS f).map (v8 n),qX (sI n f++q.filter (rC f))];have uZ:∀x∈R,Ff n f x:=λx W=>by
  simp only[R,ar,bL,or_false] at W;rcases W with rfl|rfl|rfl|rfl
  ·exact zeR e hl
  ·exact zew e
  ·exact zah e
  ·exact zgI e (λt ht=>⟨vM t (bo.mp ht).1,(bo.mp ht).2⟩) Oh
 let Fi:Option D:=rq ((q.filter (rC f)).map .str);let Fo:Option D:=rq (R.map λl=>.tup (l.map .str));have e5:pW vj (a_ (pW yW (a_ (k_ 1 (rG JA) (a_ qB d_)) d_)) d_) [A,B,S,F,N,y5,Y,T,H,w,y,G,K,L] g=.ok (.tup ((sI n f).map .str)) g:=
  sD (p9 (sD (p9 (t7 (p9 rfl) (z58 e U))) (zau (Ji e) 'd' g))) rfl
 have e6:pW vj (a_ (qp JU 1 (qA (k_ 1 (rG FK) (a_ qB d_))) (.one 14) [] [] (k_ 2 (rG Eb) (a_ qE (a_ (qC 14) d_)))) d_) [A,B,S,F,N,E,Y,T,H,w,y,G,K,L] g=.ok (.tup (((sS f).map (v8 n)).map .str)) g:=by
  have r_:=FA e;refine sD (p9 ((xE (uI (t7 (p9 rfl) (RV e g))) 'd' (λ_=>rfl) (λp hp=>t7 (qI rfl rfl) (cK.mp (Ue g) (n,p) (LY h1 h4 (by rw[<- e.len];exact(pB.mp hp).1))))).trans rfl)) ?_;rw[bJ];rfl
 have e7:qp JU 1 (qA (qC 7)) (.one 14) [(rK (k_ 2 (rG Ac) (a_ qB (a_ (qC 14) d_))))] [] (qC 14) [A,B,S,F,N,E,I,rq (q.map .str),H,w,y,G,K,L] (g.set m [.int M,.bl b])=.ok (.lst ((q.filter (rC f)).map .str)) (g.set m [.int M,.bl b]):=
  (vP (uI rfl) 'd' (λ_=>rfl) (λt h=>uL (t7 (qI rfl rfl) (Js e (vM t h) fa))) (λ_ _ _=>rfl)).trans rfl
 have e8:sH (a_ (uq C 13 1 (rG (Ee C)) (a_ qB d_)) (a_ uc (a_ (qC 6) (a_ (pW vj (a_ (Ay JU (a_ (h_ tJ uc (pW vj (a_ (qC 7) d_))) d_)) d_)) d_)))) [A,B,S,F,N,E,I,Fi,H,w,y,G,K,L] (g.set m [.int M,.bl b])=.ok (.lst (R.map λl=>.tup (l.map .str))) (g.set m [.int M,.bl b]):=
  Fe (uu (E6 rfl (p9 rfl) (Ti (hle C _ pl5))) (uu rfl (qI rfl (sD (p9 (Ss (p9 (qi rfl (sD (p9 rfl) rfl) (Be _ (by rw[aI,aI];lia)))) (.inr (by rw[dI])) (by rw[az];lia))) rfl)))) (by show 4<=4000000;decide)
 let st:Option D->Option D->Sg:=λw y=>[A,B,S,F,N,E,I,Fi,Fo,w,y,G,K,L];obtain⟨σ',J,l1,Z,Ef,u5,rfl,rfl,w2⟩:=Ck (i:=9) (it:=qA (qC 8)) (l:=R) (uI rfl) (λ_ σ J=>∃a c u,σ=st a c/\J=g.set m [.int u,.bl b]/\o4 (g.set m [.int u,.bl b]) m u b) (λj x σ J W hI=>by
  obtain⟨a,c,u,rfl,rfl,hu⟩:=hI;obtain⟨z,u',w1,w2⟩:=zeb e U (uZ x (aO W)) hu;exact⟨_,_,w1,_,_,u',rfl,rfl,w2⟩) ⟨w,y,M,rfl,rfl,v2⟩
 obtain⟨r,u6,r1,Q,V⟩:=zW w2 (k:=8) 'u' 'u';rw[cF] at Q V;have hr:=r1;have fl6:=U.set m u6 b;have b1:=cK.mp (Yb (g.set m [.int u6,.bl b])) N8[r] (cS hr);refine⟨S,F,N,E,I,Fi,Fo,Z,Ef,YP N8[r],_,?_,fl6⟩;refine rR (t7 (qI rfl rfl) s1) (rR (t7 (p9 rfl) f1) (rR (t7 (p9 rfl) (Jy e g)) (rR e5 (rR e6 (rR (v1.trans rfl) (rR e7 (rR e8 (yD l1 (rR (qi rfl (t7 (qI rfl rfl) Q) (Bw hr)) ?_)))))))));exact(xF (ur (qi (YM rfl (qy (qI rfl rfl) b1) (zdB _)) rfl (Xy _ 0)))).trans rfl
def pure_law(Pt q:Nat)(b:List Int)(u:b.length<=63):∃O,F_law Pt q [.lst (b.map .int)] []=.ok (.bl JQ) O:=by
 let A:Option D:=rq (b.map .int);let r:Option D:=YP (.tab Pt);let s:Option D:=YP (.tab q);let v:Sg:=[A,JL,JL,JL,JL,JL,JL,JL,JL,JL,JL,JL,r,s];obtain⟨m,w,x⟩:=zeO u v 6 'u' rfl;obtain⟨y,a,z,d,e,f,g,h,j,k,l,n,o,p,rfl,H⟩:=Ck (i:=1) (AI (p9 x) w) (λ_ t a=>∃d e f g h j k l n o p,t=[A,d,e,f,g,h,j,k,l,n,o,p,r,s]/\Pl a) (λ_ i t a _ B=>by
   obtain⟨d,e,f,g,h,j,k,l,n,o,p,rfl,C⟩:=B;obtain⟨I,J,K,L,M,N,P,Q,R,S,T,E,F⟩:=zdE C;exact⟨_,_,E,_,_,_,_,_,_,_,_,_,_,_,rfl,F⟩) ⟨JL,JL,JL,JL,JL,JL,JL,JL,JL,JL,JL,rfl,λc G=>by cases G⟩
 refine⟨a,?_⟩;exact uK (yD z rfl)
end K11
open PySem PySem.W PyProof.Rows
set_option maxRecDepth 100000 in
set_option maxHeartbeats 0 in
theorem PySem.Challenge.cw_leastterms_k11_forms_looked_at_holds : PySem.Challenge.rw_leastterms_k11_forms_looked_at.Holds := by
 w_on;refine mL K11.ws fun Ng=>?_;refine PySem.W.holds_openX (q:=K11.Qv) (loose:=K11.Lv) (N:=7240) (Xt:=K11.Xv) (XP:=PySem.W.XL K11.Qv []) (Yf:=(fun s=>(PySem.W.Hook.obs K11.Hk s,decide (0<s.toks)))) (Ya:=(fun w=>(PySem.W.Hook.val K11.Hk w,true))) K11.lw (fun s e=>PySem.W.xl_of s (gK.mp e).1) PySem.W.XL.keeps (by rfl) (by rfl) (by rfl) (fun s e=>PySem.W.recFacts_of (gK.mp e).2) (by rfl) (by first|assumption|decide +kernel) (by decide +kernel) ⟨rfl,rfl,rfl,rfl,rfl,by decide +kernel⟩ ?hw ?hc;(case hw=>w_witness2)
 delta K11.Hk;k_fill
 refine DL.walk2 (xd := "covers") (l:=cg) (k:=28) (x := "_law_script") (Cl:=K11.Cl) (F:=K11.F_law) rfl rfl ⟨rfl,by decide,by decide⟩ (PySem.W.Hook.of K11.Hk) (PySem.W.Hook.keeps K11.Hk) (fun w h Y=>PySem.W.km_in_of Y) ?R ?S ?F K11.pure_law
 case R=>first|rfl|kernel_rfl
 case S=>first|rfl|kernel_rfl
 case F=>
  intro w mg fa h KX G GD
  refine' K11.all_mk KX G GD ⟨'9','9','9','9','9','9','9','9','9','9','9','9','9','9','9','9','9','9','9','9','9','9','9','9','9','9','9','9','9','9','9','9','9','9','9','9','9','9','9','9','9','9','9','9','9','9','9','9',bD KX G ?_,bD KX G ?_,bD KX G ?_,bD KX G ?_,bD KX G ?_,bD KX G ?_,bD KX G ?_,bD KX G ?_,bD KX G ?_,bD KX G ?_,bD KX G ?_,bD KX G ?_,bD KX G ?_,bD KX G ?_,bD KX G ?_,bD KX G ?_,bD KX G ?_,bD KX G ?_,bD KX G ?_,K11.gs_mk KX G ?_,K11.gt_mk KX G ?_ ?_ ?_ ?_,cR KX G ?_,cR KX G ?_,cR KX G ?_,cR KX G ?_,cR KX G ?_,cR KX G ?_,cR KX G ?_,cR KX G ?_,cR KX G ?_,cR KX G ?_,?_,?_,?_,?_,?_,?_,?_,?_,?_,?_,?_,?_,?_,?_,?_,?_,?_,?_,?_,?_,?_,DL.xck_of ?_ ?_ ?_ ?_ ?_ ?_ ?_ ?_ ?_ ?_ ?_ ?_ ?_ ?_⟩ ?Ha ?Hl ?_ ?_ ?Ha2 ?Hl2 ?_ ?_ ?_ ?Gh6 ?Gh7 ?Gh4 ?Gh5 ?_
  (case' Ha|Hl|Ha2|Hl2|Gh4|Gh6=>k_is)
  (case Gh5=>rfl)
  (case Gh7=>rfl)
  all_goals first|k_is|kernel_rfl|rfl|skip
end
